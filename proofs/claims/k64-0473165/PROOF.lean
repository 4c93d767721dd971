import PyProof.Rows.All
import Wide.All
import OpenK.AllK
import Wide.FinOn
import Lean
import PyProof.EqAt
import PyProof.EqKinds
import PyProof.TupleCall
import PyProof.ZipIter
import PyProof.Draws
import PyProof.SumAny
import PyProof.EnumMake
import PyProof.WalkInts
import PyProof.ExcArgsOwn
import PyProof.ExcAttrAll.ValueError
import PyProof.NsDelKeeps
import KE.KTryMore
import OpenK.KOwn
import PyProof.ListMulRoad
import PyProof.FactsAll.tuple_2
import PyProof.NeKinds
import PyProof.Rows.RuleIs
import PyProof.ExcInit
import PyProof.ExcClass3
import OpenK.KCls
import PyProof.InstStoreFacts
import OpenK.KMake
import PyProof.DictRoads
import PyProof.Rows.CountFlat
import PyProof.ListRange
import PyProof.Rows.SetFrom
import PyProof.CollectStr
import PyProof.Rows.TupMore
import PyProof.AttrMissHeap
import KE.KDictOf
import PyProof.DictWalks
import KE.KSortTup
import PyProof.DictItemsLoops
import KE.KDictList
import PyProof.CallStr
import PyProof.StrWalks
import PyProof.StrOps
import PyProof.StrCalls2
import KE.KRevIter
import PyProof.Conv_int_bool
import PySem.Challenge.RW_lendwharf_k64_lists_looked_at
open Lean Parser Command in
local macro_rules|`(command|def $i:declId $s:optDeclSig $v:declVal)=>`(command|noncomputable def $i $s:optDeclSig $v:declVal)
open Lean Parser Command in
local macro_rules|`(command|abbrev $i:declId $s:optDeclSig $v:declVal)=>`(command|noncomputable abbrev $i $s:optDeclSig $v:declVal)
set_option Elab.async false
set_option linter.all false
set_option maxRecDepth 100000
set_option maxHeartbeats 4000000
open Option renaming some -> zo, none -> zl
open Bool renaming true -> zb, false -> yo
open PySem.Heap renaming get?_push_of_some -> O0, lt_size -> O9, get?_push_size -> D0, size_push -> F4, get?_update_other -> F6, get?_update_self -> G8
open List renaming length_map -> O1, getElem?_eq_some_iff -> O2, getElem?_eq_getElem -> O3, mem_cons_of_mem -> O4, length_append -> O6, size_toArray -> O7, getElem?_append_left -> O8, map_cons -> D3, length_cons -> D4, mem_cons -> D5, getElem?_append_right -> D6, getElem?_map -> D7, mem_append -> D9, getD_eq_getElem?_getD -> E3, map_append -> E4, getElem?_set_self -> E5, mem_of_getElem? -> E6, getElem?_set_ne -> E7, mem_append_right -> E8, all_eq_true -> E9, mem_map -> F1, length_range -> F2, mem_cons_self -> F3, foldl_cons -> F5, mem_append_left -> F8, map_map -> F9, getElem_of_mem -> G6, length_set -> G7, getElem?_eq_none -> G9, filterMap_cons -> L0, append_nil -> L1, pairwise_cons -> L4, length_take -> L6, replicate_succ -> L7, map_congr_left -> L8, length_reverse -> L9
open Nat renaming le_refl -> O5, lt_of_lt_of_le -> D1, ne_of_lt -> D8, le_trans -> E1, zero_le -> F7, lt_irrefl -> L3, ne_of_gt -> M0
open Bool renaming false_ne_true -> D2, and_eq_true -> E2, false_eq_true -> F0, false_and -> L5
open PySem renaming Value -> aA, Addr -> aB, Shared -> aC, wpAny_bind -> aD, wpAny -> aF, Expr -> aH, model -> aI, World -> aJ, Program -> aK, Around -> aL, Stmt -> aM, starEach -> aN, eval -> aO, FuncData -> aP, cLine -> aQ, Paired -> aR, rawInt -> aS, compareOp -> aU, mainGlobals -> aV, SetTable -> aW, bootBuiltins -> aX, wpAny_field -> aY, IsPair -> aZ, backTo -> ae, binaryOp -> af, pyNext -> ag, wpAny_call_entry -> ah, wpAny_holding -> ak, wpAny_newObj_type -> ao, cellsFrom -> aq, wpAny_seqItems -> ar, sysModules -> au, wpAny_mono -> av, holding -> aw, NameKind -> ay, assignEach -> az, wpAny_setField_rec -> bA, wpAny_typeOf -> bB, codeAny_builtin -> bC, wpAny_ite_split -> bD, wpAny_truthy_bool -> bE, plainId_quiet -> bF, foldedSetIterable -> bG, sliceBounds -> bH, call_meets -> bI, wpAny_rule -> bJ, wpAny_isInstance -> bK, wpAny_passesOwn -> bL, valueAt -> bM, wpAny_pyIter_tuple -> bN, behindInMarks -> bO, attributeBase -> bP, isSubtype_type -> bQ, codeAny_mono -> bR, raiseNew -> bS
open PySem.W renaming Frag -> bX, nsIn -> bg, fnOf -> br, mg_none_of -> bt, mg_of -> bx, kia_one -> cI, excIn -> cO, keepIn -> cb, codeIn -> cu, hideAll -> dh, hideAll_get -> di, instObj -> eX, methodObj -> eY, lookIn -> ee, kitOne -> ew, cellsFrom_some -> fB, OpenLaw -> fL, of_hideAll -> gB, hideAll_none -> gC, plainGet -> gE, findIn -> gF, kitx_list -> gG, kitx_dict -> gH, WalkO -> gU
open List renaming range -> bY, replicate -> ba, all_map -> bw, mem_range -> cA, all_cons -> cE, any_cons -> cF, toArray -> cH, getElem_mem -> cJ, length_nil -> cK, foldl -> cM, lookup_cons -> cN, reverse_cons -> cS, find?_cons -> cT, ext_getElem? -> cU, nodup_append -> cV, any_eq_true -> cX, mem_filter -> cZ, nodup_cons -> ce, length_drop -> cf, mem_flatMap -> cm, nodup_nil -> cx, any_eq_false -> cz, length -> dA, flatten_cons -> dB, filter_cons -> dH, not_mem_nil -> dJ, prefix_refl -> dL, any_map -> dN, mem_filterMap -> dO, append_assoc -> dS, forIn_cons -> dU, zip_cons_cons -> dj, zipIdx_cons -> dq, forIn_nil -> du, getD -> dw, take_of_length_le -> dy, pairwise_iff_getElem -> eC, pairwise_map -> eD, foldl_append -> eG, take_append_drop -> eJ, getElem?_cons_succ -> eK, take_length -> eM, prefix_append -> eN, drop_zero -> eO, set_append_right -> eR, length_flatMap -> eT, map_const' -> eU, sum_replicate_nat -> eV, eq_nil_of_length_eq_zero -> eW, of_mem_zip -> fA, filterMap_map -> fH, nil_append -> fI, range_succ_eq_map -> fN, getElem?_toArray -> fQ, mem_of_mem_drop -> fS, Pairwise -> fT, find? -> fV, find?_some -> fW, mem_of_find?_eq_some -> fX, getElem?_range -> fY, map_take -> fb, map_drop -> fc, drop_length -> fi, cons_lt_cons_iff -> fj, length_filter_le -> fk, length_zipIdx -> fm, map_reverse -> fo, ext_getElem -> fu, cons_append -> fw, getElem?_replicate -> gJ, getElem?_take_of_lt -> gK, take_sublist -> gL, map_nil -> gP, length_singleton -> gT, zipIdx_nil -> gW, isEmpty_toArray -> gc, isEmpty_iff -> gf, getElem?_reverse -> gm, pairwise_append -> gz, length_eq_zero_iff -> hJ, length_eraseIdx_of_lt -> hU, length_pos_of_mem -> iG, length_erase_of_mem -> iH, mem_erase_of_ne -> iI, mem_of_mem_take -> iJ, getElem?_take -> iK, getElem?_drop -> iL, perm_ext_iff_of_nodup -> iO, take_succ -> iS, getElem?_set -> iV, drop_eq_getElem_cons -> iX, map_id -> ie, find?_isSome -> ig, mem_zipIdx_iff_getElem? -> ii, map_inj_right -> ij, map_flatMap -> ik, flatMap_cons -> il, mem_reverse -> im
open PySem.Value renaming ref -> bZ, none -> bc, type -> bj, bool -> cq, int -> dZ, str -> da, builtin -> db, notImplemented -> fC, isInt -> fq, isStrOf -> ft, float -> fx
open Array renaming length_toList -> be, getElem?_toList -> bh, getElem?_eq_getElem -> bi, getElem?_eq_some_iff -> cG, getElem?_eq_none -> cg, getD_eq_getD_getElem? -> dG, getD -> dI, forIn_toList -> df, toList -> eZ, mem_toList_iff -> em, getElem?_replicate -> fZ, append_assoc -> gD, getElem?_setIfInBounds_ne -> gj, perm_iff_toList_perm -> gq, foldl_toList -> iN, filterMap -> iQ, toList_inj -> iT
open Option.some renaming inj -> bn
open PySem.Obj renaming mapSeq -> bo, mapFields -> cw, data_mapFields -> dC, putSet -> dY, isFreed_of_fields -> fM, cls_mapFields -> gV
open Int renaming toNat_natCast -> bp, ediv_one -> fG, toNat_of_nonneg -> fO, emod_lt_of_pos -> iD, emod_nonneg -> iE
open Prod renaming fst -> bq, snd -> cW, ext -> dP
open Nat renaming sub_self -> bu, le_of_lt -> cr, lt_succ_of_lt -> cv, lt_succ_self -> dE, le_succ -> dF, add_assoc -> dg, mul_comm -> dm, le_of_eq -> dn, mod_lt -> eF, le_of_lt_succ -> eI, add_sub_cancel -> fR, pow_succ -> fU, eq_zero_or_pos -> fg, not_lt -> gX, lt_trans -> gn, not_lt_zero -> gy, succ_pos -> iA, zero_add -> iB, div_div_eq_div_mul -> iC, add_zero -> iF, sub_zero -> iW, le_total -> iZ, min_eq_left -> ia, min_eq_right -> ib
open Bool renaming true_and -> bz, not_true -> cY, bne_false -> dM, or_false -> dR, false_or -> dz, true_or -> fP, and_false -> fh, eq_iff_iff -> fv, or_eq_true_iff -> gZ, not_false -> iP
open PySem.Str renaming ofString -> cC, empty -> ca
open List.Perm renaming refl -> cP, swap -> eE, append_left -> ir, cons_inv -> iy
open PySem renaming mem_of_lookup -> cQ, Env -> eP, call -> fJ, Within -> fy, list_append -> gS, seqSlot_of -> gY, boot_len -> ic
open List.cons renaming inj -> cj, injEq -> iU
open Sum renaming inl -> cn, inr -> cp
open PyProof.Rows renaming callWith_type1 -> cy, slot_tuple_getitem -> dl, envOfC -> eQ, callWith_builtin1 -> io, lt_int -> ip, isnot_bool -> iq, lt_str -> iz
open Option renaming isSome_map -> dW, isNone -> eL, isSome_iff_exists -> gI, getD_none -> gQ, isSome_some -> gi, bind -> iM, bind_some -> iY
open Array.Perm renaming refl -> dX
open PySem.F renaming slot_dict_keyiterator_next -> eA, plain_list_iadd -> eB, slot_tuple_add -> fD, entry_tuple_add -> fE, args_tuple_add_2 -> fF, slot_tuple_lt -> gM, entry_tuple_lt -> gN, args_tuple_lt_2 -> gO, excBase_ValueError -> gk, slot_dict_iter -> gr, entry_dict_keyiterator_next -> gt, args_dict_keyiterator_next_1 -> gu, entry_proto_collect -> gv, plain_proto_collect -> gw, entry_list_iadd -> gx, slot_set_iter -> hX, plain_extend_loop -> hZ
open List.Pairwise renaming nil -> fK, imp_of_mem -> iu
open PyProof.Rows.F renaming plain_set_update_loop -> fe, entry_set_update_loop -> iR
noncomputable section
local macro_rules|`(tactic|simp! [$a,*])=>`(tactic|simp -implicitDefEqProofs [$a,*])
theorem bT {c:Prop}{h:Decidable c}(q:c){α:Sort _}{t e:α}:ite c t e=t:=if_pos q
theorem bU {c:Prop}{h:Decidable c}(q:¬c){α:Sort _}{t e:α}:ite c t e=e:=if_neg q
theorem bV {p:Prop}[i:Decidable p](h:¬p):decide p=yo:=decide_eq_false h
theorem bW {p:Prop}[i:Decidable p](h:p):decide p=zb:=decide_eq_true h
namespace L2
open PySem PySem.Spec PyProof.Rows
abbrev zAA:=List (aB × Obj)
abbrev zAB:=Array (Int × aA)
abbrev zAC:=List (Option Nat)
abbrev zAD:=aA->aC->Prop
abbrev zAE:=Str->Option aA
variable {h:Heap} {a b it dx:aB} {α:Type} {us:List aA} {u:aA} {g':Array GenState} {t' k n:Nat} {d':Drawn} {ch fp:List aB} {M:Model} {A:aL} {E:zAD} {Q:Unit->aC->Prop} {K:bX} {c tg l:aH} {es:List aH} {g:Int->Int->Int} {f:aA->aA->Sem aA} {op:CmpOp} {mA mg:zAE} {fd:aP} {ps:List Str}
section
abbrev Key:=Sum Int Str
def Q4v:Key->aA->Bool
 | .inl k,v=>fq k v
 | .inr x,v=>ft x v
def Qz5 (w:aJ):Key->Int
 | .inl k=>hashInt k
 | .inr x=>hashStr w x
theorem Z6:∀ {k:Key} {v:aA},Q4v k v=zb->(∃ i t,k=cn i/\v=dZ i t)\/(∃ x t,k=cp x/\v=da x t)
 | .inl i,v,h=>by
  obtain ⟨t,e⟩:=Value.isInt_shape (k:=i) (v:=v) h;exact .inl ⟨i,t,rfl,e⟩
 | .inr x,v,h=>by
  obtain ⟨t,e⟩:=Value.isStrOf_shape (x:=x) (v:=v) h;exact .inr ⟨x,t,rfl,e⟩
theorem Q03 (i:Int) (t:Tok):Q4v (.inl i) (.int i t)=zb:=by simp [Q4v,fq]
theorem Q02 (x:Str) (t:Tok):Q4v (.inr x) (.str x t)=zb:=by simp [Q4v,ft]
theorem Qsw (a b:Int):decide ((cn a:Key)=cn b)=(a == b):=by
 by_cases e:a=b
 ·subst e; simp
 ·have h:¬ (cn a:Key)=cn b:=λq=>e (Sum.inl.inj q)
  rw [bV h];exact (beq_eq_false_iff_ne.mpr e).symm
theorem Qst (a b:Str):decide ((cp a:Key)=cp b)=decide (a=b):=by
 by_cases e:a=b
 ·subst e; simp
 ·have h:¬ (cp a:Key)=cp b:=λq=>e (Sum.inr.inj q)
  rw [bV h,bV e]
theorem Qsv (a:Int) (b:Str):decide ((cn a:Key)=cp b)=yo:=bV (λq=>nomatch q)
theorem Qsu (a:Str) (b:Int):decide ((cp a:Key)=cn b)=yo:=bV (λq=>nomatch q)
def Y5 (prog:aK) (w:aJ):PySem.KeyKind prog w Key where
 is:=Q4v
 hash:=Qz5 w
 inj:=λv a b ha hb=>by
  rcases Z6 ha with ⟨i,t,rfl,rfl⟩ | ⟨x,t,rfl,rfl⟩
  ·rcases Z6 hb with ⟨j,u,rfl,e⟩ | ⟨y,u,rfl,e⟩
   ·injection e with e1 _; rw [e1]
   ·exact nomatch e
  ·rcases Z6 hb with ⟨j,u,rfl,e⟩ | ⟨y,u,rfl,e⟩
   ·exact nomatch e
   ·injection e with e1 _; rw [e1]
 byValue:=λk v h=>by
  rcases Z6 h with ⟨i,t,rfl,rfl⟩ | ⟨x,t,rfl,rfl⟩ <;> rfl
 pyHash:=λhv h=>by
  rcases Z6 hv with ⟨i,t,rfl,rfl⟩ | ⟨x,t,rfl,rfl⟩
  ·exact wpAny_pyHash_int h
  ·exact wpAny_pyHash_str h
 eqBool:=λhu hv h=>by
  rcases Z6 hu with ⟨i,t,rfl,rfl⟩ | ⟨x,t,rfl,rfl⟩
  ·rcases Z6 hv with ⟨j,u,rfl,rfl⟩ | ⟨y,u,rfl,rfl⟩
   ·rw [Qsw] at h; exact wpAny_eqBool_int h
   ·rw [Qsv] at h; exact SeqAt.EqAt.int_str i t y u _ _ _ _ h
  ·rcases Z6 hv with ⟨j,u,rfl,rfl⟩ | ⟨y,u,rfl,rfl⟩
   ·rw [Qsu] at h; exact SeqAt.EqAt.str_int x t j u _ _ _ _ h
   ·rw [Qst] at h; exact wpAny_eqBool_str h
 «strs»:=λk x t v h=>by
  rcases Z6 h with ⟨i,u,rfl,e⟩ | ⟨y,u,rfl,e⟩
  ·exact nomatch e
  ·injection e with e1 _
   subst e1;cases v <;> rfl
inductive HK where
 | int (i:Int) | str (x:Str) | tup (l:List HK)
instance:DecidableEq HK:=λ_ _=>Classical.propDecidable _
mutual
def KIs (h:Heap):HK->aA->Prop
 | .int i,v=>∃ t,v=.int i t
 | .str x,v=>∃ t,v=.str x t
 | .tup l,v=>∃ a items,v=.ref a/\IsTup h a items/\KIsL h l items.toList
def KIsL (h:Heap):List HK->List aA->Prop
 | [],vs=>vs=[]
 | k :: l,vs=>∃ v r,vs=v :: r/\KIs h k v/\KIsL h l r
end
def Dp:Nat->HK->Prop
 | _,.int _=>True
 | _,.str _=>True
 | 0,.tup _=>False
 | d + 1,.tup l=>∀ k∈l,Dp d k
theorem KIsL.len :∀ {l:List HK} {vs:List aA},KIsL h l vs->l.length=vs.length
 | [],_,r=>by cases r; rfl
 | k :: l,_,⟨v,r,e,_,q⟩=>by subst e; rw [D4,D4,q.len]
theorem KIsL.get :∀ {l:List HK} {vs:List aA},KIsL h l vs->∀ (j:Nat) (h1:j < l.length) (h2:j < vs.length),KIs h l[j] vs[j]
 | [],_,_,j,h1,_=>by simp at h1
 | k :: l,_,⟨v,r,e,q,t⟩,0,h1,h2=>by subst e; exact q
 | k :: l,_,⟨v,r,e,q,t⟩,j + 1,h1,h2=>by subst e; exact t.get j (by simpa using h1) (by simpa using h2)
theorem KIsL.of {h':Heap}:∀ {l:List HK} {vs:List aA},KIsL h l vs->(∀ k v,k∈l->KIs h k v->KIs h' k v)->KIsL h' l vs
 | [],_,r,_=>r
 | k :: l,_,⟨v,r,e,q,t⟩,f=>⟨v,r,e,f k v (by simp) q,t.of λk v G=>f k v (O4 _ G)⟩
theorem KIs.keep {h':Heap} (q:∀ a its,IsTup h a its->IsTup h' a its):∀ (d:Nat) {k:HK} {v:aA},Dp d k->KIs h k v->KIs h' k v
 | d,.int _,_,_,r=>r
 | d,.str _,_,_,r=>r
 | 0,.tup _,_,p,_=>p.elim
 | d + 1,.tup l,_,p,⟨a,its,e,i,r⟩=>⟨a,its,e,q a its i,r.of λk v hm=>KIs.keep q d (p k hm)⟩
theorem Qf4 {x y:Array aA} (p:IsTup h a x) (q:IsTup h a y):x=y:=by
 obtain ⟨o,h1,h2,n,J⟩:=p;obtain ⟨o',G,g2,O,I⟩:=q;rw [h1] at G; cases G;rw [J] at I; cases I; rfl
theorem KIs.inj :∀ (d:Nat) {x y:HK} {v:aA},Dp d x->Dp d y->KIs h x v->KIs h y v->x=y:=by
 intro d
 induction d with
 | zero=>
  intro x y v dx G p q;cases x with
  | tup l=>exact dx.elim
  | int i=>
   obtain ⟨t,rfl⟩:=p;cases y with
   | tup l=>exact G.elim
   | int j=>obtain ⟨u,e⟩:=q; cases e; rfl
   | str j=>obtain ⟨u,e⟩:=q; cases e
  | str i=>
   obtain ⟨t,rfl⟩:=p;cases y with
   | tup l=>exact G.elim
   | int j=>obtain ⟨u,e⟩:=q; cases e
   | str j=>obtain ⟨u,e⟩:=q; cases e; rfl
 | succ d U=>
  intro x y v dx G p q;cases x with
  | int i=>
   obtain ⟨t,rfl⟩:=p;cases y with
   | tup l=>obtain ⟨_,_,e,_⟩:=q; cases e
   | int j=>obtain ⟨u,e⟩:=q; cases e; rfl
   | str j=>obtain ⟨u,e⟩:=q; cases e
  | str i=>
   obtain ⟨t,rfl⟩:=p;cases y with
   | tup l=>obtain ⟨_,_,e,_⟩:=q; cases e
   | int j=>obtain ⟨u,e⟩:=q; cases e
   | str j=>obtain ⟨u,e⟩:=q; cases e; rfl
  | tup l=>
   obtain ⟨a,its,rfl,J,p2⟩:=p;cases y with
   | int j=>obtain ⟨u,e⟩:=q; cases e
   | str j=>obtain ⟨u,e⟩:=q; cases e
   | tup m=>
    obtain ⟨b,O,e,Y,I⟩:=q;cases e;have e:=Qf4 J Y;subst e;have l1:=p2.len;have l2:=I.len;congr 1;refine fu (by omega) λj h1 h2=>?_
    exact U (dx _ (cJ h1)) (G _ (cJ h2)) (p2.get j h1 (by omega)) (I.get j h2 (by omega))
theorem Qp2 [DecidableEq α] (d:α) (xs ys:List α):((bY (min xs.length ys.length)).all (λj=>decide (xs.getD j d=ys.getD j d)) && xs.length == ys.length)=decide (xs=ys):=by
 rw [fv];simp only [E2,E9,cA,decide_eq_true_eq,beq_iff_eq];constructor
 ·rintro ⟨h,e⟩;refine fu e λi h1 h2=>?_
  have:=h i (by omega);simpa [E3,h1,h2] using this
 ·rintro rfl;simp
section
variable {prog:aK} {w:aJ}
mutual
def hkH (prog:aK) (w:aJ):HK->Int
 | .int i=>(Y5 prog w).hash (.inl i)
 | .str x=>(Y5 prog w).hash (.inr x)
 | .tup l=>reduceHash (Builtin.Tuple.tupleHashOf (hkHL prog w l))
def hkHL (prog:aK) (w:aJ):List HK->List Int
 | []=>[]
 | k :: l=>hkH prog w k :: hkHL prog w l
end
mutual
def hkD:HK->Nat
 | .int _=>1
 | .str _=>1
 | .tup l=>hkDL l + 1
def hkDL:List HK->Nat
 | []=>0
 | k :: l=>hkD k + hkDL l
end
theorem Qi2 (l:List HK):hkHL prog w l=l.map (hkH prog w):=by
 induction l with
 | nil=>rfl
 | cons k l q=>rw [hkHL,q]; rfl
theorem Qi3 (l m:List HK):hkDL (l ++ m)=hkDL l + hkDL m:=by
 induction l with
 | nil=>simp [hkDL]
 | cons k l q=>rw [fw,hkDL,hkDL,q]; omega
variable {A:aL} {E:zAD}
theorem Qp1 (xs ys:List HK):((bY (min xs.length ys.length)).all (λj=>decide (xs.getD j (.int 0)=ys.getD j (.int 0))) && xs.length == ys.length)=decide (xs=ys):=Qp2 (.int 0) xs ys
theorem Qnf:∀ (d:Nat) {A:aL} {s:aC} {k:HK} {v:aA} {Q:Int->aC->Prop},Dp d k->A.units + d < aQ->KIs s.heap k v->Q (hkH prog w k) { s with toks:=s.toks + hkD k } ->
  aF (aI prog w) A (pyHash v) Q E s:=by
 intro d
 induction d with
 | zero=>
  intro A s k v Q Z hu r q;cases k with
  | tup l=>exact Z.elim
  | int i=>obtain ⟨t,rfl⟩:=r; exact (Y5 prog w).pyHash (k:=.inl i) (Q03 i t) q
  | str i=>obtain ⟨t,rfl⟩:=r; exact (Y5 prog w).pyHash (k:=.inr i) (Q02 i t) q
 | succ d ih=>
  intro A s k v Q Z hu r q;cases k with
  | int i=>obtain ⟨t,rfl⟩:=r; exact (Y5 prog w).pyHash (k:=.inl i) (Q03 i t) q
  | str i=>obtain ⟨t,rfl⟩:=r; exact (Y5 prog w).pyHash (k:=.inr i) (Q02 i t) q
  | tup ks=>
   obtain ⟨a,U,rfl,⟨o,ho,hc,n,hd⟩,hi⟩:=r;have O:s.TypeIs (.ref a) "tuple" := ⟨o,ho,hc⟩;have Y:A.units < aQ:=by omega
   unfold pyHash;unfold pyHashByItsType;have nb:¬ (zo (db "tuple.__hash__") == zo bc)=zb:=by rw [beq_builtin_none]; exact D2
   have sp {Q:Option aA->aC->Prop} (h:Q (zo (.builtin "tuple.__hash__")) s):aF (aI prog w) A (specialOf (.ref a) "__hash__") Q E s:=wpAny_specialOf O F.slot_tuple_hash.lookup h;refine aD (wpAny_cRoomFor_or (.inr Y) (aD (sp ?_)));show aF _ _ (if (zo (db "tuple.__hash__") == zo bc)=zb then _ else _) _ _ _;rw [bU nb];refine aD (sp (aD (wpAny_callSpecialIfBoundUnlessNone?_slot O F.slot_tuple_hash (ah F.slot_tuple_hash O F.entry_tuple_hash ?_ (F.args_tuple_hash_1 _)))));show aF _ A.in1 (Builtin.Tuple.tupleItemsOf (.ref a) >>= _) _ _ s;refine aD (wpAny_tupleItemsOf ho hd (aD ?_));rw [<- df];have a1:A.in1.units + d < aQ:=by show A.units + 1 + d < aQ; omega
   refine wpAny_forIn_list _ (λrest (b:Array Int) s'=>∃ G I,ks=G ++ I/\KIsL s.heap I rest/\b.toList=G.map (hkH prog w)/\s'={ s with toks:=s.toks + hkDL G }) _ ?_ ?_ _ _ ⟨[],ks,rfl,hi,rfl,rfl⟩
   ·rintro x rest b s' ⟨G,I,rfl,J,hb,rfl⟩;cases I with
    | nil=>cases J
    | cons k I=>
     obtain ⟨v,r,e,h1,h2⟩:=J;cases e;refine aD (ih (s:={ s with toks:=s.toks + hkDL G }) (Z k (by simp)) a1 h1 ?_);exact wpAny_pure ⟨G ++ [k],I,by simp,h2,by simp [hb],by simp [Qi3,hkDL,dg]⟩
   ·rintro b s' ⟨G,I,rfl,J,hb,rfl⟩;cases I with
    | cons k I=>obtain ⟨_,_,e,_⟩:=J; cases e
    | nil=>
     rw [L1] at q;show aF _ _ (retInt (Builtin.Tuple.tupleHashOf b.toList)) _ _ _;rw [hb,<- Qi2];refine wpAny_ret_mkInt ?_;have q:Q (reduceHash (Builtin.Tuple.tupleHashOf (hkHL prog w G))) { s with toks:=s.toks + (hkDL G + 1) }:=q;generalize Builtin.Tuple.tupleHashOf (hkHL prog w G)=z at*;show aF _ _ (if (decide (-(2:Int) ^ 63<=z) && decide (z < 2 ^ 63))=zb then _ else _) Q E _;unfold reduceHash at q
     split
     ·rename_i hr;rw [bT hr] at q;exact wpAny_pure (by simpa [dg] using q)
     ·rename_i hr;rw [bU hr] at q;exact aD (bJ (wpAny_pure (by simpa [dg] using q)))
theorem Qwj:∀ (d:Nat) {A:aL} {s:aC} {x y:HK} {u v:aA},Dp d x->Dp d y->A.units + d < aQ->KIs s.heap x u->KIs s.heap y v->SeqAt.EqAt A s u v (decide (x=y)):=by
 intro d;have J:∀ {A:aL} {s:aC} {x y:HK} {u v:aA},(∀ l,x≠.tup l)->(∀ l,y≠.tup l)->KIs s.heap x u->KIs s.heap y v->SeqAt.EqAt A s u v (decide (x=y)):=by
  intro A s x y u v nx ny p q;cases x with
  | tup l=>exact absurd rfl (nx l)
  | int i=>
   obtain ⟨t,rfl⟩:=p;cases y with
   | tup l=>exact absurd rfl (ny l)
   | int j=>
    obtain ⟨t',rfl⟩:=q;have:=SeqAt.EqAt.int_int (A:=A) (s:=s) i t j t'
    rwa [show (i == j)=decide (HK.int i=HK.int j) by by_cases e:i=j <;> simp [e]] at this
   | str j=>
    obtain ⟨t',rfl⟩:=q;rw [bV (by simp)];exact SeqAt.EqAt.int_str _ _ _ _
  | str i=>
   obtain ⟨t,rfl⟩:=p;cases y with
   | tup l=>exact absurd rfl (ny l)
   | int j=>
    obtain ⟨t',rfl⟩:=q;rw [bV (by simp)];exact SeqAt.EqAt.str_int _ _ _ _
   | str j=>
    obtain ⟨t',rfl⟩:=q;have:=SeqAt.EqAt.str_str (A:=A) (s:=s) i t j t'
    rwa [show (i == j)=decide (HK.str i=HK.str j) by by_cases e:i=j <;> simp [e]] at this
 induction d with
 | zero=>
  intro A s x y u v dx Z hu p q;exact J (λl e=>by subst e; exact dx) (λl e=>by subst e; exact Z) p q
 | succ d ih=>
  intro A s x y u v dx Z hu p q;have I:A.units < aQ:=by omega
  cases x with
  | tup l=>
   obtain ⟨a,its,rfl,Y,p2⟩:=p;cases y with
   | int j=>
    obtain ⟨t',rfl⟩:=q;rw [bV (by simp)];exact SeqAt.EqAt.tuple_int _ _ Y I
   | str j=>
    obtain ⟨t',rfl⟩:=q;rw [bV (by simp)];exact SeqAt.EqAt.tuple_str _ _ Y I
   | tup m=>
    obtain ⟨b,G,rfl,O,U⟩:=q
    by_cases e:a=b
    ·subst e;have e:=KIs.inj (d + 1) (h:=s.heap) dx Z ⟨a,its,rfl,Y,p2⟩ ⟨a,G,rfl,O,U⟩;rw [bW e];exact SeqAt.EqAt.same _
    ·have l1:=p2.len;have l2:=U.len;have he:∀ j (h1:j < its.size) (h2:j < G.size),SeqAt.EqAt A.in1 s its[j] G[j] (decide (l.getD j (.int 0)=m.getD j (.int 0))):=λj h1 h2=>by
      have k1:j < l.length:=by rw [l1,be]; exact h1
      have k2:j < m.length:=by rw [l2,be]; exact h2
      have e1:l.getD j (.int 0)=l[j]:=by rw [E3,O3 k1]; rfl
      have e2:m.getD j (.int 0)=m[j]:=by rw [E3,O3 k2]; rfl
      rw [e1,e2];exact ih (dx _ (cJ k1)) (Z _ (cJ k2)) (by show A.units + 1 + d < aQ; omega) (p2.get j k1 (by simpa using h1)) (U.get j k2 (by simpa using h2))
     have rc:=SeqAt.RcAt.tuples Y O I he;have s1:its.size=l.length:=by rw [l1,be]
     have s2:G.size=m.length:=by rw [l2,be]
     rw [s1,s2,Qp1] at rc;exact SeqAt.EqAt.of_refs e (by simpa using rc)
  | int i=>
   cases y with
   | tup m=>
    obtain ⟨t',rfl⟩:=p;obtain ⟨b,G,rfl,O,U⟩:=q;rw [bV (by simp)];exact SeqAt.EqAt.int_tuple _ _ O I
   | _=>exact J (by simp) (by simp) p q
  | str i=>
   cases y with
   | tup m=>
    obtain ⟨t',rfl⟩:=p;obtain ⟨b,G,rfl,O,U⟩:=q;rw [bV (by simp)];exact SeqAt.EqAt.str_tuple _ _ O I
   | _=>exact J (by simp) (by simp) p q
theorem Qhz:∀ (d:Nat) {A:aL} {s:aC} {k:HK} {v:aA} {Q:Bool->aC->Prop} (m:Nat),d < m->Dp d k->KIs s.heap k v->Q zb s->aF (aI prog w) A (eqIsQuiet m v) Q E s:=by
 intro d;have G:∀ {A:aL} {s:aC} {v:aA} {Q:Bool->aC->Prop} (m:Nat),carriedByValue v=zb->Q zb s->aF (aI prog w) A (eqIsQuiet m v) Q E s:=by
  intro A s v Q m hv q;rw [eqIsQuiet_byValue m hv];exact wpAny_pure q
 induction d with
 | zero=>
  intro A s k v Q m hm O r q;cases k with
  | tup l=>exact O.elim
  | int i=>obtain ⟨t,rfl⟩:=r; exact G m rfl q
  | str i=>obtain ⟨t,rfl⟩:=r; exact G m rfl q
 | succ d ih=>
  intro A s k v Q m hm O r q;cases k with
  | int i=>obtain ⟨t,rfl⟩:=r; exact G m rfl q
  | str i=>obtain ⟨t,rfl⟩:=r; exact G m rfl q
  | tup ks=>
   obtain ⟨a,J,rfl,⟨o,Z,hc,n,hd⟩,hi⟩:=r;have Y:s.TypeIs (.ref a) "tuple" := ⟨o,Z,hc⟩;obtain ⟨m,rfl⟩:∃ m',m=m' + 1:=⟨m - 1,by omega⟩;unfold eqIsQuiet;refine aD (wpAny_specialOf Y F.slot_tuple_eq.lookup ?_);show aF _ _ (isInstance (.ref a) (.type "tuple") >>= _) _ _ s;refine aD (bK Y isSubtype_tuple_tuple ?_);simp only [cY,F0,if_false];refine aD (ar Z hd (aD ?_));show aF _ _ (forIn J _ _) _ _ s;rw [<- df];refine wpAny_forIn_list _ (λrest r s'=>r.1=zl/\s'=s/\∃ l,KIsL s.heap l rest/\∀ k∈l,k∈ks) _ ?_ ?_ _ _ ⟨rfl,rfl,ks,hi,λ_ h=>h⟩
   ·rintro v rest r s' ⟨U,rfl,l,hl,I⟩;cases l with
    | nil=>cases hl
    | cons k l=>
     obtain ⟨v',r',e,h1,h2⟩:=hl;cases e;refine aD (ih m (by omega) (O k (I k (by simp))) h1 ?_);simp only [cY,F0,if_false];exact wpAny_pure ⟨rfl,rfl,l,h2,λx hx=>I x (O4 _ hx)⟩
   ·rintro ⟨r1,r2⟩ s' ⟨U,rfl,_⟩;simp only at U;subst U;exact wpAny_pure q
def nk (prog:aK) (w:aJ):HeapKind prog w HK where
 is:=λh k a=>KIs h k (.ref a)/\Dp 5 k
 hash:=hkH prog w
 draws:=hkD
 room:=λA=>A.units + 5 < aQ
 inj:=λhx hy=>KIs.inj 5 hx.2 hy.2 hx.1 hy.1
 keeps:=λ{h h' k a d o es ep} x ho hd hs=>⟨KIs.keep (λb its ⟨ob,h1,h2,n,h3⟩=>⟨ob,(hs.2 b λe=>by
  subst e;rw [ho] at h1; cases h1;rw [hd] at h3; cases h3).trans h1,h2,n,h3⟩) 5 x.2 x.1,x.2⟩
 pyHash:=λhu hk h=>Qnf 5 hk.2 hu hk.1 h
 eqBool:=λhu hx hy h=>Qwj 5 hx.2 hy.2 hu hx.1 hy.1 prog w _ _ h
 quiet:=λhk h=>Qhz 5 8 (by decide) hk.2 hk.1 h
end
theorem Q89 (prog:aK) (w:aJ) (i:Int) (t:Tok):(Y5 prog w).is (.inl i) (.int i t)=zb:=Q03 i t
theorem Q88 (prog:aK) (w:aJ) (x:Str) (t:Tok):(Y5 prog w).is (.inr x) (.str x t)=zb:=Q02 x t
end
inductive V where
 | non | bl (b:Bool) | int (i:Int) | str (x:Str) | byt (b:Array UInt8) | flt (b:UInt64) | ref (a:aB) | ty (n:String)
 deriving DecidableEq
variable {v:V} {vs:List V}
def RelV:V->aA->Prop
 | .non,u=>u=bc
 | .bl b,u=>u=cq b
 | .int i,u=>∃ t,u=dZ i t
 | .str x,u=>∃ t,u=da x t
 | .byt b,u=>∃ t,u=Value.bytes b t
 | .flt b,u=>∃ t,u=fx b t
 | .ref a,u=>u=bZ a
 | .ty n,u=>u=bj n
abbrev Vals:List V->List aA->Prop:=aR RelV
theorem Vals.length {xs:List V} (r:Vals xs us):xs.length=us.length:=Paired.length r
theorem Vals.get:∀ {xs:List V} {us:List aA} {i:Nat} {x:V},Vals xs us->xs[i]?=zo x->∃ u,us[i]?=zo u/\RelV x u
 | _,_,_,_,.nil,e=>by simp at e
 | _,_,0,_,.cons r _,e=>by simp at e; subst e; exact ⟨_,rfl,r⟩
 | _,_,i + 1,x,.cons _ t,e=>by
  obtain ⟨u,h1,h2⟩:=Vals.get (i:=i) (x:=x) t (by simpa using e);exact ⟨u,by simpa using h1,h2⟩
theorem Vals.set {x:V} (r:RelV x u):∀ {xs:List V} {us:List aA} (i:Nat),Vals xs us->Vals (xs.set i x) (us.set i u)
 | _,_,_,.nil=>.nil
 | _,_,0,.cons _ t=>.cons r t
 | _,_,i + 1,.cons q t=>.cons q (Vals.set r i t)
theorem Vals.append:∀ {xs ys:List V} {us ws:List aA},Vals xs us->Vals ys ws->Vals (xs ++ ys) (us ++ ws)
 | _,_,_,_,.nil,s=>s
 | _,_,_,_,.cons r t,s=>.cons r (Vals.append t s)
theorem Vals.take:∀ {xs:List V} {us:List aA} (n:Nat),Vals xs us->Vals (xs.take n) (us.take n)
 | _,_,0,_=>.nil
 | _,_,_ + 1,.nil=>.nil
 | _,_,n + 1,.cons r t=>.cons r (Vals.take n t)
theorem Vals.drop:∀ {xs:List V} {us:List aA} (n:Nat),Vals xs us->Vals (xs.drop n) (us.drop n)
 | _,_,0,r=>r
 | _,_,_ + 1,.nil=>.nil
 | _,_,n + 1,.cons _ t=>Vals.drop n t
def RelO:Option V->Option aA->Prop
 | some v,zo u=>RelV v u
 | none,zl=>True
 | _,_=>False
def KV {κ:Type}:List (κ × V)->List (κ × aA)->Prop:=aR λ(p:κ × V) (q:κ × aA)=>p.1=q.1/\RelV p.2 q.2
def kV:Key->V
 | .inl i=>.int i
 | .inr x=>.str x
inductive HO where
 | lst (xs:List V)
 | tup (xs:List V)
 | dK (kvs:List (Key × V)) | dT (kvs:List (HK × V))
 | set (S:Int->Bool) (n:Nat)
 | ins (C dx:aB) (fs:List (Str × V))
 | own (x:aB)
 | xd (fs:List (Str × V))
 | met (f x:aB)
 | rng (lo hi:Int)
 | frz (o:Obj) (u:HO)
 | tbl (ps:Array aA)
 | ext (φ:Heap->Prop)
variable {o:HO}
abbrev Hp:=aB->Option HO
variable {H:Hp}
def upd (H:Hp) (a:aB) (o:HO):Hp:=λb=>if b=a then zo o else H b
theorem Qt :upd H a o a=zo o:=by unfold upd; rw [bT rfl]
theorem Q9 (h:b≠a):upd H a o b=H b:=by unfold upd; rw [bU h]
theorem Qpn {u:HO} (h:H a=zo o) (h':H b=zo u) (d:o≠u):a≠b:=by
 intro e; subst e; rw [h] at h'; exact d (bn h')
theorem Qa (h:H a=zo o) (h':H b=zl):a≠b:=by
 intro e; subst e; rw [h] at h'; cases h'
mutual
def KAt (H:Hp):HK->V->Prop
 | .int i,v=>v=.int i
 | .str x,v=>v=.str x
 | .tup l,v=>∃ a vs,v=.ref a/\H a=zo (.tup vs)/\KAtL H l vs
def KAtL (H:Hp):List HK->List V->Prop
 | [],vs=>vs=[]
 | k :: l,vs=>∃ v r,vs=v :: r/\KAt H k v/\KAtL H l r
end
mutual
theorem KAt.keep {H':Hp} (q:∀ b xs,H b=zo (.tup xs)->H' b=zo (.tup xs)):∀ {k:HK} {v:V},KAt H k v->KAt H' k v
 | .int _,_,r=>r
 | .str _,_,r=>r
 | .tup _,_,⟨a,vs,e,h,r⟩=>⟨a,vs,e,q a vs h,KAtL.keep q r⟩
theorem KAtL.keep {H':Hp} (q:∀ b xs,H b=zo (.tup xs)->H' b=zo (.tup xs)):∀ {l:List HK} {vs:List V},KAtL H l vs->KAtL H' l vs
 | [],_,r=>r
 | _ :: _,_,⟨v,r,e,h,t⟩=>⟨v,r,e,KAt.keep q h,KAtL.keep q t⟩
end
def KR (H:Hp) (k:HK) (b:aB):Prop:=KAt H k (.ref b)/\Dp 5 k
theorem KR.keep {H':Hp} {k:HK} (r:KR H k b) (q:∀ b xs,H b=zo (.tup xs)->H' b=zo (.tup xs)):KR H' k b:=⟨r.1.keep q,r.2⟩
section
variable (P:aK) (w:aJ)
def ObjOk (H:Hp) (h:Heap) (a:aB):HO->Prop
 | .lst xs=>xs.length<=sizeLine/\∃ (its:List aA) (n:Nat),Vals xs its/\h.get? a=zo { cls:=.type "list",data:=.seq its.toArray n }
 | .tup xs=>xs.length<=sizeLine/\∃ its:List aA,Vals xs its/\IsTup h a its.toArray
 | .dK kvs=>kvs.length<=sizeLine/\(a == au)=yo/\∃ vs,KV kvs vs/\h.DictOf (Y5 P w) a vs
 | .dT kvs=>kvs.length<=sizeLine/\(a == au)=yo/\∃ xs:List (HK × aB × aA),
   aR (λ(p:HK × V) (q:HK × aB × aA)=>p.1=q.1/\KR H p.1 q.2.1/\RelV p.2 q.2.2) kvs xs /\
   ∃ o es ep,h.get? a=zo o/\o.ExactDict/\o.data=.dict es ep/\es.toList=xs.map (entryOfKey (nk P w))/\(xs.map (·.1)).Nodup
 | .set S n=>h.SetOf (intKind P w) a S n
 | .ins C dx fs=>H dx=zo (.own a)/\fs.length<=1000/\dx≠a/\h.get? a=zo (eX C dx) /\
   ∃ mA,h.Ns1 dx mA/\(∀ f,RelO (fs.lookup f) (mA f))/\fy mA (fs.map (·.1))
 | .own _=>∃ o,h.get? a=zo o
 | .xd fs=>∃ mA,h.Ns1 a mA/\∀ f,RelO (fs.lookup f) (mA f)
 | .rng lo hi=>∃ t u v,h.get? a=zo { cls:=.type "range",data:=.fields #[.int lo t,.int hi u,.int 1 v] }
 | .frz o u=>h.get? a=zo o/\ObjOk H h a u
 | .tbl ps=>h.get? a=zo { cls:=.none,data:=.fields ps }
 | .met f x=>h.get? a=zo (eY (.ref f) (.ref x))
 | .ext φ=>φ h/\(∃ o,h.get? a=zo o)/\∀ h1 h2:Heap,φ h1->(∀ o,h1.get? a=zo o->h2.get? a=zo o)->φ h2
def HOk (H:Hp) (h:Heap):Prop:=∀ a o,H a=zo o->ObjOk P w H h a o
end
variable {P:aK} {H H':Hp} {h h':Heap} {a:aB} {o:HO}
section
variable {w:aJ}
theorem ObjOk.lt (x:ObjOk P w H h a o):a < h.objs.size:=by
 cases o with
 | lst xs=>obtain ⟨_,_,_,_,e⟩:=x; exact O9 e
 | tup xs=>obtain ⟨_,_,_,p⟩:=x; exact p.lt
 | dK q=>obtain ⟨_,_,_,_,o,_,_,e,_⟩:=x; exact O9 e
 | dT q=>obtain ⟨_,_,_,_,o,_,_,e,_⟩:=x; exact O9 e
 | set S n=>obtain ⟨o,_,_,_,e,_⟩:=x; exact O9 e
 | ins C dx fs=>obtain ⟨_,_,_,e,_⟩:=x; exact O9 e
 | own y=>obtain ⟨_,e⟩:=x; exact O9 e
 | xd fs=>obtain ⟨_,⟨_,_,_,e,_⟩,_⟩:=x; exact O9 e
 | rng lo hi=>obtain ⟨_,_,_,e⟩:=x; exact O9 e
 | frz ob u=>obtain ⟨e,_⟩:=x; exact O9 e
 | tbl ps=>exact O9 (show h.get? a=zo _ from x)
 | met f y=>exact O9 (show h.get? a=zo _ from x)
 | ext G=>obtain ⟨_,⟨_,e⟩,_⟩:=x; exact O9 e
theorem Paired.mapP {β:Type} {F G:α->β->Prop}:∀ {l₁:List α} {q:List β},aR F l₁ q->(∀ a b,F a b->G a b)->aR G l₁ q
 | _,_,.nil,_=>.nil
 | _,_,.cons r t,f=>.cons (f _ _ r) (Paired.mapP t f)
theorem ObjOk.stay (x:ObjOk P w H h a o) (k:∀ b u,(b=a\/H b=zo (.own a))->h.get? b=zo u->h'.get? b=zo u)
  (U:∀ b,H b=zo (.own a)->H' b=zo (.own a)) (J:∀ b xs,H b=zo (.tup xs)->H' b=zo (.tup xs)):ObjOk P w H' h' a o:=by
 induction o with
 | lst xs=>obtain ⟨z,its,n,r,e⟩:=x; exact ⟨z,its,n,r,k _ _ (.inl rfl) e⟩
 | tup xs=>obtain ⟨z,its,r,ob,e,c⟩:=x; exact ⟨z,its,r,ob,k _ _ (.inl rfl) e,c⟩
 | dK I=>obtain ⟨z,y,vs,r,ob,es,ep,e,c⟩:=x; exact ⟨z,y,vs,r,ob,es,ep,k _ _ (.inl rfl) e,c⟩
 | dT I=>
  obtain ⟨z,y,xs,r,ob,es,ep,e,c⟩:=x;exact ⟨z,y,xs,Paired.mapP r λp q z=>⟨z.1,z.2.1.keep J,z.2.2⟩,ob,es,ep,k _ _ (.inl rfl) e,c⟩
 | set S n=>obtain ⟨ob,es,ep,t,e,c⟩:=x; exact ⟨ob,es,ep,t,k _ _ (.inl rfl) e,c⟩
 | ins C dx fs=>
  obtain ⟨d,z,ne,e,mA,⟨G,es,ep,O,c⟩,r⟩:=x;exact ⟨U _ d,z,ne,k _ _ (.inl rfl) e,mA,⟨G,es,ep,k _ _ (.inr d) O,c⟩,r⟩
 | own y=>obtain ⟨ob,e⟩:=x; exact ⟨ob,k _ _ (.inl rfl) e⟩
 | xd fs=>obtain ⟨mA,⟨G,es,ep,e,c⟩,r⟩:=x; exact ⟨mA,⟨G,es,ep,k _ _ (.inl rfl) e,c⟩,r⟩
 | rng lo hi=>obtain ⟨t,u,v,e⟩:=x; exact ⟨t,u,v,k _ _ (.inl rfl) e⟩
 | frz ob u Y=>obtain ⟨e,q⟩:=x; exact ⟨k _ _ (.inl rfl) e,Y q⟩
 | tbl ps=>
  have e:h.get? a=zo { cls:=.none,data:=.fields ps }:=x;show h'.get? a=zo { cls:=.none,data:=.fields ps };exact k a _ (.inl rfl) e
 | met f y=>
  have e:h.get? a=zo (eY (.ref f) (.ref y)):=x;show h'.get? a=zo (eY (.ref f) (.ref y));exact k a _ (.inl rfl) e
 | ext Z=>obtain ⟨p,⟨o,e⟩,st⟩:=x; exact ⟨st _ _ p λo q=>k _ _ (.inl rfl) q,⟨o,k _ _ (.inl rfl) e⟩,st⟩
theorem HOk.lt (x:HOk P w H h) (e:H a=zo o):a < h.objs.size:=(x a o e).lt
theorem HOk.fresh (x:HOk P w H h) (e:h.objs.size<=a):H a=zl:=by
 cases q:H a with
 | none=>rfl
 | some u=>exact absurd (D1 (x.lt q) e) (L3 _)
theorem HOk.kept (x:HOk P w H h) (k:∀ b u,h.get? b=zo u->h'.get? b=zo u):HOk P w H h':=λa o e=>
 (x a o e).stay (λb u _ q=>k b u q) (λ_ q=>q) λ_ _ q=>q
theorem HOk.laid (x:HOk P w H h) (k:∀ b u,h.get? b=zo u->h'.get? b=zo u) (J:h.objs.size<=a) (new:ObjOk P w (upd H a o) h' a o):HOk P w (upd H a o) h':=λb u e=>by
 have I:=x.fresh J
 by_cases G:b=a
 ·subst G; rw [Qt] at e; cases e; exact new
 ·rw [Q9 G] at e;exact (x b u e).stay (λc v _ q=>k c v q) (λc q=>by rw [Q9 (Qa q I)]; exact q) λc xs q=>by rw [Q9 (Qa q I)]; exact q
end
def Rd (H:Hp) (a:aB) (u:HO):Prop:=H a=zo u\/∃ o,H a=zo (.frz o u)
theorem Rd.ok {w:aJ} {u:HO} (r:Rd H a u) (x:HOk P w H h):ObjOk P w H h a u:=by
 rcases r with r | ⟨o,r⟩
 ·exact x a u r
 ·obtain ⟨_,q⟩:=x a _ r;exact q
def Mut:Option HO->Prop
 | some (.lst _)=>True
 | some (.dK _)=>True
 | some (.dT _)=>True
 | some (.set _ _)=>True
 | some (.ins _ _ _)=>True
 | some (.ext _)=>True
 | _=>False
variable {x e:aB} {o':HO}
section
variable {w:aJ}
theorem HOk.write (ok:HOk P w H h) (O:Mut (H x)) (he:e=x\/H e=zo (.own x)) (k:∀ b u,b≠e->h.get? b=zo u->h'.get? b=zo u) (Z:∃ u,h'.get? e=zo u)
  (new:ObjOk P w (upd H x o') h' x o'):HOk P w (upd H x o') h':=λb u q=>by
 have I:∀ c y,H c=zo (.own y)->c≠x:=λc y r z=>by subst z; rw [r] at O; exact O
 have J:∀ c xs,H c=zo (.tup xs)->c≠x:=λc xs r z=>by subst z; rw [r] at O; exact O
 by_cases U:b=x
 ·subst U; rw [Qt] at q; cases q; exact new
 ·rw [Q9 U] at q
  by_cases G:b=e
  ·have q':H b=zo (.own x):=by
    rcases he with z | z
    ·exact absurd (G.trans z) U
    ·rw [G]; exact z
   rw [q] at q'; cases q';obtain ⟨v,hv⟩:=Z;exact ⟨v,by rw [G]; exact hv⟩
  ·refine (ok b u q).stay (λc v Y r=>k c v ?_ r) (λc r=>by rw [Q9 (I c b r)]; exact r) λc xs r=>by rw [Q9 (J c xs r)]; exact r
   rcases Y with rfl | Y
   ·exact G
   ·rintro rfl;rcases he with z | z
    ·exact I c b Y z
    ·rw [Y] at z; cases z; exact U rfl
end
structure Un (fs ex:List aB) (H H':Hp) (h h':Heap):Prop where
 keep:∀ b o,h.get? b=zo o->H b=zl->b∉fs->b∉ex->h'.get? b=zo o
 slot:∀ b o,h.get? b=zo o->H b=zl->b∈fs->b∉ex->∃ sl,h'.get? b=zo { o with slots:=sl }
 free:∀ b o,h.get? b=zo o->H b=zl->b∉ex->H' b=zl
 there:∀ b o,h.get? b=zo o->b∉ex->∃ o',h'.get? b=zo o'
 tups:∀ b xs,H b=zo (.tup xs)->H' b=zo (.tup xs)
 frzs:∀ b o u,H b=zo (.frz o u)->H' b=zo (.frz o u)
 tbls:∀ b ps,H b=zo (.tbl ps)->∃ more,H' b=zo (.tbl (ps ++ more))
variable {fs' ex ex':List aB} {H1 H2:Hp} {h1 h2:Heap}
section
variable {fs:List aB}
theorem Un.any (u:Un fs ex H H1 h h1) {ob:Obj} (q:h.get? b=zo ob) (n:H b=zl) (G:b∉ex):∃ sl,h1.get? b=zo { ob with slots:=sl }:=by
 by_cases I:b∈fs
 ·exact u.slot b ob q n I G
 ·exact ⟨ob.slots,u.keep b ob q n I G⟩
theorem Un.kept (k:∀ b u,h.get? b=zo u->h'.get? b=zo u):Un fs ex H H h h':=
 ⟨λb ob q _ _ _=>k b ob q,λb ob q _ _ _=>⟨ob.slots,k b ob q⟩,λ_ _ _ n _=>n,λb ob q _=>⟨ob,k b ob q⟩,λ_ _ q=>q,λ_ _ _ q=>q,λ_ ps q=>⟨#[],by rw [q]; simp⟩⟩
theorem Un.refl:Un fs ex H H h h:=Un.kept λ_ _ q=>q
theorem Un.laid (k:∀ b u,h.get? b=zo u->h'.get? b=zo u) (I:h.objs.size<=a) (G:H a=zl):Un fs ex H (upd H a o) h h' where
 keep:=λb u q _ _ _=>k b u q
 slot:=λb u q _ _ _=>⟨u.slots,k b u q⟩
 free:=λb u q n _=>by rw [Q9 (D8 (D1 (O9 q) I))]; exact n
 there:=λb u q _=>⟨u,k b u q⟩
 tups:=λb xs q=>by rw [Q9 (Qa q G)]; exact q
 frzs:=λb u xs q=>by rw [Q9 (Qa q G)]; exact q
 tbls:=λb ps q=>⟨#[],by rw [Q9 (Qa q G),q]; simp⟩
theorem Un.write (I:Mut (H x)) (Y:e=x\/H e=zo (.own x)) (k:∀ b u,b≠e->h.get? b=zo u->h'.get? b=zo u) (J:∃ u,h'.get? e=zo u):Un fs ex H (upd H x o) h h':=by
 have O:∀ b,H b=zl->b≠x:=λb n z=>by subst z; rw [n] at I; exact I
 have U:∀ b,H b=zl->b≠e:=λb n z=>by
  subst z;rcases Y with r | r
  ·exact O b n r
  ·rw [n] at r; cases r
 have hm:∀ b u,H b=zo u->¬ Mut (zo u)->b≠x:=λb u q nm z=>by subst z; rw [q] at I; exact nm I
 refine ⟨λb u q n _ _=>k b u (U b n) q,λb u q n _ _=>⟨u.slots,k b u (U b n) q⟩,λb u q n _=>by rw [Q9 (O b n)]; exact n,λb u q _=>?_,
  λb xs q=>by rw [Q9 (hm b _ q λz=>z)]; exact q,λb u xs q=>by rw [Q9 (hm b _ q λz=>z)]; exact q,λb ps q=>⟨#[],by rw [Q9 (hm b _ q λz=>z),q]; simp⟩⟩
 by_cases G:b=e
 ·subst G; exact J
 ·exact ⟨u,k b u G q⟩
end
def trk (h:Heap) (H:Hp):List aB:=(bY h.objs.size).filter λa=>(H a).isSome
def Q6f (h:Heap) (H:Hp):Heap:=dh h (trk h H)
theorem Qe9 (h:Heap) (H:Hp):(Q6f h H).objs.size=h.objs.size:=PySem.W.hideAll_size _ _
theorem Qi6 {o:Obj} (e:h.get? b=zo o) (n:H b=zl):(Q6f h H).get? b=zo o:=
 di _ e λhm=>by
  have q:(H b).isSome=zb:=(cZ.mp hm).2;rw [n] at q; simp at q
theorem Qmk {o:Obj} (e:(Q6f h H).get? b=zo o):h.get? b=zo o/\H b=zl:=by
 have G:h.get? b=zo o:=gB (trk h H) e;refine ⟨G,?_⟩;cases q:H b with
 | none=>rfl
 | some x=>
  have hm:b∈trk h H:=cZ.mpr ⟨cA.mpr (O9 G),by simp [q]⟩;have z:(Q6f h H).get? b=zl:=gC (trk h H) hm;rw [z] at e; cases e
def Qp3 (g h:Heap) (L:aB):zAA:=(bY h.objs.size).filterMap λa=>if a=L\/(g.get? a).isSome=zb then zl else (h.get? a).map λo=>(a,o)
def rest (g h:Heap) (L d:aB):zAA:=(Qp3 g h L).filter λp=>decide (p.1≠d)
structure Mod (K:bX) (mg:zAE) (base:Heap):Prop where
 kin:K.In base
 glob:base.Ns aV mg
 blt:∃ mb,base.Ns builtinsNs mb/\∀ x:Str,x≠"__name__" -> mb x=aX x
 nolimit:base.NoLimit
structure Cx where
 prog:aK
 w:aJ
 K:bX
 mg:Str->Option aA
 base:Heap
 A:aL
 N:List Str
 s₀:aC
 H₀:Hp
 env:Env
 outer:List Env
 stack:List Env
 ex:List aB
 fn:Str->Bool
 calm:Bool
 pn:zAA
 xe:aA->aC->Prop
def frs (l:List Env):List aB:=l.filterMap (·.frame)
abbrev Cx.fs (X:Cx):List aB:=frs X.outer
def Vis (sc:Scope) (x:Str):Prop:=sc.names.lookup x=zo .local\/sc.names.lookup x=zo .cell\/sc.names.lookup x=zo .free
def Loc (sc:Scope) (x:Str):Prop:=sc.names.lookup x=zo .local\/sc.names.lookup x=zo .cell
def Qzg (env:Env) (h:Heap) (m:zAE) (x:Str) (u:aA):Prop:=
 (env.kindOf x=zo .local/\m x=zo u)\/((env.kindOf x=zo .cell\/env.kindOf x=zo .free)/\∃ c,env.cells.lookup x=zo c/\h.IsCell c (zo u))
structure Cx.Ok (X:Cx):Prop where
 mod:Mod X.K X.mg X.base
 kind:X.env.scope.kind=.function
 glob:X.env.globals=aV
 blt:X.env.builtins=builtinsNs
 above:X.s₀.heap.objs.size<=X.env.locals
 inj:∀ x y c,X.env.cells.lookup x=zo c->X.env.cells.lookup y=zo c->x=y
 has:∀ x,(X.env.kindOf x=zo .cell\/X.env.kindOf x=zo .free)->∃ c,X.env.cells.lookup x=zo c
 cab:∀ x c,X.fn x=zb->X.env.cells.lookup x=zo c->X.s₀.heap.objs.size<=c
 hd:X.calm=zb->X.A.handled=zl
 frames:X.A.frames=zo X.stack
 stk:X.stack=X.outer\/(X.stack=X.env :: X.outer/\X.env.frame=zo X.env.locals)
 exf:∀ b∈X.ex,b≠X.env.locals/\∀ x c,X.env.cells.lookup x=zo c->c≠b
 bs:∀ b o,X.base.get? b=zo o->X.s₀.heap.get? b=zo o/\X.H₀ b=zl
 bsz:X.base.objs.size<=X.s₀.heap.objs.size
 noex:∀ b o,X.base.get? b=zo o->b∉X.ex
 exfs:∀ b∈X.ex,b∉X.fs
 funs:X.s₀.heap.FunFrames X.base X.outer
 frf:∀ b∈X.fs,X.H₀ b=zl
structure Inv (X:Cx) (pins:zAA) (σ:List (Option V)) (H:Hp) (s:aC):Prop where
 ok:X.Ok
 os:s.os=X.s₀.os
 bare:AllBare s.gens
 base:Un X.fs X.ex X.H₀ H X.s₀.heap s.heap
 loc:∃ m,s.heap.Ns X.env.locals m/\∀ (i:Nat) (x:Str) (v:V),X.N[i]?=zo x->σ[i]?=zo (zo v)->Vis X.env.scope x->∃ u,RelV v u/\Qzg X.env s.heap m x u
 cell:∀ x c,X.env.cells.lookup x=zo c->∃ v,s.heap.IsCell c v
 free:H X.env.locals=zl
 freeC:∀ x c,X.env.cells.lookup x=zo c->H c=zl
 pin:∀ p∈X.pn ++ pins,s.heap.get? p.1=zo p.2/\H p.1=zl/\p.1≠X.env.locals/\p.1∉X.fs/\∀ v,p.2.data≠.cell v
 hok:HOk X.prog X.w H s.heap
 len:σ.length=X.N.length
variable {X:Cx} {pins:zAA} {σ:List (Option V)} {s:aC}
theorem Cx.Ok.nofr (ok:X.Ok) {o:Obj} (e:X.base.get? b=zo o):b∉X.fs:=λq=>by
 have:=(ok.funs.mem q).1;rw [e] at this; cases this
theorem Inv.bs (I:Inv X pins σ H s):∀ b o,X.base.get? b=zo o->s.heap.get? b=zo o/\H b=zl:=λb o e=>
 ⟨I.base.keep b o (I.ok.bs b o e).1 (I.ok.bs b o e).2 (I.ok.nofr e) (I.ok.noex b o e),I.base.free b o (I.ok.bs b o e).1 (I.ok.bs b o e).2 (I.ok.noex b o e)⟩
theorem Inv.bk (I:Inv X pins σ H s):∀ b o,X.base.get? b=zo o->s.heap.get? b=zo o:=λb o e=>(I.bs b o e).1
theorem Inv.mod (I:Inv X pins σ H s):Mod X.K X.mg X.base:=I.ok.mod
theorem Inv.kIn (I:Inv X pins σ H s):X.K.In s.heap:=I.ok.mod.kin.keeps I.bk
theorem Inv.lt (I:Inv X pins σ H s):X.env.locals < s.heap.objs.size:=let ⟨_,q,_⟩:=I.loc; q.lt
theorem Inv.sz (I:Inv X pins σ H s):X.s₀.heap.objs.size<=s.heap.objs.size:=E1 I.ok.above (cr I.lt)
theorem Inv.nofs (I:Inv X pins σ H s) (h:s.heap.objs.size<=a):a∉X.fs:=λG=>by
 obtain ⟨_,o,q,_⟩:=I.ok.funs.mem G;exact absurd (D1 (O9 q) (E1 I.sz h)) (L3 _)
theorem Inv.cne (I:Inv X pins σ H s):∀ x c,X.env.cells.lookup x=zo c->c≠X.env.locals:=λx c e z=>by
 obtain ⟨v,o,J,hd⟩:=I.cell x c e;obtain ⟨m,⟨o',es,ep,G,q,_⟩,_⟩:=I.loc;rw [z,G] at J; cases J; rw [q] at hd; cases hd
theorem Inv.funs (I:Inv X pins σ H s):s.heap.FunFrames X.base X.outer:=by
 have all:∀ (l:List Env),(∀ b∈frs l,b∈X.fs)->X.s₀.heap.FunFrames X.base l->s.heap.FunFrames X.base l:=by
  intro l
  induction l with
  | nil=>intro _ _; trivial
  | cons env r Z=>
   intro hs Y;obtain ⟨O,⟨L,o,q,hn,U,hd⟩,hr⟩:=Y;have G:L∈X.fs:=hs L (by unfold frs; rw [L0,q]; exact F3);obtain ⟨sl,e⟩:=I.base.slot L o U (I.ok.frf L G) G λz=>I.ok.exfs L z G
   exact ⟨O,⟨L,_,q,hn,e,hd⟩,Z (λb J=>hs b (by unfold frs; rw [L0,q]; exact O4 _ J)) hr⟩
 exact all X.outer (λ_ J=>J) I.ok.funs
theorem Inv.stack (I:Inv X pins σ H s):s.heap.FunFrames X.base X.stack:=by
 rcases I.ok.stk with e | ⟨e,q⟩
 ·rw [e]; exact I.funs
 ·rw [e];obtain ⟨m,G,_⟩:=I.loc;refine .cons (by rw [I.ok.kind]; decide) q G ?_ I.funs;exact Heap.get?_none_of_le (E1 I.ok.bsz I.ok.above)
theorem Inv.stkSub (I:Inv X pins σ H s):∀ b∈frs X.stack,b∈X.env.locals :: X.fs:=λb q=>by
 rcases I.ok.stk with e | ⟨e,G⟩
 ·rw [e] at q; exact O4 _ q
 ·rw [e] at q;unfold frs at q;rw [L0,G] at q;exact q
theorem Inv.stkFree (I:Inv X pins σ H s):∀ b∈frs X.stack,H b=zl:=λb q=>by
 rcases D5.mp (I.stkSub b q) with e | q
 ·rw [e]; exact I.free
 ·obtain ⟨_,o,G,_⟩:=I.ok.funs.mem q;exact I.base.free b o G (I.ok.frf b q) λz=>I.ok.exfs b z q
theorem Inv.step {g':Array GenState} {t':Nat} {d':Drawn} {ch:List aB} (I:Inv X pins σ H s)
  (J:∀ b∈ch,(b∈X.ex\/X.s₀.heap.objs.size<=b)/\b≠X.env.locals/\(∀ x c,X.env.cells.lookup x=zo c->c≠b)/\∀ p∈X.pn ++ pins,p.1≠b)
  (keep:∀ b o,b≠X.env.locals->b∉X.fs->b∉ch->s.heap.get? b=zo o->H b=zl->h'.get? b=zo o)
  (slot:∀ b o,b≠X.env.locals->b∈X.fs->b∉ch->s.heap.get? b=zo o->H b=zl->∃ sl,h'.get? b=zo { o with slots:=sl }) (free:∀ b o,b∉ch->s.heap.get? b=zo o->H b=zl->H' b=zl)
  (there:∀ b o,b∉ch->s.heap.get? b=zo o->∃ o',h'.get? b=zo o')
  (tups:∀ b xs,H b=zo (.tup xs)->H' b=zo (.tup xs)) (frzs:∀ b o u,H b=zo (.frz o u)->H' b=zo (.frz o u)) (tbls:∀ b ps,H b=zo (.tbl ps)->∃ more,H' b=zo (.tbl (ps ++ more)))
  (ns:∀ m,s.heap.Ns X.env.locals m->h'.Ns X.env.locals m) (hok:HOk X.prog X.w H' h') (hg:AllBare g') :
  Inv X pins σ H' { s with heap:=h',gens:=g',drawn:=d',toks:=t' }:=by
 have a1:∀ b o,X.s₀.heap.get? b=zo o->b≠X.env.locals:=λb o e=>D8 (D1 (O9 e) I.ok.above)
 have Z:∀ b o,X.s₀.heap.get? b=zo o->b∉X.ex->b∉ch:=λb o e G hb=>by
  rcases (J b hb).1 with z | z
  ·exact G z
  ·exact absurd (D1 (O9 e) z) (L3 _)
 have U:∀ x c,X.env.cells.lookup x=zo c->∀ v,s.heap.IsCell c v->h'.IsCell c v:=λx c e v ⟨o,ho,hd⟩=>by
  have O:c∉ch:=λz=>(J c z).2.2.1 x c e rfl
  by_cases hc:c∈X.fs
  ·obtain ⟨sl,q⟩:=slot c o (I.cne x c e) hc O ho (I.freeC x c e);exact ⟨_,q,hd⟩
  ·exact ⟨o,keep c o (I.cne x c e) hc O ho (I.freeC x c e),hd⟩
 refine ⟨I.ok,I.os,hg,⟨λb o e n hb G=>?_,λb o e n hb G=>?_,λb o e n G=>?_,λb o e G=>?_,λb xs e=>tups b xs (I.base.tups b xs e),λb o xs e=>frzs b o xs (I.base.frzs b o xs e),λb ps e=>?_⟩,?_,λx c e=>?_,?_,λx c e=>?_,λp hp=>?_,hok,I.len⟩
 ·exact keep b o (a1 b o e) hb (Z b o e G) (I.base.keep b o e n hb G) (I.base.free b o e n G)
 ·obtain ⟨sl,Y⟩:=I.base.slot b o e n hb G;obtain ⟨a2,e2⟩:=slot b _ (a1 b o e) hb (Z b o e G) Y (I.base.free b o e n G);exact ⟨a2,e2⟩
 ·obtain ⟨o',Y⟩:=I.base.there b o e G;exact free b o' (Z b o e G) Y (I.base.free b o e n G)
 ·obtain ⟨o',Y⟩:=I.base.there b o e G;exact there b o' (Z b o e G) Y
 ·obtain ⟨m1,Y⟩:=I.base.tbls b ps e;obtain ⟨m2,e2⟩:=tbls b _ Y;exact ⟨m1 ++ m2,by rw [e2,gD]⟩
 ·obtain ⟨m,hn,hl⟩:=I.loc;refine ⟨m,ns m hn,λi x v Y e2 e3=>?_⟩;obtain ⟨u,r,l⟩:=hl i x v Y e2 e3;refine ⟨u,r,?_⟩;rcases l with l | ⟨k,c,e,z⟩
  ·exact .inl l
  ·exact .inr ⟨k,c,e,U x c e _ z⟩
 ·obtain ⟨v,z⟩:=I.cell x c e;exact ⟨v,U x c e v z⟩
 ·obtain ⟨m,⟨o,_,_,ho,_⟩,_⟩:=I.loc;exact free _ o (λz=>(J _ z).2.1 rfl) ho I.free
 ·obtain ⟨v,o,ho,hd⟩:=I.cell x c e;exact free c o (λz=>(J c z).2.2.1 x c e rfl) ho (I.freeC x c e)
 ·obtain ⟨e,n,ne,nf,d⟩:=I.pin p hp;have O:p.1∉ch:=λz=>(J p.1 z).2.2.2 p hp rfl
  exact ⟨keep p.1 p.2 ne nf O e n,free p.1 p.2 O e n,ne,nf,d⟩
theorem Inv.un (I:Inv X pins σ H s) (u:Un X.fs [] H H' s.heap h') (hok:HOk X.prog X.w H' h'):Inv X pins σ H' { s with heap:=h',toks:=t' }:=by
 obtain ⟨m,⟨o,es,ep,U,r⟩,_⟩:=id I.loc;obtain ⟨sl,Z⟩:=u.any U I.free (by simp);exact I.step (g':=s.gens) (d':=s.drawn) (ch:=[]) (λ_ z=>nomatch z) (λb o _ O _ e n=>u.keep b o e n O (by simp)) (λb o _ O _ e n=>u.slot b o e n O (by simp)) (λb o _ e n=>u.free b o e n (by simp)) (λb o _ e=>u.there b o e (by simp)) u.tups u.frzs u.tbls (λm' hm=>by
  obtain ⟨o',J,G,q,Y⟩:=hm;rw [U] at q; cases q;exact ⟨_,J,G,Z,Y⟩) hok I.bare
theorem Inv.call {t':Nat} {d':Drawn} (I:Inv X pins σ H s) (u:Un (frs X.stack) ch H H' s.heap h') (hok:HOk X.prog X.w H' h') (hg:AllBare g')
  (G:∀ b∈ch,(b∈X.ex\/X.s₀.heap.objs.size<=b)/\b≠X.env.locals/\(∀ x c,X.env.cells.lookup x=zo c->c≠b)/\∀ p∈X.pn ++ pins,p.1≠b) :
  Inv X pins σ H' { s with heap:=h',gens:=g',drawn:=d',toks:=t' }:=by
 obtain ⟨m,⟨o,es,ep,Z,r⟩,_⟩:=id I.loc;obtain ⟨sl,O⟩:=u.any Z I.free λz=>(G _ z).2.1 rfl
 exact I.step (ch:=ch) G (λb o O hb q e n=>u.keep b o e n (λz=>(D5.mp (I.stkSub b z)).elim O hb) q) (λb o _ _ q e n=>u.any e n q) (λb o q e n=>u.free b o e n q) (λb o q e=>u.there b o e q) u.tups u.frzs u.tbls (λm' hm=>by
  obtain ⟨o',Y,U,J,r'⟩:=hm;rw [Z] at J; cases J;exact ⟨_,Y,U,O,r'⟩) hok hg
theorem Inv.turned {t':Nat} (I:Inv X pins σ H s) (k:∀ b o,b≠it->s.heap.get? b=zo o->h'.get? b=zo o) (U:H it=zl) (O:it≠X.env.locals)
  (h1:it∈X.ex\/X.s₀.heap.objs.size<=it) (h2:∀ x c,X.env.cells.lookup x=zo c->c≠it) (h3:∀ p∈X.pn ++ pins,p.1≠it):Inv X pins σ H { s with heap:=h',toks:=t' }:=by
 have J:∀ b u,H b=zo u->b≠it:=λb u e z=>by rw [z,U] at e; cases e
 refine I.step (g':=s.gens) (d':=s.drawn) (ch:=[it]) (λb Z=>?_) (λb o _ _ G e _=>k b o (λz=>G (by simp [z])) e) (λb o _ _ G e _=>⟨o.slots,k b o (λz=>G (by simp [z])) e⟩) (λ_ _ _ _ n=>n)
  (λb o G e=>⟨o,k b o (λz=>G (by simp [z])) e⟩) (λ_ _ e=>e) (λ_ _ _ e=>e) (λb ps e=>⟨#[],by rw [e]; simp⟩) (λm hm=>?_) (λb u e=>?_) I.bare
 ·have e:b=it:=by simpa using Z
  subst e;exact ⟨h1,O,h2,h3⟩
 ·obtain ⟨o,es,ep,Y,r⟩:=hm;exact ⟨o,es,ep,k _ o (Ne.symm O) Y,r⟩
 ·refine (I.hok b u e).stay (λc v G q=>k c v ?_ q) (λ_ q=>q) λ_ _ q=>q
  rcases G with z | z
  ·rw [z]; exact J b u e
  ·exact J c _ z
theorem Inv.tok (I:Inv X pins σ H s) (t:Nat):Inv X pins σ H { s with toks:=t }:=I.un (h':=s.heap) (t':=t) Un.refl I.hok
theorem Inv.kept (I:Inv X pins σ H s) (k:∀ b u,s.heap.get? b=zo u->h'.get? b=zo u):Inv X pins σ H { s with heap:=h',toks:=t' }:=I.un (Un.kept k) (I.hok.kept k)
theorem Inv.laid {t':Nat} (I:Inv X pins σ H s) (k:∀ b u,s.heap.get? b=zo u->h'.get? b=zo u) (q:s.heap.objs.size<=a) (new:ObjOk X.prog X.w (upd H a o) h' a o) :
  Inv X pins σ (upd H a o) { s with heap:=h',toks:=t' }:=I.un (Un.laid k q (I.hok.fresh q)) (I.hok.laid k q new)
theorem Inv.write {o:HO} {t':Nat} (I:Inv X pins σ H s) (J:Mut (H x)) (G:e=x\/H e=zo (.own x)) (k:∀ b u,b≠e->s.heap.get? b=zo u->h'.get? b=zo u) (q:∃ u,h'.get? e=zo u)
  (new:ObjOk X.prog X.w (upd H x o) h' x o):Inv X pins σ (upd H x o) { s with heap:=h',toks:=t' }:=I.un (Un.write J G k q) (I.hok.write J G k q new)
theorem Inv.pins_of {q:zAA} (I:Inv X pins σ H s) (h:∀ p∈q,s.heap.get? p.1=zo p.2/\H p.1=zl/\p.1≠X.env.locals/\p.1∉X.fs/\∀ v,p.2.data≠.cell v):Inv X q σ H s:=
 ⟨I.ok,I.os,I.bare,I.base,I.loc,I.cell,I.free,I.freeC,λp G=>(D9.mp G).elim (λz=>I.pin p (F8 _ z)) (h p),I.hok,I.len⟩
theorem Q85 {N:List Str} (I:N.Nodup) {i j:Nat} {x:Str} (a:N[i]?=zo x) (b:N[j]?=zo x):i=j:=by
 obtain ⟨h1,q⟩:=O2.mp a;obtain ⟨h2,G⟩:=O2.mp b;exact (List.getElem_inj I).mp (q.trans G.symm)
theorem Q4c {M:Model} {A:aL} {E:zAD} {i:Nat} {x:Str} {Q:Unit->aC->Prop} (I:Inv X pins σ H s) (hN:X.N.Nodup) (hi:X.N[i]?=zo x) (U:Loc X.env.scope x) (r:RelV v u)
  (h:∀ s',Inv X pins (σ.set i (zo v)) H s'->(∃ a,Heap.SameBut a s.heap s'.heap/\(a=X.env.locals\/X.env.cells.lookup x=zo a))->Q () s') (hf:X.fn x=zb\/X.env.scope.names.lookup x=zo .local:=by first | exact .inl rfl | exact .inr rfl | assumption):aF M A (storeName X.env x u) Q E s:=by
 obtain ⟨m,hn,hl⟩:=id I.loc;have a4:(X.env.scope.kind == .class || (X.env.scope.kind == .module && X.env.locals != X.env.globals))=yo:=by rw [I.ok.kind]; rfl
 have a1:i < σ.length:=by rw [I.len]; exact (O2.mp hi).1
 have cne:=I.cne;have J:∀ {a:aB} {h':Heap},(∃ o,s.heap.get? a=zo o/\H a=zl)->Heap.SameBut a s.heap h'->HOk X.prog X.w H h':=λ{a h'} ha hs b ob e=>by
  obtain ⟨_,_,Y⟩:=ha;refine (I.hok b ob e).stay (λc w' O q=>(hs.2 c ?_).trans q) (λ_ q=>q) λ_ _ q=>q
  rintro rfl;rcases O with rfl | O
  ·rw [Y] at e; cases e
  ·rw [Y] at O; cases O
 rcases U with hk | hk
 ·refine wpAny_storeName_local hk hn (λh' a8 hs=>?_) a4;obtain ⟨oL,_,_,a9,_⟩:=id hn;refine h _ ⟨I.ok,I.os,I.bare,⟨λb o e n hb U=>?_,λb o e n hb U=>?_,I.base.free,λb o e U=>?_,I.base.tups,I.base.frzs,I.base.tbls⟩,⟨_,a8,λj y v' G Z e3=>?_⟩,λy c e=>?_,I.free,I.freeC,λp hp=>?_,J ⟨oL,a9,I.free⟩ hs,by simpa using I.len⟩ ⟨_,hs,.inl rfl⟩
  ·exact (hs.2 b (D8 (D1 (O9 e) I.ok.above))).trans (I.base.keep b o e n hb U)
  ·obtain ⟨sl,G⟩:=I.base.slot b o e n hb U;exact ⟨sl,(hs.2 b (D8 (D1 (O9 e) I.ok.above))).trans G⟩
  ·obtain ⟨o',G⟩:=I.base.there b o e U;exact ⟨o',(hs.2 b (D8 (D1 (O9 e) I.ok.above))).trans G⟩
  ·by_cases hj:j=i
   ·subst hj;rw [hi] at G; cases G;rw [E5 a1] at Z;cases Z;exact ⟨u,r,.inl ⟨hk,by simp⟩⟩
   ·rw [E7 (Ne.symm hj)] at Z;obtain ⟨u',r',q⟩:=hl j y v' G Z e3;refine ⟨u',r',?_⟩;rcases q with ⟨k,e⟩ | ⟨k,c,e,z⟩
    ·refine .inl ⟨k,?_⟩;have:y≠x:=λe=>hj (Q85 hN G (e ▸ hi))
     simp [this,e]
    ·exact .inr ⟨k,c,e,z.sameBut hs (cne y c e)⟩
  ·obtain ⟨w',z⟩:=I.cell y c e;exact ⟨w',z.sameBut hs (cne y c e)⟩
  ·obtain ⟨e,n,ne,nf,d⟩:=I.pin p hp;exact ⟨(hs.2 p.1 ne).trans e,n,ne,nf,d⟩
 ·have a2:X.fn x=zb:=by
   rcases hf with z | z
   ·exact z
   ·rw [z] at hk; cases hk
  obtain ⟨c,O⟩:=I.ok.has x (.inl hk);obtain ⟨w',z⟩:=I.cell x c O;refine wpAny_storeName_cell I.ok.kind hk O z (λh' a5 hs=>?_);obtain ⟨oc,a7,a3⟩:=id z;refine h { s with heap:=h' } ⟨I.ok,I.os,I.bare,⟨λb o e n hb U=>?_,λb o e n hb U=>?_,I.base.free,λb o e U=>?_,I.base.tups,I.base.frzs,I.base.tbls⟩,⟨m,hn.sameBut hs (Ne.symm (cne x c O)),λj y v' G Z e3=>?_⟩,λy c' e=>?_,I.free,I.freeC,λp hp=>?_,J ⟨oc,a7,I.freeC x c O⟩ hs,by simpa using I.len⟩ ⟨c,hs,.inr O⟩
  ·exact (hs.2 b (D8 (D1 (O9 e) (I.ok.cab x c a2 O)))).trans (I.base.keep b o e n hb U)
  ·obtain ⟨sl,G⟩:=I.base.slot b o e n hb U;exact ⟨sl,(hs.2 b (D8 (D1 (O9 e) (I.ok.cab x c a2 O)))).trans G⟩
  ·obtain ⟨o',G⟩:=I.base.there b o e U;exact ⟨o',(hs.2 b (D8 (D1 (O9 e) (I.ok.cab x c a2 O)))).trans G⟩
  ·by_cases hj:j=i
   ·subst hj;rw [hi] at G; cases G;rw [E5 a1] at Z;cases Z;exact ⟨u,r,.inr ⟨.inl hk,c,O,a5⟩⟩
   ·rw [E7 (Ne.symm hj)] at Z;obtain ⟨u',r',q⟩:=hl j y v' G Z e3;refine ⟨u',r',?_⟩;rcases q with q | ⟨k,c',e,z'⟩
    ·exact .inl q
    ·refine .inr ⟨k,c',e,z'.sameBut hs ?_⟩;rintro rfl;exact hj (Q85 hN G (I.ok.inj _ _ _ e O ▸ hi))
  ·by_cases a6:c'=c
   ·subst a6; exact ⟨_,a5⟩
   ·obtain ⟨w2,z2⟩:=I.cell y c' e;exact ⟨w2,z2.sameBut hs a6⟩
  ·obtain ⟨e,n,ne,nf,d⟩:=I.pin p hp;refine ⟨(hs.2 p.1 ?_).trans e,n,ne,nf,d⟩;intro q;rw [q,a7] at e;have q':oc=p.2:=bn e;exact d w' (by rw [<- q']; exact a3)
theorem Q76 {M:Model} {A:aL} {E:zAD} {i:Nat} {x:Str} {Q:Unit->aC->Prop} (I:Inv X pins σ H s) (O:X.N.Nodup) (hi:X.N[i]?=zo x) (J:Loc X.env.scope x) (r:RelV v u)
  (h:∀ s',Inv X pins (σ.set i (zo v)) H s'->Q () s') (G:X.fn x=zb\/X.env.scope.names.lookup x=zo .local:=by first | exact .inl rfl | exact .inr rfl | assumption):aF M A (storeName X.env x u) Q E s:=
 Q4c I O hi J r (λs' q _=>h s' q) G
theorem Inv.call' {s':aC} (I:Inv X pins σ H s) (G:s'.os=s.os) (u:Un (frs X.stack) ch H H' s.heap s'.heap) (hok:HOk X.prog X.w H' s'.heap) (J:AllBare s'.gens)
  (q:∀ b∈ch,(b∈X.ex\/X.s₀.heap.objs.size<=b)/\b≠X.env.locals/\(∀ x c,X.env.cells.lookup x=zo c->c≠b)/\∀ p∈X.pn ++ pins,p.1≠b):Inv X pins σ H' s':=by
 obtain ⟨h',g',d',t',o'⟩:=s';have e:o'=s.os:=G;subst e;exact I.call (g':=g') (t':=t') (d':=d') u hok J q
abbrev XK:=aA->Option aB->Hp->Prop
abbrev St:=List (Option V)
abbrev VK:=V->Hp->Prop
abbrev TE:=St->Hp->VK->Prop
variable {tl:TE}
abbrev TT:=St->Hp->(Bool->Hp->Prop)->Prop
variable {tc:TT}
abbrev TA:=St->Hp->(List V->Hp->Prop)->Prop
structure Ends where
 nx:St->Hp->Prop
 rt:VK
 bk:St->Hp->Prop:=λ_ _=>False
 ct:St->Hp->Prop:=λ_ _=>False
abbrev TS:=Ends->St->Hp->Prop
variable {tb:TS}
def EP (X:Cx) (pins:zAA) (σ:St) (Q:VK) (u:aA) (s':aC):Prop:=∃ v H',Inv X pins σ H' s'/\RelV v u/\Q v H'
def TP (X:Cx) (pins:zAA) (σ:St) (Q:Bool->Hp->Prop) (b:Bool) (s':aC):Prop:=∃ H',Inv X pins σ H' s'/\Q b H'
def AP (X:Cx) (pins:zAA) (σ:St) (Q:List V->Hp->Prop) (us:List aA) (s':aC):Prop:=∃ vs H',Inv X pins σ H' s'/\Vals vs us/\Q vs H'
def SP (X:Cx) (pins:zAA) (D:Ends) (f:Flow) (s':aC):Prop:=
 match f with
 | .next=>∃ σ' H',Inv X pins σ' H' s'/\D.nx σ' H'
 | .brk=>∃ σ' H',Inv X pins σ' H' s'/\D.bk σ' H'
 | .cont=>∃ σ' H',Inv X pins σ' H' s'/\D.ct σ' H'
 | .ret u=>∃ v σ' H',Inv X pins σ' H' s'/\RelV v u/\D.rt v H'
def PE (X:Cx) (e:aH) (t:TE):Prop:=
 ∀ (pins:zAA) (s:aC) (σ:St) (H:Hp) (Q:VK),Inv X pins σ H s->t σ H Q->aF (aI X.prog X.w) X.A (aO e X.env) (EP X pins σ Q) X.xe s
def PT (X:Cx) (e:aH) (t:TT):Prop:=
 ∀ (pins:zAA) (s:aC) (σ:St) (H:Hp) (Q:Bool->Hp->Prop),Inv X pins σ H s->t σ H Q->aF (aI X.prog X.w) X.A (isTrue e X.env (aO e X.env)) (TP X pins σ Q) X.xe s
def PW (X:Cx) (e:aH) (t:TT):Prop:=
 ∀ (whole:Sem aA) (pins:zAA) (s:aC) (σ:St) (H:Hp) (Q:Bool->Hp->Prop),Inv X pins σ H s->t σ H Q->aF (aI X.prog X.w) X.A (isTrue e X.env whole) (TP X pins σ Q) X.xe s
def PA (X:Cx) (es:List aH) (t:TA):Prop:=
 ∀ (pos:Pos) (pins:zAA) (s:aC) (σ:St) (H:Hp) (Q:List V->Hp->Prop),Inv X pins σ H s->t σ H Q->aF (aI X.prog X.w) X.A (spliced (ae pos (aN es X.env))) (AP X pins σ Q) X.xe s
def PS (X:Cx) (st:aM) (t:TS):Prop:=
 ∀ (pins:zAA) (s:aC) (σ:St) (H:Hp) (D:Ends),Inv X pins σ H s->t D σ H->aF (aI X.prog X.w) X.A (exec st X.env) (SP X pins D) X.xe s
def PSs (X:Cx) (st:List aM) (t:TS):Prop:=
 ∀ (pins:zAA) (s:aC) (σ:St) (H:Hp) (D:Ends),Inv X pins σ H s->t D σ H->aF (aI X.prog X.w) X.A (execs st X.env) (SP X pins D) X.xe s
theorem thn {t:Sem α} {Q q:α->aC->Prop} (h:aF M A t Q E s) (G:∀ a s,Q a s->q a s):aF M A t q E s:=av h G λ_ _ x=>x
section
variable {X:Cx}
def Quf (i:Nat):TE:=λσ H Q=>∃ v,σ[i]?=zo (zo v)/\Q v H
def tC (v:V):TE:=λ_ H Q=>Q v H
theorem Qgm {i:Nat} {x:Str} {pos:Pos} (U:X.N[i]?=zo x) (Z:Vis X.env.scope x) (hd:(x == ("__debug__" : Str))=yo:=by decide) (J:(x == ("__classdict__" : Str))=yo:=by decide):PE X (.Name x pos) (Quf i):=by
 intro pins s σ H Q I h;obtain ⟨v,e,h⟩:=h;obtain ⟨m,hn,Y⟩:=I.loc;obtain ⟨u,r,l⟩:=Y i x v U e Z;have fin:EP X pins σ Q u s:=⟨v,H,I,r,h⟩;rcases l with ⟨G,hm⟩ | ⟨G,c,O,q⟩
 ·exact wpAny_Name (wpAny_loadName_local I.ok.kind G hn hm fin) hd
 ·rcases G with G | G
  ·exact wpAny_Name (wpAny_loadName_cell I.ok.kind G O q fin) hd
  ·exact wpAny_Name (wpAny_loadName_free I.ok.kind G O q fin J) hd
theorem Qrr {i j pos}:PE X (.Constant (.int i) j pos) (tC (.int i)):=λ_ _ _ H _ I h=>wpAny_Constant_int ⟨.int i,H,I.tok _,⟨_,rfl⟩,h⟩
theorem Qvd {b j pos}:PE X (.Constant (.bool b) j pos) (tC (.bl b)):=λ_ _ _ H _ I h=>Constant_bool ⟨.bl b,H,I,rfl,h⟩
theorem Qrq {j pos}:PE X (.Constant .none j pos) (tC .non):=λ_ _ _ H _ I h=>Constant_none ⟨.non,H,I,rfl,h⟩
theorem Qrk {x j pos}:PE X (.Constant (.str x) j pos) (tC (.str x)):=λ_ _ _ H _ I h=>Calls.Constant_str ⟨.str x,H,I.tok _,⟨_,rfl⟩,h⟩
def Gl (X:Cx) (x:Str):Prop:=X.env.kindOf x=zo .globalImplicit
theorem Q6b {E:zAD} {σ:St} {x:Str} {pos:Pos} {Q:zAD} (I:Inv X pins σ H s) (q:Gl X x) (hm:X.mg x=zo u) (h:Q u s)
  (hd:(x == ("__debug__" : Str))=yo:=by decide):aF (aI X.prog X.w) X.A (aO (.Name x pos) X.env) Q E s:=
 Calls.Name_function_global I.ok.kind q (Calls.loadGlobal_global (by rw [I.ok.glob]; exact I.mod.glob.keeps I.bk) hm h) hd
theorem Kx {E:zAD} {σ:St} {x:Str} {pos:Pos} {Q:zAD} (I:Inv X pins σ H s) (G:Gl X x) (hm:X.mg x=zl) (q:aX x=zo u) (h:Q u s)
  (J:x≠"__name__" := by decide) (hd:(x == ("__debug__" : Str))=yo:=by decide):aF (aI X.prog X.w) X.A (aO (.Name x pos) X.env) Q E s:=by
 obtain ⟨mb,h1,h2⟩:=I.mod.blt;exact Calls.Name_function_global I.ok.kind G (Calls.loadGlobal_builtin (by rw [I.ok.glob]; exact I.mod.glob.keeps I.bk) hm (by rw [I.ok.blt]; exact h1.keeps I.bk) ((h2 x J).trans q) h) hd
theorem Q5q {x:Str} {pos:Pos} (q:Gl X x) (hm:X.mg x=zo u) (r:RelV v u) (hd:(x == ("__debug__" : Str))=yo:=by decide):PE X (.Name x pos) (tC v):=
 λ_ _ _ H _ I h=>Q6b I q hm ⟨v,H,I,r,h⟩ hd
theorem Qm9 {x:Str} {pos:Pos} (G:Gl X x) (hm:X.mg x=zl) (q:aX x=zo u) (r:RelV v u) (J:x≠"__name__" := by decide) (hd:(x == ("__debug__" : Str))=yo:=by decide):PE X (.Name x pos) (tC v):=
 λ_ _ _ H _ I h=>Kx I G hm q ⟨v,H,I,r,h⟩ J hd
variable {a b:aH} {ta tb:TE} {pos:Pos}
def tB (t:TE):TT:=λσ H Q=>t σ H λx H1=>∃ c,x=.bl c/\Q c H1
theorem Qr8 {e:aH} {t:TE} (h:PE X e t) (J:∀ G,isTrue e X.env G=(do let v <- G; standAt e.pos; aw [v] (truthy v)):=by intro _; rfl):PT X e (tB t):=by
 intro pins s σ H Q I U;refine isTrue_plain (thn (h pins s σ H _ I U) λv s1 ⟨x,H1,O,Y,Z⟩=>?_) (J _)
 obtain ⟨d,rfl,q⟩:=Z;cases Y;exact bE ⟨H1,O,q⟩
variable {tA tB':TT} {rest:List aH}
def Qyr (t u:TT):TT:=λσ H Q=>t σ H λc H1=>if c=zb then u σ H1 Q else Q yo H1
def tOr (t u:TT):TT:=λσ H Q=>t σ H λc H1=>if c=zb then Q zb H1 else u σ H1 Q
def Qyk (t:TT):TT:=λσ H Q=>t σ H λc H1=>Q (!c) H1
theorem Qkj (q:PT X a tA):PW X (.BoolOp .And [a] pos) tA:=by
 intro G pins s σ H Q I h;refine isTrue_and (thn (q pins s σ H Q I h) λc s1 e=>?_)
 cases c with
 | true=>exact isTrue_and_nil e
 | false=>exact e
theorem Qr6 (q:PT X a tA):PW X (.BoolOp .Or [a] pos) tA:=by
 intro G pins s σ H Q I h;refine isTrue_or (thn (q pins s σ H Q I h) λc s1 e=>?_)
 cases c with
 | false=>exact isTrue_or_nil e
 | true=>exact e
theorem Qr7 (J:PT X a tA) (U:PW X (.BoolOp .And (b :: rest) pos) tB'):PW X (.BoolOp .And (a :: b :: rest) pos) (Qyr tA tB'):=by
 intro O pins s σ H Q I h;refine isTrue_and (thn (J pins s σ H _ I h) λc s1 ⟨H1,q,G⟩=>?_)
 cases c with
 | true=>exact U O pins s1 σ H1 Q q G
 | false=>exact ⟨H1,q,G⟩
theorem Qv6 (J:PT X a tA) (U:PW X (.BoolOp .Or (b :: rest) pos) tB'):PW X (.BoolOp .Or (a :: b :: rest) pos) (tOr tA tB'):=by
 intro O pins s σ H Q I h;refine isTrue_or (thn (J pins s σ H _ I h) λc s1 ⟨H1,q,G⟩=>?_)
 cases c with
 | true=>exact ⟨H1,q,G⟩
 | false=>exact U O pins s1 σ H1 Q q G
theorem Qr9 (q:PT X a tA):PT X (.UnaryOp .Not a pos) (Qyk tA):=by
 intro pins s σ H Q I h;exact isTrue_not (q pins s σ H (λc H1=>Q (!c) H1) I h)
def Qur (ta tb:TE):TE:=λσ H Q=>ta σ H λx H1=>∃ c,x=.bl c/\if c=zb then tb σ H1 Q else Q (.bl yo) H1
def Qyj (ta tb:TE):TE:=λσ H Q=>ta σ H λx H1=>∃ c,x=.bl c/\if c=zb then Q (.bl zb) H1 else tb σ H1 Q
def Quj (ta:TE):TE:=λσ H Q=>ta σ H λx H1=>∃ c,x=.bl c/\Q (.bl (!c)) H1
theorem Qrn {op} {t:TE} (h:PE X a t):PE X (.BoolOp op [a] pos) t:=λpins s σ H Q I q=>BoolOp_one (h pins s σ H Q I q)
theorem Qrs (J:PE X a ta) (O:PE X (.BoolOp .And (b :: rest) pos) tb):PE X (.BoolOp .And (a :: b :: rest) pos) (Qur ta tb):=by
 intro pins s σ H Q I h;refine BoolOp_and (thn (J pins s σ H _ I h) λv s1 ⟨x,H1,G,U,q⟩=>?_)
 obtain ⟨c,rfl,q⟩:=q;cases U;refine bE ?_;cases c with
 | true=>exact O pins s1 σ H1 Q G q
 | false=>exact ⟨.bl yo,H1,G,rfl,q⟩
theorem Qvc (J:PE X a ta) (O:PE X (.BoolOp .Or (b :: rest) pos) tb):PE X (.BoolOp .Or (a :: b :: rest) pos) (Qyj ta tb):=by
 intro pins s σ H Q I h;refine BoolOp_or (thn (J pins s σ H _ I h) λv s1 ⟨x,H1,G,U,q⟩=>?_)
 obtain ⟨c,rfl,q⟩:=q;cases U;refine bE ?_;cases c with
 | false=>exact O pins s1 σ H1 Q G q
 | true=>exact ⟨.bl zb,H1,G,rfl,q⟩
theorem Qrp (J:PE X a ta):PE X (.UnaryOp .Not a pos) (Quj ta):=by
 intro pins s σ H Q I h;refine UnaryOp_ (thn (J pins s σ H _ I h) λv s1 ⟨x,H1,G,O,q⟩=>?_)
 obtain ⟨c,rfl,q⟩:=q;cases O;exact not_of (bE ⟨.bl (!c),H1,G,rfl,q⟩)
end
def SqL (K:bX) (H:Hp) (a:aB) (xs:List V):Prop:=
 Rd H a (.lst xs) \/
  ∃ (o:Obj) (its:Array aA) (n:Nat),K.lookup a=zo o/\o.cls=.type "list" /\ o.dict=zl/\o.data=.seq its n/\its.size<=sizeLine/\Vals xs its.toList
def SqT (K:bX) (H:Hp) (a:aB) (xs:List V):Prop:=
 Rd H a (.tup xs) \/
  ∃ (o:Obj) (its:Array aA) (n:Nat),K.lookup a=zo o/\o.cls=.type "tuple" /\ o.data=.seq its n/\its.size<=sizeLine/\Vals xs its.toList
def Qze:aA->Option V
 | .none=>zo .non
 | .bool b=>zo (.bl b)
 | .int i _=>zo (.int i)
 | .str x _=>zo (.str x)
 | .bytes b _=>zo (.byt b)
 | .float b _=>zo (.flt b)
 | .ref a=>zo (.ref a)
 | .type n=>zo (.ty n)
 | _=>zl
theorem RelV.abs {x:V} (r:RelV x u):Qze u=zo x:=by
 cases x with
 | non=>cases r; rfl
 | bl _=>cases r; rfl
 | int _=>obtain ⟨t,rfl⟩:=r; rfl
 | str _=>obtain ⟨t,rfl⟩:=r; rfl
 | byt _=>obtain ⟨t,rfl⟩:=r; rfl
 | flt _=>obtain ⟨t,rfl⟩:=r; rfl
 | ref _=>cases r; rfl
 | ty _=>cases r; rfl
theorem RelV.inj {x y:V} (r:RelV x u) (q:RelV y u):x=y:=bn (r.abs.symm.trans q.abs)
theorem Vals.inj:∀ {xs ys:List V} {us:List aA},Vals xs us->Vals ys us->xs=ys
 | _,_,_,.nil,.nil=>rfl
 | _,_,_,.cons r t,.cons q t'=>by rw [r.inj q,Vals.inj t t']
variable {xs ys:List V}
section
variable {σ:St}
theorem SqL.of (h:H a=zo (.lst xs)):SqL K H a xs:=.inl (.inl h)
theorem SqT.of (h:H a=zo (.tup xs)):SqT K H a xs:=.inl (.inl h)
theorem Inv.list (I:Inv X pins σ H s) (h:SqL X.K H a xs):∃ its:List aA,Vals xs its/\PlainL s.heap a its.toArray/\xs.length<=sizeLine:=by
 rcases h with h | ⟨o,its,n,q,G,hd,hs,hz,r⟩
 ·obtain ⟨z,its,n,r,e⟩:=h.ok I.hok;exact ⟨its,r,⟨_,n,e,rfl,rfl,rfl⟩,z⟩
 ·refine ⟨its.toList,r,⟨o,n,I.kIn a o q,G,hd,by simpa using hs⟩,?_⟩;have e:=r.length;simp only [be] at e;omega
theorem Inv.tuple (I:Inv X pins σ H s) (h:SqT X.K H a xs):∃ its:List aA,Vals xs its/\IsTup s.heap a its.toArray/\xs.length<=sizeLine:=by
 rcases h with h | ⟨o,its,n,q,G,hs,hz,r⟩
 ·obtain ⟨z,its,r,p⟩:=h.ok I.hok;exact ⟨its,r,p,z⟩
 ·refine ⟨its.toList,r,⟨o,I.kIn a o q,G,n,by simpa using hs⟩,?_⟩;have e:=r.length;simp only [be] at e;omega
theorem Inv.list_inj (I:Inv X pins σ H s) (h:SqL X.K H a xs) (h':SqL X.K H a ys):xs=ys:=by
 obtain ⟨its,r,⟨o,n,e,_,_,d⟩,_⟩:=I.list h;obtain ⟨its',G,⟨o',O,q,_,_,d'⟩,_⟩:=I.list h';rw [e] at q; cases q;rw [d] at d';injection d' with J _
 have:its=its':=by simpa using congrArg eZ J
 subst this;exact r.inj G
theorem Inv.tuple_inj (I:Inv X pins σ H s) (h:SqT X.K H a xs) (h':SqT X.K H a ys):xs=ys:=by
 obtain ⟨its,r,⟨o,e,_,n,d⟩,_⟩:=I.tuple h;obtain ⟨its',G,⟨o',q,_,O,d'⟩,_⟩:=I.tuple h';rw [e] at q; cases q;rw [d] at d';injection d' with J _
 have:its=its':=by simpa using congrArg eZ J
 subst this;exact r.inj G
end
variable {st:aM} {u:TS} {te:TE} {pos:Pos}
section
variable {rest:List aM} {t:TS} {e:aH}
def Quk:TS:=λD σ H=>D.nx σ H
def Qyf (t u:TS):TS:=λD σ H=>t { D with nx:=u D } σ H
theorem Qkr:PSs X [] Quk:=λ_ _ σ H _ I h=>wpAny_execs_nil ⟨σ,H,I,h⟩
theorem Qga (h1:PS X st t) (h2:PSs X rest u):PSs X (st :: rest) (Qyf t u):=by
 intro pins s σ H D I h;refine wpAny_execs_cons (thn (h1 pins s σ H { D with nx:=u D } I h) λf s1 q=>?_)
 cases f with
 | next=>
  obtain ⟨G,H',J,q⟩:=q;exact h2 pins s1 G H' D J q
 | ret v=>exact q
 | brk=>exact q
 | cont=>exact q
theorem Qkq (h1:PS X st t):PSs X [st] t:=by
 intro pins s σ H D I h;refine wpAny_execs_cons (thn (h1 pins s σ H D I h) λf s1 q=>?_)
 cases f with
 | next=>exact wpAny_execs_nil q
 | ret v=>exact q
 | brk=>exact q
 | cont=>exact q
def Qq8:TS:=λD σ H=>D.bk σ H
theorem Qgd:PS X (.Break pos) Qq8:=λ_ _ σ H _ I h=>wpAny_Break ⟨σ,H,I,h⟩
theorem Inv.quiet {σ:St} (I:Inv X pins σ H s):interactive X.env=yo:=by simp [interactive,I.ok.kind]
def Qum (te:TE):TS:=λD σ H=>te σ H λ_ H1=>D.nx σ H1
theorem Qks (q:PE X e te) (hs:swapsWith e zl pos.line X.env=pure yo:=by rfl):PS X (.Expr e pos) (Qum te):=by
 intro pins s σ H D I h;exact wpAny_Expr_any (thn (q pins s σ H _ I h) λv s1 ⟨x,H1,G,O,J⟩=>⟨σ,H1,G,J⟩) I.quiet hs
def Qyi (te:TE):TS:=λD σ H=>te σ H D.rt
theorem Qrb (q:PE X e te):PS X (.Return (zo e) pos) (Qyi te):=by
 intro pins s σ H D I h;exact wpAny_Return_some (thn (q pins s σ H _ I h) λv s1 ⟨x,H1,G,J,O⟩=>⟨x,σ,H1,G,J,O⟩)
def Qyp (c:TT) (t u:TS):TS:=λD σ H=>c σ H λb H1=>if b=zb then t D σ H1 else u D σ H1
theorem Qv8 {a b:List aM} (U:PT X c tc) (J:PSs X a t) (O:PSs X b u):PS X (.If c a b pos) (Qyp tc t u):=by
 intro pins s σ H D I h;refine wpAny_If (thn (U pins s σ H _ I h) λd s1 ⟨H1,q,G⟩=>?_)
 cases d with
 | true=>exact J pins s1 σ H1 D q G
 | false=>exact O pins s1 σ H1 D q G
end
abbrev TG:=V->St->Hp->(St->Hp->Prop)->Prop
abbrev TGs:=List V->St->Hp->(St->Hp->Prop)->Prop
def PG (X:Cx) (target:aH) (t:TG):Prop:=
 ∀ (pins:zAA) (s:aC) (σ:St) (H:Hp) (v:V) (u:aA) (Q:St->Hp->Prop),Inv X pins σ H s->RelV v u->t v σ H Q ->
  aF (aI X.prog X.w) X.A (assign target X.env u) (λ_ s'=>∃ σ' H',Inv X pins σ' H' s'/\Q σ' H') X.xe s
def PGs (X:Cx) (ts:List aH) (t:TGs):Prop:=
 ∀ (pins:zAA) (s:aC) (σ:St) (H:Hp) (vs:List V) (us:List aA) (Q:St->Hp->Prop),Inv X pins σ H s->Vals vs us->t vs σ H Q ->
  aF (aI X.prog X.w) X.A (assignInOrder ((az ts X.env).map (·.2)) us) (λ_ s'=>∃ σ' H',Inv X pins σ' H' s'/\Q σ' H') X.xe s
abbrev Qtk:=V->V->V->Hp->(Hp->Prop)->Prop
def Qx9 (X:Cx) (t:Qtk):Prop:=
 ∀ (pins:zAA) (s:aC) (σ:St) (H:Hp) (o i v:V) (ov iv u:aA) (Q:Hp->Prop),Inv X pins σ H s->RelV o ov->RelV i iv->RelV v u->t o i v H Q ->
  aF (aI X.prog X.w) X.A (setItem ov iv u) (λ_ s'=>∃ H',Inv X pins σ H' s'/\Q H') X.xe s
def Q8s (i:Nat):TG:=λv σ H Q=>Q (σ.set i (zo v)) H
theorem Qm4 {i:Nat} {x:Str} (O:X.N.Nodup) (hi:X.N[i]?=zo x) (J:Loc X.env.scope x) (G:X.fn x=zb\/X.env.scope.names.lookup x=zo .local:=by first | exact .inl rfl | exact .inr rfl | assumption):PG X (.Name x pos) (Q8s i):=by
 intro pins s σ H v u Q I r h;exact wpAny_assign_Name (Q76 I O hi J r (λs' q=>⟨_,H,q,h⟩) G)
def Qwp:TGs:=λvs σ H Q=>vs=[]/\Q σ H
def Qia (t:TG) (u:TGs):TGs:=λvs σ H Q=>∃ v r,vs=v :: r/\t v σ H λσ' H'=>u r σ' H' Q
theorem Qm2:PGs X [] Qwp:=by
 intro pins s σ H vs us Q I r h;obtain ⟨e,h⟩:=h;subst e;cases r;exact assignInOrder_nil ⟨σ,H,I,h⟩
theorem Qgk {e:aH} {t:TG} {u:TGs} (h1:PG X e t) (h2:PGs X es u)
  (hs:(az (e :: es) X.env).map (·.2)=assign e X.env :: (az es X.env).map (·.2):=by rfl):PGs X (e :: es) (Qia t u):=by
 intro pins s σ H vs us Q I r h;obtain ⟨v,Y,G,h⟩:=h;subst G;cases r with
 | cons r O=>
  rw [hs];refine assignInOrder_cons (thn (h1 pins s σ H _ _ _ I r h) λ_ s1 ⟨q,H1,J,U⟩=>?_)
  exact h2 pins s1 q H1 _ _ Q J O U
def Qwn (K:bX) (n:Nat) (t:TGs):TG:=λv σ H Q=>∃ a xs,v=.ref a/\SqT K H a xs/\xs.length=n/\t xs σ H Q
theorem Qrh {k:Nat} {t:TGs} {n:Nat} (hc:X.calm=zb) (h:PGs X es t)
  (hn:(az es X.env).length=n:=by rfl) (q:(az es X.env).findIdx? (·.1)=zl:=by rfl):PG X (.Tuple es k pos) (Qwn X.K n t):=by
 intro pins s σ H v u Q I r G;obtain ⟨a,xs,O,hq,hl,G⟩:=G;subst O;cases r;obtain ⟨its,J,Y,hz⟩:=I.tuple hq;refine assign_Tuple_tuple (I.ok.hd hc) Y (by simp [hn,<- hl,J.length]) q λh' Z=>?_
 have U:Inv X pins σ H { s with heap:=h' }:=I.kept (t':=s.toks) λb o e=>Z b o (D8 (O9 e)) e
 exact h pins _ σ H xs _ Q U (by simpa using J) G
def Qz9 (to ti:TE) (t:Qtk):TG:=λv σ H Q=>to σ H λo H1=>ti σ H1 λi H2=>t o i v H2 λH3=>Q σ H3
theorem Qri {o i:aH} {to J:TE} {t:Qtk} (ho:PE X o to) (hi:PE X i J) (hs:Qx9 X t)
  (U:∀ v,assign (.Subscript o i pos) X.env v=(do
   let q <- aw [v] (aO o X.env)
   let G <- aw [v,q] (aO i X.env)
   standAt pos
   aw [v,q,G] (setItem q G v)
   release [v,q,G] []):=by intro _; rfl):PG X (.Subscript o i pos) (Qz9 to J t):=by
 intro pins s σ H v u Q I r h;rw [U];refine aD (ak (thn (ho pins s σ H _ I h) λq s1 ⟨x,H1,O,r1,q1⟩=>?_))
 refine aD (ak (thn (hi pins s1 σ H1 _ O q1) λG s2 ⟨y,H2,I2,Z,q2⟩=>?_))
 refine aD (wpAny_standAt (aD (ak (thn (hs pins s2 σ H2 x y v q G u _ I2 r1 Z r q2) λ_ s3 ⟨H3,Y,q3⟩=>?_))))
 exact wpAny_release ⟨σ,H3,Y,q3⟩
def Qq9 (te:TE) (g:TG):TS:=λD σ H=>te σ H λx H1=>g x σ H1 D.nx
theorem Qge {e:aH} {g:TG} (G:PE X e te) (U:PG X tg g) (hs:swapsWithSole [tg] e pos.line X.env=pure yo:=by rfl) (O:swappedStores [tg] e X.env=pure zl:=by rfl)
  (h1:(az [tg] X.env).map (·.2)=[assign tg X.env]:=by rfl):PS X (.Assign [tg] e pos) (Qq9 te g):=by
 intro pins s σ H D I h;refine wpAny_Assign_stores (thn (G pins s σ H _ I h) λv s1 ⟨x,H1,J,Y,Z⟩=>?_) hs O
 rw [h1];exact thn (U pins s1 σ H1 x v _ J Y Z) λ_ s2 q=>q
theorem Qra {i:Nat} {x:Str} {e:aH} {pos':Pos} (U:X.N.Nodup) (hi:X.N[i]?=zo x) (O:Loc X.env.scope x) (q:PE X e te) (hs:swapsWith e (zo (.Name x pos')) pos.line X.env=pure yo:=by rfl) (J:X.fn x=zb\/X.env.scope.names.lookup x=zo .local:=by first | exact .inl rfl | exact .inr rfl | assumption) :
  PS X (.Assign [.Name x pos'] e pos) (Qq9 te (Q8s i)):=by
 intro pins s σ H D I h;refine wpAny_Assign_Name (thn (q pins s σ H _ I h) λv s1 ⟨y,H1,G,Y,q1⟩=>?_) hs
 exact Q76 G U hi O Y (λs2 Z=>⟨_,H1,Z,q1⟩) J
def Qq4 (c:TT) (tb:TS):TS:=λD σ H=>∃ W:Nat->St->Hp->Prop,(∃ m,W m σ H)/\∀ m σ H,W m σ H ->
 c σ H λb H1=>if b=zb then ∃ N:St->Hp->Prop,(∀ σ' H',N σ' H'->∃ m',m' < m/\W m' σ' H')/\tb { D with nx:=N,ct:=N,bk:=D.nx } σ H1 else D.nx σ H1
theorem Qgb {body:List aM} (hp:PassesOwn (aI X.prog X.w) X.A X.env X.xe) (hc:PT X c tc) (hb:PSs X body tb):PS X (.While c body [] pos) (Qq4 tc tb):=by
 intro pins s σ H D I h;obtain ⟨W,⟨m0,w0⟩,turn⟩:=h;refine wpAny_While (codeAny_whileLoop (λn s'=>∃ J H',Inv X pins J H' s'/\W n J H') ?_ m0 ⟨σ,H,I,w0⟩);rintro n s1 ⟨G,H1,I1,w1⟩;refine bL hp (thn (hc pins s1 G H1 _ I1 (turn n G H1 w1)) λb s2 ⟨H2,I2,Y⟩=>?_)
 cases b with
 | true=>
  obtain ⟨N,hN,Y⟩:=Y;rw [bT rfl];refine bL hp (thn (hb pins s2 G H2 _ I2 Y) λf s3 U=>?_)
  cases f with
  | next=>
   obtain ⟨q,O,I3,Z⟩:=U;obtain ⟨m',hm,w3⟩:=hN q O Z;exact ⟨m',hm,q,O,I3,w3⟩
  | cont=>
   obtain ⟨q,O,I3,Z⟩:=U;obtain ⟨m',hm,w3⟩:=hN q O Z;exact ⟨m',hm,q,O,I3,w3⟩
  | brk=>exact U
  | ret v=>exact U
 | false=>
  rw [bU D2];exact wpAny_execs_nil ⟨G,H2,I2,Y⟩
structure It where
 go:Nat->Hp->Prop
 yld:Nat->Hp->V->Hp->Prop
 stop:Nat->Hp->Prop
def Q3s (X:Cx) (pins:zAA) (H:Hp) (b:aB):Prop:=
 H b=zl/\b≠X.env.locals/\b∉X.fs/\(b∈X.ex\/X.s₀.heap.objs.size<=b)/\(∀ x c,X.env.cells.lookup x=zo c->c≠b)/\∀ p∈X.pn ++ pins,p.1≠b
theorem Inv.fpOk {σ:St} (I:Inv X pins σ H s) (G:s.heap.objs.size<=b) (O:H' b=zl):Q3s X pins H' b:=by
 refine ⟨O,M0 (D1 I.lt G),I.nofs G,.inr (E1 I.sz G),λx c e z=>?_,λp J z=>?_⟩
 ·obtain ⟨v,q⟩:=I.cell x c e;exact absurd (D1 q.lt (by rw [z]; exact G)) (L3 _)
 ·exact absurd (D1 (O9 (I.pin p J).1) (by rw [z]; exact G)) (L3 _)
structure Turn (P:aK) (w:aJ) (K:bX) (tg:aH) (J:It) (fp:List aB) (it:aB) (tn:Nat->Heap->Prop):Prop where
 mem:it∈fp
 obj:∀ i h,tn i h->∀ b∈fp,∃ o,h.get? b=zo o/\∀ v,o.data≠.cell v
 keep:∀ i h h',tn i h->(∀ b∈fp,∀ o,h.get? b=zo o->h'.get? b=zo o)->tn i h'
 item:∀ (X:Cx),X.prog=P->X.w=w->X.K=K->X.calm=zb->∀ (i:Nat) (pins:zAA) (s:aC) (σ:St) (H:Hp) (E:zAD),Inv X pins σ H s->(∀ b∈fp,Q3s X pins H b)->tn i s.heap->J.go i H ->
  aF (aI P w) X.A (ag (.ref it)) (λr s1=>∃ u,r=zo u /\
   aF (aI P w) X.A (letOwnedTupleGo tg (.ref it) u) (λ_ s2=>∃ x H',Inv X pins σ H' s2/\RelV x u/\J.yld i H x H'/\tn (i + 1) s2.heap/\∀ b∈fp,H' b=zl) E s1) E s
 done:∀ (X:Cx),X.prog=P->X.w=w->X.K=K->X.calm=zb->∀ (i:Nat) (pins:zAA) (s:aC) (σ:St) (H:Hp) (E:zAD),Inv X pins σ H s->(∀ b∈fp,Q3s X pins H b)->tn i s.heap->J.stop i H ->
  aF (aI P w) X.A (ag (.ref it)) (λr s1=>r=zl/\Inv X pins σ H s1) E s
 self:∀ (A:aL) (i:Nat) (s:aC) (Q:zAD) (E:zAD),tn i s.heap->Q (.ref it) s->aF (aI P w) A (pyIter (.ref it)) Q E s
abbrev TI:=St->Hp->(It->Hp->Prop)->Prop
def PIE (X:Cx) (pins:zAA) (σ:St) (tg:aH) (R:It->Hp->Prop) (itv:aA) (s2:aC):Prop:=
 ∃ (it:aB) (fp:List aB) (tn:Nat->Heap->Prop) (J:It) (H':Hp),itv=.ref it/\Inv X pins σ H' s2/\Turn X.prog X.w X.K tg J fp it tn/\tn 0 s2.heap/\(∀ b∈fp,Q3s X pins H' b)/\R J H'
def PI (X:Cx) (tg iter:aH) (wi:TI):Prop:=
 ∀ (pins:zAA) (s:aC) (σ:St) (H:Hp) (R:It->Hp->Prop),Inv X pins σ H s->wi σ H R ->
  aF (aI X.prog X.w) X.A (aO iter X.env) (λv s1=>aF (aI X.prog X.w) X.A (pyIter v) (PIE X pins σ tg R) X.xe s1) X.xe s
theorem Qc7 {M:Model} {A:aL} {E:zAD} {tg:aH} {u:aA} {o:Obj} {n:String} {vs:Array aA} {Q:Unit->aC->Prop} (G:s.heap.get? it=zo o) (I:o.cls=.type n) (hd:o.data=.fields vs)
  (J:["enumerate", "zip", "dict_itemiterator", "dict_reverseitemiterator", "odict_iterator", "itertools.zip_longest", "itertools.pairwise"].contains n=yo) (q:Q () s):aF M A (letOwnedTupleGo tg (.ref it) u) Q E s:=by
 unfold letOwnedTupleGo;cases tg <;> first
  | exact wpAny_pure q
  | (cases u <;> first
    | exact wpAny_pure q
    | (refine aD (wpAny_load G ?_)
       rw [I,hd];show aF M A (if (["enumerate", "zip", "dict_itemiterator", "dict_reverseitemiterator", "odict_iterator", "itertools.zip_longest", "itertools.pairwise"].contains n && vs[0]? == zo (aS _))=zb then _ else _) Q E s;rw [bU (by intro h; rw [J,L5] at h; cases h)];exact wpAny_pure q))
def Itl (K:bX) (a:aB):It:=
 ⟨λi H=>∃ xs x,SqL K H a xs/\xs[i]?=zo x,λi H x H'=>H'=H/\∀ xs,SqL K H a xs->xs[i]?=zo x,λi H=>∃ xs,SqL K H a xs/\xs.length<=i⟩
def Itt (K:bX) (a:aB):It:=
 ⟨λi H=>∃ xs x,SqT K H a xs/\xs[i]?=zo x,λi H x H'=>H'=H/\∀ xs,SqT K H a xs->xs[i]?=zo x,λi H=>∃ xs,SqT K H a xs/\xs.length<=i⟩
def Itr (lo:Int) (n:Nat):It:=⟨λi _=>i < n,λi H x H'=>H'=H/\x=.int (lo + i),λi _=>n<=i⟩
theorem Qcz {w:aJ} (a it:aB):Turn P w K tg (Itl K a) [it] it (λi h=>h.IsListIter it a i) where
 mem:=by simp
 obj:=λi h st b q=>by
  have e:b=it:=by simpa using q
  subst e;obtain ⟨o,e,c,d⟩:=st;exact ⟨o,e,λv z=>by rw [d] at z; cases z⟩
 keep:=λi h h' st k=>st.at λo e=>k it (by simp) o e
 item:=by
  intro X hP hw hK hc i pins s σ H E I G st O;subst hP hw hK;obtain ⟨xs,x,J,U⟩:=O;obtain ⟨its,rv,p,hz⟩:=I.list J;obtain ⟨u,hu,ru⟩:=rv.get U;obtain ⟨Z,Y,f2,f3,f4,f5⟩:=G it (by simp);refine wpAny_pyNext_list_item st p.isList (x:=u) (by simpa using hu) λh' st' sb=>?_
  have I1:Inv X pins σ H { s with heap:=h' }:=I.turned (t':=s.toks) (λb o q e=>(sb.2 b q).trans e) Z Y f3 f4 f5
  obtain ⟨o,e,c,d⟩:=id st';exact ⟨u,rfl,Qc7 (s:={ s with heap:=h' }) e c d (by decide) ⟨x,H,I1,ru,⟨rfl,λys hy=>by rw [I.list_inj hy J]; exact U⟩,st',λb q=>(G b q).1⟩⟩
 done:=by
  intro X hP hw hK hc i pins s σ H E I G st O;subst hP hw hK;obtain ⟨xs,J,U⟩:=O;obtain ⟨its,rv,p,hz⟩:=I.list J;obtain ⟨Z,Y,f2,f3,f4,f5⟩:=G it (by simp);have hl:=rv.length;exact wpAny_pyNext_list_end (I.ok.hd hc) st p.isList (by simp; omega) λh' eb=>⟨rfl,I.turned (t':=s.toks) (λb o q e=>eb b o q e) Z Y f3 f4 f5⟩
 self:=λ_ _ _ _ _ st h=>wpAny_pyIter_listiter st h
theorem Q9g {w:aJ} (a it:aB):Turn P w K tg (Itt K a) [it] it (λi h=>h.IsTupleIter it a i) where
 mem:=by simp
 obj:=λi h st b q=>by
  have e:b=it:=by simpa using q
  subst e;obtain ⟨o,e,c,d⟩:=st;exact ⟨o,e,λv z=>by rw [d] at z; cases z⟩
 keep:=λi h h' st k=>st.at λo e=>k it (by simp) o e
 item:=by
  intro X hP hw hK hc i pins s σ H E I G st O;subst hP hw hK;obtain ⟨xs,x,J,U⟩:=O;obtain ⟨its,rv,p,hz⟩:=I.tuple J;obtain ⟨u,hu,ru⟩:=rv.get U;obtain ⟨Z,Y,f2,f3,f4,f5⟩:=G it (by simp);refine wpAny_pyNext_tuple_item st (show s.heap.IsTuple a its.toArray from p) (x:=u) (by simpa using hu) λh' st' sb=>?_
  have I1:Inv X pins σ H { s with heap:=h' }:=I.turned (t':=s.toks) (λb o q e=>(sb.2 b q).trans e) Z Y f3 f4 f5
  obtain ⟨o,e,c,d⟩:=id st';exact ⟨u,rfl,Qc7 (s:={ s with heap:=h' }) e c d (by decide) ⟨x,H,I1,ru,⟨rfl,λys hy=>by rw [I.tuple_inj hy J]; exact U⟩,st',λb q=>(G b q).1⟩⟩
 done:=by
  intro X hP hw hK hc i pins s σ H E I G st O;subst hP hw hK;obtain ⟨xs,J,U⟩:=O;obtain ⟨its,rv,p,hz⟩:=I.tuple J;obtain ⟨Z,Y,f2,f3,f4,f5⟩:=G it (by simp);have hl:=rv.length;exact wpAny_pyNext_tuple_end (I.ok.hd hc) st (show s.heap.IsTuple a its.toArray from p) (by simp; omega) λh' eb=>⟨rfl,I.turned (t':=s.toks) (λb o q e=>eb b o q e) Z Y f3 f4 f5⟩
 self:=λ_ _ _ _ _ st h=>wpAny_pyIter_tupleiter st h
theorem Q9h {w:aJ} (it:aB) (lo:Int) (n:Nat):Turn P w K tg (Itr lo n) [it] it (λi h=>IsRangeIter h it (lo + (i:Nat) * 1) ((n:Int) - (i:Nat)) 1) where
 mem:=by simp
 obj:=λi h st b q=>by
  have e:b=it:=by simpa using q
  subst e;exact ⟨_,st,λv z=>by
   have z':Data.fields _=Data.cell v:=z;cases z'⟩
 keep:=λi h h' st k=>k it (by simp) _ st
 item:=by
  intro X hP hw Y hc i pins s σ H E I G st J;subst hP hw Y;obtain ⟨U,O,f2,Z,f4,f5⟩:=G it (by simp);have W:=Walks.range (prog:=X.prog) (w:=X.w) (I.ok.hd hc) it lo 1 n;refine W.item i s _ _ J st λv h' tk hv st' kk=>?_
  obtain ⟨t,rfl⟩:=hv;have I1:Inv X pins σ H { s with heap:=h',toks:=tk }:=I.turned (λb o q e=>kk b o (by simpa using q) e) U O Z f4 f5
  refine ⟨_,rfl,Qc7 (s:={ s with heap:=h',toks:=tk }) (n := "range_iterator") st' rfl rfl (by decide) ⟨.int (lo + i),H,I1,⟨t,?_⟩,⟨rfl,rfl⟩,st',λb q=>(G b q).1⟩⟩
  rw [Int.mul_one]
 done:=by
  intro X hP hw Y hc i pins s σ H E I G st J;subst hP hw Y;obtain ⟨U,O,f2,Z,f4,f5⟩:=G it (by simp);exact wpAny_pyNext_range_end (I.ok.hd hc) st (by have:n<=i:=J; omega) λh' eb=>⟨rfl,I.turned (t':=s.toks) (λb o q e=>eb b o q e) U O Z f4 f5⟩
 self:=λ_ _ _ _ _ st h=>wpAny_pyIter_rangeiter st h
variable {tg:aH}
def Qwh (K:bX) (tl:TE):TI:=λσ H R=>tl σ H λx H1=>∃ a,x=.ref a/\(∃ xs,SqL K H1 a xs)/\R (Itl K a) H1
def Qz7 (K:bX) (tl:TE):TI:=λσ H R=>tl σ H λx H1=>∃ a,x=.ref a/\(∃ xs,SqT K H1 a xs)/\R (Itt K a) H1
theorem Qm0 (O:PE X l tl):PI X tg l (Qwh X.K tl):=by
 intro pins s σ H R I h;refine thn (O pins s σ H _ I h) λv s1 ⟨x,H1,G,Y,Z⟩=>?_
 obtain ⟨a,e,⟨xs,J⟩,q⟩:=Z;subst e;cases Y;obtain ⟨its,rv,p,hz⟩:=G.list J;refine wpAny_pyIter_list p.isList ?_;refine ⟨s1.heap.objs.size,[s1.heap.objs.size],_,_,H1,rfl,G.kept (t':=s1.toks) λb o e=>O0 _ e,Qcz a _,⟨_,D0 _ rfl,rfl,rfl⟩,λb U=>?_,q⟩
 have e:b=s1.heap.objs.size:=by simpa using U
 subst e;exact G.fpOk (O5 _) (G.hok.fresh (O5 _))
theorem Qrf (O:PE X l tl):PI X tg l (Qz7 X.K tl):=by
 intro pins s σ H R I h;refine thn (O pins s σ H _ I h) λv s1 ⟨x,H1,G,Y,Z⟩=>?_
 obtain ⟨a,e,⟨xs,J⟩,q⟩:=Z;subst e;cases Y;obtain ⟨its,rv,p,hz⟩:=G.tuple J;refine bN (show s1.heap.IsTuple a its.toArray from p) ?_;refine ⟨s1.heap.objs.size,[s1.heap.objs.size],_,_,H1,rfl,G.kept (t':=s1.toks) λb o e=>O0 _ e,Q9g a _,⟨_,D0 _ rfl,rfl,rfl⟩,λb U=>?_,q⟩
 have e:b=s1.heap.objs.size:=by simpa using U
 subst e;exact G.fpOk (O5 _) (G.hok.fresh (O5 _))
theorem Qg4 {σ:St} {R:It->Hp->Prop} {E:zAD} {lo hi:Int} {t u v:Tok} {J:Nat} (I:Inv X pins σ H s) (h1:-(2 ^ 62)<=lo) (h2:lo < 2 ^ 62) (h3:-(2 ^ 62)<=hi) (Y:hi < 2 ^ 62)
  (q:R (Itr lo (hi - lo).toNat) H):aF (aI X.prog X.w) X.A (pyIter (.ref s.heap.objs.size)) (PIE X pins σ tg R) E { s with heap:=s.heap.push { cls:=.type "range",data:=.fields #[.int lo t,.int hi u,.int 1 v] },toks:=J }:=by
 refine wpAny_pyIter_range (IsRange.new ..) (small_one h1 h2 h3 Y) ?_;have G:Inv X pins σ H { s with heap:=s.heap.push { cls:=.type "range",data:=.fields #[.int lo t,.int hi u,.int 1 v] },toks:=J }:=I.kept λb o e=>O0 _ e
 refine ⟨(s.heap.push { cls:=.type "range",data:=.fields #[.int lo t,.int hi u,.int 1 v] }).objs.size,[(s.heap.push { cls:=.type "range",data:=.fields #[.int lo t,.int hi u,.int 1 v] }).objs.size],_,_,H,rfl,
  G.kept (t':=J) λb o e=>O0 _ e,Q9h _ lo (hi - lo).toNat,?_,λb Z=>?_,q⟩
 ·have O:lo + ((0:Nat):Int) * 1=lo:=by simp
  have U:(((hi - lo).toNat:Nat):Int) - ((0:Nat):Int)=Builtin.Range.rangeSize lo hi 1:=by rw [rangeSize_one]; split <;> omega
  show IsRangeIter _ _ (lo + ((0:Nat):Int) * 1) ((((hi - lo).toNat:Nat):Int) - ((0:Nat):Int)) 1;rw [O,U];exact D0 _ rfl
 ·have e:b=(s.heap.push { cls:=.type "range",data:=.fields #[.int lo t,.int hi u,.int 1 v] }).objs.size:=by simpa using Z
  subst e;exact G.fpOk (O5 _) (G.hok.fresh (O5 _))
def Qwg (ta:TA):TI:=λσ H R=>ta σ H λvs H1=>∃ j:Int,vs=[.int j]/\-(2 ^ 62)<=j/\j < 2 ^ 62/\R (Itr 0 j.toNat) H1
theorem Qdi {a:aH} {ta:TA} {p:Pos} (U:Gl X "range") (hm:X.mg "range" = zl) (O:PA X [a] ta) (hs:aN [a] X.env=[(yo,aO a X.env)]:=by rfl):PI X tg (.Call (.Name "range" p) [a] [] pos) (Qwg ta):=by
 intro pins s σ H R I h;refine Call_ (Kx I U hm boot_range (cy (thn (O pos pins s σ H _ I h) λus s1 ⟨vs,H1,J,Z,G⟩=>?_) hs rfl))
 obtain ⟨j,e,G,Y,q⟩:=G;subst e;cases Z with
 | cons r rr=>
  cases rr;obtain ⟨t,rfl⟩:=r;exact call_range_1 (Qg4 J (by omega) (by omega) G Y (by simpa using q))
def Qyq (wi:TI) (g:TG) (tb:TS):TS:=λD σ H=>wi σ H λJ H1=>∃ W:Nat->Nat->St->Hp->Prop,(∃ m,W 0 m σ H1)/\∀ i m σ H,W i m σ H ->
 (J.stop i H/\D.nx σ H)\/(J.go i H/\∃ N:St->Hp->Prop,(∀ σ' H',N σ' H'->∃ m',m' < m/\W (i + 1) m' σ' H')/\∀ x H',J.yld i H x H'->g x σ H' λσ2 H2=>tb { D with nx:=N,ct:=N,bk:=D.nx } σ2 H2)
def Q27 (fp:List aB) (h:Heap):zAA:=fp.filterMap λb=>(h.get? b).map λo=>(b,o)
theorem Wp {o:Obj} (q:b∈fp) (e:h.get? b=zo o):(b,o)∈Q27 fp h:=dO.mpr ⟨b,q,by rw [e]; rfl⟩
theorem Qds {p:aB × Obj} (I:p∈Q27 fp h):p.1∈fp/\h.get? p.1=zo p.2:=by
 obtain ⟨b,G,e⟩:=dO.mp I;cases q:h.get? b with
 | none=>rw [q] at e; cases e
 | some o=>
  rw [q] at e;have J:(b,o)=p:=bn e;subst J;exact ⟨G,q⟩
theorem Inv.pinned {σ:St} (I:Inv X pins σ H s) (J:∀ b∈fp,Q3s X pins H b) (Y:∀ b∈fp,∃ o,s.heap.get? b=zo o/\∀ v,o.data≠.cell v):Inv X (pins ++ Q27 fp s.heap) σ H s:=
 I.pins_of λp hp=>(D9.mp hp).elim (λz=>I.pin p (E8 _ z)) λz=>by
  obtain ⟨G,e⟩:=Qds z;obtain ⟨Z,U,O,_⟩:=J p.1 G;obtain ⟨o,q,d⟩:=Y p.1 G;rw [e] at q; cases q;exact ⟨e,Z,U,O,d⟩
theorem Inv.unpinned {G:zAA} {σ:St} (I:Inv X (pins ++ G) σ H s):Inv X pins σ H s:=I.pins_of λp q=>I.pin p (E8 _ (F8 _ q))
theorem Qrc {iter:aH} {body:List aM} {wi:TI} {g:TG} {pos:Pos} (hp:PassesOwn (aI X.prog X.w) X.A X.env X.xe) (hc:X.calm=zb) (hi:PI X tg iter wi) (hg:PG X tg g) (Z:PSs X body tb)
  (hs:∀ x,bG iter X.env x=pure x:=by intro _; rfl):PS X (.For tg iter body [] pos) (Qyq wi g tb):=by
 intro pins s σ H D I h;refine wpAny_For (thn (hi pins s σ H _ I h) λv s1 h1=>thn h1 λa9 s2 h2=>?_) hs
 obtain ⟨it,fp,tn,J,H2,e,I2,T,a5,f2,W,⟨m0,w0⟩,turn⟩:=h2;subst e;have Y:∀ {H':Hp},(∀ b∈fp,H' b=zl)->∀ b∈fp,Q3s X pins H' b:=λhn b Z=>⟨hn b Z,(f2 b Z).2⟩
 refine codeAny_forLoop_any (λn s'=>∃ i O H',Inv X pins O H' s'/\tn i s'.heap/\(∀ b∈fp,H' b=zl)/\W i n O H') ?_ m0 ⟨0,σ,H2,I2,a5,λb Z=>(f2 b Z).1,w0⟩
 rintro n s3 ⟨i,a1,H3,I3,a4,a3,w3⟩;rcases turn i n a1 H3 w3 with ⟨stop,qn⟩ | ⟨go,N,hN,step⟩
 ·refine bL hp (thn (T.done X rfl rfl rfl hc i pins s3 a1 H3 X.xe I3 (Y a3) a4 stop) λr s4 ⟨hr,I4⟩=>?_)
  subst hr;exact wpAny_execs_nil ⟨a1,H3,I4,qn⟩
 ·refine bL hp (thn (T.item X rfl rfl rfl hc i pins s3 a1 H3 X.xe I3 (Y a3) a4 go) λr s4 ⟨u,hr,h4⟩=>?_)
  subst hr;refine bL hp (thn h4 λ_ s5 ⟨x,H5,I5,r5,y5,a2,a7⟩=>?_);have a6:=I5.pinned (Y a7) (T.obj _ _ a2);refine bL hp (thn (hg _ s5 a1 H5 x u _ a6 r5 (step x H5 y5)) λ_ s6 ⟨a8,H6,I6,q6⟩=>?_)
  refine bL hp (thn (Z _ s6 a8 H6 _ I6 q6) λf s7 q7=>?_)
  have again:∀ {q:St} {U:Hp},Inv X (pins ++ Q27 fp s5.heap) q U s7->N q U->∃ m,m < n/\∃ i O H',Inv X pins O H' s7/\tn i s7.heap/\(∀ b∈fp,H' b=zl)/\W i m O H':=λ{q U} G n7=>by
   obtain ⟨m',hm,w7⟩:=hN q U n7;refine ⟨m',hm,i + 1,q,U,G.unpinned,T.keep _ _ _ a2 λb Z o e=>(G.pin (b,o) (E8 _ (E8 _ (Wp Z e)))).1,λb Z=>?_,w7⟩;obtain ⟨o,e,d⟩:=T.obj _ _ a2 b Z;exact (G.pin (b,o) (E8 _ (E8 _ (Wp Z e)))).2.1
  cases f with
  | next=>obtain ⟨q,U,G,n7⟩:=q7; exact again G n7
  | cont=>obtain ⟨q,U,G,n7⟩:=q7; exact again G n7
  | brk=>obtain ⟨q,U,G,q7⟩:=q7; exact ⟨q,U,G.unpinned,q7⟩
  | ret v=>obtain ⟨x7,q,U,G,r7,q7⟩:=q7; exact ⟨x7,q,U,G.unpinned,r7,q7⟩
abbrev R2:=V->V->Hp->VK->Prop
variable {r:R2}
def OpR (X:Cx) (f:aA->aA->Sem aA) (r:R2):Prop:=
 ∀ (pins:zAA) (s:aC) (σ:St) (H:Hp) (x y:V) (v u:aA) (Q:VK),Inv X pins σ H s->RelV x v->RelV y u->r x y H Q ->
  aF (aI X.prog X.w) X.A (f v u) (EP X pins σ Q) X.xe s
def UnR (X:Cx) (f:aA->Sem aA) (r:V->Hp->VK->Prop):Prop:=
 ∀ (pins:zAA) (s:aC) (σ:St) (H:Hp) (x:V) (v:aA) (Q:VK),Inv X pins σ H s->RelV x v->r x H Q ->
  aF (aI X.prog X.w) X.A (f v) (EP X pins σ Q) X.xe s
def Wg (X:Cx) (f:aA) (r:List V->Hp->VK->Prop):Prop:=
 ∀ (pins:zAA) (s:aC) (σ:St) (H:Hp) (xs:List V) (us:List aA) (Q:VK),Inv X pins σ H s->Vals xs us->r xs H Q ->
  aF (aI X.prog X.w) X.A (call f us) (EP X pins σ Q) X.xe s
def tOp (r:R2) (ta tb:TE):TE:=λσ H Q=>ta σ H λx H1=>tb σ H1 λy H2=>r x y H2 Q
def tUn (r:V->Hp->VK->Prop) (ta:TE):TE:=λσ H Q=>ta σ H λx H1=>r x H1 Q
def rI (C:Int->Int->Prop) (g:Int->Int->V):R2:=λx y H Q=>∃ i j,x=.int i/\y=.int j/\C i j/\Q (g i j) H
def rI0 (g:Int->Int->V):R2:=λx y H Q=>∃ i j,x=.int i/\y=.int j/\Q (g i j) H
def rU (g:Int->V):V->Hp->VK->Prop:=λx H Q=>∃ i,x=.int i/\Q (g i) H
variable {b c:aH} {ta tb tc:TE}
section
variable {a:aH}
theorem Qtf (Y:PE X a ta) (hb:PE X b tb) {σ:St} {R:V->V->Hp->Prop} (I:Inv X pins σ H s)
  (h:ta σ H λx H1=>tb σ H1 λy H2=>R x y H2) {Q:zAD} {f:aA->aA->Sem aA}
  (U:∀ v u J x y H2,Inv X pins σ H2 J->RelV x v->RelV y u->R x y H2->aF (aI X.prog X.w) X.A (f v u) Q X.xe J) :
  aF (aI X.prog X.w) X.A (aO a X.env) (λv q=>aF (aI X.prog X.w) X.A (aO b X.env) (λu G=>aF (aI X.prog X.w) X.A (f v u) Q X.xe G) X.xe q) X.xe s:=by
 refine thn (Y pins s σ H _ I h) λv s1 ⟨x,H1,O,r1,q1⟩=>?_
 refine thn (hb pins s1 σ H1 _ O q1) λu J ⟨y,H2,I2,Z,q2⟩=>?_
 exact U v u J x y H2 I2 r1 Z q2
theorem Qpi {op:Operator} (O:OpR X (af op) r) (G:PE X a ta) (Z:PE X b tb):PE X (.BinOp a op b pos) (tOp r ta tb):=by
 intro pins s σ H Q I h;exact wpAny_BinOp (Qtf G Z I h λv u Y x y H2 I2 U J q=>O pins Y σ H2 x y v u Q I2 U J q)
theorem Qvb {op:UnaryOp} {r:V->Hp->VK->Prop} (J:UnR X (unaryOp op) r) (G:PE X a ta):PE X (.UnaryOp op a pos) (tUn r ta):=by
 intro pins s σ H Q I h;exact UnaryOp_ (thn (G pins s σ H _ I h) λv s1 ⟨x,H1,q,O,U⟩=>J pins s1 σ H1 x v Q q O U)
theorem opI {f:aA->aA->Sem aA} {C:Int->Int->Prop} {g:Int->Int->Int}
  (rule:∀ (i j:Int) (t u:Tok) (s:aC) (Q:zAD) (E:zAD),C i j->Q (.int (g i j) s.toks) { s with toks:=s.toks + 1 }->aF (aI X.prog X.w) X.A (f (.int i t) (.int j u)) Q E s) :
  OpR X f (rI C λi j=>.int (g i j)):=by
 intro pins s σ H x y v u Q I J G h;obtain ⟨i,j,rfl,rfl,O,q⟩:=h;obtain ⟨t,rfl⟩:=J;obtain ⟨t',rfl⟩:=G;exact rule i j t t' s _ _ O ⟨.int (g i j),H,I.tok _,⟨_,rfl⟩,q⟩
theorem Qvr {f:aA->aA->Sem aA} {g:Int->Int->Int}
  (rule:∀ (i j:Int) (t u:Tok) (s:aC) (Q:zAD) (E:zAD),Q (.int (g i j) s.toks) { s with toks:=s.toks + 1 }->aF (aI X.prog X.w) X.A (f (.int i t) (.int j u)) Q E s) :
  OpR X f (rI0 λi j=>.int (g i j)):=by
 intro pins s σ H x y v u Q I J G h;obtain ⟨i,j,rfl,rfl,q⟩:=h;obtain ⟨t,rfl⟩:=J;obtain ⟨t',rfl⟩:=G;exact rule i j t t' s _ _ ⟨.int (g i j),H,I.tok _,⟨_,rfl⟩,q⟩
theorem Qmj {f:aA->aA->Sem aA} {g:Int->Int->Bool}
  (rule:∀ (i j:Int) (t u:Tok) (s:aC) (Q:zAD) (E:zAD),Q (.bool (g i j)) s->aF (aI X.prog X.w) X.A (f (.int i t) (.int j u)) Q E s) :
  OpR X f (rI0 λi j=>.bl (g i j)):=by
 intro pins s σ H x y v u Q I J G h;obtain ⟨i,j,rfl,rfl,q⟩:=h;obtain ⟨t,rfl⟩:=J;obtain ⟨t',rfl⟩:=G;exact rule i j t t' s _ _ ⟨.bl (g i j),H,I,rfl,q⟩
def Qzh (i j:Int):Prop:=0<=j/\j<=1000000/\i.natAbs < 2 ^ 64
def CMul (i j:Int):Prop:=(-(2 ^ 64) < i/\i < 2 ^ 64)\/(-(2 ^ 64) < j/\j < 2 ^ 64)
theorem CMul.ok {i j:Int} (h:CMul i j):IntMulOk i j:=by
 rcases h with ⟨h1,h2⟩ | ⟨h1,h2⟩
 ·exact .of_left (intBits_le_64 h1 h2)
 ·exact .of_right (intBits_le_64 h1 h2)
theorem Qs8:OpR X (af .Add) (rI0 λi j=>.int (i + j)):=Qvr λ_ _ _ _ _ _ _ q=>add_int q
theorem Qs1:OpR X (af .Sub) (rI0 λi j=>.int (i - j)):=Qvr λ_ _ _ _ _ _ _ q=>sub_int q
theorem Qs4:OpR X (af .Mult) (rI CMul λi j=>.int (i * j)):=opI λ_ _ _ _ _ _ _ G q=>mul_int q G.ok
theorem Qs5:OpR X (af .Mod) (rI (λ_ j=>0 < j) λi j=>.int (i % j)):=opI λi j _ _ _ _ _ G q=>by
 have h1:(0:Int) < j:=G;exact mod_int' (by omega) (by rw [Int.fmod_eq_emod_of_nonneg i (by omega)]; exact q)
theorem Qs3:OpR X (af .Pow) (rI Qzh λi j=>.int (i ^ j.toNat)):=opI λ_ _ _ _ _ _ _ G q=>pow_int_small G.1 G.2.1 G.2.2 q
theorem unI {f:aA->Sem aA} {g:Int->Int}
  (rule:∀ (i:Int) (t:Tok) (s:aC) (Q:zAD) (E:zAD),Q (.int (g i) s.toks) { s with toks:=s.toks + 1 }->aF (aI X.prog X.w) X.A (f (.int i t)) Q E s) :
  UnR X f (rU λi=>.int (g i)):=by
 intro pins s σ H x v Q I G h;obtain ⟨i,rfl,q⟩:=h;obtain ⟨t,rfl⟩:=G;exact rule i t s _ _ ⟨.int (g i),H,I.tok _,⟨_,rfl⟩,q⟩
theorem Qq1:UnR X (unaryOp .USub) (rU λi=>.int (-i)):=unI λ_ _ _ _ _ q=>neg_int q
end
section
variable {a:aH}
theorem Q6j {σ:St} {Q:VK} {k G:Bool} (I:Inv X pins σ H s) (q:Q (.bl k) H) (e:k=G):EP X pins σ Q (.bool G) s:=by
 subst e;exact ⟨.bl k,H,I,rfl,q⟩
theorem Qvn:OpR X (aU .Lt) (rI0 λi j=>.bl (decide (i < j))):=Qmj λ_ _ _ _ _ _ _ q=>lt_int q
theorem Qpm:OpR X (aU .LtE) (rI0 λi j=>.bl (decide (i<=j))):=Qmj λ_ _ _ _ _ _ _ q=>le_int q
theorem Qvp:OpR X (aU .Gt) (rI0 λi j=>.bl (decide (j < i))):=Qmj λ_ _ _ _ _ _ _ q=>gt_int q
theorem Qvq:OpR X (aU .GtE) (rI0 λi j=>.bl (decide (j<=i))):=Qmj λ_ _ _ _ _ _ _ q=>ge_int q
theorem Qmh:OpR X (aU .IsNot) (λx y H Q=>y=.non/\Q (.bl (!decide (x=.non))) H):=by
 intro pins s σ H x y v u Q I G J h;obtain ⟨rfl,q⟩:=h;cases J;refine isnot_none_gen (Q6j I q ?_);cases x <;> first
  | (cases G; rfl)
  | (obtain ⟨t,rfl⟩:=G; rfl)
theorem OpR.or {G:R2} (h:OpR X f r) (h':OpR X f G):OpR X f (λx y H Q=>r x y H Q\/G x y H Q):=by
 intro pins s σ H x y v u Q I O J q;rcases q with q | q
 ·exact h pins s σ H x y v u Q I O J q
 ·exact h' pins s σ H x y v u Q I O J q
theorem Qa4 (b:aH) (h:op≠.In:=by decide) (h2:op≠.NotIn:=by decide):bO op b=yo:=by
 have q:(op == CmpOp.In)=yo:=by cases op <;> first | rfl | exact absurd rfl h
 have G:(op == CmpOp.NotIn)=yo:=by cases op <;> first | rfl | exact absurd rfl h2
 cases b <;> simp [bO,q,G]
theorem Q5r (O:OpR X (aU op) r) (G:PE X a ta) (Z:PE X b tb) (hm:bO op b=yo):PE X (.Compare a [op] [b] pos) (tOp r ta tb):=by
 intro pins s σ H Q I h;exact wpAny_Compare1 (Qtf G Z I h λv u Y x y H2 I2 U J q=>O pins Y σ H2 x y v u Q I2 U J q) hm
def Qp9 (t:TE):TT:=λσ H Q=>t σ H λx H'=>∃ k,x=.bl k/\Q k H'
theorem Qkp (Z:OpR X (aU op) r) (J:PE X a ta) (hb:PE X b tb) (hm:bO op b=yo):PT X (.Compare a [op] [b] pos) (Qp9 (tOp r ta tb)):=by
 intro pins s σ H Q I h;refine wpAny_isTrue_Compare1 (thn (J pins s σ H _ I h) λv s1 ⟨x,H1,q,r1,q1⟩=>thn (hb pins s1 σ H1 _ q q1) λu s2 ⟨y,H2,I2,U,q2⟩=>
  thn (Z pins s2 σ H2 x y v u _ I2 r1 U q2) λc s3 ⟨z,Y,O,G,k,e,q3⟩=>?_) hm
 subst e;cases G;exact bE ⟨Y,O,q3⟩
def Q9j (r r':R2) (ta tb tc:TE):TE:=λσ H Q=>ta σ H λx H1=>tb σ H1 λy H2=>r x y H2 λz H3=>∃ k,z=.bl k /\
 (if k=zb then tc σ H3 λw' H4=>r' y w' H4 Q else Q (.bl yo) H3)
theorem Qgs {q:CmpOp} {Z:R2} (ho:OpR X (aU op) r) (G:OpR X (aU q) Z) (ha:PE X a ta) (hb:PE X b tb) (hc:PE X c tc)
  (hm:lastMarks [op,q] [b,c]=yo:=by with_unfolding_all rfl):PE X (.Compare a [op,q] [b,c] pos) (Q9j r Z ta tb tc):=by
 intro pins s σ H Q I h;refine Compare_chain (thn (ha pins s σ H _ I h) λv s1 ⟨x,H1,I1,r1,q1⟩=>chain_link (thn (hb pins s1 σ H1 _ I1 q1) λu s2 ⟨y,H2,I2,J,q2⟩=>
  thn (ho pins s2 σ H2 x y v u _ I2 r1 J q2) λd s3 ⟨z,O,Y,r3,k,e,U⟩=>?_)) hm
 subst e;cases r3;refine bE ?_;cases k with
 | false=>exact ite_ff ⟨.bl yo,O,Y,rfl,U⟩
 | true=>exact ite_tt (chain_last (thn (hc pins s3 σ O _ Y U) λw' s4 ⟨z',H4,I4,r4,q4⟩=>G pins s4 σ H4 y z' u w' Q I4 J r4 q4))
theorem Qg9 {q:CmpOp} {Z:R2} (ho:OpR X (aU op) r) (G:OpR X (aU q) Z) (ha:PE X a ta) (hb:PE X b tb) (hc:PE X c tc)
  (hm:lastMarks [op,q] [b,c]=yo:=by with_unfolding_all rfl):PT X (.Compare a [op,q] [b,c] pos) (Qp9 (Q9j r Z ta tb tc)):=by
 intro pins s σ H Q I h;refine isTrue_chain (thn (ha pins s σ H _ I h) λv s1 ⟨x,H1,I1,r1,q1⟩=>test_link (thn (hb pins s1 σ H1 _ I1 q1) λu s2 ⟨y,H2,I2,J,q2⟩=>
  thn (ho pins s2 σ H2 x y v u _ I2 r1 J q2) λd s3 ⟨z,O,Y,r3,k,e,U⟩=>?_)) hm
 subst e;cases r3;refine bE ?_;cases k with
 | false=>
  obtain ⟨k',e',q'⟩:=U;cases e';exact ite_ff ⟨O,Y,q'⟩
 | true=>
  refine ite_tt (test_last (thn (hc pins s3 σ O _ Y U) λw' s4 ⟨z',H4,I4,r4,q4⟩=>thn (G pins s4 σ H4 y z' u w' _ I4 J r4 q4) λd' s5 ⟨z2,H5,I5,r5,k2,e2,q5⟩=>?_))
  subst e2;cases r5;exact bE ⟨H5,I5,q5⟩
theorem Q00:(sizeLine:Nat) < 2 ^ 63:=by rw [sizeLine_eq]; decide
theorem Q9z:OpR X (af .Add) (λx y H Q=>∃ i j,x=.str i/\y=.str j/\i.length + j.length<=sizeLine/\Q (.str (i ++ j)) H):=by
 intro pins s σ H x y v u Q I J G h;obtain ⟨i,j,rfl,rfl,hz,q⟩:=h;obtain ⟨t,rfl⟩:=J;obtain ⟨t',rfl⟩:=G;exact add_str (λt' O=>⟨.str (i ++ j),H,I.tok _,⟨_,rfl⟩,q⟩) hz
theorem U5 {x:V} (r:Vals [x] us):∃ u,us=[u]/\RelV x u:=by
 cases r with
 | cons q G=>cases G; exact ⟨_,rfl,q⟩
theorem Qud {x y:V} (r:Vals [x,y] us):∃ u q,us=[u,q]/\RelV x u/\RelV y q:=by
 cases r with
 | cons O I=>
  cases I with
  | cons G J=>cases J; exact ⟨_,_,rfl,O,G⟩
end
structure ObjM (h:Heap) (x dx C:aB) (mA:zAE):Prop where
 obj:h.get? x=zo (eX C dx)
 ns:h.Ns1 dx mA
 ne:dx≠x
theorem Qe2 (n:h.Ns1 dx mA):∃ I,h.get? dx=zo I/\∀ name,ee name I=zo (mA name):=by
 obtain ⟨o,es,ep,U,hd,J,_,hm⟩:=n;refine ⟨o,U,λname=>?_⟩;have e:=hm name;unfold nsFind findBy at e;rw [<- Array.find?_toList] at e;unfold ee;rw [hd];dsimp only
 split
 ·rename_i y q;rw [q] at e;exact congrArg zo e
 ·rename_i q;rw [q] at e;have a:es.toList.any (·.refKey)=yo:=by
   rw [cz];intro y O;obtain ⟨z,t,G⟩:=J y (em.mp O);simp [DictEntry.refKey,G]
  have Y:¬ es.toList.any (·.refKey)=zb:=by rw [a]; exact D2
  rw [bU Y];exact congrArg zo e
theorem ObjM.look {C:aB} (I:ObjM h x dx C mA):∃ q,PySem.W.InstAt h x (eX C dx) C (zo q)/\∀ name,ee name q=zo (mA name):=
 let ⟨q,G,J⟩:=Qe2 I.ns
 ⟨q,⟨I.obj,rfl,rfl,G⟩,J⟩
theorem RelO.some_of {o:Option aA} (r:RelO (zo v) o):∃ u,o=zo u/\RelV v u:=by
 cases o with
 | none=>exact (show False from r).elim
 | some u=>exact ⟨u,rfl,r⟩
variable {C dx:aB}
section
variable {w:aJ} {fs fs':List (Str × V)}
theorem Qnd (hok:HOk P w H h) (e:H a=zo (.ins C dx fs)):∃ mA,ObjM h a dx C mA/\(∀ f,RelO (fs.lookup f) (mA f))/\fy mA (fs.map (·.1))/\fs.length<=1000/\H dx=zo (.own a):=by
 obtain ⟨d,z,ne,ob,mA,n,r,q⟩:=(show ObjOk P w H h a (.ins C dx fs) from hok a _ e);exact ⟨mA,⟨ob,n,ne⟩,r,q,z,d⟩
end
structure Cls (K:bX) (C:aB):Prop where
 pg:gE K C ca=zb
 hd:PySem.W.hasDictIn K C=zb
 po:PySem.W.plainOver K C=zb
 sa:gF K (.ref C) "__setattr__" = zo (zo (.builtin "object.__setattr__"))
theorem Cls.get (c:Cls K C) (f:Str):gE K C f=zb:=c.pg
variable {A:aL} {E:zAD} {Q:zAD}
section
variable {σ:St} {c:aA} {b:Bool}
inductive TyOf (K:bX) (H:Hp):V->aA->Prop where
 | non:TyOf K H .non (.type "NoneType")
 | bl (x:Bool):TyOf K H (.bl x) (.type "bool")
 | int (i:Int):TyOf K H (.int i) (.type "int")
 | str (x:Str):TyOf K H (.str x) (.type "str")
 | flt (x:UInt64):TyOf K H (.flt x) (.type "float")
 | lst {a:aB} {xs:List V} (e:H a=zo (.lst xs)):TyOf K H (.ref a) (.type "list")
 | frz {a:aB} {o:Obj} {xs:List V} (e:H a=zo (.frz o (.lst xs))):TyOf K H (.ref a) (.type "list")
 | tup {a:aB} {xs:List V} (e:H a=zo (.tup xs)):TyOf K H (.ref a) (.type "tuple")
 | dK {a:aB} {kvs:List (Key × V)} (e:H a=zo (.dK kvs)):TyOf K H (.ref a) (.type "dict")
 | dT {a:aB} {kvs:List (HK × V)} (e:H a=zo (.dT kvs)):TyOf K H (.ref a) (.type "dict")
 | ins {a C dx:aB} {fs:List (Str × V)} (e:H a=zo (.ins C dx fs)) (cl:Cls K C) (ha:gF K (.ref C) "__class__" = zo (zo (.builtin "object.__class__")))
   (hn:PySem.W.specialIn K (.builtin "object.__class__") "__get__" = zo (zo (.builtin "getset_descriptor.__get__"))) (htk:PySem.W.takesIn K (.builtin "object.__class__")=zo zb)
   (hm:PySem.W.mroIn K C (.type "object")=zo zb):TyOf K H (.ref a) (.ref C)
theorem Qe5 {x:V} {u t:aA} (I:Inv X pins σ H s) (G:RelV x u) (ty:TyOf X.K H x t) (e:ew X.K t c=zo b) (h:∀ tk,Q (.bool b) { s with toks:=tk }) :
  aF (aI X.prog X.w) A (call (.builtin "isinstance") [u,c]) Q E s:=by
 cases ty with
 | non=>cases (show u=bc from G); exact cI PySem.W.kitx_none I.kIn True.intro e (λz=>nomatch z) h
 | bl y=>cases (show u=cq y from G); exact cI PySem.W.kitx_bool I.kIn True.intro e (λz=>nomatch z) h
 | int i=>obtain ⟨t,q⟩:=(show ∃ t,u=dZ i t from G); cases q; exact cI PySem.W.kitx_int I.kIn True.intro e (λz=>nomatch z) h
 | str y=>obtain ⟨t,q⟩:=(show ∃ t,u=da y t from G); cases q; exact cI PySem.W.kitx_str I.kIn True.intro e (λz=>nomatch z) h
 | flt y=>obtain ⟨t,q⟩:=(show ∃ t,u=fx y t from G); cases q; exact cI PySem.W.kitx_float I.kIn True.intro e (λz=>nomatch z) h
 | @lst a xs U=>
  cases (show u=bZ a from G);obtain ⟨_,_,n,_,h1⟩:=(show ObjOk X.prog X.w H s.heap a (.lst xs) from I.hok a _ U);exact cI gG I.kIn ⟨_,h1,rfl⟩ e (λz=>nomatch z) h
 | @frz a ob xs U=>
  cases (show u=bZ a from G);obtain ⟨_,_,_,n,_,h1⟩:=(show ObjOk X.prog X.w H s.heap a (.frz ob (.lst xs)) from I.hok a _ U);exact cI gG I.kIn ⟨_,h1,rfl⟩ e (λz=>nomatch z) h
 | @tup a xs U=>
  cases (show u=bZ a from G);obtain ⟨_,_,_,p⟩:=(show ObjOk X.prog X.w H s.heap a (.tup xs) from I.hok a _ U);obtain ⟨o,h1,h2,_⟩:=p;exact cI PySem.W.kitx_tuple I.kIn ⟨o,h1,h2⟩ e (λz=>nomatch z) h
 | @dK a Y U=>
  cases (show u=bZ a from G);obtain ⟨_,_,vs,_,p⟩:=(show ObjOk X.prog X.w H s.heap a (.dK Y) from I.hok a _ U);obtain ⟨o,es,ep,h1,h2,_⟩:=p;exact cI gH I.kIn ⟨o,h1,h2.1⟩ e (λz=>nomatch z) h
 | @dT a Y U=>
  cases (show u=bZ a from G);obtain ⟨_,_,xs,_,o,es,ep,h1,h2,_⟩:=(show ObjOk X.prog X.w H s.heap a (.dT Y) from I.hok a _ U);exact cI gH I.kIn ⟨o,h1,h2.1⟩ e (λz=>nomatch z) h
 | @ins a C dx fs U cl ha hn Z hm=>
  cases (show u=bZ a from G);obtain ⟨mA,O,_⟩:=Qnd I.hok U;obtain ⟨od,J,_⟩:=O.look;exact cI (PySem.W.kitx_own (cl.get _) cl.hd ha hn Z hm) I.kIn J e (λz=>nomatch z) h
end
structure Room (k:Nat) (A:aL):Prop where
 hd:A.handled=zl
 dp:A.depth + 3 * k + 5 < recursionLimit
 un:A.units + 16 * k + 200 < aQ
theorem Room.mono {j:Nat} (r:Room k A) (h:j<=k):Room j A:=⟨r.hd,by have:=r.dp; omega,by have:=r.un; omega⟩
theorem Room.deeper (r:Room (k + 1) A) (env:Env):Room k (A.deeper env):=
 ⟨r.hd,by have:=r.dp; show A.depth + 1 + 3 * k + 5 < _; omega,by have:=r.un; show A.units + 3 + 16 * k + 200 < _; omega⟩
theorem Room.depth (r:Room k A):A.depth < recursionLimit:=by have:=r.dp; omega
theorem Room.units (r:Room k A):A.units + 64 < aQ:=by have:=r.un; omega
def Qym:TA:=λ_ H Q=>Q [] H
def Qup (ta:TE) (tr:TA):TA:=λσ H Q=>ta σ H λx H1=>tr σ H1 λxs H2=>Q (x :: xs) H2
variable {es:List aH}
section
variable {e:aH} {t:TA}
theorem Us:PA X [] Qym:=λ_ _ _ _ H Q I h=>Calls.spliced_nil ⟨[],H,I,.nil,h⟩
theorem W3 (G:PE X e te) (U:PA X es t) (hs:aN (e :: es) X.env=(yo,aO e X.env) :: aN es X.env:=by rfl):PA X (e :: es) (Qup te t):=by
 intro pos pins s σ H Q I h;rw [hs];show aF _ _ (spliced ((yo,aO e X.env) :: ae pos (aN es X.env))) _ _ s;refine Calls.spliced_cons (thn (G pins s σ H _ I h) λu s1 ⟨x,H1,q,Y,q1⟩=>?_)
 exact thn (U pos pins s1 σ H1 _ q q1) λus s2 ⟨xs,H2,Z,J,O⟩=>⟨x :: xs,H2,Z,.cons Y J,O⟩
def Qye (t:TA):TE:=λσ H Q=>t σ H λxs H1=>xs.length<=sizeLine/\∀ p,H1 p=zl->Q (.ref p) (upd H1 p (.tup xs))
def Qyn (t:TA):TE:=λσ H Q=>t σ H λxs H1=>xs.length<=sizeLine/\∀ p,H1 p=zl->Q (.ref p) (upd H1 p (.lst xs))
theorem Qrj {x1} (h:PA X es t):PE X (.Tuple es x1 pos) (Qye t):=by
 intro pins s σ H Q I O;refine wpAny_Tuple_spliced (thn (h pos pins s σ H _ I O) λus s1 ⟨xs,H1,G,r,z,q⟩=>⟨by rw [<- r.length]; exact z,?_⟩)
 have J:H1 s1.heap.objs.size=zl:=G.hok.fresh (O5 _);refine ⟨.ref s1.heap.objs.size,upd H1 s1.heap.objs.size (.tup xs),G.laid (t':=s1.toks) (λb u e=>O0 _ e) (O5 _) ?_,rfl,q _ J⟩;exact ⟨z,us,r,⟨_,D0 _ rfl,rfl,_,rfl⟩⟩
theorem Qgp (h:PA X es t):PE X (.List es pos) (Qyn t):=by
 intro pins s σ H Q I O;refine wpAny_List_spliced (thn (h pos pins s σ H _ I O) λus s1 ⟨xs,H1,G,r,z,q⟩=>⟨by rw [<- r.length]; exact z,?_⟩)
 have J:H1 s1.heap.objs.size=zl:=G.hok.fresh (O5 _);refine ⟨.ref s1.heap.objs.size,upd H1 s1.heap.objs.size (.lst xs),G.laid (t':=s1.toks) (λb u e=>O0 _ e) (O5 _) ?_,rfl,q _ J⟩;exact ⟨z,us,0,r,D0 _ rfl⟩
end
abbrev Sp:=List V->Hp->VK->XK->Prop
abbrev CXT:=List Env->Hp->aC->XK->aA->aC->Prop
structure Env0 (P:aK) (w:aJ) (K:bX) (mg:zAE) (base:Heap) (A:aL) (outer:List Env) (s:aC) (H:Hp):Prop where
 frames:A.frames=zo outer
 mod:Mod K mg base
 bs:∀ b o,base.get? b=zo o->s.heap.get? b=zo o/\H b=zl
 bsz:base.objs.size<=s.heap.objs.size
 funs:s.heap.FunFrames base outer
 frf:∀ b∈frs outer,H b=zl
 hok:HOk P w H s.heap
 bare:AllBare s.gens
def CE (outer:List Env) (P:aK) (w:aJ) (H:Hp) (s:aC) (Q:VK) (u:aA) (s':aC):Prop:=
 ∃ v H',s'.os=s.os/\AllBare s'.gens/\Un (frs outer) [] H H' s.heap s'.heap/\HOk P w H' s'.heap/\RelV v u/\Q v H'
def CR (CX:CXT) (outer:List Env) (P:aK) (w:aJ) (H:Hp) (s:aC) (Q:VK) (E:XK) (r:Result) (s':aC):Prop:=
 match r with
 | .ok (.ret u)=>CE outer P w H s Q u s'
 | .ok _=>False
 | .error e=>CX outer H s E e s'
structure FnOk (P:aK) (w:aJ) (K:bX) (mg:zAE) (base:Heap) (CX:CXT) (k:Nat) (f:aB) (fd:aP) (ps:List Str) (sp:Sp):Prop where
 len:∀ vs H Q E,sp vs H Q E->vs.length=ps.length
 run:∀ (A:aL) (outer:List Env) (s:aC) (H:Hp) (args:Args) (us:List aA) (vs:List V) (Q:VK) (E:XK),Room k A->Env0 P w K mg base A outer s H->BindsTo s fd args (ps.zip us)->Vals vs us->sp vs H Q E ->
  codeAny (aI P w) A (.call (.ref f) args) (CR CX outer P w H s Q E) s
theorem FnOk.imp {w:aJ} {base:Heap} {CX:CXT} {f:aB} {sp G:Sp} (F:FnOk P w K mg base CX k f fd ps sp)
  (h:∀ vs H Q E,G vs H Q E->sp vs H Q E):FnOk P w K mg base CX k f fd ps G:=
 ⟨λvs H Q E q=>F.len vs H Q E (h _ _ _ _ q),λA outer s H args us vs Q E O I U J hs=>F.run A outer s H args us vs Q E O I U J (h _ _ _ _ hs)⟩
variable {s':aC}
section
variable {σ:St}
theorem Inv.env0 (I:Inv X pins σ H s):Env0 X.prog X.w X.K X.mg X.base X.A X.stack s H:=
 ⟨I.ok.frames,I.ok.mod,I.bs,E1 I.ok.bsz I.sz,I.stack,I.stkFree,I.hok,I.bare⟩
theorem Inv.after {Q:VK} {u:aA} (I:Inv X pins σ H s) (h:CE X.stack X.prog X.w H s Q u s'):EP X pins σ Q u s':=by
 obtain ⟨v,H',os,bare,un,hok,r,q⟩:=h;obtain ⟨J,g,d,t,G⟩:=s';obtain rfl:G=s.os:=os;exact ⟨v,H',I.call (h':=J) (g':=g) (d':=d) (t':=t) (ch:=[]) un hok bare (λb z=>absurd z (by simp)),r,q⟩
end
def Quq (sp:Sp) (dvs:List V) (E:XK) (t:TA):TE:=λσ H Q=>t σ H λvs H1=>sp (vs ++ dvs) H1 Q E
def Binds (K:bX) (fd:aP) (ps:List Str) (ds:List aA):Prop:=
 ∀ (s:aC) (us:List aA),K.In s.heap->(us ++ ds).length=ps.length->BindsTo s fd ⟨us,[]⟩ (ps.zip (us ++ ds))
theorem Binds.all (h:∀ us:List aA,us.length=ps.length->bindArgs fd ⟨us,[]⟩=pure (ps.zip us)):Binds K fd ps []:=λs us _ q=>by
 rw [L1] at q ⊢;exact .of_eq (h us q)
def Q3p (CX:CXT) (X:Cx) (E:XK):Prop:=∀ (pins:zAA) (σ:St) (H:Hp) (s:aC) (e:aA) (s':aC),Inv X pins σ H s->CX X.stack H s E e s'->X.xe e s'
variable {CX:CXT} {k:Nat} {f:aB} {fd:aP} {ps:List Str} {sp:Sp} {dvs:List V} {ds:List aA} {m:Str} {p apos:Pos}
section
variable {E:XK} {x:Str} {e o:aH} {t:TA}
theorem Qr3 {pins:zAA} {σ:St} {H:Hp} {s:aC} {Q:VK} {us:List aA} {vs:List V} (F:FnOk X.prog X.w X.K X.mg X.base CX k f fd ps sp) (U:Room k X.A) (Y:Binds X.K fd ps ds) (hd:Vals dvs ds) (J:Q3p CX X E)
  (I:Inv X pins σ H s) (r:Vals vs us) (h:sp (vs ++ dvs) H Q E):aF (aI X.prog X.w) X.A (call (.ref f) us) (EP X pins σ Q) X.xe s:=by
 have G:Vals (vs ++ dvs) (us ++ ds):=r.append hd;have O:(us ++ ds).length=ps.length:=by rw [<- G.length]; exact F.len _ _ _ _ h
 refine wpAny_call (bR (F.run X.A X.stack s H ⟨us,[]⟩ (us ++ ds) (vs ++ dvs) Q E U I.env0 (Y s us I.kIn O) G h) λr s' q=>?_)
 cases r with
 | error e=>exact J pins σ H s e s' I q
 | ok fl=>
  cases fl with
  | ret u=>exact I.after q
  | next=>exact False.elim q
  | brk=>exact False.elim q
  | cont=>exact False.elim q
theorem Qm8 (F:FnOk X.prog X.w X.K X.mg X.base CX k f fd ps sp) (hr:Room k X.A) (hg:Gl X x) (hm:X.mg x=zo (.ref f)) (hk:cb X.K (.ref f)=zb) (hb:Binds X.K fd ps ds) (hd:Vals dvs ds) (Z:Q3p CX X E)
  (Y:PA X (e :: es) t) (G:(x == ("__debug__" : Str))=yo:=by decide) (U:aN (e :: es) X.env=(yo,aO e X.env) :: aN es X.env:=by rfl) (J:(ae pos (aN es X.env)).any (·.1)=yo:=by rfl) :
  PE X (.Call (.Name x p) (e :: es) [] pos) (Quq sp dvs E t):=by
 intro pins s σ H Q I h;refine wpAny_Call_Name_kw (Q6b I hg hm ?_ G);refine PySem.W.callWith_K (h₀:=X.base) I.ok.mod.kin hk (thn (Y pos pins s σ H _ I h) λus s1 ⟨vs,H1,O,r,q⟩=>⟨O.kIn,?_⟩) U J
 exact Qr3 F hr hb hd Z O r q
end
structure FnScope (N P:List Str) (sc:Scope):Prop where
 kind:sc.kind=.function
 co:sc.isCoroutine=yo
 gen:sc.isGenerator=yo
 nd:N.Nodup
 pre:N.take P.length=P
 par:∀ x∈P,sc.names.lookup x=zo .local\/sc.names.lookup x=zo .cell
 nofree:∀ y∈sc.names,y.2≠.free
theorem Q54 {kindOf:Str->Option ay} {x:Str}:∀ {binds:List (Str × aA)} {m:zAE},(∀ v,(x,v)∉binds)->bindL kindOf binds m x=m x
 | [],_,_=>rfl
 | (n,v) :: r,m,h=>by
  unfold bindL;rw [Q54 λw q=>h w (O4 _ q)]
  split
  ·have:x≠n:=by rintro rfl; exact h v F3
   simp [this]
  ·rfl
theorem Q56 {kindOf:Str->Option ay} {x:Str}:∀ {binds:List (Str × aA)} {m:zAE},(∀ v,(x,v)∉binds)->bindC kindOf binds m x=m x
 | [],_,_=>rfl
 | (n,v) :: r,m,h=>by
  unfold bindC;rw [Q56 λw q=>h w (O4 _ q)]
  split
  ·rfl
  ·have:x≠n:=by rintro rfl; exact h v F3
   simp [this]
theorem Q55 {kindOf:Str->Option ay} {x:Str} {v:aA}:∀ {P:List Str} {vs:List aA} {i:Nat} {m:zAE},P.Nodup->P[i]?=zo x->vs[i]?=zo v->kindOf x=zo .local ->
  bindL kindOf (P.zip vs) m x=zo v
 | [],_,_,_,_,h,_,_=>by simp at h
 | _ :: _,[],_,_,_,_,h,_=>by simp at h
 | p :: P,w :: vs,0,m,nd,h1,h2,q=>by
  simp at h1 h2; subst h1; subst h2;show bindL kindOf ((p,w) :: P.zip vs) m p=_;unfold bindL;rw [Q54 λv G=>(ce.mp nd).1 (fA G).1,bT q]
  simp
 | p :: P,w :: vs,i + 1,m,nd,h1,h2,q=>by
  show bindL kindOf ((p,w) :: P.zip vs) m x=_;unfold bindL;exact Q55 (i:=i) (ce.mp nd).2 (by simpa using h1) (by simpa using h2) q
theorem Q57 {kindOf:Str->Option ay} {x:Str} {v:aA}:∀ {P:List Str} {vs:List aA} {i:Nat} {m:zAE},P.Nodup->P[i]?=zo x->vs[i]?=zo v->kindOf x≠zo .local ->
  bindC kindOf (P.zip vs) m x=zo v
 | [],_,_,_,_,h,_,_=>by simp at h
 | _ :: _,[],_,_,_,_,h,_=>by simp at h
 | p :: P,w :: vs,0,m,nd,h1,h2,q=>by
  simp at h1 h2; subst h1; subst h2;show bindC kindOf ((p,w) :: P.zip vs) m p=_;unfold bindC;rw [Q56 λv G=>(ce.mp nd).1 (fA G).1,bU q]
  simp
 | p :: P,w :: vs,i + 1,m,nd,h1,h2,q=>by
  show bindC kindOf ((p,w) :: P.zip vs) m x=_;unfold bindC;exact Q57 (i:=i) (ce.mp nd).2 (by simpa using h1) (by simpa using h2) q
def start (N:List Str) (vs:List V):St:=vs.map zo ++ ba (N.length - vs.length) zl
def Qef (CX:CXT) (P:aK) (w:aJ) (K:bX) (mg:zAE) (base:Heap) (N:List Str) (qual:Str) (scope:Scope) (f:aB) (cd:aA) (A:aL) (outer:List Env) (s:aC) (H:Hp) (E:XK):Cx where
 prog:=P
 w:=w
 K:=K
 mg:=mg
 base:=base
 A:=A.deeper (envOfC qual scope s.heap.objs.size f cd)
 N:=N
 s₀:=s
 H₀:=H
 env:=envOfC qual scope s.heap.objs.size f cd
 outer:=outer
 stack:=envOfC qual scope s.heap.objs.size f cd :: outer
 ex:=[]
 calm:=zb
 fn:=λ_=>zb
 pn:=[]
 xe:=λe s'=>aF (aI P w) (A.deeper (envOfC qual scope s.heap.objs.size f cd)) (leaving (envOfC qual scope s.heap.objs.size f cd) e) (λ_ s''=>CX outer H s E e s'') (λe' s''=>CX outer H s E e' s'') s'
theorem Q97 {sc:Scope} {x:Str} (h:sc.names.lookup x=zo .cell):∃ c,(aq n sc.names []).lookup x=zo c:=by
 have q:=fB sc.names n [] (.inl h);exact gI.mp q
theorem Qe7 {CX:CXT} {P:aK} {w:aJ} {K:bX} {mg:zAE} {base:Heap} {N ps:List Str} {qual:Str} {scope:Scope} {f:aB} {cd:aA} {A:aL} {outer:List Env} {s s1:aC} {H:Hp} {E:XK} {us:List aA} {vs:List V}
  (S:FnScope N ps scope) (hd:A.handled=zl) (G:Env0 P w K mg base A outer s H) (hl:vs.length=ps.length) (r:Vals vs us)
  (x:InCallC s s.heap.objs.size (bindL (envOfC qual scope s.heap.objs.size f cd).kindOf (ps.zip us) λ_=>zl) (aq (s.heap.objs.size + 1) scope.names []) (bindC (envOfC qual scope s.heap.objs.size f cd).kindOf (ps.zip us) λ_=>zl) s1) :
  Inv (Qef CX P w K mg base N qual scope f cd A outer s H E) [] (start N vs) H s1:=by
 have a1:ps.length<=N.length:=by have:=congrArg dA S.pre; rw [L6] at this; omega
 obtain ⟨h1,tk,rfl,Y⟩:=x.done;have J:∀ b:aB,b∉(Qef CX P w K mg base N qual scope f cd A outer s H E).ex:=λb z=>absurd (show b∈([]:List aB) from z) (by simp)
 refine ⟨⟨G.mod,S.kind,rfl,rfl,O5 _,λy z c h1 h2=>?_,λy I=>?_,λy c _ h=>?_,λ_=>hd,Around.frames_deeper G.frames,.inr ⟨rfl,rfl⟩,λb z=>absurd z (J b),G.bs,G.bsz,λb _ _=>J b,λb z=>absurd z (J b),G.funs,G.frf⟩,
  rfl,G.bare,Un.kept Y,⟨_,x.toInCall.ns,λi y v h1 h2 h3=>?_⟩,λy c h=>⟨_,x.cell y c h⟩,G.hok.fresh (O5 _),λy c h=>?_,λp O=>absurd (show p∈([]:zAA) from O) (by simp),G.hok.kept Y,?_⟩
 ·exact name_of_addr x.apart (cQ h1) (cQ h2)
 ·have I:scope.names.lookup y=zo .cell\/scope.names.lookup y=zo .free:=I;rcases I with I | I
  ·exact Q97 I
  ·exact absurd rfl (S.nofree _ (cQ I))
 ·exact cr (x.above y c (cQ h))
 ·have hi:i < vs.length:=by
   unfold start at h2
   by_cases hi:i < vs.length
   ·exact hi
   ·rw [D6 (by simpa using hi)] at h2;rw [gJ] at h2
    split at h2 <;> cases h2
  have ha:vs[i]?=zo v:=by
   unfold start at h2;rw [O8 (by simpa using hi),D7] at h2;cases e:vs[i]? with
   | none=>rw [e] at h2; cases h2
   | some a=>rw [e] at h2; cases h2; rfl
  obtain ⟨u,Z,rv⟩:=r.get ha;have O:ps[i]?=zo y:=by
   rw [<- S.pre,gK (by omega)]; exact h1
  have U:ps.Nodup:=by rw [<- S.pre]; exact S.nd.sublist (gL _ _)
  refine ⟨u,rv,?_⟩;rcases S.par y (E6 O) with k | k
  ·exact .inl ⟨k,Q55 U O Z k⟩
  ·obtain ⟨c,e⟩:=Q97 (n:=s.heap.objs.size + 1) k;refine .inr ⟨.inl k,c,e,?_⟩;have q:=x.cell y c e;rw [Q57 U O Z (by show scope.names.lookup y≠_; rw [k]; decide)] at q;exact q
 ·exact G.hok.fresh (cr (x.above y c (cQ h)))
 ·unfold start;show _=N.length;rw [O6,O1,List.length_replicate];omega
theorem Qwy {CX:CXT} {P:aK} {w:aJ} {K:bX} {mg:zAE} {base:Heap} {k:Nat} {f:aB} {name qual:Str} {O:Arguments} {body:List aM} {scope:Scope} {dV kV a2 pm G ct oc:aA} {an od:Option aB}
  {a4:Array (Option aA)} {N ps:List Str} {sp:Sp} (lk:K.lookup f=zo ⟨oc,od,.func (br name qual O body scope dV kV a2 pm an G ct),a4⟩) (a3:cu K G qual=zb) (S:FnScope N ps scope)
  (len:∀ vs H Q E,sp vs H Q E->vs.length=ps.length)
  (Z:∀ (A:aL) (outer:List Env) (s:aC) (H:Hp) (vs:List V) (Q:VK) (E:XK),Room k (A.deeper (envOfC qual scope s.heap.objs.size f G))->sp vs H Q E ->
   ∃ t,PSs (Qef CX P w K mg base N qual scope f G A outer s H E) body t/\t { nx:=λ_ H'=>Q .non H',rt:=Q } (start N vs) H) :
  FnOk P w K mg base CX (k + 1) f (br name qual O body scope dV kV a2 pm an G ct) ps sp:=by
 refine ⟨len,λA outer s H args us vs Q E hr e0 hb r a1=>?_⟩;have hl:=len _ _ _ _ a1;have KX:K.In s.heap:=e0.mod.kin.keeps λb o e=>(e0.bs b o e).1
 have lim:s.heap.NoLimit:=e0.mod.nolimit.keeps λb o e=>(e0.bs b o e).1
 have Y:∀ y∈ps.zip us,scope.names.lookup y.1=zo .local\/(scope.names.lookup y.1=zo .cell/\((aq (s.heap.objs.size + 1) scope.names []).lookup y.1).isSome=zb):=λ⟨n,v⟩ hy=>by
  rcases S.par n (fA hy).1 with q | q
  ·exact .inl q
  ·exact .inr ⟨q,fB _ _ _ (.inl q)⟩
 refine codeAny_call_function hr.depth (KX _ _ lk) rfl S.co S.gen rfl (PySem.W.codeRec_of KX a3) (hb _ _ _ _ ?_);refine wpAny_newFunctionEnv_cells S.kind Y λenv he s1 x=>?_
 subst he;refine ⟨lim.keeps x.toInCall.keep,codeAny_func ?_⟩;obtain ⟨t,ht,hq⟩:=Z A outer s H vs Q E (hr.deeper _) a1;have I:Inv (Qef CX P w K mg base N qual scope f G A outer s H E) [] (start N vs) H s1:=Qe7 S hr.hd e0 hl r x;refine av (ht [] s1 (start N vs) H _ I hq) (λfl s' hs=>?_) λe s' hs=>hs
 have fin:∀ {U:St} {H':Hp} {v:V} {u:aA},Inv (Qef CX P w K mg base N qual scope f G A outer s H E) [] U H' s'->RelV v u->Q v H'->CE outer P w H s Q u s':=
  λ{U H' v u} J rv q=>⟨v,H',J.os,J.bare,J.base,J.hok,rv,q⟩
 cases fl with
 | ret u=>
  obtain ⟨v,U,H',J,rv,q⟩:=hs;exact fin J rv q
 | next=>
  obtain ⟨U,H',J,q⟩:=hs;exact fin (v:=V.non) (u:=bc) J rfl q
 | brk=>
  obtain ⟨_,_,_,q⟩:=hs;exact False.elim q
 | cont=>
  obtain ⟨_,_,_,q⟩:=hs;exact False.elim q
variable {T:String} {r:List V->Hp->VK->Prop}
section
variable {x:Str} {e:aH} {t:TA} {id:String}
def tCB (r:List V->Hp->VK->Prop) (t:TA):TE:=λσ H Q=>t σ H λvs H1=>r vs H1 Q
theorem zq (hc:Wg X (.builtin id) r) (Y:Gl X x) (hm:X.mg x=zl) (hv:aX x=zo (.builtin id)) (U:PA X (e :: es) t) (Z:x≠"__name__" := by decide) (q:(x == ("__debug__" : Str))=yo:=by decide)
  (J:aN (e :: es) X.env=(yo,aO e X.env) :: aN es X.env:=by rfl) (G:(ae pos (aN es X.env)).any (·.1)=yo:=by rfl):PE X (.Call (.Name x p) (e :: es) [] pos) (tCB r t):=by
 intro pins s σ H Q I h;refine wpAny_Call_Name_kw (Kx I Y hm hv ?_ Z q);exact io (thn (U pos pins s σ H _ I h) λus s1 ⟨vs,H1,O,r1,q1⟩=>hc pins s1 σ H1 vs us Q O r1 q1) J G
theorem X2 (hc:Wg X (.type T) r) (Y:Gl X x) (hm:X.mg x=zl) (hv:aX x=zo (.type T)) (U:PA X (e :: es) t) (Z:x≠"__name__" := by decide) (q:(x == ("__debug__" : Str))=yo:=by decide)
  (J:aN (e :: es) X.env=(yo,aO e X.env) :: aN es X.env:=by rfl) (G:(ae pos (aN es X.env)).any (·.1)=yo:=by rfl):PE X (.Call (.Name x p) (e :: es) [] pos) (tCB r t):=by
 intro pins s σ H Q I h;refine wpAny_Call_Name_kw (Kx I Y hm hv ?_ Z q);exact cy (thn (U pos pins s σ H _ I h) λus s1 ⟨vs,H1,O,r1,q1⟩=>hc pins s1 σ H1 vs us Q O r1 q1) J G
end
end L2
namespace HT
open PySem PyProof.Rows
def lexLt:List Int->List Int->Bool
 | [],[]=>yo
 | [],_ :: _=>zb
 | _ :: _,[]=>yo
 | x :: xs,y :: ys=>if x=y then lexLt xs ys else decide (x < y)
theorem Qaa (x y:Int) (xs ys:List Int):lexLt (x :: xs) (y :: ys)=if x=y then lexLt xs ys else decide (x < y):=rfl
theorem Q42:lexLt [] []=yo:=rfl
theorem Q2w (y:Int) (ys:List Int):lexLt [] (y :: ys)=zb:=rfl
theorem Q2x (x:Int) (xs:List Int):lexLt (x :: xs) []=yo:=rfl
theorem eqAt_int (A:aL) (s:aC) (a:Int) (t:Tok) (c:Int) (u:Tok):∃ e,SeqAt.EqAt A s (.int a t) (.int c u) e/\(e=zb <-> a=c):=
 ⟨(a == c),SeqAt.EqAt.int_int a t c u,by simp⟩
theorem rcLt_int (A:aL) (s:aC) (a:Int) (t:Tok) (c:Int) (u:Tok) (prog:aK) (w:aJ) (E:aA->aC->Prop) (Q:aA->aC->Prop) (h:Q (.bool (decide (a < c))) s) :
  aF (aI prog w) A (richCompare .Lt (.int a t) (.int c u)) Q E s:=
 (ip h:aF (aI prog w) A (aU .Lt (.int a t) (.int c u)) Q E s)
section
open PySem.SeqAt
open PySem.AutoSeq1 (wpAny_loadPart')
open PySem.MeetsSeq PySem.MeetsSeq2 PySem.MeetsSeq3
theorem Q3v (l b:aB) (I G:Array aA) (n n2:Nat) (dd a6:Option aB) (sl a7:Array (Option aA)) (ns ms:List Int) (hi:IntsAre I.toList ns) (hj:IntsAre G.toList ms) :
  Meets (Builtin.«tuple.__lt__» ⟨[.ref l,.ref b],[]⟩)
   (λ_ R s=>s.heap.get? l=zo { cls:=.type "tuple",dict:=dd,data:=.seq I n,slots:=sl }/\s.heap.get? b=zo { cls:=.type "tuple",dict:=a6,data:=.seq G n2,slots:=a7 } /\
    R (.ok (.ret (.bool (lexLt ns ms)))) s):=
 .of_wp λprog w A R s h=>by
  obtain ⟨hp,g,d,tk,os⟩:=s; obtain ⟨hl,hb,h⟩:=h;have f2:=AutoSeq1.sub_tuple_tuple;have z1:I.size=ns.length:=by rw [<- hi.length]; simp
  have z2:G.size=ms.length:=by rw [<- hj.length]; simp
  wp_walk using wpAny_loadPart' hl,wpAny_loadPart' hb,wpAny_forIn_list _ (λrest b s'=>b.1=zl/\s'=⟨hp,g,d,tk,os⟩/\∃ (vs ws:List aA) (U O:List Int),rest=vs.zip ws /\
   IntsAre vs U/\IntsAre ws O/\U.length + G.size=O.length + I.size/\R (.ok (.ret (.bool (lexLt U O)))) ⟨hp,g,d,tk,os⟩) _
  case turn=>
   rintro ⟨y,x⟩ rest b s' ⟨a2,rfl,vs,ws,U,O,hz,a3,Y,J,hR⟩;cases a3 with
   | nil=>rw [List.zip_nil_left] at hz; cases hz
   | cons a t a4=>
    cases Y with
    | nil=>rw [List.zip_nil_right] at hz; cases hz
    | cons c u a5=>
     rw [dj] at hz;injection hz with a8 a1
     injection a8 with hy hx
     subst hy hx;rw [Qaa] at hR;simp only [D4] at J;obtain ⟨e,he,Z⟩:=eqAt_int A.in1 ⟨hp,g,d,tk,os⟩ a t c u;refine aD (he prog w _ _ ?_);cases e with
     | true=>
      rw [bT (Z.mp rfl)] at hR
      wp_walk
      exact ⟨rfl,rfl,_,_,_,_,a1,a4,a5,by omega,hR⟩
     | false=>
      rw [bU (λq=>absurd (Z.mpr q) D2)] at hR
      have a9:=rcLt_int A.in1 ⟨hp,g,d,tk,os⟩ a t c u prog w
      wp_walk using a9
      exact ⟨_,rfl,by simpa using hR⟩
  case fin=>
   rintro ⟨b1,b2⟩ s' ⟨a2,rfl,vs,ws,U,O,hz,a3,Y,J,hR⟩;simp only at a2;subst a2;have hv:lexLt U O=decide (I.size < G.size):=by
    cases a3 with
    | nil=>
     cases Y with
     | nil=>
      simp only [cK] at J;rw [Q42];exact (bV (by omega)).symm
     | cons c u hw=>
      simp only [cK,D4] at J;rw [Q2w];exact (bW (by omega)).symm
    | cons a t hv=>
     cases Y with
     | nil=>
      simp only [cK,D4] at J;rw [Q2x];exact (bV (by omega)).symm
     | cons c u hw=>
      rw [dj] at hz;cases hz
   rw [hv] at hR
   wp_walk
   exact ⟨_,rfl,by simpa [Builtin.Tuple.tupleCompareSizes] using hR⟩
  case h=>
   exact ⟨rfl,rfl,I.toList,G.toList,ns,ms,rfl,hi,hj,by omega,h⟩
end
variable {prog:aK} {A:aL} {E:aA->aC->Prop} {s:aC}
section
variable {w:aJ}
theorem lt_tupInts {l b:aB} {G q:Array aA} {ns ms:List Int} {Q:aA->aC->Prop} (U:IsTup s.heap l G) (hb:IsTup s.heap b q) (hi:IntsAre G.toList ns) (Z:IntsAre q.toList ms)
  (Y:A.units < aQ) (h:Q (.bool (lexLt ns ms)) s):aF (aI prog w) A (aU .Lt (.ref l) (.ref b)) Q E s:=by
 obtain ⟨⟨cls,dd,data,sl⟩,ho,hc,n,hd⟩:=id U;obtain ⟨⟨O,I,data2,J⟩,ho2,hc2,n2,hd2⟩:=id hb;simp only at hc hd hc2 hd2;subst hc hd hc2 hd2;exact richCompare_meets_room (op:=.Lt) ⟨_,ho,rfl⟩ ⟨_,ho2,rfl⟩ gM gN (gO _ _) (Q3v l b G q n n2 dd I sl J ns ms hi Z)
  ⟨ho,ho2,show cq (lexLt ns ms)≠fC/\Q (.bool (lexLt ns ms)) s from ⟨(λx=>nomatch x),h⟩⟩ Y
theorem cat_tup {t b:aB} {vs ws:List aA} {Q:aA->aC->Prop} (U:IsTup s.heap t vs.toArray) (Y:IsTup s.heap b ws.toArray) (O:vs≠[])
  (h1:ws=[]->Q (.ref t) s) (h2:ws≠[]->Q (.ref s.heap.objs.size) { s with heap:=s.heap.push { cls:=.type "tuple",data:=.seq (vs ++ ws).toArray } })
  (hsz:vs.length + ws.length<=sizeLine):aF (aI prog w) A (af .Add (.ref t) (.ref b)) Q E s:=by
 obtain ⟨⟨cls,dd,data,sl⟩,ho,hc,n,hd⟩:=id U;obtain ⟨⟨J,q,data2,G⟩,ho2,hc2,n2,hd2⟩:=id Y;simp only at hc hd hc2 hd2;subst hc hd hc2 hd2;have e:vs.toArray ++ ws.toArray=(vs ++ ws).toArray:=by simp
 by_cases I:ws=[]
 ·exact concat_meets ⟨_,ho,rfl⟩ ⟨_,ho2,rfl⟩ noFill_tuple_add seq_tuple_add fD fE (fF _ _)
   (tuple_addW1 t b vs.toArray ws.toArray n n2 dd q sl G (by simpa using O) (by simp [I])) ⟨ho,ho2,h1 I⟩
 ·refine concat_meets ⟨_,ho,rfl⟩ ⟨_,ho2,rfl⟩ noFill_tuple_add seq_tuple_add fD fE (fF _ _)
   (tuple_addW2 t b vs.toArray ws.toArray n n2 dd q sl G (by simpa using O) (by simpa using I) (by rw [O7,O7]; exact hsz)) ⟨ho,ho2,?_⟩
  rw [e];exact h2 I
def sIx (n d:Nat):Option Int->Nat
 | none=>d
 | some v=>if v < 0 then (v + (n:Int)).toNat else min v.toNat n
theorem sIx_none (n d:Nat):sIx n d zl=d:=rfl
theorem sIx_nat (n d k:Nat):sIx n d (zo (k:Int))=min k n:=by
 show (if (k:Int) < 0 then ((k:Int) + (n:Int)).toNat else min (k:Int).toNat n)=min k n;rw [bU (by omega),bp]
theorem Qr1 (n d:Nat) (hd:d<=n) (o:Option Int):sIx n d o<=n:=by
 cases o with
 | none=>exact hd
 | some v=>
  show (if v < 0 then (v + (n:Int)).toNat else min v.toNat n)<=n
  by_cases q:v < 0
  ·rw [bT q]; omega
  ·rw [bU q]; exact Nat.min_le_right _ _
theorem Qch (v:Int) (n d:Nat):(if v < 0 then max (v + (n:Int)) 0 else min v (n:Int))=((sIx n d (zo v):Nat):Int):=by
 show (if v < 0 then max (v + (n:Int)) 0 else min v (n:Int))=(((if v < 0 then (v + (n:Int)).toNat else min v.toNat n):Nat):Int)
 by_cases q:v < 0
 ·simp only [bT q]; omega
 ·simp only [bU q]; omega
theorem Qb5 (lo hi:Option Int) (n:Nat):Builtin.Slice.sliceAdjust lo hi 1 (n:Int)=(((sIx n 0 lo:Nat):Int),((sIx n n hi:Nat):Int)):=by
 have h1:¬ ((1:Int) < 0):=by omega
 unfold Builtin.Slice.sliceAdjust;simp only [h1,if_false];refine dP ?_ ?_
 ·cases lo with
  | none=>rfl
  | some v=>exact Qch v n 0
 ·cases hi with
  | none=>rfl
  | some v=>exact Qch v n n
theorem Q9v (i j:Nat):Builtin.Slice.slicePlaces (i:Int) (j:Int) 1=j - i:=by
 unfold Builtin.Slice.slicePlaces;have h1:(1:Int) > 0:=by omega
 simp only [h1,if_true,fG]
 split <;> omega
theorem Q1w {v:aA} {o:Option Int} {Q:Option Int->aC->Prop} (p:IsPart v o) (h:Q o s):aF (aI prog w) A (Builtin.Slice.slicePartIndex v) Q E s:=by
 cases p with
 | none=>exact slicePart_none h
 | int i t=>exact slicePart_int h
theorem X1 {sl:aB} {I J:aA} {lo hi:Option Int} {n:Nat} {Q:Int × Int × Nat->aC->Prop} (hs:s.heap.IsSliceOf sl I J .none) (Y:IsPart I lo) (O:IsPart J hi)
  (h:Q (((sIx n 0 lo:Nat):Int),1,sIx n n hi - sIx n 0 lo) s):aF (aI prog w) A (Builtin.Slice.sliceApplied (.ref sl) (pure (n:Int))) Q E s:=by
 obtain ⟨os,q,U,G⟩:=id hs;unfold Builtin.Slice.sliceApplied Builtin.Slice.sliceFields;refine aD (aD (aY q G (x:=I) rfl (aD (aY q G (x:=J) rfl (aD (aY q G (x:=.none) rfl (wpAny_pure ?_)))))));refine aD (slicePart_none ?_);show aF _ _ (if ((1:Int) == 0)=zb then _ else _) _ _ s;rw [bU (by decide)];refine aD (Q1w Y (aD (Q1w O (aD (wpAny_pure ?_)))));show aF _ _ (match Builtin.Slice.sliceAdjust lo hi 1 (n:Int) with | (lo,hi)=>pure (lo,(1:Int),Builtin.Slice.slicePlaces lo hi 1)) _ _ s
 rw [Qb5 lo hi n];show aF _ _ (pure (((sIx n 0 lo:Nat):Int),(1:Int),Builtin.Slice.slicePlaces ((sIx n 0 lo:Nat):Int) ((sIx n n hi:Nat):Int) 1)) _ _ s;rw [Q9v];exact wpAny_pure h
theorem Qgj (xs:Array aA) (i k:Nat):((bY k).filterMap λ(m:Nat)=>xs[((i:Int) + (m:Int) * 1).toNat]?).toArray=((xs.toList.drop i).take k).toArray:=by
 have e:(λ(m:Nat)=>xs[((i:Int) + (m:Int) * 1).toNat]?)=λm=>xs[i + m]?:=by
  funext m;have:((i:Int) + (m:Int) * 1).toNat=i + m:=by omega
  rw [this]
 rw [e];have:=pick_run xs i k;rw [fH] at this;have q:((λx=>xs[x]?) ∘ λx=>i + x)=λm=>xs[i + m]?:=rfl
 rw [q] at this;rw [this]
theorem getItem_tuple_cut {t sl:aB} {G:Array aA} {vl vu:aA} {lo hi:Option Int} {Q:aA->aC->Prop} (J:IsTup s.heap t G) (hs:s.heap.IsSliceOf sl vl vu .none) (pl:IsPart vl lo) (pu:IsPart vu hi)
  (hw:¬ (sIx G.size 0 lo=0/\sIx G.size G.size hi=G.size))
  (h:Q (.ref s.heap.objs.size) { s with heap:=s.heap.push { cls:=.type "tuple",data:=.seq ((G.toList.drop (sIx G.size 0 lo)).take (sIx G.size G.size hi - sIx G.size 0 lo)).toArray } })
  (hsz:G.size<=sizeLine):aF (aI prog w) A (getItem (.ref t) (.ref sl)) Q E s:=by
 have I:sizeOk (.seq ((G.toList.drop (sIx G.size 0 lo)).take (sIx G.size G.size hi - sIx G.size 0 lo)).toArray):=by
  show ((G.toList.drop (sIx G.size 0 lo)).take (sIx G.size G.size hi - sIx G.size 0 lo)).toArray.size<=sizeLine;rw [O7,L6,cf,be];omega
 have hj:sIx G.size G.size hi<=G.size:=Qr1 _ _ (O5 _) hi;obtain ⟨os,U,Y,a1⟩:=id hs;have Z:s.TypeIs (.ref sl) "slice" := ⟨os,U,Y⟩;unfold getItem
 try with_reducible refine ak ?_
 first | refine aD (wpAny_pure ?_) | skip
 refine aD (wpAny_sequenceKey J.typeIs (by decide) ?_);refine aD (wpAny_callSpecial?_slot (name:=cC "__getitem__") J.typeIs dl
  (ah dl J.typeIs entry_tuple_getitem ?_ (args_tuple_getitem _ _)))
 show aF _ _ (Builtin.Tuple.tupleItemsOf (.ref t) >>= _) _ _ s;refine aD (tupleItemsOf_ J ?_);refine aD (bB Z ?_);rw [bT (by decide)];refine aD (X1 hs pl pu ?_);have O:¬ ((((sIx G.size 0 lo:Nat):Int) == 0 && (1:Int) == 1 && (sIx G.size G.size hi - sIx G.size 0 lo) == G.size)=zb):=by
  intro q;rw [E2,E2] at q;have q1:((sIx G.size 0 lo:Nat):Int)=0:=eq_of_beq q.1.1;have q2:sIx G.size G.size hi - sIx G.size 0 lo=G.size:=eq_of_beq q.2;exact hw ⟨by omega,by omega⟩
 show aF _ _ (if (((sIx G.size 0 lo:Nat):Int) == 0 && (1:Int) == 1 && (sIx G.size G.size hi - sIx G.size 0 lo) == G.size)=zb then _ else _) _ _ s;rw [bU O,Qgj]
 first
  | exact aD (m:=Builtin.Tuple.tupleExact _) (ao (wpAny_pure ⟨_,rfl,wpAny_pure h⟩) I)
  | exact aD (m:=Builtin.Tuple.tupleExact _) (ao (aD (wpAny_pure (wpAny_pure ⟨_,rfl,wpAny_pure h⟩))) I)
  | exact aD (aD (m:=Builtin.Tuple.tupleExact _) (ao (wpAny_pure (wpAny_pure ⟨_,rfl,wpAny_pure h⟩)) I))
  | exact aD (aD (m:=Builtin.Tuple.tupleExact _) (ao (wpAny_pure ⟨_,rfl,wpAny_pure h⟩) I))
end
end HT
namespace L2
open PySem PySem.Spec PyProof.Rows
variable {xs:List V} {us:List aA} {n j t':Nat} {α:Type} {σ:St} {H:Hp} {s:aC} {p:aB} {x:V}
abbrev TO:=St->Hp->(Option Int->Hp->Prop)->Prop
def PO (X:Cx) (e:Option aH) (t:TO):Prop:=
 ∀ (pins:zAA) (s:aC) (σ:St) (H:Hp) (Q:Option Int->Hp->Prop),Inv X pins σ H s->t σ H Q ->
  aF (aI X.prog X.w) X.A (evalPart e X.env) (λu s'=>∃ o H',Inv X pins σ H' s'/\IsPart u o/\Q o H') X.xe s
def Qjk:TO:=λ_ H Q=>Q zl H
def Qui (t:TE):TO:=λσ H Q=>t σ H λx H1=>∃ i,x=.int i/\Q (zo i) H1
theorem Q31 {ns:List Int}:∀ {us:List aA},Vals (ns.map V.int) us->IntsAre us ns:=by
 induction ns with
 | nil=>intro us r; rw [gP] at r; cases r; exact .nil
 | cons n ns I=>
  intro us r;rw [D3] at r;cases r with
  | cons q G=>
   obtain ⟨t,e⟩:=q;subst e;exact .cons n t (I G)
variable {X:Cx} {e:aH} {te:TE} {lo hi:Option aH} {tl th:TO} {pos p2:Pos}
theorem Qky:PO X zl Qjk:=by
 intro pins s σ H Q I h;rw [evalPart_none];exact wpAny_pure ⟨zl,H,I,.none,h⟩
theorem Qkx (h:PE X e te):PO X (zo e) (Qui te):=by
 intro pins s σ H Q I J;rw [evalPart_some];refine thn (h pins s σ H _ I J) λu s1 ⟨x,H1,G,O,U⟩=>?_
 obtain ⟨i,rfl,q⟩:=U;obtain ⟨t,rfl⟩:=O;exact ⟨zo i,H1,G,.int i t,q⟩
def SlR (X:Cx) (r:V->Option Int->Option Int->Hp->VK->Prop):Prop:=
 ∀ (pins:zAA) (s:aC) (σ:St) (H:Hp) (x:V) (v vl vu:aA) (lo hi:Option Int) (sl:aB) (Q:VK),Inv X pins σ H s->RelV x v->s.heap.IsSliceOf sl vl vu .none->IsPart vl lo->IsPart vu hi->r x lo hi H Q ->
  ∃ T id,typeLookup (.type T) "__getitem__" = pure (zo (.builtin id))/\s.TypeIs v T/\aF (aI X.prog X.w) X.A (getItem v (.ref sl)) (EP X pins σ Q) X.xe s
theorem SlR.or {r G:V->Option Int->Option Int->Hp->VK->Prop} (h:SlR X r) (h':SlR X G):SlR X (λx lo hi H Q=>r x lo hi H Q\/G x lo hi H Q):=by
 intro pins s σ H x v O U lo hi sl Q I Z hs Y J q;rcases q with q | q
 ·exact h pins s σ H x v O U lo hi sl Q I Z hs Y J q
 ·exact h' pins s σ H x v O U lo hi sl Q I Z hs Y J q
def tSl (r:V->Option Int->Option Int->Hp->VK->Prop) (te:TE) (tl th:TO):TE:=λσ H Q=>te σ H λx H1=>tl σ H1 λl H2=>th σ H2 λu H3=>r x l u H3 Q
theorem Qgn {r:V->Option Int->Option Int->Hp->VK->Prop} (hr:SlR X r) (he:PE X e te) (hl:PO X lo tl) (hu:PO X hi th):PE X (.Subscript e (.Slice lo hi zl p2) pos) (tSl r te tl th):=by
 intro pins s σ H Q I h;refine Subscript_ (thn (he pins s σ H _ I h) λv s1 ⟨x,H1,Z,r1,q1⟩=>?_)
 refine wpAny_Slice (thn (hl pins s1 σ H1 _ Z q1) λJ s2 ⟨l,H2,I2,pl,q2⟩=>thn (hu pins s2 σ H2 _ I2 q2) λO G ⟨u,U,I3,pu,q3⟩=>?_)
 rw [evalPart_none];refine wpAny_pure ?_;have Y:Inv X pins σ U { G with heap:=G.heap.push { cls:=.type "slice",data:=.fields #[J,O,.none] } }:=I3.kept (t':=G.toks) λb ob q=>O0 _ q
 obtain ⟨T,id,hT,ht,hg⟩:=hr pins { G with heap:=G.heap.push { cls:=.type "slice",data:=.fields #[J,O,.none] } } σ U x v J O l u G.heap.objs.size Q Y r1 (Heap.IsSliceOf.new ..) pl pu q3;show aF (aI X.prog X.w) X.A (subscriptTail e (.Slice lo hi zl p2) v (.ref G.heap.objs.size)) (EP X pins σ Q) X.xe { G with heap:=G.heap.push { cls:=.type "slice",data:=.fields #[J,O,.none] } };exact tail_any (ops:=[.ref G.heap.objs.size,v]) ht hT hg (by with_unfolding_all rfl)
def Q91 (xs:List V) (lo hi:Option Int):List V:=(xs.drop (HT.sIx xs.length 0 lo)).take (HT.sIx xs.length xs.length hi - HT.sIx xs.length 0 lo)
theorem Q0q (xs:List V) (lo hi:Option Int):(Q91 xs lo hi).length<=xs.length:=by
 unfold Q91;rw [L6,cf];omega
def Qyt (K:bX):V->Option Int->Option Int->Hp->VK->Prop:=λx lo hi H Q=>∃ a xs,x=.ref a/\SqT K H a xs /\
 ¬ (HT.sIx xs.length 0 lo=0/\HT.sIx xs.length xs.length hi=xs.length)/\∀ p,H p=zl->Q (.ref p) (upd H p (.tup (Q91 xs lo hi)))
theorem sl_tup:SlR X (Qyt X.K):=by
 intro pins s σ H x v vl vu lo hi sl Q I rx hs Z O h;obtain ⟨a,xs,rfl,U,Y,q⟩:=h;cases rx;obtain ⟨its,r,J,hz⟩:=I.tuple U;have G:its.toArray.size=xs.length:=by rw [O7]; exact r.length.symm
 refine ⟨"tuple",_,PyProof.Rows.slot_tuple_getitem.lookup,J.typeIs,?_⟩;refine HT.getItem_tuple_cut J hs Z O (by rw [G]; exact Y) ?_ (by rw [G]; exact hz);rw [G];refine ⟨.ref s.heap.objs.size,_,I.laid (t':=s.toks) (o:=.tup (Q91 xs lo hi)) (λb ob q=>O0 _ q) (O5 _) ?_,rfl,q _ (I.hok.fresh (O5 _))⟩;exact ⟨E1 (Q0q xs lo hi) hz,_,(r.drop (HT.sIx xs.length 0 lo)).take (HT.sIx xs.length xs.length hi - HT.sIx xs.length 0 lo),IsTup.new _ _⟩
def Qyw (K:bX):R2:=λx y H Q=>∃ a b ns ms,x=.ref a/\y=.ref b/\SqT K H a (ns.map V.int)/\SqT K H b (ms.map V.int)/\Q (.bl (HT.lexLt ns ms)) H
theorem Qs6 (Z:X.A.units < aQ):OpR X (aU .Lt) (Qyw X.K):=by
 intro pins s σ H x y v u Q I rx O h;obtain ⟨a,b,ns,ms,rfl,rfl,J,hb,q⟩:=h;cases rx;cases O;obtain ⟨its,r1,U,_⟩:=I.tuple J;obtain ⟨G,Y,p2,_⟩:=I.tuple hb;have i1:IntsAre its.toArray.toList ns:=Q31 r1;have i2:IntsAre G.toArray.toList ms:=Q31 Y;exact HT.lt_tupInts U p2 i1 i2 Z ⟨.bl (HT.lexLt ns ms),H,I,rfl,q⟩
def Qpe (K:bX):R2:=λx y H Q=>∃ a b xs ys,x=.ref a/\y=.ref b/\SqT K H a xs/\SqT K H b ys/\xs≠[]/\xs.length + ys.length<=sizeLine /\
 (ys=[]->Q (.ref a) H)/\(ys≠[]->∀ p,H p=zl->Q (.ref p) (upd H p (.tup (xs ++ ys))))
theorem Vals.nil_iff (r:Vals xs us):us=[] <-> xs=[]:=by
 cases r with
 | nil=>simp
 | cons _ _=>simp
theorem op_catT:OpR X (af .Add) (Qpe X.K):=by
 intro pins s σ H x y v u Q I rx Y h;obtain ⟨a,b,xs,ys,rfl,rfl,U,hb,hx,hz,q1,q2⟩:=h;cases rx;cases Y;obtain ⟨its,J,Z,_⟩:=I.tuple U;obtain ⟨O,G,p2,_⟩:=I.tuple hb;refine HT.cat_tup Z p2 (λz=>hx (J.nil_iff.mp z)) (λz=>⟨.ref a,H,I,rfl,q1 (G.nil_iff.mp z)⟩) (λz=>?_) (by rw [<- J.length,<- G.length]; exact hz)
 refine ⟨.ref s.heap.objs.size,_,I.laid (t':=s.toks) (o:=.tup (xs ++ ys)) (λb ob q=>O0 _ q) (O5 _) ?_,rfl,q2 (λw=>z (G.nil_iff.mpr w)) _ (I.hok.fresh (O5 _))⟩;exact ⟨by rw [O6]; exact hz,_,J.append G,IsTup.new _ _⟩
def ixN (n:Nat) (i:Int):Option Nat:=if 0<=i then (if i < n then zo i.toNat else zl) else if -(n:Int)<=i then zo (i + n).toNat else zl
def atI {α:Type} (xs:List α) (i:Int):Option α:=(ixN xs.length i).bind λj=>xs[j]?
theorem Qc5 {i:Int} (h:ixN n i=zo j):seqIndex? i n=zo j/\j < n/\-(n:Int)<=i/\i < n:=by
 unfold ixN at h
 by_cases h0:0<=i
 ·rw [bT h0] at h
  by_cases h1:i < n
  ·rw [bT h1] at h;have e:i.toNat=j:=bn h;exact ⟨by rw [seqIndex_of h0 h1,e],by omega,by omega,h1⟩
  ·rw [bU h1] at h; cases h
 ·rw [bU h0] at h
  by_cases h1:-(n:Int)<=i
  ·rw [bT h1] at h;have e:(i + n).toNat=j:=bn h;exact ⟨by rw [seqIndex_neg (by omega) h1,e],by omega,h1,by omega⟩
  ·rw [bU h1] at h; cases h
theorem atI_get {xs:List α} {i:Int} {v:α} (h:atI xs i=zo v):∃ j,seqIndex? i xs.length=zo j/\xs[j]?=zo v/\j < xs.length/\-(xs.length:Int)<=i/\i < xs.length:=by
 unfold atI at h;cases e:ixN xs.length i with
 | none=>rw [e] at h; cases h
 | some j=>
  rw [e] at h;obtain ⟨h1,h2,q,G⟩:=Qc5 e;exact ⟨j,h1,h,h2,q,G⟩
theorem Qcm {xs:List α} {v:α} (h:xs[j]?=zo v):atI xs (j:Int)=zo v:=by
 have q:j < xs.length:=(O2.mp h).1;have e:ixN xs.length (j:Int)=zo j:=by
  unfold ixN;rw [bT (by omega),bT (by omega)]; simp
 unfold atI; rw [e]; exact h
def Q6y (b:aH):Prop:=∀ o i,subscripted b yo o i=operate [o,i] (getItem o i)
def IxR (X:Cx) (r:R2):Prop:=
 ∀ (value slice:aH) (pins:zAA) (s:aC) (σ:St) (H:Hp) (x y:V) (v u:aA) (Q:VK),Inv X pins σ H s->RelV x v->RelV y u->r x y H Q ->
  subscripted slice yo v u=operate [v,u] (getItem v u)->aF (aI X.prog X.w) X.A (subscriptTail value slice v u) (EP X pins σ Q) X.xe s
def MtR (X:Cx) (id:String) (r:V->List V->Hp->VK->Prop):Prop:=
 ∀ (pins:zAA) (s:aC) (σ:St) (H:Hp) (x:V) (xs:List V) (v:aA) (us:List aA) (Q:VK),Inv X pins σ H s->RelV x v->Vals xs us->r x xs H Q ->
  aF (aI X.prog X.w) X.A (call (.builtin id) (v :: us)) (EP X pins σ Q) X.xe s
section
variable {X:Cx} {a b:aH} {ta tb:TE} {pos:Pos}
theorem IxR.or {r J:R2} (h:IxR X r) (h':IxR X J):IxR X (λx y H Q=>r x y H Q\/J x y H Q):=by
 intro value G pins s σ H x y v u Q I U O q hs;rcases q with q | q
 ·exact h value G pins s σ H x y v u Q I U O q hs
 ·exact h' value G pins s σ H x y v u Q I U O q hs
theorem Qpj {r:R2} (O:IxR X r) (G:PE X a ta) (Z:PE X b tb) (hs:Q6y b):PE X (.Subscript a b pos) (tOp r ta tb):=by
 intro pins s σ H Q I h;exact Subscript_ (Qtf G Z I h λv u Y x y H2 I2 U J q=>O a b pins Y σ H2 x y v u Q I2 U J q (hs _ _))
def Qv3 (K:bX):R2:=λx y H Q=>∃ p xs i v,x=.ref p/\y=.int i/\SqL K H p xs/\atI xs i=zo v/\Q v H
def Qv1 (K:bX):R2:=λx y H Q=>∃ p xs i v,x=.ref p/\y=.int i/\SqT K H p xs/\atI xs i=zo v/\Q v H
def Qv2:R2:=λx y H Q=>∃ z i c,x=.str z/\y=.int i/\z.length<=sizeLine/\atI z.cps.toList i=zo c/\Q (.str ⟨#[c]⟩) H
theorem ix_list:IxR X (Qv3 X.K):=by
 intro value J pins s σ H x y v u Q I rx Z h hs;obtain ⟨p,xs,i,z,rfl,rfl,hq,he,q⟩:=h;cases rx;obtain ⟨t,rfl⟩:=Z;obtain ⟨its,r,U,hz⟩:=I.list hq;obtain ⟨j,h1,h2,h3,h4,h5⟩:=atI_get he;obtain ⟨w,Y,G⟩:=r.get h2;have hl:=r.length;have hn:=Q00;have fin:EP X pins σ Q w s:=⟨z,H,I,G,q⟩
 by_cases h0:0<=i
 ·have O:i.toNat=j:=by
   rw [seqIndex_of h0 h5] at h1;exact bn h1
  exact item_listR U.isList h0 (by omega) (by rw [O]; simpa using Y) fin hs
 ·have O:(i + (its.toArray.size:Int)).toNat=j:=by
   rw [seqIndex_neg (by omega) h4] at h1;rw [O7,<- hl];exact bn h1
  exact subscriptTail_builtinR (x:=w) U.isList.typeIs slot_list_getitem.lookup
   (wpAny_getItem_list_neg (Q:=λr s'=>r=w/\EP X pins σ Q r s') U.isList (by omega) (by rw [O7] <;> omega) (by omega) (by rw [O]; simpa using Y) ⟨rfl,fin⟩) hs
theorem ix_tup:IxR X (Qv1 X.K):=by
 intro value J pins s σ H x y v u Q I rx Z h hs;obtain ⟨p,xs,i,z,rfl,rfl,hq,U,q⟩:=h;cases rx;obtain ⟨t,rfl⟩:=Z;obtain ⟨its,r,O,hz⟩:=I.tuple hq;obtain ⟨j,h1,h2,h3,h4,h5⟩:=atI_get U;obtain ⟨w,Y,G⟩:=r.get h2;have hl:=r.length;have hn:=Q00;have fin:EP X pins σ Q w s:=⟨z,H,I,G,q⟩;exact subscriptTail_builtinR (x:=w) O.typeIs slot_tuple_getitem.lookup
  (getItem_tuple (j:=j) (Q:=λr s'=>r=w/\EP X pins σ Q r s') O (by omega) (by omega) (by rw [O7,<- hl]; exact h1) (by simpa using Y) ⟨rfl,fin⟩) hs
theorem Qsy:IxR X Qv2:=by
 intro value G pins s σ H x y v u Q I rx Z h hs;obtain ⟨z,i,c,rfl,rfl,hz,O,q⟩:=h;obtain ⟨t,rfl⟩:=rx;obtain ⟨t',rfl⟩:=Z;obtain ⟨j,h1,h2,h3,h4,U⟩:=atI_get O;have hl:z.cps.toList.length=z.length:=by simp [Str.length]
 rw [hl] at h1 h4 U;have hn:=Q00;exact tail_any (typeIs_str s z t) slot_str_getitem.lookup (getItem_str (c:=c) (by
  have J:decide (i < -(2 ^ 63:Int))=yo:=bV (by omega);have Y:decide (i>=2 ^ 63)=yo:=bV (by omega);rw [J,Y,dR]) (by rw [h1]; simpa using h2) ⟨.str ⟨#[c]⟩,H,I.tok _,⟨_,rfl⟩,q⟩) hs
def rIx (K:bX):R2:=λx y H Q=>Qv3 K x y H Q\/Qv1 K x y H Q\/Qv2 x y H Q
theorem Qhu:IxR X (rIx X.K):=ix_list.or (ix_tup.or Qsy)
theorem Qa6 (its:List aA) (n j:Nat) (u:aA):bo (·.setIfInBounds j u) { cls:=.type "list",data:=.seq its.toArray n }={ cls:=.type "list",data:=.seq (its.set j u).toArray n }:=by
 simp [bo]
theorem Inv.lst {pins:zAA} (I:Inv X pins σ H s) (h:H p=zo (.lst xs)) :
  ∃ (its:List aA) (n:Nat),Vals xs its/\s.heap.get? p=zo { cls:=.type "list",data:=.seq its.toArray n }/\xs.length<=sizeLine:=by
 obtain ⟨z,its,n,r,e⟩:=I.hok p _ h;exact ⟨its,n,r,e,z⟩
theorem Inv.lstUpd {pins:zAA} {ys:List V} {its its':List aA} {n G:Nat} {f:Obj->Obj} (I:Inv X pins σ H s) (h:H p=zo (.lst xs))
  (O:s.heap.get? p=zo { cls:=.type "list",data:=.seq its.toArray n }) (J:f { cls:=.type "list",data:=.seq its.toArray n }={ cls:=.type "list",data:=.seq its'.toArray G }) (r:Vals ys its') (hz:ys.length<=sizeLine) (t:Nat) :
  Inv X pins σ (upd H p (.lst ys)) { s with heap:=s.heap.update p f,toks:=t }:=by
 have e:(s.heap.update p f).get? p=zo { cls:=.type "list",data:=.seq its'.toArray G }:=by
  rw [G8 f O (by rw [J] <;> rfl),J]
 refine I.write (x:=p) (e:=p) (by rw [h]; trivial) (.inl rfl) (λb u U q=>(F6 _ _ (Ne.symm U)).trans q) ⟨_,e⟩ ?_
 exact ⟨hz,its',G,r,e⟩
def Quz:V->V->V->Hp->(Hp->Prop)->Prop:=λo i v H Q=>∃ p xs k j,o=.ref p/\i=.int k/\H p=zo (.lst xs)/\ixN xs.length k=zo j/\Q (upd H p (.lst (xs.set j v)))
theorem Qfp:Qx9 X Quz:=by
 intro pins s σ H o i v ov iv u Q I ro ri rv h;obtain ⟨p,xs,k,j,rfl,rfl,hp,hj,q⟩:=h;cases ro;obtain ⟨t,rfl⟩:=ri;obtain ⟨its,n,r,J,hz⟩:=I.lst hp;obtain ⟨h1,h2,Z,Y⟩:=Qc5 hj;have O:=r.length;have hn:=Q00;have U:Inv X pins σ (upd H p (.lst (xs.set j v))) { s with heap:=s.heap.update p (bo (·.setIfInBounds j u)) }:=
  I.lstUpd hp J (Qa6 its n j u) (r.set rv j) (by rw [G7]; exact hz) s.toks
 by_cases h0:0<=k
 ·have G:k.toNat=j:=by
   rw [seqIndex_of h0 Y] at h1;exact bn h1
  exact PySem.W.ki_setAt J h0 (by omega) (by rw [O7,<- O]; exact Y) (by rw [G]; exact ⟨_,U,q⟩)
 ·have G:(k + (its.toArray.size:Int)).toNat=j:=by
   rw [seqIndex_neg (by omega) Z] at h1;rw [O7,<- O];exact bn h1
  exact PySem.W.ki_setBack J (by omega) (by rw [O7,<- O]; exact Z) (by omega) (by rw [G]; exact ⟨_,U,q⟩)
theorem Q5g (lo hi:Option Int) (n:Nat):(bH lo hi zl n).1=((HT.sIx n 0 lo:Nat):Int)/\(bH lo hi zl n).2.1=((HT.sIx n n hi:Nat):Int)/\(bH lo hi zl n).2.2=1:=by
 refine ⟨?_,?_,rfl⟩
 ·cases lo with
  | none=>simp [bH,HT.sIx]
  | some i=>
   simp only [bH,HT.sIx,gQ,show (1:Int) > 0 by decide,if_true]
   by_cases h:i < 0
   ·simp only [h,if_true] <;> omega
   ·simp only [h,if_false] <;> omega
 ·cases hi with
  | none=>simp [bH,HT.sIx]
  | some i=>
   simp only [bH,HT.sIx,gQ,show (1:Int) > 0 by decide,if_true]
   by_cases h:i < 0
   ·simp only [h,if_true] <;> omega
   ·simp only [h,if_false] <;> omega
theorem Q3x (its:List aA) (lo hi:Option Int):slicePick its.toArray lo hi zl=((its.drop (HT.sIx its.length 0 lo)).take (HT.sIx its.length its.length hi - HT.sIx its.length 0 lo)).toArray:=by
 obtain ⟨h1,h2,q⟩:=Q5g lo hi its.toArray.size;unfold slicePick;rw [h1,h2,q];simp only [sliceRange_one,pick_run,O7] <;> rfl
def Qyu (K:bX):V->Option Int->Option Int->Hp->VK->Prop:=λx lo hi H Q=>∃ a xs,x=.ref a/\SqL K H a xs/\∀ p,H p=zl->Q (.ref p) (upd H p (.lst (Q91 xs lo hi)))
theorem Qk0:SlR X (Qyu X.K):=by
 intro pins s σ H x v vl vu lo hi sl Q I Z hs Y O h;obtain ⟨a,xs,rfl,U,q⟩:=h;cases Z;obtain ⟨its,r,J,hz⟩:=I.list U;have G:=r.length;refine ⟨"list",_,slot_list_getitem.lookup,J.isList.typeIs,?_⟩;refine wpAny_getItem_list_slice J.isList hs Y O .none (by simp) ?_ (by rw [O7] <;> omega);rw [Q3x,<- G];refine ⟨.ref s.heap.objs.size,_,I.laid (t':=s.toks) (o:=.lst (Q91 xs lo hi)) (λb ob q=>O0 _ q) (O5 _) ?_,rfl,q _ (I.hok.fresh (O5 _))⟩;exact ⟨E1 (Q0q xs lo hi) hz,_,0,(r.drop (HT.sIx xs.length 0 lo)).take (HT.sIx xs.length xs.length hi - HT.sIx xs.length 0 lo),D0 _ rfl⟩
def jg:V->Bool
 | .non=>zb
 | .bl _=>zb
 | .int _=>zb
 | .str _=>zb
 | _=>yo
def eqV:V->V->Bool
 | .non,.non=>zb
 | .bl a,.bl b=>a == b
 | .bl a,.int b=>(if a then 1 else 0) == b
 | .int a,.bl b=>a == (if b then 1 else 0)
 | .int a,.int b=>a == b
 | .str a,.str b=>a == b
 | _,_=>yo
theorem Qt3 {A:aL} {y:V} {u v:aA} (G:RelV y u) (q:RelV x v) (J:jg y=zb) (I:jg x=zb):SeqAt.EqAt A s u v (eqV y x):=by
 cases y with
 | non=>
  cases G;cases x with
  | non=>cases q; exact SeqAt.EqAt.same _
  | bl b=>cases q; exact SeqAt.EqAt.none_bool b
  | int b=>obtain ⟨t,rfl⟩:=q; exact SeqAt.EqAt.none_int b t
  | str b=>obtain ⟨t,rfl⟩:=q; exact SeqAt.EqAt.none_str b t
  | _=>exact absurd (show yo=zb from I) D2
 | bl a=>
  cases G;cases x with
  | non=>cases q; exact SeqAt.EqAt.bool_none a
  | bl b=>cases q; exact SeqAt.EqAt.bool_bool a b
  | int b=>obtain ⟨t,rfl⟩:=q; exact SeqAt.EqAt.bool_int a b t
  | str b=>obtain ⟨t,rfl⟩:=q; exact SeqAt.EqAt.bool_str a b t
  | _=>exact absurd (show yo=zb from I) D2
 | int a=>
  obtain ⟨t',rfl⟩:=G;cases x with
  | non=>cases q; exact SeqAt.EqAt.int_none a t'
  | bl b=>cases q; exact SeqAt.EqAt.int_bool a t' b
  | int b=>obtain ⟨t,rfl⟩:=q; exact SeqAt.EqAt.int_int a t' b t
  | str b=>obtain ⟨t,rfl⟩:=q; exact SeqAt.EqAt.int_str a t' b t
  | _=>exact absurd (show yo=zb from I) D2
 | str a=>
  obtain ⟨t',rfl⟩:=G;cases x with
  | non=>cases q; exact SeqAt.EqAt.str_none a t'
  | bl b=>cases q; exact SeqAt.EqAt.str_bool a t' b
  | int b=>obtain ⟨t,rfl⟩:=q; exact SeqAt.EqAt.str_int a t' b t
  | str b=>obtain ⟨t,rfl⟩:=q; exact SeqAt.EqAt.str_str a t' b t
  | _=>exact absurd (show yo=zb from I) D2
 | _=>exact absurd (show yo=zb from J) D2
def eqU (x:V) (u:aA):Bool:=match u with
 | .none=>eqV .non x
 | .bool b=>eqV (.bl b) x
 | .int i _=>eqV (.int i) x
 | .str z _=>eqV (.str z) x
 | _=>yo
theorem Qik {y:V} {u:aA} (r:RelV y u) (f:jg y=zb):eqU x u=eqV y x:=by
 cases y with
 | non=>cases r; rfl
 | bl b=>cases r; rfl
 | int i=>obtain ⟨t,rfl⟩:=r; rfl
 | str z=>obtain ⟨t,rfl⟩:=r; rfl
 | _=>exact absurd (show yo=zb from f) D2
theorem yw {x:V}:∀ {xs:List V} {us:List aA},Vals xs us->xs.all jg=zb->us.any (eqU x)=xs.any λy=>eqV y x
 | _,_,.nil,_=>rfl
 | y :: xs,u :: us,.cons r t,f=>by
  rw [cE,E2] at f;rw [cF,cF,Qik r f.1,yw t f.2]
theorem Kk {A:aL} {s:aC} {x:V} {v:aA} (I:RelV x v) (G:jg x=zb):∀ {xs:List V} {us:List aA},Vals xs us->xs.all jg=zb->∀ u∈us,SeqAt.EqAt A s u v (eqU x u)
 | _,_,.nil,_=>λu q=>by cases q
 | y :: xs,u :: us,.cons r t,f=>λJ q=>by
  rw [cE,E2] at f;rcases D5.mp q with rfl | q
  ·rw [Qik r f.1]; exact Qt3 r I f.1 G
  ·exact Kk I G t f.2 J q
def inV (x:V) (xs:List V):Bool:=xs.any λy=>eqV y x
def rIn (K:bX) (neg:Bool):R2:=λx y H Q=>∃ p xs,y=.ref p/\(SqL K H p xs\/SqT K H p xs)/\jg x=zb/\xs.all jg=zb/\Q (.bl (if neg then !inV x xs else inV x xs)) H
theorem Qdp:OpR X (aU .In) (rIn X.K yo):=by
 intro pins s σ H x y v u Q I U Z h;obtain ⟨p,xs,rfl,G,Y,fs,q⟩:=h;cases Z;rcases G with G | G
 ·obtain ⟨its,r,O,hz⟩:=I.list G;refine SeqAt.in_listAt (eqU x) O.isList (λw J=>Kk U Y r fs w (by simpa using J)) ⟨.bl _,H,I,rfl,?_⟩
  rw [show its.toArray.any (eqU x)=its.any (eqU x) by simp,yw r fs];exact q
 ·obtain ⟨its,r,O,hz⟩:=I.tuple G;refine SeqAt.in_tupleAt (eqU x) O (λw J=>Kk U Y r fs w (by simpa using J)) ⟨.bl _,H,I,rfl,?_⟩
  rw [show its.toArray.any (eqU x)=its.any (eqU x) by simp,yw r fs];exact q
theorem Q5u:OpR X (aU .NotIn) (rIn X.K zb):=by
 intro pins s σ H x y v u Q I U Z h;obtain ⟨p,xs,rfl,G,Y,fs,q⟩:=h;cases Z;rcases G with G | G
 ·obtain ⟨its,r,O,hz⟩:=I.list G;refine SeqAt.notIn_listAt (eqU x) O.isList (λw J=>Kk U Y r fs w (by simpa using J)) ⟨.bl _,H,I,rfl,?_⟩
  rw [show its.toArray.any (eqU x)=its.any (eqU x) by simp,yw r fs];exact q
 ·obtain ⟨its,r,O,hz⟩:=I.tuple G;refine SeqAt.notIn_tupleAt (eqU x) O (λw J=>Kk U Y r fs w (by simpa using J)) ⟨.bl _,H,I,rfl,?_⟩
  rw [show its.toArray.any (eqU x)=its.any (eqU x) by simp,yw r fs];exact q
theorem Q6r:Wg X (.builtin "len") (λxs H Q=>∃ p ys,xs=[.ref p]/\(SqL X.K H p ys\/SqT X.K H p ys)/\Q (.int ys.length) H):=by
 intro pins s σ H xs us Q I r h;obtain ⟨p,ys,rfl,J,q⟩:=h;obtain ⟨u,rfl,Y⟩:=U5 r;cases Y;have Z:=Q00;rcases J with J | J
 ·obtain ⟨its,O,U,hz⟩:=I.list J;have G:=O.length;exact Calls.call_len_list U.isList (by simp only [O7] <;> omega) ⟨.int ys.length,H,I.tok _,⟨s.toks + 1,by rw [O7,G]⟩,q⟩
 ·obtain ⟨its,O,U,hz⟩:=I.tuple J;have G:=O.length;exact len_tuple U (by simp only [O7] <;> omega) ⟨.int ys.length,H,I.tok _,⟨s.toks + 1,by rw [O7,G]⟩,q⟩
theorem Q6q:Wg X (.builtin "len") (λxs H Q=>∃ z,xs=[.str z]/\z.length<=sizeLine/\Q (.int z.length) H):=by
 intro pins s σ H xs us Q I r h;obtain ⟨z,rfl,hz,q⟩:=h;obtain ⟨u,rfl,t,rfl⟩:=U5 r;have G:=Q00;exact len_str (by omega) ⟨.int z.length,H,I.tok _,⟨_,rfl⟩,q⟩
theorem yn:Wg X (.type "list") (λxs H Q=>∃ p ys,xs=[.ref p]/\(SqL X.K H p ys\/SqT X.K H p ys)/\∀ l,H l=zl->Q (.ref l) (upd H l (.lst ys))):=by
 intro pins s σ H xs us Q I r h;obtain ⟨p,ys,rfl,U,q⟩:=h;obtain ⟨u,rfl,rx⟩:=U5 r;cases rx;have fin:∀ (its:List aA),Vals ys its->ys.length<=sizeLine->∀ (h':Heap) (J:Nat),(∀ b o',s.heap.get? b=zo o'->h'.get? b=zo o') ->
   h'.get? s.heap.objs.size=zo { cls:=.type "list",dict:=zl,data:=.seq its.toArray J,slots:=#[] }->EP X pins σ Q (.ref s.heap.objs.size) { s with heap:=h' }:=λits G hz h' J kp e=>
  ⟨.ref s.heap.objs.size,_,I.laid (t':=s.toks) kp (O5 _) (show ObjOk X.prog X.w _ h' _ (.lst ys) from ⟨hz,its,J,G,e⟩),rfl,q _ (I.hok.fresh (O5 _))⟩
 rcases U with U | U
 ·obtain ⟨its,G,Z,hz⟩:=I.list U;have O:=G.length;obtain ⟨o,Y,hc,n,hd⟩:=Z.isList;exact call_list_seq p (.inl rfl) Y hc hd (λh' J kp e=>fin its G hz h' J kp e) (by simp only [O7] <;> omega)
 ·obtain ⟨its,G,Z,hz⟩:=I.tuple U;have O:=G.length;obtain ⟨o,Y,hc,n,hd⟩:=Z;exact call_list_seq p (.inr rfl) Y hc hd (λh' J kp e=>fin its G hz h' J kp e) (by simp only [O7] <;> omega)
theorem jj:Wg X (.type "tuple") (λxs H Q=>∃ p ys,xs=[.ref p]/\((SqL X.K H p ys/\∀ l,H l=zl->Q (.ref l) (upd H l (.tup ys)))\/(SqT X.K H p ys/\Q (.ref p) H))):=by
 intro pins s σ H xs us Q I r h;obtain ⟨p,ys,rfl,h⟩:=h;obtain ⟨u,rfl,Z⟩:=U5 r;cases Z;rcases h with ⟨J,q⟩ | ⟨J,q⟩
 ·obtain ⟨its,G,O,hz⟩:=I.list J;have Y:=G.length;refine call_tuple_list O.isList (λh' kp=>?_) (by simp only [O7] <;> omega);have U:Inv X pins σ H { s with heap:=h' }:=I.kept (t':=s.toks) kp;have I2:Inv X pins σ (upd H h'.objs.size (.tup ys)) { s with heap:=h'.push { cls:=.type "tuple",data:=.seq its.toArray } }:=
   U.laid (t':=s.toks) (λb o e=>O0 _ e) (O5 _) (show ObjOk X.prog X.w _ _ _ (.tup ys) from ⟨hz,its,G,IsTup.new _ _⟩)
  exact ⟨.ref h'.objs.size,_,I2,rfl,q _ (U.hok.fresh (O5 _))⟩
 ·obtain ⟨its,G,O,hz⟩:=I.tuple J;exact call_tuple_same O ⟨.ref p,H,I,rfl,q⟩
def tyV (K:bX) (T:String) (x:V) (H:Hp):Prop:=match x with
 | .str _=>T = "str"
 | .int _=>T = "int"
 | .ref p=>(T = "list" /\ ∃ xs,SqL K H p xs)\/(T = "tuple" /\ ∃ o,K.lookup p=zo o/\o.cls=.type "tuple" /\ o.dict=zl) \/
   (T = "dict" /\ ((∃ kvs,H p=zo (.dK kvs))\/∃ kvs,H p=zo (.dT kvs)))\/(T = "set" /\ ∃ S n,H p=zo (.set S n))
 | _=>False
theorem Qq2 {pins:zAA} {T:String} {v:aA} (I:Inv X pins σ H s) (r:RelV x v) (ty:tyV X.K T x H) :
  s.TypeIs v T/\∀ a,v=.ref a->∃ ob,s.heap.get? a=zo ob/\ob.dict=zl:=by
 cases x with
 | str z=>
  obtain ⟨t,rfl⟩:=r;cases (show T = "str" from ty);exact ⟨typeIs_str s z t,λ_ e=>nomatch e⟩
 | int i=>
  obtain ⟨t,rfl⟩:=r;cases (show T = "int" from ty);exact ⟨typeIs_int s i t,λ_ e=>nomatch e⟩
 | ref p=>
  cases r;rcases ty with ⟨rfl,xs,U⟩ | ⟨rfl,o,q,Y,hd⟩ | ⟨rfl,q⟩ | ⟨rfl,S,n,q⟩
  ·obtain ⟨its,_,O,_⟩:=I.list U;refine ⟨O.isList.typeIs,λa e=>?_⟩;cases e;obtain ⟨o,n,e,c,hd,_⟩:=O;exact ⟨o,e,hd⟩
  ·refine ⟨⟨o,I.kIn p o q,Y⟩,λa e=>?_⟩
   cases e;exact ⟨o,I.kIn _ o q,hd⟩
  ·have z:∃ o,s.heap.get? p=zo o/\o.ExactDict:=by
    rcases q with ⟨J,q⟩ | ⟨J,q⟩
    ·obtain ⟨_,_,_,_,o,_,_,e,ex,_⟩:=I.hok p _ q;exact ⟨o,e,ex⟩
    ·obtain ⟨_,_,_,_,o,_,_,e,ex,_⟩:=I.hok p _ q;exact ⟨o,e,ex⟩
   obtain ⟨o,e,ex⟩:=z;refine ⟨⟨o,e,ex.1⟩,λa G=>?_⟩
   cases G;exact ⟨o,e,ex.2.1⟩
  ·obtain ⟨o,_,_,_,e,ex,_⟩:=I.hok p _ q;refine ⟨⟨o,e,ex.1⟩,λa G=>?_⟩
   cases G;exact ⟨o,e,ex.2.1⟩
 | _=>exact False.elim ty
def tBM (K:bX) (T:String) (r:V->List V->Hp->VK->Prop) (to:TE) (t:TA):TE:=λσ H Q=>to σ H λx H1=>tyV K T x H1/\t σ H1 λxs H2=>r x xs H2 Q
variable {o e:aH} {es:List aH} {to:TE} {t:TA} {name:Str} {apos cpos:Pos} {T id:String} {r:V->List V->Hp->VK->Prop}
theorem Qpk (pa:PlainAttrs T) (slot:Slot T name id) (U:typeOf (.builtin id)=pure (.type "method_descriptor")) (hm:MtR X id r) (ho:PE X o to) (ha:PA X (e :: es) t)
  (G:bP o name X.env (aO o X.env)=aO o X.env:=by rfl)
  (O:((ae cpos (aN (e :: es) X.env)).all (λx=>!x.1) && (backToKw cpos (keywordEach [] X.env)).all (λx=>x.1.isSome)
   && decide ((e :: es).length + ([]:List Keyword).length + (if ([]:List Keyword).isEmpty then 0 else 1) < 30))=zb:=by rfl)
  (J:(apos.endLine == cpos.line)=zb:=by rfl) (hs:aN (e :: es) X.env=(yo,aO e X.env) :: aN es X.env:=by rfl) (q:(ae cpos (aN es X.env)).any (·.1)=yo:=by rfl) :
  PE X (.Call (.Attribute o name apos) (e :: es) [] cpos) (tBM X.K T r to t):=by
 intro pins s σ H Q I h;refine wpAny_Call_method_late G O J rfl (thn (ho pins s σ H _ I h) λv s1 ⟨x,H1,Y,r1,ty,q1⟩=>?_)
 obtain ⟨h1,h2⟩:=Qq2 Y r1 ty;refine ⟨T,id,pa,slot,U,h1,h2,?_⟩;have Z:=ha cpos pins s1 σ H1 _ Y q1;rw [hs] at Z ⊢;refine Calls.callWith_builtin (by show (yo || (ae cpos (aN es X.env)).any (·.1))=yo; rw [q] <;> rfl) (Calls.evalArgs_plain ?_);exact thn Z λus s2 ⟨vs,H2,I2,r2,q2⟩=>hm pins s2 σ H2 x vs v us Q I2 r1 r2 q2
end
def MtM (X:Cx) (id:String) (r:V->List V->Hp->VK->Prop):Prop:=
 ∀ (pins:zAA) (s:aC) (σ:St) (H:Hp) (x:V) (xs:List V) (v:aA) (us:List aA) (Q:VK),Inv X pins σ H s->RelV x v->Vals xs us->r x xs H Q ->
  aF (aI X.prog X.w) X.A (call (.builtin id) (v :: us)) (EP X pins σ Q) X.xe s
theorem Vals.one:∀ {x:V} {us:List aA},Vals [x] us->∃ u,us=[u]/\RelV x u
 | _,_,.cons r .nil=>⟨_,rfl,r⟩
theorem Vals.reverse (h:Vals xs us):Vals xs.reverse us.reverse:=by
 induction h with
 | nil=>exact .nil
 | cons r t q=>rw [cS,cS]; exact Vals.append q (.cons r .nil)
theorem Vals.rep (h:Vals xs us):∀ k:Nat,Vals (ba k xs).flatten (ba k us).flatten
 | 0=>.nil
 | k + 1=>by
  rw [L7,L7,dB,dB];exact Vals.append h (Vals.rep h k)
theorem Q06 (its:List aA):∀ (k:Nat) (acc:List aA),
  cM (λx1 x2=>x1 ++ x2) acc.toArray (ba k its.toArray)=(acc ++ (ba k its).flatten).toArray
 | 0,acc=>by simp
 | k + 1,acc=>by
  have e:acc.toArray ++ its.toArray=(acc ++ its).toArray:=by simp
  have q:(acc ++ its) ++ (ba k its).flatten=acc ++ (ba (k + 1) its).flatten:=by
   rw [L7,dB,dS]
  rw [<- q,<- Q06 its k (acc ++ its),<- e,L7,F5]
variable {pins:zAA} {σ:St} {H:Hp} {s:aC} {l b:aB} {xs ys zs:List V}
theorem Inv.lset {its its':List aA} {n:Nat} {f:Array aA->Array aA} {t':Nat} (I:Inv X pins σ H s) (G:H l=zo (.lst xs))
  (e:s.heap.get? l=zo { cls:=.type "list",data:=.seq its.toArray n }) (J:f its.toArray=its'.toArray) (U:Vals ys its') (hz:ys.length<=sizeLine) :
  Inv X pins σ (upd H l (.lst ys)) { s with heap:=s.heap.update l (bo f),toks:=t' }:=by
 have q:=PySem.IsL.update e f;rw [J] at q;refine I.write (x:=l) (e:=l) (by rw [G]; exact trivial) (.inl rfl) (λZ u Y O=>(F6 s.heap (bo f) (Ne.symm Y)).trans O) ⟨_,q⟩ ?_
 exact ⟨hz,its',_,U,q⟩
theorem Inv.lnew {its:List aA} {t':Nat} (I:Inv X pins σ H s) (G:Vals ys its) (hz:ys.length<=sizeLine) :
  Inv X pins σ (upd H s.heap.objs.size (.lst ys)) { s with heap:=s.heap.push { cls:=.type "list",data:=.seq its.toArray },toks:=t' }:=
 I.laid (λ_ _ q=>O0 _ q) (O5 _) ⟨hz,its,0,G,D0 _ rfl⟩
theorem Inv.fresh (I:Inv X pins σ H s):H s.heap.objs.size=zl:=I.hok.fresh (O5 _)
theorem Inv.lstM (I:Inv X pins σ H s) (q:H l=zo (.lst xs)):xs.length<=sizeLine/\∃ (its:List aA) (n:Nat),Vals xs its/\xs.length=its.length/\s.heap.get? l=zo { cls:=.type "list",data:=.seq its.toArray n }:=by
 obtain ⟨z,its,n,r,e⟩:=I.hok l _ q;exact ⟨z,its,n,r,r.length,e⟩
theorem Qh6 (h:n<=sizeLine):Builtin.List.listTooLong n=yo:=by
 unfold Builtin.List.listTooLong;exact bV (by omega)
def Qki:V->List V->Hp->VK->Prop:=λx vs H Q=>∃ l xs y,x=.ref l/\vs=[y]/\H l=zo (.lst xs)/\xs.length < sizeLine/\Q .non (upd H l (.lst (xs ++ [y])))
theorem Qdu:MtM X "list.append" Qki:=by
 intro pins s σ H x vs v us Q I O J h;obtain ⟨l,xs,y,rfl,rfl,G,hz,q⟩:=h;cases O;obtain ⟨u,rfl,ru⟩:=J.one;obtain ⟨z,its,n,r,U,e⟩:=I.lstM G;refine bI F.slot_list_append ⟨_,e,rfl⟩ F.entry_list_append (F.args_list_append_2 _ _) (gS l its.toArray n u (by rw [O7]; omega)) ⟨e,?_⟩;refine ⟨.non,_,I.lset (its':=its ++ [u]) G e (by simp) (r.append (.cons ru .nil)) ?_,rfl,q⟩;rw [O6,gT];omega
def Qyx:R2:=λx y H Q=>∃ l b xs zs,x=.ref l/\y=.ref b/\H l=zo (.lst xs)/\H b=zo (.lst zs)/\xs.length + zs.length<=sizeLine/\∀ p,H p=zl->Q (.ref p) (upd H p (.lst (xs ++ zs)))
theorem Qh2:OpR X (af .Add) Qyx:=by
 intro pins s σ H x y v u Q I rx U h;obtain ⟨l,b,xs,zs,rfl,rfl,J,Y,hz,q⟩:=h;cases rx;cases U;obtain ⟨z,its,n,r,hl,e⟩:=I.lstM J;obtain ⟨z2,G,n2,Z,a1,O⟩:=I.lstM Y;refine PySem.P.add_list e O ?_ (by rw [O7,O7]; omega);have ea:its.toArray ++ G.toArray=(its ++ G).toArray:=by simp
 rw [ea];exact ⟨.ref _,_,I.lnew (t':=s.toks) (r.append Z) (by rw [O6]; omega),rfl,q _ I.fresh⟩
def Qyv:R2:=λx y H Q=>∃ l k xs,x=.ref l/\y=.int k/\H l=zo (.lst xs)/\-(2 ^ 63)<=k/\k < 2 ^ 63/\xs.length * k.toNat<=sizeLine /\
 ∀ p,H p=zl->Q (.ref p) (upd H p (.lst (ba k.toNat xs).flatten))
theorem Q6a (xs:List α) (k:Nat):(ba k xs).flatten.length=k * xs.length:=by
 induction k with
 | zero=>simp
 | succ k q=>rw [L7,dB,O6,q,Nat.succ_mul,Nat.add_comm]
theorem Qs2:OpR X (af .Mult) Qyv:=by
 intro pins s σ H x y v u Q I rx ry h;obtain ⟨l,k,xs,rfl,rfl,hH,h1,h2,hz,q⟩:=h;cases rx;obtain ⟨t,rfl⟩:=ry;obtain ⟨z,its,n,r,hl,e⟩:=I.lstM hH;have J:its.toArray.size * k.toNat<=sizeLine:=by rw [O7,<- hl]; exact hz
 have Z:¬ its.toArray.size * k.toNat > (2 ^ 63 - 1) / 8:=by
  have:(sizeLine:Nat)<=(2 ^ 63 - 1) / 8:=by decide
  omega
 have O:¬ (!Builtin.List.listFitsIndex k)=zb:=by
  rw [fitsIndex_both h1 h2];exact D2
 have G:¬ Builtin.List.listTooLong (its.toArray.size * k.toNat)=zb:=by
  rw [Qh6 J];exact D2
 have Y:cM (λx1 x2=>x1 ++ x2) #[] (ba (if its.toArray.isEmpty=zb then 0 else k.toNat) its.toArray)=(ba k.toNat its).flatten.toArray:=by
  have f0:∀ m:Nat,cM (λx1 x2=>x1 ++ x2) #[] (ba m its.toArray)=(ba m its).flatten.toArray:=λm=>by
   have:=Q06 its m [];rw [fI] at this;exact this
  rw [f0];cases its with
  | nil=>simp
  | cons a r'=>rw [bU (by simp)]
 refine wpAny_binaryOp_repeat_ref (T := "list") (U := "int") (by decide) ⟨_,e,rfl⟩ (λs'=>typeIs_int s' k t) noFill_list_mul F.fills_int_mul F.slot_int_rmul repeat_list F.slot_int_index.lookup
  (bI F.slot_int_rmul (typeIs_int s k t) F.entry_int_rmul (F.args_int_rmul_2 _ _) (int___rmul___int_list k t l its.toArray n)
   ⟨e,rfl,⟨_,e,rfl⟩,bI F.slot_list_mul ⟨_,e,rfl⟩ F.entry_list_mul (F.args_list_mul_2 _ _) (AutoListH.list___mul___list_int_3 l its.toArray n k t O Z G) ⟨e,?_⟩⟩)
 rw [Y];exact ⟨.ref _,_,I.lnew (t':=s.toks) (r.rep k.toNat) (by rw [Q6a,dm]; exact hz),rfl,q _ I.fresh⟩
end L2
namespace Att
open PySem PySem.W PySem.Calls PyProof.Rows
theorem Q0y {P:Params} {h:Heap}:∀ (ns:List Int) (vs:List aA),WellAll P h vs (ns.map WData.int)->IntsAre vs ns:=by
 intro ns
 induction ns with
 | nil=>
  intro vs w;rw [gP] at w;cases w;exact .nil
 | cons n ns q=>
  intro vs w;rw [D3] at w;cases w with
  | cons a b=>
   cases a;exact .cons _ _ (q _ b)
theorem Qda {l:OpenLaw} {n:Nat} (hn:l.most=zo n) {P:Params} {h:Heap} {args:List WData} {G:List aA}
  (I:l.row.toRowW.claim.pre args=zb) (Z:WellAll P h G args) :
  ∃ a vs ns,G=[bZ a]/\args=[WData.list (ns.map WData.int)]/\h.get? a=zo { cls:=.type "list",data:=.seq vs.toArray }/\IntsAre vs ns/\ns.length<=n:=by
 have a1:WShape.hasAll [] args [.list .int]=zb:=(pre_splitW I).1;have hc:l.pre.holds [] { args:=args }=zb:=(pre_splitW I).2;obtain ⟨d,r,rfl,h1,h2⟩:=hasAllW_cons a1;obtain rfl:=hasAllW_nil h2;obtain ⟨xs,rfl,h3⟩:=hasW_list h1;obtain ⟨ns,rfl⟩:=items_int h3;have J:ns.length<=n:=by
  unfold OpenLaw.pre at hc;have Y:(WTm.not (.lt (.lit (.int (n:Int))) (.len (.arg 0)))).holds [] { args:=[.list (ns.map .int)] }=zb:=by
   have Y:=(holds_andW hc).1;rw [hn] at Y;exact Y
  have U:=condW_of Y (w_not (w_lt w_lit (w_len_list (w_arg rfl))));rw [O1] at U;refine Nat.le_of_not_lt λq=>?_
  have q':(n:Int) < ((ns.length:Nat):Int):=by omega
  first
   | (rw [bW q'] at U; exact absurd U (by decide))
   | (simp at U; omega)
 cases Z with
 | cons w1 w2=>
  cases w2;cases w1 with
  | list ho O=>exact ⟨_,_,ns,rfl,rfl,ho,Q0y ns _ O,J⟩
theorem Qdf (l:OpenLaw) (args:List WData):l.row.toRowW.claim.post args (.bool zb) args=zb:=
 postW_of (r:=l.row.toRowW) (X:=(zb == zb))
  (show WShape.has [] (.bool zb) .bool=zb by first | rfl | decide | simp [WShape.has,WShape.arms,WShape.armsAll])
  (show (WTm.eq .res (.lit (.bool zb))).value [] { args:=args,res:=zo (.bool zb),after:=args }=zo (.bool (zb == zb)) from w_eq_bool (w_res rfl) w_lit) rfl
theorem attach_call {l:OpenLaw} {n:Nat} {q:aK} {J:List Str} {XP:(Str->Option aA)->Heap->Prop} {YP:aJ->Heap->Prop} {d:DefRec}
  (hn:l.most=zo n) (a6:d.params.defaults=[])
  (call:∀ (w:aJ) (s₀ I:aC) (mg mb:Str->Option aA) (Z:aB) (o:Obj) (pm cd U:aA) (a:aB) (vs:List aA) (ns:List Int),
   Ground q J [] XP w s₀ mg mb I.heap->YP w I.heap ->
   I.heap.get? Z=zo o->o.data=.func (docDef d.name d.params d.body d.scope pm cd U)->I.heap.CodeRec cd d.name->mg d.name=zo (.ref Z) ->
   I.heap.get? a=zo { cls:=.type "list",data:=.seq vs.toArray }->IntsAre vs ns->ns.length<=n->I.gens=#[] ->
   codeAny (aI l.prog w) callerA (.call (.ref Z) ⟨[.ref a],[]⟩) (λr s'=>r=.ok (.ret (.bool zb))/\OldK I.heap s'.heap/\s'.os=I.os/\AllBare s'.gens) I) :
  WalkO q J XP YP l.row.toRowW d [] (λf vs=>fJ f vs):=by
 intro w s₀ I mg mb G Y Z o pm cd U dV kV ho hd a4 hD a7 hg args a9 as a1 a8 b0 a5 b1;obtain rfl:dV=.none:=Dflts.none hD a6;obtain rfl:kV=.none:=Dflts.noKw hD;obtain ⟨a,vs,ns,rfl,rfl,a2,O,a3⟩:=Qda hn a1 a5;refine enter_call (bR (call w s₀ I mg mb Z o pm cd U a vs ns G Y ho (fd_plain hd) a4 a7 a2 O a3 hg) λr s' hq=>?_)
 obtain ⟨rfl,h2,h3,h4⟩:=hq;exact ⟨.inl ⟨.bool zb,.bool zb,[],rfl,λ_=>rfl,.bool zb,Qdf l _,λ_=>⟨fK,λ_ hm=>(nomatch hm)⟩⟩,h2,h3,h4⟩
end Att
namespace L2
open PySem PySem.Spec PyProof.Rows
variable {k k1 k2:Nat} {a f it l z i1 i2 l1 l2:aB} {fd:aP} {x:Str} {st:aM} {h h':Heap} {Q:zAD} {t1 t2:Bool} {b:aA} {xs:List V} {ta:TA} {tp:Pos}
theorem Q4a:∀ {vs:List aA} {ns:List Int},IntsAre vs ns->Vals (ns.map V.int) vs
 | _,_,.nil=>.nil
 | _,_,.cons n t h=>.cons ⟨t,rfl⟩ (Q4a h)
def Qtm (H:Hp):Prop:=∀ b,H b=zl\/∃ o xs,H b=zo (.frz o (.lst xs))
theorem Qhm {P:aK} {w:aJ} {K:bX} {mg mb:zAE} {CX:CXT} {k:Nat} {fa a:aB} {fd:aP} {x:Str} {sp:Sp} {G:aC} {vs:List aA} {ns:List Int}
  (KX:K.In G.heap) (a2:G.heap.Ns aV mg) (J:G.heap.Ns builtinsNs mb) (a6:∀ x:Str,x≠"__name__" -> mb x=aX x) (a1:G.heap.NoLimit) (hg:G.gens=#[])
  (ha:G.heap.get? a=zo { cls:=.type "list",data:=.seq vs.toArray }) (hi:IntsAre vs ns) (hl:ns.length<=sizeLine) (hr:Room k callerA)
  (F:∀ base:Heap,K.In base->base.Ns aV mg->FnOk P w K mg base CX k fa fd [x] sp) (Y:∀ (s:aC) (u:aA),BindsTo s fd ⟨[u],[]⟩ [(x,u)])
  (a7:∀ H:Hp,Qtm H->SqL K H a (ns.map V.int)->sp [.ref a] H (λv _=>v=.bl zb) λ_ _ _=>False)
  (a8:∀ H e s',CX [] H G (λ_ _ _=>False) e s'->False) :
  codeAny (aI P w) callerA (.call (.ref fa) ⟨[.ref a],[]⟩) (λr s'=>r=.ok (.ret (.bool zb))/\OldK G.heap s'.heap/\s'.os=G.os/\AllBare s'.gens) G:=by
 have rv:=Q4a hi;have a4:=hi.length;have U:∀ H:Hp,Qtm H->SqL K H a (ns.map V.int)->HOk P w H G.heap->(∀ b,H b≠zl->b=a)->(H a≠zl->K.lookup a=zl) ->
   codeAny (aI P w) callerA (.call (.ref fa) ⟨[.ref a],[]⟩) (λr s'=>r=.ok (.ret (.bool zb))/\OldK G.heap s'.heap/\s'.os=G.os/\AllBare s'.gens) G:=by
  intro H hO hS hok hA hK;have I:∀ {b:aB} {o:Obj},G.heap.get? b=zo o->H b=zl->(Q6f G.heap H).get? b=zo o:=λe n=>Qi6 e n
  have a9:∀ {b:aB} {o:Obj} {es:Array DictEntry} {ep:Nat},G.heap.get? b=zo o->o.data=.dict es ep->H b=zl:=λ{b o es ep} e d=>by
   cases q:H b with
   | none=>rfl
   | some u=>
    have e':b=a:=hA b (by rw [q]; simp);subst e';rw [ha] at e; cases e;have d':Data.seq vs.toArray _=Data.dict es ep:=d;cases d'
  have O:∀ {b:aB} {m:zAE},G.heap.Ns b m->(Q6f G.heap H).Ns b m:=λ{b m} ⟨o,es,ep,e,d,r⟩=>⟨o,es,ep,I e (a9 e d),d,r⟩
  have a3:K.In (Q6f G.heap H):=λb o e=>I (KX b o e) (by
   cases q:H b with
   | none=>rfl
   | some u=>
    have e':b=a:=hA b (by rw [q]; simp);subst e';rw [hK (by rw [q]; simp)] at e; cases e)
  have hM:Mod K mg (Q6f G.heap H):=⟨a3,O a2,⟨mb,O J,a6⟩,let ⟨mc,h1,h2⟩:=a1; ⟨mc,O h1,h2⟩⟩;have e0:Env0 P w K mg (Q6f G.heap H) callerA [] G H:=⟨rfl,hM,λb o e=>Qmk e,dn (Qe9 _ _),trivial,λb J=>absurd (show b∈([]:List aB) from J) (by simp),hok,.of_eq hg⟩;refine bR ((F _ a3 (O a2)).run callerA [] G H ⟨[.ref a],[]⟩ [.ref a] [.ref a] _ _ hr e0 (Y G (.ref a)) (.cons rfl .nil) (a7 H hO hS)) λr s' h=>?_
  cases r with
  | error e=>exact (a8 H e s' h).elim
  | ok fl=>
   cases fl with
   | next=>exact False.elim h
   | brk=>exact False.elim h
   | cont=>exact False.elim h
   | ret u=>
    obtain ⟨v,H',os,bare,un,a5,r',q⟩:=h;have q':v=.bl zb:=q;subst q';obtain rfl:u=cq zb:=r';refine ⟨rfl,OldK.of_keep λb o e=>?_,os,bare⟩;cases q:H b with
    | none=>exact un.keep b o e q (by intro z; exact absurd (show b∈([]:List aB) from z) (by simp)) (by simp)
    | some u=>
     rcases hO b with z | ⟨ob,xs,z⟩
     ·rw [q] at z; cases z
     ·have z2:=un.frzs b ob _ z;obtain ⟨e1,_⟩:=hok b _ z;obtain ⟨e2,_⟩:=a5 b _ z2;rw [e] at e1; cases e1;exact e2
 cases hk:K.lookup a with
 | some o=>
  have e:=KX a o hk;rw [ha] at e;cases e;refine U (λ_=>zl) (λ_=>.inl rfl) (.inr ⟨_,vs.toArray,_,hk,rfl,rfl,rfl,by rw [O7,a4]; exact hl,by simpa using rv⟩) (λb u z=>by have Z:(zl:Option HO)=zo u:=z; cases Z) (λb z=>absurd rfl z) λz=>absurd rfl z
 | none=>
  refine U (λb=>if b=a then zo (.frz { cls:=.type "list",data:=.seq vs.toArray } (.lst (ns.map V.int))) else zl) (λb=>?_) (.inl (.inr ⟨{ cls:=.type "list",data:=.seq vs.toArray },bT rfl⟩)) (λb u z=>?_) (λb z=>?_) λ_=>hk
  ·by_cases J:b=a
   ·exact .inr ⟨_,_,bT J⟩
   ·exact .inl (bU J)
  ·by_cases J:b=a
   ·have Z:=(bT J).symm.trans z;cases Z;subst J;exact ⟨ha,by rw [O1]; exact hl,vs,_,rv,ha⟩
   ·have Z:=(bU J).symm.trans z;cases Z
  ·by_cases J:b=a
   ·exact J
   ·exact absurd (bU J) z
theorem walk_of {l:fL} {n k:Nat} {q:aK} {J:List Str} {XP:(Str->Option aA)->Heap->Prop} {YP:aJ->Heap->Prop} {d:DefRec} {K:Params->bX} {CX:aJ->CXT} {sp:aJ->Sp} {x:Str}
  (hn:l.most=zo n) (a5:n<=sizeLine) (a2:d.params.defaults=[]) (hr:Room k callerA)
  (hY:∀ (w:aJ) (h:Heap),YP w h->(K w.params).In h)
  (F:∀ (w:aJ) (mg:zAE) (fa:aB) (h:Heap),(K w.params).In h->h.Ns aV mg->mg d.name=zo (.ref fa) ->
   ∃ fd:aP,(∀ (s:aC) (u:aA),BindsTo s fd ⟨[u],[]⟩ [(x,u)]) /\
    ∀ base:Heap,(K w.params).In base->base.Ns aV mg->FnOk l.prog w (K w.params) mg base (CX w) k fa fd [x] (sp w))
  (a1:∀ (w:aJ) (H:Hp) (a:aB) (ns:List Int),ns.length<=n->Qtm H->SqL (K w.params) H a (ns.map V.int)->sp w [.ref a] H (λv _=>v=.bl zb) λ_ _ _=>False)
  (a4:∀ (w:aJ) (H:Hp) (s:aC) (e:aA) (s':aC),CX w [] H s (λ_ _ _=>False) e s'->False) :
  gU q J XP YP l.row.toRowW d [] (λf vs=>fJ f vs):=by
 refine Att.attach_call hn a2 λw s₀ U mg mb fa o pm cd a7 a vs ns G Y ho hd a6 a3 Z O I hg=>?_
 have KX:=hY w _ Y;obtain ⟨fd,hb,hF⟩:=F w mg fa _ KX G.T.g a3;exact Qhm KX G.T.g G.T.b G.T.builtins G.T.nolimit hg Z O (E1 I a5) hr hF hb (λH hO hS=>a1 w H a ns I hO hS) λH e s'=>a4 w H U e s'
def Y8 (s:aM):Arguments:=match s with
 | .FunctionDef _ a _ _ _ _ _ _ _ _=>a
 | _=>{ posonlyargs:=[],args:=[],vararg:=zl,kwonlyargs:=[],kw_defaults:=[],kwarg:=zl,defaults:=[] }
def Z1 (s:aM):List aM:=match s with
 | .FunctionDef _ _ b _ _ _ _ _ _ _=>b
 | _=>[]
def Q7 (s:aM):Scope:=match s with
 | .FunctionDef _ _ _ _ _ _ sc _ _ _=>sc
 | _=>{ kind:=.function,names:=[],isGenerator:=yo,isCoroutine:=yo }
abbrev E0:XK:=λ_ _ _=>False
structure Fun (K:bX) (x qual:Str) (st:aM) (f:aB) (fd:aP):Prop where
 ex:∃ (oc:aA) (od:Option aB) (kV doc pm:aA) (an:Option aB) (cdv ct:aA) (osl:Array (Option aA)),
  fd=br x qual (Y8 st) (Z1 st) (Q7 st) .none kV doc pm an cdv ct/\K.lookup f=zo ⟨oc,od,.func fd,osl⟩/\cu K cdv qual=zb
 kp:cb K (.ref f)=zb
variable {P:aK} {K:bX} {mg:zAE} {base:Heap}
section
variable {w:aJ}
theorem Fun.binds {qual:Str} {ps:List Str} (F:Fun K x qual st f fd)
  (h:∀ (kV q I:aA) (J:Option aB) (G ct:aA) (us:List aA),us.length=ps.length->bindArgs (br x qual (Y8 st) (Z1 st) (Q7 st) .none kV q I J G ct) ⟨us,[]⟩=pure (ps.zip us)):Binds K fd ps []:=by
 obtain ⟨oc,Z,kV,q,I,J,G,ct,U,rfl,Y,O⟩:=F.ex;exact .all (h kV q I J G ct)
theorem Qic {qual:Str} {oc:aA} {U O:Option aB} {I:Array (Option aA)} {kV G J q ct:aA} (l:K.lookup f=zo ⟨oc,U,.func (br x qual (Y8 st) (Z1 st) (Q7 st) .none kV G J O q ct),I⟩)
  (c:cu K q qual=zb) (k:cb K (.ref f)=zb):Fun K x qual st f (br x qual (Y8 st) (Z1 st) (Q7 st) .none kV G J O q ct):=⟨⟨oc,U,kV,G,J,O,q,ct,I,rfl,l,c⟩,k⟩
end
variable {X:Cx}
theorem pv (i:Nat) {pos:Pos} (I:X.N[i]?=zo x:=by rfl) (G:Vis X.env.scope x:=by first | exact Or.inl rfl | exact Or.inr (Or.inl rfl) | exact Or.inr (Or.inr rfl)) (hd:(x == ("__debug__" : Str))=yo:=by decide)
  (q:(x == ("__classdict__" : Str))=yo:=by decide):PE X (.Name x pos) (Quf i):=Qgm I G hd q
def Same (H H':Hp):Prop:=∀ b o,H b=zo o->H' b=zo o
theorem Same.refl (H:Hp):Same H H:=λ_ _ h=>h
theorem Qat {scope:Scope} {env:Env} (h:∀ x∈scope.names,x.2=.free->∃ c,env.cells.lookup x.1=zo c) :
  ∃ cl,closureFor scope env=pure cl/\(∀ x c,cl.lookup x=zo c->env.cells.lookup x=zo c)/\(∀ x∈scope.names,x.2=.free->∃ c,cl.lookup x.1=zo c):=by
 have a2:∀ (l:List (Str × ay)) (acc:List (Str × aB)),(∀ x∈l,x.2=.free->∃ c,env.cells.lookup x.1=zo c)->(∀ x c,acc.lookup x=zo c->env.cells.lookup x=zo c) ->
   ∃ cl,(forIn l acc λ(x:Str × ay) (r:List (Str × aB))=>(match x with
    | (name,kind)=>if (kind == NameKind.free)=zb then (do let c <- cellOf env name; pure (ForInStep.yield ((name,c) :: r))) else (do pure PUnit.unit; pure (ForInStep.yield r)):Sem (ForInStep (List (Str × aB)))))=pure cl /\
    (∀ x c,cl.lookup x=zo c->env.cells.lookup x=zo c)/\(∀ x∈l,x.2=.free->∃ c,cl.lookup x.1=zo c)/\(∀ x c,acc.lookup x=zo c->∃ G,cl.lookup x=zo G):=by
  intro l
  induction l with
  | nil=>intro acc _ Z; exact ⟨acc,rfl,Z,λx hx=>(by simp at hx),λx c e=>⟨c,e⟩⟩
  | cons x r ih=>
   intro acc hl Z;obtain ⟨n,k⟩:=x
   by_cases hk:k=.free
   ·subst hk;obtain ⟨c,hc⟩:=hl (n,.free) F3 rfl;have a1:∀ x G,((n,c) :: acc).lookup x=zo G->env.cells.lookup x=zo G:=λx G e=>by
     rw [cN] at e
     by_cases hx:x=n
     ·subst hx; simp at e; rw [<- e]; exact hc
     ·have:(x == n)=yo:=by simpa using hx
      rw [this] at e; exact Z x G e
    obtain ⟨cl,J,O,e3,U⟩:=ih ((n,c) :: acc) (λy q=>hl y (O4 _ q)) a1
    refine ⟨cl,?_,O,λy q Y=>?_,λy G e=>?_⟩
    ·rw [dU];have I:cellOf env n=pure c:=by unfold cellOf; rw [hc]
     simp only [beq_self_eq_true,if_true,I];exact J
    ·rcases D5.mp q with e | q
     ·subst e;exact U n c (by simp)
     ·exact e3 y q Y
    ·by_cases q:y=n
     ·subst q; exact U y c (by simp)
     ·have:(y == n)=yo:=by simpa using q
      exact U y G (by rw [cN,this]; exact e)
   ·obtain ⟨cl,J,O,e3,U⟩:=ih acc (λy q=>hl y (O4 _ q)) Z
    refine ⟨cl,?_,O,λy q Y=>?_,U⟩
    ·rw [dU];have:(k == NameKind.free)=yo:=by simpa using hk
     simp only [this,F0,if_false];exact J
    ·rcases D5.mp q with e | q
     ·subst e; exact absurd Y hk
     ·exact e3 y q Y
 obtain ⟨cl,J,O,e3,_⟩:=a2 scope.names [] h (λx c e=>by simp at e);refine ⟨cl,?_,O,e3⟩;unfold closureFor;exact (congrArg (λz=>z >>= pure) J).trans rfl
theorem yd (f:Str->ay->ay) (x:Str):∀ l:List (Str × ay),(l.map λy=>(y.1,f y.1 y.2)).lookup x=(l.lookup x).map (f x)
 | []=>rfl
 | (n,k) :: r=>by
  have I:=yd f x r;rw [D3,cN,cN]
  by_cases q:x=n
  ·subst q; simp
  ·have G:(x == n)=yo:=by simpa using q
   rw [G]; exact I
theorem Kg {scope:Scope} {env:Env} :(relabel scope env).names.lookup x =
  (scope.names.lookup x).map λk=>if (k == .free && env.scope.kind == .function && env.kindOf x == zo .cell) then .cell else k:=by
 rw [<- yd (λn k=>if (k == .free && env.scope.kind == .function && env.kindOf n == zo .cell) then .cell else k)]
 unfold relabel;refine congrArg (List.lookup x) (L8 λy _=>?_);obtain ⟨n,k⟩:=y;show (if (k == NameKind.free && env.scope.kind == .function && env.kindOf n == zo .cell)=zb then (n,NameKind.cell) else (n,k))=_
 split <;> rfl
def ym (cap:zAC) (σ:St):St:=cap.map λc=>c.bind λj=>(σ[j]?).join
def HasItems (t:Bool) (h:Heap) (a:aB) (items:Array aA):Prop:=if t=zb then h.IsTuple a items else h.IsList a items
def IterAt (t:Bool) (h:Heap) (it a:aB) (i:Nat):Prop:=if t=zb then h.IsTupleIter it a i else h.IsListIter it a i
theorem HasItems.at {t:Bool} {q:Array aA} (x:HasItems t h a q) (k:∀ o,h.get? a=zo o->h'.get? a=zo o):HasItems t h' a q:=by
 cases t
 ·exact Heap.IsList.at x k
 ·obtain ⟨o,e,r⟩:=x;exact ⟨o,k o e,r⟩
theorem HasItems.there {t:Bool} {q:Array aA} (x:HasItems t h a q):∃ o,h.get? a=zo o:=by
 cases t
 ·obtain ⟨o,e,_⟩:=x; exact ⟨o,e⟩
 ·obtain ⟨o,e,_⟩:=x; exact ⟨o,e⟩
theorem IterAt.at {t:Bool} {i:Nat} (x:IterAt t h it a i) (k:∀ o,h.get? it=zo o->h'.get? it=zo o):IterAt t h' it a i:=by
 cases t
 ·exact Heap.IsListIter.at x k
 ·obtain ⟨o,e,r⟩:=x;exact ⟨o,k o e,r⟩
theorem IterAt.there {t:Bool} {i:Nat} (x:IterAt t h it a i):∃ o,h.get? it=zo o/\∀ v,o.data≠.cell v:=by
 cases t
 ·obtain ⟨o,e,_,d⟩:=x; exact ⟨o,e,λv z=>by rw [d] at z; cases z⟩
 ·obtain ⟨o,e,_,d⟩:=x; exact ⟨o,e,λv z=>by rw [d] at z; cases z⟩
variable {prog:aK} {A:aL} {E:zAD} {s:aC}
section
variable {w:aJ}
theorem zx {i:Nat} {items} {x:aA} {Q:zAD} (q:s.heap.IsTupleIter it l i)
  (Y:s.heap.IsTuple l items) (U:items[i]?=zo x)
  (O:∀ h',h'.IsTupleIter it l (i + 1)->Heap.SameBut it s.heap h'->Q x { s with heap:=h' }) :
  aF (aI prog w) A (Builtin.SmallTypes.nextOf (.ref it)) Q E s:=by
 obtain ⟨o,G,Z,hd⟩:=id q;obtain ⟨ol,I,_,nl,J⟩:=Y;unfold Builtin.SmallTypes.nextOf;refine aD (wpAny_callSpecial?_slot (name:=cC "__next__") q.typeIs F.slot_tuple_iterator_next
  (ah F.slot_tuple_iterator_next q.typeIs F.entry_tuple_iterator_next ?_ (F.args_tuple_iterator_next_1 _)))
 show aF _ _ (field (.ref it) 0 >>= _) _ _ s;refine aD (aY G hd (x:=.ref l) rfl ?_);show aF _ _ (if (bZ l == bc)=zb then _ else _) _ _ s;rw [bU (show ¬ ((bZ l == bc)=zb) from D2)];show aF _ _ (field (.ref it) 1 >>= _) _ _ s;refine aD (aY G hd (x:=.int i 0) rfl ?_);show aF _ _ (seqItems? (.ref l) >>= _) _ _ s;refine aD (ar I J ?_);simp only [bp,U];refine aD (wpAny_setField G hd (by simp) (wpAny_pure ⟨x,rfl,wpAny_pure (O _ ?_ (Heap.SameBut.update ..))⟩));exact ⟨_,G8 _ G (fM (dC hd _)),(gV ..).trans Z,by
  rw [dC hd]; simp [aS]⟩
theorem xv {it l:aB} {i:Nat} {items} {Q:zAD} (O:A.handled=zl)
  (q:s.heap.IsTupleIter it l i) (Z:s.heap.IsTuple l items) (U:items[i]?=zl)
  (Y:∀ h' e,Heap.ExtBut it s.heap h'->(∃ o,h'.get? e=zo o/\o.cls=.type "StopIteration")->E (.ref e) { s with heap:=h' }) :
  aF (aI prog w) A (Builtin.SmallTypes.nextOf (.ref it)) Q E s:=by
 obtain ⟨o,G,hc,hd⟩:=id q;obtain ⟨ol,I,_,nl,J⟩:=Z;unfold Builtin.SmallTypes.nextOf;refine aD (wpAny_callSpecial?_slot (name:=cC "__next__") q.typeIs F.slot_tuple_iterator_next
  (ah F.slot_tuple_iterator_next q.typeIs F.entry_tuple_iterator_next ?_ (F.args_tuple_iterator_next_1 _)))
 show aF _ _ (field (.ref it) 0 >>= _) _ _ s;refine aD (aY G hd (x:=.ref l) rfl ?_);show aF _ _ (if (bZ l == bc)=zb then _ else _) _ _ s;rw [bU (show ¬ ((bZ l == bc)=zb) from D2)];show aF _ _ (field (.ref it) 1 >>= _) _ _ s;refine aD (aY G hd (x:=.int i 0) rfl ?_);show aF _ _ (seqItems? (.ref l) >>= _) _ _ s;refine aD (ar I J ?_);simp only [bp,U];refine aD (bJ (aD (wpAny_setField G hd (by simp) ?_)));show aF _ _ (newExc (.type "StopIteration") [] >>= _) _ _ _;refine aD ?_;simp only [newExc,newTuple];refine aD (ao ?_ (by size_fits));refine aD (m:=firstArgMember _ _) (wpAny_of_eq (a:=bc) (by first | rfl | (simp only [firstArgMember]; rfl)) ?_);refine ao ?_ (by size_fits);simp only [bS]
 refine aD (wpAny_handled ?_)
 first | rw [show A.in1.handled=zl from O] | rw [O]
 refine aD (wpAny_pure (wpAny_throw ?_));exact Y _ _ (((Heap.SameBut.update ..).extBut.push _).push _) ⟨_,D0 _ rfl,rfl⟩
theorem Ua {t:Bool} {i:Nat} {q:Array aA} {x:aA} {Q:zAD} (G:IterAt t s.heap it l i)
  (O:HasItems t s.heap l q) (J:q[i]?=zo x)
  (I:∀ h',IterAt t h' it l (i + 1)->Heap.SameBut it s.heap h'->Q x { s with heap:=h' }) :
  aF (aI prog w) A (Builtin.SmallTypes.nextOf (.ref it)) Q E s:=by
 cases t
 ·exact wpAny_nextOf_list_item G O J I
 ·exact zx G O J I
theorem Xi {t:Bool} {it l:aB} {i:Nat} {q:Array aA} {Q:zAD} (U:A.handled=zl)
  (G:IterAt t s.heap it l i) (O:HasItems t s.heap l q) (I:q[i]?=zl)
  (J:∀ h' e,Heap.ExtBut it s.heap h'->(∃ o,h'.get? e=zo o/\o.cls=.type "StopIteration")->E (.ref e) { s with heap:=h' }) :
  aF (aI prog w) A (Builtin.SmallTypes.nextOf (.ref it)) Q E s:=by
 cases t
 ·exact wpAny_nextOf_list_end U G O I J
 ·exact xv U G O I J
def W7 (t:Bool) (l:aB):Obj:=if t=zb then { cls:=.type "tuple_iterator",data:=.fields #[.ref l,.int 0 0] } else { cls:=.type "list_iterator",data:=.fields #[.ref l,.int 0 0] }
theorem jr {t:Bool} {q:Array aA} {Q:zAD} (G:HasItems t s.heap l q)
  (I:Q (.ref s.heap.objs.size) { s with heap:=s.heap.push (W7 t l) }):aF (aI prog w) A (pyIter (.ref l)) Q E s:=by
 cases t
 ·exact wpAny_pyIter_list G I
 ·exact bN G I
theorem z8 {t:Bool} (e:h.get? it=zo (W7 t l)):IterAt t h it l 0:=by
 cases t
 ·exact ⟨_,e,rfl,rfl⟩
 ·exact ⟨_,e,rfl,rfl⟩
theorem Xt (t:Bool) (l:aB):(W7 t l).isFreed=yo:=by cases t <;> rfl
theorem Qct {t1 t2:Bool} {TI TO:aB} {k1 k2:Nat} {xs ys:Array aA} {x y a b:aA} {Q:zAD} (D:ZipApart z TI TO i1 i2 l1 l2)
  (hz:IsZip s.heap z TI TO .none) (c8:aZ s.heap TI (.ref i1) (.ref i2)) (d1:aZ s.heap TO a b)
  (h1:IterAt t1 s.heap i1 l1 k1) (h2:IterAt t2 s.heap i2 l2 k2) (c9:HasItems t1 s.heap l1 xs) (d0:HasItems t2 s.heap l2 ys) (hx:xs[k1]?=zo x) (hy:ys[k2]?=zo y)
  (hQ:∀ h',IsZip h' z TI TO (aS s.heap.objs.size)->aZ h' TO x y->IterAt t1 h' i1 l1 (k1 + 1)->IterAt t2 h' i2 l2 (k2 + 1)->aZ h' s.heap.objs.size x y->h'.objs.size=s.heap.objs.size + 1 ->
   (∀ c o,c≠z->c≠TO->c≠i1->c≠i2->s.heap.get? c=zo o->h'.get? c=zo o)->Q (.ref s.heap.objs.size) { s with heap:=h' }) :
  aF (aI prog w) A (Builtin.«zip.__next__» ⟨[.ref z],[]⟩) (λfin s'=>∃ v,fin=.done (.ret v)/\Q v s') E s:=by
 show aF _ _ (field (.ref z) 2 >>= _) _ _ _;refine aD (aY hz rfl (x:=.bool yo) rfl ?_);show aF _ _ (field (.ref z) 3 >>= _) _ _ _;refine aD (aY hz rfl (x:=.ref TI) rfl ?_);refine aD (ar c8 rfl ?_);show aF _ _ (Builtin.SmallTypes.ownedTupleIsFree (.ref z) >>= _) _ _ _;refine aD ?_;unfold Builtin.SmallTypes.ownedTupleIsFree;refine aD (aY hz rfl (x:=.none) rfl (wpAny_pure ?_));simp only [if_true];refine aD (bJ ?_);refine aD (aY hz rfl (x:=.ref TO) rfl ?_);refine aD (bA hz (by simp) λb9 a4 G=>?_)
 replace a4:IsZip b9 z TI TO .ellipsis:=a4;refine aD ?_;simp only [dq,gW,dU,du];refine aD (aD (wpAny_onRaise ?_));show aF _ _ (Builtin.SmallTypes.nextOf (.ref i1) >>= _) _ _ _;refine aD (Ua (h1.at λo e=>G.extBut _ _ D.i1z e) (c9.at λo e=>G.extBut _ _ D.l1z e) hx λc7 b2 J=>wpAny_pure ?_)
 have a8:aZ c7 TO a b:=J.extBut _ _ D.TOi1 (G.extBut _ _ D.TOz d1);refine aD (ar a8 rfl ?_);refine aD (wpAny_updateSeq_pair a8 λb8 Z I=>?_);replace Z:aZ b8 TO x b:=Z;refine aD (wpAny_letGo (wpAny_pure ?_));refine aD (aD (wpAny_onRaise ?_));show aF _ _ (Builtin.SmallTypes.nextOf (.ref i2) >>= _) _ _ _;refine aD (Ua (h2.at λo e=>I.extBut _ _ D.TOi2.symm (J.extBut _ _ D.i12.symm (G.extBut _ _ D.i2z e)))
  (d0.at λo e=>I.extBut _ _ D.l2TO (J.extBut _ _ D.l2i1 (G.extBut _ _ D.l2z e))) hy λc0 b5 Y=>wpAny_pure ?_)
 have a7:aZ c0 TO x b:=Y.extBut _ _ D.TOi2 Z;refine aD (ar a7 rfl ?_);refine aD (wpAny_updateSeq_pair a7 λq O U=>?_);replace O:aZ q TO x y:=O;refine aD (wpAny_letGo (wpAny_pure (wpAny_pure ?_)));refine aD (ar O rfl ?_);refine aD (wpAny_newTuple ?_);have hsz:q.objs.size=s.heap.objs.size:=by rw [U.1,Y.1,I.1,J.1,G.1]
 have a9:IsZip q z TI TO .ellipsis:=U.extBut _ _ D.TOz.symm (Y.extBut _ _ D.i2z.symm (I.extBut _ _ D.TOz.symm (J.extBut _ _ D.i1z.symm a4)));have b6:∀ c o,c≠z->c≠TO->c≠i1->c≠i2->s.heap.get? c=zo o->q.get? c=zo o:=λc o c1 c2 c3 c4 e=>
  U.extBut _ _ c2 (Y.extBut _ _ c4 (I.extBut _ _ c2 (J.extBut _ _ c3 (G.extBut _ _ c1 e))))
 have b4:IterAt t1 q i1 l1 (k1 + 1):=b2.at λo e=>U.extBut _ _ D.TOi1.symm (Y.extBut _ _ D.i12 (I.extBut _ _ D.TOi1.symm e))
 have b7:IterAt t2 q i2 l2 (k2 + 1):=b5.at λo e=>U.extBut _ _ D.TOi2.symm e
 have b1:z < q.objs.size:=O9 a9;show aF _ _ (Builtin.SmallTypes.ownedTupleHandOut (.ref z) (.ref q.objs.size) >>= _) _ _ _;refine aD ?_;unfold Builtin.SmallTypes.ownedTupleHandOut;have b3:IsZip (q.push { cls:=.type "tuple",data:=.seq #[x,y] }) z TI TO .ellipsis:=O0 _ a9;refine aD (bA b3 (by simp) λc5 a3 a6=>?_)
 replace a3:IsZip c5 z TI TO (aS q.objs.size):=a3;refine bA a3 (by simp) λa2 a1 a5=>?_
 replace a1:IsZip a2 z TI TO (aS q.objs.size):=a1;have up:∀ c o,c≠z->q.get? c=zo o->a2.get? c=zo o:=λc o c1 e=>a5.extBut _ _ c1 (a6.extBut _ _ c1 (O0 _ e))
 have b0:aZ a2 q.objs.size x y:=a5.extBut _ _ (M0 b1) (a6.extBut _ _ (M0 b1) (D0 _ rfl));have c6:a2.objs.size=q.objs.size + 1:=by rw [a5.1,a6.1,F4]
 rw [hsz] at a1 b0 c6;refine wpAny_pure ⟨_,rfl,?_⟩;show Q (.ref q.objs.size) _;rw [hsz];exact hQ a2 a1 (up _ _ D.TOz O) (b4.at λo e=>up _ o D.i1z e) (b7.at λo e=>up _ o D.i2z e) b0 c6 λc o c1 c2 c3 c4 e=>up c o c1 (b6 c o c1 c2 c3 c4 e)
theorem Qex {t1 t2:Bool} {TI TO:aB} {k1 k2:Nat} {xs ys:Array aA} {a b:aA} {Q:Fin->aC->Prop} (hh:A.handled=zl) (D:ZipApart z TI TO i1 i2 l1 l2)
  (hz:IsZip s.heap z TI TO .none) (b3:aZ s.heap TI (.ref i1) (.ref i2)) (b6:aZ s.heap TO a b)
  (h1:IterAt t1 s.heap i1 l1 k1) (h2:IterAt t2 s.heap i2 l2 k2) (a9:HasItems t1 s.heap l1 xs) (b5:HasItems t2 s.heap l2 ys) (b1:xs[k1]?=zl\/ys[k2]?=zl)
  (hE:∀ h' e,(∀ c o,c≠z->c≠TO->c≠i1->c≠i2->s.heap.get? c=zo o->h'.get? c=zo o)->(∃ o,h'.get? e=zo o/\o.cls=.type "StopIteration")->E (.ref e) { s with heap:=h' }) :
  aF (aI prog w) A (Builtin.«zip.__next__» ⟨[.ref z],[]⟩) Q E s:=by
 show aF _ _ (field (.ref z) 2 >>= _) _ _ _;refine aD (aY hz rfl (x:=.bool yo) rfl ?_);show aF _ _ (field (.ref z) 3 >>= _) _ _ _;refine aD (aY hz rfl (x:=.ref TI) rfl ?_);refine aD (ar b3 rfl ?_);show aF _ _ (Builtin.SmallTypes.ownedTupleIsFree (.ref z) >>= _) _ _ _;refine aD ?_;unfold Builtin.SmallTypes.ownedTupleIsFree;refine aD (aY hz rfl (x:=.none) rfl (wpAny_pure ?_));simp only [if_true];refine aD (bJ ?_);refine aD (aY hz rfl (x:=.ref TO) rfl ?_);refine aD (bA hz (by simp) λa7 J q=>?_)
 replace J:IsZip a7 z TI TO .ellipsis:=J;refine aD ?_;simp only [dq,gW,dU,du];refine aD (aD (wpAny_onRaise ?_));show aF _ _ (Builtin.SmallTypes.nextOf (.ref i1) >>= _) _ _ _;cases hx:xs[k1]? with
 | none=>
  refine aD (Xi hh (h1.at λo e=>q.extBut _ _ D.i1z e) (a9.at λo e=>q.extBut _ _ D.l1z e) hx λa4 e G he=>?_)
  obtain ⟨oe,O,a1⟩:=he;have a2:IsZip a4 z TI TO .ellipsis:=G _ _ D.i1z.symm J;have a6:e≠z:=λx=>by subst x; rw [a2] at O; cases O; simp at a1
  refine bA a2 (by simp) λa5 _ I=>hE a5 e (λc o c1 _ c3 _ x=>I.extBut _ _ c1 (G _ _ c3 (q.extBut _ _ c1 x))) ⟨oe,I.extBut _ _ a6 O,a1⟩
 | some x=>
  have hy:ys[k2]?=zl:=by rcases b1 with h | h; rw [hx] at h; cases h; exact h
  refine aD (Ua (h1.at λo e=>q.extBut _ _ D.i1z e) (a9.at λo e=>q.extBut _ _ D.l1z e) hx λa4 b4 G=>wpAny_pure ?_)
  have U:aZ a4 TO a b:=G.extBut _ _ D.TOi1 (q.extBut _ _ D.TOz b6);refine aD (ar U rfl ?_);refine aD (wpAny_updateSeq_pair U λa5 b2 I=>?_);refine aD (wpAny_letGo (wpAny_pure ?_));refine aD (aD (wpAny_onRaise ?_));show aF _ _ (Builtin.SmallTypes.nextOf (.ref i2) >>= _) _ _ _;refine aD (Xi hh (h2.at λo e=>I.extBut _ _ D.TOi2.symm (G.extBut _ _ D.i12.symm (q.extBut _ _ D.i2z e)))
   (b5.at λo e=>I.extBut _ _ D.l2TO (G.extBut _ _ D.l2i1 (q.extBut _ _ D.l2z e))) hy λa8 e Z he=>?_)
  obtain ⟨oe,O,a1⟩:=he;have a3:IsZip a8 z TI TO .ellipsis:=Z _ _ D.i2z.symm (I.extBut _ _ D.TOz.symm (G.extBut _ _ D.i1z.symm J));have a6:e≠z:=λx=>by subst x; rw [a3] at O; cases O; simp at a1
  refine bA a3 (by simp) λb0 _ Y=>hE b0 e (λc o c1 c2 c3 c4 x=>Y.extBut _ _ c1 (Z _ _ c4 (I.extBut _ _ c2 (G.extBut _ _ c3 (q.extBut _ _ c1 x))))) ⟨oe,Y.extBut _ _ a6 O,a1⟩
theorem Q2m {t1 t2:Bool} {TI TO:aB} {k1 k2:Nat} {xs ys:Array aA} {x y a b:aA} {Q:Option aA->aC->Prop} (D:ZipApart z TI TO i1 i2 l1 l2)
  (hz:IsZip s.heap z TI TO .none) (G:aZ s.heap TI (.ref i1) (.ref i2)) (J:aZ s.heap TO a b)
  (h1:IterAt t1 s.heap i1 l1 k1) (h2:IterAt t2 s.heap i2 l2 k2) (q:HasItems t1 s.heap l1 xs) (I:HasItems t2 s.heap l2 ys) (Z:xs[k1]?=zo x) (hy:ys[k2]?=zo y)
  (Y:∀ h',IsZip h' z TI TO (aS s.heap.objs.size)->aZ h' TO x y->IterAt t1 h' i1 l1 (k1 + 1)->IterAt t2 h' i2 l2 (k2 + 1)->aZ h' s.heap.objs.size x y->h'.objs.size=s.heap.objs.size + 1 ->
   (∀ c o,c≠z->c≠TO->c≠i1->c≠i2->s.heap.get? c=zo o->h'.get? c=zo o)->Q (zo (.ref s.heap.objs.size)) { s with heap:=h' }) :
  aF (aI prog w) A (ag (.ref z)) Q E s:=by
 have O:s.TypeIs (.ref z) "zip" := ⟨_,hz,rfl⟩;unfold ag;exact aD (wpAny_attempt (wpAny_callSpecial?_slot (name:=cC "__next__") O F.slot_zip_next
  (ah F.slot_zip_next O F.entry_zip_next
   (Qct D hz G J h1 h2 q I Z hy λh' a1 a2 a3 a4 U a6 a7=>wpAny_pure (Y h' a1 a2 a3 a4 U a6 a7)) (F.args_zip_next_1 _))))
theorem Q41 {t1 t2:Bool} {TI TO:aB} {k1 k2:Nat} {xs ys:Array aA} {a b:aA} {Q:Option aA->aC->Prop} (hh:A.handled=zl) (D:ZipApart z TI TO i1 i2 l1 l2)
  (hz:IsZip s.heap z TI TO .none) (I:aZ s.heap TI (.ref i1) (.ref i2)) (O:aZ s.heap TO a b)
  (h1:IterAt t1 s.heap i1 l1 k1) (h2:IterAt t2 s.heap i2 l2 k2) (G:HasItems t1 s.heap l1 xs) (J:HasItems t2 s.heap l2 ys) (q:xs[k1]?=zl\/ys[k2]?=zl)
  (Z:∀ h',(∀ c o,c≠z->c≠TO->c≠i1->c≠i2->s.heap.get? c=zo o->h'.get? c=zo o)->Q zl { s with heap:=h' }):aF (aI prog w) A (ag (.ref z)) Q E s:=by
 have U:s.TypeIs (.ref z) "zip" := ⟨_,hz,rfl⟩;unfold ag;refine aD (wpAny_attempt (wpAny_callSpecial?_slot (name:=cC "__next__") U F.slot_zip_next
  (ah F.slot_zip_next U F.entry_zip_next (Qex hh D hz I O h1 h2 G J q λh' e hk Y=>?_) (F.args_zip_next_1 _))))
 obtain ⟨o,ho,hc⟩:=Y;refine aD (bK (T := "StopIteration") (b:=zb) ⟨o,ho,hc⟩ isSubtype_stop ?_);exact wpAny_pure (Z _ hk)
end
def zH1 (t1:Bool) (h:Heap) (l1:aB):Heap:=h.push (W7 t1 l1)
def zH2 (t1 t2:Bool) (h:Heap) (l1 l2:aB):Heap:=(zH1 t1 h l1).push (W7 t2 l2)
def zH3 (t1 t2:Bool) (h:Heap) (l1 l2:aB):Heap:=(zH2 t1 t2 h l1 l2).push { cls:=.type "tuple",data:=.seq #[.ref h.objs.size,.ref (zH1 t1 h l1).objs.size] }
def zH4 (t1 t2:Bool) (h:Heap) (l1 l2:aB):Heap:=(zH3 t1 t2 h l1 l2).push { cls:=.type "tuple",data:=.seq #[.none,.none] }
def zH5 (t1 t2:Bool) (h:Heap) (l1 l2:aB):Heap:=(zH4 t1 t2 h l1 l2).push { cls:=.type "zip",data:=.fields #[.none,.bool yo,.bool yo,.ref (zH2 t1 t2 h l1 l2).objs.size,.ref (zH3 t1 t2 h l1 l2).objs.size] }
theorem Q2q (t1 t2:Bool) (l1 l2:aB) (xs ys:Array aA) :
  Meets (Builtin.«zip.__new__» ⟨[.type "zip",.ref l1,.ref l2],[]⟩) (λ_ R s=>HasItems t1 s.heap l1 xs/\HasItems t2 s.heap l2 ys /\
   R (.ok (.ret (.ref (zH4 t1 t2 s.heap l1 l2).objs.size))) { s with heap:=zH5 t1 t2 s.heap l1 l2 }):=
 .of_wp λprog w A R s h=>by
  obtain ⟨U,g,d,O,os⟩:=s; obtain ⟨q,I,h⟩:=h;have Y:=sub_zip;have J:HasItems t1 (Shared.heap ⟨U,g,d,O,os⟩) l1 xs:=q;have G:HasItems t2 (Shared.heap ⟨U.push (W7 t1 l1),g,d,O,os⟩) l2 ys:=I.at λo e=>O0 _ e
  wp_walk using jr J,jr G
  exact ⟨_,rfl,h⟩
section
variable {w:aJ}
theorem Qem {xs ys:Array aA} {Q:zAD} (J:HasItems t1 s.heap l1 xs) (Y:HasItems t2 s.heap l2 ys)
  (h:∀ h',IsZip h' (s.heap.objs.size + 4) (s.heap.objs.size + 2) (s.heap.objs.size + 3) .none->aZ h' (s.heap.objs.size + 2) (.ref s.heap.objs.size) (.ref (s.heap.objs.size + 1)) ->
   aZ h' (s.heap.objs.size + 3) .none .none->IterAt t1 h' s.heap.objs.size l1 0->IterAt t2 h' (s.heap.objs.size + 1) l2 0->h'.objs.size=s.heap.objs.size + 5 ->
   (∀ c o,s.heap.get? c=zo o->h'.get? c=zo o)->Q (.ref (s.heap.objs.size + 4)) { s with heap:=h' }) :
  aF (aI prog w) A (call (.type "zip") [.ref l1,.ref l2]) Q E s:=by
 refine callType_new F.called_zip (by decide) (F.typeCall_zip_2 _ _) (F.newCall_zip_2 _ _) (λobj=>F.args_object_init_3 obj _ _) F.entry_zip_new
  (Q2q t1 t2 l1 l2 xs ys) ⟨J,Y,?_⟩
 have U:(zH1 t1 s.heap l1).objs.size=s.heap.objs.size + 1:=F4 ..;have I:(zH2 t1 t2 s.heap l1 l2).objs.size=s.heap.objs.size + 2:=by unfold zH2; rw [F4,U]
 have O:(zH3 t1 t2 s.heap l1 l2).objs.size=s.heap.objs.size + 3:=by unfold zH3; rw [F4,I]
 have G:(zH4 t1 t2 s.heap l1 l2).objs.size=s.heap.objs.size + 4:=by unfold zH4; rw [F4,O]
 have z5:(zH5 t1 t2 s.heap l1 l2).objs.size=s.heap.objs.size + 5:=by unfold zH5; rw [F4,G]
 have q:(zH5 t1 t2 s.heap l1 l2).get? (zH4 t1 t2 s.heap l1 l2).objs.size=zo { cls:=.type "zip",data:=.fields #[.none,.bool yo,.bool yo,.ref (zH2 t1 t2 s.heap l1 l2).objs.size,.ref (zH3 t1 t2 s.heap l1 l2).objs.size] }:=D0 _ rfl;have g4:(zH5 t1 t2 s.heap l1 l2).get? (zH3 t1 t2 s.heap l1 l2).objs.size=zo { cls:=.type "tuple",data:=.seq #[.none,.none] }:=O0 _ (D0 _ rfl);have Z:(zH5 t1 t2 s.heap l1 l2).get? (zH2 t1 t2 s.heap l1 l2).objs.size=zo { cls:=.type "tuple",data:=.seq #[.ref s.heap.objs.size,.ref (zH1 t1 s.heap l1).objs.size] }:=O0 _ (O0 _ (D0 _ rfl));have g2:(zH5 t1 t2 s.heap l1 l2).get? (zH1 t1 s.heap l1).objs.size=zo (W7 t2 l2):=O0 _ (O0 _ (O0 _ (D0 _ (Xt _ _))));have g1:(zH5 t1 t2 s.heap l1 l2).get? s.heap.objs.size=zo (W7 t1 l1):=O0 _ (O0 _ (O0 _ (O0 _ (D0 _ (Xt _ _)))));show _/\_;rw [I,O,G] at q;rw [U,I] at Z;rw [O] at g4;rw [U] at g2;rw [G];exact ⟨⟨_,q,rfl⟩,h _ q Z g4 (z8 g1) (z8 g2) z5 λc o x=>
  O0 _ (O0 _ (O0 _ (O0 _ (O0 _ x))))⟩
end
def SqK (K:bX) (t:Bool) (H:Hp) (a:aB) (xs:List V):Prop:=if t=zb then SqT K H a xs else SqL K H a xs
variable {pins:zAA} {σ:St} {H:Hp}
theorem Inv.seqK {t:Bool} (I:Inv X pins σ H s) (h:SqK X.K t H a xs):∃ its:List aA,Vals xs its/\HasItems t s.heap a its.toArray/\xs.length<=sizeLine:=by
 cases t
 ·obtain ⟨its,r,p,z⟩:=I.list h;exact ⟨its,r,p.isList,z⟩
 ·obtain ⟨its,r,p,z⟩:=I.tuple h;exact ⟨its,r,p,z⟩
theorem Inv.seqK_inj {t:Bool} {ys:List V} (I:Inv X pins σ H s) (h:SqK X.K t H a xs) (h':SqK X.K t H a ys):xs=ys:=by
 cases t
 ·exact I.list_inj h h'
 ·exact I.tuple_inj h h'
theorem Inv.turnedL {t':Nat} {its:List aB} (I:Inv X pins σ H s) (k:∀ b o,b∉its->s.heap.get? b=zo o->h'.get? b=zo o) (O:∀ b∈its,Q3s X pins H b):Inv X pins σ H { s with heap:=h',toks:=t' }:=by
 have J:∀ b u,H b=zo u->b∉its:=λb u e z=>by rw [(O b z).1] at e; cases e
 refine I.step (g':=s.gens) (d':=s.drawn) (ch:=its) (λb hb=>?_) (λb o _ _ G e _=>k b o G e) (λb o _ _ G e _=>⟨o.slots,k b o G e⟩) (λ_ _ _ _ n=>n)
  (λb o G e=>⟨o,k b o G e⟩) (λ_ _ e=>e) (λ_ _ _ e=>e) (λb ps e=>⟨#[],by rw [e]; simp⟩) (λm hm=>?_) (λb u e=>?_) I.bare
 ·obtain ⟨f0,Z,f2,U,f4,Y⟩:=O b hb;exact ⟨U,Z,f4,Y⟩
 ·obtain ⟨o,es,ep,ho,r⟩:=hm;exact ⟨o,es,ep,k _ o (λz=>(O _ z).2.1 rfl) ho,r⟩
 ·refine (I.hok b u e).stay (λc v G q=>k c v ?_ q) (λ_ q=>q) λ_ _ q=>q
  rcases G with z | z
  ·rw [z]; exact J b u e
  ·exact J c _ z
def Itz (K:bX) (t1 t2:Bool) (a b:aB):It:=
 ⟨λi H=>∃ xs ys x y,SqK K t1 H a xs/\SqK K t2 H b ys/\xs[i]?=zo x/\ys[i]?=zo y,
  λi H v H'=>∃ p x y,H p=zl/\v=.ref p/\H'=upd H p (.tup [x,y])/\∀ xs ys,SqK K t1 H a xs->SqK K t2 H b ys->xs[i]?=zo x/\ys[i]?=zo y,
  λi H=>∃ xs ys,SqK K t1 H a xs/\SqK K t2 H b ys/\(xs.length<=i\/ys.length<=i)⟩
def Qu8 (t1 t2:Bool) (z TI TO i1 i2 a b:aB) (i:Nat) (h:Heap):Prop:=
 IsZip h z TI TO .none/\aZ h TI (.ref i1) (.ref i2)/\(∃ u v,aZ h TO u v)/\IterAt t1 h i1 a i/\IterAt t2 h i2 b i
theorem Q4k {a:aA}:∀ v,({ cls:=.type "tuple",data:=.seq #[a,b] }:Obj).data≠.cell v:=λv z=>by cases z
theorem Qf2 {P:aK} {w:aJ} {K:bX} {b4:List aH} {k:Nat} {pos:Pos} {t1 t2:Bool} {TI TO b:aB} (D:ZipApart z TI TO i1 i2 a b) :
  Turn P w K (.Tuple b4 k pos) (Itz K t1 t2 a b) [z,TI,TO,i1,i2] z (Qu8 t1 t2 z TI TO i1 i2 a b) where
 mem:=by simp
 obj:=λi h st c G=>by
  obtain ⟨hz,J,⟨u,v,O⟩,h1,h2⟩:=st;simp at G;rcases G with rfl | rfl | rfl | rfl | rfl
  ·exact ⟨_,hz,λv q=>by cases q⟩
  ·exact ⟨_,J,Q4k⟩
  ·exact ⟨_,O,Q4k⟩
  ·exact h1.there
  ·exact h2.there
 keep:=λi h h' st kk=>by
  obtain ⟨hz,J,⟨u,v,O⟩,h1,h2⟩:=st;exact ⟨kk z (by simp) _ hz,kk TI (by simp) _ J,⟨u,v,kk TO (by simp) _ O⟩,h1.at λo e=>kk i1 (by simp) o e,h2.at λo e=>kk i2 (by simp) o e⟩
 item:=by
  intro X hP hw hK G i pins s σ H E I hf st hg;subst hP hw hK;obtain ⟨xs,ys,x,y,Z,a8,hx,hy⟩:=hg;obtain ⟨hz,J,⟨u,v,O⟩,h1,h2⟩:=st;obtain ⟨its,rv,p,_⟩:=I.seqK Z;obtain ⟨b6,b3,p2,_⟩:=I.seqK a8;obtain ⟨ux,c3,c4⟩:=rv.get hx;obtain ⟨uy,c1,c2⟩:=b3.get hy;refine Q2m D hz J O h1 h2 p p2 (x:=ux) (y:=uy) (by simpa using c3) (by simpa using c1) λh' a1 a2 a3 a4 a5 a6 a7=>⟨_,rfl,?_⟩
  refine wpAny_letOwnedTupleGo_zip (s:={ s with heap:=h' }) a1 λa9 b1 b2=>?_
  have c5:H s.heap.objs.size=zl:=I.fresh;have c0:z < s.heap.objs.size:=O9 hz;have c7:TI < s.heap.objs.size:=O9 J;have c9:TO < s.heap.objs.size:=O9 O;have c8:i1 < s.heap.objs.size:=by obtain ⟨o,e,_⟩:=h1.there; exact O9 e
  have c6:i2 < s.heap.objs.size:=by obtain ⟨o,e,_⟩:=h2.there; exact O9 e
  have Y:Inv X pins σ H { s with heap:=a9 }:=I.turnedL (t':=s.toks) (its:=[z,TO,i1,i2]) (λc o G e=>(b2.2 c (λq=>G (by simp [q]))).trans (a7 c o (λq=>G (by simp [q])) (λq=>G (by simp [q])) (λq=>G (by simp [q])) (λq=>G (by simp [q])) e))
   λc G=>hf c (by simp at G ⊢; rcases G with rfl | rfl | rfl | rfl <;> simp)
  have b0:aZ a9 s.heap.objs.size ux uy:=(b2.2 _ (M0 c0)).trans a5;have U:H s.heap.objs.size=zl:=c5;have I2:Inv X pins σ (upd H s.heap.objs.size (.tup [x,y])) { s with heap:=a9 }:=by
   refine ⟨Y.ok,Y.os,Y.bare,?_,Y.loc,Y.cell,?_,?_,?_,?_,Y.len⟩
   ·have u0:=Y.base;have old:∀ c o,X.s₀.heap.get? c=zo o->c≠s.heap.objs.size:=λc o e=>D8 (D1 (O9 e) I.sz)
    exact ⟨u0.keep,u0.slot,λc o e n hx=>by rw [Q9 (old c o e)]; exact u0.free c o e n hx,u0.there,
     λc ts e=>by have:=u0.tups c ts e; rw [Q9 (Qa this U)]; exact this,
     λc o ts e=>by have:=u0.frzs c o ts e; rw [Q9 (Qa this U)]; exact this,
     λc ps e=>by obtain ⟨more,q⟩:=u0.tbls c ps e; exact ⟨more,by rw [Q9 (Qa q U)]; exact q⟩⟩
   ·rw [Q9 (D8 I.lt)]; exact I.free
   ·intro x' c e;obtain ⟨v',q⟩:=I.cell x' c e;rw [Q9 (D8 q.lt)]; exact I.freeC x' c e
   ·intro p' b5;obtain ⟨e,n,ne,nf,d⟩:=Y.pin p' b5;have e0:=(I.pin p' b5).1;exact ⟨e,by rw [Q9 (D8 (O9 e0))]; exact n,ne,nf,d⟩
   ·intro c o q
    by_cases b7:c=s.heap.objs.size
    ·subst b7;rw [Qt] at q; cases q;exact ⟨by simp only [D4,cK]; rw [sizeLine_eq]; decide,[ux,uy],.cons c4 (.cons c2 .nil),⟨_,b0,rfl,0,rfl⟩⟩
    ·rw [Q9 b7] at q;exact (Y.hok c o q).stay (λ_ _ _ r=>r) (λc' r=>by rw [Q9 (Qa r U)]; exact r) λc' ts r=>by rw [Q9 (Qa r U)]; exact r
  refine ⟨.ref s.heap.objs.size,_,I2,rfl,⟨s.heap.objs.size,x,y,U,rfl,rfl,λd1 d0 q1 q2=>?_⟩,?_,λc G=>?_⟩
  ·rw [I.seqK_inj q1 Z,I.seqK_inj q2 a8]; exact ⟨hx,hy⟩
  ·exact ⟨b1,b2.extBut _ _ D.TIz (a7 _ _ D.TIz D.TITO D.TIi1 D.TIi2 J),⟨_,_,b2.extBut _ _ D.TOz a2⟩,a3.at λo e=>b2.extBut _ _ D.i1z e,a4.at λo e=>b2.extBut _ _ D.i2z e⟩
  ·have:=(hf c G).1;have b9:c < s.heap.objs.size:=by simp at G; rcases G with rfl | rfl | rfl | rfl | rfl <;> assumption
   rw [Q9 (D8 b9)]; exact this
 done:=by
  intro X hP hw hK G i pins s σ H E I hf st hg;subst hP hw hK;obtain ⟨xs,ys,Z,a8,b8⟩:=hg;obtain ⟨hz,J,⟨u,v,O⟩,h1,h2⟩:=st;obtain ⟨its,rv,p,_⟩:=I.seqK Z;obtain ⟨b6,b3,p2,_⟩:=I.seqK a8;have l1:=rv.length;have l2:=b3.length;refine Q41 (I.ok.hd G) D hz J O h1 h2 p p2 (b8.elim (λh=>.inl (by simp; omega)) λh=>.inr (by simp; omega)) λh' kk=>⟨rfl,?_⟩
  exact I.turnedL (t':=s.toks) (its:=[z,TO,i1,i2]) (λc o G e=>kk c o (λq=>G (by simp [q])) (λq=>G (by simp [q])) (λq=>G (by simp [q])) (λq=>G (by simp [q])) e)
   λc G=>hf c (by simp at G ⊢; rcases G with rfl | rfl | rfl | rfl <;> simp)
 self:=λ_ _ _ _ _ st h=>wpAny_pyIter_zip st.1 h
def Qz6 (K:bX) (t1 t2:Bool) (ta:TA):TI:=λσ H R=>ta σ H λvs H1=>∃ a b xs ys,vs=[.ref a,.ref b]/\SqK K t1 H1 a xs/\SqK K t2 H1 b ys/\R (Itz K t1 t2 a b) H1
theorem Qj1:aX "zip" = zo (.type "zip"):=by decide +kernel
theorem Qrd (t1 t2:Bool) {a b:aH} {p pos:Pos} {J:List aH} {k:Nat} {tp:Pos} (hg:Gl X "zip") (hm:X.mg "zip" = zl) (ha:PA X [a,b] ta) (hs:aN [a,b] X.env=[(yo,aO a X.env),(yo,aO b X.env)]:=by rfl) (U:aN [b] X.env=[(yo,aO b X.env)]:=by rfl) :
  PI X (.Tuple J k tp) (.Call (.Name "zip" p) [a,b] [] pos) (Qz6 X.K t1 t2 ta):=by
 intro pins s σ H R I h;refine Call_ (Kx I hg hm Qj1 (cy (thn (ha pos pins s σ H _ I h) λus s1 ⟨vs,H1,G,r1,Z⟩=>?_) (by rw [hs,U]) (by rw [U]; rfl)))
 obtain ⟨a',b',xs,ys,e,Z,q2,q⟩:=Z;subst e;cases r1 with
 | cons r Y=>
  cases Y with
  | cons r' Y=>
   cases Y;cases r;cases r';obtain ⟨its,rv,p1,_⟩:=G.seqK Z;obtain ⟨a1,a4,p2,_⟩:=G.seqK q2;refine Qem p1 p2 λh' z1 z2 z3 z4 z5 z6 z7=>?_
   refine wpAny_pyIter_zip (s:={ s1 with heap:=h' }) z1 ?_;have a3:a' < s1.heap.objs.size:=by obtain ⟨o,e⟩:=p1.there; exact O9 e
   have a2:b' < s1.heap.objs.size:=by obtain ⟨o,e⟩:=p2.there; exact O9 e
   have D:ZipApart (s1.heap.objs.size + 4) (s1.heap.objs.size + 2) (s1.heap.objs.size + 3) s1.heap.objs.size (s1.heap.objs.size + 1) a' b':=by
    constructor <;> (intro z; unfold aB at*; omega)
   refine ⟨_,[s1.heap.objs.size + 4,s1.heap.objs.size + 2,s1.heap.objs.size + 3,s1.heap.objs.size,s1.heap.objs.size + 1],_,_,H1,rfl,G.kept (t':=s1.toks) z7,Qf2 (t1:=t1) (t2:=t2) D,⟨z1,z2,⟨_,_,z3⟩,z4,z5⟩,λc hc=>?_,q⟩
   have O:s1.heap.objs.size<=c:=by simp at hc; unfold aB at*; omega
   exact G.fpOk O (G.hok.fresh O)
theorem Qq0 {prog:aK} {w:aJ} (O:A.handled=zl) (t:Bool) (I G:aB) (J:G≠I) (q:Array aA) :
  Walks prog w A I [I,G] [I] q.size (λi v=>q[i]?=zo v) (λi h=>IterAt t h I G i/\HasItems t h G q):=by
 cases t
 ·exact Walks.list O I G J q
 ·exact Walks.tuple O I G J q
theorem Inv.movedNew {s':aC} (I:Inv X pins σ H s) {o:Obj} (m:Moved [s.heap.objs.size] (λa b=>b=a) { s with heap:=s.heap.push o } s'):Inv X pins σ H s':=by
 obtain ⟨m1,G,U,J,Y⟩:=m;obtain ⟨h',g',d',t',o'⟩:=s';have q:g'=s.gens:=G;have O:d'=s.drawn:=U;have e3:o'=s.os:=J;subst q O e3;refine I.kept (t':=t') λb u e=>m1 b u (λz=>?_) (O0 _ e)
 have:b=s.heap.objs.size:=by simpa using z
 exact absurd (O9 e) (by rw [this]; exact L3 _)
theorem Qet {bs:List Bool} {its:List aA} (r:Vals (bs.map V.bl) its):∀ (i:Nat) (v:aA),its.toArray[i]?=zo v->v=cq (bs.getD i yo):=λi v e=>by
 have q:its[i]?=zo v:=by simpa using e
 have hi:i < its.length:=(O2.mp q).1;have I:=r.length;rw [O1] at I;have J:(bs.map V.bl)[i]?=zo (V.bl (bs.getD i yo)):=by
  have:i < bs.length:=by omega
  simp [dw,this]
 obtain ⟨u,G,ru⟩:=r.get J;rw [q] at G;cases G;exact ru
theorem Q6d {t:Bool} {q:Array aA} (I:HasItems t s.heap l q):l≠s.heap.objs.size /\
  (IterAt t (s.heap.push (W7 t l)) s.heap.objs.size l 0/\HasItems t (s.heap.push (W7 t l)) l q)/\∀ b∈[s.heap.objs.size,l],b < (s.heap.push (W7 t l)).objs.size:=by
 obtain ⟨o,e⟩:=I.there;have G:=O9 e;refine ⟨D8 G,⟨z8 (D0 _ (Xt _ _)),I.at λo e=>O0 _ e⟩,λb J=>?_⟩
 rw [F4];simp at J;rcases J with rfl | rfl
 ·exact dE _
 ·exact cv G
theorem Qdc (bs:List Bool):(bY bs.length).all (λi=>bs.getD i yo)=bs.all id:=by
 induction bs with
 | nil=>rfl
 | cons b r q=>
  rw [D4,fN,cE,bw,cE,<- q];rfl
theorem Qiy (t:Bool) (hc:X.calm=zb):Wg X (.builtin "all") (λxs H Q=>∃ (a:aB) (bs:List Bool),xs=[.ref a]/\SqK X.K t H a (bs.map V.bl)/\Q (.bl (bs.all id)) H):=by
 intro pins s σ H xs us Q I r h;obtain ⟨a,bs,rfl,Y,q⟩:=h;obtain ⟨u,rfl,r1⟩:=U5 r;cases r1;obtain ⟨its,G,p,_⟩:=I.seqK Y;obtain ⟨U,w2,w3⟩:=Q6d p;have J:=G.length;rw [O1] at J;refine call_all_walkS (jr p ⟨_,_,_,_,_,_,_,λj=>bs.getD j yo,rfl,(Qq0 (A:=X.A.in1) (I.ok.hd hc) t _ a U its.toArray).toS,w2,λi v s' Q' E' Z O=>?_,λs' m=>?_⟩)
 ·rw [Qet G i v Z];exact bE O
 ·refine ⟨.bl (bs.all id),H,I.movedNew m,?_,q⟩;show cq _=_;rw [O7,<- J,Qdc]
theorem Qt6 {prog:aK} {w:aJ} (Z:A.handled=zl) (t:Bool) (it l:aB) (J:l≠it) (q:Array aA) :
  Draws prog w A it [it,l] q.size (λi v=>q[i]?=zo v) (λi h=>IterAt t h it l i/\HasItems t h l q) where
 live:=λ_ _ st=>let ⟨o,e,_⟩:=st.1.there; ⟨o,e⟩
 frame:=λ_ _ _ st O=>⟨st.1.at λo e=>O it (by simp) o e,st.2.at λo e=>O l (by simp) o e⟩
 item:=λi s Q E hi st U=>by
  refine Ua st.1 st.2 (x:=q[i]) (by simp [hi]) λh' I G=>?_
  exact U _ h' s.toks (by simp [hi]) ⟨I,st.2.at λo e=>G.extBut _ _ J e⟩ G
 done:=λs Q E st Y=>Xi Z st.1 st.2 (by simp) Y
theorem Q8b (l:aB) (q:Array aA) (n:Nat) (J:Option aB) (sl:Array (Option aA)) :
  Meets (Builtin.«enumerate.__new__» ⟨[.type "enumerate",.ref l],[]⟩) (λ_ R s=>s.heap.get? l=zo { cls:=.type "tuple",dict:=J,data:=.seq q n,slots:=sl } /\
   R (.ok (.ret (.ref (s.heap.push { cls:=.type "tuple_iterator",data:=.fields #[.ref l,.int 0 0] }).objs.size)))
    { s with heap:=(s.heap.push { cls:=.type "tuple_iterator",data:=.fields #[.ref l,.int 0 0] }).push { cls:=.type "enumerate",data:=.fields #[.none,.bool yo,.ref s.heap.objs.size,aS 0,.none,.none] } }):=
 .of_wp λprog w A R s h=>by
  obtain ⟨Y,g,d,U,os⟩:=s; obtain ⟨G,h⟩:=h;have O:=sub_enumerate;have I:Heap.IsTuple (Shared.heap ⟨Y,g,d,U,os⟩) l q:=⟨_,G,rfl,n,rfl⟩
  wp_walk using AutoSeq1.wpAny_loadPart' G
  refine wpAny_stack_any λst=>wpAny_pure ?_
  split
  ·rename_i c _ _ _ _ _;cases (c == bj "enumerate")
   ·wp_walk using AutoSeq1.wpAny_loadPart' G,bN I
    exact ⟨_,rfl,h⟩
   ·wp_walk using AutoSeq1.wpAny_loadPart' G,bN I
    exact ⟨_,rfl,h⟩
  ·wp_walk using AutoSeq1.wpAny_loadPart' G,bN I
   exact ⟨_,rfl,h⟩
section
variable {w:aJ}
theorem Qaw {q:Array aA} {Q:zAD} (J:s.heap.IsTuple l q)
  (h:∀ h',IsEnum h' (s.heap.objs.size + 1) s.heap.objs.size 0 .none->h'.IsTupleIter s.heap.objs.size l 0->h'.objs.size=s.heap.objs.size + 2 ->
   (∀ b o,s.heap.get? b=zo o->h'.get? b=zo o)->Q (.ref (s.heap.objs.size + 1)) { s with heap:=h' }) :
  aF (aI prog w) A (call (.type "enumerate") [.ref l]) Q E s:=by
 obtain ⟨⟨c,G,O,sl⟩,hl,hc,n,hd⟩:=J;replace hc:c=.type "tuple" := hc;replace hd:O=.seq q n:=hd;subst hc hd;refine callType_new F.called_enumerate (by decide) (F.typeCall_enumerate_1 _) (F.newCall_enumerate_1 _) (λobj=>F.args_object_init_2 obj _) F.entry_enumerate_new
  (Q8b l q n G sl) ⟨hl,?_⟩
 have hz:(s.heap.push { cls:=.type "tuple_iterator",data:=.fields #[.ref l,.int 0 0] }).objs.size=s.heap.objs.size + 1:=F4 ..;show _/\_;rw [hz];have I:IsEnum ((s.heap.push { cls:=.type "tuple_iterator",data:=.fields #[.ref l,.int 0 0] }).push
   { cls:=.type "enumerate",data:=.fields #[.none,.bool yo,.ref s.heap.objs.size,aS 0,.none,.none] }) (s.heap.objs.size + 1) s.heap.objs.size 0 .none:=by
  have:=D0 (s.heap.push { cls:=.type "tuple_iterator",data:=.fields #[.ref l,.int 0 0] })
   (o:={ cls:=.type "enumerate",data:=.fields #[.none,.bool yo,.ref s.heap.objs.size,aS 0,.none,.none] }) rfl
  rw [hz] at this; exact this
 refine ⟨⟨_,I,rfl⟩,h _ I ⟨_,O0 _ (D0 _ rfl),rfl,rfl⟩ (by rw [F4,hz]) λb o x=>O0 _ (O0 _ x)⟩
theorem Qax {t:Bool} {q:Array aA} {Q:zAD} (G:HasItems t s.heap l q)
  (h:∀ h',IsEnum h' (s.heap.objs.size + 1) s.heap.objs.size 0 .none->IterAt t h' s.heap.objs.size l 0->h'.objs.size=s.heap.objs.size + 2 ->
   (∀ b o,s.heap.get? b=zo o->h'.get? b=zo o)->Q (.ref (s.heap.objs.size + 1)) { s with heap:=h' }) :
  aF (aI prog w) A (call (.type "enumerate") [.ref l]) Q E s:=by
 cases t
 ·exact call_enumerate_list G h
 ·exact Qaw G h
end
def Ite (K:bX) (t:Bool) (a:aB):It:=
 ⟨λi H=>∃ xs x,SqK K t H a xs/\xs[i]?=zo x,
  λi H v H'=>∃ p x,H p=zl/\v=.ref p/\H'=upd H p (.tup [.int i,x])/\∀ xs,SqK K t H a xs->xs[i]?=zo x,
  λi H=>∃ xs,SqK K t H a xs/\xs.length<=i⟩
theorem Inv.tracks {s1:aC} {p:aB} {its:List aA} (I:Inv X pins σ H s) (G:Inv X pins σ H s1) (Z:s.heap.objs.size<=p) (U:H p=zl) (rv:Vals xs its) (hz:xs.length<=sizeLine)
  (ht:IsTup s1.heap p its.toArray):Inv X pins σ (upd H p (.tup xs)) s1:=by
 refine ⟨G.ok,G.os,G.bare,?_,G.loc,G.cell,?_,?_,?_,?_,G.len⟩
 ·have u0:=G.base;have old:∀ c o,X.s₀.heap.get? c=zo o->c≠p:=λc o e=>D8 (D1 (O9 e) (E1 I.sz Z))
  exact ⟨u0.keep,u0.slot,λc o e n hx=>by rw [Q9 (old c o e)]; exact u0.free c o e n hx,u0.there,
   λc Y e=>by have:=u0.tups c Y e; rw [Q9 (Qa this U)]; exact this,
   λc o Y e=>by have:=u0.frzs c o Y e; rw [Q9 (Qa this U)]; exact this,
   λc ps e=>by obtain ⟨more,q⟩:=u0.tbls c ps e; exact ⟨more,by rw [Q9 (Qa q U)]; exact q⟩⟩
 ·rw [Q9 (D8 (D1 I.lt Z))]; exact I.free
 ·intro x' c e;obtain ⟨v',q⟩:=I.cell x' c e;rw [Q9 (D8 (D1 q.lt Z))]; exact I.freeC x' c e
 ·intro p' J;obtain ⟨e,n,ne,nf,d⟩:=G.pin p' J;have e0:=(I.pin p' J).1;exact ⟨e,by rw [Q9 (D8 (D1 (O9 e0) Z))]; exact n,ne,nf,d⟩
 ·intro c o q
  by_cases O:c=p
  ·subst O;rw [Qt] at q; cases q;exact ⟨hz,its,rv,ht⟩
  ·rw [Q9 O] at q;exact (G.hok c o q).stay (λ_ _ _ r=>r) (λc' r=>by rw [Q9 (Qa r U)]; exact r) λc' Y r=>by rw [Q9 (Qa r U)]; exact r
def Qt4 (t:Bool) (e it a:aB) (i:Nat) (h:Heap):Prop:=(∃ old,IsEnum h e it i old)/\IterAt t h it a i
theorem Qd0 {P:aK} {w:aJ} {K:bX} {a5:List aH} {k:Nat} {pos:Pos} {t:Bool} {e:aB} (a1:e≠it) (b0:a≠e) (a9:a≠it) :
  Turn P w K (.Tuple a5 k pos) (Ite K t a) [e,it] e (Qt4 t e it a) where
 mem:=by simp
 obj:=λi h st c hc=>by
  obtain ⟨⟨old,O⟩,h1⟩:=st;simp at hc;rcases hc with rfl | rfl
  ·exact ⟨_,O,λv q=>by cases q⟩
  ·exact h1.there
 keep:=λi h h' st kk=>by
  obtain ⟨⟨old,O⟩,h1⟩:=st;exact ⟨⟨old,kk e (by simp) _ O⟩,h1.at λo q=>kk it (by simp) o q⟩
 item:=by
  intro X hP hw hK hc i pins s σ H E I hf st hg;subst hP hw hK;obtain ⟨xs,x,Y,hx⟩:=hg;obtain ⟨⟨old,O⟩,h1⟩:=st;obtain ⟨its,rv,p,_⟩:=I.seqK Y;obtain ⟨ux,a6,b2⟩:=rv.get hx;have b3:i < its.toArray.size:=by rw [O7]; exact (O2.mp a6).1
  refine wpAny_pyNext_enum_itemD (Qt6 (A:=X.A.in1) (I.ok.hd hc) t it a a9 its.toArray) O ⟨h1,p⟩ b3 a1 (by simp; exact ⟨a1,λz=>b0 z.symm⟩) λx' h' tk a3 ho b1 hT hsz hk=>⟨_,rfl,?_⟩
  have:x'=ux:=by
   have e1:its[i]?=zo x':=by simpa using a3
   rw [a6] at e1; exact (bn e1).symm
  subst this;refine wpAny_letOwnedTupleGo_enum (s:={ s with heap:=h',toks:=tk + 1 }) ho λa4 a2 J=>?_
  have elt:e < s.heap.objs.size:=O9 O;have b5:it < s.heap.objs.size:=by obtain ⟨o,q,_⟩:=h1.there; exact O9 q
  have a7:H s.heap.objs.size=zl:=I.fresh;have I1:Inv X pins σ H { s with heap:=a4,toks:=tk + 1 }:=I.turnedL (its:=[e,it]) (λc o G q=>(J.2 c (λz=>G (by simp [z]))).trans (hk c o (λz=>G (by simp [z])) (λz=>G (by simp [z])) q)) λc G=>hf c G
  have Z:a4.get? s.heap.objs.size=zo { cls:=.type "tuple",data:=.seq #[.int i tk,x'] }:=(J.2 _ (M0 elt)).trans hT;have I2:=I.tracks (xs:=[.int i,x]) (its:=[.int i tk,x']) I1 (O5 _) a7 (.cons ⟨tk,rfl⟩ (.cons b2 .nil)) (by simp only [D4,cK]; rw [sizeLine_eq]; decide) ⟨_,Z,rfl,0,rfl⟩;refine ⟨.ref s.heap.objs.size,_,I2,rfl,⟨s.heap.objs.size,x,a7,rfl,rfl,λb6 q1=>?_⟩,?_,λc G=>?_⟩
  ·rw [I.seqK_inj q1 Y]; exact hx
  ·exact ⟨⟨x',by simpa using a2⟩,b1.1.at λo q=>J.extBut _ _ (Ne.symm a1) q⟩
  ·have:=(hf c G).1;have a8:c < s.heap.objs.size:=by simp at G; rcases G with rfl | rfl <;> assumption
   rw [Q9 (D8 a8)]; exact this
 done:=by
  intro X hP hw hK hc i pins s σ H E I hf st hg;subst hP hw hK;obtain ⟨xs,Y,b4⟩:=hg;obtain ⟨⟨old,O⟩,h1⟩:=st;obtain ⟨its,rv,p,_⟩:=I.seqK Y;have hl:=rv.length;have hT:s.TypeIs (.ref e) "enumerate" := ⟨_,O,rfl⟩;unfold ag;refine aD (wpAny_attempt (wpAny_callSpecial?_slot (name:=cC "__next__") hT F.slot_enumerate_next
   (ah F.slot_enumerate_next hT F.entry_enumerate_next ?_ (F.args_enumerate_next_1 _))))
  show aF _ _ (field (.ref e) 2 >>= _) _ _ _;refine aD (aY O rfl (x:=.ref it) rfl ?_);refine aD (Xi (I.ok.hd hc) h1 p (by simp; omega) λh' x a2 a3=>?_)
  obtain ⟨o,ho,G⟩:=a3;refine aD (bK (T := "StopIteration") (b:=zb) ⟨o,ho,G⟩ isSubtype_stop ?_);exact wpAny_pure ⟨rfl,I.turnedL (t':=s.toks) (its:=[it]) (λc o U q=>a2 c o (λz=>U (by simp [z])) q) λc U=>hf c (by simp at U; simp [U])⟩
 self:=λ_ _ _ _ _ st h=>by
  obtain ⟨⟨old,O⟩,_⟩:=st;exact wpAny_pyIter_enum O h
def Qwi (K:bX) (t:Bool) (ta:TA):TI:=λσ H R=>ta σ H λvs H1=>∃ a xs,vs=[.ref a]/\SqK K t H1 a xs/\R (Ite K t a) H1
theorem Q3g:aX "enumerate" = zo (.type "enumerate"):=by decide +kernel
theorem Qm1 (t:Bool) {a:aH} {p pos:Pos} {J:List aH} {k:Nat} {tp:Pos} (hg:Gl X "enumerate") (hm:X.mg "enumerate" = zl) (ha:PA X [a] ta) (hs:aN [a] X.env=[(yo,aO a X.env)]:=by rfl) :
  PI X (.Tuple J k tp) (.Call (.Name "enumerate" p) [a] [] pos) (Qwi X.K t ta):=by
 intro pins s σ H R I h;refine Call_ (Kx I hg hm Q3g (cy (thn (ha pos pins s σ H _ I h) λus s1 ⟨vs,H1,U,r1,Y⟩=>?_) hs rfl))
 obtain ⟨a',xs,e,Y,q⟩:=Y;subst e;obtain ⟨u,rfl,r⟩:=U5 r1;cases r;obtain ⟨its,rv,p1,_⟩:=U.seqK Y;refine Qax p1 λh' Z z2 z3 z4=>?_
 refine wpAny_pyIter_enum (s:={ s1 with heap:=h' }) Z ?_;have G:a' < s1.heap.objs.size:=by obtain ⟨o,e⟩:=p1.there; exact O9 e
 refine ⟨_,[s1.heap.objs.size + 1,s1.heap.objs.size],_,_,H1,rfl,U.kept (t':=s1.toks) z4,Qd0 (t:=t) (M0 (dE _)) (D8 (cv G)) (D8 G),⟨⟨_,Z⟩,z2⟩,λc hc=>?_,q⟩
 have O:s1.heap.objs.size<=c:=by simp at hc; unfold aB at*; omega
 exact U.fpOk O (U.hok.fresh O)
theorem Q7h {o:HO} (h:H a=zl):Same H (upd H a o):=λb u e=>by rw [Q9 (Qa e h)]; exact e
variable {te:TE} {H1:Hp} {Q:VK}
section
variable {cap:zAC}
abbrev g2 (K:bX):TG:=Qwn K 2 (Qia (Q8s 0) (Qia (Q8s 1) Qwp))
end
def Qx0:V->Option aA
 | .ty n=>zo (.type n)
 | .ref a=>zo (.ref a)
 | _=>zl
theorem Qit {c:V} {q u:aA} (e:Qx0 c=zo q) (r:RelV c u):u=q:=by
 cases c with
 | ty n=>cases e; exact r
 | ref a=>cases e; exact r
 | _=>cases e
theorem Q98:Wg X (.builtin "isinstance") (λxs H Q=>∃ x c G t b,xs=[x,c]/\Qx0 c=zo G/\TyOf X.K H x t/\ew X.K t G=zo b/\Q (.bl b) H):=by
 intro pins s σ H xs us Q I r h;obtain ⟨x,c,G,t,b,rfl,Y,ty,e,q⟩:=h;obtain ⟨u,Z,rfl,U,O⟩:=Qud r;rw [Qit Y O];exact Qe5 I U ty e λJ=>⟨.bl b,H,I.tok J,rfl,q⟩
theorem Q10:aX "isinstance" = zo (.builtin "isinstance"):=by decide +kernel
theorem Qj5:aX "all" = zo (.builtin "all"):=by decide +kernel
theorem zc:aX "tuple" = zo (.type "tuple"):=by decide +kernel
theorem X7:aX "list" = zo (.type "list"):=by decide +kernel
theorem Qj4:aX "int" = zo (.type "int"):=by decide +kernel
theorem Qes:aX "bool" = zo (.type "bool"):=by decide +kernel
theorem Qj2:aX "str" = zo (.type "str"):=by decide +kernel
end L2
namespace L2
open PySem PySem.Spec PyProof.Rows PySem.W PySem.Builtin.Getset_descriptor
end L2
namespace L2
open PySem PySem.Spec PyProof.Rows
variable {P:aK} {H:Hp} {h:Heap} {a:aB} {cl:List (Str × aB)}
theorem ObjOk.there {w:aJ} {o:HO} (x:ObjOk P w H h a o):∃ u,h.get? a=zo u:=by
 cases o with
 | lst xs=>obtain ⟨_,_,_,_,e⟩:=x; exact ⟨_,e⟩
 | tup xs=>obtain ⟨_,_,_,o,e,_⟩:=x; exact ⟨o,e⟩
 | dK q=>obtain ⟨_,_,_,_,o,_,_,e,_⟩:=x; exact ⟨o,e⟩
 | dT q=>obtain ⟨_,_,_,_,o,_,_,e,_⟩:=x; exact ⟨o,e⟩
 | set S n=>obtain ⟨o,_,_,_,e,_⟩:=x; exact ⟨o,e⟩
 | ins C dx fs=>obtain ⟨_,_,_,e,_⟩:=x; exact ⟨_,e⟩
 | own y=>exact x
 | xd fs=>obtain ⟨_,⟨o,_,_,e,_⟩,_⟩:=x; exact ⟨o,e⟩
 | rng lo hi=>obtain ⟨_,_,_,e⟩:=x; exact ⟨_,e⟩
 | frz ob u=>obtain ⟨e,_⟩:=x; exact ⟨_,e⟩
 | tbl ps=>exact ⟨_,x⟩
 | met f y=>exact ⟨_,x⟩
 | ext G=>exact x.2.1
theorem HOk.none_of {w:aJ} (x:HOk P w H h) (e:h.get? a=zl):H a=zl:=by
 cases q:H a with
 | none=>rfl
 | some o=>
  obtain ⟨u,z⟩:=(x a o q).there;rw [e] at z;cases z
structure Fly (P:aK) (w:aJ) (outer:List Env) (H H':Hp) (s s':aC) (a:aB) (cls a0:aA) (B:Heap):Prop where
 os:s'.os=s.os
 bare:AllBare s'.gens
 fl:Heap.FlyingW B outer a cls a0 s'.heap
 hokB:HOk P w H' B
 keep:∀ b o,s.heap.get? b=zo o->H b=zl->b∉frs outer->B.get? b=zo o
 there:∀ b o,s.heap.get? b=zo o->b∉frs outer->∃ o',B.get? b=zo o'
 slot:∀ b o,s.heap.get? b=zo o->b∈frs outer->∃ sl,s'.heap.get? b=zo { o with slots:=sl }
 free:∀ b o,s.heap.get? b=zo o->H b=zl->H' b=zl
 tups:∀ b xs,H b=zo (.tup xs)->H' b=zo (.tup xs)
 frzs:∀ b o u,H b=zo (.frz o u)->H' b=zo (.frz o u)
 tbls:∀ b ps,H b=zo (.tbl ps)->∃ more,H' b=zo (.tbl (ps ++ more))
@[inline,reducible]def Q9b:List aA:=[.type "ValueError",.type "Exception",.type "BaseException",.type "object"]
theorem Qma {K:bX} {C:aB} {I:List aA} {G:String} {x:Str} {mg:zAE} (X:K.In h) (m:mg x=zo (.ref C)) (q:cO K C I G=zb):OwnCls x C I G mg h:=by
 refine ⟨m,?_⟩;unfold cO at q
 split at q
 ·rename_i dd cd sl U
  split at q
  ·rename_i Z bm k0 k1 k2 k3 n k5 hm hs;simp only [E2,beq_iff_eq,Bool.not_eq_true'] at q;obtain ⟨⟨⟨⟨⟨rfl,rfl⟩,hdel⟩,ht⟩,hok⟩,hni⟩:=q;obtain ⟨nm,bs,O,ns,qn,hd,sn,sub,ab,col,Y⟩:=cd;dsimp only at hm hdel hok hni;subst hm hdel;have J:sl=#[k0,k1,k2,k3,zo (.builtin n),k5]:=by
    obtain ⟨l⟩:=sl;simp only at hs;rw [hs]
   subst J;exact ⟨bm,ns,nm,qn,bs,hd,sn,sub,ab,col,dd,k0,k1,k2,k3,k5,_,X _ _ U,.of_isNs (PySem.W.isNs_of_in X hok),PySem.W.nsMap_none_of_in X hok hni,PySem.W.tail_of_in X ht⟩
  ·cases q
 ·cases q
variable {X:Cx}
def Qq5 (C:aB) (E:XK) (t:TA):TS:=λ_ σ H=>t σ H λvs H1=>vs.length<=sizeLine/\E (.ref C) zl H1
theorem Q1p (l:aB) (q:Array aA) (n:Nat) (dd:Option aB) (sl:Array (Option aA)) (t:Tok) :
  Meets (Builtin.«tuple.__mul__» ⟨[.ref l,.int 1 t],[]⟩) (λ_ R s=>s.heap.get? l=zo { cls:=.type "tuple",dict:=dd,data:=.seq q n,slots:=sl }/\R (.ok (.ret (.ref l))) s):=
 .of_wp λprog w A R s h=>by
  obtain ⟨J,g,d,I,os⟩:=s; obtain ⟨G,h⟩:=h
  wp_walk using wpAny_loadPart' G
  exact ⟨_,rfl,h⟩
theorem Q1q (l:aB) (q:Array aA) (n:Nat) (dd:Option aB) (sl:Array (Option aA)) (x:Int) (t:Tok) (h1:¬ (decide (x < -(2 ^ 63)) || decide (x>=2 ^ 63))=zb) (h2:¬ (q.isEmpty || x == 1)=zb) (Z:¬ (decide (x<=0) || q.isEmpty)=zb) (J:¬ (q.size:Int) * x > (2 ^ 63 - 1) / 8) (I:¬ Builtin.Tuple.tupleTooMany ((q.size:Int) * x)=zb)
  (O:((ba x.toNat q).foldl (λx1 x2=>x1 ++ x2) #[]).size<=sizeLine) :
  Meets (Builtin.«tuple.__mul__» ⟨[.ref l,.int x t],[]⟩) (λ_ R s=>s.heap.get? l=zo { cls:=.type "tuple",dict:=dd,data:=.seq q n,slots:=sl } /\
   R (.ok (.ret (bZ s.heap.objs.size))) { s with heap:=s.heap.push { cls:=bj "tuple",data:=Data.seq ((ba x.toNat q).foldl (λx1 x2=>x1 ++ x2) #[]) } }):=
 .of_wp λprog w A R s h=>by
  obtain ⟨Y,g,d,U,os⟩:=s; obtain ⟨G,h⟩:=h
  wp_walk using wpAny_loadPart' G
  refine wpAny_ite_false (bV h1) ?_
  wp_walk using wpAny_loadPart' G
  refine wpAny_ite_false (bV J) ?_
  wp_walk using wpAny_loadPart' G
  all_goals first | exact ⟨_,rfl,h⟩ | (refine wpAny_ite_false (bV I) ?_; wp_walk) | skip
  all_goals first | exact ⟨_,rfl,h⟩ | (refine wpAny_ite_false (bV (gX.mpr O)) ?_; wp_walk; exact ⟨_,rfl,h⟩)
theorem Q32 (a:Int) (t:Tok) (l:aB) (q:Array aA) (n:Nat) (dd:Option aB) (sl:Array (Option aA)) :
  Meets (Builtin.«int.__rmul__» ⟨[.int a t,.ref l],[]⟩) (λ_ R s=>s.heap.get? l=zo { cls:=.type "tuple",dict:=dd,data:=.seq q n,slots:=sl }/\R (.ok (.ret fC)) s):=
 .of_wp λprog w A R s h=>by obtain ⟨J,g,d,I,os⟩:=s; obtain ⟨G,h⟩:=h; wp_walk using wpAny_loadPart' G; exact ⟨_,rfl,h⟩
theorem xu:fillsNumberSlot (.type "tuple") "mul" = pure yo:=
 PySem.fillsNumberSlot_seq (id := "tuple.__mul__") (r:=zo (.builtin "tuple.__rmul__")) F.slot_tuple_mul.lookup (by decide +kernel) F.slot_tuple_rmul.lookup (by decide +kernel)
theorem Q5k:seqRepeat? (.type "tuple")=pure (zo (.builtin "tuple.__mul__")):=by
 unfold seqRepeat?;rw [gY (T := "tuple") (name := "__mul__") (id := "tuple.__mul__") F.slot_tuple_mul.lookup (by decide +kernel),gY (T := "tuple") (name := "__rmul__") (id := "tuple.__rmul__") F.slot_tuple_rmul.lookup (by decide +kernel)];rfl
def Qv0 (K:bX):R2:=λx y H Q=>∃ a k xs,x=.ref a/\y=.int k/\SqT K H a xs/\xs≠[]/\1<=k/\xs.length * k.toNat<=4096 /\
 (k=1->Q (.ref a) H)/\(k≠1->∀ p,H p=zl->Q (.ref p) (upd H p (.tup (ba k.toNat xs).flatten)))
theorem Qmg:OpR X (af .Mult) (Qv0 X.K):=by
 intro pins s σ H x y v u Q I rx ry h;obtain ⟨a,k,xs,rfl,rfl,ha,O,hk,hz,q1,q2⟩:=h;cases rx;obtain ⟨t,rfl⟩:=ry;obtain ⟨its,r,p1,hs⟩:=I.tuple ha;obtain ⟨⟨cls,dd,data,sl⟩,ho,hc,n,hd⟩:=id p1;simp only at hc hd;subst hc hd;have Y:its.length=xs.length:=r.length.symm;have G:0 < its.length:=by rw [Y]; exact List.length_pos_iff.mpr O
 have a1:k.toNat<=4096:=by
  have:1 * k.toNat<=xs.length * k.toNat:=Nat.mul_le_mul_right _ (by omega);omega
 refine wpAny_binaryOp_repeat_ref (T := "tuple") (U := "int") (by decide) ⟨_,ho,rfl⟩ (λs'=>typeIs_int s' k t) xu F.fills_int_mul F.slot_int_rmul Q5k F.slot_int_index.lookup
  (bI F.slot_int_rmul (typeIs_int s k t) F.entry_int_rmul (F.args_int_rmul_2 _ _) (Q32 k t a its.toArray n dd sl)
   ⟨ho,rfl,⟨_,ho,rfl⟩,?_⟩)
 by_cases h1:k=1
 ·subst h1;exact bI F.slot_tuple_mul ⟨_,ho,rfl⟩ F.entry_tuple_mul (F.args_tuple_mul_2 _ _) (Q1p a its.toArray n dd sl t) ⟨ho,⟨.ref a,H,I,rfl,q1 rfl⟩⟩
 ·have f0:cM (λx1 x2=>x1 ++ x2) #[] (ba k.toNat its.toArray)=(ba k.toNat its).flatten.toArray:=by
   have:=Q06 its k.toNat [];rw [fI] at this;exact this
  have J:(its.toArray.size:Int) * k=((its.length * k.toNat:Nat):Int):=by
   rw [O7,Int.natCast_mul,fO (by omega)]
  have Z:(ba k.toNat its).flatten.length<=4096:=by rw [Q6a,Y,dm]; exact hz
  have hb:its.length * k.toNat<=4096:=by rw [Y]; exact hz
  refine bI F.slot_tuple_mul ⟨_,ho,rfl⟩ F.entry_tuple_mul (F.args_tuple_mul_2 _ _) (Q1q a its.toArray n dd sl k t ?_ ?_ ?_ ?_ ?_ ?_) ⟨ho,?_⟩
  ·rw [bV (by omega),bV (by omega)]; exact D2
  ·intro z;rcases gZ.mp z with z | z
   ·rw [gc,gf] at z; rw [z] at G; simp at G
   ·exact h1 (eq_of_beq z)
  ·intro z;rcases gZ.mp z with z | z
   ·have:=of_decide_eq_true z; omega
   ·rw [gc,gf] at z; rw [z] at G; simp at G
  ·rw [J]; omega
  ·rw [J];have:(4096:Int)<=sizeLine:=by decide
   show ¬ decide (((its.length * k.toNat:Nat):Int) > (sizeLine:Int))=zb;rw [bV (by omega)]; exact D2
  ·rw [f0,O7]; exact E1 Z (by decide)
  ·rw [f0];refine ⟨.ref s.heap.objs.size,_,I.laid (t':=s.toks) (o:=.tup (ba k.toNat xs).flatten) (λb ob q=>O0 _ q) (O5 _) ?_,rfl,q2 h1 _ (I.hok.fresh (O5 _))⟩;exact ⟨by rw [Q6a,dm]; exact E1 hz (by decide),_,r.rep k.toNat,IsTup.new _ _⟩
variable {pins:zAA} {s:aC} {σ:St} {H:Hp}
open PySem.SeqAt
theorem Q81:OpR X (aU .IsNot) (λx y H Q=>∃ b c,x=.bl b/\y=.bl c/\Q (.bl (b != c)) H):=by
 intro pins s σ H x y v u Q I J G h;obtain ⟨b,c,rfl,rfl,q⟩:=h;cases J;cases G;exact iq ⟨.bl _,H,I,rfl,q⟩
theorem W8:∀ (names:List (Str × ay)) (h:Heap) (acc:List (Str × aB)) (x:Str) (c:aB),(aq h.objs.size names acc).lookup x=zo c ->
  acc.lookup x=zo c\/((x,NameKind.cell)∈names/\h.objs.size<=c/\(pushCells h names).IsCell c zl)
 | [],_,_,_,_,e=>.inl e
 | (name,kind) :: r,h,acc,x,c,e=>by
  unfold aq at e;unfold pushCells
  by_cases G:(kind == NameKind.cell)=zb
  ·rw [bT G] at e ⊢;have q:kind=.cell:=by simpa using G
   have Y:=W8 r (h.push { cls:=.type "cell",data:=.cell zl }) ((name,h.objs.size) :: acc) x c (by rw [F4]; exact e);rw [F4] at Y;rcases Y with z | ⟨J,U,I⟩
   ·rw [cN] at z;cases O:x == name with
    | true=>
     rw [O] at z; cases z;exact .inr ⟨by rw [beq_iff_eq.mp O,q]; exact F3,O5 _,⟨_,pushCells_keeps _ _ _ _ (D0 _ rfl),rfl⟩⟩
    | false=>rw [O] at z; exact .inl z
   ·exact .inr ⟨O4 _ J,by omega,I⟩
  ·rw [bU G] at e ⊢;rcases W8 r h acc x c e with z | ⟨J,U,I⟩
   ·exact .inl z
   ·exact .inr ⟨O4 _ J,U,I⟩
theorem V2 {x:Str}:∀ (names:List (Str × ay)) (n:Nat) (acc:List (Str × aB)),(x,NameKind.cell)∉names->(aq n names acc).lookup x=acc.lookup x
 | [],_,_,_=>rfl
 | (name,kind) :: r,n,acc,h=>by
  unfold aq;have G:(x,NameKind.cell)∉r:=λz=>h (O4 _ z)
  by_cases q:(kind == NameKind.cell)=zb
  ·rw [bT q,V2 r _ _ G,cN];cases I:x == name with
   | true=>exact absurd (by rw [beq_iff_eq.mp I,show kind=.cell by simpa using q]; exact F3) h
   | false=>rfl
  ·rw [bU q,V2 r _ _ G]
theorem Ux {x:Str} {c:aB}:∀ (names:List (Str × ay)) (n:Nat) (acc:List (Str × aB)),(x,NameKind.cell)∈names->(aq n names acc).lookup x=zo c->n<=c
 | [],_,_,h,_=>by cases h
 | (name,kind) :: r,n,acc,h,e=>by
  unfold aq at e
  by_cases G:(x,NameKind.cell)∈r
  ·by_cases I:(kind == NameKind.cell)=zb
   ·rw [bT I] at e;exact Nat.le_of_succ_le (Ux r _ _ G e)
   ·rw [bU I] at e;exact Ux r _ _ G e
  ·rcases D5.mp h with q | q
   ·cases q;rw [bT (by decide),V2 r _ _ G,cN] at e;simp at e;exact dn e
   ·exact absurd q G
theorem Uy:∀ (names:List (Str × ay)) (n:Nat) (acc:List (Str × aB)),(∀ x c,acc.lookup x=zo c->c < n)->(∀ x y c,acc.lookup x=zo c->acc.lookup y=zo c->x=y) ->
  ∀ x y c,(aq n names acc).lookup x=zo c->(aq n names acc).lookup y=zo c->x=y
 | [],_,_,_,h=>h
 | (name,kind) :: r,n,acc,h1,h2=>by
  unfold aq
  by_cases J:(kind == NameKind.cell)=zb
  ·rw [bT J];refine Uy r (n + 1) _ (λx c e=>?_) (λx y c e G=>?_)
   ·rw [cN] at e;cases I:x == name with
    | true=>rw [I] at e; cases e; exact dE _
    | false=>rw [I] at e; exact cv (h1 x c e)
   ·rw [cN] at e G;cases I:x == name with
    | true=>
     rw [I] at e; cases e;cases q:y == name with
     | true=>rw [beq_iff_eq.mp I,beq_iff_eq.mp q]
     | false=>rw [q] at G; exact absurd (h1 y _ G) (L3 _)
    | false=>
     rw [I] at e;cases q:y == name with
     | true=>rw [q] at G; cases G; exact absurd (h1 x _ e) (L3 _)
     | false=>rw [q] at G; exact h2 x y c e G
  ·rw [bU J];exact Uy r n acc h1 h2
theorem Q3t {M:Model} {A:aL} {E:zAD} {s:aC} {scope:Scope} {G:aB} {cl:List (Str × aB)} {qual:Str} {I:Option aB} {code:aA} {env:Env} {q:aB} {Q:Env->aC->Prop}
  (U:Q (newEnv scope s.heap.objs.size G (aq (s.heap.objs.size + 1) scope.names cl) qual I code (zo env) q) { s with heap:=pushCells (s.heap.push { cls:=.type "dict",data:=.dict #[] }) scope.names }) :
  aF M A (newFunctionEnv scope G cl [] qual I code (zo env) q) Q E s:=by
 simp only [newFunctionEnv,gi,if_true];refine aD (wpAny_alloc ?_);refine aD (wpAny_layCells _ (λname kind O=>by cases J:kind == NameKind.cell <;> simp [J]) _ _ _ _ ?_);rw [show ({ s with heap:=s.heap.push { cls:=.type "dict",data:=.dict #[] } }:aC).heap.objs.size=s.heap.objs.size + 1 from F4 ..];refine aD ?_;rw [du];exact wpAny_pure (wpAny_pure U)
def compOkC (N N':List Str) (sc scE:Scope) (cap:zAC):Bool:=
 sc.kind == .function && sc.names.all (λx=>x.2 != .cell || sc.names.lookup x.1 == zo .cell) && sc.names.all (λx=>x.2 != .local || sc.names.lookup x.1 == zo .local) &&
 sc.names.all (λx=>x.2 != .free || scE.names.lookup x.1 == zo .cell || scE.names.lookup x.1 == zo .free) && cap.length == N'.length &&
 (bY cap.length).all (λi=>match cap[i]? with
  | some (zo j)=>(match N'[i]?,N[j]? with | some a,zo b=>a == b && sc.names.lookup a == zo .free | _,_=>yo)
  | _=>zb)
structure CompOkC (N N':List Str) (sc scE:Scope) (cap:zAC):Prop where
 kind:sc.kind=.function
 cel:∀ x∈sc.names,x.2=.cell->sc.names.lookup x.1=zo .cell
 loc:∀ x∈sc.names,x.2=.local->sc.names.lookup x.1=zo .local
 fre:∀ x∈sc.names,x.2=.free->scE.names.lookup x.1=zo .cell\/scE.names.lookup x.1=zo .free
 len:cap.length=N'.length
 at_:∀ (i j:Nat),cap[i]?=zo (zo j)->∃ x,N'[i]?=zo x/\N[j]?=zo x/\sc.names.lookup x=zo .free
theorem compOkC.of {N N':List Str} {sc scE:Scope} {cap:zAC} (h:compOkC N N' sc scE cap=zb):CompOkC N N' sc scE cap:=by
 unfold compOkC at h;simp only [E2,E9,beq_iff_eq,Bool.or_eq_true,bne_iff_ne] at h;obtain ⟨⟨⟨⟨⟨h1,h2⟩,h3⟩,h4⟩,h5⟩,h6⟩:=h;refine ⟨h1,λx q e=>?_,λx q e=>?_,λx q e=>?_,h5,λi j e=>?_⟩
 ·rcases h2 x q with z | z
  ·exact absurd e z
  ·exact z
 ·rcases h3 x q with z | z
  ·exact absurd e z
  ·exact z
 ·rcases h4 x q with (z | z) | z
  ·exact absurd e z
  ·exact .inl z
  ·exact .inr z
 ·have hi:i < cap.length:=(O2.mp e).1;have:=h6 i (cA.mpr hi);rw [e] at this;simp only at this;cases G:N'[i]? with
  | none=>rw [G] at this; cases this
  | some a=>
   cases I:N[j]? with
   | none=>rw [G,I] at this; cases this
   | some b=>
    rw [G,I] at this;simp only [E2,beq_iff_eq] at this;obtain ⟨rfl,z⟩:=this;exact ⟨a,rfl,rfl,z⟩
def Y9 (X:Cx) (N':List Str) (sc:Scope) (cl:List (Str × aB)) (C:aB) (s0:aC) (H0:Hp) (ex:List aB):Cx:=
 { X with N:=N',s₀:=s0,H₀:=H0,env:=compEnvC sc cl C X.env,outer:=X.stack,ex:=ex,fn:=λx=>sc.names.lookup x == zo .cell,pn:=[],xe:=λ_ _=>False }
theorem Qj7 {pins:zAA} {σ:St} {H:Hp} {s:aC} {N N':List Str} {sc scE:Scope} {cap:zAC} {cl:List (Str × aB)} {fp:List aB}
  (I:Inv X pins σ H s) (hN:X.N=N) (hE:X.env.scope=scE) (ck:CompOkC N N' sc scE cap) (c1:∀ x c,cl.lookup x=zo c->X.env.cells.lookup x=zo c) (c2:∀ x∈sc.names,x.2=.free->∃ c,cl.lookup x.1=zo c)
  (hf:∀ b∈fp,Q3s X pins H b) (a6:∀ b∈fp,b < s.heap.objs.size) :
  Inv (Y9 X N' sc (aq (s.heap.objs.size + 1) sc.names cl) s.heap.objs.size s H fp) [] (ym cap σ) H { s with heap:=pushCells (s.heap.push { cls:=.type "dict",data:=.dict #[] }) sc.names }:=by
 obtain ⟨J,U⟩:∃ J,pushCells (s.heap.push { cls:=.type "dict",data:=.dict #[] }) sc.names=J:=⟨_,rfl⟩;obtain ⟨G,O⟩:∃ G,aq (s.heap.objs.size + 1) sc.names cl=G:=⟨_,rfl⟩;rw [U,O];have keep:∀ b o,s.heap.get? b=zo o->J.get? b=zo o:=λb o e=>by rw [<- U]; exact pushCells_keeps _ _ b o (O0 _ e)
 have b0:J.Ns s.heap.objs.size (λ_=>zl):=by rw [<- U]; exact (Heap.Ns.new s.heap (.type "dict")).keeps (pushCells_keeps _ _)
 have look:∀ x c,G.lookup x=zo c->cl.lookup x=zo c\/(s.heap.objs.size + 1<=c/\J.IsCell c zl):=λx c e=>by
  rw [<- O] at e;have:=W8 (sc.names) (s.heap.push { cls:=.type "dict",data:=.dict #[] }) cl x c (by rw [F4]; exact e);rw [F4,U] at this;rcases this with z | ⟨_,z,z'⟩
  ·exact .inl z
  ·exact .inr ⟨z,z'⟩
 have a2:∀ x c,cl.lookup x=zo c->c < s.heap.objs.size:=λx c e=>by
  obtain ⟨v,o,ho,_⟩:=I.cell x c (c1 x c e);exact O9 ho
 have inj:∀ x y c,G.lookup x=zo c->G.lookup y=zo c->x=y:=by
  rw [<- O];exact Uy _ _ _ (λx c e=>cv (a2 x c e)) λx y c a b=>I.ok.inj x y c (c1 x c a) (c1 y c b)
 have a9:∀ x,sc.names.lookup x=zo .cell->∃ c,G.lookup x=zo c:=λx e=>by
  rw [<- O];exact gI.mp (fB _ _ _ (.inl e))
 have a8:∀ x,sc.names.lookup x=zo .free->G.lookup x=cl.lookup x:=λx e=>by
  rw [<- O];refine V2 _ _ _ λz=>?_
  have:=ck.cel _ z rfl;rw [e] at this; cases this
 have kindOf:∀ x k,(compEnvC sc G s.heap.objs.size X.env).kindOf x=zo k->k=.cell\/k=.free->sc.names.lookup x=zo .free\/sc.names.lookup x=zo .cell:=λx k e hk=>by
  have e':(relabel sc X.env).names.lookup x=zo k:=e;rw [Kg] at e';cases q:sc.names.lookup x with
  | none=>rw [q] at e'; cases e'
  | some k'=>
   rw [q] at e';have a5:(if (k' == NameKind.free && X.env.scope.kind == .function && X.env.kindOf x == zo .cell)=zb then NameKind.cell else k')=k:=bn e'
   by_cases Y:(k' == NameKind.free && X.env.scope.kind == .function && X.env.kindOf x == zo .cell)=zb
   ·simp only [E2,beq_iff_eq] at Y;rw [Y.1.1]; exact .inl rfl
   ·rw [bU Y] at a5;subst a5;rcases hk with z | z
    ·rw [z]; exact .inr rfl
    ·rw [z]; exact .inl rfl
 have cellAt:∀ x c,X.env.cells.lookup x=zo c->∀ v,s.heap.IsCell c v->J.IsCell c v:=λx c e v ⟨o,ho,hd⟩=>⟨o,keep c o ho,hd⟩
 have a3:∀ c,s.heap.objs.size<=c->H c=zl:=λc Y=>I.hok.fresh Y
 refine ⟨⟨I.ok.mod,ck.kind,I.ok.glob,I.ok.blt,O5 _,inj,λx hx=>?_,λx c h1 h2=>?_,I.ok.hd,I.ok.frames,.inl rfl,λb hb=>?_,I.bs,
  E1 I.ok.bsz I.sz,λb o e hb=>?_,λb hb hz=>?_,I.stack,I.stkFree⟩,rfl,I.bare,Un.kept keep,⟨_,b0,λi x v e1 Z e3=>?_⟩,λx c e=>?_,a3 _ (O5 _),λx c e=>?_,λp hp=>(by cases hp),I.hok.kept keep,?_⟩
 ·have hx:(compEnvC sc G s.heap.objs.size X.env).kindOf x=zo .cell\/(compEnvC sc G s.heap.objs.size X.env).kindOf x=zo .free:=hx;have q:sc.names.lookup x=zo .free\/sc.names.lookup x=zo .cell:=by
   rcases hx with z | z
   ·exact kindOf x _ z (.inl rfl)
   ·exact kindOf x _ z (.inr rfl)
  rcases q with q | q
  ·obtain ⟨c,Y⟩:=c2 _ (cQ q) rfl;exact ⟨c,(a8 x q).trans Y⟩
  ·exact a9 x q
 ·have h1:sc.names.lookup x=zo .cell:=by simpa [Y9] using h1
  have h2:G.lookup x=zo c:=h2;rw [<- O] at h2;exact E1 (dF _) (Ux _ _ _ (cQ h1) h2)
 ·refine ⟨D8 (a6 b hb),λx c e=>?_⟩;rcases look x c e with z | ⟨z,_⟩
  ·exact (hf b hb).2.2.2.2.1 x c (c1 x c z)
  ·exact λq=>absurd (D1 (a6 b hb) (E1 (dF _) (q ▸ z))) (L3 _)
 ·rcases (hf b hb).2.2.2.1 with z | z
  ·exact I.ok.noex b o e z
  ·exact absurd (D1 (O9 e) (E1 I.ok.bsz z)) (L3 _)
 ·rcases D5.mp (I.stkSub b hz) with e | z
  ·exact (hf b hb).2.1 e
  ·exact (hf b hb).2.2.1 z
 ·have e1:N'[i]?=zo x:=e1;have Z:(ym cap σ)[i]?=zo (zo v):=Z;unfold ym at Z;rw [D7] at Z;cases q:cap[i]? with
  | none=>rw [q] at Z; cases Z
  | some oj=>
   rw [q] at Z;cases oj with
   | none=>cases Z
   | some j=>
    obtain ⟨y,z1,z2,z3⟩:=ck.at_ i j q;rw [e1] at z1; cases z1;have ev:σ[j]?=zo (zo v):=by
     have a1:(σ[j]?).join=zo v:=bn Z;cases r:σ[j]? with
     | none=>rw [r] at a1; cases a1
     | some o=>rw [r] at a1; exact congrArg zo a1
    obtain ⟨m',b1,hl⟩:=I.loc;have sK:X.env.scope.names.lookup x=zo .cell\/X.env.scope.names.lookup x=zo .free:=by rw [hE]; exact ck.fre _ (cQ z3) rfl
    obtain ⟨u,ru,l⟩:=hl j x v (by rw [hN]; exact z2) ev (sK.elim (λz=>.inr (.inl z)) λz=>.inr (.inr z))
    refine ⟨u,ru,?_⟩;obtain ⟨c,Y⟩:=c2 _ (cQ z3) rfl;rcases l with ⟨k,_⟩ | ⟨k,c',a7,a4⟩
    ·have k:X.env.scope.names.lookup x=zo .local:=k;rcases sK with z | z <;> (rw [k] at z; cases z)
    ·have:c=c':=by
      have q1:=c1 x c Y;rw [a7] at q1;exact (bn q1).symm
     subst this;refine .inr ⟨?_,c,(a8 x z3).trans Y,cellAt x c a7 _ a4⟩;show (relabel sc X.env).names.lookup x=zo .cell\/(relabel sc X.env).names.lookup x=zo .free;rw [Kg,z3];show zo (if _ then NameKind.cell else NameKind.free)=_\/zo (if _ then NameKind.cell else NameKind.free)=_
     split
     ·exact .inl rfl
     ·exact .inr rfl
 ·rcases look x c e with z | ⟨_,z⟩
  ·obtain ⟨v,q⟩:=I.cell x c (c1 x c z);exact ⟨v,cellAt x c (c1 x c z) v q⟩
  ·exact ⟨_,z⟩
 ·rcases look x c e with z | ⟨z,_⟩
  ·exact I.freeC x c (c1 x c z)
  ·exact a3 c (by omega)
 ·unfold ym;show _=N'.length;rw [O1];exact ck.len
end L2
namespace PySem
open Sem (wp)
end PySem
namespace L2
open PySem PySem.Spec PyProof.Rows PySem.W PySem.Builtin.ObjectAttr
end L2
namespace L2
open PySem PySem.Spec PyProof.Rows PySem.W
end L2
namespace PySem
open Sem (wp)
def Q44 (o:Obj):Option aA:=match o.data with | .fields vs=>vs[2]? | _=>zl
theorem Qih {o:Obj} {vs:Array aA} {x:aA} (q:o.data=.fields vs):Q44 (cw (·.setIfInBounds 1 x) o)=Q44 o:=by
 have d:=dC q (·.setIfInBounds 1 x);unfold Q44;rw [d,q];exact gj (by decide)
variable {M:Model} {A:aL} {E:aA->aC->Prop} {s:aC} {en:Env} {ou:List Env} {L e:aB} {ob:Obj} {vs:Array aA} {a0:aA} {Q:Unit->aC->Prop}
section
variable {bs:Heap}
theorem Q37 {I:aA} {nx:Bool} (fr:A.frames=zo (en :: ou)) (ff:s.heap.FunFrames bs (en :: ou)) (ef:en.frame=zo L) (oe:s.heap.get? e=zo ob) (kb:bs.StaysIn s.heap) (ne:bs.get? e=zl)
  (O:ob.data=.fields vs) (z1:1 < vs.size) (z0:vs[0]?=zo a0)
  (h:∀ h',Heap.LeftW bs (en :: ou) e ob.cls a0 s.heap h'->(∃ o',h'.get? e=zo o'/\o'.dict=ob.dict/\Q44 o'=Q44 ob)->Q () { s with heap:=h' }) :
  aF M A (do
   let a <- frameOf en
   let pl <- entryPlaceOf L nx
   let b <- EntryCells.newEntry I a .none (aS L) .none pl
   setField (.ref e) 1 b) (λ_ s'=>aF M A (setFlight (.ref e) zl) Q E s') E s:=by
 have nf:e∉(en :: ou).filterMap (·.frame):=λm=>by
  obtain ⟨_,o,q,n⟩:=ff.mem m;rw [oe] at q;cases q;exact n vs O
 refine aD (wpAny_frameOf_fun fr ff ef λg gs=>?_);refine aD (wpAny_entryPlaceOf λpl hp=>?_);unfold EntryCells.newEntry newFields;refine aD (ao ?_ (hp.sizeOk5 _ _ _ _ _));have ge:g.get? e=zo ob:=(gs.2.1 e nf).trans oe;have gb:bs.StaysIn g:=λb o q=>(gs.2.1 b λm=>by
  rw [(ff.mem m).1] at q;cases q).trans (kb b o q)
 obtain ⟨tb,Y⟩:∃ tb:List aA,[I,.ref L,.none,aS L,.none] ++ (if pl.isEmpty then ba 6 bc else pl)=tb:=⟨_,rfl⟩;have l5:3 < tb.length/\tb[3]?=zo (aS L):=by
  rw [<- Y];exact ⟨by simp,by simp⟩
 rw [Y];have U:=O0 (h:=g) { cls:=.type "traceback",dict:=zl,data:=.fields tb.toArray } ge;refine wpAny_setField U O z1 ?_;have te:g.objs.size≠e:=M0 (O9 ge);have d3:=dC O (·.setIfInBounds 1 (bZ g.objs.size));have G:=G8 (cw (·.setIfInBounds 1 (bZ g.objs.size))) U (fM d3);have J:=(F6 (g.push { cls:=.type "traceback",dict:=zl,data:=.fields tb.toArray })
  (cw (·.setIfInBounds 1 (bZ g.objs.size))) te.symm).trans
  (D0 g rfl)
 unfold setFlight;refine aD (aY G d3 (x:=.ref g.objs.size) (by simp [z1]) ?_);rw [bT (show (bZ g.objs.size != bc)=zb by simp)];refine wpAny_setField J rfl (by simpa using l5.1) (h _ ?_ ?_)
 all_goals
  obtain ⟨g3,Z⟩:∃ g3,((g.push { cls:=.type "traceback",dict:=zl,data:=.fields tb.toArray }).update e (cw (·.setIfInBounds 1 (bZ g.objs.size))))=g3:=⟨_,rfl⟩;rw [Z] at G J ⊢
 ·have kp:∀ b o,b≠e->g.get? b=zo o->(g3.update g.objs.size (cw (·.setIfInBounds 3 ((zl:Option aB).elim bc λf=>aS f)))).get? b=zo o:=λb o n q=>by
   rw [F6 _ _ (M0 (O9 q)),<- Z,F6 _ _ n.symm];exact O0 _ q
  have nr:∀ b o,s.heap.get? b=zo o->(∀ ws,o.data≠.fields ws)->b≠e:=λb o q n z=>by
   rw [z,oe] at q;cases q;exact n vs O
  refine ⟨λb o q=>kp b o (λz=>by rw [z,ne] at q; cases q) (gb b o q),ff.of_keeps λb o q n=>?_,?_,λb o q n=>?_⟩
  ·obtain ⟨sl,z⟩:=gs.2.2 b o q;exact ⟨_,kp b _ (nr b o q n) z,rfl⟩
  ·refine ⟨_,_,g.objs.size,_,_,?_,⟨gV _ _,?_⟩,d3,by simp [z1],gb.fresh,te,G8 _ J (fM (dC rfl _)),dC rfl _,?_⟩
   ·rw [F6 _ _ te];exact G
   ·rw [gj (by decide)];exact z0
   ·have:=l5.1;simp [this]
  ·obtain ⟨sl,z⟩:=gs.2.2 b o q;exact ⟨sl,kp b _ (nr b o q n) z⟩
 ·refine ⟨_,(F6 _ _ te).trans G,?_,Qih O⟩;cases ob with
  | mk c d dt sl=>cases dt <;> first | rfl | cases O
theorem Q8k (fr:A.frames=zo (en :: ou)) (U:s.heap.FunFrames bs (en :: ou)) (I:en.frame=zo L) (G:s.heap.get? e=zo ob) (Y:bs.StaysIn s.heap) (ne:bs.get? e=zl)
  (q:ob.data=.fields vs) (J:vs[1]?=zo .none) (O:vs[0]?=zo a0)
  (h:∀ h',Heap.LeftW bs (en :: ou) e ob.cls a0 s.heap h'->(∃ o',h'.get? e=zo o'/\o'.dict=ob.dict/\Q44 o'=Q44 ob)->Q () { s with heap:=h' }):aF M A (leaving en (.ref e)) Q E s:=by
 unfold leaving noteFrame;simp only [I];refine aD (aD (aY G q J ?_));rw [bU (by decide)];exact Q37 fr U I G Y ne q (cG.mp J).1 O h
theorem Q8j {cls:aA} {dv:Option aB} (fr:A.frames=zo (en :: ou)) (Y:en.frame=zo L) (fl:Heap.FlyingW bs (en :: ou) e cls a0 s.heap) (dd:∃ o',s.heap.get? e=zo o'/\o'.dict=dv/\Q44 o'=zo .none)
  (h:∀ h',Heap.FlyingW bs ou e cls a0 h'->(∃ o',h'.get? e=zo o'/\o'.dict=dv/\Q44 o'=zo .none)->s.heap.UpToSlots h'->Q () { s with heap:=h' }):aF M A (leaving en (.ref e)) Q E s:=by
 obtain ⟨kb,ne,ff,oe,ws,T,oT,ts,J,⟨hc,z0⟩,od,z1,nT,Te,hT,dT,z3⟩:=fl;obtain ⟨o',G,U,O⟩:=dd;rw [J] at G;cases G;unfold leaving noteFrame;simp only [Y];refine aD (aD (aY J od z1 ?_));rw [bT (show (bZ T != bc)=zb by simp)];refine aD (aY hT dT z3 ?_);rw [bU (show ¬ ((bc == aS L)=zb) by simp [aS])];refine aD (wpAny_setField hT dT (cG.mp z3).1 ?_);have I:∀ b,b≠T->(s.heap.update T (cw (·.setIfInBounds 3 bc))).get? b=s.heap.get? b:=λb n=>F6 _ _ n.symm
 have Z:∀ b o,s.heap.get? b=zo o->(∀ ws,o.data≠.fields ws)->b≠T:=λb o q n z=>by
  rw [z,hT] at q;cases q;exact n ts dT
 refine Q37 fr (ff.of_keeps λb o q n=>⟨o,(I b (Z b o q n)).trans q,rfl⟩) Y ((I e Te.symm).trans J) (λb o q=>(I b λz=>by rw [z,nT] at q; cases q).trans (kb b o q)) ne od (cG.mp z1).1 z0 λh' lf d'=>?_
 obtain ⟨k1,⟨_,_,k2⟩,k3,k4⟩:=lf;rw [hc] at k3;exact h h' ⟨k1,ne,k2,k3⟩ (d'.imp λo q=>⟨q.1,q.2.1.trans U,q.2.2.trans O⟩) λb o q n=>k4 b o ((I b (Z b o q n)).trans q) n
end
end PySem
namespace L2
open PySem PySem.Spec PyProof.Rows
variable {σ:St} {H1:Hp} {s1:aC} {b:aB}
def CXD (P:aK) (w:aJ):CXT:=λouter H s E e s'=>∃ a cls a0 dv H' B,e=bZ a/\Fly P w outer H H' s s' a cls a0 B/\(∃ o',s'.heap.get? a=zo o'/\o'.dict=dv/\Q44 o'=zo .none)/\E cls dv H'
theorem qp {P:aK} {w:aJ} {X:Cx}:Q3p (CXD P w) X E0:=λ_ _ _ _ _ _ _ h=>by
 obtain ⟨_,_,_,_,_,_,_,_,_,z⟩:=h;exact z.elim
variable {P:aK} {K:bX} {mg:zAE} {base:Heap} {N:List Str} {qual:Str} {scope:Scope} {f:aB} {cd:aA} {A:aL} {outer:List Env} {s:aC} {H:Hp} {E:XK}
section
variable {w:aJ}
abbrev cxD (P:aK) (w:aJ) (K:bX) (mg:zAE) (base:Heap) (N:List Str) (qual:Str) (scope:Scope) (f:aB) (cd:aA) (A:aL) (outer:List Env) (s:aC) (H:Hp) (E:XK):Cx:=Qef (CXD P w) P w K mg base N qual scope f cd A outer s H E
theorem Q5d {pins:zAA} (I:Inv (cxD P w K mg base N qual scope f cd A outer s H E) pins σ H1 s1) {o:Obj} (e:s.heap.get? b=zo o) (n:b∉frs outer):b∉frs (cxD P w K mg base N qual scope f cd A outer s H E).stack:=λq=>by
 rcases D5.mp (I.stkSub b q) with z | z
 ·have h1:b < s.heap.objs.size:=O9 e;have h2:s.heap.objs.size<=(cxD P w K mg base N qual scope f cd A outer s H E).env.locals:=I.ok.above;rw [<- z] at h2;exact absurd (D1 h1 h2) (L3 _)
 ·exact n z
theorem Qid (h:b∈frs outer):b∈frs (cxD P w K mg base N qual scope f cd A outer s H E).stack:=by
 show b∈frs (_ :: outer);unfold frs at h ⊢;rw [L0]
 split
 ·exact h
 ·exact O4 _ h
theorem Qr5 {pins:zAA} {U:Heap} {e C t:aB} {dv:Option aB} (I:Inv (cxD P w K mg base N qual scope f cd A outer s H E) pins σ H1 s1)
  (hk:∀ b o,b≠e->s1.heap.get? b=zo o->U.get? b=zo o) (Z:∀ o,s1.heap.get? e=zo o->∃ vs,o.data=.fields vs) (new:s.heap.get? e=zl) (hH:H1 e=zl)
  (oe:U.get? e=zo { cls:=.ref C,dict:=dv,data:=.fields #[.ref t,.none,.none,.none,.bool yo,.none] }) (hE:E (.ref C) dv H1) :
  (cxD P w K mg base N qual scope f cd A outer s H E).xe (.ref e) { s1 with heap:=U }:=by
 have a1:∀ en∈(cxD P w K mg base N qual scope f cd A outer s H E).stack,∀ b,en.frame=zo b->b∈e :: frs (cxD P w K mg base N qual scope f cd A outer s H E).stack:=λen he b G=>O4 _ (dO.mpr ⟨en,he,G⟩)
 have ff:=PySem.W.funFrames_hide I.stack a1;have a4:∀ b o,s1.heap.get? b=zo o->(∀ vs,o.data≠.fields vs)->b≠e:=λb o q n z=>by
  subst z;obtain ⟨vs,d⟩:=Z o q;exact n vs d
 have hid:(dh s1.heap (e :: frs (cxD P w K mg base N qual scope f cd A outer s H E).stack)).get? e=zl:=gC _ F3;have kb:(dh s1.heap (e :: frs (cxD P w K mg base N qual scope f cd A outer s H E).stack)).StaysIn U:=λb o q=>hk b o (λz=>by rw [z,hid] at q; cases q) (gB _ q)
 show aF (aI P w) _ (leaving _ (.ref e)) _ _ _;refine Q8k (bs:=dh s1.heap (e :: frs (cxD P w K mg base N qual scope f cd A outer s H E).stack)) (a0:=.ref t) (s:={ s1 with heap:=U }) I.ok.frames (ff.of_keeps λb o q n=>⟨o,hk b o (a4 b o q n) q,rfl⟩) rfl oe kb hid rfl rfl rfl λh2 lf dd=>?_
 obtain ⟨k1,⟨_,_,k2⟩,k3,k4⟩:=lf;have noex:∀ b:aB,b∉(cxD P w K mg base N qual scope f cd A outer s H E).ex:=λb z=>absurd (show b∈([]:List aB) from z) (by simp)
 have Y:∀ b o,s.heap.get? b=zo o->b≠e:=λb o q z=>by rw [z,new] at q; cases q
 have O:∀ b o,s.heap.get? b=zo o->b∉frs outer->b∉e :: frs (cxD P w K mg base N qual scope f cd A outer s H E).stack:=λb o q n m=>by
  rcases D5.mp m with z | z
  ·exact Y b o q z
  ·exact Q5d I q n z
 refine ⟨e,.ref C,.ref t,dv,H1,_,rfl,⟨I.os,I.bare,⟨k1,hid,k2,k3⟩,λb u q=>?_,λb o q n G=>?_,λb o q G=>?_,λb o q G=>?_,λb o q n=>I.base.free b o q n (noex b),I.base.tups,I.base.frzs,I.base.tbls⟩,dd,hE⟩
 ·have ne:∀ c v,H1 c=zo v->c∉e :: frs (cxD P w K mg base N qual scope f cd A outer s H E).stack:=λc v z m=>by
   rcases D5.mp m with m | m
   ·rw [m,hH] at z; cases z
   ·rw [I.stkFree c m] at z; cases z
  refine (I.hok b u q).stay (λc v hc r=>di _ r ?_) (λ_ r=>r) λ_ _ r=>r
  rcases hc with rfl | hc
  ·exact ne c u q
  ·exact ne c _ hc
 ·exact di _ (I.base.keep b o q n G (noex b)) (O b o q G)
 ·obtain ⟨o',z⟩:=I.base.there b o q (noex b);exact ⟨o',di _ z (O b o q G)⟩
 ·obtain ⟨sl,z⟩:=I.base.slot b o q (I.ok.frf b G) G (noex b);obtain ⟨_,o',a3,a2⟩:=I.ok.funs.mem G;have J:s.heap.get? b=zo o':=a3;rw [q] at J;cases J;obtain ⟨a5,z'⟩:=k4 b _ (hk b _ (Y b o q) z) a2;exact ⟨a5,z'⟩
theorem Kh:Q3p (CXD P w) (cxD P w K mg base N qual scope f cd A outer s H E) E:=by
 intro pins σ H1 s1 e s' I h;obtain ⟨a,cls,a0,dv,H',B,rfl,F,dd,hE⟩:=h;show aF (aI P w) _ (leaving _ (.ref a)) _ _ _;have noex:∀ b:aB,b∉(cxD P w K mg base N qual scope f cd A outer s H E).ex:=λb z=>absurd (show b∈([]:List aB) from z) (by simp)
 refine Q8j I.ok.frames rfl F.fl dd λh2 x1 d2 x2=>?_
 refine ⟨a,cls,a0,dv,H',B,rfl,⟨F.os.trans I.os,F.bare,x1,F.hokB,λb o q n G=>?_,λb o q G=>?_,λb o q G=>?_,λb o q n=>?_,λb xs q=>F.tups b xs (I.base.tups b xs q),λb o u q=>F.frzs b o u (I.base.frzs b o u q),λb ps q=>?_⟩,d2,hE⟩
 ·exact F.keep b o (I.base.keep b o q n G (noex b)) (I.base.free b o q n (noex b)) (Q5d I q G)
 ·obtain ⟨o',z⟩:=I.base.there b o q (noex b);exact F.there b o' z (Q5d I q G)
 ·obtain ⟨sl,z⟩:=I.base.slot b o q (I.ok.frf b G) G (noex b);obtain ⟨_,o',Y,U⟩:=I.ok.funs.mem G;have J:s.heap.get? b=zo o':=Y;rw [q] at J;cases J;obtain ⟨a1,z'⟩:=F.slot b _ z (Qid G);obtain ⟨O,z2⟩:=x2 b _ z' U;exact ⟨O,z2⟩
 ·obtain ⟨o',z⟩:=I.base.there b o q (noex b);exact F.free b o' z (I.base.free b o q n (noex b))
 ·obtain ⟨m1,Z⟩:=I.base.tbls b ps q;obtain ⟨m2,e2⟩:=F.tbls b _ Z;exact ⟨m1 ++ m2,by rw [e2,gD]⟩
end
variable {X:Cx}
def Qb9 (X:Cx) (E:XK):Prop:=∀ (pins:zAA) (σ:St) (H0 H1:Hp) (s0 s1:aC) (hx:Heap) (e C t:aB) (dv:Option aB),Inv X pins σ H0 s0->s0.heap.get? e=zl->Inv X pins σ H1 s1->(∀ b o,b≠e->s1.heap.get? b=zo o->hx.get? b=zo o) ->
 (∀ o,s1.heap.get? e=zo o->∃ vs,o.data=.fields vs)->H1 e=zl->hx.get? e=zo { cls:=.ref C,dict:=dv,data:=.fields #[.ref t,.none,.none,.none,.bool yo,.none] }->E (.ref C) dv H1->X.xe (.ref e) { s1 with heap:=hx }
theorem Qdd {x:Str} {C:aB} {e:aH} {t:TA} {np cpos pos:Pos} (G:X.calm=zb) (RO:Qb9 X E) (hg:Gl X x) (hm:X.mg x=zo (.ref C)) (q:cO X.K C Q9b "ValueError.__new__" = zb) (ha:PA X [e] t)
  (Z:(x == ("__debug__" : Str))=yo:=by decide) (he:aN [e] X.env=[(yo,aO e X.env)]:=by rfl):PS X (.Raise (zo (.Call (.Name x np) [e] [] cpos)) zl pos) (Qq5 C E t):=by
 intro pins s σ H D I h;obtain ⟨tl,N,nm,qn,bs,hdct,sn,sub,ab,col,dd,k0,k1,k2,k3,k5,mN,hC,hN,Y,T⟩:=(Qma I.mod.kin hm q).obj;refine wpAny_Raise_call_subU (C:=C) (nm:=nm) (q:=qn) (N:=N) (bs:=bs) (bm:=tl) (hdct:=hdct) (sn:=sn) (sub:=sub) (ab:=ab) (col:=col) (dd:=dd) (k0:=k0) (k1:=k1) (k2:=k2) (k3:=k3) (k5:=k5)
  gk (by decide +kernel) gk (mN:=mN) (T.hasType (by decide +kernel)) (I.ok.hd G) (by rw [he]; rfl) Y (Q6b I hg hm ⟨rfl,?_⟩ Z)
 have U:=ha cpos pins s σ H _ I h;rw [he] at U ⊢;refine Calls.evalArgs_plain (av U (λus s1 ⟨vs,H1,J,r,z,hE⟩=>?_) λ_ _ y=>y)
 refine ⟨rfl,by rw [<- r.length]; exact z,J.bk _ _ hC,hN.keeps J.bk,T.keeps J.bk,λh' e' O=>?_⟩;obtain ⟨t,oe,_,_⟩:=O.there;exact RO pins σ H1 H1 s1 s1 h' e' C t zl J O.new J (λb o _ k=>O.keeps b o k) (λo k=>by rw [O.new] at k; cases k) (J.hok.none_of O.new) oe hE
theorem Qg6 {P:aK} {w:aJ} {K:bX} {mg:zAE} {base:Heap} {N:List Str} {qual:Str} {scope:Scope} {f:aB} {cd:aA} {A:aL} {outer:List Env} {s:aC} {H:Hp} {E:XK} :
  Qb9 (cxD P w K mg base N qual scope f cd A outer s H E) E:=λpins σ H0 H1 s0 s1 hx e C t dv O Z I Y G J U hE=>by
 refine Qr5 I Y G ?_ J U hE;cases q:s.heap.get? e with
 | none=>rfl
 | some o=>
  obtain ⟨o',z⟩:=O.base.there e o q (λz=>absurd (show e∈([]:List aB) from z) (by simp))
  rw [Z] at z; cases z
theorem Fun.okD {P:aK} {w:aJ} {mg:zAE} {base:Heap} {x:Str} {st:aM} {fd:aP} {ps:List Str} {k:Nat} {sp:Sp} (F:Fun K x qual st f fd) (S:FnScope N ps (Q7 st)) (len:∀ vs H Q E,sp vs H Q E->vs.length=ps.length)
  (G:∀ (q:aA) (A:aL) (outer:List Env) (s:aC) (H:Hp) (vs:List V) (Q:VK) (E:XK),Room k (A.deeper (envOfC qual (Q7 st) s.heap.objs.size f q))->sp vs H Q E ->
   ∃ t,PSs (cxD P w K mg base N qual (Q7 st) f q A outer s H E) (Z1 st) t/\t { nx:=λ_ H'=>Q .non H',rt:=Q } (start N vs) H):FnOk P w K mg base (CXD P w) (k + 1) f fd ps sp:=by
 obtain ⟨oc,od,kV,U,pm,an,q,ct,Y,rfl,O,I⟩:=F.ex;exact Qwy O I S len λA outer s H vs Q E Z J=>G q A outer s H vs Q E Z J
end L2
namespace L2
open PySem PySem.Spec PyProof.Rows PySem.W PySem.Builtin.Getset_descriptor
end L2
namespace L2
open PySem PySem.Spec PyProof.Rows
end L2
namespace L2
open PySem PySem.Spec PyProof.Rows PySem.W PySem.Builtin.Getset_descriptor
end L2
namespace L2
open PySem PySem.Spec PyProof.Rows
end L2
namespace L2
open PySem PySem.Spec PyProof.Rows PySem.W PySem.Builtin.Getset_descriptor
end L2
namespace L2
open PySem PySem.Spec PyProof.Rows PySem.SeqAt
end L2
namespace L2
open PySem PySem.Spec PyProof.Rows
variable {tt:TT} {wi:TI} {g:TG} {te:TE} {o:Option V} {y:V} {u:aA} {P:aK} {H H':Hp} {xs:List (HK × aB × aA)} {b a sl:aB} {k:HK} {Q:zAD} {h':Heap}
variable {X:Cx}
def Qg7 (K:bX):R2:=λx y H Q=>∃ a b ys,x=.ref a/\y=.ref b/\SqT K H a []/\SqT K H b ys/\Q (.ref b) H
theorem Qh1:OpR X (af .Add) (Qg7 X.K):=by
 intro pins s σ H x y v u Q I rx ry h;obtain ⟨a,b,ys,rfl,rfl,Z,hb,q⟩:=h;cases rx;cases ry;obtain ⟨its,r1,p1,_⟩:=I.tuple Z;obtain ⟨G,r2,p2,_⟩:=I.tuple hb;have Y:its=[]:=r1.nil_iff.mpr rfl;subst Y;obtain ⟨⟨cls,dd,data,sl⟩,ho,hc,n,hd⟩:=id p1;obtain ⟨⟨U,J,data2,O⟩,ho2,hc2,n2,hd2⟩:=id p2;simp only at hc hd hc2 hd2;subst hc hd hc2 hd2;exact concat_meets ⟨_,ho,rfl⟩ ⟨_,ho2,rfl⟩ noFill_tuple_add seq_tuple_add fD fE (fF _ _)
  (tuple_addW0 a b ([]:List aA).toArray G.toArray n n2 dd J sl O (by simp)) ⟨ho,ho2,⟨.ref b,H,I,rfl,q⟩⟩
abbrev Qv4 (K:bX):R2:=λx y H Q=>Qpe K x y H Q\/Qg7 K x y H Q
theorem Qmi:OpR X (af .Add) (Qv4 X.K):=op_catT.or Qh1
def PTs (X:Cx) (ifs:List aH) (t:TT):Prop:=
 ∀ (pins:zAA) (s:aC) (σ:St) (H:Hp) (Q:Bool->Hp->Prop),Inv X pins σ H s->t σ H Q ->
  aF (aI X.prog X.w) X.A (forIn ifs zb λc r=>if r=zb then do let ok <- isTrue c X.env (aO c X.env); pure (ForInStep.yield ok) else pure (ForInStep.yield r)) (TP X pins σ Q) X.xe s
def Qug:TT:=λ_ H Q=>Q zb H
theorem Qkn :PTs X [] Qug:=λ_ _ _ H _ I h=>wpAny_tests_nil ⟨H,I,h⟩
theorem Qkm {c:aH} {t:TT} (h:PT X c t):PTs X [c] t:=λpins s σ H Q I q=>wpAny_tests_one (h pins s σ H Q I q)
def Q51 (J:It) (cap:zAC) (g:TG) (tt:TT) (te:TE) (σ:St) (H1:Hp) (Q:VK):Prop:=∀ acc,H1 acc=zl ->
 ∃ W:Nat->Nat->List V->St->Hp->Prop,(∃ m,W 0 m [] (ym cap σ) (upd H1 acc (.lst [])))/\∀ i m ys σ' H',W i m ys σ' H'->H' acc=zo (.lst ys) /\
  ((J.stop i H'/\Q (.ref acc) H')\/(J.go i H'/\ys.length < sizeLine/\∀ x H2,J.yld i H' x H2->g x σ' H2 λσ3 H3=>tt σ3 H3 λb H4=>
    if b=zb then te σ3 H4 λy H5=>H5 acc=zo (.lst ys)/\∃ m',m' < m/\W (i + 1) m' (ys ++ [y]) σ3 (upd H5 acc (.lst (ys ++ [y])))
    else ∃ m',m' < m/\W (i + 1) m' ys σ3 H4))
def Q5c (cap:zAC) (wi:TI) (g:TG) (tt:TT) (te:TE):TE:=λσ H Q=>wi σ H λJ H1=>Q51 J cap g tt te σ H1 Q
variable {prog:aK} {A:aL} {R:Result->aC->Prop} {s:aC}
section
variable {w:aJ}
theorem Q45 {elt q iter:aH} {ifs:List aH} {scope:Scope} {pos:Pos} {it acc:aA} {env:Env} (I:Nat->aC->Prop)
  (a4:∀ n s,I n s->aF (aI prog w) A (ag it) (λr J=>match r with
   | none=>R (.ok .next) J
   | some v=>aF (aI prog w) A (letOwnedTupleGo q it v) (λ_ U=>aF (aI prog w) A (assign q env v) (λ_ a2=>
     aF (aI prog w) A (forIn ifs zb λc r=>if r=zb then do let ok <- isTrue c env (aO c env); pure (ForInStep.yield ok) else pure (ForInStep.yield r)) (λok O=>
      if ok=zb then aF (aI prog w) A (aO elt env) (λx Y=>
       aF (aI prog w) A (call (.builtin "list.append") [acc,x]) (λ_ a1=>∃ m,m < n/\I m a1) (λ_ _=>False) Y) (λ_ _=>False) O
      else ∃ m,m < n/\I m O) (λ_ _=>False) a2)
     (λ_ _=>False) U) (λ_ _=>False) J) (λ_ _=>False) s)
  (n:Nat) (h:I n s):codeAny (aI prog w) A (.compLoop (.ListComp elt [⟨q,iter,ifs,0⟩] scope pos) 0 it acc env) R s:=by
 refine codeAny_loop rfl I (λn s hI=>?_) n h;show aF _ A ((compTurn (.ListComp elt [⟨q,iter,ifs,0⟩] scope pos) 0 it acc env).onRaise (λx=>do noteFrame x env; theTreesLotGoes x)) _ _ s;refine wpAny_noted ?_;rw [compTurn_list];refine aD (wpAny_standAt (aD (av (a4 n s hI) (λr J Z=>?_) λ_ _ h'=>h'.elim)))
 cases r with
 | none=>exact wpAny_pure Z
 | some v=>
  refine aD (av Z (λ_ U a3=>?_) λ_ _ h'=>h'.elim)
  refine aD (av a3 (λ_ a2 a6=>aD (av a6 (λok O G=>?_) λ_ _ h'=>h'.elim)) λ_ _ h'=>h'.elim)
  cases ok with
  | true=>
   rw [bT rfl] at G;exact aD (aD (av G (λx Y a7=>aD (av a7 (λ_ a1 a5=>wpAny_pure (wpAny_pure ⟨rfl,a5⟩)) λ_ _ h'=>h'.elim)) λ_ _ h'=>h'.elim))
  | false=>
   rw [bU D2] at G;exact aD (wpAny_pure (wpAny_pure ⟨rfl,G⟩))
end
theorem Q3a {elt tg iter:aH} {ifs:List aH} {tt:TT} {pos:Pos} {N N':List Str} {sc scE:Scope} {cap:zAC} {g:TG} {te:TE} {use:Option (aA->Sem Unit)} {QQ:zAD} (c0:X.calm=zb) (hi:PI X tg iter wi)
  (hg:∀ cl C s0 H0 ex,PG (Y9 X N' sc cl C s0 H0 ex) tg g) (he:∀ cl C s0 H0 ex,PE (Y9 X N' sc cl C s0 H0 ex) elt te) (d8:∀ cl C s0 H0 ex,PTs (Y9 X N' sc cl C s0 H0 ex) ifs tt)
  (hN:X.N=N) (hE:X.env.scope=scE) (hc:compOkC N N' sc scE cap=zb) (hs:∀ x,bG iter X.env x=pure x)
  {pins:zAA} {s:aC} {σ:St} {H:Hp} {Q:VK} (I:Inv X pins σ H s) (h:Q5c cap wi g tt te σ H Q)
  (fin:∀ acc C H' s' m,Inv X pins σ H' s'->s'.heap.Ns C m->Q3s X pins H' C->Q (.ref acc) H'->compPost (aI X.prog X.w) X.A X.xe use QQ (.ref acc) C (.ok .next) s') {pos':Pos} :
  aF (aI X.prog X.w) X.A (comprehension (.ListComp elt [⟨tg,iter,ifs,0⟩] sc pos) sc X.env pos' (newList []) yo (aO iter X.env) use) QQ X.xe s:=by
 have ck:=compOkC.of hc;obtain ⟨cl,e2,c1,c2⟩:=Qat (scope:=sc) (env:=X.env) λx hx hf=>I.ok.has x.1 (by
  have:=ck.fre x hx hf;rw [<- hE] at this;exact this)
 refine wpAny_comprehension_free (use:=use) rfl hs e2 ck.kind ck.loc (thn (hi pins s σ H _ I h) λv s1 h1=>thn h1 λf4 Y h2=>?_)
 obtain ⟨it,fp,tn,J,H2,e,I2,T,c7,f2,hw⟩:=h2;subst e;have b8:∀ b∈fp,b < Y.heap.objs.size:=λb U=>by
  obtain ⟨o,e,_⟩:=T.obj _ _ c7 b U;exact O9 e
 obtain ⟨W,⟨m0,w0⟩,turn⟩:=hw Y.heap.objs.size I2.fresh;refine ao (Q3t ?_);dsimp only;have I3:Inv X pins σ (upd H2 Y.heap.objs.size (.lst [])) { Y with heap:=Y.heap.push { cls:=.type "list",data:=.seq ([]:List aA).toArray } }:=
  I2.lnew (its:=[]) (ys:=[]) (t':=Y.toks) .nil (F7 _)
 generalize c9:({ Y with heap:=Y.heap.push { cls:=.type "list",data:=.seq ([]:List aA).toArray } }:aC)=Z at I3;have d6:Z.heap=Y.heap.push { cls:=.type "list",data:=.seq ([]:List aA).toArray }:=by rw [<- c9]
 have hsz:Z.heap.objs.size=Y.heap.objs.size + 1:=by rw [d6,F4]
 have f3:∀ b∈fp,Q3s X pins (upd H2 Y.heap.objs.size (.lst [])) b:=λb U=>by
  obtain ⟨g0,g1⟩:=f2 b U;exact ⟨by rw [Q9 (D8 (b8 b U))]; exact g0,g1⟩
 have k3:∀ b o,Y.heap.get? b=zo o->Z.heap.get? b=zo o:=λb o e=>by rw [d6]; exact O0 _ e
 obtain ⟨a3,b1⟩:∃ a3,aq (Z.heap.objs.size + 1) sc.names cl=a3:=⟨_,rfl⟩;obtain ⟨a1,a2⟩:∃ a1,pushCells (Z.heap.push { cls:=.type "dict",data:=.dict #[] }) sc.names=a1:=⟨_,rfl⟩;have k1:∀ b o,Z.heap.get? b=zo o->a1.get? b=zo o:=λb o e=>by rw [<- a2]; exact pushCells_keeps _ _ b o (O0 _ e)
 have e7:∀ x c,a3.lookup x=zo c->cl.lookup x=zo c\/Z.heap.objs.size + 1<=c:=λx c e=>by
  rw [<- b1] at e;have:=W8 (sc.names) (Z.heap.push { cls:=.type "dict",data:=.dict #[] }) cl x c (by rw [F4]; exact e);rcases this with z | ⟨_,z,_⟩
  ·exact .inl z
  ·rw [F4] at z; exact .inr z
 have I4:Inv (Y9 X N' sc a3 Z.heap.objs.size Z (upd H2 Y.heap.objs.size (.lst [])) fp) [] (ym cap σ) (upd H2 Y.heap.objs.size (.lst [])) { Z with heap:=a1 }:=by
  rw [<- b1,<- a2];exact Qj7 I3 hN hE ck c1 c2 f3 (λb U=>D1 (b8 b U) (by rw [hsz]; exact dF _))
 have d1:tn 0 a1:=T.keep _ _ _ c7 λb U o e=>k1 b o (k3 b o e)
 generalize G:Y9 X N' sc a3 Z.heap.objs.size Z (upd H2 Y.heap.objs.size (.lst [])) fp=X' at I4;have c3:X'.xe=λ_ _=>False:=by rw [<- G]; rfl
 have O:X'.prog=X.prog:=by rw [<- G]; rfl
 have a4:X'.w=X.w:=by rw [<- G]; rfl
 have d5:X'.K=X.K:=by rw [<- G]; rfl
 have a5:X'.A=X.A:=by rw [<- G]; rfl
 have d7:X'.calm=zb:=by rw [<- G]; exact c0
 have a8:X'.env=compEnvC sc a3 Z.heap.objs.size X.env:=by rw [<- G]; rfl
 have b2:X'.env.locals=Z.heap.objs.size:=by rw [a8]; rfl
 have e4:PG X' tg g:=by rw [<- G]; exact hg _ _ _ _ _
 have e6:PE X' elt te:=by rw [<- G]; exact he _ _ _ _ _
 have c8:PTs X' ifs tt:=by rw [<- G]; exact d8 _ _ _ _ _
 have b3:∀ {H':Hp},(∀ b∈fp,H' b=zl)->∀ b∈fp,Q3s X' [] H' b:=λ{H'} hn b U=>by
  obtain ⟨_,g1,g2,g3,g4,g5⟩:=f3 b U;refine ⟨hn b U,by rw [b2,hsz]; exact D8 (cv (b8 b U)),?_,?_,?_,λp hp=>?_⟩
  ·rw [<- G];intro z;rcases D5.mp (I3.stkSub b z) with e | z
   ·exact g1 e
   ·exact g2 z
  ·left
   rw [<- G];exact U
  ·intro x c e;rw [a8] at e;rcases e7 x c e with z | z
   ·exact g4 x c (c1 x c z)
   ·exact λq=>absurd (D1 (b8 b U) (E1 (E1 (dF _) (hsz ▸ dF _)) (q ▸ z))) (L3 _)
  ·rw [<- G] at hp;cases hp
 have d2:∀ {b0:St} {H':Hp} {s':aC},Inv X' [] b0 H' s'->Q (.ref Y.heap.objs.size) H'->compPost (aI X.prog X.w) X.A X.xe use QQ (.ref Y.heap.objs.size) Z.heap.objs.size (.ok .next) s':=λ{b0 H' s'} J q=>by
  obtain ⟨mm,d4,_⟩:=J.loc;rw [b2] at d4;have c4:H' Z.heap.objs.size=zl:=by have:=J.free; rw [b2] at this; exact this
  have hok:=J.hok;rw [O,a4] at hok;have u1:Un (frs X.stack) fp (upd H2 Y.heap.objs.size (.lst [])) H' Z.heap s'.heap:=by
   have:=J.base;rw [<- G] at this;exact this
  have e9:s'.os=Z.os:=by have:=J.os; rw [<- G] at this; exact this
  refine fin _ _ H' s' mm (I3.call' (s':=s') e9 u1 hok J.bare λb U=>?_) d4 (I3.fpOk (O5 _) c4) q
  obtain ⟨_,g1,g2,g3,g4,g5⟩:=f3 b U;exact ⟨g3,g1,g4,g5⟩
 have a6:codeAny (aI X.prog X.w) X.A (.compLoop (.ListComp elt [⟨tg,iter,ifs,0⟩] sc pos) 0 (.ref it) (.ref Y.heap.objs.size) X'.env)
   (compPost (aI X.prog X.w) X.A X.xe use QQ (.ref Y.heap.objs.size) Z.heap.objs.size) { Z with heap:=a1 }:=by
  refine Q45 (λn s'=>∃ i ys b0 H',Inv X' [] b0 H' s'/\tn i s'.heap/\(∀ b∈fp,H' b=zl)/\W i n ys b0 H') ?_ m0 ⟨0,[],_,_,I4,d1,λb U=>(f3 b U).1,w0⟩
  rintro n s5 ⟨i,ys,b5,H5,I5,d0,d3,w5⟩;obtain ⟨f0,q⟩:=turn i n ys b5 H5 w5;rcases q with ⟨stop,q⟩ | ⟨go,f1,step⟩
  ·refine thn (a5 ▸ T.done X' O a4 d5 d7 i [] s5 b5 H5 _ I5 (b3 d3) d0 stop) λr s6 ⟨hr,I6⟩=>?_
   subst hr;exact d2 I6 q
  ·refine thn (a5 ▸ T.item X' O a4 d5 d7 i [] s5 b5 H5 _ I5 (b3 d3) d0 go) λr s6 ⟨u,hr,h6⟩=>?_
   subst hr;refine thn h6 λ_ s7 ⟨x,H7,I7,r7,y7,b4,e1⟩=>?_
   have e5:=I7.pinned (b3 e1) (T.obj _ _ b4);have g7:=e4 _ s7 b5 H7 x u _ e5 r7 (step x H7 y7);rw [O,a4,a5,c3] at g7;refine thn g7 λ_ s8 ⟨a7,H8,I8,q8⟩=>?_
   have t8:=c8 _ s8 a7 H8 _ I8 q8;rw [O,a4,a5,c3] at t8;refine thn t8 λe0 e8 ⟨d9,b7,b6⟩=>?_
   cases e0 with
   | false=>
    rw [bU D2] at b6 ⊢;obtain ⟨m',c5,w9⟩:=b6;refine ⟨m',c5,i + 1,_,a7,_,b7.unpinned,T.keep _ _ _ b4 λb U o eo=>(b7.pin (b,o) (E8 _ (E8 _ (Wp U eo)))).1,λb U=>?_,w9⟩;obtain ⟨o,eo,d⟩:=T.obj _ _ b4 b U;exact (b7.pin (b,o) (E8 _ (E8 _ (Wp U eo)))).2.1
   | true=>
   rw [bT rfl] at b6 ⊢;have g8:=e6 _ e8 a7 d9 _ b7 b6;rw [O,a4,a5,c3] at g8;refine thn g8 λy s9 ⟨yv,H9,I9,r9,a9,m',c5,w9⟩=>?_
   obtain ⟨z,its,nn,rr,hl,e⟩:=I9.lstM a9;refine bI F.slot_list_append ⟨_,e,rfl⟩ F.entry_list_append (F.args_list_append_2 _ _) (gS _ its.toArray nn y (by rw [O7]; omega)) ⟨e,?_⟩;have c6:Inv X' ([] ++ Q27 fp s7.heap) a7 (upd H9 Y.heap.objs.size (.lst (ys ++ [yv]))) { s9 with heap:=s9.heap.update Y.heap.objs.size (bo λa=>a.push y) }:=
    I9.lset (t':=s9.toks) (its':=its ++ [y]) a9 e (by simp) (rr.append (.cons r9 .nil)) (by rw [O6,gT]; omega)
   refine ⟨m',c5,i + 1,_,a7,_,c6.unpinned,T.keep _ _ _ b4 λb U o eo=>(c6.pin (b,o) (E8 _ (E8 _ (Wp U eo)))).1,λb U=>?_,w9⟩;obtain ⟨o,eo,d⟩:=T.obj _ _ b4 b U;exact (c6.pin (b,o) (E8 _ (E8 _ (Wp U eo)))).2.1
 rw [a8] at a6;have b9:=codeAny_compStart_list (rest:=[]) (ifs:=ifs) a6 (T.self X.A 0 _ _ _ d1 a6);subst c9;rw [<- b1,<- a2] at b9;exact b9
theorem Qgr {elt tg iter:aH} {ifs:List aH} {tt:TT} {pos:Pos} {N N':List Str} {sc scE:Scope} {cap:zAC} {g:TG} {te:TE} (G:X.calm=zb) (hi:PI X tg iter wi)
  (Z:∀ cl C J H0 ex,PG (Y9 X N' sc cl C J H0 ex) tg g) (he:∀ cl C J H0 ex,PE (Y9 X N' sc cl C J H0 ex) elt te) (O:∀ cl C J H0 ex,PTs (Y9 X N' sc cl C J H0 ex) ifs tt)
  (hN:X.N=N:=by rfl) (hE:X.env.scope=scE:=by rfl) (hc:compOkC N N' sc scE cap=zb:=by decide +kernel) (hs:∀ x,bG iter X.env x=pure x:=by intro _; rfl) :
  PE X (.ListComp elt [⟨tg,iter,ifs,0⟩] sc pos) (Q5c cap wi g tt te):=by
 intro pins s σ H Q I h;rw [eval_ListComp];refine Q3a (use:=zl) G hi Z he O hN hE hc hs I h λacc C H' s' m Y hm hf q=>⟨m,hm,λh' U=>?_⟩
 obtain ⟨f0,f1,f2,f3,f4,f5⟩:=hf;exact ⟨.ref acc,H',Y.turned (t':=s'.toks) (λb o hb e=>(U.2 b hb).trans e) f0 f1 f3 f4 f5,rfl,q⟩
theorem Qgc {ifs:List aH} {tt:TT} {i:Nat} {x:Str} {px G:Pos} {elt tg iter:aH} {pos:Pos} {N N':List Str} {sc scE:Scope} {cap:zAC} {g:TG} {te:TE} (Y:X.N.Nodup) (a4:X.N[i]?=zo x) (hx:Loc X.env.scope x) (J:X.calm=zb) (hi:PI X tg iter wi)
  (hg:∀ cl C U H0 ex,PG (Y9 X N' sc cl C U H0 ex) tg g) (he:∀ cl C U H0 ex,PE (Y9 X N' sc cl C U H0 ex) elt te) (Z:∀ cl C U H0 ex,PTs (Y9 X N' sc cl C U H0 ex) ifs tt)
  (a2:swapsWith (.ListComp elt [⟨tg,iter,ifs,0⟩] sc pos) (zo (.Name x px)) G.line X.env=pure zb:=by rfl)
  (hN:X.N=N:=by rfl) (hE:X.env.scope=scE:=by rfl) (hc:compOkC N N' sc scE cap=zb:=by decide +kernel) (hs:∀ x,bG iter X.env x=pure x:=by intro _; rfl)
  (hf:X.fn x=zb\/X.env.scope.names.lookup x=zo .local:=by first | exact .inl rfl | exact .inr rfl | assumption) :
  PS X (.Assign [.Name x px] (.ListComp elt [⟨tg,iter,ifs,0⟩] sc pos) G) (Qq9 (Q5c cap wi g tt te) (Q8s i)):=by
 intro pins s σ H D I h;rw [exec_Assign_Name_used _ _ _ _ a2];refine aD (wpAny_standAt (aD ?_));show aF _ _ (do let _ <- comprehension (.ListComp elt [⟨tg,iter,ifs,0⟩] sc pos) sc X.env _ (newList []) yo (aO iter X.env) (zo (assign (.Name x px) X.env))) _ _ s;refine aD (av (Q3a (use:=zo (assign (.Name x px) X.env)) (QQ:=λ_ s'=>SP X pins D .next s') J hi hg he Z hN hE hc hs I h ?_) (λ_ s' hq=>wpAny_pure (wpAny_pure hq)) λ_ _ e=>e)
 intro acc C H' s' m I' hm a1 q;obtain ⟨f0,f1,f2,f3,f4,f5⟩:=a1;show aF _ _ (assign (.Name x px) X.env (.ref acc)) _ _ _;refine wpAny_assign_Name (Q4c I' Y a4 hx (v:=.ref acc) rfl (λs2 I2 ⟨a,sb,O⟩=>⟨m,?_,λh' a3=>?_⟩) hf)
 ·refine hm.sameBut sb λz=>?_
  rcases O with O | O
  ·exact f1 (z.trans O)
  ·exact f4 x a O z.symm
 ·exact ⟨_,H',I2.turned (t':=s2.toks) (λb o hb e=>(a3.2 b hb).trans e) f0 f1 f3 f4 f5,q⟩
theorem Q35 {α β:Type} {f g:α->Option β}:∀ {l:List α},(∀ x∈l,f x=g x)->l.filterMap f=l.filterMap g
 | [],_=>rfl
 | x :: l,h=>by
  rw [L0,L0,h x F3,Q35 λy q=>h y (O4 _ q)]
theorem xi (its:List aA):∀ k,k<=its.length->((bY k).filterMap λ(m:Nat)=>its[its.length - 1 - m]?)=(its.reverse.take k)
 | 0,_=>by simp
 | k + 1,h=>by
  have q:=xi its k (by omega);rw [List.range_succ,List.filterMap_append,q];have e:its[its.length - 1 - k]?=zo its[its.length - 1 - k]:=O3 (by omega);rw [List.take_add_one];congr 1;rw [gm (by omega),e];simp [e]
theorem Q3w (its:List aA):slicePick its.toArray zl zl (zo (-1))=its.reverse.toArray:=by
 unfold slicePick;have q:(bH zl zl (zo (-1)) its.toArray.size)=((its.length:Int) - 1,-1,-1):=by
  rw [O7];rfl
 rw [q];unfold sliceRange;have I:(if (-1:Int) > 0 then (if (its.length:Int) - 1 < -1 then ((-1:Int) - ((its.length:Int) - 1) + -1 - 1) / -1 else 0) else (if (its.length:Int) - 1 > -1 then ((its.length:Int) - 1 - -1 - -1 - 1) / (- -1) else 0)).toNat=its.length:=by
  rw [bU (by omega)]
  split
  ·rw [show (- -1:Int)=1 from rfl,fG]; omega
  ·omega
 simp only [I];congr 1;rw [fH];have e:((λx=>its.toArray[x]?) ∘ λ(k:Nat)=>((its.length:Int) - 1 + -1 * (k:Int)).toNat)=λ(m:Nat)=>its[(((its.length:Int) - 1 + -1 * (m:Int)).toNat)]?:=by
  funext m;simp
 rw [e];have:=xi its its.length (O5 _);rw [show its.reverse.take its.length=its.reverse from dy (by simp)] at this;rw [<- this];refine Q35 λm hm=>?_
 have G:=cA.mp hm;congr 1;omega
variable {e e3:aH} {te t3:TE} {pos p2:Pos}
def Qyh (K:bX) (te t3:TE):TE:=λσ H Q=>te σ H λx H1=>t3 σ H1 λy H2=>y=.int (-1)/\∃ a xs,x=.ref a/\SqL K H2 a xs/\∀ p,H2 p=zl->Q (.ref p) (upd H2 p (.lst xs.reverse))
theorem Qrm (he:PE X e te) (h3:PE X e3 t3):PE X (.Subscript e (.Slice zl zl (zo e3) p2) pos) (Qyh X.K te t3):=by
 intro pins s σ H Q I h;refine Subscript_ (thn (he pins s σ H _ I h) λv s1 ⟨x,H1,Y,r1,q1⟩=>?_)
 refine wpAny_Slice ?_;rw [evalPart_none];refine wpAny_pure (wpAny_pure ?_);rw [evalPart_some];refine thn (h3 pins s1 σ H1 _ Y q1) λvs G ⟨y,H2,I2,Z,q2⟩=>?_
 obtain ⟨rfl,a,xs,rfl,hx,q⟩:=q2;obtain ⟨t,rfl⟩:=Z;cases r1;have J:Inv X pins σ H2 { G with heap:=G.heap.push { cls:=.type "slice",data:=.fields #[.none,.none,.int (-1) t] } }:=I2.kept (t':=G.toks) λb ob q=>O0 _ q
 have hs:({ G with heap:=G.heap.push { cls:=.type "slice",data:=.fields #[.none,.none,.int (-1) t] } }:aC).heap.IsSliceOf G.heap.objs.size .none .none (.int (-1) t):=Heap.IsSliceOf.new ..;obtain ⟨its,r,O,hz⟩:=J.list hx;have U:=r.length;show aF (aI X.prog X.w) X.A (subscriptTail e (.Slice zl zl (zo e3) p2) (.ref a) (.ref G.heap.objs.size)) (EP X pins σ Q) X.xe { G with heap:=G.heap.push { cls:=.type "slice",data:=.fields #[.none,.none,.int (-1) t] } };refine tail_any (ops:=[.ref a,.ref G.heap.objs.size]) O.isList.typeIs slot_list_getitem.lookup ?_ (by with_unfolding_all rfl);refine wpAny_getItem_list_slice O.isList hs .none .none (.int (-1) t) (by simp) ?_ (by rw [O7] <;> omega);rw [Q3w];refine ⟨.ref _,_,J.laid (t':=G.toks) (o:=.lst xs.reverse) (λb ob q=>O0 _ q) (O5 _) ?_,rfl,q _ (J.hok.fresh (O5 _))⟩;exact ⟨by rw [L9]; exact hz,_,0,r.reverse,D0 _ rfl⟩
section
section
variable {κ:Type} [DecidableEq κ]
def j6 (kvs:List (κ × V)) (k:κ):Option V:=(kvs.find? λkv=>decide (kv.1=k)).map (·.2)
def Xe (kvs:List (κ × V)) (k:κ) (v:V):List (κ × V):=
 if (kvs.any λkv=>decide (kv.1=k))=zb then kvs.map (λkv=>if kv.1=k then (kv.1,v) else kv) else kvs ++ [(k,v)]
theorem Q1m {p:κ × V} {r:List (κ × V)} {k:κ} (e:p.1=k):j6 (p :: r) k=zo p.2:=by simp [j6,cT,e]
theorem Q1n {p:κ × V} {r:List (κ × V)} {k:κ} (e:¬ p.1=k):j6 (p :: r) k=j6 r k:=by simp [j6,cT,e]
theorem Q71 (k:κ):∀ q:List (κ × V),(q.any λkv=>decide (kv.1=k))=(j6 q k).isSome
 | []=>rfl
 | p :: r=>by
  rw [cF]
  by_cases e:p.1=k
  ·simp only [Q1m e,bW e,fP,gi]
  ·rw [Q1n e,bV e,dz]; exact Q71 k r
theorem Kw (q:List (κ × V)) (k:κ) (v:V):(Xe q k v).length<=q.length + 1:=by
 unfold Xe
 split
 ·rw [O1]; omega
 ·rw [O6,D4,cK]; omega
theorem RelO.isSome_eq {u:Option aA} (r:RelO o u):o.isSome=u.isSome:=by
 cases o with
 | none=>cases u with
  | none=>rfl
  | some _=>exact (show False from r).elim
 | some _=>cases u with
  | none=>exact (show False from r).elim
  | some _=>rfl
theorem KV.val {G:List (κ × V)} {vs:List (κ × aA)} (r:KV G vs) (k:κ):RelO (j6 G k) (bM vs k):=by
 unfold KV at r
 induction r with
 | nil=>exact True.intro
 | @cons p q ps J h t O=>
  obtain ⟨h1,h2⟩:=h
  by_cases e:p.1=k
  ·have I:q.1=k:=h1.symm.trans e;have b:bM (q :: J) k=zo q.2:=by simp [bM,cT,I]
   rw [Q1m e,b]; exact h2
  ·have I:¬ q.1=k:=λz=>e (h1.trans z)
   have b:bM (q :: J) k=bM J k:=by simp [bM,cT,I]
   rw [Q1n e,b]; exact O
theorem KV.any {q:List (κ × V)} {vs:List (κ × aA)} (r:KV q vs) (k:κ):(q.any λkv=>decide (kv.1=k))=vs.any λkv=>decide (kv.1=k):=by
 unfold KV at r
 induction r with
 | nil=>rfl
 | cons h t G=>rw [cF,cF,G,h.1]
theorem KV.repl {G:List (κ × V)} {vs:List (κ × aA)} (r:KV G vs) (k:κ) (I:RelV y u) :
  KV (G.map λkv=>if kv.1=k then (kv.1,y) else kv) (vs.map λkv=>if kv.1=k then (kv.1,u) else kv):=by
 unfold KV at r ⊢
 induction r with
 | nil=>exact .nil
 | @cons p q ps O h t J=>
  rw [D3,D3];refine .cons ?_ J;obtain ⟨h1,h2⟩:=h
  by_cases e:p.1=k
  ·rw [bT e,bT (h1.symm.trans e)]; exact ⟨h1,I⟩
  ·rw [bU e,bU (λz=>e (h1.trans z))]; exact ⟨h1,h2⟩
theorem KV.put {q:List (κ × V)} {vs:List (κ × aA)} (r:KV q vs) (k:κ) (G:RelV y u):KV (Xe q k y) (stored vs k u):=by
 unfold Xe stored;rw [r.any k]
 by_cases e:(vs.any λkv=>decide (kv.1=k))=zb
 ·rw [bT e,bT e]; exact r.repl k G
 ·rw [bU e,bU e]; exact Paired.snoc r ⟨rfl,G⟩
theorem KV.length {q:List (κ × V)} {vs:List (κ × aA)} (r:KV q vs):q.length=vs.length:=Paired.length r
end
theorem Qc4 {w:aJ} {k:Key} (r:RelV (kV k) u):(Y5 P w).is k u=zb:=by
 cases k with
 | inl i=>obtain ⟨t,e⟩:=(show ∃ t,u=dZ i t from r); subst e; exact Q89 P w i t
 | inr x=>obtain ⟨t,e⟩:=(show ∃ t,u=da x t from r); subst e; exact Q88 P w x t
abbrev KT (H:Hp):List (HK × V)->List (HK × aB × aA)->Prop:=aR λp q=>p.1=q.1/\KR H p.1 q.2.1/\RelV p.2 q.2.2
theorem KT.val {G:List (HK × V)} (r:KT H G xs) (k:HK):RelO (j6 G k) ((atKey xs k).map (·.2)):=by
 induction r with
 | nil=>exact True.intro
 | @cons p q ps J h t O=>
  obtain ⟨h1,_,h2⟩:=h
  by_cases e:p.1=k
  ·have I:q.1=k:=h1.symm.trans e;have b:atKey (q :: J) k=zo q.2:=by simp [atKey,cT,I]
   rw [Q1m e,b]; exact h2
  ·have I:¬ q.1=k:=λz=>e (h1.trans z)
   have b:atKey (q :: J) k=atKey J k:=by simp [atKey,cT,I]
   rw [Q1n e,b]; exact O
theorem KT.repl {G:List (HK × V)} (r:KT H G xs) (k:HK) (I:RelV y u) :
  KT H (G.map λkv=>if kv.1=k then (kv.1,y) else kv) (xs.map (putAt k u)):=by
 induction r with
 | nil=>exact .nil
 | @cons p q ps U h t J=>
  rw [D3,D3];refine .cons ?_ J;obtain ⟨h1,h2,O⟩:=h;unfold putAt
  by_cases e:p.1=k
  ·rw [bT e,bT (h1.symm.trans e)]; exact ⟨h1,h2,I⟩
  ·rw [bU e,bU (λz=>e (h1.trans z))]; exact ⟨h1,h2,O⟩
theorem KT.put {G:List (HK × V)} (r:KT H G xs) (k:HK) (J:KR H k b) (I:RelV y u) :
  KT H (Xe G k y) (storedH xs k b u):=by
 have e:(G.any λkv=>decide (kv.1=k))=(atKey xs k).isSome:=by
  rw [Q71,(r.val k).isSome_eq,dW]
 unfold Xe storedH;rw [e]
 by_cases q:(atKey xs k).isSome=zb
 ·rw [bT q,bT q]; exact r.repl k I
 ·rw [bU q,bU q]; exact Paired.snoc r ⟨rfl,J,I⟩
theorem KT.keeps {q:List (HK × V)} (r:KT H q xs) (G:∀ b ys,H b=zo (.tup ys)->H' b=zo (.tup ys)):KT H' q xs:=
 Paired.mapP r λ_ _ z=>⟨z.1,z.2.1.keep G,z.2.2⟩
section
variable {P:aK} {w:aJ} {H:Hp} {h:Heap} {a:aB}
theorem Qpd {u:HO} (ok:HOk P w H h) (e:Rd H a u):ObjOk P w H h a u:=e.ok ok
theorem Q8x {q:List (Key × V)} (ok:HOk P w H h) (e:Rd H a (.dK q)):q.length<=sizeLine/\(a == au)=yo/\∃ vs,KV q vs/\h.DictOf (Y5 P w) a vs:=
 show ObjOk P w H h a (.dK q) from Qpd ok e
theorem Qwz {q:List (Key × V)} (ok:HOk P w H h) (e:H a=zo (.dK q)):q.length<=sizeLine/\(a == au)=yo/\∃ vs,KV q vs/\h.DictOf (Y5 P w) a vs:=Q8x ok (.inl e)
mutual
theorem Qhr (ok:HOk P w H h):∀ {k:HK} {v:V} {u:aA},KAt H k v->RelV v u->KIs h k u
 | .int _,_,_,r,ru=>by cases r; exact ru
 | .str _,_,_,r,ru=>by cases r; exact ru
 | .tup l,_,u,⟨a,vs,e,G,r⟩,ru=>by
  subst e;cases (show u=bZ a from ru);obtain ⟨_,its,q,p⟩:=(show ObjOk P w H h a (.tup vs) from ok a _ G);exact ⟨a,its.toArray,rfl,p,by simpa using katL_is ok r q⟩
theorem katL_is (ok:HOk P w H h):∀ {l:List HK} {vs:List V} {us:List aA},KAtL H l vs->Vals vs us->KIsL h l us
 | [],_,_,r,ru=>by cases r; cases ru; rfl
 | _ :: _,_,_,⟨v,r,e,h1,t⟩,ru=>by
  subst e;cases ru with
  | cons a b=>exact ⟨_,_,rfl,Qhr ok h1 a,katL_is ok t b⟩
end
theorem Ve (ok:HOk P w H h) (e:KR H k a):(nk P w).is h k a:=⟨Qhr ok e.1 rfl,e.2⟩
theorem Q17 (q:A.units + 9 < aQ):(nk P w).room A.in1:=by show A.units + 1 + 5 < aQ; omega
theorem Q8v {G:List (HK × V)} (ok:HOk P w H h) (e:Rd H a (.dT G)):G.length<=sizeLine/\(a == au)=yo /\
  ∃ xs,KT H G xs/\h.DictOfH (nk P w) a xs:=by
 obtain ⟨z,y,xs,r,o,es,ep,h1,h2,Z,U,O⟩:=(show ObjOk P w H h a (.dT G) from Qpd ok e);refine ⟨z,y,xs,r,o,es,ep,h1,h2,Z,U,λx I=>?_,O⟩;have all:∀ {l:List (HK × V)} {m:List (HK × aB × aA)},KT H l m->∀ x∈m,(nk P w).is h x.1 x.2.1:=by
  intro l m q
  induction q with
  | nil=>intro x I; exact nomatch I
  | @cons p q ps qs J t Y=>
   intro x I;rcases D5.mp I with e | I
   ·subst e;exact Ve ok (by rw [<- J.1]; exact J.2.1)
   ·exact Y x I
 exact all r x I
theorem Qpw {q:List (HK × V)} (ok:HOk P w H h) (e:H a=zo (.dT q)):q.length<=sizeLine/\(a == au)=yo /\
  ∃ xs,KT H q xs/\h.DictOfH (nk P w) a xs:=Q8v ok (.inl e)
end
def DGet (H:Hp) (a:aB) (y:V) (r:Option V):Prop:=
 (∃ kvs k,Rd H a (.dK kvs)/\y=kV k/\r=j6 kvs k)\/∃ kvs k b,Rd H a (.dT kvs)/\y=.ref b/\KR H k b/\r=j6 kvs k
def DPut (H:Hp) (a:aB) (y v:V) (H':Hp):Prop:=
 (∃ kvs k,H a=zo (.dK kvs)/\y=kV k/\kvs.length < sizeLine/\H'=upd H a (.dK (Xe kvs k v))) \/
 ∃ kvs k b,H a=zo (.dT kvs)/\y=.ref b/\KR H k b/\kvs.length < sizeLine/\H'=upd H a (.dT (Xe kvs k v))
theorem DGet.t {q:List (HK × V)} (e:H a=zo (.dT q)) (G:KR H k b):DGet H a (.ref b) (j6 q k):=.inr ⟨q,k,b,.inl e,rfl,G,rfl⟩
theorem DPut.t {q:List (HK × V)} {v:V} (e:H a=zo (.dT q)) (G:KR H k b) (I:q.length < sizeLine) :
  DPut H a (.ref b) v (upd H a (.dT (Xe q k v))):=.inr ⟨q,k,b,e,rfl,G,I,rfl⟩
section
variable {X:Cx} {pins:zAA} {σ:St} {H:Hp} {s:aC} {a:aB} {y v:V} {u r:aA} {o:Option V} {A:aL} {E:zAD}
theorem Inv.big (I:Inv X pins σ H s):au < s.heap.objs.size:=by
 have h:aV < s.heap.objs.size:=(I.mod.glob.keeps I.bk).lt;exact gn (by decide) h
theorem Qee (hu:A.units + 9 < aQ) (I:Inv X pins σ H s) (g:DGet H a y (zo v)) (ry:RelV y u) (h:∀ J s',Inv X pins σ H s'->RelV v J->Q J s') :
  aF (aI X.prog X.w) A (getItem (.ref a) u) Q E s:=by
 rcases g with ⟨Z,k,e,U,l⟩ | ⟨Z,k,b,e,U,eb,l⟩
 ·subst U;obtain ⟨z,hd,vs,G,dd⟩:=Q8x I.hok e;obtain ⟨J,Y,q⟩:=RelO.some_of (v:=v) (o:=bM vs k) (by rw [l]; exact G.val k);exact wpAny_getItem_of (Qc4 ry) dd.mapOf Y (h J _ (I.tok _) q)
 ·subst U;cases (show u=bZ b from ry);obtain ⟨z,hd,xs,G,dd⟩:=Q8v I.hok e;obtain ⟨J,Y,q⟩:=RelO.some_of (v:=v) (o:=(atKey xs k).map (·.2)) (by rw [l]; exact G.val k);obtain ⟨p,hp,O⟩:=Option.map_eq_some_iff.mp Y;refine wpAny_getItem_heap (Q17 hu) (Ve I.hok eb) dd hp ?_;rw [O];exact h J _ (I.tok _) q
theorem Qzc (Y:A.units + 9 < aQ) (I:Inv X pins σ H s) (g:DGet H a y o) (U:RelV y u) (h:∀ s',Inv X pins σ H s'->Q (.bool o.isSome) s') :
  aF (aI X.prog X.w) A (aU .In u (.ref a)) Q E s:=by
 rcases g with ⟨O,k,e,J,l⟩ | ⟨O,k,b,e,J,Z,l⟩
 ·subst J;obtain ⟨z,hd,vs,G,dd⟩:=Q8x I.hok e;refine wpAny_in_of (Qc4 U) hd dd.mapOf ?_;rw [<- (G.val k).isSome_eq,<- l];exact h _ (I.tok _)
 ·subst J;cases (show u=bZ b from U);obtain ⟨z,hd,xs,G,dd⟩:=Q8v I.hok e;refine wpAny_in_heap (Q17 Y) (Ve I.hok Z) hd dd ?_;have q:=(G.val k).isSome_eq;rw [dW] at q;rw [<- q,<- l];exact h _ (I.tok _)
theorem Qnq (Y:A.units + 9 < aQ) (I:Inv X pins σ H s) (g:DGet H a y o) (U:RelV y u) (h:∀ s',Inv X pins σ H s'->Q (.bool (!o.isSome)) s') :
  aF (aI X.prog X.w) A (aU .NotIn u (.ref a)) Q E s:=by
 rcases g with ⟨O,k,e,J,l⟩ | ⟨O,k,b,e,J,Z,l⟩
 ·subst J;obtain ⟨z,hd,vs,G,dd⟩:=Q8x I.hok e;refine wpAny_notIn_of (Qc4 U) hd dd.mapOf ?_;rw [<- (G.val k).isSome_eq,<- l];exact h _ (I.tok _)
 ·subst J;cases (show u=bZ b from U);obtain ⟨z,hd,xs,G,dd⟩:=Q8v I.hok e;refine wpAny_notIn_heap (Q17 Y) (Ve I.hok Z) hd dd ?_;have q:=(G.val k).isSome_eq;rw [dW] at q;rw [<- q,<- l];exact h _ (I.tok _)
theorem Q6n {t':Nat} {ob:HO} (I:Inv X pins σ H s) (J:Mut (H a)) (hs:Heap.SameBut a s.heap h') (G:∃ q,h'.get? a=zo q) (new:ObjOk X.prog X.w (upd H a ob) h' a ob) :
  Inv X pins σ (upd H a ob) { s with heap:=h',toks:=t' }:=
 I.write (x:=a) (e:=a) J (.inl rfl) (λb q O z=>(hs.2 b O).trans z) G new
theorem Qt7 {w:aJ} {H':Hp} {q:List (Key × V)} {vs:List (Key × aA)} (z:q.length<=sizeLine) (hd:(a == au)=yo) (G:KV q vs) (dd:h'.DictOf (Y5 P w) a vs) :
  ObjOk P w H' h' a (.dK q):=⟨z,hd,vs,G,dd⟩
theorem Qed {Q:Unit->aC->Prop} (hu:A.units + 9 < aQ) (I:Inv X pins σ H s) (g:DPut H a y v H') (ry:RelV y u) (rv:RelV v r) (h:∀ s',Inv X pins σ H' s'->Q () s') :
  aF (aI X.prog X.w) A (setItem (.ref a) u r) Q E s:=by
 rcases g with ⟨J,k,e,Y,l,eH⟩ | ⟨J,k,b,e,Y,eb,l,eH⟩
 ·subst Y eH;obtain ⟨z,hd,vs,G,dd⟩:=Qwz I.hok e;have hz:vs.length<=sizeLine:=by rw [<- G.length]; exact z
  have Z:(Xe J k v).length<=sizeLine:=by have:=Kw J k v; omega
  refine wpAny_setItem_pairs (hsz:=hz) (Qc4 ry) dd λh' O hs=>h _ ?_
  have he:∃ q,h'.get? a=zo q:=let ⟨q,_,_,U,_⟩:=O; ⟨q,U⟩;exact Q6n I (by rw [e]; exact True.intro) hs he (Qt7 Z hd (G.put k rv) O)
 ·subst Y eH;cases (show u=bZ b from ry);obtain ⟨z,hd,xs,G,dd⟩:=Qpw I.hok e;have hz:xs.length<=sizeLine:=by rw [<- Paired.length G]; exact z
  have Z:(Xe J k v).length<=sizeLine:=by have:=Kw J k v; omega
  refine wpAny_setItem_heap (hsz:=hz) (Q17 hu) (Ve I.hok eb) dd λh' O hs=>h _ ?_
  obtain ⟨q,es,ep,U,h2,h3,h4,_,h5⟩:=O;refine Q6n I (by rw [e]; exact True.intro) hs ⟨q,U⟩ ⟨Z,hd,_,(G.put k eb rv).keeps λc ys ec=>?_,q,es,ep,U,h2,h3,h4,h5⟩;rw [Q9 (Qpn ec e (λz=>nomatch z))];exact ec
end
def Qtn (i:aH):Prop:=∀ ov iv,subscripted i yo ov iv=operate [ov,iv] (getItem ov iv)
theorem Qjn {prog:aK} {w:aJ} {A:aL} {E:zAD} {s:aC} {env:Env} {value q:aH} {pos:Pos} {T id:String} {Q:zAD}
  (hl:typeLookup (.type T) "__getitem__" = pure (zo (.builtin id))) (hs:Qtn q)
  (h:aF (aI prog w) A (aO value env) (λo J=>aF (aI prog w) A (aO q env) (λi G=>G.TypeIs o T/\aF (aI prog w) A (getItem o i) Q E G) E J) E s) :
  aF (aI prog w) A (aO (.Subscript value q pos) env) Q E s:=by
 refine Subscript_ (av h (λo J Y=>av Y (λi G I=>?_) λ_ _ x=>x) λ_ _ x=>x)
 obtain ⟨Z,I⟩:=I;unfold subscriptTail;refine aD ?_;rw [getitemInPython_of_ne Z.not_modules];refine aD (wpAny_specialOf Z hl ?_);have fin:aF (aI prog w) A (subscripted q yo o i) (λr O=>aF (aI prog w) A (letTemporaryGo value o r >>= λ_=>pure r) Q E O) E G:=by
  rw [hs o i];exact wpAny_operating (av I (λr O U=>aD (wpAny_letTemporaryGo (wpAny_pure U))) λ_ _ x=>x)
 first
  | exact wpAny_pure (aD fin)
  | exact aD (wpAny_pure (aD fin))
  | exact aD fin
theorem Q8y {pins:zAA} {σ:St} (I:Inv X pins σ H s) (g:DGet H a y o):s.TypeIs (.ref a) "dict" := by
 rcases g with ⟨q,k,e,_,_⟩ | ⟨q,k,b,e,_,_,_⟩
 ·obtain ⟨_,_,vs,_,dd⟩:=Q8x I.hok e;exact dd.typeIs
 ·obtain ⟨_,_,xs,_,dd⟩:=Q8v I.hok e;exact dd.typeIs
def Qun (td ty:TE):TE:=λσ H Q=>td σ H λx H1=>ty σ H1 λy H2=>∃ a v,x=.ref a/\DGet H2 a y (zo v)/\Q v H2
def Quy (td ty tv:TE):TS:=λD σ H=>tv σ H λv H1=>td σ H1 λx H2=>ty σ H2 λy H3=>∃ a H4,x=.ref a/\DPut H3 a y v H4/\D.nx σ H4
section
variable {X:Cx} {o i e value:aH} {pos pos' tpos:Pos} {td ty tv:TE}
theorem Qm7 (Z:X.A.units + 9 < aQ) (Y:PE X o td) (hi:PE X i ty) (hs:Qtn i):PE X (.Subscript o i pos) (Qun td ty):=by
 intro pins s σ H Q I h;refine Qjn PySem.F.slot_dict_getitem.lookup hs (thn (Y pins s σ H _ I h) λu s1 ⟨x,H1,J,rx,q1⟩=>thn (hi pins s1 σ H1 _ J q1) λiv s2 ⟨y,H2,G,O,a,v,ex,g,q2⟩=>?_)
 subst ex;obtain rfl:u=bZ a:=rx;exact ⟨Q8y G g,Qee Z G g O λw' s3 U q=>⟨v,H2,U,q,q2⟩⟩
theorem Qkt (O:X.A.units + 9 < aQ) (ho:PE X o td) (hi:PE X i ty) (U:PE X value tv) (hs:swapsWith value (zo (.Subscript o i pos')) pos.line X.env=pure yo) :
  PS X (.Assign [.Subscript o i pos'] value pos) (Quy td ty tv):=by
 intro pins s σ H D I h;refine wpAny_Assign_Subscript (thn (U pins s σ H _ I h) λr s1 ⟨v,H1,G,rv,q1⟩=>thn (ho pins s1 σ H1 _ G q1) λu Z ⟨x,H2,I2,rx,q2⟩=>thn (hi pins Z σ H2 _ I2 q2) λiv s3 ⟨y,H3,I3,J,a,H4,ex,g,Y⟩=>?_) hs
 subst ex;obtain rfl:u=bZ a:=rx;exact Qed O I3 g J rv λs4 q=>⟨σ,H4,q,Y⟩
end
theorem Q8w {w:aJ} (h:Heap) (q:au < h.objs.size):ObjOk P w H (h.push { cls:=.type "dict",data:=.dict #[] }) h.objs.size (.dT []):=
 ⟨F7 _,beq_eq_false_iff_ne.mpr (Ne.symm (D8 q)),[],.nil,_,#[],0,D0 _ rfl,⟨rfl,rfl,rfl⟩,rfl,rfl,cx⟩
def Qq7:TE:=λ_ H Q=>∀ p,H p=zl->Q (.ref p) (upd H p (.dT []))
section
variable {X:Cx} {pos:Pos}
theorem Qgq:PE X (.Dict [] [] pos) Qq7:=λpins s σ H Q I h=>
 wpAny_Dict_empty ⟨.ref s.heap.objs.size,_,I.laid (a:=s.heap.objs.size) (o:=.dT []) (t':=s.toks) (λ_ _ q=>O0 _ q) (O5 _) (Q8w s.heap I.big),rfl,h _ (I.hok.fresh (O5 _))⟩
end
def Q9i:List (TE × TE)->St->Hp->(List (V × V)->Hp->Prop)->Prop
 | [],_,H,Q=>Q [] H
 | (tk,tv) :: r,σ,H,Q=>tk σ H λx H1=>tv σ H1 λy H2=>Q9i r σ H2 λps H3=>Q ((x,y) :: ps) H3
abbrev VV:List (V × V)->List (aA × aA)->Prop:=aR λp q=>RelV p.1 q.1/\RelV p.2 q.2
def PPs (X:Cx) (pos:Pos) (keys:List (Option aH)) (values:List aH) (trs:List (TE × TE)):Prop:=
 ∀ (pins:zAA) (s:aC) (σ:St) (H:Hp) (Q:List (V × V)->Hp->Prop),Inv X pins σ H s->Q9i trs σ H Q ->
  aF (aI X.prog X.w) X.A (evalPairs (pairTrees keys values X.env pos)) (λvs s'=>∃ ps H',Inv X pins σ H' s'/\VV ps vs/\Q ps H') X.xe s
theorem Qkv :PPs X pos [] [] []:=λpins s σ H Q I h=>pairTrees_nil_walk ⟨[],H,I,.nil,h⟩
theorem Qgh {k v:aH} {ks:List (Option aH)} {vs:List aH} {J tv:TE} {q:List (TE × TE)} (Z:PE X k J) (hv:PE X v tv) (hr:PPs X pos ks vs q) :
  PPs X pos (zo k :: ks) (v :: vs) ((J,tv) :: q):=λpins s σ H Q I h=>
 pairTrees_cons_walk (thn (Z pins s σ H _ I h) λu s1 ⟨x,H1,O,rx,q1⟩=>thn (hv pins s1 σ H1 _ O q1) λw2 s2 ⟨y,H2,I2,U,q2⟩=>
  thn (hr pins s2 σ H2 _ I2 q2) λws s3 ⟨ps,H3,Y,G,q3⟩=>⟨(x,y) :: ps,H3,Y,.cons ⟨rx,U⟩ G,q3⟩)
structure M1 (X:Cx) (o:aH) (m:Str) (apos:Pos) (e:aH) (cpos:Pos):Prop where
 base:bP o m X.env (aO o X.env)=aO o X.env
 few:((ae cpos (aN [e] X.env)).all (λx=>!x.1) && (backToKw cpos (keywordEach [] X.env)).all (λx=>x.1.isSome)
  && decide (([e]:List aH).length + ([]:List Keyword).length + (if ([]:List Keyword).isEmpty then 0 else 1) < 30))=zb
 line:(apos.endLine == cpos.line)=zb
 trees:ae cpos (aN [e] X.env)=[(yo,aO e X.env)]
structure M2 (X:Cx) (o:aH) (m:Str) (apos:Pos) (e f:aH) (cpos:Pos):Prop where
 base:bP o m X.env (aO o X.env)=aO o X.env
 few:((ae cpos (aN [e,f] X.env)).all (λx=>!x.1) && (backToKw cpos (keywordEach [] X.env)).all (λx=>x.1.isSome)
  && decide (([e,f]:List aH).length + ([]:List Keyword).length + (if ([]:List Keyword).isEmpty then 0 else 1) < 30))=zb
 line:(apos.endLine == cpos.line)=zb
 trees:ae cpos (aN [e,f] X.env)=[(yo,aO e X.env),(yo,aO f X.env)]
end
section
open AutoSeq1 (wpAny_loadPart')
end
variable {E:zAD}
section
variable {w:aJ}
theorem Qb4 (n:Nat):Builtin.Slice.sliceAdjust zl zl (-1) (n:Int)=((n:Int) - 1,-1):=by
 unfold Builtin.Slice.sliceAdjust;simp
theorem Q9u (n:Nat):Builtin.Slice.slicePlaces ((n:Int) - 1) (-1) (-1)=n:=by
 unfold Builtin.Slice.slicePlaces;rw [bU (by omega)]
 split
 ·rw [show (- -1:Int)=1 from rfl,fG]; omega
 ·omega
theorem xb {n:Nat} {t:Tok} {Q:Int × Int × Nat->aC->Prop} (hs:s.heap.IsSliceOf sl .none .none (.int (-1) t)) (h:Q ((n:Int) - 1,-1,n) s) :
  aF (aI prog w) A (Builtin.Slice.sliceApplied (.ref sl) (pure (n:Int))) Q E s:=by
 obtain ⟨os,q,I,G⟩:=id hs;unfold Builtin.Slice.sliceApplied Builtin.Slice.sliceFields;refine aD (aD (aY q G (x:=.none) rfl (aD (aY q G (x:=.none) rfl (aD (aY q G (x:=.int (-1) t) rfl (wpAny_pure ?_)))))));refine aD (slicePart_int ?_);show aF _ _ (if ((-1:Int) == 0)=zb then _ else _) _ _ s;rw [bU (by decide)];refine aD (slicePart_none (aD (slicePart_none (aD (wpAny_pure ?_)))));show aF _ _ (match Builtin.Slice.sliceAdjust zl zl (-1) (n:Int) with | (lo,hi)=>pure (lo,(-1:Int),Builtin.Slice.slicePlaces lo hi (-1))) _ _ s
 rw [Qb4 n];show aF _ _ (pure ((n:Int) - 1,(-1:Int),Builtin.Slice.slicePlaces ((n:Int) - 1) (-1) (-1))) _ _ s;rw [Q9u n];exact wpAny_pure h
theorem Qgi (its:List aA):((bY its.toArray.size).filterMap λ(k:Nat)=>its.toArray[((its.toArray.size:Int) - 1 + (k:Int) * -1).toNat]?).toArray=its.reverse.toArray:=by
 congr 1;have:=xi its its.length (O5 _);rw [show its.reverse.take its.length=its.reverse from dy (by simp)] at this;rw [<- this,O7];refine Q35 λm hm=>?_
 have q:=cA.mp hm;rw [fQ];congr 1;omega
theorem yg {t:aB} {its:List aA} {u:Tok} {Q:zAD} (G:IsTup s.heap t its.toArray) (hs:s.heap.IsSliceOf sl .none .none (.int (-1) u))
  (h:Q (.ref s.heap.objs.size) { s with heap:=s.heap.push { cls:=.type "tuple",data:=.seq its.reverse.toArray } })
  (hsz:its.toArray.size<=sizeLine):aF (aI prog w) A (getItem (.ref t) (.ref sl)) Q E s:=by
 have q:sizeOk (.seq its.reverse.toArray):=by
  show its.reverse.toArray.size<=sizeLine;rw [O7,L9];rw [O7] at hsz;exact hsz
 obtain ⟨os,J,O,Y⟩:=id hs;have U:s.TypeIs (.ref sl) "slice" := ⟨os,J,O⟩;unfold getItem
 try with_reducible refine ak ?_
 first | refine aD (wpAny_pure ?_) | skip
 refine aD (wpAny_sequenceKey G.typeIs (by decide) ?_);refine aD (wpAny_callSpecial?_slot (name:=cC "__getitem__") G.typeIs slot_tuple_getitem
  (ah slot_tuple_getitem G.typeIs entry_tuple_getitem ?_ (args_tuple_getitem _ _)))
 show aF _ _ (Builtin.Tuple.tupleItemsOf (.ref t) >>= _) _ _ s;refine aD (tupleItemsOf_ G ?_);refine aD (bB U ?_);rw [bT (by decide)];refine aD (xb hs ?_);have I:¬ ((((its.toArray.size:Int) - 1) == 0 && (-1:Int) == 1 && its.toArray.size == its.toArray.size)=zb):=by
  have:((-1:Int) == 1)=yo:=by decide
  rw [this]; simp
 show aF _ _ (if (((its.toArray.size:Int) - 1) == 0 && (-1:Int) == 1 && its.toArray.size == its.toArray.size)=zb then _ else _) _ _ s;rw [bU I,Qgi its]
 first
  | exact aD (m:=Builtin.Tuple.tupleExact _) (ao (wpAny_pure ⟨_,rfl,wpAny_pure h⟩) q)
  | exact aD (m:=Builtin.Tuple.tupleExact _) (ao (aD (wpAny_pure (wpAny_pure ⟨_,rfl,wpAny_pure h⟩))) q)
  | exact aD (aD (m:=Builtin.Tuple.tupleExact _) (ao (wpAny_pure (wpAny_pure ⟨_,rfl,wpAny_pure h⟩)) q))
  | exact aD (aD (m:=Builtin.Tuple.tupleExact _) (ao (wpAny_pure ⟨_,rfl,wpAny_pure h⟩) q))
end
def Quh (K:bX) (te t3:TE):TE:=λσ H Q=>te σ H λx H1=>t3 σ H1 λy H2=>y=.int (-1)/\∃ a xs,x=.ref a/\SqT K H2 a xs/\∀ p,H2 p=zl->Q (.ref p) (upd H2 p (.tup xs.reverse))
theorem Qm6 (he:PE X e te) (h3:PE X e3 t3):PE X (.Subscript e (.Slice zl zl (zo e3) p2) pos) (Quh X.K te t3):=by
 intro pins s σ H Q I h;refine Subscript_ (thn (he pins s σ H _ I h) λv s1 ⟨x,H1,Y,r1,q1⟩=>?_)
 refine wpAny_Slice ?_;rw [evalPart_none];refine wpAny_pure (wpAny_pure ?_);rw [evalPart_some];refine thn (h3 pins s1 σ H1 _ Y q1) λvs G ⟨y,H2,I2,Z,q2⟩=>?_
 obtain ⟨rfl,a,xs,rfl,hx,q⟩:=q2;obtain ⟨t,rfl⟩:=Z;cases r1;have J:Inv X pins σ H2 { G with heap:=G.heap.push { cls:=.type "slice",data:=.fields #[.none,.none,.int (-1) t] } }:=I2.kept (t':=G.toks) λb ob q=>O0 _ q
 have hs:({ G with heap:=G.heap.push { cls:=.type "slice",data:=.fields #[.none,.none,.int (-1) t] } }:aC).heap.IsSliceOf G.heap.objs.size .none .none (.int (-1) t):=Heap.IsSliceOf.new ..;obtain ⟨its,r,O,hz⟩:=J.tuple hx;have U:=r.length;show aF (aI X.prog X.w) X.A (subscriptTail e (.Slice zl zl (zo e3) p2) (.ref a) (.ref G.heap.objs.size)) (EP X pins σ Q) X.xe { G with heap:=G.heap.push { cls:=.type "slice",data:=.fields #[.none,.none,.int (-1) t] } };refine tail_any (ops:=[.ref a,.ref G.heap.objs.size]) O.typeIs slot_tuple_getitem.lookup ?_ (by with_unfolding_all rfl);refine yg O hs ?_ (by rw [O7] <;> omega);refine ⟨.ref _,_,J.laid (t':=G.toks) (o:=.tup xs.reverse) (λb ob q=>O0 _ q) (O5 _) ?_,rfl,q _ (J.hok.fresh (O5 _))⟩;exact ⟨by rw [L9]; exact hz,_,r.reverse,IsTup.new _ _⟩
theorem Q86:typeLookup (.type "list") "keys" = pure zl:=am_miss_of_fast (by decide +kernel)
theorem Q43 {prog:aK} {w:aJ} {A:aL} {E:zAD} {s:aC} {a:aB} {xs:Array aA} {k:Nat} {sl:Array (Option aA)} {Q:Option aA->aC->Prop}
  (U:s.heap.get? a=zo { cls:=.type "list",dict:=zl,data:=.seq xs k,slots:=sl }) (Z:A.handled=zl)
  (h:∀ h' O,(∀ b o,s.heap.get? b=zo o->h'.get? b=zo o)->Q zl { s with heap:=h',toks:=O }) :
  aF (aI prog w) A (getAttr? (.ref a) "keys") Q E s:=by
 obtain ⟨Y,g,d,O,os⟩:=s;have J:∀ G,(⟨Y,g,d,G,os⟩:aC).TypeIs (.ref a) "list" := λ_=>⟨_,U,rfl⟩
 have f1:=sub_AttributeError;have f3:=F.slot_list_getattribute.lookup;have f4:=F.slot_list_getattribute.bind (.ref a);have f5:=am_list_getattr_none;have q:(["__module__", "__name__", "__qualname__", "__doc__", "__annotations__"]:List Str).contains "keys" = yo:=by decide +kernel
 unfold getAttr? getAttrBy? getAttrBy
 repeat (any_goals (first | assumption | exact J _ | ((with_reducible show aF _ _ (call (db "list.__getattribute__") _ _) _ _ _); refine bI F.slot_list_getattribute (J _) am_entry_list_getattribute (F.args_list_getattribute_2 _ _) (meets_getattribute_miss_list a xs k sl "keys" _ Q86 q) ⟨U,Z,λh' G e I=>?_⟩) | wp_step))
 obtain ⟨t',u',he⟩:=I.there;show aF _ _ (getattributeRaised _ _ _ _ _ _ _) _ _ _;unfold getattributeRaised
 repeat (any_goals (first | assumption | wp_step))
 exact h _ _ I.of.keeps
theorem Xz:entryFor table "dict.update.loop" = zo Builtin.«dict.update.loop»:=entryFor_of_tree (by kernel_rfl)
theorem Yi:plainId "dict.update.loop" = zb:=by decide +kernel
end L2
namespace L2
open PySem PySem.Spec PyProof.Rows PySem.W
variable {p:Array Nat} {n:Nat}
def evT {α:Type} (c:Nat->Nat->Bool):KasT α->α
 | .ret a=>a
 | .ask i j k=>evT c (k (c i j))
theorem X4 {α β:Type} (c:Nat->Nat->Bool) (f:α->KasT β):∀ t:KasT α,evT c (t.bind f)=evT c (f (evT c t))
 | .ret _=>rfl
 | .ask i j k=>X4 c f (k (c i j))
section
variable (r:Nat->Nat)
def rk (p:Array Nat) (i:Nat):Nat:=r (p.getD i 0)
def cR:Nat->Nat->Bool:=λi j=>decide (r i < r j)
variable {r}
theorem Q7m {q:Array Nat} {i j:Nat} (h:p[i]?=q[j]?):rk r p i=rk r q j:=by
 unfold rk;rw [dG,dG,h]
theorem Q9q {i j:Nat} (G:j<=p.size) (k:Nat):rk r (kas_rev p i j) k=if i<=k/\k < j then rk r p (i + j - 1 - k) else rk r p k:=by
 have h:=getElem?_mirror_all (xs:=p) (i:=i) G k
 by_cases q:i<=k/\k < j
 ·rw [bT q] at h ⊢; exact Q7m h
 ·rw [bU q] at h ⊢; exact Q7m h
theorem Qfz {src d:Nat} (hs:src < p.size) (hd:d<=src) (k:Nat):rk r (bubble p src d) k=if k=src - d then rk r p src else if src - d < k/\k<=src then rk r p (k - 1) else rk r p k:=by
 have h:=getElem?_bubble hs d hd k
 by_cases q:k=src - d
 ·rw [bT q] at h ⊢; exact Q7m h
 ·rw [bU q] at h ⊢
  by_cases G:src - d < k/\k<=src
  ·rw [bT G] at h ⊢; exact Q7m h
  ·rw [bU G] at h ⊢; exact Q7m h
theorem zk (i j:Nat):(kas_rev p i j).size=p.size:=mirror_size _ _ _ _
theorem W2 (i j:Nat):(kas_rev p i j).Perm p:=mirror_perm _ _ _ _
theorem Qb3 (p:Array Nat):∀ f n,1<=n->n<=evT (cR r) (kas_asc p f n)/\evT (cR r) (kas_asc p f n)<=n + f/\(∀ i,n<=i->i < evT (cR r) (kas_asc p f n)->rk r p (i - 1)<=rk r p i)/\(evT (cR r) (kas_asc p f n) < n + f->rk r p (evT (cR r) (kas_asc p f n)) < rk r p (evT (cR r) (kas_asc p f n) - 1))
 | 0,n,_=>⟨O5 _,O5 _,λi h1 h2=>absurd h2 (by show ¬ i < n; omega),λh=>absurd h (by show ¬ n < n + 0; omega)⟩
 | f + 1,n,O=>by
  have e:evT (cR r) (kas_asc p (f + 1) n)=if rk r p n < rk r p (n - 1) then n else evT (cR r) (kas_asc p f (n + 1)):=by
   show evT (cR r) (if decide (rk r p n < rk r p (n - 1))=zb then KasT.ret n else kas_asc p f (n + 1))=_
   by_cases q:rk r p n < rk r p (n - 1)
   ·rw [bT (by simpa using q),bT q]; rfl
   ·rw [bU (by simpa using q),bU q]
  rw [e]
  by_cases q:rk r p n < rk r p (n - 1)
  ·rw [bT q];exact ⟨O5 _,by omega,λi h1 h2=>by omega,λ_=>q⟩
  ·rw [bU q];obtain ⟨h1,h2,I,G⟩:=Qb3 p f (n + 1) (by omega);refine ⟨by omega,by omega,λi J g2=>?_,λg=>G (by omega)⟩
   by_cases z:i=n
   ·subst z; omega
   ·exact I i (by omega) g2
theorem Q22 {i j:Nat} (G:j<=p.size) (h:∀ k,i<=k->k < j->rk r p k=rk r p (j - 1)) (k:Nat):rk r (kas_rev p i j) k=rk r p k:=by
 rw [Q9q G]
 by_cases q:i<=k/\k < j
 ·rw [bT q,h (i + j - 1 - k) (by omega) (by omega),h k q.1 q.2]
 ·rw [bU q]
structure Dsc (r:Nat->Nat) (p:Array Nat) (n q:Nat):Prop where
 n1:1<=n
 sz:n<=p.size
 qn:q + 1<=n
 de:∀ i,1<=i->i < n->rk r p i<=rk r p (i - 1)
 eq:∀ i,n - (q + 1)<=i->i < n->rk r p i=rk r p (n - 1)
theorem Q1g:∀ f (p:Array Nat) n q,Dsc r p n q->n + f<=p.size->Dsc r (evT (cR r) (kas_desc f p n q)).1 (evT (cR r) (kas_desc f p n q)).2.1 (evT (cR r) (kas_desc f p n q)).2.2/\(evT (cR r) (kas_desc f p n q)).1.Perm p/\n<=(evT (cR r) (kas_desc f p n q)).2.1/\(evT (cR r) (kas_desc f p n q)).2.1<=n + f
 | 0,p,n,q,h,_=>⟨h,dX _,O5 _,O5 _⟩
 | f + 1,p,n,q,h,hs=>by
  have e:evT (cR r) (kas_desc (f + 1) p n q)=if rk r p n < rk r p (n - 1) then (if q > 0 then evT (cR r) (kas_desc f (kas_rev p (n - (q + 1)) n) (n + 1) 0) else evT (cR r) (kas_desc f p (n + 1) 0)) else if rk r p (n - 1) < rk r p n then (p,n,q) else evT (cR r) (kas_desc f p (n + 1) (q + 1)):=by
   show evT (cR r) (if decide (rk r p n < rk r p (n - 1))=zb then (if q > 0 then kas_desc f (kas_rev p (n - (q + 1)) n) (n + 1) 0 else kas_desc f p (n + 1) 0) else KasT.ask (p.getD (n - 1) 0) (p.getD n 0) λd=>if d=zb then .ret (p,n,q) else kas_desc f p (n + 1) (q + 1))=_
   by_cases z:rk r p n < rk r p (n - 1)
   ·rw [bT (by simpa using z),bT z]
    split <;> rfl
   ·rw [bU (by simpa using z),bU z];show evT (cR r) (if decide (rk r p (n - 1) < rk r p n)=zb then KasT.ret (p,n,q) else kas_desc f p (n + 1) (q + 1))=_
    by_cases I:rk r p (n - 1) < rk r p n
    ·rw [bT (by simpa using I),bT I]; rfl
    ·rw [bU (by simpa using I),bU I]
  rw [e]
  by_cases z:rk r p n < rk r p (n - 1)
  ·rw [bT z]
   by_cases U:q > 0
   ·rw [bT U];have J:=Q22 (r:=r) (p:=p) (i:=n - (q + 1)) (j:=n) h.sz h.eq;obtain ⟨h1,h2,Y,O⟩:=Q1g f (kas_rev p (n - (q + 1)) n) (n + 1) 0 ⟨by omega,by rw [zk]; omega,by omega,λi G g2=>by
     rw [J,J]
     by_cases y:i=n
     ·subst y; omega
     ·exact h.de i G (by omega),λi G g2=>by
     have:i=n:=by omega
     subst this; rfl⟩ (by rw [zk]; omega)
    exact ⟨h1,h2.trans (W2 _ _),by omega,by omega⟩
   ·rw [bU U];obtain ⟨h1,h2,Y,O⟩:=Q1g f p (n + 1) 0 ⟨by omega,by omega,by omega,λi G g2=>by
     by_cases y:i=n
     ·subst y; omega
     ·exact h.de i G (by omega),λi G g2=>by
     have:i=n:=by omega
     subst this; rfl⟩ (by omega)
    exact ⟨h1,h2,by omega,by omega⟩
  ·rw [bU z]
   by_cases I:rk r p (n - 1) < rk r p n
   ·rw [bT I];exact ⟨h,dX _,O5 _,by show n<=n + (f + 1); omega⟩
   ·rw [bU I];have hn:=h.n1;have Z:=h.qn;obtain ⟨h1,h2,Y,O⟩:=Q1g f p (n + 1) (q + 1) ⟨by omega,by omega,by omega,λi G g2=>by
     by_cases y:i=n
     ·subst y; omega
     ·exact h.de i G (by omega),λi G g2=>by
     show rk r p i=rk r p n
     by_cases y:i=n
     ·rw [y]
     ·rw [h.eq i (by omega) (by omega)]; omega⟩ (by omega)
    exact ⟨h1,h2,by omega,by omega⟩
def Srt (r:Nat->Nat) (p:Array Nat) (m:Nat):Prop:=∀ i,1<=i->i < m->rk r p (i - 1)<=rk r p i
theorem Qba {nrem:Nat} (I:1<=n) (q:n<=nrem) (hs:nrem<=p.size) (hd:∀ i,1<=i->i < n->rk r p i<=rk r p (i - 1)) :
  1<=(evT (cR r) (kas_tail3 n nrem p)).1/\(evT (cR r) (kas_tail3 n nrem p)).1<=nrem/\Srt r (evT (cR r) (kas_tail3 n nrem p)).2 (evT (cR r) (kas_tail3 n nrem p)).1/\(evT (cR r) (kas_tail3 n nrem p)).2.Perm p:=by
 obtain ⟨h1,h2,G,_⟩:=Qb3 (r:=r) (kas_rev p 0 n) (nrem - n) n I;unfold kas_tail3;rw [X4];show 1<=evT (cR r) (kas_asc (kas_rev p 0 n) (nrem - n) n)/\_/\Srt r (kas_rev p 0 n) _/\(kas_rev p 0 n).Perm p;refine ⟨by omega,by show evT (cR r) (kas_asc (kas_rev p 0 n) (nrem - n) n)<=nrem; omega,λi J g2=>?_,W2 _ _⟩
 by_cases z:i < n
 ·rw [Q9q (by omega),Q9q (by omega),bT (by omega),bT (by omega)];have:=hd (0 + n - 1 - (i - 1)) (by omega) (by omega);rw [show 0 + n - 1 - (i - 1) - 1=0 + n - 1 - i by omega] at this;exact this
 ·exact G i (by omega) g2
theorem Q0p {nrem:Nat} (hn:1<=n) (U:n < nrem) (hs:nrem<=p.size) (G:∀ i,i < n->rk r p i=rk r p (n - 1)) (Z:rk r p n < rk r p (n - 1)) :
  1<=(evT (cR r) (kas_descPart n nrem p)).1/\(evT (cR r) (kas_descPart n nrem p)).1<=nrem/\Srt r (evT (cR r) (kas_descPart n nrem p)).2 (evT (cR r) (kas_descPart n nrem p)).1/\(evT (cR r) (kas_descPart n nrem p)).2.Perm p:=by
 obtain ⟨D,P,h3,Y⟩:=Q1g (r:=r) (nrem - (n + 1)) p (n + 1) 0 ⟨by omega,by omega,by omega,λi J g2=>by
  by_cases y:i=n
  ·subst y; omega
  ·rw [G i (by omega),G (i - 1) (by omega)]; exact O5 _,λi J g2=>by
  have:i=n:=by omega
  subst this; rfl⟩ (by omega)
 unfold kas_descPart;rw [X4];generalize evT (cR r) (kas_desc (nrem - (n + 1)) p (n + 1) 0)=x at*;obtain ⟨I,m,q⟩:=x;have sz:I.size=p.size:=P.size_eq;simp only at D P h3 Y;dsimp only
 by_cases z:q > 0
 ·rw [bT z];have O:=Q22 (r:=r) (p:=I) (i:=m - (q + 1)) (j:=m) D.sz D.eq;obtain ⟨a,b,c,d⟩:=Qba (r:=r) (p:=kas_rev I (m - (q + 1)) m) (n:=m) (nrem:=nrem) D.n1 (by omega) (by rw [zk]; omega) (λi J g2=>by rw [O,O]; exact D.de i J g2);exact ⟨a,b,c,(d.trans (W2 _ _)).trans P⟩
 ·rw [bU z];obtain ⟨a,b,c,d⟩:=Qba (r:=r) (p:=I) (n:=m) (nrem:=nrem) D.n1 (by omega) (by omega) D.de;exact ⟨a,b,c,d.trans P⟩
theorem Srt.le {m:Nat} (h:Srt r p m):∀ {i j:Nat},i<=j->j < m->rk r p i<=rk r p j:=by
 intro i j I
 induction j with
 | zero => intro _; have : i = 0 := by omega
           subst this; exact O5 _
 | succ j G=>
  intro q
  by_cases z:i=j + 1
  ·subst z; exact O5 _
  ·have h1:=G (by omega) (by omega);have h2:=h (j + 1) (by omega) q;rw [fR] at h2;exact E1 h1 h2
theorem Qis (hn:1<=n) (hs:n<=p.size) :
  1<=(evT (cR r) (kas_count n p)).1/\(evT (cR r) (kas_count n p)).1<=n/\Srt r (evT (cR r) (kas_count n p)).2 (evT (cR r) (kas_count n p)).1/\(evT (cR r) (kas_count n p)).2.Perm p:=by
 obtain ⟨h1,h2,Z,Y⟩:=Qb3 (r:=r) p (n - 1) 1 (O5 _);unfold kas_count;rw [X4];generalize evT (cR r) (kas_asc p (n - 1) 1)=m at*;have S:Srt r p m:=λi O g2=>Z i O g2
 by_cases z:m=n
 ·subst z;rw [bT (by simp)];exact ⟨h1,O5 _,S,dX _⟩
 ·rw [bU (by simpa using z)];have q:=Y (by omega)
  by_cases I:m > 1
  ·rw [bT I];show 1<=(evT (cR r) (if decide (rk r p 0 < rk r p (m - 1))=zb then KasT.ret (m,p) else kas_descPart m n (kas_rev p 0 m))).1/\(evT (cR r) (if decide (rk r p 0 < rk r p (m - 1))=zb then KasT.ret (m,p) else kas_descPart m n (kas_rev p 0 m))).1<=n/\Srt r (evT (cR r) (if decide (rk r p 0 < rk r p (m - 1))=zb then KasT.ret (m,p) else kas_descPart m n (kas_rev p 0 m))).2 (evT (cR r) (if decide (rk r p 0 < rk r p (m - 1))=zb then KasT.ret (m,p) else kas_descPart m n (kas_rev p 0 m))).1/\(evT (cR r) (if decide (rk r p 0 < rk r p (m - 1))=zb then KasT.ret (m,p) else kas_descPart m n (kas_rev p 0 m))).2.Perm p
   by_cases J:rk r p 0 < rk r p (m - 1)
   ·rw [bT (by simpa using J)];exact ⟨h1,by show m<=n; omega,S,dX _⟩
   ·rw [bU (by simpa using J)];have eq:∀ i,i < m->rk r p i=rk r p (m - 1):=λi hi=>by
     have a:=S.le (i:=0) (j:=i) (by omega) hi;have b:=S.le (i:=i) (j:=m - 1) (by omega) (by omega);omega
    have G:=Q22 (r:=r) (p:=p) (i:=0) (j:=m) (by omega) (λk _ U=>eq k U);obtain ⟨a,b,c,d⟩:=Q0p (r:=r) (p:=kas_rev p 0 m) (n:=m) (nrem:=n) h1 (by omega) (by rw [zk]; exact hs) (λi hi=>by rw [G,G]; exact eq i hi) (by rw [G,G]; exact q);exact ⟨a,b,c,d.trans (W2 _ _)⟩
  ·rw [bU I];have:m=1:=by omega
   subst this;exact Q0p (r:=r) (O5 _) (by omega) hs (λi hi=>by rw [show i=0 by omega]) q
theorem Q26 {p:Array Nat} {k:Nat} (S:Srt r p k):∀ f l q,l<=q->q<=k->q - l<=f->(∀ i,i < l->rk r p i<=rk r p k)->(∀ i,q<=i->i < k->rk r p k < rk r p i) ->
  evT (cR r) (kas_place p k f l q)<=k/\(∀ i,i < evT (cR r) (kas_place p k f l q)->rk r p i<=rk r p k)/\(∀ i,evT (cR r) (kas_place p k f l q)<=i->i < k->rk r p k < rk r p i)
 | 0,l,q,h1,h2,U,J,G=>by
  have:l=q:=by omega
  subst this;exact ⟨h2,J,G⟩
 | f + 1,l,q,h1,h2,U,J,G=>by
  by_cases z:l>=q
  ·have:l=q:=by omega
   subst this;have e:evT (cR r) (kas_place p k (f + 1) l l)=l:=by rw [kas_place,bT (O5 _)]; rfl
   rw [e];exact ⟨h2,J,G⟩
  ·have e:evT (cR r) (kas_place p k (f + 1) l q)=if rk r p k < rk r p ((l + q) / 2) then evT (cR r) (kas_place p k f l ((l + q) / 2)) else evT (cR r) (kas_place p k f ((l + q) / 2 + 1) q):=by
    rw [kas_place,bU z];show evT (cR r) (if decide (rk r p k < rk r p ((l + q) / 2))=zb then kas_place p k f l ((l + q) / 2) else kas_place p k f ((l + q) / 2 + 1) q)=_
    by_cases y:rk r p k < rk r p ((l + q) / 2)
    ·rw [bT (by simpa using y),bT y]
    ·rw [bU (by simpa using y),bU y]
   rw [e];have m1:l<=(l + q) / 2:=by omega
   have Y:(l + q) / 2 < q:=by omega
   generalize (l + q) / 2=I at*
   by_cases y:rk r p k < rk r p I
   ·rw [bT y];exact Q26 S f l I m1 (by omega) (by omega) J λi O g2=>D1 y (S.le O g2)
   ·rw [bU y];exact Q26 S f (I + 1) q (by omega) h2 (by omega) (λi g=>E1 (S.le (show i<=I by omega) (by omega)) (by omega)) G
theorem Qj8:∀ f (p:Array Nat) k,1<=k->k + f<=p.size->Srt r p k->Srt r (evT (cR r) (kas_bin f p k)) (k + f)/\(evT (cR r) (kas_bin f p k)).Perm p
 | 0,p,k,_,_,S=>⟨S,dX _⟩
 | f + 1,p,k,I,hs,S=>by
  obtain ⟨h1,h2,G⟩:=Q26 S k 0 k (F7 _) (O5 _) (by omega) (λi g=>by omega) (λi q g2=>by omega);have e:evT (cR r) (kas_bin (f + 1) p k)=evT (cR r) (kas_bin f (bubble p k (k - evT (cR r) (kas_place p k k 0 k))) (k + 1)):=by rw [kas_bin,X4]
  rw [e];generalize evT (cR r) (kas_place p k k 0 k)=l at*;have S2:Srt r (bubble p k (k - l)) (k + 1):=λi q g2=>by
   rw [Qfz (by omega) (by omega),Qfz (by omega) (by omega),show k - (k - l)=l by omega]
   by_cases a:i=l
   ·subst a;rw [bU (by omega),bU (by omega),bT rfl];exact h2 (i - 1) (by omega)
   ·by_cases b:i - 1=l
    ·rw [bT b,bU a,bT (by omega),b];exact cr (G l (O5 _) (by omega))
    ·rw [bU b,bU a]
     by_cases c:l < i
     ·rw [bT (by omega),bT (by omega)];exact S (i - 1) (by omega) (by omega)
     ·rw [bU (by omega),bU (by omega)];exact S i q (by omega)
  obtain ⟨a,b⟩:=Qj8 f (bubble p k (k - l)) (k + 1) (by omega) (by rw [bubble_size]; omega) S2;exact ⟨by rw [show k + (f + 1)=k + 1 + f by omega]; exact a,b.trans (bubble_perm _ _ _)⟩
theorem Qjv (I:1<=n):Srt r (evT (cR r) (kas_sort n)) n/\(evT (cR r) (kas_sort n)).Perm (cH (bY n)):=by
 obtain ⟨h1,h2,G,q⟩:=Qis (r:=r) (p:=cH (bY n)) (n:=n) I (by simp);unfold kas_sort;rw [X4];generalize evT (cR r) (kas_count n (cH (bY n)))=x at*;obtain ⟨m,p⟩:=x;have sz:p.size=n:=by have:=q.size_eq; simpa using this
 simp only at h1 h2 G q;dsimp only
 by_cases z:m < n
 ·rw [bT z,show max m 1=m by omega];obtain ⟨a,b⟩:=Qj8 (r:=r) (n - m) p m h1 (by omega) G;rw [show m + (n - m)=n by omega] at a;exact ⟨a,b.trans q⟩
 ·rw [bU z];have:m=n:=by omega
  subst this;exact ⟨G,q⟩
end
def Asks {α:Type} (n:Nat):KasT α->(α->Prop)->Prop
 | .ret a,P=>P a
 | .ask i j k,P=>i < n/\j < n/\∀ b,Asks n (k b) P
theorem Asks.bind {α β:Type} {P:α->Prop} {Q:β->Prop} {f:α->KasT β} (q:∀ a,P a->Asks n (f a) Q):∀ {t:KasT α},Asks n t P->Asks n (t.bind f) Q
 | .ret a,h=>q a h
 | .ask i j k,h=>⟨h.1,h.2.1,λb=>Asks.bind q (h.2.2 b)⟩
def AL (n:Nat) (p:Array Nat):Prop:=0 < n/\∀ x∈p.toList,x < n
theorem AL.get (h:AL n p) (i:Nat):p.getD i 0 < n:=by
 rw [dG]
 by_cases z:i < p.size
 ·rw [bi z];exact h.2 _ (by simp)
 ·rw [cg (by omega)]; exact h.1
theorem AL.perm {q:Array Nat} (h:AL n p) (e:q.Perm p):AL n q:=⟨h.1,λx G=>h.2 x ((gq.mp e).mem_iff.mp G)⟩
theorem Wb {α:Type} {P:α->Prop} {c:Prop} [Decidable c] {t u:KasT α} (h1:Asks n t P) (h2:Asks n u P):Asks n (if c then t else u) P:=by
 split
 ·exact h1
 ·exact h2
theorem Q3i {n:Nat} {p:Array Nat} (h:AL n p):∀ f m,Asks n (kas_asc p f m) (λ_=>True)
 | 0,m=>trivial
 | f + 1,m=>⟨h.get _,h.get _,λb=>Wb trivial (Q3i h f (m + 1))⟩
theorem qz {n:Nat}:∀ f (p:Array Nat) m q,AL n p->Asks n (kas_desc f p m q) (λx=>AL n x.1)
 | 0,p,m,q,h=>h
 | f + 1,p,m,q,h=>⟨h.get _,h.get _,λb=>Wb (Wb (qz f _ _ _ (h.perm (W2 _ _))) (qz f _ _ _ h)) ⟨h.get _,h.get _,λd=>Wb h (qz f _ _ _ h)⟩⟩
theorem Q58 (h:AL n p) (m k:Nat):Asks n (kas_tail3 m k p) (λx=>AL n x.2):=by
 unfold kas_tail3;refine Asks.bind (P:=λ_=>True) (λa _=>?_) (Q3i (h.perm (W2 _ _)) _ _);exact h.perm (W2 _ _)
theorem jk (h:AL n p) (m k:Nat):Asks n (kas_descPart m k p) (λx=>AL n x.2):=
 Asks.bind (λx q=>Wb (Q58 (AL.perm q (W2 _ _)) _ _) (Q58 q _ _)) (qz _ _ _ _ h)
theorem Qb1 (h:AL n p) (k:Nat):Asks n (kas_count k p) (λx=>AL n x.2):=by
 unfold kas_count;refine Asks.bind (P:=λ_=>True) (λm _=>?_) (Q3i h _ _);refine Wb (show AL n p from h) (Wb ?_ (jk h _ _));exact ⟨h.get _,h.get _,λc=>Wb (show AL n p from h) (jk (h.perm (W2 _ _)) _ _)⟩
theorem ze {n:Nat} {p:Array Nat} (h:AL n p) (k:Nat):∀ f l q,Asks n (kas_place p k f l q) (λ_=>True)
 | 0,_,_=>trivial
 | f + 1,l,q=>by
  rw [kas_place];exact Wb trivial ⟨h.get _,h.get _,λc=>Wb (ze h k f _ _) (ze h k f _ _)⟩
theorem Q9c {n:Nat}:∀ f (p:Array Nat) k,AL n p->Asks n (kas_bin f p k) (λ_=>True)
 | 0,_,_,_=>trivial
 | f + 1,p,k,h=>by
  rw [kas_bin];exact Asks.bind (λl _=>Q9c f _ _ (h.perm (bubble_perm _ _ _))) (ze h k _ _ _)
theorem Qeu (G:1<=n):Asks n (kas_sort n) (λ_=>True):=by
 have h:AL n (cH (bY n)):=⟨G,λx q=>by simpa using q⟩;unfold kas_sort;refine Asks.bind (P:=λx=>AL n x.2) (λx q=>?_) (Qb1 h n);exact Wb (Q9c _ _ _ q) (show True from trivial)
theorem Q8n {α:Type} {G:Nat->Nat->(Bool->aC->Prop)->aC->Prop} {c:Nat->Nat->Bool} {n:Nat} {s:aC} (h:∀ i j (C:Bool->aC->Prop),i < n->j < n->C (c i j) s->G i j C s) :
  ∀ (t:KasT α) (P:α->Prop) (Q:α->aC->Prop),Asks n t P->Q (evT c t) s->t.kasWp G Q s
 | .ret a,_,_,_,q=>q
 | .ask i j k,P,Q,a,q=>h i j _ a.1 a.2.1 (Q8n h (k (c i j)) P Q (a.2.2 _) q)
variable {prog:aK} {A:aL} {E:zAD} {s:aC}
section
variable {w:aJ}
theorem jh {α:Type} {p q:α->Bool}:∀ {l:List α},(∀ x∈l,p x=zb->q x=zb)->(∃ x∈l,p x=yo/\q x=zb)->(l.filter p).length < (l.filter q).length
 | [],_,h=>by obtain ⟨_,h,_⟩:=h; cases h
 | x :: l,h,J=>by
  have O:(l.filter p).length<=(l.filter q).length:=by
   clear J
   induction l with
   | nil=>exact O5 _
   | cons y l G=>
    have G:=G λz hz=>h z (by rcases D5.mp hz with rfl | hz <;> simp [*])
    have I:=h y (by simp);rw [dH,dH]
    by_cases a:p y=zb
    ·rw [bT a,bT (I a)]; simp; exact G
    ·rw [bU a]
     split
     ·simp; omega
     ·exact G
  rw [dH,dH];obtain ⟨y,I,h1,h2⟩:=J;rcases D5.mp I with rfl | I
  ·rw [h1,h2]; simp; omega
  ·have G:=jh (λz hz=>h z (O4 _ hz)) ⟨y,I,h1,h2⟩
   by_cases a:p x=zb
   ·rw [bT a,bT (h x (by simp) a)]; simp; exact G
   ·rw [bU a]
    split
    ·simp; omega
    ·exact G
end
end L2
namespace L2
open PySem PySem.Spec PyProof.Rows
end L2
namespace L2
open PySem PySem.Spec PyProof.Rows PySem.W
end L2
namespace L2
open PySem PySem.Spec PyProof.Rows
variable {a:aB} {es:Array DictEntry} {ep:Nat} {h:Heap} {Q:Option aA->aC->Prop}
def RawD (h:Heap) (a:aB) (es:Array DictEntry) (ep:Nat):Prop:=∃ o,h.get? a=zo o/\o.ExactDict/\o.data=.dict es ep
variable {prog:aK} {A:aL} {E:zAD} {s:aC}
section
variable {w:aJ}
theorem RawD.typeIs (h:RawD s.heap a es ep):s.TypeIs (.ref a) "dict" := let ⟨o,e,x,_⟩:=h; ⟨o,e,x.1⟩
theorem RawD.obj (x:RawD h a es ep):h.get? a=zo { cls:=.type "dict",dict:=zl,data:=.dict es ep,slots:=#[] }:=by
 obtain ⟨⟨c,G,q,sl⟩,ho,⟨h1,h2,h3⟩,h4⟩:=x;simp only at h1 h2 h3 h4;subst h1 h2 h3 h4;exact ho
theorem Qg2 {d:aB} {Q:zAD} (hd:(d == au)=yo) (hm:RawD s.heap d es ep)
  (G:Q (.ref s.heap.objs.size) { s with heap:=s.heap.push { cls:=.type "dict_keyiterator",data:=.fields #[.ref d,.int 0 0,.int es.size 0,.int ep 0] } }) :
  aF (aI prog w) A (pyIter (.ref d)) Q E s:=by
 have q:=hm.typeIs;have J:=hm.obj;obtain ⟨O,g,U,I,os⟩:=s;refine wpAny_pyIter_slot q gr (ah gr q PySem.F.entry_dict_iter ?_ (PySem.F.args_dict_iter_1 _));unfold Builtin.«dict.__iter__» Builtin.Dict.dictSlotNone
 repeat (any_goals (first | assumption | wp_step))
 refine ⟨_,rfl, "dict_keyiterator",_,⟨_,D0 _ rfl,rfl⟩,PySem.F.slot_dict_keyiterator_next.lookup,G⟩
theorem Q30:Builtin.Dict_items.ownsTuple ((Manifest.find? "dict_keyiterator").elim "dict_keyiterator" λx=>x.tpName)=yo:=by decide +kernel
theorem Qg3 {it d:aB} {i:Nat} {e:DictEntry} {Q:Option aA->aC->Prop} (q:s.heap.IsKeyIter it d i es.size ep) (hm:RawD s.heap d es ep) (O:es[i]?=zo e)
  (J:∀ h',h'.IsKeyIter it d (i + 1) es.size ep->Heap.SameBut it s.heap h'->Q (zo e.key) { s with heap:=h' }) :
  aF (aI prog w) A (ag (.ref it)) Q E s:=by
 have G:=q.typeIs;have Z:=hm.obj;obtain ⟨⟨c,U,I,sl⟩,hoi,hci,hdi⟩:=q;simp only at hci hdi;subst hci hdi;obtain ⟨hp,g,dr,Y,os⟩:=s;unfold ag;refine aD (wpAny_attempt (wpAny_callSpecial?_slot (name:=cC "__next__") G eA (ah eA G gt ?_ (gu _))))
 repeat (any_goals (first | assumption | wp_step))
 simp only [Q30,F0,if_false];simp only [show ¬ ((i:Int) < 0) by omega,if_false,bp,O]
 repeat (any_goals (first | assumption | wp_step))
 simp only [Q30,F0,if_false];rw [bU (show ¬ ((_:Bool)=zb) by decide +kernel)];refine ⟨_,rfl,wpAny_pure (J _ ⟨_,G8 _ hoi rfl,rfl,?_⟩ (Heap.SameBut.update ..))⟩;simp [cw,aS]
theorem Qkh {it d:aB} {i:Nat} {Q:Option aA->aC->Prop} (Z:A.handled=zl) (q:s.heap.IsKeyIter it d i es.size ep) (hm:RawD s.heap d es ep) (U:es[i]?=zl)
  (O:∀ h',Heap.ExtBut it s.heap h'->Q zl { s with heap:=h' }) :
  aF (aI prog w) A (ag (.ref it)) Q E s:=by
 have G:=q.typeIs;have ho:=hm.obj;obtain ⟨⟨c,Y,J,sl⟩,hoi,hci,hdi⟩:=q;simp only at hci hdi;subst hci hdi;obtain ⟨hp,g,dr,tk,os⟩:=s;unfold ag;refine aD (wpAny_attempt (wpAny_callSpecial?_slot (name:=cC "__next__") G eA (ah eA G gt ?_ (gu _))))
 repeat (any_goals (first | assumption | wp_step))
 simp only [Q30,F0,if_false];simp only [show ¬ ((i:Int) < 0) by omega,if_false,bp,U];have I:=isSubtype_stop
 repeat (any_goals (first | assumption | wp_step))
 unfold bS;refine aD (wpAny_handled ?_);rw [show A.in1.handled=zl from Z];refine aD (wpAny_pure (wpAny_throw ?_));refine aD (bK (T := "StopIteration") (b:=zb) ⟨_,D0 _ rfl,rfl⟩ isSubtype_stop ?_);exact wpAny_pure (O _ (((Heap.SameBut.update ..).extBut.push _).push _))
theorem RawD.at {h':Heap} (x:RawD h a es ep) (k:∀ o,h.get? a=zo o->h'.get? a=zo o):RawD h' a es ep:=let ⟨o,e,r⟩:=x; ⟨o,k o e,r⟩
theorem RawD.lt (x:RawD h a es ep):a < h.objs.size:=let ⟨_,e,_⟩:=x; O9 e
theorem Qcv (hh:A.handled=zl) (I d:aB) (Y:d≠I) (es:Array DictEntry) (ep:Nat) :
  Walks prog w A I [I,d] [I] es.size (λi v=>∃ e,es[i]?=zo e/\v=e.key) (λi h=>h.IsKeyIter I d i es.size ep/\RawD h d es ep) where
 sub:=λb q=>by simp at q; simp [q]
 frame:=λ_ _ _ st Z=>⟨st.1.at λo e=>Z I (by simp) o e,st.2.at λo e=>Z d (by simp) o e⟩
 item:=λi s Q E hi st G=>by
  refine Qg3 st.1 st.2 (bi hi) λh' O J=>?_
  exact G _ h' s.toks ⟨_,bi hi,rfl⟩ ⟨O,st.2.at λo e=>(J.2 d Y).trans e⟩ λb o q e=>J.extBut b o (λh=>q (by simp [h])) e
 done:=λs Q E st G=>Qkh hh st.1 st.2 (by simp) λh' U=>G h' s.toks λb o q e=>U b o (λh=>q (by simp [h])) e
 self:=λ_ _ _ _ st G=>wpAny_pyIter_keyiter st.1 G
theorem Qbg {d:aB} (lo:(d == au)=yo):PySem.W.KdlSrc prog w "dict" d d es.size (λi v=>∃ e,es[i]?=zo e/\v=e.key) (λh=>RawD h d es ep) where
 type:=λ_ hm=>hm.typeIs
 there:=λ_ hm=>⟨hm.lt,hm.lt⟩
 keep:=λ_ _ hm G=>hm.at λo e=>G d (.inl rfl) o e
 notList:=by decide
 notTuple:=by decide
 hint:=λ_ _ _ _ hm q=>PySem.W.kdl_hint_dict hm.typeIs q
 iter:=λ_ _ I hm=>⟨_,_,(λ_ _ q=>Qg2 lo hm q),Qcv I _ d (D8 hm.lt) es ep,⟨⟨_,D0 _ rfl,rfl,rfl⟩,hm.at λo e=>O0 _ e⟩⟩
theorem Q95 {d:aB} {Q:List aA->aC->Prop} (lo:(d == au)=yo) (hh:A.handled=zl) (hm:RawD s.heap d es ep) (hn:es.size<=sizeLine)
  (h:∀ h' U,(∀ b o,s.heap.get? b=zo o->h'.get? b=zo o)->s.heap.objs.size<=h'.objs.size->Q (es.toList.map (·.key)) { s with heap:=h',toks:=U }):aF (aI prog w) A (collect (.ref d)) Q E s:=by
 unfold collect;refine aD (wpAny_runValue (bC gv ?_));rw [Around.under_plainId gw _];show aF _ A.in1 (newList [] >>= λl=>again (.builtin "list.__iadd__" ⟨[l,.ref d],[]⟩)) _ _ s
 refine aD (ao ?_);refine wpAny_pure ⟨bF eB _,bC gx ?_⟩;rw [Around.under_plainId eB _];have Z:(s.heap.push { cls:=.type "list",data:=.seq ([]:List aA).toArray }).get? s.heap.objs.size=zo { cls:=.type "list",data:=.seq ([]:List aA).toArray }:=D0 _ rfl;have I:∀ b o,s.heap.get? b=zo o->(s.heap.push { cls:=.type "list",data:=.seq ([]:List aA).toArray }).get? b=zo o:=λb o e=>O0 _ e
 have O:s.heap.objs.size≠d:=M0 hm.lt;show aF _ A.in1 (Builtin.List.listExtendWith (.ref s.heap.objs.size) (.ref d) (.ref s.heap.objs.size)) _ _ _;refine PySem.W.kdl_extend (prog:=prog) (w:=w) (A:=A) (R:=λr s'=>match r with | .ok (.ret v)=>aF (aI prog w) A (match v with | .ref a=>do { let o <- load a; match o.data with | .seq xs _=>pure xs.toList | _=>unsupported "internal:collect" } | _=>unsupported "internal:collect") Q E s' | .ok _=>False | .error e=>E e s') (s:={ s with heap:=s.heap.push { cls:=.type "list",data:=.seq ([]:List aA).toArray } }) (Qbg (es:=es) (ep:=ep) lo) hh (hm.at λo e=>I d o e) s.heap.objs.size O O _ _ Z (λh' U acc c Y J G=>?_) hn
 show aF _ A (load s.heap.objs.size >>= _) _ _ _;refine aD (wpAny_load J ?_);have e:acc.toList=es.toList.map (·.key):=by
  apply cU;intro i
  by_cases z:i < es.size
  ·have hi:i < acc.size:=by rw [G.1]; exact z
   obtain ⟨e,h1,h2⟩:=G.2 i acc[i] (bi hi);rw [bh,bi hi,h2,D7,bh,h1]; rfl
  ·rw [bh,cg (by rw [G.1]; omega),D7,bh,cg (by omega)]; rfl
 show aF _ _ (pure acc.toList) _ _ _;rw [e];exact wpAny_pure (h h' U (λb o q=>Y b o (D8 (O9 q)) (I b o q)) (cr (O9 J)))
end
end L2
namespace L2
open PySem PySem.Spec PyProof.Rows PySem.W
variable {prog:aK} {A:aL} {E:zAD} {s:aC}
section
variable {w:aJ}
theorem Q6s {d:aB} {es:Array DictEntry} {ep:Nat} {Q:zAD} (lo:(d == au)=yo) (hm:RawD s.heap d es ep) (G:es.size < 1000000) (h:∀ t q,Q (.int es.size t) { s with toks:=q }):aF (aI prog w) A (call (.builtin "len") [.ref d]) Q E s:=by
 have I:=hm.typeIs;have Y:=hm.obj;have hb:((es.size:Int) < 2 ^ 63):=by omega
 obtain ⟨Z,g,dr,q,os⟩:=s;refine Calls.call_function_entry kind_len plain_len entry_len (args_len1 _) ?_;unfold Builtin.«len»;have U:=PySem.F.slot_dict_len.lookup;have O:=PySem.F.slot_dict_len.bind (.ref d)
 repeat (any_goals (first | assumption | ((with_reducible show aF _ _ (call (db "dict.__len__") _ _) _ _ _); refine ah PySem.F.slot_dict_len I PySem.F.entry_dict_len ?_ (PySem.F.args_dict_len_1 _)) | wp_step))
 refine ⟨_,rfl,?_⟩;have J:((es.size:Int) + ((0:Nat):Int))=(es.size:Int):=by omega
 rw [J];have n1:¬ ((es.size:Int)>=2 ^ 63):=by omega
 have n2:¬ ((es.size:Int) < 0):=by omega
 repeat (any_goals (first | assumption | wp_step))
 rw [bU n1]
 repeat (any_goals (first | assumption | wp_step))
 exact ⟨_,rfl,h _ _⟩
end
theorem Qap {P:aK} {w:aJ} {H:Hp} {h:Heap} {a:aB} {G:List (HK × V)} (ok:HOk P w H h) (e:H a=zo (.dT G)):G.length<=sizeLine/\(a == au)=yo/\∃ es ep O,RawD h a es ep/\es.toList.map (·.key)=O.map bZ/\aR (λ(p:HK × V) (b:aB)=>KR H p.1 b) G O:=by
 obtain ⟨z,hs,xs,I,o,es,ep,Y,U,hd,J,hn⟩:=ok a _ e;refine ⟨z,hs,es,ep,xs.map (λq=>q.2.1),⟨o,Y,U,hd⟩,?_,?_⟩
 ·rw [J,F9,F9];exact L8 λq _=>rfl
 ·clear J hn z e
  induction I with
  | nil=>exact .nil
  | cons hr _ Z=>exact .cons hr.2.1 Z
variable {X:Cx}
theorem Qav:Wg X (.builtin "len") (λxs H Q=>∃ a,∃ G:List (HK × V),xs=[.ref a]/\H a=zo (.dT G)/\G.length < 1000000/\Q (.int G.length) H):=by
 intro pins s σ H xs us Q I r h;obtain ⟨a,G,rfl,ea,hl,q⟩:=h;obtain ⟨u,rfl,Y⟩:=U5 r;cases Y;obtain ⟨z,hs,es,ep,U,Z,O,J⟩:=Qap I.hok ea;have l1:G.length=U.length:=Paired.length J;have l2:es.size=G.length:=by
  have:=congrArg dA O;simp at this;omega
 refine Q6s hs Z (by omega) λt tk=>?_
 exact ⟨.int G.length,H,I.tok _,⟨t,by rw [l2]⟩,q⟩
end L2
namespace L2
open PySem PySem.Spec PyProof.Rows
variable {X:Cx} {xs:Array Nat} {j n ep:Nat} {L:Bool} {α K:Type} {h:Heap} {a it r:aB} {es:zAB} {f:aA} {Q:Option aA->aC->Prop} {ys:Option (aB × List Nat)}
def Qq6 (tk tv:TE):TE:=λσ H Q=>∀ p,H p=zl->Q9i [(tk,tv)] σ (upd H p (.dT [])) λps H2=>∃ (ks:HK) (b:aB) (y:V),ps=[(.ref b,y)]/\KR H2 ks b/\H2 p=zo (.dT [])/\Q (.ref p) (upd H2 p (.dT [(ks,y)]))
theorem Qdj {pos:Pos} {k v:aH} {Y tv:TE} (hu:X.A.units + 5 < aQ) (hk:PE X k Y) (hv:PE X v tv):PE X (.Dict [zo k] [v] pos) (Qq6 Y tv):=by
 intro pins s σ H Q I q;have hn:=I.hok.fresh (O5 s.heap.objs.size);have I1:=I.laid (a:=s.heap.objs.size) (o:=.dT []) (h':=s.heap.push { cls:=.type "dict",data:=.dict #[] }) (t':=s.toks) (λ_ _ q=>O0 _ q) (O5 _) (Q8w s.heap I.big);rw [arm_eval_Dict,zip_pairTrees [zo k] [v] X.env pos rfl rfl,dictDisplay_pairs _ (by simp [pairTrees]) (by simp [pairTrees])];refine aD (wpAny_standAt (aD ?_));unfold subDict;refine aD (wpAny_alloc (aD (ak ?_)));rw [bT (by simp [pairTrees])];refine aD (thn ((Qgh hk hv Qkv) pins _ σ _ _ I1 (q _ hn)) λws s2 ⟨ps,H2,O,G,ks,b,y,ep,U,e,q2⟩=>?_)
 subst ep;obtain ⟨⟨u,r⟩,rfl,r1,r2⟩:∃ p:aA × aA,ws=[p]/\RelV (.ref b) p.1/\RelV y p.2:=by
  cases G with
  | @cons a c as bs h t=>
   cases t;exact ⟨_,rfl,h.1,h.2⟩
 cases (show u=bZ b from r1);obtain ⟨z,hd,xs,G,dd⟩:=Qpw O.hok e;cases G;refine ak ?_;refine aD ?_;rw [dU];refine aD (aD (wpAny_dictSet_heap (hsz:=by simp) (knd:=nk X.prog X.w) hu (Ve O.hok U) dd λh' J hs=>wpAny_pure ?_))
 dsimp only;rw [du];refine wpAny_pure (wpAny_pure (wpAny_pure (wpAny_pure ⟨.ref s.heap.objs.size,_,?_,rfl,q2⟩)));obtain ⟨o,es,ep,Z,h2,h3,h4,_,h5⟩:=J;refine Q6n O (by rw [e]; exact True.intro) hs ⟨o,Z⟩ ⟨by simp [sizeLine_eq],hd,[(ks,b,r)],.cons ⟨rfl,?_,r2⟩ .nil,o,es,ep,Z,h2,h3,by simpa [storedH,atKey] using h4,by simp⟩;exact U.keep λc ys ec=>by rw [Q9 (Qpn ec e (λz=>nomatch z))]; exact ec
def Rise (xs:Array Nat):Prop:=xs.toList.Pairwise (· < ·)
theorem Rise.lt (r:Rise xs) {i a b:Nat} (hi:xs[i]?=zo a) (U:xs[j]?=zo b) (h:i < j):a < b:=by
 have q:=eC.mp r;obtain ⟨I,J⟩:=cG.mp hi;obtain ⟨G,O⟩:=cG.mp U;have:=q i j (by simpa using I) (by simpa using G) h;simp only [Array.getElem_toList] at this;rw [<- J,<- O]; exact this
theorem Qj9 (r:Rise xs):∀ G lo hi,hi - lo<=G->lo<=hi->hi<=xs.size->(∀ i v,xs[i]?=zo v->i < lo->v < j)->(∀ i v,xs[i]?=zo v->hi<=i->j<=v) ->
  SetTable.below.go xs j G lo hi<=xs.size/\∀ i v,xs[i]?=zo v->(i < SetTable.below.go xs j G lo hi <-> v < j):=by
 intro G
 induction G with
 | zero=>
  intro lo hi h1 h2 Y a b;have e:lo=hi:=by omega
  rw [SetTable.below.go];refine ⟨by omega,λi v I=>⟨a i v I,λh=>?_⟩⟩
  by_cases z:i < lo
  ·exact z
  ·have:=b i v I (by omega); omega
 | succ G U=>
  intro lo hi h1 h2 Y a b;rw [SetTable.below.go]
  by_cases z:lo < hi
  ·rw [bT z];dsimp only;have hm:(lo + hi) / 2 < xs.size:=by omega
   have J:xs[(lo + hi) / 2]?=zo xs[(lo + hi) / 2]:=bi hm;have Z:xs.getD ((lo + hi) / 2) j=xs[(lo + hi) / 2]:=by simp [dI,hm]
   rw [Z]
   by_cases y:xs[(lo + hi) / 2] < j
   ·rw [bT y];refine U _ _ (by omega) (by omega) Y (λi v I O=>?_) b
    by_cases q:i=(lo + hi) / 2
    ·subst q; rw [J] at I; cases I; exact y
    ·have:=r.lt I J (by omega); omega
   ·rw [bU y];refine U _ _ (by omega) (by omega) (by omega) a λi v I O=>?_
    by_cases q:i=(lo + hi) / 2
    ·subst q; rw [J] at I; cases I; omega
    ·have:=r.lt J I (by omega); omega
  ·rw [bU z];refine ⟨by omega,λi v I=>⟨a i v I,λh=>?_⟩⟩
   by_cases q:i < lo
   ·exact q
   ·have:=b i v I (by omega); omega
theorem qa (r:Rise xs):SetTable.below xs j<=xs.size/\∀ i v,xs[i]?=zo v->(i < SetTable.below xs j <-> v < j):=
 Qj9 r _ _ _ (by omega) (F7 _) (O5 _) (λi v _ h=>absurd h (gy _)) λi v q h=>by
  have:=(cG.mp q).1; omega
def Good (L:Bool) (t:aW):Prop:=Rise t.place/\t.dummies=#[]/\t.led=L
theorem Q7n (r:Rise xs) (h:j∉xs.toList):Rise (SetTable.insertAt xs (SetTable.below xs j) j):=by
 obtain ⟨_,b⟩:=qa (j:=j) r;unfold Rise;rw [SetTable.toList_insertAt];have lo:∀ v∈xs.toList.take (SetTable.below xs j),v < j:=λv G=>by
  obtain ⟨i,hi,e⟩:=G6 G;rw [L6] at hi;refine (b i v ?_).mp (by omega);rw [<- bh,<- e,List.getElem_take,O3]
 have hi:∀ v∈xs.toList.drop (SetTable.below xs j),j < v:=λv G=>by
  obtain ⟨i,hi,e⟩:=G6 G;rw [cf] at hi;have J:xs[SetTable.below xs j + i]?=zo v:=by
   rw [<- bh,<- e,List.getElem_drop,O3]
  have q:¬ v < j:=λz=>by have:=(b _ v J).mpr z; omega
  have ne:v≠j:=λz=>h (by rw [<- z]; exact fS G)
  omega
 refine gz.mpr ⟨fT.sublist (gL _ _) r,L4.mpr ⟨hi,fT.sublist (List.drop_sublist _ _) r⟩,λx O y I=>?_⟩
 rcases D5.mp I with rfl | I
 ·exact lo x O
 ·exact gn (lo x O) (hi y I)
theorem Good.put {t:aW} (g:Good L t) (h:j∉t.place.toList):Good L (t.put j).1:=by
 unfold SetTable.put;refine ⟨Q7n g.1 h,?_,g.2.2⟩;show (if SetTable.has t.dummies j=zb then _ else t.dummies)=#[];have:SetTable.has t.dummies j=yo:=by unfold SetTable.has; rw [g.2.1]; simp
 rw [this,bU (by simp)];exact g.2.1
theorem Good.relaid {t t':aW} (g:Good L t) {hs:Array Int} {o:Array Nat} (e:t.relaid hs n=zo (t',o)):Good L t':=by
 unfold SetTable.relaid SetTable.laid at e;cases z:SetTable.layClean (SetTable.sizeAbove n - 1) hs with
 | none=>rw [z] at e; cases e
 | some I=>
  rw [z] at e;cases e;refine ⟨?_,rfl,g.2.2⟩;show fT (· < ·) (List.map _ _);rw [eD];have J:∀ l:List Nat,l.Pairwise (· < ·)->(l.filterMap λj=>(I.getD j zl).map (j,·)).Pairwise λa b=>a.1 < b.1:=by
   intro l
   induction l with
   | nil=>intro _; exact .nil
   | cons x l O=>
    intro h;obtain ⟨h1,h2⟩:=L4.mp h;rw [L0];cases I.getD x zl with
    | none=>exact O h2
    | some k=>
     refine L4.mpr ⟨λb Y=>?_,O h2⟩;obtain ⟨y,U,G⟩:=dO.mp Y;cases q:I.getD y zl with
     | none=>rw [q] at G; cases G
     | some Z=>rw [q] at G; cases G; exact h1 y U
  exact J _ List.pairwise_lt_range
theorem za {α:Type}:∀ {l:List α} {i:Nat} (h:i < l.length),([l[i]] ++ l.eraseIdx i).Perm l
 | [],_,h=>absurd h (gy _)
 | a :: l,0,_=>cP _
 | a :: l,i + 1,h=>by
  have:=za (l:=l) (i:=i) (by simpa using h);rw [List.eraseIdx_cons_succ,List.getElem_cons_succ];exact (eE a _ _).trans (this.cons a)
theorem Qkz (next:Nat->Nat):∀ q k (left:List α) G,left.length=q->(pickOrder.go next q k left G).toList.Perm (G.toList ++ left):=by
 intro q
 induction q with
 | zero=>intro k left G h; rw [hJ.mp h,pickOrder.go,L1]
 | succ q J=>
  intro k left G h;rw [pickOrder.go];have I:next k % left.length < left.length:=eF _ (by omega);rw [O3 I];refine (J (k + 1) _ _ (by rw [hU I]; omega)).trans ?_;rw [Array.toList_push,dS];refine ir _ ?_;exact za I
theorem Qdh (next:Nat->Nat) (xs:Array α):(pickOrder next xs).toList.Perm xs.toList:=by
 have:=Qkz next xs.size 0 xs.toList #[] (by simp);simpa [pickOrder] using this
theorem Q80 {β:Type} {F:α->β->Prop} {l J:List α} (p:J.Perm l):∀ {ks:List β},aR F l ks->∃ q,aR F J q/\q.Perm ks:=by
 induction p with
 | nil=>intro ks h; exact ⟨ks,h,cP _⟩
 | cons x _ Y=>
  intro ks h;cases h with
  | cons r t=>
   obtain ⟨q,h1,h2⟩:=Y t;exact ⟨_,.cons r h1,h2.cons _⟩
 | swap x y l=>
  intro ks h;cases h with
  | cons r t=>
   cases t with
   | cons O t'=>exact ⟨_,.cons O (.cons r t'),eE _ _ _⟩
 | trans _ _ I G=>
  intro ks h;obtain ⟨k1,h1,U⟩:=G h;obtain ⟨k2,h2,p2⟩:=I h1;exact ⟨k2,h2,p2.trans U⟩
theorem Ki {α β:Type} {F:α->β->Prop} {a:α}:∀ {l:List α} {ks:List β},aR F l ks->a∈l->∃ b∈ks,F a b
 | _,_,.nil,h=>by cases h
 | _,_,.cons (b:=b) r t,h=>by
  rcases D5.mp h with rfl | h
  ·exact ⟨b,by simp,r⟩
  ·obtain ⟨x,G,q⟩:=Ki t h;exact ⟨x,O4 _ G,q⟩
section
variable {prog:aK} {w:aJ} {K:Type} [DecidableEq K]
variable {knd:KeyKind prog w K} {L:Bool} {A:aL} {E:zAD} {s:aC} {a:aB}
def Ja (ks:List K) (k:K):List K:=if k∈ks then ks else ks ++ [k]
end
theorem Q0z:entryFor table "set.__iter__" = zo Builtin.«frozenset.__iter__»:=entryFor_alias (id' := "frozenset.__iter__") (by kernel_rfl) rfl (by decide +kernel) (by kernel_rfl)
theorem slot_setit_next:Slot "set_iterator" "__next__" "set_iterator.__next__" :=
 .of (owner := "set_iterator") (n := "__next__") (by rw [typeLookup_type,builtinLookup_eq_fast]; kernel_rfl) (by decide +kernel) (by decide +kernel) (by decide +kernel) (by first | exact .inl (by decide +kernel) | exact .inr (by decide +kernel)) (by rw [bQ]; kernel_rfl)
theorem X5:entryFor table "set_iterator.__next__" = zo Builtin.«set_iterator.__next__»:=entryFor_of_tree (by kernel_rfl)
theorem Q0h:Manifest.owners.lookup (String.ofList ['r','o','t','a','r','e','t','i','_','t','e','s'].reverse)=zo Manifest.sig_set_iterator:=by kernel_rfl
theorem K3 (a:aA):argsOk "set_iterator.__next__" ⟨[a],[]⟩:=by
 unfold argsOk; rw [signature?_of (id := "set_iterator.__next__") (n:=['_','_','t','x','e','n','_','_']) (o:=['r','o','t','a','r','e','t','i','_','t','e','s']) (by kernel_rfl) Q0h]; kernel_rfl
def SetIt (h:Heap) (it:aB) (f:aA) (i:Nat) (d:aB) (n ep:Nat):Prop:=
 h.get? it=zo { cls:=.type "set_iterator",dict:=zl,data:=.fields #[f,aS i,.ref d,aS n,aS ep],slots:=#[] }
def RawS (h:Heap) (a:aB) (es:zAB) (ep:Nat) (t:aW):Prop:=∃ o,h.get? a=zo o/\o.ExactSet/\o.data=.set es ep t
theorem RawS.at {h':Heap} {t:aW} (x:RawS h a es ep t) (k:∀ o,h.get? a=zo o->h'.get? a=zo o):RawS h' a es ep t:=let ⟨o,e,r⟩:=x; ⟨o,k o e,r⟩
theorem RawS.lt {t:aW} (x:RawS h a es ep t):a < h.objs.size:=let ⟨_,e,_⟩:=x; O9 e
theorem SetIt.at {h':Heap} {d:aB} {i:Nat} (x:SetIt h it f i d n ep) (k:∀ o,h.get? it=zo o->h'.get? it=zo o):SetIt h' it f i d n ep:=k _ x
variable {prog:aK} {A:aL} {E:zAD} {s:aC}
section
variable {w:aJ}
theorem RawS.typeIs {t:aW} (x:RawS s.heap a es ep t):s.TypeIs (.ref a) "set" := let ⟨o,e,r,_⟩:=x; ⟨o,e,r.1⟩
theorem SetIt.typeIs {d:aB} {i:Nat} (x:SetIt s.heap it f i d n ep):s.TypeIs (.ref it) "set_iterator" := ⟨_,x,rfl⟩
theorem Vv {t:aW} {Q:(zAB × Nat × aW)->aC->Prop} (x:RawS s.heap a es ep t) (G:t.fits es.size=zb) (h:Q (es,ep,t) s):aF (aI prog w) A (setState a) Q E s:=by
 obtain ⟨o,q,_,hd⟩:=x;exact wpAny_setState_of q hd G h
theorem Qau {Q:Nat->aC->Prop} (q:n≠0) (h:∀ i d',i < n->Q i { s with drawn:=d' }):aF (aI prog w) A (choose .order n) Q E s:=λΓ p _=>⟨q,h _ _ (eF _ (by omega))⟩
theorem Qin :∀ (n:Nat) (xs:List α) (s:aC) {Q:List α->aC->Prop},xs.length=n->(∀ ys d',ys.Perm xs->Q ys { s with drawn:=d' })->aF (aI prog w) A (drawOrder n xs) Q E s:=by
 intro n
 induction n with
 | zero=>
  intro xs s Q q h;rw [hJ.mp q] at h ⊢;rw [drawOrder];exact wpAny_pure (h [] s.drawn (cP _))
 | succ n G=>
  intro xs s Q q h;cases xs with
  | nil=>cases q
  | cons x xs=>
   rw [drawOrder]
   ·refine aD (Qau (by simp) λi d' hi=>?_)
    rw [O3 hi];refine aD (G _ _ (by rw [hU hi]; omega) λys J I=>?_)
    exact wpAny_pure (h _ J ((I.cons _).trans (za hi)))
   ·simp
end
section
variable {w:aJ}
theorem Qke {t:aW} {Q:Nat->aC->Prop} (x:RawS s.heap a es ep t) (q:t.fits es.size=zb) (h:Q es.size s):aF (aI prog w) A (Builtin.Frozenset.sizeOf a) Q E s:=by
 unfold Builtin.Frozenset.sizeOf setEntries;exact aD (aD (Vv x q (wpAny_pure (wpAny_pure h))))
theorem Q7k {t:aW} {Q:Nat->aC->Prop} (x:RawS s.heap a es ep t) (q:t.fits es.size=zb) (h:Q ep s):aF (aI prog w) A (setEpoch a) Q E s:=by
 unfold setEpoch;exact aD (Vv x q (wpAny_pure h))
theorem Q21 {t:aW} {Q:zAB->aC->Prop} (x:RawS s.heap a es ep t) (q:t.fits es.size=zb) (h:Q es s):aF (aI prog w) A (setEntries a) Q E s:=by
 unfold setEntries;exact aD (Vv x q (wpAny_pure h))
theorem xh {Q:Bool->aC->Prop} (h:Q (w.params.followText "set-order") s):aF (aI prog w) A setsByText Q E s:=by
 unfold setsByText;exact aD (wpAny_askSetting (wpAny_pure h))
def drw (w:aJ) (n:Nat) (t:aW):Bool:=!w.params.followText "set-order" && (!t.plain && decide (n > 1))
theorem Qfy {t:aW} {Q:Bool->aC->Prop} (x:RawS s.heap a es ep t) (q:t.fits es.size=zb) (h:Q (drw w es.size t) s):aF (aI prog w) A (setDrawn a) Q E s:=by
 unfold setDrawn;exact aD (Vv x q (aD (xh (wpAny_pure h))))
theorem Qfq {t:aW} {Q:zAD} (x:RawS s.heap a es ep t) (q:t.fits es.size=zb) (hz:es.size<=sizeLine)
  (h1:drw w es.size t=yo->Q (.ref s.heap.objs.size) { s with heap:=s.heap.push { cls:=.type "set_iterator",data:=.fields #[aS 0,aS 0,.ref a,aS es.size,aS ep] } })
  (h2:drw w es.size t=zb->∀ (ys:List Nat) (d':Drawn),ys.Perm (bY es.size) ->
   Q (.ref (s.heap.objs.size + 1)) { s with heap:=(s.heap.push { cls:=.type "tuple",data:=.seq (ys.map λ(i:Nat)=>aS i).toArray }).push { cls:=.type "set_iterator",data:=.fields #[.ref s.heap.objs.size,aS 0,.ref a,aS es.size,aS ep] },drawn:=d' }) :
  aF (aI prog w) A (pyIter (.ref a)) Q E s:=by
 refine wpAny_pyIter_slot x.typeIs hX (ah hX x.typeIs Q0z ?_ (PySem.F.args_set_iter_1 _));unfold Builtin.«frozenset.__iter__» Builtin.Frozenset.slot0 Builtin.Frozenset.addrOf slotArgs;show aF _ _ (pure a >>= _) _ _ _;refine aD (wpAny_pure ?_);refine aD (Qke x q ?_);refine aD (Qfy x q ?_);cases z:drw w es.size t with
 | false=>
  rw [bU D2];refine aD (wpAny_pure ?_);refine aD (Q7k x q ?_);refine aD (ao ?_);exact wpAny_pure ⟨_,rfl, "set_iterator",_,⟨_,D0 _ rfl,rfl⟩,slot_setit_next.lookup,h1 z⟩
 | true=>
  rw [bT rfl];refine aD ?_;refine Qin _ _ _ F2 λys d' G=>?_
  refine aD (wpAny_newTuple ?_ (by rw [O1,G.length_eq,F2]; exact hz));have I:RawS (s.heap.push { cls:=.type "tuple",data:=.seq (ys.map λ(i:Nat)=>aS i).toArray }) a es ep t:=x.at λo e=>O0 _ e
  refine aD (Q7k (s:={ s with heap:=s.heap.push { cls:=.type "tuple",data:=.seq (ys.map λ(i:Nat)=>aS i).toArray },drawn:=d' }) I q ?_)
  refine aD (ao ?_);refine wpAny_pure ⟨_,rfl, "set_iterator",_,⟨_,D0 _ rfl,rfl⟩,slot_setit_next.lookup,?_⟩;have:=h2 z ys d' G
  rwa [show s.heap.objs.size + 1=(s.heap.push { cls:=.type "tuple",data:=.seq (ys.map λ(i:Nat)=>aS i).toArray }).objs.size from (F4 _ _).symm] at this
end
def byT (w:aJ):Bool:=!w.params.followText "set-order"
def Zt (w:aJ):Obj:={ cls:=.type "set",dict:=zl,data:=.set #[] 0 (.fresh 0 0 (byT w)) }
def Zx {K:Type} [DecidableEq K] (ks:List K):List K:=ks.foldl Ja []
theorem Qdw [DecidableEq K] (ks:List K) (k:K):Zx (ks ++ [k])=Ja (Zx ks) k:=by unfold Zx; rw [eG]; rfl
theorem U0 {K:Type} [DecidableEq K]:∀ (ks acc:List K),(ks.foldl Ja acc).length<=acc.length + ks.length
 | [],acc=>by simp
 | k :: ks,acc=>by
  have h1:=U0 ks (Ja acc k);have h2:(Ja acc k).length<=acc.length + 1:=by unfold Ja; split <;> simp
  rw [F5,D4];omega
theorem Vy [DecidableEq K] (ks:List K):(Zx ks).length<=ks.length:=by unfold Zx; have:=U0 ks []; simpa using this
section
variable {prog:aK} {w:aJ} {K:Type} [DecidableEq K] {knd:KeyKind prog w K} {A:aL} {R:Result->aC->Prop}
theorem Qk3 {E:zAD} (a:aA) {Z:zAD} (h:Z (.ref s.heap.objs.size) { s with heap:=s.heap.push (Zt w) }) :
  codeAny (aI prog w) A (.call (.builtin "set.__new__") ⟨[.type "set",a],[]⟩) (wants Z E) s:=by
 refine codeAny_of_tree ?_;show aF _ A.in1 (do checkBuiltinCall "set.__new__" ⟨[.type "set",a],[]⟩; again (.builtin "set.__new__" ⟨[.type "set",a],[]⟩)) _ _ s;refine aD (wpAny_of_eq (F.newCall_set_1 a) (wpAny_pure ⟨bF F.plain_set_new _,bC F.entry_set_new ?_⟩));rw [Around.under_plainId F.plain_set_new _];unfold Builtin.«set.__new__» Builtin.Frozenset.newClass;have hs:=sub_set_self;unfold Zt byT at h;obtain ⟨q,g,d,G,os⟩:=s;dsimp only
 wp_walk
 refine wpAny_askSetting (wpAny_pure ?_);dsimp only;simp only [newObj];refine aD (wpAny_alloc (wpAny_pure ?_));exact wpAny_pure h
theorem Q1s:isSubtype (.type "tuple") (.type "set")=pure yo:=by rw [bQ]; kernel_rfl
theorem Q0s:isSubtype (.type "tuple") (.type "frozenset")=pure yo:=by rw [bQ]; kernel_rfl
end
def V8 (w:aJ) (t:aW) (i:Nat):Nat:=if w.params.followText "set-order" = zb then 0 else if i=0 then 0 else t.place.getD (i - 1) 0 + 1
def Q5s (w:aJ) (a:aB) (ep:Nat) (es:zAB):zAB:=if w.params.followText "set-order" = zb then pickOrder (w.params.setOrder a ep) es else es
theorem Q4m (w:aJ) (a:aB) (ep:Nat) (es:zAB):(Q5s w a ep es).toList.Perm es.toList:=by
 unfold Q5s
 split
 ·exact Qdh _ _
 ·exact cP _
theorem Qdm (w:aJ) (a:aB) (ep:Nat) (es:zAB):(Q5s w a ep es).size=es.size:=by
 have:=(Q4m w a ep es).length_eq;simpa using this
theorem Qb0 (r:Rise xs) {i:Nat} (h:i < xs.size):SetTable.below xs (xs.getD i 0 + 1)=i + 1:=by
 obtain ⟨I,b⟩:=qa (j:=xs.getD i 0 + 1) r;have q:xs[i]?=zo (xs.getD i 0):=by rw [bi h]; simp [dI,h]
 have h1:i < SetTable.below xs (xs.getD i 0 + 1):=(b i _ q).mpr (by omega)
 by_cases z:SetTable.below xs (xs.getD i 0 + 1)=i + 1
 ·exact z
 ·have h2:i + 1 < xs.size:=by omega
  have G:xs[i + 1]?=zo xs[i + 1]:=bi h2;have:=(b (i + 1) _ G).mp (by omega);have:=r.lt q G (by omega);omega
theorem Qaz (r:Rise xs):SetTable.below xs 0=0:=by
 obtain ⟨q,b⟩:=qa (j:=0) r
 by_cases z:SetTable.below xs 0=0
 ·exact z
 ·have h2:0 < xs.size:=by omega
  have:=(b 0 _ (bi h2)).mp (by omega);omega
section
variable {w:aJ}
theorem Qh7 {i:Nat} {t:aW} {Q:Option (aA × Nat)->aC->Prop} (x:RawS s.heap a es ep t) (G:t.fits es.size=zb) (g:Good (byT w) t) (hd:drw w es.size t=yo) (hi:i<=es.size)
  (h:Q (((Q5s w a ep es)[i]?).map λe=>(e.2,V8 w t (i + 1))) s):aF (aI prog w) A (setNext a (V8 w t i) i ep) Q E s:=by
 have U:t.place.size=es.size:=by
  simp only [SetTable.fits,E2,beq_iff_eq,decide_eq_true_eq] at G;exact G.1
 unfold setNext;refine aD (Vv x G ?_);dsimp only;refine aD (xh ?_);cases z:w.params.followText "set-order" with
 | true=>
  rw [bT rfl,bU (by simp)];refine aD ?_;unfold setWalk;refine aD (Vv x G ?_);dsimp only;refine aD (xh ?_);rw [z,bT rfl];refine aD (wpAny_askSetting (wpAny_pure (wpAny_pure ?_)));unfold Q5s V8 at h;rw [bT z,bT z] at h;unfold V8;rw [bT z];exact h
 | false=>
  rw [bU D2];have J:(!t.plain && decide (es.size > 1))=yo:=by
   unfold drw at hd;rw [z] at hd;simpa using hd
  have Y:t.led=zb:=by rw [g.2.2]; unfold byT; rw [z]; rfl
  unfold Q5s V8 at h;rw [z,bU D2,bU D2,bU (by omega),fR] at h;have Z:SetTable.below t.place (V8 w t i)=i:=by
   unfold V8;rw [z,bU D2]
   by_cases q:i=0
   ·rw [bT q,q]; exact Qaz g.1
   ·rw [bU q,Qb0 g.1 (by omega)]; omega
  show aF _ _ (if (!t.plain && decide (es.size > 1))=zb then _ else _) _ _ _;rw [J,bU D2];show aF _ _ ((if (!t.led && !es.isEmpty)=zb then _ else _) >>= _) _ _ _;rw [Y];simp only [cY,L5,F0,if_false];refine aD (wpAny_pure ?_);rw [Z];refine wpAny_pure ?_
  by_cases q:i < es.size
  ·have I:es[i]?=zo es[i]:=bi q;have O:t.place[i]?=zo (t.place.getD i 0):=by rw [bi (by omega)]; simp [dI,U,q]
   rw [I] at h ⊢;rw [O];exact h
  ·have I:es[i]?=zl:=cg (by omega);rw [I] at h ⊢;exact h
end
section
variable {w:aJ}
theorem Xw:Slot "set_iterator" "__iter__" "set_iterator.__iter__" :=
 .of (owner := "set_iterator") (n := "__iter__") (by rw [typeLookup_type,builtinLookup_eq_fast]; kernel_rfl) (by decide +kernel) (by decide +kernel) (by decide +kernel) (by first | exact .inl (by decide +kernel) | exact .inr (by decide +kernel)) (by rw [bQ]; kernel_rfl)
theorem Q07:entryFor table "set_iterator.__iter__" = zo Builtin.«dict_keyiterator.__iter__»:=entryFor_alias (id' := "dict_keyiterator.__iter__") (by kernel_rfl) rfl (by decide +kernel) (by kernel_rfl)
theorem Q11 (a:aA):argsOk "set_iterator.__iter__" ⟨[a],[]⟩:=by
 unfold argsOk; rw [signature?_of (id := "set_iterator.__iter__") (n:=['_','_','r','e','t','i','_','_']) (o:=['r','o','t','a','r','e','t','i','_','t','e','s']) (by kernel_rfl) Q0h]; kernel_rfl
theorem Q5m {d:aB} {i:Nat} {Q:zAD} (q:SetIt s.heap it f i d n ep) (h:Q (.ref it) s):aF (aI prog w) A (pyIter (.ref it)) Q E s:=by
 refine wpAny_pyIter_slot q.typeIs Xw (ah Xw q.typeIs Q07 ?_ (Q11 _));show aF _ _ (ret (.ref it)) _ _ s;exact wpAny_pure ⟨_,rfl, "set_iterator",_,q.typeIs,slot_setit_next.lookup,h⟩
def zg (w:aJ) (t:aW) (h:Heap) (ys:Option (aB × List Nat)) (i:Nat) (f:aA):Prop:=match ys with
 | none=>f=aS (V8 w t i)
 | some (tp,ys)=>f=.ref tp/\h.get? tp=zo { cls:=.type "tuple",data:=.seq (ys.map λ(i:Nat)=>aS i).toArray }
def Q3y (w:aJ) (a:aB) (ep:Nat) (es:zAB) (ys:Option (aB × List Nat)):List (Int × aA):=match ys with
 | none=>(Q5s w a ep es).toList
 | some (_,ys)=>ys.filterMap λi=>es[i]?
theorem xk (h:∀ tp l,ys=zo (tp,l)->l.Perm (bY es.size)):(Q3y w a ep es ys).Perm es.toList:=by
 unfold Q3y;cases ys with
 | none=>exact Q4m _ _ _ _
 | some q=>
  obtain ⟨tp,l⟩:=q;refine ((h tp l rfl).filterMap _).trans ?_;rw [filterMap_getElem?_range]
theorem Qme {tp:aB} {l:List Nat} (h:l.Perm (bY es.size)) (i:Nat):(Q3y w a ep es (zo (tp,l)))[i]?=(l[i]?).bind λj=>es[j]?:=by
 have I:∀ j∈l,j < es.size:=λj q=>by have:=h.mem_iff.mp q; simpa using this
 show (l.filterMap λi=>es[i]?)[i]?=_;clear h
 induction l generalizing i with
 | nil=>rfl
 | cons x l J=>
  have G:=I x (by simp);rw [List.filterMap_cons_some (b:=es[x]) (bi G)];cases i with
  | zero=>simp [bi G]
  | succ i=>simpa using J i (λj q=>I j (O4 _ q))
theorem Qfr {i:Nat} {t:aW} {ys:Option (aB × List Nat)} {v:aA} {e:Int} {Q:Option aA->aC->Prop} (a2:a≠it) (G:SetIt s.heap it f i a es.size ep) (x:RawS s.heap a es ep t) (U:t.fits es.size=zb) (g:Good (byT w) t)
  (hy:zg w t s.heap ys i f) (hn:ys=zl->drw w es.size t=yo) (hp:∀ tp l,ys=zo (tp,l)->l.Perm (bY es.size)/\tp≠it) (I:(Q3y w a ep es ys)[i]?=zo (e,v))
  (hQ:∀ f' h',SetIt h' it f' (i + 1) a es.size ep->zg w t h' ys (i + 1) f'->Heap.SameBut it s.heap h'->Q (zo v) { s with heap:=h' }):aF (aI prog w) A (ag (.ref it)) Q E s:=by
 have hT:=G.typeIs;unfold ag;refine aD (wpAny_attempt (wpAny_callSpecial?_slot (name:=cC "__next__") hT slot_setit_next (ah slot_setit_next hT X5 ?_ (K3 _))));unfold Builtin.«set_iterator.__next__» slotArgs;show aF _ _ (fieldsOf (.ref it) >>= _) _ _ _;refine aD (wpAny_fieldsOf G rfl ?_);show aF _ _ (setEntries a >>= _) _ _ _;refine aD (Q21 x U ?_);rw [bU (by simp)];cases ys with
 | none=>
  cases hy;show aF _ _ (setNext a (V8 w t i:Int).toNat (i:Int).toNat (ep:Int).toNat >>= _) _ _ _;rw [bp,bp,bp];have hi:i < es.size:=by
   obtain ⟨q,_⟩:=O2.mp I;have:=(xk (w:=w) (a:=a) (ep:=ep) (es:=es) (ys:=zl) (λ_ _ z=>nomatch z)).length_eq;rw [this] at q; simpa using q
  refine aD (Qh7 x U g (hn rfl) (by omega) ?_);have e0:(Q5s w a ep es)[i]?=zo (e,v):=by rw [<- bh]; exact I
  rw [e0];show aF _ _ (setField (.ref it) 0 (aS (V8 w t (i + 1))) >>= _) _ _ _;refine aD (bA G (by simp) λh1 Y J=>?_)
  refine aD (bA (s:={ s with heap:=h1 }) Y (by simp) λh2 o2 Z=>?_)
  exact wpAny_pure ⟨_,rfl,wpAny_pure (hQ _ h2 o2 rfl (J.trans Z))⟩
 | some q=>
  obtain ⟨tp,l⟩:=q;obtain ⟨rfl,ht⟩:=hy;obtain ⟨hl,a1⟩:=hp tp l rfl;rw [Qme hl] at I;cases O:l[i]? with
  | none=>rw [O] at I; cases I
  | some j=>
   rw [O] at I;have I:es[j]?=zo (e,v):=I;show aF _ _ (seqItems? (.ref tp) >>= _) _ _ _;refine aD (ar ht rfl ?_);show aF _ _ (match ((l.map λ(i:Nat)=>aS i).toArray)[(i:Int).toNat]? with | some (.int place _)=>_ | some _=>_ | none=>_) _ _ _
   rw [bp,fQ,D7,O];show aF _ _ (setNextDrawn a (j:Int).toNat (ep:Int).toNat >>= _) _ _ _;rw [bp,bp];refine aD ?_;unfold setNextDrawn;refine aD (Vv x U ?_);dsimp only;rw [bU (by simp),I];refine wpAny_pure ?_;refine aD (bA G (by simp) λh1 Y J=>?_)
   exact wpAny_pure ⟨_,rfl,wpAny_pure (hQ _ h1 Y ⟨rfl,(J.2 tp a1).trans ht⟩ J)⟩
theorem Q4d (I:A.handled=zl) {q:Heap} (k:Heap.ExtBut it s.heap q) (G:∀ h',Heap.ExtBut it s.heap h'->Q zl { s with heap:=h' }) :
  aF (aI prog w) A.in1 (newExc (.type "StopIteration") [] >>= λe=>bS e) (λ(fin:Fin) s'=>∃ v,fin=.done (.ret v)/\aF (aI prog w) A (pure (zo v)) Q E s') (λe s'=>aF (aI prog w) A (do if <- isInstance e (.type "StopIteration") then pure zl else throw e) Q E s') { s with heap:=q }:=by
 refine aD ?_;simp only [newExc,newTuple];refine aD (ao ?_ (by size_fits));refine aD (m:=firstArgMember _ _) (wpAny_of_eq (a:=bc) (by first | rfl | (simp only [firstArgMember]; rfl)) ?_);refine ao ?_ (by size_fits);simp only [bS];refine aD (wpAny_handled ?_);rw [show A.in1.handled=zl from I];refine aD (wpAny_pure (wpAny_throw ?_));refine aD (bK (T := "StopIteration") (b:=zb) ⟨_,D0 _ rfl,rfl⟩ isSubtype_stop ?_);exact wpAny_pure (G _ ((k.push _).push _))
theorem Qk5 {t:aW} {ys:Option (aB × List Nat)} {Q:Option aA->aC->Prop} (hh:A.handled=zl) (G:SetIt s.heap it f es.size a es.size ep) (x:RawS s.heap a es ep t) (U:t.fits es.size=zb) (g:Good (byT w) t)
  (Z:zg w t s.heap ys es.size f) (hn:ys=zl->drw w es.size t=yo) (hp:∀ tp l,ys=zo (tp,l)->l.Perm (bY es.size)/\tp≠it)
  (Y:∀ h',Heap.ExtBut it s.heap h'->Q zl { s with heap:=h' }):aF (aI prog w) A (ag (.ref it)) Q E s:=by
 have O:=G.typeIs;unfold ag;refine aD (wpAny_attempt (wpAny_callSpecial?_slot (name:=cC "__next__") O slot_setit_next (ah slot_setit_next O X5 ?_ (K3 _))));unfold Builtin.«set_iterator.__next__» slotArgs;show aF _ _ (fieldsOf (.ref it) >>= _) _ _ _;refine aD (wpAny_fieldsOf G rfl ?_);show aF _ _ (setEntries a >>= _) _ _ _;refine aD (Q21 x U ?_);rw [bU (by simp)];cases ys with
 | none=>
  cases Z;show aF _ _ (setNext a (V8 w t es.size:Int).toNat (es.size:Int).toNat (ep:Int).toNat >>= _) _ _ _;rw [bp,bp,bp];refine aD (Qh7 x U g (hn rfl) (O5 _) ?_);have e0:(Q5s w a ep es)[es.size]?=zl:=cg (by rw [Qdm]; exact O5 _);rw [e0];show aF _ _ (setField (.ref it) 2 .none >>= _) _ _ _;refine aD (bA G (by simp) λh1 o1 I=>?_)
  exact Q4d (s:=s) hh I.extBut Y
 | some q=>
  obtain ⟨tp,l⟩:=q;obtain ⟨rfl,ht⟩:=Z;obtain ⟨hl,a1⟩:=hp tp l rfl;have hz:l[es.size]?=zl:=G9 (by rw [hl.length_eq,F2]; exact O5 _);show aF _ _ (seqItems? (.ref tp) >>= _) _ _ _;refine aD (ar ht rfl ?_);show aF _ _ (match ((l.map λ(i:Nat)=>aS i).toArray)[(es.size:Int).toNat]? with | some (.int place _)=>_ | some _=>_ | none=>_) _ _ _
  rw [bp,fQ,D7,hz];show aF _ _ (setField (.ref it) 0 (aS 0) >>= _) _ _ _;refine aD (bA G (by simp) λh1 o1 I=>?_)
  refine aD (bA (s:={ s with heap:=h1 }) o1 (by simp) λh2 o2 J=>?_)
  exact Q4d (s:=s) hh (I.trans J).extBut Y
def Q6i (it a:aB) (ys:Option (aB × List Nat)):List aB:=match ys with
 | none=>[it,a]
 | some (tp,_)=>[it,a,tp]
theorem Qcu {ep:Nat} {t:aW} (hh:A.handled=zl) (O:a≠it) (Z:t.fits es.size=zb) (g:Good (byT w) t) (hn:ys=zl->drw w es.size t=yo) (Y:∀ tp l,ys=zo (tp,l)->l.Perm (bY es.size)/\tp≠it) :
  Walks prog w A it (Q6i it a ys) [it] es.size (λi v=>∃ e,(Q3y w a ep es ys)[i]?=zo e/\v=e.2) (λi h=>RawS h a es ep t/\∃ f,SetIt h it f i a es.size ep/\zg w t h ys i f) where
 sub:=λb J=>by
  have:b=it:=by simpa using J
  subst this;unfold Q6i;cases ys <;> simp
 frame:=λi h h' st U=>by
  obtain ⟨x,f,h1,h2⟩:=st;have m1:it∈Q6i it a ys:=by unfold Q6i; cases ys <;> simp
  have m2:a∈Q6i it a ys:=by unfold Q6i; cases ys <;> simp
  refine ⟨x.at λo e=>U a m2 o e,f,h1.at λo e=>U it m1 o e,?_⟩;cases ys with
  | none=>exact h2
  | some q=>exact ⟨h2.1,U q.1 (by unfold Q6i; simp) _ h2.2⟩
 item:=λi s Q E hi st G=>by
  obtain ⟨x,f,h1,h2⟩:=st;have hl:(Q3y w a ep es ys).length=es.size:=by
   have:=(xk (w:=w) (a:=a) (ep:=ep) (es:=es) (ys:=ys) λtp l z=>(Y tp l z).1).length_eq
   simpa using this
  have I:i < (Q3y w a ep es ys).length:=by omega
  refine Qfr O h1 x Z g h2 hn Y (e:=(Q3y w a ep es ys)[i].1) (v:=(Q3y w a ep es ys)[i].2) (O3 I) λf' h' i1 i2 sb=>?_
  exact G _ h' s.toks ⟨_,O3 I,rfl⟩ ⟨x.at λo e=>(sb.2 a O).trans e,f',i1,i2⟩ λb o J e=>sb.extBut b o (λz=>J (by simp [z])) e
 done:=λs Q E st G=>by
  obtain ⟨x,f,h1,h2⟩:=st;exact Qk5 hh h1 x Z g h2 hn Y λh' k=>G h' s.toks λb o J e=>k b o (λz=>J (by simp [z])) e
 self:=λi s Q E st G=>by
  obtain ⟨x,f,h1,h2⟩:=st;exact Q5m h1 G
theorem Qi4 {Q:Bool->aC->Prop} (q:s.TypeIs (.ref r) "set") (h:Q yo s):aF (aI prog w) A (Builtin.List.listLengthHint (.ref r)) Q E s:=by
 unfold Builtin.List.listLengthHint;refine aD (wpAny_specialOf q PySem.F.slot_set_len.lookup ?_);generalize hid:("set.__len__" : String)=G
 wp_delta
 rw [show splitId G=zo ("set", "__len__") from by subst hid; decide +kernel];subst hid;refine aD (bK (T := "set") (b:=zb) q (by rw [bQ]; kernel_rfl) ?_);refine bD (λz=>absurd z (by decide)) (λ_=>?_)
 refine bD (λ_=>?_) (λz=>absurd (by decide +kernel) z)
 exact aD (bB q (wpAny_pure h))
end
section
variable {w:aJ}
theorem Qnn {R:Result->aC->Prop} {t:aW} (hh:A.handled=zl) (x:RawS s.heap r es ep t) (hf:t.fits es.size=zb) (g:Good (byT w) t) (S:aB) (a2:S≠r) (res:aA) (a6:Nat) (hS:s.heap.get? S=zo { cls:=.type "list",data:=.seq #[] a6 })
  (hR:∀ h' d' tk (acc:Array aA) Z,acc.toList.Perm (es.toList.map (·.2))->(∀ b o,b≠S->s.heap.get? b=zo o->h'.get? b=zo o)->h'.get? S=zo { cls:=.type "list",dict:=zl,data:=.seq acc Z,slots:=#[] }->R (.ok (.ret res)) { s with heap:=h',drawn:=d',toks:=tk }) (hn:es.size<=sizeLine) :
  aF (aI prog w) A.in1 (Builtin.List.listExtendWith (.ref S) (.ref r) res)
   (λfin s'=>match fin with | .done f=>R (.ok f) s' | .again Z=>Z.quiet=zb/\codeAny (aI prog w) A Z R s') (λe s'=>R (.error e) s') s:=by
 have a1:=O9 hS;have a9:∀ (ys:Option (aB × List Nat)) (I:aB) (h:Heap) (d':Drawn) (O tk:Nat),s.heap.objs.size<=I->(ys=zl->drw w es.size t=yo)->(∀ tp l,ys=zo (tp,l)->l.Perm (bY es.size)/\tp≠I/\s.heap.objs.size<=tp) ->
   RawS h r es ep t->(∃ f,SetIt h I f 0 r es.size ep/\zg w t h ys 0 f)->(∀ b o,b≠S->s.heap.get? b=zo o->h.get? b=zo o) ->
   h.get? S=zo { cls:=.type "list",data:=.seq #[] O }->codeAny (aI prog w) A (.builtin "list.extend.loop" ⟨[.ref S,.ref I,res],[]⟩) R { s with heap:=h,drawn:=d',toks:=tk }:=by
  intro ys I h d' O tk hI a4 G hx Y hk a7;have a8:S≠I:=D8 (D1 a1 hI);have b1:r≠I:=D8 (D1 x.lt hI);have W:=Qcu (prog:=prog) (A:=A.in1) (it:=I) (a:=r) (es:=es) (ep:=ep) (t:=t) (ys:=ys) (by simpa using hh) b1 hf g a4 λtp l z=>⟨(G tp l z).1,(G tp l z).2.1⟩
  have b2:S∉Q6i I r ys:=by
   unfold Q6i;cases ys with
   | none=>simp only [D5,dJ,or_false,not_or]; exact ⟨a8,a2⟩
   | some q=>simp only [D5,dJ,or_false,not_or]; exact ⟨a8,a2,D8 (D1 a1 (G q.1 q.2 rfl).2.2)⟩
  refine codeAny_extend_loopS W.toS hn S b2 res es.size 0 _ #[] O rfl (F7 _) ⟨hx,Y⟩ a7 (ItemsOf.nil _) λs' acc Z hm b0 U=>?_
  rw [Moved.eq_with hm];have pm:=xk (w:=w) (a:=r) (ep:=ep) (es:=es) (ys:=ys) λtp l z=>(G tp l z).1
  have hl:=pm.length_eq;simp only [be] at hl;have e:acc.toList=(Q3y w r ep es ys).map (·.2):=by
   apply cU;intro i
   by_cases z:i < es.size
   ·have hi:i < acc.size:=by rw [U.1]; exact z
    obtain ⟨e,h1,h2⟩:=U.2 i acc[i] (bi hi);rw [bh,bi hi,h2,D7,h1]; rfl
   ·rw [bh,cg (by rw [U.1]; omega),D7,G9 (by omega)]; rfl
  refine hR s'.heap d' s'.toks acc Z (by rw [e]; exact pm.map _) (λb o hb q=>hm.heap b o (λJ=>?_) (hk b o hb q)) b0
  rcases D5.mp J with z | J
  ·exact hb z
  ·have:=O9 q;rw [List.mem_singleton.mp J] at this;exact absurd (D1 this hI) (L3 _)
 have a5:∀ (bf:Bool->Bool) (ys:Option (aB × List Nat)) (I:aB) (h:Heap) (d':Drawn),s.heap.objs.size<=I->(ys=zl->drw w es.size t=yo)->(∀ tp l,ys=zo (tp,l)->l.Perm (bY es.size)/\tp≠I/\s.heap.objs.size<=tp) ->
   RawS h r es ep t->(∃ f,SetIt h I f 0 r es.size ep/\zg w t h ys 0 f)->(∀ b o,s.heap.get? b=zo o->h.get? b=zo o) ->
   aF (aI prog w) A.in1 (do
     let room <- aw [.ref I] (Builtin.List.listLengthHint (.ref r))
     if bf room then
      rule "list.extend.makes-room"
      Builtin.List.listTouch (.ref S)
     again (.builtin "list.extend.loop" ⟨[.ref S,.ref I,res],[]⟩))
    (λfin s'=>match fin with | .done f=>R (.ok f) s' | .again Z=>Z.quiet=zb/\codeAny (aI prog w) A Z R s') (λe s'=>R (.error e) s') { s with heap:=h,drawn:=d' }:=by
  intro bf ys I h d' hI a4 G hx Y hk;refine aD (ak (Qi4 (s:={ s with heap:=h,drawn:=d' }) hx.typeIs ?_));refine bD (λ_=>?_) (λ_=>wpAny_pure ⟨bF hZ _,a9 ys I h d' a6 s.toks hI a4 G hx Y (λb o _ q=>hk b o q) (hk _ _ hS)⟩);refine aD (bJ (aD ?_));show aF _ _ (updateSeq S (·.push .none) >>= λ_=>updateSeq S (·.pop)) _ _ _
  have s1:=hk _ _ hS;refine aD (wpAny_updateSeq (s:={ s with heap:=h,drawn:=d' }) s1 rfl ?_);have s2:=G8 (bo (·.push bc)) s1 rfl;refine wpAny_updateSeq (hz:=by seq_fits) s2 rfl ?_;have s3:=G8 (bo (·.pop)) s2 rfl;have a3:∀ b o,b≠S->h.get? b=zo o->((h.update S (bo (·.push bc))).update S (bo (·.pop))).get? b=zo o:=λb o hb q=>(F6 _ _ (Ne.symm hb)).trans ((F6 _ _ (Ne.symm hb)).trans q)
  have nI:I≠S:=M0 (D1 a1 hI);refine wpAny_pure ⟨bF hZ _,a9 ys I _ d' _ s.toks hI a4 G (hx.at λo q=>a3 r o (Ne.symm a2) q) ?_ (λb o hb q=>a3 b o hb (hk b o q)) s3⟩;obtain ⟨f,i1,i2⟩:=Y;refine ⟨f,i1.at λo q=>a3 I o nI q,?_⟩;cases ys with
  | none=>exact i2
  | some q=>exact ⟨i2.1,a3 q.1 _ (M0 (D1 a1 (G q.1 q.2 rfl).2.2)) i2.2⟩
 unfold Builtin.List.listExtendWith;refine aD (bB (T := "set") x.typeIs ?_);have h1:Builtin.List.listSameRef (.ref S) (.ref r)=yo:=by simp [Builtin.List.listSameRef,a2]
 have e1:(bj "set" == bj "list")=yo:=by decide
 have e2:(bj "set" == bj "tuple")=yo:=by decide
 simp only [h1,e1,e2,dR,F0,if_false];refine aD (Qfq x hf hn (λz=>?_) λz ys d' hp=>?_)
 ·exact a5 _ zl s.heap.objs.size (s.heap.push { cls:=.type "set_iterator",data:=.fields #[aS 0,aS 0,.ref r,aS es.size,aS ep] }) s.drawn (O5 _) (λ_=>z) (λ_ _ q=>nomatch q) (x.at λo q=>O0 _ q) ⟨_,D0 _ rfl,by unfold zg V8; simp⟩ (λb o q=>O0 _ q)
 ·have hz:s.heap.objs.size + 1=(s.heap.push { cls:=.type "tuple",data:=.seq (ys.map λ(i:Nat)=>aS i).toArray }).objs.size:=(F4 _ _).symm
  exact a5 _ (zo (s.heap.objs.size,ys)) (s.heap.objs.size + 1) ((s.heap.push { cls:=.type "tuple",data:=.seq (ys.map λ(i:Nat)=>aS i).toArray }).push { cls:=.type "set_iterator",data:=.fields #[.ref s.heap.objs.size,aS 0,.ref r,aS es.size,aS ep] }) d' (dF _) (λq=>nomatch q)
   (λtp l q=>by cases q; exact ⟨hp,D8 (dE _),O5 _⟩) (x.at λo q=>O0 _ (O0 _ q)) ⟨.ref s.heap.objs.size,by rw [hz]; exact D0 _ rfl,rfl,O0 _ (D0 _ rfl)⟩ (λb o q=>O0 _ (O0 _ q))
theorem Q94 {d:aB} {t:aW} {Q:List aA->aC->Prop} (hh:A.handled=zl) (x:RawS s.heap d es ep t) (U:t.fits es.size=zb) (g:Good (byT w) t) (hn:es.size<=sizeLine)
  (h:∀ vs h' d' O,vs.Perm (es.toList.map (·.2))->(∀ b o,s.heap.get? b=zo o->h'.get? b=zo o)->s.heap.objs.size<=h'.objs.size->Q vs { s with heap:=h',drawn:=d',toks:=O }):aF (aI prog w) A (collect (.ref d)) Q E s:=by
 unfold collect;refine aD (wpAny_runValue (bC gv ?_));rw [Around.under_plainId gw _];show aF _ A.in1 (newList [] >>= λl=>again (.builtin "list.__iadd__" ⟨[l,.ref d],[]⟩)) _ _ s
 refine aD (ao ?_);refine wpAny_pure ⟨bF eB _,bC gx ?_⟩;rw [Around.under_plainId eB _];have Z:(s.heap.push { cls:=.type "list",data:=.seq ([]:List aA).toArray }).get? s.heap.objs.size=zo { cls:=.type "list",data:=.seq ([]:List aA).toArray }:=D0 _ rfl;have I:∀ b o,s.heap.get? b=zo o->(s.heap.push { cls:=.type "list",data:=.seq ([]:List aA).toArray }).get? b=zo o:=λb o e=>O0 _ e
 have J:s.heap.objs.size≠d:=M0 x.lt;show aF _ A.in1 (Builtin.List.listExtendWith (.ref s.heap.objs.size) (.ref d) (.ref s.heap.objs.size)) _ _ _;refine Qnn (prog:=prog) (w:=w) (A:=A) (R:=λr s'=>match r with | .ok (.ret v)=>aF (aI prog w) A (match v with | .ref a=>do { let o <- load a; match o.data with | .seq xs _=>pure xs.toList | _=>unsupported "internal:collect" } | _=>unsupported "internal:collect") Q E s' | .ok _=>False | .error e=>E e s') (s:={ s with heap:=s.heap.push { cls:=.type "list",data:=.seq ([]:List aA).toArray } }) hh (x.at λo e=>I d o e) U g s.heap.objs.size J _ _ Z (λh' d' O acc c pm Y G=>?_) hn
 show aF _ A (load s.heap.objs.size >>= _) _ _ _;refine aD (wpAny_load G ?_);exact wpAny_pure (h _ h' d' O pm (λb o q=>Y b o (D8 (O9 q)) (I b o q)) (cr (O9 G)))
end
theorem Inv.redraw {pins:zAA} {σ:List (Option V)} {H:Hp} (I:Inv X pins σ H s) (d':Drawn):Inv X pins σ H { s with drawn:=d' }:=⟨I.ok,I.os,I.bare,I.base,I.loc,I.cell,I.free,I.freeC,I.pin,I.hok,I.len⟩
end L2
namespace L2
open PySem PySem.Spec PyProof.Rows SeqAt
end L2
namespace L2
open PySem PySem.Spec PyProof.Rows
variable {M j N:Nat} {L:Bool} {h:Int} {hs:List Int}
variable {X:Cx} {tg:aH}
theorem Qdn:OpR X (aU .LtE) (λx y H Q=>∃ i j,x=.str i/\y=.str j/\Q (.bl (!decide (j.cps.toList < i.cps.toList))) H):=by
 intro pins s σ H x y v u Q I J G h;obtain ⟨i,j,rfl,rfl,q⟩:=h;obtain ⟨t,rfl⟩:=J;obtain ⟨t',rfl⟩:=G;exact PySem.P.le_str (Q6j I q rfl)
def Qtp (x:Str):It:=⟨λi _=>i < x.cps.size,λi H v H'=>H'=H/\∃ c,x.cps[i]?=zo c/\v=.str ⟨#[c]⟩,λi _=>x.cps.size<=i⟩
theorem Q49 {prog:aK} {w:aJ} {A:aL} (h:A.handled=zl) (I:aB) (x:Str) (t:Tok):Walks prog w A I [I] [I] x.cps.size (SignAt x) λi h=>h.IsStrIter I (strIterType x) x t i:=by
 unfold strIterType
 split
 ·exact Walks.strAscii h I x t
 ·exact Walks.strWide h I x t
theorem Q4w (x:Str):strIterType x = "str_ascii_iterator" \/ strIterType x = "str_iterator" := by
 unfold strIterType
 split
 ·exact .inl rfl
 ·exact .inr rfl
theorem Qf3 {P:aK} {w:aJ} {K:bX} (x:Str) (t:Tok) (it:aB):Turn P w K tg (Qtp x) [it] it (λi h=>h.IsStrIter it (strIterType x) x t i/\i<=x.cps.size) where
 mem:=by simp
 obj:=λi h st b G=>by
  have e:b=it:=by simpa using G
  subst e;obtain ⟨o,e,c,d⟩:=st.1;exact ⟨o,e,λv z=>by rw [d] at z; cases z⟩
 keep:=λi h h' st k=>by
  obtain ⟨⟨o,e,c,d⟩,hi⟩:=st;exact ⟨⟨o,k it (by simp) o e,c,d⟩,hi⟩
 item:=by
  intro X hP hw hK hc i pins s σ H E I O st J;subst hP hw hK;obtain ⟨Z,Y,f2,f3,f4,f5⟩:=O it (by simp);have W:=Q49 (prog:=X.prog) (w:=X.w) (I.ok.hd hc) it x t;refine W.item i s _ _ J st.1 λv h' tk hv st' U=>?_
  obtain ⟨c,u,a1,rfl⟩:=hv;have I1:Inv X pins σ H { s with heap:=h',toks:=tk }:=I.turned (λb o G e=>U b o (by simpa using G) e) Z Y f3 f4 f5
  obtain ⟨o,e1,e2,e3⟩:=st';refine ⟨_,rfl,Qc7 (s:={ s with heap:=h',toks:=tk }) (n:=strIterType x) e1 e2 e3 ?_ ⟨.str ⟨#[c]⟩,H,I1,⟨u,rfl⟩,⟨rfl,c,a1,rfl⟩,⟨⟨o,e1,e2,e3⟩,J⟩,λb G=>(O b G).1⟩⟩
  rcases Q4w x with q | q <;> rw [q] <;> decide
 done:=by
  intro X hP hw hK hc i pins s σ H E I O st J;subst hP hw hK;obtain ⟨Z,Y,f2,f3,f4,f5⟩:=O it (by simp);have W:=Q49 (prog:=X.prog) (w:=X.w) (I.ok.hd hc) it x t;have e:i=x.cps.size:=Nat.le_antisymm st.2 J;subst e;exact W.done s _ _ st.1 λh' tk U=>⟨rfl,I.turned (λb o G e=>U b o (by simpa using G) e) Z Y f3 f4 f5⟩
 self:=λA i s Q E st h=>by
  obtain ⟨st,_⟩:=st;revert st;rcases Q4w x with q | q <;> rw [q] <;> intro st
  ·exact wpAny_pyIter_striter_ascii st h
  ·exact wpAny_pyIter_striter_wide st h
def Qz8 (tl:TE):TI:=λσ H R=>tl σ H λv H1=>∃ x,v=.str x/\R (Qtp x) H1
theorem Qrg {l:aH} {tl:TE} (J:PE X l tl):PI X tg l (Qz8 tl):=by
 intro pins s σ H R I h;refine thn (J pins s σ H _ I h) λv s1 ⟨z,H1,G,U,Y⟩=>?_
 obtain ⟨x,e,q⟩:=Y;subst e;obtain ⟨t,rfl⟩:=U;refine wpAny_pyIter_strU ?_;refine ⟨s1.heap.objs.size,[s1.heap.objs.size],_,_,H1,rfl,G.kept (t':=s1.toks) λb o e=>O0 _ e,Qf3 x t _,⟨⟨_,D0 _ rfl,rfl,rfl⟩,F7 _⟩,λb O=>?_,q⟩
 have e:b=s1.heap.objs.size:=by simpa using O
 subst e;exact G.fpOk (O5 _) (G.hok.fresh (O5 _))
theorem Qbc:∀ {ss:List Str} {us:List aA},Vals (ss.map V.str) us->∃ l:List (Str × Tok),us=strValues l/\l.map (·.1)=ss
 | [],_,.nil=>⟨[],rfl,rfl⟩
 | s :: ss,_,.cons r t=>by
  obtain ⟨l,q,I⟩:=Qbc t;obtain ⟨G,rfl⟩:=r;exact ⟨(s,G) :: l,by rw [q]; rfl,by rw [D3,I]⟩
theorem Qmp:MtR X "str.join" (λx vs H Q=>∃ G p ss,x=.str G/\vs=[.ref p]/\SqL X.K H p (ss.map V.str)/\JoinOk G ss=zb/\Q (.str (Txt.join G ss)) H):=by
 intro pins s σ H x vs v us Q I rx U h;obtain ⟨G,p,ss,rfl,rfl,Z,hz,q⟩:=h;obtain ⟨t,rfl⟩:=rx;obtain ⟨u,rfl,ru⟩:=U.one;cases ru;obtain ⟨its,O,pl,_⟩:=I.list Z;obtain ⟨l,J,Y⟩:=Qbc O;subst J;exact SC.join pl.isList Y hz λt' k=>⟨.str _,H,I.tok _,⟨_,rfl⟩,q⟩
def zf (M:Nat) (p:SetTable.Probe):SetTable.Probe:=
 if p.more > 0 then { j:=p.j + 1,more:=p.more - 1,i:=p.i,perturb:=p.perturb,dummy:=p.dummy }
 else { j:=(SetTable.leap M p.i p.perturb).1,more:=SetTable.runEnd M (SetTable.leap M p.i p.perturb).1 - (SetTable.leap M p.i p.perturb).1,i:=(SetTable.leap M p.i p.perturb).1,perturb:=(SetTable.leap M p.i p.perturb).2,dummy:=p.dummy }
theorem Q3m (t:aW) (p:SetTable.Probe):t.advance p=zf t.mask p:=by
 unfold SetTable.advance zf
 split <;> rfl
def Qi7 (M:Nat) (q:Nat × Nat):SetTable.Probe:={ j:=q.1,more:=SetTable.runEnd M q.1 - q.1,i:=q.1,perturb:=q.2,dummy:=zl }
def lpP (M:Nat) (h:Int):Nat->Nat × Nat
 | 0=>(SetTable.bits h % (M + 1),SetTable.bits h)
 | m + 1=>SetTable.leap M (lpP M h m).1 (lpP M h m).2
def pth (M:Nat) (h:Int):Nat->SetTable.Probe
 | 0=>Qi7 M (lpP M h 0)
 | n + 1=>zf M (pth M h n)
def Qv (M:Nat) (h:Int) (n:Nat):Nat:=(pth M h n).j
theorem Q4j (M:Nat) (h:Int):∀ n,(pth M h n).dummy=zl
 | 0=>rfl
 | n + 1=>by
  have:=Q4j M h n;show (zf M (pth M h n)).dummy=zl;unfold zf
  split <;> exact this
theorem Qc1 (M i p:Nat):(SetTable.leap M i p).1<=M:=by
 show (i * 5 + 1 + p / 32) % (M + 1)<=M;exact eI (eF _ (iA _))
theorem Q65 (M:Nat) (h:Int):∀ m,(lpP M h m).1<=M
 | 0=>eI (eF _ (iA _))
 | m + 1=>Qc1 _ _ _
theorem qi {i:Nat} (h:i<=M):SetTable.runEnd M i<=M/\i<=SetTable.runEnd M i/\SetTable.runEnd M i<=i + 9:=by
 unfold SetTable.runEnd
 split <;> omega
theorem Qg8 (M:Nat) (h:Int):∀ n,(pth M h n).j + (pth M h n).more<=M
 | 0=>by
  have:=qi (Q65 M h 0);show (lpP M h 0).1 + (SetTable.runEnd M (lpP M h 0).1 - (lpP M h 0).1)<=M;omega
 | n + 1=>by
  have q:=Qg8 M h n;show (zf M (pth M h n)).j + (zf M (pth M h n)).more<=M;unfold zf
  split
  ·dsimp only; omega
  ·dsimp only;have:=qi (Qc1 M (pth M h n).i (pth M h n).perturb);omega
theorem Qkw (M:Nat) (h:Int) (n:Nat):Qv M h n<=M:=by
 have:=Qg8 M h n;unfold Qv; omega
theorem Q5p {M:Nat} {h:Int} {n:Nat} {q:Nat × Nat} (e:pth M h n=Qi7 M q):∀ k,k<=SetTable.runEnd M q.1 - q.1->pth M h (n + k)={ j:=q.1 + k,more:=SetTable.runEnd M q.1 - q.1 - k,i:=q.1,perturb:=q.2,dummy:=zl }
 | 0,_=>e
 | k + 1,G=>by
  show zf M (pth M h (n + k))=_;rw [Q5p e k (by omega)];unfold zf;dsimp only;rw [bT (by omega)];congr 1
theorem Qbn (M:Nat) (h:Int):∀ m,∃ n,n<=10 * m/\pth M h n=Qi7 M (lpP M h m)
 | 0=>⟨0,by omega,rfl⟩
 | m + 1=>by
  obtain ⟨n,q,e⟩:=Qbn M h m;have b:=qi (Q65 M h m);refine ⟨n + (SetTable.runEnd M (lpP M h m).1 - (lpP M h m).1) + 1,by omega,?_⟩;show zf M (pth M h (n + _))=_;rw [Q5p e _ (O5 _)];unfold zf;dsimp only;rw [bU (by omega)];rfl
def itF (M:Nat):Nat->Nat->Nat
 | 0,i=>i
 | n + 1,i=>itF M n ((i * 5 + 1) % (M + 1))
theorem ye (M:Nat):∀ a b i,itF M (a + b) i=itF M b (itF M a i)
 | 0,b,i=>by rw [iB]; rfl
 | a + 1,b,i=>by rw [Nat.succ_add]; exact ye M a b _
def orb (M:Nat):Nat->Nat->List Nat
 | 0,_=>[]
 | k + 1,i=>i :: orb M k ((i * 5 + 1) % (M + 1))
theorem Q5t {M:Nat}:∀ {k i j:Nat},j∈orb M k i->∃ n,n < k/\itF M n i=j
 | k + 1,i,j,h=>by
  rcases D5.mp h with rfl | h
  ·exact ⟨0,by omega,rfl⟩
  ·obtain ⟨n,q,e⟩:=Q5t h;exact ⟨n + 1,by omega,e⟩
def HM (M:Nat):Prop:=M=7\/M=31\/M=127
theorem Qmf (q:HM M):(∀ j,j < M + 1->j∈orb M (M + 1) 0)/\itF M (M + 1) 0=0:=by
 rcases q with rfl | rfl | rfl
 ·exact ⟨by decide +kernel,by decide +kernel⟩
 ·exact ⟨by decide +kernel,by decide +kernel⟩
 ·exact ⟨by decide +kernel,by decide +kernel⟩
theorem Qsz (J:HM M) {i:Nat} (hi:i<=M) (U:j<=M):∃ n,n < M + 1/\itF M n i=j:=by
 obtain ⟨o,z⟩:=Qmf J;obtain ⟨a,O,G⟩:=Q5t (o i (by omega));obtain ⟨b,Y,I⟩:=Q5t (o j (by omega))
 by_cases q:a<=b
 ·refine ⟨b - a,by omega,?_⟩;rw [<- G,<- ye,show a + (b - a)=b by omega,I]
 ·refine ⟨M + 1 - a + b,by omega,?_⟩;rw [<- G,<- ye,show a + (M + 1 - a + b)=(M + 1) + b by omega,ye,z,I]
theorem Qhg (M:Nat) (h:Int):∀ m,(lpP M h m).2=SetTable.bits h / 32 ^ m
 | 0=>by show SetTable.bits h=_; rw [Nat.pow_zero,Nat.div_one]
 | m + 1=>by
  show (lpP M h m).2 / 32=_;rw [Qhg M h m,iC,<- fU]
theorem Qnz (h:Int):SetTable.bits h < 2 ^ 64:=by
 unfold SetTable.bits;have h1:(0:Int) < 2 ^ 64:=by decide
 have:=iD h h1;have:=iE h (show (2:Int) ^ 64≠0 by decide);omega
theorem Qwd (M:Nat) (h:Int):∀ n,(lpP M h (12 + n)).1=itF M n (lpP M h 12).1:=by
 have step:∀ m,12<=m->(lpP M h (m + 1)).1=((lpP M h m).1 * 5 + 1) % (M + 1):=λm hm=>by
  show ((lpP M h m).1 * 5 + 1 + (lpP M h m).2 / 32) % (M + 1)=_;have:(lpP M h m).2 / 32=0:=by
   rw [Qhg,iC,<- fU];refine Nat.div_eq_of_lt (D1 (Qnz h) ?_);exact E1 (show 2 ^ 64<=32 ^ 13 by decide) (Nat.pow_le_pow_right (by decide) (by omega))
  rw [this,iF]
 have q:∀ n i,itF M (n + 1) i=(itF M n i * 5 + 1) % (M + 1):=λn i=>ye M n 1 i
 intro n
 induction n with
 | zero=>rfl
 | succ n G=>rw [q,<- G]; exact step (12 + n) (by omega)
theorem Q8h (q:HM M) (h:Int) (G:j<=M):∃ m,m < M + 13/\(lpP M h m).1=j:=by
 obtain ⟨n,I,e⟩:=Qsz q (Q65 M h 12) G;exact ⟨12 + n,by omega,by rw [Qwd,e]⟩
theorem Qdg (q:HM M) (h:Int) (G:j<=M):∃ n,n<=10 * (M + 12)/\Qv M h n=j:=by
 obtain ⟨m,hm,e⟩:=Q8h q h G;obtain ⟨n,I,en⟩:=Qbn M h m;exact ⟨n,by omega,by unfold Qv; rw [en]; exact e⟩
theorem Qaj (U:HM M) (h:Int) (G:Nat->Prop) (hj:j<=M) (Z:¬ G j):∃ N,N<=10 * (M + 12)/\¬ G (Qv M h N)/\∀ m,m < N->G (Qv M h m):=by
 obtain ⟨n,O,e⟩:=Qdg U h hj;have J:∀ n,¬ G (Qv M h n)->∃ N,N<=n/\¬ G (Qv M h N)/\∀ m,m < N->G (Qv M h m):=by
  intro n
  induction n using Nat.strongRecOn with
  | ind n ih=>
   intro O
   by_cases q:∃ m,m < n/\¬ G (Qv M h m)
   ·obtain ⟨m,hm,Y⟩:=q;obtain ⟨N,h1,h2,I⟩:=ih m hm Y;exact ⟨N,by omega,h2,I⟩
   ·refine ⟨n,O5 _,O,λm hm=>?_⟩;exact Classical.byContradiction λz=>q ⟨m,hm,z⟩
 obtain ⟨N,h1,h2,I⟩:=J n (by rw [e]; exact Z);exact ⟨N,by omega,h2,I⟩
theorem X0 {t:aW} {i:Nat} (r:Rise t.place) (hi:t.place[i]?=zo j):t.slot j=.live i:=by
 obtain ⟨I,b⟩:=qa (j:=j) r;have n1:¬ i < SetTable.below t.place j:=λz=>by have:=(b i j hi).mp z; omega
 have G:=(cG.mp hi).1;have e:SetTable.below t.place j=i:=by
  by_cases z:SetTable.below t.place j < i
  ·have q:SetTable.below t.place j < t.place.size:=by omega
   have l:=r.lt (bi q) hi z;have:=(b _ _ (bi q)).mpr l;omega
  ·omega
 unfold SetTable.slot;dsimp only;rw [e,hi];simp
theorem Qd3 {t:aW} (hd:t.dummies=#[]) (h:j∉t.place.toList):t.slot j=.empty:=by
 unfold SetTable.slot SetTable.has;dsimp only;rw [hd];have:¬ (t.place[SetTable.below t.place j]? == zo j)=zb:=λz=>by
  have z:=eq_of_beq z;rw [<- bh] at z;exact h (E6 z)
 rw [bU this];simp
theorem Qgg {t:aW} (g:Good L t) (hashAt:Nat->Int) (h:Int) (hN:Qv t.mask h N∉t.place.toList) (hl:∀ m,m < N->Qv t.mask h m∈t.place.toList):∀ G n,n<=N->N - n < G ->
  (SetTable.probe.go t hashAt h G (pth t.mask h n)=zo (.empty (Qv t.mask h N) zl)/\∀ m,n<=m->m < N->∀ i,t.place[i]?=zo (Qv t.mask h m)->hashAt i≠h) \/
  (∃ m i,n<=m/\m < N/\t.place[i]?=zo (Qv t.mask h m)/\hashAt i=h/\SetTable.probe.go t hashAt h G (pth t.mask h n)=zo (.candidate (Qv t.mask h m) i (pth t.mask h (m + 1)))/\∀ O,n<=O->O < m->∀ i,t.place[i]?=zo (Qv t.mask h O)->hashAt i≠h):=by
 intro G
 induction G with
 | zero=>intro n _ h2; omega
 | succ G ih=>
  intro n h1 h2;rw [SetTable.probe.go]
  by_cases e:n=N
  ·subst e
   left
   have:=Qd3 g.2.1 hN;unfold Qv at this ⊢;rw [this,Q4j];exact ⟨rfl,λm h3 U=>by omega⟩
  ·have hm:=hl n (by omega);obtain ⟨i,hi,ei⟩:=G6 hm;have hv:t.place[i]?=zo (Qv t.mask h n):=by rw [<- bh,O3 hi,ei]
   have hs:=X0 g.1 hv;have uq:∀ J,t.place[J]?=zo (Qv t.mask h n)->J=i:=λJ I=>by
    have:=X0 g.1 I;rw [hs] at this; cases this; rfl
   unfold Qv at hs;rw [hs];dsimp only
   by_cases q:hashAt i=h
   ·right
    refine ⟨n,i,O5 _,by omega,hv,q,?_,λO h3 U=>by omega⟩;rw [bT (by simp [q]),Q3m];rfl
   ·rw [bU (by simp [q]),Q3m];have ad:zf t.mask (pth t.mask h n)=pth t.mask h (n + 1):=rfl;rw [ad];rcases ih (n + 1) (by omega) (by omega) with ⟨a1,Z⟩ | ⟨m,J,a1,Z,a3,a4,a5,a6⟩
    ·left
     refine ⟨a1,λm h3 U J I=>?_⟩
     by_cases z:m=n
     ·subst z; rw [uq J I]; exact q
     ·exact Z m (by omega) U J I
    ·right
     refine ⟨m,J,by omega,Z,a3,a4,a5,λO h3 U i2 Y=>?_⟩
     by_cases z:O=n
     ·subst z; rw [uq i2 Y]; exact q
     ·exact a6 O (by omega) U i2 Y
def Rch (M:Nat) (occ:Nat->Prop) (h:Int) (j:Nat):Prop:=∃ n,Qv M h n=j/\∀ m,m < n->occ (Qv M h m)
theorem Rch.mono {G q:Nat->Prop} (r:Rch M G h j) (k:∀ x,G x->q x):Rch M q h j:=let ⟨n,e,f⟩:=r; ⟨n,e,λm hm=>k _ (f m hm)⟩
def SzM (M n:Nat):Prop:=M=7/\n<=4\/M=31/\n<=18\/M=127/\n<=76
def SzP (M n:Nat):Prop:=M=7/\n<=5\/M=31/\n<=19\/M=127/\n<=76
theorem SzM.hm {n:Nat} (s:SzM M n):HM M:=by unfold SzM at s; unfold HM; omega
structure HG0 (L:Bool) (t:aW) (hs:List Int):Prop where
 good:Good L t
 len:t.place.size=hs.length
 le:∀ j,j∈t.place.toList->j<=t.mask
 rch:∀ (i j:Nat) (h:Int),t.place[i]?=zo j->hs[i]?=zo h->Rch t.mask (·∈t.place.toList) h j
structure HG (L:Bool) (t:aW) (hs:List Int):Prop extends HG0 L t hs where
 sz:SzM t.mask hs.length
theorem HG.fits {t:aW} (g:HG L t hs):t.fits hs.length=zb:=by
 unfold SetTable.fits SetTable.fill;rw [g.good.2.1,g.len];have:=g.sz;unfold SzM at this;simp;omega
theorem Qbk:∀ (n:Nat) (l:List Nat),l.length < n->∃ j,j < n/\j∉l
 | 0,l,h=>by omega
 | n + 1,l,h=>by
  by_cases q:n∈l
  ·have G:0 < l.length:=iG q;obtain ⟨j,h1,h2⟩:=Qbk n (l.erase n) (by rw [iH q]; omega);exact ⟨j,by omega,λz=>h2 ((iI (by omega)).mpr z)⟩
  ·exact ⟨n,by omega,q⟩
theorem HG.free {t:aW} (g:HG L t hs) (h:Int):∃ N,N<=10 * (t.mask + 12)/\Qv t.mask h N∉t.place.toList/\∀ m,m < N->Qv t.mask h m∈t.place.toList:=by
 have sz:=g.sz;unfold SzM at sz;obtain ⟨j,h1,h2⟩:=Qbk (t.mask + 1) t.place.toList (by rw [be,g.len]; omega);exact Qaj g.sz.hm h (·∈t.place.toList) (eI h1) h2
theorem Qie (L:Bool):HG L (.fresh 0 0 L) [] where
 good:=⟨fK,rfl,rfl⟩
 len:=rfl
 le:=λj h=>by cases h
 rch:=λi j h e=>by simp [SetTable.fresh] at e
 sz:=.inl ⟨rfl,by simp⟩
theorem HG.put {t:aW} (g:HG L t hs) (Y:Qv t.mask h N∉t.place.toList) (hl:∀ m,m < N->Qv t.mask h m∈t.place.toList) :
  HG0 L (t.put (Qv t.mask h N)).1 (hs.take (SetTable.below t.place (Qv t.mask h N)) ++ h :: hs.drop (SetTable.below t.place (Qv t.mask h N))):=by
 generalize Z:Qv t.mask h N=j at Y;have b:=(qa (j:=j) g.good.1).1;have gl:=g.len;generalize hp:SetTable.below t.place j=p at b;have ep:(t.put j).1.place.toList=t.place.toList.take p ++ j :: t.place.toList.drop p:=by
  show (SetTable.insertAt t.place (SetTable.below t.place j) j).toList=_;rw [SetTable.toList_insertAt,hp]
 have U:(t.put j).1.mask=t.mask:=rfl;have sub:∀ x,x∈t.place.toList->x∈(t.put j).1.place.toList:=λx J=>by
  rw [ep];rw [<- eJ p t.place.toList] at J;rcases D9.mp J with q | q
  ·exact D9.mpr (.inl q)
  ·exact D9.mpr (.inr (O4 _ q))
 have tl:(t.place.toList.take p).length=p:=by rw [L6,be]; omega
 have O:(hs.take p).length=p:=by rw [L6]; omega
 refine ⟨g.good.put Y,?_,λx J=>?_,λi x h' G I=>?_⟩
 ·have:(t.put j).1.place.toList.length=hs.length + 1:=by
   rw [ep,O6,D4,tl,cf,be]; omega
  rw [<- be,this,O6,D4,O,cf]; omega
 ·rw [U];rw [ep] at J;rcases D9.mp J with q | q
  ·exact g.le x (iJ q)
  ·rcases D5.mp q with q | q
   ·rw [q,<- Z]; exact Qkw _ _ _
   ·exact g.le x (fS q)
 ·rw [<- bh,ep] at G;rw [U]
  by_cases q:i < p
  ·rw [O8 (by omega),iK,bT q,bh] at G;rw [O8 (by omega),iK,bT q] at I;exact (g.rch i x h' G I).mono sub
  ·rw [D6 (by omega),tl] at G;rw [D6 (by omega),O] at I
   by_cases z:i=p
   ·subst z;rw [bu] at G I;have G:j=x:=by simpa using G
    have I:h=h':=by simpa using I
    subst G; subst I;exact ⟨N,Z,λm hm=>sub _ (hl m hm)⟩
   ·obtain ⟨k,rfl⟩:∃ k,i=p + 1 + k:=⟨i - p - 1,by omega⟩;rw [show p + 1 + k - p=k + 1 by omega,eK,iL,bh] at G;rw [show p + 1 + k - p=k + 1 by omega,eK,iL] at I;exact (g.rch (p + k) x h' G I).mono sub
theorem Qnj {owner:Array (Option Nat)} (h:Int):∀ J m n,pth M h n=Qi7 M (lpP M h m)->(∀ I,I < n->∃ k,owner[Qv M h I]?=zo (zo k))->owner.size=M + 1 ->
  (∃ I,m<=I/\I < m + J/\owner[(lpP M h I).1]?=zo zl) ->
  ∃ n',SetTable.layClean.free M owner J (lpP M h m).1 (lpP M h m).2=zo (Qv M h n')/\owner[Qv M h n']?=zo zl/\∀ I,I < n'->∃ k,owner[Qv M h I]?=zo (zo k):=by
 intro J
 induction J with
 | zero=>rintro m n _ _ _ ⟨I,h1,h2,_⟩; omega
 | succ J ih=>
  intro m n en Y hsz a2;rw [SetTable.layClean.free];have a3:=Q65 M h m;have hr:=qi a3;have O:∀ k,k<=SetTable.runEnd M (lpP M h m).1 - (lpP M h m).1->Qv M h (n + k)=(lpP M h m).1 + k:=λk hk=>by unfold Qv; rw [Q5p en k hk]
  cases z:fV (λk=>(owner.getD ((lpP M h m).1 + k) (zo 0)).isNone) (bY (SetTable.runEnd M (lpP M h m).1 + 1 - (lpP M h m).1)) with
  | some k=>
   dsimp only;have Z:=fW z;obtain ⟨z0,as,bs,e1,z2⟩:=List.find?_eq_some_iff_append.mp z;have hk:k < SetTable.runEnd M (lpP M h m).1 + 1 - (lpP M h m).1:=cA.mp (fX z);have ok:∀ G,G < k->∃ q,owner[(lpP M h m).1 + G]?=zo (zo q):=λG a1=>by
    have hm:G∈as:=by
     have:(bY (SetTable.runEnd M (lpP M h m).1 + 1 - (lpP M h m).1))[G]?=zo G:=by rw [fY (by omega)]
     have a5:as.length=k:=by
      have q1:(as ++ k :: bs)[as.length]?=zo k:=by rw [D6 (O5 _),bu]; rfl
      rw [<- e1,fY (by
       have:=congrArg dA e1;rw [F2,O6,D4] at this;omega)] at q1
      cases q1; rfl
     rw [e1,O8 (by omega)] at this;exact E6 this
    have:=z2 G hm;have U:(lpP M h m).1 + G < owner.size:=by omega
    simp [dI,U] at this;rw [bi U];cases q:owner[(lpP M h m).1 + G] with
    | none=>rw [q] at this; simp at this
    | some v=>exact ⟨v,rfl⟩
   have U:(lpP M h m).1 + k < owner.size:=by omega
   refine ⟨n + k,by rw [O k (by omega)],?_,λI a4=>?_⟩
   ·rw [O k (by omega),bi U];simp [dI,U] at Z;rw [Z]
   ·by_cases q:I < n
    ·exact Y I q
    ·obtain ⟨G,rfl⟩:∃ G,I=n + G:=⟨I - n,by omega⟩;rw [O G (by omega)];exact ok G (by omega)
  | none=>
   dsimp only;have Z:=List.find?_eq_none.mp z;have ok:∀ G,G<=SetTable.runEnd M (lpP M h m).1 - (lpP M h m).1->∃ q,owner[(lpP M h m).1 + G]?=zo (zo q):=λG a1=>by
    have:=Z G (cA.mpr (by omega));have U:(lpP M h m).1 + G < owner.size:=by omega
    simp [dI,U] at this;rw [bi U];cases q:owner[(lpP M h m).1 + G] with
    | none=>rw [q] at this; simp at this
    | some v=>exact ⟨v,rfl⟩
   have nx:pth M h (n + (SetTable.runEnd M (lpP M h m).1 - (lpP M h m).1) + 1)=Qi7 M (lpP M h (m + 1)):=by
    show zf M (pth M h (n + _))=_;rw [Q5p en _ (O5 _)];unfold zf;dsimp only;rw [bU (by omega)];rfl
   refine ih (m + 1) _ nx (λI a4=>?_) hsz ?_
   ·by_cases q:I < n
    ·exact Y I q
    ·obtain ⟨G,rfl⟩:∃ G,I=n + G:=⟨I - n,by omega⟩;rw [O G (by omega)];exact ok G (by omega)
   ·obtain ⟨I,h1,h2,h3⟩:=a2;have ne:I≠m:=λe=>by
     subst e;obtain ⟨q,hq⟩:=ok 0 (by omega);rw [iF,h3] at hq;cases hq
    exact ⟨I,by omega,by omega,h3⟩
structure OwnT (M:Nat) (hs:List Int) (owner:Array (Option Nat)) (k:Nat):Prop where
 sz:owner.size=M + 1
 cnt:owner.toList.countP eL + k=M + 1
 inj:∀ (i j:Nat) (x:Nat),owner[i]?=zo (zo x)->owner[j]?=zo (zo x)->i=j
 lt:∀ (i:Nat) (x:Nat),owner[i]?=zo (zo x)->x < k
 all:∀ x:Nat,x < k->∃ i:Nat,owner[i]?=zo (zo x)
 rch:∀ (i:Nat) (x:Nat) (h:Int),owner[i]?=zo (zo x)->hs[x]?=zo h->Rch M (λ(j:Nat)=>∃ y,owner[j]?=zo (zo y)) h i
theorem Qgu (hM:HM M) {owner:Array (Option Nat)} {k:Nat} (o:OwnT M hs owner k) (hk:hs[k]?=zo h) (a2:k < M + 1) :
  ∃ j,SetTable.layClean.free M owner (SetTable.turns M) (SetTable.bits h % (M + 1)) (SetTable.bits h)=zo j/\OwnT M hs (owner.setIfInBounds j (zo k)) (k + 1):=by
 have pos:0 < owner.toList.countP eL:=by have:=o.cnt; omega
 obtain ⟨v,hv,e⟩:=List.countP_pos_iff.mp pos;obtain ⟨j0,Y,O⟩:=G6 hv;have G:owner[j0]?=zo zl:=by
  rw [<- bh,O3 Y,O];cases v with
  | none=>rfl
  | some _=>cases e
 have Z:j0<=M:=by have:=(cG.mp G).1; rw [o.sz] at this; omega
 obtain ⟨m',a1,U⟩:=Q8h hM h Z;obtain ⟨n',e1,J,e3⟩:=Qnj (M:=M) (owner:=owner) h (SetTable.turns M) 0 0 rfl (λm' a1=>by omega) o.sz ⟨m',F7 _,by unfold SetTable.turns; omega,by rw [U]; exact G⟩;refine ⟨Qv M h n',e1,?_⟩;generalize hj:Qv M h n'=j at J;have hb:=(cG.mp J).1;have g:∀ i:Nat,(owner.setIfInBounds j (zo k))[i]?=if j=i then zo (zo k) else owner[i]?:=λi=>by
  rw [Array.getElem?_setIfInBounds]
  by_cases q:j=i
  ·rw [bT q,bT q,bT hb]
  ·rw [bU q,bU q]
 have up:∀ x:Nat,(∃ y,owner[x]?=zo (zo y))->∃ y,(owner.setIfInBounds j (zo k))[x]?=zo (zo y):=λx ⟨y,hy⟩=>by
  rw [g]
  by_cases q:j=x
  ·exact ⟨k,by rw [bT q]⟩
  ·exact ⟨y,by rw [bU q]; exact hy⟩
 refine ⟨by rw [Array.size_setIfInBounds]; exact o.sz,?_,λa b x h1 h2=>?_,λi x h1=>?_,λx hx=>?_,λi x h' h1 h2=>?_⟩
 ·rw [Array.toList_setIfInBounds];have I:j < owner.toList.length:=by simpa using hb
  have c:=List.countP_set (p:=eL) (l:=owner.toList) (i:=j) (a:=zo k) I;have ej:owner.toList[j]=zl:=by
   have:=J;rw [<- bh,O3 I] at this;exact bn this
  rw [c];simp only [ej];show List.countP eL owner.toList - 1 + 0 + (k + 1)=M + 1;have:=o.cnt;omega
 ·rw [g] at h1 h2
  by_cases q:j=a <;> by_cases z:j=b
  ·omega
  ·rw [bT q] at h1;rw [bU z] at h2;cases h1;have:=o.lt _ _ h2;omega
  ·rw [bU q] at h1;rw [bT z] at h2;cases h2;have:=o.lt _ _ h1;omega
  ·rw [bU q] at h1;rw [bU z] at h2;exact o.inj a b x h1 h2
 ·rw [g] at h1
  by_cases q:j=i
  ·rw [bT q] at h1; cases h1; omega
  ·rw [bU q] at h1;have:=o.lt _ _ h1;omega
 ·by_cases q:x=k
  ·subst q; exact ⟨j,by rw [g,bT rfl]⟩
  ·obtain ⟨i,hi⟩:=o.all x (by omega);refine ⟨i,?_⟩;rw [g,bU]
   ·exact hi
   ·intro z; subst z; rw [J] at hi; cases hi
 ·rw [g] at h1
  by_cases q:j=i
  ·rw [bT q] at h1; cases h1;rw [hk] at h2; cases h2;refine ⟨n',by rw [hj,q],λm hm=>up _ (e3 m hm)⟩
  ·rw [bU q] at h1;exact (o.rch i x h' h1 h2).mono up
theorem Qmb (U:HM M) (hs:List Int) (a1:hs.length<=M):∃ owner,SetTable.layClean M hs.toArray=zo owner/\OwnT M hs owner hs.length:=by
 have G:∀ (rest done:List Int) (owner:Array (Option Nat)),done ++ rest=hs->OwnT M hs owner done.length ->
   ∃ q,cM (λ(acc:Option (Array (Option Nat) × Nat)) h=>do
    let __x <- acc
    match __x with
     | (owner,k)=>do
      let j <- SetTable.layClean.free M owner (SetTable.turns M) (SetTable.bits h % (M + 1)) (SetTable.bits h)
      pure (owner.setIfInBounds j (zo k),k + 1)) (zo (owner,done.length)) rest=zo (q,hs.length)/\OwnT M hs q hs.length:=by
  intro rest
  induction rest with
  | nil=>intro done owner e o; rw [L1] at e; subst e; exact ⟨owner,rfl,o⟩
  | cons h rest ih=>
   intro done owner e o;have J:hs[done.length]?=zo h:=by rw [<- e,D6 (O5 _),bu]; rfl
   have hl:done.length < hs.length:=(O2.mp J).1;obtain ⟨j,O,o1⟩:=Qgu U o J (by omega);obtain ⟨q,I,Y⟩:=ih (done ++ [h]) (owner.setIfInBounds j (zo done.length)) (by rw [<- e]; simp) (by rw [O6]; exact o1);refine ⟨q,?_,Y⟩;rw [F5];rw [O6] at I;rw [<- I];congr 1;show iM (zo (owner,done.length)) _=_;show iM (SetTable.layClean.free M owner (SetTable.turns M) (SetTable.bits h % (M + 1)) (SetTable.bits h)) _=_;rw [O];rfl
 obtain ⟨q,e,o⟩:=G hs [] (Array.replicate (M + 1) zl) rfl ⟨by simp,by simp [List.countP_replicate],λi j x h1=>by simp [fZ] at h1,λi x h1=>by simp [fZ] at h1,λx Z=>by simp at Z,λi x h h1=>by simp [fZ] at h1⟩;refine ⟨q,?_,o⟩;unfold SetTable.layClean;rw [<- iN];show Option.map _ (cM _ (zo (_,([]:List Int).length)) hs)=_;rw [e];rfl
theorem Qa5 {l m:List Nat} (h1:l.Nodup) (h2:m.Nodup) (h:∀ a,a∈l <-> a∈m):l.Perm m:=(iO h1 h2).mpr h
theorem Qdb {t:aW} {wanted:Nat} (g:Good L t) (hM:HM M) (hz:SetTable.sizeAbove wanted - 1=M) (a1:hs.length<=M) :
  ∃ t' ,∃ G:List Nat,t.relaid hs.toArray wanted=zo (t',G.toArray)/\G.Perm (bY hs.length)/\t'.mask=M/\HG0 L t' (G.map (λx=>hs.getD x 0)):=by
 obtain ⟨owner,e,o⟩:=Qmb hM hs a1;have O:∀ (l:List Nat) (j x:Nat),(j,x)∈(l.filterMap λj=>(owner.getD j zl).map (j,·)) <-> j∈l/\owner[j]?=zo (zo x):=by
  intro l j x;rw [dO];have gd:owner.getD j zl=(owner[j]?).getD zl:=by simp [dG]
  constructor
  ·rintro ⟨y,hy,Z⟩;cases q:owner.getD y zl with
   | none=>rw [q] at Z; cases Z
   | some v=>
    rw [q] at Z;cases Z;rw [gd] at q;refine ⟨hy,?_⟩;cases z:owner[j]? with
    | none=>rw [z] at q; cases q
    | some u=>rw [z] at q; exact congrArg zo q
  ·rintro ⟨h1,h2⟩;exact ⟨j,h1,by rw [gd,h2]; rfl⟩
 have hx:t.relaid hs.toArray wanted=zo ({ mask:=M,place:=(((bY (M + 1)).filterMap λj=>(owner.getD j zl).map (j,·)).map (·.1)).toArray,dummies:=#[],finger:=t.finger,led:=t.led,moves:=t.movedTo M,plain:=t.plain },(((bY (M + 1)).filterMap λj=>(owner.getD j zl).map (j,·)).map (·.2)).toArray):=by
  unfold SetTable.relaid SetTable.laid;rw [hz,e];rfl
 refine ⟨_,_,hx,?_,rfl,g.relaid hx,?_,?_,?_⟩
 all_goals generalize hl:((bY (M + 1)).filterMap λj=>(owner.getD j zl).map (j,·))=J
 all_goals
  have I:∀ j x,(j,x)∈J <-> owner[j]?=zo (zo x):=λj x=>by
   rw [<- hl,O];refine ⟨λq=>q.2,λq=>⟨?_,q⟩⟩
   have:=(cG.mp q).1;rw [o.sz] at this;exact cA.mpr this
  have pw:J.Pairwise λa b=>a.1 < b.1:=by
   have:=(g.relaid hx).1;unfold Rise at this;dsimp only at this;rw [hl] at this;exact eD.mp this
  have U:(J.map (·.2)).Perm (bY hs.length):=by
   refine Qa5 ?_ List.nodup_range λa=>?_
   ·refine eD.mpr (iu (λ{a b} ha hb hab=>?_) pw);intro z;have h1:=(I a.1 a.2).mp ha;have h2:=(I b.1 b.2).mp hb;rw [z] at h1;have:=o.inj _ _ _ h1 h2;omega
   ·rw [F1,cA];constructor
    ·rintro ⟨⟨j,x⟩,hm,rfl⟩;exact o.lt _ _ ((I j x).mp hm)
    ·intro ha;obtain ⟨j,Y⟩:=o.all a ha;exact ⟨(j,a),(I j a).mpr Y,rfl⟩
 ·exact U
 ·simp only [O1,O7]
 ·intro j Y;have Y:j∈J.map (·.1):=by simpa using Y
  obtain ⟨⟨a,x⟩,hm,rfl⟩:=F1.mp Y;have:=(cG.mp ((I a x).mp hm)).1;rw [o.sz] at this;exact eI this
 ·intro i j h h1 h2;have h1:(J.map (·.1))[i]?=zo j:=by simpa using h1
  rw [D7] at h1;rw [D7,D7] at h2;cases q:J[i]? with
  | none=>rw [q] at h1; cases h1
  | some a=>
   rw [q] at h1 h2;cases h1;cases h2;have hm:=(I a.1 a.2).mp (E6 q);have hk:=o.lt _ _ hm;have he:hs[a.2]?=zo (hs.getD a.2 0):=by rw [E3,O3 hk]; rfl
   refine (o.rch _ _ _ hm he).mono ?_;rintro y ⟨z,hz⟩;show y∈(J.map (·.1)).toArray.toList;exact F1.mpr ⟨(y,z),(I y z).mpr hz,rfl⟩
theorem Qg5 {α:Type} (l:List α):(bY l.length).filterMap (λx=>l[x]?)=l:=by
 induction l with
 | nil=>rfl
 | cons a l q=>
  rw [D4,fN,L0];simp only [List.getElem?_cons_zero,fH];congr 1
theorem Q9r {es:List (Int × aA)} {q:List Nat} (p:q.Perm (bY es.length)) :
  (q.filterMap (λx=>es[x]?)).Perm es/\(q.filterMap (λx=>es[x]?)).map (·.1)=q.map (λx=>(es.map (·.1)).getD x 0):=by
 constructor
 ·have:=p.filterMap (λx=>es[x]?)
  rwa [Qg5] at this
 ·have hm:∀ x∈q,x < es.length:=λx G=>cA.mp (p.mem_iff.mp G)
  clear p
  induction q with
  | nil=>rfl
  | cons x l J=>
   have G:=hm x (by simp);rw [L0,O3 G];simp only [D3];rw [J λy I=>hm y (O4 _ I)]
   congr 1;rw [E3,D7,O3 G];rfl
theorem Qni {n:Nat} (h:SzP M n):(decide (n * 5>=M * 3)=zb->∃ q,SetTable.sizeAbove (SetTable.grown n) - 1=q/\¬ SetTable.sizeAbove (SetTable.grown n) > sizeLine/\HM q/\SzM q n/\n<=q)/\(decide (n * 5>=M * 3)=yo->SzM M n):=by
 unfold SzP at h;constructor
 ·intro z;have z:n * 5>=M * 3:=by simpa using z
  have:(M=7/\n=5)\/(M=31/\n=19):=by omega
  rcases this with ⟨rfl,rfl⟩ | ⟨rfl,rfl⟩
  ·exact ⟨31,by decide +kernel,by decide +kernel,.inr (.inl rfl),.inr (.inl ⟨rfl,by decide⟩),by decide⟩
  ·exact ⟨127,by decide +kernel,by decide +kernel,.inr (.inr rfl),.inr (.inr ⟨rfl,by decide⟩),by decide⟩
 ·intro z;have z:¬ n * 5>=M * 3:=by simpa using z
  unfold SzM;omega
end L2
namespace L2
open PySem PySem.Spec PyProof.Rows SeqAt
variable {b a:aB} {k:HK} {Q:Bool->aC->Prop} {L:Bool} {o:Obj} {es:zAB} {ep:Nat} {ks:List HK} {h:Heap}
variable {prog:aK} {A:aL} {E:zAD} {s:aC}
section
variable {w:aJ}
theorem Qag:∀ (m:Nat) (d:Nat) {A:aL} {s:aC} {k:HK} {v:aA} {Q:Bool->aC->Prop},Dp d k->KIs s.heap k v->(∀ b,Q b s)->aF (aI prog w) A (hashByValue m v) Q E s:=by
 intro m
 induction m with
 | zero=>
  intro d A s k v Q J r q;cases k with
  | int i=>obtain ⟨t,rfl⟩:=r; unfold hashByValue; exact wpAny_pure (q _)
  | str i=>obtain ⟨t,rfl⟩:=r; unfold hashByValue; exact wpAny_pure (q _)
  | tup l=>obtain ⟨a,G,rfl,_⟩:=r; unfold hashByValue; exact wpAny_pure (q _)
 | succ m ih=>
  intro d A s k v Q J r q;cases k with
  | int i=>obtain ⟨t,rfl⟩:=r; unfold hashByValue; exact wpAny_pure (q _)
  | str i=>obtain ⟨t,rfl⟩:=r; unfold hashByValue; exact wpAny_pure (q _)
  | tup ks=>
   obtain ⟨a,G,rfl,⟨o,O,hc,n,hd⟩,hi⟩:=r;have Y:s.TypeIs (.ref a) "tuple" := ⟨o,O,hc⟩;cases d with
   | zero=>exact J.elim
   | succ d=>
    unfold hashByValue;refine aD (wpAny_specialOf Y F.slot_tuple_hash.lookup ?_);dsimp only;refine aD (ar O hd (aD ?_));show aF _ _ (forIn G _ _) _ _ s;rw [<- df];refine wpAny_forIn_list _ (λrest r s'=>s'=s/\∃ l,KIsL s.heap l rest/\∀ k∈l,k∈ks) _ ?_ ?_ _ _ ⟨rfl,ks,hi,λ_ h=>h⟩
    ·rintro v rest r s' ⟨rfl,l,U,I⟩;cases l with
     | nil=>cases U
     | cons k l=>
      obtain ⟨v',r',e,h1,h2⟩:=U;cases e;refine aD (ih d (J k (I k (by simp))) h1 λb=>?_)
      cases b with
      | false=>
       simp only [iP,if_true];refine wpAny_pure ?_
       first | exact wpAny_pure (q _) | exact q _
      | true=>
       simp only [cY,F0,if_false];exact wpAny_pure ⟨rfl,l,h2,λx Z=>I x (O4 _ Z)⟩
    ·rintro ⟨r1,r2⟩ s' ⟨rfl,_⟩;cases r1 with
     | none=>exact wpAny_pure (q _)
     | some b=>exact wpAny_pure (q _)
theorem Q0k:∀ (d:Nat) {A:aL} {s:aC} {k:HK} {v:aA} {Q:Bool->aC->Prop} (m:Nat),d < m->Dp d k->KIs s.heap k v->Q yo s->aF (aI prog w) A (ofAClassStatement m v) Q E s:=by
 intro d
 induction d with
 | zero=>
  intro A s k v Q m hm J r q;cases k with
  | tup l=>exact J.elim
  | int i=>obtain ⟨t,rfl⟩:=r; unfold ofAClassStatement; exact wpAny_pure q
  | str i=>obtain ⟨t,rfl⟩:=r; unfold ofAClassStatement; exact wpAny_pure q
 | succ d ih=>
  intro A s k v Q m hm J r q;cases k with
  | int i=>obtain ⟨t,rfl⟩:=r; unfold ofAClassStatement; exact wpAny_pure q
  | str i=>obtain ⟨t,rfl⟩:=r; unfold ofAClassStatement; exact wpAny_pure q
  | tup ks=>
   obtain ⟨a,I,rfl,⟨o,U,hc,n,hd⟩,hi⟩:=r;have Z:s.TypeIs (.ref a) "tuple" := ⟨o,U,hc⟩;obtain ⟨m,rfl⟩:∃ m',m=m' + 1:=⟨m - 1,by omega⟩;unfold ofAClassStatement;refine aD (bB Z ?_);dsimp only;rw [bT (by decide)];refine aD (wpAny_pure ?_);simp only [cY,F0,if_false];refine aD (ar U hd ?_);dsimp only;refine aD ?_;rw [<- df];refine wpAny_forIn_list _ (λrest r s'=>r.1=zl/\s'=s/\∃ l,KIsL s.heap l rest/\∀ k∈l,k∈ks) _ ?_ ?_ _ _ ⟨rfl,rfl,ks,hi,λ_ h=>h⟩
   ·rintro v rest r s' ⟨O,rfl,l,Y,G⟩;cases l with
    | nil=>cases Y
    | cons k l=>
     obtain ⟨v',r',e,h1,h2⟩:=Y;cases e;refine aD (ih m (by omega) (J k (G k (by simp))) h1 ?_);simp only [F0,if_false];exact wpAny_pure ⟨rfl,rfl,l,h2,λx hx=>G x (O4 _ hx)⟩
   ·rintro ⟨r1,r2⟩ s' ⟨O,rfl,_⟩;simp only at O;subst O;exact wpAny_pure q
theorem Qk7 (I:(nk prog w).is s.heap k b) (l:List aA) (Y:∀ v∈l,∃ c J,v=.ref c/\(nk prog w).is s.heap J c) (q:Q yo s):aF (aI prog w) A (searchCouldBeSeen (.ref b) l) Q E s:=by
 unfold searchCouldBeSeen;refine aD ?_;refine wpAny_forIn_list _ (λrest r s'=>r.1=zl/\s'=s/\∀ v∈rest,∃ c J,v=.ref c/\(nk prog w).is s.heap J c) _ ?_ ?_ _ _ ⟨rfl,rfl,Y⟩
 ·rintro v rest r s' ⟨O,rfl,G⟩;obtain ⟨c,J,rfl,U⟩:=G v (by simp);dsimp only;refine bD (λ_=>wpAny_pure ⟨rfl,rfl,λx I=>G x (O4 _ I)⟩) λ_=>?_
  refine aD ((nk prog w).quiet I ?_);simp only [cY,F0,if_false];refine aD ((nk prog w).quiet U ?_);simp only [cY,F0,if_false];refine aD (Q0k 5 8 (by decide) I.2 I.1 ?_);simp only [F0,if_false];refine aD (Q0k 5 8 (by decide) U.2 U.1 ?_);simp only [F0,if_false];exact wpAny_pure ⟨rfl,rfl,λx I=>G x (O4 _ I)⟩
 ·rintro ⟨r1,Z⟩ s' ⟨O,rfl,_⟩;simp only at O;subst O;exact wpAny_pure q
def ElH (prog:aK) (w:aJ) (B:aB->Prop) (h:Heap) (e:Int × aA) (k:HK):Prop:=∃ b,e.2=.ref b/\(nk prog w).is h k b/\e.1=hkH prog w k/\B b
theorem Qde {t:aW} (g:Good L t) {hashAt:Nat->Int} {h:Int} {N:Nat} (J:Qv t.mask h N∉t.place.toList) (O:∀ m,m < N->Qv t.mask h m∈t.place.toList) {q n:Nat} (h1:n<=N) (h2:N - n < q) {I:Option SetTable.Met} (e:SetTable.probe.go t hashAt h q (pth t.mask h n)=I) :
  (I=zo (.empty (Qv t.mask h N) zl)/\∀ m,n<=m->m < N->∀ i,t.place[i]?=zo (Qv t.mask h m)->hashAt i≠h) \/
  (∃ m i,n<=m/\m < N/\t.place[i]?=zo (Qv t.mask h m)/\hashAt i=h/\I=zo (.candidate (Qv t.mask h m) i (pth t.mask h (m + 1)))/\∀ G,n<=G->G < m->∀ i,t.place[i]?=zo (Qv t.mask h G)->hashAt i≠h):=by
 subst e; exact Qgg g hashAt h J O q n h1 h2
theorem Xf {α β:Type} {F:α->β->Prop}:∀ {l:List α} {ks:List β} {i:Nat} {a:α},aR F l ks->l[i]?=zo a->∃ b,ks[i]?=zo b/\F a b
 | _,_,i,a,.nil,e=>by simp at e
 | _,_,0,a,.cons r t,e=>by simp at e; subst e; exact ⟨_,rfl,r⟩
 | _,_,i + 1,a,.cons r t,e=>by simpa using Xf t (by simpa using e)
theorem U9 {α β:Type} {F:α->β->Prop}:∀ {l:List α} {ks:List β} {i:Nat} {b:β},aR F l ks->ks[i]?=zo b->∃ a,l[i]?=zo a/\F a b
 | _,_,i,b,.nil,e=>by simp at e
 | _,_,0,b,.cons r t,e=>by simp at e; subst e; exact ⟨_,rfl,r⟩
 | _,_,i + 1,b,.cons r t,e=>by simpa using U9 t (by simpa using e)
theorem Qd6 {B:aB->Prop} {t:aW} {ks:List HK} (hu:A.units + 5 < aQ) (hx:(nk prog w).is s.heap k b) (ho:s.heap.get? a=zo o) (hd:o.data=.set es ep t) (Y:HG L t (es.toList.map (·.1)))
  (hp:aR (ElH prog w B s.heap) es.toList ks) (nd:ks.Nodup) {N:Nat} (hN:Qv t.mask (hkH prog w k) N∉t.place.toList) (hl:∀ m,m < N->Qv t.mask (hkH prog w k) m∈t.place.toList) (b6:N<=10 * (t.mask + 12)) {Q:SetFound->aC->Prop}
  (h1:k∉ks->Q (.free (Qv t.mask (hkH prog w k) N) yo) s) (h2:k∈ks->Q (.there zl) s) :
  ∀ (I n:Nat) (st:Option SetTable.Probe),st.getD (t.probeStart (hkH prog w k))=pth t.mask (hkH prog w k) n->n<=N->N - n < I->(∀ i:Nat,ks[i]?=zo k->∃ m,n<=m/\m < N/\t.place[i]?=zo (Qv t.mask (hkH prog w k) m))->aF (aI prog w) A (setSearchFrom a (.ref b) (hkH prog w k) zb I st) Q E s:=by
 have U:t.fits es.size=zb:=by have:=Y.fits; rwa [O1,be] at this
 have b4:t.gaveWay=yo:=by
  have:=Y.sz;unfold SzM at this;unfold SetTable.gaveWay;rcases this with ⟨e,_⟩ | ⟨e,_⟩ | ⟨e,_⟩ <;> rw [e] <;> rfl
 intro I
 induction I with
 | zero=>intro n st _ _ h; omega
 | succ I ih=>
  intro n st b2 hn hf hk;rw [setSearchFrom.eq_2];refine aD (wpAny_setState_of ho hd U ?_);dsimp only;rw [bU (by rw [b4]; exact D2),b2];generalize a9:SetTable.probe t _ _ _=pr;unfold SetTable.probe at a9;rcases Qde Y.good hN hl hn (by unfold SetTable.turns; omega) a9 with ⟨e1,e2⟩ | ⟨m,i,c1,c2,c3,c4,e1,c6⟩
  ·subst e1;dsimp only;refine wpAny_pure (h1 λhm=>?_);obtain ⟨i,hi,ei⟩:=G6 hm;have a6:ks[i]?=zo k:=by rw [O3 hi,ei]
   obtain ⟨m,m1,m2,m3⟩:=hk i a6;obtain ⟨e,Z,c,_,_,hh,_⟩:=U9 hp a6;refine e2 m m1 m2 i m3 ?_;show ((es[i]?).map (·.1)).getD 0=_;rw [<- bh,Z];exact hh
  ·subst e1;dsimp only;have c4:((es[i]?).map (·.1)).getD 0=hkH prog w k:=c4;have a8:i < es.size:=by
    have:=(cG.mp c3).1;rw [Y.len,O1,be] at this;exact this
   have b0:es.toList[i]?=zo es[i]:=by rw [bh,bi a8]
   obtain ⟨k',a4,c,ec,hc,hh,_⟩:=Xf hp b0;have a7:es[i]?=zo (es[i].1,.ref c):=by rw [bi a8,<- ec]
   have go:aF (aI prog w) A
     (match es[i]? with
      | some (a5,y)=>do
       let equal <- aw [y] (eqBool y (.ref b))
       let __x <- setState a
       match __x with
        | (b1,a5,t')=>
         if (zb && equal)=zb then pure (SetFound.there zl)
         else
          match t'.sameMemory t.moves t.mask with
          | some same=>
           have J:=λG=>
            match G with
            | none=>do
             rule "set.search.anew"
             setSearchFrom a (.ref b) (hkH prog w k) zb I zl
            | some i'=>
             if equal=zb then pure (SetFound.there (zo i'))
             else setSearchFrom a (.ref b) (hkH prog w k) zb I (zo (pth t.mask (hkH prog w k) (m + 1)));
           match if same=zb then t'.slot (Qv t.mask (hkH prog w k) m) else SetTable.Slot.empty with
           | SetTable.Slot.live i'=>
            match b1[i']? with
            | some (a5,y')=>do
             let __do_lift <- isSame y' y
             let G <- pure (if __do_lift=zb then zo i' else zl)
             J G
            | none=>do
             let G <- pure zl
             J G
           | x=>do
            let G <- pure zl
            J G
          | x=>unsupported "set.changed-during-lookup:is-the-new-block-at-the-old-address"
      | x=>unsupported "internal:set-entry") Q E s:=by
    rw [a7];dsimp only;refine aD (ak ((nk prog w).eqBool hu hc hx ?_));refine aD (wpAny_setState_of ho hd U ?_);dsimp only
    by_cases q:k'=k
    ·rw [bW q,bT (by decide)];exact wpAny_pure (h2 (by rw [<- q]; exact E6 a4))
    ·rw [bV q,bU (by decide)];have sm:t.sameMemory t.moves t.mask=zo zb:=by unfold SetTable.sameMemory; rw [bT (by simp)]
     rw [sm];dsimp only;rw [bT rfl,X0 Y.good.1 c3];dsimp only;rw [a7];dsimp only;refine aD (wpAny_isSame_ref_self ?_);refine aD (wpAny_pure ?_);rw [bT rfl];dsimp only;rw [bU D2];refine ih (m + 1) _ rfl (by omega) (by omega) λi2 O=>?_
     obtain ⟨m2,a1,a2,a3⟩:=hk i2 O;obtain ⟨e,Z,c',_,_,b3,_⟩:=U9 hp O;have ne:m2≠m:=λz=>by
      subst z;have:=X0 Y.good.1 c3;rw [X0 Y.good.1 a3] at this;cases this;rw [a4] at O;cases O;exact q rfl
     have nl:¬ m2 < m:=λz=>by
      refine c6 m2 a1 z i2 a3 ?_;show ((es[i2]?).map (·.1)).getD 0=_;rw [<- bh,Z];exact b3
     exact ⟨m2,by omega,a2,a3⟩
   cases b5:t.led with
   | true=>simp only [cY,F0,if_false]; exact go
   | false=>
    simp only [iP,if_true];refine aD (Qk7 hx _ (λv hv=>?_) ?_)
    ·obtain ⟨e,Z,rfl⟩:=F1.mp hv;have Z:e∈es:=by
      have:e∈(Array.filter (λx=>x.1 == hkH prog w k) es):=by simpa using Z
      exact (Array.mem_filter.mp this).1
     obtain ⟨k2,_,c2,q1,q2,_⟩:=Ki hp (em.mpr Z);exact ⟨c2,k2,q1,q2⟩
    ·simp only [F0,if_false];exact go
end
variable {B:aB->Prop}
section
variable {w:aJ}
def GH (prog:aK) (w:aJ) (B:aB->Prop) (L:Bool) (h:Heap) (a:aB) (ks:List HK):Prop:=
 ∃ o es ep t,h.get? a=zo o/\o.ExactSet/\o.data=.set es ep t/\(∃ ks',ks'.Perm ks/\aR (ElH prog w B h) es.toList ks')/\ks.Nodup/\HG L t (es.toList.map (·.1))
theorem ElH.keep {h':Heap} (I:∀ a its,IsTup h a its->IsTup h' a its) {e:Int × aA} (x:ElH prog w B h e k):ElH prog w B h' e k:=let ⟨b,G,q,e3,J⟩:=x; ⟨b,G,⟨KIs.keep I 5 q.2 q.1,q.2⟩,e3,J⟩
theorem js {α β:Type} {F G:α->β->Prop} (f:∀ a b,F a b->G a b):∀ {l:List α} {ks:List β},aR F l ks->aR G l ks
 | _,_,.nil=>.nil
 | _,_,.cons r t=>.cons (f _ _ r) (js f t)
theorem GH.at {h':Heap} (g:GH prog w B L h a ks) (k:∀ o,h.get? a=zo o->h'.get? a=zo o) (G:∀ a its,IsTup h a its->IsTup h' a its):GH prog w B L h' a ks:=by
 obtain ⟨o,es,ep,t,h1,h2,I,⟨q,p,r⟩,h5,h6⟩:=g;exact ⟨o,es,ep,t,k o h1,h2,I,⟨q,p,js (λ_ _=>ElH.keep G) r⟩,h5,h6⟩
theorem Q7d {t:aW} (G:h.get? a=zo o) (hd:o.data=.set es ep t) (its:Array aA):¬ IsTup h a its:=λ⟨o',h1,_,n,q⟩=>by
 rw [G] at h1; cases h1; rw [hd] at q; cases q
theorem Q72 {h':Heap} {t:aW} (q:h.get? a=zo o) (hd:o.data=.set es ep t) (G:Heap.SameBut a h h') (b:aB) (its:Array aA) (x:IsTup h b its):IsTup h' b its:=by
 by_cases e:b=a
 ·subst e; exact absurd x (Q7d q hd its)
 ·obtain ⟨o',h1,h2⟩:=x;exact ⟨o',(G.2 b e).trans h1,h2⟩
theorem jb {α β:Type} {F:α->β->Prop} {a:α} {b:β} (r:F a b):∀ {l:List α} {ks:List β} (p:Nat),aR F l ks->aR F (l.take p ++ a :: l.drop p) (ks.take p ++ b :: ks.drop p)
 | _,_,0,h=>by simpa using Paired.cons r h
 | _,_,p + 1,.nil=>by simpa using Paired.cons r .nil
 | _,_,p + 1,.cons q t=>by simpa using Paired.cons q (jb r p t)
theorem Q8r {q:zAB} {t t':aW} {G:List HK} (I:h.get? a=zo o) (O:o.ExactSet) (hd:o.data=.set es ep t) (U:aR (ElH prog w B h) q.toList G) :
  ∃ o',(h.update a (dY q t')).get? a=zo o'/\o'.ExactSet/\o'.data=.set q (ep + 1) t'/\Heap.SameBut a h (h.update a (dY q t'))/\aR (ElH prog w B (h.update a (dY q t'))) q.toList G:=by
 have e:=G8 (dY q t') I (by rw [putSet_of q t' hd]; rfl);rw [putSet_of q t' hd] at e;have J:=Heap.SameBut.update h a (dY q t');exact ⟨_,e,O,rfl,J,js (λ_ _=>ElH.keep (Q72 I hd J)) U⟩
theorem HG0.unplain {t:aW} {hs:List Int} (g:HG0 L t hs):HG0 L { t with plain:=yo } hs:=⟨g.good,g.len,g.le,g.rch⟩
theorem Q6g {L:Bool} {q:zAB} {t t1:aW} {J:List HK} (ho:s.heap.get? a=zo o) (hx:o.ExactSet) (hd:o.data=.set es ep t) (hr:aR (ElH prog w B s.heap) q.toList J) (hn:J.Nodup)
  (Y:HG0 L t1 (q.toList.map (·.1))) (hz:SzP t1.mask q.size) {n:Nat} (en:n=q.size) {Q:Bool->aC->Prop} (h:∀ h',Heap.SameBut a s.heap h'->GH prog w B L h' a J->Q zb { s with heap:=h' }) :
  aF (aI prog w) A (do
    storeSet a q t1
    if (!false && t1.tooFull)=zb then do
        setRelay a (SetTable.grown n)
        pure zb
     else pure zb) Q E s:=by
 have hb:q.size<=sizeLine:=by rw [sizeLine_eq]; unfold SzP at hz; omega
 refine aD (wpAny_storeSet_of ho hd ?_ hb);obtain ⟨o1,e1,x1,d1,Z,r1⟩:=Q8r (t':=t1) ho hx hd hr;have I:t1.fill=q.size:=by
  unfold SetTable.fill;rw [Y.good.2.1,Y.len,O1,be];rfl
 have a2:t1.tooFull=decide (q.size * 5>=t1.mask * 3):=by unfold SetTable.tooFull; rw [I]
 obtain ⟨f1,f2⟩:=Qni hz;have a1:t1.fits q.size=zb:=by
  unfold SetTable.fits;rw [I,Y.len,O1,be];unfold SzP at hz;simp;omega
 rw [a2];cases z:decide (q.size * 5>=t1.mask * 3) with
 | false=>
  rw [bU (by simp)];refine wpAny_pure (h _ Z ⟨o1,q,_,t1,e1,x1,d1,⟨J,cP _,r1⟩,hn,⟨Y,?_⟩⟩);rw [O1,be];exact f2 z
 | true=>
  rw [bT (by simp)];obtain ⟨M',y1,y2,y3,y4,y5⟩:=f1 z;obtain ⟨t2,G,p1,p2,p3,p4⟩:=Qdb (t:=t1) (hs:=q.toList.map (·.1)) (wanted:=SetTable.grown n) Y.good y3 (by rw [en]; exact y1) (by rw [O1,be]; exact y5);rw [O1] at p2;obtain ⟨q1,q2⟩:=Q9r p2;refine aD ?_;unfold setRelay;refine aD (wpAny_setState_of e1 d1 a1 ?_);dsimp only;rw [bU (by rw [en]; exact y2)];have eh:(Array.map (λx=>x.1) q)=(q.toList.map (·.1)).toArray:=by
   apply Array.ext';rw [Array.toList_map]
  rw [eh,p1];refine aD ?_;generalize O:iQ (λx=>q[x]?) G.toArray=U;have e2:U.toList=G.filterMap (λx=>q.toList[x]?):=by
   rw [<- O,Array.toList_filterMap];simp only [bh]
  rw [<- e2] at q1 q2;have hsz:U.size=q.size:=by rw [<- be,q1.length_eq,be]
  show aF _ _ (if (Array.size (iQ (λx=>q[x]?) G.toArray) != q.size)=zb then _ else _) _ _ _;rw [O,bU (by rw [hsz]; simp)];refine wpAny_pure ?_;dsimp only;refine wpAny_storeSet_of e1 d1 ?_ (by rw [hsz]; exact hb);obtain ⟨a3,r2,p5⟩:=Q80 q1 r1;obtain ⟨o2,e3,x3,d3,a4,r3⟩:=Q8r (t':=t2) e1 x1 d1 r2;refine wpAny_pure (h _ (Z.trans a4) ⟨o2,U,_,t2,e3,x3,d3,⟨a3,p5,r3⟩,hn,⟨?_,?_⟩⟩)
  ·rw [q2]; exact p4
  ·rw [O1,be,hsz,p3]; exact y4
theorem Qt0 {Q:Bool->aC->Prop} (hu:A.units + 5 < aQ) (hx:(nk prog w).is s.heap k b) (hB:B b) (g:GH prog w B L s.heap a ks) (b0:ks.length + 1<=76)
  (h:∀ b h',Heap.SameBut a s.heap h'->GH prog w B L h' a (Ja ks k)->Q b { s with heap:=h' }):aF (aI prog w) A (setAddHashed a (.ref b) (hkH prog w k)) Q E s:=by
 obtain ⟨o,es,ep,t,U,I,hd,⟨q,Z,r0⟩,hn,hg⟩:=g;have a8:q.Nodup:=(Z.nodup_iff).mpr hn;have b1:es.size=q.length:=by rw [<- be,Paired.length r0]
 have b2:q.length=ks.length:=Z.length_eq;have O:t.fits es.size=zb:=by have:=hg.fits; rwa [O1,be] at this
 obtain ⟨N,n1,n2,n3⟩:=hg.free (hkH prog w k);unfold setAddHashed;refine ak ?_;rw [setAddHashedIn.eq_def];dsimp only;refine aD (wpAny_setState_of U hd O ?_);dsimp only;rw [bU (by unfold byScan; simp [Value.scannable])];refine aD ?_;unfold setSearch;refine Qd6 hu hx U hd hg r0 a8 n2 n3 n1 (λkm=>?_) (λkm=>?_) 100000 0 zl rfl (F7 _) ?_ λi hi=>?_
 ·dsimp only;refine aD (wpAny_setState_of U hd O ?_);dsimp only;have a5:k∉ks:=λz=>km (Z.mem_iff.mpr z)
  have ea:Ja ks k=ks ++ [k]:=by unfold Ja; rw [bU a5]
  have hr:=jb (F:=ElH prog w B s.heap) (a:=(hkH prog w k,bZ b)) (b:=k) ⟨b,rfl,hx,rfl,hB⟩ (SetTable.below t.place (Qv t.mask (hkH prog w k) N)) r0;rw [<- SetTable.toList_insertAt] at hr;have a3:(q.take (SetTable.below t.place (Qv t.mask (hkH prog w k) N)) ++ k :: q.drop (SetTable.below t.place (Qv t.mask (hkH prog w k) N))).Perm (Ja ks k):=by
   rw [ea];refine List.perm_middle.trans ?_;rw [eJ];exact (Z.cons k).trans (List.perm_append_comm (l₁:=[k]))
  have a1:(Ja ks k).Nodup:=by
   rw [ea];exact cV.mpr ⟨hn,by simp,λx a4 y hy e=>by
    have:y=k:=by simpa using hy
    rw [e,this] at a4; exact a5 a4⟩
  have Y:=a3.nodup_iff.mpr a1;have J:=hg.put n2 n3;have a7:(SetTable.insertAt es (SetTable.below t.place (Qv t.mask (hkH prog w k) N)) (hkH prog w k,bZ b)).toList.map (·.1)=(es.toList.map (·.1)).take (SetTable.below t.place (Qv t.mask (hkH prog w k) N)) ++ hkH prog w k :: (es.toList.map (·.1)).drop (SetTable.below t.place (Qv t.mask (hkH prog w k) N)):=by
   rw [SetTable.toList_insertAt,E4,D3,fb,fc]
  rw [<- a7] at J;have G:(SetTable.insertAt es (SetTable.below t.place (Qv t.mask (hkH prog w k) N)) (hkH prog w k,bZ b)).size=es.size + 1:=by
   rw [<- be,SetTable.toList_insertAt,O6,D4,<- dg,<- O6,eJ,be]
  have hsz:SzP (t.put (Qv t.mask (hkH prog w k) N)).1.mask (SetTable.insertAt es (SetTable.below t.place (Qv t.mask (hkH prog w k) N)) (hkH prog w k,bZ b)).size:=by
   rw [G];show SzP t.mask (es.size + 1);have:=hg.sz;rw [O1,be] at this;unfold SzM at this;unfold SzP;omega
  have fin:∀ h',Heap.SameBut a s.heap h'->GH prog w B L h' a (q.take (SetTable.below t.place (Qv t.mask (hkH prog w k) N)) ++ k :: q.drop (SetTable.below t.place (Qv t.mask (hkH prog w k) N)))->Q zb { s with heap:=h' }:=λh' sb gh=>by
   refine h zb h' sb ?_;obtain ⟨o,es,ep,t,y1,y2,y3,⟨y4,y5,y6⟩,y7,y8⟩:=gh;exact ⟨o,es,ep,t,y1,y2,y3,⟨y4,y5.trans a3,y6⟩,a1,y8⟩
  by_cases zp:t.plain=zb
  ·rw [bT (show (t.put (Qv t.mask (hkH prog w k) N)).1.plain=zb from zp)];refine aD (Qag 8 5 hx.2 hx.1 λbv=>?_);cases bv with
   | true=>
    simp only [if_true];exact Q6g (n:=es.size + 1) U I hd hr Y J hsz G.symm fin
   | false=>
    simp only [F0,if_false];exact Q6g (n:=es.size + 1) U I hd hr Y J.unplain hsz G.symm fin
  ·rw [bU (show ¬ (t.put (Qv t.mask (hkH prog w k) N)).1.plain=zb from zp)];refine aD (wpAny_pure ?_);simp only [if_true];exact Q6g (n:=es.size + 1) U I hd hr Y J hsz G.symm fin
 ·dsimp only;have e:s={ s with heap:=s.heap }:=by cases s; rfl
  rw [e];refine wpAny_pure (h _ s.heap (Heap.SameBut.refl a s.heap) ?_);unfold Ja;rw [bT (Z.mem_iff.mp km)];exact ⟨o,es,ep,t,U,I,hd,⟨q,Z,r0⟩,hn,hg⟩
 ·have:=hg.sz; unfold SzM at this; omega
 ·obtain ⟨e,he,c,e1,e2,e3,_⟩:=U9 r0 hi;have a6:i < t.place.size:=by
   have:=(O2.mp he).1;rw [hg.len,O1]; exact this
  have a2:t.place[i]?=zo t.place[i]:=bi a6;have hh:(es.toList.map (·.1))[i]?=zo (hkH prog w k):=by rw [D7,he,<- e3]; rfl
  obtain ⟨m,m1,m2⟩:=hg.rch i _ _ a2 hh;refine ⟨m,F7 _,?_,by rw [m1]; exact a2⟩;have a9:t.place[i]∈t.place.toList:=by rw [em]; exact Array.getElem_mem a6
  by_cases c1:N < m
  ·exact absurd (m2 N c1) n2
  ·by_cases c2:N=m
   ·subst c2; rw [m1] at n2; exact absurd a9 n2
   ·omega
end
variable {R:Result->aC->Prop}
section
variable {w:aJ}
theorem Q6c {I G:aB} {i:Nat} (x:h.IsTupleIter I G i) {its:Array aA} (y:IsTup h I its):False:=by
 obtain ⟨o,h1,h2,O⟩:=x;obtain ⟨o',q,g2,n,J⟩:=y;rw [h1] at q; cases q;rw [h2] at g2; exact absurd g2 (by decide)
theorem Qd4 {I D:aB} {fp:List aB} {n:Nat} {P:Nat->aA->Prop} {St:Nat->Heap->Prop} {h0:Heap} (hu:A.in1.units + 5 < aQ) (W:Walks prog w A.in1 I fp [I] n P St) (hD:D∉fp) (hI:∀ i h,St i h->∀ its,¬ IsTup h I its) (hn:n=ks.length)
  (hv:∀ i v,P i v->∃ k b,ks[i]?=zo k/\v=.ref b/\(nk prog w).is h0 k b/\B b) (U:ks.length<=76) :
  ∀ (k i:Nat) (s:aC),n - i=k->i<=n->St i s.heap->(∀ a its,IsTup h0 a its->IsTup s.heap a its)->GH prog w B (byT w) s.heap D (Zx (ks.take i)) ->
   (∀ h' Y,GH prog w B (byT w) h' D (Zx ks)->(∀ b o,b∉[D,I]->s.heap.get? b=zo o->h'.get? b=zo o)->R (.ok (.ret .none)) { s with heap:=h',toks:=Y }) ->
   codeAny (aI prog w) A (.builtin "set.update.loop" ⟨[.ref D,.ref I],[]⟩) R s:=by
 have a1:D≠I:=λz=>hD (W.sub D (by simp [z]))
 intro k
 induction k with
 | zero=>
  intro i s hk hi G J g hR;have e:i=n:=by omega
  subst e;refine bC iR ?_;rw [Around.under_plainId fe _];show aF _ A.in1 (ag (.ref I) >>= _) _ _ s;refine aD (W.done s _ _ G λh' Y hm=>?_);show aF _ A.in1 (ret bc) _ _ _;rw [hn,eM] at g;refine wpAny_pure (hR h' Y (g.at (λo q=>hm D o (by simpa using a1) q) λa its x=>?_) λb o a6 q=>hm b o (λz=>a6 (O4 _ z)) q)
  have:a≠I:=λz=>by subst z; exact hI _ _ G its x
  obtain ⟨o',x1,x2⟩:=x;exact ⟨o',hm a o' (by simpa using this) x1,x2⟩
 | succ k ih=>
  intro i s hk hi G J g hR;have a3:i < n:=by omega
  refine bC iR ?_;rw [Around.under_plainId fe _];show aF _ A.in1 (ag (.ref I) >>= _) _ _ s;refine aD (W.item i s _ _ a3 G λv h1 Y hP a2 hm=>?_);have O:∀ a its,IsTup s.heap a its->IsTup h1 a its:=λa its x=>by
   have:a≠I:=λz=>by subst z; exact hI _ _ G its x
   obtain ⟨o',x1,x2⟩:=x;exact ⟨o',hm a o' (by simpa using this) x1,x2⟩
  obtain ⟨x,b,hx,rfl,h2,a4⟩:=hv i v hP;have h2:(nk prog w).is h1 x b:=⟨KIs.keep (λa its y=>O a its (J a its y)) 5 h2.2 h2.1,h2.2⟩;have g1:GH prog w B (byT w) h1 D (Zx (ks.take i)):=g.at (λo q=>hm D o (by simpa using a1) q) O
  show aF _ A.in1 (aw [.ref b] (setAdd D (.ref b)) >>= _) _ _ _;refine aD (ak ?_);unfold setAdd;refine ak (aD ((nk prog w).pyHash (s:={ s with heap:=h1,toks:=Y }) (k:=x) hu h2 ?_));have Z:(Zx (ks.take i)).length + 1<=76:=by
   have:=Vy (ks.take i);have:(ks.take i).length<=i:=by rw [L6]; omega
   omega
  refine Qt0 (s:={ s with heap:=h1,toks:=Y + (nk prog w).draws x }) hu h2 a4 g1 Z λbb h' sb g2=>?_
  have e1:ks.take (i + 1)=ks.take i ++ [x]:=by rw [iS,hx]; rfl
  rw [<- Qdw,<- e1] at g2;obtain ⟨oD,a9,a8,tD,dD,_,a5,_⟩:=g1;refine wpAny_pure ⟨bF fe _,ih (i + 1) _ (by omega) a3 (W.frame _ h1 h' a2 λb U o q=>?_) (λa its y=>Q72 dD a5 sb a its (O a its (J a its y))) g2 λh' a7 g' k'=>hR h' a7 g' λb o U q=>k' b o U ?_⟩
  ·exact (sb.2 b λz=>hD (by rw [<- z]; exact U)).trans q
  ·refine (sb.2 b λz=>U (by simp [z])).trans (hm b o (λz=>U (O4 _ z)) q)
set_option maxHeartbeats 3200000 in
theorem ja {E:zAD} {l:aB} {G:Array aA} {Q:zAD} (hu:A.units + 9 < aQ) (hh:A.handled=zl) (hl:s.heap.IsTuple l G) (hn:G.size=ks.length)
  (hv:∀ (i:Nat) (v:aA),G[i]?=zo v->∃ k b,ks[i]?=zo k/\v=.ref b/\(nk prog w).is s.heap k b/\B b) (hb:ks.length<=76)
  (h:∀ h' I,GH prog w B (byT w) h' s.heap.objs.size (Zx ks)->(∀ b o,s.heap.get? b=zo o->h'.get? b=zo o)->Q (.ref s.heap.objs.size) { s with heap:=h',toks:=I }) :
  aF (aI prog w) A (call (.type "set") [.ref l]) Q E s:=by
 obtain ⟨cc,tl,b4⟩:=F.called_set.mro;have m1:=F.called_set.made;have m2:=F.called_set.sub;refine wpAny_call (codeAny_of_tree ?_);show aF _ _ (callAny (.type "set") _) _ _ _;refine wpAny_pure ⟨Code.quiet_builtin _ (by decide +kernel),bC F.entry_type_call ?_⟩;rw [Around.under_plain (weight_type_call_type "set" [.ref l] []) rfl];have m3:=F.called_set.notType;have m4:=F.called_set.canCreate;have m5:=F.typeCall_set_1 (.ref l)
 repeat (any_goals (first | assumption | wp_step))
 refine bR (Qk3 (.ref l) (E:=E) (Z:=λob s1=>ob=.ref s.heap.objs.size/\s1={ s with heap:=s.heap.push (Zt w) }) ⟨rfl,rfl⟩) λrr s1 q=>?_
 cases rr with
 | error e=>exact q
 | ok fl=>
  cases fl with
  | ret ob=>
   obtain ⟨rfl,rfl⟩:=q;have o1:(s.heap.push (Zt w)).get? s.heap.objs.size=zo (Zt w):=D0 _ rfl;have hT:Shared.TypeIs { s with heap:=s.heap.push (Zt w) } (.ref s.heap.objs.size) "set" := ⟨_,o1,rfl⟩;have n1:=F.called_set.init.lookup;have n2:=F.called_set.init.bind (.ref s.heap.objs.size)
   repeat (any_goals (first | assumption | wp_step))
   refine bR (codeAny_call_builtin (R:=wants (λr s2=>r=.none/\∃ h' I,s2={ s with heap:=h',toks:=I }/\GH prog w B (byT w) h' s.heap.objs.size (Zx ks)/\∀ b o,s.heap.get? b=zo o->h'.get? b=zo o) E) F.called_set.init.plain F.entry_set_init (check_set_init_1 hT ?_)) λr2 s2 q2=>?_
   ·obtain ⟨ol,a6,a5,nl,a4⟩:=hl;obtain ⟨b3,Y,a9,J⟩:=ol;simp only at a5 a4;subst a5; subst a4;have O:(s.heap.push (Zt w)).get? l=zo { cls:=.type "tuple",dict:=Y,data:=.seq G nl,slots:=J }:=O0 _ a6;have a1:=Q1s;have a2:=Q0s;have a3:(bj "tuple" == bj "dict")=yo:=by decide
    have U:(s.heap.push (Zt w)).IsTuple l G:=⟨_,O,rfl,nl,rfl⟩;unfold Zt at o1 hT O U ⊢;unfold Builtin.«set.__init__» noKeywords Builtin.Frozenset.updateFrom;generalize a7:pyIter=PI
    wp_walk
    subst a7;refine bN U ?_;refine aD (wpAny_runValue ?_);have b0:l < s.heap.objs.size:=O9 a6;have b1:l≠(s.heap.push (Zt w)).objs.size:=by rw [F4]; exact D8 (cv b0)
    have b2:s.heap.objs.size≠(s.heap.push (Zt w)).objs.size:=by rw [F4]; exact D8 (dE _)
    have W:=Walks.tuple (prog:=prog) (w:=w) (A:=A.in1.in1.in1) (by simpa using hh) (s.heap.push (Zt w)).objs.size l b1 G;have I:∀ a its,IsTup s.heap a its->IsTup ((s.heap.push (Zt w)).push { cls:=.type "tuple_iterator",data:=.fields #[.ref l,aS 0] }) a its:=λa its ⟨o',x1,x2⟩=>⟨o',O0 _ (O0 _ x1),x2⟩
    unfold Zt at I;refine Qd4 (by show A.units + 1 + 1 + 1 + 5 < aQ; omega) W (by simp only [D5,dJ,or_false,not_or]; exact ⟨b2,M0 b0⟩) (λi h ⟨x,_⟩ its y=>Q6c x y) hn (λi v hP=>hv i v hP) hb G.size 0 _ (by omega) (F7 _) ⟨⟨_,D0 _ rfl,rfl,rfl⟩,U.push _⟩ I ?g0 λh' I g' k'=>?gR
    case g0=>
     exact ⟨_,#[],0,_,O0 _ o1,⟨rfl,rfl,rfl⟩,rfl,⟨[],by simp [Zx],.nil⟩,by simp [Zx],Qie _⟩
    case gR=>
     show aF _ _ _ _ _ _;refine wpAny_pure ?_;show aF _ _ (ret bc) _ _ _;refine wpAny_pure ⟨rfl,h',I,rfl,g',λb o e=>?_⟩;have c0:=O9 e;refine k' b o ?_ (O0 _ (O0 _ e));simp only [D5,dJ,or_false,not_or];exact ⟨D8 c0,D8 (by rw [F4]; exact cv c0)⟩
   ·cases r2 with
    | error e=>exact q2
    | ok a8=>
     cases a8 with
     | ret r=>
      obtain ⟨rfl,h',I,rfl,g',k'⟩:=q2
      repeat (any_goals (first | assumption | wp_step))
      exact h h' I g' k'
     | _=>exact q2.elim
  | _=>exact q.elim
end
end L2
namespace L2
open PySem PySem.Spec PyProof.Rows PySem.W
variable {h:Heap}
variable {prog:aK} {A:aL} {E:zAD} {s:aC}
section
variable {w:aJ}
def dQ:Int × Str:=(0,ca)
inductive PrsAre (h:Heap):List aA->List (Int × Str)->Prop
 | nil:PrsAre h [] []
 | cons {a:aB} {o:Obj} {x:Int} {y:Str} {t u:Tok} {n:Nat} {vs:List aA} {nss:List (Int × Str)} (ho:h.get? a=zo o) (hc:o.cls=.type "tuple") (hd:o.data=.seq #[.int x t,.str y u] n) (r:PrsAre h vs nss):PrsAre h (.ref a :: vs) ((x,y) :: nss)
theorem PrsAre.keep {h':Heap} (k:∀ b o,h.get? b=zo o->h'.get? b=zo o):∀ {vs:List aA} {nss:List (Int × Str)},PrsAre h vs nss->PrsAre h' vs nss
 | _,_,.nil=>.nil
 | _,_,.cons q G hd r=>.cons (k _ _ q) G hd (r.keep k)
theorem PrsAre.keepT {h':Heap} (k:∀ b o,o.cls=.type "tuple" -> h.get? b=zo o->h'.get? b=zo o):∀ {vs:List aA} {nss:List (Int × Str)},PrsAre h vs nss->PrsAre h' vs nss
 | _,_,.nil=>.nil
 | _,_,.cons G q hd r=>.cons (k _ _ q G) q hd (r.keepT k)
theorem PrsAre.length :∀ {vs:List aA} {nss:List (Int × Str)},PrsAre h vs nss->vs.length=nss.length
 | _,_,.nil=>rfl
 | _,_,.cons _ _ _ r=>by rw [D4,D4,r.length]
theorem PrsAre.at {h:Heap}:∀ {vs:List aA} {nss:List (Int × Str)},PrsAre h vs nss->∀ i,i < vs.length->∃ a o t u n,vs.getD i bc=.ref a/\h.get? a=zo o/\o.data=.seq #[.int (nss.getD i dQ).1 t,.str (nss.getD i dQ).2 u] n
 | _,_,.nil,i,hi=>by simp at hi
 | _,_,.cons q J hd r,0,_=>⟨_,_,_,_,_,rfl,q,hd⟩
 | _,_,.cons q J hd r,i + 1,G=>by
  obtain ⟨a,o,t,u,n,h1,h2,I⟩:=r.at i (by simpa using G);exact ⟨a,o,t,u,n,by simpa using h1,h2,by simpa using I⟩
theorem PrsAre.firsts {M:Model} :∀ {vs:List aA} {nss:List (Int × Str)},PrsAre h vs nss->∃ fs,KatTups h vs fs/\fs.length=vs.length/\∀ v∈fs,Looks M h (typeOf v) (.type "int")
 | _,_,.nil=>⟨[],.nil,rfl,λv q=>by cases q⟩
 | _,_,.cons (x:=x0) (t:=t) G J hd r=>by
  obtain ⟨fs,h1,h2,I⟩:=r.firsts (M:=M);refine ⟨.int x0 t :: fs,.cons G J hd rfl h1,by simp [h2],λv q=>?_⟩;rcases D5.mp q with rfl | q
  ·exact Looks.of_pure rfl
  ·exact I v q
def Vq (a b:Str):Bool:=decide (a.cps.toList < b.cps.toList)
def Zh (a b:Int × Str):Bool:=if a.1=b.1 then (if a.2=b.2 then yo else Vq a.2 b.2) else decide (a.1 < b.1)
theorem Qhi (b:Bool) {Q:Bool->aC->Prop} {p q:Int × Str} {t t' u I:Tok} (h:Q (Zh p q) s):KatLex prog w A b yo Q ([.int p.1 t,.str p.2 u].zip [.int q.1 t',.str q.2 I]) 0 s:=by
 rw [dj];refine kat_cons (wpAny_eqBool_int ?_);unfold Zh at h
 by_cases z:p.1=q.1
 ·rw [bT z] at h;rw [z,beq_self_eq_true];refine kat_yes ?_;rw [dj];refine kat_cons (wpAny_eqBool_str ?_)
  by_cases y:p.2=q.2
  ·rw [bT y] at h;rw [bW y];refine kat_yes ?_;exact h
  ·rw [bU y] at h;rw [bV y];refine kat_no ?_;cases G:b && (0 + 1 == 0) with
   | true=>cases b <;> simp at G
   | false=>exact kat_one _ _ (lt_str h)
 ·rw [bU z] at h;rw [beq_eq_false_iff_ne.mpr z];refine kat_no ?_;cases b && 0 == 0 with
  | true=>exact oneLt_int h
  | false=>exact kat_one _ _ (lt_int h)
theorem Qn4 (a:List Nat):¬ a < a:=List.lt_irrefl a
def Vx (nss:List (Int × Str)) (i:Nat):Nat:=(nss.filter λms=>Zh ms (nss.getD i dQ)).length
theorem Qbd {a b:Str} (h:a.cps.toList=b.cps.toList):a=b:=by cases a; cases b; rw [Str.mk.injEq]; exact iT.mp h
theorem Q2v (a:Int × Str):Zh a a=yo:=by unfold Zh; rw [bT rfl,bT rfl]
theorem Q74 {a b c:Str} (h1:Vq a b=zb) (h2:Vq b c=zb):Vq a c=zb:=by
 unfold Vq at*;exact bW (List.lt_trans (of_decide_eq_true h1) (of_decide_eq_true h2))
theorem Qf8 {a b:Str} (h:Vq a b=zb):a≠b:=λe=>by subst e; exact Qn4 _ (of_decide_eq_true h)
theorem Q59 {a b:List Nat} (h:¬ b < a):a<=b:=h
theorem Qd1 {a b:Str} (h:¬ a=b):Vq a b=zb\/Vq b a=zb:=by
 unfold Vq;have:¬ a.cps.toList=b.cps.toList:=λe=>h (Qbd e)
 by_cases z:a.cps.toList < b.cps.toList
 ·exact .inl (bW z)
 ·by_cases q:b.cps.toList < a.cps.toList
  ·exact .inr (bW q)
  ·exact absurd (List.le_antisymm (Q59 q) (Q59 z)) this
theorem lexQ_is {a b:Int × Str}:Zh a b=zb <-> a.1 < b.1\/a.1=b.1/\Vq a.2 b.2=zb:=by
 unfold Zh
 by_cases z:a.1=b.1
 ·rw [bT z]
  by_cases y:a.2=b.2
  ·rw [bT y];constructor
   ·intro h; cases h
   ·rintro (h | ⟨_,h⟩)
    ·omega
    ·exact absurd y (Qf8 h)
  ·rw [bU y];exact ⟨λh=>.inr ⟨z,h⟩,λh=>h.elim (λh=>by omega) (·.2)⟩
 ·rw [bU z];simp [z]
theorem jz {a b c:Int × Str} (h1:Zh a b=zb) (h2:Zh b c=zb):Zh a c=zb:=by
 rw [lexQ_is] at*;rcases h1 with h1 | ⟨h1,q⟩ <;> rcases h2 with h2 | ⟨h2,g2⟩
 ·left; omega
 ·left; omega
 ·left; omega
 ·exact .inr ⟨by omega,Q74 q g2⟩
theorem Q2u {a b:Int × Str} (h1:Zh a b=yo) (h2:Zh b a=yo):a=b:=by
 have n1:¬ (a.1 < b.1\/a.1=b.1/\Vq a.2 b.2=zb):=λz=>by rw [lexQ_is.mpr z] at h1; cases h1
 have G:¬ (b.1 < a.1\/b.1=a.1/\Vq b.2 a.2=zb):=λz=>by rw [lexQ_is.mpr z] at h2; cases h2
 have e:a.1=b.1:=by
  by_cases q:a.1 < b.1
  ·exact absurd (.inl q) n1
  ·by_cases I:b.1 < a.1
   ·exact absurd (.inl I) G
   ·omega
 by_cases y:a.2=b.2
 ·exact dP e y
 ·rcases Qd1 y with z | z
  ·exact absurd (.inr ⟨e,z⟩) n1
  ·exact absurd (.inr ⟨e.symm,z⟩) G
theorem Q7t {nss:List (Int × Str)} {i j:Nat} (hi:i < nss.length) (G:j < nss.length):cR (Vx nss) i j=Zh (nss.getD i dQ) (nss.getD j dQ):=by
 have mem:∀ k,k < nss.length->nss.getD k dQ∈nss:=λk J=>by
  rw [E3,O3 J]; exact cJ J
 unfold cR;have q:∀ {i j:Nat},i < nss.length->j < nss.length->Zh (nss.getD i dQ) (nss.getD j dQ)=zb->Vx nss i < Vx nss j:=λ{i j} hi G h=>
  jh (λx _ O=>jz O h) ⟨nss.getD i dQ,mem i hi,Q2v _,h⟩
 cases z:Zh (nss.getD i dQ) (nss.getD j dQ) with
 | true=>exact bW (q hi G z)
 | false=>
  refine bV ?_;cases I:Zh (nss.getD j dQ) (nss.getD i dQ) with
  | true=>have:=q G hi I; omega
  | false=>
   have e:=Q2u z I;unfold Vx;rw [e];exact L3 _
theorem Q7c {a:aB} {vs:List aA} {nss:List (Int × Str)} {n:Nat} {P:PySem.Fin->aC->Prop} (ho:s.heap.get? a=zo (seqObj "list" vs.toArray n)) (hT:PrsAre s.heap vs nss) (a9:vs.length < 64)
  (h:∀ (p:List Nat) (h':Heap) (k:Nat),p.Perm (bY vs.length)->(∀ i,1<=i->i < vs.length->Zh (nss.getD (p.getD i 0) dQ) (nss.getD (p.getD (i - 1) 0) dQ)=yo)->h'.get? a=zo (seqObj "list" (cH (p.map λi=>vs.getD i bc)) k)->(∀ b o,b≠a->s.heap.get? b=zo o->h'.get? b=zo o)->P (.done (.ret .none)) { s with heap:=h' }) :
  aF (aI prog w) A (Builtin.«list.sort» ⟨[.ref a],[]⟩) P E s:=by
 have ha:a < s.heap.objs.size:=O9 ho;obtain ⟨e1,a7⟩:∃ e1,(s.heap.update a (bo λ_=>(#[]:Array aA))).get? a=zo (seqObj "list" #[] e1):=⟨_,get?_update_seq ho λ_=>#[]⟩
 have J:∀ b o,b≠a->s.heap.get? b=zo o->(((s.heap.update a (bo λ_=>(#[]:Array aA))).push (seqObj "tuple" vs.toArray 0)).push (seqObj "list" #[] 0)).get? b=zo o:=λb o hb e=>
  O0 _ (O0 _ (by rw [Heap.get?_update_ne _ _ _ _ hb]; exact e))
 have a5:(((s.heap.update a (bo λ_=>(#[]:Array aA))).push (seqObj "tuple" vs.toArray 0)).push (seqObj "list" #[] 0)).get? a=zo (seqObj "list" #[] e1):=O0 _ (O0 _ a7)
 rw [list_sort_plain];refine aD (listItems_at ho rfl ?_);refine aD (listUpdate_at ho rfl ?_ (by rw [O7,sizeLine_eq]; omega) (F7 _));refine aD (seqEpoch_at a7 rfl ?_);refine aD (wpAny_newTuple ?_ (by show vs.length<=_; rw [sizeLine_eq]; omega));refine aD (wpAny_newList ?_ (F7 _));refine ak ?_;show aF (aI prog w) A _ P E { s with heap:=((s.heap.update a (bo λ_=>(#[]:Array aA))).push (seqObj "tuple" vs.toArray 0)).push (seqObj "list" #[] 0) }
 dsimp only;generalize hH:((s.heap.update a (bo λ_=>(#[]:Array aA))).push (seqObj "tuple" vs.toArray 0)).push (seqObj "list" #[] 0)=U at*
 have fin:∀ (st:SortSt) (p:List Nat),p.Perm (bY vs.length)->(arrOf st).map (·.2)=cH (p.map λi=>vs.getD i bc)->failedOf st=zl->(∀ i,1<=i->i < vs.length->Zh (nss.getD (p.getD i 0) dQ) (nss.getD (p.getD (i - 1) 0) dQ)=yo) ->
   aF (aI prog w) A (do
    let O:=(arrOf st).map (·.2)
    let I:=(<- seqEpoch a) != e1
    Builtin.List.listUpdate (.ref a) λ_=>O
    if let zo e:=failedOf st then rule "list.sort.comparison-raised"; throw e
    if I then rule "list.sort.modified"; raiseError "ValueError" "list modified during sort"
    ret .none) P E { s with heap:=U }:=λst p hp b3 hf hs=>by
  dsimp only;have hl:(cH (p.map λi=>vs.getD i bc)).size=vs.length:=by rw [O7,O1,hp.length_eq,F2]
  obtain ⟨c2,b0⟩:∃ c2,(U.update a (bo λ_=>cH (p.map λi=>vs.getD i bc))).get? a=zo (seqObj "list" (cH (p.map λi=>vs.getD i bc)) c2):=⟨_,get?_update_seq a5 λ_=>cH (p.map λi=>vs.getD i bc)⟩
  rw [b3,hf];refine aD (seqEpoch_at a5 rfl ?_);refine aD (listUpdate_at a5 rfl ?_ (F7 _) (E1 (dn hl) (by rw [sizeLine_eq]; omega)));simp only [bne_self_eq_false,F0,if_false];exact wpAny_pure (h p _ c2 hp hs b0 λb o hb e=>by rw [Heap.get?_update_ne _ _ _ _ hb]; exact J b o hb e)
 by_cases h2:vs.toArray.size < 2
 ·rw [bT h2,bT h2];refine aD (wpAny_pure ?_);rw [StateT.run_pure];refine aD (wpAny_pure ?_);refine fin (SortSt.mk' general' (vs.toArray.zip vs.toArray) #[] 7 zl) (bY vs.length) (cP _) ?_ rfl (λi g1 g2=>?_)
  ·show (vs.toArray.zip vs.toArray).map (·.2)=_;apply iT.mp;apply cU;intro i
   by_cases z:i < vs.length
   ·simp [z]
   ·simp [z]
  ·rw [O7] at h2; omega
 ·rw [bU h2,bU h2];rw [O7] at h2;have Z:PrsAre U vs nss:=hT.keepT λb o hc e=>J b o (λz=>by
   rw [z,ho] at e;have e:=bn e;rw [<- e] at hc;exact absurd (show bj "list" = .type "tuple" from hc) (by decide)) e
  obtain ⟨fs,k1,k2,k3⟩:=Z.firsts (M:=aI prog w);refine aD (kat_kind (s:={ s with heap:=U }) (T:=.type "int") k1 (by omega) k3 (by decide) ?_);have a8:∀ i j (C:Bool->aC->Prop),i < vs.length->j < vs.length->C (cR (Vx nss) i j) { s with heap:=U }->kas_ask prog w A (tuples' (bj "int" != bj "tuple")) vs i j C { s with heap:=U }:=λi j C hi hj q=>by
   obtain ⟨ai,oi,ti,ui,ni,e1,e2,e3⟩:=Z.at i hi;obtain ⟨aj,oj,tj,uj,nj,f1,f2,f3⟩:=Z.at j hj;rw [Q7t (by rw [<- hT.length]; exact hi) (by rw [<- hT.length]; exact hj)] at q;unfold kas_ask;rw [e1,f1];exact kat_lt e2 e3 f2 f3 (Qhi _ q)
  have Y:=Qjv (r:=Vx nss) (n:=vs.length) (by omega);refine aD (av (kat_run (vs:=vs) (ks:=vs) (Q:=λst' s'=>s'={ s with heap:=U }/\arrOf st'=(evT (cR (Vx nss)) (kas_sort vs.length)).map (kas_item (vs.toArray.zip vs.toArray))/\failedOf st'=zl)
   (G:=λp s'=>s'={ s with heap:=U }/\p=evT (cR (Vx nss)) (kas_sort vs.length)) rfl (by omega) a9 (λp' st' s' a1 a2 a3 a4=>⟨a4.1,by rw [<- a4.2]; exact a2,a3⟩) (Q8n a8 _ (λ_=>True) _ (Qeu (by omega)) ⟨rfl,rfl⟩)) ?_ λ_ _ e=>e)
  rintro ⟨⟨⟩,st'⟩ s' ⟨rfl,b4,hf⟩;have b1:(evT (cR (Vx nss)) (kas_sort vs.length)).toList.Perm (bY vs.length):=by
   have:=gq.mp Y.2;simpa using this
  refine fin st' _ b1 (kat_snds rfl b4) hf λi g1 g2=>?_
  have hr:=Y.1 i g1 g2;have a6:∀ k,(evT (cR (Vx nss)) (kas_sort vs.length)).toList.getD k 0 < vs.length:=λk=>by
   have b2:AL vs.length (evT (cR (Vx nss)) (kas_sort vs.length)):=AL.perm (p:=cH (bY vs.length)) ⟨by omega,λx hx=>by simpa using hx⟩ Y.2;have:=b2.get k;rw [dG,<- bh] at this;rw [E3]; exact this
  have hg:∀ k,(evT (cR (Vx nss)) (kas_sort vs.length)).getD k 0=(evT (cR (Vx nss)) (kas_sort vs.length)).toList.getD k 0:=λk=>by
   rw [dG,<- bh,E3]
  unfold rk at hr;rw [hg,hg] at hr;have:=Q7t (nss:=nss) (i:=(evT (cR (Vx nss)) (kas_sort vs.length)).toList.getD i 0) (j:=(evT (cR (Vx nss)) (kas_sort vs.length)).toList.getD (i - 1) 0) (by rw [<- hT.length]; exact a6 _) (by rw [<- hT.length]; exact a6 _);rw [<- this];exact bV (gX.mpr hr)
theorem Q7b {d:aB} {es:Array DictEntry} {ep:Nat} {nss:List (Int × Str)} {Q:zAD} (lo:(d == au)=yo) (hh:A.handled=zl) (hm:RawD s.heap d es ep) (Y:PrsAre s.heap (es.toList.map (·.key)) nss) (O:(es.toList.map (·.key)).length < 64)
  (h:∀ (p:List Nat) (h':Heap) (D k Z:Nat),p.Perm (bY (es.toList.map (·.key)).length)->(∀ i,1<=i->i < (es.toList.map (·.key)).length->Zh (nss.getD (p.getD i 0) dQ) (nss.getD (p.getD (i - 1) 0) dQ)=yo)->s.heap.objs.size<=D->h'.get? D=zo (seqObj "list" (cH (p.map λi=>(es.toList.map (·.key)).getD i bc)) k)->(∀ b o,s.heap.get? b=zo o->h'.get? b=zo o)->Q (.ref D) { s with heap:=h',toks:=Z }) :
  aF (aI prog w) A (call (.builtin "sorted") [.ref d]) Q E s:=by
 have hsz:es.size<=sizeLine:=by
  have:(es.toList.map (·.key)).length=es.size:=by simp
  rw [sizeLine_eq]; omega
 refine Calls.call_function_entry kind_sorted plain_sorted entry_sorted (args_sorted1 _) ?_;unfold Builtin.«sorted»;refine aD (m:=checkCount "sorted" 1 1 _) (wpAny_pure ?_);refine aD (Q95 lo (by simpa using hh) hm hsz λh1 I G U=>?_)
 refine aD (wpAny_newList ?_ (by rw [sizeLine_eq]; omega));generalize es.toList.map (·.key)=vs at*;have J:(h1.push (seqObj "list" vs.toArray 0)).get? h1.objs.size=zo (seqObj "list" vs.toArray 0):=D0 _ rfl;have keep:∀ b o,s.heap.get? b=zo o->(h1.push (seqObj "list" vs.toArray 0)).get? b=zo o:=λb o q=>O0 _ (G b o q)
 show aF _ _ _ _ _ { s with heap:=h1.push (seqObj "list" vs.toArray 0),toks:=I };refine aD (ak (ah slot_list_sort ⟨_,J,rfl⟩ entry_list_sort ?body (args_list_sort _)))
 case body=>
  refine Q7c (s:={ s with heap:=h1.push (seqObj "list" vs.toArray 0),toks:=I }) J (Y.keep keep) O λp h' k a1 a2 a3 a4=>?_
  exact ⟨_,rfl,wpAny_pure ⟨_,rfl,h p h' _ k I a1 a2 U a3 λb o e=>a4 b o (D8 (O9 (G b o e))) (keep b o e)⟩⟩
end
def Qaf (a:Int × Str):List (Int × Str)->List (Int × Str)
 | []=>[a]
 | b :: r=>if Zh b a=zb then b :: Qaf a r else a :: b :: r
def U6:List (Int × Str)->List (Int × Str)
 | []=>[]
 | a :: r=>Qaf a (U6 r)
def leQ (a b:Int × Str):Prop:=Zh b a=yo
theorem Q1d (a b:Int × Str):leQ a b <-> a=b\/Zh a b=zb:=by
 unfold leQ;constructor
 ·intro h;cases z:Zh a b with
  | true=>exact .inr rfl
  | false=>exact .inl (Q2u z h)
 ·rintro (rfl | h)
  ·exact Q2v a
  ·cases z:Zh b a with
   | false=>rfl
   | true=>have:=jz h z; rw [Q2v] at this; cases this
theorem Q4t {a b c:Int × Str} (h1:leQ a b) (h2:leQ b c):leQ a c:=by
 rw [Q1d] at*;rcases h1 with rfl | h1
 ·exact h2
 ·rcases h2 with rfl | h2
  ·exact .inr h1
  ·exact .inr (jz h1 h2)
theorem Qhk {a b:Int × Str} (h1:leQ a b) (h2:leQ b a):a=b:=Q2u h2 h1
theorem Q05 (a:Int × Str):∀ l,(Qaf a l).Perm (a :: l)
 | []=>cP _
 | b :: r=>by
  rw [Qaf]
  split
  ·exact ((Q05 a r).cons b).trans (eE a b r)
  ·exact cP _
theorem Wh:∀ l,(U6 l).Perm l
 | []=>cP _
 | a :: r=>(Q05 a (U6 r)).trans ((Wh r).cons a)
theorem Q0j {a:Int × Str}:∀ {l:List (Int × Str)},l.Pairwise leQ->(Qaf a l).Pairwise leQ
 | [],_=>by rw [Qaf]; exact List.pairwise_singleton _ _
 | b :: r,h=>by
  obtain ⟨h1,h2⟩:=L4.mp h;rw [Qaf]
  split
  ·rename_i q;refine L4.mpr ⟨λx G=>?_,Q0j h2⟩;rcases D5.mp ((Q05 a r).mem_iff.mp G) with rfl | G
   ·exact (Q1d b x).mpr (.inr q)
   ·exact h1 x G
  ·rename_i q;have I:leQ a b:=by unfold leQ; simpa using q
   refine L4.mpr ⟨λx G=>?_,h⟩;rcases D5.mp G with rfl | G
   ·exact I
   ·exact Q4t I (h1 x G)
theorem W0:∀ l,(U6 l).Pairwise leQ
 | []=>fK
 | a :: r=>Q0j (W0 r)
theorem Xb:∀ {a b:List (Int × Str)},a.Perm b->a.Pairwise leQ->b.Pairwise leQ->a=b
 | [],b,h,_,_=>(List.nil_perm.mp h).symm
 | x :: a,[],h,_,_=>absurd (List.perm_nil.mp h) (by simp)
 | x :: a,y :: b,h,G,Y=>by
  obtain ⟨Z,U⟩:=L4.mp G;obtain ⟨I,q⟩:=L4.mp Y;have e:x=y:=by
   rcases D5.mp (h.mem_iff.mp (F3 (a:=x) (l:=a))) with e | J
   ·exact e
   ·rcases D5.mp (h.mem_iff.mpr (F3 (a:=y) (l:=b))) with e | O
    ·exact e.symm
    ·exact Qhk (Z y O) (I x J)
  subst e;rw [Xb (iy h) U q]
theorem Q2b {l:List (Int × Str)} (h:∀ i,1<=i->i < l.length->Zh (l.getD i dQ) (l.getD (i - 1) dQ)=yo):l.Pairwise leQ:=by
 rw [eC];have g:∀ k (G:k < l.length),l.getD k dQ=l[k]:=λk G=>by rw [E3,O3 G]; rfl
 have q:∀ d i (hi:i + d < l.length),leQ (l.getD i dQ) (l.getD (i + d) dQ):=by
  intro d
  induction d with
  | zero=>intro i hi; exact (Q1d _ _).mpr (.inl rfl)
  | succ d J=>
   intro i hi;have h1:=J i (by omega);have h2:=h (i + d + 1) (by omega) (by omega);rw [fR] at h2;exact Q4t h1 h2
 intro i j hi O I;have:=q (j - i) i (by omega);rw [show i + (j - i)=j by omega,g i hi,g j O] at this;exact this
theorem Q1v {nss:List (Int × Str)} {p:List Nat} (G:p.Perm (bY nss.length)) (h:∀ i,1<=i->i < nss.length->Zh (nss.getD (p.getD i 0) dQ) (nss.getD (p.getD (i - 1) 0) dQ)=yo):p.map (λi=>nss.getD i dQ)=U6 nss:=by
 have Y:p.length=nss.length:=by rw [G.length_eq,F2]
 have J:(bY nss.length).map (λi=>nss.getD i dQ)=nss:=by
  apply cU;intro i
  by_cases z:i < nss.length
  ·simp [z]
  ·simp [z]
 have O:(p.map λi=>nss.getD i dQ).Perm nss:=by
  have:=G.map (λi=>nss.getD i dQ)
  rwa [J] at this
 have I:∀ k,k < p.length->(p.map λi=>nss.getD i dQ).getD k dQ=nss.getD (p.getD k 0) dQ:=λk q=>by
  rw [E3,D7,O3 q,E3 (l:=p),O3 q];rfl
 refine Xb (O.trans (Wh nss).symm) (Q2b λi U g2=>?_) (W0 nss);rw [O1] at g2;rw [I i g2,I (i - 1) (by omega)];exact h i U (by omega)
theorem Q7x {P:aK} {w:aJ} {H:Hp} {h:Heap} (ok:HOk P w H h):∀ {q:List (HK × V)} {I:List aB} {nss:List (Int × Str)},aR (λ(p:HK × V) (b:aB)=>KR H p.1 b) q I->aR (λ(p:HK × V) (ns:Int × Str)=>p.1=.tup [.int ns.1,.str ns.2]) q nss->PrsAre h (I.map bZ) nss/\aR (λ(v:V) (ns:Int × Str)=>∃ b,v=.ref b/\H b=zo (.tup [.int ns.1,.str ns.2])) (I.map V.ref) nss
 | [],_,_,.nil,.nil=>⟨.nil,.nil⟩
 | p :: q,a :: I,ns :: nss,.cons J t,.cons hn u=>by
  obtain ⟨r1,Z⟩:=Q7x ok t u;rw [hn] at J;obtain ⟨⟨b,vs,e,O,v1,q1,U,k1,v2,q2,Y,k2,k3⟩,_⟩:=J;cases e;cases k1; cases k2; cases k3; subst Y; subst U;obtain ⟨_,a1,G,o,ho,hc,n,hd⟩:=ok a _ O;refine ⟨?_,.cons ⟨a,rfl,O⟩ Z⟩;cases G with
  | cons x1 G=>
   cases G with
   | cons x2 G=>
    cases G;obtain ⟨t1,rfl⟩:=x1;obtain ⟨t2,rfl⟩:=x2;exact .cons ho hc hd r1
variable {X:Cx}
theorem Q46 (a8:X.calm=zb):Wg X (.builtin "sorted") (λxs H Q=>∃ a,∃ G:List (HK × V),∃ nss:List (Int × Str),xs=[.ref a]/\H a=zo (.dT G)/\G.length < 64/\aR (λ(p:HK × V) (ns:Int × Str)=>p.1=.tup [.int ns.1,.str ns.2]) G nss /\
  ∀ d (J:List Nat) (vs:List V),H d=zl->aR (λ(v:V) (ns:Int × Str)=>∃ b,v=.ref b/\H b=zo (.tup [.int ns.1,.str ns.2])) vs nss->J.Perm (bY nss.length)->J.map (λi=>nss.getD i dQ)=U6 nss->Q (.ref d) (upd H d (.lst (J.map λi=>vs.getD i .non)))):=by
 intro pins s σ H xs us Q I r h;obtain ⟨a,G,nss,rfl,ea,a9,hp,q⟩:=h;obtain ⟨u,rfl,rx⟩:=U5 r;cases rx;obtain ⟨z,hs,es,ep,O,hr,hk,Y⟩:=Qap I.hok ea;obtain ⟨T,a6⟩:=Q7x I.hok Y hp;have l1:G.length=O.length:=Paired.length Y;have l2:G.length=nss.length:=Paired.length hp;refine Q7b hs (I.ok.hd a8) hr (by rw [hk]; exact T) (by rw [hk,O1]; omega) λJ h' D k tk U a2 a3 a4 a5=>?_
 rw [hk] at U a2 a4;rw [O1] at U a2;have e:=Q1v (nss:=nss) (p:=J) (by rw [<- l2,l1]; exact U) (λi g1 g2=>a2 i g1 (by omega))
 have b0:J.length=O.length:=by rw [U.length_eq,F2]
 have hv:Vals (J.map λi=>(O.map V.ref).getD i .non) (J.map λi=>(O.map bZ).getD i bc):=by
  have a7:∀ l:List Nat,(∀ x∈l,x < O.length)->Vals (l.map λi=>(O.map V.ref).getD i .non) (l.map λi=>(O.map bZ).getD i bc):=by
   intro l
   induction l with
   | nil=>intro _; exact .nil
   | cons x l ih=>
    intro hl;have Z:=hl x (by simp);refine .cons ?_ (ih λy hy=>hl y (O4 _ hy))
    show RelV ((O.map V.ref).getD x .non) ((O.map bZ).getD x bc);rw [E3,D7,O3 Z,E3,D7,O3 Z];rfl
  exact a7 J λx Z=>by have:=U.mem_iff.mp Z; simpa using this
 exact ⟨.ref D,_,I.laid (t':=tk) (o:=.lst (J.map λi=>(O.map V.ref).getD i .non)) a5 a3 ⟨by rw [O1]; rw [sizeLine_eq] at*; omega,_,k,hv,a4⟩,rfl,q D J _ (I.hok.fresh a3) a6 (by rw [<- l2,l1]; exact U) e⟩
end L2
namespace L2
open PySem PySem.Spec PyProof.Rows SeqAt
variable {prog:aK} {A:aL} {R:Result->aC->Prop}
section
variable {w:aJ}
def Jm (xs ps:List (HK × aB × aA)):List (HK × aB × aA):=ps.foldl (λacc p=>storedH acc p.1 p.2.1 p.2.2) xs
theorem Q75 (xs:List (HK × aB × aA)) (k:HK) (a:aB) (v:aA):(storedH xs k a v).length<=xs.length + 1:=by
 unfold storedH
 split <;> simp
theorem Q1t (xs:List (HK × aB × aA)):∀ ps,(Jm xs ps).length<=xs.length + ps.length:=by
 intro ps;unfold Jm
 induction ps generalizing xs with
 | nil=>simp
 | cons p ps q=>
  rw [F5,D4];have h1:=q (storedH xs p.1 p.2.1 p.2.2);have h2:=Q75 xs p.1 p.2.1 p.2.2;omega
theorem Q0t (xs ps:List (HK × aB × aA)) (p:HK × aB × aA):Jm xs (ps ++ [p])=storedH (Jm xs ps) p.1 p.2.1 p.2.2:=by unfold Jm; rw [eG]; rfl
def Qcq (prog:aK) (w:aJ) (h:Heap) (v:aA) (p:HK × aB × aA):Prop:=∃ a,v=.ref a/\IsTup h a #[.ref p.2.1,p.2.2]/\(nk prog w).is h p.1 p.2.1
theorem Q1f {h h':Heap} {D:aB} {xs:List (HK × aB × aA)} (d:h.DictOfH (nk prog w) D xs) (k:∀ o,h.get? D=zo o->h'.get? D=zo o) (I:∀ a its,IsTup h a its->IsTup h' a its):h'.DictOfH (nk prog w) D xs:=by
 obtain ⟨o,es,ep,h1,h2,O,J,q,U⟩:=d;exact ⟨o,es,ep,k o h1,h2,O,J,λx G=>⟨KIs.keep I 5 (q x G).2 (q x G).1,(q x G).2⟩,U⟩
theorem Qcy {I l D:aB} {q:Array aA} {xs ps:List (HK × aB × aA)} {h0:Heap} (hu:A.in1.units + 5 < aQ) (hh:A.handled=zl) (b3:l≠I) (a3:D≠I) (b8:D≠l) (hI:∀ b o,h0.get? b=zo o->b≠I) (b9:∀ its,¬ IsTup h0 D its)
  (hn:q.size=ps.length) (hp:∀ (i:Nat) (v:aA) (p:HK × aB × aA),q[i]?=zo v->ps[i]?=zo p->Qcq prog w h0 v p) (hsz:xs.length + ps.length<=sizeLine) :
  ∀ (k i:Nat) (s:aC),q.size - i=k->i<=q.size->(s.heap.IsListIter I l i/\s.heap.IsList l q)->(∀ b o,b≠D->h0.get? b=zo o->s.heap.get? b=zo o)->s.heap.DictOfH (nk prog w) D (Jm xs (ps.take i)) ->
   (∀ h' tk,h'.DictOfH (nk prog w) D (Jm xs ps)->(∀ b o,b≠D->h0.get? b=zo o->h'.get? b=zo o)->R (.ok (.ret .none)) { s with heap:=h',toks:=tk }) ->
   codeAny (aI prog w) A (.builtin "dict.update.loop" ⟨[.ref D,.ref I,aS i,.none],[]⟩) R s:=by
 have W:=Walks.list (prog:=prog) (w:=w) (A:=A.in1) (by simpa using hh) I l b3 q;have nI:∀ {i:Nat} {h:Heap},h.IsListIter I l i->∀ its,¬ IsTup h I its:=by
  rintro i h ⟨o,h1,h2,_⟩ its ⟨o',g1,g2,_⟩;rw [h1] at g1; cases g1;rw [h2] at g2; exact absurd g2 (by decide)
 intro k
 induction k with
 | zero=>
  intro i s hk hi O G hD hR;have b1:i=q.size:=by omega
  subst b1;refine bC Xz ?_;rw [Around.under_plainId Yi _];show aF _ A.in1 (ag (.ref I) >>= _) _ _ s;refine aD (W.done s _ _ O λh' tk hm=>?_);show aF _ A.in1 (Builtin.Dict.addKeywords D [] >>= λ_=>ret bc) _ _ _;refine aD (wpAny_pure (wpAny_pure (hR h' tk ?_ λb o hb e=>hm b o (λz=>hI b o e (by simpa using z)) (G b o hb e))))
  rw [hn,eM] at hD;refine Q1f hD (λo e=>hm D o (λz=>a3 (by simpa using z)) e) λa its x=>?_
  have:a≠I:=λz=>by subst z; exact nI O.1 its x
  obtain ⟨o',x1,x2⟩:=x;exact ⟨o',hm a o' (by simpa using this) x1,x2⟩
 | succ k ih=>
  intro i s hk hi O G hD hR;have a9:i < q.size:=by omega
  refine bC Xz ?_;rw [Around.under_plainId Yi _];show aF _ A.in1 (ag (.ref I) >>= _) _ _ s;refine aD (W.item i s _ _ a9 O λv h' tk hP a2 hm=>?_);have a7:i < ps.length:=by omega
  obtain ⟨a,rfl,ht,Y⟩:=hp i v ps[i] hP (O3 a7);have J:∀ b o,b≠D->h0.get? b=zo o->h'.get? b=zo o:=λb o hb e=>hm b o (λz=>hI b o e (by simpa using z)) (G b o hb e)
  have a8:∀ a its,IsTup h0 a its->IsTup h' a its:=λa its x=>by
   have:a≠D:=λz=>by subst z; exact b9 its x
   obtain ⟨o',x1,x2⟩:=x;exact ⟨o',J a o' this x1,x2⟩
  have b2:h'.DictOfH (nk prog w) D (Jm xs (ps.take i)):=Q1f hD (λo e=>hm D o (λz=>a3 (by simpa using z)) e) λa its x=>by
   have:a≠I:=λz=>by subst z; exact nI O.1 its x
   obtain ⟨o',x1,x2⟩:=x;exact ⟨o',hm a o' (by simpa using this) x1,x2⟩
  have a4:(nk prog w).is h' ps[i].1 ps[i].2.1:=⟨KIs.keep a8 5 Y.2 Y.1,Y.2⟩;show aF _ A.in1 (aw [bZ a] _ >>= _) _ _ _;refine aD (ak ?_);obtain ⟨ot,a1,b5,nt,c0⟩:=a8 a _ ht;have b7:Shared.TypeIs { s with heap:=h',toks:=tk } (.ref a) "tuple" := ⟨ot,a1,b5⟩;refine aD (wpAny_tryCatch ?_);unfold Builtin.Dict.pairItems;refine aD (bB b7 ?_);rw [bT (by decide)];refine aD (ar a1 c0 ?_);refine wpAny_pure ?_;show aF _ A.in1 (aw [.ref ps[i].2.1,(ps[i]).2.2] (dictSet D (.ref ps[i].2.1) (ps[i]).2.2)) _ _ _;have b6:(Jm xs (ps.take i)).length<=sizeLine:=by
   have:=Q1t xs (ps.take i);have h2:(ps.take i).length<=ps.length:=by rw [L6]; omega
   omega
  refine ak (wpAny_dictSet_heap (knd:=nk prog w) (s:={ s with heap:=h',toks:=tk }) (k:=(ps[i]).1) hu a4 b2 (λZ a6 U=>?_) b6);have b4:∀ b o,b≠D->h0.get? b=zo o->Z.get? b=zo o:=λb o hb e=>(U.2 b hb).trans (J b o hb e)
  have a5:Z.IsListIter I l (i + 1)/\Z.IsList l q:=⟨a2.1.at λo e=>(U.2 I (Ne.symm a3)).trans e,a2.2.at λo e=>(U.2 l (Ne.symm b8)).trans e⟩;have e1:ps.take (i + 1)=ps.take i ++ [ps[i]]:=by rw [iS,O3 a7]; rfl
  have b0:Z.DictOfH (nk prog w) D (Jm xs (ps.take (i + 1))):=by rw [e1,Q0t]; exact a6
  exact wpAny_pure ⟨bF Yi _,ih (i + 1) _ (by omega) a9 a5 b4 b0 λh3 t3 d3 k3=>hR h3 t3 d3 k3⟩
end
variable {X:Cx}
def putAll (kvs:List (HK × V)) (ps:List (HK × aB × V)):List (HK × V):=ps.foldl (λacc p=>Xe acc p.1 p.2.2) kvs
theorem KT.putAll {H:Hp}:∀ {ps:List (HK × aB × V)} {us:List (HK × aB × aA)} {G:List (HK × V)} {xs:List (HK × aB × aA)},KT H G xs->aR (λ(p:HK × aB × V) (q:HK × aB × aA)=>p.1=q.1/\p.2.1=q.2.1/\KR H p.1 p.2.1/\RelV p.2.2 q.2.2) ps us->KT H (L2.putAll G ps) (Jm xs us)
 | _,_,_,_,r,.nil=>r
 | p :: ps,q :: us,_,_,r,.cons ⟨I,J,e3,O⟩ t=>by
  show KT H (L2.putAll (Xe _ p.1 p.2.2) ps) (Jm (storedH _ q.1 q.2.1 q.2.2) us);rw [<- I,<- J];exact KT.putAll (r.put p.1 e3 O) t
theorem Q9t (q:List (HK × V)):∀ ps,(putAll q ps).length<=q.length + ps.length:=by
 intro ps;unfold putAll
 induction ps generalizing q with
 | nil=>simp
 | cons p ps G=>
  rw [F5,D4];have h1:=G (Xe q p.1 p.2.2);have h2:=Kw q p.1 p.2.2;omega
end L2
namespace L2
open PySem PySem.Spec PyProof.Rows PySem.W
variable {h:Heap} {vs:List aA} {ns:List (Int × Str)}
theorem PrsAre.perm {l l':List aA} (p:l'.Perm l):∀ {ns:List (Int × Str)},PrsAre h l ns->∃ q,PrsAre h l' q/\q.Perm ns:=by
 induction p with
 | nil=>intro ns h; exact ⟨ns,h,cP _⟩
 | cons x _ ih=>
  intro ns h;cases h with
  | cons Y O hd hr=>
   obtain ⟨ks,h1,h2⟩:=ih hr;exact ⟨_,.cons Y O hd h1,h2.cons _⟩
 | swap x y l=>
  intro ns h;cases h with
  | cons Y O hd hr=>
   cases hr with
   | cons U G Z a1=>exact ⟨_,.cons U G Z (.cons Y O hd a1),eE _ _ _⟩
 | trans _ _ J I=>
  intro ns h;obtain ⟨k1,h1,p1⟩:=I h;obtain ⟨k2,h2,p2⟩:=J h1;exact ⟨k2,h2,p2.trans p1⟩
theorem PrsAre.one :∀ {vs:List aA} {ns:List (Int × Str)},PrsAre h vs ns->∀ i,i < vs.length->PrsAre h [vs.getD i bc] [ns.getD i dQ]
 | _,_,.nil,i,hi=>by simp at hi
 | _,_,.cons q G hd r,0,_=>.cons q G hd .nil
 | _,_,.cons q G hd r,i + 1,I=>by simpa using r.one i (by simpa using I)
theorem PrsAre.app :∀ {vs q:List aA} {ns G:List (Int × Str)},PrsAre h vs ns->PrsAre h q G->PrsAre h (vs ++ q) (ns ++ G)
 | _,_,_,_,.nil,g=>g
 | _,_,_,_,.cons I J hd r,g=>.cons I J hd (r.app g)
theorem PrsAre.pick (r:PrsAre h vs ns):∀ (p:List Nat),(∀ i∈p,i < vs.length)->PrsAre h (p.map λi=>vs.getD i bc) (p.map λi=>ns.getD i dQ)
 | [],_=>.nil
 | i :: p,q=>(r.one i (q i (by simp))).app (r.pick p λj G=>q j (O4 _ G))
theorem j9 {a b:List (Int × Str)} (h:a.Perm b):U6 a=U6 b:=Xb ((Wh a).trans (h.trans (Wh b).symm)) (W0 a) (W0 b)
variable {prog:aK} {A:aL} {E:zAD} {s:aC}
section
variable {w:aJ}
theorem qv :(bY vs.length).map (λi=>vs.getD i bc)=vs:=by
 apply cU;intro i
 by_cases z:i < vs.length
 ·simp [z]
 ·simp [z]
theorem Q7a {d:aB} {es:zAB} {ep:Nat} {t:aW} {Q:zAD} (hh:A.handled=zl) (x:RawS s.heap d es ep t) (hf:t.fits es.size=zb) (g:Good (byT w) t) (hI:PrsAre s.heap (es.toList.map (·.2)) ns) (a5:es.size < 64)
  (h:∀ (I:List aA) (h':Heap) (d':Drawn) (tk D k:Nat),PrsAre h' I (U6 ns)->I.Perm (es.toList.map (·.2))->s.heap.objs.size<=D->h'.get? D=zo (seqObj "list" I.toArray k)->(∀ b o,s.heap.get? b=zo o->h'.get? b=zo o)->Q (.ref D) { s with heap:=h',drawn:=d',toks:=tk }) :
  aF (aI prog w) A (call (.builtin "sorted") [.ref d]) Q E s:=by
 have hsz:es.size<=sizeLine:=by rw [sizeLine_eq]; omega
 refine Calls.call_function_entry kind_sorted plain_sorted entry_sorted (args_sorted1 _) ?_;unfold Builtin.«sorted»;refine aD (m:=checkCount "sorted" 1 1 _) (wpAny_pure ?_);refine aD (Q94 (by simpa using hh) x hf g hsz λvs h1 d1 J pm G Z=>?_)
 have hl:vs.length=es.size:=by rw [pm.length_eq]; simp
 obtain ⟨n1,i1,p1⟩:=PrsAre.perm pm hI;refine aD (wpAny_newList ?_ (by rw [sizeLine_eq]; omega));have O:(h1.push (seqObj "list" vs.toArray 0)).get? h1.objs.size=zo (seqObj "list" vs.toArray 0):=D0 _ rfl;have keep:∀ b o,s.heap.get? b=zo o->(h1.push (seqObj "list" vs.toArray 0)).get? b=zo o:=λb o q=>O0 _ (G b o q)
 show aF _ _ _ _ _ { s with heap:=h1.push (seqObj "list" vs.toArray 0),drawn:=d1,toks:=J };have i2:=i1.keep keep;refine aD (ak (ah slot_list_sort ⟨_,O,rfl⟩ entry_list_sort ?body (args_list_sort _)))
 case body=>
  refine Q7c (s:={ s with heap:=h1.push (seqObj "list" vs.toArray 0),drawn:=d1,toks:=J }) O i2 (by omega) λp h' k a1 a2 a3 a4=>?_
  have Y:∀ i∈p,i < vs.length:=λi hi=>by have:=a1.mem_iff.mp hi; simpa using this
  have e:=Q1v (nss:=n1) (p:=p) (by rw [<- i1.length]; exact a1) (λi g1 g2=>a2 i g1 (by rw [i1.length]; exact g2))
  have U:=i2.pick p Y;rw [e,j9 p1] at U;refine ⟨_,rfl,wpAny_pure ⟨_,rfl,h (p.map λi=>vs.getD i bc) h' d1 J _ k ?_ ?_ Z a3 λb o q=>a4 b o (D8 (O9 (G b o q))) (keep b o q)⟩⟩
  ·exact U.keepT λb o hc q=>a4 b o (λz=>by
    rw [z,O] at q;have q:=bn q;rw [<- q] at hc;exact absurd (show bj "list" = .type "tuple" from hc) (by decide)) q
  ·have:=a1.map (λi=>vs.getD i bc);rw [qv] at this;exact this.trans pm
end
def Qx8 (w:aJ) (h:Heap) (a:aB) (bs:List aB):Prop:=∃ o es ep t,h.get? a=zo o/\o.ExactSet/\o.data=.set es ep t/\es.toList.map (·.2)=bs.map bZ/\t.fits es.size=zb/\Good (byT w) t
def Q4x (w:aJ) (a:aB) (bs:List aB):HO:=.ext λh=>Qx8 w h a bs
variable {X:Cx}
theorem Qpy {H:Hp} {h':Heap} {P:aK} {w:aJ} (q:∀ k b,KR H k b->(nk P w).is h' k b):∀ {es:List (Int × aA)} {ks:List HK},aR (ElH P w (λb=>∃ k,KR H k b) h') es ks->∃ bs:List aB,es.map (·.2)=bs.map bZ/\aR (λb k=>KR H k b) bs ks
 | [],_,.nil=>⟨[],rfl,.nil⟩
 | e :: es,k :: ks,.cons ⟨b,I,J,_,k2,G⟩ t=>by
  obtain ⟨bs,h1,h2⟩:=Qpy q t;have:k=k2:=(nk P w).inj J (q k2 b G);exact ⟨b :: bs,by rw [D3,D3,I,h1],.cons (by rw [this]; exact G) h2⟩
theorem Qep (hu:X.A.units + 9 < aQ) (hc:X.calm=zb):Wg X (.type "set") (λxs H Q=>∃ p vs,∃ ks:List HK,xs=[.ref p]/\SqT X.K H p vs/\aR (λv k=>∃ b,v=.ref b/\KR H k b) vs ks/\ks.length<=76/\∀ l bs G,H l=zl->G.Perm (Zx ks)->aR (λb k=>KR H k b) bs G->Q (.ref l) (upd H l (Q4x X.w l bs))):=by
 intro pins s σ H xs us Q I r h;obtain ⟨p,vs,ks,rfl,hq,Z,hl,q⟩:=h;obtain ⟨u,rfl,U⟩:=U5 r;cases U;obtain ⟨its,Y,pl,hz⟩:=I.tuple hq;have O:its.length=ks.length:=by rw [<- Y.length,Paired.length Z]
 refine ja (B:=λb=>∃ k,KR H k b) (ks:=ks) hu (I.ok.hd hc) pl (by rw [O7,O]) (λi v e=>?_) hl λh' tk gh k=>?_
 ·have e:its[i]?=zo v:=by simpa using e
  have hi:i < vs.length:=by have:=(O2.mp e).1; rw [Y.length]; exact this
  obtain ⟨x,ex,U⟩:=Y.get (O3 hi);rw [e] at ex; cases ex;obtain ⟨k,ek,b,eb,J⟩:=Xf Z (O3 hi);rw [eb] at U;cases U;exact ⟨k,b,ek,rfl,Ve I.hok J,k,J⟩
 ·obtain ⟨o,es,ep,t,h1,h2,h3,⟨G,p1,r1⟩,h5,h6⟩:=gh;obtain ⟨bs,b1,b2⟩:=Qpy (λk2 b J=>⟨KIs.keep (λa its ⟨o',x1,x2⟩=>⟨o',k a o' x1,x2⟩) 5 (Ve I.hok J).2 (Ve (P:=X.prog) (w:=X.w) I.hok J).1,(Ve (P:=X.prog) (w:=X.w) I.hok J).2⟩) r1
  have sz:Qx8 X.w h' s.heap.objs.size bs:=⟨o,es,ep,t,h1,h2,h3,b1,by have:=h6.fits; rwa [O1,be] at this,h6.good⟩;refine ⟨.ref s.heap.objs.size,upd H s.heap.objs.size (Q4x X.w s.heap.objs.size bs),I.laid (t':=tk) k (O5 _) ⟨sz,⟨o,h1⟩,λh1 h2 z kk=>?_⟩,rfl,q _ bs G (I.hok.fresh (O5 _)) p1 b2⟩
  obtain ⟨o,es,ep,t,g1,g2⟩:=z;exact ⟨o,es,ep,t,kk _ g1,g2⟩
theorem Qgf {P:aK} {w:aJ} {H:Hp} {h:Heap} (ok:HOk P w H h):∀ {bs:List aB} {ns:List (Int × Str)},aR (λb (n:Int × Str)=>H b=zo (.tup [.int n.1,.str n.2])) bs ns->PrsAre h (bs.map bZ) ns
 | [],_,.nil=>.nil
 | b :: bs,n :: ns,.cons J t=>by
  obtain ⟨_,I,q,o,G,O,m,hd⟩:=ok b _ J;cases q with
  | cons x1 q=>
   cases q with
   | cons x2 q=>
    cases q;obtain ⟨t1,rfl⟩:=x1;obtain ⟨t2,rfl⟩:=x2;exact .cons G O hd (Qgf ok t)
theorem Qgw {P:aK} {w:aJ} {H:Hp} {h h':Heap} (ok:HOk P w H h) (kp:∀ b o,h.get? b=zo o->h'.get? b=zo o) {bs:List aB} {ns:List (Int × Str)} (Z:aR (λb (n:Int × Str)=>H b=zo (.tup [.int n.1,.str n.2])) bs ns):∀ {G:List aA} {ms:List (Int × Str)},PrsAre h' G ms->(∀ v∈G,v∈bs.map bZ)->∃ ds:List V,Vals ds G/\aR (λ(v:V) (n:Int × Str)=>∃ b,v=.ref b/\H b=zo (.tup [.int n.1,.str n.2])) ds ms
 | [],_,.nil,_=>⟨[],.nil,.nil⟩
 | _ :: G,_ :: ms,.cons (a:=a) (x:=x) (y:=y) U hc hd r,hm=>by
  obtain ⟨ds,d1,d2⟩:=Qgw ok kp Z r λv hv=>hm v (O4 _ hv)
  obtain ⟨b,hb,e⟩:=F1.mp (hm (.ref a) (by simp));cases e;obtain ⟨n,hn,Y⟩:=Ki Z hb;obtain ⟨_,a2,I,o',O,a1,m,q⟩:=ok a _ Y;rw [kp a o' O] at U;cases U;rw [hd] at q;cases I with
  | cons x1 I=>
   cases I with
   | cons x2 I=>
    cases I;obtain ⟨t1,rfl⟩:=x1;obtain ⟨t2,rfl⟩:=x2;injection q with J _
    have q:=congrArg eZ J;simp only [iU,Value.int.injEq,Value.str.injEq] at q;obtain ⟨⟨q1,_⟩,⟨q2,_⟩,_⟩:=q;exact ⟨.ref a :: ds,.cons rfl d1,.cons ⟨a,rfl,by rw [Y,q1,q2]⟩ d2⟩
theorem Q6p (hc:X.calm=zb):Wg X (.builtin "sorted") (λxs H Q=>∃ p bs,∃ ns:List (Int × Str),xs=[.ref p]/\H p=zo (Q4x X.w p bs)/\bs.length < 64/\aR (λb (n:Int × Str)=>H b=zo (.tup [.int n.1,.str n.2])) bs ns/\∀ d ds,H d=zl->aR (λ(v:V) (n:Int × Str)=>∃ b,v=.ref b/\H b=zo (.tup [.int n.1,.str n.2])) ds (U6 ns)->Q (.ref d) (upd H d (.lst ds))):=by
 intro pins s σ H xs us Q I r h;obtain ⟨p,bs,ns,rfl,hp,hl,J,q⟩:=h;obtain ⟨u,rfl,rx⟩:=U5 r;cases rx;obtain ⟨⟨o,es,ep,t,ho,hx,hd,U,hf,hg⟩,_,_⟩:=I.hok p _ hp;have hz:es.size=bs.length:=by
  have:=congrArg dA U;simpa using this
 refine Q7a (I.ok.hd hc) ⟨o,ho,hx,hd⟩ hf hg (by rw [U]; exact Qgf I.hok J) (by omega) λG h' d' tk D k a1 O Y a4 a5=>?_
 rw [U] at O;obtain ⟨ds,Z,d2⟩:=Qgw I.hok a5 J a1 λv hv=>O.mem_iff.mp hv
 have a7:G.length=bs.length:=by rw [O.length_eq,O1]
 have a6:ds.length=G.length:=Z.length;exact ⟨.ref D,upd H D (.lst ds),Inv.redraw (I.laid (t':=tk) (o:=.lst ds) a5 Y ⟨by rw [sizeLine_eq]; omega,G,k,Z,a4⟩) d',rfl,q D ds (I.hok.fresh Y) d2⟩
end L2
namespace L2
open PySem PySem.Spec PyProof.Rows
variable {R:Result->aC->Prop}
theorem Qn6:typeLookup (.type "list_reverseiterator") "__len__" = pure zl:=by rw [typeLookup_type,builtinLookup_eq_fast]; kernel_rfl
theorem Qhf:typeLookup (.type "list_reverseiterator") "__length_hint__" = pure (zo (.builtin "list_reverseiterator.__length_hint__")):=by rw [typeLookup_type,builtinLookup_eq_fast]; kernel_rfl
variable {prog:aK} {A:aL} {E:zAD} {s:aC}
section
variable {w:aJ}
theorem Qi5 {I l:aB} {i:Int} {Q:Bool->aC->Prop} (G:s.heap.IsRevIter I l i) (h:Q yo s):aF (aI prog w) A (Builtin.List.listLengthHint (.ref I)) Q E s:=by
 unfold Builtin.List.listLengthHint;refine aD (wpAny_specialOf G.typeIs Qn6 ?_);refine bD (λq=>absurd q (by decide)) (λ_=>?_)
 refine bD (λq=>absurd q (by decide)) (λ_=>?_)
 refine aD (wpAny_specialOf G.typeIs Qhf ?_);generalize hid:("list_reverseiterator.__length_hint__" : String)=J
 wp_delta
 rw [show splitId J=zo ("list_reverseiterator", "__length_hint__") from by subst hid; decide +kernel];subst hid;refine aD (bK (T := "list_reverseiterator") (b:=zb) G.typeIs (by rw [bQ]; kernel_rfl) ?_);refine bD (λq=>absurd q (by decide)) (λ_=>?_)
 refine bD (λ_=>?_) (λq=>absurd (by decide +kernel) q)
 refine bD (λq=>absurd q (by decide +kernel)) (λ_=>?_)
 exact wpAny_pure h
theorem Qak {R:Result->aC->Prop} {I l:aB} {q:Array aA} (hh:A.handled=zl) (Y:s.heap.IsRevIter I l ((q.size:Int) - 1)) (hl:s.heap.IsList l q) (a9:q.size<=2 ^ 24) (S:aB) (res:aA) (O:Nat) (hS:s.heap.get? S=zo { cls:=.type "list",data:=.seq #[] O }) (a4:S≠l)
  (hR:∀ h' tk G U,(∀ b o,b≠S->b≠I->s.heap.get? b=zo o->h'.get? b=zo o)->h'.get? S=zo { cls:=.type "list",dict:=zl,data:=.seq G U,slots:=#[] } ->
   ItemsOf (λi v=>q[q.size - 1 - i]?=zo v) G q.size->R (.ok (.ret res)) { s with heap:=h',toks:=tk }) :
  aF (aI prog w) A.in1 (Builtin.List.listExtendWith (.ref S) (.ref I) res)
   (λfin s'=>match fin with | .done f=>R (.ok f) s' | .again U=>U.quiet=zb/\codeAny (aI prog w) A U R s') (λe s'=>R (.error e) s') s:=by
 have Z:S≠I:=λe=>by
  obtain ⟨o,h1,h2,_⟩:=Y;rw [<- e,hS] at h1; cases h1;have h2:bj "list" = bj "list_reverseiterator" := h2;exact absurd h2 (by decide)
 have a7:l≠I:=λe=>by
  obtain ⟨o,h1,h2,_⟩:=Y;obtain ⟨o',g1,g2,_⟩:=hl;rw [e,h1] at g1; cases g1;rw [h2] at g2; exact absurd g2 (by decide)
 have a8:S∉[I,l]:=λhm=>by
  simp at hm;rcases hm with e | e
  ·exact Z e
  ·exact a4 e
 have W:=(Walks.listRev (prog:=prog) (w:=w) (A:=A.in1) hh I l a7 q).toS;have a2:(0:Nat)<=q.size/\s.heap.IsRevIter I l ((q.size:Int) - 1 - ((0:Nat):Int))/\s.heap.IsList l q:=⟨F7 _,by simpa using Y,hl⟩;unfold Builtin.List.listExtendWith;refine aD (bB (T := "list_reverseiterator") Y.typeIs ?_);have h1:Builtin.List.listSameRef (.ref S) (.ref I)=yo:=by simp [Builtin.List.listSameRef,Z]
 have h2:(bj "list_reverseiterator" == bj "list")=yo:=by decide
 have h3:(bj "list_reverseiterator" == bj "tuple")=yo:=by decide
 simp only [h1,h2,h3,dR,F0,if_false];refine aD (wpAny_pyIter_revIter Y ?_);refine aD (ak (Qi5 Y ?_));refine bD (λa6=>absurd a6 (by decide)) (λ_=>wpAny_pure ⟨bF F.plain_extend_loop _,?_⟩)
 refine codeAny_extend_loopS W (by rw [sizeLine_eq]; omega) S a8 res q.size 0 _ #[] O rfl (F7 _) a2 hS (ItemsOf.nil _) λs' G U hm a3 a1=>?_
 rw [Moved.eq_with hm];refine hR s'.heap s'.toks G U (λb o hb a5 e=>hm.heap b o (λJ=>?_) e) a3 a1
 rcases D5.mp J with e' | J
 ·exact hb e'
 ·exact a5 (by simpa using J)
theorem Qhv {R:Result->aC->Prop} {I l:aB} {q:Array aA} (hh:A.handled=zl) (hr:s.heap.IsRevIter I l ((q.size:Int) - 1)) (hl:s.heap.IsList l q) (Z:q.size<=2 ^ 24) (S:aB) (hS:s.heap.get? S=zo { cls:=.type "list",data:=.seq #[] }) (Y:S≠l)
  (hR:∀ h' tk G U,(∀ b o,b≠S->b≠I->s.heap.get? b=zo o->h'.get? b=zo o)->h'.get? S=zo { cls:=.type "list",dict:=zl,data:=.seq G U,slots:=#[] } ->
   ItemsOf (λi v=>q[q.size - 1 - i]?=zo v) G q.size->R (.ok (.ret .none)) { s with heap:=h',toks:=tk }) :
  aF (aI prog w) A.in1 (Builtin.«list.__init__» ⟨[.ref S,.ref I],[]⟩)
   (λfin s'=>match fin with | .done f=>R (.ok f) s' | .again U=>U.quiet=zb/\codeAny (aI prog w) A U R s') (λe s'=>R (.error e) s') s:=by
 have a3:S≠I:=λe=>by
  obtain ⟨o,h1,h2,_⟩:=hr;rw [<- e,hS] at h1; cases h1;exact absurd h2 (by decide)
 show aF _ _ (do let old <- Builtin.List.listItems (.ref S); Builtin.List.listUpdate (.ref S) (λ_=>#[]); letGo old.toList.reverse; Builtin.List.listExtendWith (.ref S) (.ref I) .none) _ _ s;refine aD ?_;unfold Builtin.List.listItems;refine aD (ar hS rfl (wpAny_pure ?_));show aF _ _ (updateSeq S (λ_=>#[]) >>= λ_=>letGo (#[]:Array aA).toList.reverse >>= λ_=>Builtin.List.listExtendWith (.ref S) (.ref I) .none) _ _ s
 refine aD (wpAny_updateSeq hS rfl ?_);have O:=G8 (bo (λ_=>(#[]:Array aA))) hS rfl
 have J:∀ b o,b≠S->s.heap.get? b=zo o->(s.heap.update S (bo (λ_=>(#[]:Array aA)))).get? b=zo o:=
  λb o hb e=>(F6 _ _ (Ne.symm hb)).trans e
 refine aD (wpAny_letGo ?_);refine Qak hh (hr.at λo e=>J I _ (Ne.symm a3) e) (hl.at λo e=>J l _ (Ne.symm Y) e) Z S .none _ O Y λh' tk G U hk a2 a1=>?_
 exact hR h' tk G U (λb o hb a4 e=>hk b o hb a4 (J b o hb e)) a2 a1
theorem Q47 {Q:zAD} {I l:aB} {q:Array aA} (hh:A.handled=zl) (hr:s.heap.IsRevIter I l ((q.size:Int) - 1)) (hl:s.heap.IsList l q) (U:q.size<=2 ^ 24)
  (hQ:∀ h' tk G c',(∀ b o,b≠I->s.heap.get? b=zo o->h'.get? b=zo o) ->
   h'.get? s.heap.objs.size=zo { cls:=.type "list",dict:=zl,data:=.seq G c',slots:=#[] }->ItemsOf (λi v=>q[q.size - 1 - i]?=zo v) G q.size->Q (.ref s.heap.objs.size) { s with heap:=h',toks:=tk }) :
  aF (aI prog w) A (call (.type "list") [.ref I]) Q E s:=by
 refine callType_codes (Q₁:=λobj J=>obj=.ref s.heap.objs.size/\J={ s with heap:=s.heap.push { cls:=.type "list",data:=.seq #[] } }) F.called_list (F.typeCall_list_1 _) F.entry_list_init
  (code_list_new _ ⟨rfl,rfl⟩) λobj J O=>?_
 obtain ⟨rfl,rfl⟩:=O;have hS:(s.heap.push { cls:=.type "list",data:=.seq #[] }).get? s.heap.objs.size=zo { cls:=.type "list",data:=.seq #[] }:=D0 _ rfl;have a1:l < s.heap.objs.size:=let ⟨o,h1,_⟩:=hl; O9 h1;refine ⟨⟨_,hS,rfl⟩,F.args_list_init_2 _ _,Qhv (A:=A.in1) hh (hr.at λo e=>O0 _ e) (hl.push _) U _ hS (M0 a1) λh' tk G c' hk Z Y=>?_⟩
 exact ⟨rfl,hQ h' tk G c' (λb o hb e=>hk b o (D8 (O9 e)) hb (O0 _ e)) Z Y⟩
end
theorem Qez {xs:List V} {its:List aA} (r:Vals xs its) {acc:List aA} (G:acc.length=its.length) (h:∀ (j:Nat) (v:aA),acc[j]?=zo v->its[its.length - 1 - j]?=zo v):Vals xs.reverse acc:=by
 have:acc=its.reverse:=by
  apply cU;intro j
  by_cases q:j < acc.length
  ·have e:=h j acc[j] (O3 q);rw [O3 q,gm (by omega),e]
  ·rw [G9 (by omega),G9 (by rw [L9]; omega)]
 subst this;clear G h
 induction r with
 | nil=>exact .nil
 | cons a _ I=>rw [cS,cS]; exact I.append (.cons a .nil)
def Qyg (ta:TA):TE:=λσ H Q=>ta σ H λvs H1=>∃ l ys,vs=[.ref l]/\H1 l=zo (.lst ys)/\ys.length<=1000000/\∀ p,H1 p=zl->Q (.ref p) (upd H1 p (.lst ys.reverse))
variable {X:Cx} {a:aH} {ta:TA} {p p' pos pos':Pos}
theorem Q9x (hc:X.calm=zb) (hg:Gl X "list") (hm:X.mg "list" = zl) (a4:Gl X "reversed") (a2:X.mg "reversed" = zl) (hb:aX "list" = zo (.type "list")) (a1:aX "reversed" = zo (.type "reversed")) (ha:PA X [a] ta) (hs:aN [a] X.env=[(yo,aO a X.env)]:=by rfl)
  (U:aN [.Call (.Name "reversed" p') [a] [] pos'] X.env=[(yo,aO (.Call (.Name "reversed" p') [a] [] pos') X.env)]:=by rfl) :
  PE X (.Call (.Name "list" p) [.Call (.Name "reversed" p') [a] [] pos'] [] pos) (Qyg ta):=by
 intro pins s σ H Q I h;refine wpAny_Call_Name_kw (Kx I hg hm hb ?_ (by decide) (by decide));refine cy ?_ U rfl;rw [U];refine Calls.spliced_cons ?_;refine Call_ (Kx I a4 a2 a1 (cy (thn (ha pos' pins s σ H _ I h) λus s1 ⟨vs,H1,O,r1,q1⟩=>?_) hs rfl))
 obtain ⟨l,ys,rfl,hq,hn,q⟩:=q1;cases r1 with
 | cons r rr=>
  cases rr;cases r;obtain ⟨Y,its,n,r',a6,a3⟩:=O.lstM hq;have hL:s1.heap.IsList l its.toArray:=⟨_,a3,rfl,n,rfl⟩;have a5:ys.length=its.length:=Vals.length r';refine call_reversed_list hL ?_;refine Calls.spliced_nil ?_;have I2:Inv X pins σ H1 { s1 with heap:=s1.heap.push (revObj l ((its.toArray.size:Int) - 1)) }:=O.kept (t':=s1.toks) λb ob q=>O0 _ q
  have Z:(s1.heap.push (revObj l ((its.toArray.size:Int) - 1))).IsRevIter s1.heap.objs.size l ((its.toArray.size:Int) - 1):=⟨_,D0 _ rfl,rfl,rfl⟩;refine Q47 (O.ok.hd hc) Z (hL.push _) (by rw [O7]; omega) λh' tk G c' hk hS J=>?_
  have hv:Vals ys.reverse G.toList:=Qez r' (by rw [be,J.1,O7]) λj v hj=>by
   have:=J.2 j v (by simpa using hj);simpa using this
  have hsz:(s1.heap.push (revObj l ((its.toArray.size:Int) - 1))).objs.size=s1.heap.objs.size + 1:=F4 _ _;refine ⟨.ref _,_,O.laid (t':=tk) (o:=.lst ys.reverse) (λb u e=>hk b u (D8 (O9 e)) (O0 _ e)) (by rw [hsz]; omega) ?_,rfl,q _ (O.hok.fresh (by rw [hsz]; omega))⟩;exact ⟨by rw [L9]; exact Y,G.toList,c',hv,by simpa using hS⟩
end L2
namespace L2
open PySem PySem.Spec PyProof.Rows SeqAt
theorem Qay {X:Cx} (hu:X.A.units + 9 < aQ) (hc:X.calm=zb):Wg X (.type "dict") (λxs H Q=>∃ p,∃ us,∃ ps:List (HK × aB × V),xs=[.ref p]/\H p=zo (.lst us)/\aR (λv (z:HK × aB × V)=>∃ c,v=.ref c/\H c=zo (.tup [.ref z.2.1,z.2.2])/\KR H z.1 z.2.1) us ps/\ps.length<=sizeLine /\
  ∀ d,H d=zl->Q (.ref d) (upd H d (.dT (putAll [] ps)))):=by
 intro pins s σ H xs c3 Q I rx h;obtain ⟨p,us,ps,rfl,hq,c0,hl,q⟩:=h;obtain ⟨u,rfl,ru⟩:=U5 rx;cases ru;obtain ⟨b1,its,n,r',b9,Z⟩:=I.lstM hq;obtain ⟨U,a6,J⟩:∃ U:List (HK × aB × aA),aR (λ(p:HK × aB × V) (q:HK × aB × aA)=>p.1=q.1/\p.2.1=q.2.1/\KR H p.1 p.2.1/\RelV p.2.2 q.2.2) ps U/\(its.length=U.length/\∀ (i:Nat) (v:aA) (p:HK × aB × aA),its[i]?=zo v->U[i]?=zo p->Qcq X.prog X.w s.heap v p):=by
  have hok:=I.hok;clear q hl Z hq b1 b9
  induction c0 generalizing its with
  | nil=>cases r'; exact ⟨[],.nil,rfl,λi v p h=>by simp at h⟩
  | cons h1 _ ih=>
   cases r' with
   | cons y1 y2=>
    obtain ⟨U,a1,a2,a3⟩:=ih _ y2;obtain ⟨c,rfl,b8,hk⟩:=h1;cases y1;obtain ⟨_,c4,rj,ht⟩:=hok c _ b8;cases rj with
    | cons x1 rj=>
     cases rj with
     | cons x2 rj=>
      cases rj;cases x1;rename_i zz _ _ _ _ vv;refine ⟨(_,_,vv) :: U,.cons ⟨rfl,rfl,hk,x2⟩ a1,by simp [a2],λi v p e1 e2=>?_⟩
      cases i with
      | zero=>
       simp at e1 e2;subst e1; subst e2;exact ⟨c,rfl,ht,Ve hok hk⟩
      | succ i=>exact a3 i v p (by simpa using e1) (by simpa using e2)
 have c2:ps.length=U.length:=Paired.length a6;have hh:=I.ok.hd hc;refine callType_codes (Q₁:=λobj O=>obj=.ref s.heap.objs.size/\O={ s with heap:=s.heap.push { cls:=.type "dict",data:=.dict #[] } }) F.kt_called_dict (F.kt_typeCall_dict_1 _) F.entry_dict_init (kt_code_dict_new _ ⟨rfl,rfl⟩) ?_;rintro obj O ⟨rfl,rfl⟩;have a9:(s.heap.push { cls:=.type "dict",data:=.dict #[] }).DictOfH (nk X.prog X.w) s.heap.objs.size []:=Heap.DictOfH.new s.heap;have a5:Shared.TypeIs { s with heap:=s.heap.push { cls:=.type "dict",data:=.dict #[] } } (.ref s.heap.objs.size) "dict" := ⟨_,D0 _ rfl,rfl⟩;refine ⟨a5,F.args_dict_init_2 _ _,?_⟩;have Y:=O0 { cls:=.type "dict",data:=.dict #[] } Z;unfold Builtin.«dict.__init__»;refine aD ?_;unfold Builtin.Dict.selfAndRest;refine aD (wpAny_notOrdered_dict a5 ?_);show aF _ _ (pure (s.heap.objs.size,[bZ p])) _ _ _;refine wpAny_pure ?_
 show aF _ _ (Builtin.Dict.updateFrom "dict.__init__" s.heap.objs.size (.ref p) [] .none) _ _ _;unfold Builtin.Dict.updateFrom;refine aD (bB (T := "list") ⟨_,Y,rfl⟩ ?_);rw [bT (by decide)];refine aD (Q43 Y (by simpa using hh) λh2 c1 G=>?_)
 rw [bT (by rfl)];have b0:=G _ _ Y;have a8:h2.IsList p its.toArray:=⟨_,b0,rfl,n,rfl⟩;have k0:∀ b o,s.heap.get? b=zo o->h2.get? b=zo o:=λb o e=>G b o (O0 _ e)
 have a4:h2.DictOfH (nk X.prog X.w) s.heap.objs.size []:=Q1f a9 (λo e=>G _ _ e) λa its x=>let ⟨o',x1,x2⟩:=x; ⟨o',G _ _ x1,x2⟩
 have a7:s.heap.objs.size < h2.objs.size:=by
  obtain ⟨o,es,ep,ho,r⟩:=a4;exact O9 ho
 refine aD (aD (m:=rule _) (bJ (wpAny_pure (aD (wpAny_pyIter_list a8 ?_)))));refine wpAny_pure ⟨bF Yi _,?_⟩;have sb:∀ (h2:Heap) (o:Obj),∀ a its,IsTup h2 a its->IsTup (h2.push o) a its:=λh2 o a its x=>let ⟨o',x1,x2⟩:=x; ⟨o',O0 _ x1,x2⟩
 refine Qcy (A:=X.A.in1) (I:=h2.objs.size) (l:=p) (D:=s.heap.objs.size) (xs:=[]) (ps:=U) (h0:=s.heap) (by show X.A.units + 1 + 1 + 5 < aQ; omega) (by simpa using hh) (D8 (O9 b0)) (D8 a7) (M0 (O9 Z)) (λb o e=>D8 (O9 (k0 b o e))) (λits x=>by
   obtain ⟨o',x1,_⟩:=x;exact absurd (O9 x1) (L3 _))
  (by rw [O7]; exact J.1) (λi v p e1 e2=>J.2 i v p (by simpa using e1) e2) (by simp only [cK]; omega) (its.toArray.size - 0) 0 _ rfl (F7 _) ⟨⟨_,D0 _ rfl,rfl,rfl⟩,a8.push _⟩ (λb o _ e=>O0 _ (k0 b o e)) ?dk λh' tk d k=>?_
 case dk=>exact Q1f a4 (λo e=>O0 _ e) (sb _ _)
 obtain ⟨q1,es,ep,b4,b7,b5,b3,_,b6⟩:=d;have b2:∀ b o,s.heap.get? b=zo o->h'.get? b=zo o:=λb o e=>k b o (D8 (O9 e)) e
 refine ⟨rfl,.ref s.heap.objs.size,_,I.laid (t':=tk) (o:=.dT (putAll [] ps)) b2 (O5 _) ⟨?_,beq_eq_false_iff_ne.mpr (Ne.symm (D8 I.big)),_,((show KT H [] [] from .nil).putAll a6).keeps λc ys ec=>?_,q1,es,ep,b4,b7,b5,b3,b6⟩,rfl,q _ (I.hok.fresh (O5 _))⟩
 ·have:=Q9t [] ps; simp only [cK] at this; omega
 ·have:c≠s.heap.objs.size:=λe=>by
   have:=I.hok.fresh (a:=s.heap.objs.size) (O5 _);rw [<- e,ec] at this; cases this
  rw [Q9 this];exact ec
end L2
namespace L2
open PySem PySem.Spec PyProof.Rows
section
open PySem.SeqAt
open PySem.AutoSeq1 (wpAny_loadPart')
open PySem.MeetsSeq PySem.MeetsSeq2 PySem.MeetsSeq3
theorem Qg1 (A:aL) (s:aC) (a c:Str) (t u:Tok) (prog:aK) (w:aJ) (E:zAD) (Q:zAD) (h:Q (.bool (Vq a c)) s) :
  aF (aI prog w) A (richCompare .Lt (.str a t) (.str c u)) Q E s:=
 (iz h:aF (aI prog w) A (aU .Lt (.str a t) (.str c u)) Q E s)
theorem Q3u (l b:aB) (p q:Int × Str) (t u t' u':Tok) (n n2:Nat) (dd a1:Option aB) (sl a2:Array (Option aA)) :
  Meets (Builtin.«tuple.__lt__» ⟨[.ref l,.ref b],[]⟩)
   (λ_ R s=>s.heap.get? l=zo { cls:=.type "tuple",dict:=dd,data:=.seq #[.int p.1 t,.str p.2 u] n,slots:=sl }/\s.heap.get? b=zo { cls:=.type "tuple",dict:=a1,data:=.seq #[.int q.1 t',.str q.2 u'] n2,slots:=a2 } /\
    R (.ok (.ret (.bool (Zh p q)))) s):=
 .of_wp λprog w A R s h=>by
  obtain ⟨hp,g,d,Z,os⟩:=s; obtain ⟨hl,hb,h⟩:=h;have f2:=AutoSeq1.sub_tuple_tuple
  wp_walk using wpAny_loadPart' hl,wpAny_loadPart' hb,wpAny_forIn_list _ (λ(rest:List (aA × aA)) b s'=>b.1=zl/\s'=⟨hp,g,d,Z,os⟩/\(rest=[(.int p.1 t,.int q.1 t'),(.str p.2 u,.str q.2 u')]\/(rest=[(.str p.2 u,.str q.2 u')]/\p.1=q.1)\/(rest=[]/\p.1=q.1/\p.2=q.2))) _
  case turn=>
   rintro ⟨y,x⟩ rest b s' ⟨O,rfl,hz⟩;rcases hz with hz | ⟨hz,h1⟩ | ⟨hz,_⟩
   ·injection hz with U G
    injection U with hy hx
    subst hy hx;obtain ⟨e,he,I⟩:=HT.eqAt_int A.in1 ⟨hp,g,d,Z,os⟩ p.1 t q.1 t';refine aD (he prog w _ _ ?_);cases e with
    | true=>
     wp_walk
     exact ⟨rfl,rfl,.inr (.inl ⟨G,I.mp rfl⟩)⟩
    | false=>
     have J:¬ p.1=q.1:=λz=>absurd (I.mpr z) D2
     unfold Zh at h;rw [bU J] at h;have Y:=HT.rcLt_int A.in1 ⟨hp,g,d,Z,os⟩ p.1 t q.1 t' prog w
     wp_walk using Y
     exact ⟨_,rfl,by simpa using h⟩
   ·injection hz with U G
    injection U with hy hx
    subst hy hx;have he:=SeqAt.EqAt.str_str (A:=A.in1) (s:=⟨hp,g,d,Z,os⟩) p.2 u q.2 u';refine aD (he prog w _ _ ?_);cases e:(p.2 == q.2) with
    | true=>
     wp_walk
     exact ⟨rfl,rfl,.inr (.inr ⟨G,h1,by simpa using e⟩)⟩
    | false=>
     have J:¬ p.2=q.2:=by simpa using e
     unfold Zh at h;rw [bT h1,bU J] at h;have Y:=Qg1 A.in1 ⟨hp,g,d,Z,os⟩ p.2 q.2 u u' prog w
     wp_walk using Y
     exact ⟨_,rfl,by simpa using h⟩
   ·cases hz
  case fin=>
   rintro ⟨b1,b2⟩ s' ⟨O,rfl,hz⟩;simp only at O;subst O;rcases hz with hz | ⟨hz,_⟩ | ⟨_,h1,h2⟩
   ·cases hz
   ·cases hz
   ·unfold Zh at h;rw [bT h1,bT h2] at h
    wp_walk
    exact ⟨_,rfl,by simpa [Builtin.Tuple.tupleCompareSizes] using h⟩
  case h=>
   exact ⟨rfl,rfl,.inl rfl⟩
end
variable {X:Cx}
theorem Qs7 (hu:X.A.units < aQ):OpR X (aU .Lt) (λx y H Q=>∃ a b p q,x=.ref a/\y=.ref b/\H a=zo (.tup [.int p.1,.str p.2])/\H b=zo (.tup [.int q.1,.str q.2])/\Q (.bl (Zh p q)) H):=by
 intro pins s σ H x y v u Q I rx ry h;obtain ⟨a,b,p,q,rfl,rfl,ha,hb,k⟩:=h;cases rx;cases ry;obtain ⟨_,its,J,p1⟩:=I.hok a _ ha;obtain ⟨_,Y,G,p2⟩:=I.hok b _ hb;cases J with
 | cons x1 J=>cases J with
  | cons x2 J=>
   cases J;obtain ⟨t,rfl⟩:=x1;obtain ⟨u,rfl⟩:=x2;cases G with
   | cons y1 G=>cases G with
    | cons y2 G=>
     cases G;obtain ⟨t',rfl⟩:=y1;obtain ⟨u',rfl⟩:=y2;obtain ⟨⟨cls,dd,data,sl⟩,ho,hc,n,hd⟩:=p1;obtain ⟨⟨Z,O,data2,U⟩,ho2,hc2,n2,hd2⟩:=p2;simp only at hc hd hc2 hd2;subst hc hd hc2 hd2;exact richCompare_meets_room (op:=.Lt) ⟨_,ho,rfl⟩ ⟨_,ho2,rfl⟩ gM gN (gO _ _) (Q3u a b p q t u t' u' n n2 dd O sl U)
      ⟨ho,ho2,show cq (Zh p q)≠fC/\_ from ⟨(λx=>nomatch x),⟨.bl (Zh p q),H,I,rfl,k⟩⟩⟩ hu
end L2
namespace Sm
open PySem PySem.Spec L2
variable {H H':Hp} {p a:aB} {o:HO} {hs:List aB} {v:V} {vs:List V} {κ:Type} {σ:St} {e:aH} {es:List aH} {f:aA->aA->Sem aA} {Q:Bool->Hp->Prop} {D:Ends}
section
inductive PV where
 | non | bl (b:Bool) | int (i:Int) | str (x:Str) | tup (xs:List PV) | lst (xs:List PV) | fro (xs:List PV) | ref (i:Nat) | dic
variable {ps:List PV}
inductive Cell where
 | lst (xs:List PV) | dic (kvs:List (Key × PV)) | dtp (kvs:List (HK × PV)) | frd (kvs:List (Key × PV))
 | obj (C:aB) (fs:List (Str × PV))
variable {cl:Cell}
abbrev Q0:=List Cell
variable {st:Q0}
structure Exc where
 cls:Str
 fs:Option (Str × PV):=zl
inductive Res (α:Type) where
 | ok (a:α) (st:Q0) | exc (x:Exc) (st:Q0) | stuck
abbrev Gam:=List (Option PV)
variable {Γ:Gam} {m:Gam->Q0->Res Bool}
abbrev ME:=Gam->Q0->Res PV
structure Tk where
 tr:List aB
 hid:List aB
variable {ρ:Tk} {P:Bool->Q0->Hp->Tk->Prop}
instance:Membership aB Tk:=⟨λt a=>a∈t.tr\/a∈t.hid⟩
def Tk.nil:Tk:=⟨[],[]⟩
theorem Tk.not_nil (a:aB):a∉Tk.nil:=λz=>by rcases z with z | z <;> cases z
def Tk.add (t:Tk) (p:aB):Tk:=⟨t.tr ++ [p],t.hid⟩
def Tk.hide (t:Tk) (p:aB):Tk:=⟨t.tr,p :: t.hid⟩
mutual
def Rep (H:Hp) (ρ:Tk):PV->V->Prop
 | .non,v=>v=.non
 | .bl b,v=>v=.bl b
 | .int i,v=>v=.int i
 | .str x,v=>v=.str x
 | .tup ps,v=>∃ a vs,v=.ref a/\H a=zo (.tup vs)/\a∉ρ/\RepL H ρ ps vs
 | .lst ps,v=>∃ a vs,v=.ref a/\H a=zo (.lst vs)/\a∉ρ/\RepL H ρ ps vs
 | .fro ps,v=>∃ a vs,v=.ref a/\Rd H a (.lst vs)/\a∉ρ/\RepL H ρ ps vs
 | .ref i,v=>∃ a,ρ.tr[i]?=zo a/\v=.ref a
 | .dic,v=>∃ a,v=.ref a/\H a=zo (.dK [])/\a∉ρ
def RepL (H:Hp) (ρ:Tk):List PV->List V->Prop
 | [],vs=>vs=[]
 | p :: ps,vs=>∃ v r,vs=v :: r/\Rep H ρ p v/\RepL H ρ ps r
end
structure Ext (H:Hp) (ρ:Tk) (H':Hp) (ρ':Tk):Prop where
 pre:ρ.tr <+: ρ'.tr
 hidM:∀ a,a∈ρ.hid->a∈ρ'.hid
 hidN:∀ a,a∈ρ'.hid->a∈ρ.hid\/H a=zl
 keep:∀ a o,H a=zo o->a∉ρ.tr->H' a=zo o
 new:∀ a,a∈ρ'.tr->a∈ρ.tr\/H a=zl
 old:∀ a o,H a=zo o->∃ o',H' a=zo o'
 frz:∀ a o u,H a=zo (.frz o u)->H' a=zo (.frz o u)
theorem Ext.refl (H:Hp) (ρ:Tk):Ext H ρ H ρ:=⟨dL _,λ_ h=>h,λ_ h=>.inl h,λ_ _ h _=>h,λ_ h=>.inl h,λ_ o h=>⟨o,h⟩,λ_ _ _ h=>h⟩
theorem Ext.trans {H1 H2:Hp} {ρ1 G:Tk} (a:Ext H ρ H1 ρ1) (b:Ext H1 ρ1 H2 G):Ext H ρ H2 G where
 pre:=a.pre.trans b.pre
 hidM:=λx h=>b.hidM x (a.hidM x h)
 hidN:=λx h=>by
  rcases b.hidN x h with z | z
  ·exact a.hidN x z
  ·right
   cases q:H x with
   | none=>rfl
   | some o=>
    obtain ⟨o',e⟩:=a.old x o q;rw [e] at z; cases z
 keep:=λx o h n=>b.keep x o (a.keep x o h n) λz=>by
  rcases a.new x z with z | z
  ·exact n z
  ·rw [h] at z; cases z
 new:=λx h=>by
  rcases b.new x h with z | z
  ·exact a.new x z
  ·right
   cases q:H x with
   | none=>rfl
   | some o=>
    obtain ⟨o',e⟩:=a.old x o q;rw [e] at z; cases z
 old:=λx o h=>by
  obtain ⟨o',e⟩:=a.old x o h;exact b.old x o' e
 frz:=λx o u h=>b.frz x o u (a.frz x o u h)
theorem Ext.add (h:H p=zl):Ext H ρ (upd H p o) ρ where
 pre:=dL _
 hidM:=λ_ h=>h
 hidN:=λ_ h=>.inl h
 keep:=λa u e _=>by rw [Q9 (Qa e h)]; exact e
 new:=λa e=>.inl e
 old:=λa u e=>⟨u,by rw [Q9 (Qa e h)]; exact e⟩
 frz:=λa o u e=>by rw [Q9 (Qa e h)]; exact e
theorem Ext.addT (h:H p=zl):Ext H ρ (upd H p o) (ρ.add p) where
 pre:=eN _ _
 hidM:=λ_ h=>h
 hidN:=λ_ h=>.inl h
 keep:=λa u e _=>by rw [Q9 (Qa e h)]; exact e
 new:=λa e=>by
  rcases D9.mp e with z | z
  ·exact .inl z
  ·right
   have:a=p:=by simpa using z
   rw [this]; exact h
 old:=λa u e=>⟨u,by rw [Q9 (Qa e h)]; exact e⟩
 frz:=λa o u e=>by rw [Q9 (Qa e h)]; exact e
theorem Ext.same (h:Same H H'):Ext H ρ H' ρ:=⟨dL _,λ_ h=>h,λ_ h=>.inl h,λa o e _=>h a o e,λ_ e=>.inl e,λa o e=>⟨o,h a o e⟩,λa o u e=>h a _ e⟩
section
variable {H H':Hp} {ρ ρ':Tk}
theorem X3 (x:Ext H ρ H' ρ') (h:H a=zo o) (n:a∉ρ):a∉ρ':=λz=>by
 rcases z with z | z
 ·rcases x.new a z with z | z
  ·exact n (.inl z)
  ·rw [h] at z; cases z
 ·rcases x.hidN a z with z | z
  ·exact n (.inr z)
  ·rw [h] at z; cases z
theorem Ext.kp (x:Ext H ρ H' ρ') (h:H a=zo o) (n:a∉ρ):H' a=zo o:=x.keep a o h λz=>n (.inl z)
mutual
theorem Rep.ext (x:Ext H ρ H' ρ'):∀ {p:PV} {v:V},Rep H ρ p v->Rep H' ρ' p v
 | .non,_,h=>h
 | .bl _,_,h=>h
 | .int _,_,h=>h
 | .str _,_,h=>h
 | .tup ps,v,h=>by
  obtain ⟨a,vs,e,s,n,r⟩:=h;exact ⟨a,vs,e,x.kp s n,X3 x s n,RepL.ext x r⟩
 | .lst ps,v,h=>by
  obtain ⟨a,vs,e,s,n,r⟩:=h;exact ⟨a,vs,e,x.kp s n,X3 x s n,RepL.ext x r⟩
 | .fro ps,v,h=>by
  obtain ⟨a,vs,e,s,n,r⟩:=h;rcases s with s | ⟨o,s⟩
  ·exact ⟨a,vs,e,.inl (x.kp s n),X3 x s n,RepL.ext x r⟩
  ·exact ⟨a,vs,e,.inr ⟨o,x.kp s n⟩,X3 x s n,RepL.ext x r⟩
 | .ref i,v,h=>by
  obtain ⟨a,e,rfl⟩:=h;obtain ⟨t,q⟩:=x.pre;refine ⟨a,?_,rfl⟩;rw [<- q,O8 (O2.mp e).1];exact e
 | .dic,v,h=>by
  obtain ⟨a,e,s,n⟩:=h;exact ⟨a,e,x.kp s n,X3 x s n⟩
theorem RepL.ext (x:Ext H ρ H' ρ'):∀ {ps:List PV} {vs:List V},RepL H ρ ps vs->RepL H' ρ' ps vs
 | [],_,h=>h
 | p :: ps,vs,h=>by
  obtain ⟨v,r,e,h1,h2⟩:=h;exact ⟨v,r,e,Rep.ext x h1,RepL.ext x h2⟩
end
mutual
theorem Rep.hide (h:H a=zl):∀ {p:PV} {v:V},Rep H ρ p v->Rep (upd H a o) (ρ.hide a) p v
 | .non,_,r=>r
 | .bl _,_,r=>r
 | .int _,_,r=>r
 | .str _,_,r=>r
 | .tup ps,v,⟨b,vs,e,s,n,r⟩=>⟨b,vs,e,by rw [Q9 (Qa s h)]; exact s,λz=>by
   rcases z with z | z
   ·exact n (.inl z)
   ·rcases D5.mp z with z | z
    ·exact Qa s h z
    ·exact n (.inr z),RepL.hide h r⟩
 | .lst ps,v,⟨b,vs,e,s,n,r⟩=>⟨b,vs,e,by rw [Q9 (Qa s h)]; exact s,λz=>by
   rcases z with z | z
   ·exact n (.inl z)
   ·rcases D5.mp z with z | z
    ·exact Qa s h z
    ·exact n (.inr z),RepL.hide h r⟩
 | .fro ps,v,⟨b,vs,e,s,n,r⟩=>by
   have ne:b≠a:=by
    rcases s with s | ⟨_,s⟩
    ·exact Qa s h
    ·exact Qa s h
   refine ⟨b,vs,e,?_,λz=>?_,RepL.hide h r⟩
   ·rcases s with s | ⟨u,s⟩
    ·exact .inl (by rw [Q9 ne]; exact s)
    ·exact .inr ⟨u,by rw [Q9 ne]; exact s⟩
   ·rcases z with z | z
    ·exact n (.inl z)
    ·rcases D5.mp z with z | z
     ·exact ne z
     ·exact n (.inr z)
 | .ref i,v,r=>r
 | .dic,v,⟨b,e,s,n⟩=>⟨b,e,by rw [Q9 (Qa s h)]; exact s,λz=>by
   rcases z with z | z
   ·exact n (.inl z)
   ·rcases D5.mp z with z | z
    ·exact Qa s h z
    ·exact n (.inr z)⟩
theorem RepL.hide (h:H a=zl):∀ {ps:List PV} {vs:List V},RepL H ρ ps vs->RepL (upd H a o) (ρ.hide a) ps vs
 | [],_,r=>r
 | p :: ps,_,⟨v,t,e,q,G⟩=>⟨v,t,e,Rep.hide h q,RepL.hide h G⟩
end
mutual
theorem Rep.rehide (h:a∈ρ.hid):∀ {p:PV} {v:V},Rep H ρ p v->Rep (upd H a o) ρ p v
 | .non,_,r=>r
 | .bl _,_,r=>r
 | .int _,_,r=>r
 | .str _,_,r=>r
 | .tup ps,v,⟨b,vs,e,s,n,r⟩=>⟨b,vs,e,by rw [Q9 (show b≠a from λz=>n (.inr (by rw [z]; exact h)))]; exact s,n,RepL.rehide h r⟩
 | .lst ps,v,⟨b,vs,e,s,n,r⟩=>⟨b,vs,e,by rw [Q9 (show b≠a from λz=>n (.inr (by rw [z]; exact h)))]; exact s,n,RepL.rehide h r⟩
 | .fro ps,v,⟨b,vs,e,s,n,r⟩=>by
   have ne:b≠a:=λz=>n (.inr (by rw [z]; exact h))
   refine ⟨b,vs,e,?_,n,RepL.rehide h r⟩;rcases s with s | ⟨u,s⟩
   ·exact .inl (by rw [Q9 ne]; exact s)
   ·exact .inr ⟨u,by rw [Q9 ne]; exact s⟩
 | .ref i,v,r=>r
 | .dic,v,⟨b,e,s,n⟩=>⟨b,e,by rw [Q9 (show b≠a from λz=>n (.inr (by rw [z]; exact h)))]; exact s,n⟩
theorem RepL.rehide (h:a∈ρ.hid):∀ {ps:List PV} {vs:List V},RepL H ρ ps vs->RepL (upd H a o) ρ ps vs
 | [],_,r=>r
 | p :: ps,_,⟨v,t,e,q,G⟩=>⟨v,t,e,Rep.rehide h q,RepL.rehide h G⟩
end
mutual
theorem Rep.retr (h:a∈ρ.tr):∀ {p:PV} {v:V},Rep H ρ p v->Rep (upd H a o) ρ p v
 | .non,_,r=>r
 | .bl _,_,r=>r
 | .int _,_,r=>r
 | .str _,_,r=>r
 | .tup ps,v,⟨b,vs,e,s,n,r⟩=>⟨b,vs,e,by rw [Q9 (show b≠a from λz=>n (.inl (by rw [z]; exact h)))]; exact s,n,RepL.retr h r⟩
 | .lst ps,v,⟨b,vs,e,s,n,r⟩=>⟨b,vs,e,by rw [Q9 (show b≠a from λz=>n (.inl (by rw [z]; exact h)))]; exact s,n,RepL.retr h r⟩
 | .fro ps,v,⟨b,vs,e,s,n,r⟩=>by
   have ne:b≠a:=λz=>n (.inl (by rw [z]; exact h))
   refine ⟨b,vs,e,?_,n,RepL.retr h r⟩;rcases s with s | ⟨u,s⟩
   ·exact .inl (by rw [Q9 ne]; exact s)
   ·exact .inr ⟨u,by rw [Q9 ne]; exact s⟩
 | .ref i,v,r=>r
 | .dic,v,⟨b,e,s,n⟩=>⟨b,e,by rw [Q9 (show b≠a from λz=>n (.inl (by rw [z]; exact h)))]; exact s,n⟩
theorem RepL.retr (h:a∈ρ.tr):∀ {ps:List PV} {vs:List V},RepL H ρ ps vs->RepL (upd H a o) ρ ps vs
 | [],_,r=>r
 | p :: ps,_,⟨v,t,e,q,G⟩=>⟨v,t,e,Rep.retr h q,RepL.retr h G⟩
end
mutual
theorem Rep.unhide (q:∀ a,a∈hs->a∈ρ.hid):∀ {p:PV} {v:V},Rep H ρ p v->Rep H ⟨ρ.tr,hs⟩ p v
 | .non,_,r=>r
 | .bl _,_,r=>r
 | .int _,_,r=>r
 | .str _,_,r=>r
 | .tup ps,v,⟨b,vs,e,s,n,r⟩=>⟨b,vs,e,s,λz=>n (z.imp id (q _)),RepL.unhide q r⟩
 | .lst ps,v,⟨b,vs,e,s,n,r⟩=>⟨b,vs,e,s,λz=>n (z.imp id (q _)),RepL.unhide q r⟩
 | .fro ps,v,⟨b,vs,e,s,n,r⟩=>⟨b,vs,e,s,λz=>n (z.imp id (q _)),RepL.unhide q r⟩
 | .ref i,v,r=>r
 | .dic,v,⟨b,e,s,n⟩=>⟨b,e,s,λz=>n (z.imp id (q _))⟩
theorem RepL.unhide (q:∀ a,a∈hs->a∈ρ.hid):∀ {ps:List PV} {vs:List V},RepL H ρ ps vs->RepL H ⟨ρ.tr,hs⟩ ps vs
 | [],_,r=>r
 | p :: ps,_,⟨v,t,e,G,I⟩=>⟨v,t,e,Rep.unhide q G,RepL.unhide q I⟩
end
theorem RepL.length:∀ {ps:List PV} {vs:List V},RepL H ρ ps vs->ps.length=vs.length
 | [],_,h=>by cases h; rfl
 | p :: ps,_,⟨v,r,rfl,_,h2⟩=>by rw [D4,D4,RepL.length h2]
theorem RepL.get:∀ {ps:List PV} {vs:List V} {i:Nat} {p:PV},RepL H ρ ps vs->ps[i]?=zo p->∃ v,vs[i]?=zo v/\Rep H ρ p v
 | [],_,_,_,_,e=>by simp at e
 | p :: ps,_,0,q,⟨v,r,rfl,h1,h2⟩,e=>by simp at e; subst e; exact ⟨v,rfl,h1⟩
 | p :: ps,_,i + 1,q,⟨v,r,rfl,h1,h2⟩,e=>by
  obtain ⟨u,G,I⟩:=RepL.get (i:=i) h2 (by simpa using e);exact ⟨u,by simpa using G,I⟩
theorem RepL.cons {p:PV} (h:Rep H ρ p v) (r:RepL H ρ ps vs):RepL H ρ (p :: ps) (v :: vs):=⟨v,vs,rfl,h,r⟩
theorem RepL.nil:RepL H ρ [] []:=rfl
theorem RepL.append:∀ {ps q:List PV} {vs us:List V},RepL H ρ ps vs->RepL H ρ q us->RepL H ρ (ps ++ q) (vs ++ us)
 | [],_,_,_,h,g=>by cases h; exact g
 | p :: ps,_,_,_,⟨v,r,rfl,h1,h2⟩,g=>⟨v,_,rfl,h1,RepL.append h2 g⟩
theorem RepL.take:∀ {ps:List PV} {vs:List V} (n:Nat),RepL H ρ ps vs->RepL H ρ (ps.take n) (vs.take n)
 | _,_,0,_=>rfl
 | [],_,n + 1,h=>by cases h; rfl
 | p :: ps,_,n + 1,⟨v,r,rfl,h1,h2⟩=>⟨v,_,rfl,h1,RepL.take n h2⟩
theorem RepL.drop:∀ {ps:List PV} {vs:List V} (n:Nat),RepL H ρ ps vs->RepL H ρ (ps.drop n) (vs.drop n)
 | _,_,0,h=>h
 | [],_,n + 1,h=>by cases h; rfl
 | p :: ps,_,n + 1,⟨v,r,rfl,h1,h2⟩=>RepL.drop n h2
theorem RepL.set {p:PV} (h:Rep H ρ p v):∀ {ps:List PV} {vs:List V} (i:Nat),RepL H ρ ps vs->RepL H ρ (ps.set i p) (vs.set i v)
 | [],_,_,g=>by cases g; rfl
 | q :: ps,_,0,⟨u,r,rfl,h1,h2⟩=>⟨v,r,rfl,h,h2⟩
 | q :: ps,_,i + 1,⟨u,r,rfl,h1,h2⟩=>⟨u,_,rfl,h1,RepL.set h i h2⟩
theorem RepL.reverse:∀ {ps:List PV} {vs:List V},RepL H ρ ps vs->RepL H ρ ps.reverse vs.reverse
 | [],_,g=>by cases g; rfl
 | q :: ps,_,⟨u,r,rfl,h1,h2⟩=>by rw [cS,cS]; exact (RepL.reverse h2).append (RepL.cons h1 RepL.nil)
theorem RepL.rep (h:RepL H ρ ps vs):∀ n,RepL H ρ (ba n ps).flatten (ba n vs).flatten
 | 0=>rfl
 | n + 1=>by rw [L7,L7,dB,dB]; exact h.append (RepL.rep h n)
theorem RepL.toInts:∀ {ns:List Int} {vs:List V},RepL H ρ (ns.map .int) vs->vs=ns.map V.int
 | [],_,h=>h
 | n :: ns,_,⟨v,r,rfl,h1,h2⟩=>by
  have e:v=V.int n:=h1;rw [RepL.toInts h2,e]; rfl
theorem RepL.toBls:∀ {ns:List Bool} {vs:List V},RepL H ρ (ns.map .bl) vs->vs=ns.map V.bl
 | [],_,h=>h
 | n :: ns,_,⟨v,r,rfl,h1,h2⟩=>by
  have e:v=V.bl n:=h1;rw [RepL.toBls h2,e]; rfl
end
def RepD {κ:Type} (H:Hp) (ρ:Tk) (kvs:List (κ × PV)) (vs:List (κ × V)):Prop:=vs.map bq=kvs.map bq/\RepL H ρ (kvs.map cW) (vs.map cW)
theorem RepD.ext {ρ':Tk} {q:List (κ × PV)} {vs:List (κ × V)} (x:Ext H ρ H' ρ') (r:RepD H ρ q vs):RepD H' ρ' q vs:=⟨r.1,r.2.ext x⟩
theorem RepD.length {q:List (κ × PV)} {vs:List (κ × V)} (r:RepD H ρ q vs):q.length=vs.length:=by
 have:=congrArg dA r.1;rw [O1,O1] at this;exact this.symm
def CellR (H:Hp) (ρ:Tk) (a:aB):Cell->Prop
 | .lst ps=>∃ vs,H a=zo (.lst vs)/\RepL H ρ ps vs
 | .dic kvs=>∃ vs,H a=zo (.dK vs)/\RepD H ρ kvs vs
 | .dtp kvs=>∃ vs,H a=zo (.dT vs)/\RepD H ρ kvs vs
 | .frd kvs=>∃ vs,(∃ o,H a=zo (.frz o (.dK vs)))/\RepD H ρ kvs vs
 | .obj C fs=>∃ vs,(∃ dx,H a=zo (.ins C dx vs))/\RepD H ρ fs vs
theorem CellR.dom :∀ {c:Cell},CellR H ρ a c->∃ o,H a=zo o
 | .lst _,⟨_,e,_⟩=>⟨_,e⟩
 | .dic _,⟨_,e,_⟩=>⟨_,e⟩
 | .dtp _,⟨_,e,_⟩=>⟨_,e⟩
 | .frd _,⟨_,⟨_,e⟩,_⟩=>⟨_,e⟩
 | .obj _ _,⟨_,⟨_,e⟩,_⟩=>⟨_,e⟩
theorem CellR.ext {ρ':Tk} (x:Ext H ρ H' ρ') (k:∀ o,H a=zo o->H' a=zo o):∀ {c:Cell},CellR H ρ a c->CellR H' ρ' a c
 | .lst _,⟨vs,e,r⟩=>⟨vs,k _ e,r.ext x⟩
 | .dic _,⟨vs,e,r⟩=>⟨vs,k _ e,r.ext x⟩
 | .dtp _,⟨vs,e,r⟩=>⟨vs,k _ e,r.ext x⟩
 | .frd _,⟨vs,⟨o,e⟩,r⟩=>⟨vs,⟨o,k _ e⟩,r.ext x⟩
 | .obj _ _,⟨vs,⟨o,e⟩,r⟩=>⟨vs,⟨o,k _ e⟩,r.ext x⟩
structure Rel (H:Hp) (ρ:Tk) (st:Q0):Prop where
 len:ρ.tr.length=st.length
 nd:ρ.tr.Nodup
 hd:∀ a∈ρ.hid,∃ o,H a=zo o/\∀ xs,o≠.tup xs
 ap:∀ a∈ρ.hid,a∉ρ.tr
 cell:∀ (i:Nat) (a:aB) (c:Cell),ρ.tr[i]?=zo a->st[i]?=zo c->CellR H ρ a c
section
variable {H H':Hp} {ρ ρ':Tk} {st st':Q0}
theorem Rel.lst (R:Rel H ρ st) {i:Nat} (h:st[i]?=zo (.lst ps)):∃ a vs,ρ.tr[i]?=zo a/\H a=zo (.lst vs)/\RepL H ρ ps vs:=by
 have hi:i < ρ.tr.length:=by rw [R.len]; exact (O2.mp h).1
 have e:ρ.tr[i]?=zo ρ.tr[i]:=O3 hi;obtain ⟨vs,q,G⟩:=R.cell i _ _ e h;exact ⟨_,vs,e,q,G⟩
theorem Rel.dtp (R:Rel H ρ st) {i:Nat} {q:List (HK × PV)} (h:st[i]?=zo (.dtp q)):∃ a vs,ρ.tr[i]?=zo a/\H a=zo (.dT vs)/\RepD H ρ q vs:=by
 have hi:i < ρ.tr.length:=by rw [R.len]; exact (O2.mp h).1
 have e:ρ.tr[i]?=zo ρ.tr[i]:=O3 hi;obtain ⟨vs,G,I⟩:=R.cell i _ _ e h;exact ⟨_,vs,e,G,I⟩
theorem Rel.dom (R:Rel H ρ st) (h:a∈ρ.tr):∃ o,H a=zo o:=by
 obtain ⟨i,hi,e⟩:=G6 h;have hs:i < st.length:=by rw [<- R.len]; exact hi
 have q:=R.cell i a st[i] (by rw [O3 hi,e]) (O3 hs);exact q.dom
theorem Rel.fresh (R:Rel H ρ st) (h:H p=zl):p∉ρ:=λz=>by
 rcases z with z | z
 ·obtain ⟨vs,q⟩:=R.dom z;rw [h] at q; cases q
 ·obtain ⟨o,q,_⟩:=R.hd p z;rw [h] at q; cases q
theorem Rel.later (R:Rel H ρ st) (x:Ext H ρ H' ρ) (k:∀ a o,a∈ρ.tr->H a=zo o->H' a=zo o):Rel H' ρ st where
 len:=R.len
 nd:=R.nd
 hd:=λa q=>let ⟨o,e,n⟩:=R.hd a q; ⟨o,x.keep a o e (R.ap a q),n⟩
 ap:=R.ap
 cell:=λi a c h1 h2=>by
  exact (R.cell i a c h1 h2).ext x λo e=>k a o (E6 h1) e
end
theorem Rel.add (R:Rel H ρ st) (h:H p=zl):Rel (upd H p o) ρ st:=
 R.later (Ext.add h) λa u hm e=>by rw [Q9 (Qa e h)]; exact e
theorem Rel.same (R:Rel H ρ st) (h:Same H H'):Rel H' ρ st:=R.later (Ext.same h) λa u _ e=>h a u e
theorem Rel.addC (R:Rel H ρ st) (h:H p=zl) (r:CellR (upd H p o) (ρ.add p) p cl):Rel (upd H p o) (ρ.add p) (st ++ [cl]) where
 len:=by show (ρ.tr ++ [p]).length=_; rw [O6,O6,R.len]; rfl
 nd:=cV.mpr ⟨R.nd,by simp,λa q b I e=>by
  have:b=p:=by simpa using I
  subst this; subst e;exact R.fresh h (.inl q)⟩
 hd:=λa q=>let ⟨o,e,n⟩:=R.hd a q; ⟨o,by rw [Q9 (Qa e h)]; exact e,n⟩
 ap:=λa q z=>by
  rcases D9.mp z with z | z
  ·exact R.ap a q z
  ·have:a=p:=by simpa using z
   subst this;exact R.fresh h (.inr q)
 cell:=λi a c h1 h2=>by
  have h1:(ρ.tr ++ [p])[i]?=zo a:=h1
  by_cases hi:i < st.length
  ·rw [O8 (by rw [R.len]; exact hi)] at h1;rw [O8 hi] at h2;exact (R.cell i a c h1 h2).ext (Ext.addT h) λu e=>by rw [Q9 (Qa e h)]; exact e
  ·rw [D6 (by rw [R.len]; omega)] at h1;rw [D6 (by omega)] at h2;have G:i - st.length=0:=by
    rcases fg (i - st.length) with z | z
    ·exact z
    ·rw [G9 (by simp; omega)] at h2; cases h2
   rw [R.len,G] at h1;rw [G] at h2;simp at h1 h2;subst h1; subst h2;exact r
theorem Q4n {α:Type} {l:List α} (h:l.Nodup) {i j:Nat} (hi:i < l.length) (q:j < l.length) (e:l[i]=l[j]):i=j:=by
 rcases Nat.lt_trichotomy i j with z | z | z
 ·exact absurd e ((eC.mp h) i j hi q z)
 ·exact z
 ·exact absurd e.symm ((eC.mp h) j i q hi z)
theorem Ext.put {o':HO} (h:a∈ρ.tr) (e:H a=zo o) (G:∀ q u,o≠.frz q u:=by intro _ _ z; cases z):Ext H ρ (upd H a o') ρ where
 pre:=dL _
 hidM:=λ_ h=>h
 hidN:=λ_ h=>.inl h
 keep:=λb u q n=>by rw [Q9 (show b≠a from λz=>n (by rw [z]; exact h))]; exact q
 new:=λb q=>.inl q
 old:=λb u q=>by
  by_cases z:b=a
  ·exact ⟨o',by rw [z]; exact Qt⟩
  ·exact ⟨u,by rw [Q9 z]; exact q⟩
 frz:=λb q u k=>by
  by_cases z:b=a
  ·rw [z,e] at k; cases k; exact absurd rfl (G _ _)
  ·rw [Q9 z]; exact k
theorem Rel.putC (R:Rel H ρ st) {i:Nat} {o':HO} (hi:ρ.tr[i]?=zo a) (e:H a=zo o) (r:CellR (upd H a o') ρ a cl):Rel (upd H a o') ρ (st.set i cl) where
 len:=by rw [G7]; exact R.len
 nd:=R.nd
 hd:=λb J=>let ⟨u,q,n⟩:=R.hd b J; ⟨u,by rw [Q9 (show b≠a from λz=>R.ap b J (by rw [z]; exact E6 hi))]; exact q,n⟩
 ap:=R.ap
 cell:=λj b c h1 h2=>by
  by_cases U:i=j
  ·subst U;rw [hi] at h1; cases h1;rw [E5 (by rw [<- R.len]; exact (O2.mp hi).1)] at h2;cases h2;exact r
  ·rw [E7 U] at h2;have q:=R.cell j b c h1 h2;have J:b≠a:=λz=>by
    subst z;have l1:=(O2.mp hi);have l2:=(O2.mp h1);exact U (Q4n R.nd l1.1 l2.1 (l1.2.trans l2.2.symm))
   have hm:=E6 hi;cases c with
   | lst ps=>
    obtain ⟨vs,I,G⟩:=q;exact ⟨vs,by rw [Q9 J]; exact I,G.retr hm⟩
   | dic ps=>
    obtain ⟨vs,I,G⟩:=q;exact ⟨vs,by rw [Q9 J]; exact I,G.1,G.2.retr hm⟩
   | dtp ps=>
    obtain ⟨vs,I,G⟩:=q;exact ⟨vs,by rw [Q9 J]; exact I,G.1,G.2.retr hm⟩
   | frd ps=>
    obtain ⟨vs,⟨O,I⟩,G⟩:=q;exact ⟨vs,⟨O,by rw [Q9 J]; exact I⟩,G.1,G.2.retr hm⟩
   | obj C ps=>
    obtain ⟨vs,⟨O,I⟩,G⟩:=q;exact ⟨vs,⟨O,by rw [Q9 J]; exact I⟩,G.1,G.2.retr hm⟩
theorem Rel.put (R:Rel H ρ st) {i:Nat} (hi:ρ.tr[i]?=zo a) (e:H a=zo o) (r:RepL H ρ ps vs):Rel (upd H a (.lst vs)) ρ (st.set i (.lst ps)):=
 R.putC hi e ⟨vs,Qt,r.retr (E6 hi)⟩
theorem Rel.hide (R:Rel H ρ st) (h:H p=zl) (Y:∀ xs,o≠.tup xs:=by intro _ z; cases z):Rel (upd H p o) (ρ.hide p) st:=by
 have x:Ext H ρ (upd H p o) ρ:=Ext.add h;have O:=R.add (p:=p) (o:=o) h;refine ⟨O.len,O.nd,λa J=>?_,λa J z=>?_,λi a c h1 h2=>?_⟩
 ·rcases D5.mp J with rfl | J
  ·exact ⟨o,Qt,Y⟩
  ·exact O.hd a J
 ·rcases D5.mp J with rfl | J
  ·exact R.fresh h (.inl z)
  ·exact R.ap a J z
 ·have q:=R.cell i a c h1 h2;cases c with
  | lst ps=>
   obtain ⟨vs,G,I⟩:=q;exact ⟨vs,by rw [Q9 (Qa G h)]; exact G,I.hide h⟩
  | dic ps=>
   obtain ⟨vs,G,I⟩:=q;exact ⟨vs,by rw [Q9 (Qa G h)]; exact G,I.1,I.2.hide h⟩
  | dtp ps=>
   obtain ⟨vs,G,I⟩:=q;exact ⟨vs,by rw [Q9 (Qa G h)]; exact G,I.1,I.2.hide h⟩
  | frd ps=>
   obtain ⟨vs,⟨U,G⟩,I⟩:=q;exact ⟨vs,⟨U,by rw [Q9 (Qa G h)]; exact G⟩,I.1,I.2.hide h⟩
  | obj C ps=>
   obtain ⟨vs,⟨U,G⟩,I⟩:=q;exact ⟨vs,⟨U,by rw [Q9 (Qa G h)]; exact G⟩,I.1,I.2.hide h⟩
theorem Rel.rehide (R:Rel H ρ st) (h:p∈ρ.hid) (U:∀ xs,o≠.tup xs:=by intro _ z; cases z):Rel (upd H p o) ρ st:=by
 refine ⟨R.len,R.nd,λa O=>?_,R.ap,λi a c h1 h2=>?_⟩
 ·by_cases e:a=p
  ·exact ⟨o,by rw [e]; exact Qt,U⟩
  ·obtain ⟨u,q,n⟩:=R.hd a O;exact ⟨u,by rw [Q9 e]; exact q,n⟩
 ·have q:=R.cell i a c h1 h2;have ne:a≠p:=λz=>R.ap p h (by rw [<- z]; exact E6 h1)
  cases c with
  | lst ps=>
   obtain ⟨vs,I,G⟩:=q;exact ⟨vs,by rw [Q9 ne]; exact I,G.rehide h⟩
  | dic ps=>
   obtain ⟨vs,I,G⟩:=q;exact ⟨vs,by rw [Q9 ne]; exact I,G.1,G.2.rehide h⟩
  | dtp ps=>
   obtain ⟨vs,I,G⟩:=q;exact ⟨vs,by rw [Q9 ne]; exact I,G.1,G.2.rehide h⟩
  | frd ps=>
   obtain ⟨vs,⟨J,I⟩,G⟩:=q;exact ⟨vs,⟨J,by rw [Q9 ne]; exact I⟩,G.1,G.2.rehide h⟩
  | obj C ps=>
   obtain ⟨vs,⟨J,I⟩,G⟩:=q;exact ⟨vs,⟨J,by rw [Q9 ne]; exact I⟩,G.1,G.2.rehide h⟩
theorem Rel.unhide (J:∀ a,a∈hs->a∈ρ.hid) (R:Rel H ρ st):Rel H ⟨ρ.tr,hs⟩ st:=by
 refine ⟨R.len,R.nd,λa O=>R.hd a (J a O),λa O=>R.ap a (J a O),λi a c h1 h2=>?_⟩;have q:=R.cell i a c h1 h2;cases c with
 | lst ps=>
  obtain ⟨vs,I,G⟩:=q;exact ⟨vs,I,RepL.unhide J G⟩
 | dic ps=>
  obtain ⟨vs,I,G⟩:=q;exact ⟨vs,I,G.1,RepL.unhide J G.2⟩
 | dtp ps=>
  obtain ⟨vs,I,G⟩:=q;exact ⟨vs,I,G.1,RepL.unhide J G.2⟩
 | frd ps=>
  obtain ⟨vs,I,G⟩:=q;exact ⟨vs,I,G.1,RepL.unhide J G.2⟩
 | obj C ps=>
  obtain ⟨vs,I,G⟩:=q;exact ⟨vs,I,G.1,RepL.unhide J G.2⟩
theorem Ext.hide (h:H p=zl):Ext H ρ (upd H p o) (ρ.hide p) where
 pre:=dL _
 hidM:=λ_ h=>O4 _ h
 hidN:=λa q=>by
  rcases D5.mp q with rfl | q
  ·exact .inr h
  ·exact .inl q
 keep:=λa u e _=>by rw [Q9 (Qa e h)]; exact e
 new:=λa e=>.inl e
 old:=λa u e=>⟨u,by rw [Q9 (Qa e h)]; exact e⟩
 frz:=λa o u e=>by rw [Q9 (Qa e h)]; exact e
theorem Ext.put0 {H1:Hp} {ρ1:Tk} (x:Ext H ρ H1 ρ1) (h:H p=zl):Ext H ρ (upd H1 p o) ρ1 where
 pre:=x.pre
 hidM:=x.hidM
 hidN:=x.hidN
 keep:=λa u e n=>by rw [Q9 (Qa e h)]; exact x.keep a u e n
 new:=x.new
 old:=λa u e=>by rw [Q9 (Qa e h)]; exact x.old a u e
 frz:=λa o u e=>by rw [Q9 (Qa e h)]; exact x.frz a o u e
theorem Ext.unhide {H1:Hp} {ρ1:Tk} (x:Ext H ρ H1 ρ1):Ext H ρ H1 ⟨ρ1.tr,ρ.hid⟩ where
 pre:=x.pre
 hidM:=λ_ h=>h
 hidN:=λ_ h=>.inl h
 keep:=x.keep
 new:=x.new
 old:=x.old
 frz:=x.frz
def EnvR (H:Hp) (ρ:Tk) (Γ:Gam) (σ:St):Prop:=Γ.length=σ.length/\∀ (i:Nat) (p:PV),Γ[i]?=zo (zo p)->∃ v,σ[i]?=zo (zo v)/\Rep H ρ p v
theorem EnvR.ext {ρ':Tk} (x:Ext H ρ H' ρ') (h:EnvR H ρ Γ σ):EnvR H' ρ' Γ σ:=
 ⟨h.1,λi p e=>let ⟨v,a,b⟩:=h.2 i p e; ⟨v,a,b.ext x⟩⟩
theorem EnvR.hide (n:H a=zl) (h:EnvR H ρ Γ σ):EnvR (upd H a o) (ρ.hide a) Γ σ:=⟨h.1,λi p e=>let ⟨v,a,b⟩:=h.2 i p e; ⟨v,a,b.hide n⟩⟩
theorem EnvR.rehide (n:a∈ρ.hid) (h:EnvR H ρ Γ σ):EnvR (upd H a o) ρ Γ σ:=⟨h.1,λi p e=>let ⟨v,a,b⟩:=h.2 i p e; ⟨v,a,b.rehide n⟩⟩
theorem EnvR.set {p:PV} (h:EnvR H ρ Γ σ) (r:Rep H ρ p v) (i:Nat):EnvR H ρ (Γ.set i (zo p)) (σ.set i (zo v)):=by
 refine ⟨by rw [G7,G7]; exact h.1,λj q e=>?_⟩;rw [iV] at e;rw [iV]
 by_cases I:i=j
 ·subst I;simp only [if_true] at e ⊢
  by_cases G:i < Γ.length
  ·rw [bT G] at e; cases e;rw [bT (by rw [<- h.1]; exact G)];exact ⟨v,rfl,r⟩
  ·rw [bU G] at e; cases e
 ·rw [bU I] at e ⊢;exact h.2 j q e
end
def Res.bind {α β:Type} (r:Res α) (f:α->Q0->Res β):Res β:=match r with
 | .ok a st=>f a st
 | .exc x st=>.exc x st
 | .stuck=>.stuck
def okO {α:Type} (st:Q0):Option α->Res α
 | some a=>.ok a st
 | none=>.stuck
section
variable (X:Cx)
def WE (e:aH):TE:=λσ H Q=>∀ (pins:zAA) (s:aC),Inv X pins σ H s->aF (aI X.prog X.w) X.A (aO e X.env) (EP X pins σ Q) X.xe s
def WT (e:aH):TT:=λσ H Q=>∀ (pins:zAA) (s:aC),Inv X pins σ H s->aF (aI X.prog X.w) X.A (isTrue e X.env (aO e X.env)) (TP X pins σ Q) X.xe s
def WW (e:aH):TT:=λσ H Q=>∀ (wh:Sem aA) (pins:zAA) (s:aC),Inv X pins σ H s->aF (aI X.prog X.w) X.A (isTrue e X.env wh) (TP X pins σ Q) X.xe s
def WA (es:List aH):TA:=λσ H Q=>∀ (pos:Pos) (pins:zAA) (s:aC),Inv X pins σ H s->aF (aI X.prog X.w) X.A (spliced (ae pos (aN es X.env))) (AP X pins σ Q) X.xe s
def WS (st:aM):TS:=λD σ H=>∀ (pins:zAA) (s:aC),Inv X pins σ H s->aF (aI X.prog X.w) X.A (exec st X.env) (SP X pins D) X.xe s
def WB (st:List aM):TS:=λD σ H=>∀ (pins:zAA) (s:aC),Inv X pins σ H s->aF (aI X.prog X.w) X.A (execs st X.env) (SP X pins D) X.xe s
def WI (tg iter : aH) : TI := λσ H R => ∀ (pins : zAA) (s : aC), Inv X pins σ H s ->
  aF (aI X.prog X.w) X.A (aO iter X.env) (λv s1=>aF (aI X.prog X.w) X.A (pyIter v) (PIE X pins σ tg R) X.xe s1) X.xe s
def WO (f:aA->aA->Sem aA):R2:=λx y H Q=>∀ (pins:zAA) (s:aC) (σ:St) (v u:aA),Inv X pins σ H s->RelV x v->RelV y u->aF (aI X.prog X.w) X.A (f v u) (EP X pins σ Q) X.xe s
def WC (f:aA):List V->Hp->VK->Prop:=λxs H Q=>∀ (pins:zAA) (s:aC) (σ:St) (us:List aA),Inv X pins σ H s->Vals xs us->aF (aI X.prog X.w) X.A (call f us) (EP X pins σ Q) X.xe s
end
variable {X:Cx}
theorem J1 :PE X e (WE X e):=λpins s _ _ _ I h=>h pins s I
theorem Q7w :PT X e (WT X e):=λpins s _ _ _ I h=>h pins s I
theorem Qv5 :PW X e (WW X e):=λq pins s _ _ _ I h=>h q pins s I
theorem Q0u :PA X es (WA X es):=λpos pins s _ _ _ I h=>h pos pins s I
theorem Qv7 {st:aM}:PS X st (WS X st):=λpins s _ _ _ I h=>h pins s I
theorem Q25 {st:List aM}:PSs X st (WB X st):=λpins s _ _ _ I h=>h pins s I
theorem Qre {tg iter:aH}:PI X tg iter (WI X tg iter):=λpins s _ _ _ I h=>h pins s I
theorem Q9y :OpR X f (WO X f):=λpins s σ _ _ _ v u _ I q G h=>h pins s σ v u I q G
theorem Qix {f:aA}:Wg X f (WC X f):=λpins s σ _ _ us _ I r h=>h pins s σ us I r
theorem WE.of {t:TE} {Q:VK} (h:PE X e t) (q:t σ H Q):WE X e σ H Q:=λpins s I=>h pins s σ H Q I q
theorem WT.of {t:TT} (h:PT X e t) (q:t σ H Q):WT X e σ H Q:=λpins s I=>h pins s σ H Q I q
theorem WW.of {t:TT} (h:PW X e t) (q:t σ H Q):WW X e σ H Q:=λG pins s I=>h G pins s σ H Q I q
theorem WA.of {t:TA} {Q:List V->Hp->Prop} (h:PA X es t) (q:t σ H Q):WA X es σ H Q:=λpos pins s I=>h pos pins s σ H Q I q
theorem WS.of {st:aM} {t:TS} (h:PS X st t) (q:t D σ H):WS X st D σ H:=λpins s I=>h pins s σ H D I q
theorem WB.of {st:List aM} {t:TS} (h:PSs X st t) (q:t D σ H):WB X st D σ H:=λpins s I=>h pins s σ H D I q
theorem WI.of {tg iter:aH} {t:TI} {R:It->Hp->Prop} (h:PI X tg iter t) (q:t σ H R):WI X tg iter σ H R:=λpins s I=>h pins s σ H R I q
theorem WO.of {r:R2} {x y:V} {Q:VK} (h:OpR X f r) (q:r x y H Q):WO X f x y H Q:=λpins s σ v u I G J=>h pins s σ H x y v u Q I G J q
theorem WC.of {f:aA} {r:List V->Hp->VK->Prop} {xs:List V} {Q:VK} (h:Wg X f r) (q:r xs H Q):WC X f xs H Q:=λpins s σ us I G=>h pins s σ H xs us Q I G q
def XFs (H:Hp) (ρ:Tk):Option (Str × PV)->Option aB->Prop
 | none,dv=>dv=zl
 | some (n,p),dv=>∃ dx v,dv=zo dx/\H dx=zo (.xd [(n,v)])/\dx∉ρ/\Rep H ρ p v
def Acc {α:Type} (mg:zAE) (E:XK) (H:Hp) (ρ:Tk) (P:α->Q0->Hp->Tk->Prop):Res α->Prop
 | .ok a st=>∀ H' ρ',Ext H ρ H' ρ'->Rel H' ρ' st->P a st H' ρ'
 | .exc x st=>∀ C dv H' ρ',mg x.cls=zo (.ref C)->Ext H ρ H' ρ'->Rel H' ρ' st->XFs H' ρ' x.fs dv->E (.ref C) dv H'
 | .stuck=>False
variable {α β:Type} {mg:zAE} {E:XK} {H H1:Hp} {ρ ρ1:Tk}
theorem Acc.mono {P I:α->Q0->Hp->Tk->Prop} {r:Res α} (h:Acc mg E H ρ P r) (x:Ext H ρ H1 ρ1) (k:∀ a st H' ρ',P a st H' ρ'->I a st H' ρ'):Acc mg E H1 ρ1 I r:=by
 cases r with
 | ok a st=>exact λH' ρ' G q=>k _ _ _ _ (h H' ρ' (x.trans G) q)
 | exc e st=>exact λC J H' ρ' m G q f=>h C J H' ρ' m (x.trans G) q f
 | stuck=>exact h
theorem Acc.later {P:α->Q0->Hp->Tk->Prop} {r:Res α} (h:Acc mg E H ρ P r) (x:Ext H ρ H1 ρ1):Acc mg E H1 ρ1 P r:=h.mono x λ_ _ _ _ p=>p
theorem Acc.bind {P:β->Q0->Hp->Tk->Prop} {r:Res α} {f:α->Q0->Res β} (h:Acc mg E H ρ P (r.bind f)):Acc mg E H ρ (λa q H1 ρ1=>Acc mg E H1 ρ1 P (f a q)) r:=by
 cases r with
 | ok a st=>exact λH' ρ' G I=>Acc.later (show Acc mg E H ρ P (f a st) from h) G
 | exc e st=>exact h
 | stuck=>exact h
abbrev QV (Q:VK):PV->Q0->Hp->Tk->Prop:=λp _ H' ρ'=>∀ v,Rep H' ρ' p v->Q v H'
abbrev QL (Q:List V->Hp->Prop):List PV->Q0->Hp->Tk->Prop:=λps _ H' ρ'=>∀ vs,RepL H' ρ' ps vs->Q vs H'
abbrev QB (Q:Bool->Hp->Prop):Bool->Q0->Hp->Tk->Prop:=λb _ H' _=>Q b H'
structure SimE (X:Cx) (E:XK) (e:aH) (m:ME):Prop where
 run:∀ (Γ:Gam) (σ:St) (H:Hp) (ρ:Tk) (st:Q0) (Q:VK),Rel H ρ st->EnvR H ρ Γ σ->Acc X.mg E H ρ (QV Q) (m Γ st)->WE X e σ H Q
structure SimT (X:Cx) (E:XK) (e:aH) (m:Gam->Q0->Res Bool):Prop where
 run:∀ (Γ:Gam) (σ:St) (H:Hp) (ρ:Tk) (st:Q0) (Q:Bool->Hp->Prop),Rel H ρ st->EnvR H ρ Γ σ->Acc X.mg E H ρ (QB Q) (m Γ st)->WT X e σ H Q
structure SimW (X:Cx) (E:XK) (e:aH) (m:Gam->Q0->Res Bool):Prop where
 run:∀ (Γ:Gam) (σ:St) (H:Hp) (ρ:Tk) (st:Q0) (Q:Bool->Hp->Prop),Rel H ρ st->EnvR H ρ Γ σ->Acc X.mg E H ρ (QB Q) (m Γ st)->WW X e σ H Q
structure SimA (X:Cx) (E:XK) (es:List aH) (m:Gam->Q0->Res (List PV)):Prop where
 run:∀ (Γ:Gam) (σ:St) (H:Hp) (ρ:Tk) (st:Q0) (Q:List V->Hp->Prop),Rel H ρ st->EnvR H ρ Γ σ->Acc X.mg E H ρ (QL Q) (m Γ st)->WA X es σ H Q
abbrev OP:=Q0->PV->PV->Res PV
structure OpS (X:Cx) (E:XK) (f:aA->aA->Sem aA) (o:OP):Prop where
 run:∀ (H:Hp) (ρ:Tk) (st:Q0) (p q:PV) (x y:V) (Q:VK),Rel H ρ st->Rep H ρ p x->Rep H ρ q y->Acc X.mg E H ρ (QV Q) (o st p q)->WO X f x y H Q
abbrev CF:=Q0->List PV->Res PV
structure CallS (X:Cx) (E:XK) (f:aA) (o:CF):Prop where
 run:∀ (H:Hp) (ρ:Tk) (st:Q0) (ps:List PV) (xs:List V) (Q:VK),Rel H ρ st->RepL H ρ ps xs->Acc X.mg E H ρ (QV Q) (o st ps)->WC X f xs H Q
variable {Γ:Gam} {σ:St} {st:Q0}
theorem SimE.use {m:ME} (s:SimE X E e m) {P:PV->Q0->Hp->Tk->Prop} {Q:VK} (R:Rel H ρ st) (G:EnvR H ρ Γ σ) (h:Acc X.mg E H ρ P (m Γ st))
  (k:∀ p q H1 ρ1 v,Ext H ρ H1 ρ1->Rel H1 ρ1 q->EnvR H1 ρ1 Γ σ->Rep H1 ρ1 p v->P p q H1 ρ1->Q v H1):WE X e σ H Q:=by
 refine s.run Γ σ H ρ st Q R G ?_;cases r:m Γ st with
 | ok p q=>rw [r] at h; exact λH' ρ' I J v O=>k p q H' ρ' v I J (G.ext I) O (h H' ρ' I J)
 | exc e st=>rw [r] at h; exact h
 | stuck=>rw [r] at h; exact h
theorem SimE.use' {m:ME} (s:SimE X E e m) {P:PV->Q0->Hp->Tk->Prop} {Q:VK} (R:Rel H ρ st) (G:EnvR H ρ Γ σ) (h:Acc X.mg E H ρ P (m Γ st))
  (k:∀ p q H1 ρ1 v,m Γ st=.ok p q->Ext H ρ H1 ρ1->Rel H1 ρ1 q->EnvR H1 ρ1 Γ σ->Rep H1 ρ1 p v->P p q H1 ρ1->Q v H1):WE X e σ H Q:=by
 refine s.run Γ σ H ρ st Q R G ?_;cases r:m Γ st with
 | ok p q=>rw [r] at h; exact λH' ρ' I J v O=>k p q H' ρ' v r I J (G.ext I) O (h H' ρ' I J)
 | exc e st=>rw [r] at h; exact h
 | stuck=>rw [r] at h; exact h
theorem SimA.use' {m:Gam->Q0->Res (List PV)} (s:SimA X E es m) {P:List PV->Q0->Hp->Tk->Prop} {Q:List V->Hp->Prop} (R:Rel H ρ st) (G:EnvR H ρ Γ σ) (h:Acc X.mg E H ρ P (m Γ st))
  (k:∀ ps q H1 ρ1 vs,m Γ st=.ok ps q->Ext H ρ H1 ρ1->Rel H1 ρ1 q->EnvR H1 ρ1 Γ σ->RepL H1 ρ1 ps vs->P ps q H1 ρ1->Q vs H1):WA X es σ H Q:=by
 refine s.run Γ σ H ρ st Q R G ?_;cases r:m Γ st with
 | ok p q=>rw [r] at h; exact λH' ρ' I J v O=>k p q H' ρ' v r I J (G.ext I) O (h H' ρ' I J)
 | exc e st=>rw [r] at h; exact h
 | stuck=>rw [r] at h; exact h
theorem SimT.use {m:Gam->Q0->Res Bool} (s:SimT X E e m) {P:Bool->Q0->Hp->Tk->Prop} {Q:Bool->Hp->Prop} (R:Rel H ρ st) (G:EnvR H ρ Γ σ) (h:Acc X.mg E H ρ P (m Γ st))
  (k:∀ p q H1 ρ1,Ext H ρ H1 ρ1->Rel H1 ρ1 q->EnvR H1 ρ1 Γ σ->P p q H1 ρ1->Q p H1):WT X e σ H Q:=by
 refine s.run Γ σ H ρ st Q R G ?_;cases r:m Γ st with
 | ok p q=>rw [r] at h; exact λH' ρ' I J=>k p q H' ρ' I J (G.ext I) (h H' ρ' I J)
 | exc e st=>rw [r] at h; exact h
 | stuck=>rw [r] at h; exact h
theorem SimT.use' {m:Gam->Q0->Res Bool} (s:SimT X E e m) {P:Bool->Q0->Hp->Tk->Prop} {Q:Bool->Hp->Prop} (R:Rel H ρ st) (G:EnvR H ρ Γ σ) (h:Acc X.mg E H ρ P (m Γ st))
  (k:∀ p q H1 ρ1,m Γ st=.ok p q->Ext H ρ H1 ρ1->Rel H1 ρ1 q->EnvR H1 ρ1 Γ σ->P p q H1 ρ1->Q p H1):WT X e σ H Q:=by
 refine s.run Γ σ H ρ st Q R G ?_;cases r:m Γ st with
 | ok p q=>rw [r] at h; exact λH' ρ' I J=>k p q H' ρ' r I J (G.ext I) (h H' ρ' I J)
 | exc e st=>rw [r] at h; exact h
 | stuck=>rw [r] at h; exact h
theorem SimW.use {m:Gam->Q0->Res Bool} (s:SimW X E e m) {P:Bool->Q0->Hp->Tk->Prop} {Q:Bool->Hp->Prop} (R:Rel H ρ st) (G:EnvR H ρ Γ σ) (h:Acc X.mg E H ρ P (m Γ st))
  (k:∀ p q H1 ρ1,Ext H ρ H1 ρ1->Rel H1 ρ1 q->EnvR H1 ρ1 Γ σ->P p q H1 ρ1->Q p H1):WW X e σ H Q:=by
 refine s.run Γ σ H ρ st Q R G ?_;cases r:m Γ st with
 | ok p q=>rw [r] at h; exact λH' ρ' I J=>k p q H' ρ' I J (G.ext I) (h H' ρ' I J)
 | exc e st=>rw [r] at h; exact h
 | stuck=>rw [r] at h; exact h
theorem SimA.use {m:Gam->Q0->Res (List PV)} (s:SimA X E es m) {P:List PV->Q0->Hp->Tk->Prop} {Q:List V->Hp->Prop} (R:Rel H ρ st) (G:EnvR H ρ Γ σ) (h:Acc X.mg E H ρ P (m Γ st))
  (k:∀ ps q H1 ρ1 vs,Ext H ρ H1 ρ1->Rel H1 ρ1 q->EnvR H1 ρ1 Γ σ->RepL H1 ρ1 ps vs->P ps q H1 ρ1->Q vs H1):WA X es σ H Q:=by
 refine s.run Γ σ H ρ st Q R G ?_;cases r:m Γ st with
 | ok p q=>rw [r] at h; exact λH' ρ' I J v O=>k p q H' ρ' v I J (G.ext I) O (h H' ρ' I J)
 | exc e st=>rw [r] at h; exact h
 | stuck=>rw [r] at h; exact h
theorem OpS.use {o:OP} (s:OpS X E f o) {P:PV->Q0->Hp->Tk->Prop} {Q:VK} {p q:PV} {x y:V} (R:Rel H ρ st) (Y:Rep H ρ p x) (U:Rep H ρ q y) (h:Acc X.mg E H ρ P (o st p q))
  (k:∀ p G H1 ρ1 v,Ext H ρ H1 ρ1->Rel H1 ρ1 G->Rep H1 ρ1 p v->P p G H1 ρ1->Q v H1):WO X f x y H Q:=by
 refine s.run H ρ st p q x y Q R Y U ?_;cases r:o st p q with
 | ok p G=>rw [r] at h; exact λH' ρ' I J v O=>k p G H' ρ' v I J O (h H' ρ' I J)
 | exc e st=>rw [r] at h; exact h
 | stuck=>rw [r] at h; exact h
end Sm
namespace Sm
open PySem PySem.Spec L2 SeqAt
variable {n:Nat} {ps:List PV}
mutual
def peq:PV->PV->Bool
 | .non,.non=>zb
 | .bl a,.bl b=>a == b
 | .bl a,.int b=>(if a then 1 else 0) == b
 | .int a,.bl b=>a == (if b then 1 else 0)
 | .int a,.int b=>a == b
 | .str a,.str b=>a == b
 | .tup xs,.tup ys=>peqL xs ys
 | .lst xs,.lst ys=>peqL xs ys
 | .lst xs,.fro ys=>peqL xs ys
 | .fro xs,.lst ys=>peqL xs ys
 | .fro xs,.fro ys=>peqL xs ys
 | _,_=>yo
def peqL:List PV->List PV->Bool
 | [],[]=>zb
 | x :: xs,y :: ys=>peq x y && peqL xs ys
 | _,_=>yo
end
def good:Nat->PV->Bool
 | _,.ref _=>yo
 | _,.dic=>yo
 | 0,.tup _=>yo
 | 0,.lst _=>yo
 | 0,.fro _=>yo
 | n + 1,.tup xs=>xs.all (good n)
 | n + 1,.lst xs=>xs.all (good n)
 | n + 1,.fro xs=>xs.all (good n)
 | _,_=>zb
theorem Q28:∀ {xs ys:List PV},xs.length≠ys.length->peqL xs ys=yo
 | [],[],h=>absurd rfl h
 | [],_ :: _,_=>by simp [peqL]
 | _ :: _,[],_=>by simp [peqL]
 | x :: xs,y :: ys,h=>by
  rw [peqL,Q28 (xs:=xs) (ys:=ys) λe=>h (by simp [e]),fh]
theorem Q29:∀ {xs ys:List PV},xs.length=ys.length->peqL xs ys=(bY xs.length).all λj=>peq (xs.getD j .non) (ys.getD j .non)
 | [],[],_=>by simp [peqL]
 | [],_ :: _,h=>by simp at h
 | _ :: _,[],h=>by simp at h
 | x :: xs,y :: ys,h=>by
  rw [peqL,Q29 (xs:=xs) (ys:=ys) (by simpa using h),D4,fN,cE,bw];rfl
variable {X:Cx} {pins:zAA} {σ:St} {H:Hp} {s:aC} {ρ:Tk}
mutual
theorem Q7p:∀ {p q:PV} {x:V} {n:Nat},good n p=zb->good n q=zb->Rep H ρ p x->Rep H ρ q x->peq p q=zb
 | .non,q,x,n,_,J,h1,h2=>by
  cases h1;cases q <;> first | rfl | (cases n <;> cases J; done) | (cases h2; done) | (obtain ⟨_,_,e,_⟩:=h2; cases e) | (obtain ⟨_,_,e⟩:=h2; cases e)
 | .bl b,q,x,n,_,J,h1,h2=>by
  cases h1;cases q <;> first | (cases n <;> cases J; done) | (cases h2; simp [peq]; done) | (obtain ⟨_,_,e,_⟩:=h2; done) | (obtain ⟨_,_,e,_⟩:=h2; cases e; done) | (obtain ⟨_,_,e⟩:=h2; cases e)
 | .int b,q,x,n,_,J,h1,h2=>by
  cases h1;cases q <;> first | (cases n <;> cases J; done) | (cases h2; simp [peq]; done) | (obtain ⟨_,_,e,_⟩:=h2; done) | (obtain ⟨_,_,e,_⟩:=h2; cases e; done) | (obtain ⟨_,_,e⟩:=h2; cases e)
 | .str b,q,x,n,_,J,h1,h2=>by
  cases h1;cases q <;> first | (cases n <;> cases J; done) | (cases h2; simp [peq]; done) | (obtain ⟨_,_,e,_⟩:=h2; done) | (obtain ⟨_,_,e,_⟩:=h2; cases e; done) | (obtain ⟨_,_,e⟩:=h2; cases e)
 | .tup ps,q,x,0,O,_,_,_=>by cases O
 | .tup ps,q,x,n + 1,O,J,⟨a,vs,e,I,_,r⟩,h2=>by
  subst e;cases q with
  | tup Y=>
   obtain ⟨b,us,e,G,_,U⟩:=h2;cases e;rw [I] at G; cases G;rw [peq];exact repL_same O J r U
  | lst Y=>obtain ⟨b,us,e,G,_⟩:=h2; cases e; rw [I] at G; cases G
  | fro Y=>obtain ⟨b,us,e,G,_⟩:=h2; cases e; rcases G with G | ⟨o,G⟩ <;> (rw [I] at G; cases G)
  | ref i=>cases J
  | dic=>cases J
  | _=>cases h2
 | .lst ps,q,x,0,O,_,_,_=>by cases O
 | .lst ps,q,x,n + 1,O,J,⟨a,vs,e,I,_,r⟩,h2=>by
  subst e;cases q with
  | lst Y=>
   obtain ⟨b,us,e,G,_,U⟩:=h2;cases e;rw [I] at G; cases G;rw [peq];exact repL_same O J r U
  | tup Y=>obtain ⟨b,us,e,G,_⟩:=h2; cases e; rw [I] at G; cases G
  | fro Y=>
   obtain ⟨b,us,e,G,_,U⟩:=h2;cases e;rcases G with G | ⟨o,G⟩
   ·rw [I] at G; cases G;rw [peq];exact repL_same O J r U
   ·rw [I] at G; cases G
  | ref i=>cases J
  | dic=>cases J
  | _=>cases h2
 | .fro ps,q,x,0,O,_,_,_=>by cases O
 | .fro ps,q,x,n + 1,O,J,⟨a,vs,e,I,_,r⟩,h2=>by
  subst e;cases q with
  | lst Y=>
   obtain ⟨b,us,e,G,_,U⟩:=h2;cases e;rcases I with I | ⟨o,I⟩
   ·rw [I] at G; cases G;rw [peq];exact repL_same O J r U
   ·rw [I] at G; cases G
  | tup Y=>obtain ⟨b,us,e,G,_⟩:=h2; cases e; rcases I with I | ⟨o,I⟩ <;> (rw [I] at G; cases G)
  | fro Y=>
   obtain ⟨b,us,e,G,_,U⟩:=h2;cases e;have:vs=us:=by
    rcases I with I | ⟨o,I⟩ <;> rcases G with G | ⟨o',G⟩ <;> (rw [I] at G; cases G) <;> rfl
   subst this;rw [peq];exact repL_same O J r U
  | ref i=>cases J
  | dic=>cases J
  | _=>cases h2
 | .ref i,_,_,n,O,_,_,_=>by cases n <;> cases O
 | .dic,_,_,n,O,_,_,_=>by cases n <;> cases O
theorem repL_same:∀ {ps G:List PV} {vs:List V} {n:Nat},ps.all (good n)=zb->G.all (good n)=zb->RepL H ρ ps vs->RepL H ρ G vs->peqL ps G=zb
 | [],G,vs,n,_,_,h1,h2=>by
  cases h1;cases G with
  | nil=>rfl
  | cons q G=>obtain ⟨_,_,e,_⟩:=h2; cases e
 | p :: ps,G,vs,n,I,g2,⟨v,r,e,h1,J⟩,h2=>by
  subst e;cases G with
  | nil=>cases h2
  | cons q G=>
   obtain ⟨_,_,e,h2,O⟩:=h2;cases e;rw [cE,E2] at I g2;rw [peqL,Q7p I.1 g2.1 h1 h2,repL_same I.2 g2.2 J O]; rfl
end
inductive Kd (H:Hp) (ρ:Tk) (s:aC):PV->aA->Prop where
 | non:Kd H ρ s .non .none
 | bl (b):Kd H ρ s (.bl b) (.bool b)
 | int (i t):Kd H ρ s (.int i) (.int i t)
 | str (x t):Kd H ρ s (.str x) (.str x t)
 | tup (ps a) (vs:List V) (its:List aA):H a=zo (.tup vs)->RepL H ρ ps vs->Vals vs its->s.heap.IsTuple a its.toArray->Kd H ρ s (.tup ps) (.ref a)
 | lst (p ps a) (vs:List V) (its:List aA):(p=.lst ps\/p=.fro ps)->RepL H ρ ps vs->Vals vs its->s.heap.IsList a its.toArray->Kd H ρ s p (.ref a)
theorem Qc3 {p:PV} {x:V} {u:aA} (I:Inv X pins σ H s) (g:good n p=zb) (r:Rep H ρ p x) (ru:RelV x u):Kd H ρ s p u:=by
 cases p with
 | non=>cases r; cases ru; exact .non
 | bl b=>cases r; cases ru; exact .bl b
 | int i=>cases r; obtain ⟨t,rfl⟩:=ru; exact .int i t
 | str i=>cases r; obtain ⟨t,rfl⟩:=ru; exact .str i t
 | tup ps=>
  obtain ⟨a,vs,rfl,q,_,O⟩:=r;cases ru;obtain ⟨its,J,G,_⟩:=I.tuple (SqT.of (K:=X.K) q);exact .tup ps a vs its q O J G
 | lst ps=>
  obtain ⟨a,vs,rfl,q,_,O⟩:=r;cases ru;obtain ⟨its,J,G,_⟩:=I.list (SqL.of (K:=X.K) q);exact .lst _ ps a vs its (.inl rfl) O J G.isList
 | fro ps=>
  obtain ⟨a,vs,rfl,q,_,O⟩:=r;cases ru;obtain ⟨its,J,G,_⟩:=I.list (show SqL X.K H a vs from .inl q);exact .lst _ ps a vs its (.inr rfl) O J G.isList
 | ref i=>cases n <;> cases g
 | dic=>cases n <;> cases g
theorem qv {vs:List V} {its:List aA} (r:RepL H ρ ps vs) (v:Vals vs its) {j:Nat} (h:j < its.length):∃ x,Rep H ρ (ps.getD j .non) x/\RelV x its[j]:=by
 have l1:=r.length;have l2:=v.length;have q:j < ps.length:=by omega
 obtain ⟨x,G,I⟩:=r.get (O3 q);obtain ⟨u,e3,J⟩:=v.get G;rw [O3 h] at e3; cases e3;refine ⟨x,?_,J⟩;rw [dw,O3 q];exact I
theorem qu (g:ps.all (good n)=zb) (j:Nat) (q:j < ps.length):good n (ps.getD j .non)=zb:=by
 rw [dw,O3 q];exact (E9.mp g) _ (cJ q)
theorem Q9w {q:List PV}:((bY (min ps.length q.length)).all (λj=>peq (ps.getD j .non) (q.getD j .non)) && ps.length == q.length)=peqL ps q:=by
 by_cases e:ps.length=q.length
 ·rw [Q29 e,<- e,Nat.min_self,beq_self_eq_true,Bool.and_true]
 ·rw [Q28 e,beq_eq_false_iff_ne.mpr e,fh]
theorem Qce:∀ (n:Nat) {A:aL} {p q:PV} {x y:V} {u v:aA},Inv X pins σ H s->good n p=zb->good n q=zb->A.units + n < aQ->Rep H ρ p x->RelV x u->Rep H ρ q y->RelV y v ->
  EqAt A s u v (peq p q)/\RcAt A s u v (peq p q)/\RcNeAt A s u v (!peq p q):=by
 intro n
 induction n with
 | zero=>
  intro A p q x y u v I gp U hu rp ru rq rv;have k1:=Qc3 I gp rp ru;have k2:=Qc3 I U rq rv;have hu:A.units < aQ:=by omega
  cases k1 with
  | tup=>cases gp
  | lst p ps a vs its h=>rcases h with rfl | rfl <;> cases gp
  | non=>cases k2 with
   | tup=>cases U
   | lst p ps a vs its h=>rcases h with rfl | rfl <;> cases U
   | non=>exact ⟨EqAt.same _,RcAt.none_none,RcNeAt.none_none⟩
   | bl b=>exact ⟨EqAt.none_bool _,RcAt.none_bool _,RcNeAt.none_bool _⟩
   | int i t=>exact ⟨EqAt.none_int _ _,RcAt.none_int _ _,RcNeAt.none_int _ _⟩
   | str i t=>exact ⟨EqAt.none_str _ _,RcAt.none_str _ _,RcNeAt.none_str _ _⟩
  | bl a=>cases k2 with
   | tup=>cases U
   | lst p ps a vs its h=>rcases h with rfl | rfl <;> cases U
   | non=>exact ⟨EqAt.bool_none _,RcAt.bool_none _,RcNeAt.bool_none _⟩
   | bl b=>exact ⟨EqAt.bool_bool _ _,RcAt.bool_bool _ _,RcNeAt.bool_bool _ _⟩
   | int i t=>exact ⟨EqAt.bool_int _ _ _,RcAt.bool_int _ _ _,RcNeAt.bool_int _ _ _⟩
   | str i t=>exact ⟨EqAt.bool_str _ _ _,RcAt.bool_str _ _ _,RcNeAt.bool_str _ _ _⟩
  | int a a3=>cases k2 with
   | tup=>cases U
   | lst p ps a vs its h=>rcases h with rfl | rfl <;> cases U
   | non=>exact ⟨EqAt.int_none _ _,RcAt.int_none _ _,RcNeAt.int_none _ _⟩
   | bl b=>exact ⟨EqAt.int_bool _ _ _,RcAt.int_bool _ _ _,RcNeAt.int_bool _ _ _⟩
   | int i t=>exact ⟨EqAt.int_int _ _ _ _,RcAt.int_int _ _ _ _,RcNeAt.int_int _ _ _ _⟩
   | str i t=>exact ⟨EqAt.int_str _ _ _ _,RcAt.int_str _ _ _ _,RcNeAt.int_str _ _ _ _⟩
  | str a a3=>cases k2 with
   | tup=>cases U
   | lst p ps a vs its h=>rcases h with rfl | rfl <;> cases U
   | non=>exact ⟨EqAt.str_none _ _,RcAt.str_none _ _,RcNeAt.str_none _ _⟩
   | bl b=>exact ⟨EqAt.str_bool _ _ _,RcAt.str_bool _ _ _,RcNeAt.str_bool _ _ _⟩
   | int i t=>exact ⟨EqAt.str_int _ _ _ _,RcAt.str_int _ _ _ _,RcNeAt.str_int _ _ _ _⟩
   | str i t=>exact ⟨EqAt.str_str _ _ _ _,RcAt.str_str _ _ _ _,RcNeAt.str_str _ _ _ _⟩
 | succ n ih=>
  intro A p q x y u v I gp U hu rp ru rq rv;have k1:=Qc3 I gp rp ru;have k2:=Qc3 I U rq rv;have G:A.units < aQ:=by omega
  have a5:A.in1.units + n < aQ:=by show A.units + 1 + n < aQ; omega
  cases k1 with
  | non=>cases k2 with
   | non=>exact ⟨EqAt.same _,RcAt.none_none,RcNeAt.none_none⟩
   | bl b=>exact ⟨EqAt.none_bool _,RcAt.none_bool _,RcNeAt.none_bool _⟩
   | int i t=>exact ⟨EqAt.none_int _ _,RcAt.none_int _ _,RcNeAt.none_int _ _⟩
   | str i t=>exact ⟨EqAt.none_str _ _,RcAt.none_str _ _,RcNeAt.none_str _ _⟩
   | tup ps a vs its ha r Z J=>exact ⟨EqAt.none_tuple J G,RcAt.none_tuple J G,RcNeAt.none_tuple J G⟩
   | lst p ps a vs its h r Z J=>rcases h with rfl | rfl <;> exact ⟨EqAt.none_list J G,RcAt.none_list J G,RcNeAt.none_list J G⟩
  | bl a=>cases k2 with
   | non=>exact ⟨EqAt.bool_none _,RcAt.bool_none _,RcNeAt.bool_none _⟩
   | bl b=>exact ⟨EqAt.bool_bool _ _,RcAt.bool_bool _ _,RcNeAt.bool_bool _ _⟩
   | int i t=>exact ⟨EqAt.bool_int _ _ _,RcAt.bool_int _ _ _,RcNeAt.bool_int _ _ _⟩
   | str i t=>exact ⟨EqAt.bool_str _ _ _,RcAt.bool_str _ _ _,RcNeAt.bool_str _ _ _⟩
   | tup ps a vs its ha r Z J=>exact ⟨EqAt.bool_tuple _ J G,RcAt.bool_tuple _ J G,RcNeAt.bool_tuple _ J G⟩
   | lst p ps a vs its h r Z J=>rcases h with rfl | rfl <;> exact ⟨EqAt.bool_list _ J G,RcAt.bool_list _ J G,RcNeAt.bool_list _ J G⟩
  | int a a3=>cases k2 with
   | non=>exact ⟨EqAt.int_none _ _,RcAt.int_none _ _,RcNeAt.int_none _ _⟩
   | bl b=>exact ⟨EqAt.int_bool _ _ _,RcAt.int_bool _ _ _,RcNeAt.int_bool _ _ _⟩
   | int i t=>exact ⟨EqAt.int_int _ _ _ _,RcAt.int_int _ _ _ _,RcNeAt.int_int _ _ _ _⟩
   | str i t=>exact ⟨EqAt.int_str _ _ _ _,RcAt.int_str _ _ _ _,RcNeAt.int_str _ _ _ _⟩
   | tup ps a vs its ha r Z J=>exact ⟨EqAt.int_tuple _ _ J G,RcAt.int_tuple _ _ J G,RcNeAt.int_tuple _ _ J G⟩
   | lst p ps a vs its h r Z J=>rcases h with rfl | rfl <;> exact ⟨EqAt.int_list _ _ J G,RcAt.int_list _ _ J G,RcNeAt.int_list _ _ J G⟩
  | str a a3=>cases k2 with
   | non=>exact ⟨EqAt.str_none _ _,RcAt.str_none _ _,RcNeAt.str_none _ _⟩
   | bl b=>exact ⟨EqAt.str_bool _ _ _,RcAt.str_bool _ _ _,RcNeAt.str_bool _ _ _⟩
   | int i t=>exact ⟨EqAt.str_int _ _ _ _,RcAt.str_int _ _ _ _,RcNeAt.str_int _ _ _ _⟩
   | str i t=>exact ⟨EqAt.str_str _ _ _ _,RcAt.str_str _ _ _ _,RcNeAt.str_str _ _ _ _⟩
   | tup ps a vs its ha r Z J=>exact ⟨EqAt.str_tuple _ _ J G,RcAt.str_tuple _ _ J G,RcNeAt.str_tuple _ _ J G⟩
   | lst p ps a vs its h r Z J=>rcases h with rfl | rfl <;> exact ⟨EqAt.str_list _ _ J G,RcAt.str_list _ _ J G,RcNeAt.str_list _ _ J G⟩
  | tup ps a vs its ha r Z J=>cases k2 with
   | non=>exact ⟨EqAt.tuple_none J G,RcAt.tuple_none J G,RcNeAt.tuple_none J G⟩
   | bl b=>exact ⟨EqAt.tuple_bool _ J G,RcAt.tuple_bool _ J G,RcNeAt.tuple_bool _ J G⟩
   | int i t=>exact ⟨EqAt.tuple_int _ _ J G,RcAt.tuple_int _ _ J G,RcNeAt.tuple_int _ _ J G⟩
   | str i t=>exact ⟨EqAt.tuple_str _ _ J G,RcAt.tuple_str _ _ J G,RcNeAt.tuple_str _ _ J G⟩
   | tup Y b us O hb r2 v2 p2=>
    have l1:its.toArray.size=ps.length:=by rw [O7,<- Z.length,r.length]
    have l2:O.toArray.size=Y.length:=by rw [O7,<- v2.length,r2.length]
    have he:∀ j (h1:j < its.toArray.size) (h2:j < O.toArray.size),EqAt A.in1 s its.toArray[j] O.toArray[j] (peq (ps.getD j .non) (Y.getD j .non)):=λj h1 h2=>by
     obtain ⟨x1,a1,b1⟩:=qv r Z (j:=j) (by simpa using h1);obtain ⟨x2,a2,b2⟩:=qv r2 v2 (j:=j) (by simpa using h2);exact (ih I (qu gp j (by omega)) (qu U j (by omega)) a5 a1 b1 a2 b2).1
    have rc:=RcAt.tuples J p2 G he;have rn:=RcNeAt.tuples J p2 G he;rw [l1,l2,Q9w] at rc rn;refine ⟨?_,rc,rn⟩
    by_cases e:a=b
    ·subst e;have:peqL ps Y=zb:=by
      rw [ha] at hb; cases hb;exact repL_same gp U r r2
     show EqAt A s _ _ (peqL ps Y);rw [this];exact EqAt.same _
    ·exact EqAt.of_refs e rc
   | lst q Y b us O h r2 v2 p2=>rcases h with rfl | rfl <;> exact ⟨EqAt.tuple_list J p2 G,RcAt.tuple_list J p2 G,RcNeAt.tuple_list J p2 G⟩
  | lst p ps a vs its h r Z J=>cases k2 with
   | non=>rcases h with rfl | rfl <;> exact ⟨EqAt.list_none J G,RcAt.list_none J G,RcNeAt.list_none J G⟩
   | bl b=>rcases h with rfl | rfl <;> exact ⟨EqAt.list_bool _ J G,RcAt.list_bool _ J G,RcNeAt.list_bool _ J G⟩
   | int i t=>rcases h with rfl | rfl <;> exact ⟨EqAt.list_int _ _ J G,RcAt.list_int _ _ J G,RcNeAt.list_int _ _ J G⟩
   | str i t=>rcases h with rfl | rfl <;> exact ⟨EqAt.list_str _ _ J G,RcAt.list_str _ _ J G,RcNeAt.list_str _ _ J G⟩
   | tup Y b us O hb r2 v2 p2=>rcases h with rfl | rfl <;> exact ⟨EqAt.list_tuple J p2 G,RcAt.list_tuple J p2 G,RcNeAt.list_tuple J p2 G⟩
   | lst q Y b us O h2 r2 v2 p2=>
    have l1:its.toArray.size=ps.length:=by rw [O7,<- Z.length,r.length]
    have l2:O.toArray.size=Y.length:=by rw [O7,<- v2.length,r2.length]
    have a6:ps.all (good n)=zb:=by rcases h with rfl | rfl <;> exact gp
    have a8:Y.all (good n)=zb:=by rcases h2 with rfl | rfl <;> exact U
    have ep:peq p q=peqL ps Y:=by rcases h with rfl | rfl <;> rcases h2 with rfl | rfl <;> rfl
    have he:∀ j (h1:j < its.toArray.size) (h2:j < O.toArray.size),EqAt A.in1 s its.toArray[j] O.toArray[j] (peq (ps.getD j .non) (Y.getD j .non)):=λj h1 h2=>by
     obtain ⟨x1,a1,b1⟩:=qv r Z (j:=j) (by simpa using h1);obtain ⟨x2,a2,b2⟩:=qv r2 v2 (j:=j) (by simpa using h2);exact (ih I (qu a6 j (by omega)) (qu a8 j (by omega)) a5 a1 b1 a2 b2).1
    rw [ep];have a4:RcAt A s (.ref a) (.ref b) (peqL ps Y)/\RcNeAt A s (.ref a) (.ref b) (!peqL ps Y):=by
     by_cases e:ps.length=Y.length
     ·have rc:=RcAt.lists J p2 (by rw [l1,l2,e]) G he;have rn:=RcNeAt.lists J p2 (by rw [l1,l2,e]) G he;rw [l1,<- Q29 e] at rc rn;exact ⟨rc,rn⟩
     ·have e':(its.toArray.size != O.toArray.size)=zb:=by rw [l1,l2]; simpa using e
      rw [Q28 e];exact ⟨RcAt.lists_lengths J p2 e' G,RcNeAt.lists_lengths J p2 e' G⟩
    refine ⟨?_,a4.1,a4.2⟩
    by_cases e:a=b
    ·subst e;have a7:peq p q=zb:=by
      have a9:=rp;have b0:=rq;have xa:x=.ref a:=by
       rcases h with rfl | rfl <;> (obtain ⟨b',_,rfl,_⟩:=rp; cases ru; rfl)
      have ya:y=.ref a:=by
       rcases h2 with rfl | rfl <;> (obtain ⟨b',_,rfl,_⟩:=rq; cases rv; rfl)
      subst xa; subst ya;exact Q7p gp U rp rq
     rw [<- ep,a7];exact EqAt.same _
    ·exact EqAt.of_refs e a4.1
end Sm
namespace Sm
open PySem PySem.Spec L2
variable {n j:Nat} {K:bX} {vs:List V} {mg:zAE} {E:XK} {Q:VK} {ps:List PV} {x:Str} {o:OP} {Γ:Gam} {σ:St} {P:PV->Q0->Hp->Tk->Prop} {op:CmpOp} {e:aH}
def lim:Nat:=1000000
theorem Q66:lim<=sizeLine:=by decide
theorem Zz (h:n<=lim):n<=sizeLine:=E1 h Q66
def Vh (st:Q0):PV->Option (List PV)
 | .lst xs=>zo xs
 | .ref i=>match st[i]? with
  | some (.lst xs)=>zo xs
  | _=>zl
 | _=>zl
def Ys (st:Q0):PV->Option (List PV)
 | .fro xs=>zo xs
 | p=>Vh st p
def Vg (st:Q0):PV->Option (List PV)
 | .tup xs=>zo xs
 | p=>Ys st p
def der (st:Q0):PV->PV
 | .ref i=>match st[i]? with
  | some (.lst xs)=>.lst xs
  | _=>.ref i
 | p=>p
variable {H:Hp} {ρ:Tk} {st:Q0} {p:PV} {v:V} {xs:List PV}
theorem jx (R:Rel H ρ st) (r:Rep H ρ p v) (e:Vh st p=zo xs):∃ a vs,v=.ref a/\H a=zo (.lst vs)/\RepL H ρ xs vs:=by
 cases p with
 | lst ys=>
  obtain ⟨a,vs,q,G,_,e3⟩:=r;cases e;exact ⟨a,vs,q,G,e3⟩
 | ref i=>
  obtain ⟨a,q,G⟩:=r;simp only [Vh] at e
  split at e
  ·rename_i ys hs;cases e;obtain ⟨b,vs,I,O,J⟩:=R.lst hs;rw [q] at I; cases I;exact ⟨a,vs,G,O,J⟩
  ·cases e
 | _=>cases e
theorem W6 (R:Rel H ρ st) (r:Rep H ρ p v) (e:Ys st p=zo xs):∃ a vs,v=.ref a/\Rd H a (.lst vs)/\RepL H ρ xs vs:=by
 cases p with
 | fro ys=>
  obtain ⟨a,vs,q,G,_,e3⟩:=r;cases e;exact ⟨a,vs,q,G,e3⟩
 | _=>
  obtain ⟨a,vs,q,G,e3⟩:=jx R r e;exact ⟨a,vs,q,.inl G,e3⟩
theorem xc (R:Rel H ρ st) (r:Rep H ρ p v) (e:Vg st p=zo xs):∃ (t:Bool) (a:aB) (vs:List V),v=.ref a/\SqK K t H a vs/\RepL H ρ xs vs:=by
 cases p with
 | tup ys=>
  obtain ⟨a,vs,q,G,_,e3⟩:=r;cases e;exact ⟨zb,a,vs,q,show SqT K H a vs from SqT.of G,e3⟩
 | _=>
  obtain ⟨a,vs,q,G,e3⟩:=W6 R r e;exact ⟨yo,a,vs,q,show SqL K H a vs from .inl G,e3⟩
theorem Q9m {t:Bool} {a:aB} (h:SqK K t H a vs):SqL K H a vs\/SqT K H a vs:=by
 cases t with
 | true=>exact .inr h
 | false=>exact .inl h
mutual
theorem Qbm:∀ {n:Nat} {q:PV} {u:V},good n q=zb->Rep H ρ q u->Rep H Tk.nil q u
 | _,.non,_,_,r=>r
 | _,.bl _,_,_,r=>r
 | _,.int _,_,_,r=>r
 | _,.str _,_,_,r=>r
 | 0,.tup _,_,g,_=>by cases g
 | 0,.lst _,_,g,_=>by cases g
 | 0,.fro _,_,g,_=>by cases g
 | n + 1,.tup _,_,g,⟨a,vs,e,h,_,r⟩=>⟨a,vs,e,h,Tk.not_nil _,repL_nil g r⟩
 | n + 1,.lst _,_,g,⟨a,vs,e,h,_,r⟩=>⟨a,vs,e,h,Tk.not_nil _,repL_nil g r⟩
 | n + 1,.fro _,_,g,⟨a,vs,e,h,_,r⟩=>⟨a,vs,e,h,Tk.not_nil _,repL_nil g r⟩
 | 0,.ref _,_,g,_=>by cases g
 | _ + 1,.ref _,_,g,_=>by cases g
 | 0,.dic,_,g,_=>by cases g
 | _ + 1,.dic,_,g,_=>by cases g
theorem repL_nil:∀ {n:Nat} {G:List PV} {us:List V},G.all (good n)=zb->RepL H ρ G us->RepL H Tk.nil G us
 | _,[],_,_,r=>r
 | n,q :: G,_,g,⟨v,r,e,h1,h2⟩=>by
  rw [cE,E2] at g;exact ⟨v,r,e,Qbm g.1 h1,repL_nil g.2 h2⟩
end
theorem qy (R:Rel H ρ st) (g:good n (der st p)=zb) (r:Rep H ρ p v):Rep H Tk.nil (der st p) v:=by
 cases p with
 | ref i=>
  obtain ⟨a,G,J⟩:=r;simp only [der] at g ⊢
  split at g
  ·rename_i ys hs;obtain ⟨b,vs,q,O,I⟩:=R.lst hs;rw [G] at q; cases q;cases n with
   | zero=>cases g
   | succ n=>exact ⟨a,vs,J,O,Tk.not_nil _,repL_nil g I⟩
  ·cases n <;> cases g
 | _=>exact Qbm g r
theorem qq (R:Rel H ρ st) (h:Acc mg E H ρ (QV Q) (.ok (.tup ps) st)) (r:RepL H ρ ps vs):∀ p,H p=zl->Q (.ref p) (upd H p (.tup vs)):=
 λp q=>h _ ρ (Ext.add q) (R.add q) _ ⟨p,vs,rfl,Qt,R.fresh q,r.ext (Ext.add q)⟩
theorem Xj (R:Rel H ρ st) (h:Acc mg E H ρ (QV Q) (.ok (.lst ps) st)) (r:RepL H ρ ps vs):∀ p,H p=zl->Q (.ref p) (upd H p (.lst vs)):=
 λp q=>h _ ρ (Ext.add q) (R.add q) _ ⟨p,vs,rfl,Qt,R.fresh q,r.ext (Ext.add q)⟩
theorem now (R:Rel H ρ st) (h:Acc mg E H ρ (QV Q) (.ok p st)) (r:Rep H ρ p v):Q v H:=h H ρ (Ext.refl _ _) R v r
section
variable {X:Cx} {E:XK} {pos:Pos}
def Q2 (i:Nat):ME:=λΓ st=>match Γ[i]? with
 | some (zo p)=>.ok p st
 | _=>.stuck
def mC (p:PV):ME:=λ_ st=>.ok p st
theorem Jp (i:Nat) (J:X.N[i]?=zo x:=by rfl) (O:Vis X.env.scope x:=by first | exact Or.inl rfl | exact Or.inr (Or.inl rfl) | exact Or.inr (Or.inr rfl)) (hd:(x == ("__debug__" : Str))=yo:=by decide)
  (q:(x == ("__classdict__" : Str))=yo:=by decide):SimE X E (.Name x pos) (Q2 i):=⟨λΓ σ H ρ st Q R G h=>WE.of (Qgm J O hd q) (by
 unfold Q2 at h
 split at h
 ·rename_i p e;obtain ⟨v,I,r⟩:=G.2 i p e;exact ⟨v,I,now R h r⟩
 ·exact h.elim)⟩
theorem Jx {i:Int} :SimE X E (.Constant (.int i) j pos) (mC (.int i)):=⟨λΓ σ H ρ st Q R G h=>WE.of Qrr (now R h rfl)⟩
theorem Qpa {b:Bool} :SimE X E (.Constant (.bool b) j pos) (mC (.bl b)):=⟨λΓ σ H ρ st Q R G h=>WE.of Qvd (now R h rfl)⟩
theorem Qqt :SimE X E (.Constant .none j pos) (mC .non):=⟨λΓ σ H ρ st Q R G h=>WE.of Qrq (now R h rfl)⟩
theorem Qqq :SimE X E (.Constant (.str x) j pos) (mC (.str x)):=⟨λΓ σ H ρ st Q R G h=>WE.of Qrk (now R h rfl)⟩
theorem Qka {i:Int} {t:Tok} (q:Gl X x) (hm:X.mg x=zo (.int i t)) (hd:(x == ("__debug__" : Str))=yo:=by decide):SimE X E (.Name x pos) (mC (.int i)):=
 ⟨λΓ σ H ρ st Q R G h=>WE.of (Q5q q hm (v:=.int i) ⟨t,rfl⟩ hd) (now R h rfl)⟩
variable {a b c:aH} {ma mb mc:ME}
def mOp (o:OP) (ma mb:ME):ME:=λΓ st=>(ma Γ st).bind λx st1=>(mb Γ st1).bind λy st2=>o st2 x y
theorem Q6u {f:aA->aA->Sem aA} {Q:VK} (ho:OpS X E f o) (ha:SimE X E a ma) (hb:SimE X E b mb) (R:Rel H ρ st) (G:EnvR H ρ Γ σ) (h:Acc X.mg E H ρ P (mOp o ma mb Γ st))
  (k:∀ p I H1 ρ1 v,Ext H ρ H1 ρ1->Rel H1 ρ1 I->Rep H1 ρ1 p v->P p I H1 ρ1->Q v H1):tOp (WO X f) (WE X a) (WE X b) σ H Q:=by
 refine ha.use R G h.bind λp I H1 ρ1 v x1 R1 G1 Z h1=>?_
 refine hb.use R1 G1 h1.bind λq a1 H2 a2 u x2 R2 G2 U h2=>?_
 exact ho.use R2 (Z.ext x2) U h2 λw O Y J z x3 R3 r3 p3=>k w O Y J z (x1.trans (x2.trans x3)) R3 r3 p3
theorem Quw {op:Operator} (J:OpS X E (af op) o) (I:SimE X E a ma) (O:SimE X E b mb):SimE X E (.BinOp a op b pos) (mOp o ma mb):=
 ⟨λΓ σ H ρ st Q R G h=>WE.of (Qpi Q9y J1 J1) (Q6u J I O R G h λ_ _ _ _ v _ _ r q=>q v r)⟩
theorem Qqy (J:OpS X E (aU op) o) (I:SimE X E a ma) (O:SimE X E b mb) (hm:bO op b=yo:=by first | exact Qa4 _ | rfl):SimE X E (.Compare a [op] [b] pos) (mOp o ma mb):=
 ⟨λΓ σ H ρ st Q R G h=>WE.of (Q5r Q9y J1 J1 hm) (Q6u J I O R G h λ_ _ _ _ v _ _ r q=>q v r)⟩
def asB (p:PV) (st:Q0):Res Bool:=match p with
 | .bl k=>.ok k st
 | _=>.stuck
def toB (m:ME):Gam->Q0->Res Bool:=λΓ st=>(m Γ st).bind asB
theorem Qjd {P:Bool->Q0->Hp->Tk->Prop} (R:Rel H ρ st) (r:Rep H ρ p v) (h:Acc mg E H ρ P (asB p st)):∃ k,v=.bl k/\P k st H ρ:=by
 cases p with
 | bl k=>exact ⟨k,r,h H ρ (Ext.refl _ _) R⟩
 | _=>exact h.elim
theorem Qqe (U:OpS X E (aU op) o) (I:SimE X E a ma) (Y:SimE X E b mb) (hm:bO op b=yo:=by first | exact Qa4 _ | rfl):SimT X E (.Compare a [op] [b] pos) (toB (mOp o ma mb)):=
 ⟨λΓ σ H ρ st Q R G h=>WT.of (Qkp Q9y J1 J1 hm) (Q6u U I Y R G h.bind λ_ O _ _ v _ J r q=>by
  obtain ⟨k,e,z⟩:=Qjd J r q;exact ⟨k,e,z⟩)⟩
theorem Qqc {m:ME} (h:SimE X E e m) (I:∀ q,isTrue e X.env q=(do let v <- q; standAt e.pos; aw [v] (truthy v)):=by intro _; rfl):SimT X E e (toB m):=
 ⟨λΓ σ H ρ st Q R G U=>WT.of (Qr8 J1 I) (h.use R G U.bind λp J H1 ρ1 v x1 O Z Y h1=>by
  obtain ⟨k,e,z⟩:=Qjd O Y h1;exact ⟨k,e,z⟩)⟩
def Xq (o o':OP) (ma mb mc:ME):ME:=λΓ st=>(ma Γ st).bind λx st1=>(mb Γ st1).bind λy st2=>(o st2 x y).bind λk st3=>match k with
 | .bl zb=>(mc Γ st3).bind λz st4=>o' st4 y z
 | .bl yo=>.ok (.bl yo) st3
 | _=>.stuck
theorem Q52 {O:CmpOp} {o':OP} {Q:VK} (ho:OpS X E (aU op) o) (Z:OpS X E (aU O) o') (ha:SimE X E a ma) (hb:SimE X E b mb) (hc:SimE X E c mc) (R:Rel H ρ st) (G:EnvR H ρ Γ σ) (h:Acc X.mg E H ρ P (Xq o o' ma mb mc Γ st))
  (k:∀ p I H1 ρ1 v,Ext H ρ H1 ρ1->Rel H1 ρ1 I->Rep H1 ρ1 p v->P p I H1 ρ1->Q v H1):Q9j (WO X (aU op)) (WO X (aU O)) (WE X a) (WE X b) (WE X c) σ H Q:=by
 refine ha.use R G h.bind λp I H1 ρ1 v x1 R1 G1 r1 h1=>?_
 refine hb.use R1 G1 h1.bind λq a3 H2 a5 u x2 R2 G2 r2 h2=>?_
 refine ho.use R2 (r1.ext x2) r2 h2.bind λw a4 H3 J z U R3 r3 h3=>?_
 cases w with
 | bl b=>
  refine ⟨b,r3,?_⟩;cases b with
  | true=>
   rw [bT rfl];refine hc.use R3 (G2.ext U) h3.bind λy a6 H4 a2 yv x4 R4 G4 r4 h4=>?_
   exact Z.use R4 (r2.ext (U.trans x4)) r4 h4 λw Y H5 a1 z x5 R5 r5 p5=>k w Y H5 a1 z (x1.trans (x2.trans (U.trans (x4.trans x5)))) R5 r5 p5
  | false=>
   rw [bU D2];exact k (.bl yo) _ H3 J _ (x1.trans (x2.trans U)) R3 rfl (h3 H3 J (Ext.refl _ _) R3)
 | _=>exact h3.elim
theorem Qfw {I:CmpOp} {o':OP} (U:OpS X E (aU op) o) (J:OpS X E (aU I) o') (O:SimE X E a ma) (Y:SimE X E b mb) (Z:SimE X E c mc) (hm:lastMarks [op,I] [b,c]=yo:=by with_unfolding_all rfl):SimE X E (.Compare a [op,I] [b,c] pos) (Xq o o' ma mb mc):=
 ⟨λΓ σ H ρ st Q R G h=>WE.of (Qgs Q9y Q9y J1 J1 J1 hm) (Q52 U J O Y Z R G h λ_ _ _ _ v _ _ r q=>q v r)⟩
theorem Qfa {I:CmpOp} {o':OP} (Z:OpS X E (aU op) o) (J:OpS X E (aU I) o') (O:SimE X E a ma) (hb:SimE X E b mb) (hc:SimE X E c mc) (hm:lastMarks [op,I] [b,c]=yo:=by with_unfolding_all rfl):SimT X E (.Compare a [op,I] [b,c] pos) (toB (Xq o o' ma mb mc)):=
 ⟨λΓ σ H ρ st Q R G h=>WT.of (Qg9 Q9y Q9y J1 J1 J1 hm) (Q52 Z J O hb hc R G h.bind λ_ Y _ _ v _ U r q=>by
  obtain ⟨k,e,z⟩:=Qjd U r q;exact ⟨k,e,z⟩)⟩
variable {rest:List aH}
def yb (ma mb:ME):ME:=λΓ st=>(ma Γ st).bind λx st1=>match x with
 | .bl zb=>mb Γ st1
 | .bl yo=>.ok (.bl yo) st1
 | _=>.stuck
def mOr (ma mb:ME):ME:=λΓ st=>(ma Γ st).bind λx st1=>match x with
 | .bl zb=>.ok (.bl zb) st1
 | .bl yo=>mb Γ st1
 | _=>.stuck
def Qsh (ma:ME):ME:=λΓ st=>(ma Γ st).bind λx st1=>match x with
 | .bl k=>.ok (.bl (!k)) st1
 | _=>.stuck
theorem Qqr {op:BoolOp} (I:SimE X E a ma):SimE X E (.BoolOp op [a] pos) ma:=⟨λΓ σ H ρ st Q R G h=>WE.of (Qrn J1) (I.use R G h λ_ _ _ _ v _ _ _ r q=>q v r)⟩
theorem Qqz (J:SimE X E a ma) (Y:SimE X E (.BoolOp .And (b :: rest) pos) mb):SimE X E (.BoolOp .And (a :: b :: rest) pos) (yb ma mb):=
 ⟨λΓ σ H ρ st Q R G h=>WE.of (Qrs J1 J1) (J.use R G h.bind λp O H1 ρ1 v x1 I U Z h1=>by
  cases p with
  | bl k=>
   refine ⟨k,Z,?_⟩;cases k with
   | true=>rw [bT rfl]; exact Y.use I U h1 λ_ _ _ _ v _ _ _ r q=>q v r
   | false=>rw [bU D2]; exact now I h1 rfl
  | _=>exact h1.elim)⟩
theorem Quv (J:SimE X E a ma) (Y:SimE X E (.BoolOp .Or (b :: rest) pos) mb):SimE X E (.BoolOp .Or (a :: b :: rest) pos) (mOr ma mb):=
 ⟨λΓ σ H ρ st Q R G h=>WE.of (Qvc J1 J1) (J.use R G h.bind λp O H1 ρ1 v x1 I U Z h1=>by
  cases p with
  | bl k=>
   refine ⟨k,Z,?_⟩;cases k with
   | true=>rw [bT rfl]; exact now I h1 rfl
   | false=>rw [bU D2]; exact Y.use I U h1 λ_ _ _ _ v _ _ _ r q=>q v r
  | _=>exact h1.elim)⟩
theorem Qqs (q:SimE X E a ma):SimE X E (.UnaryOp .Not a pos) (Qsh ma):=
 ⟨λΓ σ H ρ st Q R G h=>WE.of (Qrp J1) (q.use R G h.bind λp I H1 ρ1 v x1 J U O h1=>by
  cases p with
  | bl k=>exact ⟨k,O,now J h1 rfl⟩
  | _=>exact h1.elim)⟩
def Q8e (ma:ME):ME:=λΓ st=>(ma Γ st).bind λx st1=>match x with
 | .int k=>.ok (.int (-k)) st1
 | _=>.stuck
theorem Qqu (q:SimE X E a ma):SimE X E (.UnaryOp .USub a pos) (Q8e ma):=
 ⟨λΓ σ H ρ st Q R G h=>WE.of (Qvb Qq1 J1) (q.use R G h.bind λp I H1 ρ1 v x1 J U O h1=>by
  cases p with
  | int k=>exact ⟨k,O,now J h1 rfl⟩
  | _=>exact h1.elim)⟩
abbrev MT:=Gam->Q0->Res Bool
variable {ta tb:MT}
def zh (ta tb:MT):MT:=λΓ st=>(ta Γ st).bind λk st1=>if k=zb then tb Γ st1 else .ok yo st1
def Uz (ta tb:MT):MT:=λΓ st=>(ta Γ st).bind λk st1=>if k=zb then .ok zb st1 else tb Γ st1
def Ya (ta:MT):MT:=λΓ st=>(ta Γ st).bind λk st1=>.ok (!k) st1
theorem SimW.t (h:SimW X E e ta):SimT X E e ta:=⟨λΓ σ H ρ st Q R G q pins s I=>h.run Γ σ H ρ st Q R G q _ pins s I⟩
theorem Qjm (I:SimT X E a ta):SimW X E (.BoolOp .And [a] pos) ta:=⟨λΓ σ H ρ st Q R G h=>WW.of (Qkj Q7w) (I.use R G h λ_ _ _ _ _ _ _ q=>q)⟩
theorem Qqa (I:SimT X E a ta):SimW X E (.BoolOp .Or [a] pos) ta:=⟨λΓ σ H ρ st Q R G h=>WW.of (Qr6 Q7w) (I.use R G h λ_ _ _ _ _ _ _ q=>q)⟩
theorem Qqb (J:SimT X E a ta) (Y:SimW X E (.BoolOp .And (b :: rest) pos) tb):SimW X E (.BoolOp .And (a :: b :: rest) pos) (zh ta tb):=
 ⟨λΓ σ H ρ st Q R G h=>WW.of (Qr7 Q7w Qv5) (J.use R G h.bind λk O H1 ρ1 x1 I U h1=>by
  cases k with
  | true=>rw [bT rfl] at h1 ⊢; exact Y.use I U h1 λ_ _ _ _ _ _ _ q=>q
  | false=>rw [bU D2] at h1 ⊢; exact h1 H1 ρ1 (Ext.refl _ _) I)⟩
theorem Qus (J:SimT X E a ta) (Y:SimW X E (.BoolOp .Or (b :: rest) pos) tb):SimW X E (.BoolOp .Or (a :: b :: rest) pos) (Uz ta tb):=
 ⟨λΓ σ H ρ st Q R G h=>WW.of (Qv6 Q7w Qv5) (J.use R G h.bind λk O H1 ρ1 x1 I U h1=>by
  cases k with
  | true=>rw [bT rfl] at h1 ⊢; exact h1 H1 ρ1 (Ext.refl _ _) I
  | false=>rw [bU D2] at h1 ⊢; exact Y.use I U h1 λ_ _ _ _ _ _ _ q=>q)⟩
theorem Qqd (q:SimT X E a ta):SimT X E (.UnaryOp .Not a pos) (Ya ta):=
 ⟨λΓ σ H ρ st Q R G h=>WT.of (Qr9 Q7w) (q.use R G h.bind λk J H1 ρ1 x1 I O h1=>h1 H1 ρ1 (Ext.refl _ _) I)⟩
variable {e:aH} {es:List aH} {m:ME} {mr:Gam->Q0->Res (List PV)}
def Q4:Gam->Q0->Res (List PV):=λ_ st=>.ok [] st
def Q1 (m:ME) (mr:Gam->Q0->Res (List PV)):Gam->Q0->Res (List PV):=λΓ st=>(m Γ st).bind λp st1=>(mr Γ st1).bind λps st2=>.ok (p :: ps) st2
theorem Jd:SimA X E [] Q4:=⟨λΓ σ H ρ st Q R G h=>WA.of Us (h H ρ (Ext.refl _ _) R [] rfl)⟩
theorem Qg (I:SimE X E e m) (hr:SimA X E es mr) (hs:aN (e :: es) X.env=(yo,aO e X.env) :: aN es X.env:=by rfl):SimA X E (e :: es) (Q1 m mr):=
 ⟨λΓ σ H ρ st Q R G h=>WA.of (W3 J1 Q0u hs) (I.use R G h.bind λp J H1 ρ1 v x1 O Y r1 h1=>hr.use O Y h1.bind λps Z H2 q vs x2 R2 G2 U h2=>
  h2 H2 q (Ext.refl _ _) R2 (v :: vs) ⟨v,vs,rfl,r1.ext x2,U⟩)⟩
def Jh (mr:Gam->Q0->Res (List PV)):ME:=λΓ st=>(mr Γ st).bind λps st1=>if ps.length<=lim then .ok (.tup ps) st1 else .stuck
def Vz (mr:Gam->Q0->Res (List PV)):ME:=λΓ st=>(mr Γ st).bind λps st1=>if ps.length<=lim then .ok (.lst ps) st1 else .stuck
theorem jp {k:Nat} (h:SimA X E es mr):SimE X E (.Tuple es k pos) (Jh mr):=
 ⟨λΓ σ H ρ st Q R G U=>WE.of (Qrj Q0u) (h.use R G U.bind λps J H1 ρ1 vs x1 O Y I h1=>by
  by_cases q:ps.length<=lim
  ·rw [bT q] at h1;exact ⟨by rw [<- I.length]; exact Zz q,qq O h1 I⟩
  ·rw [bU q] at h1; exact h1.elim)⟩
theorem Qft (h:SimA X E es mr):SimE X E (.List es pos) (Vz mr):=
 ⟨λΓ σ H ρ st Q R G U=>WE.of (Qgp Q0u) (h.use R G U.bind λps J H1 ρ1 vs x1 O Y I h1=>by
  by_cases q:ps.length<=lim
  ·rw [bT q] at h1;exact ⟨by rw [<- I.length]; exact Zz q,Xj O h1 I⟩
  ·rw [bU q] at h1; exact h1.elim)⟩
end
end Sm
namespace HT
open PySem PySem.Spec PyProof.Rows
variable {prog:aK} {A:aL} {E:aA->aC->Prop} {s:aC}
section
variable {w:aJ}
theorem getItem_tuple_whole {t sl:aB} {q:Array aA} {Z vu:aA} {lo hi:Option Int} {Q:aA->aC->Prop} (G:IsTup s.heap t q) (hs:s.heap.IsSliceOf sl Z vu .none) (pl:IsPart Z lo) (pu:IsPart vu hi)
  (Y:sIx q.size 0 lo=0/\sIx q.size q.size hi=q.size)
  (h:Q (.ref t) s):aF (aI prog w) A (getItem (.ref t) (.ref sl)) Q E s:=by
 obtain ⟨os,J,O,a1⟩:=id hs;have U:s.TypeIs (.ref sl) "slice" := ⟨os,J,O⟩;unfold getItem
 try with_reducible refine ak ?_
 first | refine aD (wpAny_pure ?_) | skip
 refine aD (wpAny_sequenceKey G.typeIs (by decide) ?_);refine aD (wpAny_callSpecial?_slot (name:=cC "__getitem__") G.typeIs dl
  (ah dl G.typeIs entry_tuple_getitem ?_ (args_tuple_getitem _ _)))
 show aF _ _ (Builtin.Tuple.tupleItemsOf (.ref t) >>= _) _ _ s;refine aD (tupleItemsOf_ G ?_);refine aD (bB U ?_);rw [bT (by decide)];refine aD (X1 hs pl pu ?_);have I:(((sIx q.size 0 lo:Nat):Int) == 0 && (1:Int) == 1 && (sIx q.size q.size hi - sIx q.size 0 lo) == q.size)=zb:=by
  rw [Y.1,Y.2]; simp
 show aF _ _ (if (((sIx q.size 0 lo:Nat):Int) == 0 && (1:Int) == 1 && (sIx q.size q.size hi - sIx q.size 0 lo) == q.size)=zb then _ else _) _ _ s;rw [bT I];refine aD (aD (bB G.typeIs (wpAny_pure ?_)));rw [bT (by rfl)];exact aD (bJ (wpAny_pure ⟨_,rfl,wpAny_pure h⟩))
end
end HT
namespace L2
open PySem PySem.Spec PyProof.Rows
def Qys (K:bX):V->Option Int->Option Int->Hp->VK->Prop:=λx lo hi H Q=>∃ a xs,x=.ref a/\SqT K H a xs /\
 (HT.sIx xs.length 0 lo=0/\HT.sIx xs.length xs.length hi=xs.length)/\Q (.ref a) H
theorem sl_whole {X:Cx}:SlR X (Qys X.K):=by
 intro pins s σ H x v vl vu lo hi sl Q I rx hs Z O h;obtain ⟨a,xs,rfl,U,Y,q⟩:=h;cases rx;obtain ⟨its,r,J,hz⟩:=I.tuple U;have G:its.toArray.size=xs.length:=by rw [O7]; exact r.length.symm
 refine ⟨"tuple",_,PyProof.Rows.slot_tuple_getitem.lookup,J.typeIs,?_⟩;exact HT.getItem_tuple_whole J hs Z O (by rw [G]; exact Y) ⟨.ref a,H,I,rfl,q⟩
end L2
namespace Sm
open PySem PySem.Spec L2
variable {H H1:Hp} {ρ:Tk} {p:PV} {x:Str} {σ:St} {st:Q0} {xs ps:List PV} {vs:List V} {p2 tp:Pos} {o:CF} {Q:VK} {T:String} {K:bX} {v:V} {e c:aH} {es:List aH} {n k kt:Nat} {mg:zAE} {b:aB} {hs:List aB} {α β:Type} {Γ:Gam} {P:List PV->Q0->Hp->Tk->Prop} {s:aM} {fd:aP}
variable {X:Cx} {E:XK} {pos:Pos}
def oI (g:Int->Int->PV):OP:=λst p q=>match p,q with
 | .int a,.int b=>.ok (g a b) st
 | _,_=>.stuck
def Qx:OP:=λst p q=>match p,q with
 | .int a,.int b=>.ok (.int (a + b)) st
 | .str a,.str b=>if a.length + b.length<=lim then .ok (.str (a ++ b)) st else .stuck
 | .tup xs,.tup ys=>if xs.length + ys.length<=lim then .ok (.tup (xs ++ ys)) st else .stuck
 | p,q=>match Vh st p,Vh st q with
  | some xs,zo ys=>if xs.length + ys.length<=lim then .ok (.lst (xs ++ ys)) st else .stuck
  | _,_=>.stuck
theorem Qs0:OpS X E (af .Add) Qx:=⟨λH ρ st p q x y Q R Y Z h=>by
 unfold Qx at h
 split at h
 ·cases Y; cases Z;exact WO.of Qs8 ⟨_,_,rfl,rfl,now R h rfl⟩
 ·cases Y; cases Z
  split at h
  ·rename_i O;exact WO.of Q9z ⟨_,_,rfl,rfl,Zz O,now R h rfl⟩
  ·exact h.elim
 ·split at h
  ·rename_i xs ys O;obtain ⟨a,vs,rfl,J,na,G⟩:=Y;obtain ⟨b,us,rfl,U,nb,I⟩:=Z;refine WO.of Qmi ?_
   by_cases e:xs=[]
   ·subst e;cases G;exact .inr ⟨a,b,us,rfl,rfl,SqT.of J,SqT.of U,now R h ⟨b,us,rfl,U,nb,I⟩⟩
   ·refine .inl ⟨a,b,vs,us,rfl,rfl,SqT.of J,SqT.of U,λz=>e ?_,by rw [<- G.length,<- I.length]; exact Zz O,λz=>?_,λz=>qq R h (G.append I)⟩
    ·subst z;cases xs with
     | nil=>rfl
     | cons _ _=>have:=G.length; simp at this
    ·subst z;have:ys=[]:=by
      cases ys with
      | nil=>rfl
      | cons _ _=>have:=I.length; simp at this
     subst this;rw [L1] at h;exact now R h ⟨a,vs,rfl,J,na,G⟩
  ·exact h.elim
 ·split at h
  ·rename_i xs ys e1 e2
   split at h
   ·rename_i O;obtain ⟨a,vs,rfl,J,G⟩:=jx R Y e1;obtain ⟨b,us,rfl,U,I⟩:=jx R Z e2;exact WO.of Qh2 ⟨a,b,vs,us,rfl,rfl,J,U,by rw [<- G.length,<- I.length]; exact Zz O,Xj R h (G.append I)⟩
   ·exact h.elim
  ·exact h.elim⟩
theorem Qrt:OpS X E (af .Sub) (oI λa b=>.int (a - b)):=⟨λH ρ st p q x y Q R I G h=>by
 unfold oI at h
 split at h
 ·cases I; cases G;exact WO.of Qs1 ⟨_,_,rfl,rfl,now R h rfl⟩
 ·exact h.elim⟩
def Kj:OP:=λst p q=>match p,q with
 | .int a,.int b=>if (-(2 ^ 64) < a/\a < 2 ^ 64)\/(-(2 ^ 64) < b/\b < 2 ^ 64) then .ok (.int (a * b)) st else .stuck
 | .tup xs,.int b=>if xs≠[]/\1<=b/\xs.length * b.toNat<=4096 then .ok (.tup (ba b.toNat xs).flatten) st else .stuck
 | p,.int b=>match Vh st p with
  | some xs=>if -(2 ^ 63)<=b/\b < 2 ^ 63/\xs.length * b.toNat<=lim then .ok (.lst (ba b.toNat xs).flatten) st else .stuck
  | none=>.stuck
 | _,_=>.stuck
theorem Qrv:OpS X E (af .Mult) Kj:=⟨λH ρ st p q x y Q R Y U h=>by
 unfold Kj at h
 split at h
 ·cases Y; cases U
  split at h
  ·rename_i G;exact WO.of Qs4 ⟨_,_,rfl,rfl,G,now R h rfl⟩
  ·exact h.elim
 ·cases U
  split at h
  ·rename_i xs b G;obtain ⟨a,vs,rfl,J,Z,I⟩:=Y;refine WO.of Qmg ⟨a,b,vs,rfl,rfl,SqT.of J,λz=>G.1 ?_,G.2.1,by rw [<- I.length]; exact G.2.2,λz=>?_,λz=>qq R h (I.rep _)⟩
   ·subst z;cases xs with
    | nil=>rfl
    | cons _ _=>have:=I.length; simp at this
   ·subst z;have O:(ba (Int.toNat 1) xs).flatten=xs:=by simp
    rw [O] at h;exact now R h ⟨a,vs,rfl,J,Z,I⟩
  ·exact h.elim
 ·cases U
  split at h
  ·rename_i xs O
   split at h
   ·rename_i G;obtain ⟨a,vs,rfl,J,I⟩:=jx R Y O;exact WO.of Qs2 ⟨a,_,vs,rfl,rfl,J,G.1,G.2.1,by rw [<- I.length]; exact Zz G.2.2,Xj R h (I.rep _)⟩
   ·exact h.elim
  ·exact h.elim
 ·exact h.elim⟩
def zw:OP:=λst p q=>match p,q with
 | .int a,.int b=>if 0 < b then .ok (.int (a % b)) st else .stuck
 | _,_=>.stuck
theorem Qrw:OpS X E (af .Mod) zw:=⟨λH ρ st p q x y Q R I G h=>by
 unfold zw at h
 split at h
 ·cases I; cases G
  split at h
  ·rename_i J;exact WO.of Qs5 ⟨_,_,rfl,rfl,J,now R h rfl⟩
  ·exact h.elim
 ·exact h.elim⟩
def Qa2:OP:=λst p q=>match p,q with
 | .int a,.int b=>if 0<=b/\b<=1000000/\a.natAbs < 2 ^ 64 then .ok (.int (a ^ b.toNat)) st else .stuck
 | _,_=>.stuck
theorem Qru:OpS X E (af .Pow) Qa2:=⟨λH ρ st p q x y Q R I G h=>by
 unfold Qa2 at h
 split at h
 ·cases I; cases G
  split at h
  ·rename_i J;exact WO.of Qs3 ⟨_,_,rfl,rfl,J,now R h rfl⟩
  ·exact h.elim
 ·exact h.elim⟩
theorem Qa3 {op:CmpOp} {g:Int->Int->Bool} (G:OpR X (aU op) (rI0 λi j=>.bl (g i j))):OpS X E (aU op) (oI λa b=>.bl (g a b)):=⟨λH ρ st p q x y Q R J I h=>by
 unfold oI at h
 split at h
 ·cases J; cases I;exact WO.of G ⟨_,_,rfl,rfl,now R h rfl⟩
 ·exact h.elim⟩
theorem Qvh:OpS X E (aU .LtE) (oI λa b=>.bl (decide (a<=b))):=Qa3 Qpm
theorem Qvj:OpS X E (aU .Gt) (oI λa b=>.bl (decide (b < a))):=Qa3 Qvp
theorem Qvk:OpS X E (aU .GtE) (oI λa b=>.bl (decide (b<=a))):=Qa3 Qvq
def Q04:List PV->Option (List Int)
 | []=>zo []
 | .int i :: ps=>(Q04 ps).map (i :: ·)
 | _ :: _=>zl
def Q0r:List PV->Option (List Bool)
 | []=>zo []
 | .bl i :: ps=>(Q0r ps).map (i :: ·)
 | _ :: _=>zl
theorem Qnx (ns:List Bool):Q0r (ns.map .bl)=zo ns:=by
 induction ns with
 | nil=>rfl
 | cons n ns q=>rw [D3,Q0r,q]; rfl
theorem Q6e:∀ {ps:List PV} {ns:List Int},Q04 ps=zo ns->ps=ns.map .int
 | [],ns,h=>by cases h; rfl
 | .int i :: ps,ns,h=>by
  rw [Q04] at h;cases e:Q04 ps with
  | none=>rw [e] at h; cases h
  | some ms=>rw [e] at h; cases h; rw [Q6e e]; rfl
 | .non :: _,_,h | .bl _ :: _,_,h | .str _ :: _,_,h | .tup _ :: _,_,h | .lst _ :: _,_,h | .fro _ :: _,_,h | .ref _ :: _,_,h | .dic :: _,_,h=>by cases h
theorem Qj6:∀ {ps:List PV} {ns:List Bool},Q0r ps=zo ns->ps=ns.map .bl
 | [],ns,h=>by cases h; rfl
 | .bl i :: ps,ns,h=>by
  rw [Q0r] at h;cases e:Q0r ps with
  | none=>rw [e] at h; cases h
  | some ms=>rw [e] at h; cases h; rw [Qj6 e]; rfl
 | .non :: _,_,h | .int _ :: _,_,h | .str _ :: _,_,h | .tup _ :: _,_,h | .lst _ :: _,_,h | .fro _ :: _,_,h | .ref _ :: _,_,h | .dic :: _,_,h=>by cases h
def oLt:OP:=λst p q=>match p,q with
 | .int a,.int b=>.ok (.bl (decide (a < b))) st
 | .tup xs,.tup ys=>match Q04 xs,Q04 ys with
  | some ns,zo ms=>.ok (.bl (HT.lexLt ns ms)) st
  | _,_=>.stuck
 | _,_=>.stuck
theorem Qvg (hu:X.A.units + 64 < aQ):OpS X E (aU .Lt) oLt:=⟨λH ρ st p q x y Q R G O h=>by
 unfold oLt at h
 split at h
 ·cases G; cases O;exact WO.of Qvn ⟨_,_,rfl,rfl,now R h rfl⟩
 ·split at h
  ·rename_i ns ms Z e2;obtain ⟨a,vs,rfl,I,na,J⟩:=G;obtain ⟨b,us,rfl,Y,nb,U⟩:=O;rw [Q6e Z] at J;rw [Q6e e2] at U;rw [J.toInts] at I;rw [U.toInts] at Y;exact WO.of (Qs6 (by omega)) ⟨a,b,ns,ms,rfl,rfl,SqT.of I,SqT.of Y,now R h rfl⟩
  ·exact h.elim
 ·exact h.elim⟩
def dep:Nat:=12
def oEq:OP:=λst p q=>if good dep (der st p)=zb/\good dep (der st q)=zb then .ok (.bl (peq (der st p) (der st q))) st else .stuck
def oNe:OP:=λst p q=>if good dep (der st p)=zb/\good dep (der st q)=zb then .ok (.bl (!peq (der st p) (der st q))) st else .stuck
theorem Qvm (U:X.A.units + 64 < aQ):OpS X E (aU .Eq) oEq:=⟨λH ρ st p q x y Q R O J h=>by
 unfold oEq at h
 split at h
 ·rename_i g;intro pins s σ v u I G ru;exact (Qce dep I g.1 g.2 (by unfold dep; omega) (qy R g.1 O) G (qy R g.2 J) ru).2.1 _ _ _ _ ⟨.bl _,H,I,rfl,now R h rfl⟩
 ·exact h.elim⟩
theorem Qvf (U:X.A.units + 64 < aQ):OpS X E (aU .NotEq) oNe:=⟨λH ρ st p q x y Q R O J h=>by
 unfold oNe at h
 split at h
 ·rename_i g;intro pins s σ v u I G ru;exact (Qce dep I g.1 g.2 (by unfold dep; omega) (qy R g.1 O) G (qy R g.2 J) ru).2.2 _ _ _ _ ⟨.bl _,H,I,rfl,now R h rfl⟩
 ·exact h.elim⟩
def Q8p:PV->Bool
 | .non=>zb
 | _=>yo
theorem Qe6 {x:V} (r:Rep H ρ p x):decide (x=.non)=Q8p p:=by
 cases p with
 | non=>cases r; rfl
 | bl _=>cases r; rfl
 | int _=>cases r; rfl
 | str _=>cases r; rfl
 | tup _=>obtain ⟨_,_,rfl,_⟩:=r; rfl
 | lst _=>obtain ⟨_,_,rfl,_⟩:=r; rfl
 | fro _=>obtain ⟨_,_,rfl,_⟩:=r; rfl
 | ref _=>obtain ⟨_,_,rfl⟩:=r; rfl
 | dic=>obtain ⟨_,rfl,_⟩:=r; rfl
def oIs:OP:=λst p q=>match q with
 | .non=>.ok (.bl (Q8p p)) st
 | .bl c=>match p with
  | .bl b=>.ok (.bl (b == c)) st
  | _=>.stuck
 | _=>.stuck
def jt:OP:=λst p q=>match q with
 | .non=>.ok (.bl (!Q8p p)) st
 | .bl c=>match p with
  | .bl b=>.ok (.bl (b != c)) st
  | _=>.stuck
 | _=>.stuck
theorem Qgx:OpS X E (aU .IsNot) jt:=⟨λH ρ st p q x y Q R I G h=>by
 unfold jt at h
 split at h
 ·cases G;refine WO.of Qmh ⟨rfl,?_⟩;rw [Qe6 I];exact now R h rfl
 ·split at h
  ·cases I; cases G;exact WO.of Q81 ⟨_,_,rfl,rfl,now R h rfl⟩
  ·exact h.elim
 ·exact h.elim⟩
def oIn (neg:Bool):OP:=λst p q=>match Vg st q with
 | some xs=>if good dep (der st p)=zb/\xs.all (good dep)=zb then .ok (.bl ((xs.any λy=>peq y (der st p)) != neg)) st else .stuck
 | none=>.stuck
open Classical in
theorem Q8q {pins:zAA} {s:aC} {A:aL} {p:PV} {xs:List PV} {x:V} {v:aA} {vs:List V} {its:List aA} (I:Inv X pins σ H s) (Z:A.units + dep < aQ) (R:Rel H ρ st)
  (gp:good dep (der st p)=zb) (Y:xs.all (good dep)=zb) (rp:Rep H ρ p x) (rv:RelV x v) (ra:RepL H ρ xs vs) (vi:Vals vs its):∃ e:aA->Bool,(∀ u,u∈its.toArray->SeqAt.EqAt A s u v (e u))/\its.toArray.any e=xs.any λy=>peq y (der st p):=by
 have a1:∀ u∈its,∃ q∈xs,∃ y,Rep H Tk.nil q y/\RelV y u:=λu Z=>by
  obtain ⟨j,hj,rfl⟩:=G6 Z;have l1:=vi.length;have l2:=ra.length;obtain ⟨y,e1,e2⟩:=(repL_nil Y ra).get (O3 (show j < xs.length by omega));obtain ⟨w,e3,e4⟩:=vi.get e1;rw [O3 hj] at e3; cases e3;exact ⟨_,cJ _,y,e2,e4⟩
 refine ⟨λu=>decide (∃ q∈xs,∃ y,Rep H Tk.nil q y/\RelV y u/\peq q (der st p)=zb),λu hm=>?_,?_⟩
 ·have a2:u∈its:=by simpa using hm
  by_cases z:∃ q∈xs,∃ y,Rep H Tk.nil q y/\RelV y u/\peq q (der st p)=zb
  ·show SeqAt.EqAt A s u v (decide _);rw [bW z];obtain ⟨q,G,y,U,O,e⟩:=z;have:=(Qce dep I ((E9.mp Y) q G) gp Z U O (qy R gp rp) rv).1;rw [e] at this;exact this
  ·show SeqAt.EqAt A s u v (decide _);rw [bV z];obtain ⟨q,G,y,U,O⟩:=a1 u a2;have:=(Qce dep I ((E9.mp Y) q G) gp Z U O (qy R gp rp) rv).1;cases e:peq q (der st p) with
   | true=>exact absurd ⟨q,G,y,U,O,e⟩ z
   | false=>rw [e] at this; exact this
 ·rw [fv,Array.any_eq_true,cX];constructor
  ·rintro ⟨j,hj,e⟩;obtain ⟨q,G,y,U,O,e⟩:=of_decide_eq_true e;exact ⟨q,G,e⟩
  ·rintro ⟨q,G,e⟩;obtain ⟨j,hj,rfl⟩:=G6 G;have l1:=vi.length;have l2:=ra.length;have J:j < its.length:=by omega
   obtain ⟨y,e1,e2⟩:=(repL_nil Y ra).get (O3 hj);obtain ⟨w,e3,e4⟩:=vi.get e1;refine ⟨j,by simpa using J,bW ⟨_,G,y,e2,?_,e⟩⟩;rw [O3 J] at e3; cases e3;simpa using e4
theorem Qvi (hu:X.A.units + 64 < aQ):OpS X E (aU .In) (oIn yo):=⟨λH ρ st p q x y Q R rp rq h=>by
 unfold oIn at h
 split at h
 ·rename_i xs es
  split at h
  ·rename_i g;obtain ⟨t,a,vs,rfl,Z,Y⟩:=xc (K:=X.K) R rq es;intro pins s σ v u I U ru;cases ru;rw [dM] at h;cases t with
   | true=>
    obtain ⟨its,r,J,hz⟩:=I.tuple Z;obtain ⟨e,G,O⟩:=Q8q (A:=X.A.in1) I (by show X.A.units + 1 + dep < aQ; unfold dep; omega) R g.1 g.2 rp U Y r;refine SeqAt.in_tupleAt e J G ⟨.bl _,H,I,rfl,?_⟩;rw [O];exact now R h rfl
   | false=>
    obtain ⟨its,r,J,hz⟩:=I.list Z;obtain ⟨e,G,O⟩:=Q8q (A:=X.A.in1) I (by show X.A.units + 1 + dep < aQ; unfold dep; omega) R g.1 g.2 rp U Y r;refine SeqAt.in_listAt e J.isList G ⟨.bl _,H,I,rfl,?_⟩;rw [O];exact now R h rfl
  ·exact h.elim
 ·exact h.elim⟩
variable {H:Hp} {ρ:Tk}
theorem RepL.atI {ps:List PV} {vs:List V} {i:Int} {p:PV} (r:RepL H ρ ps vs) (e:atI ps i=zo p):∃ v,L2.atI vs i=zo v/\Rep H ρ p v:=by
 unfold L2.atI at e ⊢;rw [<- r.length];cases q:ixN ps.length i with
 | none=>rw [q] at e; cases e
 | some j=>
  rw [q] at e;exact r.get e
def cut {α:Type} (xs:List α) (lo hi:Option Int):List α:=(xs.drop (HT.sIx xs.length 0 lo)).take (HT.sIx xs.length xs.length hi - HT.sIx xs.length 0 lo)
theorem RepL.cut (r:RepL H ρ ps vs) (lo hi:Option Int):RepL H ρ (Sm.cut ps lo hi) (Q91 vs lo hi):=by
 unfold Sm.cut Q91;rw [<- r.length];exact (r.drop _).take _
section
variable {X:Cx} {E:XK} {pos:Pos} {a b:aH} {ma mb:ME}
def oIx:OP:=λst p q=>match Vg st p,q with
 | some xs,.int i=>okO st (atI xs i)
 | _,_=>.stuck
theorem Qfu (ha:SimE X E a ma) (hb:SimE X E b mb) (hs:Q6y b:=by exact λ_ _=>rfl):SimE X E (.Subscript a b pos) (mOp oIx ma mb):=
 ⟨λΓ σ H ρ st Q R G h=>WE.of (Qpj Qhu J1 J1 hs) (ha.use R G h.bind λp a3 H1 ρ1 v x1 R1 G1 Z h1=>hb.use R1 G1 h1.bind λq a1 H2 a2 u x2 R2 G2 Y h2=>by
  unfold oIx at h2
  split at h2
  ·rename_i xs i e;cases Y;cases I:atI xs i with
   | none=>rw [I] at h2; exact h2.elim
   | some w=>
    rw [I] at h2;obtain ⟨t,b,vs,rfl,O,ra⟩:=xc (K:=X.K) R2 (Z.ext x2) e;obtain ⟨z,J,U⟩:=ra.atI I;cases t with
    | true=>exact .inr (.inl ⟨b,vs,i,z,rfl,rfl,O,J,now R2 h2 U⟩)
    | false=>exact .inl ⟨b,vs,i,z,rfl,rfl,O,J,now R2 h2 U⟩
  ·exact h2.elim)⟩
structure SimO (X:Cx) (E:XK) (o:Option aH) (m:Gam->Q0->Res (Option Int)):Prop where
 run:∀ (Γ:Gam) (σ:St) (H:Hp) (ρ:Tk) (st:Q0) (P:Option Int->Q0->Hp->Tk->Prop) (Q:Option Int->Hp->Prop),Rel H ρ st->EnvR H ρ Γ σ->Acc X.mg E H ρ P (m Γ st) ->
  (∀ i st1 H1 ρ1,Ext H ρ H1 ρ1->Rel H1 ρ1 st1->EnvR H1 ρ1 Γ σ->P i st1 H1 ρ1->Q i H1)->∃ t,PO X o t/\t σ H Q
def Zm:Gam->Q0->Res (Option Int):=λ_ st=>.ok zl st
def Zn (m:ME):Gam->Q0->Res (Option Int):=λΓ st=>(m Γ st).bind λp st1=>match p with
 | .int i=>.ok (zo i) st1
 | _=>.stuck
theorem Qjx:SimO X E zl Zm:=⟨λΓ σ H ρ st P Q R G h k=>⟨_,Qky,k zl st H ρ (Ext.refl _ _) R G (h H ρ (Ext.refl _ _) R)⟩⟩
theorem Qjw (J:SimE X E a ma):SimO X E (zo a) (Zn ma):=⟨λΓ σ H ρ st P Q R G h k=>⟨_,Qkx J1,J.use R G h.bind λp q H1 ρ1 v x1 I O U h1=>by
 cases p with
 | int i=>exact ⟨i,U,k (zo i) q H1 ρ1 x1 I O (h1 H1 ρ1 (Ext.refl _ _) I)⟩
 | _=>exact h1.elim⟩⟩
def oSl (st:Q0) (p:PV) (lo hi:Option Int):Res PV:=match p with
 | .tup xs=>.ok (.tup (cut xs lo hi)) st
 | p=>match Ys st p with
  | some xs=>.ok (.lst (cut xs lo hi)) st
  | none=>.stuck
def mSl (ma:ME) (ml mh:Gam->Q0->Res (Option Int)):ME:=λΓ st=>(ma Γ st).bind λp st1=>(ml Γ st1).bind λlo st2=>(mh Γ st2).bind λhi st3=>oSl st3 p lo hi
def TO.w (X:Cx) (o:Option aH):TO:=λσ H Q=>∃ t,PO X o t/\t σ H Q
theorem Qv9 {o:Option aH}:PO X o (TO.w X o):=λpins s σ H Q I ⟨t,h,q⟩=>h pins s σ H Q I q
theorem Qfs {lo hi:Option aH} {ml mh:Gam->Q0->Res (Option Int)} (I:SimE X E a ma) (hl:SimO X E lo ml) (hh:SimO X E hi mh):SimE X E (.Subscript a (.Slice lo hi zl p2) pos) (mSl ma ml mh):=
 ⟨λΓ σ H ρ st Q R G h=>WE.of (Qgn (sl_tup.or (sl_whole.or Qk0)) J1 Qv9 Qv9) (I.use R G h.bind λp a1 H1 ρ1 v x1 R1 G1 r1 h1=>by
  refine hl.run Γ σ H1 ρ1 a1 _ _ R1 G1 h1.bind λl Y H2 Z x2 R2 G2 h2=>?_
  refine hh.run Γ σ H2 Z Y _ _ R2 G2 h2.bind λu a3 H3 a2 x3 U G3 q=>?_
  have r3:=r1.ext (x2.trans x3);unfold oSl at q
  split at q
  ·rename_i xs;obtain ⟨a,vs,rfl,I,na,J⟩:=r3
   by_cases O:HT.sIx vs.length 0 l=0/\HT.sIx vs.length vs.length u=vs.length
   ·refine .inr (.inl ⟨a,vs,rfl,SqT.of I,O,?_⟩);have e:cut xs l u=xs:=by
     unfold cut;rw [J.length,O.1,O.2,eO,iW,<- J.length,eM]
    rw [e] at q;exact now U q ⟨a,vs,rfl,I,na,J⟩
   ·exact .inl ⟨a,vs,rfl,SqT.of I,O,qq U q (J.cut l u)⟩
  ·split at q
   ·rename_i xs e;obtain ⟨a,vs,rfl,I,J⟩:=W6 U r3 e;exact .inr (.inr ⟨a,vs,rfl,.inl I,Xj U q (J.cut l u)⟩)
   ·exact q.elim)⟩
variable {es:List aH} {e:aH} {mr:Gam->Q0->Res (List PV)}
def Qj (o:CF) (mr:Gam->Q0->Res (List PV)):ME:=λΓ st=>(mr Γ st).bind λps st1=>o st1 ps
theorem CallS.use {f:aA} (s:CallS X E f o) {P:PV->Q0->Hp->Tk->Prop} {Q:VK} {xs:List V} (R:Rel H ρ st) (O:RepL H ρ ps xs) (h:Acc X.mg E H ρ P (o st ps))
  (k:∀ p q H1 ρ1 v,Ext H ρ H1 ρ1->Rel H1 ρ1 q->Rep H1 ρ1 p v->P p q H1 ρ1->Q v H1):WC X f xs H Q:=by
 refine s.run H ρ st ps xs Q R O ?_;cases r:o st ps with
 | ok p q=>rw [r] at h; exact λH' ρ' G I v J=>k p q H' ρ' v G I J (h H' ρ' G I)
 | exc e st=>rw [r] at h; exact h
 | stuck=>rw [r] at h; exact h
theorem Qfx {id:String} {p:Pos} (hc:CallS X E (.builtin id) o) (hg:Gl X x) (hm:X.mg x=zl) (hv:aX x=zo (.builtin id)) (U:SimA X E (e :: es) mr) (hn:x≠"__name__" := by decide) (I:(x == ("__debug__" : Str))=yo:=by decide)
  (O:aN (e :: es) X.env=(yo,aO e X.env) :: aN es X.env:=by rfl) (J:(ae pos (aN es X.env)).any (·.1)=yo:=by rfl):SimE X E (.Call (.Name x p) (e :: es) [] pos) (Qj o mr):=
 ⟨λΓ σ H ρ st Q R G h=>WE.of (zq Qix hg hm hv Q0u hn I O J) (U.use R G h.bind λps Y H1 ρ1 vs x1 Z G1 r1 h1=>hc.use Z r1 h1 λ_ _ _ _ v _ _ r q=>q v r)⟩
theorem Vr {p:Pos} (hc:CallS X E (.type T) o) (hg:Gl X x) (hm:X.mg x=zl) (hv:aX x=zo (.type T)) (U:SimA X E (e :: es) mr) (hn:x≠"__name__" := by decide) (J:(x == ("__debug__" : Str))=yo:=by decide)
  (O:aN (e :: es) X.env=(yo,aO e X.env) :: aN es X.env:=by rfl) (I:(ae pos (aN es X.env)).any (·.1)=yo:=by rfl):SimE X E (.Call (.Name x p) (e :: es) [] pos) (Qj o mr):=
 ⟨λΓ σ H ρ st Q R G h=>WE.of (X2 Qix hg hm hv Q0u hn J O I) (U.use R G h.bind λps Y H1 ρ1 vs x1 Z G1 r1 h1=>hc.use Z r1 h1 λ_ _ _ _ v _ _ r q=>q v r)⟩
theorem Zd {xs:List V} (r:RepL H ρ [p] xs):∃ v,xs=[v]/\Rep H ρ p v:=by
 obtain ⟨v,t,rfl,h1,h2⟩:=r;cases h2;exact ⟨v,rfl,h1⟩
theorem Qg0 {q:PV} {xs:List V} (r:RepL H ρ [p,q] xs):∃ v u,xs=[v,u]/\Rep H ρ p v/\Rep H ρ q u:=by
 obtain ⟨v,t,rfl,h1,h2⟩:=r;obtain ⟨u,rfl,G⟩:=Zd h2;exact ⟨v,u,rfl,h1,G⟩
def Jv:CF:=λst ps=>match ps with
 | [p]=>match Vg st p with
  | some xs=>.ok (.int xs.length) st
  | none=>match p with
   | .str x=>if x.length<=lim then .ok (.int x.length) st else .stuck
   | _=>.stuck
 | _=>.stuck
theorem Qt8:CallS X E (.builtin "len") Jv:=⟨λH ρ st ps xs Q R G h=>by
 unfold Jv at h
 split at h
 ·rename_i p;obtain ⟨v,rfl,r⟩:=Zd G
  split at h
  ·rename_i ys e;obtain ⟨t,a,vs,rfl,J,q⟩:=xc (K:=X.K) R r e;rw [q.length] at h;exact WC.of Q6r ⟨a,vs,rfl,Q9m J,now R h rfl⟩
  ·split at h
   ·cases r
    split at h
    ·rename_i I;exact WC.of Q6q ⟨_,rfl,Zz I,now R h rfl⟩
    ·exact h.elim
   ·exact h.elim
 ·exact h.elim⟩
def Xv (g:List Bool->PV):CF:=λst ps=>match ps with
 | [p]=>match (Vg st p).bind Q0r with
  | some ns=>.ok (g ns) st
  | none=>.stuck
 | _=>.stuck
theorem Qny {ns:List Bool} (R:Rel H ρ st) (r:Rep H ρ p v) (e:(Vg st p).bind Q0r=zo ns):∃ (t:Bool) (a:aB),v=.ref a/\SqK K t H a (ns.map V.bl):=by
 cases q:Vg st p with
 | none=>rw [q] at e; cases e
 | some xs=>
  rw [q] at e;obtain ⟨t,a,vs,rfl,I,G⟩:=xc (K:=K) R r q;rw [Qj6 e] at G;rw [G.toBls] at I;exact ⟨t,a,rfl,I⟩
theorem Qt9 (I:X.calm=zb):CallS X E (.builtin "all") (Xv λns=>.bl (ns.all id)):=⟨λH ρ st ps xs Q R G h=>by
 unfold Xv at h
 split at h
 ·obtain ⟨v,rfl,r⟩:=Zd G
  split at h
  ·rename_i ns e;obtain ⟨t,a,rfl,q⟩:=Qny (K:=X.K) R r e;exact WC.of (Qiy t I) ⟨a,ns,rfl,q,now R h rfl⟩
  ·exact h.elim
 ·exact h.elim⟩
def yq:CF:=λst ps=>match ps with
 | [p]=>match Vg st p with
  | some xs=>.ok (.lst xs) st
  | none=>.stuck
 | _=>.stuck
def Yu:CF:=λst ps=>match ps with
 | [p]=>match Vg st p with
  | some xs=>.ok (.tup xs) st
  | none=>.stuck
 | _=>.stuck
theorem Qnr:CallS X E (.type "list") yq:=⟨λH ρ st ps xs Q R I h=>by
 unfold yq at h
 split at h
 ·obtain ⟨v,rfl,r⟩:=Zd I
  split at h
  ·rename_i ys e;obtain ⟨t,a,vs,rfl,G,q⟩:=xc (K:=X.K) R r e;exact WC.of yn ⟨a,vs,rfl,Q9m G,Xj R h q⟩
  ·exact h.elim
 ·exact h.elim⟩
theorem Q39:CallS X E (.type "tuple") Yu:=⟨λH ρ st ps xs Q R I h=>by
 unfold Yu at h
 split at h
 ·rename_i p;obtain ⟨v,rfl,r⟩:=Zd I
  split at h
  ·rename_i ys e;cases p with
   | tup zs=>
    cases e;obtain ⟨a,vs,rfl,q,J,G⟩:=r;exact WC.of jj ⟨a,vs,rfl,.inr ⟨SqT.of q,now R h ⟨a,vs,rfl,q,J,G⟩⟩⟩
   | _=>
    obtain ⟨a,vs,rfl,q,G⟩:=W6 R r e;exact WC.of jj ⟨a,vs,rfl,.inl ⟨.inl q,qq R h G⟩⟩
  ·exact h.elim
 ·exact h.elim⟩
def tyN:PV->String
 | .non => "NoneType"
 | .bl _ => "bool"
 | .int _ => "int"
 | .str _ => "str"
 | .tup _ => "tuple"
 | .lst _ => "list"
 | .fro _ => "list"
 | .ref _ => "list"
 | .dic => "dict"
def dpv (st:Q0):PV->PV
 | .ref i=>match st[i]? with
  | some (.dic _)=>.dic
  | some (.dtp _)=>.dic
  | _=>.ref i
 | p=>p
def isI (T:String) (p:PV):Bool:=tyN p == T || (T == "int" && tyN p == "bool")
def z9 (st:Q0):PV->Bool
 | .ref i=>match st[i]? with
  | some (.frd _)=>zb
  | some (.obj _ _)=>zb
  | _=>yo
 | _=>yo
theorem Que (I:z9 st p=yo) (R:Rel H ρ st) (r:Rep H ρ p v):TyOf K H v (.type (tyN (dpv st p))):=by
 cases p with
 | non=>cases r; exact .non
 | bl b=>cases r; exact .bl b
 | int i=>cases r; exact .int i
 | str x=>cases r; exact .str x
 | tup ps=>obtain ⟨a,vs,rfl,h,_⟩:=r; exact .tup h
 | lst ps=>obtain ⟨a,vs,rfl,h,_⟩:=r; exact .lst h
 | fro ps=>
  obtain ⟨a,vs,rfl,h,_⟩:=r;rcases h with h | ⟨o,h⟩
  ·exact .lst h
  ·exact .frz h
 | ref i=>
  obtain ⟨a,e,rfl⟩:=r;have J:i < st.length:=by rw [<- R.len]; exact (O2.mp e).1
  have hs:=O3 J;have q:=R.cell i a st[i] e hs;cases G:st[i] with
  | lst xs=>rw [G] at q hs; simp only [dpv,hs]; obtain ⟨vs,h,_⟩:=q; exact .lst h
  | dic xs=>rw [G] at q hs; simp only [dpv,hs]; obtain ⟨vs,h,_⟩:=q; exact .dK h
  | dtp xs=>rw [G] at q hs; simp only [dpv,hs]; obtain ⟨vs,h,_⟩:=q; exact .dT h
  | frd xs=>rw [G] at hs; simp only [z9,hs] at I; cases I
  | obj C xs=>rw [G] at hs; simp only [z9,hs] at I; cases I
 | dic=>obtain ⟨a,rfl,h,_⟩:=r; exact .dK h
def Q2z:List String:=["int", "bool", "str", "tuple", "list", "dict"]
theorem Qss (K:bX) (q:T∈Q2z) (p:PV):ew K (.type (tyN p)) (.type T)=zo (isI T p):=by
 have q:T = "int" \/ T = "bool" \/ T = "str" \/ T = "tuple" \/ T = "list" \/ T = "dict" := by simpa [Q2z] using q
 rcases q with rfl | rfl | rfl | rfl | rfl | rfl <;> cases p <;> first | rfl | kernel_rfl
def Q63 (T:String) (m:ME):ME:=λΓ st=>(m Γ st).bind λp st1=>if z9 st1 p=zb then .stuck else .ok (.bl (isI T (dpv st1 p))) st1
theorem Qqw {I:Str} {p tp:Pos} (hT:T∈Q2z) (ha:SimE X E a ma) (hg:Gl X "isinstance") (hm:X.mg "isinstance" = zl) (U:Gl X I) (a1:X.mg I=zl) (a2:aX I=zo (.type T))
  (hn:I≠"__name__" := by decide) (hd:(I == ("__debug__" : Str))=yo:=by decide)
  (he:aN [a,.Name I tp] X.env=(yo,aO a X.env) :: aN [.Name I tp] X.env:=by rfl) (Z:aN [.Name I tp] X.env=(yo,aO (.Name I tp) X.env) :: aN [] X.env:=by rfl) (O:(ae pos (aN [.Name I tp] X.env)).any (·.1)=yo:=by rfl) :
  SimE X E (.Call (.Name "isinstance" p) [a,.Name I tp] [] pos) (Q63 T ma):=
 ⟨λΓ σ H ρ st Q R G h=>WE.of (zq Q98 hg hm Q10 (W3 J1 (W3 (Qm9 U a1 a2 (v:=.ty T) rfl hn hd) Us Z) he) (by decide) (by decide) he O)
  (ha.use R G h.bind λq J H1 ρ1 v x1 R1 G1 r1 h1=>by
   by_cases Y:z9 J q=zb
   ·rw [bT Y] at h1; exact h1.elim
   ·rw [bU Y] at h1;exact ⟨v,.ty T,.type T,_,_,rfl,rfl,Que (by simpa using Y) R1 r1,Qss X.K hT (dpv J q),now R1 h1 rfl⟩)⟩
end
abbrev GA:=PV->Gam->Option Gam
abbrev GAs:=List PV->Gam->Option Gam
variable {gs:GAs}
structure SimG (X:Cx) (tg:aH) (ga:GA):Prop where
 run:∀ (Γ Γ':Gam) (σ:St) (H:Hp) (ρ:Tk) (p:PV) (v:V) (Q:St->Hp->Prop),EnvR H ρ Γ σ->Rep H ρ p v->ga p Γ=zo Γ'->(∀ σ',EnvR H ρ Γ' σ'->Q σ' H)->∃ t,PG X tg t/\t v σ H Q
structure SimGs (X:Cx) (tgs:List aH) (n:Nat) (ga:GAs):Prop where
 run:∀ (Γ Γ':Gam) (σ:St) (H:Hp) (ρ:Tk) (ps:List PV) (vs:List V) (Q:St->Hp->Prop),EnvR H ρ Γ σ->RepL H ρ ps vs->ga ps Γ=zo Γ'->(∀ σ',EnvR H ρ Γ' σ'->Q σ' H)->∃ t,PGs X tgs t/\t vs σ H Q
 len:∀ ps Γ Γ',ga ps Γ=zo Γ'->ps.length=n
def Qd (i:Nat):GA:=λp Γ=>zo (Γ.set i (zo p))
def jf:GAs:=λps Γ=>match ps with
 | []=>zo Γ
 | _=>zl
def Ze (g:GA) (gs:GAs):GAs:=λps Γ=>match ps with
 | p :: r=>(g p Γ).bind (gs r)
 | []=>zl
def je (gs:GAs):GA:=λp Γ=>match p with
 | .tup ps=>gs ps Γ
 | _=>zl
theorem W1 {i:Nat} (J:X.N.Nodup) (hi:X.N[i]?=zo x:=by rfl) (I:Loc X.env.scope x:=by first | exact Or.inl rfl | exact Or.inr rfl) (q:X.fn x=zb\/X.env.scope.names.lookup x=zo .local:=by first | exact .inl rfl | exact .inr rfl):SimG X (.Name x pos) (Qd i):=
 ⟨λΓ O σ H ρ p v Q G r e k=>⟨_,Qm4 J hi I q,by cases e; exact k _ (G.set r i)⟩⟩
theorem Qbh:SimGs X [] 0 jf:=⟨λΓ q σ H ρ ps vs Q G r e k=>⟨_,Qm2,by
 cases ps with
 | nil=>cases e; cases r; exact ⟨rfl,k σ G⟩
 | cons _ _=>cases e⟩,λps Γ q e=>by
 cases ps with
 | nil=>rfl
 | cons _ _=>cases e⟩
def WGx (X:Cx) (tg:aH):TG:=λv σ H Q=>∃ t,PG X tg t/\t v σ H Q
theorem Qm3 {tg:aH}:PG X tg (WGx X tg):=λpins s σ H v u Q I r ⟨t,h,q⟩=>h pins s σ H v u Q I r q
def Qzf (X:Cx) (tgs:List aH):TGs:=λv σ H Q=>∃ t,PGs X tgs t/\t v σ H Q
theorem Qph {G:List aH}:PGs X G (Qzf X G):=λpins s σ H v u Q I r ⟨t,h,q⟩=>h pins s σ H v u Q I r q
theorem K7 {g:GA} (h1:SimG X e g) (h2:SimGs X es n gs) (hs:(az (e :: es) X.env).map (·.2)=assign e X.env :: (az es X.env).map (·.2):=by rfl):SimGs X (e :: es) (n + 1) (Ze g gs):=
 ⟨λΓ q σ H ρ ps vs Q G r eq k=>⟨_,Qgk Qm3 Qph hs,by
  cases ps with
  | nil=>cases eq
  | cons p ps=>
   obtain ⟨v,t,rfl,Z,U⟩:=r;have eq:(g p Γ).bind (gs ps)=zo q:=eq;cases J:g p Γ with
   | none=>rw [J] at eq; cases eq
   | some I=>
    rw [J] at eq;exact ⟨v,t,rfl,h1.run Γ I σ H ρ p v _ G Z J λO Y=>h2.run I q O H ρ ps t _ Y U eq k⟩⟩,λps Γ q e=>by
  cases ps with
  | nil=>cases e
  | cons p ps=>
   have e:(g p Γ).bind (gs ps)=zo q:=e;cases J:g p Γ with
   | none=>rw [J] at e; cases e
   | some I=>rw [J] at e; rw [D4,h2.len ps I q e]⟩
theorem Qfm (Z:X.calm=zb) (h:SimGs X es n gs) (Y:(az es X.env).length=n:=by rfl) (J:(az es X.env).findIdx? (·.1)=zl:=by rfl):SimG X (.Tuple es k pos) (je gs):=
 ⟨λΓ I σ H ρ p v Q G r e q=>⟨_,Qrh Z Qph Y J,by
  cases p with
  | tup ps=>
   obtain ⟨a,vs,rfl,U,na,O⟩:=r;exact ⟨a,vs,rfl,SqT.of U,by rw [<- O.length]; exact h.len ps Γ I e,h.run Γ I σ H ρ ps vs Q G O e q⟩
  | _=>cases e⟩⟩
abbrev Wt:=List (Nat × Cell)
def wOk (w:Wt) (st:Q0):Prop:=∀ x∈w,st[x.1]?=zo x.2
theorem J4 (st:Q0):wOk [] st:=λx h=>by cases h
structure Src (J:It) (items:List PV) (w:Wt) (H:Hp) (ρ:Tk):Prop where
 stop:∀ H2 ρ2 st2,Ext H ρ H2 ρ2->Rel H2 ρ2 st2->wOk w st2->J.stop items.length H2
 go:∀ H2 ρ2 st2,Ext H ρ H2 ρ2->Rel H2 ρ2 st2->wOk w st2->∀ i,i < items.length->J.go i H2
 yld:∀ H2 ρ2 st2,Ext H ρ H2 ρ2->Rel H2 ρ2 st2->wOk w st2->∀ i p,items[i]?=zo p->∀ x H3,J.yld i H2 x H3->Same H2 H3/\Rep H3 ρ2 p x
abbrev MI:=Gam->Q0->Res (List PV × Wt)
structure SimI (X:Cx) (E:XK) (tg iter:aH) (mi:MI):Prop where
 run:∀ (Γ:Gam) (σ:St) (H:Hp) (ρ:Tk) (st:Q0) (P:List PV × Wt->Q0->Hp->Tk->Prop) (R':It->Hp->Prop),Rel H ρ st->EnvR H ρ Γ σ->Acc X.mg E H ρ P (mi Γ st) ->
  (∀ iw st1 H1 ρ1 J,mi Γ st=.ok iw st1->Ext H ρ H1 ρ1->Rel H1 ρ1 st1->EnvR H1 ρ1 Γ σ->wOk iw.2 st1->iw.1.length<=sizeLine->Src J iw.1 iw.2 H1 ρ1->P iw st1 H1 ρ1->R' J H1)->WI X tg iter σ H R'
def Yb (st:Q0):PV->Option (List PV × Wt)
 | .tup xs=>zo (xs,[])
 | .lst xs=>zo (xs,[])
 | .fro xs=>zo (xs,[])
 | .ref i=>match st[i]? with
  | some (.lst xs)=>zo (xs,[(i,.lst xs)])
  | _=>zl
 | _=>zl
theorem Q1u {K:bX} {w:Wt} (R:Rel H ρ st) (r:Rep H ρ p v) (e:Yb st p=zo (xs,w)) :
  wOk w st/\∃ (t:Bool) (a:aB),v=.ref a/\(t=zb->∃ ys,p=.tup ys)/\(t=yo->∀ ys,p≠.tup ys)/\∀ H2 q G,Ext H ρ H2 q->Rel H2 q G->wOk w G->∃ vs,SqK K t H2 a vs/\RepL H2 q xs vs:=by
 cases p with
 | tup ys=>
  obtain ⟨a,vs,rfl,I,J,O⟩:=r;cases e;exact ⟨J4 _,zb,a,rfl,λ_=>⟨_,rfl⟩,(λz=>by cases z),λH2 q G x R2 _=>⟨vs,show SqT K H2 a vs from SqT.of (x.kp I J),O.ext x⟩⟩
 | lst ys=>
  obtain ⟨a,vs,rfl,I,J,O⟩:=r;cases e;exact ⟨J4 _,yo,a,rfl,(λz=>by cases z),(λ_ _ z=>by cases z),λH2 q G x R2 _=>⟨vs,show SqL K H2 a vs from SqL.of (x.kp I J),O.ext x⟩⟩
 | fro ys=>
  obtain ⟨a,vs,rfl,I,J,O⟩:=r;cases e;refine ⟨J4 _,yo,a,rfl,(λz=>by cases z),(λ_ _ z=>by cases z),λH2 q G x R2 _=>⟨vs,show SqL K H2 a vs from ?_,O.ext x⟩⟩
  rcases I with I | ⟨o,I⟩
  ·exact .inl (.inl (x.kp I J))
  ·exact .inl (.inr ⟨o,x.kp I J⟩)
 | ref i=>
  obtain ⟨a,Z,rfl⟩:=r;simp only [Yb] at e
  split at e
  ·rename_i ys hs;cases e;refine ⟨λx hx=>?_,yo,a,rfl,(λz=>by cases z),(λ_ _ z=>by cases z),λH2 q G x R2 ok=>?_⟩
   ·have:x=(i,.lst xs):=by simpa using hx
    subst this; exact hs
   ·have U:=ok (i,.lst xs) (by simp);obtain ⟨b,vs,Y,f2,f3⟩:=R2.lst U;obtain ⟨t,et⟩:=x.pre;rw [<- et,O8 (O2.mp Z).1,Z] at Y;cases Y;exact ⟨vs,show SqL K H2 a vs from SqL.of f2,f3⟩
  ·cases e
 | _=>cases e
section
variable {X:Cx} {E:XK} {pos:Pos} {tg:aH} {e:aH} {m:ME}
def Wr (m:ME):MI:=λΓ st=>(m Γ st).bind λp st1=>match Yb st1 p with
 | some (xs,w)=>if xs.length<=lim then .ok (xs,w) st1 else .stuck
 | none=>.stuck
theorem RepL.i {H:Hp} {ρ:Tk} {ps:List PV} {vs:List V} {i:Nat} {p:PV} {x:V} (r:RepL H ρ ps vs) (h:ps[i]?=zo p) (h':vs[i]?=zo x):Rep H ρ p x:=by
 obtain ⟨v,e,q⟩:=r.get h;rw [h'] at e; cases e;exact q
theorem Qbf {t:Bool} {a:aB} {w:Wt} (h:∀ H2 q G,Ext H ρ H2 q->Rel H2 q G->wOk w G->∃ vs,SqK K t H2 a vs/\RepL H2 q xs vs):Src (if t=zb then Itt K a else Itl K a) xs w H ρ:=by
 cases t with
 | true=>
  rw [bT rfl];refine ⟨λH2 q G x R ok=>?_,λH2 q G x R ok i hi=>?_,λH2 q G x R ok i p O y Y J=>?_⟩
  ·obtain ⟨vs,s,r⟩:=h H2 q G x R ok;exact ⟨vs,s,by rw [r.length]; exact O5 _⟩
  ·obtain ⟨vs,s,r⟩:=h H2 q G x R ok;have I:i < vs.length:=by rw [<- r.length]; exact hi
   exact ⟨vs,vs[i],s,O3 I⟩
  ·obtain ⟨vs,s,r⟩:=h H2 q G x R ok;obtain ⟨rfl,U⟩:=J;exact ⟨Same.refl _,r.i O (U vs s)⟩
 | false=>
  rw [bU D2];refine ⟨λH2 q G x R ok=>?_,λH2 q G x R ok i hi=>?_,λH2 q G x R ok i p O y Y J=>?_⟩
  ·obtain ⟨vs,s,r⟩:=h H2 q G x R ok;exact ⟨vs,s,by rw [r.length]; exact O5 _⟩
  ·obtain ⟨vs,s,r⟩:=h H2 q G x R ok;have I:i < vs.length:=by rw [<- r.length]; exact hi
   exact ⟨vs,vs[i],s,O3 I⟩
  ·obtain ⟨vs,s,r⟩:=h H2 q G x R ok;obtain ⟨rfl,U⟩:=J;exact ⟨Same.refl _,r.i O (U vs s)⟩
theorem Qbw {P:List PV × Wt->Q0->Hp->Tk->Prop} (R:Rel H ρ st) (h:Acc mg E H ρ P (match Yb st p with | some (xs,w)=>if xs.length<=lim then .ok (xs,w) st else .stuck | none=>.stuck)) :
  ∃ xs w,Yb st p=zo (xs,w)/\xs.length<=lim/\P (xs,w) st H ρ:=by
 split at h
 ·rename_i xs w e
  split at h
  ·rename_i q;exact ⟨xs,w,e,q,h H ρ (Ext.refl _ _) R⟩
  ·exact h.elim
 ·exact h.elim
theorem Qqn (ha:SimE X E e m):SimI X E tg e (Wr m):=⟨λΓ σ H ρ st P R' R G h k=>by
 have hb:Acc X.mg E H ρ _ (m Γ st):=Acc.bind h
 by_cases ht:∃ ys q,m Γ st=.ok (.tup ys) q
 ·obtain ⟨ys,a1,e0⟩:=ht;refine WI.of (Qrf J1) (ha.use' R G hb λp q H1 ρ1 v eq x1 I U Z h1=>?_);obtain ⟨xs,w,e,O,Y⟩:=Qbw I h1;obtain ⟨ok,t,a,rfl,t1,t2,J⟩:=Q1u (K:=X.K) I Z e;have ep:p=.tup ys:=by rw [eq] at e0; injection e0
  cases t with
  | false=>exact absurd ep (t2 rfl ys)
  | true=>
   obtain ⟨vs,s,_⟩:=J H1 ρ1 q (Ext.refl _ _) I ok;exact ⟨a,rfl,⟨vs,s⟩,k (xs,w) q H1 ρ1 _ (by simp only [Wr,eq,Res.bind,e,bT O]) x1 I U ok (Zz O) (Qbf J) Y⟩
 ·refine WI.of (Qm0 J1) (ha.use' R G hb λp q H1 ρ1 v eq x1 I U Z h1=>?_);obtain ⟨xs,w,e,O,Y⟩:=Qbw I h1;obtain ⟨ok,t,a,rfl,t1,t2,J⟩:=Q1u (K:=X.K) I Z e;cases t with
  | true=>
   obtain ⟨ys,rfl⟩:=t1 rfl;exact absurd ⟨ys,q,eq⟩ ht
  | false=>
   obtain ⟨vs,s,_⟩:=J H1 ρ1 q (Ext.refl _ _) I ok;exact ⟨a,rfl,⟨vs,s⟩,k (xs,w) q H1 ρ1 _ (by simp only [Wr,eq,Res.bind,e,bT O]) x1 I U ok (Zz O) (Qbf J) Y⟩⟩
def Wn (lo:Int) (n:Nat):List PV:=(bY n).map λ(k:Nat)=>PV.int (lo + (k:Int))
theorem Qd2 {lo:Int} :Src (Itr lo n) (Wn lo n) [] H ρ:=by
 have O:(Wn lo n).length=n:=by unfold Wn; rw [O1,F2]
 refine ⟨λH2 q G x R ok=>?_,λH2 q G x R ok i hi=>?_,λH2 q G x R ok i p I y U J=>?_⟩
 ·show n<=(Wn lo n).length;omega
 ·show i < n;omega
 ·obtain ⟨rfl,rfl⟩:=J;have hi:i < n:=by rw [<- O]; exact (O2.mp I).1
  unfold Wn at I;rw [D7,fY hi] at I;cases I;exact ⟨Same.refl _,rfl⟩
def Zk (mr:Gam->Q0->Res (List PV)):MI:=λΓ st=>(mr Γ st).bind λps st1=>match ps with
 | [.int j]=>if -(lim:Int)<=j/\j<=lim then .ok (Wn 0 j.toNat,[]) st1 else .stuck
 | _=>.stuck
variable {a b:aH} {mr:Gam->Q0->Res (List PV)} {p:Pos}
theorem Q9s (lo:Int) (n:Nat):(Wn lo n).length=n:=by unfold Wn; rw [O1,F2]
theorem Wi (U:Gl X "range") (hm:X.mg "range" = zl) (O:SimA X E [a] mr) (hs:aN [a] X.env=[(yo,aO a X.env)]:=by rfl):SimI X E tg (.Call (.Name "range" p) [a] [] pos) (Zk mr):=⟨λΓ σ H ρ st P R' R G h k=>by
 refine WI.of (Qdi U hm Q0u hs) (O.use' R G h.bind λps q H1 ρ1 vs eq x1 I Y r1 h1=>?_)
 split at h1
 ·rename_i j
  split at h1
  ·rename_i Z;obtain ⟨v,rfl,J⟩:=Zd r1;cases J;have hl:(lim:Int)=1000000:=rfl;refine ⟨j,rfl,by omega,by omega,k (Wn 0 j.toNat,[]) q H1 ρ1 _ (by simp only [Zk,eq,Res.bind,bT Z]) x1 I Y (J4 _) ?_ Qd2 (h1 H1 ρ1 (Ext.refl _ _) I)⟩;show (Wn 0 j.toNat).length<=sizeLine;rw [Q9s];exact Zz (by omega)
  ·exact h1.elim
 ·exact h1.elim⟩
def Q1k:List PV->List PV->List PV
 | x :: xs,y :: ys=>.tup [x,y] :: Q1k xs ys
 | _,_=>[]
theorem Q5a (xs ys:List PV):Q1k xs ys=(xs.zip ys).map λz=>.tup [z.1,z.2]:=by
 induction xs generalizing ys with
 | nil=>rfl
 | cons x xs q=>
  cases ys with
  | nil=>rfl
  | cons y ys=>rw [Q1k,q]; rfl
theorem Q1j (xs ys:List PV):(Q1k xs ys).length=min xs.length ys.length:=by rw [Q5a,O1,List.length_zip]
theorem Qew {ys:List PV} {i:Nat} {p:PV} (h:(Q1k xs ys)[i]?=zo p):∃ x y,p=.tup [x,y]/\xs[i]?=zo x/\ys[i]?=zo y:=by
 rw [Q5a,D7] at h;cases e:(xs.zip ys)[i]? with
 | none=>rw [e] at h; cases h
 | some z=>
  rw [e] at h; cases h;rw [List.getElem?_zip_eq_some] at e;exact ⟨z.1,z.2,rfl,e.1,e.2⟩
def Qmt (mr:Gam->Q0->Res (List PV)):MI:=λΓ st=>(mr Γ st).bind λps st1=>match ps with
 | [p,q]=>match Yb st1 p,Yb st1 q with
  | some (xs,w),zo (ys,w')=>if xs.length<=lim then .ok (Q1k xs ys,w ++ w') st1 else .stuck
  | _,_=>.stuck
 | _=>.stuck
theorem qg {w G:Wt} (h:wOk (w ++ G) st):wOk w st/\wOk G st:=⟨λx q=>h x (F8 _ q),λx q=>h x (E8 _ q)⟩
theorem Qjt {t1 t2:Bool} {a b:aB} {ys:List PV} {w U:Wt} (h:∀ H2 G I,Ext H ρ H2 G->Rel H2 G I->wOk w I->∃ vs,SqK K t1 H2 a vs/\RepL H2 G xs vs)
  (h':∀ H2 G I,Ext H ρ H2 G->Rel H2 G I->wOk U I->∃ vs,SqK K t2 H2 b vs/\RepL H2 G ys vs):Src (Itz K t1 t2 a b) (Q1k xs ys) (w ++ U) H ρ:=by
 refine ⟨λH2 G I x R ok=>?_,λH2 G I x R ok i hi=>?_,λH2 G I x R ok i p hp y H3 hy=>?_⟩
 ·obtain ⟨vs,s,r⟩:=h H2 G I x R (qg ok).1;obtain ⟨us,s',J⟩:=h' H2 G I x R (qg ok).2;refine ⟨vs,us,s,s',?_⟩;rw [Q1j,<- r.length,<- J.length];omega
 ·obtain ⟨vs,s,r⟩:=h H2 G I x R (qg ok).1;obtain ⟨us,s',J⟩:=h' H2 G I x R (qg ok).2;rw [Q1j,r.length,J.length] at hi;have h1:i < vs.length:=by omega
  have h2:i < us.length:=by omega
  exact ⟨vs,us,vs[i],us[i],s,s',O3 h1,O3 h2⟩
 ·obtain ⟨vs,s,r⟩:=h H2 G I x R (qg ok).1;obtain ⟨us,s',J⟩:=h' H2 G I x R (qg ok).2;obtain ⟨q,u,v,Y,rfl,rfl,hv⟩:=hy;obtain ⟨Z,e2⟩:=hv vs us s s';obtain ⟨xp,yp,rfl,p1,p2⟩:=Qew hp;have O:Same H2 (upd H2 q (.tup [u,v])):=Q7h Y;exact ⟨O,q,[u,v],rfl,Qt,R.fresh Y,RepL.cons ((r.i p1 Z).ext (Ext.same O)) (RepL.cons ((J.i p2 e2).ext (Ext.same O)) RepL.nil)⟩
theorem Qqk {O:List aH} {kt:Nat} {tp:Pos} (hg:Gl X "zip") (hm:X.mg "zip" = zl) (ha:SimA X E [a,b] mr) (hs:aN [a,b] X.env=[(yo,aO a X.env),(yo,aO b X.env)]:=by rfl) (b0:aN [b] X.env=[(yo,aO b X.env)]:=by rfl) :
  SimI X E (.Tuple O kt tp) (.Call (.Name "zip" p) [a,b] [] pos) (Qmt mr):=⟨λΓ σ H ρ st P R' R G h k=>by
 have hb:Acc X.mg E H ρ _ (mr Γ st):=Acc.bind h;have J:∀ t1 t2:Bool,(∀ p q I,mr Γ st=.ok [p,q] I->(t1=zb <-> ∃ ys,p=.tup ys)/\(t2=zb <-> ∃ ys,q=.tup ys))->WI X (.Tuple O kt tp) (.Call (.Name "zip" p) [a,b] [] pos) σ H R':=λt1 t2 ht=>by
  refine WI.of (Qrd t1 t2 hg hm Q0u hs b0) (ha.use' R G hb λps I H1 ρ1 vs eq x1 U G1 r1 h1=>?_)
  split at h1
  ·rename_i p' q'
   split at h1
   ·rename_i xs w ys w' e1 e2
    split at h1
    ·rename_i hl;obtain ⟨v,u,rfl,rv,ru⟩:=Qg0 r1;obtain ⟨Y,b1,a1,rfl,z1,b3,a3⟩:=Q1u (K:=X.K) U rv e1;obtain ⟨Z,b2,a2,rfl,z2,a9,a4⟩:=Q1u (K:=X.K) U ru e2;obtain ⟨g1,g2⟩:=ht _ _ _ eq;have a5:b1=t1:=by
      cases b1 with
      | true=>exact (g1.mpr (z1 rfl)).symm
      | false=>
       cases t1 with
       | false=>rfl
       | true=>obtain ⟨ys,e⟩:=g1.mp rfl; exact absurd e (b3 rfl ys)
     have a7:b2=t2:=by
      cases b2 with
      | true=>exact (g2.mpr (z2 rfl)).symm
      | false=>
       cases t2 with
       | false=>rfl
       | true=>obtain ⟨ys,e⟩:=g2.mp rfl; exact absurd e (a9 rfl ys)
     subst a5; subst a7;obtain ⟨a6,s1,_⟩:=a3 H1 ρ1 I (Ext.refl _ _) U Y;obtain ⟨a8,s2,_⟩:=a4 H1 ρ1 I (Ext.refl _ _) U Z;refine ⟨a1,a2,a6,a8,rfl,s1,s2,k (Q1k xs ys,w ++ w') I H1 ρ1 _ (by simp only [Qmt,eq,Res.bind,e1,e2,bT hl]) x1 U G1 (λx hx=>?_) ?_ (Qjt a3 a4) (h1 H1 ρ1 (Ext.refl _ _) U)⟩
     ·rcases D9.mp hx with hx | hx
      ·exact Y x hx
      ·exact Z x hx
     ·show (Q1k xs ys).length<=sizeLine;rw [Q1j];exact Zz (E1 (Nat.min_le_left _ _) hl)
    ·exact h1.elim
   ·exact h1.elim
  ·exact h1.elim
 have tt:∀ p:PV,∃ t:Bool,t=zb <-> ∃ ys,p=.tup ys:=λp=>by
  cases p with
  | tup ys=>exact ⟨zb,λ_=>⟨ys,rfl⟩,λ_=>rfl⟩
  | _=>exact ⟨yo,⟨λz=>(by cases z),λ⟨_,z⟩=>(by cases z)⟩⟩
 by_cases hz:∃ p q I,mr Γ st=.ok [p,q] I
 ·obtain ⟨p0,q0,b4,e0⟩:=hz;obtain ⟨t1,g1⟩:=tt p0;obtain ⟨t2,g2⟩:=tt q0;refine J t1 t2 λp q I e=>?_
  rw [e0] at e; cases e;exact ⟨g1,g2⟩
 ·exact J zb zb λp q I e=>absurd ⟨p,q,I,e⟩ hz⟩
def Vi:Nat->List PV->List PV
 | _,[]=>[]
 | n,x :: xs=>.tup [.int n,x] :: Vi (n + 1) xs
theorem qw:∀ (n:Nat) (xs:List PV),(Vi n xs).length=xs.length
 | _,[]=>rfl
 | n,x :: xs=>by rw [Vi,D4,qw (n + 1) xs,D4]
theorem Q50:∀ {n:Nat} {xs:List PV} {i:Nat} {p:PV},(Vi n xs)[i]?=zo p->∃ x,p=.tup [.int (n + i:Nat),x]/\xs[i]?=zo x
 | n,[],i,p,h=>by simp [Vi] at h
 | n,x :: xs,0,p,h=>by
  simp [Vi] at h;exact ⟨x,h.symm,rfl⟩
 | n,x :: xs,i + 1,p,h=>by
  rw [Vi,eK] at h;obtain ⟨y,q,G⟩:=Q50 h;exact ⟨y,by rw [q,show n + 1 + i=n + (i + 1) by omega],by simpa using G⟩
def Q8g (mr:Gam->Q0->Res (List PV)):MI:=λΓ st=>(mr Γ st).bind λps st1=>match ps with
 | [p]=>match Yb st1 p with
  | some (xs,w)=>if xs.length<=lim then .ok (Vi 0 xs,w) st1 else .stuck
  | none=>.stuck
 | _=>.stuck
theorem Qfh {t:Bool} {a:aB} {w:Wt} (h:∀ H2 G I,Ext H ρ H2 G->Rel H2 G I->wOk w I->∃ vs,SqK K t H2 a vs/\RepL H2 G xs vs):Src (Ite K t a) (Vi 0 xs) w H ρ:=by
 refine ⟨λH2 G I x R ok=>?_,λH2 G I x R ok i hi=>?_,λH2 G I x R ok i p hp y H3 Z=>?_⟩
 ·obtain ⟨vs,s,r⟩:=h H2 G I x R ok;exact ⟨vs,s,by rw [qw,r.length]; exact O5 _⟩
 ·obtain ⟨vs,s,r⟩:=h H2 G I x R ok;rw [qw,r.length] at hi;exact ⟨vs,vs[i],s,O3 hi⟩
 ·obtain ⟨vs,s,r⟩:=h H2 G I x R ok;obtain ⟨q,u,O,rfl,rfl,hv⟩:=Z;have U:=hv vs s;obtain ⟨xp,rfl,Y⟩:=Q50 hp;have J:Same H2 (upd H2 q (.tup [.int i,u])):=Q7h O;exact ⟨J,q,[.int i,u],rfl,Qt,R.fresh O,RepL.cons (by rw [iB]; rfl) (RepL.cons ((r.i Y U).ext (Ext.same J)) RepL.nil)⟩
theorem Qk1 {J:List aH} {kt:Nat} {tp:Pos} (hg:Gl X "enumerate") (hm:X.mg "enumerate" = zl) (ha:SimA X E [a] mr) (hs:aN [a] X.env=[(yo,aO a X.env)]:=by rfl) :
  SimI X E (.Tuple J kt tp) (.Call (.Name "enumerate" p) [a] [] pos) (Q8g mr):=⟨λΓ σ H ρ st P R' R G h k=>by
 have hb:Acc X.mg E H ρ _ (mr Γ st):=Acc.bind h;have I:∀ t1:Bool,(∀ p q,mr Γ st=.ok [p] q->(t1=zb <-> ∃ ys,p=.tup ys))->WI X (.Tuple J kt tp) (.Call (.Name "enumerate" p) [a] [] pos) σ H R':=λt1 ht=>by
  refine WI.of (Qm1 t1 hg hm Q0u hs) (ha.use' R G hb λps q H1 ρ1 vs eq x1 Z G1 r1 h1=>?_)
  split at h1
  ·rename_i p'
   split at h1
   ·rename_i xs w e1
    split at h1
    ·rename_i hl;obtain ⟨v,rfl,rv⟩:=Zd r1;obtain ⟨O,b1,a1,rfl,z1,a4,U⟩:=Q1u (K:=X.K) Z rv e1;have Y:=ht _ _ eq;have a2:b1=t1:=by
      cases b1 with
      | true=>exact (Y.mpr (z1 rfl)).symm
      | false=>
       cases t1 with
       | false=>rfl
       | true=>obtain ⟨ys,e⟩:=Y.mp rfl; exact absurd e (a4 rfl ys)
     subst a2;obtain ⟨a3,s1,_⟩:=U H1 ρ1 q (Ext.refl _ _) Z O;refine ⟨a1,a3,rfl,s1,k (Vi 0 xs,w) q H1 ρ1 _ (by simp only [Q8g,eq,Res.bind,e1,bT hl]) x1 Z G1 O ?_ (Qfh U) (h1 H1 ρ1 (Ext.refl _ _) Z)⟩;show (Vi 0 xs).length<=sizeLine;rw [qw];exact Zz hl
    ·exact h1.elim
   ·exact h1.elim
  ·exact h1.elim
 have tt:∀ p:PV,∃ t:Bool,t=zb <-> ∃ ys,p=.tup ys:=λp=>by
  cases p with
  | tup ys=>exact ⟨zb,λ_=>⟨ys,rfl⟩,λ_=>rfl⟩
  | _=>exact ⟨yo,⟨λz=>(by cases z),λ⟨_,z⟩=>(by cases z)⟩⟩
 by_cases hz:∃ p q,mr Γ st=.ok [p] q
 ·obtain ⟨p0,a5,e0⟩:=hz;obtain ⟨t1,Y⟩:=tt p0;refine I t1 λp q e=>?_
  rw [e0] at e; cases e;exact Y
 ·exact I zb λp q e=>absurd ⟨p,q,e⟩ hz⟩
end
section
abbrev ML:=Gam->Q0->Res (List PV)
structure SimN (X:Cx) (E:XK) (e:aH) (m:ML):Prop where
 run:∀ (Γ:Gam) (σ:St) (H:Hp) (ρ:Tk) (st:Q0) (P:List PV->Q0->Hp->Tk->Prop) (Q:VK),Rel H ρ st->EnvR H ρ Γ σ->Acc X.mg E H ρ P (m Γ st) ->
  (∀ ps st1 H1 ρ1 a vs,m Γ st=.ok ps st1->Ext H ρ H1 ρ1->Rel H1 ρ1 st1->a∈ρ1.hid->H a=zl->H1 a=zo (.lst vs)->RepL H1 ρ1 ps vs->Q (.ref a) H1)->WE X e σ H Q
def Yz (m:ML):ME:=λΓ st=>(m Γ st).bind λps st1=>.ok (.lst ps) st1
def jw (m:ML):ME:=λΓ st=>(m Γ st).bind λps st1=>.ok (.ref st1.length) (st1 ++ [.lst ps])
section
variable {H0 H:Hp} {ρ0 ρ:Tk} {st:Q0} {a:aB} {ps:List PV} {vs:List V}
theorem Qbp (G:Rel H0 ρ0 st) (x:Ext H0 ρ0 H ρ) {q:Q0} (R:Rel H ρ q) (hm:a∈ρ.hid) (J:H0 a=zl) (I:H a=zo (.lst vs)) (r:RepL H ρ ps vs) :
  Ext H0 ρ0 H ⟨ρ.tr,ρ0.hid⟩/\Rel H ⟨ρ.tr,ρ0.hid⟩ q/\Rep H ⟨ρ.tr,ρ0.hid⟩ (.lst ps) (.ref a):=
 ⟨x.unhide,R.unhide x.hidM,a,vs,rfl,I,(λz=>by
  rcases z with z | z
  ·exact R.ap a hm z
  ·obtain ⟨o,e,_⟩:=G.hd a z;rw [J] at e; cases e),r.unhide x.hidM⟩
mutual
theorem Rep.trk (q:b∈ρ.hid) (G:∀ c,c∈hs->c∈ρ.hid):∀ {p:PV} {v:V},Rep H ρ p v->Rep H ⟨ρ.tr ++ [b],hs⟩ p v
 | .non,_,r=>r
 | .bl _,_,r=>r
 | .int _,_,r=>r
 | .str _,_,r=>r
 | .tup ps,v,⟨c,vs,e,s,n,r⟩=>⟨c,vs,e,s,λz=>by
   rcases z with z | z
   ·rcases D9.mp z with z | z
    ·exact n (.inl z)
    ·have:c=b:=by simpa using z
     subst this; exact n (.inr q)
   ·exact n (.inr (G _ z)),RepL.trk q G r⟩
 | .lst ps,v,⟨c,vs,e,s,n,r⟩=>⟨c,vs,e,s,λz=>by
   rcases z with z | z
   ·rcases D9.mp z with z | z
    ·exact n (.inl z)
    ·have:c=b:=by simpa using z
     subst this; exact n (.inr q)
   ·exact n (.inr (G _ z)),RepL.trk q G r⟩
 | .fro ps,v,⟨c,vs,e,s,n,r⟩=>⟨c,vs,e,s,λz=>by
   rcases z with z | z
   ·rcases D9.mp z with z | z
    ·exact n (.inl z)
    ·have:c=b:=by simpa using z
     subst this; exact n (.inr q)
   ·exact n (.inr (G _ z)),RepL.trk q G r⟩
 | .ref i,v,⟨c,e,I⟩=>⟨c,by show (ρ.tr ++ [b])[i]?=zo c; rw [O8 (O2.mp e).1]; exact e,I⟩
 | .dic,v,⟨c,e,s,n⟩=>⟨c,e,s,λz=>by
   rcases z with z | z
   ·rcases D9.mp z with z | z
    ·exact n (.inl z)
    ·have:c=b:=by simpa using z
     subst this; exact n (.inr q)
   ·exact n (.inr (G _ z))⟩
theorem RepL.trk (q:b∈ρ.hid) (G:∀ c,c∈hs->c∈ρ.hid):∀ {ps:List PV} {vs:List V},RepL H ρ ps vs->RepL H ⟨ρ.tr ++ [b],hs⟩ ps vs
 | [],_,r=>r
 | p :: ps,_,⟨v,t,e,I,J⟩=>⟨v,t,e,Rep.trk q G I,RepL.trk q G J⟩
end
theorem Qmc (R0:Rel H0 ρ0 st) (x:Ext H0 ρ0 H ρ) {G:Q0} (R:Rel H ρ G) (hm:a∈ρ.hid) (hn:H0 a=zl) (ha:H a=zo (.lst vs)) (r:RepL H ρ ps vs) :
  Ext H0 ρ0 H ⟨ρ.tr ++ [a],ρ0.hid⟩/\Rel H ⟨ρ.tr ++ [a],ρ0.hid⟩ (G ++ [.lst ps])/\Rep H ⟨ρ.tr ++ [a],ρ0.hid⟩ (.ref G.length) (.ref a):=by
 have Y:a∉ρ0.hid:=λz=>by
  obtain ⟨o,e,_⟩:=R0.hd a z;rw [hn] at e; cases e
 refine ⟨⟨x.pre.trans (eN _ _),λ_ h=>h,λ_ h=>.inl h,x.keep,λb O=>?_,x.old,x.frz⟩,⟨?_,?_,λb O=>R.hd b (x.hidM b O),λb O z=>?_,λi b c h1 h2=>?_⟩,a,?_,rfl⟩
 ·rcases D9.mp O with z | z
  ·exact x.new b z
  ·have:b=a:=by simpa using z
   subst this; exact .inr hn
 ·show (ρ.tr ++ [a]).length=_;rw [O6,O6,R.len]; rfl
 ·show (ρ.tr ++ [a]).Nodup;refine cV.mpr ⟨R.nd,by simp,λb O c hc e=>?_⟩;have:c=a:=by simpa using hc
  subst this; subst e;exact R.ap b hm O
 ·rcases D9.mp z with z | z
  ·exact R.ap b (x.hidM b O) z
  ·have:b=a:=by simpa using z
   subst this; exact Y O
 ·have h1:(ρ.tr ++ [a])[i]?=zo b:=h1
  by_cases hi:i < G.length
  ·rw [O8 (by rw [R.len]; exact hi)] at h1;rw [O8 hi] at h2;have q:=R.cell i b c h1 h2;cases c with
   | lst U=>
    obtain ⟨us,J,I⟩:=q;exact ⟨us,J,I.trk hm x.hidM⟩
   | dic U=>
    obtain ⟨us,J,I⟩:=q;exact ⟨us,J,I.1,I.2.trk hm x.hidM⟩
   | dtp U=>
    obtain ⟨us,J,I⟩:=q;exact ⟨us,J,I.1,I.2.trk hm x.hidM⟩
   | frd U=>
    obtain ⟨us,J,I⟩:=q;exact ⟨us,J,I.1,I.2.trk hm x.hidM⟩
   | obj C U=>
    obtain ⟨us,J,I⟩:=q;exact ⟨us,J,I.1,I.2.trk hm x.hidM⟩
  ·rw [D6 (by rw [R.len]; omega)] at h1;rw [D6 (by omega)] at h2;have Z:i - G.length=0:=by
    rcases fg (i - G.length) with z | z
    ·exact z
    ·rw [G9 (by simp; omega)] at h2; cases h2
   rw [R.len,Z] at h1;rw [Z] at h2;simp at h1 h2;subst h1; subst h2;exact ⟨vs,ha,r.trk hm x.hidM⟩
 ·show (ρ.tr ++ [a])[G.length]?=zo a;rw [<- R.len,D6 (O5 _),bu]; rfl
end
section
variable {X:Cx} {E:XK} {pos:Pos} {e:aH} {m:ML}
theorem Q5h (h:SimN X E e m):SimE X E e (Yz m):=⟨λΓ σ H ρ st Q R G q=>h.run Γ σ H ρ st _ Q R G q.bind λps J H1 ρ1 a vs eq x O hm Y I r=>by
 obtain ⟨x2,R2,U⟩:=Qbp R x O hm Y I r;unfold Yz at q;rw [eq] at q;exact q _ _ x2 R2 _ U⟩
theorem Qqp (h:SimN X E e m):SimE X E e (jw m):=⟨λΓ σ H ρ st Q R G q=>h.run Γ σ H ρ st _ Q R G q.bind λps J H1 ρ1 a vs eq x O hm Y I r=>by
 obtain ⟨x2,R2,U⟩:=Qmc R x O hm Y I r;unfold jw at q;rw [eq] at q;exact q _ _ x2 R2 _ U⟩
variable {es:List aH} {mr:Gam->Q0->Res (List PV)} {a b:aH} {ma mb:ME}
theorem xw {ρ1:Tk} {q:Q0} {Q:VK} (x:Ext H ρ H1 ρ1) (J:Rel H1 ρ1 q) (r:RepL H1 ρ1 ps vs)
  (k:∀ H1 ρ1 a vs,Ext H ρ H1 ρ1->Rel H1 ρ1 q->a∈ρ1.hid->H a=zl->H1 a=zo (.lst vs)->RepL H1 ρ1 ps vs->Q (.ref a) H1):∀ p,H1 p=zl->Q (.ref p) (upd H1 p (.lst vs)):=λp G=>by
 refine k _ (ρ1.hide p) p vs (x.trans (Ext.hide G)) (J.hide G) F3 ?_ Qt (r.hide G);cases e:H p with
 | none=>rfl
 | some o=>
  obtain ⟨o',I⟩:=x.old p o e;rw [G] at I; cases I
def Kt (mr:Gam->Q0->Res (List PV)):ML:=λΓ st=>(mr Γ st).bind λps st1=>if ps.length<=lim then .ok ps st1 else .stuck
theorem Qqh (h:SimA X E es mr):SimN X E (.List es pos) (Kt mr):=
 ⟨λΓ σ H ρ st P Q R G Y k=>WE.of (Qgp Q0u) (h.use' R G Y.bind λps q H1 ρ1 vs eq x1 U Z O h1=>by
  by_cases J:ps.length<=lim
  ·refine ⟨by rw [<- O.length]; exact Zz J,xw x1 U O λH2 I a us=>k ps q H2 I a us ?_⟩;unfold Kt;rw [eq];exact bT J
  ·rw [bU J] at h1; exact h1.elim)⟩
def Q62 (ma:ME):ML:=λΓ st=>(ma Γ st).bind λp st1=>match Vg st1 p with
 | some xs=>.ok xs st1
 | none=>.stuck
theorem Qjz {p:Pos} (Z:SimE X E a ma) (hg:Gl X "list") (hm:X.mg "list" = zl) (U:aN [a] X.env=(yo,aO a X.env) :: aN [] X.env:=by rfl):SimN X E (.Call (.Name "list" p) [a] [] pos) (Q62 ma):=
 ⟨λΓ σ H ρ st P Q R G hq k=>WE.of (X2 yn hg hm X7 (W3 J1 Us U) (by decide) (by decide) U rfl) (Z.use' R G hq.bind λq I H1 ρ1 v eq x1 Y G1 r1 h1=>by
  split at h1
  ·rename_i xs e;obtain ⟨t,b,vs,rfl,O,ra⟩:=xc (K:=X.K) Y r1 e;refine ⟨b,vs,rfl,Q9m O,xw x1 Y ra λH2 J a us=>k xs I H2 J a us ?_⟩;unfold Q62;rw [eq];show (match Vg I q with | some xs=>Res.ok xs I | none=>.stuck)=_;rw [e]
  ·exact h1.elim)⟩
def Q84 (st:Q0) (p q:PV):Res (List PV):=match Vh st p,Vh st q with
 | some xs,zo ys=>if xs.length + ys.length<=lim then .ok (xs ++ ys) st else .stuck
 | _,_=>.stuck
def Q4r (ma mb:ME):ML:=λΓ st=>(ma Γ st).bind λx st1=>(mb Γ st1).bind λy st2=>Q84 st2 x y
theorem Qqi (ha:SimE X E a ma) (hb:SimE X E b mb):SimN X E (.BinOp a .Add b pos) (Q4r ma mb):=
 ⟨λΓ σ H ρ st P Q R G hq k=>WE.of (Qpi Qh2 J1 J1) (ha.use' R G hq.bind λp O H1 ρ1 v e1 x1 R1 G1 r1 h1=>hb.use' R1 G1 h1.bind λq I H2 a1 u e2 x2 R2 G2 r2 h2=>by
  unfold Q84 at h2
  split at h2
  ·rename_i xs ys U Z
   split at h2
   ·rename_i hl;obtain ⟨c,vs,rfl,hc,Y⟩:=jx R2 (r1.ext x2) U;obtain ⟨d,us,rfl,hd,rd⟩:=jx R2 r2 Z;refine ⟨c,d,vs,us,rfl,rfl,hc,hd,by rw [<- Y.length,<- rd.length]; exact Zz hl,xw (x1.trans x2) R2 (Y.append rd) λH3 J a ws=>k (xs ++ ys) I H3 J a ws ?_⟩;unfold Q4r Q84;rw [e1];show (mb Γ O).bind _=_;rw [e2];show (match Vh I p,Vh I q with | some xs,zo ys=>if xs.length + ys.length<=lim then Res.ok (xs ++ ys) I else .stuck | _,_=>.stuck)=_
    rw [U,Z];exact bT hl
   ·exact h2.elim
  ·exact h2.elim)⟩
end
end
def Yt (cap:zAC) (Γ:Gam):Gam:=cap.map λc=>c.bind λj=>(Γ[j]?).join
theorem EnvR.cap {H:Hp} {ρ:Tk} {Γ:Gam} {σ:St} (h:EnvR H ρ Γ σ) (cap:zAC):EnvR H ρ (Yt cap Γ) (ym cap σ):=by
 refine ⟨by unfold Yt ym; rw [O1,O1],λi p e=>?_⟩;unfold Yt at e;unfold ym;rw [D7] at e ⊢;cases q:cap[i]? with
 | none=>rw [q] at e; cases e
 | some c=>
  rw [q] at e;cases c with
  | none=>cases e
  | some j=>
   have G:(Γ[j]?).join=zo p:=bn e;cases r:Γ[j]? with
   | none=>rw [r] at G; cases G
   | some o=>
    rw [r] at G;have:o=zo p:=G;subst this;obtain ⟨v,I,J⟩:=h.2 j p r;exact ⟨v,by show zo ((σ[j]?).join)=zo (zo v); rw [I]; rfl,J⟩
def Q3r (cap:zAC) (ga:GA):Prop:=∀ Γ p Γ1,ga p (Yt cap Γ)=zo Γ1->Γ1.length=(Yt cap Γ).length/\∀ (i:Nat) (q:PV),(Yt cap Γ)[i]?=zo (zo q)->Γ1[i]?=zo (zo q)
theorem Q53 {cap:zAC} {i:Nat} (h:cap[i]?=zo zl) (Γ:Gam):(Yt cap Γ)[i]?=zo zl:=by
 unfold Yt;rw [D7,h]; rfl
theorem Vm {cap:zAC} {i:Nat} (h:cap[i]?=zo zl:=by rfl):Q3r cap (Qd i):=λΓ p I e=>by
 cases e;refine ⟨G7 ..,λj q G=>?_⟩;rw [E7 λz=>?_]
 ·exact G
 ·subst z; rw [Q53 h] at G; cases G
def Qcr (cap:zAC) (ga:GAs):Prop:=∀ Γ ps Γ0 Γ1,(∀ (i:Nat) (q:PV),(Yt cap Γ)[i]?=zo (zo q)->Γ0[i]?=zo (zo q))->ga ps Γ0=zo Γ1->Γ1.length=Γ0.length/\∀ (i:Nat) (q:PV),(Yt cap Γ)[i]?=zo (zo q)->Γ1[i]?=zo (zo q)
theorem Qig {cap:zAC}:Qcr cap jf:=λΓ ps Γ0 q h e=>by
 cases ps with
 | nil=>cases e; exact ⟨rfl,h⟩
 | cons _ _=>cases e
theorem Qeb {cap:zAC} {i:Nat} (hs:Qcr cap gs) (h:cap[i]?=zo zl:=by rfl):Qcr cap (Ze (Qd i) gs):=λΓ ps Γ0 q h0 e=>by
 cases ps with
 | nil=>cases e
 | cons p ps=>
  obtain ⟨a,b⟩:=hs Γ ps (Γ0.set i (zo p)) q (λk r G=>by
   rw [E7 λz=>?_]
   ·exact h0 k r G
   ·subst z; rw [Q53 h] at G; cases G) e
  exact ⟨by rw [a,G7],b⟩
theorem Qif {cap:zAC} (hs:Qcr cap gs):Q3r cap (je gs):=λΓ p q e=>by
 cases p with
 | tup ps=>exact hs Γ ps _ q (λ_ _ h=>h) e
 | _=>cases e
open Classical in
def Jz (ga:GA) (mt:MT) (me:ME) (w:Wt) (Γ0:Gam):List PV->Q0->Res (List PV)
 | [],st=>if wOk w st then .ok [] st else .stuck
 | x :: xs,st=>if wOk w st then (match ga x Γ0 with
  | none=>.stuck
  | some Γ1=>(mt Γ1 st).bind λb st1=>if b=zb then (me Γ1 st1).bind λy st2=>(Jz ga mt me w Γ0 xs st2).bind λys st3=>.ok (y :: ys) st3 else Jz ga mt me w Γ0 xs st1) else .stuck
def noX {α:Type}:Res α->Res α
 | .exc _ _=>.stuck
 | r=>r
def J5 (cap:zAC) (ga:GA) (mi:MI) (mt:MT) (me:ME):ML:=λΓ st=>(mi Γ st).bind λiw st1=>noX (Jz ga mt me iw.2 (Yt cap Γ) iw.1 st1)
structure SimTs (X:Cx) (ifs:List aH) (m:MT):Prop where
 run:∀ (Γ:Gam) (σ:St) (H:Hp) (ρ:Tk) (st:Q0) (P:Bool->Q0->Hp->Tk->Prop) (Q:Bool->Hp->Prop),Rel H ρ st->EnvR H ρ Γ σ->Acc X.mg E0 H ρ P (m Γ st) ->
  (∀ b st1 H1 ρ1,m Γ st=.ok b st1->Ext H ρ H1 ρ1->Rel H1 ρ1 st1->EnvR H1 ρ1 Γ σ->Q b H1)->∃ t,PTs X ifs t/\t σ H Q
def Jy:MT:=λ_ st=>.ok zb st
theorem qh :SimTs X [] Jy:=⟨λΓ σ H ρ st P Q R G h k=>⟨_,Qkn,k zb st H ρ rfl (Ext.refl _ _) R G⟩⟩
theorem Qjp {m:MT} (O:SimT X E0 c m):SimTs X [c] m:=⟨λΓ σ H ρ st P Q R G h k=>⟨_,Qkm Q7w,O.use' R G h λb q H1 ρ1 e x1 I J p=>k b q H1 ρ1 e x1 I J⟩⟩
theorem Qp7 {E':XK} {P:α->Q0->Hp->Tk->Prop} {r:Res α} (h:Acc mg E H ρ P (noX r)):Acc mg E' H ρ P r:=by
 cases r with
 | ok a st=>exact h
 | exc x st=>exact h.elim
 | stuck=>exact h
theorem Res.assoc {q:Type} (r:Res α) (f:α->Q0->Res β) (g:β->Q0->Res q):(r.bind f).bind g=r.bind λa st=>(f a st).bind g:=by cases r <;> rfl
theorem Acc.assoc {q:Type} {P:q->Q0->Hp->Tk->Prop} {r:Res α} {f:α->Q0->Res β} {g:β->Q0->Res q} (h:Acc mg E H ρ P ((r.bind f).bind g)):Acc mg E H ρ P (r.bind λa st=>(f a st).bind g):=by
 rw [<- Res.assoc]; exact h
theorem EnvR.le {G:Gam} (h:EnvR H ρ G σ) (I:Γ.length=σ.length) (k:∀ (i:Nat) (q:PV),Γ[i]?=zo (zo q)->G[i]?=zo (zo q)):EnvR H ρ Γ σ:=⟨I,λi p e=>h.2 i p (k i p e)⟩
variable {tg iter elt:aH} {ifs:List aH} {N N':List Str} {sc scE:Scope} {ga:GA} {mi:MI} {mt:MT} {me:ME}
section
variable {cap:zAC}
def aE (X:Cx) (N':List Str) (sc:Scope) (e:aH):TE:=λσ H Q=>∀ cl C s0 H0 ex,WE (Y9 X N' sc cl C s0 H0 ex) e σ H Q
def aG (X:Cx) (N':List Str) (sc:Scope) (tg:aH):TG:=λv σ H Q=>∀ cl C s0 H0 ex,WGx (Y9 X N' sc cl C s0 H0 ex) tg v σ H Q
def aT (X:Cx) (N':List Str) (sc:Scope) (ifs:List aH):TT:=λσ H Q=>∀ cl C s0 H0 ex,∃ t,PTs (Y9 X N' sc cl C s0 H0 ex) ifs t/\t σ H Q
theorem Qeh {Γ:Gam} {σ:St} {H1:Hp} {ρ1:Tk} {U:Q0} {J:It} {q:List PV} {w:Wt} {Q:VK} {P:List PV->Q0->Hp->Tk->Prop} (hg:∀ cl C Z H0 ex,SimG (Y9 X N' sc cl C Z H0 ex) tg ga) (he:∀ cl C Z H0 ex,SimE (Y9 X N' sc cl C Z H0 ex) E0 elt me) (ht:∀ cl C Z H0 ex,SimTs (Y9 X N' sc cl C Z H0 ex) ifs mt)
  (hf:Q3r cap ga) (R1:Rel H1 ρ1 U) (G1:EnvR H1 ρ1 Γ σ) (src:Src J q w H1 ρ1) (c5:q.length<=sizeLine) (h:Acc X.mg E0 H1 ρ1 P (Jz ga mt me w (Yt cap Γ) q U))
  (k:∀ ys b7 H2 a7 acc vs,Jz ga mt me w (Yt cap Γ) q U=.ok ys b7->Ext H1 ρ1 H2 a7->Rel H2 a7 b7->acc∈a7.hid->H1 acc=zl->H2 acc=zo (.lst vs)->RepL H2 a7 ys vs->Q (.ref acc) H2):Q51 J cap (aG X N' sc tg) (aT X N' sc ifs) (aE X N' sc elt) σ H1 Q:=by
 intro acc I;let W:Nat->Nat->List V->St->Hp->Prop:=λi m vs a8 H'=>m=q.length - i/\i<=q.length/\vs.length<=i/\∃ ρ' st' ys,Ext H1 ρ1 H' ρ'/\acc∈ρ'.hid/\Rel H' ρ' st'/\EnvR H' ρ' (Yt cap Γ) a8/\H' acc=zo (.lst vs)/\RepL H' ρ' ys vs /\
  Jz ga mt me w (Yt cap Γ) q U=(Jz ga mt me w (Yt cap Γ) (q.drop i) st').bind λzs a1=>.ok (ys ++ zs) a1
 refine ⟨W,⟨_,rfl,F7 _,O5 _,ρ1.hide acc,U,[],Ext.hide I,F3,R1.hide I,(G1.cap cap).hide I,Qt,rfl,?_⟩,?_⟩
 ·rw [eO];cases r:Jz ga mt me w (Yt cap Γ) q U with
  | ok zs a1=>rfl
  | exc x a1=>rfl
  | stuck=>rfl
 rintro i m vs a8 H' ⟨hm,hi,c6,ρ',st',ys,x,Y,R',G',ha,ry,O⟩;have G:Acc X.mg E0 H1 ρ1 P ((Jz ga mt me w (Yt cap Γ) (q.drop i) st').bind λzs a1=>.ok (ys ++ zs) a1):=by rw [<- O]; exact h
 refine ⟨ha,?_⟩
 by_cases a4:i < q.length
 ·right
  have hd:q.drop i=q[i] :: q.drop (i + 1):=iX a4;rw [hd,Jz] at G O
  by_cases hw:wOk w st'
  ·rw [bT hw] at G O;refine ⟨src.go H' _ st' x R' hw i a4,by omega,λy H2 hy=>?_⟩;obtain ⟨sm,c0⟩:=src.yld H' _ st' x R' hw i _ (O3 a4) y H2 hy;cases eg:ga q[i] (Yt cap Γ) with
   | none=>rw [eg] at G; exact G.elim
   | some a2=>
    rw [eg] at G O;have x2:Ext H' ρ' H2 ρ':=Ext.same sm;have R2:=R'.same sm;intro cl C Z H0 ex;refine (hg cl C Z H0 ex).run (Yt cap Γ) a2 a8 H2 ρ' _ y _ (G'.ext x2) c0 eg λb4 G3=>?_
    intro cl C Z H0 ex;have c1:=Acc.later G (x.trans x2);refine (ht cl C Z H0 ex).run a2 b4 H2 ρ' st' _ _ R2 G3 (Acc.bind (Acc.assoc c1)) λb c4 H4 a5 e4 x4 R4 G4=>?_
    simp only [e4,Res.bind] at G O;have G0:∀ {b2:Hp} {a3:Tk},EnvR b2 a3 a2 b4->EnvR b2 a3 (Yt cap Γ) b4:=λ{b2 a3} g=>g.le (by
     rw [<- G3.1];exact (hf Γ _ a2 eg).1.symm) (hf Γ _ a2 eg).2
    have b0:Ext H1 ρ1 H4 a5:=x.trans (x2.trans x4);have b1:acc∈a5.hid:=x4.hidM acc Y;have na:acc∉ρ'.tr:=R'.ap acc Y;have b8:H4 acc=zo (.lst vs):=x4.keep acc _ (sm acc _ ha) na;have b5:RepL H4 a5 ys vs:=ry.ext (x2.trans x4);cases b with
    | false=>
     rw [bU D2] at G O ⊢;exact ⟨_,show q.length - (i + 1) < m by omega,rfl,a4,by omega,a5,c4,ys,b0,b1,R4,G0 G4,b8,b5,O⟩
    | true=>
     rw [bT rfl] at G O ⊢;intro cl C Z H0 ex;have c3:=Acc.later G b0;refine (he cl C Z H0 ex).use' R4 G4 (Acc.bind (Acc.assoc c3)) λz b6 H5 b3 zv e5 x5 R5 G5 r5 h5=>?_
     simp only [e5,Res.bind] at G O;have a6:acc∈b3.hid:=x5.hidM acc b1;have c2:H5 acc=zo (.lst vs):=x5.keep acc _ b8 (R4.ap acc b1);have b9:Ext H1 ρ1 H5 b3:=b0.trans x5;refine ⟨c2,_,show q.length - (i + 1) < m by omega,rfl,a4,by rw [O6]; simp; omega,b3,b6,ys ++ [z],b9.put0 I,a6,R5.rehide a6,(G0 G5).rehide a6,Qt,((b5.ext x5).append (RepL.cons r5 RepL.nil)).rehide a6,?_⟩;refine O.trans ?_;cases rr:Jz ga mt me w (Yt cap Γ) (q.drop (i + 1)) b6 with
     | ok zs a9=>
      show Res.ok (ys ++ z :: zs) a9=Res.ok ((ys ++ [z]) ++ zs) a9;rw [dS]; rfl
     | exc x6 a9=>rfl
     | stuck=>rfl
  ·rw [bU hw] at G; exact G.elim
 ·left
  have ei:i=q.length:=by omega
  subst ei;rw [fi,Jz] at G O
  by_cases hw:wOk w st'
  ·rw [bT hw] at G O;refine ⟨src.stop H' _ st' x R' hw,?_⟩;have O:Jz ga mt me w (Yt cap Γ) q U=.ok (ys ++ []) st':=O;rw [L1] at O;exact k ys st' H' ρ' acc vs O x R' Y I ha ry
  ·rw [bU hw] at G; exact G.elim
theorem Q93 {Γ:Gam} {σ:St} {H:Hp} {ρ:Tk} {st:Q0} {Q:VK} {P:List PV->Q0->Hp->Tk->Prop} (hi:SimI X E tg iter mi) (hg:∀ cl C O H0 ex,SimG (Y9 X N' sc cl C O H0 ex) tg ga) (he:∀ cl C O H0 ex,SimE (Y9 X N' sc cl C O H0 ex) E0 elt me) (Z:∀ cl C O H0 ex,SimTs (Y9 X N' sc cl C O H0 ex) ifs mt)
  (hf:Q3r cap ga) (R:Rel H ρ st) (G:EnvR H ρ Γ σ) (h:Acc X.mg E H ρ P (J5 cap ga mi mt me Γ st)) (k:∀ ps I H2 q a vs,J5 cap ga mi mt me Γ st=.ok ps I->Ext H ρ H2 q->Rel H2 q I->a∈q.hid->H a=zl->H2 a=zo (.lst vs)->RepL H2 q ps vs->Q (.ref a) H2):Q5c cap (WI X tg iter) (aG X N' sc tg) (aT X N' sc ifs) (aE X N' sc elt) σ H Q:=by
 refine hi.run Γ σ H ρ st _ _ R G h.bind λiw a1 H1 ρ1 J eq x1 R1 G1 ok hl src h1=>?_
 refine Qeh hg he Z hf R1 G1 src hl (Qp7 (E':=E0) h1) λys I H2 q acc vs U x2 R2 hm hn ha ry=>?_
 refine k ys I H2 q acc vs ?_ (x1.trans x2) R2 hm ?_ ha ry
 ·unfold J5;rw [eq];show noX _=_;rw [U]; rfl
 cases e:H acc with
 | none=>rfl
 | some o=>
  obtain ⟨o',Y⟩:=x1.old acc o e;rw [hn] at Y; cases Y
theorem Qva :∀ cl C q H0 ex,PG (Y9 X N' sc cl C q H0 ex) tg (aG X N' sc tg):=λcl C q H0 ex pins s σ H v u Q I r h=>Qm3 pins s σ H v u Q I r (h cl C q H0 ex)
theorem Qve :∀ cl C q H0 ex,PE (Y9 X N' sc cl C q H0 ex) e (aE X N' sc e):=λcl C q H0 ex pins s σ H Q I h=>h cl C q H0 ex pins s I
theorem Qpf :∀ cl C q H0 ex,PTs (Y9 X N' sc cl C q H0 ex) ifs (aT X N' sc ifs):=λcl C q H0 ex pins s σ H Q I h=>by
 obtain ⟨t,a,b⟩:=h cl C q H0 ex;exact a pins s σ H Q I b
theorem Q14 (cap:zAC) (N':List Str) (q:X.calm=zb) (hi:SimI X E tg iter mi) (Z:∀ cl C I H0 ex,SimG (Y9 X N' sc cl C I H0 ex) tg ga) (J:∀ cl C I H0 ex,SimE (Y9 X N' sc cl C I H0 ex) E0 elt me) (O:∀ cl C I H0 ex,SimTs (Y9 X N' sc cl C I H0 ex) ifs mt)
  (U:Q3r cap ga) (hN:X.N=N:=by rfl) (Y:X.env.scope=scE:=by rfl) (hc:compOkC N N' sc scE cap=zb:=by kernel_rfl) (hs:∀ x,bG iter X.env x=pure x:=by intro _; rfl) :
  SimN X E (.ListComp elt [⟨tg,iter,ifs,0⟩] sc pos) (J5 cap ga mi mt me):=
 ⟨λΓ σ H ρ st P Q R G h k=>WE.of (Qgr q Qre Qva Qve Qpf hN Y hc hs) (Q93 hi Z J O U R G h k)⟩
end
inductive SR where
 | nx (Γ:Gam) (st:Q0) | rt (v:PV) (st:Q0) | bk (Γ:Gam) (st:Q0) | ct (Γ:Gam) (st:Q0) | exc (x:Exc) (st:Q0) | stuck
abbrev MS:=Gam->Q0->SR
variable {m1:MS}
def Res.sbind {α:Type} (r:Res α) (f:α->Q0->SR):SR:=match r with
 | .ok a st=>f a st
 | .exc x st=>.exc x st
 | .stuck=>.stuck
def AccS (mg:zAE) (E:XK) (D:Ends) (H:Hp) (ρ:Tk):SR->Prop
 | .nx Γ st=>∀ σ' H' ρ',Ext H ρ H' ρ'->Rel H' ρ' st->EnvR H' ρ' Γ σ'->D.nx σ' H'
 | .bk Γ st=>∀ σ' H' ρ',Ext H ρ H' ρ'->Rel H' ρ' st->EnvR H' ρ' Γ σ'->D.bk σ' H'
 | .ct Γ st=>∀ σ' H' ρ',Ext H ρ H' ρ'->Rel H' ρ' st->EnvR H' ρ' Γ σ'->D.ct σ' H'
 | .rt p st=>∀ v H' ρ',Ext H ρ H' ρ'->Rel H' ρ' st->Rep H' ρ' p v->D.rt v H'
 | .exc x st=>∀ C dv H' ρ',mg x.cls=zo (.ref C)->Ext H ρ H' ρ'->Rel H' ρ' st->XFs H' ρ' x.fs dv->E (.ref C) dv H'
 | .stuck=>False
variable {α:Type} {mg:zAE} {D:Ends} {H1:Hp} {ρ1:Tk}
theorem AccS.later {r:SR} (h:AccS mg E D H ρ r) (x:Ext H ρ H1 ρ1):AccS mg E D H1 ρ1 r:=by
 cases r with
 | nx Γ st=>exact λq H' ρ' G=>h q H' ρ' (x.trans G)
 | bk Γ st=>exact λq H' ρ' G=>h q H' ρ' (x.trans G)
 | ct Γ st=>exact λq H' ρ' G=>h q H' ρ' (x.trans G)
 | rt p st=>exact λv H' ρ' G=>h v H' ρ' (x.trans G)
 | exc y st=>exact λC I H' ρ' m G=>h C I H' ρ' m (x.trans G)
 | stuck=>exact h
theorem AccS.bind {r:Res α} {f:α->Q0->SR} (h:AccS mg E D H ρ (r.sbind f)):Acc mg E H ρ (λa q H1 ρ1=>AccS mg E D H1 ρ1 (f a q)) r:=by
 cases r with
 | ok a st=>exact λH' ρ' G I=>AccS.later (show AccS mg E D H ρ (f a st) from h) G
 | exc e st=>exact h
 | stuck=>exact h
theorem Res.sassoc (r:Res α) (f:α->Q0->Res β) (g:β->Q0->SR):(r.bind f).sbind g=r.sbind λa st=>(f a st).sbind g:=by cases r <;> rfl
theorem AccS.assoc {r:Res α} {f:α->Q0->Res β} {g:β->Q0->SR} (h:AccS mg E D H ρ ((r.bind f).sbind g)):AccS mg E D H ρ (r.sbind λa st=>(f a st).sbind g):=by
 rw [<- Res.sassoc]; exact h
structure SimS (X:Cx) (E:XK) (s:aM) (m:MS):Prop where
 run:∀ (Γ:Gam) (σ:St) (H:Hp) (ρ:Tk) (st:Q0) (D:Ends),Rel H ρ st->EnvR H ρ Γ σ->AccS X.mg E D H ρ (m Γ st)->WS X s D σ H
structure SimB (X:Cx) (E:XK) (ss:List aM) (m:MS):Prop where
 run:∀ (Γ:Gam) (σ:St) (H:Hp) (ρ:Tk) (st:Q0) (D:Ends),Rel H ρ st->EnvR H ρ Γ σ->AccS X.mg E D H ρ (m Γ st)->WB X ss D σ H
variable {e:aH} {m:ME}
def Qs:MS:=λΓ st=>.nx Γ st
def Q8 (m1 m2:MS):MS:=λΓ st=>match m1 Γ st with
 | .nx Γ1 st1=>m2 Γ1 st1
 | r=>r
theorem Qr0:SimB X E [] Qs:=⟨λΓ σ H ρ st D R G h=>WB.of Qkr (h σ H ρ (Ext.refl _ _) R G)⟩
theorem U8 {rest:List aM} {O:MS} (h1:SimS X E s m1) (h2:SimB X E rest O):SimB X E (s :: rest) (Q8 m1 O):=
 ⟨λΓ σ H ρ st D R G h=>WB.of (Qga Qv7 Q25) (h1.run Γ σ H ρ st _ R G (by
  unfold Q8 at h;cases r:m1 Γ st with
  | nx I q=>rw [r] at h; exact λJ H' ρ' U Y Z=>h2.run I J H' ρ' q D Y Z (AccS.later h U)
  | bk I q=>rw [r] at h; exact h
  | ct I q=>rw [r] at h; exact h
  | rt p q=>rw [r] at h; exact h
  | exc x q=>rw [r] at h; exact h
  | stuck=>rw [r] at h; exact h))⟩
theorem Q9p (h1:SimS X E s m1):SimB X E [s] m1:=⟨λΓ σ H ρ st D R G h=>WB.of (Qkq Qv7) (h1.run Γ σ H ρ st D R G h)⟩
def Qa8:MS:=λΓ st=>.bk Γ st
theorem Qff:SimS X E (.Break pos) Qa8:=⟨λΓ σ H ρ st D R G h=>WS.of Qgd (h σ H ρ (Ext.refl _ _) R G)⟩
def Ku (m:ME):MS:=λΓ st=>(m Γ st).sbind λ_ st1=>.nx Γ st1
theorem Qjs (q:SimE X E e m) (hs:swapsWith e zl pos.line X.env=pure yo:=by rfl):SimS X E (.Expr e pos) (Ku m):=
 ⟨λΓ σ H ρ st D R G h=>WS.of (Qks J1 hs) (q.use R G h.bind λp I H1 ρ1 v x1 J O U h1=>h1 σ H1 ρ1 (Ext.refl _ _) J O)⟩
def Qq (m:ME):MS:=λΓ st=>(m Γ st).sbind λp st1=>.rt p st1
theorem Qfc (q:SimE X E e m):SimS X E (.Return (zo e) pos) (Qq m):=
 ⟨λΓ σ H ρ st D R G h=>WS.of (Qrb J1) (q.use R G h.bind λp I H1 ρ1 v x1 J U O h1=>h1 v H1 ρ1 (Ext.refl _ _) J O)⟩
def Qr (i:Nat) (m:ME):MS:=λΓ st=>(m Γ st).sbind λp st1=>.nx (Γ.set i (zo p)) st1
theorem yz (i:Nat) {pos':Pos} (Z:X.N.Nodup) (q:SimE X E e m) (hi:X.N[i]?=zo x:=by rfl) (U:Loc X.env.scope x:=by first | exact Or.inl rfl | exact Or.inr rfl) (hs:swapsWith e (zo (.Name x pos')) pos.line X.env=pure yo:=by rfl) (I:X.fn x=zb\/X.env.scope.names.lookup x=zo .local:=by first | exact .inl rfl | exact .inr rfl) :
  SimS X E (.Assign [.Name x pos'] e pos) (Qr i m):=
 ⟨λΓ σ H ρ st D R G h=>WS.of (Qra Z hi U J1 hs I) (q.use R G h.bind λp J H1 ρ1 v x1 O Y r1 h1=>h1 _ H1 ρ1 (Ext.refl _ _) O (Y.set r1 i))⟩
section
variable {tg iter elt:aH} {ifs:List aH} {N N':List Str} {sc scE:Scope} {ga:GA} {mi:MI} {mt:MT} {me:ME}
theorem Q79 (cap:zAC) (N':List Str) (i:Nat) {x:Str} {px cpos:Pos} (O:X.N.Nodup) (q:X.calm=zb) (hi:SimI X E tg iter mi) (hg:∀ cl C I H0 ex,SimG (Y9 X N' sc cl C I H0 ex) tg ga) (he:∀ cl C I H0 ex,SimE (Y9 X N' sc cl C I H0 ex) E0 elt me) (Z:∀ cl C I H0 ex,SimTs (Y9 X N' sc cl C I H0 ex) ifs mt)
  (hf:Q3r cap ga) (Y:X.N[i]?=zo x:=by rfl) (hx:Loc X.env.scope x:=by first | exact Or.inl rfl | exact Or.inr rfl) (U:swapsWith (.ListComp elt [⟨tg,iter,ifs,0⟩] sc cpos) (zo (.Name x px)) pos.line X.env=pure zb:=by rfl)
  (hN:X.N=N:=by rfl) (hE:X.env.scope=scE:=by rfl) (hc:compOkC N N' sc scE cap=zb:=by kernel_rfl) (hs:∀ x,bG iter X.env x=pure x:=by intro _; rfl) (J:X.fn x=zb\/X.env.scope.names.lookup x=zo .local:=by first | exact .inl rfl | exact .inr rfl) :
  SimS X E (.Assign [.Name x px] (.ListComp elt [⟨tg,iter,ifs,0⟩] sc cpos) pos) (Qr i (Yz (J5 cap ga mi mt me))):=
 ⟨λΓ σ H ρ st D R G h=>WS.of (Qgc O Y hx q Qre Qva Qve Qpf U hN hE hc hs J) (Q93 hi hg he Z hf R G (AccS.bind (by unfold Qr Yz at h; exact AccS.assoc h)) λps a1 H1 ρ1 a vs eq x R1 hm hn ha r=>by
  obtain ⟨x2,R2,r2⟩:=Qbp R x R1 hm hn ha r;simp only [Qr,Yz,eq,Res.bind,Res.sbind] at h;exact h _ _ _ x2 R2 ((G.ext x2).set r2 i))⟩
end
def Qe1 (ga:GA) (m:ME):MS:=λΓ st=>(m Γ st).sbind λp st1=>match ga p Γ with
 | some Γ1=>.nx Γ1 st1
 | none=>.stuck
theorem Qfg (O:SimE X E e m) (hg:SimG X tg ga) (hs:swapsWithSole [tg] e pos.line X.env=pure yo:=by rfl) (Z:swappedStores [tg] e X.env=pure zl:=by rfl) (h1:(az [tg] X.env).map (·.2)=[assign tg X.env]:=by rfl):SimS X E (.Assign [tg] e pos) (Qe1 ga m):=
 ⟨λΓ σ H ρ st D R G h=>WS.of (Qge J1 Qm3 hs Z h1) (O.use R G h.bind λp U H1 ρ1 v x1 Y G1 r1 h1=>by
  cases q:ga p Γ with
  | none=>rw [q] at h1; exact h1.elim
  | some I=>
   rw [q] at h1;exact hg.run Γ I σ H1 ρ1 p v _ G1 r1 q λJ G'=>h1 J H1 ρ1 (Ext.refl _ _) Y G')⟩
def Xx (st:Q0) (o i p:PV):Option Q0:=match o,i with
 | .ref k,.int j=>match st[k]? with
  | some (.lst xs)=>(ixN xs.length j).map λn=>st.set k (.lst (xs.set n p))
  | _=>zl
 | _,_=>zl
def Xn (mo mi m:ME):MS:=λΓ st=>(m Γ st).sbind λp st1=>(mo Γ st1).sbind λo st2=>(mi Γ st2).sbind λi st3=>match Xx st3 o i p with
 | some st4=>.nx Γ st4
 | none=>.stuck
theorem Qk2 {st':Q0} {o i:PV} {x y z:V} (R:Rel H ρ st) (U:Rep H ρ o x) (ri:Rep H ρ i y) (Y:Rep H ρ p z) (e:Xx st o i p=zo st') :
  ∃ a vs k j,x=.ref a/\y=.int k/\H a=zo (.lst vs)/\ixN vs.length k=zo j/\Ext H ρ (upd H a (.lst (vs.set j z))) ρ/\Rel (upd H a (.lst (vs.set j z))) ρ st':=by
 unfold Xx at e
 split at e
 ·rename_i k j
  split at e
  ·rename_i xs hs;cases G:ixN xs.length j with
   | none=>rw [G] at e; cases e
   | some n=>
    rw [G] at e;have e:st.set k (.lst (xs.set n p))=st':=bn e;subst e;obtain ⟨a,I,rfl⟩:=U;cases ri;obtain ⟨b,vs,O,q,J⟩:=R.lst hs;rw [I] at O; cases O;exact ⟨a,vs,j,n,rfl,rfl,q,by rw [<- J.length]; exact G,Ext.put (E6 I) q,R.put I q (J.set Y n)⟩
  ·cases e
 ·cases e
theorem Qqf {o i:aH} {mo mi:ME} {tpos:Pos} (he:SimE X E e m) (ho:SimE X E o mo) (hi:SimE X E i mi)
  (ha:∀ v,assign (.Subscript o i tpos) X.env v=(do
   let q <- aw [v] (aO o X.env)
   let I <- aw [v,q] (aO i X.env)
   standAt tpos
   aw [v,q,I] (setItem q I v)
   release [v,q,I] []):=by intro _; rfl)
  (hs:swapsWithSole [.Subscript o i tpos] e pos.line X.env=pure yo:=by rfl) (hw:swappedStores [.Subscript o i tpos] e X.env=pure zl:=by rfl) (h1:(az [.Subscript o i tpos] X.env).map (·.2)=[assign (.Subscript o i tpos) X.env]:=by rfl) :
  SimS X E (.Assign [.Subscript o i tpos] e pos) (Xn mo mi m):=
 ⟨λΓ σ H ρ st D R G h=>WS.of (Qge J1 (Qri J1 J1 Qfp ha) hs hw h1) (he.use R G h.bind λp a3 H1 ρ1 z x1 R1 G1 r1 h1=>ho.use R1 G1 h1.bind λq a1 H2 a2 x x2 R2 G2 r2 h2=>hi.use R2 G2 h2.bind λI U H3 O y Y R3 G3 r3 J=>by
  cases es:Xx U q I p with
  | none=>rw [es] at J; exact J.elim
  | some a4=>
   rw [es] at J;obtain ⟨a,vs,k,j,rfl,rfl,f1,f2,Z,R4⟩:=Qk2 R3 (r2.ext Y) r3 (r1.ext (x2.trans Y)) es;exact ⟨a,vs,k,j,rfl,rfl,f1,f2,J σ _ O Z R4 (G3.ext Z)⟩)⟩
def Jf (mt:MT) (ma mb:MS):MS:=λΓ st=>(mt Γ st).sbind λb st1=>if b=zb then ma Γ st1 else mb Γ st1
theorem Quu {a b:List aM} {ma mb:MS} (Y:SimT X E c mt) (O:SimB X E a ma) (U:SimB X E b mb):SimS X E (.If c a b pos) (Jf mt ma mb):=
 ⟨λΓ σ H ρ st D R G h=>WS.of (Qv8 Q7w Q25 Q25) (Y.use R G h.bind λk q H1 ρ1 x1 I J h1=>by
  cases k with
  | true=>rw [bT rfl] at h1 ⊢; exact O.run Γ σ H1 ρ1 q D I J h1
  | false=>rw [bU D2] at h1 ⊢; exact U.run Γ σ H1 ρ1 q D I J h1)⟩
open Classical in
def Z2 (ga:GA) (body:MS) (w:Wt):List PV->Gam->Q0->SR
 | [],Γ,st=>if wOk w st then .nx Γ st else .stuck
 | x :: xs,Γ,st=>if wOk w st then (match ga x Γ with
  | none=>.stuck
  | some Γ1=>match body Γ1 st with
   | .nx Γ2 st2=>Z2 ga body w xs Γ2 st2
   | .ct Γ2 st2=>Z2 ga body w xs Γ2 st2
   | .bk Γ2 st2=>.nx Γ2 st2
   | .rt v st2=>.rt v st2
   | .exc x st2=>.exc x st2
   | .stuck=>.stuck) else .stuck
def K5 (ga:GA) (mi:MI) (body:MS):MS:=λΓ st=>(mi Γ st).sbind λiw st1=>Z2 ga body iw.2 iw.1 Γ st1
theorem Qfe {bd:List aM} {body:MS} (hp:PassesOwn (aI X.prog X.w) X.A X.env X.xe) (hc:X.calm=zb) (hi:SimI X E tg iter mi) (hg:SimG X tg ga) (hb:SimB X E bd body)
  (hs:∀ x,bG iter X.env x=pure x:=by intro _; rfl):SimS X E (.For tg iter bd [] pos) (K5 ga mi body):=
 ⟨λΓ σ H ρ st D R G h=>WS.of (Qrc hp hc Qre Qm3 Q25 hs) (hi.run Γ σ H ρ st _ _ R G h.bind λO a7 H1 ρ1 J eq x1 R1 G1 ok hl src h1=>by
  let W:Nat->Nat->St->Hp->Prop:=λi m U H'=>m=O.1.length - i/\i<=O.1.length/\∃ a2 ρ' st',Ext H1 ρ1 H' ρ'/\Rel H' ρ' st'/\EnvR H' ρ' a2 U/\AccS X.mg E D H' ρ' (Z2 ga body O.2 (O.1.drop i) a2 st')
  refine ⟨W,⟨_,rfl,F7 _,Γ,ρ1,a7,Ext.refl _ _,R1,G1,by rw [eO]; exact h1⟩,?_⟩;rintro i m U H' ⟨hm,a9,a2,ρ',st',x,R',G',Z⟩
  by_cases a4:i < O.1.length
  ·right
   have hd:O.1.drop i=O.1[i] :: O.1.drop (i + 1):=iX a4;rw [hd,Z2] at Z
   by_cases hw:wOk O.2 st'
   ·rw [bT hw] at Z;refine ⟨src.go H' ρ' st' x R' hw i a4,λa6 H2=>W (i + 1) (O.1.length - (i + 1)) a6 H2,λa6 H2 z=>⟨_,by omega,z⟩,λy H2 hy=>?_⟩
    obtain ⟨sm,ry⟩:=src.yld H' ρ' st' x R' hw i _ (O3 a4) y H2 hy;have x2:Ext H' ρ' H2 ρ':=Ext.same sm;cases eg:ga O.1[i] a2 with
    | none=>rw [eg] at Z; exact Z.elim
    | some a5=>
     rw [eg] at Z;refine hg.run a2 a5 U H2 ρ' _ y _ (G'.ext x2) ry eg λa8 G3=>?_
     have q:=AccS.later Z x2;simp only at q;refine hb.run a5 a8 H2 ρ' st' _ (R'.same sm) G3 ?_;have again:∀ {Y:Gam} {I:Q0},AccS X.mg E D H2 ρ' (Z2 ga body O.2 (O.1.drop (i + 1)) Y I)->∀ U a3 a1,Ext H2 ρ' a3 a1->Rel a3 a1 I->EnvR a3 a1 Y U->W (i + 1) (O.1.length - (i + 1)) U a3:=λ{Y I} a σ4 H4 ρ4 x4 R4 G4=>
      ⟨rfl,a4,Y,ρ4,I,x.trans (x2.trans x4),R4,G4,AccS.later a x4⟩
     cases rb:body a5 st' with
     | nx Y I=>rw [rb] at q; exact again q
     | ct Y I=>rw [rb] at q; exact again q
     | bk Y I=>rw [rb] at q; exact q
     | rt v I=>rw [rb] at q; exact q
     | exc y I=>rw [rb] at q; exact q
     | stuck=>rw [rb] at q; exact q.elim
   ·rw [bU hw] at Z; exact Z.elim
  ·left
   have ei:i=O.1.length:=by omega
   subst ei;rw [fi,Z2] at Z
   by_cases hw:wOk O.2 st'
   ·rw [bT hw] at Z;exact ⟨src.stop H' ρ' st' x R' hw,Z U H' ρ' (Ext.refl _ _) R' G'⟩
   ·rw [bU hw] at Z; exact Z.elim)⟩
def J3 (mt:MT) (body:MS):Nat->Gam->Q0->SR
 | 0,_,_=>.stuck
 | n + 1, Γ, st => (mt Γ st).sbind λb st1 => if b = zb then (match body Γ st1 with
   | .nx Γ2 st2=>J3 mt body n Γ2 st2
   | .ct Γ2 st2=>J3 mt body n Γ2 st2
   | .bk Γ2 st2=>.nx Γ2 st2
   | .rt v st2=>.rt v st2
   | .exc x st2=>.exc x st2
   | .stuck=>.stuck) else .nx Γ st1
theorem Qfb (n:Nat) {bd:List aM} {body:MS} (hp:PassesOwn (aI X.prog X.w) X.A X.env X.xe) (hc:SimT X E c mt) (hb:SimB X E bd body):SimS X E (.While c bd [] pos) (J3 mt body n):=
 ⟨λΓ σ H ρ st D R G h=>WS.of (Qgb hp Q7w Q25) (by
  let W:Nat->St->Hp->Prop:=λm I H'=>∃ U ρ' st',Rel H' ρ' st'/\EnvR H' ρ' U I/\AccS X.mg E D H' ρ' (J3 mt body m U st')
  refine ⟨W,⟨n,Γ,ρ,st,R,G,h⟩,?_⟩;rintro m I H' ⟨U,ρ',st',R',G',hA⟩;cases m with
  | zero=>exact hA.elim
  | succ m=>
   rw [J3] at hA;refine hc.use R' G' hA.bind λb a2 H1 ρ1 x1 R1 G1 h1=>?_
   cases b with
   | false=>rw [bU D2] at h1 ⊢; exact h1 I H1 ρ1 (Ext.refl _ _) R1 G1
   | true=>
    rw [bT rfl] at h1 ⊢;refine ⟨λa1 H2=>W m a1 H2,λa1 H2 z=>⟨m,dE _,z⟩,hb.run U I H1 ρ1 a2 _ R1 G1 ?_⟩
    have again:∀ {J:Gam} {q:Q0},AccS X.mg E D H1 ρ1 (J3 mt body m J q)->∀ I Y O,Ext H1 ρ1 Y O->Rel Y O q->EnvR Y O J I->W m I Y:=λ{J q} a σ4 H4 ρ4 x4 R4 G4=>⟨J,ρ4,q,R4,G4,AccS.later a x4⟩
    cases Z:body U a2 with
    | nx J q=>rw [Z] at h1; exact again h1
    | ct J q=>rw [Z] at h1; exact again h1
    | bk J q=>rw [Z] at h1; exact h1
    | rt v q=>rw [Z] at h1; exact h1
    | exc y q=>rw [Z] at h1; exact h1
    | stuck=>rw [Z] at h1; exact h1.elim)⟩
def Q61 (x:Str) (m:ME):MS:=λΓ st=>(m Γ st).sbind λ_ st1=>.exc ⟨x,zl⟩ st1
theorem Qfd {C:aB} {np cpos:Pos} (I:X.calm=zb) (RO:Qb9 X E) (hg:Gl X x) (hm:X.mg x=zo (.ref C)) (q:cO X.K C Q9b "ValueError.__new__" = zb) (U:SimE X E e m)
  (O:(x == ("__debug__" : Str))=yo:=by decide) (J:aN [e] X.env=[(yo,aO e X.env)]:=by rfl):SimS X E (.Raise (zo (.Call (.Name x np) [e] [] cpos)) zl pos) (Q61 x m):=
 ⟨λΓ σ H ρ st D R G h=>WS.of (Qdd I RO hg hm q (W3 J1 Us (by rw [J]; rfl)) O J) (U.use R G h.bind λp Y H1 ρ1 v x1 Z G1 r1 h1=>⟨E1 (show 1<=lim by decide) Q66,h1 C zl H1 ρ1 hm (Ext.refl _ _) Z rfl⟩)⟩
def WM (X:Cx) (id:String):V->List V->Hp->VK->Prop:=λx xs H Q=>∀ (pins:zAA) (s:aC) (σ:St) (v:aA) (us:List aA),Inv X pins σ H s->RelV x v->Vals xs us->aF (aI X.prog X.w) X.A (call (.builtin id) (v :: us)) (EP X pins σ Q) X.xe s
theorem Qz2 {id:String}:MtR X id (WM X id):=λpins s σ _ _ _ v us _ I r rs h=>h pins s σ v us I r rs
theorem WM.of {id:String} {r:V->List V->Hp->VK->Prop} {x:V} {xs:List V} (h:MtR X id r) (q:r x xs H Q):WM X id x xs H Q:=λpins s σ v us I G J=>h pins s σ H x xs v us Q I G J q
abbrev MF:=Q0->PV->List PV->Res PV
structure MtS (X:Cx) (E:XK) (id:String) (o:MF):Prop where
 run:∀ (H:Hp) (ρ:Tk) (st:Q0) (p:PV) (ps:List PV) (x:V) (xs:List V) (Q:VK),Rel H ρ st->Rep H ρ p x->RepL H ρ ps xs->Acc X.mg E H ρ (QV Q) (o st p ps)->WM X id x xs H Q
variable {o:aH} {es:List aH} {mo:ME} {mr:Gam->Q0->Res (List PV)} {name:Str} {apos cpos:Pos} {T:String} {f:MF}
section
variable {id:String}
def mBM (f:MF) (mo:ME) (mr:Gam->Q0->Res (List PV)):ME:=λΓ st=>(mo Γ st).bind λp st1=>match Ys st1 p with
 | some _=>(mr Γ st1).bind λps st2=>f st2 p ps
 | none=>.stuck
theorem Qux (pa:PlainAttrs "list") (slot:Slot "list" name id) (U:typeOf (.builtin id)=pure (.type "method_descriptor")) (hm:MtS X E id f) (ho:SimE X E o mo) (ha:SimA X E (e :: es) mr)
  (I:bP o name X.env (aO o X.env)=aO o X.env:=by rfl)
  (O:((ae cpos (aN (e :: es) X.env)).all (λx=>!x.1) && (backToKw cpos (keywordEach [] X.env)).all (λx=>x.1.isSome)
   && decide ((e :: es).length + ([]:List Keyword).length + (if ([]:List Keyword).isEmpty then 0 else 1) < 30))=zb:=by rfl)
  (J:(apos.endLine == cpos.line)=zb:=by rfl) (hs:aN (e :: es) X.env=(yo,aO e X.env) :: aN es X.env:=by rfl) (q:(ae cpos (aN es X.env)).any (·.1)=yo:=by rfl) :
  SimE X E (.Call (.Attribute o name apos) (e :: es) [] cpos) (mBM f mo mr):=
 ⟨λΓ σ H ρ st Q R G h=>WE.of (Qpk pa slot U Qz2 J1 Q0u I O J hs q) (ho.use R G h.bind λp a1 H1 ρ1 v x1 R1 G1 r1 h1=>by
  split at h1
  ·rename_i ys el;obtain ⟨a,vs,rfl,hr,_⟩:=W6 R1 r1 el;exact ⟨.inl ⟨rfl,vs,.inl hr⟩,ha.use R1 G1 h1.bind λps Y H2 Z us x2 R2 G2 r2 h2=>hm.run H2 Z Y p ps _ us Q R2 (r1.ext x2) r2 h2⟩
  ·exact h1.elim)⟩
def chg (st:Q0) (p:PV) (g:List PV->Option (PV × List PV)):Res PV:=match p with
 | .ref i=>match st[i]? with
  | some (.lst xs)=>match g xs with
   | some (r,ys)=>.ok r (st.set i (.lst ys))
   | none=>.stuck
  | _=>.stuck
 | _=>.stuck
theorem Qnt {x:V} {g:List PV->Option (PV × List PV)} (R:Rel H ρ st) (Y:Rep H ρ p x) (h:Acc mg E H ρ (QV Q) (chg st p g)) :
  ∃ a xs vs r ys,x=.ref a/\H a=zo (.lst vs)/\RepL H ρ xs vs/\g xs=zo (r,ys)/\∀ us v,RepL H ρ ys us->Rep H ρ r v->Q v (upd H a (.lst us)):=by
 unfold chg at h
 split at h
 ·rename_i i
  split at h
  ·rename_i xs hs
   split at h
   ·rename_i r ys U;obtain ⟨a,G,rfl⟩:=Y;obtain ⟨b,vs,I,q,J⟩:=R.lst hs;rw [G] at I; cases I;refine ⟨a,xs,vs,r,ys,rfl,q,J,U,λus v ru O=>?_⟩;have x:=Ext.put (o':=.lst us) (E6 G) q;exact h _ ρ x (R.put G q ru) v (O.ext x)
   ·exact h.elim
  ·exact h.elim
 ·exact h.elim
def Z5:MF:=λst p ps=>match ps with
 | [y]=>chg st p λxs=>if xs.length < lim then zo (.non,xs ++ [y]) else zl
 | _=>.stuck
theorem Qdv:MtS X E "list.append" Z5:=⟨λH ρ st p ps x xs Q R O rs h=>by
 unfold Z5 at h
 split at h
 ·obtain ⟨v,rfl,r⟩:=Zd rs;obtain ⟨a,ys,vs,U,zs,rfl,I,G,q,k⟩:=Qnt R O h
  split at q
  ·rename_i J;cases q;exact WM.of Qdu ⟨a,vs,v,rfl,rfl,I,by rw [<- G.length]; exact D1 J Q66,k _ _ (G.append (RepL.cons r RepL.nil)) rfl⟩
  ·cases q
 ·exact h.elim⟩
theorem Qd9 (O:SimE X E o mo) (J:SimA X E [e] mr) (q:bP o "append" X.env (aO o X.env)=aO o X.env:=by rfl)
  (I:((ae cpos (aN [e] X.env)).all (λx=>!x.1) && (backToKw cpos (keywordEach [] X.env)).all (λx=>x.1.isSome) && decide ([e].length + ([]:List Keyword).length + (if ([]:List Keyword).isEmpty then 0 else 1) < 30))=zb:=by rfl)
  (G:(apos.endLine == cpos.line)=zb:=by rfl) (hs:aN [e] X.env=(yo,aO e X.env) :: aN [] X.env:=by rfl):SimE X E (.Call (.Attribute o "append" apos) [e] [] cpos) (mBM Z5 mo mr):=
 Qux PySem.F.plainAttrs_list PySem.F.slot_list_append PySem.F.type_list_append Qdv O J q I G hs
end
section
mutual
def fz (n:Nat) (st:Q0):Nat->PV->Option PV
 | 0,_=>zl
 | _ + 1,.non=>zo .non
 | _ + 1,.bl b=>zo (.bl b)
 | _ + 1,.int i=>zo (.int i)
 | _ + 1,.str x=>zo (.str x)
 | k + 1,.tup xs=>(fzL n st k xs).map .tup
 | k + 1,.lst xs=>(fzL n st k xs).map .lst
 | k + 1,.fro xs=>(fzL n st k xs).map .fro
 | _ + 1,.dic=>zo .dic
 | k + 1,.ref i=>if i < n then zo (.ref i) else match st[i]? with
  | some (.lst xs)=>(fzL n st k xs).map .lst
  | _=>zl
def fzL (n:Nat) (st:Q0):Nat->List PV->Option (List PV)
 | _,[]=>zo []
 | k,x :: xs=>(fz n st k x).bind λy=>(fzL n st k xs).map (y :: ·)
end
theorem Qc8 :∀ {m k:Nat} {p:PV},good m p=zb->m < k->fz n st k p=zo p:=by
 intro m
 induction m with
 | zero=>
  intro k p g I;obtain ⟨k,rfl⟩:∃ j,k=j + 1:=⟨k - 1,by omega⟩;cases p with
  | tup _=>cases g
  | lst _=>cases g
  | fro _=>cases g
  | ref _=>cases g
  | dic=>cases g
  | _=>rw [fz]
 | succ m J=>
  intro k p g I;obtain ⟨k,rfl⟩:∃ j,k=j + 1:=⟨k - 1,by omega⟩;have G:∀ xs:List PV,xs.all (good m)=zb->fzL n st k xs=zo xs:=by
   intro xs
   induction xs with
   | nil=>intro _; rw [fzL]
   | cons x xs q=>
    intro g;rw [cE,E2] at g;rw [fzL,J g.1 (by omega),q g.2]; rfl
  cases p with
  | tup xs=>rw [fz,G xs g]; rfl
  | lst xs=>rw [fz,G xs g]; rfl
  | fro xs=>rw [fz,G xs g]; rfl
  | ref _=>cases g
  | dic=>cases g
  | _=>rw [fz]
section
variable {H:Hp} {ρ:Tk} {st:Q0} {tr0 rest hs:List aB}
theorem Qib (R:Rel H ρ st) (ht:ρ.tr=tr0 ++ rest) (hh:∀ a,a∈hs->a∈ρ.hid):∀ (k:Nat) {p p':PV} {v:V},Rep H ρ p v->fz tr0.length st k p=zo p'->Rep H ⟨tr0,hs⟩ p' v:=by
 have J:∀ a,a∉ρ->a∉(⟨tr0,hs⟩:Tk):=λa n z=>by
  rcases z with z | z
  ·exact n (.inl (by rw [ht]; exact F8 _ z))
  ·exact n (.inr (hh a z))
 intro k
 induction k with
 | zero=>intro p p' v r e; rw [fz] at e; cases e
 | succ k ih=>
  have hL:∀ {ps I:List PV} {vs:List V},RepL H ρ ps vs->fzL tr0.length st k ps=zo I->RepL H ⟨tr0,hs⟩ I vs:=by
   intro ps
   induction ps with
   | nil=>intro I vs r e; rw [fzL] at e; cases e; exact r
   | cons x xs a1=>
    intro I vs r e;obtain ⟨v,t,rfl,r1,r2⟩:=r;rw [fzL] at e;cases G:fz tr0.length st k x with
    | none=>rw [G] at e; cases e
    | some y=>
     rw [G] at e;have e:(fzL tr0.length st k xs).map (y :: ·)=zo I:=e;cases q:fzL tr0.length st k xs with
     | none=>rw [q] at e; cases e
     | some ys=>
      rw [q] at e;cases e;exact ⟨v,t,rfl,ih r1 G,a1 r2 q⟩
  intro p p' v r e;cases p with
  | non=>rw [fz] at e; cases e; exact r
  | bl b=>rw [fz] at e; cases e; exact r
  | int i=>rw [fz] at e; cases e; exact r
  | str x=>rw [fz] at e; cases e; exact r
  | tup xs=>
   rw [fz] at e;obtain ⟨a,vs,G,O,U,Y⟩:=r;cases q:fzL tr0.length st k xs with
   | none=>rw [q] at e; cases e
   | some ys=>rw [q] at e; cases e; exact ⟨a,vs,G,O,J a U,hL Y q⟩
  | lst xs=>
   rw [fz] at e;obtain ⟨a,vs,G,O,U,Y⟩:=r;cases q:fzL tr0.length st k xs with
   | none=>rw [q] at e; cases e
   | some ys=>rw [q] at e; cases e; exact ⟨a,vs,G,O,J a U,hL Y q⟩
  | fro xs=>
   rw [fz] at e;obtain ⟨a,vs,G,O,U,Y⟩:=r;cases q:fzL tr0.length st k xs with
   | none=>rw [q] at e; cases e
   | some ys=>rw [q] at e; cases e; exact ⟨a,vs,G,O,J a U,hL Y q⟩
  | dic=>
   rw [fz] at e;cases e;obtain ⟨a,G,O,U⟩:=r;exact ⟨a,G,O,J a U⟩
  | ref i=>
   rw [fz] at e;obtain ⟨a,Z,rfl⟩:=r
   by_cases hi:i < tr0.length
   ·rw [bT hi] at e;cases e;rw [ht,O8 hi] at Z;exact ⟨a,Z,rfl⟩
   ·rw [bU hi] at e
    split at e
    ·rename_i xs a2;obtain ⟨b,vs,f1,f2,f3⟩:=R.lst a2;rw [Z] at f1; cases f1;cases q:fzL tr0.length st k xs with
     | none=>rw [q] at e; cases e
     | some ys=>
      rw [q] at e; cases e;refine ⟨a,vs,rfl,f2,λz=>?_,hL f3 q⟩;rcases z with z | z
      ·have z:a∈tr0:=z;obtain ⟨j,hj,ej⟩:=G6 z;have g1:ρ.tr[j]?=zo a:=by rw [ht,O8 hj,O3 hj,ej]
       have l1:=O2.mp g1;have l2:=O2.mp Z;have:=Q4n R.nd l1.1 l2.1 (l1.2.trans l2.2.symm);omega
      ·exact R.ap a (hh a z) (E6 Z)
    ·cases e
mutual
def bel (n:Nat):PV->Prop
 | .tup xs=>belL n xs
 | .lst xs=>belL n xs
 | .fro xs=>belL n xs
 | .ref i=>i < n
 | _=>True
def belL (n:Nat):List PV->Prop
 | []=>True
 | x :: xs=>bel n x/\belL n xs
end
mutual
theorem Rep.bel:∀ {p:PV} {v:V},Rep H ρ p v->bel ρ.tr.length p
 | .non,_,_=>by simp [Sm.bel]
 | .bl _,_,_=>by simp [Sm.bel]
 | .int _,_,_=>by simp [Sm.bel]
 | .str _,_,_=>by simp [Sm.bel]
 | .tup ps,_,⟨_,_,_,_,_,r⟩=>by rw [Sm.bel]; exact RepL.bel r
 | .lst ps,_,⟨_,_,_,_,_,r⟩=>by rw [Sm.bel]; exact RepL.bel r
 | .fro ps,_,⟨_,_,_,_,_,r⟩=>by rw [Sm.bel]; exact RepL.bel r
 | .ref i,_,⟨_,e,_⟩=>by rw [Sm.bel]; exact (O2.mp e).1
 | .dic,_,_=>by simp [Sm.bel]
theorem RepL.bel:∀ {ps:List PV} {vs:List V},RepL H ρ ps vs->belL ρ.tr.length ps
 | [],_,_=>by simp [belL]
 | p :: ps,_,⟨_,_,_,q,G⟩=>by rw [belL]; exact ⟨Rep.bel q,RepL.bel G⟩
end
mutual
theorem Rep.less (q:ρ.tr=tr0 ++ rest) (J:∀ a,a∈hs->a∈ρ.hid):∀ {p:PV} {v:V},Sm.bel tr0.length p->Rep H ρ p v->Rep H ⟨tr0,hs⟩ p v
 | .non,_,_,r=>r
 | .bl _,_,_,r=>r
 | .int _,_,_,r=>r
 | .str _,_,_,r=>r
 | .tup ps,_,b,⟨a,vs,e,G,I,r⟩=>⟨a,vs,e,G,λz=>I (z.imp (λz=>by rw [q]; exact F8 _ z) (J a)),RepL.less q J (by rw [Sm.bel] at b; exact b) r⟩
 | .lst ps,_,b,⟨a,vs,e,G,I,r⟩=>⟨a,vs,e,G,λz=>I (z.imp (λz=>by rw [q]; exact F8 _ z) (J a)),RepL.less q J (by rw [Sm.bel] at b; exact b) r⟩
 | .fro ps,_,b,⟨a,vs,e,G,I,r⟩=>⟨a,vs,e,G,λz=>I (z.imp (λz=>by rw [q]; exact F8 _ z) (J a)),RepL.less q J (by rw [Sm.bel] at b; exact b) r⟩
 | .ref i,_,b,⟨a,e,O⟩=>⟨a,by rw [Sm.bel] at b; rw [q,O8 b] at e; exact e,O⟩
 | .dic,_,_,⟨a,e,G,I⟩=>⟨a,e,G,λz=>I (z.imp (λz=>by rw [q]; exact F8 _ z) (J a))⟩
theorem RepL.less (q:ρ.tr=tr0 ++ rest) (G:∀ a,a∈hs->a∈ρ.hid):∀ {ps:List PV} {vs:List V},belL tr0.length ps->RepL H ρ ps vs->RepL H ⟨tr0,hs⟩ ps vs
 | [],_,_,r=>r
 | p :: ps,_,b,⟨v,t,e,J,I⟩=>by
  rw [belL] at b;exact ⟨v,t,e,Rep.less q G b.1 J,RepL.less q G b.2 I⟩
end
end
theorem Q7s {H':Hp} {ρ':Tk} {st':Q0} (R:Rel H ρ st) (x:Ext H ρ H' ρ') (Z:Rel H' ρ' st') (hp:st <+: st'):Ext H ρ H' ρ/\Rel H' ρ st:=by
 obtain ⟨rest,O⟩:=x.pre;obtain ⟨more,hm⟩:=hp;refine ⟨⟨dL _,λ_ h=>h,λ_ h=>.inl h,x.keep,λ_ h=>.inl h,x.old,x.frz⟩,R.len,R.nd,λa Y=>let ⟨o,e,n⟩:=R.hd a Y; ⟨o,x.keep a o e (R.ap a Y),n⟩,R.ap,λi a c h1 h2=>?_⟩
 have hi:i < st.length:=(O2.mp h2).1;have q:=Z.cell i a c (by rw [<- O,O8 (O2.mp h1).1]; exact h1) (by rw [<- hm,O8 hi]; exact h2);have U:=R.cell i a c h1 h2;cases c with
 | lst ps=>
  obtain ⟨vs,I,G⟩:=q;obtain ⟨us,_,J⟩:=U;exact ⟨vs,I,RepL.less (ρ:=ρ') (tr0:=ρ.tr) (hs:=ρ.hid) O.symm x.hidM J.bel G⟩
 | dic ps=>
  obtain ⟨vs,I,G⟩:=q;obtain ⟨us,_,J⟩:=U;exact ⟨vs,I,G.1,RepL.less (ρ:=ρ') (tr0:=ρ.tr) (hs:=ρ.hid) O.symm x.hidM J.2.bel G.2⟩
 | dtp ps=>
  obtain ⟨vs,I,G⟩:=q;obtain ⟨us,_,J⟩:=U;exact ⟨vs,I,G.1,RepL.less (ρ:=ρ') (tr0:=ρ.tr) (hs:=ρ.hid) O.symm x.hidM J.2.bel G.2⟩
 | frd ps=>
  obtain ⟨vs,I,G⟩:=q;obtain ⟨us,_,J⟩:=U;exact ⟨vs,I,G.1,RepL.less (ρ:=ρ') (tr0:=ρ.tr) (hs:=ρ.hid) O.symm x.hidM J.2.bel G.2⟩
 | obj C ps=>
  obtain ⟨vs,I,G⟩:=q;obtain ⟨us,_,J⟩:=U;exact ⟨vs,I,G.1,RepL.less (ρ:=ρ') (tr0:=ρ.tr) (hs:=ρ.hid) O.symm x.hidM J.2.bel G.2⟩
abbrev FN:=List PV->Q0->Res PV
variable {FF:FN}
open Classical in
def fin (st:Q0) (v:PV) (st':Q0):Res PV:=if st <+: st' then okO st (fz st.length st' 16 v) else .ok v st'
open Classical in
def Qnm (st:Q0) (x:Exc) (st':Q0):Res PV:=if st <+: st' then (match x.fs with
 | none=>.exc x st
 | some (n,p)=>match fz st.length st' 16 p with
  | some q=>.exc ⟨x.cls,zo (n,q)⟩ st
  | none=>.stuck) else .exc x st'
def J8 (body:MS) (nl:Nat):FN:=λps st=>match body (ps.map zo ++ ba (nl - ps.length) zl) st with
 | .rt v st'=>fin st v st'
 | .nx _ st'=>fin st .non st'
 | .exc x st'=>Qnm st x st'
 | _=>.stuck
theorem Qcc {st':Q0} (R:Rel H ρ st) (h:Acc mg E H ρ (QV Q) (fin st p st')):∀ v H' ρ',Ext H ρ H' ρ'->Rel H' ρ' st'->Rep H' ρ' p v->Q v H':=λv H' ρ' x G r=>by
 unfold fin at h
 by_cases I:st <+: st'
 ·rw [bT I] at h;cases e:fz st.length st' 16 p with
  | none=>rw [e] at h; exact h.elim
  | some q=>
   rw [e] at h;obtain ⟨x2,R2⟩:=Q7s R x G I;obtain ⟨rest,J⟩:=x.pre;rw [<- R.len] at e;exact h H' ρ x2 R2 v (Qib (tr0:=ρ.tr) (hs:=ρ.hid) G J.symm x.hidM 16 r e)
 ·rw [bU I] at h;exact h H' ρ' x G v r
def spF (mg:zAE) (n:Nat) (F:FN):Sp:=λvs H Q E=>vs.length=n/\∃ ρ st ps,Rel H ρ st/\RepL H ρ ps vs/\Acc mg E H ρ (QV Q) (F ps st)
theorem Q4f (r:RepL H ρ ps vs):EnvR H ρ (ps.map zo ++ ba (N.length - ps.length) zl) (L2.start N vs):=by
 have I:=r.length;unfold L2.start;refine ⟨by simp [I],λi p e=>?_⟩
 by_cases hi:i < ps.length
 ·rw [O8 (by simpa using hi),D7] at e;rw [O8 (by simp; omega),D7];cases q:ps[i]? with
  | none=>rw [q] at e; cases e
  | some p'=>
   rw [q] at e;cases e;obtain ⟨v,G,J⟩:=r.get q;exact ⟨v,by rw [G]; rfl,J⟩
 ·rw [D6 (by simpa using hi),gJ] at e
  split at e <;> cases e
section
variable {P:aK} {w:aJ} {K:bX} {mg:zAE} {base:Heap}
theorem Qt1 {qual:Str} {st:aM} {f:aB} {ps:List Str} {k:Nat} {m:MS} (F:Fun K x qual st f fd) (S:FnScope N ps (Q7 st))
  (hb:∀ (O:aA) (A:aL) (outer:List eP) (s:aC) (H:Hp) (E:XK),Room k (A.deeper (eQ qual (Q7 st) s.heap.objs.size f O))->SimB (cxD P w K mg base N qual (Q7 st) f O A outer s H E) E (Z1 st) m) :
  FnOk P w K mg base (CXD P w) (k + 1) f fd ps (spF mg ps.length (J8 m N.length)):=by
 refine Fun.okD F S (λvs H Q E h=>h.1) λO A outer s H vs Q E hr a1=>⟨_,Q25,?_⟩
 obtain ⟨hl,ρ,J,Z,R,rl,G⟩:=a1;refine (hb O A outer s H E hr).run _ (L2.start N vs) H ρ J _ R (Q4f rl) ?_;unfold J8 at G;cases Y:m (Z.map zo ++ ba (N.length - Z.length) zl) J with
 | rt v I=>rw [Y] at G; exact Qcc R G
 | nx Γ I=>rw [Y] at G; exact λa2 H' ρ' U R' G'=>Qcc R G .non H' ρ' U R' rfl
 | bk Γ I=>rw [Y] at G; exact G.elim
 | ct Γ I=>rw [Y] at G; exact G.elim
 | stuck=>rw [Y] at G; exact G.elim
 | exc y I=>
  rw [Y] at G;have G:Acc mg E H ρ (QV Q) (Qnm J y I):=G;intro C dv H' ρ' hm U R' hf;unfold Qnm at G
  by_cases hp:J <+: I
  ·rw [bT hp] at G;obtain ⟨x2,R2⟩:=Q7s R U R' hp;obtain ⟨cls,fs⟩:=y;cases fs with
   | none=>exact G C dv H' ρ hm x2 R2 hf
   | some np=>
    obtain ⟨nm,p⟩:=np;simp only at G;cases e:fz J.length I 16 p with
    | none=>rw [e] at G; exact G.elim
    | some q=>
     rw [e] at G;obtain ⟨rest,ht⟩:=U.pre;rw [<- R.len] at e;obtain ⟨dx,v,e1,e2,e3,e4⟩:=hf;refine G C dv H' ρ hm x2 R2 ⟨dx,v,e1,e2,λz=>e3 (z.imp (λz=>by rw [<- ht]; exact F8 _ z) (U.hidM dx)),Qib (tr0:=ρ.tr) (hs:=ρ.hid) R' ht.symm U.hidM 16 e4 e⟩
  ·rw [bU hp] at G;exact G C dv H' ρ' hm U R' hf
end
theorem Qnh {P:aK} {w:aJ} {mg:zAE} {base:Heap} {qual:Str} {st:aM} {f:aB} {ps:List Str} {k nl:Nat} {m:MS} (F:Fun K x qual st f fd) (S:FnScope N ps (Q7 st)) (J:ps.length=n) (G:N.length=nl) (I:FF=J8 m nl)
  (O:∀ (q:aA) (A:aL) (outer:List eP) (s:aC) (H:Hp) (E:XK),Room k (A.deeper (eQ qual (Q7 st) s.heap.objs.size f q))->SimB (cxD P w K mg base N qual (Q7 st) f q A outer s H E) E (Z1 st) m) :
  FnOk P w K mg base (CXD P w) (k + 1) f fd ps (spF mg n FF):=by
 subst J; subst G; subst I;exact Qt1 F S O
structure DefS (P:aK) (w:aJ) (K:bX) (mg:zAE) (base:Heap) (k:Nat) (x:Str) (n:Nat) (F:FN):Prop where
 ex:∃ (f:aB) (fd:aP) (ps:List Str),FnOk P w K mg base (CXD P w) k f fd ps (spF mg n F)/\mg x=zo (.ref f)/\cb K (.ref f)=zb/\Binds K fd ps []/\ps.length=n
def Qb (n:Nat) (F:FN) (mr:Gam->Q0->Res (List PV)):ME:=λΓ st=>(mr Γ st).bind λps st1=>if ps.length=n then F ps st1 else .stuck
section
variable {X:Cx} {E:XK} {k n:Nat} {x:Str} {F:FN} {p pos:Pos} {e:aH} {es:List aH} {mr:Gam->Q0->Res (List PV)}
theorem Ww (D:DefS X.prog X.w X.K X.mg X.base k x n F) (hr:Room k X.A) (hx:Q3p (CXD X.prog X.w) X E) (Z:Gl X x) (ha:SimA X E (e :: es) mr) (I:(x == ("__debug__" : Str))=yo:=by decide)
  (he:aN (e :: es) X.env=(yo,aO e X.env) :: aN es X.env:=by rfl) (q:(ae pos (aN es X.env)).any (·.1)=yo:=by rfl):SimE X E (.Call (.Name x p) (e :: es) [] pos) (Qb n F mr):=by
 obtain ⟨f,fd,ps,hF,hm,hk,hb,hl⟩:=D.ex;exact ⟨λΓ σ H ρ st Q R G h=>WE.of (Qm8 hF hr Z hm hk hb .nil hx Q0u I he q) (ha.use R G h.bind λY J H1 ρ1 vs x1 R1 G1 U h1=>by
  by_cases O:Y.length=n
  ·rw [bT O] at h1;show spF X.mg n F (vs ++ []) H1 Q E;rw [L1];exact ⟨by rw [<- U.length]; exact O,ρ1,J,Y,R1,U,h1⟩
  ·rw [bU O] at h1; exact h1.elim)⟩
end
end
@[simp] theorem Qp (a:α) (st:Q0) (f:α->Q0->Res β):(Res.ok a st).bind f=f a st:=rfl
@[simp] theorem Qte (f:α->Q0->Res β):(Res.stuck:Res α).bind f=.stuck:=rfl
@[simp] theorem Qx6 (x:Exc) (st:Q0) (f:α->Q0->Res β):(Res.exc x st:Res α).bind f=.exc x st:=rfl
@[simp] theorem K9 (a:α) (st:Q0) (f:α->Q0->SR):(Res.ok a st).sbind f=f a st:=rfl
@[simp] theorem Qpb (f:α->Q0->SR):(Res.stuck:Res α).sbind f=.stuck:=rfl
@[simp] theorem Qtv (x:Exc) (st:Q0) (f:α->Q0->SR):(Res.exc x st:Res α).sbind f=.exc x st:=rfl
@[simp] theorem Qxt (i:Nat) (Γ:Gam) (st:Q0):Q2 i Γ st=(match Γ[i]? with | some (zo p)=>.ok p st | _=>.stuck):=rfl
@[simp] theorem Qzj (p:PV) (Γ:Gam) (st:Q0):mC p Γ st=.ok p st:=rfl
@[simp] theorem Qsg (o:OP) (a b:ME) (Γ:Gam) (st:Q0):mOp o a b Γ st=(a Γ st).bind λx G=>(b Γ G).bind λy q=>o q x y:=rfl
@[simp] theorem Qzd (b:Bool) (st:Q0):asB (.bl b) st=.ok b st:=rfl
@[simp] theorem Qq3 (m:ME) (Γ:Gam) (st:Q0):toB m Γ st=(m Γ st).bind asB:=rfl
def Qk6 {α:Type} (x:PV) (A B:Res α):Res α:=match x with
 | .bl zb=>A
 | .bl yo=>B
 | _=>.stuck
@[simp] theorem Qxd (b:Bool) (A B:Res α):Qk6 (.bl b) A B=if b=zb then A else B:=by cases b <;> rfl
@[simp] theorem Qu1 (o o':OP) (a b c:ME) (Γ:Gam) (st:Q0):Xq o o' a b c Γ st=(a Γ st).bind λx I=>(b Γ I).bind λy G=>(o G x y).bind λk q=>Qk6 k ((c Γ q).bind λz J=>o' J y z) (.ok (.bl yo) q):=by
 unfold Xq;refine congrArg _ (funext λx=>funext λI=>congrArg _ (funext λy=>funext λG=>congrArg _ (funext λk=>funext λq=>?_)))
 cases k with
 | bl b=>cases b <;> rfl
 | _=>rfl
@[simp] theorem Qn2 (a b:ME) (Γ:Gam) (st:Q0):yb a b Γ st=(a Γ st).bind λx q=>Qk6 x (b Γ q) (.ok (.bl yo) q):=by
 unfold yb;refine congrArg _ (funext λx=>funext λq=>?_);cases x with
 | bl b=>cases b <;> rfl
 | _=>rfl
@[simp] theorem Qsf (a b:ME) (Γ:Gam) (st:Q0):mOr a b Γ st=(a Γ st).bind λx q=>Qk6 x (.ok (.bl zb) q) (b Γ q):=by
 unfold mOr;refine congrArg _ (funext λx=>funext λq=>?_);cases x with
 | bl b=>cases b <;> rfl
 | _=>rfl
@[simp] theorem Qxu (a:ME) (Γ:Gam) (st:Q0):Qsh a Γ st=(a Γ st).bind λx q=>(match x with | .bl k=>.ok (.bl (!k)) q | _=>.stuck):=rfl
@[simp] theorem Qxw (a:ME) (Γ:Gam) (st:Q0):Q8e a Γ st=(a Γ st).bind λx q=>(match x with | .int k=>.ok (.int (-k)) q | _=>.stuck):=rfl
@[simp] theorem Q73 (a b:MT) (Γ:Gam) (st:Q0):zh a b Γ st=(a Γ st).bind λk q=>if k=zb then b Γ q else .ok yo q:=rfl
@[simp] theorem Qbb (a b:MT) (Γ:Gam) (st:Q0):Uz a b Γ st=(a Γ st).bind λk q=>if k=zb then .ok zb q else b Γ q:=rfl
@[simp] theorem Qf7 (a:MT) (Γ:Gam) (st:Q0):Ya a Γ st=(a Γ st).bind λk q=>.ok (!k) q:=rfl
@[simp] theorem Qxv (Γ:Gam) (st:Q0):Q4 Γ st=.ok [] st:=rfl
@[simp] theorem Qhb (m:ME) (mr:ML) (Γ:Gam) (st:Q0):Q1 m mr Γ st=(m Γ st).bind λp G=>(mr Γ G).bind λps q=>.ok (p :: ps) q:=rfl
@[simp] theorem Qmv (mr:ML) (Γ:Gam) (st:Q0):Jh mr Γ st=(mr Γ st).bind λps q=>if ps.length<=lim then .ok (.tup ps) q else .stuck:=rfl
@[simp] theorem Qxx (mr:ML) (Γ:Gam) (st:Q0):Vz mr Γ st=(mr Γ st).bind λps q=>if ps.length<=lim then .ok (.lst ps) q else .stuck:=rfl
@[simp] theorem Qw8 (mr:ML) (Γ:Gam) (st:Q0):Kt mr Γ st=(mr Γ st).bind λps q=>if ps.length<=lim then .ok ps q else .stuck:=rfl
@[simp] theorem Qz4 (m:ME) (l h:Gam->Q0->Res (Option Int)) (Γ:Gam) (st:Q0):mSl m l h Γ st=(m Γ st).bind λp G=>(l Γ G).bind λlo I=>(h Γ I).bind λhi q=>oSl q p lo hi:=rfl
@[simp] theorem Qsi (Γ:Gam) (st:Q0):Zm Γ st=.ok zl st:=rfl
@[simp] theorem Qw6 (m:ME) (Γ:Gam) (st:Q0):Zn m Γ st=(m Γ st).bind λp q=>(match p with | .int i=>.ok (zo i) q | _=>.stuck):=rfl
@[simp] theorem Qhc (o:CF) (mr:ML) (Γ:Gam) (st:Q0):Qj o mr Γ st=(mr Γ st).bind λps q=>o q ps:=rfl
@[simp] theorem Qxy (T:String) (m:ME) (Γ:Gam) (st:Q0):Q63 T m Γ st=(m Γ st).bind λp q=>if z9 q p=zb then .stuck else .ok (.bl (isI T (dpv q p))) q:=rfl
@[simp] theorem Qwt (st:Q0):z9 st .non=yo:=rfl
@[simp] theorem Qy0 (st:Q0) (b:Bool):z9 st (.bl b)=yo:=rfl
@[simp] theorem Qwv (st:Q0) (b:Int):z9 st (.int b)=yo:=rfl
@[simp] theorem Qwr (st:Q0) (b:Str):z9 st (.str b)=yo:=rfl
@[simp] theorem Qwq (st:Q0) (b:List PV):z9 st (.tup b)=yo:=rfl
@[simp] theorem Qwu (st:Q0) (b:List PV):z9 st (.lst b)=yo:=rfl
@[simp] theorem Qww (st:Q0) (b:List PV):z9 st (.fro b)=yo:=rfl
@[simp] theorem Qwx (st:Q0):z9 st .dic=yo:=rfl
@[simp] theorem Qws (st:Q0) (i:Nat):z9 st (.ref i)=(match st[i]? with | some (.frd _)=>zb | some (.obj _ _)=>zb | _=>yo):=rfl
@[simp] theorem Qy5 (st:Q0):dpv st .non=.non:=rfl
@[simp] theorem Qzb (st:Q0) (b:Bool):dpv st (.bl b)=(.bl b):=rfl
@[simp] theorem Qy7 (st:Q0) (b:Int):dpv st (.int b)=(.int b):=rfl
@[simp] theorem Qy4 (st:Q0) (b:Str):dpv st (.str b)=(.str b):=rfl
@[simp] theorem Qy3 (st:Q0) (b:List PV):dpv st (.tup b)=(.tup b):=rfl
@[simp] theorem Qy6 (st:Q0) (b:List PV):dpv st (.lst b)=(.lst b):=rfl
@[simp] theorem Qy8 (st:Q0) (b:List PV):dpv st (.fro b)=(.fro b):=rfl
@[simp] theorem Qza (st:Q0):dpv st .dic=.dic:=rfl
@[simp] theorem Qzk (st:Q0) (i:Nat):dpv st (.ref i)=(match st[i]? with | some (.dic _)=>.dic | some (.dtp _)=>.dic | _=>.ref i):=rfl
@[simp] theorem Qmu (m:ML) (Γ:Gam) (st:Q0):Yz m Γ st=(m Γ st).bind λps q=>.ok (.lst ps) q:=rfl
@[simp] theorem Qmw (m:ML) (Γ:Gam) (st:Q0):jw m Γ st=(m Γ st).bind λps q=>.ok (.ref q.length) (q ++ [.lst ps]):=rfl
@[simp] theorem Qdz (cap:zAC) (ga:GA) (mi:MI) (mt:MT) (me:ME) (Γ:Gam) (st:Q0):J5 cap ga mi mt me Γ st=(mi Γ st).bind λG q=>noX (Jz ga mt me G.2 (Yt cap Γ) G.1 q):=rfl
@[simp] theorem Qw3 (Γ:Gam) (st:Q0):Jy Γ st=.ok zb st:=rfl
@[simp] theorem Qe0 (n:Nat) (F:FN) (mr:ML) (Γ:Gam) (st:Q0):Qb n F mr Γ st=(mr Γ st).bind λps q=>if ps.length=n then F ps q else .stuck:=rfl
@[simp] theorem Qw7 (Γ:Gam) (st:Q0):Qs Γ st=.nx Γ st:=rfl
@[simp] theorem Ks (a b:MS) (Γ:Gam) (st:Q0):Q8 a b Γ st=(match a Γ st with | .nx q G=>b q G | r=>r):=rfl
@[simp] theorem Q8f (m:ME) (Γ:Gam) (st:Q0):Ku m Γ st=(m Γ st).sbind λ_ q=>.nx Γ q:=rfl
@[simp] theorem Qmz (m:ME) (Γ:Gam) (st:Q0):Qq m Γ st=(m Γ st).sbind λp q=>.rt p q:=rfl
@[simp] theorem Qmx (i:Nat) (m:ME) (Γ:Gam) (st:Q0):Qr i m Γ st=(m Γ st).sbind λp q=>.nx (Γ.set i (zo p)) q:=rfl
@[simp] theorem Q64 (c:MT) (a b:MS) (Γ:Gam) (st:Q0):Jf c a b Γ st=(c Γ st).sbind λk q=>if k=zb then a Γ q else b Γ q:=rfl
@[simp] theorem Qn0 (ga:GA) (mi:MI) (b:MS) (Γ:Gam) (st:Q0):K5 ga mi b Γ st=(mi Γ st).sbind λG q=>Z2 ga b G.2 G.1 Γ q:=rfl
@[simp] theorem Qmy (m:ME) (Γ:Gam) (st:Q0):Wr m Γ st=(m Γ st).bind λp q=>(match Yb q p with | some (xs,w)=>if xs.length<=lim then .ok (xs,w) q else .stuck | none=>.stuck):=rfl
@[simp] theorem Q2s (mr:ML) (Γ:Gam) (st:Q0):Zk mr Γ st=(mr Γ st).bind λps q=>(match ps with | [.int j]=>if -(lim:Int)<=j/\j<=lim then .ok (Wn 0 j.toNat,[]) q else .stuck | _=>.stuck):=rfl
@[simp] theorem Qxs (mr:ML) (Γ:Gam) (st:Q0):Qmt mr Γ st=(mr Γ st).bind λps G=>(match ps with | [p,q]=>(match Yb G p,Yb G q with | some (xs,w),zo (ys,I)=>if xs.length<=lim then .ok (Q1k xs ys,w ++ I) G else .stuck | _,_=>.stuck) | _=>.stuck):=rfl
@[simp] theorem Qw9 (mr:ML) (Γ:Gam) (st:Q0):Q8g mr Γ st=(mr Γ st).bind λps q=>(match ps with | [p]=>(match Yb q p with | some (xs,w)=>if xs.length<=lim then .ok (Vi 0 xs,w) q else .stuck | none=>.stuck) | _=>.stuck):=rfl
@[simp] theorem Qsm (f:MF) (mo:ME) (mr:ML) (Γ:Gam) (st:Q0):mBM f mo mr Γ st=(mo Γ st).bind λp q=>(match Ys q p with | some _=>(mr Γ q).bind λps G=>f G p ps | none=>.stuck):=rfl
@[simp] theorem Qn1 (ga:GA) (m:ME) (Γ:Gam) (st:Q0):Qe1 ga m Γ st=(m Γ st).sbind λp G=>(match ga p Γ with | some q=>.nx q G | none=>.stuck):=rfl
@[simp] theorem Qdy (mo mi m:ME) (Γ:Gam) (st:Q0):Xn mo mi m Γ st=(m Γ st).sbind λp I=>(mo Γ I).sbind λo G=>(mi Γ G).sbind λi q=>(match Xx q o i p with | some J=>.nx Γ J | none=>.stuck):=rfl
@[simp] theorem Qtz (x:Str) (m:ME) (Γ:Gam) (st:Q0):Q61 x m Γ st=(m Γ st).sbind λ_ q=>.exc ⟨x,zl⟩ q:=rfl
@[simp] theorem Qu3 (i:Nat) (p:PV) (Γ:Gam):Qd i p Γ=zo (Γ.set i (zo p)):=rfl
@[simp] theorem Qwm (Γ:Gam):jf [] Γ=zo Γ:=rfl
@[simp] theorem Qu4 (g:GA) (gs:GAs) (p:PV) (r:List PV) (Γ:Gam):Ze g gs (p :: r) Γ=(g p Γ).bind (gs r):=rfl
@[simp] theorem Qwk (gs:GAs) (ps:List PV) (Γ:Gam):je gs (.tup ps) Γ=gs ps Γ:=rfl
@[simp] theorem Qz1 (a:α) (st:Q0):noX (Res.ok a st)=.ok a st:=rfl
@[simp] theorem Qty :noX (Res.stuck:Res α)=.stuck:=rfl
@[simp] theorem Q83 (st:Q0) (a:α):okO st (zo a)=.ok a st:=rfl
@[simp] theorem Qvs (st:Q0):okO st (zl:Option α)=.stuck:=rfl
@[simp] theorem Qzi (g:Int->Int->PV) (st:Q0) (a b:Int):oI g st (.int a) (.int b)=.ok (g a b) st:=rfl
@[simp] theorem Qvy (st:Q0) (a b:Int):Qx st (.int a) (.int b)=.ok (.int (a + b)) st:=rfl
@[simp] theorem Qvx (st:Q0) (a b:List PV):Qx st (.tup a) (.tup b)=if a.length + b.length<=lim then .ok (.tup (a ++ b)) st else .stuck:=rfl
@[simp] theorem Qvv (st:Q0) (a b:Int):Kj st (.int a) (.int b)=if (-(2 ^ 64) < a/\a < 2 ^ 64)\/(-(2 ^ 64) < b/\b < 2 ^ 64) then .ok (.int (a * b)) st else .stuck:=rfl
@[simp] theorem Qvu (st:Q0) (xs:List PV) (b:Int):Kj st (.tup xs) (.int b)=if xs≠[]/\1<=b/\xs.length * b.toNat<=4096 then .ok (.tup (ba b.toNat xs).flatten) st else .stuck:=rfl
@[simp] theorem Qvw (st:Q0) (a b:Int):zw st (.int a) (.int b)=if 0 < b then .ok (.int (a % b)) st else .stuck:=rfl
@[simp] theorem Qvt (st:Q0) (a b:Int):Qa2 st (.int a) (.int b)=if 0<=b/\b<=1000000/\a.natAbs < 2 ^ 64 then .ok (.int (a ^ b.toNat)) st else .stuck:=rfl
@[simp] theorem Qxj (st:Q0) (a b:Int):oLt st (.int a) (.int b)=.ok (.bl (decide (a < b))) st:=rfl
@[simp] theorem Qxr (st:Q0) (a b:Int):oEq st (.int a) (.int b)=.ok (.bl (a == b)) st:=rfl
@[simp] theorem Qxi (st:Q0) (a b:Int):oNe st (.int a) (.int b)=.ok (.bl (!(a == b))) st:=rfl
@[simp] theorem Qz0 (st:Q0) (a b:Bool):oEq st (.bl a) (.bl b)=.ok (.bl (a == b)) st:=rfl
@[simp] theorem Qyy (st:Q0) (a b:Bool):oNe st (.bl a) (.bl b)=.ok (.bl (!(a == b))) st:=rfl
@[simp] theorem Qxq (st:Q0) (a b:Str):oEq st (.str a) (.str b)=.ok (.bl (a == b)) st:=rfl
@[simp] theorem Qxh (st:Q0) (a b:Str):oNe st (.str a) (.str b)=.ok (.bl (!(a == b))) st:=rfl
@[simp] theorem Qxp (st:Q0) (p:PV):oIs st p .non=.ok (.bl (Q8p p)) st:=rfl
@[simp] theorem Qyz (st:Q0) (a b:Bool):oIs st (.bl a) (.bl b)=.ok (.bl (a == b)) st:=rfl
@[simp] theorem Qsb (st:Q0) (p:PV):jt st p .non=.ok (.bl (!Q8p p)) st:=rfl
@[simp] theorem Qtw (st:Q0) (a b:Bool):jt st (.bl a) (.bl b)=.ok (.bl (a != b)) st:=rfl
@[simp] theorem Qu2 (st:Q0) (xs:List PV):Vh st (.lst xs)=zo xs:=rfl
@[simp] theorem Qsn (st:Q0) (xs:List PV):Ys st (.lst xs)=zo xs:=rfl
@[simp] theorem Qsp (st:Q0) (xs:List PV):Ys st (.fro xs)=zo xs:=rfl
@[simp] theorem Qd5 (st:Q0) (xs:List PV):Vg st (.lst xs)=zo xs:=rfl
@[simp] theorem Qtu (st:Q0) (xs:List PV):Vg st (.fro xs)=zo xs:=rfl
@[simp] theorem Qtt (st:Q0) (xs:List PV):Vg st (.tup xs)=zo xs:=rfl
@[simp] theorem Qtr (st:Q0) (xs:List PV):Yb st (.lst xs)=zo (xs,[]):=rfl
@[simp] theorem Qts (st:Q0) (xs:List PV):Yb st (.fro xs)=zo (xs,[]):=rfl
@[simp] theorem Qtq (st:Q0) (xs:List PV):Yb st (.tup xs)=zo (xs,[]):=rfl
@[simp] theorem Qxk (st:Q0) (xs:List PV) (i:Int):oIx st (.tup xs) (.int i)=okO st (atI xs i):=rfl
@[simp] theorem Qxm (st:Q0) (xs:List PV) (i:Int):oIx st (.lst xs) (.int i)=okO st (atI xs i):=rfl
@[simp] theorem Qxn (st:Q0) (xs:List PV) (i:Int):oIx st (.fro xs) (.int i)=okO st (atI xs i):=rfl
@[simp] theorem Qxe (st:Q0) (xs:List PV) (l h:Option Int):oSl st (.tup xs) l h=.ok (.tup (cut xs l h)) st:=rfl
@[simp] theorem Qxf (st:Q0) (xs:List PV) (l h:Option Int):oSl st (.lst xs) l h=.ok (.lst (cut xs l h)) st:=rfl
@[simp] theorem Qxg (st:Q0) (xs:List PV) (l h:Option Int):oSl st (.fro xs) l h=.ok (.lst (cut xs l h)) st:=rfl
@[simp] theorem Qx2 (st:Q0) (xs:List PV):Jv st [.tup xs]=.ok (.int xs.length) st:=rfl
@[simp] theorem Qx3 (st:Q0) (xs:List PV):Jv st [.lst xs]=.ok (.int xs.length) st:=rfl
@[simp] theorem Qx4 (st:Q0) (xs:List PV):Jv st [.fro xs]=.ok (.int xs.length) st:=rfl
@[simp] theorem Qu5 (st:Q0) (xs:List PV):yq st [.tup xs]=.ok (.lst xs) st:=rfl
@[simp] theorem Qu6 (st:Q0) (xs:List PV):yq st [.lst xs]=.ok (.lst xs) st:=rfl
@[simp] theorem Qu7 (st:Q0) (xs:List PV):yq st [.fro xs]=.ok (.lst xs) st:=rfl
@[simp] theorem Qta (st:Q0) (xs:List PV):Yu st [.tup xs]=.ok (.tup xs) st:=rfl
@[simp] theorem Qtb (st:Q0) (xs:List PV):Yu st [.lst xs]=.ok (.tup xs) st:=rfl
@[simp] theorem Qiz (g:List Bool->PV) (st:Q0) (bs:List Bool):Xv g st [.lst (bs.map .bl)]=.ok (g bs) st:=by
 simp only [Xv,Qd5,iY,Qnx]
@[simp] theorem Quc (st:Q0):wOk [] st=True:=by simp [wOk]
@[simp] theorem Q6j (st:Q0) (b:Bool):fin st (.bl b) st=.ok (.bl b) st:=by simp [fin,fz]
@[simp] theorem Qy2 (st:Q0) (b:Int):fin st (.int b) st=.ok (.int b) st:=by simp [fin,fz]
@[simp] theorem Qnk (st:Q0):fin st .non st=.ok .non st:=by simp [fin,fz]
@[simp] theorem Qy1 (st:Q0) (b:Str):fin st (.str b) st=.ok (.str b) st:=by simp [fin,fz]
theorem Q8u {v:PV} (g:good 12 v=zb):fin st v st=.ok v st:=by
 simp only [fin,List.prefix_rfl,if_true,Qc8 g (by decide:12 < 16),Q83]
theorem Q4z {more:Q0} {v:PV} (g:good 12 v=zb):fin st v (st ++ more)=.ok v st:=by
 simp only [fin,eN,if_true,Qc8 g (by decide:12 < 16),Q83]
theorem jy:lim=1000000:=rfl
theorem X6 (g f:α->PV) {w:Wt} {Γ0:Gam} (I:wOk w st) {ys:List α} (h:∀ y∈ys,∃ q,ga (g y) Γ0=zo q/\me q st=.ok (f y) st):Jz ga Jy me w Γ0 (ys.map g) st=.ok (ys.map f) st:=by
 induction ys with
 | nil=>simp [Jz,I]
 | cons y ys G=>
  obtain ⟨q,h1,h2⟩:=h y F3;have G:=G λz hz=>h z (O4 _ hz)
  rw [D3,Jz,bT I,h1];simp [h2,G]
theorem Qei (g f:α->PV) (t:α->Bool) {w:Wt} {Γ0:Gam} (J:wOk w st) {ys:List α} (h:∀ y∈ys,∃ q,ga (g y) Γ0=zo q/\mt q st=.ok (t y) st/\(t y=zb->me q st=.ok (f y) st)):Jz ga mt me w Γ0 (ys.map g) st=.ok ((ys.filter t).map f) st:=by
 induction ys with
 | nil=>simp [Jz,J]
 | cons y ys G=>
  obtain ⟨q,h1,h2,O⟩:=h y F3;have G:=G λz hz=>h z (O4 _ hz)
  rw [D3,Jz,bT J,h1];simp only [h2,Qp,G];cases I:t y with
  | true=>simp [O I,I,G]
  | false=>simp [I]
@[simp] theorem Qx5 (g:List Bool->PV) (st:Q0) (ys:List α) (b:α->Bool):Xv g st [.lst (ys.map λy=>.bl (b y))]=.ok (g (ys.map b)) st:=by
 rw [show (ys.map λy=>PV.bl (b y))=(ys.map b).map .bl by rw [F9]; rfl,Qiz]
theorem Q34 (g:α->PV) {xs:List α} (I:Nat->Gam->Q0->Prop) {ga:GA} {body:MS} {w:Wt} (U:∀ i Γ st,I i Γ st->wOk w st)
  (h:∀ (i:Nat) x Γ st,xs[i]?=zo x->I i Γ st->∃ G,ga (g x) Γ=zo G/\∃ J O,body G st=.nx J O/\I (i + 1) J O) {Γ:Gam} {st:Q0} (h0:I 0 Γ st):∃ q st',Z2 ga body w (xs.map g) Γ st=.nx q st'/\I xs.length q st':=by
 induction xs generalizing I Γ st with
 | nil=>exact ⟨Γ,st,by simp [Z2,U 0 Γ st h0],h0⟩
 | cons x xs ih=>
  obtain ⟨G,h1,J,O,Y,i2⟩:=h 0 x Γ st rfl h0;obtain ⟨q,st',e3,i3⟩:=ih (λi=>I (i + 1)) (λi Γ st z=>U (i + 1) Γ st z) (λi y Γ st Z z=>h (i + 1) y Γ st (by simpa using Z) z) i2
  refine ⟨q,st',?_,i3⟩;rw [D3,Z2,bT (U 0 Γ st h0),h1];simp only [Y];exact e3
theorem Qev (f:α->PV) (g:β->PV) (xs:List α) (ys:List β):Q1k (xs.map f) (ys.map g)=(xs.zip ys).map λz=>.tup [f z.1,g z.2]:=by
 rw [Q5a,List.zip_map,F9]; rfl
theorem Qcn (f:α->PV) (xs:List α) (i:Int):atI (xs.map f) i=(atI xs i).map f:=by
 unfold atI;rw [O1];cases ixN xs.length i with
 | none=>rfl
 | some j=>simp [D7]
theorem atI_get {xs:List α} {i:Nat} {x:α} (h:xs[i]?=zo x):atI xs (i:Int)=zo x:=by
 have q:=(O2.mp h).1;unfold atI ixN;rw [bT (by omega),bT (by omega)];simpa using h
theorem Qcf (f:α->PV) (xs:List α) (l h:Option Int):cut (xs.map f) l h=(cut xs l h).map f:=by
 unfold cut;rw [O1,<- fc,<- fb]
@[simp] theorem Qyd (st l:List α) (c:α):(st ++ c :: l)[st.length]?=zo c:=by
 rw [D6 (O5 _),bu]; rfl
@[simp] theorem Qxb (st l:List α) (c d:α):(st ++ c :: d :: l)[st.length + 1]?=zo d:=by
 rw [D6 (by omega)];rw [show st.length + 1 - st.length=1 by omega]; rfl
@[simp] theorem Qyc (st l:List α) (c d:α):(st ++ c :: l).set st.length d=st ++ d :: l:=by
 rw [eR _ _ (O5 _),bu]; rfl
@[simp] theorem Qxa (st l:List α) (c q d:α):(st ++ c :: q :: l).set (st.length + 1) d=st ++ c :: d :: l:=by
 rw [eR _ _ (by omega),show st.length + 1 - st.length=1 by omega]; rfl
@[simp] theorem Qy9 (st:Q0) (i:Nat) (g:List PV->Option (PV × List PV)):chg st (.ref i) g=(match st[i]? with | some (.lst xs)=>(match g xs with | some (r,ys)=>.ok r (st.set i (.lst ys)) | none=>.stuck) | _=>.stuck):=rfl
@[simp] theorem Qxz (st:Q0) (i:Nat):Vh st (.ref i)=(match st[i]? with | some (.lst xs)=>zo xs | _=>zl):=rfl
@[simp] theorem Qwe (st:Q0) (i:Nat):Ys st (.ref i)=(match st[i]? with | some (.lst xs)=>zo xs | _=>zl):=rfl
@[simp] theorem Q15 (st:Q0) (i:Nat):Vg st (.ref i)=(match st[i]? with | some (.lst xs)=>zo xs | _=>zl):=rfl
@[simp] theorem Qxc (st:Q0) (i:Nat):Yb st (.ref i)=(match st[i]? with | some (.lst xs)=>zo (xs,[(i,.lst xs)]) | _=>zl):=rfl
@[simp] theorem Qpp (st:Q0) (p y:PV):Z5 st p [y]=chg st p λxs=>if xs.length < lim then zo (.non,xs ++ [y]) else zl:=rfl
@[simp] theorem Qx1 (st:Q0) (i:Nat):Yu st [.ref i]=(match st[i]? with | some (.lst xs)=>.ok (.tup xs) st | _=>.stuck):=by
 unfold Yu; simp only [Q15];cases st[i]? with
 | none=>rfl
 | some c=>cases c <;> rfl
@[simp] theorem Qya (st:Q0) (i:Nat):yq st [.ref i]=(match st[i]? with | some (.lst xs)=>.ok (.lst xs) st | _=>.stuck):=by
 unfold yq; simp only [Q15];cases st[i]? with
 | none=>rfl
 | some c=>cases c <;> rfl
@[simp] theorem Qtc (st:Q0) (i:Nat):Jv st [.ref i]=(match st[i]? with | some (.lst xs)=>.ok (.int xs.length) st | _=>.stuck):=by
 unfold Jv; simp only [Q15];cases st[i]? with
 | none=>rfl
 | some c=>cases c <;> rfl
@[simp] theorem Q0i (st:Q0) (i:Nat) (j:Int):oIx st (.ref i) (.int j)=(match st[i]? with | some (.lst xs)=>okO st (atI xs j) | _=>.stuck):=by
 unfold oIx; simp only [Q15];cases st[i]? with
 | none=>rfl
 | some c=>cases c <;> rfl
@[simp] theorem Qbi (st:Q0) (k:Nat) (j:Int) (p:PV):Xx st (.ref k) (.int j) p=(match st[k]? with | some (.lst xs)=>(ixN xs.length j).map λn=>st.set k (.lst (xs.set n p)) | _=>zl):=rfl
theorem Qeg (xs:List α) (k:Nat):cut xs zl (zo (k:Int))=xs.take k:=by
 unfold cut;rw [HT.sIx_none,HT.sIx_nat,eO,iW];rcases iZ k xs.length with h | h
 ·rw [ia h]
 ·rw [ib h,eM,dy h]
theorem Q90 (xs:List α) (k:Nat):cut xs (zo (k:Int)) zl=xs.drop k:=by
 unfold cut;rw [HT.sIx_none,HT.sIx_nat];rcases iZ k xs.length with h | h
 ·rw [ia h,dy (by rw [cf]; omega)]
 ·rw [ib h,fi,List.drop_of_length_le h]; simp
theorem Q4y {l:List α} {j:Nat} (h:j < l.length) (d:α):l[j]?=zo (l.getD j d):=by
 rw [dw,O3 h]; rfl
def ListAt (st:Q0) (V:PV) (xs:List PV):Prop:=V=.lst xs\/V=.fro xs\/∃ i,V=.ref i/\st[i]?=zo (.lst xs)
theorem ListAt.ix {V:PV} (h:ListAt st V xs) (j:Int):oIx st V (.int j)=okO st (atI xs j):=by
 rcases h with rfl | rfl | ⟨i,rfl,e⟩
 ·rfl
 ·rfl
 ·rw [Q0i,e]
theorem Q0c (g:α->PV) {xs:List α} (I:Nat->List PV->Q0->Prop) {ga:GA} {me:ME} {w:Wt} {Γ0:Gam} (Y:∀ i q st,I i q st->wOk w st)
  (h:∀ (i:Nat) x q st,xs[i]?=zo x->I i q st->∃ J,ga (g x) Γ0=zo J/\∃ v G,me J st=.ok v G/\I (i + 1) (q ++ [v]) G) {st:Q0} (h0:I 0 [] st):∃ q st',Jz ga Jy me w Γ0 (xs.map g) st=.ok q st'/\I xs.length q st':=by
 have U:∀ (ys:List α) (k:Nat) (pre:List PV) (st:Q0),(∀ i,ys[i]?=xs[k + i]?)->k + ys.length=xs.length->I k pre st->∃ q st',Jz ga Jy me w Γ0 (ys.map g) st=.ok q st'/\I xs.length (pre ++ q) st':=by
  intro ys
  induction ys with
  | nil=>
   intro k pre st e O i;refine ⟨[],st,by simp [Jz,Y k pre st i],?_⟩;rw [L1,<- O]; exact i
  | cons y ys ih=>
   intro k pre st e O i;have Z:xs[k]?=zo y:=by have:=e 0; simpa using this.symm
   obtain ⟨J,h1,v,G,h2,i2⟩:=h k y pre st Z i;obtain ⟨q,st',h3,i3⟩:=ih (k + 1) (pre ++ [v]) G (λi=>by
    have:=e (i + 1);rw [eK] at this;rw [this]; congr 1; omega) (by rw [<- O,D4]; omega) i2
   refine ⟨v :: q,st',?_,by simpa using i3⟩;rw [D3,Jz,bT (Y k pre st i),h1];simp [Jy,h2,h3]
 obtain ⟨q,st',h1,h2⟩:=U xs 0 [] st (λi=>by simp) (by simp) h0;exact ⟨q,st',h1,by simpa using h2⟩
@[simp] theorem Qu0 (ma:ME) (Γ:Gam) (st:Q0):Q62 ma Γ st=(ma Γ st).bind λp q=>match Vg q p with | some xs=>.ok xs q | none=>.stuck:=rfl
@[simp] theorem Qwa (ma mb:ME) (Γ:Gam) (st:Q0):Q4r ma mb Γ st=(ma Γ st).bind λx G=>(mb Γ G).bind λy q=>Q84 q x y:=rfl
theorem Qnc (h:k < n):ixN n (k:Int)=zo k:=by
 unfold ixN;rw [bT (by omega),bT (by omega)];simp
theorem qk:∀ {xs:List PV},(∀ x∈xs,peq x x=zb)->peqL xs xs=zb
 | [],_=>rfl
 | x :: xs,h=>by
  rw [peqL,h x F3,qk λy q=>h y (O4 _ q)]; rfl
theorem zn:∀ {n:Nat} {p:PV},good n p=zb->peq p p=zb
 | n,.non,_=>rfl
 | n,.bl b,_=>by simp [peq]
 | n,.int b,_=>by simp [peq]
 | n,.str b,_=>by simp [peq]
 | n,.ref _,g=>by cases n <;> simp [good] at g
 | n,.dic,g=>by cases n <;> simp [good] at g
 | 0,.tup _,g=>by simp [good] at g
 | 0,.lst _,g=>by simp [good] at g
 | 0,.fro _,g=>by simp [good] at g
 | n + 1,.tup xs,g=>by
  rw [peq]; refine qk λx q=>zn (n:=n) ?_
  simp [good] at g; exact g x q
 | n + 1,.lst xs,g=>by
  rw [peq]; refine qk λx q=>zn (n:=n) ?_
  simp [good] at g; exact g x q
 | n + 1,.fro xs,g=>by
  rw [peq]; refine qk λx q=>zn (n:=n) ?_
  simp [good] at g; exact g x q
variable {a b:aH} {ma mb:ME}
theorem Qj3:aX "set" = zo (.type "set"):=by decide +kernel
def Q8d (ma mb:ME):ML:=λΓ st=>(ma Γ st).bind λp st1=>(mb Γ st1).bind λq st2=>match q,Ys st2 p with
 | .int i,zo xs=>if i=-1 then .ok xs.reverse st2 else .stuck
 | _,_=>.stuck
theorem Qqg (ha:SimE X E a ma) (hb:SimE X E b mb):SimN X E (.Subscript a (.Slice zl zl (zo b) p2) pos) (Q8d ma mb):=
 ⟨λΓ σ H ρ st P Q R G hq k=>WE.of (Qrm J1 J1) (ha.use' R G hq.bind λp O H1 ρ1 v U x1 R1 G1 r1 h1=>hb.use' R1 G1 h1.bind λq I H2 a1 u Y x2 R2 G2 Z h2=>by
  split at h2
  ·rename_i i xs f
   split at h2
   ·rename_i hi;subst hi;have eu:u=.int (-1):=Z;subst eu;obtain ⟨c,vs,rfl,hc,rc⟩:=W6 R2 (r1.ext x2) f;refine ⟨rfl,c,vs,rfl,.inl hc,xw (x1.trans x2) R2 rc.reverse λH3 J z us=>k xs.reverse I H3 J z us ?_⟩;unfold Q8d;rw [U];show (mb Γ O).bind _=_;rw [Y];show (match PV.int (-1),Ys I p with | .int i,zo xs=>if i=-1 then Res.ok xs.reverse I else .stuck | _,_=>.stuck)=_
    rw [f];rfl
   ·exact h2.elim
  ·exact h2.elim)⟩
@[simp] theorem Qw5 (ma mb:ME) (Γ:Gam) (st:Q0):Q8d ma mb Γ st=(ma Γ st).bind λp I=>(mb Γ I).bind λq G=>match q,Ys G p with
 | .int i,zo xs=>if i=-1 then .ok xs.reverse G else .stuck
 | _,_=>.stuck:=rfl
def W9 (body:MS) (nl:Nat):FN:=λps st=>match body (ps.map zo ++ ba (nl - ps.length) zl) st with
 | .rt v st'=>.ok v st'
 | .nx _ st'=>.ok .non st'
 | .exc x st'=>.exc x st'
 | _=>.stuck
variable {P:aK} {K:bX} {base:Heap}
section
variable {w:aJ}
theorem Qng {qual:Str} {st:aM} {f:aB} {ps:List Str} {k:Nat} {m:MS} (F:Fun K x qual st f fd) (S:FnScope N ps (Q7 st))
  (hb:∀ (I:aA) (A:aL) (outer:List eP) (s:aC) (H:Hp) (E:XK),Room k (A.deeper (eQ qual (Q7 st) s.heap.objs.size f I))->SimB (cxD P w K mg base N qual (Q7 st) f I A outer s H E) E (Z1 st) m) :
  FnOk P w K mg base (CXD P w) (k + 1) f fd ps (spF mg ps.length (W9 m N.length)):=by
 refine Fun.okD F S (λvs H Q E h=>h.1) λI A outer s H vs Q E hr Z=>⟨_,Q25,?_⟩
 obtain ⟨hl,ρ,O,U,R,rl,q⟩:=Z;refine (hb I A outer s H E hr).run _ (L2.start N vs) H ρ O _ R (Q4f rl) ?_;unfold W9 at q;cases J:m (U.map zo ++ ba (N.length - U.length) zl) O with
 | rt v G=>rw [J] at q; exact λv H' ρ' x Y r=>q H' ρ' x Y v r
 | nx Γ G=>rw [J] at q; exact λa1 H' ρ' x' Y G'=>q H' ρ' x' Y .non rfl
 | bk Γ G=>rw [J] at q; exact q.elim
 | ct Γ G=>rw [J] at q; exact q.elim
 | stuck=>rw [J] at q; exact q.elim
 | exc y G=>rw [J] at q; exact q
end
theorem Q8t {P:aK} {w:aJ} {mg:zAE} {base:Heap} {qual:Str} {st:aM} {f:aB} {ps:List Str} {k nl:Nat} {m:MS} {FF:FN} (F:Fun K x qual st f fd) (S:FnScope N ps (Q7 st)) (J:ps.length=n) (G:N.length=nl) (I:FF=W9 m nl)
  (O:∀ (q:aA) (A:aL) (outer:List eP) (s:aC) (H:Hp) (E:XK),Room k (A.deeper (eQ qual (Q7 st) s.heap.objs.size f q))->SimB (cxD P w K mg base N qual (Q7 st) f q A outer s H E) E (Z1 st) m) :
  FnOk P w K mg base (CXD P w) (k + 1) f fd ps (spF mg n FF):=by
 subst J; subst G; subst I;exact Qng F S O
end Sm
namespace Sm
open PySem PySem.Spec PyProof.Rows L2
variable {X:Cx} {E:XK} {pos:Pos} {a b:aH} {ma mb:ME}
def mTR (ma:ME):ME:=λΓ st=>(ma Γ st).bind λp st1=>match p with
 | .int i=>if 0<=i/\i<=1000000 then .ok (.tup ((bY i.toNat).map λ(k:Nat)=>.int (k:Int))) st1 else .stuck
 | _=>.stuck
@[simp] theorem Qz3 (ma:ME) (Γ:Gam) (st:Q0):mTR ma Γ st=(ma Γ st).bind λp q=>match p with
 | .int i=>if 0<=i/\i<=1000000 then .ok (.tup ((bY i.toNat).map λ(k:Nat)=>.int (k:Int))) q else .stuck
 | _=>.stuck:=rfl
def Q4q (ma mb:ME):ME:=λΓ st=>(ma Γ st).bind λp st1=>(mb Γ st1).bind λq st2=>match q,p with
 | .int i,.tup xs=>if i=-1 then .ok (.tup xs.reverse) st2 else .stuck
 | _,_=>.stuck
theorem Qk8 {p2:Pos} (O:SimE X E a ma) (Y:SimE X E b mb):SimE X E (.Subscript a (.Slice zl zl (zo b) p2) pos) (Q4q ma mb):=
 ⟨λΓ σ H ρ st Q R G hq=>WE.of (Qm6 J1 J1) (O.use' R G hq.bind λp a2 H1 ρ1 v e1 x1 R1 G1 J h1=>Y.use' R1 G1 h1.bind λq U H2 a1 u e2 x2 R2 G2 I h2=>by
  split at h2
  ·rename_i i xs
   split at h2
   ·rename_i hi;subst hi;have eu:u=.int (-1):=I;subst eu;obtain ⟨c,vs,rfl,hc,nc,Z⟩:=J.ext x2;exact ⟨rfl,c,vs,rfl,SqT.of hc,qq R2 h2 Z.reverse⟩
   ·exact h2.elim
  ·exact h2.elim)⟩
@[simp] theorem Qw4 (ma mb:ME) (Γ:Gam) (st:Q0):Q4q ma mb Γ st=(ma Γ st).bind λp I=>(mb Γ I).bind λq G=>match q,p with
 | .int i,.tup xs=>if i=-1 then .ok (.tup xs.reverse) G else .stuck
 | _,_=>.stuck:=rfl
end Sm
namespace Sm
open PySem PySem.Spec L2
theorem Qbj {k:Nat} {A:aL} (r:Room k A):A.units + 9 < aQ:=by have:=r.un; omega
theorem Qer:aX "dict" = zo (.type "dict"):=by decide +kernel
end Sm
namespace Sm
open PySem PySem.Spec PyProof.Rows L2
variable {X:Cx} {E:XK}
theorem Qh0:OpR X (af .FloorDiv) (rI (λ_ j=>0 < j/\j < 1267650600228229401496703205376) λi j=>.int (i / j)):=opI λi j _ _ _ _ _ G q=>by
 have h1:(0:Int) < j:=G.1;have h2:j < 1267650600228229401496703205376:=G.2;refine floordiv_int (by omega) (by rw [Int.fdiv_eq_ediv_of_nonneg i (by omega)]; exact q) (.inl (PyProof.noPylong_of_log2 ?_));have:j.natAbs.log2 < 100:=(Nat.log2_lt (by omega)).mpr (by
  rw [show (2:Nat) ^ 100=1267650600228229401496703205376 by decide];omega)
 omega
def Qbq:OP:=λst p q=>match p,q with
 | .int a,.int b=>if 0 < b/\b < 1267650600228229401496703205376 then .ok (.int (a / b)) st else .stuck
 | _,_=>.stuck
theorem Qmd:OpS X E (af .FloorDiv) Qbq:=⟨λH ρ st p q x y Q R I G h=>by
 unfold Qbq at h
 split at h
 ·cases I; cases G
  split at h
  ·rename_i J;exact WO.of Qh0 ⟨_,_,rfl,rfl,J,now R h rfl⟩
  ·exact h.elim
 ·exact h.elim⟩
@[simp] theorem Qtx (st:Q0) (a b:Int):Qbq st (.int a) (.int b)=if 0 < b/\b < 1267650600228229401496703205376 then .ok (.int (a / b)) st else .stuck:=rfl
end Sm
namespace Sm
open PySem PySem.Spec L2
variable {H:Hp} {ρ:Tk} {p:PV} {v:V} {st:Q0}
theorem Q9a:aX "sorted" = zo (.builtin "sorted"):=by decide +kernel
def Yc (f:PV->Option HK):List PV->Option (List HK)
 | []=>zo []
 | p :: ps=>match f p,Yc f ps with
  | some k,zo l=>zo (k :: l)
  | _,_=>zl
def Vj:Nat->PV->Option HK
 | _,.int i=>zo (.int i)
 | _,.str x=>zo (.str x)
 | d + 1,.tup ps=>(Yc (Vj d) ps).map .tup
 | _,_=>zl
theorem Qi1 :∀ (d:Nat) {p:PV} {k:HK} {v:V},Vj d p=zo k->Rep H ρ p v->KAt H k v/\Dp d k:=by
 intro d
 induction d with
 | zero=>
  intro p k v e r;cases p with
  | int i=>cases e; exact ⟨r,trivial⟩
  | str i=>cases e; exact ⟨r,trivial⟩
  | _=>cases e
 | succ d ih=>
  intro p k v e r;cases p with
  | int i=>cases e; exact ⟨r,trivial⟩
  | str i=>cases e; exact ⟨r,trivial⟩
  | tup ps=>
   obtain ⟨a,vs,rfl,Y,_,O⟩:=r;have I:∀ {ps:List PV} {l:List HK} {vs:List V},Yc (Vj d) ps=zo l->RepL H ρ ps vs->KAtL H l vs/\∀ k∈l,Dp d k:=by
    intro ps
    induction ps with
    | nil=>intro l vs e r; cases e; exact ⟨r,λk Z=>nomatch Z⟩
    | cons p ps G=>
     intro l vs e ⟨v,t,J,r1,r2⟩;unfold Yc at e
     split at e
     ·rename_i k l' U e3;cases e;obtain ⟨h1,h2⟩:=ih U r1;obtain ⟨h3,h4⟩:=G e3 r2;exact ⟨⟨v,t,J,h1,h3⟩,λx q=>by rcases D5.mp q with rfl | q; exact h2; exact h4 x q⟩
     ·cases e
   unfold Vj at e;cases z:Yc (Vj d) ps with
   | none=>rw [z] at e; cases e
   | some l=>
    rw [z] at e;cases e;obtain ⟨h1,h2⟩:=I z O;exact ⟨⟨a,vs,rfl,Y,h1⟩,h2⟩
  | _=>cases e
def Xs:PV->Option HK
 | .tup ps=>Vj 5 (.tup ps)
 | _=>zl
theorem V4 {k:HK} (e:Xs p=zo k) (r:Rep H ρ p v):∃ b,v=.ref b/\KR H k b:=by
 cases p with
 | tup ps=>
  have h:=Qi1 5 e r;obtain ⟨b,vs,rfl,_⟩:=r;exact ⟨b,rfl,h⟩
 | _=>cases e
def putT (kvs:List (HK × PV)) (k:HK) (v:PV):List (HK × PV):=
 if (kvs.any λkv=>decide (kv.1=k))=zb then kvs.map (λkv=>if kv.1=k then (kv.1,v) else kv) else kvs ++ [(k,v)]
theorem Q7q {G:List (HK × PV)} {vs:List (HK × V)} (r:RepD H ρ G vs) (k:HK) (Y:Rep H ρ p v):RepD H ρ (putT G k p) (Xe vs k v):=by
 have ha:(G.any λkv=>decide (kv.1=k))=vs.any λkv=>decide (kv.1=k):=by
  have I:(G.any λkv=>decide (kv.1=k))=(G.map bq).any λx=>decide (x=k):=by rw [dN]; rfl
  have J:(vs.any λkv=>decide (kv.1=k))=(vs.map bq).any λx=>decide (x=k):=by rw [dN]; rfl
  rw [I,J,r.1]
 unfold putT Xe;rw [<- ha]
 by_cases q:(G.any λkv=>decide (kv.1=k))=zb
 ·rw [bT q,bT q];have O:∀ (G:List (HK × PV)) (vs:List (HK × V)),RepD H ρ G vs->RepD H ρ (G.map λkv=>if kv.1=k then (kv.1,p) else kv) (vs.map λkv=>if kv.1=k then (kv.1,v) else kv):=by
   intro G
   induction G with
   | nil=>
    intro vs r;cases vs with
    | nil=>exact r
    | cons _ _=>have:=r.length; cases this
   | cons a G ih=>
    intro vs r;cases vs with
    | nil=>have:=r.length; cases this
    | cons b vs=>
     obtain ⟨r1,x,t,e,r2,Z⟩:=r;obtain ⟨I,J⟩:=cj (show b.1 :: vs.map bq=a.1 :: G.map bq from r1);obtain ⟨e3,e4⟩:=cj (show b.2 :: vs.map cW=x :: t from e);subst e3; subst e4;obtain ⟨i1,i2⟩:=ih vs ⟨J,Z⟩;rw [D3,D3]
     by_cases z:a.1=k
     ·have U:b.1=k:=I.trans z;rw [bT z,bT U];exact ⟨by rw [D3,D3,i1]; show b.1 :: _=a.1 :: _; rw [I],RepL.cons Y i2⟩
     ·have U:¬ b.1=k:=λh=>z (I.symm.trans h)
      rw [bU z,bU U];exact ⟨by rw [D3,D3,i1]; show b.1 :: _=a.1 :: _; rw [I],RepL.cons r2 i2⟩
  exact O G vs r
 ·rw [bU q,bU q];refine ⟨?_,?_⟩
  ·rw [E4,E4,r.1]; rfl
  ·rw [E4,E4];exact r.2.append (RepL.cons Y RepL.nil)
variable {X:Cx} {E:XK} {pos dpos tpos:Pos} {e o k:aH} {m mi mo:ME}
section
variable {i:aH} {mk:ME}
def Q2t:ME:=λΓ st=>.ok (.ref st.length) (st ++ [.dtp []])
theorem Q7f:SimE X E (.Dict [] [] dpos) Q2t:=⟨λΓ σ H ρ st Q R G h=>WE.of Qgq λd hd=>by
 have x:Ext H ρ (upd H d (.dT [])) (ρ.add d):=Ext.addT hd;refine h _ _ x (R.addC hd ⟨_,Qt,rfl,rfl⟩) _ ⟨d,?_,rfl⟩;show (ρ.tr ++ [d])[st.length]?=zo d;rw [<- R.len,D6 (O5 _),bu]; rfl⟩
def Wf (st:Q0):PV->Option (List (HK × PV))
 | .ref i=>match st[i]? with
  | some (.dtp kvs)=>zo kvs
  | _=>zl
 | _=>zl
theorem V5 {q:List (HK × PV)} (R:Rel H ρ st) (r:Rep H ρ p v) (e:Wf st p=zo q):∃ i a vs,p=.ref i/\v=.ref a/\ρ.tr[i]?=zo a/\st[i]?=zo (.dtp q)/\H a=zo (.dT vs)/\RepD H ρ q vs:=by
 cases p with
 | ref i=>
  obtain ⟨a,J,rfl⟩:=r;unfold Wf at e;cases z:st[i]? with
  | none=>simp only [z] at e; cases e
  | some c=>
   simp only [z] at e;cases c with
   | dtp G=>
    cases e;obtain ⟨b,vs,I,U,O⟩:=R.dtp z;rw [J] at I;cases I;exact ⟨i,a,vs,rfl,rfl,J,z,U,O⟩
   | lst xs=>cases e
   | dic xs=>cases e
   | frd xs=>cases e
   | obj C xs=>cases e
 | _=>cases e
def yk (st:Q0) (p q v:PV):Option Q0:=match p with
 | .ref n=>match Wf st (.ref n),Xs q with
  | some kvs,zo k=>if kvs.length < lim then zo (st.set n (.dtp (putT kvs k v))) else zl
  | _,_=>zl
 | _=>zl
def Xp (mo mi m:ME):MS:=λΓ st=>(m Γ st).sbind λv st1=>(mo Γ st1).sbind λp st2=>(mi Γ st2).sbind λq st3=>match yk st3 p q v with
 | some st4=>.nx Γ st4
 | none=>.stuck
theorem Q78 (hu:X.A.units + 9 < aQ) (he:SimE X E e m) (ho:SimE X E o mo) (hi:SimE X E i mi) (hs:swapsWith e (zo (.Subscript o i tpos)) pos.line X.env=pure yo:=by rfl):SimS X E (.Assign [.Subscript o i tpos] e pos) (Xp mo mi m):=
 ⟨λΓ σ H ρ st D R G h=>WS.of (Qkt hu J1 J1 J1 hs) (he.use R G h.bind λv a4 H1 ρ1 z x1 R1 G1 r1 h1=>ho.use R1 G1 h1.bind λp a2 H2 a3 x x2 R2 G2 r2 h2=>hi.use R2 G2 h2.bind λq J Y I y x3 R3 G3 r3 O=>by
  cases es:yk J p q v with
  | none=>rw [es] at O; exact O.elim
  | some a5=>
   rw [es] at O;unfold yk at es
   split at es
   ·rename_i n
    split at es
    ·rename_i a1 k e1 e2
     split at es
     ·rename_i hl;cases es;obtain ⟨n',a,vs,en,rfl,ea,a6,hb,rd⟩:=V5 R3 (r2.ext x3) e1;cases en;obtain ⟨b,rfl,Z⟩:=V4 e2 r3;have U:Ext Y I (upd Y a (.dT (Xe vs k z))) I:=Ext.put (E6 ea) hb;have rz:=(r1.ext (x2.trans x3)).ext U;have R4:Rel (upd Y a (.dT (Xe vs k z))) I (J.set n (.dtp (putT a1 k v))):=R3.putC ea hb ⟨_,Qt,Q7q (rd.ext U) k rz⟩;refine ⟨a,_,rfl,DPut.t hb Z (by rw [<- rd.length]; exact D1 hl Q66),O σ _ I U R4 (G3.ext U)⟩
     ·cases es
    ·cases es
   ·cases es)⟩
def K2:CF:=λst ps=>match ps with
 | [p]=>match Wf st p with
  | some kvs=>if kvs.length < 1000000 then .ok (.int (kvs.length:Nat)) st else .stuck
  | none=>.stuck
 | _=>.stuck
theorem Qns:CallS X E (.builtin "len") K2:=⟨λH ρ st ps xs Q R O h=>by
 unfold K2 at h
 split at h
 ·rename_i p;obtain ⟨v,rfl,r⟩:=Zd O
  split at h
  ·rename_i I e
   split at h
   ·rename_i q;obtain ⟨n,a,vs,rfl,rfl,_,_,J,G⟩:=V5 R r e;rw [G.length] at h q;exact WC.of Qav ⟨a,vs,rfl,J,q,now R h rfl⟩
   ·exact h.elim
  ·exact h.elim
 ·exact h.elim⟩
def X9 (kvs:List (HK × PV)) (k:HK):Option PV:=(kvs.find? λkv=>decide (kv.1=k)).map (·.2)
theorem zm {H:Hp} {ρ:Tk} (k:HK):∀ {q:List (HK × PV)} {vs:List (HK × V)},RepD H ρ q vs->(X9 q k=zl/\j6 vs k=zl)\/∃ p v,X9 q k=zo p/\j6 vs k=zo v/\Rep H ρ p v
 | [],[],_=>.inl ⟨rfl,rfl⟩
 | [],b :: vs,r=>by have:=r.length; cases this
 | a :: q,[],r=>by have:=r.length; cases this
 | a :: q,b :: vs,r=>by
  obtain ⟨Z,x,t,e,Y,J⟩:=r;obtain ⟨I,O⟩:=cj (show b.1 :: vs.map bq=a.1 :: q.map bq from Z);obtain ⟨e3,U⟩:=cj (show b.2 :: vs.map cW=x :: t from e);subst e3; subst U;unfold X9 j6;rw [cT,cT]
  by_cases z:a.1=k
  ·have G:b.1=k:=I.trans z;rw [bW z,bW G];exact .inr ⟨a.2,b.2,rfl,rfl,Y⟩
  ·have G:¬ b.1=k:=λh=>z (I.symm.trans h)
   rw [bV z,bV G];exact zm k ⟨O,J⟩
def ju (neg:Bool):OP:=λst p q=>match Wf st q,Xs p with
 | some kvs,zo k=>.ok (.bl ((X9 kvs k).isSome != neg)) st
 | _,_=>.stuck
theorem Qrz (hu:X.A.units + 9 < aQ):OpS X E (aU .In) (ju yo):=⟨λH ρ st p q x y Q R rp rq h=>by
 unfold ju at h
 split at h
 ·rename_i G k U e2;obtain ⟨n,a,vs,rfl,rfl,_,_,hb,rd⟩:=V5 R rq U;obtain ⟨b,rfl,kr⟩:=V4 e2 rp;intro pins s σ v u I Z ru;cases ru;refine Qzc hu I (DGet.t hb kr) Z λs' Y=>⟨.bl _,H,Y,rfl,?_⟩
  have:(j6 vs k).isSome=(X9 G k).isSome:=by
   rcases zm k rd with ⟨O,J⟩ | ⟨p,v,O,J,_⟩ <;> rw [O,J] <;> rfl
  rw [this];rw [dM] at h;exact now R h rfl
 ·exact h.elim⟩
theorem Qdk (hu:X.A.units + 9 < aQ):OpS X E (aU .NotIn) (ju zb):=⟨λH ρ st p q x y Q R rp rq h=>by
 unfold ju at h
 split at h
 ·rename_i G k U e2;obtain ⟨n,a,vs,rfl,rfl,_,_,hb,rd⟩:=V5 R rq U;obtain ⟨b,rfl,kr⟩:=V4 e2 rp;intro pins s σ v u I Z ru;cases ru;refine Qnq hu I (DGet.t hb kr) Z λs' Y=>⟨.bl _,H,Y,rfl,?_⟩
  have:(j6 vs k).isSome=(X9 G k).isSome:=by
   rcases zm k rd with ⟨O,J⟩ | ⟨p,v,O,J,_⟩ <;> rw [O,J] <;> rfl
  rw [this];have hh:((X9 G k).isSome != zb)=!(X9 G k).isSome:=by cases (X9 G k).isSome <;> rfl
  rw [hh] at h;exact now R h rfl
 ·exact h.elim⟩
theorem Q12 (R:Rel H ρ st) (b:aB) (xs:List V) (h:H b=zo (.tup xs)):b∉ρ:=λz=>by
 rcases z with z | z
 ·obtain ⟨i,hi,e⟩:=G6 z;have hs:i < st.length:=by rw [<- R.len]; exact hi
  have q:=R.cell i b st[i] (by rw [O3 hi,e]) (O3 hs);cases G:st[i] with
  | lst xs=>rw [G] at q; obtain ⟨vs,h1,_⟩:=q; rw [h] at h1; cases h1
  | dic xs=>rw [G] at q; obtain ⟨vs,h1,_⟩:=q; rw [h] at h1; cases h1
  | dtp xs=>rw [G] at q; obtain ⟨vs,h1,_⟩:=q; rw [h] at h1; cases h1
  | frd xs=>rw [G] at q; obtain ⟨vs,⟨_,h1⟩,_⟩:=q; rw [h] at h1; cases h1
  | obj C xs=>rw [G] at q; obtain ⟨vs,⟨_,h1⟩,_⟩:=q; rw [h] at h1; cases h1
 ·obtain ⟨o,h1,h2⟩:=R.hd b z;rw [h] at h1;cases h1;exact h2 xs rfl
end
variable {H0 H:Hp} {ρ0 ρ:Tk} {st:Q0} {a:aB} {ps:List (HK × PV)} {vs:List (HK × V)}
theorem Qgv (R0:Rel H0 ρ0 st) (x:Ext H0 ρ0 H ρ) {G:Q0} (R:Rel H ρ G) (hm:a∈ρ.hid) (hn:H0 a=zl) (ha:H a=zo (.dT vs)) (r:RepD H ρ ps vs) :
  Ext H0 ρ0 H ⟨ρ.tr ++ [a],ρ0.hid⟩/\Rel H ⟨ρ.tr ++ [a],ρ0.hid⟩ (G ++ [.dtp ps])/\Rep H ⟨ρ.tr ++ [a],ρ0.hid⟩ (.ref G.length) (.ref a):=by
 have Y:a∉ρ0.hid:=λz=>by
  obtain ⟨o,e,_⟩:=R0.hd a z;rw [hn] at e; cases e
 refine ⟨⟨x.pre.trans (eN _ _),λ_ h=>h,λ_ h=>.inl h,x.keep,λb O=>?_,x.old,x.frz⟩,⟨?_,?_,λb O=>R.hd b (x.hidM b O),λb O z=>?_,λi b c h1 h2=>?_⟩,a,?_,rfl⟩
 ·rcases D9.mp O with z | z
  ·exact x.new b z
  ·have:b=a:=by simpa using z
   subst this; exact .inr hn
 ·show (ρ.tr ++ [a]).length=_;rw [O6,O6,R.len]; rfl
 ·show (ρ.tr ++ [a]).Nodup;refine cV.mpr ⟨R.nd,by simp,λb O c hc e=>?_⟩;have:c=a:=by simpa using hc
  subst this; subst e;exact R.ap b hm O
 ·rcases D9.mp z with z | z
  ·exact R.ap b (x.hidM b O) z
  ·have:b=a:=by simpa using z
   subst this; exact Y O
 ·have h1:(ρ.tr ++ [a])[i]?=zo b:=h1
  by_cases hi:i < G.length
  ·rw [O8 (by rw [R.len]; exact hi)] at h1;rw [O8 hi] at h2;have q:=R.cell i b c h1 h2;cases c with
   | lst U=>
    obtain ⟨us,J,I⟩:=q;exact ⟨us,J,I.trk hm x.hidM⟩
   | dic U=>
    obtain ⟨us,J,I⟩:=q;exact ⟨us,J,I.1,I.2.trk hm x.hidM⟩
   | dtp U=>
    obtain ⟨us,J,I⟩:=q;exact ⟨us,J,I.1,I.2.trk hm x.hidM⟩
   | frd U=>
    obtain ⟨us,J,I⟩:=q;exact ⟨us,J,I.1,I.2.trk hm x.hidM⟩
   | obj C U=>
    obtain ⟨us,J,I⟩:=q;exact ⟨us,J,I.1,I.2.trk hm x.hidM⟩
  ·rw [D6 (by rw [R.len]; omega)] at h1;rw [D6 (by omega)] at h2;have Z:i - G.length=0:=by
    rcases fg (i - G.length) with z | z
    ·exact z
    ·rw [G9 (by simp; omega)] at h2; cases h2
   rw [R.len,Z] at h1;rw [Z] at h2;simp at h1 h2;subst h1; subst h2;exact ⟨vs,ha,r.1,r.2.trk hm x.hidM⟩
 ·show (ρ.tr ++ [a])[G.length]?=zo a;rw [<- R.len,D6 (O5 _),bu]; rfl
section
variable {mk:ME}
def Qas (st:Q0) (pv pk:PV):Res PV:=match Xs pk with
 | some ks=>.ok (.ref st.length) (st ++ [.dtp [(ks,pv)]])
 | none=>.stuck
def qt (mk m:ME):ME:=λΓ st=>(mk Γ st).bind λpk st1=>(m Γ st1).bind λpv st2=>Qas st2 pv pk
theorem Qd8 (hu:X.A.units + 9 < aQ) (hk:SimE X E k mk) (he:SimE X E e m):SimE X E (.Dict [zo k] [e] dpos) (qt mk m):=by
 refine ⟨λΓ σ H ρ st Q R G h=>WE.of (Qdj (by omega) J1 J1) ?_⟩;intro p O;have x0:Ext H ρ (upd H p (.dT [])) (ρ.hide p):=Ext.hide O;refine hk.use' (R.hide O) (G.hide O) (h.bind.later x0) λa1 a3 H1 ρ1 v1 f1 x1 R1 G1 r1 _=>?_
 have h:=h;unfold qt at h;rw [f1] at h;have h:Acc X.mg E H ρ (QV Q) ((m Γ a3).bind λpv q=>Qas q pv a1):=h
 refine he.use' R1 G1 (h.bind.later (x0.trans x1)) λa2 q H2 I Z f2 x2 R2 G2 r2 _=>?_
 rw [f2] at h;have h:Acc X.mg E H ρ (QV Q) (Qas q a2 a1):=h;unfold Qas at h
 split at h
 ·rename_i ks ek;obtain ⟨b,rfl,kr⟩:=V4 ek (r1.ext x2);have xe:Ext (upd H p (.dT [])) (ρ.hide p) H2 I:=x1.trans x2;have U:p∉(ρ.hide p).tr:=λz=>R.fresh O (.inl z)
  have Y:H2 p=zo (.dT []):=xe.keep p _ Qt U;have J:p∈I.hid:=xe.hidM p F3;refine ⟨ks,b,Z,rfl,kr,Y,?_⟩;have y:Ext H ρ (upd H2 p (.dT [(ks,Z)])) I:=(x0.trans xe).put0 O;have g2:=r2.rehide (o:=.dT [(ks,Z)]) J;obtain ⟨x5,R5,r5⟩:=Qgv (ps:=[(ks,a2)]) R y (R2.rehide J) J O Qt ⟨rfl,RepL.cons g2 RepL.nil⟩;exact h _ _ x5 R5 _ r5
 ·exact h.elim
@[simp] theorem Qsk (Γ:Gam) (st:Q0):qt mk m Γ st=(mk Γ st).bind λI G=>(m Γ G).bind λpv q=>Qas q pv I:=rfl
end
end Sm
namespace Sm
open PySem PySem.Spec PyProof.Rows L2
end Sm
namespace Sm
open PySem PySem.Spec L2 SeqAt
end Sm
namespace L2
open PySem PySem.Spec PyProof.Rows
end L2
namespace Sm
open PySem PySem.Spec PyProof.Rows L2
end Sm
namespace Sm
open PySem PySem.Spec L2
end Sm
namespace Sm
open PySem PySem.Spec PyProof.Rows L2
end Sm
namespace Sm
open PySem PySem.Spec L2
section
variable {X:Cx} {E:XK} {pos:Pos} {tg:aH} {e a b:aH} {m ma mb:ME}
def Qdt:OP:=λst p q=>match p,q with
 | .int a,.int b=>.ok (.bl (decide (a<=b))) st
 | .str a,.str b=>.ok (.bl (!decide (b.cps.toList < a.cps.toList))) st
 | _,_=>.stuck
theorem Qry:OpS X E (aU .LtE) Qdt:=⟨λH ρ st p q x y Q R I G h=>by
 unfold Qdt at h
 split at h
 ·cases I; cases G;exact WO.of Qpm ⟨_,_,rfl,rfl,now R h rfl⟩
 ·cases I; cases G;exact WO.of Qdn ⟨_,_,rfl,rfl,now R h rfl⟩
 ·exact h.elim⟩
def Qmm:OP:=λst p q=>match p,q with
 | .str z,.int i=>match atI z.cps.toList i with
  | some c=>if z.length<=lim then .ok (.str ⟨#[c]⟩) st else .stuck
  | none=>.stuck
 | _,_=>.stuck
theorem Qqv (I:SimE X E a ma) (hb:SimE X E b mb) (hs:Q6y b:=by exact λ_ _=>rfl):SimE X E (.Subscript a b pos) (mOp Qmm ma mb):=
 ⟨λΓ σ H ρ st Q R G h=>WE.of (Qpj Qhu J1 J1 hs) (I.use R G h.bind λp J H1 ρ1 v x1 O Z r1 h1=>hb.use O Z h1.bind λq a1 H2 Y u x2 R2 G2 U h2=>by
  unfold Qmm at h2
  split at h2
  ·rename_i z i;cases r1; cases U
   split at h2
   ·rename_i c ec
    split at h2
    ·rename_i hl;exact .inr (.inr ⟨z,i,c,rfl,rfl,Zz hl,ec,now R2 h2 rfl⟩)
    ·exact h2.elim
   ·exact h2.elim
  ·exact h2.elim)⟩
def K6 (x:Str):List PV:=x.cps.toList.map λc=>.str ⟨#[c]⟩
def Qbv (m:ME):MI:=λΓ st=>(m Γ st).bind λp st1=>match p with
 | .str x=>if x.length<=lim then .ok (K6 x,[]) st1 else .stuck
 | _=>.stuck
theorem Qju {H:Hp} {ρ:Tk} (x:Str):Src (Qtp x) (K6 x) [] H ρ:=by
 have Y:(K6 x).length=x.cps.size:=by unfold K6; rw [O1,be]
 refine ⟨λH2 q G _ _ _=>?_,λH2 q G _ _ _ i hi=>?_,λH2 q G _ _ _ i p I y U J=>?_⟩
 ·show x.cps.size<=_; omega
 ·show i < x.cps.size; omega
 ·obtain ⟨rfl,c,O,rfl⟩:=J;refine ⟨Same.refl _,?_⟩;unfold K6 at I;rw [D7,bh,O] at I;cases I;exact rfl
theorem Qqm (U:SimE X E e m):SimI X E tg e (Qbv m):=⟨λΓ σ H ρ st P R' R G h k=>by
 have Z:Acc X.mg E H ρ _ (m Γ st):=Acc.bind h;refine WI.of (Qrg J1) (U.use' R G Z λp q H1 ρ1 v eq x1 J Y r1 h1=>?_)
 split at h1
 ·rename_i x
  split at h1
  ·rename_i O;cases r1;have I:(K6 x).length<=lim:=by unfold K6; rw [O1,be]; exact O
   exact ⟨x,rfl,k (K6 x,[]) q H1 ρ1 _ (by simp only [Qbv,eq,Res.bind,bT O]) x1 J Y (J4 _) (Zz I) (Qju x) (h1 H1 ρ1 (Ext.refl _ _) J)⟩
  ·exact h1.elim
 ·exact h1.elim⟩
def Q0f:List PV->Option (List Str)
 | []=>zo []
 | .str x :: r=>(Q0f r).map (x :: ·)
 | _ :: _=>zl
theorem Q4b {H:Hp} {ρ:Tk}:∀ {ps:List PV} {ss:List Str} {vs:List V},Q0f ps=zo ss->RepL H ρ ps vs->vs=ss.map V.str
 | [],_,_,e,r=>by cases e; exact r
 | .str x :: ps,_,_,e,⟨v,t,q,G,I⟩=>by
  have e:(Q0f ps).map (x :: ·)=zo _:=e;cases z:Q0f ps with
  | none=>rw [z] at e; cases e
  | some l=>
   rw [z] at e;cases e;rw [q,Q4b z I,show v=V.str x from G];rfl
def Qh8 (sep:Str) (st:Q0) (ps:List PV):Res PV:=match ps with
 | [p]=>match (Ys st p).bind Q0f with
  | some ss=>if JoinOk sep ss=zb then .ok (.str (Txt.join sep ss)) st else .stuck
  | none=>.stuck
 | _=>.stuck
def Qbx (mo:ME) (mr:Gam->Q0->Res (List PV)):ME:=λΓ st=>(mo Γ st).bind λp st1=>match p with
 | .str sep=>(mr Γ st1).bind λps st2=>Qh8 sep st2 ps
 | _=>.stuck
variable {o:aH} {es:List aH} {mo:ME} {mr:Gam->Q0->Res (List PV)} {apos cpos:Pos}
theorem Qk9 (ho:SimE X E o mo) (ha:SimA X E (e :: es) mr)
  (J:bP o "join" X.env (aO o X.env)=aO o X.env:=by rfl)
  (U:((ae cpos (aN (e :: es) X.env)).all (λx=>!x.1) && (backToKw cpos (keywordEach [] X.env)).all (λx=>x.1.isSome)
   && decide ((e :: es).length + ([]:List Keyword).length + (if ([]:List Keyword).isEmpty then 0 else 1) < 30))=zb:=by rfl)
  (O:(apos.endLine == cpos.line)=zb:=by rfl) (hs:aN (e :: es) X.env=(yo,aO e X.env) :: aN es X.env:=by rfl) (I:(ae cpos (aN es X.env)).any (·.1)=yo:=by rfl) :
  SimE X E (.Call (.Attribute o "join" apos) (e :: es) [] cpos) (Qbx mo mr):=
 ⟨λΓ σ H ρ st Q R G h=>WE.of (Qpk PySem.F.plainAttrs_str PySem.F.slot_str_join PySem.F.type_str_join Qmp J1 Q0u J U O hs I) (ho.use R G h.bind λp a3 H1 ρ1 v x1 R1 G1 r1 h1=>by
  split at h1
  ·rename_i Y;cases r1;refine ⟨rfl,ha.use R1 G1 h1.bind λps a1 H2 a2 us x2 R2 G2 r2 h2=>?_⟩;unfold Qh8 at h2
   split at h2
   ·rename_i q;obtain ⟨y,rfl,ry⟩:=Zd r2
    split at h2
    ·rename_i ss es
     split at h2
     ·rename_i hz;cases Z:Ys a1 q with
      | none=>rw [Z] at es; cases es
      | some xs=>
       rw [Z] at es;obtain ⟨c,vs,rfl,hc,rc⟩:=W6 R2 ry Z;rw [Q4b es rc] at hc;exact ⟨Y,c,ss,rfl,rfl,.inl hc,hz,now R2 h2 rfl⟩
     ·exact h2.elim
    ·exact h2.elim
   ·exact h2.elim
  ·exact h1.elim)⟩
end
end Sm
namespace L2
open PySem PySem.Spec PyProof.Rows PySem.W
def SzS (h:Heap) (a:aB) (n:Nat):Prop:=∃ o es ep t,h.get? a=zo o/\o.ExactSet/\o.data=.set es ep t/\t.fits es.size=zb/\es.size=n
def Qe8 (a:aB) (n:Nat):HO:=.ext λh=>SzS h a n
variable {X:Cx}
theorem Qen (Y:X.A.units + 9 < aQ) (hc:X.calm=zb):Wg X (.type "set") (λxs H Q=>∃ p vs,∃ ks:List HK,xs=[.ref p]/\SqT X.K H p vs/\aR (λv k=>∃ b,v=.ref b/\KR H k b) vs ks/\ks.length<=76/\∀ l,H l=zl->Q (.ref l) (upd H l (Qe8 l (Zx ks).length))):=by
 intro pins s σ H xs us Q I r h;obtain ⟨p,vs,ks,rfl,hq,U,hl,q⟩:=h;obtain ⟨u,rfl,J⟩:=U5 r;cases J;obtain ⟨its,O,pl,hz⟩:=I.tuple hq;have G:its.length=ks.length:=by rw [<- O.length,Paired.length U]
 refine ja (B:=λ_=>True) (ks:=ks) Y (I.ok.hd hc) pl (by rw [O7,G]) (λi v e=>?_) hl λh' tk gh k=>?_
 ·have e:its[i]?=zo v:=by simpa using e
  have hi:i < vs.length:=by have:=(O2.mp e).1; rw [O.length]; exact this
  obtain ⟨x,ex,J⟩:=O.get (O3 hi);rw [e] at ex; cases ex;obtain ⟨k,ek,b,Z,hb⟩:=Xf U (O3 hi);rw [Z] at J;cases J;exact ⟨k,b,ek,rfl,Ve I.hok hb,trivial⟩
 ·obtain ⟨o,es,ep,t,h1,h2,h3,⟨a1,p1,r1⟩,h5,h6⟩:=gh;have sz:SzS h' s.heap.objs.size (Zx ks).length:=⟨o,es,ep,t,h1,h2,h3,by have:=h6.fits; rwa [O1,be] at this,by rw [<- be,Paired.length r1,p1.length_eq]⟩;refine ⟨.ref s.heap.objs.size,upd H s.heap.objs.size (Qe8 s.heap.objs.size (Zx ks).length),I.laid (t':=tk) k (O5 _) ⟨sz,⟨o,h1⟩,λh1 h2 z kk=>?_⟩,rfl,q _ (I.hok.fresh (O5 _))⟩
  obtain ⟨o,es,ep,t,g1,g2⟩:=z;exact ⟨o,es,ep,t,kk _ g1,g2⟩
theorem Qeq:Wg X (.builtin "len") (λxs H Q=>∃ p n,xs=[.ref p]/\H p=zo (Qe8 p n)/\n<=4000/\Q (.int n) H):=by
 intro pins s σ H xs us Q I r h;obtain ⟨p,n,rfl,J,Y,q⟩:=h;obtain ⟨u,rfl,O⟩:=U5 r;cases O;obtain ⟨⟨o,es,ep,t,h1,h2,U,G,rfl⟩,_,_⟩:=I.hok p _ J;exact call_len_set h1 h2 U G (by omega) ⟨.int _,H,I.tok _,⟨s.toks + 1,rfl⟩,q⟩
theorem Q3c (hc:X.calm=zb):Wg X (.type "list") (λxs H Q=>∃ a,∃ G:List (HK × V),xs=[.ref a]/\H a=zo (.dT G)/\∀ d vs,H d=zl->aR (λv (p:HK × V)=>∃ b,v=.ref b/\KR H p.1 b) vs G->Q (.ref d) (upd H d (.lst vs))):=by
 intro pins s σ H xs us Q I r h;obtain ⟨a,G,rfl,ea,q⟩:=h;obtain ⟨u,rfl,rx⟩:=U5 r;cases rx;obtain ⟨z,hs,es,ep,J,Y,U,O⟩:=Qap I.hok ea;have l1:G.length=J.length:=Paired.length O;have l2:es.size=J.length:=by
  have:=congrArg dA U;simpa using this
 refine kdl_call (Qbg hs) (I.ok.hd hc) Y (by omega) λh' tk acc c k1 k2 k3=>?_
 have e:acc.toList=J.map bZ:=by
  rw [<- U];apply cU;intro i
  by_cases z:i < es.size
  ·have hi:i < acc.size:=by rw [k3.1]; exact z
   obtain ⟨e,h1,h2⟩:=k3.2 i acc[i] (bi hi);rw [bh,bi hi,h2,D7,bh,h1]; rfl
  ·rw [bh,cg (by rw [k3.1]; omega),D7,bh,cg (by omega)]; rfl
 have hv:Vals (J.map V.ref) acc.toList:=by
  rw [e];clear e O l1 l2 U
  induction J with
  | nil=>exact .nil
  | cons x l Z=>exact .cons rfl Z
 have hp:aR (λv (p:HK × V)=>∃ b,v=.ref b/\KR H p.1 b) (J.map V.ref) G:=by
  clear e hv k3 k2 k1 U l1 l2 q ea z
  induction O with
  | nil=>exact .nil
  | cons Y _ Z=>exact .cons ⟨_,rfl,Y⟩ Z
 refine ⟨.ref s.heap.objs.size,_,I.laid (t':=tk) (o:=.lst (J.map V.ref)) k1 (O5 _) ⟨by rw [O1]; omega,acc.toList,c,hv,?_⟩,rfl,q _ _ (I.hok.fresh (O5 _)) hp⟩;rw [Array.toArray_toList]; exact k2
end L2
namespace Sm
open PySem PySem.Spec L2
variable {H:Hp} {ρ:Tk} {K:bX} {mg:zAE} {h:Heap} {st s:aM} {ps:List Str} {f:aB} {oc:aA} {P:aK} {fd:aP} {k:Nat} {F:FN} {α:Type}
variable {X:Cx} {E:XK} {a b:aH} {ma mb:ME} {pos:Pos}
def y9 (ma:ME):ME:=λΓ st=>(ma Γ st).bind λp st1=>match p with
 | .tup ps=>match Yc Xs ps with
  | some ks=>if ks.length<=76 then .ok (.int (Zx ks).length) st1 else .stuck
  | none=>.stuck
 | _=>.stuck
theorem Q8c {H:Hp} {ρ:Tk}:∀ {ps:List PV} {ks:List HK} {vs:List V},Yc Xs ps=zo ks->RepL H ρ ps vs->aR (λv k=>∃ b,v=.ref b/\KR H k b) vs ks
 | [],_,_,e,r=>by cases e; cases r; exact .nil
 | p :: ps,_,_,e,⟨v,t,q,G,I⟩=>by
  unfold Yc at e
  split at e
  ·rename_i k l J e3;cases e;rw [q];exact .cons (V4 J G) (Q8c e3 I)
  ·cases e
theorem Q9n {p p' pos':Pos} (hu:X.A.units + 9 < aQ) (ha:SimE X E a ma) (hc:X.calm=zb) (hg:Gl X "len") (hm:X.mg "len" = zl) (U:Gl X "set") (O:X.mg "set" = zl) (hb:aX "set" = zo (.type "set")) (Z:aN [a] X.env=(yo,aO a X.env) :: aN [] X.env:=by rfl)
  (I:aN [.Call (.Name "set" p') [a] [] pos'] X.env=(yo,aO (.Call (.Name "set" p') [a] [] pos') X.env) :: aN [] X.env:=by rfl):SimE X E (.Call (.Name "len" p) [.Call (.Name "set" p') [a] [] pos'] [] pos) (y9 ma):=
 ⟨λΓ σ H ρ st Q R G hq=>WE.of (zq Qeq hg hm ic (W3 (X2 (Qen hu hc) U O hb (W3 J1 Us Z) (by decide) (by decide) Z rfl) Us I) (by decide) (by decide) I rfl) (ha.use' R G hq.bind λq a1 H1 ρ1 v e1 x1 R1 G1 r1 h1=>by
  split at h1
  ·rename_i ps
   split at h1
   ·rename_i ks ek
    split at h1
    ·rename_i hl;obtain ⟨c,vs,rfl,J,_,rc⟩:=r1;refine ⟨c,vs,ks,rfl,SqT.of J,Q8c ek rc,hl,λl Y=>⟨l,_,rfl,Qt,E1 (Vy ks) (by omega),?_⟩⟩
     exact h1 _ _ (Ext.hide Y) (R1.hide Y) _ rfl
    ·exact h1.elim
   ·exact h1.elim
  ·exact h1.elim)⟩
@[simp] theorem Qpq (ma:ME) (Γ:Gam) (st:Q0):y9 ma Γ st=(ma Γ st).bind λp q=>match p with
 | .tup ps=>match Yc Xs ps with
  | some ks=>if ks.length<=76 then .ok (.int (Zx ks).length) q else .stuck
  | none=>.stuck
 | _=>.stuck:=rfl
mutual
def hkV:HK->PV
 | .int i=>.int i
 | .str x=>.str x
 | .tup l=>.tup (hkVL l)
def hkVL:List HK->List PV
 | []=>[]
 | k :: l=>hkV k :: hkVL l
end
mutual
theorem Qc6 {H:Hp} {ρ:Tk} (o:∀ b xs,H b=zo (.tup xs)->b∉ρ):∀ {k:HK} {v:V},KAt H k v->Rep H ρ (hkV k) v
 | .int _,_,r=>r
 | .str _,_,r=>r
 | .tup _,_,⟨a,vs,e,h,r⟩=>⟨a,vs,e,h,o a vs h,hkVL_rep o r⟩
theorem hkVL_rep {H:Hp} {ρ:Tk} (o:∀ b xs,H b=zo (.tup xs)->b∉ρ):∀ {l:List HK} {vs:List V},KAtL H l vs->RepL H ρ (hkVL l) vs
 | [],_,r=>r
 | _ :: _,_,⟨v,r,e,h,t⟩=>⟨v,r,e,Qc6 o h,hkVL_rep o t⟩
end
def U1:CF:=λst ps=>match ps with
 | [p]=>match Wf st p with
  | some kvs=>.ok (.lst (kvs.map λkv=>hkV kv.1)) st
  | none=>.stuck
 | _=>.stuck
theorem Q01 {H:Hp} {ρ:Tk} (o:∀ b xs,H b=zo (.tup xs)->b∉ρ):∀ {q:List (HK × PV)} {us:List (HK × V)} {vs:List V},RepD H ρ q us->aR (λv (p:HK × V)=>∃ b,v=.ref b/\KR H p.1 b) vs us->RepL H ρ (q.map λkv=>hkV kv.1) vs
 | [],[],_,_,p=>by cases p; rfl
 | [],b :: us,_,r,_=>by have:=r.length; cases this
 | a :: q,[],_,r,_=>by have:=r.length; cases this
 | a :: q,b :: us,_,r,.cons h t=>by
  obtain ⟨U,x,t2,e,Z,I⟩:=r;obtain ⟨G,J⟩:=cj (show b.1 :: us.map bq=a.1 :: q.map bq from U);obtain ⟨e3,O⟩:=cj (show b.2 :: us.map cW=x :: t2 from e);subst O;obtain ⟨c,rfl,Y⟩:=h;refine RepL.cons ?_ (Q01 o ⟨J,I⟩ t);show Rep H ρ (hkV a.1) _;rw [<- G];exact Qc6 o Y.1
theorem Q92 (U:X.calm=zb):CallS X E (.type "list") U1:=⟨λH ρ st ps xs Q R O h=>by
 unfold U1 at h
 split at h
 ·rename_i p;obtain ⟨v,rfl,r⟩:=Zd O
  split at h
  ·rename_i I e;obtain ⟨n,a,vs,rfl,rfl,_,_,J,q⟩:=V5 R r e;exact WC.of (Q3c U) ⟨a,vs,rfl,J,λd us hd G=>Xj R h (Q01 (Q12 R) q G) d hd⟩
  ·exact h.elim
 ·exact h.elim⟩
structure TupG (K:bX) (mg:zAE) (n:Str) (ss:List Str):Prop where
 ex:∃ (a:aB) (o:Obj) (its:Array aA) (m:Nat),mg n=zo (.ref a)/\K.lookup a=zo o/\o.cls=.type "tuple" /\ o.data=.seq its m/\its.size<=sizeLine/\Vals (ss.map V.str) its.toList
def Ky (ss:List Str) (x:Str):Bool:=ss.any λs=>decide (s=x)
def Qa7 (neg:Bool) (ss:List Str) (m:ME):ME:=λΓ st=>(m Γ st).bind λp st1=>match p with
 | .str x=>.ok (.bl (Ky ss x != neg)) st1
 | _=>.stuck
theorem Q33 (x:Str):∀ ss:List Str,inV (.str x) (ss.map V.str)=Ky ss x
 | []=>rfl
 | s :: ss=>by
  have q:=Q33 x ss;unfold inV Ky at*;rw [D3,cF,cF,q];congr 1
variable {p:Pos} {e:aH} {m:ME} {n:Str} {ss:List Str}
theorem Qqx (tg:TupG X.K X.mg n ss) (Z:Gl X n) (O:SimE X E e m) (hd:(n == ("__debug__" : Str))=yo:=by decide):SimE X E (.Compare e [.In] [.Name n p] pos) (Qa7 yo ss m):=by
 obtain ⟨a,o,its,k,hm,U,hc,J,hz,hv⟩:=tg.ex;refine ⟨λΓ σ H ρ st Q R G h=>WE.of (Q5r Qdp J1 (Q5q (v:=.ref a) Z hm rfl hd) rfl) (O.use R G h.bind λq I H1 ρ1 v x1 Y G1 r1 h1=>?_)⟩;cases q with
 | str x=>
  cases r1;have h1:Acc X.mg E H1 ρ1 (QV Q) (.ok (.bl (Ky ss x != yo)) I):=h1;refine ⟨a,ss.map V.str,rfl,.inr (.inr ⟨o,its,k,U,hc,J,hz,hv⟩),rfl,by simp [jg],?_⟩;rw [Q33];rw [dM] at h1;exact now Y h1 rfl
 | _=>exact h1.elim
theorem Qd7 (tg:TupG X.K X.mg n ss) (Z:Gl X n) (O:SimE X E e m) (hd:(n == ("__debug__" : Str))=yo:=by decide):SimE X E (.Compare e [.NotIn] [.Name n p] pos) (Qa7 zb ss m):=by
 obtain ⟨a,o,its,k,hm,U,hc,J,hz,hv⟩:=tg.ex;refine ⟨λΓ σ H ρ st Q R G h=>WE.of (Q5r Q5u J1 (Q5q (v:=.ref a) Z hm rfl hd) rfl) (O.use R G h.bind λq I H1 ρ1 v x1 Y G1 r1 h1=>?_)⟩;cases q with
 | str x=>
  cases r1;have h1:Acc X.mg E H1 ρ1 (QV Q) (.ok (.bl (Ky ss x != zb)) I):=h1;refine ⟨a,ss.map V.str,rfl,.inr (.inr ⟨o,its,k,U,hc,J,hz,hv⟩),rfl,by simp [jg],?_⟩;rw [Q33];rw [show (Ky ss x != zb)=!Ky ss x by cases Ky ss x <;> rfl] at h1;exact now Y h1 rfl
 | _=>exact h1.elim
section
variable {X:Cx} {E:XK}
def prV (p:Int × Str):PV:=.tup [.int p.1,.str p.2]
def Qac:HK->Option (Int × Str)
 | .tup [.int x,.str y]=>zo (x,y)
 | _=>zl
def Q4u:List (HK × PV)->Option (List (Int × Str))
 | []=>zo []
 | kv :: r=>match Qac kv.1,Q4u r with
  | some p,zo l=>zo (p :: l)
  | _,_=>zl
theorem Qnb {k:HK} {p:Int × Str} (h:Qac k=zo p):k=.tup [.int p.1,.str p.2]:=by
 unfold Qac at h
 split at h
 ·cases h; rfl
 ·cases h
theorem Q8m {H:Hp} {ρ:Tk}:∀ {G:List (HK × PV)} {vs:List (HK × V)} {nss:List (Int × Str)},Q4u G=zo nss->RepD H ρ G vs->aR (λ(p:HK × V) (ns:Int × Str)=>p.1=.tup [.int ns.1,.str ns.2]) vs nss
 | [],[],_,e,_=>by cases e; exact .nil
 | [],_ :: _,_,_,r=>by have:=r.length; cases this
 | _ :: _,[],_,_,r=>by have:=r.length; cases this
 | (k,p) :: G,(I,v) :: vs,nss,e,r=>by
  obtain ⟨r1,x,t,Z,r2,O⟩:=r;obtain ⟨J,U⟩:=cj (show I :: vs.map bq=k :: G.map bq from r1);obtain ⟨e3,Y⟩:=cj (show v :: vs.map cW=x :: t from Z);subst e3; subst Y;unfold Q4u at e
  split at e
  ·rename_i q l h1 h2;cases e;exact .cons (show I=_ by rw [J]; exact Qnb h1) (Q8m h2 ⟨U,O⟩)
  ·cases e
theorem Q23 {H:Hp} {ρ:Tk} (G:∀ b xs,H b=zo (.tup xs)->b∉ρ):∀ {vs:List V} {nss:List (Int × Str)},aR (λ(v:V) (ns:Int × Str)=>∃ b,v=.ref b/\H b=zo (.tup [.int ns.1,.str ns.2])) vs nss->RepL H ρ (nss.map prV) vs
 | [],[],.nil=>rfl
 | v :: vs,ns :: nss,.cons ⟨b,e,q⟩ t=>by
  subst e;exact RepL.cons ⟨b,_,rfl,q,G b _ q,RepL.cons rfl (RepL.cons rfl RepL.nil)⟩ (Q23 G t)
theorem Q24 {H:Hp} {ρ:Tk} {nss:List (Int × Str)} {vs:List V} (r:RepL H ρ (nss.map prV) vs):∀ (q:List Nat),(∀ x∈q,x < vs.length)->RepL H ρ ((q.map λi=>nss.getD i dQ).map prV) (q.map λi=>vs.getD i .non)
 | [],_=>rfl
 | x :: q,h=>by
  have J:=h x (by simp);have U:=r.length;rw [O1] at U;have G:(nss.map prV)[x]?=zo (prV (nss.getD x dQ)):=by
   rw [D7,O3 (by omega),E3,O3 (by omega)]; rfl
  have I:vs[x]?=zo (vs.getD x .non):=by rw [E3,O3 J]; rfl
  exact RepL.cons (r.i G I) (Q24 r q λy O=>h y (O4 _ O))
def Q3d:CF:=λst ps=>match ps with
 | [p]=>match Wf st p with
  | some kvs=>match Q4u kvs with
   | some nss=>if nss.length < 64 then .ok (.lst ((U6 nss).map prV)) st else .stuck
   | none=>.stuck
  | none=>.stuck
 | _=>.stuck
theorem Qiq (hc:X.calm=zb):CallS X E (.builtin "sorted") Q3d:=⟨λH ρ st ps xs Q R U h=>by
 unfold Q3d at h
 split at h
 ·rename_i p;obtain ⟨v,rfl,r⟩:=Zd U
  split at h
  ·rename_i a1 e
   split at h
   ·rename_i nss en
    split at h
    ·rename_i O;obtain ⟨n,a,vs,rfl,rfl,_,_,hb,Z⟩:=V5 R r e;have G:=Q8m en Z;have l2:vs.length=nss.length:=Paired.length G;refine WC.of (Q46 hc) ⟨a,vs,nss,rfl,hb,by omega,G,λd pp us hd q hp J=>?_⟩;have Y:=Q23 (Q12 R) q;have l3:us.length=nss.length:=Paired.length q;have I:=Q24 Y pp λx hx=>by have:=hp.mem_iff.mp hx; rw [l3]; simpa using this
     rw [J] at I;exact Xj R h I d hd
    ·exact h.elim
   ·exact h.elim
  ·exact h.elim
 ·exact h.elim⟩
def xj:List PV->Option (List (HK × PV))
 | []=>zo []
 | .tup [kp,v] :: r=>match Xs kp,xj r with
  | some k,zo l=>zo ((k,v) :: l)
  | _,_=>zl
 | _ :: _=>zl
def qj (kvs l:List (HK × PV)):List (HK × PV):=l.foldl (λacc p=>putT acc p.1 p.2) kvs
theorem Q2a {H:Hp} {ρ:Tk}:∀ {ps:List PV} {l:List (HK × PV)} {us:List V},xj ps=zo l->RepL H ρ ps us->∃ zs:List (HK × aB × V),aR (λv (z:HK × aB × V)=>∃ c,v=.ref c/\H c=zo (.tup [.ref z.2.1,z.2.2])/\KR H z.1 z.2.1) us zs/\aR (λ(p:HK × PV) (z:HK × aB × V)=>p.1=z.1/\Rep H ρ p.2 z.2.2) l zs
 | [],_,_,e,r=>by cases e; cases r; exact ⟨[],.nil,.nil⟩
 | .tup [kp,v] :: ps,_,_,e,⟨w,t,q,r1,J⟩=>by
  unfold xj at e
  split at e
  ·rename_i k l h1 h2;cases e;obtain ⟨zs,a1,U⟩:=Q2a h2 J;obtain ⟨a,vs,e3,Z,_,w1,q1,I,s1,w2,q2,O,Y,G⟩:=r1;cases G;subst O; subst I;obtain ⟨b,rfl,kr⟩:=V4 h1 s1;subst q;exact ⟨(k,b,w2) :: zs,.cons ⟨a,e3,Z,kr⟩ a1,.cons ⟨rfl,Y⟩ U⟩
  ·cases e
theorem Q0g {H:Hp} {ρ:Tk}:∀ {l:List (HK × PV)} {zs:List (HK × aB × V)} {q:List (HK × PV)} {vs:List (HK × V)},RepD H ρ q vs->aR (λ(p:HK × PV) (z:HK × aB × V)=>p.1=z.1/\Rep H ρ p.2 z.2.2) l zs->RepD H ρ (qj q l) (L2.putAll vs zs)
 | _,_,_,_,r,.nil=>r
 | p :: l,z :: zs,_,_,r,.cons ⟨G,I⟩ t=>by
  show RepD H ρ (qj (putT _ p.1 p.2) l) (L2.putAll (Xe _ z.1 z.2.2) zs);rw [G];exact Q0g (Q7q r z.1 I) t
variable {o e:aH} {es:List aH} {mo:ME} {mr:Gam->Q0->Res (List PV)} {apos cpos:Pos}
end
def Q7z:List PV->Option (List (Int × Str))
 | []=>zo []
 | .tup [.int x,.str y] :: r=>(Q7z r).map ((x,y) :: ·)
 | _ :: _=>zl
def kQ (p:Int × Str):HK:=.tup [.int p.1,.str p.2]
theorem Qsx {p q:Int × Str} (h:kQ p=kQ q):p=q:=by
 unfold kQ at h;injection h with h
 injection h with h1 h
 injection h with h2 _
 injection h1 with h1
 injection h2 with h2
 exact dP h1 h2
theorem Qp6 (acc:List (Int × Str)) (p:Int × Str):Ja (acc.map kQ) (kQ p)=(Ja acc p).map kQ:=by
 unfold Ja
 by_cases q:p∈acc
 ·rw [bT q,bT (F1.mpr ⟨p,q,rfl⟩)]
 ·rw [bU q,bU,E4]
  ·rfl
  ·intro h;obtain ⟨x,G,e⟩:=F1.mp h;rw [Qsx e] at G; exact q G
theorem Qmq (ps:List (Int × Str)):Zx (ps.map kQ)=(Zx ps).map kQ:=by
 have q:∀ (ps acc:List (Int × Str)),(ps.map kQ).foldl Ja (acc.map kQ)=(ps.foldl Ja acc).map kQ:=by
  intro ps
  induction ps with
  | nil=>intro acc; rfl
  | cons p ps G=>intro acc; rw [D3,F5,F5,Qp6,G]
 exact q ps []
theorem Q7y {H:Hp} {ρ:Tk}:∀ {ps:List PV} {ns:List (Int × Str)} {vs:List V},Q7z ps=zo ns->RepL H ρ ps vs->aR (λv k=>∃ b,v=.ref b/\KR H k b) vs (ns.map kQ)
 | [],_,_,e,r=>by cases e; cases r; exact .nil
 | .tup [.int x,.str y] :: ps,_,_,e,⟨v,t,q,G,I⟩=>by
  have e:(Q7z ps).map ((x,y) :: ·)=zo _:=e;cases z:Q7z ps with
  | none=>rw [z] at e; cases e
  | some l=>
   rw [z] at e;cases e;subst q;exact .cons (V4 (p:=.tup [.int x,.str y]) rfl G) (Q7y z I)
theorem Qsr {n:Int × Str} {b:aB} (h:KR H (kQ n) b):H b=zo (.tup [.int n.1,.str n.2]):=by
 obtain ⟨⟨c,vs,e,I,J,Y,q,k1,U,O,G,k2,k3⟩,_⟩:=h;cases e;cases k1; cases k2; cases k3;subst G; subst q;exact I
theorem Qcj {H:Hp}:∀ {bs:List aB} {ks:List HK},aR (λb k=>KR H k b) bs ks->∀ {ms:List (Int × Str)},ks=ms.map kQ->aR (λb (n:Int × Str)=>H b=zo (.tup [.int n.1,.str n.2])) bs ms
 | [],_,.nil,[],_=>.nil
 | _ :: _,_ :: _,.cons _ _,[],e=>by cases e
 | [],_,.nil,_ :: _,e=>by cases e
 | b :: bs,k :: ks,.cons h t,m :: ms,e=>by
  rw [D3] at e;injection e with q G
  exact .cons (Qsr (by rw [<- q]; exact h)) (Qcj t G)
theorem Qm5 {ks:List HK} {ns:List (Int × Str)} (p:ks.Perm (ns.map kQ)):∃ ms:List (Int × Str),ks=ms.map kQ/\ms.Perm ns:=by
 have h:∀ k∈ks,∃ n,k=kQ n:=λk O=>by
  obtain ⟨n,_,e⟩:=F1.mp (p.mem_iff.mp O);exact ⟨n,e.symm⟩
 have h2:∃ ms:List (Int × Str),ks=ms.map kQ:=by
  clear p
  induction ks with
  | nil=>exact ⟨[],rfl⟩
  | cons k ks G=>
   obtain ⟨ms,e⟩:=G λx J=>h x (O4 _ J)
   obtain ⟨n,I⟩:=h k (by simp);exact ⟨n :: ms,by rw [D3,<- e,I]⟩
 obtain ⟨ms,e⟩:=h2;refine ⟨ms,e,?_⟩;rw [e] at p;have q:∀ l:List (Int × Str),(l.map kQ).filterMap Qac=l:=λl=>by
  induction l with
  | nil=>rfl
  | cons x l G=>rw [D3,L0]; show (x :: (l.map kQ).filterMap Qac)=_; rw [G]
 have:=p.filterMap Qac
 rwa [q,q] at this
def qr (ma:ME):ME:=λΓ st=>(ma Γ st).bind λp st1=>match p with
 | .tup ps=>match Q7z ps with
  | some ns=>if ns.length < 64 then .ok (.lst ((U6 (Zx ns)).map prV)) st1 else .stuck
  | none=>.stuck
 | _=>.stuck
theorem Q7e {p p' pos':Pos} (hu:X.A.units + 9 < aQ) (ha:SimE X E a ma) (hc:X.calm=zb) (hg:Gl X "sorted") (hm:X.mg "sorted" = zl) (O:aX "sorted" = zo (.builtin "sorted")) (a3:Gl X "set") (a1:X.mg "set" = zl) (J:aX "set" = zo (.type "set")) (he:aN [a] X.env=(yo,aO a X.env) :: aN [] X.env:=by rfl)
  (I:aN [.Call (.Name "set" p') [a] [] pos'] X.env=(yo,aO (.Call (.Name "set" p') [a] [] pos') X.env) :: aN [] X.env:=by rfl):SimE X E (.Call (.Name "sorted" p) [.Call (.Name "set" p') [a] [] pos'] [] pos) (qr ma):=
 ⟨λΓ σ H ρ st Q R G hq=>WE.of (zq (Q6p hc) hg hm O (W3 (X2 (Qep hu hc) a3 a1 J (W3 J1 Us he) (by decide) (by decide) he rfl) Us I) (by decide) (by decide) I rfl) (ha.use' R G hq.bind λq a2 H1 ρ1 v e1 x1 R1 G1 r1 h1=>by
  split at h1
  ·rename_i ps
   split at h1
   ·rename_i ns ek
    split at h1
    ·rename_i hl;obtain ⟨c,vs,rfl,U,_,rc⟩:=r1;refine ⟨c,vs,ns.map kQ,rfl,SqT.of U,Q7y ek rc,by rw [O1]; omega,λl bs a4 Z pk pb=>?_⟩;rw [Qmq] at pk;obtain ⟨ms,rfl,pm⟩:=Qm5 pk;have a5:=Vy ns;have lb:bs.length=ms.length:=by have:=Paired.length pb; rwa [O1] at this
     have Y:=Qcj pb rfl;have up:∀ {b:aB} {xs:List V},H1 b=zo (.tup xs)->(upd H1 l (Q4x X.w l bs)) b=zo (.tup xs):=λ{b xs} J=>by rw [Q9 (Qa J Z)]; exact J
     refine ⟨l,bs,ms,rfl,Qt,by rw [lb,pm.length_eq]; omega,Paired.mapP Y λ_ _ z=>up z,λd ds hd pd=>?_⟩;rw [j9 pm] at pd;have x2:Ext H1 ρ1 (upd H1 l (Q4x X.w l bs)) (ρ1.hide l):=Ext.hide Z;have R2:Rel (upd H1 l (Q4x X.w l bs)) (ρ1.hide l) a2:=R1.hide Z;have rl:=Q23 (Q12 R2) pd;exact h1 _ _ (x2.trans (Ext.add hd)) (R2.add hd) _ ⟨d,ds,rfl,Qt,R2.fresh hd,rl.ext (Ext.add hd)⟩
    ·exact h1.elim
   ·exact h1.elim
  ·exact h1.elim)⟩
variable {o:aH} {mo mi:ME}
section
variable {i:aH}
def Q8z (st:Q0) (p q:PV):Res PV:=match Wf st p,Xs q with
 | some kvs,zo k=>match X9 kvs k with
  | some v=>.ok v st
  | none=>.stuck
 | _,_=>.stuck
def xz (mo mi:ME):ME:=λΓ st=>(mo Γ st).bind λp st1=>(mi Γ st1).bind λq st2=>Q8z st2 p q
theorem Qfv (Y:X.A.units + 9 < aQ) (ho:SimE X E o mo) (hi:SimE X E i mi) (hs:Qtn i):SimE X E (.Subscript o i pos) (xz mo mi):=
 ⟨λΓ σ H ρ st Q R G h=>WE.of (Qm7 Y J1 J1 hs) (ho.use R G h.bind λp a7 H1 ρ1 v1 x1 R1 G1 r1 h1=>hi.use R1 G1 h1.bind λq a4 H2 a5 v2 x2 R2 G2 U h2=>by
  unfold Q8z at h2
  split at h2
  ·rename_i a6 k J O
   split at h2
   ·rename_i w e3;obtain ⟨n,a,vs,rfl,rfl,_,_,hb,rd⟩:=V5 R2 (r1.ext x2) J;obtain ⟨b,rfl,kr⟩:=V4 O U;rcases zm k rd with ⟨I,_⟩ | ⟨p,v,I,Z,a3⟩
    ·rw [I] at e3; cases e3
    ·rw [I] at e3;cases e3;exact ⟨a,v,rfl,by have:=DGet.t (k:=k) hb kr; rwa [Z] at this,now R2 h2 a3⟩
   ·exact h2.elim
  ·exact h2.elim)⟩
def Qsj (ma:ME):ML:=λΓ st=>(ma Γ st).bind λp st1=>match Vh st1 p with
 | some xs=>if xs.length<=1000000 then .ok xs.reverse st1 else .stuck
 | none=>.stuck
theorem RepL.rev :∀ {xs:List PV} {vs:List V},RepL H ρ xs vs->RepL H ρ xs.reverse vs.reverse
 | [],_,r=>by cases r; exact RepL.nil
 | x :: xs,_,⟨v,t,e,q,G⟩=>by
  subst e;rw [cS,cS];exact (RepL.rev G).append (RepL.cons q RepL.nil)
theorem Q7r {H:Hp} {ρ:Tk}:∀ {xs:List PV} {vs:List V},RepL H ρ xs vs->xs.length=vs.length
 | [],_,r=>by cases r; rfl
 | x :: xs,_,⟨v,t,e,_,q⟩=>by subst e; rw [D4,D4,Q7r q]
theorem Qjy {p p' pos':Pos} (ha:SimE X E a ma) (hc:X.calm=zb) (hg:Gl X "list") (hm:X.mg "list" = zl) (Z:Gl X "reversed") (Y:X.mg "reversed" = zl) (U:aX "reversed" = zo (.type "reversed"):=by rfl) (he:aN [a] X.env=(yo,aO a X.env) :: aN [] X.env:=by rfl) (hs:aN [a] X.env=[(yo,aO a X.env)]:=by rfl)
  (O:aN [.Call (.Name "reversed" p') [a] [] pos'] X.env=[(yo,aO (.Call (.Name "reversed" p') [a] [] pos') X.env)]:=by rfl):SimN X E (.Call (.Name "list" p) [.Call (.Name "reversed" p') [a] [] pos'] [] pos) (Qsj ma):=
 ⟨λΓ σ H ρ st P Q R G hq k=>WE.of (Q9x hc hg hm Z Y X7 U (W3 J1 Us he) hs O) (ha.use' R G hq.bind λq I H1 ρ1 v e1 x1 R1 G1 r1 h1=>by
  split at h1
  ·rename_i xs ex
   split at h1
   ·rename_i hl;obtain ⟨b,vs,rfl,hb,rl⟩:=jx R1 r1 ex;refine ⟨b,vs,rfl,hb,by rw [<- Q7r rl]; exact hl,xw x1 R1 (RepL.rev rl) λH3 J z us=>k _ I H3 J z us ?_⟩;unfold Qsj;rw [e1];show (match Vh I q with | some xs=>if xs.length<=1000000 then Res.ok xs.reverse I else .stuck | none=>.stuck)=_;rw [ex];show (if xs.length<=1000000 then Res.ok xs.reverse I else .stuck)=_;rw [bT hl]
   ·exact h1.elim
  ·exact h1.elim)⟩
def Q1b (ma:ME):ML:=λΓ st=>(ma Γ st).bind λp st1=>match Wf st1 p with
 | some kvs=>.ok (kvs.map λkv=>hkV kv.1) st1
 | none=>.stuck
theorem Qfi (Z:SimE X E a ma) (hc:X.calm=zb) (hg:Gl X "list") (hm:X.mg "list" = zl) (Y:aN [a] X.env=(yo,aO a X.env) :: aN [] X.env:=by rfl):SimN X E (.Call (.Name "list" p) [a] [] pos) (Q1b ma):=
 ⟨λΓ σ H ρ st P Q R G hq k=>WE.of (X2 (Q3c hc) hg hm X7 (W3 J1 Us Y) (by decide) (by decide) Y rfl) (Z.use' R G hq.bind λq I H1 ρ1 v eq x1 O G1 r1 h1=>by
  split at h1
  ·rename_i J e;obtain ⟨n,a,vs,rfl,rfl,_,_,hb,rd⟩:=V5 O r1 e;refine ⟨a,vs,rfl,hb,λd us hd hu=>xw x1 O (Q01 (Q12 O) rd hu) (λH2 U a us=>k _ I H2 U a us ?_) d hd⟩;unfold Q1b;rw [eq];show (match Wf I _ with | some (J:List (HK × PV))=>Res.ok (J.map λ(kv:HK × PV)=>hkV kv.1) I | none=>.stuck)=_
   rw [e]
  ·exact h1.elim)⟩
def Q0d:CF:=λst ps=>match ps with
 | [.lst qs]=>match xj qs with
  | some l=>if l.length<=lim then .ok (.ref st.length) (st ++ [.dtp (qj [] l)]) else .stuck
  | none=>.stuck
 | _=>.stuck
theorem Qir (Z:X.A.units + 9 < aQ) (hc:X.calm=zb):CallS X E (.type "dict") Q0d:=⟨λH ρ st ps xs Q R rp h=>by
 unfold Q0d at h
 split at h
 ·rename_i qs;obtain ⟨v,rfl,r⟩:=Zd rp
  split at h
  ·rename_i l J
   split at h
   ·rename_i Y;obtain ⟨c,ws,rfl,q,_,I⟩:=r;obtain ⟨zs,U,G⟩:=Q2a J I;have O:l.length=zs.length:=Paired.length G;refine WC.of (Qay Z hc) ⟨c,ws,zs,rfl,q,U,by rw [<- O]; exact Zz Y,λd hd=>?_⟩;have x:Ext H ρ (upd H d (.dT (L2.putAll [] zs))) (ρ.add d):=Ext.addT hd;refine h _ _ x (R.addC hd ⟨_,Qt,(Q0g (show RepD H ρ [] [] from ⟨rfl,RepL.nil⟩) G).ext x⟩) _ ⟨d,?_,rfl⟩;show (ρ.tr ++ [d])[st.length]?=zo d;rw [<- R.len,D6 (O5 _),bu]; rfl
   ·exact h.elim
  ·exact h.elim
 ·exact h.elim⟩
end
def Qsa:OP:=λst p q=>match p,q with
 | .tup [.int a,.str x],.tup [.int b,.str y]=>.ok (.bl (Zh (a,x) (b,y))) st
 | _,_=>.stuck
theorem Qrx (hu:X.A.units + 64 < aQ):OpS X E (aU .Lt) Qsa:=⟨λH ρ st p q x y Q R rp rq h=>by
 unfold Qsa at h
 split at h
 ·rename_i a s b t;obtain ⟨c,vs,rfl,hc,_,w1,q1,Y,s1,w2,q2,Z,s2,s3⟩:=rp;cases s3;subst Z; subst Y;cases s1; cases s2;obtain ⟨d,us,rfl,hd,_,a1,a3,U,J,a4,a2,G,I,O⟩:=rq;cases O;subst G; subst U;cases J; cases I;exact WO.of (Qs7 (by omega)) ⟨c,d,(a,s),(b,t),rfl,rfl,hc,hd,now R h rfl⟩
 ·exact h.elim⟩
def tgN:aH->List Str
 | .Name x _=>[x]
 | .Tuple es _ _=>es.flatMap λe=>match e with
  | .Name x _=>[x]
  | _=>[]
 | _=>[]
def Qcg (N:List Str) (tg:aH) (cap:zAC):List Str:=tgN tg ++ cap.filterMap λo=>o.bind (N[·]?)
theorem Qw1 {l:List Str} (h:decide l.Nodup=zb):l.Nodup:=of_decide_eq_true h
structure KR (b:Bool):Prop where
 h:b=zb
variable {tg iter elt:aH} {ifs:List aH} {sc:Scope} {ga:GA} {mt:MT} {me:ME} {x:Str} {px cpos:Pos}
section
variable {mi:MI} {cap:zAC} {i:Nat}
theorem Qfj (q:X.calm=zb) (Y:KR (compOkC X.N (Qcg X.N tg cap) sc X.env.scope cap)) (hs:∀ x,bG iter X.env x=pure x) (O:Q3r cap ga) (hi:SimI X E tg iter mi) (U:∀ cl C G H0 ex,SimG (Y9 X (Qcg X.N tg cap) sc cl C G H0 ex) tg ga) (I:∀ cl C G H0 ex,SimE (Y9 X (Qcg X.N tg cap) sc cl C G H0 ex) E0 elt me) (J:∀ cl C G H0 ex,SimTs (Y9 X (Qcg X.N tg cap) sc cl C G H0 ex) ifs mt):SimN X E (.ListComp elt [⟨tg,iter,ifs,0⟩] sc pos) (J5 cap ga mi mt me):=
 Q14 cap _ q hi U I J O rfl rfl Y.h hs
end
structure AtS (K:bX) (mg:zAE) (name:Str) (st:aM) (ps:List Str) (f:aB) (fd:aP):Prop where
 F:Fun K name name st f fd
 m:mg name=zo (.ref f)
 b:Binds K fd ps []
theorem Qth {name:Str} {st:aM} {ps:List Str} {f:aB} {oc:aA} {Y O:Option aB} {U:Array (Option aA)} {kV I J q ct:aA} (X:K.In h) (G:h.Ns aV mg)
  (a:bg K aV name=zo (zo (.ref f))) (l:K.lookup f=zo ⟨oc,Y,.func (br name name (Y8 st) (Z1 st) (Q7 st) .none kV I J O q ct),U⟩) (c:cu K q name=zb) (k:cb K (.ref f)=zb)
  (b:∀ (kV I J:aA) (O:Option aB) (q ct:aA) (us:List aA),us.length=ps.length->bindArgs (br name name (Y8 st) (Z1 st) (Q7 st) .none kV I J O q ct) ⟨us,[]⟩=pure (ps.zip us)) :
  AtS K mg name st ps f (br name name (Y8 st) (Z1 st) (Q7 st) .none kV I J O q ct):=
 have F:=Qic (st:=st) l c k
 ⟨F,bx X G a,F.binds b⟩
theorem AtS.def {w:aJ} {base:Heap} {name:Str} {n:Nat} (a:AtS K mg name st ps f fd) (q:ps.length=n) (G:FnOk P w K mg base (CXD P w) k f fd ps (spF mg n F)):DefS P w K mg base k name n F:=
 ⟨f,fd,ps,G,a.m,a.F.kp,a.b,q⟩
def FL (K:bX) (x ql:Str) (s:aM) (f:aB):Prop:=∃ (oc:aA) (od:Option aB) (kV dc pm:aA) (an:Option aB) (cd ct:aA) (sl:Array (Option aA)),K.lookup f=zo ⟨oc,od,.func (br x ql (Y8 s) (Z1 s) (Q7 s) .none kV dc pm an cd ct),sl⟩/\cu K cd ql=zb/\cb K (.ref f)=zb
theorem FL.fn {q:Str} (h:FL K x q s f):∃ fd,Fun K x q s f fd:=let ⟨_,_,_,_,_,_,_,_,_,l,c,k⟩:=h; ⟨_,Qic l c k⟩
def FA (K:bX) (x:Str) (s:aM) (f:aB):Prop:=bg K aV x=zo (zo (.ref f))/\FL K x x s f
theorem FA.mk {J q:Option aB} {sl:Array (Option aA)} {kV I G cd ct:aA} (a:bg K aV x=zo (zo (.ref f))) (l:K.lookup f=zo ⟨oc,J,.func (br x x (Y8 s) (Z1 s) (Q7 s) .none kV I G q cd ct),sl⟩) (c:cu K cd x=zb) (k:cb K (.ref f)=zb):FA K x s f:=⟨a,_,_,_,_,_,_,_,_,_,l,c,k⟩
theorem ln1 {l:List α} (h:l.length=1):∃ a,l=[a]:=match l,h with | [_],_=>⟨_,rfl⟩
theorem ln2 {l:List α} (h:l.length=2):∃ a b,l=[a,b]:=match l,h with | [_,_],_=>⟨_,_,rfl⟩
theorem ln3 {l:List α} (h:l.length=3):∃ a b c,l=[a,b,c]:=match l,h with | [_,_,_],_=>⟨_,_,_,rfl⟩
theorem ln4 {l:List α} (h:l.length=4):∃ a b c d,l=[a,b,c,d]:=match l,h with | [_,_,_,_],_=>⟨_,_,_,_,rfl⟩
theorem ln5 {l:List α} (h:l.length=5):∃ a b c d e,l=[a,b,c,d,e]:=match l,h with | [_,_,_,_,_],_=>⟨_,_,_,_,_,rfl⟩
theorem ln6 {l:List α} (h:l.length=6):∃ a b c d e f,l=[a,b,c,d,e,f]:=match l,h with | [_,_,_,_,_,_],_=>⟨_,_,_,_,_,_,rfl⟩
theorem ln7 {l:List α} (h:l.length=7):∃ a b c d e f g,l=[a,b,c,d,e,f,g]:=match l,h with | [_,_,_,_,_,_,_],_=>⟨_,_,_,_,_,_,_,rfl⟩
theorem FL.bd {q:Str} {ps:List Str} (h:FL K x q s f)
  (b:∀ (kV G J:aA) (O:Option aB) (I ct:aA) (us:List aA),us.length=ps.length->bindArgs (br x q (Y8 s) (Z1 s) (Q7 s) .none kV G J O I ct) ⟨us,[]⟩=pure (ps.zip us)):∃ fd,Fun K x q s f fd/\Binds K fd ps []:=
 let ⟨_,F⟩:=h.fn
 ⟨_,F,F.binds b⟩
theorem Y1 {name:Str} (ps:List Str) (X:K.In h) (G:h.Ns aV mg) (a:FA K name st f)
  (b:∀ (kV I O:aA) (U:Option aB) (J ct:aA) (us:List aA),us.length=ps.length->bindArgs (br name name (Y8 st) (Z1 st) (Q7 st) .none kV I O U J ct) ⟨us,[]⟩=pure (ps.zip us):=by
   intro _ _ _ _ _ _ us q
   first | (obtain ⟨_,rfl⟩:=ln1 q; rfl) | (obtain ⟨_,_,rfl⟩:=ln2 q; rfl) | (obtain ⟨_,_,_,rfl⟩:=ln3 q; rfl) | (obtain ⟨_,_,_,_,rfl⟩:=ln4 q; rfl) | (obtain ⟨_,_,_,_,_,rfl⟩:=ln5 q; rfl) | (obtain ⟨_,_,_,_,_,_,rfl⟩:=ln6 q; rfl) | (obtain ⟨_,_,_,_,_,_,_,rfl⟩:=ln7 q; rfl)):∃ fd,AtS K mg name st ps f fd:=
 let ⟨a,l⟩:=a
 let ⟨_,F,B⟩:=l.bd b
 ⟨_,F,bx X G a,B⟩
theorem AtS.d {name:Str} {n:Nat} (a:AtS K mg name st ps f fd) (P:aK) (w:aJ) (base:Heap) (q:ps.length=n) (G:FnOk P w K mg base (CXD P w) k f fd ps (spF mg n F)):DefS P w K mg base k name n F:=a.def q G
def noL (K:bX):Bool:=K.all λp=>match p.2.data with
 | .seq _ _=>(match p.2.cls with
  | .type n=>!(n == ("list" : Str))
  | _=>zb)
 | _=>zb
theorem Qa9 {a:aB} {o:Obj} (h:K.lookup a=zo o):(a,o)∈K:=by
 induction K with
 | nil=>cases h
 | cons p K q=>
  obtain ⟨b,u⟩:=p;rw [cN] at h;cases e:a == b with
  | true=>
   rw [e] at h;have:a=b:=by simpa using e
   subst this;cases h;exact F3
  | false=>
   rw [e] at h;exact O4 _ (q h)
theorem Qsc {a:aB} {o:Obj} {its:Array aA} {n:Nat} (q:noL K=zb) (h:K.lookup a=zo o) (G:o.cls=.type "list") (hd:o.data=.seq its n):False:=by
 have:=E9.mp q _ (Qa9 h);simp [G,hd] at this
theorem Q4i {H:Hp} {ρ:Tk}:∀ ns:List Int,RepL H ρ (ns.map .int) (ns.map V.int)
 | []=>rfl
 | n :: ns=>⟨_,_,rfl,rfl,Q4i ns⟩
theorem Qkg (H:Hp):Rel H Tk.nil []:=⟨rfl,cx,λa h=>(by cases h),λa h=>(by cases h),λi a c h=>(by simp [Tk.nil] at h)⟩
def Q5f (K:bX):Sp:=λvs H Q _=>∃ (a:aB) (ns:List Int),vs=[.ref a]/\SqL K H a (ns.map V.int)/\ns.length<=63/\∀ H',Q (.bl zb) H'
theorem Qn7 {w:aJ} {base:Heap} {CX:CXT} {FL:FN} (G:noL K=zb) (F:FnOk P w K mg base CX k f fd ps (spF mg 1 FL)) (q:∀ ns:List Int,ns.length<=63->∃ st',FL [.fro (ns.map .int)] []=.ok (.bl zb) st'):FnOk P w K mg base CX k f fd ps (Q5f K):=F.imp λvs H Q E ⟨a,ns,e,O,U,I⟩=>by
 subst e;obtain ⟨st',Z⟩:=q ns U;have Y:Rd H a (.lst (ns.map V.int)):=by
  rcases O with h | ⟨o,its,n,h1,h2,h3,J,_⟩
  ·exact h
  ·exact (Qsc G h1 h2 J).elim
 refine ⟨rfl,Tk.nil,[],[.fro (ns.map .int)],Qkg H,⟨_,_,rfl,⟨a,_,rfl,Y,Tk.not_nil a,Q4i ns⟩,rfl⟩,?_⟩;rw [Z];intro H' ρ' x R v r;have e:v=.bl zb:=r;subst e;exact I H'
theorem Qip {w:aJ} {s:aC} {e:aA} {s':aC} (h:CXD P w [] H s (λ_ _ _=>False) e s'):False:=by
 obtain ⟨_,_,_,_,_,_,_,_,_,z⟩:=h;exact z
theorem walkS {l:fL} {q:aK} {G:List Str} {U:(Str->Option aA)->Heap->Prop} {O:aJ->Heap->Prop} {d:DefRec} {K:Params->bX} (hn:l.most=zo 63) (hr:Room k callerA) (I:d.params.defaults=[])
  (Y:∀ (w:aJ) (h:Heap),O w h->(K w.params).In h)
  (F:∀ (w:aJ) (mg:zAE) (J:aB) (h:Heap),(K w.params).In h->h.Ns aV mg->mg d.name=zo (.ref J) ->
   ∃ fd:aP,(∀ (s:aC) (u:aA),BindsTo s fd ⟨[u],[]⟩ [("script",u)])/\∀ base:Heap,(K w.params).In base->base.Ns aV mg->FnOk l.prog w (K w.params) mg base (CXD l.prog w) k J fd ["script"] (Q5f (K w.params))) :
  gU q G U O l.row.toRowW d [] (λf vs=>fJ f vs):=
 L2.walk_of (n:=63) (k:=k) (x := "script") (CX:=λw=>CXD l.prog w) (sp:=λw=>Q5f (K w.params)) hn (by decide) I hr Y F (λ_ _ a ns hl _ Z=>⟨a,ns,rfl,Z,hl,λ_=>rfl⟩) λ_ _ _ _ _ z=>Qip z
end Sm
namespace Lw
open PySem PySem.Spec L2 Sm
variable {f:aB} {fd:aP} {b:Bool} {n L nl k D h N:Nat} {S st S1 S2 S3 A:Q0} {ns:List Int} {c mt:MT} {x:Str} {Γ:Gam} {m me mo:ME} {v p:PV} {mr:ML} {ps xs:List PV} {ga:GA} {mi:MI} {a:Int} {ss ws:List Str} {α:Type} {cs:List Nat} {ks:List HK} {ls:List (Int × Str)}
def top (i:Nat):aM:=PySem.Challenge.pw_lendwharf_k64_lists_looked_at.main.body.getD i (.Pass ⟨0,0,0,0⟩)
abbrev jq:aM:=top 6
abbrev Xc:aM:=top 7
abbrev Ka:aM:=top 8
abbrev Wj:aM:=top 9
abbrev xf:aM:=top 10
abbrev Kc:aM:=top 18
abbrev Zr:aM:=top 19
abbrev xg:aM:=top 20
abbrev Kf:aM:=top 21
abbrev Xd:aM:=top 22
abbrev Kb:aM:=top 23
abbrev Uh:aM:=top 24
abbrev Ke:aM:=top 25
abbrev Ui:aM:=top 26
abbrev Yq:aM:=top 27
abbrev Vs:aM:=top 28
abbrev Q1z:aM:=top 31
abbrev V9:aM:=top 32
abbrev Wk:aM:=top 33
abbrev Q1y:aM:=top 34
abbrev Q5i:aM:=top 35
abbrev Uj:aM:=top 36
abbrev Vt:aM:=top 37
abbrev Q5j:aM:=top 38
abbrev Wm:aM:=top 40
abbrev Vu:aM:=top 41
abbrev Up:aM:=top 42
abbrev Zw:aM:=top 43
abbrev Um:aM:=top 44
abbrev Va:aM:=top 45
abbrev Uq:aM:=top 46
abbrev Uk:aM:=top 47
abbrev Vb:aM:=top 48
abbrev Vc:aM:=top 49
abbrev Ur:aM:=top 50
abbrev zj:aM:=top 51
structure Txt (K:bX) (mg:zAE):Prop where
 b_all:mg "all" = zl
 b_bool:mg "bool" = zl
 b_dict:mg "dict" = zl
 b_enumerate:mg "enumerate" = zl
 b_int:mg "int" = zl
 b_isinstance:mg "isinstance" = zl
 b_len:mg "len" = zl
 b_list:mg "list" = zl
 b_range:mg "range" = zl
 b_reversed:mg "reversed" = zl
 b_set:mg "set" = zl
 b_sorted:mg "sorted" = zl
 b_str:mg "str" = zl
 b_tuple:mg "tuple" = zl
 b_zip:mg "zip" = zl
 c_MOST_SIGNS_OF_WORD:∃ t,mg "MOST_SIGNS_OF_WORD" = zo (.int 8 t)
 c_MOST_STOCK:∃ t,mg "MOST_STOCK" = zo (.int 20 t)
 c_MOST_STARTS:∃ t,mg "MOST_STARTS" = zo (.int 4 t)
 c_MOST_RULES:∃ t,mg "MOST_RULES" = zo (.int 60 t)
 c_MOST_USE_AT_ONCE:∃ t,mg "MOST_USE_AT_ONCE" = zo (.int 9 t)
 c_MOST_LETTERS_OF_RULE:∃ t,mg "MOST_LETTERS_OF_RULE" = zo (.int 8 t)
 c_MOST_STANDS:∃ t,mg "MOST_STANDS" = zo (.int 2000 t)
 u_EVENTS_WITHOUT_LETTER:TupG K mg "EVENTS_WITHOUT_LETTER" ["go", "fall"]
local macro_rules|`(tactic|fail "m")=>do let a:=(("Jp Qg Jd Jx U8 Q9p Ww Qfu Qfc Quw Qqe W1 Qeb Vm Qig Qif Qr0 Qqz Qd9 Qpa Qfw Qqy Qfv Qd8 Q7f Qka Qqx Qqw Qqv Qk9 Q9n Qft Qqu Qqt Qqs Qd7 Qqr Quv Qk8 Qfs Q7e Qqq Qqp".splitOn " ").map λn=>Lean.mkIdent (.mkSimple n)).toArray;`(tactic|with_reducible first $[|apply $a]* | apply jp | apply Q5h | apply Qfm | apply K7 | apply Qbh | apply Qk1 | apply Wi | apply Qqn | apply Qqm | apply Qqk | apply Qqi | apply Qjz | apply Qfi | apply Qjy | apply Qqh | apply Qqg | apply Qjx | apply Qjw | apply Qfg | apply Qff | apply Q78 | apply Qjs | apply Qfe | apply Quu | apply Qfd | apply Qqf | apply Qfb | apply Qfa | apply Qqd | apply Qqc | apply qh | apply Qjp | apply Qqb | apply Qjm | apply Qus | apply Qqa | refine Vr (T := "dict") (o:=Q0d) ?_ ?_ ?_ ?_ ?_ ?_ ?_ ?_ ?_ | refine Vr (T := "list") (o:=yq) ?_ ?_ ?_ ?_ ?_ ?_ ?_ ?_ ?_ | refine Vr (T := "list") (o:=U1) ?_ ?_ ?_ ?_ ?_ ?_ ?_ ?_ ?_ | refine Vr (T := "tuple") (o:=Yu) ?_ ?_ ?_ ?_ ?_ ?_ ?_ ?_ ?_ | apply Qfx | apply Qfj | apply SimW.t)
local macro_rules|`(tactic|fail "o")=>do let a:=(("Qt9 Qir Qt8 Qns Qnr Q92 Qiq Q39 Qs0 Qmd Qvm Qvk Qvj Qvi Qrz Qgx Qvh Qry Qvg Qrx Qrw Qrv Qvf Qdk Qru Qrt".splitOn " ").map λn=>Lean.mkIdent (.mkSimple n)).toArray;`(tactic|first | (with_reducible first $[|apply $a]*))
local macro_rules | `(tactic| fail "r")=>`(tactic| first | rfl | assumption | decide | exact .inl rfl | exact .inr rfl | exact .inr (.inl rfl) | exact .inr (.inr rfl) | exact λ_=>rfl | exact λ_ _=>rfl | exact λ_ _ _=>rfl | exact ⟨by kernel_rfl⟩ | exact Qa4 _ | exact Room.mono ‹_› (by decide) | exact Kh | exact qp | exact PassesOwn.leaving | exact FnScope.nd ‹_› | exact Qw1 (by kernel_rfl) | exact Qbj ‹_› | exact Room.units ‹_› | exact Qg6 | with_unfolding_all rfl)
local macro_rules | `(tactic| fail "s")=>`(tactic| first | (with_reducible first | exact ic | exact Qj5 | exact Qes | exact Qer | exact Qj4 | exact X7 | exact Qj3 | exact Q9a | exact Qj2 | exact zc) | rfl | (fail "m" <;> fail "s") | (fail "o" <;> fail "r") | ((first | apply ss_compVA | apply ss_compTA | apply yz) <;> fail "s") | fail "r" | (intro _ _ _ _ _; fail "s"))
local macro_rules | `(tactic| fail "k")=>`(tactic| (refine Qnh ‹_› ‹_› rfl rfl rfl ?_; fail "j"))
local macro_rules | `(tactic| fail "K")=>`(tactic| (refine Q8t ‹_› ‹_› rfl rfl rfl ?_; fail "j"))
local macro_rules | `(tactic| fail "j")=>`(tactic| (intros; rcases ‹Txt _ _› with ⟨_,_,_,_,_,_,_,_,_,_,_,_,_,_,_,⟨_,_⟩,⟨_,_⟩,⟨_,_⟩,⟨_,_⟩,⟨_,_⟩,⟨_,_⟩,⟨_,_⟩,_⟩; show SimB _ _ (_ :: _) _; fail "s"))
local macro_rules | `(tactic| fail "c")=>`(tactic| exact ⟨rfl,rfl,rfl,by decide +kernel,rfl,by decide +kernel,by decide +kernel⟩)
variable {P:aK} {K:bX} {mg:zAE} {base:Heap}
section
variable {w:aJ}
def jv:MS:=(Qq (yb (Q63 "int" (Q2 0)) (Qsh (Q63 "bool" (Q2 0)))))
def Y2:FN:=J8 jv 1
theorem Q82 (F:Fun K "is_whole" "is_whole" jq f fd) (T:Txt K mg)   : FnOk P w K mg base (CXD P w) 1 f fd ["thing"] (spF mg 1 Y2):=by
 have:FnScope ["thing"] ["thing"] (Q7 jq):=by fail "c"
 delta Y2 jv
 fail "k"
def Xk:MS:=(Qq (yb (Qb 1 Y2 (Q1 (Q2 0) Q4)) (Xq (oI λa b=>.bl (decide (a<=b))) (oI λa b=>.bl (decide (a<=b))) (Q2 1) (Q2 0) (Q2 2))))
def Qw:FN:=J8 Xk 3
theorem Q3z (F:Fun K "is_between" "is_between" Xc f fd) (T:Txt K mg)  (q:DefS P w K mg base 1 "is_whole" 1 Y2):FnOk P w K mg base (CXD P w) 2 f fd ["thing", "least", "most"] (spF mg 3 Qw):=by
 have:FnScope ["thing", "least", "most"] ["thing", "least", "most"] (Q7 Xc):=by fail "c"
 delta Qw Xk
 fail "k"
def Uw:ME:=(mOp Qsa (Q2 0) (Q2 1))
def Km:MS:=(Qq (Qj (Xv λns=>.bl (ns.all id)) (Q1 (Yz (J5 [zl,zl] (je (Ze (Qd 0) (Ze (Qd 1) jf))) (Qmt (Q1 (Q2 0) (Q1 (mSl (Q2 0) (Zn (mC (.int 1))) Zm) Q4))) Jy Uw)) Q4)))
def Yy:FN:=J8 Km 1
theorem Q5v (F:Fun K "is_rising" "is_rising" Ka f fd) (T:Txt K mg)   : FnOk P w K mg base (CXD P w) 1 f fd ["things"] (spF mg 1 Yy):=by
 have:FnScope ["things"] ["things"] (Q7 Ka):=by fail "c"
 delta Yy Km Uw
 fail "k"
def Y6:MS:=(Qq (yb (Q63 "tuple" (Q2 0)) (Xq (oI λa b=>.bl (decide (a<=b))) (oI λa b=>.bl (decide (a<=b))) (Q2 1) (Qj Jv (Q1 (Q2 0) Q4)) (Q2 2))))
def Qh:FN:=J8 Y6 3
theorem zr (F:Fun K "is_sized_tuple" "is_sized_tuple" Wj f fd) (T:Txt K mg)   : FnOk P w K mg base (CXD P w) 1 f fd ["thing", "least", "most"] (spF mg 3 Qh):=by
 have:FnScope ["thing", "least", "most"] ["thing", "least", "most"] (Q7 Wj):=by fail "c"
 delta Qh Y6
 fail "k"
def Uc:ME:=(Xq Qdt Qdt (mC (.str "a")) (Q2 0) (mC (.str "z")))
def xx : MS := (Q8 (Jf (Uz (Ya (toB (Q63 "str" (Q2 0)))) (Ya (toB (Xq (oI λa b => .bl (decide (a <= b))) (oI λa b => .bl (decide (a <= b))) (mC (.int 1)) (Qj Jv (Q1 (Q2 0) Q4)) (mC (.int 8)))))) (Qq (mC (.bl yo))) Qs)
  (Qq (Qj (Xv λns=>.bl (ns.all id)) (Q1 (Yz (J5 [zl] (Qd 0) (Qbv (Q2 0)) Jy Uc)) Q4))))
def Zf:FN:=J8 xx 1
theorem Qa0 (F:Fun K "is_word" "is_word" xf f fd) (T:Txt K mg)   : FnOk P w K mg base (CXD P w) 1 f fd ["thing"] (spF mg 1 Zf):=by
 have:FnScope ["thing"] ["thing"] (Q7 xf):=by fail "c"
 delta Zf xx Uc
 fail "k"
def Kp : MS := (Q8 (Jf (Uz (Ya (toB (Qb 3 Qh (Q1 (Q2 1) (Q1 (mC (.int 2)) (Q1 (mC (.int 2)) Q4)))))) (Ya (toB (Qb 3 Qw (Q1 (mOp oIx (Q2 1) (mC (.int 0))) (Q1 (mC (.int 0)) (Q1 (mOp (oI λa b => .int (a - b)) (Q2 0) (mC (.int 1))) Q4))))))) (Qq (mC (.bl yo))) Qs)
  (Qq (yb (Qb 1 Zf (Q1 (mOp oIx (Q2 1) (mC (.int 1))) Q4)) (Qa7 zb ["go", "fall"] (mOp oIx (Q2 1) (mC (.int 1)))))))
def Y3:FN:=J8 Kp 2
theorem Q5x (F:Fun K "is_letter" "is_letter" Kc f fd) (T:Txt K mg)  (q:DefS P w K mg base 1 "is_sized_tuple" 3 Qh) (G:DefS P w K mg base 2 "is_between" 3 Qw) (I:DefS P w K mg base 1 "is_word" 1 Zf):FnOk P w K mg base (CXD P w) 3 f fd ["n", "thing"] (spF mg 2 Y3):=by
 have:FnScope ["n", "thing"] ["n", "thing"] (Q7 Kc):=by fail "c"
 delta Y3 Kp
 fail "k"
def Yx:ME:=(Qb 2 Y3 (Q1 (Q2 1) (Q1 (Q2 0) Q4)))
def Zs:MS:=(Qq (yb (Qb 3 Qh (Q1 (Q2 1) (Q1 (mC (.int 0)) (Q1 (mC (.int 8)) Q4)))) (Qj (Xv λns=>.bl (ns.all id)) (Q1 (Yz (J5 [zl,zo 0] (Qd 0) (Wr (Q2 1)) Jy Yx)) Q4))))
def Jb:FN:=J8 Zs 2
theorem Xg (F:Fun K "are_letters_of_rule" "are_letters_of_rule" Zr f fd) (T:Txt K mg)  (q:DefS P w K mg base 1 "is_sized_tuple" 3 Qh) (G:DefS P w K mg base 3 "is_letter" 2 Y3):FnOk P w K mg base (CXD P w) 4 f fd ["n", "thing"] (spF mg 2 Jb):=by
 have:FnScope ["n", "thing"] ["n", "thing"] (Q7 Zr):=by fail "c"
 delta Jb Zs Yx
 fail "k"
def Q0n:ME:=(Qb 1 Zf (Q1 (Q2 0) Q4))
def xy : MS := (Q8 (Jf (Uz (Ya (toB (Qb 3 Qh (Q1 (Q2 1) (Q1 (mC (.int 6)) (Q1 (mC (.int 6)) Q4)))))) (Ya (toB (Qb 3 Qw (Q1 (mOp oIx (Q2 1) (mC (.int 0))) (Q1 (mC (.int 0)) (Q1 (mOp (oI λa b => .int (a - b)) (Q2 0) (mC (.int 1))) Q4))))))) (Qq (mC (.bl yo))) Qs)
  (Q8 (Jf (Ya (toB (Qj (Xv λns=>.bl (ns.all id)) (Q1 (Yz (J5 [zl] (Qd 0) (Wr (mSl (Q2 1) (Zn (mC (.int 1))) (Zn (mC (.int 4))))) Jy Q0n)) Q4)))) (Qq (mC (.bl yo))) Qs)
  (Qq (yb (Qb 3 Qw (Q1 (mOp oIx (Q2 1) (mC (.int 4))) (Q1 (mC (.int 0)) (Q1 (mC (.int 9)) Q4)))) (Qb 2 Jb (Q1 (Q2 0) (Q1 (mOp oIx (Q2 1) (mC (.int 5))) Q4)))))))
def X8:FN:=J8 xy 2
theorem Qa1 (F:Fun K "is_rule" "is_rule" xg f fd) (T:Txt K mg)  (G:DefS P w K mg base 1 "is_sized_tuple" 3 Qh) (I:DefS P w K mg base 2 "is_between" 3 Qw) (J:DefS P w K mg base 1 "is_word" 1 Zf) (q:DefS P w K mg base 4 "are_letters_of_rule" 2 Jb):FnOk P w K mg base (CXD P w) 5 f fd ["n", "thing"] (spF mg 2 X8):=by
 have:FnScope ["n", "thing"] ["n", "thing"] (Q7 xg):=by fail "c"
 delta X8 xy Q0n
 fail "k"
def ji:ME:=(Qb 2 X8 (Q1 (Q2 1) (Q1 (Q2 0) Q4)))
def Kr : MS := (Q8 (Jf (Uz (Ya (toB (Qb 3 Qh (Q1 (Q2 1) (Q1 (mC (.int 0)) (Q1 (mC (.int 60)) Q4)))))) (Ya (toB (Qj (Xv λns => .bl (ns.all id)) (Q1 (Yz (J5 [zl, zo 0] (Qd 0) (Wr (Q2 1)) Jy ji)) Q4))))) (Qq (mC (.bl yo))) Qs)
  (Qq (mOp oEq (y9 (Q2 1)) (Qj Jv (Q1 (Q2 1) Q4)))))
def V7:FN:=J8 Kr 2
theorem Q5z (F:Fun K "are_rules" "are_rules" Kf f fd) (T:Txt K mg)  (q:DefS P w K mg base 1 "is_sized_tuple" 3 Qh) (G:DefS P w K mg base 5 "is_rule" 2 X8):FnOk P w K mg base (CXD P w) 6 f fd ["n", "thing"] (spF mg 2 V7):=by
 have:FnScope ["n", "thing"] ["n", "thing"] (Q7 Kf):=by fail "c"
 delta V7 Kr ji
 fail "k"
def Kz:ME:=(Qb 1 Zf (Q1 (Q2 0) Q4))
def Xm:MS:=(Qq (yb (Qb 3 Qh (Q1 (Q2 0) (Q1 (mC (.int 1)) (Q1 (mC (.int 4)) Q4)))) (Qj (Xv λns=>.bl (ns.all id)) (Q1 (Yz (J5 [zl] (Qd 0) (Wr (Q2 0)) Jy Kz)) Q4))))
def Wc:FN:=J8 Xm 1
theorem Q40 (F:Fun K "are_starts" "are_starts" Xd f fd) (T:Txt K mg)  (q:DefS P w K mg base 1 "is_sized_tuple" 3 Qh) (G:DefS P w K mg base 1 "is_word" 1 Zf):FnOk P w K mg base (CXD P w) 2 f fd ["thing"] (spF mg 1 Wc):=by
 have:FnScope ["thing"] ["thing"] (Q7 Xd):=by fail "c"
 delta Wc Xm Kz
 fail "k"
def Kn : MS := (Q8 (Jf (Uz (Ya (toB (Qb 3 Qh (Q1 (Q2 0) (Q1 (mC (.int 3)) (Q1 (mC (.int 3)) Q4)))))) (Ya (toB (Qb 3 Qw (Q1 (mOp oIx (Q2 0) (mC (.int 0))) (Q1 (mC (.int 0)) (Q1 (mC (.int 20)) Q4))))))) (Qq (mC (.bl yo))) Qs)
  (Qq (yb (Qb 1 Wc (Q1 (mOp oIx (Q2 0) (mC (.int 1))) Q4)) (Qb 2 V7 (Q1 (Qj Jv (Q1 (mOp oIx (Q2 0) (mC (.int 1))) Q4)) (Q1 (mOp oIx (Q2 0) (mC (.int 2))) Q4))))))
def V6:FN:=J8 Kn 1
theorem Q5w (F:Fun K "is_manner" "is_manner" Kb f fd) (T:Txt K mg)  (q:DefS P w K mg base 1 "is_sized_tuple" 3 Qh) (I:DefS P w K mg base 2 "is_between" 3 Qw) (G:DefS P w K mg base 2 "are_starts" 1 Wc) (J:DefS P w K mg base 6 "are_rules" 2 V7):FnOk P w K mg base (CXD P w) 7 f fd ["thing"] (spF mg 1 V6):=by
 have:FnScope ["thing"] ["thing"] (Q7 Kb):=by fail "c"
 delta V6 Kn
 fail "k"
def Wx:MS:=(Jf (Ya (toB (Qb 1 V6 (Q1 (Q2 0) Q4)))) (Q61 "NoManner" (mC (.str "this is no manner"))) Qs)
def Ju:FN:=J8 Wx 1
theorem Q2c (F:Fun K "need_manner" "need_manner" Uh f fd) (T:Txt K mg) (q:∃ C,mg "NoManner" = zo (.ref C)/\cO K C Q9b "ValueError.__new__" = zb) (G:DefS P w K mg base 7 "is_manner" 1 V6):FnOk P w K mg base (CXD P w) 8 f fd ["manner"] (spF mg 1 Ju):=by
 obtain ⟨_,_,_⟩:=q;have:FnScope ["manner"] ["manner"] (Q7 Uh):=by fail "c"
 delta Ju Wx
 fail "k"
def Kq:MS:=(Qq (Jh (Q1 (mOp oIx (Q2 0) (mC (.int 1))) (Q1 (Jh Q4) (Q1 (mC (.int 0)) Q4)))))
def Qz:FN:=J8 Kq 1
theorem Q5y (F:Fun K "beginning" "beginning" Ke f fd) (T:Txt K mg)   : FnOk P w K mg base (CXD P w) 1 f fd ["manner"] (spF mg 1 Qz):=by
 have:FnScope ["manner"] ["manner"] (Q7 Ke):=by fail "c"
 delta Qz Kq
 fail "k"
def Wy : MS := (Q8 (Jf (toB (mOp oNe (mOp oIx (mOp oIx (Q2 1) (mC (.int 0))) (mOp oIx (Q2 0) (mC (.int 0)))) (mOp oIx (Q2 0) (mC (.int 1))))) (Qq (mC (.bl yo))) Qs)
  (Qq (mOr (Qa7 yo ["go", "fall"] (mOp oIx (Q2 0) (mC (.int 2)))) (mOp (oIn yo) (Jh (Q1 (mOp oIx (Q2 0) (mC (.int 0))) (Q1 (mOp oIx (Q2 0) (mC (.int 2))) Q4))) (mOp oIx (Q2 1) (mC (.int 1)))))))
def Ye:FN:=J8 Wy 2
theorem Q2d (F:Fun K "may_be_done" "may_be_done" Ui f fd) (T:Txt K mg)   : FnOk P w K mg base (CXD P w) 1 f fd ["rule", "stand"] (spF mg 2 Ye):=by
 have:FnScope ["rule", "stand"] ["rule", "stand"] (Q7 Ui):=by fail "c"
 delta Ye Wy
 fail "k"
def Y0:ME:=(Q2 0)
def Zv:MT:=(toB (Qb 2 Ye (Q1 (Q2 1) (Q1 (Q2 2) Q4))))
def Yr:MS:=(Qq (jw (J5 [zl,zl,zo 1] (je (Ze (Qd 0) (Ze (Qd 1) jf))) (Q8g (Q1 (mOp oIx (Q2 0) (mC (.int 2))) Q4)) Zv Y0)))
def Qm:FN:=W9 Yr 2
theorem j7 (F:Fun K "numbers_that_may" "numbers_that_may" Yq f fd) (T:Txt K mg)  (q:DefS P w K mg base 1 "may_be_done" 2 Ye):FnOk P w K mg base (CXD P w) 2 f fd ["manner", "stand"] (spF mg 2 Qm):=by
 have:FnScope ["manner", "stand"] ["manner", "stand"] (Q7 Yq):=by fail "c"
 delta Qm Yr Zv Y0
 fail "K"
def W4 : MS := (Q8 (Qr 2 (mOp Qx (mOp Qx (mSl (mOp oIx (Q2 1) (mC (.int 0))) Zm (Zn (mOp oIx (Q2 0) (mC (.int 0))))) (Jh (Q1 (mOp oIx (Q2 0) (mC (.int 3))) Q4))) (mSl (mOp oIx (Q2 1) (mC (.int 0))) (Zn (mOp Qx (mOp oIx (Q2 0) (mC (.int 0))) (mC (.int 1)))) Zm)))
  (Qq (Jh (Q1 (Q2 2) (Q1 (Qj Yu (Q1 (qr (mOp Qx (mOp oIx (Q2 1) (mC (.int 1))) (mOp oIx (Q2 0) (mC (.int 5))))) Q4)) (Q1 (mOp Qx (mOp oIx (Q2 1) (mC (.int 2))) (mOp oIx (Q2 0) (mC (.int 4)))) Q4))))))
def Qu:FN:=J8 W4 3
theorem Q0v (F:Fun K "stand_behind" "stand_behind" Vs f fd) (T:Txt K mg)   : FnOk P w K mg base (CXD P w) 1 f fd ["rule", "stand"] (spF mg 2 Qu):=by
 have:FnScope ["rule", "stand", "states"] ["rule", "stand"] (Q7 Vs):=by fail "c"
 delta Qu W4
 fail "k"
def zd : MS := (Q8 (Ku (mBM Z5 (Q2 2) (Q1 (mOp oIx (xz (Q2 0) (Q2 3)) (mC (.int 0))) Q4)))
  (Qr 3 (mOp oIx (xz (Q2 0) (Q2 3)) (mC (.int 1)))))
def jn:MT:=(toB (mOp jt (xz (Q2 0) (Q2 3)) (mC .non)))
def Q2r : MS := (Q8 (Qr 2 (jw (Kt Q4)))
  (Q8 (Qr 3 (Q2 1))
  (Q8 (J3 jn zd 100000)
  (Qq (Yz (Qsj (Q2 2)))))))
def U3:FN:=W9 Q2r 4
theorem Qdr (F:Fun K "run_to" "run_to" Q1z f fd) (T:Txt K mg)   : FnOk P w K mg base (CXD P w) 1 f fd ["found", "stand"] (spF mg 2 U3):=by
 have:FnScope ["found", "stand", "run", "at"] ["found", "stand"] (Q7 Q1z):=by fail "c"
 delta U3 Q2r jn zd
 fail "K"
def Z7:MS:=(Jf (toB (mOp (oI λa b=>.bl (decide (b < a))) (mOp Qx (mOp oIx (Q2 2) (mC (.int 2))) (mOp oIx (mOp oIx (mOp oIx (Q2 0) (mC (.int 2))) (Q2 3)) (mC (.int 4)))) (mOp oIx (Q2 0) (mC (.int 0))))) (Qq (Jh (Q1 (Q2 3) (Q1 (Q2 2) Q4)))) Qs)
def Z8:MS:=(K5 (Qd 3) (Wr (Qb 2 Qm (Q1 (Q2 0) (Q1 (Q2 2) Q4)))) Z7)
def Yj : MS := (Q8 (K5 (Qd 2) (Wr (Q2 1)) Z8)
  (Qq (mC .non)))
def Z4:FN:=W9 Yj 4
theorem xm (F:Fun K "breaking_step" "breaking_step" V9 f fd) (T:Txt K mg)  (q:DefS P w K mg base 2 "numbers_that_may" 2 Qm):FnOk P w K mg base (CXD P w) 3 f fd ["manner", "stands"] (spF mg 2 Z4):=by
 have:FnScope ["manner", "stands", "stand", "number"] ["manner", "stands"] (Q7 V9):=by fail "c"
 delta Z4 Yj Z8 Z7
 fail "K"
def Yv : MS := (Q8 (Qr 6 (Qb 2 Qu (Q1 (mOp oIx (mOp oIx (Q2 0) (mC (.int 2))) (Q2 5)) (Q1 (Q2 4) Q4))))
  (Jf (toB (mOp (ju zb) (Q2 6) (Q2 1))) (Q8 (Xp (Q2 1) (Q2 6) (Jh (Q1 (Q2 5) (Q1 (Q2 4) Q4))))
  (Q8 (Ku (mBM Z5 (Q2 3) (Q1 (Q2 6) Q4)))
  (Jf (toB (mOp (oI λa b=>.bl (decide (b < a))) (Qj K2 (Q1 (Q2 1) Q4)) (mC (.int 2000)))) (Q61 "TooMany" (mC (.str "more stands than are walked through"))) Qs))) Qs))
def Yw:MS:=(K5 (Qd 5) (Wr (Qb 2 Qm (Q1 (Q2 0) (Q1 (Q2 4) Q4)))) Yv)
def Wq : MS := (Q8 (Qr 3 (jw (Kt Q4)))
  (Q8 (K5 (Qd 4) (Wr (Q2 2)) Yw)
  (Qq (Q2 3))))
def Zg:FN:=W9 Wq 7
theorem zt (F:Fun K "further_stands" "further_stands" Wk f fd) (T:Txt K mg) (G:∃ C,mg "TooMany" = zo (.ref C)/\cO K C Q9b "ValueError.__new__" = zb) (q:DefS P w K mg base 2 "numbers_that_may" 2 Qm) (I:DefS P w K mg base 1 "stand_behind" 2 Qu):FnOk P w K mg base (CXD P w) 3 f fd ["manner", "found", "stands"] (spF mg 3 Zg):=by
 obtain ⟨_,_,_⟩:=G;have:FnScope ["manner", "found", "stands", "further", "stand", "number", "after"] ["manner", "found", "stands"] (Q7 Wk):=by fail "c"
 delta Zg Wq Yw Yv
 fail "K"
def Wv : MS := (Q8 (Qr 3 (Qb 2 Z4 (Q1 (Q2 0) (Q1 (Q2 2) Q4))))
  (Q8 (Jf (toB (mOp jt (Q2 3) (mC .non))) (Qq (Jh (Q1 (Q2 1) (Q1 (jw (Q4r (Qb 2 U3 (Q1 (Q2 1) (Q1 (mOp oIx (Q2 3) (mC (.int 1))) Q4))) (Vz (Q1 (mOp oIx (Q2 3) (mC (.int 0))) Q4)))) Q4)))) Qs)
  (Qr 2 (Qb 3 Zg (Q1 (Q2 0) (Q1 (Q2 1) (Q1 (Q2 2) Q4)))))))
def Zu:MT:=(toB (mOp (oI λa b=>.bl (decide (b < a))) (Qj Jv (Q1 (Q2 2) Q4)) (mC (.int 0))))
def zy : MS := (Q8 (Qr 1 (qt (Qb 1 Qz (Q1 (Q2 0) Q4)) (mC .non)))
  (Q8 (Qr 2 (Vz (Q1 (Qb 1 Qz (Q1 (Q2 0) Q4)) Q4)))
  (Q8 (J3 Zu Wv 100000)
  (Qq (Jh (Q1 (Q2 1) (Q1 (mC .non) Q4)))))))
def qc:FN:=W9 zy 4
theorem Qdq (F:Fun K "walked" "walked" Q1y f fd) (T:Txt K mg)  (I:DefS P w K mg base 1 "beginning" 1 Qz) (G:DefS P w K mg base 3 "breaking_step" 2 Z4) (J:DefS P w K mg base 1 "run_to" 2 U3) (q:DefS P w K mg base 3 "further_stands" 3 Zg):FnOk P w K mg base (CXD P w) 4 f fd ["manner"] (spF mg 1 qc):=by
 have:FnScope ["manner", "found", "fresh", "step"] ["manner"] (Q7 Q1y):=by fail "c"
 delta qc zy Zu Wv
 fail "K"
def Q19 : MS := (Q8 (Ku (Qb 1 Ju (Q1 (Q2 0) Q4)))
  (Q8 (Qr 1 (Qb 1 qc (Q1 (Q2 0) Q4)))
  (Q8 (Jf (toB (mOp jt (mOp oIx (Q2 1) (mC (.int 1))) (mC .non))) (Qq (Jh (Q1 (mC (.str "breaks")) (Q1 (mOp oIx (Q2 1) (mC (.int 1))) Q4)))) Qs)
  (Qq (Jh (Q1 (mC (.str "keeps")) (Q1 (jw (Q1b (mOp oIx (Q2 1) (mC (.int 0))))) Q4)))))))
def j4:FN:=W9 Q19 2
theorem Qh3 (F:Fun K "tried" "tried" Q5i f fd) (T:Txt K mg)  (q:DefS P w K mg base 8 "need_manner" 1 Ju) (G:DefS P w K mg base 4 "walked" 1 qc):FnOk P w K mg base (CXD P w) 9 f fd ["manner"] (spF mg 1 j4):=by
 have:FnScope ["manner", "walk"] ["manner"] (Q7 Q5i):=by fail "c"
 delta j4 Q19
 fail "K"
def K1:ME:=(Qb 1 Zf (Q1 (Q2 0) Q4))
def K0:ME:=(Qb 2 Y3 (Q1 (Q2 1) (Q1 (Q2 0) Q4)))
def Ut : MS := (Q8 (Qr 2 (Qj Jv (Q1 (mOp oIx (Q2 0) (mC (.int 1))) Q4)))
  (Q8 (Jf (Uz (Ya (toB (Qb 3 Qh (Q1 (Q2 1) (Q1 (mC (.int 3)) (Q1 (mC (.int 3)) Q4)))))) (Uz (Ya (toB (Qb 3 Qh (Q1 (mOp oIx (Q2 1) (mC (.int 0))) (Q1 (Q2 2) (Q1 (Q2 2) Q4)))))) (Ya (toB (Q63 "tuple" (mOp oIx (Q2 1) (mC (.int 1)))))))) (Qq (mC (.bl yo))) Qs)
  (Q8 (Jf (Uz (Ya (toB (Qj (Xv λns=>.bl (ns.all id)) (Q1 (Yz (J5 [zl] (Qd 0) (Wr (mOp oIx (Q2 1) (mC (.int 0)))) Jy K1)) Q4)))) (Ya (toB (Qj (Xv λns=>.bl (ns.all id)) (Q1 (Yz (J5 [zl,zo 2] (Qd 0) (Wr (mOp oIx (Q2 1) (mC (.int 1)))) Jy K0)) Q4))))) (Qq (mC (.bl yo))) Qs)
  (Qq (yb (Qb 1 Yy (Q1 (mOp oIx (Q2 1) (mC (.int 1))) Q4)) (Qb 1 Y2 (Q1 (mOp oIx (Q2 1) (mC (.int 2))) Q4)))))))
def Yf:FN:=J8 Ut 3
theorem Q2e (F:Fun K "is_stand_of" "is_stand_of" Uj f fd) (T:Txt K mg)  (q:DefS P w K mg base 1 "is_sized_tuple" 3 Qh) (O:DefS P w K mg base 1 "is_word" 1 Zf) (I:DefS P w K mg base 3 "is_letter" 2 Y3) (G:DefS P w K mg base 1 "is_rising" 1 Yy) (J:DefS P w K mg base 1 "is_whole" 1 Y2):FnOk P w K mg base (CXD P w) 4 f fd ["manner", "thing"] (spF mg 2 Yf):=by
 have:FnScope ["manner", "thing", "n"] ["manner", "thing"] (Q7 Uj):=by fail "c"
 delta Yf Ut K0 K1
 fail "k"
def Wu:ME:=(mOp (ju yo) (Qb 2 Qu (Q1 (mOp oIx (mOp oIx (Q2 3) (mC (.int 2))) (Q2 0)) (Q1 (Q2 2) Q4))) (Q2 1))
def W5 : MS := (Q8 (Jf (toB (mOp (oI λa b => .bl (decide (b < a))) (mOp oIx (Q2 2) (mC (.int 2))) (mOp oIx (Q2 0) (mC (.int 0))))) (Qq (mC (.bl yo))) Qs)
  (Qq (Qj (Xv λns=>.bl (ns.all id)) (Q1 (Yz (J5 [zl,zo 1,zo 2,zo 0] (Qd 0) (Wr (Qb 2 Qm (Q1 (Q2 0) (Q1 (Q2 2) Q4)))) Jy Wu)) Q4))))
def Y4:FN:=J8 W5 3
theorem Q0w (F:Fun K "is_closed_at" "is_closed_at" Vt f fd) (T:Txt K mg)  (q:DefS P w K mg base 2 "numbers_that_may" 2 Qm) (G:DefS P w K mg base 1 "stand_behind" 2 Qu):FnOk P w K mg base (CXD P w) 3 f fd ["manner", "among", "stand"] (spF mg 3 Y4):=by
 have:FnScope ["manner", "among", "stand"] ["manner", "among", "stand"] (Q7 Vt):=by fail "c"
 delta Y4 W5 Wu
 fail "k"
def Q09:ME:=(Qb 2 Yf (Q1 (Q2 1) (Q1 (Q2 0) Q4)))
def Q08:ME:=(Jh (Q1 (Q2 0) (Q1 (mC (.bl zb)) Q4)))
def qx:ME:=(Qb 3 Y4 (Q1 (Q2 1) (Q1 (Q2 2) (Q1 (Q2 0) Q4))))
def Q1a : MS := (Q8 (Ku (Qb 1 Ju (Q1 (Q2 0) Q4)))
  (Q8 (Jf (Uz (toB (mOp (oI λa b=>.bl (decide (b < a))) (Qj Jv (Q1 (Q2 1) Q4)) (mC (.int 2000)))) (Ya (toB (Qj (Xv λns=>.bl (ns.all id)) (Q1 (Yz (J5 [zl,zo 0] (Qd 0) (Wr (Q2 1)) Jy Q09)) Q4))))) (Qq (mC (.bl yo))) Qs)
  (Q8 (Qr 2 (Qj Q0d (Q1 (Yz (J5 [zl] (Qd 0) (Wr (Q2 1)) Jy Q08)) Q4)))
  (Q8 (Jf (Uz (toB (mOp oLt (Qj K2 (Q1 (Q2 2) Q4)) (Qj Jv (Q1 (Q2 1) Q4)))) (toB (mOp (ju zb) (Qb 1 Qz (Q1 (Q2 0) Q4)) (Q2 2)))) (Qq (mC (.bl yo))) Qs)
  (Qq (Qj (Xv λns=>.bl (ns.all id)) (Q1 (Yz (J5 [zl,zo 0,zo 2] (Qd 0) (Wr (Q2 1)) Jy qx)) Q4)))))))
def yx:FN:=W9 Q1a 3
theorem Qh4 (F:Fun K "keeps" "keeps" Q5j f fd) (T:Txt K mg)  (I:DefS P w K mg base 8 "need_manner" 1 Ju) (G:DefS P w K mg base 4 "is_stand_of" 2 Yf) (J:DefS P w K mg base 1 "beginning" 1 Qz) (q:DefS P w K mg base 3 "is_closed_at" 3 Y4):FnOk P w K mg base (CXD P w) 9 f fd ["manner", "stands"] (spF mg 2 yx):=by
 have:FnScope ["manner", "stands", "among"] ["manner", "stands"] (Q7 Q5j):=by fail "c"
 delta yx Q1a qx Q08 Q09
 fail "K"
def Y7 : MS := (Q8 (Jf (toB (mOp (oI λa b => .bl (decide (b <= a))) (Q2 0) (mOp Qa2 (mC (.int 10)) (mC (.int 18))))) (Qq (Q2 0)) Qs)
  (Q8 (Qr 2 (mOp zw (mOp Qx (mOp Qx (mOp Kj (mOp zw (Q2 0) (mC (.int 998244353))) (mC (.int 51749))) (mOp Kj (Q2 1) (mC (.int 7919)))) (mC (.int 3))) (mC (.int 1000000007))))
  (Q8 (Qr 3 (mOp zw (mOp Qx (mOp Qx (mOp Qx (mOp Kj (Q2 2) (Q2 2)) (mOp Kj (mC (.int 32749)) (Q2 2))) (Q2 1)) (mC (.int 5))) (mC (.int 2147483629))))
  (Q8 (Qr 4 (mOp zw (mOp Qx (mOp Qx (mOp Kj (Q2 3) (Q2 3)) (mOp Kj (mC (.int 61)) (Q2 1))) (Q2 2)) (mC (.int 2147483587))))
  (Qq (mOp Qx (mOp Kj (Q2 3) (mC (.int 2147483587))) (Q2 4)))))))
def J0:FN:=J8 Y7 5
theorem zu (F:Fun K "_law_e_stirred" "_law_e_stirred" Wm f fd) (T:Txt K mg)   : FnOk P w K mg base (CXD P w) 1 f fd ["cell", "place"] (spF mg 2 J0):=by
 have:FnScope ["cell", "place", "first", "second", "third"] ["cell", "place"] (Q7 Wm):=by fail "c"
 delta J0 Y7
 fail "k"
def Zy : MS := (Q8 (Jf (toB (mOp oLt (mOp oIx (Q2 0) (mC (.int 2))) (Q2 1))) (Q8 (Qr 2 (mOp oIx (Q2 0) (mC (.int 1))))
  (Q8 (Qr 3 (Q2 2))
  (Q8 (Jf (toB (mOp oLt (Q2 2) (Qj Jv (Q1 (mOp oIx (Q2 0) (mC (.int 0))) Q4)))) (Qr 3 (mOp oIx (mOp oIx (Q2 0) (mC (.int 0))) (Q2 2))) (Jf (toB (mOp (oI λa b=>.bl (decide (b < a))) (Qj Jv (Q1 (mOp oIx (Q2 0) (mC (.int 0))) Q4)) (mC (.int 0)))) (Qr 3 (mOp Qx (mOp zw (mOp oIx (mOp oIx (Q2 0) (mC (.int 0))) (mOp zw (mOp Kj (Q2 2) (mC (.int 3))) (Qj Jv (Q1 (mOp oIx (Q2 0) (mC (.int 0))) Q4)))) (mOp Qa2 (mC (.int 10)) (mC (.int 9)))) (mOp Kj (Q2 2) (mC (.int 1000000))))) Qs))
  (Q8 (Xn (Q2 0) (mC (.int 1)) (mOp Qx (Q2 2) (mC (.int 1))))
  (Xn (Q2 0) (mC (.int 2)) (Qb 2 J0 (Q1 (Q2 3) (Q1 (Q2 2) Q4)))))))) Qs)
  (Q8 (Qr 4 (mOp zw (mOp oIx (Q2 0) (mC (.int 2))) (Q2 1)))
  (Q8 (Xn (Q2 0) (mC (.int 2)) (mOp Qbq (mOp oIx (Q2 0) (mC (.int 2))) (Q2 1)))
  (Qq (Q2 4)))))
def Qc:FN:=J8 Zy 5
theorem Q0x (F:Fun K "_law_e_digit" "_law_e_digit" Vu f fd) (T:Txt K mg)  (q:DefS P w K mg base 1 "_law_e_stirred" 2 J0):FnOk P w K mg base (CXD P w) 2 f fd ["tape", "many"] (spF mg 2 Qc):=by
 have:FnScope ["tape", "many", "place", "cell", "digit"] ["tape", "many"] (Q7 Vu):=by fail "c"
 delta Qc Zy
 fail "k"
def Ym:ME:=(mOp Qmm (mC (.str "abgoflz")) (Qb 2 Qc (Q1 (Q2 1) (Q1 (mC (.int 7)) Q4))))
def V0 : MS := (Q8 (Jf (toB (mOp oEq (Qb 2 Qc (Q1 (Q2 0) (Q1 (mC (.int 4)) Q4))) (mC (.int 0)))) (Qq (mOp oIx (Vz (Q1 (mC (.str "go")) (Q1 (mC (.str "fall")) (Q1 (mC (.str "gone")) (Q1 (mC (.str "fallen")) (Q1 (mC (.str "gofall")) (Q1 (mC (.str "a")) (Q1 (mC (.str "aa")) (Q1 (mC (.str "abcdefgh")) Q4))))))))) (Qb 2 Qc (Q1 (Q2 0) (Q1 (mC (.int 8)) Q4))))) Qs)
  (Qq (Qbx (mC (.str "")) (Q1 (Yz (J5 [zl,zo 0] (Qd 0) (Zk (Q1 (mOp Qx (mC (.int 1)) (Qb 2 Qc (Q1 (Q2 0) (Q1 (mC (.int 4)) Q4)))) Q4)) Jy Ym)) Q4))))
def Zb:FN:=W9 V0 1
theorem Q2h (F:Fun K "_law_e_name" "_law_e_name" Up f fd) (T:Txt K mg)  (q:DefS P w K mg base 2 "_law_e_digit" 2 Qc):FnOk P w K mg base (CXD P w) 3 f fd ["tape"] (spF mg 1 Zb):=by
 have:FnScope ["tape"] ["tape"] (Q7 Up):=by fail "c"
 delta Zb V0 Ym
 fail "K"
def Je : MS := (Q8 (Qr 1 (Qb 1 Zb (Q1 (Q2 0) Q4)))
  (Q8 (Jf (Uz (toB (mOp oEq (Q2 1) (mC (.str "go")))) (toB (mOp oEq (Q2 1) (mC (.str "fall"))))) (Qq (mOp Qx (Q2 1) (mC (.str "a")))) Qs)
  (Qq (Q2 1))))
def Jg:FN:=W9 Je 2
theorem K4 (F:Fun K "_law_e_letter_name" "_law_e_letter_name" Zw f fd) (T:Txt K mg)  (q:DefS P w K mg base 3 "_law_e_name" 1 Zb):FnOk P w K mg base (CXD P w) 4 f fd ["tape"] (spF mg 1 Jg):=by
 have:FnScope ["tape", "name"] ["tape"] (Q7 Zw):=by fail "c"
 delta Jg Je
 fail "K"
def Vf:MS:=(Ku (mBM Z5 (Q2 9) (Q1 (Jh (Q1 (Qb 2 Qc (Q1 (Q2 0) (Q1 (Q2 1) Q4))) (Q1 (mOp oIx (Q2 3) (Qb 2 Qc (Q1 (Q2 0) (Q1 (Qj Jv (Q1 (Q2 3) Q4)) Q4)))) Q4))) Q4)))
def Uu : MS := (Q8 (Qr 4 (Qb 2 Qc (Q1 (Q2 0) (Q1 (Q2 1) Q4))))
  (Q8 (Qr 5 (mOp oIx (Q2 2) (Qb 2 Qc (Q1 (Q2 0) (Q1 (Qj Jv (Q1 (Q2 2) Q4)) Q4)))))
  (Q8 (Qr 6 (mOp oIx (Vz (Q1 (mC (.str "go")) (Q1 (mC (.str "go")) (Q1 (mC (.str "fall")) (Q1 (mOp oIx (Q2 3) (Qb 2 Qc (Q1 (Q2 0) (Q1 (Qj Jv (Q1 (Q2 3) Q4)) Q4)))) Q4))))) (Qb 2 Qc (Q1 (Q2 0) (Q1 (mC (.int 4)) Q4)))))
  (Q8 (Qr 7 (mOp oIx (Q2 2) (Qb 2 Qc (Q1 (Q2 0) (Q1 (Qj Jv (Q1 (Q2 2) Q4)) Q4)))))
  (Q8 (Qr 8 (mOp oIx (Vz (Q1 (mC (.int 0)) (Q1 (mC (.int 0)) (Q1 (mC (.int 0)) (Q1 (mC (.int 1)) (Q1 (mC (.int 1)) (Q1 (mC (.int 2)) (Q1 (mC (.int 9)) Q4)))))))) (Qb 2 Qc (Q1 (Q2 0) (Q1 (mC (.int 7)) Q4)))))
  (Q8 (Qr 9 (jw (Kt Q4)))
  (Q8 (K5 (Qd 10) (Zk (Q1 (mOp oIx (Vz (Q1 (mC (.int 0)) (Q1 (mC (.int 0)) (Q1 (mC (.int 1)) (Q1 (mC (.int 2)) (Q1 (mC (.int 3)) (Q1 (mC (.int 8)) Q4))))))) (Qb 2 Qc (Q1 (Q2 0) (Q1 (mC (.int 6)) Q4)))) Q4)) Vf)
  (Qq (Jh (Q1 (Q2 4) (Q1 (Q2 5) (Q1 (Q2 6) (Q1 (Q2 7) (Q1 (Q2 8) (Q1 (Qj Yu (Q1 (Q2 9) Q4)) Q4)))))))))))))))
def Yg:FN:=W9 Uu 11
theorem Q2g (F:Fun K "_law_e_rule" "_law_e_rule" Um f fd) (T:Txt K mg)  (q:DefS P w K mg base 2 "_law_e_digit" 2 Qc):FnOk P w K mg base (CXD P w) 3 f fd ["tape", "n", "states", "names"] (spF mg 4 Yg):=by
 have:FnScope ["tape", "n", "states", "names", "house", "state", "event", "onward", "use", "letters", "turn"] ["tape", "n", "states", "names"] (Q7 Um):=by fail "c"
 delta Yg Uu Vf
 fail "K"
def yj:ME:=(Qb 1 Zb (Q1 (Q2 1) Q4))
def yi:ME:=(Qb 1 Jg (Q1 (Q2 1) Q4))
def Ue:MS:=(Xp (Q2 8) (Qb 4 Yg (Q1 (Q2 0) (Q1 (Q2 2) (Q1 (Q2 6) (Q1 (Q2 7) Q4))))) (mC (.bl zb)))
def Ud:ME:=(mOp oIx (Q2 1) (Qb 2 Qc (Q1 (Q2 2) (Q1 (Q2 3) Q4))))
def Vd : MS := (Q8 (Qr 1 (Vz (Q1 (Jh (Q1 (mC (.int 2)) (Q1 (mC (.int 3)) (Q1 (mC (.int 2)) (Q1 (mC (.int 4)) Q4))))) (Q1 (Jh (Q1 (mC (.int 3)) (Q1 (mC (.int 2)) (Q1 (mC (.int 1)) (Q1 (mC (.int 4)) Q4))))) (Q1 (Jh (Q1 (mC (.int 1)) (Q1 (mC (.int 2)) (Q1 (mC (.int 1)) (Q1 (mC (.int 21)) Q4))))) (Q1 (Jh (Q1 (mC (.int 2)) (Q1 (mC (.int 2)) (Q1 (mC (.int 1)) (Q1 (mC (.int 21)) Q4))))) (Q1 (Jh (Q1 (mC (.int 4)) (Q1 (mC (.int 2)) (Q1 (mC (.int 1)) (Q1 (mC (.int 2)) Q4))))) Q4)))))))
  (Q8 (Qe1 (je (Ze (Qd 2) (Ze (Qd 3) (Ze (Qd 4) (Ze (Qd 5) jf))))) (mOp oIx (Q2 1) (Qb 2 Qc (Q1 (Q2 0) (Q1 (mC (.int 5)) Q4)))))
  (Q8 (Qr 6 (Yz (J5 [zl,zo 0] (Qd 0) (Zk (Q1 (Q2 3) Q4)) Jy yj)))
  (Q8 (Qr 7 (Yz (J5 [zl,zo 0] (Qd 0) (Zk (Q1 (Q2 4) Q4)) Jy yi)))
  (Q8 (Qr 8 Q2t)
  (Q8 (K5 (Qd 9) (Zk (Q1 (Qb 2 Qc (Q1 (Q2 0) (Q1 (mC (.int 10)) Q4))) Q4)) Ue)
  (Q8 (Qr 10 (Qj Yu (Q1 (Yz (J5 [zl,zo 6,zo 0,zo 3] (Qd 0) (Zk (Q1 (Q2 2) Q4)) Jy Ud)) Q4)))
  (Qq (Jh (Q1 (Qb 2 Qc (Q1 (Q2 0) (Q1 (Q2 5) Q4))) (Q1 (Q2 10) (Q1 (Qj Yu (Q1 (Qj U1 (Q1 (Q2 8) Q4)) Q4)) Q4))))))))))))
def Yp:FN:=W9 Vd 11
theorem sc__law_e_manner:FnScope ["tape", "sizes", "n", "many", "words", "most", "states", "names", "rules", "turn", "starts"] ["tape"] (Q7 Va):=⟨rfl,rfl,rfl,by decide +kernel,rfl,by decide +kernel,by decide +kernel⟩
theorem xn (F:Fun K "_law_e_manner" "_law_e_manner" Va f fd) (T:Txt K mg)  (q:DefS P w K mg base 2 "_law_e_digit" 2 Qc) (I:DefS P w K mg base 3 "_law_e_name" 1 Zb) (G:DefS P w K mg base 4 "_law_e_letter_name" 1 Jg) (J:DefS P w K mg base 3 "_law_e_rule" 4 Yg):FnOk P w K mg base (CXD P w) 5 f fd ["tape"] (spF mg 1 Yp):=by
 refine Q8t (k:=4) (m:=Vd) F sc__law_e_manner rfl rfl rfl λU A outer s H E O=>?_
 exact (U8 (yz 1 sc__law_e_manner.nd (Qft (Qg (jp (Qg Jx (Qg Jx (Qg Jx (Qg Jx Jd))))) (Qg (jp (Qg Jx (Qg Jx (Qg Jx (Qg Jx Jd))))) (Qg (jp (Qg Jx (Qg Jx (Qg Jx (Qg Jx Jd))))) (Qg (jp (Qg Jx (Qg Jx (Qg Jx (Qg Jx Jd))))) (Qg (jp (Qg Jx (Qg Jx (Qg Jx (Qg Jx Jd))))) Jd)))))))
  (U8 (Qfg (Qfu (Jp 1) (Ww q (O.mono (by decide)) Kh rfl (Qg (Jp 0) (Qg Jx Jd)))) (Qfm rfl (K7 (W1 (i:=2) sc__law_e_manner.nd) (K7 (W1 (i:=3) sc__law_e_manner.nd) (K7 (W1 (i:=4) sc__law_e_manner.nd) (K7 (W1 (i:=5) sc__law_e_manner.nd) Qbh))))))
  (U8 (by first | exact Q79 [zl,zo 0] ["turn", "tape"] 6 sc__law_e_manner.nd rfl (Wi rfl T.b_range (Qg (Jp 3) Jd)) (λ_ _ _ _ _=>(W1 (i:=0) (show (["turn", "tape"]:List Str).Nodup by decide +kernel))) (λ_ _ _ _ _=>(Ww I (O.mono (by decide)) qp rfl (Qg (Jp 1) Jd))) (λ_ _ _ _ _=>qh) Vm | exact yz 6 sc__law_e_manner.nd (Q5h (Q14 [zl,zo 0] ["turn", "tape"] rfl (Wi rfl T.b_range (Qg (Jp 3) Jd)) (λ_ _ _ _ _=>(W1 (i:=0) (show (["turn", "tape"]:List Str).Nodup by decide +kernel))) (λ_ _ _ _ _=>(Ww I (O.mono (by decide)) qp rfl (Qg (Jp 1) Jd))) (λ_ _ _ _ _=>qh) Vm)))
  (U8 (by first | exact Q79 [zl,zo 0] ["turn", "tape"] 7 sc__law_e_manner.nd rfl (Wi rfl T.b_range (Qg (Jp 4) Jd)) (λ_ _ _ _ _=>(W1 (i:=0) (show (["turn", "tape"]:List Str).Nodup by decide +kernel))) (λ_ _ _ _ _=>(Ww G (O.mono (by decide)) qp rfl (Qg (Jp 1) Jd))) (λ_ _ _ _ _=>qh) Vm | exact yz 7 sc__law_e_manner.nd (Q5h (Q14 [zl,zo 0] ["turn", "tape"] rfl (Wi rfl T.b_range (Qg (Jp 4) Jd)) (λ_ _ _ _ _=>(W1 (i:=0) (show (["turn", "tape"]:List Str).Nodup by decide +kernel))) (λ_ _ _ _ _=>(Ww G (O.mono (by decide)) qp rfl (Qg (Jp 1) Jd))) (λ_ _ _ _ _=>qh) Vm)))
  (U8 (yz 8 sc__law_e_manner.nd Q7f)
  (U8 (Qfe PassesOwn.leaving rfl (Wi rfl T.b_range (Qg (Ww q (O.mono (by decide)) Kh rfl (Qg (Jp 0) (Qg Jx Jd))) Jd)) (W1 (i:=9) sc__law_e_manner.nd) (Q9p (Q78 (Qbj O) Qpa (Jp 8) (Ww J (O.mono (by decide)) Kh rfl (Qg (Jp 0) (Qg (Jp 2) (Qg (Jp 6) (Qg (Jp 7) Jd))))))))
  (U8 (yz 10 sc__law_e_manner.nd (Vr Q39 rfl T.b_tuple zc (Qg (Q5h (Q14 [zl,zo 6,zo 0,zo 3] ["house", "states", "tape", "many"] rfl (Wi rfl T.b_range (Qg (Jp 2) Jd)) (λ_ _ _ _ _=>(W1 (i:=0) (show (["house", "states", "tape", "many"]:List Str).Nodup by decide +kernel))) (λ_ _ _ _ _=>(Qfu (Jp 1) (Ww q (O.mono (by decide)) qp rfl (Qg (Jp 2) (Qg (Jp 3) Jd))))) (λ_ _ _ _ _=>qh) Vm)) Jd)))
  (Q9p (Qfc (jp (Qg (Ww q (O.mono (by decide)) Kh rfl (Qg (Jp 0) (Qg (Jp 5) Jd))) (Qg (Jp 10) (Qg (Vr Q39 rfl T.b_tuple zc (Qg (Vr (Q92 rfl) rfl T.b_list X7 (Qg (Jp 8) Jd)) Jd)) Jd)))))))))))))
def V1 : MS := (Q8 (Jf (toB (mOp oNe (mOp oIx (mOp oIx (Q2 1) (mC (.int 0))) (mOp oIx (Q2 0) (mC (.int 0)))) (mOp oIx (Q2 0) (mC (.int 1))))) (Qq (mC (.bl yo))) Qs)
  (Qq (mOr (mOp oEq (mOp oIx (Q2 0) (mC (.int 2))) (mC (.str "go"))) (mOr (mOp oEq (mOp oIx (Q2 0) (mC (.int 2))) (mC (.str "fall"))) (mOp (oIn yo) (Jh (Q1 (mOp oIx (Q2 0) (mC (.int 0))) (Q1 (mOp oIx (Q2 0) (mC (.int 2))) Q4))) (mOp oIx (Q2 1) (mC (.int 1))))))))
def Jc:FN:=J8 V1 2
theorem Q2i (F:Fun K "_law_e_fits" "_law_e_fits" Uq f fd) (T:Txt K mg)   : FnOk P w K mg base (CXD P w) 1 f fd ["rule", "stand"] (spF mg 2 Jc):=by
 have:FnScope ["rule", "stand"] ["rule", "stand"] (Q7 Uq):=by fail "c"
 delta Jc V1
 fail "k"
def Yn:MS:=(Xp (Q2 3) (Q2 4) (mC (.bl zb)))
def Wz : MS := (Q8 (Qr 2 (jw (Q62 (mOp oIx (Q2 1) (mC (.int 0))))))
  (Q8 (Xn (Q2 2) (mOp oIx (Q2 0) (mC (.int 0))) (mOp oIx (Q2 0) (mC (.int 3))))
  (Q8 (Qr 3 Q2t)
  (Q8 (K5 (Qd 4) (Wr (mOp Qx (mOp oIx (Q2 1) (mC (.int 1))) (mOp oIx (Q2 0) (mC (.int 5))))) Yn)
  (Qq (Jh (Q1 (Qj Yu (Q1 (Q2 2) Q4)) (Q1 (Qj Yu (Q1 (Qj Q3d (Q1 (Q2 3) Q4)) Q4)) (Q1 (mOp Qx (mOp oIx (Q2 1) (mC (.int 2))) (mOp oIx (Q2 0) (mC (.int 4)))) Q4)))))))))
def J2:FN:=J8 Wz 5
theorem Q2f (F:Fun K "_law_e_step" "_law_e_step" Uk f fd) (T:Txt K mg)   : FnOk P w K mg base (CXD P w) 1 f fd ["rule", "stand"] (spF mg 2 J2):=by
 have:FnScope ["rule", "stand", "states", "letters", "letter"] ["rule", "stand"] (Q7 Uk):=by fail "c"
 delta J2 Wz Yn
 fail "k"
def J7 : MS := (Jf (toB (Qb 2 Jc (Q1 (Q2 6) (Q1 (Q2 5) Q4)))) (Q8 (Qr 7 (Qb 2 J2 (Q1 (Q2 6) (Q1 (Q2 5) Q4))))
  (Q8 (Jf (toB (mOp (oI λa b=>.bl (decide (b < a))) (mOp oIx (Q2 7) (mC (.int 2))) (mOp oIx (Q2 0) (mC (.int 0))))) (Qq (Jh (Q1 (Q2 1) (Q1 (Q2 3) Q4)))) Qs)
  (Jf (toB (mOp (ju zb) (Q2 7) (Q2 1))) (Q8 (Xp (Q2 1) (Q2 7) (Q2 3))
  (Ku (mBM Z5 (Q2 4) (Q1 (Q2 7) Q4)))) Qs))) Qs)
def Z9:MS:=(K5 (Qd 6) (Wr (mOp oIx (Q2 0) (mC (.int 2)))) J7)
def Jj : MS := (Q8 (Qr 3 (mOp Qx (Q2 3) (mC (.int 1))))
  (Q8 (Qr 4 (jw (Kt Q4)))
  (Q8 (K5 (Qd 5) (Wr (Q2 2)) Z9)
  (Qr 2 (Q2 4)))))
def Ji:MT:=(toB (mOp oNe (Q2 2) (Vz Q4)))
def Yk : MS := (Q8 (Qr 1 Q2t)
  (Q8 (Xp (Q2 1) (Jh (Q1 (mOp oIx (Q2 0) (mC (.int 1))) (Q1 (Jh Q4) (Q1 (mC (.int 0)) Q4)))) (mC (.int 0)))
  (Q8 (Qr 2 (Qj U1 (Q1 (Q2 1) Q4)))
  (Q8 (Qr 3 (mC (.int 0)))
  (Q8 (J3 Ji Jj 100000)
  (Qq (Jh (Q1 (Q2 1) (Q1 (mC (.int 0)) Q4)))))))))
def Zp:FN:=W9 Yk 8
theorem xq (F:Fun K "_law_e_levels" "_law_e_levels" Vb f fd) (T:Txt K mg)  (q:DefS P w K mg base 1 "_law_e_fits" 2 Jc) (G:DefS P w K mg base 1 "_law_e_step" 2 J2):FnOk P w K mg base (CXD P w) 2 f fd ["manner"] (spF mg 1 Zp):=by
 have:FnScope ["manner", "known", "level", "depth", "fresh", "stand", "rule", "there"] ["manner"] (Q7 Vb):=by fail "c"
 delta Zp Yk Ji Jj Z9 J7
 fail "K"
def Wa:MS:=(Xp (Q2 2) (Q2 3) (mC (.bl zb)))
def Jk:MS:=(Jf (zh (toB (Qb 2 Jc (Q1 (Q2 4) (Q1 (Q2 3) Q4)))) (toB (mOp (ju zb) (Qb 2 J2 (Q1 (Q2 4) (Q1 (Q2 3) Q4))) (Q2 2)))) (Qq (mC (.bl yo))) Qs)
def Za : MS := (Q8 (Jf (toB (mOp (oI λa b => .bl (decide (b < a))) (mOp oIx (Q2 3) (mC (.int 2))) (mOp oIx (Q2 0) (mC (.int 0))))) (Qq (mC (.bl yo))) Qs)
  (K5 (Qd 4) (Wr (mOp oIx (Q2 0) (mC (.int 2)))) Jk))
def Jq : MS := (Q8 (Qr 2 Q2t)
  (Q8 (K5 (Qd 3) (Wr (Q2 1)) Wa)
  (Q8 (Jf (Uz (toB (mOp oNe (Qj K2 (Q1 (Q2 2) Q4)) (Qj Jv (Q1 (Q2 1) Q4)))) (Uz (toB (mOp (oI λa b=>.bl (decide (b < a))) (Qj Jv (Q1 (Q2 1) Q4)) (mC (.int 2000)))) (toB (mOp (ju zb) (Jh (Q1 (mOp oIx (Q2 0) (mC (.int 1))) (Q1 (Jh Q4) (Q1 (mC (.int 0)) Q4)))) (Q2 2))))) (Qq (mC (.bl yo))) Qs)
  (Q8 (K5 (Qd 3) (Wr (Q2 1)) Za)
  (Qq (mC (.bl zb)))))))
def Zq:FN:=W9 Jq 5
theorem xr (F:Fun K "_law_e_closed" "_law_e_closed" Vc f fd) (T:Txt K mg)  (q:DefS P w K mg base 1 "_law_e_fits" 2 Jc) (G:DefS P w K mg base 1 "_law_e_step" 2 J2):FnOk P w K mg base (CXD P w) 2 f fd ["manner", "stands"] (spF mg 2 Zq):=by
 have:FnScope ["manner", "stands", "known", "stand", "rule"] ["manner", "stands"] (Q7 Vc):=by fail "c"
 delta Zq Jq Za Jk Wa
 fail "K"
def Uv : MS := (Q8 (Qr 3 (Qb 2 Qc (Q1 (Q2 0) (Q1 (Qj Jv (Q1 (Q2 2) Q4)) Q4))))
  (Q8 (Qe1 (je (Ze (Qd 4) (Ze (Qd 5) (Ze (Qd 6) jf)))) (mOp oIx (Q2 2) (Q2 3)))
  (Q8 (Qr 7 (Qb 2 Qc (Q1 (Q2 0) (Q1 (mC (.int 8)) Q4))))
  (Q8 (Jf (toB (mOp oEq (Q2 7) (mC (.int 0)))) (Qq (mOp Qx (mSl (Q2 2) Zm (Zn (Q2 3))) (mSl (Q2 2) (Zn (mOp Qx (Q2 3) (mC (.int 1)))) Zm))) Qs)
  (Q8 (Jf (toB (mOp oEq (Q2 7) (mC (.int 1)))) (Qq (mOp Qx (Q2 2) (mSl (Q2 2) (Zn (Q2 3)) (Zn (mOp Qx (Q2 3) (mC (.int 1))))))) Qs)
  (Q8 (Jf (toB (mOp oEq (Q2 7) (mC (.int 2)))) (Qq (Yz (Q8d (Q2 2) (Q8e (mC (.int 1)))))) Qs)
  (Q8 (Jf (toB (mOp oEq (Q2 7) (mC (.int 3)))) (Qq (mSl (Q2 2) Zm (Zn (mOp Qx (Q2 3) (mC (.int 1)))))) Qs)
  (Q8 (Qr 8 (Vz (Q1 (Jh (Q1 (Q2 4) (Q1 (Q2 5) (Q1 (mOp Qx (Q2 6) (mC (.int 1))) Q4)))) (Q1 (Jh (Q1 (Q2 4) (Q1 (mOp Qx (Q2 5) (Jh (Q1 (Jh (Q1 (mOp (oI λa b=>.int (a - b)) (Qj Jv (Q1 (Q2 4) Q4)) (mC (.int 1))) (Q1 (mC (.str "zzzzzzzz")) Q4))) Q4))) (Q1 (Q2 6) Q4)))) Q4))))
  (Q8 (Qr 8 (mOp Qx (Q2 8) (Vz (Q1 (Jh (Q1 (Q2 4) (Q1 (Jh Q4) (Q1 (Q2 6) Q4)))) (Q1 (Jh (Q1 (Q4q (Q2 4) (Q8e (mC (.int 1)))) (Q1 (Q2 5) (Q1 (Q2 6) Q4)))) Q4)))))
  (Qq (mOp Qx (Q2 2) (Vz (Q1 (mOp oIx (Q2 8) (mOp (oI λa b=>.int (a - b)) (Q2 7) (mC (.int 4)))) Q4)))))))))))))
def Yh:FN:=W9 Uv 9
theorem Q2j (F:Fun K "_law_e_bent" "_law_e_bent" Ur f fd) (T:Txt K mg)  (q:DefS P w K mg base 2 "_law_e_digit" 2 Qc):FnOk P w K mg base (CXD P w) 3 f fd ["tape", "manner", "stands"] (spF mg 3 Yh):=by
 have:FnScope ["tape", "manner", "stands", "at", "states", "letters", "used", "way", "strange"] ["tape", "manner", "stands"] (Q7 Ur):=by fail "c"
 delta Yh Uv
 fail "K"
def Q6w:MS:=(Ku (mBM Z5 (Q2 7) (Q1 (Qb 3 Yh (Q1 (Q2 1) (Q1 (Q2 3) (Q1 (Q2 6) Q4)))) Q4)))
def Q6v : MS := (Q8 (Qr 11 (Qj yq (Q1 (Q2 10) Q4)))
  (Q8 (Qr 12 (Qb 2 yx (Q1 (Q2 3) (Q1 (Q2 11) Q4))))
  (Q8 (Jf (Uz (Ya (toB (Q63 "bool" (Q2 12)))) (Uz (toB (mOp oNe (Q2 12) (Qb 2 Zq (Q1 (Q2 3) (Q1 (Q2 10) Q4))))) (toB (mOp oNe (Q2 11) (Q2 10))))) (Qq (mC (.bl yo))) Qs)
  (Jf (zh (toB (Q2 9)) (toB (Q2 12))) (Qq (mC (.bl yo))) Qs))))
def Q1h : MS := (Q8 (Jf (zh (toB (mOp (oI λa b => .bl (decide (b < a))) (Q2 2) (mC (.int 1)))) (toB (mOp (oI λa b => .bl (decide (b <= a))) (mOp oIx (Q2 1) (mC (.int 1))) (Qj Jv (Q1 (Q2 0) Q4))))) Qa8 Qs)
  (Q8 (Qr 3 (Qb 1 Yp (Q1 (Q2 1) Q4)))
  (Q8 (Qe1 (je (Ze (Qd 4) (Ze (Qd 5) jf))) (Qb 1 Zp (Q1 (Q2 3) Q4)))
  (Q8 (Qr 6 (Qj U1 (Q1 (Q2 4) Q4)))
  (Q8 (Qr 7 (jw (Kt (Q1 (Q2 6) (Q1 (Vz Q4) (Q1 (mSl (Q2 6) Zm (Zn (mC (.int 1)))) Q4))))))
  (Q8 (K5 (Qd 8) (Zk (Q1 (mC (.int 4)) Q4)) Q6w)
  (Q8 (Qr 9 (mOp oEq (mOp oIx (Qb 1 j4 (Q1 (Q2 3) Q4)) (mC (.int 0))) (mC (.str "breaks"))))
  (Q8 (Jf (toB (mOp oNe (Q2 9) (mOp (oI λa b=>.bl (decide (b < a))) (Q2 5) (mC (.int 0))))) (Qq (mC (.bl yo))) Qs)
  (K5 (Qd 10) (Wr (Q2 7)) Q6v)))))))))
def Qha : MS := (Q8 (Qr 1 (jw (Kt (Q1 (Q2 0) (Q1 (mC (.int 0)) (Q1 (mC (.int 0)) Q4))))))
  (Q8 (K5 (Qd 2) (Zk (Q1 (mC (.int 3)) Q4)) Q1h)
  (Qq (mC (.bl zb)))))
def Qcs:FN:=J8 Qha 13
theorem Qs9 (F:Fun K "law" "law" zj f fd) (T:Txt K mg)  (I:DefS P w K mg base 5 "_law_e_manner" 1 Yp) (q:DefS P w K mg base 2 "_law_e_levels" 1 Zp) (J:DefS P w K mg base 3 "_law_e_bent" 3 Yh) (U:DefS P w K mg base 9 "tried" 1 j4) (O:DefS P w K mg base 9 "keeps" 2 yx) (G:DefS P w K mg base 2 "_law_e_closed" 2 Zq):FnOk P w K mg base (CXD P w) 10 f fd ["script"] (spF mg 1 Qcs):=by
 have:FnScope ["script", "tape", "k", "manner", "known", "depth", "stands", "lists", "turn", "broken", "some", "handed", "found"] ["script"] (Q7 zj):=by fail "c"
 delta Qcs Qha Q1h Q6v Q6w
 fail "k"
end
theorem Q6m (a:Int) {b:Int} (h:0 < b):0<=a % b/\a % b < b:=⟨iE a (by omega),iD a h⟩
theorem Qw2 (x:Int) (h:1<=n):∃ k:Nat,k < n/\x % (n:Int)=(k:Int):=by
 have:=Q6m x (b:=(n:Int)) (by omega);exact ⟨(x % (n:Int)).toNat,by omega,by omega⟩
theorem Qjr (c:Int) (p:Nat) (st:Q0):∃ z:Int,J0 [.int c,.int p] st=.ok (.int z) st:=by
 by_cases q:1000000000000000000<=c
 ·refine ⟨c,?_⟩;simp! [J0,J8,Y7,q]
 ·obtain ⟨f,G⟩:∃ f,(c % 998244353 * 51749 + p * 7919 + 3) % 1000000007=f:=⟨_,rfl⟩;have O:=Q6m (c % 998244353 * 51749 + p * 7919 + 3) (b:=1000000007) (by decide);rw [G] at O;obtain ⟨g,I⟩:∃ g:Int,(f * f + 32749 * f + p + 5) % 2147483629=g:=⟨_,rfl⟩;have J:=Q6m (f * f + 32749 * f + p + 5) (b:=2147483629) (by decide);rw [I] at J;have U:-18446744073709551616 < f/\f < 18446744073709551616:=by omega
  have Y:-18446744073709551616 < g/\g < 18446744073709551616:=by omega
  refine ⟨g * 2147483587 + (g * g + 61 * p + f) % 2147483587,?_⟩;simp! [J0,J8,Y7,q,G,I,U,Y]
def TapeAt (S:Q0) (L:Nat) (ns:List Int):Prop:=∃ (p:Nat) (c:Int),S[L]?=zo (.lst [.fro (ns.map .int),.int p,.int c])
theorem TapeAt.lt (h:TapeAt S L ns):L < S.length:=let ⟨_,_,e⟩:=h; (O2.mp e).1
theorem Q1r {a b c x:PV} (h:S[L]?=zo (.lst [a,b,c])):Xx S (.ref L) (.int 1) x=zo (S.set L (.lst [a,x,c]))/\Xx S (.ref L) (.int 2) x=zo (S.set L (.lst [a,b,x])):=by
 unfold Xx;simp only [h];exact ⟨rfl,rfl⟩
theorem Q13 {a b c:PV} (h:S[L]?=zo (.lst [a,b,c])):oIx S (.ref L) (.int 0)=.ok a S/\oIx S (.ref L) (.int 1)=.ok b S/\oIx S (.ref L) (.int 2)=.ok c S:=by
 have q:ListAt S (.ref L) [a,b,c]:=.inr (.inr ⟨L,rfl,h⟩);rw [q.ix,q.ix,q.ix];exact ⟨rfl,rfl,rfl⟩
theorem Qnu (ns:List Int) (p:Nat) {c:PV} (hS:S[L]?=zo (.lst [.fro (ns.map .int),.int p,c])) (U J:Option PV):∃ z:Int,(Jf (toB (mOp oLt (Q2 2) (Qj Jv (Q1 (mOp oIx (Q2 0) (mC (.int 0))) Q4)))) (Qr 3 (mOp oIx (mOp oIx (Q2 0) (mC (.int 0))) (Q2 2))) (Jf (toB (mOp (oI λa b=>.bl (decide (b < a))) (Qj Jv (Q1 (mOp oIx (Q2 0) (mC (.int 0))) Q4)) (mC (.int 0)))) (Qr 3 (mOp Qx (mOp zw (mOp oIx (mOp oIx (Q2 0) (mC (.int 0))) (mOp zw (mOp Kj (Q2 2) (mC (.int 3))) (Qj Jv (Q1 (mOp oIx (Q2 0) (mC (.int 0))) Q4)))) (mOp Qa2 (mC (.int 10)) (mC (.int 9)))) (mOp Kj (Q2 2) (mC (.int 1000000))))) Qs)) [zo (.ref L),U,zo (.int p),zo (.int p),J] S=.nx [zo (.ref L),U,zo (.int p),zo (.int z),J] S:=by
 obtain ⟨I,_,_⟩:=Q13 hS;have G:(ns.map PV.int).length=ns.length:=O1 _
 by_cases q:p < ns.length
 ·have e:atI (ns.map PV.int) (p:Int)=zo (.int (ns.getD p 0)):=by rw [Qcn,Sm.atI_get (Q4y q 0)]; rfl
  refine ⟨ns.getD p 0,?_⟩;generalize ns.getD p 0=x,ns.length=len,ns.map PV.int=Y at*;simp! [I,G,q,e,-Q0i]
 ·by_cases q2:ns.length=0
  ·refine ⟨p,?_⟩;generalize ns.map PV.int=Y at*;rw [q2] at G;have q0:¬ (p:Int) < 0:=by omega
   simp! [I,G,q0,-Q0i]
  ·have O:0 < ns.length:=by omega
   obtain ⟨m,hm,Z⟩:=Qw2 ((p:Int) * 3) O;have e:atI (ns.map PV.int) (m:Int)=zo (.int (ns.getD m 0)):=by rw [Qcn,Sm.atI_get (Q4y hm 0)]; rfl
   refine ⟨ns.getD m 0 % 1000000000 + p * 1000000,?_⟩;have q':¬ (p:Int) < (ns.length:Int):=by omega
   generalize ns.getD m 0=x,ns.length=len,ns.map PV.int=Y at*;simp! [I,G,q,q',O,Z,e,-Q0i]
theorem Qt2 {st':Q0} (h:st'.length=st.length) (d:Int):fin st (.int d) st'=.ok (.int d) st':=by
 unfold fin
 by_cases q:st <+: st'
 ·rw [bT q];have:st=st':=q.eq_of_length h.symm;rw [<- this,fz]; rfl
 ·rw [bU q]
structure Mv (L:Nat) (S S':Q0):Prop where
 len:S'.length=S.length
 keep:∀ t,t≠L->S'[t]?=S[t]?
theorem Js (T:TapeAt S L ns) (m:Nat) (h1:1<=m) (hm:m < 1267650600228229401496703205376):∃ (d:Nat) (S':Q0),d < m/\TapeAt S' L ns/\Mv L S S'/\Qc [.ref L,.int m] S=.ok (.int d) S':=by
 obtain ⟨p,c,U⟩:=T;have hL:=(O2.mp U).1;obtain ⟨Y,c1,S1,a2,a3,O,M1,e1⟩:∃ (Y:Nat) (c1:Int) (S1:Q0) (a2 a3:Option PV),S1[L]?=zo (.lst [.fro (ns.map .int),.int Y,.int c1])/\Mv L S S1/\(Jf (toB (mOp oLt (mOp oIx (Q2 0) (mC (.int 2))) (Q2 1))) (Q8 (Qr 2 (mOp oIx (Q2 0) (mC (.int 1))))
  (Q8 (Qr 3 (Q2 2))
  (Q8 (Jf (toB (mOp oLt (Q2 2) (Qj Jv (Q1 (mOp oIx (Q2 0) (mC (.int 0))) Q4)))) (Qr 3 (mOp oIx (mOp oIx (Q2 0) (mC (.int 0))) (Q2 2))) (Jf (toB (mOp (oI λa b=>.bl (decide (b < a))) (Qj Jv (Q1 (mOp oIx (Q2 0) (mC (.int 0))) Q4)) (mC (.int 0)))) (Qr 3 (mOp Qx (mOp zw (mOp oIx (mOp oIx (Q2 0) (mC (.int 0))) (mOp zw (mOp Kj (Q2 2) (mC (.int 3))) (Qj Jv (Q1 (mOp oIx (Q2 0) (mC (.int 0))) Q4)))) (mOp Qa2 (mC (.int 10)) (mC (.int 9)))) (mOp Kj (Q2 2) (mC (.int 1000000))))) Qs))
  (Q8 (Xn (Q2 0) (mC (.int 1)) (mOp Qx (Q2 2) (mC (.int 1))))
  (Xn (Q2 0) (mC (.int 2)) (Qb 2 J0 (Q1 (Q2 3) (Q1 (Q2 2) Q4)))))))) Qs) [zo (.ref L),zo (.int m),zl,zl,zl] S=.nx [zo (.ref L),zo (.int m),a2,a3,zl] S1:=by
  obtain ⟨i0,i1,i2⟩:=Q13 U
  by_cases q:c < (m:Int)
  ·obtain ⟨z,ez⟩:=Qnu ns p U (zo (.int m)) zl;obtain ⟨t1,_⟩:=Q1r (x:=.int ((p:Int) + 1)) U;obtain ⟨S2,G⟩:∃ S2,S.set L (.lst [.fro (ns.map .int),.int ((p:Int) + 1),.int c])=S2:=⟨_,rfl⟩;have h2:S2[L]?=zo (.lst [.fro (ns.map .int),.int ((p:Int) + 1),.int c]):=by rw [<- G,E5 hL]
   rw [G] at t1;obtain ⟨y,ey⟩:=Qjr z p S2;obtain ⟨_,t2⟩:=Q1r (x:=.int y) h2;have a5:=(O2.mp h2).1;refine ⟨p + 1,y,S2.set L (.lst [.fro (ns.map .int),.int ((p:Int) + 1),.int y]),zo (.int p),zo (.int z),?_,⟨?_,λt J=>?_⟩,?_⟩
   ·rw [E5 a5]; push_cast; rfl
   ·rw [G7,<- G,G7]
   ·rw [E7 (λu=>J u.symm),<- G,E7 (λu=>J u.symm)]
   ·have J:(toB (mOp oLt (mOp oIx (Q2 0) (mC (.int 2))) (Q2 1))) [zo (.ref L),zo (.int m),zl,zl,zl] S=.ok zb S:=by
     simp! [i2,q,-Q0i]
    have s1:∀ X:MS,(Q8 (Qr 2 (mOp oIx (Q2 0) (mC (.int 1)))) (Q8 (Qr 3 (Q2 2)) X)) [zo (.ref L),zo (.int m),zl,zl,zl] S=X [zo (.ref L),zo (.int m),zo (.int p),zo (.int p),zl] S:=λX=>by
     simp! [i1,-Q0i]
    rw [Q64,J,K9,bT rfl,s1,Ks,ez];show Q8 _ _ _ _=_;simp! [t1,ey,t2,-Qbi]
  ·refine ⟨p,c,S,zl,zl,U,⟨rfl,λ_ _=>rfl⟩,?_⟩;simp! [i2,q,-Q0i]
 obtain ⟨_,_,j2⟩:=Q13 O;obtain ⟨d,hd,ed⟩:=Qw2 c1 h1;obtain ⟨_,t2⟩:=Q1r (x:=.int (c1 / (m:Int))) O;have a4:=(O2.mp O).1;obtain ⟨S3,I⟩:∃ S3,S1.set L (.lst [.fro (ns.map .int),.int Y,.int (c1 / (m:Int))])=S3:=⟨_,rfl⟩;have h3:S3[L]?=zo (.lst [.fro (ns.map .int),.int Y,.int (c1 / (m:Int))]):=by rw [<- I,E5 a4]
 have M3:Mv L S S3:=⟨by rw [<- I,G7,M1.len],λt J=>by rw [<- I,E7 (λu=>J u.symm),M1.keep t J]⟩;rw [I] at t2;refine ⟨d,S3,hd,⟨Y,_,h3⟩,M3,?_⟩;have Z:0 < m:=h1;have a1:(m:Int) < 1267650600228229401496703205376:=by omega
 have step:Zy [zo (.ref L),zo (.int m),zl,zl,zl] S=.rt (.int d) S3:=by
  unfold Zy;rw [Ks,e1];show Q8 _ _ _ _=_;simp! [j2,Z,a1,ed,t2,-Q0i,-Qbi]
 show J8 Zy 5 _ S=_;unfold J8;rw [show (([PV.ref L,.int m]:List PV).map zo ++ ba (5 - [PV.ref L,.int m].length) zl)=[zo (.ref L),zo (.int m),zl,zl,zl] from rfl,step];exact Qt2 M3.len d
theorem yf (i:Int) (st:Q0):Y2 [.int i] st=.ok (.bl zb) st:=by
 simp [Y2,J8,jv,isI,tyN]
theorem Qnv (x a b:Int) (st:Q0):Qw [.int x,.int a,.int b] st=.ok (.bl (decide (a<=x) && decide (x<=b))) st:=by
 have:=yf x st
 by_cases q:a<=x <;> simp [Qw,J8,Xk,this,q]
theorem Q3 {a b:MS} {q:Gam} {r:SR} (h1:a Γ S=.nx q S1) (h2:b q S1=r):Q8 a b Γ S=r:=by rw [Ks,h1]; exact h2
theorem Qi {i:Nat} (h:m Γ S=.ok v S1):Qr i m Γ S=.nx (Γ.set i (zo v)) S1:=by rw [Qmx,h]; rfl
theorem Q5 {F:FN} (h1:mr Γ S=.ok ps S1) (h2:ps.length=n) (q:F ps S1=.ok v S2):Qb n F mr Γ S=.ok v S2:=by rw [Qe0,h1,Qp,bT h2,q]
theorem Q6 {o:OP} {a b:ME} {x y:PV} (h1:a Γ S=.ok x S1) (h2:b Γ S1=.ok y S2) (q:o S2 x y=.ok v S3):mOp o a b Γ S=.ok v S3:=by rw [Qsg,h1,Qp,h2,Qp,q]
theorem Qe (h1:m Γ S=.ok p S1) (h2:mr Γ S1=.ok ps S2):Q1 m mr Γ S=.ok (p :: ps) S2:=by rw [Qhb,h1,Qp,h2,Qp]
theorem Jt {o:CF} (h1:mr Γ S=.ok ps S1) (h2:o S1 ps=.ok v S2):Qj o mr Γ S=.ok v S2:=by rw [Qhc,h1,Qp,h2]
theorem Jr {b:MS} {w:Wt} {r:SR} (h1:mi Γ S=.ok (xs,w) S1) (h2:Z2 ga b w xs Γ S1=r):K5 ga mi b Γ S=r:=by rw [Qn0,h1]; exact h2
theorem Wd {a b:MS} {r:SR} (h1:c Γ S=.ok zb S1) (h2:a Γ S1=r):Jf c a b Γ S=r:=by rw [Q64,h1]; exact h2
theorem Z3 {a b:MS} {r:SR} (h1:c Γ S=.ok yo S1) (h2:b Γ S1=r):Jf c a b Γ S=r:=by rw [Q64,h1]; exact h2
theorem Qb2 {q:Gam} (h1:m Γ S=.ok p S1) (h2:ga p Γ=zo q):Qe1 ga m Γ S=.nx q S1:=by rw [Qn1,h1]; show (match ga p Γ with | some q=>SR.nx q S1 | none=>.stuck)=_; rw [h2]
theorem Jw {w:Wt} (h1:m Γ S=.ok p S1) (h2:Yb S1 p=zo (xs,w)) (q:xs.length<=1000000):Wr m Γ S=.ok (xs,w) S1:=by rw [Qmy,h1,Qp,h2]; exact bT q
theorem Uf {m:ML} (h:m Γ S=.ok ps S1):Yz m Γ S=.ok (.lst ps) S1:=by rw [Qmu,h,Qp]
theorem Vk {cap:zAC} {ys:List PV} {w:Wt} (h1:mi Γ S=.ok (xs,w) S1) (h2:Jz ga mt me w (Yt cap Γ) xs S1=.ok ys S2):J5 cap ga mi mt me Γ S=.ok ys S2:=by rw [Qdz,h1,Qp,h2]; rfl
theorem Vp {m:ML} (h:m Γ S=.ok ps S1):jw m Γ S=.ok (.ref S1.length) (S1 ++ [.lst ps]):=by rw [Qmw,h,Qp]
theorem Zj {t:MT} (h:t Γ S=.ok b S1):Ya t Γ S=.ok (!b) S1:=by rw [Qf7,h,Qp]
theorem Qf (h:m Γ S=.ok (.bl b) S1):toB m Γ S=.ok b S1:=by rw [Qq3,h]; rfl
theorem Qqj {mi:ME} {q:Q0} {o i:PV} (h1:m Γ S=.ok p S1) (h2:mo Γ S1=.ok o S2) (G:mi Γ S2=.ok i S3) (I:Xx S3 o i p=zo q):Xn mo mi m Γ S=.nx Γ q:=by
 rw [Qdy,h1,K9,h2,K9,G,K9,I]
theorem Q3j {f:MF} (h1:mo Γ S=.ok p S1) (h2:Ys S1 p=zo xs) (q:mr Γ S1=.ok ps S2) (G:f S2 p ps=.ok v S3):Ku (mBM f mo mr) Γ S=.nx Γ S3:=by
 rw [Q8f,Qsm,h1,Qp];simp only [h2];rw [q,Qp,G,K9]
theorem Q6k (h:m Γ S=.ok v S1):Ku m Γ S=.nx Γ S1:=by rw [Q8f,h]; rfl
theorem Qgy {a b:MT} (h:a Γ S=.ok zb S1):Uz a b Γ S=.ok zb S1:=by rw [Qbb,h]; rfl
theorem U4 {a b:MT} {r:Res Bool} (h:a Γ S=.ok yo S1) (h2:b Γ S1=r):Uz a b Γ S=r:=by rw [Qbb,h]; exact h2
theorem Jn {a b:MS} (h:a Γ S=.rt v S1):Q8 a b Γ S=.rt v S1:=by rw [Ks,h]
theorem Ug (h1:mr Γ S=.ok ps S1) (h2:ps.length<=1000000):Jh mr Γ S=.ok (.tup ps) S1:=by rw [Qmv,h1,Qp]; exact bT h2
theorem Qk {m:MS} {q:Q0} (h:m (ps.map zo ++ ba (nl - ps.length) zl) S=.rt v q):W9 m nl ps S=.ok v q:=by unfold W9; rw [h]
theorem q9 {m:MS} {q:Q0} (h:m (ps.map zo ++ ba (nl - ps.length) zl) S=.rt v q):J8 m nl ps S=fin S v q:=by unfold J8; rw [h]
theorem yu (h:S[L]?=zo (.lst xs)) (q:xs.length < 1000000) (y:PV):Z5 S (.ref L) [y]=.ok .non (S.set L (.lst (xs ++ [y]))):=by
 simp only [Z5,chg,h];rw [bT (show xs.length < lim from q)]
theorem Q9d {a b:MT} {r:Res Bool} (h:a Γ S=.ok zb S1) (h2:b Γ S1=r):zh a b Γ S=r:=by rw [Q73,h]; exact h2
theorem Qja {a b:MT} (h:a Γ S=.ok yo S1):zh a b Γ S=.ok yo S1:=by rw [Q73,h]; rfl
theorem Qn (h:m Γ S=.ok v S1):Qq m Γ S=.rt v S1:=by rw [Qmz,h]; rfl
theorem Qij (S:Q0) {b:Int} (h:a=b):oEq S (.int a) (.int b)=.ok (.bl zb) S:=by simp [h]
theorem Qpv (S:Q0) {b:Int} (h:¬ a=b):oEq S (.int a) (.int b)=.ok (.bl yo) S:=by simp [h]
theorem Qwb (S:Q0) {b:Int} (h:a < b):oLt S (.int a) (.int b)=.ok (.bl zb) S:=by simp [h]
theorem Qwc (S:Q0) {b:Int} (h:¬ a < b):oLt S (.int a) (.int b)=.ok (.bl yo) S:=by
 have:oLt S (.int a) (.int b)=.ok (.bl (decide (a < b))) S:=by simp
 rw [this,bV h]
theorem jc (S:Q0) {b:Int} (h:b < a):(oI λa b=>.bl (decide (b < a))) S (.int a) (.int b)=.ok (.bl zb) S:=by
 show Res.ok (PV.bl (decide (b < a))) S=_; rw [bW h]
theorem jd (S:Q0) {b:Int} (h:¬ b < a):(oI λa b=>.bl (decide (b < a))) S (.int a) (.int b)=.ok (.bl yo) S:=by
 show Res.ok (PV.bl (decide (b < a))) S=_; rw [bV h]
theorem Q6x (S:Q0) (a b:Int):Qx S (.int a) (.int b)=.ok (.int (a + b)) S:=by simp
theorem Q3h (h:mr Γ S=.ok ps S1) (q:ps.length<=1000000:=by decide):Vz mr Γ S=.ok (.lst ps) S1:=by
 unfold Vz;rw [h,Qp];exact bT q
theorem Qvz (S:Q0) {a b:Nat} (h:a≠b):oNe S (.int a) (.int b)=.ok (.bl zb) S:=by
 have:¬ ((a:Int)=(b:Int)):=by omega
 simp [this]
theorem Qw0 (S:Q0) (a:Int):oNe S (.int a) (.int a)=.ok (.bl yo) S:=by simp
theorem Qpc (q:n<=1000) (h:m Γ S=.ok (.int n) S):Zk (Q1 m Q4) Γ S=.ok (Wn 0 n,[]) S:=by
 rw [Q2s,Qe h (show Q4 Γ S=.ok [] S from rfl),Qp];show (if -(lim:Int)<=(n:Int)/\(n:Int)<=lim then _ else _)=_;rw [bT (by rw [jy]; omega),bp]
theorem Qii (S:Q0) (a:Str):oEq S (.str a) (.str a)=.ok (.bl zb) S:=by simp
theorem Qcd {a b:Str} (S:Q0) (h:¬ a=b):oEq S (.str a) (.str b)=.ok (.bl yo) S:=by simp [h]
theorem Qmn (g:good dep v=zb) (hd:der S v=v):oNe S v v=.ok (.bl yo) S:=by
 have q:peq v v=zb:=zn g;unfold oNe;rw [hd];simp [g,q]
theorem Vw {body:MS} (h:body (ps.map zo ++ ba (nl - ps.length) zl) st=.rt (.bl b) st):J8 body nl ps st=.ok (.bl b) st:=by
 unfold J8; rw [h]; exact Q6j st b
def Qnw (p:PV) (a b:Int):Bool:=match p with
 | .int x=>decide (a<=x) && decide (x<=b)
 | _=>yo
def Q4g (c:Nat):Bool:=decide (97<=c) && decide (c<=122)
def Zc (x:Str):Bool:=decide (1<=(x.length:Int)) && decide ((x.length:Int)<=8) && x.cps.toList.all Q4g
def Q6z:PV->Bool
 | .str x=>Zc x
 | _=>yo
def evP:PV->Bool
 | .str x=>Ky ["go", "fall"] x
 | _=>yo
def Qab (n:Int):PV->Bool
 | .tup [a,b]=>Qnw a 0 (n - 1) && (Q6z b && !evP b)
 | _=>yo
def Qps (n:Int) (p:PV):Bool:=match p with
 | .tup xs=>decide ((xs.length:Int)<=8) && xs.all (Qab n)
 | _=>yo
def Xy (n:Int):PV->Bool
 | .tup [a,b,c,d,e,f]=>Qnw a 0 (n - 1) && (Q6z b && (Q6z c && Q6z d)) && (Qnw e 0 9 && Qps n f)
 | _=>yo
theorem Qhx {q:Bool} (h:m Γ S=.ok (.str x) S1):Qa7 q ss m Γ S=.ok (.bl (Ky ss x != q)) S1:=by unfold Qa7; rw [h]; rfl
theorem Q6t (A:Q0) (bs:List Bool):Xv (λns=>PV.bl (ns.all id)) A [.lst (bs.map .bl)]=.ok (.bl (bs.all id)) A:=by simp -implicitDefEqProofs
theorem Qti {a b:ME} {x:Bool} {r:Res PV} (h:a Γ S=.ok (.bl x) S) (h2:x=zb->b Γ S=r) (q:x=yo->r=.ok (.bl yo) S):yb a b Γ S=r:=by
 rw [Qn2,h,Qp];cases x with
 | true=>exact h2 rfl
 | false=>rw [q rfl]; rfl
theorem Q0e {a b:ME} {r:Res PV} (h:a Γ S=.ok (.bl zb) S) (h2:b Γ S=r):yb a b Γ S=r:=Qti h (λ_=>h2) (λe=>nomatch e)
theorem Q3k {g:α->PV} {xs:List α} {cap:zAC} (hi:mi Γ S=.ok (xs.map g,[]) S) (h:∀ x∈xs,∃ q,ga (g x) (Yt cap Γ)=zo q/\me q S=.ok (.bl zb) S):Qj (Xv λns=>.bl (ns.all id)) (Q1 (Yz (J5 cap ga mi Jy me)) Q4) Γ S=.ok (.bl zb) S:=by
 have I:=X6 (ga:=ga) (me:=me) (w:=[]) (Γ0:=Yt cap Γ) (st:=S) g (λ_=>PV.bl zb) (J4 S) (ys:=xs) h;have G:=Q6t S (xs.map λ_=>zb);rw [F9,bw,show xs.all (id ∘ λ_=>zb)=zb from E9.mpr λ_ _=>rfl] at G
 exact Jt (Qe (Uf (Vk hi I)) rfl) G
theorem U7 {b:Int} (h1:a<=(xs.length:Int)) (h2:(xs.length:Int)<=b) (S:Q0):Qh [.tup xs,.int a,.int b] S=.ok (.bl zb) S:=by
 refine Vw ?_;show Y6 [zo (.tup xs),zo (.int a),zo (.int b)] S=_;simp! [Y6,isI,tyN,h1,h2]
theorem Qci {x b:Int} (h1:a<=x) (h2:x<=b) (S:Q0):Qw [.int x,.int a,.int b] S=.ok (.bl zb) S:=by rw [Qnv,bW h1,bW h2]; rfl
theorem Q5b (h:Zc x=zb) (S:Q0):Zf [.str x] S=.ok (.bl zb) S:=by
 unfold Zc at h;simp only [E2,decide_eq_true_eq,E9] at h;obtain ⟨⟨Y,O⟩,h3⟩:=h;have q:x.length<=lim:=by rw [jy]; omega
 refine Vw ?_;show xx [zo (.str x)] S=_;have J:Jv S [.str x]=.ok (.int x.length) S:=bT q;have I:Qbv (Q2 0) [zo (.str x)] S=.ok (x.cps.toList.map (λc=>.str ⟨#[c]⟩),[]) S:=bT q;have G:=Q3k (cap:=[zl]) (ga:=Qd 0) (me:=Uc) I λc hc=>⟨_,rfl,by
  have:=h3 c hc;unfold Q4g at this;simp only [E2,decide_eq_true_eq] at this;have Z:Qdt S (.str "a") (.str ⟨#[c]⟩)=.ok (.bl zb) S:=by
   show Res.ok (PV.bl (!decide ([c] < [97]))) S=_;rw [bV (by rw [fj]; simp; omega)]; rfl
  have U:Qdt S (.str ⟨#[c]⟩) (.str "z")=.ok (.bl zb) S:=by
   show Res.ok (PV.bl (!decide ([122] < [c]))) S=_;rw [bV (by rw [fj]; simp; omega)]; rfl
  simp [Yt,Uc,Z,U]⟩
 have h0:Q63 "str" (Q2 0) [zo (.str x)] S=.ok (.bl zb) S:=rfl;refine Q3 (Z3 (U4 (Zj (b:=zb) (Qf h0)) (Zj (b:=zb) ?_)) rfl) (Qn G);simp! [J,Y,O]
theorem Qpt {n x:Int} {s:Str} (h0:0<=x) (h1:x < n) (h2:Zc s=zb) (q:Ky ["go", "fall"] s=yo) (S:Q0):Y3 [.int n,.tup [.int x,.str s]] S=.ok (.bl zb) S:=by
 refine Vw ?_;show Kp [zo (.int n),zo (.tup [.int x,.str s])] S=_;refine Q3 (Z3 (U4 (Zj (b:=zb) (Qf (Q5 (n:=3) rfl rfl (U7 (by simp) (by simp) S)))) (Zj (b:=zb) (Qf (Q5 (n:=3) rfl rfl (Qci h0 (by omega) S))))) rfl) (Qn (Q0e (Q5 (n:=1) rfl rfl (Q5b h2 S)) ?_));rw [Qhx (x:=s) (S1:=S) rfl,q];rfl
theorem Qne {d:Nat} (h:∀ p∈ps,∃ k,Vj d p=zo k):∃ ks,Yc (Vj d) ps=zo ks:=by
 induction ps with
 | nil=>exact ⟨[],rfl⟩
 | cons p ps O=>
  obtain ⟨k,I⟩:=h p (by simp);obtain ⟨ks,G⟩:=O λq J=>h q (O4 _ J)
  exact ⟨k :: ks,by unfold Yc; rw [I,G]⟩
theorem Q3e {b:Int} (h:Qnw p a b=zb):∃ x,p=.int x/\a<=x/\x<=b:=by
 cases p with
 | int x=>
  have h:(decide (a<=x) && decide (x<=b))=zb:=h;simp at h;exact ⟨x,rfl,h⟩
 | _=>cases h
theorem qd (h:Q6z p=zb):∃ x,p=.str x/\Zc x=zb:=by
 cases p with
 | str x=>exact ⟨x,rfl,h⟩
 | _=>cases h
theorem Q69 {n:Int} (h:Qab n p=zb):∃ x s,p=.tup [.int x,.str s]/\0<=x/\x < n/\Zc s=zb/\Ky ["go", "fall"] s=yo:=by
 unfold Qab at h
 split at h
 ·rename_i a b;rw [E2,E2] at h;obtain ⟨x,rfl,h1,h2⟩:=Q3e h.1;obtain ⟨s,rfl,q⟩:=qd h.2.1;refine ⟨x,s,rfl,h1,by omega,q,?_⟩;have:(!Ky ["go", "fall"] s)=zb:=h.2.2;simpa using this
 ·cases h
theorem Q20 {n:Int} (h:Xy n p=zb):∃ x s e t u ls,p=.tup [.int x,.str s,.str e,.str t,.int u,.tup ls]/\0<=x/\x < n/\Zc s=zb/\Zc e=zb/\Zc t=zb/\0<=u/\u<=9/\ls.length<=8/\∀ l∈ls,Qab n l=zb:=by
 unfold Xy at h
 split at h
 ·rename_i a b c d e f;simp only [E2] at h;obtain ⟨⟨h1,h2,O,I⟩,h5,h6⟩:=h;obtain ⟨x,rfl,x1,x2⟩:=Q3e h1;obtain ⟨s,rfl,s1⟩:=qd h2;obtain ⟨U,rfl,q⟩:=qd O;obtain ⟨t,rfl,t1⟩:=qd I;obtain ⟨u,rfl,G,J⟩:=Q3e h5;unfold Qps at h6
  split at h6
  ·rename_i ls;simp only [E2,decide_eq_true_eq,E9] at h6;exact ⟨x,s,U,t,u,ls,rfl,x1,by omega,s1,q,t1,G,J,by omega,h6.2⟩
  ·cases h6
 ·cases h
theorem Q4h {n:Int} (h:Xy n p=zb):∃ k,Xs p=zo k:=by
 obtain ⟨x,s,e,t,u,ls,rfl,_,_,_,_,_,_,_,_,G⟩:=Q20 h;obtain ⟨ks,q⟩:=Qne (d:=3) (ps:=ls) λl hm=>by
  obtain ⟨y,z,rfl,_⟩:=Q69 (G l hm);exact ⟨_,rfl⟩
 refine ⟨.tup [.int x,.str s,.str e,.str t,.int u,.tup ks],?_⟩;show (Yc (Vj 4) _).map HK.tup=_;have I:Vj 4 (.tup ls)=zo (.tup ks):=by show (Yc (Vj 3) ls).map HK.tup=_; rw [q]; rfl
 simp only [Yc,I];rfl
theorem Qn9 {n:Int} (h:xs.all (Xy n)=zb):∃ ks,Yc Xs xs=zo ks/\ks.length=xs.length:=by
 induction xs with
 | nil=>exact ⟨[],rfl,rfl⟩
 | cons p ps J=>
  simp only [cE,E2] at h;obtain ⟨k,G⟩:=Q4h h.1;obtain ⟨ks,q,I⟩:=J h.2;exact ⟨k :: ks,by unfold Yc; rw [G,q],by rw [D4,D4,I]⟩
theorem Qr4 {n:Int} (h:Xy n p=zb) (S:Q0):X8 [.int n,p] S=.ok (.bl zb) S:=by
 obtain ⟨x,s,e,t,u,ls,rfl,x0,x1,s1,e1,t1,u0,G,l8,U⟩:=Q20 h;refine Vw ?_;show xy [zo (.int n),zo (.tup [.int x,.str s,.str e,.str t,.int u,.tup ls])] S=_;have J:Jb [.int n,.tup ls] S=.ok (.bl zb) S:=by
  refine Vw ?_;show Zs [zo (.int n),zo (.tup ls)] S=_;refine Qn (Q0e (Q5 (n:=3) rfl rfl (U7 (by omega) (by omega) S)) (Q3k (xs:=ls) (g:=id) (by rw [ie]; exact Jw rfl rfl (by omega)) λp q=>?_))
  obtain ⟨y,z,rfl,Z,Y,O,I⟩:=Q69 (U p q);exact ⟨_,rfl,Q5 (n:=2) rfl rfl (Qpt Z Y O I S)⟩
 refine Q3 (Z3 (U4 (Zj (b:=zb) (Qf (Q5 (n:=3) rfl rfl (U7 (by simp) (by simp) S)))) (Zj (b:=zb) (Qf (Q5 (n:=3) rfl rfl (Qci x0 (by omega) S))))) rfl) (Q3 (Z3 (Zj (b:=zb) (Qf (Q3k (xs:=[s,e,t]) (g:=PV.str) (Jw rfl rfl (by simp)) λp q=>⟨_,rfl,Q5 (n:=1) rfl rfl (Q5b ?_ S)⟩))) rfl) (Qn (Q0e (Q5 (n:=3) rfl rfl (Qci u0 G S)) (Q5 (n:=2) rfl rfl J))))
 simp only [D5,dJ,or_false] at q;rcases q with rfl | rfl | rfl <;> assumption
structure Mw (L:Nat) (S S':Q0):Prop where
 len:S.length<=S'.length
 keep:∀ t,t≠L->t < S.length->S'[t]?=S[t]?
theorem Mw.refl (L:Nat) (S:Q0):Mw L S S:=⟨O5 _,λ_ _ _=>rfl⟩
theorem Mw.trans (a:Mw L S S1) (b:Mw L S1 S2):Mw L S S2:=⟨E1 a.len b.len,λt h1 h2=>(b.keep t h1 (D1 h2 a.len)).trans (a.keep t h1 h2)⟩
theorem Mv.w {q:Q0} (a:Mv L S q):Mw L S q:=⟨by rw [a.len]; exact O5 _,λt h _=>a.keep t h⟩
theorem Mw.add (L:Nat) (S:Q0) (c:Cell):Mw L S (S ++ [c]):=⟨by rw [O6]; omega,λt _ h=>O8 h⟩
theorem TapeAt.add (T:TapeAt S L ns) (c:Cell):TapeAt (S ++ [c]) L ns:=by
 have h:=T.lt;obtain ⟨p,q,e⟩:=T;exact ⟨p,q,by rw [O8 h]; exact e⟩
theorem TapeAt.put {M:Nat} (T:TapeAt S L ns) (G:M≠L) (c:Cell):TapeAt (S.set M c) L ns:=by
 obtain ⟨p,q,e⟩:=T;exact ⟨p,q,by rw [E7 G]; exact e⟩
theorem rgw (q:n<=1000) (h:m Γ S=.ok (.int n) S1):Zk (Q1 m Q4) Γ S=.ok (Wn 0 n,[]) S1:=by
 rw [Q2s,Qe h (show Q4 Γ S1=.ok [] S1 from rfl),Qp];show (if -(lim:Int)<=(n:Int)/\(n:Int)<=lim then _ else _)=_;rw [bT (by rw [jy]; omega),bp]
theorem Qea (cs:List Nat) (acc:Array Nat):cM (λacc (p:Str)=>acc ++ ("" : Str).cps ++ p.cps) acc (cs.map λc=>(⟨#[c]⟩:Str))=acc ++ cs.toArray:=by
 induction cs generalizing acc with
 | nil=>simp
 | cons c cs q=>
  rw [D3,F5,q];have:("" : Str).cps=#[]:=rfl;rw [this];simp
theorem Qad (cs:List Nat):Txt.join "" (cs.map λc=>(⟨#[c]⟩:Str))=⟨cs.toArray⟩:=by
 show Builtin.Str.glued "" _=_;unfold Builtin.Str.glued;cases cs with
 | nil=>rfl
 | cons c cs=>
  show (⟨cM _ #[c] (cs.map λc=>(⟨#[c]⟩:Str))⟩:Str)=_
  rw [Qea];simp
theorem Qht (h:cs.length<=1000):JoinOk "" (cs.map λc=>(⟨#[c]⟩:Str))=zb:=by
 unfold JoinOk;have q:∀ (cs:List Nat) (a:Nat),cM (λx1 (x2:Str)=>x1 + x2.length + ("" : Str).length) a (cs.map λc=>(⟨#[c]⟩:Str))=a + cs.length:=by
  intro cs
  induction cs with
  | nil=>intro a; rfl
  | cons c cs G=>
   intro a;rw [D3,F5,G,D4];show a + 1 + 0 + _=_;omega
 rw [<- iN];show (!decide (cM _ 0 (cs.map λc=>(⟨#[c]⟩:Str)) > sizeLine))=zb
 rw [q,sizeLine_eq];simp;omega
theorem Q9k (cs:List Nat):Q0f (cs.map λc=>PV.str ⟨#[c]⟩)=zo (cs.map λc=>(⟨#[c]⟩:Str)):=by
 induction cs with
 | nil=>rfl
 | cons c cs q=>rw [D3,Q0f,q]; rfl
theorem Q9f (h1:1<=cs.length) (h2:cs.length<=8) (h:∀ c∈cs,Q4g c=zb):Zc ⟨cs.toArray⟩=zb:=by
 unfold Zc;have e:(⟨cs.toArray⟩:Str).length=cs.length:=by show cs.toArray.size=_; simp
 rw [e];simp only [E2,decide_eq_true_eq,E9];exact ⟨⟨by omega,by omega⟩,λc q=>h c (by simpa using q)⟩
theorem Qbs (T:TapeAt S L ns):∃ (x:Str) (U:Q0),(Zc x=zb/\¬ x = "zzzzzzzz")/\TapeAt U L ns/\Mw L S U/\Zb [.ref L] S=.ok (.str x) U:=by
 obtain ⟨d,S1,hd,T1,M1,e1⟩:=Js T 4 (by decide) (by decide)
 by_cases q:d=0
 ·subst q;obtain ⟨k,S2,hk,Z,M2,J⟩:=Js T1 8 (by decide) (by decide);obtain ⟨x,hx,ex⟩:∃ x,(Zc x=zb/\¬ x = "zzzzzzzz")/\oIx S2 (.lst [.str "go",.str "fall",.str "gone",.str "fallen",.str "gofall",.str "a",.str "aa",.str "abcdefgh"]) (.int k)=.ok (.str x) S2:=by
   have:k=0\/k=1\/k=2\/k=3\/k=4\/k=5\/k=6\/k=7:=by omega
   rcases this with rfl | rfl | rfl | rfl | rfl | rfl | rfl | rfl <;> exact ⟨_,by decide +kernel,rfl⟩
  refine ⟨x,S2,hx,Z,M1.w.trans M2.w,Qk ?_⟩;show V0 [zo (.ref L)] S=_;exact Jn (Wd (Qf (Q6 (Q5 (n:=2) rfl rfl e1) rfl (Qij _ rfl))) (Qn (Q6 rfl (Q5 (n:=2) rfl rfl J) ex)))
 ·obtain ⟨k,S2,hk,Z,M2,J⟩:=Js T1 4 (by decide) (by decide);obtain ⟨G,S3,ec,T3,M3,cs,Y,rfl,a2⟩:=Q0c (xs:=bY (1 + k)) (λ(i:Nat)=>PV.int ((0:Int) + (i:Int))) (λi G st=>TapeAt st L ns/\Mw L S2 st/\∃ cs:List Nat,cs.length=i/\G=cs.map (λc=>PV.str ⟨#[c]⟩)/\∀ c∈cs,Q4g c=zb) (ga:=Qd 0) (me:=Ym) (w:=[]) (Γ0:=Yt [zl,zo 0] [zo (.ref L)]) (λ_ _ st _=>J4 st)
   (λi x G st _ ⟨Ti,Mi,cs,h1,h2,h3⟩=>by
    obtain ⟨j,O,hj,T4,M4,e4⟩:=Js Ti 7 (by decide) (by decide);obtain ⟨c,hc,a1⟩:∃ c,Q4g c=zb/\Qmm O (.str "abgoflz") (.int j)=.ok (.str ⟨#[c]⟩) O:=by
     have:j=0\/j=1\/j=2\/j=3\/j=4\/j=5\/j=6:=by omega
     rcases this with rfl | rfl | rfl | rfl | rfl | rfl | rfl <;> exact ⟨_,by decide +kernel,rfl⟩
    refine ⟨_,rfl,.str ⟨#[c]⟩,O,Q6 rfl (Q5 (n:=2) rfl rfl e4) a1,T4,Mi.trans M4.w,cs ++ [c],by rw [O6,h1]; rfl,by rw [h2,E4]; rfl,λy I=>?_⟩
    rcases D9.mp I with I | I
    ·exact h3 y I
    ·have:y=c:=by simpa using I
     rw [this]; exact hc)
   ⟨Z,Mw.refl L S2,[],rfl,rfl,λc hc=>nomatch hc⟩
  rw [F2] at Y;refine ⟨⟨cs.toArray⟩,S3,⟨Q9f (by omega) (by omega) a2,λz=>by
   have z:(⟨cs.toArray⟩:Str).length=("zzzzzzzz" : Str).length:=by rw [z]
   have z1:(⟨cs.toArray⟩:Str).length=cs.length:=by show cs.toArray.size=_; simp
   have z2:("zzzzzzzz" : Str).length=8:=by decide +kernel
   omega⟩,T3,(M1.w.trans M2.w).trans M3,Qk ?_⟩
  show V0 [zo (.ref L)] S=_;refine Q3 (Z3 (Qf (Q6 (Q5 (n:=2) rfl rfl e1) rfl (Qpv _ (by omega)))) rfl) (Qn ?_);show Qbx _ _ _ _=_;have hl:Yz (J5 [zl,zo 0] (Qd 0) (Zk (Q1 (mOp Qx (mC (.int 1)) (Qb 2 Qc (Q1 (Q2 0) (Q1 (mC (.int 4)) Q4)))) Q4)) Jy Ym) [zo (.ref L)] S1=.ok (.lst (cs.map λc=>PV.str ⟨#[c]⟩)) S3:=Uf (Vk (rgw (n:=1 + k) (by omega) (Q6 rfl (Q5 (n:=2) rfl rfl J) (by rw [Q6x]; push_cast; rfl))) ec);unfold Qbx;show ((Q1 _ Q4) [zo (.ref L)] S1).bind _=_;rw [Qe hl (show Q4 _ S3=.ok [] S3 from rfl),Qp];show (match (zo (cs.map λc=>PV.str ⟨#[c]⟩)).bind Q0f with | some ss=>if JoinOk "" ss=zb then Res.ok (PV.str (Txt.join "" ss)) S3 else .stuck | none=>.stuck)=_
  rw [iY,Q9k];show (if JoinOk "" _=zb then _ else _)=_;rw [bT (Qht (by omega)),Qad]
def Qje (x:Str):Prop:=Zc x=zb/\Ky ["go", "fall"] x=yo
theorem Q2y (T:TapeAt S L ns):∃ (x:Str) (I:Q0),(Qje x/\¬ x = "zzzzzzzz")/\TapeAt I L ns/\Mw L S I/\Jg [.ref L] S=.ok (.str x) I:=by
 obtain ⟨x,S1,⟨J,G⟩,T1,M1,e1⟩:=Qbs T
 by_cases q:x = "go"
 ·subst q;refine ⟨"goa",S1,⟨⟨by decide +kernel,by decide +kernel⟩,by decide +kernel⟩,T1,M1,Qk ?_⟩;show Je [zo (.ref L),zl] S=_;exact Q3 (Qi (Q5 (n:=1) rfl rfl e1)) (Jn (Wd (Qgy (Qf (Q6 rfl rfl (Qii _ _)))) (Qn (Q6 rfl rfl rfl))))
 ·by_cases r:x = "fall"
  ·subst r;refine ⟨"falla",S1,⟨⟨by decide +kernel,by decide +kernel⟩,by decide +kernel⟩,T1,M1,Qk ?_⟩;show Je [zo (.ref L),zl] S=_;exact Q3 (Qi (Q5 (n:=1) rfl rfl e1)) (Jn (Wd (U4 (Qf (Q6 rfl rfl (Qcd _ q))) (Qf (Q6 rfl rfl (Qii _ _)))) (Qn (Q6 rfl rfl rfl))))
  ·refine ⟨x,S1,⟨⟨J,?_⟩,G⟩,T1,M1,Qk ?_⟩
   ·unfold Ky;simp only [cF,List.any_nil,dR,bV (λh=>q (Eq.symm h)),bV (λh=>r (Eq.symm h))]
   ·show Je [zo (.ref L),zl] S=_;exact Q3 (Qi (Q5 (n:=1) rfl rfl e1)) (Q3 (Z3 (U4 (Qf (Q6 rfl rfl (Qcd _ q))) (Qf (Q6 rfl rfl (Qcd _ r)))) rfl) (Qn rfl))
theorem Qae (h:xs[k]?=zo p) (S:Q0):oIx S (.lst xs) (.int k)=.ok p S:=by
 show okO S (atI xs (k:Int))=_;rw [Qcm h]; rfl
theorem ix_tup (h:xs[k]?=zo p) (S:Q0):oIx S (.tup xs) (.int k)=.ok p S:=by
 show okO S (atI xs (k:Int))=_;rw [Qcm h]; rfl
def V3 (xs:List Str):PV:=.lst (xs.map .str)
theorem Q16 {i:Nat} (T:TapeAt S L ns) {xs:List Str} (h1:1<=xs.length) (h2:xs.length<=100) (O:∀ st,Q2 0 Γ st=.ok (.ref L) st) (G:∀ st,Q2 i Γ st=.ok (V3 xs) st):∃ (x:Str) (q:Q0),x∈xs/\TapeAt q L ns/\Mw L S q/\(mOp oIx (Q2 i) (Qb 2 Qc (Q1 (Q2 0) (Q1 (Qj Jv (Q1 (Q2 i) Q4)) Q4)))) Γ S=.ok (.str x) q:=by
 have Y:(xs.map PV.str).length=xs.length:=O1 _;obtain ⟨d,S1,hd,J,M1,I⟩:=Js T xs.length h1 (by omega);have U:(xs.map PV.str)[d]?=zo (.str xs[d]):=by rw [D7,O3 hd]; rfl
 refine ⟨xs[d],S1,cJ hd,J,M1.w,Q6 (G S) (Q5 (n:=2) (Qe (O S) (Qe (Jt (Qe (G S) rfl) rfl) rfl)) rfl ?_) (Qae U S1)⟩;show Qc [.ref L,.int ((xs.map PV.str).length:Nat)] S=_;rw [Y]; exact I
def Q3q (ws:List Str) (r:PV):Prop:=∀ a b c d e ls,r=.tup [a,b,c,d,e,.tup ls]->∀ l∈ls,∃ (h:Int) (y:Str),l=.tup [.int h,.str y]/\y∈ws
def Qb8 (ss:List Str) (r:PV):Prop:=∀ a b c d e ls,r=.tup [a,b,c,d,e,ls]->∃ y∈ss,d=.str y
theorem Qkc (T:TapeAt S L ns) (a2:1<=n) (hn:n<=100) (s1:1<=ss.length) (s2:ss.length<=100) (s3:∀ x∈ss,Zc x=zb) (w1:1<=ws.length) (w2:ws.length<=100) (w3:∀ x∈ws,Qje x) :
  ∃ (r:PV) (S':Q0),Xy n r=zb/\Q3q ws r/\Qb8 ss r/\TapeAt S' L ns/\Mw L S S'/\Yg [.ref L,.int n,V3 ss,V3 ws] S=.ok r S':=by
 obtain ⟨I,S1,h1,T1,M1,e1⟩:=Js T n a2 (by omega);obtain ⟨st,S2,h2,T2,M2,e2⟩:=Q16 (i:=2) T1 s1 s2 (Γ:=[zo (.ref L),zo (.int n),zo (V3 ss),zo (V3 ws),zo (.int I),zl,zl,zl,zl,zl,zl]) (λ_=>rfl) (λ_=>rfl);obtain ⟨wd,S3,h3,T3,M3,e3⟩:=Q16 (i:=3) T2 w1 w2 (Γ:=[zo (.ref L),zo (.int n),zo (V3 ss),zo (V3 ws),zo (.int I),zo (.str st),zl,zl,zl,zl,zl]) (λ_=>rfl) (λ_=>rfl);obtain ⟨k4,S4,h4,T4,M4,e4⟩:=Js T3 4 (by decide) (by decide);obtain ⟨J,a6,b2⟩:∃ J,Zc J=zb/\oIx S4 (.lst [.str "go",.str "go",.str "fall",.str wd]) (.int k4)=.ok (.str J) S4:=by
  have:k4=0\/k4=1\/k4=2\/k4=3:=by omega
  rcases this with rfl | rfl | rfl | rfl
  ·exact ⟨_,by decide +kernel,rfl⟩
  ·exact ⟨_,by decide +kernel,rfl⟩
  ·exact ⟨_,by decide +kernel,rfl⟩
  ·exact ⟨wd,(w3 wd h3).1,rfl⟩
 obtain ⟨U,S5,h5,T5,M5,e5⟩:=Q16 (i:=2) T4 s1 s2 (Γ:=[zo (.ref L),zo (.int n),zo (V3 ss),zo (V3 ws),zo (.int I),zo (.str st),zo (.str J),zl,zl,zl,zl]) (λ_=>rfl) (λ_=>rfl);obtain ⟨O,q,h6,T6,M6,e6⟩:=Js T5 7 (by decide) (by decide);obtain ⟨us,b5,a5⟩:∃ us:Int,(0<=us/\us<=9)/\oIx q (.lst [.int 0,.int 0,.int 0,.int 1,.int 1,.int 2,.int 9]) (.int O)=.ok (.int us) q:=by
  have:O=0\/O=1\/O=2\/O=3\/O=4\/O=5\/O=6:=by omega
  rcases this with rfl | rfl | rfl | rfl | rfl | rfl | rfl <;> exact ⟨_,by decide,rfl⟩
 have b3:=T6.add (.lst []);obtain ⟨Z,S7,h7,T7,M7,e7⟩:=Js b3 6 (by decide) (by decide);have hM:q.length≠L:=by have:=T6.lt; omega
 have a1:q.length < (q ++ [Cell.lst []]).length:=by rw [O6]; simp
 have c7:S7[q.length]?=zo (.lst []):=by rw [M7.w.keep _ hM a1,D6 (O5 _),bu]; rfl
 obtain ⟨ct,a4,b1⟩:∃ ct:Nat,ct<=8/\oIx S7 (.lst [.int 0,.int 0,.int 1,.int 2,.int 3,.int 8]) (.int Z)=.ok (.int ct) S7:=by
  have:Z=0\/Z=1\/Z=2\/Z=3\/Z=4\/Z=5:=by omega
  rcases this with rfl | rfl | rfl | rfl | rfl | rfl
  ·exact ⟨0,by decide,rfl⟩
  ·exact ⟨0,by decide,rfl⟩
  ·exact ⟨1,by decide,rfl⟩
  ·exact ⟨2,by decide,rfl⟩
  ·exact ⟨3,by decide,rfl⟩
  ·exact ⟨8,by decide,rfl⟩
 obtain ⟨b6,S8,e8,T8,M8,ls,c8,a7,G,t8,rfl⟩:=Q34 (xs:=bY ct) (λ(i:Nat)=>PV.int ((0:Int) + (i:Int)))
  (λi Γ A=>TapeAt A L ns/\Mw L q A/\∃ ls:List PV,A[q.length]?=zo (.lst ls)/\ls.length=i/\(∀ l∈ls,Qab n l=zb/\∃ (h:Int) (y:Str),l=.tup [.int h,.str y]/\y∈ws)/\∃ t,Γ=[zo (.ref L),zo (.int n),zo (V3 ss),zo (V3 ws),zo (.int I),zo (.str st),zo (.str J),zo (.str U),zo (.int us),zo (.ref q.length),t])
  (ga:=Qd 10) (body:=Vf) (w:=[]) (λ_ _ A _=>J4 A) (λi x Γ A hx ⟨Ti,Mi,ls,ci,Y,G,t,a8⟩=>by
   subst a8;obtain ⟨d,A1,hd,TA,MA,ea⟩:=Js Ti n a2 (by omega);obtain ⟨y,A2,hy,TB,MB,eb⟩:=Q16 (i:=3) TA w1 w2 (Γ:=[zo (.ref L),zo (.int n),zo (V3 ss),zo (V3 ws),zo (.int I),zo (.str st),zo (.str J),zo (.str U),zo (.int us),zo (.ref q.length),zo (.int ((0:Int) + (x:Int)))]) (λ_=>rfl) (λ_=>rfl);have a3:q.length < A.length:=(O2.mp ci).1;have b4:q.length < A1.length:=D1 a3 MA.w.len;have c2:A2[q.length]?=zo (.lst ls):=by rw [MB.keep _ hM b4,MA.w.keep _ hM a3]; exact ci
   have a9:q.length < A2.length:=(O2.mp c2).1;have b7:i < ct:=by have:=(O2.mp hx).1; rwa [F2] at this
   refine ⟨_,rfl,_,A2.set q.length (.lst (ls ++ [.tup [.int d,.str y]])),Q3j (xs:=ls) rfl (by show (match A[q.length]? with | some (.lst xs)=>zo xs | _=>zl)=_; rw [ci]) (Qe (Ug (Qe (Q5 (n:=2) rfl rfl ea) (Qe eb rfl)) (by simp)) rfl) (yu c2 (by omega) _),TB.put hM _,⟨?_,λt h1 h2=>?_⟩,ls ++ [.tup [.int d,.str y]],?_,by rw [O6,Y]; rfl,λl hm=>?_,_,rfl⟩
   ·rw [G7]; exact E1 Mi.len (E1 MA.w.len MB.len)
   ·rw [E7 (by omega)];exact ((Mi.trans MA.w).trans MB).keep t h1 h2
   ·rw [E5 a9]
   ·rcases D9.mp hm with hm | hm
    ·exact G l hm
    ·have:l=.tup [.int d,.str y]:=by simpa using hm
     subst this;obtain ⟨y1,y2⟩:=w3 y hy;refine ⟨?_,d,y,rfl,hy⟩;show (decide ((0:Int)<=d) && decide ((d:Int)<=n - 1) && (Zc y && !Ky ["go", "fall"] y))=zb;rw [y1,y2];simp;omega)
  (Γ:=[zo (.ref L),zo (.int n),zo (V3 ss),zo (V3 ws),zo (.int I),zo (.str st),zo (.str J),zo (.str U),zo (.int us),zo (.ref q.length),zl]) (st:=S7)
  ⟨T7,(Mw.add L q _).trans M7.w,[],c7,rfl,λl Y=>(nomatch Y),zl,rfl⟩
 rw [F2] at a7;refine ⟨.tup [.int I,.str st,.str J,.str U,.int us,.tup ls],S8,?_,?_,?_,T8,((((M1.w.trans M2).trans M3).trans M4.w).trans M5).trans (M6.w.trans M8),Qk ?_⟩
 ·show (decide ((0:Int)<=I) && decide ((I:Int)<=n - 1) && (Zc st && (Zc J && Zc U)) && (decide ((0:Int)<=us) && decide (us<=9) && (decide ((ls.length:Int)<=8) && ls.all (Qab n))))=zb;rw [s3 st h2,a6,s3 U h5];simp only [E2,decide_eq_true_eq,E9];exact ⟨⟨⟨by omega,by omega⟩,trivial,trivial,trivial⟩,b5,by omega,λl Y=>(G l Y).1⟩
 ·intro a b c d e b0 eq l Y;cases eq;exact (G l Y).2
 ·intro a b c d e b0 eq;cases eq;exact ⟨U,h5,rfl⟩
 ·show Uu [zo (.ref L),zo (.int n),zo (V3 ss),zo (V3 ws),zl,zl,zl,zl,zl,zl,zl] S=_;have a4:Yu S8 [.ref q.length]=.ok (.tup ls) S8:=by
   show (match (match S8[q.length]? with | some (.lst xs)=>zo xs | _=>zl) with | some xs=>Res.ok (PV.tup xs) S8 | none=>.stuck)=_
   rw [c8]
  exact Q3 (Qi (Q5 (n:=2) rfl rfl e1)) (Q3 (Qi e2) (Q3 (Qi (Q6 (Q3h (Qe rfl (Qe rfl (Qe rfl (Qe e3 rfl)))) (by simp)) (Q5 (n:=2) rfl rfl e4) b2)) (Q3 (Qi e5) (Q3 (Qi (Q6 rfl (Q5 (n:=2) rfl rfl e6) a5)) (Q3 (Qi (Vp rfl)) (Q3 (Jr (rgw (n:=ct) (by omega) (Q6 rfl (Q5 (n:=2) rfl rfl e7) b1)) e8) (Qn (Ug (Qe rfl (Qe rfl (Qe rfl (Qe rfl (Qe rfl (Qe (Jt rfl a4) rfl)))))) (by simp)))))))))
theorem Ws {mi:ME} {I:Q0} {q:PV} (h1:m Γ S=.ok v S1) (h2:mo Γ S1=.ok p S2) (O:mi Γ S2=.ok q S3) (J:yk S3 p q v=zo I):Xp mo mi m Γ S=.nx Γ I:=by
 unfold Xp;rw [h1];show (mo Γ S1).sbind _=_;rw [h2];show (mi Γ S2).sbind _=_;rw [O];show (match yk S3 p q v with | some G=>SR.nx Γ G | none=>.stuck)=_;rw [J]
def Qy (ks:List HK):List (HK × PV):=ks.map λk=>(k,.bl zb)
theorem Q7u (ks:List HK) (k:HK):Sm.putT (Qy ks) k (.bl zb)=Qy (Ja ks k):=by
 unfold Sm.putT Ja
 by_cases q:k∈ks
 ·rw [bT q,bT]
  ·unfold Qy;rw [F9];refine L8 λx _=>?_
   show (if x=k then (x,PV.bl zb) else (x,PV.bl zb))=_
   split <;> rfl
  ·unfold Qy;rw [dN,cX];exact ⟨k,q,by simp⟩
 ·rw [bU q,bU]
  ·unfold Qy; rw [E4]; rfl
  ·unfold Qy;rw [dN,cX];rintro ⟨x,G,e⟩;have:x=k:=by simpa using e
   rw [this] at G; exact q G
theorem Q0b (h:S[D]?=zo (.dtp (Qy ks))) (I:ks.length < 1000000) {k:HK} (G:Xs p=zo k):yk S (.ref D) p (.bl zb)=zo (S.set D (.dtp (Qy (Ja ks k)))):=by
 have hd:Wf S (.ref D)=zo (Qy ks):=by show (match S[D]? with | some (.dtp q)=>zo q | _=>zl)=_; rw [h]
 unfold yk;simp only [hd,G];rw [bT (by unfold Qy; rw [O1]; exact I),Q7u]
theorem Qb7 (h:ks.Nodup) (k:HK):(Ja ks k).Nodup:=by
 unfold Ja
 split
 ·exact h
 ·rename_i q;exact cV.mpr ⟨h,by simp,λx G y I e=>by
   have:y=k:=by simpa using I
   rw [e,this] at G; exact q G⟩
theorem Q2n:∀ {ks acc:List HK},(acc ++ ks).Nodup->ks.foldl Ja acc=acc ++ ks
 | [],acc,_=>by simp
 | k :: ks,acc,h=>by
  rw [F5];have q:k∉acc:=λhm=>(cV.mp h).2.2 k hm k (by simp) rfl
  have e:Ja acc k=acc ++ [k]:=by unfold Ja; rw [bU q]
  rw [e,Q2n (by rw [dS]; exact h)];simp
theorem Qbt (h:ks.Nodup):Zx ks=ks:=by
 have:=Q2n (ks:=ks) (acc:=[]) (by simpa using h);simpa [Zx] using this
mutual
theorem Qi0:∀ {d:Nat} {p:PV} {k:HK},Vj d p=zo k->hkV k=p
 | _,.int i,_,e=>by cases q:(‹Nat›) <;> (rw [q] at e; cases e; rfl)
 | _,.str x,_,e=>by cases q:(‹Nat›) <;> (rw [q] at e; cases e; rfl)
 | 0,.tup ps,_,e=>by cases e
 | d + 1,.tup ps,k,e=>by
  have e:(Yc (Vj d) ps).map HK.tup=zo k:=e;cases z:Yc (Vj d) ps with
  | none=>rw [z] at e; cases e
  | some l=>
   rw [z] at e;cases e;show PV.tup (hkVL l)=_;rw [hkVL_of z]
 | 0,.non,_,e=>by cases e
 | 0,.bl _,_,e=>by cases e
 | 0,.lst _,_,e=>by cases e
 | 0,.fro _,_,e=>by cases e
 | 0,.ref _,_,e=>by cases e
 | 0,.dic,_,e=>by cases e
 | _ + 1,.non,_,e=>by cases e
 | _ + 1,.bl _,_,e=>by cases e
 | _ + 1,.lst _,_,e=>by cases e
 | _ + 1,.fro _,_,e=>by cases e
 | _ + 1,.ref _,_,e=>by cases e
 | _ + 1,.dic,_,e=>by cases e
theorem hkVL_of:∀ {d:Nat} {ps:List PV} {l:List HK},Yc (Vj d) ps=zo l->hkVL l=ps
 | _,[],_,e=>by cases e; rfl
 | d,p :: ps,l,e=>by
  unfold Yc at e
  split at e
  ·rename_i k G q I;cases e;show hkV k :: hkVL G=_;rw [Qi0 q,hkVL_of I]
  ·cases e
end
theorem Qwf {k:HK} (h:Xs p=zo k):hkV k=p:=by
 cases p with
 | tup ps=>exact Qi0 (d:=5) h
 | _=>cases h
structure Man (most:Int) (starts:List Str) (rules:List PV):Prop where
 m0:0<=most
 m1:most<=20
 s1:1<=starts.length
 s4:starts.length<=4
 sw:∀ x∈starts,Zc x=zb
 r:rules.all (Xy starts.length)=zb
 len:rules.length<=9
 ks:∃ ks,Yc Xs rules=zo ks/\ks.Nodup
 ws:∃ sts ws:List Str,ws.length<=2/\sts.length ^ starts.length * 2 ^ (starts.length * ws.length) * (most.toNat + 1)<=576/\(∀ x∈starts,x∈sts)/\(∀ p∈rules,Q3q ws p/\Qb8 sts p)/\(∀ x∈sts,Zc x=zb)/\∀ x∈ws,Qje x/\¬ x = "zzzzzzzz"
def j8 (most:Int) (starts:List Str) (rules:List PV):PV:=.tup [.int most,.tup (starts.map .str),.tup rules]
theorem Q87 {i:Nat} {P:Str->Prop} {F:FN} (hF:∀ {S:Q0},TapeAt S L ns->∃ (x:Str) (G:Q0),P x/\TapeAt G L ns/\Mw L S G/\F [.ref L] S=.ok (.str x) G) (T:TapeAt S L ns) {m:Nat} (hm:m<=100) (U:Yt [zl,zo 0] Γ=[zl,zo (.ref L)]) (Y:Q2 i Γ S=.ok (.int m) S) :
  ∃ (xs:List Str) (G:Q0),xs.length=m/\(∀ x∈xs,P x)/\TapeAt G L ns/\Mw L S G/\Yz (J5 [zl,zo 0] (Qd 0) (Zk (Q1 (Q2 i) Q4)) Jy (Qb 1 F (Q1 (Q2 1) Q4))) Γ S=.ok (V3 xs) G:=by
 obtain ⟨q,S3,ec,T3,Z,xs,I,rfl,J⟩:=Q0c (xs:=bY m) (λ(i:Nat)=>PV.int ((0:Int) + (i:Int))) (λi q st=>TapeAt st L ns/\Mw L S st/\∃ xs:List Str,xs.length=i/\q=xs.map PV.str/\∀ x∈xs,P x) (ga:=Qd 0) (me:=Qb 1 F (Q1 (Q2 1) Q4)) (w:=[]) (Γ0:=[zl,zo (.ref L)]) (λ_ _ st _=>J4 st)
  (λi x q st _ ⟨Ti,Mi,xs,h1,h2,h3⟩=>by
   obtain ⟨y,S4,O,T4,M4,e4⟩:=hF Ti;refine ⟨_,rfl,.str y,S4,Q5 (n:=1) rfl rfl e4,T4,Mi.trans M4,xs ++ [y],by rw [O6,h1]; rfl,by rw [h2,E4]; rfl,λz hz=>?_⟩;rcases D9.mp hz with hz | hz
   ·exact h3 z hz
   ·have:z=y:=by simpa using hz
    rw [this]; exact O)
  ⟨T,Mw.refl L S,[],rfl,rfl,λc hc=>nomatch hc⟩
 rw [F2] at I;exact ⟨xs,S3,I,J,T3,Z,Uf (Vk (rgw (n:=m) (by omega) Y) (by rw [U]; exact ec))⟩
theorem Qfk (q:k < 5) (S:Q0):∃ n m w t:Nat,(1<=n/\n<=4/\1<=m/\m<=3/\1<=w/\w<=2/\1<=t/\t<=21/\m ^ n * 2 ^ (n * w) * t<=576) /\
  oIx S (.lst [.tup [.int 2,.int 3,.int 2,.int 4],.tup [.int 3,.int 2,.int 1,.int 4],.tup [.int 1,.int 2,.int 1,.int 21],.tup [.int 2,.int 2,.int 1,.int 21],.tup [.int 4,.int 2,.int 1,.int 2]]) (.int k)=.ok (.tup [.int n,.int m,.int w,.int t]) S:=by
 have:k=0\/k=1\/k=2\/k=3\/k=4:=by omega
 rcases this with rfl | rfl | rfl | rfl | rfl
 ·exact ⟨2,3,2,4,by decide,rfl⟩
 ·exact ⟨3,2,1,4,by decide,rfl⟩
 ·exact ⟨1,2,1,21,by decide,rfl⟩
 ·exact ⟨2,2,1,21,by decide,rfl⟩
 ·exact ⟨4,2,1,2,by decide,rfl⟩
theorem Q4p {n:Int} {ws ss:List Str}:∀ {ks:List HK},(∀ k∈ks,∃ p,Xs p=zo k/\Xy n p=zb/\Q3q ws p/\Qb8 ss p)->Yc Xs (ks.map hkV)=zo ks/\(ks.map hkV).all (Xy n)=zb/\∀ p∈ks.map hkV,Q3q ws p/\Qb8 ss p
 | [],_=>⟨rfl,rfl,λp h=>nomatch h⟩
 | k :: ks,h=>by
  obtain ⟨p,h1,h2,J⟩:=h k (by simp);obtain ⟨a,b,c⟩:=Q4p λx I=>h x (O4 _ I)
  have e:=Qwf h1;refine ⟨?_,?_,λq G=>?_⟩
  ·rw [D3,e];unfold Yc;rw [h1,a]
  ·rw [D3,cE,e,h2,b]; rfl
  ·rw [D3,e] at G;rcases D5.mp G with rfl | G
   ·exact J
   ·exact c q G
theorem Qdx (T:TapeAt S L ns):∃ (most:Int) (q:List Str) (rules:List PV) (S':Q0),Man most q rules/\TapeAt S' L ns/\Mw L S S'/\Yp [.ref L] S=.ok (j8 most q rules) S':=by
 obtain ⟨k,S1,hk,T1,M1,e1⟩:=Js T 5 (by decide) (by decide);obtain ⟨n,m,w,t,⟨n1,n4,m1,m3,w1,w2,t1,t2,a5⟩,es⟩:=Qfk hk S1;generalize hsz:PV.lst [.tup [.int 2,.int 3,.int 2,.int 4],.tup [.int 3,.int 2,.int 1,.int 4],.tup [.int 1,.int 2,.int 1,.int 21],.tup [.int 2,.int 2,.int 1,.int 21],.tup [.int 4,.int 2,.int 1,.int 2]]=sz at es;obtain ⟨ss,S2,b2,Y,T2,M2,e2⟩:=Q87 (i:=3) Qbs T1 (m:=m) (by omega) (Γ:=[zo (.ref L),zo sz,zo (.int n),zo (.int m),zo (.int w),zo (.int t),zl,zl,zl,zl,zl]) rfl rfl;obtain ⟨ws,S3,a8,a4,T3,M3,e3⟩:=Q87 (i:=4) Q2y T2 (m:=w) (by omega) (Γ:=[zo (.ref L),zo sz,zo (.int n),zo (.int m),zo (.int w),zo (.int t),zo (V3 ss),zl,zl,zl,zl]) rfl rfl;have a9:=T3.add (.dtp []);obtain ⟨k4,S4,h4,T4,M4,e4⟩:=Js a9 10 (by decide) (by decide);have hM:S3.length≠L:=by have:=T3.lt; omega
 have c4:S4[S3.length]?=zo (.dtp (Qy [])):=by rw [M4.w.keep _ hM (by rw [O6]; simp),D6 (O5 _),bu]; rfl
 obtain ⟨b6,S5,e5,T5,M5,ks,c5,b4,a7,I,t5,rfl⟩:=Q34 (xs:=bY k4) (λ(i:Nat)=>PV.int ((0:Int) + (i:Int)))
  (λi Γ A=>TapeAt A L ns/\Mw L S3 A/\∃ ks:List HK,A[S3.length]?=zo (.dtp (Qy ks))/\ks.length<=i/\ks.Nodup/\(∀ k∈ks,∃ p,Xs p=zo k/\Xy n p=zb/\Q3q ws p/\Qb8 ss p)/\∃ u,Γ=[zo (.ref L),zo sz,zo (.int n),zo (.int m),zo (.int w),zo (.int t),zo (V3 ss),zo (V3 ws),zo (.ref S3.length),u,zl])
  (ga:=Qd 9) (body:=Ue) (w:=[]) (λ_ _ A _=>J4 A) (λi x Γ A G ⟨Ti,Mi,ks,ci,hl,nd,I,u,b0⟩=>by
   subst b0;obtain ⟨p,A1,hp,pw,ps,TA,MA,ea⟩:=Qkc Ti n1 (by omega) (by omega) (by omega) (λx G=>(Y x G).1) (by omega) (by omega) (λx G=>(a4 x G).1)
   obtain ⟨k,hk⟩:=Q4h hp;have Z:S3.length < A.length:=(O2.mp ci).1;have c2:A1[S3.length]?=zo (.dtp (Qy ks)):=by rw [MA.keep _ hM Z]; exact ci
   have b1:S3.length < A1.length:=(O2.mp c2).1;have b7:i < k4:=by have:=(O2.mp G).1; rwa [F2] at this
   refine ⟨_,rfl,_,A1.set S3.length (.dtp (Qy (Ja ks k))),Ws rfl rfl (Q5 (n:=4) rfl rfl ea) (Q0b c2 (by omega) hk),TA.put hM _,⟨?_,λt h1 h2=>?_⟩,Ja ks k,?_,?_,Qb7 nd k,λy O=>?_,_,rfl⟩
   ·rw [G7]; exact E1 Mi.len MA.len
   ·rw [E7 (by omega)];exact (Mi.trans MA).keep t h1 h2
   ·rw [E5 b1]
   ·have:(Ja ks k).length<=ks.length + 1:=by unfold Ja; split <;> simp
    omega
   ·unfold Ja at O
    split at O
    ·exact I y O
    ·rcases D9.mp O with O | O
     ·exact I y O
     ·have:y=k:=by simpa using O
      rw [this]; exact ⟨p,hk,hp,pw,ps⟩)
  (Γ:=[zo (.ref L),zo sz,zo (.int n),zo (.int m),zo (.int w),zo (.int t),zo (V3 ss),zo (V3 ws),zo (.ref S3.length),zl,zl]) (st:=S4)
  ⟨T4,(Mw.add L S3 _).trans M4.w,[],c4,O5 _,cx,λk hk=>(nomatch hk),zl,rfl⟩
 rw [F2] at b4;obtain ⟨a1,S6,e6,T6,M6,xs,a6,rfl,a3⟩:=Q0c (xs:=bY n) (λ(i:Nat)=>PV.int ((0:Int) + (i:Int))) (λi a1 A=>TapeAt A L ns/\Mw L S5 A/\∃ xs:List Str,xs.length=i/\a1=xs.map PV.str/\∀ x∈xs,Zc x=zb/\x∈ss) (ga:=Qd 0) (me:=Ud) (w:=[]) (Γ0:=[zl,zo (V3 ss),zo (.ref L),zo (.int m)]) (λ_ _ A _=>J4 A)
  (λi x a1 A _ ⟨Ti,Mi,xs,h1,h2,h3⟩=>by
   obtain ⟨d,A1,hd,TA,MA,ea⟩:=Js Ti m m1 (by omega);have a2:d < ss.length:=by omega
   have hg:(ss.map PV.str)[d]?=zo (.str ss[d]):=by rw [D7,O3 a2]; rfl
   refine ⟨_,rfl,.str ss[d],A1,Q6 rfl (Q5 (n:=2) rfl rfl ea) (Qae hg A1),TA,Mi.trans MA.w,xs ++ [ss[d]],by rw [O6,h1]; rfl,by rw [h2,E4]; rfl,λz hz=>?_⟩;rcases D9.mp hz with hz | hz
   ·exact h3 z hz
   ·have:z=ss[d]:=by simpa using hz
    rw [this]; exact ⟨(Y _ (cJ a2)).1,cJ a2⟩)
  ⟨T5,Mw.refl L S5,[],rfl,rfl,λc hc=>(nomatch hc)⟩
 rw [F2] at a6;obtain ⟨mo,J,b5,T7,M7,e7⟩:=Js T6 t t1 (by omega);have Z:S3.length < S5.length:=(O2.mp c5).1;have c6:S6[S3.length]?=zo (.dtp (Qy ks)):=by rw [M6.keep _ hM Z]; exact c5
 have c7:J[S3.length]?=zo (.dtp (Qy ks)):=by rw [M7.keep _ hM]; exact c6
 obtain ⟨q1,q2,q3⟩:=Q4p I;have hn:(n:Int)=(xs.length:Int):=by omega
 refine ⟨mo,xs,ks.map hkV,J,⟨by omega,by omega,by omega,by omega,λx G=>(a3 x G).1,by rw [<- hn]; exact q2,by rw [O1]; omega,⟨ks,q1,a7⟩,ss,ws,by omega,by rw [b2,a8,a6]; refine E1 (Nat.mul_le_mul_left _ ?_) a5; simp; omega,λx G=>(a3 x G).2,λp hp=>q3 p hp,λx G=>(Y x G).1,a4⟩,T7,((M1.w.trans M2).trans M3).trans (M5.trans (M6.trans M7.w)),Qk ?_⟩
 show Vd [zo (.ref L),zl,zl,zl,zl,zl,zl,zl,zl,zl,zl] S=_;have b3:Qj U1 (Q1 (Q2 8) Q4) [zo (.ref L),zo sz,zo (.int n),zo (.int m),zo (.int w),zo (.int t),zo (V3 ss),zo (V3 ws),zo (.ref S3.length),t5,zo (.tup (xs.map .str))] J=.ok (.lst (ks.map hkV)) J:=by
  refine Jt rfl ?_;have hd:Wf J (.ref S3.length)=zo (Qy ks):=by show (match J[S3.length]? with | some (.dtp U)=>zo U | _=>zl)=_; rw [c7]
  show (match Wf J (.ref S3.length) with | some U=>Res.ok (PV.lst (U.map λ(kv:HK × PV)=>hkV kv.1)) J | none=>.stuck)=_
  rw [hd];show Res.ok (PV.lst ((Qy ks).map λ(kv:HK × PV)=>hkV kv.1)) J=_
  unfold Qy;rw [F9];rfl
 subst hsz;exact Q3 (Qi rfl) (Q3 (Qb2 (Q6 rfl (Q5 (n:=2) rfl rfl e1) es) rfl) (Q3 (Qi e2) (Q3 (Qi e3) (Q3 (Qi rfl) (Q3 (Jr (rgw (n:=k4) (by omega) (Q5 (n:=2) rfl rfl e4)) e5) (Q3 (Qi (Jt (Qe (Uf (Vk (rgw (n:=n) (by omega) rfl) e6)) rfl) rfl)) (Qn (Ug (Qe (Q5 (n:=2) rfl rfl e7) (Qe rfl (Qe (Jt (Qe b3 rfl) rfl) rfl))) (by simp)))))))))
theorem Qsd {most:Int} {q:List Str} {rules:List PV} (h:Man most q rules) (S:Q0):V6 [j8 most q rules] S=.ok (.bl zb) S:=by
 obtain ⟨ks,k1,k2⟩:=h.ks;obtain ⟨Y,J,O⟩:=Qn9 h.r;rw [k1] at J;cases J;have:=h.len;have:=h.s4;have G:(q.map PV.str).length=q.length:=O1 _;have hr:V7 [.int ((q.map PV.str).length:Nat),.tup rules] S=.ok (.bl zb) S:=by
  refine Vw ?_;show Kr [zo (.int ((q.map PV.str).length:Nat)),zo (.tup rules)] S=_;have hs:y9 (Q2 1) [zo (.int ((q.map PV.str).length:Nat)),zo (.tup rules)] S=.ok (.int (rules.length:Nat)) S:=by
   show (match Yc Xs rules with | some ks=>if ks.length<=76 then Res.ok (PV.int ((Zx ks).length:Nat)) S else .stuck | none=>.stuck)=_
   rw [k1];show (if ks.length<=76 then Res.ok (PV.int ((Zx ks).length:Nat)) S else .stuck)=_;rw [bT (by omega),Qbt k2,O]
  refine Q3 (Z3 (U4 (Zj (b:=zb) (Qf (Q5 (n:=3) rfl rfl (U7 (by omega) (by omega) S)))) (Zj (b:=zb) (Qf (Q3k (xs:=rules) (g:=id) (by rw [ie]; exact Jw rfl rfl (by omega)) λp Z=>⟨_,rfl,Q5 (n:=2) rfl rfl (Qr4 ?_ S)⟩)))) rfl) (Qn (Q6 hs rfl (Qij S rfl)))
  rw [G];exact E9.mp h.r p Z
 refine Vw ?_;show Kn [zo (j8 most q rules)] S=_;have I:Wc [.tup (q.map .str)] S=.ok (.bl zb) S:=by
  refine Vw ?_;show Xm [zo (.tup (q.map .str))] S=_;exact Qn (Q0e (Q5 (n:=3) rfl rfl (U7 (by rw [G]; have:=h.s1; omega) (by rw [G]; omega) S)) (Q3k (xs:=q) (g:=PV.str) (Jw rfl rfl (by rw [G]; omega)) λx U=>⟨_,rfl,Q5 (n:=1) rfl rfl (Q5b (h.sw x U) S)⟩))
 exact Q3 (Z3 (U4 (Zj (b:=zb) (Qf (Q5 (n:=3) rfl rfl (U7 (xs:=[.int most,.tup (q.map .str),.tup rules]) (by simp) (by simp) S)))) (Zj (b:=zb) (Qf (Q5 (n:=3) rfl rfl (Qci h.m0 h.m1 S))))) rfl) (Qn (Q0e (Q5 (n:=1) rfl rfl I) (Q5 (n:=2) rfl rfl hr)))
theorem Qbr {most:Int} {q:List Str} {rules:List PV} (h:Man most q rules) (S:Q0):Ju [j8 most q rules] S=.ok .non S:=by
 have st:Wx [zo (j8 most q rules)] S=.nx [zo (j8 most q rules)] S:=Z3 (Zj (b:=zb) (Qf (Q5 (n:=1) rfl rfl (Qsd h S)))) rfl;unfold Ju J8;show (match Wx [zo (j8 most q rules)] S with | .rt v st'=>fin S v st' | .nx _ st'=>fin S .non st' | .exc x st'=>Qnm S x st' | _=>.stuck)=_
 rw [st];exact Qnk S
structure Ru where
 h:Nat
 s:Str
 e:Str
 t:Str
 u:Int
 ms:List (Int × Str)
variable {r:Ru} {rs:List Ru}
def ruV (r:Ru):PV:=.tup [.int r.h,.str r.s,.str r.e,.str r.t,.int r.u,.tup (r.ms.map prV)]
def stV (ss:List Str) (ls:List (Int × Str)) (u:Int):PV:=.tup [.tup (ss.map .str),.tup (ls.map prV),.int u]
def kP (p:Int × Str):HK:=.tup [.int p.1,.str p.2]
theorem Qhs {p q:Int × Str} (h:kP p=kP q):p=q:=by
 unfold kP at h;injection h with h
 injection h with h1 h
 injection h with h2 _
 injection h1 with h1
 injection h2 with h2
 exact dP h1 h2
def evB (e:Str):Bool:=decide (e = "go") || decide (e = "fall")
def yh (r:Ru) (ss:List Str) (ls:List (Int × Str)):Bool:=decide (ss.getD r.h ca=r.s) && (evB r.e || decide (((r.h:Int),r.e)∈ls))
theorem ixs (q:h < ss.length) (S:Q0):oIx S (.tup (ss.map .str)) (.int h)=.ok (.str (ss.getD h ca)) S:=by
 refine ix_tup ?_ S;rw [D7,E3,O3 q];rfl
theorem nes (S:Q0) (a b:Str):oNe S (.str a) (.str b)=.ok (.bl (!decide (a=b))) S:=by
 show Res.ok (PV.bl (!(a == b))) S=_
 by_cases q:a=b
 ·rw [bW q,beq_iff_eq.mpr q]
 ·rw [bV q,beq_eq_false_iff_ne.mpr q]
theorem eqs (S:Q0) (a b:Str):oEq S (.str a) (.str b)=.ok (.bl (decide (a=b))) S:=by
 show Res.ok (PV.bl (a == b)) S=_
 by_cases q:a=b
 ·rw [bW q,beq_iff_eq.mpr q]
 ·rw [bV q,beq_eq_false_iff_ne.mpr q]
theorem Qpg (p q:Int × Str):peq (prV p) (prV q)=decide (p=q):=by
 show ((p.1 == q.1) && ((p.2 == q.2) && zb))=_
 by_cases e:p=q
 ·subst e; simp
 ·rw [bV e]
  by_cases G:p.1=q.1
  ·by_cases I:p.2=q.2
   ·exact absurd (dP G I) e
   ·simp [I]
  ·simp [G]
theorem Qhw (ls:List (Int × Str)) (p:Int × Str) (S:Q0):oIn yo S (prV p) (.tup (ls.map prV))=.ok (.bl (decide (p∈ls))) S:=by
 show (if good dep (prV p)=zb/\(ls.map prV).all (good dep)=zb then Res.ok (PV.bl (((ls.map prV).any λy=>peq y (prV p)) != yo)) S else .stuck)=_
 rw [bT ⟨rfl,by rw [bw,E9]; exact λ_ _=>rfl⟩];have:((ls.map prV).any λy=>peq y (prV p))=decide (p∈ls):=by
  rw [dN]
  by_cases q:p∈ls
  ·rw [bW q,cX];exact ⟨p,q,by show peq (prV p) (prV p)=zb; rw [Qpg]; simp⟩
  ·rw [bV q,cz];intro x G;show ¬ peq (prV x) (prV p)=zb;rw [Qpg];intro e;have e:x=p:=by simpa using e
   rw [e] at G; exact q G
 rw [this,dM]
theorem Qgz {a b:ME} {x y:Bool} (h:a Γ S=.ok (.bl x) S) (h2:b Γ S=.ok (.bl y) S):mOr a b Γ S=.ok (.bl (x || y)) S:=by
 rw [Qsf,h,Qp];cases x with
 | true=>rfl
 | false=>exact h2
theorem Qcb (r:Ru) (J:r.h < ss.length) (ls:List (Int × Str)) (u:Int) (S:Q0):Jc [ruV r,stV ss ls u] S=.ok (.bl (yh r ss ls)) S:=by
 refine Vw ?_;show V1 [zo (ruV r),zo (stV ss ls u)] S=_;have h1:=ixs J S;have G:=nes S (ss.getD r.h ca) r.s;unfold V1
 by_cases q:ss.getD r.h ca=r.s
 ·rw [bW q] at G;have I:yh r ss ls=(decide (r.e = "go") || (decide (r.e = "fall") || decide (((r.h:Int),r.e)∈ls))):=by
   unfold yh evB; rw [bW q,bz,Bool.or_assoc]
  rw [I];exact Q3 (Z3 (Qf (Q6 (Q6 rfl rfl h1) rfl G)) rfl) (Qn (Qgz (Q6 rfl rfl (eqs S r.e "go")) (Qgz (Q6 rfl rfl (eqs S r.e "fall")) (Q6 rfl rfl (Qhw ls ((r.h:Int),r.e) S)))))
 ·rw [bV q] at G;have I:yh r ss ls=yo:=by unfold yh; rw [bV q,L5]
  rw [I];exact Jn (Wd (Qf (Q6 (Q6 rfl rfl h1) rfl G)) rfl)
theorem Z0 (S:Q0) (c:Cell):(S ++ [c])[S.length]?=zo c:=by rw [D6 (O5 _),bu]; rfl
theorem Qp4 (S:Q0) {a b:List PV} (h:a.length + b.length<=1000000):Qx S (.lst a) (.lst b)=.ok (.lst (a ++ b)) S:=bT (show _<=lim from h)
theorem Qjc (S:Q0) {a b:List PV} (h:a.length + b.length<=1000000):Qx S (.tup a) (.tup b)=.ok (.tup (a ++ b)) S:=bT (show _<=lim from h)
theorem Qk4 (h:S[n]?=zo (.lst xs)) (q:k < xs.length) (v:PV):Xx S (.ref n) (.int k) v=zo (S.set n (.lst (xs.set k v))):=by
 unfold Xx;simp only [h];rw [Qnc q];rfl
theorem Qp5 (acc:List (Int × Str)) (p:Int × Str):Ja (acc.map kP) (kP p)=(Ja acc p).map kP:=by
 unfold Ja
 by_cases q:p∈acc
 ·rw [bT q,bT (F1.mpr ⟨p,q,rfl⟩)]
 ·rw [bU q,bU,E4]
  ·rfl
  ·intro h;obtain ⟨x,G,e⟩:=F1.mp h;rw [Qhs e] at G; exact q G
theorem Q9e [DecidableEq α] (acc:List α) (p:α):(Ja acc p).length<=acc.length + 1:=by unfold Ja; split <;> simp
theorem Q4e {D:Nat} {x0 x1 x2:Option PV}:∀ (ps acc:List (Int × Str)) (S:Q0) (a:Option PV),S[D]?=zo (.dtp (Qy (acc.map kP)))->acc.length + ps.length < 1000 ->
  ∃ O,Z2 (Qd 4) Yn [] (ps.map prV) [x0,x1,x2,zo (.ref D),a] S=.nx [x0,x1,x2,zo (.ref D),O] (S.set D (.dtp (Qy ((ps.foldl Ja acc).map kP))))
 | [],acc,S,a,h,_=>⟨a,by
  have J:=(O2.mp h).1;have:S.set D (.dtp (Qy (acc.map kP)))=S:=by
   apply cU;intro i
   by_cases q:D=i
   ·subst q; rw [E5 J,h]
   ·rw [E7 q]
  simp [Z2,this]⟩
 | p :: ps,acc,S,a,h,U=>by
  rw [D4] at U;have J:=(O2.mp h).1;have G:=Q0b h (by rw [O1]; omega) (p:=prV p) (k:=kP p) rfl;rw [Qp5] at G;have I:Yn [x0,x1,x2,zo (.ref D),zo (prV p)] S=.nx [x0,x1,x2,zo (.ref D),zo (prV p)] (S.set D (.dtp (Qy ((Ja acc p).map kP)))):=Ws rfl rfl rfl G;obtain ⟨O,e⟩:=Q4e ps (Ja acc p) (S.set D (.dtp (Qy ((Ja acc p).map kP)))) (zo (prV p)) (E5 J) (by have:=Q9e acc p; omega);refine ⟨O,?_⟩;rw [List.set_set] at e;rw [D3,F5,<- e];simp [Z2,I]
def lsT (ls ms:List (Int × Str)):List (Int × Str):=U6 (Zx (ls ++ ms))
theorem Qe4 (ps:List (Int × Str)):Q4u (Qy (ps.map kP))=zo ps:=by
 induction ps with
 | nil=>rfl
 | cons p ps q=>
  show (match Qac (kP p),Q4u (Qy (ps.map kP)) with | some p,zo l=>zo (p :: l) | _,_=>zl)=_
  rw [q];rfl
theorem Q5e (ss:List Str) (ls:List (Int × Str)) (u:Int):good 12 (stV ss ls u)=zb:=by
 show ((ss.map PV.str).all (good 10) && ((ls.map prV).all (good 10) && (zb && zb)))=zb;have h1:(ss.map PV.str).all (good 10)=zb:=by rw [bw,E9]; exact λ_ _=>rfl
 have h2:(ls.map prV).all (good 10)=zb:=by rw [bw,E9]; exact λ_ _=>rfl
 rw [h1,h2];rfl
theorem Qbe (r:Ru) (hh:r.h < ss.length) (hl:ls.length + r.ms.length < 64) (u:Int) (S:Q0):J2 [ruV r,stV ss ls u] S=.ok (stV (ss.set r.h r.t) (lsT ls r.ms) (u + r.u)) S:=by
 have c1:(S ++ [Cell.lst (ss.map .str)])[S.length]?=zo (.lst (ss.map .str)):=Z0 _ _;have hs:=Qk4 c1 (k:=r.h) (by rw [O1]; exact hh) (.str r.t);have e1:(S ++ [Cell.lst (ss.map PV.str)]).set S.length (.lst ((ss.map PV.str).set r.h (.str r.t)))=S ++ [Cell.lst ((ss.set r.h r.t).map PV.str)]:=by
  rw [eR _ _ (O5 _),bu,List.map_set];rfl
 rw [e1] at hs;obtain ⟨q,J⟩:∃ q,S ++ [Cell.lst ((ss.set r.h r.t).map PV.str)]=q:=⟨_,rfl⟩;rw [J] at hs;have cD:(q ++ [Cell.dtp []])[q.length]?=zo (.dtp (Qy (([]:List (Int × Str)).map kP))):=Z0 _ _;have Z:(ls ++ r.ms).length < 64:=by rw [O6]; exact hl
 obtain ⟨a',U⟩:=Q4e (x0:=zo (ruV r)) (x1:=zo (stV ss ls u)) (x2:=zo (.ref S.length)) (ls ++ r.ms) [] (q ++ [Cell.dtp []]) zl cD (by simp only [cK]; omega);have e3:(q ++ [Cell.dtp []]).set q.length (.dtp (Qy (((ls ++ r.ms).foldl Ja []).map kP)))=q ++ [Cell.dtp (Qy ((Zx (ls ++ r.ms)).map kP))]:=by
  rw [eR _ _ (O5 _),bu];rfl
 rw [e3] at U;have a1:=Vy (ls ++ r.ms);obtain ⟨G,I⟩:∃ G,q ++ [Cell.dtp (Qy ((Zx (ls ++ r.ms)).map kP))]=G:=⟨_,rfl⟩;rw [I] at U;have d4:Wf G (.ref q.length)=zo (Qy ((Zx (ls ++ r.ms)).map kP)):=by
  have:G[q.length]?=zo (.dtp (Qy ((Zx (ls ++ r.ms)).map kP))):=by rw [<- I]; exact Z0 _ _
  show (match G[q.length]? with | some (.dtp Y)=>zo Y | _=>zl)=_
  rw [this]
 have s4:Q3d G [.ref q.length]=.ok (.lst ((lsT ls r.ms).map prV)) G:=by
  unfold Q3d;simp only [d4,Qe4];rw [bT (by omega)];rfl
 have t4:Yu G [.ref S.length]=.ok (.tup ((ss.set r.h r.t).map .str)) G:=by
  have:G[S.length]?=zo (.lst ((ss.set r.h r.t).map .str)):=by
   rw [<- I,<- J,O8 (by simp)];exact Z0 _ _
  show (match (match G[S.length]? with | some (.lst xs)=>zo xs | _=>zl) with | some xs=>Res.ok (PV.tup xs) G | none=>.stuck)=_
  rw [this]
 have O:Qx (q ++ [Cell.dtp []]) (.tup (ls.map prV)) (.tup (r.ms.map prV))=.ok (.tup ((ls ++ r.ms).map prV)) (q ++ [Cell.dtp []]):=by
  rw [Qjc _ (by rw [O1,O1]; omega),E4]
 have st:Wz [zo (ruV r),zo (stV ss ls u),zl,zl,zl] S=.rt (stV (ss.set r.h r.t) (lsT ls r.ms) (u + r.u)) G:=by
  unfold Wz;refine Q3 (Qi (Vp (ps:=ss.map .str) rfl)) ?_;refine Q3 (Qqj rfl rfl rfl hs) ?_;refine Q3 (Qi rfl) ?_;refine Q3 (Jr (Jw (Q6 rfl rfl O) rfl (by rw [O1]; omega)) U) ?_;exact Qn (Ug (Qe (Jt rfl t4) (Qe (Jt (Qe (Jt rfl s4) rfl) rfl) (Qe (Q6 rfl rfl (Q6x G u r.u)) rfl))) (by simp))
 have:=q9 (nl:=5) (ps:=[ruV r,stV ss ls u]) st;unfold J2;rw [this,<- I,<- J,dS];exact Q4z (Q5e _ _ _)
theorem xt {α:Type} [DecidableEq α]:∀ {l m:List α},l.Nodup->(∀ x∈l,x∈m)->l.length<=m.length
 | [],_,_,_=>F7 _
 | a :: l,m,h,hs=>by
  obtain ⟨h1,h2⟩:=ce.mp h;have G:=hs a (by simp);have:=xt (m:=m.erase a) h2 λx q=>(iI (show x≠a from λe=>h1 (by rw [<- e]; exact q))).mpr (hs x (O4 _ q))
  rw [iH G] at this;have:=iG G;rw [D4];omega
theorem Qh9 [DecidableEq α] {acc:List α} {p x:α}:x∈Ja acc p <-> x∈acc\/x=p:=by
 unfold Ja
 split
 ·rename_i q;exact ⟨.inl,λh=>h.elim id (λe=>e ▸ q)⟩
 ·simp
theorem Q2p {α:Type} [DecidableEq α] {x:α}:∀ {ps acc:List α},x∈ps.foldl Ja acc <-> x∈acc\/x∈ps
 | [],acc=>by simp
 | p :: ps,acc=>by
  rw [F5,Q2p,Qh9,D5];constructor
  ·rintro ((h | h) | h)
   ·exact .inl h
   ·exact .inr (.inl h)
   ·exact .inr (.inr h)
  ·rintro (h | h | h)
   ·exact .inl (.inl h)
   ·exact .inl (.inr h)
   ·exact .inr h
theorem Qcp [DecidableEq α] {ks:List α} (h:ks.Nodup) (k:α):(Ja ks k).Nodup:=by
 unfold Ja
 split
 ·exact h
 ·rename_i q;exact cV.mpr ⟨h,by simp,λx G y I e=>by
   have:y=k:=by simpa using I
   rw [e,this] at G; exact q G⟩
theorem Qca {α:Type} [DecidableEq α]:∀ {ps acc:List α},acc.Nodup->(ps.foldl Ja acc).Nodup
 | [],_,h=>h
 | p :: ps,_,h=>by rw [F5]; exact Qca (Qcp h p)
theorem mem_lsT {ms:List (Int × Str)} {x:Int × Str}:x∈lsT ls ms <-> x∈ls\/x∈ms:=by
 unfold lsT;rw [(Wh _).mem_iff];unfold Zx;rw [Q2p,D9];simp
def InW (ws:List Str) (p:Int × Str):Prop:=0<=p.1/\p.1 < 4/\p.2∈ws
structure StI (n:Nat) (ws:List Str) (ss:List Str) (ls:List (Int × Str)):Prop where
 len:ss.length=n
 nd:ls.Nodup
 sub:∀ p∈ls,InW ws p
theorem StI.small (I:StI n ws ss ls) (J:ws.length<=2):ls.length<=8:=by
 have h:=xt (m:=(ws.map λw=>(0,w)) ++ (ws.map λw=>(1,w)) ++ (ws.map λw=>(2,w)) ++ (ws.map λw=>((3:Int),w))) I.nd λp G=>by
  obtain ⟨h1,h2,q⟩:=I.sub p G;have:p.1=0\/p.1=1\/p.1=2\/p.1=3:=by omega
  obtain ⟨a,b⟩:=p;simp only [D9,F1,Prod.mk.injEq];rcases this with e | e | e | e
  ·exact .inl (.inl (.inl ⟨b,q,e.symm,rfl⟩))
  ·exact .inl (.inl (.inr ⟨b,q,e.symm,rfl⟩))
  ·exact .inl (.inr ⟨b,q,e.symm,rfl⟩)
  ·exact .inr ⟨b,q,e.symm,rfl⟩
 simp only [O6,O1] at h;omega
structure RuI (n:Nat) (ws:List Str) (r:Ru):Prop where
 h:r.h < n
 ms:r.ms.length<=8
 sub:∀ p∈r.ms,InW ws p
def Qub (rs:List Ru):List Int->List Str->List (Int × Str)->Int->Option Int
 | [],_,_,u=>zo u
 | k :: ks,ss,ls,u=>match rs[k.toNat]? with
  | some r=>if 0<=k/\yh r ss ls=zb then Qub rs ks (ss.set r.h r.t) (lsT ls r.ms) (u + r.u) else zl
  | none=>zl
structure MI1 (starts:List Str) (rs:List Ru) (ws:List Str):Prop where
 w2:ws.length<=2
 ru:∀ r∈rs,RuI starts.length ws r
 len:rs.length<=9
theorem Qf0 (ks:List HK) (k:HK):(X9 (Qy ks) k).isSome=decide (k∈ks):=by
 unfold X9 Qy;rw [dW]
 by_cases q:k∈ks
 ·rw [bW q,ig];exact ⟨(k,.bl zb),F1.mpr ⟨k,q,rfl⟩,by simp⟩
 ·rw [bV q];cases z:fV (λkv=>decide (kv.1=k)) (ks.map λk=>(k,PV.bl zb)) with
  | none=>rfl
  | some x=>
   have h1:=fX z;have h2:=fW z;obtain ⟨y,G,rfl⟩:=F1.mp h1;have:y=k:=by simpa using h2
   rw [this] at G; exact absurd G q
theorem Qms (r:Ru) (J:r.h < ss.length) (ls:List (Int × Str)) (u:Int) (S:Q0):Ye [ruV r,stV ss ls u] S=.ok (.bl (yh r ss ls)) S:=by
 refine Vw ?_;show Wy [zo (ruV r),zo (stV ss ls u)] S=_;have h1:=ixs J S;have G:=nes S (ss.getD r.h ca) r.s;have I:Qa7 yo ["go", "fall"] (mOp oIx (Q2 0) (mC (.int 2))) [zo (ruV r),zo (stV ss ls u)] S=.ok (.bl (evB r.e)) S:=by
  rw [Qhx (x:=r.e) (S1:=S) rfl];congr 2;rw [dM];show (decide ("go" = r.e) || (decide ("fall" = r.e) || false))=_;unfold evB;rw [dR];congr 1 <;> exact decide_eq_decide.mpr eq_comm
 unfold Wy yh
 by_cases q:ss.getD r.h ca=r.s
 ·rw [bW q] at G ⊢;rw [bz];exact Q3 (Z3 (Qf (Q6 (Q6 rfl rfl h1) rfl G)) rfl) (Qn (Qgz I (Q6 rfl rfl (Qhw ls ((r.h:Int),r.e) S))))
 ·rw [bV q] at G ⊢;rw [L5];exact Jn (Wd (Qf (Q6 (Q6 rfl rfl h1) rfl G)) rfl)
theorem Qku (ns:List (Int × Str)):Q7z (ns.map prV)=zo ns:=by
 induction ns with
 | nil=>rfl
 | cons p ns q=>show (Q7z (ns.map prV)).map ((p.1,p.2) :: ·)=_; rw [q]; rfl
theorem Qfn (l:List α) (q:h < l.length) (x:α):l.take h ++ [x] ++ l.drop (h + 1)=l.set h x:=by
 rw [List.set_eq_take_append_cons_drop,bT q];simp
theorem Q1x (r:Ru) (U:r.h < ss.length) (h4:ss.length<=100) (I:ls.length + r.ms.length < 64) (u:Int) (S:Q0):Qu [ruV r,stV ss ls u] S=.ok (stV (ss.set r.h r.t) (lsT ls r.ms) (u + r.u)) S:=by
 have st:W4 [zo (ruV r),zo (stV ss ls u),zl] S=.rt (stV (ss.set r.h r.t) (lsT ls r.ms) (u + r.u)) S:=by
  unfold W4;have k1:mSl (mOp oIx (Q2 1) (mC (.int 0))) Zm (Zn (mOp oIx (Q2 0) (mC (.int 0)))) [zo (ruV r),zo (stV ss ls u),zl] S=.ok (.tup ((ss.take r.h).map .str)) S:=by
   show Res.ok (PV.tup (cut (ss.map PV.str) zl (zo (r.h:Int)))) S=_;rw [Qeg,fb]
  have k2:mSl (mOp oIx (Q2 1) (mC (.int 0))) (Zn (mOp Qx (mOp oIx (Q2 0) (mC (.int 0))) (mC (.int 1)))) Zm [zo (ruV r),zo (stV ss ls u),zl] S=.ok (.tup ((ss.drop (r.h + 1)).map .str)) S:=by
   show Res.ok (PV.tup (cut (ss.map PV.str) (zo ((r.h:Int) + 1)) zl)) S=_;rw [show ((r.h:Int) + 1)=((r.h + 1:Nat):Int) by push_cast; rfl,Q90,fc]
  have Z:((ss.take r.h).map PV.str).length<=100:=by rw [O1,L6]; omega
  have Y:((ss.drop (r.h + 1)).map PV.str).length<=100:=by rw [O1,cf]; omega
  have O:Qx S (.tup ((ss.take r.h).map .str)) (.tup [.str r.t])=.ok (.tup ((ss.take r.h ++ [r.t]).map .str)) S:=by rw [Qjc S (by simp; omega),E4]; rfl
  have J:Qx S (.tup ((ss.take r.h ++ [r.t]).map .str)) (.tup ((ss.drop (r.h + 1)).map .str))=.ok (.tup ((ss.set r.h r.t).map .str)) S:=by
   rw [Qjc S (by rw [E4,O6]; simp; omega),<- E4,Qfn ss U]
  have q:Qx S (.tup (ls.map prV)) (.tup (r.ms.map prV))=.ok (.tup ((ls ++ r.ms).map prV)) S:=by
   rw [Qjc S (by rw [O1,O1]; omega),E4]
  have G:qr (mOp Qx (mOp oIx (Q2 1) (mC (.int 1))) (mOp oIx (Q2 0) (mC (.int 5)))) [zo (ruV r),zo (stV ss ls u),zo (.tup ((ss.set r.h r.t).map .str))] S=.ok (.lst ((lsT ls r.ms).map prV)) S:=by
   unfold qr;rw [Q6 rfl rfl q,Qp];show (match Q7z ((ls ++ r.ms).map prV) with | some ns=>if ns.length < 64 then Res.ok (PV.lst ((U6 (Zx ns)).map prV)) S else .stuck | none=>.stuck)=_
   rw [Qku];show (if (ls ++ r.ms).length < 64 then _ else _)=_;rw [bT (by rw [O6]; exact I)];rfl
  exact Q3 (Qi (Q6 (Q6 k1 rfl O) k2 J)) (Qn (Ug (Qe rfl (Qe (Jt (Qe G rfl) rfl) (Qe (Q6 rfl rfl (Q6x S u r.u)) rfl))) (by simp)))
 have:=q9 (nl:=3) (ps:=[ruV r,stV ss ls u]) st;unfold Qu;rw [this];exact Q8u (Q5e _ _ _)
def Q0a (rs:List Ru) (ss:List Str) (ls:List (Int × Str)):List (Ru × Nat):=rs.zipIdx.filter λp=>yh p.1 ss ls
def nV (p:Ru × Nat):PV:=.int (p.2:Int)
def Qan (rs:List Ru) (ss:List Str) (ls:List (Int × Str)):List PV:=(Q0a rs ss ls).map nV
theorem Qim:∀ (rs:List Ru) (n:Nat),Vi n (rs.map ruV)=(rs.zipIdx n).map λp=>.tup [.int (p.2:Int),ruV p.1]
 | [],_=>rfl
 | r :: rs,n=>by rw [D3,dq,D3,<- Qim rs (n + 1)]; rfl
theorem Qey {p:Ru × Nat} (h:p∈rs.zipIdx):rs[p.2]?=zo p.1:=ii.mp h
theorem Q2k {most:Int} {q:List Str} (M:MI1 q rs ws) (hs:ss.length=q.length) (ls:List (Int × Str)) (u:Int) (S:Q0):Qm [j8 most q (rs.map ruV),stV ss ls u] S=.ok (.ref S.length) (S ++ [.lst (Qan rs ss ls)]):=by
 refine Qk ?_;show Yr [zo (j8 most q (rs.map ruV)),zo (stV ss ls u)] S=_;have J:Jz (je (Ze (Qd 0) (Ze (Qd 1) jf))) Zv Y0 [] [zl,zl,zo (stV ss ls u)] (Vi 0 (rs.map ruV)) S=.ok (Qan rs ss ls) S:=by
  rw [Qim];exact Qei (λp:Ru × Nat=>.tup [.int (p.2:Int),ruV p.1]) nV (λp=>yh p.1 ss ls) (J4 _) λp I=>⟨_,rfl,Qf (Q5 (n:=2) rfl rfl (Qms p.1 (by rw [hs]; exact (M.ru _ (E6 (Qey I))).h) ls u S)),λ_=>rfl⟩
 have G:Q8g (Q1 (mOp oIx (Q2 0) (mC (.int 2))) Q4) [zo (j8 most q (rs.map ruV)),zo (stV ss ls u)] S=.ok (Vi 0 (rs.map ruV),[]) S:=by
  show (if (rs.map ruV).length<=lim then Res.ok (Vi 0 (rs.map ruV),([]:Wt)) S else .stuck)=_;exact bT (by rw [O1,jy]; have:=M.len; omega)
 exact Qn (Vp (Vk G J))
def InG (n:Nat) (ws:List Str) (p:Int × Str):Prop:=0<=p.1/\p.1 < n/\p.2∈ws
theorem Qc0 {n:Nat} {ws:List Str}:∀ {ls:List PV},(∀ l∈ls,Qab n l=zb)->(∀ l∈ls,∃ (h:Int) (y:Str),l=.tup [.int h,.str y]/\y∈ws)->∃ ms:List (Int × Str),ls=ms.map prV/\∀ p∈ms,InG n ws p
 | [],_,_=>⟨[],rfl,λp q=>nomatch q⟩
 | l :: ls,h1,h2=>by
  obtain ⟨ms,e,hm⟩:=Qc0 (λx G=>h1 x (O4 _ G)) (λx G=>h2 x (O4 _ G))
  obtain ⟨x,s,I,x0,x1,_⟩:=Q69 (h1 l (by simp));obtain ⟨h,y,J,O⟩:=h2 l (by simp);rw [I] at J;cases J;refine ⟨(x,s) :: ms,by rw [D3,<- e,I]; rfl,λp q=>?_⟩;rcases D5.mp q with rfl | q
  ·exact ⟨x0,by show x < n; omega,O⟩
  ·exact hm p q
structure RuJ (n:Nat) (sts ws:List Str) (r:Ru):Prop where
 h:r.h < n
 ms:r.ms.length<=8
 sub:∀ p∈r.ms,InG n ws p
 t:r.t∈sts
 u0:0<=r.u
theorem Qkd {q:List Str} (h:Xy n p=zb) (U:Q3q ws p) (hs:Qb8 q p):∃ r,p=ruV r/\RuJ n q ws r:=by
 obtain ⟨x,s,e,t,u,ls,rfl,x0,x1,_,_,_,u0,_,J,G⟩:=Q20 h;obtain ⟨ms,rfl,I⟩:=Qc0 G (U _ _ _ _ _ ls rfl);obtain ⟨y,O,e3⟩:=hs _ _ _ _ _ _ rfl;cases e3;refine ⟨⟨x.toNat,s,e,t,u,ms⟩,?_,⟨by show x.toNat < n; omega,by rw [O1] at J; exact J,I,O,u0⟩⟩;show _=PV.tup [.int (x.toNat:Nat),.str s,.str e,.str t,.int u,.tup (ms.map prV)];rw [fO x0]
theorem Q7j {n:Nat} {G ws:List Str}:∀ {rules:List PV},(∀ p∈rules,Xy n p=zb/\Q3q ws p/\Qb8 G p)->∃ rs:List Ru,rules=rs.map ruV/\∀ r∈rs,RuJ n G ws r
 | [],_=>⟨[],rfl,λr I=>nomatch I⟩
 | p :: rules,h=>by
  obtain ⟨rs,e,I⟩:=Q7j λx q=>h x (O4 _ q)
  obtain ⟨h1,h2,O⟩:=h p (by simp);obtain ⟨r,J,h1⟩:=Qkd h1 h2 O;refine ⟨r :: rs,by rw [D3,<- e,J],λx q=>?_⟩;rcases D5.mp q with rfl | q
  ·exact h1
  ·exact I x q
structure MI2 (most:Int) (starts:List Str) (rs:List Ru) (sts ws:List Str):Prop where
 m0:0<=most
 w2:ws.length<=2
 n4:starts.length<=4
 cnt:sts.length ^ starts.length * 2 ^ (starts.length * ws.length) * (most.toNat + 1)<=576
 st:∀ x∈starts,x∈sts
 ru:∀ r∈rs,RuJ starts.length sts ws r
 len:rs.length<=9
 n1:1<=starts.length
 sw:∀ x∈sts,Zc x=zb
 lw:∀ x∈ws,Qje x/\¬ x = "zzzzzzzz"
theorem MI2.one {most:Int} {q:List Str} {G:List Str} (M:MI2 most q rs G ws):MI1 q rs ws:=⟨M.w2,λr I=>⟨(M.ru r I).h,(M.ru r I).ms,λp J=>let ⟨a,b,c⟩:=(M.ru r I).sub p J; ⟨a,by have:=M.n4; omega,c⟩⟩,M.len⟩
theorem Qse {most:Int} {q:List Str} {rules:List PV} (h:Man most q rules):∃ rs G ws,rules=rs.map ruV/\MI2 most q rs G ws:=by
 obtain ⟨G,ws,w2,Z,h1,O,J,Y⟩:=h.ws;obtain ⟨rs,e,U⟩:=Q7j (rules:=rules) λp I=>⟨E9.mp h.r p I,O p I⟩
 exact ⟨rs,G,ws,e,h.m0,w2,h.s4,Z,h1,U,by have:=h.len; rw [e,O1] at this; exact this,h.s1,J,Y⟩
abbrev Sd:=List Str × List (Int × Str) × Int
variable {s:Sd} {fr:List Sd}
def sdV (s:Sd):PV:=stV s.1 s.2.1 s.2.2
def sdK (s:Sd):HK:=.tup [.tup (s.1.map .str),.tup (s.2.1.map kP),.int s.2.2]
theorem Qhn (d:Nat) (ss:List Str):Yc (Vj d) (ss.map .str)=zo (ss.map .str):=by
 induction ss with
 | nil=>rfl
 | cons x ss q=>
  rw [D3,Yc,q];have:Vj d (.str x)=zo (.str x):=by cases d <;> rfl
  rw [this];rfl
theorem Qna (d:Nat) (ls:List (Int × Str)):Yc (Vj (d + 1)) (ls.map prV)=zo (ls.map kP):=by
 induction ls with
 | nil=>rfl
 | cons p ls q=>
  rw [D3,Yc,q];have:Vj (d + 1) (prV p)=zo (kP p):=by cases d <;> rfl
  rw [this];rfl
theorem K8 (s:Sd):Xs (sdV s)=zo (sdK s):=by
 show (Yc (Vj 4) [.tup (s.1.map .str),.tup (s.2.1.map prV),.int s.2.2]).map HK.tup=_;have q:Vj 4 (.tup (s.1.map .str))=zo (.tup (s.1.map .str)):=by
  show (Yc (Vj 3) (s.1.map .str)).map HK.tup=_;rw [Qhn]; rfl
 have G:Vj 4 (.tup (s.2.1.map prV))=zo (.tup (s.2.1.map kP)):=by
  show (Yc (Vj 3) (s.2.1.map prV)).map HK.tup=_;rw [Qna]; rfl
 simp only [Yc,q,G];rfl
theorem zi {t:Sd} (h:sdK s=sdK t):s=t:=by
 obtain ⟨a,b,c⟩:=s;obtain ⟨G,I,J⟩:=t;unfold sdK at h;simp only [HK.tup.injEq,iU,HK.int.injEq,and_true] at h;obtain ⟨h1,h2,q⟩:=h;have k1:a=G:=ij (λx y e=>by cases e; rfl) |>.mp h1;have k2:b=I:=ij (λx y e=>Qhs e) |>.mp h2;rw [k1,k2,q]
theorem Qhy (s:Sd):hkV (sdK s)=sdV s:=Qwf (K8 s)
def stp (r:Ru) (s:Sd):Sd:=(s.1.set r.h r.t,lsT s.2.1 r.ms,s.2.2 + r.u)
def fit (r:Ru) (s:Sd):Bool:=yh r s.1 s.2.1
structure SdI (n:Nat) (sts ws:List Str) (s:Sd):Prop where
 len:s.1.length=n
 st:∀ x∈s.1,x∈sts
 nd:s.2.1.Nodup
 so:s.2.1.Pairwise leQ
 sub:∀ p∈s.2.1,InG n ws p
 u0:0<=s.2.2
theorem SdI.one {q:List Str} (I:SdI n q ws s) (J:n<=4):StI n ws s.1 s.2.1:=⟨I.len,I.nd,λp G=>let ⟨a,b,c⟩:=I.sub p G; ⟨a,by omega,c⟩⟩
theorem SdI.step {q:List Str} (I:SdI n q ws s) (J:RuJ n q ws r):SdI n q ws (stp r s) where
 len:=by show (s.1.set r.h r.t).length=n; rw [G7]; exact I.len
 st:=λx G=>by
  rcases List.mem_or_eq_of_mem_set G with h | h
  ·exact I.st x h
  ·rw [h]; exact J.t
 nd:=(Wh _).nodup_iff.mpr (Qca cx)
 so:=W0 _
 sub:=λp O=>(mem_lsT.mp O).elim (I.sub p) (J.sub p)
 u0:=by show 0<=s.2.2 + r.u; have:=I.u0; have:=J.u0; omega
def pws {α:Type} (xs:List α):Nat->List (List α)
 | 0=>[[]]
 | n + 1=>xs.flatMap λx=>(pws xs n).map (x :: ·)
theorem Q5n {α:Type} (xs:List α):∀ n,(pws xs n).length=xs.length ^ n
 | 0=>rfl
 | n + 1=>by
  rw [pws,eT];have:(xs.map λx=>((pws xs n).map (x :: ·)).length)=xs.map λ_=>xs.length ^ n:=L8 λx _=>by rw [O1,Q5n xs n]
  rw [this,eU,eV,fU,dm]
theorem Q60 {α:Type} {xs:List α}:∀ {n:Nat} {l:List α},l.length=n->(∀ x∈l,x∈xs)->l∈pws xs n
 | 0,[],_,_=>by simp [pws]
 | n + 1,a :: l,h,hs=>by
  rw [pws,cm];exact ⟨a,hs a (by simp),F1.mpr ⟨l,Q60 (by simpa using h) λx q=>hs x (O4 _ q),rfl⟩⟩
def Qi9 (n:Nat) (ws:List Str):List (Int × Str):=(bY n).flatMap λ(h:Nat)=>ws.map λw=>((h:Int),w)
theorem Qi8 (n:Nat) (ws:List Str):(Qi9 n ws).length=n * ws.length:=by
 unfold Qi9;rw [eT];have:((bY n).map λ(h:Nat)=>(ws.map λw=>((h:Int),w)).length)=(bY n).map λ_=>ws.length:=L8 λx _=>by rw [O1]
 rw [this,eU,eV,F2]
theorem Q8a {p:Int × Str} (h:InG n ws p):p∈Qi9 n ws:=by
 obtain ⟨a,b,c⟩:=h;refine cm.mpr ⟨p.1.toNat,cA.mpr (by omega),F1.mpr ⟨p.2,c,?_⟩⟩;rw [fO a]
def tel (n:Nat) (ws:List Str) (s:Sd):List Str × List Bool × Nat:=(s.1,(Qi9 n ws).map (λp=>decide (p∈s.2.1)),s.2.2.toNat)
theorem Qjj {G:List Str} {t:Sd} (I:SdI n G ws s) (J:SdI n G ws t) (h:tel n ws s=tel n ws t):s=t:=by
 obtain ⟨a,b,c⟩:=s;obtain ⟨a',Z,Y⟩:=t;unfold tel at h;simp only [Prod.mk.injEq] at h;obtain ⟨h1,h2,h3⟩:=h;have hm:∀ p,p∈b <-> p∈Z:=λp=>by
  have U:∀ q∈Qi9 n ws,decide (q∈b)=decide (q∈Z):=λq hq=>List.map_inj_left.mp h2 q hq
  constructor
  ·intro O;have:=U p (Q8a (I.sub p O));rw [bW O] at this;exact of_decide_eq_true this.symm
  ·intro O;have:=U p (Q8a (J.sub p O));rw [bW O] at this;exact of_decide_eq_true this
 have k2:b=Z:=Xb ((iO I.nd J.nd).mpr hm) I.so J.so;have u1:=I.u0;have u2:=J.u0;have k3:c=Y:=by
  have h3:c.toNat=Y.toNat:=h3;have u1:0<=c:=u1;have u2:0<=Y:=u2;omega
 rw [h1,k2,k3]
theorem Xh {α β:Type} (f:α->β):∀ {l:List α},l.Nodup->(∀ x∈l,∀ y∈l,f x=f y->x=y)->(l.map f).Nodup
 | [],_,_=>cx
 | a :: l,h,hi=>by
  obtain ⟨h1,h2⟩:=ce.mp h;rw [D3];refine ce.mpr ⟨λhm=>?_,Xh f h2 λx q y G=>hi x (O4 _ q) y (O4 _ G)⟩;obtain ⟨x,q,e⟩:=F1.mp hm;rw [hi x (O4 _ q) a (by simp) e] at q;exact h1 q
theorem few {most:Int} {q:List Str} {G:List Str} (M:MI2 most q rs G ws) {l:List Sd} (h:l.Nodup) (O:∀ s∈l,SdI q.length G ws s/\s.2.2<=most):l.length<=576:=by
 have hn:=Xh (tel q.length ws) h λx J y hy=>Qjj (O x J).1 (O y hy).1
 have:=xt (m:=(pws G q.length).flatMap λa=>(pws [yo,zb] (q.length * ws.length)).flatMap λb=>(bY (most.toNat + 1)).map λc=>(a,b,c)) hn λx J=>by
  obtain ⟨s,hs,rfl⟩:=F1.mp J;obtain ⟨I,hu⟩:=O s hs;have Z:=I.u0;have a1:=M.m0;refine cm.mpr ⟨s.1,Q60 I.len I.st,cm.mpr ⟨_,Q60 (by rw [O1,Qi8]) (λb _=>by cases b <;> simp),F1.mpr ⟨s.2.2.toNat,cA.mpr (by omega),rfl⟩⟩⟩
 rw [O1] at this;refine E1 this (E1 (dn ?_) M.cnt);rw [eT];have U:((pws G q.length).map λa=>((pws [yo,zb] (q.length * ws.length)).flatMap λb=>(bY (most.toNat + 1)).map λc=>(a,b,c)).length)=(pws G q.length).map λ_=>2 ^ (q.length * ws.length) * (most.toNat + 1):=L8 λa _=>by
  rw [eT];have Y:((pws [yo,zb] (q.length * ws.length)).map λb=>((bY (most.toNat + 1)).map λc=>(a,b,c)).length)=(pws [yo,zb] (q.length * ws.length)).map λ_=>most.toNat + 1:=L8 λb _=>by rw [O1,F2]
  rw [Y,eU,eV,Q5n];rfl
 rw [U,eU,eV,Q5n,Nat.mul_assoc]
def Qb6 (a:List Sd × List Sd) (t:Sd):List Sd × List Sd:=if t∈a.1 then a else (a.1 ++ [t],a.2 ++ [t])
def nxt (rs:List Ru) (fr:List Sd):List Sd:=fr.flatMap λs=>(rs.filter (fit · s)).map (stp · s)
def lev (rs:List Ru) (a:List Sd × List Sd):List Sd × List Sd:=(nxt rs a.2).foldl Qb6 (a.1,[])
def lvs (rs:List Ru) (s0:Sd):Nat->List Sd × List Sd
 | 0=>([s0],[s0])
 | i + 1=>lev rs (lvs rs s0 i)
def We (rs:List Ru) (most:Int) (fr:List Sd):Bool:=fr.any λs=>rs.any λr=>fit r s && decide (most < s.2.2 + r.u)
theorem Vn:∀ (xs K I:List Sd),∃ ex,xs.foldl Qb6 (K,I)=(K ++ ex,I ++ ex)/\(∀ x∈ex,x∈xs)/\(∀ x∈xs,x∈K ++ ex)/\(K.Nodup->(K ++ ex).Nodup)
 | [],K,I=>⟨[],by simp,by simp,by simp,by simp⟩
 | x :: xs,K,I=>by
  rw [F5]
  by_cases q:x∈K
  ·obtain ⟨ex,h1,h2,O,J⟩:=Vn xs K I;refine ⟨ex,by unfold Qb6; rw [bT q]; exact h1,λy G=>O4 _ (h2 y G),λy G=>?_,J⟩;rcases D5.mp G with rfl | G
   ·exact F8 _ q
   ·exact O y G
  ·obtain ⟨ex,h1,h2,O,J⟩:=Vn xs (K ++ [x]) (I ++ [x]);refine ⟨x :: ex,?_,λy G=>?_,λy G=>?_,λZ=>?_⟩
   ·unfold Qb6; rw [bU q]; show xs.foldl Qb6 (K ++ [x],I ++ [x])=_; rw [h1]; simp
   ·rcases D5.mp G with rfl | G
    ·simp
    ·exact O4 _ (h2 y G)
   ·rcases D5.mp G with rfl | G
    ·simp
    ·have:=O y G; simpa using this
   ·have:(K ++ [x]).Nodup:=cV.mpr ⟨Z,by simp,λa U b Y e=>by
     have:b=x:=by simpa using Y
     rw [e,this] at U; exact q U⟩
    have:=J this;simpa using this
def J9 {α:Type} (f:α->PV) (G:List (Sd × α)):List (HK × PV):=G.map λe=>(sdK e.1,f e.2)
def Zi {α:Type} (a:List (Sd × α) × List Sd) (x:Sd × α):List (Sd × α) × List Sd:=if x.1∈a.1.map (·.1) then a else (a.1 ++ [x],a.2 ++ [x.1])
theorem Q3n {α:Type}:∀ (xs:List (Sd × α)) (a:List (Sd × α) × List Sd),((xs.foldl Zi a).1.map (·.1),(xs.foldl Zi a).2)=(xs.map (·.1)).foldl Qb6 (a.1.map (·.1),a.2)
 | [],a=>rfl
 | x :: xs,a=>by
  rw [F5,D3,F5,Q3n xs];congr 1;unfold Zi Qb6
  by_cases q:x.1∈a.1.map (·.1)
  ·rw [bT q,bT q]
  ·rw [bU q,bU q,E4]; rfl
theorem U2 {α:Type}:∀ (xs:List (Sd × α)) (a:List (Sd × α) × List Sd),∃ ex,(xs.foldl Zi a).1=a.1 ++ ex/\(xs.foldl Zi a).2=a.2 ++ ex.map (·.1)/\∀ x∈ex,x∈xs
 | [],a=>⟨[],by simp,by simp,by simp⟩
 | x :: xs,a=>by
  rw [F5]
  by_cases q:x.1∈a.1.map (·.1)
  ·obtain ⟨ex,h1,h2,I⟩:=U2 xs a;have:Zi a x=a:=by unfold Zi; rw [bT q]
   rw [this];exact ⟨ex,h1,h2,λy G=>O4 _ (I y G)⟩
  ·have:Zi a x=(a.1 ++ [x],a.2 ++ [x.1]):=by unfold Zi; rw [bU q]
   rw [this];obtain ⟨ex,h1,h2,I⟩:=U2 xs (a.1 ++ [x],a.2 ++ [x.1]);refine ⟨x :: ex,by rw [h1]; simp,by rw [h2]; simp,λy G=>?_⟩;rcases D5.mp G with rfl | G
   ·simp
   ·exact O4 _ (I y G)
theorem Qjg (f:α->PV) (G:List (Sd × α)) (t:Sd):(X9 (J9 f G) (sdK t)).isSome=decide (t∈G.map (·.1)):=by
 unfold X9 J9;rw [dW]
 by_cases q:t∈G.map (·.1)
 ·rw [bW q,ig];obtain ⟨e,I,rfl⟩:=F1.mp q;exact ⟨_,F1.mpr ⟨e,I,rfl⟩,by simp⟩
 ·rw [bV q];cases z:fV (λkv=>decide (kv.1=sdK t)) (G.map λe=>(sdK e.1,f e.2)) with
  | none=>rfl
  | some x=>
   have h1:=fX z;have h2:=fW z;obtain ⟨y,J,rfl⟩:=F1.mp h1;have h2:sdK y.1=sdK t:=by simpa using h2
   exact absurd (F1.mpr ⟨y,J,zi h2⟩) q
theorem Qf1 {α:Type} (f:α->PV):∀ {G:List (Sd × α)} {t:Sd} {a:α},(G.map (·.1)).Nodup->(t,a)∈G->X9 (J9 f G) (sdK t)=zo (f a)
 | e :: G,t,a,I,hm=>by
  unfold X9 J9;rw [D3,cT];rw [D3] at I;obtain ⟨h1,h2⟩:=ce.mp I;rcases D5.mp hm with rfl | hm
  ·simp
  ·have q:¬ e.1=t:=λz=>h1 (by rw [z]; exact F1.mpr ⟨_,hm,rfl⟩)
   have:decide (sdK e.1=sdK t)=yo:=bV λz=>q (zi z)
   simp only [this];exact Qf1 f h2 hm
theorem Qkk (f:α->PV) {G:List (Sd × α)} {t:Sd} {a:α} (h:t∉G.map (·.1)):Sm.putT (J9 f G) (sdK t) (f a)=J9 f (G ++ [(t,a)]):=by
 unfold Sm.putT;rw [bU]
 ·unfold J9; rw [E4]; rfl
 ·unfold J9;rw [dN,cX];rintro ⟨x,q,e⟩;have e:sdK x.1=sdK t:=by simpa using e
  exact h (F1.mpr ⟨x,q,zi e⟩)
def pV:Option (Nat × Sd)->PV
 | none=>.non
 | some (n,s)=>.tup [.int (n:Int),sdV s]
abbrev Pr:=Sd × Option (Nat × Sd)
variable {F:List Pr}
def Qji (rs:List Ru) (s:Sd):List Pr:=(Q0a rs s.1 s.2.1).map λp=>(stp p.1 s,zo (p.2,s))
def trp (rs:List Ru) (fr:List Sd):List Pr:=fr.flatMap (Qji rs)
theorem Q1i (rs:List Ru) (p:Ru->Bool):∀ n,((rs.zipIdx n).filter λx=>p x.1).map (·.1)=rs.filter p:=by
 induction rs with
 | nil=>intro n; rfl
 | cons r rs q=>
  intro n;rw [dq,dH,dH];cases p r with
  | true=>simp only [if_true]; rw [D3,q]
  | false=>exact q (n + 1)
theorem Qf5 (rs:List Ru) (s:Sd):(Qji rs s).map (·.1)=(rs.filter (fit · s)).map (stp · s):=by
 unfold Qji;rw [F9];show (Q0a rs s.1 s.2.1).map ((stp · s) ∘ (·.1))=_;rw [<- F9];congr 1;exact Q1i rs (fit · s) 0
theorem Qjh (rs:List Ru) (fr:List Sd):(trp rs fr).map (·.1)=nxt rs fr:=by
 unfold trp nxt;rw [ik];congr 1;funext s;exact Qf5 rs s
def lvF (rs:List Ru) (s0:Sd):Nat->List Pr × List Sd
 | 0=>([(s0,zl)],[s0])
 | i + 1=>(trp rs (lvF rs s0 i).2).foldl Zi ((lvF rs s0 i).1,[])
theorem yc (rs:List Ru) (q:Sd):∀ i,((lvF rs q i).1.map (·.1),(lvF rs q i).2)=lvs rs q i
 | 0=>rfl
 | i + 1=>by
  have G:=yc rs q i;show (((trp rs (lvF rs q i).2).foldl Zi ((lvF rs q i).1,[])).1.map (·.1),((trp rs (lvF rs q i).2).foldl Zi ((lvF rs q i).1,[])).2)=lev rs (lvs rs q i);rw [Q3n,Qjh,<- G];rfl
inductive Tr (F:List Pr):Sd->List Nat->Prop
 | nil {s:Sd}:(s,zl)∈F->Tr F s []
 | cons {s q:Sd} {n:Nat} {ks:List Nat}:(s,zo (n,q))∈F->Tr F q ks->Tr F s (n :: ks)
theorem Tr.mono {q:List Pr} (h:∀ e∈F,e∈q):∀ {s:Sd} {ks:List Nat},Tr F s ks->Tr q s ks
 | _,_,.nil a=>.nil (h _ a)
 | _,_,.cons a b=>.cons (h _ a) (Tr.mono h b)
theorem Qbz (rs:List Ru) (q:Sd) (i:Nat):∃ ex,(lvF rs q (i + 1)).1=(lvF rs q i).1 ++ ex/\(lvF rs q (i + 1)).2=ex.map (·.1)/\∀ x∈ex,x∈trp rs (lvF rs q i).2:=by
 obtain ⟨ex,h1,h2,G⟩:=U2 (trp rs (lvF rs q i).2) ((lvF rs q i).1,[]);exact ⟨ex,h1,by rw [show (lvF rs q (i + 1)).2=_ from h2]; simp,G⟩
theorem Qbu {x:Pr} (h:x∈trp rs fr):∃ s r n,s∈fr/\rs[n]?=zo r/\fit r s=zb/\x=(stp r s,zo (n,s)):=by
 obtain ⟨s,hs,q⟩:=cm.mp h;obtain ⟨p,G,rfl⟩:=F1.mp q;obtain ⟨h1,h2⟩:=cZ.mp G;exact ⟨s,p.1,p.2,hs,Qey h1,h2,rfl⟩
theorem Qhd (rs:List Ru) (G:Sd):∀ i,∀ s∈(lvF rs G i).2,∃ ks,ks.length=i/\Tr (lvF rs G i).1 s ks
 | 0,s,h=>⟨[],rfl,.nil (by
   have:s=G:=by simpa [lvF] using h
   rw [this]; simp [lvF])⟩
 | i + 1,s,h=>by
  obtain ⟨ex,h1,h2,Z⟩:=Qbz rs G i;rw [h2] at h;obtain ⟨x,I,rfl⟩:=F1.mp h;obtain ⟨q,r,n,Y,_,_,e⟩:=Qbu (Z x I);obtain ⟨ks,U,O⟩:=Qhd rs G i q Y;refine ⟨n :: ks,by rw [D4,U],.cons (q:=q) ?_ (O.mono λe J=>by rw [h1]; exact F8 _ J)⟩;rw [h1];refine E8 _ ?_;have:(x.1,zo (n,q))=x:=by rw [e]
  rw [this]; exact I
def Qpz (rs:List Ru) (s0:Sd) (F:List Pr):Prop:=∀ e∈F,(e.2=zl->e.1=s0)/\∀ n q,e.2=zo (n,q)->∃ r,rs[n]?=zo r/\fit r q=zb/\stp r q=e.1
theorem Q4s (rs:List Ru) (G:Sd):∀ i,Qpz rs G (lvF rs G i).1
 | 0,e,h=>by
  have:e=(G,zl):=by simpa [lvF] using h
  rw [this];exact ⟨λ_=>rfl,λn q z=>by cases z⟩
 | i + 1,e,h=>by
  obtain ⟨ex,h1,h2,U⟩:=Qbz rs G i;rw [h1] at h;rcases D9.mp h with h | h
  ·exact Q4s rs G i e h
  ·obtain ⟨q,r,n,Y,O,J,I⟩:=Qbu (U e h);rw [I];exact ⟨λz=>(by cases z),λn' Z z=>(by cases z; exact ⟨r,O,J,rfl⟩)⟩
def wkS (rs:List Ru):List Nat->Sd->Option Sd
 | [],s=>zo s
 | k :: ks,s=>match rs[k]? with
  | some r=>if fit r s=zb then wkS rs ks (stp r s) else zl
  | none=>zl
theorem Q70 {rs:List Ru} {n:Nat} {r:Ru} (G:rs[n]?=zo r):∀ {ks:List Nat} {a s:Sd},wkS rs ks a=zo s->fit r s=zb->wkS rs (ks ++ [n]) a=zo (stp r s)
 | [],a,s,e,q=>by
  cases e;show (match rs[n]? with | some r=>if fit r a=zb then wkS rs [] (stp r a) else zl | none=>zl)=_
  rw [G];simp only [q,if_true];rfl
 | k :: ks,a,s,e,q=>by
  rw [fw];unfold wkS at e ⊢
  split at e
  ·rename_i J I
   split at e
   ·rename_i h2;rw [bT h2];exact Q70 G e q
   ·cases e
  ·cases e
theorem Qp8 {rs:List Ru} {q:Sd} {F:List Pr} (G:Qpz rs q F):∀ {s:Sd} {ks:List Nat},Tr F s ks->wkS rs ks.reverse q=zo s
 | s,[],.nil h=>by
  have e:s=q:=(G _ h).1 rfl;rw [e]; rfl
 | s,n :: ks,.cons h t=>by
  obtain ⟨r,I,J,e⟩:=(G _ h).2 _ _ rfl;rw [cS,Q70 I (Qp8 G t) J];exact congrArg zo e
theorem Q77 {most:Int} {q:List Str} {G:List Str} (M:MI2 most q rs G ws):SdI q.length G ws (q,[],0):=⟨rfl,M.st,cx,.nil,λp I=>(nomatch I),Int.le_refl _⟩
theorem Xr {most:Int} {G:List Str} {rs:List Ru} {I ws:List Str} (M:MI2 most G rs I ws):∀ i,(lvs rs (G,[],0) i).1.Nodup/\(∀ s∈(lvs rs (G,[],0) i).2,s∈(lvs rs (G,[],0) i).1)/\∀ s∈(lvs rs (G,[],0) i).1,SdI G.length I ws s
 | 0 => ⟨by simp [lvs], by simp [lvs], λs hs => by
   have:s=(G,[],0):=by simpa [lvs] using hs
   rw [this]; exact Q77 M⟩
 | i + 1=>by
  obtain ⟨h1,h2,J⟩:=Xr M i;obtain ⟨ex,e,O,g2,Z⟩:=Vn (nxt rs (lvs rs (G,[],0) i).2) (lvs rs (G,[],0) i).1 [];have e:lvs rs (G,[],0) (i + 1)=_:=e;rw [e];refine ⟨Z h1,λs hs=>E8 _ (by simpa using hs),λs hs=>?_⟩;rcases D9.mp hs with hs | hs
  ·exact J s hs
  ·obtain ⟨q,Y,U⟩:=cm.mp (O s hs);obtain ⟨r,hr,rfl⟩:=F1.mp U;exact (J q (h2 q Y)).step (M.ru r (cZ.mp hr).1)
theorem Qby {most:Int} {G:List Str} {rs:List Ru} {I ws:List Str} (M:MI2 most G rs I ws):∀ i,(∀ j,j < i->We rs most (lvs rs (G,[],0) j).2=yo)->∀ s∈(lvs rs (G,[],0) i).1,s.2.2<=most
 | 0,_,s,hs=>by
  have:s=(G,[],0):=by simpa [lvs] using hs
  rw [this]; exact M.m0
 | i + 1,U,s,hs=>by
  have ih:=Qby M i (λj hj=>U j (by omega))
  obtain ⟨ex,e,Z,g2,g3⟩:=Vn (nxt rs (lvs rs (G,[],0) i).2) (lvs rs (G,[],0) i).1 [];have e:lvs rs (G,[],0) (i + 1)=_:=e;rw [e] at hs;rcases D9.mp hs with hs | hs
  ·exact ih s hs
  ·obtain ⟨q,hq,hx⟩:=cm.mp (Z s hs);obtain ⟨r,Y,rfl⟩:=F1.mp hx;obtain ⟨J,O⟩:=cZ.mp Y;have:=cz.mp (U i (by omega)) q hq;have:=cz.mp (Bool.not_eq_true _ ▸ this) r J;simp only [O,bz,decide_eq_true_eq] at this;show q.2.2 + r.u<=most;omega
theorem Q1c {most:Int} {q:List Str} {G:List Str} (M:MI2 most q rs G ws) {i:Nat} (I:∀ j,j < i->We rs most (lvs rs (q,[],0) j).2=yo):(lvs rs (q,[],0) i).1.length<=576:=few M (Xr M i).1 λs hs=>⟨(Xr M i).2.2 s hs,Qby M i I s hs⟩
theorem Kv {q:List Str} (i:Nat):(lvs rs (q,[],0) (i + 1)).1.length=(lvs rs (q,[],0) i).1.length + (lvs rs (q,[],0) (i + 1)).2.length:=by
 obtain ⟨ex,e,_⟩:=Vn (nxt rs (lvs rs (q,[],0) i).2) (lvs rs (q,[],0) i).1 [];have e:lvs rs (q,[],0) (i + 1)=_:=e;rw [e];simp
def qb (rs:List Ru) (most:Int) (s0:Sd) (i:Nat):Prop:=We rs most (lvs rs s0 i).2=zb\/(lvs rs s0 i).2=[]
theorem Q36 {most:Int} {rs:List Ru} (G:Sd):∀ m,(∃ N,N<=m/\qb rs most G N/\∀ i,i < N->¬ qb rs most G i)\/∀ i,i<=m->¬ qb rs most G i
 | 0=>by
  by_cases q:qb rs most G 0
  ·exact .inl ⟨0,O5 _,q,λi hi=>by omega⟩
  ·exact .inr λi hi=>by
    have:i=0:=by omega
    rw [this]; exact q
 | m + 1=>by
  rcases Q36 G m with ⟨N,h1,h2,I⟩ | h
  ·exact .inl ⟨N,by omega,h2,I⟩
  ·by_cases q:qb rs most G (m + 1)
   ·exact .inl ⟨m + 1,O5 _,q,λi hi=>h i (by omega)⟩
   ·refine .inr λi hi=>?_
    by_cases z:i=m + 1
    ·rw [z]; exact q
    ·exact h i (by omega)
theorem Qut {most:Int} {q:List Str} {I:List Str} (M:MI2 most q rs I ws):∃ N,N<=600/\qb rs most (q,[],0) N/\∀ i,i < N->¬ qb rs most (q,[],0) i:=by
 rcases Q36 (rs:=rs) (most:=most) (q,[],0) 600 with h | h
 ·exact h
 ·have O:∀ j,j < 600->We rs most (lvs rs (q,[],0) j).2=yo:=λj U=>by
   cases z:We rs most (lvs rs (q,[],0) j).2 with
   | false=>rfl
   | true=>exact absurd (.inl z) (h j (by omega))
  have G:∀ i,i<=600->i + 1<=(lvs rs (q,[],0) i).1.length:=by
   intro i
   induction i with
   | zero=>intro _; simp [lvs]
   | succ i J=>
    intro hi;have h1:=J (by omega);have h2:(lvs rs (q,[],0) (i + 1)).2.length≠0:=λz=>h (i + 1) hi (.inr (eW z))
    rw [Kv];omega
  have h1:=G 600 (O5 _);have h2:=Q1c M O;omega
structure Gw (P:Nat->Prop) (S A:Q0):Prop where
 len:S.length<=A.length
 keep:∀ t,t < S.length->¬ P t->A[t]?=S[t]?
theorem Gw.refl (P:Nat->Prop) (S:Q0):Gw P S S:=⟨O5 _,λ_ _ _=>rfl⟩
theorem Gw.trans {P:Nat->Prop} {B:Q0} (a:Gw P S A) (b:Gw P A B):Gw P S B:=⟨E1 a.len b.len,λt h1 h2=>(b.keep t (D1 h1 a.len) h2).trans (a.keep t h1 h2)⟩
theorem Gw.add (P:Nat->Prop) (S T:Q0):Gw P S (S ++ T):=⟨by rw [O6]; omega,λt h _=>O8 h⟩
theorem Gw.put {P:Nat->Prop} (S:Q0) (h:P n) (c:Cell):Gw P S (S.set n c):=⟨by rw [G7]; exact O5 _,λt _ h2=>E7 λe=>h2 (by rw [<- e]; exact h)⟩
theorem Gw.mono {P Q:Nat->Prop} (a:Gw P S A) (h:∀ t,t < S.length->P t->Q t):Gw Q S A:=⟨a.len,λt h1 h2=>a.keep t h1 λz=>h2 (h t h1 z)⟩
theorem Gw.at {P:Nat->Prop} (a:Gw P S A) {t:Nat} {c:Cell} (h:S[t]?=zo c) (q:¬ P t):A[t]?=zo c:=by rw [a.keep t (O2.mp h).1 q]; exact h
theorem Gw.w {P:Nat->Prop} {S A:Q0} (a:Gw P S A) {w:Wt} (h:wOk w S) (G:∀ x∈w,¬ P x.1):wOk w A:=λx q=>a.at (h x q) (G x q)
theorem Gw.tape {P:Nat->Prop} (a:Gw P S A) (T:TapeAt S L ns) (q:¬ P L):TapeAt A L ns:=let ⟨p,c,e⟩:=T; ⟨p,c,a.at e q⟩
theorem Q38 (f:α->PV) {G:List (Sd × α)} (h:S[D]?=zo (.dtp (J9 f G))):Wf S (.ref D)=zo (J9 f G):=by show (match S[D]? with | some (.dtp q)=>zo q | _=>zl)=_; rw [h]
theorem Qpx (f:α->PV) {G:List (Sd × α)} (h:S[D]?=zo (.dtp (J9 f G))) (t:Sd) (q:Bool):ju q S (sdV t) (.ref D)=.ok (.bl (decide (t∈G.map (·.1)) != q)) S:=by
 unfold ju;rw [Q38 f h,K8];show Res.ok (PV.bl ((X9 (J9 f G) (sdK t)).isSome != q)) S=_;rw [Qjg]
theorem Qar (f:α->PV) {G:List (Sd × α)} (h:S[D]?=zo (.dtp (J9 f G))) (I:(G.map (·.1)).Nodup) {t:Sd} {a:α} (q:(t,a)∈G):Q8z S (.ref D) (sdV t)=.ok (f a) S:=by
 unfold Q8z;rw [Q38 f h,K8];show (match X9 (J9 f G) (sdK t) with | some v=>Res.ok v S | none=>.stuck)=_
 rw [Qf1 f I q]
theorem Qaq (f:α->PV) {G:List (Sd × α)} (h:S[D]?=zo (.dtp (J9 f G))) (I:G.length < 1000000) {t:Sd} (q:t∉G.map (·.1)) (a:α):yk S (.ref D) (sdV t) (f a)=zo (S.set D (.dtp (J9 f (G ++ [(t,a)])))):=by
 unfold yk;simp only [Q38 f h,K8];rw [bT (by unfold J9; rw [O1]; exact I),Qkk f q]
theorem Qt5 (f:α->PV) {G:List (Sd × α)} (h:S[D]?=zo (.dtp (J9 f G))) (q:G.length < 1000000):K2 S [.ref D]=.ok (.int (G.length:Nat)) S:=by
 unfold K2;simp only [Q38 f h];have:(J9 f G).length=G.length:=O1 _;rw [this,bT q]
theorem Q6h {mi:ME} {q:PV} {r:Res PV} (h1:mo Γ S=.ok p S1) (h2:mi Γ S1=.ok q S2) (G:Q8z S2 p q=r):xz mo mi Γ S=r:=by
 unfold xz;rw [h1,Qp,h2,Qp,G]
theorem Xa (h:S[D]?=zo (.lst xs)):Yb S (.ref D)=zo (xs,[(D,.lst xs)]):=by
 show (match S[D]? with | some (.lst xs)=>zo (xs,[(D,Cell.lst xs)]) | _=>zl)=_
 rw [h]
theorem qe (h:S[D]?=zo (.lst xs)):wOk [(D,.lst xs)] S:=λx q=>by
 have:x=(D,.lst xs):=by simpa using q
 rw [this]; exact h
theorem W6 (h:S[D]?=zo (.lst xs)):Ys S (.ref D)=zo xs:=by
 show (match S[D]? with | some (.lst xs)=>zo xs | _=>zl)=_; rw [h]
theorem J6 {body:MS} {w:Wt} {x:PV} {I G:Gam} {r:SR} (J:wOk w S) (h1:ga x Γ=zo I) (h2:body I S=.nx G S2) (O:Z2 ga body w xs G S2=r):Z2 ga body w (x :: xs) Γ S=r:=by
 rw [Z2,bT J,h1];show (match body I S with | .nx G q=>Z2 ga body w xs G q | .ct G q=>Z2 ga body w xs G q | .bk G q=>.nx G q | .rt v q=>.rt v q | .exc x q=>.exc x q | .stuck=>.stuck)=_;rw [h2];exact O
theorem Xu {body:MS} {w:Wt} {x:PV} {I:Gam} (J:wOk w S) (h1:ga x Γ=zo I) (h2:body I S=.rt v S2):Z2 ga body w (x :: xs) Γ S=.rt v S2:=by
 rw [Z2,bT J,h1];show (match body I S with | .nx G q=>Z2 ga body w xs G q | .ct G q=>Z2 ga body w xs G q | .bk G q=>.nx G q | .rt v q=>.rt v q | .exc x q=>.exc x q | .stuck=>.stuck)=_;rw [h2]
theorem Yd {body:MS} {w:Wt} (q:wOk w S):Z2 ga body w [] Γ S=.nx Γ S:=by rw [Z2,bT q]
theorem yy {body:MS} {G:Gam} {r:SR} (h1:mt Γ S=.ok zb S1) (h2:body Γ S1=.nx G S2) (I:J3 mt body n G S2=r):J3 mt body (n + 1) Γ S=r:=by
 unfold J3;rw [h1];show (match body Γ S1 with | .nx G q=>J3 mt body n G q | .ct G q=>J3 mt body n G q | .bk G q=>.nx G q | .rt v q=>.rt v q | .exc x q=>.exc x q | .stuck=>.stuck)=_;rw [h2];exact I
theorem Q48 {body:MS} (h1:mt Γ S=.ok zb S1) (h2:body Γ S1=.rt v S2):J3 mt body (n + 1) Γ S=.rt v S2:=by
 unfold J3;rw [h1];show (match body Γ S1 with | .nx G q=>J3 mt body n G q | .ct G q=>J3 mt body n G q | .bk G q=>.nx G q | .rt v q=>.rt v q | .exc x q=>.exc x q | .stuck=>.stuck)=_;rw [h2]
theorem jm {body:MS} (h1:mt Γ S=.ok yo S1):J3 mt body (n + 1) Γ S=.nx Γ S1:=by
 unfold J3;rw [h1];rfl
abbrev mW {most:Int} {starts:List Str} {rs:List Ru} {sts ws:List Str} (_:MI2 most starts rs sts ws):PV:=j8 most starts (rs.map ruV)
abbrev mO {most:Int} {starts:List Str} {rs:List Ru} {sts ws:List Str} (M:MI2 most starts rs sts ws):Option PV:=zo (mW M)
theorem Qh5 {most:Int} {q:List Str} {G:List Str} (M:MI2 most q rs G ws) (I:SdI q.length G ws s) (S:Q0):Qm [mW M,sdV s] S=.ok (.ref S.length) (S ++ [.lst ((Q0a rs s.1 s.2.1).map nV)]):=Q2k M.one I.len s.2.1 s.2.2 S
theorem Qtg {most:Int} {q:List Str} {G:List Str} (M:MI2 most q rs G ws) (I:SdI q.length G ws s) (J:r∈rs) (S:Q0):Qu [ruV r,sdV s] S=.ok (sdV (stp r s)) S:=
 Q1x r (by rw [I.len]; exact (M.ru r J).h) (by rw [I.len]; have:=M.n4; omega) (by have:=(I.one M.n4).small M.w2; have:=(M.ru r J).ms; omega) s.2.2 S
theorem Qam {p:Ru × Nat} (h:p∈Q0a rs s.1 s.2.1):rs[p.2]?=zo p.1/\fit p.1 s=zb:=let ⟨a,b⟩:=cZ.mp h; ⟨Qey a,b⟩
theorem rix {p:Ru × Nat} (h:rs[p.2]?=zo p.1) (S:Q0):oIx S (.tup (rs.map ruV)) (nV p)=.ok (ruV p.1) S:=ix_tup (by rw [D7,h]; rfl) S
theorem Qai {most:Int} {J:List Str} {rs:List Ru} {b1 ws:List Str} (M:MI2 most J rs b1 ws) {D Fi:Nat} (a4:D≠Fi) {V:PV} {s:Sd} (I:SdI J.length b1 ws s) {w:Wt} (hw:∀ x∈w,¬ (x.1=D\/x.1=Fi)):∀ (ks:List (Ru × Nat)) (F:List Pr) (G:List Sd) (A:Q0) (a5 a6:Option PV),(∀ p∈ks,rs[p.2]?=zo p.1)->A[D]?=zo (.dtp (J9 pV F))->A[Fi]?=zo (.lst (G.map sdV))->wOk w A->G.length<=F.length ->
  ((ks.map λp=>(stp p.1 s,zo (p.2,s))).foldl Zi (F,G)).1.length<=2000 ->
  ∃ A' Y Z,Z2 (Qd 5) Yv w (ks.map nV) [mO M,zo (.ref D),zo V,zo (.ref Fi),zo (sdV s),a5,a6] A=.nx [mO M,zo (.ref D),zo V,zo (.ref Fi),zo (sdV s),Y,Z] A' /\
   A'[D]?=zo (.dtp (J9 pV ((ks.map λp=>(stp p.1 s,zo (p.2,s))).foldl Zi (F,G)).1))/\A'[Fi]?=zo (.lst (((ks.map λp=>(stp p.1 s,zo (p.2,s))).foldl Zi (F,G)).2.map sdV))/\Gw (λt=>t=D\/t=Fi) A A'
 | [],F,G,A,a5,a6,_,hD,hF,O,_,_=>⟨A,a5,a6,Yd O,hD,hF,Gw.refl _ _⟩
 | p :: ks,F,G,A,a5,a6,hk,hD,hF,O,hl,hb=>by
  have hr:=hk p (by simp);have hx:=rix hr A;have hs:=Qtg M I (E6 hr) A;have a1:=Qpx pV hD (stp p.1 s) zb;simp only [D3,F5] at hb ⊢;obtain ⟨ex,a7,_⟩:=U2 (ks.map λp=>((stp p.1 s,zo (p.2,s)):Pr)) (Zi (F,G) (stp p.1 s,zo (p.2,s)))
  have Qe8:(Qr 6 (Qb 2 Qu (Q1 (mOp oIx (mOp oIx (Q2 0) (mC (.int 2))) (Q2 5)) (Q1 (Q2 4) Q4)))) [mO M,zo (.ref D),zo V,zo (.ref Fi),zo (sdV s),zo (nV p),a6] A=.nx [mO M,zo (.ref D),zo V,zo (.ref Fi),zo (sdV s),zo (nV p),zo (sdV (stp p.1 s))] A:=Qi (Q5 (n:=2) (Qe (Q6 rfl rfl hx) rfl) rfl hs)
  by_cases q:stp p.1 s∈F.map (·.1)
  ·have U:Zi (F,G) (stp p.1 s,zo (p.2,s))=(F,G):=by unfold Zi; rw [bT q]
   rw [U] at hb ⊢;rw [bW q] at a1;obtain ⟨A',Y,Z,e,h1,h2,h3⟩:=Qai M a4 I hw ks F G A (zo (nV p)) (zo (sdV (stp p.1 s))) (λx hx=>hk x (O4 _ hx)) hD hF O hl hb
   exact ⟨A',Y,Z,J6 O rfl (Q3 Qe8 (Z3 (Qf (Q6 rfl rfl a1)) rfl)) e,h1,h2,h3⟩
  ·have U:Zi (F,G) (stp p.1 s,zo (p.2,s))=(F ++ [(stp p.1 s,zo (p.2,s))],G ++ [stp p.1 s]):=by unfold Zi; rw [bU q]
   rw [U] at hb a7 ⊢;rw [bV q] at a1;have b5:F.length + 1<=2000:=by
    rw [a7] at hb;simp only [O6,D4,cK] at hb;omega
   have a8:=Qaq pV hD (by omega) q (zo (p.2,s));obtain ⟨A1,a3⟩:∃ A1,A.set D (.dtp (J9 pV (F ++ [(stp p.1 s,zo (p.2,s))])))=A1:=⟨_,rfl⟩;rw [a3] at a8;have b3:=(O2.mp hD).1;have b4:=(O2.mp hF).1;have d1:A1[D]?=zo (.dtp (J9 pV (F ++ [(stp p.1 s,zo (p.2,s))]))):=by rw [<- a3]; exact E5 b3
   have f1:A1[Fi]?=zo (.lst (G.map sdV)):=by rw [<- a3,E7 a4]; exact hF
   have g1:Gw (λt=>t=D\/t=Fi) A A1:=by rw [<- a3]; exact Gw.put A (.inl rfl) _
   obtain ⟨A2,a2⟩:∃ A2,A1.set Fi (.lst ((G ++ [stp p.1 s]).map sdV))=A2:=⟨_,rfl⟩;have d2:A2[D]?=zo (.dtp (J9 pV (F ++ [(stp p.1 s,zo (p.2,s))]))):=by rw [<- a2,E7 (Ne.symm a4)]; exact d1
   have b2:=(O2.mp f1).1;have f2:A2[Fi]?=zo (.lst ((G ++ [stp p.1 s]).map sdV)):=by rw [<- a2]; exact E5 b2
   have g2:Gw (λt=>t=D\/t=Fi) A A2:=by rw [<- a2]; exact g1.trans (Gw.put A1 (.inr rfl) _)
   have a9:Z5 A1 (.ref Fi) [sdV (stp p.1 s)]=.ok .non A2:=by
    rw [yu f1 (by rw [O1]; omega),<- a2,E4];rfl
   have b0:=Qt5 pV d2 (by rw [O6]; simp; omega);obtain ⟨A',Y,Z,e,h1,h2,h3⟩:=Qai M a4 I hw ks (F ++ [(stp p.1 s,zo (p.2,s))]) (G ++ [stp p.1 s]) A2 (zo (nV p)) (zo (sdV (stp p.1 s))) (λx hx=>hk x (O4 _ hx)) d2 f2 (g2.w O hw) (by rw [O6,O6]; simp; omega) hb
   refine ⟨A',Y,Z,J6 O rfl (Q3 Qe8 (Wd (Qf (Q6 rfl rfl a1)) (Q3 (Ws rfl rfl rfl a8) (Q3 (Q3j rfl (W6 f1) rfl a9) (Z3 (Qf (Q6 (Jt rfl b0) rfl (jd A2 ?_))) rfl))))) e,h1,h2,g2.trans h3⟩;rw [O6];simp;omega
theorem Qc9 {most:Int} {q:List Str} {rs:List Ru} {a1 ws:List Str} (M:MI2 most q rs a1 ws) {D Fi:Nat} (a2:D≠Fi) {V:PV} {w:Wt} (hw:∀ x∈w,¬ (x.1=D\/x.1=Fi)):∀ (fr:List Sd) (F:List Pr) (G:List Sd) (A:Q0) (a4 a5 a6:Option PV),(∀ s∈fr,SdI q.length a1 ws s)->A[D]?=zo (.dtp (J9 pV F))->A[Fi]?=zo (.lst (G.map sdV))->wOk w A->G.length<=F.length ->
  ((trp rs fr).foldl Zi (F,G)).1.length<=2000 ->
  ∃ A' b2 a3 b8,Z2 (Qd 4) Yw w (fr.map sdV) [mO M,zo (.ref D),zo V,zo (.ref Fi),a4,a5,a6] A=.nx [mO M,zo (.ref D),zo V,zo (.ref Fi),b2,a3,b8] A' /\
   A'[D]?=zo (.dtp (J9 pV ((trp rs fr).foldl Zi (F,G)).1))/\A'[Fi]?=zo (.lst (((trp rs fr).foldl Zi (F,G)).2.map sdV))/\Gw (λt=>t=D\/t=Fi) A A'
 | [],F,G,A,a4,a5,a6,_,hD,hF,U,_,_=>⟨A,a4,a5,a6,Yd U,hD,hF,Gw.refl _ _⟩
 | s :: fr,F,G,A,a4,a5,a6,hi,hD,hF,U,hl,hb=>by
  have I:=hi s (by simp);have hn:=Qh5 M I A;obtain ⟨ks,O⟩:∃ ks,Q0a rs s.1 s.2.1=ks:=⟨_,rfl⟩;have a8:∀ p∈ks,rs[p.2]?=zo p.1:=λp hp=>(Qam (by rw [O]; exact hp)).1
  have b9:ks.length<=9:=by
   rw [<- O];have:=fk (λp:Ru × Nat=>yh p.1 s.1 s.2.1) rs.zipIdx;rw [fm] at this;exact E1 this M.len
  have b0:trp rs (s :: fr)=(ks.map λp=>(stp p.1 s,zo (p.2,s))) ++ trp rs fr:=by
   show (s :: fr).flatMap (Qji rs)=_;rw [il,<- O]; rfl
  rw [O] at hn;rw [b0,eG] at hb ⊢;obtain ⟨Y,J⟩:∃ Y,A ++ [Cell.lst (ks.map nV)]=Y:=⟨_,rfl⟩;rw [J] at hn;have g1:Gw (λt=>t=D\/t=Fi) A Y:=by rw [<- J]; exact Gw.add _ _ _
  have b3:=(O2.mp hD).1;have a7:=(O2.mp hF).1;have d1:Y[D]?=zo (.dtp (J9 pV F)):=by rw [<- J,O8 b3]; exact hD
  have f1:Y[Fi]?=zo (.lst (G.map sdV)):=by rw [<- J,O8 a7]; exact hF
  have n1:Y[A.length]?=zo (.lst (ks.map nV)):=by rw [<- J]; exact Z0 _ _
  obtain ⟨ex,Z,b7,_⟩:=U2 (trp rs fr) ((ks.map λp=>((stp p.1 s,zo (p.2,s)):Pr)).foldl Zi (F,G))
  obtain ⟨ey,a9,b1,_⟩:=U2 (ks.map λp=>((stp p.1 s,zo (p.2,s)):Pr)) (F,G)
  obtain ⟨A2,b5,b6,e2,d2,f2,g2⟩:=Qai M a2 (V:=V) I (w:=[(A.length,.lst (ks.map nV))]) (λx hx=>by
   have:x=(A.length,.lst (ks.map nV)):=by simpa using hx
   rw [this];show ¬ (A.length=D\/A.length=Fi);omega) ks F G Y a5 a6 a8 d1 f1 (qe n1) hl (by rw [Z,O6] at hb; omega)
  obtain ⟨A3,b4,c5,c6,e3,d3,f3,g3⟩:=Qc9 M a2 (V:=V) hw fr _ _ A2 (zo (sdV s)) b5 b6 (λx hx=>hi x (O4 _ hx)) d2 f2 ((g1.trans g2).w U hw) (by rw [a9,b1,O6,O6,O1]; show G.length + _<=F.length + _; omega) hb
  exact ⟨A3,b4,c5,c6,J6 U rfl (Jr (Jw (Q5 (n:=2) rfl rfl hn) (Xa n1) (by rw [O1]; omega)) e2) e3,d3,f3,(g1.trans g2).trans g3⟩
theorem Qah {most:Int} {q:List Str} {J:List Str} (M:MI2 most q rs J ws) {V:PV} {w:Wt} (hV:∀ T,Yb (S ++ T) V=zo (fr.map sdV,w)) (I:wOk w S) (hw:∀ x∈w,x.1≠D) (hi:∀ s∈fr,SdI q.length J ws s) (Z:S[D]?=zo (.dtp (J9 pV F))) (Y:fr.length<=1000000) (hb:((trp rs fr).foldl Zi (F,[])).1.length<=2000) :
  ∃ O,Zg [mW M,.ref D,V] S=.ok (.ref S.length) O/\O[D]?=zo (.dtp (J9 pV ((trp rs fr).foldl Zi (F,[])).1))/\O[S.length]?=zo (.lst (((trp rs fr).foldl Zi (F,[])).2.map sdV))/\Gw (λt=>t=D) S O:=by
 have U:=(O2.mp Z).1;have d1:(S ++ [Cell.lst []])[D]?=zo (.dtp (J9 pV F)):=by rw [O8 U]; exact Z
 have G:∀ x∈w,¬ (x.1=D\/x.1=S.length):=λx hx z=>by
  rcases z with z | z
  ·exact hw x hx z
  ·have:=(O2.mp (I x hx)).1;omega
 obtain ⟨A',a4,a5,a6,e,h1,h2,h3⟩:=Qc9 M (D:=D) (Fi:=S.length) (by omega) (V:=V) G fr F [] (S ++ [Cell.lst []]) zl zl zl hi d1 (Z0 _ _) ((Gw.add (λt=>t=D\/t=S.length) S _).w I G) (F7 _) hb;refine ⟨A',Qk (show Wq [mO M,zo (.ref D),zo V,zl,zl,zl,zl] S=_ from Q3 (Qi (Vp rfl)) (Q3 (Jr (Jw rfl (hV _) (by rw [O1]; exact Y)) e) (Qn rfl))),h1,h2,?_⟩;refine ((Gw.add (λt=>t=D\/t=S.length) S _).trans h3).mono λt ht z=>?_
 rcases z with z | z
 ·exact z
 ·omega
theorem Qj0 {most:Int} {J:List Str} {rs:List Ru} {Z ws:List Str} (M:MI2 most J rs Z ws) {V:PV} {s:Sd} {w:Wt} {A:Q0} (I:wOk w A):∀ (ks:List (Ru × Nat)) (U:Option PV),(∀ p∈ks,rs[p.2]?=zo p.1) ->
  ((ks.any λp=>decide (most < s.2.2 + p.1.u))=yo/\∃ O,Z2 (Qd 3) Z7 w (ks.map nV) [mO M,zo V,zo (sdV s),U] A=.nx [mO M,zo V,zo (sdV s),O] A) \/
  (∃ p∈ks,most < s.2.2 + p.1.u/\Z2 (Qd 3) Z7 w (ks.map nV) [mO M,zo V,zo (sdV s),U] A=.rt (.tup [nV p,sdV s]) A)
 | [],U,_=>.inl ⟨rfl,U,Yd I⟩
 | p :: ks,U,hk=>by
  have Y:=rix (hk p (by simp)) A
  by_cases q:most < s.2.2 + p.1.u
  ·exact .inr ⟨p,by simp,q,Xu I rfl (Wd (Qf (Q6 (Q6 rfl (Q6 (Q6 rfl rfl Y) rfl rfl) (Q6x A s.2.2 p.1.u)) rfl (jc A q))) (Qn rfl))⟩
  ·have G:Z7 [mO M,zo V,zo (sdV s),zo (nV p)] A=.nx [mO M,zo V,zo (sdV s),zo (nV p)] A:=Z3 (Qf (Q6 (Q6 rfl (Q6 (Q6 rfl rfl Y) rfl rfl) (Q6x A s.2.2 p.1.u)) rfl (jd A q))) rfl;rcases Qj0 M I ks (zo (nV p)) (λx Y=>hk x (O4 _ Y)) with ⟨h1,O,e⟩ | ⟨p',a1,h1,e⟩
   ·exact .inl ⟨by rw [cF,bV q,h1]; rfl,O,J6 I rfl G e⟩
   ·exact .inr ⟨p',O4 _ a1,h1,J6 I rfl G e⟩
theorem Qck {most:Int} {q:List Str} {rs:List Ru} {a4 ws:List Str} (M:MI2 most q rs a4 ws) {V:PV} {w:Wt}:∀ (fr:List Sd) (A:Q0) (a2 U:Option PV),wOk w A->(∀ s∈fr,SdI q.length a4 ws s) ->
  (We rs most fr=yo/\∃ A' a8 a9,Z2 (Qd 2) Z8 w (fr.map sdV) [mO M,zo V,a2,U] A=.nx [mO M,zo V,a8,a9] A'/\Gw (λ_=>False) A A') \/
  (∃ s∈fr,∃ (r:Ru) (n:Nat) (A':Q0),rs[n]?=zo r/\fit r s=zb/\most < s.2.2 + r.u/\Z2 (Qd 2) Z8 w (fr.map sdV) [mO M,zo V,a2,U] A=.rt (.tup [.int (n:Int),sdV s]) A'/\Gw (λ_=>False) A A')
 | [],A,a2,U,G,_=>.inl ⟨rfl,A,a2,U,Yd G,Gw.refl _ _⟩
 | s :: fr,A,a2,U,G,hi=>by
  have I:=hi s (by simp);have hn:=Qh5 M I A;obtain ⟨ks,O⟩:∃ ks,Q0a rs s.1 s.2.1=ks:=⟨_,rfl⟩;have Y:∀ p∈ks,rs[p.2]?=zo p.1/\fit p.1 s=zb:=λp hp=>Qam (by rw [O]; exact hp)
  have b0:ks.length<=9:=by
   rw [<- O];have:=fk (λp:Ru × Nat=>yh p.1 s.1 s.2.1) rs.zipIdx;rw [fm] at this;exact E1 this M.len
  rw [O] at hn;obtain ⟨Z,a1⟩:∃ Z,A ++ [Cell.lst (ks.map nV)]=Z:=⟨_,rfl⟩;rw [a1] at hn;have g1:Gw (λ_=>False) A Z:=by rw [<- a1]; exact Gw.add _ _ _
  have n1:Z[A.length]?=zo (.lst (ks.map nV)):=by rw [<- a1]; exact Z0 _ _
  rcases Qj0 M (V:=V) (s:=s) (qe n1) ks U (λp hp=>(Y p hp).1) with ⟨h1,b3,e⟩ | ⟨p,hp,h1,e⟩
  ·have J:Z8 [mO M,zo V,zo (sdV s),U] A=.nx [mO M,zo V,zo (sdV s),b3] Z:=Jr (Jw (Q5 (n:=2) rfl rfl hn) (Xa n1) (by rw [O1]; omega)) e;have a5:(rs.any λr=>fit r s && decide (most < s.2.2 + r.u))=yo:=by
    rw [cz];intro r hr z;simp only [E2,decide_eq_true_eq] at z;obtain ⟨n,a6,a7⟩:=G6 hr;have hm:(r,n)∈ks:=by
     rw [<- O];refine cZ.mpr ⟨ii.mpr ?_,z.1⟩;rw [O3 a6,a7]
    have:=cz.mp h1 _ hm;simp only [decide_eq_true_eq] at this;exact this z.2
   rcases Qck M fr Z (zo (sdV s)) b3 (g1.w G λ_ _ h=>h) (λx hx=>hi x (O4 _ hx)) with ⟨k1,A2,b2,c3,e2,g2⟩ | ⟨t,ht,r,n,A2,k1,k2,k3,e2,g2⟩
   ·exact .inl ⟨by unfold We; rw [cF,a5]; exact k1,A2,b2,c3,J6 G rfl J e2,g1.trans g2⟩
   ·exact .inr ⟨t,O4 _ ht,r,n,A2,k1,k2,k3,J6 G rfl J e2,g1.trans g2⟩
  ·exact .inr ⟨s,by simp,p.1,p.2,Z,(Y p hp).1,(Y p hp).2,h1,Xu G rfl (Jr (Jw (Q5 (n:=2) rfl rfl hn) (Xa n1) (by rw [O1]; omega)) e),g1⟩
def nI (k:Nat):PV:=.int (k:Int)
theorem Q7i {F:List Pr} (Z:(F.map (·.1)).Nodup) {D R:Nat} (O:D≠R) {V:PV}:∀ {s:Sd} {ks:List Nat},Tr F s ks->∀ (m:Nat) (acc:List Nat) (A:Q0),A[D]?=zo (.dtp (J9 pV F))->A[R]?=zo (.lst (acc.map nI))->acc.length + ks.length<=1000 ->
  ∃ J a3,J3 jn zd (m + ks.length + 1) [zo (.ref D),zo V,zo (.ref R),zo (sdV s)] A=.nx [zo (.ref D),zo V,zo (.ref R),a3] J/\J[R]?=zo (.lst ((acc ++ ks).map nI))/\Gw (λt=>t=R) A J
 | s,[],.nil h,m,acc,A,hD,Y,_=>⟨A,_,jm (Qf (Q6 (Q6h rfl rfl (Qar pV hD Z h)) rfl rfl)),by rw [L1]; exact Y,Gw.refl _ _⟩
 | s,n :: ks,.cons (q:=q) h t,m,acc,A,hD,Y,hl=>by
  have hg:=Qar pV hD Z h;rw [D4] at hl;have a1:=(O2.mp Y).1;obtain ⟨I,G⟩:∃ I,A.set R (.lst ((acc ++ [n]).map nI))=I:=⟨_,rfl⟩;have U:Z5 A (.ref R) [nI n]=.ok .non I:=by
   rw [yu Y (by rw [O1]; omega),<- G,E4];rfl
  have d1:I[D]?=zo (.dtp (J9 pV F)):=by rw [<- G,E7 (Ne.symm O)]; exact hD
  have r1:I[R]?=zo (.lst ((acc ++ [n]).map nI)):=by rw [<- G]; exact E5 a1
  have g1:Gw (λt=>t=R) A I:=by rw [<- G]; exact Gw.put (P:=λt=>t=R) A rfl _
  have a2:=Qar pV d1 Z h;obtain ⟨J,a3,e,h1,h2⟩:=Q7i Z O (V:=V) t m (acc ++ [n]) I d1 r1 (by rw [O6]; simp; omega);refine ⟨J,a3,?_,by rw [h1]; simp,g1.trans h2⟩;rw [D4,show m + (ks.length + 1) + 1=(m + ks.length + 1) + 1 from rfl];exact yy (Qf (Q6 (Q6h rfl rfl hg) rfl rfl)) (Q3 (Q3j rfl (W6 Y) (Qe (Q6 (Q6h rfl rfl hg) rfl rfl) rfl) U) (Qi (Q6 (Q6h rfl rfl a2) rfl rfl))) e
theorem Qr2 (U:(F.map (·.1)).Nodup) {ks:List Nat} (t:Tr F s ks) (J:S[D]?=zo (.dtp (J9 pV F))) (Y:ks.length<=1000):∃ I,U3 [.ref D,sdV s] S=.ok (.lst (ks.reverse.map nI)) I/\Gw (λ_=>False) S I:=by
 have G:=(O2.mp J).1;have O:(S ++ [Cell.lst []])[D]?=zo (.dtp (J9 pV F)):=by rw [O8 G]; exact J
 obtain ⟨q,a3,e,h1,h2⟩:=Q7i U (D:=D) (R:=S.length) (by omega) (V:=sdV s) t (99999 - ks.length) [] (S ++ [Cell.lst []]) O (Z0 _ _) (by simpa using Y);rw [show 99999 - ks.length + ks.length + 1=100000 by omega] at e;refine ⟨q,Qk (show Q2r [zo (.ref D),zo (sdV s),zl,zl] S=_ from Q3 (Qi (Vp rfl)) (Q3 (Qi rfl) (Q3 e (Qn (Uf ?_))))),((Gw.add (λt=>t=S.length) S _).trans h2).mono λt Z z=>by omega⟩;show (match Vh q (.ref S.length) with | some xs=>if xs.length<=1000000 then Res.ok xs.reverse q else .stuck | none=>.stuck)=_
 have:Vh q (.ref S.length)=zo (ks.map nI):=by
  show (match q[S.length]? with | some (.lst xs)=>zo xs | _=>zl)=_
  rw [h1]; rfl
 rw [this];show (if (ks.map nI).length<=1000000 then Res.ok (ks.map nI).reverse q else .stuck)=_;rw [bT (by rw [O1]; omega),fo]
theorem yr {B:Nat} (h:S[B]?=zo (.lst xs)):Jv S [.ref B]=.ok (.int (xs.length:Nat)) S:=by rw [Qtc,h]
def FrAt (S:Q0) (V:PV) (fr:List Sd):Prop:=V=.lst (fr.map sdV)\/∃ B,V=.ref B/\S[B]?=zo (.lst (fr.map sdV))
theorem FrAt.src {V:PV} (h:FrAt S V fr) {c:List (HK × PV)} (G:S[D]?=zo (.dtp c)):∃ w,(∀ T,Yb (S ++ T) V=zo (fr.map sdV,w))/\wOk w S/\∀ x∈w,x.1≠D:=by
 rcases h with rfl | ⟨B,rfl,h⟩
 ·exact ⟨[],λ_=>rfl,J4 _,λx q=>nomatch q⟩
 ·refine ⟨[(B,.lst (fr.map sdV))],λT=>Xa (by rw [O8 (O2.mp h).1]; exact h),qe h,λx q e=>?_⟩;have:x=(B,.lst (fr.map sdV)):=by simpa using q
  rw [this] at e;have e:B=D:=e;rw [e,G] at h;cases h
theorem Q3f {most:Int} {q:List Str} {I:List Str} (M:MI2 most q rs I ws) {V:PV} {w:Wt} (O:Yb S V=zo (fr.map sdV,w)) (Y:wOk w S) (U:fr.length<=1000000) (hi:∀ s∈fr,SdI q.length I ws s) :
  (We rs most fr=yo/\∃ G,Z4 [mW M,V] S=.ok .non G/\Gw (λ_=>False) S G) \/
  (∃ s∈fr,∃ (r:Ru) (n:Nat) (G:Q0),rs[n]?=zo r/\fit r s=zb/\most < s.2.2 + r.u/\Z4 [mW M,V] S=.ok (.tup [.int (n:Int),sdV s]) G/\Gw (λ_=>False) S G):=by
 rcases Qck M (V:=V) fr S zl zl Y hi with ⟨h1,J,a2,a3,e,g⟩ | ⟨s,hs,r,n,J,h1,h2,Z,e,g⟩
 ·exact .inl ⟨h1,J,Qk (show Yj [mO M,zo V,zl,zl] S=_ from Q3 (Jr (Jw rfl O (by rw [O1]; exact U)) e) (Qn rfl)),g⟩
 ·exact .inr ⟨s,hs,r,n,J,h1,h2,Z,Qk (show Yj [mO M,zo V,zl,zl] S=_ from Jn (Jr (Jw rfl O (by rw [O1]; exact U)) e)),g⟩
def Qtj (most:Int) (starts:List Str) (rs:List Ru) (N:Nat) (D:Nat) (v:PV) (A:Q0):Prop:=
 (We rs most (lvs rs (starts,[],0) N).2=zb/\∃ (R:Nat) (ks:List Nat) (n:Nat) (r:Ru) (s:Sd),v=.tup [.ref D,.ref R]/\D < R/\A[R]?=zo (.lst ((ks ++ [n]).map nI))/\ks.length=N/\wkS rs ks (starts,[],0)=zo s/\s∈(lvs rs (starts,[],0) N).1/\rs[n]?=zo r/\fit r s=zb/\most < s.2.2 + r.u) \/
 (We rs most (lvs rs (starts,[],0) N).2=yo/\v=.tup [.ref D,.non]/\A[D]?=zo (.dtp (J9 pV (lvF rs (starts,[],0) N).1)))
theorem Qcx {most:Int} {q:List Str} {b0:List Str} (M:MI2 most q rs b0 ws) (hN:N<=600) (hS:qb rs most (q,[],0) N) (a5:∀ i,i < N->¬ qb rs most (q,[],0) i) :∀ (j i:Nat),i + j=N->∀ (m:Nat) (A:Q0) (V:PV) (a3:Option PV),A[D]?=zo (.dtp (J9 pV (lvF rs (q,[],0) i).1))->FrAt A V (lvF rs (q,[],0) i).2 ->
  ∃ A',Gw (λt=>t=D) A A'/\((∃ v,J3 Zu Wv (m + j + 2) [mO M,zo (.ref D),zo V,a3] A=.rt v A'/\We rs most (lvs rs (q,[],0) N).2=zb/\Qtj most q rs N D v A')\/(∃ V' b3,J3 Zu Wv (m + j + 2) [mO M,zo (.ref D),zo V,a3] A=.nx [mO M,zo (.ref D),zo V',b3] A'/\Qtj most q rs N D (.tup [.ref D,.non]) A')):=by
 intro j
 induction j with
 | zero=>
  intro i hi m A V a3 hD hV;have hi:i=N:=by omega
  subst hi;have Y:=yc rs (q,[],0) i;have e1:(lvF rs (q,[],0) i).1.map (·.1)=(lvs rs (q,[],0) i).1:=congrArg bq Y;have O:(lvF rs (q,[],0) i).2=(lvs rs (q,[],0) i).2:=congrArg cW Y;have a1:∀ j,j < i->We rs most (lvs rs (q,[],0) j).2=yo:=λj hj=>by
   cases z:We rs most (lvs rs (q,[],0) j).2 with
   | false=>rfl
   | true=>exact absurd (.inl z) (a5 j hj)
  obtain ⟨k1,k2,k3⟩:=Xr M i;have kf:=Q1c M a1;obtain ⟨w,Z,hw,b8⟩:=hV.src hD;have c1:(lvF rs (q,[],0) i).2.length<=576:=by
   rw [O];refine E1 ?_ kf;cases i with
   | zero=>simp [lvs]
   | succ i=>rw [Kv]; omega
  have I:Jv A [V]=.ok (.int ((lvF rs (q,[],0) i).2.length:Nat)) A:=by
   rcases hV with rfl | ⟨B,rfl,h⟩
   ·show Res.ok (PV.int (((lvF rs (q,[],0) i).2.map sdV).length:Nat)) A=_;rw [O1]
   ·have:=yr h;rw [this,O1]
  by_cases J:(lvF rs (q,[],0) i).2=[]
  ·refine ⟨A,Gw.refl _ _,.inr ⟨V,a3,?_,.inr ⟨?_,rfl,hD⟩⟩⟩
   ·rw [J] at I;exact jm (Qf (Q6 (Jt rfl I) rfl rfl))
   ·rw [<- O,J]; rfl
  ·have hb:We rs most (lvs rs (q,[],0) i).2=zb:=by
    rcases hS with h | h
    ·exact h
    ·rw [<- O] at h; exact absurd h J
   have ht:Zu [mO M,zo (.ref D),zo V,a3] A=.ok zb A:=by
    refine Qf (Q6 (Jt rfl I) rfl (jc A ?_));have:(lvF rs (q,[],0) i).2.length≠0:=λz=>J (eW z)
    omega
   have G:=Z [];rw [L1] at G;rcases Q3f M G hw (by omega) (λs hs=>k3 s (k2 s (by rw [<- O]; exact hs))) with ⟨z,_⟩ | ⟨s,hs,r,n,A1,h1,h2,h3,e,g⟩
   ·rw [O,hb] at z; cases z
   ·obtain ⟨ks,b6,b1⟩:=Qhd rs (q,[],0) i s hs;have d1:=g.at hD (λh=>h);obtain ⟨A2,er,g2⟩:=Qr2 (by rw [e1]; exact k1) b1 d1 (by omega);have a7:jw (Q4r (Qb 2 U3 (Q1 (Q2 1) (Q1 (mOp oIx (Q2 3) (mC (.int 1))) Q4))) (Vz (Q1 (mOp oIx (Q2 3) (mC (.int 0))) Q4))) [mO M,zo (.ref D),zo V,zo (.tup [.int (n:Int),sdV s])] A1=.ok (.ref A2.length) (A2 ++ [.lst ((ks.reverse ++ [n]).map nI)]):=by
     refine Vp ?_;unfold Q4r;rw [Q5 (n:=2) (F:=U3) rfl rfl er,Qp];show Q84 A2 (.lst (ks.reverse.map nI)) (.lst [.int (n:Int)])=_;show (if (ks.reverse.map nI).length + 1<=lim then Res.ok (ks.reverse.map nI ++ [.int (n:Int)]) A2 else .stuck)=_;rw [bT (by rw [O1,L9,jy]; omega),E4];rfl
    refine ⟨A2 ++ [.lst ((ks.reverse ++ [n]).map nI)],((g.trans g2).trans (Gw.add _ _ _)).mono (λt _ h=>h.elim),.inl ⟨.tup [.ref D,.ref A2.length],Q48 ht (Q3 (Qi (Q5 (n:=2) rfl rfl e)) (Jn (Wd (Qf (Q6 rfl rfl rfl)) (Qn (Ug (Qe rfl (Qe a7 rfl)) (by simp)))))),hb,.inl ⟨hb,A2.length,ks.reverse,n,r,s,rfl,D1 (O2.mp hD).1 (E1 g.len g2.len),Z0 _ _,by rw [L9,b6],Qp8 (Q4s rs (q,[],0) i) b1,k2 s (by rw [<- O]; exact hs),h1,h2,h3⟩⟩⟩
 | succ j ih=>
  intro i hi m A V a3 hD hV;have Y:=yc rs (q,[],0) i;have e1:(lvF rs (q,[],0) i).1.map (·.1)=(lvs rs (q,[],0) i).1:=congrArg bq Y;have O:(lvF rs (q,[],0) i).2=(lvs rs (q,[],0) i).2:=congrArg cW Y;have b4:=yc rs (q,[],0) (i + 1);have b9:(lvF rs (q,[],0) (i + 1)).1.map (·.1)=(lvs rs (q,[],0) (i + 1)).1:=congrArg bq b4;have a4:=a5 i (by omega);have a1:∀ j,j < i + 1->We rs most (lvs rs (q,[],0) j).2=yo:=λj hj=>by
   cases z:We rs most (lvs rs (q,[],0) j).2 with
   | false=>rfl
   | true=>exact absurd (.inl z) (a5 j (by omega))
  obtain ⟨k1,k2,k3⟩:=Xr M i;have kf:=Q1c M (i:=i) (λj hj=>a1 j (by omega))
  have b5:=Q1c M a1;obtain ⟨w,Z,hw,b8⟩:=hV.src hD;have c1:(lvF rs (q,[],0) i).2.length<=576:=by
   rw [O];refine E1 ?_ kf;cases i with
   | zero=>simp [lvs]
   | succ i=>rw [Kv]; omega
  have I:Jv A [V]=.ok (.int ((lvF rs (q,[],0) i).2.length:Nat)) A:=by
   rcases hV with rfl | ⟨B,rfl,h⟩
   ·show Res.ok (PV.int (((lvF rs (q,[],0) i).2.map sdV).length:Nat)) A=_;rw [O1]
   ·have:=yr h;rw [this,O1]
  have J:(lvF rs (q,[],0) i).2≠[]:=λz=>a4 (.inr (by rw [<- O]; exact z))
  have ht:Zu [mO M,zo (.ref D),zo V,a3] A=.ok zb A:=by
   refine Qf (Q6 (Jt rfl I) rfl (jc A ?_));have:(lvF rs (q,[],0) i).2.length≠0:=λz=>J (eW z)
   omega
  have G:=Z [];rw [L1] at G;have b2:∀ s∈(lvF rs (q,[],0) i).2,SdI q.length b0 ws s:=λs hs=>k3 s (k2 s (by rw [<- O]; exact hs))
  rcases Q3f M G hw (by omega) b2 with ⟨z,A1,e,g⟩ | ⟨s,hs,r,n,A1,h1,h2,h3,e,g⟩
  ·have d1:=g.at hD (λh=>h);have b7:FrAt A1 V (lvF rs (q,[],0) i).2:=by
    rcases hV with h | ⟨B,h,hB⟩
    ·exact .inl h
    ·exact .inr ⟨B,h,g.at hB (λh=>h)⟩
   obtain ⟨w1,a6,c0,a8⟩:=b7.src d1;have a2:((trp rs (lvF rs (q,[],0) i).2).foldl Zi ((lvF rs (q,[],0) i).1,[])).1.length<=2000:=by
    have:((lvF rs (q,[],0) (i + 1)).1.map (·.1)).length<=576:=by rw [b9]; exact b5
    rw [O1] at this;exact E1 this (by decide)
   obtain ⟨A2,ef,d2,f2,g2⟩:=Qah M a6 c0 a8 b2 d1 (by omega) a2;obtain ⟨A',gA,a9⟩:=ih (i + 1) (by omega) m A2 (.ref A1.length) (zo .non) d2 (.inr ⟨_,rfl,f2⟩);have U:∀ r,J3 Zu Wv (m + j + 2) [mO M,zo (.ref D),zo (.ref A1.length),zo .non] A2=r->J3 Zu Wv (m + (j + 1) + 2) [mO M,zo (.ref D),zo V,a3] A=r:=λr hr=>by
    rw [show m + (j + 1) + 2=(m + j + 2) + 1 from rfl];exact yy ht (Q3 (Qi (Q5 (n:=2) rfl rfl e)) (Q3 (Z3 (Qf (Q6 rfl rfl rfl)) rfl) (Qi (Q5 (n:=3) rfl rfl ef)))) hr
   refine ⟨A',((g.mono (λt _ h=>h.elim)).trans g2).trans gA,?_⟩;rcases a9 with ⟨v,h1,h2,h3⟩ | ⟨V',b3,h1,h2⟩
   ·exact .inl ⟨v,U _ h1,h2,h3⟩
   ·exact .inr ⟨V',b3,U _ h1,h2⟩
  ·exfalso;refine a4 (.inl (cX.mpr ⟨s,by rw [<- O]; exact hs,cX.mpr ⟨r,E6 h1,?_⟩⟩));rw [h2,bW h3]; rfl
theorem yt {most:Int} {q:List Str} {rules:List PV} (S:Q0):Qz [j8 most q rules] S=.ok (sdV (q,[],0)) S:=by
 have st:Kq [zo (j8 most q rules)] S=.rt (sdV (q,[],0)) S:=rfl;have:=q9 (nl:=1) (ps:=[j8 most q rules]) st;unfold Qz;rw [this];exact Q8u (Q5e _ _ _)
theorem Qcw {most:Int} {q:List Str} {U:List Str} (M:MI2 most q rs U ws) (hN:N<=600) (hS:qb rs most (q,[],0) N) (I:∀ i,i < N->¬ qb rs most (q,[],0) i) (S:Q0):∃ v J,qc [mW M] S=.ok v J/\Gw (λ_=>False) S J/\Qtj most q rs N S.length v J:=by
 have d1:(S ++ [Cell.dtp [(sdK (q,[],0),.non)]])[S.length]?=zo (.dtp (J9 pV (lvF rs (q,[],0) 0).1)):=Z0 _ _;obtain ⟨O,g,G⟩:=Qcx M hN hS I (D:=S.length) N 0 (by omega) (99998 - N) (S ++ [Cell.dtp [(sdK (q,[],0),.non)]]) (.lst [sdV (q,[],0)]) zl d1 (.inl rfl);rw [show 99998 - N + N + 2=100000 by omega] at G;have h1:(Qr 1 (qt (Qb 1 Qz (Q1 (Q2 0) Q4)) (mC .non))) [mO M,zl,zl,zl] S=.nx [mO M,zo (.ref S.length),zl,zl] (S ++ [Cell.dtp [(sdK (q,[],0),.non)]]):=by
  refine Qi ?_;unfold qt;rw [Q5 (n:=1) (F:=Qz) rfl rfl (yt S),Qp];show Qas S .non (sdV (q,[],0))=_;unfold Qas;rw [K8]
 have h2:(Qr 2 (Vz (Q1 (Qb 1 Qz (Q1 (Q2 0) Q4)) Q4))) [mO M,zo (.ref S.length),zl,zl] (S ++ [Cell.dtp [(sdK (q,[],0),.non)]])=.nx [mO M,zo (.ref S.length),zo (.lst [sdV (q,[],0)]),zl] (S ++ [Cell.dtp [(sdK (q,[],0),.non)]]):=Qi (Q3h (Qe (Q5 (n:=1) rfl rfl (yt _)) rfl) (by simp));have Z:Gw (λ_=>False) S O:=((Gw.add (λt=>t=S.length) S _).trans g).mono λt ht z=>by omega
 rcases G with ⟨v,e,_,Y⟩ | ⟨V',b3,e,Y⟩
 ·exact ⟨v,O,Qk (show zy [mO M,zl,zl,zl] S=_ from Q3 h1 (Q3 h2 (Jn e))),Z,Y⟩
 ·exact ⟨_,O,Qk (show zy [mO M,zl,zl,zl] S=_ from Q3 h1 (Q3 h2 (Q3 e (Qn rfl)))),Z,Y⟩
def Qx7 (most:Int) (starts:List Str) (rs:List Ru) (N L:Nat) (v:PV) (A:Q0):Prop:=
 (We rs most (lvs rs (starts,[],0) N).2=zb/\∃ (R:Nat) (ks:List Nat) (n:Nat) (r:Ru) (s:Sd),v=.tup [.str "breaks",.ref R]/\L<=R/\A[R]?=zo (.lst ((ks ++ [n]).map nI))/\ks.length=N/\wkS rs ks (starts,[],0)=zo s/\s∈(lvs rs (starts,[],0) N).1/\rs[n]?=zo r/\fit r s=zb/\most < s.2.2 + r.u) \/
 (We rs most (lvs rs (starts,[],0) N).2=yo/\∃ R:Nat,v=.tup [.str "keeps",.ref R]/\L<=R/\A[R]?=zo (.lst ((lvs rs (starts,[],0) N).1.map sdV)))
theorem Qf6 {most:Int} {q:List Str} {J:List Str} (M:MI2 most q rs J ws) (h:Man most q (rs.map ruV)) (hN:N<=600) (hS:qb rs most (q,[],0) N) (Y:∀ i,i < N->¬ qb rs most (q,[],0) i) (S:Q0):∃ v G,j4 [mW M] S=.ok v G/\Gw (λ_=>False) S G/\Qx7 most q rs N S.length v G:=by
 obtain ⟨v,A,e,g,ht⟩:=Qcw M hN hS Y S;have h0:=Qbr h S;rcases ht with ⟨I,R,ks,n,r,s,rfl,U,hR,k1,k2,k3,k4,k5,k6⟩ | ⟨I,rfl,hD⟩
 ·exact ⟨_,A,Qk (show Q19 [mO M,zl] S=_ from Q3 (Q6k (Q5 (n:=1) rfl rfl h0)) (Q3 (Qi (Q5 (n:=1) rfl rfl e)) (Jn (Wd (Qf (Q6 rfl rfl rfl)) (Qn rfl))))),g,.inl ⟨I,R,ks,n,r,s,rfl,cr U,hR,k1,k2,k3,k4,k5,k6⟩⟩
 ·have hl:Q1b (mOp oIx (Q2 1) (mC (.int 0))) [mO M,zo (.tup [.ref S.length,.non])] A=.ok ((lvs rs (q,[],0) N).1.map sdV) A:=by
   show (match Wf A (.ref S.length) with | some (O:List (HK × PV))=>Res.ok (O.map λ(kv:HK × PV)=>hkV kv.1) A | none=>.stuck)=_
   rw [Q38 pV hD];have Z:(lvF rs (q,[],0) N).1.map (·.1)=(lvs rs (q,[],0) N).1:=congrArg bq (yc rs (q,[],0) N);rw [<- Z,F9];show Res.ok ((J9 pV (lvF rs (q,[],0) N).1).map λ(kv:HK × PV)=>hkV kv.1) A=_
   unfold J9;rw [F9];congr 1;exact L8 λx _=>Qhy x.1
  exact ⟨_,A ++ [.lst ((lvs rs (q,[],0) N).1.map sdV)],Qk (show Q19 [mO M,zl] S=_ from Q3 (Q6k (Q5 (n:=1) rfl rfl h0)) (Q3 (Qi (Q5 (n:=1) rfl rfl e)) (Q3 (Z3 (Qf (Q6 rfl rfl rfl)) rfl) (Qn (Ug (Qe rfl (Qe (Vp hl) rfl)) (by simp)))))),g.trans (Gw.add _ _ _),.inr ⟨I,A.length,rfl,g.len,Z0 _ _⟩⟩
structure GoodL (most:Int) (n:Nat) (sts ws:List Str) (G:List (Sd × Nat)):Prop where
 nd:(G.map (·.1)).Nodup
 is:∀ s∈G.map (·.1),SdI n sts ws s/\s.2.2<=most
 ne:G≠[]
theorem Qkb (s:Sd):good 11 (sdV s)=zb:=by
 show ((s.1.map PV.str).all (good 9) && ((s.2.1.map prV).all (good 9) && (zb && zb)))=zb;have h1:(s.1.map PV.str).all (good 9)=zb:=by rw [bw,E9]; exact λ_ _=>rfl
 have h2:(s.2.1.map prV).all (good 9)=zb:=by rw [bw,E9]; exact λ_ _=>rfl
 rw [h1,h2];rfl
theorem Q7g (fr:List Sd):good dep (.lst (fr.map sdV))=zb:=by
 show (fr.map sdV).all (good 11)=zb;rw [bw,E9];exact λs _=>Qkb s
theorem Qpu {V:PV} (h:FrAt S V fr):oNe S V (.lst [])=.ok (.bl (!fr.isEmpty)) S:=by
 have hd:der S V=.lst (fr.map sdV):=by
  rcases h with rfl | ⟨B,rfl,h⟩
  ·rfl
  ·unfold der; simp only [h]
 unfold oNe;rw [hd];show (if good dep (.lst (fr.map sdV))=zb/\good dep (.lst [])=zb then Res.ok (PV.bl (!peq (.lst (fr.map sdV)) (.lst []))) S else .stuck)=_;rw [bT ⟨Q7g fr,rfl⟩];cases fr <;> rfl
theorem GoodL.few {most:Int} {q:List Str} {I:List Str} (M:MI2 most q rs I ws) {G:List (Sd × Nat)} (h:GoodL most q.length I ws G):G.length<=576:=by
 have:=Lw.few M h.nd h.is
 rwa [O1] at this
theorem Qhh {most:Int} {q:List Str} {G:List Str} (M:MI2 most q rs G ws) (I:SdI q.length G ws s) (J:r∈rs) (S:Q0):Jc [ruV r,sdV s] S=.ok (.bl (fit r s)) S:=Qcb r (by rw [I.len]; exact (M.ru r J).h) s.2.1 s.2.2 S
theorem Qhe {most:Int} {q:List Str} {G:List Str} (M:MI2 most q rs G ws) (I:SdI q.length G ws s) (J:r∈rs) (S:Q0):J2 [ruV r,sdV s] S=.ok (sdV (stp r s)) S:=Qbe r (by rw [I.len]; exact (M.ru r J).h) (by have:=(I.one M.n4).small M.w2; have:=(M.ru r J).ms; omega) s.2.2 S
theorem Q68 {most:Int} {O:List Str} {rs:List Ru} {a3 ws:List Str} (M:MI2 most O rs a3 ws) {D Fi d:Nat} (a8:D≠Fi) {V:PV} {s:Sd} (I:SdI O.length a3 ws s):∀ (Y:List Ru) (G:List (Sd × Nat)) (Z:List Sd) (A:Q0) (a6 a7:Option PV),(∀ r∈Y,r∈rs)->GoodL most O.length a3 ws G->Z.length<=G.length->A[D]?=zo (.dtp (J9 nI G))->A[Fi]?=zo (.lst (Z.map sdV)) ->
  ((Y.any λr=>fit r s && decide (most < s.2.2 + r.u))=yo/\∃ U c1 b8,Z2 (Qd 6) J7 [] (Y.map ruV) [mO M,zo (.ref D),zo V,zo (.int (d:Int)),zo (.ref Fi),zo (sdV s),a6,a7] A=.nx [mO M,zo (.ref D),zo V,zo (.int (d:Int)),zo (.ref Fi),zo (sdV s),c1,b8] U /\
    U[D]?=zo (.dtp (J9 nI (((Y.filter (fit · s)).map λr=>(stp r s,d)).foldl Zi (G,Z)).1))/\U[Fi]?=zo (.lst ((((Y.filter (fit · s)).map λr=>(stp r s,d)).foldl Zi (G,Z)).2.map sdV))/\GoodL most O.length a3 ws (((Y.filter (fit · s)).map λr=>(stp r s,d)).foldl Zi (G,Z)).1/\Gw (λt=>t=D\/t=Fi) A U) \/
  ((Y.any λr=>fit r s && decide (most < s.2.2 + r.u))=zb/\∃ U G',Z2 (Qd 6) J7 [] (Y.map ruV) [mO M,zo (.ref D),zo V,zo (.int (d:Int)),zo (.ref Fi),zo (sdV s),a6,a7] A=.rt (.tup [.ref D,.int (d:Int)]) U/\U[D]?=zo (.dtp (J9 nI G'))/\GoodL most O.length a3 ws G'/\Gw (λt=>t=D\/t=Fi) A U)
 | [],G,Z,A,a6,a7,_,hG,_,hD,hF=>.inl ⟨rfl,A,a6,a7,Yd (J4 A),hD,hF,hG,Gw.refl _ _⟩
 | r :: Y,G,Z,A,a6,a7,b3,hG,hl,hD,hF=>by
  have hr:=b3 r (by simp);have hf:=Qhh M I hr A;have hs:=Qhe M I hr A;have a2:=J4 A;have a1:∀ x∈Y,x∈rs:=λx hx=>b3 x (O4 _ hx)
  rw [cF,D3];cases qf:fit r s with
  | false=>
   rw [qf] at hf;have a5:(r :: Y).filter (fit · s)=Y.filter (fit · s):=List.filter_cons_of_neg (by rw [qf]; decide);rw [L5,dz,a5];have J:J7 [mO M,zo (.ref D),zo V,zo (.int (d:Int)),zo (.ref Fi),zo (sdV s),zo (ruV r),a7] A=.nx [mO M,zo (.ref D),zo V,zo (.int (d:Int)),zo (.ref Fi),zo (sdV s),zo (ruV r),a7] A:=Z3 (Qf (Q5 (n:=2) rfl rfl hf)) rfl;rcases Q68 M a8 (V:=V) I Y G Z A (zo (ruV r)) a7 a1 hG hl hD hF with ⟨h1,U,b6,b7,e,h2⟩ | ⟨h1,U,G',e,h2⟩
   ·exact .inl ⟨h1,U,b6,b7,J6 a2 rfl J e,h2⟩
   ·exact .inr ⟨h1,U,G',J6 a2 rfl J e,h2⟩
  | true=>
   rw [qf] at hf;have a5:(r :: Y).filter (fit · s)=r :: Y.filter (fit · s):=List.filter_cons_of_pos qf;rw [bz,a5,D3,F5]
   by_cases q:most < s.2.2 + r.u
   ·rw [bW q,fP];exact .inr ⟨rfl,A,G,Xu a2 rfl (Wd (Qf (Q5 (n:=2) rfl rfl hf)) (Q3 (Qi (Q5 (n:=2) rfl rfl hs)) (Jn (Wd (Qf (Q6 rfl rfl (jc A q))) (Qn rfl))))),hD,hG,Gw.refl _ _⟩
   ·rw [bV q,dz];have a9:=Qpx nI hD (stp r s) zb
    by_cases qm:stp r s∈G.map (·.1)
    ·have a4:Zi (G,Z) (stp r s,d)=(G,Z):=by unfold Zi; rw [bT qm]
     rw [a4];rw [bW qm] at a9;have J:J7 [mO M,zo (.ref D),zo V,zo (.int (d:Int)),zo (.ref Fi),zo (sdV s),zo (ruV r),a7] A=.nx [mO M,zo (.ref D),zo V,zo (.int (d:Int)),zo (.ref Fi),zo (sdV s),zo (ruV r),zo (sdV (stp r s))] A:=Wd (Qf (Q5 (n:=2) rfl rfl hf)) (Q3 (Qi (Q5 (n:=2) rfl rfl hs)) (Q3 (Z3 (Qf (Q6 rfl rfl (jd A q))) rfl) (Z3 (Qf (Q6 rfl rfl a9)) rfl)));rcases Q68 M a8 (V:=V) I Y G Z A (zo (ruV r)) (zo (sdV (stp r s))) a1 hG hl hD hF with ⟨h1,U,b6,b7,e,h2⟩ | ⟨h1,U,G',e,h2⟩
     ·exact .inl ⟨h1,U,b6,b7,J6 a2 rfl J e,h2⟩
     ·exact .inr ⟨h1,U,G',J6 a2 rfl J e,h2⟩
    ·have a4:Zi (G,Z) (stp r s,d)=(G ++ [(stp r s,d)],Z ++ [stp r s]):=by unfold Zi; rw [bU qm]
     rw [a4];rw [bV qm] at a9;have c2:=GoodL.few M hG;have b9:GoodL most O.length a3 ws (G ++ [(stp r s,d)]):=by
      refine ⟨?_,λx hx=>?_,by simp⟩
      ·rw [E4];exact cV.mpr ⟨hG.nd,by simp,λa ha b hb e=>by
        have:b=stp r s:=by simpa using hb
        rw [e,this] at ha; exact qm ha⟩
      ·rw [E4] at hx;rcases D9.mp hx with hx | hx
       ·exact hG.is x hx
       ·have:x=stp r s:=by simpa using hx
        rw [this];exact ⟨I.step (M.ru r hr),by show s.2.2 + r.u<=most; omega⟩
     have b2:=Qaq nI hD (by omega) qm d;obtain ⟨A1,b1⟩:∃ A1,A.set D (.dtp (J9 nI (G ++ [(stp r s,d)])))=A1:=⟨_,rfl⟩;rw [b1] at b2;have c0:=(O2.mp hD).1;have d1:A1[D]?=zo (.dtp (J9 nI (G ++ [(stp r s,d)]))):=by rw [<- b1]; exact E5 c0
     have f1:A1[Fi]?=zo (.lst (Z.map sdV)):=by rw [<- b1,E7 a8]; exact hF
     have g1:Gw (λt=>t=D\/t=Fi) A A1:=by rw [<- b1]; exact Gw.put A (.inl rfl) _
     obtain ⟨A2,b0⟩:∃ A2,A1.set Fi (.lst ((Z ++ [stp r s]).map sdV))=A2:=⟨_,rfl⟩;have d2:A2[D]?=zo (.dtp (J9 nI (G ++ [(stp r s,d)]))):=by rw [<- b0,E7 (Ne.symm a8)]; exact d1
     have b5:=(O2.mp f1).1;have f2:A2[Fi]?=zo (.lst ((Z ++ [stp r s]).map sdV)):=by rw [<- b0]; exact E5 b5
     have g2:Gw (λt=>t=D\/t=Fi) A A2:=by rw [<- b0]; exact g1.trans (Gw.put A1 (.inr rfl) _)
     have b4:Z5 A1 (.ref Fi) [sdV (stp r s)]=.ok .non A2:=by
      rw [yu f1 (by rw [O1]; omega),<- b0,E4];rfl
     have J:J7 [mO M,zo (.ref D),zo V,zo (.int (d:Int)),zo (.ref Fi),zo (sdV s),zo (ruV r),a7] A=.nx [mO M,zo (.ref D),zo V,zo (.int (d:Int)),zo (.ref Fi),zo (sdV s),zo (ruV r),zo (sdV (stp r s))] A2:=Wd (Qf (Q5 (n:=2) rfl rfl hf)) (Q3 (Qi (Q5 (n:=2) rfl rfl hs)) (Q3 (Z3 (Qf (Q6 rfl rfl (jd A q))) rfl) (Wd (Qf (Q6 rfl rfl a9)) (Q3 (Ws rfl rfl rfl b2) (Q3j rfl (W6 f1) rfl b4)))));rcases Q68 M a8 (V:=V) I Y (G ++ [(stp r s,d)]) (Z ++ [stp r s]) A2 (zo (ruV r)) (zo (sdV (stp r s))) a1 b9 (by rw [O6,O6]; simp; omega) d2 f2 with ⟨h1,U,b6,b7,e,k1,k2,k3,k4⟩ | ⟨h1,U,G',e,k1,k2,k3⟩
     ·exact .inl ⟨h1,U,b6,b7,J6 a2 rfl J e,k1,k2,k3,g2.trans k4⟩
     ·exact .inr ⟨h1,U,G',J6 a2 rfl J e,k1,k2,g2.trans k3⟩
def lxs (rs:List Ru) (d:Nat) (fr:List Sd):List (Sd × Nat):=fr.flatMap λs=>(rs.filter (fit · s)).map λr=>(stp r s,d)
theorem Qn3 (d:Nat) (fr:List Sd):(lxs rs d fr).map (·.1)=nxt rs fr:=by
 unfold lxs nxt;rw [ik];congr 1;funext s;rw [F9];rfl
theorem Q67 {most:Int} {q:List Str} {rs:List Ru} {O ws:List Str} (M:MI2 most q rs O ws) {D Fi d:Nat} (a2:D≠Fi) {V:PV} {w:Wt} (hw:∀ x∈w,¬ (x.1=D\/x.1=Fi)):∀ (fr:List Sd) (G:List (Sd × Nat)) (Y:List Sd) (A:Q0) (a5 a6 a7:Option PV),(∀ s∈fr,SdI q.length O ws s)->GoodL most q.length O ws G->Y.length<=G.length->wOk w A->A[D]?=zo (.dtp (J9 nI G))->A[Fi]?=zo (.lst (Y.map sdV)) ->
  (We rs most fr=yo/\∃ Z a4 b0 a3,Z2 (Qd 5) Z9 w (fr.map sdV) [mO M,zo (.ref D),zo V,zo (.int (d:Int)),zo (.ref Fi),a5,a6,a7] A=.nx [mO M,zo (.ref D),zo V,zo (.int (d:Int)),zo (.ref Fi),a4,b0,a3] Z /\
   Z[D]?=zo (.dtp (J9 nI ((lxs rs d fr).foldl Zi (G,Y)).1))/\Z[Fi]?=zo (.lst (((lxs rs d fr).foldl Zi (G,Y)).2.map sdV))/\GoodL most q.length O ws ((lxs rs d fr).foldl Zi (G,Y)).1/\Gw (λt=>t=D\/t=Fi) A Z) \/
  (We rs most fr=zb/\∃ Z G',Z2 (Qd 5) Z9 w (fr.map sdV) [mO M,zo (.ref D),zo V,zo (.int (d:Int)),zo (.ref Fi),a5,a6,a7] A=.rt (.tup [.ref D,.int (d:Int)]) Z/\Z[D]?=zo (.dtp (J9 nI G'))/\GoodL most q.length O ws G'/\Gw (λt=>t=D\/t=Fi) A Z)
 | [],G,Y,A,a5,a6,a7,_,hG,_,J,hD,hF=>.inl ⟨rfl,A,a5,a6,a7,Yd J,hD,hF,hG,Gw.refl _ _⟩
 | s :: fr,G,Y,A,a5,a6,a7,hi,hG,hl,J,hD,hF=>by
  have I:=hi s (by simp);have hx:lxs rs d (s :: fr)=((rs.filter (fit · s)).map λr=>(stp r s,d)) ++ lxs rs d fr:=il
  rw [hx,eG];unfold We;rw [cF];obtain ⟨ey,a8,a9,_⟩:=U2 ((rs.filter (fit · s)).map λr=>(stp r s,d)) (G,Y)
  have a1:(rs.map ruV).length<=1000000:=by rw [O1]; have:=M.len; omega
  rcases Q68 M (d:=d) a2 (V:=V) I rs G Y A a6 a7 (λr hr=>hr) hG hl hD hF with ⟨h1,A1,b6,b7,e,k1,k2,k3,k4⟩ | ⟨h1,A1,G',e,k1,k2,k3⟩
  ·rw [h1,dz];have U:Z9 [mO M,zo (.ref D),zo V,zo (.int (d:Int)),zo (.ref Fi),zo (sdV s),a6,a7] A=.nx [mO M,zo (.ref D),zo V,zo (.int (d:Int)),zo (.ref Fi),zo (sdV s),b6,b7] A1:=Jr (Jw rfl rfl a1) e;rcases Q67 M a2 (V:=V) hw fr _ _ A1 (zo (sdV s)) b6 b7 (λx hx=>hi x (O4 _ hx)) k3 (by rw [a8,a9,O6,O6,O1]; show Y.length + _<=G.length + _; omega) (k4.w J hw) k1 k2 with ⟨j1,A2,c5,c6,c7,e2,m1,m2,m3,m4⟩ | ⟨j1,A2,G',e2,m1,m2,m3⟩
   ·exact .inl ⟨j1,A2,c5,c6,c7,J6 J rfl U e2,m1,m2,m3,k4.trans m4⟩
   ·exact .inr ⟨j1,A2,G',J6 J rfl U e2,m1,m2,k4.trans m3⟩
  ·rw [h1,fP];exact .inr ⟨rfl,A1,G',Xu J rfl (Jr (Jw rfl rfl a1) e),k1,k2,k3⟩
def Lvd (most:Int) (starts:List Str) (rs:List Ru) (sts ws:List Str) (N D:Nat) (d:Nat) (A:Q0):Prop:=
 ∃ G,A[D]?=zo (.dtp (J9 nI G))/\GoodL most starts.length sts ws G/\((We rs most (lvs rs (starts,[],0) N).2=zb/\d=N + 1)\/(We rs most (lvs rs (starts,[],0) N).2=yo/\d=0/\G.map (·.1)=(lvs rs (starts,[],0) N).1))
theorem Qhj {most:Int} {q:List Str} {Z:List Str} (M:MI2 most q rs Z ws) (hN:N<=600) (hS:qb rs most (q,[],0) N) (b9:∀ i,i < N->¬ qb rs most (q,[],0) i) :∀ (j i:Nat),i + j=N->∀ (m:Nat) (A:Q0) (V:PV) (a4 a5 a6 a7:Option PV) (G:List (Sd × Nat)),A[D]?=zo (.dtp (J9 nI G))->GoodL most q.length Z ws G->G.map (·.1)=(lvs rs (q,[],0) i).1->FrAt A V (lvs rs (q,[],0) i).2 ->
  ∃ A',Gw (λt=>t=D) A A'/\((∃ d:Nat,J3 Ji Jj (m + j + 2) [mO M,zo (.ref D),zo V,zo (.int (i:Int)),a4,a5,a6,a7] A=.rt (.tup [.ref D,.int (d:Int)]) A'/\Lvd most q rs Z ws N D d A')\/(∃ V' b3 b4 b5 b6 b7,J3 Ji Jj (m + j + 2) [mO M,zo (.ref D),zo V,zo (.int (i:Int)),a4,a5,a6,a7] A=.nx [mO M,zo (.ref D),zo V',b3,b4,b5,b6,b7] A'/\Lvd most q rs Z ws N D 0 A')):=by
 intro j
 induction j with
 | zero=>
  intro i hi m A V a4 a5 a6 a7 G hD hG hK hV;have hi:i=N:=by omega
  subst hi;have J:=Qpu hV;cases a1:(lvs rs (q,[],0) i).2 with
  | nil=>
   rw [a1] at J;refine ⟨A,Gw.refl _ _,.inr ⟨V,_,a4,a5,a6,a7,jm (Qf (Q6 rfl rfl J)),G,hD,hG,.inr ⟨?_,rfl,hK⟩⟩⟩;rw [a1]; rfl
  | cons s0 c1=>
   rw [a1] at J;have hb:We rs most (lvs rs (q,[],0) i).2=zb:=by
    rcases hS with h | h
    ·exact h
    ·rw [a1] at h; cases h
   obtain ⟨w,Y,hw,a3⟩:=hV.src hD;have I:∀ x∈w,¬ (x.1=D\/x.1=A.length):=λx hx z=>by
    rcases z with z | z
    ·exact a3 x hx z
    ·have:=(O2.mp (hw x hx)).1;omega
   have a8:=(O2.mp hD).1;have d1:(A ++ [Cell.lst []])[D]?=zo (.dtp (J9 nI G)):=by rw [O8 a8]; exact hD
   obtain ⟨k1,k2,k3⟩:=Xr M i;have a9:(lvs rs (q,[],0) i).2.length<=1000000:=by
    have h1:(lvs rs (q,[],0) i).1.length<=576:=by rw [<- hK,O1]; exact GoodL.few M hG
    cases i with
    | zero=>simp [lvs]
    | succ i=>rw [Kv] at h1; omega
   rcases Q67 M (d:=i + 1) (D:=D) (Fi:=A.length) (by omega) (V:=V) I (lvs rs (q,[],0) i).2 G [] (A ++ [Cell.lst []]) a5 a6 a7 (λs hs=>k3 s (k2 s hs)) hG (F7 _) ((Gw.add (λt=>t=D\/t=A.length) A _).w hw I) d1 (Z0 _ _) with ⟨j1,_⟩ | ⟨j1,A2,G',e2,m1,m2,m3⟩
   ·rw [hb] at j1; cases j1
   ·refine ⟨A2,((Gw.add (λt=>t=D\/t=A.length) A _).trans m3).mono (λt ht z=>?_),.inl ⟨i + 1,?_,G',m1,m2,.inl ⟨hb,rfl⟩⟩⟩
    ·rcases z with z | z
     ·exact z
     ·omega
    ·exact Q48 (Qf (Q6 rfl rfl J)) (Q3 (Qi (Q6 rfl rfl (show Qx A (.int (i:Int)) (.int 1)=.ok (.int ((i + 1:Nat):Int)) A by rw [Q6x]; rfl))) (Q3 (Qi (Vp rfl)) (Jn (Jr (Jw rfl (Y _) (by rw [O1]; exact a9)) e2))))
 | succ j ih=>
  intro i hi m A V a4 a5 a6 a7 G hD hG hK hV;have a2:=b9 i (by omega);have J:=Qpu hV;have b2:We rs most (lvs rs (q,[],0) i).2=yo:=by
   cases z:We rs most (lvs rs (q,[],0) i).2 with
   | false=>rfl
   | true=>exact absurd (.inl z) a2
  have b1:(lvs rs (q,[],0) i).2.isEmpty=yo:=by
   cases z:(lvs rs (q,[],0) i).2 with
   | nil=>exact absurd (.inr z) a2
   | cons=>rfl
  rw [b1] at J;obtain ⟨w,Y,hw,a3⟩:=hV.src hD;have I:∀ x∈w,¬ (x.1=D\/x.1=A.length):=λx hx z=>by
   rcases z with z | z
   ·exact a3 x hx z
   ·have:=(O2.mp (hw x hx)).1;omega
  have a8:=(O2.mp hD).1;have d1:(A ++ [Cell.lst []])[D]?=zo (.dtp (J9 nI G)):=by rw [O8 a8]; exact hD
  obtain ⟨k1,k2,k3⟩:=Xr M i;have a9:(lvs rs (q,[],0) i).2.length<=1000000:=by
   have h1:(lvs rs (q,[],0) i).1.length<=576:=by rw [<- hK,O1]; exact GoodL.few M hG
   cases i with
   | zero=>simp [lvs]
   | succ i=>rw [Kv] at h1; omega
  rcases Q67 M (d:=i + 1) (D:=D) (Fi:=A.length) (by omega) (V:=V) I (lvs rs (q,[],0) i).2 G [] (A ++ [Cell.lst []]) a5 a6 a7 (λs hs=>k3 s (k2 s hs)) hG (F7 _) ((Gw.add (λt=>t=D\/t=A.length) A _).w hw I) d1 (Z0 _ _) with ⟨_,A2,c5,c6,c7,e2,m1,m2,m3,m4⟩ | ⟨j1,_⟩
  ·have U:=Q3n (lxs rs (i + 1) (lvs rs (q,[],0) i).2) (G,[]);rw [Qn3,show ((G,([]:List Sd)).1.map (·.1),(G,([]:List Sd)).2)=((lvs rs (q,[],0) i).1,[]) from by rw [hK]] at U;have c0:((lxs rs (i + 1) (lvs rs (q,[],0) i).2).foldl Zi (G,[])).1.map (·.1)=(lvs rs (q,[],0) (i + 1)).1:=congrArg bq U;have b8:((lxs rs (i + 1) (lvs rs (q,[],0) i).2).foldl Zi (G,[])).2=(lvs rs (q,[],0) (i + 1)).2:=congrArg cW U;rw [b8] at m2;obtain ⟨A',gA,b0⟩:=ih (i + 1) (by omega) m A2 (.ref A.length) (zo (.ref A.length)) c5 c6 c7 _ m1 m3 c0 (.inr ⟨_,rfl,m2⟩);have O:∀ r,J3 Ji Jj (m + j + 2) [mO M,zo (.ref D),zo (.ref A.length),zo (.int ((i + 1:Nat):Int)),zo (.ref A.length),c5,c6,c7] A2=r->J3 Ji Jj (m + (j + 1) + 2) [mO M,zo (.ref D),zo V,zo (.int (i:Int)),a4,a5,a6,a7] A=r:=λr hr=>by
    rw [show m + (j + 1) + 2=(m + j + 2) + 1 from rfl];exact yy (Qf (Q6 rfl rfl J)) (Q3 (Qi (Q6 rfl rfl (show Qx A (.int (i:Int)) (.int 1)=.ok (.int ((i + 1:Nat):Int)) A by rw [Q6x]; rfl))) (Q3 (Qi (Vp rfl)) (Q3 (Jr (Jw rfl (Y _) (by rw [O1]; exact a9)) e2) (Qi rfl)))) hr
   have g2:Gw (λt=>t=D) A A2:=((Gw.add (λt=>t=D\/t=A.length) A _).trans m4).mono (λt ht z=>by
    rcases z with z | z
    ·exact z
    ·omega)
   refine ⟨A',g2.trans gA,?_⟩;rcases b0 with ⟨d,h1,h2⟩ | ⟨V',b3,b4,b5,b6,b7,h1,h2⟩
   ·exact .inl ⟨d,O _ h1,h2⟩
   ·exact .inr ⟨V',b3,b4,b5,b6,b7,O _ h1,h2⟩
  ·rw [b2] at j1; cases j1
theorem Qe3 {most:Int} {q:List Str} {O:List Str} (M:MI2 most q rs O ws) (hN:N<=600) (hS:qb rs most (q,[],0) N) (a1:∀ i,i < N->¬ qb rs most (q,[],0) i) (S:Q0):∃ (d:Nat) (Z:Q0),Zp [mW M] S=.ok (.tup [.ref S.length,.int (d:Int)]) Z/\Gw (λ_=>False) S Z/\Lvd most q rs O ws N S.length d Z:=by
 have d0:(S ++ [Cell.dtp []])[S.length]?=zo (.dtp (J9 nI ([]:List (Sd × Nat)))):=Z0 _ _;have G:=Qaq nI d0 (by simp) (t:=(q,[],0)) (by simp) 0;obtain ⟨J,U⟩:∃ J,(S ++ [Cell.dtp []]).set S.length (.dtp (J9 nI ([] ++ [((q,[],0),0)])))=J:=⟨_,rfl⟩;rw [U] at G;have d1:J[S.length]?=zo (.dtp (J9 nI [((q,[],0),0)])):=by rw [<- U]; exact E5 (by simp)
 have g1:Gw (λt=>t=S.length) S J:=by rw [<- U]; exact (Gw.add _ S _).trans (Gw.put (P:=λt=>t=S.length) _ rfl _)
 have Y:U1 J [.ref S.length]=.ok (.lst [sdV (q,[],0)]) J:=by
  unfold U1;simp only [Q38 nI d1];show Res.ok (PV.lst [hkV (sdK (q,[],0))]) J=_;rw [Qhy]
 have hG:GoodL most q.length O ws [((q,[],0),0)]:=⟨by simp,λs hs=>by
  have:s=(q,[],0):=by simpa using hs
  rw [this]; exact ⟨Q77 M,M.m0⟩,by simp⟩
 obtain ⟨A',gA,I⟩:=Qhj M hN hS a1 (D:=S.length) N 0 (by omega) (99998 - N) J (.lst [sdV (q,[],0)]) zl zl zl zl _ d1 hG rfl (.inl rfl);rw [show 99998 - N + N + 2=100000 by omega] at I;have gg:Gw (λ_=>False) S A':=(g1.trans gA).mono λt ht z=>by omega
 rcases I with ⟨d,e,hL⟩ | ⟨V',b3,b4,b5,b6,b7,e,hL⟩
 ·exact ⟨d,A',Qk (show Yk [mO M,zl,zl,zl,zl,zl,zl,zl] S=_ from Q3 (Qi rfl) (Q3 (Ws rfl rfl rfl G) (Q3 (Qi (Jt rfl Y)) (Q3 (Qi rfl) (Jn e))))),gg,hL⟩
 ·exact ⟨0,A',Qk (show Yk [mO M,zl,zl,zl,zl,zl,zl,zl] S=_ from Q3 (Qi rfl) (Q3 (Ws rfl rfl rfl G) (Q3 (Qi (Jt rfl Y)) (Q3 (Qi rfl) (Q3 e (Qn rfl)))))),gg,hL⟩
structure SdW (n:Nat) (s:Sd):Prop where
 len:s.1.length=n
 w:∀ x∈s.1,Zc x=zb
 l:∀ p∈s.2.1,0<=p.1/\p.1 < n/\Qje p.2
 ri:s.2.1.Pairwise λa b=>Zh a b=zb
 few:s.2.1.length<=20
theorem Gw.pre (g:Gw (λ_=>False) S A):A=S ++ A.drop S.length:=by
 conv=>lhs; rw [<- eJ S.length A]
 congr 1;apply cU;intro i
 by_cases q:i < S.length
 ·rw [gK q,g.keep i q (λh=>h)]
 ·rw [G9 (by rw [L6]; omega),G9 (by omega)]
theorem Q99 {m:MS} (h:m (ps.map zo ++ ba (nl - ps.length) zl) S=.rt (.bl b) A) (g:Gw (λ_=>False) S A):J8 m nl ps S=.ok (.bl b) S:=by
 rw [q9 h,g.pre];exact Q4z rfl
def Q3b {α:Type} (lt:α->α->Bool) (xs:List α):Bool:=(xs.zip (xs.drop 1)).all λz=>lt z.1 z.2
theorem Q96 {α:Type} {lt:α->α->Bool}:∀ {xs:List α},xs.Pairwise (λa b=>lt a b=zb)->Q3b lt xs=zb
 | [],_=>rfl
 | [_],_=>rfl
 | x :: y :: t,h=>by
  show (lt x y && Q3b lt (y :: t))=zb;rw [Q96 (L4.mp h).2,(L4.mp h).1 y (by simp)]; rfl
theorem Qkf (xs:List (Int × Str)) (U:xs.length<=1000) (st:Q0):Yy [.tup (xs.map prV)] st=.ok (.bl (Q3b Zh xs)) st:=by
 have G:cut (xs.map prV) (zo 1) zl=(xs.drop 1).map prV:=by
  rw [Qcf];exact congrArg _ (Q90 xs 1)
 have I:Jz (je (Ze (Qd 0) (Ze (Qd 1) jf))) Jy Uw [] (Yt [zl,zl] [zo (.tup (xs.map prV))]) ((xs.zip (xs.drop 1)).map λz=>.tup [prV z.1,prV z.2]) st=.ok (((xs.zip (xs.drop 1)).map λz=>Zh z.1 z.2).map .bl) st:=by
  rw [F9];exact X6 _ _ (by simp) λz hz=>⟨_,rfl,rfl⟩
 have J:Q3b Zh xs=((xs.zip (xs.drop 1)).map λz=>Zh z.1 z.2).all id:=by unfold Q3b; rw [bw]; rfl
 have q:(xs.map prV).length<=1000000:=by rw [O1]; omega
 rw [J];rw [<- Qev] at I;generalize ((xs.zip (xs.drop 1)).map λz=>Zh z.1 z.2)=bs at*
 generalize (xs.drop 1).map prV=ds,xs.map prV=O at*;simp! [Yy,J8,Km,G,q,jy,I]
theorem Qjb (xs:List α):(xs.map λ_=>zb).all id=zb:=by rw [bw,E9]; exact λ_ _=>rfl
theorem SdI.w {most:Int} {q:List Str} {G:List Str} (M:MI2 most q rs G ws) (I:SdI q.length G ws s):SdW q.length s:=⟨I.len,λx J=>M.sw x (I.st x J),λp O=>let ⟨a,b,c⟩:=I.sub p O; ⟨a,b,(M.lw _ c).1⟩,(I.so.and I.nd).imp λh=>((Q1d _ _).mp h.1).resolve_left h.2,E1 ((I.one M.n4).small M.w2) (by decide)⟩
theorem Qf9 {most:Int} {q:List Str} (W:SdW q.length s) (O:q.length<=4) (rules:List PV) (S:Q0):Yf [j8 most q rules,sdV s] S=.ok (.bl zb) S:=by
 refine Vw ?_;show Ut [zo (j8 most q rules),zo (sdV s),zl] S=_;have l1:(s.1.map PV.str).length=(q.map PV.str).length:=by rw [O1,O1,W.len]
 have l2:(q.map PV.str).length=q.length:=O1 _;have I:=Qkf s.2.1 (by have:=W.few; omega) S;rw [Q96 W.ri] at I;exact Q3 (Qi rfl) (Q3 (Z3 (U4 (Zj (b:=zb) (Qf (Q5 (n:=3) rfl rfl (U7 (xs:=[.tup (s.1.map .str),.tup (s.2.1.map prV),.int s.2.2]) (by simp) (by simp) S)))) (U4 (Zj (b:=zb) (Qf (Q5 (n:=3) rfl rfl (U7 (b:=((q.map PV.str).length:Nat)) (a:=((q.map PV.str).length:Nat)) (by rw [l1]; omega) (by rw [l1]; omega) S)))) (Zj (b:=zb) rfl))) rfl) (Q3 (Z3 (U4 (Zj (b:=zb) (Qf (Q3k (xs:=s.1) (g:=PV.str) (Jw rfl rfl (by rw [l1,l2]; omega)) λx J=>⟨_,rfl,Q5 (n:=1) rfl rfl (Q5b (W.w x J) S)⟩))) (Zj (b:=zb) (Qf (Q3k (xs:=s.2.1) (g:=prV) (Jw rfl rfl (by rw [O1]; have:=W.few; omega)) λp G=>⟨_,rfl,Q5 (n:=2) rfl rfl (Qpt (W.l p G).1 (by rw [l2]; exact (W.l p G).2.1) (W.l p G).2.2.1 (W.l p G).2.2.2 S)⟩)))) rfl) (Qn (Q0e (Q5 (n:=1) rfl rfl I) (Q5 (n:=1) rfl rfl (yf s.2.2 S))))))
theorem Qua {most:Int} {q:List Str} {G:List Str} (M:MI2 most q rs G ws) (W:SdW q.length s) (I:r∈rs) (S:Q0):Jc [ruV r,sdV s] S=.ok (.bl (fit r s)) S:=Qcb r (by rw [W.len]; exact (M.ru r I).h) s.2.1 s.2.2 S
theorem Qu9 {most:Int} {q:List Str} {G:List Str} (M:MI2 most q rs G ws) (W:SdW q.length s) (I:r∈rs) (S:Q0):J2 [ruV r,sdV s] S=.ok (sdV (stp r s)) S:=Qbe r (by rw [W.len]; exact (M.ru r I).h) (by have:=W.few; have:=(M.ru r I).ms; omega) s.2.2 S
theorem Qyb {most:Int} {q:List Str} {G:List Str} (M:MI2 most q rs G ws) (W:SdW q.length s) (I:r∈rs) (S:Q0):Qu [ruV r,sdV s] S=.ok (sdV (stp r s)) S:=
 Q1x r (by rw [W.len]; exact (M.ru r I).h) (by rw [W.len]; have:=M.n4; omega) (by have:=W.few; have:=(M.ru r I).ms; omega) s.2.2 S
def kys (xs:List Sd):List HK:=Zx (xs.map sdK)
theorem Qmr {xs:List Sd} {t:Sd}:sdK t∈kys xs <-> t∈xs:=by
 unfold kys Zx;rw [Q2p];constructor
 ·rintro (h | h)
  ·cases h
  ·obtain ⟨x,q,e⟩:=F1.mp h;rw [<- zi e]; exact q
 ·intro h;exact .inr (F1.mpr ⟨t,h,rfl⟩)
theorem Q0m {α:Type} [DecidableEq α]:∀ {ks acc:List α},acc.Nodup->(ks.foldl Ja acc).length=acc.length + ks.length->(acc ++ ks).Nodup
 | [],acc,h,_=>by simpa using h
 | k :: ks,acc,h,e=>by
  rw [F5,D4] at e
  by_cases q:k∈acc
  ·have G:Ja acc k=acc:=by unfold Ja; rw [bT q]
   rw [G] at e;have:=U0 ks acc;omega
  ·have G:Ja acc k=acc ++ [k]:=by unfold Ja; rw [bU q]
   have h1:=Qcp h k;rw [G] at e h1;have:=Q0m (ks:=ks) (acc:=acc ++ [k]) h1 (by rw [e,O6]; simp; omega);simpa using this
theorem Q1e (xs:List Sd):(kys xs).length=xs.length <-> xs.Nodup:=by
 constructor
 ·intro h;have:=Q0m (ks:=xs.map sdK) (acc:=[]) cx (by rw [show (xs.map sdK).foldl Ja []=kys xs from rfl,h]; simp);rw [fI] at this;exact (eD.mp this).imp λh e=>h (by rw [e])
 ·intro h;have:(xs.map sdK).Nodup:=Xh sdK h λx _ y _ e=>zi e
  unfold kys;rw [Qbt this,O1]
def clS (most:Int) (rs:List Ru) (xs:List Sd) (s:Sd):Bool:=decide (s.2.2<=most) && rs.all λr=>!fit r s || decide (stp r s∈xs)
def clB (most:Int) (starts:List Str) (rs:List Ru) (xs:List Sd):Bool:=decide (xs.length<=2000) && (decide xs.Nodup && (decide (((starts,[],0):Sd)∈xs) && xs.all (clS most rs xs)))
theorem Qc2 {xs:List Sd} (h:S[D]?=zo (.dtp (Qy (kys xs)))) (t:Sd) (q:Bool):ju q S (sdV t) (.ref D)=.ok (.bl (decide (t∈xs) != q)) S:=by
 have hd:Wf S (.ref D)=zo (Qy (kys xs)):=by show (match S[D]? with | some (.dtp G)=>zo G | _=>zl)=_; rw [h]
 unfold ju;rw [hd,K8];show Res.ok (PV.bl ((X9 (Qy (kys xs)) (sdK t)).isSome != q)) S=_;rw [Qf0,decide_eq_decide.mpr Qmr]
theorem Qhq {xs:List Sd} (h:S[D]?=zo (.dtp (Qy (kys xs)))) (G:xs.length < 1000000):K2 S [.ref D]=.ok (.int ((kys xs).length:Nat)) S:=by
 have hd:Wf S (.ref D)=zo (Qy (kys xs)):=by show (match S[D]? with | some (.dtp q)=>zo q | _=>zl)=_; rw [h]
 unfold K2;simp only [hd];have e:(Qy (kys xs)).length=(kys xs).length:=O1 _;have:=Vy (xs.map sdK);rw [O1] at this;rw [e,bT (show (kys xs).length < 1000000 from Nat.lt_of_le_of_lt this G)]
theorem Qnp (s:Sd) (g:Ru->Bool):((Q0a rs s.1 s.2.1).map λp=>g p.1).all id=rs.all λr=>!fit r s || g r:=by
 have e:((Q0a rs s.1 s.2.1).map λp=>g p.1)=(rs.filter (fit · s)).map g:=by
  rw [<- Q1i rs (fit · s) 0,F9];rfl
 rw [e,bw,List.all_filter];rfl
theorem Qek {most:Int} {G:List Str} {Y:List Str} (M:MI2 most G rs Y ws) (W:SdW G.length s) {xs:List Sd} (hD:S[D]?=zo (.dtp (Qy (kys xs)))):Y4 [mW M,.ref D,sdV s] S=.ok (.bl (clS most rs xs s)) S:=by
 unfold clS
 by_cases q:s.2.2<=most
 ·rw [bW q,bz];have hn:=Q2k (most:=most) M.one W.len s.2.1 s.2.2 S;obtain ⟨I,J⟩:∃ I,S ++ [Cell.lst (Qan rs s.1 s.2.1)]=I:=⟨_,rfl⟩;rw [J] at hn;have n1:I[S.length]?=zo (.lst (Qan rs s.1 s.2.1)):=by rw [<- J]; exact Z0 _ _
  have Z:Gw (λ_=>False) S I:=by rw [<- J]; exact Gw.add _ _ _
  have d1:=Z.at hD (λh=>h);have hc:Jz (Qd 0) Jy Wu [(S.length,.lst (Qan rs s.1 s.2.1))] [zl,zo (.ref D),zo (sdV s),mO M] ((Q0a rs s.1 s.2.1).map nV) I=.ok (((Q0a rs s.1 s.2.1).map λp=>decide (stp p.1 s∈xs)).map .bl) I:=by
   rw [F9];refine X6 nV (λp=>PV.bl (decide (stp p.1 s∈xs))) (qe n1) λp hp=>⟨_,rfl,?_⟩
   have hr:=(Qam hp).1;have O:=Qyb M W (E6 hr) I;have hi:=Qc2 d1 (stp p.1 s) yo;rw [dM] at hi;exact Q6 (Q5 (n:=2) (Qe (Q6 rfl rfl (rix hr I)) rfl) rfl O) rfl hi
  have O:=Q6t I ((Q0a rs s.1 s.2.1).map λp=>decide (stp p.1 s∈xs))
  rw [Qnp s (λr=>decide (stp r s∈xs))] at O
  have U:(Qan rs s.1 s.2.1).length<=1000000:=by
   unfold Qan Q0a;rw [O1];have:=fk (λp:Ru × Nat=>yh p.1 s.1 s.2.1) rs.zipIdx;rw [fm] at this;have:=M.len;omega
  refine Q99 (A:=I) ?_ Z;show W5 [mO M,zo (.ref D),zo (sdV s)] S=_;exact Q3 (Z3 (Qf (Q6 rfl rfl (jd S (by omega)))) rfl) (Qn (Jt (Qe (Uf (Vk (Jw (Q5 (n:=2) rfl rfl hn) (Xa n1) U) hc)) rfl) O))
 ·rw [bV q,L5];refine Q99 (A:=S) ?_ (Gw.refl _ _);show W5 [mO M,zo (.ref D),zo (sdV s)] S=_;exact Jn (Wd (Qf (Q6 rfl rfl (jc S (by omega)))) rfl)
theorem Qgt (xs:List Sd):xj (xs.map λs=>.tup [sdV s,.bl zb])=zo (Qy (xs.map sdK)):=by
 induction xs with
 | nil=>rfl
 | cons s xs q=>
  rw [D3,xj,K8,q];rfl
theorem Q7v (L:List HK):∀ K:List HK,qj (Qy K) (Qy L)=Qy (L.foldl Ja K):=by
 induction L with
 | nil=>intro K; rfl
 | cons k L q=>
  intro K;show qj (Sm.putT (Qy K) k (.bl zb)) (Qy L)=_;rw [Q7u,q];rfl
theorem Qhp {most:Int} {G:List Str} {a8:List Str} (M:MI2 most G rs a8 ws) (h:Man most G (rs.map ruV)) {V:PV} {xs:List Sd} (hV:FrAt S V xs) (hl:xs.length<=100000) (hW:∀ s∈xs,SdW G.length s):∃ S',yx [mW M,V] S=.ok (.bl (clB most G rs xs)) S'/\Gw (λ_=>False) S S':=by
 have h0:=Qbr h S;have src:∀ {A:Q0},Gw (λ_=>False) S A->∃ w,Yb A V=zo (xs.map sdV,w)/\wOk w A:=λ{A} g=>by
  rcases hV with rfl | ⟨B,rfl,h⟩
  ·exact ⟨[],rfl,J4 _⟩
  ·exact ⟨_,Xa (g.at h (λz=>z)),qe (g.at h (λz=>z))⟩
 have len:∀ {A:Q0},Gw (λ_=>False) S A->Jv A [V]=.ok (.int (xs.length:Nat)) A:=λ{A} g=>by
  rcases hV with rfl | ⟨B,rfl,h⟩
  ·show Res.ok (PV.int ((xs.map sdV).length:Nat)) A=_;rw [O1]
  ·rw [yr (g.at h (λz=>z)),O1]
 unfold clB
 by_cases q:xs.length<=2000
 ·rw [bW q,bz];obtain ⟨w,hs,hw⟩:=src (Gw.refl _ S);have U:=len (Gw.refl _ S);have Z:(xs.map sdV).length<=1000000:=by rw [O1]; omega
  have c1:Jz (Qd 0) Jy Q09 w [zl,mO M] (xs.map sdV) S=.ok ((xs.map λ_=>zb).map .bl) S:=by
   rw [F9];exact X6 sdV (λ_=>PV.bl zb) hw λs hs=>⟨_,rfl,Q5 (n:=2) rfl rfl (Qf9 (hW s hs) M.n4 _ S)⟩
  have b1:=Q6t S (xs.map λ_=>zb);rw [Qjb] at b1;have c2:Jz (Qd 0) Jy Q08 w [zl] (xs.map sdV) S=.ok (xs.map λs=>.tup [sdV s,.bl zb]) S:=X6 sdV (λs=>PV.tup [sdV s,.bl zb]) hw λs _=>⟨_,rfl,rfl⟩
  have a4:Q0d S [.lst (xs.map λs=>.tup [sdV s,.bl zb])]=.ok (.ref S.length) (S ++ [.dtp (Qy (kys xs))]):=by
   unfold Q0d;simp only [Qgt];have:(Qy (xs.map sdK)).length<=lim:=by rw [show (Qy (xs.map sdK)).length=(xs.map sdK).length from O1 _,O1,jy]; omega
   rw [bT this];show Res.ok (PV.ref S.length) (S ++ [Cell.dtp (qj (Qy []) (Qy (xs.map sdK)))])=_;rw [Q7v];rfl
  obtain ⟨I,Y⟩:∃ I,S ++ [Cell.dtp (Qy (kys xs))]=I:=⟨_,rfl⟩;rw [Y] at a4;have g1:Gw (λ_=>False) S I:=by rw [<- Y]; exact Gw.add _ _ _
  have d1:I[S.length]?=zo (.dtp (Qy (kys xs))):=by rw [<- Y]; exact Z0 _ _
  have a1:=len g1;have a2:=Qhq d1 (by omega);have a9:(kys xs).length<=xs.length:=by have:=Vy (xs.map sdK); rw [O1] at this; exact this
  have J:∀ r,(Q8 (Jf (Uz (toB (mOp oLt (Qj K2 (Q1 (Q2 2) Q4)) (Qj Jv (Q1 (Q2 1) Q4)))) (toB (mOp (ju zb) (Qb 1 Qz (Q1 (Q2 0) Q4)) (Q2 2)))) (Qq (mC (.bl yo))) Qs) (Qq (Qj (Xv λns=>.bl (ns.all id)) (Q1 (Yz (J5 [zl,zo 0,zo 2] (Qd 0) (Wr (Q2 1)) Jy qx)) Q4)))) [mO M,zo V,zo (.ref S.length)] I=r->Q1a [mO M,zo V,zl] S=r:=λr hr=>
   Q3 (Q6k (Q5 (n:=1) rfl rfl h0)) (Q3 (Z3 (U4 (Qf (Q6 (Jt rfl U) rfl (jd S (by omega)))) (Zj (b:=zb) (Qf (Jt (Qe (Uf (Vk (Jw rfl hs Z) c1)) rfl) b1)))) rfl) (Q3 (Qi (Jt (Qe (Uf (Vk (Jw rfl hs Z) c2)) rfl) a4)) hr))
  by_cases q2:xs.Nodup
  ·rw [bW q2,bz];have a5:=(Q1e xs).mpr q2;have O:=Qc2 d1 ((G,[],0):Sd) zb;have a3:toB (mOp oLt (Qj K2 (Q1 (Q2 2) Q4)) (Qj Jv (Q1 (Q2 1) Q4))) [mO M,zo V,zo (.ref S.length)] I=.ok yo I:=Qf (Q6 (Jt rfl a2) (Jt rfl a1) (Qwc I (by omega)))
   by_cases q3:((G,[],0):Sd)∈xs
   ·rw [bW q3] at O ⊢;rw [bz];obtain ⟨w',a7,a6⟩:=src g1;have c3:Jz (Qd 0) Jy qx w' [zl,mO M,zo (.ref S.length)] (xs.map sdV) I=.ok ((xs.map (clS most rs xs)).map .bl) I:=by
     rw [F9];exact X6 sdV (λs=>PV.bl (clS most rs xs s)) a6 λs hs=>⟨_,rfl,Q5 (n:=3) rfl rfl (Qek M (hW s hs) d1)⟩
    have b3:=Q6t I (xs.map (clS most rs xs));have e3:(xs.map (clS most rs xs)).all id=xs.all (clS most rs xs):=by rw [bw]; rfl
    rw [e3] at b3;exact ⟨I,Qk (J _ (Q3 (Z3 (U4 a3 (Qf (Q6 (Q5 (n:=1) rfl rfl (yt I)) rfl O))) rfl) (Qn (Jt (Qe (Uf (Vk (Jw rfl a7 Z) c3)) rfl) b3)))),g1⟩
   ·rw [bV q3] at O ⊢;exact ⟨I,Qk (J _ (Jn (Wd (U4 a3 (Qf (Q6 (Q5 (n:=1) rfl rfl (yt I)) rfl O))) rfl))),g1⟩
  ·rw [bV q2,L5];have a5:(kys xs).length≠xs.length:=λz=>q2 ((Q1e xs).mp z)
   exact ⟨I,Qk (J _ (Jn (Wd (Qgy (Qf (Q6 (Jt rfl a2) (Jt rfl a1) (Qwb I (by omega))))) rfl))),g1⟩
 ·rw [bV q,L5];have U:=len (Gw.refl _ S);exact ⟨S,Qk (show Q1a [mO M,zo V,zl] S=_ from Q3 (Q6k (Q5 (n:=1) rfl rfl h0)) (Jn (Wd (Qgy (Qf (Q6 (Jt rfl U) rfl (jc S (by omega))))) rfl))),Gw.refl _ _⟩
theorem Qiu {most:Int} {q:List Str} {rs:List Ru} {a1 ws:List Str} (M:MI2 most q rs a1 ws) {w:Wt} {D:Nat} (hw:∀ x∈w,x.1≠D) {V:PV} {c4:Option PV}:∀ (xs:List Sd) (ks:List HK) (A:Q0) (Y:Option PV),A[D]?=zo (.dtp (Qy ks))->wOk w A->ks.length + xs.length < 1000000 ->
  ∃ O I,Z2 (Qd 3) Wa w (xs.map sdV) [mO M,zo V,zo (.ref D),Y,c4] A=.nx [mO M,zo V,zo (.ref D),I,c4] O/\O[D]?=zo (.dtp (Qy ((xs.map sdK).foldl Ja ks)))/\Gw (λt=>t=D) A O
 | [],ks,A,Y,U,G,_=>⟨A,Y,Yd G,U,Gw.refl _ _⟩
 | s :: xs,ks,A,Y,U,G,hl=>by
  rw [D4] at hl;have J:=Q0b U (by omega) (K8 s);have Z:=(O2.mp U).1;have g1:Gw (λt=>t=D) A (A.set D (.dtp (Qy (Ja ks (sdK s))))):=Gw.put (P:=λt=>t=D) A rfl _;have:=Q9e ks (sdK s);obtain ⟨O,I,e,h1,h2⟩:=Qiu M hw (V:=V) (c4:=c4) xs (Ja ks (sdK s)) (A.set D (.dtp (Qy (Ja ks (sdK s))))) (zo (sdV s)) (E5 Z) (g1.w G hw) (by omega);exact ⟨O,I,J6 G rfl (Ws rfl rfl rfl J) e,h1,g1.trans h2⟩
theorem Qiw {most:Int} {I:List Str} {rs:List Ru} {a2 ws:List Str} (M:MI2 most I rs a2 ws) {D:Nat} {A:Q0} {xs:List Sd} (hD:A[D]?=zo (.dtp (Qy (kys xs)))) {V:PV} {s:Sd} (W:SdW I.length s):∀ (O:List Ru) (Z:Option PV),(∀ r∈O,r∈rs) ->
  ((O.all λr=>!fit r s || decide (stp r s∈xs))=zb/\∃ J,Z2 (Qd 4) Jk [] (O.map ruV) [mO M,zo V,zo (.ref D),zo (sdV s),Z] A=.nx [mO M,zo V,zo (.ref D),zo (sdV s),J] A) \/
  ((O.all λr=>!fit r s || decide (stp r s∈xs))=yo/\Z2 (Qd 4) Jk [] (O.map ruV) [mO M,zo V,zo (.ref D),zo (sdV s),Z] A=.rt (.bl yo) A)
 | [],Z,_=>.inl ⟨rfl,Z,Yd (J4 A)⟩
 | r :: O,Z,hr=>by
  have Y:=Qua M W (hr r (by simp)) A;have hs:=Qu9 M W (hr r (by simp)) A;have U:=Qc2 hD (stp r s) zb;have a1:∀ x∈O,x∈rs:=λx hx=>hr x (O4 _ hx)
  rw [cE];cases q:fit r s with
  | false=>
   rw [q] at Y;have G:Jk [mO M,zo V,zo (.ref D),zo (sdV s),zo (ruV r)] A=.nx [mO M,zo V,zo (.ref D),zo (sdV s),zo (ruV r)] A:=Z3 (Qja (Qf (Q5 (n:=2) rfl rfl Y))) rfl;rcases Qiw M hD (V:=V) W O (zo (ruV r)) a1 with ⟨h1,J,e⟩ | ⟨h1,e⟩
   ·exact .inl ⟨h1,J,J6 (J4 A) rfl G e⟩
   ·exact .inr ⟨h1,J6 (J4 A) rfl G e⟩
  | true=>
   rw [q] at Y
   by_cases q2:stp r s∈xs
   ·rw [bW q2] at U ⊢;have G:Jk [mO M,zo V,zo (.ref D),zo (sdV s),zo (ruV r)] A=.nx [mO M,zo V,zo (.ref D),zo (sdV s),zo (ruV r)] A:=Z3 (Q9d (Qf (Q5 (n:=2) rfl rfl Y)) (Qf (Q6 (Q5 (n:=2) rfl rfl hs) rfl U))) rfl;rcases Qiw M hD (V:=V) W O (zo (ruV r)) a1 with ⟨h1,J,e⟩ | ⟨h1,e⟩
    ·exact .inl ⟨h1,J,J6 (J4 A) rfl G e⟩
    ·exact .inr ⟨h1,J6 (J4 A) rfl G e⟩
   ·rw [bV q2] at U ⊢;exact .inr ⟨rfl,Xu (J4 A) rfl (Wd (Q9d (Qf (Q5 (n:=2) rfl rfl Y)) (Qf (Q6 (Q5 (n:=2) rfl rfl hs) rfl U))) rfl)⟩
theorem Qiv {most:Int} {G:List Str} {rs:List Ru} {a1 ws:List Str} (M:MI2 most G rs a1 ws) {D:Nat} {A:Q0} {xs:List Sd} (hD:A[D]?=zo (.dtp (Qy (kys xs)))) {V:PV} {w:Wt} (I:wOk w A):∀ (ys:List Sd) (Y O:Option PV),(∀ s∈ys,SdW G.length s) ->
  (ys.all (clS most rs xs)=zb/\∃ a2 a5,Z2 (Qd 3) Za w (ys.map sdV) [mO M,zo V,zo (.ref D),Y,O] A=.nx [mO M,zo V,zo (.ref D),a2,a5] A) \/
  (ys.all (clS most rs xs)=yo/\Z2 (Qd 3) Za w (ys.map sdV) [mO M,zo V,zo (.ref D),Y,O] A=.rt (.bl yo) A)
 | [],Y,O,_=>.inl ⟨rfl,Y,O,Yd I⟩
 | s :: ys,Y,O,hy=>by
  have W:=hy s (by simp);have U:(rs.map ruV).length<=1000000:=by rw [O1]; have:=M.len; omega
  rw [cE];unfold clS
  by_cases q:s.2.2<=most
  ·rw [bW q,bz];rcases Qiw M hD (V:=V) W rs O (λr hr=>hr) with ⟨h1,b4,e⟩ | ⟨h1,e⟩
   ·rw [h1,bz];have J:Za [mO M,zo V,zo (.ref D),zo (sdV s),O] A=.nx [mO M,zo V,zo (.ref D),zo (sdV s),b4] A:=Q3 (Z3 (Qf (Q6 rfl rfl (jd A (by omega)))) rfl) (Jr (Jw rfl rfl U) e);rcases Qiv M hD (V:=V) I ys (zo (sdV s)) b4 (λx hx=>hy x (O4 _ hx)) with ⟨k1,c3,c4,Z⟩ | ⟨k1,Z⟩
    ·exact .inl ⟨k1,c3,c4,J6 I rfl J Z⟩
    ·exact .inr ⟨k1,J6 I rfl J Z⟩
   ·rw [h1,L5];exact .inr ⟨rfl,Xu I rfl (Q3 (Z3 (Qf (Q6 rfl rfl (jd A (by omega)))) rfl) (Jr (Jw rfl rfl U) e))⟩
  ·rw [bV q,L5,L5];exact .inr ⟨rfl,Xu I rfl (Jn (Wd (Qf (Q6 rfl rfl (jc A (by omega)))) rfl))⟩
theorem Qej {most:Int} {G:List Str} {a9:List Str} (M:MI2 most G rs a9 ws) {V:PV} {xs:List Sd} (hV:FrAt S V xs) (hl:xs.length<=100000) (hW:∀ s∈xs,SdW G.length s):∃ S',Zq [mW M,V] S=.ok (.bl (clB most G rs xs)) S'/\Gw (λ_=>False) S S':=by
 have O:(xs.map sdV).length<=1000000:=by rw [O1]; omega
 have J:∀ {A:Q0},Gw (λt=>t=S.length) S A->FrAt A V xs:=λ{A} g=>by
  rcases hV with h | ⟨B,h,hB⟩
  ·exact .inl h
  ·exact .inr ⟨B,h,g.at hB (by have:=(O2.mp hB).1; omega)⟩
 have d0:(S ++ [Cell.dtp []])[S.length]?=zo (.dtp (Qy [])):=Z0 _ _;have g0:Gw (λt=>t=S.length) S (S ++ [Cell.dtp []]):=Gw.add _ _ _;obtain ⟨w,hs,hw,a6⟩:=(J g0).src d0;have Y:=hs [];rw [L1] at Y;obtain ⟨I,b3,e1,d1,g1⟩:=Qiu M a6 (V:=V) (c4:=zl) xs [] _ zl d0 hw (by simp; omega);have d1:I[S.length]?=zo (.dtp (Qy (kys xs))):=d1;have gA:=g0.trans g1;obtain ⟨w',a8,a7,_⟩:=(J gA).src d1;have a2:=a8 [];rw [L1] at a2;have U:Jv I [V]=.ok (.int (xs.length:Nat)) I:=by
  rcases J gA with rfl | ⟨B,rfl,h⟩
  ·show Res.ok (PV.int ((xs.map sdV).length:Nat)) I=_;rw [O1]
  ·rw [yr h,O1]
 have a5:=Qhq d1 (by omega);have b0:(kys xs).length<=xs.length:=by have:=Vy (xs.map sdK); rw [O1] at this; exact this
 have gg:Gw (λ_=>False) S I:=gA.mono λt ht z=>by omega
 have Z:=Qc2 d1 ((G,[],0):Sd) zb;unfold clB
 by_cases q2:xs.Nodup
 ·have a3:=(Q1e xs).mpr q2;have a1:toB (mOp oNe (Qj K2 (Q1 (Q2 2) Q4)) (Qj Jv (Q1 (Q2 1) Q4))) [mO M,zo V,zo (.ref S.length),b3,zl] I=.ok yo I:=Qf (Q6 (Jt rfl a5) (Jt rfl U) (by rw [a3]; exact Qw0 I _));rw [bW q2,bz]
  by_cases q:xs.length<=2000
  ·rw [bW q,bz];have a4:toB (mOp (oI λa b=>.bl (decide (b < a))) (Qj Jv (Q1 (Q2 1) Q4)) (mC (.int 2000))) [mO M,zo V,zo (.ref S.length),b3,zl] I=.ok yo I:=Qf (Q6 (Jt rfl U) rfl (jd I (by omega)))
   by_cases q3:((G,[],0):Sd)∈xs
   ·rw [bW q3] at Z ⊢;rw [bz];rcases Qiv M d1 (V:=V) a7 xs b3 zl hW with ⟨h1,c3,c4,e2⟩ | ⟨h1,e2⟩
    ·rw [h1];exact ⟨I,Qk (show Jq [mO M,zo V,zl,zl,zl] S=_ from Q3 (Qi rfl) (Q3 (Jr (Jw rfl Y O) e1) (Q3 (Z3 (U4 a1 (U4 a4 (Qf (Q6 (show _=Res.ok (sdV (G,[],0)) I from rfl) rfl Z)))) rfl) (Q3 (Jr (Jw rfl a2 O) e2) (Qn rfl))))),gg⟩
    ·rw [h1];exact ⟨I,Qk (show Jq [mO M,zo V,zl,zl,zl] S=_ from Q3 (Qi rfl) (Q3 (Jr (Jw rfl Y O) e1) (Q3 (Z3 (U4 a1 (U4 a4 (Qf (Q6 (show _=Res.ok (sdV (G,[],0)) I from rfl) rfl Z)))) rfl) (Jn (Jr (Jw rfl a2 O) e2))))),gg⟩
   ·rw [bV q3] at Z ⊢;exact ⟨I,Qk (show Jq [mO M,zo V,zl,zl,zl] S=_ from Q3 (Qi rfl) (Q3 (Jr (Jw rfl Y O) e1) (Jn (Wd (U4 a1 (U4 a4 (Qf (Q6 (show _=Res.ok (sdV (G,[],0)) I from rfl) rfl Z)))) rfl)))),gg⟩
  ·rw [bV q,L5];exact ⟨I,Qk (show Jq [mO M,zo V,zl,zl,zl] S=_ from Q3 (Qi rfl) (Q3 (Jr (Jw rfl Y O) e1) (Jn (Wd (U4 a1 (Qgy (Qf (Q6 (Jt rfl U) rfl (jc I (by omega)))))) rfl)))),gg⟩
 ·rw [bV q2,L5,fh];have a3:(kys xs).length≠xs.length:=λz=>q2 ((Q1e xs).mp z)
  exact ⟨I,Qk (show Jq [mO M,zo V,zl,zl,zl] S=_ from Q3 (Qi rfl) (Q3 (Jr (Jw rfl Y O) e1) (Jn (Wd (Qgy (Qf (Q6 (Jt rfl a5) (Jt rfl U) (Qvz I a3)))) rfl)))),gg⟩
theorem Qpr:∀ (k:Nat) (l:List Nat),l.length<=k->(∀ c∈l,c<=122)->l≠ba k 122->l < ba k 122
 | 0,[],_,_,h=>absurd rfl h
 | k + 1,[],_,_,_=>by rw [L7]; exact List.nil_lt_cons _ _
 | k + 1,c :: l,O,G,I=>by
  rw [L7] at I ⊢;rw [fj];have h1:=G c (by simp)
  by_cases q:c=122
  ·refine .inr ⟨q,Qpr k l (by simpa using O) (λx J=>G x (O4 _ J)) λz=>I (by rw [q,z])⟩
  ·exact .inl (by omega)
theorem Qjf (h:Zc x=zb) (hz:¬ x = "zzzzzzzz"):Vq x "zzzzzzzz" = zb:=by
 unfold Zc at h;simp only [E2,decide_eq_true_eq,E9] at h;obtain ⟨⟨h1,h2⟩,h3⟩:=h;unfold Vq;have e:("zzzzzzzz" : Str).cps.toList=ba 8 122:=by decide +kernel
 rw [e];refine bW (Qpr 8 _ ?_ (λc q=>?_) λz=>hz (Qbd (by rw [z,e])))
 ·have:x.length=x.cps.toList.length:=by show x.cps.size=_; simp
  omega
 ·have:=h3 c q;unfold Q4g at this;simp only [E2,decide_eq_true_eq] at this;omega
theorem Q18 {xs:List α} {l h:Option Int} {x:α} (q:x∈cut xs l h):x∈xs:=fS (iJ q)
theorem Ub (xs:List α) (l h:Option Int):(cut xs l h).length<=xs.length:=by unfold cut; rw [L6,cf]; omega
theorem slL {ma:ME} {q G:Gam->Q0->Res (Option Int)} {xs:List Sd} {lo hi:Option Int} (h1:ma Γ S=.ok (.lst (xs.map sdV)) S) (h2:q Γ S=.ok lo S) (I:G Γ S=.ok hi S):mSl ma q G Γ S=.ok (.lst ((cut xs lo hi).map sdV)) S:=by
 unfold mSl;rw [h1,Qp,h2,Qp,I,Qp];show Res.ok (PV.lst (cut (xs.map sdV) lo hi)) S=_;rw [Qcf]
theorem Qjq {most:Int} {G:List Str} {O:List Str} (M:MI2 most G rs O ws) (I:SdI G.length O ws s):SdW G.length (s.1,s.2.1,s.2.2 + 1)/\SdW G.length (s.1,s.2.1 ++ [((s.1.length:Int) - 1,("zzzzzzzz" : Str))],s.2.2)/\SdW G.length (s.1,[],s.2.2)/\SdW G.length (s.1.reverse,s.2.1,s.2.2):=by
 have W:=I.w M;have a5:=(I.one M.n4).small M.w2;refine ⟨⟨W.len,W.w,W.l,W.ri,W.few⟩,?_,⟨W.len,W.w,λp J=>(nomatch J),.nil,F7 _⟩,⟨by show s.1.reverse.length=_; rw [L9]; exact W.len,λx Z=>W.w x (im.mp Z),W.l,W.ri,W.few⟩⟩;have a4:=M.n1;refine ⟨W.len,W.w,λp J=>?_,?_,by show (s.2.1 ++ _).length<=20; rw [O6]; simp; omega⟩
 ·rcases D9.mp J with J | J
  ·exact W.l p J
  ·have:p=((s.1.length:Int) - 1,("zzzzzzzz" : Str)):=by simpa using J
   rw [this];have:=W.len;exact ⟨by show 0<=(s.1.length:Int) - 1; omega,by show (s.1.length:Int) - 1 < _; omega,show Zc "zzzzzzzz" = zb by decide +kernel,show Ky ["go", "fall"] "zzzzzzzz" = yo by decide +kernel⟩
 ·refine gz.mpr ⟨W.ri,by simp,λa Y b hb=>?_⟩;have:b=((s.1.length:Int) - 1,("zzzzzzzz" : Str)):=by simpa using hb
  rw [this];obtain ⟨a1,a2,U⟩:=I.sub a Y;rw [lexQ_is];have:=W.len
  by_cases q:a.1=(s.1.length:Int) - 1
  ·exact .inr ⟨q,Qjf (M.lw _ U).1.1 (M.lw _ U).2⟩
  ·exact .inl (by show a.1 < (s.1.length:Int) - 1; omega)
theorem Qp0 {most:Int} {G:List Str} {a3:List Str} (M:MI2 most G rs a3 ws) (T:TapeAt S L ns) {xs:List Sd} (h1:xs≠[]) (hl:xs.length<=1000) (hx:∀ s∈xs,SdI G.length a3 ws s) (V:PV):∃ (ys:List Sd) (S':Q0),ys.length<=2000/\(∀ s∈ys,SdW G.length s)/\TapeAt S' L ns/\Mw L S S'/\Yh [.ref L,V,.lst (xs.map sdV)] S=.ok (.lst (ys.map sdV)) S':=by
 have a6:(xs.map sdV).length=xs.length:=O1 _;have a8:1<=xs.length:=Nat.one_le_iff_ne_zero.mpr λz=>h1 (eW z)
 obtain ⟨k,S1,hk,T1,M1,e1⟩:=Js T (xs.map sdV).length (by omega) (by omega);obtain ⟨d,S2,hd,T2,M2,e2⟩:=Js T1 8 (by decide) (by decide);rw [a6] at hk;obtain ⟨s,hs⟩:∃ s,xs[k]?=zo s:=⟨_,O3 hk⟩;have a5:=E6 hs;have I:=hx s a5;have Z:∀ s∈xs,SdW G.length s:=λs hs=>(hx s hs).w M
 obtain ⟨w4,w5,w6,w7⟩:=Qjq M I;have a7:oIx S1 (.lst (xs.map sdV)) (.int (k:Int))=.ok (sdV s) S1:=Qae (by rw [D7,hs]; rfl) S1;have MM:=M1.w.trans M2.w;have O:∀ (ys:List Sd) (r:SR),(Q8 (Jf (toB (mOp oEq (Q2 7) (mC (.int 0)))) (Qq (mOp Qx (mSl (Q2 2) Zm (Zn (Q2 3))) (mSl (Q2 2) (Zn (mOp Qx (Q2 3) (mC (.int 1)))) Zm))) Qs)
  (Q8 (Jf (toB (mOp oEq (Q2 7) (mC (.int 1)))) (Qq (mOp Qx (Q2 2) (mSl (Q2 2) (Zn (Q2 3)) (Zn (mOp Qx (Q2 3) (mC (.int 1))))))) Qs)
  (Q8 (Jf (toB (mOp oEq (Q2 7) (mC (.int 2)))) (Qq (Yz (Q8d (Q2 2) (Q8e (mC (.int 1)))))) Qs)
  (Q8 (Jf (toB (mOp oEq (Q2 7) (mC (.int 3)))) (Qq (mSl (Q2 2) Zm (Zn (mOp Qx (Q2 3) (mC (.int 1)))))) Qs)
  (Q8 (Qr 8 (Vz (Q1 (Jh (Q1 (Q2 4) (Q1 (Q2 5) (Q1 (mOp Qx (Q2 6) (mC (.int 1))) Q4)))) (Q1 (Jh (Q1 (Q2 4) (Q1 (mOp Qx (Q2 5) (Jh (Q1 (Jh (Q1 (mOp (oI λa b=>.int (a - b)) (Qj Jv (Q1 (Q2 4) Q4)) (mC (.int 1))) (Q1 (mC (.str "zzzzzzzz")) Q4))) Q4))) (Q1 (Q2 6) Q4)))) Q4))))
  (Q8 (Qr 8 (mOp Qx (Q2 8) (Vz (Q1 (Jh (Q1 (Q2 4) (Q1 (Jh Q4) (Q1 (Q2 6) Q4)))) (Q1 (Jh (Q1 (Q4q (Q2 4) (Q8e (mC (.int 1)))) (Q1 (Q2 5) (Q1 (Q2 6) Q4)))) Q4)))))
  (Qq (mOp Qx (Q2 2) (Vz (Q1 (mOp oIx (Q2 8) (mOp (oI λa b=>.int (a - b)) (Q2 7) (mC (.int 4)))) Q4))))))))))
   [zo (.ref L),zo V,zo (.lst (xs.map sdV)),zo (.int (k:Int)),zo (.tup (s.1.map .str)),zo (.tup (s.2.1.map prV)),zo (.int s.2.2),zo (.int (d:Int)),zl] S2=r->Uv [zo (.ref L),zo V,zo (.lst (xs.map sdV)),zl,zl,zl,zl,zl,zl] S=r:=λ_ r hr=>
  Q3 (Qi (Q5 (n:=2) rfl rfl e1)) (Q3 (Qb2 (Q6 rfl rfl a7) rfl) (Q3 (Qi (Q5 (n:=2) rfl rfl e2)) hr))
 have a2:∀ Γ:Gam,Q2 3 Γ S2=.ok (.int (k:Int)) S2->Zn (Q2 3) Γ S2=.ok (zo (k:Int)) S2:=λΓ h=>by unfold Zn; rw [h]; rfl
 have Y:∀ Γ:Gam,Q2 3 Γ S2=.ok (.int (k:Int)) S2->Zn (mOp Qx (Q2 3) (mC (.int 1))) Γ S2=.ok (zo ((k:Int) + 1)) S2:=λΓ h=>by unfold Zn; rw [Q6 h rfl (Q6x S2 _ _)]; rfl
 have J:∀ j:Nat,oEq S2 (.int (d:Int)) (.int (j:Int))=.ok (.bl (decide (d=j))) S2:=λj=>by
  by_cases q:d=j
  ·rw [bW q]; exact Qij S2 (by omega)
  ·rw [bV q]; exact Qpv S2 (by omega)
 by_cases q0:d=0
 ·have e:=J 0;rw [bW q0] at e;refine ⟨cut xs zl (zo (k:Int)) ++ cut xs (zo ((k:Int) + 1)) zl,S2,?_,λt U=>?_,T2,MM,Qk (O [] _ (Jn (Wd (Qf (Q6 rfl rfl e)) (Qn (Q6 (slL rfl rfl (a2 _ rfl)) (slL rfl (Y _ rfl) rfl) ?_)))))⟩
  ·rw [O6]; have:=Ub xs zl (zo (k:Int)); have:=Ub xs (zo ((k:Int) + 1)) zl; omega
  ·rcases D9.mp U with U | U <;> exact Z t (Q18 U)
  ·rw [Qp4 S2 (by rw [O1,O1]; have:=Ub xs zl (zo (k:Int)); have:=Ub xs (zo ((k:Int) + 1)) zl; omega),E4]
 ·have n0:=J 0;rw [bV q0] at n0
  by_cases q1:d=1
  ·have e:=J 1;rw [bW q1] at e;refine ⟨xs ++ cut xs (zo (k:Int)) (zo ((k:Int) + 1)),S2,?_,λt U=>?_,T2,MM,Qk (O [] _ (Q3 (Z3 (Qf (Q6 rfl rfl n0)) rfl) (Jn (Wd (Qf (Q6 rfl rfl e)) (Qn (Q6 rfl (slL rfl (a2 _ rfl) (Y _ rfl)) ?_))))))⟩
   ·rw [O6]; have:=Ub xs (zo (k:Int)) (zo ((k:Int) + 1)); omega
   ·rcases D9.mp U with U | U
    ·exact Z t U
    ·exact Z t (Q18 U)
   ·rw [Qp4 S2 (by rw [O1,O1]; have:=Ub xs (zo (k:Int)) (zo ((k:Int) + 1)); omega),E4]
  ·have n1:=J 1;rw [bV q1] at n1
   by_cases q2:d=2
   ·have e:=J 2;rw [bW q2] at e;refine ⟨xs.reverse,S2,by rw [L9]; omega,λt U=>Z t (im.mp U),T2,MM,Qk (O [] _ (Q3 (Z3 (Qf (Q6 rfl rfl n0)) rfl) (Q3 (Z3 (Qf (Q6 rfl rfl n1)) rfl) (Jn (Wd (Qf (Q6 rfl rfl e)) (Qn (Uf ?_)))))))⟩;show Res.ok (xs.map sdV).reverse S2=_;rw [fo]
   ·have n2:=J 2;rw [bV q2] at n2
    by_cases q3:d=3
    ·have e:=J 3;rw [bW q3] at e;exact ⟨cut xs zl (zo ((k:Int) + 1)),S2,by have:=Ub xs zl (zo ((k:Int) + 1)); omega,λt U=>Z t (Q18 U),T2,MM,Qk (O [] _ (Q3 (Z3 (Qf (Q6 rfl rfl n0)) rfl) (Q3 (Z3 (Qf (Q6 rfl rfl n1)) rfl) (Q3 (Z3 (Qf (Q6 rfl rfl n2)) rfl) (Jn (Wd (Qf (Q6 rfl rfl e)) (Qn (slL rfl rfl (Y _ rfl)))))))))⟩
    ·have n3:=J 3;rw [bV q3] at n3;have a9:s.2.1.length<=20:=(I.w M).few;have a4:((s.1.map PV.str).length:Int)=(s.1.length:Int):=by rw [O1]
     obtain ⟨t,U,et⟩:∃ t,SdW G.length t/\oIx S2 (.lst [sdV (s.1,s.2.1,s.2.2 + 1),sdV (s.1,s.2.1 ++ [((s.1.length:Int) - 1,("zzzzzzzz" : Str))],s.2.2),sdV (s.1,[],s.2.2),sdV (s.1.reverse,s.2.1,s.2.2)]) (.int ((d:Int) - 4))=.ok (sdV t) S2:=by
      have:d=4\/d=5\/d=6\/d=7:=by omega
      rcases this with rfl | rfl | rfl | rfl
      ·exact ⟨_,w4,rfl⟩
      ·exact ⟨_,w5,rfl⟩
      ·exact ⟨_,w6,rfl⟩
      ·exact ⟨_,w7,rfl⟩
     have a1:Qx S2 (.tup (s.2.1.map prV)) (.tup [.tup [.int (((s.1.map PV.str).length:Int) - 1),.str "zzzzzzzz"]])=.ok (.tup ((s.2.1 ++ [((s.1.length:Int) - 1,("zzzzzzzz" : Str))]).map prV)) S2:=by
      rw [Qjc S2 (by rw [O1]; simp; omega),a4,E4];rfl
     have l1:Vz (Q1 (Jh (Q1 (Q2 4) (Q1 (Q2 5) (Q1 (mOp Qx (Q2 6) (mC (.int 1))) Q4)))) (Q1 (Jh (Q1 (Q2 4) (Q1 (mOp Qx (Q2 5) (Jh (Q1 (Jh (Q1 (mOp (oI λa b=>.int (a - b)) (Qj Jv (Q1 (Q2 4) Q4)) (mC (.int 1))) (Q1 (mC (.str "zzzzzzzz")) Q4))) Q4))) (Q1 (Q2 6) Q4)))) Q4)) [zo (.ref L),zo V,zo (.lst (xs.map sdV)),zo (.int (k:Int)),zo (.tup (s.1.map .str)),zo (.tup (s.2.1.map prV)),zo (.int s.2.2),zo (.int (d:Int)),zl] S2=.ok (.lst [sdV (s.1,s.2.1,s.2.2 + 1),sdV (s.1,s.2.1 ++ [((s.1.length:Int) - 1,("zzzzzzzz" : Str))],s.2.2)]) S2:=
      Q3h (Qe (Ug (Qe rfl (Qe rfl (Qe (Q6 rfl rfl (Q6x S2 _ _)) rfl))) (by simp)) (Qe (Ug (Qe rfl (Qe (Q6 rfl rfl a1) (Qe rfl rfl))) (by simp)) rfl)) (by simp)
     have l2:Vz (Q1 (Jh (Q1 (Q2 4) (Q1 (Jh Q4) (Q1 (Q2 6) Q4)))) (Q1 (Jh (Q1 (Q4q (Q2 4) (Q8e (mC (.int 1)))) (Q1 (Q2 5) (Q1 (Q2 6) Q4)))) Q4)) [zo (.ref L),zo V,zo (.lst (xs.map sdV)),zo (.int (k:Int)),zo (.tup (s.1.map .str)),zo (.tup (s.2.1.map prV)),zo (.int s.2.2),zo (.int (d:Int)),zo (.lst [sdV (s.1,s.2.1,s.2.2 + 1),sdV (s.1,s.2.1 ++ [((s.1.length:Int) - 1,("zzzzzzzz" : Str))],s.2.2)])] S2=.ok (.lst [sdV (s.1,[],s.2.2),sdV (s.1.reverse,s.2.1,s.2.2)]) S2:=by
      have hr:Q4q (Q2 4) (Q8e (mC (.int 1))) [zo (.ref L),zo V,zo (.lst (xs.map sdV)),zo (.int (k:Int)),zo (.tup (s.1.map .str)),zo (.tup (s.2.1.map prV)),zo (.int s.2.2),zo (.int (d:Int)),zo (.lst [sdV (s.1,s.2.1,s.2.2 + 1),sdV (s.1,s.2.1 ++ [((s.1.length:Int) - 1,("zzzzzzzz" : Str))],s.2.2)])] S2=.ok (.tup (s.1.reverse.map .str)) S2:=by
       show Res.ok (PV.tup (s.1.map PV.str).reverse) S2=_;rw [fo]
      exact Q3h (Qe rfl (Qe (Ug (Qe hr (Qe rfl (Qe rfl rfl))) (by simp)) rfl)) (by simp)
     refine ⟨xs ++ [t],S2,by rw [O6]; simp; omega,λy hy=>?_,T2,MM,Qk (O [] _ (Q3 (Z3 (Qf (Q6 rfl rfl n0)) rfl) (Q3 (Z3 (Qf (Q6 rfl rfl n1)) rfl) (Q3 (Z3 (Qf (Q6 rfl rfl n2)) rfl) (Q3 (Z3 (Qf (Q6 rfl rfl n3)) rfl) (Q3 (Qi l1) (Q3 (Qi (Q6 rfl l2 (Qp4 S2 (by simp)))) (Qn (Q6 rfl (Q3h (Qe (Q6 rfl rfl et) rfl) (by simp)) ?_)))))))))⟩
     ·rcases D9.mp hy with hy | hy
      ·exact Z y hy
      ·have:y=t:=by simpa using hy
       rw [this]; exact U
     ·rw [Qp4 S2 (by rw [O1]; simp; omega),E4];rfl
theorem Qtd {most:Int} {G:List Str} {Z:List Str} (M:MI2 most G rs Z ws) (hb:We rs most (lvs rs (G,[],0) N).2=zb) (ys:List Sd):clB most G rs ys=yo:=by
 cases z:clB most G rs ys with
 | false=>rfl
 | true=>
  unfold clB at z;simp only [E2,decide_eq_true_eq,E9] at z;obtain ⟨_,_,h0,hc⟩:=z;have J:∀ s∈ys,s.2.2<=most/\∀ r∈rs,fit r s=zb->stp r s∈ys:=λs hs=>by
   have:=hc s hs;unfold clS at this;simp only [E2,decide_eq_true_eq,E9] at this;refine ⟨this.1,λr U hf=>?_⟩;have:=this.2 r U;rw [hf] at this;simpa using this
  have Y:∀ i,∀ s∈(lvs rs (G,[],0) i).1,s∈ys:=by
   intro i
   induction i with
   | zero=>
    intro s hs;have:s=(G,[],0):=by simpa [lvs] using hs
    rw [this]; exact h0
   | succ i ih=>
    intro s hs;obtain ⟨ex,e,g1,_⟩:=Vn (nxt rs (lvs rs (G,[],0) i).2) (lvs rs (G,[],0) i).1 [];have e:lvs rs (G,[],0) (i + 1)=_:=e;rw [e] at hs;rcases D9.mp hs with hs | hs
    ·exact ih s hs
    ·obtain ⟨q,hq,hx⟩:=cm.mp (g1 s hs);obtain ⟨r,U,rfl⟩:=F1.mp hx;obtain ⟨O,I⟩:=cZ.mp U;exact (J q (ih q ((Xr M i).2.1 q hq))).2 r O I
  obtain ⟨s,hs,U⟩:=cX.mp hb;obtain ⟨r,O,I⟩:=cX.mp U;simp only [E2,decide_eq_true_eq] at I;have h1:=(J s (Y N s ((Xr M N).2.1 s hs))).2 r O I.1;have h2:(stp r s).2.2<=most:=(J _ h1).1;have h3:s.2.2 + r.u<=most:=h2;omega
theorem Qec (g:α->PV) {xs:List α} (I:Gam->Q0->Prop) {body:MS} (h:∀ x Γ st,x∈xs->I Γ st->∃ J,ga (g x) Γ=zo J/\∃ q G,I q G/\(body J st=.nx q G\/body J st=.bk q G)) (h0:I Γ st):∃ O st',Z2 ga body [] (xs.map g) Γ st=.nx O st'/\I O st':=by
 induction xs generalizing Γ st with
 | nil=>exact ⟨Γ,st,by simp [Z2],h0⟩
 | cons x xs ih=>
  obtain ⟨J,h1,q,G,i2,U⟩:=h x Γ st F3 h0;rcases U with U | U
  ·obtain ⟨O,st',Z,i'⟩:=ih (λy Γ st Y=>h y Γ st (O4 _ Y)) i2
   exact ⟨O,st',by simp [Z2,h1,U,Z],i'⟩
  ·exact ⟨q,G,by simp [Z2,h1,U],i2⟩
theorem Qn5 (h:mr Γ S=.ok ps S1) (q:ps.length<=1000000):Kt mr Γ S=.ok ps S1:=by
 unfold Kt;rw [h,Qp];exact bT q
def lsV (ys:List Sd):PV:=.lst (ys.map sdV)
theorem neb (S:Q0) (a b:Bool):oNe S (.bl a) (.bl b)=.ok (.bl (!(a == b))) S:=rfl
theorem Q8i {most:Int} {q:List Str} {rs:List Ru} {a2 ws:List Str} (M:MI2 most q rs a2 ws) (h:Man most q (rs.map ruV)) {bb:Bool} (hb:∀ ys,bb=zb->clB most q rs ys=yo) {w:Wt} {c0 c1 c2 c4 c5 c6 c7 c8:Option PV}:∀ (I:List (List Sd)) (A:Q0) (O J G:Option PV),(∀ ys∈I,ys.length<=2000/\∀ s∈ys,SdW q.length s)->wOk w A ->
  ∃ A' U Y Z,Z2 (Qd 10) Q6v w (I.map lsV) [c0,c1,c2,mO M,c4,c5,c6,c7,c8,zo (.bl bb),O,J,G] A=.nx [c0,c1,c2,mO M,c4,c5,c6,c7,c8,zo (.bl bb),U,Y,Z] A'/\Gw (λ_=>False) A A'
 | [],A,O,J,G,_,hw=>⟨A,O,J,G,Yd hw,Gw.refl _ _⟩
 | ys :: I,A,O,J,G,hy,hw=>by
  obtain ⟨hl,hW⟩:=hy ys (by simp);obtain ⟨A1,e1,g1⟩:=Qhp M h (S:=A) (V:=lsV ys) (.inl rfl) (by omega) hW;obtain ⟨A2,e2,g2⟩:=Qej M (S:=A1) (V:=lsV ys) (.inl rfl) (by omega) hW;have gg:=g1.trans g2;obtain ⟨A3,U,Y,Z,e3,g3⟩:=Q8i M h hb (w:=w) (c0:=c0) (c1:=c1) (c2:=c2) (c4:=c4) (c5:=c5) (c6:=c6) (c7:=c7) (c8:=c8) I A2 (zo (lsV ys)) (zo (lsV ys)) (zo (.bl (clB most q rs ys))) (λx hx=>hy x (O4 _ hx)) (gg.w hw λ_ _ z=>z)
  refine ⟨A3,U,Y,Z,?_,gg.trans g3⟩;rw [D3];have a1:oNe A2 (lsV ys) (lsV ys)=.ok (.bl yo) A2:=Qmn (Q7g ys) rfl;have a3:oNe A2 (.bl (clB most q rs ys)) (.bl (clB most q rs ys))=.ok (.bl yo) A2:=by rw [neb]; simp
  refine J6 hw rfl (Q3 (Qi (show _=Res.ok (lsV ys) A from rfl)) (Q3 (Qi (Q5 (n:=2) rfl rfl e1)) (Q3 (Z3 (U4 (Zj (b:=zb) rfl) (U4 (Qf (Q6 rfl (Q5 (n:=2) rfl rfl e2) a3)) (Qf (Q6 rfl rfl a1)))) rfl) (Z3 ?_ rfl)))) e3;cases bb with
  | false=>exact Qja rfl
  | true=>
   refine Q9d rfl ?_;have:=hb ys rfl;show toB (Q2 12) [c0,c1,c2,mO M,c4,c5,c6,c7,c8,zo (.bl zb),zo (lsV ys),zo (lsV ys),zo (.bl (clB most q rs ys))] A2=_;rw [this];rfl
theorem Qsq (ns:List Int):∃ S',Qha [zo (.fro (ns.map .int)),zl,zl,zl,zl,zl,zl,zl,zl,zl,zl,zl,zl] []=.rt (.bl zb) S':=by
 have T0:TapeAt [Cell.lst [.fro (ns.map .int),.int 0,.int 0]] 0 ns:=⟨0,0,rfl⟩;obtain ⟨d2,S1,e1,T1,x2,x3,x4,x5,x6,x7,x8,x9,d8,d5,e6,rfl⟩:=Qec (xs:=bY 3) (λ(i:Nat)=>PV.int ((0:Int) + (i:Int))) (λΓ A=>TapeAt A 0 ns/\∃ c2 c3 c4 c5 c6 c7 c8 c9 O Y U,Γ=[zo (.fro (ns.map .int)),zo (.ref 0),c2,c3,c4,c5,c6,c7,c8,c9,O,Y,U])
  (ga:=Qd 2) (body:=Q1h) (λx Γ A _ ⟨T,c2,c3,c4,c5,c6,c7,c8,c9,O,Y,U,a3⟩=>by
   subst a3;refine ⟨_,rfl,?_⟩;have hT:=T;obtain ⟨p,c,eS⟩:=T;obtain ⟨_,i1,_⟩:=Q13 eS
   by_cases q:(1:Int) < (0:Int) + (x:Int)/\((ns.map PV.int).length:Int)<=(p:Int)
   ·refine ⟨[zo (.fro (ns.map .int)),zo (.ref 0),zo (.int ((0:Int) + (x:Int))),c3,c4,c5,c6,c7,c8,c9,O,Y,U],A,⟨hT,_,_,_,_,_,_,_,_,_,_,_,rfl⟩,.inr ?_⟩;unfold Q1h;have h1:(zh (toB (mOp (oI λa b=>.bl (decide (b < a))) (Q2 2) (mC (.int 1)))) (toB (mOp (oI λa b=>.bl (decide (b<=a))) (mOp oIx (Q2 1) (mC (.int 1))) (Qj Jv (Q1 (Q2 0) Q4))))) [zo (.fro (ns.map .int)),zo (.ref 0),zo (.int ((0:Int) + (x:Int))),c3,c4,c5,c6,c7,c8,c9,O,Y,U] A=.ok zb A:=
     Q9d (Qf (Q6 rfl rfl (jc A q.1))) (Qf (Q6 (Q6 rfl rfl i1) rfl (by show Res.ok (PV.bl (decide _)) A=_; rw [bW q.2])))
    show Q8 _ _ [zo (.fro (ns.map .int)),zo (.ref 0),zo (.int ((0:Int) + (x:Int))),c3,c4,c5,c6,c7,c8,c9,O,Y,U] A=_;rw [Ks,Wd h1 (show Qa8 _ A=.bk _ A from rfl)]
   ·have h1:(zh (toB (mOp (oI λa b=>.bl (decide (b < a))) (Q2 2) (mC (.int 1)))) (toB (mOp (oI λa b=>.bl (decide (b<=a))) (mOp oIx (Q2 1) (mC (.int 1))) (Qj Jv (Q1 (Q2 0) Q4))))) [zo (.fro (ns.map .int)),zo (.ref 0),zo (.int ((0:Int) + (x:Int))),c3,c4,c5,c6,c7,c8,c9,O,Y,U] A=.ok yo A:=by
     by_cases q1:(1:Int) < (0:Int) + (x:Int)
     ·exact Q9d (Qf (Q6 rfl rfl (jc A q1))) (Qf (Q6 (Q6 rfl rfl i1) rfl (by show Res.ok (PV.bl (decide _)) A=_; rw [bV (λh=>q ⟨q1,h⟩)])))
     ·exact Qja (Qf (Q6 rfl rfl (jd A q1)))
    obtain ⟨most,I,rules,A1,hM,T1,M1,e1⟩:=Qdx hT;obtain ⟨rs,d1,ws,rfl,M⟩:=Qse hM;obtain ⟨N,hN,hS,a6⟩:=Qut M;obtain ⟨d,Z,e2,g2,G,hD,hG,hd⟩:=Qe3 M hN hS a6 A1;have T2:=g2.tape T1 (λh=>h);have b6:=GoodL.few M hG;obtain ⟨xs,a1⟩:∃ xs,G.map (·.1)=xs:=⟨_,rfl⟩;have d6:xs.length<=576:=by rw [<- a1,O1]; exact b6
    have a4:∀ s∈xs,SdI I.length d1 ws s:=λs hs=>(hG.is s (by rw [a1]; exact hs)).1
    have a5:∀ s∈xs,SdW I.length s:=λs hs=>(a4 s hs).w M
    have b5:xs≠[]:=by rw [<- a1]; exact λz=>hG.ne (List.map_eq_nil_iff.mp z)
    have d0:U1 Z [.ref A1.length]=.ok (lsV xs) Z:=by
     unfold U1;simp only [Q38 nI hD];show Res.ok (PV.lst ((J9 nI G).map λ(kv:HK × PV)=>hkV kv.1)) Z=_
     unfold J9 lsV;rw [F9,<- a1,F9];congr 2;exact L8 λx _=>Qhy x.1
    have b8:mSl (Q2 6) Zm (Zn (mC (.int 1))) [zo (.fro (ns.map .int)),zo (.ref 0),zo (.int ((0:Int) + (x:Int))),mO M,zo (.ref A1.length),zo (.int (d:Int)),zo (lsV xs),c7,c8,c9,O,Y,U] Z=.ok (lsV (cut xs zl (zo 1))) Z:=slL rfl rfl rfl;have hL:Z.length≠0:=by have:=T2.lt; omega
    obtain ⟨d4,A3,e3,T3,M3,J,cL,a9,a2,a8,rfl⟩:=Q34 (xs:=bY 4) (λ(i:Nat)=>PV.int ((0:Int) + (i:Int))) (λi Γ B=>TapeAt B 0 ns/\Z.length < B.length/\∃ J:List (List Sd),B[Z.length]?=zo (.lst (J.map lsV))/\J.length<=3 + i/\(∀ ys∈J,ys.length<=2000/\∀ s∈ys,SdW I.length s)/\∃ a8,Γ=[zo (.fro (ns.map .int)),zo (.ref 0),zo (.int ((0:Int) + (x:Int))),mO M,zo (.ref A1.length),zo (.int (d:Int)),zo (lsV xs),zo (.ref Z.length),a8,c9,O,Y,U])
     (ga:=Qd 8) (body:=Q6w) (w:=[]) (λ_ _ B _=>J4 B) (λi y Γ B hy ⟨TB,lB,J,cB,a9,a2,a8,a3⟩=>by
      subst a3;have d7:i < 4:=by have:=(O2.mp hy).1; rwa [F2] at this
      obtain ⟨zs,B1,b9,b3,b4,MB,eb⟩:=Qp0 M TB b5 (by omega) a4 (mW M);have b2:B1[Z.length]?=zo (.lst (J.map lsV)):=by rw [MB.keep _ hL lB]; exact cB
      have a7:Z.length < B1.length:=(O2.mp b2).1;refine ⟨_,rfl,_,B1.set Z.length (.lst ((J ++ [zs]).map lsV)),Q3j (xs:=J.map lsV) rfl (W6 cB) (Qe (Q5 (n:=3) rfl rfl eb) rfl) (by rw [yu b2 (by rw [O1]; omega),E4]; rfl),b4.put hL _,by rw [G7]; exact a7,J ++ [zs],E5 a7,by rw [O6]; simp; omega,λys hy=>?_,_,rfl⟩;rcases D9.mp hy with hy | hy
      ·exact a2 ys hy
      ·have:ys=zs:=by simpa using hy
       rw [this]; exact ⟨b9,b3⟩)
     (Γ:=[zo (.fro (ns.map .int)),zo (.ref 0),zo (.int ((0:Int) + (x:Int))),mO M,zo (.ref A1.length),zo (.int (d:Int)),zo (lsV xs),zo (.ref Z.length),c8,c9,O,Y,U]) (st:=Z ++ [.lst [lsV xs,lsV [],lsV (cut xs zl (zo 1))]])
     ⟨T2.add _,by simp,[xs,[],cut xs zl (zo 1)],Z0 _ _,by simp,λys hy=>by
      simp only [D5,dJ,or_false] at hy;rcases hy with rfl | rfl | rfl
      ·exact ⟨by omega,a5⟩
      ·exact ⟨by simp,λs hs=>(nomatch hs)⟩
      ·exact ⟨by have:=Ub xs zl (zo 1); omega,λs hs=>a5 s (Q18 hs)⟩,c8,rfl⟩
    obtain ⟨v,A4,e4,g4,ht⟩:=Qf6 M hM hN hS a6 A3;have T4:=g4.tape T3 (λh=>h);have b1:=g4.at cL (λh=>h);obtain ⟨bb,b0,hv⟩:∃ bb,bb=We rs most (lvs rs (I,[],0) N).2/\mOp oEq (mOp oIx (Qb 1 j4 (Q1 (Q2 3) Q4)) (mC (.int 0))) (mC (.str "breaks")) [zo (.fro (ns.map .int)),zo (.ref 0),zo (.int ((0:Int) + (x:Int))),mO M,zo (.ref A1.length),zo (.int (d:Int)),zo (lsV xs),zo (.ref Z.length),a8,c9,O,Y,U] A3=.ok (.bl bb) A4:=by
     rcases ht with ⟨hb,R,ks,n,r,s,rfl,_⟩ | ⟨hb,R,rfl,_⟩
     ·exact ⟨zb,hb.symm,Q6 (Q6 (Q5 (n:=1) rfl rfl e4) rfl rfl) rfl (Qii A4 "breaks")⟩
     ·exact ⟨yo,hb.symm,Q6 (Q6 (Q5 (n:=1) rfl rfl e4) rfl rfl) rfl (Qcd A4 (by decide))⟩
    have b7:oNe A4 (.bl bb) (.bl (decide ((0:Int) < (d:Int))))=.ok (.bl yo) A4:=by
     rw [neb,b0];rcases hd with ⟨h1,h2⟩ | ⟨h1,h2,_⟩
     ·rw [h1,h2,bW (by omega)]; rfl
     ·rw [h1,h2]; rfl
    obtain ⟨A5,d3,d9,e0,e5,g5⟩:=Q8i M hM (bb:=bb) (λys z=>Qtd M (by rw [<- b0]; exact z) ys) (w:=[(Z.length,.lst (J.map lsV))]) (c0:=zo (.fro (ns.map .int))) (c1:=zo (.ref 0)) (c2:=zo (.int ((0:Int) + (x:Int)))) (c4:=zo (.ref A1.length)) (c5:=zo (.int (d:Int))) (c6:=zo (lsV xs)) (c7:=zo (.ref Z.length)) (c8:=a8) J A4 O Y U a2 (qe b1)
    rw [F2] at a9;exact ⟨_,A5,⟨g5.tape T4 (λh=>h),_,_,_,_,_,_,_,_,_,_,_,rfl⟩,.inl (Q3 (Z3 h1 rfl) (Q3 (Qi (Q5 (n:=1) rfl rfl e1)) (Q3 (Qb2 (Q5 (n:=1) rfl rfl e2) rfl) (Q3 (Qi (Jt rfl d0)) (Q3 (Qi (Vp (Qn5 (Qe rfl (Qe rfl (Qe b8 rfl))) (by simp)))) (Q3 (Jr (Qpc (n:=4) (by decide) rfl) e3) (Q3 (Qi hv) (Q3 (Z3 (Qf (Q6 rfl rfl b7)) rfl) (Jr (Jw rfl (Xa b1) (by rw [O1]; omega)) e5)))))))))⟩)
  (Γ:=[zo (.fro (ns.map .int)),zo (.ref 0),zl,zl,zl,zl,zl,zl,zl,zl,zl,zl,zl]) (st:=[Cell.lst [.fro (ns.map .int),.int 0,.int 0]])
  ⟨T0,zl,zl,zl,zl,zl,zl,zl,zl,zl,zl,zl,rfl⟩
 exact ⟨S1,Q3 (Qi (Vp rfl)) (Q3 (Jr (Qpc (n:=3) (by decide) rfl) e1) (Qn rfl))⟩
theorem Qn8:∀ ns:List Int,ns.length<=63->∃ st',Qcs [.fro (ns.map .int)] []=.ok (.bl zb) st':=λns _=>by
 obtain ⟨q,e⟩:=Qsq ns;have:=q9 (nl:=13) (ps:=[.fro (ns.map .int)]) e;refine ⟨[],?_⟩;unfold Qcs;rw [this];unfold fin;rw [bT (List.nil_prefix)];simp [fz,okO]
theorem all_mk {l:fL} {w:aJ} {h:Heap} {fa f1 f2 f3 f4 f5 f6 f7 f8 f9 q7 r9 u6 s3 r5 s0 q3 q4 p0 s2 u8 u1 u7 r1 q2 u9 r4 t4 p1 t5 p8 s9 p6 r8 t8 r0 k7:aB} (X:K.In h) (G:h.Ns aV mg) (s6:mg "law" = zo (.ref fa))
  {n5 j0:Option aB} {n6:Array (Option aA)} {o4 j3 j1 j5 i3 j2:aA}
  {c7 d4:aB}
  {b1:Tok}
  {e0:Tok}
  {d5:Tok}
  {e2:Tok}
  {b8:Tok}
  {a6:Tok}
  {d7:Tok}
  {I:aB} {Y U:Tok} {a2:Nat} {a1:Array (Option aA)}
  (o2:bg K aV "law" = zo (zo (.ref k7)))
  (t9:K.lookup k7=zo ⟨o4,n5,.func (br "law" "law" (Y8 zj) (Z1 zj) (Q7 zj) .none j3 j1 j5 j0 i3 j2),n6⟩)
  (t6:cu K i3 "law" = zb)
  (u4:cb K (.ref k7)=zb)
  (k4:bg K aV "all" = zo zl)
  (i7:bg K aV "bool" = zo zl)
  (i8:bg K aV "dict" = zo zl)
  (e6:bg K aV "enumerate" = zo zl)
  (k0:bg K aV "int" = zo zl)
  (e4:bg K aV "isinstance" = zo zl)
  (k3:bg K aV "len" = zo zl)
  (i9:bg K aV "list" = zo zl)
  (i6:bg K aV "range" = zo zl)
  (f0:bg K aV "reversed" = zo zl)
  (k5:bg K aV "set" = zo zl)
  (g8:bg K aV "sorted" = zo zl)
  (k6:bg K aV "str" = zo zl)
  (i5:bg K aV "tuple" = zo zl)
  (k8:bg K aV "zip" = zo zl)
  (b0:bg K aV "MOST_SIGNS_OF_WORD" = zo (zo (.int 8 b1)))
  (d9:bg K aV "MOST_STOCK" = zo (zo (.int 20 e0)))
  (d1:bg K aV "MOST_STARTS" = zo (zo (.int 4 d5)))
  (e5:bg K aV "MOST_RULES" = zo (zo (.int 60 e2)))
  (b7:bg K aV "MOST_USE_AT_ONCE" = zo (zo (.int 9 b8)))
  (a5:bg K aV "MOST_LETTERS_OF_RULE" = zo (zo (.int 8 a6)))
  (d8:bg K aV "MOST_STANDS" = zo (zo (.int 2000 d7)))
  (Z:bg K aV "EVENTS_WITHOUT_LETTER" = zo (zo (.ref I)))
  (a3:K.lookup I=zo ⟨.type "tuple",zl,.seq #[.str "go" Y,.str "fall" U] a2,a1⟩)
  (g0:bg K aV "NoManner" = zo (zo (.ref c7)))
  (g5:bg K aV "TooMany" = zo (zo (.ref d4)))
  (h1:FA K "is_whole" jq f1)
  (h2:FA K "is_between" Xc f2)
  (h3:FA K "is_rising" Ka f3)
  (h4:FA K "is_sized_tuple" Wj f4)
  (h5:FA K "is_word" xf f5)
  (h6:FA K "is_letter" Kc f6)
  (h7:FA K "are_letters_of_rule" Zr f7)
  (h8:FA K "is_rule" xg f8)
  (h9:FA K "are_rules" Kf f9)
  (q1:FA K "are_starts" Xd q7)
  (q8:FA K "is_manner" Kb r9)
  (u2:FA K "need_manner" Uh u6)
  (p5:FA K "beginning" Ke s3)
  (s8:FA K "may_be_done" Ui r5)
  (t0:FA K "numbers_that_may" Yq s0)
  (r3:FA K "stand_behind" Vs q3)
  (p7:FA K "run_to" Q1z q4)
  (r7:FA K "breaking_step" V9 p0)
  (o9:FA K "further_stands" Wk s2)
  (o8:FA K "walked" Q1y u8)
  (o7:FA K "tried" Q5i u1)
  (r2:FA K "is_stand_of" Uj u7)
  (o6:FA K "is_closed_at" Vt r1)
  (u3:FA K "keeps" Q5j q2)
  (r6:FA K "_law_e_stirred" Wm u9)
  (p3:FA K "_law_e_digit" Vu r4)
  (s7:FA K "_law_e_name" Up t4)
  (q5:FA K "_law_e_letter_name" Zw p1)
  (p9:FA K "_law_e_rule" Um t5)
  (s5:FA K "_law_e_manner" Va p8)
  (q6:FA K "_law_e_fits" Uq s9)
  (q0:FA K "_law_e_step" Uk p6)
  (p4:FA K "_law_e_levels" Vb r8)
  (u5:FA K "_law_e_closed" Vc t8)
  (t7:FA K "_law_e_bent" Ur r0)
  (g3:cO K c7 Q9b "ValueError.__new__" = zb)
  (g4:cO K d4 Q9b "ValueError.__new__" = zb)
  (hL:noL K=zb) :
  ∃ fd:aP,(∀ (s:aC) (v:aA),BindsTo s fd ⟨[v],[]⟩ [("script",v)])/\∀ base:Heap,K.In base->base.Ns aV mg->FnOk l.prog w K mg base (CXD l.prog w) 10 fa fd ["script"] (Q5f K):=by
 have e:=s6.symm.trans (bx X G o2);cases e;have T:Txt K mg:=⟨bt X G k4,bt X G i7,bt X G i8,bt X G e6,bt X G k0,bt X G e4,bt X G k3,bt X G i9,bt X G i6,bt X G f0,bt X G k5,bt X G g8,bt X G k6,bt X G i5,bt X G k8,⟨_,bx X G b0⟩,⟨_,bx X G d9⟩,⟨_,bx X G d1⟩,⟨_,bx X G e5⟩,⟨_,bx X G b7⟩,⟨_,bx X G a5⟩,⟨_,bx X G d8⟩,⟨_,_,_,_,bx X G Z,a3,rfl,rfl,(by show 2<=sizeLine; decide),.cons ⟨_,rfl⟩ (.cons ⟨_,rfl⟩ (.nil))⟩⟩
 have g1:∃ C,mg "NoManner" = zo (.ref C)/\cO K C Q9b "ValueError.__new__" = zb:=⟨_,bx X G g0,g3⟩;have g6:∃ C,mg "TooMany" = zo (.ref C)/\cO K C Q9b "ValueError.__new__" = zb:=⟨_,bx X G g5,g4⟩;obtain ⟨_,A1⟩:=Y1 ["thing"] X G h1;obtain ⟨_,A2⟩:=Y1 ["thing", "least", "most"] X G h2;obtain ⟨_,A3⟩:=Y1 ["things"] X G h3;obtain ⟨_,A4⟩:=Y1 ["thing", "least", "most"] X G h4;obtain ⟨_,A5⟩:=Y1 ["thing"] X G h5;obtain ⟨_,A6⟩:=Y1 ["n", "thing"] X G h6;obtain ⟨_,A7⟩:=Y1 ["n", "thing"] X G h7;obtain ⟨_,A8⟩:=Y1 ["n", "thing"] X G h8;obtain ⟨_,A9⟩:=Y1 ["n", "thing"] X G h9;obtain ⟨_,m7⟩:=Y1 ["thing"] X G q1;obtain ⟨_,m5⟩:=Y1 ["thing"] X G q8;obtain ⟨_,n2⟩:=Y1 ["manner"] X G u2;obtain ⟨_,l0⟩:=Y1 ["manner"] X G p5;obtain ⟨_,l8⟩:=Y1 ["rule", "stand"] X G s8;obtain ⟨_,l5⟩:=Y1 ["manner", "stand"] X G t0
 obtain ⟨_,m9⟩:=Y1 ["rule", "stand"] X G r3;obtain ⟨_,o3⟩:=Y1 ["found", "stand"] X G p7;obtain ⟨_,l3⟩:=Y1 ["manner", "stands"] X G r7;obtain ⟨_,m3⟩:=Y1 ["manner", "found", "stands"] X G o9;obtain ⟨_,o0⟩:=Y1 ["manner"] X G o8;obtain ⟨_,l7⟩:=Y1 ["manner"] X G o7;obtain ⟨_,m6⟩:=Y1 ["manner", "thing"] X G r2;obtain ⟨_,n7⟩:=Y1 ["manner", "among", "stand"] X G o6;obtain ⟨_,l6⟩:=Y1 ["manner", "stands"] X G u3;obtain ⟨_,k9⟩:=Y1 ["cell", "place"] X G r6;obtain ⟨_,n9⟩:=Y1 ["tape", "many"] X G p3;obtain ⟨_,n8⟩:=Y1 ["tape"] X G s7;obtain ⟨_,m8⟩:=Y1 ["tape"] X G q5;obtain ⟨_,l9⟩:=Y1 ["tape", "n", "states", "names"] X G p9;obtain ⟨_,m2⟩:=Y1 ["tape"] X G s5;obtain ⟨_,m4⟩:=Y1 ["rule", "stand"] X G q6;obtain ⟨_,n0⟩:=Y1 ["rule", "stand"] X G q0;obtain ⟨_,n3⟩:=Y1 ["manner"] X G p4;obtain ⟨_,l4⟩:=Y1 ["manner", "stands"] X G u5;obtain ⟨_,o1⟩:=Y1 ["tape", "manner", "stands"] X G t7
 have o5:=Qth (st:=zj) (ps:=["script"]) X G o2 t9 t6 u4 λ_ _ _ _ _ _ us hl=>match us,hl with | [_],_=>rfl
 refine ⟨br "law" "law" (Y8 zj) (Z1 zj) (Q7 zj) .none j3 j1 j5 j0 i3 j2,λs v=>.of_eq rfl,λbase kb nb=>?_⟩;have c8:=A1.d l.prog w base rfl (Q82 A1.F T    );have a4:=A2.d l.prog w base rfl (Q3z A2.F T   c8 );have e9:=A3.d l.prog w base rfl (Q5v A3.F T    );have q:=A4.d l.prog w base rfl (zr A4.F T    );have a8:=A5.d l.prog w base rfl (Qa0 A5.F T    );have b9:=A6.d l.prog w base rfl (Q5x A6.F T   q a4 a8 );have a7:=A7.d l.prog w base rfl (Xg A7.F T   q b9 );have g7:=A8.d l.prog w base rfl (Qa1 A8.F T   q a4 a8 a7 );have e7:=A9.d l.prog w base rfl (Q5z A9.F T   q g7 );have e1:=m7.d l.prog w base rfl (Q40 m7.F T   q a8 )
 have e8:=m5.d l.prog w base rfl (Q5w m5.F T   q a4 e1 e7 );have b4:=n2.d l.prog w base rfl (Q2c n2.F T  g1 e8 );have c2:=l0.d l.prog w base rfl (Q5y l0.F T    );have d0:=l8.d l.prog w base rfl (Q2d l8.F T    );have J:=l5.d l.prog w base rfl (j7 l5.F T   d0 );have a9:=m9.d l.prog w base rfl (Q0v m9.F T    );have h0:=o3.d l.prog w base rfl (Qdr o3.F T    );have c5:=l3.d l.prog w base rfl (xm l3.F T   J );have c1:=m3.d l.prog w base rfl (zt m3.F T  g6 J a9 );have g9:=o0.d l.prog w base rfl (Qdq o0.F T   c2 c5 h0 c1 );have i4:=l7.d l.prog w base rfl (Qh3 l7.F T   b4 g9 );have d3:=m6.d l.prog w base rfl (Q2e m6.F T   q a8 b9 e9 c8 )
 have c9:=n7.d l.prog w base rfl (Q0w n7.F T   J a9 );have i0:=l6.d l.prog w base rfl (Qh4 l6.F T   b4 d3 c2 c9 );have c0:=k9.d l.prog w base rfl (zu k9.F T    );have O:=n9.d l.prog w base rfl (Q0x n9.F T   c0 );have b6:=n8.d l.prog w base rfl (Q2h n8.F T   O );have b2:=m8.d l.prog w base rfl (K4 m8.F T   b6 );have d2:=l9.d l.prog w base rfl (Q2g l9.F T   O );have c4:=m2.d l.prog w base rfl (xn m2.F T   O b6 b2 d2 );have b3:=m4.d l.prog w base rfl (Q2i m4.F T    );have b5:=n0.d l.prog w base rfl (Q2f n0.F T    );have c3:=n3.d l.prog w base rfl (xq n3.F T   b3 b5 )
 have c6:=l4.d l.prog w base rfl (xr l4.F T   b3 b5 );have d6:=o1.d l.prog w base rfl (Q2j o1.F T   O );exact Qn7 hL (Qs9 o5.F T   c4 c3 d6 i4 i0 c6 ) Qn8
end Lw
namespace PySem.W.Fast
local macro_rules|`(command|open $n*)=>return Lean.mkNullNode (<-n.mapM λn=>`(command|theorem $n:ident:True:=trivial))
open tw3261809981365483968 tw12979243328200734763 tw15469282864428031177 tw12112829162548589867 tw1458943789850078776 tw14429040455015595446 tw4997083570123369411 tw6934374431179677916 te8565931183455429348 te11071628282741719320 te22537556693792883 te3828318828723775580 te14521007493463688305 te7272812303512453024 te1800820524559254859 te13180990988846544640 te4066593137377963103 te5844084234686390292 te11311967882133505766 te9901136341368742012 te2652723966899149336 te6924336645578157498 te7694647566010352048 te10347325031766540048 te1238063106101353352 te7865238500529003272 te15249508209398887415 te10272612303545721026 te7223507950563389177 te698821952526932138 te2237687405833515054 te14969905608478716026 te18407475671682076694 te6792380950886379099 te10567125985571543001 te17571526812275743068 te5191074859959050864 te12487411075310361601 te4213533426353466727 te5951378015245245068 te10161490219944588552 te9977178843002899065 te9588884915798893686 te8406401652597092825 te5990386038257907102 te16508054726413282900 te7141012068941245134 te8509972294637594362 te7049742520851738234 te17344457246825944037 te6321702705964198020 te8343988340049798659 te3714516887541055624 te9008776437476505464 te1550436162378251078 te1962102926160408314 te2190391144919159420 te13444102049775231953 te1507506823967060145 te13583611134366749210 te10522420102552324257 te15795950956213559423 te8209847015435541121 te5620354395515858068 te9099840772062548232 te11571041319608223959 te11994222500233412046 te10988982525956635325 te13725613002189312537 te11285020338362767280 te6870801228182082360 te17304710513193535524 te9342972439849616934 te12977408094624603517 te1241912964239909641 te14869942710257574117 te14282253289552653803 te108270660222195321 te10337550371616605342 te1878807148558442183 te3705520001259512287 te11643096512640204550 te18154298623231777150 te1206311688892246751 te8235767682548688679 te16422380000636050412 te1935204842833144504 te5223944453602738871 te15276935197921179810 te4921250895918967650 te3590052883137769147 te12843861305675710631 te9618004910869664607 te9615567220162352736 te13441203952429512611 te3001026175203520517 te4000466182182163603 te13305210233970501096 te15908040433966403262 te18176922376633968947 te8485506013332735310 te3024840425179490566 te5015289796078255788 te15906192465539042231 te14065582225764134312 te15119242675557312 te10589515712189474820 te15749959129627544929 te10307866071361188016 te3554548026115739726 te4806014598051621254 te2487960750699847348 te3361447209676395815 te323067152791299635 te17445949232123431830 te6625631511727594258 te16780132947250873378 te9399244947329212 te15261608854678549447 te5600929854681791806 te3191697997123426393 te1343203286419971780 te4092038232190561939 te1117292483106868449 te6136951828209123277 te1383349311755002381 te7257125425624733647 te17675267928710005626 te3045669048339699887 te9050396852438934196 te15073276181108746991 te538519814471593729 te9175779132222736997 te5712246027346119006
end PySem.W.Fast
open PySem PySem.W PyProof.Rows Sm
set_option maxRecDepth 100000 in
set_option maxHeartbeats 0 in
theorem PySem.Challenge.cw_lendwharf_k64_lists_looked_at_holds : PySem.Challenge.rw_lendwharf_k64_lists_looked_at.Holds := by
 w_on; o_law; k_head; (case hw=>w_witness2)
 k_fill
 refine Sm.walkS (l:=PySem.Challenge.rw_lendwharf_k64_lists_looked_at) (k:=10) rfl ⟨rfl,by decide,by decide⟩ rfl (fun w h Y=>PySem.W.kIn_of Y) ?F
 case F=>
  intro w mg fa h KX G hmg;refine' Lw.all_mk KX G hmg ..
  any_goals k_is
  any_goals exact FA.mk (by k_is) (by k_is) (by k_is) (by k_is)
  any_goals k_exc
  all_goals first | rfl | decide
