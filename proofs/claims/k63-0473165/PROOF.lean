import PyProof.Rows.All
import Wide.All
import OpenK.AllK
import Wide.FinOn
import Lean
import PyProof.EqAt
import PyProof.EqKinds
import PyProof.TupleCall
import PyProof.ZipIter
import PyProof.Draws
import PyProof.SumAny
import PyProof.EnumMake
import PyProof.WalkInts
import PyProof.ExcArgsOwn
import PyProof.ExcAttrAll.ValueError
import PyProof.NsDelKeeps
import KE.KTryMore
import OpenK.KOwn
import PyProof.ListMulRoad
import PyProof.FactsAll.tuple_2
import PyProof.NeKinds
import PyProof.Rows.RuleIs
import PyProof.ExcInit
import PyProof.ExcClass3
import OpenK.KCls
import PyProof.InstStoreFacts
import OpenK.KMake
import PyProof.DictRoads
import PyProof.Rows.CountFlat
import PyProof.ListRange
import PyProof.Rows.SetFrom
import PyProof.CollectStr
import PyProof.Rows.TupMore
import PyProof.AttrMissHeap
import KE.KDictOf
import PyProof.DictWalks
import KE.KSortTup
import PyProof.DictItemsLoops
import KE.KDictList
import PyProof.CallStr
import PyProof.StrWalks
import PyProof.StrOps
import PyProof.StrCalls2
import KE.KRevIter
import PyProof.Conv_int_bool
import PySem.Challenge.RW_lendwharf_k63_whole_breaks_or_keeps
open Lean Parser Command in
local macro_rules|`(command|def $i:declId $s:optDeclSig $v:declVal)=>`(command|noncomputable def $i $s:optDeclSig $v:declVal)
open Lean Parser Command in
local macro_rules|`(command|abbrev $i:declId $s:optDeclSig $v:declVal)=>`(command|noncomputable abbrev $i $s:optDeclSig $v:declVal)
set_option Elab.async false
set_option linter.all false
set_option maxRecDepth 100000
set_option maxHeartbeats 4000000
open Option renaming some -> zo, none -> zl
open Bool renaming true -> zb, false -> yo
open List renaming length_map -> O0, getElem?_eq_getElem -> O2, getElem?_eq_some_iff -> O3, mem_cons_of_mem -> O4, length_append -> O6, getElem?_append_left -> O8, size_toArray -> D0, length_cons -> D3, getElem?_append_right -> D4, map_cons -> D5, mem_cons -> D6, getElem?_map -> D7, getD_eq_getElem?_getD -> E1, mem_of_getElem? -> E2, mem_append -> E3, mem_map -> E5, mem_append_right -> E6, all_eq_true -> E8, getElem?_set_ne -> E9, getElem?_set_self -> F0, foldl_cons -> F2, map_append -> F3, mem_cons_self -> F4, length_range -> F5, mem_append_left -> F7, getElem_of_mem -> G6, length_set -> G7, map_map -> G8, getElem?_eq_none -> L0, append_nil -> L1, pairwise_cons -> L5, getElem_mem -> L7, length_take -> L8
open PySem.Heap renaming get?_push_of_some -> O1, lt_size -> O7, get?_push_size -> O9, size_push -> F1, get?_update_other -> F6, get?_update_self -> G9
open Nat renaming le_refl -> O5, lt_of_lt_of_le -> D1, ne_of_lt -> D8, le_trans -> D9, zero_le -> F8, lt_irrefl -> L4, sub_self -> L6, ne_of_gt -> L9
open Bool renaming false_ne_true -> D2, and_eq_true -> E4, false_eq_true -> E7, true_and -> F9, false_and -> L3
open PySem renaming Value -> aA, Addr -> aB, Shared -> aC, wpAny_bind -> aD, wpAny -> aF, Expr -> aH, model -> aI, World -> aJ, Program -> aK, Around -> aL, Stmt -> aM, starEach -> aN, eval -> aO, FuncData -> aP, cLine -> aQ, Paired -> aR, compareOp -> aS, rawInt -> aU, mainGlobals -> aV, SetTable -> aW, bootBuiltins -> aX, backTo -> aY, IsPair -> aZ, binaryOp -> ae, pyNext -> af, wpAny_field -> ag, wpAny_call_entry -> ah, wpAny_holding -> ak, cellsFrom -> ao, wpAny_seqItems -> aq, sysModules -> ar, wpAny_mono -> au, wpAny_newObj_type -> av, holding -> aw, NameKind -> ay, assignEach -> az, wpAny_setField_rec -> bA, wpAny_typeOf -> bB, codeAny_builtin -> bC, plainId_quiet -> bD, wpAny_ite_split -> bE, wpAny_truthy_bool -> bF, foldedSetIterable -> bG, wpAny_rule -> bH, call_meets -> bI, wpAny_isInstance -> bJ, wpAny_passesOwn -> bK, sliceBounds -> bL, attributeBase -> bM, valueAt -> bN, wpAny_pyIter_tuple -> bO, behindInMarks -> bP, isSubtype_type -> bQ, codeAny_mono -> bR, raiseNew -> bS
open PySem.W renaming Frag -> bX, nsIn -> bg, fnOf -> br, mg_none_of -> bt, mg_of -> bw, kia_one -> cC, excIn -> cK, keepIn -> cV, codeIn -> cp, hideAll -> dg, hideAll_get -> dh, instObj -> eW, methodObj -> eX, lookIn -> eZ, kitOne -> eu, cellsFrom_some -> fB, OpenLaw -> fJ, of_hideAll -> ft, hideAll_none -> fu, plainGet -> fw, findIn -> fx, kitx_list -> fy, kitx_dict -> gB, WalkO -> gO
open List renaming range -> bY, replicate -> bc, all_map -> bu, all_cons -> bz, toArray -> cB, mem_range -> cF, length_nil -> cG, any_cons -> cH, foldl -> cI, lookup_cons -> cJ, any_eq_true -> cM, mem_filter -> cN, find?_cons -> cP, nodup_nil -> cQ, ext_getElem? -> cS, filterMap_cons -> cU, nodup_cons -> cW, map_congr_left -> cX, nodup_append -> cZ, mem_flatMap -> cf, length_drop -> cq, replicate_succ -> cr, any_eq_false -> cx, length -> cy, flatten_cons -> dA, append_assoc -> dB, filter_cons -> dH, prefix_refl -> dJ, set_append_right -> dL, any_map -> dM, mem_filterMap -> dN, forIn_cons -> dP, not_mem_nil -> dU, reverse_cons -> dX, zip_cons_cons -> di, zipIdx_cons -> dn, forIn_nil -> dq, getD -> du, pairwise_iff_getElem -> eB, pairwise_map -> eC, take_append_drop -> eG, getElem?_cons_succ -> eI, map_take -> eK, take_length -> eL, length_reverse -> eM, prefix_append -> eN, drop_zero -> eO, length_flatMap -> eR, map_const' -> eT, sum_replicate_nat -> eU, length_filter_le -> eV, of_mem_zip -> fA, nil_append -> fG, range_succ_eq_map -> fL, Pairwise -> fN, foldl_append -> fO, find? -> fS, find?_some -> fT, mem_of_find?_eq_some -> fU, getElem?_range -> fV, map_drop -> fX, drop_length -> fc, eq_nil_of_length_eq_zero -> fe, length_zipIdx -> fg, ext_getElem -> fj, cons_append -> fm, getElem?_replicate -> gD, getElem?_take_of_lt -> gE, take_sublist -> gF, filterMap_map -> gJ, map_nil -> gK, length_singleton -> gN, zipIdx_nil -> gQ, isEmpty_toArray -> gV, isEmpty_iff -> gW, mem_of_mem_drop -> gt, length_eq_zero_iff -> gu, length_eraseIdx_of_lt -> gv, getElem?_toArray -> gy, length_pos_of_mem -> iC, length_erase_of_mem -> iD, mem_erase_of_ne -> iE, getElem?_take -> iF, getElem?_drop -> iG, perm_ext_iff_of_nodup -> iJ, take_succ -> iN, getElem?_set -> iQ, drop_eq_getElem_cons -> iS, take_of_length_le -> iX, cons_lt_cons_iff -> iZ, map_id -> ia, find?_isSome -> ib, map_set -> ic, mem_zipIdx_iff_getElem? -> ig, map_inj_right -> ii
open PySem.Value renaming ref -> bZ, none -> ba, type -> bj, bool -> cm, int -> dY, str -> dZ, builtin -> da, notImplemented -> fC, isInt -> fh, isStrOf -> fi, float -> fo
open Array renaming length_toList -> be, getElem?_toList -> bh, getElem?_eq_getElem -> bi, getElem?_eq_some_iff -> cA, getElem?_eq_none -> cY, getD_eq_getD_getElem? -> dG, getD -> dI, forIn_toList -> db, toList -> eY, mem_toList_iff -> ee, getElem?_replicate -> fW, append_assoc -> fv, getElem?_setIfInBounds_ne -> gY, perm_iff_toList_perm -> gf, foldl_toList -> iI, filterMap -> iL, toList_inj -> iO
open Option.some renaming inj -> bn
open Int renaming toNat_natCast -> bo, toNat_of_nonneg -> dw, emod_lt_of_pos -> fQ, emod_nonneg -> fR
open PySem.Obj renaming mapSeq -> bp, mapFields -> cv, data_mapFields -> dC, putSet -> dW, isFreed_of_fields -> fK, cls_mapFields -> gP
open Prod renaming fst -> bq, snd -> ca, ext -> dO
open PySem.Str renaming empty -> bx, ofString -> cE
open List.Perm renaming refl -> cL, swap -> eD, append_left -> io, cons_inv -> iq
open PySem renaming mem_of_lookup -> cO, Env -> eP, call -> fH, Within -> fq, list_append -> gM, seqSlot_of -> gT, boot_len -> iY
open Bool renaming not_true -> cT, bne_false -> cb, or_false -> cz, and_false -> fb, eq_iff_iff -> fk, or_eq_true_iff -> gU, not_false -> iK, not_eq_true -> ie
open List.cons renaming inj -> ce, injEq -> iP
open Sum renaming inl -> cg, inr -> cj
open Nat renaming le_of_lt -> cn, lt_succ_of_lt -> cu, lt_succ_self -> dE, le_succ -> dF, add_assoc -> df, mul_comm -> dl, le_of_eq -> dm, mod_lt -> eE, le_of_lt_succ -> eF, add_sub_cancel -> fM, pow_succ -> fP, eq_zero_or_pos -> fZ, not_lt -> gS, lt_trans -> gc, not_lt_zero -> gr, succ_pos -> hX, zero_add -> hZ, div_div_eq_div_mul -> iA, add_zero -> iB, sub_zero -> iR, le_total -> iU, min_eq_left -> iV, min_eq_right -> iW
open PyProof.Rows renaming callWith_type1 -> cw, slot_tuple_getitem -> dj, envOfC -> eQ, callWith_builtin1 -> ij, lt_int -> ik, is_bool -> il, isnot_bool -> im, lt_str -> ir
open Option renaming isSome_map -> dR, isNone -> eJ, isSome_iff_exists -> gC, getD_none -> gL, isSome_some -> gX, bind -> iH, bind_some -> iT
open Array.Perm renaming refl -> dS
open PySem.F renaming slot_dict_keyiterator_next -> dz, plain_list_iadd -> eA, slot_tuple_add -> fD, entry_tuple_add -> fE, args_tuple_add_2 -> fF, slot_tuple_lt -> gG, entry_tuple_lt -> gH, args_tuple_lt_2 -> gI, excBase_ValueError -> gZ, slot_dict_iter -> gi, entry_dict_keyiterator_next -> gj, args_dict_keyiterator_next_1 -> gk, entry_proto_collect -> gm, plain_proto_collect -> gn, entry_list_iadd -> gq, slot_set_iter -> gw, plain_extend_loop -> gz
open List.Pairwise renaming nil -> fI, imp_of_mem -> ip
open PyProof.Rows.F renaming plain_set_update_loop -> fY, entry_set_update_loop -> iM
noncomputable section
local macro_rules|`(tactic|simp! [$a,*])=>`(tactic|simp -implicitDefEqProofs [$a,*])
theorem bT {c:Prop}{h:Decidable c}(q:c){α:Sort _}{t e:α}:ite c t e=t:=if_pos q
theorem bU {c:Prop}{h:Decidable c}(q:¬c){α:Sort _}{t e:α}:ite c t e=e:=if_neg q
theorem bV {p:Prop}[i:Decidable p](h:¬p):decide p=yo:=decide_eq_false h
theorem bW {p:Prop}[i:Decidable p](h:p):decide p=zb:=decide_eq_true h
namespace L2
open PySem PySem.Spec PyProof.Rows
abbrev zAA:=List (aB × Obj)
abbrev zAB:=Array (Int × aA)
abbrev zAC:=List (Option Nat)
abbrev zAD:=aA->aC->Prop
abbrev zAE:=Str->Option aA
variable {h:Heap} {a b it dx:aB} {α:Type} {us:List aA} {u:aA} {g':Array GenState} {t' k n:Nat} {d':Drawn} {ch fp:List aB} {M:Model} {A:aL} {E:zAD} {Q:Unit->aC->Prop} {K:bX} {c tg l:aH} {es:List aH} {g:Int->Int->Int} {op:CmpOp} {f:aA->aA->Sem aA} {mA mg:zAE} {fd:aP} {ps:List Str}
section
abbrev Key:=Sum Int Str
def Q5i:Key->aA->Bool
 | .inl k,v=>fh k v
 | .inr x,v=>fi x v
def Qzw (w:aJ):Key->Int
 | .inl k=>hashInt k
 | .inr x=>hashStr w x
theorem Z4:∀ {k:Key} {v:aA},Q5i k v=zb->(∃ i t,k=cg i/\v=dY i t)\/(∃ x t,k=cj x/\v=dZ x t)
 | .inl i,v,h=>by
  obtain ⟨t,e⟩:=Value.isInt_shape (k:=i) (v:=v) h;exact .inl ⟨i,t,rfl,e⟩
 | .inr x,v,h=>by
  obtain ⟨t,e⟩:=Value.isStrOf_shape (x:=x) (v:=v) h;exact .inr ⟨x,t,rfl,e⟩
theorem Q0i (i:Int) (t:Tok):Q5i (.inl i) (.int i t)=zb:=by simp [Q5i,fh]
theorem Q0h (x:Str) (t:Tok):Q5i (.inr x) (.str x t)=zb:=by simp [Q5i,fi]
theorem Qtq (a b:Int):decide ((cg a:Key)=cg b)=(a == b):=by
 by_cases e:a=b
 ·subst e; simp
 ·have h:¬ (cg a:Key)=cg b:=λq=>e (Sum.inl.inj q)
  rw [bV h];exact (beq_eq_false_iff_ne.mpr e).symm
theorem Qtm (a b:Str):decide ((cj a:Key)=cj b)=decide (a=b):=by
 by_cases e:a=b
 ·subst e; simp
 ·have h:¬ (cj a:Key)=cj b:=λq=>e (Sum.inr.inj q)
  rw [bV h,bV e]
theorem Qtp (a:Int) (b:Str):decide ((cg a:Key)=cj b)=yo:=bV (λq=>nomatch q)
theorem Qtn (a:Str) (b:Int):decide ((cj a:Key)=cg b)=yo:=bV (λq=>nomatch q)
def Yh (prog:aK) (w:aJ):PySem.KeyKind prog w Key where
 is:=Q5i
 hash:=Qzw w
 inj:=λv a b ha hb=>by
  rcases Z4 ha with ⟨i,t,rfl,rfl⟩ | ⟨x,t,rfl,rfl⟩
  ·rcases Z4 hb with ⟨j,u,rfl,e⟩ | ⟨y,u,rfl,e⟩
   ·injection e with e1 _; rw [e1]
   ·exact nomatch e
  ·rcases Z4 hb with ⟨j,u,rfl,e⟩ | ⟨y,u,rfl,e⟩
   ·exact nomatch e
   ·injection e with e1 _; rw [e1]
 byValue:=λk v h=>by
  rcases Z4 h with ⟨i,t,rfl,rfl⟩ | ⟨x,t,rfl,rfl⟩ <;> rfl
 pyHash:=λhv h=>by
  rcases Z4 hv with ⟨i,t,rfl,rfl⟩ | ⟨x,t,rfl,rfl⟩
  ·exact wpAny_pyHash_int h
  ·exact wpAny_pyHash_str h
 eqBool:=λhu hv h=>by
  rcases Z4 hu with ⟨i,t,rfl,rfl⟩ | ⟨x,t,rfl,rfl⟩
  ·rcases Z4 hv with ⟨j,u,rfl,rfl⟩ | ⟨y,u,rfl,rfl⟩
   ·rw [Qtq] at h; exact wpAny_eqBool_int h
   ·rw [Qtp] at h; exact SeqAt.EqAt.int_str i t y u _ _ _ _ h
  ·rcases Z4 hv with ⟨j,u,rfl,rfl⟩ | ⟨y,u,rfl,rfl⟩
   ·rw [Qtn] at h; exact SeqAt.EqAt.str_int x t j u _ _ _ _ h
   ·rw [Qtm] at h; exact wpAny_eqBool_str h
 «strs»:=λk x t v h=>by
  rcases Z4 h with ⟨i,u,rfl,e⟩ | ⟨y,u,rfl,e⟩
  ·exact nomatch e
  ·injection e with e1 _
   subst e1;cases v <;> rfl
inductive HK where
 | int (i:Int) | str (x:Str) | tup (l:List HK)
instance:DecidableEq HK:=λ_ _=>Classical.propDecidable _
mutual
def KIs (h:Heap):HK->aA->Prop
 | .int i,v=>∃ t,v=.int i t
 | .str x,v=>∃ t,v=.str x t
 | .tup l,v=>∃ a items,v=.ref a/\IsTup h a items/\KIsL h l items.toList
def KIsL (h:Heap):List HK->List aA->Prop
 | [],vs=>vs=[]
 | k :: l,vs=>∃ v r,vs=v :: r/\KIs h k v/\KIsL h l r
end
def Dp:Nat->HK->Prop
 | _,.int _=>True
 | _,.str _=>True
 | 0,.tup _=>False
 | d + 1,.tup l=>∀ k∈l,Dp d k
theorem KIsL.len :∀ {l:List HK} {vs:List aA},KIsL h l vs->l.length=vs.length
 | [],_,r=>by cases r; rfl
 | k :: l,_,⟨v,r,e,_,q⟩=>by subst e; rw [D3,D3,q.len]
theorem KIsL.get :∀ {l:List HK} {vs:List aA},KIsL h l vs->∀ (j:Nat) (h1:j < l.length) (h2:j < vs.length),KIs h l[j] vs[j]
 | [],_,_,j,h1,_=>by simp at h1
 | k :: l,_,⟨v,r,e,q,t⟩,0,h1,h2=>by subst e; exact q
 | k :: l,_,⟨v,r,e,q,t⟩,j + 1,h1,h2=>by subst e; exact t.get j (by simpa using h1) (by simpa using h2)
theorem KIsL.of {h':Heap}:∀ {l:List HK} {vs:List aA},KIsL h l vs->(∀ k v,k∈l->KIs h k v->KIs h' k v)->KIsL h' l vs
 | [],_,r,_=>r
 | k :: l,_,⟨v,r,e,q,t⟩,f=>⟨v,r,e,f k v (by simp) q,t.of λk v G=>f k v (O4 _ G)⟩
theorem KIs.keep {h':Heap} (q:∀ a its,IsTup h a its->IsTup h' a its):∀ (d:Nat) {k:HK} {v:aA},Dp d k->KIs h k v->KIs h' k v
 | d,.int _,_,_,r=>r
 | d,.str _,_,_,r=>r
 | 0,.tup _,_,p,_=>p.elim
 | d + 1,.tup l,_,p,⟨a,its,e,i,r⟩=>⟨a,its,e,q a its i,r.of λk v hm=>KIs.keep q d (p k hm)⟩
theorem Qft {x y:Array aA} (p:IsTup h a x) (q:IsTup h a y):x=y:=by
 obtain ⟨o,h1,h2,n,J⟩:=p;obtain ⟨o',G,g2,O,I⟩:=q;rw [h1] at G; cases G;rw [J] at I; cases I; rfl
theorem KIs.inj :∀ (d:Nat) {x y:HK} {v:aA},Dp d x->Dp d y->KIs h x v->KIs h y v->x=y:=by
 intro d
 induction d with
 | zero=>
  intro x y v dx G p q;cases x with
  | tup l=>exact dx.elim
  | int i=>
   obtain ⟨t,rfl⟩:=p;cases y with
   | tup l=>exact G.elim
   | int j=>obtain ⟨u,e⟩:=q; cases e; rfl
   | str j=>obtain ⟨u,e⟩:=q; cases e
  | str i=>
   obtain ⟨t,rfl⟩:=p;cases y with
   | tup l=>exact G.elim
   | int j=>obtain ⟨u,e⟩:=q; cases e
   | str j=>obtain ⟨u,e⟩:=q; cases e; rfl
 | succ d O=>
  intro x y v dx G p q;cases x with
  | int i=>
   obtain ⟨t,rfl⟩:=p;cases y with
   | tup l=>obtain ⟨_,_,e,_⟩:=q; cases e
   | int j=>obtain ⟨u,e⟩:=q; cases e; rfl
   | str j=>obtain ⟨u,e⟩:=q; cases e
  | str i=>
   obtain ⟨t,rfl⟩:=p;cases y with
   | tup l=>obtain ⟨_,_,e,_⟩:=q; cases e
   | int j=>obtain ⟨u,e⟩:=q; cases e
   | str j=>obtain ⟨u,e⟩:=q; cases e; rfl
  | tup l=>
   obtain ⟨a,its,rfl,Z,p2⟩:=p;cases y with
   | int j=>obtain ⟨u,e⟩:=q; cases e
   | str j=>obtain ⟨u,e⟩:=q; cases e
   | tup m=>
    obtain ⟨b,J,e,Y,I⟩:=q;cases e;have e:=Qft Z Y;subst e;have l1:=p2.len;have l2:=I.len;congr 1;refine fj (by omega) λj h1 h2=>?_
    exact O (dx _ (L7 h1)) (G _ (L7 h2)) (p2.get j h1 (by omega)) (I.get j h2 (by omega))
theorem Qpw [DecidableEq α] (d:α) (xs ys:List α):((bY (min xs.length ys.length)).all (λj=>decide (xs.getD j d=ys.getD j d)) && xs.length == ys.length)=decide (xs=ys):=by
 rw [fk];simp only [E4,E8,cF,decide_eq_true_eq,beq_iff_eq];constructor
 ·rintro ⟨h,e⟩;refine fj e λi h1 h2=>?_
  have:=h i (by omega);simpa [E1,h1,h2] using this
 ·rintro rfl;simp
section
variable {prog:aK} {w:aJ}
mutual
def hkH (prog:aK) (w:aJ):HK->Int
 | .int i=>(Yh prog w).hash (.inl i)
 | .str x=>(Yh prog w).hash (.inr x)
 | .tup l=>reduceHash (Builtin.Tuple.tupleHashOf (hkHL prog w l))
def hkHL (prog:aK) (w:aJ):List HK->List Int
 | []=>[]
 | k :: l=>hkH prog w k :: hkHL prog w l
end
mutual
def hkD:HK->Nat
 | .int _=>1
 | .str _=>1
 | .tup l=>hkDL l + 1
def hkDL:List HK->Nat
 | []=>0
 | k :: l=>hkD k + hkDL l
end
theorem Qix (l:List HK):hkHL prog w l=l.map (hkH prog w):=by
 induction l with
 | nil=>rfl
 | cons k l q=>rw [hkHL,q]; rfl
theorem Qiy (l m:List HK):hkDL (l ++ m)=hkDL l + hkDL m:=by
 induction l with
 | nil=>simp [hkDL]
 | cons k l q=>rw [fm,hkDL,hkDL,q]; omega
variable {A:aL} {E:zAD}
theorem Qpv (xs ys:List HK):((bY (min xs.length ys.length)).all (λj=>decide (xs.getD j (.int 0)=ys.getD j (.int 0))) && xs.length == ys.length)=decide (xs=ys):=Qpw (.int 0) xs ys
theorem Qp6:∀ (d:Nat) {A:aL} {s:aC} {k:HK} {v:aA} {Q:Int->aC->Prop},Dp d k->A.units + d < aQ->KIs s.heap k v->Q (hkH prog w k) { s with toks:=s.toks + hkD k } ->
  aF (aI prog w) A (pyHash v) Q E s:=by
 intro d
 induction d with
 | zero=>
  intro A s k v Q O hu r q;cases k with
  | tup l=>exact O.elim
  | int i=>obtain ⟨t,rfl⟩:=r; exact (Yh prog w).pyHash (k:=.inl i) (Q0i i t) q
  | str i=>obtain ⟨t,rfl⟩:=r; exact (Yh prog w).pyHash (k:=.inr i) (Q0h i t) q
 | succ d ih=>
  intro A s k v Q O hu r q;cases k with
  | int i=>obtain ⟨t,rfl⟩:=r; exact (Yh prog w).pyHash (k:=.inl i) (Q0i i t) q
  | str i=>obtain ⟨t,rfl⟩:=r; exact (Yh prog w).pyHash (k:=.inr i) (Q0h i t) q
  | tup ks=>
   obtain ⟨a,a3,rfl,⟨o,ho,hc,n,hd⟩,hi⟩:=r;have Y:s.TypeIs (.ref a) "tuple" := ⟨o,ho,hc⟩;have a2:A.units < aQ:=by omega
   unfold pyHash;unfold pyHashByItsType;have nb:¬ (zo (da "tuple.__hash__") == zo ba)=zb:=by rw [beq_builtin_none]; exact D2
   have sp {Q:Option aA->aC->Prop} (h:Q (zo (.builtin "tuple.__hash__")) s):aF (aI prog w) A (specialOf (.ref a) "__hash__") Q E s:=wpAny_specialOf Y F.slot_tuple_hash.lookup h;refine aD (wpAny_cRoomFor_or (.inr a2) (aD (sp ?_)));show aF _ _ (if (zo (da "tuple.__hash__") == zo ba)=zb then _ else _) _ _ _;rw [bU nb];refine aD (sp (aD (wpAny_callSpecialIfBoundUnlessNone?_slot Y F.slot_tuple_hash (ah F.slot_tuple_hash Y F.entry_tuple_hash ?_ (F.args_tuple_hash_1 _)))));show aF _ A.in1 (Builtin.Tuple.tupleItemsOf (.ref a) >>= _) _ _ s;refine aD (wpAny_tupleItemsOf ho hd (aD ?_));rw [<- db];have a1:A.in1.units + d < aQ:=by show A.units + 1 + d < aQ; omega
   refine wpAny_forIn_list _ (λrest (b:Array Int) s'=>∃ G I,ks=G ++ I/\KIsL s.heap I rest/\b.toList=G.map (hkH prog w)/\s'={ s with toks:=s.toks + hkDL G }) _ ?_ ?_ _ _ ⟨[],ks,rfl,hi,rfl,rfl⟩
   ·rintro x rest b s' ⟨G,I,rfl,J,Z,rfl⟩;cases I with
    | nil=>cases J
    | cons k I=>
     obtain ⟨v,r,e,h1,h2⟩:=J;cases e;refine aD (ih (s:={ s with toks:=s.toks + hkDL G }) (O k (by simp)) a1 h1 ?_);exact wpAny_pure ⟨G ++ [k],I,by simp,h2,by simp [Z],by simp [Qiy,hkDL,df]⟩
   ·rintro b s' ⟨G,I,rfl,J,Z,rfl⟩;cases I with
    | cons k I=>obtain ⟨_,_,e,_⟩:=J; cases e
    | nil=>
     rw [L1] at q;show aF _ _ (retInt (Builtin.Tuple.tupleHashOf b.toList)) _ _ _;rw [Z,<- Qix];refine wpAny_ret_mkInt ?_;have q:Q (reduceHash (Builtin.Tuple.tupleHashOf (hkHL prog w G))) { s with toks:=s.toks + (hkDL G + 1) }:=q;generalize Builtin.Tuple.tupleHashOf (hkHL prog w G)=z at*;show aF _ _ (if (decide (-(2:Int) ^ 63<=z) && decide (z < 2 ^ 63))=zb then _ else _) Q E _;unfold reduceHash at q
     split
     ·rename_i hr;rw [bT hr] at q;exact wpAny_pure (by simpa [df] using q)
     ·rename_i hr;rw [bU hr] at q;exact aD (bH (wpAny_pure (by simpa [df] using q)))
theorem Qxa:∀ (d:Nat) {A:aL} {s:aC} {x y:HK} {u v:aA},Dp d x->Dp d y->A.units + d < aQ->KIs s.heap x u->KIs s.heap y v->SeqAt.EqAt A s u v (decide (x=y)):=by
 intro d;have I:∀ {A:aL} {s:aC} {x y:HK} {u v:aA},(∀ l,x≠.tup l)->(∀ l,y≠.tup l)->KIs s.heap x u->KIs s.heap y v->SeqAt.EqAt A s u v (decide (x=y)):=by
  intro A s x y u v nx ny p q;cases x with
  | tup l=>exact absurd rfl (nx l)
  | int i=>
   obtain ⟨t,rfl⟩:=p;cases y with
   | tup l=>exact absurd rfl (ny l)
   | int j=>
    obtain ⟨t',rfl⟩:=q;have:=SeqAt.EqAt.int_int (A:=A) (s:=s) i t j t'
    rwa [show (i == j)=decide (HK.int i=HK.int j) by by_cases e:i=j <;> simp [e]] at this
   | str j=>
    obtain ⟨t',rfl⟩:=q;rw [bV (by simp)];exact SeqAt.EqAt.int_str _ _ _ _
  | str i=>
   obtain ⟨t,rfl⟩:=p;cases y with
   | tup l=>exact absurd rfl (ny l)
   | int j=>
    obtain ⟨t',rfl⟩:=q;rw [bV (by simp)];exact SeqAt.EqAt.str_int _ _ _ _
   | str j=>
    obtain ⟨t',rfl⟩:=q;have:=SeqAt.EqAt.str_str (A:=A) (s:=s) i t j t'
    rwa [show (i == j)=decide (HK.str i=HK.str j) by by_cases e:i=j <;> simp [e]] at this
 induction d with
 | zero=>
  intro A s x y u v dx dy hu p q;exact I (λl e=>by subst e; exact dx) (λl e=>by subst e; exact dy) p q
 | succ d ih=>
  intro A s x y u v dx dy hu p q;have J:A.units < aQ:=by omega
  cases x with
  | tup l=>
   obtain ⟨a,its,rfl,Z,p2⟩:=p;cases y with
   | int j=>
    obtain ⟨t',rfl⟩:=q;rw [bV (by simp)];exact SeqAt.EqAt.tuple_int _ _ Z J
   | str j=>
    obtain ⟨t',rfl⟩:=q;rw [bV (by simp)];exact SeqAt.EqAt.tuple_str _ _ Z J
   | tup m=>
    obtain ⟨b,G,rfl,O,Y⟩:=q
    by_cases e:a=b
    ·subst e;have e:=KIs.inj (d + 1) (h:=s.heap) dx dy ⟨a,its,rfl,Z,p2⟩ ⟨a,G,rfl,O,Y⟩;rw [bW e];exact SeqAt.EqAt.same _
    ·have l1:=p2.len;have l2:=Y.len;have he:∀ j (h1:j < its.size) (h2:j < G.size),SeqAt.EqAt A.in1 s its[j] G[j] (decide (l.getD j (.int 0)=m.getD j (.int 0))):=λj h1 h2=>by
      have k1:j < l.length:=by rw [l1,be]; exact h1
      have k2:j < m.length:=by rw [l2,be]; exact h2
      have e1:l.getD j (.int 0)=l[j]:=by rw [E1,O2 k1]; rfl
      have e2:m.getD j (.int 0)=m[j]:=by rw [E1,O2 k2]; rfl
      rw [e1,e2];exact ih (dx _ (L7 k1)) (dy _ (L7 k2)) (by show A.units + 1 + d < aQ; omega) (p2.get j k1 (by simpa using h1)) (Y.get j k2 (by simpa using h2))
     have rc:=SeqAt.RcAt.tuples Z O J he;have s1:its.size=l.length:=by rw [l1,be]
     have s2:G.size=m.length:=by rw [l2,be]
     rw [s1,s2,Qpv] at rc;exact SeqAt.EqAt.of_refs e (by simpa using rc)
  | int i=>
   cases y with
   | tup m=>
    obtain ⟨t',rfl⟩:=p;obtain ⟨b,G,rfl,O,Y⟩:=q;rw [bV (by simp)];exact SeqAt.EqAt.int_tuple _ _ O J
   | _=>exact I (by simp) (by simp) p q
  | str i=>
   cases y with
   | tup m=>
    obtain ⟨t',rfl⟩:=p;obtain ⟨b,G,rfl,O,Y⟩:=q;rw [bV (by simp)];exact SeqAt.EqAt.str_tuple _ _ O J
   | _=>exact I (by simp) (by simp) p q
theorem Qiu:∀ (d:Nat) {A:aL} {s:aC} {k:HK} {v:aA} {Q:Bool->aC->Prop} (m:Nat),d < m->Dp d k->KIs s.heap k v->Q zb s->aF (aI prog w) A (eqIsQuiet m v) Q E s:=by
 intro d;have G:∀ {A:aL} {s:aC} {v:aA} {Q:Bool->aC->Prop} (m:Nat),carriedByValue v=zb->Q zb s->aF (aI prog w) A (eqIsQuiet m v) Q E s:=by
  intro A s v Q m hv q;rw [eqIsQuiet_byValue m hv];exact wpAny_pure q
 induction d with
 | zero=>
  intro A s k v Q m hm O r q;cases k with
  | tup l=>exact O.elim
  | int i=>obtain ⟨t,rfl⟩:=r; exact G m rfl q
  | str i=>obtain ⟨t,rfl⟩:=r; exact G m rfl q
 | succ d ih=>
  intro A s k v Q m hm O r q;cases k with
  | int i=>obtain ⟨t,rfl⟩:=r; exact G m rfl q
  | str i=>obtain ⟨t,rfl⟩:=r; exact G m rfl q
  | tup ks=>
   obtain ⟨a,J,rfl,⟨o,ho,hc,n,hd⟩,hi⟩:=r;have hT:s.TypeIs (.ref a) "tuple" := ⟨o,ho,hc⟩;obtain ⟨m,rfl⟩:∃ m',m=m' + 1:=⟨m - 1,by omega⟩;unfold eqIsQuiet;refine aD (wpAny_specialOf hT F.slot_tuple_eq.lookup ?_);show aF _ _ (isInstance (.ref a) (.type "tuple") >>= _) _ _ s;refine aD (bJ hT isSubtype_tuple_tuple ?_);simp only [cT,E7,if_false];refine aD (aq ho hd (aD ?_));show aF _ _ (forIn J _ _) _ _ s;rw [<- db];refine wpAny_forIn_list _ (λrest r s'=>r.1=zl/\s'=s/\∃ l,KIsL s.heap l rest/\∀ k∈l,k∈ks) _ ?_ ?_ _ _ ⟨rfl,rfl,ks,hi,λ_ h=>h⟩
   ·rintro v rest r s' ⟨Y,rfl,l,Z,I⟩;cases l with
    | nil=>cases Z
    | cons k l=>
     obtain ⟨v',r',e,h1,h2⟩:=Z;cases e;refine aD (ih m (by omega) (O k (I k (by simp))) h1 ?_);simp only [cT,E7,if_false];exact wpAny_pure ⟨rfl,rfl,l,h2,λx hx=>I x (O4 _ hx)⟩
   ·rintro ⟨r1,r2⟩ s' ⟨Y,rfl,_⟩;simp only at Y;subst Y;exact wpAny_pure q
def nk (prog:aK) (w:aJ):HeapKind prog w HK where
 is:=λh k a=>KIs h k (.ref a)/\Dp 5 k
 hash:=hkH prog w
 draws:=hkD
 room:=λA=>A.units + 5 < aQ
 inj:=λhx hy=>KIs.inj 5 hx.2 hy.2 hx.1 hy.1
 keeps:=λ{h h' k a d o es ep} x ho hd hs=>⟨KIs.keep (λb its ⟨ob,h1,h2,n,h3⟩=>⟨ob,(hs.2 b λe=>by
  subst e;rw [ho] at h1; cases h1;rw [hd] at h3; cases h3).trans h1,h2,n,h3⟩) 5 x.2 x.1,x.2⟩
 pyHash:=λhu hk h=>Qp6 5 hk.2 hu hk.1 h
 eqBool:=λhu hx hy h=>Qxa 5 hx.2 hy.2 hu hx.1 hy.1 prog w _ _ h
 quiet:=λhk h=>Qiu 5 8 (by decide) hk.2 hk.1 h
end
theorem Q8w (prog:aK) (w:aJ) (i:Int) (t:Tok):(Yh prog w).is (.inl i) (.int i t)=zb:=Q0i i t
theorem Q8v (prog:aK) (w:aJ) (x:Str) (t:Tok):(Yh prog w).is (.inr x) (.str x t)=zb:=Q0h x t
end
inductive V where
 | non | bl (b:Bool) | int (i:Int) | str (x:Str) | byt (b:Array UInt8) | flt (b:UInt64) | ref (a:aB) | ty (n:String)
 deriving DecidableEq
variable {v:V} {vs:List V}
def RelV:V->aA->Prop
 | .non,u=>u=ba
 | .bl b,u=>u=cm b
 | .int i,u=>∃ t,u=dY i t
 | .str x,u=>∃ t,u=dZ x t
 | .byt b,u=>∃ t,u=Value.bytes b t
 | .flt b,u=>∃ t,u=fo b t
 | .ref a,u=>u=bZ a
 | .ty n,u=>u=bj n
abbrev Vals:List V->List aA->Prop:=aR RelV
theorem Vals.length {xs:List V} (r:Vals xs us):xs.length=us.length:=Paired.length r
theorem Vals.get:∀ {xs:List V} {us:List aA} {i:Nat} {x:V},Vals xs us->xs[i]?=zo x->∃ u,us[i]?=zo u/\RelV x u
 | _,_,_,_,.nil,e=>by simp at e
 | _,_,0,_,.cons r _,e=>by simp at e; subst e; exact ⟨_,rfl,r⟩
 | _,_,i + 1,x,.cons _ t,e=>by
  obtain ⟨u,h1,h2⟩:=Vals.get (i:=i) (x:=x) t (by simpa using e);exact ⟨u,by simpa using h1,h2⟩
theorem Vals.set {x:V} (r:RelV x u):∀ {xs:List V} {us:List aA} (i:Nat),Vals xs us->Vals (xs.set i x) (us.set i u)
 | _,_,_,.nil=>.nil
 | _,_,0,.cons _ t=>.cons r t
 | _,_,i + 1,.cons q t=>.cons q (Vals.set r i t)
theorem Vals.append:∀ {xs ys:List V} {us ws:List aA},Vals xs us->Vals ys ws->Vals (xs ++ ys) (us ++ ws)
 | _,_,_,_,.nil,s=>s
 | _,_,_,_,.cons r t,s=>.cons r (Vals.append t s)
theorem Vals.take:∀ {xs:List V} {us:List aA} (n:Nat),Vals xs us->Vals (xs.take n) (us.take n)
 | _,_,0,_=>.nil
 | _,_,_ + 1,.nil=>.nil
 | _,_,n + 1,.cons r t=>.cons r (Vals.take n t)
theorem Vals.drop:∀ {xs:List V} {us:List aA} (n:Nat),Vals xs us->Vals (xs.drop n) (us.drop n)
 | _,_,0,r=>r
 | _,_,_ + 1,.nil=>.nil
 | _,_,n + 1,.cons _ t=>Vals.drop n t
def RelO:Option V->Option aA->Prop
 | some v,zo u=>RelV v u
 | none,zl=>True
 | _,_=>False
def KV {κ:Type}:List (κ × V)->List (κ × aA)->Prop:=aR λ(p:κ × V) (q:κ × aA)=>p.1=q.1/\RelV p.2 q.2
def kV:Key->V
 | .inl i=>.int i
 | .inr x=>.str x
inductive HO where
 | lst (xs:List V)
 | tup (xs:List V)
 | dK (kvs:List (Key × V)) | dT (kvs:List (HK × V))
 | set (S:Int->Bool) (n:Nat)
 | ins (C dx:aB) (fs:List (Str × V))
 | own (x:aB)
 | xd (fs:List (Str × V))
 | met (f x:aB)
 | rng (lo hi:Int)
 | frz (o:Obj) (u:HO)
 | tbl (ps:Array aA)
 | ext (φ:Heap->Prop)
variable {o:HO}
abbrev Hp:=aB->Option HO
variable {H:Hp}
def upd (H:Hp) (a:aB) (o:HO):Hp:=λb=>if b=a then zo o else H b
theorem Qw :upd H a o a=zo o:=by unfold upd; rw [bT rfl]
theorem Qa (h:b≠a):upd H a o b=H b:=by unfold upd; rw [bU h]
theorem Qi4 {u:HO} (h:H a=zo o) (h':H b=zo u) (d:o≠u):a≠b:=by
 intro e; subst e; rw [h] at h'; exact d (bn h')
theorem Qc (h:H a=zo o) (h':H b=zl):a≠b:=by
 intro e; subst e; rw [h] at h'; cases h'
mutual
def KAt (H:Hp):HK->V->Prop
 | .int i,v=>v=.int i
 | .str x,v=>v=.str x
 | .tup l,v=>∃ a vs,v=.ref a/\H a=zo (.tup vs)/\KAtL H l vs
def KAtL (H:Hp):List HK->List V->Prop
 | [],vs=>vs=[]
 | k :: l,vs=>∃ v r,vs=v :: r/\KAt H k v/\KAtL H l r
end
mutual
theorem KAt.keep {H':Hp} (q:∀ b xs,H b=zo (.tup xs)->H' b=zo (.tup xs)):∀ {k:HK} {v:V},KAt H k v->KAt H' k v
 | .int _,_,r=>r
 | .str _,_,r=>r
 | .tup _,_,⟨a,vs,e,h,r⟩=>⟨a,vs,e,q a vs h,KAtL.keep q r⟩
theorem KAtL.keep {H':Hp} (q:∀ b xs,H b=zo (.tup xs)->H' b=zo (.tup xs)):∀ {l:List HK} {vs:List V},KAtL H l vs->KAtL H' l vs
 | [],_,r=>r
 | _ :: _,_,⟨v,r,e,h,t⟩=>⟨v,r,e,KAt.keep q h,KAtL.keep q t⟩
end
def KR (H:Hp) (k:HK) (b:aB):Prop:=KAt H k (.ref b)/\Dp 5 k
theorem KR.keep {H':Hp} {k:HK} (r:KR H k b) (q:∀ b xs,H b=zo (.tup xs)->H' b=zo (.tup xs)):KR H' k b:=⟨r.1.keep q,r.2⟩
section
variable (P:aK) (w:aJ)
def ObjOk (H:Hp) (h:Heap) (a:aB):HO->Prop
 | .lst xs=>xs.length<=sizeLine/\∃ (its:List aA) (n:Nat),Vals xs its/\h.get? a=zo { cls:=.type "list",data:=.seq its.toArray n }
 | .tup xs=>xs.length<=sizeLine/\∃ its:List aA,Vals xs its/\IsTup h a its.toArray
 | .dK kvs=>kvs.length<=sizeLine/\(a == ar)=yo/\∃ vs,KV kvs vs/\h.DictOf (Yh P w) a vs
 | .dT kvs=>kvs.length<=sizeLine/\(a == ar)=yo/\∃ xs:List (HK × aB × aA),
   aR (λ(p:HK × V) (q:HK × aB × aA)=>p.1=q.1/\KR H p.1 q.2.1/\RelV p.2 q.2.2) kvs xs /\
   ∃ o es ep,h.get? a=zo o/\o.ExactDict/\o.data=.dict es ep/\es.toList=xs.map (entryOfKey (nk P w))/\(xs.map (·.1)).Nodup
 | .set S n=>h.SetOf (intKind P w) a S n
 | .ins C dx fs=>H dx=zo (.own a)/\fs.length<=1000/\dx≠a/\h.get? a=zo (eW C dx) /\
   ∃ mA,h.Ns1 dx mA/\(∀ f,RelO (fs.lookup f) (mA f))/\fq mA (fs.map (·.1))
 | .own _=>∃ o,h.get? a=zo o
 | .xd fs=>∃ mA,h.Ns1 a mA/\∀ f,RelO (fs.lookup f) (mA f)
 | .rng lo hi=>∃ t u v,h.get? a=zo { cls:=.type "range",data:=.fields #[.int lo t,.int hi u,.int 1 v] }
 | .frz o u=>h.get? a=zo o/\ObjOk H h a u
 | .tbl ps=>h.get? a=zo { cls:=.none,data:=.fields ps }
 | .met f x=>h.get? a=zo (eX (.ref f) (.ref x))
 | .ext φ=>φ h/\(∃ o,h.get? a=zo o)/\∀ h1 h2:Heap,φ h1->(∀ o,h1.get? a=zo o->h2.get? a=zo o)->φ h2
def HOk (H:Hp) (h:Heap):Prop:=∀ a o,H a=zo o->ObjOk P w H h a o
end
variable {P:aK} {H H':Hp} {h h':Heap} {a:aB} {o:HO}
section
variable {w:aJ}
theorem ObjOk.lt (x:ObjOk P w H h a o):a < h.objs.size:=by
 cases o with
 | lst xs=>obtain ⟨_,_,_,_,e⟩:=x; exact O7 e
 | tup xs=>obtain ⟨_,_,_,p⟩:=x; exact p.lt
 | dK q=>obtain ⟨_,_,_,_,o,_,_,e,_⟩:=x; exact O7 e
 | dT q=>obtain ⟨_,_,_,_,o,_,_,e,_⟩:=x; exact O7 e
 | set S n=>obtain ⟨o,_,_,_,e,_⟩:=x; exact O7 e
 | ins C dx fs=>obtain ⟨_,_,_,e,_⟩:=x; exact O7 e
 | own y=>obtain ⟨_,e⟩:=x; exact O7 e
 | xd fs=>obtain ⟨_,⟨_,_,_,e,_⟩,_⟩:=x; exact O7 e
 | rng lo hi=>obtain ⟨_,_,_,e⟩:=x; exact O7 e
 | frz ob u=>obtain ⟨e,_⟩:=x; exact O7 e
 | tbl ps=>exact O7 (show h.get? a=zo _ from x)
 | met f y=>exact O7 (show h.get? a=zo _ from x)
 | ext G=>obtain ⟨_,⟨_,e⟩,_⟩:=x; exact O7 e
theorem Paired.mapP {β:Type} {F G:α->β->Prop}:∀ {l₁:List α} {q:List β},aR F l₁ q->(∀ a b,F a b->G a b)->aR G l₁ q
 | _,_,.nil,_=>.nil
 | _,_,.cons r t,f=>.cons (f _ _ r) (Paired.mapP t f)
theorem ObjOk.stay (x:ObjOk P w H h a o) (k:∀ b u,(b=a\/H b=zo (.own a))->h.get? b=zo u->h'.get? b=zo u)
  (J:∀ b,H b=zo (.own a)->H' b=zo (.own a)) (Z:∀ b xs,H b=zo (.tup xs)->H' b=zo (.tup xs)):ObjOk P w H' h' a o:=by
 induction o with
 | lst xs=>obtain ⟨z,its,n,r,e⟩:=x; exact ⟨z,its,n,r,k _ _ (.inl rfl) e⟩
 | tup xs=>obtain ⟨z,its,r,ob,e,c⟩:=x; exact ⟨z,its,r,ob,k _ _ (.inl rfl) e,c⟩
 | dK G=>obtain ⟨z,y,vs,r,ob,es,ep,e,c⟩:=x; exact ⟨z,y,vs,r,ob,es,ep,k _ _ (.inl rfl) e,c⟩
 | dT G=>
  obtain ⟨z,y,xs,r,ob,es,ep,e,c⟩:=x;exact ⟨z,y,xs,Paired.mapP r λp q z=>⟨z.1,z.2.1.keep Z,z.2.2⟩,ob,es,ep,k _ _ (.inl rfl) e,c⟩
 | set S n=>obtain ⟨ob,es,ep,t,e,c⟩:=x; exact ⟨ob,es,ep,t,k _ _ (.inl rfl) e,c⟩
 | ins C dx fs=>
  obtain ⟨d,z,ne,e,mA,⟨I,es,ep,O,c⟩,r⟩:=x;exact ⟨J _ d,z,ne,k _ _ (.inl rfl) e,mA,⟨I,es,ep,k _ _ (.inr d) O,c⟩,r⟩
 | own y=>obtain ⟨ob,e⟩:=x; exact ⟨ob,k _ _ (.inl rfl) e⟩
 | xd fs=>obtain ⟨mA,⟨I,es,ep,e,c⟩,r⟩:=x; exact ⟨mA,⟨I,es,ep,k _ _ (.inl rfl) e,c⟩,r⟩
 | rng lo hi=>obtain ⟨t,u,v,e⟩:=x; exact ⟨t,u,v,k _ _ (.inl rfl) e⟩
 | frz ob u Y=>obtain ⟨e,q⟩:=x; exact ⟨k _ _ (.inl rfl) e,Y q⟩
 | tbl ps=>
  have e:h.get? a=zo { cls:=.none,data:=.fields ps }:=x;show h'.get? a=zo { cls:=.none,data:=.fields ps };exact k a _ (.inl rfl) e
 | met f y=>
  have e:h.get? a=zo (eX (.ref f) (.ref y)):=x;show h'.get? a=zo (eX (.ref f) (.ref y));exact k a _ (.inl rfl) e
 | ext φ=>obtain ⟨p,⟨o,e⟩,st⟩:=x; exact ⟨st _ _ p λo q=>k _ _ (.inl rfl) q,⟨o,k _ _ (.inl rfl) e⟩,st⟩
theorem HOk.lt (x:HOk P w H h) (e:H a=zo o):a < h.objs.size:=(x a o e).lt
theorem HOk.fresh (x:HOk P w H h) (e:h.objs.size<=a):H a=zl:=by
 cases q:H a with
 | none=>rfl
 | some u=>exact absurd (D1 (x.lt q) e) (L4 _)
theorem HOk.kept (x:HOk P w H h) (k:∀ b u,h.get? b=zo u->h'.get? b=zo u):HOk P w H h':=λa o e=>
 (x a o e).stay (λb u _ q=>k b u q) (λ_ q=>q) λ_ _ q=>q
theorem HOk.laid (x:HOk P w H h) (k:∀ b u,h.get? b=zo u->h'.get? b=zo u) (J:h.objs.size<=a) (new:ObjOk P w (upd H a o) h' a o):HOk P w (upd H a o) h':=λb u e=>by
 have G:=x.fresh J
 by_cases I:b=a
 ·subst I; rw [Qw] at e; cases e; exact new
 ·rw [Qa I] at e;exact (x b u e).stay (λc v _ q=>k c v q) (λc q=>by rw [Qa (Qc q G)]; exact q) λc xs q=>by rw [Qa (Qc q G)]; exact q
end
def Rd (H:Hp) (a:aB) (u:HO):Prop:=H a=zo u\/∃ o,H a=zo (.frz o u)
theorem Rd.ok {w:aJ} {u:HO} (r:Rd H a u) (x:HOk P w H h):ObjOk P w H h a u:=by
 rcases r with r | ⟨o,r⟩
 ·exact x a u r
 ·obtain ⟨_,q⟩:=x a _ r;exact q
def Mut:Option HO->Prop
 | some (.lst _)=>True
 | some (.dK _)=>True
 | some (.dT _)=>True
 | some (.set _ _)=>True
 | some (.ins _ _ _)=>True
 | some (.ext _)=>True
 | _=>False
variable {x e:aB} {o':HO}
section
variable {w:aJ}
theorem HOk.write (ok:HOk P w H h) (Z:Mut (H x)) (he:e=x\/H e=zo (.own x)) (k:∀ b u,b≠e->h.get? b=zo u->h'.get? b=zo u) (a1:∃ u,h'.get? e=zo u)
  (new:ObjOk P w (upd H x o') h' x o'):HOk P w (upd H x o') h':=λb u q=>by
 have I:∀ c y,H c=zo (.own y)->c≠x:=λc y r z=>by subst z; rw [r] at Z; exact Z
 have J:∀ c xs,H c=zo (.tup xs)->c≠x:=λc xs r z=>by subst z; rw [r] at Z; exact Z
 by_cases O:b=x
 ·subst O; rw [Qw] at q; cases q; exact new
 ·rw [Qa O] at q
  by_cases G:b=e
  ·have q':H b=zo (.own x):=by
    rcases he with z | z
    ·exact absurd (G.trans z) O
    ·rw [G]; exact z
   rw [q] at q'; cases q';obtain ⟨v,hv⟩:=a1;exact ⟨v,by rw [G]; exact hv⟩
  ·refine (ok b u q).stay (λc v Y r=>k c v ?_ r) (λc r=>by rw [Qa (I c b r)]; exact r) λc xs r=>by rw [Qa (J c xs r)]; exact r
   rcases Y with rfl | Y
   ·exact G
   ·rintro rfl;rcases he with z | z
    ·exact I c b Y z
    ·rw [Y] at z; cases z; exact O rfl
end
structure Un (fs ex:List aB) (H H':Hp) (h h':Heap):Prop where
 keep:∀ b o,h.get? b=zo o->H b=zl->b∉fs->b∉ex->h'.get? b=zo o
 slot:∀ b o,h.get? b=zo o->H b=zl->b∈fs->b∉ex->∃ sl,h'.get? b=zo { o with slots:=sl }
 free:∀ b o,h.get? b=zo o->H b=zl->b∉ex->H' b=zl
 there:∀ b o,h.get? b=zo o->b∉ex->∃ o',h'.get? b=zo o'
 tups:∀ b xs,H b=zo (.tup xs)->H' b=zo (.tup xs)
 frzs:∀ b o u,H b=zo (.frz o u)->H' b=zo (.frz o u)
 tbls:∀ b ps,H b=zo (.tbl ps)->∃ more,H' b=zo (.tbl (ps ++ more))
variable {fs' ex ex':List aB} {H1 H2:Hp} {h1 h2:Heap}
section
variable {fs:List aB}
theorem Un.any (u:Un fs ex H H1 h h1) {ob:Obj} (q:h.get? b=zo ob) (n:H b=zl) (I:b∉ex):∃ J,h1.get? b=zo { ob with slots:=J }:=by
 by_cases G:b∈fs
 ·exact u.slot b ob q n G I
 ·exact ⟨ob.slots,u.keep b ob q n G I⟩
theorem Un.kept (k:∀ b u,h.get? b=zo u->h'.get? b=zo u):Un fs ex H H h h':=
 ⟨λb ob q _ _ _=>k b ob q,λb ob q _ _ _=>⟨ob.slots,k b ob q⟩,λ_ _ _ n _=>n,λb ob q _=>⟨ob,k b ob q⟩,λ_ _ q=>q,λ_ _ _ q=>q,λ_ ps q=>⟨#[],by rw [q]; simp⟩⟩
theorem Un.refl:Un fs ex H H h h:=Un.kept λ_ _ q=>q
theorem Un.laid (k:∀ b u,h.get? b=zo u->h'.get? b=zo u) (I:h.objs.size<=a) (G:H a=zl):Un fs ex H (upd H a o) h h' where
 keep:=λb u q _ _ _=>k b u q
 slot:=λb u q _ _ _=>⟨u.slots,k b u q⟩
 free:=λb u q n _=>by rw [Qa (D8 (D1 (O7 q) I))]; exact n
 there:=λb u q _=>⟨u,k b u q⟩
 tups:=λb xs q=>by rw [Qa (Qc q G)]; exact q
 frzs:=λb u xs q=>by rw [Qa (Qc q G)]; exact q
 tbls:=λb ps q=>⟨#[],by rw [Qa (Qc q G),q]; simp⟩
theorem Un.write (I:Mut (H x)) (Z:e=x\/H e=zo (.own x)) (k:∀ b u,b≠e->h.get? b=zo u->h'.get? b=zo u) (J:∃ u,h'.get? e=zo u):Un fs ex H (upd H x o) h h':=by
 have Y:∀ b,H b=zl->b≠x:=λb n z=>by subst z; rw [n] at I; exact I
 have O:∀ b,H b=zl->b≠e:=λb n z=>by
  subst z;rcases Z with r | r
  ·exact Y b n r
  ·rw [n] at r; cases r
 have hm:∀ b u,H b=zo u->¬ Mut (zo u)->b≠x:=λb u q nm z=>by subst z; rw [q] at I; exact nm I
 refine ⟨λb u q n _ _=>k b u (O b n) q,λb u q n _ _=>⟨u.slots,k b u (O b n) q⟩,λb u q n _=>by rw [Qa (Y b n)]; exact n,λb u q _=>?_,
  λb xs q=>by rw [Qa (hm b _ q λz=>z)]; exact q,λb u xs q=>by rw [Qa (hm b _ q λz=>z)]; exact q,λb ps q=>⟨#[],by rw [Qa (hm b _ q λz=>z),q]; simp⟩⟩
 by_cases G:b=e
 ·subst G; exact J
 ·exact ⟨u,k b u G q⟩
end
def trk (h:Heap) (H:Hp):List aB:=(bY h.objs.size).filter λa=>(H a).isSome
def Q76 (h:Heap) (H:Hp):Heap:=dg h (trk h H)
theorem Qez (h:Heap) (H:Hp):(Q76 h H).objs.size=h.objs.size:=PySem.W.hideAll_size _ _
theorem Qj1 {o:Obj} (e:h.get? b=zo o) (n:H b=zl):(Q76 h H).get? b=zo o:=
 dh _ e λhm=>by
  have q:(H b).isSome=zb:=(cN.mp hm).2;rw [n] at q; simp at q
theorem Qnb {o:Obj} (e:(Q76 h H).get? b=zo o):h.get? b=zo o/\H b=zl:=by
 have G:h.get? b=zo o:=ft (trk h H) e;refine ⟨G,?_⟩;cases q:H b with
 | none=>rfl
 | some x=>
  have hm:b∈trk h H:=cN.mpr ⟨cF.mpr (O7 G),by simp [q]⟩;have z:(Q76 h H).get? b=zl:=fu (trk h H) hm;rw [z] at e; cases e
def Qpx (g h:Heap) (L:aB):zAA:=(bY h.objs.size).filterMap λa=>if a=L\/(g.get? a).isSome=zb then zl else (h.get? a).map λo=>(a,o)
def rest (g h:Heap) (L d:aB):zAA:=(Qpx g h L).filter λp=>decide (p.1≠d)
structure Mod (K:bX) (mg:zAE) (base:Heap):Prop where
 kin:K.In base
 glob:base.Ns aV mg
 blt:∃ mb,base.Ns builtinsNs mb/\∀ x:Str,x≠"__name__" -> mb x=aX x
 nolimit:base.NoLimit
structure Cx where
 prog:aK
 w:aJ
 K:bX
 mg:Str->Option aA
 base:Heap
 A:aL
 N:List Str
 s₀:aC
 H₀:Hp
 env:Env
 outer:List Env
 stack:List Env
 ex:List aB
 fn:Str->Bool
 calm:Bool
 pn:zAA
 xe:aA->aC->Prop
def frs (l:List Env):List aB:=l.filterMap (·.frame)
abbrev Cx.fs (X:Cx):List aB:=frs X.outer
def Vis (sc:Scope) (x:Str):Prop:=sc.names.lookup x=zo .local\/sc.names.lookup x=zo .cell\/sc.names.lookup x=zo .free
def Loc (sc:Scope) (x:Str):Prop:=sc.names.lookup x=zo .local\/sc.names.lookup x=zo .cell
def J09 (env:Env) (h:Heap) (m:zAE) (x:Str) (u:aA):Prop:=
 (env.kindOf x=zo .local/\m x=zo u)\/((env.kindOf x=zo .cell\/env.kindOf x=zo .free)/\∃ c,env.cells.lookup x=zo c/\h.IsCell c (zo u))
structure Cx.Ok (X:Cx):Prop where
 mod:Mod X.K X.mg X.base
 kind:X.env.scope.kind=.function
 glob:X.env.globals=aV
 blt:X.env.builtins=builtinsNs
 above:X.s₀.heap.objs.size<=X.env.locals
 inj:∀ x y c,X.env.cells.lookup x=zo c->X.env.cells.lookup y=zo c->x=y
 has:∀ x,(X.env.kindOf x=zo .cell\/X.env.kindOf x=zo .free)->∃ c,X.env.cells.lookup x=zo c
 cab:∀ x c,X.fn x=zb->X.env.cells.lookup x=zo c->X.s₀.heap.objs.size<=c
 hd:X.calm=zb->X.A.handled=zl
 frames:X.A.frames=zo X.stack
 stk:X.stack=X.outer\/(X.stack=X.env :: X.outer/\X.env.frame=zo X.env.locals)
 exf:∀ b∈X.ex,b≠X.env.locals/\∀ x c,X.env.cells.lookup x=zo c->c≠b
 bs:∀ b o,X.base.get? b=zo o->X.s₀.heap.get? b=zo o/\X.H₀ b=zl
 bsz:X.base.objs.size<=X.s₀.heap.objs.size
 noex:∀ b o,X.base.get? b=zo o->b∉X.ex
 exfs:∀ b∈X.ex,b∉X.fs
 funs:X.s₀.heap.FunFrames X.base X.outer
 frf:∀ b∈X.fs,X.H₀ b=zl
structure Inv (X:Cx) (pins:zAA) (σ:List (Option V)) (H:Hp) (s:aC):Prop where
 ok:X.Ok
 os:s.os=X.s₀.os
 bare:AllBare s.gens
 base:Un X.fs X.ex X.H₀ H X.s₀.heap s.heap
 loc:∃ m,s.heap.Ns X.env.locals m/\∀ (i:Nat) (x:Str) (v:V),X.N[i]?=zo x->σ[i]?=zo (zo v)->Vis X.env.scope x->∃ u,RelV v u/\J09 X.env s.heap m x u
 cell:∀ x c,X.env.cells.lookup x=zo c->∃ v,s.heap.IsCell c v
 free:H X.env.locals=zl
 freeC:∀ x c,X.env.cells.lookup x=zo c->H c=zl
 pin:∀ p∈X.pn ++ pins,s.heap.get? p.1=zo p.2/\H p.1=zl/\p.1≠X.env.locals/\p.1∉X.fs/\∀ v,p.2.data≠.cell v
 hok:HOk X.prog X.w H s.heap
 len:σ.length=X.N.length
variable {X:Cx} {pins:zAA} {σ:List (Option V)} {s:aC}
theorem Cx.Ok.nofr (ok:X.Ok) {o:Obj} (e:X.base.get? b=zo o):b∉X.fs:=λq=>by
 have:=(ok.funs.mem q).1;rw [e] at this; cases this
theorem Inv.bs (I:Inv X pins σ H s):∀ b o,X.base.get? b=zo o->s.heap.get? b=zo o/\H b=zl:=λb o e=>
 ⟨I.base.keep b o (I.ok.bs b o e).1 (I.ok.bs b o e).2 (I.ok.nofr e) (I.ok.noex b o e),I.base.free b o (I.ok.bs b o e).1 (I.ok.bs b o e).2 (I.ok.noex b o e)⟩
theorem Inv.bk (I:Inv X pins σ H s):∀ b o,X.base.get? b=zo o->s.heap.get? b=zo o:=λb o e=>(I.bs b o e).1
theorem Inv.mod (I:Inv X pins σ H s):Mod X.K X.mg X.base:=I.ok.mod
theorem Inv.kIn (I:Inv X pins σ H s):X.K.In s.heap:=I.ok.mod.kin.keeps I.bk
theorem Inv.lt (I:Inv X pins σ H s):X.env.locals < s.heap.objs.size:=let ⟨_,q,_⟩:=I.loc; q.lt
theorem Inv.sz (I:Inv X pins σ H s):X.s₀.heap.objs.size<=s.heap.objs.size:=D9 I.ok.above (cn I.lt)
theorem Inv.nofs (I:Inv X pins σ H s) (h:s.heap.objs.size<=a):a∉X.fs:=λq=>by
 obtain ⟨_,o,G,_⟩:=I.ok.funs.mem q;exact absurd (D1 (O7 G) (D9 I.sz h)) (L4 _)
theorem Inv.cne (I:Inv X pins σ H s):∀ x c,X.env.cells.lookup x=zo c->c≠X.env.locals:=λx c e z=>by
 obtain ⟨v,o,J,hd⟩:=I.cell x c e;obtain ⟨m,⟨o',es,ep,G,q,_⟩,_⟩:=I.loc;rw [z,G] at J; cases J; rw [q] at hd; cases hd
theorem Inv.funs (I:Inv X pins σ H s):s.heap.FunFrames X.base X.outer:=by
 have all:∀ (l:List Env),(∀ b∈frs l,b∈X.fs)->X.s₀.heap.FunFrames X.base l->s.heap.FunFrames X.base l:=by
  intro l
  induction l with
  | nil=>intro _ _; trivial
  | cons env r Z=>
   intro hs O;obtain ⟨hk,⟨L,o,G,Y,ho,hd⟩,hr⟩:=O;have q:L∈X.fs:=hs L (by unfold frs; rw [cU,G]; exact F4);obtain ⟨sl,e⟩:=I.base.slot L o ho (I.ok.frf L q) q λz=>I.ok.exfs L z q
   exact ⟨hk,⟨L,_,G,Y,e,hd⟩,Z (λb J=>hs b (by unfold frs; rw [cU,G]; exact O4 _ J)) hr⟩
 exact all X.outer (λ_ J=>J) I.ok.funs
theorem Inv.stack (I:Inv X pins σ H s):s.heap.FunFrames X.base X.stack:=by
 rcases I.ok.stk with e | ⟨e,G⟩
 ·rw [e]; exact I.funs
 ·rw [e];obtain ⟨m,q,_⟩:=I.loc;refine .cons (by rw [I.ok.kind]; decide) G q ?_ I.funs;exact Heap.get?_none_of_le (D9 I.ok.bsz I.ok.above)
theorem Inv.stkSub (I:Inv X pins σ H s):∀ b∈frs X.stack,b∈X.env.locals :: X.fs:=λb q=>by
 rcases I.ok.stk with e | ⟨e,G⟩
 ·rw [e] at q; exact O4 _ q
 ·rw [e] at q;unfold frs at q;rw [cU,G] at q;exact q
theorem Inv.stkFree (I:Inv X pins σ H s):∀ b∈frs X.stack,H b=zl:=λb q=>by
 rcases D6.mp (I.stkSub b q) with e | q
 ·rw [e]; exact I.free
 ·obtain ⟨_,o,G,_⟩:=I.ok.funs.mem q;exact I.base.free b o G (I.ok.frf b q) λz=>I.ok.exfs b z q
theorem Inv.step {g':Array GenState} {t':Nat} {d':Drawn} {ch:List aB} (I:Inv X pins σ H s)
  (J:∀ b∈ch,(b∈X.ex\/X.s₀.heap.objs.size<=b)/\b≠X.env.locals/\(∀ x c,X.env.cells.lookup x=zo c->c≠b)/\∀ p∈X.pn ++ pins,p.1≠b)
  (keep:∀ b o,b≠X.env.locals->b∉X.fs->b∉ch->s.heap.get? b=zo o->H b=zl->h'.get? b=zo o)
  (slot:∀ b o,b≠X.env.locals->b∈X.fs->b∉ch->s.heap.get? b=zo o->H b=zl->∃ sl,h'.get? b=zo { o with slots:=sl }) (free:∀ b o,b∉ch->s.heap.get? b=zo o->H b=zl->H' b=zl)
  (there:∀ b o,b∉ch->s.heap.get? b=zo o->∃ o',h'.get? b=zo o')
  (tups:∀ b xs,H b=zo (.tup xs)->H' b=zo (.tup xs)) (frzs:∀ b o u,H b=zo (.frz o u)->H' b=zo (.frz o u)) (tbls:∀ b ps,H b=zo (.tbl ps)->∃ more,H' b=zo (.tbl (ps ++ more)))
  (ns:∀ m,s.heap.Ns X.env.locals m->h'.Ns X.env.locals m) (hok:HOk X.prog X.w H' h') (hg:AllBare g') :
  Inv X pins σ H' { s with heap:=h',gens:=g',drawn:=d',toks:=t' }:=by
 have a1:∀ b o,X.s₀.heap.get? b=zo o->b≠X.env.locals:=λb o e=>D8 (D1 (O7 e) I.ok.above)
 have Z:∀ b o,X.s₀.heap.get? b=zo o->b∉X.ex->b∉ch:=λb o e G hb=>by
  rcases (J b hb).1 with z | z
  ·exact G z
  ·exact absurd (D1 (O7 e) z) (L4 _)
 have O:∀ x c,X.env.cells.lookup x=zo c->∀ v,s.heap.IsCell c v->h'.IsCell c v:=λx c e v ⟨o,ho,hd⟩=>by
  have Y:c∉ch:=λz=>(J c z).2.2.1 x c e rfl
  by_cases hc:c∈X.fs
  ·obtain ⟨sl,q⟩:=slot c o (I.cne x c e) hc Y ho (I.freeC x c e);exact ⟨_,q,hd⟩
  ·exact ⟨o,keep c o (I.cne x c e) hc Y ho (I.freeC x c e),hd⟩
 refine ⟨I.ok,I.os,hg,⟨λb o e n hb G=>?_,λb o e n hb G=>?_,λb o e n G=>?_,λb o e G=>?_,λb xs e=>tups b xs (I.base.tups b xs e),λb o xs e=>frzs b o xs (I.base.frzs b o xs e),λb ps e=>?_⟩,?_,λx c e=>?_,?_,λx c e=>?_,λp hp=>?_,hok,I.len⟩
 ·exact keep b o (a1 b o e) hb (Z b o e G) (I.base.keep b o e n hb G) (I.base.free b o e n G)
 ·obtain ⟨sl,e1⟩:=I.base.slot b o e n hb G;obtain ⟨a2,e2⟩:=slot b _ (a1 b o e) hb (Z b o e G) e1 (I.base.free b o e n G);exact ⟨a2,e2⟩
 ·obtain ⟨o',e1⟩:=I.base.there b o e G;exact free b o' (Z b o e G) e1 (I.base.free b o e n G)
 ·obtain ⟨o',e1⟩:=I.base.there b o e G;exact there b o' (Z b o e G) e1
 ·obtain ⟨m1,e1⟩:=I.base.tbls b ps e;obtain ⟨m2,e2⟩:=tbls b _ e1;exact ⟨m1 ++ m2,by rw [e2,fv]⟩
 ·obtain ⟨m,hn,hl⟩:=I.loc;refine ⟨m,ns m hn,λi x v e1 e2 e3=>?_⟩;obtain ⟨u,r,l⟩:=hl i x v e1 e2 e3;refine ⟨u,r,?_⟩;rcases l with l | ⟨k,c,e,z⟩
  ·exact .inl l
  ·exact .inr ⟨k,c,e,O x c e _ z⟩
 ·obtain ⟨v,z⟩:=I.cell x c e;exact ⟨v,O x c e v z⟩
 ·obtain ⟨m,⟨o,_,_,ho,_⟩,_⟩:=I.loc;exact free _ o (λz=>(J _ z).2.1 rfl) ho I.free
 ·obtain ⟨v,o,ho,hd⟩:=I.cell x c e;exact free c o (λz=>(J c z).2.2.1 x c e rfl) ho (I.freeC x c e)
 ·obtain ⟨e,n,ne,nf,d⟩:=I.pin p hp;have Y:p.1∉ch:=λz=>(J p.1 z).2.2.2 p hp rfl
  exact ⟨keep p.1 p.2 ne nf Y e n,free p.1 p.2 Y e n,ne,nf,d⟩
theorem Inv.un (I:Inv X pins σ H s) (u:Un X.fs [] H H' s.heap h') (hok:HOk X.prog X.w H' h'):Inv X pins σ H' { s with heap:=h',toks:=t' }:=by
 obtain ⟨m,⟨o,es,ep,Y,r⟩,_⟩:=id I.loc;obtain ⟨sl,hL⟩:=u.any Y I.free (by simp);exact I.step (g':=s.gens) (d':=s.drawn) (ch:=[]) (λ_ z=>nomatch z) (λb o _ O _ e n=>u.keep b o e n O (by simp)) (λb o _ O _ e n=>u.slot b o e n O (by simp)) (λb o _ e n=>u.free b o e n (by simp)) (λb o _ e=>u.there b o e (by simp)) u.tups u.frzs u.tbls (λm' hm=>by
  obtain ⟨o',G,J,q,Z⟩:=hm;rw [Y] at q; cases q;exact ⟨_,G,J,hL,Z⟩) hok I.bare
theorem Inv.call {t':Nat} {d':Drawn} (I:Inv X pins σ H s) (u:Un (frs X.stack) ch H H' s.heap h') (hok:HOk X.prog X.w H' h') (hg:AllBare g')
  (J:∀ b∈ch,(b∈X.ex\/X.s₀.heap.objs.size<=b)/\b≠X.env.locals/\(∀ x c,X.env.cells.lookup x=zo c->c≠b)/\∀ p∈X.pn ++ pins,p.1≠b) :
  Inv X pins σ H' { s with heap:=h',gens:=g',drawn:=d',toks:=t' }:=by
 obtain ⟨m,⟨o,es,ep,ho,r⟩,_⟩:=id I.loc;obtain ⟨sl,Y⟩:=u.any ho I.free λz=>(J _ z).2.1 rfl
 exact I.step (ch:=ch) J (λb o Y hb q e n=>u.keep b o e n (λz=>(D6.mp (I.stkSub b z)).elim Y hb) q) (λb o _ _ q e n=>u.any e n q) (λb o q e n=>u.free b o e n q) (λb o q e=>u.there b o e q) u.tups u.frzs u.tbls (λm' hm=>by
  obtain ⟨o',O,Z,G,r'⟩:=hm;rw [ho] at G; cases G;exact ⟨_,O,Z,Y,r'⟩) hok hg
theorem Inv.turned {t':Nat} (I:Inv X pins σ H s) (k:∀ b o,b≠it->s.heap.get? b=zo o->h'.get? b=zo o) (Y:H it=zl) (O:it≠X.env.locals)
  (h1:it∈X.ex\/X.s₀.heap.objs.size<=it) (h2:∀ x c,X.env.cells.lookup x=zo c->c≠it) (h3:∀ p∈X.pn ++ pins,p.1≠it):Inv X pins σ H { s with heap:=h',toks:=t' }:=by
 have J:∀ b u,H b=zo u->b≠it:=λb u e z=>by rw [z,Y] at e; cases e
 refine I.step (g':=s.gens) (d':=s.drawn) (ch:=[it]) (λb Z=>?_) (λb o _ _ G e _=>k b o (λz=>G (by simp [z])) e) (λb o _ _ G e _=>⟨o.slots,k b o (λz=>G (by simp [z])) e⟩) (λ_ _ _ _ n=>n)
  (λb o G e=>⟨o,k b o (λz=>G (by simp [z])) e⟩) (λ_ _ e=>e) (λ_ _ _ e=>e) (λb ps e=>⟨#[],by rw [e]; simp⟩) (λm hm=>?_) (λb u e=>?_) I.bare
 ·have e:b=it:=by simpa using Z
  subst e;exact ⟨h1,O,h2,h3⟩
 ·obtain ⟨o,es,ep,ho,r⟩:=hm;exact ⟨o,es,ep,k _ o (Ne.symm O) ho,r⟩
 ·refine (I.hok b u e).stay (λc v G q=>k c v ?_ q) (λ_ q=>q) λ_ _ q=>q
  rcases G with z | z
  ·rw [z]; exact J b u e
  ·exact J c _ z
theorem Inv.tok (I:Inv X pins σ H s) (t:Nat):Inv X pins σ H { s with toks:=t }:=I.un (h':=s.heap) (t':=t) Un.refl I.hok
theorem Inv.kept (I:Inv X pins σ H s) (k:∀ b u,s.heap.get? b=zo u->h'.get? b=zo u):Inv X pins σ H { s with heap:=h',toks:=t' }:=I.un (Un.kept k) (I.hok.kept k)
theorem Inv.laid {t':Nat} (I:Inv X pins σ H s) (k:∀ b u,s.heap.get? b=zo u->h'.get? b=zo u) (q:s.heap.objs.size<=a) (new:ObjOk X.prog X.w (upd H a o) h' a o) :
  Inv X pins σ (upd H a o) { s with heap:=h',toks:=t' }:=I.un (Un.laid k q (I.hok.fresh q)) (I.hok.laid k q new)
theorem Inv.write {o:HO} {t':Nat} (I:Inv X pins σ H s) (J:Mut (H x)) (G:e=x\/H e=zo (.own x)) (k:∀ b u,b≠e->s.heap.get? b=zo u->h'.get? b=zo u) (q:∃ u,h'.get? e=zo u)
  (new:ObjOk X.prog X.w (upd H x o) h' x o):Inv X pins σ (upd H x o) { s with heap:=h',toks:=t' }:=I.un (Un.write J G k q) (I.hok.write J G k q new)
theorem Inv.pins_of {q:zAA} (I:Inv X pins σ H s) (h:∀ p∈q,s.heap.get? p.1=zo p.2/\H p.1=zl/\p.1≠X.env.locals/\p.1∉X.fs/\∀ v,p.2.data≠.cell v):Inv X q σ H s:=
 ⟨I.ok,I.os,I.bare,I.base,I.loc,I.cell,I.free,I.freeC,λp G=>(E3.mp G).elim (λz=>I.pin p (F7 _ z)) (h p),I.hok,I.len⟩
theorem Q8s {N:List Str} (q:N.Nodup) {i j:Nat} {x:Str} (a:N[i]?=zo x) (b:N[j]?=zo x):i=j:=by
 obtain ⟨h1,G⟩:=O3.mp a;obtain ⟨h2,I⟩:=O3.mp b;exact (List.getElem_inj q).mp (G.trans I.symm)
theorem Q52 {M:Model} {A:aL} {E:zAD} {i:Nat} {x:Str} {Q:Unit->aC->Prop} (I:Inv X pins σ H s) (hN:X.N.Nodup) (hi:X.N[i]?=zo x) (Y:Loc X.env.scope x) (r:RelV v u)
  (h:∀ s',Inv X pins (σ.set i (zo v)) H s'->(∃ a,Heap.SameBut a s.heap s'.heap/\(a=X.env.locals\/X.env.cells.lookup x=zo a))->Q () s') (hf:X.fn x=zb\/X.env.scope.names.lookup x=zo .local:=by first | exact .inl rfl | exact .inr rfl | assumption):aF M A (storeName X.env x u) Q E s:=by
 obtain ⟨m,hn,hl⟩:=id I.loc;have a6:(X.env.scope.kind == .class || (X.env.scope.kind == .module && X.env.locals != X.env.globals))=yo:=by rw [I.ok.kind]; rfl
 have a1:i < σ.length:=by rw [I.len]; exact (O3.mp hi).1
 have cne:=I.cne;have J:∀ {a:aB} {h':Heap},(∃ o,s.heap.get? a=zo o/\H a=zl)->Heap.SameBut a s.heap h'->HOk X.prog X.w H h':=λ{a h'} ha hs b ob e=>by
  obtain ⟨_,_,Z⟩:=ha;refine (I.hok b ob e).stay (λc w' O q=>(hs.2 c ?_).trans q) (λ_ q=>q) λ_ _ q=>q
  rintro rfl;rcases O with rfl | O
  ·rw [Z] at e; cases e
  ·rw [Z] at O; cases O
 rcases Y with hk | hk
 ·refine wpAny_storeName_local hk hn (λh' a9 hs=>?_) a6;obtain ⟨oL,_,_,a8,_⟩:=id hn;refine h _ ⟨I.ok,I.os,I.bare,⟨λb o e n hb Y=>?_,λb o e n hb Y=>?_,I.base.free,λb o e Y=>?_,I.base.tups,I.base.frzs,I.base.tbls⟩,⟨_,a9,λj y v' G e2 e3=>?_⟩,λy c e=>?_,I.free,I.freeC,λp hp=>?_,J ⟨oL,a8,I.free⟩ hs,by simpa using I.len⟩ ⟨_,hs,.inl rfl⟩
  ·exact (hs.2 b (D8 (D1 (O7 e) I.ok.above))).trans (I.base.keep b o e n hb Y)
  ·obtain ⟨sl,G⟩:=I.base.slot b o e n hb Y;exact ⟨sl,(hs.2 b (D8 (D1 (O7 e) I.ok.above))).trans G⟩
  ·obtain ⟨o',G⟩:=I.base.there b o e Y;exact ⟨o',(hs.2 b (D8 (D1 (O7 e) I.ok.above))).trans G⟩
  ·by_cases hj:j=i
   ·subst hj;rw [hi] at G; cases G;rw [F0 a1] at e2;cases e2;exact ⟨u,r,.inl ⟨hk,by simp⟩⟩
   ·rw [E9 (Ne.symm hj)] at e2;obtain ⟨u',r',q⟩:=hl j y v' G e2 e3;refine ⟨u',r',?_⟩;rcases q with ⟨k,e⟩ | ⟨k,c,e,z⟩
    ·refine .inl ⟨k,?_⟩;have:y≠x:=λe=>hj (Q8s hN G (e ▸ hi))
     simp [this,e]
    ·exact .inr ⟨k,c,e,z.sameBut hs (cne y c e)⟩
  ·obtain ⟨w',z⟩:=I.cell y c e;exact ⟨w',z.sameBut hs (cne y c e)⟩
  ·obtain ⟨e,n,ne,nf,d⟩:=I.pin p hp;exact ⟨(hs.2 p.1 ne).trans e,n,ne,nf,d⟩
 ·have a2:X.fn x=zb:=by
   rcases hf with z | z
   ·exact z
   ·rw [z] at hk; cases hk
  obtain ⟨c,O⟩:=I.ok.has x (.inl hk);obtain ⟨w',z⟩:=I.cell x c O;refine wpAny_storeName_cell I.ok.kind hk O z (λh' a7 hs=>?_);obtain ⟨oc,a5,a4⟩:=id z;refine h { s with heap:=h' } ⟨I.ok,I.os,I.bare,⟨λb o e n hb Y=>?_,λb o e n hb Y=>?_,I.base.free,λb o e Y=>?_,I.base.tups,I.base.frzs,I.base.tbls⟩,⟨m,hn.sameBut hs (Ne.symm (cne x c O)),λj y v' G e2 e3=>?_⟩,λy c' e=>?_,I.free,I.freeC,λp hp=>?_,J ⟨oc,a5,I.freeC x c O⟩ hs,by simpa using I.len⟩ ⟨c,hs,.inr O⟩
  ·exact (hs.2 b (D8 (D1 (O7 e) (I.ok.cab x c a2 O)))).trans (I.base.keep b o e n hb Y)
  ·obtain ⟨sl,G⟩:=I.base.slot b o e n hb Y;exact ⟨sl,(hs.2 b (D8 (D1 (O7 e) (I.ok.cab x c a2 O)))).trans G⟩
  ·obtain ⟨o',G⟩:=I.base.there b o e Y;exact ⟨o',(hs.2 b (D8 (D1 (O7 e) (I.ok.cab x c a2 O)))).trans G⟩
  ·by_cases hj:j=i
   ·subst hj;rw [hi] at G; cases G;rw [F0 a1] at e2;cases e2;exact ⟨u,r,.inr ⟨.inl hk,c,O,a7⟩⟩
   ·rw [E9 (Ne.symm hj)] at e2;obtain ⟨u',r',q⟩:=hl j y v' G e2 e3;refine ⟨u',r',?_⟩;rcases q with q | ⟨k,c',e,z'⟩
    ·exact .inl q
    ·refine .inr ⟨k,c',e,z'.sameBut hs ?_⟩;rintro rfl;exact hj (Q8s hN G (I.ok.inj _ _ _ e O ▸ hi))
  ·by_cases a3:c'=c
   ·subst a3; exact ⟨_,a7⟩
   ·obtain ⟨w2,z2⟩:=I.cell y c' e;exact ⟨w2,z2.sameBut hs a3⟩
  ·obtain ⟨e,n,ne,nf,d⟩:=I.pin p hp;refine ⟨(hs.2 p.1 ?_).trans e,n,ne,nf,d⟩;intro q;rw [q,a5] at e;have q':oc=p.2:=bn e;exact d w' (by rw [<- q']; exact a4)
theorem Q2d {M:Model} {A:aL} {E:zAD} {i:Nat} {x:Str} {Q:Unit->aC->Prop} (I:Inv X pins σ H s) (q:X.N.Nodup) (hi:X.N[i]?=zo x) (O:Loc X.env.scope x) (r:RelV v u)
  (h:∀ s',Inv X pins (σ.set i (zo v)) H s'->Q () s') (J:X.fn x=zb\/X.env.scope.names.lookup x=zo .local:=by first | exact .inl rfl | exact .inr rfl | assumption):aF M A (storeName X.env x u) Q E s:=
 Q52 I q hi O r (λs' G _=>h s' G) J
theorem Inv.call' {s':aC} (I:Inv X pins σ H s) (J:s'.os=s.os) (u:Un (frs X.stack) ch H H' s.heap s'.heap) (hok:HOk X.prog X.w H' s'.heap) (G:AllBare s'.gens)
  (q:∀ b∈ch,(b∈X.ex\/X.s₀.heap.objs.size<=b)/\b≠X.env.locals/\(∀ x c,X.env.cells.lookup x=zo c->c≠b)/\∀ p∈X.pn ++ pins,p.1≠b):Inv X pins σ H' s':=by
 obtain ⟨h',g',d',t',o'⟩:=s';have e:o'=s.os:=J;subst e;exact I.call (g':=g') (t':=t') (d':=d') u hok G q
abbrev XK:=aA->Option aB->Hp->Prop
abbrev St:=List (Option V)
abbrev VK:=V->Hp->Prop
abbrev TE:=St->Hp->VK->Prop
variable {tl:TE}
abbrev TT:=St->Hp->(Bool->Hp->Prop)->Prop
variable {tc:TT}
abbrev TA:=St->Hp->(List V->Hp->Prop)->Prop
structure Ends where
 nx:St->Hp->Prop
 rt:VK
 bk:St->Hp->Prop:=λ_ _=>False
 ct:St->Hp->Prop:=λ_ _=>False
abbrev TS:=Ends->St->Hp->Prop
variable {tb:TS}
def EP (X:Cx) (pins:zAA) (σ:St) (Q:VK) (u:aA) (s':aC):Prop:=∃ v H',Inv X pins σ H' s'/\RelV v u/\Q v H'
def TP (X:Cx) (pins:zAA) (σ:St) (Q:Bool->Hp->Prop) (b:Bool) (s':aC):Prop:=∃ H',Inv X pins σ H' s'/\Q b H'
def AP (X:Cx) (pins:zAA) (σ:St) (Q:List V->Hp->Prop) (us:List aA) (s':aC):Prop:=∃ vs H',Inv X pins σ H' s'/\Vals vs us/\Q vs H'
def SP (X:Cx) (pins:zAA) (D:Ends) (f:Flow) (s':aC):Prop:=
 match f with
 | .next=>∃ σ' H',Inv X pins σ' H' s'/\D.nx σ' H'
 | .brk=>∃ σ' H',Inv X pins σ' H' s'/\D.bk σ' H'
 | .cont=>∃ σ' H',Inv X pins σ' H' s'/\D.ct σ' H'
 | .ret u=>∃ v σ' H',Inv X pins σ' H' s'/\RelV v u/\D.rt v H'
def PE (X:Cx) (e:aH) (t:TE):Prop:=
 ∀ (pins:zAA) (s:aC) (σ:St) (H:Hp) (Q:VK),Inv X pins σ H s->t σ H Q->aF (aI X.prog X.w) X.A (aO e X.env) (EP X pins σ Q) X.xe s
def PT (X:Cx) (e:aH) (t:TT):Prop:=
 ∀ (pins:zAA) (s:aC) (σ:St) (H:Hp) (Q:Bool->Hp->Prop),Inv X pins σ H s->t σ H Q->aF (aI X.prog X.w) X.A (isTrue e X.env (aO e X.env)) (TP X pins σ Q) X.xe s
def PW (X:Cx) (e:aH) (t:TT):Prop:=
 ∀ (whole:Sem aA) (pins:zAA) (s:aC) (σ:St) (H:Hp) (Q:Bool->Hp->Prop),Inv X pins σ H s->t σ H Q->aF (aI X.prog X.w) X.A (isTrue e X.env whole) (TP X pins σ Q) X.xe s
def PA (X:Cx) (es:List aH) (t:TA):Prop:=
 ∀ (pos:Pos) (pins:zAA) (s:aC) (σ:St) (H:Hp) (Q:List V->Hp->Prop),Inv X pins σ H s->t σ H Q->aF (aI X.prog X.w) X.A (spliced (aY pos (aN es X.env))) (AP X pins σ Q) X.xe s
def PS (X:Cx) (st:aM) (t:TS):Prop:=
 ∀ (pins:zAA) (s:aC) (σ:St) (H:Hp) (D:Ends),Inv X pins σ H s->t D σ H->aF (aI X.prog X.w) X.A (exec st X.env) (SP X pins D) X.xe s
def PSs (X:Cx) (st:List aM) (t:TS):Prop:=
 ∀ (pins:zAA) (s:aC) (σ:St) (H:Hp) (D:Ends),Inv X pins σ H s->t D σ H->aF (aI X.prog X.w) X.A (execs st X.env) (SP X pins D) X.xe s
theorem thn {t:Sem α} {Q q:α->aC->Prop} (h:aF M A t Q E s) (G:∀ a s,Q a s->q a s):aF M A t q E s:=au h G λ_ _ x=>x
section
variable {X:Cx}
def Qv8 (i:Nat):TE:=λσ H Q=>∃ v,σ[i]?=zo (zo v)/\Q v H
def tC (v:V):TE:=λ_ H Q=>Q v H
theorem Qhe {i:Nat} {x:Str} {pos:Pos} (hN:X.N[i]?=zo x) (Z:Vis X.env.scope x) (hd:(x == ("__debug__" : Str))=yo:=by decide) (J:(x == ("__classdict__" : Str))=yo:=by decide):PE X (.Name x pos) (Qv8 i):=by
 intro pins s σ H Q I h;obtain ⟨v,e,h⟩:=h;obtain ⟨m,hn,Y⟩:=I.loc;obtain ⟨u,r,l⟩:=Y i x v hN e Z;have fin:EP X pins σ Q u s:=⟨v,H,I,r,h⟩;rcases l with ⟨G,hm⟩ | ⟨G,c,O,q⟩
 ·exact wpAny_Name (wpAny_loadName_local I.ok.kind G hn hm fin) hd
 ·rcases G with G | G
  ·exact wpAny_Name (wpAny_loadName_cell I.ok.kind G O q fin) hd
  ·exact wpAny_Name (wpAny_loadName_free I.ok.kind G O q fin J) hd
theorem Qsf {i j pos}:PE X (.Constant (.int i) j pos) (tC (.int i)):=λ_ _ _ H _ I h=>wpAny_Constant_int ⟨.int i,H,I.tok _,⟨_,rfl⟩,h⟩
theorem Qw6 {b j pos}:PE X (.Constant (.bool b) j pos) (tC (.bl b)):=λ_ _ _ H _ I h=>Constant_bool ⟨.bl b,H,I,rfl,h⟩
theorem Qse {j pos}:PE X (.Constant .none j pos) (tC .non):=λ_ _ _ H _ I h=>Constant_none ⟨.non,H,I,rfl,h⟩
theorem Qsb {x j pos}:PE X (.Constant (.str x) j pos) (tC (.str x)):=λ_ _ _ H _ I h=>Calls.Constant_str ⟨.str x,H,I.tok _,⟨_,rfl⟩,h⟩
def Gl (X:Cx) (x:Str):Prop:=X.env.kindOf x=zo .globalImplicit
theorem Q72 {E:zAD} {σ:St} {x:Str} {pos:Pos} {Q:zAD} (I:Inv X pins σ H s) (q:Gl X x) (hm:X.mg x=zo u) (h:Q u s)
  (hd:(x == ("__debug__" : Str))=yo:=by decide):aF (aI X.prog X.w) X.A (aO (.Name x pos) X.env) Q E s:=
 Calls.Name_function_global I.ok.kind q (Calls.loadGlobal_global (by rw [I.ok.glob]; exact I.mod.glob.keeps I.bk) hm h) hd
theorem qu {E:zAD} {σ:St} {x:Str} {pos:Pos} {Q:zAD} (I:Inv X pins σ H s) (G:Gl X x) (hm:X.mg x=zl) (J:aX x=zo u) (h:Q u s)
  (q:x≠"__name__" := by decide) (hd:(x == ("__debug__" : Str))=yo:=by decide):aF (aI X.prog X.w) X.A (aO (.Name x pos) X.env) Q E s:=by
 obtain ⟨mb,h1,h2⟩:=I.mod.blt;exact Calls.Name_function_global I.ok.kind G (Calls.loadGlobal_builtin (by rw [I.ok.glob]; exact I.mod.glob.keeps I.bk) hm (by rw [I.ok.blt]; exact h1.keeps I.bk) ((h2 x q).trans J) h) hd
theorem Q6h {x:Str} {pos:Pos} (q:Gl X x) (hm:X.mg x=zo u) (r:RelV v u) (hd:(x == ("__debug__" : Str))=yo:=by decide):PE X (.Name x pos) (tC v):=
 λ_ _ _ H _ I h=>Q72 I q hm ⟨v,H,I,r,h⟩ hd
theorem Qn0 {x:Str} {pos:Pos} (G:Gl X x) (hm:X.mg x=zl) (J:aX x=zo u) (r:RelV v u) (q:x≠"__name__" := by decide) (hd:(x == ("__debug__" : Str))=yo:=by decide):PE X (.Name x pos) (tC v):=
 λ_ _ _ H _ I h=>qu I G hm J ⟨v,H,I,r,h⟩ q hd
variable {a b:aH} {ta tb:TE} {pos:Pos}
def tB (t:TE):TT:=λσ H Q=>t σ H λx H1=>∃ c,x=.bl c/\Q c H1
theorem Qry {e:aH} {t:TE} (h:PE X e t) (Z:∀ G,isTrue e X.env G=(do let v <- G; standAt e.pos; aw [v] (truthy v)):=by intro _; rfl):PT X e (tB t):=by
 intro pins s σ H Q I J;refine isTrue_plain (thn (h pins s σ H _ I J) λv s1 ⟨x,H1,O,Y,q1⟩=>?_) (Z _)
 obtain ⟨d,rfl,q⟩:=q1;cases Y;exact bF ⟨H1,O,q⟩
variable {tA tB':TT} {rest:List aH}
def Qzg (t u:TT):TT:=λσ H Q=>t σ H λc H1=>if c=zb then u σ H1 Q else Q yo H1
def tOr (t u:TT):TT:=λσ H Q=>t σ H λc H1=>if c=zb then Q zb H1 else u σ H1 Q
def Qza (t:TT):TT:=λσ H Q=>t σ H λc H1=>Q (!c) H1
theorem Qmb (q:PT X a tA):PW X (.BoolOp .And [a] pos) tA:=by
 intro G pins s σ H Q I h;refine isTrue_and (thn (q pins s σ H Q I h) λc s1 e=>?_)
 cases c with
 | true=>exact isTrue_and_nil e
 | false=>exact e
theorem Qrw (q:PT X a tA):PW X (.BoolOp .Or [a] pos) tA:=by
 intro G pins s σ H Q I h;refine isTrue_or (thn (q pins s σ H Q I h) λc s1 e=>?_)
 cases c with
 | false=>exact isTrue_or_nil e
 | true=>exact e
theorem Qrx (J:PT X a tA) (Y:PW X (.BoolOp .And (b :: rest) pos) tB'):PW X (.BoolOp .And (a :: b :: rest) pos) (Qzg tA tB'):=by
 intro O pins s σ H Q I h;refine isTrue_and (thn (J pins s σ H _ I h) λc s1 ⟨H1,q,G⟩=>?_)
 cases c with
 | true=>exact Y O pins s1 σ H1 Q q G
 | false=>exact ⟨H1,q,G⟩
theorem Qw0 (J:PT X a tA) (Y:PW X (.BoolOp .Or (b :: rest) pos) tB'):PW X (.BoolOp .Or (a :: b :: rest) pos) (tOr tA tB'):=by
 intro O pins s σ H Q I h;refine isTrue_or (thn (J pins s σ H _ I h) λc s1 ⟨H1,q,G⟩=>?_)
 cases c with
 | true=>exact ⟨H1,q,G⟩
 | false=>exact Y O pins s1 σ H1 Q q G
theorem Qrz (q:PT X a tA):PT X (.UnaryOp .Not a pos) (Qza tA):=by
 intro pins s σ H Q I h;exact isTrue_not (q pins s σ H (λc H1=>Q (!c) H1) I h)
def Qvh (ta tb:TE):TE:=λσ H Q=>ta σ H λx H1=>∃ c,x=.bl c/\if c=zb then tb σ H1 Q else Q (.bl yo) H1
def Qz9 (ta tb:TE):TE:=λσ H Q=>ta σ H λx H1=>∃ c,x=.bl c/\if c=zb then Q (.bl zb) H1 else tb σ H1 Q
def Qvb (ta:TE):TE:=λσ H Q=>ta σ H λx H1=>∃ c,x=.bl c/\Q (.bl (!c)) H1
theorem Qsc {op} {t:TE} (h:PE X a t):PE X (.BoolOp op [a] pos) t:=λpins s σ H Q I q=>BoolOp_one (h pins s σ H Q I q)
theorem Qsg (J:PE X a ta) (O:PE X (.BoolOp .And (b :: rest) pos) tb):PE X (.BoolOp .And (a :: b :: rest) pos) (Qvh ta tb):=by
 intro pins s σ H Q I h;refine BoolOp_and (thn (J pins s σ H _ I h) λv s1 ⟨x,H1,G,Y,q⟩=>?_)
 obtain ⟨c,rfl,q⟩:=q;cases Y;refine bF ?_;cases c with
 | true=>exact O pins s1 σ H1 Q G q
 | false=>exact ⟨.bl yo,H1,G,rfl,q⟩
theorem Qw5 (J:PE X a ta) (O:PE X (.BoolOp .Or (b :: rest) pos) tb):PE X (.BoolOp .Or (a :: b :: rest) pos) (Qz9 ta tb):=by
 intro pins s σ H Q I h;refine BoolOp_or (thn (J pins s σ H _ I h) λv s1 ⟨x,H1,G,Y,q⟩=>?_)
 obtain ⟨c,rfl,q⟩:=q;cases Y;refine bF ?_;cases c with
 | false=>exact O pins s1 σ H1 Q G q
 | true=>exact ⟨.bl zb,H1,G,rfl,q⟩
theorem Qsd (G:PE X a ta):PE X (.UnaryOp .Not a pos) (Qvb ta):=by
 intro pins s σ H Q I h;refine UnaryOp_ (thn (G pins s σ H _ I h) λv s1 ⟨x,H1,J,O,q⟩=>?_)
 obtain ⟨c,rfl,q⟩:=q;cases O;exact not_of (bF ⟨.bl (!c),H1,J,rfl,q⟩)
end
def SqL (K:bX) (H:Hp) (a:aB) (xs:List V):Prop:=
 Rd H a (.lst xs) \/
  ∃ (o:Obj) (its:Array aA) (n:Nat),K.lookup a=zo o/\o.cls=.type "list" /\ o.dict=zl/\o.data=.seq its n/\its.size<=sizeLine/\Vals xs its.toList
def SqT (K:bX) (H:Hp) (a:aB) (xs:List V):Prop:=
 Rd H a (.tup xs) \/
  ∃ (o:Obj) (its:Array aA) (n:Nat),K.lookup a=zo o/\o.cls=.type "tuple" /\ o.data=.seq its n/\its.size<=sizeLine/\Vals xs its.toList
def J05:aA->Option V
 | .none=>zo .non
 | .bool b=>zo (.bl b)
 | .int i _=>zo (.int i)
 | .str x _=>zo (.str x)
 | .bytes b _=>zo (.byt b)
 | .float b _=>zo (.flt b)
 | .ref a=>zo (.ref a)
 | .type n=>zo (.ty n)
 | _=>zl
theorem RelV.abs {x:V} (r:RelV x u):J05 u=zo x:=by
 cases x with
 | non=>cases r; rfl
 | bl _=>cases r; rfl
 | int _=>obtain ⟨t,rfl⟩:=r; rfl
 | str _=>obtain ⟨t,rfl⟩:=r; rfl
 | byt _=>obtain ⟨t,rfl⟩:=r; rfl
 | flt _=>obtain ⟨t,rfl⟩:=r; rfl
 | ref _=>cases r; rfl
 | ty _=>cases r; rfl
theorem RelV.inj {x y:V} (r:RelV x u) (q:RelV y u):x=y:=bn (r.abs.symm.trans q.abs)
theorem Vals.inj:∀ {xs ys:List V} {us:List aA},Vals xs us->Vals ys us->xs=ys
 | _,_,_,.nil,.nil=>rfl
 | _,_,_,.cons r t,.cons q t'=>by rw [r.inj q,Vals.inj t t']
variable {xs ys:List V}
section
variable {σ:St}
theorem SqL.of (h:H a=zo (.lst xs)):SqL K H a xs:=.inl (.inl h)
theorem SqT.of (h:H a=zo (.tup xs)):SqT K H a xs:=.inl (.inl h)
theorem Inv.list (I:Inv X pins σ H s) (h:SqL X.K H a xs):∃ its:List aA,Vals xs its/\PlainL s.heap a its.toArray/\xs.length<=sizeLine:=by
 rcases h with h | ⟨o,its,n,G,q,hd,hs,hz,r⟩
 ·obtain ⟨z,its,n,r,e⟩:=h.ok I.hok;exact ⟨its,r,⟨_,n,e,rfl,rfl,rfl⟩,z⟩
 ·refine ⟨its.toList,r,⟨o,n,I.kIn a o G,q,hd,by simpa using hs⟩,?_⟩;have e:=r.length;simp only [be] at e;omega
theorem Inv.tuple (I:Inv X pins σ H s) (h:SqT X.K H a xs):∃ its:List aA,Vals xs its/\IsTup s.heap a its.toArray/\xs.length<=sizeLine:=by
 rcases h with h | ⟨o,its,n,G,q,hs,hz,r⟩
 ·obtain ⟨z,its,r,p⟩:=h.ok I.hok;exact ⟨its,r,p,z⟩
 ·refine ⟨its.toList,r,⟨o,I.kIn a o G,q,n,by simpa using hs⟩,?_⟩;have e:=r.length;simp only [be] at e;omega
theorem Inv.list_inj (I:Inv X pins σ H s) (h:SqL X.K H a xs) (h':SqL X.K H a ys):xs=ys:=by
 obtain ⟨its,r,⟨o,n,e,_,_,d⟩,_⟩:=I.list h;obtain ⟨its',J,⟨o',O,q,_,_,d'⟩,_⟩:=I.list h';rw [e] at q; cases q;rw [d] at d';injection d' with G _
 have:its=its':=by simpa using congrArg eY G
 subst this;exact r.inj J
theorem Inv.tuple_inj (I:Inv X pins σ H s) (h:SqT X.K H a xs) (h':SqT X.K H a ys):xs=ys:=by
 obtain ⟨its,r,⟨o,e,_,n,d⟩,_⟩:=I.tuple h;obtain ⟨its',J,⟨o',q,_,O,d'⟩,_⟩:=I.tuple h';rw [e] at q; cases q;rw [d] at d';injection d' with G _
 have:its=its':=by simpa using congrArg eY G
 subst this;exact r.inj J
end
variable {st:aM} {u:TS} {te:TE} {pos:Pos}
section
variable {rest:List aM} {t:TS} {e:aH}
def Qvc:TS:=λD σ H=>D.nx σ H
def Qz6 (t u:TS):TS:=λD σ H=>t { D with nx:=u D } σ H
theorem Qmh:PSs X [] Qvc:=λ_ _ σ H _ I h=>wpAny_execs_nil ⟨σ,H,I,h⟩
theorem Qh3 (h1:PS X st t) (h2:PSs X rest u):PSs X (st :: rest) (Qz6 t u):=by
 intro pins s σ H D I h;refine wpAny_execs_cons (thn (h1 pins s σ H { D with nx:=u D } I h) λf s1 q=>?_)
 cases f with
 | next=>
  obtain ⟨G,H',J,q⟩:=q;exact h2 pins s1 G H' D J q
 | ret v=>exact q
 | brk=>exact q
 | cont=>exact q
theorem Qmg (h1:PS X st t):PSs X [st] t:=by
 intro pins s σ H D I h;refine wpAny_execs_cons (thn (h1 pins s σ H D I h) λf s1 q=>?_)
 cases f with
 | next=>exact wpAny_execs_nil q
 | ret v=>exact q
 | brk=>exact q
 | cont=>exact q
def Qqz:TS:=λD σ H=>D.bk σ H
theorem Qh6:PS X (.Break pos) Qqz:=λ_ _ σ H _ I h=>wpAny_Break ⟨σ,H,I,h⟩
theorem Inv.quiet {σ:St} (I:Inv X pins σ H s):interactive X.env=yo:=by simp [interactive,I.ok.kind]
def Qvd (te:TE):TS:=λD σ H=>te σ H λ_ H1=>D.nx σ H1
theorem Qmi (G:PE X e te) (hs:swapsWith e zl pos.line X.env=pure yo:=by rfl):PS X (.Expr e pos) (Qvd te):=by
 intro pins s σ H D I h;exact wpAny_Expr_any (thn (G pins s σ H _ I h) λv s1 ⟨x,H1,q,O,J⟩=>⟨σ,H1,q,J⟩) I.quiet hs
def Qz8 (te:TE):TS:=λD σ H=>te σ H D.rt
theorem Qs1 (J:PE X e te):PS X (.Return (zo e) pos) (Qz8 te):=by
 intro pins s σ H D I h;exact wpAny_Return_some (thn (J pins s σ H _ I h) λv s1 ⟨x,H1,q,G,O⟩=>⟨x,σ,H1,q,G,O⟩)
def Qzd (c:TT) (t u:TS):TS:=λD σ H=>c σ H λb H1=>if b=zb then t D σ H1 else u D σ H1
theorem Qw2 {a b:List aM} (Y:PT X c tc) (J:PSs X a t) (O:PSs X b u):PS X (.If c a b pos) (Qzd tc t u):=by
 intro pins s σ H D I h;refine wpAny_If (thn (Y pins s σ H _ I h) λd s1 ⟨H1,q,G⟩=>?_)
 cases d with
 | true=>exact J pins s1 σ H1 D q G
 | false=>exact O pins s1 σ H1 D q G
end
abbrev TG:=V->St->Hp->(St->Hp->Prop)->Prop
abbrev TGs:=List V->St->Hp->(St->Hp->Prop)->Prop
def PG (X:Cx) (target:aH) (t:TG):Prop:=
 ∀ (pins:zAA) (s:aC) (σ:St) (H:Hp) (v:V) (u:aA) (Q:St->Hp->Prop),Inv X pins σ H s->RelV v u->t v σ H Q ->
  aF (aI X.prog X.w) X.A (assign target X.env u) (λ_ s'=>∃ σ' H',Inv X pins σ' H' s'/\Q σ' H') X.xe s
def PGs (X:Cx) (ts:List aH) (t:TGs):Prop:=
 ∀ (pins:zAA) (s:aC) (σ:St) (H:Hp) (vs:List V) (us:List aA) (Q:St->Hp->Prop),Inv X pins σ H s->Vals vs us->t vs σ H Q ->
  aF (aI X.prog X.w) X.A (assignInOrder ((az ts X.env).map (·.2)) us) (λ_ s'=>∃ σ' H',Inv X pins σ' H' s'/\Q σ' H') X.xe s
abbrev Quh:=V->V->V->Hp->(Hp->Prop)->Prop
def Qy1 (X:Cx) (t:Quh):Prop:=
 ∀ (pins:zAA) (s:aC) (σ:St) (H:Hp) (o i v:V) (ov iv u:aA) (Q:Hp->Prop),Inv X pins σ H s->RelV o ov->RelV i iv->RelV v u->t o i v H Q ->
  aF (aI X.prog X.w) X.A (setItem ov iv u) (λ_ s'=>∃ H',Inv X pins σ H' s'/\Q H') X.xe s
abbrev TIp:=V->V->Hp->VK->Prop
def PIp (X:Cx) (op:Operator) (t:TIp):Prop:=
 ∀ (pins:zAA) (s:aC) (σ:St) (H:Hp) (x y:V) (v u:aA) (Q:VK),Inv X pins σ H s->RelV x v->RelV y u->t x y H Q ->
  aF (aI X.prog X.w) X.A (inplaceOp op v u) (EP X pins σ Q) X.xe s
def Q9e (i:Nat):TG:=λv σ H Q=>Q (σ.set i (zo v)) H
theorem Qmw {i:Nat} {x:Str} (q:X.N.Nodup) (hi:X.N[i]?=zo x) (O:Loc X.env.scope x) (J:X.fn x=zb\/X.env.scope.names.lookup x=zo .local:=by first | exact .inl rfl | exact .inr rfl | assumption):PG X (.Name x pos) (Q9e i):=by
 intro pins s σ H v u Q I r h;exact wpAny_assign_Name (Q2d I q hi O r (λs' G=>⟨_,H,G,h⟩) J)
def Qxe:TGs:=λvs σ H Q=>vs=[]/\Q σ H
def Qj5 (t:TG) (u:TGs):TGs:=λvs σ H Q=>∃ v r,vs=v :: r/\t v σ H λσ' H'=>u r σ' H' Q
theorem Qmu:PGs X [] Qxe:=by
 intro pins s σ H vs us Q I r h;obtain ⟨e,h⟩:=h;subst e;cases r;exact assignInOrder_nil ⟨σ,H,I,h⟩
theorem Qhd {e:aH} {t:TG} {u:TGs} (h1:PG X e t) (h2:PGs X es u)
  (hs:(az (e :: es) X.env).map (·.2)=assign e X.env :: (az es X.env).map (·.2):=by rfl):PGs X (e :: es) (Qj5 t u):=by
 intro pins s σ H vs us Q I r h;obtain ⟨v,Z,G,h⟩:=h;subst G;cases r with
 | cons r O=>
  rw [hs];refine assignInOrder_cons (thn (h1 pins s σ H _ _ _ I r h) λ_ s1 ⟨q,H1,J,Y⟩=>?_)
  exact h2 pins s1 q H1 _ _ Q J O Y
def Qxd (K:bX) (n:Nat) (t:TGs):TG:=λv σ H Q=>∃ a xs,v=.ref a/\SqT K H a xs/\xs.length=n/\t xs σ H Q
theorem Qs8 {k:Nat} {t:TGs} {n:Nat} (hc:X.calm=zb) (h:PGs X es t)
  (Z:(az es X.env).length=n:=by rfl) (q:(az es X.env).findIdx? (·.1)=zl:=by rfl):PG X (.Tuple es k pos) (Qxd X.K n t):=by
 intro pins s σ H v u Q I r G;obtain ⟨a,xs,e1,O,Y,G⟩:=G;subst e1;cases r;obtain ⟨its,J,ht,hz⟩:=I.tuple O;refine assign_Tuple_tuple (I.ok.hd hc) ht (by simp [Z,<- Y,J.length]) q λh' hx=>?_
 have I1:Inv X pins σ H { s with heap:=h' }:=I.kept (t':=s.toks) λb o e=>hx b o (D8 (O7 e)) e
 exact h pins _ σ H xs _ Q I1 (by simpa using J) G
def J00 (to ti:TE) (t:Quh):TG:=λv σ H Q=>to σ H λo H1=>ti σ H1 λi H2=>t o i v H2 λH3=>Q σ H3
theorem Qs9 {o i:aH} {to J:TE} {t:Quh} (O:PE X o to) (hi:PE X i J) (hs:Qy1 X t)
  (ha:∀ v,assign (.Subscript o i pos) X.env v=(do
   let q <- aw [v] (aO o X.env)
   let G <- aw [v,q] (aO i X.env)
   standAt pos
   aw [v,q,G] (setItem q G v)
   release [v,q,G] []):=by intro _; rfl):PG X (.Subscript o i pos) (J00 to J t):=by
 intro pins s σ H v u Q I r h;rw [ha];refine aD (ak (thn (O pins s σ H _ I h) λq s1 ⟨x,H1,I1,Z,q1⟩=>?_))
 refine aD (ak (thn (hi pins s1 σ H1 _ I1 q1) λG s2 ⟨y,H2,I2,r2,q2⟩=>?_))
 refine aD (wpAny_standAt (aD (ak (thn (hs pins s2 σ H2 x y v q G u _ I2 Z r2 r q2) λ_ s3 ⟨H3,Y,q3⟩=>?_))))
 exact wpAny_release ⟨σ,H3,Y,q3⟩
def Qr0 (te:TE) (g:TG):TS:=λD σ H=>te σ H λx H1=>g x σ H1 D.nx
theorem Qh7 {e:aH} {g:TG} (Z:PE X e te) (J:PG X tg g) (hs:swapsWithSole [tg] e pos.line X.env=pure yo:=by rfl) (G:swappedStores [tg] e X.env=pure zl:=by rfl)
  (h1:(az [tg] X.env).map (·.2)=[assign tg X.env]:=by rfl):PS X (.Assign [tg] e pos) (Qr0 te g):=by
 intro pins s σ H D I h;refine wpAny_Assign_stores (thn (Z pins s σ H _ I h) λv s1 ⟨x,H1,O,Y,q1⟩=>?_) hs G
 rw [h1];exact thn (J pins s1 σ H1 x v _ O Y q1) λ_ s2 q=>q
theorem Qs0 {i:Nat} {x:Str} {e:aH} {pos':Pos} (q:X.N.Nodup) (hi:X.N[i]?=zo x) (J:Loc X.env.scope x) (he:PE X e te) (hs:swapsWith e (zo (.Name x pos')) pos.line X.env=pure yo:=by rfl) (G:X.fn x=zb\/X.env.scope.names.lookup x=zo .local:=by first | exact .inl rfl | exact .inr rfl | assumption) :
  PS X (.Assign [.Name x pos'] e pos) (Qr0 te (Q9e i)):=by
 intro pins s σ H D I h;refine wpAny_Assign_Name (thn (he pins s σ H _ I h) λv s1 ⟨y,H1,O,Y,q1⟩=>?_) hs
 exact Q2d O q hi J Y (λs2 Z=>⟨_,H1,Z,q1⟩) G
def Qzf (i:Nat) (te:TE) (ti:TIp):TS:=λD σ H=>∃ x,σ[i]?=zo (zo x)/\te σ H λy H1=>ti x y H1 λz H2=>D.nx (σ.set i (zo z)) H2
theorem Qs3 {i:Nat} {x:Str} {e:aH} {op:Operator} {ti:TIp} {pos':Pos} (hN:X.N.Nodup) (hi:X.N[i]?=zo x) (Y:Loc X.env.scope x) (he:PE X e te) (ho:PIp X op ti) (hf:X.fn x=zb\/X.env.scope.names.lookup x=zo .local:=by first | exact .inl rfl | exact .inr rfl | assumption) :
  PS X (.AugAssign (.Name x pos') op e pos) (Qzf i te ti):=by
 intro pins s σ H D I h;obtain ⟨v,e1,h⟩:=h;obtain ⟨m,hn,hl⟩:=I.loc;have Z:Vis X.env.scope x:=by rcases Y with k | k; exact .inl k; exact .inr (.inl k)
 obtain ⟨u,r,l⟩:=hl i x v hi e1 Z;refine wpAny_AugAssign_Name ?_;have go:aF (aI X.prog X.w) X.A (aO e X.env) (λw O=>aF (aI X.prog X.w) X.A (inplaceOp op u w) (λr J=>aF (aI X.prog X.w) X.A (storeName X.env x r) (λ_=>SP X pins D .next) X.xe J) X.xe O) X.xe s:=by
  refine thn (he pins s σ H _ I h) λw s1 ⟨y,H1,I1,r1,q1⟩=>?_
  refine thn (ho pins s1 σ H1 v y u w _ I1 r r1 q1) λz s2 ⟨zv,H2,I2,r2,q2⟩=>?_
  exact Q2d I2 hN hi Y r2 (λs3 I3=>⟨_,H2,I3,q2⟩) hf
 rcases l with ⟨q,hm⟩ | ⟨q,c,hc,G⟩
 ·exact wpAny_loadName_local I.ok.kind q hn hm go
 ·rcases q with q | q
  ·exact wpAny_loadName_cell I.ok.kind q hc G go
  ·rcases Y with k | k
   ·have:X.env.scope.names.lookup x=zo .free:=q;rw [k] at this; cases this
   ·have:X.env.scope.names.lookup x=zo .free:=q;rw [k] at this; cases this
def ipI (f:Int->Int->Int):TIp:=λx y H Q=>∃ i j,x=.int i/\y=.int j/\Q (.int (f i j)) H
theorem Qtu:PIp X .Add (ipI λi j=>i + j):=by
 intro pins s σ H x y v u Q I O Y h;obtain ⟨i,j,J,G,q⟩:=h;subst J; subst G;obtain ⟨t,rfl⟩:=O;obtain ⟨t',rfl⟩:=Y;exact iadd_int ⟨.int _,H,I.tok _,⟨_,rfl⟩,q⟩
def Qqv (c:TT) (tb:TS):TS:=λD σ H=>∃ W:Nat->St->Hp->Prop,(∃ m,W m σ H)/\∀ m σ H,W m σ H ->
 c σ H λb H1=>if b=zb then ∃ N:St->Hp->Prop,(∀ σ' H',N σ' H'->∃ m',m' < m/\W m' σ' H')/\tb { D with nx:=N,ct:=N,bk:=D.nx } σ H1 else D.nx σ H1
theorem Qh4 {body:List aM} (hp:PassesOwn (aI X.prog X.w) X.A X.env X.xe) (hc:PT X c tc) (hb:PSs X body tb):PS X (.While c body [] pos) (Qqv tc tb):=by
 intro pins s σ H D I h;obtain ⟨W,⟨m0,w0⟩,turn⟩:=h;refine wpAny_While (codeAny_whileLoop (λn s'=>∃ J H',Inv X pins J H' s'/\W n J H') ?_ m0 ⟨σ,H,I,w0⟩);rintro n s1 ⟨G,H1,I1,w1⟩;refine bK hp (thn (hc pins s1 G H1 _ I1 (turn n G H1 w1)) λb s2 ⟨H2,I2,Y⟩=>?_)
 cases b with
 | true=>
  obtain ⟨N,hN,Y⟩:=Y;rw [bT rfl];refine bK hp (thn (hb pins s2 G H2 _ I2 Y) λf s3 Z=>?_)
  cases f with
  | next=>
   obtain ⟨q,O,I3,n3⟩:=Z;obtain ⟨m',hm,w3⟩:=hN q O n3;exact ⟨m',hm,q,O,I3,w3⟩
  | cont=>
   obtain ⟨q,O,I3,n3⟩:=Z;obtain ⟨m',hm,w3⟩:=hN q O n3;exact ⟨m',hm,q,O,I3,w3⟩
  | brk=>exact Z
  | ret v=>exact Z
 | false=>
  rw [bU D2];exact wpAny_execs_nil ⟨G,H2,I2,Y⟩
structure It where
 go:Nat->Hp->Prop
 yld:Nat->Hp->V->Hp->Prop
 stop:Nat->Hp->Prop
def Q4g (X:Cx) (pins:zAA) (H:Hp) (b:aB):Prop:=
 H b=zl/\b≠X.env.locals/\b∉X.fs/\(b∈X.ex\/X.s₀.heap.objs.size<=b)/\(∀ x c,X.env.cells.lookup x=zo c->c≠b)/\∀ p∈X.pn ++ pins,p.1≠b
theorem Inv.fpOk {σ:St} (I:Inv X pins σ H s) (G:s.heap.objs.size<=b) (J:H' b=zl):Q4g X pins H' b:=by
 refine ⟨J,L9 (D1 I.lt G),I.nofs G,.inr (D9 I.sz G),λx c e z=>?_,λp O z=>?_⟩
 ·obtain ⟨v,q⟩:=I.cell x c e;exact absurd (D1 q.lt (by rw [z]; exact G)) (L4 _)
 ·exact absurd (D1 (O7 (I.pin p O).1) (by rw [z]; exact G)) (L4 _)
structure Turn (P:aK) (w:aJ) (K:bX) (tg:aH) (J:It) (fp:List aB) (it:aB) (tn:Nat->Heap->Prop):Prop where
 mem:it∈fp
 obj:∀ i h,tn i h->∀ b∈fp,∃ o,h.get? b=zo o/\∀ v,o.data≠.cell v
 keep:∀ i h h',tn i h->(∀ b∈fp,∀ o,h.get? b=zo o->h'.get? b=zo o)->tn i h'
 item:∀ (X:Cx),X.prog=P->X.w=w->X.K=K->X.calm=zb->∀ (i:Nat) (pins:zAA) (s:aC) (σ:St) (H:Hp) (E:zAD),Inv X pins σ H s->(∀ b∈fp,Q4g X pins H b)->tn i s.heap->J.go i H ->
  aF (aI P w) X.A (af (.ref it)) (λr s1=>∃ u,r=zo u /\
   aF (aI P w) X.A (letOwnedTupleGo tg (.ref it) u) (λ_ s2=>∃ x H',Inv X pins σ H' s2/\RelV x u/\J.yld i H x H'/\tn (i + 1) s2.heap/\∀ b∈fp,H' b=zl) E s1) E s
 done:∀ (X:Cx),X.prog=P->X.w=w->X.K=K->X.calm=zb->∀ (i:Nat) (pins:zAA) (s:aC) (σ:St) (H:Hp) (E:zAD),Inv X pins σ H s->(∀ b∈fp,Q4g X pins H b)->tn i s.heap->J.stop i H ->
  aF (aI P w) X.A (af (.ref it)) (λr s1=>r=zl/\Inv X pins σ H s1) E s
 self:∀ (A:aL) (i:Nat) (s:aC) (Q:zAD) (E:zAD),tn i s.heap->Q (.ref it) s->aF (aI P w) A (pyIter (.ref it)) Q E s
abbrev TI:=St->Hp->(It->Hp->Prop)->Prop
def PIE (X:Cx) (pins:zAA) (σ:St) (tg:aH) (R:It->Hp->Prop) (itv:aA) (s2:aC):Prop:=
 ∃ (it:aB) (fp:List aB) (tn:Nat->Heap->Prop) (J:It) (H':Hp),itv=.ref it/\Inv X pins σ H' s2/\Turn X.prog X.w X.K tg J fp it tn/\tn 0 s2.heap/\(∀ b∈fp,Q4g X pins H' b)/\R J H'
def PI (X:Cx) (tg iter:aH) (wi:TI):Prop:=
 ∀ (pins:zAA) (s:aC) (σ:St) (H:Hp) (R:It->Hp->Prop),Inv X pins σ H s->wi σ H R ->
  aF (aI X.prog X.w) X.A (aO iter X.env) (λv s1=>aF (aI X.prog X.w) X.A (pyIter v) (PIE X pins σ tg R) X.xe s1) X.xe s
theorem Qd2 {M:Model} {A:aL} {E:zAD} {tg:aH} {u:aA} {o:Obj} {n:String} {vs:Array aA} {Q:Unit->aC->Prop} (J:s.heap.get? it=zo o) (I:o.cls=.type n) (hd:o.data=.fields vs)
  (G:["enumerate", "zip", "dict_itemiterator", "dict_reverseitemiterator", "odict_iterator", "itertools.zip_longest", "itertools.pairwise"].contains n=yo) (q:Q () s):aF M A (letOwnedTupleGo tg (.ref it) u) Q E s:=by
 unfold letOwnedTupleGo;cases tg <;> first
  | exact wpAny_pure q
  | (cases u <;> first
    | exact wpAny_pure q
    | (refine aD (wpAny_load J ?_)
       rw [I,hd];show aF M A (if (["enumerate", "zip", "dict_itemiterator", "dict_reverseitemiterator", "odict_iterator", "itertools.zip_longest", "itertools.pairwise"].contains n && vs[0]? == zo (aU _))=zb then _ else _) Q E s;rw [bU (by intro h; rw [G,L3] at h; cases h)];exact wpAny_pure q))
def Itl (K:bX) (a:aB):It:=
 ⟨λi H=>∃ xs x,SqL K H a xs/\xs[i]?=zo x,λi H x H'=>H'=H/\∀ xs,SqL K H a xs->xs[i]?=zo x,λi H=>∃ xs,SqL K H a xs/\xs.length<=i⟩
def Itt (K:bX) (a:aB):It:=
 ⟨λi H=>∃ xs x,SqT K H a xs/\xs[i]?=zo x,λi H x H'=>H'=H/\∀ xs,SqT K H a xs->xs[i]?=zo x,λi H=>∃ xs,SqT K H a xs/\xs.length<=i⟩
def Itr (lo:Int) (n:Nat):It:=⟨λi _=>i < n,λi H x H'=>H'=H/\x=.int (lo + i),λi _=>n<=i⟩
theorem Qdp {w:aJ} (a it:aB):Turn P w K tg (Itl K a) [it] it (λi h=>h.IsListIter it a i) where
 mem:=by simp
 obj:=λi h st b q=>by
  have e:b=it:=by simpa using q
  subst e;obtain ⟨o,e,c,d⟩:=st;exact ⟨o,e,λv z=>by rw [d] at z; cases z⟩
 keep:=λi h h' st k=>st.at λo e=>k it (by simp) o e
 item:=by
  intro X hP hw hK hc i pins s σ H E I J st Y;subst hP hw hK;obtain ⟨xs,x,G,hx⟩:=Y;obtain ⟨its,rv,p,hz⟩:=I.list G;obtain ⟨u,hu,ru⟩:=rv.get hx;obtain ⟨O,f1,f2,Z,f4,f5⟩:=J it (by simp);refine wpAny_pyNext_list_item st p.isList (x:=u) (by simpa using hu) λh' st' sb=>?_
  have I1:Inv X pins σ H { s with heap:=h' }:=I.turned (t':=s.toks) (λb o q e=>(sb.2 b q).trans e) O f1 Z f4 f5
  obtain ⟨o,e,c,d⟩:=id st';exact ⟨u,rfl,Qd2 (s:={ s with heap:=h' }) e c d (by decide) ⟨x,H,I1,ru,⟨rfl,λys hy=>by rw [I.list_inj hy G]; exact hx⟩,st',λb q=>(J b q).1⟩⟩
 done:=by
  intro X hP hw hK hc i pins s σ H E I J st Y;subst hP hw hK;obtain ⟨xs,G,hx⟩:=Y;obtain ⟨its,rv,p,hz⟩:=I.list G;obtain ⟨O,f1,f2,Z,f4,f5⟩:=J it (by simp);have hl:=rv.length;exact wpAny_pyNext_list_end (I.ok.hd hc) st p.isList (by simp; omega) λh' eb=>⟨rfl,I.turned (t':=s.toks) (λb o q e=>eb b o q e) O f1 Z f4 f5⟩
 self:=λ_ _ _ _ _ st h=>wpAny_pyIter_listiter st h
theorem Qa9 {w:aJ} (a it:aB):Turn P w K tg (Itt K a) [it] it (λi h=>h.IsTupleIter it a i) where
 mem:=by simp
 obj:=λi h st b q=>by
  have e:b=it:=by simpa using q
  subst e;obtain ⟨o,e,c,d⟩:=st;exact ⟨o,e,λv z=>by rw [d] at z; cases z⟩
 keep:=λi h h' st k=>st.at λo e=>k it (by simp) o e
 item:=by
  intro X hP hw hK hc i pins s σ H E I J st Y;subst hP hw hK;obtain ⟨xs,x,G,hx⟩:=Y;obtain ⟨its,rv,p,hz⟩:=I.tuple G;obtain ⟨u,hu,ru⟩:=rv.get hx;obtain ⟨O,f1,f2,Z,f4,f5⟩:=J it (by simp);refine wpAny_pyNext_tuple_item st (show s.heap.IsTuple a its.toArray from p) (x:=u) (by simpa using hu) λh' st' sb=>?_
  have I1:Inv X pins σ H { s with heap:=h' }:=I.turned (t':=s.toks) (λb o q e=>(sb.2 b q).trans e) O f1 Z f4 f5
  obtain ⟨o,e,c,d⟩:=id st';exact ⟨u,rfl,Qd2 (s:={ s with heap:=h' }) e c d (by decide) ⟨x,H,I1,ru,⟨rfl,λys hy=>by rw [I.tuple_inj hy G]; exact hx⟩,st',λb q=>(J b q).1⟩⟩
 done:=by
  intro X hP hw hK hc i pins s σ H E I J st Y;subst hP hw hK;obtain ⟨xs,G,hx⟩:=Y;obtain ⟨its,rv,p,hz⟩:=I.tuple G;obtain ⟨O,f1,f2,Z,f4,f5⟩:=J it (by simp);have hl:=rv.length;exact wpAny_pyNext_tuple_end (I.ok.hd hc) st (show s.heap.IsTuple a its.toArray from p) (by simp; omega) λh' eb=>⟨rfl,I.turned (t':=s.toks) (λb o q e=>eb b o q e) O f1 Z f4 f5⟩
 self:=λ_ _ _ _ _ st h=>wpAny_pyIter_tupleiter st h
theorem Qaa {w:aJ} (it:aB) (lo:Int) (n:Nat):Turn P w K tg (Itr lo n) [it] it (λi h=>IsRangeIter h it (lo + (i:Nat) * 1) ((n:Int) - (i:Nat)) 1) where
 mem:=by simp
 obj:=λi h st b q=>by
  have e:b=it:=by simpa using q
  subst e;exact ⟨_,st,λv z=>by
   have z':Data.fields _=Data.cell v:=z;cases z'⟩
 keep:=λi h h' st k=>k it (by simp) _ st
 item:=by
  intro X hP hw hK hc i pins s σ H E I G st O;subst hP hw hK;obtain ⟨J,f1,f2,Y,f4,Z⟩:=G it (by simp);have W:=Walks.range (prog:=X.prog) (w:=X.w) (I.ok.hd hc) it lo 1 n;refine W.item i s _ _ O st λv h' tk hv st' kk=>?_
  obtain ⟨t,rfl⟩:=hv;have I1:Inv X pins σ H { s with heap:=h',toks:=tk }:=I.turned (λb o q e=>kk b o (by simpa using q) e) J f1 Y f4 Z
  refine ⟨_,rfl,Qd2 (s:={ s with heap:=h',toks:=tk }) (n := "range_iterator") st' rfl rfl (by decide) ⟨.int (lo + i),H,I1,⟨t,?_⟩,⟨rfl,rfl⟩,st',λb q=>(G b q).1⟩⟩
  rw [Int.mul_one]
 done:=by
  intro X hP hw hK hc i pins s σ H E I G st O;subst hP hw hK;obtain ⟨J,f1,f2,Y,f4,Z⟩:=G it (by simp);exact wpAny_pyNext_range_end (I.ok.hd hc) st (by have:n<=i:=O; omega) λh' eb=>⟨rfl,I.turned (t':=s.toks) (λb o q e=>eb b o q e) J f1 Y f4 Z⟩
 self:=λ_ _ _ _ _ st h=>wpAny_pyIter_rangeiter st h
variable {tg:aH}
def Qx7 (K:bX) (tl:TE):TI:=λσ H R=>tl σ H λx H1=>∃ a,x=.ref a/\(∃ xs,SqL K H1 a xs)/\R (Itl K a) H1
def Qzy (K:bX) (tl:TE):TI:=λσ H R=>tl σ H λx H1=>∃ a,x=.ref a/\(∃ xs,SqT K H1 a xs)/\R (Itt K a) H1
theorem Qms (J:PE X l tl):PI X tg l (Qx7 X.K tl):=by
 intro pins s σ H R I h;refine thn (J pins s σ H _ I h) λv s1 ⟨x,H1,G,Z,q1⟩=>?_
 obtain ⟨a,e,⟨xs,O⟩,q⟩:=q1;subst e;cases Z;obtain ⟨its,rv,p,hz⟩:=G.list O;refine wpAny_pyIter_list p.isList ?_;refine ⟨s1.heap.objs.size,[s1.heap.objs.size],_,_,H1,rfl,G.kept (t':=s1.toks) λb o e=>O1 _ e,Qdp a _,⟨_,O9 _ rfl,rfl,rfl⟩,λb Y=>?_,q⟩
 have e:b=s1.heap.objs.size:=by simpa using Y
 subst e;exact G.fpOk (O5 _) (G.hok.fresh (O5 _))
theorem Qs6 (J:PE X l tl):PI X tg l (Qzy X.K tl):=by
 intro pins s σ H R I h;refine thn (J pins s σ H _ I h) λv s1 ⟨x,H1,G,Z,q1⟩=>?_
 obtain ⟨a,e,⟨xs,O⟩,q⟩:=q1;subst e;cases Z;obtain ⟨its,rv,p,hz⟩:=G.tuple O;refine bO (show s1.heap.IsTuple a its.toArray from p) ?_;refine ⟨s1.heap.objs.size,[s1.heap.objs.size],_,_,H1,rfl,G.kept (t':=s1.toks) λb o e=>O1 _ e,Qa9 a _,⟨_,O9 _ rfl,rfl,rfl⟩,λb Y=>?_,q⟩
 have e:b=s1.heap.objs.size:=by simpa using Y
 subst e;exact G.fpOk (O5 _) (G.hok.fresh (O5 _))
theorem Qgx {σ:St} {R:It->Hp->Prop} {E:zAD} {lo hi:Int} {t u v:Tok} {J:Nat} (I:Inv X pins σ H s) (h1:-(2 ^ 62)<=lo) (h2:lo < 2 ^ 62) (h3:-(2 ^ 62)<=hi) (h4:hi < 2 ^ 62)
  (q:R (Itr lo (hi - lo).toNat) H):aF (aI X.prog X.w) X.A (pyIter (.ref s.heap.objs.size)) (PIE X pins σ tg R) E { s with heap:=s.heap.push { cls:=.type "range",data:=.fields #[.int lo t,.int hi u,.int 1 v] },toks:=J }:=by
 refine wpAny_pyIter_range (IsRange.new ..) (small_one h1 h2 h3 h4) ?_;have G:Inv X pins σ H { s with heap:=s.heap.push { cls:=.type "range",data:=.fields #[.int lo t,.int hi u,.int 1 v] },toks:=J }:=I.kept λb o e=>O1 _ e
 refine ⟨(s.heap.push { cls:=.type "range",data:=.fields #[.int lo t,.int hi u,.int 1 v] }).objs.size,[(s.heap.push { cls:=.type "range",data:=.fields #[.int lo t,.int hi u,.int 1 v] }).objs.size],_,_,H,rfl,
  G.kept (t':=J) λb o e=>O1 _ e,Qaa _ lo (hi - lo).toNat,?_,λb Y=>?_,q⟩
 ·have Z:lo + ((0:Nat):Int) * 1=lo:=by simp
  have O:(((hi - lo).toNat:Nat):Int) - ((0:Nat):Int)=Builtin.Range.rangeSize lo hi 1:=by rw [rangeSize_one]; split <;> omega
  show IsRangeIter _ _ (lo + ((0:Nat):Int) * 1) ((((hi - lo).toNat:Nat):Int) - ((0:Nat):Int)) 1;rw [Z,O];exact O9 _ rfl
 ·have e:b=(s.heap.push { cls:=.type "range",data:=.fields #[.int lo t,.int hi u,.int 1 v] }).objs.size:=by simpa using Y
  subst e;exact G.fpOk (O5 _) (G.hok.fresh (O5 _))
def Qx6 (ta:TA):TI:=λσ H R=>ta σ H λvs H1=>∃ j:Int,vs=[.int j]/\-(2 ^ 62)<=j/\j < 2 ^ 62/\R (Itr 0 j.toNat) H1
theorem Qe9 {a:aH} {ta:TA} {p:Pos} (O:Gl X "range") (hm:X.mg "range" = zl) (J:PA X [a] ta) (hs:aN [a] X.env=[(yo,aO a X.env)]:=by rfl):PI X tg (.Call (.Name "range" p) [a] [] pos) (Qx6 ta):=by
 intro pins s σ H R I h;refine Call_ (qu I O hm boot_range (cw (thn (J pos pins s σ H _ I h) λus s1 ⟨vs,H1,Y,Z,G⟩=>?_) hs rfl))
 obtain ⟨j,e,G,q2,q⟩:=G;subst e;cases Z with
 | cons r rr=>
  cases rr;obtain ⟨t,rfl⟩:=r;exact call_range_1 (Qgx Y (by omega) (by omega) G q2 (by simpa using q))
def Qze (wi:TI) (g:TG) (tb:TS):TS:=λD σ H=>wi σ H λJ H1=>∃ W:Nat->Nat->St->Hp->Prop,(∃ m,W 0 m σ H1)/\∀ i m σ H,W i m σ H ->
 (J.stop i H/\D.nx σ H)\/(J.go i H/\∃ N:St->Hp->Prop,(∀ σ' H',N σ' H'->∃ m',m' < m/\W (i + 1) m' σ' H')/\∀ x H',J.yld i H x H'->g x σ H' λσ2 H2=>tb { D with nx:=N,ct:=N,bk:=D.nx } σ2 H2)
def Q2x (fp:List aB) (h:Heap):zAA:=fp.filterMap λb=>(h.get? b).map λo=>(b,o)
theorem V5 {o:Obj} (q:b∈fp) (e:h.get? b=zo o):(b,o)∈Q2x fp h:=dN.mpr ⟨b,q,by rw [e]; rfl⟩
theorem Qej {p:aB × Obj} (J:p∈Q2x fp h):p.1∈fp/\h.get? p.1=zo p.2:=by
 obtain ⟨b,G,e⟩:=dN.mp J;cases q:h.get? b with
 | none=>rw [q] at e; cases e
 | some o=>
  rw [q] at e;have I:(b,o)=p:=bn e;subst I;exact ⟨G,q⟩
theorem Inv.pinned {σ:St} (I:Inv X pins σ H s) (O:∀ b∈fp,Q4g X pins H b) (ho:∀ b∈fp,∃ o,s.heap.get? b=zo o/\∀ v,o.data≠.cell v):Inv X (pins ++ Q2x fp s.heap) σ H s:=
 I.pins_of λp Y=>(E3.mp Y).elim (λz=>I.pin p (E6 _ z)) λz=>by
  obtain ⟨G,e⟩:=Qej z;obtain ⟨J,f1,Z,_⟩:=O p.1 G;obtain ⟨o,q,d⟩:=ho p.1 G;rw [e] at q; cases q;exact ⟨e,J,f1,Z,d⟩
theorem Inv.unpinned {G:zAA} {σ:St} (I:Inv X (pins ++ G) σ H s):Inv X pins σ H s:=I.pins_of λp q=>I.pin p (E6 _ (F7 _ q))
theorem Qs2 {iter:aH} {body:List aM} {wi:TI} {g:TG} {pos:Pos} (hp:PassesOwn (aI X.prog X.w) X.A X.env X.xe) (hc:X.calm=zb) (hi:PI X tg iter wi) (hg:PG X tg g) (hb:PSs X body tb)
  (hs:∀ x,bG iter X.env x=pure x:=by intro _; rfl):PS X (.For tg iter body [] pos) (Qze wi g tb):=by
 intro pins s σ H D I h;refine wpAny_For (thn (hi pins s σ H _ I h) λv s1 h1=>thn h1 λa9 s2 h2=>?_) hs
 obtain ⟨it,fp,tn,J,H2,e,I2,T,a5,f2,W,⟨m0,w0⟩,turn⟩:=h2;subst e;have G:∀ {H':Hp},(∀ b∈fp,H' b=zl)->∀ b∈fp,Q4g X pins H' b:=λhn b hb=>⟨hn b hb,(f2 b hb).2⟩
 refine codeAny_forLoop_any (λn s'=>∃ i O H',Inv X pins O H' s'/\tn i s'.heap/\(∀ b∈fp,H' b=zl)/\W i n O H') ?_ m0 ⟨0,σ,H2,I2,a5,λb hb=>(f2 b hb).1,w0⟩
 rintro n s3 ⟨i,a1,H3,I3,a4,a3,w3⟩;rcases turn i n a1 H3 w3 with ⟨stop,qn⟩ | ⟨go,N,hN,step⟩
 ·refine bK hp (thn (T.done X rfl rfl rfl hc i pins s3 a1 H3 X.xe I3 (G a3) a4 stop) λr s4 ⟨hr,I4⟩=>?_)
  subst hr;exact wpAny_execs_nil ⟨a1,H3,I4,qn⟩
 ·refine bK hp (thn (T.item X rfl rfl rfl hc i pins s3 a1 H3 X.xe I3 (G a3) a4 go) λr s4 ⟨u,hr,h4⟩=>?_)
  subst hr;refine bK hp (thn h4 λ_ s5 ⟨x,H5,I5,r5,y5,a2,a7⟩=>?_);have a8:=I5.pinned (G a7) (T.obj _ _ a2);refine bK hp (thn (hg _ s5 a1 H5 x u _ a8 r5 (step x H5 y5)) λ_ s6 ⟨a6,H6,I6,q6⟩=>?_)
  refine bK hp (thn (hb _ s6 a6 H6 _ I6 q6) λf s7 q7=>?_)
  have again:∀ {q:St} {Y:Hp},Inv X (pins ++ Q2x fp s5.heap) q Y s7->N q Y->∃ m,m < n/\∃ i O H',Inv X pins O H' s7/\tn i s7.heap/\(∀ b∈fp,H' b=zl)/\W i m O H':=λ{q Y} Z n7=>by
   obtain ⟨m',hm,w7⟩:=hN q Y n7;refine ⟨m',hm,i + 1,q,Y,Z.unpinned,T.keep _ _ _ a2 λb hb o e=>(Z.pin (b,o) (E6 _ (E6 _ (V5 hb e)))).1,λb hb=>?_,w7⟩;obtain ⟨o,e,d⟩:=T.obj _ _ a2 b hb;exact (Z.pin (b,o) (E6 _ (E6 _ (V5 hb e)))).2.1
  cases f with
  | next=>obtain ⟨q,Y,Z,n7⟩:=q7; exact again Z n7
  | cont=>obtain ⟨q,Y,Z,n7⟩:=q7; exact again Z n7
  | brk=>obtain ⟨q,Y,Z,q7⟩:=q7; exact ⟨q,Y,Z.unpinned,q7⟩
  | ret v=>obtain ⟨x7,q,Y,Z,r7,q7⟩:=q7; exact ⟨x7,q,Y,Z.unpinned,r7,q7⟩
abbrev R2:=V->V->Hp->VK->Prop
variable {r:R2}
def OpR (X:Cx) (f:aA->aA->Sem aA) (r:R2):Prop:=
 ∀ (pins:zAA) (s:aC) (σ:St) (H:Hp) (x y:V) (v u:aA) (Q:VK),Inv X pins σ H s->RelV x v->RelV y u->r x y H Q ->
  aF (aI X.prog X.w) X.A (f v u) (EP X pins σ Q) X.xe s
def Wz (X:Cx) (f:aA) (r:List V->Hp->VK->Prop):Prop:=
 ∀ (pins:zAA) (s:aC) (σ:St) (H:Hp) (xs:List V) (us:List aA) (Q:VK),Inv X pins σ H s->Vals xs us->r xs H Q ->
  aF (aI X.prog X.w) X.A (call f us) (EP X pins σ Q) X.xe s
def tOp (r:R2) (ta tb:TE):TE:=λσ H Q=>ta σ H λx H1=>tb σ H1 λy H2=>r x y H2 Q
def rI (C:Int->Int->Prop) (g:Int->Int->V):R2:=λx y H Q=>∃ i j,x=.int i/\y=.int j/\C i j/\Q (g i j) H
def rI0 (g:Int->Int->V):R2:=λx y H Q=>∃ i j,x=.int i/\y=.int j/\Q (g i j) H
variable {b c:aH} {ta tb tc:TE}
section
variable {a:aH}
theorem Quc (O:PE X a ta) (Z:PE X b tb) {σ:St} {R:V->V->Hp->Prop} (I:Inv X pins σ H s)
  (h:ta σ H λx H1=>tb σ H1 λy H2=>R x y H2) {Q:zAD} {f:aA->aA->Sem aA}
  (Y:∀ v u J x y H2,Inv X pins σ H2 J->RelV x v->RelV y u->R x y H2->aF (aI X.prog X.w) X.A (f v u) Q X.xe J) :
  aF (aI X.prog X.w) X.A (aO a X.env) (λv G=>aF (aI X.prog X.w) X.A (aO b X.env) (λu q=>aF (aI X.prog X.w) X.A (f v u) Q X.xe q) X.xe G) X.xe s:=by
 refine thn (O pins s σ H _ I h) λv s1 ⟨x,H1,I1,r1,q1⟩=>?_
 refine thn (Z pins s1 σ H1 _ I1 q1) λu J ⟨y,H2,I2,r2,q2⟩=>?_
 exact Y v u J x y H2 I2 r1 r2 q2
theorem Qqb {op:Operator} (ho:OpR X (ae op) r) (J:PE X a ta) (Z:PE X b tb):PE X (.BinOp a op b pos) (tOp r ta tb):=by
 intro pins s σ H Q I h;exact wpAny_BinOp (Quc J Z I h λv u Y x y H2 I2 G O q=>ho pins Y σ H2 x y v u Q I2 G O q)
theorem opI {f:aA->aA->Sem aA} {C:Int->Int->Prop} {g:Int->Int->Int}
  (rule:∀ (i j:Int) (t u:Tok) (s:aC) (Q:zAD) (E:zAD),C i j->Q (.int (g i j) s.toks) { s with toks:=s.toks + 1 }->aF (aI X.prog X.w) X.A (f (.int i t) (.int j u)) Q E s) :
  OpR X f (rI C λi j=>.int (g i j)):=by
 intro pins s σ H x y v u Q I G J h;obtain ⟨i,j,rfl,rfl,O,q⟩:=h;obtain ⟨t,rfl⟩:=G;obtain ⟨t',rfl⟩:=J;exact rule i j t t' s _ _ O ⟨.int (g i j),H,I.tok _,⟨_,rfl⟩,q⟩
theorem Qwi {f:aA->aA->Sem aA} {g:Int->Int->Int}
  (rule:∀ (i j:Int) (t u:Tok) (s:aC) (Q:zAD) (E:zAD),Q (.int (g i j) s.toks) { s with toks:=s.toks + 1 }->aF (aI X.prog X.w) X.A (f (.int i t) (.int j u)) Q E s) :
  OpR X f (rI0 λi j=>.int (g i j)):=by
 intro pins s σ H x y v u Q I J G h;obtain ⟨i,j,rfl,rfl,q⟩:=h;obtain ⟨t,rfl⟩:=J;obtain ⟨t',rfl⟩:=G;exact rule i j t t' s _ _ ⟨.int (g i j),H,I.tok _,⟨_,rfl⟩,q⟩
theorem Qna {f:aA->aA->Sem aA} {g:Int->Int->Bool}
  (rule:∀ (i j:Int) (t u:Tok) (s:aC) (Q:zAD) (E:zAD),Q (.bool (g i j)) s->aF (aI X.prog X.w) X.A (f (.int i t) (.int j u)) Q E s) :
  OpR X f (rI0 λi j=>.bl (g i j)):=by
 intro pins s σ H x y v u Q I J G h;obtain ⟨i,j,rfl,rfl,q⟩:=h;obtain ⟨t,rfl⟩:=J;obtain ⟨t',rfl⟩:=G;exact rule i j t t' s _ _ ⟨.bl (g i j),H,I,rfl,q⟩
def J0a (i j:Int):Prop:=0<=j/\j<=1000000/\i.natAbs < 2 ^ 64
def CMul (i j:Int):Prop:=(-(2 ^ 64) < i/\i < 2 ^ 64)\/(-(2 ^ 64) < j/\j < 2 ^ 64)
theorem CMul.ok {i j:Int} (h:CMul i j):IntMulOk i j:=by
 rcases h with ⟨h1,h2⟩ | ⟨h1,h2⟩
 ·exact .of_left (intBits_le_64 h1 h2)
 ·exact .of_right (intBits_le_64 h1 h2)
theorem Qsz:OpR X (ae .Add) (rI0 λi j=>.int (i + j)):=Qwi λ_ _ _ _ _ _ _ q=>add_int q
theorem Qsr:OpR X (ae .Sub) (rI0 λi j=>.int (i - j)):=Qwi λ_ _ _ _ _ _ _ q=>sub_int q
theorem Qsu:OpR X (ae .Mult) (rI CMul λi j=>.int (i * j)):=opI λ_ _ _ _ _ _ _ G q=>mul_int q G.ok
theorem Qsv:OpR X (ae .Mod) (rI (λ_ j=>0 < j) λi j=>.int (i % j)):=opI λi j _ _ _ _ _ G q=>by
 have h1:(0:Int) < j:=G;exact mod_int' (by omega) (by rw [Int.fmod_eq_emod_of_nonneg i (by omega)]; exact q)
theorem Qst:OpR X (ae .Pow) (rI J0a λi j=>.int (i ^ j.toNat)):=opI λ_ _ _ _ _ _ _ G q=>pow_int_small G.1 G.2.1 G.2.2 q
end
section
variable {a:aH}
theorem Q40 {σ:St} {Q:VK} {k G:Bool} (I:Inv X pins σ H s) (q:Q (.bl k) H) (e:k=G):EP X pins σ Q (.bool G) s:=by
 subst e;exact ⟨.bl k,H,I,rfl,q⟩
theorem Qwf:OpR X (aS .Lt) (rI0 λi j=>.bl (decide (i < j))):=Qna λ_ _ _ _ _ _ _ q=>lt_int q
theorem Qqe:OpR X (aS .LtE) (rI0 λi j=>.bl (decide (i<=j))):=Qna λ_ _ _ _ _ _ _ q=>le_int q
theorem Qwg:OpR X (aS .Gt) (rI0 λi j=>.bl (decide (j < i))):=Qna λ_ _ _ _ _ _ _ q=>gt_int q
theorem Qwh:OpR X (aS .GtE) (rI0 λi j=>.bl (decide (j<=i))):=Qna λ_ _ _ _ _ _ _ q=>ge_int q
theorem Qsy:OpR X (aS .Is) (λx y H Q=>y=.non/\Q (.bl (decide (x=.non))) H):=by
 intro pins s σ H x y v u Q I G J h;obtain ⟨rfl,q⟩:=h;cases J;refine is_none_gen (Q40 I q ?_);cases x <;> first
  | (cases G; rfl)
  | (obtain ⟨t,rfl⟩:=G; rfl)
theorem Qn8:OpR X (aS .IsNot) (λx y H Q=>y=.non/\Q (.bl (!decide (x=.non))) H):=by
 intro pins s σ H x y v u Q I G J h;obtain ⟨rfl,q⟩:=h;cases J;refine isnot_none_gen (Q40 I q ?_);cases x <;> first
  | (cases G; rfl)
  | (obtain ⟨t,rfl⟩:=G; rfl)
theorem OpR.or {O:R2} (h:OpR X f r) (h':OpR X f O):OpR X f (λx y H Q=>r x y H Q\/O x y H Q):=by
 intro pins s σ H x y v u Q I G J q;rcases q with q | q
 ·exact h pins s σ H x y v u Q I G J q
 ·exact h' pins s σ H x y v u Q I G J q
theorem Qav (b:aH) (h:op≠.In:=by decide) (h2:op≠.NotIn:=by decide):bP op b=yo:=by
 have q:(op == CmpOp.In)=yo:=by cases op <;> first | rfl | exact absurd rfl h
 have G:(op == CmpOp.NotIn)=yo:=by cases op <;> first | rfl | exact absurd rfl h2
 cases b <;> simp [bP,q,G]
theorem Q6i (ho:OpR X (aS op) r) (J:PE X a ta) (Z:PE X b tb) (hm:bP op b=yo):PE X (.Compare a [op] [b] pos) (tOp r ta tb):=by
 intro pins s σ H Q I h;exact wpAny_Compare1 (Quc J Z I h λv u Y x y H2 I2 G O q=>ho pins Y σ H2 x y v u Q I2 G O q) hm
def Qq3 (t:TE):TT:=λσ H Q=>t σ H λx H'=>∃ k,x=.bl k/\Q k H'
theorem Qmf (q:OpR X (aS op) r) (J:PE X a ta) (hb:PE X b tb) (hm:bP op b=yo):PT X (.Compare a [op] [b] pos) (Qq3 (tOp r ta tb)):=by
 intro pins s σ H Q I h;refine wpAny_isTrue_Compare1 (thn (J pins s σ H _ I h) λv s1 ⟨x,H1,I1,r1,q1⟩=>thn (hb pins s1 σ H1 _ I1 q1) λu Y ⟨y,H2,I2,r2,q2⟩=>
  thn (q pins Y σ H2 x y v u _ I2 r1 r2 q2) λc s3 ⟨z,H3,G,O,k,e,Z⟩=>?_) hm
 subst e;cases O;exact bF ⟨H3,G,Z⟩
def Qac (r r':R2) (ta tb tc:TE):TE:=λσ H Q=>ta σ H λx H1=>tb σ H1 λy H2=>r x y H2 λz H3=>∃ k,z=.bl k /\
 (if k=zb then tc σ H3 λw' H4=>r' y w' H4 Q else Q (.bl yo) H3)
theorem Qhj {q:CmpOp} {Y:R2} (ho:OpR X (aS op) r) (G:OpR X (aS q) Y) (ha:PE X a ta) (hb:PE X b tb) (hc:PE X c tc)
  (hm:lastMarks [op,q] [b,c]=yo:=by with_unfolding_all rfl):PE X (.Compare a [op,q] [b,c] pos) (Qac r Y ta tb tc):=by
 intro pins s σ H Q I h;refine Compare_chain (thn (ha pins s σ H _ I h) λv s1 ⟨x,H1,I1,r1,q1⟩=>chain_link (thn (hb pins s1 σ H1 _ I1 q1) λu s2 ⟨y,H2,I2,J,q2⟩=>
  thn (ho pins s2 σ H2 x y v u _ I2 r1 J q2) λd s3 ⟨z,O,I3,r3,k,e,Z⟩=>?_)) hm
 subst e;cases r3;refine bF ?_;cases k with
 | false=>exact ite_ff ⟨.bl yo,O,I3,rfl,Z⟩
 | true=>exact ite_tt (chain_last (thn (hc pins s3 σ O _ I3 Z) λw' s4 ⟨z',H4,I4,r4,q4⟩=>G pins s4 σ H4 y z' u w' Q I4 J r4 q4))
theorem Qh2 {q:CmpOp} {Y:R2} (ho:OpR X (aS op) r) (G:OpR X (aS q) Y) (ha:PE X a ta) (hb:PE X b tb) (hc:PE X c tc)
  (hm:lastMarks [op,q] [b,c]=yo:=by with_unfolding_all rfl):PT X (.Compare a [op,q] [b,c] pos) (Qq3 (Qac r Y ta tb tc)):=by
 intro pins s σ H Q I h;refine isTrue_chain (thn (ha pins s σ H _ I h) λv s1 ⟨x,H1,I1,r1,q1⟩=>test_link (thn (hb pins s1 σ H1 _ I1 q1) λu s2 ⟨y,H2,I2,J,q2⟩=>
  thn (ho pins s2 σ H2 x y v u _ I2 r1 J q2) λd s3 ⟨z,O,I3,r3,k,e,Z⟩=>?_)) hm
 subst e;cases r3;refine bF ?_;cases k with
 | false=>
  obtain ⟨k',e',q'⟩:=Z;cases e';exact ite_ff ⟨O,I3,q'⟩
 | true=>
  refine ite_tt (test_last (thn (hc pins s3 σ O _ I3 Z) λw' s4 ⟨z',H4,I4,r4,q4⟩=>thn (G pins s4 σ H4 y z' u w' _ I4 J r4 q4) λd' s5 ⟨z2,H5,I5,r5,k2,e2,q5⟩=>?_))
  subst e2;cases r5;exact bF ⟨H5,I5,q5⟩
theorem Q0f:(sizeLine:Nat) < 2 ^ 63:=by rw [sizeLine_eq]; decide
theorem Qaq:OpR X (ae .Add) (λx y H Q=>∃ i j,x=.str i/\y=.str j/\i.length + j.length<=sizeLine/\Q (.str (i ++ j)) H):=by
 intro pins s σ H x y v u Q I G J h;obtain ⟨i,j,rfl,rfl,hz,q⟩:=h;obtain ⟨t,rfl⟩:=G;obtain ⟨t',rfl⟩:=J;exact add_str (λt' O=>⟨.str (i ++ j),H,I.tok _,⟨_,rfl⟩,q⟩) hz
theorem Uq {x:V} (r:Vals [x] us):∃ u,us=[u]/\RelV x u:=by
 cases r with
 | cons G q=>cases q; exact ⟨_,rfl,G⟩
theorem Qv6 {x y:V} (r:Vals [x,y] us):∃ u q,us=[u,q]/\RelV x u/\RelV y q:=by
 cases r with
 | cons J O=>
  cases O with
  | cons I G=>cases G; exact ⟨_,_,rfl,J,I⟩
end
structure ObjM (h:Heap) (x dx C:aB) (mA:zAE):Prop where
 obj:h.get? x=zo (eW C dx)
 ns:h.Ns1 dx mA
 ne:dx≠x
theorem Qev (n:h.Ns1 dx mA):∃ I,h.get? dx=zo I/\∀ name,eZ name I=zo (mA name):=by
 obtain ⟨o,es,ep,Z,hd,Y,_,hm⟩:=n;refine ⟨o,Z,λname=>?_⟩;have e:=hm name;unfold nsFind findBy at e;rw [<- Array.find?_toList] at e;unfold eZ;rw [hd];dsimp only
 split
 ·rename_i y q;rw [q] at e;exact congrArg zo e
 ·rename_i q;rw [q] at e;have a:es.toList.any (·.refKey)=yo:=by
   rw [cx];intro y O;obtain ⟨z,t,G⟩:=Y y (ee.mp O);simp [DictEntry.refKey,G]
  have J:¬ es.toList.any (·.refKey)=zb:=by rw [a]; exact D2
  rw [bU J];exact congrArg zo e
theorem ObjM.look {C:aB} (I:ObjM h x dx C mA):∃ q,PySem.W.InstAt h x (eW C dx) C (zo q)/\∀ name,eZ name q=zo (mA name):=
 let ⟨q,J,G⟩:=Qev I.ns
 ⟨q,⟨I.obj,rfl,rfl,J⟩,G⟩
theorem RelO.some_of {o:Option aA} (r:RelO (zo v) o):∃ u,o=zo u/\RelV v u:=by
 cases o with
 | none=>exact (show False from r).elim
 | some u=>exact ⟨u,rfl,r⟩
variable {C dx:aB}
section
variable {w:aJ} {fs fs':List (Str × V)}
theorem Qp4 (hok:HOk P w H h) (e:H a=zo (.ins C dx fs)):∃ mA,ObjM h a dx C mA/\(∀ f,RelO (fs.lookup f) (mA f))/\fq mA (fs.map (·.1))/\fs.length<=1000/\H dx=zo (.own a):=by
 obtain ⟨d,z,ne,ob,mA,n,r,q⟩:=(show ObjOk P w H h a (.ins C dx fs) from hok a _ e);exact ⟨mA,⟨ob,n,ne⟩,r,q,z,d⟩
end
structure Cls (K:bX) (C:aB):Prop where
 pg:fw K C bx=zb
 hd:PySem.W.hasDictIn K C=zb
 po:PySem.W.plainOver K C=zb
 sa:fx K (.ref C) "__setattr__" = zo (zo (.builtin "object.__setattr__"))
theorem Cls.get (c:Cls K C) (f:Str):fw K C f=zb:=c.pg
variable {A:aL} {E:zAD} {Q:zAD}
section
variable {σ:St} {c:aA} {b:Bool}
inductive TyOf (K:bX) (H:Hp):V->aA->Prop where
 | non:TyOf K H .non (.type "NoneType")
 | bl (x:Bool):TyOf K H (.bl x) (.type "bool")
 | int (i:Int):TyOf K H (.int i) (.type "int")
 | str (x:Str):TyOf K H (.str x) (.type "str")
 | flt (x:UInt64):TyOf K H (.flt x) (.type "float")
 | lst {a:aB} {xs:List V} (e:H a=zo (.lst xs)):TyOf K H (.ref a) (.type "list")
 | frz {a:aB} {o:Obj} {xs:List V} (e:H a=zo (.frz o (.lst xs))):TyOf K H (.ref a) (.type "list")
 | tup {a:aB} {xs:List V} (e:H a=zo (.tup xs)):TyOf K H (.ref a) (.type "tuple")
 | dK {a:aB} {kvs:List (Key × V)} (e:H a=zo (.dK kvs)):TyOf K H (.ref a) (.type "dict")
 | dT {a:aB} {kvs:List (HK × V)} (e:H a=zo (.dT kvs)):TyOf K H (.ref a) (.type "dict")
 | ins {a C dx:aB} {fs:List (Str × V)} (e:H a=zo (.ins C dx fs)) (cl:Cls K C) (ha:fx K (.ref C) "__class__" = zo (zo (.builtin "object.__class__")))
   (hn:PySem.W.specialIn K (.builtin "object.__class__") "__get__" = zo (zo (.builtin "getset_descriptor.__get__"))) (htk:PySem.W.takesIn K (.builtin "object.__class__")=zo zb)
   (hm:PySem.W.mroIn K C (.type "object")=zo zb):TyOf K H (.ref a) (.ref C)
theorem Qex {x:V} {u t:aA} (I:Inv X pins σ H s) (G:RelV x u) (ty:TyOf X.K H x t) (e:eu X.K t c=zo b) (h:∀ tk,Q (.bool b) { s with toks:=tk }) :
  aF (aI X.prog X.w) A (call (.builtin "isinstance") [u,c]) Q E s:=by
 cases ty with
 | non=>cases (show u=ba from G); exact cC PySem.W.kitx_none I.kIn True.intro e (λz=>nomatch z) h
 | bl y=>cases (show u=cm y from G); exact cC PySem.W.kitx_bool I.kIn True.intro e (λz=>nomatch z) h
 | int i=>obtain ⟨t,q⟩:=(show ∃ t,u=dY i t from G); cases q; exact cC PySem.W.kitx_int I.kIn True.intro e (λz=>nomatch z) h
 | str y=>obtain ⟨t,q⟩:=(show ∃ t,u=dZ y t from G); cases q; exact cC PySem.W.kitx_str I.kIn True.intro e (λz=>nomatch z) h
 | flt y=>obtain ⟨t,q⟩:=(show ∃ t,u=fo y t from G); cases q; exact cC PySem.W.kitx_float I.kIn True.intro e (λz=>nomatch z) h
 | @lst a xs Y=>
  cases (show u=bZ a from G);obtain ⟨_,_,n,_,h1⟩:=(show ObjOk X.prog X.w H s.heap a (.lst xs) from I.hok a _ Y);exact cC fy I.kIn ⟨_,h1,rfl⟩ e (λz=>nomatch z) h
 | @frz a ob xs Y=>
  cases (show u=bZ a from G);obtain ⟨_,_,_,n,_,h1⟩:=(show ObjOk X.prog X.w H s.heap a (.frz ob (.lst xs)) from I.hok a _ Y);exact cC fy I.kIn ⟨_,h1,rfl⟩ e (λz=>nomatch z) h
 | @tup a xs Y=>
  cases (show u=bZ a from G);obtain ⟨_,_,_,p⟩:=(show ObjOk X.prog X.w H s.heap a (.tup xs) from I.hok a _ Y);obtain ⟨o,h1,h2,_⟩:=p;exact cC PySem.W.kitx_tuple I.kIn ⟨o,h1,h2⟩ e (λz=>nomatch z) h
 | @dK a Z Y=>
  cases (show u=bZ a from G);obtain ⟨_,_,vs,_,p⟩:=(show ObjOk X.prog X.w H s.heap a (.dK Z) from I.hok a _ Y);obtain ⟨o,es,ep,h1,h2,_⟩:=p;exact cC gB I.kIn ⟨o,h1,h2.1⟩ e (λz=>nomatch z) h
 | @dT a Z Y=>
  cases (show u=bZ a from G);obtain ⟨_,_,xs,_,o,es,ep,h1,h2,_⟩:=(show ObjOk X.prog X.w H s.heap a (.dT Z) from I.hok a _ Y);exact cC gB I.kIn ⟨o,h1,h2.1⟩ e (λz=>nomatch z) h
 | @ins a C dx fs Y cl ha hn a1 hm=>
  cases (show u=bZ a from G);obtain ⟨mA,O,_⟩:=Qp4 I.hok Y;obtain ⟨od,J,_⟩:=O.look;exact cC (PySem.W.kitx_own (cl.get _) cl.hd ha hn a1 hm) I.kIn J e (λz=>nomatch z) h
end
structure Room (k:Nat) (A:aL):Prop where
 hd:A.handled=zl
 dp:A.depth + 3 * k + 5 < recursionLimit
 un:A.units + 16 * k + 200 < aQ
theorem Room.mono {j:Nat} (r:Room k A) (h:j<=k):Room j A:=⟨r.hd,by have:=r.dp; omega,by have:=r.un; omega⟩
theorem Room.deeper (r:Room (k + 1) A) (env:Env):Room k (A.deeper env):=
 ⟨r.hd,by have:=r.dp; show A.depth + 1 + 3 * k + 5 < _; omega,by have:=r.un; show A.units + 3 + 16 * k + 200 < _; omega⟩
theorem Room.depth (r:Room k A):A.depth < recursionLimit:=by have:=r.dp; omega
theorem Room.units (r:Room k A):A.units + 64 < aQ:=by have:=r.un; omega
def Qzb:TA:=λ_ H Q=>Q [] H
def Qvf (ta:TE) (tr:TA):TA:=λσ H Q=>ta σ H λx H1=>tr σ H1 λxs H2=>Q (x :: xs) H2
variable {es:List aH}
section
variable {e:aH} {t:TA}
theorem Xa:PA X [] Qzb:=λ_ _ _ _ H Q I h=>Calls.spliced_nil ⟨[],H,I,.nil,h⟩
theorem Wj (q:PE X e te) (Z:PA X es t) (hs:aN (e :: es) X.env=(yo,aO e X.env) :: aN es X.env:=by rfl):PA X (e :: es) (Qvf te t):=by
 intro pos pins s σ H Q I h;rw [hs];show aF _ _ (spliced ((yo,aO e X.env) :: aY pos (aN es X.env))) _ _ s;refine Calls.spliced_cons (thn (q pins s σ H _ I h) λu s1 ⟨x,H1,G,J,q1⟩=>?_)
 exact thn (Z pos pins s1 σ H1 _ G q1) λus s2 ⟨xs,H2,Y,r2,O⟩=>⟨x :: xs,H2,Y,.cons J r2,O⟩
def Qz5 (t:TA):TE:=λσ H Q=>t σ H λxs H1=>xs.length<=sizeLine/\∀ p,H1 p=zl->Q (.ref p) (upd H1 p (.tup xs))
def Qzc (t:TA):TE:=λσ H Q=>t σ H λxs H1=>xs.length<=sizeLine/\∀ p,H1 p=zl->Q (.ref p) (upd H1 p (.lst xs))
theorem Qsa {x1} (h:PA X es t):PE X (.Tuple es x1 pos) (Qz5 t):=by
 intro pins s σ H Q I J;refine wpAny_Tuple_spliced (thn (h pos pins s σ H _ I J) λus s1 ⟨xs,H1,G,r,z,q⟩=>⟨by rw [<- r.length]; exact z,?_⟩)
 have O:H1 s1.heap.objs.size=zl:=G.hok.fresh (O5 _);refine ⟨.ref s1.heap.objs.size,upd H1 s1.heap.objs.size (.tup xs),G.laid (t':=s1.toks) (λb u e=>O1 _ e) (O5 _) ?_,rfl,q _ O⟩;exact ⟨z,us,r,⟨_,O9 _ rfl,rfl,_,rfl⟩⟩
theorem Qhg (h:PA X es t):PE X (.List es pos) (Qzc t):=by
 intro pins s σ H Q I J;refine wpAny_List_spliced (thn (h pos pins s σ H _ I J) λus s1 ⟨xs,H1,G,r,z,q⟩=>⟨by rw [<- r.length]; exact z,?_⟩)
 have O:H1 s1.heap.objs.size=zl:=G.hok.fresh (O5 _);refine ⟨.ref s1.heap.objs.size,upd H1 s1.heap.objs.size (.lst xs),G.laid (t':=s1.toks) (λb u e=>O1 _ e) (O5 _) ?_,rfl,q _ O⟩;exact ⟨z,us,0,r,O9 _ rfl⟩
end
abbrev Sp:=List V->Hp->VK->XK->Prop
abbrev CXT:=List Env->Hp->aC->XK->aA->aC->Prop
structure Env0 (P:aK) (w:aJ) (K:bX) (mg:zAE) (base:Heap) (A:aL) (outer:List Env) (s:aC) (H:Hp):Prop where
 frames:A.frames=zo outer
 mod:Mod K mg base
 bs:∀ b o,base.get? b=zo o->s.heap.get? b=zo o/\H b=zl
 bsz:base.objs.size<=s.heap.objs.size
 funs:s.heap.FunFrames base outer
 frf:∀ b∈frs outer,H b=zl
 hok:HOk P w H s.heap
 bare:AllBare s.gens
def CE (outer:List Env) (P:aK) (w:aJ) (H:Hp) (s:aC) (Q:VK) (u:aA) (s':aC):Prop:=
 ∃ v H',s'.os=s.os/\AllBare s'.gens/\Un (frs outer) [] H H' s.heap s'.heap/\HOk P w H' s'.heap/\RelV v u/\Q v H'
def CR (CX:CXT) (outer:List Env) (P:aK) (w:aJ) (H:Hp) (s:aC) (Q:VK) (E:XK) (r:Result) (s':aC):Prop:=
 match r with
 | .ok (.ret u)=>CE outer P w H s Q u s'
 | .ok _=>False
 | .error e=>CX outer H s E e s'
structure FnOk (P:aK) (w:aJ) (K:bX) (mg:zAE) (base:Heap) (CX:CXT) (k:Nat) (f:aB) (fd:aP) (ps:List Str) (sp:Sp):Prop where
 len:∀ vs H Q E,sp vs H Q E->vs.length=ps.length
 run:∀ (A:aL) (outer:List Env) (s:aC) (H:Hp) (args:Args) (us:List aA) (vs:List V) (Q:VK) (E:XK),Room k A->Env0 P w K mg base A outer s H->BindsTo s fd args (ps.zip us)->Vals vs us->sp vs H Q E ->
  codeAny (aI P w) A (.call (.ref f) args) (CR CX outer P w H s Q E) s
theorem FnOk.imp {w:aJ} {base:Heap} {CX:CXT} {f:aB} {sp G:Sp} (F:FnOk P w K mg base CX k f fd ps sp)
  (h:∀ vs H Q E,G vs H Q E->sp vs H Q E):FnOk P w K mg base CX k f fd ps G:=
 ⟨λvs H Q E q=>F.len vs H Q E (h _ _ _ _ q),λA outer s H args us vs Q E Y O J I hs=>F.run A outer s H args us vs Q E Y O J I (h _ _ _ _ hs)⟩
variable {s':aC}
section
variable {σ:St}
theorem Inv.env0 (I:Inv X pins σ H s):Env0 X.prog X.w X.K X.mg X.base X.A X.stack s H:=
 ⟨I.ok.frames,I.ok.mod,I.bs,D9 I.ok.bsz I.sz,I.stack,I.stkFree,I.hok,I.bare⟩
theorem Inv.after {Q:VK} {u:aA} (I:Inv X pins σ H s) (h:CE X.stack X.prog X.w H s Q u s'):EP X pins σ Q u s':=by
 obtain ⟨v,H',os,bare,un,hok,r,q⟩:=h;obtain ⟨J,g,d,t,G⟩:=s';obtain rfl:G=s.os:=os;exact ⟨v,H',I.call (h':=J) (g':=g) (d':=d) (t':=t) (ch:=[]) un hok bare (λb z=>absurd z (by simp)),r,q⟩
end
def Qvg (sp:Sp) (dvs:List V) (E:XK) (t:TA):TE:=λσ H Q=>t σ H λvs H1=>sp (vs ++ dvs) H1 Q E
def Binds (K:bX) (fd:aP) (ps:List Str) (ds:List aA):Prop:=
 ∀ (s:aC) (us:List aA),K.In s.heap->(us ++ ds).length=ps.length->BindsTo s fd ⟨us,[]⟩ (ps.zip (us ++ ds))
theorem Binds.all (h:∀ us:List aA,us.length=ps.length->bindArgs fd ⟨us,[]⟩=pure (ps.zip us)):Binds K fd ps []:=λs us _ q=>by
 rw [L1] at q ⊢;exact .of_eq (h us q)
def Q4e (CX:CXT) (X:Cx) (E:XK):Prop:=∀ (pins:zAA) (σ:St) (H:Hp) (s:aC) (e:aA) (s':aC),Inv X pins σ H s->CX X.stack H s E e s'->X.xe e s'
variable {CX:CXT} {k:Nat} {f:aB} {fd:aP} {ps:List Str} {sp:Sp} {dvs:List V} {ds:List aA} {m:Str} {p apos:Pos}
section
variable {E:XK} {x:Str} {e o:aH} {t:TA}
theorem Qrt {pins:zAA} {σ:St} {H:Hp} {s:aC} {Q:VK} {us:List aA} {vs:List V} (F:FnOk X.prog X.w X.K X.mg X.base CX k f fd ps sp) (Z:Room k X.A) (O:Binds X.K fd ps ds) (hd:Vals dvs ds) (Y:Q4e CX X E)
  (I:Inv X pins σ H s) (r:Vals vs us) (h:sp (vs ++ dvs) H Q E):aF (aI X.prog X.w) X.A (call (.ref f) us) (EP X pins σ Q) X.xe s:=by
 have G:Vals (vs ++ dvs) (us ++ ds):=r.append hd;have J:(us ++ ds).length=ps.length:=by rw [<- G.length]; exact F.len _ _ _ _ h
 refine wpAny_call (bR (F.run X.A X.stack s H ⟨us,[]⟩ (us ++ ds) (vs ++ dvs) Q E Z I.env0 (O s us I.kIn J) G h) λr s' q=>?_)
 cases r with
 | error e=>exact Y pins σ H s e s' I q
 | ok fl=>
  cases fl with
  | ret u=>exact I.after q
  | next=>exact False.elim q
  | brk=>exact False.elim q
  | cont=>exact False.elim q
theorem Qmz (F:FnOk X.prog X.w X.K X.mg X.base CX k f fd ps sp) (hr:Room k X.A) (hg:Gl X x) (hm:X.mg x=zo (.ref f)) (hk:cV X.K (.ref f)=zb) (Z:Binds X.K fd ps ds) (hd:Vals dvs ds) (hx:Q4e CX X E)
  (Y:PA X (e :: es) t) (G:(x == ("__debug__" : Str))=yo:=by decide) (he:aN (e :: es) X.env=(yo,aO e X.env) :: aN es X.env:=by rfl) (J:(aY pos (aN es X.env)).any (·.1)=yo:=by rfl) :
  PE X (.Call (.Name x p) (e :: es) [] pos) (Qvg sp dvs E t):=by
 intro pins s σ H Q I h;refine wpAny_Call_Name_kw (Q72 I hg hm ?_ G);refine PySem.W.callWith_K (h₀:=X.base) I.ok.mod.kin hk (thn (Y pos pins s σ H _ I h) λus s1 ⟨vs,H1,O,r,q⟩=>⟨O.kIn,?_⟩) he J
 exact Qrt F hr Z hd hx O r q
end
structure FnScope (N P:List Str) (sc:Scope):Prop where
 kind:sc.kind=.function
 co:sc.isCoroutine=yo
 gen:sc.isGenerator=yo
 nd:N.Nodup
 pre:N.take P.length=P
 par:∀ x∈P,sc.names.lookup x=zo .local\/sc.names.lookup x=zo .cell
 nofree:∀ y∈sc.names,y.2≠.free
theorem Q5v {kindOf:Str->Option ay} {x:Str}:∀ {binds:List (Str × aA)} {m:zAE},(∀ v,(x,v)∉binds)->bindL kindOf binds m x=m x
 | [],_,_=>rfl
 | (n,v) :: r,m,h=>by
  unfold bindL;rw [Q5v λw q=>h w (O4 _ q)]
  split
  ·have:x≠n:=by rintro rfl; exact h v F4
   simp [this]
  ·rfl
theorem Q5x {kindOf:Str->Option ay} {x:Str}:∀ {binds:List (Str × aA)} {m:zAE},(∀ v,(x,v)∉binds)->bindC kindOf binds m x=m x
 | [],_,_=>rfl
 | (n,v) :: r,m,h=>by
  unfold bindC;rw [Q5x λw q=>h w (O4 _ q)]
  split
  ·rfl
  ·have:x≠n:=by rintro rfl; exact h v F4
   simp [this]
theorem Q5w {kindOf:Str->Option ay} {x:Str} {v:aA}:∀ {P:List Str} {vs:List aA} {i:Nat} {m:zAE},P.Nodup->P[i]?=zo x->vs[i]?=zo v->kindOf x=zo .local ->
  bindL kindOf (P.zip vs) m x=zo v
 | [],_,_,_,_,h,_,_=>by simp at h
 | _ :: _,[],_,_,_,_,h,_=>by simp at h
 | p :: P,w :: vs,0,m,nd,h1,h2,q=>by
  simp at h1 h2; subst h1; subst h2;show bindL kindOf ((p,w) :: P.zip vs) m p=_;unfold bindL;rw [Q5v λv G=>(cW.mp nd).1 (fA G).1,bT q]
  simp
 | p :: P,w :: vs,i + 1,m,nd,h1,h2,q=>by
  show bindL kindOf ((p,w) :: P.zip vs) m x=_;unfold bindL;exact Q5w (i:=i) (cW.mp nd).2 (by simpa using h1) (by simpa using h2) q
theorem Q5y {kindOf:Str->Option ay} {x:Str} {v:aA}:∀ {P:List Str} {vs:List aA} {i:Nat} {m:zAE},P.Nodup->P[i]?=zo x->vs[i]?=zo v->kindOf x≠zo .local ->
  bindC kindOf (P.zip vs) m x=zo v
 | [],_,_,_,_,h,_,_=>by simp at h
 | _ :: _,[],_,_,_,_,h,_=>by simp at h
 | p :: P,w :: vs,0,m,nd,h1,h2,q=>by
  simp at h1 h2; subst h1; subst h2;show bindC kindOf ((p,w) :: P.zip vs) m p=_;unfold bindC;rw [Q5x λv G=>(cW.mp nd).1 (fA G).1,bU q]
  simp
 | p :: P,w :: vs,i + 1,m,nd,h1,h2,q=>by
  show bindC kindOf ((p,w) :: P.zip vs) m x=_;unfold bindC;exact Q5y (i:=i) (cW.mp nd).2 (by simpa using h1) (by simpa using h2) q
def start (N:List Str) (vs:List V):St:=vs.map zo ++ bc (N.length - vs.length) zl
def Qf5 (CX:CXT) (P:aK) (w:aJ) (K:bX) (mg:zAE) (base:Heap) (N:List Str) (qual:Str) (scope:Scope) (f:aB) (cd:aA) (A:aL) (outer:List Env) (s:aC) (H:Hp) (E:XK):Cx where
 prog:=P
 w:=w
 K:=K
 mg:=mg
 base:=base
 A:=A.deeper (envOfC qual scope s.heap.objs.size f cd)
 N:=N
 s₀:=s
 H₀:=H
 env:=envOfC qual scope s.heap.objs.size f cd
 outer:=outer
 stack:=envOfC qual scope s.heap.objs.size f cd :: outer
 ex:=[]
 calm:=zb
 fn:=λ_=>zb
 pn:=[]
 xe:=λe s'=>aF (aI P w) (A.deeper (envOfC qual scope s.heap.objs.size f cd)) (leaving (envOfC qual scope s.heap.objs.size f cd) e) (λ_ s''=>CX outer H s E e s'') (λe' s''=>CX outer H s E e' s'') s'
theorem Q9x {sc:Scope} {x:Str} (h:sc.names.lookup x=zo .cell):∃ c,(ao n sc.names []).lookup x=zo c:=by
 have q:=fB sc.names n [] (.inl h);exact gC.mp q
theorem Qey {CX:CXT} {P:aK} {w:aJ} {K:bX} {mg:zAE} {base:Heap} {N ps:List Str} {qual:Str} {scope:Scope} {f:aB} {cd:aA} {A:aL} {outer:List Env} {s s1:aC} {H:Hp} {E:XK} {us:List aA} {vs:List V}
  (S:FnScope N ps scope) (hd:A.handled=zl) (G:Env0 P w K mg base A outer s H) (hl:vs.length=ps.length) (r:Vals vs us)
  (x:InCallC s s.heap.objs.size (bindL (envOfC qual scope s.heap.objs.size f cd).kindOf (ps.zip us) λ_=>zl) (ao (s.heap.objs.size + 1) scope.names []) (bindC (envOfC qual scope s.heap.objs.size f cd).kindOf (ps.zip us) λ_=>zl) s1) :
  Inv (Qf5 CX P w K mg base N qual scope f cd A outer s H E) [] (start N vs) H s1:=by
 have a1:ps.length<=N.length:=by have:=congrArg cy S.pre; rw [L8] at this; omega
 obtain ⟨h1,tk,rfl,hk⟩:=x.done;have J:∀ b:aB,b∉(Qf5 CX P w K mg base N qual scope f cd A outer s H E).ex:=λb z=>absurd (show b∈([]:List aB) from z) (by simp)
 refine ⟨⟨G.mod,S.kind,rfl,rfl,O5 _,λy z c h1 h2=>?_,λy I=>?_,λy c _ h=>?_,λ_=>hd,Around.frames_deeper G.frames,.inr ⟨rfl,rfl⟩,λb z=>absurd z (J b),G.bs,G.bsz,λb _ _=>J b,λb z=>absurd z (J b),G.funs,G.frf⟩,
  rfl,G.bare,Un.kept hk,⟨_,x.toInCall.ns,λi y v h1 h2 h3=>?_⟩,λy c h=>⟨_,x.cell y c h⟩,G.hok.fresh (O5 _),λy c h=>?_,λp Y=>absurd (show p∈([]:zAA) from Y) (by simp),G.hok.kept hk,?_⟩
 ·exact name_of_addr x.apart (cO h1) (cO h2)
 ·have I:scope.names.lookup y=zo .cell\/scope.names.lookup y=zo .free:=I;rcases I with I | I
  ·exact Q9x I
  ·exact absurd rfl (S.nofree _ (cO I))
 ·exact cn (x.above y c (cO h))
 ·have hi:i < vs.length:=by
   unfold start at h2
   by_cases hi:i < vs.length
   ·exact hi
   ·rw [D4 (by simpa using hi)] at h2;rw [gD] at h2
    split at h2 <;> cases h2
  have ha:vs[i]?=zo v:=by
   unfold start at h2;rw [O8 (by simpa using hi),D7] at h2;cases e:vs[i]? with
   | none=>rw [e] at h2; cases h2
   | some a=>rw [e] at h2; cases h2; rfl
  obtain ⟨u,Z,rv⟩:=r.get ha;have Y:ps[i]?=zo y:=by
   rw [<- S.pre,gE (by omega)]; exact h1
  have O:ps.Nodup:=by rw [<- S.pre]; exact S.nd.sublist (gF _ _)
  refine ⟨u,rv,?_⟩;rcases S.par y (E2 Y) with k | k
  ·exact .inl ⟨k,Q5w O Y Z k⟩
  ·obtain ⟨c,e⟩:=Q9x (n:=s.heap.objs.size + 1) k;refine .inr ⟨.inl k,c,e,?_⟩;have q:=x.cell y c e;rw [Q5y O Y Z (by show scope.names.lookup y≠_; rw [k]; decide)] at q;exact q
 ·exact G.hok.fresh (cn (x.above y c (cO h)))
 ·unfold start;show _=N.length;rw [O6,O0,List.length_replicate];omega
theorem Qxp {CX:CXT} {P:aK} {w:aJ} {K:bX} {mg:zAE} {base:Heap} {k:Nat} {f:aB} {name qual:Str} {O:Arguments} {body:List aM} {scope:Scope} {dV kV a2 pm G ct oc:aA} {an od:Option aB}
  {a4:Array (Option aA)} {N ps:List Str} {sp:Sp} (lk:K.lookup f=zo ⟨oc,od,.func (br name qual O body scope dV kV a2 pm an G ct),a4⟩) (a5:cp K G qual=zb) (S:FnScope N ps scope)
  (len:∀ vs H Q E,sp vs H Q E->vs.length=ps.length)
  (Z:∀ (A:aL) (outer:List Env) (s:aC) (H:Hp) (vs:List V) (Q:VK) (E:XK),Room k (A.deeper (envOfC qual scope s.heap.objs.size f G))->sp vs H Q E ->
   ∃ t,PSs (Qf5 CX P w K mg base N qual scope f G A outer s H E) body t/\t { nx:=λ_ H'=>Q .non H',rt:=Q } (start N vs) H) :
  FnOk P w K mg base CX (k + 1) f (br name qual O body scope dV kV a2 pm an G ct) ps sp:=by
 refine ⟨len,λA outer s H args us vs Q E hr e0 hb r a3=>?_⟩;have hl:=len _ _ _ _ a3;have KX:K.In s.heap:=e0.mod.kin.keeps λb o e=>(e0.bs b o e).1
 have lim:s.heap.NoLimit:=e0.mod.nolimit.keeps λb o e=>(e0.bs b o e).1
 have a1:∀ y∈ps.zip us,scope.names.lookup y.1=zo .local\/(scope.names.lookup y.1=zo .cell/\((ao (s.heap.objs.size + 1) scope.names []).lookup y.1).isSome=zb):=λ⟨n,v⟩ hy=>by
  rcases S.par n (fA hy).1 with q | q
  ·exact .inl q
  ·exact .inr ⟨q,fB _ _ _ (.inl q)⟩
 refine codeAny_call_function hr.depth (KX _ _ lk) rfl S.co S.gen rfl (PySem.W.codeRec_of KX a5) (hb _ _ _ _ ?_);refine wpAny_newFunctionEnv_cells S.kind a1 λenv he s1 x=>?_
 subst he;refine ⟨lim.keeps x.toInCall.keep,codeAny_func ?_⟩;obtain ⟨t,ht,hq⟩:=Z A outer s H vs Q E (hr.deeper _) a3;have I:Inv (Qf5 CX P w K mg base N qual scope f G A outer s H E) [] (start N vs) H s1:=Qey S hr.hd e0 hl r x;refine au (ht [] s1 (start N vs) H _ I hq) (λfl s' hs=>?_) λe s' hs=>hs
 have fin:∀ {Y:St} {H':Hp} {v:V} {u:aA},Inv (Qf5 CX P w K mg base N qual scope f G A outer s H E) [] Y H' s'->RelV v u->Q v H'->CE outer P w H s Q u s':=
  λ{Y H' v u} J rv q=>⟨v,H',J.os,J.bare,J.base,J.hok,rv,q⟩
 cases fl with
 | ret u=>
  obtain ⟨v,Y,H',J,rv,q⟩:=hs;exact fin J rv q
 | next=>
  obtain ⟨Y,H',J,q⟩:=hs;exact fin (v:=V.non) (u:=ba) J rfl q
 | brk=>
  obtain ⟨_,_,_,q⟩:=hs;exact False.elim q
 | cont=>
  obtain ⟨_,_,_,q⟩:=hs;exact False.elim q
variable {T:String} {r:List V->Hp->VK->Prop}
section
variable {x:Str} {e:aH} {t:TA} {id:String}
def tCB (r:List V->Hp->VK->Prop) (t:TA):TE:=λσ H Q=>t σ H λvs H1=>r vs H1 Q
theorem yq (hc:Wz X (.builtin id) r) (Z:Gl X x) (hm:X.mg x=zl) (J:aX x=zo (.builtin id)) (O:PA X (e :: es) t) (Y:x≠"__name__" := by decide) (q:(x == ("__debug__" : Str))=yo:=by decide)
  (he:aN (e :: es) X.env=(yo,aO e X.env) :: aN es X.env:=by rfl) (G:(aY pos (aN es X.env)).any (·.1)=yo:=by rfl):PE X (.Call (.Name x p) (e :: es) [] pos) (tCB r t):=by
 intro pins s σ H Q I h;refine wpAny_Call_Name_kw (qu I Z hm J ?_ Y q);exact ij (thn (O pos pins s σ H _ I h) λus s1 ⟨vs,H1,I1,r1,q1⟩=>hc pins s1 σ H1 vs us Q I1 r1 q1) he G
theorem Xq (hc:Wz X (.type T) r) (Z:Gl X x) (hm:X.mg x=zl) (J:aX x=zo (.type T)) (O:PA X (e :: es) t) (Y:x≠"__name__" := by decide) (q:(x == ("__debug__" : Str))=yo:=by decide)
  (he:aN (e :: es) X.env=(yo,aO e X.env) :: aN es X.env:=by rfl) (G:(aY pos (aN es X.env)).any (·.1)=yo:=by rfl):PE X (.Call (.Name x p) (e :: es) [] pos) (tCB r t):=by
 intro pins s σ H Q I h;refine wpAny_Call_Name_kw (qu I Z hm J ?_ Y q);exact cw (thn (O pos pins s σ H _ I h) λus s1 ⟨vs,H1,I1,r1,q1⟩=>hc pins s1 σ H1 vs us Q I1 r1 q1) he G
end
end L2
namespace HT
open PySem PyProof.Rows
def lexLt:List Int->List Int->Bool
 | [],[]=>yo
 | [],_ :: _=>zb
 | _ :: _,[]=>yo
 | x :: xs,y :: ys=>if x=y then lexLt xs ys else decide (x < y)
theorem Qb1 (x y:Int) (xs ys:List Int):lexLt (x :: xs) (y :: ys)=if x=y then lexLt xs ys else decide (x < y):=rfl
theorem Q4r:lexLt [] []=yo:=rfl
theorem Q3p (y:Int) (ys:List Int):lexLt [] (y :: ys)=zb:=rfl
theorem Q3q (x:Int) (xs:List Int):lexLt (x :: xs) []=yo:=rfl
theorem eqAt_int (A:aL) (s:aC) (a:Int) (t:Tok) (c:Int) (u:Tok):∃ e,SeqAt.EqAt A s (.int a t) (.int c u) e/\(e=zb <-> a=c):=
 ⟨(a == c),SeqAt.EqAt.int_int a t c u,by simp⟩
theorem rcLt_int (A:aL) (s:aC) (a:Int) (t:Tok) (c:Int) (u:Tok) (prog:aK) (w:aJ) (E:aA->aC->Prop) (Q:aA->aC->Prop) (h:Q (.bool (decide (a < c))) s) :
  aF (aI prog w) A (richCompare .Lt (.int a t) (.int c u)) Q E s:=
 (ik h:aF (aI prog w) A (aS .Lt (.int a t) (.int c u)) Q E s)
section
open PySem.SeqAt
open PySem.AutoSeq1 (wpAny_loadPart')
open PySem.MeetsSeq PySem.MeetsSeq2 PySem.MeetsSeq3
theorem Q4j (l b:aB) (I G:Array aA) (n n2:Nat) (dd a9:Option aB) (sl a7:Array (Option aA)) (ns ms:List Int) (hi:IntsAre I.toList ns) (hj:IntsAre G.toList ms) :
  Meets (Builtin.«tuple.__lt__» ⟨[.ref l,.ref b],[]⟩)
   (λ_ R s=>s.heap.get? l=zo { cls:=.type "tuple",dict:=dd,data:=.seq I n,slots:=sl }/\s.heap.get? b=zo { cls:=.type "tuple",dict:=a9,data:=.seq G n2,slots:=a7 } /\
    R (.ok (.ret (.bool (lexLt ns ms)))) s):=
 .of_wp λprog w A R s h=>by
  obtain ⟨hp,g,d,tk,os⟩:=s; obtain ⟨hl,hb,h⟩:=h;have f2:=AutoSeq1.sub_tuple_tuple;have z1:I.size=ns.length:=by rw [<- hi.length]; simp
  have z2:G.size=ms.length:=by rw [<- hj.length]; simp
  wp_walk using wpAny_loadPart' hl,wpAny_loadPart' hb,wpAny_forIn_list _ (λrest b s'=>b.1=zl/\s'=⟨hp,g,d,tk,os⟩/\∃ (vs ws:List aA) (Y O:List Int),rest=vs.zip ws /\
   IntsAre vs Y/\IntsAre ws O/\Y.length + G.size=O.length + I.size/\R (.ok (.ret (.bool (lexLt Y O)))) ⟨hp,g,d,tk,os⟩) _
  case turn=>
   rintro ⟨y,x⟩ rest b s' ⟨a4,rfl,vs,ws,Y,O,hz,a3,Z,J,hR⟩;cases a3 with
   | nil=>rw [List.zip_nil_left] at hz; cases hz
   | cons a t a6=>
    cases Z with
    | nil=>rw [List.zip_nil_right] at hz; cases hz
    | cons c u a5=>
     rw [di] at hz;injection hz with a8 a2
     injection a8 with hy hx
     subst hy hx;rw [Qb1] at hR;simp only [D3] at J;obtain ⟨e,he,a1⟩:=eqAt_int A.in1 ⟨hp,g,d,tk,os⟩ a t c u;refine aD (he prog w _ _ ?_);cases e with
     | true=>
      rw [bT (a1.mp rfl)] at hR
      wp_walk
      exact ⟨rfl,rfl,_,_,_,_,a2,a6,a5,by omega,hR⟩
     | false=>
      rw [bU (λq=>absurd (a1.mpr q) D2)] at hR
      have b0:=rcLt_int A.in1 ⟨hp,g,d,tk,os⟩ a t c u prog w
      wp_walk using b0
      exact ⟨_,rfl,by simpa using hR⟩
  case fin=>
   rintro ⟨b1,b2⟩ s' ⟨a4,rfl,vs,ws,Y,O,hz,a3,Z,J,hR⟩;simp only at a4;subst a4;have hv:lexLt Y O=decide (I.size < G.size):=by
    cases a3 with
    | nil=>
     cases Z with
     | nil=>
      simp only [cG] at J;rw [Q4r];exact (bV (by omega)).symm
     | cons c u hw=>
      simp only [cG,D3] at J;rw [Q3p];exact (bW (by omega)).symm
    | cons a t hv=>
     cases Z with
     | nil=>
      simp only [cG,D3] at J;rw [Q3q];exact (bV (by omega)).symm
     | cons c u hw=>
      rw [di] at hz;cases hz
   rw [hv] at hR
   wp_walk
   exact ⟨_,rfl,by simpa [Builtin.Tuple.tupleCompareSizes] using hR⟩
  case h=>
   exact ⟨rfl,rfl,I.toList,G.toList,ns,ms,rfl,hi,hj,by omega,h⟩
end
variable {prog:aK} {A:aL} {E:aA->aC->Prop} {s:aC}
section
variable {w:aJ}
theorem lt_tupInts {l b:aB} {G q:Array aA} {ns ms:List Int} {Q:aA->aC->Prop} (Y:IsTup s.heap l G) (hb:IsTup s.heap b q) (hi:IntsAre G.toList ns) (hj:IntsAre q.toList ms)
  (Z:A.units < aQ) (h:Q (.bool (lexLt ns ms)) s):aF (aI prog w) A (aS .Lt (.ref l) (.ref b)) Q E s:=by
 obtain ⟨⟨cls,dd,data,sl⟩,ho,hc,n,hd⟩:=id Y;obtain ⟨⟨O,J,data2,I⟩,ho2,hc2,n2,hd2⟩:=id hb;simp only at hc hd hc2 hd2;subst hc hd hc2 hd2;exact richCompare_meets_room (op:=.Lt) ⟨_,ho,rfl⟩ ⟨_,ho2,rfl⟩ gG gH (gI _ _) (Q4j l b G q n n2 dd J sl I ns ms hi hj)
  ⟨ho,ho2,show cm (lexLt ns ms)≠fC/\Q (.bool (lexLt ns ms)) s from ⟨(λx=>nomatch x),h⟩⟩ Z
theorem cat_tup {t b:aB} {vs ws:List aA} {Q:aA->aC->Prop} (ht:IsTup s.heap t vs.toArray) (Z:IsTup s.heap b ws.toArray) (J:vs≠[])
  (h1:ws=[]->Q (.ref t) s) (h2:ws≠[]->Q (.ref s.heap.objs.size) { s with heap:=s.heap.push { cls:=.type "tuple",data:=.seq (vs ++ ws).toArray } })
  (hsz:vs.length + ws.length<=sizeLine):aF (aI prog w) A (ae .Add (.ref t) (.ref b)) Q E s:=by
 obtain ⟨⟨cls,dd,data,O⟩,ho,hc,n,hd⟩:=id ht;obtain ⟨⟨Y,G,data2,q⟩,ho2,hc2,n2,hd2⟩:=id Z;simp only at hc hd hc2 hd2;subst hc hd hc2 hd2;have e:vs.toArray ++ ws.toArray=(vs ++ ws).toArray:=by simp
 by_cases I:ws=[]
 ·exact concat_meets ⟨_,ho,rfl⟩ ⟨_,ho2,rfl⟩ noFill_tuple_add seq_tuple_add fD fE (fF _ _)
   (tuple_addW1 t b vs.toArray ws.toArray n n2 dd G O q (by simpa using J) (by simp [I])) ⟨ho,ho2,h1 I⟩
 ·refine concat_meets ⟨_,ho,rfl⟩ ⟨_,ho2,rfl⟩ noFill_tuple_add seq_tuple_add fD fE (fF _ _)
   (tuple_addW2 t b vs.toArray ws.toArray n n2 dd G O q (by simpa using J) (by simpa using I) (by rw [D0,D0]; exact hsz)) ⟨ho,ho2,?_⟩
  rw [e];exact h2 I
def sIx (n d:Nat):Option Int->Nat
 | none=>d
 | some v=>if v < 0 then (v + (n:Int)).toNat else min v.toNat n
theorem sIx_none (n d:Nat):sIx n d zl=d:=rfl
theorem sIx_nat (n d k:Nat):sIx n d (zo (k:Int))=min k n:=by
 show (if (k:Int) < 0 then ((k:Int) + (n:Int)).toNat else min (k:Int).toNat n)=min k n;rw [bU (by omega),bo]
theorem Qrr (n d:Nat) (hd:d<=n) (o:Option Int):sIx n d o<=n:=by
 cases o with
 | none=>exact hd
 | some v=>
  show (if v < 0 then (v + (n:Int)).toNat else min v.toNat n)<=n
  by_cases q:v < 0
  ·rw [bT q]; omega
  ·rw [bU q]; exact Nat.min_le_right _ _
theorem Qd8 (v:Int) (n d:Nat):(if v < 0 then max (v + (n:Int)) 0 else min v (n:Int))=((sIx n d (zo v):Nat):Int):=by
 show (if v < 0 then max (v + (n:Int)) 0 else min v (n:Int))=(((if v < 0 then (v + (n:Int)).toNat else min v.toNat n):Nat):Int)
 by_cases q:v < 0
 ·simp only [bT q]; omega
 ·simp only [bU q]; omega
theorem Qbw (lo hi:Option Int) (n:Nat):Builtin.Slice.sliceAdjust lo hi 1 (n:Int)=(((sIx n 0 lo:Nat):Int),((sIx n n hi:Nat):Int)):=by
 have h1:¬ ((1:Int) < 0):=by omega
 unfold Builtin.Slice.sliceAdjust;simp only [h1,if_false];refine dO ?_ ?_
 ·cases lo with
  | none=>rfl
  | some v=>exact Qd8 v n 0
 ·cases hi with
  | none=>rfl
  | some v=>exact Qd8 v n n
theorem Qak (i j:Nat):Builtin.Slice.slicePlaces (i:Int) (j:Int) 1=j - i:=by
 unfold Builtin.Slice.slicePlaces;have h1:(1:Int) > 0:=by omega
 simp only [h1,if_true,Int.ediv_one]
 split <;> omega
theorem Q2i {v:aA} {o:Option Int} {Q:Option Int->aC->Prop} (p:IsPart v o) (h:Q o s):aF (aI prog w) A (Builtin.Slice.slicePartIndex v) Q E s:=by
 cases p with
 | none=>exact slicePart_none h
 | int i t=>exact slicePart_int h
theorem Xn {O:aB} {I J:aA} {lo hi:Option Int} {n:Nat} {Q:Int × Int × Nat->aC->Prop} (hs:s.heap.IsSliceOf O I J .none) (Y:IsPart I lo) (pu:IsPart J hi)
  (h:Q (((sIx n 0 lo:Nat):Int),1,sIx n n hi - sIx n 0 lo) s):aF (aI prog w) A (Builtin.Slice.sliceApplied (.ref O) (pure (n:Int))) Q E s:=by
 obtain ⟨os,q,Z,G⟩:=id hs;unfold Builtin.Slice.sliceApplied Builtin.Slice.sliceFields;refine aD (aD (ag q G (x:=I) rfl (aD (ag q G (x:=J) rfl (aD (ag q G (x:=.none) rfl (wpAny_pure ?_)))))));refine aD (slicePart_none ?_);show aF _ _ (if ((1:Int) == 0)=zb then _ else _) _ _ s;rw [bU (by decide)];refine aD (Q2i Y (aD (Q2i pu (aD (wpAny_pure ?_)))));show aF _ _ (match Builtin.Slice.sliceAdjust lo hi 1 (n:Int) with | (lo,hi)=>pure (lo,(1:Int),Builtin.Slice.slicePlaces lo hi 1)) _ _ s
 rw [Qbw lo hi n];show aF _ _ (pure (((sIx n 0 lo:Nat):Int),(1:Int),Builtin.Slice.slicePlaces ((sIx n 0 lo:Nat):Int) ((sIx n n hi:Nat):Int) 1)) _ _ s;rw [Qak];exact wpAny_pure h
theorem Qhc (xs:Array aA) (i k:Nat):((bY k).filterMap λ(m:Nat)=>xs[((i:Int) + (m:Int) * 1).toNat]?).toArray=((xs.toList.drop i).take k).toArray:=by
 have e:(λ(m:Nat)=>xs[((i:Int) + (m:Int) * 1).toNat]?)=λm=>xs[i + m]?:=by
  funext m;have:((i:Int) + (m:Int) * 1).toNat=i + m:=by omega
  rw [this]
 rw [e];have:=pick_run xs i k;rw [gJ] at this;have q:((λx=>xs[x]?) ∘ λx=>i + x)=λm=>xs[i + m]?:=rfl
 rw [q] at this;rw [this]
theorem getItem_tuple_cut {t Z:aB} {G:Array aA} {vl vu:aA} {lo hi:Option Int} {Q:aA->aC->Prop} (J:IsTup s.heap t G) (hs:s.heap.IsSliceOf Z vl vu .none) (pl:IsPart vl lo) (pu:IsPart vu hi)
  (hw:¬ (sIx G.size 0 lo=0/\sIx G.size G.size hi=G.size))
  (h:Q (.ref s.heap.objs.size) { s with heap:=s.heap.push { cls:=.type "tuple",data:=.seq ((G.toList.drop (sIx G.size 0 lo)).take (sIx G.size G.size hi - sIx G.size 0 lo)).toArray } })
  (hsz:G.size<=sizeLine):aF (aI prog w) A (getItem (.ref t) (.ref Z)) Q E s:=by
 have I:sizeOk (.seq ((G.toList.drop (sIx G.size 0 lo)).take (sIx G.size G.size hi - sIx G.size 0 lo)).toArray):=by
  show ((G.toList.drop (sIx G.size 0 lo)).take (sIx G.size G.size hi - sIx G.size 0 lo)).toArray.size<=sizeLine;rw [D0,L8,cq,be];omega
 have hj:sIx G.size G.size hi<=G.size:=Qrr _ _ (O5 _) hi;obtain ⟨os,a2,a1,a3⟩:=id hs;have O:s.TypeIs (.ref Z) "slice" := ⟨os,a2,a1⟩;unfold getItem
 try with_reducible refine ak ?_
 first | refine aD (wpAny_pure ?_) | skip
 refine aD (wpAny_sequenceKey J.typeIs (by decide) ?_);refine aD (wpAny_callSpecial?_slot (name:=cE "__getitem__") J.typeIs dj
  (ah dj J.typeIs entry_tuple_getitem ?_ (args_tuple_getitem _ _)))
 show aF _ _ (Builtin.Tuple.tupleItemsOf (.ref t) >>= _) _ _ s;refine aD (tupleItemsOf_ J ?_);refine aD (bB O ?_);rw [bT (by decide)];refine aD (Xn hs pl pu ?_);have Y:¬ ((((sIx G.size 0 lo:Nat):Int) == 0 && (1:Int) == 1 && (sIx G.size G.size hi - sIx G.size 0 lo) == G.size)=zb):=by
  intro q;rw [E4,E4] at q;have q1:((sIx G.size 0 lo:Nat):Int)=0:=eq_of_beq q.1.1;have q2:sIx G.size G.size hi - sIx G.size 0 lo=G.size:=eq_of_beq q.2;exact hw ⟨by omega,by omega⟩
 show aF _ _ (if (((sIx G.size 0 lo:Nat):Int) == 0 && (1:Int) == 1 && (sIx G.size G.size hi - sIx G.size 0 lo) == G.size)=zb then _ else _) _ _ s;rw [bU Y,Qhc]
 first
  | exact aD (m:=Builtin.Tuple.tupleExact _) (av (wpAny_pure ⟨_,rfl,wpAny_pure h⟩) I)
  | exact aD (m:=Builtin.Tuple.tupleExact _) (av (aD (wpAny_pure (wpAny_pure ⟨_,rfl,wpAny_pure h⟩))) I)
  | exact aD (aD (m:=Builtin.Tuple.tupleExact _) (av (wpAny_pure (wpAny_pure ⟨_,rfl,wpAny_pure h⟩)) I))
  | exact aD (aD (m:=Builtin.Tuple.tupleExact _) (av (wpAny_pure ⟨_,rfl,wpAny_pure h⟩) I))
end
end HT
namespace L2
open PySem PySem.Spec PyProof.Rows
variable {xs:List V} {us:List aA} {n j t':Nat} {α:Type} {σ:St} {H:Hp} {s:aC} {p:aB} {x:V}
abbrev TO:=St->Hp->(Option Int->Hp->Prop)->Prop
def PO (X:Cx) (e:Option aH) (t:TO):Prop:=
 ∀ (pins:zAA) (s:aC) (σ:St) (H:Hp) (Q:Option Int->Hp->Prop),Inv X pins σ H s->t σ H Q ->
  aF (aI X.prog X.w) X.A (evalPart e X.env) (λu s'=>∃ o H',Inv X pins σ H' s'/\IsPart u o/\Q o H') X.xe s
def Qkf:TO:=λ_ H Q=>Q zl H
def Qva (t:TE):TO:=λσ H Q=>t σ H λx H1=>∃ i,x=.int i/\Q (zo i) H1
theorem Q3u {ns:List Int}:∀ {us:List aA},Vals (ns.map V.int) us->IntsAre us ns:=by
 induction ns with
 | nil=>intro us r; rw [gK] at r; cases r; exact .nil
 | cons n ns G=>
  intro us r;rw [D5] at r;cases r with
  | cons I q=>
   obtain ⟨t,e⟩:=I;subst e;exact .cons n t (G q)
variable {X:Cx} {e:aH} {te:TE} {lo hi:Option aH} {tl th:TO} {pos p2:Pos}
theorem Qmq:PO X zl Qkf:=by
 intro pins s σ H Q I h;rw [evalPart_none];exact wpAny_pure ⟨zl,H,I,.none,h⟩
theorem Qmp (h:PE X e te):PO X (zo e) (Qva te):=by
 intro pins s σ H Q I G;rw [evalPart_some];refine thn (h pins s σ H _ I G) λu s1 ⟨x,H1,J,O,Y⟩=>?_
 obtain ⟨i,rfl,q⟩:=Y;obtain ⟨t,rfl⟩:=O;exact ⟨zo i,H1,J,.int i t,q⟩
def SlR (X:Cx) (r:V->Option Int->Option Int->Hp->VK->Prop):Prop:=
 ∀ (pins:zAA) (s:aC) (σ:St) (H:Hp) (x:V) (v vl vu:aA) (lo hi:Option Int) (sl:aB) (Q:VK),Inv X pins σ H s->RelV x v->s.heap.IsSliceOf sl vl vu .none->IsPart vl lo->IsPart vu hi->r x lo hi H Q ->
  ∃ T id,typeLookup (.type T) "__getitem__" = pure (zo (.builtin id))/\s.TypeIs v T/\aF (aI X.prog X.w) X.A (getItem v (.ref sl)) (EP X pins σ Q) X.xe s
theorem SlR.or {r Y:V->Option Int->Option Int->Hp->VK->Prop} (h:SlR X r) (h':SlR X Y):SlR X (λx lo hi H Q=>r x lo hi H Q\/Y x lo hi H Q):=by
 intro pins s σ H x v O vu lo hi Z Q I G hs J pu q;rcases q with q | q
 ·exact h pins s σ H x v O vu lo hi Z Q I G hs J pu q
 ·exact h' pins s σ H x v O vu lo hi Z Q I G hs J pu q
def tSl (r:V->Option Int->Option Int->Hp->VK->Prop) (te:TE) (tl th:TO):TE:=λσ H Q=>te σ H λx H1=>tl σ H1 λl H2=>th σ H2 λu H3=>r x l u H3 Q
theorem Qhf {r:V->Option Int->Option Int->Hp->VK->Prop} (hr:SlR X r) (he:PE X e te) (hl:PO X lo tl) (hu:PO X hi th):PE X (.Subscript e (.Slice lo hi zl p2) pos) (tSl r te tl th):=by
 intro pins s σ H Q I h;refine Subscript_ (thn (he pins s σ H _ I h) λv s1 ⟨x,H1,I1,r1,q1⟩=>?_)
 refine wpAny_Slice (thn (hl pins s1 σ H1 _ I1 q1) λO Z ⟨l,H2,I2,pl,q2⟩=>thn (hu pins Z σ H2 _ I2 q2) λJ G ⟨u,Y,I3,pu,q3⟩=>?_)
 rw [evalPart_none];refine wpAny_pure ?_;have I4:Inv X pins σ Y { G with heap:=G.heap.push { cls:=.type "slice",data:=.fields #[O,J,.none] } }:=I3.kept (t':=G.toks) λb ob q=>O1 _ q
 obtain ⟨T,id,hT,ht,hg⟩:=hr pins { G with heap:=G.heap.push { cls:=.type "slice",data:=.fields #[O,J,.none] } } σ Y x v O J l u G.heap.objs.size Q I4 r1 (Heap.IsSliceOf.new ..) pl pu q3;show aF (aI X.prog X.w) X.A (subscriptTail e (.Slice lo hi zl p2) v (.ref G.heap.objs.size)) (EP X pins σ Q) X.xe { G with heap:=G.heap.push { cls:=.type "slice",data:=.fields #[O,J,.none] } };exact tail_any (ops:=[.ref G.heap.objs.size,v]) ht hT hg (by with_unfolding_all rfl)
def Q9r (xs:List V) (lo hi:Option Int):List V:=(xs.drop (HT.sIx xs.length 0 lo)).take (HT.sIx xs.length xs.length hi - HT.sIx xs.length 0 lo)
theorem Q18 (xs:List V) (lo hi:Option Int):(Q9r xs lo hi).length<=xs.length:=by
 unfold Q9r;rw [L8,cq];omega
def Qzi (K:bX):V->Option Int->Option Int->Hp->VK->Prop:=λx lo hi H Q=>∃ a xs,x=.ref a/\SqT K H a xs /\
 ¬ (HT.sIx xs.length 0 lo=0/\HT.sIx xs.length xs.length hi=xs.length)/\∀ p,H p=zl->Q (.ref p) (upd H p (.tup (Q9r xs lo hi)))
theorem sl_tup:SlR X (Qzi X.K):=by
 intro pins s σ H x v vl vu lo hi sl Q I O hs Y pu h;obtain ⟨a,xs,rfl,hx,Z,q⟩:=h;cases O;obtain ⟨its,r,J,hz⟩:=I.tuple hx;have G:its.toArray.size=xs.length:=by rw [D0]; exact r.length.symm
 refine ⟨"tuple",_,PyProof.Rows.slot_tuple_getitem.lookup,J.typeIs,?_⟩;refine HT.getItem_tuple_cut J hs Y pu (by rw [G]; exact Z) ?_ (by rw [G]; exact hz);rw [G];refine ⟨.ref s.heap.objs.size,_,I.laid (t':=s.toks) (o:=.tup (Q9r xs lo hi)) (λb ob q=>O1 _ q) (O5 _) ?_,rfl,q _ (I.hok.fresh (O5 _))⟩;exact ⟨D9 (Q18 xs lo hi) hz,_,(r.drop (HT.sIx xs.length 0 lo)).take (HT.sIx xs.length xs.length hi - HT.sIx xs.length 0 lo),IsTup.new _ _⟩
def Qzm (K:bX):R2:=λx y H Q=>∃ a b ns ms,x=.ref a/\y=.ref b/\SqT K H a (ns.map V.int)/\SqT K H b (ms.map V.int)/\Q (.bl (HT.lexLt ns ms)) H
theorem Qsw (O:X.A.units < aQ):OpR X (aS .Lt) (Qzm X.K):=by
 intro pins s σ H x y v u Q I J Z h;obtain ⟨a,b,ns,ms,rfl,rfl,Y,hb,q⟩:=h;cases J;cases Z;obtain ⟨its,r1,p1,_⟩:=I.tuple Y;obtain ⟨G,r2,p2,_⟩:=I.tuple hb;have i1:IntsAre its.toArray.toList ns:=Q3u r1;have i2:IntsAre G.toArray.toList ms:=Q3u r2;exact HT.lt_tupInts p1 p2 i1 i2 O ⟨.bl (HT.lexLt ns ms),H,I,rfl,q⟩
def Qq7 (K:bX):R2:=λx y H Q=>∃ a b xs ys,x=.ref a/\y=.ref b/\SqT K H a xs/\SqT K H b ys/\xs≠[]/\xs.length + ys.length<=sizeLine /\
 (ys=[]->Q (.ref a) H)/\(ys≠[]->∀ p,H p=zl->Q (.ref p) (upd H p (.tup (xs ++ ys))))
theorem Vals.nil_iff (r:Vals xs us):us=[] <-> xs=[]:=by
 cases r with
 | nil=>simp
 | cons _ _=>simp
theorem op_catT:OpR X (ae .Add) (Qq7 X.K):=by
 intro pins s σ H x y v u Q I Y ry h;obtain ⟨a,b,xs,ys,rfl,rfl,Z,hb,hx,hz,q1,q2⟩:=h;cases Y;cases ry;obtain ⟨its,J,p1,_⟩:=I.tuple Z;obtain ⟨O,G,p2,_⟩:=I.tuple hb;refine HT.cat_tup p1 p2 (λz=>hx (J.nil_iff.mp z)) (λz=>⟨.ref a,H,I,rfl,q1 (G.nil_iff.mp z)⟩) (λz=>?_) (by rw [<- J.length,<- G.length]; exact hz)
 refine ⟨.ref s.heap.objs.size,_,I.laid (t':=s.toks) (o:=.tup (xs ++ ys)) (λb ob q=>O1 _ q) (O5 _) ?_,rfl,q2 (λw=>z (G.nil_iff.mpr w)) _ (I.hok.fresh (O5 _))⟩;exact ⟨by rw [O6]; exact hz,_,J.append G,IsTup.new _ _⟩
def ixN (n:Nat) (i:Int):Option Nat:=if 0<=i then (if i < n then zo i.toNat else zl) else if -(n:Int)<=i then zo (i + n).toNat else zl
def atI {α:Type} (xs:List α) (i:Int):Option α:=(ixN xs.length i).bind λj=>xs[j]?
theorem Qd0 {i:Int} (h:ixN n i=zo j):seqIndex? i n=zo j/\j < n/\-(n:Int)<=i/\i < n:=by
 unfold ixN at h
 by_cases h0:0<=i
 ·rw [bT h0] at h
  by_cases h1:i < n
  ·rw [bT h1] at h;have e:i.toNat=j:=bn h;exact ⟨by rw [seqIndex_of h0 h1,e],by omega,by omega,h1⟩
  ·rw [bU h1] at h; cases h
 ·rw [bU h0] at h
  by_cases h1:-(n:Int)<=i
  ·rw [bT h1] at h;have e:(i + n).toNat=j:=bn h;exact ⟨by rw [seqIndex_neg (by omega) h1,e],by omega,h1,by omega⟩
  ·rw [bU h1] at h; cases h
theorem atI_get {xs:List α} {i:Int} {v:α} (h:atI xs i=zo v):∃ j,seqIndex? i xs.length=zo j/\xs[j]?=zo v/\j < xs.length/\-(xs.length:Int)<=i/\i < xs.length:=by
 unfold atI at h;cases e:ixN xs.length i with
 | none=>rw [e] at h; cases h
 | some j=>
  rw [e] at h;obtain ⟨h1,h2,q,G⟩:=Qd0 e;exact ⟨j,h1,h,h2,q,G⟩
theorem Qdc {xs:List α} {v:α} (h:xs[j]?=zo v):atI xs (j:Int)=zo v:=by
 have q:j < xs.length:=(O3.mp h).1;have e:ixN xs.length (j:Int)=zo j:=by
  unfold ixN;rw [bT (by omega),bT (by omega)]; simp
 unfold atI; rw [e]; exact h
def Q7k (b:aH):Prop:=∀ o i,subscripted b yo o i=operate [o,i] (getItem o i)
def IxR (X:Cx) (r:R2):Prop:=
 ∀ (value slice:aH) (pins:zAA) (s:aC) (σ:St) (H:Hp) (x y:V) (v u:aA) (Q:VK),Inv X pins σ H s->RelV x v->RelV y u->r x y H Q ->
  subscripted slice yo v u=operate [v,u] (getItem v u)->aF (aI X.prog X.w) X.A (subscriptTail value slice v u) (EP X pins σ Q) X.xe s
def MtR (X:Cx) (id:String) (r:V->List V->Hp->VK->Prop):Prop:=
 ∀ (pins:zAA) (s:aC) (σ:St) (H:Hp) (x:V) (xs:List V) (v:aA) (us:List aA) (Q:VK),Inv X pins σ H s->RelV x v->Vals xs us->r x xs H Q ->
  aF (aI X.prog X.w) X.A (call (.builtin id) (v :: us)) (EP X pins σ Q) X.xe s
section
variable {X:Cx} {a b:aH} {ta tb:TE} {pos:Pos}
theorem IxR.or {r Y:R2} (h:IxR X r) (h':IxR X Y):IxR X (λx y H Q=>r x y H Q\/Y x y H Q):=by
 intro value G pins s σ H x y v u Q I J O q hs;rcases q with q | q
 ·exact h value G pins s σ H x y v u Q I J O q hs
 ·exact h' value G pins s σ H x y v u Q I J O q hs
theorem Qqc {r:R2} (hr:IxR X r) (J:PE X a ta) (Z:PE X b tb) (hs:Q7k b):PE X (.Subscript a b pos) (tOp r ta tb):=by
 intro pins s σ H Q I h;exact Subscript_ (Quc J Z I h λv u Y x y H2 I2 G O q=>hr a b pins Y σ H2 x y v u Q I2 G O q (hs _ _))
def Qvx (K:bX):R2:=λx y H Q=>∃ p xs i v,x=.ref p/\y=.int i/\SqL K H p xs/\atI xs i=zo v/\Q v H
def Qvv (K:bX):R2:=λx y H Q=>∃ p xs i v,x=.ref p/\y=.int i/\SqT K H p xs/\atI xs i=zo v/\Q v H
def Qvw:R2:=λx y H Q=>∃ z i c,x=.str z/\y=.int i/\z.length<=sizeLine/\atI z.cps.toList i=zo c/\Q (.str ⟨#[c]⟩) H
theorem ix_list:IxR X (Qvx X.K):=by
 intro value J pins s σ H x y v u Q I rx ry h hs;obtain ⟨p,xs,i,z,rfl,rfl,hq,he,q⟩:=h;cases rx;obtain ⟨t,rfl⟩:=ry;obtain ⟨its,r,O,hz⟩:=I.list hq;obtain ⟨j,h1,h2,h3,h4,h5⟩:=atI_get he;obtain ⟨w,Z,Y⟩:=r.get h2;have hl:=r.length;have hn:=Q0f;have fin:EP X pins σ Q w s:=⟨z,H,I,Y,q⟩
 by_cases h0:0<=i
 ·have G:i.toNat=j:=by
   rw [seqIndex_of h0 h5] at h1;exact bn h1
  exact item_listR O.isList h0 (by omega) (by rw [G]; simpa using Z) fin hs
 ·have G:(i + (its.toArray.size:Int)).toNat=j:=by
   rw [seqIndex_neg (by omega) h4] at h1;rw [D0,<- hl];exact bn h1
  exact subscriptTail_builtinR (x:=w) O.isList.typeIs slot_list_getitem.lookup
   (wpAny_getItem_list_neg (Q:=λr s'=>r=w/\EP X pins σ Q r s') O.isList (by omega) (by rw [D0] <;> omega) (by omega) (by rw [G]; simpa using Z) ⟨rfl,fin⟩) hs
theorem ix_tup:IxR X (Qvv X.K):=by
 intro value G pins s σ H x y v u Q I rx ry h hs;obtain ⟨p,xs,i,z,rfl,rfl,Y,he,q⟩:=h;cases rx;obtain ⟨t,rfl⟩:=ry;obtain ⟨its,r,O,hz⟩:=I.tuple Y;obtain ⟨j,h1,h2,h3,h4,h5⟩:=atI_get he;obtain ⟨w,ew,J⟩:=r.get h2;have Z:=r.length;have hn:=Q0f;have fin:EP X pins σ Q w s:=⟨z,H,I,J,q⟩;exact subscriptTail_builtinR (x:=w) O.typeIs slot_tuple_getitem.lookup
  (getItem_tuple (j:=j) (Q:=λr s'=>r=w/\EP X pins σ Q r s') O (by omega) (by omega) (by rw [D0,<- Z]; exact h1) (by simpa using ew) ⟨rfl,fin⟩) hs
theorem Qts:IxR X Qvw:=by
 intro value G pins s σ H x y v u Q I O Z h hs;obtain ⟨z,i,c,rfl,rfl,hz,he,q⟩:=h;obtain ⟨t,rfl⟩:=O;obtain ⟨t',rfl⟩:=Z;obtain ⟨j,h1,h2,h3,h4,h5⟩:=atI_get he;have J:z.cps.toList.length=z.length:=by simp [Str.length]
 rw [J] at h1 h4 h5;have hn:=Q0f;exact tail_any (typeIs_str s z t) slot_str_getitem.lookup (getItem_str (c:=c) (by
  have e1:decide (i < -(2 ^ 63:Int))=yo:=bV (by omega);have Y:decide (i>=2 ^ 63)=yo:=bV (by omega);rw [e1,Y,cz]) (by rw [h1]; simpa using h2) ⟨.str ⟨#[c]⟩,H,I.tok _,⟨_,rfl⟩,q⟩) hs
def rIx (K:bX):R2:=λx y H Q=>Qvx K x y H Q\/Qvv K x y H Q\/Qvw x y H Q
theorem Qiq:IxR X (rIx X.K):=ix_list.or (ix_tup.or Qts)
theorem Qax (its:List aA) (n j:Nat) (u:aA):bp (·.setIfInBounds j u) { cls:=.type "list",data:=.seq its.toArray n }={ cls:=.type "list",data:=.seq (its.set j u).toArray n }:=by
 simp [bp]
theorem Inv.lst {pins:zAA} (I:Inv X pins σ H s) (h:H p=zo (.lst xs)) :
  ∃ (its:List aA) (n:Nat),Vals xs its/\s.heap.get? p=zo { cls:=.type "list",data:=.seq its.toArray n }/\xs.length<=sizeLine:=by
 obtain ⟨z,its,n,r,e⟩:=I.hok p _ h;exact ⟨its,n,r,e,z⟩
theorem Inv.lstUpd {pins:zAA} {ys:List V} {its its':List aA} {n G:Nat} {f:Obj->Obj} (I:Inv X pins σ H s) (h:H p=zo (.lst xs))
  (O:s.heap.get? p=zo { cls:=.type "list",data:=.seq its.toArray n }) (J:f { cls:=.type "list",data:=.seq its.toArray n }={ cls:=.type "list",data:=.seq its'.toArray G }) (r:Vals ys its') (hz:ys.length<=sizeLine) (t:Nat) :
  Inv X pins σ (upd H p (.lst ys)) { s with heap:=s.heap.update p f,toks:=t }:=by
 have e:(s.heap.update p f).get? p=zo { cls:=.type "list",data:=.seq its'.toArray G }:=by
  rw [G9 f O (by rw [J] <;> rfl),J]
 refine I.write (x:=p) (e:=p) (by rw [h]; trivial) (.inl rfl) (λb u Y q=>(F6 _ _ (Ne.symm Y)).trans q) ⟨_,e⟩ ?_
 exact ⟨hz,its',G,r,e⟩
def Qvt:V->V->V->Hp->(Hp->Prop)->Prop:=λo i v H Q=>∃ p xs k j,o=.ref p/\i=.int k/\H p=zo (.lst xs)/\ixN xs.length k=zo j/\Q (upd H p (.lst (xs.set j v)))
theorem Qge:Qy1 X Qvt:=by
 intro pins s σ H o i v ov iv u Q I ro ri rv h;obtain ⟨p,xs,k,j,rfl,rfl,Y,hj,q⟩:=h;cases ro;obtain ⟨t,rfl⟩:=ri;obtain ⟨its,n,r,O,hz⟩:=I.lst Y;obtain ⟨h1,h2,h3,h4⟩:=Qd0 hj;have J:=r.length;have hn:=Q0f;have Z:Inv X pins σ (upd H p (.lst (xs.set j v))) { s with heap:=s.heap.update p (bp (·.setIfInBounds j u)) }:=
  I.lstUpd Y O (Qax its n j u) (r.set rv j) (by rw [G7]; exact hz) s.toks
 by_cases h0:0<=k
 ·have G:k.toNat=j:=by
   rw [seqIndex_of h0 h4] at h1;exact bn h1
  exact PySem.W.ki_setAt O h0 (by omega) (by rw [D0,<- J]; exact h4) (by rw [G]; exact ⟨_,Z,q⟩)
 ·have G:(k + (its.toArray.size:Int)).toNat=j:=by
   rw [seqIndex_neg (by omega) h3] at h1;rw [D0,<- J];exact bn h1
  exact PySem.W.ki_setBack O (by omega) (by rw [D0,<- J]; exact h3) (by omega) (by rw [G]; exact ⟨_,Z,q⟩)
theorem Q67 (lo hi:Option Int) (n:Nat):(bL lo hi zl n).1=((HT.sIx n 0 lo:Nat):Int)/\(bL lo hi zl n).2.1=((HT.sIx n n hi:Nat):Int)/\(bL lo hi zl n).2.2=1:=by
 refine ⟨?_,?_,rfl⟩
 ·cases lo with
  | none=>simp [bL,HT.sIx]
  | some i=>
   simp only [bL,HT.sIx,gL,show (1:Int) > 0 by decide,if_true]
   by_cases h:i < 0
   ·simp only [h,if_true] <;> omega
   ·simp only [h,if_false] <;> omega
 ·cases hi with
  | none=>simp [bL,HT.sIx]
  | some i=>
   simp only [bL,HT.sIx,gL,show (1:Int) > 0 by decide,if_true]
   by_cases h:i < 0
   ·simp only [h,if_true] <;> omega
   ·simp only [h,if_false] <;> omega
theorem Q4k (its:List aA) (lo hi:Option Int):slicePick its.toArray lo hi zl=((its.drop (HT.sIx its.length 0 lo)).take (HT.sIx its.length its.length hi - HT.sIx its.length 0 lo)).toArray:=by
 obtain ⟨h1,h2,q⟩:=Q67 lo hi its.toArray.size;unfold slicePick;rw [h1,h2,q];simp only [sliceRange_one,pick_run,D0] <;> rfl
def Qzj (K:bX):V->Option Int->Option Int->Hp->VK->Prop:=λx lo hi H Q=>∃ a xs,x=.ref a/\SqL K H a xs/\∀ p,H p=zl->Q (.ref p) (upd H p (.lst (Q9r xs lo hi)))
theorem Qkv:SlR X (Qzj X.K):=by
 intro pins s σ H x v vl vu lo hi sl Q I O hs Y Z h;obtain ⟨a,xs,rfl,hx,q⟩:=h;cases O;obtain ⟨its,r,J,hz⟩:=I.list hx;have G:=r.length;refine ⟨"list",_,slot_list_getitem.lookup,J.isList.typeIs,?_⟩;refine wpAny_getItem_list_slice J.isList hs Y Z .none (by simp) ?_ (by rw [D0] <;> omega);rw [Q4k,<- G];refine ⟨.ref s.heap.objs.size,_,I.laid (t':=s.toks) (o:=.lst (Q9r xs lo hi)) (λb ob q=>O1 _ q) (O5 _) ?_,rfl,q _ (I.hok.fresh (O5 _))⟩;exact ⟨D9 (Q18 xs lo hi) hz,_,0,(r.drop (HT.sIx xs.length 0 lo)).take (HT.sIx xs.length xs.length hi - HT.sIx xs.length 0 lo),O9 _ rfl⟩
def z9:V->Bool
 | .non=>zb
 | .bl _=>zb
 | .int _=>zb
 | .str _=>zb
 | _=>yo
def eqV:V->V->Bool
 | .non,.non=>zb
 | .bl a,.bl b=>a == b
 | .bl a,.int b=>(if a then 1 else 0) == b
 | .int a,.bl b=>a == (if b then 1 else 0)
 | .int a,.int b=>a == b
 | .str a,.str b=>a == b
 | _,_=>yo
theorem Qtz {A:aL} {y:V} {u v:aA} (G:RelV y u) (q:RelV x v) (J:z9 y=zb) (I:z9 x=zb):SeqAt.EqAt A s u v (eqV y x):=by
 cases y with
 | non=>
  cases G;cases x with
  | non=>cases q; exact SeqAt.EqAt.same _
  | bl b=>cases q; exact SeqAt.EqAt.none_bool b
  | int b=>obtain ⟨t,rfl⟩:=q; exact SeqAt.EqAt.none_int b t
  | str b=>obtain ⟨t,rfl⟩:=q; exact SeqAt.EqAt.none_str b t
  | _=>exact absurd (show yo=zb from I) D2
 | bl a=>
  cases G;cases x with
  | non=>cases q; exact SeqAt.EqAt.bool_none a
  | bl b=>cases q; exact SeqAt.EqAt.bool_bool a b
  | int b=>obtain ⟨t,rfl⟩:=q; exact SeqAt.EqAt.bool_int a b t
  | str b=>obtain ⟨t,rfl⟩:=q; exact SeqAt.EqAt.bool_str a b t
  | _=>exact absurd (show yo=zb from I) D2
 | int a=>
  obtain ⟨t',rfl⟩:=G;cases x with
  | non=>cases q; exact SeqAt.EqAt.int_none a t'
  | bl b=>cases q; exact SeqAt.EqAt.int_bool a t' b
  | int b=>obtain ⟨t,rfl⟩:=q; exact SeqAt.EqAt.int_int a t' b t
  | str b=>obtain ⟨t,rfl⟩:=q; exact SeqAt.EqAt.int_str a t' b t
  | _=>exact absurd (show yo=zb from I) D2
 | str a=>
  obtain ⟨t',rfl⟩:=G;cases x with
  | non=>cases q; exact SeqAt.EqAt.str_none a t'
  | bl b=>cases q; exact SeqAt.EqAt.str_bool a t' b
  | int b=>obtain ⟨t,rfl⟩:=q; exact SeqAt.EqAt.str_int a t' b t
  | str b=>obtain ⟨t,rfl⟩:=q; exact SeqAt.EqAt.str_str a t' b t
  | _=>exact absurd (show yo=zb from I) D2
 | _=>exact absurd (show yo=zb from J) D2
def eqU (x:V) (u:aA):Bool:=match u with
 | .none=>eqV .non x
 | .bool b=>eqV (.bl b) x
 | .int i _=>eqV (.int i) x
 | .str z _=>eqV (.str z) x
 | _=>yo
theorem Qjd {y:V} {u:aA} (r:RelV y u) (f:z9 y=zb):eqU x u=eqV y x:=by
 cases y with
 | non=>cases r; rfl
 | bl b=>cases r; rfl
 | int i=>obtain ⟨t,rfl⟩:=r; rfl
 | str z=>obtain ⟨t,rfl⟩:=r; rfl
 | _=>exact absurd (show yo=zb from f) D2
theorem xu {x:V}:∀ {xs:List V} {us:List aA},Vals xs us->xs.all z9=zb->us.any (eqU x)=xs.any λy=>eqV y x
 | _,_,.nil,_=>rfl
 | y :: xs,u :: us,.cons r t,f=>by
  rw [bz,E4] at f;rw [cH,cH,Qjd r f.1,xu t f.2]
theorem qf {A:aL} {s:aC} {x:V} {v:aA} (I:RelV x v) (G:z9 x=zb):∀ {xs:List V} {us:List aA},Vals xs us->xs.all z9=zb->∀ u∈us,SeqAt.EqAt A s u v (eqU x u)
 | _,_,.nil,_=>λu q=>by cases q
 | y :: xs,u :: us,.cons r t,f=>λJ q=>by
  rw [bz,E4] at f;rcases D6.mp q with rfl | q
  ·rw [Qjd r f.1]; exact Qtz r I f.1 G
  ·exact qf I G t f.2 J q
def inV (x:V) (xs:List V):Bool:=xs.any λy=>eqV y x
def rIn (K:bX) (neg:Bool):R2:=λx y H Q=>∃ p xs,y=.ref p/\(SqL K H p xs\/SqT K H p xs)/\z9 x=zb/\xs.all z9=zb/\Q (.bl (if neg then !inV x xs else inV x xs)) H
theorem Qeg:OpR X (aS .In) (rIn X.K yo):=by
 intro pins s σ H x y v u Q I Y ry h;obtain ⟨p,xs,rfl,G,Z,fs,q⟩:=h;cases ry;rcases G with G | G
 ·obtain ⟨its,r,O,hz⟩:=I.list G;refine SeqAt.in_listAt (eqU x) O.isList (λw J=>qf Y Z r fs w (by simpa using J)) ⟨.bl _,H,I,rfl,?_⟩
  rw [show its.toArray.any (eqU x)=its.any (eqU x) by simp,xu r fs];exact q
 ·obtain ⟨its,r,O,hz⟩:=I.tuple G;refine SeqAt.in_tupleAt (eqU x) O (λw J=>qf Y Z r fs w (by simpa using J)) ⟨.bl _,H,I,rfl,?_⟩
  rw [show its.toArray.any (eqU x)=its.any (eqU x) by simp,xu r fs];exact q
theorem Q6m:OpR X (aS .NotIn) (rIn X.K zb):=by
 intro pins s σ H x y v u Q I Y ry h;obtain ⟨p,xs,rfl,G,Z,fs,q⟩:=h;cases ry;rcases G with G | G
 ·obtain ⟨its,r,O,hz⟩:=I.list G;refine SeqAt.notIn_listAt (eqU x) O.isList (λw J=>qf Y Z r fs w (by simpa using J)) ⟨.bl _,H,I,rfl,?_⟩
  rw [show its.toArray.any (eqU x)=its.any (eqU x) by simp,xu r fs];exact q
 ·obtain ⟨its,r,O,hz⟩:=I.tuple G;refine SeqAt.notIn_tupleAt (eqU x) O (λw J=>qf Y Z r fs w (by simpa using J)) ⟨.bl _,H,I,rfl,?_⟩
  rw [show its.toArray.any (eqU x)=its.any (eqU x) by simp,xu r fs];exact q
theorem Q7g:Wz X (.builtin "len") (λxs H Q=>∃ p ys,xs=[.ref p]/\(SqL X.K H p ys\/SqT X.K H p ys)/\Q (.int ys.length) H):=by
 intro pins s σ H xs us Q I r h;obtain ⟨p,ys,rfl,J,q⟩:=h;obtain ⟨u,rfl,Z⟩:=Uq r;cases Z;have hn:=Q0f;rcases J with J | J
 ·obtain ⟨its,Y,O,hz⟩:=I.list J;have G:=Y.length;exact Calls.call_len_list O.isList (by simp only [D0] <;> omega) ⟨.int ys.length,H,I.tok _,⟨s.toks + 1,by rw [D0,G]⟩,q⟩
 ·obtain ⟨its,Y,O,hz⟩:=I.tuple J;have G:=Y.length;exact len_tuple O (by simp only [D0] <;> omega) ⟨.int ys.length,H,I.tok _,⟨s.toks + 1,by rw [D0,G]⟩,q⟩
theorem Q7f:Wz X (.builtin "len") (λxs H Q=>∃ z,xs=[.str z]/\z.length<=sizeLine/\Q (.int z.length) H):=by
 intro pins s σ H xs us Q I r h;obtain ⟨z,rfl,hz,q⟩:=h;obtain ⟨u,rfl,t,rfl⟩:=Uq r;have G:=Q0f;exact len_str (by omega) ⟨.int z.length,H,I.tok _,⟨_,rfl⟩,q⟩
theorem Q7e:Wz X (.type "list") (λxs H Q=>∃ p ys,xs=[.ref p]/\(SqL X.K H p ys\/SqT X.K H p ys)/\∀ l,H l=zl->Q (.ref l) (upd H l (.lst ys))):=by
 intro pins s σ H xs us Q I r h;obtain ⟨p,ys,rfl,O,q⟩:=h;obtain ⟨u,rfl,rx⟩:=Uq r;cases rx;have fin:∀ (its:List aA),Vals ys its->ys.length<=sizeLine->∀ (h':Heap) (G:Nat),(∀ b o',s.heap.get? b=zo o'->h'.get? b=zo o') ->
   h'.get? s.heap.objs.size=zo { cls:=.type "list",dict:=zl,data:=.seq its.toArray G,slots:=#[] }->EP X pins σ Q (.ref s.heap.objs.size) { s with heap:=h' }:=λits J hz h' G kp e=>
  ⟨.ref s.heap.objs.size,_,I.laid (t':=s.toks) kp (O5 _) (show ObjOk X.prog X.w _ h' _ (.lst ys) from ⟨hz,its,G,J,e⟩),rfl,q _ (I.hok.fresh (O5 _))⟩
 rcases O with O | O
 ·obtain ⟨its,J,pl,hz⟩:=I.list O;have Y:=J.length;obtain ⟨o,Z,hc,n,hd⟩:=pl.isList;exact call_list_seq p (.inl rfl) Z hc hd (λh' G kp e=>fin its J hz h' G kp e) (by simp only [D0] <;> omega)
 ·obtain ⟨its,J,pl,hz⟩:=I.tuple O;have Y:=J.length;obtain ⟨o,Z,hc,n,hd⟩:=pl;exact call_list_seq p (.inr rfl) Z hc hd (λh' G kp e=>fin its J hz h' G kp e) (by simp only [D0] <;> omega)
theorem zd:Wz X (.type "tuple") (λxs H Q=>∃ p ys,xs=[.ref p]/\((SqL X.K H p ys/\∀ l,H l=zl->Q (.ref l) (upd H l (.tup ys)))\/(SqT X.K H p ys/\Q (.ref p) H))):=by
 intro pins s σ H xs us Q I r h;obtain ⟨p,ys,rfl,h⟩:=h;obtain ⟨u,rfl,rx⟩:=Uq r;cases rx;rcases h with ⟨G,q⟩ | ⟨G,q⟩
 ·obtain ⟨its,O,J,hz⟩:=I.list G;have Y:=O.length;refine call_tuple_list J.isList (λh' kp=>?_) (by simp only [D0] <;> omega);have Z:Inv X pins σ H { s with heap:=h' }:=I.kept (t':=s.toks) kp;have I2:Inv X pins σ (upd H h'.objs.size (.tup ys)) { s with heap:=h'.push { cls:=.type "tuple",data:=.seq its.toArray } }:=
   Z.laid (t':=s.toks) (λb o e=>O1 _ e) (O5 _) (show ObjOk X.prog X.w _ _ _ (.tup ys) from ⟨hz,its,O,IsTup.new _ _⟩)
  exact ⟨.ref h'.objs.size,_,I2,rfl,q _ (Z.hok.fresh (O5 _))⟩
 ·obtain ⟨its,O,J,hz⟩:=I.tuple G;exact call_tuple_same J ⟨.ref p,H,I,rfl,q⟩
def tyV (K:bX) (T:String) (x:V) (H:Hp):Prop:=match x with
 | .str _=>T = "str"
 | .int _=>T = "int"
 | .ref p=>(T = "list" /\ ∃ xs,SqL K H p xs)\/(T = "tuple" /\ ∃ o,K.lookup p=zo o/\o.cls=.type "tuple" /\ o.dict=zl) \/
   (T = "dict" /\ ((∃ kvs,H p=zo (.dK kvs))\/∃ kvs,H p=zo (.dT kvs)))\/(T = "set" /\ ∃ S n,H p=zo (.set S n))
 | _=>False
theorem Qqt {pins:zAA} {T:String} {v:aA} (I:Inv X pins σ H s) (r:RelV x v) (ty:tyV X.K T x H) :
  s.TypeIs v T/\∀ a,v=.ref a->∃ ob,s.heap.get? a=zo ob/\ob.dict=zl:=by
 cases x with
 | str z=>
  obtain ⟨t,rfl⟩:=r;cases (show T = "str" from ty);exact ⟨typeIs_str s z t,λ_ e=>nomatch e⟩
 | int i=>
  obtain ⟨t,rfl⟩:=r;cases (show T = "int" from ty);exact ⟨typeIs_int s i t,λ_ e=>nomatch e⟩
 | ref p=>
  cases r;rcases ty with ⟨rfl,xs,Y⟩ | ⟨rfl,o,q,Z,hd⟩ | ⟨rfl,q⟩ | ⟨rfl,S,n,q⟩
  ·obtain ⟨its,_,O,_⟩:=I.list Y;refine ⟨O.isList.typeIs,λa e=>?_⟩;cases e;obtain ⟨o,n,e,c,hd,_⟩:=O;exact ⟨o,e,hd⟩
  ·refine ⟨⟨o,I.kIn p o q,Z⟩,λa e=>?_⟩
   cases e;exact ⟨o,I.kIn _ o q,hd⟩
  ·have z:∃ o,s.heap.get? p=zo o/\o.ExactDict:=by
    rcases q with ⟨J,q⟩ | ⟨J,q⟩
    ·obtain ⟨_,_,_,_,o,_,_,e,ex,_⟩:=I.hok p _ q;exact ⟨o,e,ex⟩
    ·obtain ⟨_,_,_,_,o,_,_,e,ex,_⟩:=I.hok p _ q;exact ⟨o,e,ex⟩
   obtain ⟨o,e,ex⟩:=z;refine ⟨⟨o,e,ex.1⟩,λa G=>?_⟩
   cases G;exact ⟨o,e,ex.2.1⟩
  ·obtain ⟨o,_,_,_,e,ex,_⟩:=I.hok p _ q;refine ⟨⟨o,e,ex.1⟩,λa G=>?_⟩
   cases G;exact ⟨o,e,ex.2.1⟩
 | _=>exact False.elim ty
def tBM (K:bX) (T:String) (r:V->List V->Hp->VK->Prop) (to:TE) (t:TA):TE:=λσ H Q=>to σ H λx H1=>tyV K T x H1/\t σ H1 λxs H2=>r x xs H2 Q
variable {o e:aH} {es:List aH} {to:TE} {t:TA} {name:Str} {apos cpos:Pos} {T id:String} {r:V->List V->Hp->VK->Prop}
theorem Qhk (pa:PlainAttrs T) (slot:Slot T name id) (Y:typeOf (.builtin id)=pure (.type "method_descriptor")) (hm:MtR X id r) (ho:PE X o to) (ha:PA X (e :: es) t)
  (J:bM o name X.env (aO o X.env)=aO o X.env:=by rfl)
  (O:((aY cpos (aN (e :: es) X.env)).all (λx=>!x.1) && (backToKw cpos (keywordEach [] X.env)).all (λx=>x.1.isSome)
   && decide ((e :: es).length + ([]:List Keyword).length + (if ([]:List Keyword).isEmpty then 0 else 1) < 30))=zb:=by rfl)
  (G:(apos.endLine == cpos.line)=zb:=by rfl) (hs:aN (e :: es) X.env=(yo,aO e X.env) :: aN es X.env:=by rfl) (q:(aY cpos (aN es X.env)).any (·.1)=yo:=by rfl) :
  PE X (.Call (.Attribute o name apos) (e :: es) [] cpos) (tBM X.K T r to t):=by
 intro pins s σ H Q I h;refine wpAny_Call_method_late J O G rfl (thn (ho pins s σ H _ I h) λv s1 ⟨x,H1,I1,r1,ty,q1⟩=>?_)
 obtain ⟨h1,h2⟩:=Qqt I1 r1 ty;refine ⟨T,id,pa,slot,Y,h1,h2,?_⟩;have Z:=ha cpos pins s1 σ H1 _ I1 q1;rw [hs] at Z ⊢;refine Calls.callWith_builtin (by show (yo || (aY cpos (aN es X.env)).any (·.1))=yo; rw [q] <;> rfl) (Calls.evalArgs_plain ?_);exact thn Z λus s2 ⟨vs,H2,I2,r2,q2⟩=>hm pins s2 σ H2 x vs v us Q I2 r1 r2 q2
end
def MtM (X:Cx) (id:String) (r:V->List V->Hp->VK->Prop):Prop:=
 ∀ (pins:zAA) (s:aC) (σ:St) (H:Hp) (x:V) (xs:List V) (v:aA) (us:List aA) (Q:VK),Inv X pins σ H s->RelV x v->Vals xs us->r x xs H Q ->
  aF (aI X.prog X.w) X.A (call (.builtin id) (v :: us)) (EP X pins σ Q) X.xe s
theorem Vals.one:∀ {x:V} {us:List aA},Vals [x] us->∃ u,us=[u]/\RelV x u
 | _,_,.cons r .nil=>⟨_,rfl,r⟩
theorem Vals.rep (h:Vals xs us):∀ k:Nat,Vals (bc k xs).flatten (bc k us).flatten
 | 0=>.nil
 | k + 1=>by
  rw [cr,cr,dA,dA];exact Vals.append h (Vals.rep h k)
theorem Q0m (its:List aA):∀ (k:Nat) (acc:List aA),
  cI (λx1 x2=>x1 ++ x2) acc.toArray (bc k its.toArray)=(acc ++ (bc k its).flatten).toArray
 | 0,acc=>by simp
 | k + 1,acc=>by
  have e:acc.toArray ++ its.toArray=(acc ++ its).toArray:=by simp
  have q:(acc ++ its) ++ (bc k its).flatten=acc ++ (bc (k + 1) its).flatten:=by
   rw [cr,dA,dB]
  rw [<- q,<- Q0m its k (acc ++ its),<- e,cr,F2]
variable {pins:zAA} {σ:St} {H:Hp} {s:aC} {l b:aB} {xs ys zs:List V}
theorem Inv.lset {its its':List aA} {n:Nat} {f:Array aA->Array aA} {t':Nat} (I:Inv X pins σ H s) (O:H l=zo (.lst xs))
  (e:s.heap.get? l=zo { cls:=.type "list",data:=.seq its.toArray n }) (Y:f its.toArray=its'.toArray) (G:Vals ys its') (hz:ys.length<=sizeLine) :
  Inv X pins σ (upd H l (.lst ys)) { s with heap:=s.heap.update l (bp f),toks:=t' }:=by
 have q:=PySem.IsL.update e f;rw [Y] at q;refine I.write (x:=l) (e:=l) (by rw [O]; exact trivial) (.inl rfl) (λb' u Z J=>(F6 s.heap (bp f) (Ne.symm Z)).trans J) ⟨_,q⟩ ?_
 exact ⟨hz,its',_,G,q⟩
theorem Inv.lnew {its:List aA} {t':Nat} (I:Inv X pins σ H s) (G:Vals ys its) (hz:ys.length<=sizeLine) :
  Inv X pins σ (upd H s.heap.objs.size (.lst ys)) { s with heap:=s.heap.push { cls:=.type "list",data:=.seq its.toArray },toks:=t' }:=
 I.laid (λ_ _ q=>O1 _ q) (O5 _) ⟨hz,its,0,G,O9 _ rfl⟩
theorem Inv.fresh (I:Inv X pins σ H s):H s.heap.objs.size=zl:=I.hok.fresh (O5 _)
theorem Inv.lstM (I:Inv X pins σ H s) (q:H l=zo (.lst xs)):xs.length<=sizeLine/\∃ (its:List aA) (n:Nat),Vals xs its/\xs.length=its.length/\s.heap.get? l=zo { cls:=.type "list",data:=.seq its.toArray n }:=by
 obtain ⟨z,its,n,r,e⟩:=I.hok l _ q;exact ⟨z,its,n,r,r.length,e⟩
theorem Qi2 (h:n<=sizeLine):Builtin.List.listTooLong n=yo:=by
 unfold Builtin.List.listTooLong;exact bV (by omega)
def Qma:V->List V->Hp->VK->Prop:=λx vs H Q=>∃ l xs y,x=.ref l/\vs=[y]/\H l=zo (.lst xs)/\xs.length < sizeLine/\Q .non (upd H l (.lst (xs ++ [y])))
theorem Qen:MtM X "list.append" Qma:=by
 intro pins s σ H x vs v us Q I J O h;obtain ⟨l,xs,y,rfl,rfl,G,hz,q⟩:=h;cases J;obtain ⟨u,rfl,ru⟩:=O.one;obtain ⟨z,its,n,r,Y,e⟩:=I.lstM G;refine bI F.slot_list_append ⟨_,e,rfl⟩ F.entry_list_append (F.args_list_append_2 _ _) (gM l its.toArray n u (by rw [D0]; omega)) ⟨e,?_⟩;refine ⟨.non,_,I.lset (its':=its ++ [u]) G e (by simp) (r.append (.cons ru .nil)) ?_,rfl,q⟩;rw [O6,gN];omega
def Qzn:R2:=λx y H Q=>∃ l b xs zs,x=.ref l/\y=.ref b/\H l=zo (.lst xs)/\H b=zo (.lst zs)/\xs.length + zs.length<=sizeLine/\∀ p,H p=zl->Q (.ref p) (upd H p (.lst (xs ++ zs)))
theorem Qhx:OpR X (ae .Add) Qzn:=by
 intro pins s σ H x y v u Q I J Z h;obtain ⟨l,b,xs,zs,rfl,rfl,Y,hB,hz,q⟩:=h;cases J;cases Z;obtain ⟨z,its,n,r,hl,e⟩:=I.lstM Y;obtain ⟨z2,G,n2,r2,a1,O⟩:=I.lstM hB;refine PySem.P.add_list e O ?_ (by rw [D0,D0]; omega);have ea:its.toArray ++ G.toArray=(its ++ G).toArray:=by simp
 rw [ea];exact ⟨.ref _,_,I.lnew (t':=s.toks) (r.append r2) (by rw [O6]; omega),rfl,q _ I.fresh⟩
def Qzk:R2:=λx y H Q=>∃ l k xs,x=.ref l/\y=.int k/\H l=zo (.lst xs)/\-(2 ^ 63)<=k/\k < 2 ^ 63/\xs.length * k.toNat<=sizeLine /\
 ∀ p,H p=zl->Q (.ref p) (upd H p (.lst (bc k.toNat xs).flatten))
theorem Q71 (xs:List α) (k:Nat):(bc k xs).flatten.length=k * xs.length:=by
 induction k with
 | zero=>simp
 | succ k q=>rw [cr,dA,O6,q,Nat.succ_mul,Nat.add_comm]
theorem Qss:OpR X (ae .Mult) Qzk:=by
 intro pins s σ H x y v u Q I rx ry h;obtain ⟨l,k,xs,rfl,rfl,hH,h1,h2,hz,q⟩:=h;cases rx;obtain ⟨t,rfl⟩:=ry;obtain ⟨z,its,n,r,hl,e⟩:=I.lstM hH;have O:its.toArray.size * k.toNat<=sizeLine:=by rw [D0,<- hl]; exact hz
 have J:¬ its.toArray.size * k.toNat > (2 ^ 63 - 1) / 8:=by
  have:(sizeLine:Nat)<=(2 ^ 63 - 1) / 8:=by decide
  omega
 have Z:¬ (!Builtin.List.listFitsIndex k)=zb:=by
  rw [fitsIndex_both h1 h2];exact D2
 have G:¬ Builtin.List.listTooLong (its.toArray.size * k.toNat)=zb:=by
  rw [Qi2 O];exact D2
 have Y:cI (λx1 x2=>x1 ++ x2) #[] (bc (if its.toArray.isEmpty=zb then 0 else k.toNat) its.toArray)=(bc k.toNat its).flatten.toArray:=by
  have f0:∀ m:Nat,cI (λx1 x2=>x1 ++ x2) #[] (bc m its.toArray)=(bc m its).flatten.toArray:=λm=>by
   have:=Q0m its m [];rw [fG] at this;exact this
  rw [f0];cases its with
  | nil=>simp
  | cons a r'=>rw [bU (by simp)]
 refine wpAny_binaryOp_repeat_ref (T := "list") (U := "int") (by decide) ⟨_,e,rfl⟩ (λs'=>typeIs_int s' k t) noFill_list_mul F.fills_int_mul F.slot_int_rmul repeat_list F.slot_int_index.lookup
  (bI F.slot_int_rmul (typeIs_int s k t) F.entry_int_rmul (F.args_int_rmul_2 _ _) (int___rmul___int_list k t l its.toArray n)
   ⟨e,rfl,⟨_,e,rfl⟩,bI F.slot_list_mul ⟨_,e,rfl⟩ F.entry_list_mul (F.args_list_mul_2 _ _) (AutoListH.list___mul___list_int_3 l its.toArray n k t Z J G) ⟨e,?_⟩⟩)
 rw [Y];exact ⟨.ref _,_,I.lnew (t':=s.toks) (r.rep k.toNat) (by rw [Q71,dl]; exact hz),rfl,q _ I.fresh⟩
end L2
namespace Att
open PySem PySem.W PySem.Calls PyProof.Rows
theorem Q1j {P:Params} {h:Heap}:∀ (ns:List Int) (vs:List aA),WellAll P h vs (ns.map WData.int)->IntsAre vs ns:=by
 intro ns
 induction ns with
 | nil=>
  intro vs w;rw [gK] at w;cases w;exact .nil
 | cons n ns q=>
  intro vs w;rw [D5] at w;cases w with
  | cons a b=>
   cases a;exact .cons _ _ (q _ b)
theorem Qe1 {l:OpenLaw} {n:Nat} (hn:l.most=zo n) {P:Params} {h:Heap} {args:List WData} {I:List aA}
  (G:l.row.toRowW.claim.pre args=zb) (a1:WellAll P h I args) :
  ∃ a vs ns,I=[bZ a]/\args=[WData.list (ns.map WData.int)]/\h.get? a=zo { cls:=.type "list",data:=.seq vs.toArray }/\IntsAre vs ns/\ns.length<=n:=by
 have a2:WShape.hasAll [] args [.list .int]=zb:=(pre_splitW G).1;have hc:l.pre.holds [] { args:=args }=zb:=(pre_splitW G).2;obtain ⟨d,r,rfl,h1,h2⟩:=hasAllW_cons a2;obtain rfl:=hasAllW_nil h2;obtain ⟨xs,rfl,h3⟩:=hasW_list h1;obtain ⟨ns,rfl⟩:=items_int h3;have J:ns.length<=n:=by
  unfold OpenLaw.pre at hc;have Z:(WTm.not (.lt (.lit (.int (n:Int))) (.len (.arg 0)))).holds [] { args:=[.list (ns.map .int)] }=zb:=by
   have Z:=(holds_andW hc).1;rw [hn] at Z;exact Z
  have Y:=condW_of Z (w_not (w_lt w_lit (w_len_list (w_arg rfl))));rw [O0] at Y;refine Nat.le_of_not_lt λq=>?_
  have q':(n:Int) < ((ns.length:Nat):Int):=by omega
  first
   | (rw [bW q'] at Y; exact absurd Y (by decide))
   | (simp at Y; omega)
 cases a1 with
 | cons w1 w2=>
  cases w2;cases w1 with
  | list ho O=>exact ⟨_,_,ns,rfl,rfl,ho,Q1j ns _ O,J⟩
theorem Qe6 (l:OpenLaw) (args:List WData):l.row.toRowW.claim.post args (.bool zb) args=zb:=
 postW_of (r:=l.row.toRowW) (X:=(zb == zb))
  (show WShape.has [] (.bool zb) .bool=zb by first | rfl | decide | simp [WShape.has,WShape.arms,WShape.armsAll])
  (show (WTm.eq .res (.lit (.bool zb))).value [] { args:=args,res:=zo (.bool zb),after:=args }=zo (.bool (zb == zb)) from w_eq_bool (w_res rfl) w_lit) rfl
theorem attach_call {l:OpenLaw} {n:Nat} {q:aK} {J:List Str} {XP:(Str->Option aA)->Heap->Prop} {YP:aJ->Heap->Prop} {d:DefRec}
  (hn:l.most=zo n) (a7:d.params.defaults=[])
  (call:∀ (w:aJ) (s₀ I:aC) (mg mb:Str->Option aA) (fa:aB) (o:Obj) (pm cd O:aA) (a:aB) (vs:List aA) (ns:List Int),
   Ground q J [] XP w s₀ mg mb I.heap->YP w I.heap ->
   I.heap.get? fa=zo o->o.data=.func (docDef d.name d.params d.body d.scope pm cd O)->I.heap.CodeRec cd d.name->mg d.name=zo (.ref fa) ->
   I.heap.get? a=zo { cls:=.type "list",data:=.seq vs.toArray }->IntsAre vs ns->ns.length<=n->I.gens=#[] ->
   codeAny (aI l.prog w) callerA (.call (.ref fa) ⟨[.ref a],[]⟩) (λr s'=>r=.ok (.ret (.bool zb))/\OldK I.heap s'.heap/\s'.os=I.os/\AllBare s'.gens) I) :
  WalkO q J XP YP l.row.toRowW d [] (λf vs=>fH f vs):=by
 intro w s₀ I mg mb G Y fa o pm cd O dV kV ho hd a6 hD a5 hg args a8 as a1 a9 b1 a4 b0;obtain rfl:dV=.none:=Dflts.none hD a7;obtain rfl:kV=.none:=Dflts.noKw hD;obtain ⟨a,vs,ns,rfl,rfl,a3,Z,a2⟩:=Qe1 hn a1 a4;refine enter_call (bR (call w s₀ I mg mb fa o pm cd O a vs ns G Y ho (fd_plain hd) a6 a5 a3 Z a2 hg) λr s' hq=>?_)
 obtain ⟨rfl,h2,h3,h4⟩:=hq;exact ⟨.inl ⟨.bool zb,.bool zb,[],rfl,λ_=>rfl,.bool zb,Qe6 l _,λ_=>⟨fI,λ_ hm=>(nomatch hm)⟩⟩,h2,h3,h4⟩
end Att
namespace L2
open PySem PySem.Spec PyProof.Rows
variable {k k1 k2:Nat} {a f it l z i1 i2 l1 l2:aB} {fd:aP} {x:Str} {st:aM} {h h':Heap} {Q:zAD} {t1 t2:Bool} {b:aA} {xs:List V} {ta:TA} {tp:Pos}
theorem Q4z:∀ {vs:List aA} {ns:List Int},IntsAre vs ns->Vals (ns.map V.int) vs
 | _,_,.nil=>.nil
 | _,_,.cons n t h=>.cons ⟨t,rfl⟩ (Q4z h)
def Qui (H:Hp):Prop:=∀ b,H b=zl\/∃ o xs,H b=zo (.frz o (.lst xs))
theorem Qii {P:aK} {w:aJ} {K:bX} {mg mb:zAE} {CX:CXT} {k:Nat} {fa a:aB} {fd:aP} {x:Str} {sp:Sp} {G:aC} {vs:List aA} {ns:List Int}
  (KX:K.In G.heap) (a3:G.heap.Ns aV mg) (J:G.heap.Ns builtinsNs mb) (a6:∀ x:Str,x≠"__name__" -> mb x=aX x) (a5:G.heap.NoLimit) (hg:G.gens=#[])
  (ha:G.heap.get? a=zo { cls:=.type "list",data:=.seq vs.toArray }) (hi:IntsAre vs ns) (hl:ns.length<=sizeLine) (hr:Room k callerA)
  (F:∀ base:Heap,K.In base->base.Ns aV mg->FnOk P w K mg base CX k fa fd [x] sp) (Z:∀ (s:aC) (u:aA),BindsTo s fd ⟨[u],[]⟩ [(x,u)])
  (a8:∀ H:Hp,Qui H->SqL K H a (ns.map V.int)->sp [.ref a] H (λv _=>v=.bl zb) λ_ _ _=>False)
  (a7:∀ H e s',CX [] H G (λ_ _ _=>False) e s'->False) :
  codeAny (aI P w) callerA (.call (.ref fa) ⟨[.ref a],[]⟩) (λr s'=>r=.ok (.ret (.bool zb))/\OldK G.heap s'.heap/\s'.os=G.os/\AllBare s'.gens) G:=by
 have rv:=Q4z hi;have a2:=hi.length;have Y:∀ H:Hp,Qui H->SqL K H a (ns.map V.int)->HOk P w H G.heap->(∀ b,H b≠zl->b=a)->(H a≠zl->K.lookup a=zl) ->
   codeAny (aI P w) callerA (.call (.ref fa) ⟨[.ref a],[]⟩) (λr s'=>r=.ok (.ret (.bool zb))/\OldK G.heap s'.heap/\s'.os=G.os/\AllBare s'.gens) G:=by
  intro H hO hS hok hA hK;have I:∀ {b:aB} {o:Obj},G.heap.get? b=zo o->H b=zl->(Q76 G.heap H).get? b=zo o:=λe n=>Qj1 e n
  have a9:∀ {b:aB} {o:Obj} {es:Array DictEntry} {ep:Nat},G.heap.get? b=zo o->o.data=.dict es ep->H b=zl:=λ{b o es ep} e d=>by
   cases q:H b with
   | none=>rfl
   | some u=>
    have e':b=a:=hA b (by rw [q]; simp);subst e';rw [ha] at e; cases e;have d':Data.seq vs.toArray _=Data.dict es ep:=d;cases d'
  have O:∀ {b:aB} {m:zAE},G.heap.Ns b m->(Q76 G.heap H).Ns b m:=λ{b m} ⟨o,es,ep,e,d,r⟩=>⟨o,es,ep,I e (a9 e d),d,r⟩
  have a4:K.In (Q76 G.heap H):=λb o e=>I (KX b o e) (by
   cases q:H b with
   | none=>rfl
   | some u=>
    have e':b=a:=hA b (by rw [q]; simp);subst e';rw [hK (by rw [q]; simp)] at e; cases e)
  have hM:Mod K mg (Q76 G.heap H):=⟨a4,O a3,⟨mb,O J,a6⟩,let ⟨mc,h1,h2⟩:=a5; ⟨mc,O h1,h2⟩⟩;have e0:Env0 P w K mg (Q76 G.heap H) callerA [] G H:=⟨rfl,hM,λb o e=>Qnb e,dm (Qez _ _),trivial,λb J=>absurd (show b∈([]:List aB) from J) (by simp),hok,.of_eq hg⟩;refine bR ((F _ a4 (O a3)).run callerA [] G H ⟨[.ref a],[]⟩ [.ref a] [.ref a] _ _ hr e0 (Z G (.ref a)) (.cons rfl .nil) (a8 H hO hS)) λr s' h=>?_
  cases r with
  | error e=>exact (a7 H e s' h).elim
  | ok fl=>
   cases fl with
   | next=>exact False.elim h
   | brk=>exact False.elim h
   | cont=>exact False.elim h
   | ret u=>
    obtain ⟨v,H',os,bare,un,a1,r',q⟩:=h;have q':v=.bl zb:=q;subst q';obtain rfl:u=cm zb:=r';refine ⟨rfl,OldK.of_keep λb o e=>?_,os,bare⟩;cases q:H b with
    | none=>exact un.keep b o e q (by intro z; exact absurd (show b∈([]:List aB) from z) (by simp)) (by simp)
    | some u=>
     rcases hO b with z | ⟨ob,xs,z⟩
     ·rw [q] at z; cases z
     ·have z2:=un.frzs b ob _ z;obtain ⟨e1,_⟩:=hok b _ z;obtain ⟨e2,_⟩:=a1 b _ z2;rw [e] at e1; cases e1;exact e2
 cases hk:K.lookup a with
 | some o=>
  have e:=KX a o hk;rw [ha] at e;cases e;refine Y (λ_=>zl) (λ_=>.inl rfl) (.inr ⟨_,vs.toArray,_,hk,rfl,rfl,rfl,by rw [D0,a2]; exact hl,by simpa using rv⟩) (λb u z=>by have z':(zl:Option HO)=zo u:=z; cases z') (λb z=>absurd rfl z) λz=>absurd rfl z
 | none=>
  refine Y (λb=>if b=a then zo (.frz { cls:=.type "list",data:=.seq vs.toArray } (.lst (ns.map V.int))) else zl) (λb=>?_) (.inl (.inr ⟨{ cls:=.type "list",data:=.seq vs.toArray },bT rfl⟩)) (λb u z=>?_) (λb z=>?_) λ_=>hk
  ·by_cases J:b=a
   ·exact .inr ⟨_,_,bT J⟩
   ·exact .inl (bU J)
  ·by_cases J:b=a
   ·have z':=(bT J).symm.trans z;cases z';subst J;exact ⟨ha,by rw [O0]; exact hl,vs,_,rv,ha⟩
   ·have z':=(bU J).symm.trans z;cases z'
  ·by_cases J:b=a
   ·exact J
   ·exact absurd (bU J) z
theorem walk_of {l:fJ} {n k:Nat} {q:aK} {J:List Str} {XP:(Str->Option aA)->Heap->Prop} {YP:aJ->Heap->Prop} {d:DefRec} {K:Params->bX} {CX:aJ->CXT} {sp:aJ->Sp} {x:Str}
  (hn:l.most=zo n) (a3:n<=sizeLine) (a5:d.params.defaults=[]) (hr:Room k callerA)
  (hY:∀ (w:aJ) (h:Heap),YP w h->(K w.params).In h)
  (F:∀ (w:aJ) (mg:zAE) (fa:aB) (h:Heap),(K w.params).In h->h.Ns aV mg->mg d.name=zo (.ref fa) ->
   ∃ fd:aP,(∀ (s:aC) (u:aA),BindsTo s fd ⟨[u],[]⟩ [(x,u)]) /\
    ∀ base:Heap,(K w.params).In base->base.Ns aV mg->FnOk l.prog w (K w.params) mg base (CX w) k fa fd [x] (sp w))
  (a6:∀ (w:aJ) (H:Hp) (a:aB) (ns:List Int),ns.length<=n->Qui H->SqL (K w.params) H a (ns.map V.int)->sp w [.ref a] H (λv _=>v=.bl zb) λ_ _ _=>False)
  (a4:∀ (w:aJ) (H:Hp) (s:aC) (e:aA) (s':aC),CX w [] H s (λ_ _ _=>False) e s'->False) :
  gO q J XP YP l.row.toRowW d [] (λf vs=>fH f vs):=by
 refine Att.attach_call hn a5 λw s₀ Z mg mb fa o pm cd a8 a vs ns G Y ho hd a7 a2 a1 O I hg=>?_
 have KX:=hY w _ Y;obtain ⟨fd,hb,hF⟩:=F w mg fa _ KX G.T.g a2;exact Qii KX G.T.g G.T.b G.T.builtins G.T.nolimit hg a1 O (D9 I a3) hr hF hb (λH hO hS=>a6 w H a ns I hO hS) λH e s'=>a4 w H Z e s'
def Yk (s:aM):Arguments:=match s with
 | .FunctionDef _ a _ _ _ _ _ _ _ _=>a
 | _=>{ posonlyargs:=[],args:=[],vararg:=zl,kwonlyargs:=[],kw_defaults:=[],kwarg:=zl,defaults:=[] }
def Z0 (s:aM):List aM:=match s with
 | .FunctionDef _ _ b _ _ _ _ _ _ _=>b
 | _=>[]
def Q6 (s:aM):Scope:=match s with
 | .FunctionDef _ _ _ _ _ _ sc _ _ _=>sc
 | _=>{ kind:=.function,names:=[],isGenerator:=yo,isCoroutine:=yo }
abbrev E0:XK:=λ_ _ _=>False
structure Fun (K:bX) (x qual:Str) (st:aM) (f:aB) (fd:aP):Prop where
 ex:∃ (oc:aA) (od:Option aB) (kV doc pm:aA) (an:Option aB) (cdv ct:aA) (osl:Array (Option aA)),
  fd=br x qual (Yk st) (Z0 st) (Q6 st) .none kV doc pm an cdv ct/\K.lookup f=zo ⟨oc,od,.func fd,osl⟩/\cp K cdv qual=zb
 kp:cV K (.ref f)=zb
variable {P:aK} {K:bX} {mg:zAE} {base:Heap}
section
variable {w:aJ}
theorem Fun.binds {qual:Str} {ps:List Str} (F:Fun K x qual st f fd)
  (h:∀ (kV G J:aA) (I:Option aB) (q ct:aA) (us:List aA),us.length=ps.length->bindArgs (br x qual (Yk st) (Z0 st) (Q6 st) .none kV G J I q ct) ⟨us,[]⟩=pure (ps.zip us)):Binds K fd ps []:=by
 obtain ⟨oc,od,kV,G,J,I,q,ct,Y,rfl,Z,O⟩:=F.ex;exact .all (h kV G J I q ct)
theorem Qj7 {qual:Str} {oc:aA} {Y J:Option aB} {I:Array (Option aA)} {kV G O q ct:aA} (l:K.lookup f=zo ⟨oc,Y,.func (br x qual (Yk st) (Z0 st) (Q6 st) .none kV G O J q ct),I⟩)
  (c:cp K q qual=zb) (k:cV K (.ref f)=zb):Fun K x qual st f (br x qual (Yk st) (Z0 st) (Q6 st) .none kV G O J q ct):=⟨⟨oc,Y,kV,G,O,J,q,ct,I,rfl,l,c⟩,k⟩
end
variable {X:Cx}
theorem pv (i:Nat) {pos:Pos} (G:X.N[i]?=zo x:=by rfl) (I:Vis X.env.scope x:=by first | exact Or.inl rfl | exact Or.inr (Or.inl rfl) | exact Or.inr (Or.inr rfl)) (hd:(x == ("__debug__" : Str))=yo:=by decide)
  (q:(x == ("__classdict__" : Str))=yo:=by decide):PE X (.Name x pos) (Qv8 i):=Qhe G I hd q
def Same (H H':Hp):Prop:=∀ b o,H b=zo o->H' b=zo o
theorem Same.refl (H:Hp):Same H H:=λ_ _ h=>h
theorem Qbj {scope:Scope} {env:Env} (h:∀ x∈scope.names,x.2=.free->∃ c,env.cells.lookup x.1=zo c) :
  ∃ cl,closureFor scope env=pure cl/\(∀ x c,cl.lookup x=zo c->env.cells.lookup x=zo c)/\(∀ x∈scope.names,x.2=.free->∃ c,cl.lookup x.1=zo c):=by
 have a1:∀ (l:List (Str × ay)) (acc:List (Str × aB)),(∀ x∈l,x.2=.free->∃ c,env.cells.lookup x.1=zo c)->(∀ x c,acc.lookup x=zo c->env.cells.lookup x=zo c) ->
   ∃ cl,(forIn l acc λ(x:Str × ay) (r:List (Str × aB))=>(match x with
    | (name,kind)=>if (kind == NameKind.free)=zb then (do let c <- cellOf env name; pure (ForInStep.yield ((name,c) :: r))) else (do pure PUnit.unit; pure (ForInStep.yield r)):Sem (ForInStep (List (Str × aB)))))=pure cl /\
    (∀ x c,cl.lookup x=zo c->env.cells.lookup x=zo c)/\(∀ x∈l,x.2=.free->∃ c,cl.lookup x.1=zo c)/\(∀ x c,acc.lookup x=zo c->∃ G,cl.lookup x=zo G):=by
  intro l
  induction l with
  | nil=>intro acc _ ha; exact ⟨acc,rfl,ha,λx hx=>(by simp at hx),λx c e=>⟨c,e⟩⟩
  | cons x r ih=>
   intro acc hl ha;obtain ⟨n,k⟩:=x
   by_cases hk:k=.free
   ·subst hk;obtain ⟨c,hc⟩:=hl (n,.free) F4 rfl;have a2:∀ x G,((n,c) :: acc).lookup x=zo G->env.cells.lookup x=zo G:=λx G e=>by
     rw [cJ] at e
     by_cases hx:x=n
     ·subst hx; simp at e; rw [<- e]; exact hc
     ·have:(x == n)=yo:=by simpa using hx
      rw [this] at e; exact ha x G e
    obtain ⟨cl,O,J,Z,Y⟩:=ih ((n,c) :: acc) (λy q=>hl y (O4 _ q)) a2
    refine ⟨cl,?_,J,λy q hf=>?_,λy G e=>?_⟩
    ·rw [dP];have I:cellOf env n=pure c:=by unfold cellOf; rw [hc]
     simp only [beq_self_eq_true,if_true,I];exact O
    ·rcases D6.mp q with e | q
     ·subst e;exact Y n c (by simp)
     ·exact Z y q hf
    ·by_cases q:y=n
     ·subst q; exact Y y c (by simp)
     ·have:(y == n)=yo:=by simpa using q
      exact Y y G (by rw [cJ,this]; exact e)
   ·obtain ⟨cl,O,J,Z,Y⟩:=ih acc (λy q=>hl y (O4 _ q)) ha
    refine ⟨cl,?_,J,λy q hf=>?_,Y⟩
    ·rw [dP];have:(k == NameKind.free)=yo:=by simpa using hk
     simp only [this,E7,if_false];exact O
    ·rcases D6.mp q with e | q
     ·subst e; exact absurd hf hk
     ·exact Z y q hf
 obtain ⟨cl,O,J,Z,_⟩:=a1 scope.names [] h (λx c e=>by simp at e);refine ⟨cl,?_,J,Z⟩;unfold closureFor;exact (congrArg (λz=>z >>= pure) O).trans rfl
theorem xg (f:Str->ay->ay) (x:Str):∀ l:List (Str × ay),(l.map λy=>(y.1,f y.1 y.2)).lookup x=(l.lookup x).map (f x)
 | []=>rfl
 | (n,k) :: r=>by
  have I:=xg f x r;rw [D5,cJ,cJ]
  by_cases q:x=n
  ·subst q; simp
  ·have G:(x == n)=yo:=by simpa using q
   rw [G]; exact I
theorem q9 {scope:Scope} {env:Env} :(relabel scope env).names.lookup x =
  (scope.names.lookup x).map λk=>if (k == .free && env.scope.kind == .function && env.kindOf x == zo .cell) then .cell else k:=by
 rw [<- xg (λn k=>if (k == .free && env.scope.kind == .function && env.kindOf n == zo .cell) then .cell else k)]
 unfold relabel;refine congrArg (List.lookup x) (cX λy _=>?_);obtain ⟨n,k⟩:=y;show (if (k == NameKind.free && env.scope.kind == .function && env.kindOf n == zo .cell)=zb then (n,NameKind.cell) else (n,k))=_
 split <;> rfl
def xr (cap:zAC) (σ:St):St:=cap.map λc=>c.bind λj=>(σ[j]?).join
def HasItems (t:Bool) (h:Heap) (a:aB) (items:Array aA):Prop:=if t=zb then h.IsTuple a items else h.IsList a items
def IterAt (t:Bool) (h:Heap) (it a:aB) (i:Nat):Prop:=if t=zb then h.IsTupleIter it a i else h.IsListIter it a i
theorem HasItems.at {t:Bool} {q:Array aA} (x:HasItems t h a q) (k:∀ o,h.get? a=zo o->h'.get? a=zo o):HasItems t h' a q:=by
 cases t
 ·exact Heap.IsList.at x k
 ·obtain ⟨o,e,r⟩:=x;exact ⟨o,k o e,r⟩
theorem HasItems.there {t:Bool} {q:Array aA} (x:HasItems t h a q):∃ o,h.get? a=zo o:=by
 cases t
 ·obtain ⟨o,e,_⟩:=x; exact ⟨o,e⟩
 ·obtain ⟨o,e,_⟩:=x; exact ⟨o,e⟩
theorem IterAt.at {t:Bool} {i:Nat} (x:IterAt t h it a i) (k:∀ o,h.get? it=zo o->h'.get? it=zo o):IterAt t h' it a i:=by
 cases t
 ·exact Heap.IsListIter.at x k
 ·obtain ⟨o,e,r⟩:=x;exact ⟨o,k o e,r⟩
theorem IterAt.there {t:Bool} {i:Nat} (x:IterAt t h it a i):∃ o,h.get? it=zo o/\∀ v,o.data≠.cell v:=by
 cases t
 ·obtain ⟨o,e,_,d⟩:=x; exact ⟨o,e,λv z=>by rw [d] at z; cases z⟩
 ·obtain ⟨o,e,_,d⟩:=x; exact ⟨o,e,λv z=>by rw [d] at z; cases z⟩
variable {prog:aK} {A:aL} {E:zAD} {s:aC}
section
variable {w:aJ}
theorem yw {i:Nat} {items} {x:aA} {Q:zAD} (q:s.heap.IsTupleIter it l i)
  (O:s.heap.IsTuple l items) (hx:items[i]?=zo x)
  (Y:∀ h',h'.IsTupleIter it l (i + 1)->Heap.SameBut it s.heap h'->Q x { s with heap:=h' }) :
  aF (aI prog w) A (Builtin.SmallTypes.nextOf (.ref it)) Q E s:=by
 obtain ⟨o,G,Z,hd⟩:=id q;obtain ⟨ol,I,_,nl,J⟩:=O;unfold Builtin.SmallTypes.nextOf;refine aD (wpAny_callSpecial?_slot (name:=cE "__next__") q.typeIs F.slot_tuple_iterator_next
  (ah F.slot_tuple_iterator_next q.typeIs F.entry_tuple_iterator_next ?_ (F.args_tuple_iterator_next_1 _)))
 show aF _ _ (field (.ref it) 0 >>= _) _ _ s;refine aD (ag G hd (x:=.ref l) rfl ?_);show aF _ _ (if (bZ l == ba)=zb then _ else _) _ _ s;rw [bU (show ¬ ((bZ l == ba)=zb) from D2)];show aF _ _ (field (.ref it) 1 >>= _) _ _ s;refine aD (ag G hd (x:=.int i 0) rfl ?_);show aF _ _ (seqItems? (.ref l) >>= _) _ _ s;refine aD (aq I J ?_);simp only [bo,hx];refine aD (wpAny_setField G hd (by simp) (wpAny_pure ⟨x,rfl,wpAny_pure (Y _ ?_ (Heap.SameBut.update ..))⟩));exact ⟨_,G9 _ G (fK (dC hd _)),(gP ..).trans Z,by
  rw [dC hd]; simp [aU]⟩
theorem Q09 {it l:aB} {i:Nat} {items} {Q:zAD} (O:A.handled=zl)
  (q:s.heap.IsTupleIter it l i) (Y:s.heap.IsTuple l items) (hx:items[i]?=zl)
  (Z:∀ h' e,Heap.ExtBut it s.heap h'->(∃ o,h'.get? e=zo o/\o.cls=.type "StopIteration")->E (.ref e) { s with heap:=h' }) :
  aF (aI prog w) A (Builtin.SmallTypes.nextOf (.ref it)) Q E s:=by
 obtain ⟨o,J,hc,hd⟩:=id q;obtain ⟨ol,G,_,nl,I⟩:=Y;unfold Builtin.SmallTypes.nextOf;refine aD (wpAny_callSpecial?_slot (name:=cE "__next__") q.typeIs F.slot_tuple_iterator_next
  (ah F.slot_tuple_iterator_next q.typeIs F.entry_tuple_iterator_next ?_ (F.args_tuple_iterator_next_1 _)))
 show aF _ _ (field (.ref it) 0 >>= _) _ _ s;refine aD (ag J hd (x:=.ref l) rfl ?_);show aF _ _ (if (bZ l == ba)=zb then _ else _) _ _ s;rw [bU (show ¬ ((bZ l == ba)=zb) from D2)];show aF _ _ (field (.ref it) 1 >>= _) _ _ s;refine aD (ag J hd (x:=.int i 0) rfl ?_);show aF _ _ (seqItems? (.ref l) >>= _) _ _ s;refine aD (aq G I ?_);simp only [bo,hx];refine aD (bH (aD (wpAny_setField J hd (by simp) ?_)));show aF _ _ (newExc (.type "StopIteration") [] >>= _) _ _ _;refine aD ?_;simp only [newExc,newTuple];refine aD (av ?_ (by size_fits));refine aD (m:=firstArgMember _ _) (wpAny_of_eq (a:=ba) (by first | rfl | (simp only [firstArgMember]; rfl)) ?_);refine av ?_ (by size_fits);simp only [bS]
 refine aD (wpAny_handled ?_)
 first | rw [show A.in1.handled=zl from O] | rw [O]
 refine aD (wpAny_pure (wpAny_throw ?_));exact Z _ _ (((Heap.SameBut.update ..).extBut.push _).push _) ⟨_,O9 _ rfl,rfl⟩
theorem Uv {t:Bool} {i:Nat} {q:Array aA} {x:aA} {Q:zAD} (G:IterAt t s.heap it l i)
  (I:HasItems t s.heap l q) (O:q[i]?=zo x)
  (J:∀ h',IterAt t h' it l (i + 1)->Heap.SameBut it s.heap h'->Q x { s with heap:=h' }) :
  aF (aI prog w) A (Builtin.SmallTypes.nextOf (.ref it)) Q E s:=by
 cases t
 ·exact wpAny_nextOf_list_item G I O J
 ·exact yw G I O J
theorem K8 {t:Bool} {it l:aB} {i:Nat} {q:Array aA} {Q:zAD} (J:A.handled=zl)
  (G:IterAt t s.heap it l i) (I:HasItems t s.heap l q) (Y:q[i]?=zl)
  (O:∀ h' e,Heap.ExtBut it s.heap h'->(∃ o,h'.get? e=zo o/\o.cls=.type "StopIteration")->E (.ref e) { s with heap:=h' }) :
  aF (aI prog w) A (Builtin.SmallTypes.nextOf (.ref it)) Q E s:=by
 cases t
 ·exact wpAny_nextOf_list_end J G I Y O
 ·exact Q09 J G I Y O
def Wq (t:Bool) (l:aB):Obj:=if t=zb then { cls:=.type "tuple_iterator",data:=.fields #[.ref l,.int 0 0] } else { cls:=.type "list_iterator",data:=.fields #[.ref l,.int 0 0] }
theorem zk {t:Bool} {q:Array aA} {Q:zAD} (G:HasItems t s.heap l q)
  (I:Q (.ref s.heap.objs.size) { s with heap:=s.heap.push (Wq t l) }):aF (aI prog w) A (pyIter (.ref l)) Q E s:=by
 cases t
 ·exact wpAny_pyIter_list G I
 ·exact bO G I
theorem y9 {t:Bool} (e:h.get? it=zo (Wq t l)):IterAt t h it l 0:=by
 cases t
 ·exact ⟨_,e,rfl,rfl⟩
 ·exact ⟨_,e,rfl,rfl⟩
theorem Kb (t:Bool) (l:aB):(Wq t l).isFreed=yo:=by cases t <;> rfl
theorem Qdh {t1 t2:Bool} {TI TO:aB} {k1 k2:Nat} {xs ys:Array aA} {x y a b:aA} {Q:zAD} (D:ZipApart z TI TO i1 i2 l1 l2)
  (hz:IsZip s.heap z TI TO .none) (d1:aZ s.heap TI (.ref i1) (.ref i2)) (d0:aZ s.heap TO a b)
  (h1:IterAt t1 s.heap i1 l1 k1) (h2:IterAt t2 s.heap i2 l2 k2) (c9:HasItems t1 s.heap l1 xs) (d2:HasItems t2 s.heap l2 ys) (hx:xs[k1]?=zo x) (hy:ys[k2]?=zo y)
  (hQ:∀ h',IsZip h' z TI TO (aU s.heap.objs.size)->aZ h' TO x y->IterAt t1 h' i1 l1 (k1 + 1)->IterAt t2 h' i2 l2 (k2 + 1)->aZ h' s.heap.objs.size x y->h'.objs.size=s.heap.objs.size + 1 ->
   (∀ c o,c≠z->c≠TO->c≠i1->c≠i2->s.heap.get? c=zo o->h'.get? c=zo o)->Q (.ref s.heap.objs.size) { s with heap:=h' }) :
  aF (aI prog w) A (Builtin.«zip.__next__» ⟨[.ref z],[]⟩) (λfin s'=>∃ v,fin=.done (.ret v)/\Q v s') E s:=by
 show aF _ _ (field (.ref z) 2 >>= _) _ _ _;refine aD (ag hz rfl (x:=.bool yo) rfl ?_);show aF _ _ (field (.ref z) 3 >>= _) _ _ _;refine aD (ag hz rfl (x:=.ref TI) rfl ?_);refine aD (aq d1 rfl ?_);show aF _ _ (Builtin.SmallTypes.ownedTupleIsFree (.ref z) >>= _) _ _ _;refine aD ?_;unfold Builtin.SmallTypes.ownedTupleIsFree;refine aD (ag hz rfl (x:=.none) rfl (wpAny_pure ?_));simp only [if_true];refine aD (bH ?_);refine aD (ag hz rfl (x:=.ref TO) rfl ?_);refine aD (bA hz (by simp) λc6 a6 G=>?_)
 replace a6:IsZip c6 z TI TO .ellipsis:=a6;refine aD ?_;simp only [dn,gQ,dP,dq];refine aD (aD (wpAny_onRaise ?_));show aF _ _ (Builtin.SmallTypes.nextOf (.ref i1) >>= _) _ _ _;refine aD (Uv (h1.at λo e=>G.extBut _ _ D.i1z e) (c9.at λo e=>G.extBut _ _ D.l1z e) hx λc8 b5 J=>wpAny_pure ?_)
 have a9:aZ c8 TO a b:=J.extBut _ _ D.TOi1 (G.extBut _ _ D.TOz d0);refine aD (aq a9 rfl ?_);refine aD (wpAny_updateSeq_pair a9 λc0 a1 I=>?_);replace a1:aZ c0 TO x b:=a1;refine aD (wpAny_letGo (wpAny_pure ?_));refine aD (aD (wpAny_onRaise ?_));show aF _ _ (Builtin.SmallTypes.nextOf (.ref i2) >>= _) _ _ _;refine aD (Uv (h2.at λo e=>I.extBut _ _ D.TOi2.symm (J.extBut _ _ D.i12.symm (G.extBut _ _ D.i2z e)))
  (d2.at λo e=>I.extBut _ _ D.l2TO (J.extBut _ _ D.l2i1 (G.extBut _ _ D.l2z e))) hy λc5 b7 Y=>wpAny_pure ?_)
 have a8:aZ c5 TO x b:=Y.extBut _ _ D.TOi2 a1;refine aD (aq a8 rfl ?_);refine aD (wpAny_updateSeq_pair a8 λq O Z=>?_);replace O:aZ q TO x y:=O;refine aD (wpAny_letGo (wpAny_pure (wpAny_pure ?_)));refine aD (aq O rfl ?_);refine aD (wpAny_newTuple ?_);have hsz:q.objs.size=s.heap.objs.size:=by rw [Z.1,Y.1,I.1,J.1,G.1]
 have b0:IsZip q z TI TO .ellipsis:=Z.extBut _ _ D.TOz.symm (Y.extBut _ _ D.i2z.symm (I.extBut _ _ D.TOz.symm (J.extBut _ _ D.i1z.symm a6)));have b3:∀ c o,c≠z->c≠TO->c≠i1->c≠i2->s.heap.get? c=zo o->q.get? c=zo o:=λc o c1 c2 c3 c4 e=>
  Z.extBut _ _ c2 (Y.extBut _ _ c4 (I.extBut _ _ c2 (J.extBut _ _ c3 (G.extBut _ _ c1 e))))
 have b4:IterAt t1 q i1 l1 (k1 + 1):=b5.at λo e=>Z.extBut _ _ D.TOi1.symm (Y.extBut _ _ D.i12 (I.extBut _ _ D.TOi1.symm e))
 have b8:IterAt t2 q i2 l2 (k2 + 1):=b7.at λo e=>Z.extBut _ _ D.TOi2.symm e
 have b2:z < q.objs.size:=O7 b0;show aF _ _ (Builtin.SmallTypes.ownedTupleHandOut (.ref z) (.ref q.objs.size) >>= _) _ _ _;refine aD ?_;unfold Builtin.SmallTypes.ownedTupleHandOut;have b6:IsZip (q.push { cls:=.type "tuple",data:=.seq #[x,y] }) z TI TO .ellipsis:=O1 _ b0;refine aD (bA b6 (by simp) λc7 a5 a4=>?_)
 replace a5:IsZip c7 z TI TO (aU q.objs.size):=a5;refine bA a5 (by simp) λa3 a2 a7=>?_
 replace a2:IsZip a3 z TI TO (aU q.objs.size):=a2;have up:∀ c o,c≠z->q.get? c=zo o->a3.get? c=zo o:=λc o c1 e=>a7.extBut _ _ c1 (a4.extBut _ _ c1 (O1 _ e))
 have b1:aZ a3 q.objs.size x y:=a7.extBut _ _ (L9 b2) (a4.extBut _ _ (L9 b2) (O9 _ rfl));have b9:a3.objs.size=q.objs.size + 1:=by rw [a7.1,a4.1,F1]
 rw [hsz] at a2 b1 b9;refine wpAny_pure ⟨_,rfl,?_⟩;show Q (.ref q.objs.size) _;rw [hsz];exact hQ a3 a2 (up _ _ D.TOz O) (b4.at λo e=>up _ o D.i1z e) (b8.at λo e=>up _ o D.i2z e) b1 b9 λc o c1 c2 c3 c4 e=>up c o c1 (b3 c o c1 c2 c3 c4 e)
theorem Qfk {t1 t2:Bool} {TI TO:aB} {k1 k2:Nat} {xs ys:Array aA} {a b:aA} {Q:Fin->aC->Prop} (hh:A.handled=zl) (D:ZipApart z TI TO i1 i2 l1 l2)
  (hz:IsZip s.heap z TI TO .none) (b6:aZ s.heap TI (.ref i1) (.ref i2)) (b4:aZ s.heap TO a b)
  (h1:IterAt t1 s.heap i1 l1 k1) (h2:IterAt t2 s.heap i2 l2 k2) (a8:HasItems t1 s.heap l1 xs) (b7:HasItems t2 s.heap l2 ys) (a9:xs[k1]?=zl\/ys[k2]?=zl)
  (hE:∀ h' e,(∀ c o,c≠z->c≠TO->c≠i1->c≠i2->s.heap.get? c=zo o->h'.get? c=zo o)->(∃ o,h'.get? e=zo o/\o.cls=.type "StopIteration")->E (.ref e) { s with heap:=h' }) :
  aF (aI prog w) A (Builtin.«zip.__next__» ⟨[.ref z],[]⟩) Q E s:=by
 show aF _ _ (field (.ref z) 2 >>= _) _ _ _;refine aD (ag hz rfl (x:=.bool yo) rfl ?_);show aF _ _ (field (.ref z) 3 >>= _) _ _ _;refine aD (ag hz rfl (x:=.ref TI) rfl ?_);refine aD (aq b6 rfl ?_);show aF _ _ (Builtin.SmallTypes.ownedTupleIsFree (.ref z) >>= _) _ _ _;refine aD ?_;unfold Builtin.SmallTypes.ownedTupleIsFree;refine aD (ag hz rfl (x:=.none) rfl (wpAny_pure ?_));simp only [if_true];refine aD (bH ?_);refine aD (ag hz rfl (x:=.ref TO) rfl ?_);refine aD (bA hz (by simp) λb2 J q=>?_)
 replace J:IsZip b2 z TI TO .ellipsis:=J;refine aD ?_;simp only [dn,gQ,dP,dq];refine aD (aD (wpAny_onRaise ?_));show aF _ _ (Builtin.SmallTypes.nextOf (.ref i1) >>= _) _ _ _;cases hx:xs[k1]? with
 | none=>
  refine aD (K8 hh (h1.at λo e=>q.extBut _ _ D.i1z e) (a8.at λo e=>q.extBut _ _ D.l1z e) hx λa3 e G he=>?_)
  obtain ⟨oe,O,a2⟩:=he;have a1:IsZip a3 z TI TO .ellipsis:=G _ _ D.i1z.symm J;have a7:e≠z:=λx=>by subst x; rw [a1] at O; cases O; simp at a2
  refine bA a1 (by simp) λa6 _ I=>hE a6 e (λc o c1 _ c3 _ x=>I.extBut _ _ c1 (G _ _ c3 (q.extBut _ _ c1 x))) ⟨oe,I.extBut _ _ a7 O,a2⟩
 | some x=>
  have hy:ys[k2]?=zl:=by rcases a9 with h | h; rw [hx] at h; cases h; exact h
  refine aD (Uv (h1.at λo e=>q.extBut _ _ D.i1z e) (a8.at λo e=>q.extBut _ _ D.l1z e) hx λa3 b5 G=>wpAny_pure ?_)
  have Y:aZ a3 TO a b:=G.extBut _ _ D.TOi1 (q.extBut _ _ D.TOz b4);refine aD (aq Y rfl ?_);refine aD (wpAny_updateSeq_pair Y λa6 b3 I=>?_);refine aD (wpAny_letGo (wpAny_pure ?_));refine aD (aD (wpAny_onRaise ?_));show aF _ _ (Builtin.SmallTypes.nextOf (.ref i2) >>= _) _ _ _;refine aD (K8 hh (h2.at λo e=>I.extBut _ _ D.TOi2.symm (G.extBut _ _ D.i12.symm (q.extBut _ _ D.i2z e)))
   (b7.at λo e=>I.extBut _ _ D.l2TO (G.extBut _ _ D.l2i1 (q.extBut _ _ D.l2z e))) hy λb1 e Z he=>?_)
  obtain ⟨oe,O,a2⟩:=he;have a4:IsZip b1 z TI TO .ellipsis:=Z _ _ D.i2z.symm (I.extBut _ _ D.TOz.symm (G.extBut _ _ D.i1z.symm J));have a7:e≠z:=λx=>by subst x; rw [a4] at O; cases O; simp at a2
  refine bA a4 (by simp) λb0 _ a5=>hE b0 e (λc o c1 c2 c3 c4 x=>a5.extBut _ _ c1 (Z _ _ c4 (I.extBut _ _ c2 (G.extBut _ _ c3 (q.extBut _ _ c1 x))))) ⟨oe,a5.extBut _ _ a7 O,a2⟩
theorem Q3b {t1 t2:Bool} {TI TO:aB} {k1 k2:Nat} {xs ys:Array aA} {x y a b:aA} {Q:Option aA->aC->Prop} (D:ZipApart z TI TO i1 i2 l1 l2)
  (hz:IsZip s.heap z TI TO .none) (J:aZ s.heap TI (.ref i1) (.ref i2)) (G:aZ s.heap TO a b)
  (h1:IterAt t1 s.heap i1 l1 k1) (h2:IterAt t2 s.heap i2 l2 k2) (q:HasItems t1 s.heap l1 xs) (I:HasItems t2 s.heap l2 ys) (hx:xs[k1]?=zo x) (hy:ys[k2]?=zo y)
  (Z:∀ h',IsZip h' z TI TO (aU s.heap.objs.size)->aZ h' TO x y->IterAt t1 h' i1 l1 (k1 + 1)->IterAt t2 h' i2 l2 (k2 + 1)->aZ h' s.heap.objs.size x y->h'.objs.size=s.heap.objs.size + 1 ->
   (∀ c o,c≠z->c≠TO->c≠i1->c≠i2->s.heap.get? c=zo o->h'.get? c=zo o)->Q (zo (.ref s.heap.objs.size)) { s with heap:=h' }) :
  aF (aI prog w) A (af (.ref z)) Q E s:=by
 have O:s.TypeIs (.ref z) "zip" := ⟨_,hz,rfl⟩;unfold af;exact aD (wpAny_attempt (wpAny_callSpecial?_slot (name:=cE "__next__") O F.slot_zip_next
  (ah F.slot_zip_next O F.entry_zip_next
   (Qdh D hz J G h1 h2 q I hx hy λh' a1 a2 a3 a4 a5 Y a7=>wpAny_pure (Z h' a1 a2 a3 a4 a5 Y a7)) (F.args_zip_next_1 _))))
theorem Q4q {t1 t2:Bool} {TI TO:aB} {k1 k2:Nat} {xs ys:Array aA} {a b:aA} {Q:Option aA->aC->Prop} (hh:A.handled=zl) (D:ZipApart z TI TO i1 i2 l1 l2)
  (hz:IsZip s.heap z TI TO .none) (O:aZ s.heap TI (.ref i1) (.ref i2)) (I:aZ s.heap TO a b)
  (h1:IterAt t1 s.heap i1 l1 k1) (h2:IterAt t2 s.heap i2 l2 k2) (G:HasItems t1 s.heap l1 xs) (J:HasItems t2 s.heap l2 ys) (q:xs[k1]?=zl\/ys[k2]?=zl)
  (hQ:∀ h',(∀ c o,c≠z->c≠TO->c≠i1->c≠i2->s.heap.get? c=zo o->h'.get? c=zo o)->Q zl { s with heap:=h' }):aF (aI prog w) A (af (.ref z)) Q E s:=by
 have Y:s.TypeIs (.ref z) "zip" := ⟨_,hz,rfl⟩;unfold af;refine aD (wpAny_attempt (wpAny_callSpecial?_slot (name:=cE "__next__") Y F.slot_zip_next
  (ah F.slot_zip_next Y F.entry_zip_next (Qfk hh D hz O I h1 h2 G J q λh' e hk he=>?_) (F.args_zip_next_1 _))))
 obtain ⟨o,Z,hc⟩:=he;refine aD (bJ (T := "StopIteration") (b:=zb) ⟨o,Z,hc⟩ isSubtype_stop ?_);exact wpAny_pure (hQ _ hk)
end
def zH1 (t1:Bool) (h:Heap) (l1:aB):Heap:=h.push (Wq t1 l1)
def zH2 (t1 t2:Bool) (h:Heap) (l1 l2:aB):Heap:=(zH1 t1 h l1).push (Wq t2 l2)
def zH3 (t1 t2:Bool) (h:Heap) (l1 l2:aB):Heap:=(zH2 t1 t2 h l1 l2).push { cls:=.type "tuple",data:=.seq #[.ref h.objs.size,.ref (zH1 t1 h l1).objs.size] }
def zH4 (t1 t2:Bool) (h:Heap) (l1 l2:aB):Heap:=(zH3 t1 t2 h l1 l2).push { cls:=.type "tuple",data:=.seq #[.none,.none] }
def zH5 (t1 t2:Bool) (h:Heap) (l1 l2:aB):Heap:=(zH4 t1 t2 h l1 l2).push { cls:=.type "zip",data:=.fields #[.none,.bool yo,.bool yo,.ref (zH2 t1 t2 h l1 l2).objs.size,.ref (zH3 t1 t2 h l1 l2).objs.size] }
theorem Q3e (t1 t2:Bool) (l1 l2:aB) (xs ys:Array aA) :
  Meets (Builtin.«zip.__new__» ⟨[.type "zip",.ref l1,.ref l2],[]⟩) (λ_ R s=>HasItems t1 s.heap l1 xs/\HasItems t2 s.heap l2 ys /\
   R (.ok (.ret (.ref (zH4 t1 t2 s.heap l1 l2).objs.size))) { s with heap:=zH5 t1 t2 s.heap l1 l2 }):=
 .of_wp λprog w A R s h=>by
  obtain ⟨Z,g,d,O,os⟩:=s; obtain ⟨q,J,h⟩:=h;have Y:=sub_zip;have G:HasItems t1 (Shared.heap ⟨Z,g,d,O,os⟩) l1 xs:=q;have I:HasItems t2 (Shared.heap ⟨Z.push (Wq t1 l1),g,d,O,os⟩) l2 ys:=J.at λo e=>O1 _ e
  wp_walk using zk G,zk I
  exact ⟨_,rfl,h⟩
section
variable {w:aJ}
theorem Qf9 {xs ys:Array aA} {Q:zAD} (q:HasItems t1 s.heap l1 xs) (Y:HasItems t2 s.heap l2 ys)
  (h:∀ h',IsZip h' (s.heap.objs.size + 4) (s.heap.objs.size + 2) (s.heap.objs.size + 3) .none->aZ h' (s.heap.objs.size + 2) (.ref s.heap.objs.size) (.ref (s.heap.objs.size + 1)) ->
   aZ h' (s.heap.objs.size + 3) .none .none->IterAt t1 h' s.heap.objs.size l1 0->IterAt t2 h' (s.heap.objs.size + 1) l2 0->h'.objs.size=s.heap.objs.size + 5 ->
   (∀ c o,s.heap.get? c=zo o->h'.get? c=zo o)->Q (.ref (s.heap.objs.size + 4)) { s with heap:=h' }) :
  aF (aI prog w) A (call (.type "zip") [.ref l1,.ref l2]) Q E s:=by
 refine callType_new F.called_zip (by decide) (F.typeCall_zip_2 _ _) (F.newCall_zip_2 _ _) (λobj=>F.args_object_init_3 obj _ _) F.entry_zip_new
  (Q3e t1 t2 l1 l2 xs ys) ⟨q,Y,?_⟩
 have J:(zH1 t1 s.heap l1).objs.size=s.heap.objs.size + 1:=F1 ..;have G:(zH2 t1 t2 s.heap l1 l2).objs.size=s.heap.objs.size + 2:=by unfold zH2; rw [F1,J]
 have O:(zH3 t1 t2 s.heap l1 l2).objs.size=s.heap.objs.size + 3:=by unfold zH3; rw [F1,G]
 have Z:(zH4 t1 t2 s.heap l1 l2).objs.size=s.heap.objs.size + 4:=by unfold zH4; rw [F1,O]
 have z5:(zH5 t1 t2 s.heap l1 l2).objs.size=s.heap.objs.size + 5:=by unfold zH5; rw [F1,Z]
 have I:(zH5 t1 t2 s.heap l1 l2).get? (zH4 t1 t2 s.heap l1 l2).objs.size=zo { cls:=.type "zip",data:=.fields #[.none,.bool yo,.bool yo,.ref (zH2 t1 t2 s.heap l1 l2).objs.size,.ref (zH3 t1 t2 s.heap l1 l2).objs.size] }:=O9 _ rfl;have g4:(zH5 t1 t2 s.heap l1 l2).get? (zH3 t1 t2 s.heap l1 l2).objs.size=zo { cls:=.type "tuple",data:=.seq #[.none,.none] }:=O1 _ (O9 _ rfl);have g3:(zH5 t1 t2 s.heap l1 l2).get? (zH2 t1 t2 s.heap l1 l2).objs.size=zo { cls:=.type "tuple",data:=.seq #[.ref s.heap.objs.size,.ref (zH1 t1 s.heap l1).objs.size] }:=O1 _ (O1 _ (O9 _ rfl));have g2:(zH5 t1 t2 s.heap l1 l2).get? (zH1 t1 s.heap l1).objs.size=zo (Wq t2 l2):=O1 _ (O1 _ (O1 _ (O9 _ (Kb _ _))));have g1:(zH5 t1 t2 s.heap l1 l2).get? s.heap.objs.size=zo (Wq t1 l1):=O1 _ (O1 _ (O1 _ (O1 _ (O9 _ (Kb _ _)))));show _/\_;rw [G,O,Z] at I;rw [J,G] at g3;rw [O] at g4;rw [J] at g2;rw [Z];exact ⟨⟨_,I,rfl⟩,h _ I g3 g4 (y9 g1) (y9 g2) z5 λc o x=>
  O1 _ (O1 _ (O1 _ (O1 _ (O1 _ x))))⟩
end
def SqK (K:bX) (t:Bool) (H:Hp) (a:aB) (xs:List V):Prop:=if t=zb then SqT K H a xs else SqL K H a xs
variable {pins:zAA} {σ:St} {H:Hp}
theorem Inv.seqK {t:Bool} (I:Inv X pins σ H s) (h:SqK X.K t H a xs):∃ its:List aA,Vals xs its/\HasItems t s.heap a its.toArray/\xs.length<=sizeLine:=by
 cases t
 ·obtain ⟨its,r,p,z⟩:=I.list h;exact ⟨its,r,p.isList,z⟩
 ·obtain ⟨its,r,p,z⟩:=I.tuple h;exact ⟨its,r,p,z⟩
theorem Inv.seqK_inj {t:Bool} {ys:List V} (I:Inv X pins σ H s) (h:SqK X.K t H a xs) (h':SqK X.K t H a ys):xs=ys:=by
 cases t
 ·exact I.list_inj h h'
 ·exact I.tuple_inj h h'
theorem Inv.turnedL {t':Nat} {its:List aB} (I:Inv X pins σ H s) (k:∀ b o,b∉its->s.heap.get? b=zo o->h'.get? b=zo o) (O:∀ b∈its,Q4g X pins H b):Inv X pins σ H { s with heap:=h',toks:=t' }:=by
 have J:∀ b u,H b=zo u->b∉its:=λb u e z=>by rw [(O b z).1] at e; cases e
 refine I.step (g':=s.gens) (d':=s.drawn) (ch:=its) (λb Z=>?_) (λb o _ _ G e _=>k b o G e) (λb o _ _ G e _=>⟨o.slots,k b o G e⟩) (λ_ _ _ _ n=>n)
  (λb o G e=>⟨o,k b o G e⟩) (λ_ _ e=>e) (λ_ _ _ e=>e) (λb ps e=>⟨#[],by rw [e]; simp⟩) (λm hm=>?_) (λb u e=>?_) I.bare
 ·obtain ⟨f0,f1,f2,f3,f4,f5⟩:=O b Z;exact ⟨f3,f1,f4,f5⟩
 ·obtain ⟨o,es,ep,Y,r⟩:=hm;exact ⟨o,es,ep,k _ o (λz=>(O _ z).2.1 rfl) Y,r⟩
 ·refine (I.hok b u e).stay (λc v G q=>k c v ?_ q) (λ_ q=>q) λ_ _ q=>q
  rcases G with z | z
  ·rw [z]; exact J b u e
  ·exact J c _ z
def Itz (K:bX) (t1 t2:Bool) (a b:aB):It:=
 ⟨λi H=>∃ xs ys x y,SqK K t1 H a xs/\SqK K t2 H b ys/\xs[i]?=zo x/\ys[i]?=zo y,
  λi H v H'=>∃ p x y,H p=zl/\v=.ref p/\H'=upd H p (.tup [x,y])/\∀ xs ys,SqK K t1 H a xs->SqK K t2 H b ys->xs[i]?=zo x/\ys[i]?=zo y,
  λi H=>∃ xs ys,SqK K t1 H a xs/\SqK K t2 H b ys/\(xs.length<=i\/ys.length<=i)⟩
def Qv2 (t1 t2:Bool) (z TI TO i1 i2 a b:aB) (i:Nat) (h:Heap):Prop:=
 IsZip h z TI TO .none/\aZ h TI (.ref i1) (.ref i2)/\(∃ u v,aZ h TO u v)/\IterAt t1 h i1 a i/\IterAt t2 h i2 b i
theorem Q59 {a:aA}:∀ v,({ cls:=.type "tuple",data:=.seq #[a,b] }:Obj).data≠.cell v:=λv z=>by cases z
theorem Qfr {P:aK} {w:aJ} {K:bX} {b4:List aH} {k:Nat} {pos:Pos} {t1 t2:Bool} {TI TO b:aB} (D:ZipApart z TI TO i1 i2 a b) :
  Turn P w K (.Tuple b4 k pos) (Itz K t1 t2 a b) [z,TI,TO,i1,i2] z (Qv2 t1 t2 z TI TO i1 i2 a b) where
 mem:=by simp
 obj:=λi h st c G=>by
  obtain ⟨hz,J,⟨u,v,O⟩,h1,h2⟩:=st;simp at G;rcases G with rfl | rfl | rfl | rfl | rfl
  ·exact ⟨_,hz,λv q=>by cases q⟩
  ·exact ⟨_,J,Q59⟩
  ·exact ⟨_,O,Q59⟩
  ·exact h1.there
  ·exact h2.there
 keep:=λi h h' st kk=>by
  obtain ⟨hz,J,⟨u,v,O⟩,h1,h2⟩:=st;exact ⟨kk z (by simp) _ hz,kk TI (by simp) _ J,⟨u,v,kk TO (by simp) _ O⟩,h1.at λo e=>kk i1 (by simp) o e,h2.at λo e=>kk i2 (by simp) o e⟩
 item:=by
  intro X hP hw hK G i pins s σ H E I hf st hg;subst hP hw hK;obtain ⟨xs,ys,x,y,a8,Z,hx,hy⟩:=hg;obtain ⟨hz,J,⟨u,v,O⟩,h1,h2⟩:=st;obtain ⟨its,rv,p,_⟩:=I.seqK a8;obtain ⟨b8,a9,p2,_⟩:=I.seqK Z;obtain ⟨ux,c3,c0⟩:=rv.get hx;obtain ⟨uy,c2,c5⟩:=a9.get hy;refine Q3b D hz J O h1 h2 p p2 (x:=ux) (y:=uy) (by simpa using c3) (by simpa using c2) λh' a1 a2 a3 a4 a5 a6 a7=>⟨_,rfl,?_⟩
  refine wpAny_letOwnedTupleGo_zip (s:={ s with heap:=h' }) a1 λb0 b1 b2=>?_
  have b9:H s.heap.objs.size=zl:=I.fresh;have c4:z < s.heap.objs.size:=O7 hz;have c6:TI < s.heap.objs.size:=O7 J;have c7:TO < s.heap.objs.size:=O7 O;have c8:i1 < s.heap.objs.size:=by obtain ⟨o,e,_⟩:=h1.there; exact O7 e
  have c9:i2 < s.heap.objs.size:=by obtain ⟨o,e,_⟩:=h2.there; exact O7 e
  have I1:Inv X pins σ H { s with heap:=b0 }:=I.turnedL (t':=s.toks) (its:=[z,TO,i1,i2]) (λc o G e=>(b2.2 c (λq=>G (by simp [q]))).trans (a7 c o (λq=>G (by simp [q])) (λq=>G (by simp [q])) (λq=>G (by simp [q])) (λq=>G (by simp [q])) e))
   λc G=>hf c (by simp at G ⊢; rcases G with rfl | rfl | rfl | rfl <;> simp)
  have b3:aZ b0 s.heap.objs.size ux uy:=(b2.2 _ (L9 c4)).trans a5;have Y:H s.heap.objs.size=zl:=b9;have I2:Inv X pins σ (upd H s.heap.objs.size (.tup [x,y])) { s with heap:=b0 }:=by
   refine ⟨I1.ok,I1.os,I1.bare,?_,I1.loc,I1.cell,?_,?_,?_,?_,I1.len⟩
   ·have u0:=I1.base;have old:∀ c o,X.s₀.heap.get? c=zo o->c≠s.heap.objs.size:=λc o e=>D8 (D1 (O7 e) I.sz)
    exact ⟨u0.keep,u0.slot,λc o e n hx=>by rw [Qa (old c o e)]; exact u0.free c o e n hx,u0.there,
     λc ts e=>by have:=u0.tups c ts e; rw [Qa (Qc this Y)]; exact this,
     λc o ts e=>by have:=u0.frzs c o ts e; rw [Qa (Qc this Y)]; exact this,
     λc ps e=>by obtain ⟨more,q⟩:=u0.tbls c ps e; exact ⟨more,by rw [Qa (Qc q Y)]; exact q⟩⟩
   ·rw [Qa (D8 I.lt)]; exact I.free
   ·intro x' c e;obtain ⟨v',q⟩:=I.cell x' c e;rw [Qa (D8 q.lt)]; exact I.freeC x' c e
   ·intro p' b7;obtain ⟨e,n,ne,nf,d⟩:=I1.pin p' b7;have e0:=(I.pin p' b7).1;exact ⟨e,by rw [Qa (D8 (O7 e0))]; exact n,ne,nf,d⟩
   ·intro c o q
    by_cases b6:c=s.heap.objs.size
    ·subst b6;rw [Qw] at q; cases q;exact ⟨by simp only [D3,cG]; rw [sizeLine_eq]; decide,[ux,uy],.cons c0 (.cons c5 .nil),⟨_,b3,rfl,0,rfl⟩⟩
    ·rw [Qa b6] at q;exact (I1.hok c o q).stay (λ_ _ _ r=>r) (λc' r=>by rw [Qa (Qc r Y)]; exact r) λc' ts r=>by rw [Qa (Qc r Y)]; exact r
  refine ⟨.ref s.heap.objs.size,_,I2,rfl,⟨s.heap.objs.size,x,y,Y,rfl,rfl,λd0 d1 q1 q2=>?_⟩,?_,λc G=>?_⟩
  ·rw [I.seqK_inj q1 a8,I.seqK_inj q2 Z]; exact ⟨hx,hy⟩
  ·exact ⟨b1,b2.extBut _ _ D.TIz (a7 _ _ D.TIz D.TITO D.TIi1 D.TIi2 J),⟨_,_,b2.extBut _ _ D.TOz a2⟩,a3.at λo e=>b2.extBut _ _ D.i1z e,a4.at λo e=>b2.extBut _ _ D.i2z e⟩
  ·have:=(hf c G).1;have c1:c < s.heap.objs.size:=by simp at G; rcases G with rfl | rfl | rfl | rfl | rfl <;> assumption
   rw [Qa (D8 c1)]; exact this
 done:=by
  intro X hP hw hK G i pins s σ H E I hf st hg;subst hP hw hK;obtain ⟨xs,ys,a8,Z,b5⟩:=hg;obtain ⟨hz,J,⟨u,v,O⟩,h1,h2⟩:=st;obtain ⟨its,rv,p,_⟩:=I.seqK a8;obtain ⟨b8,a9,p2,_⟩:=I.seqK Z;have l1:=rv.length;have l2:=a9.length;refine Q4q (I.ok.hd G) D hz J O h1 h2 p p2 (b5.elim (λh=>.inl (by simp; omega)) λh=>.inr (by simp; omega)) λh' kk=>⟨rfl,?_⟩
  exact I.turnedL (t':=s.toks) (its:=[z,TO,i1,i2]) (λc o G e=>kk c o (λq=>G (by simp [q])) (λq=>G (by simp [q])) (λq=>G (by simp [q])) (λq=>G (by simp [q])) e)
   λc G=>hf c (by simp at G ⊢; rcases G with rfl | rfl | rfl | rfl <;> simp)
 self:=λ_ _ _ _ _ st h=>wpAny_pyIter_zip st.1 h
def Qzx (K:bX) (t1 t2:Bool) (ta:TA):TI:=λσ H R=>ta σ H λvs H1=>∃ a b xs ys,vs=[.ref a,.ref b]/\SqK K t1 H1 a xs/\SqK K t2 H1 b ys/\R (Itz K t1 t2 a b) H1
theorem Qjw:aX "zip" = zo (.type "zip"):=by decide +kernel
theorem Qs4 (t1 t2:Bool) {a b:aH} {p pos:Pos} {G:List aH} {k:Nat} {tp:Pos} (hg:Gl X "zip") (hm:X.mg "zip" = zl) (ha:PA X [a,b] ta) (hs:aN [a,b] X.env=[(yo,aO a X.env),(yo,aO b X.env)]:=by rfl) (O:aN [b] X.env=[(yo,aO b X.env)]:=by rfl) :
  PI X (.Tuple G k tp) (.Call (.Name "zip" p) [a,b] [] pos) (Qzx X.K t1 t2 ta):=by
 intro pins s σ H R I h;refine Call_ (qu I hg hm Qjw (cw (thn (ha pos pins s σ H _ I h) λus s1 ⟨vs,H1,J,r1,Z⟩=>?_) (by rw [hs,O]) (by rw [O]; rfl)))
 obtain ⟨a',b',xs,ys,e,Z,q2,q⟩:=Z;subst e;cases r1 with
 | cons r rr=>
  cases rr with
  | cons r' rr=>
   cases rr;cases r;cases r';obtain ⟨its,rv,p1,_⟩:=J.seqK Z;obtain ⟨a1,a2,p2,_⟩:=J.seqK q2;refine Qf9 p1 p2 λh' z1 z2 z3 z4 z5 z6 z7=>?_
   refine wpAny_pyIter_zip (s:={ s1 with heap:=h' }) z1 ?_;have a4:a' < s1.heap.objs.size:=by obtain ⟨o,e⟩:=p1.there; exact O7 e
   have a3:b' < s1.heap.objs.size:=by obtain ⟨o,e⟩:=p2.there; exact O7 e
   have D:ZipApart (s1.heap.objs.size + 4) (s1.heap.objs.size + 2) (s1.heap.objs.size + 3) s1.heap.objs.size (s1.heap.objs.size + 1) a' b':=by
    constructor <;> (intro z; unfold aB at*; omega)
   refine ⟨_,[s1.heap.objs.size + 4,s1.heap.objs.size + 2,s1.heap.objs.size + 3,s1.heap.objs.size,s1.heap.objs.size + 1],_,_,H1,rfl,J.kept (t':=s1.toks) z7,Qfr (t1:=t1) (t2:=t2) D,⟨z1,z2,⟨_,_,z3⟩,z4,z5⟩,λc hc=>?_,q⟩
   have Y:s1.heap.objs.size<=c:=by simp at hc; unfold aB at*; omega
   exact J.fpOk Y (J.hok.fresh Y)
theorem Qqr {prog:aK} {w:aJ} (O:A.handled=zl) (t:Bool) (I G:aB) (J:G≠I) (q:Array aA) :
  Walks prog w A I [I,G] [I] q.size (λi v=>q[i]?=zo v) (λi h=>IterAt t h I G i/\HasItems t h G q):=by
 cases t
 ·exact Walks.list O I G J q
 ·exact Walks.tuple O I G J q
theorem Inv.movedNew {s':aC} (I:Inv X pins σ H s) {o:Obj} (m:Moved [s.heap.objs.size] (λa b=>b=a) { s with heap:=s.heap.push o } s'):Inv X pins σ H s':=by
 obtain ⟨m1,G,Z,J,m5⟩:=m;obtain ⟨h',g',d',t',o'⟩:=s';have O:g'=s.gens:=G;have q:d'=s.drawn:=Z;have Y:o'=s.os:=J;subst O q Y;refine I.kept (t':=t') λb u e=>m1 b u (λz=>?_) (O1 _ e)
 have:b=s.heap.objs.size:=by simpa using z
 exact absurd (O7 e) (by rw [this]; exact L4 _)
theorem Qff {bs:List Bool} {its:List aA} (r:Vals (bs.map V.bl) its):∀ (i:Nat) (v:aA),its.toArray[i]?=zo v->v=cm (bs.getD i yo):=λi v e=>by
 have G:its[i]?=zo v:=by simpa using e
 have hi:i < its.length:=(O3.mp G).1;have I:=r.length;rw [O0] at I;have J:(bs.map V.bl)[i]?=zo (V.bl (bs.getD i yo)):=by
  have:i < bs.length:=by omega
  simp [du,this]
 obtain ⟨u,q,ru⟩:=r.get J;rw [G] at q;cases q;exact ru
theorem Q74 {t:Bool} {q:Array aA} (I:HasItems t s.heap l q):l≠s.heap.objs.size /\
  (IterAt t (s.heap.push (Wq t l)) s.heap.objs.size l 0/\HasItems t (s.heap.push (Wq t l)) l q)/\∀ b∈[s.heap.objs.size,l],b < (s.heap.push (Wq t l)).objs.size:=by
 obtain ⟨o,e⟩:=I.there;have G:=O7 e;refine ⟨D8 G,⟨y9 (O9 _ (Kb _ _)),I.at λo e=>O1 _ e⟩,λb J=>?_⟩
 rw [F1];simp at J;rcases J with rfl | rfl
 ·exact dE _
 ·exact cu G
theorem Qe3 (bs:List Bool):(bY bs.length).all (λi=>bs.getD i yo)=bs.all id:=by
 induction bs with
 | nil=>rfl
 | cons b r q=>
  rw [D3,fL,bz,bu,bz,<- q];rfl
theorem Qjs (t:Bool) (hc:X.calm=zb):Wz X (.builtin "all") (λxs H Q=>∃ (a:aB) (bs:List Bool),xs=[.ref a]/\SqK X.K t H a (bs.map V.bl)/\Q (.bl (bs.all id)) H):=by
 intro pins s σ H xs us Q I r h;obtain ⟨a,bs,rfl,O,q⟩:=h;obtain ⟨u,rfl,r1⟩:=Uq r;cases r1;obtain ⟨its,J,p,_⟩:=I.seqK O;obtain ⟨w1,w2,w3⟩:=Q74 p;have G:=J.length;rw [O0] at G;refine call_all_walkS (zk p ⟨_,_,_,_,_,_,_,λj=>bs.getD j yo,rfl,(Qqr (A:=X.A.in1) (I.ok.hd hc) t _ a w1 its.toArray).toS,w2,λi v s' Q' E' Z Y=>?_,λs' m=>?_⟩)
 ·rw [Qff J i v Z];exact bF Y
 ·refine ⟨.bl (bs.all id),H,I.movedNew m,?_,q⟩;show cm _=_;rw [D0,<- G,Qe3]
theorem Qu3 {prog:aK} {w:aJ} (Y:A.handled=zl) (t:Bool) (it l:aB) (J:l≠it) (q:Array aA) :
  Draws prog w A it [it,l] q.size (λi v=>q[i]?=zo v) (λi h=>IterAt t h it l i/\HasItems t h l q) where
 live:=λ_ _ st=>let ⟨o,e,_⟩:=st.1.there; ⟨o,e⟩
 frame:=λ_ _ _ st O=>⟨st.1.at λo e=>O it (by simp) o e,st.2.at λo e=>O l (by simp) o e⟩
 item:=λi s Q E hi st Z=>by
  refine Uv st.1 st.2 (x:=q[i]) (by simp [hi]) λh' G I=>?_
  exact Z _ h' s.toks (by simp [hi]) ⟨G,st.2.at λo e=>I.extBut _ _ J e⟩ I
 done:=λs Q E st hE=>K8 Y st.1 st.2 (by simp) hE
theorem Q8y (l:aB) (q:Array aA) (n:Nat) (J:Option aB) (Y:Array (Option aA)) :
  Meets (Builtin.«enumerate.__new__» ⟨[.type "enumerate",.ref l],[]⟩) (λ_ R s=>s.heap.get? l=zo { cls:=.type "tuple",dict:=J,data:=.seq q n,slots:=Y } /\
   R (.ok (.ret (.ref (s.heap.push { cls:=.type "tuple_iterator",data:=.fields #[.ref l,.int 0 0] }).objs.size)))
    { s with heap:=(s.heap.push { cls:=.type "tuple_iterator",data:=.fields #[.ref l,.int 0 0] }).push { cls:=.type "enumerate",data:=.fields #[.none,.bool yo,.ref s.heap.objs.size,aU 0,.none,.none] } }):=
 .of_wp λprog w A R s h=>by
  obtain ⟨Z,g,d,tk,os⟩:=s; obtain ⟨G,h⟩:=h;have O:=sub_enumerate;have I:Heap.IsTuple (Shared.heap ⟨Z,g,d,tk,os⟩) l q:=⟨_,G,rfl,n,rfl⟩
  wp_walk using AutoSeq1.wpAny_loadPart' G
  refine wpAny_stack_any λst=>wpAny_pure ?_
  split
  ·rename_i c _ _ _ _ _;cases (c == bj "enumerate")
   ·wp_walk using AutoSeq1.wpAny_loadPart' G,bO I
    exact ⟨_,rfl,h⟩
   ·wp_walk using AutoSeq1.wpAny_loadPart' G,bO I
    exact ⟨_,rfl,h⟩
  ·wp_walk using AutoSeq1.wpAny_loadPart' G,bO I
   exact ⟨_,rfl,h⟩
section
variable {w:aJ}
theorem Qbn {q:Array aA} {Q:zAD} (J:s.heap.IsTuple l q)
  (h:∀ h',IsEnum h' (s.heap.objs.size + 1) s.heap.objs.size 0 .none->h'.IsTupleIter s.heap.objs.size l 0->h'.objs.size=s.heap.objs.size + 2 ->
   (∀ b o,s.heap.get? b=zo o->h'.get? b=zo o)->Q (.ref (s.heap.objs.size + 1)) { s with heap:=h' }) :
  aF (aI prog w) A (call (.type "enumerate") [.ref l]) Q E s:=by
 obtain ⟨⟨c,G,O,Y⟩,hl,hc,n,hd⟩:=J;replace hc:c=.type "tuple" := hc;replace hd:O=.seq q n:=hd;subst hc hd;refine callType_new F.called_enumerate (by decide) (F.typeCall_enumerate_1 _) (F.newCall_enumerate_1 _) (λobj=>F.args_object_init_2 obj _) F.entry_enumerate_new
  (Q8y l q n G Y) ⟨hl,?_⟩
 have hz:(s.heap.push { cls:=.type "tuple_iterator",data:=.fields #[.ref l,.int 0 0] }).objs.size=s.heap.objs.size + 1:=F1 ..;show _/\_;rw [hz];have I:IsEnum ((s.heap.push { cls:=.type "tuple_iterator",data:=.fields #[.ref l,.int 0 0] }).push
   { cls:=.type "enumerate",data:=.fields #[.none,.bool yo,.ref s.heap.objs.size,aU 0,.none,.none] }) (s.heap.objs.size + 1) s.heap.objs.size 0 .none:=by
  have:=O9 (s.heap.push { cls:=.type "tuple_iterator",data:=.fields #[.ref l,.int 0 0] })
   (o:={ cls:=.type "enumerate",data:=.fields #[.none,.bool yo,.ref s.heap.objs.size,aU 0,.none,.none] }) rfl
  rw [hz] at this; exact this
 refine ⟨⟨_,I,rfl⟩,h _ I ⟨_,O1 _ (O9 _ rfl),rfl,rfl⟩ (by rw [F1,hz]) λb o x=>O1 _ (O1 _ x)⟩
theorem Qbp {t:Bool} {q:Array aA} {Q:zAD} (G:HasItems t s.heap l q)
  (h:∀ h',IsEnum h' (s.heap.objs.size + 1) s.heap.objs.size 0 .none->IterAt t h' s.heap.objs.size l 0->h'.objs.size=s.heap.objs.size + 2 ->
   (∀ b o,s.heap.get? b=zo o->h'.get? b=zo o)->Q (.ref (s.heap.objs.size + 1)) { s with heap:=h' }) :
  aF (aI prog w) A (call (.type "enumerate") [.ref l]) Q E s:=by
 cases t
 ·exact call_enumerate_list G h
 ·exact Qbn G h
end
def Ite (K:bX) (t:Bool) (a:aB):It:=
 ⟨λi H=>∃ xs x,SqK K t H a xs/\xs[i]?=zo x,
  λi H v H'=>∃ p x,H p=zl/\v=.ref p/\H'=upd H p (.tup [.int i,x])/\∀ xs,SqK K t H a xs->xs[i]?=zo x,
  λi H=>∃ xs,SqK K t H a xs/\xs.length<=i⟩
theorem Inv.tracks {s1:aC} {p:aB} {its:List aA} (I:Inv X pins σ H s) (G:Inv X pins σ H s1) (hp:s.heap.objs.size<=p) (J:H p=zl) (rv:Vals xs its) (hz:xs.length<=sizeLine)
  (ht:IsTup s1.heap p its.toArray):Inv X pins σ (upd H p (.tup xs)) s1:=by
 refine ⟨G.ok,G.os,G.bare,?_,G.loc,G.cell,?_,?_,?_,?_,G.len⟩
 ·have u0:=G.base;have old:∀ c o,X.s₀.heap.get? c=zo o->c≠p:=λc o e=>D8 (D1 (O7 e) (D9 I.sz hp))
  exact ⟨u0.keep,u0.slot,λc o e n hx=>by rw [Qa (old c o e)]; exact u0.free c o e n hx,u0.there,
   λc Z e=>by have:=u0.tups c Z e; rw [Qa (Qc this J)]; exact this,
   λc o Z e=>by have:=u0.frzs c o Z e; rw [Qa (Qc this J)]; exact this,
   λc ps e=>by obtain ⟨more,q⟩:=u0.tbls c ps e; exact ⟨more,by rw [Qa (Qc q J)]; exact q⟩⟩
 ·rw [Qa (D8 (D1 I.lt hp))]; exact I.free
 ·intro x' c e;obtain ⟨v',q⟩:=I.cell x' c e;rw [Qa (D8 (D1 q.lt hp))]; exact I.freeC x' c e
 ·intro p' O;obtain ⟨e,n,ne,nf,d⟩:=G.pin p' O;have e0:=(I.pin p' O).1;exact ⟨e,by rw [Qa (D8 (D1 (O7 e0) hp))]; exact n,ne,nf,d⟩
 ·intro c o q
  by_cases Y:c=p
  ·subst Y;rw [Qw] at q; cases q;exact ⟨hz,its,rv,ht⟩
  ·rw [Qa Y] at q;exact (G.hok c o q).stay (λ_ _ _ r=>r) (λc' r=>by rw [Qa (Qc r J)]; exact r) λc' Z r=>by rw [Qa (Qc r J)]; exact r
def Qu0 (t:Bool) (e it a:aB) (i:Nat) (h:Heap):Prop:=(∃ old,IsEnum h e it i old)/\IterAt t h it a i
theorem Qdq {P:aK} {w:aJ} {K:bX} {a6:List aH} {k:Nat} {pos:Pos} {t:Bool} {e:aB} (a1:e≠it) (a9:a≠e) (b0:a≠it) :
  Turn P w K (.Tuple a6 k pos) (Ite K t a) [e,it] e (Qu0 t e it a) where
 mem:=by simp
 obj:=λi h st c hc=>by
  obtain ⟨⟨old,O⟩,h1⟩:=st;simp at hc;rcases hc with rfl | rfl
  ·exact ⟨_,O,λv q=>by cases q⟩
  ·exact h1.there
 keep:=λi h h' st kk=>by
  obtain ⟨⟨old,O⟩,h1⟩:=st;exact ⟨⟨old,kk e (by simp) _ O⟩,h1.at λo q=>kk it (by simp) o q⟩
 item:=by
  intro X hP hw hK hc i pins s σ H E I hf st hg;subst hP hw hK;obtain ⟨xs,x,Y,hx⟩:=hg;obtain ⟨⟨old,O⟩,h1⟩:=st;obtain ⟨its,rv,p,_⟩:=I.seqK Y;obtain ⟨ux,a8,b1⟩:=rv.get hx;have b4:i < its.toArray.size:=by rw [D0]; exact (O3.mp a8).1
  refine wpAny_pyNext_enum_itemD (Qu3 (A:=X.A.in1) (I.ok.hd hc) t it a b0 its.toArray) O ⟨h1,p⟩ b4 a1 (by simp; exact ⟨a1,λz=>a9 z.symm⟩) λx' h' tk a4 ho b2 hT hsz hk=>⟨_,rfl,?_⟩
  have:x'=ux:=by
   have e1:its[i]?=zo x':=by simpa using a4
   rw [a8] at e1; exact (bn e1).symm
  subst this;refine wpAny_letOwnedTupleGo_enum (s:={ s with heap:=h',toks:=tk + 1 }) ho λa7 a3 J=>?_
  have elt:e < s.heap.objs.size:=O7 O;have b7:it < s.heap.objs.size:=by obtain ⟨o,q,_⟩:=h1.there; exact O7 q
  have a5:H s.heap.objs.size=zl:=I.fresh;have I1:Inv X pins σ H { s with heap:=a7,toks:=tk + 1 }:=I.turnedL (its:=[e,it]) (λc o G q=>(J.2 c (λz=>G (by simp [z]))).trans (hk c o (λz=>G (by simp [z])) (λz=>G (by simp [z])) q)) λc G=>hf c G
  have a2:a7.get? s.heap.objs.size=zo { cls:=.type "tuple",data:=.seq #[.int i tk,x'] }:=(J.2 _ (L9 elt)).trans hT;have I2:=I.tracks (xs:=[.int i,x]) (its:=[.int i tk,x']) I1 (O5 _) a5 (.cons ⟨tk,rfl⟩ (.cons b1 .nil)) (by simp only [D3,cG]; rw [sizeLine_eq]; decide) ⟨_,a2,rfl,0,rfl⟩;refine ⟨.ref s.heap.objs.size,_,I2,rfl,⟨s.heap.objs.size,x,a5,rfl,rfl,λb6 q1=>?_⟩,?_,λc G=>?_⟩
  ·rw [I.seqK_inj q1 Y]; exact hx
  ·exact ⟨⟨x',by simpa using a3⟩,b2.1.at λo q=>J.extBut _ _ (Ne.symm a1) q⟩
  ·have:=(hf c G).1;have b3:c < s.heap.objs.size:=by simp at G; rcases G with rfl | rfl <;> assumption
   rw [Qa (D8 b3)]; exact this
 done:=by
  intro X hP hw hK hc i pins s σ H E I hf st hg;subst hP hw hK;obtain ⟨xs,Y,b5⟩:=hg;obtain ⟨⟨old,O⟩,h1⟩:=st;obtain ⟨its,rv,p,_⟩:=I.seqK Y;have hl:=rv.length;have hT:s.TypeIs (.ref e) "enumerate" := ⟨_,O,rfl⟩;unfold af;refine aD (wpAny_attempt (wpAny_callSpecial?_slot (name:=cE "__next__") hT F.slot_enumerate_next
   (ah F.slot_enumerate_next hT F.entry_enumerate_next ?_ (F.args_enumerate_next_1 _))))
  show aF _ _ (field (.ref e) 2 >>= _) _ _ _;refine aD (ag O rfl (x:=.ref it) rfl ?_);refine aD (K8 (I.ok.hd hc) h1 p (by simp; omega) λh' x a3 a4=>?_)
  obtain ⟨o,ho,G⟩:=a4;refine aD (bJ (T := "StopIteration") (b:=zb) ⟨o,ho,G⟩ isSubtype_stop ?_);exact wpAny_pure ⟨rfl,I.turnedL (t':=s.toks) (its:=[it]) (λc o Z q=>a3 c o (λz=>Z (by simp [z])) q) λc Z=>hf c (by simp at Z; simp [Z])⟩
 self:=λ_ _ _ _ _ st h=>by
  obtain ⟨⟨old,O⟩,_⟩:=st;exact wpAny_pyIter_enum O h
def Qx8 (K:bX) (t:Bool) (ta:TA):TI:=λσ H R=>ta σ H λvs H1=>∃ a xs,vs=[.ref a]/\SqK K t H1 a xs/\R (Ite K t a) H1
theorem Q4a:aX "enumerate" = zo (.type "enumerate"):=by decide +kernel
theorem Qmt (t:Bool) {a:aH} {p pos:Pos} {G:List aH} {k:Nat} {tp:Pos} (hg:Gl X "enumerate") (hm:X.mg "enumerate" = zl) (ha:PA X [a] ta) (hs:aN [a] X.env=[(yo,aO a X.env)]:=by rfl) :
  PI X (.Tuple G k tp) (.Call (.Name "enumerate" p) [a] [] pos) (Qx8 X.K t ta):=by
 intro pins s σ H R I h;refine Call_ (qu I hg hm Q4a (cw (thn (ha pos pins s σ H _ I h) λus s1 ⟨vs,H1,Y,r1,Z⟩=>?_) hs rfl))
 obtain ⟨a',xs,e,Z,q⟩:=Z;subst e;obtain ⟨u,rfl,r⟩:=Uq r1;cases r;obtain ⟨its,rv,p1,_⟩:=Y.seqK Z;refine Qbp p1 λh' z1 z2 z3 z4=>?_
 refine wpAny_pyIter_enum (s:={ s1 with heap:=h' }) z1 ?_;have J:a' < s1.heap.objs.size:=by obtain ⟨o,e⟩:=p1.there; exact O7 e
 refine ⟨_,[s1.heap.objs.size + 1,s1.heap.objs.size],_,_,H1,rfl,Y.kept (t':=s1.toks) z4,Qdq (t:=t) (L9 (dE _)) (D8 (cu J)) (D8 J),⟨⟨_,z1⟩,z2⟩,λc hc=>?_,q⟩
 have O:s1.heap.objs.size<=c:=by simp at hc; unfold aB at*; omega
 exact Y.fpOk O (Y.hok.fresh O)
theorem Q84 {o:HO} (h:H a=zl):Same H (upd H a o):=λb u e=>by rw [Qa (Qc e h)]; exact e
variable {te:TE} {H1:Hp} {Q:VK}
section
variable {cap:zAC}
abbrev g2 (K:bX):TG:=Qxd K 2 (Qj5 (Q9e 0) (Qj5 (Q9e 1) Qxe))
end
def Qxt:V->Option aA
 | .ty n=>zo (.type n)
 | .ref a=>zo (.ref a)
 | _=>zl
theorem Qjm {c:V} {q u:aA} (e:Qxt c=zo q) (r:RelV c u):u=q:=by
 cases c with
 | ty n=>cases e; exact r
 | ref a=>cases e; exact r
 | _=>cases e
theorem Q9y:Wz X (.builtin "isinstance") (λxs H Q=>∃ x c G t b,xs=[x,c]/\Qxt c=zo G/\TyOf X.K H x t/\eu X.K t G=zo b/\Q (.bl b) H):=by
 intro pins s σ H xs us Q I r h;obtain ⟨x,c,G,t,b,rfl,O,ty,e,q⟩:=h;obtain ⟨u,w',rfl,Y,Z⟩:=Qv6 r;rw [Qjm O Z];exact Qex I Y ty e λJ=>⟨.bl b,H,I.tok J,rfl,q⟩
theorem Q1m:aX "isinstance" = zo (.builtin "isinstance"):=by decide +kernel
theorem Qk0:aX "all" = zo (.builtin "all"):=by decide +kernel
theorem yd:aX "tuple" = zo (.type "tuple"):=by decide +kernel
theorem Xw:aX "list" = zo (.type "list"):=by decide +kernel
theorem Qjz:aX "int" = zo (.type "int"):=by decide +kernel
theorem Qfe:aX "bool" = zo (.type "bool"):=by decide +kernel
theorem Qjx:aX "str" = zo (.type "str"):=by decide +kernel
end L2
namespace L2
open PySem PySem.Spec PyProof.Rows PySem.W PySem.Builtin.Getset_descriptor
end L2
namespace L2
open PySem PySem.Spec PyProof.Rows
variable {P:aK} {H:Hp} {h:Heap} {a:aB} {cl:List (Str × aB)}
theorem ObjOk.there {w:aJ} {o:HO} (x:ObjOk P w H h a o):∃ u,h.get? a=zo u:=by
 cases o with
 | lst xs=>obtain ⟨_,_,_,_,e⟩:=x; exact ⟨_,e⟩
 | tup xs=>obtain ⟨_,_,_,o,e,_⟩:=x; exact ⟨o,e⟩
 | dK q=>obtain ⟨_,_,_,_,o,_,_,e,_⟩:=x; exact ⟨o,e⟩
 | dT q=>obtain ⟨_,_,_,_,o,_,_,e,_⟩:=x; exact ⟨o,e⟩
 | set S n=>obtain ⟨o,_,_,_,e,_⟩:=x; exact ⟨o,e⟩
 | ins C dx fs=>obtain ⟨_,_,_,e,_⟩:=x; exact ⟨_,e⟩
 | own y=>exact x
 | xd fs=>obtain ⟨_,⟨o,_,_,e,_⟩,_⟩:=x; exact ⟨o,e⟩
 | rng lo hi=>obtain ⟨_,_,_,e⟩:=x; exact ⟨_,e⟩
 | frz ob u=>obtain ⟨e,_⟩:=x; exact ⟨_,e⟩
 | tbl ps=>exact ⟨_,x⟩
 | met f y=>exact ⟨_,x⟩
 | ext G=>exact x.2.1
theorem HOk.none_of {w:aJ} (x:HOk P w H h) (e:h.get? a=zl):H a=zl:=by
 cases q:H a with
 | none=>rfl
 | some o=>
  obtain ⟨u,z⟩:=(x a o q).there;rw [e] at z;cases z
structure Fly (P:aK) (w:aJ) (outer:List Env) (H H':Hp) (s s':aC) (a:aB) (cls a0:aA) (B:Heap):Prop where
 os:s'.os=s.os
 bare:AllBare s'.gens
 fl:Heap.FlyingW B outer a cls a0 s'.heap
 hokB:HOk P w H' B
 keep:∀ b o,s.heap.get? b=zo o->H b=zl->b∉frs outer->B.get? b=zo o
 there:∀ b o,s.heap.get? b=zo o->b∉frs outer->∃ o',B.get? b=zo o'
 slot:∀ b o,s.heap.get? b=zo o->b∈frs outer->∃ sl,s'.heap.get? b=zo { o with slots:=sl }
 free:∀ b o,s.heap.get? b=zo o->H b=zl->H' b=zl
 tups:∀ b xs,H b=zo (.tup xs)->H' b=zo (.tup xs)
 frzs:∀ b o u,H b=zo (.frz o u)->H' b=zo (.frz o u)
 tbls:∀ b ps,H b=zo (.tbl ps)->∃ more,H' b=zo (.tbl (ps ++ more))
@[inline,reducible]def Qa1:List aA:=[.type "ValueError",.type "Exception",.type "BaseException",.type "object"]
theorem Qn1 {K:bX} {C:aB} {I:List aA} {G:String} {x:Str} {mg:zAE} (X:K.In h) (m:mg x=zo (.ref C)) (q:cK K C I G=zb):OwnCls x C I G mg h:=by
 refine ⟨m,?_⟩;unfold cK at q
 split at q
 ·rename_i dd cd O ho
  split at q
  ·rename_i C' bm k0 k1 k2 k3 n k5 hm hs;simp only [E4,beq_iff_eq,Bool.not_eq_true'] at q;obtain ⟨⟨⟨⟨⟨rfl,rfl⟩,hdel⟩,ht⟩,hok⟩,hni⟩:=q;obtain ⟨nm,bs,Y,ns,qn,hd,sn,sub,ab,col,Z⟩:=cd;dsimp only at hm hdel hok hni;subst hm hdel;have J:O=#[k0,k1,k2,k3,zo (.builtin n),k5]:=by
    obtain ⟨l⟩:=O;simp only at hs;rw [hs]
   subst J;exact ⟨bm,ns,nm,qn,bs,hd,sn,sub,ab,col,dd,k0,k1,k2,k3,k5,_,X _ _ ho,.of_isNs (PySem.W.isNs_of_in X hok),PySem.W.nsMap_none_of_in X hok hni,PySem.W.tail_of_in X ht⟩
  ·cases q
 ·cases q
variable {X:Cx}
def Qqw (C:aB) (E:XK) (t:TA):TS:=λ_ σ H=>t σ H λvs H1=>vs.length<=sizeLine/\E (.ref C) zl H1
theorem Q28 (l:aB) (q:Array aA) (n:Nat) (dd:Option aB) (I:Array (Option aA)) (t:Tok) :
  Meets (Builtin.«tuple.__mul__» ⟨[.ref l,.int 1 t],[]⟩) (λ_ R s=>s.heap.get? l=zo { cls:=.type "tuple",dict:=dd,data:=.seq q n,slots:=I }/\R (.ok (.ret (.ref l))) s):=
 .of_wp λprog w A R s h=>by
  obtain ⟨J,g,d,O,os⟩:=s; obtain ⟨G,h⟩:=h
  wp_walk using wpAny_loadPart' G
  exact ⟨_,rfl,h⟩
theorem Q29 (l:aB) (q:Array aA) (n:Nat) (dd:Option aB) (O:Array (Option aA)) (x:Int) (t:Tok) (h1:¬ (decide (x < -(2 ^ 63)) || decide (x>=2 ^ 63))=zb) (h2:¬ (q.isEmpty || x == 1)=zb) (h3:¬ (decide (x<=0) || q.isEmpty)=zb) (I:¬ (q.size:Int) * x > (2 ^ 63 - 1) / 8) (Y:¬ Builtin.Tuple.tupleTooMany ((q.size:Int) * x)=zb)
  (J:((bc x.toNat q).foldl (λx1 x2=>x1 ++ x2) #[]).size<=sizeLine) :
  Meets (Builtin.«tuple.__mul__» ⟨[.ref l,.int x t],[]⟩) (λ_ R s=>s.heap.get? l=zo { cls:=.type "tuple",dict:=dd,data:=.seq q n,slots:=O } /\
   R (.ok (.ret (bZ s.heap.objs.size))) { s with heap:=s.heap.push { cls:=bj "tuple",data:=Data.seq ((bc x.toNat q).foldl (λx1 x2=>x1 ++ x2) #[]) } }):=
 .of_wp λprog w A R s h=>by
  obtain ⟨Z,g,d,tk,os⟩:=s; obtain ⟨G,h⟩:=h
  wp_walk using wpAny_loadPart' G
  refine wpAny_ite_false (bV h1) ?_
  wp_walk using wpAny_loadPart' G
  refine wpAny_ite_false (bV I) ?_
  wp_walk using wpAny_loadPart' G
  all_goals first | exact ⟨_,rfl,h⟩ | (refine wpAny_ite_false (bV Y) ?_; wp_walk) | skip
  all_goals first | exact ⟨_,rfl,h⟩ | (refine wpAny_ite_false (bV (gS.mpr J)) ?_; wp_walk; exact ⟨_,rfl,h⟩)
theorem Q3v (a:Int) (t:Tok) (l:aB) (q:Array aA) (n:Nat) (dd:Option aB) (I:Array (Option aA)) :
  Meets (Builtin.«int.__rmul__» ⟨[.int a t,.ref l],[]⟩) (λ_ R s=>s.heap.get? l=zo { cls:=.type "tuple",dict:=dd,data:=.seq q n,slots:=I }/\R (.ok (.ret fC)) s):=
 .of_wp λprog w A R s h=>by obtain ⟨J,g,d,O,os⟩:=s; obtain ⟨G,h⟩:=h; wp_walk using wpAny_loadPart' G; exact ⟨_,rfl,h⟩
theorem Q08:fillsNumberSlot (.type "tuple") "mul" = pure yo:=
 PySem.fillsNumberSlot_seq (id := "tuple.__mul__") (r:=zo (.builtin "tuple.__rmul__")) F.slot_tuple_mul.lookup (by decide +kernel) F.slot_tuple_rmul.lookup (by decide +kernel)
theorem Q6d:seqRepeat? (.type "tuple")=pure (zo (.builtin "tuple.__mul__")):=by
 unfold seqRepeat?;rw [gT (T := "tuple") (name := "__mul__") (id := "tuple.__mul__") F.slot_tuple_mul.lookup (by decide +kernel),gT (T := "tuple") (name := "__rmul__") (id := "tuple.__rmul__") F.slot_tuple_rmul.lookup (by decide +kernel)];rfl
def Qvu (K:bX):R2:=λx y H Q=>∃ a k xs,x=.ref a/\y=.int k/\SqT K H a xs/\xs≠[]/\1<=k/\xs.length * k.toNat<=4096 /\
 (k=1->Q (.ref a) H)/\(k≠1->∀ p,H p=zl->Q (.ref p) (upd H p (.tup (bc k.toNat xs).flatten)))
theorem Qn7:OpR X (ae .Mult) (Qvu X.K):=by
 intro pins s σ H x y v u Q I rx ry h;obtain ⟨a,k,xs,rfl,rfl,ha,Z,hk,hz,q1,q2⟩:=h;cases rx;obtain ⟨t,rfl⟩:=ry;obtain ⟨its,r,p1,hs⟩:=I.tuple ha;obtain ⟨⟨cls,dd,data,O⟩,ho,hc,n,hd⟩:=id p1;simp only at hc hd;subst hc hd;have hl:its.length=xs.length:=r.length.symm;have G:0 < its.length:=by rw [hl]; exact List.length_pos_iff.mpr Z
 have a1:k.toNat<=4096:=by
  have:1 * k.toNat<=xs.length * k.toNat:=Nat.mul_le_mul_right _ (by omega);omega
 refine wpAny_binaryOp_repeat_ref (T := "tuple") (U := "int") (by decide) ⟨_,ho,rfl⟩ (λs'=>typeIs_int s' k t) Q08 F.fills_int_mul F.slot_int_rmul Q6d F.slot_int_index.lookup
  (bI F.slot_int_rmul (typeIs_int s k t) F.entry_int_rmul (F.args_int_rmul_2 _ _) (Q3v k t a its.toArray n dd O)
   ⟨ho,rfl,⟨_,ho,rfl⟩,?_⟩)
 by_cases h1:k=1
 ·subst h1;exact bI F.slot_tuple_mul ⟨_,ho,rfl⟩ F.entry_tuple_mul (F.args_tuple_mul_2 _ _) (Q28 a its.toArray n dd O t) ⟨ho,⟨.ref a,H,I,rfl,q1 rfl⟩⟩
 ·have f0:cI (λx1 x2=>x1 ++ x2) #[] (bc k.toNat its.toArray)=(bc k.toNat its).flatten.toArray:=by
   have:=Q0m its k.toNat [];rw [fG] at this;exact this
  have J:(its.toArray.size:Int) * k=((its.length * k.toNat:Nat):Int):=by
   rw [D0,Int.natCast_mul,dw (by omega)]
  have Y:(bc k.toNat its).flatten.length<=4096:=by rw [Q71,hl,dl]; exact hz
  have hb:its.length * k.toNat<=4096:=by rw [hl]; exact hz
  refine bI F.slot_tuple_mul ⟨_,ho,rfl⟩ F.entry_tuple_mul (F.args_tuple_mul_2 _ _) (Q29 a its.toArray n dd O k t ?_ ?_ ?_ ?_ ?_ ?_) ⟨ho,?_⟩
  ·rw [bV (by omega),bV (by omega)]; exact D2
  ·intro z;rcases gU.mp z with z | z
   ·rw [gV,gW] at z; rw [z] at G; simp at G
   ·exact h1 (eq_of_beq z)
  ·intro z;rcases gU.mp z with z | z
   ·have:=of_decide_eq_true z; omega
   ·rw [gV,gW] at z; rw [z] at G; simp at G
  ·rw [J]; omega
  ·rw [J];have:(4096:Int)<=sizeLine:=by decide
   show ¬ decide (((its.length * k.toNat:Nat):Int) > (sizeLine:Int))=zb;rw [bV (by omega)]; exact D2
  ·rw [f0,D0]; exact D9 Y (by decide)
  ·rw [f0];refine ⟨.ref s.heap.objs.size,_,I.laid (t':=s.toks) (o:=.tup (bc k.toNat xs).flatten) (λb ob q=>O1 _ q) (O5 _) ?_,rfl,q2 h1 _ (I.hok.fresh (O5 _))⟩;exact ⟨by rw [Q71,dl]; exact D9 hz (by decide),_,r.rep k.toNat,IsTup.new _ _⟩
variable {pins:zAA} {s:aC} {σ:St} {H:Hp}
open PySem.SeqAt
theorem Qhu:OpR X (aS .Is) (λx y H Q=>∃ b c,x=.bl b/\y=.bl c/\Q (.bl (b == c)) H):=by
 intro pins s σ H x y v u Q I J G h;obtain ⟨b,c,rfl,rfl,q⟩:=h;cases J;cases G;exact il ⟨.bl _,H,I,rfl,q⟩
theorem Q8m:OpR X (aS .IsNot) (λx y H Q=>∃ b c,x=.bl b/\y=.bl c/\Q (.bl (b != c)) H):=by
 intro pins s σ H x y v u Q I J G h;obtain ⟨b,c,rfl,rfl,q⟩:=h;cases J;cases G;exact im ⟨.bl _,H,I,rfl,q⟩
theorem Wu:∀ (names:List (Str × ay)) (h:Heap) (acc:List (Str × aB)) (x:Str) (c:aB),(ao h.objs.size names acc).lookup x=zo c ->
  acc.lookup x=zo c\/((x,NameKind.cell)∈names/\h.objs.size<=c/\(pushCells h names).IsCell c zl)
 | [],_,_,_,_,e=>.inl e
 | (name,kind) :: r,h,acc,x,c,e=>by
  unfold ao at e;unfold pushCells
  by_cases O:(kind == NameKind.cell)=zb
  ·rw [bT O] at e ⊢;have I:kind=.cell:=by simpa using O
   have Z:=Wu r (h.push { cls:=.type "cell",data:=.cell zl }) ((name,h.objs.size) :: acc) x c (by rw [F1]; exact e);rw [F1] at Z;rcases Z with z | ⟨J,Y,G⟩
   ·rw [cJ] at z;cases q:x == name with
    | true=>
     rw [q] at z; cases z;exact .inr ⟨by rw [beq_iff_eq.mp q,I]; exact F4,O5 _,⟨_,pushCells_keeps _ _ _ _ (O9 _ rfl),rfl⟩⟩
    | false=>rw [q] at z; exact .inl z
   ·exact .inr ⟨O4 _ J,by omega,G⟩
  ·rw [bU O] at e ⊢;rcases Wu r h acc x c e with z | ⟨J,Y,G⟩
   ·exact .inl z
   ·exact .inr ⟨O4 _ J,Y,G⟩
theorem Vi {x:Str}:∀ (names:List (Str × ay)) (n:Nat) (acc:List (Str × aB)),(x,NameKind.cell)∉names->(ao n names acc).lookup x=acc.lookup x
 | [],_,_,_=>rfl
 | (name,kind) :: r,n,acc,h=>by
  unfold ao;have G:(x,NameKind.cell)∉r:=λz=>h (O4 _ z)
  by_cases q:(kind == NameKind.cell)=zb
  ·rw [bT q,Vi r _ _ G,cJ];cases I:x == name with
   | true=>exact absurd (by rw [beq_iff_eq.mp I,show kind=.cell by simpa using q]; exact F4) h
   | false=>rfl
  ·rw [bU q,Vi r _ _ G]
theorem Xh {x:Str} {c:aB}:∀ (names:List (Str × ay)) (n:Nat) (acc:List (Str × aB)),(x,NameKind.cell)∈names->(ao n names acc).lookup x=zo c->n<=c
 | [],_,_,h,_=>by cases h
 | (name,kind) :: r,n,acc,h,e=>by
  unfold ao at e
  by_cases G:(x,NameKind.cell)∈r
  ·by_cases I:(kind == NameKind.cell)=zb
   ·rw [bT I] at e;exact Nat.le_of_succ_le (Xh r _ _ G e)
   ·rw [bU I] at e;exact Xh r _ _ G e
  ·rcases D6.mp h with q | q
   ·cases q;rw [bT (by decide),Vi r _ _ G,cJ] at e;simp at e;exact dm e
   ·exact absurd q G
theorem Xi:∀ (names:List (Str × ay)) (n:Nat) (acc:List (Str × aB)),(∀ x c,acc.lookup x=zo c->c < n)->(∀ x y c,acc.lookup x=zo c->acc.lookup y=zo c->x=y) ->
  ∀ x y c,(ao n names acc).lookup x=zo c->(ao n names acc).lookup y=zo c->x=y
 | [],_,_,_,h=>h
 | (name,kind) :: r,n,acc,h1,h2=>by
  unfold ao
  by_cases J:(kind == NameKind.cell)=zb
  ·rw [bT J];refine Xi r (n + 1) _ (λx c e=>?_) (λx y c e G=>?_)
   ·rw [cJ] at e;cases I:x == name with
    | true=>rw [I] at e; cases e; exact dE _
    | false=>rw [I] at e; exact cu (h1 x c e)
   ·rw [cJ] at e G;cases I:x == name with
    | true=>
     rw [I] at e; cases e;cases q:y == name with
     | true=>rw [beq_iff_eq.mp I,beq_iff_eq.mp q]
     | false=>rw [q] at G; exact absurd (h1 y _ G) (L4 _)
    | false=>
     rw [I] at e;cases q:y == name with
     | true=>rw [q] at G; cases G; exact absurd (h1 x _ e) (L4 _)
     | false=>rw [q] at G; exact h2 x y c e G
  ·rw [bU J];exact Xi r n acc h1 h2
theorem Q4h {M:Model} {A:aL} {E:zAD} {s:aC} {scope:Scope} {G:aB} {cl:List (Str × aB)} {qual:Str} {I:Option aB} {code:aA} {env:Env} {q:aB} {Q:Env->aC->Prop}
  (Y:Q (newEnv scope s.heap.objs.size G (ao (s.heap.objs.size + 1) scope.names cl) qual I code (zo env) q) { s with heap:=pushCells (s.heap.push { cls:=.type "dict",data:=.dict #[] }) scope.names }) :
  aF M A (newFunctionEnv scope G cl [] qual I code (zo env) q) Q E s:=by
 simp only [newFunctionEnv,gX,if_true];refine aD (wpAny_alloc ?_);refine aD (wpAny_layCells _ (λname kind O=>by cases J:kind == NameKind.cell <;> simp [J]) _ _ _ _ ?_);rw [show ({ s with heap:=s.heap.push { cls:=.type "dict",data:=.dict #[] } }:aC).heap.objs.size=s.heap.objs.size + 1 from F1 ..];refine aD ?_;rw [dq];exact wpAny_pure (wpAny_pure Y)
def compOkC (N N':List Str) (sc scE:Scope) (cap:zAC):Bool:=
 sc.kind == .function && sc.names.all (λx=>x.2 != .cell || sc.names.lookup x.1 == zo .cell) && sc.names.all (λx=>x.2 != .local || sc.names.lookup x.1 == zo .local) &&
 sc.names.all (λx=>x.2 != .free || scE.names.lookup x.1 == zo .cell || scE.names.lookup x.1 == zo .free) && cap.length == N'.length &&
 (bY cap.length).all (λi=>match cap[i]? with
  | some (zo j)=>(match N'[i]?,N[j]? with | some a,zo b=>a == b && sc.names.lookup a == zo .free | _,_=>yo)
  | _=>zb)
structure CompOkC (N N':List Str) (sc scE:Scope) (cap:zAC):Prop where
 kind:sc.kind=.function
 cel:∀ x∈sc.names,x.2=.cell->sc.names.lookup x.1=zo .cell
 loc:∀ x∈sc.names,x.2=.local->sc.names.lookup x.1=zo .local
 fre:∀ x∈sc.names,x.2=.free->scE.names.lookup x.1=zo .cell\/scE.names.lookup x.1=zo .free
 len:cap.length=N'.length
 at_:∀ (i j:Nat),cap[i]?=zo (zo j)->∃ x,N'[i]?=zo x/\N[j]?=zo x/\sc.names.lookup x=zo .free
theorem compOkC.of {N N':List Str} {sc scE:Scope} {cap:zAC} (h:compOkC N N' sc scE cap=zb):CompOkC N N' sc scE cap:=by
 unfold compOkC at h;simp only [E4,E8,beq_iff_eq,Bool.or_eq_true,bne_iff_ne] at h;obtain ⟨⟨⟨⟨⟨h1,h2⟩,h3⟩,h4⟩,h5⟩,h6⟩:=h;refine ⟨h1,λx q e=>?_,λx q e=>?_,λx q e=>?_,h5,λi j e=>?_⟩
 ·rcases h2 x q with z | z
  ·exact absurd e z
  ·exact z
 ·rcases h3 x q with z | z
  ·exact absurd e z
  ·exact z
 ·rcases h4 x q with (z | z) | z
  ·exact absurd e z
  ·exact .inl z
  ·exact .inr z
 ·have hi:i < cap.length:=(O3.mp e).1;have:=h6 i (cF.mpr hi);rw [e] at this;simp only at this;cases G:N'[i]? with
  | none=>rw [G] at this; cases this
  | some a=>
   cases I:N[j]? with
   | none=>rw [G,I] at this; cases this
   | some b=>
    rw [G,I] at this;simp only [E4,beq_iff_eq] at this;obtain ⟨rfl,z⟩:=this;exact ⟨a,rfl,rfl,z⟩
def Zz (X:Cx) (N':List Str) (sc:Scope) (cl:List (Str × aB)) (C:aB) (s0:aC) (H0:Hp) (ex:List aB):Cx:=
 { X with N:=N',s₀:=s0,H₀:=H0,env:=compEnvC sc cl C X.env,outer:=X.stack,ex:=ex,fn:=λx=>sc.names.lookup x == zo .cell,pn:=[],xe:=λ_ _=>False }
theorem Qk2 {pins:zAA} {σ:St} {H:Hp} {s:aC} {N N':List Str} {sc scE:Scope} {cap:zAC} {cl:List (Str × aB)} {fp:List aB}
  (I:Inv X pins σ H s) (hN:X.N=N) (hE:X.env.scope=scE) (ck:CompOkC N N' sc scE cap) (c1:∀ x c,cl.lookup x=zo c->X.env.cells.lookup x=zo c) (c2:∀ x∈sc.names,x.2=.free->∃ c,cl.lookup x.1=zo c)
  (hf:∀ b∈fp,Q4g X pins H b) (a7:∀ b∈fp,b < s.heap.objs.size) :
  Inv (Zz X N' sc (ao (s.heap.objs.size + 1) sc.names cl) s.heap.objs.size s H fp) [] (xr cap σ) H { s with heap:=pushCells (s.heap.push { cls:=.type "dict",data:=.dict #[] }) sc.names }:=by
 obtain ⟨O,Y⟩:∃ O,pushCells (s.heap.push { cls:=.type "dict",data:=.dict #[] }) sc.names=O:=⟨_,rfl⟩;obtain ⟨G,J⟩:∃ G,ao (s.heap.objs.size + 1) sc.names cl=G:=⟨_,rfl⟩;rw [Y,J];have keep:∀ b o,s.heap.get? b=zo o->O.get? b=zo o:=λb o e=>by rw [<- Y]; exact pushCells_keeps _ _ b o (O1 _ e)
 have a9:O.Ns s.heap.objs.size (λ_=>zl):=by rw [<- Y]; exact (Heap.Ns.new s.heap (.type "dict")).keeps (pushCells_keeps _ _)
 have look:∀ x c,G.lookup x=zo c->cl.lookup x=zo c\/(s.heap.objs.size + 1<=c/\O.IsCell c zl):=λx c e=>by
  rw [<- J] at e;have:=Wu (sc.names) (s.heap.push { cls:=.type "dict",data:=.dict #[] }) cl x c (by rw [F1]; exact e);rw [F1,Y] at this;rcases this with z | ⟨_,z,z'⟩
  ·exact .inl z
  ·exact .inr ⟨z,z'⟩
 have a1:∀ x c,cl.lookup x=zo c->c < s.heap.objs.size:=λx c e=>by
  obtain ⟨v,o,ho,_⟩:=I.cell x c (c1 x c e);exact O7 ho
 have inj:∀ x y c,G.lookup x=zo c->G.lookup y=zo c->x=y:=by
  rw [<- J];exact Xi _ _ _ (λx c e=>cu (a1 x c e)) λx y c a b=>I.ok.inj x y c (c1 x c a) (c1 y c b)
 have b0:∀ x,sc.names.lookup x=zo .cell->∃ c,G.lookup x=zo c:=λx e=>by
  rw [<- J];exact gC.mp (fB _ _ _ (.inl e))
 have a6:∀ x,sc.names.lookup x=zo .free->G.lookup x=cl.lookup x:=λx e=>by
  rw [<- J];refine Vi _ _ _ λz=>?_
  have:=ck.cel _ z rfl;rw [e] at this; cases this
 have kindOf:∀ x k,(compEnvC sc G s.heap.objs.size X.env).kindOf x=zo k->k=.cell\/k=.free->sc.names.lookup x=zo .free\/sc.names.lookup x=zo .cell:=λx k e hk=>by
  have e':(relabel sc X.env).names.lookup x=zo k:=e;rw [q9] at e';cases q:sc.names.lookup x with
  | none=>rw [q] at e'; cases e'
  | some k'=>
   rw [q] at e';have a5:(if (k' == NameKind.free && X.env.scope.kind == .function && X.env.kindOf x == zo .cell)=zb then NameKind.cell else k')=k:=bn e'
   by_cases Z:(k' == NameKind.free && X.env.scope.kind == .function && X.env.kindOf x == zo .cell)=zb
   ·simp only [E4,beq_iff_eq] at Z;rw [Z.1.1]; exact .inl rfl
   ·rw [bU Z] at a5;subst a5;rcases hk with z | z
    ·rw [z]; exact .inr rfl
    ·rw [z]; exact .inl rfl
 have cellAt:∀ x c,X.env.cells.lookup x=zo c->∀ v,s.heap.IsCell c v->O.IsCell c v:=λx c e v ⟨o,ho,hd⟩=>⟨o,keep c o ho,hd⟩
 have a3:∀ c,s.heap.objs.size<=c->H c=zl:=λc Z=>I.hok.fresh Z
 refine ⟨⟨I.ok.mod,ck.kind,I.ok.glob,I.ok.blt,O5 _,inj,λx hx=>?_,λx c h1 h2=>?_,I.ok.hd,I.ok.frames,.inl rfl,λb hb=>?_,I.bs,
  D9 I.ok.bsz I.sz,λb o e hb=>?_,λb hb hz=>?_,I.stack,I.stkFree⟩,rfl,I.bare,Un.kept keep,⟨_,a9,λi x v e1 e2 e3=>?_⟩,λx c e=>?_,a3 _ (O5 _),λx c e=>?_,λp hp=>(by cases hp),I.hok.kept keep,?_⟩
 ·have hx:(compEnvC sc G s.heap.objs.size X.env).kindOf x=zo .cell\/(compEnvC sc G s.heap.objs.size X.env).kindOf x=zo .free:=hx;have q:sc.names.lookup x=zo .free\/sc.names.lookup x=zo .cell:=by
   rcases hx with z | z
   ·exact kindOf x _ z (.inl rfl)
   ·exact kindOf x _ z (.inr rfl)
  rcases q with q | q
  ·obtain ⟨c,Z⟩:=c2 _ (cO q) rfl;exact ⟨c,(a6 x q).trans Z⟩
  ·exact b0 x q
 ·have h1:sc.names.lookup x=zo .cell:=by simpa [Zz] using h1
  have h2:G.lookup x=zo c:=h2;rw [<- J] at h2;exact D9 (dF _) (Xh _ _ _ (cO h1) h2)
 ·refine ⟨D8 (a7 b hb),λx c e=>?_⟩;rcases look x c e with z | ⟨z,_⟩
  ·exact (hf b hb).2.2.2.2.1 x c (c1 x c z)
  ·exact λq=>absurd (D1 (a7 b hb) (D9 (dF _) (q ▸ z))) (L4 _)
 ·rcases (hf b hb).2.2.2.1 with z | z
  ·exact I.ok.noex b o e z
  ·exact absurd (D1 (O7 e) (D9 I.ok.bsz z)) (L4 _)
 ·rcases D6.mp (I.stkSub b hz) with e | z
  ·exact (hf b hb).2.1 e
  ·exact (hf b hb).2.2.1 z
 ·have e1:N'[i]?=zo x:=e1;have e2:(xr cap σ)[i]?=zo (zo v):=e2;unfold xr at e2;rw [D7] at e2;cases q:cap[i]? with
  | none=>rw [q] at e2; cases e2
  | some oj=>
   rw [q] at e2;cases oj with
   | none=>cases e2
   | some j=>
    obtain ⟨y,z1,z2,z3⟩:=ck.at_ i j q;rw [e1] at z1; cases z1;have ev:σ[j]?=zo (zo v):=by
     have a2:(σ[j]?).join=zo v:=bn e2;cases r:σ[j]? with
     | none=>rw [r] at a2; cases a2
     | some o=>rw [r] at a2; exact congrArg zo a2
    obtain ⟨m',b1,hl⟩:=I.loc;have sK:X.env.scope.names.lookup x=zo .cell\/X.env.scope.names.lookup x=zo .free:=by rw [hE]; exact ck.fre _ (cO z3) rfl
    obtain ⟨u,ru,l⟩:=hl j x v (by rw [hN]; exact z2) ev (sK.elim (λz=>.inr (.inl z)) λz=>.inr (.inr z))
    refine ⟨u,ru,?_⟩;obtain ⟨c,Z⟩:=c2 _ (cO z3) rfl;rcases l with ⟨k,_⟩ | ⟨k,c',a8,a4⟩
    ·have k:X.env.scope.names.lookup x=zo .local:=k;rcases sK with z | z <;> (rw [k] at z; cases z)
    ·have:c=c':=by
      have q1:=c1 x c Z;rw [a8] at q1;exact (bn q1).symm
     subst this;refine .inr ⟨?_,c,(a6 x z3).trans Z,cellAt x c a8 _ a4⟩;show (relabel sc X.env).names.lookup x=zo .cell\/(relabel sc X.env).names.lookup x=zo .free;rw [q9,z3];show zo (if _ then NameKind.cell else NameKind.free)=_\/zo (if _ then NameKind.cell else NameKind.free)=_
     split
     ·exact .inl rfl
     ·exact .inr rfl
 ·rcases look x c e with z | ⟨_,z⟩
  ·obtain ⟨v,q⟩:=I.cell x c (c1 x c z);exact ⟨v,cellAt x c (c1 x c z) v q⟩
  ·exact ⟨_,z⟩
 ·rcases look x c e with z | ⟨z,_⟩
  ·exact I.freeC x c (c1 x c z)
  ·exact a3 c (by omega)
 ·unfold xr;show _=N'.length;rw [O0];exact ck.len
end L2
namespace PySem
open Sem (wp)
end PySem
namespace L2
open PySem PySem.Spec PyProof.Rows PySem.W PySem.Builtin.ObjectAttr
end L2
namespace L2
open PySem PySem.Spec PyProof.Rows PySem.W
end L2
namespace PySem
open Sem (wp)
def Q4t (o:Obj):Option aA:=match o.data with | .fields vs=>vs[2]? | _=>zl
theorem Qjc {o:Obj} {vs:Array aA} {x:aA} (q:o.data=.fields vs):Q4t (cv (·.setIfInBounds 1 x) o)=Q4t o:=by
 have d:=dC q (·.setIfInBounds 1 x);unfold Q4t;rw [d,q];exact gY (by decide)
variable {M:Model} {A:aL} {E:aA->aC->Prop} {s:aC} {en:Env} {ou:List Env} {L e:aB} {ob:Obj} {vs:Array aA} {a0:aA} {Q:Unit->aC->Prop}
section
variable {bs:Heap}
theorem Q41 {I:aA} {nx:Bool} (fr:A.frames=zo (en :: ou)) (ff:s.heap.FunFrames bs (en :: ou)) (ef:en.frame=zo L) (oe:s.heap.get? e=zo ob) (kb:bs.StaysIn s.heap) (ne:bs.get? e=zl)
  (O:ob.data=.fields vs) (z1:1 < vs.size) (z0:vs[0]?=zo a0)
  (h:∀ h',Heap.LeftW bs (en :: ou) e ob.cls a0 s.heap h'->(∃ o',h'.get? e=zo o'/\o'.dict=ob.dict/\Q4t o'=Q4t ob)->Q () { s with heap:=h' }) :
  aF M A (do
   let a <- frameOf en
   let pl <- entryPlaceOf L nx
   let b <- EntryCells.newEntry I a .none (aU L) .none pl
   setField (.ref e) 1 b) (λ_ s'=>aF M A (setFlight (.ref e) zl) Q E s') E s:=by
 have nf:e∉(en :: ou).filterMap (·.frame):=λm=>by
  obtain ⟨_,o,q,n⟩:=ff.mem m;rw [oe] at q;cases q;exact n vs O
 refine aD (wpAny_frameOf_fun fr ff ef λg gs=>?_);refine aD (wpAny_entryPlaceOf λpl hp=>?_);unfold EntryCells.newEntry newFields;refine aD (av ?_ (hp.sizeOk5 _ _ _ _ _));have ge:g.get? e=zo ob:=(gs.2.1 e nf).trans oe;have gb:bs.StaysIn g:=λb o q=>(gs.2.1 b λm=>by
  rw [(ff.mem m).1] at q;cases q).trans (kb b o q)
 obtain ⟨tb,Z⟩:∃ tb:List aA,[I,.ref L,.none,aU L,.none] ++ (if pl.isEmpty then bc 6 ba else pl)=tb:=⟨_,rfl⟩;have l5:3 < tb.length/\tb[3]?=zo (aU L):=by
  rw [<- Z];exact ⟨by simp,by simp⟩
 rw [Z];have Y:=O1 (h:=g) { cls:=.type "traceback",dict:=zl,data:=.fields tb.toArray } ge;refine wpAny_setField Y O z1 ?_;have te:g.objs.size≠e:=L9 (O7 ge);have d3:=dC O (·.setIfInBounds 1 (bZ g.objs.size));have G:=G9 (cv (·.setIfInBounds 1 (bZ g.objs.size))) Y (fK d3);have J:=(F6 (g.push { cls:=.type "traceback",dict:=zl,data:=.fields tb.toArray })
  (cv (·.setIfInBounds 1 (bZ g.objs.size))) te.symm).trans
  (O9 g rfl)
 unfold setFlight;refine aD (ag G d3 (x:=.ref g.objs.size) (by simp [z1]) ?_);rw [bT (show (bZ g.objs.size != ba)=zb by simp)];refine wpAny_setField J rfl (by simpa using l5.1) (h _ ?_ ?_)
 all_goals
  obtain ⟨g3,a1⟩:∃ g3,((g.push { cls:=.type "traceback",dict:=zl,data:=.fields tb.toArray }).update e (cv (·.setIfInBounds 1 (bZ g.objs.size))))=g3:=⟨_,rfl⟩;rw [a1] at G J ⊢
 ·have kp:∀ b o,b≠e->g.get? b=zo o->(g3.update g.objs.size (cv (·.setIfInBounds 3 ((zl:Option aB).elim ba λf=>aU f)))).get? b=zo o:=λb o n q=>by
   rw [F6 _ _ (L9 (O7 q)),<- a1,F6 _ _ n.symm];exact O1 _ q
  have nr:∀ b o,s.heap.get? b=zo o->(∀ ws,o.data≠.fields ws)->b≠e:=λb o q n z=>by
   rw [z,oe] at q;cases q;exact n vs O
  refine ⟨λb o q=>kp b o (λz=>by rw [z,ne] at q; cases q) (gb b o q),ff.of_keeps λb o q n=>?_,?_,λb o q n=>?_⟩
  ·obtain ⟨sl,z⟩:=gs.2.2 b o q;exact ⟨_,kp b _ (nr b o q n) z,rfl⟩
  ·refine ⟨_,_,g.objs.size,_,_,?_,⟨gP _ _,?_⟩,d3,by simp [z1],gb.fresh,te,G9 _ J (fK (dC rfl _)),dC rfl _,?_⟩
   ·rw [F6 _ _ te];exact G
   ·rw [gY (by decide)];exact z0
   ·have:=l5.1;simp [this]
  ·obtain ⟨sl,z⟩:=gs.2.2 b o q;exact ⟨sl,kp b _ (nr b o q n) z⟩
 ·refine ⟨_,(F6 _ _ te).trans G,?_,Qjc O⟩;cases ob with
  | mk c d dt sl=>cases dt <;> first | rfl | cases O
theorem Q98 (fr:A.frames=zo (en :: ou)) (Z:s.heap.FunFrames bs (en :: ou)) (q:en.frame=zo L) (J:s.heap.get? e=zo ob) (Y:bs.StaysIn s.heap) (ne:bs.get? e=zl)
  (G:ob.data=.fields vs) (I:vs[1]?=zo .none) (O:vs[0]?=zo a0)
  (h:∀ h',Heap.LeftW bs (en :: ou) e ob.cls a0 s.heap h'->(∃ o',h'.get? e=zo o'/\o'.dict=ob.dict/\Q4t o'=Q4t ob)->Q () { s with heap:=h' }):aF M A (leaving en (.ref e)) Q E s:=by
 unfold leaving noteFrame;simp only [q];refine aD (aD (ag J G I ?_));rw [bU (by decide)];exact Q41 fr Z q J Y ne G (cA.mp I).1 O h
theorem Q97 {cls:aA} {dv:Option aB} (fr:A.frames=zo (en :: ou)) (Z:en.frame=zo L) (fl:Heap.FlyingW bs (en :: ou) e cls a0 s.heap) (dd:∃ o',s.heap.get? e=zo o'/\o'.dict=dv/\Q4t o'=zo .none)
  (h:∀ h',Heap.FlyingW bs ou e cls a0 h'->(∃ o',h'.get? e=zo o'/\o'.dict=dv/\Q4t o'=zo .none)->s.heap.UpToSlots h'->Q () { s with heap:=h' }):aF M A (leaving en (.ref e)) Q E s:=by
 obtain ⟨kb,ne,ff,oe,ws,T,oT,ts,Y,⟨hc,z0⟩,od,z1,nT,Te,hT,dT,z3⟩:=fl;obtain ⟨o',G,J,O⟩:=dd;rw [Y] at G;cases G;unfold leaving noteFrame;simp only [Z];refine aD (aD (ag Y od z1 ?_));rw [bT (show (bZ T != ba)=zb by simp)];refine aD (ag hT dT z3 ?_);rw [bU (show ¬ ((ba == aU L)=zb) by simp [aU])];refine aD (wpAny_setField hT dT (cA.mp z3).1 ?_);have I:∀ b,b≠T->(s.heap.update T (cv (·.setIfInBounds 3 ba))).get? b=s.heap.get? b:=λb n=>F6 _ _ n.symm
 have nr:∀ b o,s.heap.get? b=zo o->(∀ ws,o.data≠.fields ws)->b≠T:=λb o q n z=>by
  rw [z,hT] at q;cases q;exact n ts dT
 refine Q41 fr (ff.of_keeps λb o q n=>⟨o,(I b (nr b o q n)).trans q,rfl⟩) Z ((I e Te.symm).trans Y) (λb o q=>(I b λz=>by rw [z,nT] at q; cases q).trans (kb b o q)) ne od (cA.mp z1).1 z0 λh' lf d'=>?_
 obtain ⟨k1,⟨_,_,k2⟩,k3,k4⟩:=lf;rw [hc] at k3;exact h h' ⟨k1,ne,k2,k3⟩ (d'.imp λo q=>⟨q.1,q.2.1.trans J,q.2.2.trans O⟩) λb o q n=>k4 b o ((I b (nr b o q n)).trans q) n
end
end PySem
namespace L2
open PySem PySem.Spec PyProof.Rows
variable {σ:St} {H1:Hp} {s1:aC} {b:aB}
def CXD (P:aK) (w:aJ):CXT:=λouter H s E e s'=>∃ a cls a0 dv H' B,e=bZ a/\Fly P w outer H H' s s' a cls a0 B/\(∃ o',s'.heap.get? a=zo o'/\o'.dict=dv/\Q4t o'=zo .none)/\E cls dv H'
theorem jc {P:aK} {w:aJ} {X:Cx}:Q4e (CXD P w) X E0:=λ_ _ _ _ _ _ _ h=>by
 obtain ⟨_,_,_,_,_,_,_,_,_,z⟩:=h;exact z.elim
variable {P:aK} {K:bX} {mg:zAE} {base:Heap} {N:List Str} {qual:Str} {scope:Scope} {f:aB} {cd:aA} {A:aL} {outer:List Env} {s:aC} {H:Hp} {E:XK}
section
variable {w:aJ}
abbrev cxD (P:aK) (w:aJ) (K:bX) (mg:zAE) (base:Heap) (N:List Str) (qual:Str) (scope:Scope) (f:aB) (cd:aA) (A:aL) (outer:List Env) (s:aC) (H:Hp) (E:XK):Cx:=Qf5 (CXD P w) P w K mg base N qual scope f cd A outer s H E
theorem Q65 {pins:zAA} (I:Inv (cxD P w K mg base N qual scope f cd A outer s H E) pins σ H1 s1) {o:Obj} (e:s.heap.get? b=zo o) (n:b∉frs outer):b∉frs (cxD P w K mg base N qual scope f cd A outer s H E).stack:=λq=>by
 rcases D6.mp (I.stkSub b q) with z | z
 ·have h1:b < s.heap.objs.size:=O7 e;have h2:s.heap.objs.size<=(cxD P w K mg base N qual scope f cd A outer s H E).env.locals:=I.ok.above;rw [<- z] at h2;exact absurd (D1 h1 h2) (L4 _)
 ·exact n z
theorem Qj8 (h:b∈frs outer):b∈frs (cxD P w K mg base N qual scope f cd A outer s H E).stack:=by
 show b∈frs (_ :: outer);unfold frs at h ⊢;rw [cU]
 split
 ·exact h
 ·exact O4 _ h
theorem Qrv {pins:zAA} {Y:Heap} {e C t:aB} {dv:Option aB} (I:Inv (cxD P w K mg base N qual scope f cd A outer s H E) pins σ H1 s1)
  (hk:∀ b o,b≠e->s1.heap.get? b=zo o->Y.get? b=zo o) (a5:∀ o,s1.heap.get? e=zo o->∃ vs,o.data=.fields vs) (new:s.heap.get? e=zl) (hH:H1 e=zl)
  (oe:Y.get? e=zo { cls:=.ref C,dict:=dv,data:=.fields #[.ref t,.none,.none,.none,.bool yo,.none] }) (hE:E (.ref C) dv H1) :
  (cxD P w K mg base N qual scope f cd A outer s H E).xe (.ref e) { s1 with heap:=Y }:=by
 have a6:∀ en∈(cxD P w K mg base N qual scope f cd A outer s H E).stack,∀ b,en.frame=zo b->b∈e :: frs (cxD P w K mg base N qual scope f cd A outer s H E).stack:=λen he b G=>O4 _ (dN.mpr ⟨en,he,G⟩)
 have ff:=PySem.W.funFrames_hide I.stack a6;have a3:∀ b o,s1.heap.get? b=zo o->(∀ vs,o.data≠.fields vs)->b≠e:=λb o q n z=>by
  subst z;obtain ⟨vs,d⟩:=a5 o q;exact n vs d
 have hid:(dg s1.heap (e :: frs (cxD P w K mg base N qual scope f cd A outer s H E).stack)).get? e=zl:=fu _ F4;have kb:(dg s1.heap (e :: frs (cxD P w K mg base N qual scope f cd A outer s H E).stack)).StaysIn Y:=λb o q=>hk b o (λz=>by rw [z,hid] at q; cases q) (ft _ q)
 show aF (aI P w) _ (leaving _ (.ref e)) _ _ _;refine Q98 (bs:=dg s1.heap (e :: frs (cxD P w K mg base N qual scope f cd A outer s H E).stack)) (a0:=.ref t) (s:={ s1 with heap:=Y }) I.ok.frames (ff.of_keeps λb o q n=>⟨o,hk b o (a3 b o q n) q,rfl⟩) rfl oe kb hid rfl rfl rfl λh2 lf dd=>?_
 obtain ⟨k1,⟨_,_,k2⟩,k3,k4⟩:=lf;have noex:∀ b:aB,b∉(cxD P w K mg base N qual scope f cd A outer s H E).ex:=λb z=>absurd (show b∈([]:List aB) from z) (by simp)
 have O:∀ b o,s.heap.get? b=zo o->b≠e:=λb o q z=>by rw [z,new] at q; cases q
 have Z:∀ b o,s.heap.get? b=zo o->b∉frs outer->b∉e :: frs (cxD P w K mg base N qual scope f cd A outer s H E).stack:=λb o q n m=>by
  rcases D6.mp m with z | z
  ·exact O b o q z
  ·exact Q65 I q n z
 refine ⟨e,.ref C,.ref t,dv,H1,_,rfl,⟨I.os,I.bare,⟨k1,hid,k2,k3⟩,λb u q=>?_,λb o q n G=>?_,λb o q G=>?_,λb o q G=>?_,λb o q n=>I.base.free b o q n (noex b),I.base.tups,I.base.frzs,I.base.tbls⟩,dd,hE⟩
 ·have ne:∀ c v,H1 c=zo v->c∉e :: frs (cxD P w K mg base N qual scope f cd A outer s H E).stack:=λc v z m=>by
   rcases D6.mp m with m | m
   ·rw [m,hH] at z; cases z
   ·rw [I.stkFree c m] at z; cases z
  refine (I.hok b u q).stay (λc v hc r=>dh _ r ?_) (λ_ r=>r) λ_ _ r=>r
  rcases hc with rfl | hc
  ·exact ne c u q
  ·exact ne c _ hc
 ·exact dh _ (I.base.keep b o q n G (noex b)) (Z b o q G)
 ·obtain ⟨o',z⟩:=I.base.there b o q (noex b);exact ⟨o',dh _ z (Z b o q G)⟩
 ·obtain ⟨sl,z⟩:=I.base.slot b o q (I.ok.frf b G) G (noex b);obtain ⟨_,o',a4,a2⟩:=I.ok.funs.mem G;have J:s.heap.get? b=zo o':=a4;rw [q] at J;cases J;obtain ⟨a1,z'⟩:=k4 b _ (hk b _ (O b o q) z) a2;exact ⟨a1,z'⟩
theorem qb:Q4e (CXD P w) (cxD P w K mg base N qual scope f cd A outer s H E) E:=by
 intro pins σ H1 s1 e s' I h;obtain ⟨a,cls,a0,dv,H',B,rfl,F,dd,hE⟩:=h;show aF (aI P w) _ (leaving _ (.ref a)) _ _ _;have noex:∀ b:aB,b∉(cxD P w K mg base N qual scope f cd A outer s H E).ex:=λb z=>absurd (show b∈([]:List aB) from z) (by simp)
 refine Q97 I.ok.frames rfl F.fl dd λh2 x1 d2 x2=>?_
 refine ⟨a,cls,a0,dv,H',B,rfl,⟨F.os.trans I.os,F.bare,x1,F.hokB,λb o q n G=>?_,λb o q G=>?_,λb o q G=>?_,λb o q n=>?_,λb xs q=>F.tups b xs (I.base.tups b xs q),λb o u q=>F.frzs b o u (I.base.frzs b o u q),λb ps q=>?_⟩,d2,hE⟩
 ·exact F.keep b o (I.base.keep b o q n G (noex b)) (I.base.free b o q n (noex b)) (Q65 I q G)
 ·obtain ⟨o',z⟩:=I.base.there b o q (noex b);exact F.there b o' z (Q65 I q G)
 ·obtain ⟨sl,z⟩:=I.base.slot b o q (I.ok.frf b G) G (noex b);obtain ⟨_,o',Z,Y⟩:=I.ok.funs.mem G;have J:s.heap.get? b=zo o':=Z;rw [q] at J;cases J;obtain ⟨a1,z'⟩:=F.slot b _ z (Qj8 G);obtain ⟨O,z2⟩:=x2 b _ z' Y;exact ⟨O,z2⟩
 ·obtain ⟨o',z⟩:=I.base.there b o q (noex b);exact F.free b o' z (I.base.free b o q n (noex b))
 ·obtain ⟨m1,e1⟩:=I.base.tbls b ps q;obtain ⟨m2,e2⟩:=F.tbls b _ e1;exact ⟨m1 ++ m2,by rw [e2,fv]⟩
end
variable {X:Cx}
def Qc0 (X:Cx) (E:XK):Prop:=∀ (pins:zAA) (σ:St) (H0 H1:Hp) (s0 s1:aC) (hx:Heap) (e C t:aB) (dv:Option aB),Inv X pins σ H0 s0->s0.heap.get? e=zl->Inv X pins σ H1 s1->(∀ b o,b≠e->s1.heap.get? b=zo o->hx.get? b=zo o) ->
 (∀ o,s1.heap.get? e=zo o->∃ vs,o.data=.fields vs)->H1 e=zl->hx.get? e=zo { cls:=.ref C,dict:=dv,data:=.fields #[.ref t,.none,.none,.none,.bool yo,.none] }->E (.ref C) dv H1->X.xe (.ref e) { s1 with heap:=hx }
theorem Qe4 {x:Str} {C:aB} {e:aH} {t:TA} {np cpos pos:Pos} (G:X.calm=zb) (RO:Qc0 X E) (hg:Gl X x) (hm:X.mg x=zo (.ref C)) (q:cK X.K C Qa1 "ValueError.__new__" = zb) (ha:PA X [e] t)
  (Z:(x == ("__debug__" : Str))=yo:=by decide) (he:aN [e] X.env=[(yo,aO e X.env)]:=by rfl):PS X (.Raise (zo (.Call (.Name x np) [e] [] cpos)) zl pos) (Qqw C E t):=by
 intro pins s σ H D I h;obtain ⟨tl,N,nm,qn,bs,hdct,sn,sub,ab,col,dd,k0,k1,k2,k3,k5,mN,hC,hN,a1,T⟩:=(Qn1 I.mod.kin hm q).obj;refine wpAny_Raise_call_subU (C:=C) (nm:=nm) (q:=qn) (N:=N) (bs:=bs) (bm:=tl) (hdct:=hdct) (sn:=sn) (sub:=sub) (ab:=ab) (col:=col) (dd:=dd) (k0:=k0) (k1:=k1) (k2:=k2) (k3:=k3) (k5:=k5)
  gZ (by decide +kernel) gZ (mN:=mN) (T.hasType (by decide +kernel)) (I.ok.hd G) (by rw [he]; rfl) a1 (Q72 I hg hm ⟨rfl,?_⟩ Z)
 have O:=ha cpos pins s σ H _ I h;rw [he] at O ⊢;refine Calls.evalArgs_plain (au O (λus s1 ⟨vs,H1,J,r,z,hE⟩=>?_) λ_ _ y=>y)
 refine ⟨rfl,by rw [<- r.length]; exact z,J.bk _ _ hC,hN.keeps J.bk,T.keeps J.bk,λh' e' Y=>?_⟩;obtain ⟨t,oe,_,_⟩:=Y.there;exact RO pins σ H1 H1 s1 s1 h' e' C t zl J Y.new J (λb o _ k=>Y.keeps b o k) (λo k=>by rw [Y.new] at k; cases k) (J.hok.none_of Y.new) oe hE
theorem Qgz {P:aK} {w:aJ} {K:bX} {mg:zAE} {base:Heap} {N:List Str} {qual:Str} {scope:Scope} {f:aB} {cd:aA} {A:aL} {outer:List Env} {s:aC} {H:Hp} {E:XK} :
  Qc0 (cxD P w K mg base N qual scope f cd A outer s H E) E:=λpins σ H0 H1 s0 s1 hx e C t dv J g0 I hk G Y Z O=>by
 refine Qrv I hk G ?_ Y Z O;cases q:s.heap.get? e with
 | none=>rfl
 | some o=>
  obtain ⟨o',z⟩:=J.base.there e o q (λz=>absurd (show e∈([]:List aB) from z) (by simp))
  rw [g0] at z; cases z
theorem Fun.okD {P:aK} {w:aJ} {mg:zAE} {base:Heap} {x:Str} {st:aM} {fd:aP} {ps:List Str} {k:Nat} {sp:Sp} (F:Fun K x qual st f fd) (S:FnScope N ps (Q6 st)) (len:∀ vs H Q E,sp vs H Q E->vs.length=ps.length)
  (G:∀ (q:aA) (A:aL) (outer:List Env) (s:aC) (H:Hp) (vs:List V) (Q:VK) (E:XK),Room k (A.deeper (envOfC qual (Q6 st) s.heap.objs.size f q))->sp vs H Q E ->
   ∃ t,PSs (cxD P w K mg base N qual (Q6 st) f q A outer s H E) (Z0 st) t/\t { nx:=λ_ H'=>Q .non H',rt:=Q } (start N vs) H):FnOk P w K mg base (CXD P w) (k + 1) f fd ps sp:=by
 obtain ⟨oc,od,kV,Y,pm,an,q,ct,a1,rfl,O,I⟩:=F.ex;exact Qxp O I S len λA outer s H vs Q E Z J=>G q A outer s H vs Q E Z J
end L2
namespace L2
open PySem PySem.Spec PyProof.Rows PySem.W PySem.Builtin.Getset_descriptor
end L2
namespace L2
open PySem PySem.Spec PyProof.Rows
end L2
namespace L2
open PySem PySem.Spec PyProof.Rows PySem.W PySem.Builtin.Getset_descriptor
end L2
namespace L2
open PySem PySem.Spec PyProof.Rows
end L2
namespace L2
open PySem PySem.Spec PyProof.Rows PySem.W PySem.Builtin.Getset_descriptor
end L2
namespace L2
open PySem PySem.Spec PyProof.Rows PySem.SeqAt
end L2
namespace L2
open PySem PySem.Spec PyProof.Rows
variable {tt:TT} {wi:TI} {g:TG} {te:TE} {o:Option V} {y:V} {u:aA} {P:aK} {H H':Hp} {xs:List (HK × aB × aA)} {b a:aB} {k:HK} {Q E:zAD} {h':Heap}
variable {X:Cx}
def Qh0 (K:bX):R2:=λx y H Q=>∃ a b ys,x=.ref a/\y=.ref b/\SqT K H a []/\SqT K H b ys/\Q (.ref b) H
theorem Qhw:OpR X (ae .Add) (Qh0 X.K):=by
 intro pins s σ H x y v u Q I Z ry h;obtain ⟨a,b,ys,rfl,rfl,ha,hb,q⟩:=h;cases Z;cases ry;obtain ⟨its,r1,p1,_⟩:=I.tuple ha;obtain ⟨G,r2,p2,_⟩:=I.tuple hb;have e1:its=[]:=r1.nil_iff.mpr rfl;subst e1;obtain ⟨⟨cls,dd,data,sl⟩,ho,hc,n,hd⟩:=id p1;obtain ⟨⟨Y,O,data2,J⟩,ho2,hc2,n2,hd2⟩:=id p2;simp only at hc hd hc2 hd2;subst hc hd hc2 hd2;exact concat_meets ⟨_,ho,rfl⟩ ⟨_,ho2,rfl⟩ noFill_tuple_add seq_tuple_add fD fE (fF _ _)
  (tuple_addW0 a b ([]:List aA).toArray G.toArray n n2 dd O sl J (by simp)) ⟨ho,ho2,⟨.ref b,H,I,rfl,q⟩⟩
abbrev Qvy (K:bX):R2:=λx y H Q=>Qq7 K x y H Q\/Qh0 K x y H Q
theorem Qn9:OpR X (ae .Add) (Qvy X.K):=op_catT.or Qhw
def PTs (X:Cx) (ifs:List aH) (t:TT):Prop:=
 ∀ (pins:zAA) (s:aC) (σ:St) (H:Hp) (Q:Bool->Hp->Prop),Inv X pins σ H s->t σ H Q ->
  aF (aI X.prog X.w) X.A (forIn ifs zb λc r=>if r=zb then do let ok <- isTrue c X.env (aO c X.env); pure (ForInStep.yield ok) else pure (ForInStep.yield r)) (TP X pins σ Q) X.xe s
def Qv9:TT:=λ_ H Q=>Q zb H
theorem Qme :PTs X [] Qv9:=λ_ _ _ H _ I h=>wpAny_tests_nil ⟨H,I,h⟩
theorem Qmd {c:aH} {t:TT} (h:PT X c t):PTs X [c] t:=λpins s σ H Q I q=>wpAny_tests_one (h pins s σ H Q I q)
def Q5s (J:It) (cap:zAC) (g:TG) (tt:TT) (te:TE) (σ:St) (H1:Hp) (Q:VK):Prop:=∀ acc,H1 acc=zl ->
 ∃ W:Nat->Nat->List V->St->Hp->Prop,(∃ m,W 0 m [] (xr cap σ) (upd H1 acc (.lst [])))/\∀ i m ys σ' H',W i m ys σ' H'->H' acc=zo (.lst ys) /\
  ((J.stop i H'/\Q (.ref acc) H')\/(J.go i H'/\ys.length < sizeLine/\∀ x H2,J.yld i H' x H2->g x σ' H2 λσ3 H3=>tt σ3 H3 λb H4=>
    if b=zb then te σ3 H4 λy H5=>H5 acc=zo (.lst ys)/\∃ m',m' < m/\W (i + 1) m' (ys ++ [y]) σ3 (upd H5 acc (.lst (ys ++ [y])))
    else ∃ m',m' < m/\W (i + 1) m' ys σ3 H4))
def Q64 (cap:zAC) (wi:TI) (g:TG) (tt:TT) (te:TE):TE:=λσ H Q=>wi σ H λJ H1=>Q5s J cap g tt te σ H1 Q
variable {prog:aK} {A:aL} {R:Result->aC->Prop} {s:aC}
section
variable {w:aJ}
theorem Q4u {elt q iter:aH} {ifs:List aH} {scope:Scope} {pos:Pos} {it acc:aA} {env:Env} (I:Nat->aC->Prop)
  (a6:∀ n s,I n s->aF (aI prog w) A (af it) (λr J=>match r with
   | none=>R (.ok .next) J
   | some v=>aF (aI prog w) A (letOwnedTupleGo q it v) (λ_ O=>aF (aI prog w) A (assign q env v) (λ_ a3=>
     aF (aI prog w) A (forIn ifs zb λc r=>if r=zb then do let ok <- isTrue c env (aO c env); pure (ForInStep.yield ok) else pure (ForInStep.yield r)) (λok Y=>
      if ok=zb then aF (aI prog w) A (aO elt env) (λx a2=>
       aF (aI prog w) A (call (.builtin "list.append") [acc,x]) (λ_ Z=>∃ m,m < n/\I m Z) (λ_ _=>False) a2) (λ_ _=>False) Y
      else ∃ m,m < n/\I m Y) (λ_ _=>False) a3)
     (λ_ _=>False) O) (λ_ _=>False) J) (λ_ _=>False) s)
  (n:Nat) (h:I n s):codeAny (aI prog w) A (.compLoop (.ListComp elt [⟨q,iter,ifs,0⟩] scope pos) 0 it acc env) R s:=by
 refine codeAny_loop rfl I (λn s hI=>?_) n h;show aF _ A ((compTurn (.ListComp elt [⟨q,iter,ifs,0⟩] scope pos) 0 it acc env).onRaise (λx=>do noteFrame x env; theTreesLotGoes x)) _ _ s;refine wpAny_noted ?_;rw [compTurn_list];refine aD (wpAny_standAt (aD (au (a6 n s hI) (λr J a1=>?_) λ_ _ h'=>h'.elim)))
 cases r with
 | none=>exact wpAny_pure a1
 | some v=>
  refine aD (au a1 (λ_ O a4=>?_) λ_ _ h'=>h'.elim)
  refine aD (au a4 (λ_ a3 a8=>aD (au a8 (λok Y G=>?_) λ_ _ h'=>h'.elim)) λ_ _ h'=>h'.elim)
  cases ok with
  | true=>
   rw [bT rfl] at G;exact aD (aD (au G (λx a2 a5=>aD (au a5 (λ_ Z a7=>wpAny_pure (wpAny_pure ⟨rfl,a7⟩)) λ_ _ h'=>h'.elim)) λ_ _ h'=>h'.elim))
  | false=>
   rw [bU D2] at G;exact aD (wpAny_pure (wpAny_pure ⟨rfl,G⟩))
end
theorem Q43 {elt tg iter:aH} {ifs:List aH} {tt:TT} {pos:Pos} {N N':List Str} {sc scE:Scope} {cap:zAC} {g:TG} {te:TE} {use:Option (aA->Sem Unit)} {QQ:zAD} (c3:X.calm=zb) (hi:PI X tg iter wi)
  (hg:∀ cl C s0 H0 ex,PG (Zz X N' sc cl C s0 H0 ex) tg g) (he:∀ cl C s0 H0 ex,PE (Zz X N' sc cl C s0 H0 ex) elt te) (e4:∀ cl C s0 H0 ex,PTs (Zz X N' sc cl C s0 H0 ex) ifs tt)
  (hN:X.N=N) (hE:X.env.scope=scE) (hc:compOkC N N' sc scE cap=zb) (hs:∀ x,bG iter X.env x=pure x)
  {pins:zAA} {s:aC} {σ:St} {H:Hp} {Q:VK} (I:Inv X pins σ H s) (h:Q64 cap wi g tt te σ H Q)
  (fin:∀ acc C H' s' m,Inv X pins σ H' s'->s'.heap.Ns C m->Q4g X pins H' C->Q (.ref acc) H'->compPost (aI X.prog X.w) X.A X.xe use QQ (.ref acc) C (.ok .next) s') {pos':Pos} :
  aF (aI X.prog X.w) X.A (comprehension (.ListComp elt [⟨tg,iter,ifs,0⟩] sc pos) sc X.env pos' (newList []) yo (aO iter X.env) use) QQ X.xe s:=by
 have ck:=compOkC.of hc;obtain ⟨cl,e1,c1,c2⟩:=Qbj (scope:=sc) (env:=X.env) λx hx hf=>I.ok.has x.1 (by
  have:=ck.fre x hx hf;rw [<- hE] at this;exact this)
 refine wpAny_comprehension_free (use:=use) rfl hs e1 ck.kind ck.loc (thn (hi pins s σ H _ I h) λv s1 h1=>thn h1 λf1 Z h2=>?_)
 obtain ⟨it,fp,tn,J,H2,e,I2,T,d0,f2,hw⟩:=h2;subst e;have b8:∀ b∈fp,b < Z.heap.objs.size:=λb Y=>by
  obtain ⟨o,e,_⟩:=T.obj _ _ d0 b Y;exact O7 e
 obtain ⟨W,⟨m0,w0⟩,turn⟩:=hw Z.heap.objs.size I2.fresh;refine av (Q4h ?_);dsimp only;have I3:Inv X pins σ (upd H2 Z.heap.objs.size (.lst [])) { Z with heap:=Z.heap.push { cls:=.type "list",data:=.seq ([]:List aA).toArray } }:=
  I2.lnew (its:=[]) (ys:=[]) (t':=Z.toks) .nil (F8 _)
 generalize c8:({ Z with heap:=Z.heap.push { cls:=.type "list",data:=.seq ([]:List aA).toArray } }:aC)=s3 at I3;have d3:s3.heap=Z.heap.push { cls:=.type "list",data:=.seq ([]:List aA).toArray }:=by rw [<- c8]
 have hsz:s3.heap.objs.size=Z.heap.objs.size + 1:=by rw [d3,F1]
 have f3:∀ b∈fp,Q4g X pins (upd H2 Z.heap.objs.size (.lst [])) b:=λb Y=>by
  obtain ⟨g0,g1⟩:=f2 b Y;exact ⟨by rw [Qa (D8 (b8 b Y))]; exact g0,g1⟩
 have k3:∀ b o,Z.heap.get? b=zo o->s3.heap.get? b=zo o:=λb o e=>by rw [d3]; exact O1 _ e
 obtain ⟨a3,a7⟩:∃ a3,ao (s3.heap.objs.size + 1) sc.names cl=a3:=⟨_,rfl⟩;obtain ⟨a1,a2⟩:∃ a1,pushCells (s3.heap.push { cls:=.type "dict",data:=.dict #[] }) sc.names=a1:=⟨_,rfl⟩;have k1:∀ b o,s3.heap.get? b=zo o->a1.get? b=zo o:=λb o e=>by rw [<- a2]; exact pushCells_keeps _ _ b o (O1 _ e)
 have e2:∀ x c,a3.lookup x=zo c->cl.lookup x=zo c\/s3.heap.objs.size + 1<=c:=λx c e=>by
  rw [<- a7] at e;have:=Wu (sc.names) (s3.heap.push { cls:=.type "dict",data:=.dict #[] }) cl x c (by rw [F1]; exact e);rcases this with z | ⟨_,z,_⟩
  ·exact .inl z
  ·rw [F1] at z; exact .inr z
 have I4:Inv (Zz X N' sc a3 s3.heap.objs.size s3 (upd H2 Z.heap.objs.size (.lst [])) fp) [] (xr cap σ) (upd H2 Z.heap.objs.size (.lst [])) { s3 with heap:=a1 }:=by
  rw [<- a7,<- a2];exact Qk2 I3 hN hE ck c1 c2 f3 (λb Y=>D1 (b8 b Y) (by rw [hsz]; exact dF _))
 have d5:tn 0 a1:=T.keep _ _ _ d0 λb Y o e=>k1 b o (k3 b o e)
 generalize G:Zz X N' sc a3 s3.heap.objs.size s3 (upd H2 Z.heap.objs.size (.lst [])) fp=X' at I4;have c5:X'.xe=λ_ _=>False:=by rw [<- G]; rfl
 have O:X'.prog=X.prog:=by rw [<- G]; rfl
 have a4:X'.w=X.w:=by rw [<- G]; rfl
 have d4:X'.K=X.K:=by rw [<- G]; rfl
 have a6:X'.A=X.A:=by rw [<- G]; rfl
 have d1:X'.calm=zb:=by rw [<- G]; exact c3
 have a5:X'.env=compEnvC sc a3 s3.heap.objs.size X.env:=by rw [<- G]; rfl
 have a8:X'.env.locals=s3.heap.objs.size:=by rw [a5]; rfl
 have e5:PG X' tg g:=by rw [<- G]; exact hg _ _ _ _ _
 have e3:PE X' elt te:=by rw [<- G]; exact he _ _ _ _ _
 have d7:PTs X' ifs tt:=by rw [<- G]; exact e4 _ _ _ _ _
 have b0:∀ {H':Hp},(∀ b∈fp,H' b=zl)->∀ b∈fp,Q4g X' [] H' b:=λ{H'} hn b Y=>by
  obtain ⟨_,g1,g2,g3,g4,g5⟩:=f3 b Y;refine ⟨hn b Y,by rw [a8,hsz]; exact D8 (cu (b8 b Y)),?_,?_,?_,λp hp=>?_⟩
  ·rw [<- G];intro z;rcases D6.mp (I3.stkSub b z) with e | z
   ·exact g1 e
   ·exact g2 z
  ·left
   rw [<- G];exact Y
  ·intro x c e;rw [a5] at e;rcases e2 x c e with z | z
   ·exact g4 x c (c1 x c z)
   ·exact λq=>absurd (D1 (b8 b Y) (D9 (D9 (dF _) (hsz ▸ dF _)) (q ▸ z))) (L4 _)
  ·rw [<- G] at hp;cases hp
 have d6:∀ {b1:St} {H':Hp} {s':aC},Inv X' [] b1 H' s'->Q (.ref Z.heap.objs.size) H'->compPost (aI X.prog X.w) X.A X.xe use QQ (.ref Z.heap.objs.size) s3.heap.objs.size (.ok .next) s':=λ{b1 H' s'} J q=>by
  obtain ⟨mm,c7,_⟩:=J.loc;rw [a8] at c7;have c6:H' s3.heap.objs.size=zl:=by have:=J.free; rw [a8] at this; exact this
  have hok:=J.hok;rw [O,a4] at hok;have u1:Un (frs X.stack) fp (upd H2 Z.heap.objs.size (.lst [])) H' s3.heap s'.heap:=by
   have:=J.base;rw [<- G] at this;exact this
  have d9:s'.os=s3.os:=by have:=J.os; rw [<- G] at this; exact this
  refine fin _ _ H' s' mm (I3.call' (s':=s') d9 u1 hok J.bare λb Y=>?_) c7 (I3.fpOk (O5 _) c6) q
  obtain ⟨_,g1,g2,g3,g4,g5⟩:=f3 b Y;exact ⟨g3,g1,g4,g5⟩
 have b2:codeAny (aI X.prog X.w) X.A (.compLoop (.ListComp elt [⟨tg,iter,ifs,0⟩] sc pos) 0 (.ref it) (.ref Z.heap.objs.size) X'.env)
   (compPost (aI X.prog X.w) X.A X.xe use QQ (.ref Z.heap.objs.size) s3.heap.objs.size) { s3 with heap:=a1 }:=by
  refine Q4u (λn s'=>∃ i ys b1 H',Inv X' [] b1 H' s'/\tn i s'.heap/\(∀ b∈fp,H' b=zl)/\W i n ys b1 H') ?_ m0 ⟨0,[],_,_,I4,d5,λb Y=>(f3 b Y).1,w0⟩
  rintro n s5 ⟨i,ys,b5,H5,I5,c9,d2,w5⟩;obtain ⟨f0,q⟩:=turn i n ys b5 H5 w5;rcases q with ⟨stop,q⟩ | ⟨go,e9,step⟩
  ·refine thn (a6 ▸ T.done X' O a4 d4 d1 i [] s5 b5 H5 _ I5 (b0 d2) c9 stop) λr s6 ⟨hr,I6⟩=>?_
   subst hr;exact d6 I6 q
  ·refine thn (a6 ▸ T.item X' O a4 d4 d1 i [] s5 b5 H5 _ I5 (b0 d2) c9 go) λr s6 ⟨u,hr,h6⟩=>?_
   subst hr;refine thn h6 λ_ s7 ⟨x,H7,I7,r7,y7,b3,e0⟩=>?_
   have e6:=I7.pinned (b0 e0) (T.obj _ _ b3);have g7:=e5 _ s7 b5 H7 x u _ e6 r7 (step x H7 y7);rw [O,a4,a6,c5] at g7;refine thn g7 λ_ s8 ⟨b4,H8,I8,q8⟩=>?_
   have t8:=d7 _ s8 b4 H8 _ I8 q8;rw [O,a4,a6,c5] at t8;refine thn t8 λe8 e7 ⟨d8,b6,b7⟩=>?_
   cases e8 with
   | false=>
    rw [bU D2] at b7 ⊢;obtain ⟨m',c0,w9⟩:=b7;refine ⟨m',c0,i + 1,_,b4,_,b6.unpinned,T.keep _ _ _ b3 λb Y o eo=>(b6.pin (b,o) (E6 _ (E6 _ (V5 Y eo)))).1,λb Y=>?_,w9⟩;obtain ⟨o,eo,d⟩:=T.obj _ _ b3 b Y;exact (b6.pin (b,o) (E6 _ (E6 _ (V5 Y eo)))).2.1
   | true=>
   rw [bT rfl] at b7 ⊢;have g8:=e3 _ e7 b4 d8 _ b6 b7;rw [O,a4,a6,c5] at g8;refine thn g8 λy s9 ⟨yv,H9,I9,r9,a9,m',c0,w9⟩=>?_
   obtain ⟨z,its,nn,rr,hl,e⟩:=I9.lstM a9;refine bI F.slot_list_append ⟨_,e,rfl⟩ F.entry_list_append (F.args_list_append_2 _ _) (gM _ its.toArray nn y (by rw [D0]; omega)) ⟨e,?_⟩;have c4:Inv X' ([] ++ Q2x fp s7.heap) b4 (upd H9 Z.heap.objs.size (.lst (ys ++ [yv]))) { s9 with heap:=s9.heap.update Z.heap.objs.size (bp λa=>a.push y) }:=
    I9.lset (t':=s9.toks) (its':=its ++ [y]) a9 e (by simp) (rr.append (.cons r9 .nil)) (by rw [O6,gN]; omega)
   refine ⟨m',c0,i + 1,_,b4,_,c4.unpinned,T.keep _ _ _ b3 λb Y o eo=>(c4.pin (b,o) (E6 _ (E6 _ (V5 Y eo)))).1,λb Y=>?_,w9⟩;obtain ⟨o,eo,d⟩:=T.obj _ _ b3 b Y;exact (c4.pin (b,o) (E6 _ (E6 _ (V5 Y eo)))).2.1
 rw [a5] at b2;have b9:=codeAny_compStart_list (rest:=[]) (ifs:=ifs) b2 (T.self X.A 0 _ _ _ d5 b2);subst c8;rw [<- a7,<- a2] at b9;exact b9
theorem Qhi {elt tg iter:aH} {ifs:List aH} {tt:TT} {pos:Pos} {N N':List Str} {sc scE:Scope} {cap:zAC} {g:TG} {te:TE} (G:X.calm=zb) (hi:PI X tg iter wi)
  (hg:∀ cl C s0 H0 ex,PG (Zz X N' sc cl C s0 H0 ex) tg g) (he:∀ cl C s0 H0 ex,PE (Zz X N' sc cl C s0 H0 ex) elt te) (O:∀ cl C s0 H0 ex,PTs (Zz X N' sc cl C s0 H0 ex) ifs tt)
  (hN:X.N=N:=by rfl) (Y:X.env.scope=scE:=by rfl) (hc:compOkC N N' sc scE cap=zb:=by decide +kernel) (hs:∀ x,bG iter X.env x=pure x:=by intro _; rfl) :
  PE X (.ListComp elt [⟨tg,iter,ifs,0⟩] sc pos) (Q64 cap wi g tt te):=by
 intro pins s σ H Q I h;rw [eval_ListComp];refine Q43 (use:=zl) G hi hg he O hN Y hc hs I h λacc C H' s' m I' hm hf q=>⟨m,hm,λh' J=>?_⟩
 obtain ⟨Z,f1,f2,f3,f4,f5⟩:=hf;exact ⟨.ref acc,H',I'.turned (t':=s'.toks) (λb o hb e=>(J.2 b hb).trans e) Z f1 f3 f4 f5,rfl,q⟩
theorem Qh5 {ifs:List aH} {tt:TT} {i:Nat} {x:Str} {px G:Pos} {elt tg iter:aH} {pos:Pos} {N N':List Str} {sc scE:Scope} {cap:zAC} {g:TG} {te:TE} (Z:X.N.Nodup) (a1:X.N[i]?=zo x) (hx:Loc X.env.scope x) (J:X.calm=zb) (hi:PI X tg iter wi)
  (hg:∀ cl C s0 H0 ex,PG (Zz X N' sc cl C s0 H0 ex) tg g) (he:∀ cl C s0 H0 ex,PE (Zz X N' sc cl C s0 H0 ex) elt te) (a4:∀ cl C s0 H0 ex,PTs (Zz X N' sc cl C s0 H0 ex) ifs tt)
  (a3:swapsWith (.ListComp elt [⟨tg,iter,ifs,0⟩] sc pos) (zo (.Name x px)) G.line X.env=pure zb:=by rfl)
  (hN:X.N=N:=by rfl) (hE:X.env.scope=scE:=by rfl) (hc:compOkC N N' sc scE cap=zb:=by decide +kernel) (hs:∀ x,bG iter X.env x=pure x:=by intro _; rfl)
  (hf:X.fn x=zb\/X.env.scope.names.lookup x=zo .local:=by first | exact .inl rfl | exact .inr rfl | assumption) :
  PS X (.Assign [.Name x px] (.ListComp elt [⟨tg,iter,ifs,0⟩] sc pos) G) (Qr0 (Q64 cap wi g tt te) (Q9e i)):=by
 intro pins s σ H D I h;rw [exec_Assign_Name_used _ _ _ _ a3];refine aD (wpAny_standAt (aD ?_));show aF _ _ (do let _ <- comprehension (.ListComp elt [⟨tg,iter,ifs,0⟩] sc pos) sc X.env _ (newList []) yo (aO iter X.env) (zo (assign (.Name x px) X.env))) _ _ s;refine aD (au (Q43 (use:=zo (assign (.Name x px) X.env)) (QQ:=λ_ s'=>SP X pins D .next s') J hi hg he a4 hN hE hc hs I h ?_) (λ_ s' hq=>wpAny_pure (wpAny_pure hq)) λ_ _ e=>e)
 intro acc C H' s' m I' hm Y q;obtain ⟨f0,f1,f2,f3,f4,f5⟩:=Y;show aF _ _ (assign (.Name x px) X.env (.ref acc)) _ _ _;refine wpAny_assign_Name (Q52 I' Z a1 hx (v:=.ref acc) rfl (λs2 I2 ⟨a,sb,O⟩=>⟨m,?_,λh' a2=>?_⟩) hf)
 ·refine hm.sameBut sb λz=>?_
  rcases O with O | O
  ·exact f1 (z.trans O)
  ·exact f4 x a O z.symm
 ·exact ⟨_,H',I2.turned (t':=s2.toks) (λb o hb e=>(a2.2 b hb).trans e) f0 f1 f3 f4 f5,q⟩
section
section
variable {κ:Type} [DecidableEq κ]
def js (kvs:List (κ × V)) (k:κ):Option V:=(kvs.find? λkv=>decide (kv.1=k)).map (·.2)
def K2 (kvs:List (κ × V)) (k:κ) (v:V):List (κ × V):=
 if (kvs.any λkv=>decide (kv.1=k))=zb then kvs.map (λkv=>if kv.1=k then (kv.1,v) else kv) else kvs ++ [(k,v)]
theorem Q26 {p:κ × V} {r:List (κ × V)} {k:κ} (e:p.1=k):js (p :: r) k=zo p.2:=by simp [js,cP,e]
theorem Q27 {p:κ × V} {r:List (κ × V)} {k:κ} (e:¬ p.1=k):js (p :: r) k=js r k:=by simp [js,cP,e]
theorem Q7q (k:κ):∀ q:List (κ × V),(q.any λkv=>decide (kv.1=k))=(js q k).isSome
 | []=>rfl
 | p :: r=>by
  rw [cH]
  by_cases e:p.1=k
  ·simp only [Q26 e,bW e,Bool.true_or,gX]
  ·rw [Q27 e,bV e,Bool.false_or]; exact Q7q k r
theorem qt (q:List (κ × V)) (k:κ) (v:V):(K2 q k v).length<=q.length + 1:=by
 unfold K2
 split
 ·rw [O0]; omega
 ·rw [O6,D3,cG]; omega
theorem RelO.isSome_eq {u:Option aA} (r:RelO o u):o.isSome=u.isSome:=by
 cases o with
 | none=>cases u with
  | none=>rfl
  | some _=>exact (show False from r).elim
 | some _=>cases u with
  | none=>exact (show False from r).elim
  | some _=>rfl
theorem KV.val {G:List (κ × V)} {vs:List (κ × aA)} (r:KV G vs) (k:κ):RelO (js G k) (bN vs k):=by
 unfold KV at r
 induction r with
 | nil=>exact True.intro
 | @cons p q ps I h t O=>
  obtain ⟨h1,h2⟩:=h
  by_cases e:p.1=k
  ·have J:q.1=k:=h1.symm.trans e;have b:bN (q :: I) k=zo q.2:=by simp [bN,cP,J]
   rw [Q26 e,b]; exact h2
  ·have J:¬ q.1=k:=λz=>e (h1.trans z)
   have b:bN (q :: I) k=bN I k:=by simp [bN,cP,J]
   rw [Q27 e,b]; exact O
theorem KV.any {q:List (κ × V)} {vs:List (κ × aA)} (r:KV q vs) (k:κ):(q.any λkv=>decide (kv.1=k))=vs.any λkv=>decide (kv.1=k):=by
 unfold KV at r
 induction r with
 | nil=>rfl
 | cons h t G=>rw [cH,cH,G,h.1]
theorem KV.repl {G:List (κ × V)} {vs:List (κ × aA)} (r:KV G vs) (k:κ) (I:RelV y u) :
  KV (G.map λkv=>if kv.1=k then (kv.1,y) else kv) (vs.map λkv=>if kv.1=k then (kv.1,u) else kv):=by
 unfold KV at r ⊢
 induction r with
 | nil=>exact .nil
 | @cons p q ps O h t J=>
  rw [D5,D5];refine .cons ?_ J;obtain ⟨h1,h2⟩:=h
  by_cases e:p.1=k
  ·rw [bT e,bT (h1.symm.trans e)]; exact ⟨h1,I⟩
  ·rw [bU e,bU (λz=>e (h1.trans z))]; exact ⟨h1,h2⟩
theorem KV.put {q:List (κ × V)} {vs:List (κ × aA)} (r:KV q vs) (k:κ) (G:RelV y u):KV (K2 q k y) (stored vs k u):=by
 unfold K2 stored;rw [r.any k]
 by_cases e:(vs.any λkv=>decide (kv.1=k))=zb
 ·rw [bT e,bT e]; exact r.repl k G
 ·rw [bU e,bU e]; exact Paired.snoc r ⟨rfl,G⟩
theorem KV.length {q:List (κ × V)} {vs:List (κ × aA)} (r:KV q vs):q.length=vs.length:=Paired.length r
end
theorem Qcz {w:aJ} {k:Key} (r:RelV (kV k) u):(Yh P w).is k u=zb:=by
 cases k with
 | inl i=>obtain ⟨t,e⟩:=(show ∃ t,u=dY i t from r); subst e; exact Q8w P w i t
 | inr x=>obtain ⟨t,e⟩:=(show ∃ t,u=dZ x t from r); subst e; exact Q8v P w x t
abbrev KT (H:Hp):List (HK × V)->List (HK × aB × aA)->Prop:=aR λp q=>p.1=q.1/\KR H p.1 q.2.1/\RelV p.2 q.2.2
theorem KT.val {G:List (HK × V)} (r:KT H G xs) (k:HK):RelO (js G k) ((atKey xs k).map (·.2)):=by
 induction r with
 | nil=>exact True.intro
 | @cons p q ps I h t O=>
  obtain ⟨h1,_,h2⟩:=h
  by_cases e:p.1=k
  ·have J:q.1=k:=h1.symm.trans e;have b:atKey (q :: I) k=zo q.2:=by simp [atKey,cP,J]
   rw [Q26 e,b]; exact h2
  ·have J:¬ q.1=k:=λz=>e (h1.trans z)
   have b:atKey (q :: I) k=atKey I k:=by simp [atKey,cP,J]
   rw [Q27 e,b]; exact O
theorem KT.repl {G:List (HK × V)} (r:KT H G xs) (k:HK) (I:RelV y u) :
  KT H (G.map λkv=>if kv.1=k then (kv.1,y) else kv) (xs.map (putAt k u)):=by
 induction r with
 | nil=>exact .nil
 | @cons p q ps Y h t J=>
  rw [D5,D5];refine .cons ?_ J;obtain ⟨h1,h2,O⟩:=h;unfold putAt
  by_cases e:p.1=k
  ·rw [bT e,bT (h1.symm.trans e)]; exact ⟨h1,h2,I⟩
  ·rw [bU e,bU (λz=>e (h1.trans z))]; exact ⟨h1,h2,O⟩
theorem KT.put {G:List (HK × V)} (r:KT H G xs) (k:HK) (J:KR H k b) (I:RelV y u) :
  KT H (K2 G k y) (storedH xs k b u):=by
 have e:(G.any λkv=>decide (kv.1=k))=(atKey xs k).isSome:=by
  rw [Q7q,(r.val k).isSome_eq,dR]
 unfold K2 storedH;rw [e]
 by_cases q:(atKey xs k).isSome=zb
 ·rw [bT q,bT q]; exact r.repl k I
 ·rw [bU q,bU q]; exact Paired.snoc r ⟨rfl,J,I⟩
theorem KT.keeps {q:List (HK × V)} (r:KT H q xs) (G:∀ b ys,H b=zo (.tup ys)->H' b=zo (.tup ys)):KT H' q xs:=
 Paired.mapP r λ_ _ z=>⟨z.1,z.2.1.keep G,z.2.2⟩
section
variable {P:aK} {w:aJ} {H:Hp} {h:Heap} {a:aB}
theorem Qq6 {u:HO} (ok:HOk P w H h) (e:Rd H a u):ObjOk P w H h a u:=e.ok ok
theorem Q9m {q:List (Key × V)} (ok:HOk P w H h) (e:Rd H a (.dK q)):q.length<=sizeLine/\(a == ar)=yo/\∃ vs,KV q vs/\h.DictOf (Yh P w) a vs:=
 show ObjOk P w H h a (.dK q) from Qq6 ok e
theorem Qxs {q:List (Key × V)} (ok:HOk P w H h) (e:H a=zo (.dK q)):q.length<=sizeLine/\(a == ar)=yo/\∃ vs,KV q vs/\h.DictOf (Yh P w) a vs:=Q9m ok (.inl e)
mutual
theorem Qin (ok:HOk P w H h):∀ {k:HK} {v:V} {u:aA},KAt H k v->RelV v u->KIs h k u
 | .int _,_,_,r,ru=>by cases r; exact ru
 | .str _,_,_,r,ru=>by cases r; exact ru
 | .tup l,_,u,⟨a,vs,e,G,r⟩,ru=>by
  subst e;cases (show u=bZ a from ru);obtain ⟨_,its,q,p⟩:=(show ObjOk P w H h a (.tup vs) from ok a _ G);exact ⟨a,its.toArray,rfl,p,by simpa using katL_is ok r q⟩
theorem katL_is (ok:HOk P w H h):∀ {l:List HK} {vs:List V} {us:List aA},KAtL H l vs->Vals vs us->KIsL h l us
 | [],_,_,r,ru=>by cases r; cases ru; rfl
 | _ :: _,_,_,⟨v,r,e,h1,t⟩,ru=>by
  subst e;cases ru with
  | cons a b=>exact ⟨_,_,rfl,Qin ok h1 a,katL_is ok t b⟩
end
theorem V7 (ok:HOk P w H h) (e:KR H k a):(nk P w).is h k a:=⟨Qin ok e.1 rfl,e.2⟩
theorem Q1t (q:A.units + 9 < aQ):(nk P w).room A.in1:=by show A.units + 1 + 5 < aQ; omega
theorem Q9i {G:List (HK × V)} (ok:HOk P w H h) (e:Rd H a (.dT G)):G.length<=sizeLine/\(a == ar)=yo /\
  ∃ xs,KT H G xs/\h.DictOfH (nk P w) a xs:=by
 obtain ⟨z,y,xs,r,o,es,ep,h1,h2,Y,Z,h5⟩:=(show ObjOk P w H h a (.dT G) from Qq6 ok e);refine ⟨z,y,xs,r,o,es,ep,h1,h2,Y,Z,λx I=>?_,h5⟩;have all:∀ {l:List (HK × V)} {m:List (HK × aB × aA)},KT H l m->∀ x∈m,(nk P w).is h x.1 x.2.1:=by
  intro l m q
  induction q with
  | nil=>intro x I; exact nomatch I
  | @cons p q ps qs J t O=>
   intro x I;rcases D6.mp I with e | I
   ·subst e;exact V7 ok (by rw [<- J.1]; exact J.2.1)
   ·exact O x I
 exact all r x I
theorem Qjf {q:List (HK × V)} (ok:HOk P w H h) (e:H a=zo (.dT q)):q.length<=sizeLine/\(a == ar)=yo /\
  ∃ xs,KT H q xs/\h.DictOfH (nk P w) a xs:=Q9i ok (.inl e)
end
def DGet (H:Hp) (a:aB) (y:V) (r:Option V):Prop:=
 (∃ kvs k,Rd H a (.dK kvs)/\y=kV k/\r=js kvs k)\/∃ kvs k b,Rd H a (.dT kvs)/\y=.ref b/\KR H k b/\r=js kvs k
def DPut (H:Hp) (a:aB) (y v:V) (H':Hp):Prop:=
 (∃ kvs k,H a=zo (.dK kvs)/\y=kV k/\kvs.length < sizeLine/\H'=upd H a (.dK (K2 kvs k v))) \/
 ∃ kvs k b,H a=zo (.dT kvs)/\y=.ref b/\KR H k b/\kvs.length < sizeLine/\H'=upd H a (.dT (K2 kvs k v))
theorem DGet.t {q:List (HK × V)} (e:H a=zo (.dT q)) (G:KR H k b):DGet H a (.ref b) (js q k):=.inr ⟨q,k,b,.inl e,rfl,G,rfl⟩
theorem DPut.t {q:List (HK × V)} {v:V} (e:H a=zo (.dT q)) (I:KR H k b) (G:q.length < sizeLine) :
  DPut H a (.ref b) v (upd H a (.dT (K2 q k v))):=.inr ⟨q,k,b,e,rfl,I,G,rfl⟩
section
variable {X:Cx} {pins:zAA} {σ:St} {H:Hp} {s:aC} {a:aB} {y v:V} {u r:aA} {o:Option V} {A:aL} {E:zAD}
theorem Inv.big (I:Inv X pins σ H s):ar < s.heap.objs.size:=by
 have h:aV < s.heap.objs.size:=(I.mod.glob.keeps I.bk).lt;exact gc (by decide) h
theorem Qf4 (hu:A.units + 9 < aQ) (I:Inv X pins σ H s) (g:DGet H a y (zo v)) (ry:RelV y u) (h:∀ J s',Inv X pins σ H s'->RelV v J->Q J s') :
  aF (aI X.prog X.w) A (getItem (.ref a) u) Q E s:=by
 rcases g with ⟨Y,k,e,Z,l⟩ | ⟨Y,k,b,e,Z,eb,l⟩
 ·subst Z;obtain ⟨z,hd,vs,G,dd⟩:=Q9m I.hok e;obtain ⟨J,O,q⟩:=RelO.some_of (v:=v) (o:=bN vs k) (by rw [l]; exact G.val k);exact wpAny_getItem_of (Qcz ry) dd.mapOf O (h J _ (I.tok _) q)
 ·subst Z;cases (show u=bZ b from ry);obtain ⟨z,hd,xs,G,dd⟩:=Q9i I.hok e;obtain ⟨J,O,q⟩:=RelO.some_of (v:=v) (o:=(atKey xs k).map (·.2)) (by rw [l]; exact G.val k);obtain ⟨p,hp,a1⟩:=Option.map_eq_some_iff.mp O;refine wpAny_getItem_heap (Q1t hu) (V7 I.hok eb) dd hp ?_;rw [a1];exact h J _ (I.tok _) q
theorem J03 (Z:A.units + 9 < aQ) (I:Inv X pins σ H s) (g:DGet H a y o) (Y:RelV y u) (h:∀ s',Inv X pins σ H s'->Q (.bool o.isSome) s') :
  aF (aI X.prog X.w) A (aS .In u (.ref a)) Q E s:=by
 rcases g with ⟨J,k,e,O,l⟩ | ⟨J,k,b,e,O,eb,l⟩
 ·subst O;obtain ⟨z,hd,vs,G,dd⟩:=Q9m I.hok e;refine wpAny_in_of (Qcz Y) hd dd.mapOf ?_;rw [<- (G.val k).isSome_eq,<- l];exact h _ (I.tok _)
 ·subst O;cases (show u=bZ b from Y);obtain ⟨z,hd,xs,G,dd⟩:=Q9i I.hok e;refine wpAny_in_heap (Q1t Z) (V7 I.hok eb) hd dd ?_;have q:=(G.val k).isSome_eq;rw [dR] at q;rw [<- q,<- l];exact h _ (I.tok _)
theorem Qpf (Z:A.units + 9 < aQ) (I:Inv X pins σ H s) (g:DGet H a y o) (Y:RelV y u) (h:∀ s',Inv X pins σ H s'->Q (.bool (!o.isSome)) s') :
  aF (aI X.prog X.w) A (aS .NotIn u (.ref a)) Q E s:=by
 rcases g with ⟨J,k,e,O,l⟩ | ⟨J,k,b,e,O,eb,l⟩
 ·subst O;obtain ⟨z,hd,vs,G,dd⟩:=Q9m I.hok e;refine wpAny_notIn_of (Qcz Y) hd dd.mapOf ?_;rw [<- (G.val k).isSome_eq,<- l];exact h _ (I.tok _)
 ·subst O;cases (show u=bZ b from Y);obtain ⟨z,hd,xs,G,dd⟩:=Q9i I.hok e;refine wpAny_notIn_heap (Q1t Z) (V7 I.hok eb) hd dd ?_;have q:=(G.val k).isSome_eq;rw [dR] at q;rw [<- q,<- l];exact h _ (I.tok _)
theorem Q7c {t':Nat} {ob:HO} (I:Inv X pins σ H s) (J:Mut (H a)) (hs:Heap.SameBut a s.heap h') (O:∃ q,h'.get? a=zo q) (new:ObjOk X.prog X.w (upd H a ob) h' a ob) :
  Inv X pins σ (upd H a ob) { s with heap:=h',toks:=t' }:=
 I.write (x:=a) (e:=a) J (.inl rfl) (λb q G z=>(hs.2 b G).trans z) O new
theorem Qu4 {w:aJ} {H':Hp} {q:List (Key × V)} {vs:List (Key × aA)} (z:q.length<=sizeLine) (hd:(a == ar)=yo) (G:KV q vs) (dd:h'.DictOf (Yh P w) a vs) :
  ObjOk P w H' h' a (.dK q):=⟨z,hd,vs,G,dd⟩
theorem Qf3 {Q:Unit->aC->Prop} (hu:A.units + 9 < aQ) (I:Inv X pins σ H s) (g:DPut H a y v H') (ry:RelV y u) (rv:RelV v r) (h:∀ s',Inv X pins σ H' s'->Q () s') :
  aF (aI X.prog X.w) A (setItem (.ref a) u r) Q E s:=by
 rcases g with ⟨J,k,e,ey,l,eH⟩ | ⟨J,k,b,e,ey,eb,l,eH⟩
 ·subst ey eH;obtain ⟨z,hd,vs,G,dd⟩:=Qxs I.hok e;have hz:vs.length<=sizeLine:=by rw [<- G.length]; exact z
  have Z:(K2 J k v).length<=sizeLine:=by have:=qt J k v; omega
  refine wpAny_setItem_pairs (hsz:=hz) (Qcz ry) dd λh' O hs=>h _ ?_
  have he:∃ q,h'.get? a=zo q:=let ⟨q,_,_,Y,_⟩:=O; ⟨q,Y⟩;exact Q7c I (by rw [e]; exact True.intro) hs he (Qu4 Z hd (G.put k rv) O)
 ·subst ey eH;cases (show u=bZ b from ry);obtain ⟨z,hd,xs,G,dd⟩:=Qjf I.hok e;have hz:xs.length<=sizeLine:=by rw [<- Paired.length G]; exact z
  have Z:(K2 J k v).length<=sizeLine:=by have:=qt J k v; omega
  refine wpAny_setItem_heap (hsz:=hz) (Q1t hu) (V7 I.hok eb) dd λh' O hs=>h _ ?_
  obtain ⟨q,es,ep,Y,h2,h3,h4,_,h5⟩:=O;refine Q7c I (by rw [e]; exact True.intro) hs ⟨q,Y⟩ ⟨Z,hd,_,(G.put k eb rv).keeps λc ys ec=>?_,q,es,ep,Y,h2,h3,h4,h5⟩;rw [Qa (Qi4 ec e (λz=>nomatch z))];exact ec
end
def Quj (i:aH):Prop:=∀ ov iv,subscripted i yo ov iv=operate [ov,iv] (getItem ov iv)
theorem Qkh {prog:aK} {w:aJ} {A:aL} {E:zAD} {s:aC} {env:Env} {value q:aH} {pos:Pos} {T id:String} {Q:zAD}
  (hl:typeLookup (.type T) "__getitem__" = pure (zo (.builtin id))) (hs:Quj q)
  (h:aF (aI prog w) A (aO value env) (λo J=>aF (aI prog w) A (aO q env) (λi G=>G.TypeIs o T/\aF (aI prog w) A (getItem o i) Q E G) E J) E s) :
  aF (aI prog w) A (aO (.Subscript value q pos) env) Q E s:=by
 refine Subscript_ (au h (λo J Y=>au Y (λi G I=>?_) λ_ _ x=>x) λ_ _ x=>x)
 obtain ⟨hT,I⟩:=I;unfold subscriptTail;refine aD ?_;rw [getitemInPython_of_ne hT.not_modules];refine aD (wpAny_specialOf hT hl ?_);have fin:aF (aI prog w) A (subscripted q yo o i) (λr O=>aF (aI prog w) A (letTemporaryGo value o r >>= λ_=>pure r) Q E O) E G:=by
  rw [hs o i];exact wpAny_operating (au I (λr O Z=>aD (wpAny_letTemporaryGo (wpAny_pure Z))) λ_ _ x=>x)
 first
  | exact wpAny_pure (aD fin)
  | exact aD (wpAny_pure (aD fin))
  | exact aD fin
theorem Q9n {pins:zAA} {σ:St} (I:Inv X pins σ H s) (g:DGet H a y o):s.TypeIs (.ref a) "dict" := by
 rcases g with ⟨q,k,e,_,_⟩ | ⟨q,k,b,e,_,_,_⟩
 ·obtain ⟨_,_,vs,_,dd⟩:=Q9m I.hok e;exact dd.typeIs
 ·obtain ⟨_,_,xs,_,dd⟩:=Q9i I.hok e;exact dd.typeIs
def Qve (td ty:TE):TE:=λσ H Q=>td σ H λx H1=>ty σ H1 λy H2=>∃ a v,x=.ref a/\DGet H2 a y (zo v)/\Q v H2
def Qvq (td ty tv:TE):TS:=λD σ H=>tv σ H λv H1=>td σ H1 λx H2=>ty σ H2 λy H3=>∃ a H4,x=.ref a/\DPut H3 a y v H4/\D.nx σ H4
section
variable {X:Cx} {o i e value:aH} {pos pos' tpos:Pos} {td ty tv:TE}
theorem Qmy (Z:X.A.units + 9 < aQ) (J:PE X o td) (hi:PE X i ty) (hs:Quj i):PE X (.Subscript o i pos) (Qve td ty):=by
 intro pins s σ H Q I h;refine Qkh PySem.F.slot_dict_getitem.lookup hs (thn (J pins s σ H _ I h) λu s1 ⟨x,H1,I1,Y,q1⟩=>thn (hi pins s1 σ H1 _ I1 q1) λiv s2 ⟨y,H2,G,ry,a,v,ex,g,q2⟩=>?_)
 subst ex;obtain rfl:u=bZ a:=Y;exact ⟨Q9n G g,Qf4 Z G g ry λw' s3 O q=>⟨v,H2,O,q,q2⟩⟩
theorem Qmj (hu:X.A.units + 9 < aQ) (ho:PE X o td) (hi:PE X i ty) (Z:PE X value tv) (hs:swapsWith value (zo (.Subscript o i pos')) pos.line X.env=pure yo) :
  PS X (.Assign [.Subscript o i pos'] value pos) (Qvq td ty tv):=by
 intro pins s σ H D I h;refine wpAny_Assign_Subscript (thn (Z pins s σ H _ I h) λr s1 ⟨v,H1,I1,rv,O⟩=>thn (ho pins s1 σ H1 _ I1 O) λu G ⟨x,H2,J,q,q2⟩=>thn (hi pins G σ H2 _ J q2) λiv s3 ⟨y,H3,I3,ry,a,H4,ex,g,q3⟩=>?_) hs
 subst ex;obtain rfl:u=bZ a:=q;exact Qf3 hu I3 g ry rv λs4 Y=>⟨σ,H4,Y,q3⟩
end
theorem Q9j {w:aJ} (h:Heap) (q:ar < h.objs.size):ObjOk P w H (h.push { cls:=.type "dict",data:=.dict #[] }) h.objs.size (.dT []):=
 ⟨F8 _,beq_eq_false_iff_ne.mpr (Ne.symm (D8 q)),[],.nil,_,#[],0,O9 _ rfl,⟨rfl,rfl,rfl⟩,rfl,rfl,cQ⟩
def Qqy:TE:=λ_ H Q=>∀ p,H p=zl->Q (.ref p) (upd H p (.dT []))
section
variable {X:Cx} {pos:Pos}
theorem Qhh:PE X (.Dict [] [] pos) Qqy:=λpins s σ H Q I h=>
 wpAny_Dict_empty ⟨.ref s.heap.objs.size,_,I.laid (a:=s.heap.objs.size) (o:=.dT []) (t':=s.toks) (λ_ _ q=>O1 _ q) (O5 _) (Q9j s.heap I.big),rfl,h _ (I.hok.fresh (O5 _))⟩
end
def Qab:List (TE × TE)->St->Hp->(List (V × V)->Hp->Prop)->Prop
 | [],_,H,Q=>Q [] H
 | (tk,tv) :: r,σ,H,Q=>tk σ H λx H1=>tv σ H1 λy H2=>Qab r σ H2 λps H3=>Q ((x,y) :: ps) H3
abbrev VV:List (V × V)->List (aA × aA)->Prop:=aR λp q=>RelV p.1 q.1/\RelV p.2 q.2
def PPs (X:Cx) (pos:Pos) (keys:List (Option aH)) (values:List aH) (trs:List (TE × TE)):Prop:=
 ∀ (pins:zAA) (s:aC) (σ:St) (H:Hp) (Q:List (V × V)->Hp->Prop),Inv X pins σ H s->Qab trs σ H Q ->
  aF (aI X.prog X.w) X.A (evalPairs (pairTrees keys values X.env pos)) (λvs s'=>∃ ps H',Inv X pins σ H' s'/\VV ps vs/\Q ps H') X.xe s
theorem Qmm {pos:Pos}:PPs X pos [] [] []:=λpins s σ H Q I h=>pairTrees_nil_walk ⟨[],H,I,.nil,h⟩
theorem Qha {pos:Pos} {k v:aH} {ks:List (Option aH)} {vs:List aH} {J tv:TE} {q:List (TE × TE)} (hk:PE X k J) (Z:PE X v tv) (hr:PPs X pos ks vs q) :
  PPs X pos (zo k :: ks) (v :: vs) ((J,tv) :: q):=λpins s σ H Q I h=>
 pairTrees_cons_walk (thn (hk pins s σ H _ I h) λu s1 ⟨x,H1,I1,Y,q1⟩=>thn (Z pins s1 σ H1 _ I1 q1) λw2 s2 ⟨y,H2,I2,ry,q2⟩=>
  thn (hr pins s2 σ H2 _ I2 q2) λws s3 ⟨ps,H3,O,G,q3⟩=>⟨(x,y) :: ps,H3,O,.cons ⟨Y,ry⟩ G,q3⟩)
structure M1 (X:Cx) (o:aH) (m:Str) (apos:Pos) (e:aH) (cpos:Pos):Prop where
 base:bM o m X.env (aO o X.env)=aO o X.env
 few:((aY cpos (aN [e] X.env)).all (λx=>!x.1) && (backToKw cpos (keywordEach [] X.env)).all (λx=>x.1.isSome)
  && decide (([e]:List aH).length + ([]:List Keyword).length + (if ([]:List Keyword).isEmpty then 0 else 1) < 30))=zb
 line:(apos.endLine == cpos.line)=zb
 trees:aY cpos (aN [e] X.env)=[(yo,aO e X.env)]
structure M2 (X:Cx) (o:aH) (m:Str) (apos:Pos) (e f:aH) (cpos:Pos):Prop where
 base:bM o m X.env (aO o X.env)=aO o X.env
 few:((aY cpos (aN [e,f] X.env)).all (λx=>!x.1) && (backToKw cpos (keywordEach [] X.env)).all (λx=>x.1.isSome)
  && decide (([e,f]:List aH).length + ([]:List Keyword).length + (if ([]:List Keyword).isEmpty then 0 else 1) < 30))=zb
 line:(apos.endLine == cpos.line)=zb
 trees:aY cpos (aN [e,f] X.env)=[(yo,aO e X.env),(yo,aO f X.env)]
end
section
open AutoSeq1 (wpAny_loadPart')
end
theorem Q8t:typeLookup (.type "list") "keys" = pure zl:=am_miss_of_fast (by decide +kernel)
theorem z8 {prog:aK} {w:aJ} {A:aL} {E:zAD} {s:aC} {a:aB} {xs:Array aA} {k:Nat} {O:Array (Option aA)} {Q:Option aA->aC->Prop}
  (Y:s.heap.get? a=zo { cls:=.type "list",dict:=zl,data:=.seq xs k,slots:=O }) (hA:A.handled=zl)
  (h:∀ h' Z,(∀ b o,s.heap.get? b=zo o->h'.get? b=zo o)->Q zl { s with heap:=h',toks:=Z }) :
  aF (aI prog w) A (getAttr? (.ref a) "keys") Q E s:=by
 obtain ⟨hp,g,d,Z,os⟩:=s;have J:∀ G,(⟨hp,g,d,G,os⟩:aC).TypeIs (.ref a) "list" := λ_=>⟨_,Y,rfl⟩
 have f1:=sub_AttributeError;have f3:=F.slot_list_getattribute.lookup;have f4:=F.slot_list_getattribute.bind (.ref a);have f5:=am_list_getattr_none;have q:(["__module__", "__name__", "__qualname__", "__doc__", "__annotations__"]:List Str).contains "keys" = yo:=by decide +kernel
 unfold getAttr? getAttrBy? getAttrBy
 repeat (any_goals (first | assumption | exact J _ | ((with_reducible show aF _ _ (call (da "list.__getattribute__") _ _) _ _ _); refine bI F.slot_list_getattribute (J _) am_entry_list_getattribute (F.args_list_getattribute_2 _ _) (meets_getattribute_miss_list a xs k O "keys" _ Q8t q) ⟨Y,hA,λh' G e I=>?_⟩) | wp_step))
 obtain ⟨t',u',he⟩:=I.there;show aF _ _ (getattributeRaised _ _ _ _ _ _ _) _ _ _;unfold getattributeRaised
 repeat (any_goals (first | assumption | wp_step))
 exact h _ _ I.of.keeps
theorem Kg:entryFor table "dict.update.loop" = zo Builtin.«dict.update.loop»:=entryFor_of_tree (by kernel_rfl)
theorem Zp:plainId "dict.update.loop" = zb:=by decide +kernel
end L2
namespace L2
open PySem PySem.Spec PyProof.Rows PySem.W
variable {p:Array Nat} {n:Nat}
def evT {α:Type} (c:Nat->Nat->Bool):KasT α->α
 | .ret a=>a
 | .ask i j k=>evT c (k (c i j))
theorem Xu {α β:Type} (c:Nat->Nat->Bool) (f:α->KasT β):∀ t:KasT α,evT c (t.bind f)=evT c (f (evT c t))
 | .ret _=>rfl
 | .ask i j k=>Xu c f (k (c i j))
section
variable (r:Nat->Nat)
def rk (p:Array Nat) (i:Nat):Nat:=r (p.getD i 0)
def cR:Nat->Nat->Bool:=λi j=>decide (r i < r j)
variable {r}
theorem Q88 {q:Array Nat} {i j:Nat} (h:p[i]?=q[j]?):rk r p i=rk r q j:=by
 unfold rk;rw [dG,dG,h]
theorem Qag {i j:Nat} (G:j<=p.size) (k:Nat):rk r (kas_rev p i j) k=if i<=k/\k < j then rk r p (i + j - 1 - k) else rk r p k:=by
 have h:=getElem?_mirror_all (xs:=p) (i:=i) G k
 by_cases q:i<=k/\k < j
 ·rw [bT q] at h ⊢; exact Q88 h
 ·rw [bU q] at h ⊢; exact Q88 h
theorem Qgr {src d:Nat} (hs:src < p.size) (hd:d<=src) (k:Nat):rk r (bubble p src d) k=if k=src - d then rk r p src else if src - d < k/\k<=src then rk r p (k - 1) else rk r p k:=by
 have h:=getElem?_bubble hs d hd k
 by_cases q:k=src - d
 ·rw [bT q] at h ⊢; exact Q88 h
 ·rw [bU q] at h ⊢
  by_cases G:src - d < k/\k<=src
  ·rw [bT G] at h ⊢; exact Q88 h
  ·rw [bU G] at h ⊢; exact Q88 h
theorem ym (i j:Nat):(kas_rev p i j).size=p.size:=mirror_size _ _ _ _
theorem Wh (i j:Nat):(kas_rev p i j).Perm p:=mirror_perm _ _ _ _
theorem Qbu (p:Array Nat):∀ f n,1<=n->n<=evT (cR r) (kas_asc p f n)/\evT (cR r) (kas_asc p f n)<=n + f/\(∀ i,n<=i->i < evT (cR r) (kas_asc p f n)->rk r p (i - 1)<=rk r p i)/\(evT (cR r) (kas_asc p f n) < n + f->rk r p (evT (cR r) (kas_asc p f n)) < rk r p (evT (cR r) (kas_asc p f n) - 1))
 | 0,n,_=>⟨O5 _,O5 _,λi h1 h2=>absurd h2 (by show ¬ i < n; omega),λh=>absurd h (by show ¬ n < n + 0; omega)⟩
 | f + 1,n,O=>by
  have e:evT (cR r) (kas_asc p (f + 1) n)=if rk r p n < rk r p (n - 1) then n else evT (cR r) (kas_asc p f (n + 1)):=by
   show evT (cR r) (if decide (rk r p n < rk r p (n - 1))=zb then KasT.ret n else kas_asc p f (n + 1))=_
   by_cases q:rk r p n < rk r p (n - 1)
   ·rw [bT (by simpa using q),bT q]; rfl
   ·rw [bU (by simpa using q),bU q]
  rw [e]
  by_cases q:rk r p n < rk r p (n - 1)
  ·rw [bT q];exact ⟨O5 _,by omega,λi h1 h2=>by omega,λ_=>q⟩
  ·rw [bU q];obtain ⟨h1,h2,G,I⟩:=Qbu p f (n + 1) (by omega);refine ⟨by omega,by omega,λi J g2=>?_,λg=>I (by omega)⟩
   by_cases z:i=n
   ·subst z; omega
   ·exact G i (by omega) g2
theorem Q2q {i j:Nat} (G:j<=p.size) (h:∀ k,i<=k->k < j->rk r p k=rk r p (j - 1)) (k:Nat):rk r (kas_rev p i j) k=rk r p k:=by
 rw [Qag G]
 by_cases q:i<=k/\k < j
 ·rw [bT q,h (i + j - 1 - k) (by omega) (by omega),h k q.1 q.2]
 ·rw [bU q]
structure Dsc (r:Nat->Nat) (p:Array Nat) (n q:Nat):Prop where
 n1:1<=n
 sz:n<=p.size
 qn:q + 1<=n
 de:∀ i,1<=i->i < n->rk r p i<=rk r p (i - 1)
 eq:∀ i,n - (q + 1)<=i->i < n->rk r p i=rk r p (n - 1)
theorem Q1z:∀ f (p:Array Nat) n q,Dsc r p n q->n + f<=p.size->Dsc r (evT (cR r) (kas_desc f p n q)).1 (evT (cR r) (kas_desc f p n q)).2.1 (evT (cR r) (kas_desc f p n q)).2.2/\(evT (cR r) (kas_desc f p n q)).1.Perm p/\n<=(evT (cR r) (kas_desc f p n q)).2.1/\(evT (cR r) (kas_desc f p n q)).2.1<=n + f
 | 0,p,n,q,h,_=>⟨h,dS _,O5 _,O5 _⟩
 | f + 1,p,n,q,h,hs=>by
  have e:evT (cR r) (kas_desc (f + 1) p n q)=if rk r p n < rk r p (n - 1) then (if q > 0 then evT (cR r) (kas_desc f (kas_rev p (n - (q + 1)) n) (n + 1) 0) else evT (cR r) (kas_desc f p (n + 1) 0)) else if rk r p (n - 1) < rk r p n then (p,n,q) else evT (cR r) (kas_desc f p (n + 1) (q + 1)):=by
   show evT (cR r) (if decide (rk r p n < rk r p (n - 1))=zb then (if q > 0 then kas_desc f (kas_rev p (n - (q + 1)) n) (n + 1) 0 else kas_desc f p (n + 1) 0) else KasT.ask (p.getD (n - 1) 0) (p.getD n 0) λd=>if d=zb then .ret (p,n,q) else kas_desc f p (n + 1) (q + 1))=_
   by_cases z:rk r p n < rk r p (n - 1)
   ·rw [bT (by simpa using z),bT z]
    split <;> rfl
   ·rw [bU (by simpa using z),bU z];show evT (cR r) (if decide (rk r p (n - 1) < rk r p n)=zb then KasT.ret (p,n,q) else kas_desc f p (n + 1) (q + 1))=_
    by_cases I:rk r p (n - 1) < rk r p n
    ·rw [bT (by simpa using I),bT I]; rfl
    ·rw [bU (by simpa using I),bU I]
  rw [e]
  by_cases z:rk r p n < rk r p (n - 1)
  ·rw [bT z]
   by_cases J:q > 0
   ·rw [bT J];have Y:=Q2q (r:=r) (p:=p) (i:=n - (q + 1)) (j:=n) h.sz h.eq;obtain ⟨h1,h2,O,Z⟩:=Q1z f (kas_rev p (n - (q + 1)) n) (n + 1) 0 ⟨by omega,by rw [ym]; omega,by omega,λi G g2=>by
     rw [Y,Y]
     by_cases y:i=n
     ·subst y; omega
     ·exact h.de i G (by omega),λi G g2=>by
     have:i=n:=by omega
     subst this; rfl⟩ (by rw [ym]; omega)
    exact ⟨h1,h2.trans (Wh _ _),by omega,by omega⟩
   ·rw [bU J];obtain ⟨h1,h2,O,Z⟩:=Q1z f p (n + 1) 0 ⟨by omega,by omega,by omega,λi G g2=>by
     by_cases y:i=n
     ·subst y; omega
     ·exact h.de i G (by omega),λi G g2=>by
     have:i=n:=by omega
     subst this; rfl⟩ (by omega)
    exact ⟨h1,h2,by omega,by omega⟩
  ·rw [bU z]
   by_cases I:rk r p (n - 1) < rk r p n
   ·rw [bT I];exact ⟨h,dS _,O5 _,by show n<=n + (f + 1); omega⟩
   ·rw [bU I];have hn:=h.n1;have a1:=h.qn;obtain ⟨h1,h2,O,Z⟩:=Q1z f p (n + 1) (q + 1) ⟨by omega,by omega,by omega,λi G g2=>by
     by_cases y:i=n
     ·subst y; omega
     ·exact h.de i G (by omega),λi G g2=>by
     show rk r p i=rk r p n
     by_cases y:i=n
     ·rw [y]
     ·rw [h.eq i (by omega) (by omega)]; omega⟩ (by omega)
    exact ⟨h1,h2,by omega,by omega⟩
def Srt (r:Nat->Nat) (p:Array Nat) (m:Nat):Prop:=∀ i,1<=i->i < m->rk r p (i - 1)<=rk r p i
theorem Qc4 {nrem:Nat} (G:1<=n) (q:n<=nrem) (hs:nrem<=p.size) (hd:∀ i,1<=i->i < n->rk r p i<=rk r p (i - 1)) :
  1<=(evT (cR r) (kas_tail3 n nrem p)).1/\(evT (cR r) (kas_tail3 n nrem p)).1<=nrem/\Srt r (evT (cR r) (kas_tail3 n nrem p)).2 (evT (cR r) (kas_tail3 n nrem p)).1/\(evT (cR r) (kas_tail3 n nrem p)).2.Perm p:=by
 obtain ⟨h1,h2,I,_⟩:=Qbu (r:=r) (kas_rev p 0 n) (nrem - n) n G;unfold kas_tail3;rw [Xu];show 1<=evT (cR r) (kas_asc (kas_rev p 0 n) (nrem - n) n)/\_/\Srt r (kas_rev p 0 n) _/\(kas_rev p 0 n).Perm p;refine ⟨by omega,by show evT (cR r) (kas_asc (kas_rev p 0 n) (nrem - n) n)<=nrem; omega,λi J g2=>?_,Wh _ _⟩
 by_cases z:i < n
 ·rw [Qag (by omega),Qag (by omega),bT (by omega),bT (by omega)];have:=hd (0 + n - 1 - (i - 1)) (by omega) (by omega);rw [show 0 + n - 1 - (i - 1) - 1=0 + n - 1 - i by omega] at this;exact this
 ·exact I i (by omega) g2
theorem Q17 {nrem:Nat} (hn:1<=n) (Y:n < nrem) (hs:nrem<=p.size) (G:∀ i,i < n->rk r p i=rk r p (n - 1)) (Z:rk r p n < rk r p (n - 1)) :
  1<=(evT (cR r) (kas_descPart n nrem p)).1/\(evT (cR r) (kas_descPart n nrem p)).1<=nrem/\Srt r (evT (cR r) (kas_descPart n nrem p)).2 (evT (cR r) (kas_descPart n nrem p)).1/\(evT (cR r) (kas_descPart n nrem p)).2.Perm p:=by
 obtain ⟨D,P,h3,h4⟩:=Q1z (r:=r) (nrem - (n + 1)) p (n + 1) 0 ⟨by omega,by omega,by omega,λi J g2=>by
  by_cases y:i=n
  ·subst y; omega
  ·rw [G i (by omega),G (i - 1) (by omega)]; exact O5 _,λi J g2=>by
  have:i=n:=by omega
  subst this; rfl⟩ (by omega)
 unfold kas_descPart;rw [Xu];generalize evT (cR r) (kas_desc (nrem - (n + 1)) p (n + 1) 0)=x at*;obtain ⟨I,m,q⟩:=x;have sz:I.size=p.size:=P.size_eq;simp only at D P h3 h4;dsimp only
 by_cases z:q > 0
 ·rw [bT z];have O:=Q2q (r:=r) (p:=I) (i:=m - (q + 1)) (j:=m) D.sz D.eq;obtain ⟨a,b,c,d⟩:=Qc4 (r:=r) (p:=kas_rev I (m - (q + 1)) m) (n:=m) (nrem:=nrem) D.n1 (by omega) (by rw [ym]; omega) (λi J g2=>by rw [O,O]; exact D.de i J g2);exact ⟨a,b,c,(d.trans (Wh _ _)).trans P⟩
 ·rw [bU z];obtain ⟨a,b,c,d⟩:=Qc4 (r:=r) (p:=I) (n:=m) (nrem:=nrem) D.n1 (by omega) (by omega) D.de;exact ⟨a,b,c,d.trans P⟩
theorem Srt.le {m:Nat} (h:Srt r p m):∀ {i j:Nat},i<=j->j < m->rk r p i<=rk r p j:=by
 intro i j I
 induction j with
 | zero => intro _; have : i = 0 := by omega
           subst this; exact O5 _
 | succ j q=>
  intro G
  by_cases z:i=j + 1
  ·subst z; exact O5 _
  ·have h1:=q (by omega) (by omega);have h2:=h (j + 1) (by omega) G;rw [fM] at h2;exact D9 h1 h2
theorem Qjk (hn:1<=n) (hs:n<=p.size) :
  1<=(evT (cR r) (kas_count n p)).1/\(evT (cR r) (kas_count n p)).1<=n/\Srt r (evT (cR r) (kas_count n p)).2 (evT (cR r) (kas_count n p)).1/\(evT (cR r) (kas_count n p)).2.Perm p:=by
 obtain ⟨h1,h2,Y,h4⟩:=Qbu (r:=r) p (n - 1) 1 (O5 _);unfold kas_count;rw [Xu];generalize evT (cR r) (kas_asc p (n - 1) 1)=m at*;have S:Srt r p m:=λi O g2=>Y i O g2
 by_cases z:m=n
 ·subst z;rw [bT (by simp)];exact ⟨h1,O5 _,S,dS _⟩
 ·rw [bU (by simpa using z)];have q:=h4 (by omega)
  by_cases I:m > 1
  ·rw [bT I];show 1<=(evT (cR r) (if decide (rk r p 0 < rk r p (m - 1))=zb then KasT.ret (m,p) else kas_descPart m n (kas_rev p 0 m))).1/\(evT (cR r) (if decide (rk r p 0 < rk r p (m - 1))=zb then KasT.ret (m,p) else kas_descPart m n (kas_rev p 0 m))).1<=n/\Srt r (evT (cR r) (if decide (rk r p 0 < rk r p (m - 1))=zb then KasT.ret (m,p) else kas_descPart m n (kas_rev p 0 m))).2 (evT (cR r) (if decide (rk r p 0 < rk r p (m - 1))=zb then KasT.ret (m,p) else kas_descPart m n (kas_rev p 0 m))).1/\(evT (cR r) (if decide (rk r p 0 < rk r p (m - 1))=zb then KasT.ret (m,p) else kas_descPart m n (kas_rev p 0 m))).2.Perm p
   by_cases J:rk r p 0 < rk r p (m - 1)
   ·rw [bT (by simpa using J)];exact ⟨h1,by show m<=n; omega,S,dS _⟩
   ·rw [bU (by simpa using J)];have eq:∀ i,i < m->rk r p i=rk r p (m - 1):=λi hi=>by
     have a:=S.le (i:=0) (j:=i) (by omega) hi;have b:=S.le (i:=i) (j:=m - 1) (by omega) (by omega);omega
    have G:=Q2q (r:=r) (p:=p) (i:=0) (j:=m) (by omega) (λk _ Z=>eq k Z);obtain ⟨a,b,c,d⟩:=Q17 (r:=r) (p:=kas_rev p 0 m) (n:=m) (nrem:=n) h1 (by omega) (by rw [ym]; exact hs) (λi hi=>by rw [G,G]; exact eq i hi) (by rw [G,G]; exact q);exact ⟨a,b,c,d.trans (Wh _ _)⟩
  ·rw [bU I];have:m=1:=by omega
   subst this;exact Q17 (r:=r) (O5 _) (by omega) hs (λi hi=>by rw [show i=0 by omega]) q
theorem Q2w {p:Array Nat} {k:Nat} (S:Srt r p k):∀ f l q,l<=q->q<=k->q - l<=f->(∀ i,i < l->rk r p i<=rk r p k)->(∀ i,q<=i->i < k->rk r p k < rk r p i) ->
  evT (cR r) (kas_place p k f l q)<=k/\(∀ i,i < evT (cR r) (kas_place p k f l q)->rk r p i<=rk r p k)/\(∀ i,evT (cR r) (kas_place p k f l q)<=i->i < k->rk r p k < rk r p i)
 | 0,l,q,h1,h2,Y,I,J=>by
  have:l=q:=by omega
  subst this;exact ⟨h2,I,J⟩
 | f + 1,l,q,h1,h2,Y,I,J=>by
  by_cases z:l>=q
  ·have:l=q:=by omega
   subst this;have e:evT (cR r) (kas_place p k (f + 1) l l)=l:=by rw [kas_place,bT (O5 _)]; rfl
   rw [e];exact ⟨h2,I,J⟩
  ·have e:evT (cR r) (kas_place p k (f + 1) l q)=if rk r p k < rk r p ((l + q) / 2) then evT (cR r) (kas_place p k f l ((l + q) / 2)) else evT (cR r) (kas_place p k f ((l + q) / 2 + 1) q):=by
    rw [kas_place,bU z];show evT (cR r) (if decide (rk r p k < rk r p ((l + q) / 2))=zb then kas_place p k f l ((l + q) / 2) else kas_place p k f ((l + q) / 2 + 1) q)=_
    by_cases y:rk r p k < rk r p ((l + q) / 2)
    ·rw [bT (by simpa using y),bT y]
    ·rw [bU (by simpa using y),bU y]
   rw [e];have m1:l<=(l + q) / 2:=by omega
   have Z:(l + q) / 2 < q:=by omega
   generalize (l + q) / 2=G at*
   by_cases y:rk r p k < rk r p G
   ·rw [bT y];exact Q2w S f l G m1 (by omega) (by omega) I λi O g2=>D1 y (S.le O g2)
   ·rw [bU y];exact Q2w S f (G + 1) q (by omega) h2 (by omega) (λi g=>D9 (S.le (show i<=G by omega) (by omega)) (by omega)) J
theorem Qk3:∀ f (p:Array Nat) k,1<=k->k + f<=p.size->Srt r p k->Srt r (evT (cR r) (kas_bin f p k)) (k + f)/\(evT (cR r) (kas_bin f p k)).Perm p
 | 0,p,k,_,_,S=>⟨S,dS _⟩
 | f + 1,p,k,I,hs,S=>by
  obtain ⟨h1,h2,G⟩:=Q2w S k 0 k (F8 _) (O5 _) (by omega) (λi g=>by omega) (λi q g2=>by omega);have e:evT (cR r) (kas_bin (f + 1) p k)=evT (cR r) (kas_bin f (bubble p k (k - evT (cR r) (kas_place p k k 0 k))) (k + 1)):=by rw [kas_bin,Xu]
  rw [e];generalize evT (cR r) (kas_place p k k 0 k)=l at*;have S2:Srt r (bubble p k (k - l)) (k + 1):=λi q g2=>by
   rw [Qgr (by omega) (by omega),Qgr (by omega) (by omega),show k - (k - l)=l by omega]
   by_cases a:i=l
   ·subst a;rw [bU (by omega),bU (by omega),bT rfl];exact h2 (i - 1) (by omega)
   ·by_cases b:i - 1=l
    ·rw [bT b,bU a,bT (by omega),b];exact cn (G l (O5 _) (by omega))
    ·rw [bU b,bU a]
     by_cases c:l < i
     ·rw [bT (by omega),bT (by omega)];exact S (i - 1) (by omega) (by omega)
     ·rw [bU (by omega),bU (by omega)];exact S i q (by omega)
  obtain ⟨a,b⟩:=Qk3 f (bubble p k (k - l)) (k + 1) (by omega) (by rw [bubble_size]; omega) S2;exact ⟨by rw [show k + (f + 1)=k + 1 + f by omega]; exact a,b.trans (bubble_perm _ _ _)⟩
theorem Qkq (I:1<=n):Srt r (evT (cR r) (kas_sort n)) n/\(evT (cR r) (kas_sort n)).Perm (cB (bY n)):=by
 obtain ⟨h1,h2,G,q⟩:=Qjk (r:=r) (p:=cB (bY n)) (n:=n) I (by simp);unfold kas_sort;rw [Xu];generalize evT (cR r) (kas_count n (cB (bY n)))=x at*;obtain ⟨m,p⟩:=x;have sz:p.size=n:=by have:=q.size_eq; simpa using this
 simp only at h1 h2 G q;dsimp only
 by_cases z:m < n
 ·rw [bT z,show max m 1=m by omega];obtain ⟨a,b⟩:=Qk3 (r:=r) (n - m) p m h1 (by omega) G;rw [show m + (n - m)=n by omega] at a;exact ⟨a,b.trans q⟩
 ·rw [bU z];have:m=n:=by omega
  subst this;exact ⟨G,q⟩
end
def Asks {α:Type} (n:Nat):KasT α->(α->Prop)->Prop
 | .ret a,P=>P a
 | .ask i j k,P=>i < n/\j < n/\∀ b,Asks n (k b) P
theorem Asks.bind {α β:Type} {P:α->Prop} {Q:β->Prop} {f:α->KasT β} (q:∀ a,P a->Asks n (f a) Q):∀ {t:KasT α},Asks n t P->Asks n (t.bind f) Q
 | .ret a,h=>q a h
 | .ask i j k,h=>⟨h.1,h.2.1,λb=>Asks.bind q (h.2.2 b)⟩
def AL (n:Nat) (p:Array Nat):Prop:=0 < n/\∀ x∈p.toList,x < n
theorem AL.get (h:AL n p) (i:Nat):p.getD i 0 < n:=by
 rw [dG]
 by_cases z:i < p.size
 ·rw [bi z];exact h.2 _ (by simp)
 ·rw [cY (by omega)]; exact h.1
theorem AL.perm {q:Array Nat} (h:AL n p) (e:q.Perm p):AL n q:=⟨h.1,λx G=>h.2 x ((gf.mp e).mem_iff.mp G)⟩
theorem Ww {α:Type} {P:α->Prop} {c:Prop} [Decidable c] {t u:KasT α} (h1:Asks n t P) (h2:Asks n u P):Asks n (if c then t else u) P:=by
 split
 ·exact h1
 ·exact h2
theorem Q4c {n:Nat} {p:Array Nat} (h:AL n p):∀ f m,Asks n (kas_asc p f m) (λ_=>True)
 | 0,m=>trivial
 | f + 1,m=>⟨h.get _,h.get _,λb=>Ww trivial (Q4c h f (m + 1))⟩
theorem jr {n:Nat}:∀ f (p:Array Nat) m q,AL n p->Asks n (kas_desc f p m q) (λx=>AL n x.1)
 | 0,p,m,q,h=>h
 | f + 1,p,m,q,h=>⟨h.get _,h.get _,λb=>Ww (Ww (jr f _ _ _ (h.perm (Wh _ _))) (jr f _ _ _ h)) ⟨h.get _,h.get _,λd=>Ww h (jr f _ _ _ h)⟩⟩
theorem Q5z (h:AL n p) (m k:Nat):Asks n (kas_tail3 m k p) (λx=>AL n x.2):=by
 unfold kas_tail3;refine Asks.bind (P:=λ_=>True) (λa _=>?_) (Q4c (h.perm (Wh _ _)) _ _);exact h.perm (Wh _ _)
theorem ze (h:AL n p) (m k:Nat):Asks n (kas_descPart m k p) (λx=>AL n x.2):=
 Asks.bind (λx q=>Ww (Q5z (AL.perm q (Wh _ _)) _ _) (Q5z q _ _)) (jr _ _ _ _ h)
theorem Qbt (h:AL n p) (k:Nat):Asks n (kas_count k p) (λx=>AL n x.2):=by
 unfold kas_count;refine Asks.bind (P:=λ_=>True) (λm _=>?_) (Q4c h _ _);refine Ww (show AL n p from h) (Ww ?_ (ze h _ _));exact ⟨h.get _,h.get _,λc=>Ww (show AL n p from h) (ze (h.perm (Wh _ _)) _ _)⟩
theorem yf {n:Nat} {p:Array Nat} (h:AL n p) (k:Nat):∀ f l q,Asks n (kas_place p k f l q) (λ_=>True)
 | 0,_,_=>trivial
 | f + 1,l,q=>by
  rw [kas_place];exact Ww trivial ⟨h.get _,h.get _,λc=>Ww (yf h k f _ _) (yf h k f _ _)⟩
theorem Qa2 {n:Nat}:∀ f (p:Array Nat) k,AL n p->Asks n (kas_bin f p k) (λ_=>True)
 | 0,_,_,_=>trivial
 | f + 1,p,k,h=>by
  rw [kas_bin];exact Asks.bind (λl _=>Qa2 f _ _ (h.perm (bubble_perm _ _ _))) (yf h k _ _ _)
theorem Qfg (G:1<=n):Asks n (kas_sort n) (λ_=>True):=by
 have h:AL n (cB (bY n)):=⟨G,λx q=>by simpa using q⟩;unfold kas_sort;refine Asks.bind (P:=λx=>AL n x.2) (λx q=>?_) (Qbt h n);exact Ww (Qa2 _ _ _ q) (show True from trivial)
theorem Q9a {α:Type} {G:Nat->Nat->(Bool->aC->Prop)->aC->Prop} {c:Nat->Nat->Bool} {n:Nat} {s:aC} (h:∀ i j (C:Bool->aC->Prop),i < n->j < n->C (c i j) s->G i j C s) :
  ∀ (t:KasT α) (P:α->Prop) (Q:α->aC->Prop),Asks n t P->Q (evT c t) s->t.kasWp G Q s
 | .ret a,_,_,_,q=>q
 | .ask i j k,P,Q,a,q=>h i j _ a.1 a.2.1 (Q9a h (k (c i j)) P Q (a.2.2 _) q)
variable {prog:aK} {A:aL} {E:zAD} {s:aC}
section
variable {w:aJ}
theorem za {α:Type} {p q:α->Bool}:∀ {l:List α},(∀ x∈l,p x=zb->q x=zb)->(∃ x∈l,p x=yo/\q x=zb)->(l.filter p).length < (l.filter q).length
 | [],_,h=>by obtain ⟨_,h,_⟩:=h; cases h
 | x :: l,h,J=>by
  have O:(l.filter p).length<=(l.filter q).length:=by
   clear J
   induction l with
   | nil=>exact O5 _
   | cons y l G=>
    have G:=G λz hz=>h z (by rcases D6.mp hz with rfl | hz <;> simp [*])
    have I:=h y (by simp);rw [dH,dH]
    by_cases a:p y=zb
    ·rw [bT a,bT (I a)]; simp; exact G
    ·rw [bU a]
     split
     ·simp; omega
     ·exact G
  rw [dH,dH];obtain ⟨y,I,h1,h2⟩:=J;rcases D6.mp I with rfl | I
  ·rw [h1,h2]; simp; omega
  ·have G:=za (λz hz=>h z (O4 _ hz)) ⟨y,I,h1,h2⟩
   by_cases a:p x=zb
   ·rw [bT a,bT (h x (by simp) a)]; simp; exact G
   ·rw [bU a]
    split
    ·simp; omega
    ·exact G
end
end L2
namespace L2
open PySem PySem.Spec PyProof.Rows
end L2
namespace L2
open PySem PySem.Spec PyProof.Rows PySem.W
end L2
namespace L2
open PySem PySem.Spec PyProof.Rows
variable {a:aB} {es:Array DictEntry} {ep:Nat} {h:Heap} {Q:Option aA->aC->Prop}
def RawD (h:Heap) (a:aB) (es:Array DictEntry) (ep:Nat):Prop:=∃ o,h.get? a=zo o/\o.ExactDict/\o.data=.dict es ep
variable {prog:aK} {A:aL} {E:zAD} {s:aC}
section
variable {w:aJ}
theorem RawD.typeIs (h:RawD s.heap a es ep):s.TypeIs (.ref a) "dict" := let ⟨o,e,x,_⟩:=h; ⟨o,e,x.1⟩
theorem RawD.obj (x:RawD h a es ep):h.get? a=zo { cls:=.type "dict",dict:=zl,data:=.dict es ep,slots:=#[] }:=by
 obtain ⟨⟨c,G,q,I⟩,ho,⟨h1,h2,h3⟩,h4⟩:=x;simp only at h1 h2 h3 h4;subst h1 h2 h3 h4;exact ho
theorem Qgv {d:aB} {Q:zAD} (hd:(d == ar)=yo) (hm:RawD s.heap d es ep)
  (G:Q (.ref s.heap.objs.size) { s with heap:=s.heap.push { cls:=.type "dict_keyiterator",data:=.fields #[.ref d,.int 0 0,.int es.size 0,.int ep 0] } }) :
  aF (aI prog w) A (pyIter (.ref d)) Q E s:=by
 have q:=hm.typeIs;have Y:=hm.obj;obtain ⟨O,g,I,J,os⟩:=s;refine wpAny_pyIter_slot q gi (ah gi q PySem.F.entry_dict_iter ?_ (PySem.F.args_dict_iter_1 _));unfold Builtin.«dict.__iter__» Builtin.Dict.dictSlotNone
 repeat (any_goals (first | assumption | wp_step))
 refine ⟨_,rfl, "dict_keyiterator",_,⟨_,O9 _ rfl,rfl⟩,PySem.F.slot_dict_keyiterator_next.lookup,G⟩
theorem Q3t:Builtin.Dict_items.ownsTuple ((Manifest.find? "dict_keyiterator").elim "dict_keyiterator" λx=>x.tpName)=yo:=by decide +kernel
theorem Qgw {it d:aB} {i:Nat} {e:DictEntry} {Q:Option aA->aC->Prop} (q:s.heap.IsKeyIter it d i es.size ep) (hm:RawD s.heap d es ep) (O:es[i]?=zo e)
  (J:∀ h',h'.IsKeyIter it d (i + 1) es.size ep->Heap.SameBut it s.heap h'->Q (zo e.key) { s with heap:=h' }) :
  aF (aI prog w) A (af (.ref it)) Q E s:=by
 have G:=q.typeIs;have ho:=hm.obj;obtain ⟨⟨c,Y,I,sl⟩,hoi,hci,hdi⟩:=q;simp only at hci hdi;subst hci hdi;obtain ⟨hp,g,Z,tk,os⟩:=s;unfold af;refine aD (wpAny_attempt (wpAny_callSpecial?_slot (name:=cE "__next__") G dz (ah dz G gj ?_ (gk _))))
 repeat (any_goals (first | assumption | wp_step))
 simp only [Q3t,E7,if_false];simp only [show ¬ ((i:Int) < 0) by omega,if_false,bo,O]
 repeat (any_goals (first | assumption | wp_step))
 simp only [Q3t,E7,if_false];rw [bU (show ¬ ((_:Bool)=zb) by decide +kernel)];refine ⟨_,rfl,wpAny_pure (J _ ⟨_,G9 _ hoi rfl,rfl,?_⟩ (Heap.SameBut.update ..))⟩;simp [cv,aU]
theorem Qm9 {it d:aB} {i:Nat} {Q:Option aA->aC->Prop} (O:A.handled=zl) (q:s.heap.IsKeyIter it d i es.size ep) (hm:RawD s.heap d es ep) (Z:es[i]?=zl)
  (Y:∀ h',Heap.ExtBut it s.heap h'->Q zl { s with heap:=h' }) :
  aF (aI prog w) A (af (.ref it)) Q E s:=by
 have G:=q.typeIs;have ho:=hm.obj;obtain ⟨⟨c,a1,J,sl⟩,hoi,hci,hdi⟩:=q;simp only at hci hdi;subst hci hdi;obtain ⟨hp,g,dr,tk,os⟩:=s;unfold af;refine aD (wpAny_attempt (wpAny_callSpecial?_slot (name:=cE "__next__") G dz (ah dz G gj ?_ (gk _))))
 repeat (any_goals (first | assumption | wp_step))
 simp only [Q3t,E7,if_false];simp only [show ¬ ((i:Int) < 0) by omega,if_false,bo,Z];have I:=isSubtype_stop
 repeat (any_goals (first | assumption | wp_step))
 unfold bS;refine aD (wpAny_handled ?_);rw [show A.in1.handled=zl from O];refine aD (wpAny_pure (wpAny_throw ?_));refine aD (bJ (T := "StopIteration") (b:=zb) ⟨_,O9 _ rfl,rfl⟩ isSubtype_stop ?_);exact wpAny_pure (Y _ (((Heap.SameBut.update ..).extBut.push _).push _))
theorem RawD.at {h':Heap} (x:RawD h a es ep) (k:∀ o,h.get? a=zo o->h'.get? a=zo o):RawD h' a es ep:=let ⟨o,e,r⟩:=x; ⟨o,k o e,r⟩
theorem RawD.lt (x:RawD h a es ep):a < h.objs.size:=let ⟨_,e,_⟩:=x; O7 e
theorem Qdk (hh:A.handled=zl) (I d:aB) (Z:d≠I) (es:Array DictEntry) (ep:Nat) :
  Walks prog w A I [I,d] [I] es.size (λi v=>∃ e,es[i]?=zo e/\v=e.key) (λi h=>h.IsKeyIter I d i es.size ep/\RawD h d es ep) where
 sub:=λb q=>by simp at q; simp [q]
 frame:=λ_ _ _ st hk=>⟨st.1.at λo e=>hk I (by simp) o e,st.2.at λo e=>hk d (by simp) o e⟩
 item:=λi s Q E hi st G=>by
  refine Qgw st.1 st.2 (bi hi) λh' J O=>?_
  exact G _ h' s.toks ⟨_,bi hi,rfl⟩ ⟨J,st.2.at λo e=>(O.2 d Z).trans e⟩ λb o q e=>O.extBut b o (λh=>q (by simp [h])) e
 done:=λs Q E st G=>Qm9 hh st.1 st.2 (by simp) λh' Y=>G h' s.toks λb o q e=>Y b o (λh=>q (by simp [h])) e
 self:=λ_ _ _ _ st G=>wpAny_pyIter_keyiter st.1 G
theorem Qc9 {d:aB} (lo:(d == ar)=yo):PySem.W.KdlSrc prog w "dict" d d es.size (λi v=>∃ e,es[i]?=zo e/\v=e.key) (λh=>RawD h d es ep) where
 type:=λ_ hm=>hm.typeIs
 there:=λ_ hm=>⟨hm.lt,hm.lt⟩
 keep:=λ_ _ hm G=>hm.at λo e=>G d (.inl rfl) o e
 notList:=by decide
 notTuple:=by decide
 hint:=λ_ _ _ _ hm q=>PySem.W.kdl_hint_dict hm.typeIs q
 iter:=λ_ _ I hm=>⟨_,_,(λ_ _ q=>Qgv lo hm q),Qdk I _ d (D8 hm.lt) es ep,⟨⟨_,O9 _ rfl,rfl,rfl⟩,hm.at λo e=>O1 _ e⟩⟩
theorem Q9v {d:aB} {Q:List aA->aC->Prop} (lo:(d == ar)=yo) (Z:A.handled=zl) (hm:RawD s.heap d es ep) (hn:es.size<=sizeLine)
  (h:∀ h' Y,(∀ b o,s.heap.get? b=zo o->h'.get? b=zo o)->s.heap.objs.size<=h'.objs.size->Q (es.toList.map (·.key)) { s with heap:=h',toks:=Y }):aF (aI prog w) A (collect (.ref d)) Q E s:=by
 unfold collect;refine aD (wpAny_runValue (bC gm ?_));rw [Around.under_plainId gn _];show aF _ A.in1 (newList [] >>= λl=>again (.builtin "list.__iadd__" ⟨[l,.ref d],[]⟩)) _ _ s
 refine aD (av ?_);refine wpAny_pure ⟨bD eA _,bC gq ?_⟩;rw [Around.under_plainId eA _];have hS:(s.heap.push { cls:=.type "list",data:=.seq ([]:List aA).toArray }).get? s.heap.objs.size=zo { cls:=.type "list",data:=.seq ([]:List aA).toArray }:=O9 _ rfl;have I:∀ b o,s.heap.get? b=zo o->(s.heap.push { cls:=.type "list",data:=.seq ([]:List aA).toArray }).get? b=zo o:=λb o e=>O1 _ e
 have J:s.heap.objs.size≠d:=L9 hm.lt;show aF _ A.in1 (Builtin.List.listExtendWith (.ref s.heap.objs.size) (.ref d) (.ref s.heap.objs.size)) _ _ _;refine PySem.W.kdl_extend (prog:=prog) (w:=w) (A:=A) (R:=λr s'=>match r with | .ok (.ret v)=>aF (aI prog w) A (match v with | .ref a=>do { let o <- load a; match o.data with | .seq xs _=>pure xs.toList | _=>unsupported "internal:collect" } | _=>unsupported "internal:collect") Q E s' | .ok _=>False | .error e=>E e s') (s:={ s with heap:=s.heap.push { cls:=.type "list",data:=.seq ([]:List aA).toArray } }) (Qc9 (es:=es) (ep:=ep) lo) Z (hm.at λo e=>I d o e) s.heap.objs.size J J _ _ hS (λh' Y acc c hk O G=>?_) hn
 show aF _ A (load s.heap.objs.size >>= _) _ _ _;refine aD (wpAny_load O ?_);have e:acc.toList=es.toList.map (·.key):=by
  apply cS;intro i
  by_cases z:i < es.size
  ·have hi:i < acc.size:=by rw [G.1]; exact z
   obtain ⟨e,h1,h2⟩:=G.2 i acc[i] (bi hi);rw [bh,bi hi,h2,D7,bh,h1]; rfl
  ·rw [bh,cY (by rw [G.1]; omega),D7,bh,cY (by omega)]; rfl
 show aF _ _ (pure acc.toList) _ _ _;rw [e];exact wpAny_pure (h h' Y (λb o q=>hk b o (D8 (O7 q)) (I b o q)) (cn (O7 O)))
end
end L2
namespace L2
open PySem PySem.Spec PyProof.Rows PySem.W
variable {prog:aK} {A:aL} {E:zAD} {s:aC}
section
variable {w:aJ}
theorem Q7h {d:aB} {es:Array DictEntry} {ep:Nat} {Q:zAD} (lo:(d == ar)=yo) (hm:RawD s.heap d es ep) (q:es.size < 1000000) (h:∀ t G,Q (.int es.size t) { s with toks:=G }):aF (aI prog w) A (call (.builtin "len") [.ref d]) Q E s:=by
 have I:=hm.typeIs;have ho:=hm.obj;have Y:((es.size:Int) < 2 ^ 63):=by omega
 obtain ⟨Z,g,O,G,os⟩:=s;refine Calls.call_function_entry kind_len plain_len entry_len (args_len1 _) ?_;unfold Builtin.«len»;have f1:=PySem.F.slot_dict_len.lookup;have f2:=PySem.F.slot_dict_len.bind (.ref d)
 repeat (any_goals (first | assumption | ((with_reducible show aF _ _ (call (da "dict.__len__") _ _) _ _ _); refine ah PySem.F.slot_dict_len I PySem.F.entry_dict_len ?_ (PySem.F.args_dict_len_1 _)) | wp_step))
 refine ⟨_,rfl,?_⟩;have J:((es.size:Int) + ((0:Nat):Int))=(es.size:Int):=by omega
 rw [J];have n1:¬ ((es.size:Int)>=2 ^ 63):=by omega
 have n2:¬ ((es.size:Int) < 0):=by omega
 repeat (any_goals (first | assumption | wp_step))
 rw [bU n1]
 repeat (any_goals (first | assumption | wp_step))
 exact ⟨_,rfl,h _ _⟩
end
theorem Qbg {P:aK} {w:aJ} {H:Hp} {h:Heap} {a:aB} {G:List (HK × V)} (ok:HOk P w H h) (e:H a=zo (.dT G)):G.length<=sizeLine/\(a == ar)=yo/\∃ es ep J,RawD h a es ep/\es.toList.map (·.key)=J.map bZ/\aR (λ(p:HK × V) (b:aB)=>KR H p.1 b) G J:=by
 obtain ⟨z,hs,xs,I,o,es,ep,ho,hx,hd,O,Y⟩:=ok a _ e;refine ⟨z,hs,es,ep,xs.map (λq=>q.2.1),⟨o,ho,hx,hd⟩,?_,?_⟩
 ·rw [O,G8,G8];exact cX λq _=>rfl
 ·clear O Y z e
  induction I with
  | nil=>exact .nil
  | cons hr _ Z=>exact .cons hr.2.1 Z
variable {X:Cx}
theorem Qbm:Wz X (.builtin "len") (λxs H Q=>∃ a,∃ G:List (HK × V),xs=[.ref a]/\H a=zo (.dT G)/\G.length < 1000000/\Q (.int G.length) H):=by
 intro pins s σ H xs us Q I r h;obtain ⟨a,G,rfl,Z,hl,q⟩:=h;obtain ⟨u,rfl,O⟩:=Uq r;cases O;obtain ⟨z,hs,es,ep,Y,hr,hk,J⟩:=Qbg I.hok Z;have l1:G.length=Y.length:=Paired.length J;have l2:es.size=G.length:=by
  have:=congrArg cy hk;simp at this;omega
 refine Q7h hs hr (by omega) λt tk=>?_
 exact ⟨.int G.length,H,I.tok _,⟨t,by rw [l2]⟩,q⟩
end L2
namespace L2
open PySem PySem.Spec PyProof.Rows
variable {X:Cx} {xs:Array Nat} {j n ep:Nat} {L:Bool} {α K:Type} {h:Heap} {a it r:aB} {es:zAB} {f:aA} {Q:Option aA->aC->Prop} {ys:Option (aB × List Nat)}
def Qqx (tk tv:TE):TE:=λσ H Q=>∀ p,H p=zl->Qab [(tk,tv)] σ (upd H p (.dT [])) λps H2=>∃ (ks:HK) (b:aB) (y:V),ps=[(.ref b,y)]/\KR H2 ks b/\H2 p=zo (.dT [])/\Q (.ref p) (upd H2 p (.dT [(ks,y)]))
theorem Qea {pos:Pos} {k v:aH} {tk tv:TE} (hu:X.A.units + 5 < aQ) (hk:PE X k tk) (hv:PE X v tv):PE X (.Dict [zo k] [v] pos) (Qqx tk tv):=by
 intro pins s σ H Q I q;have hn:=I.hok.fresh (O5 s.heap.objs.size);have I1:=I.laid (a:=s.heap.objs.size) (o:=.dT []) (h':=s.heap.push { cls:=.type "dict",data:=.dict #[] }) (t':=s.toks) (λ_ _ q=>O1 _ q) (O5 _) (Q9j s.heap I.big);rw [arm_eval_Dict,zip_pairTrees [zo k] [v] X.env pos rfl rfl,dictDisplay_pairs _ (by simp [pairTrees]) (by simp [pairTrees])];refine aD (wpAny_standAt (aD ?_));unfold subDict;refine aD (wpAny_alloc (aD (ak ?_)));rw [bT (by simp [pairTrees])];refine aD (thn ((Qha hk hv Qmm) pins _ σ _ _ I1 (q _ hn)) λws s2 ⟨ps,H2,J,G,ks,b,y,ep,Z,e,q2⟩=>?_)
 subst ep;obtain ⟨⟨u,r⟩,rfl,r1,r2⟩:∃ p:aA × aA,ws=[p]/\RelV (.ref b) p.1/\RelV y p.2:=by
  cases G with
  | @cons a c as bs h t=>
   cases t;exact ⟨_,rfl,h.1,h.2⟩
 cases (show u=bZ b from r1);obtain ⟨z,hd,xs,G,dd⟩:=Qjf J.hok e;cases G;refine ak ?_;refine aD ?_;rw [dP];refine aD (aD (wpAny_dictSet_heap (hsz:=by simp) (knd:=nk X.prog X.w) hu (V7 J.hok Z) dd λh' O hs=>wpAny_pure ?_))
 dsimp only;rw [dq];refine wpAny_pure (wpAny_pure (wpAny_pure (wpAny_pure ⟨.ref s.heap.objs.size,_,?_,rfl,q2⟩)));obtain ⟨o,es,ep,Y,h2,h3,h4,_,h5⟩:=O;refine Q7c J (by rw [e]; exact True.intro) hs ⟨o,Y⟩ ⟨by simp [sizeLine_eq],hd,[(ks,b,r)],.cons ⟨rfl,?_,r2⟩ .nil,o,es,ep,Y,h2,h3,by simpa [storedH,atKey] using h4,by simp⟩;exact Z.keep λc ys ec=>by rw [Qa (Qi4 ec e (λz=>nomatch z))]; exact ec
def Rise (xs:Array Nat):Prop:=xs.toList.Pairwise (· < ·)
theorem Rise.lt (r:Rise xs) {i a b:Nat} (hi:xs[i]?=zo a) (J:xs[j]?=zo b) (h:i < j):a < b:=by
 have q:=eB.mp r;obtain ⟨I,Y⟩:=cA.mp hi;obtain ⟨G,O⟩:=cA.mp J;have:=q i j (by simpa using I) (by simpa using G) h;simp only [Array.getElem_toList] at this;rw [<- Y,<- O]; exact this
theorem Qk5 (r:Rise xs):∀ G lo hi,hi - lo<=G->lo<=hi->hi<=xs.size->(∀ i v,xs[i]?=zo v->i < lo->v < j)->(∀ i v,xs[i]?=zo v->hi<=i->j<=v) ->
  SetTable.below.go xs j G lo hi<=xs.size/\∀ i v,xs[i]?=zo v->(i < SetTable.below.go xs j G lo hi <-> v < j):=by
 intro G
 induction G with
 | zero=>
  intro lo hi h1 h2 Z a b;have e:lo=hi:=by omega
  rw [SetTable.below.go];refine ⟨by omega,λi v I=>⟨a i v I,λh=>?_⟩⟩
  by_cases z:i < lo
  ·exact z
  ·have:=b i v I (by omega); omega
 | succ G Y=>
  intro lo hi h1 h2 Z a b;rw [SetTable.below.go]
  by_cases z:lo < hi
  ·rw [bT z];dsimp only;have hm:(lo + hi) / 2 < xs.size:=by omega
   have J:xs[(lo + hi) / 2]?=zo xs[(lo + hi) / 2]:=bi hm;have ed:xs.getD ((lo + hi) / 2) j=xs[(lo + hi) / 2]:=by simp [dI,hm]
   rw [ed]
   by_cases y:xs[(lo + hi) / 2] < j
   ·rw [bT y];refine Y _ _ (by omega) (by omega) Z (λi v I O=>?_) b
    by_cases q:i=(lo + hi) / 2
    ·subst q; rw [J] at I; cases I; exact y
    ·have:=r.lt I J (by omega); omega
   ·rw [bU y];refine Y _ _ (by omega) (by omega) (by omega) a λi v I O=>?_
    by_cases q:i=(lo + hi) / 2
    ·subst q; rw [J] at I; cases I; omega
    ·have:=r.lt J I (by omega); omega
  ·rw [bU z];refine ⟨by omega,λi v I=>⟨a i v I,λh=>?_⟩⟩
   by_cases q:i < lo
   ·exact q
   ·have:=b i v I (by omega); omega
theorem j4 (r:Rise xs):SetTable.below xs j<=xs.size/\∀ i v,xs[i]?=zo v->(i < SetTable.below xs j <-> v < j):=
 Qk5 r _ _ _ (by omega) (F8 _) (O5 _) (λi v _ h=>absurd h (gr _)) λi v q h=>by
  have:=(cA.mp q).1; omega
def Good (L:Bool) (t:aW):Prop:=Rise t.place/\t.dummies=#[]/\t.led=L
theorem Q89 (r:Rise xs) (h:j∉xs.toList):Rise (SetTable.insertAt xs (SetTable.below xs j) j):=by
 obtain ⟨_,b⟩:=j4 (j:=j) r;unfold Rise;rw [SetTable.toList_insertAt];have lo:∀ v∈xs.toList.take (SetTable.below xs j),v < j:=λv G=>by
  obtain ⟨i,hi,e⟩:=G6 G;rw [L8] at hi;refine (b i v ?_).mp (by omega);rw [<- bh,<- e,List.getElem_take,O2]
 have hi:∀ v∈xs.toList.drop (SetTable.below xs j),j < v:=λv G=>by
  obtain ⟨i,hi,e⟩:=G6 G;rw [cq] at hi;have J:xs[SetTable.below xs j + i]?=zo v:=by
   rw [<- bh,<- e,List.getElem_drop,O2]
  have q:¬ v < j:=λz=>by have:=(b _ v J).mpr z; omega
  have ne:v≠j:=λz=>h (by rw [<- z]; exact gt G)
  omega
 refine List.pairwise_append.mpr ⟨fN.sublist (gF _ _) r,L5.mpr ⟨hi,fN.sublist (List.drop_sublist _ _) r⟩,λx O y I=>?_⟩
 rcases D6.mp I with rfl | I
 ·exact lo x O
 ·exact gc (lo x O) (hi y I)
theorem Good.put {t:aW} (g:Good L t) (h:j∉t.place.toList):Good L (t.put j).1:=by
 unfold SetTable.put;refine ⟨Q89 g.1 h,?_,g.2.2⟩;show (if SetTable.has t.dummies j=zb then _ else t.dummies)=#[];have:SetTable.has t.dummies j=yo:=by unfold SetTable.has; rw [g.2.1]; simp
 rw [this,bU (by simp)];exact g.2.1
theorem Good.relaid {t t':aW} (g:Good L t) {hs:Array Int} {o:Array Nat} (e:t.relaid hs n=zo (t',o)):Good L t':=by
 unfold SetTable.relaid SetTable.laid at e;cases z:SetTable.layClean (SetTable.sizeAbove n - 1) hs with
 | none=>rw [z] at e; cases e
 | some I=>
  rw [z] at e;cases e;refine ⟨?_,rfl,g.2.2⟩;show fN (· < ·) (List.map _ _);rw [eC];have J:∀ l:List Nat,l.Pairwise (· < ·)->(l.filterMap λj=>(I.getD j zl).map (j,·)).Pairwise λa b=>a.1 < b.1:=by
   intro l
   induction l with
   | nil=>intro _; exact .nil
   | cons x l O=>
    intro h;obtain ⟨h1,h2⟩:=L5.mp h;rw [cU];cases I.getD x zl with
    | none=>exact O h2
    | some k=>
     refine L5.mpr ⟨λb Z=>?_,O h2⟩;obtain ⟨y,Y,G⟩:=dN.mp Z;cases q:I.getD y zl with
     | none=>rw [q] at G; cases G
     | some k'=>rw [q] at G; cases G; exact h1 y Y
  exact J _ List.pairwise_lt_range
theorem yc {α:Type}:∀ {l:List α} {i:Nat} (h:i < l.length),([l[i]] ++ l.eraseIdx i).Perm l
 | [],_,h=>absurd h (gr _)
 | a :: l,0,_=>cL _
 | a :: l,i + 1,h=>by
  have:=yc (l:=l) (i:=i) (by simpa using h);rw [List.eraseIdx_cons_succ,List.getElem_cons_succ];exact (eD a _ _).trans (this.cons a)
theorem Qmr (next:Nat->Nat):∀ q k (left:List α) G,left.length=q->(pickOrder.go next q k left G).toList.Perm (G.toList ++ left):=by
 intro q
 induction q with
 | zero=>intro k left G h; rw [gu.mp h,pickOrder.go,L1]
 | succ q J=>
  intro k left G h;rw [pickOrder.go];have I:next k % left.length < left.length:=eE _ (by omega);rw [O2 I];refine (J (k + 1) _ _ (by rw [gv I]; omega)).trans ?_;rw [Array.toList_push,dB];refine io _ ?_;exact yc I
theorem Qe8 (next:Nat->Nat) (xs:Array α):(pickOrder next xs).toList.Perm xs.toList:=by
 have:=Qmr next xs.size 0 xs.toList #[] (by simp);simpa [pickOrder] using this
theorem Q8k {β:Type} {F:α->β->Prop} {l J:List α} (p:J.Perm l):∀ {ks:List β},aR F l ks->∃ q,aR F J q/\q.Perm ks:=by
 induction p with
 | nil=>intro ks h; exact ⟨ks,h,cL _⟩
 | cons x _ Y=>
  intro ks h;cases h with
  | cons r t=>
   obtain ⟨q,h1,h2⟩:=Y t;exact ⟨_,.cons r h1,h2.cons _⟩
 | swap x y l=>
  intro ks h;cases h with
  | cons r t=>
   cases t with
   | cons O t'=>exact ⟨_,.cons O (.cons r t'),eD _ _ _⟩
 | trans _ _ G I=>
  intro ks h;obtain ⟨k1,h1,Z⟩:=I h;obtain ⟨k2,h2,p2⟩:=G h1;exact ⟨k2,h2,p2.trans Z⟩
theorem qc {α β:Type} {F:α->β->Prop} {a:α}:∀ {l:List α} {ks:List β},aR F l ks->a∈l->∃ b∈ks,F a b
 | _,_,.nil,h=>by cases h
 | _,_,.cons (b:=b) r t,h=>by
  rcases D6.mp h with rfl | h
  ·exact ⟨b,by simp,r⟩
  ·obtain ⟨x,G,q⟩:=qc t h;exact ⟨x,O4 _ G,q⟩
section
variable {prog:aK} {w:aJ} {K:Type} [DecidableEq K]
variable {knd:KeyKind prog w K} {L:Bool} {A:aL} {E:zAD} {s:aC} {a:aB}
def Jb (ks:List K) (k:K):List K:=if k∈ks then ks else ks ++ [k]
end
theorem Q1k:entryFor table "set.__iter__" = zo Builtin.«frozenset.__iter__»:=entryFor_alias (id' := "frozenset.__iter__") (by kernel_rfl) rfl (by decide +kernel) (by kernel_rfl)
theorem slot_setit_next:Slot "set_iterator" "__next__" "set_iterator.__next__" :=
 .of (owner := "set_iterator") (n := "__next__") (by rw [typeLookup_type,builtinLookup_eq_fast]; kernel_rfl) (by decide +kernel) (by decide +kernel) (by decide +kernel) (by first | exact .inl (by decide +kernel) | exact .inr (by decide +kernel)) (by rw [bQ]; kernel_rfl)
theorem Xv:entryFor table "set_iterator.__next__" = zo Builtin.«set_iterator.__next__»:=entryFor_of_tree (by kernel_rfl)
theorem Q0z:Manifest.owners.lookup (String.ofList ['r','o','t','a','r','e','t','i','_','t','e','s'].reverse)=zo Manifest.sig_set_iterator:=by kernel_rfl
theorem Kk (a:aA):argsOk "set_iterator.__next__" ⟨[a],[]⟩:=by
 unfold argsOk; rw [signature?_of (id := "set_iterator.__next__") (n:=['_','_','t','x','e','n','_','_']) (o:=['r','o','t','a','r','e','t','i','_','t','e','s']) (by kernel_rfl) Q0z]; kernel_rfl
def SetIt (h:Heap) (it:aB) (f:aA) (i:Nat) (d:aB) (n ep:Nat):Prop:=
 h.get? it=zo { cls:=.type "set_iterator",dict:=zl,data:=.fields #[f,aU i,.ref d,aU n,aU ep],slots:=#[] }
def RawS (h:Heap) (a:aB) (es:zAB) (ep:Nat) (t:aW):Prop:=∃ o,h.get? a=zo o/\o.ExactSet/\o.data=.set es ep t
theorem RawS.at {h':Heap} {t:aW} (x:RawS h a es ep t) (k:∀ o,h.get? a=zo o->h'.get? a=zo o):RawS h' a es ep t:=let ⟨o,e,r⟩:=x; ⟨o,k o e,r⟩
theorem RawS.lt {t:aW} (x:RawS h a es ep t):a < h.objs.size:=let ⟨_,e,_⟩:=x; O7 e
theorem SetIt.at {h':Heap} {d:aB} {i:Nat} (x:SetIt h it f i d n ep) (k:∀ o,h.get? it=zo o->h'.get? it=zo o):SetIt h' it f i d n ep:=k _ x
variable {prog:aK} {A:aL} {E:zAD} {s:aC}
section
variable {w:aJ}
theorem RawS.typeIs {t:aW} (x:RawS s.heap a es ep t):s.TypeIs (.ref a) "set" := let ⟨o,e,r,_⟩:=x; ⟨o,e,r.1⟩
theorem SetIt.typeIs {d:aB} {i:Nat} (x:SetIt s.heap it f i d n ep):s.TypeIs (.ref it) "set_iterator" := ⟨_,x,rfl⟩
theorem Uf {t:aW} {Q:(zAB × Nat × aW)->aC->Prop} (x:RawS s.heap a es ep t) (q:t.fits es.size=zb) (h:Q (es,ep,t) s):aF (aI prog w) A (setState a) Q E s:=by
 obtain ⟨o,G,_,hd⟩:=x;exact wpAny_setState_of G hd q h
theorem Qbk {Q:Nat->aC->Prop} (q:n≠0) (h:∀ i d',i < n->Q i { s with drawn:=d' }):aF (aI prog w) A (choose .order n) Q E s:=λΓ p _=>⟨q,h _ _ (eE _ (by omega))⟩
theorem Qjg :∀ (n:Nat) (xs:List α) (s:aC) {Q:List α->aC->Prop},xs.length=n->(∀ ys d',ys.Perm xs->Q ys { s with drawn:=d' })->aF (aI prog w) A (drawOrder n xs) Q E s:=by
 intro n
 induction n with
 | zero=>
  intro xs s Q q h;rw [gu.mp q] at h ⊢;rw [drawOrder];exact wpAny_pure (h [] s.drawn (cL _))
 | succ n G=>
  intro xs s Q q h;cases xs with
  | nil=>cases q
  | cons x xs=>
   rw [drawOrder]
   ·refine aD (Qbk (by simp) λi d' hi=>?_)
    rw [O2 hi];refine aD (G _ _ (by rw [gv hi]; omega) λys I J=>?_)
    exact wpAny_pure (h _ I ((J.cons _).trans (yc hi)))
   ·simp
end
section
variable {w:aJ}
theorem Qm6 {t:aW} {Q:Nat->aC->Prop} (x:RawS s.heap a es ep t) (q:t.fits es.size=zb) (h:Q es.size s):aF (aI prog w) A (Builtin.Frozenset.sizeOf a) Q E s:=by
 unfold Builtin.Frozenset.sizeOf setEntries;exact aD (aD (Uf x q (wpAny_pure (wpAny_pure h))))
theorem Q87 {t:aW} {Q:Nat->aC->Prop} (x:RawS s.heap a es ep t) (q:t.fits es.size=zb) (h:Q ep s):aF (aI prog w) A (setEpoch a) Q E s:=by
 unfold setEpoch;exact aD (Uf x q (wpAny_pure h))
theorem Q2p {t:aW} {Q:zAB->aC->Prop} (x:RawS s.heap a es ep t) (q:t.fits es.size=zb) (h:Q es s):aF (aI prog w) A (setEntries a) Q E s:=by
 unfold setEntries;exact aD (Uf x q (wpAny_pure h))
theorem Q01 {Q:Bool->aC->Prop} (h:Q (w.params.followText "set-order") s):aF (aI prog w) A setsByText Q E s:=by
 unfold setsByText;exact aD (wpAny_askSetting (wpAny_pure h))
def drw (w:aJ) (n:Nat) (t:aW):Bool:=!w.params.followText "set-order" && (!t.plain && decide (n > 1))
theorem Qgq {t:aW} {Q:Bool->aC->Prop} (x:RawS s.heap a es ep t) (q:t.fits es.size=zb) (h:Q (drw w es.size t) s):aF (aI prog w) A (setDrawn a) Q E s:=by
 unfold setDrawn;exact aD (Uf x q (aD (Q01 (wpAny_pure h))))
theorem Qgf {t:aW} {Q:zAD} (x:RawS s.heap a es ep t) (q:t.fits es.size=zb) (hz:es.size<=sizeLine)
  (h1:drw w es.size t=yo->Q (.ref s.heap.objs.size) { s with heap:=s.heap.push { cls:=.type "set_iterator",data:=.fields #[aU 0,aU 0,.ref a,aU es.size,aU ep] } })
  (h2:drw w es.size t=zb->∀ (ys:List Nat) (d':Drawn),ys.Perm (bY es.size) ->
   Q (.ref (s.heap.objs.size + 1)) { s with heap:=(s.heap.push { cls:=.type "tuple",data:=.seq (ys.map λ(i:Nat)=>aU i).toArray }).push { cls:=.type "set_iterator",data:=.fields #[.ref s.heap.objs.size,aU 0,.ref a,aU es.size,aU ep] },drawn:=d' }) :
  aF (aI prog w) A (pyIter (.ref a)) Q E s:=by
 refine wpAny_pyIter_slot x.typeIs gw (ah gw x.typeIs Q1k ?_ (PySem.F.args_set_iter_1 _));unfold Builtin.«frozenset.__iter__» Builtin.Frozenset.slot0 Builtin.Frozenset.addrOf slotArgs;show aF _ _ (pure a >>= _) _ _ _;refine aD (wpAny_pure ?_);refine aD (Qm6 x q ?_);refine aD (Qgq x q ?_);cases z:drw w es.size t with
 | false=>
  rw [bU D2];refine aD (wpAny_pure ?_);refine aD (Q87 x q ?_);refine aD (av ?_);exact wpAny_pure ⟨_,rfl, "set_iterator",_,⟨_,O9 _ rfl,rfl⟩,slot_setit_next.lookup,h1 z⟩
 | true=>
  rw [bT rfl];refine aD ?_;refine Qjg _ _ _ F5 λys d' G=>?_
  refine aD (wpAny_newTuple ?_ (by rw [O0,G.length_eq,F5]; exact hz));have I:RawS (s.heap.push { cls:=.type "tuple",data:=.seq (ys.map λ(i:Nat)=>aU i).toArray }) a es ep t:=x.at λo e=>O1 _ e
  refine aD (Q87 (s:={ s with heap:=s.heap.push { cls:=.type "tuple",data:=.seq (ys.map λ(i:Nat)=>aU i).toArray },drawn:=d' }) I q ?_)
  refine aD (av ?_);refine wpAny_pure ⟨_,rfl, "set_iterator",_,⟨_,O9 _ rfl,rfl⟩,slot_setit_next.lookup,?_⟩;have:=h2 z ys d' G
  rwa [show s.heap.objs.size + 1=(s.heap.push { cls:=.type "tuple",data:=.seq (ys.map λ(i:Nat)=>aU i).toArray }).objs.size from (F1 _ _).symm] at this
end
def byT (w:aJ):Bool:=!w.params.followText "set-order"
def Y1 (w:aJ):Obj:={ cls:=.type "set",dict:=zl,data:=.set #[] 0 (.fresh 0 0 (byT w)) }
def Y9 {K:Type} [DecidableEq K] (ks:List K):List K:=ks.foldl Jb []
theorem Qeq [DecidableEq K] (ks:List K) (k:K):Y9 (ks ++ [k])=Jb (Y9 ks) k:=by unfold Y9; rw [fO]; rfl
theorem Ws {K:Type} [DecidableEq K]:∀ (ks acc:List K),(ks.foldl Jb acc).length<=acc.length + ks.length
 | [],acc=>by simp
 | k :: ks,acc=>by
  have h1:=Ws ks (Jb acc k);have h2:(Jb acc k).length<=acc.length + 1:=by unfold Jb; split <;> simp
  rw [F2,D3];omega
theorem Uh [DecidableEq K] (ks:List K):(Y9 ks).length<=ks.length:=by unfold Y9; have:=Ws ks []; simpa using this
section
variable {prog:aK} {w:aJ} {K:Type} [DecidableEq K] {knd:KeyKind prog w K} {A:aL} {R:Result->aC->Prop}
theorem Qky {E:zAD} (a:aA) {Z:zAD} (h:Z (.ref s.heap.objs.size) { s with heap:=s.heap.push (Y1 w) }) :
  codeAny (aI prog w) A (.call (.builtin "set.__new__") ⟨[.type "set",a],[]⟩) (wants Z E) s:=by
 refine codeAny_of_tree ?_;show aF _ A.in1 (do checkBuiltinCall "set.__new__" ⟨[.type "set",a],[]⟩; again (.builtin "set.__new__" ⟨[.type "set",a],[]⟩)) _ _ s;refine aD (wpAny_of_eq (F.newCall_set_1 a) (wpAny_pure ⟨bD F.plain_set_new _,bC F.entry_set_new ?_⟩));rw [Around.under_plainId F.plain_set_new _];unfold Builtin.«set.__new__» Builtin.Frozenset.newClass;have hs:=sub_set_self;unfold Y1 byT at h;obtain ⟨q,g,d,G,os⟩:=s;dsimp only
 wp_walk
 refine wpAny_askSetting (wpAny_pure ?_);dsimp only;simp only [newObj];refine aD (wpAny_alloc (wpAny_pure ?_));exact wpAny_pure h
theorem Q2b:isSubtype (.type "tuple") (.type "set")=pure yo:=by rw [bQ]; kernel_rfl
theorem Q1d:isSubtype (.type "tuple") (.type "frozenset")=pure yo:=by rw [bQ]; kernel_rfl
end
def Vv (w:aJ) (t:aW) (i:Nat):Nat:=if w.params.followText "set-order" = zb then 0 else if i=0 then 0 else t.place.getD (i - 1) 0 + 1
def Q6j (w:aJ) (a:aB) (ep:Nat) (es:zAB):zAB:=if w.params.followText "set-order" = zb then pickOrder (w.params.setOrder a ep) es else es
theorem Q5a (w:aJ) (a:aB) (ep:Nat) (es:zAB):(Q6j w a ep es).toList.Perm es.toList:=by
 unfold Q6j
 split
 ·exact Qe8 _ _
 ·exact cL _
theorem Qed (w:aJ) (a:aB) (ep:Nat) (es:zAB):(Q6j w a ep es).size=es.size:=by
 have:=(Q5a w a ep es).length_eq;simpa using this
theorem Qbs (r:Rise xs) {i:Nat} (h:i < xs.size):SetTable.below xs (xs.getD i 0 + 1)=i + 1:=by
 obtain ⟨I,b⟩:=j4 (j:=xs.getD i 0 + 1) r;have q:xs[i]?=zo (xs.getD i 0):=by rw [bi h]; simp [dI,h]
 have h1:i < SetTable.below xs (xs.getD i 0 + 1):=(b i _ q).mpr (by omega)
 by_cases z:SetTable.below xs (xs.getD i 0 + 1)=i + 1
 ·exact z
 ·have h2:i + 1 < xs.size:=by omega
  have G:xs[i + 1]?=zo xs[i + 1]:=bi h2;have:=(b (i + 1) _ G).mp (by omega);have:=r.lt q G (by omega);omega
theorem Qbr (r:Rise xs):SetTable.below xs 0=0:=by
 obtain ⟨q,b⟩:=j4 (j:=0) r
 by_cases z:SetTable.below xs 0=0
 ·exact z
 ·have h2:0 < xs.size:=by omega
  have:=(b 0 _ (bi h2)).mp (by omega);omega
section
variable {w:aJ}
theorem Qi3 {i:Nat} {t:aW} {Q:Option (aA × Nat)->aC->Prop} (x:RawS s.heap a es ep t) (G:t.fits es.size=zb) (g:Good (byT w) t) (hd:drw w es.size t=yo) (hi:i<=es.size)
  (h:Q (((Q6j w a ep es)[i]?).map λe=>(e.2,Vv w t (i + 1))) s):aF (aI prog w) A (setNext a (Vv w t i) i ep) Q E s:=by
 have hp:t.place.size=es.size:=by
  simp only [SetTable.fits,E4,beq_iff_eq,decide_eq_true_eq] at G;exact G.1
 unfold setNext;refine aD (Uf x G ?_);dsimp only;refine aD (Q01 ?_);cases z:w.params.followText "set-order" with
 | true=>
  rw [bT rfl,bU (by simp)];refine aD ?_;unfold setWalk;refine aD (Uf x G ?_);dsimp only;refine aD (Q01 ?_);rw [z,bT rfl];refine aD (wpAny_askSetting (wpAny_pure (wpAny_pure ?_)));unfold Q6j Vv at h;rw [bT z,bT z] at h;unfold Vv;rw [bT z];exact h
 | false=>
  rw [bU D2];have J:(!t.plain && decide (es.size > 1))=yo:=by
   unfold drw at hd;rw [z] at hd;simpa using hd
  have O:t.led=zb:=by rw [g.2.2]; unfold byT; rw [z]; rfl
  unfold Q6j Vv at h;rw [z,bU D2,bU D2,bU (by omega),fM] at h;have Z:SetTable.below t.place (Vv w t i)=i:=by
   unfold Vv;rw [z,bU D2]
   by_cases q:i=0
   ·rw [bT q,q]; exact Qbr g.1
   ·rw [bU q,Qbs g.1 (by omega)]; omega
  show aF _ _ (if (!t.plain && decide (es.size > 1))=zb then _ else _) _ _ _;rw [J,bU D2];show aF _ _ ((if (!t.led && !es.isEmpty)=zb then _ else _) >>= _) _ _ _;rw [O];simp only [cT,L3,E7,if_false];refine aD (wpAny_pure ?_);rw [Z];refine wpAny_pure ?_
  by_cases q:i < es.size
  ·have I:es[i]?=zo es[i]:=bi q;have Y:t.place[i]?=zo (t.place.getD i 0):=by rw [bi (by omega)]; simp [dI,hp,q]
   rw [I] at h ⊢;rw [Y];exact h
  ·have I:es[i]?=zl:=cY (by omega);rw [I] at h ⊢;exact h
end
section
variable {w:aJ}
theorem Kc:Slot "set_iterator" "__iter__" "set_iterator.__iter__" :=
 .of (owner := "set_iterator") (n := "__iter__") (by rw [typeLookup_type,builtinLookup_eq_fast]; kernel_rfl) (by decide +kernel) (by decide +kernel) (by decide +kernel) (by first | exact .inl (by decide +kernel) | exact .inr (by decide +kernel)) (by rw [bQ]; kernel_rfl)
theorem Q0p:entryFor table "set_iterator.__iter__" = zo Builtin.«dict_keyiterator.__iter__»:=entryFor_alias (id' := "dict_keyiterator.__iter__") (by kernel_rfl) rfl (by decide +kernel) (by kernel_rfl)
theorem Q1n (a:aA):argsOk "set_iterator.__iter__" ⟨[a],[]⟩:=by
 unfold argsOk; rw [signature?_of (id := "set_iterator.__iter__") (n:=['_','_','r','e','t','i','_','_']) (o:=['r','o','t','a','r','e','t','i','_','t','e','s']) (by kernel_rfl) Q0z]; kernel_rfl
theorem Q6e {d:aB} {i:Nat} {Q:zAD} (q:SetIt s.heap it f i d n ep) (h:Q (.ref it) s):aF (aI prog w) A (pyIter (.ref it)) Q E s:=by
 refine wpAny_pyIter_slot q.typeIs Kc (ah Kc q.typeIs Q0p ?_ (Q1n _));show aF _ _ (ret (.ref it)) _ _ s;exact wpAny_pure ⟨_,rfl, "set_iterator",_,q.typeIs,slot_setit_next.lookup,h⟩
def yh (w:aJ) (t:aW) (h:Heap) (ys:Option (aB × List Nat)) (i:Nat) (f:aA):Prop:=match ys with
 | none=>f=aU (Vv w t i)
 | some (tp,ys)=>f=.ref tp/\h.get? tp=zo { cls:=.type "tuple",data:=.seq (ys.map λ(i:Nat)=>aU i).toArray }
def Q4m (w:aJ) (a:aB) (ep:Nat) (es:zAB) (ys:Option (aB × List Nat)):List (Int × aA):=match ys with
 | none=>(Q6j w a ep es).toList
 | some (_,ys)=>ys.filterMap λi=>es[i]?
theorem Q03 (h:∀ tp l,ys=zo (tp,l)->l.Perm (bY es.size)):(Q4m w a ep es ys).Perm es.toList:=by
 unfold Q4m;cases ys with
 | none=>exact Q5a _ _ _ _
 | some q=>
  obtain ⟨tp,l⟩:=q;refine ((h tp l rfl).filterMap _).trans ?_;rw [filterMap_getElem?_range]
theorem Qn5 {tp:aB} {l:List Nat} (h:l.Perm (bY es.size)) (i:Nat):(Q4m w a ep es (zo (tp,l)))[i]?=(l[i]?).bind λj=>es[j]?:=by
 have G:∀ j∈l,j < es.size:=λj q=>by have:=h.mem_iff.mp q; simpa using this
 show (l.filterMap λi=>es[i]?)[i]?=_;clear h
 induction l generalizing i with
 | nil=>rfl
 | cons x l J=>
  have I:=G x (by simp);rw [List.filterMap_cons_some (b:=es[x]) (bi I)];cases i with
  | zero=>simp [bi I]
  | succ i=>simpa using J i (λj q=>G j (O4 _ q))
theorem Qgg {i:Nat} {t:aW} {ys:Option (aB × List Nat)} {v:aA} {e:Int} {Q:Option aA->aC->Prop} (a2:a≠it) (I:SetIt s.heap it f i a es.size ep) (x:RawS s.heap a es ep t) (hf:t.fits es.size=zb) (g:Good (byT w) t)
  (hy:yh w t s.heap ys i f) (hn:ys=zl->drw w es.size t=yo) (hp:∀ tp l,ys=zo (tp,l)->l.Perm (bY es.size)/\tp≠it) (G:(Q4m w a ep es ys)[i]?=zo (e,v))
  (hQ:∀ f' h',SetIt h' it f' (i + 1) a es.size ep->yh w t h' ys (i + 1) f'->Heap.SameBut it s.heap h'->Q (zo v) { s with heap:=h' }):aF (aI prog w) A (af (.ref it)) Q E s:=by
 have hT:=I.typeIs;unfold af;refine aD (wpAny_attempt (wpAny_callSpecial?_slot (name:=cE "__next__") hT slot_setit_next (ah slot_setit_next hT Xv ?_ (Kk _))));unfold Builtin.«set_iterator.__next__» slotArgs;show aF _ _ (fieldsOf (.ref it) >>= _) _ _ _;refine aD (wpAny_fieldsOf I rfl ?_);show aF _ _ (setEntries a >>= _) _ _ _;refine aD (Q2p x hf ?_);rw [bU (by simp)];cases ys with
 | none=>
  cases hy;show aF _ _ (setNext a (Vv w t i:Int).toNat (i:Int).toNat (ep:Int).toNat >>= _) _ _ _;rw [bo,bo,bo];have hi:i < es.size:=by
   obtain ⟨q,_⟩:=O3.mp G;have:=(Q03 (w:=w) (a:=a) (ep:=ep) (es:=es) (ys:=zl) (λ_ _ z=>nomatch z)).length_eq;rw [this] at q; simpa using q
  refine aD (Qi3 x hf g (hn rfl) (by omega) ?_);have e0:(Q6j w a ep es)[i]?=zo (e,v):=by rw [<- bh]; exact G
  rw [e0];show aF _ _ (setField (.ref it) 0 (aU (Vv w t (i + 1))) >>= _) _ _ _;refine aD (bA I (by simp) λh1 O J=>?_)
  refine aD (bA (s:={ s with heap:=h1 }) O (by simp) λh2 o2 a1=>?_)
  exact wpAny_pure ⟨_,rfl,wpAny_pure (hQ _ h2 o2 rfl (J.trans a1))⟩
 | some q=>
  obtain ⟨tp,l⟩:=q;obtain ⟨rfl,ht⟩:=hy;obtain ⟨hl,Z⟩:=hp tp l rfl;rw [Qn5 hl] at G;cases Y:l[i]? with
  | none=>rw [Y] at G; cases G
  | some j=>
   rw [Y] at G;have G:es[j]?=zo (e,v):=G;show aF _ _ (seqItems? (.ref tp) >>= _) _ _ _;refine aD (aq ht rfl ?_);show aF _ _ (match ((l.map λ(i:Nat)=>aU i).toArray)[(i:Int).toNat]? with | some (.int place _)=>_ | some _=>_ | none=>_) _ _ _
   rw [bo,gy,D7,Y];show aF _ _ (setNextDrawn a (j:Int).toNat (ep:Int).toNat >>= _) _ _ _;rw [bo,bo];refine aD ?_;unfold setNextDrawn;refine aD (Uf x hf ?_);dsimp only;rw [bU (by simp),G];refine wpAny_pure ?_;refine aD (bA I (by simp) λh1 O J=>?_)
   exact wpAny_pure ⟨_,rfl,wpAny_pure (hQ _ h1 O ⟨rfl,(J.2 tp Z).trans ht⟩ J)⟩
theorem Q53 (G:A.handled=zl) {q:Heap} (k:Heap.ExtBut it s.heap q) (I:∀ h',Heap.ExtBut it s.heap h'->Q zl { s with heap:=h' }) :
  aF (aI prog w) A.in1 (newExc (.type "StopIteration") [] >>= λe=>bS e) (λ(fin:Fin) s'=>∃ v,fin=.done (.ret v)/\aF (aI prog w) A (pure (zo v)) Q E s') (λe s'=>aF (aI prog w) A (do if <- isInstance e (.type "StopIteration") then pure zl else throw e) Q E s') { s with heap:=q }:=by
 refine aD ?_;simp only [newExc,newTuple];refine aD (av ?_ (by size_fits));refine aD (m:=firstArgMember _ _) (wpAny_of_eq (a:=ba) (by first | rfl | (simp only [firstArgMember]; rfl)) ?_);refine av ?_ (by size_fits);simp only [bS];refine aD (wpAny_handled ?_);rw [show A.in1.handled=zl from G];refine aD (wpAny_pure (wpAny_throw ?_));refine aD (bJ (T := "StopIteration") (b:=zb) ⟨_,O9 _ rfl,rfl⟩ isSubtype_stop ?_);exact wpAny_pure (I _ ((k.push _).push _))
theorem Qkz {t:aW} {ys:Option (aB × List Nat)} {Q:Option aA->aC->Prop} (O:A.handled=zl) (G:SetIt s.heap it f es.size a es.size ep) (x:RawS s.heap a es ep t) (hf:t.fits es.size=zb) (g:Good (byT w) t)
  (hy:yh w t s.heap ys es.size f) (hn:ys=zl->drw w es.size t=yo) (hp:∀ tp l,ys=zo (tp,l)->l.Perm (bY es.size)/\tp≠it)
  (Y:∀ h',Heap.ExtBut it s.heap h'->Q zl { s with heap:=h' }):aF (aI prog w) A (af (.ref it)) Q E s:=by
 have Z:=G.typeIs;unfold af;refine aD (wpAny_attempt (wpAny_callSpecial?_slot (name:=cE "__next__") Z slot_setit_next (ah slot_setit_next Z Xv ?_ (Kk _))));unfold Builtin.«set_iterator.__next__» slotArgs;show aF _ _ (fieldsOf (.ref it) >>= _) _ _ _;refine aD (wpAny_fieldsOf G rfl ?_);show aF _ _ (setEntries a >>= _) _ _ _;refine aD (Q2p x hf ?_);rw [bU (by simp)];cases ys with
 | none=>
  cases hy;show aF _ _ (setNext a (Vv w t es.size:Int).toNat (es.size:Int).toNat (ep:Int).toNat >>= _) _ _ _;rw [bo,bo,bo];refine aD (Qi3 x hf g (hn rfl) (O5 _) ?_);have e0:(Q6j w a ep es)[es.size]?=zl:=cY (by rw [Qed]; exact O5 _);rw [e0];show aF _ _ (setField (.ref it) 2 .none >>= _) _ _ _;refine aD (bA G (by simp) λh1 o1 I=>?_)
  exact Q53 (s:=s) O I.extBut Y
 | some q=>
  obtain ⟨tp,l⟩:=q;obtain ⟨rfl,ht⟩:=hy;obtain ⟨hl,a1⟩:=hp tp l rfl;have hz:l[es.size]?=zl:=L0 (by rw [hl.length_eq,F5]; exact O5 _);show aF _ _ (seqItems? (.ref tp) >>= _) _ _ _;refine aD (aq ht rfl ?_);show aF _ _ (match ((l.map λ(i:Nat)=>aU i).toArray)[(es.size:Int).toNat]? with | some (.int place _)=>_ | some _=>_ | none=>_) _ _ _
  rw [bo,gy,D7,hz];show aF _ _ (setField (.ref it) 0 (aU 0) >>= _) _ _ _;refine aD (bA G (by simp) λh1 o1 I=>?_)
  refine aD (bA (s:={ s with heap:=h1 }) o1 (by simp) λh2 o2 J=>?_)
  exact Q53 (s:=s) O (I.trans J).extBut Y
def Q79 (it a:aB) (ys:Option (aB × List Nat)):List aB:=match ys with
 | none=>[it,a]
 | some (tp,_)=>[it,a,tp]
theorem Qdj {ep:Nat} {t:aW} (hh:A.handled=zl) (O:a≠it) (hf:t.fits es.size=zb) (g:Good (byT w) t) (hn:ys=zl->drw w es.size t=yo) (Y:∀ tp l,ys=zo (tp,l)->l.Perm (bY es.size)/\tp≠it) :
  Walks prog w A it (Q79 it a ys) [it] es.size (λi v=>∃ e,(Q4m w a ep es ys)[i]?=zo e/\v=e.2) (λi h=>RawS h a es ep t/\∃ f,SetIt h it f i a es.size ep/\yh w t h ys i f) where
 sub:=λb J=>by
  have:b=it:=by simpa using J
  subst this;unfold Q79;cases ys <;> simp
 frame:=λi h h' st Z=>by
  obtain ⟨x,f,h1,h2⟩:=st;have m1:it∈Q79 it a ys:=by unfold Q79; cases ys <;> simp
  have m2:a∈Q79 it a ys:=by unfold Q79; cases ys <;> simp
  refine ⟨x.at λo e=>Z a m2 o e,f,h1.at λo e=>Z it m1 o e,?_⟩;cases ys with
  | none=>exact h2
  | some q=>exact ⟨h2.1,Z q.1 (by unfold Q79; simp) _ h2.2⟩
 item:=λi s Q E hi st G=>by
  obtain ⟨x,f,h1,h2⟩:=st;have hl:(Q4m w a ep es ys).length=es.size:=by
   have:=(Q03 (w:=w) (a:=a) (ep:=ep) (es:=es) (ys:=ys) λtp l z=>(Y tp l z).1).length_eq
   simpa using this
  have I:i < (Q4m w a ep es ys).length:=by omega
  refine Qgg O h1 x hf g h2 hn Y (e:=(Q4m w a ep es ys)[i].1) (v:=(Q4m w a ep es ys)[i].2) (O2 I) λf' h' i1 i2 sb=>?_
  exact G _ h' s.toks ⟨_,O2 I,rfl⟩ ⟨x.at λo e=>(sb.2 a O).trans e,f',i1,i2⟩ λb o J e=>sb.extBut b o (λz=>J (by simp [z])) e
 done:=λs Q E st G=>by
  obtain ⟨x,f,h1,h2⟩:=st;exact Qkz hh h1 x hf g h2 hn Y λh' k=>G h' s.toks λb o J e=>k b o (λz=>J (by simp [z])) e
 self:=λi s Q E st G=>by
  obtain ⟨x,f,h1,h2⟩:=st;exact Q6e h1 G
theorem Qiz {Q:Bool->aC->Prop} (G:s.TypeIs (.ref r) "set") (h:Q yo s):aF (aI prog w) A (Builtin.List.listLengthHint (.ref r)) Q E s:=by
 unfold Builtin.List.listLengthHint;refine aD (wpAny_specialOf G PySem.F.slot_set_len.lookup ?_);generalize hid:("set.__len__" : String)=q
 wp_delta
 rw [show splitId q=zo ("set", "__len__") from by subst hid; decide +kernel];subst hid;refine aD (bJ (T := "set") (b:=zb) G (by rw [bQ]; kernel_rfl) ?_);refine bE (λz=>absurd z (by decide)) (λ_=>?_)
 refine bE (λ_=>?_) (λz=>absurd (by decide +kernel) z)
 exact aD (bB G (wpAny_pure h))
end
section
variable {w:aJ}
theorem Qpd {R:Result->aC->Prop} {t:aW} (hh:A.handled=zl) (x:RawS s.heap r es ep t) (hf:t.fits es.size=zb) (g:Good (byT w) t) (S:aB) (a4:S≠r) (res:aA) (a6:Nat) (hS:s.heap.get? S=zo { cls:=.type "list",data:=.seq #[] a6 })
  (hR:∀ h' d' tk (acc:Array aA) c',acc.toList.Perm (es.toList.map (·.2))->(∀ b o,b≠S->s.heap.get? b=zo o->h'.get? b=zo o)->h'.get? S=zo { cls:=.type "list",dict:=zl,data:=.seq acc c',slots:=#[] }->R (.ok (.ret res)) { s with heap:=h',drawn:=d',toks:=tk }) (hn:es.size<=sizeLine) :
  aF (aI prog w) A.in1 (Builtin.List.listExtendWith (.ref S) (.ref r) res)
   (λfin s'=>match fin with | .done f=>R (.ok f) s' | .again c'=>c'.quiet=zb/\codeAny (aI prog w) A c' R s') (λe s'=>R (.error e) s') s:=by
 have a2:=O7 hS;have a8:∀ (ys:Option (aB × List Nat)) (I:aB) (h:Heap) (d':Drawn) (J tk:Nat),s.heap.objs.size<=I->(ys=zl->drw w es.size t=yo)->(∀ tp l,ys=zo (tp,l)->l.Perm (bY es.size)/\tp≠I/\s.heap.objs.size<=tp) ->
   RawS h r es ep t->(∃ f,SetIt h I f 0 r es.size ep/\yh w t h ys 0 f)->(∀ b o,b≠S->s.heap.get? b=zo o->h.get? b=zo o) ->
   h.get? S=zo { cls:=.type "list",data:=.seq #[] J }->codeAny (aI prog w) A (.builtin "list.extend.loop" ⟨[.ref S,.ref I,res],[]⟩) R { s with heap:=h,drawn:=d',toks:=tk }:=by
  intro ys I h d' J tk hI a3 G hx a1 hk a7;have a9:S≠I:=D8 (D1 a2 hI);have b0:r≠I:=D8 (D1 x.lt hI);have W:=Qdj (prog:=prog) (A:=A.in1) (it:=I) (a:=r) (es:=es) (ep:=ep) (t:=t) (ys:=ys) (by simpa using hh) b0 hf g a3 λtp l z=>⟨(G tp l z).1,(G tp l z).2.1⟩
  have b2:S∉Q79 I r ys:=by
   unfold Q79;cases ys with
   | none=>simp only [D6,dU,or_false,not_or]; exact ⟨a9,a4⟩
   | some q=>simp only [D6,dU,or_false,not_or]; exact ⟨a9,a4,D8 (D1 a2 (G q.1 q.2 rfl).2.2)⟩
  refine codeAny_extend_loopS W.toS hn S b2 res es.size 0 _ #[] J rfl (F8 _) ⟨hx,a1⟩ a7 (ItemsOf.nil _) λs' acc c' hm b1 O=>?_
  rw [Moved.eq_with hm];have pm:=Q03 (w:=w) (a:=r) (ep:=ep) (es:=es) (ys:=ys) λtp l z=>(G tp l z).1
  have hl:=pm.length_eq;simp only [be] at hl;have e:acc.toList=(Q4m w r ep es ys).map (·.2):=by
   apply cS;intro i
   by_cases z:i < es.size
   ·have hi:i < acc.size:=by rw [O.1]; exact z
    obtain ⟨e,h1,h2⟩:=O.2 i acc[i] (bi hi);rw [bh,bi hi,h2,D7,h1]; rfl
   ·rw [bh,cY (by rw [O.1]; omega),D7,L0 (by omega)]; rfl
  refine hR s'.heap d' s'.toks acc c' (by rw [e]; exact pm.map _) (λb o hb q=>hm.heap b o (λY=>?_) (hk b o hb q)) b1
  rcases D6.mp Y with z | Y
  ·exact hb z
  ·have:=O7 q;rw [List.mem_singleton.mp Y] at this;exact absurd (D1 this hI) (L4 _)
 have a5:∀ (bf:Bool->Bool) (ys:Option (aB × List Nat)) (I:aB) (h:Heap) (d':Drawn),s.heap.objs.size<=I->(ys=zl->drw w es.size t=yo)->(∀ tp l,ys=zo (tp,l)->l.Perm (bY es.size)/\tp≠I/\s.heap.objs.size<=tp) ->
   RawS h r es ep t->(∃ f,SetIt h I f 0 r es.size ep/\yh w t h ys 0 f)->(∀ b o,s.heap.get? b=zo o->h.get? b=zo o) ->
   aF (aI prog w) A.in1 (do
     let room <- aw [.ref I] (Builtin.List.listLengthHint (.ref r))
     if bf room then
      rule "list.extend.makes-room"
      Builtin.List.listTouch (.ref S)
     again (.builtin "list.extend.loop" ⟨[.ref S,.ref I,res],[]⟩))
    (λfin s'=>match fin with | .done f=>R (.ok f) s' | .again c'=>c'.quiet=zb/\codeAny (aI prog w) A c' R s') (λe s'=>R (.error e) s') { s with heap:=h,drawn:=d' }:=by
  intro bf ys I h d' hI a3 G hx a1 hk;refine aD (ak (Qiz (s:={ s with heap:=h,drawn:=d' }) hx.typeIs ?_));refine bE (λ_=>?_) (λ_=>wpAny_pure ⟨bD gz _,a8 ys I h d' a6 s.toks hI a3 G hx a1 (λb o _ q=>hk b o q) (hk _ _ hS)⟩);refine aD (bH (aD ?_));show aF _ _ (updateSeq S (·.push .none) >>= λ_=>updateSeq S (·.pop)) _ _ _
  have s1:=hk _ _ hS;refine aD (wpAny_updateSeq (s:={ s with heap:=h,drawn:=d' }) s1 rfl ?_);have s2:=G9 (bp (·.push ba)) s1 rfl;refine wpAny_updateSeq (hz:=by seq_fits) s2 rfl ?_;have s3:=G9 (bp (·.pop)) s2 rfl;have Z:∀ b o,b≠S->h.get? b=zo o->((h.update S (bp (·.push ba))).update S (bp (·.pop))).get? b=zo o:=λb o hb q=>(F6 _ _ (Ne.symm hb)).trans ((F6 _ _ (Ne.symm hb)).trans q)
  have nI:I≠S:=L9 (D1 a2 hI);refine wpAny_pure ⟨bD gz _,a8 ys I _ d' _ s.toks hI a3 G (hx.at λo q=>Z r o (Ne.symm a4) q) ?_ (λb o hb q=>Z b o hb (hk b o q)) s3⟩;obtain ⟨f,i1,i2⟩:=a1;refine ⟨f,i1.at λo q=>Z I o nI q,?_⟩;cases ys with
  | none=>exact i2
  | some q=>exact ⟨i2.1,Z q.1 _ (L9 (D1 a2 (G q.1 q.2 rfl).2.2)) i2.2⟩
 unfold Builtin.List.listExtendWith;refine aD (bB (T := "set") x.typeIs ?_);have h1:Builtin.List.listSameRef (.ref S) (.ref r)=yo:=by simp [Builtin.List.listSameRef,a4]
 have e1:(bj "set" == bj "list")=yo:=by decide
 have e2:(bj "set" == bj "tuple")=yo:=by decide
 simp only [h1,e1,e2,cz,E7,if_false];refine aD (Qgf x hf hn (λz=>?_) λz ys d' hp=>?_)
 ·exact a5 _ zl s.heap.objs.size (s.heap.push { cls:=.type "set_iterator",data:=.fields #[aU 0,aU 0,.ref r,aU es.size,aU ep] }) s.drawn (O5 _) (λ_=>z) (λ_ _ q=>nomatch q) (x.at λo q=>O1 _ q) ⟨_,O9 _ rfl,by unfold yh Vv; simp⟩ (λb o q=>O1 _ q)
 ·have hz:s.heap.objs.size + 1=(s.heap.push { cls:=.type "tuple",data:=.seq (ys.map λ(i:Nat)=>aU i).toArray }).objs.size:=(F1 _ _).symm
  exact a5 _ (zo (s.heap.objs.size,ys)) (s.heap.objs.size + 1) ((s.heap.push { cls:=.type "tuple",data:=.seq (ys.map λ(i:Nat)=>aU i).toArray }).push { cls:=.type "set_iterator",data:=.fields #[.ref s.heap.objs.size,aU 0,.ref r,aU es.size,aU ep] }) d' (dF _) (λq=>nomatch q)
   (λtp l q=>by cases q; exact ⟨hp,D8 (dE _),O5 _⟩) (x.at λo q=>O1 _ (O1 _ q)) ⟨.ref s.heap.objs.size,by rw [hz]; exact O9 _ rfl,rfl,O1 _ (O9 _ rfl)⟩ (λb o q=>O1 _ (O1 _ q))
theorem Q9u {d:aB} {t:aW} {Q:List aA->aC->Prop} (Y:A.handled=zl) (x:RawS s.heap d es ep t) (hf:t.fits es.size=zb) (g:Good (byT w) t) (Z:es.size<=sizeLine)
  (h:∀ vs h' d' O,vs.Perm (es.toList.map (·.2))->(∀ b o,s.heap.get? b=zo o->h'.get? b=zo o)->s.heap.objs.size<=h'.objs.size->Q vs { s with heap:=h',drawn:=d',toks:=O }):aF (aI prog w) A (collect (.ref d)) Q E s:=by
 unfold collect;refine aD (wpAny_runValue (bC gm ?_));rw [Around.under_plainId gn _];show aF _ A.in1 (newList [] >>= λl=>again (.builtin "list.__iadd__" ⟨[l,.ref d],[]⟩)) _ _ s
 refine aD (av ?_);refine wpAny_pure ⟨bD eA _,bC gq ?_⟩;rw [Around.under_plainId eA _];have hS:(s.heap.push { cls:=.type "list",data:=.seq ([]:List aA).toArray }).get? s.heap.objs.size=zo { cls:=.type "list",data:=.seq ([]:List aA).toArray }:=O9 _ rfl;have I:∀ b o,s.heap.get? b=zo o->(s.heap.push { cls:=.type "list",data:=.seq ([]:List aA).toArray }).get? b=zo o:=λb o e=>O1 _ e
 have J:s.heap.objs.size≠d:=L9 x.lt;show aF _ A.in1 (Builtin.List.listExtendWith (.ref s.heap.objs.size) (.ref d) (.ref s.heap.objs.size)) _ _ _;refine Qpd (prog:=prog) (w:=w) (A:=A) (R:=λr s'=>match r with | .ok (.ret v)=>aF (aI prog w) A (match v with | .ref a=>do { let o <- load a; match o.data with | .seq xs _=>pure xs.toList | _=>unsupported "internal:collect" } | _=>unsupported "internal:collect") Q E s' | .ok _=>False | .error e=>E e s') (s:={ s with heap:=s.heap.push { cls:=.type "list",data:=.seq ([]:List aA).toArray } }) Y (x.at λo e=>I d o e) hf g s.heap.objs.size J _ _ hS (λh' d' O acc c pm hk G=>?_) Z
 show aF _ A (load s.heap.objs.size >>= _) _ _ _;refine aD (wpAny_load G ?_);exact wpAny_pure (h _ h' d' O pm (λb o q=>hk b o (D8 (O7 q)) (I b o q)) (cn (O7 G)))
end
theorem Inv.redraw {pins:zAA} {σ:List (Option V)} {H:Hp} (I:Inv X pins σ H s) (d':Drawn):Inv X pins σ H { s with drawn:=d' }:=⟨I.ok,I.os,I.bare,I.base,I.loc,I.cell,I.free,I.freeC,I.pin,I.hok,I.len⟩
end L2
namespace L2
open PySem PySem.Spec PyProof.Rows SeqAt
end L2
namespace L2
open PySem PySem.Spec PyProof.Rows
variable {M j N:Nat} {L:Bool} {h:Int} {hs:List Int}
variable {X:Cx} {tg:aH}
theorem Qef:OpR X (aS .LtE) (λx y H Q=>∃ i j,x=.str i/\y=.str j/\Q (.bl (!decide (j.cps.toList < i.cps.toList))) H):=by
 intro pins s σ H x y v u Q I J G h;obtain ⟨i,j,rfl,rfl,q⟩:=h;obtain ⟨t,rfl⟩:=J;obtain ⟨t',rfl⟩:=G;exact PySem.P.le_str (Q40 I q rfl)
def Quk (x:Str):It:=⟨λi _=>i < x.cps.size,λi H v H'=>H'=H/\∃ c,x.cps[i]?=zo c/\v=.str ⟨#[c]⟩,λi _=>x.cps.size<=i⟩
theorem Q4y {prog:aK} {w:aJ} {A:aL} (h:A.handled=zl) (I:aB) (x:Str) (t:Tok):Walks prog w A I [I] [I] x.cps.size (SignAt x) λi h=>h.IsStrIter I (strIterType x) x t i:=by
 unfold strIterType
 split
 ·exact Walks.strAscii h I x t
 ·exact Walks.strWide h I x t
theorem Q5j (x:Str):strIterType x = "str_ascii_iterator" \/ strIterType x = "str_iterator" := by
 unfold strIterType
 split
 ·exact .inl rfl
 ·exact .inr rfl
theorem Qfs {P:aK} {w:aJ} {K:bX} (x:Str) (t:Tok) (it:aB):Turn P w K tg (Quk x) [it] it (λi h=>h.IsStrIter it (strIterType x) x t i/\i<=x.cps.size) where
 mem:=by simp
 obj:=λi h st b G=>by
  have e:b=it:=by simpa using G
  subst e;obtain ⟨o,e,c,d⟩:=st.1;exact ⟨o,e,λv z=>by rw [d] at z; cases z⟩
 keep:=λi h h' st k=>by
  obtain ⟨⟨o,e,c,d⟩,hi⟩:=st;exact ⟨⟨o,k it (by simp) o e,c,d⟩,hi⟩
 item:=by
  intro X hP hw hK hc i pins s σ H E I O st J;subst hP hw hK;obtain ⟨Y,f1,f2,Z,f4,f5⟩:=O it (by simp);have W:=Q4y (prog:=X.prog) (w:=X.w) (I.ok.hd hc) it x t;refine W.item i s _ _ J st.1 λv h' tk hv st' kk=>?_
  obtain ⟨c,u,a1,rfl⟩:=hv;have I1:Inv X pins σ H { s with heap:=h',toks:=tk }:=I.turned (λb o G e=>kk b o (by simpa using G) e) Y f1 Z f4 f5
  obtain ⟨o,e1,e2,e3⟩:=st';refine ⟨_,rfl,Qd2 (s:={ s with heap:=h',toks:=tk }) (n:=strIterType x) e1 e2 e3 ?_ ⟨.str ⟨#[c]⟩,H,I1,⟨u,rfl⟩,⟨rfl,c,a1,rfl⟩,⟨⟨o,e1,e2,e3⟩,J⟩,λb G=>(O b G).1⟩⟩
  rcases Q5j x with q | q <;> rw [q] <;> decide
 done:=by
  intro X hP hw hK hc i pins s σ H E I O st J;subst hP hw hK;obtain ⟨Y,f1,f2,Z,f4,f5⟩:=O it (by simp);have W:=Q4y (prog:=X.prog) (w:=X.w) (I.ok.hd hc) it x t;have e:i=x.cps.size:=Nat.le_antisymm st.2 J;subst e;exact W.done s _ _ st.1 λh' tk kk=>⟨rfl,I.turned (λb o G e=>kk b o (by simpa using G) e) Y f1 Z f4 f5⟩
 self:=λA i s Q E st h=>by
  obtain ⟨st,_⟩:=st;revert st;rcases Q5j x with q | q <;> rw [q] <;> intro st
  ·exact wpAny_pyIter_striter_ascii st h
  ·exact wpAny_pyIter_striter_wide st h
def Qzz (tl:TE):TI:=λσ H R=>tl σ H λv H1=>∃ x,v=.str x/\R (Quk x) H1
theorem Qs7 {l:aH} {tl:TE} (J:PE X l tl):PI X tg l (Qzz tl):=by
 intro pins s σ H R I h;refine thn (J pins s σ H _ I h) λv s1 ⟨z,H1,G,Y,Z⟩=>?_
 obtain ⟨x,e,q⟩:=Z;subst e;obtain ⟨t,rfl⟩:=Y;refine wpAny_pyIter_strU ?_;refine ⟨s1.heap.objs.size,[s1.heap.objs.size],_,_,H1,rfl,G.kept (t':=s1.toks) λb o e=>O1 _ e,Qfs x t _,⟨⟨_,O9 _ rfl,rfl,rfl⟩,F8 _⟩,λb O=>?_,q⟩
 have e:b=s1.heap.objs.size:=by simpa using O
 subst e;exact G.fpOk (O5 _) (G.hok.fresh (O5 _))
theorem Qc6:∀ {ss:List Str} {us:List aA},Vals (ss.map V.str) us->∃ l:List (Str × Tok),us=strValues l/\l.map (·.1)=ss
 | [],_,.nil=>⟨[],rfl,rfl⟩
 | s :: ss,_,.cons r t=>by
  obtain ⟨l,q,G⟩:=Qc6 t;obtain ⟨I,rfl⟩:=r;exact ⟨(s,I) :: l,by rw [q]; rfl,by rw [D5,G]⟩
theorem Qne:MtR X "str.join" (λx vs H Q=>∃ G p ss,x=.str G/\vs=[.ref p]/\SqL X.K H p (ss.map V.str)/\JoinOk G ss=zb/\Q (.str (Txt.join G ss)) H):=by
 intro pins s σ H x vs v us Q I O rv h;obtain ⟨G,p,ss,rfl,rfl,J,hz,q⟩:=h;obtain ⟨t,rfl⟩:=O;obtain ⟨u,rfl,ru⟩:=rv.one;cases ru;obtain ⟨its,r',Z,_⟩:=I.list J;obtain ⟨l,e1,Y⟩:=Qc6 r';subst e1;exact SC.join Z.isList Y hz λt' k=>⟨.str _,H,I.tok _,⟨_,rfl⟩,q⟩
def yg (M:Nat) (p:SetTable.Probe):SetTable.Probe:=
 if p.more > 0 then { j:=p.j + 1,more:=p.more - 1,i:=p.i,perturb:=p.perturb,dummy:=p.dummy }
 else { j:=(SetTable.leap M p.i p.perturb).1,more:=SetTable.runEnd M (SetTable.leap M p.i p.perturb).1 - (SetTable.leap M p.i p.perturb).1,i:=(SetTable.leap M p.i p.perturb).1,perturb:=(SetTable.leap M p.i p.perturb).2,dummy:=p.dummy }
theorem Q4d (t:aW) (p:SetTable.Probe):t.advance p=yg t.mask p:=by
 unfold SetTable.advance yg
 split <;> rfl
def Qj2 (M:Nat) (q:Nat × Nat):SetTable.Probe:={ j:=q.1,more:=SetTable.runEnd M q.1 - q.1,i:=q.1,perturb:=q.2,dummy:=zl }
def lpP (M:Nat) (h:Int):Nat->Nat × Nat
 | 0=>(SetTable.bits h % (M + 1),SetTable.bits h)
 | m + 1=>SetTable.leap M (lpP M h m).1 (lpP M h m).2
def pth (M:Nat) (h:Int):Nat->SetTable.Probe
 | 0=>Qj2 M (lpP M h 0)
 | n + 1=>yg M (pth M h n)
def J2 (M:Nat) (h:Int) (n:Nat):Nat:=(pth M h n).j
theorem Q58 (M:Nat) (h:Int):∀ n,(pth M h n).dummy=zl
 | 0=>rfl
 | n + 1=>by
  have:=Q58 M h n;show (yg M (pth M h n)).dummy=zl;unfold yg
  split <;> exact this
theorem Qcw (M i p:Nat):(SetTable.leap M i p).1<=M:=by
 show (i * 5 + 1 + p / 32) % (M + 1)<=M;exact eF (eE _ (hX _))
theorem Q6y (M:Nat) (h:Int):∀ m,(lpP M h m).1<=M
 | 0=>eF (eE _ (hX _))
 | m + 1=>Qcw _ _ _
theorem ja {i:Nat} (h:i<=M):SetTable.runEnd M i<=M/\i<=SetTable.runEnd M i/\SetTable.runEnd M i<=i + 9:=by
 unfold SetTable.runEnd
 split <;> omega
theorem Qh1 (M:Nat) (h:Int):∀ n,(pth M h n).j + (pth M h n).more<=M
 | 0=>by
  have:=ja (Q6y M h 0);show (lpP M h 0).1 + (SetTable.runEnd M (lpP M h 0).1 - (lpP M h 0).1)<=M;omega
 | n + 1=>by
  have q:=Qh1 M h n;show (yg M (pth M h n)).j + (yg M (pth M h n)).more<=M;unfold yg
  split
  ·dsimp only; omega
  ·dsimp only;have:=ja (Qcw M (pth M h n).i (pth M h n).perturb);omega
theorem Qmn (M:Nat) (h:Int) (n:Nat):J2 M h n<=M:=by
 have:=Qh1 M h n;unfold J2; omega
theorem Q6g {M:Nat} {h:Int} {n:Nat} {q:Nat × Nat} (e:pth M h n=Qj2 M q):∀ k,k<=SetTable.runEnd M q.1 - q.1->pth M h (n + k)={ j:=q.1 + k,more:=SetTable.runEnd M q.1 - q.1 - k,i:=q.1,perturb:=q.2,dummy:=zl }
 | 0,_=>e
 | k + 1,G=>by
  show yg M (pth M h (n + k))=_;rw [Q6g e k (by omega)];unfold yg;dsimp only;rw [bT (by omega)];congr 1
theorem Qch (M:Nat) (h:Int):∀ m,∃ n,n<=10 * m/\pth M h n=Qj2 M (lpP M h m)
 | 0=>⟨0,by omega,rfl⟩
 | m + 1=>by
  obtain ⟨n,q,e⟩:=Qch M h m;have b:=ja (Q6y M h m);refine ⟨n + (SetTable.runEnd M (lpP M h m).1 - (lpP M h m).1) + 1,by omega,?_⟩;show yg M (pth M h (n + _))=_;rw [Q6g e _ (O5 _)];unfold yg;dsimp only;rw [bU (by omega)];rfl
def itF (M:Nat):Nat->Nat->Nat
 | 0,i=>i
 | n + 1,i=>itF M n ((i * 5 + 1) % (M + 1))
theorem xh (M:Nat):∀ a b i,itF M (a + b) i=itF M b (itF M a i)
 | 0,b,i=>by rw [hZ]; rfl
 | a + 1,b,i=>by rw [Nat.succ_add]; exact xh M a b _
def orb (M:Nat):Nat->Nat->List Nat
 | 0,_=>[]
 | k + 1,i=>i :: orb M k ((i * 5 + 1) % (M + 1))
theorem Q6k {M:Nat}:∀ {k i j:Nat},j∈orb M k i->∃ n,n < k/\itF M n i=j
 | k + 1,i,j,h=>by
  rcases D6.mp h with rfl | h
  ·exact ⟨0,by omega,rfl⟩
  ·obtain ⟨n,q,e⟩:=Q6k h;exact ⟨n + 1,by omega,e⟩
def HM (M:Nat):Prop:=M=7\/M=31\/M=127
theorem Qn6 (q:HM M):(∀ j,j < M + 1->j∈orb M (M + 1) 0)/\itF M (M + 1) 0=0:=by
 rcases q with rfl | rfl | rfl
 ·exact ⟨by decide +kernel,by decide +kernel⟩
 ·exact ⟨by decide +kernel,by decide +kernel⟩
 ·exact ⟨by decide +kernel,by decide +kernel⟩
theorem Qtt (J:HM M) {i:Nat} (hi:i<=M) (Y:j<=M):∃ n,n < M + 1/\itF M n i=j:=by
 obtain ⟨o,z⟩:=Qn6 J;obtain ⟨a,O,I⟩:=Q6k (o i (by omega));obtain ⟨b,Z,G⟩:=Q6k (o j (by omega))
 by_cases q:a<=b
 ·refine ⟨b - a,by omega,?_⟩;rw [<- I,<- xh,show a + (b - a)=b by omega,G]
 ·refine ⟨M + 1 - a + b,by omega,?_⟩;rw [<- I,<- xh,show a + (M + 1 - a + b)=(M + 1) + b by omega,xh,z,G]
theorem Qif (M:Nat) (h:Int):∀ m,(lpP M h m).2=SetTable.bits h / 32 ^ m
 | 0=>by show SetTable.bits h=_; rw [Nat.pow_zero,Nat.div_one]
 | m + 1=>by
  show (lpP M h m).2 / 32=_;rw [Qif M h m,iA,<- fP]
theorem Qpu (h:Int):SetTable.bits h < 2 ^ 64:=by
 unfold SetTable.bits;have h1:(0:Int) < 2 ^ 64:=by decide
 have:=fQ h h1;have:=fR h (show (2:Int) ^ 64≠0 by decide);omega
theorem Qx2 (M:Nat) (h:Int):∀ n,(lpP M h (12 + n)).1=itF M n (lpP M h 12).1:=by
 have step:∀ m,12<=m->(lpP M h (m + 1)).1=((lpP M h m).1 * 5 + 1) % (M + 1):=λm hm=>by
  show ((lpP M h m).1 * 5 + 1 + (lpP M h m).2 / 32) % (M + 1)=_;have:(lpP M h m).2 / 32=0:=by
   rw [Qif,iA,<- fP];refine Nat.div_eq_of_lt (D1 (Qpu h) ?_);exact D9 (show 2 ^ 64<=32 ^ 13 by decide) (Nat.pow_le_pow_right (by decide) (by omega))
  rw [this,iB]
 have q:∀ n i,itF M (n + 1) i=(itF M n i * 5 + 1) % (M + 1):=λn i=>xh M n 1 i
 intro n
 induction n with
 | zero=>rfl
 | succ n G=>rw [q,<- G]; exact step (12 + n) (by omega)
theorem Q95 (G:HM M) (h:Int) (q:j<=M):∃ m,m < M + 13/\(lpP M h m).1=j:=by
 obtain ⟨n,I,e⟩:=Qtt G (Q6y M h 12) q;exact ⟨12 + n,by omega,by rw [Qx2,e]⟩
theorem Qe7 (G:HM M) (h:Int) (q:j<=M):∃ n,n<=10 * (M + 12)/\J2 M h n=j:=by
 obtain ⟨m,hm,e⟩:=Q95 G h q;obtain ⟨n,I,en⟩:=Qch M h m;exact ⟨n,by omega,by unfold J2; rw [en]; exact e⟩
theorem Qbc (Z:HM M) (h:Int) (G:Nat->Prop) (Y:j<=M) (ho:¬ G j):∃ N,N<=10 * (M + 12)/\¬ G (J2 M h N)/\∀ m,m < N->G (J2 M h m):=by
 obtain ⟨n,O,e⟩:=Qe7 Z h Y;have J:∀ n,¬ G (J2 M h n)->∃ N,N<=n/\¬ G (J2 M h N)/\∀ m,m < N->G (J2 M h m):=by
  intro n
  induction n using Nat.strongRecOn with
  | ind n ih=>
   intro O
   by_cases q:∃ m,m < n/\¬ G (J2 M h m)
   ·obtain ⟨m,hm,hx⟩:=q;obtain ⟨N,h1,h2,I⟩:=ih m hm hx;exact ⟨N,by omega,h2,I⟩
   ·refine ⟨n,O5 _,O,λm hm=>?_⟩;exact Classical.byContradiction λz=>q ⟨m,hm,z⟩
 obtain ⟨N,h1,h2,I⟩:=J n (by rw [e]; exact ho);exact ⟨N,by omega,h2,I⟩
theorem Xm {t:aW} {i:Nat} (r:Rise t.place) (hi:t.place[i]?=zo j):t.slot j=.live i:=by
 obtain ⟨I,b⟩:=j4 (j:=j) r;have n1:¬ i < SetTable.below t.place j:=λz=>by have:=(b i j hi).mp z; omega
 have G:=(cA.mp hi).1;have e:SetTable.below t.place j=i:=by
  by_cases z:SetTable.below t.place j < i
  ·have q:SetTable.below t.place j < t.place.size:=by omega
   have l:=r.lt (bi q) hi z;have:=(b _ _ (bi q)).mpr l;omega
  ·omega
 unfold SetTable.slot;dsimp only;rw [e,hi];simp
theorem Qdu {t:aW} (hd:t.dummies=#[]) (h:j∉t.place.toList):t.slot j=.empty:=by
 unfold SetTable.slot SetTable.has;dsimp only;rw [hd];have:¬ (t.place[SetTable.below t.place j]? == zo j)=zb:=λz=>by
  have z:=eq_of_beq z;rw [<- bh] at z;exact h (E2 z)
 rw [bU this];simp
theorem Qh9 {t:aW} (g:Good L t) (hashAt:Nat->Int) (h:Int) (hN:J2 t.mask h N∉t.place.toList) (hl:∀ m,m < N->J2 t.mask h m∈t.place.toList):∀ G n,n<=N->N - n < G ->
  (SetTable.probe.go t hashAt h G (pth t.mask h n)=zo (.empty (J2 t.mask h N) zl)/\∀ m,n<=m->m < N->∀ i,t.place[i]?=zo (J2 t.mask h m)->hashAt i≠h) \/
  (∃ m i,n<=m/\m < N/\t.place[i]?=zo (J2 t.mask h m)/\hashAt i=h/\SetTable.probe.go t hashAt h G (pth t.mask h n)=zo (.candidate (J2 t.mask h m) i (pth t.mask h (m + 1)))/\∀ O,n<=O->O < m->∀ i,t.place[i]?=zo (J2 t.mask h O)->hashAt i≠h):=by
 intro G
 induction G with
 | zero=>intro n _ h2; omega
 | succ G ih=>
  intro n h1 h2;rw [SetTable.probe.go]
  by_cases e:n=N
  ·subst e
   left
   have:=Qdu g.2.1 hN;unfold J2 at this ⊢;rw [this,Q58];exact ⟨rfl,λm h3 Z=>by omega⟩
  ·have hm:=hl n (by omega);obtain ⟨i,hi,ei⟩:=G6 hm;have hv:t.place[i]?=zo (J2 t.mask h n):=by rw [<- bh,O2 hi,ei]
   have hs:=Xm g.1 hv;have uq:∀ J,t.place[J]?=zo (J2 t.mask h n)->J=i:=λJ I=>by
    have:=Xm g.1 I;rw [hs] at this; cases this; rfl
   unfold J2 at hs;rw [hs];dsimp only
   by_cases q:hashAt i=h
   ·right
    refine ⟨n,i,O5 _,by omega,hv,q,?_,λO h3 Z=>by omega⟩;rw [bT (by simp [q]),Q4d];rfl
   ·rw [bU (by simp [q]),Q4d];have ad:yg t.mask (pth t.mask h n)=pth t.mask h (n + 1):=rfl;rw [ad];rcases ih (n + 1) (by omega) (by omega) with ⟨a1,a2⟩ | ⟨m,J,a1,a2,a3,a4,a5,a6⟩
    ·left
     refine ⟨a1,λm h3 Z J I=>?_⟩
     by_cases z:m=n
     ·subst z; rw [uq J I]; exact q
     ·exact a2 m (by omega) Z J I
    ·right
     refine ⟨m,J,by omega,a2,a3,a4,a5,λO h3 Z i2 Y=>?_⟩
     by_cases z:O=n
     ·subst z; rw [uq i2 Y]; exact q
     ·exact a6 O (by omega) Z i2 Y
def Rch (M:Nat) (occ:Nat->Prop) (h:Int) (j:Nat):Prop:=∃ n,J2 M h n=j/\∀ m,m < n->occ (J2 M h m)
theorem Rch.mono {G q:Nat->Prop} (r:Rch M G h j) (k:∀ x,G x->q x):Rch M q h j:=let ⟨n,e,f⟩:=r; ⟨n,e,λm hm=>k _ (f m hm)⟩
def SzM (M n:Nat):Prop:=M=7/\n<=4\/M=31/\n<=18\/M=127/\n<=76
def SzP (M n:Nat):Prop:=M=7/\n<=5\/M=31/\n<=19\/M=127/\n<=76
theorem SzM.hm {n:Nat} (s:SzM M n):HM M:=by unfold SzM at s; unfold HM; omega
structure HG0 (L:Bool) (t:aW) (hs:List Int):Prop where
 good:Good L t
 len:t.place.size=hs.length
 le:∀ j,j∈t.place.toList->j<=t.mask
 rch:∀ (i j:Nat) (h:Int),t.place[i]?=zo j->hs[i]?=zo h->Rch t.mask (·∈t.place.toList) h j
structure HG (L:Bool) (t:aW) (hs:List Int):Prop extends HG0 L t hs where
 sz:SzM t.mask hs.length
theorem HG.fits {t:aW} (g:HG L t hs):t.fits hs.length=zb:=by
 unfold SetTable.fits SetTable.fill;rw [g.good.2.1,g.len];have:=g.sz;unfold SzM at this;simp;omega
theorem Qcf:∀ (n:Nat) (l:List Nat),l.length < n->∃ j,j < n/\j∉l
 | 0,l,h=>by omega
 | n + 1,l,h=>by
  by_cases q:n∈l
  ·have G:0 < l.length:=iC q;obtain ⟨j,h1,h2⟩:=Qcf n (l.erase n) (by rw [iD q]; omega);exact ⟨j,by omega,λz=>h2 ((iE (by omega)).mpr z)⟩
  ·exact ⟨n,by omega,q⟩
theorem HG.free {t:aW} (g:HG L t hs) (h:Int):∃ N,N<=10 * (t.mask + 12)/\J2 t.mask h N∉t.place.toList/\∀ m,m < N->J2 t.mask h m∈t.place.toList:=by
 have sz:=g.sz;unfold SzM at sz;obtain ⟨j,h1,h2⟩:=Qcf (t.mask + 1) t.place.toList (by rw [be,g.len]; omega);exact Qbc g.sz.hm h (·∈t.place.toList) (eF h1) h2
theorem Qj9 (L:Bool):HG L (.fresh 0 0 L) [] where
 good:=⟨fI,rfl,rfl⟩
 len:=rfl
 le:=λj h=>by cases h
 rch:=λi j h e=>by simp [SetTable.fresh] at e
 sz:=.inl ⟨rfl,by simp⟩
theorem HG.put {t:aW} (g:HG L t hs) (Z:J2 t.mask h N∉t.place.toList) (hl:∀ m,m < N->J2 t.mask h m∈t.place.toList) :
  HG0 L (t.put (J2 t.mask h N)).1 (hs.take (SetTable.below t.place (J2 t.mask h N)) ++ h :: hs.drop (SetTable.below t.place (J2 t.mask h N))):=by
 generalize hj:J2 t.mask h N=j at Z;have b:=(j4 (j:=j) g.good.1).1;have gl:=g.len;generalize hp:SetTable.below t.place j=p at b;have ep:(t.put j).1.place.toList=t.place.toList.take p ++ j :: t.place.toList.drop p:=by
  show (SetTable.insertAt t.place (SetTable.below t.place j) j).toList=_;rw [SetTable.toList_insertAt,hp]
 have Y:(t.put j).1.mask=t.mask:=rfl;have sub:∀ x,x∈t.place.toList->x∈(t.put j).1.place.toList:=λx O=>by
  rw [ep];rw [<- eG p t.place.toList] at O;rcases E3.mp O with q | q
  ·exact E3.mpr (.inl q)
  ·exact E3.mpr (.inr (O4 _ q))
 have tl:(t.place.toList.take p).length=p:=by rw [L8,be]; omega
 have J:(hs.take p).length=p:=by rw [L8]; omega
 refine ⟨g.good.put Z,?_,λx O=>?_,λi x h' G I=>?_⟩
 ·have:(t.put j).1.place.toList.length=hs.length + 1:=by
   rw [ep,O6,D3,tl,cq,be]; omega
  rw [<- be,this,O6,D3,J,cq]; omega
 ·rw [Y];rw [ep] at O;rcases E3.mp O with q | q
  ·exact g.le x (List.mem_of_mem_take q)
  ·rcases D6.mp q with q | q
   ·rw [q,<- hj]; exact Qmn _ _ _
   ·exact g.le x (gt q)
 ·rw [<- bh,ep] at G;rw [Y]
  by_cases q:i < p
  ·rw [O8 (by omega),iF,bT q,bh] at G;rw [O8 (by omega),iF,bT q] at I;exact (g.rch i x h' G I).mono sub
  ·rw [D4 (by omega),tl] at G;rw [D4 (by omega),J] at I
   by_cases z:i=p
   ·subst z;rw [L6] at G I;have G:j=x:=by simpa using G
    have I:h=h':=by simpa using I
    subst G; subst I;exact ⟨N,hj,λm hm=>sub _ (hl m hm)⟩
   ·obtain ⟨k,rfl⟩:∃ k,i=p + 1 + k:=⟨i - p - 1,by omega⟩;rw [show p + 1 + k - p=k + 1 by omega,eI,iG,bh] at G;rw [show p + 1 + k - p=k + 1 by omega,eI,iG] at I;exact (g.rch (p + k) x h' G I).mono sub
theorem Qpa {owner:Array (Option Nat)} (h:Int):∀ J m n,pth M h n=Qj2 M (lpP M h m)->(∀ I,I < n->∃ k,owner[J2 M h I]?=zo (zo k))->owner.size=M + 1 ->
  (∃ I,m<=I/\I < m + J/\owner[(lpP M h I).1]?=zo zl) ->
  ∃ n',SetTable.layClean.free M owner J (lpP M h m).1 (lpP M h m).2=zo (J2 M h n')/\owner[J2 M h n']?=zo zl/\∀ I,I < n'->∃ k,owner[J2 M h I]?=zo (zo k):=by
 intro J
 induction J with
 | zero=>rintro m n _ _ _ ⟨I,h1,h2,_⟩; omega
 | succ J ih=>
  intro m n en Z hsz a3;rw [SetTable.layClean.free];have a4:=Q6y M h m;have hr:=ja a4;have O:∀ k,k<=SetTable.runEnd M (lpP M h m).1 - (lpP M h m).1->J2 M h (n + k)=(lpP M h m).1 + k:=λk hk=>by unfold J2; rw [Q6g en k hk]
  cases z:fS (λk=>(owner.getD ((lpP M h m).1 + k) (zo 0)).isNone) (bY (SetTable.runEnd M (lpP M h m).1 + 1 - (lpP M h m).1)) with
  | some k=>
   dsimp only;have z1:=fT z;obtain ⟨z0,as,bs,e1,z2⟩:=List.find?_eq_some_iff_append.mp z;have hk:k < SetTable.runEnd M (lpP M h m).1 + 1 - (lpP M h m).1:=cF.mp (fU z);have ok:∀ G,G < k->∃ q,owner[(lpP M h m).1 + G]?=zo (zo q):=λG a1=>by
    have hm:G∈as:=by
     have:(bY (SetTable.runEnd M (lpP M h m).1 + 1 - (lpP M h m).1))[G]?=zo G:=by rw [fV (by omega)]
     have a5:as.length=k:=by
      have q1:(as ++ k :: bs)[as.length]?=zo k:=by rw [D4 (O5 _),L6]; rfl
      rw [<- e1,fV (by
       have:=congrArg cy e1;rw [F5,O6,D3] at this;omega)] at q1
      cases q1; rfl
     rw [e1,O8 (by omega)] at this;exact E2 this
    have:=z2 G hm;have Y:(lpP M h m).1 + G < owner.size:=by omega
    simp [dI,Y] at this;rw [bi Y];cases q:owner[(lpP M h m).1 + G] with
    | none=>rw [q] at this; simp at this
    | some v=>exact ⟨v,rfl⟩
   have Y:(lpP M h m).1 + k < owner.size:=by omega
   refine ⟨n + k,by rw [O k (by omega)],?_,λI a2=>?_⟩
   ·rw [O k (by omega),bi Y];simp [dI,Y] at z1;rw [z1]
   ·by_cases q:I < n
    ·exact Z I q
    ·obtain ⟨G,rfl⟩:∃ G,I=n + G:=⟨I - n,by omega⟩;rw [O G (by omega)];exact ok G (by omega)
  | none=>
   dsimp only;have z1:=List.find?_eq_none.mp z;have ok:∀ G,G<=SetTable.runEnd M (lpP M h m).1 - (lpP M h m).1->∃ q,owner[(lpP M h m).1 + G]?=zo (zo q):=λG a1=>by
    have:=z1 G (cF.mpr (by omega));have Y:(lpP M h m).1 + G < owner.size:=by omega
    simp [dI,Y] at this;rw [bi Y];cases q:owner[(lpP M h m).1 + G] with
    | none=>rw [q] at this; simp at this
    | some v=>exact ⟨v,rfl⟩
   have nx:pth M h (n + (SetTable.runEnd M (lpP M h m).1 - (lpP M h m).1) + 1)=Qj2 M (lpP M h (m + 1)):=by
    show yg M (pth M h (n + _))=_;rw [Q6g en _ (O5 _)];unfold yg;dsimp only;rw [bU (by omega)];rfl
   refine ih (m + 1) _ nx (λI a2=>?_) hsz ?_
   ·by_cases q:I < n
    ·exact Z I q
    ·obtain ⟨G,rfl⟩:∃ G,I=n + G:=⟨I - n,by omega⟩;rw [O G (by omega)];exact ok G (by omega)
   ·obtain ⟨I,h1,h2,h3⟩:=a3;have ne:I≠m:=λe=>by
     subst e;obtain ⟨q,hq⟩:=ok 0 (by omega);rw [iB,h3] at hq;cases hq
    exact ⟨I,by omega,by omega,h3⟩
structure OwnT (M:Nat) (hs:List Int) (owner:Array (Option Nat)) (k:Nat):Prop where
 sz:owner.size=M + 1
 cnt:owner.toList.countP eJ + k=M + 1
 inj:∀ (i j:Nat) (x:Nat),owner[i]?=zo (zo x)->owner[j]?=zo (zo x)->i=j
 lt:∀ (i:Nat) (x:Nat),owner[i]?=zo (zo x)->x < k
 all:∀ x:Nat,x < k->∃ i:Nat,owner[i]?=zo (zo x)
 rch:∀ (i:Nat) (x:Nat) (h:Int),owner[i]?=zo (zo x)->hs[x]?=zo h->Rch M (λ(j:Nat)=>∃ y,owner[j]?=zo (zo y)) h i
theorem Qhn (hM:HM M) {owner:Array (Option Nat)} {k:Nat} (o:OwnT M hs owner k) (hk:hs[k]?=zo h) (a3:k < M + 1) :
  ∃ j,SetTable.layClean.free M owner (SetTable.turns M) (SetTable.bits h % (M + 1)) (SetTable.bits h)=zo j/\OwnT M hs (owner.setIfInBounds j (zo k)) (k + 1):=by
 have pos:0 < owner.toList.countP eJ:=by have:=o.cnt; omega
 obtain ⟨v,hv,e⟩:=List.countP_pos_iff.mp pos;obtain ⟨j0,Z,a1⟩:=G6 hv;have G:owner[j0]?=zo zl:=by
  rw [<- bh,O2 Z,a1];cases v with
  | none=>rfl
  | some _=>cases e
 have Y:j0<=M:=by have:=(cA.mp G).1; rw [o.sz] at this; omega
 obtain ⟨m',O,a2⟩:=Q95 hM h Y;obtain ⟨n',e1,J,e3⟩:=Qpa (M:=M) (owner:=owner) h (SetTable.turns M) 0 0 rfl (λm' O=>by omega) o.sz ⟨m',F8 _,by unfold SetTable.turns; omega,by rw [a2]; exact G⟩;refine ⟨J2 M h n',e1,?_⟩;generalize hj:J2 M h n'=j at J;have hb:=(cA.mp J).1;have g:∀ i:Nat,(owner.setIfInBounds j (zo k))[i]?=if j=i then zo (zo k) else owner[i]?:=λi=>by
  rw [Array.getElem?_setIfInBounds]
  by_cases q:j=i
  ·rw [bT q,bT q,bT hb]
  ·rw [bU q,bU q]
 have up:∀ x:Nat,(∃ y,owner[x]?=zo (zo y))->∃ y,(owner.setIfInBounds j (zo k))[x]?=zo (zo y):=λx ⟨y,hy⟩=>by
  rw [g]
  by_cases q:j=x
  ·exact ⟨k,by rw [bT q]⟩
  ·exact ⟨y,by rw [bU q]; exact hy⟩
 refine ⟨by rw [Array.size_setIfInBounds]; exact o.sz,?_,λa b x h1 h2=>?_,λi x h1=>?_,λx hx=>?_,λi x h' h1 h2=>?_⟩
 ·rw [Array.toList_setIfInBounds];have I:j < owner.toList.length:=by simpa using hb
  have c:=List.countP_set (p:=eJ) (l:=owner.toList) (i:=j) (a:=zo k) I;have ej:owner.toList[j]=zl:=by
   have:=J;rw [<- bh,O2 I] at this;exact bn this
  rw [c];simp only [ej];show List.countP eJ owner.toList - 1 + 0 + (k + 1)=M + 1;have:=o.cnt;omega
 ·rw [g] at h1 h2
  by_cases q:j=a <;> by_cases z:j=b
  ·omega
  ·rw [bT q] at h1;rw [bU z] at h2;cases h1;have:=o.lt _ _ h2;omega
  ·rw [bU q] at h1;rw [bT z] at h2;cases h2;have:=o.lt _ _ h1;omega
  ·rw [bU q] at h1;rw [bU z] at h2;exact o.inj a b x h1 h2
 ·rw [g] at h1
  by_cases q:j=i
  ·rw [bT q] at h1; cases h1; omega
  ·rw [bU q] at h1;have:=o.lt _ _ h1;omega
 ·by_cases q:x=k
  ·subst q; exact ⟨j,by rw [g,bT rfl]⟩
  ·obtain ⟨i,hi⟩:=o.all x (by omega);refine ⟨i,?_⟩;rw [g,bU]
   ·exact hi
   ·intro z; subst z; rw [J] at hi; cases hi
 ·rw [g] at h1
  by_cases q:j=i
  ·rw [bT q] at h1; cases h1;rw [hk] at h2; cases h2;refine ⟨n',by rw [hj,q],λm hm=>up _ (e3 m hm)⟩
  ·rw [bU q] at h1;exact (o.rch i x h' h1 h2).mono up
theorem Qn2 (hM:HM M) (hs:List Int) (Z:hs.length<=M):∃ owner,SetTable.layClean M hs.toArray=zo owner/\OwnT M hs owner hs.length:=by
 have G:∀ (rest done:List Int) (owner:Array (Option Nat)),done ++ rest=hs->OwnT M hs owner done.length ->
   ∃ q,cI (λ(acc:Option (Array (Option Nat) × Nat)) h=>do
    let __x <- acc
    match __x with
     | (owner,k)=>do
      let j <- SetTable.layClean.free M owner (SetTable.turns M) (SetTable.bits h % (M + 1)) (SetTable.bits h)
      pure (owner.setIfInBounds j (zo k),k + 1)) (zo (owner,done.length)) rest=zo (q,hs.length)/\OwnT M hs q hs.length:=by
  intro rest
  induction rest with
  | nil=>intro done owner e o; rw [L1] at e; subst e; exact ⟨owner,rfl,o⟩
  | cons h rest ih=>
   intro done owner e o;have J:hs[done.length]?=zo h:=by rw [<- e,D4 (O5 _),L6]; rfl
   have hl:done.length < hs.length:=(O3.mp J).1;obtain ⟨j,e1,O⟩:=Qhn hM o J (by omega);obtain ⟨q,I,Y⟩:=ih (done ++ [h]) (owner.setIfInBounds j (zo done.length)) (by rw [<- e]; simp) (by rw [O6]; exact O);refine ⟨q,?_,Y⟩;rw [F2];rw [O6] at I;rw [<- I];congr 1;show iH (zo (owner,done.length)) _=_;show iH (SetTable.layClean.free M owner (SetTable.turns M) (SetTable.bits h % (M + 1)) (SetTable.bits h)) _=_;rw [e1];rfl
 obtain ⟨q,e,o⟩:=G hs [] (Array.replicate (M + 1) zl) rfl ⟨by simp,by simp [List.countP_replicate],λi j x h1=>by simp [fW] at h1,λi x h1=>by simp [fW] at h1,λx hx=>by simp at hx,λi x h h1=>by simp [fW] at h1⟩;refine ⟨q,?_,o⟩;unfold SetTable.layClean;rw [<- iI];show Option.map _ (cI _ (zo (_,([]:List Int).length)) hs)=_;rw [e];rfl
theorem Qaw {l m:List Nat} (h1:l.Nodup) (h2:m.Nodup) (h:∀ a,a∈l <-> a∈m):l.Perm m:=(iJ h1 h2).mpr h
theorem Qe2 {t:aW} {wanted:Nat} (g:Good L t) (hM:HM M) (hz:SetTable.sizeAbove wanted - 1=M) (a1:hs.length<=M) :
  ∃ t' ,∃ G:List Nat,t.relaid hs.toArray wanted=zo (t',G.toArray)/\G.Perm (bY hs.length)/\t'.mask=M/\HG0 L t' (G.map (λx=>hs.getD x 0)):=by
 obtain ⟨owner,e,o⟩:=Qn2 hM hs a1;have Y:∀ (l:List Nat) (j x:Nat),(j,x)∈(l.filterMap λj=>(owner.getD j zl).map (j,·)) <-> j∈l/\owner[j]?=zo (zo x):=by
  intro l j x;rw [dN];have gd:owner.getD j zl=(owner[j]?).getD zl:=by simp [dG]
  constructor
  ·rintro ⟨y,hy,ey⟩;cases q:owner.getD y zl with
   | none=>rw [q] at ey; cases ey
   | some v=>
    rw [q] at ey;cases ey;rw [gd] at q;refine ⟨hy,?_⟩;cases z:owner[j]? with
    | none=>rw [z] at q; cases q
    | some u=>rw [z] at q; exact congrArg zo q
  ·rintro ⟨h1,h2⟩;exact ⟨j,h1,by rw [gd,h2]; rfl⟩
 have hx:t.relaid hs.toArray wanted=zo ({ mask:=M,place:=(((bY (M + 1)).filterMap λj=>(owner.getD j zl).map (j,·)).map (·.1)).toArray,dummies:=#[],finger:=t.finger,led:=t.led,moves:=t.movedTo M,plain:=t.plain },(((bY (M + 1)).filterMap λj=>(owner.getD j zl).map (j,·)).map (·.2)).toArray):=by
  unfold SetTable.relaid SetTable.laid;rw [hz,e];rfl
 refine ⟨_,_,hx,?_,rfl,g.relaid hx,?_,?_,?_⟩
 all_goals generalize hl:((bY (M + 1)).filterMap λj=>(owner.getD j zl).map (j,·))=J
 all_goals
  have I:∀ j x,(j,x)∈J <-> owner[j]?=zo (zo x):=λj x=>by
   rw [<- hl,Y];refine ⟨λq=>q.2,λq=>⟨?_,q⟩⟩
   have:=(cA.mp q).1;rw [o.sz] at this;exact cF.mpr this
  have pw:J.Pairwise λa b=>a.1 < b.1:=by
   have:=(g.relaid hx).1;unfold Rise at this;dsimp only at this;rw [hl] at this;exact eC.mp this
  have Z:(J.map (·.2)).Perm (bY hs.length):=by
   refine Qaw ?_ List.nodup_range λa=>?_
   ·refine eC.mpr (ip (λ{a b} ha hb hab=>?_) pw);intro z;have h1:=(I a.1 a.2).mp ha;have h2:=(I b.1 b.2).mp hb;rw [z] at h1;have:=o.inj _ _ _ h1 h2;omega
   ·rw [E5,cF];constructor
    ·rintro ⟨⟨j,x⟩,hm,rfl⟩;exact o.lt _ _ ((I j x).mp hm)
    ·intro ha;obtain ⟨j,O⟩:=o.all a ha;exact ⟨(j,a),(I j a).mpr O,rfl⟩
 ·exact Z
 ·simp only [O0,D0]
 ·intro j O;have O:j∈J.map (·.1):=by simpa using O
  obtain ⟨⟨a,x⟩,hm,rfl⟩:=E5.mp O;have:=(cA.mp ((I a x).mp hm)).1;rw [o.sz] at this;exact eF this
 ·intro i j h h1 h2;have h1:(J.map (·.1))[i]?=zo j:=by simpa using h1
  rw [D7] at h1;rw [D7,D7] at h2;cases q:J[i]? with
  | none=>rw [q] at h1; cases h1
  | some a=>
   rw [q] at h1 h2;cases h1;cases h2;have hm:=(I a.1 a.2).mp (E2 q);have hk:=o.lt _ _ hm;have he:hs[a.2]?=zo (hs.getD a.2 0):=by rw [E1,O2 hk]; rfl
   refine (o.rch _ _ _ hm he).mono ?_;rintro y ⟨z,hz⟩;show y∈(J.map (·.1)).toArray.toList;exact E5.mpr ⟨(y,z),(I y z).mpr hz,rfl⟩
theorem Qgy {α:Type} (l:List α):(bY l.length).filterMap (λx=>l[x]?)=l:=by
 induction l with
 | nil=>rfl
 | cons a l q=>
  rw [D3,fL,cU];simp only [List.getElem?_cons_zero,gJ];congr 1
theorem Qah {es:List (Int × aA)} {q:List Nat} (p:q.Perm (bY es.length)) :
  (q.filterMap (λx=>es[x]?)).Perm es/\(q.filterMap (λx=>es[x]?)).map (·.1)=q.map (λx=>(es.map (·.1)).getD x 0):=by
 constructor
 ·have:=p.filterMap (λx=>es[x]?)
  rwa [Qgy] at this
 ·have hm:∀ x∈q,x < es.length:=λx G=>cF.mp (p.mem_iff.mp G)
  clear p
  induction q with
  | nil=>rfl
  | cons x l I=>
   have G:=hm x (by simp);rw [cU,O2 G];simp only [D5];rw [I λy J=>hm y (O4 _ J)]
   congr 1;rw [E1,D7,O2 G];rfl
theorem Qp9 {n:Nat} (h:SzP M n):(decide (n * 5>=M * 3)=zb->∃ q,SetTable.sizeAbove (SetTable.grown n) - 1=q/\¬ SetTable.sizeAbove (SetTable.grown n) > sizeLine/\HM q/\SzM q n/\n<=q)/\(decide (n * 5>=M * 3)=yo->SzM M n):=by
 unfold SzP at h;constructor
 ·intro z;have z:n * 5>=M * 3:=by simpa using z
  have:(M=7/\n=5)\/(M=31/\n=19):=by omega
  rcases this with ⟨rfl,rfl⟩ | ⟨rfl,rfl⟩
  ·exact ⟨31,by decide +kernel,by decide +kernel,.inr (.inl rfl),.inr (.inl ⟨rfl,by decide⟩),by decide⟩
  ·exact ⟨127,by decide +kernel,by decide +kernel,.inr (.inr rfl),.inr (.inr ⟨rfl,by decide⟩),by decide⟩
 ·intro z;have z:¬ n * 5>=M * 3:=by simpa using z
  unfold SzM;omega
end L2
namespace L2
open PySem PySem.Spec PyProof.Rows SeqAt
variable {b a:aB} {k:HK} {Q:Bool->aC->Prop} {L:Bool} {o:Obj} {es:zAB} {ep:Nat} {ks:List HK} {h:Heap}
variable {prog:aK} {A:aL} {E:zAD} {s:aC}
section
variable {w:aJ}
theorem Qb9:∀ (m:Nat) (d:Nat) {A:aL} {s:aC} {k:HK} {v:aA} {Q:Bool->aC->Prop},Dp d k->KIs s.heap k v->(∀ b,Q b s)->aF (aI prog w) A (hashByValue m v) Q E s:=by
 intro m
 induction m with
 | zero=>
  intro d A s k v Q J r q;cases k with
  | int i=>obtain ⟨t,rfl⟩:=r; unfold hashByValue; exact wpAny_pure (q _)
  | str i=>obtain ⟨t,rfl⟩:=r; unfold hashByValue; exact wpAny_pure (q _)
  | tup l=>obtain ⟨a,G,rfl,_⟩:=r; unfold hashByValue; exact wpAny_pure (q _)
 | succ m ih=>
  intro d A s k v Q J r q;cases k with
  | int i=>obtain ⟨t,rfl⟩:=r; unfold hashByValue; exact wpAny_pure (q _)
  | str i=>obtain ⟨t,rfl⟩:=r; unfold hashByValue; exact wpAny_pure (q _)
  | tup ks=>
   obtain ⟨a,G,rfl,⟨o,Y,hc,n,hd⟩,hi⟩:=r;have Z:s.TypeIs (.ref a) "tuple" := ⟨o,Y,hc⟩;cases d with
   | zero=>exact J.elim
   | succ d=>
    unfold hashByValue;refine aD (wpAny_specialOf Z F.slot_tuple_hash.lookup ?_);dsimp only;refine aD (aq Y hd (aD ?_));show aF _ _ (forIn G _ _) _ _ s;rw [<- db];refine wpAny_forIn_list _ (λrest r s'=>s'=s/\∃ l,KIsL s.heap l rest/\∀ k∈l,k∈ks) _ ?_ ?_ _ _ ⟨rfl,ks,hi,λ_ h=>h⟩
    ·rintro v rest r s' ⟨rfl,l,O,I⟩;cases l with
     | nil=>cases O
     | cons k l=>
      obtain ⟨v',r',e,h1,h2⟩:=O;cases e;refine aD (ih d (J k (I k (by simp))) h1 λb=>?_)
      cases b with
      | false=>
       simp only [iK,if_true];refine wpAny_pure ?_
       first | exact wpAny_pure (q _) | exact q _
      | true=>
       simp only [cT,E7,if_false];exact wpAny_pure ⟨rfl,l,h2,λx hx=>I x (O4 _ hx)⟩
    ·rintro ⟨r1,r2⟩ s' ⟨rfl,_⟩;cases r1 with
     | none=>exact wpAny_pure (q _)
     | some b=>exact wpAny_pure (q _)
theorem Q12:∀ (d:Nat) {A:aL} {s:aC} {k:HK} {v:aA} {Q:Bool->aC->Prop} (m:Nat),d < m->Dp d k->KIs s.heap k v->Q yo s->aF (aI prog w) A (ofAClassStatement m v) Q E s:=by
 intro d
 induction d with
 | zero=>
  intro A s k v Q m hm I r q;cases k with
  | tup l=>exact I.elim
  | int i=>obtain ⟨t,rfl⟩:=r; unfold ofAClassStatement; exact wpAny_pure q
  | str i=>obtain ⟨t,rfl⟩:=r; unfold ofAClassStatement; exact wpAny_pure q
 | succ d ih=>
  intro A s k v Q m hm I r q;cases k with
  | int i=>obtain ⟨t,rfl⟩:=r; unfold ofAClassStatement; exact wpAny_pure q
  | str i=>obtain ⟨t,rfl⟩:=r; unfold ofAClassStatement; exact wpAny_pure q
  | tup ks=>
   obtain ⟨a,J,rfl,⟨o,Z,hc,n,hd⟩,hi⟩:=r;have hT:s.TypeIs (.ref a) "tuple" := ⟨o,Z,hc⟩;obtain ⟨m,rfl⟩:∃ m',m=m' + 1:=⟨m - 1,by omega⟩;unfold ofAClassStatement;refine aD (bB hT ?_);dsimp only;rw [bT (by decide)];refine aD (wpAny_pure ?_);simp only [cT,E7,if_false];refine aD (aq Z hd ?_);dsimp only;refine aD ?_;rw [<- db];refine wpAny_forIn_list _ (λrest r s'=>r.1=zl/\s'=s/\∃ l,KIsL s.heap l rest/\∀ k∈l,k∈ks) _ ?_ ?_ _ _ ⟨rfl,rfl,ks,hi,λ_ h=>h⟩
   ·rintro v rest r s' ⟨O,rfl,l,Y,G⟩;cases l with
    | nil=>cases Y
    | cons k l=>
     obtain ⟨v',r',e,h1,h2⟩:=Y;cases e;refine aD (ih m (by omega) (I k (G k (by simp))) h1 ?_);simp only [E7,if_false];exact wpAny_pure ⟨rfl,rfl,l,h2,λx hx=>G x (O4 _ hx)⟩
   ·rintro ⟨r1,r2⟩ s' ⟨O,rfl,_⟩;simp only at O;subst O;exact wpAny_pure q
theorem Qm1 (I:(nk prog w).is s.heap k b) (l:List aA) (Z:∀ v∈l,∃ c J,v=.ref c/\(nk prog w).is s.heap J c) (q:Q yo s):aF (aI prog w) A (searchCouldBeSeen (.ref b) l) Q E s:=by
 unfold searchCouldBeSeen;refine aD ?_;refine wpAny_forIn_list _ (λrest r s'=>r.1=zl/\s'=s/\∀ v∈rest,∃ c J,v=.ref c/\(nk prog w).is s.heap J c) _ ?_ ?_ _ _ ⟨rfl,rfl,Z⟩
 ·rintro v rest r s' ⟨Y,rfl,G⟩;obtain ⟨c,J,rfl,O⟩:=G v (by simp);dsimp only;refine bE (λ_=>wpAny_pure ⟨rfl,rfl,λx I=>G x (O4 _ I)⟩) λ_=>?_
  refine aD ((nk prog w).quiet I ?_);simp only [cT,E7,if_false];refine aD ((nk prog w).quiet O ?_);simp only [cT,E7,if_false];refine aD (Q12 5 8 (by decide) I.2 I.1 ?_);simp only [E7,if_false];refine aD (Q12 5 8 (by decide) O.2 O.1 ?_);simp only [E7,if_false];exact wpAny_pure ⟨rfl,rfl,λx I=>G x (O4 _ I)⟩
 ·rintro ⟨r1,r2⟩ s' ⟨Y,rfl,_⟩;simp only at Y;subst Y;exact wpAny_pure q
def ElH (prog:aK) (w:aJ) (B:aB->Prop) (h:Heap) (e:Int × aA) (k:HK):Prop:=∃ b,e.2=.ref b/\(nk prog w).is h k b/\e.1=hkH prog w k/\B b
theorem Qe5 {t:aW} (g:Good L t) {hashAt:Nat->Int} {h:Int} {N:Nat} (O:J2 t.mask h N∉t.place.toList) (J:∀ m,m < N->J2 t.mask h m∈t.place.toList) {q n:Nat} (h1:n<=N) (h2:N - n < q) {I:Option SetTable.Met} (e:SetTable.probe.go t hashAt h q (pth t.mask h n)=I) :
  (I=zo (.empty (J2 t.mask h N) zl)/\∀ m,n<=m->m < N->∀ i,t.place[i]?=zo (J2 t.mask h m)->hashAt i≠h) \/
  (∃ m i,n<=m/\m < N/\t.place[i]?=zo (J2 t.mask h m)/\hashAt i=h/\I=zo (.candidate (J2 t.mask h m) i (pth t.mask h (m + 1)))/\∀ G,n<=G->G < m->∀ i,t.place[i]?=zo (J2 t.mask h G)->hashAt i≠h):=by
 subst e; exact Qh9 g hashAt h O J q n h1 h2
theorem K4 {α β:Type} {F:α->β->Prop}:∀ {l:List α} {ks:List β} {i:Nat} {a:α},aR F l ks->l[i]?=zo a->∃ b,ks[i]?=zo b/\F a b
 | _,_,i,a,.nil,e=>by simp at e
 | _,_,0,a,.cons r t,e=>by simp at e; subst e; exact ⟨_,rfl,r⟩
 | _,_,i + 1,a,.cons r t,e=>by simpa using K4 t (by simpa using e)
theorem Uu {α β:Type} {F:α->β->Prop}:∀ {l:List α} {ks:List β} {i:Nat} {b:β},aR F l ks->ks[i]?=zo b->∃ a,l[i]?=zo a/\F a b
 | _,_,i,b,.nil,e=>by simp at e
 | _,_,0,b,.cons r t,e=>by simp at e; subst e; exact ⟨_,rfl,r⟩
 | _,_,i + 1,b,.cons r t,e=>by simpa using Uu t (by simpa using e)
theorem Qdx {B:aB->Prop} {t:aW} {ks:List HK} (hu:A.units + 5 < aQ) (hx:(nk prog w).is s.heap k b) (ho:s.heap.get? a=zo o) (hd:o.data=.set es ep t) (Z:HG L t (es.toList.map (·.1)))
  (hp:aR (ElH prog w B s.heap) es.toList ks) (nd:ks.Nodup) {N:Nat} (hN:J2 t.mask (hkH prog w k) N∉t.place.toList) (hl:∀ m,m < N->J2 t.mask (hkH prog w k) m∈t.place.toList) (b6:N<=10 * (t.mask + 12)) {Q:SetFound->aC->Prop}
  (h1:k∉ks->Q (.free (J2 t.mask (hkH prog w k) N) yo) s) (h2:k∈ks->Q (.there zl) s) :
  ∀ (I n:Nat) (st:Option SetTable.Probe),st.getD (t.probeStart (hkH prog w k))=pth t.mask (hkH prog w k) n->n<=N->N - n < I->(∀ i:Nat,ks[i]?=zo k->∃ m,n<=m/\m < N/\t.place[i]?=zo (J2 t.mask (hkH prog w k) m))->aF (aI prog w) A (setSearchFrom a (.ref b) (hkH prog w k) zb I st) Q E s:=by
 have Y:t.fits es.size=zb:=by have:=Z.fits; rwa [O0,be] at this
 have b1:t.gaveWay=yo:=by
  have:=Z.sz;unfold SzM at this;unfold SetTable.gaveWay;rcases this with ⟨e,_⟩ | ⟨e,_⟩ | ⟨e,_⟩ <;> rw [e] <;> rfl
 intro I
 induction I with
 | zero=>intro n st _ _ h; omega
 | succ I ih=>
  intro n st b4 hn hf hk;rw [setSearchFrom.eq_2];refine aD (wpAny_setState_of ho hd Y ?_);dsimp only;rw [bU (by rw [b1]; exact D2),b4];generalize a9:SetTable.probe t _ _ _=pr;unfold SetTable.probe at a9;rcases Qe5 Z.good hN hl hn (by unfold SetTable.turns; omega) a9 with ⟨e1,e2⟩ | ⟨m,i,c1,c2,c3,c4,e1,c6⟩
  ·subst e1;dsimp only;refine wpAny_pure (h1 λhm=>?_);obtain ⟨i,hi,ei⟩:=G6 hm;have a5:ks[i]?=zo k:=by rw [O2 hi,ei]
   obtain ⟨m,m1,m2,m3⟩:=hk i a5;obtain ⟨e,he,c,_,_,hh,_⟩:=Uu hp a5;refine e2 m m1 m2 i m3 ?_;show ((es[i]?).map (·.1)).getD 0=_;rw [<- bh,he];exact hh
  ·subst e1;dsimp only;have c4:((es[i]?).map (·.1)).getD 0=hkH prog w k:=c4;have a8:i < es.size:=by
    have:=(cA.mp c3).1;rw [Z.len,O0,be] at this;exact this
   have b0:es.toList[i]?=zo es[i]:=by rw [bh,bi a8]
   obtain ⟨k',a6,c,ec,hc,hh,_⟩:=K4 hp b0;have a4:es[i]?=zo (es[i].1,.ref c):=by rw [bi a8,<- ec]
   have go:aF (aI prog w) A
     (match es[i]? with
      | some (a7,y)=>do
       let equal <- aw [y] (eqBool y (.ref b))
       let __x <- setState a
       match __x with
        | (b2,a7,t')=>
         if (zb && equal)=zb then pure (SetFound.there zl)
         else
          match t'.sameMemory t.moves t.mask with
          | some same=>
           have J:=λG=>
            match G with
            | none=>do
             rule "set.search.anew"
             setSearchFrom a (.ref b) (hkH prog w k) zb I zl
            | some i'=>
             if equal=zb then pure (SetFound.there (zo i'))
             else setSearchFrom a (.ref b) (hkH prog w k) zb I (zo (pth t.mask (hkH prog w k) (m + 1)));
           match if same=zb then t'.slot (J2 t.mask (hkH prog w k) m) else SetTable.Slot.empty with
           | SetTable.Slot.live i'=>
            match b2[i']? with
            | some (a7,y')=>do
             let __do_lift <- isSame y' y
             let G <- pure (if __do_lift=zb then zo i' else zl)
             J G
            | none=>do
             let G <- pure zl
             J G
           | x=>do
            let G <- pure zl
            J G
          | x=>unsupported "set.changed-during-lookup:is-the-new-block-at-the-old-address"
      | x=>unsupported "internal:set-entry") Q E s:=by
    rw [a4];dsimp only;refine aD (ak ((nk prog w).eqBool hu hc hx ?_));refine aD (wpAny_setState_of ho hd Y ?_);dsimp only
    by_cases q:k'=k
    ·rw [bW q,bT (by decide)];exact wpAny_pure (h2 (by rw [<- q]; exact E2 a6))
    ·rw [bV q,bU (by decide)];have sm:t.sameMemory t.moves t.mask=zo zb:=by unfold SetTable.sameMemory; rw [bT (by simp)]
     rw [sm];dsimp only;rw [bT rfl,Xm Z.good.1 c3];dsimp only;rw [a4];dsimp only;refine aD (wpAny_isSame_ref_self ?_);refine aD (wpAny_pure ?_);rw [bT rfl];dsimp only;rw [bU D2];refine ih (m + 1) _ rfl (by omega) (by omega) λi2 O=>?_
     obtain ⟨m2,a1,a2,a3⟩:=hk i2 O;obtain ⟨e,he,c',_,_,b3,_⟩:=Uu hp O;have ne:m2≠m:=λz=>by
      subst z;have:=Xm Z.good.1 c3;rw [Xm Z.good.1 a3] at this;cases this;rw [a6] at O;cases O;exact q rfl
     have nl:¬ m2 < m:=λz=>by
      refine c6 m2 a1 z i2 a3 ?_;show ((es[i2]?).map (·.1)).getD 0=_;rw [<- bh,he];exact b3
     exact ⟨m2,by omega,a2,a3⟩
   cases b5:t.led with
   | true=>simp only [cT,E7,if_false]; exact go
   | false=>
    simp only [iK,if_true];refine aD (Qm1 hx _ (λv hv=>?_) ?_)
    ·obtain ⟨e,he,rfl⟩:=E5.mp hv;have he:e∈es:=by
      have:e∈(Array.filter (λx=>x.1 == hkH prog w k) es):=by simpa using he
      exact (Array.mem_filter.mp this).1
     obtain ⟨k2,_,c2,q1,q2,_⟩:=qc hp (ee.mpr he);exact ⟨c2,k2,q1,q2⟩
    ·simp only [E7,if_false];exact go
end
variable {B:aB->Prop}
section
variable {w:aJ}
def GH (prog:aK) (w:aJ) (B:aB->Prop) (L:Bool) (h:Heap) (a:aB) (ks:List HK):Prop:=
 ∃ o es ep t,h.get? a=zo o/\o.ExactSet/\o.data=.set es ep t/\(∃ ks',ks'.Perm ks/\aR (ElH prog w B h) es.toList ks')/\ks.Nodup/\HG L t (es.toList.map (·.1))
theorem ElH.keep {h':Heap} (O:∀ a its,IsTup h a its->IsTup h' a its) {e:Int × aA} (x:ElH prog w B h e k):ElH prog w B h' e k:=let ⟨b,G,q,I,J⟩:=x; ⟨b,G,⟨KIs.keep O 5 q.2 q.1,q.2⟩,I,J⟩
theorem zn {α β:Type} {F G:α->β->Prop} (f:∀ a b,F a b->G a b):∀ {l:List α} {ks:List β},aR F l ks->aR G l ks
 | _,_,.nil=>.nil
 | _,_,.cons r t=>.cons (f _ _ r) (zn f t)
theorem GH.at {h':Heap} (g:GH prog w B L h a ks) (k:∀ o,h.get? a=zo o->h'.get? a=zo o) (G:∀ a its,IsTup h a its->IsTup h' a its):GH prog w B L h' a ks:=by
 obtain ⟨o,es,ep,t,h1,h2,I,⟨q,p,r⟩,h5,h6⟩:=g;exact ⟨o,es,ep,t,k o h1,h2,I,⟨q,p,zn (λ_ _=>ElH.keep G) r⟩,h5,h6⟩
theorem Q81 {t:aW} (G:h.get? a=zo o) (hd:o.data=.set es ep t) (its:Array aA):¬ IsTup h a its:=λ⟨o',h1,_,n,q⟩=>by
 rw [G] at h1; cases h1; rw [hd] at q; cases q
theorem Q7s {h':Heap} {t:aW} (G:h.get? a=zo o) (hd:o.data=.set es ep t) (q:Heap.SameBut a h h') (b:aB) (its:Array aA) (x:IsTup h b its):IsTup h' b its:=by
 by_cases e:b=a
 ·subst e; exact absurd x (Q81 G hd its)
 ·obtain ⟨o',h1,h2⟩:=x;exact ⟨o',(q.2 b e).trans h1,h2⟩
theorem jz {α β:Type} {F:α->β->Prop} {a:α} {b:β} (r:F a b):∀ {l:List α} {ks:List β} (p:Nat),aR F l ks->aR F (l.take p ++ a :: l.drop p) (ks.take p ++ b :: ks.drop p)
 | _,_,0,h=>by simpa using Paired.cons r h
 | _,_,p + 1,.nil=>by simpa using Paired.cons r .nil
 | _,_,p + 1,.cons q t=>by simpa using Paired.cons q (jz r p t)
theorem Q9d {q:zAB} {t t':aW} {G:List HK} (J:h.get? a=zo o) (O:o.ExactSet) (hd:o.data=.set es ep t) (Y:aR (ElH prog w B h) q.toList G) :
  ∃ o',(h.update a (dW q t')).get? a=zo o'/\o'.ExactSet/\o'.data=.set q (ep + 1) t'/\Heap.SameBut a h (h.update a (dW q t'))/\aR (ElH prog w B (h.update a (dW q t'))) q.toList G:=by
 have e:=G9 (dW q t') J (by rw [putSet_of q t' hd]; rfl);rw [putSet_of q t' hd] at e;have I:=Heap.SameBut.update h a (dW q t');exact ⟨_,e,O,rfl,I,zn (λ_ _=>ElH.keep (Q7s J hd I)) Y⟩
theorem HG0.unplain {t:aW} {hs:List Int} (g:HG0 L t hs):HG0 L { t with plain:=yo } hs:=⟨g.good,g.len,g.le,g.rch⟩
theorem Q77 {L:Bool} {q:zAB} {t t1:aW} {J:List HK} (ho:s.heap.get? a=zo o) (hx:o.ExactSet) (hd:o.data=.set es ep t) (hr:aR (ElH prog w B s.heap) q.toList J) (hn:J.Nodup)
  (Z:HG0 L t1 (q.toList.map (·.1))) (hz:SzP t1.mask q.size) {n:Nat} (en:n=q.size) {Q:Bool->aC->Prop} (h:∀ h',Heap.SameBut a s.heap h'->GH prog w B L h' a J->Q zb { s with heap:=h' }) :
  aF (aI prog w) A (do
    storeSet a q t1
    if (!false && t1.tooFull)=zb then do
        setRelay a (SetTable.grown n)
        pure zb
     else pure zb) Q E s:=by
 have hb:q.size<=sizeLine:=by rw [sizeLine_eq]; unfold SzP at hz; omega
 refine aD (wpAny_storeSet_of ho hd ?_ hb);obtain ⟨o1,e1,x1,d1,a1,r1⟩:=Q9d (t':=t1) ho hx hd hr;have I:t1.fill=q.size:=by
  unfold SetTable.fill;rw [Z.good.2.1,Z.len,O0,be];rfl
 have a3:t1.tooFull=decide (q.size * 5>=t1.mask * 3):=by unfold SetTable.tooFull; rw [I]
 obtain ⟨f1,f2⟩:=Qp9 hz;have a2:t1.fits q.size=zb:=by
  unfold SetTable.fits;rw [I,Z.len,O0,be];unfold SzP at hz;simp;omega
 rw [a3];cases z:decide (q.size * 5>=t1.mask * 3) with
 | false=>
  rw [bU (by simp)];refine wpAny_pure (h _ a1 ⟨o1,q,_,t1,e1,x1,d1,⟨J,cL _,r1⟩,hn,⟨Z,?_⟩⟩);rw [O0,be];exact f2 z
 | true=>
  rw [bT (by simp)];obtain ⟨M',y1,y2,y3,y4,y5⟩:=f1 z;obtain ⟨t2,G,p1,p2,p3,p4⟩:=Qe2 (t:=t1) (hs:=q.toList.map (·.1)) (wanted:=SetTable.grown n) Z.good y3 (by rw [en]; exact y1) (by rw [O0,be]; exact y5);rw [O0] at p2;obtain ⟨q1,q2⟩:=Qah p2;refine aD ?_;unfold setRelay;refine aD (wpAny_setState_of e1 d1 a2 ?_);dsimp only;rw [bU (by rw [en]; exact y2)];have eh:(Array.map (λx=>x.1) q)=(q.toList.map (·.1)).toArray:=by
   apply Array.ext';rw [Array.toList_map]
  rw [eh,p1];refine aD ?_;generalize O:iL (λx=>q[x]?) G.toArray=Y;have e2:Y.toList=G.filterMap (λx=>q.toList[x]?):=by
   rw [<- O,Array.toList_filterMap];simp only [bh]
  rw [<- e2] at q1 q2;have hsz:Y.size=q.size:=by rw [<- be,q1.length_eq,be]
  show aF _ _ (if (Array.size (iL (λx=>q[x]?) G.toArray) != q.size)=zb then _ else _) _ _ _;rw [O,bU (by rw [hsz]; simp)];refine wpAny_pure ?_;dsimp only;refine wpAny_storeSet_of e1 d1 ?_ (by rw [hsz]; exact hb);obtain ⟨a5,r2,p5⟩:=Q8k q1 r1;obtain ⟨o2,e3,x3,d3,a4,r3⟩:=Q9d (t':=t2) e1 x1 d1 r2;refine wpAny_pure (h _ (a1.trans a4) ⟨o2,Y,_,t2,e3,x3,d3,⟨a5,p5,r3⟩,hn,⟨?_,?_⟩⟩)
  ·rw [q2]; exact p4
  ·rw [O0,be,hsz,p3]; exact y4
theorem Qtw {Q:Bool->aC->Prop} (hu:A.units + 5 < aQ) (hx:(nk prog w).is s.heap k b) (hB:B b) (g:GH prog w B L s.heap a ks) (b1:ks.length + 1<=76)
  (h:∀ b h',Heap.SameBut a s.heap h'->GH prog w B L h' a (Jb ks k)->Q b { s with heap:=h' }):aF (aI prog w) A (setAddHashed a (.ref b) (hkH prog w k)) Q E s:=by
 obtain ⟨o,es,ep,t,Z,J,hd,⟨q,p0,r0⟩,hn,hg⟩:=g;have a7:q.Nodup:=(p0.nodup_iff).mpr hn;have b0:es.size=q.length:=by rw [<- be,Paired.length r0]
 have b2:q.length=ks.length:=p0.length_eq;have O:t.fits es.size=zb:=by have:=hg.fits; rwa [O0,be] at this
 obtain ⟨N,n1,n2,n3⟩:=hg.free (hkH prog w k);unfold setAddHashed;refine ak ?_;rw [setAddHashedIn.eq_def];dsimp only;refine aD (wpAny_setState_of Z hd O ?_);dsimp only;rw [bU (by unfold byScan; simp [Value.scannable])];refine aD ?_;unfold setSearch;refine Qdx hu hx Z hd hg r0 a7 n2 n3 n1 (λkm=>?_) (λkm=>?_) 100000 0 zl rfl (F8 _) ?_ λi hi=>?_
 ·dsimp only;refine aD (wpAny_setState_of Z hd O ?_);dsimp only;have a1:k∉ks:=λz=>km (p0.mem_iff.mpr z)
  have ea:Jb ks k=ks ++ [k]:=by unfold Jb; rw [bU a1]
  have hr:=jz (F:=ElH prog w B s.heap) (a:=(hkH prog w k,bZ b)) (b:=k) ⟨b,rfl,hx,rfl,hB⟩ (SetTable.below t.place (J2 t.mask (hkH prog w k) N)) r0;rw [<- SetTable.toList_insertAt] at hr;have a2:(q.take (SetTable.below t.place (J2 t.mask (hkH prog w k) N)) ++ k :: q.drop (SetTable.below t.place (J2 t.mask (hkH prog w k) N))).Perm (Jb ks k):=by
   rw [ea];refine List.perm_middle.trans ?_;rw [eG];exact (p0.cons k).trans (List.perm_append_comm (l₁:=[k]))
  have a5:(Jb ks k).Nodup:=by
   rw [ea];exact cZ.mpr ⟨hn,by simp,λx a3 y hy e=>by
    have:y=k:=by simpa using hy
    rw [e,this] at a3; exact a1 a3⟩
  have Y:=a2.nodup_iff.mpr a5;have I:=hg.put n2 n3;have a9:(SetTable.insertAt es (SetTable.below t.place (J2 t.mask (hkH prog w k) N)) (hkH prog w k,bZ b)).toList.map (·.1)=(es.toList.map (·.1)).take (SetTable.below t.place (J2 t.mask (hkH prog w k) N)) ++ hkH prog w k :: (es.toList.map (·.1)).drop (SetTable.below t.place (J2 t.mask (hkH prog w k) N)):=by
   rw [SetTable.toList_insertAt,F3,D5,eK,fX]
  rw [<- a9] at I;have G:(SetTable.insertAt es (SetTable.below t.place (J2 t.mask (hkH prog w k) N)) (hkH prog w k,bZ b)).size=es.size + 1:=by
   rw [<- be,SetTable.toList_insertAt,O6,D3,<- df,<- O6,eG,be]
  have hsz:SzP (t.put (J2 t.mask (hkH prog w k) N)).1.mask (SetTable.insertAt es (SetTable.below t.place (J2 t.mask (hkH prog w k) N)) (hkH prog w k,bZ b)).size:=by
   rw [G];show SzP t.mask (es.size + 1);have:=hg.sz;rw [O0,be] at this;unfold SzM at this;unfold SzP;omega
  have fin:∀ h',Heap.SameBut a s.heap h'->GH prog w B L h' a (q.take (SetTable.below t.place (J2 t.mask (hkH prog w k) N)) ++ k :: q.drop (SetTable.below t.place (J2 t.mask (hkH prog w k) N)))->Q zb { s with heap:=h' }:=λh' sb gh=>by
   refine h zb h' sb ?_;obtain ⟨o,es,ep,t,y1,y2,y3,⟨y4,y5,y6⟩,y7,y8⟩:=gh;exact ⟨o,es,ep,t,y1,y2,y3,⟨y4,y5.trans a2,y6⟩,a5,y8⟩
  by_cases zp:t.plain=zb
  ·rw [bT (show (t.put (J2 t.mask (hkH prog w k) N)).1.plain=zb from zp)];refine aD (Qb9 8 5 hx.2 hx.1 λbv=>?_);cases bv with
   | true=>
    simp only [if_true];exact Q77 (n:=es.size + 1) Z J hd hr Y I hsz G.symm fin
   | false=>
    simp only [E7,if_false];exact Q77 (n:=es.size + 1) Z J hd hr Y I.unplain hsz G.symm fin
  ·rw [bU (show ¬ (t.put (J2 t.mask (hkH prog w k) N)).1.plain=zb from zp)];refine aD (wpAny_pure ?_);simp only [if_true];exact Q77 (n:=es.size + 1) Z J hd hr Y I hsz G.symm fin
 ·dsimp only;have e:s={ s with heap:=s.heap }:=by cases s; rfl
  rw [e];refine wpAny_pure (h _ s.heap (Heap.SameBut.refl a s.heap) ?_);unfold Jb;rw [bT (p0.mem_iff.mp km)];exact ⟨o,es,ep,t,Z,J,hd,⟨q,p0,r0⟩,hn,hg⟩
 ·have:=hg.sz; unfold SzM at this; omega
 ·obtain ⟨e,he,c,e1,e2,e3,_⟩:=Uu r0 hi;have a4:i < t.place.size:=by
   have:=(O3.mp he).1;rw [hg.len,O0]; exact this
  have a6:t.place[i]?=zo t.place[i]:=bi a4;have hh:(es.toList.map (·.1))[i]?=zo (hkH prog w k):=by rw [D7,he,<- e3]; rfl
  obtain ⟨m,m1,m2⟩:=hg.rch i _ _ a6 hh;refine ⟨m,F8 _,?_,by rw [m1]; exact a6⟩;have a8:t.place[i]∈t.place.toList:=by rw [ee]; exact Array.getElem_mem a4
  by_cases c1:N < m
  ·exact absurd (m2 N c1) n2
  ·by_cases c2:N=m
   ·subst c2; rw [m1] at n2; exact absurd a8 n2
   ·omega
end
variable {R:Result->aC->Prop}
section
variable {w:aJ}
theorem Q73 {I G:aB} {i:Nat} (x:h.IsTupleIter I G i) {its:Array aA} (y:IsTup h I its):False:=by
 obtain ⟨o,h1,h2,J⟩:=x;obtain ⟨o',q,g2,n,O⟩:=y;rw [h1] at q; cases q;rw [h2] at g2; exact absurd g2 (by decide)
theorem Qdv {I D:aB} {fp:List aB} {n:Nat} {P:Nat->aA->Prop} {St:Nat->Heap->Prop} {h0:Heap} (hu:A.in1.units + 5 < aQ) (W:Walks prog w A.in1 I fp [I] n P St) (hD:D∉fp) (hI:∀ i h,St i h->∀ its,¬ IsTup h I its) (hn:n=ks.length)
  (hv:∀ i v,P i v->∃ k b,ks[i]?=zo k/\v=.ref b/\(nk prog w).is h0 k b/\B b) (Y:ks.length<=76) :
  ∀ (k i:Nat) (s:aC),n - i=k->i<=n->St i s.heap->(∀ a its,IsTup h0 a its->IsTup s.heap a its)->GH prog w B (byT w) s.heap D (Y9 (ks.take i)) ->
   (∀ h' Z,GH prog w B (byT w) h' D (Y9 ks)->(∀ b o,b∉[D,I]->s.heap.get? b=zo o->h'.get? b=zo o)->R (.ok (.ret .none)) { s with heap:=h',toks:=Z }) ->
   codeAny (aI prog w) A (.builtin "set.update.loop" ⟨[.ref D,.ref I],[]⟩) R s:=by
 have a2:D≠I:=λz=>hD (W.sub D (by simp [z]))
 intro k
 induction k with
 | zero=>
  intro i s hk hi G J g hR;have e:i=n:=by omega
  subst e;refine bC iM ?_;rw [Around.under_plainId fY _];show aF _ A.in1 (af (.ref I) >>= _) _ _ s;refine aD (W.done s _ _ G λh' Z hm=>?_);show aF _ A.in1 (ret ba) _ _ _;rw [hn,eL] at g;refine wpAny_pure (hR h' Z (g.at (λo q=>hm D o (by simpa using a2) q) λa its x=>?_) λb o a6 q=>hm b o (λz=>a6 (O4 _ z)) q)
  have:a≠I:=λz=>by subst z; exact hI _ _ G its x
  obtain ⟨o',x1,x2⟩:=x;exact ⟨o',hm a o' (by simpa using this) x1,x2⟩
 | succ k ih=>
  intro i s hk hi G J g hR;have a1:i < n:=by omega
  refine bC iM ?_;rw [Around.under_plainId fY _];show aF _ A.in1 (af (.ref I) >>= _) _ _ s;refine aD (W.item i s _ _ a1 G λv h1 Z hP a3 hm=>?_);have O:∀ a its,IsTup s.heap a its->IsTup h1 a its:=λa its x=>by
   have:a≠I:=λz=>by subst z; exact hI _ _ G its x
   obtain ⟨o',x1,x2⟩:=x;exact ⟨o',hm a o' (by simpa using this) x1,x2⟩
  obtain ⟨x,b,hx,rfl,h2,a7⟩:=hv i v hP;have h2:(nk prog w).is h1 x b:=⟨KIs.keep (λa its y=>O a its (J a its y)) 5 h2.2 h2.1,h2.2⟩;have g1:GH prog w B (byT w) h1 D (Y9 (ks.take i)):=g.at (λo q=>hm D o (by simpa using a2) q) O
  show aF _ A.in1 (aw [.ref b] (setAdd D (.ref b)) >>= _) _ _ _;refine aD (ak ?_);unfold setAdd;refine ak (aD ((nk prog w).pyHash (s:={ s with heap:=h1,toks:=Z }) (k:=x) hu h2 ?_));have a4:(Y9 (ks.take i)).length + 1<=76:=by
   have:=Uh (ks.take i);have:(ks.take i).length<=i:=by rw [L8]; omega
   omega
  refine Qtw (s:={ s with heap:=h1,toks:=Z + (nk prog w).draws x }) hu h2 a7 g1 a4 λbb h' sb g2=>?_
  have e1:ks.take (i + 1)=ks.take i ++ [x]:=by rw [iN,hx]; rfl
  rw [<- Qeq,<- e1] at g2;obtain ⟨oD,b0,a9,tD,dD,_,a8,_⟩:=g1;refine wpAny_pure ⟨bD fY _,ih (i + 1) _ (by omega) a1 (W.frame _ h1 h' a3 λb Y o q=>?_) (λa its y=>Q7s dD a8 sb a its (O a its (J a its y))) g2 λh' a5 g' k'=>hR h' a5 g' λb o Y q=>k' b o Y ?_⟩
  ·exact (sb.2 b λz=>hD (by rw [<- z]; exact Y)).trans q
  ·refine (sb.2 b λz=>Y (by simp [z])).trans (hm b o (λz=>Y (O4 _ z)) q)
set_option maxHeartbeats 3200000 in
theorem jy {E:zAD} {l:aB} {G:Array aA} {Q:zAD} (hu:A.units + 9 < aQ) (hh:A.handled=zl) (hl:s.heap.IsTuple l G) (hn:G.size=ks.length)
  (hv:∀ (i:Nat) (v:aA),G[i]?=zo v->∃ k b,ks[i]?=zo k/\v=.ref b/\(nk prog w).is s.heap k b/\B b) (hb:ks.length<=76)
  (h:∀ h' I,GH prog w B (byT w) h' s.heap.objs.size (Y9 ks)->(∀ b o,s.heap.get? b=zo o->h'.get? b=zo o)->Q (.ref s.heap.objs.size) { s with heap:=h',toks:=I }) :
  aF (aI prog w) A (call (.type "set") [.ref l]) Q E s:=by
 obtain ⟨cc,tl,b4⟩:=F.called_set.mro;have m1:=F.called_set.made;have m2:=F.called_set.sub;refine wpAny_call (codeAny_of_tree ?_);show aF _ _ (callAny (.type "set") _) _ _ _;refine wpAny_pure ⟨Code.quiet_builtin _ (by decide +kernel),bC F.entry_type_call ?_⟩;rw [Around.under_plain (weight_type_call_type "set" [.ref l] []) rfl];have m3:=F.called_set.notType;have m4:=F.called_set.canCreate;have m5:=F.typeCall_set_1 (.ref l)
 repeat (any_goals (first | assumption | wp_step))
 refine bR (Qky (.ref l) (E:=E) (Z:=λob s1=>ob=.ref s.heap.objs.size/\s1={ s with heap:=s.heap.push (Y1 w) }) ⟨rfl,rfl⟩) λrr s1 q=>?_
 cases rr with
 | error e=>exact q
 | ok fl=>
  cases fl with
  | ret ob=>
   obtain ⟨rfl,rfl⟩:=q;have o1:(s.heap.push (Y1 w)).get? s.heap.objs.size=zo (Y1 w):=O9 _ rfl;have hT:Shared.TypeIs { s with heap:=s.heap.push (Y1 w) } (.ref s.heap.objs.size) "set" := ⟨_,o1,rfl⟩;have n1:=F.called_set.init.lookup;have n2:=F.called_set.init.bind (.ref s.heap.objs.size)
   repeat (any_goals (first | assumption | wp_step))
   refine bR (codeAny_call_builtin (R:=wants (λr s2=>r=.none/\∃ h' I,s2={ s with heap:=h',toks:=I }/\GH prog w B (byT w) h' s.heap.objs.size (Y9 ks)/\∀ b o,s.heap.get? b=zo o->h'.get? b=zo o) E) F.called_set.init.plain F.entry_set_init (check_set_init_1 hT ?_)) λr2 s2 q2=>?_
   ·obtain ⟨ol,a6,a7,nl,a5⟩:=hl;obtain ⟨b5,a4,a8,J⟩:=ol;simp only at a7 a5;subst a7; subst a5;have O:(s.heap.push (Y1 w)).get? l=zo { cls:=.type "tuple",dict:=a4,data:=.seq G nl,slots:=J }:=O1 _ a6;have a1:=Q2b;have a2:=Q1d;have a3:(bj "tuple" == bj "dict")=yo:=by decide
    have Y:(s.heap.push (Y1 w)).IsTuple l G:=⟨_,O,rfl,nl,rfl⟩;unfold Y1 at o1 hT O Y ⊢;unfold Builtin.«set.__init__» noKeywords Builtin.Frozenset.updateFrom;generalize a9:pyIter=PI
    wp_walk
    subst a9;refine bO Y ?_;refine aD (wpAny_runValue ?_);have b0:l < s.heap.objs.size:=O7 a6;have b1:l≠(s.heap.push (Y1 w)).objs.size:=by rw [F1]; exact D8 (cu b0)
    have b2:s.heap.objs.size≠(s.heap.push (Y1 w)).objs.size:=by rw [F1]; exact D8 (dE _)
    have W:=Walks.tuple (prog:=prog) (w:=w) (A:=A.in1.in1.in1) (by simpa using hh) (s.heap.push (Y1 w)).objs.size l b1 G;have I:∀ a its,IsTup s.heap a its->IsTup ((s.heap.push (Y1 w)).push { cls:=.type "tuple_iterator",data:=.fields #[.ref l,aU 0] }) a its:=λa its ⟨o',x1,x2⟩=>⟨o',O1 _ (O1 _ x1),x2⟩
    unfold Y1 at I;refine Qdv (by show A.units + 1 + 1 + 1 + 5 < aQ; omega) W (by simp only [D6,dU,or_false,not_or]; exact ⟨b2,L9 b0⟩) (λi h ⟨x,_⟩ its y=>Q73 x y) hn (λi v hP=>hv i v hP) hb G.size 0 _ (by omega) (F8 _) ⟨⟨_,O9 _ rfl,rfl,rfl⟩,Y.push _⟩ I ?g0 λh' I g' k'=>?gR
    case g0=>
     exact ⟨_,#[],0,_,O1 _ o1,⟨rfl,rfl,rfl⟩,rfl,⟨[],by simp [Y9],.nil⟩,by simp [Y9],Qj9 _⟩
    case gR=>
     show aF _ _ _ _ _ _;refine wpAny_pure ?_;show aF _ _ (ret ba) _ _ _;refine wpAny_pure ⟨rfl,h',I,rfl,g',λb o e=>?_⟩;have c0:=O7 e;refine k' b o ?_ (O1 _ (O1 _ e));simp only [D6,dU,or_false,not_or];exact ⟨D8 c0,D8 (by rw [F1]; exact cu c0)⟩
   ·cases r2 with
    | error e=>exact q2
    | ok b3=>
     cases b3 with
     | ret r=>
      obtain ⟨rfl,h',I,rfl,g',k'⟩:=q2
      repeat (any_goals (first | assumption | wp_step))
      exact h h' I g' k'
     | _=>exact q2.elim
  | _=>exact q.elim
end
end L2
namespace L2
open PySem PySem.Spec PyProof.Rows PySem.W
variable {h:Heap}
variable {prog:aK} {A:aL} {E:zAD} {s:aC}
section
variable {w:aJ}
def dQ:Int × Str:=(0,bx)
inductive PrsAre (h:Heap):List aA->List (Int × Str)->Prop
 | nil:PrsAre h [] []
 | cons {a:aB} {o:Obj} {x:Int} {y:Str} {t u:Tok} {n:Nat} {vs:List aA} {nss:List (Int × Str)} (ho:h.get? a=zo o) (hc:o.cls=.type "tuple") (hd:o.data=.seq #[.int x t,.str y u] n) (r:PrsAre h vs nss):PrsAre h (.ref a :: vs) ((x,y) :: nss)
theorem PrsAre.keep {h':Heap} (k:∀ b o,h.get? b=zo o->h'.get? b=zo o):∀ {vs:List aA} {nss:List (Int × Str)},PrsAre h vs nss->PrsAre h' vs nss
 | _,_,.nil=>.nil
 | _,_,.cons G q hd r=>.cons (k _ _ G) q hd (r.keep k)
theorem PrsAre.keepT {h':Heap} (k:∀ b o,o.cls=.type "tuple" -> h.get? b=zo o->h'.get? b=zo o):∀ {vs:List aA} {nss:List (Int × Str)},PrsAre h vs nss->PrsAre h' vs nss
 | _,_,.nil=>.nil
 | _,_,.cons G q hd r=>.cons (k _ _ q G) q hd (r.keepT k)
theorem PrsAre.length :∀ {vs:List aA} {nss:List (Int × Str)},PrsAre h vs nss->vs.length=nss.length
 | _,_,.nil=>rfl
 | _,_,.cons _ _ _ r=>by rw [D3,D3,r.length]
theorem PrsAre.at {h:Heap}:∀ {vs:List aA} {nss:List (Int × Str)},PrsAre h vs nss->∀ i,i < vs.length->∃ a o t u n,vs.getD i ba=.ref a/\h.get? a=zo o/\o.data=.seq #[.int (nss.getD i dQ).1 t,.str (nss.getD i dQ).2 u] n
 | _,_,.nil,i,hi=>by simp at hi
 | _,_,.cons q J hd r,0,_=>⟨_,_,_,_,_,rfl,q,hd⟩
 | _,_,.cons q J hd r,i + 1,G=>by
  obtain ⟨a,o,t,u,n,h1,h2,I⟩:=r.at i (by simpa using G);exact ⟨a,o,t,u,n,by simpa using h1,h2,by simpa using I⟩
theorem PrsAre.firsts {M:Model} :∀ {vs:List aA} {nss:List (Int × Str)},PrsAre h vs nss->∃ fs,KatTups h vs fs/\fs.length=vs.length/\∀ v∈fs,Looks M h (typeOf v) (.type "int")
 | _,_,.nil=>⟨[],.nil,rfl,λv q=>by cases q⟩
 | _,_,.cons (x:=x0) (t:=t) J I hd r=>by
  obtain ⟨fs,h1,h2,G⟩:=r.firsts (M:=M);refine ⟨.int x0 t :: fs,.cons J I hd rfl h1,by simp [h2],λv q=>?_⟩;rcases D6.mp q with rfl | q
  ·exact Looks.of_pure rfl
  ·exact G v q
def Xk (a b:Str):Bool:=decide (a.cps.toList < b.cps.toList)
def Zh (a b:Int × Str):Bool:=if a.1=b.1 then (if a.2=b.2 then yo else Xk a.2 b.2) else decide (a.1 < b.1)
theorem Qig (b:Bool) {Q:Bool->aC->Prop} {p q:Int × Str} {t t' u I:Tok} (h:Q (Zh p q) s):KatLex prog w A b yo Q ([.int p.1 t,.str p.2 u].zip [.int q.1 t',.str q.2 I]) 0 s:=by
 rw [di];refine kat_cons (wpAny_eqBool_int ?_);unfold Zh at h
 by_cases z:p.1=q.1
 ·rw [bT z] at h;rw [z,beq_self_eq_true];refine kat_yes ?_;rw [di];refine kat_cons (wpAny_eqBool_str ?_)
  by_cases y:p.2=q.2
  ·rw [bT y] at h;rw [bW y];refine kat_yes ?_;exact h
  ·rw [bU y] at h;rw [bV y];refine kat_no ?_;cases G:b && (0 + 1 == 0) with
   | true=>cases b <;> simp at G
   | false=>exact kat_one _ _ (lt_str h)
 ·rw [bU z] at h;rw [beq_eq_false_iff_ne.mpr z];refine kat_no ?_;cases b && 0 == 0 with
  | true=>exact oneLt_int h
  | false=>exact kat_one _ _ (lt_int h)
theorem Qnw (a:List Nat):¬ a < a:=List.lt_irrefl a
def Ug (nss:List (Int × Str)) (i:Nat):Nat:=(nss.filter λms=>Zh ms (nss.getD i dQ)).length
theorem Qkj {a b:Str} (h:a.cps.toList=b.cps.toList):a=b:=by cases a; cases b; rw [Str.mk.injEq]; exact iO.mp h
theorem Q3n (a:Int × Str):Zh a a=yo:=by unfold Zh; rw [bT rfl,bT rfl]
theorem Q7u {a b c:Str} (h1:Xk a b=zb) (h2:Xk b c=zb):Xk a c=zb:=by
 unfold Xk at*;exact bW (List.lt_trans (of_decide_eq_true h1) (of_decide_eq_true h2))
theorem Qfx {a b:Str} (h:Xk a b=zb):a≠b:=λe=>by subst e; exact Qnw _ (of_decide_eq_true h)
theorem Q60 {a b:List Nat} (h:¬ b < a):a<=b:=h
theorem Qdr {a b:Str} (h:¬ a=b):Xk a b=zb\/Xk b a=zb:=by
 unfold Xk;have:¬ a.cps.toList=b.cps.toList:=λe=>h (Qkj e)
 by_cases z:a.cps.toList < b.cps.toList
 ·exact .inl (bW z)
 ·by_cases q:b.cps.toList < a.cps.toList
  ·exact .inr (bW q)
  ·exact absurd (List.le_antisymm (Q60 q) (Q60 z)) this
theorem lexQ_is {a b:Int × Str}:Zh a b=zb <-> a.1 < b.1\/a.1=b.1/\Xk a.2 b.2=zb:=by
 unfold Zh
 by_cases z:a.1=b.1
 ·rw [bT z]
  by_cases y:a.2=b.2
  ·rw [bT y];constructor
   ·intro h; cases h
   ·rintro (h | ⟨_,h⟩)
    ·omega
    ·exact absurd y (Qfx h)
  ·rw [bU y];exact ⟨λh=>.inr ⟨z,h⟩,λh=>h.elim (λh=>by omega) (·.2)⟩
 ·rw [bU z];simp [z]
theorem zy {a b c:Int × Str} (h1:Zh a b=zb) (h2:Zh b c=zb):Zh a c=zb:=by
 rw [lexQ_is] at*;rcases h1 with h1 | ⟨h1,q⟩ <;> rcases h2 with h2 | ⟨h2,g2⟩
 ·left; omega
 ·left; omega
 ·left; omega
 ·exact .inr ⟨by omega,Q7u q g2⟩
theorem Q3m {a b:Int × Str} (h1:Zh a b=yo) (h2:Zh b a=yo):a=b:=by
 have n1:¬ (a.1 < b.1\/a.1=b.1/\Xk a.2 b.2=zb):=λz=>by rw [lexQ_is.mpr z] at h1; cases h1
 have G:¬ (b.1 < a.1\/b.1=a.1/\Xk b.2 a.2=zb):=λz=>by rw [lexQ_is.mpr z] at h2; cases h2
 have e:a.1=b.1:=by
  by_cases q:a.1 < b.1
  ·exact absurd (.inl q) n1
  ·by_cases I:b.1 < a.1
   ·exact absurd (.inl I) G
   ·omega
 by_cases y:a.2=b.2
 ·exact dO e y
 ·rcases Qdr y with z | z
  ·exact absurd (.inr ⟨e,z⟩) n1
  ·exact absurd (.inr ⟨e.symm,z⟩) G
theorem Q8e {nss:List (Int × Str)} {i j:Nat} (hi:i < nss.length) (G:j < nss.length):cR (Ug nss) i j=Zh (nss.getD i dQ) (nss.getD j dQ):=by
 have mem:∀ k,k < nss.length->nss.getD k dQ∈nss:=λk J=>by
  rw [E1,O2 J]; exact L7 J
 unfold cR;have q:∀ {i j:Nat},i < nss.length->j < nss.length->Zh (nss.getD i dQ) (nss.getD j dQ)=zb->Ug nss i < Ug nss j:=λ{i j} hi G h=>
  za (λx _ O=>zy O h) ⟨nss.getD i dQ,mem i hi,Q3n _,h⟩
 cases z:Zh (nss.getD i dQ) (nss.getD j dQ) with
 | true=>exact bW (q hi G z)
 | false=>
  refine bV ?_;cases I:Zh (nss.getD j dQ) (nss.getD i dQ) with
  | true=>have:=q G hi I; omega
  | false=>
   have e:=Q3m z I;unfold Ug;rw [e];exact L4 _
theorem Q7z {a:aB} {vs:List aA} {nss:List (Int × Str)} {n:Nat} {P:PySem.Fin->aC->Prop} (ho:s.heap.get? a=zo (seqObj "list" vs.toArray n)) (hT:PrsAre s.heap vs nss) (b3:vs.length < 64)
  (h:∀ (p:List Nat) (h':Heap) (k:Nat),p.Perm (bY vs.length)->(∀ i,1<=i->i < vs.length->Zh (nss.getD (p.getD i 0) dQ) (nss.getD (p.getD (i - 1) 0) dQ)=yo)->h'.get? a=zo (seqObj "list" (cB (p.map λi=>vs.getD i ba)) k)->(∀ b o,b≠a->s.heap.get? b=zo o->h'.get? b=zo o)->P (.done (.ret .none)) { s with heap:=h' }) :
  aF (aI prog w) A (Builtin.«list.sort» ⟨[.ref a],[]⟩) P E s:=by
 have ha:a < s.heap.objs.size:=O7 ho;obtain ⟨e1,a7⟩:∃ e1,(s.heap.update a (bp λ_=>(#[]:Array aA))).get? a=zo (seqObj "list" #[] e1):=⟨_,get?_update_seq ho λ_=>#[]⟩
 have J:∀ b o,b≠a->s.heap.get? b=zo o->(((s.heap.update a (bp λ_=>(#[]:Array aA))).push (seqObj "tuple" vs.toArray 0)).push (seqObj "list" #[] 0)).get? b=zo o:=λb o hb e=>
  O1 _ (O1 _ (by rw [Heap.get?_update_ne _ _ _ _ hb]; exact e))
 have a6:(((s.heap.update a (bp λ_=>(#[]:Array aA))).push (seqObj "tuple" vs.toArray 0)).push (seqObj "list" #[] 0)).get? a=zo (seqObj "list" #[] e1):=O1 _ (O1 _ a7)
 rw [list_sort_plain];refine aD (listItems_at ho rfl ?_);refine aD (listUpdate_at ho rfl ?_ (by rw [D0,sizeLine_eq]; omega) (F8 _));refine aD (seqEpoch_at a7 rfl ?_);refine aD (wpAny_newTuple ?_ (by show vs.length<=_; rw [sizeLine_eq]; omega));refine aD (wpAny_newList ?_ (F8 _));refine ak ?_;show aF (aI prog w) A _ P E { s with heap:=((s.heap.update a (bp λ_=>(#[]:Array aA))).push (seqObj "tuple" vs.toArray 0)).push (seqObj "list" #[] 0) }
 dsimp only;generalize hH:((s.heap.update a (bp λ_=>(#[]:Array aA))).push (seqObj "tuple" vs.toArray 0)).push (seqObj "list" #[] 0)=Y at*
 have fin:∀ (st:SortSt) (p:List Nat),p.Perm (bY vs.length)->(arrOf st).map (·.2)=cB (p.map λi=>vs.getD i ba)->failedOf st=zl->(∀ i,1<=i->i < vs.length->Zh (nss.getD (p.getD i 0) dQ) (nss.getD (p.getD (i - 1) 0) dQ)=yo) ->
   aF (aI prog w) A (do
    let O:=(arrOf st).map (·.2)
    let I:=(<- seqEpoch a) != e1
    Builtin.List.listUpdate (.ref a) λ_=>O
    if let zo e:=failedOf st then rule "list.sort.comparison-raised"; throw e
    if I then rule "list.sort.modified"; raiseError "ValueError" "list modified during sort"
    ret .none) P E { s with heap:=Y }:=λst p hp b4 hf hs=>by
  dsimp only;have hl:(cB (p.map λi=>vs.getD i ba)).size=vs.length:=by rw [D0,O0,hp.length_eq,F5]
  obtain ⟨c2,b1⟩:∃ c2,(Y.update a (bp λ_=>cB (p.map λi=>vs.getD i ba))).get? a=zo (seqObj "list" (cB (p.map λi=>vs.getD i ba)) c2):=⟨_,get?_update_seq a6 λ_=>cB (p.map λi=>vs.getD i ba)⟩
  rw [b4,hf];refine aD (seqEpoch_at a6 rfl ?_);refine aD (listUpdate_at a6 rfl ?_ (F8 _) (D9 (dm hl) (by rw [sizeLine_eq]; omega)));simp only [bne_self_eq_false,E7,if_false];exact wpAny_pure (h p _ c2 hp hs b1 λb o hb e=>by rw [Heap.get?_update_ne _ _ _ _ hb]; exact J b o hb e)
 by_cases h2:vs.toArray.size < 2
 ·rw [bT h2,bT h2];refine aD (wpAny_pure ?_);rw [StateT.run_pure];refine aD (wpAny_pure ?_);refine fin (SortSt.mk' general' (vs.toArray.zip vs.toArray) #[] 7 zl) (bY vs.length) (cL _) ?_ rfl (λi g1 g2=>?_)
  ·show (vs.toArray.zip vs.toArray).map (·.2)=_;apply iO.mp;apply cS;intro i
   by_cases z:i < vs.length
   ·simp [z]
   ·simp [z]
  ·rw [D0] at h2; omega
 ·rw [bU h2,bU h2];rw [D0] at h2;have Z:PrsAre Y vs nss:=hT.keepT λb o hc e=>J b o (λz=>by
   rw [z,ho] at e;have e:=bn e;rw [<- e] at hc;exact absurd (show bj "list" = .type "tuple" from hc) (by decide)) e
  obtain ⟨fs,k1,k2,k3⟩:=Z.firsts (M:=aI prog w);refine aD (kat_kind (s:={ s with heap:=Y }) (T:=.type "int") k1 (by omega) k3 (by decide) ?_);have a8:∀ i j (C:Bool->aC->Prop),i < vs.length->j < vs.length->C (cR (Ug nss) i j) { s with heap:=Y }->kas_ask prog w A (tuples' (bj "int" != bj "tuple")) vs i j C { s with heap:=Y }:=λi j C hi hj q=>by
   obtain ⟨ai,oi,ti,ui,ni,e1,e2,e3⟩:=Z.at i hi;obtain ⟨aj,oj,tj,uj,nj,f1,f2,f3⟩:=Z.at j hj;rw [Q8e (by rw [<- hT.length]; exact hi) (by rw [<- hT.length]; exact hj)] at q;unfold kas_ask;rw [e1,f1];exact kat_lt e2 e3 f2 f3 (Qig _ q)
  have a5:=Qkq (r:=Ug nss) (n:=vs.length) (by omega);refine aD (au (kat_run (vs:=vs) (ks:=vs) (Q:=λst' s'=>s'={ s with heap:=Y }/\arrOf st'=(evT (cR (Ug nss)) (kas_sort vs.length)).map (kas_item (vs.toArray.zip vs.toArray))/\failedOf st'=zl)
   (G:=λp s'=>s'={ s with heap:=Y }/\p=evT (cR (Ug nss)) (kas_sort vs.length)) rfl (by omega) b3 (λp' st' s' a1 a2 a3 a4=>⟨a4.1,by rw [<- a4.2]; exact a2,a3⟩) (Q9a a8 _ (λ_=>True) _ (Qfg (by omega)) ⟨rfl,rfl⟩)) ?_ λ_ _ e=>e)
  rintro ⟨⟨⟩,st'⟩ s' ⟨rfl,b0,hf⟩;have b2:(evT (cR (Ug nss)) (kas_sort vs.length)).toList.Perm (bY vs.length):=by
   have:=gf.mp a5.2;simpa using this
  refine fin st' _ b2 (kat_snds rfl b0) hf λi g1 g2=>?_
  have hr:=a5.1 i g1 g2;have a9:∀ k,(evT (cR (Ug nss)) (kas_sort vs.length)).toList.getD k 0 < vs.length:=λk=>by
   have b5:AL vs.length (evT (cR (Ug nss)) (kas_sort vs.length)):=AL.perm (p:=cB (bY vs.length)) ⟨by omega,λx hx=>by simpa using hx⟩ a5.2;have:=b5.get k;rw [dG,<- bh] at this;rw [E1]; exact this
  have hg:∀ k,(evT (cR (Ug nss)) (kas_sort vs.length)).getD k 0=(evT (cR (Ug nss)) (kas_sort vs.length)).toList.getD k 0:=λk=>by
   rw [dG,<- bh,E1]
  unfold rk at hr;rw [hg,hg] at hr;have:=Q8e (nss:=nss) (i:=(evT (cR (Ug nss)) (kas_sort vs.length)).toList.getD i 0) (j:=(evT (cR (Ug nss)) (kas_sort vs.length)).toList.getD (i - 1) 0) (by rw [<- hT.length]; exact a9 _) (by rw [<- hT.length]; exact a9 _);rw [<- this];exact bV (gS.mpr hr)
theorem Q7y {d:aB} {es:Array DictEntry} {ep:Nat} {nss:List (Int × Str)} {Q:zAD} (lo:(d == ar)=yo) (Z:A.handled=zl) (hm:RawD s.heap d es ep) (hT:PrsAre s.heap (es.toList.map (·.key)) nss) (O:(es.toList.map (·.key)).length < 64)
  (h:∀ (p:List Nat) (h':Heap) (D k tk:Nat),p.Perm (bY (es.toList.map (·.key)).length)->(∀ i,1<=i->i < (es.toList.map (·.key)).length->Zh (nss.getD (p.getD i 0) dQ) (nss.getD (p.getD (i - 1) 0) dQ)=yo)->s.heap.objs.size<=D->h'.get? D=zo (seqObj "list" (cB (p.map λi=>(es.toList.map (·.key)).getD i ba)) k)->(∀ b o,s.heap.get? b=zo o->h'.get? b=zo o)->Q (.ref D) { s with heap:=h',toks:=tk }) :
  aF (aI prog w) A (call (.builtin "sorted") [.ref d]) Q E s:=by
 have hsz:es.size<=sizeLine:=by
  have:(es.toList.map (·.key)).length=es.size:=by simp
  rw [sizeLine_eq]; omega
 refine Calls.call_function_entry kind_sorted plain_sorted entry_sorted (args_sorted1 _) ?_;unfold Builtin.«sorted»;refine aD (m:=checkCount "sorted" 1 1 _) (wpAny_pure ?_);refine aD (Q9v lo (by simpa using Z) hm hsz λh1 I G Y=>?_)
 refine aD (wpAny_newList ?_ (by rw [sizeLine_eq]; omega));generalize es.toList.map (·.key)=vs at*;have J:(h1.push (seqObj "list" vs.toArray 0)).get? h1.objs.size=zo (seqObj "list" vs.toArray 0):=O9 _ rfl;have keep:∀ b o,s.heap.get? b=zo o->(h1.push (seqObj "list" vs.toArray 0)).get? b=zo o:=λb o q=>O1 _ (G b o q)
 show aF _ _ _ _ _ { s with heap:=h1.push (seqObj "list" vs.toArray 0),toks:=I };refine aD (ak (ah slot_list_sort ⟨_,J,rfl⟩ entry_list_sort ?body (args_list_sort _)))
 case body=>
  refine Q7z (s:={ s with heap:=h1.push (seqObj "list" vs.toArray 0),toks:=I }) J (hT.keep keep) O λp h' k a1 a2 a3 a4=>?_
  exact ⟨_,rfl,wpAny_pure ⟨_,rfl,h p h' _ k I a1 a2 Y a3 λb o e=>a4 b o (D8 (O7 (G b o e))) (keep b o e)⟩⟩
end
def Qb7 (a:Int × Str):List (Int × Str)->List (Int × Str)
 | []=>[a]
 | b :: r=>if Zh b a=zb then b :: Qb7 a r else a :: b :: r
def Ur:List (Int × Str)->List (Int × Str)
 | []=>[]
 | a :: r=>Qb7 a (Ur r)
def leQ (a b:Int × Str):Prop:=Zh b a=yo
theorem Q1x (a b:Int × Str):leQ a b <-> a=b\/Zh a b=zb:=by
 unfold leQ;constructor
 ·intro h;cases z:Zh a b with
  | true=>exact .inr rfl
  | false=>exact .inl (Q3m z h)
 ·rintro (rfl | h)
  ·exact Q3n a
  ·cases z:Zh b a with
   | false=>rfl
   | true=>have:=zy h z; rw [Q3n] at this; cases this
theorem Q5g {a b c:Int × Str} (h1:leQ a b) (h2:leQ b c):leQ a c:=by
 rw [Q1x] at*;rcases h1 with rfl | h1
 ·exact h2
 ·rcases h2 with rfl | h2
  ·exact .inr h1
  ·exact .inr (zy h1 h2)
theorem Qih {a b:Int × Str} (h1:leQ a b) (h2:leQ b a):a=b:=Q3m h2 h1
theorem Q0k (a:Int × Str):∀ l,(Qb7 a l).Perm (a :: l)
 | []=>cL _
 | b :: r=>by
  rw [Qb7]
  split
  ·exact ((Q0k a r).cons b).trans (eD a b r)
  ·exact cL _
theorem W0:∀ l,(Ur l).Perm l
 | []=>cL _
 | a :: r=>(Q0k a (Ur r)).trans ((W0 r).cons a)
theorem Q11 {a:Int × Str}:∀ {l:List (Int × Str)},l.Pairwise leQ->(Qb7 a l).Pairwise leQ
 | [],_=>by rw [Qb7]; exact List.pairwise_singleton _ _
 | b :: r,h=>by
  obtain ⟨h1,h2⟩:=L5.mp h;rw [Qb7]
  split
  ·rename_i q;refine L5.mpr ⟨λx G=>?_,Q11 h2⟩;rcases D6.mp ((Q0k a r).mem_iff.mp G) with rfl | G
   ·exact (Q1x b x).mpr (.inr q)
   ·exact h1 x G
  ·rename_i q;have I:leQ a b:=by unfold leQ; simpa using q
   refine L5.mpr ⟨λx G=>?_,h⟩;rcases D6.mp G with rfl | G
   ·exact I
   ·exact Q5g I (h1 x G)
theorem We:∀ l,(Ur l).Pairwise leQ
 | []=>fI
 | a :: r=>Q11 (We r)
theorem Xz:∀ {a b:List (Int × Str)},a.Perm b->a.Pairwise leQ->b.Pairwise leQ->a=b
 | [],b,h,_,_=>(List.nil_perm.mp h).symm
 | x :: a,[],h,_,_=>absurd (List.perm_nil.mp h) (by simp)
 | x :: a,y :: b,h,G,O=>by
  obtain ⟨J,a2⟩:=L5.mp G;obtain ⟨q,Z⟩:=L5.mp O;have e:x=y:=by
   rcases D6.mp (h.mem_iff.mp (F4 (a:=x) (l:=a))) with e | Y
   ·exact e
   ·rcases D6.mp (h.mem_iff.mpr (F4 (a:=y) (l:=b))) with e | I
    ·exact e.symm
    ·exact Qih (J y I) (q x Y)
  subst e;rw [Xz (iq h) a2 Z]
theorem Q30 {l:List (Int × Str)} (h:∀ i,1<=i->i < l.length->Zh (l.getD i dQ) (l.getD (i - 1) dQ)=yo):l.Pairwise leQ:=by
 rw [eB];have g:∀ k (G:k < l.length),l.getD k dQ=l[k]:=λk G=>by rw [E1,O2 G]; rfl
 have q:∀ d i (hi:i + d < l.length),leQ (l.getD i dQ) (l.getD (i + d) dQ):=by
  intro d
  induction d with
  | zero=>intro i hi; exact (Q1x _ _).mpr (.inl rfl)
  | succ d J=>
   intro i hi;have h1:=J i (by omega);have h2:=h (i + d + 1) (by omega) (by omega);rw [fM] at h2;exact Q5g h1 h2
 intro i j hi I O;have:=q (j - i) i (by omega);rw [show i + (j - i)=j by omega,g i hi,g j I] at this;exact this
theorem Q2h {nss:List (Int × Str)} {p:List Nat} (q:p.Perm (bY nss.length)) (h:∀ i,1<=i->i < nss.length->Zh (nss.getD (p.getD i 0) dQ) (nss.getD (p.getD (i - 1) 0) dQ)=yo):p.map (λi=>nss.getD i dQ)=Ur nss:=by
 have Z:p.length=nss.length:=by rw [q.length_eq,F5]
 have O:(bY nss.length).map (λi=>nss.getD i dQ)=nss:=by
  apply cS;intro i
  by_cases z:i < nss.length
  ·simp [z]
  ·simp [z]
 have Y:(p.map λi=>nss.getD i dQ).Perm nss:=by
  have:=q.map (λi=>nss.getD i dQ)
  rwa [O] at this
 have I:∀ k,k < p.length->(p.map λi=>nss.getD i dQ).getD k dQ=nss.getD (p.getD k 0) dQ:=λk G=>by
  rw [E1,D7,O2 G,E1 (l:=p),O2 G];rfl
 refine Xz (Y.trans (W0 nss).symm) (Q30 λi J g2=>?_) (We nss);rw [O0] at g2;rw [I i g2,I (i - 1) (by omega)];exact h i J (by omega)
theorem Q8h {P:aK} {w:aJ} {H:Hp} {h:Heap} (ok:HOk P w H h):∀ {q:List (HK × V)} {I:List aB} {nss:List (Int × Str)},aR (λ(p:HK × V) (b:aB)=>KR H p.1 b) q I->aR (λ(p:HK × V) (ns:Int × Str)=>p.1=.tup [.int ns.1,.str ns.2]) q nss->PrsAre h (I.map bZ) nss/\aR (λ(v:V) (ns:Int × Str)=>∃ b,v=.ref b/\H b=zo (.tup [.int ns.1,.str ns.2])) (I.map V.ref) nss
 | [],_,_,.nil,.nil=>⟨.nil,.nil⟩
 | p :: q,a :: I,ns :: nss,.cons J t,.cons Y u=>by
  obtain ⟨r1,r2⟩:=Q8h ok t u;rw [Y] at J;obtain ⟨⟨b,vs,e,O,v1,q1,Z,k1,v2,q2,e2,k2,k3⟩,_⟩:=J;cases e;cases k1; cases k2; cases k3; subst e2; subst Z;obtain ⟨_,a1,G,o,ho,hc,n,hd⟩:=ok a _ O;refine ⟨?_,.cons ⟨a,rfl,O⟩ r2⟩;cases G with
  | cons x1 G=>
   cases G with
   | cons x2 G=>
    cases G;obtain ⟨t1,rfl⟩:=x1;obtain ⟨t2,rfl⟩:=x2;exact .cons ho hc hd r1
variable {X:Cx}
theorem Q4v (a6:X.calm=zb):Wz X (.builtin "sorted") (λxs H Q=>∃ a,∃ G:List (HK × V),∃ nss:List (Int × Str),xs=[.ref a]/\H a=zo (.dT G)/\G.length < 64/\aR (λ(p:HK × V) (ns:Int × Str)=>p.1=.tup [.int ns.1,.str ns.2]) G nss /\
  ∀ d (J:List Nat) (vs:List V),H d=zl->aR (λ(v:V) (ns:Int × Str)=>∃ b,v=.ref b/\H b=zo (.tup [.int ns.1,.str ns.2])) vs nss->J.Perm (bY nss.length)->J.map (λi=>nss.getD i dQ)=Ur nss->Q (.ref d) (upd H d (.lst (J.map λi=>vs.getD i .non)))):=by
 intro pins s σ H xs us Q I r h;obtain ⟨a,G,nss,rfl,ea,b0,hp,q⟩:=h;obtain ⟨u,rfl,rx⟩:=Uq r;cases rx;obtain ⟨z,hs,es,ep,O,hr,hk,Z⟩:=Qbg I.hok ea;obtain ⟨T,a8⟩:=Q8h I.hok Z hp;have l1:G.length=O.length:=Paired.length Z;have l2:G.length=nss.length:=Paired.length hp;refine Q7y hs (I.ok.hd a6) hr (by rw [hk]; exact T) (by rw [hk,O0]; omega) λJ h' D k tk Y a2 a3 a4 a5=>?_
 rw [hk] at Y a2 a4;rw [O0] at Y a2;have e:=Q2h (nss:=nss) (p:=J) (by rw [<- l2,l1]; exact Y) (λi g1 g2=>a2 i g1 (by omega))
 have a9:J.length=O.length:=by rw [Y.length_eq,F5]
 have hv:Vals (J.map λi=>(O.map V.ref).getD i .non) (J.map λi=>(O.map bZ).getD i ba):=by
  have a7:∀ l:List Nat,(∀ x∈l,x < O.length)->Vals (l.map λi=>(O.map V.ref).getD i .non) (l.map λi=>(O.map bZ).getD i ba):=by
   intro l
   induction l with
   | nil=>intro _; exact .nil
   | cons x l ih=>
    intro hl;have hx:=hl x (by simp);refine .cons ?_ (ih λy hy=>hl y (O4 _ hy))
    show RelV ((O.map V.ref).getD x .non) ((O.map bZ).getD x ba);rw [E1,D7,O2 hx,E1,D7,O2 hx];rfl
  exact a7 J λx hx=>by have:=Y.mem_iff.mp hx; simpa using this
 exact ⟨.ref D,_,I.laid (t':=tk) (o:=.lst (J.map λi=>(O.map V.ref).getD i .non)) a5 a3 ⟨by rw [O0]; rw [sizeLine_eq] at*; omega,_,k,hv,a4⟩,rfl,q D J _ (I.hok.fresh a3) a8 (by rw [<- l2,l1]; exact Y) e⟩
end L2
namespace L2
open PySem PySem.Spec PyProof.Rows SeqAt
variable {prog:aK} {A:aL} {R:Result->aC->Prop}
section
variable {w:aJ}
def Jq (xs ps:List (HK × aB × aA)):List (HK × aB × aA):=ps.foldl (λacc p=>storedH acc p.1 p.2.1 p.2.2) xs
theorem Q7v (xs:List (HK × aB × aA)) (k:HK) (a:aB) (v:aA):(storedH xs k a v).length<=xs.length + 1:=by
 unfold storedH
 split <;> simp
theorem Q2c (xs:List (HK × aB × aA)):∀ ps,(Jq xs ps).length<=xs.length + ps.length:=by
 intro ps;unfold Jq
 induction ps generalizing xs with
 | nil=>simp
 | cons p ps q=>
  rw [F2,D3];have h1:=q (storedH xs p.1 p.2.1 p.2.2);have h2:=Q7v xs p.1 p.2.1 p.2.2;omega
theorem Q1e (xs ps:List (HK × aB × aA)) (p:HK × aB × aA):Jq xs (ps ++ [p])=storedH (Jq xs ps) p.1 p.2.1 p.2.2:=by unfold Jq; rw [fO]; rfl
def Q7m (prog:aK) (w:aJ) (h:Heap) (v:aA) (p:HK × aB × aA):Prop:=∃ a,v=.ref a/\IsTup h a #[.ref p.2.1,p.2.2]/\(nk prog w).is h p.1 p.2.1
theorem jp {h h':Heap} {D:aB} {xs:List (HK × aB × aA)} (d:h.DictOfH (nk prog w) D xs) (k:∀ o,h.get? D=zo o->h'.get? D=zo o) (O:∀ a its,IsTup h a its->IsTup h' a its):h'.DictOfH (nk prog w) D xs:=by
 obtain ⟨o,es,ep,h1,h2,I,Y,q,J⟩:=d;exact ⟨o,es,ep,k o h1,h2,I,Y,λx G=>⟨KIs.keep O 5 (q x G).2 (q x G).1,(q x G).2⟩,J⟩
theorem Q50 {I l D:aB} {q:Array aA} {xs ps:List (HK × aB × aA)} {h0:Heap} (hu:A.in1.units + 5 < aQ) (hh:A.handled=zl) (b1:l≠I) (a4:D≠I) (b9:D≠l) (hI:∀ b o,h0.get? b=zo o->b≠I) (b3:∀ its,¬ IsTup h0 D its)
  (hn:q.size=ps.length) (hp:∀ (i:Nat) (v:aA) (p:HK × aB × aA),q[i]?=zo v->ps[i]?=zo p->Q7m prog w h0 v p) (hsz:xs.length + ps.length<=sizeLine) :
  ∀ (k i:Nat) (s:aC),q.size - i=k->i<=q.size->(s.heap.IsListIter I l i/\s.heap.IsList l q)->(∀ b o,b≠D->h0.get? b=zo o->s.heap.get? b=zo o)->s.heap.DictOfH (nk prog w) D (Jq xs (ps.take i)) ->
   (∀ h' tk,h'.DictOfH (nk prog w) D (Jq xs ps)->(∀ b o,b≠D->h0.get? b=zo o->h'.get? b=zo o)->R (.ok (.ret .none)) { s with heap:=h',toks:=tk }) ->
   codeAny (aI prog w) A (.builtin "dict.update.loop" ⟨[.ref D,.ref I,aU i,.none],[]⟩) R s:=by
 have W:=Walks.list (prog:=prog) (w:=w) (A:=A.in1) (by simpa using hh) I l b1 q;have nI:∀ {i:Nat} {h:Heap},h.IsListIter I l i->∀ its,¬ IsTup h I its:=by
  rintro i h ⟨o,h1,h2,_⟩ its ⟨o',g1,g2,_⟩;rw [h1] at g1; cases g1;rw [h2] at g2; exact absurd g2 (by decide)
 intro k
 induction k with
 | zero=>
  intro i s hk hi O G hD hR;have c1:i=q.size:=by omega
  subst c1;refine bC Kg ?_;rw [Around.under_plainId Zp _];show aF _ A.in1 (af (.ref I) >>= _) _ _ s;refine aD (W.done s _ _ O λh' tk hm=>?_);show aF _ A.in1 (Builtin.Dict.addKeywords D [] >>= λ_=>ret ba) _ _ _;refine aD (wpAny_pure (wpAny_pure (hR h' tk ?_ λb o hb e=>hm b o (λz=>hI b o e (by simpa using z)) (G b o hb e))))
  rw [hn,eL] at hD;refine jp hD (λo e=>hm D o (λz=>a4 (by simpa using z)) e) λa its x=>?_
  have:a≠I:=λz=>by subst z; exact nI O.1 its x
  obtain ⟨o',x1,x2⟩:=x;exact ⟨o',hm a o' (by simpa using this) x1,x2⟩
 | succ k ih=>
  intro i s hk hi O G hD hR;have a8:i < q.size:=by omega
  refine bC Kg ?_;rw [Around.under_plainId Zp _];show aF _ A.in1 (af (.ref I) >>= _) _ _ s;refine aD (W.item i s _ _ a8 O λv h' tk hP a2 hm=>?_);have a6:i < ps.length:=by omega
  obtain ⟨a,rfl,ht,Z⟩:=hp i v ps[i] hP (O2 a6);have J:∀ b o,b≠D->h0.get? b=zo o->h'.get? b=zo o:=λb o hb e=>hm b o (λz=>hI b o e (by simpa using z)) (G b o hb e)
  have a7:∀ a its,IsTup h0 a its->IsTup h' a its:=λa its x=>by
   have:a≠D:=λz=>by subst z; exact b3 its x
   obtain ⟨o',x1,x2⟩:=x;exact ⟨o',J a o' this x1,x2⟩
  have b5:h'.DictOfH (nk prog w) D (Jq xs (ps.take i)):=jp hD (λo e=>hm D o (λz=>a4 (by simpa using z)) e) λa its x=>by
   have:a≠I:=λz=>by subst z; exact nI O.1 its x
   obtain ⟨o',x1,x2⟩:=x;exact ⟨o',hm a o' (by simpa using this) x1,x2⟩
  have a5:(nk prog w).is h' ps[i].1 ps[i].2.1:=⟨KIs.keep a7 5 Z.2 Z.1,Z.2⟩;show aF _ A.in1 (aw [bZ a] _ >>= _) _ _ _;refine aD (ak ?_);obtain ⟨ot,a3,b6,nt,b7⟩:=a7 a _ ht;have b2:Shared.TypeIs { s with heap:=h',toks:=tk } (.ref a) "tuple" := ⟨ot,a3,b6⟩;refine aD (wpAny_tryCatch ?_);unfold Builtin.Dict.pairItems;refine aD (bB b2 ?_);rw [bT (by decide)];refine aD (aq a3 b7 ?_);refine wpAny_pure ?_;show aF _ A.in1 (aw [.ref ps[i].2.1,(ps[i]).2.2] (dictSet D (.ref ps[i].2.1) (ps[i]).2.2)) _ _ _;have b4:(Jq xs (ps.take i)).length<=sizeLine:=by
   have:=Q2c xs (ps.take i);have h2:(ps.take i).length<=ps.length:=by rw [L8]; omega
   omega
  refine ak (wpAny_dictSet_heap (knd:=nk prog w) (s:={ s with heap:=h',toks:=tk }) (k:=(ps[i]).1) hu a5 b5 (λa1 a9 Y=>?_) b4);have c0:∀ b o,b≠D->h0.get? b=zo o->a1.get? b=zo o:=λb o hb e=>(Y.2 b hb).trans (J b o hb e)
  have b0:a1.IsListIter I l (i + 1)/\a1.IsList l q:=⟨a2.1.at λo e=>(Y.2 I (Ne.symm a4)).trans e,a2.2.at λo e=>(Y.2 l (Ne.symm b9)).trans e⟩;have e1:ps.take (i + 1)=ps.take i ++ [ps[i]]:=by rw [iN,O2 a6]; rfl
  have b8:a1.DictOfH (nk prog w) D (Jq xs (ps.take (i + 1))):=by rw [e1,Q1e]; exact a9
  exact wpAny_pure ⟨bD Zp _,ih (i + 1) _ (by omega) a8 b0 c0 b8 λh3 t3 d3 k3=>hR h3 t3 d3 k3⟩
end
variable {X:Cx}
def putAll (kvs:List (HK × V)) (ps:List (HK × aB × V)):List (HK × V):=ps.foldl (λacc p=>K2 acc p.1 p.2.2) kvs
theorem KT.putAll {H:Hp}:∀ {ps:List (HK × aB × V)} {us:List (HK × aB × aA)} {G:List (HK × V)} {xs:List (HK × aB × aA)},KT H G xs->aR (λ(p:HK × aB × V) (q:HK × aB × aA)=>p.1=q.1/\p.2.1=q.2.1/\KR H p.1 p.2.1/\RelV p.2.2 q.2.2) ps us->KT H (L2.putAll G ps) (Jq xs us)
 | _,_,_,_,r,.nil=>r
 | p :: ps,q :: us,_,_,r,.cons ⟨J,I,O,Y⟩ t=>by
  show KT H (L2.putAll (K2 _ p.1 p.2.2) ps) (Jq (storedH _ q.1 q.2.1 q.2.2) us);rw [<- J,<- I];exact KT.putAll (r.put p.1 O Y) t
theorem Q2u (q:List (HK × V)):∀ ps,(putAll q ps).length<=q.length + ps.length:=by
 intro ps;unfold putAll
 induction ps generalizing q with
 | nil=>simp
 | cons p ps G=>
  rw [F2,D3];have h1:=G (K2 q p.1 p.2.2);have h2:=qt q p.1 p.2.2;omega
theorem Qem (hu:X.A.units + 9 < aQ) (hc:X.calm=zb):MtR X "dict.update" (λx vs H Q=>∃ a p,∃ J:List (HK × V),∃ us,∃ ps:List (HK × aB × V),x=.ref a/\vs=[.ref p]/\H a=zo (.dT J)/\H p=zo (.lst us)/\aR (λv (z:HK × aB × V)=>∃ c,v=.ref c/\H c=zo (.tup [.ref z.2.1,z.2.2])/\KR H z.1 z.2.1) us ps/\J.length + ps.length<=sizeLine/\Q .non (upd H a (.dT (putAll J ps)))):=by
 intro pins s σ H x vs v d1 Q I rx rv h;obtain ⟨D,p,J,us,ps,rfl,rfl,ea,hq,c4,hl,q⟩:=h;cases rx;obtain ⟨u,rfl,ru⟩:=rv.one;cases ru;obtain ⟨z,hd,xs,a8,dd⟩:=Qjf I.hok ea;obtain ⟨b7,its,n,r',c5,Y⟩:=I.lstM hq;obtain ⟨oD,c3,b9,Z,a6,a5,a4⟩:=dd;have dd:s.heap.DictOfH (nk X.prog X.w) D xs:=⟨oD,c3,b9,Z,a6,a5,a4⟩;have b1:s.TypeIs (.ref D) "dict" := ⟨oD,Z,a6.1⟩;have c0:D≠p:=λe=>by subst e; rw [Z] at Y; cases Y; cases a5
 have b6:∀ its,¬ IsTup s.heap D its:=by
  rintro its ⟨o',g1,g2,n,g3⟩;rw [Z] at g1; cases g1;rw [a5] at g3; cases g3
 obtain ⟨qs,b2,O⟩:∃ qs:List (HK × aB × aA),aR (λ(p:HK × aB × V) (q:HK × aB × aA)=>p.1=q.1/\p.2.1=q.2.1/\KR H p.1 p.2.1/\RelV p.2.2 q.2.2) ps qs/\(its.length=qs.length/\∀ (i:Nat) (v:aA) (p:HK × aB × aA),its[i]?=zo v->qs[i]?=zo p->Q7m X.prog X.w s.heap v p):=by
  have hok:=I.hok;clear q hl Y hq b7 c5
  induction c4 generalizing its with
  | nil=>cases r'; exact ⟨[],.nil,rfl,λi v p h=>by simp at h⟩
  | cons h1 _ ih=>
   cases r' with
   | cons y1 y2=>
    obtain ⟨qs,a1,a2,a3⟩:=ih _ y2;obtain ⟨c,rfl,b8,hk⟩:=h1;cases y1;obtain ⟨_,c9,rj,ht⟩:=hok c _ b8;cases rj with
    | cons x1 rj=>
     cases rj with
     | cons x2 rj=>
      cases rj;cases x1;rename_i zz _ _ _ _ vv;refine ⟨(_,_,vv) :: qs,.cons ⟨rfl,rfl,hk,x2⟩ a1,by simp [a2],λi v p e1 e2=>?_⟩
      cases i with
      | zero=>
       simp at e1 e2;subst e1; subst e2;exact ⟨c,rfl,ht,V7 hok hk⟩
      | succ i=>exact a3 i v p (by simpa using e1) (by simpa using e2)
 have c7:ps.length=qs.length:=Paired.length b2;have c8:J.length=xs.length:=Paired.length a8;have hh:=I.ok.hd hc;refine wpAny_call (codeAny_call_builtin F.slot_dict_update.plain F.entry_dict_update (F.slot_dict_update.check _ _ _ _ _ _ _ _ b1 (F.args_dict_update_2 _ _) ?_));unfold Builtin.«dict.update»;refine aD ?_;unfold Builtin.Dict.selfAndRest;refine aD (wpAny_notOrdered_dict b1 ?_);show aF _ _ (pure (D,[bZ p])) _ _ _;refine wpAny_pure ?_;show aF _ _ (Builtin.Dict.updateFrom "dict.update" D (.ref p) [] .none) _ _ _;unfold Builtin.Dict.updateFrom;refine aD (bB (T := "list") ⟨_,Y,rfl⟩ ?_);rw [bT (by decide)];refine aD (z8 Y (by simpa using hh) λh2 d0 G=>?_)
 rw [bT (by rfl)];have b3:=G _ _ Y;have a9:h2.IsList p its.toArray:=⟨_,b3,rfl,n,rfl⟩;have b5:h2.DictOfH (nk X.prog X.w) D xs:=jp dd (λo e=>G _ _ e) λa its x=>let ⟨o',x1,x2⟩:=x; ⟨o',G _ _ x1,x2⟩
 have a7:D < h2.objs.size:=O7 (G _ _ Z);refine aD (aD (m:=rule _) (bH (wpAny_pure (aD (wpAny_pyIter_list a9 ?_)))));refine wpAny_pure ⟨bD Zp _,?_⟩;have sb:∀ (h2:Heap) (o:Obj),∀ a its,IsTup h2 a its->IsTup (h2.push o) a its:=λh2 o a its x=>let ⟨o',x1,x2⟩:=x; ⟨o',O1 _ x1,x2⟩
 refine Q50 (A:=X.A) (I:=h2.objs.size) (l:=p) (D:=D) (xs:=xs) (ps:=qs) (h0:=s.heap) (by show X.A.units + 1 + 5 < aQ; omega) (by simpa using hh) (D8 (O7 b3)) (D8 a7) c0 (λb o e=>D8 (O7 (G b o e))) b6
  (by rw [D0]; exact O.1) (λi v p e1 e2=>O.2 i v p (by simpa using e1) e2) (by omega) (its.toArray.size - 0) 0 _ rfl (F8 _) ⟨⟨_,O9 _ rfl,rfl,rfl⟩,a9.push _⟩ (λb o _ e=>O1 _ (G b o e)) ?dk λh' tk d k=>?_
 case dk=>exact jp b5 (λo e=>O1 _ e) (sb _ _)
 obtain ⟨q1,es,ep,b0,b4,c1,c2,_,c6⟩:=d;refine ⟨.non,_,I.write (x:=D) (e:=D) (o:=.dT (putAll J ps)) (by rw [ea]; exact True.intro) (.inl rfl) (λb o hb e=>k b o hb e) ⟨q1,b0⟩ ⟨?_,hd,_,(a8.putAll b2).keeps λc ys ec=>?_,q1,es,ep,b0,b4,c1,c2,c6⟩,rfl,q⟩
 ·have:=Q2u J ps; omega
 ·rw [Qa (Qi4 ec ea (λz=>nomatch z))];exact ec
end L2
namespace L2
open PySem PySem.Spec PyProof.Rows PySem.W
variable {h:Heap} {vs:List aA} {ns:List (Int × Str)}
theorem PrsAre.perm {l l':List aA} (p:l'.Perm l):∀ {ns:List (Int × Str)},PrsAre h l ns->∃ q,PrsAre h l' q/\q.Perm ns:=by
 induction p with
 | nil=>intro ns h; exact ⟨ns,h,cL _⟩
 | cons x _ ih=>
  intro ns h;cases h with
  | cons G hc hd hr=>
   obtain ⟨ks,h1,h2⟩:=ih hr;exact ⟨_,.cons G hc hd h1,h2.cons _⟩
 | swap x y l=>
  intro ns h;cases h with
  | cons G hc hd hr=>
   cases hr with
   | cons O a1 J Y=>exact ⟨_,.cons O a1 J (.cons G hc hd Y),eD _ _ _⟩
 | trans _ _ I Z=>
  intro ns h;obtain ⟨k1,h1,p1⟩:=Z h;obtain ⟨k2,h2,p2⟩:=I h1;exact ⟨k2,h2,p2.trans p1⟩
theorem PrsAre.one :∀ {vs:List aA} {ns:List (Int × Str)},PrsAre h vs ns->∀ i,i < vs.length->PrsAre h [vs.getD i ba] [ns.getD i dQ]
 | _,_,.nil,i,hi=>by simp at hi
 | _,_,.cons G q hd r,0,_=>.cons G q hd .nil
 | _,_,.cons G q hd r,i + 1,I=>by simpa using r.one i (by simpa using I)
theorem PrsAre.app :∀ {vs G:List aA} {ns q:List (Int × Str)},PrsAre h vs ns->PrsAre h G q->PrsAre h (vs ++ G) (ns ++ q)
 | _,_,_,_,.nil,g=>g
 | _,_,_,_,.cons J I hd r,g=>.cons J I hd (r.app g)
theorem PrsAre.pick (r:PrsAre h vs ns):∀ (p:List Nat),(∀ i∈p,i < vs.length)->PrsAre h (p.map λi=>vs.getD i ba) (p.map λi=>ns.getD i dQ)
 | [],_=>.nil
 | i :: p,q=>(r.one i (q i (by simp))).app (r.pick p λj G=>q j (O4 _ G))
theorem jx {a b:List (Int × Str)} (h:a.Perm b):Ur a=Ur b:=Xz ((W0 a).trans (h.trans (W0 b).symm)) (We a) (We b)
variable {prog:aK} {A:aL} {E:zAD} {s:aC}
section
variable {w:aJ}
theorem jj :(bY vs.length).map (λi=>vs.getD i ba)=vs:=by
 apply cS;intro i
 by_cases z:i < vs.length
 ·simp [z]
 ·simp [z]
theorem Q7x {d:aB} {es:zAB} {ep:Nat} {t:aW} {Q:zAD} (hh:A.handled=zl) (x:RawS s.heap d es ep t) (hf:t.fits es.size=zb) (g:Good (byT w) t) (hI:PrsAre s.heap (es.toList.map (·.2)) ns) (a7:es.size < 64)
  (h:∀ (J:List aA) (h':Heap) (d':Drawn) (tk D k:Nat),PrsAre h' J (Ur ns)->J.Perm (es.toList.map (·.2))->s.heap.objs.size<=D->h'.get? D=zo (seqObj "list" J.toArray k)->(∀ b o,s.heap.get? b=zo o->h'.get? b=zo o)->Q (.ref D) { s with heap:=h',drawn:=d',toks:=tk }) :
  aF (aI prog w) A (call (.builtin "sorted") [.ref d]) Q E s:=by
 have hsz:es.size<=sizeLine:=by rw [sizeLine_eq]; omega
 refine Calls.call_function_entry kind_sorted plain_sorted entry_sorted (args_sorted1 _) ?_;unfold Builtin.«sorted»;refine aD (m:=checkCount "sorted" 1 1 _) (wpAny_pure ?_);refine aD (Q9u (by simpa using hh) x hf g hsz λvs h1 Z O pm G a6=>?_)
 have hl:vs.length=es.size:=by rw [pm.length_eq]; simp
 obtain ⟨n1,i1,p1⟩:=PrsAre.perm pm hI;refine aD (wpAny_newList ?_ (by rw [sizeLine_eq]; omega));have I:(h1.push (seqObj "list" vs.toArray 0)).get? h1.objs.size=zo (seqObj "list" vs.toArray 0):=O9 _ rfl;have keep:∀ b o,s.heap.get? b=zo o->(h1.push (seqObj "list" vs.toArray 0)).get? b=zo o:=λb o q=>O1 _ (G b o q)
 show aF _ _ _ _ _ { s with heap:=h1.push (seqObj "list" vs.toArray 0),drawn:=Z,toks:=O };have i2:=i1.keep keep;refine aD (ak (ah slot_list_sort ⟨_,I,rfl⟩ entry_list_sort ?body (args_list_sort _)))
 case body=>
  refine Q7z (s:={ s with heap:=h1.push (seqObj "list" vs.toArray 0),drawn:=Z,toks:=O }) I i2 (by omega) λp h' k a1 a2 a3 a4=>?_
  have a5:∀ i∈p,i < vs.length:=λi hi=>by have:=a1.mem_iff.mp hi; simpa using this
  have e:=Q2h (nss:=n1) (p:=p) (by rw [<- i1.length]; exact a1) (λi g1 g2=>a2 i g1 (by rw [i1.length]; exact g2))
  have Y:=i2.pick p a5;rw [e,jx p1] at Y;refine ⟨_,rfl,wpAny_pure ⟨_,rfl,h (p.map λi=>vs.getD i ba) h' Z O _ k ?_ ?_ a6 a3 λb o q=>a4 b o (D8 (O7 (G b o q))) (keep b o q)⟩⟩
  ·exact Y.keepT λb o hc q=>a4 b o (λz=>by
    rw [z,I] at q;have q:=bn q;rw [<- q] at hc;exact absurd (show bj "list" = .type "tuple" from hc) (by decide)) q
  ·have:=a1.map (λi=>vs.getD i ba);rw [jj] at this;exact this.trans pm
end
def Qy0 (w:aJ) (h:Heap) (a:aB) (bs:List aB):Prop:=∃ o es ep t,h.get? a=zo o/\o.ExactSet/\o.data=.set es ep t/\es.toList.map (·.2)=bs.map bZ/\t.fits es.size=zb/\Good (byT w) t
def Q5m (w:aJ) (a:aB) (bs:List aB):HO:=.ext λh=>Qy0 w h a bs
variable {X:Cx}
theorem Qqp {H:Hp} {h':Heap} {P:aK} {w:aJ} (G:∀ k b,KR H k b->(nk P w).is h' k b):∀ {es:List (Int × aA)} {ks:List HK},aR (ElH P w (λb=>∃ k,KR H k b) h') es ks->∃ bs:List aB,es.map (·.2)=bs.map bZ/\aR (λb k=>KR H k b) bs ks
 | [],_,.nil=>⟨[],rfl,.nil⟩
 | e :: es,k :: ks,.cons ⟨b,I,J,_,k2,q⟩ t=>by
  obtain ⟨bs,h1,h2⟩:=Qqp G t;have:k=k2:=(nk P w).inj J (G k2 b q);exact ⟨b :: bs,by rw [D5,D5,I,h1],.cons (by rw [this]; exact q) h2⟩
theorem Qfb (hu:X.A.units + 9 < aQ) (hc:X.calm=zb):Wz X (.type "set") (λxs H Q=>∃ p vs,∃ ks:List HK,xs=[.ref p]/\SqT X.K H p vs/\aR (λv k=>∃ b,v=.ref b/\KR H k b) vs ks/\ks.length<=76/\∀ l bs G,H l=zl->G.Perm (Y9 ks)->aR (λb k=>KR H k b) bs G->Q (.ref l) (upd H l (Q5m X.w l bs))):=by
 intro pins s σ H xs us Q I r h;obtain ⟨p,vs,ks,rfl,hq,hk,hl,q⟩:=h;obtain ⟨u,rfl,Y⟩:=Uq r;cases Y;obtain ⟨its,Z,pl,hz⟩:=I.tuple hq;have O:its.length=ks.length:=by rw [<- Z.length,Paired.length hk]
 refine jy (B:=λb=>∃ k,KR H k b) (ks:=ks) hu (I.ok.hd hc) pl (by rw [D0,O]) (λi v e=>?_) hl λh' tk gh k=>?_
 ·have e:its[i]?=zo v:=by simpa using e
  have hi:i < vs.length:=by have:=(O3.mp e).1; rw [Z.length]; exact this
  obtain ⟨x,ex,Y⟩:=Z.get (O2 hi);rw [e] at ex; cases ex;obtain ⟨k,ek,b,eb,J⟩:=K4 hk (O2 hi);rw [eb] at Y;cases Y;exact ⟨k,b,ek,rfl,V7 I.hok J,k,J⟩
 ·obtain ⟨o,es,ep,t,h1,h2,h3,⟨G,p1,r1⟩,h5,h6⟩:=gh;obtain ⟨bs,b1,b2⟩:=Qqp (λk2 b J=>⟨KIs.keep (λa its ⟨o',x1,x2⟩=>⟨o',k a o' x1,x2⟩) 5 (V7 I.hok J).2 (V7 (P:=X.prog) (w:=X.w) I.hok J).1,(V7 (P:=X.prog) (w:=X.w) I.hok J).2⟩) r1
  have sz:Qy0 X.w h' s.heap.objs.size bs:=⟨o,es,ep,t,h1,h2,h3,b1,by have:=h6.fits; rwa [O0,be] at this,h6.good⟩;refine ⟨.ref s.heap.objs.size,upd H s.heap.objs.size (Q5m X.w s.heap.objs.size bs),I.laid (t':=tk) k (O5 _) ⟨sz,⟨o,h1⟩,λh1 h2 z kk=>?_⟩,rfl,q _ bs G (I.hok.fresh (O5 _)) p1 b2⟩
  obtain ⟨o,es,ep,t,g1,g2⟩:=z;exact ⟨o,es,ep,t,kk _ g1,g2⟩
theorem Qh8 {P:aK} {w:aJ} {H:Hp} {h:Heap} (ok:HOk P w H h):∀ {bs:List aB} {ns:List (Int × Str)},aR (λb (n:Int × Str)=>H b=zo (.tup [.int n.1,.str n.2])) bs ns->PrsAre h (bs.map bZ) ns
 | [],_,.nil=>.nil
 | b :: bs,n :: ns,.cons I t=>by
  obtain ⟨_,G,q,o,O,J,m,hd⟩:=ok b _ I;cases q with
  | cons x1 q=>
   cases q with
   | cons x2 q=>
    cases q;obtain ⟨t1,rfl⟩:=x1;obtain ⟨t2,rfl⟩:=x2;exact .cons O J hd (Qh8 ok t)
theorem Qhq {P:aK} {w:aJ} {H:Hp} {h h':Heap} (ok:HOk P w H h) (kp:∀ b o,h.get? b=zo o->h'.get? b=zo o) {bs:List aB} {ns:List (Int × Str)} (Y:aR (λb (n:Int × Str)=>H b=zo (.tup [.int n.1,.str n.2])) bs ns):∀ {G:List aA} {ms:List (Int × Str)},PrsAre h' G ms->(∀ v∈G,v∈bs.map bZ)->∃ ds:List V,Vals ds G/\aR (λ(v:V) (n:Int × Str)=>∃ b,v=.ref b/\H b=zo (.tup [.int n.1,.str n.2])) ds ms
 | [],_,.nil,_=>⟨[],.nil,.nil⟩
 | _ :: G,_ :: ms,.cons (a:=a) (x:=x) (y:=y) ho hc hd r,hm=>by
  obtain ⟨ds,d1,d2⟩:=Qhq ok kp Y r λv hv=>hm v (O4 _ hv)
  obtain ⟨b,hb,e⟩:=E5.mp (hm (.ref a) (by simp));cases e;obtain ⟨n,hn,Z⟩:=qc Y hb;obtain ⟨_,a1,I,o',O,a2,m,q⟩:=ok a _ Z;rw [kp a o' O] at ho;cases ho;rw [hd] at q;cases I with
  | cons x1 I=>
   cases I with
   | cons x2 I=>
    cases I;obtain ⟨t1,rfl⟩:=x1;obtain ⟨t2,rfl⟩:=x2;injection q with J _
    have q:=congrArg eY J;simp only [iP,Value.int.injEq,Value.str.injEq] at q;obtain ⟨⟨q1,_⟩,⟨q2,_⟩,_⟩:=q;exact ⟨.ref a :: ds,.cons rfl d1,.cons ⟨a,rfl,by rw [Z,q1,q2]⟩ d2⟩
theorem Q7d (hc:X.calm=zb):Wz X (.builtin "sorted") (λxs H Q=>∃ p bs,∃ ns:List (Int × Str),xs=[.ref p]/\H p=zo (Q5m X.w p bs)/\bs.length < 64/\aR (λb (n:Int × Str)=>H b=zo (.tup [.int n.1,.str n.2])) bs ns/\∀ d ds,H d=zl->aR (λ(v:V) (n:Int × Str)=>∃ b,v=.ref b/\H b=zo (.tup [.int n.1,.str n.2])) ds (Ur ns)->Q (.ref d) (upd H d (.lst ds))):=by
 intro pins s σ H xs us Q I r h;obtain ⟨p,bs,ns,rfl,hp,hl,J,q⟩:=h;obtain ⟨u,rfl,rx⟩:=Uq r;cases rx;obtain ⟨⟨o,es,ep,t,ho,hx,hd,Y,hf,hg⟩,_,_⟩:=I.hok p _ hp;have hz:es.size=bs.length:=by
  have:=congrArg cy Y;simpa using this
 refine Q7x (I.ok.hd hc) ⟨o,ho,hx,hd⟩ hf hg (by rw [Y]; exact Qh8 I.hok J) (by omega) λG h' d' tk D k a1 O a3 a4 a5=>?_
 rw [Y] at O;obtain ⟨ds,Z,d2⟩:=Qhq I.hok a5 J a1 λv hv=>O.mem_iff.mp hv
 have a7:G.length=bs.length:=by rw [O.length_eq,O0]
 have a6:ds.length=G.length:=Z.length;exact ⟨.ref D,upd H D (.lst ds),Inv.redraw (I.laid (t':=tk) (o:=.lst ds) a5 a3 ⟨by rw [sizeLine_eq]; omega,G,k,Z,a4⟩) d',rfl,q D ds (I.hok.fresh a3) d2⟩
end L2
namespace L2
open PySem PySem.Spec PyProof.Rows
variable {R:Result->aC->Prop}
theorem Qnx:typeLookup (.type "list_reverseiterator") "__len__" = pure zl:=by rw [typeLookup_type,builtinLookup_eq_fast]; kernel_rfl
theorem Qie:typeLookup (.type "list_reverseiterator") "__length_hint__" = pure (zo (.builtin "list_reverseiterator.__length_hint__")):=by rw [typeLookup_type,builtinLookup_eq_fast]; kernel_rfl
variable {prog:aK} {A:aL} {E:zAD} {s:aC}
section
variable {w:aJ}
theorem Qj0 {I l:aB} {i:Int} {Q:Bool->aC->Prop} (G:s.heap.IsRevIter I l i) (h:Q yo s):aF (aI prog w) A (Builtin.List.listLengthHint (.ref I)) Q E s:=by
 unfold Builtin.List.listLengthHint;refine aD (wpAny_specialOf G.typeIs Qnx ?_);refine bE (λq=>absurd q (by decide)) (λ_=>?_)
 refine bE (λq=>absurd q (by decide)) (λ_=>?_)
 refine aD (wpAny_specialOf G.typeIs Qie ?_);generalize hid:("list_reverseiterator.__length_hint__" : String)=J
 wp_delta
 rw [show splitId J=zo ("list_reverseiterator", "__length_hint__") from by subst hid; decide +kernel];subst hid;refine aD (bJ (T := "list_reverseiterator") (b:=zb) G.typeIs (by rw [bQ]; kernel_rfl) ?_);refine bE (λq=>absurd q (by decide)) (λ_=>?_)
 refine bE (λ_=>?_) (λq=>absurd (by decide +kernel) q)
 refine bE (λq=>absurd q (by decide +kernel)) (λ_=>?_)
 exact wpAny_pure h
theorem Qbd {R:Result->aC->Prop} {I l:aB} {q:Array aA} (hh:A.handled=zl) (Y:s.heap.IsRevIter I l ((q.size:Int) - 1)) (hl:s.heap.IsList l q) (b0:q.size<=2 ^ 24) (S:aB) (res:aA) (O:Nat) (hS:s.heap.get? S=zo { cls:=.type "list",data:=.seq #[] O }) (a9:S≠l)
  (hR:∀ h' tk G Z,(∀ b o,b≠S->b≠I->s.heap.get? b=zo o->h'.get? b=zo o)->h'.get? S=zo { cls:=.type "list",dict:=zl,data:=.seq G Z,slots:=#[] } ->
   ItemsOf (λi v=>q[q.size - 1 - i]?=zo v) G q.size->R (.ok (.ret res)) { s with heap:=h',toks:=tk }) :
  aF (aI prog w) A.in1 (Builtin.List.listExtendWith (.ref S) (.ref I) res)
   (λfin s'=>match fin with | .done f=>R (.ok f) s' | .again Z=>Z.quiet=zb/\codeAny (aI prog w) A Z R s') (λe s'=>R (.error e) s') s:=by
 have a2:S≠I:=λe=>by
  obtain ⟨o,h1,h2,_⟩:=Y;rw [<- e,hS] at h1; cases h1;have h2:bj "list" = bj "list_reverseiterator" := h2;exact absurd h2 (by decide)
 have a3:l≠I:=λe=>by
  obtain ⟨o,h1,h2,_⟩:=Y;obtain ⟨o',g1,g2,_⟩:=hl;rw [e,h1] at g1; cases g1;rw [h2] at g2; exact absurd g2 (by decide)
 have a8:S∉[I,l]:=λhm=>by
  simp at hm;rcases hm with e | e
  ·exact a2 e
  ·exact a9 e
 have W:=(Walks.listRev (prog:=prog) (w:=w) (A:=A.in1) hh I l a3 q).toS;have a6:(0:Nat)<=q.size/\s.heap.IsRevIter I l ((q.size:Int) - 1 - ((0:Nat):Int))/\s.heap.IsList l q:=⟨F8 _,by simpa using Y,hl⟩;unfold Builtin.List.listExtendWith;refine aD (bB (T := "list_reverseiterator") Y.typeIs ?_);have h1:Builtin.List.listSameRef (.ref S) (.ref I)=yo:=by simp [Builtin.List.listSameRef,a2]
 have h2:(bj "list_reverseiterator" == bj "list")=yo:=by decide
 have h3:(bj "list_reverseiterator" == bj "tuple")=yo:=by decide
 simp only [h1,h2,h3,cz,E7,if_false];refine aD (wpAny_pyIter_revIter Y ?_);refine aD (ak (Qj0 Y ?_));refine bE (λa4=>absurd a4 (by decide)) (λ_=>wpAny_pure ⟨bD F.plain_extend_loop _,?_⟩)
 refine codeAny_extend_loopS W (by rw [sizeLine_eq]; omega) S a8 res q.size 0 _ #[] O rfl (F8 _) a6 hS (ItemsOf.nil _) λs' G Z hm a5 a1=>?_
 rw [Moved.eq_with hm];refine hR s'.heap s'.toks G Z (λb o hb a7 e=>hm.heap b o (λJ=>?_) e) a5 a1
 rcases D6.mp J with e' | J
 ·exact hb e'
 ·exact a7 (by simpa using J)
theorem Qis {R:Result->aC->Prop} {I l:aB} {q:Array aA} (hh:A.handled=zl) (hr:s.heap.IsRevIter I l ((q.size:Int) - 1)) (hl:s.heap.IsList l q) (a1:q.size<=2 ^ 24) (S:aB) (hS:s.heap.get? S=zo { cls:=.type "list",data:=.seq #[] }) (a2:S≠l)
  (hR:∀ h' tk G Y,(∀ b o,b≠S->b≠I->s.heap.get? b=zo o->h'.get? b=zo o)->h'.get? S=zo { cls:=.type "list",dict:=zl,data:=.seq G Y,slots:=#[] } ->
   ItemsOf (λi v=>q[q.size - 1 - i]?=zo v) G q.size->R (.ok (.ret .none)) { s with heap:=h',toks:=tk }) :
  aF (aI prog w) A.in1 (Builtin.«list.__init__» ⟨[.ref S,.ref I],[]⟩)
   (λfin s'=>match fin with | .done f=>R (.ok f) s' | .again Y=>Y.quiet=zb/\codeAny (aI prog w) A Y R s') (λe s'=>R (.error e) s') s:=by
 have a5:S≠I:=λe=>by
  obtain ⟨o,h1,h2,_⟩:=hr;rw [<- e,hS] at h1; cases h1;exact absurd h2 (by decide)
 show aF _ _ (do let old <- Builtin.List.listItems (.ref S); Builtin.List.listUpdate (.ref S) (λ_=>#[]); letGo old.toList.reverse; Builtin.List.listExtendWith (.ref S) (.ref I) .none) _ _ s;refine aD ?_;unfold Builtin.List.listItems;refine aD (aq hS rfl (wpAny_pure ?_));show aF _ _ (updateSeq S (λ_=>#[]) >>= λ_=>letGo (#[]:Array aA).toList.reverse >>= λ_=>Builtin.List.listExtendWith (.ref S) (.ref I) .none) _ _ s
 refine aD (wpAny_updateSeq hS rfl ?_);have O:=G9 (bp (λ_=>(#[]:Array aA))) hS rfl
 have J:∀ b o,b≠S->s.heap.get? b=zo o->(s.heap.update S (bp (λ_=>(#[]:Array aA)))).get? b=zo o:=
  λb o hb e=>(F6 _ _ (Ne.symm hb)).trans e
 refine aD (wpAny_letGo ?_);refine Qbd hh (hr.at λo e=>J I _ (Ne.symm a5) e) (hl.at λo e=>J l _ (Ne.symm a2) e) a1 S .none _ O a2 λh' tk G Y hk a3 Z=>?_
 exact hR h' tk G Y (λb o hb a4 e=>hk b o hb a4 (J b o hb e)) a3 Z
theorem Q4w {Q:zAD} {I l:aB} {q:Array aA} (hh:A.handled=zl) (hr:s.heap.IsRevIter I l ((q.size:Int) - 1)) (hl:s.heap.IsList l q) (Z:q.size<=2 ^ 24)
  (hQ:∀ h' tk G c',(∀ b o,b≠I->s.heap.get? b=zo o->h'.get? b=zo o) ->
   h'.get? s.heap.objs.size=zo { cls:=.type "list",dict:=zl,data:=.seq G c',slots:=#[] }->ItemsOf (λi v=>q[q.size - 1 - i]?=zo v) G q.size->Q (.ref s.heap.objs.size) { s with heap:=h',toks:=tk }) :
  aF (aI prog w) A (call (.type "list") [.ref I]) Q E s:=by
 refine callType_codes (Q₁:=λobj J=>obj=.ref s.heap.objs.size/\J={ s with heap:=s.heap.push { cls:=.type "list",data:=.seq #[] } }) F.called_list (F.typeCall_list_1 _) F.entry_list_init
  (code_list_new _ ⟨rfl,rfl⟩) λobj J Y=>?_
 obtain ⟨rfl,rfl⟩:=Y;have hS:(s.heap.push { cls:=.type "list",data:=.seq #[] }).get? s.heap.objs.size=zo { cls:=.type "list",data:=.seq #[] }:=O9 _ rfl;have a2:l < s.heap.objs.size:=let ⟨o,h1,_⟩:=hl; O7 h1;refine ⟨⟨_,hS,rfl⟩,F.args_list_init_2 _ _,Qis (A:=A.in1) hh (hr.at λo e=>O1 _ e) (hl.push _) Z _ hS (L9 a2) λh' tk G c' hk a1 O=>?_⟩
 exact ⟨rfl,hQ h' tk G c' (λb o hb e=>hk b o (D8 (O7 e)) hb (O1 _ e)) a1 O⟩
end
theorem Qfn {xs:List V} {its:List aA} (r:Vals xs its) {acc:List aA} (G:acc.length=its.length) (h:∀ (j:Nat) (v:aA),acc[j]?=zo v->its[its.length - 1 - j]?=zo v):Vals xs.reverse acc:=by
 have:acc=its.reverse:=by
  apply cS;intro j
  by_cases q:j < acc.length
  ·have e:=h j acc[j] (O2 q);rw [O2 q,List.getElem?_reverse (by omega),e]
  ·rw [L0 (by omega),L0 (by rw [eM]; omega)]
 subst this;clear G h
 induction r with
 | nil=>exact .nil
 | cons a _ I=>rw [dX,dX]; exact I.append (.cons a .nil)
def Qz7 (ta:TA):TE:=λσ H Q=>ta σ H λvs H1=>∃ l ys,vs=[.ref l]/\H1 l=zo (.lst ys)/\ys.length<=1000000/\∀ p,H1 p=zl->Q (.ref p) (upd H1 p (.lst ys.reverse))
variable {X:Cx} {a:aH} {ta:TA} {p p' pos pos':Pos}
theorem Qan (hc:X.calm=zb) (hg:Gl X "list") (hm:X.mg "list" = zl) (a1:Gl X "reversed") (a2:X.mg "reversed" = zl) (hb:aX "list" = zo (.type "list")) (a5:aX "reversed" = zo (.type "reversed")) (ha:PA X [a] ta) (hs:aN [a] X.env=[(yo,aO a X.env)]:=by rfl)
  (Y:aN [.Call (.Name "reversed" p') [a] [] pos'] X.env=[(yo,aO (.Call (.Name "reversed" p') [a] [] pos') X.env)]:=by rfl) :
  PE X (.Call (.Name "list" p) [.Call (.Name "reversed" p') [a] [] pos'] [] pos) (Qz7 ta):=by
 intro pins s σ H Q I h;refine wpAny_Call_Name_kw (qu I hg hm hb ?_ (by decide) (by decide));refine cw ?_ Y rfl;rw [Y];refine Calls.spliced_cons ?_;refine Call_ (qu I a1 a2 a5 (cw (thn (ha pos' pins s σ H _ I h) λus s1 ⟨vs,H1,O,r1,q1⟩=>?_) hs rfl))
 obtain ⟨l,ys,rfl,hq,hn,q⟩:=q1;cases r1 with
 | cons r rr=>
  cases rr;cases r;obtain ⟨a4,its,n,r',a7,a3⟩:=O.lstM hq;have hL:s1.heap.IsList l its.toArray:=⟨_,a3,rfl,n,rfl⟩;have a6:ys.length=its.length:=Vals.length r';refine call_reversed_list hL ?_;refine Calls.spliced_nil ?_;have I2:Inv X pins σ H1 { s1 with heap:=s1.heap.push (revObj l ((its.toArray.size:Int) - 1)) }:=O.kept (t':=s1.toks) λb ob q=>O1 _ q
  have Z:(s1.heap.push (revObj l ((its.toArray.size:Int) - 1))).IsRevIter s1.heap.objs.size l ((its.toArray.size:Int) - 1):=⟨_,O9 _ rfl,rfl,rfl⟩;refine Q4w (O.ok.hd hc) Z (hL.push _) (by rw [D0]; omega) λh' tk J c' hk hS G=>?_
  have hv:Vals ys.reverse J.toList:=Qfn r' (by rw [be,G.1,D0]) λj v hj=>by
   have:=G.2 j v (by simpa using hj);simpa using this
  have hsz:(s1.heap.push (revObj l ((its.toArray.size:Int) - 1))).objs.size=s1.heap.objs.size + 1:=F1 _ _;refine ⟨.ref _,_,O.laid (t':=tk) (o:=.lst ys.reverse) (λb u e=>hk b u (D8 (O7 e)) (O1 _ e)) (by rw [hsz]; omega) ?_,rfl,q _ (O.hok.fresh (by rw [hsz]; omega))⟩;exact ⟨by rw [eM]; exact a4,J.toList,c',hv,by simpa using hS⟩
end L2
namespace L2
open PySem PySem.Spec PyProof.Rows SeqAt
theorem Qbq {X:Cx} (hu:X.A.units + 9 < aQ) (hc:X.calm=zb):Wz X (.type "dict") (λxs H Q=>∃ p,∃ us,∃ ps:List (HK × aB × V),xs=[.ref p]/\H p=zo (.lst us)/\aR (λv (z:HK × aB × V)=>∃ c,v=.ref c/\H c=zo (.tup [.ref z.2.1,z.2.2])/\KR H z.1 z.2.1) us ps/\ps.length<=sizeLine /\
  ∀ d,H d=zl->Q (.ref d) (upd H d (.dT (putAll [] ps)))):=by
 intro pins s σ H xs c5 Q I rx h;obtain ⟨p,us,ps,rfl,hq,b9,hl,q⟩:=h;obtain ⟨u,rfl,ru⟩:=Uq rx;cases ru;obtain ⟨b4,its,n,r',c0,a4⟩:=I.lstM hq;obtain ⟨O,b0,J⟩:∃ O:List (HK × aB × aA),aR (λ(p:HK × aB × V) (q:HK × aB × aA)=>p.1=q.1/\p.2.1=q.2.1/\KR H p.1 p.2.1/\RelV p.2.2 q.2.2) ps O/\(its.length=O.length/\∀ (i:Nat) (v:aA) (p:HK × aB × aA),its[i]?=zo v->O[i]?=zo p->Q7m X.prog X.w s.heap v p):=by
  have hok:=I.hok;clear q hl a4 hq b4 c0
  induction b9 generalizing its with
  | nil=>cases r'; exact ⟨[],.nil,rfl,λi v p h=>by simp at h⟩
  | cons h1 _ ih=>
   cases r' with
   | cons y1 y2=>
    obtain ⟨O,a1,a2,a3⟩:=ih _ y2;obtain ⟨c,rfl,b5,hk⟩:=h1;cases y1;obtain ⟨_,c3,rj,ht⟩:=hok c _ b5;cases rj with
    | cons x1 rj=>
     cases rj with
     | cons x2 rj=>
      cases rj;cases x1;rename_i zz _ _ _ _ vv;refine ⟨(_,_,vv) :: O,.cons ⟨rfl,rfl,hk,x2⟩ a1,by simp [a2],λi v p e1 e2=>?_⟩
      cases i with
      | zero=>
       simp at e1 e2;subst e1; subst e2;exact ⟨c,rfl,ht,V7 hok hk⟩
      | succ i=>exact a3 i v p (by simpa using e1) (by simpa using e2)
 have c2:ps.length=O.length:=Paired.length b0;have hh:=I.ok.hd hc;refine callType_codes (Q₁:=λobj Y=>obj=.ref s.heap.objs.size/\Y={ s with heap:=s.heap.push { cls:=.type "dict",data:=.dict #[] } }) F.kt_called_dict (F.kt_typeCall_dict_1 _) F.entry_dict_init (kt_code_dict_new _ ⟨rfl,rfl⟩) ?_;rintro obj Y ⟨rfl,rfl⟩;have a7:(s.heap.push { cls:=.type "dict",data:=.dict #[] }).DictOfH (nk X.prog X.w) s.heap.objs.size []:=Heap.DictOfH.new s.heap;have a9:Shared.TypeIs { s with heap:=s.heap.push { cls:=.type "dict",data:=.dict #[] } } (.ref s.heap.objs.size) "dict" := ⟨_,O9 _ rfl,rfl⟩;refine ⟨a9,F.args_dict_init_2 _ _,?_⟩;have Z:=O1 { cls:=.type "dict",data:=.dict #[] } a4;unfold Builtin.«dict.__init__»;refine aD ?_;unfold Builtin.Dict.selfAndRest;refine aD (wpAny_notOrdered_dict a9 ?_);show aF _ _ (pure (s.heap.objs.size,[bZ p])) _ _ _;refine wpAny_pure ?_
 show aF _ _ (Builtin.Dict.updateFrom "dict.__init__" s.heap.objs.size (.ref p) [] .none) _ _ _;unfold Builtin.Dict.updateFrom;refine aD (bB (T := "list") ⟨_,Z,rfl⟩ ?_);rw [bT (by decide)];refine aD (z8 Z (by simpa using hh) λh2 c4 G=>?_)
 rw [bT (by rfl)];have b1:=G _ _ Z;have a8:h2.IsList p its.toArray:=⟨_,b1,rfl,n,rfl⟩;have k0:∀ b o,s.heap.get? b=zo o->h2.get? b=zo o:=λb o e=>G b o (O1 _ e)
 have a5:h2.DictOfH (nk X.prog X.w) s.heap.objs.size []:=jp a7 (λo e=>G _ _ e) λa its x=>let ⟨o',x1,x2⟩:=x; ⟨o',G _ _ x1,x2⟩
 have a6:s.heap.objs.size < h2.objs.size:=by
  obtain ⟨o,es,ep,ho,r⟩:=a5;exact O7 ho
 refine aD (aD (m:=rule _) (bH (wpAny_pure (aD (wpAny_pyIter_list a8 ?_)))));refine wpAny_pure ⟨bD Zp _,?_⟩;have sb:∀ (h2:Heap) (o:Obj),∀ a its,IsTup h2 a its->IsTup (h2.push o) a its:=λh2 o a its x=>let ⟨o',x1,x2⟩:=x; ⟨o',O1 _ x1,x2⟩
 refine Q50 (A:=X.A.in1) (I:=h2.objs.size) (l:=p) (D:=s.heap.objs.size) (xs:=[]) (ps:=O) (h0:=s.heap) (by show X.A.units + 1 + 1 + 5 < aQ; omega) (by simpa using hh) (D8 (O7 b1)) (D8 a6) (L9 (O7 a4)) (λb o e=>D8 (O7 (k0 b o e))) (λits x=>by
   obtain ⟨o',x1,_⟩:=x;exact absurd (O7 x1) (L4 _))
  (by rw [D0]; exact J.1) (λi v p e1 e2=>J.2 i v p (by simpa using e1) e2) (by simp only [cG]; omega) (its.toArray.size - 0) 0 _ rfl (F8 _) ⟨⟨_,O9 _ rfl,rfl,rfl⟩,a8.push _⟩ (λb o _ e=>O1 _ (k0 b o e)) ?dk λh' tk d k=>?_
 case dk=>exact jp a5 (λo e=>O1 _ e) (sb _ _)
 obtain ⟨q1,es,ep,b3,b2,b7,b8,_,c1⟩:=d;have b6:∀ b o,s.heap.get? b=zo o->h'.get? b=zo o:=λb o e=>k b o (D8 (O7 e)) e
 refine ⟨rfl,.ref s.heap.objs.size,_,I.laid (t':=tk) (o:=.dT (putAll [] ps)) b6 (O5 _) ⟨?_,beq_eq_false_iff_ne.mpr (Ne.symm (D8 I.big)),_,((show KT H [] [] from .nil).putAll b0).keeps λc ys ec=>?_,q1,es,ep,b3,b2,b7,b8,c1⟩,rfl,q _ (I.hok.fresh (O5 _))⟩
 ·have:=Q2u [] ps; simp only [cG] at this; omega
 ·have:c≠s.heap.objs.size:=λe=>by
   have:=I.hok.fresh (a:=s.heap.objs.size) (O5 _);rw [<- e,ec] at this; cases this
  rw [Qa this];exact ec
end L2
namespace L2
open PySem PySem.Spec PyProof.Rows
section
open PySem.SeqAt
open PySem.AutoSeq1 (wpAny_loadPart')
open PySem.MeetsSeq PySem.MeetsSeq2 PySem.MeetsSeq3
theorem Qgu (A:aL) (s:aC) (a c:Str) (t u:Tok) (prog:aK) (w:aJ) (E:zAD) (Q:zAD) (h:Q (.bool (Xk a c)) s) :
  aF (aI prog w) A (richCompare .Lt (.str a t) (.str c u)) Q E s:=
 (ir h:aF (aI prog w) A (aS .Lt (.str a t) (.str c u)) Q E s)
theorem Q4i (l b:aB) (p q:Int × Str) (t u t' u':Tok) (n n2:Nat) (dd a2:Option aB) (sl a1:Array (Option aA)) :
  Meets (Builtin.«tuple.__lt__» ⟨[.ref l,.ref b],[]⟩)
   (λ_ R s=>s.heap.get? l=zo { cls:=.type "tuple",dict:=dd,data:=.seq #[.int p.1 t,.str p.2 u] n,slots:=sl }/\s.heap.get? b=zo { cls:=.type "tuple",dict:=a2,data:=.seq #[.int q.1 t',.str q.2 u'] n2,slots:=a1 } /\
    R (.ok (.ret (.bool (Zh p q)))) s):=
 .of_wp λprog w A R s h=>by
  obtain ⟨hp,g,d,tk,os⟩:=s; obtain ⟨hl,hb,h⟩:=h;have f2:=AutoSeq1.sub_tuple_tuple
  wp_walk using wpAny_loadPart' hl,wpAny_loadPart' hb,wpAny_forIn_list _ (λ(rest:List (aA × aA)) b s'=>b.1=zl/\s'=⟨hp,g,d,tk,os⟩/\(rest=[(.int p.1 t,.int q.1 t'),(.str p.2 u,.str q.2 u')]\/(rest=[(.str p.2 u,.str q.2 u')]/\p.1=q.1)\/(rest=[]/\p.1=q.1/\p.2=q.2))) _
  case turn=>
   rintro ⟨y,x⟩ rest b s' ⟨O,rfl,hz⟩;rcases hz with hz | ⟨hz,h1⟩ | ⟨hz,_⟩
   ·injection hz with J G
    injection J with hy hx
    subst hy hx;obtain ⟨e,he,I⟩:=HT.eqAt_int A.in1 ⟨hp,g,d,tk,os⟩ p.1 t q.1 t';refine aD (he prog w _ _ ?_);cases e with
    | true=>
     wp_walk
     exact ⟨rfl,rfl,.inr (.inl ⟨G,I.mp rfl⟩)⟩
    | false=>
     have Y:¬ p.1=q.1:=λz=>absurd (I.mpr z) D2
     unfold Zh at h;rw [bU Y] at h;have Z:=HT.rcLt_int A.in1 ⟨hp,g,d,tk,os⟩ p.1 t q.1 t' prog w
     wp_walk using Z
     exact ⟨_,rfl,by simpa using h⟩
   ·injection hz with J G
    injection J with hy hx
    subst hy hx;have he:=SeqAt.EqAt.str_str (A:=A.in1) (s:=⟨hp,g,d,tk,os⟩) p.2 u q.2 u';refine aD (he prog w _ _ ?_);cases e:(p.2 == q.2) with
    | true=>
     wp_walk
     exact ⟨rfl,rfl,.inr (.inr ⟨G,h1,by simpa using e⟩)⟩
    | false=>
     have Y:¬ p.2=q.2:=by simpa using e
     unfold Zh at h;rw [bT h1,bU Y] at h;have Z:=Qgu A.in1 ⟨hp,g,d,tk,os⟩ p.2 q.2 u u' prog w
     wp_walk using Z
     exact ⟨_,rfl,by simpa using h⟩
   ·cases hz
  case fin=>
   rintro ⟨b1,b2⟩ s' ⟨O,rfl,hz⟩;simp only at O;subst O;rcases hz with hz | ⟨hz,_⟩ | ⟨_,h1,h2⟩
   ·cases hz
   ·cases hz
   ·unfold Zh at h;rw [bT h1,bT h2] at h
    wp_walk
    exact ⟨_,rfl,by simpa [Builtin.Tuple.tupleCompareSizes] using h⟩
  case h=>
   exact ⟨rfl,rfl,.inl rfl⟩
end
variable {X:Cx}
theorem Qsx (hu:X.A.units < aQ):OpR X (aS .Lt) (λx y H Q=>∃ a b p q,x=.ref a/\y=.ref b/\H a=zo (.tup [.int p.1,.str p.2])/\H b=zo (.tup [.int q.1,.str q.2])/\Q (.bl (Zh p q)) H):=by
 intro pins s σ H x y v u Q I rx ry h;obtain ⟨a,b,p,q,rfl,rfl,ha,hb,k⟩:=h;cases rx;cases ry;obtain ⟨_,its,J,p1⟩:=I.hok a _ ha;obtain ⟨_,a1,G,p2⟩:=I.hok b _ hb;cases J with
 | cons x1 J=>cases J with
  | cons x2 J=>
   cases J;obtain ⟨t,rfl⟩:=x1;obtain ⟨u,rfl⟩:=x2;cases G with
   | cons y1 G=>cases G with
    | cons y2 G=>
     cases G;obtain ⟨t',rfl⟩:=y1;obtain ⟨u',rfl⟩:=y2;obtain ⟨⟨cls,dd,data,sl⟩,ho,hc,n,hd⟩:=p1;obtain ⟨⟨Z,Y,data2,O⟩,ho2,hc2,n2,hd2⟩:=p2;simp only at hc hd hc2 hd2;subst hc hd hc2 hd2;exact richCompare_meets_room (op:=.Lt) ⟨_,ho,rfl⟩ ⟨_,ho2,rfl⟩ gG gH (gI _ _) (Q4i a b p q t u t' u' n n2 dd Y sl O)
      ⟨ho,ho2,show cm (Zh p q)≠fC/\_ from ⟨(λx=>nomatch x),⟨.bl (Zh p q),H,I,rfl,k⟩⟩⟩ hu
end L2
namespace Sm
open PySem PySem.Spec L2
variable {H H':Hp} {p a:aB} {o:HO} {hs:List aB} {v:V} {vs:List V} {κ:Type} {σ:St} {e:aH} {es:List aH} {f:aA->aA->Sem aA} {Q:Bool->Hp->Prop} {D:Ends}
section
inductive PV where
 | non | bl (b:Bool) | int (i:Int) | str (x:Str) | tup (xs:List PV) | lst (xs:List PV) | fro (xs:List PV) | ref (i:Nat) | dic
variable {ps:List PV}
inductive Cell where
 | lst (xs:List PV) | dic (kvs:List (Key × PV)) | dtp (kvs:List (HK × PV)) | frd (kvs:List (Key × PV))
 | obj (C:aB) (fs:List (Str × PV))
variable {cl:Cell}
abbrev Q0:=List Cell
variable {st:Q0}
structure Exc where
 cls:Str
 fs:Option (Str × PV):=zl
inductive Res (α:Type) where
 | ok (a:α) (st:Q0) | exc (x:Exc) (st:Q0) | stuck
abbrev Gam:=List (Option PV)
variable {Γ:Gam} {m:Gam->Q0->Res Bool}
abbrev ME:=Gam->Q0->Res PV
structure Tk where
 tr:List aB
 hid:List aB
variable {ρ:Tk} {P:Bool->Q0->Hp->Tk->Prop}
instance:Membership aB Tk:=⟨λt a=>a∈t.tr\/a∈t.hid⟩
def Tk.nil:Tk:=⟨[],[]⟩
theorem Tk.not_nil (a:aB):a∉Tk.nil:=λz=>by rcases z with z | z <;> cases z
def Tk.add (t:Tk) (p:aB):Tk:=⟨t.tr ++ [p],t.hid⟩
def Tk.hide (t:Tk) (p:aB):Tk:=⟨t.tr,p :: t.hid⟩
mutual
def Rep (H:Hp) (ρ:Tk):PV->V->Prop
 | .non,v=>v=.non
 | .bl b,v=>v=.bl b
 | .int i,v=>v=.int i
 | .str x,v=>v=.str x
 | .tup ps,v=>∃ a vs,v=.ref a/\H a=zo (.tup vs)/\a∉ρ/\RepL H ρ ps vs
 | .lst ps,v=>∃ a vs,v=.ref a/\H a=zo (.lst vs)/\a∉ρ/\RepL H ρ ps vs
 | .fro ps,v=>∃ a vs,v=.ref a/\Rd H a (.lst vs)/\a∉ρ/\RepL H ρ ps vs
 | .ref i,v=>∃ a,ρ.tr[i]?=zo a/\v=.ref a
 | .dic,v=>∃ a,v=.ref a/\H a=zo (.dK [])/\a∉ρ
def RepL (H:Hp) (ρ:Tk):List PV->List V->Prop
 | [],vs=>vs=[]
 | p :: ps,vs=>∃ v r,vs=v :: r/\Rep H ρ p v/\RepL H ρ ps r
end
structure Ext (H:Hp) (ρ:Tk) (H':Hp) (ρ':Tk):Prop where
 pre:ρ.tr <+: ρ'.tr
 hidM:∀ a,a∈ρ.hid->a∈ρ'.hid
 hidN:∀ a,a∈ρ'.hid->a∈ρ.hid\/H a=zl
 keep:∀ a o,H a=zo o->a∉ρ.tr->H' a=zo o
 new:∀ a,a∈ρ'.tr->a∈ρ.tr\/H a=zl
 old:∀ a o,H a=zo o->∃ o',H' a=zo o'
 frz:∀ a o u,H a=zo (.frz o u)->H' a=zo (.frz o u)
theorem Ext.refl (H:Hp) (ρ:Tk):Ext H ρ H ρ:=⟨dJ _,λ_ h=>h,λ_ h=>.inl h,λ_ _ h _=>h,λ_ h=>.inl h,λ_ o h=>⟨o,h⟩,λ_ _ _ h=>h⟩
theorem Ext.trans {H1 H2:Hp} {ρ1 G:Tk} (a:Ext H ρ H1 ρ1) (b:Ext H1 ρ1 H2 G):Ext H ρ H2 G where
 pre:=a.pre.trans b.pre
 hidM:=λx h=>b.hidM x (a.hidM x h)
 hidN:=λx h=>by
  rcases b.hidN x h with z | z
  ·exact a.hidN x z
  ·right
   cases q:H x with
   | none=>rfl
   | some o=>
    obtain ⟨o',e⟩:=a.old x o q;rw [e] at z; cases z
 keep:=λx o h n=>b.keep x o (a.keep x o h n) λz=>by
  rcases a.new x z with z | z
  ·exact n z
  ·rw [h] at z; cases z
 new:=λx h=>by
  rcases b.new x h with z | z
  ·exact a.new x z
  ·right
   cases q:H x with
   | none=>rfl
   | some o=>
    obtain ⟨o',e⟩:=a.old x o q;rw [e] at z; cases z
 old:=λx o h=>by
  obtain ⟨o',e⟩:=a.old x o h;exact b.old x o' e
 frz:=λx o u h=>b.frz x o u (a.frz x o u h)
theorem Ext.add (h:H p=zl):Ext H ρ (upd H p o) ρ where
 pre:=dJ _
 hidM:=λ_ h=>h
 hidN:=λ_ h=>.inl h
 keep:=λa u e _=>by rw [Qa (Qc e h)]; exact e
 new:=λa e=>.inl e
 old:=λa u e=>⟨u,by rw [Qa (Qc e h)]; exact e⟩
 frz:=λa o u e=>by rw [Qa (Qc e h)]; exact e
theorem Ext.addT (h:H p=zl):Ext H ρ (upd H p o) (ρ.add p) where
 pre:=eN _ _
 hidM:=λ_ h=>h
 hidN:=λ_ h=>.inl h
 keep:=λa u e _=>by rw [Qa (Qc e h)]; exact e
 new:=λa e=>by
  rcases E3.mp e with z | z
  ·exact .inl z
  ·right
   have:a=p:=by simpa using z
   rw [this]; exact h
 old:=λa u e=>⟨u,by rw [Qa (Qc e h)]; exact e⟩
 frz:=λa o u e=>by rw [Qa (Qc e h)]; exact e
theorem Ext.same (h:Same H H'):Ext H ρ H' ρ:=⟨dJ _,λ_ h=>h,λ_ h=>.inl h,λa o e _=>h a o e,λ_ e=>.inl e,λa o e=>⟨o,h a o e⟩,λa o u e=>h a _ e⟩
section
variable {H H':Hp} {ρ ρ':Tk}
theorem Xt (x:Ext H ρ H' ρ') (h:H a=zo o) (n:a∉ρ):a∉ρ':=λz=>by
 rcases z with z | z
 ·rcases x.new a z with z | z
  ·exact n (.inl z)
  ·rw [h] at z; cases z
 ·rcases x.hidN a z with z | z
  ·exact n (.inr z)
  ·rw [h] at z; cases z
theorem Ext.kp (x:Ext H ρ H' ρ') (h:H a=zo o) (n:a∉ρ):H' a=zo o:=x.keep a o h λz=>n (.inl z)
mutual
theorem Rep.ext (x:Ext H ρ H' ρ'):∀ {p:PV} {v:V},Rep H ρ p v->Rep H' ρ' p v
 | .non,_,h=>h
 | .bl _,_,h=>h
 | .int _,_,h=>h
 | .str _,_,h=>h
 | .tup ps,v,h=>by
  obtain ⟨a,vs,e,s,n,r⟩:=h;exact ⟨a,vs,e,x.kp s n,Xt x s n,RepL.ext x r⟩
 | .lst ps,v,h=>by
  obtain ⟨a,vs,e,s,n,r⟩:=h;exact ⟨a,vs,e,x.kp s n,Xt x s n,RepL.ext x r⟩
 | .fro ps,v,h=>by
  obtain ⟨a,vs,e,s,n,r⟩:=h;rcases s with s | ⟨o,s⟩
  ·exact ⟨a,vs,e,.inl (x.kp s n),Xt x s n,RepL.ext x r⟩
  ·exact ⟨a,vs,e,.inr ⟨o,x.kp s n⟩,Xt x s n,RepL.ext x r⟩
 | .ref i,v,h=>by
  obtain ⟨a,e,rfl⟩:=h;obtain ⟨t,q⟩:=x.pre;refine ⟨a,?_,rfl⟩;rw [<- q,O8 (O3.mp e).1];exact e
 | .dic,v,h=>by
  obtain ⟨a,e,s,n⟩:=h;exact ⟨a,e,x.kp s n,Xt x s n⟩
theorem RepL.ext (x:Ext H ρ H' ρ'):∀ {ps:List PV} {vs:List V},RepL H ρ ps vs->RepL H' ρ' ps vs
 | [],_,h=>h
 | p :: ps,vs,h=>by
  obtain ⟨v,r,e,h1,h2⟩:=h;exact ⟨v,r,e,Rep.ext x h1,RepL.ext x h2⟩
end
mutual
theorem Rep.hide (h:H a=zl):∀ {p:PV} {v:V},Rep H ρ p v->Rep (upd H a o) (ρ.hide a) p v
 | .non,_,r=>r
 | .bl _,_,r=>r
 | .int _,_,r=>r
 | .str _,_,r=>r
 | .tup ps,v,⟨b,vs,e,s,n,r⟩=>⟨b,vs,e,by rw [Qa (Qc s h)]; exact s,λz=>by
   rcases z with z | z
   ·exact n (.inl z)
   ·rcases D6.mp z with z | z
    ·exact Qc s h z
    ·exact n (.inr z),RepL.hide h r⟩
 | .lst ps,v,⟨b,vs,e,s,n,r⟩=>⟨b,vs,e,by rw [Qa (Qc s h)]; exact s,λz=>by
   rcases z with z | z
   ·exact n (.inl z)
   ·rcases D6.mp z with z | z
    ·exact Qc s h z
    ·exact n (.inr z),RepL.hide h r⟩
 | .fro ps,v,⟨b,vs,e,s,n,r⟩=>by
   have ne:b≠a:=by
    rcases s with s | ⟨_,s⟩
    ·exact Qc s h
    ·exact Qc s h
   refine ⟨b,vs,e,?_,λz=>?_,RepL.hide h r⟩
   ·rcases s with s | ⟨u,s⟩
    ·exact .inl (by rw [Qa ne]; exact s)
    ·exact .inr ⟨u,by rw [Qa ne]; exact s⟩
   ·rcases z with z | z
    ·exact n (.inl z)
    ·rcases D6.mp z with z | z
     ·exact ne z
     ·exact n (.inr z)
 | .ref i,v,r=>r
 | .dic,v,⟨b,e,s,n⟩=>⟨b,e,by rw [Qa (Qc s h)]; exact s,λz=>by
   rcases z with z | z
   ·exact n (.inl z)
   ·rcases D6.mp z with z | z
    ·exact Qc s h z
    ·exact n (.inr z)⟩
theorem RepL.hide (h:H a=zl):∀ {ps:List PV} {vs:List V},RepL H ρ ps vs->RepL (upd H a o) (ρ.hide a) ps vs
 | [],_,r=>r
 | p :: ps,_,⟨v,t,e,G,q⟩=>⟨v,t,e,Rep.hide h G,RepL.hide h q⟩
end
mutual
theorem Rep.rehide (h:a∈ρ.hid):∀ {p:PV} {v:V},Rep H ρ p v->Rep (upd H a o) ρ p v
 | .non,_,r=>r
 | .bl _,_,r=>r
 | .int _,_,r=>r
 | .str _,_,r=>r
 | .tup ps,v,⟨b,vs,e,s,n,r⟩=>⟨b,vs,e,by rw [Qa (show b≠a from λz=>n (.inr (by rw [z]; exact h)))]; exact s,n,RepL.rehide h r⟩
 | .lst ps,v,⟨b,vs,e,s,n,r⟩=>⟨b,vs,e,by rw [Qa (show b≠a from λz=>n (.inr (by rw [z]; exact h)))]; exact s,n,RepL.rehide h r⟩
 | .fro ps,v,⟨b,vs,e,s,n,r⟩=>by
   have ne:b≠a:=λz=>n (.inr (by rw [z]; exact h))
   refine ⟨b,vs,e,?_,n,RepL.rehide h r⟩;rcases s with s | ⟨u,s⟩
   ·exact .inl (by rw [Qa ne]; exact s)
   ·exact .inr ⟨u,by rw [Qa ne]; exact s⟩
 | .ref i,v,r=>r
 | .dic,v,⟨b,e,s,n⟩=>⟨b,e,by rw [Qa (show b≠a from λz=>n (.inr (by rw [z]; exact h)))]; exact s,n⟩
theorem RepL.rehide (h:a∈ρ.hid):∀ {ps:List PV} {vs:List V},RepL H ρ ps vs->RepL (upd H a o) ρ ps vs
 | [],_,r=>r
 | p :: ps,_,⟨v,t,e,G,q⟩=>⟨v,t,e,Rep.rehide h G,RepL.rehide h q⟩
end
mutual
theorem Rep.retr (h:a∈ρ.tr):∀ {p:PV} {v:V},Rep H ρ p v->Rep (upd H a o) ρ p v
 | .non,_,r=>r
 | .bl _,_,r=>r
 | .int _,_,r=>r
 | .str _,_,r=>r
 | .tup ps,v,⟨b,vs,e,s,n,r⟩=>⟨b,vs,e,by rw [Qa (show b≠a from λz=>n (.inl (by rw [z]; exact h)))]; exact s,n,RepL.retr h r⟩
 | .lst ps,v,⟨b,vs,e,s,n,r⟩=>⟨b,vs,e,by rw [Qa (show b≠a from λz=>n (.inl (by rw [z]; exact h)))]; exact s,n,RepL.retr h r⟩
 | .fro ps,v,⟨b,vs,e,s,n,r⟩=>by
   have ne:b≠a:=λz=>n (.inl (by rw [z]; exact h))
   refine ⟨b,vs,e,?_,n,RepL.retr h r⟩;rcases s with s | ⟨u,s⟩
   ·exact .inl (by rw [Qa ne]; exact s)
   ·exact .inr ⟨u,by rw [Qa ne]; exact s⟩
 | .ref i,v,r=>r
 | .dic,v,⟨b,e,s,n⟩=>⟨b,e,by rw [Qa (show b≠a from λz=>n (.inl (by rw [z]; exact h)))]; exact s,n⟩
theorem RepL.retr (h:a∈ρ.tr):∀ {ps:List PV} {vs:List V},RepL H ρ ps vs->RepL (upd H a o) ρ ps vs
 | [],_,r=>r
 | p :: ps,_,⟨v,t,e,G,q⟩=>⟨v,t,e,Rep.retr h G,RepL.retr h q⟩
end
mutual
theorem Rep.unhide (q:∀ a,a∈hs->a∈ρ.hid):∀ {p:PV} {v:V},Rep H ρ p v->Rep H ⟨ρ.tr,hs⟩ p v
 | .non,_,r=>r
 | .bl _,_,r=>r
 | .int _,_,r=>r
 | .str _,_,r=>r
 | .tup ps,v,⟨b,vs,e,s,n,r⟩=>⟨b,vs,e,s,λz=>n (z.imp id (q _)),RepL.unhide q r⟩
 | .lst ps,v,⟨b,vs,e,s,n,r⟩=>⟨b,vs,e,s,λz=>n (z.imp id (q _)),RepL.unhide q r⟩
 | .fro ps,v,⟨b,vs,e,s,n,r⟩=>⟨b,vs,e,s,λz=>n (z.imp id (q _)),RepL.unhide q r⟩
 | .ref i,v,r=>r
 | .dic,v,⟨b,e,s,n⟩=>⟨b,e,s,λz=>n (z.imp id (q _))⟩
theorem RepL.unhide (q:∀ a,a∈hs->a∈ρ.hid):∀ {ps:List PV} {vs:List V},RepL H ρ ps vs->RepL H ⟨ρ.tr,hs⟩ ps vs
 | [],_,r=>r
 | p :: ps,_,⟨v,t,e,I,G⟩=>⟨v,t,e,Rep.unhide q I,RepL.unhide q G⟩
end
theorem RepL.length:∀ {ps:List PV} {vs:List V},RepL H ρ ps vs->ps.length=vs.length
 | [],_,h=>by cases h; rfl
 | p :: ps,_,⟨v,r,rfl,_,h2⟩=>by rw [D3,D3,RepL.length h2]
theorem RepL.get:∀ {ps:List PV} {vs:List V} {i:Nat} {p:PV},RepL H ρ ps vs->ps[i]?=zo p->∃ v,vs[i]?=zo v/\Rep H ρ p v
 | [],_,_,_,_,e=>by simp at e
 | p :: ps,_,0,q,⟨v,r,rfl,h1,h2⟩,e=>by simp at e; subst e; exact ⟨v,rfl,h1⟩
 | p :: ps,_,i + 1,q,⟨v,r,rfl,h1,h2⟩,e=>by
  obtain ⟨u,G,I⟩:=RepL.get (i:=i) h2 (by simpa using e);exact ⟨u,by simpa using G,I⟩
theorem RepL.cons {p:PV} (h:Rep H ρ p v) (r:RepL H ρ ps vs):RepL H ρ (p :: ps) (v :: vs):=⟨v,vs,rfl,h,r⟩
theorem RepL.nil:RepL H ρ [] []:=rfl
theorem RepL.append:∀ {ps q:List PV} {vs us:List V},RepL H ρ ps vs->RepL H ρ q us->RepL H ρ (ps ++ q) (vs ++ us)
 | [],_,_,_,h,g=>by cases h; exact g
 | p :: ps,_,_,_,⟨v,r,rfl,h1,h2⟩,g=>⟨v,_,rfl,h1,RepL.append h2 g⟩
theorem RepL.take:∀ {ps:List PV} {vs:List V} (n:Nat),RepL H ρ ps vs->RepL H ρ (ps.take n) (vs.take n)
 | _,_,0,_=>rfl
 | [],_,n + 1,h=>by cases h; rfl
 | p :: ps,_,n + 1,⟨v,r,rfl,h1,h2⟩=>⟨v,_,rfl,h1,RepL.take n h2⟩
theorem RepL.drop:∀ {ps:List PV} {vs:List V} (n:Nat),RepL H ρ ps vs->RepL H ρ (ps.drop n) (vs.drop n)
 | _,_,0,h=>h
 | [],_,n + 1,h=>by cases h; rfl
 | p :: ps,_,n + 1,⟨v,r,rfl,h1,h2⟩=>RepL.drop n h2
theorem RepL.set {p:PV} (h:Rep H ρ p v):∀ {ps:List PV} {vs:List V} (i:Nat),RepL H ρ ps vs->RepL H ρ (ps.set i p) (vs.set i v)
 | [],_,_,g=>by cases g; rfl
 | q :: ps,_,0,⟨u,r,rfl,h1,h2⟩=>⟨v,r,rfl,h,h2⟩
 | q :: ps,_,i + 1,⟨u,r,rfl,h1,h2⟩=>⟨u,_,rfl,h1,RepL.set h i h2⟩
theorem RepL.rep (h:RepL H ρ ps vs):∀ n,RepL H ρ (bc n ps).flatten (bc n vs).flatten
 | 0=>rfl
 | n + 1=>by rw [cr,cr,dA,dA]; exact h.append (RepL.rep h n)
theorem RepL.toInts:∀ {ns:List Int} {vs:List V},RepL H ρ (ns.map .int) vs->vs=ns.map V.int
 | [],_,h=>h
 | n :: ns,_,⟨v,r,rfl,h1,h2⟩=>by
  have e:v=V.int n:=h1;rw [RepL.toInts h2,e]; rfl
theorem RepL.toBls:∀ {ns:List Bool} {vs:List V},RepL H ρ (ns.map .bl) vs->vs=ns.map V.bl
 | [],_,h=>h
 | n :: ns,_,⟨v,r,rfl,h1,h2⟩=>by
  have e:v=V.bl n:=h1;rw [RepL.toBls h2,e]; rfl
end
def RepD {κ:Type} (H:Hp) (ρ:Tk) (kvs:List (κ × PV)) (vs:List (κ × V)):Prop:=vs.map bq=kvs.map bq/\RepL H ρ (kvs.map ca) (vs.map ca)
theorem RepD.ext {ρ':Tk} {q:List (κ × PV)} {vs:List (κ × V)} (x:Ext H ρ H' ρ') (r:RepD H ρ q vs):RepD H' ρ' q vs:=⟨r.1,r.2.ext x⟩
theorem RepD.length {q:List (κ × PV)} {vs:List (κ × V)} (r:RepD H ρ q vs):q.length=vs.length:=by
 have:=congrArg cy r.1;rw [O0,O0] at this;exact this.symm
def CellR (H:Hp) (ρ:Tk) (a:aB):Cell->Prop
 | .lst ps=>∃ vs,H a=zo (.lst vs)/\RepL H ρ ps vs
 | .dic kvs=>∃ vs,H a=zo (.dK vs)/\RepD H ρ kvs vs
 | .dtp kvs=>∃ vs,H a=zo (.dT vs)/\RepD H ρ kvs vs
 | .frd kvs=>∃ vs,(∃ o,H a=zo (.frz o (.dK vs)))/\RepD H ρ kvs vs
 | .obj C fs=>∃ vs,(∃ dx,H a=zo (.ins C dx vs))/\RepD H ρ fs vs
theorem CellR.dom :∀ {c:Cell},CellR H ρ a c->∃ o,H a=zo o
 | .lst _,⟨_,e,_⟩=>⟨_,e⟩
 | .dic _,⟨_,e,_⟩=>⟨_,e⟩
 | .dtp _,⟨_,e,_⟩=>⟨_,e⟩
 | .frd _,⟨_,⟨_,e⟩,_⟩=>⟨_,e⟩
 | .obj _ _,⟨_,⟨_,e⟩,_⟩=>⟨_,e⟩
theorem CellR.ext {ρ':Tk} (x:Ext H ρ H' ρ') (k:∀ o,H a=zo o->H' a=zo o):∀ {c:Cell},CellR H ρ a c->CellR H' ρ' a c
 | .lst _,⟨vs,e,r⟩=>⟨vs,k _ e,r.ext x⟩
 | .dic _,⟨vs,e,r⟩=>⟨vs,k _ e,r.ext x⟩
 | .dtp _,⟨vs,e,r⟩=>⟨vs,k _ e,r.ext x⟩
 | .frd _,⟨vs,⟨o,e⟩,r⟩=>⟨vs,⟨o,k _ e⟩,r.ext x⟩
 | .obj _ _,⟨vs,⟨o,e⟩,r⟩=>⟨vs,⟨o,k _ e⟩,r.ext x⟩
structure Rel (H:Hp) (ρ:Tk) (st:Q0):Prop where
 len:ρ.tr.length=st.length
 nd:ρ.tr.Nodup
 hd:∀ a∈ρ.hid,∃ o,H a=zo o/\∀ xs,o≠.tup xs
 ap:∀ a∈ρ.hid,a∉ρ.tr
 cell:∀ (i:Nat) (a:aB) (c:Cell),ρ.tr[i]?=zo a->st[i]?=zo c->CellR H ρ a c
section
variable {H H':Hp} {ρ ρ':Tk} {st st':Q0}
theorem Rel.lst (R:Rel H ρ st) {i:Nat} (h:st[i]?=zo (.lst ps)):∃ a vs,ρ.tr[i]?=zo a/\H a=zo (.lst vs)/\RepL H ρ ps vs:=by
 have hi:i < ρ.tr.length:=by rw [R.len]; exact (O3.mp h).1
 have e:ρ.tr[i]?=zo ρ.tr[i]:=O2 hi;obtain ⟨vs,q,G⟩:=R.cell i _ _ e h;exact ⟨_,vs,e,q,G⟩
theorem Rel.dtp (R:Rel H ρ st) {i:Nat} {q:List (HK × PV)} (h:st[i]?=zo (.dtp q)):∃ a vs,ρ.tr[i]?=zo a/\H a=zo (.dT vs)/\RepD H ρ q vs:=by
 have hi:i < ρ.tr.length:=by rw [R.len]; exact (O3.mp h).1
 have e:ρ.tr[i]?=zo ρ.tr[i]:=O2 hi;obtain ⟨vs,G,I⟩:=R.cell i _ _ e h;exact ⟨_,vs,e,G,I⟩
theorem Rel.dom (R:Rel H ρ st) (h:a∈ρ.tr):∃ o,H a=zo o:=by
 obtain ⟨i,hi,e⟩:=G6 h;have hs:i < st.length:=by rw [<- R.len]; exact hi
 have q:=R.cell i a st[i] (by rw [O2 hi,e]) (O2 hs);exact q.dom
theorem Rel.fresh (R:Rel H ρ st) (h:H p=zl):p∉ρ:=λz=>by
 rcases z with z | z
 ·obtain ⟨vs,q⟩:=R.dom z;rw [h] at q; cases q
 ·obtain ⟨o,q,_⟩:=R.hd p z;rw [h] at q; cases q
theorem Rel.later (R:Rel H ρ st) (x:Ext H ρ H' ρ) (k:∀ a o,a∈ρ.tr->H a=zo o->H' a=zo o):Rel H' ρ st where
 len:=R.len
 nd:=R.nd
 hd:=λa q=>let ⟨o,e,n⟩:=R.hd a q; ⟨o,x.keep a o e (R.ap a q),n⟩
 ap:=R.ap
 cell:=λi a c h1 h2=>by
  exact (R.cell i a c h1 h2).ext x λo e=>k a o (E2 h1) e
end
theorem Rel.add (R:Rel H ρ st) (h:H p=zl):Rel (upd H p o) ρ st:=
 R.later (Ext.add h) λa u hm e=>by rw [Qa (Qc e h)]; exact e
theorem Rel.same (R:Rel H ρ st) (h:Same H H'):Rel H' ρ st:=R.later (Ext.same h) λa u _ e=>h a u e
theorem Rel.addC (R:Rel H ρ st) (h:H p=zl) (r:CellR (upd H p o) (ρ.add p) p cl):Rel (upd H p o) (ρ.add p) (st ++ [cl]) where
 len:=by show (ρ.tr ++ [p]).length=_; rw [O6,O6,R.len]; rfl
 nd:=cZ.mpr ⟨R.nd,by simp,λa q b I e=>by
  have:b=p:=by simpa using I
  subst this; subst e;exact R.fresh h (.inl q)⟩
 hd:=λa q=>let ⟨o,e,n⟩:=R.hd a q; ⟨o,by rw [Qa (Qc e h)]; exact e,n⟩
 ap:=λa q z=>by
  rcases E3.mp z with z | z
  ·exact R.ap a q z
  ·have:a=p:=by simpa using z
   subst this;exact R.fresh h (.inr q)
 cell:=λi a c h1 h2=>by
  have h1:(ρ.tr ++ [p])[i]?=zo a:=h1
  by_cases hi:i < st.length
  ·rw [O8 (by rw [R.len]; exact hi)] at h1;rw [O8 hi] at h2;exact (R.cell i a c h1 h2).ext (Ext.addT h) λu e=>by rw [Qa (Qc e h)]; exact e
  ·rw [D4 (by rw [R.len]; omega)] at h1;rw [D4 (by omega)] at h2;have G:i - st.length=0:=by
    rcases fZ (i - st.length) with z | z
    ·exact z
    ·rw [L0 (by simp; omega)] at h2; cases h2
   rw [R.len,G] at h1;rw [G] at h2;simp at h1 h2;subst h1; subst h2;exact r
theorem Q5b {α:Type} {l:List α} (h:l.Nodup) {i j:Nat} (hi:i < l.length) (q:j < l.length) (e:l[i]=l[j]):i=j:=by
 rcases Nat.lt_trichotomy i j with z | z | z
 ·exact absurd e ((eB.mp h) i j hi q z)
 ·exact z
 ·exact absurd e.symm ((eB.mp h) j i q hi z)
theorem Ext.put {o':HO} (h:a∈ρ.tr) (e:H a=zo o) (G:∀ q u,o≠.frz q u:=by intro _ _ z; cases z):Ext H ρ (upd H a o') ρ where
 pre:=dJ _
 hidM:=λ_ h=>h
 hidN:=λ_ h=>.inl h
 keep:=λb u q n=>by rw [Qa (show b≠a from λz=>n (by rw [z]; exact h))]; exact q
 new:=λb q=>.inl q
 old:=λb u q=>by
  by_cases z:b=a
  ·exact ⟨o',by rw [z]; exact Qw⟩
  ·exact ⟨u,by rw [Qa z]; exact q⟩
 frz:=λb q u k=>by
  by_cases z:b=a
  ·rw [z,e] at k; cases k; exact absurd rfl (G _ _)
  ·rw [Qa z]; exact k
theorem Rel.putC (R:Rel H ρ st) {i:Nat} {o':HO} (hi:ρ.tr[i]?=zo a) (e:H a=zo o) (r:CellR (upd H a o') ρ a cl):Rel (upd H a o') ρ (st.set i cl) where
 len:=by rw [G7]; exact R.len
 nd:=R.nd
 hd:=λb J=>let ⟨u,q,n⟩:=R.hd b J; ⟨u,by rw [Qa (show b≠a from λz=>R.ap b J (by rw [z]; exact E2 hi))]; exact q,n⟩
 ap:=R.ap
 cell:=λj b c h1 h2=>by
  by_cases O:i=j
  ·subst O;rw [hi] at h1; cases h1;rw [F0 (by rw [<- R.len]; exact (O3.mp hi).1)] at h2;cases h2;exact r
  ·rw [E9 O] at h2;have q:=R.cell j b c h1 h2;have J:b≠a:=λz=>by
    subst z;have l1:=(O3.mp hi);have l2:=(O3.mp h1);exact O (Q5b R.nd l1.1 l2.1 (l1.2.trans l2.2.symm))
   have hm:=E2 hi;cases c with
   | lst ps=>
    obtain ⟨vs,I,G⟩:=q;exact ⟨vs,by rw [Qa J]; exact I,G.retr hm⟩
   | dic ps=>
    obtain ⟨vs,I,G⟩:=q;exact ⟨vs,by rw [Qa J]; exact I,G.1,G.2.retr hm⟩
   | dtp ps=>
    obtain ⟨vs,I,G⟩:=q;exact ⟨vs,by rw [Qa J]; exact I,G.1,G.2.retr hm⟩
   | frd ps=>
    obtain ⟨vs,⟨Y,I⟩,G⟩:=q;exact ⟨vs,⟨Y,by rw [Qa J]; exact I⟩,G.1,G.2.retr hm⟩
   | obj C ps=>
    obtain ⟨vs,⟨Y,I⟩,G⟩:=q;exact ⟨vs,⟨Y,by rw [Qa J]; exact I⟩,G.1,G.2.retr hm⟩
theorem Rel.put (R:Rel H ρ st) {i:Nat} (hi:ρ.tr[i]?=zo a) (e:H a=zo o) (r:RepL H ρ ps vs):Rel (upd H a (.lst vs)) ρ (st.set i (.lst ps)):=
 R.putC hi e ⟨vs,Qw,r.retr (E2 hi)⟩
theorem Rel.hide (R:Rel H ρ st) (h:H p=zl) (Z:∀ xs,o≠.tup xs:=by intro _ z; cases z):Rel (upd H p o) (ρ.hide p) st:=by
 have x:Ext H ρ (upd H p o) ρ:=Ext.add h;have O:=R.add (p:=p) (o:=o) h;refine ⟨O.len,O.nd,λa J=>?_,λa J z=>?_,λi a c h1 h2=>?_⟩
 ·rcases D6.mp J with rfl | J
  ·exact ⟨o,Qw,Z⟩
  ·exact O.hd a J
 ·rcases D6.mp J with rfl | J
  ·exact R.fresh h (.inl z)
  ·exact R.ap a J z
 ·have q:=R.cell i a c h1 h2;cases c with
  | lst ps=>
   obtain ⟨vs,G,I⟩:=q;exact ⟨vs,by rw [Qa (Qc G h)]; exact G,I.hide h⟩
  | dic ps=>
   obtain ⟨vs,G,I⟩:=q;exact ⟨vs,by rw [Qa (Qc G h)]; exact G,I.1,I.2.hide h⟩
  | dtp ps=>
   obtain ⟨vs,G,I⟩:=q;exact ⟨vs,by rw [Qa (Qc G h)]; exact G,I.1,I.2.hide h⟩
  | frd ps=>
   obtain ⟨vs,⟨Y,G⟩,I⟩:=q;exact ⟨vs,⟨Y,by rw [Qa (Qc G h)]; exact G⟩,I.1,I.2.hide h⟩
  | obj C ps=>
   obtain ⟨vs,⟨Y,G⟩,I⟩:=q;exact ⟨vs,⟨Y,by rw [Qa (Qc G h)]; exact G⟩,I.1,I.2.hide h⟩
theorem Rel.rehide (R:Rel H ρ st) (h:p∈ρ.hid) (Y:∀ xs,o≠.tup xs:=by intro _ z; cases z):Rel (upd H p o) ρ st:=by
 refine ⟨R.len,R.nd,λa O=>?_,R.ap,λi a c h1 h2=>?_⟩
 ·by_cases e:a=p
  ·exact ⟨o,by rw [e]; exact Qw,Y⟩
  ·obtain ⟨u,q,n⟩:=R.hd a O;exact ⟨u,by rw [Qa e]; exact q,n⟩
 ·have q:=R.cell i a c h1 h2;have ne:a≠p:=λz=>R.ap p h (by rw [<- z]; exact E2 h1)
  cases c with
  | lst ps=>
   obtain ⟨vs,I,G⟩:=q;exact ⟨vs,by rw [Qa ne]; exact I,G.rehide h⟩
  | dic ps=>
   obtain ⟨vs,I,G⟩:=q;exact ⟨vs,by rw [Qa ne]; exact I,G.1,G.2.rehide h⟩
  | dtp ps=>
   obtain ⟨vs,I,G⟩:=q;exact ⟨vs,by rw [Qa ne]; exact I,G.1,G.2.rehide h⟩
  | frd ps=>
   obtain ⟨vs,⟨J,I⟩,G⟩:=q;exact ⟨vs,⟨J,by rw [Qa ne]; exact I⟩,G.1,G.2.rehide h⟩
  | obj C ps=>
   obtain ⟨vs,⟨J,I⟩,G⟩:=q;exact ⟨vs,⟨J,by rw [Qa ne]; exact I⟩,G.1,G.2.rehide h⟩
theorem Rel.unhide (J:∀ a,a∈hs->a∈ρ.hid) (R:Rel H ρ st):Rel H ⟨ρ.tr,hs⟩ st:=by
 refine ⟨R.len,R.nd,λa O=>R.hd a (J a O),λa O=>R.ap a (J a O),λi a c h1 h2=>?_⟩;have q:=R.cell i a c h1 h2;cases c with
 | lst ps=>
  obtain ⟨vs,I,G⟩:=q;exact ⟨vs,I,RepL.unhide J G⟩
 | dic ps=>
  obtain ⟨vs,I,G⟩:=q;exact ⟨vs,I,G.1,RepL.unhide J G.2⟩
 | dtp ps=>
  obtain ⟨vs,I,G⟩:=q;exact ⟨vs,I,G.1,RepL.unhide J G.2⟩
 | frd ps=>
  obtain ⟨vs,I,G⟩:=q;exact ⟨vs,I,G.1,RepL.unhide J G.2⟩
 | obj C ps=>
  obtain ⟨vs,I,G⟩:=q;exact ⟨vs,I,G.1,RepL.unhide J G.2⟩
theorem Ext.hide (h:H p=zl):Ext H ρ (upd H p o) (ρ.hide p) where
 pre:=dJ _
 hidM:=λ_ h=>O4 _ h
 hidN:=λa q=>by
  rcases D6.mp q with rfl | q
  ·exact .inr h
  ·exact .inl q
 keep:=λa u e _=>by rw [Qa (Qc e h)]; exact e
 new:=λa e=>.inl e
 old:=λa u e=>⟨u,by rw [Qa (Qc e h)]; exact e⟩
 frz:=λa o u e=>by rw [Qa (Qc e h)]; exact e
theorem Ext.put0 {H1:Hp} {ρ1:Tk} (x:Ext H ρ H1 ρ1) (h:H p=zl):Ext H ρ (upd H1 p o) ρ1 where
 pre:=x.pre
 hidM:=x.hidM
 hidN:=x.hidN
 keep:=λa u e n=>by rw [Qa (Qc e h)]; exact x.keep a u e n
 new:=x.new
 old:=λa u e=>by rw [Qa (Qc e h)]; exact x.old a u e
 frz:=λa o u e=>by rw [Qa (Qc e h)]; exact x.frz a o u e
theorem Ext.unhide {H1:Hp} {ρ1:Tk} (x:Ext H ρ H1 ρ1):Ext H ρ H1 ⟨ρ1.tr,ρ.hid⟩ where
 pre:=x.pre
 hidM:=λ_ h=>h
 hidN:=λ_ h=>.inl h
 keep:=x.keep
 new:=x.new
 old:=x.old
 frz:=x.frz
def EnvR (H:Hp) (ρ:Tk) (Γ:Gam) (σ:St):Prop:=Γ.length=σ.length/\∀ (i:Nat) (p:PV),Γ[i]?=zo (zo p)->∃ v,σ[i]?=zo (zo v)/\Rep H ρ p v
theorem EnvR.ext {ρ':Tk} (x:Ext H ρ H' ρ') (h:EnvR H ρ Γ σ):EnvR H' ρ' Γ σ:=
 ⟨h.1,λi p e=>let ⟨v,a,b⟩:=h.2 i p e; ⟨v,a,b.ext x⟩⟩
theorem EnvR.hide (n:H a=zl) (h:EnvR H ρ Γ σ):EnvR (upd H a o) (ρ.hide a) Γ σ:=⟨h.1,λi p e=>let ⟨v,a,b⟩:=h.2 i p e; ⟨v,a,b.hide n⟩⟩
theorem EnvR.rehide (n:a∈ρ.hid) (h:EnvR H ρ Γ σ):EnvR (upd H a o) ρ Γ σ:=⟨h.1,λi p e=>let ⟨v,a,b⟩:=h.2 i p e; ⟨v,a,b.rehide n⟩⟩
theorem EnvR.set {p:PV} (h:EnvR H ρ Γ σ) (r:Rep H ρ p v) (i:Nat):EnvR H ρ (Γ.set i (zo p)) (σ.set i (zo v)):=by
 refine ⟨by rw [G7,G7]; exact h.1,λj q e=>?_⟩;rw [iQ] at e;rw [iQ]
 by_cases I:i=j
 ·subst I;simp only [if_true] at e ⊢
  by_cases G:i < Γ.length
  ·rw [bT G] at e; cases e;rw [bT (by rw [<- h.1]; exact G)];exact ⟨v,rfl,r⟩
  ·rw [bU G] at e; cases e
 ·rw [bU I] at e ⊢;exact h.2 j q e
end
def Res.bind {α β:Type} (r:Res α) (f:α->Q0->Res β):Res β:=match r with
 | .ok a st=>f a st
 | .exc x st=>.exc x st
 | .stuck=>.stuck
def okO {α:Type} (st:Q0):Option α->Res α
 | some a=>.ok a st
 | none=>.stuck
section
variable (X:Cx)
def WE (e:aH):TE:=λσ H Q=>∀ (pins:zAA) (s:aC),Inv X pins σ H s->aF (aI X.prog X.w) X.A (aO e X.env) (EP X pins σ Q) X.xe s
def WT (e:aH):TT:=λσ H Q=>∀ (pins:zAA) (s:aC),Inv X pins σ H s->aF (aI X.prog X.w) X.A (isTrue e X.env (aO e X.env)) (TP X pins σ Q) X.xe s
def WW (e:aH):TT:=λσ H Q=>∀ (wh:Sem aA) (pins:zAA) (s:aC),Inv X pins σ H s->aF (aI X.prog X.w) X.A (isTrue e X.env wh) (TP X pins σ Q) X.xe s
def WA (es:List aH):TA:=λσ H Q=>∀ (pos:Pos) (pins:zAA) (s:aC),Inv X pins σ H s->aF (aI X.prog X.w) X.A (spliced (aY pos (aN es X.env))) (AP X pins σ Q) X.xe s
def WS (st:aM):TS:=λD σ H=>∀ (pins:zAA) (s:aC),Inv X pins σ H s->aF (aI X.prog X.w) X.A (exec st X.env) (SP X pins D) X.xe s
def WB (st:List aM):TS:=λD σ H=>∀ (pins:zAA) (s:aC),Inv X pins σ H s->aF (aI X.prog X.w) X.A (execs st X.env) (SP X pins D) X.xe s
def WI (tg iter : aH) : TI := λσ H R => ∀ (pins : zAA) (s : aC), Inv X pins σ H s ->
  aF (aI X.prog X.w) X.A (aO iter X.env) (λv s1=>aF (aI X.prog X.w) X.A (pyIter v) (PIE X pins σ tg R) X.xe s1) X.xe s
def WO (f:aA->aA->Sem aA):R2:=λx y H Q=>∀ (pins:zAA) (s:aC) (σ:St) (v u:aA),Inv X pins σ H s->RelV x v->RelV y u->aF (aI X.prog X.w) X.A (f v u) (EP X pins σ Q) X.xe s
def WC (f:aA):List V->Hp->VK->Prop:=λxs H Q=>∀ (pins:zAA) (s:aC) (σ:St) (us:List aA),Inv X pins σ H s->Vals xs us->aF (aI X.prog X.w) X.A (call f us) (EP X pins σ Q) X.xe s
end
variable {X:Cx}
theorem Jc :PE X e (WE X e):=λpins s _ _ _ I h=>h pins s I
theorem Q8g :PT X e (WT X e):=λpins s _ _ _ I h=>h pins s I
theorem Qvz :PW X e (WW X e):=λq pins s _ _ _ I h=>h q pins s I
theorem Q02 :PA X es (WA X es):=λpos pins s _ _ _ I h=>h pos pins s I
theorem Qw1 {st:aM}:PS X st (WS X st):=λpins s _ _ _ I h=>h pins s I
theorem Q2v {st:List aM}:PSs X st (WB X st):=λpins s _ _ _ I h=>h pins s I
theorem Qs5 {tg iter:aH}:PI X tg iter (WI X tg iter):=λpins s _ _ _ I h=>h pins s I
theorem Qap :OpR X f (WO X f):=λpins s σ _ _ _ v u _ I G q h=>h pins s σ v u I G q
theorem Qjr {f:aA}:Wz X f (WC X f):=λpins s σ _ _ us _ I r h=>h pins s σ us I r
theorem WE.of {t:TE} {Q:VK} (h:PE X e t) (q:t σ H Q):WE X e σ H Q:=λpins s I=>h pins s σ H Q I q
theorem WT.of {t:TT} (h:PT X e t) (q:t σ H Q):WT X e σ H Q:=λpins s I=>h pins s σ H Q I q
theorem WW.of {t:TT} (h:PW X e t) (q:t σ H Q):WW X e σ H Q:=λG pins s I=>h G pins s σ H Q I q
theorem WA.of {t:TA} {Q:List V->Hp->Prop} (h:PA X es t) (q:t σ H Q):WA X es σ H Q:=λpos pins s I=>h pos pins s σ H Q I q
theorem WS.of {st:aM} {t:TS} (h:PS X st t) (q:t D σ H):WS X st D σ H:=λpins s I=>h pins s σ H D I q
theorem WB.of {st:List aM} {t:TS} (h:PSs X st t) (q:t D σ H):WB X st D σ H:=λpins s I=>h pins s σ H D I q
theorem WI.of {tg iter:aH} {t:TI} {R:It->Hp->Prop} (h:PI X tg iter t) (q:t σ H R):WI X tg iter σ H R:=λpins s I=>h pins s σ H R I q
theorem WO.of {r:R2} {x y:V} {Q:VK} (h:OpR X f r) (q:r x y H Q):WO X f x y H Q:=λpins s σ v u I J G=>h pins s σ H x y v u Q I J G q
theorem WC.of {f:aA} {r:List V->Hp->VK->Prop} {xs:List V} {Q:VK} (h:Wz X f r) (q:r xs H Q):WC X f xs H Q:=λpins s σ us I G=>h pins s σ H xs us Q I G q
def XFs (H:Hp) (ρ:Tk):Option (Str × PV)->Option aB->Prop
 | none,dv=>dv=zl
 | some (n,p),dv=>∃ dx v,dv=zo dx/\H dx=zo (.xd [(n,v)])/\dx∉ρ/\Rep H ρ p v
def Acc {α:Type} (mg:zAE) (E:XK) (H:Hp) (ρ:Tk) (P:α->Q0->Hp->Tk->Prop):Res α->Prop
 | .ok a st=>∀ H' ρ',Ext H ρ H' ρ'->Rel H' ρ' st->P a st H' ρ'
 | .exc x st=>∀ C dv H' ρ',mg x.cls=zo (.ref C)->Ext H ρ H' ρ'->Rel H' ρ' st->XFs H' ρ' x.fs dv->E (.ref C) dv H'
 | .stuck=>False
variable {α β:Type} {mg:zAE} {E:XK} {H H1:Hp} {ρ ρ1:Tk}
theorem Acc.mono {P I:α->Q0->Hp->Tk->Prop} {r:Res α} (h:Acc mg E H ρ P r) (x:Ext H ρ H1 ρ1) (k:∀ a st H' ρ',P a st H' ρ'->I a st H' ρ'):Acc mg E H1 ρ1 I r:=by
 cases r with
 | ok a st=>exact λH' ρ' G q=>k _ _ _ _ (h H' ρ' (x.trans G) q)
 | exc e st=>exact λC J H' ρ' m G q f=>h C J H' ρ' m (x.trans G) q f
 | stuck=>exact h
theorem Acc.later {P:α->Q0->Hp->Tk->Prop} {r:Res α} (h:Acc mg E H ρ P r) (x:Ext H ρ H1 ρ1):Acc mg E H1 ρ1 P r:=h.mono x λ_ _ _ _ p=>p
theorem Acc.bind {P:β->Q0->Hp->Tk->Prop} {r:Res α} {f:α->Q0->Res β} (h:Acc mg E H ρ P (r.bind f)):Acc mg E H ρ (λa q H1 ρ1=>Acc mg E H1 ρ1 P (f a q)) r:=by
 cases r with
 | ok a st=>exact λH' ρ' G I=>Acc.later (show Acc mg E H ρ P (f a st) from h) G
 | exc e st=>exact h
 | stuck=>exact h
abbrev QV (Q:VK):PV->Q0->Hp->Tk->Prop:=λp _ H' ρ'=>∀ v,Rep H' ρ' p v->Q v H'
abbrev QL (Q:List V->Hp->Prop):List PV->Q0->Hp->Tk->Prop:=λps _ H' ρ'=>∀ vs,RepL H' ρ' ps vs->Q vs H'
abbrev QB (Q:Bool->Hp->Prop):Bool->Q0->Hp->Tk->Prop:=λb _ H' _=>Q b H'
structure SimE (X:Cx) (E:XK) (e:aH) (m:ME):Prop where
 run:∀ (Γ:Gam) (σ:St) (H:Hp) (ρ:Tk) (st:Q0) (Q:VK),Rel H ρ st->EnvR H ρ Γ σ->Acc X.mg E H ρ (QV Q) (m Γ st)->WE X e σ H Q
structure SimT (X:Cx) (E:XK) (e:aH) (m:Gam->Q0->Res Bool):Prop where
 run:∀ (Γ:Gam) (σ:St) (H:Hp) (ρ:Tk) (st:Q0) (Q:Bool->Hp->Prop),Rel H ρ st->EnvR H ρ Γ σ->Acc X.mg E H ρ (QB Q) (m Γ st)->WT X e σ H Q
structure SimW (X:Cx) (E:XK) (e:aH) (m:Gam->Q0->Res Bool):Prop where
 run:∀ (Γ:Gam) (σ:St) (H:Hp) (ρ:Tk) (st:Q0) (Q:Bool->Hp->Prop),Rel H ρ st->EnvR H ρ Γ σ->Acc X.mg E H ρ (QB Q) (m Γ st)->WW X e σ H Q
structure SimA (X:Cx) (E:XK) (es:List aH) (m:Gam->Q0->Res (List PV)):Prop where
 run:∀ (Γ:Gam) (σ:St) (H:Hp) (ρ:Tk) (st:Q0) (Q:List V->Hp->Prop),Rel H ρ st->EnvR H ρ Γ σ->Acc X.mg E H ρ (QL Q) (m Γ st)->WA X es σ H Q
abbrev OP:=Q0->PV->PV->Res PV
structure OpS (X:Cx) (E:XK) (f:aA->aA->Sem aA) (o:OP):Prop where
 run:∀ (H:Hp) (ρ:Tk) (st:Q0) (p q:PV) (x y:V) (Q:VK),Rel H ρ st->Rep H ρ p x->Rep H ρ q y->Acc X.mg E H ρ (QV Q) (o st p q)->WO X f x y H Q
abbrev CF:=Q0->List PV->Res PV
structure CallS (X:Cx) (E:XK) (f:aA) (o:CF):Prop where
 run:∀ (H:Hp) (ρ:Tk) (st:Q0) (ps:List PV) (xs:List V) (Q:VK),Rel H ρ st->RepL H ρ ps xs->Acc X.mg E H ρ (QV Q) (o st ps)->WC X f xs H Q
variable {Γ:Gam} {σ:St} {st:Q0}
theorem SimE.use {m:ME} (s:SimE X E e m) {P:PV->Q0->Hp->Tk->Prop} {Q:VK} (R:Rel H ρ st) (G:EnvR H ρ Γ σ) (h:Acc X.mg E H ρ P (m Γ st))
  (k:∀ p q H1 ρ1 v,Ext H ρ H1 ρ1->Rel H1 ρ1 q->EnvR H1 ρ1 Γ σ->Rep H1 ρ1 p v->P p q H1 ρ1->Q v H1):WE X e σ H Q:=by
 refine s.run Γ σ H ρ st Q R G ?_;cases r:m Γ st with
 | ok p q=>rw [r] at h; exact λH' ρ' I J v O=>k p q H' ρ' v I J (G.ext I) O (h H' ρ' I J)
 | exc e st=>rw [r] at h; exact h
 | stuck=>rw [r] at h; exact h
theorem SimE.use' {m:ME} (s:SimE X E e m) {P:PV->Q0->Hp->Tk->Prop} {Q:VK} (R:Rel H ρ st) (G:EnvR H ρ Γ σ) (h:Acc X.mg E H ρ P (m Γ st))
  (k:∀ p q H1 ρ1 v,m Γ st=.ok p q->Ext H ρ H1 ρ1->Rel H1 ρ1 q->EnvR H1 ρ1 Γ σ->Rep H1 ρ1 p v->P p q H1 ρ1->Q v H1):WE X e σ H Q:=by
 refine s.run Γ σ H ρ st Q R G ?_;cases r:m Γ st with
 | ok p q=>rw [r] at h; exact λH' ρ' I J v O=>k p q H' ρ' v r I J (G.ext I) O (h H' ρ' I J)
 | exc e st=>rw [r] at h; exact h
 | stuck=>rw [r] at h; exact h
theorem SimA.use' {m:Gam->Q0->Res (List PV)} (s:SimA X E es m) {P:List PV->Q0->Hp->Tk->Prop} {Q:List V->Hp->Prop} (R:Rel H ρ st) (G:EnvR H ρ Γ σ) (h:Acc X.mg E H ρ P (m Γ st))
  (k:∀ ps q H1 ρ1 vs,m Γ st=.ok ps q->Ext H ρ H1 ρ1->Rel H1 ρ1 q->EnvR H1 ρ1 Γ σ->RepL H1 ρ1 ps vs->P ps q H1 ρ1->Q vs H1):WA X es σ H Q:=by
 refine s.run Γ σ H ρ st Q R G ?_;cases r:m Γ st with
 | ok p q=>rw [r] at h; exact λH' ρ' I J v O=>k p q H' ρ' v r I J (G.ext I) O (h H' ρ' I J)
 | exc e st=>rw [r] at h; exact h
 | stuck=>rw [r] at h; exact h
theorem SimT.use {m:Gam->Q0->Res Bool} (s:SimT X E e m) {P:Bool->Q0->Hp->Tk->Prop} {Q:Bool->Hp->Prop} (R:Rel H ρ st) (G:EnvR H ρ Γ σ) (h:Acc X.mg E H ρ P (m Γ st))
  (k:∀ p q H1 ρ1,Ext H ρ H1 ρ1->Rel H1 ρ1 q->EnvR H1 ρ1 Γ σ->P p q H1 ρ1->Q p H1):WT X e σ H Q:=by
 refine s.run Γ σ H ρ st Q R G ?_;cases r:m Γ st with
 | ok p q=>rw [r] at h; exact λH' ρ' I J=>k p q H' ρ' I J (G.ext I) (h H' ρ' I J)
 | exc e st=>rw [r] at h; exact h
 | stuck=>rw [r] at h; exact h
theorem SimT.use' {m:Gam->Q0->Res Bool} (s:SimT X E e m) {P:Bool->Q0->Hp->Tk->Prop} {Q:Bool->Hp->Prop} (R:Rel H ρ st) (G:EnvR H ρ Γ σ) (h:Acc X.mg E H ρ P (m Γ st))
  (k:∀ p q H1 ρ1,m Γ st=.ok p q->Ext H ρ H1 ρ1->Rel H1 ρ1 q->EnvR H1 ρ1 Γ σ->P p q H1 ρ1->Q p H1):WT X e σ H Q:=by
 refine s.run Γ σ H ρ st Q R G ?_;cases r:m Γ st with
 | ok p q=>rw [r] at h; exact λH' ρ' I J=>k p q H' ρ' r I J (G.ext I) (h H' ρ' I J)
 | exc e st=>rw [r] at h; exact h
 | stuck=>rw [r] at h; exact h
theorem SimW.use {m:Gam->Q0->Res Bool} (s:SimW X E e m) {P:Bool->Q0->Hp->Tk->Prop} {Q:Bool->Hp->Prop} (R:Rel H ρ st) (G:EnvR H ρ Γ σ) (h:Acc X.mg E H ρ P (m Γ st))
  (k:∀ p q H1 ρ1,Ext H ρ H1 ρ1->Rel H1 ρ1 q->EnvR H1 ρ1 Γ σ->P p q H1 ρ1->Q p H1):WW X e σ H Q:=by
 refine s.run Γ σ H ρ st Q R G ?_;cases r:m Γ st with
 | ok p q=>rw [r] at h; exact λH' ρ' I J=>k p q H' ρ' I J (G.ext I) (h H' ρ' I J)
 | exc e st=>rw [r] at h; exact h
 | stuck=>rw [r] at h; exact h
theorem SimA.use {m:Gam->Q0->Res (List PV)} (s:SimA X E es m) {P:List PV->Q0->Hp->Tk->Prop} {Q:List V->Hp->Prop} (R:Rel H ρ st) (G:EnvR H ρ Γ σ) (h:Acc X.mg E H ρ P (m Γ st))
  (k:∀ ps q H1 ρ1 vs,Ext H ρ H1 ρ1->Rel H1 ρ1 q->EnvR H1 ρ1 Γ σ->RepL H1 ρ1 ps vs->P ps q H1 ρ1->Q vs H1):WA X es σ H Q:=by
 refine s.run Γ σ H ρ st Q R G ?_;cases r:m Γ st with
 | ok p q=>rw [r] at h; exact λH' ρ' I J v O=>k p q H' ρ' v I J (G.ext I) O (h H' ρ' I J)
 | exc e st=>rw [r] at h; exact h
 | stuck=>rw [r] at h; exact h
theorem OpS.use {o:OP} (s:OpS X E f o) {P:PV->Q0->Hp->Tk->Prop} {Q:VK} {p q:PV} {x y:V} (R:Rel H ρ st) (O:Rep H ρ p x) (Y:Rep H ρ q y) (h:Acc X.mg E H ρ P (o st p q))
  (k:∀ p G H1 ρ1 v,Ext H ρ H1 ρ1->Rel H1 ρ1 G->Rep H1 ρ1 p v->P p G H1 ρ1->Q v H1):WO X f x y H Q:=by
 refine s.run H ρ st p q x y Q R O Y ?_;cases r:o st p q with
 | ok p G=>rw [r] at h; exact λH' ρ' J I v Z=>k p G H' ρ' v J I Z (h H' ρ' J I)
 | exc e st=>rw [r] at h; exact h
 | stuck=>rw [r] at h; exact h
end Sm
namespace Sm
open PySem PySem.Spec L2 SeqAt
variable {n:Nat} {ps:List PV}
mutual
def peq:PV->PV->Bool
 | .non,.non=>zb
 | .bl a,.bl b=>a == b
 | .bl a,.int b=>(if a then 1 else 0) == b
 | .int a,.bl b=>a == (if b then 1 else 0)
 | .int a,.int b=>a == b
 | .str a,.str b=>a == b
 | .tup xs,.tup ys=>peqL xs ys
 | .lst xs,.lst ys=>peqL xs ys
 | .lst xs,.fro ys=>peqL xs ys
 | .fro xs,.lst ys=>peqL xs ys
 | .fro xs,.fro ys=>peqL xs ys
 | _,_=>yo
def peqL:List PV->List PV->Bool
 | [],[]=>zb
 | x :: xs,y :: ys=>peq x y && peqL xs ys
 | _,_=>yo
end
def good:Nat->PV->Bool
 | _,.ref _=>yo
 | _,.dic=>yo
 | 0,.tup _=>yo
 | 0,.lst _=>yo
 | 0,.fro _=>yo
 | n + 1,.tup xs=>xs.all (good n)
 | n + 1,.lst xs=>xs.all (good n)
 | n + 1,.fro xs=>xs.all (good n)
 | _,_=>zb
theorem Q2y:∀ {xs ys:List PV},xs.length≠ys.length->peqL xs ys=yo
 | [],[],h=>absurd rfl h
 | [],_ :: _,_=>by simp [peqL]
 | _ :: _,[],_=>by simp [peqL]
 | x :: xs,y :: ys,h=>by
  rw [peqL,Q2y (xs:=xs) (ys:=ys) λe=>h (by simp [e]),fb]
theorem Q2z:∀ {xs ys:List PV},xs.length=ys.length->peqL xs ys=(bY xs.length).all λj=>peq (xs.getD j .non) (ys.getD j .non)
 | [],[],_=>by simp [peqL]
 | [],_ :: _,h=>by simp at h
 | _ :: _,[],h=>by simp at h
 | x :: xs,y :: ys,h=>by
  rw [peqL,Q2z (xs:=xs) (ys:=ys) (by simpa using h),D3,fL,bz,bu];rfl
variable {X:Cx} {pins:zAA} {σ:St} {H:Hp} {s:aC} {ρ:Tk}
mutual
theorem Q8a:∀ {p q:PV} {x:V} {n:Nat},good n p=zb->good n q=zb->Rep H ρ p x->Rep H ρ q x->peq p q=zb
 | .non,q,x,n,_,J,h1,h2=>by
  cases h1;cases q <;> first | rfl | (cases n <;> cases J; done) | (cases h2; done) | (obtain ⟨_,_,e,_⟩:=h2; cases e) | (obtain ⟨_,_,e⟩:=h2; cases e)
 | .bl b,q,x,n,_,J,h1,h2=>by
  cases h1;cases q <;> first | (cases n <;> cases J; done) | (cases h2; simp [peq]; done) | (obtain ⟨_,_,e,_⟩:=h2; done) | (obtain ⟨_,_,e,_⟩:=h2; cases e; done) | (obtain ⟨_,_,e⟩:=h2; cases e)
 | .int b,q,x,n,_,J,h1,h2=>by
  cases h1;cases q <;> first | (cases n <;> cases J; done) | (cases h2; simp [peq]; done) | (obtain ⟨_,_,e,_⟩:=h2; done) | (obtain ⟨_,_,e,_⟩:=h2; cases e; done) | (obtain ⟨_,_,e⟩:=h2; cases e)
 | .str b,q,x,n,_,J,h1,h2=>by
  cases h1;cases q <;> first | (cases n <;> cases J; done) | (cases h2; simp [peq]; done) | (obtain ⟨_,_,e,_⟩:=h2; done) | (obtain ⟨_,_,e,_⟩:=h2; cases e; done) | (obtain ⟨_,_,e⟩:=h2; cases e)
 | .tup ps,q,x,0,O,_,_,_=>by cases O
 | .tup ps,q,x,n + 1,O,J,⟨a,vs,e,I,_,r⟩,h2=>by
  subst e;cases q with
  | tup Z=>
   obtain ⟨b,us,e,G,_,Y⟩:=h2;cases e;rw [I] at G; cases G;rw [peq];exact repL_same O J r Y
  | lst Z=>obtain ⟨b,us,e,G,_⟩:=h2; cases e; rw [I] at G; cases G
  | fro Z=>obtain ⟨b,us,e,G,_⟩:=h2; cases e; rcases G with G | ⟨o,G⟩ <;> (rw [I] at G; cases G)
  | ref i=>cases J
  | dic=>cases J
  | _=>cases h2
 | .lst ps,q,x,0,O,_,_,_=>by cases O
 | .lst ps,q,x,n + 1,O,J,⟨a,vs,e,I,_,r⟩,h2=>by
  subst e;cases q with
  | lst Z=>
   obtain ⟨b,us,e,G,_,Y⟩:=h2;cases e;rw [I] at G; cases G;rw [peq];exact repL_same O J r Y
  | tup Z=>obtain ⟨b,us,e,G,_⟩:=h2; cases e; rw [I] at G; cases G
  | fro Z=>
   obtain ⟨b,us,e,G,_,Y⟩:=h2;cases e;rcases G with G | ⟨o,G⟩
   ·rw [I] at G; cases G;rw [peq];exact repL_same O J r Y
   ·rw [I] at G; cases G
  | ref i=>cases J
  | dic=>cases J
  | _=>cases h2
 | .fro ps,q,x,0,O,_,_,_=>by cases O
 | .fro ps,q,x,n + 1,O,J,⟨a,vs,e,I,_,r⟩,h2=>by
  subst e;cases q with
  | lst Z=>
   obtain ⟨b,us,e,G,_,Y⟩:=h2;cases e;rcases I with I | ⟨o,I⟩
   ·rw [I] at G; cases G;rw [peq];exact repL_same O J r Y
   ·rw [I] at G; cases G
  | tup Z=>obtain ⟨b,us,e,G,_⟩:=h2; cases e; rcases I with I | ⟨o,I⟩ <;> (rw [I] at G; cases G)
  | fro Z=>
   obtain ⟨b,us,e,G,_,Y⟩:=h2;cases e;have:vs=us:=by
    rcases I with I | ⟨o,I⟩ <;> rcases G with G | ⟨o',G⟩ <;> (rw [I] at G; cases G) <;> rfl
   subst this;rw [peq];exact repL_same O J r Y
  | ref i=>cases J
  | dic=>cases J
  | _=>cases h2
 | .ref i,_,_,n,O,_,_,_=>by cases n <;> cases O
 | .dic,_,_,n,O,_,_,_=>by cases n <;> cases O
theorem repL_same:∀ {ps G:List PV} {vs:List V} {n:Nat},ps.all (good n)=zb->G.all (good n)=zb->RepL H ρ ps vs->RepL H ρ G vs->peqL ps G=zb
 | [],G,vs,n,_,_,h1,h2=>by
  cases h1;cases G with
  | nil=>rfl
  | cons q G=>obtain ⟨_,_,e,_⟩:=h2; cases e
 | p :: ps,G,vs,n,I,g2,⟨v,r,e,h1,O⟩,h2=>by
  subst e;cases G with
  | nil=>cases h2
  | cons q G=>
   obtain ⟨_,_,e,h2,J⟩:=h2;cases e;rw [bz,E4] at I g2;rw [peqL,Q8a I.1 g2.1 h1 h2,repL_same I.2 g2.2 O J]; rfl
end
inductive Kd (H:Hp) (ρ:Tk) (s:aC):PV->aA->Prop where
 | non:Kd H ρ s .non .none
 | bl (b):Kd H ρ s (.bl b) (.bool b)
 | int (i t):Kd H ρ s (.int i) (.int i t)
 | str (x t):Kd H ρ s (.str x) (.str x t)
 | tup (ps a) (vs:List V) (its:List aA):H a=zo (.tup vs)->RepL H ρ ps vs->Vals vs its->s.heap.IsTuple a its.toArray->Kd H ρ s (.tup ps) (.ref a)
 | lst (p ps a) (vs:List V) (its:List aA):(p=.lst ps\/p=.fro ps)->RepL H ρ ps vs->Vals vs its->s.heap.IsList a its.toArray->Kd H ρ s p (.ref a)
theorem Qcy {p:PV} {x:V} {u:aA} (I:Inv X pins σ H s) (g:good n p=zb) (r:Rep H ρ p x) (ru:RelV x u):Kd H ρ s p u:=by
 cases p with
 | non=>cases r; cases ru; exact .non
 | bl b=>cases r; cases ru; exact .bl b
 | int i=>cases r; obtain ⟨t,rfl⟩:=ru; exact .int i t
 | str i=>cases r; obtain ⟨t,rfl⟩:=ru; exact .str i t
 | tup ps=>
  obtain ⟨a,vs,rfl,q,_,O⟩:=r;cases ru;obtain ⟨its,J,G,_⟩:=I.tuple (SqT.of (K:=X.K) q);exact .tup ps a vs its q O J G
 | lst ps=>
  obtain ⟨a,vs,rfl,q,_,O⟩:=r;cases ru;obtain ⟨its,J,G,_⟩:=I.list (SqL.of (K:=X.K) q);exact .lst _ ps a vs its (.inl rfl) O J G.isList
 | fro ps=>
  obtain ⟨a,vs,rfl,q,_,O⟩:=r;cases ru;obtain ⟨its,J,G,_⟩:=I.list (show SqL X.K H a vs from .inl q);exact .lst _ ps a vs its (.inr rfl) O J G.isList
 | ref i=>cases n <;> cases g
 | dic=>cases n <;> cases g
theorem jj {vs:List V} {its:List aA} (r:RepL H ρ ps vs) (v:Vals vs its) {j:Nat} (h:j < its.length):∃ x,Rep H ρ (ps.getD j .non) x/\RelV x its[j]:=by
 have l1:=r.length;have l2:=v.length;have q:j < ps.length:=by omega
 obtain ⟨x,J,I⟩:=r.get (O2 q);obtain ⟨u,G,O⟩:=v.get J;rw [O2 h] at G; cases G;refine ⟨x,?_,O⟩;rw [du,O2 q];exact I
theorem ji (g:ps.all (good n)=zb) (j:Nat) (q:j < ps.length):good n (ps.getD j .non)=zb:=by
 rw [du,O2 q];exact (E8.mp g) _ (L7 q)
theorem Qam {q:List PV}:((bY (min ps.length q.length)).all (λj=>peq (ps.getD j .non) (q.getD j .non)) && ps.length == q.length)=peqL ps q:=by
 by_cases e:ps.length=q.length
 ·rw [Q2z e,<- e,Nat.min_self,beq_self_eq_true,Bool.and_true]
 ·rw [Q2y e,beq_eq_false_iff_ne.mpr e,fb]
theorem Qd7:∀ (n:Nat) {A:aL} {p q:PV} {x y:V} {u v:aA},Inv X pins σ H s->good n p=zb->good n q=zb->A.units + n < aQ->Rep H ρ p x->RelV x u->Rep H ρ q y->RelV y v ->
  EqAt A s u v (peq p q)/\RcAt A s u v (peq p q)/\RcNeAt A s u v (!peq p q):=by
 intro n
 induction n with
 | zero=>
  intro A p q x y u v I gp Y hu rp ru rq rv;have k1:=Qcy I gp rp ru;have k2:=Qcy I Y rq rv;have hu:A.units < aQ:=by omega
  cases k1 with
  | tup=>cases gp
  | lst p ps a vs its h=>rcases h with rfl | rfl <;> cases gp
  | non=>cases k2 with
   | tup=>cases Y
   | lst p ps a vs its h=>rcases h with rfl | rfl <;> cases Y
   | non=>exact ⟨EqAt.same _,RcAt.none_none,RcNeAt.none_none⟩
   | bl b=>exact ⟨EqAt.none_bool _,RcAt.none_bool _,RcNeAt.none_bool _⟩
   | int i t=>exact ⟨EqAt.none_int _ _,RcAt.none_int _ _,RcNeAt.none_int _ _⟩
   | str i t=>exact ⟨EqAt.none_str _ _,RcAt.none_str _ _,RcNeAt.none_str _ _⟩
  | bl a=>cases k2 with
   | tup=>cases Y
   | lst p ps a vs its h=>rcases h with rfl | rfl <;> cases Y
   | non=>exact ⟨EqAt.bool_none _,RcAt.bool_none _,RcNeAt.bool_none _⟩
   | bl b=>exact ⟨EqAt.bool_bool _ _,RcAt.bool_bool _ _,RcNeAt.bool_bool _ _⟩
   | int i t=>exact ⟨EqAt.bool_int _ _ _,RcAt.bool_int _ _ _,RcNeAt.bool_int _ _ _⟩
   | str i t=>exact ⟨EqAt.bool_str _ _ _,RcAt.bool_str _ _ _,RcNeAt.bool_str _ _ _⟩
  | int a a4=>cases k2 with
   | tup=>cases Y
   | lst p ps a vs its h=>rcases h with rfl | rfl <;> cases Y
   | non=>exact ⟨EqAt.int_none _ _,RcAt.int_none _ _,RcNeAt.int_none _ _⟩
   | bl b=>exact ⟨EqAt.int_bool _ _ _,RcAt.int_bool _ _ _,RcNeAt.int_bool _ _ _⟩
   | int i t=>exact ⟨EqAt.int_int _ _ _ _,RcAt.int_int _ _ _ _,RcNeAt.int_int _ _ _ _⟩
   | str i t=>exact ⟨EqAt.int_str _ _ _ _,RcAt.int_str _ _ _ _,RcNeAt.int_str _ _ _ _⟩
  | str a a4=>cases k2 with
   | tup=>cases Y
   | lst p ps a vs its h=>rcases h with rfl | rfl <;> cases Y
   | non=>exact ⟨EqAt.str_none _ _,RcAt.str_none _ _,RcNeAt.str_none _ _⟩
   | bl b=>exact ⟨EqAt.str_bool _ _ _,RcAt.str_bool _ _ _,RcNeAt.str_bool _ _ _⟩
   | int i t=>exact ⟨EqAt.str_int _ _ _ _,RcAt.str_int _ _ _ _,RcNeAt.str_int _ _ _ _⟩
   | str i t=>exact ⟨EqAt.str_str _ _ _ _,RcAt.str_str _ _ _ _,RcNeAt.str_str _ _ _ _⟩
 | succ n ih=>
  intro A p q x y u v I gp Y hu rp ru rq rv;have k1:=Qcy I gp rp ru;have k2:=Qcy I Y rq rv;have G:A.units < aQ:=by omega
  have a5:A.in1.units + n < aQ:=by show A.units + 1 + n < aQ; omega
  cases k1 with
  | non=>cases k2 with
   | non=>exact ⟨EqAt.same _,RcAt.none_none,RcNeAt.none_none⟩
   | bl b=>exact ⟨EqAt.none_bool _,RcAt.none_bool _,RcNeAt.none_bool _⟩
   | int i t=>exact ⟨EqAt.none_int _ _,RcAt.none_int _ _,RcNeAt.none_int _ _⟩
   | str i t=>exact ⟨EqAt.none_str _ _,RcAt.none_str _ _,RcNeAt.none_str _ _⟩
   | tup ps a vs its ha r v1 J=>exact ⟨EqAt.none_tuple J G,RcAt.none_tuple J G,RcNeAt.none_tuple J G⟩
   | lst p ps a vs its h r v1 J=>rcases h with rfl | rfl <;> exact ⟨EqAt.none_list J G,RcAt.none_list J G,RcNeAt.none_list J G⟩
  | bl a=>cases k2 with
   | non=>exact ⟨EqAt.bool_none _,RcAt.bool_none _,RcNeAt.bool_none _⟩
   | bl b=>exact ⟨EqAt.bool_bool _ _,RcAt.bool_bool _ _,RcNeAt.bool_bool _ _⟩
   | int i t=>exact ⟨EqAt.bool_int _ _ _,RcAt.bool_int _ _ _,RcNeAt.bool_int _ _ _⟩
   | str i t=>exact ⟨EqAt.bool_str _ _ _,RcAt.bool_str _ _ _,RcNeAt.bool_str _ _ _⟩
   | tup ps a vs its ha r v1 J=>exact ⟨EqAt.bool_tuple _ J G,RcAt.bool_tuple _ J G,RcNeAt.bool_tuple _ J G⟩
   | lst p ps a vs its h r v1 J=>rcases h with rfl | rfl <;> exact ⟨EqAt.bool_list _ J G,RcAt.bool_list _ J G,RcNeAt.bool_list _ J G⟩
  | int a a4=>cases k2 with
   | non=>exact ⟨EqAt.int_none _ _,RcAt.int_none _ _,RcNeAt.int_none _ _⟩
   | bl b=>exact ⟨EqAt.int_bool _ _ _,RcAt.int_bool _ _ _,RcNeAt.int_bool _ _ _⟩
   | int i t=>exact ⟨EqAt.int_int _ _ _ _,RcAt.int_int _ _ _ _,RcNeAt.int_int _ _ _ _⟩
   | str i t=>exact ⟨EqAt.int_str _ _ _ _,RcAt.int_str _ _ _ _,RcNeAt.int_str _ _ _ _⟩
   | tup ps a vs its ha r v1 J=>exact ⟨EqAt.int_tuple _ _ J G,RcAt.int_tuple _ _ J G,RcNeAt.int_tuple _ _ J G⟩
   | lst p ps a vs its h r v1 J=>rcases h with rfl | rfl <;> exact ⟨EqAt.int_list _ _ J G,RcAt.int_list _ _ J G,RcNeAt.int_list _ _ J G⟩
  | str a a4=>cases k2 with
   | non=>exact ⟨EqAt.str_none _ _,RcAt.str_none _ _,RcNeAt.str_none _ _⟩
   | bl b=>exact ⟨EqAt.str_bool _ _ _,RcAt.str_bool _ _ _,RcNeAt.str_bool _ _ _⟩
   | int i t=>exact ⟨EqAt.str_int _ _ _ _,RcAt.str_int _ _ _ _,RcNeAt.str_int _ _ _ _⟩
   | str i t=>exact ⟨EqAt.str_str _ _ _ _,RcAt.str_str _ _ _ _,RcNeAt.str_str _ _ _ _⟩
   | tup ps a vs its ha r v1 J=>exact ⟨EqAt.str_tuple _ _ J G,RcAt.str_tuple _ _ J G,RcNeAt.str_tuple _ _ J G⟩
   | lst p ps a vs its h r v1 J=>rcases h with rfl | rfl <;> exact ⟨EqAt.str_list _ _ J G,RcAt.str_list _ _ J G,RcNeAt.str_list _ _ J G⟩
  | tup ps a vs its ha r v1 J=>cases k2 with
   | non=>exact ⟨EqAt.tuple_none J G,RcAt.tuple_none J G,RcNeAt.tuple_none J G⟩
   | bl b=>exact ⟨EqAt.tuple_bool _ J G,RcAt.tuple_bool _ J G,RcNeAt.tuple_bool _ J G⟩
   | int i t=>exact ⟨EqAt.tuple_int _ _ J G,RcAt.tuple_int _ _ J G,RcNeAt.tuple_int _ _ J G⟩
   | str i t=>exact ⟨EqAt.tuple_str _ _ J G,RcAt.tuple_str _ _ J G,RcNeAt.tuple_str _ _ J G⟩
   | tup Z b us O hb r2 v2 p2=>
    have l1:its.toArray.size=ps.length:=by rw [D0,<- v1.length,r.length]
    have l2:O.toArray.size=Z.length:=by rw [D0,<- v2.length,r2.length]
    have he:∀ j (h1:j < its.toArray.size) (h2:j < O.toArray.size),EqAt A.in1 s its.toArray[j] O.toArray[j] (peq (ps.getD j .non) (Z.getD j .non)):=λj h1 h2=>by
     obtain ⟨x1,a1,b1⟩:=jj r v1 (j:=j) (by simpa using h1);obtain ⟨x2,a2,b2⟩:=jj r2 v2 (j:=j) (by simpa using h2);exact (ih I (ji gp j (by omega)) (ji Y j (by omega)) a5 a1 b1 a2 b2).1
    have rc:=RcAt.tuples J p2 G he;have rn:=RcNeAt.tuples J p2 G he;rw [l1,l2,Qam] at rc rn;refine ⟨?_,rc,rn⟩
    by_cases e:a=b
    ·subst e;have:peqL ps Z=zb:=by
      rw [ha] at hb; cases hb;exact repL_same gp Y r r2
     show EqAt A s _ _ (peqL ps Z);rw [this];exact EqAt.same _
    ·exact EqAt.of_refs e rc
   | lst q Z b us O h r2 v2 p2=>rcases h with rfl | rfl <;> exact ⟨EqAt.tuple_list J p2 G,RcAt.tuple_list J p2 G,RcNeAt.tuple_list J p2 G⟩
  | lst p ps a vs its h r v1 J=>cases k2 with
   | non=>rcases h with rfl | rfl <;> exact ⟨EqAt.list_none J G,RcAt.list_none J G,RcNeAt.list_none J G⟩
   | bl b=>rcases h with rfl | rfl <;> exact ⟨EqAt.list_bool _ J G,RcAt.list_bool _ J G,RcNeAt.list_bool _ J G⟩
   | int i t=>rcases h with rfl | rfl <;> exact ⟨EqAt.list_int _ _ J G,RcAt.list_int _ _ J G,RcNeAt.list_int _ _ J G⟩
   | str i t=>rcases h with rfl | rfl <;> exact ⟨EqAt.list_str _ _ J G,RcAt.list_str _ _ J G,RcNeAt.list_str _ _ J G⟩
   | tup Z b us O hb r2 v2 p2=>rcases h with rfl | rfl <;> exact ⟨EqAt.list_tuple J p2 G,RcAt.list_tuple J p2 G,RcNeAt.list_tuple J p2 G⟩
   | lst q Z b us O h2 r2 v2 p2=>
    have l1:its.toArray.size=ps.length:=by rw [D0,<- v1.length,r.length]
    have l2:O.toArray.size=Z.length:=by rw [D0,<- v2.length,r2.length]
    have a6:ps.all (good n)=zb:=by rcases h with rfl | rfl <;> exact gp
    have a7:Z.all (good n)=zb:=by rcases h2 with rfl | rfl <;> exact Y
    have ep:peq p q=peqL ps Z:=by rcases h with rfl | rfl <;> rcases h2 with rfl | rfl <;> rfl
    have he:∀ j (h1:j < its.toArray.size) (h2:j < O.toArray.size),EqAt A.in1 s its.toArray[j] O.toArray[j] (peq (ps.getD j .non) (Z.getD j .non)):=λj h1 h2=>by
     obtain ⟨x1,a1,b1⟩:=jj r v1 (j:=j) (by simpa using h1);obtain ⟨x2,a2,b2⟩:=jj r2 v2 (j:=j) (by simpa using h2);exact (ih I (ji a6 j (by omega)) (ji a7 j (by omega)) a5 a1 b1 a2 b2).1
    rw [ep];have a3:RcAt A s (.ref a) (.ref b) (peqL ps Z)/\RcNeAt A s (.ref a) (.ref b) (!peqL ps Z):=by
     by_cases e:ps.length=Z.length
     ·have rc:=RcAt.lists J p2 (by rw [l1,l2,e]) G he;have rn:=RcNeAt.lists J p2 (by rw [l1,l2,e]) G he;rw [l1,<- Q2z e] at rc rn;exact ⟨rc,rn⟩
     ·have e':(its.toArray.size != O.toArray.size)=zb:=by rw [l1,l2]; simpa using e
      rw [Q2y e];exact ⟨RcAt.lists_lengths J p2 e' G,RcNeAt.lists_lengths J p2 e' G⟩
    refine ⟨?_,a3.1,a3.2⟩
    by_cases e:a=b
    ·subst e;have a8:peq p q=zb:=by
      have a9:=rp;have b0:=rq;have xa:x=.ref a:=by
       rcases h with rfl | rfl <;> (obtain ⟨b',_,rfl,_⟩:=rp; cases ru; rfl)
      have ya:y=.ref a:=by
       rcases h2 with rfl | rfl <;> (obtain ⟨b',_,rfl,_⟩:=rq; cases rv; rfl)
      subst xa; subst ya;exact Q8a gp Y rp rq
     rw [<- ep,a8];exact EqAt.same _
    ·exact EqAt.of_refs e a3.1
end Sm
namespace Sm
open PySem PySem.Spec L2
variable {n j:Nat} {K:bX} {vs:List V} {mg:zAE} {E:XK} {Q:VK} {ps:List PV} {x:Str} {o:OP} {Γ:Gam} {σ:St} {P:PV->Q0->Hp->Tk->Prop} {op:CmpOp} {e:aH}
def lim:Nat:=1000000
theorem Q6z:lim<=sizeLine:=by decide
theorem Zy (h:n<=lim):n<=sizeLine:=D9 h Q6z
def U4 (st:Q0):PV->Option (List PV)
 | .lst xs=>zo xs
 | .ref i=>match st[i]? with
  | some (.lst xs)=>zo xs
  | _=>zl
 | _=>zl
def U0 (st:Q0):PV->Option (List PV)
 | .fro xs=>zo xs
 | p=>U4 st p
def U3 (st:Q0):PV->Option (List PV)
 | .tup xs=>zo xs
 | p=>U0 st p
def der (st:Q0):PV->PV
 | .ref i=>match st[i]? with
  | some (.lst xs)=>.lst xs
  | _=>.ref i
 | p=>p
variable {H:Hp} {ρ:Tk} {st:Q0} {p:PV} {v:V} {xs:List PV}
theorem zx (R:Rel H ρ st) (r:Rep H ρ p v) (e:U4 st p=zo xs):∃ a vs,v=.ref a/\H a=zo (.lst vs)/\RepL H ρ xs vs:=by
 cases p with
 | lst ys=>
  obtain ⟨a,vs,G,q,_,O⟩:=r;cases e;exact ⟨a,vs,G,q,O⟩
 | ref i=>
  obtain ⟨a,G,q⟩:=r;simp only [U4] at e
  split at e
  ·rename_i ys hs;cases e;obtain ⟨b,vs,I,J,Y⟩:=R.lst hs;rw [G] at I; cases I;exact ⟨a,vs,q,J,Y⟩
  ·cases e
 | _=>cases e
theorem Uw (R:Rel H ρ st) (r:Rep H ρ p v) (e:U0 st p=zo xs):∃ a vs,v=.ref a/\Rd H a (.lst vs)/\RepL H ρ xs vs:=by
 cases p with
 | fro ys=>
  obtain ⟨a,vs,G,I,_,q⟩:=r;cases e;exact ⟨a,vs,G,I,q⟩
 | _=>
  obtain ⟨a,vs,G,I,q⟩:=zx R r e;exact ⟨a,vs,G,.inl I,q⟩
theorem xy (R:Rel H ρ st) (r:Rep H ρ p v) (e:U3 st p=zo xs):∃ (t:Bool) (a:aB) (vs:List V),v=.ref a/\SqK K t H a vs/\RepL H ρ xs vs:=by
 cases p with
 | tup ys=>
  obtain ⟨a,vs,G,I,_,q⟩:=r;cases e;exact ⟨zb,a,vs,G,show SqT K H a vs from SqT.of I,q⟩
 | _=>
  obtain ⟨a,vs,G,I,q⟩:=Uw R r e;exact ⟨yo,a,vs,G,show SqL K H a vs from .inl I,q⟩
theorem Qg7 {t:Bool} {a:aB} (h:SqK K t H a vs):SqL K H a vs\/SqT K H a vs:=by
 cases t with
 | true=>exact .inr h
 | false=>exact .inl h
mutual
theorem Qcg:∀ {n:Nat} {q:PV} {u:V},good n q=zb->Rep H ρ q u->Rep H Tk.nil q u
 | _,.non,_,_,r=>r
 | _,.bl _,_,_,r=>r
 | _,.int _,_,_,r=>r
 | _,.str _,_,_,r=>r
 | 0,.tup _,_,g,_=>by cases g
 | 0,.lst _,_,g,_=>by cases g
 | 0,.fro _,_,g,_=>by cases g
 | n + 1,.tup _,_,g,⟨a,vs,e,h,_,r⟩=>⟨a,vs,e,h,Tk.not_nil _,repL_nil g r⟩
 | n + 1,.lst _,_,g,⟨a,vs,e,h,_,r⟩=>⟨a,vs,e,h,Tk.not_nil _,repL_nil g r⟩
 | n + 1,.fro _,_,g,⟨a,vs,e,h,_,r⟩=>⟨a,vs,e,h,Tk.not_nil _,repL_nil g r⟩
 | 0,.ref _,_,g,_=>by cases g
 | _ + 1,.ref _,_,g,_=>by cases g
 | 0,.dic,_,g,_=>by cases g
 | _ + 1,.dic,_,g,_=>by cases g
theorem repL_nil:∀ {n:Nat} {G:List PV} {us:List V},G.all (good n)=zb->RepL H ρ G us->RepL H Tk.nil G us
 | _,[],_,_,r=>r
 | n,q :: G,_,g,⟨v,r,e,h1,h2⟩=>by
  rw [bz,E4] at g;exact ⟨v,r,e,Qcg g.1 h1,repL_nil g.2 h2⟩
end
theorem jq (R:Rel H ρ st) (g:good n (der st p)=zb) (r:Rep H ρ p v):Rep H Tk.nil (der st p) v:=by
 cases p with
 | ref i=>
  obtain ⟨a,I,G⟩:=r;simp only [der] at g ⊢
  split at g
  ·rename_i ys hs;obtain ⟨b,vs,q,J,O⟩:=R.lst hs;rw [I] at q; cases q;cases n with
   | zero=>cases g
   | succ n=>exact ⟨a,vs,G,J,Tk.not_nil _,repL_nil g O⟩
  ·cases n <;> cases g
 | _=>exact Qcg g r
theorem yx (R:Rel H ρ st) (h:Acc mg E H ρ (QV Q) (.ok (.tup ps) st)) (r:RepL H ρ ps vs):∀ p,H p=zl->Q (.ref p) (upd H p (.tup vs)):=
 λp q=>h _ ρ (Ext.add q) (R.add q) _ ⟨p,vs,rfl,Qw,R.fresh q,r.ext (Ext.add q)⟩
theorem jd (R:Rel H ρ st) (h:Acc mg E H ρ (QV Q) (.ok (.lst ps) st)) (r:RepL H ρ ps vs):∀ p,H p=zl->Q (.ref p) (upd H p (.lst vs)):=
 λp q=>h _ ρ (Ext.add q) (R.add q) _ ⟨p,vs,rfl,Qw,R.fresh q,r.ext (Ext.add q)⟩
theorem now (R:Rel H ρ st) (h:Acc mg E H ρ (QV Q) (.ok p st)) (r:Rep H ρ p v):Q v H:=h H ρ (Ext.refl _ _) R v r
section
variable {X:Cx} {E:XK} {pos:Pos}
def Q2 (i:Nat):ME:=λΓ st=>match Γ[i]? with
 | some (zo p)=>.ok p st
 | _=>.stuck
def mC (p:PV):ME:=λ_ st=>.ok p st
theorem Js (i:Nat) (J:X.N[i]?=zo x:=by rfl) (I:Vis X.env.scope x:=by first | exact Or.inl rfl | exact Or.inr (Or.inl rfl) | exact Or.inr (Or.inr rfl)) (hd:(x == ("__debug__" : Str))=yo:=by decide)
  (q:(x == ("__classdict__" : Str))=yo:=by decide):SimE X E (.Name x pos) (Q2 i):=⟨λΓ σ H ρ st Q R G h=>WE.of (Qhe J I hd q) (by
 unfold Q2 at h
 split at h
 ·rename_i p e;obtain ⟨v,O,r⟩:=G.2 i p e;exact ⟨v,O,now R h r⟩
 ·exact h.elim)⟩
theorem Jx {i:Int} :SimE X E (.Constant (.int i) j pos) (mC (.int i)):=⟨λΓ σ H ρ st Q R G h=>WE.of Qsf (now R h rfl)⟩
theorem Qq4 {b:Bool} :SimE X E (.Constant (.bool b) j pos) (mC (.bl b)):=⟨λΓ σ H ρ st Q R G h=>WE.of Qw6 (now R h rfl)⟩
theorem Qri :SimE X E (.Constant .none j pos) (mC .non):=⟨λΓ σ H ρ st Q R G h=>WE.of Qse (now R h rfl)⟩
theorem Qrf :SimE X E (.Constant (.str x) j pos) (mC (.str x)):=⟨λΓ σ H ρ st Q R G h=>WE.of Qsb (now R h rfl)⟩
theorem Qm3 {i:Int} {t:Tok} (q:Gl X x) (hm:X.mg x=zo (.int i t)) (hd:(x == ("__debug__" : Str))=yo:=by decide):SimE X E (.Name x pos) (mC (.int i)):=
 ⟨λΓ σ H ρ st Q R G h=>WE.of (Q6h q hm (v:=.int i) ⟨t,rfl⟩ hd) (now R h rfl)⟩
variable {a b c:aH} {ma mb mc:ME}
def mOp (o:OP) (ma mb:ME):ME:=λΓ st=>(ma Γ st).bind λx st1=>(mb Γ st1).bind λy st2=>o st2 x y
theorem Q7i {f:aA->aA->Sem aA} {Q:VK} (ho:OpS X E f o) (ha:SimE X E a ma) (hb:SimE X E b mb) (R:Rel H ρ st) (G:EnvR H ρ Γ σ) (h:Acc X.mg E H ρ P (mOp o ma mb Γ st))
  (k:∀ p I H1 ρ1 v,Ext H ρ H1 ρ1->Rel H1 ρ1 I->Rep H1 ρ1 p v->P p I H1 ρ1->Q v H1):tOp (WO X f) (WE X a) (WE X b) σ H Q:=by
 refine ha.use R G h.bind λp I H1 ρ1 v x1 R1 G1 r1 h1=>?_
 refine hb.use R1 G1 h1.bind λq a1 H2 a2 u x2 R2 G2 r2 h2=>?_
 exact ho.use R2 (r1.ext x2) r2 h2 λw O H3 J z x3 Y Z p3=>k w O H3 J z (x1.trans (x2.trans x3)) Y Z p3
theorem Qvn {op:Operator} (O:OpS X E (ae op) o) (I:SimE X E a ma) (J:SimE X E b mb):SimE X E (.BinOp a op b pos) (mOp o ma mb):=
 ⟨λΓ σ H ρ st Q R G h=>WE.of (Qqb Qap Jc Jc) (Q7i O I J R G h λ_ _ _ _ v _ _ r q=>q v r)⟩
theorem Qrn (O:OpS X E (aS op) o) (I:SimE X E a ma) (J:SimE X E b mb) (hm:bP op b=yo:=by first | exact Qav _ | rfl):SimE X E (.Compare a [op] [b] pos) (mOp o ma mb):=
 ⟨λΓ σ H ρ st Q R G h=>WE.of (Q6i Qap Jc Jc hm) (Q7i O I J R G h λ_ _ _ _ v _ _ r q=>q v r)⟩
def asB (p:PV) (st:Q0):Res Bool:=match p with
 | .bl k=>.ok k st
 | _=>.stuck
def toB (m:ME):Gam->Q0->Res Bool:=λΓ st=>(m Γ st).bind asB
theorem Qk7 {P:Bool->Q0->Hp->Tk->Prop} (R:Rel H ρ st) (r:Rep H ρ p v) (h:Acc mg E H ρ P (asB p st)):∃ k,v=.bl k/\P k st H ρ:=by
 cases p with
 | bl k=>exact ⟨k,r,h H ρ (Ext.refl _ _) R⟩
 | _=>exact h.elim
theorem Qr5 (Y:OpS X E (aS op) o) (I:SimE X E a ma) (J:SimE X E b mb) (hm:bP op b=yo:=by first | exact Qav _ | rfl):SimT X E (.Compare a [op] [b] pos) (toB (mOp o ma mb)):=
 ⟨λΓ σ H ρ st Q R G h=>WT.of (Qmf Qap Jc Jc hm) (Q7i Y I J R G h.bind λ_ Z _ _ v _ O r q=>by
  obtain ⟨k,e,z⟩:=Qk7 O r q;exact ⟨k,e,z⟩)⟩
theorem Qr3 {m:ME} (h:SimE X E e m) (Y:∀ q,isTrue e X.env q=(do let v <- q; standAt e.pos; aw [v] (truthy v)):=by intro _; rfl):SimT X E e (toB m):=
 ⟨λΓ σ H ρ st Q R G I=>WT.of (Qry Jc Y) (h.use R G I.bind λp Z H1 ρ1 v x1 J G1 O h1=>by
  obtain ⟨k,e,z⟩:=Qk7 J O h1;exact ⟨k,e,z⟩)⟩
def W5 (o o':OP) (ma mb mc:ME):ME:=λΓ st=>(ma Γ st).bind λx st1=>(mb Γ st1).bind λy st2=>(o st2 x y).bind λk st3=>match k with
 | .bl zb=>(mc Γ st3).bind λz st4=>o' st4 y z
 | .bl yo=>.ok (.bl yo) st3
 | _=>.stuck
theorem Q5t {O:CmpOp} {o':OP} {Q:VK} (ho:OpS X E (aS op) o) (a3:OpS X E (aS O) o') (ha:SimE X E a ma) (hb:SimE X E b mb) (hc:SimE X E c mc) (R:Rel H ρ st) (G:EnvR H ρ Γ σ) (h:Acc X.mg E H ρ P (W5 o o' ma mb mc Γ st))
  (k:∀ p I H1 ρ1 v,Ext H ρ H1 ρ1->Rel H1 ρ1 I->Rep H1 ρ1 p v->P p I H1 ρ1->Q v H1):Qac (WO X (aS op)) (WO X (aS O)) (WE X a) (WE X b) (WE X c) σ H Q:=by
 refine ha.use R G h.bind λp I H1 ρ1 v x1 R1 G1 r1 h1=>?_
 refine hb.use R1 G1 h1.bind λq a5 H2 a6 u x2 R2 G2 r2 h2=>?_
 refine ho.use R2 (r1.ext x2) r2 h2.bind λw a8 H3 J z Y Z r3 h3=>?_
 cases w with
 | bl b=>
  refine ⟨b,r3,?_⟩;cases b with
  | true=>
   rw [bT rfl];refine hc.use Z (G2.ext Y) h3.bind λy a7 H4 a4 yv x4 R4 G4 r4 h4=>?_
   exact a3.use R4 (r2.ext (Y.trans x4)) r4 h4 λw a1 H5 a2 z x5 R5 r5 p5=>k w a1 H5 a2 z (x1.trans (x2.trans (Y.trans (x4.trans x5)))) R5 r5 p5
  | false=>
   rw [bU D2];exact k (.bl yo) _ H3 J _ (x1.trans (x2.trans Y)) Z rfl (h3 H3 J (Ext.refl _ _) Z)
 | _=>exact h3.elim
theorem Qgm {I:CmpOp} {o':OP} (ho:OpS X E (aS op) o) (J:OpS X E (aS I) o') (O:SimE X E a ma) (Y:SimE X E b mb) (Z:SimE X E c mc) (hm:lastMarks [op,I] [b,c]=yo:=by with_unfolding_all rfl):SimE X E (.Compare a [op,I] [b,c] pos) (W5 o o' ma mb mc):=
 ⟨λΓ σ H ρ st Q R G h=>WE.of (Qhj Qap Qap Jc Jc Jc hm) (Q5t ho J O Y Z R G h λ_ _ _ _ v _ _ r q=>q v r)⟩
theorem Qfz {I:CmpOp} {o':OP} (ho:OpS X E (aS op) o) (J:OpS X E (aS I) o') (O:SimE X E a ma) (Y:SimE X E b mb) (Z:SimE X E c mc) (hm:lastMarks [op,I] [b,c]=yo:=by with_unfolding_all rfl):SimT X E (.Compare a [op,I] [b,c] pos) (toB (W5 o o' ma mb mc)):=
 ⟨λΓ σ H ρ st Q R G h=>WT.of (Qh2 Qap Qap Jc Jc Jc hm) (Q5t ho J O Y Z R G h.bind λ_ a1 _ _ v _ R1 r q=>by
  obtain ⟨k,e,z⟩:=Qk7 R1 r q;exact ⟨k,e,z⟩)⟩
variable {rest:List aH}
def Xr (ma mb:ME):ME:=λΓ st=>(ma Γ st).bind λx st1=>match x with
 | .bl zb=>mb Γ st1
 | .bl yo=>.ok (.bl yo) st1
 | _=>.stuck
def mOr (ma mb:ME):ME:=λΓ st=>(ma Γ st).bind λx st1=>match x with
 | .bl zb=>.ok (.bl zb) st1
 | .bl yo=>mb Γ st1
 | _=>.stuck
def Qta (ma:ME):ME:=λΓ st=>(ma Γ st).bind λx st1=>match x with
 | .bl k=>.ok (.bl (!k)) st1
 | _=>.stuck
theorem Qrg {op:BoolOp} (I:SimE X E a ma):SimE X E (.BoolOp op [a] pos) ma:=⟨λΓ σ H ρ st Q R G h=>WE.of (Qsc Jc) (I.use R G h λ_ _ _ _ v _ _ _ r q=>q v r)⟩
theorem Qrp (J:SimE X E a ma) (Y:SimE X E (.BoolOp .And (b :: rest) pos) mb):SimE X E (.BoolOp .And (a :: b :: rest) pos) (Xr ma mb):=
 ⟨λΓ σ H ρ st Q R G h=>WE.of (Qsg Jc Jc) (J.use R G h.bind λp a1 H1 ρ1 v x1 I O Z h1=>by
  cases p with
  | bl k=>
   refine ⟨k,Z,?_⟩;cases k with
   | true=>rw [bT rfl]; exact Y.use I O h1 λ_ _ _ _ v _ _ _ r q=>q v r
   | false=>rw [bU D2]; exact now I h1 rfl
  | _=>exact h1.elim)⟩
theorem Qvm (J:SimE X E a ma) (Y:SimE X E (.BoolOp .Or (b :: rest) pos) mb):SimE X E (.BoolOp .Or (a :: b :: rest) pos) (mOr ma mb):=
 ⟨λΓ σ H ρ st Q R G h=>WE.of (Qw5 Jc Jc) (J.use R G h.bind λp a1 H1 ρ1 v x1 I O Z h1=>by
  cases p with
  | bl k=>
   refine ⟨k,Z,?_⟩;cases k with
   | true=>rw [bT rfl]; exact now I h1 rfl
   | false=>rw [bU D2]; exact Y.use I O h1 λ_ _ _ _ v _ _ _ r q=>q v r
  | _=>exact h1.elim)⟩
theorem Qrh (q:SimE X E a ma):SimE X E (.UnaryOp .Not a pos) (Qta ma):=
 ⟨λΓ σ H ρ st Q R G h=>WE.of (Qsd Jc) (q.use R G h.bind λp O H1 ρ1 v x1 I Y J h1=>by
  cases p with
  | bl k=>exact ⟨k,J,now I h1 rfl⟩
  | _=>exact h1.elim)⟩
abbrev MT:=Gam->Q0->Res Bool
variable {ta tb:MT}
def jw (ta tb:MT):MT:=λΓ st=>(ta Γ st).bind λk st1=>if k=zb then tb Γ st1 else .ok yo st1
def Yg (ta tb:MT):MT:=λΓ st=>(ta Γ st).bind λk st1=>if k=zb then .ok zb st1 else tb Γ st1
def J9 (ta:MT):MT:=λΓ st=>(ta Γ st).bind λk st1=>.ok (!k) st1
theorem SimW.t (h:SimW X E e ta):SimT X E e ta:=⟨λΓ σ H ρ st Q R G q pins s I=>h.run Γ σ H ρ st Q R G q _ pins s I⟩
theorem Qkg (I:SimT X E a ta):SimW X E (.BoolOp .And [a] pos) ta:=⟨λΓ σ H ρ st Q R G h=>WW.of (Qmb Q8g) (I.use R G h λ_ _ _ _ _ _ _ q=>q)⟩
theorem Qr1 (I:SimT X E a ta):SimW X E (.BoolOp .Or [a] pos) ta:=⟨λΓ σ H ρ st Q R G h=>WW.of (Qrw Q8g) (I.use R G h λ_ _ _ _ _ _ _ q=>q)⟩
theorem Qr2 (J:SimT X E a ta) (Y:SimW X E (.BoolOp .And (b :: rest) pos) tb):SimW X E (.BoolOp .And (a :: b :: rest) pos) (jw ta tb):=
 ⟨λΓ σ H ρ st Q R G h=>WW.of (Qrx Q8g Qvz) (J.use R G h.bind λk Z H1 ρ1 x1 I O h1=>by
  cases k with
  | true=>rw [bT rfl] at h1 ⊢; exact Y.use I O h1 λ_ _ _ _ _ _ _ q=>q
  | false=>rw [bU D2] at h1 ⊢; exact h1 H1 ρ1 (Ext.refl _ _) I)⟩
theorem Qvi (J:SimT X E a ta) (Y:SimW X E (.BoolOp .Or (b :: rest) pos) tb):SimW X E (.BoolOp .Or (a :: b :: rest) pos) (Yg ta tb):=
 ⟨λΓ σ H ρ st Q R G h=>WW.of (Qw0 Q8g Qvz) (J.use R G h.bind λk Z H1 ρ1 x1 I O h1=>by
  cases k with
  | true=>rw [bT rfl] at h1 ⊢; exact h1 H1 ρ1 (Ext.refl _ _) I
  | false=>rw [bU D2] at h1 ⊢; exact Y.use I O h1 λ_ _ _ _ _ _ _ q=>q)⟩
theorem Qr4 (q:SimT X E a ta):SimT X E (.UnaryOp .Not a pos) (J9 ta):=
 ⟨λΓ σ H ρ st Q R G h=>WT.of (Qrz Q8g) (q.use R G h.bind λk J H1 ρ1 x1 I O h1=>h1 H1 ρ1 (Ext.refl _ _) I)⟩
variable {e:aH} {es:List aH} {m:ME} {mr:Gam->Q0->Res (List PV)}
def Q4:Gam->Q0->Res (List PV):=λ_ st=>.ok [] st
def Q1 (m:ME) (mr:Gam->Q0->Res (List PV)):Gam->Q0->Res (List PV):=λΓ st=>(m Γ st).bind λp st1=>(mr Γ st1).bind λps st2=>.ok (p :: ps) st2
theorem Ji:SimA X E [] Q4:=⟨λΓ σ H ρ st Q R G h=>WA.of Xa (h H ρ (Ext.refl _ _) R [] rfl)⟩
theorem Qf (J:SimE X E e m) (hr:SimA X E es mr) (hs:aN (e :: es) X.env=(yo,aO e X.env) :: aN es X.env:=by rfl):SimA X E (e :: es) (Q1 m mr):=
 ⟨λΓ σ H ρ st Q R G h=>WA.of (Wj Jc Q02 hs) (J.use R G h.bind λp a1 H1 ρ1 v x1 Z O I h1=>hr.use Z O h1.bind λps Y H2 q vs x2 R2 G2 r2 h2=>
  h2 H2 q (Ext.refl _ _) R2 (v :: vs) ⟨v,vs,rfl,I.ext x2,r2⟩)⟩
def Ym (mr:Gam->Q0->Res (List PV)):ME:=λΓ st=>(mr Γ st).bind λps st1=>if ps.length<=lim then .ok (.tup ps) st1 else .stuck
def x9 (mr:Gam->Q0->Res (List PV)):ME:=λΓ st=>(mr Γ st).bind λps st1=>if ps.length<=lim then .ok (.lst ps) st1 else .stuck
theorem zh {k:Nat} (h:SimA X E es mr):SimE X E (.Tuple es k pos) (Ym mr):=
 ⟨λΓ σ H ρ st Q R G J=>WE.of (Qsa Q02) (h.use R G J.bind λps Y H1 ρ1 vs x1 O Z I h1=>by
  by_cases q:ps.length<=lim
  ·rw [bT q] at h1;exact ⟨by rw [<- I.length]; exact Zy q,yx O h1 I⟩
  ·rw [bU q] at h1; exact h1.elim)⟩
theorem Qgi (h:SimA X E es mr):SimE X E (.List es pos) (x9 mr):=
 ⟨λΓ σ H ρ st Q R G J=>WE.of (Qhg Q02) (h.use R G J.bind λps Y H1 ρ1 vs x1 O Z I h1=>by
  by_cases q:ps.length<=lim
  ·rw [bT q] at h1;exact ⟨by rw [<- I.length]; exact Zy q,jd O h1 I⟩
  ·rw [bU q] at h1; exact h1.elim)⟩
end
end Sm
namespace HT
open PySem PySem.Spec PyProof.Rows
variable {prog:aK} {A:aL} {E:aA->aC->Prop} {s:aC}
section
variable {w:aJ}
theorem getItem_tuple_whole {t Y:aB} {q:Array aA} {vl vu:aA} {lo hi:Option Int} {Q:aA->aC->Prop} (I:IsTup s.heap t q) (hs:s.heap.IsSliceOf Y vl vu .none) (pl:IsPart vl lo) (pu:IsPart vu hi)
  (hw:sIx q.size 0 lo=0/\sIx q.size q.size hi=q.size)
  (h:Q (.ref t) s):aF (aI prog w) A (getItem (.ref t) (.ref Y)) Q E s:=by
 obtain ⟨os,O,Z,a1⟩:=id hs;have J:s.TypeIs (.ref Y) "slice" := ⟨os,O,Z⟩;unfold getItem
 try with_reducible refine ak ?_
 first | refine aD (wpAny_pure ?_) | skip
 refine aD (wpAny_sequenceKey I.typeIs (by decide) ?_);refine aD (wpAny_callSpecial?_slot (name:=cE "__getitem__") I.typeIs dj
  (ah dj I.typeIs entry_tuple_getitem ?_ (args_tuple_getitem _ _)))
 show aF _ _ (Builtin.Tuple.tupleItemsOf (.ref t) >>= _) _ _ s;refine aD (tupleItemsOf_ I ?_);refine aD (bB J ?_);rw [bT (by decide)];refine aD (Xn hs pl pu ?_);have G:(((sIx q.size 0 lo:Nat):Int) == 0 && (1:Int) == 1 && (sIx q.size q.size hi - sIx q.size 0 lo) == q.size)=zb:=by
  rw [hw.1,hw.2]; simp
 show aF _ _ (if (((sIx q.size 0 lo:Nat):Int) == 0 && (1:Int) == 1 && (sIx q.size q.size hi - sIx q.size 0 lo) == q.size)=zb then _ else _) _ _ s;rw [bT G];refine aD (aD (bB I.typeIs (wpAny_pure ?_)));rw [bT (by rfl)];exact aD (bH (wpAny_pure ⟨_,rfl,wpAny_pure h⟩))
end
end HT
namespace L2
open PySem PySem.Spec PyProof.Rows
def Qzh (K:bX):V->Option Int->Option Int->Hp->VK->Prop:=λx lo hi H Q=>∃ a xs,x=.ref a/\SqT K H a xs /\
 (HT.sIx xs.length 0 lo=0/\HT.sIx xs.length xs.length hi=xs.length)/\Q (.ref a) H
theorem sl_whole {X:Cx}:SlR X (Qzh X.K):=by
 intro pins s σ H x v vl vu lo hi sl Q I O hs Y pu h;obtain ⟨a,xs,rfl,hx,Z,q⟩:=h;cases O;obtain ⟨its,r,J,hz⟩:=I.tuple hx;have G:its.toArray.size=xs.length:=by rw [D0]; exact r.length.symm
 refine ⟨"tuple",_,PyProof.Rows.slot_tuple_getitem.lookup,J.typeIs,?_⟩;exact HT.getItem_tuple_whole J hs Y pu (by rw [G]; exact Z) ⟨.ref a,H,I,rfl,q⟩
end L2
namespace Sm
open PySem PySem.Spec L2
variable {H H1:Hp} {ρ:Tk} {p:PV} {x:Str} {σ:St} {st:Q0} {xs ps:List PV} {vs:List V} {o:CF} {Q:VK} {T:String} {K:bX} {v:V} {tp:Pos} {e c:aH} {es:List aH} {n k kt:Nat} {mg:zAE} {b:aB} {hs:List aB} {α β:Type} {Γ:Gam} {P:List PV->Q0->Hp->Tk->Prop} {s:aM} {fd:aP}
variable {X:Cx} {E:XK} {pos:Pos}
def oI (g:Int->Int->PV):OP:=λst p q=>match p,q with
 | .int a,.int b=>.ok (g a b) st
 | _,_=>.stuck
def Zj:OP:=λst p q=>match p,q with
 | .int a,.int b=>.ok (.int (a + b)) st
 | .str a,.str b=>if a.length + b.length<=lim then .ok (.str (a ++ b)) st else .stuck
 | .tup xs,.tup ys=>if xs.length + ys.length<=lim then .ok (.tup (xs ++ ys)) st else .stuck
 | p,q=>match U4 st p,U4 st q with
  | some xs,zo ys=>if xs.length + ys.length<=lim then .ok (.lst (xs ++ ys)) st else .stuck
  | _,_=>.stuck
theorem Qsq:OpS X E (ae .Add) Zj:=⟨λH ρ st p q x y Q R Z rq h=>by
 unfold Zj at h
 split at h
 ·cases Z; cases rq;exact WO.of Qsz ⟨_,_,rfl,rfl,now R h rfl⟩
 ·cases Z; cases rq
  split at h
  ·rename_i J;exact WO.of Qaq ⟨_,_,rfl,rfl,Zy J,now R h rfl⟩
  ·exact h.elim
 ·split at h
  ·rename_i xs ys J;obtain ⟨a,vs,rfl,O,na,G⟩:=Z;obtain ⟨b,us,rfl,Y,nb,I⟩:=rq;refine WO.of Qn9 ?_
   by_cases e:xs=[]
   ·subst e;cases G;exact .inr ⟨a,b,us,rfl,rfl,SqT.of O,SqT.of Y,now R h ⟨b,us,rfl,Y,nb,I⟩⟩
   ·refine .inl ⟨a,b,vs,us,rfl,rfl,SqT.of O,SqT.of Y,λz=>e ?_,by rw [<- G.length,<- I.length]; exact Zy J,λz=>?_,λz=>yx R h (G.append I)⟩
    ·subst z;cases xs with
     | nil=>rfl
     | cons _ _=>have:=G.length; simp at this
    ·subst z;have:ys=[]:=by
      cases ys with
      | nil=>rfl
      | cons _ _=>have:=I.length; simp at this
     subst this;rw [L1] at h;exact now R h ⟨a,vs,rfl,O,na,G⟩
  ·exact h.elim
 ·split at h
  ·rename_i xs ys e1 e2
   split at h
   ·rename_i J;obtain ⟨a,vs,rfl,O,G⟩:=zx R Z e1;obtain ⟨b,us,rfl,Y,I⟩:=zx R rq e2;exact WO.of Qhx ⟨a,b,vs,us,rfl,rfl,O,Y,by rw [<- G.length,<- I.length]; exact Zy J,jd R h (G.append I)⟩
   ·exact h.elim
  ·exact h.elim⟩
theorem Qsh:OpS X E (ae .Sub) (oI λa b=>.int (a - b)):=⟨λH ρ st p q x y Q R G I h=>by
 unfold oI at h
 split at h
 ·cases G; cases I;exact WO.of Qsr ⟨_,_,rfl,rfl,now R h rfl⟩
 ·exact h.elim⟩
def qd:OP:=λst p q=>match p,q with
 | .int a,.int b=>if (-(2 ^ 64) < a/\a < 2 ^ 64)\/(-(2 ^ 64) < b/\b < 2 ^ 64) then .ok (.int (a * b)) st else .stuck
 | .tup xs,.int b=>if xs≠[]/\1<=b/\xs.length * b.toNat<=4096 then .ok (.tup (bc b.toNat xs).flatten) st else .stuck
 | p,.int b=>match U4 st p with
  | some xs=>if -(2 ^ 63)<=b/\b < 2 ^ 63/\xs.length * b.toNat<=lim then .ok (.lst (bc b.toNat xs).flatten) st else .stuck
  | none=>.stuck
 | _,_=>.stuck
theorem Qsj:OpS X E (ae .Mult) qd:=⟨λH ρ st p q x y Q R O Y h=>by
 unfold qd at h
 split at h
 ·cases O; cases Y
  split at h
  ·rename_i G;exact WO.of Qsu ⟨_,_,rfl,rfl,G,now R h rfl⟩
  ·exact h.elim
 ·cases Y
  split at h
  ·rename_i xs b G;obtain ⟨a,vs,rfl,J,na,I⟩:=O;refine WO.of Qn7 ⟨a,b,vs,rfl,rfl,SqT.of J,λz=>G.1 ?_,G.2.1,by rw [<- I.length]; exact G.2.2,λz=>?_,λz=>yx R h (I.rep _)⟩
   ·subst z;cases xs with
    | nil=>rfl
    | cons _ _=>have:=I.length; simp at this
   ·subst z;have Z:(bc (Int.toNat 1) xs).flatten=xs:=by simp
    rw [Z] at h;exact now R h ⟨a,vs,rfl,J,na,I⟩
  ·exact h.elim
 ·cases Y
  split at h
  ·rename_i xs Z
   split at h
   ·rename_i G;obtain ⟨a,vs,rfl,J,I⟩:=zx R O Z;exact WO.of Qss ⟨a,_,vs,rfl,rfl,J,G.1,G.2.1,by rw [<- I.length]; exact Zy G.2.2,jd R h (I.rep _)⟩
   ·exact h.elim
  ·exact h.elim
 ·exact h.elim⟩
def Kn:OP:=λst p q=>match p,q with
 | .int a,.int b=>if 0 < b then .ok (.int (a % b)) st else .stuck
 | _,_=>.stuck
theorem Qsk:OpS X E (ae .Mod) Kn:=⟨λH ρ st p q x y Q R G J h=>by
 unfold Kn at h
 split at h
 ·cases G; cases J
  split at h
  ·rename_i I;exact WO.of Qsv ⟨_,_,rfl,rfl,I,now R h rfl⟩
  ·exact h.elim
 ·exact h.elim⟩
def Qat:OP:=λst p q=>match p,q with
 | .int a,.int b=>if 0<=b/\b<=1000000/\a.natAbs < 2 ^ 64 then .ok (.int (a ^ b.toNat)) st else .stuck
 | _,_=>.stuck
theorem Qsi:OpS X E (ae .Pow) Qat:=⟨λH ρ st p q x y Q R G J h=>by
 unfold Qat at h
 split at h
 ·cases G; cases J
  split at h
  ·rename_i I;exact WO.of Qst ⟨_,_,rfl,rfl,I,now R h rfl⟩
  ·exact h.elim
 ·exact h.elim⟩
theorem Qau {op:CmpOp} {g:Int->Int->Bool} (J:OpR X (aS op) (rI0 λi j=>.bl (g i j))):OpS X E (aS op) (oI λa b=>.bl (g a b)):=⟨λH ρ st p q x y Q R G I h=>by
 unfold oI at h
 split at h
 ·cases G; cases I;exact WO.of J ⟨_,_,rfl,rfl,now R h rfl⟩
 ·exact h.elim⟩
theorem Qwa:OpS X E (aS .LtE) (oI λa b=>.bl (decide (a<=b))):=Qau Qqe
theorem Qwc:OpS X E (aS .Gt) (oI λa b=>.bl (decide (b < a))):=Qau Qwg
theorem Qwd:OpS X E (aS .GtE) (oI λa b=>.bl (decide (b<=a))):=Qau Qwh
def Q0j:List PV->Option (List Int)
 | []=>zo []
 | .int i :: ps=>(Q0j ps).map (i :: ·)
 | _ :: _=>zl
def Q1a:List PV->Option (List Bool)
 | []=>zo []
 | .bl i :: ps=>(Q1a ps).map (i :: ·)
 | _ :: _=>zl
theorem Qps (ns:List Bool):Q1a (ns.map .bl)=zo ns:=by
 induction ns with
 | nil=>rfl
 | cons n ns q=>rw [D5,Q1a,q]; rfl
theorem Q75:∀ {ps:List PV} {ns:List Int},Q0j ps=zo ns->ps=ns.map .int
 | [],ns,h=>by cases h; rfl
 | .int i :: ps,ns,h=>by
  rw [Q0j] at h;cases e:Q0j ps with
  | none=>rw [e] at h; cases h
  | some ms=>rw [e] at h; cases h; rw [Q75 e]; rfl
 | .non :: _,_,h | .bl _ :: _,_,h | .str _ :: _,_,h | .tup _ :: _,_,h | .lst _ :: _,_,h | .fro _ :: _,_,h | .ref _ :: _,_,h | .dic :: _,_,h=>by cases h
theorem Qk1:∀ {ps:List PV} {ns:List Bool},Q1a ps=zo ns->ps=ns.map .bl
 | [],ns,h=>by cases h; rfl
 | .bl i :: ps,ns,h=>by
  rw [Q1a] at h;cases e:Q1a ps with
  | none=>rw [e] at h; cases h
  | some ms=>rw [e] at h; cases h; rw [Qk1 e]; rfl
 | .non :: _,_,h | .int _ :: _,_,h | .str _ :: _,_,h | .tup _ :: _,_,h | .lst _ :: _,_,h | .fro _ :: _,_,h | .ref _ :: _,_,h | .dic :: _,_,h=>by cases h
def oLt:OP:=λst p q=>match p,q with
 | .int a,.int b=>.ok (.bl (decide (a < b))) st
 | .tup xs,.tup ys=>match Q0j xs,Q0j ys with
  | some ns,zo ms=>.ok (.bl (HT.lexLt ns ms)) st
  | _,_=>.stuck
 | _,_=>.stuck
theorem Qw9 (hu:X.A.units + 64 < aQ):OpS X E (aS .Lt) oLt:=⟨λH ρ st p q x y Q R G I h=>by
 unfold oLt at h
 split at h
 ·cases G; cases I;exact WO.of Qwf ⟨_,_,rfl,rfl,now R h rfl⟩
 ·split at h
  ·rename_i ns ms e1 e2;obtain ⟨a,vs,rfl,J,na,Z⟩:=G;obtain ⟨b,us,rfl,Y,nb,O⟩:=I;rw [Q75 e1] at Z;rw [Q75 e2] at O;rw [Z.toInts] at J;rw [O.toInts] at Y;exact WO.of (Qsw (by omega)) ⟨a,b,ns,ms,rfl,rfl,SqT.of J,SqT.of Y,now R h rfl⟩
  ·exact h.elim
 ·exact h.elim⟩
def dep:Nat:=12
def oEq:OP:=λst p q=>if good dep (der st p)=zb/\good dep (der st q)=zb then .ok (.bl (peq (der st p) (der st q))) st else .stuck
def oNe:OP:=λst p q=>if good dep (der st p)=zb/\good dep (der st q)=zb then .ok (.bl (!peq (der st p) (der st q))) st else .stuck
theorem Qwe (Y:X.A.units + 64 < aQ):OpS X E (aS .Eq) oEq:=⟨λH ρ st p q x y Q R G J h=>by
 unfold oEq at h
 split at h
 ·rename_i g;intro pins s σ v u I O ru;exact (Qd7 dep I g.1 g.2 (by unfold dep; omega) (jq R g.1 G) O (jq R g.2 J) ru).2.1 _ _ _ _ ⟨.bl _,H,I,rfl,now R h rfl⟩
 ·exact h.elim⟩
theorem Qw8 (Y:X.A.units + 64 < aQ):OpS X E (aS .NotEq) oNe:=⟨λH ρ st p q x y Q R G J h=>by
 unfold oNe at h
 split at h
 ·rename_i g;intro pins s σ v u I O ru;exact (Qd7 dep I g.1 g.2 (by unfold dep; omega) (jq R g.1 G) O (jq R g.2 J) ru).2.2 _ _ _ _ ⟨.bl _,H,I,rfl,now R h rfl⟩
 ·exact h.elim⟩
def Q9c:PV->Bool
 | .non=>zb
 | _=>yo
theorem Q5k {x:V} (r:Rep H ρ p x):decide (x=.non)=Q9c p:=by
 cases p with
 | non=>cases r; rfl
 | bl _=>cases r; rfl
 | int _=>cases r; rfl
 | str _=>cases r; rfl
 | tup _=>obtain ⟨_,_,rfl,_⟩:=r; rfl
 | lst _=>obtain ⟨_,_,rfl,_⟩:=r; rfl
 | fro _=>obtain ⟨_,_,rfl,_⟩:=r; rfl
 | ref _=>obtain ⟨_,_,rfl⟩:=r; rfl
 | dic=>obtain ⟨_,rfl,_⟩:=r; rfl
def oIs:OP:=λst p q=>match q with
 | .non=>.ok (.bl (Q9c p)) st
 | .bl c=>match p with
  | .bl b=>.ok (.bl (b == c)) st
  | _=>.stuck
 | _=>.stuck
def K6:OP:=λst p q=>match q with
 | .non=>.ok (.bl (!Q9c p)) st
 | .bl c=>match p with
  | .bl b=>.ok (.bl (b != c)) st
  | _=>.stuck
 | _=>.stuck
theorem Qwb:OpS X E (aS .Is) oIs:=⟨λH ρ st p q x y Q R G I h=>by
 unfold oIs at h
 split at h
 ·cases I;refine WO.of Qsy ⟨rfl,?_⟩;rw [Q5k G];exact now R h rfl
 ·split at h
  ·cases G; cases I;exact WO.of Qhu ⟨_,_,rfl,rfl,now R h rfl⟩
  ·exact h.elim
 ·exact h.elim⟩
theorem Qhs:OpS X E (aS .IsNot) K6:=⟨λH ρ st p q x y Q R G I h=>by
 unfold K6 at h
 split at h
 ·cases I;refine WO.of Qn8 ⟨rfl,?_⟩;rw [Q5k G];exact now R h rfl
 ·split at h
  ·cases G; cases I;exact WO.of Q8m ⟨_,_,rfl,rfl,now R h rfl⟩
  ·exact h.elim
 ·exact h.elim⟩
def oIn (neg:Bool):OP:=λst p q=>match U3 st q with
 | some xs=>if good dep (der st p)=zb/\xs.all (good dep)=zb then .ok (.bl ((xs.any λy=>peq y (der st p)) != neg)) st else .stuck
 | none=>.stuck
open Classical in
theorem xj {pins:zAA} {s:aC} {A:aL} {p:PV} {xs:List PV} {x:V} {v:aA} {vs:List V} {its:List aA} (I:Inv X pins σ H s) (hu:A.units + dep < aQ) (R:Rel H ρ st)
  (gp:good dep (der st p)=zb) (gx:xs.all (good dep)=zb) (rp:Rep H ρ p x) (rv:RelV x v) (ra:RepL H ρ xs vs) (vi:Vals vs its):∃ e:aA->Bool,(∀ u,u∈its.toArray->SeqAt.EqAt A s u v (e u))/\its.toArray.any e=xs.any λy=>peq y (der st p):=by
 have a2:∀ u∈its,∃ q∈xs,∃ y,Rep H Tk.nil q y/\RelV y u:=λu hu=>by
  obtain ⟨j,hj,rfl⟩:=G6 hu;have l1:=vi.length;have l2:=ra.length;obtain ⟨y,e1,e2⟩:=(repL_nil gx ra).get (O2 (show j < xs.length by omega));obtain ⟨w,Z,e4⟩:=vi.get e1;rw [O2 hj] at Z; cases Z;exact ⟨_,L7 _,y,e2,e4⟩
 refine ⟨λu=>decide (∃ q∈xs,∃ y,Rep H Tk.nil q y/\RelV y u/\peq q (der st p)=zb),λu hm=>?_,?_⟩
 ·have a1:u∈its:=by simpa using hm
  by_cases z:∃ q∈xs,∃ y,Rep H Tk.nil q y/\RelV y u/\peq q (der st p)=zb
  ·show SeqAt.EqAt A s u v (decide _);rw [bW z];obtain ⟨q,G,y,O,J,e⟩:=z;have:=(Qd7 dep I ((E8.mp gx) q G) gp hu O J (jq R gp rp) rv).1;rw [e] at this;exact this
  ·show SeqAt.EqAt A s u v (decide _);rw [bV z];obtain ⟨q,G,y,O,J⟩:=a2 u a1;have:=(Qd7 dep I ((E8.mp gx) q G) gp hu O J (jq R gp rp) rv).1;cases e:peq q (der st p) with
   | true=>exact absurd ⟨q,G,y,O,J,e⟩ z
   | false=>rw [e] at this; exact this
 ·rw [fk,Array.any_eq_true,cM];constructor
  ·rintro ⟨j,hj,e⟩;obtain ⟨q,G,y,O,J,e⟩:=of_decide_eq_true e;exact ⟨q,G,e⟩
  ·rintro ⟨q,G,e⟩;obtain ⟨j,hj,rfl⟩:=G6 G;have l1:=vi.length;have l2:=ra.length;have Y:j < its.length:=by omega
   obtain ⟨y,e1,e2⟩:=(repL_nil gx ra).get (O2 hj);obtain ⟨w,Z,e4⟩:=vi.get e1;refine ⟨j,by simpa using Y,bW ⟨_,G,y,e2,?_,e⟩⟩;rw [O2 Y] at Z; cases Z;simpa using e4
theorem Qqd (hu:X.A.units + 64 < aQ):OpS X E (aS .In) (oIn yo):=⟨λH ρ st p q x y Q R Y rq h=>by
 unfold oIn at h
 split at h
 ·rename_i xs es
  split at h
  ·rename_i g;obtain ⟨t,a,vs,rfl,Z,ra⟩:=xy (K:=X.K) R rq es;intro pins s σ v u I rv ru;cases ru;rw [cb] at h;cases t with
   | true=>
    obtain ⟨its,r,G,hz⟩:=I.tuple Z;obtain ⟨e,O,J⟩:=xj (A:=X.A.in1) I (by show X.A.units + 1 + dep < aQ; unfold dep; omega) R g.1 g.2 Y rv ra r;refine SeqAt.in_tupleAt e G O ⟨.bl _,H,I,rfl,?_⟩;rw [J];exact now R h rfl
   | false=>
    obtain ⟨its,r,G,hz⟩:=I.list Z;obtain ⟨e,O,J⟩:=xj (A:=X.A.in1) I (by show X.A.units + 1 + dep < aQ; unfold dep; omega) R g.1 g.2 Y rv ra r;refine SeqAt.in_listAt e G.isList O ⟨.bl _,H,I,rfl,?_⟩;rw [J];exact now R h rfl
  ·exact h.elim
 ·exact h.elim⟩
theorem Qhr (hu:X.A.units + 64 < aQ):OpS X E (aS .NotIn) (oIn zb):=⟨λH ρ st p q x y Q R Y rq h=>by
 unfold oIn at h
 split at h
 ·rename_i xs es
  split at h
  ·rename_i g;obtain ⟨t,a,vs,rfl,Z,ra⟩:=xy (K:=X.K) R rq es;intro pins s σ v u I rv ru;cases ru;rw [Bool.bne_true] at h;cases t with
   | true=>
    obtain ⟨its,r,G,hz⟩:=I.tuple Z;obtain ⟨e,O,J⟩:=xj (A:=X.A.in1) I (by show X.A.units + 1 + dep < aQ; unfold dep; omega) R g.1 g.2 Y rv ra r;refine SeqAt.notIn_tupleAt e G O ⟨.bl _,H,I,rfl,?_⟩;rw [J];exact now R h rfl
   | false=>
    obtain ⟨its,r,G,hz⟩:=I.list Z;obtain ⟨e,O,J⟩:=xj (A:=X.A.in1) I (by show X.A.units + 1 + dep < aQ; unfold dep; omega) R g.1 g.2 Y rv ra r;refine SeqAt.notIn_listAt e G.isList O ⟨.bl _,H,I,rfl,?_⟩;rw [J];exact now R h rfl
  ·exact h.elim
 ·exact h.elim⟩
variable {H:Hp} {ρ:Tk}
theorem RepL.atI {ps:List PV} {vs:List V} {i:Int} {p:PV} (r:RepL H ρ ps vs) (e:atI ps i=zo p):∃ v,L2.atI vs i=zo v/\Rep H ρ p v:=by
 unfold L2.atI at e ⊢;rw [<- r.length];cases q:ixN ps.length i with
 | none=>rw [q] at e; cases e
 | some j=>
  rw [q] at e;exact r.get e
def cut {α:Type} (xs:List α) (lo hi:Option Int):List α:=(xs.drop (HT.sIx xs.length 0 lo)).take (HT.sIx xs.length xs.length hi - HT.sIx xs.length 0 lo)
theorem RepL.cut (r:RepL H ρ ps vs) (lo hi:Option Int):RepL H ρ (Sm.cut ps lo hi) (Q9r vs lo hi):=by
 unfold Sm.cut Q9r;rw [<- r.length];exact (r.drop _).take _
section
variable {X:Cx} {E:XK} {pos:Pos} {a b:aH} {ma mb:ME}
def oIx:OP:=λst p q=>match U3 st p,q with
 | some xs,.int i=>okO st (atI xs i)
 | _,_=>.stuck
theorem Qgj (ha:SimE X E a ma) (hb:SimE X E b mb) (hs:Q7k b:=by exact λ_ _=>rfl):SimE X E (.Subscript a b pos) (mOp oIx ma mb):=
 ⟨λΓ σ H ρ st Q R G h=>WE.of (Qqc Qiq Jc Jc hs) (ha.use R G h.bind λp a2 H1 ρ1 v x1 R1 G1 r1 h1=>hb.use R1 G1 h1.bind λq Z H2 a1 u x2 R2 G2 r2 h2=>by
  unfold oIx at h2
  split at h2
  ·rename_i xs i e;cases r2;cases I:atI xs i with
   | none=>rw [I] at h2; exact h2.elim
   | some w=>
    rw [I] at h2;obtain ⟨t,b,vs,rfl,J,ra⟩:=xy (K:=X.K) R2 (r1.ext x2) e;obtain ⟨z,O,Y⟩:=ra.atI I;cases t with
    | true=>exact .inr (.inl ⟨b,vs,i,z,rfl,rfl,J,O,now R2 h2 Y⟩)
    | false=>exact .inl ⟨b,vs,i,z,rfl,rfl,J,O,now R2 h2 Y⟩
  ·exact h2.elim)⟩
structure SimO (X:Cx) (E:XK) (o:Option aH) (m:Gam->Q0->Res (Option Int)):Prop where
 run:∀ (Γ:Gam) (σ:St) (H:Hp) (ρ:Tk) (st:Q0) (P:Option Int->Q0->Hp->Tk->Prop) (Q:Option Int->Hp->Prop),Rel H ρ st->EnvR H ρ Γ σ->Acc X.mg E H ρ P (m Γ st) ->
  (∀ i st1 H1 ρ1,Ext H ρ H1 ρ1->Rel H1 ρ1 st1->EnvR H1 ρ1 Γ σ->P i st1 H1 ρ1->Q i H1)->∃ t,PO X o t/\t σ H Q
def U7:Gam->Q0->Res (Option Int):=λ_ st=>.ok zl st
def qp (m:ME):Gam->Q0->Res (Option Int):=λΓ st=>(m Γ st).bind λp st1=>match p with
 | .int i=>.ok (zo i) st1
 | _=>.stuck
theorem Qks:SimO X E zl U7:=⟨λΓ σ H ρ st P Q R G h k=>⟨_,Qmq,k zl st H ρ (Ext.refl _ _) R G (h H ρ (Ext.refl _ _) R)⟩⟩
theorem Qkr (J:SimE X E a ma):SimO X E (zo a) (qp ma):=⟨λΓ σ H ρ st P Q R G h k=>⟨_,Qmp Jc,J.use R G h.bind λp q H1 ρ1 v x1 I O Y h1=>by
 cases p with
 | int i=>exact ⟨i,Y,k (zo i) q H1 ρ1 x1 I O (h1 H1 ρ1 (Ext.refl _ _) I)⟩
 | _=>exact h1.elim⟩⟩
def oSl (st:Q0) (p:PV) (lo hi:Option Int):Res PV:=match p with
 | .tup xs=>.ok (.tup (cut xs lo hi)) st
 | p=>match U0 st p with
  | some xs=>.ok (.lst (cut xs lo hi)) st
  | none=>.stuck
def mSl (ma:ME) (ml mh:Gam->Q0->Res (Option Int)):ME:=λΓ st=>(ma Γ st).bind λp st1=>(ml Γ st1).bind λlo st2=>(mh Γ st2).bind λhi st3=>oSl st3 p lo hi
def TO.w (X:Cx) (o:Option aH):TO:=λσ H Q=>∃ t,PO X o t/\t σ H Q
theorem Qw3 {o:Option aH}:PO X o (TO.w X o):=λpins s σ H Q I ⟨t,h,q⟩=>h pins s σ H Q I q
theorem Qgh {lo hi:Option aH} {ml mh:Gam->Q0->Res (Option Int)} {p2:Pos} (I:SimE X E a ma) (hl:SimO X E lo ml) (hh:SimO X E hi mh):SimE X E (.Subscript a (.Slice lo hi zl p2) pos) (mSl ma ml mh):=
 ⟨λΓ σ H ρ st Q R G h=>WE.of (Qhf (sl_tup.or (sl_whole.or Qkv)) Jc Qw3 Qw3) (I.use R G h.bind λp a2 H1 ρ1 v x1 R1 G1 r1 h1=>by
  refine hl.run Γ σ H1 ρ1 a2 _ _ R1 G1 h1.bind λl Z H2 a1 x2 R2 G2 h2=>?_
  refine hh.run Γ σ H2 a1 Z _ _ R2 G2 h2.bind λu a4 H3 a3 x3 O G3 q=>?_
  have r3:=r1.ext (x2.trans x3);unfold oSl at q
  split at q
  ·rename_i xs;obtain ⟨a,vs,rfl,I,na,J⟩:=r3
   by_cases Y:HT.sIx vs.length 0 l=0/\HT.sIx vs.length vs.length u=vs.length
   ·refine .inr (.inl ⟨a,vs,rfl,SqT.of I,Y,?_⟩);have e:cut xs l u=xs:=by
     unfold cut;rw [J.length,Y.1,Y.2,eO,iR,<- J.length,eL]
    rw [e] at q;exact now O q ⟨a,vs,rfl,I,na,J⟩
   ·exact .inl ⟨a,vs,rfl,SqT.of I,Y,yx O q (J.cut l u)⟩
  ·split at q
   ·rename_i xs e;obtain ⟨a,vs,rfl,I,J⟩:=Uw O r3 e;exact .inr (.inr ⟨a,vs,rfl,.inl I,jd O q (J.cut l u)⟩)
   ·exact q.elim)⟩
variable {es:List aH} {e:aH} {mr:Gam->Q0->Res (List PV)}
def Qi (o:CF) (mr:Gam->Q0->Res (List PV)):ME:=λΓ st=>(mr Γ st).bind λps st1=>o st1 ps
theorem CallS.use {f:aA} (s:CallS X E f o) {P:PV->Q0->Hp->Tk->Prop} {Q:VK} {xs:List V} (R:Rel H ρ st) (J:RepL H ρ ps xs) (h:Acc X.mg E H ρ P (o st ps))
  (k:∀ p q H1 ρ1 v,Ext H ρ H1 ρ1->Rel H1 ρ1 q->Rep H1 ρ1 p v->P p q H1 ρ1->Q v H1):WC X f xs H Q:=by
 refine s.run H ρ st ps xs Q R J ?_;cases r:o st ps with
 | ok p q=>rw [r] at h; exact λH' ρ' I G v O=>k p q H' ρ' v I G O (h H' ρ' I G)
 | exc e st=>rw [r] at h; exact h
 | stuck=>rw [r] at h; exact h
theorem Qgn {id:String} {p:Pos} (hc:CallS X E (.builtin id) o) (hg:Gl X x) (hm:X.mg x=zl) (O:aX x=zo (.builtin id)) (Y:SimA X E (e :: es) mr) (Z:x≠"__name__" := by decide) (I:(x == ("__debug__" : Str))=yo:=by decide)
  (he:aN (e :: es) X.env=(yo,aO e X.env) :: aN es X.env:=by rfl) (J:(aY pos (aN es X.env)).any (·.1)=yo:=by rfl):SimE X E (.Call (.Name x p) (e :: es) [] pos) (Qi o mr):=
 ⟨λΓ σ H ρ st Q R G h=>WE.of (yq Qjr hg hm O Q02 Z I he J) (Y.use R G h.bind λps a1 H1 ρ1 vs x1 R1 G1 r1 h1=>hc.use R1 r1 h1 λ_ _ _ _ v _ _ r q=>q v r)⟩
theorem Xp {p:Pos} (hc:CallS X E (.type T) o) (hg:Gl X x) (hm:X.mg x=zl) (O:aX x=zo (.type T)) (Y:SimA X E (e :: es) mr) (Z:x≠"__name__" := by decide) (I:(x == ("__debug__" : Str))=yo:=by decide)
  (he:aN (e :: es) X.env=(yo,aO e X.env) :: aN es X.env:=by rfl) (J:(aY pos (aN es X.env)).any (·.1)=yo:=by rfl):SimE X E (.Call (.Name x p) (e :: es) [] pos) (Qi o mr):=
 ⟨λΓ σ H ρ st Q R G h=>WE.of (Xq Qjr hg hm O Q02 Z I he J) (Y.use R G h.bind λps a1 H1 ρ1 vs x1 R1 G1 r1 h1=>hc.use R1 r1 h1 λ_ _ _ _ v _ _ r q=>q v r)⟩
theorem Zd {xs:List V} (r:RepL H ρ [p] xs):∃ v,xs=[v]/\Rep H ρ p v:=by
 obtain ⟨v,t,rfl,h1,h2⟩:=r;cases h2;exact ⟨v,rfl,h1⟩
theorem Qgt {q:PV} {xs:List V} (r:RepL H ρ [p,q] xs):∃ v u,xs=[v,u]/\Rep H ρ p v/\Rep H ρ q u:=by
 obtain ⟨v,t,rfl,h1,h2⟩:=r;obtain ⟨u,rfl,G⟩:=Zd h2;exact ⟨v,u,rfl,h1,G⟩
def Je:CF:=λst ps=>match ps with
 | [p]=>match U3 st p with
  | some xs=>.ok (.int xs.length) st
  | none=>match p with
   | .str x=>if x.length<=lim then .ok (.int x.length) st else .stuck
   | _=>.stuck
 | _=>.stuck
theorem Qu5:CallS X E (.builtin "len") Je:=⟨λH ρ st ps xs Q R q h=>by
 unfold Je at h
 split at h
 ·rename_i p;obtain ⟨v,rfl,r⟩:=Zd q
  split at h
  ·rename_i ys e;obtain ⟨t,a,vs,rfl,G,J⟩:=xy (K:=X.K) R r e;rw [J.length] at h;exact WC.of Q7g ⟨a,vs,rfl,Qg7 G,now R h rfl⟩
  ·split at h
   ·cases r
    split at h
    ·rename_i I;exact WC.of Q7f ⟨_,rfl,Zy I,now R h rfl⟩
    ·exact h.elim
   ·exact h.elim
 ·exact h.elim⟩
def Uk (g:List Bool->PV):CF:=λst ps=>match ps with
 | [p]=>match (U3 st p).bind Q1a with
  | some ns=>.ok (g ns) st
  | none=>.stuck
 | _=>.stuck
theorem Qpt {ns:List Bool} (R:Rel H ρ st) (r:Rep H ρ p v) (e:(U3 st p).bind Q1a=zo ns):∃ (t:Bool) (a:aB),v=.ref a/\SqK K t H a (ns.map V.bl):=by
 cases q:U3 st p with
 | none=>rw [q] at e; cases e
 | some xs=>
  rw [q] at e;obtain ⟨t,a,vs,rfl,G,I⟩:=xy (K:=K) R r q;rw [Qk1 e] at I;rw [I.toBls] at G;exact ⟨t,a,rfl,G⟩
theorem Qu6 (I:X.calm=zb):CallS X E (.builtin "all") (Uk λns=>.bl (ns.all id)):=⟨λH ρ st ps xs Q R q h=>by
 unfold Uk at h
 split at h
 ·obtain ⟨v,rfl,r⟩:=Zd q
  split at h
  ·rename_i ns e;obtain ⟨t,a,rfl,G⟩:=Qpt (K:=X.K) R r e;exact WC.of (Qjs t I) ⟨a,ns,rfl,G,now R h rfl⟩
  ·exact h.elim
 ·exact h.elim⟩
def W8:CF:=λst ps=>match ps with
 | [p]=>match U3 st p with
  | some xs=>.ok (.tup xs) st
  | none=>.stuck
 | _=>.stuck
theorem Q42:CallS X E (.type "tuple") W8:=⟨λH ρ st ps xs Q R I h=>by
 unfold W8 at h
 split at h
 ·rename_i p;obtain ⟨v,rfl,r⟩:=Zd I
  split at h
  ·rename_i ys e;cases p with
   | tup zs=>
    cases e;obtain ⟨a,vs,rfl,q,J,G⟩:=r;exact WC.of zd ⟨a,vs,rfl,.inr ⟨SqT.of q,now R h ⟨a,vs,rfl,q,J,G⟩⟩⟩
   | _=>
    obtain ⟨a,vs,rfl,q,G⟩:=Uw R r e;exact WC.of zd ⟨a,vs,rfl,.inl ⟨.inl q,yx R h G⟩⟩
  ·exact h.elim
 ·exact h.elim⟩
def tyN:PV->String
 | .non => "NoneType"
 | .bl _ => "bool"
 | .int _ => "int"
 | .str _ => "str"
 | .tup _ => "tuple"
 | .lst _ => "list"
 | .fro _ => "list"
 | .ref _ => "list"
 | .dic => "dict"
def dpv (st:Q0):PV->PV
 | .ref i=>match st[i]? with
  | some (.dic _)=>.dic
  | some (.dtp _)=>.dic
  | _=>.ref i
 | p=>p
def isI (T:String) (p:PV):Bool:=tyN p == T || (T == "int" && tyN p == "bool")
def Xs (st:Q0):PV->Bool
 | .ref i=>match st[i]? with
  | some (.frd _)=>zb
  | some (.obj _ _)=>zb
  | _=>yo
 | _=>yo
theorem Qv7 (I:Xs st p=yo) (R:Rel H ρ st) (r:Rep H ρ p v):TyOf K H v (.type (tyN (dpv st p))):=by
 cases p with
 | non=>cases r; exact .non
 | bl b=>cases r; exact .bl b
 | int i=>cases r; exact .int i
 | str x=>cases r; exact .str x
 | tup ps=>obtain ⟨a,vs,rfl,h,_⟩:=r; exact .tup h
 | lst ps=>obtain ⟨a,vs,rfl,h,_⟩:=r; exact .lst h
 | fro ps=>
  obtain ⟨a,vs,rfl,h,_⟩:=r;rcases h with h | ⟨o,h⟩
  ·exact .lst h
  ·exact .frz h
 | ref i=>
  obtain ⟨a,e,rfl⟩:=r;have J:i < st.length:=by rw [<- R.len]; exact (O3.mp e).1
  have hs:=O2 J;have q:=R.cell i a st[i] e hs;cases G:st[i] with
  | lst xs=>rw [G] at q hs; simp only [dpv,hs]; obtain ⟨vs,h,_⟩:=q; exact .lst h
  | dic xs=>rw [G] at q hs; simp only [dpv,hs]; obtain ⟨vs,h,_⟩:=q; exact .dK h
  | dtp xs=>rw [G] at q hs; simp only [dpv,hs]; obtain ⟨vs,h,_⟩:=q; exact .dT h
  | frd xs=>rw [G] at hs; simp only [Xs,hs] at I; cases I
  | obj C xs=>rw [G] at hs; simp only [Xs,hs] at I; cases I
 | dic=>obtain ⟨a,rfl,h,_⟩:=r; exact .dK h
def Q3s:List String:=["int", "bool", "str", "tuple", "list", "dict"]
theorem Qtk (K:bX) (q:T∈Q3s) (p:PV):eu K (.type (tyN p)) (.type T)=zo (isI T p):=by
 have q:T = "int" \/ T = "bool" \/ T = "str" \/ T = "tuple" \/ T = "list" \/ T = "dict" := by simpa [Q3s] using q
 rcases q with rfl | rfl | rfl | rfl | rfl | rfl <;> cases p <;> first | rfl | kernel_rfl
def Vk (T:String) (m:ME):ME:=λΓ st=>(m Γ st).bind λp st1=>if Xs st1 p=zb then .stuck else .ok (.bl (isI T (dpv st1 p))) st1
theorem Qrk {I:Str} {p tp:Pos} (hT:T∈Q3s) (ha:SimE X E a ma) (hg:Gl X "isinstance") (hm:X.mg "isinstance" = zl) (a2:Gl X I) (O:X.mg I=zl) (Y:aX I=zo (.type T))
  (hn:I≠"__name__" := by decide) (hd:(I == ("__debug__" : Str))=yo:=by decide)
  (he:aN [a,.Name I tp] X.env=(yo,aO a X.env) :: aN [.Name I tp] X.env:=by rfl) (a1:aN [.Name I tp] X.env=(yo,aO (.Name I tp) X.env) :: aN [] X.env:=by rfl) (a3:(aY pos (aN [.Name I tp] X.env)).any (·.1)=yo:=by rfl) :
  SimE X E (.Call (.Name "isinstance" p) [a,.Name I tp] [] pos) (Vk T ma):=
 ⟨λΓ σ H ρ st Q R G h=>WE.of (yq Q9y hg hm Q1m (Wj Jc (Wj (Qn0 a2 O Y (v:=.ty T) rfl hn hd) Xa a1) he) (by decide) (by decide) he a3)
  (ha.use R G h.bind λq J H1 ρ1 v x1 R1 G1 r1 h1=>by
   by_cases Z:Xs J q=zb
   ·rw [bT Z] at h1; exact h1.elim
   ·rw [bU Z] at h1;exact ⟨v,.ty T,.type T,_,_,rfl,rfl,Qv7 (by simpa using Z) R1 r1,Qtk X.K hT (dpv J q),now R1 h1 rfl⟩)⟩
end
abbrev GA:=PV->Gam->Option Gam
abbrev GAs:=List PV->Gam->Option Gam
variable {gs:GAs}
structure SimG (X:Cx) (tg:aH) (ga:GA):Prop where
 run:∀ (Γ Γ':Gam) (σ:St) (H:Hp) (ρ:Tk) (p:PV) (v:V) (Q:St->Hp->Prop),EnvR H ρ Γ σ->Rep H ρ p v->ga p Γ=zo Γ'->(∀ σ',EnvR H ρ Γ' σ'->Q σ' H)->∃ t,PG X tg t/\t v σ H Q
structure SimGs (X:Cx) (tgs:List aH) (n:Nat) (ga:GAs):Prop where
 run:∀ (Γ Γ':Gam) (σ:St) (H:Hp) (ρ:Tk) (ps:List PV) (vs:List V) (Q:St->Hp->Prop),EnvR H ρ Γ σ->RepL H ρ ps vs->ga ps Γ=zo Γ'->(∀ σ',EnvR H ρ Γ' σ'->Q σ' H)->∃ t,PGs X tgs t/\t vs σ H Q
 len:∀ ps Γ Γ',ga ps Γ=zo Γ'->ps.length=n
def Qb (i:Nat):GA:=λp Γ=>zo (Γ.set i (zo p))
def Q14:GAs:=λps Γ=>match ps with
 | []=>zo Γ
 | _=>zl
def W6 (g:GA) (gs:GAs):GAs:=λps Γ=>match ps with
 | p :: r=>(g p Γ).bind (gs r)
 | []=>zl
def Q13 (gs:GAs):GA:=λp Γ=>match p with
 | .tup ps=>gs ps Γ
 | _=>zl
theorem Wf {i:Nat} (q:X.N.Nodup) (hi:X.N[i]?=zo x:=by rfl) (O:Loc X.env.scope x:=by first | exact Or.inl rfl | exact Or.inr rfl) (J:X.fn x=zb\/X.env.scope.names.lookup x=zo .local:=by first | exact .inl rfl | exact .inr rfl):SimG X (.Name x pos) (Qb i):=
 ⟨λΓ I σ H ρ p v Q G r e k=>⟨_,Qmw q hi O J,by cases e; exact k _ (G.set r i)⟩⟩
theorem Qca:SimGs X [] 0 Q14:=⟨λΓ q σ H ρ ps vs Q G r e k=>⟨_,Qmu,by
 cases ps with
 | nil=>cases e; cases r; exact ⟨rfl,k σ G⟩
 | cons _ _=>cases e⟩,λps Γ q e=>by
 cases ps with
 | nil=>rfl
 | cons _ _=>cases e⟩
def WGx (X:Cx) (tg:aH):TG:=λv σ H Q=>∃ t,PG X tg t/\t v σ H Q
theorem Qmv {tg:aH}:PG X tg (WGx X tg):=λpins s σ H v u Q I r ⟨t,h,q⟩=>h pins s σ H v u Q I r q
def J06 (X:Cx) (tgs:List aH):TGs:=λv σ H Q=>∃ t,PGs X tgs t/\t v σ H Q
theorem Qqa {G:List aH}:PGs X G (J06 X G):=λpins s σ H v u Q I r ⟨t,h,q⟩=>h pins s σ H v u Q I r q
theorem Kr {g:GA} (h1:SimG X e g) (h2:SimGs X es n gs) (hs:(az (e :: es) X.env).map (·.2)=assign e X.env :: (az es X.env).map (·.2):=by rfl):SimGs X (e :: es) (n + 1) (W6 g gs):=
 ⟨λΓ q σ H ρ ps vs Q G r eq k=>⟨_,Qhd Qmv Qqa hs,by
  cases ps with
  | nil=>cases eq
  | cons p ps=>
   obtain ⟨v,t,rfl,Z,r2⟩:=r;have eq:(g p Γ).bind (gs ps)=zo q:=eq;cases J:g p Γ with
   | none=>rw [J] at eq; cases eq
   | some I=>
    rw [J] at eq;exact ⟨v,t,rfl,h1.run Γ I σ H ρ p v _ G Z J λO Y=>h2.run I q O H ρ ps t _ Y r2 eq k⟩⟩,λps Γ q e=>by
  cases ps with
  | nil=>cases e
  | cons p ps=>
   have e:(g p Γ).bind (gs ps)=zo q:=e;cases J:g p Γ with
   | none=>rw [J] at e; cases e
   | some I=>rw [J] at e; rw [D3,h2.len ps I q e]⟩
theorem Qgc (hc:X.calm=zb) (h:SimGs X es n gs) (Y:(az es X.env).length=n:=by rfl) (J:(az es X.env).findIdx? (·.1)=zl:=by rfl):SimG X (.Tuple es k pos) (Q13 gs):=
 ⟨λΓ I σ H ρ p v Q G r e q=>⟨_,Qs8 hc Qqa Y J,by
  cases p with
  | tup ps=>
   obtain ⟨a,vs,rfl,Z,na,O⟩:=r;exact ⟨a,vs,rfl,SqT.of Z,by rw [<- O.length]; exact h.len ps Γ I e,h.run Γ I σ H ρ ps vs Q G O e q⟩
  | _=>cases e⟩⟩
abbrev Wt:=List (Nat × Cell)
def wOk (w:Wt) (st:Q0):Prop:=∀ x∈w,st[x.1]?=zo x.2
theorem Qz (st:Q0):wOk [] st:=λx h=>by cases h
structure Src (J:It) (items:List PV) (w:Wt) (H:Hp) (ρ:Tk):Prop where
 stop:∀ H2 ρ2 st2,Ext H ρ H2 ρ2->Rel H2 ρ2 st2->wOk w st2->J.stop items.length H2
 go:∀ H2 ρ2 st2,Ext H ρ H2 ρ2->Rel H2 ρ2 st2->wOk w st2->∀ i,i < items.length->J.go i H2
 yld:∀ H2 ρ2 st2,Ext H ρ H2 ρ2->Rel H2 ρ2 st2->wOk w st2->∀ i p,items[i]?=zo p->∀ x H3,J.yld i H2 x H3->Same H2 H3/\Rep H3 ρ2 p x
abbrev MI:=Gam->Q0->Res (List PV × Wt)
structure SimI (X:Cx) (E:XK) (tg iter:aH) (mi:MI):Prop where
 run:∀ (Γ:Gam) (σ:St) (H:Hp) (ρ:Tk) (st:Q0) (P:List PV × Wt->Q0->Hp->Tk->Prop) (R':It->Hp->Prop),Rel H ρ st->EnvR H ρ Γ σ->Acc X.mg E H ρ P (mi Γ st) ->
  (∀ iw st1 H1 ρ1 J,mi Γ st=.ok iw st1->Ext H ρ H1 ρ1->Rel H1 ρ1 st1->EnvR H1 ρ1 Γ σ->wOk iw.2 st1->iw.1.length<=sizeLine->Src J iw.1 iw.2 H1 ρ1->P iw st1 H1 ρ1->R' J H1)->WI X tg iter σ H R'
def Y0 (st:Q0):PV->Option (List PV × Wt)
 | .tup xs=>zo (xs,[])
 | .lst xs=>zo (xs,[])
 | .fro xs=>zo (xs,[])
 | .ref i=>match st[i]? with
  | some (.lst xs)=>zo (xs,[(i,.lst xs)])
  | _=>zl
 | _=>zl
theorem Q2g {K:bX} {w:Wt} (R:Rel H ρ st) (r:Rep H ρ p v) (e:Y0 st p=zo (xs,w)) :
  wOk w st/\∃ (t:Bool) (a:aB),v=.ref a/\(t=zb->∃ ys,p=.tup ys)/\(t=yo->∀ ys,p≠.tup ys)/\∀ H2 q G,Ext H ρ H2 q->Rel H2 q G->wOk w G->∃ vs,SqK K t H2 a vs/\RepL H2 q xs vs:=by
 cases p with
 | tup ys=>
  obtain ⟨a,vs,rfl,I,J,O⟩:=r;cases e;exact ⟨Qz _,zb,a,rfl,λ_=>⟨_,rfl⟩,(λz=>by cases z),λH2 q G x R2 _=>⟨vs,show SqT K H2 a vs from SqT.of (x.kp I J),O.ext x⟩⟩
 | lst ys=>
  obtain ⟨a,vs,rfl,I,J,O⟩:=r;cases e;exact ⟨Qz _,yo,a,rfl,(λz=>by cases z),(λ_ _ z=>by cases z),λH2 q G x R2 _=>⟨vs,show SqL K H2 a vs from SqL.of (x.kp I J),O.ext x⟩⟩
 | fro ys=>
  obtain ⟨a,vs,rfl,I,J,O⟩:=r;cases e;refine ⟨Qz _,yo,a,rfl,(λz=>by cases z),(λ_ _ z=>by cases z),λH2 q G x R2 _=>⟨vs,show SqL K H2 a vs from ?_,O.ext x⟩⟩
  rcases I with I | ⟨o,I⟩
  ·exact .inl (.inl (x.kp I J))
  ·exact .inl (.inr ⟨o,x.kp I J⟩)
 | ref i=>
  obtain ⟨a,Z,rfl⟩:=r;simp only [Y0] at e
  split at e
  ·rename_i ys hs;cases e;refine ⟨λx hx=>?_,yo,a,rfl,(λz=>by cases z),(λ_ _ z=>by cases z),λH2 q G x R2 ok=>?_⟩
   ·have:x=(i,.lst xs):=by simpa using hx
    subst this; exact hs
   ·have Y:=ok (i,.lst xs) (by simp);obtain ⟨b,vs,f1,f2,f3⟩:=R2.lst Y;obtain ⟨t,et⟩:=x.pre;rw [<- et,O8 (O3.mp Z).1,Z] at f1;cases f1;exact ⟨vs,show SqL K H2 a vs from SqL.of f2,f3⟩
  ·cases e
 | _=>cases e
section
variable {X:Cx} {E:XK} {pos:Pos} {tg:aH} {e:aH} {m:ME}
def Y4 (m:ME):MI:=λΓ st=>(m Γ st).bind λp st1=>match Y0 st1 p with
 | some (xs,w)=>if xs.length<=lim then .ok (xs,w) st1 else .stuck
 | none=>.stuck
theorem RepL.i {H:Hp} {ρ:Tk} {ps:List PV} {vs:List V} {i:Nat} {p:PV} {x:V} (r:RepL H ρ ps vs) (h:ps[i]?=zo p) (h':vs[i]?=zo x):Rep H ρ p x:=by
 obtain ⟨v,e,q⟩:=r.get h;rw [h'] at e; cases e;exact q
theorem Qc8 {t:Bool} {a:aB} {w:Wt} (h:∀ H2 q G,Ext H ρ H2 q->Rel H2 q G->wOk w G->∃ vs,SqK K t H2 a vs/\RepL H2 q xs vs):Src (if t=zb then Itt K a else Itl K a) xs w H ρ:=by
 cases t with
 | true=>
  rw [bT rfl];refine ⟨λH2 q G x R ok=>?_,λH2 q G x R ok i hi=>?_,λH2 q G x R ok i p Y y Z O=>?_⟩
  ·obtain ⟨vs,s,r⟩:=h H2 q G x R ok;exact ⟨vs,s,by rw [r.length]; exact O5 _⟩
  ·obtain ⟨vs,s,r⟩:=h H2 q G x R ok;have I:i < vs.length:=by rw [<- r.length]; exact hi
   exact ⟨vs,vs[i],s,O2 I⟩
  ·obtain ⟨vs,s,r⟩:=h H2 q G x R ok;obtain ⟨rfl,J⟩:=O;exact ⟨Same.refl _,r.i Y (J vs s)⟩
 | false=>
  rw [bU D2];refine ⟨λH2 q G x R ok=>?_,λH2 q G x R ok i hi=>?_,λH2 q G x R ok i p Y y Z O=>?_⟩
  ·obtain ⟨vs,s,r⟩:=h H2 q G x R ok;exact ⟨vs,s,by rw [r.length]; exact O5 _⟩
  ·obtain ⟨vs,s,r⟩:=h H2 q G x R ok;have I:i < vs.length:=by rw [<- r.length]; exact hi
   exact ⟨vs,vs[i],s,O2 I⟩
  ·obtain ⟨vs,s,r⟩:=h H2 q G x R ok;obtain ⟨rfl,J⟩:=O;exact ⟨Same.refl _,r.i Y (J vs s)⟩
theorem Qcr {P:List PV × Wt->Q0->Hp->Tk->Prop} (R:Rel H ρ st) (h:Acc mg E H ρ P (match Y0 st p with | some (xs,w)=>if xs.length<=lim then .ok (xs,w) st else .stuck | none=>.stuck)) :
  ∃ xs w,Y0 st p=zo (xs,w)/\xs.length<=lim/\P (xs,w) st H ρ:=by
 split at h
 ·rename_i xs w e
  split at h
  ·rename_i q;exact ⟨xs,w,e,q,h H ρ (Ext.refl _ _) R⟩
  ·exact h.elim
 ·exact h.elim
theorem Qrc (ha:SimE X E e m):SimI X E tg e (Y4 m):=⟨λΓ σ H ρ st P R' R G h k=>by
 have hb:Acc X.mg E H ρ _ (m Γ st):=Acc.bind h
 by_cases ht:∃ ys q,m Γ st=.ok (.tup ys) q
 ·obtain ⟨ys,a1,e0⟩:=ht;refine WI.of (Qs6 Jc) (ha.use' R G hb λp q H1 ρ1 v eq x1 I Z r1 h1=>?_);obtain ⟨xs,w,e,J,Y⟩:=Qcr I h1;obtain ⟨ok,t,a,rfl,t1,t2,O⟩:=Q2g (K:=X.K) I r1 e;have ep:p=.tup ys:=by rw [eq] at e0; injection e0
  cases t with
  | false=>exact absurd ep (t2 rfl ys)
  | true=>
   obtain ⟨vs,s,_⟩:=O H1 ρ1 q (Ext.refl _ _) I ok;exact ⟨a,rfl,⟨vs,s⟩,k (xs,w) q H1 ρ1 _ (by simp only [Y4,eq,Res.bind,e,bT J]) x1 I Z ok (Zy J) (Qc8 O) Y⟩
 ·refine WI.of (Qms Jc) (ha.use' R G hb λp q H1 ρ1 v eq x1 I Z r1 h1=>?_);obtain ⟨xs,w,e,J,Y⟩:=Qcr I h1;obtain ⟨ok,t,a,rfl,t1,t2,O⟩:=Q2g (K:=X.K) I r1 e;cases t with
  | true=>
   obtain ⟨ys,rfl⟩:=t1 rfl;exact absurd ⟨ys,q,eq⟩ ht
  | false=>
   obtain ⟨vs,s,_⟩:=O H1 ρ1 q (Ext.refl _ _) I ok;exact ⟨a,rfl,⟨vs,s⟩,k (xs,w) q H1 ρ1 _ (by simp only [Y4,eq,Res.bind,e,bT J]) x1 I Z ok (Zy J) (Qc8 O) Y⟩⟩
def V4 (lo:Int) (n:Nat):List PV:=(bY n).map λ(k:Nat)=>PV.int (lo + (k:Int))
theorem Qdt {lo:Int} :Src (Itr lo n) (V4 lo n) [] H ρ:=by
 have J:(V4 lo n).length=n:=by unfold V4; rw [O0,F5]
 refine ⟨λH2 G q x R ok=>?_,λH2 G q x R ok i hi=>?_,λH2 G q x R ok i p I y Y O=>?_⟩
 ·show n<=(V4 lo n).length;omega
 ·show i < n;omega
 ·obtain ⟨rfl,rfl⟩:=O;have hi:i < n:=by rw [<- J]; exact (O3.mp I).1
  unfold V4 at I;rw [D7,fV hi] at I;cases I;exact ⟨Same.refl _,rfl⟩
def Y2 (mr:Gam->Q0->Res (List PV)):MI:=λΓ st=>(mr Γ st).bind λps st1=>match ps with
 | [.int j]=>if -(lim:Int)<=j/\j<=lim then .ok (V4 0 j.toNat,[]) st1 else .stuck
 | _=>.stuck
variable {a b:aH} {mr:Gam->Q0->Res (List PV)} {p:Pos}
theorem Qai (lo:Int) (n:Nat):(V4 lo n).length=n:=by unfold V4; rw [O0,F5]
theorem V0 (hg:Gl X "range") (hm:X.mg "range" = zl) (J:SimA X E [a] mr) (hs:aN [a] X.env=[(yo,aO a X.env)]:=by rfl):SimI X E tg (.Call (.Name "range" p) [a] [] pos) (Y2 mr):=⟨λΓ σ H ρ st P R' R G h k=>by
 refine WI.of (Qe9 hg hm Q02 hs) (J.use' R G h.bind λps q H1 ρ1 vs eq x1 I Y r1 h1=>?_)
 split at h1
 ·rename_i j
  split at h1
  ·rename_i O;obtain ⟨v,rfl,Z⟩:=Zd r1;cases Z;have hl:(lim:Int)=1000000:=rfl;refine ⟨j,rfl,by omega,by omega,k (V4 0 j.toNat,[]) q H1 ρ1 _ (by simp only [Y2,eq,Res.bind,bT O]) x1 I Y (Qz _) ?_ Qdt (h1 H1 ρ1 (Ext.refl _ _) I)⟩;show (V4 0 j.toNat).length<=sizeLine;rw [Qai];exact Zy (by omega)
  ·exact h1.elim
 ·exact h1.elim⟩
def Q23:List PV->List PV->List PV
 | x :: xs,y :: ys=>.tup [x,y] :: Q23 xs ys
 | _,_=>[]
theorem Q61 (xs ys:List PV):Q23 xs ys=(xs.zip ys).map λz=>.tup [z.1,z.2]:=by
 induction xs generalizing ys with
 | nil=>rfl
 | cons x xs q=>
  cases ys with
  | nil=>rfl
  | cons y ys=>rw [Q23,q]; rfl
theorem Q22 (xs ys:List PV):(Q23 xs ys).length=min xs.length ys.length:=by rw [Q61,O0,List.length_zip]
theorem Qfj {ys:List PV} {i:Nat} {p:PV} (h:(Q23 xs ys)[i]?=zo p):∃ x y,p=.tup [x,y]/\xs[i]?=zo x/\ys[i]?=zo y:=by
 rw [Q61,D7] at h;cases e:(xs.zip ys)[i]? with
 | none=>rw [e] at h; cases h
 | some z=>
  rw [e] at h; cases h;rw [List.getElem?_zip_eq_some] at e;exact ⟨z.1,z.2,rfl,e.1,e.2⟩
def Qni (mr:Gam->Q0->Res (List PV)):MI:=λΓ st=>(mr Γ st).bind λps st1=>match ps with
 | [p,q]=>match Y0 st1 p,Y0 st1 q with
  | some (xs,w),zo (ys,w')=>if xs.length<=lim then .ok (Q23 xs ys,w ++ w') st1 else .stuck
  | _,_=>.stuck
 | _=>.stuck
theorem j8 {w G:Wt} (h:wOk (w ++ G) st):wOk w st/\wOk G st:=⟨λx q=>h x (F7 _ q),λx q=>h x (E6 _ q)⟩
theorem Qkn {t1 t2:Bool} {a b:aB} {ys:List PV} {w Z:Wt} (h:∀ H2 G I,Ext H ρ H2 G->Rel H2 G I->wOk w I->∃ vs,SqK K t1 H2 a vs/\RepL H2 G xs vs)
  (h':∀ H2 G I,Ext H ρ H2 G->Rel H2 G I->wOk Z I->∃ vs,SqK K t2 H2 b vs/\RepL H2 G ys vs):Src (Itz K t1 t2 a b) (Q23 xs ys) (w ++ Z) H ρ:=by
 refine ⟨λH2 G I x R ok=>?_,λH2 G I x R ok i hi=>?_,λH2 G I x R ok i p hp y H3 hy=>?_⟩
 ·obtain ⟨vs,s,r⟩:=h H2 G I x R (j8 ok).1;obtain ⟨us,s',J⟩:=h' H2 G I x R (j8 ok).2;refine ⟨vs,us,s,s',?_⟩;rw [Q22,<- r.length,<- J.length];omega
 ·obtain ⟨vs,s,r⟩:=h H2 G I x R (j8 ok).1;obtain ⟨us,s',J⟩:=h' H2 G I x R (j8 ok).2;rw [Q22,r.length,J.length] at hi;have h1:i < vs.length:=by omega
  have h2:i < us.length:=by omega
  exact ⟨vs,us,vs[i],us[i],s,s',O2 h1,O2 h2⟩
 ·obtain ⟨vs,s,r⟩:=h H2 G I x R (j8 ok).1;obtain ⟨us,s',J⟩:=h' H2 G I x R (j8 ok).2;obtain ⟨q,u,v,Y,rfl,rfl,hv⟩:=hy;obtain ⟨e1,e2⟩:=hv vs us s s';obtain ⟨xp,yp,rfl,p1,p2⟩:=Qfj hp;have O:Same H2 (upd H2 q (.tup [u,v])):=Q84 Y;exact ⟨O,q,[u,v],rfl,Qw,R.fresh Y,RepL.cons ((r.i p1 e1).ext (Ext.same O)) (RepL.cons ((J.i p2 e2).ext (Ext.same O)) RepL.nil)⟩
theorem Qra {O:List aH} {kt:Nat} {tp:Pos} (hg:Gl X "zip") (hm:X.mg "zip" = zl) (ha:SimA X E [a,b] mr) (hs:aN [a,b] X.env=[(yo,aO a X.env),(yo,aO b X.env)]:=by rfl) (b3:aN [b] X.env=[(yo,aO b X.env)]:=by rfl) :
  SimI X E (.Tuple O kt tp) (.Call (.Name "zip" p) [a,b] [] pos) (Qni mr):=⟨λΓ σ H ρ st P R' R G h k=>by
 have hb:Acc X.mg E H ρ _ (mr Γ st):=Acc.bind h;have J:∀ t1 t2:Bool,(∀ p q I,mr Γ st=.ok [p,q] I->(t1=zb <-> ∃ ys,p=.tup ys)/\(t2=zb <-> ∃ ys,q=.tup ys))->WI X (.Tuple O kt tp) (.Call (.Name "zip" p) [a,b] [] pos) σ H R':=λt1 t2 ht=>by
  refine WI.of (Qs4 t1 t2 hg hm Q02 hs b3) (ha.use' R G hb λps I H1 ρ1 vs eq x1 Y G1 r1 h1=>?_)
  split at h1
  ·rename_i p' q'
   split at h1
   ·rename_i xs w ys w' e1 e2
    split at h1
    ·rename_i hl;obtain ⟨v,u,rfl,rv,ru⟩:=Qgt r1;obtain ⟨a5,b1,a1,rfl,z1,a8,a4⟩:=Q2g (K:=X.K) Y rv e1;obtain ⟨a3,b2,a2,rfl,z2,b4,Z⟩:=Q2g (K:=X.K) Y ru e2;obtain ⟨g1,g2⟩:=ht _ _ _ eq;have a9:b1=t1:=by
      cases b1 with
      | true=>exact (g1.mpr (z1 rfl)).symm
      | false=>
       cases t1 with
       | false=>rfl
       | true=>obtain ⟨ys,e⟩:=g1.mp rfl; exact absurd e (a8 rfl ys)
     have a7:b2=t2:=by
      cases b2 with
      | true=>exact (g2.mpr (z2 rfl)).symm
      | false=>
       cases t2 with
       | false=>rfl
       | true=>obtain ⟨ys,e⟩:=g2.mp rfl; exact absurd e (b4 rfl ys)
     subst a9; subst a7;obtain ⟨a6,s1,_⟩:=a4 H1 ρ1 I (Ext.refl _ _) Y a5;obtain ⟨b0,s2,_⟩:=Z H1 ρ1 I (Ext.refl _ _) Y a3;refine ⟨a1,a2,a6,b0,rfl,s1,s2,k (Q23 xs ys,w ++ w') I H1 ρ1 _ (by simp only [Qni,eq,Res.bind,e1,e2,bT hl]) x1 Y G1 (λx hx=>?_) ?_ (Qkn a4 Z) (h1 H1 ρ1 (Ext.refl _ _) Y)⟩
     ·rcases E3.mp hx with hx | hx
      ·exact a5 x hx
      ·exact a3 x hx
     ·show (Q23 xs ys).length<=sizeLine;rw [Q22];exact Zy (D9 (Nat.min_le_left _ _) hl)
    ·exact h1.elim
   ·exact h1.elim
  ·exact h1.elim
 have tt:∀ p:PV,∃ t:Bool,t=zb <-> ∃ ys,p=.tup ys:=λp=>by
  cases p with
  | tup ys=>exact ⟨zb,λ_=>⟨ys,rfl⟩,λ_=>rfl⟩
  | _=>exact ⟨yo,⟨λz=>(by cases z),λ⟨_,z⟩=>(by cases z)⟩⟩
 by_cases hz:∃ p q I,mr Γ st=.ok [p,q] I
 ·obtain ⟨p0,q0,b5,e0⟩:=hz;obtain ⟨t1,g1⟩:=tt p0;obtain ⟨t2,g2⟩:=tt q0;refine J t1 t2 λp q I e=>?_
  rw [e0] at e; cases e;exact ⟨g1,g2⟩
 ·exact J zb zb λp q I e=>absurd ⟨p,q,I,e⟩ hz⟩
def U5:Nat->List PV->List PV
 | _,[]=>[]
 | n,x :: xs=>.tup [.int n,x] :: U5 (n + 1) xs
theorem jm:∀ (n:Nat) (xs:List PV),(U5 n xs).length=xs.length
 | _,[]=>rfl
 | n,x :: xs=>by rw [U5,D3,jm (n + 1) xs,D3]
theorem Q5p:∀ {n:Nat} {xs:List PV} {i:Nat} {p:PV},(U5 n xs)[i]?=zo p->∃ x,p=.tup [.int (n + i:Nat),x]/\xs[i]?=zo x
 | n,[],i,p,h=>by simp [U5] at h
 | n,x :: xs,0,p,h=>by
  simp [U5] at h;exact ⟨x,h.symm,rfl⟩
 | n,x :: xs,i + 1,p,h=>by
  rw [U5,eI] at h;obtain ⟨y,q,G⟩:=Q5p h;exact ⟨y,by rw [q,show n + 1 + i=n + (i + 1) by omega],by simpa using G⟩
def Q92 (mr:Gam->Q0->Res (List PV)):MI:=λΓ st=>(mr Γ st).bind λps st1=>match ps with
 | [p]=>match Y0 st1 p with
  | some (xs,w)=>if xs.length<=lim then .ok (U5 0 xs,w) st1 else .stuck
  | none=>.stuck
 | _=>.stuck
theorem Qg6 {t:Bool} {a:aB} {w:Wt} (h:∀ H2 G I,Ext H ρ H2 G->Rel H2 G I->wOk w I->∃ vs,SqK K t H2 a vs/\RepL H2 G xs vs):Src (Ite K t a) (U5 0 xs) w H ρ:=by
 refine ⟨λH2 G I x R ok=>?_,λH2 G I x R ok i hi=>?_,λH2 G I x R ok i p hp y H3 Z=>?_⟩
 ·obtain ⟨vs,s,r⟩:=h H2 G I x R ok;exact ⟨vs,s,by rw [jm,r.length]; exact O5 _⟩
 ·obtain ⟨vs,s,r⟩:=h H2 G I x R ok;rw [jm,r.length] at hi;exact ⟨vs,vs[i],s,O2 hi⟩
 ·obtain ⟨vs,s,r⟩:=h H2 G I x R ok;obtain ⟨q,u,J,rfl,rfl,Y⟩:=Z;have e1:=Y vs s;obtain ⟨xp,rfl,p1⟩:=Q5p hp;have O:Same H2 (upd H2 q (.tup [.int i,u])):=Q84 J;exact ⟨O,q,[.int i,u],rfl,Qw,R.fresh J,RepL.cons (by rw [hZ]; rfl) (RepL.cons ((r.i p1 e1).ext (Ext.same O)) RepL.nil)⟩
theorem Qkw {J:List aH} {kt:Nat} {tp:Pos} (hg:Gl X "enumerate") (hm:X.mg "enumerate" = zl) (ha:SimA X E [a] mr) (hs:aN [a] X.env=[(yo,aO a X.env)]:=by rfl) :
  SimI X E (.Tuple J kt tp) (.Call (.Name "enumerate" p) [a] [] pos) (Q92 mr):=⟨λΓ σ H ρ st P R' R G h k=>by
 have hb:Acc X.mg E H ρ _ (mr Γ st):=Acc.bind h;have I:∀ t1:Bool,(∀ p q,mr Γ st=.ok [p] q->(t1=zb <-> ∃ ys,p=.tup ys))->WI X (.Tuple J kt tp) (.Call (.Name "enumerate" p) [a] [] pos) σ H R':=λt1 ht=>by
  refine WI.of (Qmt t1 hg hm Q02 hs) (ha.use' R G hb λps q H1 ρ1 vs eq x1 R1 G1 r1 h1=>?_)
  split at h1
  ·rename_i p'
   split at h1
   ·rename_i xs w e1
    split at h1
    ·rename_i hl;obtain ⟨v,rfl,rv⟩:=Zd r1;obtain ⟨Y,b1,a1,rfl,z1,a3,O⟩:=Q2g (K:=X.K) R1 rv e1;have Z:=ht _ _ eq;have a4:b1=t1:=by
      cases b1 with
      | true=>exact (Z.mpr (z1 rfl)).symm
      | false=>
       cases t1 with
       | false=>rfl
       | true=>obtain ⟨ys,e⟩:=Z.mp rfl; exact absurd e (a3 rfl ys)
     subst a4;obtain ⟨a2,s1,_⟩:=O H1 ρ1 q (Ext.refl _ _) R1 Y;refine ⟨a1,a2,rfl,s1,k (U5 0 xs,w) q H1 ρ1 _ (by simp only [Q92,eq,Res.bind,e1,bT hl]) x1 R1 G1 Y ?_ (Qg6 O) (h1 H1 ρ1 (Ext.refl _ _) R1)⟩;show (U5 0 xs).length<=sizeLine;rw [jm];exact Zy hl
    ·exact h1.elim
   ·exact h1.elim
  ·exact h1.elim
 have tt:∀ p:PV,∃ t:Bool,t=zb <-> ∃ ys,p=.tup ys:=λp=>by
  cases p with
  | tup ys=>exact ⟨zb,λ_=>⟨ys,rfl⟩,λ_=>rfl⟩
  | _=>exact ⟨yo,⟨λz=>(by cases z),λ⟨_,z⟩=>(by cases z)⟩⟩
 by_cases hz:∃ p q,mr Γ st=.ok [p] q
 ·obtain ⟨p0,a5,e0⟩:=hz;obtain ⟨t1,Z⟩:=tt p0;refine I t1 λp q e=>?_
  rw [e0] at e; cases e;exact Z
 ·exact I zb λp q e=>absurd ⟨p,q,e⟩ hz⟩
end
section
abbrev ML:=Gam->Q0->Res (List PV)
structure SimN (X:Cx) (E:XK) (e:aH) (m:ML):Prop where
 run:∀ (Γ:Gam) (σ:St) (H:Hp) (ρ:Tk) (st:Q0) (P:List PV->Q0->Hp->Tk->Prop) (Q:VK),Rel H ρ st->EnvR H ρ Γ σ->Acc X.mg E H ρ P (m Γ st) ->
  (∀ ps st1 H1 ρ1 a vs,m Γ st=.ok ps st1->Ext H ρ H1 ρ1->Rel H1 ρ1 st1->a∈ρ1.hid->H a=zl->H1 a=zo (.lst vs)->RepL H1 ρ1 ps vs->Q (.ref a) H1)->WE X e σ H Q
def Zx (m:ML):ME:=λΓ st=>(m Γ st).bind λps st1=>.ok (.lst ps) st1
def x8 (m:ML):ME:=λΓ st=>(m Γ st).bind λps st1=>.ok (.ref st1.length) (st1 ++ [.lst ps])
section
variable {H0 H:Hp} {ρ0 ρ:Tk} {st:Q0} {a:aB} {ps:List PV} {vs:List V}
theorem Qci (J:Rel H0 ρ0 st) (x:Ext H0 ρ0 H ρ) {q:Q0} (R:Rel H ρ q) (hm:a∈ρ.hid) (I:H0 a=zl) (G:H a=zo (.lst vs)) (r:RepL H ρ ps vs) :
  Ext H0 ρ0 H ⟨ρ.tr,ρ0.hid⟩/\Rel H ⟨ρ.tr,ρ0.hid⟩ q/\Rep H ⟨ρ.tr,ρ0.hid⟩ (.lst ps) (.ref a):=
 ⟨x.unhide,R.unhide x.hidM,a,vs,rfl,G,(λz=>by
  rcases z with z | z
  ·exact R.ap a hm z
  ·obtain ⟨o,e,_⟩:=J.hd a z;rw [I] at e; cases e),r.unhide x.hidM⟩
mutual
theorem Rep.trk (q:b∈ρ.hid) (G:∀ c,c∈hs->c∈ρ.hid):∀ {p:PV} {v:V},Rep H ρ p v->Rep H ⟨ρ.tr ++ [b],hs⟩ p v
 | .non,_,r=>r
 | .bl _,_,r=>r
 | .int _,_,r=>r
 | .str _,_,r=>r
 | .tup ps,v,⟨c,vs,e,s,n,r⟩=>⟨c,vs,e,s,λz=>by
   rcases z with z | z
   ·rcases E3.mp z with z | z
    ·exact n (.inl z)
    ·have:c=b:=by simpa using z
     subst this; exact n (.inr q)
   ·exact n (.inr (G _ z)),RepL.trk q G r⟩
 | .lst ps,v,⟨c,vs,e,s,n,r⟩=>⟨c,vs,e,s,λz=>by
   rcases z with z | z
   ·rcases E3.mp z with z | z
    ·exact n (.inl z)
    ·have:c=b:=by simpa using z
     subst this; exact n (.inr q)
   ·exact n (.inr (G _ z)),RepL.trk q G r⟩
 | .fro ps,v,⟨c,vs,e,s,n,r⟩=>⟨c,vs,e,s,λz=>by
   rcases z with z | z
   ·rcases E3.mp z with z | z
    ·exact n (.inl z)
    ·have:c=b:=by simpa using z
     subst this; exact n (.inr q)
   ·exact n (.inr (G _ z)),RepL.trk q G r⟩
 | .ref i,v,⟨c,e,I⟩=>⟨c,by show (ρ.tr ++ [b])[i]?=zo c; rw [O8 (O3.mp e).1]; exact e,I⟩
 | .dic,v,⟨c,e,s,n⟩=>⟨c,e,s,λz=>by
   rcases z with z | z
   ·rcases E3.mp z with z | z
    ·exact n (.inl z)
    ·have:c=b:=by simpa using z
     subst this; exact n (.inr q)
   ·exact n (.inr (G _ z))⟩
theorem RepL.trk (q:b∈ρ.hid) (G:∀ c,c∈hs->c∈ρ.hid):∀ {ps:List PV} {vs:List V},RepL H ρ ps vs->RepL H ⟨ρ.tr ++ [b],hs⟩ ps vs
 | [],_,r=>r
 | p :: ps,_,⟨v,t,e,J,I⟩=>⟨v,t,e,Rep.trk q G J,RepL.trk q G I⟩
end
theorem Qn3 (R0:Rel H0 ρ0 st) (x:Ext H0 ρ0 H ρ) {G:Q0} (R:Rel H ρ G) (hm:a∈ρ.hid) (hn:H0 a=zl) (ha:H a=zo (.lst vs)) (r:RepL H ρ ps vs) :
  Ext H0 ρ0 H ⟨ρ.tr ++ [a],ρ0.hid⟩/\Rel H ⟨ρ.tr ++ [a],ρ0.hid⟩ (G ++ [.lst ps])/\Rep H ⟨ρ.tr ++ [a],ρ0.hid⟩ (.ref G.length) (.ref a):=by
 have Z:a∉ρ0.hid:=λz=>by
  obtain ⟨o,e,_⟩:=R0.hd a z;rw [hn] at e; cases e
 refine ⟨⟨x.pre.trans (eN _ _),λ_ h=>h,λ_ h=>.inl h,x.keep,λb O=>?_,x.old,x.frz⟩,⟨?_,?_,λb O=>R.hd b (x.hidM b O),λb O z=>?_,λi b c h1 h2=>?_⟩,a,?_,rfl⟩
 ·rcases E3.mp O with z | z
  ·exact x.new b z
  ·have:b=a:=by simpa using z
   subst this; exact .inr hn
 ·show (ρ.tr ++ [a]).length=_;rw [O6,O6,R.len]; rfl
 ·show (ρ.tr ++ [a]).Nodup;refine cZ.mpr ⟨R.nd,by simp,λb O c hc e=>?_⟩;have:c=a:=by simpa using hc
  subst this; subst e;exact R.ap b hm O
 ·rcases E3.mp z with z | z
  ·exact R.ap b (x.hidM b O) z
  ·have:b=a:=by simpa using z
   subst this; exact Z O
 ·have h1:(ρ.tr ++ [a])[i]?=zo b:=h1
  by_cases hi:i < G.length
  ·rw [O8 (by rw [R.len]; exact hi)] at h1;rw [O8 hi] at h2;have q:=R.cell i b c h1 h2;cases c with
   | lst Y=>
    obtain ⟨us,J,I⟩:=q;exact ⟨us,J,I.trk hm x.hidM⟩
   | dic Y=>
    obtain ⟨us,J,I⟩:=q;exact ⟨us,J,I.1,I.2.trk hm x.hidM⟩
   | dtp Y=>
    obtain ⟨us,J,I⟩:=q;exact ⟨us,J,I.1,I.2.trk hm x.hidM⟩
   | frd Y=>
    obtain ⟨us,J,I⟩:=q;exact ⟨us,J,I.1,I.2.trk hm x.hidM⟩
   | obj C Y=>
    obtain ⟨us,J,I⟩:=q;exact ⟨us,J,I.1,I.2.trk hm x.hidM⟩
  ·rw [D4 (by rw [R.len]; omega)] at h1;rw [D4 (by omega)] at h2;have e0:i - G.length=0:=by
    rcases fZ (i - G.length) with z | z
    ·exact z
    ·rw [L0 (by simp; omega)] at h2; cases h2
   rw [R.len,e0] at h1;rw [e0] at h2;simp at h1 h2;subst h1; subst h2;exact ⟨vs,ha,r.trk hm x.hidM⟩
 ·show (ρ.tr ++ [a])[G.length]?=zo a;rw [<- R.len,D4 (O5 _),L6]; rfl
end
section
variable {X:Cx} {E:XK} {pos:Pos} {e:aH} {m:ML}
theorem Q69 (h:SimN X E e m):SimE X E e (Zx m):=⟨λΓ σ H ρ st Q R G q=>h.run Γ σ H ρ st _ Q R G q.bind λps Y H1 ρ1 a vs eq x O hm I J r=>by
 obtain ⟨x2,R2,Z⟩:=Qci R x O hm I J r;unfold Zx at q;rw [eq] at q;exact q _ _ x2 R2 _ Z⟩
theorem Qre (h:SimN X E e m):SimE X E e (x8 m):=⟨λΓ σ H ρ st Q R G q=>h.run Γ σ H ρ st _ Q R G q.bind λps Y H1 ρ1 a vs eq x O hm I J r=>by
 obtain ⟨x2,R2,Z⟩:=Qn3 R x O hm I J r;unfold x8 at q;rw [eq] at q;exact q _ _ x2 R2 _ Z⟩
variable {es:List aH} {mr:Gam->Q0->Res (List PV)} {a b:aH} {ma mb:ME}
theorem Q3c {ρ1:Tk} {q:Q0} {Q:VK} (x:Ext H ρ H1 ρ1) (J:Rel H1 ρ1 q) (r:RepL H1 ρ1 ps vs)
  (k:∀ H1 ρ1 a vs,Ext H ρ H1 ρ1->Rel H1 ρ1 q->a∈ρ1.hid->H a=zl->H1 a=zo (.lst vs)->RepL H1 ρ1 ps vs->Q (.ref a) H1):∀ p,H1 p=zl->Q (.ref p) (upd H1 p (.lst vs)):=λp G=>by
 refine k _ (ρ1.hide p) p vs (x.trans (Ext.hide G)) (J.hide G) F4 ?_ Qw (r.hide G);cases e:H p with
 | none=>rfl
 | some o=>
  obtain ⟨o',I⟩:=x.old p o e;rw [G] at I; cases I
def Q3h (mr:Gam->Q0->Res (List PV)):ML:=λΓ st=>(mr Γ st).bind λps st1=>if ps.length<=lim then .ok ps st1 else .stuck
theorem Qr8 (h:SimA X E es mr):SimN X E (.List es pos) (Q3h mr):=
 ⟨λΓ σ H ρ st P Q R G Y k=>WE.of (Qhg Q02) (h.use' R G Y.bind λps J H1 ρ1 vs eq x1 Z G1 O h1=>by
  by_cases q:ps.length<=lim
  ·refine ⟨by rw [<- O.length]; exact Zy q,Q3c x1 Z O λH2 I a us=>k ps J H2 I a us ?_⟩;unfold Q3h;rw [eq];exact bT q
  ·rw [bU q] at h1; exact h1.elim)⟩
def Q3i (ma:ME):ML:=λΓ st=>(ma Γ st).bind λp st1=>match U3 st1 p with
 | some xs=>.ok xs st1
 | none=>.stuck
theorem Qku {p:Pos} (ha:SimE X E a ma) (hg:Gl X "list") (hm:X.mg "list" = zl) (Z:aN [a] X.env=(yo,aO a X.env) :: aN [] X.env:=by rfl):SimN X E (.Call (.Name "list" p) [a] [] pos) (Q3i ma):=
 ⟨λΓ σ H ρ st P Q R G hq k=>WE.of (Xq Q7e hg hm Xw (Wj Jc Xa Z) (by decide) (by decide) Z rfl) (ha.use' R G hq.bind λq I H1 ρ1 v eq x1 Y G1 r1 h1=>by
  split at h1
  ·rename_i xs e;obtain ⟨t,b,vs,rfl,J,ra⟩:=xy (K:=X.K) Y r1 e;refine ⟨b,vs,rfl,Qg7 J,Q3c x1 Y ra λH2 O a us=>k xs I H2 O a us ?_⟩;unfold Q3i;rw [eq];show (match U3 I q with | some xs=>Res.ok xs I | none=>.stuck)=_;rw [e]
  ·exact h1.elim)⟩
def Q8r (st:Q0) (p q:PV):Res (List PV):=match U4 st p,U4 st q with
 | some xs,zo ys=>if xs.length + ys.length<=lim then .ok (xs ++ ys) st else .stuck
 | _,_=>.stuck
def Q5e (ma mb:ME):ML:=λΓ st=>(ma Γ st).bind λx st1=>(mb Γ st1).bind λy st2=>Q8r st2 x y
theorem Qr9 (ha:SimE X E a ma) (hb:SimE X E b mb):SimN X E (.BinOp a .Add b pos) (Q5e ma mb):=
 ⟨λΓ σ H ρ st P Q R G hq k=>WE.of (Qqb Qhx Jc Jc) (ha.use' R G hq.bind λp O H1 ρ1 v e1 x1 R1 G1 r1 h1=>hb.use' R1 G1 h1.bind λq I H2 a1 u e2 x2 R2 G2 r2 h2=>by
  unfold Q8r at h2
  split at h2
  ·rename_i xs ys f1 Z
   split at h2
   ·rename_i hl;obtain ⟨c,vs,rfl,hc,rc⟩:=zx R2 (r1.ext x2) f1;obtain ⟨d,us,rfl,hd,Y⟩:=zx R2 r2 Z;refine ⟨c,d,vs,us,rfl,rfl,hc,hd,by rw [<- rc.length,<- Y.length]; exact Zy hl,Q3c (x1.trans x2) R2 (rc.append Y) λH3 J a ws=>k (xs ++ ys) I H3 J a ws ?_⟩;unfold Q5e Q8r;rw [e1];show (mb Γ O).bind _=_;rw [e2];show (match U4 I p,U4 I q with | some xs,zo ys=>if xs.length + ys.length<=lim then Res.ok (xs ++ ys) I else .stuck | _,_=>.stuck)=_
    rw [f1,Z];exact bT hl
   ·exact h2.elim
  ·exact h2.elim)⟩
end
end
def W7 (cap:zAC) (Γ:Gam):Gam:=cap.map λc=>c.bind λj=>(Γ[j]?).join
theorem EnvR.cap {H:Hp} {ρ:Tk} {Γ:Gam} {σ:St} (h:EnvR H ρ Γ σ) (cap:zAC):EnvR H ρ (W7 cap Γ) (xr cap σ):=by
 refine ⟨by unfold W7 xr; rw [O0,O0],λi p e=>?_⟩;unfold W7 at e;unfold xr;rw [D7] at e ⊢;cases q:cap[i]? with
 | none=>rw [q] at e; cases e
 | some c=>
  rw [q] at e;cases c with
  | none=>cases e
  | some j=>
   have G:(Γ[j]?).join=zo p:=bn e;cases r:Γ[j]? with
   | none=>rw [r] at G; cases G
   | some o=>
    rw [r] at G;have:o=zo p:=G;subst this;obtain ⟨v,I,J⟩:=h.2 j p r;exact ⟨v,by show zo ((σ[j]?).join)=zo (zo v); rw [I]; rfl,J⟩
def Q1c (cap:zAC) (ga:GA):Prop:=∀ Γ p Γ1,ga p (W7 cap Γ)=zo Γ1->Γ1.length=(W7 cap Γ).length/\∀ (i:Nat) (q:PV),(W7 cap Γ)[i]?=zo (zo q)->Γ1[i]?=zo (zo q)
theorem Q5u {cap:zAC} {i:Nat} (h:cap[i]?=zo zl) (Γ:Gam):(W7 cap Γ)[i]?=zo zl:=by
 unfold W7;rw [D7,h]; rfl
theorem Ua {cap:zAC} {i:Nat} (h:cap[i]?=zo zl:=by rfl):Q1c cap (Qb i):=λΓ p I e=>by
 cases e;refine ⟨G7 ..,λj q G=>?_⟩;rw [E9 λz=>?_]
 ·exact G
 ·subst z; rw [Q5u h] at G; cases G
def Qdf (cap:zAC) (ga:GAs):Prop:=∀ Γ ps Γ0 Γ1,(∀ (i:Nat) (q:PV),(W7 cap Γ)[i]?=zo (zo q)->Γ0[i]?=zo (zo q))->ga ps Γ0=zo Γ1->Γ1.length=Γ0.length/\∀ (i:Nat) (q:PV),(W7 cap Γ)[i]?=zo (zo q)->Γ1[i]?=zo (zo q)
theorem Qjb {cap:zAC}:Qdf cap Q14:=λΓ ps Γ0 q h e=>by
 cases ps with
 | nil=>cases e; exact ⟨rfl,h⟩
 | cons _ _=>cases e
theorem Qf1 {cap:zAC} {i:Nat} (hs:Qdf cap gs) (h:cap[i]?=zo zl:=by rfl):Qdf cap (W6 (Qb i) gs):=λΓ ps Γ0 G h0 e=>by
 cases ps with
 | nil=>cases e
 | cons p ps=>
  obtain ⟨a,b⟩:=hs Γ ps (Γ0.set i (zo p)) G (λk r q=>by
   rw [E9 λz=>?_]
   ·exact h0 k r q
   ·subst z; rw [Q5u h] at q; cases q) e
  exact ⟨by rw [a,G7],b⟩
theorem Qja {cap:zAC} (hs:Qdf cap gs):Q1c cap (Q13 gs):=λΓ p q e=>by
 cases p with
 | tup ps=>exact hs Γ ps _ q (λ_ _ h=>h) e
 | _=>cases e
open Classical in
def Jn (ga:GA) (mt:MT) (me:ME) (w:Wt) (Γ0:Gam):List PV->Q0->Res (List PV)
 | [],st=>if wOk w st then .ok [] st else .stuck
 | x :: xs,st=>if wOk w st then (match ga x Γ0 with
  | none=>.stuck
  | some Γ1=>(mt Γ1 st).bind λb st1=>if b=zb then (me Γ1 st1).bind λy st2=>(Jn ga mt me w Γ0 xs st2).bind λys st3=>.ok (y :: ys) st3 else Jn ga mt me w Γ0 xs st1) else .stuck
def noX {α:Type}:Res α->Res α
 | .exc _ _=>.stuck
 | r=>r
def Qs (cap:zAC) (ga:GA) (mi:MI) (mt:MT) (me:ME):ML:=λΓ st=>(mi Γ st).bind λiw st1=>noX (Jn ga mt me iw.2 (W7 cap Γ) iw.1 st1)
structure SimTs (X:Cx) (ifs:List aH) (m:MT):Prop where
 run:∀ (Γ:Gam) (σ:St) (H:Hp) (ρ:Tk) (st:Q0) (P:Bool->Q0->Hp->Tk->Prop) (Q:Bool->Hp->Prop),Rel H ρ st->EnvR H ρ Γ σ->Acc X.mg E0 H ρ P (m Γ st) ->
  (∀ b st1 H1 ρ1,m Γ st=.ok b st1->Ext H ρ H1 ρ1->Rel H1 ρ1 st1->EnvR H1 ρ1 Γ σ->Q b H1)->∃ t,PTs X ifs t/\t σ H Q
def Ja:MT:=λ_ st=>.ok zb st
theorem j9 :SimTs X [] Ja:=⟨λΓ σ H ρ st P Q R G h k=>⟨_,Qme,k zb st H ρ rfl (Ext.refl _ _) R G⟩⟩
theorem Qki {m:MT} (J:SimT X E0 c m):SimTs X [c] m:=⟨λΓ σ H ρ st P Q R G h k=>⟨_,Qmd Q8g,J.use' R G h λb q H1 ρ1 e x1 O I p=>k b q H1 ρ1 e x1 O I⟩⟩
theorem Qq1 {E':XK} {P:α->Q0->Hp->Tk->Prop} {r:Res α} (h:Acc mg E H ρ P (noX r)):Acc mg E' H ρ P r:=by
 cases r with
 | ok a st=>exact h
 | exc x st=>exact h.elim
 | stuck=>exact h
theorem Res.assoc {q:Type} (r:Res α) (f:α->Q0->Res β) (g:β->Q0->Res q):(r.bind f).bind g=r.bind λa st=>(f a st).bind g:=by cases r <;> rfl
theorem Acc.assoc {q:Type} {P:q->Q0->Hp->Tk->Prop} {r:Res α} {f:α->Q0->Res β} {g:β->Q0->Res q} (h:Acc mg E H ρ P ((r.bind f).bind g)):Acc mg E H ρ P (r.bind λa st=>(f a st).bind g):=by
 rw [<- Res.assoc]; exact h
theorem EnvR.le {G:Gam} (h:EnvR H ρ G σ) (I:Γ.length=σ.length) (k:∀ (i:Nat) (q:PV),Γ[i]?=zo (zo q)->G[i]?=zo (zo q)):EnvR H ρ Γ σ:=⟨I,λi p e=>h.2 i p (k i p e)⟩
variable {tg iter elt:aH} {ifs:List aH} {N N':List Str} {sc scE:Scope} {ga:GA} {mi:MI} {mt:MT} {me:ME}
section
variable {cap:zAC}
def aE (X:Cx) (N':List Str) (sc:Scope) (e:aH):TE:=λσ H Q=>∀ cl C s0 H0 ex,WE (Zz X N' sc cl C s0 H0 ex) e σ H Q
def aG (X:Cx) (N':List Str) (sc:Scope) (tg:aH):TG:=λv σ H Q=>∀ cl C s0 H0 ex,WGx (Zz X N' sc cl C s0 H0 ex) tg v σ H Q
def aT (X:Cx) (N':List Str) (sc:Scope) (ifs:List aH):TT:=λσ H Q=>∀ cl C s0 H0 ex,∃ t,PTs (Zz X N' sc cl C s0 H0 ex) ifs t/\t σ H Q
theorem Qf6 {Γ:Gam} {σ:St} {H1:Hp} {ρ1:Tk} {Y:Q0} {J:It} {q:List PV} {w:Wt} {Q:VK} {P:List PV->Q0->Hp->Tk->Prop} (hg:∀ cl C s0 H0 ex,SimG (Zz X N' sc cl C s0 H0 ex) tg ga) (he:∀ cl C s0 H0 ex,SimE (Zz X N' sc cl C s0 H0 ex) E0 elt me) (ht:∀ cl C s0 H0 ex,SimTs (Zz X N' sc cl C s0 H0 ex) ifs mt)
  (hf:Q1c cap ga) (R1:Rel H1 ρ1 Y) (G1:EnvR H1 ρ1 Γ σ) (src:Src J q w H1 ρ1) (c5:q.length<=sizeLine) (h:Acc X.mg E0 H1 ρ1 P (Jn ga mt me w (W7 cap Γ) q Y))
  (k:∀ ys b6 H2 a7 acc vs,Jn ga mt me w (W7 cap Γ) q Y=.ok ys b6->Ext H1 ρ1 H2 a7->Rel H2 a7 b6->acc∈a7.hid->H1 acc=zl->H2 acc=zo (.lst vs)->RepL H2 a7 ys vs->Q (.ref acc) H2):Q5s J cap (aG X N' sc tg) (aT X N' sc ifs) (aE X N' sc elt) σ H1 Q:=by
 intro acc G;let W:Nat->Nat->List V->St->Hp->Prop:=λi m vs b0 H'=>m=q.length - i/\i<=q.length/\vs.length<=i/\∃ ρ' st' ys,Ext H1 ρ1 H' ρ'/\acc∈ρ'.hid/\Rel H' ρ' st'/\EnvR H' ρ' (W7 cap Γ) b0/\H' acc=zo (.lst vs)/\RepL H' ρ' ys vs /\
  Jn ga mt me w (W7 cap Γ) q Y=(Jn ga mt me w (W7 cap Γ) (q.drop i) st').bind λzs a4=>.ok (ys ++ zs) a4
 refine ⟨W,⟨_,rfl,F8 _,O5 _,ρ1.hide acc,Y,[],Ext.hide G,F4,R1.hide G,(G1.cap cap).hide G,Qw,rfl,?_⟩,?_⟩
 ·rw [eO];cases r:Jn ga mt me w (W7 cap Γ) q Y with
  | ok zs a4=>rfl
  | exc x a4=>rfl
  | stuck=>rfl
 rintro i m vs b0 H' ⟨hm,hi,c6,ρ',st',ys,x,a2,R',G',ha,ry,O⟩;have I:Acc X.mg E0 H1 ρ1 P ((Jn ga mt me w (W7 cap Γ) (q.drop i) st').bind λzs a4=>.ok (ys ++ zs) a4):=by rw [<- O]; exact h
 refine ⟨ha,?_⟩
 by_cases a3:i < q.length
 ·right
  have hd:q.drop i=q[i] :: q.drop (i + 1):=iS a3;rw [hd,Jn] at I O
  by_cases hw:wOk w st'
  ·rw [bT hw] at I O;refine ⟨src.go H' _ st' x R' hw i a3,by omega,λy H2 hy=>?_⟩;obtain ⟨sm,c0⟩:=src.yld H' _ st' x R' hw i _ (O2 a3) y H2 hy;cases eg:ga q[i] (W7 cap Γ) with
   | none=>rw [eg] at I; exact I.elim
   | some a1=>
    rw [eg] at I O;have x2:Ext H' ρ' H2 ρ':=Ext.same sm;have R2:=R'.same sm;intro cl C s0 H0 ex;refine (hg cl C s0 H0 ex).run (W7 cap Γ) a1 b0 H2 ρ' _ y _ (G'.ext x2) c0 eg λb4 G3=>?_
    intro cl C s0 H0 ex;have c4:=Acc.later I (x.trans x2);refine (ht cl C s0 H0 ex).run a1 b4 H2 ρ' st' _ _ R2 G3 (Acc.bind (Acc.assoc c4)) λb c3 H4 a5 e4 x4 R4 G4=>?_
    simp only [e4,Res.bind] at I O;have G0:∀ {b1:Hp} {Z:Tk},EnvR b1 Z a1 b4->EnvR b1 Z (W7 cap Γ) b4:=λ{b1 Z} g=>g.le (by
     rw [<- G3.1];exact (hf Γ _ a1 eg).1.symm) (hf Γ _ a1 eg).2
    have a9:Ext H1 ρ1 H4 a5:=x.trans (x2.trans x4);have b3:acc∈a5.hid:=x4.hidM acc a2;have na:acc∉ρ'.tr:=R'.ap acc a2;have b8:H4 acc=zo (.lst vs):=x4.keep acc _ (sm acc _ ha) na;have b7:RepL H4 a5 ys vs:=ry.ext (x2.trans x4);cases b with
    | false=>
     rw [bU D2] at I O ⊢;exact ⟨_,show q.length - (i + 1) < m by omega,rfl,a3,by omega,a5,c3,ys,a9,b3,R4,G0 G4,b8,b7,O⟩
    | true=>
     rw [bT rfl] at I O ⊢;intro cl C s0 H0 ex;have c2:=Acc.later I a9;refine (he cl C s0 H0 ex).use' R4 G4 (Acc.bind (Acc.assoc c2)) λz b5 H5 a8 zv e5 x5 R5 G5 r5 h5=>?_
     simp only [e5,Res.bind] at I O;have a6:acc∈a8.hid:=x5.hidM acc b3;have b9:H5 acc=zo (.lst vs):=x5.keep acc _ b8 (R4.ap acc b3);have c1:Ext H1 ρ1 H5 a8:=a9.trans x5;refine ⟨b9,_,show q.length - (i + 1) < m by omega,rfl,a3,by rw [O6]; simp; omega,a8,b5,ys ++ [z],c1.put0 G,a6,R5.rehide a6,(G0 G5).rehide a6,Qw,((b7.ext x5).append (RepL.cons r5 RepL.nil)).rehide a6,?_⟩;refine O.trans ?_;cases rr:Jn ga mt me w (W7 cap Γ) (q.drop (i + 1)) b5 with
     | ok zs b2=>
      show Res.ok (ys ++ z :: zs) b2=Res.ok ((ys ++ [z]) ++ zs) b2;rw [dB]; rfl
     | exc x6 b2=>rfl
     | stuck=>rfl
  ·rw [bU hw] at I; exact I.elim
 ·left
  have ei:i=q.length:=by omega
  subst ei;rw [fc,Jn] at I O
  by_cases hw:wOk w st'
  ·rw [bT hw] at I O;refine ⟨src.stop H' _ st' x R' hw,?_⟩;have O:Jn ga mt me w (W7 cap Γ) q Y=.ok (ys ++ []) st':=O;rw [L1] at O;exact k ys st' H' ρ' acc vs O x R' a2 G ha ry
  ·rw [bU hw] at I; exact I.elim
theorem Q9t {Γ:Gam} {σ:St} {H:Hp} {ρ:Tk} {st:Q0} {Q:VK} {P:List PV->Q0->Hp->Tk->Prop} (hi:SimI X E tg iter mi) (hg:∀ cl C s0 H0 ex,SimG (Zz X N' sc cl C s0 H0 ex) tg ga) (he:∀ cl C s0 H0 ex,SimE (Zz X N' sc cl C s0 H0 ex) E0 elt me) (ht:∀ cl C s0 H0 ex,SimTs (Zz X N' sc cl C s0 H0 ex) ifs mt)
  (hf:Q1c cap ga) (R:Rel H ρ st) (G:EnvR H ρ Γ σ) (h:Acc X.mg E H ρ P (Qs cap ga mi mt me Γ st)) (k:∀ ps I H2 q a vs,Qs cap ga mi mt me Γ st=.ok ps I->Ext H ρ H2 q->Rel H2 q I->a∈q.hid->H a=zl->H2 a=zo (.lst vs)->RepL H2 q ps vs->Q (.ref a) H2):Q64 cap (WI X tg iter) (aG X N' sc tg) (aT X N' sc ifs) (aE X N' sc elt) σ H Q:=by
 refine hi.run Γ σ H ρ st _ _ R G h.bind λiw a1 H1 ρ1 J eq x1 R1 G1 ok hl src h1=>?_
 refine Qf6 hg he ht hf R1 G1 src hl (Qq1 (E':=E0) h1) λys I H2 q acc vs O x2 R2 hm Z ha ry=>?_
 refine k ys I H2 q acc vs ?_ (x1.trans x2) R2 hm ?_ ha ry
 ·unfold Qs;rw [eq];show noX _=_;rw [O]; rfl
 cases e:H acc with
 | none=>rfl
 | some o=>
  obtain ⟨o',Y⟩:=x1.old acc o e;rw [Z] at Y; cases Y
theorem Qw4 :∀ cl C s0 H0 ex,PG (Zz X N' sc cl C s0 H0 ex) tg (aG X N' sc tg):=λcl C s0 H0 ex pins s σ H v u Q I r h=>Qmv pins s σ H v u Q I r (h cl C s0 H0 ex)
theorem Qw7 :∀ cl C s0 H0 ex,PE (Zz X N' sc cl C s0 H0 ex) e (aE X N' sc e):=λcl C s0 H0 ex pins s σ H Q I h=>h cl C s0 H0 ex pins s I
theorem Qq8 :∀ cl C s0 H0 ex,PTs (Zz X N' sc cl C s0 H0 ex) ifs (aT X N' sc ifs):=λcl C s0 H0 ex pins s σ H Q I h=>by
 obtain ⟨t,a,b⟩:=h cl C s0 H0 ex;exact a pins s σ H Q I b
theorem Q1r (cap:zAC) (N':List Str) (q:X.calm=zb) (hi:SimI X E tg iter mi) (Y:∀ cl C s0 H0 ex,SimG (Zz X N' sc cl C s0 H0 ex) tg ga) (he:∀ cl C s0 H0 ex,SimE (Zz X N' sc cl C s0 H0 ex) E0 elt me) (ht:∀ cl C s0 H0 ex,SimTs (Zz X N' sc cl C s0 H0 ex) ifs mt)
  (O:Q1c cap ga) (J:X.N=N:=by rfl) (I:X.env.scope=scE:=by rfl) (Z:compOkC N N' sc scE cap=zb:=by kernel_rfl) (hs:∀ x,bG iter X.env x=pure x:=by intro _; rfl) :
  SimN X E (.ListComp elt [⟨tg,iter,ifs,0⟩] sc pos) (Qs cap ga mi mt me):=
 ⟨λΓ σ H ρ st P Q R G h k=>WE.of (Qhi q Qs5 Qw4 Qw7 Qq8 J I Z hs) (Q9t hi Y he ht O R G h k)⟩
end
inductive SR where
 | nx (Γ:Gam) (st:Q0) | rt (v:PV) (st:Q0) | bk (Γ:Gam) (st:Q0) | ct (Γ:Gam) (st:Q0) | exc (x:Exc) (st:Q0) | stuck
abbrev MS:=Gam->Q0->SR
variable {m1:MS}
def Res.sbind {α:Type} (r:Res α) (f:α->Q0->SR):SR:=match r with
 | .ok a st=>f a st
 | .exc x st=>.exc x st
 | .stuck=>.stuck
def AccS (mg:zAE) (E:XK) (D:Ends) (H:Hp) (ρ:Tk):SR->Prop
 | .nx Γ st=>∀ σ' H' ρ',Ext H ρ H' ρ'->Rel H' ρ' st->EnvR H' ρ' Γ σ'->D.nx σ' H'
 | .bk Γ st=>∀ σ' H' ρ',Ext H ρ H' ρ'->Rel H' ρ' st->EnvR H' ρ' Γ σ'->D.bk σ' H'
 | .ct Γ st=>∀ σ' H' ρ',Ext H ρ H' ρ'->Rel H' ρ' st->EnvR H' ρ' Γ σ'->D.ct σ' H'
 | .rt p st=>∀ v H' ρ',Ext H ρ H' ρ'->Rel H' ρ' st->Rep H' ρ' p v->D.rt v H'
 | .exc x st=>∀ C dv H' ρ',mg x.cls=zo (.ref C)->Ext H ρ H' ρ'->Rel H' ρ' st->XFs H' ρ' x.fs dv->E (.ref C) dv H'
 | .stuck=>False
variable {α:Type} {mg:zAE} {D:Ends} {H1:Hp} {ρ1:Tk}
theorem AccS.later {r:SR} (h:AccS mg E D H ρ r) (x:Ext H ρ H1 ρ1):AccS mg E D H1 ρ1 r:=by
 cases r with
 | nx Γ st=>exact λq H' ρ' G=>h q H' ρ' (x.trans G)
 | bk Γ st=>exact λq H' ρ' G=>h q H' ρ' (x.trans G)
 | ct Γ st=>exact λq H' ρ' G=>h q H' ρ' (x.trans G)
 | rt p st=>exact λv H' ρ' G=>h v H' ρ' (x.trans G)
 | exc y st=>exact λC I H' ρ' m G=>h C I H' ρ' m (x.trans G)
 | stuck=>exact h
theorem AccS.bind {r:Res α} {f:α->Q0->SR} (h:AccS mg E D H ρ (r.sbind f)):Acc mg E H ρ (λa q H1 ρ1=>AccS mg E D H1 ρ1 (f a q)) r:=by
 cases r with
 | ok a st=>exact λH' ρ' G I=>AccS.later (show AccS mg E D H ρ (f a st) from h) G
 | exc e st=>exact h
 | stuck=>exact h
theorem Res.sassoc (r:Res α) (f:α->Q0->Res β) (g:β->Q0->SR):(r.bind f).sbind g=r.sbind λa st=>(f a st).sbind g:=by cases r <;> rfl
theorem AccS.assoc {r:Res α} {f:α->Q0->Res β} {g:β->Q0->SR} (h:AccS mg E D H ρ ((r.bind f).sbind g)):AccS mg E D H ρ (r.sbind λa st=>(f a st).sbind g):=by
 rw [<- Res.sassoc]; exact h
structure SimS (X:Cx) (E:XK) (s:aM) (m:MS):Prop where
 run:∀ (Γ:Gam) (σ:St) (H:Hp) (ρ:Tk) (st:Q0) (D:Ends),Rel H ρ st->EnvR H ρ Γ σ->AccS X.mg E D H ρ (m Γ st)->WS X s D σ H
structure SimB (X:Cx) (E:XK) (ss:List aM) (m:MS):Prop where
 run:∀ (Γ:Gam) (σ:St) (H:Hp) (ρ:Tk) (st:Q0) (D:Ends),Rel H ρ st->EnvR H ρ Γ σ->AccS X.mg E D H ρ (m Γ st)->WB X ss D σ H
variable {e:aH} {m:ME}
def Qr:MS:=λΓ st=>.nx Γ st
def Q9 (m1 m2:MS):MS:=λΓ st=>match m1 Γ st with
 | .nx Γ1 st1=>m2 Γ1 st1
 | r=>r
theorem Qrq:SimB X E [] Qr:=⟨λΓ σ H ρ st D R G h=>WB.of Qmh (h σ H ρ (Ext.refl _ _) R G)⟩
theorem Ut {rest:List aM} {O:MS} (h1:SimS X E s m1) (h2:SimB X E rest O):SimB X E (s :: rest) (Q9 m1 O):=
 ⟨λΓ σ H ρ st D R G h=>WB.of (Qh3 Qw1 Q2v) (h1.run Γ σ H ρ st _ R G (by
  unfold Q9 at h;cases r:m1 Γ st with
  | nx I q=>rw [r] at h; exact λJ H' ρ' Z Y G'=>h2.run I J H' ρ' q D Y G' (AccS.later h Z)
  | bk I q=>rw [r] at h; exact h
  | ct I q=>rw [r] at h; exact h
  | rt p q=>rw [r] at h; exact h
  | exc x q=>rw [r] at h; exact h
  | stuck=>rw [r] at h; exact h))⟩
theorem Qaf (h1:SimS X E s m1):SimB X E [s] m1:=⟨λΓ σ H ρ st D R G h=>WB.of (Qmg Qw1) (h1.run Γ σ H ρ st D R G h)⟩
def Qay:MS:=λΓ st=>.bk Γ st
theorem Qg4:SimS X E (.Break pos) Qay:=⟨λΓ σ H ρ st D R G h=>WS.of Qh6 (h σ H ρ (Ext.refl _ _) R G)⟩
def qq (m:ME):MS:=λΓ st=>(m Γ st).sbind λ_ st1=>.nx Γ st1
theorem Qkm (J:SimE X E e m) (hs:swapsWith e zl pos.line X.env=pure yo:=by rfl):SimS X E (.Expr e pos) (qq m):=
 ⟨λΓ σ H ρ st D R G h=>WS.of (Qmi Jc hs) (J.use R G h.bind λp O H1 ρ1 v x1 I q Y h1=>h1 σ H1 ρ1 (Ext.refl _ _) I q)⟩
def Qq (m:ME):MS:=λΓ st=>(m Γ st).sbind λp st1=>.rt p st1
theorem Qg1 (J:SimE X E e m):SimS X E (.Return (zo e) pos) (Qq m):=
 ⟨λΓ σ H ρ st D R G h=>WS.of (Qs1 Jc) (J.use R G h.bind λp O H1 ρ1 v x1 q Y I h1=>h1 v H1 ρ1 (Ext.refl _ _) q I)⟩
def Qx (i:Nat) (m:ME):MS:=λΓ st=>(m Γ st).sbind λp st1=>.nx (Γ.set i (zo p)) st1
theorem xx (i:Nat) {pos':Pos} (q:X.N.Nodup) (he:SimE X E e m) (hi:X.N[i]?=zo x:=by rfl) (O:Loc X.env.scope x:=by first | exact Or.inl rfl | exact Or.inr rfl) (hs:swapsWith e (zo (.Name x pos')) pos.line X.env=pure yo:=by rfl) (J:X.fn x=zb\/X.env.scope.names.lookup x=zo .local:=by first | exact .inl rfl | exact .inr rfl) :
  SimS X E (.Assign [.Name x pos'] e pos) (Qx i m):=
 ⟨λΓ σ H ρ st D R G h=>WS.of (Qs0 q hi O Jc hs J) (he.use R G h.bind λp a1 H1 ρ1 v x1 Y I Z h1=>h1 _ H1 ρ1 (Ext.refl _ _) Y (I.set Z i))⟩
section
variable {tg iter elt:aH} {ifs:List aH} {N N':List Str} {sc scE:Scope} {ga:GA} {mi:MI} {mt:MT} {me:ME}
theorem Q2f (cap:zAC) (N':List Str) (i:Nat) {x:Str} {px cpos:Pos} (I:X.N.Nodup) (q:X.calm=zb) (hi:SimI X E tg iter mi) (hg:∀ cl C s0 H0 ex,SimG (Zz X N' sc cl C s0 H0 ex) tg ga) (he:∀ cl C s0 H0 ex,SimE (Zz X N' sc cl C s0 H0 ex) E0 elt me) (ht:∀ cl C s0 H0 ex,SimTs (Zz X N' sc cl C s0 H0 ex) ifs mt)
  (hf:Q1c cap ga) (J:X.N[i]?=zo x:=by rfl) (hx:Loc X.env.scope x:=by first | exact Or.inl rfl | exact Or.inr rfl) (Y:swapsWith (.ListComp elt [⟨tg,iter,ifs,0⟩] sc cpos) (zo (.Name x px)) pos.line X.env=pure zb:=by rfl)
  (hN:X.N=N:=by rfl) (Z:X.env.scope=scE:=by rfl) (hc:compOkC N N' sc scE cap=zb:=by kernel_rfl) (hs:∀ x,bG iter X.env x=pure x:=by intro _; rfl) (O:X.fn x=zb\/X.env.scope.names.lookup x=zo .local:=by first | exact .inl rfl | exact .inr rfl) :
  SimS X E (.Assign [.Name x px] (.ListComp elt [⟨tg,iter,ifs,0⟩] sc cpos) pos) (Qx i (Zx (Qs cap ga mi mt me))):=
 ⟨λΓ σ H ρ st D R G h=>WS.of (Qh5 I J hx q Qs5 Qw4 Qw7 Qq8 Y hN Z hc hs O) (Q9t hi hg he ht hf R G (AccS.bind (by unfold Qx Zx at h; exact AccS.assoc h)) λps a1 H1 ρ1 a vs eq x R1 hm hn ha r=>by
  obtain ⟨x2,R2,r2⟩:=Qci R x R1 hm hn ha r;simp only [Qx,Zx,eq,Res.bind,Res.sbind] at h;exact h _ _ _ x2 R2 ((G.ext x2).set r2 i))⟩
end
def Qnu (ga:GA) (m:ME):MS:=λΓ st=>(m Γ st).sbind λp st1=>match ga p Γ with
 | some Γ1=>.nx Γ1 st1
 | none=>.stuck
theorem Qg5 (he:SimE X E e m) (Z:SimG X tg ga) (hs:swapsWithSole [tg] e pos.line X.env=pure yo:=by rfl) (O:swappedStores [tg] e X.env=pure zl:=by rfl) (h1:(az [tg] X.env).map (·.2)=[assign tg X.env]:=by rfl):SimS X E (.Assign [tg] e pos) (Qnu ga m):=
 ⟨λΓ σ H ρ st D R G h=>WS.of (Qh7 Jc Qmv hs O h1) (he.use R G h.bind λp a1 H1 ρ1 v x1 R1 Y r1 h1=>by
  cases q:ga p Γ with
  | none=>rw [q] at h1; exact h1.elim
  | some I=>
   rw [q] at h1;exact Z.run Γ I σ H1 ρ1 p v _ Y r1 q λJ G'=>h1 J H1 ρ1 (Ext.refl _ _) R1 G')⟩
def Ke (st:Q0) (o i p:PV):Option Q0:=match o,i with
 | .ref k,.int j=>match st[k]? with
  | some (.lst xs)=>(ixN xs.length j).map λn=>st.set k (.lst (xs.set n p))
  | _=>zl
 | _,_=>zl
def Xe (mo mi m:ME):MS:=λΓ st=>(m Γ st).sbind λp st1=>(mo Γ st1).sbind λo st2=>(mi Γ st2).sbind λi st3=>match Ke st3 o i p with
 | some st4=>.nx Γ st4
 | none=>.stuck
theorem Qkx {st':Q0} {o i:PV} {x y z:V} (R:Rel H ρ st) (Z:Rep H ρ o x) (ri:Rep H ρ i y) (Y:Rep H ρ p z) (e:Ke st o i p=zo st') :
  ∃ a vs k j,x=.ref a/\y=.int k/\H a=zo (.lst vs)/\ixN vs.length k=zo j/\Ext H ρ (upd H a (.lst (vs.set j z))) ρ/\Rel (upd H a (.lst (vs.set j z))) ρ st':=by
 unfold Ke at e
 split at e
 ·rename_i k j
  split at e
  ·rename_i xs hs;cases G:ixN xs.length j with
   | none=>rw [G] at e; cases e
   | some n=>
    rw [G] at e;have e:st.set k (.lst (xs.set n p))=st':=bn e;subst e;obtain ⟨a,q,rfl⟩:=Z;cases ri;obtain ⟨b,vs,J,I,O⟩:=R.lst hs;rw [q] at J; cases J;exact ⟨a,vs,j,n,rfl,rfl,I,by rw [<- O.length]; exact G,Ext.put (E2 q) I,R.put q I (O.set Y n)⟩
  ·cases e
 ·cases e
theorem Qr6 {o i:aH} {mo mi:ME} {tpos:Pos} (he:SimE X E e m) (ho:SimE X E o mo) (hi:SimE X E i mi)
  (ha:∀ v,assign (.Subscript o i tpos) X.env v=(do
   let q <- aw [v] (aO o X.env)
   let I <- aw [v,q] (aO i X.env)
   standAt tpos
   aw [v,q,I] (setItem q I v)
   release [v,q,I] []):=by intro _; rfl)
  (hs:swapsWithSole [.Subscript o i tpos] e pos.line X.env=pure yo:=by rfl) (hw:swappedStores [.Subscript o i tpos] e X.env=pure zl:=by rfl) (h1:(az [.Subscript o i tpos] X.env).map (·.2)=[assign (.Subscript o i tpos) X.env]:=by rfl) :
  SimS X E (.Assign [.Subscript o i tpos] e pos) (Xe mo mi m):=
 ⟨λΓ σ H ρ st D R G h=>WS.of (Qh7 Jc (Qs9 Jc Jc Qge ha) hs hw h1) (he.use R G h.bind λp a4 H1 ρ1 z x1 R1 G1 r1 h1=>ho.use R1 G1 h1.bind λq a1 H2 a2 x x2 R2 G2 r2 h2=>hi.use R2 G2 h2.bind λI Y H3 O y x3 R3 G3 r3 J=>by
  cases es:Ke Y q I p with
  | none=>rw [es] at J; exact J.elim
  | some a3=>
   rw [es] at J;obtain ⟨a,vs,k,j,rfl,rfl,f1,f2,Z,R4⟩:=Qkx R3 (r2.ext x3) r3 (r1.ext (x2.trans x3)) es;exact ⟨a,vs,k,j,rfl,rfl,f1,f2,J σ _ O Z R4 (G3.ext Z)⟩)⟩
def Jd (mt:MT) (ma mb:MS):MS:=λΓ st=>(mt Γ st).sbind λb st1=>if b=zb then ma Γ st1 else mb Γ st1
theorem Qvk {a b:List aM} {ma mb:MS} (Z:SimT X E c mt) (O:SimB X E a ma) (Y:SimB X E b mb):SimS X E (.If c a b pos) (Jd mt ma mb):=
 ⟨λΓ σ H ρ st D R G h=>WS.of (Qw2 Q8g Q2v Q2v) (Z.use R G h.bind λk q H1 ρ1 x1 J I h1=>by
  cases k with
  | true=>rw [bT rfl] at h1 ⊢; exact O.run Γ σ H1 ρ1 q D J I h1
  | false=>rw [bU D2] at h1 ⊢; exact Y.run Γ σ H1 ρ1 q D J I h1)⟩
open Classical in
def Jm (ga:GA) (body:MS) (w:Wt):List PV->Gam->Q0->SR
 | [],Γ,st=>if wOk w st then .nx Γ st else .stuck
 | x :: xs,Γ,st=>if wOk w st then (match ga x Γ with
  | none=>.stuck
  | some Γ1=>match body Γ1 st with
   | .nx Γ2 st2=>Jm ga body w xs Γ2 st2
   | .ct Γ2 st2=>Jm ga body w xs Γ2 st2
   | .bk Γ2 st2=>.nx Γ2 st2
   | .rt v st2=>.rt v st2
   | .exc x st2=>.exc x st2
   | .stuck=>.stuck) else .stuck
def Kp (ga:GA) (mi:MI) (body:MS):MS:=λΓ st=>(mi Γ st).sbind λiw st1=>Jm ga body iw.2 iw.1 Γ st1
theorem Qg3 {bd:List aM} {body:MS} (hp:PassesOwn (aI X.prog X.w) X.A X.env X.xe) (hc:X.calm=zb) (hi:SimI X E tg iter mi) (hg:SimG X tg ga) (hb:SimB X E bd body)
  (hs:∀ x,bG iter X.env x=pure x:=by intro _; rfl):SimS X E (.For tg iter bd [] pos) (Kp ga mi body):=
 ⟨λΓ σ H ρ st D R G h=>WS.of (Qs2 hp hc Qs5 Qmv Q2v hs) (hi.run Γ σ H ρ st _ _ R G h.bind λO a8 H1 ρ1 J eq x1 R1 G1 ok hl src h1=>by
  let W:Nat->Nat->St->Hp->Prop:=λi m Y H'=>m=O.1.length - i/\i<=O.1.length/\∃ a1 ρ' st',Ext H1 ρ1 H' ρ'/\Rel H' ρ' st'/\EnvR H' ρ' a1 Y/\AccS X.mg E D H' ρ' (Jm ga body O.2 (O.1.drop i) a1 st')
  refine ⟨W,⟨_,rfl,F8 _,Γ,ρ1,a8,Ext.refl _ _,R1,G1,by rw [eO]; exact h1⟩,?_⟩;rintro i m Y H' ⟨hm,a9,a1,ρ',st',x,R',G',hA⟩
  by_cases a4:i < O.1.length
  ·right
   have hd:O.1.drop i=O.1[i] :: O.1.drop (i + 1):=iS a4;rw [hd,Jm] at hA
   by_cases hw:wOk O.2 st'
   ·rw [bT hw] at hA;refine ⟨src.go H' ρ' st' x R' hw i a4,λa6 H2=>W (i + 1) (O.1.length - (i + 1)) a6 H2,λa6 H2 z=>⟨_,by omega,z⟩,λy H2 hy=>?_⟩
    obtain ⟨sm,ry⟩:=src.yld H' ρ' st' x R' hw i _ (O2 a4) y H2 hy;have x2:Ext H' ρ' H2 ρ':=Ext.same sm;cases eg:ga O.1[i] a1 with
    | none=>rw [eg] at hA; exact hA.elim
    | some a5=>
     rw [eg] at hA;refine hg.run a1 a5 Y H2 ρ' _ y _ (G'.ext x2) ry eg λa7 G3=>?_
     have q:=AccS.later hA x2;simp only at q;refine hb.run a5 a7 H2 ρ' st' _ (R'.same sm) G3 ?_;have again:∀ {Z:Gam} {I:Q0},AccS X.mg E D H2 ρ' (Jm ga body O.2 (O.1.drop (i + 1)) Z I)->∀ Y a3 a2,Ext H2 ρ' a3 a2->Rel a3 a2 I->EnvR a3 a2 Z Y->W (i + 1) (O.1.length - (i + 1)) Y a3:=λ{Z I} a σ4 H4 ρ4 x4 R4 G4=>
      ⟨rfl,a4,Z,ρ4,I,x.trans (x2.trans x4),R4,G4,AccS.later a x4⟩
     cases rb:body a5 st' with
     | nx Z I=>rw [rb] at q; exact again q
     | ct Z I=>rw [rb] at q; exact again q
     | bk Z I=>rw [rb] at q; exact q
     | rt v I=>rw [rb] at q; exact q
     | exc y I=>rw [rb] at q; exact q
     | stuck=>rw [rb] at q; exact q.elim
   ·rw [bU hw] at hA; exact hA.elim
  ·left
   have ei:i=O.1.length:=by omega
   subst ei;rw [fc,Jm] at hA
   by_cases hw:wOk O.2 st'
   ·rw [bT hw] at hA;exact ⟨src.stop H' ρ' st' x R' hw,hA Y H' ρ' (Ext.refl _ _) R' G'⟩
   ·rw [bU hw] at hA; exact hA.elim)⟩
def Jv (mt:MT) (body:MS):Nat->Gam->Q0->SR
 | 0,_,_=>.stuck
 | n + 1, Γ, st => (mt Γ st).sbind λb st1 => if b = zb then (match body Γ st1 with
   | .nx Γ2 st2=>Jv mt body n Γ2 st2
   | .ct Γ2 st2=>Jv mt body n Γ2 st2
   | .bk Γ2 st2=>.nx Γ2 st2
   | .rt v st2=>.rt v st2
   | .exc x st2=>.exc x st2
   | .stuck=>.stuck) else .nx Γ st1
theorem Qg0 (n:Nat) {bd:List aM} {body:MS} (hp:PassesOwn (aI X.prog X.w) X.A X.env X.xe) (hc:SimT X E c mt) (hb:SimB X E bd body):SimS X E (.While c bd [] pos) (Jv mt body n):=
 ⟨λΓ σ H ρ st D R G h=>WS.of (Qh4 hp Q8g Q2v) (by
  let W:Nat->St->Hp->Prop:=λm I H'=>∃ O ρ' st',Rel H' ρ' st'/\EnvR H' ρ' O I/\AccS X.mg E D H' ρ' (Jv mt body m O st')
  refine ⟨W,⟨n,Γ,ρ,st,R,G,h⟩,?_⟩;rintro m I H' ⟨O,ρ',st',R',G',hA⟩;cases m with
  | zero=>exact hA.elim
  | succ m=>
   rw [Jv] at hA;refine hc.use R' G' hA.bind λb a2 H1 ρ1 x1 R1 G1 h1=>?_
   cases b with
   | false=>rw [bU D2] at h1 ⊢; exact h1 I H1 ρ1 (Ext.refl _ _) R1 G1
   | true=>
    rw [bT rfl] at h1 ⊢;refine ⟨λa1 H2=>W m a1 H2,λa1 H2 z=>⟨m,dE _,z⟩,hb.run O I H1 ρ1 a2 _ R1 G1 ?_⟩
    have again:∀ {J:Gam} {q:Q0},AccS X.mg E D H1 ρ1 (Jv mt body m J q)->∀ I Z Y,Ext H1 ρ1 Z Y->Rel Z Y q->EnvR Z Y J I->W m I Z:=λ{J q} a σ4 H4 ρ4 x4 R4 G4=>⟨J,ρ4,q,R4,G4,AccS.later a x4⟩
    cases rb:body O a2 with
    | nx J q=>rw [rb] at h1; exact again h1
    | ct J q=>rw [rb] at h1; exact again h1
    | bk J q=>rw [rb] at h1; exact h1
    | rt v q=>rw [rb] at h1; exact h1
    | exc y q=>rw [rb] at h1; exact h1
    | stuck=>rw [rb] at h1; exact h1.elim)⟩
def Q6v (x:Str) (m:ME):MS:=λΓ st=>(m Γ st).sbind λ_ st1=>.exc ⟨x,zl⟩ st1
theorem Qg2 {C:aB} {Z cpos:Pos} (I:X.calm=zb) (Y:Qc0 X E) (hg:Gl X x) (hm:X.mg x=zo (.ref C)) (q:cK X.K C Qa1 "ValueError.__new__" = zb) (he:SimE X E e m)
  (O:(x == ("__debug__" : Str))=yo:=by decide) (J:aN [e] X.env=[(yo,aO e X.env)]:=by rfl):SimS X E (.Raise (zo (.Call (.Name x Z) [e] [] cpos)) zl pos) (Q6v x m):=
 ⟨λΓ σ H ρ st D R G h=>WS.of (Qe4 I Y hg hm q (Wj Jc Xa (by rw [J]; rfl)) O J) (he.use R G h.bind λp a1 H1 ρ1 v x1 R1 G1 r1 h1=>⟨D9 (show 1<=lim by decide) Q6z,h1 C zl H1 ρ1 hm (Ext.refl _ _) R1 rfl⟩)⟩
def WM (X:Cx) (id:String):V->List V->Hp->VK->Prop:=λx xs H Q=>∀ (pins:zAA) (s:aC) (σ:St) (v:aA) (us:List aA),Inv X pins σ H s->RelV x v->Vals xs us->aF (aI X.prog X.w) X.A (call (.builtin id) (v :: us)) (EP X pins σ Q) X.xe s
theorem Qzt {id:String}:MtR X id (WM X id):=λpins s σ _ _ _ v us _ I r rs h=>h pins s σ v us I r rs
theorem WM.of {id:String} {r:V->List V->Hp->VK->Prop} {x:V} {xs:List V} (h:MtR X id r) (q:r x xs H Q):WM X id x xs H Q:=λpins s σ v us I J G=>h pins s σ H x xs v us Q I J G q
abbrev MF:=Q0->PV->List PV->Res PV
structure MtS (X:Cx) (E:XK) (id:String) (o:MF):Prop where
 run:∀ (H:Hp) (ρ:Tk) (st:Q0) (p:PV) (ps:List PV) (x:V) (xs:List V) (Q:VK),Rel H ρ st->Rep H ρ p x->RepL H ρ ps xs->Acc X.mg E H ρ (QV Q) (o st p ps)->WM X id x xs H Q
variable {o:aH} {es:List aH} {mo:ME} {mr:Gam->Q0->Res (List PV)} {name:Str} {apos cpos:Pos} {T:String} {f:MF}
section
variable {id:String}
def mBM (f:MF) (mo:ME) (mr:Gam->Q0->Res (List PV)):ME:=λΓ st=>(mo Γ st).bind λp st1=>match U0 st1 p with
 | some _=>(mr Γ st1).bind λps st2=>f st2 p ps
 | none=>.stuck
theorem Qvp (pa:PlainAttrs "list") (slot:Slot "list" name id) (Z:typeOf (.builtin id)=pure (.type "method_descriptor")) (hm:MtS X E id f) (ho:SimE X E o mo) (ha:SimA X E (e :: es) mr)
  (I:bM o name X.env (aO o X.env)=aO o X.env:=by rfl)
  (O:((aY cpos (aN (e :: es) X.env)).all (λx=>!x.1) && (backToKw cpos (keywordEach [] X.env)).all (λx=>x.1.isSome)
   && decide ((e :: es).length + ([]:List Keyword).length + (if ([]:List Keyword).isEmpty then 0 else 1) < 30))=zb:=by rfl)
  (J:(apos.endLine == cpos.line)=zb:=by rfl) (hs:aN (e :: es) X.env=(yo,aO e X.env) :: aN es X.env:=by rfl) (q:(aY cpos (aN es X.env)).any (·.1)=yo:=by rfl) :
  SimE X E (.Call (.Attribute o name apos) (e :: es) [] cpos) (mBM f mo mr):=
 ⟨λΓ σ H ρ st Q R G h=>WE.of (Qhk pa slot Z Qzt Jc Q02 I O J hs q) (ho.use R G h.bind λp a2 H1 ρ1 v x1 R1 G1 r1 h1=>by
  split at h1
  ·rename_i ys el;obtain ⟨a,vs,rfl,hr,_⟩:=Uw R1 r1 el;exact ⟨.inl ⟨rfl,vs,.inl hr⟩,ha.use R1 G1 h1.bind λps Y H2 a1 us x2 R2 G2 r2 h2=>hm.run H2 a1 Y p ps _ us Q R2 (r1.ext x2) r2 h2⟩
  ·exact h1.elim)⟩
def chg (st:Q0) (p:PV) (g:List PV->Option (PV × List PV)):Res PV:=match p with
 | .ref i=>match st[i]? with
  | some (.lst xs)=>match g xs with
   | some (r,ys)=>.ok r (st.set i (.lst ys))
   | none=>.stuck
  | _=>.stuck
 | _=>.stuck
theorem Qpj {x:V} {g:List PV->Option (PV × List PV)} (R:Rel H ρ st) (J:Rep H ρ p x) (h:Acc mg E H ρ (QV Q) (chg st p g)) :
  ∃ a xs vs r ys,x=.ref a/\H a=zo (.lst vs)/\RepL H ρ xs vs/\g xs=zo (r,ys)/\∀ us v,RepL H ρ ys us->Rep H ρ r v->Q v (upd H a (.lst us)):=by
 unfold chg at h
 split at h
 ·rename_i i
  split at h
  ·rename_i xs hs
   split at h
   ·rename_i r ys Y;obtain ⟨a,q,rfl⟩:=J;obtain ⟨b,vs,I,G,Z⟩:=R.lst hs;rw [q] at I; cases I;refine ⟨a,xs,vs,r,ys,rfl,G,Z,Y,λus v ru O=>?_⟩;have x:=Ext.put (o':=.lst us) (E2 q) G;exact h _ ρ x (R.put q G ru) v (O.ext x)
   ·exact h.elim
  ·exact h.elim
 ·exact h.elim
def Y8:MF:=λst p ps=>match ps with
 | [y]=>chg st p λxs=>if xs.length < lim then zo (.non,xs ++ [y]) else zl
 | _=>.stuck
theorem Qep:MtS X E "list.append" Y8:=⟨λH ρ st p ps x xs Q R I rs h=>by
 unfold Y8 at h
 split at h
 ·obtain ⟨v,rfl,r⟩:=Zd rs;obtain ⟨a,ys,vs,Y,zs,rfl,O,G,q,k⟩:=Qpj R I h
  split at q
  ·rename_i J;cases q;exact WM.of Qen ⟨a,vs,v,rfl,rfl,O,by rw [<- G.length]; exact D1 J Q6z,k _ _ (G.append (RepL.cons r RepL.nil)) rfl⟩
  ·cases q
 ·exact h.elim⟩
theorem Qe0 (O:SimE X E o mo) (J:SimA X E [e] mr) (G:bM o "append" X.env (aO o X.env)=aO o X.env:=by rfl)
  (I:((aY cpos (aN [e] X.env)).all (λx=>!x.1) && (backToKw cpos (keywordEach [] X.env)).all (λx=>x.1.isSome) && decide ([e].length + ([]:List Keyword).length + (if ([]:List Keyword).isEmpty then 0 else 1) < 30))=zb:=by rfl)
  (q:(apos.endLine == cpos.line)=zb:=by rfl) (hs:aN [e] X.env=(yo,aO e X.env) :: aN [] X.env:=by rfl):SimE X E (.Call (.Attribute o "append" apos) [e] [] cpos) (mBM Y8 mo mr):=
 Qvp PySem.F.plainAttrs_list PySem.F.slot_list_append PySem.F.type_list_append Qep O J G I q hs
end
section
mutual
def fz (n:Nat) (st:Q0):Nat->PV->Option PV
 | 0,_=>zl
 | _ + 1,.non=>zo .non
 | _ + 1,.bl b=>zo (.bl b)
 | _ + 1,.int i=>zo (.int i)
 | _ + 1,.str x=>zo (.str x)
 | k + 1,.tup xs=>(fzL n st k xs).map .tup
 | k + 1,.lst xs=>(fzL n st k xs).map .lst
 | k + 1,.fro xs=>(fzL n st k xs).map .fro
 | _ + 1,.dic=>zo .dic
 | k + 1,.ref i=>if i < n then zo (.ref i) else match st[i]? with
  | some (.lst xs)=>(fzL n st k xs).map .lst
  | _=>zl
def fzL (n:Nat) (st:Q0):Nat->List PV->Option (List PV)
 | _,[]=>zo []
 | k,x :: xs=>(fz n st k x).bind λy=>(fzL n st k xs).map (y :: ·)
end
theorem Qd3 :∀ {m k:Nat} {p:PV},good m p=zb->m < k->fz n st k p=zo p:=by
 intro m
 induction m with
 | zero=>
  intro k p g J;obtain ⟨k,rfl⟩:∃ j,k=j + 1:=⟨k - 1,by omega⟩;cases p with
  | tup _=>cases g
  | lst _=>cases g
  | fro _=>cases g
  | ref _=>cases g
  | dic=>cases g
  | _=>rw [fz]
 | succ m I=>
  intro k p g J;obtain ⟨k,rfl⟩:∃ j,k=j + 1:=⟨k - 1,by omega⟩;have G:∀ xs:List PV,xs.all (good m)=zb->fzL n st k xs=zo xs:=by
   intro xs
   induction xs with
   | nil=>intro _; rw [fzL]
   | cons x xs q=>
    intro g;rw [bz,E4] at g;rw [fzL,I g.1 (by omega),q g.2]; rfl
  cases p with
  | tup xs=>rw [fz,G xs g]; rfl
  | lst xs=>rw [fz,G xs g]; rfl
  | fro xs=>rw [fz,G xs g]; rfl
  | ref _=>cases g
  | dic=>cases g
  | _=>rw [fz]
section
variable {H:Hp} {ρ:Tk} {st:Q0} {tr0 rest hs:List aB}
theorem Qj6 (R:Rel H ρ st) (ht:ρ.tr=tr0 ++ rest) (hh:∀ a,a∈hs->a∈ρ.hid):∀ (k:Nat) {p p':PV} {v:V},Rep H ρ p v->fz tr0.length st k p=zo p'->Rep H ⟨tr0,hs⟩ p' v:=by
 have J:∀ a,a∉ρ->a∉(⟨tr0,hs⟩:Tk):=λa n z=>by
  rcases z with z | z
  ·exact n (.inl (by rw [ht]; exact F7 _ z))
  ·exact n (.inr (hh a z))
 intro k
 induction k with
 | zero=>intro p p' v r e; rw [fz] at e; cases e
 | succ k ih=>
  have hL:∀ {ps I:List PV} {vs:List V},RepL H ρ ps vs->fzL tr0.length st k ps=zo I->RepL H ⟨tr0,hs⟩ I vs:=by
   intro ps
   induction ps with
   | nil=>intro I vs r e; rw [fzL] at e; cases e; exact r
   | cons x xs a2=>
    intro I vs r e;obtain ⟨v,t,rfl,r1,r2⟩:=r;rw [fzL] at e;cases G:fz tr0.length st k x with
    | none=>rw [G] at e; cases e
    | some y=>
     rw [G] at e;have e:(fzL tr0.length st k xs).map (y :: ·)=zo I:=e;cases q:fzL tr0.length st k xs with
     | none=>rw [q] at e; cases e
     | some ys=>
      rw [q] at e;cases e;exact ⟨v,t,rfl,ih r1 G,a2 r2 q⟩
  intro p p' v r e;cases p with
  | non=>rw [fz] at e; cases e; exact r
  | bl b=>rw [fz] at e; cases e; exact r
  | int i=>rw [fz] at e; cases e; exact r
  | str x=>rw [fz] at e; cases e; exact r
  | tup xs=>
   rw [fz] at e;obtain ⟨a,vs,G,O,Y,Z⟩:=r;cases q:fzL tr0.length st k xs with
   | none=>rw [q] at e; cases e
   | some ys=>rw [q] at e; cases e; exact ⟨a,vs,G,O,J a Y,hL Z q⟩
  | lst xs=>
   rw [fz] at e;obtain ⟨a,vs,G,O,Y,Z⟩:=r;cases q:fzL tr0.length st k xs with
   | none=>rw [q] at e; cases e
   | some ys=>rw [q] at e; cases e; exact ⟨a,vs,G,O,J a Y,hL Z q⟩
  | fro xs=>
   rw [fz] at e;obtain ⟨a,vs,G,O,Y,Z⟩:=r;cases q:fzL tr0.length st k xs with
   | none=>rw [q] at e; cases e
   | some ys=>rw [q] at e; cases e; exact ⟨a,vs,G,O,J a Y,hL Z q⟩
  | dic=>
   rw [fz] at e;cases e;obtain ⟨a,G,O,Y⟩:=r;exact ⟨a,G,O,J a Y⟩
  | ref i=>
   rw [fz] at e;obtain ⟨a,ea,rfl⟩:=r
   by_cases hi:i < tr0.length
   ·rw [bT hi] at e;cases e;rw [ht,O8 hi] at ea;exact ⟨a,ea,rfl⟩
   ·rw [bU hi] at e
    split at e
    ·rename_i xs a1;obtain ⟨b,vs,f1,f2,f3⟩:=R.lst a1;rw [ea] at f1; cases f1;cases q:fzL tr0.length st k xs with
     | none=>rw [q] at e; cases e
     | some ys=>
      rw [q] at e; cases e;refine ⟨a,vs,rfl,f2,λz=>?_,hL f3 q⟩;rcases z with z | z
      ·have z:a∈tr0:=z;obtain ⟨j,hj,ej⟩:=G6 z;have g1:ρ.tr[j]?=zo a:=by rw [ht,O8 hj,O2 hj,ej]
       have l1:=O3.mp g1;have l2:=O3.mp ea;have:=Q5b R.nd l1.1 l2.1 (l1.2.trans l2.2.symm);omega
      ·exact R.ap a (hh a z) (E2 ea)
    ·cases e
mutual
def bel (n:Nat):PV->Prop
 | .tup xs=>belL n xs
 | .lst xs=>belL n xs
 | .fro xs=>belL n xs
 | .ref i=>i < n
 | _=>True
def belL (n:Nat):List PV->Prop
 | []=>True
 | x :: xs=>bel n x/\belL n xs
end
mutual
theorem Rep.bel:∀ {p:PV} {v:V},Rep H ρ p v->bel ρ.tr.length p
 | .non,_,_=>by simp [Sm.bel]
 | .bl _,_,_=>by simp [Sm.bel]
 | .int _,_,_=>by simp [Sm.bel]
 | .str _,_,_=>by simp [Sm.bel]
 | .tup ps,_,⟨_,_,_,_,_,r⟩=>by rw [Sm.bel]; exact RepL.bel r
 | .lst ps,_,⟨_,_,_,_,_,r⟩=>by rw [Sm.bel]; exact RepL.bel r
 | .fro ps,_,⟨_,_,_,_,_,r⟩=>by rw [Sm.bel]; exact RepL.bel r
 | .ref i,_,⟨_,e,_⟩=>by rw [Sm.bel]; exact (O3.mp e).1
 | .dic,_,_=>by simp [Sm.bel]
theorem RepL.bel:∀ {ps:List PV} {vs:List V},RepL H ρ ps vs->belL ρ.tr.length ps
 | [],_,_=>by simp [belL]
 | p :: ps,_,⟨_,_,_,G,q⟩=>by rw [belL]; exact ⟨Rep.bel G,RepL.bel q⟩
end
mutual
theorem Rep.less (q:ρ.tr=tr0 ++ rest) (G:∀ a,a∈hs->a∈ρ.hid):∀ {p:PV} {v:V},Sm.bel tr0.length p->Rep H ρ p v->Rep H ⟨tr0,hs⟩ p v
 | .non,_,_,r=>r
 | .bl _,_,_,r=>r
 | .int _,_,_,r=>r
 | .str _,_,_,r=>r
 | .tup ps,_,b,⟨a,vs,e,I,J,r⟩=>⟨a,vs,e,I,λz=>J (z.imp (λz=>by rw [q]; exact F7 _ z) (G a)),RepL.less q G (by rw [Sm.bel] at b; exact b) r⟩
 | .lst ps,_,b,⟨a,vs,e,I,J,r⟩=>⟨a,vs,e,I,λz=>J (z.imp (λz=>by rw [q]; exact F7 _ z) (G a)),RepL.less q G (by rw [Sm.bel] at b; exact b) r⟩
 | .fro ps,_,b,⟨a,vs,e,I,J,r⟩=>⟨a,vs,e,I,λz=>J (z.imp (λz=>by rw [q]; exact F7 _ z) (G a)),RepL.less q G (by rw [Sm.bel] at b; exact b) r⟩
 | .ref i,_,b,⟨a,e,O⟩=>⟨a,by rw [Sm.bel] at b; rw [q,O8 b] at e; exact e,O⟩
 | .dic,_,_,⟨a,e,I,J⟩=>⟨a,e,I,λz=>J (z.imp (λz=>by rw [q]; exact F7 _ z) (G a))⟩
theorem RepL.less (G:ρ.tr=tr0 ++ rest) (q:∀ a,a∈hs->a∈ρ.hid):∀ {ps:List PV} {vs:List V},belL tr0.length ps->RepL H ρ ps vs->RepL H ⟨tr0,hs⟩ ps vs
 | [],_,_,r=>r
 | p :: ps,_,b,⟨v,t,e,J,I⟩=>by
  rw [belL] at b;exact ⟨v,t,e,Rep.less G q b.1 J,RepL.less G q b.2 I⟩
end
end
theorem Q8d {H':Hp} {ρ':Tk} {st':Q0} (R:Rel H ρ st) (x:Ext H ρ H' ρ') (R':Rel H' ρ' st') (hp:st <+: st'):Ext H ρ H' ρ/\Rel H' ρ st:=by
 obtain ⟨rest,O⟩:=x.pre;obtain ⟨more,hm⟩:=hp;refine ⟨⟨dJ _,λ_ h=>h,λ_ h=>.inl h,x.keep,λ_ h=>.inl h,x.old,x.frz⟩,R.len,R.nd,λa Z=>let ⟨o,e,n⟩:=R.hd a Z; ⟨o,x.keep a o e (R.ap a Z),n⟩,R.ap,λi a c h1 h2=>?_⟩
 have hi:i < st.length:=(O3.mp h2).1;have q:=R'.cell i a c (by rw [<- O,O8 (O3.mp h1).1]; exact h1) (by rw [<- hm,O8 hi]; exact h2);have Y:=R.cell i a c h1 h2;cases c with
 | lst ps=>
  obtain ⟨vs,I,G⟩:=q;obtain ⟨us,_,J⟩:=Y;exact ⟨vs,I,RepL.less (ρ:=ρ') (tr0:=ρ.tr) (hs:=ρ.hid) O.symm x.hidM J.bel G⟩
 | dic ps=>
  obtain ⟨vs,I,G⟩:=q;obtain ⟨us,_,J⟩:=Y;exact ⟨vs,I,G.1,RepL.less (ρ:=ρ') (tr0:=ρ.tr) (hs:=ρ.hid) O.symm x.hidM J.2.bel G.2⟩
 | dtp ps=>
  obtain ⟨vs,I,G⟩:=q;obtain ⟨us,_,J⟩:=Y;exact ⟨vs,I,G.1,RepL.less (ρ:=ρ') (tr0:=ρ.tr) (hs:=ρ.hid) O.symm x.hidM J.2.bel G.2⟩
 | frd ps=>
  obtain ⟨vs,I,G⟩:=q;obtain ⟨us,_,J⟩:=Y;exact ⟨vs,I,G.1,RepL.less (ρ:=ρ') (tr0:=ρ.tr) (hs:=ρ.hid) O.symm x.hidM J.2.bel G.2⟩
 | obj C ps=>
  obtain ⟨vs,I,G⟩:=q;obtain ⟨us,_,J⟩:=Y;exact ⟨vs,I,G.1,RepL.less (ρ:=ρ') (tr0:=ρ.tr) (hs:=ρ.hid) O.symm x.hidM J.2.bel G.2⟩
abbrev FN:=List PV->Q0->Res PV
variable {FF:FN}
open Classical in
def fin (st:Q0) (v:PV) (st':Q0):Res PV:=if st <+: st' then okO st (fz st.length st' 16 v) else .ok v st'
open Classical in
def Qpc (st:Q0) (x:Exc) (st':Q0):Res PV:=if st <+: st' then (match x.fs with
 | none=>.exc x st
 | some (n,p)=>match fz st.length st' 16 p with
  | some q=>.exc ⟨x.cls,zo (n,q)⟩ st
  | none=>.stuck) else .exc x st'
def J0 (body:MS) (nl:Nat):FN:=λps st=>match body (ps.map zo ++ bc (nl - ps.length) zl) st with
 | .rt v st'=>fin st v st'
 | .nx _ st'=>fin st .non st'
 | .exc x st'=>Qpc st x st'
 | _=>.stuck
theorem Qd6 {st':Q0} (R:Rel H ρ st) (h:Acc mg E H ρ (QV Q) (fin st p st')):∀ v H' ρ',Ext H ρ H' ρ'->Rel H' ρ' st'->Rep H' ρ' p v->Q v H':=λv H' ρ' x G r=>by
 unfold fin at h
 by_cases I:st <+: st'
 ·rw [bT I] at h;cases e:fz st.length st' 16 p with
  | none=>rw [e] at h; exact h.elim
  | some q=>
   rw [e] at h;obtain ⟨x2,R2⟩:=Q8d R x G I;obtain ⟨rest,J⟩:=x.pre;rw [<- R.len] at e;exact h H' ρ x2 R2 v (Qj6 (tr0:=ρ.tr) (hs:=ρ.hid) G J.symm x.hidM 16 r e)
 ·rw [bU I] at h;exact h H' ρ' x G v r
def spF (mg:zAE) (n:Nat) (F:FN):Sp:=λvs H Q E=>vs.length=n/\∃ ρ st ps,Rel H ρ st/\RepL H ρ ps vs/\Acc mg E H ρ (QV Q) (F ps st)
theorem Q55 (r:RepL H ρ ps vs):EnvR H ρ (ps.map zo ++ bc (N.length - ps.length) zl) (L2.start N vs):=by
 have I:=r.length;unfold L2.start;refine ⟨by simp [I],λi p e=>?_⟩
 by_cases hi:i < ps.length
 ·rw [O8 (by simpa using hi),D7] at e;rw [O8 (by simp; omega),D7];cases q:ps[i]? with
  | none=>rw [q] at e; cases e
  | some p'=>
   rw [q] at e;cases e;obtain ⟨v,G,J⟩:=r.get q;exact ⟨v,by rw [G]; rfl,J⟩
 ·rw [D4 (by simpa using hi),gD] at e
  split at e <;> cases e
section
variable {P:aK} {w:aJ} {K:bX} {mg:zAE} {base:Heap}
theorem Qtx {qual:Str} {st:aM} {f:aB} {ps:List Str} {k:Nat} {m:MS} (F:Fun K x qual st f fd) (S:FnScope N ps (Q6 st))
  (hb:∀ (O:aA) (A:aL) (outer:List eP) (s:aC) (H:Hp) (E:XK),Room k (A.deeper (eQ qual (Q6 st) s.heap.objs.size f O))->SimB (cxD P w K mg base N qual (Q6 st) f O A outer s H E) E (Z0 st) m) :
  FnOk P w K mg base (CXD P w) (k + 1) f fd ps (spF mg ps.length (J0 m N.length)):=by
 refine Fun.okD F S (λvs H Q E h=>h.1) λO A outer s H vs Q E hr a2=>⟨_,Q2v,?_⟩
 obtain ⟨hl,ρ,J,a1,R,rl,G⟩:=a2;refine (hb O A outer s H E hr).run _ (L2.start N vs) H ρ J _ R (Q55 rl) ?_;unfold J0 at G;cases Z:m (a1.map zo ++ bc (N.length - a1.length) zl) J with
 | rt v I=>rw [Z] at G; exact Qd6 R G
 | nx Γ I=>rw [Z] at G; exact λa3 H' ρ' Y R' G'=>Qd6 R G .non H' ρ' Y R' rfl
 | bk Γ I=>rw [Z] at G; exact G.elim
 | ct Γ I=>rw [Z] at G; exact G.elim
 | stuck=>rw [Z] at G; exact G.elim
 | exc y I=>
  rw [Z] at G;have G:Acc mg E H ρ (QV Q) (Qpc J y I):=G;intro C dv H' ρ' hm Y R' hf;unfold Qpc at G
  by_cases hp:J <+: I
  ·rw [bT hp] at G;obtain ⟨x2,R2⟩:=Q8d R Y R' hp;obtain ⟨cls,fs⟩:=y;cases fs with
   | none=>exact G C dv H' ρ hm x2 R2 hf
   | some np=>
    obtain ⟨nm,p⟩:=np;simp only at G;cases e:fz J.length I 16 p with
    | none=>rw [e] at G; exact G.elim
    | some q=>
     rw [e] at G;obtain ⟨rest,ht⟩:=Y.pre;rw [<- R.len] at e;obtain ⟨dx,v,e1,e2,e3,e4⟩:=hf;refine G C dv H' ρ hm x2 R2 ⟨dx,v,e1,e2,λz=>e3 (z.imp (λz=>by rw [<- ht]; exact F7 _ z) (Y.hidM dx)),Qj6 (tr0:=ρ.tr) (hs:=ρ.hid) R' ht.symm Y.hidM 16 e4 e⟩
  ·rw [bU hp] at G;exact G C dv H' ρ' hm Y R' hf
end
theorem Qp8 {P:aK} {w:aJ} {mg:zAE} {base:Heap} {qual:Str} {st:aM} {f:aB} {ps:List Str} {k nl:Nat} {m:MS} (F:Fun K x qual st f fd) (S:FnScope N ps (Q6 st)) (I:ps.length=n) (G:N.length=nl) (O:FF=J0 m nl)
  (J:∀ (q:aA) (A:aL) (outer:List eP) (s:aC) (H:Hp) (E:XK),Room k (A.deeper (eQ qual (Q6 st) s.heap.objs.size f q))->SimB (cxD P w K mg base N qual (Q6 st) f q A outer s H E) E (Z0 st) m) :
  FnOk P w K mg base (CXD P w) (k + 1) f fd ps (spF mg n FF):=by
 subst I; subst G; subst O;exact Qtx F S J
structure DefS (P:aK) (w:aJ) (K:bX) (mg:zAE) (base:Heap) (k:Nat) (x:Str) (n:Nat) (F:FN):Prop where
 ex:∃ (f:aB) (fd:aP) (ps:List Str),FnOk P w K mg base (CXD P w) k f fd ps (spF mg n F)/\mg x=zo (.ref f)/\cV K (.ref f)=zb/\Binds K fd ps []/\ps.length=n
def Q8 (n:Nat) (F:FN) (mr:Gam->Q0->Res (List PV)):ME:=λΓ st=>(mr Γ st).bind λps st1=>if ps.length=n then F ps st1 else .stuck
section
variable {X:Cx} {E:XK} {k n:Nat} {x:Str} {F:FN} {p pos:Pos} {e:aH} {es:List aH} {mr:Gam->Q0->Res (List PV)}
theorem Vb (D:DefS X.prog X.w X.K X.mg X.base k x n F) (hr:Room k X.A) (hx:Q4e (CXD X.prog X.w) X E) (hg:Gl X x) (ha:SimA X E (e :: es) mr) (I:(x == ("__debug__" : Str))=yo:=by decide)
  (he:aN (e :: es) X.env=(yo,aO e X.env) :: aN es X.env:=by rfl) (J:(aY pos (aN es X.env)).any (·.1)=yo:=by rfl):SimE X E (.Call (.Name x p) (e :: es) [] pos) (Q8 n F mr):=by
 obtain ⟨f,fd,ps,hF,hm,hk,hb,hl⟩:=D.ex;exact ⟨λΓ σ H ρ st Q R G h=>WE.of (Qmz hF hr hg hm hk hb .nil hx Q02 I he J) (ha.use R G h.bind λY O H1 ρ1 vs x1 R1 G1 Z h1=>by
  by_cases q:Y.length=n
  ·rw [bT q] at h1;show spF X.mg n F (vs ++ []) H1 Q E;rw [L1];exact ⟨by rw [<- Z.length]; exact q,ρ1,O,Y,R1,Z,h1⟩
  ·rw [bU q] at h1; exact h1.elim)⟩
end
end
@[simp] theorem Qk (a:α) (st:Q0) (f:α->Q0->Res β):(Res.ok a st).bind f=f a st:=rfl
@[simp] theorem Qub (f:α->Q0->Res β):(Res.stuck:Res α).bind f=.stuck:=rfl
@[simp] theorem Qxz (x:Exc) (st:Q0) (f:α->Q0->Res β):(Res.exc x st:Res α).bind f=.exc x st:=rfl
@[simp] theorem Kt (a:α) (st:Q0) (f:α->Q0->SR):(Res.ok a st).sbind f=f a st:=rfl
@[simp] theorem Qq5 (f:α->Q0->SR):(Res.stuck:Res α).sbind f=.stuck:=rfl
@[simp] theorem Qus (x:Exc) (st:Q0) (f:α->Q0->SR):(Res.exc x st:Res α).sbind f=.exc x st:=rfl
@[simp] theorem Qyj (i:Nat) (Γ:Gam) (st:Q0):Q2 i Γ st=(match Γ[i]? with | some (zo p)=>.ok p st | _=>.stuck):=rfl
@[simp] theorem J0c (p:PV) (Γ:Gam) (st:Q0):mC p Γ st=.ok p st:=rfl
@[simp] theorem Qt9 (o:OP) (a b:ME) (Γ:Gam) (st:Q0):mOp o a b Γ st=(a Γ st).bind λx G=>(b Γ G).bind λy q=>o q x y:=rfl
@[simp] theorem J04 (b:Bool) (st:Q0):asB (.bl b) st=.ok b st:=rfl
@[simp] theorem Qqu (m:ME) (Γ:Gam) (st:Q0):toB m Γ st=(m Γ st).bind asB:=rfl
def Qm0 {α:Type} (x:PV) (A B:Res α):Res α:=match x with
 | .bl zb=>A
 | .bl yo=>B
 | _=>.stuck
@[simp] theorem Qy5 (b:Bool) (A B:Res α):Qm0 (.bl b) A B=if b=zb then A else B:=by cases b <;> rfl
@[simp] theorem Quy (o o':OP) (a b c:ME) (Γ:Gam) (st:Q0):W5 o o' a b c Γ st=(a Γ st).bind λx I=>(b Γ I).bind λy G=>(o G x y).bind λk q=>Qm0 k ((c Γ q).bind λz J=>o' J y z) (.ok (.bl yo) q):=by
 unfold W5;refine congrArg _ (funext λx=>funext λI=>congrArg _ (funext λy=>funext λG=>congrArg _ (funext λk=>funext λq=>?_)))
 cases k with
 | bl b=>cases b <;> rfl
 | _=>rfl
@[simp] theorem Qct (a b:ME) (Γ:Gam) (st:Q0):Xr a b Γ st=(a Γ st).bind λx q=>Qm0 x (b Γ q) (.ok (.bl yo) q):=by
 unfold Xr;refine congrArg _ (funext λx=>funext λq=>?_);cases x with
 | bl b=>cases b <;> rfl
 | _=>rfl
@[simp] theorem Qt8 (a b:ME) (Γ:Gam) (st:Q0):mOr a b Γ st=(a Γ st).bind λx q=>Qm0 x (.ok (.bl zb) q) (b Γ q):=by
 unfold mOr;refine congrArg _ (funext λx=>funext λq=>?_);cases x with
 | bl b=>cases b <;> rfl
 | _=>rfl
@[simp] theorem Qyk (a:ME) (Γ:Gam) (st:Q0):Qta a Γ st=(a Γ st).bind λx q=>(match x with | .bl k=>.ok (.bl (!k)) q | _=>.stuck):=rfl
@[simp] theorem Q7t (a b:MT) (Γ:Gam) (st:Q0):jw a b Γ st=(a Γ st).bind λk q=>if k=zb then b Γ q else .ok yo q:=rfl
@[simp] theorem Qc5 (a b:MT) (Γ:Gam) (st:Q0):Yg a b Γ st=(a Γ st).bind λk q=>if k=zb then .ok zb q else b Γ q:=rfl
@[simp] theorem Qfw (a:MT) (Γ:Gam) (st:Q0):J9 a Γ st=(a Γ st).bind λk q=>.ok (!k) q:=rfl
@[simp] theorem Qym (Γ:Gam) (st:Q0):Q4 Γ st=.ok [] st:=rfl
@[simp] theorem Qi9 (m:ME) (mr:ML) (Γ:Gam) (st:Q0):Q1 m mr Γ st=(m Γ st).bind λp G=>(mr Γ G).bind λps q=>.ok (p :: ps) q:=rfl
@[simp] theorem Qnm (mr:ML) (Γ:Gam) (st:Q0):Ym mr Γ st=(mr Γ st).bind λps q=>if ps.length<=lim then .ok (.tup ps) q else .stuck:=rfl
@[simp] theorem Qyn (mr:ML) (Γ:Gam) (st:Q0):x9 mr Γ st=(mr Γ st).bind λps q=>if ps.length<=lim then .ok (.lst ps) q else .stuck:=rfl
@[simp] theorem Qwy (mr:ML) (Γ:Gam) (st:Q0):Q3h mr Γ st=(mr Γ st).bind λps q=>if ps.length<=lim then .ok ps q else .stuck:=rfl
@[simp] theorem Qzv (m:ME) (l h:Gam->Q0->Res (Option Int)) (Γ:Gam) (st:Q0):mSl m l h Γ st=(m Γ st).bind λp I=>(l Γ I).bind λlo G=>(h Γ G).bind λhi q=>oSl q p lo hi:=rfl
@[simp] theorem Qtb (Γ:Gam) (st:Q0):U7 Γ st=.ok zl st:=rfl
@[simp] theorem Qww (m:ME) (Γ:Gam) (st:Q0):qp m Γ st=(m Γ st).bind λp q=>(match p with | .int i=>.ok (zo i) q | _=>.stuck):=rfl
@[simp] theorem Qia (o:CF) (mr:ML) (Γ:Gam) (st:Q0):Qi o mr Γ st=(mr Γ st).bind λps q=>o q ps:=rfl
@[simp] theorem Qyp (T:String) (m:ME) (Γ:Gam) (st:Q0):Vk T m Γ st=(m Γ st).bind λp q=>if Xs q p=zb then .stuck else .ok (.bl (isI T (dpv q p))) q:=rfl
@[simp] theorem Qxi (st:Q0):Xs st .non=yo:=rfl
@[simp] theorem Qyr (st:Q0) (b:Bool):Xs st (.bl b)=yo:=rfl
@[simp] theorem Qxk (st:Q0) (b:Int):Xs st (.int b)=yo:=rfl
@[simp] theorem Qxg (st:Q0) (b:Str):Xs st (.str b)=yo:=rfl
@[simp] theorem Qxf (st:Q0) (b:List PV):Xs st (.tup b)=yo:=rfl
@[simp] theorem Qxj (st:Q0) (b:List PV):Xs st (.lst b)=yo:=rfl
@[simp] theorem Qxm (st:Q0) (b:List PV):Xs st (.fro b)=yo:=rfl
@[simp] theorem Qxn (st:Q0):Xs st .dic=yo:=rfl
@[simp] theorem Qxh (st:Q0) (i:Nat):Xs st (.ref i)=(match st[i]? with | some (.frd _)=>zb | some (.obj _ _)=>zb | _=>yo):=rfl
@[simp] theorem Qyw (st:Q0):dpv st .non=.non:=rfl
@[simp] theorem J02 (st:Q0) (b:Bool):dpv st (.bl b)=(.bl b):=rfl
@[simp] theorem Qyy (st:Q0) (b:Int):dpv st (.int b)=(.int b):=rfl
@[simp] theorem Qyv (st:Q0) (b:Str):dpv st (.str b)=(.str b):=rfl
@[simp] theorem Qyu (st:Q0) (b:List PV):dpv st (.tup b)=(.tup b):=rfl
@[simp] theorem Qyx (st:Q0) (b:List PV):dpv st (.lst b)=(.lst b):=rfl
@[simp] theorem Qyz (st:Q0) (b:List PV):dpv st (.fro b)=(.fro b):=rfl
@[simp] theorem J01 (st:Q0):dpv st .dic=.dic:=rfl
@[simp] theorem J0d (st:Q0) (i:Nat):dpv st (.ref i)=(match st[i]? with | some (.dic _)=>.dic | some (.dtp _)=>.dic | _=>.ref i):=rfl
@[simp] theorem Qnj (m:ML) (Γ:Gam) (st:Q0):Zx m Γ st=(m Γ st).bind λps q=>.ok (.lst ps) q:=rfl
@[simp] theorem Qnn (m:ML) (Γ:Gam) (st:Q0):x8 m Γ st=(m Γ st).bind λps q=>.ok (.ref q.length) (q ++ [.lst ps]):=rfl
@[simp] theorem Qet (cap:zAC) (ga:GA) (mi:MI) (mt:MT) (me:ME) (Γ:Gam) (st:Q0):Qs cap ga mi mt me Γ st=(mi Γ st).bind λG q=>noX (Jn ga mt me G.2 (W7 cap Γ) G.1 q):=rfl
@[simp] theorem Qwv (Γ:Gam) (st:Q0):Ja Γ st=.ok zb st:=rfl
@[simp] theorem Qeu (n:Nat) (F:FN) (mr:ML) (Γ:Gam) (st:Q0):Q8 n F mr Γ st=(mr Γ st).bind λps q=>if ps.length=n then F ps q else .stuck:=rfl
@[simp] theorem Qwx (Γ:Gam) (st:Q0):Qr Γ st=.nx Γ st:=rfl
@[simp] theorem qm (a b:MS) (Γ:Gam) (st:Q0):Q9 a b Γ st=(match a Γ st with | .nx q G=>b q G | r=>r):=rfl
@[simp] theorem Q91 (m:ME) (Γ:Gam) (st:Q0):qq m Γ st=(m Γ st).sbind λ_ q=>.nx Γ q:=rfl
@[simp] theorem Qnr (m:ME) (Γ:Gam) (st:Q0):Qq m Γ st=(m Γ st).sbind λp q=>.rt p q:=rfl
@[simp] theorem Qnp (i:Nat) (m:ME) (Γ:Gam) (st:Q0):Qx i m Γ st=(m Γ st).sbind λp q=>.nx (Γ.set i (zo p)) q:=rfl
@[simp] theorem Q6w (c:MT) (a b:MS) (Γ:Gam) (st:Q0):Jd c a b Γ st=(c Γ st).sbind λk q=>if k=zb then a Γ q else b Γ q:=rfl
@[simp] theorem Qns (ga:GA) (mi:MI) (b:MS) (Γ:Gam) (st:Q0):Kp ga mi b Γ st=(mi Γ st).sbind λG q=>Jm ga b G.2 G.1 Γ q:=rfl
@[simp] theorem Qnq (m:ME) (Γ:Gam) (st:Q0):Y4 m Γ st=(m Γ st).bind λp q=>(match Y0 q p with | some (xs,w)=>if xs.length<=lim then .ok (xs,w) q else .stuck | none=>.stuck):=rfl
@[simp] theorem Q3g (mr:ML) (Γ:Gam) (st:Q0):Y2 mr Γ st=(mr Γ st).bind λps q=>(match ps with | [.int j]=>if -(lim:Int)<=j/\j<=lim then .ok (V4 0 j.toNat,[]) q else .stuck | _=>.stuck):=rfl
@[simp] theorem Qyi (mr:ML) (Γ:Gam) (st:Q0):Qni mr Γ st=(mr Γ st).bind λps G=>(match ps with | [p,q]=>(match Y0 G p,Y0 G q with | some (xs,w),zo (ys,I)=>if xs.length<=lim then .ok (Q23 xs ys,w ++ I) G else .stuck | _,_=>.stuck) | _=>.stuck):=rfl
@[simp] theorem Qwz (mr:ML) (Γ:Gam) (st:Q0):Q92 mr Γ st=(mr Γ st).bind λps q=>(match ps with | [p]=>(match Y0 q p with | some (xs,w)=>if xs.length<=lim then .ok (U5 0 xs,w) q else .stuck | none=>.stuck) | _=>.stuck):=rfl
@[simp] theorem Qte (f:MF) (mo:ME) (mr:ML) (Γ:Gam) (st:Q0):mBM f mo mr Γ st=(mo Γ st).bind λp q=>(match U0 q p with | some _=>(mr Γ q).bind λps G=>f G p ps | none=>.stuck):=rfl
@[simp] theorem Qnt (ga:GA) (m:ME) (Γ:Gam) (st:Q0):Qnu ga m Γ st=(m Γ st).sbind λp G=>(match ga p Γ with | some q=>.nx q G | none=>.stuck):=rfl
@[simp] theorem Qes (mo mi m:ME) (Γ:Gam) (st:Q0):Xe mo mi m Γ st=(m Γ st).sbind λp J=>(mo Γ J).sbind λo G=>(mi Γ G).sbind λi q=>(match Ke q o i p with | some I=>.nx Γ I | none=>.stuck):=rfl
@[simp] theorem Quw (x:Str) (m:ME) (Γ:Gam) (st:Q0):Q6v x m Γ st=(m Γ st).sbind λ_ q=>.exc ⟨x,zl⟩ q:=rfl
@[simp] theorem Qv0 (i:Nat) (p:PV) (Γ:Gam):Qb i p Γ=zo (Γ.set i (zo p)):=rfl
@[simp] theorem Qxc (Γ:Gam):Q14 [] Γ=zo Γ:=rfl
@[simp] theorem Qv1 (g:GA) (gs:GAs) (p:PV) (r:List PV) (Γ:Gam):W6 g gs (p :: r) Γ=(g p Γ).bind (gs r):=rfl
@[simp] theorem Qxb (gs:GAs) (ps:List PV) (Γ:Gam):Q13 gs (.tup ps) Γ=gs ps Γ:=rfl
@[simp] theorem Qzs (a:α) (st:Q0):noX (Res.ok a st)=.ok a st:=rfl
@[simp] theorem Quv :noX (Res.stuck:Res α)=.stuck:=rfl
@[simp] theorem Q8q (st:Q0) (a:α):okO st (zo a)=.ok a st:=rfl
@[simp] theorem Qwj (st:Q0):okO st (zl:Option α)=.stuck:=rfl
@[simp] theorem J0b (g:Int->Int->PV) (st:Q0) (a b:Int):oI g st (.int a) (.int b)=.ok (g a b) st:=rfl
@[simp] theorem Qwr (st:Q0) (a b:Int):Zj st (.int a) (.int b)=.ok (.int (a + b)) st:=rfl
@[simp] theorem Qwq (st:Q0) (a b:List PV):Zj st (.tup a) (.tup b)=if a.length + b.length<=lim then .ok (.tup (a ++ b)) st else .stuck:=rfl
@[simp] theorem Qwn (st:Q0) (a b:Int):qd st (.int a) (.int b)=if (-(2 ^ 64) < a/\a < 2 ^ 64)\/(-(2 ^ 64) < b/\b < 2 ^ 64) then .ok (.int (a * b)) st else .stuck:=rfl
@[simp] theorem Qwm (st:Q0) (xs:List PV) (b:Int):qd st (.tup xs) (.int b)=if xs≠[]/\1<=b/\xs.length * b.toNat<=4096 then .ok (.tup (bc b.toNat xs).flatten) st else .stuck:=rfl
@[simp] theorem Qwp (st:Q0) (a b:Int):Kn st (.int a) (.int b)=if 0 < b then .ok (.int (a % b)) st else .stuck:=rfl
@[simp] theorem Qwk (st:Q0) (a b:Int):Qat st (.int a) (.int b)=if 0<=b/\b<=1000000/\a.natAbs < 2 ^ 64 then .ok (.int (a ^ b.toNat)) st else .stuck:=rfl
@[simp] theorem Qyb (st:Q0) (a b:Int):oLt st (.int a) (.int b)=.ok (.bl (decide (a < b))) st:=rfl
@[simp] theorem Qyh (st:Q0) (a b:Int):oEq st (.int a) (.int b)=.ok (.bl (a == b)) st:=rfl
@[simp] theorem Qya (st:Q0) (a b:Int):oNe st (.int a) (.int b)=.ok (.bl (!(a == b))) st:=rfl
@[simp] theorem Qzr (st:Q0) (a b:Bool):oEq st (.bl a) (.bl b)=.ok (.bl (a == b)) st:=rfl
@[simp] theorem Qzp (st:Q0) (a b:Bool):oNe st (.bl a) (.bl b)=.ok (.bl (!(a == b))) st:=rfl
@[simp] theorem Qyg (st:Q0) (a b:Str):oEq st (.str a) (.str b)=.ok (.bl (a == b)) st:=rfl
@[simp] theorem Qy9 (st:Q0) (a b:Str):oNe st (.str a) (.str b)=.ok (.bl (!(a == b))) st:=rfl
@[simp] theorem Qyf (st:Q0) (p:PV):oIs st p .non=.ok (.bl (Q9c p)) st:=rfl
@[simp] theorem Qzq (st:Q0) (a b:Bool):oIs st (.bl a) (.bl b)=.ok (.bl (a == b)) st:=rfl
@[simp] theorem Qt2 (st:Q0) (p:PV):K6 st p .non=.ok (.bl (!Q9c p)) st:=rfl
@[simp] theorem Qut (st:Q0) (a b:Bool):K6 st (.bl a) (.bl b)=.ok (.bl (a != b)) st:=rfl
@[simp] theorem Quz (st:Q0) (xs:List PV):U4 st (.lst xs)=zo xs:=rfl
@[simp] theorem Qtg (st:Q0) (xs:List PV):U0 st (.lst xs)=zo xs:=rfl
@[simp] theorem Qth (st:Q0) (xs:List PV):U0 st (.fro xs)=zo xs:=rfl
@[simp] theorem Qdw (st:Q0) (xs:List PV):U3 st (.lst xs)=zo xs:=rfl
@[simp] theorem Qur (st:Q0) (xs:List PV):U3 st (.fro xs)=zo xs:=rfl
@[simp] theorem Quq (st:Q0) (xs:List PV):U3 st (.tup xs)=zo xs:=rfl
@[simp] theorem Qun (st:Q0) (xs:List PV):Y0 st (.lst xs)=zo (xs,[]):=rfl
@[simp] theorem Qup (st:Q0) (xs:List PV):Y0 st (.fro xs)=zo (xs,[]):=rfl
@[simp] theorem Qum (st:Q0) (xs:List PV):Y0 st (.tup xs)=zo (xs,[]):=rfl
@[simp] theorem Qyc (st:Q0) (xs:List PV) (i:Int):oIx st (.tup xs) (.int i)=okO st (atI xs i):=rfl
@[simp] theorem Qyd (st:Q0) (xs:List PV) (i:Int):oIx st (.lst xs) (.int i)=okO st (atI xs i):=rfl
@[simp] theorem Qye (st:Q0) (xs:List PV) (i:Int):oIx st (.fro xs) (.int i)=okO st (atI xs i):=rfl
@[simp] theorem Qy6 (st:Q0) (xs:List PV) (l h:Option Int):oSl st (.tup xs) l h=.ok (.tup (cut xs l h)) st:=rfl
@[simp] theorem Qy7 (st:Q0) (xs:List PV) (l h:Option Int):oSl st (.lst xs) l h=.ok (.lst (cut xs l h)) st:=rfl
@[simp] theorem Qy8 (st:Q0) (xs:List PV) (l h:Option Int):oSl st (.fro xs) l h=.ok (.lst (cut xs l h)) st:=rfl
@[simp] theorem Qxv (st:Q0) (xs:List PV):Je st [.tup xs]=.ok (.int xs.length) st:=rfl
@[simp] theorem Qxw (st:Q0) (xs:List PV):Je st [.lst xs]=.ok (.int xs.length) st:=rfl
@[simp] theorem Qxx (st:Q0) (xs:List PV):Je st [.fro xs]=.ok (.int xs.length) st:=rfl
@[simp] theorem Qu7 (st:Q0) (xs:List PV):W8 st [.tup xs]=.ok (.tup xs) st:=rfl
@[simp] theorem Qu8 (st:Q0) (xs:List PV):W8 st [.lst xs]=.ok (.tup xs) st:=rfl
@[simp] theorem Qjt (g:List Bool->PV) (st:Q0) (bs:List Bool):Uk g st [.lst (bs.map .bl)]=.ok (g bs) st:=by
 simp only [Uk,Qdw,iT,Qps]
@[simp] theorem Qv5 (st:Q0):wOk [] st=True:=by simp [wOk]
@[simp] theorem Q40 (st:Q0) (b:Bool):fin st (.bl b) st=.ok (.bl b) st:=by simp [fin,fz]
@[simp] theorem Qyt (st:Q0) (b:Int):fin st (.int b) st=.ok (.int b) st:=by simp [fin,fz]
@[simp] theorem Qpb (st:Q0):fin st .non st=.ok .non st:=by simp [fin,fz]
@[simp] theorem Qys (st:Q0) (b:Str):fin st (.str b) st=.ok (.str b) st:=by simp [fin,fz]
theorem Q3z {v:PV} (g:good 12 v=zb):fin st v st=.ok v st:=by
 simp only [fin,List.prefix_rfl,if_true,Qd3 g (by decide:12 < 16),Q8q]
theorem Q0n {more:Q0} {v:PV} (g:good 12 v=zb):fin st v (st ++ more)=.ok v st:=by
 simp only [fin,eN,if_true,Qd3 g (by decide:12 < 16),Q8q]
theorem qr:lim=1000000:=rfl
theorem Vp (g f:α->PV) {w:Wt} {Γ0:Gam} (I:wOk w st) {ys:List α} (h:∀ y∈ys,∃ q,ga (g y) Γ0=zo q/\me q st=.ok (f y) st):Jn ga Ja me w Γ0 (ys.map g) st=.ok (ys.map f) st:=by
 induction ys with
 | nil=>simp [Jn,I]
 | cons y ys G=>
  obtain ⟨q,h1,h2⟩:=h y F4;have G:=G λz hz=>h z (O4 _ hz)
  rw [D5,Jn,bT I,h1];simp [h2,G]
theorem Q5r (g f:α->PV) (t:α->Bool) {w:Wt} {Γ0:Gam} (J:wOk w st) {ys:List α} (h:∀ y∈ys,∃ q,ga (g y) Γ0=zo q/\mt q st=.ok (t y) st/\(t y=zb->me q st=.ok (f y) st)):Jn ga mt me w Γ0 (ys.map g) st=.ok ((ys.filter t).map f) st:=by
 induction ys with
 | nil=>simp [Jn,J]
 | cons y ys G=>
  obtain ⟨q,h1,h2,O⟩:=h y F4;have G:=G λz hz=>h z (O4 _ hz)
  rw [D5,Jn,bT J,h1];simp only [h2,Qk,G];cases I:t y with
  | true=>simp [O I,I,G]
  | false=>simp [I]
@[simp] theorem Qxy (g:List Bool->PV) (st:Q0) (ys:List α) (b:α->Bool):Uk g st [.lst (ys.map λy=>.bl (b y))]=.ok (g (ys.map b)) st:=by
 rw [show (ys.map λy=>PV.bl (b y))=(ys.map b).map .bl by rw [G8]; rfl,Qjt]
theorem Q3x (g:α->PV) {xs:List α} (I:Nat->Gam->Q0->Prop) {ga:GA} {body:MS} {w:Wt} (Y:∀ i Γ st,I i Γ st->wOk w st)
  (h:∀ (i:Nat) x Γ st,xs[i]?=zo x->I i Γ st->∃ G,ga (g x) Γ=zo G/\∃ O J,body G st=.nx O J/\I (i + 1) O J) {Γ:Gam} {st:Q0} (h0:I 0 Γ st):∃ q st',Jm ga body w (xs.map g) Γ st=.nx q st'/\I xs.length q st':=by
 induction xs generalizing I Γ st with
 | nil=>exact ⟨Γ,st,by simp [Jm,Y 0 Γ st h0],h0⟩
 | cons x xs ih=>
  obtain ⟨G,h1,O,J,e2,i2⟩:=h 0 x Γ st rfl h0;obtain ⟨q,st',e3,Z⟩:=ih (λi=>I (i + 1)) (λi Γ st z=>Y (i + 1) Γ st z) (λi y Γ st hy z=>h (i + 1) y Γ st (by simpa using hy) z) i2
  refine ⟨q,st',?_,Z⟩;rw [D5,Jm,bT (Y 0 Γ st h0),h1];simp only [e2];exact e3
theorem Qfi (f:α->PV) (g:β->PV) (xs:List α) (ys:List β):Q23 (xs.map f) (ys.map g)=(xs.zip ys).map λz=>.tup [f z.1,g z.2]:=by
 rw [Q61,List.zip_map,G8]; rfl
theorem Qdd (f:α->PV) (xs:List α) (i:Int):atI (xs.map f) i=(atI xs i).map f:=by
 unfold atI;rw [O0];cases ixN xs.length i with
 | none=>rfl
 | some j=>simp [D7]
theorem atI_get {xs:List α} {i:Nat} {x:α} (h:xs[i]?=zo x):atI xs (i:Int)=zo x:=by
 have q:=(O3.mp h).1;unfold atI ixN;rw [bT (by omega),bT (by omega)];simpa using h
theorem Qpg (f:α->PV) (xs:List α) (l h:Option Int):cut (xs.map f) l h=(cut xs l h).map f:=by
 unfold cut;rw [O0,<- fX,<- eK]
@[simp] theorem Qz4 (st l:List α) (c:α):(st ++ c :: l)[st.length]?=zo c:=by
 rw [D4 (O5 _),L6]; rfl
@[simp] theorem Qy3 (st l:List α) (c d:α):(st ++ c :: d :: l)[st.length + 1]?=zo d:=by
 rw [D4 (by omega)];rw [show st.length + 1 - st.length=1 by omega]; rfl
@[simp] theorem Qz3 (st l:List α) (c d:α):(st ++ c :: l).set st.length d=st ++ d :: l:=by
 rw [dL _ _ (O5 _),L6]; rfl
@[simp] theorem Qy2 (st l:List α) (c q d:α):(st ++ c :: q :: l).set (st.length + 1) d=st ++ c :: d :: l:=by
 rw [dL _ _ (by omega),show st.length + 1 - st.length=1 by omega]; rfl
@[simp] theorem Qz0 (st:Q0) (i:Nat) (g:List PV->Option (PV × List PV)):chg st (.ref i) g=(match st[i]? with | some (.lst xs)=>(match g xs with | some (r,ys)=>.ok r (st.set i (.lst ys)) | none=>.stuck) | _=>.stuck):=rfl
@[simp] theorem Qyq (st:Q0) (i:Nat):U4 st (.ref i)=(match st[i]? with | some (.lst xs)=>zo xs | _=>zl):=rfl
@[simp] theorem Qx3 (st:Q0) (i:Nat):U0 st (.ref i)=(match st[i]? with | some (.lst xs)=>zo xs | _=>zl):=rfl
@[simp] theorem Q68 (st:Q0) (i:Nat):U3 st (.ref i)=(match st[i]? with | some (.lst xs)=>zo xs | _=>zl):=rfl
@[simp] theorem Qy4 (st:Q0) (i:Nat):Y0 st (.ref i)=(match st[i]? with | some (.lst xs)=>zo (xs,[(i,.lst xs)]) | _=>zl):=rfl
@[simp] theorem Qqf (st:Q0) (p y:PV):Y8 st p [y]=chg st p λxs=>if xs.length < lim then zo (.non,xs ++ [y]) else zl:=rfl
@[simp] theorem Qxu (st:Q0) (i:Nat):W8 st [.ref i]=(match st[i]? with | some (.lst xs)=>.ok (.tup xs) st | _=>.stuck):=by
 unfold W8; simp only [Q68];cases st[i]? with
 | none=>rfl
 | some c=>cases c <;> rfl
@[simp] theorem Qu9 (st:Q0) (i:Nat):Je st [.ref i]=(match st[i]? with | some (.lst xs)=>.ok (.int xs.length) st | _=>.stuck):=by
 unfold Je; simp only [Q68];cases st[i]? with
 | none=>rfl
 | some c=>cases c <;> rfl
@[simp] theorem Q10 (st:Q0) (i:Nat) (j:Int):oIx st (.ref i) (.int j)=(match st[i]? with | some (.lst xs)=>okO st (atI xs j) | _=>.stuck):=by
 unfold oIx; simp only [Q68];cases st[i]? with
 | none=>rfl
 | some c=>cases c <;> rfl
@[simp] theorem Qcc (st:Q0) (k:Nat) (j:Int) (p:PV):Ke st (.ref k) (.int j) p=(match st[k]? with | some (.lst xs)=>(ixN xs.length j).map λn=>st.set k (.lst (xs.set n p)) | _=>zl):=rfl
theorem Q5q (xs:List α) (k:Nat):cut xs zl (zo (k:Int))=xs.take k:=by
 unfold cut;rw [HT.sIx_none,HT.sIx_nat,eO,iR];rcases iU k xs.length with h | h
 ·rw [iV h]
 ·rw [iW h,eL,iX h]
theorem Q9q (xs:List α) (k:Nat):cut xs (zo (k:Int)) zl=xs.drop k:=by
 unfold cut;rw [HT.sIx_none,HT.sIx_nat];rcases iU k xs.length with h | h
 ·rw [iV h,iX (by rw [cq]; omega)]
 ·rw [iW h,fc,List.drop_of_length_le h]; simp
theorem Q5n {l:List α} {j:Nat} (h:j < l.length) (d:α):l[j]?=zo (l.getD j d):=by
 rw [du,O2 h]; rfl
def ListAt (st:Q0) (V:PV) (xs:List PV):Prop:=V=.lst xs\/V=.fro xs\/∃ i,V=.ref i/\st[i]?=zo (.lst xs)
theorem ListAt.ix {V:PV} (h:ListAt st V xs) (j:Int):oIx st V (.int j)=okO st (atI xs j):=by
 rcases h with rfl | rfl | ⟨i,rfl,e⟩
 ·rfl
 ·rfl
 ·rw [Q10,e]
theorem Q0u (g:α->PV) {xs:List α} (I:Nat->List PV->Q0->Prop) {ga:GA} {me:ME} {w:Wt} {Γ0:Gam} (Z:∀ i q st,I i q st->wOk w st)
  (h:∀ (i:Nat) x q st,xs[i]?=zo x->I i q st->∃ J,ga (g x) Γ0=zo J/\∃ v G,me J st=.ok v G/\I (i + 1) (q ++ [v]) G) {st:Q0} (h0:I 0 [] st):∃ q st',Jn ga Ja me w Γ0 (xs.map g) st=.ok q st'/\I xs.length q st':=by
 have Y:∀ (ys:List α) (k:Nat) (pre:List PV) (st:Q0),(∀ i,ys[i]?=xs[k + i]?)->k + ys.length=xs.length->I k pre st->∃ q st',Jn ga Ja me w Γ0 (ys.map g) st=.ok q st'/\I xs.length (pre ++ q) st':=by
  intro ys
  induction ys with
  | nil=>
   intro k pre st e O i;refine ⟨[],st,by simp [Jn,Z k pre st i],?_⟩;rw [L1,<- O]; exact i
  | cons y ys ih=>
   intro k pre st e O i;have e0:xs[k]?=zo y:=by have:=e 0; simpa using this.symm
   obtain ⟨J,h1,v,G,h2,i2⟩:=h k y pre st e0 i;obtain ⟨q,st',h3,i3⟩:=ih (k + 1) (pre ++ [v]) G (λi=>by
    have:=e (i + 1);rw [eI] at this;rw [this]; congr 1; omega) (by rw [<- O,D3]; omega) i2
   refine ⟨v :: q,st',?_,by simpa using i3⟩;rw [D5,Jn,bT (Z k pre st i),h1];simp [Ja,h2,h3]
 obtain ⟨q,st',h1,h2⟩:=Y xs 0 [] st (λi=>by simp) (by simp) h0;exact ⟨q,st',h1,by simpa using h2⟩
@[simp] theorem Qux (ma:ME) (Γ:Gam) (st:Q0):Q3i ma Γ st=(ma Γ st).bind λp q=>match U3 q p with | some xs=>.ok xs q | none=>.stuck:=rfl
@[simp] theorem Qx0 (ma mb:ME) (Γ:Gam) (st:Q0):Q5e ma mb Γ st=(ma Γ st).bind λx G=>(mb Γ G).bind λy q=>Q8r q x y:=rfl
theorem Qp3 (h:k < n):ixN n (k:Int)=zo k:=by
 unfold ixN;rw [bT (by omega),bT (by omega)];simp
theorem jb:∀ {xs:List PV},(∀ x∈xs,peq x x=zb)->peqL xs xs=zb
 | [],_=>rfl
 | x :: xs,h=>by
  rw [peqL,h x F4,jb λy q=>h y (O4 _ q)]; rfl
theorem qa:∀ {n:Nat} {p:PV},good n p=zb->peq p p=zb
 | n,.non,_=>rfl
 | n,.bl b,_=>by simp [peq]
 | n,.int b,_=>by simp [peq]
 | n,.str b,_=>by simp [peq]
 | n,.ref _,g=>by cases n <;> simp [good] at g
 | n,.dic,g=>by cases n <;> simp [good] at g
 | 0,.tup _,g=>by simp [good] at g
 | 0,.lst _,g=>by simp [good] at g
 | 0,.fro _,g=>by simp [good] at g
 | n + 1,.tup xs,g=>by
  rw [peq]; refine jb λx q=>qa (n:=n) ?_
  simp [good] at g; exact g x q
 | n + 1,.lst xs,g=>by
  rw [peq]; refine jb λx q=>qa (n:=n) ?_
  simp [good] at g; exact g x q
 | n + 1,.fro xs,g=>by
  rw [peq]; refine jb λx q=>qa (n:=n) ?_
  simp [good] at g; exact g x q
variable {a b:aH} {ma mb:ME}
theorem Qjy:aX "set" = zo (.type "set"):=by decide +kernel
def Vq (body:MS) (nl:Nat):FN:=λps st=>match body (ps.map zo ++ bc (nl - ps.length) zl) st with
 | .rt v st'=>.ok v st'
 | .nx _ st'=>.ok .non st'
 | .exc x st'=>.exc x st'
 | _=>.stuck
variable {P:aK} {K:bX} {base:Heap}
section
variable {w:aJ}
theorem Qp7 {qual:Str} {st:aM} {f:aB} {ps:List Str} {k:Nat} {m:MS} (F:Fun K x qual st f fd) (S:FnScope N ps (Q6 st))
  (hb:∀ (G:aA) (A:aL) (outer:List eP) (s:aC) (H:Hp) (E:XK),Room k (A.deeper (eQ qual (Q6 st) s.heap.objs.size f G))->SimB (cxD P w K mg base N qual (Q6 st) f G A outer s H E) E (Z0 st) m) :
  FnOk P w K mg base (CXD P w) (k + 1) f fd ps (spF mg ps.length (Vq m N.length)):=by
 refine Fun.okD F S (λvs H Q E h=>h.1) λG A outer s H vs Q E hr a1=>⟨_,Q2v,?_⟩
 obtain ⟨hl,ρ,O,Y,R,rl,q⟩:=a1;refine (hb G A outer s H E hr).run _ (L2.start N vs) H ρ O _ R (Q55 rl) ?_;unfold Vq at q;cases J:m (Y.map zo ++ bc (N.length - Y.length) zl) O with
 | rt v I=>rw [J] at q; exact λv H' ρ' x Z r=>q H' ρ' x Z v r
 | nx Γ I=>rw [J] at q; exact λa2 H' ρ' x' Z G'=>q H' ρ' x' Z .non rfl
 | bk Γ I=>rw [J] at q; exact q.elim
 | ct Γ I=>rw [J] at q; exact q.elim
 | stuck=>rw [J] at q; exact q.elim
 | exc y I=>rw [J] at q; exact q
end
theorem Q9f {P:aK} {w:aJ} {mg:zAE} {base:Heap} {qual:Str} {st:aM} {f:aB} {ps:List Str} {k nl:Nat} {m:MS} {FF:FN} (F:Fun K x qual st f fd) (S:FnScope N ps (Q6 st)) (I:ps.length=n) (G:N.length=nl) (O:FF=Vq m nl)
  (J:∀ (q:aA) (A:aL) (outer:List eP) (s:aC) (H:Hp) (E:XK),Room k (A.deeper (eQ qual (Q6 st) s.heap.objs.size f q))->SimB (cxD P w K mg base N qual (Q6 st) f q A outer s H E) E (Z0 st) m) :
  FnOk P w K mg base (CXD P w) (k + 1) f fd ps (spF mg n FF):=by
 subst I; subst G; subst O;exact Qp7 F S J
end Sm
namespace Sm
open PySem PySem.Spec PyProof.Rows L2
end Sm
namespace Sm
open PySem PySem.Spec L2
theorem Qce {k:Nat} {A:aL} (r:Room k A):A.units + 9 < aQ:=by have:=r.un; omega
def Qz2 (kvs:List (Key × PV)) (k:Key):Option PV:=(kvs.find? λkv=>decide (kv.1=k)).map (·.2)
def Qqn (st:Q0):PV->Option (List (Key × PV))
 | .ref i=>match st[i]? with
  | some (.dic kvs)=>zo kvs
  | some (.frd kvs)=>zo kvs
  | _=>zl
 | _=>zl
theorem Qfd:aX "dict" = zo (.type "dict"):=by decide +kernel
end Sm
namespace Sm
open PySem PySem.Spec PyProof.Rows L2
variable {X:Cx} {E:XK}
theorem Qhv:OpR X (ae .FloorDiv) (rI (λ_ j=>0 < j/\j < 1267650600228229401496703205376) λi j=>.int (i / j)):=opI λi j _ _ _ _ _ G q=>by
 have h1:(0:Int) < j:=G.1;have h2:j < 1267650600228229401496703205376:=G.2;refine floordiv_int (by omega) (by rw [Int.fdiv_eq_ediv_of_nonneg i (by omega)]; exact q) (.inl (PyProof.noPylong_of_log2 ?_));have:j.natAbs.log2 < 100:=(Nat.log2_lt (by omega)).mpr (by
  rw [show (2:Nat) ^ 100=1267650600228229401496703205376 by decide];omega)
 omega
def Qck:OP:=λst p q=>match p,q with
 | .int a,.int b=>if 0 < b/\b < 1267650600228229401496703205376 then .ok (.int (a / b)) st else .stuck
 | _,_=>.stuck
theorem Qn4:OpS X E (ae .FloorDiv) Qck:=⟨λH ρ st p q x y Q R G J h=>by
 unfold Qck at h
 split at h
 ·cases G; cases J
  split at h
  ·rename_i I;exact WO.of Qhv ⟨_,_,rfl,rfl,I,now R h rfl⟩
  ·exact h.elim
 ·exact h.elim⟩
@[simp] theorem Quu (st:Q0) (a b:Int):Qck st (.int a) (.int b)=if 0 < b/\b < 1267650600228229401496703205376 then .ok (.int (a / b)) st else .stuck:=rfl
end Sm
namespace Sm
open PySem PySem.Spec L2
variable {H:Hp} {ρ:Tk} {p:PV} {v:V} {st:Q0}
theorem Qa0:aX "sorted" = zo (.builtin "sorted"):=by decide +kernel
def Yq (f:PV->Option HK):List PV->Option (List HK)
 | []=>zo []
 | p :: ps=>match f p,Yq f ps with
  | some k,zo l=>zo (k :: l)
  | _,_=>zl
def U8:Nat->PV->Option HK
 | _,.int i=>zo (.int i)
 | _,.str x=>zo (.str x)
 | d + 1,.tup ps=>(Yq (U8 d) ps).map .tup
 | _,_=>zl
theorem Qiw :∀ (d:Nat) {p:PV} {k:HK} {v:V},U8 d p=zo k->Rep H ρ p v->KAt H k v/\Dp d k:=by
 intro d
 induction d with
 | zero=>
  intro p k v e r;cases p with
  | int i=>cases e; exact ⟨r,trivial⟩
  | str i=>cases e; exact ⟨r,trivial⟩
  | _=>cases e
 | succ d Z=>
  intro p k v e r;cases p with
  | int i=>cases e; exact ⟨r,trivial⟩
  | str i=>cases e; exact ⟨r,trivial⟩
  | tup ps=>
   obtain ⟨a,vs,rfl,Y,_,O⟩:=r;have q:∀ {ps:List PV} {l:List HK} {vs:List V},Yq (U8 d) ps=zo l->RepL H ρ ps vs->KAtL H l vs/\∀ k∈l,Dp d k:=by
    intro ps
    induction ps with
    | nil=>intro l vs e r; cases e; exact ⟨r,λk hk=>nomatch hk⟩
    | cons p ps I=>
     intro l vs e ⟨v,t,e1,r1,r2⟩;unfold Yq at e
     split at e
     ·rename_i k l' J e3;cases e;obtain ⟨h1,h2⟩:=Z J r1;obtain ⟨h3,h4⟩:=I e3 r2;exact ⟨⟨v,t,e1,h1,h3⟩,λx G=>by rcases D6.mp G with rfl | G; exact h2; exact h4 x G⟩
     ·cases e
   unfold U8 at e;cases z:Yq (U8 d) ps with
   | none=>rw [z] at e; cases e
   | some l=>
    rw [z] at e;cases e;obtain ⟨h1,h2⟩:=q z O;exact ⟨⟨a,vs,rfl,Y,h1⟩,h2⟩
  | _=>cases e
def Xf:PV->Option HK
 | .tup ps=>U8 5 (.tup ps)
 | _=>zl
theorem Vm {k:HK} (e:Xf p=zo k) (r:Rep H ρ p v):∃ b,v=.ref b/\KR H k b:=by
 cases p with
 | tup ps=>
  have h:=Qiw 5 e r;obtain ⟨b,vs,rfl,_⟩:=r;exact ⟨b,rfl,h⟩
 | _=>cases e
def putT (kvs:List (HK × PV)) (k:HK) (v:PV):List (HK × PV):=
 if (kvs.any λkv=>decide (kv.1=k))=zb then kvs.map (λkv=>if kv.1=k then (kv.1,v) else kv) else kvs ++ [(k,v)]
theorem Q8b {G:List (HK × PV)} {vs:List (HK × V)} (r:RepD H ρ G vs) (k:HK) (Z:Rep H ρ p v):RepD H ρ (putT G k p) (K2 vs k v):=by
 have ha:(G.any λkv=>decide (kv.1=k))=vs.any λkv=>decide (kv.1=k):=by
  have I:(G.any λkv=>decide (kv.1=k))=(G.map bq).any λx=>decide (x=k):=by rw [dM]; rfl
  have O:(vs.any λkv=>decide (kv.1=k))=(vs.map bq).any λx=>decide (x=k):=by rw [dM]; rfl
  rw [I,O,r.1]
 unfold putT K2;rw [<- ha]
 by_cases q:(G.any λkv=>decide (kv.1=k))=zb
 ·rw [bT q,bT q];have Y:∀ (G:List (HK × PV)) (vs:List (HK × V)),RepD H ρ G vs->RepD H ρ (G.map λkv=>if kv.1=k then (kv.1,p) else kv) (vs.map λkv=>if kv.1=k then (kv.1,v) else kv):=by
   intro G
   induction G with
   | nil=>
    intro vs r;cases vs with
    | nil=>exact r
    | cons _ _=>have:=r.length; cases this
   | cons a G ih=>
    intro vs r;cases vs with
    | nil=>have:=r.length; cases this
    | cons b vs=>
     obtain ⟨r1,x,t,e,r2,r3⟩:=r;obtain ⟨I,O⟩:=ce (show b.1 :: vs.map bq=a.1 :: G.map bq from r1);obtain ⟨e3,e4⟩:=ce (show b.2 :: vs.map ca=x :: t from e);subst e3; subst e4;obtain ⟨i1,i2⟩:=ih vs ⟨O,r3⟩;rw [D5,D5]
     by_cases z:a.1=k
     ·have J:b.1=k:=I.trans z;rw [bT z,bT J];exact ⟨by rw [D5,D5,i1]; show b.1 :: _=a.1 :: _; rw [I],RepL.cons Z i2⟩
     ·have J:¬ b.1=k:=λh=>z (I.symm.trans h)
      rw [bU z,bU J];exact ⟨by rw [D5,D5,i1]; show b.1 :: _=a.1 :: _; rw [I],RepL.cons r2 i2⟩
  exact Y G vs r
 ·rw [bU q,bU q];refine ⟨?_,?_⟩
  ·rw [F3,F3,r.1]; rfl
  ·rw [F3,F3];exact r.2.append (RepL.cons Z RepL.nil)
variable {X:Cx} {E:XK} {pos dpos tpos:Pos} {e o k:aH} {m mi mo:ME}
section
variable {i:aH} {mk:ME}
def Q0c:ME:=λΓ st=>.ok (.ref st.length) (st ++ [.dtp []])
theorem Q83:SimE X E (.Dict [] [] dpos) Q0c:=⟨λΓ σ H ρ st Q R G h=>WE.of Qhh λd hd=>by
 have x:Ext H ρ (upd H d (.dT [])) (ρ.add d):=Ext.addT hd;refine h _ _ x (R.addC hd ⟨_,Qw,rfl,rfl⟩) _ ⟨d,?_,rfl⟩;show (ρ.tr ++ [d])[st.length]?=zo d;rw [<- R.len,D4 (O5 _),L6]; rfl⟩
def Zr (st:Q0):PV->Option (List (HK × PV))
 | .ref i=>match st[i]? with
  | some (.dtp kvs)=>zo kvs
  | _=>zl
 | _=>zl
theorem Yr {q:List (HK × PV)} (R:Rel H ρ st) (r:Rep H ρ p v) (e:Zr st p=zo q):∃ i a vs,p=.ref i/\v=.ref a/\ρ.tr[i]?=zo a/\st[i]?=zo (.dtp q)/\H a=zo (.dT vs)/\RepD H ρ q vs:=by
 cases p with
 | ref i=>
  obtain ⟨a,I,rfl⟩:=r;unfold Zr at e;cases z:st[i]? with
  | none=>simp only [z] at e; cases e
  | some c=>
   simp only [z] at e;cases c with
   | dtp J=>
    cases e;obtain ⟨b,vs,G,Y,O⟩:=R.dtp z;rw [I] at G;cases G;exact ⟨i,a,vs,rfl,rfl,I,z,Y,O⟩
   | lst xs=>cases e
   | dic xs=>cases e
   | frd xs=>cases e
   | obj C xs=>cases e
 | _=>cases e
def xq (st:Q0) (p q v:PV):Option Q0:=match p with
 | .ref n=>match Zr st (.ref n),Xf q with
  | some kvs,zo k=>if kvs.length < lim then zo (st.set n (.dtp (putT kvs k v))) else zl
  | _,_=>zl
 | _=>zl
def zu (mo mi m:ME):MS:=λΓ st=>(m Γ st).sbind λv st1=>(mo Γ st1).sbind λp st2=>(mi Γ st2).sbind λq st3=>match xq st3 p q v with
 | some st4=>.nx Γ st4
 | none=>.stuck
theorem Q7w (hu:X.A.units + 9 < aQ) (he:SimE X E e m) (ho:SimE X E o mo) (hi:SimE X E i mi) (hs:swapsWith e (zo (.Subscript o i tpos)) pos.line X.env=pure yo:=by rfl):SimS X E (.Assign [.Subscript o i tpos] e pos) (zu mo mi m):=
 ⟨λΓ σ H ρ st D R G h=>WS.of (Qmj hu Jc Jc Jc hs) (he.use R G h.bind λv a6 H1 ρ1 z x1 R1 G1 r1 h1=>ho.use R1 G1 h1.bind λp a2 H2 a3 x x2 R2 G2 r2 h2=>hi.use R2 G2 h2.bind λq J H3 I y x3 R3 G3 r3 Y=>by
  cases es:xq J p q v with
  | none=>rw [es] at Y; exact Y.elim
  | some a4=>
   rw [es] at Y;unfold xq at es
   split at es
   ·rename_i n
    split at es
    ·rename_i a1 k e1 e2
     split at es
     ·rename_i hl;cases es;obtain ⟨n',a,vs,en,rfl,ea,a5,hb,rd⟩:=Yr R3 (r2.ext x3) e1;cases en;obtain ⟨b,rfl,Z⟩:=Vm e2 r3;have O:Ext H3 I (upd H3 a (.dT (K2 vs k z))) I:=Ext.put (E2 ea) hb;have rz:=(r1.ext (x2.trans x3)).ext O;have R4:Rel (upd H3 a (.dT (K2 vs k z))) I (J.set n (.dtp (putT a1 k v))):=R3.putC ea hb ⟨_,Qw,Q8b (rd.ext O) k rz⟩;refine ⟨a,_,rfl,DPut.t hb Z (by rw [<- rd.length]; exact D1 hl Q6z),Y σ _ I O R4 (G3.ext O)⟩
     ·cases es
    ·cases es
   ·cases es)⟩
def Kj:CF:=λst ps=>match ps with
 | [p]=>match Zr st p with
  | some kvs=>if kvs.length < 1000000 then .ok (.int (kvs.length:Nat)) st else .stuck
  | none=>.stuck
 | _=>.stuck
theorem Qph:CallS X E (.builtin "len") Kj:=⟨λH ρ st ps xs Q R G h=>by
 unfold Kj at h
 split at h
 ·rename_i p;obtain ⟨v,rfl,r⟩:=Zd G
  split at h
  ·rename_i I e
   split at h
   ·rename_i q;obtain ⟨n,a,vs,rfl,rfl,_,_,O,J⟩:=Yr R r e;rw [J.length] at h q;exact WC.of Qbm ⟨a,vs,rfl,O,q,now R h rfl⟩
   ·exact h.elim
  ·exact h.elim
 ·exact h.elim⟩
def Xj (kvs:List (HK × PV)) (k:HK):Option PV:=(kvs.find? λkv=>decide (kv.1=k)).map (·.2)
theorem yn {H:Hp} {ρ:Tk} (k:HK):∀ {q:List (HK × PV)} {vs:List (HK × V)},RepD H ρ q vs->(Xj q k=zl/\js vs k=zl)\/∃ p v,Xj q k=zo p/\js vs k=zo v/\Rep H ρ p v
 | [],[],_=>.inl ⟨rfl,rfl⟩
 | [],b :: vs,r=>by have:=r.length; cases this
 | a :: q,[],r=>by have:=r.length; cases this
 | a :: q,b :: vs,r=>by
  obtain ⟨Z,x,t,e,r2,O⟩:=r;obtain ⟨I,J⟩:=ce (show b.1 :: vs.map bq=a.1 :: q.map bq from Z);obtain ⟨Y,e4⟩:=ce (show b.2 :: vs.map ca=x :: t from e);subst Y; subst e4;unfold Xj js;rw [cP,cP]
  by_cases z:a.1=k
  ·have G:b.1=k:=I.trans z;rw [bW z,bW G];exact .inr ⟨a.2,b.2,rfl,rfl,r2⟩
  ·have G:¬ b.1=k:=λh=>z (I.symm.trans h)
   rw [bV z,bV G];exact yn k ⟨J,O⟩
def qe (neg:Bool):OP:=λst p q=>match Zr st q,Xf p with
 | some kvs,zo k=>.ok (.bl ((Xj kvs k).isSome != neg)) st
 | _,_=>.stuck
theorem Qht (hu:X.A.units + 9 < aQ):OpS X E (aS .In) (qe yo):=⟨λH ρ st p q x y Q R Y Z h=>by
 unfold qe at h
 split at h
 ·rename_i G k e1 e2;obtain ⟨n,a,vs,rfl,rfl,_,_,hb,rd⟩:=Yr R Z e1;obtain ⟨b,rfl,kr⟩:=Vm e2 Y;intro pins s σ v u I rv ru;cases ru;refine J03 hu I (DGet.t hb kr) rv λs' I'=>⟨.bl _,H,I',rfl,?_⟩
  have:(js vs k).isSome=(Xj G k).isSome:=by
   rcases yn k rd with ⟨J,O⟩ | ⟨p,v,J,O,_⟩ <;> rw [J,O] <;> rfl
  rw [this];rw [cb] at h;exact now R h rfl
 ·exact h.elim⟩
theorem Qec (hu:X.A.units + 9 < aQ):OpS X E (aS .NotIn) (qe zb):=⟨λH ρ st p q x y Q R Y rq h=>by
 unfold qe at h
 split at h
 ·rename_i G k e1 e2;obtain ⟨n,a,vs,rfl,rfl,_,_,hb,rd⟩:=Yr R rq e1;obtain ⟨b,rfl,kr⟩:=Vm e2 Y;intro pins s σ v u I rv ru;cases ru;refine Qpf hu I (DGet.t hb kr) rv λs' I'=>⟨.bl _,H,I',rfl,?_⟩
  have:(js vs k).isSome=(Xj G k).isSome:=by
   rcases yn k rd with ⟨J,O⟩ | ⟨p,v,J,O,_⟩ <;> rw [J,O] <;> rfl
  rw [this];have Z:((Xj G k).isSome != zb)=!(Xj G k).isSome:=by cases (Xj G k).isSome <;> rfl
  rw [Z] at h;exact now R h rfl
 ·exact h.elim⟩
theorem Q1p (R:Rel H ρ st) (b:aB) (xs:List V) (h:H b=zo (.tup xs)):b∉ρ:=λz=>by
 rcases z with z | z
 ·obtain ⟨i,hi,e⟩:=G6 z;have hs:i < st.length:=by rw [<- R.len]; exact hi
  have q:=R.cell i b st[i] (by rw [O2 hi,e]) (O2 hs);cases G:st[i] with
  | lst xs=>rw [G] at q; obtain ⟨vs,h1,_⟩:=q; rw [h] at h1; cases h1
  | dic xs=>rw [G] at q; obtain ⟨vs,h1,_⟩:=q; rw [h] at h1; cases h1
  | dtp xs=>rw [G] at q; obtain ⟨vs,h1,_⟩:=q; rw [h] at h1; cases h1
  | frd xs=>rw [G] at q; obtain ⟨vs,⟨_,h1⟩,_⟩:=q; rw [h] at h1; cases h1
  | obj C xs=>rw [G] at q; obtain ⟨vs,⟨_,h1⟩,_⟩:=q; rw [h] at h1; cases h1
 ·obtain ⟨o,h1,h2⟩:=R.hd b z;rw [h] at h1;cases h1;exact h2 xs rfl
end
variable {H0 H:Hp} {ρ0 ρ:Tk} {st:Q0} {a:aB} {ps:List (HK × PV)} {vs:List (HK × V)}
theorem Qhp (R0:Rel H0 ρ0 st) (x:Ext H0 ρ0 H ρ) {G:Q0} (R:Rel H ρ G) (hm:a∈ρ.hid) (hn:H0 a=zl) (ha:H a=zo (.dT vs)) (r:RepD H ρ ps vs) :
  Ext H0 ρ0 H ⟨ρ.tr ++ [a],ρ0.hid⟩/\Rel H ⟨ρ.tr ++ [a],ρ0.hid⟩ (G ++ [.dtp ps])/\Rep H ⟨ρ.tr ++ [a],ρ0.hid⟩ (.ref G.length) (.ref a):=by
 have Z:a∉ρ0.hid:=λz=>by
  obtain ⟨o,e,_⟩:=R0.hd a z;rw [hn] at e; cases e
 refine ⟨⟨x.pre.trans (eN _ _),λ_ h=>h,λ_ h=>.inl h,x.keep,λb O=>?_,x.old,x.frz⟩,⟨?_,?_,λb O=>R.hd b (x.hidM b O),λb O z=>?_,λi b c h1 h2=>?_⟩,a,?_,rfl⟩
 ·rcases E3.mp O with z | z
  ·exact x.new b z
  ·have:b=a:=by simpa using z
   subst this; exact .inr hn
 ·show (ρ.tr ++ [a]).length=_;rw [O6,O6,R.len]; rfl
 ·show (ρ.tr ++ [a]).Nodup;refine cZ.mpr ⟨R.nd,by simp,λb O c hc e=>?_⟩;have:c=a:=by simpa using hc
  subst this; subst e;exact R.ap b hm O
 ·rcases E3.mp z with z | z
  ·exact R.ap b (x.hidM b O) z
  ·have:b=a:=by simpa using z
   subst this; exact Z O
 ·have h1:(ρ.tr ++ [a])[i]?=zo b:=h1
  by_cases hi:i < G.length
  ·rw [O8 (by rw [R.len]; exact hi)] at h1;rw [O8 hi] at h2;have q:=R.cell i b c h1 h2;cases c with
   | lst Y=>
    obtain ⟨us,J,I⟩:=q;exact ⟨us,J,I.trk hm x.hidM⟩
   | dic Y=>
    obtain ⟨us,J,I⟩:=q;exact ⟨us,J,I.1,I.2.trk hm x.hidM⟩
   | dtp Y=>
    obtain ⟨us,J,I⟩:=q;exact ⟨us,J,I.1,I.2.trk hm x.hidM⟩
   | frd Y=>
    obtain ⟨us,J,I⟩:=q;exact ⟨us,J,I.1,I.2.trk hm x.hidM⟩
   | obj C Y=>
    obtain ⟨us,J,I⟩:=q;exact ⟨us,J,I.1,I.2.trk hm x.hidM⟩
  ·rw [D4 (by rw [R.len]; omega)] at h1;rw [D4 (by omega)] at h2;have e0:i - G.length=0:=by
    rcases fZ (i - G.length) with z | z
    ·exact z
    ·rw [L0 (by simp; omega)] at h2; cases h2
   rw [R.len,e0] at h1;rw [e0] at h2;simp at h1 h2;subst h1; subst h2;exact ⟨vs,ha,r.1,r.2.trk hm x.hidM⟩
 ·show (ρ.tr ++ [a])[G.length]?=zo a;rw [<- R.len,D4 (O5 _),L6]; rfl
section
variable {mk:ME}
def Qbi (st:Q0) (pv pk:PV):Res PV:=match Xf pk with
 | some ks=>.ok (.ref st.length) (st ++ [.dtp [(ks,pv)]])
 | none=>.stuck
def jf (mk m:ME):ME:=λΓ st=>(mk Γ st).bind λpk st1=>(m Γ st1).bind λpv st2=>Qbi st2 pv pk
theorem Qdz (hu:X.A.units + 9 < aQ) (hk:SimE X E k mk) (he:SimE X E e m):SimE X E (.Dict [zo k] [e] dpos) (jf mk m):=by
 refine ⟨λΓ σ H ρ st Q R G h=>WE.of (Qea (by omega) Jc Jc) ?_⟩;intro p O;have x0:Ext H ρ (upd H p (.dT [])) (ρ.hide p):=Ext.hide O;refine hk.use' (R.hide O) (G.hide O) (h.bind.later x0) λa1 a4 H1 ρ1 v1 f1 x1 R1 G1 r1 _=>?_
 have h:=h;unfold jf at h;rw [f1] at h;have h:Acc X.mg E H ρ (QV Q) ((m Γ a4).bind λpv q=>Qbi q pv a1):=h
 refine he.use' R1 G1 (h.bind.later (x0.trans x1)) λa2 q H2 I Y f2 x2 R2 G2 r2 _=>?_
 rw [f2] at h;have h:Acc X.mg E H ρ (QV Q) (Qbi q a2 a1):=h;unfold Qbi at h
 split at h
 ·rename_i ks ek;obtain ⟨b,rfl,kr⟩:=Vm ek (r1.ext x2);have xe:Ext (upd H p (.dT [])) (ρ.hide p) H2 I:=x1.trans x2;have a3:p∉(ρ.hide p).tr:=λz=>R.fresh O (.inl z)
  have Z:H2 p=zo (.dT []):=xe.keep p _ Qw a3;have J:p∈I.hid:=xe.hidM p F4;refine ⟨ks,b,Y,rfl,kr,Z,?_⟩;have y:Ext H ρ (upd H2 p (.dT [(ks,Y)])) I:=(x0.trans xe).put0 O;have g2:=r2.rehide (o:=.dT [(ks,Y)]) J;obtain ⟨x5,R5,r5⟩:=Qhp (ps:=[(ks,a2)]) R y (R2.rehide J) J O Qw ⟨rfl,RepL.cons g2 RepL.nil⟩;exact h _ _ x5 R5 _ r5
 ·exact h.elim
@[simp] theorem Qtd (Γ:Gam) (st:Q0):jf mk m Γ st=(mk Γ st).bind λI G=>(m Γ G).bind λpv q=>Qbi q pv I:=rfl
end
end Sm
namespace Sm
open PySem PySem.Spec PyProof.Rows L2
end Sm
namespace Sm
open PySem PySem.Spec L2 SeqAt
def dEq (ks ls:List (Key × PV)):Bool:=decide (ks.length=ls.length) && ks.all λkv=>match Qz2 ls kv.1 with
 | none=>yo
 | some v=>peq kv.2 v
def Qhb (ks:List (Key × PV)):Bool:=ks.all λkv=>good 0 kv.2
section
variable {X:Cx} {E:XK}
def Qx5 (ks:List (Key × PV)):Bool:=ks.all λkv=>match kv.1 with
 | .inl _=>zb
 | .inr _=>yo
def eqM (st:Q0) (x y:PV):Option Bool:=
 if good dep (der st x)=zb/\good dep (der st y)=zb then zo (peq (der st x) (der st y))
 else match Qqn st x,Qqn st y with
  | some ks,zo ls=>if Qhb ks=zb/\Qhb ls=zb/\Qx5 ks=zb/\Qx5 ls=zb then zo (dEq ks ls) else zl
  | _,_=>zl
variable {e o i:aH} {m mo mi:ME} {pos tpos:Pos}
def Qtf (i:Nat) (f:Int->Int->Int) (m:ME):MS:=λΓ st=>match Γ[i]? with
 | some (zo (.int a))=>(m Γ st).sbind λv st1=>match v with
  | .int b=>.nx (Γ.set i (zo (.int (f a b)))) st1
  | _=>.stuck
 | _=>.stuck
theorem Qr7 (i:Nat) {x:Str} {pos':Pos} {op:Operator} {f:Int->Int->Int} (hp:PIp X op (ipI f)) (q:X.N.Nodup) (he:SimE X E e m) (hi:X.N[i]?=zo x:=by rfl) (hx:Loc X.env.scope x:=by first | exact Or.inl rfl | exact Or.inr rfl) (Z:X.fn x=zb\/X.env.scope.names.lookup x=zo .local:=by first | exact .inl rfl | exact .inr rfl) :
  SimS X E (.AugAssign (.Name x pos') op e pos) (Qtf i f m):=⟨λΓ σ H ρ st D R G h=>by
 unfold Qtf at h
 split at h
 ·rename_i a J;obtain ⟨v,I,Y⟩:=G.2 i _ J;cases Y;refine WS.of (Qs3 q hi hx Jc hp Z) ⟨_,I,he.use R G h.bind λp a1 H1 ρ1 w x1 R1 O r1 h1=>?_⟩;cases p with
  | int b=>
   cases r1;exact ⟨a,b,rfl,rfl,h1 _ H1 ρ1 (Ext.refl _ _) R1 (O.set (p:=.int (f a b)) (v:=.int (f a b)) rfl i)⟩
  | _=>exact h1.elim
 ·exact h.elim⟩
end
end Sm
namespace L2
open PySem PySem.Spec PyProof.Rows
end L2
namespace Sm
open PySem PySem.Spec PyProof.Rows L2
end Sm
namespace Sm
open PySem PySem.Spec L2
end Sm
namespace Sm
open PySem PySem.Spec PyProof.Rows L2
end Sm
namespace Sm
open PySem PySem.Spec L2
section
variable {X:Cx} {E:XK} {pos:Pos} {tg:aH} {e a b:aH} {m ma mb:ME}
def Qek:OP:=λst p q=>match p,q with
 | .int a,.int b=>.ok (.bl (decide (a<=b))) st
 | .str a,.str b=>.ok (.bl (!decide (b.cps.toList < a.cps.toList))) st
 | _,_=>.stuck
theorem Qsn:OpS X E (aS .LtE) Qek:=⟨λH ρ st p q x y Q R G I h=>by
 unfold Qek at h
 split at h
 ·cases G; cases I;exact WO.of Qqe ⟨_,_,rfl,rfl,now R h rfl⟩
 ·cases G; cases I;exact WO.of Qef ⟨_,_,rfl,rfl,now R h rfl⟩
 ·exact h.elim⟩
def Qnc:OP:=λst p q=>match p,q with
 | .str z,.int i=>match atI z.cps.toList i with
  | some c=>if z.length<=lim then .ok (.str ⟨#[c]⟩) st else .stuck
  | none=>.stuck
 | _,_=>.stuck
theorem Qrj (O:SimE X E a ma) (Z:SimE X E b mb) (hs:Q7k b:=by exact λ_ _=>rfl):SimE X E (.Subscript a b pos) (mOp Qnc ma mb):=
 ⟨λΓ σ H ρ st Q R G h=>WE.of (Qqc Qiq Jc Jc hs) (O.use R G h.bind λp J H1 ρ1 v x1 R1 Y r1 h1=>Z.use R1 Y h1.bind λq a1 H2 a2 u x2 R2 G2 r2 h2=>by
  unfold Qnc at h2
  split at h2
  ·rename_i z i;cases r1; cases r2
   split at h2
   ·rename_i c ec
    split at h2
    ·rename_i I;exact .inr (.inr ⟨z,i,c,rfl,rfl,Zy I,ec,now R2 h2 rfl⟩)
    ·exact h2.elim
   ·exact h2.elim
  ·exact h2.elim)⟩
def Kq (x:Str):List PV:=x.cps.toList.map λc=>.str ⟨#[c]⟩
def Qcq (m:ME):MI:=λΓ st=>(m Γ st).bind λp st1=>match p with
 | .str x=>if x.length<=lim then .ok (Kq x,[]) st1 else .stuck
 | _=>.stuck
theorem Qkp {H:Hp} {ρ:Tk} (x:Str):Src (Quk x) (Kq x) [] H ρ:=by
 have Y:(Kq x).length=x.cps.size:=by unfold Kq; rw [O0,be]
 refine ⟨λH2 G q _ _ _=>?_,λH2 G q _ _ _ i hi=>?_,λH2 G q _ _ _ i p I y Z J=>?_⟩
 ·show x.cps.size<=_; omega
 ·show i < x.cps.size; omega
 ·obtain ⟨rfl,c,O,rfl⟩:=J;refine ⟨Same.refl _,?_⟩;unfold Kq at I;rw [D7,bh,O] at I;cases I;exact rfl
theorem Qrb (Y:SimE X E e m):SimI X E tg e (Qcq m):=⟨λΓ σ H ρ st P R' R G h k=>by
 have hb:Acc X.mg E H ρ _ (m Γ st):=Acc.bind h;refine WI.of (Qs7 Jc) (Y.use' R G hb λp I H1 ρ1 v eq x1 O Z r1 h1=>?_)
 split at h1
 ·rename_i x
  split at h1
  ·rename_i J;cases r1;have q:(Kq x).length<=lim:=by unfold Kq; rw [O0,be]; exact J
   exact ⟨x,rfl,k (Kq x,[]) I H1 ρ1 _ (by simp only [Qcq,eq,Res.bind,bT J]) x1 O Z (Qz _) (Zy q) (Qkp x) (h1 H1 ρ1 (Ext.refl _ _) O)⟩
  ·exact h1.elim
 ·exact h1.elim⟩
def Q0y:List PV->Option (List Str)
 | []=>zo []
 | .str x :: r=>(Q0y r).map (x :: ·)
 | _ :: _=>zl
theorem Q51 {H:Hp} {ρ:Tk}:∀ {ps:List PV} {ss:List Str} {vs:List V},Q0y ps=zo ss->RepL H ρ ps vs->vs=ss.map V.str
 | [],_,_,e,r=>by cases e; exact r
 | .str x :: ps,_,_,e,⟨v,t,G,I,q⟩=>by
  have e:(Q0y ps).map (x :: ·)=zo _:=e;cases z:Q0y ps with
  | none=>rw [z] at e; cases e
  | some l=>
   rw [z] at e;cases e;rw [G,Q51 z q,show v=V.str x from I];rfl
def Qi5 (sep:Str) (st:Q0) (ps:List PV):Res PV:=match ps with
 | [p]=>match (U0 st p).bind Q0y with
  | some ss=>if JoinOk sep ss=zb then .ok (.str (Txt.join sep ss)) st else .stuck
  | none=>.stuck
 | _=>.stuck
def Qcs (mo:ME) (mr:Gam->Q0->Res (List PV)):ME:=λΓ st=>(mo Γ st).bind λp st1=>match p with
 | .str sep=>(mr Γ st1).bind λps st2=>Qi5 sep st2 ps
 | _=>.stuck
variable {o:aH} {es:List aH} {mo:ME} {mr:Gam->Q0->Res (List PV)} {apos cpos:Pos}
theorem Qm2 (ho:SimE X E o mo) (ha:SimA X E (e :: es) mr)
  (J:bM o "join" X.env (aO o X.env)=aO o X.env:=by rfl)
  (Y:((aY cpos (aN (e :: es) X.env)).all (λx=>!x.1) && (backToKw cpos (keywordEach [] X.env)).all (λx=>x.1.isSome)
   && decide ((e :: es).length + ([]:List Keyword).length + (if ([]:List Keyword).isEmpty then 0 else 1) < 30))=zb:=by rfl)
  (O:(apos.endLine == cpos.line)=zb:=by rfl) (hs:aN (e :: es) X.env=(yo,aO e X.env) :: aN es X.env:=by rfl) (I:(aY cpos (aN es X.env)).any (·.1)=yo:=by rfl) :
  SimE X E (.Call (.Attribute o "join" apos) (e :: es) [] cpos) (Qcs mo mr):=
 ⟨λΓ σ H ρ st Q R G h=>WE.of (Qhk PySem.F.plainAttrs_str PySem.F.slot_str_join PySem.F.type_str_join Qne Jc Q02 J Y O hs I) (ho.use R G h.bind λp a3 H1 ρ1 v x1 R1 G1 r1 h1=>by
  split at h1
  ·rename_i a1;cases r1;refine ⟨rfl,ha.use R1 G1 h1.bind λps Z H2 a2 us x2 R2 G2 r2 h2=>?_⟩;unfold Qi5 at h2
   split at h2
   ·rename_i q;obtain ⟨y,rfl,ry⟩:=Zd r2
    split at h2
    ·rename_i ss es
     split at h2
     ·rename_i hz;cases f1:U0 Z q with
      | none=>rw [f1] at es; cases es
      | some xs=>
       rw [f1] at es;obtain ⟨c,vs,rfl,hc,rc⟩:=Uw R2 ry f1;rw [Q51 es rc] at hc;exact ⟨a1,c,ss,rfl,rfl,.inl hc,hz,now R2 h2 rfl⟩
     ·exact h2.elim
    ·exact h2.elim
   ·exact h2.elim
  ·exact h1.elim)⟩
end
end Sm
namespace L2
open PySem PySem.Spec PyProof.Rows PySem.W
def SzS (h:Heap) (a:aB) (n:Nat):Prop:=∃ o es ep t,h.get? a=zo o/\o.ExactSet/\o.data=.set es ep t/\t.fits es.size=zb/\es.size=n
def Q4s (a:aB) (n:Nat):HO:=.ext λh=>SzS h a n
variable {X:Cx}
theorem Qfa (hu:X.A.units + 9 < aQ) (hc:X.calm=zb):Wz X (.type "set") (λxs H Q=>∃ p vs,∃ ks:List HK,xs=[.ref p]/\SqT X.K H p vs/\aR (λv k=>∃ b,v=.ref b/\KR H k b) vs ks/\ks.length<=76/\∀ l,H l=zl->Q (.ref l) (upd H l (Q4s l (Y9 ks).length))):=by
 intro pins s σ H xs us Q I r h;obtain ⟨p,vs,ks,rfl,hq,Y,hl,q⟩:=h;obtain ⟨u,rfl,J⟩:=Uq r;cases J;obtain ⟨its,O,pl,hz⟩:=I.tuple hq;have G:its.length=ks.length:=by rw [<- O.length,Paired.length Y]
 refine jy (B:=λ_=>True) (ks:=ks) hu (I.ok.hd hc) pl (by rw [D0,G]) (λi v e=>?_) hl λh' tk gh k=>?_
 ·have e:its[i]?=zo v:=by simpa using e
  have hi:i < vs.length:=by have:=(O3.mp e).1; rw [O.length]; exact this
  obtain ⟨x,ex,J⟩:=O.get (O2 hi);rw [e] at ex; cases ex;obtain ⟨k,ek,b,eb,hb⟩:=K4 Y (O2 hi);rw [eb] at J;cases J;exact ⟨k,b,ek,rfl,V7 I.hok hb,trivial⟩
 ·obtain ⟨o,es,ep,t,h1,h2,h3,⟨a1,p1,r1⟩,h5,h6⟩:=gh;have sz:SzS h' s.heap.objs.size (Y9 ks).length:=⟨o,es,ep,t,h1,h2,h3,by have:=h6.fits; rwa [O0,be] at this,by rw [<- be,Paired.length r1,p1.length_eq]⟩;refine ⟨.ref s.heap.objs.size,upd H s.heap.objs.size (Q4s s.heap.objs.size (Y9 ks).length),I.laid (t':=tk) k (O5 _) ⟨sz,⟨o,h1⟩,λh1 h2 z kk=>?_⟩,rfl,q _ (I.hok.fresh (O5 _))⟩
  obtain ⟨o,es,ep,t,Z,g2⟩:=z;exact ⟨o,es,ep,t,kk _ Z,g2⟩
theorem Qfc:Wz X (.builtin "len") (λxs H Q=>∃ p n,xs=[.ref p]/\H p=zo (Q4s p n)/\n<=4000/\Q (.int n) H):=by
 intro pins s σ H xs us Q I r h;obtain ⟨p,n,rfl,O,Z,q⟩:=h;obtain ⟨u,rfl,G⟩:=Uq r;cases G;obtain ⟨⟨o,es,ep,t,h1,h2,J,Y,rfl⟩,_,_⟩:=I.hok p _ O;exact call_len_set h1 h2 J Y (by omega) ⟨.int _,H,I.tok _,⟨s.toks + 1,rfl⟩,q⟩
theorem Q45 (hc:X.calm=zb):Wz X (.type "list") (λxs H Q=>∃ a,∃ G:List (HK × V),xs=[.ref a]/\H a=zo (.dT G)/\∀ d vs,H d=zl->aR (λv (p:HK × V)=>∃ b,v=.ref b/\KR H p.1 b) vs G->Q (.ref d) (upd H d (.lst vs))):=by
 intro pins s σ H xs us Q I r h;obtain ⟨a,G,rfl,ea,q⟩:=h;obtain ⟨u,rfl,rx⟩:=Uq r;cases rx;obtain ⟨z,hs,es,ep,J,hr,Y,O⟩:=Qbg I.hok ea;have l1:G.length=J.length:=Paired.length O;have l2:es.size=J.length:=by
  have:=congrArg cy Y;simpa using this
 refine kdl_call (Qc9 hs) (I.ok.hd hc) hr (by omega) λh' tk acc c k1 k2 k3=>?_
 have e:acc.toList=J.map bZ:=by
  rw [<- Y];apply cS;intro i
  by_cases z:i < es.size
  ·have hi:i < acc.size:=by rw [k3.1]; exact z
   obtain ⟨e,h1,h2⟩:=k3.2 i acc[i] (bi hi);rw [bh,bi hi,h2,D7,bh,h1]; rfl
  ·rw [bh,cY (by rw [k3.1]; omega),D7,bh,cY (by omega)]; rfl
 have hv:Vals (J.map V.ref) acc.toList:=by
  rw [e];clear e O l1 l2 Y
  induction J with
  | nil=>exact .nil
  | cons x l Z=>exact .cons rfl Z
 have hp:aR (λv (p:HK × V)=>∃ b,v=.ref b/\KR H p.1 b) (J.map V.ref) G:=by
  clear e hv k3 k2 k1 Y l1 l2 q ea z
  induction O with
  | nil=>exact .nil
  | cons hr _ Z=>exact .cons ⟨_,rfl,hr⟩ Z
 refine ⟨.ref s.heap.objs.size,_,I.laid (t':=tk) (o:=.lst (J.map V.ref)) k1 (O5 _) ⟨by rw [O0]; omega,acc.toList,c,hv,?_⟩,rfl,q _ _ (I.hok.fresh (O5 _)) hp⟩;rw [Array.toArray_toList]; exact k2
end L2
namespace Sm
open PySem PySem.Spec L2
variable {H:Hp} {ρ:Tk} {K:bX} {mg:zAE} {h:Heap} {st s:aM} {ps:List Str} {f:aB} {oc:aA} {P:aK} {fd:aP} {k:Nat} {F:FN} {α:Type}
variable {X:Cx} {E:XK} {a b:aH} {ma mb:ME} {pos:Pos}
def xb (ma:ME):ME:=λΓ st=>(ma Γ st).bind λp st1=>match p with
 | .tup ps=>match Yq Xf ps with
  | some ks=>if ks.length<=76 then .ok (.int (Y9 ks).length) st1 else .stuck
  | none=>.stuck
 | _=>.stuck
theorem Q8z {H:Hp} {ρ:Tk}:∀ {ps:List PV} {ks:List HK} {vs:List V},Yq Xf ps=zo ks->RepL H ρ ps vs->aR (λv k=>∃ b,v=.ref b/\KR H k b) vs ks
 | [],_,_,e,r=>by cases e; cases r; exact .nil
 | p :: ps,_,_,e,⟨v,t,G,J,O⟩=>by
  unfold Yq at e
  split at e
  ·rename_i k l q I;cases e;rw [G];exact .cons (Vm q J) (Q8z I O)
  ·cases e
theorem Qae {p p' pos':Pos} (hu:X.A.units + 9 < aQ) (ha:SimE X E a ma) (hc:X.calm=zb) (hg:Gl X "len") (hm:X.mg "len" = zl) (J:Gl X "set") (O:X.mg "set" = zl) (hb:aX "set" = zo (.type "set")) (he:aN [a] X.env=(yo,aO a X.env) :: aN [] X.env:=by rfl)
  (I:aN [.Call (.Name "set" p') [a] [] pos'] X.env=(yo,aO (.Call (.Name "set" p') [a] [] pos') X.env) :: aN [] X.env:=by rfl):SimE X E (.Call (.Name "len" p) [.Call (.Name "set" p') [a] [] pos'] [] pos) (xb ma):=
 ⟨λΓ σ H ρ st Q R G hq=>WE.of (yq Qfc hg hm iY (Wj (Xq (Qfa hu hc) J O hb (Wj Jc Xa he) (by decide) (by decide) he rfl) Xa I) (by decide) (by decide) I rfl) (ha.use' R G hq.bind λq a1 H1 ρ1 v e1 x1 R1 G1 r1 h1=>by
  split at h1
  ·rename_i ps
   split at h1
   ·rename_i ks ek
    split at h1
    ·rename_i hl;obtain ⟨c,vs,rfl,Y,_,rc⟩:=r1;refine ⟨c,vs,ks,rfl,SqT.of Y,Q8z ek rc,hl,λl Z=>⟨l,_,rfl,Qw,D9 (Uh ks) (by omega),?_⟩⟩
     exact h1 _ _ (Ext.hide Z) (R1.hide Z) _ rfl
    ·exact h1.elim
   ·exact h1.elim
  ·exact h1.elim)⟩
@[simp] theorem Qqg (ma:ME) (Γ:Gam) (st:Q0):xb ma Γ st=(ma Γ st).bind λp q=>match p with
 | .tup ps=>match Yq Xf ps with
  | some ks=>if ks.length<=76 then .ok (.int (Y9 ks).length) q else .stuck
  | none=>.stuck
 | _=>.stuck:=rfl
mutual
def hkV:HK->PV
 | .int i=>.int i
 | .str x=>.str x
 | .tup l=>.tup (hkVL l)
def hkVL:List HK->List PV
 | []=>[]
 | k :: l=>hkV k :: hkVL l
end
mutual
theorem Qd1 {H:Hp} {ρ:Tk} (o:∀ b xs,H b=zo (.tup xs)->b∉ρ):∀ {k:HK} {v:V},KAt H k v->Rep H ρ (hkV k) v
 | .int _,_,r=>r
 | .str _,_,r=>r
 | .tup _,_,⟨a,vs,e,h,r⟩=>⟨a,vs,e,h,o a vs h,hkVL_rep o r⟩
theorem hkVL_rep {H:Hp} {ρ:Tk} (o:∀ b xs,H b=zo (.tup xs)->b∉ρ):∀ {l:List HK} {vs:List V},KAtL H l vs->RepL H ρ (hkVL l) vs
 | [],_,r=>r
 | _ :: _,_,⟨v,r,e,h,t⟩=>⟨v,r,e,Qd1 o h,hkVL_rep o t⟩
end
def Q47:CF:=λst ps=>match ps with
 | [p]=>match Zr st p with
  | some kvs=>.ok (.lst (kvs.map λkv=>hkV kv.1)) st
  | none=>.stuck
 | _=>.stuck
theorem Q0g {H:Hp} {ρ:Tk} (o:∀ b xs,H b=zo (.tup xs)->b∉ρ):∀ {q:List (HK × PV)} {us:List (HK × V)} {vs:List V},RepD H ρ q us->aR (λv (p:HK × V)=>∃ b,v=.ref b/\KR H p.1 b) vs us->RepL H ρ (q.map λkv=>hkV kv.1) vs
 | [],[],_,_,p=>by cases p; rfl
 | [],b :: us,_,r,_=>by have:=r.length; cases this
 | a :: q,[],_,r,_=>by have:=r.length; cases this
 | a :: q,b :: us,_,r,.cons h t=>by
  obtain ⟨Y,x,t2,e,r2,I⟩:=r;obtain ⟨O,G⟩:=ce (show b.1 :: us.map bq=a.1 :: q.map bq from Y);obtain ⟨e3,Z⟩:=ce (show b.2 :: us.map ca=x :: t2 from e);subst Z;obtain ⟨c,rfl,J⟩:=h;refine RepL.cons ?_ (Q0g o ⟨G,I⟩ t);show Rep H ρ (hkV a.1) _;rw [<- O];exact Qd1 o J.1
theorem Q9s (Y:X.calm=zb):CallS X E (.type "list") Q47:=⟨λH ρ st ps xs Q R q h=>by
 unfold Q47 at h
 split at h
 ·rename_i p;obtain ⟨v,rfl,r⟩:=Zd q
  split at h
  ·rename_i G e;obtain ⟨n,a,vs,rfl,rfl,_,_,O,J⟩:=Yr R r e;exact WC.of (Q45 Y) ⟨a,vs,rfl,O,λd us hd I=>jd R h (Q0g (Q1p R) J I) d hd⟩
  ·exact h.elim
 ·exact h.elim⟩
structure TupG (K:bX) (mg:zAE) (n:Str) (ss:List Str):Prop where
 ex:∃ (a:aB) (o:Obj) (its:Array aA) (m:Nat),mg n=zo (.ref a)/\K.lookup a=zo o/\o.cls=.type "tuple" /\ o.data=.seq its m/\its.size<=sizeLine/\Vals (ss.map V.str) its.toList
def jv (ss:List Str) (x:Str):Bool:=ss.any λs=>decide (s=x)
def Q90 (neg:Bool) (ss:List Str) (m:ME):ME:=λΓ st=>(m Γ st).bind λp st1=>match p with
 | .str x=>.ok (.bl (jv ss x != neg)) st1
 | _=>.stuck
theorem Q3w (x:Str):∀ ss:List Str,inV (.str x) (ss.map V.str)=jv ss x
 | []=>rfl
 | s :: ss=>by
  have q:=Q3w x ss;unfold inV jv at*;rw [D5,cH,cH,q];congr 1
variable {p:Pos} {e:aH} {m:ME} {n:Str} {ss:List Str}
theorem Qrm (tg:TupG X.K X.mg n ss) (Z:Gl X n) (he:SimE X E e m) (hd:(n == ("__debug__" : Str))=yo:=by decide):SimE X E (.Compare e [.In] [.Name n p] pos) (Q90 yo ss m):=by
 obtain ⟨a,o,its,k,hm,O,hc,I,hz,Y⟩:=tg.ex;refine ⟨λΓ σ H ρ st Q R G h=>WE.of (Q6i Qeg Jc (Q6h (v:=.ref a) Z hm rfl hd) rfl) (he.use R G h.bind λq J H1 ρ1 v x1 R1 G1 r1 h1=>?_)⟩;cases q with
 | str x=>
  cases r1;have h1:Acc X.mg E H1 ρ1 (QV Q) (.ok (.bl (jv ss x != yo)) J):=h1;refine ⟨a,ss.map V.str,rfl,.inr (.inr ⟨o,its,k,O,hc,I,hz,Y⟩),rfl,by simp [z9],?_⟩;rw [Q3w];rw [cb] at h1;exact now R1 h1 rfl
 | _=>exact h1.elim
theorem Qdy (tg:TupG X.K X.mg n ss) (Z:Gl X n) (he:SimE X E e m) (hd:(n == ("__debug__" : Str))=yo:=by decide):SimE X E (.Compare e [.NotIn] [.Name n p] pos) (Q90 zb ss m):=by
 obtain ⟨a,o,its,k,hm,O,hc,I,hz,Y⟩:=tg.ex;refine ⟨λΓ σ H ρ st Q R G h=>WE.of (Q6i Q6m Jc (Q6h (v:=.ref a) Z hm rfl hd) rfl) (he.use R G h.bind λq J H1 ρ1 v x1 R1 G1 r1 h1=>?_)⟩;cases q with
 | str x=>
  cases r1;have h1:Acc X.mg E H1 ρ1 (QV Q) (.ok (.bl (jv ss x != zb)) J):=h1;refine ⟨a,ss.map V.str,rfl,.inr (.inr ⟨o,its,k,O,hc,I,hz,Y⟩),rfl,by simp [z9],?_⟩;rw [Q3w];rw [show (jv ss x != zb)=!jv ss x by cases jv ss x <;> rfl] at h1;exact now R1 h1 rfl
 | _=>exact h1.elim
section
variable {X:Cx} {E:XK}
def prV (p:Int × Str):PV:=.tup [.int p.1,.str p.2]
def Qb3:HK->Option (Int × Str)
 | .tup [.int x,.str y]=>zo (x,y)
 | _=>zl
def Q5h:List (HK × PV)->Option (List (Int × Str))
 | []=>zo []
 | kv :: r=>match Qb3 kv.1,Q5h r with
  | some p,zo l=>zo (p :: l)
  | _,_=>zl
theorem Qp2 {k:HK} {p:Int × Str} (h:Qb3 k=zo p):k=.tup [.int p.1,.str p.2]:=by
 unfold Qb3 at h
 split at h
 ·cases h; rfl
 ·cases h
theorem Q99 {H:Hp} {ρ:Tk}:∀ {G:List (HK × PV)} {vs:List (HK × V)} {nss:List (Int × Str)},Q5h G=zo nss->RepD H ρ G vs->aR (λ(p:HK × V) (ns:Int × Str)=>p.1=.tup [.int ns.1,.str ns.2]) vs nss
 | [],[],_,e,_=>by cases e; exact .nil
 | [],_ :: _,_,_,r=>by have:=r.length; cases this
 | _ :: _,[],_,_,r=>by have:=r.length; cases this
 | (k,p) :: G,(I,v) :: vs,nss,e,r=>by
  obtain ⟨r1,x,t,Y,r2,O⟩:=r;obtain ⟨Z,J⟩:=ce (show I :: vs.map bq=k :: G.map bq from r1);obtain ⟨e3,e4⟩:=ce (show v :: vs.map ca=x :: t from Y);subst e3; subst e4;unfold Q5h at e
  split at e
  ·rename_i q l h1 h2;cases e;exact .cons (show I=_ by rw [Z]; exact Qp2 h1) (Q99 h2 ⟨J,O⟩)
  ·cases e
theorem Q2r {H:Hp} {ρ:Tk} (q:∀ b xs,H b=zo (.tup xs)->b∉ρ):∀ {vs:List V} {nss:List (Int × Str)},aR (λ(v:V) (ns:Int × Str)=>∃ b,v=.ref b/\H b=zo (.tup [.int ns.1,.str ns.2])) vs nss->RepL H ρ (nss.map prV) vs
 | [],[],.nil=>rfl
 | v :: vs,ns :: nss,.cons ⟨b,e,G⟩ t=>by
  subst e;exact RepL.cons ⟨b,_,rfl,G,q b _ G,RepL.cons rfl (RepL.cons rfl RepL.nil)⟩ (Q2r q t)
theorem Q2s {H:Hp} {ρ:Tk} {nss:List (Int × Str)} {vs:List V} (r:RepL H ρ (nss.map prV) vs):∀ (q:List Nat),(∀ x∈q,x < vs.length)->RepL H ρ ((q.map λi=>nss.getD i dQ).map prV) (q.map λi=>vs.getD i .non)
 | [],_=>rfl
 | x :: q,h=>by
  have Y:=h x (by simp);have G:=r.length;rw [O0] at G;have O:(nss.map prV)[x]?=zo (prV (nss.getD x dQ)):=by
   rw [D7,O2 (by omega),E1,O2 (by omega)]; rfl
  have I:vs[x]?=zo (vs.getD x .non):=by rw [E1,O2 Y]; rfl
  exact RepL.cons (r.i O I) (Q2s r q λy J=>h y (O4 _ J))
def Q46:CF:=λst ps=>match ps with
 | [p]=>match Zr st p with
  | some kvs=>match Q5h kvs with
   | some nss=>if nss.length < 64 then .ok (.lst ((Ur nss).map prV)) st else .stuck
   | none=>.stuck
  | none=>.stuck
 | _=>.stuck
theorem Qji (hc:X.calm=zb):CallS X E (.builtin "sorted") Q46:=⟨λH ρ st ps xs Q R J h=>by
 unfold Q46 at h
 split at h
 ·rename_i p;obtain ⟨v,rfl,r⟩:=Zd J
  split at h
  ·rename_i Y e
   split at h
   ·rename_i nss en
    split at h
    ·rename_i a1;obtain ⟨n,a,vs,rfl,rfl,_,_,hb,Z⟩:=Yr R r e;have I:=Q99 en Z;have l2:vs.length=nss.length:=Paired.length I;refine WC.of (Q4v hc) ⟨a,vs,nss,rfl,hb,by omega,I,λd pp us hd q hp he=>?_⟩;have O:=Q2r (Q1p R) q;have l3:us.length=nss.length:=Paired.length q;have G:=Q2s O pp λx hx=>by have:=hp.mem_iff.mp hx; rw [l3]; simpa using this
     rw [he] at G;exact jd R h G d hd
    ·exact h.elim
   ·exact h.elim
  ·exact h.elim
 ·exact h.elim⟩
def K3:List PV->Option (List (HK × PV))
 | []=>zo []
 | .tup [kp,v] :: r=>match Xf kp,K3 r with
  | some k,zo l=>zo ((k,v) :: l)
  | _,_=>zl
 | _ :: _=>zl
def Vc (kvs l:List (HK × PV)):List (HK × PV):=l.foldl (λacc p=>putT acc p.1 p.2) kvs
theorem zm {H:Hp} {ρ:Tk}:∀ {ps:List PV} {l:List (HK × PV)} {us:List V},K3 ps=zo l->RepL H ρ ps us->∃ zs:List (HK × aB × V),aR (λv (z:HK × aB × V)=>∃ c,v=.ref c/\H c=zo (.tup [.ref z.2.1,z.2.2])/\KR H z.1 z.2.1) us zs/\aR (λ(p:HK × PV) (z:HK × aB × V)=>p.1=z.1/\Rep H ρ p.2 z.2.2) l zs
 | [],_,_,e,r=>by cases e; cases r; exact ⟨[],.nil,.nil⟩
 | .tup [kp,v] :: ps,_,_,e,⟨w,t,Z,r1,r2⟩=>by
  unfold K3 at e
  split at e
  ·rename_i k l h1 h2;cases e;obtain ⟨zs,O,q⟩:=zm h2 r2;obtain ⟨a,vs,e3,Y,_,w1,q1,e4,s1,w2,q2,e5,I,G⟩:=r1;cases G;subst e5; subst e4;obtain ⟨b,rfl,J⟩:=Vm h1 s1;subst Z;exact ⟨(k,b,w2) :: zs,.cons ⟨a,e3,Y,J⟩ O,.cons ⟨rfl,I⟩ q⟩
  ·cases e
theorem Kz {H:Hp} {ρ:Tk}:∀ {l:List (HK × PV)} {zs:List (HK × aB × V)} {q:List (HK × PV)} {vs:List (HK × V)},RepD H ρ q vs->aR (λ(p:HK × PV) (z:HK × aB × V)=>p.1=z.1/\Rep H ρ p.2 z.2.2) l zs->RepD H ρ (Vc q l) (L2.putAll vs zs)
 | _,_,_,_,r,.nil=>r
 | p :: l,z :: zs,_,_,r,.cons ⟨G,I⟩ t=>by
  show RepD H ρ (Vc (putT _ p.1 p.2) l) (L2.putAll (K2 _ z.1 z.2.2) zs);rw [G];exact Kz (Q8b r z.1 I) t
def Qkb (st:Q0) (p:PV) (ps:List PV):Res PV:=match p,ps with
 | .ref n,[.lst qs]=>match Zr st (.ref n),K3 qs with
  | some kvs,zo l=>if kvs.length + l.length<=lim then .ok .non (st.set n (.dtp (Vc kvs l))) else .stuck
  | _,_=>.stuck
 | _,_=>.stuck
def Qnk (mo:ME) (mr:Gam->Q0->Res (List PV)):ME:=λΓ st=>(mo Γ st).bind λp st1=>match Zr st1 p with
 | some _=>(mr Γ st1).bind λps st2=>Qkb st2 p ps
 | none=>.stuck
variable {o e:aH} {es:List aH} {mo:ME} {mr:Gam->Q0->Res (List PV)} {apos cpos:Pos}
theorem Qrd (hu:X.A.units + 9 < aQ) (hc:X.calm=zb) (ho:SimE X E o mo) (ha:SimA X E (e :: es) mr)
  (O:bM o "update" X.env (aO o X.env)=aO o X.env:=by rfl)
  (Z:((aY cpos (aN (e :: es) X.env)).all (λx=>!x.1) && (backToKw cpos (keywordEach [] X.env)).all (λx=>x.1.isSome)
   && decide ((e :: es).length + ([]:List Keyword).length + (if ([]:List Keyword).isEmpty then 0 else 1) < 30))=zb:=by rfl)
  (Y:(apos.endLine == cpos.line)=zb:=by rfl) (hs:aN (e :: es) X.env=(yo,aO e X.env) :: aN es X.env:=by rfl) (J:(aY cpos (aN es X.env)).any (·.1)=yo:=by rfl) :
  SimE X E (.Call (.Attribute o "update" apos) (e :: es) [] cpos) (Qnk mo mr):=
 ⟨λΓ σ H ρ st Q R G h=>WE.of (Qhk PySem.F.plainAttrs_dict PySem.F.slot_dict_update PySem.F.type_dict_update (Qem hu hc) Jc Q02 O Z Y hs J) (ho.use R G h.bind λp b0 H1 ρ1 v x1 R1 G1 r1 h1=>by
  split at h1
  ·rename_i a6 e0;obtain ⟨n,a,a8,rfl,rfl,a7,_,a5,_⟩:=Yr R1 r1 e0;refine ⟨.inr (.inr (.inl ⟨rfl,.inr ⟨_,a5⟩⟩)),ha.use R1 G1 h1.bind λps a1 H2 I us x2 R2 G2 r2 h2=>?_⟩
   unfold Qkb at h2
   split at h2
   ·rename_i n' qs en;cases en;obtain ⟨y,rfl,ry⟩:=Zd r2
    split at h2
    ·rename_i a3 l e1 e2
     split at h2
     ·rename_i hl;obtain ⟨n2,a2,vs,en,ev,ea,a9,hb,rd⟩:=Yr R2 (r1.ext x2) e1;cases en; cases ev;obtain ⟨c,ws,rfl,a4,_,rc⟩:=ry;obtain ⟨zs,z1,z2⟩:=zm e2 rc;have x4:Ext H2 I (upd H2 a (.dT (L2.putAll vs zs))) I:=Ext.put (E2 ea) hb;have z3:aR (λ(p:HK × PV) (z:HK × aB × V)=>p.1=z.1/\Rep (upd H2 a (.dT (L2.putAll vs zs))) I p.2 z.2.2) l zs:=Paired.mapP z2 λ_ _ q=>⟨q.1,q.2.ext x4⟩
      have R4:Rel (upd H2 a (.dT (L2.putAll vs zs))) I (a1.set n (.dtp (Vc a3 l))):=R2.putC ea hb ⟨_,Qw,Kz (rd.ext x4) z3⟩;have ll:l.length=zs.length:=Paired.length z2;refine ⟨a,c,vs,ws,zs,rfl,rfl,hb,a4,z1,?_,h2 _ I x4 R4 _ rfl⟩;rw [<- rd.length,<- ll];exact Zy hl
     ·exact h2.elim
    ·exact h2.elim
   ·exact h2.elim
  ·exact h1.elim)⟩
end
def Q8j:List PV->Option (List (Int × Str))
 | []=>zo []
 | .tup [.int x,.str y] :: r=>(Q8j r).map ((x,y) :: ·)
 | _ :: _=>zl
def kQ (p:Int × Str):HK:=.tup [.int p.1,.str p.2]
theorem Qtr {p q:Int × Str} (h:kQ p=kQ q):p=q:=by
 unfold kQ at h;injection h with h
 injection h with h1 h
 injection h with h2 _
 injection h1 with h1
 injection h2 with h2
 exact dO h1 h2
theorem Qq0 (acc:List (Int × Str)) (p:Int × Str):Jb (acc.map kQ) (kQ p)=(Jb acc p).map kQ:=by
 unfold Jb
 by_cases q:p∈acc
 ·rw [bT q,bT (E5.mpr ⟨p,q,rfl⟩)]
 ·rw [bU q,bU,F3]
  ·rfl
  ·intro h;obtain ⟨x,G,e⟩:=E5.mp h;rw [Qtr e] at G; exact q G
theorem Qnf (ps:List (Int × Str)):Y9 (ps.map kQ)=(Y9 ps).map kQ:=by
 have q:∀ (ps acc:List (Int × Str)),(ps.map kQ).foldl Jb (acc.map kQ)=(ps.foldl Jb acc).map kQ:=by
  intro ps
  induction ps with
  | nil=>intro acc; rfl
  | cons p ps G=>intro acc; rw [D5,F2,F2,Qq0,G]
 exact q ps []
theorem Q8i {H:Hp} {ρ:Tk}:∀ {ps:List PV} {ns:List (Int × Str)} {vs:List V},Q8j ps=zo ns->RepL H ρ ps vs->aR (λv k=>∃ b,v=.ref b/\KR H k b) vs (ns.map kQ)
 | [],_,_,e,r=>by cases e; cases r; exact .nil
 | .tup [.int x,.str y] :: ps,_,_,e,⟨v,t,G,I,q⟩=>by
  have e:(Q8j ps).map ((x,y) :: ·)=zo _:=e;cases z:Q8j ps with
  | none=>rw [z] at e; cases e
  | some l=>
   rw [z] at e;cases e;subst G;exact .cons (Vm (p:=.tup [.int x,.str y]) rfl I) (Q8i z q)
theorem Qtj {n:Int × Str} {b:aB} (h:KR H (kQ n) b):H b=zo (.tup [.int n.1,.str n.2]):=by
 obtain ⟨⟨c,vs,e,G,Y,Z,I,k1,J,O,q,k2,k3⟩,_⟩:=h;cases e;cases k1; cases k2; cases k3;subst q; subst I;exact G
theorem Qda {H:Hp}:∀ {bs:List aB} {ks:List HK},aR (λb k=>KR H k b) bs ks->∀ {ms:List (Int × Str)},ks=ms.map kQ->aR (λb (n:Int × Str)=>H b=zo (.tup [.int n.1,.str n.2])) bs ms
 | [],_,.nil,[],_=>.nil
 | _ :: _,_ :: _,.cons _ _,[],e=>by cases e
 | [],_,.nil,_ :: _,e=>by cases e
 | b :: bs,k :: ks,.cons h t,m :: ms,e=>by
  rw [D5] at e;injection e with q G
  exact .cons (Qtj (by rw [<- q]; exact h)) (Qda t G)
theorem Qmx {ks:List HK} {ns:List (Int × Str)} (p:ks.Perm (ns.map kQ)):∃ ms:List (Int × Str),ks=ms.map kQ/\ms.Perm ns:=by
 have h:∀ k∈ks,∃ n,k=kQ n:=λk O=>by
  obtain ⟨n,_,e⟩:=E5.mp (p.mem_iff.mp O);exact ⟨n,e.symm⟩
 have h2:∃ ms:List (Int × Str),ks=ms.map kQ:=by
  clear p
  induction ks with
  | nil=>exact ⟨[],rfl⟩
  | cons k ks G=>
   obtain ⟨ms,e⟩:=G λx J=>h x (O4 _ J)
   obtain ⟨n,I⟩:=h k (by simp);exact ⟨n :: ms,by rw [D5,<- e,I]⟩
 obtain ⟨ms,e⟩:=h2;refine ⟨ms,e,?_⟩;rw [e] at p;have q:∀ l:List (Int × Str),(l.map kQ).filterMap Qb3=l:=λl=>by
  induction l with
  | nil=>rfl
  | cons x l G=>rw [D5,cU]; show (x :: (l.map kQ).filterMap Qb3)=_; rw [G]
 have:=p.filterMap Qb3
 rwa [q,q] at this
def je (ma:ME):ME:=λΓ st=>(ma Γ st).bind λp st1=>match p with
 | .tup ps=>match Q8j ps with
  | some ns=>if ns.length < 64 then .ok (.lst ((Ur (Y9 ns)).map prV)) st1 else .stuck
  | none=>.stuck
 | _=>.stuck
theorem Q82 {p p' pos':Pos} (hu:X.A.units + 9 < aQ) (ha:SimE X E a ma) (hc:X.calm=zb) (hg:Gl X "sorted") (hm:X.mg "sorted" = zl) (a2:aX "sorted" = zo (.builtin "sorted")) (Z:Gl X "set") (a1:X.mg "set" = zl) (J:aX "set" = zo (.type "set")) (he:aN [a] X.env=(yo,aO a X.env) :: aN [] X.env:=by rfl)
  (I:aN [.Call (.Name "set" p') [a] [] pos'] X.env=(yo,aO (.Call (.Name "set" p') [a] [] pos') X.env) :: aN [] X.env:=by rfl):SimE X E (.Call (.Name "sorted" p) [.Call (.Name "set" p') [a] [] pos'] [] pos) (je ma):=
 ⟨λΓ σ H ρ st Q R G hq=>WE.of (yq (Q7d hc) hg hm a2 (Wj (Xq (Qfb hu hc) Z a1 J (Wj Jc Xa he) (by decide) (by decide) he rfl) Xa I) (by decide) (by decide) I rfl) (ha.use' R G hq.bind λq a4 H1 ρ1 v e1 x1 R1 G1 r1 h1=>by
  split at h1
  ·rename_i ps
   split at h1
   ·rename_i ns ek
    split at h1
    ·rename_i hl;obtain ⟨c,vs,rfl,a3,_,rc⟩:=r1;refine ⟨c,vs,ns.map kQ,rfl,SqT.of a3,Q8i ek rc,by rw [O0]; omega,λl bs a5 O pk pb=>?_⟩;rw [Qnf] at pk;obtain ⟨ms,rfl,pm⟩:=Qmx pk;have a6:=Uh ns;have lb:bs.length=ms.length:=by have:=Paired.length pb; rwa [O0] at this
     have Y:=Qda pb rfl;have up:∀ {b:aB} {xs:List V},H1 b=zo (.tup xs)->(upd H1 l (Q5m X.w l bs)) b=zo (.tup xs):=λ{b xs} J=>by rw [Qa (Qc J O)]; exact J
     refine ⟨l,bs,ms,rfl,Qw,by rw [lb,pm.length_eq]; omega,Paired.mapP Y λ_ _ z=>up z,λd ds hd pd=>?_⟩;rw [jx pm] at pd;have x2:Ext H1 ρ1 (upd H1 l (Q5m X.w l bs)) (ρ1.hide l):=Ext.hide O;have R2:Rel (upd H1 l (Q5m X.w l bs)) (ρ1.hide l) a4:=R1.hide O;have rl:=Q2r (Q1p R2) pd;exact h1 _ _ (x2.trans (Ext.add hd)) (R2.add hd) _ ⟨d,ds,rfl,Qw,R2.fresh hd,rl.ext (Ext.add hd)⟩
    ·exact h1.elim
   ·exact h1.elim
  ·exact h1.elim)⟩
variable {o:aH} {mo mi:ME}
section
variable {i:aH}
def Q9p (st:Q0) (p q:PV):Res PV:=match Zr st p,Xf q with
 | some kvs,zo k=>match Xj kvs k with
  | some v=>.ok v st
  | none=>.stuck
 | _,_=>.stuck
def Q0d (mo mi:ME):ME:=λΓ st=>(mo Γ st).bind λp st1=>(mi Γ st1).bind λq st2=>Q9p st2 p q
theorem Qgk (hu:X.A.units + 9 < aQ) (ho:SimE X E o mo) (hi:SimE X E i mi) (hs:Quj i):SimE X E (.Subscript o i pos) (Q0d mo mi):=
 ⟨λΓ σ H ρ st Q R G h=>WE.of (Qmy hu Jc Jc hs) (ho.use R G h.bind λp a7 H1 ρ1 v1 x1 R1 G1 r1 h1=>hi.use R1 G1 h1.bind λq a4 H2 a6 v2 x2 R2 G2 r2 h2=>by
  unfold Q9p at h2
  split at h2
  ·rename_i a5 k Z e2
   split at h2
   ·rename_i w I;obtain ⟨n,a,vs,rfl,rfl,_,_,hb,O⟩:=Yr R2 (r1.ext x2) Z;obtain ⟨b,rfl,Y⟩:=Vm e2 r2;rcases yn k O with ⟨J,_⟩ | ⟨p,v,J,a2,a3⟩
    ·rw [J] at I; cases I
    ·rw [J] at I;cases I;exact ⟨a,v,rfl,by have:=DGet.t (k:=k) hb Y; rwa [a2] at this,now R2 h2 a3⟩
   ·exact h2.elim
  ·exact h2.elim)⟩
def Qtc (ma:ME):ML:=λΓ st=>(ma Γ st).bind λp st1=>match U4 st1 p with
 | some xs=>if xs.length<=1000000 then .ok xs.reverse st1 else .stuck
 | none=>.stuck
theorem RepL.rev :∀ {xs:List PV} {vs:List V},RepL H ρ xs vs->RepL H ρ xs.reverse vs.reverse
 | [],_,r=>by cases r; exact RepL.nil
 | x :: xs,_,⟨v,t,e,G,q⟩=>by
  subst e;rw [dX,dX];exact (RepL.rev q).append (RepL.cons G RepL.nil)
theorem Q8c {H:Hp} {ρ:Tk}:∀ {xs:List PV} {vs:List V},RepL H ρ xs vs->xs.length=vs.length
 | [],_,r=>by cases r; rfl
 | x :: xs,_,⟨v,t,e,_,q⟩=>by subst e; rw [D3,D3,Q8c q]
theorem Qkt {p p' pos':Pos} (ha:SimE X E a ma) (hc:X.calm=zb) (hg:Gl X "list") (hm:X.mg "list" = zl) (J:Gl X "reversed") (O:X.mg "reversed" = zl) (Z:aX "reversed" = zo (.type "reversed"):=by rfl) (he:aN [a] X.env=(yo,aO a X.env) :: aN [] X.env:=by rfl) (hs:aN [a] X.env=[(yo,aO a X.env)]:=by rfl)
  (a1:aN [.Call (.Name "reversed" p') [a] [] pos'] X.env=[(yo,aO (.Call (.Name "reversed" p') [a] [] pos') X.env)]:=by rfl):SimN X E (.Call (.Name "list" p) [.Call (.Name "reversed" p') [a] [] pos'] [] pos) (Qtc ma):=
 ⟨λΓ σ H ρ st P Q R G hq k=>WE.of (Qan hc hg hm J O Xw Z (Wj Jc Xa he) hs a1) (ha.use' R G hq.bind λq I H1 ρ1 v e1 x1 R1 G1 r1 h1=>by
  split at h1
  ·rename_i xs ex
   split at h1
   ·rename_i hl;obtain ⟨b,vs,rfl,hb,rl⟩:=zx R1 r1 ex;refine ⟨b,vs,rfl,hb,by rw [<- Q8c rl]; exact hl,Q3c x1 R1 (RepL.rev rl) λH3 Y z us=>k _ I H3 Y z us ?_⟩;unfold Qtc;rw [e1];show (match U4 I q with | some xs=>if xs.length<=1000000 then Res.ok xs.reverse I else .stuck | none=>.stuck)=_;rw [ex];show (if xs.length<=1000000 then Res.ok xs.reverse I else .stuck)=_;rw [bT hl]
   ·exact h1.elim
  ·exact h1.elim)⟩
def Q1w (ma:ME):ML:=λΓ st=>(ma Γ st).bind λp st1=>match Zr st1 p with
 | some kvs=>.ok (kvs.map λkv=>hkV kv.1) st1
 | none=>.stuck
theorem Qg8 (ha:SimE X E a ma) (hc:X.calm=zb) (hg:Gl X "list") (hm:X.mg "list" = zl) (Z:aN [a] X.env=(yo,aO a X.env) :: aN [] X.env:=by rfl):SimN X E (.Call (.Name "list" p) [a] [] pos) (Q1w ma):=
 ⟨λΓ σ H ρ st P Q R G hq k=>WE.of (Xq (Q45 hc) hg hm Xw (Wj Jc Xa Z) (by decide) (by decide) Z rfl) (ha.use' R G hq.bind λq I H1 ρ1 v eq x1 O G1 r1 h1=>by
  split at h1
  ·rename_i J e;obtain ⟨n,a,vs,rfl,rfl,_,_,hb,rd⟩:=Yr O r1 e;refine ⟨a,vs,rfl,hb,λd us hd hu=>Q3c x1 O (Q0g (Q1p O) rd hu) (λH2 Y a us=>k _ I H2 Y a us ?_) d hd⟩;unfold Q1w;rw [eq];show (match Zr I _ with | some (J:List (HK × PV))=>Res.ok (J.map λ(kv:HK × PV)=>hkV kv.1) I | none=>.stuck)=_
   rw [e]
  ·exact h1.elim)⟩
def Q0v:CF:=λst ps=>match ps with
 | [.lst qs]=>match K3 qs with
  | some l=>if l.length<=lim then .ok (.ref st.length) (st ++ [.dtp (Vc [] l)]) else .stuck
  | none=>.stuck
 | _=>.stuck
theorem Qjj (O:X.A.units + 9 < aQ) (hc:X.calm=zb):CallS X E (.type "dict") Q0v:=⟨λH ρ st ps xs Q R I h=>by
 unfold Q0v at h
 split at h
 ·rename_i qs;obtain ⟨v,rfl,r⟩:=Zd I
  split at h
  ·rename_i l Y
   split at h
   ·rename_i J;obtain ⟨c,ws,rfl,q,_,Z⟩:=r;obtain ⟨zs,z1,G⟩:=zm Y Z;have ll:l.length=zs.length:=Paired.length G;refine WC.of (Qbq O hc) ⟨c,ws,zs,rfl,q,z1,by rw [<- ll]; exact Zy J,λd hd=>?_⟩;have x:Ext H ρ (upd H d (.dT (L2.putAll [] zs))) (ρ.add d):=Ext.addT hd;refine h _ _ x (R.addC hd ⟨_,Qw,(Kz (show RepD H ρ [] [] from ⟨rfl,RepL.nil⟩) G).ext x⟩) _ ⟨d,?_,rfl⟩;show (ρ.tr ++ [d])[st.length]?=zo d;rw [<- R.len,D4 (O5 _),L6]; rfl
   ·exact h.elim
  ·exact h.elim
 ·exact h.elim⟩
def Qi0:OP:=λst p q=>match Zr st q with
 | some _=>qe yo st p q
 | none=>oIn yo st p q
theorem Qsp (J:X.A.units + 64 < aQ):OpS X E (aS .In) Qi0:=⟨λH ρ st p q x y Q R G I h=>by
 unfold Qi0 at h
 split at h
 ·exact (Qht (by omega)).run H ρ st p q x y Q R G I h
 ·exact (Qqd J).run H ρ st p q x y Q R G I h⟩
end
def Qt1:OP:=λst p q=>match p,q with
 | .tup [.int a,.str x],.tup [.int b,.str y]=>.ok (.bl (Zh (a,x) (b,y))) st
 | _,_=>.stuck
theorem Qsm (hu:X.A.units + 64 < aQ):OpS X E (aS .Lt) Qt1:=⟨λH ρ st p q x y Q R Z rq h=>by
 unfold Qt1 at h
 split at h
 ·rename_i a s b t;obtain ⟨c,vs,rfl,hc,_,w1,q1,e1,s1,w2,q2,e2,s2,s3⟩:=Z;cases s3;subst e2; subst e1;cases s1; cases s2;obtain ⟨d,us,rfl,hd,_,a4,a1,Y,O,a3,a2,G,I,J⟩:=rq;cases J;subst G; subst Y;cases O; cases I;exact WO.of (Qsx (by omega)) ⟨c,d,(a,s),(b,t),rfl,rfl,hc,hd,now R h rfl⟩
 ·exact h.elim⟩
def tgN:aH->List Str
 | .Name x _=>[x]
 | .Tuple es _ _=>es.flatMap λe=>match e with
  | .Name x _=>[x]
  | _=>[]
 | _=>[]
def Q19 (N:List Str) (tg:aH) (cap:zAC):List Str:=tgN tg ++ cap.filterMap λo=>o.bind (N[·]?)
theorem Qwt {l:List Str} (h:decide l.Nodup=zb):l.Nodup:=of_decide_eq_true h
structure KR (b:Bool):Prop where
 h:b=zb
variable {tg iter elt:aH} {ifs:List aH} {sc:Scope} {ga:GA} {mt:MT} {me:ME} {x:Str} {px cpos:Pos}
section
variable {mi:MI} {cap:zAC} {i:Nat}
theorem Qg9 (q:X.calm=zb) (I:KR (compOkC X.N (Q19 X.N tg cap) sc X.env.scope cap)) (hs:∀ x,bG iter X.env x=pure x) (G:Q1c cap ga) (hi:SimI X E tg iter mi) (J:∀ cl C s0 H0 ex,SimG (Zz X (Q19 X.N tg cap) sc cl C s0 H0 ex) tg ga) (O:∀ cl C s0 H0 ex,SimE (Zz X (Q19 X.N tg cap) sc cl C s0 H0 ex) E0 elt me) (Y:∀ cl C s0 H0 ex,SimTs (Zz X (Q19 X.N tg cap) sc cl C s0 H0 ex) ifs mt):SimN X E (.ListComp elt [⟨tg,iter,ifs,0⟩] sc pos) (Qs cap ga mi mt me):=
 Q1r cap _ q hi J O Y G rfl rfl I.h hs
theorem Qds (J:swapsWith (.ListComp elt [⟨tg,iter,ifs,0⟩] sc cpos) (zo (.Name x px)) pos.line X.env=pure zb) (O:X.N.Nodup) (q:X.calm=zb) (G:X.N[i]?=zo x) (Z:Loc X.env.scope x) (hc:KR (compOkC X.N (Q19 X.N tg cap) sc X.env.scope cap)) (hs:∀ x,bG iter X.env x=pure x) (I:X.fn x=zb\/X.env.scope.names.lookup x=zo .local) (Y:Q1c cap ga) (hi:SimI X E tg iter mi) (hg:∀ cl C s0 H0 ex,SimG (Zz X (Q19 X.N tg cap) sc cl C s0 H0 ex) tg ga) (he:∀ cl C s0 H0 ex,SimE (Zz X (Q19 X.N tg cap) sc cl C s0 H0 ex) E0 elt me) (ht:∀ cl C s0 H0 ex,SimTs (Zz X (Q19 X.N tg cap) sc cl C s0 H0 ex) ifs mt):SimS X E (.Assign [.Name x px] (.ListComp elt [⟨tg,iter,ifs,0⟩] sc cpos) pos) (Qx i (Zx (Qs cap ga mi mt me))):=
 Q2f cap _ i O q hi hg he ht Y G Z J rfl rfl hc.h hs I
end
structure AtS (K:bX) (mg:zAE) (name:Str) (st:aM) (ps:List Str) (f:aB) (fd:aP):Prop where
 F:Fun K name name st f fd
 m:mg name=zo (.ref f)
 b:Binds K fd ps []
theorem Que {name:Str} {st:aM} {ps:List Str} {f:aB} {oc:aA} {Z J:Option aB} {Y:Array (Option aA)} {kV I O q ct:aA} (X:K.In h) (G:h.Ns aV mg)
  (a:bg K aV name=zo (zo (.ref f))) (l:K.lookup f=zo ⟨oc,Z,.func (br name name (Yk st) (Z0 st) (Q6 st) .none kV I O J q ct),Y⟩) (c:cp K q name=zb) (k:cV K (.ref f)=zb)
  (b:∀ (kV I O:aA) (J:Option aB) (q ct:aA) (us:List aA),us.length=ps.length->bindArgs (br name name (Yk st) (Z0 st) (Q6 st) .none kV I O J q ct) ⟨us,[]⟩=pure (ps.zip us)) :
  AtS K mg name st ps f (br name name (Yk st) (Z0 st) (Q6 st) .none kV I O J q ct):=
 have F:=Qj7 (st:=st) l c k
 ⟨F,bw X G a,F.binds b⟩
theorem AtS.def {w:aJ} {base:Heap} {name:Str} {n:Nat} (a:AtS K mg name st ps f fd) (q:ps.length=n) (G:FnOk P w K mg base (CXD P w) k f fd ps (spF mg n F)):DefS P w K mg base k name n F:=
 ⟨f,fd,ps,G,a.m,a.F.kp,a.b,q⟩
def FL (K:bX) (x ql:Str) (s:aM) (f:aB):Prop:=∃ (oc:aA) (od:Option aB) (kV dc pm:aA) (an:Option aB) (cd ct:aA) (sl:Array (Option aA)),K.lookup f=zo ⟨oc,od,.func (br x ql (Yk s) (Z0 s) (Q6 s) .none kV dc pm an cd ct),sl⟩/\cp K cd ql=zb/\cV K (.ref f)=zb
theorem FL.fn {q:Str} (h:FL K x q s f):∃ fd,Fun K x q s f fd:=let ⟨_,_,_,_,_,_,_,_,_,l,c,k⟩:=h; ⟨_,Qj7 l c k⟩
def FA (K:bX) (x:Str) (s:aM) (f:aB):Prop:=bg K aV x=zo (zo (.ref f))/\FL K x x s f
theorem FA.mk {G q:Option aB} {I:Array (Option aA)} {kV J O cd ct:aA} (a:bg K aV x=zo (zo (.ref f))) (l:K.lookup f=zo ⟨oc,G,.func (br x x (Yk s) (Z0 s) (Q6 s) .none kV J O q cd ct),I⟩) (c:cp K cd x=zb) (k:cV K (.ref f)=zb):FA K x s f:=⟨a,_,_,_,_,_,_,_,_,_,l,c,k⟩
theorem ln1 {l:List α} (h:l.length=1):∃ a,l=[a]:=match l,h with | [_],_=>⟨_,rfl⟩
theorem ln2 {l:List α} (h:l.length=2):∃ a b,l=[a,b]:=match l,h with | [_,_],_=>⟨_,_,rfl⟩
theorem ln3 {l:List α} (h:l.length=3):∃ a b c,l=[a,b,c]:=match l,h with | [_,_,_],_=>⟨_,_,_,rfl⟩
theorem ln4 {l:List α} (h:l.length=4):∃ a b c d,l=[a,b,c,d]:=match l,h with | [_,_,_,_],_=>⟨_,_,_,_,rfl⟩
theorem ln5 {l:List α} (h:l.length=5):∃ a b c d e,l=[a,b,c,d,e]:=match l,h with | [_,_,_,_,_],_=>⟨_,_,_,_,_,rfl⟩
theorem ln6 {l:List α} (h:l.length=6):∃ a b c d e f,l=[a,b,c,d,e,f]:=match l,h with | [_,_,_,_,_,_],_=>⟨_,_,_,_,_,_,rfl⟩
theorem ln7 {l:List α} (h:l.length=7):∃ a b c d e f g,l=[a,b,c,d,e,f,g]:=match l,h with | [_,_,_,_,_,_,_],_=>⟨_,_,_,_,_,_,_,rfl⟩
theorem FL.bd {q:Str} {ps:List Str} (h:FL K x q s f)
  (b:∀ (kV I O:aA) (J:Option aB) (G ct:aA) (us:List aA),us.length=ps.length->bindArgs (br x q (Yk s) (Z0 s) (Q6 s) .none kV I O J G ct) ⟨us,[]⟩=pure (ps.zip us)):∃ fd,Fun K x q s f fd/\Binds K fd ps []:=
 let ⟨_,F⟩:=h.fn
 ⟨_,F,F.binds b⟩
theorem Zm {name:Str} (ps:List Str) (X:K.In h) (G:h.Ns aV mg) (a:FA K name st f)
  (b:∀ (kV J Y:aA) (O:Option aB) (I ct:aA) (us:List aA),us.length=ps.length->bindArgs (br name name (Yk st) (Z0 st) (Q6 st) .none kV J Y O I ct) ⟨us,[]⟩=pure (ps.zip us):=by
   intro _ _ _ _ _ _ us q
   first | (obtain ⟨_,rfl⟩:=ln1 q; rfl) | (obtain ⟨_,_,rfl⟩:=ln2 q; rfl) | (obtain ⟨_,_,_,rfl⟩:=ln3 q; rfl) | (obtain ⟨_,_,_,_,rfl⟩:=ln4 q; rfl) | (obtain ⟨_,_,_,_,_,rfl⟩:=ln5 q; rfl) | (obtain ⟨_,_,_,_,_,_,rfl⟩:=ln6 q; rfl) | (obtain ⟨_,_,_,_,_,_,_,rfl⟩:=ln7 q; rfl)):∃ fd,AtS K mg name st ps f fd:=
 let ⟨a,l⟩:=a
 let ⟨_,F,B⟩:=l.bd b
 ⟨_,F,bw X G a,B⟩
theorem AtS.d {name:Str} {n:Nat} (a:AtS K mg name st ps f fd) (P:aK) (w:aJ) (base:Heap) (q:ps.length=n) (G:FnOk P w K mg base (CXD P w) k f fd ps (spF mg n F)):DefS P w K mg base k name n F:=a.def q G
def noL (K:bX):Bool:=K.all λp=>match p.2.data with
 | .seq _ _=>(match p.2.cls with
  | .type n=>!(n == ("list" : Str))
  | _=>zb)
 | _=>zb
theorem Qb0 {a:aB} {o:Obj} (h:K.lookup a=zo o):(a,o)∈K:=by
 induction K with
 | nil=>cases h
 | cons p K q=>
  obtain ⟨b,u⟩:=p;rw [cJ] at h;cases e:a == b with
  | true=>
   rw [e] at h;have:a=b:=by simpa using e
   subst this;cases h;exact F4
  | false=>
   rw [e] at h;exact O4 _ (q h)
theorem Qt3 {a:aB} {o:Obj} {its:Array aA} {n:Nat} (G:noL K=zb) (h:K.lookup a=zo o) (q:o.cls=.type "list") (hd:o.data=.seq its n):False:=by
 have:=E8.mp G _ (Qb0 h);simp [q,hd] at this
theorem Q57 {H:Hp} {ρ:Tk}:∀ ns:List Int,RepL H ρ (ns.map .int) (ns.map V.int)
 | []=>rfl
 | n :: ns=>⟨_,_,rfl,rfl,Q57 ns⟩
theorem Qm8 (H:Hp):Rel H Tk.nil []:=⟨rfl,cQ,λa h=>(by cases h),λa h=>(by cases h),λi a c h=>(by simp [Tk.nil] at h)⟩
def Q66 (K:bX):Sp:=λvs H Q _=>∃ (a:aB) (ns:List Int),vs=[.ref a]/\SqL K H a (ns.map V.int)/\ns.length<=63/\∀ H',Q (.bl zb) H'
theorem Qny {w:aJ} {base:Heap} {CX:CXT} {FL:FN} (O:noL K=zb) (F:FnOk P w K mg base CX k f fd ps (spF mg 1 FL)) (q:∀ ns:List Int,ns.length<=63->∃ st',FL [.fro (ns.map .int)] []=.ok (.bl zb) st'):FnOk P w K mg base CX k f fd ps (Q66 K):=F.imp λvs H Q E ⟨a,ns,e,Z,G,I⟩=>by
 subst e;obtain ⟨st',Y⟩:=q ns G;have J:Rd H a (.lst (ns.map V.int)):=by
  rcases Z with h | ⟨o,its,n,h1,h2,h3,h4,_⟩
  ·exact h
  ·exact (Qt3 O h1 h2 h4).elim
 refine ⟨rfl,Tk.nil,[],[.fro (ns.map .int)],Qm8 H,⟨_,_,rfl,⟨a,_,rfl,J,Tk.not_nil a,Q57 ns⟩,rfl⟩,?_⟩;rw [Y];intro H' ρ' x R v r;have e:v=.bl zb:=r;subst e;exact I H'
theorem Qjh {w:aJ} {s:aC} {e:aA} {s':aC} (h:CXD P w [] H s (λ_ _ _=>False) e s'):False:=by
 obtain ⟨_,_,_,_,_,_,_,_,_,z⟩:=h;exact z
theorem walkS {l:fJ} {q:aK} {G:List Str} {XP:(Str->Option aA)->Heap->Prop} {J:aJ->Heap->Prop} {d:DefRec} {K:Params->bX} (Z:l.most=zo 63) (hr:Room k callerA) (I:d.params.defaults=[])
  (hY:∀ (w:aJ) (h:Heap),J w h->(K w.params).In h)
  (F:∀ (w:aJ) (mg:zAE) (O:aB) (h:Heap),(K w.params).In h->h.Ns aV mg->mg d.name=zo (.ref O) ->
   ∃ fd:aP,(∀ (s:aC) (u:aA),BindsTo s fd ⟨[u],[]⟩ [("script",u)])/\∀ base:Heap,(K w.params).In base->base.Ns aV mg->FnOk l.prog w (K w.params) mg base (CXD l.prog w) k O fd ["script"] (Q66 (K w.params))) :
  gO q G XP J l.row.toRowW d [] (λf vs=>fH f vs):=
 L2.walk_of (n:=63) (k:=k) (x := "script") (CX:=λw=>CXD l.prog w) (sp:=λw=>Q66 (K w.params)) Z (by decide) I hr hY F (λ_ _ a ns Y _ hS=>⟨a,ns,rfl,hS,Y,λ_=>rfl⟩) λ_ _ _ _ _ z=>Qjh z
end Sm
namespace Lw
open PySem PySem.Spec L2 Sm
variable {f:aB} {fd:aP} {b:Bool} {n L nl k D h N R:Nat} {S st S1 S2 S3 A:Q0} {ns:List Int} {c mt:MT} {x v p:PV} {Γ:Gam} {m me mo:ME} {mr:ML} {ps xs:List PV} {o:OP} {a:Int} {ga:GA} {mi:MI} {ss ws:List Str} {α:Type} {cs:List Nat} {ks:List HK} {ls ms:List (Int × Str)}
def top (i:Nat):aM:=PySem.Challenge.pw_lendwharf_k63_whole_breaks_or_keeps.main.body.getD i (.Pass ⟨0,0,0,0⟩)
abbrev zi:aM:=top 6
abbrev K0:aM:=top 7
abbrev Ku:aM:=top 8
abbrev V1:aM:=top 9
abbrev xz:aM:=top 10
abbrev Kw:aM:=top 18
abbrev Zv:aM:=top 19
abbrev Q00:aM:=top 20
abbrev Ky:aM:=top 21
abbrev K1:aM:=top 22
abbrev Kv:aM:=top 23
abbrev X2:aM:=top 24
abbrev Kx:aM:=top 25
abbrev X3:aM:=top 26
abbrev W1:aM:=top 27
abbrev Ub:aM:=top 28
abbrev Q2m:aM:=top 31
abbrev Vw:aM:=top 32
abbrev V2:aM:=top 33
abbrev Q2k:aM:=top 34
abbrev Q6a:aM:=top 35
abbrev X1:aM:=top 36
abbrev zj:aM:=top 37
abbrev X4:aM:=top 38
abbrev Uc:aM:=top 39
abbrev Q6b:aM:=top 40
abbrev V3:aM:=top 42
abbrev Ue:aM:=top 43
abbrev X8:aM:=top 44
abbrev Y7:aM:=top 45
abbrev X7:aM:=top 46
abbrev Vx:aM:=top 47
abbrev X9:aM:=top 48
abbrev X6:aM:=top 49
abbrev Wg:aM:=top 50
abbrev X5:aM:=top 51
abbrev Vy:aM:=top 52
abbrev Ud:aM:=top 53
abbrev W2:aM:=top 54
abbrev yk:aM:=top 55
structure Txt (K:bX) (mg:zAE):Prop where
 b_all:mg "all" = zl
 b_bool:mg "bool" = zl
 b_dict:mg "dict" = zl
 b_enumerate:mg "enumerate" = zl
 b_int:mg "int" = zl
 b_isinstance:mg "isinstance" = zl
 b_len:mg "len" = zl
 b_list:mg "list" = zl
 b_range:mg "range" = zl
 b_reversed:mg "reversed" = zl
 b_set:mg "set" = zl
 b_sorted:mg "sorted" = zl
 b_str:mg "str" = zl
 b_tuple:mg "tuple" = zl
 b_zip:mg "zip" = zl
 c_MOST_SIGNS_OF_WORD:∃ t,mg "MOST_SIGNS_OF_WORD" = zo (.int 8 t)
 c_MOST_STOCK:∃ t,mg "MOST_STOCK" = zo (.int 20 t)
 c_MOST_STARTS:∃ t,mg "MOST_STARTS" = zo (.int 4 t)
 c_MOST_RULES:∃ t,mg "MOST_RULES" = zo (.int 60 t)
 c_MOST_USE_AT_ONCE:∃ t,mg "MOST_USE_AT_ONCE" = zo (.int 9 t)
 c_MOST_LETTERS_OF_RULE:∃ t,mg "MOST_LETTERS_OF_RULE" = zo (.int 8 t)
 c_MOST_STANDS:∃ t,mg "MOST_STANDS" = zo (.int 2000 t)
 u_EVENTS_WITHOUT_LETTER:TupG K mg "EVENTS_WITHOUT_LETTER" ["go", "fall"]
local macro_rules|`(tactic|fail "m")=>do let a:=(("Js Qf Ji Jx Ut Qaf Vb Qgj Qg1 Qvn Qr5 Wf Qf1 Ua Qjb Qja Qrq Qrp Qe0 Qq4 Qgm Qrn Qgk Qdz Q83 Qm3 Qrm Qrk Qrj Qm2 Qae Qgi Qri Qrh Qdy Qrg Qvm Qgh Q82 Qrf Qre".splitOn " ").map λn=>Lean.mkIdent (.mkSimple n)).toArray;`(tactic|with_reducible first $[|apply $a]* | apply zh | apply Qrd | apply Q69 | apply Qgc | apply Kr | apply Qca | apply Qkw | apply V0 | apply Qrc | apply Qrb | apply Qra | apply Qr9 | apply Qku | apply Qg8 | apply Qkt | apply Qr8 | apply Qks | apply Qkr | apply Qg5 | apply Qr7 | apply Qg4 | apply Q7w | apply Qkm | apply Qg3 | apply Qvk | apply Qg2 | apply Qr6 | apply Qg0 | apply Qfz | apply Qr4 | apply Qr3 | apply j9 | apply Qki | apply Qr2 | apply Qkg | apply Qvi | apply Qr1 | refine Xp (T := "dict") (o:=Q0v) ?_ ?_ ?_ ?_ ?_ ?_ ?_ ?_ ?_ | refine Xp (T := "list") (o:=Q47) ?_ ?_ ?_ ?_ ?_ ?_ ?_ ?_ ?_ | refine Xp (T := "tuple") (o:=W8) ?_ ?_ ?_ ?_ ?_ ?_ ?_ ?_ ?_ | apply Qgn | apply Qg9 | apply SimW.t)
local macro_rules|`(tactic|fail "o")=>do let a:=(("Qu6 Qjj Qu5 Qph Q9s Qji Q42 Qtu Qsq Qn4 Qwe Qwd Qwc Qqd Qsp Qht Qwb Qhs Qwa Qsn Qw9 Qsm Qsk Qsj Qw8 Qhr Qec Qsi Qsh".splitOn " ").map λn=>Lean.mkIdent (.mkSimple n)).toArray;`(tactic|first | (with_reducible first $[|apply $a]*))
local macro_rules | `(tactic| fail "r")=>`(tactic| first | rfl | assumption | decide | exact .inl rfl | exact .inr rfl | exact .inr (.inl rfl) | exact .inr (.inr rfl) | exact λ_=>rfl | exact λ_ _=>rfl | exact λ_ _ _=>rfl | exact ⟨by kernel_rfl⟩ | exact Qav _ | exact Room.mono ‹_› (by decide) | exact qb | exact jc | exact PassesOwn.leaving | exact FnScope.nd ‹_› | exact Qwt (by kernel_rfl) | exact Qce ‹_› | exact Room.units ‹_› | exact Qgz | with_unfolding_all rfl)
local macro_rules | `(tactic| fail "s")=>`(tactic| first | (with_reducible first | exact iY | exact Qk0 | exact Qfe | exact Qfd | exact Qjz | exact Xw | exact Qjy | exact Qa0 | exact Qjx | exact yd) | rfl | (fail "m" <;> fail "s") | (fail "o" <;> fail "r") | ((first | apply Qds | apply ss_compTA | apply xx) <;> fail "s") | fail "r" | (intro _ _ _ _ _; fail "s"))
local macro_rules | `(tactic| fail "k")=>`(tactic| (refine Qp8 ‹_› ‹_› rfl rfl rfl ?_; fail "j"))
local macro_rules | `(tactic| fail "K")=>`(tactic| (refine Q9f ‹_› ‹_› rfl rfl rfl ?_; fail "j"))
local macro_rules | `(tactic| fail "j")=>`(tactic| (intros; rcases ‹Txt _ _› with ⟨_,_,_,_,_,_,_,_,_,_,_,_,_,_,_,⟨_,_⟩,⟨_,_⟩,⟨_,_⟩,⟨_,_⟩,⟨_,_⟩,⟨_,_⟩,⟨_,_⟩,_⟩; show SimB _ _ (_ :: _) _; fail "s"))
local macro_rules | `(tactic| fail "c")=>`(tactic| exact ⟨rfl,rfl,rfl,by decide +kernel,rfl,by decide +kernel,by decide +kernel⟩)
variable {P:aK} {K:bX} {mg:zAE} {base:Heap}
section
variable {w:aJ}
def zr:MS:=(Qq (Xr (Vk "int" (Q2 0)) (Qta (Vk "bool" (Q2 0)))))
def Yc:FN:=J0 zr 1
theorem Q8n (F:Fun K "is_whole" "is_whole" zi f fd) (T:Txt K mg)   : FnOk P w K mg base (CXD P w) 1 f fd ["thing"] (spF mg 1 Yc):=by
 have:FnScope ["thing"] ["thing"] (Q6 zi):=by fail "c"
 delta Yc zr
 fail "k"
def K9:MS:=(Qq (Xr (Q8 1 Yc (Q1 (Q2 0) Q4)) (W5 (oI λa b=>.bl (decide (a<=b))) (oI λa b=>.bl (decide (a<=b))) (Q2 1) (Q2 0) (Q2 2))))
def J4:FN:=J0 K9 3
theorem Q4n (F:Fun K "is_between" "is_between" K0 f fd) (T:Txt K mg)  (q:DefS P w K mg base 1 "is_whole" 1 Yc):FnOk P w K mg base (CXD P w) 2 f fd ["thing", "least", "most"] (spF mg 3 J4):=by
 have:FnScope ["thing", "least", "most"] ["thing", "least", "most"] (Q6 K0):=by fail "c"
 delta J4 K9
 fail "k"
def Xg:ME:=(mOp Qt1 (Q2 0) (Q2 1))
def qg:MS:=(Qq (Qi (Uk λns=>.bl (ns.all id)) (Q1 (Zx (Qs [zl,zl] (Q13 (W6 (Qb 0) (W6 (Qb 1) Q14))) (Qni (Q1 (Q2 0) (Q1 (mSl (Q2 0) (qp (mC (.int 1))) U7) Q4))) Ja Xg)) Q4)))
def Wd:FN:=J0 qg 1
theorem Q6n (F:Fun K "is_rising" "is_rising" Ku f fd) (T:Txt K mg)   : FnOk P w K mg base (CXD P w) 1 f fd ["things"] (spF mg 1 Wd):=by
 have:FnScope ["things"] ["things"] (Q6 Ku):=by fail "c"
 delta Wd qg Xg
 fail "k"
def Yi:MS:=(Qq (Xr (Vk "tuple" (Q2 0)) (W5 (oI λa b=>.bl (decide (a<=b))) (oI λa b=>.bl (decide (a<=b))) (Q2 1) (Qi Je (Q1 (Q2 0) Q4)) (Q2 2))))
def Qg:FN:=J0 Yi 3
theorem yr (F:Fun K "is_sized_tuple" "is_sized_tuple" V1 f fd) (T:Txt K mg)   : FnOk P w K mg base (CXD P w) 1 f fd ["thing", "least", "most"] (spF mg 3 Qg):=by
 have:FnScope ["thing", "least", "most"] ["thing", "least", "most"] (Q6 V1):=by fail "c"
 delta Qg Yi
 fail "k"
def Ux:ME:=(W5 Qek Qek (mC (.str "a")) (Q2 0) (mC (.str "z")))
def Q0a : MS := (Q9 (Jd (Yg (J9 (toB (Vk "str" (Q2 0)))) (J9 (toB (W5 (oI λa b => .bl (decide (a <= b))) (oI λa b => .bl (decide (a <= b))) (mC (.int 1)) (Qi Je (Q1 (Q2 0) Q4)) (mC (.int 8)))))) (Qq (mC (.bl yo))) Qr)
  (Qq (Qi (Uk λns=>.bl (ns.all id)) (Q1 (Zx (Qs [zl] (Qb 0) (Qcq (Q2 0)) Ja Ux)) Q4))))
def Zf:FN:=J0 Q0a 1
theorem Qar (F:Fun K "is_word" "is_word" xz f fd) (T:Txt K mg)   : FnOk P w K mg base (CXD P w) 1 f fd ["thing"] (spF mg 1 Zf):=by
 have:FnScope ["thing"] ["thing"] (Q6 xz):=by fail "c"
 delta Zf Q0a Ux
 fail "k"
def qi : MS := (Q9 (Jd (Yg (J9 (toB (Q8 3 Qg (Q1 (Q2 1) (Q1 (mC (.int 2)) (Q1 (mC (.int 2)) Q4)))))) (J9 (toB (Q8 3 J4 (Q1 (mOp oIx (Q2 1) (mC (.int 0))) (Q1 (mC (.int 0)) (Q1 (mOp (oI λa b => .int (a - b)) (Q2 0) (mC (.int 1))) Q4))))))) (Qq (mC (.bl yo))) Qr)
  (Qq (Xr (Q8 1 Zf (Q1 (mOp oIx (Q2 1) (mC (.int 1))) Q4)) (Q90 zb ["go", "fall"] (mOp oIx (Q2 1) (mC (.int 1)))))))
def Yd:FN:=J0 qi 2
theorem Q6q (F:Fun K "is_letter" "is_letter" Kw f fd) (T:Txt K mg)  (q:DefS P w K mg base 1 "is_sized_tuple" 3 Qg) (G:DefS P w K mg base 2 "is_between" 3 J4) (I:DefS P w K mg base 1 "is_word" 1 Zf):FnOk P w K mg base (CXD P w) 3 f fd ["n", "thing"] (spF mg 2 Yd):=by
 have:FnScope ["n", "thing"] ["n", "thing"] (Q6 Kw):=by fail "c"
 delta Yd qi
 fail "k"
def Wb:ME:=(Q8 2 Yd (Q1 (Q2 1) (Q1 (Q2 0) Q4)))
def Zw:MS:=(Qq (Xr (Q8 3 Qg (Q1 (Q2 1) (Q1 (mC (.int 0)) (Q1 (mC (.int 8)) Q4)))) (Qi (Uk λns=>.bl (ns.all id)) (Q1 (Zx (Qs [zl,zo 0] (Qb 0) (Y4 (Q2 1)) Ja Wb)) Q4))))
def Jf:FN:=J0 Zw 2
theorem K5 (F:Fun K "are_letters_of_rule" "are_letters_of_rule" Zv f fd) (T:Txt K mg)  (q:DefS P w K mg base 1 "is_sized_tuple" 3 Qg) (G:DefS P w K mg base 3 "is_letter" 2 Yd):FnOk P w K mg base (CXD P w) 4 f fd ["n", "thing"] (spF mg 2 Jf):=by
 have:FnScope ["n", "thing"] ["n", "thing"] (Q6 Zv):=by fail "c"
 delta Jf Zw Wb
 fail "k"
def Q16:ME:=(Q8 1 Zf (Q1 (Q2 0) Q4))
def Q0b : MS := (Q9 (Jd (Yg (J9 (toB (Q8 3 Qg (Q1 (Q2 1) (Q1 (mC (.int 6)) (Q1 (mC (.int 6)) Q4)))))) (J9 (toB (Q8 3 J4 (Q1 (mOp oIx (Q2 1) (mC (.int 0))) (Q1 (mC (.int 0)) (Q1 (mOp (oI λa b => .int (a - b)) (Q2 0) (mC (.int 1))) Q4))))))) (Qq (mC (.bl yo))) Qr)
  (Q9 (Jd (J9 (toB (Qi (Uk λns=>.bl (ns.all id)) (Q1 (Zx (Qs [zl] (Qb 0) (Y4 (mSl (Q2 1) (qp (mC (.int 1))) (qp (mC (.int 4))))) Ja Q16)) Q4)))) (Qq (mC (.bl yo))) Qr)
  (Qq (Xr (Q8 3 J4 (Q1 (mOp oIx (Q2 1) (mC (.int 4))) (Q1 (mC (.int 0)) (Q1 (mC (.int 9)) Q4)))) (Q8 2 Jf (Q1 (Q2 0) (Q1 (mOp oIx (Q2 1) (mC (.int 5))) Q4)))))))
def Xy:FN:=J0 Q0b 2
theorem Qas (F:Fun K "is_rule" "is_rule" Q00 f fd) (T:Txt K mg)  (G:DefS P w K mg base 1 "is_sized_tuple" 3 Qg) (I:DefS P w K mg base 2 "is_between" 3 J4) (J:DefS P w K mg base 1 "is_word" 1 Zf) (q:DefS P w K mg base 4 "are_letters_of_rule" 2 Jf):FnOk P w K mg base (CXD P w) 5 f fd ["n", "thing"] (spF mg 2 Xy):=by
 have:FnScope ["n", "thing"] ["n", "thing"] (Q6 Q00):=by fail "c"
 delta Xy Q0b Q16
 fail "k"
def zc:ME:=(Q8 2 Xy (Q1 (Q2 1) (Q1 (Q2 0) Q4)))
def qk : MS := (Q9 (Jd (Yg (J9 (toB (Q8 3 Qg (Q1 (Q2 1) (Q1 (mC (.int 0)) (Q1 (mC (.int 60)) Q4)))))) (J9 (toB (Qi (Uk λns => .bl (ns.all id)) (Q1 (Zx (Qs [zl, zo 0] (Qb 0) (Y4 (Q2 1)) Ja zc)) Q4))))) (Qq (mC (.bl yo))) Qr)
  (Qq (mOp oEq (xb (Q2 1)) (Qi Je (Q1 (Q2 1) Q4)))))
def Vt:FN:=J0 qk 2
theorem Q6s (F:Fun K "are_rules" "are_rules" Ky f fd) (T:Txt K mg)  (q:DefS P w K mg base 1 "is_sized_tuple" 3 Qg) (G:DefS P w K mg base 5 "is_rule" 2 Xy):FnOk P w K mg base (CXD P w) 6 f fd ["n", "thing"] (spF mg 2 Vt):=by
 have:FnScope ["n", "thing"] ["n", "thing"] (Q6 Ky):=by fail "c"
 delta Vt qk zc
 fail "k"
def qx:ME:=(Q8 1 Zf (Q1 (Q2 0) Q4))
def Ka:MS:=(Qq (Xr (Q8 3 Qg (Q1 (Q2 0) (Q1 (mC (.int 1)) (Q1 (mC (.int 4)) Q4)))) (Qi (Uk λns=>.bl (ns.all id)) (Q1 (Zx (Qs [zl] (Qb 0) (Y4 (Q2 0)) Ja qx)) Q4))))
def Wx:FN:=J0 Ka 1
theorem Q4p (F:Fun K "are_starts" "are_starts" K1 f fd) (T:Txt K mg)  (q:DefS P w K mg base 1 "is_sized_tuple" 3 Qg) (G:DefS P w K mg base 1 "is_word" 1 Zf):FnOk P w K mg base (CXD P w) 2 f fd ["thing"] (spF mg 1 Wx):=by
 have:FnScope ["thing"] ["thing"] (Q6 K1):=by fail "c"
 delta Wx Ka qx
 fail "k"
def qh : MS := (Q9 (Jd (Yg (J9 (toB (Q8 3 Qg (Q1 (Q2 0) (Q1 (mC (.int 3)) (Q1 (mC (.int 3)) Q4)))))) (J9 (toB (Q8 3 J4 (Q1 (mOp oIx (Q2 0) (mC (.int 0))) (Q1 (mC (.int 0)) (Q1 (mC (.int 20)) Q4))))))) (Qq (mC (.bl yo))) Qr)
  (Qq (Xr (Q8 1 Wx (Q1 (mOp oIx (Q2 0) (mC (.int 1))) Q4)) (Q8 2 Vt (Q1 (Qi Je (Q1 (mOp oIx (Q2 0) (mC (.int 1))) Q4)) (Q1 (mOp oIx (Q2 0) (mC (.int 2))) Q4))))))
def Vs:FN:=J0 qh 1
theorem Q6p (F:Fun K "is_manner" "is_manner" Kv f fd) (T:Txt K mg)  (q:DefS P w K mg base 1 "is_sized_tuple" 3 Qg) (G:DefS P w K mg base 2 "is_between" 3 J4) (I:DefS P w K mg base 2 "are_starts" 1 Wx) (J:DefS P w K mg base 6 "are_rules" 2 Vt):FnOk P w K mg base (CXD P w) 7 f fd ["thing"] (spF mg 1 Vs):=by
 have:FnScope ["thing"] ["thing"] (Q6 Kv):=by fail "c"
 delta Vs qh
 fail "k"
def Ve:MS:=(Jd (J9 (toB (Q8 1 Vs (Q1 (Q2 0) Q4)))) (Q6v "NoManner" (mC (.str "this is no manner"))) Qr)
def J8:FN:=J0 Ve 1
theorem Q32 (F:Fun K "need_manner" "need_manner" X2 f fd) (T:Txt K mg) (q:∃ C,mg "NoManner" = zo (.ref C)/\cK K C Qa1 "ValueError.__new__" = zb) (G:DefS P w K mg base 7 "is_manner" 1 Vs):FnOk P w K mg base (CXD P w) 8 f fd ["manner"] (spF mg 1 J8):=by
 obtain ⟨_,_,_⟩:=q;have:FnScope ["manner"] ["manner"] (Q6 X2):=by fail "c"
 delta J8 Ve
 fail "k"
def qj:MS:=(Qq (Ym (Q1 (mOp oIx (Q2 0) (mC (.int 1))) (Q1 (Ym Q4) (Q1 (mC (.int 0)) Q4)))))
def J6:FN:=J0 qj 1
theorem Q6r (F:Fun K "beginning" "beginning" Kx f fd) (T:Txt K mg)   : FnOk P w K mg base (CXD P w) 1 f fd ["manner"] (spF mg 1 J6):=by
 have:FnScope ["manner"] ["manner"] (Q6 Kx):=by fail "c"
 delta J6 qj
 fail "k"
def Zs : MS := (Q9 (Jd (toB (mOp oNe (mOp oIx (mOp oIx (Q2 1) (mC (.int 0))) (mOp oIx (Q2 0) (mC (.int 0)))) (mOp oIx (Q2 0) (mC (.int 1))))) (Qq (mC (.bl yo))) Qr)
  (Qq (mOr (Q90 yo ["go", "fall"] (mOp oIx (Q2 0) (mC (.int 2)))) (mOp Qi0 (Ym (Q1 (mOp oIx (Q2 0) (mC (.int 0))) (Q1 (mOp oIx (Q2 0) (mC (.int 2))) Q4))) (mOp oIx (Q2 1) (mC (.int 1)))))))
def Jh:FN:=J0 Zs 2
theorem Q33 (F:Fun K "may_be_done" "may_be_done" X3 f fd) (T:Txt K mg)   : FnOk P w K mg base (CXD P w) 1 f fd ["rule", "stand"] (spF mg 2 Jh):=by
 have:FnScope ["rule", "stand"] ["rule", "stand"] (Q6 X3):=by fail "c"
 delta Jh Zs
 fail "k"
def Yb:ME:=(Q2 0)
def Y6:MT:=(toB (Q8 2 Jh (Q1 (Q2 1) (Q1 (Q2 2) Q4))))
def W3:MS:=(Qq (x8 (Qs [zl,zl,zo 1] (Q13 (W6 (Qb 0) (W6 (Qb 1) Q14))) (Q92 (Q1 (mOp oIx (Q2 0) (mC (.int 2))) Q4)) Y6 Yb)))
def Qm:FN:=Vq W3 2
theorem jt (F:Fun K "numbers_that_may" "numbers_that_may" W1 f fd) (T:Txt K mg)  (q:DefS P w K mg base 1 "may_be_done" 2 Jh):FnOk P w K mg base (CXD P w) 2 f fd ["manner", "stand"] (spF mg 2 Qm):=by
 have:FnScope ["manner", "stand"] ["manner", "stand"] (Q6 W1):=by fail "c"
 delta Qm W3 Y6 Yb
 fail "K"
def Wk : MS := (Q9 (Qx 2 (mOp Zj (mOp Zj (mSl (mOp oIx (Q2 1) (mC (.int 0))) U7 (qp (mOp oIx (Q2 0) (mC (.int 0))))) (Ym (Q1 (mOp oIx (Q2 0) (mC (.int 3))) Q4))) (mSl (mOp oIx (Q2 1) (mC (.int 0))) (qp (mOp Zj (mOp oIx (Q2 0) (mC (.int 0))) (mC (.int 1)))) U7)))
  (Qq (Ym (Q1 (Q2 2) (Q1 (Qi W8 (Q1 (je (mOp Zj (mOp oIx (Q2 1) (mC (.int 1))) (mOp oIx (Q2 0) (mC (.int 5))))) Q4)) (Q1 (mOp Zj (mOp oIx (Q2 1) (mC (.int 2))) (mOp oIx (Q2 0) (mC (.int 4)))) Q4))))))
def Qy:FN:=J0 Wk 3
theorem Q1f (F:Fun K "stand_behind" "stand_behind" Ub f fd) (T:Txt K mg)   : FnOk P w K mg base (CXD P w) 1 f fd ["rule", "stand"] (spF mg 2 Qy):=by
 have:FnScope ["rule", "stand", "states"] ["rule", "stand"] (Q6 Ub):=by fail "c"
 delta Qy Wk
 fail "k"
def ye : MS := (Q9 (qq (mBM Y8 (Q2 2) (Q1 (mOp oIx (Q0d (Q2 0) (Q2 3)) (mC (.int 0))) Q4)))
  (Qx 3 (mOp oIx (Q0d (Q2 0) (Q2 3)) (mC (.int 1)))))
def zf:MT:=(toB (mOp K6 (Q0d (Q2 0) (Q2 3)) (mC .non)))
def Q3f : MS := (Q9 (Qx 2 (x8 (Q3h Q4)))
  (Q9 (Qx 3 (Q2 1))
  (Q9 (Jv zf ye 100000)
  (Qq (Zx (Qtc (Q2 2)))))))
def Ui:FN:=Vq Q3f 4
theorem Qei (F:Fun K "run_to" "run_to" Q2m f fd) (T:Txt K mg)   : FnOk P w K mg base (CXD P w) 1 f fd ["found", "stand"] (spF mg 2 Ui):=by
 have:FnScope ["found", "stand", "run", "at"] ["found", "stand"] (Q6 Q2m):=by fail "c"
 delta Ui Q3f zf ye
 fail "K"
def Z8:MS:=(Jd (toB (mOp (oI λa b=>.bl (decide (b < a))) (mOp Zj (mOp oIx (Q2 2) (mC (.int 2))) (mOp oIx (mOp oIx (mOp oIx (Q2 0) (mC (.int 2))) (Q2 3)) (mC (.int 4)))) (mOp oIx (Q2 0) (mC (.int 0))))) (Qq (Ym (Q1 (Q2 3) (Q1 (Q2 2) Q4)))) Qr)
def Z9:MS:=(Kp (Qb 3) (Y4 (Q8 2 Qm (Q1 (Q2 0) (Q1 (Q2 2) Q4)))) Z8)
def Yv : MS := (Q9 (Kp (Qb 2) (Y4 (Q2 1)) Z9)
  (Qq (mC .non)))
def Z1:FN:=Vq Yv 4
theorem Q04 (F:Fun K "breaking_step" "breaking_step" Vw f fd) (T:Txt K mg)  (q:DefS P w K mg base 2 "numbers_that_may" 2 Qm):FnOk P w K mg base (CXD P w) 3 f fd ["manner", "stands"] (spF mg 2 Z1):=by
 have:FnScope ["manner", "stands", "stand", "number"] ["manner", "stands"] (Q6 Vw):=by fail "c"
 delta Z1 Yv Z9 Z8
 fail "K"
def W9 : MS := (Q9 (Qx 6 (Q8 2 Qy (Q1 (mOp oIx (mOp oIx (Q2 0) (mC (.int 2))) (Q2 5)) (Q1 (Q2 4) Q4))))
  (Jd (toB (mOp (qe zb) (Q2 6) (Q2 1))) (Q9 (zu (Q2 1) (Q2 6) (Ym (Q1 (Q2 5) (Q1 (Q2 4) Q4))))
  (Q9 (qq (mBM Y8 (Q2 3) (Q1 (Q2 6) Q4)))
  (Jd (toB (mOp (oI λa b=>.bl (decide (b < a))) (Qi Kj (Q1 (Q2 1) Q4)) (mC (.int 2000)))) (Q6v "TooMany" (mC (.str "more stands than are walked through"))) Qr))) Qr))
def Wa:MS:=(Kp (Qb 5) (Y4 (Q8 2 Qm (Q1 (Q2 0) (Q1 (Q2 4) Q4)))) W9)
def V6 : MS := (Q9 (Qx 3 (x8 (Q3h Q4)))
  (Q9 (Kp (Qb 4) (Y4 (Q2 2)) Wa)
  (Qq (Q2 3))))
def Zg:FN:=Vq V6 7
theorem yt (F:Fun K "further_stands" "further_stands" V2 f fd) (T:Txt K mg) (G:∃ C,mg "TooMany" = zo (.ref C)/\cK K C Qa1 "ValueError.__new__" = zb) (q:DefS P w K mg base 2 "numbers_that_may" 2 Qm) (I:DefS P w K mg base 1 "stand_behind" 2 Qy):FnOk P w K mg base (CXD P w) 3 f fd ["manner", "found", "stands"] (spF mg 3 Zg):=by
 obtain ⟨_,_,_⟩:=G;have:FnScope ["manner", "found", "stands", "further", "stand", "number", "after"] ["manner", "found", "stands"] (Q6 V2):=by fail "c"
 delta Zg V6 Wa W9
 fail "K"
def Va : MS := (Q9 (Qx 3 (Q8 2 Z1 (Q1 (Q2 0) (Q1 (Q2 2) Q4))))
  (Q9 (Jd (toB (mOp K6 (Q2 3) (mC .non))) (Qq (Ym (Q1 (Q2 1) (Q1 (x8 (Q5e (Q8 2 Ui (Q1 (Q2 1) (Q1 (mOp oIx (Q2 3) (mC (.int 1))) Q4))) (x9 (Q1 (mOp oIx (Q2 3) (mC (.int 0))) Q4)))) Q4)))) Qr)
  (Qx 2 (Q8 3 Zg (Q1 (Q2 0) (Q1 (Q2 1) (Q1 (Q2 2) Q4)))))))
def Y5:MT:=(toB (mOp (oI λa b=>.bl (decide (b < a))) (Qi Je (Q1 (Q2 2) Q4)) (mC (.int 0))))
def yz : MS := (Q9 (Qx 1 (jf (Q8 1 J6 (Q1 (Q2 0) Q4)) (mC .non)))
  (Q9 (Qx 2 (x9 (Q1 (Q8 1 J6 (Q1 (Q2 0) Q4)) Q4)))
  (Q9 (Jv Y5 Va 100000)
  (Qq (Ym (Q1 (Q2 1) (Q1 (mC .non) Q4)))))))
def j6:FN:=Vq yz 4
theorem Qeh (F:Fun K "walked" "walked" Q2k f fd) (T:Txt K mg)  (I:DefS P w K mg base 1 "beginning" 1 J6) (G:DefS P w K mg base 3 "breaking_step" 2 Z1) (J:DefS P w K mg base 1 "run_to" 2 Ui) (q:DefS P w K mg base 3 "further_stands" 3 Zg):FnOk P w K mg base (CXD P w) 4 f fd ["manner"] (spF mg 1 j6):=by
 have:FnScope ["manner", "found", "fresh", "step"] ["manner"] (Q6 Q2k):=by fail "c"
 delta j6 yz Y5 Va
 fail "K"
def Q1u : MS := (Q9 (qq (Q8 1 J8 (Q1 (Q2 0) Q4)))
  (Q9 (Qx 1 (Q8 1 j6 (Q1 (Q2 0) Q4)))
  (Q9 (Jd (toB (mOp K6 (mOp oIx (Q2 1) (mC (.int 1))) (mC .non))) (Qq (Ym (Q1 (mC (.str "breaks")) (Q1 (mOp oIx (Q2 1) (mC (.int 1))) Q4)))) Qr)
  (Qq (Ym (Q1 (mC (.str "keeps")) (Q1 (x8 (Q1w (mOp oIx (Q2 1) (mC (.int 0))))) Q4)))))))
def xv:FN:=Vq Q1u 2
theorem Qhy (F:Fun K "tried" "tried" Q6a f fd) (T:Txt K mg)  (q:DefS P w K mg base 8 "need_manner" 1 J8) (G:DefS P w K mg base 4 "walked" 1 j6):FnOk P w K mg base (CXD P w) 9 f fd ["manner"] (spF mg 1 xv):=by
 have:FnScope ["manner", "walk"] ["manner"] (Q6 Q6a):=by fail "c"
 delta xv Q1u
 fail "K"
def Zq:ME:=(Ym (Q1 (Q2 0) (Q1 (mC (.bl zb)) Q4)))
def J3 : MS := (Q9 (Jd (Yg (J9 (toB (W5 (oI λa b => .bl (decide (a <= b))) oLt (mC (.int 0)) (Q2 5) (Qi Je (Q1 (mOp oIx (Q2 0) (mC (.int 2))) Q4))))) (J9 (toB (Q8 2 Jh (Q1 (mOp oIx (mOp oIx (Q2 0) (mC (.int 2))) (Q2 5)) (Q1 (Ym (Q1 (Q2 2) (Q1 (Q2 3) Q4))) Q4)))))) (Qq (mC .non)) Qr)
  (Q9 (Qx 6 (mOp oIx (mOp oIx (Q2 0) (mC (.int 2))) (Q2 5)))
  (Q9 (Xe (Q2 2) (mOp oIx (Q2 6) (mC (.int 0))) (mOp oIx (Q2 6) (mC (.int 3))))
  (Q9 (qq (Qnk (Q2 3) (Q1 (Zx (Qs [zl] (Qb 0) (Y4 (mOp oIx (Q2 6) (mC (.int 5)))) Ja Zq)) Q4)))
  (Qtf 4 (λi j=>i + j) (mOp oIx (Q2 6) (mC (.int 4))))))))
def Vd : MS := (Q9 (Qx 2 (x8 (Q3i (mOp oIx (Q2 0) (mC (.int 1))))))
  (Q9 (Qx 3 Q0c)
  (Q9 (Qx 4 (mC (.int 0)))
  (Q9 (Kp (Qb 5) (Y4 (Q2 1)) J3)
  (Qq (Q2 4))))))
def Zt:FN:=J0 Vd 7
theorem Q31 (F:Fun K "used_behind" "used_behind" X1 f fd) (T:Txt K mg)  (q:DefS P w K mg base 1 "may_be_done" 2 Jh):FnOk P w K mg base (CXD P w) 2 f fd ["manner", "run"] (spF mg 2 Zt):=by
 have:FnScope ["manner", "run", "states", "letters", "used", "number", "rule"] ["manner", "run"] (Q6 X1):=by fail "c"
 delta Zt Vd J3 Zq
 fail "k"
def zt : MS := (Q9 (qq (Q8 1 J8 (Q1 (Q2 0) Q4)))
  (Q9 (Qx 2 (Q8 2 Zt (Q1 (Q2 0) (Q1 (Q2 1) Q4))))
  (Qq (Xr (mOp K6 (Q2 2) (mC .non)) (mOp (oI λa b=>.bl (decide (b < a))) (Q2 2) (mOp oIx (Q2 0) (mC (.int 0))))))))
def Uj:FN:=J0 zt 3
theorem Q8p (F:Fun K "is_break" "is_break" zj f fd) (T:Txt K mg)  (q:DefS P w K mg base 8 "need_manner" 1 J8) (G:DefS P w K mg base 2 "used_behind" 2 Zt):FnOk P w K mg base (CXD P w) 9 f fd ["manner", "run"] (spF mg 2 Uj):=by
 have:FnScope ["manner", "run", "used"] ["manner", "run"] (Q6 zj):=by fail "c"
 delta Uj zt
 fail "k"
def Ki:ME:=(Q8 1 Zf (Q1 (Q2 0) Q4))
def Kh:ME:=(Q8 2 Yd (Q1 (Q2 1) (Q1 (Q2 0) Q4)))
def Xb : MS := (Q9 (Qx 2 (Qi Je (Q1 (mOp oIx (Q2 0) (mC (.int 1))) Q4)))
  (Q9 (Jd (Yg (J9 (toB (Q8 3 Qg (Q1 (Q2 1) (Q1 (mC (.int 3)) (Q1 (mC (.int 3)) Q4)))))) (Yg (J9 (toB (Q8 3 Qg (Q1 (mOp oIx (Q2 1) (mC (.int 0))) (Q1 (Q2 2) (Q1 (Q2 2) Q4)))))) (J9 (toB (Vk "tuple" (mOp oIx (Q2 1) (mC (.int 1)))))))) (Qq (mC (.bl yo))) Qr)
  (Q9 (Jd (Yg (J9 (toB (Qi (Uk λns=>.bl (ns.all id)) (Q1 (Zx (Qs [zl] (Qb 0) (Y4 (mOp oIx (Q2 1) (mC (.int 0)))) Ja Ki)) Q4)))) (J9 (toB (Qi (Uk λns=>.bl (ns.all id)) (Q1 (Zx (Qs [zl,zo 2] (Qb 0) (Y4 (mOp oIx (Q2 1) (mC (.int 1)))) Ja Kh)) Q4))))) (Qq (mC (.bl yo))) Qr)
  (Qq (Xr (Q8 1 Wd (Q1 (mOp oIx (Q2 1) (mC (.int 1))) Q4)) (Q8 1 Yc (Q1 (mOp oIx (Q2 1) (mC (.int 2))) Q4)))))))
def Yt:FN:=J0 Xb 3
theorem Q34 (F:Fun K "is_stand_of" "is_stand_of" X4 f fd) (T:Txt K mg)  (q:DefS P w K mg base 1 "is_sized_tuple" 3 Qg) (O:DefS P w K mg base 1 "is_word" 1 Zf) (I:DefS P w K mg base 3 "is_letter" 2 Yd) (G:DefS P w K mg base 1 "is_rising" 1 Wd) (J:DefS P w K mg base 1 "is_whole" 1 Yc):FnOk P w K mg base (CXD P w) 4 f fd ["manner", "thing"] (spF mg 2 Yt):=by
 have:FnScope ["manner", "thing", "n"] ["manner", "thing"] (Q6 X4):=by fail "c"
 delta Yt Xb Kh Ki
 fail "k"
def V8:ME:=(mOp (qe yo) (Q8 2 Qy (Q1 (mOp oIx (mOp oIx (Q2 3) (mC (.int 2))) (Q2 0)) (Q1 (Q2 2) Q4))) (Q2 1))
def Wm : MS := (Q9 (Jd (toB (mOp (oI λa b => .bl (decide (b < a))) (mOp oIx (Q2 2) (mC (.int 2))) (mOp oIx (Q2 0) (mC (.int 0))))) (Qq (mC (.bl yo))) Qr)
  (Qq (Qi (Uk λns=>.bl (ns.all id)) (Q1 (Zx (Qs [zl,zo 1,zo 2,zo 0] (Qb 0) (Y4 (Q8 2 Qm (Q1 (Q2 0) (Q1 (Q2 2) Q4)))) Ja V8)) Q4))))
def Ye:FN:=J0 Wm 3
theorem Q1g (F:Fun K "is_closed_at" "is_closed_at" Uc f fd) (T:Txt K mg)  (q:DefS P w K mg base 2 "numbers_that_may" 2 Qm) (G:DefS P w K mg base 1 "stand_behind" 2 Qy):FnOk P w K mg base (CXD P w) 3 f fd ["manner", "among", "stand"] (spF mg 3 Ye):=by
 have:FnScope ["manner", "among", "stand"] ["manner", "among", "stand"] (Q6 Uc):=by fail "c"
 delta Ye Wm V8
 fail "k"
def Q0r:ME:=(Q8 2 Yt (Q1 (Q2 1) (Q1 (Q2 0) Q4)))
def Q0q:ME:=(Ym (Q1 (Q2 0) (Q1 (mC (.bl zb)) Q4)))
def jn:ME:=(Q8 3 Ye (Q1 (Q2 1) (Q1 (Q2 2) (Q1 (Q2 0) Q4))))
def Q1v : MS := (Q9 (qq (Q8 1 J8 (Q1 (Q2 0) Q4)))
  (Q9 (Jd (Yg (toB (mOp (oI λa b=>.bl (decide (b < a))) (Qi Je (Q1 (Q2 1) Q4)) (mC (.int 2000)))) (J9 (toB (Qi (Uk λns=>.bl (ns.all id)) (Q1 (Zx (Qs [zl,zo 0] (Qb 0) (Y4 (Q2 1)) Ja Q0r)) Q4))))) (Qq (mC (.bl yo))) Qr)
  (Q9 (Qx 2 (Qi Q0v (Q1 (Zx (Qs [zl] (Qb 0) (Y4 (Q2 1)) Ja Q0q)) Q4)))
  (Q9 (Jd (Yg (toB (mOp oLt (Qi Kj (Q1 (Q2 2) Q4)) (Qi Je (Q1 (Q2 1) Q4)))) (toB (mOp (qe zb) (Q8 1 J6 (Q1 (Q2 0) Q4)) (Q2 2)))) (Qq (mC (.bl yo))) Qr)
  (Qq (Qi (Uk λns=>.bl (ns.all id)) (Q1 (Zx (Qs [zl,zo 0,zo 2] (Qb 0) (Y4 (Q2 1)) Ja jn)) Q4)))))))
def xw:FN:=Vq Q1v 3
theorem Qhz (F:Fun K "keeps" "keeps" Q6b f fd) (T:Txt K mg)  (G:DefS P w K mg base 8 "need_manner" 1 J8) (I:DefS P w K mg base 4 "is_stand_of" 2 Yt) (J:DefS P w K mg base 1 "beginning" 1 J6) (q:DefS P w K mg base 3 "is_closed_at" 3 Ye):FnOk P w K mg base (CXD P w) 9 f fd ["manner", "stands"] (spF mg 2 xw):=by
 have:FnScope ["manner", "stands", "among"] ["manner", "stands"] (Q6 Q6b):=by fail "c"
 delta xw Q1v jn Q0q Q0r
 fail "K"
def Yj : MS := (Q9 (Jd (toB (mOp (oI λa b => .bl (decide (b <= a))) (Q2 0) (mOp Qat (mC (.int 10)) (mC (.int 18))))) (Qq (Q2 0)) Qr)
  (Q9 (Qx 2 (mOp Kn (mOp Zj (mOp Zj (mOp qd (mOp Kn (Q2 0) (mC (.int 998244353))) (mC (.int 51749))) (mOp qd (Q2 1) (mC (.int 7919)))) (mC (.int 3))) (mC (.int 1000000007))))
  (Q9 (Qx 3 (mOp Kn (mOp Zj (mOp Zj (mOp Zj (mOp qd (Q2 2) (Q2 2)) (mOp qd (mC (.int 32749)) (Q2 2))) (Q2 1)) (mC (.int 5))) (mC (.int 2147483629))))
  (Q9 (Qx 4 (mOp Kn (mOp Zj (mOp Zj (mOp qd (Q2 3) (Q2 3)) (mOp qd (mC (.int 61)) (Q2 1))) (Q2 2)) (mC (.int 2147483587))))
  (Qq (mOp Zj (mOp qd (Q2 3) (mC (.int 2147483587))) (Q2 4)))))))
def J7:FN:=J0 Yj 5
theorem yu (F:Fun K "_law_e_stirred" "_law_e_stirred" V3 f fd) (T:Txt K mg)   : FnOk P w K mg base (CXD P w) 1 f fd ["cell", "place"] (spF mg 2 J7):=by
 have:FnScope ["cell", "place", "first", "second", "third"] ["cell", "place"] (Q6 V3):=by fail "c"
 delta J7 Yj
 fail "k"
def Ya : MS := (Q9 (Jd (toB (mOp oLt (mOp oIx (Q2 0) (mC (.int 2))) (Q2 1))) (Q9 (Qx 2 (mOp oIx (Q2 0) (mC (.int 1))))
  (Q9 (Qx 3 (Q2 2))
  (Q9 (Jd (toB (mOp oLt (Q2 2) (Qi Je (Q1 (mOp oIx (Q2 0) (mC (.int 0))) Q4)))) (Qx 3 (mOp oIx (mOp oIx (Q2 0) (mC (.int 0))) (Q2 2))) (Jd (toB (mOp (oI λa b=>.bl (decide (b < a))) (Qi Je (Q1 (mOp oIx (Q2 0) (mC (.int 0))) Q4)) (mC (.int 0)))) (Qx 3 (mOp Zj (mOp Kn (mOp oIx (mOp oIx (Q2 0) (mC (.int 0))) (mOp Kn (mOp qd (Q2 2) (mC (.int 3))) (Qi Je (Q1 (mOp oIx (Q2 0) (mC (.int 0))) Q4)))) (mOp Qat (mC (.int 10)) (mC (.int 9)))) (mOp qd (Q2 2) (mC (.int 1000000))))) Qr))
  (Q9 (Xe (Q2 0) (mC (.int 1)) (mOp Zj (Q2 2) (mC (.int 1))))
  (Xe (Q2 0) (mC (.int 2)) (Q8 2 J7 (Q1 (Q2 3) (Q1 (Q2 2) Q4)))))))) Qr)
  (Q9 (Qx 4 (mOp Kn (mOp oIx (Q2 0) (mC (.int 2))) (Q2 1)))
  (Q9 (Xe (Q2 0) (mC (.int 2)) (mOp Qck (mOp oIx (Q2 0) (mC (.int 2))) (Q2 1)))
  (Qq (Q2 4)))))
def Qd:FN:=J0 Ya 5
theorem Q1i (F:Fun K "_law_e_digit" "_law_e_digit" Ue f fd) (T:Txt K mg)  (q:DefS P w K mg base 1 "_law_e_stirred" 2 J7):FnOk P w K mg base (CXD P w) 2 f fd ["tape", "many"] (spF mg 2 Qd):=by
 have:FnScope ["tape", "many", "place", "cell", "digit"] ["tape", "many"] (Q6 Ue):=by fail "c"
 delta Qd Ya
 fail "k"
def Yw:ME:=(mOp Qnc (mC (.str "abgoflz")) (Q8 2 Qd (Q1 (Q2 1) (Q1 (mC (.int 7)) Q4))))
def Vg : MS := (Q9 (Jd (toB (mOp oEq (Q8 2 Qd (Q1 (Q2 0) (Q1 (mC (.int 4)) Q4))) (mC (.int 0)))) (Qq (mOp oIx (x9 (Q1 (mC (.str "go")) (Q1 (mC (.str "fall")) (Q1 (mC (.str "gone")) (Q1 (mC (.str "fallen")) (Q1 (mC (.str "gofall")) (Q1 (mC (.str "a")) (Q1 (mC (.str "aa")) (Q1 (mC (.str "abcdefgh")) Q4))))))))) (Q8 2 Qd (Q1 (Q2 0) (Q1 (mC (.int 8)) Q4))))) Qr)
  (Qq (Qcs (mC (.str "")) (Q1 (Zx (Qs [zl,zo 0] (Qb 0) (Y2 (Q1 (mOp Zj (mC (.int 1)) (Q8 2 Qd (Q1 (Q2 0) (Q1 (mC (.int 4)) Q4)))) Q4)) Ja Yw)) Q4))))
def Zc:FN:=Vq Vg 1
theorem Q38 (F:Fun K "_law_e_name" "_law_e_name" X8 f fd) (T:Txt K mg)  (q:DefS P w K mg base 2 "_law_e_digit" 2 Qd):FnOk P w K mg base (CXD P w) 3 f fd ["tape"] (spF mg 1 Zc):=by
 have:FnScope ["tape"] ["tape"] (Q6 X8):=by fail "c"
 delta Zc Vg Yw
 fail "K"
def Jj : MS := (Q9 (Qx 1 (Q8 1 Zc (Q1 (Q2 0) Q4)))
  (Q9 (Jd (Yg (toB (mOp oEq (Q2 1) (mC (.str "go")))) (toB (mOp oEq (Q2 1) (mC (.str "fall"))))) (Qq (mOp Zj (Q2 1) (mC (.str "a")))) Qr)
  (Qq (Q2 1))))
def Jk:FN:=Vq Jj 2
theorem Km (F:Fun K "_law_e_letter_name" "_law_e_letter_name" Y7 f fd) (T:Txt K mg)  (q:DefS P w K mg base 3 "_law_e_name" 1 Zc):FnOk P w K mg base (CXD P w) 4 f fd ["tape"] (spF mg 1 Jk):=by
 have:FnScope ["tape", "name"] ["tape"] (Q6 Y7):=by fail "c"
 delta Jk Jj
 fail "K"
def U2:MS:=(qq (mBM Y8 (Q2 9) (Q1 (Ym (Q1 (Q8 2 Qd (Q1 (Q2 0) (Q1 (Q2 1) Q4))) (Q1 (mOp oIx (Q2 3) (Q8 2 Qd (Q1 (Q2 0) (Q1 (Qi Je (Q1 (Q2 3) Q4)) Q4)))) Q4))) Q4)))
def Xd : MS := (Q9 (Qx 4 (Q8 2 Qd (Q1 (Q2 0) (Q1 (Q2 1) Q4))))
  (Q9 (Qx 5 (mOp oIx (Q2 2) (Q8 2 Qd (Q1 (Q2 0) (Q1 (Qi Je (Q1 (Q2 2) Q4)) Q4)))))
  (Q9 (Qx 6 (mOp oIx (x9 (Q1 (mC (.str "go")) (Q1 (mC (.str "go")) (Q1 (mC (.str "fall")) (Q1 (mOp oIx (Q2 3) (Q8 2 Qd (Q1 (Q2 0) (Q1 (Qi Je (Q1 (Q2 3) Q4)) Q4)))) Q4))))) (Q8 2 Qd (Q1 (Q2 0) (Q1 (mC (.int 4)) Q4)))))
  (Q9 (Qx 7 (mOp oIx (Q2 2) (Q8 2 Qd (Q1 (Q2 0) (Q1 (Qi Je (Q1 (Q2 2) Q4)) Q4)))))
  (Q9 (Qx 8 (mOp oIx (x9 (Q1 (mC (.int 0)) (Q1 (mC (.int 0)) (Q1 (mC (.int 0)) (Q1 (mC (.int 1)) (Q1 (mC (.int 1)) (Q1 (mC (.int 2)) (Q1 (mC (.int 9)) Q4)))))))) (Q8 2 Qd (Q1 (Q2 0) (Q1 (mC (.int 7)) Q4)))))
  (Q9 (Qx 9 (x8 (Q3h Q4)))
  (Q9 (Kp (Qb 10) (Y2 (Q1 (mOp oIx (x9 (Q1 (mC (.int 0)) (Q1 (mC (.int 0)) (Q1 (mC (.int 1)) (Q1 (mC (.int 2)) (Q1 (mC (.int 3)) (Q1 (mC (.int 8)) Q4))))))) (Q8 2 Qd (Q1 (Q2 0) (Q1 (mC (.int 6)) Q4)))) Q4)) U2)
  (Qq (Ym (Q1 (Q2 4) (Q1 (Q2 5) (Q1 (Q2 6) (Q1 (Q2 7) (Q1 (Q2 8) (Q1 (Qi W8 (Q1 (Q2 9) Q4)) Q4)))))))))))))))
def Yu:FN:=Vq Xd 11
theorem Q37 (F:Fun K "_law_e_rule" "_law_e_rule" X7 f fd) (T:Txt K mg)  (q:DefS P w K mg base 2 "_law_e_digit" 2 Qd):FnOk P w K mg base (CXD P w) 3 f fd ["tape", "n", "states", "names"] (spF mg 4 Yu):=by
 have:FnScope ["tape", "n", "states", "names", "house", "state", "event", "onward", "use", "letters", "turn"] ["tape", "n", "states", "names"] (Q6 X7):=by fail "c"
 delta Yu Xd U2
 fail "K"
def xn:ME:=(Q8 1 Zc (Q1 (Q2 1) Q4))
def xm:ME:=(Q8 1 Jk (Q1 (Q2 1) Q4))
def Uz:MS:=(zu (Q2 8) (Q8 4 Yu (Q1 (Q2 0) (Q1 (Q2 2) (Q1 (Q2 6) (Q1 (Q2 7) Q4))))) (mC (.bl zb)))
def Uy:ME:=(mOp oIx (Q2 1) (Q8 2 Qd (Q1 (Q2 2) (Q1 (Q2 3) Q4))))
def Vz : MS := (Q9 (Qx 1 (x9 (Q1 (Ym (Q1 (mC (.int 2)) (Q1 (mC (.int 3)) (Q1 (mC (.int 2)) (Q1 (mC (.int 4)) Q4))))) (Q1 (Ym (Q1 (mC (.int 3)) (Q1 (mC (.int 2)) (Q1 (mC (.int 1)) (Q1 (mC (.int 4)) Q4))))) (Q1 (Ym (Q1 (mC (.int 1)) (Q1 (mC (.int 2)) (Q1 (mC (.int 1)) (Q1 (mC (.int 21)) Q4))))) (Q1 (Ym (Q1 (mC (.int 2)) (Q1 (mC (.int 2)) (Q1 (mC (.int 1)) (Q1 (mC (.int 21)) Q4))))) (Q1 (Ym (Q1 (mC (.int 4)) (Q1 (mC (.int 2)) (Q1 (mC (.int 1)) (Q1 (mC (.int 2)) Q4))))) Q4)))))))
  (Q9 (Qnu (Q13 (W6 (Qb 2) (W6 (Qb 3) (W6 (Qb 4) (W6 (Qb 5) Q14))))) (mOp oIx (Q2 1) (Q8 2 Qd (Q1 (Q2 0) (Q1 (mC (.int 5)) Q4)))))
  (Q9 (Qx 6 (Zx (Qs [zl,zo 0] (Qb 0) (Y2 (Q1 (Q2 3) Q4)) Ja xn)))
  (Q9 (Qx 7 (Zx (Qs [zl,zo 0] (Qb 0) (Y2 (Q1 (Q2 4) Q4)) Ja xm)))
  (Q9 (Qx 8 Q0c)
  (Q9 (Kp (Qb 9) (Y2 (Q1 (Q8 2 Qd (Q1 (Q2 0) (Q1 (mC (.int 10)) Q4))) Q4)) Uz)
  (Q9 (Qx 10 (Qi W8 (Q1 (Zx (Qs [zl,zo 6,zo 0,zo 3] (Qb 0) (Y2 (Q1 (Q2 2) Q4)) Ja Uy)) Q4)))
  (Qq (Ym (Q1 (Q8 2 Qd (Q1 (Q2 0) (Q1 (Q2 5) Q4))) (Q1 (Q2 10) (Q1 (Qi W8 (Q1 (Qi Q47 (Q1 (Q2 8) Q4)) Q4)) Q4))))))))))))
def Yz:FN:=Vq Vz 11
theorem sc__law_e_manner:FnScope ["tape", "sizes", "n", "many", "words", "most", "states", "names", "rules", "turn", "starts"] ["tape"] (Q6 Vx):=⟨rfl,rfl,rfl,by decide +kernel,rfl,by decide +kernel,by decide +kernel⟩
theorem Q05 (F:Fun K "_law_e_manner" "_law_e_manner" Vx f fd) (T:Txt K mg)  (q:DefS P w K mg base 2 "_law_e_digit" 2 Qd) (I:DefS P w K mg base 3 "_law_e_name" 1 Zc) (G:DefS P w K mg base 4 "_law_e_letter_name" 1 Jk) (J:DefS P w K mg base 3 "_law_e_rule" 4 Yu):FnOk P w K mg base (CXD P w) 5 f fd ["tape"] (spF mg 1 Yz):=by
 refine Q9f (k:=4) (m:=Vz) F sc__law_e_manner rfl rfl rfl λY A outer s H E O=>?_
 exact (Ut (xx 1 sc__law_e_manner.nd (Qgi (Qf (zh (Qf Jx (Qf Jx (Qf Jx (Qf Jx Ji))))) (Qf (zh (Qf Jx (Qf Jx (Qf Jx (Qf Jx Ji))))) (Qf (zh (Qf Jx (Qf Jx (Qf Jx (Qf Jx Ji))))) (Qf (zh (Qf Jx (Qf Jx (Qf Jx (Qf Jx Ji))))) (Qf (zh (Qf Jx (Qf Jx (Qf Jx (Qf Jx Ji))))) Ji)))))))
  (Ut (Qg5 (Qgj (Js 1) (Vb q (O.mono (by decide)) qb rfl (Qf (Js 0) (Qf Jx Ji)))) (Qgc rfl (Kr (Wf (i:=2) sc__law_e_manner.nd) (Kr (Wf (i:=3) sc__law_e_manner.nd) (Kr (Wf (i:=4) sc__law_e_manner.nd) (Kr (Wf (i:=5) sc__law_e_manner.nd) Qca))))))
  (Ut (by first | exact Q2f [zl,zo 0] ["turn", "tape"] 6 sc__law_e_manner.nd rfl (V0 rfl T.b_range (Qf (Js 3) Ji)) (λ_ _ _ _ _=>(Wf (i:=0) (show (["turn", "tape"]:List Str).Nodup by decide +kernel))) (λ_ _ _ _ _=>(Vb I (O.mono (by decide)) jc rfl (Qf (Js 1) Ji))) (λ_ _ _ _ _=>j9) Ua | exact xx 6 sc__law_e_manner.nd (Q69 (Q1r [zl,zo 0] ["turn", "tape"] rfl (V0 rfl T.b_range (Qf (Js 3) Ji)) (λ_ _ _ _ _=>(Wf (i:=0) (show (["turn", "tape"]:List Str).Nodup by decide +kernel))) (λ_ _ _ _ _=>(Vb I (O.mono (by decide)) jc rfl (Qf (Js 1) Ji))) (λ_ _ _ _ _=>j9) Ua)))
  (Ut (by first | exact Q2f [zl,zo 0] ["turn", "tape"] 7 sc__law_e_manner.nd rfl (V0 rfl T.b_range (Qf (Js 4) Ji)) (λ_ _ _ _ _=>(Wf (i:=0) (show (["turn", "tape"]:List Str).Nodup by decide +kernel))) (λ_ _ _ _ _=>(Vb G (O.mono (by decide)) jc rfl (Qf (Js 1) Ji))) (λ_ _ _ _ _=>j9) Ua | exact xx 7 sc__law_e_manner.nd (Q69 (Q1r [zl,zo 0] ["turn", "tape"] rfl (V0 rfl T.b_range (Qf (Js 4) Ji)) (λ_ _ _ _ _=>(Wf (i:=0) (show (["turn", "tape"]:List Str).Nodup by decide +kernel))) (λ_ _ _ _ _=>(Vb G (O.mono (by decide)) jc rfl (Qf (Js 1) Ji))) (λ_ _ _ _ _=>j9) Ua)))
  (Ut (xx 8 sc__law_e_manner.nd Q83)
  (Ut (Qg3 PassesOwn.leaving rfl (V0 rfl T.b_range (Qf (Vb q (O.mono (by decide)) qb rfl (Qf (Js 0) (Qf Jx Ji))) Ji)) (Wf (i:=9) sc__law_e_manner.nd) (Qaf (Q7w (Qce O) Qq4 (Js 8) (Vb J (O.mono (by decide)) qb rfl (Qf (Js 0) (Qf (Js 2) (Qf (Js 6) (Qf (Js 7) Ji))))))))
  (Ut (xx 10 sc__law_e_manner.nd (Xp Q42 rfl T.b_tuple yd (Qf (Q69 (Q1r [zl,zo 6,zo 0,zo 3] ["house", "states", "tape", "many"] rfl (V0 rfl T.b_range (Qf (Js 2) Ji)) (λ_ _ _ _ _=>(Wf (i:=0) (show (["house", "states", "tape", "many"]:List Str).Nodup by decide +kernel))) (λ_ _ _ _ _=>(Qgj (Js 1) (Vb q (O.mono (by decide)) jc rfl (Qf (Js 2) (Qf (Js 3) Ji))))) (λ_ _ _ _ _=>j9) Ua)) Ji)))
  (Qaf (Qg1 (zh (Qf (Vb q (O.mono (by decide)) qb rfl (Qf (Js 0) (Qf (Js 5) Ji))) (Qf (Js 10) (Qf (Xp Q42 rfl T.b_tuple yd (Qf (Xp (Q9s rfl) rfl T.b_list Xw (Qf (Js 8) Ji)) Ji)) Ji)))))))))))))
def Vh : MS := (Q9 (Jd (toB (mOp oNe (mOp oIx (mOp oIx (Q2 1) (mC (.int 0))) (mOp oIx (Q2 0) (mC (.int 0)))) (mOp oIx (Q2 0) (mC (.int 1))))) (Qq (mC (.bl yo))) Qr)
  (Qq (mOr (mOp oEq (mOp oIx (Q2 0) (mC (.int 2))) (mC (.str "go"))) (mOr (mOp oEq (mOp oIx (Q2 0) (mC (.int 2))) (mC (.str "fall"))) (mOp (oIn yo) (Ym (Q1 (mOp oIx (Q2 0) (mC (.int 0))) (Q1 (mOp oIx (Q2 0) (mC (.int 2))) Q4))) (mOp oIx (Q2 1) (mC (.int 1))))))))
def J1:FN:=J0 Vh 2
theorem Q39 (F:Fun K "_law_e_fits" "_law_e_fits" X9 f fd) (T:Txt K mg)   : FnOk P w K mg base (CXD P w) 1 f fd ["rule", "stand"] (spF mg 2 J1):=by
 have:FnScope ["rule", "stand"] ["rule", "stand"] (Q6 X9):=by fail "c"
 delta J1 Vh
 fail "k"
def Yy:MS:=(zu (Q2 3) (Q2 4) (mC (.bl zb)))
def Vf : MS := (Q9 (Qx 2 (x8 (Q3i (mOp oIx (Q2 1) (mC (.int 0))))))
  (Q9 (Xe (Q2 2) (mOp oIx (Q2 0) (mC (.int 0))) (mOp oIx (Q2 0) (mC (.int 3))))
  (Q9 (Qx 3 Q0c)
  (Q9 (Kp (Qb 4) (Y4 (mOp Zj (mOp oIx (Q2 1) (mC (.int 1))) (mOp oIx (Q2 0) (mC (.int 5))))) Yy)
  (Qq (Ym (Q1 (Qi W8 (Q1 (Q2 2) Q4)) (Q1 (Qi W8 (Q1 (Qi Q46 (Q1 (Q2 3) Q4)) Q4)) (Q1 (mOp Zj (mOp oIx (Q2 1) (mC (.int 2))) (mOp oIx (Q2 0) (mC (.int 4)))) Q4)))))))))
def Qv:FN:=J0 Vf 5
theorem Q36 (F:Fun K "_law_e_step" "_law_e_step" X6 f fd) (T:Txt K mg)   : FnOk P w K mg base (CXD P w) 1 f fd ["rule", "stand"] (spF mg 2 Qv):=by
 have:FnScope ["rule", "stand", "states", "letters", "letter"] ["rule", "stand"] (Q6 X6):=by fail "c"
 delta Qv Vf Yy
 fail "k"
def Yn:ME:=(Vk "str" (Q2 0))
def Yp : MS := (Q9 (Jd (Yg (J9 (toB (Vk "tuple" (Q2 2)))) (Yg (toB (mOp oNe (Qi Je (Q1 (Q2 2) Q4)) (mC (.int 2)))) (J9 (toB (Vk "str" (mOp oIx (Q2 2) (mC (.int 1)))))))) (Qq (mC (.bl yo))) Qr)
  (Jd (Yg (J9 (toB (Vk "int" (mOp oIx (Q2 2) (mC (.int 0)))))) (toB (Vk "bool" (mOp oIx (Q2 2) (mC (.int 0)))))) (Qq (mC (.bl yo))) Qr))
def Wp : MS := (Q9 (Jd (Yg (J9 (toB (Vk "tuple" (Q2 1)))) (Yg (toB (mOp oNe (Qi Je (Q1 (Q2 1) Q4)) (mC (.int 3)))) (J9 (toB (Vk "tuple" (mOp oIx (Q2 1) (mC (.int 0)))))))) (Qq (mC (.bl yo))) Qr)
  (Q9 (Jd (Yg (toB (mOp oNe (Qi Je (Q1 (mOp oIx (Q2 1) (mC (.int 0))) Q4)) (Qi Je (Q1 (mOp oIx (Q2 0) (mC (.int 1))) Q4)))) (J9 (toB (Qi (Uk λns=>.bl (ns.all id)) (Q1 (Zx (Qs [zl] (Qb 0) (Y4 (mOp oIx (Q2 1) (mC (.int 0)))) Ja Yn)) Q4))))) (Qq (mC (.bl yo))) Qr)
  (Q9 (Jd (Yg (J9 (toB (Vk "tuple" (mOp oIx (Q2 1) (mC (.int 1)))))) (Yg (J9 (toB (Vk "int" (mOp oIx (Q2 1) (mC (.int 2)))))) (toB (Vk "bool" (mOp oIx (Q2 1) (mC (.int 2))))))) (Qq (mC (.bl yo))) Qr)
  (Q9 (Kp (Qb 2) (Y4 (mOp oIx (Q2 1) (mC (.int 1)))) Yp)
  (Qq (mC (.bl zb)))))))
def Zb:FN:=J0 Wp 3
theorem zq (F:Fun K "_law_e_is_stand" "_law_e_is_stand" Wg f fd) (T:Txt K mg)   : FnOk P w K mg base (CXD P w) 1 f fd ["manner", "found"] (spF mg 2 Zb):=by
 have:FnScope ["manner", "found", "letter"] ["manner", "found"] (Q6 Wg):=by fail "c"
 delta Zb Wp Yp Yn
 fail "k"
def U1 : MS := (Q9 (Jd (Yg (J9 (toB (Vk "int" (Q2 3)))) (Yg (toB (Vk "bool" (Q2 3))) (Yg (toB (mOp oLt (Q2 3) (mC (.int 0)))) (toB (mOp (oI λa b => .bl (decide (b <= a))) (Q2 3) (Qi Je (Q1 (mOp oIx (Q2 0) (mC (.int 2))) Q4))))))) (Qq (mC .non)) Qr)
  (Q9 (Jd (J9 (toB (Q8 2 J1 (Q1 (mOp oIx (mOp oIx (Q2 0) (mC (.int 2))) (Q2 3)) (Q1 (Q2 2) Q4))))) (Qq (mC .non)) Qr)
  (Qx 2 (Q8 2 Qv (Q1 (mOp oIx (mOp oIx (Q2 0) (mC (.int 2))) (Q2 3)) (Q1 (Q2 2) Q4))))))
def Xc : MS := (Q9 (Jd (J9 (toB (Vk "list" (Q2 1)))) (Qq (mC .non)) Qr)
  (Q9 (Qx 2 (Ym (Q1 (mOp oIx (Q2 0) (mC (.int 1))) (Q1 (Ym Q4) (Q1 (mC (.int 0)) Q4)))))
  (Q9 (Kp (Qb 3) (Y4 (Q2 1)) U1)
  (Qq (Q2 2)))))
def Zu:FN:=J0 Xc 4
theorem Q35 (F:Fun K "_law_e_walk" "_law_e_walk" X5 f fd) (T:Txt K mg)  (q:DefS P w K mg base 1 "_law_e_fits" 2 J1) (G:DefS P w K mg base 1 "_law_e_step" 2 Qv):FnOk P w K mg base (CXD P w) 2 f fd ["manner", "run"] (spF mg 2 Zu):=by
 have:FnScope ["manner", "run", "stand", "number"] ["manner", "run"] (Q6 X5):=by fail "c"
 delta Zu Xc U1
 fail "k"
def Wv:MS:=(zu (Q2 2) (Q2 3) (mC (.bl zb)))
def Jp:MS:=(Jd (jw (toB (Q8 2 J1 (Q1 (Q2 4) (Q1 (Q2 3) Q4)))) (toB (mOp (qe zb) (Q8 2 Qv (Q1 (Q2 4) (Q1 (Q2 3) Q4))) (Q2 2)))) (Qq (mC (.bl yo))) Qr)
def Za : MS := (Q9 (Jd (toB (mOp (oI λa b => .bl (decide (b < a))) (mOp oIx (Q2 3) (mC (.int 2))) (mOp oIx (Q2 0) (mC (.int 0))))) (Qq (mC (.bl yo))) Qr)
  (Kp (Qb 4) (Y4 (mOp oIx (Q2 0) (mC (.int 2)))) Jp))
def Jt : MS := (Q9 (Qx 2 Q0c)
  (Q9 (Kp (Qb 3) (Y4 (Q2 1)) Wv)
  (Q9 (Jd (Yg (toB (mOp oNe (Qi Kj (Q1 (Q2 2) Q4)) (Qi Je (Q1 (Q2 1) Q4)))) (Yg (toB (mOp (oI λa b=>.bl (decide (b < a))) (Qi Je (Q1 (Q2 1) Q4)) (mC (.int 2000)))) (toB (mOp (qe zb) (Ym (Q1 (mOp oIx (Q2 0) (mC (.int 1))) (Q1 (Ym Q4) (Q1 (mC (.int 0)) Q4)))) (Q2 2))))) (Qq (mC (.bl yo))) Qr)
  (Q9 (Kp (Qb 3) (Y4 (Q2 1)) Za)
  (Qq (mC (.bl zb)))))))
def Z2:FN:=Vq Jt 5
theorem Q06 (F:Fun K "_law_e_closed" "_law_e_closed" Vy f fd) (T:Txt K mg)  (q:DefS P w K mg base 1 "_law_e_fits" 2 J1) (G:DefS P w K mg base 1 "_law_e_step" 2 Qv):FnOk P w K mg base (CXD P w) 2 f fd ["manner", "stands"] (spF mg 2 Z2):=by
 have:FnScope ["manner", "stands", "known", "stand", "rule"] ["manner", "stands"] (Q6 Vy):=by fail "c"
 delta Z2 Jt Za Jp Wv
 fail "K"
def V9:ME:=(Q8 2 Zb (Q1 (Q2 1) (Q1 (Q2 0) Q4)))
def Wn : MS := (Q9 (Jd (Yg (J9 (toB (Vk "tuple" (Q2 1)))) (Yg (toB (mOp oNe (Qi Je (Q1 (Q2 1) Q4)) (mC (.int 2)))) (J9 (toB (Vk "list" (mOp oIx (Q2 1) (mC (.int 1)))))))) (Qq (mC (.bl yo))) Qr)
  (Q9 (Jd (toB (mOp oEq (mOp oIx (Q2 1) (mC (.int 0))) (mC (.str "breaks")))) (Q9 (Qx 2 (Q8 2 Zu (Q1 (Q2 0) (Q1 (mOp oIx (Q2 1) (mC (.int 1))) Q4))))
  (Qq (Xr (mOp K6 (Q2 2) (mC .non)) (Xr (mOp (oI λa b=>.bl (decide (b < a))) (mOp oIx (Q2 2) (mC (.int 2))) (mOp oIx (Q2 0) (mC (.int 0)))) (mOp oIs (Q8 2 Uj (Q1 (Q2 0) (Q1 (mOp oIx (Q2 1) (mC (.int 1))) Q4))) (mC (.bl zb))))))) Qr)
  (Q9 (Jd (Yg (toB (mOp oNe (mOp oIx (Q2 1) (mC (.int 0))) (mC (.str "keeps")))) (J9 (toB (Qi (Uk λns=>.bl (ns.all id)) (Q1 (Zx (Qs [zl,zo 0] (Qb 0) (Y4 (mOp oIx (Q2 1) (mC (.int 1)))) Ja V9)) Q4))))) (Qq (mC (.bl yo))) Qr)
  (Qq (Xr (Q8 2 Z2 (Q1 (Q2 0) (Q1 (mOp oIx (Q2 1) (mC (.int 1))) Q4))) (mOp oIs (Q8 2 xw (Q1 (Q2 0) (Q1 (mOp oIx (Q2 1) (mC (.int 1))) Q4))) (mC (.bl zb))))))))
def Yf:FN:=J0 Wn 3
theorem Q1h (F:Fun K "_law_e_right" "_law_e_right" Ud f fd) (T:Txt K mg)  (I:DefS P w K mg base 2 "_law_e_walk" 2 Zu) (J:DefS P w K mg base 9 "is_break" 2 Uj) (q:DefS P w K mg base 1 "_law_e_is_stand" 2 Zb) (G:DefS P w K mg base 2 "_law_e_closed" 2 Z2) (O:DefS P w K mg base 9 "keeps" 2 xw):FnOk P w K mg base (CXD P w) 10 f fd ["manner", "found"] (spF mg 2 Yf):=by
 have:FnScope ["manner", "found", "stand"] ["manner", "found"] (Q6 Ud):=by fail "c"
 delta Yf Wn V9
 fail "k"
def Z6:ME:=(Q2 0)
def Z3:MT:=(toB (Q8 2 J1 (Q1 (Q2 0) (Q1 (Q2 1) Q4))))
def J5 : MS := (Q9 (Qx 6 (Zx (Qs [zl, zo 3] (Qb 0) (Y4 (mOp oIx (Q2 1) (mC (.int 2)))) Z3 Z6)))
  (Q9 (Jd (toB (mOp oNe (Q2 6) (x9 Q4))) (Q9 (Qx 3 (Q8 2 Qv (Q1 (mOp oIx (Q2 6) (mOp Kn (Q2 5) (Qi Je (Q1 (Q2 6) Q4)))) (Q1 (Q2 3) Q4))))
  (Qx 4 (mOp Zj (Q2 4) (mC (.int 1))))) Qr)
  (Q9 (Jd (toB (mOp (oI λa b=>.bl (decide (b < a))) (mOp oIx (Q2 3) (mC (.int 2))) (mOp oIx (Q2 1) (mC (.int 0))))) (Qq (Xr (mOp oEq (mOp oIx (Q2 2) (mC (.int 0))) (mC (.str "breaks"))) (mOp (oI λa b=>.bl (decide (a<=b))) (Qi Je (Q1 (mOp oIx (Q2 2) (mC (.int 1))) Q4)) (Q2 4)))) Qr)
  (Jd (jw (toB (mOp oEq (mOp oIx (Q2 2) (mC (.int 0))) (mC (.str "keeps")))) (toB (mOp (oIn zb) (Q2 3) (mOp oIx (Q2 2) (mC (.int 1)))))) (Qq (mC (.bl yo))) Qr))))
def W4 : MS := (Q9 (Qx 3 (Ym (Q1 (mOp oIx (Q2 1) (mC (.int 1))) (Q1 (Ym Q4) (Q1 (mC (.int 0)) Q4)))))
  (Q9 (Qx 4 (mC (.int 0)))
  (Q9 (Kp (Qb 5) (Y4 (mSl (Q2 0) U7 (qp (mC (.int 100))))) J5)
  (Qq (mC (.bl zb))))))
def Jz:FN:=J0 W4 7
theorem ju (F:Fun K "_law_e_run_right" "_law_e_run_right" W2 f fd) (T:Txt K mg)  (q:DefS P w K mg base 1 "_law_e_fits" 2 J1) (G:DefS P w K mg base 1 "_law_e_step" 2 Qv):FnOk P w K mg base (CXD P w) 2 f fd ["script", "manner", "found"] (spF mg 3 Jz):=by
 have:FnScope ["script", "manner", "found", "stand", "many", "cell", "some"] ["script", "manner", "found"] (Q6 W2):=by fail "c"
 delta Jz W4 J5 Z3 Z6
 fail "k"
def Q20 : MS := (Q9 (Jd (jw (toB (mOp (oI λa b => .bl (decide (b < a))) (Q2 2) (mC (.int 1)))) (toB (mOp (oI λa b => .bl (decide (b <= a))) (mOp oIx (Q2 1) (mC (.int 1))) (Qi Je (Q1 (Q2 0) Q4))))) Qay Qr)
  (Q9 (Qx 3 (Q8 1 Yz (Q1 (Q2 1) Q4)))
  (Q9 (Qx 4 (Q8 1 xv (Q1 (Q2 3) Q4)))
  (Jd (Yg (J9 (toB (Q8 2 Yf (Q1 (Q2 3) (Q1 (Q2 4) Q4))))) (J9 (toB (Q8 3 Jz (Q1 (Q2 0) (Q1 (Q2 3) (Q1 (Q2 4) Q4))))))) (Qq (mC (.bl yo))) Qr))))
def Qi8 : MS := (Q9 (Qx 1 (x8 (Q3h (Q1 (Q2 0) (Q1 (mC (.int 0)) (Q1 (mC (.int 0)) Q4))))))
  (Q9 (Kp (Qb 2) (Y2 (Q1 (mC (.int 3)) Q4)) Q20)
  (Qq (mC (.bl zb)))))
def Qdg:FN:=J0 Qi8 5
theorem Qt0 (F:Fun K "law" "law" yk f fd) (T:Txt K mg)  (G:DefS P w K mg base 5 "_law_e_manner" 1 Yz) (J:DefS P w K mg base 9 "tried" 1 xv) (I:DefS P w K mg base 10 "_law_e_right" 2 Yf) (q:DefS P w K mg base 2 "_law_e_run_right" 3 Jz):FnOk P w K mg base (CXD P w) 11 f fd ["script"] (spF mg 1 Qdg):=by
 have:FnScope ["script", "tape", "k", "manner", "found"] ["script"] (Q6 yk):=by fail "c"
 delta Qdg Qi8 Q20
 fail "k"
end
theorem Q7b (a:Int) {b:Int} (h:0 < b):0<=a % b/\a % b < b:=⟨fR a (by omega),fQ a h⟩
theorem Qwu (x:Int) (h:1<=n):∃ k:Nat,k < n/\x % (n:Int)=(k:Int):=by
 have:=Q7b x (b:=(n:Int)) (by omega);exact ⟨(x % (n:Int)).toNat,by omega,by omega⟩
theorem Qkk (c:Int) (p:Nat) (st:Q0):∃ z:Int,J7 [.int c,.int p] st=.ok (.int z) st:=by
 by_cases q:1000000000000000000<=c
 ·refine ⟨c,?_⟩;simp! [J7,J0,Yj,q]
 ·obtain ⟨f,G⟩:∃ f,(c % 998244353 * 51749 + p * 7919 + 3) % 1000000007=f:=⟨_,rfl⟩;have Z:=Q7b (c % 998244353 * 51749 + p * 7919 + 3) (b:=1000000007) (by decide);rw [G] at Z;obtain ⟨g,I⟩:∃ g:Int,(f * f + 32749 * f + p + 5) % 2147483629=g:=⟨_,rfl⟩;have O:=Q7b (f * f + 32749 * f + p + 5) (b:=2147483629) (by decide);rw [I] at O;have Y:-18446744073709551616 < f/\f < 18446744073709551616:=by omega
  have J:-18446744073709551616 < g/\g < 18446744073709551616:=by omega
  refine ⟨g * 2147483587 + (g * g + 61 * p + f) % 2147483587,?_⟩;simp! [J7,J0,Yj,q,G,I,Y,J]
def TapeAt (S:Q0) (L:Nat) (ns:List Int):Prop:=∃ (p:Nat) (c:Int),S[L]?=zo (.lst [.fro (ns.map .int),.int p,.int c])
theorem TapeAt.lt (h:TapeAt S L ns):L < S.length:=let ⟨_,_,e⟩:=h; (O3.mp e).1
theorem Q2a {a b c:PV} (h:S[L]?=zo (.lst [a,b,c])):Ke S (.ref L) (.int 1) x=zo (S.set L (.lst [a,x,c]))/\Ke S (.ref L) (.int 2) x=zo (S.set L (.lst [a,b,x])):=by
 unfold Ke;simp only [h];exact ⟨rfl,rfl⟩
theorem Q1q {a b c:PV} (h:S[L]?=zo (.lst [a,b,c])):oIx S (.ref L) (.int 0)=.ok a S/\oIx S (.ref L) (.int 1)=.ok b S/\oIx S (.ref L) (.int 2)=.ok c S:=by
 have q:ListAt S (.ref L) [a,b,c]:=.inr (.inr ⟨L,rfl,h⟩);rw [q.ix,q.ix,q.ix];exact ⟨rfl,rfl,rfl⟩
theorem Qpn (ns:List Int) (p:Nat) {c:PV} (hS:S[L]?=zo (.lst [.fro (ns.map .int),.int p,c])) (O J:Option PV):∃ z:Int,(Jd (toB (mOp oLt (Q2 2) (Qi Je (Q1 (mOp oIx (Q2 0) (mC (.int 0))) Q4)))) (Qx 3 (mOp oIx (mOp oIx (Q2 0) (mC (.int 0))) (Q2 2))) (Jd (toB (mOp (oI λa b=>.bl (decide (b < a))) (Qi Je (Q1 (mOp oIx (Q2 0) (mC (.int 0))) Q4)) (mC (.int 0)))) (Qx 3 (mOp Zj (mOp Kn (mOp oIx (mOp oIx (Q2 0) (mC (.int 0))) (mOp Kn (mOp qd (Q2 2) (mC (.int 3))) (Qi Je (Q1 (mOp oIx (Q2 0) (mC (.int 0))) Q4)))) (mOp Qat (mC (.int 10)) (mC (.int 9)))) (mOp qd (Q2 2) (mC (.int 1000000))))) Qr)) [zo (.ref L),O,zo (.int p),zo (.int p),J] S=.nx [zo (.ref L),O,zo (.int p),zo (.int z),J] S:=by
 obtain ⟨I,_,_⟩:=Q1q hS;have G:(ns.map PV.int).length=ns.length:=O0 _
 by_cases q:p < ns.length
 ·have e:atI (ns.map PV.int) (p:Int)=zo (.int (ns.getD p 0)):=by rw [Qdd,Sm.atI_get (Q5n q 0)]; rfl
  refine ⟨ns.getD p 0,?_⟩;generalize ns.getD p 0=x,ns.length=len,ns.map PV.int=Z at*;simp! [I,G,q,e,-Q10]
 ·by_cases q2:ns.length=0
  ·refine ⟨p,?_⟩;generalize ns.map PV.int=Z at*;rw [q2] at G;have q0:¬ (p:Int) < 0:=by omega
   simp! [I,G,q0,-Q10]
  ·have Y:0 < ns.length:=by omega
   obtain ⟨m,hm,em⟩:=Qwu ((p:Int) * 3) Y;have e:atI (ns.map PV.int) (m:Int)=zo (.int (ns.getD m 0)):=by rw [Qdd,Sm.atI_get (Q5n hm 0)]; rfl
   refine ⟨ns.getD m 0 % 1000000000 + p * 1000000,?_⟩;have q':¬ (p:Int) < (ns.length:Int):=by omega
   generalize ns.getD m 0=x,ns.length=len,ns.map PV.int=Z at*;simp! [I,G,q,q',Y,em,e,-Q10]
theorem Qty {st':Q0} (h:st'.length=st.length) (d:Int):fin st (.int d) st'=.ok (.int d) st':=by
 unfold fin
 by_cases q:st <+: st'
 ·rw [bT q];have:st=st':=q.eq_of_length h.symm;rw [<- this,fz]; rfl
 ·rw [bU q]
structure Mv (L:Nat) (S S':Q0):Prop where
 len:S'.length=S.length
 keep:∀ t,t≠L->S'[t]?=S[t]?
theorem Z7 (T:TapeAt S L ns) (m:Nat) (h1:1<=m) (hm:m < 1267650600228229401496703205376):∃ (d:Nat) (S':Q0),d < m/\TapeAt S' L ns/\Mv L S S'/\Qd [.ref L,.int m] S=.ok (.int d) S':=by
 obtain ⟨p,c,Z⟩:=T;have hL:=(O3.mp Z).1;obtain ⟨p1,Y,S1,a2,a3,O,M1,e1⟩:∃ (p1:Nat) (Y:Int) (S1:Q0) (a2 a3:Option PV),S1[L]?=zo (.lst [.fro (ns.map .int),.int p1,.int Y])/\Mv L S S1/\(Jd (toB (mOp oLt (mOp oIx (Q2 0) (mC (.int 2))) (Q2 1))) (Q9 (Qx 2 (mOp oIx (Q2 0) (mC (.int 1))))
  (Q9 (Qx 3 (Q2 2))
  (Q9 (Jd (toB (mOp oLt (Q2 2) (Qi Je (Q1 (mOp oIx (Q2 0) (mC (.int 0))) Q4)))) (Qx 3 (mOp oIx (mOp oIx (Q2 0) (mC (.int 0))) (Q2 2))) (Jd (toB (mOp (oI λa b=>.bl (decide (b < a))) (Qi Je (Q1 (mOp oIx (Q2 0) (mC (.int 0))) Q4)) (mC (.int 0)))) (Qx 3 (mOp Zj (mOp Kn (mOp oIx (mOp oIx (Q2 0) (mC (.int 0))) (mOp Kn (mOp qd (Q2 2) (mC (.int 3))) (Qi Je (Q1 (mOp oIx (Q2 0) (mC (.int 0))) Q4)))) (mOp Qat (mC (.int 10)) (mC (.int 9)))) (mOp qd (Q2 2) (mC (.int 1000000))))) Qr))
  (Q9 (Xe (Q2 0) (mC (.int 1)) (mOp Zj (Q2 2) (mC (.int 1))))
  (Xe (Q2 0) (mC (.int 2)) (Q8 2 J7 (Q1 (Q2 3) (Q1 (Q2 2) Q4)))))))) Qr) [zo (.ref L),zo (.int m),zl,zl,zl] S=.nx [zo (.ref L),zo (.int m),a2,a3,zl] S1:=by
  obtain ⟨i0,i1,i2⟩:=Q1q Z
  by_cases q:c < (m:Int)
  ·obtain ⟨z,ez⟩:=Qpn ns p Z (zo (.int m)) zl;obtain ⟨t1,_⟩:=Q2a (x:=.int ((p:Int) + 1)) Z;obtain ⟨S2,I⟩:∃ S2,S.set L (.lst [.fro (ns.map .int),.int ((p:Int) + 1),.int c])=S2:=⟨_,rfl⟩;have h2:S2[L]?=zo (.lst [.fro (ns.map .int),.int ((p:Int) + 1),.int c]):=by rw [<- I,F0 hL]
   rw [I] at t1;obtain ⟨y,ey⟩:=Qkk z p S2;obtain ⟨_,t2⟩:=Q2a (x:=.int y) h2;have a1:=(O3.mp h2).1;refine ⟨p + 1,y,S2.set L (.lst [.fro (ns.map .int),.int ((p:Int) + 1),.int y]),zo (.int p),zo (.int z),?_,⟨?_,λt J=>?_⟩,?_⟩
   ·rw [F0 a1]; push_cast; rfl
   ·rw [G7,<- I,G7]
   ·rw [E9 (λu=>J u.symm),<- I,E9 (λu=>J u.symm)]
   ·have J:(toB (mOp oLt (mOp oIx (Q2 0) (mC (.int 2))) (Q2 1))) [zo (.ref L),zo (.int m),zl,zl,zl] S=.ok zb S:=by
     simp! [i2,q,-Q10]
    have s1:∀ X:MS,(Q9 (Qx 2 (mOp oIx (Q2 0) (mC (.int 1)))) (Q9 (Qx 3 (Q2 2)) X)) [zo (.ref L),zo (.int m),zl,zl,zl] S=X [zo (.ref L),zo (.int m),zo (.int p),zo (.int p),zl] S:=λX=>by
     simp! [i1,-Q10]
    rw [Q6w,J,Kt,bT rfl,s1,qm,ez];show Q9 _ _ _ _=_;simp! [t1,ey,t2,-Qcc]
  ·refine ⟨p,c,S,zl,zl,Z,⟨rfl,λ_ _=>rfl⟩,?_⟩;simp! [i2,q,-Q10]
 obtain ⟨_,_,j2⟩:=Q1q O;obtain ⟨d,hd,ed⟩:=Qwu Y h1;obtain ⟨_,t2⟩:=Q2a (x:=.int (Y / (m:Int))) O;have a6:=(O3.mp O).1;obtain ⟨S3,G⟩:∃ S3,S1.set L (.lst [.fro (ns.map .int),.int p1,.int (Y / (m:Int))])=S3:=⟨_,rfl⟩;have h3:S3[L]?=zo (.lst [.fro (ns.map .int),.int p1,.int (Y / (m:Int))]):=by rw [<- G,F0 a6]
 have M3:Mv L S S3:=⟨by rw [<- G,G7,M1.len],λt J=>by rw [<- G,E9 (λu=>J u.symm),M1.keep t J]⟩;rw [G] at t2;refine ⟨d,S3,hd,⟨p1,_,h3⟩,M3,?_⟩;have a4:0 < m:=h1;have a5:(m:Int) < 1267650600228229401496703205376:=by omega
 have step:Ya [zo (.ref L),zo (.int m),zl,zl,zl] S=.rt (.int d) S3:=by
  unfold Ya;rw [qm,e1];show Q9 _ _ _ _=_;simp! [j2,a4,a5,ed,t2,-Q10,-Qcc]
 show J0 Ya 5 _ S=_;unfold J0;rw [show (([PV.ref L,.int m]:List PV).map zo ++ bc (5 - [PV.ref L,.int m].length) zl)=[zo (.ref L),zo (.int m),zl,zl,zl] from rfl,step];exact Qty M3.len d
theorem xi (i:Int) (st:Q0):Yc [.int i] st=.ok (.bl zb) st:=by
 simp [Yc,J0,zr,isI,tyN]
theorem Qpp (x a b:Int) (st:Q0):J4 [.int x,.int a,.int b] st=.ok (.bl (decide (a<=x) && decide (x<=b))) st:=by
 have:=xi x st
 by_cases q:a<=x <;> simp [J4,J0,K9,this,q]
theorem Q3 {a b:MS} {q:Gam} {r:SR} (h1:a Γ S=.nx q S1) (h2:b q S1=r):Q9 a b Γ S=r:=by rw [qm,h1]; exact h2
theorem Qj {i:Nat} (h:m Γ S=.ok v S1):Qx i m Γ S=.nx (Γ.set i (zo v)) S1:=by rw [Qnp,h]; rfl
theorem Q5 {F:FN} (h1:mr Γ S=.ok ps S1) (h2:ps.length=n) (q:F ps S1=.ok v S2):Q8 n F mr Γ S=.ok v S2:=by rw [Qeu,h1,Qk,bT h2,q]
theorem Q7 {a b:ME} {y:PV} (h1:a Γ S=.ok x S1) (h2:b Γ S1=.ok y S2) (q:o S2 x y=.ok v S3):mOp o a b Γ S=.ok v S3:=by rw [Qt9,h1,Qk,h2,Qk,q]
theorem Qh (h1:m Γ S=.ok p S1) (h2:mr Γ S1=.ok ps S2):Q1 m mr Γ S=.ok (p :: ps) S2:=by rw [Qi9,h1,Qk,h2,Qk]
theorem Jw {o:CF} (h1:mr Γ S=.ok ps S1) (h2:o S1 ps=.ok v S2):Qi o mr Γ S=.ok v S2:=by rw [Qia,h1,Qk,h2]
theorem Ju {b:MS} {w:Wt} {r:SR} (h1:mi Γ S=.ok (xs,w) S1) (h2:Jm ga b w xs Γ S1=r):Kp ga mi b Γ S=r:=by rw [Qns,h1]; exact h2
theorem Vn {a b:MS} {r:SR} (h1:c Γ S=.ok zb S1) (h2:a Γ S1=r):Jd c a b Γ S=r:=by rw [Q6w,h1]; exact h2
theorem Jy {a b:MS} {r:SR} (h1:c Γ S=.ok yo S1) (h2:b Γ S1=r):Jd c a b Γ S=r:=by rw [Q6w,h1]; exact h2
theorem Quf {q:Gam} (h1:m Γ S=.ok p S1) (h2:ga p Γ=zo q):Qnu ga m Γ S=.nx q S1:=by rw [Qnt,h1]; show (match ga p Γ with | some q=>SR.nx q S1 | none=>.stuck)=_; rw [h2]
theorem Jg {w:Wt} (h1:m Γ S=.ok p S1) (h2:Y0 S1 p=zo (xs,w)) (q:xs.length<=1000000):Y4 m Γ S=.ok (xs,w) S1:=by rw [Qnq,h1,Qk,h2]; exact bT q
theorem Vu {m:ML} (h:m Γ S=.ok ps S1):Zx m Γ S=.ok (.lst ps) S1:=by rw [Qnj,h,Qk]
theorem Yx {cap:zAC} {ys:List PV} {w:Wt} (h1:mi Γ S=.ok (xs,w) S1) (h2:Jn ga mt me w (W7 cap Γ) xs S1=.ok ys S2):Qs cap ga mi mt me Γ S=.ok ys S2:=by rw [Qet,h1,Qk,h2]; rfl
theorem X0 {m:ML} (h:m Γ S=.ok ps S1):x8 m Γ S=.ok (.ref S1.length) (S1 ++ [.lst ps]):=by rw [Qnn,h,Qk]
theorem Qp {t:MT} (h:t Γ S=.ok b S1):J9 t Γ S=.ok (!b) S1:=by rw [Qfw,h,Qk]
theorem Qe (h:m Γ S=.ok (.bl b) S1):toB m Γ S=.ok b S1:=by rw [Qqu,h]; rfl
theorem Qgb {mi:ME} {q:Q0} {o i:PV} (h1:m Γ S=.ok p S1) (h2:mo Γ S1=.ok o S2) (G:mi Γ S2=.ok i S3) (I:Ke S3 o i p=zo q):Xe mo mi m Γ S=.nx Γ q:=by
 rw [Qes,h1,Kt,h2,Kt,G,Kt,I]
theorem Qbv {f:MF} (h1:mo Γ S=.ok p S1) (h2:U0 S1 p=zo xs) (q:mr Γ S1=.ok ps S2) (G:f S2 p ps=.ok v S3):qq (mBM f mo mr) Γ S=.nx Γ S3:=by
 rw [Q91,Qte,h1,Qk];simp only [h2];rw [q,Qk,G,Kt]
theorem yb (h:m Γ S=.ok v S1):qq m Γ S=.nx Γ S1:=by rw [Q91,h]; rfl
theorem Qee {a b:MT} (h:a Γ S=.ok zb S1):Yg a b Γ S=.ok zb S1:=by rw [Qc5,h]; rfl
theorem Zi {a b:MT} {r:Res Bool} (h:a Γ S=.ok yo S1) (h2:b Γ S1=r):Yg a b Γ S=r:=by rw [Qc5,h]; exact h2
theorem Jr {a b:MS} (h:a Γ S=.rt v S1):Q9 a b Γ S=.rt v S1:=by rw [qm,h]
theorem zg (h1:mr Γ S=.ok ps S1) (h2:ps.length<=1000000):Ym mr Γ S=.ok (.tup ps) S1:=by rw [Qnm,h1,Qk]; exact bT h2
theorem Qu {m:MS} {q:Q0} (h:m (ps.map zo ++ bc (nl - ps.length) zl) S=.rt v q):Vq m nl ps S=.ok v q:=by unfold Vq; rw [h]
theorem Vr {m:MS} {q:Q0} (h:m (ps.map zo ++ bc (nl - ps.length) zl) S=.rt v q):J0 m nl ps S=fin S v q:=by unfold J0; rw [h]
theorem Q7j (h:S[L]?=zo (.lst xs)) (q:xs.length < 1000000) (y:PV):Y8 S (.ref L) [y]=.ok .non (S.set L (.lst (xs ++ [y]))):=by
 simp only [Y8,chg,h];rw [bT (show xs.length < lim from q)]
theorem Qa3 {a b:MT} {r:Res Bool} (h:a Γ S=.ok zb S1) (h2:b Γ S1=r):jw a b Γ S=r:=by rw [Q7t,h]; exact h2
theorem Qk6 {a b:MT} (h:a Γ S=.ok yo S1):jw a b Γ S=.ok yo S1:=by rw [Q7t,h]; rfl
theorem Qn (h:m Γ S=.ok v S1):Qq m Γ S=.rt v S1:=by rw [Qnr,h]; rfl
theorem Qqm (S:Q0) {b:Int} (h:a=b):oEq S (.int a) (.int b)=.ok (.bl zb) S:=by simp [h]
theorem Qxq (S:Q0) {b:Int} (h:¬ a=b):oEq S (.int a) (.int b)=.ok (.bl yo) S:=by simp [h]
theorem Qx1 (S:Q0) {b:Int} (h:a < b):oLt S (.int a) (.int b)=.ok (.bl zb) S:=by simp [h]
theorem Qqh (S:Q0) {b:Int} (h:¬ a < b):oLt S (.int a) (.int b)=.ok (.bl yo) S:=by
 have:oLt S (.int a) (.int b)=.ok (.bl (decide (a < b))) S:=by simp
 rw [this,bV h]
theorem qv (S:Q0) {b:Int} (h:b < a):(oI λa b=>.bl (decide (b < a))) S (.int a) (.int b)=.ok (.bl zb) S:=by
 show Res.ok (PV.bl (decide (b < a))) S=_; rw [bW h]
theorem xk (S:Q0) {b:Int} (h:¬ b < a):(oI λa b=>.bl (decide (b < a))) S (.int a) (.int b)=.ok (.bl yo) S:=by
 show Res.ok (PV.bl (decide (b < a))) S=_; rw [bV h]
theorem Qzu (S:Q0) {b:Int} (h:0 < b):Kn S (.int a) (.int b)=.ok (.int (a % b)) S:=by
 show (if 0 < b then _ else _)=_; rw [bT h]
theorem Qfh (S:Q0) (a b:Int):Zj S (.int a) (.int b)=.ok (.int (a + b)) S:=by simp
theorem Qk4 (h:mr Γ S=.ok ps S1) (q:ps.length<=1000000:=by decide):x9 mr Γ S=.ok (.lst ps) S1:=by
 unfold x9;rw [h,Qk];exact bT q
theorem Qws (S:Q0) {a b:Nat} (h:a≠b):oNe S (.int a) (.int b)=.ok (.bl zb) S:=by
 have:¬ ((a:Int)=(b:Int)):=by omega
 simp [this]
theorem Q5c (S:Q0) (a:Int):oNe S (.int a) (.int a)=.ok (.bl yo) S:=by simp
theorem Qvs (q:n<=1000) (h:m Γ S=.ok (.int n) S):Y2 (Q1 m Q4) Γ S=.ok (V4 0 n,[]) S:=by
 rw [Q3g,Qh h (show Q4 Γ S=.ok [] S from rfl),Qk];show (if -(lim:Int)<=(n:Int)/\(n:Int)<=lim then _ else _)=_;rw [bT (by rw [qr]; omega),bo]
theorem Q9g (S:Q0) (a:Str):oEq S (.str a) (.str a)=.ok (.bl zb) S:=by simp
theorem Q9h {a b:Str} (S:Q0) (h:¬ a=b):oEq S (.str a) (.str b)=.ok (.bl yo) S:=by simp [h]
theorem Qnd (g:good dep v=zb) (hd:der S v=v):oNe S v v=.ok (.bl yo) S:=by
 have q:peq v v=zb:=qa g;unfold oNe;rw [hd];simp [g,q]
theorem Wi {body:MS} (h:body (ps.map zo ++ bc (nl - ps.length) zl) st=.rt (.bl b) st):J0 body nl ps st=.ok (.bl b) st:=by
 unfold J0; rw [h]; exact Q40 st b
def Qpq (p:PV) (a b:Int):Bool:=match p with
 | .int x=>decide (a<=x) && decide (x<=b)
 | _=>yo
def Q80 (c:Nat):Bool:=decide (97<=c) && decide (c<=122)
def Zn (x:Str):Bool:=decide (1<=(x.length:Int)) && decide ((x.length:Int)<=8) && x.cps.toList.all Q80
def Q7n:PV->Bool
 | .str x=>Zn x
 | _=>yo
def evP:PV->Bool
 | .str x=>jv ["go", "fall"] x
 | _=>yo
def Qb2 (n:Int):PV->Bool
 | .tup [a,b]=>Qpq a 0 (n - 1) && (Q7n b && !evP b)
 | _=>yo
def Qqi (n:Int) (p:PV):Bool:=match p with
 | .tup xs=>decide ((xs.length:Int)<=8) && xs.all (Qb2 n)
 | _=>yo
def Kf (n:Int):PV->Bool
 | .tup [a,b,c,d,e,f]=>Qpq a 0 (n - 1) && (Q7n b && (Q7n c && Q7n d)) && (Qpq e 0 9 && Qqi n f)
 | _=>yo
theorem Qb8 {q:Bool} {x:Str} (h:m Γ S=.ok (.str x) S1):Q90 q ss m Γ S=.ok (.bl (jv ss x != q)) S1:=by unfold Q90; rw [h]; rfl
theorem Q4b (A:Q0) (bs:List Bool):Uk (λns=>PV.bl (ns.all id)) A [.lst (bs.map .bl)]=.ok (.bl (bs.all id)) A:=by simp -implicitDefEqProofs
theorem Q0x {a b:ME} {x:Bool} {r:Res PV} (h:a Γ S=.ok (.bl x) S) (h2:x=zb->b Γ S=r) (q:x=yo->r=.ok (.bl yo) S):Xr a b Γ S=r:=by
 rw [Qct,h,Qk];cases x with
 | true=>exact h2 rfl
 | false=>rw [q rfl]; rfl
theorem Q0w {a b:ME} {r:Res PV} (h:a Γ S=.ok (.bl zb) S) (h2:b Γ S=r):Xr a b Γ S=r:=Q0x h (λ_=>h2) (λe=>nomatch e)
theorem Q1b {g:α->PV} {xs:List α} {cap:zAC} (hi:mi Γ S=.ok (xs.map g,[]) S) (h:∀ x∈xs,∃ q,ga (g x) (W7 cap Γ)=zo q/\me q S=.ok (.bl zb) S):Qi (Uk λns=>.bl (ns.all id)) (Q1 (Zx (Qs cap ga mi Ja me)) Q4) Γ S=.ok (.bl zb) S:=by
 have I:=Vp (ga:=ga) (me:=me) (w:=[]) (Γ0:=W7 cap Γ) (st:=S) g (λ_=>PV.bl zb) (Qz S) (ys:=xs) h;have G:=Q4b S (xs.map λ_=>zb);rw [G8,bu,show xs.all (id ∘ λ_=>zb)=zb from E8.mpr λ_ _=>rfl] at G
 exact Jw (Qh (Vu (Yx hi I)) rfl) G
theorem Us {b:Int} (h1:a<=(xs.length:Int)) (h2:(xs.length:Int)<=b) (S:Q0):Qg [.tup xs,.int a,.int b] S=.ok (.bl zb) S:=by
 refine Wi ?_;show Yi [zo (.tup xs),zo (.int a),zo (.int b)] S=_;simp! [Yi,isI,tyN,h1,h2]
theorem Qd9 {x b:Int} (h1:a<=x) (h2:x<=b) (S:Q0):J4 [.int x,.int a,.int b] S=.ok (.bl zb) S:=by rw [Qpp,bW h1,bW h2]; rfl
theorem Q62 {x:Str} (h:Zn x=zb) (S:Q0):Zf [.str x] S=.ok (.bl zb) S:=by
 unfold Zn at h;simp only [E4,decide_eq_true_eq,E8] at h;obtain ⟨⟨q1,Z⟩,h3⟩:=h;have q:x.length<=lim:=by rw [qr]; omega
 refine Wi ?_;show Q0a [zo (.str x)] S=_;have I:Je S [.str x]=.ok (.int x.length) S:=bT q;have G:Qcq (Q2 0) [zo (.str x)] S=.ok (x.cps.toList.map (λc=>.str ⟨#[c]⟩),[]) S:=bT q;have J:=Q1b (cap:=[zl]) (ga:=Qb 0) (me:=Ux) G λc Y=>⟨_,rfl,by
  have:=h3 c Y;unfold Q80 at this;simp only [E4,decide_eq_true_eq] at this;have O:Qek S (.str "a") (.str ⟨#[c]⟩)=.ok (.bl zb) S:=by
   show Res.ok (PV.bl (!decide ([c] < [97]))) S=_;rw [bV (by rw [iZ]; simp; omega)]; rfl
  have a2:Qek S (.str ⟨#[c]⟩) (.str "z")=.ok (.bl zb) S:=by
   show Res.ok (PV.bl (!decide ([122] < [c]))) S=_;rw [bV (by rw [iZ]; simp; omega)]; rfl
  simp [W7,Ux,O,a2]⟩
 have h0:Vk "str" (Q2 0) [zo (.str x)] S=.ok (.bl zb) S:=rfl;refine Q3 (Jy (Zi (Qp (b:=zb) (Qe h0)) (Qp (b:=zb) ?_)) rfl) (Qn J);simp! [I,q1,Z]
theorem Qqj {n x:Int} {s:Str} (h0:0<=x) (h1:x < n) (h2:Zn s=zb) (q:jv ["go", "fall"] s=yo) (S:Q0):Yd [.int n,.tup [.int x,.str s]] S=.ok (.bl zb) S:=by
 refine Wi ?_;show qi [zo (.int n),zo (.tup [.int x,.str s])] S=_;refine Q3 (Jy (Zi (Qp (b:=zb) (Qe (Q5 (n:=3) rfl rfl (Us (by simp) (by simp) S)))) (Qp (b:=zb) (Qe (Q5 (n:=3) rfl rfl (Qd9 h0 (by omega) S))))) rfl) (Qn (Q0w (Q5 (n:=1) rfl rfl (Q62 h2 S)) ?_));rw [Qb8 (x:=s) (S1:=S) rfl,q];rfl
theorem Qp5 {d:Nat} (h:∀ p∈ps,∃ k,U8 d p=zo k):∃ ks,Yq (U8 d) ps=zo ks:=by
 induction ps with
 | nil=>exact ⟨[],rfl⟩
 | cons p ps J=>
  obtain ⟨k,O⟩:=h p (by simp);obtain ⟨ks,G⟩:=J λq I=>h q (O4 _ I)
  exact ⟨k :: ks,by unfold Yq; rw [O,G]⟩
theorem Q48 {b:Int} (h:Qpq p a b=zb):∃ x,p=.int x/\a<=x/\x<=b:=by
 cases p with
 | int x=>
  have h:(decide (a<=x) && decide (x<=b))=zb:=h;simp at h;exact ⟨x,rfl,h⟩
 | _=>cases h
theorem j7 (h:Q7n p=zb):∃ x,p=.str x/\Zn x=zb:=by
 cases p with
 | str x=>exact ⟨x,rfl,h⟩
 | _=>cases h
theorem Q70 {n:Int} (h:Qb2 n p=zb):∃ x s,p=.tup [.int x,.str s]/\0<=x/\x < n/\Zn s=zb/\jv ["go", "fall"] s=yo:=by
 unfold Qb2 at h
 split at h
 ·rename_i a b;rw [E4,E4] at h;obtain ⟨x,rfl,h1,h2⟩:=Q48 h.1;obtain ⟨s,rfl,q⟩:=j7 h.2.1;refine ⟨x,s,rfl,h1,by omega,q,?_⟩;have:(!jv ["go", "fall"] s)=zb:=h.2.2;simpa using this
 ·cases h
theorem Q2n {n:Int} (h:Kf n p=zb):∃ x s e t u ls,p=.tup [.int x,.str s,.str e,.str t,.int u,.tup ls]/\0<=x/\x < n/\Zn s=zb/\Zn e=zb/\Zn t=zb/\0<=u/\u<=9/\ls.length<=8/\∀ l∈ls,Qb2 n l=zb:=by
 unfold Kf at h
 split at h
 ·rename_i a b c d e f;simp only [E4] at h;obtain ⟨⟨h1,h2,J,Y⟩,h5,h6⟩:=h;obtain ⟨x,rfl,x1,x2⟩:=Q48 h1;obtain ⟨s,rfl,s1⟩:=j7 h2;obtain ⟨I,rfl,O⟩:=j7 J;obtain ⟨t,rfl,t1⟩:=j7 Y;obtain ⟨u,rfl,G,q⟩:=Q48 h5;unfold Qqi at h6
  split at h6
  ·rename_i ls;simp only [E4,decide_eq_true_eq,E8] at h6;exact ⟨x,s,I,t,u,ls,rfl,x1,by omega,s1,O,t1,G,q,by omega,h6.2⟩
  ·cases h6
 ·cases h
theorem Q56 {n:Int} (h:Kf n p=zb):∃ k,Xf p=zo k:=by
 obtain ⟨x,s,e,t,u,ls,rfl,_,_,_,_,_,_,_,_,q⟩:=Q2n h;obtain ⟨ks,G⟩:=Qp5 (d:=3) (ps:=ls) λl hm=>by
  obtain ⟨y,z,rfl,_⟩:=Q70 (q l hm);exact ⟨_,rfl⟩
 refine ⟨.tup [.int x,.str s,.str e,.str t,.int u,.tup ks],?_⟩;show (Yq (U8 4) _).map HK.tup=_;have I:U8 4 (.tup ls)=zo (.tup ks):=by show (Yq (U8 3) ls).map HK.tup=_; rw [G]; rfl
 simp only [Yq,I];rfl
theorem Qp0 {n:Int} (h:xs.all (Kf n)=zb):∃ ks,Yq Xf xs=zo ks/\ks.length=xs.length:=by
 induction xs with
 | nil=>exact ⟨[],rfl,rfl⟩
 | cons p ps J=>
  simp only [bz,E4] at h;obtain ⟨k,I⟩:=Q56 h.1;obtain ⟨ks,q,G⟩:=J h.2;exact ⟨k :: ks,by unfold Yq; rw [I,q],by rw [D3,D3,G]⟩
theorem Qru {n:Int} (h:Kf n p=zb) (S:Q0):Xy [.int n,p] S=.ok (.bl zb) S:=by
 obtain ⟨x,s,e,t,u,ls,rfl,x0,x1,s1,e1,t1,u0,Y,l8,G⟩:=Q2n h;refine Wi ?_;show Q0b [zo (.int n),zo (.tup [.int x,.str s,.str e,.str t,.int u,.tup ls])] S=_;have J:Jf [.int n,.tup ls] S=.ok (.bl zb) S:=by
  refine Wi ?_;show Zw [zo (.int n),zo (.tup ls)] S=_;refine Qn (Q0w (Q5 (n:=3) rfl rfl (Us (by omega) (by omega) S)) (Q1b (xs:=ls) (g:=id) (by rw [ia]; exact Jg rfl rfl (by omega)) λp q=>?_))
  obtain ⟨y,z,rfl,I,O,z1,Z⟩:=Q70 (G p q);exact ⟨_,rfl,Q5 (n:=2) rfl rfl (Qqj I O z1 Z S)⟩
 refine Q3 (Jy (Zi (Qp (b:=zb) (Qe (Q5 (n:=3) rfl rfl (Us (by simp) (by simp) S)))) (Qp (b:=zb) (Qe (Q5 (n:=3) rfl rfl (Qd9 x0 (by omega) S))))) rfl) (Q3 (Jy (Qp (b:=zb) (Qe (Q1b (xs:=[s,e,t]) (g:=PV.str) (Jg rfl rfl (by simp)) λp q=>⟨_,rfl,Q5 (n:=1) rfl rfl (Q62 ?_ S)⟩))) rfl) (Qn (Q0w (Q5 (n:=3) rfl rfl (Qd9 u0 Y S)) (Q5 (n:=2) rfl rfl J))))
 simp only [D6,dU,or_false] at q;rcases q with rfl | rfl | rfl <;> assumption
structure Mw (L:Nat) (S S':Q0):Prop where
 len:S.length<=S'.length
 keep:∀ t,t≠L->t < S.length->S'[t]?=S[t]?
theorem Mw.refl (L:Nat) (S:Q0):Mw L S S:=⟨O5 _,λ_ _ _=>rfl⟩
theorem Mw.trans (a:Mw L S S1) (b:Mw L S1 S2):Mw L S S2:=⟨D9 a.len b.len,λt h1 h2=>(b.keep t h1 (D1 h2 a.len)).trans (a.keep t h1 h2)⟩
theorem Mv.w {q:Q0} (a:Mv L S q):Mw L S q:=⟨by rw [a.len]; exact O5 _,λt h _=>a.keep t h⟩
theorem Mw.add (L:Nat) (S:Q0) (c:Cell):Mw L S (S ++ [c]):=⟨by rw [O6]; omega,λt _ h=>O8 h⟩
theorem TapeAt.add (T:TapeAt S L ns) (c:Cell):TapeAt (S ++ [c]) L ns:=by
 have h:=T.lt;obtain ⟨p,q,e⟩:=T;exact ⟨p,q,by rw [O8 h]; exact e⟩
theorem TapeAt.put {M:Nat} (T:TapeAt S L ns) (G:M≠L) (c:Cell):TapeAt (S.set M c) L ns:=by
 obtain ⟨p,q,e⟩:=T;exact ⟨p,q,by rw [E9 G]; exact e⟩
theorem rgw (q:n<=1000) (h:m Γ S=.ok (.int n) S1):Y2 (Q1 m Q4) Γ S=.ok (V4 0 n,[]) S1:=by
 rw [Q3g,Qh h (show Q4 Γ S1=.ok [] S1 from rfl),Qk];show (if -(lim:Int)<=(n:Int)/\(n:Int)<=lim then _ else _)=_;rw [bT (by rw [qr]; omega),bo]
theorem Qf0 (cs:List Nat) (acc:Array Nat):cI (λacc (p:Str)=>acc ++ ("" : Str).cps ++ p.cps) acc (cs.map λc=>(⟨#[c]⟩:Str))=acc ++ cs.toArray:=by
 induction cs generalizing acc with
 | nil=>simp
 | cons c cs q=>
  rw [D5,F2,q];have:("" : Str).cps=#[]:=rfl;rw [this];simp
theorem Qb5 (cs:List Nat):Txt.join "" (cs.map λc=>(⟨#[c]⟩:Str))=⟨cs.toArray⟩:=by
 show Builtin.Str.glued "" _=_;unfold Builtin.Str.glued;cases cs with
 | nil=>rfl
 | cons c cs=>
  show (⟨cI _ #[c] (cs.map λc=>(⟨#[c]⟩:Str))⟩:Str)=_
  rw [Qf0];simp
theorem Qip (h:cs.length<=1000):JoinOk "" (cs.map λc=>(⟨#[c]⟩:Str))=zb:=by
 unfold JoinOk;have q:∀ (cs:List Nat) (a:Nat),cI (λx1 (x2:Str)=>x1 + x2.length + ("" : Str).length) a (cs.map λc=>(⟨#[c]⟩:Str))=a + cs.length:=by
  intro cs
  induction cs with
  | nil=>intro a; rfl
  | cons c cs G=>
   intro a;rw [D5,F2,G,D3];show a + 1 + 0 + _=_;omega
 rw [<- iI];show (!decide (cI _ 0 (cs.map λc=>(⟨#[c]⟩:Str)) > sizeLine))=zb
 rw [q,sizeLine_eq];simp;omega
theorem Qad (cs:List Nat):Q0y (cs.map λc=>PV.str ⟨#[c]⟩)=zo (cs.map λc=>(⟨#[c]⟩:Str)):=by
 induction cs with
 | nil=>rfl
 | cons c cs q=>rw [D5,Q0y,q]; rfl
theorem Qa8 (h1:1<=cs.length) (h2:cs.length<=8) (h:∀ c∈cs,Q80 c=zb):Zn ⟨cs.toArray⟩=zb:=by
 unfold Zn;have e:(⟨cs.toArray⟩:Str).length=cs.length:=by show cs.toArray.size=_; simp
 rw [e];simp only [E4,decide_eq_true_eq,E8];exact ⟨⟨by omega,by omega⟩,λc q=>h c (by simpa using q)⟩
theorem Qcm (T:TapeAt S L ns):∃ (x:Str) (S':Q0),Zn x=zb/\TapeAt S' L ns/\Mw L S S'/\Zc [.ref L] S=.ok (.str x) S':=by
 obtain ⟨d,S1,hd,T1,M1,e1⟩:=Z7 T 4 (by decide) (by decide)
 by_cases q:d=0
 ·subst q;obtain ⟨k,S2,hk,Z,M2,Y⟩:=Z7 T1 8 (by decide) (by decide);obtain ⟨x,hx,ex⟩:∃ x,Zn x=zb/\oIx S2 (.lst [.str "go",.str "fall",.str "gone",.str "fallen",.str "gofall",.str "a",.str "aa",.str "abcdefgh"]) (.int k)=.ok (.str x) S2:=by
   have:k=0\/k=1\/k=2\/k=3\/k=4\/k=5\/k=6\/k=7:=by omega
   rcases this with rfl | rfl | rfl | rfl | rfl | rfl | rfl | rfl <;> exact ⟨_,by decide +kernel,rfl⟩
  refine ⟨x,S2,hx,Z,M1.w.trans M2.w,Qu ?_⟩;show Vg [zo (.ref L)] S=_;exact Jr (Vn (Qe (Q7 (Q5 (n:=2) rfl rfl e1) rfl (Qqm _ rfl))) (Qn (Q7 rfl (Q5 (n:=2) rfl rfl Y) ex)))
 ·obtain ⟨k,S2,hk,Z,M2,Y⟩:=Z7 T1 4 (by decide) (by decide);obtain ⟨G,S3,ec,T3,M3,cs,a1,rfl,O⟩:=Q0u (xs:=bY (1 + k)) (λ(i:Nat)=>PV.int ((0:Int) + (i:Int))) (λi G st=>TapeAt st L ns/\Mw L S2 st/\∃ cs:List Nat,cs.length=i/\G=cs.map (λc=>PV.str ⟨#[c]⟩)/\∀ c∈cs,Q80 c=zb) (ga:=Qb 0) (me:=Yw) (w:=[]) (Γ0:=W7 [zl,zo 0] [zo (.ref L)]) (λ_ _ st _=>Qz st)
   (λi x G st _ ⟨Ti,Mi,cs,h1,h2,h3⟩=>by
    obtain ⟨j,S4,hj,T4,M4,e4⟩:=Z7 Ti 7 (by decide) (by decide);obtain ⟨c,hc,J⟩:∃ c,Q80 c=zb/\Qnc S4 (.str "abgoflz") (.int j)=.ok (.str ⟨#[c]⟩) S4:=by
     have:j=0\/j=1\/j=2\/j=3\/j=4\/j=5\/j=6:=by omega
     rcases this with rfl | rfl | rfl | rfl | rfl | rfl | rfl <;> exact ⟨_,by decide +kernel,rfl⟩
    refine ⟨_,rfl,.str ⟨#[c]⟩,S4,Q7 rfl (Q5 (n:=2) rfl rfl e4) J,T4,Mi.trans M4.w,cs ++ [c],by rw [O6,h1]; rfl,by rw [h2,F3]; rfl,λy I=>?_⟩
    rcases E3.mp I with I | I
    ·exact h3 y I
    ·have:y=c:=by simpa using I
     rw [this]; exact hc)
   ⟨Z,Mw.refl L S2,[],rfl,rfl,λc hc=>nomatch hc⟩
  rw [F5] at a1;refine ⟨⟨cs.toArray⟩,S3,Qa8 (by omega) (by omega) O,T3,(M1.w.trans M2.w).trans M3,Qu ?_⟩;show Vg [zo (.ref L)] S=_;refine Q3 (Jy (Qe (Q7 (Q5 (n:=2) rfl rfl e1) rfl (Qxq _ (by omega)))) rfl) (Qn ?_);show Qcs _ _ _ _=_;have hl:Zx (Qs [zl,zo 0] (Qb 0) (Y2 (Q1 (mOp Zj (mC (.int 1)) (Q8 2 Qd (Q1 (Q2 0) (Q1 (mC (.int 4)) Q4)))) Q4)) Ja Yw) [zo (.ref L)] S1=.ok (.lst (cs.map λc=>PV.str ⟨#[c]⟩)) S3:=Vu (Yx (rgw (n:=1 + k) (by omega) (Q7 rfl (Q5 (n:=2) rfl rfl Y) (by rw [Qfh]; push_cast; rfl))) ec);unfold Qcs;show ((Q1 _ Q4) [zo (.ref L)] S1).bind _=_;rw [Qh hl (show Q4 _ S3=.ok [] S3 from rfl),Qk];show (match (zo (cs.map λc=>PV.str ⟨#[c]⟩)).bind Q0y with | some ss=>if JoinOk "" ss=zb then Res.ok (PV.str (Txt.join "" ss)) S3 else .stuck | none=>.stuck)=_
  rw [iT,Qad];show (if JoinOk "" _=zb then _ else _)=_;rw [bT (Qip (by omega)),Qb5]
def Qk8 (x:Str):Prop:=Zn x=zb/\jv ["go", "fall"] x=yo
theorem Q3r (T:TapeAt S L ns):∃ (x:Str) (J:Q0),Qk8 x/\TapeAt J L ns/\Mw L S J/\Jk [.ref L] S=.ok (.str x) J:=by
 obtain ⟨x,S1,O,G,M1,I⟩:=Qcm T
 by_cases q:x = "go"
 ·subst q;refine ⟨"goa",S1,⟨by decide +kernel,by decide +kernel⟩,G,M1,Qu ?_⟩;show Jj [zo (.ref L),zl] S=_;exact Q3 (Qj (Q5 (n:=1) rfl rfl I)) (Jr (Vn (Qee (Qe (Q7 rfl rfl (Q9g _ _)))) (Qn (Q7 rfl rfl rfl))))
 ·by_cases r:x = "fall"
  ·subst r;refine ⟨"falla",S1,⟨by decide +kernel,by decide +kernel⟩,G,M1,Qu ?_⟩;show Jj [zo (.ref L),zl] S=_;exact Q3 (Qj (Q5 (n:=1) rfl rfl I)) (Jr (Vn (Zi (Qe (Q7 rfl rfl (Q9h _ q))) (Qe (Q7 rfl rfl (Q9g _ _)))) (Qn (Q7 rfl rfl rfl))))
  ·refine ⟨x,S1,⟨O,?_⟩,G,M1,Qu ?_⟩
   ·unfold jv;simp only [cH,List.any_nil,cz,bV (λh=>q (Eq.symm h)),bV (λh=>r (Eq.symm h))]
   ·show Jj [zo (.ref L),zl] S=_;exact Q3 (Qj (Q5 (n:=1) rfl rfl I)) (Q3 (Jy (Zi (Qe (Q7 rfl rfl (Q9h _ q))) (Qe (Q7 rfl rfl (Q9h _ r)))) rfl) (Qn rfl))
theorem Qb6 (h:xs[k]?=zo p) (S:Q0):oIx S (.lst xs) (.int k)=.ok p S:=by
 show okO S (atI xs (k:Int))=_;rw [Qdc h]; rfl
theorem ix_tup (h:xs[k]?=zo p) (S:Q0):oIx S (.tup xs) (.int k)=.ok p S:=by
 show okO S (atI xs (k:Int))=_;rw [Qdc h]; rfl
def Vj (xs:List Str):PV:=.lst (xs.map .str)
theorem Q1s {i:Nat} (T:TapeAt S L ns) {xs:List Str} (h1:1<=xs.length) (h2:xs.length<=100) (J:∀ st,Q2 0 Γ st=.ok (.ref L) st) (G:∀ st,Q2 i Γ st=.ok (Vj xs) st):∃ (x:Str) (q:Q0),x∈xs/\TapeAt q L ns/\Mw L S q/\(mOp oIx (Q2 i) (Q8 2 Qd (Q1 (Q2 0) (Q1 (Qi Je (Q1 (Q2 i) Q4)) Q4)))) Γ S=.ok (.str x) q:=by
 have I:(xs.map PV.str).length=xs.length:=O0 _;obtain ⟨d,S1,hd,O,M1,Y⟩:=Z7 T xs.length h1 (by omega);have Z:(xs.map PV.str)[d]?=zo (.str xs[d]):=by rw [D7,O2 hd]; rfl
 refine ⟨xs[d],S1,L7 hd,O,M1.w,Q7 (G S) (Q5 (n:=2) (Qh (J S) (Qh (Jw (Qh (G S) rfl) rfl) rfl)) rfl ?_) (Qb6 Z S1)⟩;show Qd [.ref L,.int ((xs.map PV.str).length:Nat)] S=_;rw [I]; exact Y
def Q4f (ws:List Str) (r:PV):Prop:=∀ a b c d e ls,r=.tup [a,b,c,d,e,.tup ls]->∀ l∈ls,∃ (h:Int) (y:Str),l=.tup [.int h,.str y]/\y∈ws
def Qbz (ss:List Str) (r:PV):Prop:=∀ a b c d e ls,r=.tup [a,b,c,d,e,ls]->∃ y∈ss,d=.str y
theorem Qm4 (T:TapeAt S L ns) (a3:1<=n) (hn:n<=100) (s1:1<=ss.length) (s2:ss.length<=100) (s3:∀ x∈ss,Zn x=zb) (w1:1<=ws.length) (w2:ws.length<=100) (w3:∀ x∈ws,Qk8 x) :
  ∃ (r:PV) (S':Q0),Kf n r=zb/\Q4f ws r/\Qbz ss r/\TapeAt S' L ns/\Mw L S S'/\Yu [.ref L,.int n,Vj ss,Vj ws] S=.ok r S':=by
 obtain ⟨G,S1,h1,T1,M1,e1⟩:=Z7 T n a3 (by omega);obtain ⟨st,S2,h2,T2,M2,e2⟩:=Q1s (i:=2) T1 s1 s2 (Γ:=[zo (.ref L),zo (.int n),zo (Vj ss),zo (Vj ws),zo (.int G),zl,zl,zl,zl,zl,zl]) (λ_=>rfl) (λ_=>rfl);obtain ⟨wd,S3,h3,T3,M3,e3⟩:=Q1s (i:=3) T2 w1 w2 (Γ:=[zo (.ref L),zo (.int n),zo (Vj ss),zo (Vj ws),zo (.int G),zo (.str st),zl,zl,zl,zl,zl]) (λ_=>rfl) (λ_=>rfl);obtain ⟨k4,S4,h4,T4,M4,e4⟩:=Z7 T3 4 (by decide) (by decide);obtain ⟨I,a5,a9⟩:∃ I,Zn I=zb/\oIx S4 (.lst [.str "go",.str "go",.str "fall",.str wd]) (.int k4)=.ok (.str I) S4:=by
  have:k4=0\/k4=1\/k4=2\/k4=3:=by omega
  rcases this with rfl | rfl | rfl | rfl
  ·exact ⟨_,by decide +kernel,rfl⟩
  ·exact ⟨_,by decide +kernel,rfl⟩
  ·exact ⟨_,by decide +kernel,rfl⟩
  ·exact ⟨wd,(w3 wd h3).1,rfl⟩
 obtain ⟨Y,S5,h5,T5,M5,e5⟩:=Q1s (i:=2) T4 s1 s2 (Γ:=[zo (.ref L),zo (.int n),zo (Vj ss),zo (Vj ws),zo (.int G),zo (.str st),zo (.str I),zl,zl,zl,zl]) (λ_=>rfl) (λ_=>rfl);obtain ⟨O,q,h6,T6,M6,e6⟩:=Z7 T5 7 (by decide) (by decide);obtain ⟨us,b3,a7⟩:∃ us:Int,(0<=us/\us<=9)/\oIx q (.lst [.int 0,.int 0,.int 0,.int 1,.int 1,.int 2,.int 9]) (.int O)=.ok (.int us) q:=by
  have:O=0\/O=1\/O=2\/O=3\/O=4\/O=5\/O=6:=by omega
  rcases this with rfl | rfl | rfl | rfl | rfl | rfl | rfl <;> exact ⟨_,by decide,rfl⟩
 have b5:=T6.add (.lst []);obtain ⟨Z,S7,h7,T7,M7,e7⟩:=Z7 b5 6 (by decide) (by decide);have hM:q.length≠L:=by have:=T6.lt; omega
 have a4:q.length < (q ++ [Cell.lst []]).length:=by rw [O6]; simp
 have c7:S7[q.length]?=zo (.lst []):=by rw [M7.w.keep _ hM a4,D4 (O5 _),L6]; rfl
 obtain ⟨ct,a1,b2⟩:∃ ct:Nat,ct<=8/\oIx S7 (.lst [.int 0,.int 0,.int 1,.int 2,.int 3,.int 8]) (.int Z)=.ok (.int ct) S7:=by
  have:Z=0\/Z=1\/Z=2\/Z=3\/Z=4\/Z=5:=by omega
  rcases this with rfl | rfl | rfl | rfl | rfl | rfl
  ·exact ⟨0,by decide,rfl⟩
  ·exact ⟨0,by decide,rfl⟩
  ·exact ⟨1,by decide,rfl⟩
  ·exact ⟨2,by decide,rfl⟩
  ·exact ⟨3,by decide,rfl⟩
  ·exact ⟨8,by decide,rfl⟩
 obtain ⟨b7,S8,e8,T8,M8,ls,c8,a6,J,t8,rfl⟩:=Q3x (xs:=bY ct) (λ(i:Nat)=>PV.int ((0:Int) + (i:Int)))
  (λi Γ A=>TapeAt A L ns/\Mw L q A/\∃ ls:List PV,A[q.length]?=zo (.lst ls)/\ls.length=i/\(∀ l∈ls,Qb2 n l=zb/\∃ (h:Int) (y:Str),l=.tup [.int h,.str y]/\y∈ws)/\∃ t,Γ=[zo (.ref L),zo (.int n),zo (Vj ss),zo (Vj ws),zo (.int G),zo (.str st),zo (.str I),zo (.str Y),zo (.int us),zo (.ref q.length),t])
  (ga:=Qb 10) (body:=U2) (w:=[]) (λ_ _ A _=>Qz A) (λi x Γ A hx ⟨Ti,Mi,ls,ci,hl,J,t,a8⟩=>by
   subst a8;obtain ⟨d,A1,hd,TA,MA,ea⟩:=Z7 Ti n a3 (by omega);obtain ⟨y,A2,hy,TB,MB,eb⟩:=Q1s (i:=3) TA w1 w2 (Γ:=[zo (.ref L),zo (.int n),zo (Vj ss),zo (Vj ws),zo (.int G),zo (.str st),zo (.str I),zo (.str Y),zo (.int us),zo (.ref q.length),zo (.int ((0:Int) + (x:Int)))]) (λ_=>rfl) (λ_=>rfl);have a2:q.length < A.length:=(O3.mp ci).1;have b4:q.length < A1.length:=D1 a2 MA.w.len;have c2:A2[q.length]?=zo (.lst ls):=by rw [MB.keep _ hM b4,MA.w.keep _ hM a2]; exact ci
   have b0:q.length < A2.length:=(O3.mp c2).1;have b6:i < ct:=by have:=(O3.mp hx).1; rwa [F5] at this
   refine ⟨_,rfl,_,A2.set q.length (.lst (ls ++ [.tup [.int d,.str y]])),Qbv (xs:=ls) rfl (by show (match A[q.length]? with | some (.lst xs)=>zo xs | _=>zl)=_; rw [ci]) (Qh (zg (Qh (Q5 (n:=2) rfl rfl ea) (Qh eb rfl)) (by simp)) rfl) (Q7j c2 (by omega) _),TB.put hM _,⟨?_,λt h1 h2=>?_⟩,ls ++ [.tup [.int d,.str y]],?_,by rw [O6,hl]; rfl,λl hm=>?_,_,rfl⟩
   ·rw [G7]; exact D9 Mi.len (D9 MA.w.len MB.len)
   ·rw [E9 (by omega)];exact ((Mi.trans MA.w).trans MB).keep t h1 h2
   ·rw [F0 b0]
   ·rcases E3.mp hm with hm | hm
    ·exact J l hm
    ·have:l=.tup [.int d,.str y]:=by simpa using hm
     subst this;obtain ⟨y1,y2⟩:=w3 y hy;refine ⟨?_,d,y,rfl,hy⟩;show (decide ((0:Int)<=d) && decide ((d:Int)<=n - 1) && (Zn y && !jv ["go", "fall"] y))=zb;rw [y1,y2];simp;omega)
  (Γ:=[zo (.ref L),zo (.int n),zo (Vj ss),zo (Vj ws),zo (.int G),zo (.str st),zo (.str I),zo (.str Y),zo (.int us),zo (.ref q.length),zl]) (st:=S7)
  ⟨T7,(Mw.add L q _).trans M7.w,[],c7,rfl,λl hl=>(nomatch hl),zl,rfl⟩
 rw [F5] at a6;refine ⟨.tup [.int G,.str st,.str I,.str Y,.int us,.tup ls],S8,?_,?_,?_,T8,((((M1.w.trans M2).trans M3).trans M4.w).trans M5).trans (M6.w.trans M8),Qu ?_⟩
 ·show (decide ((0:Int)<=G) && decide ((G:Int)<=n - 1) && (Zn st && (Zn I && Zn Y)) && (decide ((0:Int)<=us) && decide (us<=9) && (decide ((ls.length:Int)<=8) && ls.all (Qb2 n))))=zb;rw [s3 st h2,a5,s3 Y h5];simp only [E4,decide_eq_true_eq,E8];exact ⟨⟨⟨by omega,by omega⟩,trivial,trivial,trivial⟩,b3,by omega,λl hl=>(J l hl).1⟩
 ·intro a b c d e b1 eq l hl;cases eq;exact (J l hl).2
 ·intro a b c d e b1 eq;cases eq;exact ⟨Y,h5,rfl⟩
 ·show Xd [zo (.ref L),zo (.int n),zo (Vj ss),zo (Vj ws),zl,zl,zl,zl,zl,zl,zl] S=_;have a1:W8 S8 [.ref q.length]=.ok (.tup ls) S8:=by
   show (match (match S8[q.length]? with | some (.lst xs)=>zo xs | _=>zl) with | some xs=>Res.ok (PV.tup xs) S8 | none=>.stuck)=_
   rw [c8]
  exact Q3 (Qj (Q5 (n:=2) rfl rfl e1)) (Q3 (Qj e2) (Q3 (Qj (Q7 (Qk4 (Qh rfl (Qh rfl (Qh rfl (Qh e3 rfl)))) (by simp)) (Q5 (n:=2) rfl rfl e4) a9)) (Q3 (Qj e5) (Q3 (Qj (Q7 rfl (Q5 (n:=2) rfl rfl e6) a7)) (Q3 (Qj (X0 rfl)) (Q3 (Ju (rgw (n:=ct) (by omega) (Q7 rfl (Q5 (n:=2) rfl rfl e7) b2)) e8) (Qn (zg (Qh rfl (Qh rfl (Qh rfl (Qh rfl (Qh rfl (Qh (Jw rfl a1) rfl)))))) (by simp)))))))))
theorem jg {mi:ME} {I:Q0} {q:PV} (h1:m Γ S=.ok v S1) (h2:mo Γ S1=.ok p S2) (J:mi Γ S2=.ok q S3) (O:xq S3 p q v=zo I):zu mo mi m Γ S=.nx Γ I:=by
 unfold zu;rw [h1];show (mo Γ S1).sbind _=_;rw [h2];show (mi Γ S2).sbind _=_;rw [J];show (match xq S3 p q v with | some G=>SR.nx Γ G | none=>.stuck)=_;rw [O]
def Qt (ks:List HK):List (HK × PV):=ks.map λk=>(k,.bl zb)
theorem Q2t (ks:List HK) (k:HK):Sm.putT (Qt ks) k (.bl zb)=Qt (Jb ks k):=by
 unfold Sm.putT Jb
 by_cases q:k∈ks
 ·rw [bT q,bT]
  ·unfold Qt;rw [G8];refine cX λx _=>?_
   show (if x=k then (x,PV.bl zb) else (x,PV.bl zb))=_
   split <;> rfl
  ·unfold Qt;rw [dM,cM];exact ⟨k,q,by simp⟩
 ·rw [bU q,bU]
  ·unfold Qt; rw [F3]; rfl
  ·unfold Qt;rw [dM,cM];rintro ⟨x,G,e⟩;have:x=k:=by simpa using e
   rw [this] at G; exact q G
theorem Q0t (h:S[D]?=zo (.dtp (Qt ks))) (G:ks.length < 1000000) {k:HK} (I:Xf p=zo k):xq S (.ref D) p (.bl zb)=zo (S.set D (.dtp (Qt (Jb ks k)))):=by
 have hd:Zr S (.ref D)=zo (Qt ks):=by show (match S[D]? with | some (.dtp q)=>zo q | _=>zl)=_; rw [h]
 unfold xq;simp only [hd,I];rw [bT (by unfold Qt; rw [O0]; exact G),Q2t]
theorem Qby (h:ks.Nodup) (k:HK):(Jb ks k).Nodup:=by
 unfold Jb
 split
 ·exact h
 ·rename_i q;exact cZ.mpr ⟨h,by simp,λx G y I e=>by
   have:y=k:=by simpa using I
   rw [e,this] at G; exact q G⟩
theorem Q3d:∀ {ks acc:List HK},(acc ++ ks).Nodup->ks.foldl Jb acc=acc ++ ks
 | [],acc,_=>by simp
 | k :: ks,acc,h=>by
  rw [F2];have q:k∉acc:=λhm=>(cZ.mp h).2.2 k hm k (by simp) rfl
  have e:Jb acc k=acc ++ [k]:=by unfold Jb; rw [bU q]
  rw [e,Q3d (by rw [dB]; exact h)];simp
theorem Qcn (h:ks.Nodup):Y9 ks=ks:=by
 have:=Q3d (ks:=ks) (acc:=[]) (by simpa using h);simpa [Y9] using this
mutual
theorem Qiv:∀ {d:Nat} {p:PV} {k:HK},U8 d p=zo k->hkV k=p
 | _,.int i,_,e=>by cases q:(‹Nat›) <;> (rw [q] at e; cases e; rfl)
 | _,.str x,_,e=>by cases q:(‹Nat›) <;> (rw [q] at e; cases e; rfl)
 | 0,.tup ps,_,e=>by cases e
 | d + 1,.tup ps,k,e=>by
  have e:(Yq (U8 d) ps).map HK.tup=zo k:=e;cases z:Yq (U8 d) ps with
  | none=>rw [z] at e; cases e
  | some l=>
   rw [z] at e;cases e;show PV.tup (hkVL l)=_;rw [hkVL_of z]
 | 0,.non,_,e=>by cases e
 | 0,.bl _,_,e=>by cases e
 | 0,.lst _,_,e=>by cases e
 | 0,.fro _,_,e=>by cases e
 | 0,.ref _,_,e=>by cases e
 | 0,.dic,_,e=>by cases e
 | _ + 1,.non,_,e=>by cases e
 | _ + 1,.bl _,_,e=>by cases e
 | _ + 1,.lst _,_,e=>by cases e
 | _ + 1,.fro _,_,e=>by cases e
 | _ + 1,.ref _,_,e=>by cases e
 | _ + 1,.dic,_,e=>by cases e
theorem hkVL_of:∀ {d:Nat} {ps:List PV} {l:List HK},Yq (U8 d) ps=zo l->hkVL l=ps
 | _,[],_,e=>by cases e; rfl
 | d,p :: ps,l,e=>by
  unfold Yq at e
  split at e
  ·rename_i k G q I;cases e;show hkV k :: hkVL G=_;rw [Qiv q,hkVL_of I]
  ·cases e
end
theorem Qx4 {k:HK} (h:Xf p=zo k):hkV k=p:=by
 cases p with
 | tup ps=>exact Qiv (d:=5) h
 | _=>cases h
structure Man (most:Int) (starts:List Str) (rules:List PV):Prop where
 m0:0<=most
 m1:most<=20
 s1:1<=starts.length
 s4:starts.length<=4
 sw:∀ x∈starts,Zn x=zb
 r:rules.all (Kf starts.length)=zb
 len:rules.length<=9
 ks:∃ ks,Yq Xf rules=zo ks/\ks.Nodup
 ws:∃ sts ws:List Str,ws.length<=2/\sts.length ^ starts.length * 2 ^ (starts.length * ws.length) * (most.toNat + 1)<=576/\(∀ x∈starts,x∈sts)/\(∀ p∈rules,Q4f ws p/\Qbz sts p)/\(∀ x∈sts,Zn x=zb)/\∀ x∈ws,Qk8 x
def Ze (most:Int) (starts:List Str) (rules:List PV):PV:=.tup [.int most,.tup (starts.map .str),.tup rules]
theorem Q8u {i:Nat} {P:Str->Prop} {F:FN} (hF:∀ {S:Q0},TapeAt S L ns->∃ (x:Str) (G:Q0),P x/\TapeAt G L ns/\Mw L S G/\F [.ref L] S=.ok (.str x) G) (T:TapeAt S L ns) {m:Nat} (hm:m<=100) (hG:W7 [zl,zo 0] Γ=[zl,zo (.ref L)]) (hv:Q2 i Γ S=.ok (.int m) S) :
  ∃ (xs:List Str) (G:Q0),xs.length=m/\(∀ x∈xs,P x)/\TapeAt G L ns/\Mw L S G/\Zx (Qs [zl,zo 0] (Qb 0) (Y2 (Q1 (Q2 i) Q4)) Ja (Q8 1 F (Q1 (Q2 1) Q4))) Γ S=.ok (Vj xs) G:=by
 obtain ⟨q,S3,ec,T3,Z,xs,I,rfl,J⟩:=Q0u (xs:=bY m) (λ(i:Nat)=>PV.int ((0:Int) + (i:Int))) (λi q st=>TapeAt st L ns/\Mw L S st/\∃ xs:List Str,xs.length=i/\q=xs.map PV.str/\∀ x∈xs,P x) (ga:=Qb 0) (me:=Q8 1 F (Q1 (Q2 1) Q4)) (w:=[]) (Γ0:=[zl,zo (.ref L)]) (λ_ _ st _=>Qz st)
  (λi x q st _ ⟨Y,O,xs,h1,h2,h3⟩=>by
   obtain ⟨y,S4,hy,T4,M4,e4⟩:=hF Y;refine ⟨_,rfl,.str y,S4,Q5 (n:=1) rfl rfl e4,T4,O.trans M4,xs ++ [y],by rw [O6,h1]; rfl,by rw [h2,F3]; rfl,λz hz=>?_⟩;rcases E3.mp hz with hz | hz
   ·exact h3 z hz
   ·have:z=y:=by simpa using hz
    rw [this]; exact hy)
  ⟨T,Mw.refl L S,[],rfl,rfl,λc hc=>nomatch hc⟩
 rw [F5] at I;exact ⟨xs,S3,I,J,T3,Z,Vu (Yx (rgw (n:=m) (by omega) hv) (by rw [hG]; exact ec))⟩
theorem Qga (q:k < 5) (S:Q0):∃ n m w t:Nat,(1<=n/\n<=4/\1<=m/\m<=3/\1<=w/\w<=2/\1<=t/\t<=21/\m ^ n * 2 ^ (n * w) * t<=576) /\
  oIx S (.lst [.tup [.int 2,.int 3,.int 2,.int 4],.tup [.int 3,.int 2,.int 1,.int 4],.tup [.int 1,.int 2,.int 1,.int 21],.tup [.int 2,.int 2,.int 1,.int 21],.tup [.int 4,.int 2,.int 1,.int 2]]) (.int k)=.ok (.tup [.int n,.int m,.int w,.int t]) S:=by
 have:k=0\/k=1\/k=2\/k=3\/k=4:=by omega
 rcases this with rfl | rfl | rfl | rfl | rfl
 ·exact ⟨2,3,2,4,by decide,rfl⟩
 ·exact ⟨3,2,1,4,by decide,rfl⟩
 ·exact ⟨1,2,1,21,by decide,rfl⟩
 ·exact ⟨2,2,1,21,by decide,rfl⟩
 ·exact ⟨4,2,1,2,by decide,rfl⟩
theorem Q5d {n:Int} {ws ss:List Str}:∀ {ks:List HK},(∀ k∈ks,∃ p,Xf p=zo k/\Kf n p=zb/\Q4f ws p/\Qbz ss p)->Yq Xf (ks.map hkV)=zo ks/\(ks.map hkV).all (Kf n)=zb/\∀ p∈ks.map hkV,Q4f ws p/\Qbz ss p
 | [],_=>⟨rfl,rfl,λp h=>nomatch h⟩
 | k :: ks,h=>by
  obtain ⟨p,h1,h2,I⟩:=h k (by simp);obtain ⟨a,b,c⟩:=Q5d λx J=>h x (O4 _ J)
  have e:=Qx4 h1;refine ⟨?_,?_,λq G=>?_⟩
  ·rw [D5,e];unfold Yq;rw [h1,a]
  ·rw [D5,bz,e,h2,b]; rfl
  ·rw [D5,e] at G;rcases D6.mp G with rfl | G
   ·exact I
   ·exact c q G
theorem Qer (T:TapeAt S L ns):∃ (most:Int) (q:List Str) (rules:List PV) (S':Q0),Man most q rules/\TapeAt S' L ns/\Mw L S S'/\Yz [.ref L] S=.ok (Ze most q rules) S':=by
 obtain ⟨k,S1,hk,T1,M1,e1⟩:=Z7 T 5 (by decide) (by decide);obtain ⟨n,m,w,t,⟨n1,n4,m1,m3,w1,w2,t1,t2,a5⟩,es⟩:=Qga hk S1;generalize hsz:PV.lst [.tup [.int 2,.int 3,.int 2,.int 4],.tup [.int 3,.int 2,.int 1,.int 4],.tup [.int 1,.int 2,.int 1,.int 21],.tup [.int 2,.int 2,.int 1,.int 21],.tup [.int 4,.int 2,.int 1,.int 2]]=sz at es;obtain ⟨ss,S2,b1,O,T2,M2,e2⟩:=Q8u (i:=3) Qcm T1 (m:=m) (by omega) (Γ:=[zo (.ref L),zo sz,zo (.int n),zo (.int m),zo (.int w),zo (.int t),zl,zl,zl,zl,zl]) rfl rfl;obtain ⟨ws,S3,a7,a3,T3,M3,e3⟩:=Q8u (i:=4) Q3r T2 (m:=w) (by omega) (Γ:=[zo (.ref L),zo sz,zo (.int n),zo (.int m),zo (.int w),zo (.int t),zo (Vj ss),zl,zl,zl,zl]) rfl rfl;have b4:=T3.add (.dtp []);obtain ⟨k4,S4,h4,T4,M4,e4⟩:=Z7 b4 10 (by decide) (by decide);have hM:S3.length≠L:=by have:=T3.lt; omega
 have c4:S4[S3.length]?=zo (.dtp (Qt [])):=by rw [M4.w.keep _ hM (by rw [O6]; simp),D4 (O5 _),L6]; rfl
 obtain ⟨b6,S5,e5,T5,M5,ks,c5,b3,a9,I,t5,rfl⟩:=Q3x (xs:=bY k4) (λ(i:Nat)=>PV.int ((0:Int) + (i:Int)))
  (λi Γ A=>TapeAt A L ns/\Mw L S3 A/\∃ ks:List HK,A[S3.length]?=zo (.dtp (Qt ks))/\ks.length<=i/\ks.Nodup/\(∀ k∈ks,∃ p,Xf p=zo k/\Kf n p=zb/\Q4f ws p/\Qbz ss p)/\∃ u,Γ=[zo (.ref L),zo sz,zo (.int n),zo (.int m),zo (.int w),zo (.int t),zo (Vj ss),zo (Vj ws),zo (.ref S3.length),u,zl])
  (ga:=Qb 9) (body:=Uz) (w:=[]) (λ_ _ A _=>Qz A) (λi x Γ A hx ⟨Ti,Mi,ks,ci,hl,nd,I,u,b0⟩=>by
   subst b0;obtain ⟨p,A1,hp,pw,ps,TA,MA,ea⟩:=Qm4 Ti n1 (by omega) (by omega) (by omega) O (by omega) (by omega) a3;obtain ⟨k,hk⟩:=Q56 hp;have a1:S3.length < A.length:=(O3.mp ci).1;have c2:A1[S3.length]?=zo (.dtp (Qt ks)):=by rw [MA.keep _ hM a1]; exact ci
   have b2:S3.length < A1.length:=(O3.mp c2).1;have b5:i < k4:=by have:=(O3.mp hx).1; rwa [F5] at this
   refine ⟨_,rfl,_,A1.set S3.length (.dtp (Qt (Jb ks k))),jg rfl rfl (Q5 (n:=4) rfl rfl ea) (Q0t c2 (by omega) hk),TA.put hM _,⟨?_,λt h1 h2=>?_⟩,Jb ks k,?_,?_,Qby nd k,λy J=>?_,_,rfl⟩
   ·rw [G7]; exact D9 Mi.len MA.len
   ·rw [E9 (by omega)];exact (Mi.trans MA).keep t h1 h2
   ·rw [F0 b2]
   ·have:(Jb ks k).length<=ks.length + 1:=by unfold Jb; split <;> simp
    omega
   ·unfold Jb at J
    split at J
    ·exact I y J
    ·rcases E3.mp J with J | J
     ·exact I y J
     ·have:y=k:=by simpa using J
      rw [this]; exact ⟨p,hk,hp,pw,ps⟩)
  (Γ:=[zo (.ref L),zo sz,zo (.int n),zo (.int m),zo (.int w),zo (.int t),zo (Vj ss),zo (Vj ws),zo (.ref S3.length),zl,zl]) (st:=S4)
  ⟨T4,(Mw.add L S3 _).trans M4.w,[],c4,O5 _,cQ,λk hk=>(nomatch hk),zl,rfl⟩
 rw [F5] at b3;obtain ⟨Y,S6,e6,T6,M6,xs,a6,rfl,a4⟩:=Q0u (xs:=bY n) (λ(i:Nat)=>PV.int ((0:Int) + (i:Int))) (λi Y A=>TapeAt A L ns/\Mw L S5 A/\∃ xs:List Str,xs.length=i/\Y=xs.map PV.str/\∀ x∈xs,Zn x=zb/\x∈ss) (ga:=Qb 0) (me:=Uy) (w:=[]) (Γ0:=[zl,zo (Vj ss),zo (.ref L),zo (.int m)]) (λ_ _ A _=>Qz A)
  (λi x Y A _ ⟨Ti,Mi,xs,h1,h2,h3⟩=>by
   obtain ⟨d,A1,hd,TA,MA,ea⟩:=Z7 Ti m m1 (by omega);have a2:d < ss.length:=by omega
   have hg:(ss.map PV.str)[d]?=zo (.str ss[d]):=by rw [D7,O2 a2]; rfl
   refine ⟨_,rfl,.str ss[d],A1,Q7 rfl (Q5 (n:=2) rfl rfl ea) (Qb6 hg A1),TA,Mi.trans MA.w,xs ++ [ss[d]],by rw [O6,h1]; rfl,by rw [h2,F3]; rfl,λz hz=>?_⟩;rcases E3.mp hz with hz | hz
   ·exact h3 z hz
   ·have:z=ss[d]:=by simpa using hz
    rw [this]; exact ⟨O _ (L7 a2),L7 a2⟩)
  ⟨T5,Mw.refl L S5,[],rfl,rfl,λc hc=>(nomatch hc)⟩
 rw [F5] at a6;obtain ⟨mo,G,b7,T7,M7,e7⟩:=Z7 T6 t t1 (by omega);have a1:S3.length < S5.length:=(O3.mp c5).1;have c6:S6[S3.length]?=zo (.dtp (Qt ks)):=by rw [M6.keep _ hM a1]; exact c5
 have c7:G[S3.length]?=zo (.dtp (Qt ks)):=by rw [M7.keep _ hM]; exact c6
 obtain ⟨q1,q2,q3⟩:=Q5d I;have hn:(n:Int)=(xs.length:Int):=by omega
 refine ⟨mo,xs,ks.map hkV,G,⟨by omega,by omega,by omega,by omega,λx hx=>(a4 x hx).1,by rw [<- hn]; exact q2,by rw [O0]; omega,⟨ks,q1,a9⟩,ss,ws,by omega,by rw [b1,a7,a6]; refine D9 (Nat.mul_le_mul_left _ ?_) a5; simp; omega,λx hx=>(a4 x hx).2,λp hp=>q3 p hp,O,a3⟩,T7,((M1.w.trans M2).trans M3).trans (M5.trans (M6.trans M7.w)),Qu ?_⟩
 show Vz [zo (.ref L),zl,zl,zl,zl,zl,zl,zl,zl,zl,zl] S=_;have a8:Qi Q47 (Q1 (Q2 8) Q4) [zo (.ref L),zo sz,zo (.int n),zo (.int m),zo (.int w),zo (.int t),zo (Vj ss),zo (Vj ws),zo (.ref S3.length),t5,zo (.tup (xs.map .str))] G=.ok (.lst (ks.map hkV)) G:=by
  refine Jw rfl ?_;have hd:Zr G (.ref S3.length)=zo (Qt ks):=by show (match G[S3.length]? with | some (.dtp Z)=>zo Z | _=>zl)=_; rw [c7]
  show (match Zr G (.ref S3.length) with | some Z=>Res.ok (PV.lst (Z.map λ(kv:HK × PV)=>hkV kv.1)) G | none=>.stuck)=_
  rw [hd];show Res.ok (PV.lst ((Qt ks).map λ(kv:HK × PV)=>hkV kv.1)) G=_
  unfold Qt;rw [G8];rfl
 subst hsz;exact Q3 (Qj rfl) (Q3 (Quf (Q7 rfl (Q5 (n:=2) rfl rfl e1) es) rfl) (Q3 (Qj e2) (Q3 (Qj e3) (Q3 (Qj rfl) (Q3 (Ju (rgw (n:=k4) (by omega) (Q5 (n:=2) rfl rfl e4)) e5) (Q3 (Qj (Jw (Qh (Vu (Yx (rgw (n:=n) (by omega) rfl) e6)) rfl) rfl)) (Qn (zg (Qh (Q5 (n:=2) rfl rfl e7) (Qh rfl (Qh (Jw (Qh a8 rfl) rfl) rfl))) (by simp)))))))))
theorem Qt6 {most:Int} {q:List Str} {rules:List PV} (h:Man most q rules) (S:Q0):Vs [Ze most q rules] S=.ok (.bl zb) S:=by
 obtain ⟨ks,k1,k2⟩:=h.ks;obtain ⟨O,J,Y⟩:=Qp0 h.r;rw [k1] at J;cases J;have:=h.len;have:=h.s4;have G:(q.map PV.str).length=q.length:=O0 _;have hr:Vt [.int ((q.map PV.str).length:Nat),.tup rules] S=.ok (.bl zb) S:=by
  refine Wi ?_;show qk [zo (.int ((q.map PV.str).length:Nat)),zo (.tup rules)] S=_;have hs:xb (Q2 1) [zo (.int ((q.map PV.str).length:Nat)),zo (.tup rules)] S=.ok (.int (rules.length:Nat)) S:=by
   show (match Yq Xf rules with | some ks=>if ks.length<=76 then Res.ok (PV.int ((Y9 ks).length:Nat)) S else .stuck | none=>.stuck)=_
   rw [k1];show (if ks.length<=76 then Res.ok (PV.int ((Y9 ks).length:Nat)) S else .stuck)=_;rw [bT (by omega),Qcn k2,Y]
  refine Q3 (Jy (Zi (Qp (b:=zb) (Qe (Q5 (n:=3) rfl rfl (Us (by omega) (by omega) S)))) (Qp (b:=zb) (Qe (Q1b (xs:=rules) (g:=id) (by rw [ia]; exact Jg rfl rfl (by omega)) λp Z=>⟨_,rfl,Q5 (n:=2) rfl rfl (Qru ?_ S)⟩)))) rfl) (Qn (Q7 hs rfl (Qqm S rfl)))
  rw [G];exact E8.mp h.r p Z
 refine Wi ?_;show qh [zo (Ze most q rules)] S=_;have I:Wx [.tup (q.map .str)] S=.ok (.bl zb) S:=by
  refine Wi ?_;show Ka [zo (.tup (q.map .str))] S=_;exact Qn (Q0w (Q5 (n:=3) rfl rfl (Us (by rw [G]; have:=h.s1; omega) (by rw [G]; omega) S)) (Q1b (xs:=q) (g:=PV.str) (Jg rfl rfl (by rw [G]; omega)) λx hx=>⟨_,rfl,Q5 (n:=1) rfl rfl (Q62 (h.sw x hx) S)⟩))
 exact Q3 (Jy (Zi (Qp (b:=zb) (Qe (Q5 (n:=3) rfl rfl (Us (xs:=[.int most,.tup (q.map .str),.tup rules]) (by simp) (by simp) S)))) (Qp (b:=zb) (Qe (Q5 (n:=3) rfl rfl (Qd9 h.m0 h.m1 S))))) rfl) (Qn (Q0w (Q5 (n:=1) rfl rfl I) (Q5 (n:=2) rfl rfl hr)))
theorem Q6t {most:Int} {q:List Str} {rules:List PV} (h:Man most q rules) (S:Q0):J8 [Ze most q rules] S=.ok .non S:=by
 have st:Ve [zo (Ze most q rules)] S=.nx [zo (Ze most q rules)] S:=Jy (Qp (b:=zb) (Qe (Q5 (n:=1) rfl rfl (Qt6 h S)))) rfl;unfold J8 J0;show (match Ve [zo (Ze most q rules)] S with | .rt v st'=>fin S v st' | .nx _ st'=>fin S .non st' | .exc x st'=>Qpc S x st' | _=>.stuck)=_
 rw [st];exact Qpb S
structure Ru where
 h:Nat
 s:Str
 e:Str
 t:Str
 u:Int
 ms:List (Int × Str)
variable {r:Ru} {rs:List Ru}
def ruV (r:Ru):PV:=.tup [.int r.h,.str r.s,.str r.e,.str r.t,.int r.u,.tup (r.ms.map prV)]
def stV (ss:List Str) (ls:List (Int × Str)) (u:Int):PV:=.tup [.tup (ss.map .str),.tup (ls.map prV),.int u]
def kP (p:Int × Str):HK:=.tup [.int p.1,.str p.2]
theorem Qb4 {p q:Int × Str} (h:kP p=kP q):p=q:=by
 unfold kP at h;injection h with h
 injection h with h1 h
 injection h with h2 _
 injection h1 with h1
 injection h2 with h2
 exact dO h1 h2
def evB (e:Str):Bool:=decide (e = "go") || decide (e = "fall")
def qw (r:Ru) (ss:List Str) (ls:List (Int × Str)):Bool:=decide (ss.getD r.h bx=r.s) && (evB r.e || decide (((r.h:Int),r.e)∈ls))
theorem ixs (q:h < ss.length) (S:Q0):oIx S (.tup (ss.map .str)) (.int h)=.ok (.str (ss.getD h bx)) S:=by
 refine ix_tup ?_ S;rw [D7,E1,O2 q];rfl
theorem nes (S:Q0) (a b:Str):oNe S (.str a) (.str b)=.ok (.bl (!decide (a=b))) S:=by
 show Res.ok (PV.bl (!(a == b))) S=_
 by_cases q:a=b
 ·rw [bW q,beq_iff_eq.mpr q]
 ·rw [bV q,beq_eq_false_iff_ne.mpr q]
theorem eqs (S:Q0) (a b:Str):oEq S (.str a) (.str b)=.ok (.bl (decide (a=b))) S:=by
 show Res.ok (PV.bl (a == b)) S=_
 by_cases q:a=b
 ·rw [bW q,beq_iff_eq.mpr q]
 ·rw [bV q,beq_eq_false_iff_ne.mpr q]
theorem Qq9 (p q:Int × Str):peq (prV p) (prV q)=decide (p=q):=by
 show ((p.1 == q.1) && ((p.2 == q.2) && zb))=_
 by_cases e:p=q
 ·subst e; simp
 ·rw [bV e]
  by_cases G:p.1=q.1
  ·by_cases I:p.2=q.2
   ·exact absurd (dO G I) e
   ·simp [I]
  ·simp [G]
theorem Qit (ls:List (Int × Str)) (p:Int × Str) (S:Q0):oIn yo S (prV p) (.tup (ls.map prV))=.ok (.bl (decide (p∈ls))) S:=by
 show (if good dep (prV p)=zb/\(ls.map prV).all (good dep)=zb then Res.ok (PV.bl (((ls.map prV).any λy=>peq y (prV p)) != yo)) S else .stuck)=_
 rw [bT ⟨rfl,by rw [bu,E8]; exact λ_ _=>rfl⟩];have:((ls.map prV).any λy=>peq y (prV p))=decide (p∈ls):=by
  rw [dM]
  by_cases q:p∈ls
  ·rw [bW q,cM];exact ⟨p,q,by show peq (prV p) (prV p)=zb; rw [Qq9]; simp⟩
  ·rw [bV q,cx];intro x G;show ¬ peq (prV x) (prV p)=zb;rw [Qq9];intro e;have e:x=p:=by simpa using e
   rw [e] at G; exact q G
 rw [this,cb]
theorem Qcj {a b:ME} {x y:Bool} (h:a Γ S=.ok (.bl x) S) (h2:b Γ S=.ok (.bl y) S):mOr a b Γ S=.ok (.bl (x || y)) S:=by
 rw [Qt8,h,Qk];cases x with
 | true=>rfl
 | false=>exact h2
theorem Qd5 (r:Ru) (J:r.h < ss.length) (ls:List (Int × Str)) (u:Int) (S:Q0):J1 [ruV r,stV ss ls u] S=.ok (.bl (qw r ss ls)) S:=by
 refine Wi ?_;show Vh [zo (ruV r),zo (stV ss ls u)] S=_;have h1:=ixs J S;have G:=nes S (ss.getD r.h bx) r.s;unfold Vh
 by_cases q:ss.getD r.h bx=r.s
 ·rw [bW q] at G;have I:qw r ss ls=(decide (r.e = "go") || (decide (r.e = "fall") || decide (((r.h:Int),r.e)∈ls))):=by
   unfold qw evB; rw [bW q,F9,Bool.or_assoc]
  rw [I];exact Q3 (Jy (Qe (Q7 (Q7 rfl rfl h1) rfl G)) rfl) (Qn (Qcj (Q7 rfl rfl (eqs S r.e "go")) (Qcj (Q7 rfl rfl (eqs S r.e "fall")) (Q7 rfl rfl (Qit ls ((r.h:Int),r.e) S)))))
 ·rw [bV q] at G;have I:qw r ss ls=yo:=by unfold qw; rw [bV q,L3]
  rw [I];exact Jr (Vn (Qe (Q7 (Q7 rfl rfl h1) rfl G)) rfl)
theorem Q7p (ks:List HK) (k:HK):(Xj (Qt ks) k).isSome=decide (k∈ks):=by
 unfold Xj Qt;rw [dR]
 by_cases q:k∈ks
 ·rw [bW q,ib];exact ⟨(k,.bl zb),E5.mpr ⟨k,q,rfl⟩,by simp⟩
 ·rw [bV q];cases z:fS (λkv=>decide (kv.1=k)) (ks.map λk=>(k,PV.bl zb)) with
  | none=>rfl
  | some x=>
   have h1:=fU z;have h2:=fT z;obtain ⟨y,G,rfl⟩:=E5.mp h1;have:y=k:=by simpa using h2
   rw [this] at G; exact absurd G q
theorem Qt5 (r:Ru) (Y:r.h < ss.length) {i j:Nat} (hi:S[i]?=zo (.lst (ss.map .str))) (Z:S[j]?=zo (.dtp (Qt ks))) :
  Jh [ruV r,.tup [.ref i,.ref j]] S=.ok (.bl (decide (ss.getD r.h bx=r.s) && (evB r.e || decide (kP ((r.h:Int),r.e)∈ks)))) S:=by
 refine Wi ?_;show Zs [zo (ruV r),zo (.tup [.ref i,.ref j])] S=_;have hV:ListAt S (.ref i) (ss.map .str):=.inr (.inr ⟨i,rfl,hi⟩);have h1:oIx S (.ref i) (.int r.h)=.ok (.str (ss.getD r.h bx)) S:=by
  rw [hV.ix];exact ixs Y S
 have G:=nes S (ss.getD r.h bx) r.s;have hd:Zr S (.ref j)=zo (Qt ks):=by show (match S[j]? with | some (.dtp I)=>zo I | _=>zl)=_; rw [Z]
 have J:Qi0 S (.tup [.int r.h,.str r.e]) (.ref j)=.ok (.bl (decide (kP ((r.h:Int),r.e)∈ks))) S:=by
  unfold Qi0;rw [hd];show qe yo S _ _=_;unfold qe;rw [hd,show Xf (.tup [.int r.h,.str r.e])=zo (kP ((r.h:Int),r.e)) from rfl];show Res.ok (PV.bl ((Xj (Qt ks) _).isSome != yo)) S=_;rw [Q7p,cb]
 have O:Q90 yo ["go", "fall"] (mOp oIx (Q2 0) (mC (.int 2))) [zo (ruV r),zo (.tup [.ref i,.ref j])] S=.ok (.bl (evB r.e)) S:=by
  rw [Qb8 (x:=r.e) (S1:=S) rfl];congr 2;rw [cb];show (decide ("go" = r.e) || (decide ("fall" = r.e) || false))=_;unfold evB;rw [cz];congr 1 <;> exact decide_eq_decide.mpr eq_comm
 unfold Zs
 by_cases q:ss.getD r.h bx=r.s
 ·rw [bW q] at G ⊢;rw [F9];exact Q3 (Jy (Qe (Q7 (Q7 (Q7 rfl rfl rfl) rfl h1) rfl G)) rfl) (Qn (Qcj O (Q7 rfl rfl J)))
 ·rw [bV q] at G ⊢;rw [L3];exact Jr (Vn (Qe (Q7 (Q7 (Q7 rfl rfl rfl) rfl h1) rfl G)) rfl)
theorem Y3 (S:Q0) (c:Cell):(S ++ [c])[S.length]?=zo c:=by rw [D4 (O5 _),L6]; rfl
theorem Qpy (S:Q0) {a b:List PV} (h:a.length + b.length<=1000000):Zj S (.tup a) (.tup b)=.ok (.tup (a ++ b)) S:=bT (show _<=lim from h)
theorem Qcb (h:S[n]?=zo (.lst xs)) (q:k < xs.length) (v:PV):Ke S (.ref n) (.int k) v=zo (S.set n (.lst (xs.set k v))):=by
 unfold Ke;simp only [h];rw [Qp3 q];rfl
theorem Qpz (acc:List (Int × Str)) (p:Int × Str):Jb (acc.map kP) (kP p)=(Jb acc p).map kP:=by
 unfold Jb
 by_cases q:p∈acc
 ·rw [bT q,bT (E5.mpr ⟨p,q,rfl⟩)]
 ·rw [bU q,bU,F3]
  ·rfl
  ·intro h;obtain ⟨x,G,e⟩:=E5.mp h;rw [Qb4 e] at G; exact q G
theorem Qa5 [DecidableEq α] (acc:List α) (p:α):(Jb acc p).length<=acc.length + 1:=by unfold Jb; split <;> simp
theorem Q54 {D:Nat} {x0 x1 x2:Option PV}:∀ (ps acc:List (Int × Str)) (S:Q0) (a:Option PV),S[D]?=zo (.dtp (Qt (acc.map kP)))->acc.length + ps.length < 1000 ->
  ∃ O,Jm (Qb 4) Yy [] (ps.map prV) [x0,x1,x2,zo (.ref D),a] S=.nx [x0,x1,x2,zo (.ref D),O] (S.set D (.dtp (Qt ((ps.foldl Jb acc).map kP))))
 | [],acc,S,a,h,_=>⟨a,by
  have I:=(O3.mp h).1;have:S.set D (.dtp (Qt (acc.map kP)))=S:=by
   apply cS;intro i
   by_cases q:D=i
   ·subst q; rw [F0 I,h]
   ·rw [E9 q]
  simp [Jm,this]⟩
 | p :: ps,acc,S,a,h,Y=>by
  rw [D3] at Y;have I:=(O3.mp h).1;have G:=Q0t h (by rw [O0]; omega) (p:=prV p) (k:=kP p) rfl;rw [Qpz] at G;have J:Yy [x0,x1,x2,zo (.ref D),zo (prV p)] S=.nx [x0,x1,x2,zo (.ref D),zo (prV p)] (S.set D (.dtp (Qt ((Jb acc p).map kP)))):=jg rfl rfl rfl G;obtain ⟨O,e⟩:=Q54 ps (Jb acc p) (S.set D (.dtp (Qt ((Jb acc p).map kP)))) (zo (prV p)) (F0 I) (by have:=Qa5 acc p; omega);refine ⟨O,?_⟩;rw [List.set_set] at e;rw [D5,F2,<- e];simp [Jm,J]
def lsT (ls ms:List (Int × Str)):List (Int × Str):=Ur (Y9 (ls ++ ms))
theorem Qew (ps:List (Int × Str)):Q5h (Qt (ps.map kP))=zo ps:=by
 induction ps with
 | nil=>rfl
 | cons p ps q=>
  show (match Qb3 (kP p),Q5h (Qt (ps.map kP)) with | some p,zo l=>zo (p :: l) | _,_=>zl)=_
  rw [q];rfl
theorem yi (ss:List Str) (ls:List (Int × Str)) (u:Int):good 12 (stV ss ls u)=zb:=by
 show ((ss.map PV.str).all (good 10) && ((ls.map prV).all (good 10) && (zb && zb)))=zb;have h1:(ss.map PV.str).all (good 10)=zb:=by rw [bu,E8]; exact λ_ _=>rfl
 have h2:(ls.map prV).all (good 10)=zb:=by rw [bu,E8]; exact λ_ _=>rfl
 rw [h1,h2];rfl
theorem Qc7 (r:Ru) (hh:r.h < ss.length) (hl:ls.length + r.ms.length < 64) (u:Int) (S:Q0):Qv [ruV r,stV ss ls u] S=.ok (stV (ss.set r.h r.t) (lsT ls r.ms) (u + r.u)) S:=by
 have c1:(S ++ [Cell.lst (ss.map .str)])[S.length]?=zo (.lst (ss.map .str)):=Y3 _ _;have hs:=Qcb c1 (k:=r.h) (by rw [O0]; exact hh) (.str r.t);have e1:(S ++ [Cell.lst (ss.map PV.str)]).set S.length (.lst ((ss.map PV.str).set r.h (.str r.t)))=S ++ [Cell.lst ((ss.set r.h r.t).map PV.str)]:=by
  rw [dL _ _ (O5 _),L6,ic];rfl
 rw [e1] at hs;obtain ⟨q,J⟩:∃ q,S ++ [Cell.lst ((ss.set r.h r.t).map PV.str)]=q:=⟨_,rfl⟩;rw [J] at hs;have cD:(q ++ [Cell.dtp []])[q.length]?=zo (.dtp (Qt (([]:List (Int × Str)).map kP))):=Y3 _ _;have a1:(ls ++ r.ms).length < 64:=by rw [O6]; exact hl
 obtain ⟨a',Y⟩:=Q54 (x0:=zo (ruV r)) (x1:=zo (stV ss ls u)) (x2:=zo (.ref S.length)) (ls ++ r.ms) [] (q ++ [Cell.dtp []]) zl cD (by simp only [cG]; omega);have e3:(q ++ [Cell.dtp []]).set q.length (.dtp (Qt (((ls ++ r.ms).foldl Jb []).map kP)))=q ++ [Cell.dtp (Qt ((Y9 (ls ++ r.ms)).map kP))]:=by
  rw [dL _ _ (O5 _),L6];rfl
 rw [e3] at Y;have a2:=Uh (ls ++ r.ms);obtain ⟨G,I⟩:∃ G,q ++ [Cell.dtp (Qt ((Y9 (ls ++ r.ms)).map kP))]=G:=⟨_,rfl⟩;rw [I] at Y;have d4:Zr G (.ref q.length)=zo (Qt ((Y9 (ls ++ r.ms)).map kP)):=by
  have:G[q.length]?=zo (.dtp (Qt ((Y9 (ls ++ r.ms)).map kP))):=by rw [<- I]; exact Y3 _ _
  show (match G[q.length]? with | some (.dtp Z)=>zo Z | _=>zl)=_
  rw [this]
 have s4:Q46 G [.ref q.length]=.ok (.lst ((lsT ls r.ms).map prV)) G:=by
  unfold Q46;simp only [d4,Qew];rw [bT (by omega)];rfl
 have t4:W8 G [.ref S.length]=.ok (.tup ((ss.set r.h r.t).map .str)) G:=by
  have:G[S.length]?=zo (.lst ((ss.set r.h r.t).map .str)):=by
   rw [<- I,<- J,O8 (by simp)];exact Y3 _ _
  show (match (match G[S.length]? with | some (.lst xs)=>zo xs | _=>zl) with | some xs=>Res.ok (PV.tup xs) G | none=>.stuck)=_
  rw [this]
 have O:Zj (q ++ [Cell.dtp []]) (.tup (ls.map prV)) (.tup (r.ms.map prV))=.ok (.tup ((ls ++ r.ms).map prV)) (q ++ [Cell.dtp []]):=by
  rw [Qpy _ (by rw [O0,O0]; omega),F3]
 have st:Vf [zo (ruV r),zo (stV ss ls u),zl,zl,zl] S=.rt (stV (ss.set r.h r.t) (lsT ls r.ms) (u + r.u)) G:=by
  unfold Vf;refine Q3 (Qj (X0 (ps:=ss.map .str) rfl)) ?_;refine Q3 (Qgb rfl rfl rfl hs) ?_;refine Q3 (Qj rfl) ?_;refine Q3 (Ju (Jg (Q7 rfl rfl O) rfl (by rw [O0]; omega)) Y) ?_;exact Qn (zg (Qh (Jw rfl t4) (Qh (Jw (Qh (Jw rfl s4) rfl) rfl) (Qh (Q7 rfl rfl (Qfh G u r.u)) rfl))) (by simp))
 have:=Vr (nl:=5) (ps:=[ruV r,stV ss ls u]) st;unfold Qv;rw [this,<- I,<- J,dB];exact Q0n (yi _ _ _)
theorem Q07 {α:Type} [DecidableEq α]:∀ {l m:List α},l.Nodup->(∀ x∈l,x∈m)->l.length<=m.length
 | [],_,_,_=>F8 _
 | a :: l,m,h,hs=>by
  obtain ⟨h1,h2⟩:=cW.mp h;have q:=hs a (by simp);have:=Q07 (m:=m.erase a) h2 λx G=>(iE (show x≠a from λe=>h1 (by rw [<- e]; exact G))).mpr (hs x (O4 _ G))
  rw [iD q] at this;have:=iC q;rw [D3];omega
theorem Qi7 [DecidableEq α] {acc:List α} {p x:α}:x∈Jb acc p <-> x∈acc\/x=p:=by
 unfold Jb
 split
 ·rename_i q;exact ⟨.inl,λh=>h.elim id (λe=>e ▸ q)⟩
 ·simp
theorem yy {α:Type} [DecidableEq α] {x:α}:∀ {ps acc:List α},x∈ps.foldl Jb acc <-> x∈acc\/x∈ps
 | [],acc=>by simp
 | p :: ps,acc=>by
  rw [F2,yy,Qi7,D6];constructor
  ·rintro ((h | h) | h)
   ·exact .inl h
   ·exact .inr (.inl h)
   ·exact .inr (.inr h)
  ·rintro (h | h | h)
   ·exact .inl (.inl h)
   ·exact .inl (.inr h)
   ·exact .inr h
theorem Qde [DecidableEq α] {ks:List α} (h:ks.Nodup) (k:α):(Jb ks k).Nodup:=by
 unfold Jb
 split
 ·exact h
 ·rename_i q;exact cZ.mpr ⟨h,by simp,λx G y I e=>by
   have:y=k:=by simpa using I
   rw [e,this] at G; exact q G⟩
theorem Q7a {α:Type} [DecidableEq α]:∀ {ps acc:List α},acc.Nodup->(ps.foldl Jb acc).Nodup
 | [],_,h=>h
 | p :: ps,_,h=>by rw [F2]; exact Q7a (Qde h p)
theorem mem_lsT {x:Int × Str}:x∈lsT ls ms <-> x∈ls\/x∈ms:=by
 unfold lsT;rw [(W0 _).mem_iff];unfold Y9;rw [yy,E3];simp
def InW (ws:List Str) (p:Int × Str):Prop:=0<=p.1/\p.1 < 4/\p.2∈ws
structure StI (n:Nat) (ws:List Str) (ss:List Str) (ls:List (Int × Str)):Prop where
 len:ss.length=n
 nd:ls.Nodup
 sub:∀ p∈ls,InW ws p
theorem StI.small (I:StI n ws ss ls) (J:ws.length<=2):ls.length<=8:=by
 have h:=Q07 (m:=(ws.map λw=>(0,w)) ++ (ws.map λw=>(1,w)) ++ (ws.map λw=>(2,w)) ++ (ws.map λw=>((3:Int),w))) I.nd λp G=>by
  obtain ⟨h1,h2,q⟩:=I.sub p G;have:p.1=0\/p.1=1\/p.1=2\/p.1=3:=by omega
  obtain ⟨a,b⟩:=p;simp only [E3,E5,Prod.mk.injEq];rcases this with e | e | e | e
  ·exact .inl (.inl (.inl ⟨b,q,e.symm,rfl⟩))
  ·exact .inl (.inl (.inr ⟨b,q,e.symm,rfl⟩))
  ·exact .inl (.inr ⟨b,q,e.symm,rfl⟩)
  ·exact .inr ⟨b,q,e.symm,rfl⟩
 simp only [O6,O0] at h;omega
structure RuI (n:Nat) (ws:List Str) (r:Ru):Prop where
 h:r.h < n
 ms:r.ms.length<=8
 sub:∀ p∈r.ms,InW ws p
theorem StI.step (I:StI n ws ss ls) (J:RuI n ws r):StI n ws (ss.set r.h r.t) (lsT ls r.ms) where
 len:=by rw [G7]; exact I.len
 nd:=(W0 _).nodup_iff.mpr (Q7a cQ)
 sub:=λp q=>(mem_lsT.mp q).elim (I.sub p) (J.sub p)
def Up (rs:List Ru):List Int->List Str->List (Int × Str)->Int->Option Int
 | [],_,_,u=>zo u
 | k :: ks,ss,ls,u=>match rs[k.toNat]? with
  | some r=>if 0<=k/\qw r ss ls=zb then Up rs ks (ss.set r.h r.t) (lsT ls r.ms) (u + r.u) else zl
  | none=>zl
def Qpr (most:Int) (starts:List Str) (rs:List Ru) (ks:List Int):Bool:=match Up rs ks starts [] 0 with
 | some u=>decide (most < u)
 | none=>yo
structure MI1 (starts:List Str) (rs:List Ru) (ws:List Str):Prop where
 w2:ws.length<=2
 ru:∀ r∈rs,RuI starts.length ws r
 len:rs.length<=9
theorem lei (S:Q0) (a b:Int):(oI λa b=>.bl (decide (a<=b))) S (.int a) (.int b)=.ok (.bl (decide (a<=b))) S:=rfl
theorem gei (S:Q0) (a b:Int):(oI λa b=>.bl (decide (b<=a))) S (.int a) (.int b)=.ok (.bl (decide (b<=a))) S:=rfl
theorem lti (S:Q0) (a b:Int):oLt S (.int a) (.int b)=.ok (.bl (decide (a < b))) S:=by simp
theorem Qvr {k:Int} (h0:0<=k) (h:rs[k.toNat]?=zo r) (S:Q0):oIx S (.tup (rs.map ruV)) (.int k)=.ok (ruV r) S:=by
 have e:k=((k.toNat:Nat):Int):=by omega
 rw [e];refine ix_tup ?_ S;rw [D7,h];rfl
def U (S:Q0) (ss:List Str) (K:List HK):Q0:=S ++ [Cell.lst (ss.map .str),.dtp (Qt K)]
theorem U_i (S:Q0) (ss:List Str) (K:List HK):(U S ss K)[S.length]?=zo (.lst (ss.map .str)):=by
 unfold U; rw [D4 (O5 _),L6]; rfl
theorem U_j (S:Q0) (ss:List Str) (K:List HK):(U S ss K)[S.length + 1]?=zo (.dtp (Qt K)):=by
 unfold U; rw [D4 (by omega),show S.length + 1 - S.length=1 by omega]; rfl
theorem J08 (S:Q0) (ss q:List Str) (K:List HK):(U S ss K).set S.length (.lst (q.map .str))=U S q K:=by
 unfold U; rw [dL _ _ (O5 _),L6]; rfl
theorem J07 (S:Q0) (ss:List Str) (K q:List HK):(U S ss K).set (S.length + 1) (.dtp (Qt q))=U S ss q:=by
 unfold U; rw [dL _ _ (by omega),show S.length + 1 - S.length=1 by omega]; rfl
def Q63 (K:List HK) (ms:List (Int × Str)):List HK:=ms.foldl (λacc p=>Jb acc (kP p)) K
theorem Qc3 (ms:List (Int × Str)):∀ K:List HK,Q63 K ms=(ms.map kP).foldl Jb K:=by
 unfold Q63
 induction ms with
 | nil=>intro K; rfl
 | cons p ms q=>intro K; rw [F2,D5,F2,q]
theorem Qi6 {K:List HK} {p:Int × Str}:kP p∈Q63 K ms <-> kP p∈K\/p∈ms:=by
 rw [Qc3,yy,E5];constructor
 ·rintro (h | ⟨x,hx,e⟩)
  ·exact .inl h
  ·rw [Qb4 e] at hx; exact .inr hx
 ·rintro (h | h)
  ·exact .inl h
  ·exact .inr ⟨p,h,rfl⟩
theorem Qfq (K:List HK) (ms:List (Int × Str)):(Q63 K ms).length<=K.length + ms.length:=by
 rw [Qc3];have:=Ws (ms.map kP) K
 rwa [O0] at this
theorem Qeb (ms:List (Int × Str)):K3 (ms.map λp=>.tup [prV p,.bl zb])=zo (Qt (ms.map kP)):=by
 induction ms with
 | nil=>rfl
 | cons p ms q=>
  show (match Xf (prV p),K3 (ms.map λp=>.tup [prV p,.bl zb]) with | some k,zo l=>zo ((k,PV.bl zb) :: l) | _,_=>zl)=_
  rw [q];rfl
theorem Qaj (ms:List (Int × Str)):∀ K:List HK,Vc (Qt K) (Qt (ms.map kP))=Qt (Q63 K ms):=by
 induction ms with
 | nil=>intro K; rfl
 | cons p ms q=>
  intro K;show Vc (Sm.putT (Qt K) (kP p) (.bl zb)) (Qt (ms.map kP))=_;rw [Q2t,q];rfl
theorem Qqs {K:List HK} (G:K.length + ms.length<=100000):Qkb (U S ss K) (.ref (S.length + 1)) [.lst (ms.map λp=>.tup [prV p,.bl zb])]=.ok .non (U S ss (Q63 K ms)):=by
 have hd:Zr (U S ss K) (.ref (S.length + 1))=zo (Qt K):=by show (match (U S ss K)[S.length + 1]? with | some (.dtp q)=>zo q | _=>zl)=_; rw [U_j]
 unfold Qkb;simp only [hd,Qeb];rw [bT (by rw [qr]; unfold Qt; simp only [O0]; omega),Qaj,J07]
theorem Qpk {o':OP} {a b c:ME} {y z:PV} {r:Res PV} (h1:a Γ S=.ok x S) (h2:b Γ S=.ok y S) (q:o S x y=.ok (.bl zb) S) (G:c Γ S=.ok z S) (I:o' S y z=r):W5 o o' a b c Γ S=r:=by
 unfold W5;rw [h1,Qk,h2,Qk,q,Qk];show (c Γ S).bind _=_;rw [G,Qk];exact I
theorem Qpm {o':OP} {a b c:ME} {y:PV} (h1:a Γ S=.ok x S) (h2:b Γ S=.ok y S) (q:o S x y=.ok (.bl yo) S):W5 o o' a b c Γ S=.ok (.bl yo) S:=by
 unfold W5;rw [h1,Qk,h2,Qk,q,Qk]
theorem Q7r {G ws:List Str} {rs:List Ru} (M:MI1 G rs ws) {most:Int} {V:PV} {S:Q0} {w:Wt} (hw:∀ ss K,wOk w (U S ss K)):∀ (ks:List Int) (ss:List Str) (ls:List (Int × Str)) (K:List HK) (u:Int) (a b:Option PV),StI G.length ws ss ls->(∀ p,kP p∈K <-> p∈ls)->K.length + 8 * ks.length<=100000 ->
  (Up rs ks ss ls u=zl/\∃ Z K',Jm (Qb 5) J3 w (ks.map .int) [zo (Ze most G (rs.map ruV)),zo V,zo (.ref S.length),zo (.ref (S.length + 1)),zo (.int u),a,b] (U S ss K)=.rt .non (U S Z K')) \/
  (∃ u' a' b' Z K',Up rs ks ss ls u=zo u'/\Jm (Qb 5) J3 w (ks.map .int) [zo (Ze most G (rs.map ruV)),zo V,zo (.ref S.length),zo (.ref (S.length + 1)),zo (.int u),a,b] (U S ss K)=.nx [zo (Ze most G (rs.map ruV)),zo V,zo (.ref S.length),zo (.ref (S.length + 1)),zo (.int u'),a',b'] (U S Z K'))
 | [],ss,ls,K,u,a,b,_,_,_=>.inr ⟨u,a,b,ss,K,rfl,by simp [Jm,hw]⟩
 | k :: ks,ss,ls,K,u,a,b,I,hK,hb=>by
  have a1:((rs.map ruV).length:Int)=(rs.length:Int):=by rw [O0]
  rw [D3] at hb;generalize hA:U S ss K=A;have a3:wOk w A:=hA ▸ hw ss K;have stop:∀ (Y:J3 [zo (Ze most G (rs.map ruV)),zo V,zo (.ref S.length),zo (.ref (S.length + 1)),zo (.int u),zo (.int k),b] A=.rt .non A),∃ Z K',Jm (Qb 5) J3 w ((k :: ks).map .int) [zo (Ze most G (rs.map ruV)),zo V,zo (.ref S.length),zo (.ref (S.length + 1)),zo (.int u),a,b] A=.rt .non (U S Z K'):=λY=>⟨ss,K,by rw [hA]; simp [Jm,a3,Y]⟩
  have O:∀ x:Bool,(decide ((0:Int)<=k) && decide (k < (rs.length:Int)))=x->toB (W5 (oI λa b=>.bl (decide (a<=b))) oLt (mC (.int 0)) (Q2 5) (Qi Je (Q1 (mOp oIx (Q2 0) (mC (.int 2))) Q4))) [zo (Ze most G (rs.map ruV)),zo V,zo (.ref S.length),zo (.ref (S.length + 1)),zo (.int u),zo (.int k),b] A=.ok x A:=λx hx=>by
   refine Qe ?_;have h2:=lti A k ((rs.map ruV).length:Int);rw [a1] at h2
   by_cases q0:(0:Int)<=k
   ·rw [bW q0,F9] at hx;refine Qpk (z:=.int ((rs.map ruV).length:Nat)) rfl rfl (by rw [lei,bW q0]) rfl ?_;rw [a1,h2,hx]
   ·rw [bV q0,L3] at hx;rw [<- hx];exact Qpm rfl rfl (by rw [lei,bV q0])
  by_cases q:(decide ((0:Int)<=k) && decide (k < (rs.length:Int)))=zb
  ·have q':=q;simp only [E4,decide_eq_true_eq] at q';have hk:k.toNat < rs.length:=by omega
   have hr:rs[k.toNat]?=zo rs[k.toNat]:=O2 hk;have J:=M.ru _ (L7 hk);generalize rs[k.toNat]=r at hr J;have a2:=Qvr q'.1 hr A;have hm:Jh [ruV r,.tup [.ref S.length,.ref (S.length + 1)]] A=.ok (.bl (qw r ss ls)) A:=by
    rw [<- hA,Qt5 r (ss:=ss) (ks:=K) (by rw [I.len]; exact J.h) (U_i S ss K) (U_j S ss K)];congr 2;unfold qw;rw [decide_eq_decide.mpr (hK ((r.h:Int),r.e))]
   cases z:qw r ss ls with
   | false=>
    rw [z] at hm;refine .inl ⟨?_,stop (Jr (Vn (Zi (Qp (O zb q)) (Qp (Qe (Q5 (n:=2) (Qh (Q7 rfl rfl a2) rfl) rfl hm)))) rfl))⟩;rw [Up,hr];simp [z]
   | true=>
    rw [z] at hm;have hs:=Qcb (S:=U S ss K) (U_i S ss K) (k:=r.h) (by rw [O0,I.len]; exact J.h) (.str r.t);have a7:((ss.map PV.str).set r.h (.str r.t))=(ss.set r.h r.t).map PV.str:=by rw [ic]
    rw [a7,J08,hA] at hs;have hJ:=J.ms;have hu:=Qqs (S:=S) (ss:=ss.set r.h r.t) (K:=K) (ms:=r.ms) (by omega);have hd:Zr (U S (ss.set r.h r.t) K) (.ref (S.length + 1))=zo (Qt K):=by show (match (U S (ss.set r.h r.t) K)[S.length + 1]? with | some (.dtp a5)=>zo a5 | _=>zl)=_; rw [U_j]
    have hc:Jn (Qb 0) Ja Zq [] [zl] (r.ms.map prV) (U S (ss.set r.h r.t) K)=.ok (r.ms.map λp=>.tup [prV p,.bl zb]) (U S (ss.set r.h r.t) K):=
     Vp prV (λp=>PV.tup [prV p,.bl zb]) (Qz _) λp _=>⟨_,rfl,rfl⟩
    have a4:Qnk (Q2 3) (Q1 (Zx (Qs [zl] (Qb 0) (Y4 (mOp oIx (Q2 6) (mC (.int 5)))) Ja Zq)) Q4) [zo (Ze most G (rs.map ruV)),zo V,zo (.ref S.length),zo (.ref (S.length + 1)),zo (.int u),zo (.int k),zo (ruV r)] (U S (ss.set r.h r.t) K)=.ok .non (U S (ss.set r.h r.t) (Q63 K r.ms)):=by
     have hv:Zx (Qs [zl] (Qb 0) (Y4 (mOp oIx (Q2 6) (mC (.int 5)))) Ja Zq) [zo (Ze most G (rs.map ruV)),zo V,zo (.ref S.length),zo (.ref (S.length + 1)),zo (.int u),zo (.int k),zo (ruV r)] (U S (ss.set r.h r.t) K)=.ok (.lst (r.ms.map λp=>.tup [prV p,.bl zb])) (U S (ss.set r.h r.t) K):=Vu (Yx (Jg rfl rfl (by rw [O0]; omega)) hc);unfold Qnk;show (match Zr (U S (ss.set r.h r.t) K) (.ref (S.length + 1)) with | some _=>_ | none=>_)=_
     rw [hd];show ((Q1 _ Q4) _ _).bind _=_;rw [Qh hv (show Q4 _ _=.ok [] _ from rfl),Qk];exact hu
    have a6:J3 [zo (Ze most G (rs.map ruV)),zo V,zo (.ref S.length),zo (.ref (S.length + 1)),zo (.int u),zo (.int k),b] A=.nx [zo (Ze most G (rs.map ruV)),zo V,zo (.ref S.length),zo (.ref (S.length + 1)),zo (.int (u + r.u)),zo (.int k),zo (ruV r)] (U S (ss.set r.h r.t) (Q63 K r.ms)):=
     Q3 (Jy (Zi (Qp (O zb q)) (Qp (Qe (Q5 (n:=2) (Qh (Q7 rfl rfl a2) rfl) rfl hm)))) rfl) (Q3 (Qj (Q7 rfl rfl a2)) (Q3 (Qgb rfl rfl rfl hs) (Q3 (yb a4) rfl)))
    have a9:Up rs (k :: ks) ss ls u=Up rs ks (ss.set r.h r.t) (lsT ls r.ms) (u + r.u):=by
     rw [Up,hr];simp only;rw [bT ⟨q'.1,z⟩]
    have a8:Jm (Qb 5) J3 w ((k :: ks).map .int) [zo (Ze most G (rs.map ruV)),zo V,zo (.ref S.length),zo (.ref (S.length + 1)),zo (.int u),a,b] A=Jm (Qb 5) J3 w (ks.map .int) [zo (Ze most G (rs.map ruV)),zo V,zo (.ref S.length),zo (.ref (S.length + 1)),zo (.int (u + r.u)),zo (.int k),zo (ruV r)] (U S (ss.set r.h r.t) (Q63 K r.ms)):=by
     simp [Jm,a3,a6]
    rw [a9,a8];exact Q7r M hw ks _ _ _ _ _ _ (I.step J) (λp=>by rw [Qi6,mem_lsT,hK]) (by have:=Qfq K r.ms; omega)
  ·have q:=ie _ ▸ q;refine .inl ⟨?_,stop (Jr (Vn (Qee (Qp (O yo q))) rfl))⟩;rw [Up]
   split
   ·rename_i r hr;have:=(O3.mp hr).1;rw [bU];rintro ⟨z1,_⟩;have:(decide ((0:Int)<=k) && decide (k < (rs.length:Int)))=zb:=by simp; omega
    rw [q] at this; cases this
   ·rfl
theorem Qqk (S:Q0) (ss:List Str) (K:List HK) (v:PV) (q:good 12 v=zb):fin S v (U S ss K)=.ok v S:=Q0n q
theorem Qka {q:List Str} (M:MI1 q rs ws) (most:Int) {V:PV} {w:Wt} {ks:List Int} (Z:∀ T,Y0 (S ++ T) V=zo (ks.map .int,w)) (hw:∀ T,wOk w (S ++ T)) (hl:ks.length<=1000):Zt [Ze most q (rs.map ruV),V] S=.ok (match Up rs ks q [] 0 with | some u=>.int u | none=>.non) S:=by
 have I0:StI q.length ws q []:=⟨rfl,cQ,λp hp=>nomatch hp⟩;have hU:(S ++ [Cell.lst (q.map PV.str)]) ++ [Cell.dtp []]=U S q []:=by rw [dB]; rfl
 have I:(S ++ [Cell.lst (q.map PV.str)]).length=S.length + 1:=by simp
 have hd:Q0c [zo (Ze most q (rs.map ruV)),zo V,zo (.ref S.length),zl,zl,zl,zl] (S ++ [Cell.lst (q.map PV.str)])=.ok (.ref (S.length + 1)) (U S q []):=by
  show Res.ok (PV.ref (S ++ [Cell.lst (q.map PV.str)]).length) _=_;rw [I,hU]
 unfold Zt;rcases Q7r M (most:=most) (V:=V) (S:=S) (w:=w) (λss K=>hw _) ks q [] [] 0 zl zl I0 (λp=>by simp) (by simp; omega) with ⟨Y,G,O,J⟩ | ⟨u',a',b',G,O,Y,J⟩
 ·rw [Y];have st:Vd [zo (Ze most q (rs.map ruV)),zo V,zl,zl,zl,zl,zl] S=.rt .non (U S G O):=
   Q3 (Qj (X0 (ps:=q.map .str) rfl)) (Q3 (Qj hd) (Q3 (Qj rfl) (Jr (Ju (Jg rfl (Z _) (by rw [O0]; omega)) J))))
  rw [Vr (nl:=7) (ps:=[Ze most q (rs.map ruV),V]) st,Qqk _ _ _ _ rfl]
 ·rw [Y];have st:Vd [zo (Ze most q (rs.map ruV)),zo V,zl,zl,zl,zl,zl] S=.rt (.int u') (U S G O):=
   Q3 (Qj (X0 (ps:=q.map .str) rfl)) (Q3 (Qj hd) (Q3 (Qj rfl) (Q3 (Ju (Jg rfl (Z _) (by rw [O0]; omega)) J) (Qn rfl))))
  rw [Vr (nl:=7) (ps:=[Ze most q (rs.map ruV),V]) st,Qqk _ _ _ _ rfl]
theorem Qjv {q:List Str} (M:MI1 q rs ws) {most:Int} (h:Man most q (rs.map ruV)) {V:PV} {w:Wt} {ks:List Int} (J:∀ T,Y0 (S ++ T) V=zo (ks.map .int,w)) (I:∀ T,wOk w (S ++ T)) (G:ks.length<=1000):Uj [Ze most q (rs.map ruV),V] S=.ok (.bl (Qpr most q rs ks)) S:=by
 have h1:=Q6t h S;have h2:=Qka M most (S:=S) J I G;refine Wi ?_;show zt [zo (Ze most q (rs.map ruV)),zo V,zl] S=_;unfold Qpr;cases z:Up rs ks q [] 0 with
 | none=>
  rw [z] at h2;exact Q3 (yb (Q5 (n:=1) rfl rfl h1)) (Q3 (Qj (Q5 (n:=2) rfl rfl h2)) (Qn (Q0x (x:=yo) (Q7 rfl rfl rfl) (λe=>nomatch e) λ_=>rfl)))
 | some u=>
  rw [z] at h2;exact Q3 (yb (Q5 (n:=1) rfl rfl h1)) (Q3 (Qj (Q5 (n:=2) rfl rfl h2)) (Qn (Q0x (x:=zb) (Q7 rfl rfl rfl) (λ_=>Q7 rfl rfl rfl) (λe=>nomatch e))))
theorem Qnh (r:Ru) (J:r.h < ss.length) (ls:List (Int × Str)) (u:Int) (S:Q0):Jh [ruV r,stV ss ls u] S=.ok (.bl (qw r ss ls)) S:=by
 refine Wi ?_;show Zs [zo (ruV r),zo (stV ss ls u)] S=_;have h1:=ixs J S;have G:=nes S (ss.getD r.h bx) r.s;have I:Q90 yo ["go", "fall"] (mOp oIx (Q2 0) (mC (.int 2))) [zo (ruV r),zo (stV ss ls u)] S=.ok (.bl (evB r.e)) S:=by
  rw [Qb8 (x:=r.e) (S1:=S) rfl];congr 2;rw [cb];show (decide ("go" = r.e) || (decide ("fall" = r.e) || false))=_;unfold evB;rw [cz];congr 1 <;> exact decide_eq_decide.mpr eq_comm
 unfold Zs qw
 by_cases q:ss.getD r.h bx=r.s
 ·rw [bW q] at G ⊢;rw [F9];exact Q3 (Jy (Qe (Q7 (Q7 rfl rfl h1) rfl G)) rfl) (Qn (Qcj I (Q7 rfl rfl (Qit ls ((r.h:Int),r.e) S))))
 ·rw [bV q] at G ⊢;rw [L3];exact Jr (Vn (Qe (Q7 (Q7 rfl rfl h1) rfl G)) rfl)
theorem Qmk (ns:List (Int × Str)):Q8j (ns.map prV)=zo ns:=by
 induction ns with
 | nil=>rfl
 | cons p ns q=>show (Q8j (ns.map prV)).map ((p.1,p.2) :: ·)=_; rw [q]; rfl
theorem Qgd (l:List α) (q:h < l.length) (x:α):l.take h ++ [x] ++ l.drop (h + 1)=l.set h x:=by
 rw [List.set_eq_take_append_cons_drop,bT q];simp
theorem Q2j (r:Ru) (G:r.h < ss.length) (h4:ss.length<=100) (q:ls.length + r.ms.length < 64) (u:Int) (S:Q0):Qy [ruV r,stV ss ls u] S=.ok (stV (ss.set r.h r.t) (lsT ls r.ms) (u + r.u)) S:=by
 have st:Wk [zo (ruV r),zo (stV ss ls u),zl] S=.rt (stV (ss.set r.h r.t) (lsT ls r.ms) (u + r.u)) S:=by
  unfold Wk;have k1:mSl (mOp oIx (Q2 1) (mC (.int 0))) U7 (qp (mOp oIx (Q2 0) (mC (.int 0)))) [zo (ruV r),zo (stV ss ls u),zl] S=.ok (.tup ((ss.take r.h).map .str)) S:=by
   show Res.ok (PV.tup (cut (ss.map PV.str) zl (zo (r.h:Int)))) S=_;rw [Q5q,eK]
  have k2:mSl (mOp oIx (Q2 1) (mC (.int 0))) (qp (mOp Zj (mOp oIx (Q2 0) (mC (.int 0))) (mC (.int 1)))) U7 [zo (ruV r),zo (stV ss ls u),zl] S=.ok (.tup ((ss.drop (r.h + 1)).map .str)) S:=by
   show Res.ok (PV.tup (cut (ss.map PV.str) (zo ((r.h:Int) + 1)) zl)) S=_;rw [show ((r.h:Int) + 1)=((r.h + 1:Nat):Int) by push_cast; rfl,Q9q,fX]
  have Z:((ss.take r.h).map PV.str).length<=100:=by rw [O0,L8]; omega
  have b2:((ss.drop (r.h + 1)).map PV.str).length<=100:=by rw [O0,cq]; omega
  have J:Zj S (.tup ((ss.take r.h).map .str)) (.tup [.str r.t])=.ok (.tup ((ss.take r.h ++ [r.t]).map .str)) S:=by rw [Qpy S (by simp; omega),F3]; rfl
  have Y:Zj S (.tup ((ss.take r.h ++ [r.t]).map .str)) (.tup ((ss.drop (r.h + 1)).map .str))=.ok (.tup ((ss.set r.h r.t).map .str)) S:=by
   rw [Qpy S (by rw [F3,O6]; simp; omega),<- F3,Qgd ss G]
  have O:Zj S (.tup (ls.map prV)) (.tup (r.ms.map prV))=.ok (.tup ((ls ++ r.ms).map prV)) S:=by
   rw [Qpy S (by rw [O0,O0]; omega),F3]
  have I:je (mOp Zj (mOp oIx (Q2 1) (mC (.int 1))) (mOp oIx (Q2 0) (mC (.int 5)))) [zo (ruV r),zo (stV ss ls u),zo (.tup ((ss.set r.h r.t).map .str))] S=.ok (.lst ((lsT ls r.ms).map prV)) S:=by
   unfold je;rw [Q7 rfl rfl O,Qk];show (match Q8j ((ls ++ r.ms).map prV) with | some ns=>if ns.length < 64 then Res.ok (PV.lst ((Ur (Y9 ns)).map prV)) S else .stuck | none=>.stuck)=_
   rw [Qmk];show (if (ls ++ r.ms).length < 64 then _ else _)=_;rw [bT (by rw [O6]; exact q)];rfl
  exact Q3 (Qj (Q7 (Q7 k1 rfl J) k2 Y)) (Qn (zg (Qh rfl (Qh (Jw (Qh I rfl) rfl) (Qh (Q7 rfl rfl (Qfh S u r.u)) rfl))) (by simp)))
 have:=Vr (nl:=3) (ps:=[ruV r,stV ss ls u]) st;unfold Qy;rw [this];exact Q3z (yi _ _ _)
def Q0s (rs:List Ru) (ss:List Str) (ls:List (Int × Str)):List (Ru × Nat):=rs.zipIdx.filter λp=>qw p.1 ss ls
def nV (p:Ru × Nat):PV:=.int (p.2:Int)
def Qbf (rs:List Ru) (ss:List Str) (ls:List (Int × Str)):List PV:=(Q0s rs ss ls).map nV
theorem Qje:∀ (rs:List Ru) (n:Nat),U5 n (rs.map ruV)=(rs.zipIdx n).map λp=>.tup [.int (p.2:Int),ruV p.1]
 | [],_=>rfl
 | r :: rs,n=>by rw [D5,dn,D5,<- Qje rs (n + 1)]; rfl
theorem Qfm {p:Ru × Nat} (h:p∈rs.zipIdx):rs[p.2]?=zo p.1:=ig.mp h
theorem Q3a {most:Int} {q:List Str} (M:MI1 q rs ws) (hs:ss.length=q.length) (ls:List (Int × Str)) (u:Int) (S:Q0):Qm [Ze most q (rs.map ruV),stV ss ls u] S=.ok (.ref S.length) (S ++ [.lst (Qbf rs ss ls)]):=by
 refine Qu ?_;show W3 [zo (Ze most q (rs.map ruV)),zo (stV ss ls u)] S=_;have G:Jn (Q13 (W6 (Qb 0) (W6 (Qb 1) Q14))) Y6 Yb [] [zl,zl,zo (stV ss ls u)] (U5 0 (rs.map ruV)) S=.ok (Qbf rs ss ls) S:=by
  rw [Qje];exact Q5r (λp:Ru × Nat=>.tup [.int (p.2:Int),ruV p.1]) nV (λp=>qw p.1 ss ls) (Qz _) λp I=>⟨_,rfl,Qe (Q5 (n:=2) rfl rfl (Qnh p.1 (by rw [hs]; exact (M.ru _ (E2 (Qfm I))).h) ls u S)),λ_=>rfl⟩
 have J:Q92 (Q1 (mOp oIx (Q2 0) (mC (.int 2))) Q4) [zo (Ze most q (rs.map ruV)),zo (stV ss ls u)] S=.ok (U5 0 (rs.map ruV),[]) S:=by
  show (if (rs.map ruV).length<=lim then Res.ok (U5 0 (rs.map ruV),([]:Wt)) S else .stuck)=_;exact bT (by rw [O0,qr]; have:=M.len; omega)
 exact Qn (X0 (Yx J G))
def InG (n:Nat) (ws:List Str) (p:Int × Str):Prop:=0<=p.1/\p.1 < n/\p.2∈ws
theorem Qcv {n:Nat} {ws:List Str}:∀ {ls:List PV},(∀ l∈ls,Qb2 n l=zb)->(∀ l∈ls,∃ (h:Int) (y:Str),l=.tup [.int h,.str y]/\y∈ws)->∃ ms:List (Int × Str),ls=ms.map prV/\∀ p∈ms,InG n ws p
 | [],_,_=>⟨[],rfl,λp q=>nomatch q⟩
 | l :: ls,h1,h2=>by
  obtain ⟨ms,e,hm⟩:=Qcv (λx G=>h1 x (O4 _ G)) (λx G=>h2 x (O4 _ G))
  obtain ⟨x,s,J,x0,x1,_⟩:=Q70 (h1 l (by simp));obtain ⟨h,y,I,O⟩:=h2 l (by simp);rw [J] at I;cases I;refine ⟨(x,s) :: ms,by rw [D5,<- e,J]; rfl,λp q=>?_⟩;rcases D6.mp q with rfl | q
  ·exact ⟨x0,by show x < n; omega,O⟩
  ·exact hm p q
structure RuJ (n:Nat) (sts ws:List Str) (r:Ru):Prop where
 h:r.h < n
 ms:r.ms.length<=8
 sub:∀ p∈r.ms,InG n ws p
 t:r.t∈sts
 u0:0<=r.u
theorem Qm5 {q:List Str} (h:Kf n p=zb) (O:Q4f ws p) (hs:Qbz q p):∃ r,p=ruV r/\RuJ n q ws r:=by
 obtain ⟨x,s,e,t,u,ls,rfl,x0,x1,_,_,_,u0,_,J,I⟩:=Q2n h;obtain ⟨ms,rfl,G⟩:=Qcv I (O _ _ _ _ _ ls rfl);obtain ⟨y,Y,Z⟩:=hs _ _ _ _ _ _ rfl;cases Z;refine ⟨⟨x.toNat,s,e,t,u,ms⟩,?_,⟨by show x.toNat < n; omega,by rw [O0] at J; exact J,G,Y,u0⟩⟩;show _=PV.tup [.int (x.toNat:Nat),.str s,.str e,.str t,.int u,.tup (ms.map prV)];rw [dw x0]
theorem Q86 {n:Nat} {q ws:List Str}:∀ {rules:List PV},(∀ p∈rules,Kf n p=zb/\Q4f ws p/\Qbz q p)->∃ rs:List Ru,rules=rs.map ruV/\∀ r∈rs,RuJ n q ws r
 | [],_=>⟨[],rfl,λr I=>nomatch I⟩
 | p :: rules,h=>by
  obtain ⟨rs,e,I⟩:=Q86 λx G=>h x (O4 _ G)
  obtain ⟨h1,h2,J⟩:=h p (by simp);obtain ⟨r,O,h1⟩:=Qm5 h1 h2 J;refine ⟨r :: rs,by rw [D5,<- e,O],λx G=>?_⟩;rcases D6.mp G with rfl | G
  ·exact h1
  ·exact I x G
structure MI2 (most:Int) (starts:List Str) (rs:List Ru) (sts ws:List Str):Prop where
 m0:0<=most
 w2:ws.length<=2
 n4:starts.length<=4
 cnt:sts.length ^ starts.length * 2 ^ (starts.length * ws.length) * (most.toNat + 1)<=576
 st:∀ x∈starts,x∈sts
 ru:∀ r∈rs,RuJ starts.length sts ws r
 len:rs.length<=9
 sw:∀ x∈sts,Zn x=zb
 lw:∀ x∈ws,Qk8 x
theorem MI2.one {most:Int} {q:List Str} {G:List Str} (M:MI2 most q rs G ws):MI1 q rs ws:=⟨M.w2,λr I=>⟨(M.ru r I).h,(M.ru r I).ms,λp J=>let ⟨a,b,c⟩:=(M.ru r I).sub p J; ⟨a,by have:=M.n4; omega,c⟩⟩,M.len⟩
theorem Qt7 {most:Int} {q:List Str} {rules:List PV} (h:Man most q rules):∃ rs G ws,rules=rs.map ruV/\MI2 most q rs G ws:=by
 obtain ⟨G,ws,w2,O,h1,J,h5,Y⟩:=h.ws;obtain ⟨rs,e,Z⟩:=Q86 (rules:=rules) λp I=>⟨E8.mp h.r p I,J p I⟩
 exact ⟨rs,G,ws,e,h.m0,w2,h.s4,O,h1,Z,by have:=h.len; rw [e,O0] at this; exact this,h5,Y⟩
abbrev Sd:=List Str × List (Int × Str) × Int
variable {s s0:Sd} {fr:List Sd}
def sdV (s:Sd):PV:=stV s.1 s.2.1 s.2.2
def sdK (s:Sd):HK:=.tup [.tup (s.1.map .str),.tup (s.2.1.map kP),.int s.2.2]
theorem Qij (d:Nat) (ss:List Str):Yq (U8 d) (ss.map .str)=zo (ss.map .str):=by
 induction ss with
 | nil=>rfl
 | cons x ss q=>
  rw [D5,Yq,q];have:U8 d (.str x)=zo (.str x):=by cases d <;> rfl
  rw [this];rfl
theorem Qp1 (d:Nat) (ls:List (Int × Str)):Yq (U8 (d + 1)) (ls.map prV)=zo (ls.map kP):=by
 induction ls with
 | nil=>rfl
 | cons p ls q=>
  rw [D5,Yq,q];have:U8 (d + 1) (prV p)=zo (kP p):=by cases d <;> rfl
  rw [this];rfl
theorem Ks (s:Sd):Xf (sdV s)=zo (sdK s):=by
 show (Yq (U8 4) [.tup (s.1.map .str),.tup (s.2.1.map prV),.int s.2.2]).map HK.tup=_;have q:U8 4 (.tup (s.1.map .str))=zo (.tup (s.1.map .str)):=by
  show (Yq (U8 3) (s.1.map .str)).map HK.tup=_;rw [Qij]; rfl
 have G:U8 4 (.tup (s.2.1.map prV))=zo (.tup (s.2.1.map kP)):=by
  show (Yq (U8 3) (s.2.1.map prV)).map HK.tup=_;rw [Qp1]; rfl
 simp only [Yq,q,G];rfl
theorem yj {t:Sd} (h:sdK s=sdK t):s=t:=by
 obtain ⟨a,b,c⟩:=s;obtain ⟨G,I,J⟩:=t;unfold sdK at h;simp only [HK.tup.injEq,iP,HK.int.injEq,and_true] at h;obtain ⟨h1,h2,q⟩:=h;have k1:a=G:=ii (λx y e=>by cases e; rfl) |>.mp h1;have k2:b=I:=ii (λx y e=>Qb4 e) |>.mp h2;rw [k1,k2,q]
theorem Qx9 (s:Sd):hkV (sdK s)=sdV s:=Qx4 (Ks s)
def stp (r:Ru) (s:Sd):Sd:=(s.1.set r.h r.t,lsT s.2.1 r.ms,s.2.2 + r.u)
def fit (r:Ru) (s:Sd):Bool:=qw r s.1 s.2.1
structure SdI (n:Nat) (sts ws:List Str) (s:Sd):Prop where
 len:s.1.length=n
 st:∀ x∈s.1,x∈sts
 nd:s.2.1.Nodup
 so:s.2.1.Pairwise leQ
 sub:∀ p∈s.2.1,InG n ws p
 u0:0<=s.2.2
theorem SdI.one {q:List Str} (I:SdI n q ws s) (J:n<=4):StI n ws s.1 s.2.1:=⟨I.len,I.nd,λp G=>let ⟨a,b,c⟩:=I.sub p G; ⟨a,by omega,c⟩⟩
theorem SdI.step {q:List Str} (I:SdI n q ws s) (J:RuJ n q ws r):SdI n q ws (stp r s) where
 len:=by show (s.1.set r.h r.t).length=n; rw [G7]; exact I.len
 st:=λx G=>by
  rcases List.mem_or_eq_of_mem_set G with h | h
  ·exact I.st x h
  ·rw [h]; exact J.t
 nd:=(W0 _).nodup_iff.mpr (Q7a cQ)
 so:=We _
 sub:=λp O=>(mem_lsT.mp O).elim (I.sub p) (J.sub p)
 u0:=by show 0<=s.2.2 + r.u; have:=I.u0; have:=J.u0; omega
def pws {α:Type} (xs:List α):Nat->List (List α)
 | 0=>[[]]
 | n + 1=>xs.flatMap λx=>(pws xs n).map (x :: ·)
theorem Q6f {α:Type} (xs:List α):∀ n,(pws xs n).length=xs.length ^ n
 | 0=>rfl
 | n + 1=>by
  rw [pws,eR];have:(xs.map λx=>((pws xs n).map (x :: ·)).length)=xs.map λ_=>xs.length ^ n:=cX λx _=>by rw [O0,Q6f xs n]
  rw [this,eT,eU,fP,dl]
theorem Q6u {α:Type} {xs:List α}:∀ {n:Nat} {l:List α},l.length=n->(∀ x∈l,x∈xs)->l∈pws xs n
 | 0,[],_,_=>by simp [pws]
 | n + 1,a :: l,h,hs=>by
  rw [pws,cf];exact ⟨a,hs a (by simp),E5.mpr ⟨l,Q6u (by simpa using h) λx q=>hs x (O4 _ q),rfl⟩⟩
def Qj4 (n:Nat) (ws:List Str):List (Int × Str):=(bY n).flatMap λ(h:Nat)=>ws.map λw=>((h:Int),w)
theorem Qj3 (n:Nat) (ws:List Str):(Qj4 n ws).length=n * ws.length:=by
 unfold Qj4;rw [eR];have:((bY n).map λ(h:Nat)=>(ws.map λw=>((h:Int),w)).length)=(bY n).map λ_=>ws.length:=cX λx _=>by rw [O0]
 rw [this,eT,eU,F5]
theorem Q8x {p:Int × Str} (h:InG n ws p):p∈Qj4 n ws:=by
 obtain ⟨a,b,c⟩:=h;refine cf.mpr ⟨p.1.toNat,cF.mpr (by omega),E5.mpr ⟨p.2,c,?_⟩⟩;rw [dw a]
def tel (n:Nat) (ws:List Str) (s:Sd):List Str × List Bool × Nat:=(s.1,(Qj4 n ws).map (λp=>decide (p∈s.2.1)),s.2.2.toNat)
theorem Qke {G:List Str} {t:Sd} (I:SdI n G ws s) (J:SdI n G ws t) (h:tel n ws s=tel n ws t):s=t:=by
 obtain ⟨a,b,c⟩:=s;obtain ⟨a',b',Z⟩:=t;unfold tel at h;simp only [Prod.mk.injEq] at h;obtain ⟨h1,h2,h3⟩:=h;have hm:∀ p,p∈b <-> p∈b':=λp=>by
  have Y:∀ q∈Qj4 n ws,decide (q∈b)=decide (q∈b'):=λq hq=>List.map_inj_left.mp h2 q hq
  constructor
  ·intro O;have:=Y p (Q8x (I.sub p O));rw [bW O] at this;exact of_decide_eq_true this.symm
  ·intro O;have:=Y p (Q8x (J.sub p O));rw [bW O] at this;exact of_decide_eq_true this
 have k2:b=b':=Xz ((iJ I.nd J.nd).mpr hm) I.so J.so;have u1:=I.u0;have u2:=J.u0;have k3:c=Z:=by
  have h3:c.toNat=Z.toNat:=h3;have u1:0<=c:=u1;have u2:0<=Z:=u2;omega
 rw [h1,k2,k3]
theorem K7 {α β:Type} (f:α->β):∀ {l:List α},l.Nodup->(∀ x∈l,∀ y∈l,f x=f y->x=y)->(l.map f).Nodup
 | [],_,_=>cQ
 | a :: l,h,hi=>by
  obtain ⟨h1,h2⟩:=cW.mp h;rw [D5];refine cW.mpr ⟨λhm=>?_,K7 f h2 λx q y G=>hi x (O4 _ q) y (O4 _ G)⟩;obtain ⟨x,q,e⟩:=E5.mp hm;rw [hi x (O4 _ q) a (by simp) e] at q;exact h1 q
theorem few {most:Int} {q:List Str} {G:List Str} (M:MI2 most q rs G ws) {l:List Sd} (h:l.Nodup) (J:∀ s∈l,SdI q.length G ws s/\s.2.2<=most):l.length<=576:=by
 have hn:=K7 (tel q.length ws) h λx O y hy=>Qke (J x O).1 (J y hy).1
 have:=Q07 (m:=(pws G q.length).flatMap λa=>(pws [yo,zb] (q.length * ws.length)).flatMap λb=>(bY (most.toNat + 1)).map λc=>(a,b,c)) hn λx O=>by
  obtain ⟨s,hs,rfl⟩:=E5.mp O;obtain ⟨I,hu⟩:=J s hs;have a1:=I.u0;have Y:=M.m0;refine cf.mpr ⟨s.1,Q6u I.len I.st,cf.mpr ⟨_,Q6u (by rw [O0,Qj3]) (λb _=>by cases b <;> simp),E5.mpr ⟨s.2.2.toNat,cF.mpr (by omega),rfl⟩⟩⟩
 rw [O0] at this;refine D9 this (D9 (dm ?_) M.cnt);rw [eR];have e1:((pws G q.length).map λa=>((pws [yo,zb] (q.length * ws.length)).flatMap λb=>(bY (most.toNat + 1)).map λc=>(a,b,c)).length)=(pws G q.length).map λ_=>2 ^ (q.length * ws.length) * (most.toNat + 1):=cX λa _=>by
  rw [eR];have Z:((pws [yo,zb] (q.length * ws.length)).map λb=>((bY (most.toNat + 1)).map λc=>(a,b,c)).length)=(pws [yo,zb] (q.length * ws.length)).map λ_=>most.toNat + 1:=cX λb _=>by rw [O0,F5]
  rw [Z,eT,eU,Q6f];rfl
 rw [e1,eT,eU,Q6f,Nat.mul_assoc]
def Qbx (a:List Sd × List Sd) (t:Sd):List Sd × List Sd:=if t∈a.1 then a else (a.1 ++ [t],a.2 ++ [t])
def nxt (rs:List Ru) (fr:List Sd):List Sd:=fr.flatMap λs=>(rs.filter (fit · s)).map (stp · s)
def lev (rs:List Ru) (a:List Sd × List Sd):List Sd × List Sd:=(nxt rs a.2).foldl Qbx (a.1,[])
def lvs (rs:List Ru) (s0:Sd):Nat->List Sd × List Sd
 | 0=>([s0],[s0])
 | i + 1=>lev rs (lvs rs s0 i)
def Ys (rs:List Ru) (most:Int) (fr:List Sd):Bool:=fr.any λs=>rs.any λr=>fit r s && decide (most < s.2.2 + r.u)
theorem Wc:∀ (xs K I:List Sd),∃ ex,xs.foldl Qbx (K,I)=(K ++ ex,I ++ ex)/\(∀ x∈ex,x∈xs)/\(∀ x∈xs,x∈K ++ ex)/\(K.Nodup->(K ++ ex).Nodup)
 | [],K,I=>⟨[],by simp,by simp,by simp,by simp⟩
 | x :: xs,K,I=>by
  rw [F2]
  by_cases q:x∈K
  ·obtain ⟨ex,h1,h2,J,O⟩:=Wc xs K I;refine ⟨ex,by unfold Qbx; rw [bT q]; exact h1,λy G=>O4 _ (h2 y G),λy G=>?_,O⟩;rcases D6.mp G with rfl | G
   ·exact F7 _ q
   ·exact J y G
  ·obtain ⟨ex,h1,h2,J,O⟩:=Wc xs (K ++ [x]) (I ++ [x]);refine ⟨x :: ex,?_,λy G=>?_,λy G=>?_,λZ=>?_⟩
   ·unfold Qbx; rw [bU q]; show xs.foldl Qbx (K ++ [x],I ++ [x])=_; rw [h1]; simp
   ·rcases D6.mp G with rfl | G
    ·simp
    ·exact O4 _ (h2 y G)
   ·rcases D6.mp G with rfl | G
    ·simp
    ·have:=J y G; simpa using this
   ·have:(K ++ [x]).Nodup:=cZ.mpr ⟨Z,by simp,λa Y b hb e=>by
     have:b=x:=by simpa using hb
     rw [e,this] at Y; exact q Y⟩
    have:=O this;simpa using this
def Zk {α:Type} (f:α->PV) (G:List (Sd × α)):List (HK × PV):=G.map λe=>(sdK e.1,f e.2)
def Wy {α:Type} (a:List (Sd × α) × List Sd) (x:Sd × α):List (Sd × α) × List Sd:=if x.1∈a.1.map (·.1) then a else (a.1 ++ [x],a.2 ++ [x.1])
theorem Qa6 {α:Type}:∀ (xs:List (Sd × α)) (a:List (Sd × α) × List Sd),((xs.foldl Wy a).1.map (·.1),(xs.foldl Wy a).2)=(xs.map (·.1)).foldl Qbx (a.1.map (·.1),a.2)
 | [],a=>rfl
 | x :: xs,a=>by
  rw [F2,D5,F2,Qa6 xs];congr 1;unfold Wy Qbx
  by_cases q:x.1∈a.1.map (·.1)
  ·rw [bT q,bT q]
  ·rw [bU q,bU q,F3]; rfl
theorem Xx {α:Type}:∀ (xs:List (Sd × α)) (a:List (Sd × α) × List Sd),∃ ex,(xs.foldl Wy a).1=a.1 ++ ex/\(xs.foldl Wy a).2=a.2 ++ ex.map (·.1)/\∀ x∈ex,x∈xs
 | [],a=>⟨[],by simp,by simp,by simp⟩
 | x :: xs,a=>by
  rw [F2]
  by_cases q:x.1∈a.1.map (·.1)
  ·obtain ⟨ex,h1,h2,I⟩:=Xx xs a;have:Wy a x=a:=by unfold Wy; rw [bT q]
   rw [this];exact ⟨ex,h1,h2,λy G=>O4 _ (I y G)⟩
  ·have:Wy a x=(a.1 ++ [x],a.2 ++ [x.1]):=by unfold Wy; rw [bU q]
   rw [this];obtain ⟨ex,h1,h2,I⟩:=Xx xs (a.1 ++ [x],a.2 ++ [x.1]);refine ⟨x :: ex,by rw [h1]; simp,by rw [h2]; simp,λy G=>?_⟩;rcases D6.mp G with rfl | G
   ·simp
   ·exact O4 _ (I y G)
theorem Qk9 (f:α->PV) (G:List (Sd × α)) (t:Sd):(Xj (Zk f G) (sdK t)).isSome=decide (t∈G.map (·.1)):=by
 unfold Xj Zk;rw [dR]
 by_cases q:t∈G.map (·.1)
 ·rw [bW q,ib];obtain ⟨e,I,rfl⟩:=E5.mp q;exact ⟨_,E5.mpr ⟨e,I,rfl⟩,by simp⟩
 ·rw [bV q];cases z:fS (λkv=>decide (kv.1=sdK t)) (G.map λe=>(sdK e.1,f e.2)) with
  | none=>rfl
  | some x=>
   have h1:=fU z;have h2:=fT z;obtain ⟨y,J,rfl⟩:=E5.mp h1;have h2:sdK y.1=sdK t:=by simpa using h2
   exact absurd (E5.mpr ⟨y,J,yj h2⟩) q
theorem Qfp {α:Type} (f:α->PV):∀ {G:List (Sd × α)} {t:Sd} {a:α},(G.map (·.1)).Nodup->(t,a)∈G->Xj (Zk f G) (sdK t)=zo (f a)
 | e :: G,t,a,I,hm=>by
  unfold Xj Zk;rw [D5,cP];rw [D5] at I;obtain ⟨h1,h2⟩:=cW.mp I;rcases D6.mp hm with rfl | hm
  ·simp
  ·have q:¬ e.1=t:=λz=>h1 (by rw [z]; exact E5.mpr ⟨_,hm,rfl⟩)
   have:decide (sdK e.1=sdK t)=yo:=bV λz=>q (yj z)
   simp only [this];exact Qfp f h2 hm
theorem Qmc (f:α->PV) {G:List (Sd × α)} {t:Sd} {a:α} (h:t∉G.map (·.1)):Sm.putT (Zk f G) (sdK t) (f a)=Zk f (G ++ [(t,a)]):=by
 unfold Sm.putT;rw [bU]
 ·unfold Zk; rw [F3]; rfl
 ·unfold Zk;rw [dM,cM];rintro ⟨x,q,e⟩;have e:sdK x.1=sdK t:=by simpa using e
  exact h (E5.mpr ⟨x,q,yj e⟩)
def pV:Option (Nat × Sd)->PV
 | none=>.non
 | some (n,s)=>.tup [.int (n:Int),sdV s]
abbrev Pr:=Sd × Option (Nat × Sd)
variable {F:List Pr}
def Qkd (rs:List Ru) (s:Sd):List Pr:=(Q0s rs s.1 s.2.1).map λp=>(stp p.1 s,zo (p.2,s))
def trp (rs:List Ru) (fr:List Sd):List Pr:=fr.flatMap (Qkd rs)
theorem Q21 (rs:List Ru) (p:Ru->Bool):∀ n,((rs.zipIdx n).filter λx=>p x.1).map (·.1)=rs.filter p:=by
 induction rs with
 | nil=>intro n; rfl
 | cons r rs q=>
  intro n;rw [dn,dH,dH];cases p r with
  | true=>simp only [if_true]; rw [D5,q]
  | false=>exact q (n + 1)
theorem Qfu (rs:List Ru) (s:Sd):(Qkd rs s).map (·.1)=(rs.filter (fit · s)).map (stp · s):=by
 unfold Qkd;rw [G8];show (Q0s rs s.1 s.2.1).map ((stp · s) ∘ (·.1))=_;rw [<- G8];congr 1;exact Q21 rs (fit · s) 0
theorem Qkc (rs:List Ru) (fr:List Sd):(trp rs fr).map (·.1)=nxt rs fr:=by
 unfold trp nxt;rw [List.map_flatMap];congr 1;funext s;exact Qfu rs s
def lvF (rs:List Ru) (s0:Sd):Nat->List Pr × List Sd
 | 0=>([(s0,zl)],[s0])
 | i + 1=>(trp rs (lvF rs s0 i).2).foldl Wy ((lvF rs s0 i).1,[])
theorem xf (rs:List Ru) (s0:Sd):∀ i,((lvF rs s0 i).1.map (·.1),(lvF rs s0 i).2)=lvs rs s0 i
 | 0=>rfl
 | i + 1=>by
  have q:=xf rs s0 i;show (((trp rs (lvF rs s0 i).2).foldl Wy ((lvF rs s0 i).1,[])).1.map (·.1),((trp rs (lvF rs s0 i).2).foldl Wy ((lvF rs s0 i).1,[])).2)=lev rs (lvs rs s0 i);rw [Qa6,Qkc,<- q];rfl
inductive Tr (F:List Pr):Sd->List Nat->Prop
 | nil {s:Sd}:(s,zl)∈F->Tr F s []
 | cons {s q:Sd} {n:Nat} {ks:List Nat}:(s,zo (n,q))∈F->Tr F q ks->Tr F s (n :: ks)
theorem Tr.mono {q:List Pr} (h:∀ e∈F,e∈q):∀ {s:Sd} {ks:List Nat},Tr F s ks->Tr q s ks
 | _,_,.nil a=>.nil (h _ a)
 | _,_,.cons a b=>.cons (h _ a) (Tr.mono h b)
theorem Qcu (rs:List Ru) (s0:Sd) (i:Nat):∃ ex,(lvF rs s0 (i + 1)).1=(lvF rs s0 i).1 ++ ex/\(lvF rs s0 (i + 1)).2=ex.map (·.1)/\∀ x∈ex,x∈trp rs (lvF rs s0 i).2:=by
 obtain ⟨ex,h1,h2,q⟩:=Xx (trp rs (lvF rs s0 i).2) ((lvF rs s0 i).1,[]);exact ⟨ex,h1,by rw [show (lvF rs s0 (i + 1)).2=_ from h2]; simp,q⟩
theorem Qcp {x:Pr} (h:x∈trp rs fr):∃ s r n,s∈fr/\rs[n]?=zo r/\fit r s=zb/\x=(stp r s,zo (n,s)):=by
 obtain ⟨s,hs,G⟩:=cf.mp h;obtain ⟨p,q,rfl⟩:=E5.mp G;obtain ⟨h1,h2⟩:=cN.mp q;exact ⟨s,p.1,p.2,hs,Qfm h1,h2,rfl⟩
theorem Qid (rs:List Ru) (s0:Sd):∀ i,∀ s∈(lvF rs s0 i).2,∃ ks,ks.length=i/\Tr (lvF rs s0 i).1 s ks
 | 0,s,h=>⟨[],rfl,.nil (by
   have:s=s0:=by simpa [lvF] using h
   rw [this]; simp [lvF])⟩
 | i + 1,s,h=>by
  obtain ⟨ex,h1,h2,J⟩:=Qcu rs s0 i;rw [h2] at h;obtain ⟨x,G,rfl⟩:=E5.mp h;obtain ⟨q,r,n,I,_,_,e⟩:=Qcp (J x G);obtain ⟨ks,O,Z⟩:=Qid rs s0 i q I;refine ⟨n :: ks,by rw [D3,O],.cons (q:=q) ?_ (Z.mono λe Y=>by rw [h1]; exact F7 _ Y)⟩;rw [h1];refine E6 _ ?_;have:(x.1,zo (n,q))=x:=by rw [e]
  rw [this]; exact G
def Qqq (rs:List Ru) (s0:Sd) (F:List Pr):Prop:=∀ e∈F,(e.2=zl->e.1=s0)/\∀ n q,e.2=zo (n,q)->∃ r,rs[n]?=zo r/\fit r q=zb/\stp r q=e.1
theorem Q5f (rs:List Ru) (s0:Sd):∀ i,Qqq rs s0 (lvF rs s0 i).1
 | 0,e,h=>by
  have:e=(s0,zl):=by simpa [lvF] using h
  rw [this];exact ⟨λ_=>rfl,λn q z=>by cases z⟩
 | i + 1,e,h=>by
  obtain ⟨ex,h1,h2,I⟩:=Qcu rs s0 i;rw [h1] at h;rcases E3.mp h with h | h
  ·exact Q5f rs s0 i e h
  ·obtain ⟨q,r,n,Z,O,G,J⟩:=Qcp (I e h);rw [J];exact ⟨λz=>(by cases z),λn' Y z=>(by cases z; exact ⟨r,O,G,rfl⟩)⟩
def wkS (rs:List Ru):List Nat->Sd->Option Sd
 | [],s=>zo s
 | k :: ks,s=>match rs[k]? with
  | some r=>if fit r s=zb then wkS rs ks (stp r s) else zl
  | none=>zl
theorem Q24 {rs:List Ru} {n:Nat} {r:Ru} (G:rs[n]?=zo r):∀ {ks:List Nat} {a s:Sd},wkS rs ks a=zo s->fit r s=zb->wkS rs (ks ++ [n]) a=zo (stp r s)
 | [],a,s,e,q=>by
  cases e;show (match rs[n]? with | some r=>if fit r a=zb then wkS rs [] (stp r a) else zl | none=>zl)=_
  rw [G];simp only [q,if_true];rfl
 | k :: ks,a,s,e,q=>by
  rw [fm];unfold wkS at e ⊢
  split at e
  ·rename_i J I
   split at e
   ·rename_i h2;rw [bT h2];exact Q24 G e q
   ·cases e
  ·cases e
theorem Qq2 {rs:List Ru} {s0:Sd} {F:List Pr} (q:Qqq rs s0 F):∀ {s:Sd} {ks:List Nat},Tr F s ks->wkS rs ks.reverse s0=zo s
 | s,[],.nil h=>by
  have e:s=s0:=(q _ h).1 rfl;rw [e]; rfl
 | s,n :: ks,.cons h t=>by
  obtain ⟨r,G,I,e⟩:=(q _ h).2 _ _ rfl;rw [dX,Q24 G (Qq2 q t) I];exact congrArg zo e
theorem Qc1 (rs:List Ru):∀ (ks:List Nat) (s:Sd),Up rs (ks.map λ(k:Nat)=>(k:Int)) s.1 s.2.1 s.2.2=(wkS rs ks s).map (·.2.2)
 | [],s=>rfl
 | k :: ks,s=>by
  rw [D5,Up,wkS,bo];cases z:rs[k]? with
  | none=>rfl
  | some r=>
   simp only
   by_cases q:fit r s=zb
   ·rw [bT ⟨by omega,q⟩,bT q];exact Qc1 rs ks (stp r s)
   ·rw [bU (λh=>q h.2),bU q];rfl
theorem Q2e {most:Int} {q:List Str} {G:List Str} (M:MI2 most q rs G ws):SdI q.length G ws (q,[],0):=⟨rfl,M.st,cQ,.nil,λp I=>(nomatch I),Int.le_refl _⟩
theorem zw {most:Int} {G:List Str} {rs:List Ru} {I ws:List Str} (M:MI2 most G rs I ws):∀ i,(lvs rs (G,[],0) i).1.Nodup/\(∀ s∈(lvs rs (G,[],0) i).2,s∈(lvs rs (G,[],0) i).1)/\∀ s∈(lvs rs (G,[],0) i).1,SdI G.length I ws s
 | 0 => ⟨by simp [lvs], by simp [lvs], λs hs => by
   have:s=(G,[],0):=by simpa [lvs] using hs
   rw [this]; exact Q2e M⟩
 | i + 1=>by
  obtain ⟨h1,h2,J⟩:=zw M i;obtain ⟨ex,e,Y,g2,g3⟩:=Wc (nxt rs (lvs rs (G,[],0) i).2) (lvs rs (G,[],0) i).1 [];have e:lvs rs (G,[],0) (i + 1)=_:=e;rw [e];refine ⟨g3 h1,λs hs=>E6 _ (by simpa using hs),λs hs=>?_⟩;rcases E3.mp hs with hs | hs
  ·exact J s hs
  ·obtain ⟨q,O,Z⟩:=cf.mp (Y s hs);obtain ⟨r,hr,rfl⟩:=E5.mp Z;exact (J q (h2 q O)).step (M.ru r (cN.mp hr).1)
theorem Q6x {most:Int} {G:List Str} {rs:List Ru} {O ws:List Str} (M:MI2 most G rs O ws):∀ i,(∀ j,j < i->Ys rs most (lvs rs (G,[],0) j).2=yo)->∀ s∈(lvs rs (G,[],0) i).1,s.2.2<=most
 | 0,_,s,hs=>by
  have:s=(G,[],0):=by simpa [lvs] using hs
  rw [this]; exact M.m0
 | i + 1,Y,s,hs=>by
  have ih:=Q6x M i (λj hj=>Y j (by omega))
  obtain ⟨ex,e,g1,g2,g3⟩:=Wc (nxt rs (lvs rs (G,[],0) i).2) (lvs rs (G,[],0) i).1 [];have e:lvs rs (G,[],0) (i + 1)=_:=e;rw [e] at hs;rcases E3.mp hs with hs | hs
  ·exact ih s hs
  ·obtain ⟨q,Z,hx⟩:=cf.mp (g1 s hs);obtain ⟨r,hr,rfl⟩:=E5.mp hx;obtain ⟨J,I⟩:=cN.mp hr;have:=cx.mp (Y i (by omega)) q Z;have:=cx.mp (ie _ ▸ this) r J;simp only [I,F9,decide_eq_true_eq] at this;show q.2.2 + r.u<=most;omega
theorem jh {most:Int} {q:List Str} {G:List Str} (M:MI2 most q rs G ws) {i:Nat} (I:∀ j,j < i->Ys rs most (lvs rs (q,[],0) j).2=yo):(lvs rs (q,[],0) i).1.length<=576:=few M (zw M i).1 λs hs=>⟨(zw M i).2.2 s hs,Q6x M i I s hs⟩
theorem Q3j {q:List Str} (i:Nat):(lvs rs (q,[],0) (i + 1)).1.length=(lvs rs (q,[],0) i).1.length + (lvs rs (q,[],0) (i + 1)).2.length:=by
 obtain ⟨ex,e,_⟩:=Wc (nxt rs (lvs rs (q,[],0) i).2) (lvs rs (q,[],0) i).1 [];have e:lvs rs (q,[],0) (i + 1)=_:=e;rw [e];simp
def U9 (rs:List Ru) (most:Int) (s0:Sd) (i:Nat):Prop:=Ys rs most (lvs rs s0 i).2=zb\/(lvs rs s0 i).2=[]
theorem Q3y {most:Int} {rs:List Ru} (s0:Sd):∀ m,(∃ N,N<=m/\U9 rs most s0 N/\∀ i,i < N->¬ U9 rs most s0 i)\/∀ i,i<=m->¬ U9 rs most s0 i
 | 0=>by
  by_cases q:U9 rs most s0 0
  ·exact .inl ⟨0,O5 _,q,λi hi=>by omega⟩
  ·exact .inr λi hi=>by
    have:i=0:=by omega
    rw [this]; exact q
 | m + 1=>by
  rcases Q3y s0 m with ⟨N,h1,h2,G⟩ | h
  ·exact .inl ⟨N,by omega,h2,G⟩
  ·by_cases q:U9 rs most s0 (m + 1)
   ·exact .inl ⟨m + 1,O5 _,q,λi hi=>h i (by omega)⟩
   ·refine .inr λi hi=>?_
    by_cases z:i=m + 1
    ·rw [z]; exact q
    ·exact h i (by omega)
theorem Qvj {most:Int} {q:List Str} {I:List Str} (M:MI2 most q rs I ws):∃ N,N<=600/\U9 rs most (q,[],0) N/\∀ i,i < N->¬ U9 rs most (q,[],0) i:=by
 rcases Q3y (rs:=rs) (most:=most) (q,[],0) 600 with h | h
 ·exact h
 ·have J:∀ j,j < 600->Ys rs most (lvs rs (q,[],0) j).2=yo:=λj Y=>by
   cases z:Ys rs most (lvs rs (q,[],0) j).2 with
   | false=>rfl
   | true=>exact absurd (.inl z) (h j (by omega))
  have G:∀ i,i<=600->i + 1<=(lvs rs (q,[],0) i).1.length:=by
   intro i
   induction i with
   | zero=>intro _; simp [lvs]
   | succ i O=>
    intro hi;have h1:=O (by omega);have h2:(lvs rs (q,[],0) (i + 1)).2.length≠0:=λz=>h (i + 1) hi (.inr (fe z))
    rw [Q3j];omega
  have h1:=G 600 (O5 _);have h2:=jh M J;omega
structure Gw (P:Nat->Prop) (S A:Q0):Prop where
 len:S.length<=A.length
 keep:∀ t,t < S.length->¬ P t->A[t]?=S[t]?
theorem Gw.refl (P:Nat->Prop) (S:Q0):Gw P S S:=⟨O5 _,λ_ _ _=>rfl⟩
theorem Gw.trans {P:Nat->Prop} {B:Q0} (a:Gw P S A) (b:Gw P A B):Gw P S B:=⟨D9 a.len b.len,λt h1 h2=>(b.keep t (D1 h1 a.len) h2).trans (a.keep t h1 h2)⟩
theorem Gw.add (P:Nat->Prop) (S T:Q0):Gw P S (S ++ T):=⟨by rw [O6]; omega,λt h _=>O8 h⟩
theorem Gw.put {P:Nat->Prop} (S:Q0) (h:P n) (c:Cell):Gw P S (S.set n c):=⟨by rw [G7]; exact O5 _,λt _ h2=>E9 λe=>h2 (by rw [<- e]; exact h)⟩
theorem Gw.mono {P Q:Nat->Prop} (a:Gw P S A) (h:∀ t,t < S.length->P t->Q t):Gw Q S A:=⟨a.len,λt h1 h2=>a.keep t h1 λz=>h2 (h t h1 z)⟩
theorem Gw.at {P:Nat->Prop} (a:Gw P S A) {t:Nat} {c:Cell} (h:S[t]?=zo c) (q:¬ P t):A[t]?=zo c:=by rw [a.keep t (O3.mp h).1 q]; exact h
theorem Gw.w {P:Nat->Prop} {S A:Q0} (a:Gw P S A) {w:Wt} (h:wOk w S) (G:∀ x∈w,¬ P x.1):wOk w A:=λx q=>a.at (h x q) (G x q)
theorem Gw.tape {P:Nat->Prop} (a:Gw P S A) (T:TapeAt S L ns) (q:¬ P L):TapeAt A L ns:=let ⟨p,c,e⟩:=T; ⟨p,c,a.at e q⟩
theorem Q9k (f:α->PV) {G:List (Sd × α)} (h:S[D]?=zo (.dtp (Zk f G))):Zr S (.ref D)=zo (Zk f G):=by show (match S[D]? with | some (.dtp q)=>zo q | _=>zl)=_; rw [h]
theorem Qxr (f:α->PV) {G:List (Sd × α)} (h:S[D]?=zo (.dtp (Zk f G))) (t:Sd) (q:Bool):qe q S (sdV t) (.ref D)=.ok (.bl (decide (t∈G.map (·.1)) != q)) S:=by
 unfold qe;rw [Q9k f h,Ks];show Res.ok (PV.bl ((Xj (Zk f G) (sdK t)).isSome != q)) S=_;rw [Qk9]
theorem Qbh (f:α->PV) {G:List (Sd × α)} (h:S[D]?=zo (.dtp (Zk f G))) (q:(G.map (·.1)).Nodup) {t:Sd} {a:α} (I:(t,a)∈G):Q9p S (.ref D) (sdV t)=.ok (f a) S:=by
 unfold Q9p;rw [Q9k f h,Ks];show (match Xj (Zk f G) (sdK t) with | some v=>Res.ok v S | none=>.stuck)=_
 rw [Qfp f q I]
theorem Qu1 (f:α->PV) {G:List (Sd × α)} (h:S[D]?=zo (.dtp (Zk f G))) (q:G.length < 1000000) {t:Sd} (I:t∉G.map (·.1)) (a:α):xq S (.ref D) (sdV t) (f a)=zo (S.set D (.dtp (Zk f (G ++ [(t,a)])))):=by
 unfold xq;simp only [Q9k f h,Ks];rw [bT (by unfold Zk; rw [O0]; exact q),Qmc f I]
theorem Qu2 (f:α->PV) {G:List (Sd × α)} (h:S[D]?=zo (.dtp (Zk f G))) (q:G.length < 1000000):Kj S [.ref D]=.ok (.int (G.length:Nat)) S:=by
 unfold Kj;simp only [Q9k f h];have:(Zk f G).length=G.length:=O0 _;rw [this,bT q]
theorem Q78 {mi:ME} {q:PV} {r:Res PV} (h1:mo Γ S=.ok p S1) (h2:mi Γ S1=.ok q S2) (G:Q9p S2 p q=r):Q0d mo mi Γ S=r:=by
 unfold Q0d;rw [h1,Qk,h2,Qk,G]
theorem U6 (h:S[D]?=zo (.lst xs)):Y0 S (.ref D)=zo (xs,[(D,.lst xs)]):=by
 show (match S[D]? with | some (.lst xs)=>zo (xs,[(D,Cell.lst xs)]) | _=>zl)=_
 rw [h]
theorem Um (h:S[D]?=zo (.lst xs)):wOk [(D,.lst xs)] S:=λx q=>by
 have:x=(D,.lst xs):=by simpa using q
 rw [this]; exact h
theorem Uw (h:S[D]?=zo (.lst xs)):U0 S (.ref D)=zo xs:=by
 show (match S[D]? with | some (.lst xs)=>zo xs | _=>zl)=_; rw [h]
theorem Z5 {body:MS} {w:Wt} {I G:Gam} {r:SR} (J:wOk w S) (h1:ga x Γ=zo I) (h2:body I S=.nx G S2) (O:Jm ga body w xs G S2=r):Jm ga body w (x :: xs) Γ S=r:=by
 rw [Jm,bT J,h1];show (match body I S with | .nx G q=>Jm ga body w xs G q | .ct G q=>Jm ga body w xs G q | .bk G q=>.nx G q | .rt v q=>.rt v q | .exc x q=>.exc x q | .stuck=>.stuck)=_;rw [h2];exact O
theorem jk {body:MS} {w:Wt} {I:Gam} (J:wOk w S) (h1:ga x Γ=zo I) (h2:body I S=.rt v S2):Jm ga body w (x :: xs) Γ S=.rt v S2:=by
 rw [Jm,bT J,h1];show (match body I S with | .nx G q=>Jm ga body w xs G q | .ct G q=>Jm ga body w xs G q | .bk G q=>.nx G q | .rt v q=>.rt v q | .exc x q=>.exc x q | .stuck=>.stuck)=_;rw [h2]
theorem Wr {body:MS} {w:Wt} (q:wOk w S):Jm ga body w [] Γ S=.nx Γ S:=by rw [Jm,bT q]
theorem Q4x {body:MS} {G:Gam} {r:SR} (h1:mt Γ S=.ok zb S1) (h2:body Γ S1=.nx G S2) (I:Jv mt body n G S2=r):Jv mt body (n + 1) Γ S=r:=by
 unfold Jv;rw [h1];show (match body Γ S1 with | .nx G q=>Jv mt body n G q | .ct G q=>Jv mt body n G q | .bk G q=>.nx G q | .rt v q=>.rt v q | .exc x q=>.exc x q | .stuck=>.stuck)=_;rw [h2];exact I
theorem Qdi {body:MS} (h1:mt Γ S=.ok zb S1) (h2:body Γ S1=.rt v S2):Jv mt body (n + 1) Γ S=.rt v S2:=by
 unfold Jv;rw [h1];show (match body Γ S1 with | .nx G q=>Jv mt body n G q | .ct G q=>Jv mt body n G q | .bk G q=>.nx G q | .rt v q=>.rt v q | .exc x q=>.exc x q | .stuck=>.stuck)=_;rw [h2]
theorem Q25 {body:MS} (h1:mt Γ S=.ok yo S1):Jv mt body (n + 1) Γ S=.nx Γ S1:=by
 unfold Jv;rw [h1];rfl
abbrev mW {most:Int} {starts:List Str} {rs:List Ru} {sts ws:List Str} (_:MI2 most starts rs sts ws):PV:=Ze most starts (rs.map ruV)
abbrev mO {most:Int} {starts:List Str} {rs:List Ru} {sts ws:List Str} (M:MI2 most starts rs sts ws):Option PV:=zo (mW M)
theorem Qi1 {most:Int} {q:List Str} {G:List Str} (M:MI2 most q rs G ws) (I:SdI q.length G ws s) (S:Q0):Qm [mW M,sdV s] S=.ok (.ref S.length) (S ++ [.lst ((Q0s rs s.1 s.2.1).map nV)]):=Q3a M.one I.len s.2.1 s.2.2 S
theorem Qud {most:Int} {q:List Str} {G:List Str} (M:MI2 most q rs G ws) (I:SdI q.length G ws s) (J:r∈rs) (S:Q0):Qy [ruV r,sdV s] S=.ok (sdV (stp r s)) S:=
 Q2j r (by rw [I.len]; exact (M.ru r J).h) (by rw [I.len]; have:=M.n4; omega) (by have:=(I.one M.n4).small M.w2; have:=(M.ru r J).ms; omega) s.2.2 S
theorem Qbe {p:Ru × Nat} (h:p∈Q0s rs s.1 s.2.1):rs[p.2]?=zo p.1/\fit p.1 s=zb:=let ⟨a,b⟩:=cN.mp h; ⟨Qfm a,b⟩
theorem rix {p:Ru × Nat} (h:rs[p.2]?=zo p.1) (S:Q0):oIx S (.tup (rs.map ruV)) (nV p)=.ok (ruV p.1) S:=ix_tup (by rw [D7,h]; rfl) S
theorem Qbb {most:Int} {J:List Str} {rs:List Ru} {b2 ws:List Str} (M:MI2 most J rs b2 ws) {D Fi:Nat} (a3:D≠Fi) {V:PV} {s:Sd} (I:SdI J.length b2 ws s) {w:Wt} (hw:∀ x∈w,¬ (x.1=D\/x.1=Fi)):∀ (ks:List (Ru × Nat)) (F:List Pr) (G:List Sd) (A:Q0) (a5 a6:Option PV),(∀ p∈ks,rs[p.2]?=zo p.1)->A[D]?=zo (.dtp (Zk pV F))->A[Fi]?=zo (.lst (G.map sdV))->wOk w A->G.length<=F.length ->
  ((ks.map λp=>(stp p.1 s,zo (p.2,s))).foldl Wy (F,G)).1.length<=2000 ->
  ∃ A' Z a1,Jm (Qb 5) W9 w (ks.map nV) [mO M,zo (.ref D),zo V,zo (.ref Fi),zo (sdV s),a5,a6] A=.nx [mO M,zo (.ref D),zo V,zo (.ref Fi),zo (sdV s),Z,a1] A' /\
   A'[D]?=zo (.dtp (Zk pV ((ks.map λp=>(stp p.1 s,zo (p.2,s))).foldl Wy (F,G)).1))/\A'[Fi]?=zo (.lst (((ks.map λp=>(stp p.1 s,zo (p.2,s))).foldl Wy (F,G)).2.map sdV))/\Gw (λt=>t=D\/t=Fi) A A'
 | [],F,G,A,a5,a6,_,hD,hF,O,_,_=>⟨A,a5,a6,Wr O,hD,hF,Gw.refl _ _⟩
 | p :: ks,F,G,A,a5,a6,hk,hD,hF,O,hl,hb=>by
  have hr:=hk p (by simp);have hx:=rix hr A;have hs:=Qud M I (E2 hr) A;have a4:=Qxr pV hD (stp p.1 s) zb;simp only [D5,F2] at hb ⊢;obtain ⟨ex,a8,_⟩:=Xx (ks.map λp=>((stp p.1 s,zo (p.2,s)):Pr)) (Wy (F,G) (stp p.1 s,zo (p.2,s)))
  have Q4s:(Qx 6 (Q8 2 Qy (Q1 (mOp oIx (mOp oIx (Q2 0) (mC (.int 2))) (Q2 5)) (Q1 (Q2 4) Q4)))) [mO M,zo (.ref D),zo V,zo (.ref Fi),zo (sdV s),zo (nV p),a6] A=.nx [mO M,zo (.ref D),zo V,zo (.ref Fi),zo (sdV s),zo (nV p),zo (sdV (stp p.1 s))] A:=Qj (Q5 (n:=2) (Qh (Q7 rfl rfl hx) rfl) rfl hs)
  by_cases q:stp p.1 s∈F.map (·.1)
  ·have Y:Wy (F,G) (stp p.1 s,zo (p.2,s))=(F,G):=by unfold Wy; rw [bT q]
   rw [Y] at hb ⊢;rw [bW q] at a4;obtain ⟨A',Z,a1,e,h1,h2,h3⟩:=Qbb M a3 I hw ks F G A (zo (nV p)) (zo (sdV (stp p.1 s))) (λx hx=>hk x (O4 _ hx)) hD hF O hl hb
   exact ⟨A',Z,a1,Z5 O rfl (Q3 Q4s (Jy (Qe (Q7 rfl rfl a4)) rfl)) e,h1,h2,h3⟩
  ·have Y:Wy (F,G) (stp p.1 s,zo (p.2,s))=(F ++ [(stp p.1 s,zo (p.2,s))],G ++ [stp p.1 s]):=by unfold Wy; rw [bU q]
   rw [Y] at hb a8 ⊢;rw [bV q] at a4;have b6:F.length + 1<=2000:=by
    rw [a8] at hb;simp only [O6,D3,cG] at hb;omega
   have a9:=Qu1 pV hD (by omega) q (zo (p.2,s));obtain ⟨A1,a2⟩:∃ A1,A.set D (.dtp (Zk pV (F ++ [(stp p.1 s,zo (p.2,s))])))=A1:=⟨_,rfl⟩;rw [a2] at a9;have b4:=(O3.mp hD).1;have b5:=(O3.mp hF).1;have d1:A1[D]?=zo (.dtp (Zk pV (F ++ [(stp p.1 s,zo (p.2,s))]))):=by rw [<- a2]; exact F0 b4
   have f1:A1[Fi]?=zo (.lst (G.map sdV)):=by rw [<- a2,E9 a3]; exact hF
   have g1:Gw (λt=>t=D\/t=Fi) A A1:=by rw [<- a2]; exact Gw.put A (.inl rfl) _
   obtain ⟨A2,a7⟩:∃ A2,A1.set Fi (.lst ((G ++ [stp p.1 s]).map sdV))=A2:=⟨_,rfl⟩;have d2:A2[D]?=zo (.dtp (Zk pV (F ++ [(stp p.1 s,zo (p.2,s))]))):=by rw [<- a7,E9 (Ne.symm a3)]; exact d1
   have b3:=(O3.mp f1).1;have f2:A2[Fi]?=zo (.lst ((G ++ [stp p.1 s]).map sdV)):=by rw [<- a7]; exact F0 b3
   have g2:Gw (λt=>t=D\/t=Fi) A A2:=by rw [<- a7]; exact g1.trans (Gw.put A1 (.inr rfl) _)
   have b0:Y8 A1 (.ref Fi) [sdV (stp p.1 s)]=.ok .non A2:=by
    rw [Q7j f1 (by rw [O0]; omega),<- a7,F3];rfl
   have b1:=Qu2 pV d2 (by rw [O6]; simp; omega);obtain ⟨A',Z,a1,e,h1,h2,h3⟩:=Qbb M a3 I hw ks (F ++ [(stp p.1 s,zo (p.2,s))]) (G ++ [stp p.1 s]) A2 (zo (nV p)) (zo (sdV (stp p.1 s))) (λx hx=>hk x (O4 _ hx)) d2 f2 (g2.w O hw) (by rw [O6,O6]; simp; omega) hb
   refine ⟨A',Z,a1,Z5 O rfl (Q3 Q4s (Vn (Qe (Q7 rfl rfl a4)) (Q3 (jg rfl rfl rfl a9) (Q3 (Qbv rfl (Uw f1) rfl b0) (Jy (Qe (Q7 (Jw rfl b1) rfl (xk A2 ?_))) rfl))))) e,h1,h2,g2.trans h3⟩;rw [O6];simp;omega
theorem Qd4 {most:Int} {q:List Str} {rs:List Ru} {a3 ws:List Str} (M:MI2 most q rs a3 ws) {D Fi:Nat} (a2:D≠Fi) {V:PV} {w:Wt} (hw:∀ x∈w,¬ (x.1=D\/x.1=Fi)):∀ (fr:List Sd) (F:List Pr) (G:List Sd) (A:Q0) (a4 a5 a6:Option PV),(∀ s∈fr,SdI q.length a3 ws s)->A[D]?=zo (.dtp (Zk pV F))->A[Fi]?=zo (.lst (G.map sdV))->wOk w A->G.length<=F.length ->
  ((trp rs fr).foldl Wy (F,G)).1.length<=2000 ->
  ∃ A' a9 b2 b3,Jm (Qb 4) Wa w (fr.map sdV) [mO M,zo (.ref D),zo V,zo (.ref Fi),a4,a5,a6] A=.nx [mO M,zo (.ref D),zo V,zo (.ref Fi),a9,b2,b3] A' /\
   A'[D]?=zo (.dtp (Zk pV ((trp rs fr).foldl Wy (F,G)).1))/\A'[Fi]?=zo (.lst (((trp rs fr).foldl Wy (F,G)).2.map sdV))/\Gw (λt=>t=D\/t=Fi) A A'
 | [],F,G,A,a4,a5,a6,_,hD,hF,O,_,_=>⟨A,a4,a5,a6,Wr O,hD,hF,Gw.refl _ _⟩
 | s :: fr,F,G,A,a4,a5,a6,hi,hD,hF,O,hl,hb=>by
  have I:=hi s (by simp);have hn:=Qi1 M I A;obtain ⟨ks,Y⟩:∃ ks,Q0s rs s.1 s.2.1=ks:=⟨_,rfl⟩;have b9:∀ p∈ks,rs[p.2]?=zo p.1:=λp hp=>(Qbe (by rw [Y]; exact hp)).1
  have c0:ks.length<=9:=by
   rw [<- Y];have:=eV (λp:Ru × Nat=>qw p.1 s.1 s.2.1) rs.zipIdx;rw [fg] at this;exact D9 this M.len
  have b7:trp rs (s :: fr)=(ks.map λp=>(stp p.1 s,zo (p.2,s))) ++ trp rs fr:=by
   show (s :: fr).flatMap (Qkd rs)=_;rw [List.flatMap_cons,<- Y]; rfl
  rw [Y] at hn;rw [b7,fO] at hb ⊢;obtain ⟨Z,J⟩:∃ Z,A ++ [Cell.lst (ks.map nV)]=Z:=⟨_,rfl⟩;rw [J] at hn;have g1:Gw (λt=>t=D\/t=Fi) A Z:=by rw [<- J]; exact Gw.add _ _ _
  have b8:=(O3.mp hD).1;have b1:=(O3.mp hF).1;have d1:Z[D]?=zo (.dtp (Zk pV F)):=by rw [<- J,O8 b8]; exact hD
  have f1:Z[Fi]?=zo (.lst (G.map sdV)):=by rw [<- J,O8 b1]; exact hF
  have n1:Z[A.length]?=zo (.lst (ks.map nV)):=by rw [<- J]; exact Y3 _ _
  obtain ⟨ex,a1,a7,_⟩:=Xx (trp rs fr) ((ks.map λp=>((stp p.1 s,zo (p.2,s)):Pr)).foldl Wy (F,G))
  obtain ⟨ey,b0,a8,_⟩:=Xx (ks.map λp=>((stp p.1 s,zo (p.2,s)):Pr)) (F,G)
  obtain ⟨A2,b5,b6,e2,d2,f2,g2⟩:=Qbb M a2 (V:=V) I (w:=[(A.length,.lst (ks.map nV))]) (λx hx=>by
   have:x=(A.length,.lst (ks.map nV)):=by simpa using hx
   rw [this];show ¬ (A.length=D\/A.length=Fi);omega) ks F G Z a5 a6 b9 d1 f1 (Um n1) hl (by rw [a1,O6] at hb; omega)
  obtain ⟨A3,b4,c5,c6,e3,d3,f3,g3⟩:=Qd4 M a2 (V:=V) hw fr _ _ A2 (zo (sdV s)) b5 b6 (λx hx=>hi x (O4 _ hx)) d2 f2 ((g1.trans g2).w O hw) (by rw [b0,a8,O6,O6,O0]; show G.length + _<=F.length + _; omega) hb
  exact ⟨A3,b4,c5,c6,Z5 O rfl (Ju (Jg (Q5 (n:=2) rfl rfl hn) (U6 n1) (by rw [O0]; omega)) e2) e3,d3,f3,(g1.trans g2).trans g3⟩
theorem Qba {most:Int} {q:List Str} {J:List Str} (M:MI2 most q rs J ws) {V:PV} {w:Wt} (hV:∀ T,Y0 (S ++ T) V=zo (fr.map sdV,w)) (I:wOk w S) (hw:∀ x∈w,x.1≠D) (hi:∀ s∈fr,SdI q.length J ws s) (hD:S[D]?=zo (.dtp (Zk pV F))) (Y:fr.length<=1000000) (hb:((trp rs fr).foldl Wy (F,[])).1.length<=2000) :
  ∃ O,Zg [mW M,.ref D,V] S=.ok (.ref S.length) O/\O[D]?=zo (.dtp (Zk pV ((trp rs fr).foldl Wy (F,[])).1))/\O[S.length]?=zo (.lst (((trp rs fr).foldl Wy (F,[])).2.map sdV))/\Gw (λt=>t=D) S O:=by
 have Z:=(O3.mp hD).1;have d1:(S ++ [Cell.lst []])[D]?=zo (.dtp (Zk pV F)):=by rw [O8 Z]; exact hD
 have G:∀ x∈w,¬ (x.1=D\/x.1=S.length):=λx hx z=>by
  rcases z with z | z
  ·exact hw x hx z
  ·have:=(O3.mp (I x hx)).1;omega
 obtain ⟨A',a4,a5,a6,e,h1,h2,h3⟩:=Qd4 M (D:=D) (Fi:=S.length) (by omega) (V:=V) G fr F [] (S ++ [Cell.lst []]) zl zl zl hi d1 (Y3 _ _) ((Gw.add (λt=>t=D\/t=S.length) S _).w I G) (F8 _) hb;refine ⟨A',Qu (show V6 [mO M,zo (.ref D),zo V,zl,zl,zl,zl] S=_ from Q3 (Qj (X0 rfl)) (Q3 (Ju (Jg rfl (hV _) (by rw [O0]; exact Y)) e) (Qn rfl))),h1,h2,?_⟩;refine ((Gw.add (λt=>t=D\/t=S.length) S _).trans h3).mono λt ht z=>?_
 rcases z with z | z
 ·exact z
 ·omega
theorem Qju {most:Int} {J:List Str} {rs:List Ru} {a1 ws:List Str} (M:MI2 most J rs a1 ws) {V:PV} {s:Sd} {w:Wt} {A:Q0} (I:wOk w A):∀ (ks:List (Ru × Nat)) (Y:Option PV),(∀ p∈ks,rs[p.2]?=zo p.1) ->
  ((ks.any λp=>decide (most < s.2.2 + p.1.u))=yo/\∃ O,Jm (Qb 3) Z8 w (ks.map nV) [mO M,zo V,zo (sdV s),Y] A=.nx [mO M,zo V,zo (sdV s),O] A) \/
  (∃ p∈ks,most < s.2.2 + p.1.u/\Jm (Qb 3) Z8 w (ks.map nV) [mO M,zo V,zo (sdV s),Y] A=.rt (.tup [nV p,sdV s]) A)
 | [],Y,_=>.inl ⟨rfl,Y,Wr I⟩
 | p :: ks,Y,hk=>by
  have Z:=rix (hk p (by simp)) A
  by_cases q:most < s.2.2 + p.1.u
  ·exact .inr ⟨p,by simp,q,jk I rfl (Vn (Qe (Q7 (Q7 rfl (Q7 (Q7 rfl rfl Z) rfl rfl) (Qfh A s.2.2 p.1.u)) rfl (qv A q))) (Qn rfl))⟩
  ·have G:Z8 [mO M,zo V,zo (sdV s),zo (nV p)] A=.nx [mO M,zo V,zo (sdV s),zo (nV p)] A:=Jy (Qe (Q7 (Q7 rfl (Q7 (Q7 rfl rfl Z) rfl rfl) (Qfh A s.2.2 p.1.u)) rfl (xk A q))) rfl;rcases Qju M I ks (zo (nV p)) (λx Z=>hk x (O4 _ Z)) with ⟨h1,O,e⟩ | ⟨p',a2,h1,e⟩
   ·exact .inl ⟨by rw [cH,bV q,h1]; rfl,O,Z5 I rfl G e⟩
   ·exact .inr ⟨p',O4 _ a2,h1,Z5 I rfl G e⟩
theorem Qdb {most:Int} {q:List Str} {rs:List Ru} {a6 ws:List Str} (M:MI2 most q rs a6 ws) {V:PV} {w:Wt}:∀ (fr:List Sd) (A:Q0) (a2 Z:Option PV),wOk w A->(∀ s∈fr,SdI q.length a6 ws s) ->
  (Ys rs most fr=yo/\∃ A' b0 a7,Jm (Qb 2) Z9 w (fr.map sdV) [mO M,zo V,a2,Z] A=.nx [mO M,zo V,b0,a7] A'/\Gw (λ_=>False) A A') \/
  (∃ s∈fr,∃ (r:Ru) (n:Nat) (A':Q0),rs[n]?=zo r/\fit r s=zb/\most < s.2.2 + r.u/\Jm (Qb 2) Z9 w (fr.map sdV) [mO M,zo V,a2,Z] A=.rt (.tup [.int (n:Int),sdV s]) A'/\Gw (λ_=>False) A A')
 | [],A,a2,Z,G,_=>.inl ⟨rfl,A,a2,Z,Wr G,Gw.refl _ _⟩
 | s :: fr,A,a2,Z,G,hi=>by
  have I:=hi s (by simp);have hn:=Qi1 M I A;obtain ⟨ks,O⟩:∃ ks,Q0s rs s.1 s.2.1=ks:=⟨_,rfl⟩;have a4:∀ p∈ks,rs[p.2]?=zo p.1/\fit p.1 s=zb:=λp hp=>Qbe (by rw [O]; exact hp)
  have b1:ks.length<=9:=by
   rw [<- O];have:=eV (λp:Ru × Nat=>qw p.1 s.1 s.2.1) rs.zipIdx;rw [fg] at this;exact D9 this M.len
  rw [O] at hn;obtain ⟨Y,a1⟩:∃ Y,A ++ [Cell.lst (ks.map nV)]=Y:=⟨_,rfl⟩;rw [a1] at hn;have g1:Gw (λ_=>False) A Y:=by rw [<- a1]; exact Gw.add _ _ _
  have n1:Y[A.length]?=zo (.lst (ks.map nV)):=by rw [<- a1]; exact Y3 _ _
  rcases Qju M (V:=V) (s:=s) (Um n1) ks Z (λp hp=>(a4 p hp).1) with ⟨h1,b3,e⟩ | ⟨p,hp,h1,e⟩
  ·have J:Z9 [mO M,zo V,zo (sdV s),Z] A=.nx [mO M,zo V,zo (sdV s),b3] Y:=Ju (Jg (Q5 (n:=2) rfl rfl hn) (U6 n1) (by rw [O0]; omega)) e;have a5:(rs.any λr=>fit r s && decide (most < s.2.2 + r.u))=yo:=by
    rw [cx];intro r hr z;simp only [E4,decide_eq_true_eq] at z;obtain ⟨n,a9,a8⟩:=G6 hr;have hm:(r,n)∈ks:=by
     rw [<- O];refine cN.mpr ⟨ig.mpr ?_,z.1⟩;rw [O2 a9,a8]
    have:=cx.mp h1 _ hm;simp only [decide_eq_true_eq] at this;exact this z.2
   rcases Qdb M fr Y (zo (sdV s)) b3 (g1.w G λ_ _ h=>h) (λx hx=>hi x (O4 _ hx)) with ⟨k1,A2,b2,c3,e2,g2⟩ | ⟨t,ht,r,n,A2,k1,k2,k3,e2,g2⟩
   ·exact .inl ⟨by unfold Ys; rw [cH,a5]; exact k1,A2,b2,c3,Z5 G rfl J e2,g1.trans g2⟩
   ·exact .inr ⟨t,O4 _ ht,r,n,A2,k1,k2,k3,Z5 G rfl J e2,g1.trans g2⟩
  ·exact .inr ⟨s,by simp,p.1,p.2,Y,(a4 p hp).1,(a4 p hp).2,h1,jk G rfl (Ju (Jg (Q5 (n:=2) rfl rfl hn) (U6 n1) (by rw [O0]; omega)) e),g1⟩
def nI (k:Nat):PV:=.int (k:Int)
theorem Q85 {F:List Pr} (hn:(F.map (·.1)).Nodup) {D R:Nat} (Z:D≠R) {V:PV}:∀ {s:Sd} {ks:List Nat},Tr F s ks->∀ (m:Nat) (acc:List Nat) (A:Q0),A[D]?=zo (.dtp (Zk pV F))->A[R]?=zo (.lst (acc.map nI))->acc.length + ks.length<=1000 ->
  ∃ Y a3,Jv zf ye (m + ks.length + 1) [zo (.ref D),zo V,zo (.ref R),zo (sdV s)] A=.nx [zo (.ref D),zo V,zo (.ref R),a3] Y/\Y[R]?=zo (.lst ((acc ++ ks).map nI))/\Gw (λt=>t=R) A Y
 | s,[],.nil h,m,acc,A,hD,J,_=>⟨A,_,Q25 (Qe (Q7 (Q78 rfl rfl (Qbh pV hD hn h)) rfl rfl)),by rw [L1]; exact J,Gw.refl _ _⟩
 | s,n :: ks,.cons (q:=q) h t,m,acc,A,hD,J,hl=>by
  have hg:=Qbh pV hD hn h;rw [D3] at hl;have a2:=(O3.mp J).1;obtain ⟨I,G⟩:∃ I,A.set R (.lst ((acc ++ [n]).map nI))=I:=⟨_,rfl⟩;have O:Y8 A (.ref R) [nI n]=.ok .non I:=by
   rw [Q7j J (by rw [O0]; omega),<- G,F3];rfl
  have d1:I[D]?=zo (.dtp (Zk pV F)):=by rw [<- G,E9 (Ne.symm Z)]; exact hD
  have r1:I[R]?=zo (.lst ((acc ++ [n]).map nI)):=by rw [<- G]; exact F0 a2
  have g1:Gw (λt=>t=R) A I:=by rw [<- G]; exact Gw.put (P:=λt=>t=R) A rfl _
  have a1:=Qbh pV d1 hn h;obtain ⟨Y,a3,e,h1,h2⟩:=Q85 hn Z (V:=V) t m (acc ++ [n]) I d1 r1 (by rw [O6]; simp; omega);refine ⟨Y,a3,?_,by rw [h1]; simp,g1.trans h2⟩;rw [D3,show m + (ks.length + 1) + 1=(m + ks.length + 1) + 1 from rfl];exact Q4x (Qe (Q7 (Q78 rfl rfl hg) rfl rfl)) (Q3 (Qbv rfl (Uw J) (Qh (Q7 (Q78 rfl rfl hg) rfl rfl) rfl) O) (Qj (Q7 (Q78 rfl rfl a1) rfl rfl))) e
theorem Qrs (Y:(F.map (·.1)).Nodup) {ks:List Nat} (t:Tr F s ks) (I:S[D]?=zo (.dtp (Zk pV F))) (O:ks.length<=1000):∃ J,Ui [.ref D,sdV s] S=.ok (.lst (ks.reverse.map nI)) J/\Gw (λ_=>False) S J:=by
 have G:=(O3.mp I).1;have Z:(S ++ [Cell.lst []])[D]?=zo (.dtp (Zk pV F)):=by rw [O8 G]; exact I
 obtain ⟨q,a3,e,h1,h2⟩:=Q85 Y (D:=D) (R:=S.length) (by omega) (V:=sdV s) t (99999 - ks.length) [] (S ++ [Cell.lst []]) Z (Y3 _ _) (by simpa using O);rw [show 99999 - ks.length + ks.length + 1=100000 by omega] at e;refine ⟨q,Qu (show Q3f [zo (.ref D),zo (sdV s),zl,zl] S=_ from Q3 (Qj (X0 rfl)) (Q3 (Qj rfl) (Q3 e (Qn (Vu ?_))))),((Gw.add (λt=>t=S.length) S _).trans h2).mono λt ht z=>by omega⟩;show (match U4 q (.ref S.length) with | some xs=>if xs.length<=1000000 then Res.ok xs.reverse q else .stuck | none=>.stuck)=_
 have:U4 q (.ref S.length)=zo (ks.map nI):=by
  show (match q[S.length]? with | some (.lst xs)=>zo xs | _=>zl)=_
  rw [h1]; rfl
 rw [this];show (if (ks.map nI).length<=1000000 then Res.ok (ks.map nI).reverse q else .stuck)=_;rw [bT (by rw [O0]; omega),List.map_reverse]
theorem qz {B:Nat} (h:S[B]?=zo (.lst xs)):Je S [.ref B]=.ok (.int (xs.length:Nat)) S:=by rw [Qu9,h]
def FrAt (S:Q0) (V:PV) (fr:List Sd):Prop:=V=.lst (fr.map sdV)\/∃ B,V=.ref B/\S[B]?=zo (.lst (fr.map sdV))
theorem FrAt.src {V:PV} (h:FrAt S V fr) {c:List (HK × PV)} (G:S[D]?=zo (.dtp c)):∃ w,(∀ T,Y0 (S ++ T) V=zo (fr.map sdV,w))/\wOk w S/\∀ x∈w,x.1≠D:=by
 rcases h with rfl | ⟨B,rfl,h⟩
 ·exact ⟨[],λ_=>rfl,Qz _,λx q=>nomatch q⟩
 ·refine ⟨[(B,.lst (fr.map sdV))],λT=>U6 (by rw [O8 (O3.mp h).1]; exact h),Um h,λx q e=>?_⟩;have:x=(B,.lst (fr.map sdV)):=by simpa using q
  rw [this] at e;have e:B=D:=e;rw [e,G] at h;cases h
theorem Q49 {most:Int} {q:List Str} {I:List Str} (M:MI2 most q rs I ws) {V:PV} {w:Wt} (Y:Y0 S V=zo (fr.map sdV,w)) (Z:wOk w S) (O:fr.length<=1000000) (hi:∀ s∈fr,SdI q.length I ws s) :
  (Ys rs most fr=yo/\∃ G,Z1 [mW M,V] S=.ok .non G/\Gw (λ_=>False) S G) \/
  (∃ s∈fr,∃ (r:Ru) (n:Nat) (G:Q0),rs[n]?=zo r/\fit r s=zb/\most < s.2.2 + r.u/\Z1 [mW M,V] S=.ok (.tup [.int (n:Int),sdV s]) G/\Gw (λ_=>False) S G):=by
 rcases Qdb M (V:=V) fr S zl zl Z hi with ⟨h1,J,a2,a3,e,g⟩ | ⟨s,hs,r,n,J,h1,h2,h3,e,g⟩
 ·exact .inl ⟨h1,J,Qu (show Yv [mO M,zo V,zl,zl] S=_ from Q3 (Ju (Jg rfl Y (by rw [O0]; exact O)) e) (Qn rfl)),g⟩
 ·exact .inr ⟨s,hs,r,n,J,h1,h2,h3,Qu (show Yv [mO M,zo V,zl,zl] S=_ from Jr (Ju (Jg rfl Y (by rw [O0]; exact O)) e)),g⟩
def Qug (most:Int) (starts:List Str) (rs:List Ru) (N:Nat) (D:Nat) (v:PV) (A:Q0):Prop:=
 (Ys rs most (lvs rs (starts,[],0) N).2=zb/\∃ (R:Nat) (ks:List Nat) (n:Nat) (r:Ru) (s:Sd),v=.tup [.ref D,.ref R]/\D < R/\A[R]?=zo (.lst ((ks ++ [n]).map nI))/\ks.length=N/\wkS rs ks (starts,[],0)=zo s/\s∈(lvs rs (starts,[],0) N).1/\rs[n]?=zo r/\fit r s=zb/\most < s.2.2 + r.u) \/
 (Ys rs most (lvs rs (starts,[],0) N).2=yo/\v=.tup [.ref D,.non]/\A[D]?=zo (.dtp (Zk pV (lvF rs (starts,[],0) N).1)))
theorem Qdn {most:Int} {q:List Str} {b5:List Str} (M:MI2 most q rs b5 ws) (hN:N<=600) (hS:U9 rs most (q,[],0) N) (a7:∀ i,i < N->¬ U9 rs most (q,[],0) i) :∀ (j i:Nat),i + j=N->∀ (m:Nat) (A:Q0) (V:PV) (a3:Option PV),A[D]?=zo (.dtp (Zk pV (lvF rs (q,[],0) i).1))->FrAt A V (lvF rs (q,[],0) i).2 ->
  ∃ A',Gw (λt=>t=D) A A'/\((∃ v,Jv Y5 Va (m + j + 2) [mO M,zo (.ref D),zo V,a3] A=.rt v A'/\Ys rs most (lvs rs (q,[],0) N).2=zb/\Qug most q rs N D v A')\/(∃ V' b3,Jv Y5 Va (m + j + 2) [mO M,zo (.ref D),zo V,a3] A=.nx [mO M,zo (.ref D),zo V',b3] A'/\Qug most q rs N D (.tup [.ref D,.non]) A')):=by
 intro j
 induction j with
 | zero=>
  intro i hi m A V a3 hD hV;have hi:i=N:=by omega
  subst hi;have O:=xf rs (q,[],0) i;have e1:(lvF rs (q,[],0) i).1.map (·.1)=(lvs rs (q,[],0) i).1:=congrArg bq O;have Y:(lvF rs (q,[],0) i).2=(lvs rs (q,[],0) i).2:=congrArg ca O;have a4:∀ j,j < i->Ys rs most (lvs rs (q,[],0) j).2=yo:=λj hj=>by
   cases z:Ys rs most (lvs rs (q,[],0) j).2 with
   | false=>rfl
   | true=>exact absurd (.inl z) (a7 j hj)
  obtain ⟨k1,k2,k3⟩:=zw M i;have kf:=jh M a4;obtain ⟨w,Z,hw,c1⟩:=hV.src hD;have b9:(lvF rs (q,[],0) i).2.length<=576:=by
   rw [Y];refine D9 ?_ kf;cases i with
   | zero=>simp [lvs]
   | succ i=>rw [Q3j]; omega
  have I:Je A [V]=.ok (.int ((lvF rs (q,[],0) i).2.length:Nat)) A:=by
   rcases hV with rfl | ⟨B,rfl,h⟩
   ·show Res.ok (PV.int (((lvF rs (q,[],0) i).2.map sdV).length:Nat)) A=_;rw [O0]
   ·have:=qz h;rw [this,O0]
  by_cases J:(lvF rs (q,[],0) i).2=[]
  ·refine ⟨A,Gw.refl _ _,.inr ⟨V,a3,?_,.inr ⟨?_,rfl,hD⟩⟩⟩
   ·rw [J] at I;exact Q25 (Qe (Q7 (Jw rfl I) rfl rfl))
   ·rw [<- Y,J]; rfl
  ·have hb:Ys rs most (lvs rs (q,[],0) i).2=zb:=by
    rcases hS with h | h
    ·exact h
    ·rw [<- Y] at h; exact absurd h J
   have ht:Y5 [mO M,zo (.ref D),zo V,a3] A=.ok zb A:=by
    refine Qe (Q7 (Jw rfl I) rfl (qv A ?_));have:(lvF rs (q,[],0) i).2.length≠0:=λz=>J (fe z)
    omega
   have G:=Z [];rw [L1] at G;rcases Q49 M G hw (by omega) (λs hs=>k3 s (k2 s (by rw [<- Y]; exact hs))) with ⟨z,_⟩ | ⟨s,hs,r,n,A1,h1,h2,h3,e,g⟩
   ·rw [Y,hb] at z; cases z
   ·obtain ⟨ks,c0,b2⟩:=Qid rs (q,[],0) i s hs;have d1:=g.at hD (λh=>h);obtain ⟨A2,er,g2⟩:=Qrs (by rw [e1]; exact k1) b2 d1 (by omega);have a8:x8 (Q5e (Q8 2 Ui (Q1 (Q2 1) (Q1 (mOp oIx (Q2 3) (mC (.int 1))) Q4))) (x9 (Q1 (mOp oIx (Q2 3) (mC (.int 0))) Q4))) [mO M,zo (.ref D),zo V,zo (.tup [.int (n:Int),sdV s])] A1=.ok (.ref A2.length) (A2 ++ [.lst ((ks.reverse ++ [n]).map nI)]):=by
     refine X0 ?_;unfold Q5e;rw [Q5 (n:=2) (F:=Ui) rfl rfl er,Qk];show Q8r A2 (.lst (ks.reverse.map nI)) (.lst [.int (n:Int)])=_;show (if (ks.reverse.map nI).length + 1<=lim then Res.ok (ks.reverse.map nI ++ [.int (n:Int)]) A2 else .stuck)=_;rw [bT (by rw [O0,eM,qr]; omega),F3];rfl
    refine ⟨A2 ++ [.lst ((ks.reverse ++ [n]).map nI)],((g.trans g2).trans (Gw.add _ _ _)).mono (λt _ h=>h.elim),.inl ⟨.tup [.ref D,.ref A2.length],Qdi ht (Q3 (Qj (Q5 (n:=2) rfl rfl e)) (Jr (Vn (Qe (Q7 rfl rfl rfl)) (Qn (zg (Qh rfl (Qh a8 rfl)) (by simp)))))),hb,.inl ⟨hb,A2.length,ks.reverse,n,r,s,rfl,D1 (O3.mp hD).1 (D9 g.len g2.len),Y3 _ _,by rw [eM,c0],Qq2 (Q5f rs (q,[],0) i) b2,k2 s (by rw [<- Y]; exact hs),h1,h2,h3⟩⟩⟩
 | succ j ih=>
  intro i hi m A V a3 hD hV;have O:=xf rs (q,[],0) i;have e1:(lvF rs (q,[],0) i).1.map (·.1)=(lvs rs (q,[],0) i).1:=congrArg bq O;have Y:(lvF rs (q,[],0) i).2=(lvs rs (q,[],0) i).2:=congrArg ca O;have b0:=xf rs (q,[],0) (i + 1);have c2:(lvF rs (q,[],0) (i + 1)).1.map (·.1)=(lvs rs (q,[],0) (i + 1)).1:=congrArg bq b0;have a5:=a7 i (by omega);have a4:∀ j,j < i + 1->Ys rs most (lvs rs (q,[],0) j).2=yo:=λj hj=>by
   cases z:Ys rs most (lvs rs (q,[],0) j).2 with
   | false=>rfl
   | true=>exact absurd (.inl z) (a7 j (by omega))
  obtain ⟨k1,k2,k3⟩:=zw M i;have kf:=jh M (i:=i) (λj hj=>a4 j (by omega))
  have b6:=jh M a4;obtain ⟨w,Z,hw,c1⟩:=hV.src hD;have b9:(lvF rs (q,[],0) i).2.length<=576:=by
   rw [Y];refine D9 ?_ kf;cases i with
   | zero=>simp [lvs]
   | succ i=>rw [Q3j]; omega
  have I:Je A [V]=.ok (.int ((lvF rs (q,[],0) i).2.length:Nat)) A:=by
   rcases hV with rfl | ⟨B,rfl,h⟩
   ·show Res.ok (PV.int (((lvF rs (q,[],0) i).2.map sdV).length:Nat)) A=_;rw [O0]
   ·have:=qz h;rw [this,O0]
  have J:(lvF rs (q,[],0) i).2≠[]:=λz=>a5 (.inr (by rw [<- Y]; exact z))
  have ht:Y5 [mO M,zo (.ref D),zo V,a3] A=.ok zb A:=by
   refine Qe (Q7 (Jw rfl I) rfl (qv A ?_));have:(lvF rs (q,[],0) i).2.length≠0:=λz=>J (fe z)
   omega
  have G:=Z [];rw [L1] at G;have b4:∀ s∈(lvF rs (q,[],0) i).2,SdI q.length b5 ws s:=λs hs=>k3 s (k2 s (by rw [<- Y]; exact hs))
  rcases Q49 M G hw (by omega) b4 with ⟨z,A1,e,g⟩ | ⟨s,hs,r,n,A1,h1,h2,h3,e,g⟩
  ·have d1:=g.at hD (λh=>h);have b7:FrAt A1 V (lvF rs (q,[],0) i).2:=by
    rcases hV with h | ⟨B,h,hB⟩
    ·exact .inl h
    ·exact .inr ⟨B,h,g.at hB (λh=>h)⟩
   obtain ⟨w1,a6,b8,a9⟩:=b7.src d1;have a2:((trp rs (lvF rs (q,[],0) i).2).foldl Wy ((lvF rs (q,[],0) i).1,[])).1.length<=2000:=by
    have:((lvF rs (q,[],0) (i + 1)).1.map (·.1)).length<=576:=by rw [c2]; exact b6
    rw [O0] at this;exact D9 this (by decide)
   obtain ⟨A2,ef,d2,f2,g2⟩:=Qba M a6 b8 a9 b4 d1 (by omega) a2;obtain ⟨A',gA,b1⟩:=ih (i + 1) (by omega) m A2 (.ref A1.length) (zo .non) d2 (.inr ⟨_,rfl,f2⟩);have a1:∀ r,Jv Y5 Va (m + j + 2) [mO M,zo (.ref D),zo (.ref A1.length),zo .non] A2=r->Jv Y5 Va (m + (j + 1) + 2) [mO M,zo (.ref D),zo V,a3] A=r:=λr hr=>by
    rw [show m + (j + 1) + 2=(m + j + 2) + 1 from rfl];exact Q4x ht (Q3 (Qj (Q5 (n:=2) rfl rfl e)) (Q3 (Jy (Qe (Q7 rfl rfl rfl)) rfl) (Qj (Q5 (n:=3) rfl rfl ef)))) hr
   refine ⟨A',((g.mono (λt _ h=>h.elim)).trans g2).trans gA,?_⟩;rcases b1 with ⟨v,h1,h2,h3⟩ | ⟨V',b3,h1,h2⟩
   ·exact .inl ⟨v,a1 _ h1,h2,h3⟩
   ·exact .inr ⟨V',b3,a1 _ h1,h2⟩
  ·exfalso;refine a5 (.inl (cM.mpr ⟨s,by rw [<- Y]; exact hs,cM.mpr ⟨r,E2 h1,?_⟩⟩));rw [h2,bW h3]; rfl
theorem xt {most:Int} {q:List Str} {rules:List PV} (S:Q0):J6 [Ze most q rules] S=.ok (sdV (q,[],0)) S:=by
 have st:qj [zo (Ze most q rules)] S=.rt (sdV (q,[],0)) S:=rfl;have:=Vr (nl:=1) (ps:=[Ze most q rules]) st;unfold J6;rw [this];exact Q3z (yi _ _ _)
theorem Qdm {most:Int} {q:List Str} {Y:List Str} (M:MI2 most q rs Y ws) (hN:N<=600) (hS:U9 rs most (q,[],0) N) (I:∀ i,i < N->¬ U9 rs most (q,[],0) i) (S:Q0):∃ v Z,j6 [mW M] S=.ok v Z/\Gw (λ_=>False) S Z/\Qug most q rs N S.length v Z:=by
 have d1:(S ++ [Cell.dtp [(sdK (q,[],0),.non)]])[S.length]?=zo (.dtp (Zk pV (lvF rs (q,[],0) 0).1)):=Y3 _ _;obtain ⟨J,g,G⟩:=Qdn M hN hS I (D:=S.length) N 0 (by omega) (99998 - N) (S ++ [Cell.dtp [(sdK (q,[],0),.non)]]) (.lst [sdV (q,[],0)]) zl d1 (.inl rfl);rw [show 99998 - N + N + 2=100000 by omega] at G;have h1:(Qx 1 (jf (Q8 1 J6 (Q1 (Q2 0) Q4)) (mC .non))) [mO M,zl,zl,zl] S=.nx [mO M,zo (.ref S.length),zl,zl] (S ++ [Cell.dtp [(sdK (q,[],0),.non)]]):=by
  refine Qj ?_;unfold jf;rw [Q5 (n:=1) (F:=J6) rfl rfl (xt S),Qk];show Qbi S .non (sdV (q,[],0))=_;unfold Qbi;rw [Ks]
 have h2:(Qx 2 (x9 (Q1 (Q8 1 J6 (Q1 (Q2 0) Q4)) Q4))) [mO M,zo (.ref S.length),zl,zl] (S ++ [Cell.dtp [(sdK (q,[],0),.non)]])=.nx [mO M,zo (.ref S.length),zo (.lst [sdV (q,[],0)]),zl] (S ++ [Cell.dtp [(sdK (q,[],0),.non)]]):=Qj (Qk4 (Qh (Q5 (n:=1) rfl rfl (xt _)) rfl) (by simp));have gg:Gw (λ_=>False) S J:=((Gw.add (λt=>t=S.length) S _).trans g).mono λt ht z=>by omega
 rcases G with ⟨v,e,_,O⟩ | ⟨V',b3,e,O⟩
 ·exact ⟨v,J,Qu (show yz [mO M,zl,zl,zl] S=_ from Q3 h1 (Q3 h2 (Jr e))),gg,O⟩
 ·exact ⟨_,J,Qu (show yz [mO M,zl,zl,zl] S=_ from Q3 h1 (Q3 h2 (Q3 e (Qn rfl)))),gg,O⟩
def Qa7 (most:Int) (starts:List Str) (rs:List Ru) (N L:Nat) (v:PV) (A:Q0):Prop:=
 (Ys rs most (lvs rs (starts,[],0) N).2=zb/\∃ (R:Nat) (ks:List Nat) (n:Nat) (r:Ru) (s:Sd),v=.tup [.str "breaks",.ref R]/\L<=R/\A[R]?=zo (.lst ((ks ++ [n]).map nI))/\ks.length=N/\wkS rs ks (starts,[],0)=zo s/\s∈(lvs rs (starts,[],0) N).1/\rs[n]?=zo r/\fit r s=zb/\most < s.2.2 + r.u) \/
 (Ys rs most (lvs rs (starts,[],0) N).2=yo/\∃ R:Nat,v=.tup [.str "keeps",.ref R]/\L<=R/\A[R]?=zo (.lst ((lvs rs (starts,[],0) N).1.map sdV)))
theorem Qfv {most:Int} {q:List Str} {Y:List Str} (M:MI2 most q rs Y ws) (h:Man most q (rs.map ruV)) (hN:N<=600) (hS:U9 rs most (q,[],0) N) (I:∀ i,i < N->¬ U9 rs most (q,[],0) i) (S:Q0):∃ v Z,xv [mW M] S=.ok v Z/\Gw (λ_=>False) S Z/\Qa7 most q rs N S.length v Z:=by
 obtain ⟨v,A,e,g,ht⟩:=Qdm M hN hS I S;have h0:=Q6t h S;rcases ht with ⟨O,R,ks,n,r,s,rfl,G,hR,k1,k2,k3,k4,k5,k6⟩ | ⟨O,rfl,hD⟩
 ·exact ⟨_,A,Qu (show Q1u [mO M,zl] S=_ from Q3 (yb (Q5 (n:=1) rfl rfl h0)) (Q3 (Qj (Q5 (n:=1) rfl rfl e)) (Jr (Vn (Qe (Q7 rfl rfl rfl)) (Qn rfl))))),g,.inl ⟨O,R,ks,n,r,s,rfl,cn G,hR,k1,k2,k3,k4,k5,k6⟩⟩
 ·have hl:Q1w (mOp oIx (Q2 1) (mC (.int 0))) [mO M,zo (.tup [.ref S.length,.non])] A=.ok ((lvs rs (q,[],0) N).1.map sdV) A:=by
   show (match Zr A (.ref S.length) with | some (J:List (HK × PV))=>Res.ok (J.map λ(kv:HK × PV)=>hkV kv.1) A | none=>.stuck)=_
   rw [Q9k pV hD];have e1:(lvF rs (q,[],0) N).1.map (·.1)=(lvs rs (q,[],0) N).1:=congrArg bq (xf rs (q,[],0) N);rw [<- e1,G8];show Res.ok ((Zk pV (lvF rs (q,[],0) N).1).map λ(kv:HK × PV)=>hkV kv.1) A=_
   unfold Zk;rw [G8];congr 1;exact cX λx _=>Qx9 x.1
  exact ⟨_,A ++ [.lst ((lvs rs (q,[],0) N).1.map sdV)],Qu (show Q1u [mO M,zl] S=_ from Q3 (yb (Q5 (n:=1) rfl rfl h0)) (Q3 (Qj (Q5 (n:=1) rfl rfl e)) (Q3 (Jy (Qe (Q7 rfl rfl rfl)) rfl) (Qn (zg (Qh rfl (Qh (X0 hl) rfl)) (by simp)))))),g.trans (Gw.add _ _ _),.inr ⟨O,A.length,rfl,g.len,Y3 _ _⟩⟩
structure SdW (n:Nat) (s:Sd):Prop where
 len:s.1.length=n
 w:∀ x∈s.1,Zn x=zb
 l:∀ p∈s.2.1,0<=p.1/\p.1 < n/\Qk8 p.2
 ri:s.2.1.Pairwise λa b=>Zh a b=zb
 few:s.2.1.length<=20
theorem Gw.pre (g:Gw (λ_=>False) S A):A=S ++ A.drop S.length:=by
 conv=>lhs; rw [<- eG S.length A]
 congr 1;apply cS;intro i
 by_cases q:i < S.length
 ·rw [gE q,g.keep i q (λh=>h)]
 ·rw [L0 (by rw [L8]; omega),L0 (by omega)]
theorem qy {m:MS} (h:m (ps.map zo ++ bc (nl - ps.length) zl) S=.rt (.bl b) A) (g:Gw (λ_=>False) S A):J0 m nl ps S=.ok (.bl b) S:=by
 rw [Vr h,g.pre];exact Q0n rfl
def Q44 {α:Type} (lt:α->α->Bool) (xs:List α):Bool:=(xs.zip (xs.drop 1)).all λz=>lt z.1 z.2
theorem Q9w {α:Type} {lt:α->α->Bool}:∀ {xs:List α},xs.Pairwise (λa b=>lt a b=zb)->Q44 lt xs=zb
 | [],_=>rfl
 | [_],_=>rfl
 | x :: y :: t,h=>by
  show (lt x y && Q44 lt (y :: t))=zb;rw [Q9w (L5.mp h).2,(L5.mp h).1 y (by simp)]; rfl
theorem Qm7 (xs:List (Int × Str)) (O:xs.length<=1000) (st:Q0):Wd [.tup (xs.map prV)] st=.ok (.bl (Q44 Zh xs)) st:=by
 have q:cut (xs.map prV) (zo 1) zl=(xs.drop 1).map prV:=by
  rw [Qpg];exact congrArg _ (Q9q xs 1)
 have I:Jn (Q13 (W6 (Qb 0) (W6 (Qb 1) Q14))) Ja Xg [] (W7 [zl,zl] [zo (.tup (xs.map prV))]) ((xs.zip (xs.drop 1)).map λz=>.tup [prV z.1,prV z.2]) st=.ok (((xs.zip (xs.drop 1)).map λz=>Zh z.1 z.2).map .bl) st:=by
  rw [G8];exact Vp _ _ (by simp) λz hz=>⟨_,rfl,rfl⟩
 have J:Q44 Zh xs=((xs.zip (xs.drop 1)).map λz=>Zh z.1 z.2).all id:=by unfold Q44; rw [bu]; rfl
 have G:(xs.map prV).length<=1000000:=by rw [O0]; omega
 rw [J];rw [<- Qfi] at I;generalize ((xs.zip (xs.drop 1)).map λz=>Zh z.1 z.2)=bs at*
 generalize (xs.drop 1).map prV=ds,xs.map prV=Y at*;simp! [Wd,J0,qg,q,G,qr,I]
theorem Qa4 (xs:List α):(xs.map λ_=>zb).all id=zb:=by rw [bu,E8]; exact λ_ _=>rfl
theorem SdI.w {most:Int} {q:List Str} {G:List Str} (M:MI2 most q rs G ws) (I:SdI q.length G ws s):SdW q.length s:=⟨I.len,λx J=>M.sw x (I.st x J),λp O=>let ⟨a,b,c⟩:=I.sub p O; ⟨a,b,M.lw _ c⟩,(I.so.and I.nd).imp λh=>((Q1x _ _).mp h.1).resolve_left h.2,D9 ((I.one M.n4).small M.w2) (by decide)⟩
theorem Qfy {most:Int} {q:List Str} (W:SdW q.length s) (O:q.length<=4) (rules:List PV) (S:Q0):Yt [Ze most q rules,sdV s] S=.ok (.bl zb) S:=by
 refine Wi ?_;show Xb [zo (Ze most q rules),zo (sdV s),zl] S=_;have l1:(s.1.map PV.str).length=(q.map PV.str).length:=by rw [O0,O0,W.len]
 have l2:(q.map PV.str).length=q.length:=O0 _;have I:=Qm7 s.2.1 (by have:=W.few; omega) S;rw [Q9w W.ri] at I;exact Q3 (Qj rfl) (Q3 (Jy (Zi (Qp (b:=zb) (Qe (Q5 (n:=3) rfl rfl (Us (xs:=[.tup (s.1.map .str),.tup (s.2.1.map prV),.int s.2.2]) (by simp) (by simp) S)))) (Zi (Qp (b:=zb) (Qe (Q5 (n:=3) rfl rfl (Us (b:=((q.map PV.str).length:Nat)) (a:=((q.map PV.str).length:Nat)) (by rw [l1]; omega) (by rw [l1]; omega) S)))) (Qp (b:=zb) rfl))) rfl) (Q3 (Jy (Zi (Qp (b:=zb) (Qe (Q1b (xs:=s.1) (g:=PV.str) (Jg rfl rfl (by rw [l1,l2]; omega)) λx J=>⟨_,rfl,Q5 (n:=1) rfl rfl (Q62 (W.w x J) S)⟩))) (Qp (b:=zb) (Qe (Q1b (xs:=s.2.1) (g:=prV) (Jg rfl rfl (by rw [O0]; have:=W.few; omega)) λp G=>⟨_,rfl,Q5 (n:=2) rfl rfl (Qqj (W.l p G).1 (by rw [l2]; exact (W.l p G).2.1) (W.l p G).2.2.1 (W.l p G).2.2.2 S)⟩)))) rfl) (Qn (Q0w (Q5 (n:=1) rfl rfl I) (Q5 (n:=1) rfl rfl (xi s.2.2 S))))))
theorem Qv4 {most:Int} {q:List Str} {G:List Str} (M:MI2 most q rs G ws) (W:SdW q.length s) (I:r∈rs) (S:Q0):J1 [ruV r,sdV s] S=.ok (.bl (fit r s)) S:=Qd5 r (by rw [W.len]; exact (M.ru r I).h) s.2.1 s.2.2 S
theorem Qv3 {most:Int} {q:List Str} {G:List Str} (M:MI2 most q rs G ws) (W:SdW q.length s) (I:r∈rs) (S:Q0):Qv [ruV r,sdV s] S=.ok (sdV (stp r s)) S:=Qc7 r (by rw [W.len]; exact (M.ru r I).h) (by have:=W.few; have:=(M.ru r I).ms; omega) s.2.2 S
theorem Qz1 {most:Int} {q:List Str} {G:List Str} (M:MI2 most q rs G ws) (W:SdW q.length s) (I:r∈rs) (S:Q0):Qy [ruV r,sdV s] S=.ok (sdV (stp r s)) S:=
 Q2j r (by rw [W.len]; exact (M.ru r I).h) (by rw [W.len]; have:=M.n4; omega) (by have:=W.few; have:=(M.ru r I).ms; omega) s.2.2 S
def kys (xs:List Sd):List HK:=Y9 (xs.map sdK)
theorem Qng {xs:List Sd} {t:Sd}:sdK t∈kys xs <-> t∈xs:=by
 unfold kys Y9;rw [yy];constructor
 ·rintro (h | h)
  ·cases h
  ·obtain ⟨x,q,e⟩:=E5.mp h;rw [<- yj e]; exact q
 ·intro h;exact .inr (E5.mpr ⟨t,h,rfl⟩)
theorem Q15 {α:Type} [DecidableEq α]:∀ {ks acc:List α},acc.Nodup->(ks.foldl Jb acc).length=acc.length + ks.length->(acc ++ ks).Nodup
 | [],acc,h,_=>by simpa using h
 | k :: ks,acc,h,e=>by
  rw [F2,D3] at e
  by_cases q:k∈acc
  ·have G:Jb acc k=acc:=by unfold Jb; rw [bT q]
   rw [G] at e;have:=Ws ks acc;omega
  ·have G:Jb acc k=acc ++ [k]:=by unfold Jb; rw [bU q]
   have h1:=Qde h k;rw [G] at e h1;have:=Q15 (ks:=ks) (acc:=acc ++ [k]) h1 (by rw [e,O6]; simp; omega);simpa using this
theorem Q1y (xs:List Sd):(kys xs).length=xs.length <-> xs.Nodup:=by
 constructor
 ·intro h;have:=Q15 (ks:=xs.map sdK) (acc:=[]) cQ (by rw [show (xs.map sdK).foldl Jb []=kys xs from rfl,h]; simp);rw [fG] at this;exact (eC.mp this).imp λh e=>h (by rw [e])
 ·intro h;have:(xs.map sdK).Nodup:=K7 sdK h λx _ y _ e=>yj e
  unfold kys;rw [Qcn this,O0]
def clS (most:Int) (rs:List Ru) (xs:List Sd) (s:Sd):Bool:=decide (s.2.2<=most) && rs.all λr=>!fit r s || decide (stp r s∈xs)
def clB (most:Int) (starts:List Str) (rs:List Ru) (xs:List Sd):Bool:=decide (xs.length<=2000) && (decide xs.Nodup && (decide (((starts,[],0):Sd)∈xs) && xs.all (clS most rs xs)))
theorem Qcx {xs:List Sd} (h:S[D]?=zo (.dtp (Qt (kys xs)))) (t:Sd) (q:Bool):qe q S (sdV t) (.ref D)=.ok (.bl (decide (t∈xs) != q)) S:=by
 have hd:Zr S (.ref D)=zo (Qt (kys xs)):=by show (match S[D]? with | some (.dtp G)=>zo G | _=>zl)=_; rw [h]
 unfold qe;rw [hd,Ks];show Res.ok (PV.bl ((Xj (Qt (kys xs)) (sdK t)).isSome != q)) S=_;rw [Q7p,decide_eq_decide.mpr Qng]
theorem Qim {xs:List Sd} (h:S[D]?=zo (.dtp (Qt (kys xs)))) (G:xs.length < 1000000):Kj S [.ref D]=.ok (.int ((kys xs).length:Nat)) S:=by
 have hd:Zr S (.ref D)=zo (Qt (kys xs)):=by show (match S[D]? with | some (.dtp q)=>zo q | _=>zl)=_; rw [h]
 unfold Kj;simp only [hd];have e:(Qt (kys xs)).length=(kys xs).length:=O0 _;have:=Uh (xs.map sdK);rw [O0] at this;rw [e,bT (show (kys xs).length < 1000000 from Nat.lt_of_le_of_lt this G)]
theorem Qpe (s:Sd) (g:Ru->Bool):((Q0s rs s.1 s.2.1).map λp=>g p.1).all id=rs.all λr=>!fit r s || g r:=by
 have e:((Q0s rs s.1 s.2.1).map λp=>g p.1)=(rs.filter (fit · s)).map g:=by
  rw [<- Q21 rs (fit · s) 0,G8];rfl
 rw [e,bu,List.all_filter];rfl
theorem Qf8 {most:Int} {G:List Str} {Z:List Str} (M:MI2 most G rs Z ws) (W:SdW G.length s) {xs:List Sd} (hD:S[D]?=zo (.dtp (Qt (kys xs)))):Ye [mW M,.ref D,sdV s] S=.ok (.bl (clS most rs xs s)) S:=by
 unfold clS
 by_cases q:s.2.2<=most
 ·rw [bW q,F9];have hn:=Q3a (most:=most) M.one W.len s.2.1 s.2.2 S;obtain ⟨I,J⟩:∃ I,S ++ [Cell.lst (Qbf rs s.1 s.2.1)]=I:=⟨_,rfl⟩;rw [J] at hn;have n1:I[S.length]?=zo (.lst (Qbf rs s.1 s.2.1)):=by rw [<- J]; exact Y3 _ _
  have g1:Gw (λ_=>False) S I:=by rw [<- J]; exact Gw.add _ _ _
  have d1:=g1.at hD (λh=>h);have hc:Jn (Qb 0) Ja V8 [(S.length,.lst (Qbf rs s.1 s.2.1))] [zl,zo (.ref D),zo (sdV s),mO M] ((Q0s rs s.1 s.2.1).map nV) I=.ok (((Q0s rs s.1 s.2.1).map λp=>decide (stp p.1 s∈xs)).map .bl) I:=by
   rw [G8];refine Vp nV (λp=>PV.bl (decide (stp p.1 s∈xs))) (Um n1) λp hp=>⟨_,rfl,?_⟩
   have hr:=(Qbe hp).1;have O:=Qz1 M W (E2 hr) I;have hi:=Qcx d1 (stp p.1 s) yo;rw [cb] at hi;exact Q7 (Q5 (n:=2) (Qh (Q7 rfl rfl (rix hr I)) rfl) rfl O) rfl hi
  have O:=Q4b I ((Q0s rs s.1 s.2.1).map λp=>decide (stp p.1 s∈xs))
  rw [Qpe s (λr=>decide (stp r s∈xs))] at O
  have Y:(Qbf rs s.1 s.2.1).length<=1000000:=by
   unfold Qbf Q0s;rw [O0];have:=eV (λp:Ru × Nat=>qw p.1 s.1 s.2.1) rs.zipIdx;rw [fg] at this;have:=M.len;omega
  refine qy (A:=I) ?_ g1;show Wm [mO M,zo (.ref D),zo (sdV s)] S=_;exact Q3 (Jy (Qe (Q7 rfl rfl (xk S (by omega)))) rfl) (Qn (Jw (Qh (Vu (Yx (Jg (Q5 (n:=2) rfl rfl hn) (U6 n1) Y) hc)) rfl) O))
 ·rw [bV q,L3];refine qy (A:=S) ?_ (Gw.refl _ _);show Wm [mO M,zo (.ref D),zo (sdV s)] S=_;exact Jr (Vn (Qe (Q7 rfl rfl (qv S (by omega)))) rfl)
theorem Qhm (xs:List Sd):K3 (xs.map λs=>.tup [sdV s,.bl zb])=zo (Qt (xs.map sdK)):=by
 induction xs with
 | nil=>rfl
 | cons s xs q=>
  rw [D5,K3,Ks,q];rfl
theorem Q8f (L:List HK):∀ K:List HK,Vc (Qt K) (Qt L)=Qt (L.foldl Jb K):=by
 induction L with
 | nil=>intro K; rfl
 | cons k L q=>
  intro K;show Vc (Sm.putT (Qt K) k (.bl zb)) (Qt L)=_;rw [Q2t,q];rfl
theorem Qik {most:Int} {G:List Str} {a9:List Str} (M:MI2 most G rs a9 ws) (h:Man most G (rs.map ruV)) {V:PV} {xs:List Sd} (hV:FrAt S V xs) (hl:xs.length<=100000) (hW:∀ s∈xs,SdW G.length s):∃ S',xw [mW M,V] S=.ok (.bl (clB most G rs xs)) S'/\Gw (λ_=>False) S S':=by
 have h0:=Q6t h S;have src:∀ {A:Q0},Gw (λ_=>False) S A->∃ w,Y0 A V=zo (xs.map sdV,w)/\wOk w A:=λ{A} g=>by
  rcases hV with rfl | ⟨B,rfl,h⟩
  ·exact ⟨[],rfl,Qz _⟩
  ·exact ⟨_,U6 (g.at h (λz=>z)),Um (g.at h (λz=>z))⟩
 have len:∀ {A:Q0},Gw (λ_=>False) S A->Je A [V]=.ok (.int (xs.length:Nat)) A:=λ{A} g=>by
  rcases hV with rfl | ⟨B,rfl,h⟩
  ·show Res.ok (PV.int ((xs.map sdV).length:Nat)) A=_;rw [O0]
  ·rw [qz (g.at h (λz=>z)),O0]
 unfold clB
 by_cases q:xs.length<=2000
 ·rw [bW q,F9];obtain ⟨w,hs,hw⟩:=src (Gw.refl _ S);have Z:=len (Gw.refl _ S);have Y:(xs.map sdV).length<=1000000:=by rw [O0]; omega
  have c1:Jn (Qb 0) Ja Q0r w [zl,mO M] (xs.map sdV) S=.ok ((xs.map λ_=>zb).map .bl) S:=by
   rw [G8];exact Vp sdV (λ_=>PV.bl zb) hw λs hs=>⟨_,rfl,Q5 (n:=2) rfl rfl (Qfy (hW s hs) M.n4 _ S)⟩
  have b1:=Q4b S (xs.map λ_=>zb);rw [Qa4] at b1;have c2:Jn (Qb 0) Ja Q0q w [zl] (xs.map sdV) S=.ok (xs.map λs=>.tup [sdV s,.bl zb]) S:=Vp sdV (λs=>PV.tup [sdV s,.bl zb]) hw λs _=>⟨_,rfl,rfl⟩
  have a4:Q0v S [.lst (xs.map λs=>.tup [sdV s,.bl zb])]=.ok (.ref S.length) (S ++ [.dtp (Qt (kys xs))]):=by
   unfold Q0v;simp only [Qhm];have:(Qt (xs.map sdK)).length<=lim:=by rw [show (Qt (xs.map sdK)).length=(xs.map sdK).length from O0 _,O0,qr]; omega
   rw [bT this];show Res.ok (PV.ref S.length) (S ++ [Cell.dtp (Vc (Qt []) (Qt (xs.map sdK)))])=_;rw [Q8f];rfl
  obtain ⟨I,a1⟩:∃ I,S ++ [Cell.dtp (Qt (kys xs))]=I:=⟨_,rfl⟩;rw [a1] at a4;have g1:Gw (λ_=>False) S I:=by rw [<- a1]; exact Gw.add _ _ _
  have d1:I[S.length]?=zo (.dtp (Qt (kys xs))):=by rw [<- a1]; exact Y3 _ _
  have a2:=len g1;have a5:=Qim d1 (by omega);have b0:(kys xs).length<=xs.length:=by have:=Uh (xs.map sdK); rw [O0] at this; exact this
  have J:∀ r,(Q9 (Jd (Yg (toB (mOp oLt (Qi Kj (Q1 (Q2 2) Q4)) (Qi Je (Q1 (Q2 1) Q4)))) (toB (mOp (qe zb) (Q8 1 J6 (Q1 (Q2 0) Q4)) (Q2 2)))) (Qq (mC (.bl yo))) Qr) (Qq (Qi (Uk λns=>.bl (ns.all id)) (Q1 (Zx (Qs [zl,zo 0,zo 2] (Qb 0) (Y4 (Q2 1)) Ja jn)) Q4)))) [mO M,zo V,zo (.ref S.length)] I=r->Q1v [mO M,zo V,zl] S=r:=λr hr=>
   Q3 (yb (Q5 (n:=1) rfl rfl h0)) (Q3 (Jy (Zi (Qe (Q7 (Jw rfl Z) rfl (xk S (by omega)))) (Qp (b:=zb) (Qe (Jw (Qh (Vu (Yx (Jg rfl hs Y) c1)) rfl) b1)))) rfl) (Q3 (Qj (Jw (Qh (Vu (Yx (Jg rfl hs Y) c2)) rfl) a4)) hr))
  by_cases q2:xs.Nodup
  ·rw [bW q2,F9];have a7:=(Q1y xs).mpr q2;have O:=Qcx d1 ((G,[],0):Sd) zb;have a3:toB (mOp oLt (Qi Kj (Q1 (Q2 2) Q4)) (Qi Je (Q1 (Q2 1) Q4))) [mO M,zo V,zo (.ref S.length)] I=.ok yo I:=Qe (Q7 (Jw rfl a5) (Jw rfl a2) (Qqh I (by omega)))
   by_cases q3:((G,[],0):Sd)∈xs
   ·rw [bW q3] at O ⊢;rw [F9];obtain ⟨w',a6,a8⟩:=src g1;have c3:Jn (Qb 0) Ja jn w' [zl,mO M,zo (.ref S.length)] (xs.map sdV) I=.ok ((xs.map (clS most rs xs)).map .bl) I:=by
     rw [G8];exact Vp sdV (λs=>PV.bl (clS most rs xs s)) a8 λs hs=>⟨_,rfl,Q5 (n:=3) rfl rfl (Qf8 M (hW s hs) d1)⟩
    have b3:=Q4b I (xs.map (clS most rs xs));have e3:(xs.map (clS most rs xs)).all id=xs.all (clS most rs xs):=by rw [bu]; rfl
    rw [e3] at b3;exact ⟨I,Qu (J _ (Q3 (Jy (Zi a3 (Qe (Q7 (Q5 (n:=1) rfl rfl (xt I)) rfl O))) rfl) (Qn (Jw (Qh (Vu (Yx (Jg rfl a6 Y) c3)) rfl) b3)))),g1⟩
   ·rw [bV q3] at O ⊢;exact ⟨I,Qu (J _ (Jr (Vn (Zi a3 (Qe (Q7 (Q5 (n:=1) rfl rfl (xt I)) rfl O))) rfl))),g1⟩
  ·rw [bV q2,L3];have a7:(kys xs).length≠xs.length:=λz=>q2 ((Q1y xs).mp z)
   exact ⟨I,Qu (J _ (Jr (Vn (Qee (Qe (Q7 (Jw rfl a5) (Jw rfl a2) (Qx1 I (by omega))))) rfl))),g1⟩
 ·rw [bV q,L3];have Z:=len (Gw.refl _ S);exact ⟨S,Qu (show Q1v [mO M,zo V,zl] S=_ from Q3 (yb (Q5 (n:=1) rfl rfl h0)) (Jr (Vn (Qee (Qe (Q7 (Jw rfl Z) rfl (qv S (by omega))))) rfl))),Gw.refl _ _⟩
theorem Qjn {most:Int} {q:List Str} {rs:List Ru} {a2 ws:List Str} (M:MI2 most q rs a2 ws) {w:Wt} {D:Nat} (hw:∀ x∈w,x.1≠D) {V:PV} {c4:Option PV}:∀ (xs:List Sd) (ks:List HK) (A:Q0) (Z:Option PV),A[D]?=zo (.dtp (Qt ks))->wOk w A->ks.length + xs.length < 1000000 ->
  ∃ O I,Jm (Qb 3) Wv w (xs.map sdV) [mO M,zo V,zo (.ref D),Z,c4] A=.nx [mO M,zo V,zo (.ref D),I,c4] O/\O[D]?=zo (.dtp (Qt ((xs.map sdK).foldl Jb ks)))/\Gw (λt=>t=D) A O
 | [],ks,A,Z,Y,G,_=>⟨A,Z,Wr G,Y,Gw.refl _ _⟩
 | s :: xs,ks,A,Z,Y,G,hl=>by
  rw [D3] at hl;have J:=Q0t Y (by omega) (Ks s);have a1:=(O3.mp Y).1;have g1:Gw (λt=>t=D) A (A.set D (.dtp (Qt (Jb ks (sdK s))))):=Gw.put (P:=λt=>t=D) A rfl _;have:=Qa5 ks (sdK s);obtain ⟨O,I,e,h1,h2⟩:=Qjn M hw (V:=V) (c4:=c4) xs (Jb ks (sdK s)) (A.set D (.dtp (Qt (Jb ks (sdK s))))) (zo (sdV s)) (F0 a1) (g1.w G hw) (by omega);exact ⟨O,I,Z5 G rfl (jg rfl rfl rfl J) e,h1,g1.trans h2⟩
theorem Qjq {most:Int} {I:List Str} {rs:List Ru} {a2 ws:List Str} (M:MI2 most I rs a2 ws) {D:Nat} {A:Q0} {xs:List Sd} (hD:A[D]?=zo (.dtp (Qt (kys xs)))) {V:PV} {s:Sd} (W:SdW I.length s):∀ (O:List Ru) (Z:Option PV),(∀ r∈O,r∈rs) ->
  ((O.all λr=>!fit r s || decide (stp r s∈xs))=zb/\∃ J,Jm (Qb 4) Jp [] (O.map ruV) [mO M,zo V,zo (.ref D),zo (sdV s),Z] A=.nx [mO M,zo V,zo (.ref D),zo (sdV s),J] A) \/
  ((O.all λr=>!fit r s || decide (stp r s∈xs))=yo/\Jm (Qb 4) Jp [] (O.map ruV) [mO M,zo V,zo (.ref D),zo (sdV s),Z] A=.rt (.bl yo) A)
 | [],Z,_=>.inl ⟨rfl,Z,Wr (Qz A)⟩
 | r :: O,Z,hr=>by
  have hf:=Qv4 M W (hr r (by simp)) A;have hs:=Qv3 M W (hr r (by simp)) A;have Y:=Qcx hD (stp r s) zb;have a1:∀ x∈O,x∈rs:=λx hx=>hr x (O4 _ hx)
  rw [bz];cases q:fit r s with
  | false=>
   rw [q] at hf;have G:Jp [mO M,zo V,zo (.ref D),zo (sdV s),zo (ruV r)] A=.nx [mO M,zo V,zo (.ref D),zo (sdV s),zo (ruV r)] A:=Jy (Qk6 (Qe (Q5 (n:=2) rfl rfl hf))) rfl;rcases Qjq M hD (V:=V) W O (zo (ruV r)) a1 with ⟨h1,J,e⟩ | ⟨h1,e⟩
   ·exact .inl ⟨h1,J,Z5 (Qz A) rfl G e⟩
   ·exact .inr ⟨h1,Z5 (Qz A) rfl G e⟩
  | true=>
   rw [q] at hf
   by_cases q2:stp r s∈xs
   ·rw [bW q2] at Y ⊢;have G:Jp [mO M,zo V,zo (.ref D),zo (sdV s),zo (ruV r)] A=.nx [mO M,zo V,zo (.ref D),zo (sdV s),zo (ruV r)] A:=Jy (Qa3 (Qe (Q5 (n:=2) rfl rfl hf)) (Qe (Q7 (Q5 (n:=2) rfl rfl hs) rfl Y))) rfl;rcases Qjq M hD (V:=V) W O (zo (ruV r)) a1 with ⟨h1,J,e⟩ | ⟨h1,e⟩
    ·exact .inl ⟨h1,J,Z5 (Qz A) rfl G e⟩
    ·exact .inr ⟨h1,Z5 (Qz A) rfl G e⟩
   ·rw [bV q2] at Y ⊢;exact .inr ⟨rfl,jk (Qz A) rfl (Vn (Qa3 (Qe (Q5 (n:=2) rfl rfl hf)) (Qe (Q7 (Q5 (n:=2) rfl rfl hs) rfl Y))) rfl)⟩
theorem Qjp {most:Int} {G:List Str} {rs:List Ru} {a5 ws:List Str} (M:MI2 most G rs a5 ws) {D:Nat} {A:Q0} {xs:List Sd} (hD:A[D]?=zo (.dtp (Qt (kys xs)))) {V:PV} {w:Wt} (I:wOk w A):∀ (ys:List Sd) (Z O:Option PV),(∀ s∈ys,SdW G.length s) ->
  (ys.all (clS most rs xs)=zb/\∃ a2 a1,Jm (Qb 3) Za w (ys.map sdV) [mO M,zo V,zo (.ref D),Z,O] A=.nx [mO M,zo V,zo (.ref D),a2,a1] A) \/
  (ys.all (clS most rs xs)=yo/\Jm (Qb 3) Za w (ys.map sdV) [mO M,zo V,zo (.ref D),Z,O] A=.rt (.bl yo) A)
 | [],Z,O,_=>.inl ⟨rfl,Z,O,Wr I⟩
 | s :: ys,Z,O,hy=>by
  have W:=hy s (by simp);have Y:(rs.map ruV).length<=1000000:=by rw [O0]; have:=M.len; omega
  rw [bz];unfold clS
  by_cases q:s.2.2<=most
  ·rw [bW q,F9];rcases Qjq M hD (V:=V) W rs O (λr hr=>hr) with ⟨h1,b4,e⟩ | ⟨h1,e⟩
   ·rw [h1,F9];have J:Za [mO M,zo V,zo (.ref D),zo (sdV s),O] A=.nx [mO M,zo V,zo (.ref D),zo (sdV s),b4] A:=Q3 (Jy (Qe (Q7 rfl rfl (xk A (by omega)))) rfl) (Ju (Jg rfl rfl Y) e);rcases Qjp M hD (V:=V) I ys (zo (sdV s)) b4 (λx hx=>hy x (O4 _ hx)) with ⟨k1,c3,c4,e2⟩ | ⟨k1,e2⟩
    ·exact .inl ⟨k1,c3,c4,Z5 I rfl J e2⟩
    ·exact .inr ⟨k1,Z5 I rfl J e2⟩
   ·rw [h1,L3];exact .inr ⟨rfl,jk I rfl (Q3 (Jy (Qe (Q7 rfl rfl (xk A (by omega)))) rfl) (Ju (Jg rfl rfl Y) e))⟩
  ·rw [bV q,L3,L3];exact .inr ⟨rfl,jk I rfl (Jr (Vn (Qe (Q7 rfl rfl (qv A (by omega)))) rfl))⟩
theorem Qf7 {most:Int} {G:List Str} {b0:List Str} (M:MI2 most G rs b0 ws) {V:PV} {xs:List Sd} (hV:FrAt S V xs) (hl:xs.length<=100000) (hW:∀ s∈xs,SdW G.length s):∃ S',Z2 [mW M,V] S=.ok (.bl (clB most G rs xs)) S'/\Gw (λ_=>False) S S':=by
 have J:(xs.map sdV).length<=1000000:=by rw [O0]; omega
 have O:∀ {A:Q0},Gw (λt=>t=S.length) S A->FrAt A V xs:=λ{A} g=>by
  rcases hV with h | ⟨B,h,hB⟩
  ·exact .inl h
  ·exact .inr ⟨B,h,g.at hB (by have:=(O3.mp hB).1; omega)⟩
 have d0:(S ++ [Cell.dtp []])[S.length]?=zo (.dtp (Qt [])):=Y3 _ _;have g0:Gw (λt=>t=S.length) S (S ++ [Cell.dtp []]):=Gw.add _ _ _;obtain ⟨w,hs,hw,a8⟩:=(O g0).src d0;have Z:=hs [];rw [L1] at Z;obtain ⟨I,b3,e1,d1,g1⟩:=Qjn M a8 (V:=V) (c4:=zl) xs [] _ zl d0 hw (by simp; omega);have d1:I[S.length]?=zo (.dtp (Qt (kys xs))):=d1;have gA:=g0.trans g1;obtain ⟨w',a7,a9,_⟩:=(O gA).src d1;have a4:=a7 [];rw [L1] at a4;have Y:Je I [V]=.ok (.int (xs.length:Nat)) I:=by
  rcases O gA with rfl | ⟨B,rfl,h⟩
  ·show Res.ok (PV.int ((xs.map sdV).length:Nat)) I=_;rw [O0]
  ·rw [qz h,O0]
 have a6:=Qim d1 (by omega);have b1:(kys xs).length<=xs.length:=by have:=Uh (xs.map sdK); rw [O0] at this; exact this
 have gg:Gw (λ_=>False) S I:=gA.mono λt ht z=>by omega
 have a1:=Qcx d1 ((G,[],0):Sd) zb;unfold clB
 by_cases q2:xs.Nodup
 ·have a3:=(Q1y xs).mpr q2;have a2:toB (mOp oNe (Qi Kj (Q1 (Q2 2) Q4)) (Qi Je (Q1 (Q2 1) Q4))) [mO M,zo V,zo (.ref S.length),b3,zl] I=.ok yo I:=Qe (Q7 (Jw rfl a6) (Jw rfl Y) (by rw [a3]; exact Q5c I _));rw [bW q2,F9]
  by_cases q:xs.length<=2000
  ·rw [bW q,F9];have a5:toB (mOp (oI λa b=>.bl (decide (b < a))) (Qi Je (Q1 (Q2 1) Q4)) (mC (.int 2000))) [mO M,zo V,zo (.ref S.length),b3,zl] I=.ok yo I:=Qe (Q7 (Jw rfl Y) rfl (xk I (by omega)))
   by_cases q3:((G,[],0):Sd)∈xs
   ·rw [bW q3] at a1 ⊢;rw [F9];rcases Qjp M d1 (V:=V) a9 xs b3 zl hW with ⟨h1,c3,c4,e2⟩ | ⟨h1,e2⟩
    ·rw [h1];exact ⟨I,Qu (show Jt [mO M,zo V,zl,zl,zl] S=_ from Q3 (Qj rfl) (Q3 (Ju (Jg rfl Z J) e1) (Q3 (Jy (Zi a2 (Zi a5 (Qe (Q7 (show _=Res.ok (sdV (G,[],0)) I from rfl) rfl a1)))) rfl) (Q3 (Ju (Jg rfl a4 J) e2) (Qn rfl))))),gg⟩
    ·rw [h1];exact ⟨I,Qu (show Jt [mO M,zo V,zl,zl,zl] S=_ from Q3 (Qj rfl) (Q3 (Ju (Jg rfl Z J) e1) (Q3 (Jy (Zi a2 (Zi a5 (Qe (Q7 (show _=Res.ok (sdV (G,[],0)) I from rfl) rfl a1)))) rfl) (Jr (Ju (Jg rfl a4 J) e2))))),gg⟩
   ·rw [bV q3] at a1 ⊢;exact ⟨I,Qu (show Jt [mO M,zo V,zl,zl,zl] S=_ from Q3 (Qj rfl) (Q3 (Ju (Jg rfl Z J) e1) (Jr (Vn (Zi a2 (Zi a5 (Qe (Q7 (show _=Res.ok (sdV (G,[],0)) I from rfl) rfl a1)))) rfl)))),gg⟩
  ·rw [bV q,L3];exact ⟨I,Qu (show Jt [mO M,zo V,zl,zl,zl] S=_ from Q3 (Qj rfl) (Q3 (Ju (Jg rfl Z J) e1) (Jr (Vn (Zi a2 (Qee (Qe (Q7 (Jw rfl Y) rfl (qv I (by omega)))))) rfl)))),gg⟩
 ·rw [bV q2,L3,fb];have a3:(kys xs).length≠xs.length:=λz=>q2 ((Q1y xs).mp z)
  exact ⟨I,Qu (show Jt [mO M,zo V,zl,zl,zl] S=_ from Q3 (Qj rfl) (Q3 (Ju (Jg rfl Z J) e1) (Jr (Vn (Qee (Qe (Q7 (Jw rfl a6) (Jw rfl Y) (Qws I a3)))) rfl)))),gg⟩
theorem Qnv (i:Nat):∀ s∈(lvs rs s0 i).1,s∈(lvs rs s0 (i + 1)).1:=λs hs=>by
 obtain ⟨ex,e,_⟩:=Wc (nxt rs (lvs rs s0 i).2) (lvs rs s0 i).1 [];have e:lvs rs s0 (i + 1)=_:=e;rw [e];exact F7 _ hs
theorem Qaz {i j:Nat} (h:i<=j):∀ s∈(lvs rs s0 i).1,s∈(lvs rs s0 j).1:=by
 induction h with
 | refl=>exact λs hs=>hs
 | step _ q=>exact λs hs=>Qnv _ s (q s hs)
theorem Q93 (i:Nat) (hs:s∈(lvs rs s0 i).2) (G:r∈rs) (q:fit r s=zb):stp r s∈(lvs rs s0 (i + 1)).1:=by
 obtain ⟨ex,e,_,g2,_⟩:=Wc (nxt rs (lvs rs s0 i).2) (lvs rs s0 i).1 [];have e:lvs rs s0 (i + 1)=_:=e;rw [e];exact g2 _ (cf.mpr ⟨s,hs,E5.mpr ⟨r,cN.mpr ⟨G,q⟩,rfl⟩⟩)
theorem xc {rs:List Ru} {s0:Sd}:∀ i,∀ s∈(lvs rs s0 i).1,∃ j,j<=i/\s∈(lvs rs s0 j).2
 | 0,s,hs=>⟨0,O5 _,hs⟩
 | i + 1,s,hs=>by
  obtain ⟨ex,e,_⟩:=Wc (nxt rs (lvs rs s0 i).2) (lvs rs s0 i).1 [];have e:lvs rs s0 (i + 1)=_:=e;have q:(lvs rs s0 (i + 1)).2=ex:=by rw [e]; simp
  rw [e] at hs;rcases E3.mp hs with hs | hs
  ·obtain ⟨j,h1,h2⟩:=xc i s hs;exact ⟨j,by omega,h2⟩
  ·exact ⟨i + 1,O5 _,by rw [q]; exact hs⟩
theorem Q0e (i:Nat):s0∈(lvs rs s0 i).1:=Qaz (F8 i) s0 (by simp [lvs])
theorem Qic {i:Nat} (hs:s∈(lvs rs s0 i).1) (G:r∈rs) (q:fit r s=zb):stp r s∈(lvs rs s0 (i + 1)).1:=by
 obtain ⟨j,I,h⟩:=xc i s hs;exact Qaz (by omega) _ (Q93 j h G q)
theorem Q3k (G:(lvs rs s0 N).2=[]) (hs:s∈(lvs rs s0 N).1) (J:r∈rs) (I:fit r s=zb):stp r s∈(lvs rs s0 N).1:=by
 obtain ⟨j,O,h⟩:=xc N s hs
 by_cases q:j=N
 ·rw [q,G] at h; cases h
 ·exact Qaz (by omega) _ (Q93 j h J I)
theorem Q9z {most:Int} (q:∀ i,i < N->¬ U9 rs most s0 i) {m:Nat} (hs:s∈(lvs rs s0 m).1) (Y:r∈rs) (J:fit r s=zb) (O:most < s.2.2 + r.u):N<=m/\(m=N->Ys rs most (lvs rs s0 N).2=zb):=by
 obtain ⟨j,Z,h⟩:=xc m s hs;have G:Ys rs most (lvs rs s0 j).2=zb:=cM.mpr ⟨s,h,cM.mpr ⟨r,Y,by rw [J,bW O]; rfl⟩⟩;have I:¬ j < N:=λz=>q j z (.inl G)
 refine ⟨by omega,λz=>?_⟩;have:j=N:=by omega
 rw [<- this]; exact G
theorem Qpi {most:Int} {G:List Str} {Y:List Str} (M:MI2 most G rs Y ws) (hS:U9 rs most (G,[],0) N) (O:∀ i,i < N->¬ U9 rs most (G,[],0) i) (hb:Ys rs most (lvs rs (G,[],0) N).2=yo):clB most G rs (lvs rs (G,[],0) N).1=zb:=by
 have J:∀ j,j < N->Ys rs most (lvs rs (G,[],0) j).2=yo:=λj hj=>by
  cases z:Ys rs most (lvs rs (G,[],0) j).2 with
  | false=>rfl
  | true=>exact absurd (.inl z) (O j hj)
 have hE:(lvs rs (G,[],0) N).2=[]:=hS.resolve_left (by rw [hb]; decide);have I:=Q6x M N J;have Z:=jh M J;unfold clB;rw [bW (show _<=2000 by omega),bW (zw M N).1,bW (Q0e N),F9,F9,F9,E8];intro s hs;unfold clS;rw [bW (I s hs),F9,E8];intro r hr;cases q:fit r s with
 | false=>rfl
 | true=>rw [bW (Q3k hE hs hr q)]; rfl
theorem Q9b {most:Int} {q:List Str} (hs:ss.length=q.length) (ls:List (Int × Str)) (u:Int) (S:Q0) (h4:ss.length<=1000) (hl:ls.length<=1000) (rules:List PV):Zb [Ze most q rules,stV ss ls u] S=.ok (.bl zb) S:=by
 refine Wi ?_;show Wp [zo (Ze most q rules),zo (stV ss ls u),zl] S=_;have G:((ss.map PV.str).length:Int)=((q.map PV.str).length:Int):=by rw [O0,O0,hs]
 have J:oNe S (.int ((ss.map PV.str).length:Nat)) (.int ((q.map PV.str).length:Nat))=.ok (.bl yo) S:=by rw [G]; exact Q5c S _
 obtain ⟨Y,S',e,eS,a,rfl⟩:=Q3x (xs:=ls) prV (λ_ Γ A=>A=S/\∃ a,Γ=[zo (Ze most q rules),zo (stV ss ls u),a]) (ga:=Qb 2) (body:=Yp) (w:=[]) (λ_ _ A _=>Qz A) (λi x Γ A _ ⟨Z,a,O⟩=>by
   subst Z O;exact ⟨_,rfl,_,A,Q3 (Jy (Zi (Qp (b:=zb) rfl) (Zi (Qe (Q7 rfl rfl (Q5c A 2))) (Qp (b:=zb) rfl))) rfl) (Jy (Zi (Qp (b:=zb) rfl) rfl) rfl),rfl,_,rfl⟩)
  (Γ:=[zo (Ze most q rules),zo (stV ss ls u),zl]) (st:=S) ⟨rfl,zl,rfl⟩
 rw [eS] at e;have I:Qi (Uk λns=>.bl (ns.all id)) (Q1 (Zx (Qs [zl] (Qb 0) (Y4 (mOp oIx (Q2 1) (mC (.int 0)))) Ja Yn)) Q4) [zo (Ze most q rules),zo (stV ss ls u),zl] S=.ok (.bl zb) S:=by
  exact Q1b (xs:=ss) (g:=PV.str) (Jg rfl rfl (by rw [O0]; omega)) λx _=>⟨_,rfl,rfl⟩
 exact Q3 (Jy (Zi (Qp (b:=zb) rfl) (Zi (Qe (Q7 rfl rfl (Q5c S 3))) (Qp (b:=zb) rfl))) rfl) (Q3 (Jy (Zi (Qe (Q7 rfl rfl J)) (Qp (b:=zb) (Qe I))) rfl) (Q3 (Jy (Zi (Qp (b:=zb) rfl) (Zi (Qp (b:=zb) rfl) rfl)) rfl) (Q3 (Ju (Jg rfl rfl (by rw [O0]; omega)) e) (Qn rfl))))
theorem Q96 {most:Int} {q:List Str} {G:List Str} (M:MI2 most q rs G ws) (I:SdI q.length G ws s) (J:r∈rs) (S:Q0):J1 [ruV r,sdV s] S=.ok (.bl (fit r s)) S:=Qd5 r (by rw [I.len]; exact (M.ru r J).h) s.2.1 s.2.2 S
theorem Q94 {most:Int} {q:List Str} {G:List Str} (M:MI2 most q rs G ws) (I:SdI q.length G ws s) (J:r∈rs) (S:Q0):Qv [ruV r,sdV s] S=.ok (sdV (stp r s)) S:=Qc7 r (by rw [I.len]; exact (M.ru r J).h) (by have:=(I.one M.n4).small M.w2; have:=(M.ru r J).ms; omega) s.2.2 S
theorem Qc2 {most:Int} {q:List Str} {rs:List Ru} {O ws:List Str} (M:MI2 most q rs O ws) {V:PV} {w:Wt} {A:Q0} (J:wOk w A):∀ (ks:List Nat) (a s:Sd) (Y:Option PV),SdI q.length O ws a->wkS rs ks a=zo s ->
  ∃ G,Jm (Qb 3) U1 w (ks.map nI) [mO M,zo V,zo (sdV a),Y] A=.nx [mO M,zo V,zo (sdV s),G] A
 | [],a,s,Y,_,h=>by cases h; exact ⟨Y,Wr J⟩
 | k :: ks,a,s,Y,I,h=>by
  unfold wkS at h
  split at h
  ·rename_i r hr
   split at h
   ·rename_i hf;have hm:=E2 hr;have h1:=Q96 M I hm A;rw [hf] at h1;have h2:=Q94 M I hm A;have hk:=(O3.mp hr).1;have hx:oIx A (.tup (rs.map ruV)) (.int (k:Int))=.ok (ruV r) A:=ix_tup (by rw [D7,hr]; rfl) A;have Z:(oI λa b=>.bl (decide (b<=a))) A (.int (k:Int)) (.int ((rs.map ruV).length:Nat))=.ok (.bl yo) A:=by
     rw [gei,bV];rw [O0];omega
    obtain ⟨G,e⟩:=Qc2 M J ks (stp r a) s (zo (nI k)) (I.step (M.ru r hm)) h;exact ⟨G,Z5 J rfl (Q3 (Jy (Zi (Qp (b:=zb) rfl) (Zi rfl (Zi (Qe (Q7 rfl rfl (Qqh A (by omega)))) (Qe (Q7 rfl rfl Z))))) rfl) (Q3 (Jy (Qp (b:=zb) (Qe (Q5 (n:=2) (Qh (Q7 rfl rfl hx) rfl) rfl h1))) rfl) (Qj (Q5 (n:=2) (Qh (Q7 rfl rfl hx) rfl) rfl h2)))) e⟩
   ·cases h
  ·cases h
theorem Qib {most:Int} {q:List Str} {I:List Str} (M:MI2 most q rs I ws) {ks:List Nat} (G:S[R]?=zo (.lst (ks.map nI))) (O:ks.length<=1000) (h:wkS rs ks (q,[],0)=zo s):Zu [mW M,.ref R] S=.ok (sdV s) S:=by
 obtain ⟨Y,e⟩:=Qc2 M (V:=.ref R) (Um G) ks _ s zl (Q2e M) h;have J:Vk "list" (Q2 1) [mO M,zo (.ref R),zl,zl] S=.ok (.bl zb) S:=by
  show (if Xs S (.ref R)=zb then Res.stuck else .ok (PV.bl (isI "list" (dpv S (.ref R)))) S)=_;have h1:Xs S (.ref R)=yo:=by unfold Xs; simp only [G]
  have h2:dpv S (.ref R)=.ref R:=by unfold dpv; simp only [G]
  rw [h1,h2];rfl
 have st:Xc [mO M,zo (.ref R),zl,zl] S=.rt (sdV s) S:=Q3 (Jy (Qp (b:=zb) (Qe J)) rfl) (Q3 (Qj (show _=Res.ok (sdV (q,[],0)) S from rfl)) (Q3 (Ju (Jg rfl (U6 G) (by rw [O0]; omega)) e) (Qn rfl)));have:=Vr (nl:=4) (ps:=[mW M,.ref R]) st;unfold Zu;rw [this];exact Q3z (yi _ _ _)
theorem Qt4 (ks:List Nat):ks.map nI=(ks.map λ(k:Nat)=>(k:Int)).map .int:=by rw [G8]; rfl
theorem Qua {most:Int} {q:List Str} {ks:List Nat} (h:wkS rs ks (q,[],0)=zo s):Qpr most q rs (ks.map λ(k:Nat)=>(k:Int))=decide (most < s.2.2):=by
 have:=Qc1 rs ks (q,[],0);rw [h] at this;unfold Qpr;rw [show Up rs (ks.map λ(k:Nat)=>(k:Int)) q [] 0=zo s.2.2 from this]
theorem Qtv {xs:List Sd} (h:S[R]?=zo (.lst (xs.map sdV))) (hs:s∈xs):oIn zb S (sdV s) (.ref R)=.ok (.bl yo) S:=by
 have q:U3 S (.ref R)=zo (xs.map sdV):=by show (match S[R]? with | some (.lst xs)=>zo xs | _=>zl)=_; rw [h]
 have gs:∀ t:Sd,good dep (sdV t)=zb:=λt=>yi _ _ _
 unfold oIn;rw [q];show (if good dep (sdV s)=zb/\(xs.map sdV).all (good dep)=zb then Res.ok (PV.bl (((xs.map sdV).any λy=>peq y (sdV s)) != zb)) S else .stuck)=_
 rw [bT ⟨gs s,by rw [bu,E8]; exact λt _=>gs t⟩];have:((xs.map sdV).any λy=>peq y (sdV s))=zb:=cM.mpr ⟨sdV s,E5.mpr ⟨s,hs,rfl⟩,qa (gs s)⟩
 rw [this];rfl
theorem Qir (h:S[R]?=zo (.lst xs)) (hm:m Γ S=.ok (.ref R) S):Vk "list" m Γ S=.ok (.bl zb) S:=by
 unfold Vk;rw [hm,Qk];have h1:Xs S (.ref R)=yo:=by unfold Xs; simp only [h]
 have h2:dpv S (.ref R)=.ref R:=by unfold dpv; simp only [h]
 rw [h1,h2];rfl
theorem Qgs {most:Int} {q:List Str} {a7:List Str} (M:MI2 most q rs a7 ws) (h:Man most q (rs.map ruV)) (hN:N<=600) (hS:U9 rs most (q,[],0) N) (J:∀ i,i < N->¬ U9 rs most (q,[],0) i) (ht:Qa7 most q rs N L v S):Yf [mW M,v] S=.ok (.bl zb) S:=by
 rcases ht with ⟨hb,R,ks,n,r,s,rfl,a4,G,k1,k2,k3,k4,k5,k6⟩ | ⟨hb,R,rfl,a4,G⟩
 ·have a1:wkS rs (ks ++ [n]) (q,[],0)=zo (stp r s):=Q24 k4 k2 k5;have a2:=Qib M G (by rw [O6]; simp; omega) a1;have I:=G;rw [Qt4] at I;have Y:=(O3.mp I).1;have O:=Qjv M.one h (S:=S) (V:=.ref R) (w:=[(R,.lst (((ks ++ [n]).map λ(k:Nat)=>(k:Int)).map .int))]) (ks:=(ks ++ [n]).map λ(k:Nat)=>(k:Int)) (λT=>U6 (by rw [O8 Y]; exact I)) (λT=>Um (by rw [O8 Y]; exact I)) (by rw [O0,O6]; simp; omega)
  rw [Qua a1,bW (show most < (stp r s).2.2 from k6)] at O;refine qy (A:=S) ?_ (Gw.refl _ _);show Wn [mO M,zo (.tup [.str "breaks",.ref R]),zl] S=_;exact Q3 (Jy (Zi (Qp (b:=zb) rfl) (Zi (Qe (Q7 rfl rfl (Q5c S 2))) (Qp (b:=zb) (Qe (Qir G rfl))))) rfl) (Jr (Vn (Qe (Q7 rfl rfl (Q9g S "breaks"))) (Q3 (Qj (Q5 (n:=2) rfl rfl a2)) (Qn (Q0x (x:=zb) (Q7 rfl rfl rfl) (λ_=>Q0x (x:=zb) (Q7 rfl rfl (qv S (show most < (stp r s).2.2 from k6))) (λ_=>Q7 (Q5 (n:=2) rfl rfl O) rfl rfl) (λe=>nomatch e)) (λe=>nomatch e))))))
 ·have hV:FrAt S (.ref R) (lvs rs (q,[],0) N).1:=.inr ⟨R,rfl,G⟩;have a3:∀ j,j < N->Ys rs most (lvs rs (q,[],0) j).2=yo:=λj hj=>by
   cases z:Ys rs most (lvs rs (q,[],0) j).2 with
   | false=>rfl
   | true=>exact absurd (.inl z) (J j hj)
  have a8:=jh M a3;have Z:∀ s∈(lvs rs (q,[],0) N).1,SdW q.length s:=λs hs=>((zw M N).2.2 s hs).w M
  obtain ⟨A1,e1,g1⟩:=Qf7 M hV (by omega) Z;have a5:FrAt A1 (.ref R) (lvs rs (q,[],0) N).1:=.inr ⟨R,rfl,g1.at G (λz=>z)⟩;obtain ⟨A2,e2,g2⟩:=Qik M h a5 (by omega) Z;have a6:=Qpi M hS J hb;rw [a6] at e1 e2;have hc:Jn (Qb 0) Ja V9 [(R,.lst ((lvs rs (q,[],0) N).1.map sdV))] [zl,mO M] ((lvs rs (q,[],0) N).1.map sdV) S=.ok (((lvs rs (q,[],0) N).1.map λ_=>zb).map .bl) S:=by
   rw [G8];refine Vp sdV (λ_=>PV.bl zb) (Um G) λs hs=>⟨_,rfl,Q5 (n:=2) rfl rfl (Q9b (most:=most) (Z s hs).len s.2.1 s.2.2 S ?_ ?_ (rs.map ruV))⟩
   ·rw [(Z s hs).len]; have:=M.n4; omega
   ·have:=(Z s hs).few; omega
  have b1:=Q4b S ((lvs rs (q,[],0) N).1.map λ_=>zb)
  rw [Qa4] at b1;refine qy (A:=A2) ?_ (g1.trans g2);show Wn [mO M,zo (.tup [.str "keeps",.ref R]),zl] S=_;refine Q3 (Jy (Zi (Qp (b:=zb) rfl) (Zi (Qe (Q7 rfl rfl (Q5c S 2))) (Qp (b:=zb) (Qe (Qir G rfl))))) rfl) (Q3 (Jy (Qe (Q7 rfl rfl (Q9h S (by decide)))) rfl) (Q3 (Jy (Zi (Qe (Q7 rfl rfl (Qnd rfl rfl))) (Qp (b:=zb) (Qe (Jw (Qh (Vu (Yx (Jg rfl (U6 G) (by rw [O0]; omega)) hc)) rfl) b1)))) rfl) (Qn ?_)));rw [Qct,Q5 (n:=2) (F:=Z2) rfl rfl e1,Qk];exact Q7 (Q5 (n:=2) rfl rfl e2) rfl rfl
theorem Qgp {most:Int} {G:List Str} {b0:List Str} (M:MI2 most G rs b0 ws) (h:Man most G (rs.map ruV)) (hN:N<=600) (hS:U9 rs most (G,[],0) N) (b3:∀ i,i < N->¬ U9 rs most (G,[],0) i) (ht:Qa7 most G rs N L v S) (I:SdI G.length b0 ws s) (hu:s.2.2<=most) {m:Nat} (h1:m<=N->s∈(lvs rs (G,[],0) m).1) (h2:Ys rs most (lvs rs (G,[],0) N).2=yo->s∈(lvs rs (G,[],0) N).1) (c0 c6:Option PV) (c:Int) :
  (J5 [c0,mO M,zo v,zo (sdV s),zo (.int (m:Int)),zo (.int c),c6] S=.rt (.bl zb) S) \/
  (∃ s' m' Z,SdI G.length b0 ws s'/\s'.2.2<=most/\(m'<=N->s'∈(lvs rs (G,[],0) m').1)/\(Ys rs most (lvs rs (G,[],0) N).2=yo->s'∈(lvs rs (G,[],0) N).1)/\J5 [c0,mO M,zo v,zo (sdV s),zo (.int (m:Int)),zo (.int c),c6] S=.nx [c0,mO M,zo v,zo (sdV s'),zo (.int (m':Int)),zo (.int c),Z] S):=by
 have O:Jn (Qb 0) Z3 Z6 [] [zl,zo (sdV s)] (rs.map ruV) S=.ok ((rs.filter λr=>fit r s).map ruV) S:=
  Q5r ruV ruV (λr=>fit r s) (Qz _) λr hr=>⟨_,rfl,Qe (Q5 (n:=2) rfl rfl (Q96 M I hr S)),λ_=>rfl⟩
 have b6:=eV (λr=>fit r s) rs;have b4:∀ r∈rs.filter (λr=>fit r s),r∈rs/\fit r s=zb:=λr hr=>cN.mp hr
 have b1:=M.len;obtain ⟨fs,b9⟩:∃ fs,rs.filter (λr=>fit r s)=fs:=⟨_,rfl⟩;rw [b9] at O b6 b4;have Q4s:(Qx 6 (Zx (Qs [zl,zo 3] (Qb 0) (Y4 (mOp oIx (Q2 1) (mC (.int 2)))) Z3 Z6))) [c0,mO M,zo v,zo (sdV s),zo (.int (m:Int)),zo (.int c),c6] S=.nx [c0,mO M,zo v,zo (sdV s),zo (.int (m:Int)),zo (.int c),zo (.lst (fs.map ruV))] S:=Qj (Vu (Yx (Jg rfl rfl (by rw [O0]; omega)) O));have a8:good dep (.lst (fs.map ruV))=zb:=by
  show (fs.map ruV).all (good 11)=zb;rw [bu,E8];intro r _;show (zb && (zb && (zb && (zb && (zb && ((r.ms.map prV).all (good 9) && zb))))))=zb;have:(r.ms.map prV).all (good 9)=zb:=by rw [bu,E8]; exact λ_ _=>rfl
  rw [this]; rfl
 have a9:oNe S (.lst (fs.map ruV)) (.lst [])=.ok (.bl (!fs.isEmpty)) S:=by
  unfold oNe;show (if good dep (.lst (fs.map ruV))=zb/\good dep (.lst [])=zb then Res.ok (PV.bl (!peq (.lst (fs.map ruV)) (.lst []))) S else .stuck)=_;rw [bT ⟨a8,rfl⟩];cases fs <;> rfl
 have a3:∀ (s':Sd) (m':Nat) (Z:Option PV),s'.2.2<=most->(Ys rs most (lvs rs (G,[],0) N).2=yo->s'∈(lvs rs (G,[],0) N).1)->(Q9 (Jd (toB (mOp (oI λa b=>.bl (decide (b < a))) (mOp oIx (Q2 3) (mC (.int 2))) (mOp oIx (Q2 1) (mC (.int 0))))) (Qq (Xr (mOp oEq (mOp oIx (Q2 2) (mC (.int 0))) (mC (.str "breaks"))) (mOp (oI λa b=>.bl (decide (a<=b))) (Qi Je (Q1 (mOp oIx (Q2 2) (mC (.int 1))) Q4)) (Q2 4)))) Qr)
  (Jd (jw (toB (mOp oEq (mOp oIx (Q2 2) (mC (.int 0))) (mC (.str "keeps")))) (toB (mOp (oIn zb) (Q2 3) (mOp oIx (Q2 2) (mC (.int 1)))))) (Qq (mC (.bl yo))) Qr)) [c0,mO M,zo v,zo (sdV s'),zo (.int (m':Int)),zo (.int c),Z] S=.nx [c0,mO M,zo v,zo (sdV s'),zo (.int (m':Int)),zo (.int c),Z] S:=λs' m' Z a7 a1=>by
  refine Q3 (Jy (Qe (Q7 rfl rfl (xk S (show ¬ most < s'.2.2 by omega)))) rfl) ?_;rcases ht with ⟨hb,R,ks,n,r,t,rfl,a6,hR,k1,k2,k3,k4,k5,k6⟩ | ⟨hb,R,rfl,a6,hR⟩
  ·exact Jy (Qk6 (Qe (Q7 rfl rfl (Q9h S (by decide))))) rfl
  ·exact Jy (Qa3 (Qe (Q7 rfl rfl (Q9g S "keeps"))) (Qe (Q7 rfl rfl (Qtv hR (a1 hb))))) rfl
 cases fs with
 | nil=>
  exact .inr ⟨s,m,_,I,hu,h1,h2,Q3 Q4s (Q3 (Jy (Qe (Q7 rfl rfl a9)) rfl) (a3 s m _ hu h2))⟩
 | cons f fs=>
  have a5:((f :: fs).map ruV).length=(f :: fs).length:=O0 _;have a4:(0:Int) < (((f :: fs).map ruV).length:Nat):=by rw [a5]; simp
  have b7:=fR c (show ((((f :: fs).map ruV).length:Nat):Int)≠0 by omega);have c2:=fQ c a4;obtain ⟨k,hk⟩:∃ k:Nat,c % ((((f :: fs).map ruV).length:Nat):Int)=(k:Int):=⟨(c % ((((f :: fs).map ruV).length:Nat):Int)).toNat,(dw b7).symm⟩;have b8:k < (f :: fs).length:=by rw [<- a5]; omega
  obtain ⟨r,hr⟩:∃ r,(f :: fs)[k]?=zo r:=⟨_,O2 b8⟩;obtain ⟨J,a2⟩:=b4 r (E2 hr);have hs:=Q94 M I J S;have b5:Kn S (.int c) (.int (((f :: fs).map ruV).length:Nat))=.ok (.int (k:Int)) S:=by rw [Qzu S a4,hk]
  have Y:(Q9 (Qx 3 (Q8 2 Qv (Q1 (mOp oIx (Q2 6) (mOp Kn (Q2 5) (Qi Je (Q1 (Q2 6) Q4)))) (Q1 (Q2 3) Q4)))) (Qx 4 (mOp Zj (Q2 4) (mC (.int 1))))) [c0,mO M,zo v,zo (sdV s),zo (.int (m:Int)),zo (.int c),zo (.lst ((f :: fs).map ruV))] S=.nx [c0,mO M,zo v,zo (sdV (stp r s)),zo (.int ((m + 1:Nat):Int)),zo (.int c),zo (.lst ((f :: fs).map ruV))] S:=
   Q3 (Qj (Q5 (n:=2) (Qh (Q7 rfl (Q7 rfl rfl b5) (Qb6 (by rw [D7,hr]; rfl) S)) rfl) rfl hs)) (Qj (Q7 rfl rfl (show Zj S (.int (m:Int)) (.int 1)=.ok (.int ((m + 1:Nat):Int)) S by rw [Qfh]; rfl)))
  by_cases q:most < s.2.2 + r.u
  ·left
   have c1:N<=m:=by
    by_cases z:m<=N
    ·exact (Q9z b3 (h1 z) J a2 q).1
    ·omega
   have b2:Ys rs most (lvs rs (G,[],0) N).2=zb:=by
    cases z:Ys rs most (lvs rs (G,[],0) N).2 with
    | true=>rfl
    | false=>
     have:=(Q9z b3 (h2 z) J a2 q).2 rfl;rw [z] at this; cases this
   rcases ht with ⟨hb,R,ks,n,r',t,rfl,a6,hR,k1,k2,k3,k4,k5,k6⟩ | ⟨hb,R,rfl,a6,hR⟩
   ·have b1:Je S [.ref R]=.ok (.int ((N + 1:Nat):Int)) S:=by
     rw [qz hR,O0,O6,k1];rfl
    refine Q3 Q4s (Q3 (Vn (Qe (Q7 rfl rfl a9)) Y) (Jr (Vn (Qe (Q7 rfl rfl (qv S (show most < (stp r s).2.2 from q)))) (Qn (Q0x (x:=zb) (Q7 rfl rfl (Q9g S "breaks")) (λ_=>Q7 (Jw rfl b1) rfl ?_) (λe=>nomatch e))))))
    rw [lei,bW (show ((N + 1:Nat):Int)<=((m + 1:Nat):Int) by omega)]
   ·rw [hb] at b2; cases b2
  ·right
   have a1:Ys rs most (lvs rs (G,[],0) N).2=yo->stp r s∈(lvs rs (G,[],0) N).1:=λz=>Q3k (hS.resolve_left (by rw [z]; decide)) (h2 z) J a2
   have a7:(stp r s).2.2<=most:=by show s.2.2 + r.u<=most; omega
   exact ⟨stp r s,m + 1,_,I.step (M.ru r J),a7,λz=>Qic (h1 (by omega)) J a2,a1,Q3 Q4s (Q3 (Vn (Qe (Q7 rfl rfl a9)) Y) (a3 (stp r s) (m + 1) _ a7 a1))⟩
theorem Qcd {most:Int} {q:List Str} {rs:List Ru} {Y ws:List Str} (M:MI2 most q rs Y ws) (h:Man most q (rs.map ruV)) {N:Nat} (hN:N<=600) (hS:U9 rs most (q,[],0) N) (O:∀ i,i < N->¬ U9 rs most (q,[],0) i) {S:Q0} {v:PV} {L:Nat} (ht:Qa7 most q rs N L v S) {c0:Option PV}:∀ (cs:List Int) (s:Sd) (m:Nat) (Z J:Option PV),SdI q.length Y ws s->s.2.2<=most->(m<=N->s∈(lvs rs (q,[],0) m).1)->(Ys rs most (lvs rs (q,[],0) N).2=yo->s∈(lvs rs (q,[],0) N).1) ->
  (Jm (Qb 5) J5 [] (cs.map .int) [c0,mO M,zo v,zo (sdV s),zo (.int (m:Int)),Z,J] S=.rt (.bl zb) S)\/(∃ G,Jm (Qb 5) J5 [] (cs.map .int) [c0,mO M,zo v,zo (sdV s),zo (.int (m:Int)),Z,J] S=.nx G S)
 | [],s,m,Z,J,_,_,_,_=>.inr ⟨_,Wr (Qz S)⟩
 | c :: cs,s,m,Z,J,I,hu,h1,h2=>by
  rcases Qgp M h hN hS O ht I hu h1 h2 c0 J c with e | ⟨s',m',a1,I',a2,k1,k2,e⟩
  ·exact .inl (jk (Qz S) rfl e)
  ·rcases Qcd M h hN hS O ht (c0:=c0) cs s' m' (zo (.int c)) a1 I' a2 k1 k2 with e2 | ⟨G,e2⟩
   ·exact .inl (Z5 (Qz S) rfl e e2)
   ·exact .inr ⟨G,Z5 (Qz S) rfl e e2⟩
theorem Q6c {most:Int} {q:List Str} {J:List Str} (M:MI2 most q rs J ws) (h:Man most q (rs.map ruV)) (Y:N<=600) (hS:U9 rs most (q,[],0) N) (I:∀ i,i < N->¬ U9 rs most (q,[],0) i) (ht:Qa7 most q rs N L v S) (ns:List Int):Jz [.fro (ns.map .int),mW M,v] S=.ok (.bl zb) S:=by
 have G:mSl (Q2 0) U7 (qp (mC (.int 100))) [zo (.fro (ns.map .int)),mO M,zo v,zo (sdV (q,[],0)),zo (.int 0),zl,zl] S=.ok (.lst ((ns.take 100).map .int)) S:=by
  show Res.ok (PV.lst (cut (ns.map PV.int) zl (zo ((100:Nat):Int)))) S=_;rw [Q5q,eK]
 have O:((ns.take 100).map PV.int).length<=1000000:=by rw [O0,L8]; omega
 refine qy (A:=S) ?_ (Gw.refl _ _);show W4 [zo (.fro (ns.map .int)),mO M,zo v,zl,zl,zl,zl] S=_;rcases Qcd M h Y hS I ht (c0:=zo (.fro (ns.map .int))) (ns.take 100) (q,[],0) 0 zl zl (Q2e M) M.m0 (λ_=>Q0e 0) (λ_=>Q0e N) with e | ⟨Z,e⟩
 ·exact Q3 (Qj (show _=Res.ok (sdV (q,[],0)) S from rfl)) (Q3 (Qj rfl) (Jr (Ju (Jg G rfl O) e)))
 ·exact Q3 (Qj (show _=Res.ok (sdV (q,[],0)) S from rfl)) (Q3 (Qj rfl) (Q3 (Ju (Jg G rfl O) e) (Qn rfl)))
theorem Qf2 (g:α->PV) {xs:List α} (I:Gam->Q0->Prop) {body:MS} (h:∀ x Γ st,x∈xs->I Γ st->∃ J,ga (g x) Γ=zo J/\∃ G q,I G q/\(body J st=.nx G q\/body J st=.bk G q)) (h0:I Γ st):∃ O st',Jm ga body [] (xs.map g) Γ st=.nx O st'/\I O st':=by
 induction xs generalizing Γ st with
 | nil=>exact ⟨Γ,st,by simp [Jm],h0⟩
 | cons x xs ih=>
  obtain ⟨J,h1,G,q,i2,Y⟩:=h x Γ st F4 h0;rcases Y with Y | Y
  ·obtain ⟨O,st',e',Z⟩:=ih (λy Γ st hy=>h y Γ st (O4 _ hy)) i2
   exact ⟨O,st',by simp [Jm,h1,Y,e'],Z⟩
  ·exact ⟨G,q,by simp [Jm,h1,Y],i2⟩
theorem Qti (ns:List Int):∃ S',Qi8 [zo (.fro (ns.map .int)),zl,zl,zl,zl] []=.rt (.bl zb) S':=by
 have T0:TapeAt [Cell.lst [.fro (ns.map .int),.int 0,.int 0]] 0 ns:=⟨0,0,rfl⟩;obtain ⟨a2,S1,Z,T1,x2,x3,x4,rfl⟩:=Qf2 (xs:=bY 3) (λ(i:Nat)=>PV.int ((0:Int) + (i:Int))) (λΓ A=>TapeAt A 0 ns/\∃ c2 I c4,Γ=[zo (.fro (ns.map .int)),zo (.ref 0),c2,I,c4])
  (ga:=Qb 2) (body:=Q20) (λx Γ A _ ⟨T,c2,I,c4,a1⟩=>by
   subst a1;refine ⟨_,rfl,?_⟩;have hT:=T;obtain ⟨p,c,eS⟩:=T;obtain ⟨_,i1,_⟩:=Q1q eS
   by_cases q:(1:Int) < (0:Int) + (x:Int)/\((ns.map PV.int).length:Int)<=(p:Int)
   ·refine ⟨[zo (.fro (ns.map .int)),zo (.ref 0),zo (.int ((0:Int) + (x:Int))),I,c4],A,⟨hT,_,_,_,rfl⟩,.inr ?_⟩;unfold Q20;have h1:(jw (toB (mOp (oI λa b=>.bl (decide (b < a))) (Q2 2) (mC (.int 1)))) (toB (mOp (oI λa b=>.bl (decide (b<=a))) (mOp oIx (Q2 1) (mC (.int 1))) (Qi Je (Q1 (Q2 0) Q4))))) [zo (.fro (ns.map .int)),zo (.ref 0),zo (.int ((0:Int) + (x:Int))),I,c4] A=.ok zb A:=
     Qa3 (Qe (Q7 rfl rfl (qv A q.1))) (Qe (Q7 (Q7 rfl rfl i1) rfl (by show Res.ok (PV.bl (decide _)) A=_; rw [bW q.2])))
    show Q9 _ _ [zo (.fro (ns.map .int)),zo (.ref 0),zo (.int ((0:Int) + (x:Int))),I,c4] A=_;rw [qm,Vn h1 (show Qay _ A=.bk _ A from rfl)]
   ·have h1:(jw (toB (mOp (oI λa b=>.bl (decide (b < a))) (Q2 2) (mC (.int 1)))) (toB (mOp (oI λa b=>.bl (decide (b<=a))) (mOp oIx (Q2 1) (mC (.int 1))) (Qi Je (Q1 (Q2 0) Q4))))) [zo (.fro (ns.map .int)),zo (.ref 0),zo (.int ((0:Int) + (x:Int))),I,c4] A=.ok yo A:=by
     by_cases q1:(1:Int) < (0:Int) + (x:Int)
     ·exact Qa3 (Qe (Q7 rfl rfl (qv A q1))) (Qe (Q7 (Q7 rfl rfl i1) rfl (by show Res.ok (PV.bl (decide _)) A=_; rw [bV (λh=>q ⟨q1,h⟩)])))
     ·exact Qk6 (Qe (Q7 rfl rfl (xk A q1)))
    obtain ⟨most,J,rules,A1,O,T1,M1,Z⟩:=Qer hT;obtain ⟨rs,a3,ws,rfl,M⟩:=Qt7 O;obtain ⟨N,hN,Y,G⟩:=Qvj M;obtain ⟨v,A2,e2,g2,ht⟩:=Qfv M O hN Y G A1;have h3:=Qgs M O hN Y G ht;have h4:=Q6c M O hN Y G ht ns;exact ⟨_,A2,⟨g2.tape T1 (λh=>h),_,_,_,rfl⟩,.inl (Q3 (Jy h1 rfl) (Q3 (Qj (Q5 (n:=1) rfl rfl Z)) (Q3 (Qj (Q5 (n:=1) rfl rfl e2)) (Jy (Zi (Qp (b:=zb) (Qe (Q5 (n:=2) rfl rfl h3))) (Qp (b:=zb) (Qe (Q5 (n:=3) rfl rfl h4)))) rfl))))⟩)
  (Γ:=[zo (.fro (ns.map .int)),zo (.ref 0),zl,zl,zl]) (st:=[Cell.lst [.fro (ns.map .int),.int 0,.int 0]])
  ⟨T0,zl,zl,zl,rfl⟩
 exact ⟨S1,Q3 (Qj (X0 rfl)) (Q3 (Ju (Qvs (n:=3) (by decide) rfl) Z) (Qn rfl))⟩
theorem Qnz:∀ ns:List Int,ns.length<=63->∃ st',Qdg [.fro (ns.map .int)] []=.ok (.bl zb) st':=λns _=>by
 obtain ⟨q,e⟩:=Qti ns;have:=Vr (nl:=5) (ps:=[.fro (ns.map .int)]) e;refine ⟨[],?_⟩;unfold Qdg;rw [this];unfold fin;rw [bT (List.nil_prefix)];simp [fz,okO]
theorem all_mk {l:fJ} {w:aJ} {h:Heap} {fa f1 f2 f3 f4 f5 f6 f7 f8 f9 q4 v3 q6 p4 t7 q3 u7 t6 t3 v5 v4 v9 r4 r5 u3 q0 r1 r7 t8 r6 r2 p9 s7 w6 s8 p6 t4 p8 q2 r8 k7:aB} (X:K.In h) (G:h.Ns aV mg) (v7:mg "law" = zo (.ref fa))
  {o8 k3:Option aB} {l8:Array (Option aA)} {n9 k0 k5 k4 j0 j5:aA}
  {d1 d7:aB}
  {b5:Tok}
  {e8:Tok}
  {d4:Tok}
  {e7:Tok}
  {c0:Tok}
  {a9:Tok}
  {d6:Tok}
  {I:aB} {Y a3:Tok} {a5:Nat} {a6:Array (Option aA)}
  (o3:bg K aV "law" = zo (zo (.ref k7)))
  (v1:K.lookup k7=zo ⟨n9,o8,.func (br "law" "law" (Yk yk) (Z0 yk) (Q6 yk) .none k0 k5 k4 k3 j0 j5),l8⟩)
  (u8:cp K j0 "law" = zb)
  (u4:cV K (.ref k7)=zb)
  (k6:bg K aV "all" = zo zl)
  (j1:bg K aV "bool" = zo zl)
  (j2:bg K aV "dict" = zo zl)
  (e9:bg K aV "enumerate" = zo zl)
  (l3:bg K aV "int" = zo zl)
  (e4:bg K aV "isinstance" = zo zl)
  (l0:bg K aV "len" = zo zl)
  (j3:bg K aV "list" = zo zl)
  (i9:bg K aV "range" = zo zl)
  (g5:bg K aV "reversed" = zo zl)
  (k9:bg K aV "set" = zo zl)
  (i3:bg K aV "sorted" = zo zl)
  (l4:bg K aV "str" = zo zl)
  (i8:bg K aV "tuple" = zo zl)
  (k8:bg K aV "zip" = zo zl)
  (b4:bg K aV "MOST_SIGNS_OF_WORD" = zo (zo (.int 8 b5)))
  (e6:bg K aV "MOST_STOCK" = zo (zo (.int 20 e8)))
  (d8:bg K aV "MOST_STARTS" = zo (zo (.int 4 d4)))
  (e5:bg K aV "MOST_RULES" = zo (zo (.int 60 e7)))
  (b9:bg K aV "MOST_USE_AT_ONCE" = zo (zo (.int 9 c0)))
  (b0:bg K aV "MOST_LETTERS_OF_RULE" = zo (zo (.int 8 a9)))
  (e2:bg K aV "MOST_STANDS" = zo (zo (.int 2000 d6)))
  (a7:bg K aV "EVENTS_WITHOUT_LETTER" = zo (zo (.ref I)))
  (a4:K.lookup I=zo ⟨.type "tuple",zl,.seq #[.str "go" Y,.str "fall" a3] a5,a6⟩)
  (g4:bg K aV "NoManner" = zo (zo (.ref d1)))
  (i0:bg K aV "TooMany" = zo (zo (.ref d7)))
  (h1:FA K "is_whole" zi f1)
  (h2:FA K "is_between" K0 f2)
  (h3:FA K "is_rising" Ku f3)
  (h4:FA K "is_sized_tuple" V1 f4)
  (h5:FA K "is_word" xz f5)
  (h6:FA K "is_letter" Kw f6)
  (h7:FA K "are_letters_of_rule" Zv f7)
  (h8:FA K "is_rule" Q00 f8)
  (h9:FA K "are_rules" Ky f9)
  (u2:FA K "are_starts" K1 q4)
  (s9:FA K "is_manner" Kv v3)
  (q1:FA K "need_manner" X2 q6)
  (v8:FA K "beginning" Kx p4)
  (t5:FA K "may_be_done" X3 t7)
  (u6:FA K "numbers_that_may" W1 q3)
  (w0:FA K "stand_behind" Ub u7)
  (v0:FA K "run_to" Q2m t6)
  (w5:FA K "breaking_step" Vw t3)
  (w4:FA K "further_stands" V2 v5)
  (v2:FA K "walked" Q2k v4)
  (u1:FA K "tried" Q6a v9)
  (p5:FA K "used_behind" X1 r4)
  (r3:FA K "is_break" zj r5)
  (u9:FA K "is_stand_of" X4 u3)
  (s6:FA K "is_closed_at" Uc q0)
  (t9:FA K "keeps" Q6b r1)
  (s5:FA K "_law_e_stirred" V3 r7)
  (w1:FA K "_law_e_digit" Ue t8)
  (w3:FA K "_law_e_name" X8 r6)
  (r9:FA K "_law_e_letter_name" Y7 r2)
  (q5:FA K "_law_e_rule" X7 p9)
  (t0:FA K "_law_e_manner" Vx s7)
  (p7:FA K "_law_e_fits" X9 w6)
  (s2:FA K "_law_e_step" X6 s8)
  (q8:FA K "_law_e_is_stand" Wg p6)
  (u5:FA K "_law_e_walk" X5 t4)
  (v6:FA K "_law_e_closed" Vy p8)
  (s3:FA K "_law_e_right" Ud q2)
  (q7:FA K "_law_e_run_right" W2 r8)
  (g7:cK K d1 Qa1 "ValueError.__new__" = zb)
  (g9:cK K d7 Qa1 "ValueError.__new__" = zb)
  (hL:noL K=zb) :
  ∃ fd:aP,(∀ (s:aC) (v:aA),BindsTo s fd ⟨[v],[]⟩ [("script",v)])/\∀ base:Heap,K.In base->base.Ns aV mg->FnOk l.prog w K mg base (CXD l.prog w) 11 fa fd ["script"] (Q66 K):=by
 have e:=v7.symm.trans (bw X G o3);cases e;have T:Txt K mg:=⟨bt X G k6,bt X G j1,bt X G j2,bt X G e9,bt X G l3,bt X G e4,bt X G l0,bt X G j3,bt X G i9,bt X G g5,bt X G k9,bt X G i3,bt X G l4,bt X G i8,bt X G k8,⟨_,bw X G b4⟩,⟨_,bw X G e6⟩,⟨_,bw X G d8⟩,⟨_,bw X G e5⟩,⟨_,bw X G b9⟩,⟨_,bw X G b0⟩,⟨_,bw X G e2⟩,⟨_,_,_,_,bw X G a7,a4,rfl,rfl,(by show 2<=sizeLine; decide),.cons ⟨_,rfl⟩ (.cons ⟨_,rfl⟩ (.nil))⟩⟩
 have g6:∃ C,mg "NoManner" = zo (.ref C)/\cK K C Qa1 "ValueError.__new__" = zb:=⟨_,bw X G g4,g7⟩;have g8:∃ C,mg "TooMany" = zo (.ref C)/\cK K C Qa1 "ValueError.__new__" = zb:=⟨_,bw X G i0,g9⟩;obtain ⟨_,A1⟩:=Zm ["thing"] X G h1;obtain ⟨_,A2⟩:=Zm ["thing", "least", "most"] X G h2;obtain ⟨_,A3⟩:=Zm ["things"] X G h3;obtain ⟨_,A4⟩:=Zm ["thing", "least", "most"] X G h4;obtain ⟨_,A5⟩:=Zm ["thing"] X G h5;obtain ⟨_,A6⟩:=Zm ["n", "thing"] X G h6;obtain ⟨_,A7⟩:=Zm ["n", "thing"] X G h7;obtain ⟨_,A8⟩:=Zm ["n", "thing"] X G h8;obtain ⟨_,A9⟩:=Zm ["n", "thing"] X G h9;obtain ⟨_,m6⟩:=Zm ["thing"] X G u2;obtain ⟨_,m7⟩:=Zm ["thing"] X G s9;obtain ⟨_,m9⟩:=Zm ["manner"] X G q1;obtain ⟨_,o4⟩:=Zm ["manner"] X G v8;obtain ⟨_,m3⟩:=Zm ["rule", "stand"] X G t5;obtain ⟨_,n3⟩:=Zm ["manner", "stand"] X G u6
 obtain ⟨_,o0⟩:=Zm ["rule", "stand"] X G w0;obtain ⟨_,m2⟩:=Zm ["found", "stand"] X G v0;obtain ⟨_,l6⟩:=Zm ["manner", "stands"] X G w5;obtain ⟨_,n2⟩:=Zm ["manner", "found", "stands"] X G w4;obtain ⟨_,n5⟩:=Zm ["manner"] X G v2;obtain ⟨_,o2⟩:=Zm ["manner"] X G u1;obtain ⟨_,n7⟩:=Zm ["manner", "run"] X G p5;obtain ⟨_,l7⟩:=Zm ["manner", "run"] X G r3;obtain ⟨_,o9⟩:=Zm ["manner", "thing"] X G u9;obtain ⟨_,o5⟩:=Zm ["manner", "among", "stand"] X G s6;obtain ⟨_,p3⟩:=Zm ["manner", "stands"] X G t9;obtain ⟨_,o7⟩:=Zm ["cell", "place"] X G s5;obtain ⟨_,n0⟩:=Zm ["tape", "many"] X G w1;obtain ⟨_,l5⟩:=Zm ["tape"] X G w3;obtain ⟨_,m4⟩:=Zm ["tape"] X G r9;obtain ⟨_,n8⟩:=Zm ["tape", "n", "states", "names"] X G q5;obtain ⟨_,p0⟩:=Zm ["tape"] X G t0;obtain ⟨_,l9⟩:=Zm ["rule", "stand"] X G p7;obtain ⟨_,m8⟩:=Zm ["rule", "stand"] X G s2;obtain ⟨_,p1⟩:=Zm ["manner", "found"] X G q8
 obtain ⟨_,o6⟩:=Zm ["manner", "run"] X G u5;obtain ⟨_,m5⟩:=Zm ["manner", "stands"] X G v6;obtain ⟨_,o1⟩:=Zm ["manner", "found"] X G s3;obtain ⟨_,n6⟩:=Zm ["script", "manner", "found"] X G q7;have r0:=Que (st:=yk) (ps:=["script"]) X G o3 v1 u8 u4 λ_ _ _ _ _ _ us hl=>match us,hl with | [_],_=>rfl
 refine ⟨br "law" "law" (Yk yk) (Z0 yk) (Q6 yk) .none k0 k5 k4 k3 j0 j5,λs v=>.of_eq rfl,λbase kb nb=>?_⟩;have d0:=A1.d l.prog w base rfl (Q8n A1.F T    );have a8:=A2.d l.prog w base rfl (Q4n A2.F T   d0 );have f0:=A3.d l.prog w base rfl (Q6n A3.F T    );have q:=A4.d l.prog w base rfl (yr A4.F T    );have b1:=A5.d l.prog w base rfl (Qar A5.F T    );have c5:=A6.d l.prog w base rfl (Q6q A6.F T   q a8 b1 );have b2:=A7.d l.prog w base rfl (K5 A7.F T   q c5 );have h0:=A8.d l.prog w base rfl (Qas A8.F T   q a8 b1 b2 );have g0:=A9.d l.prog w base rfl (Q6s A9.F T   q h0 );have e3:=m6.d l.prog w base rfl (Q4p m6.F T   q b1 )
 have g1:=m7.d l.prog w base rfl (Q6p m7.F T   q a8 e3 g0 );have a2:=m9.d l.prog w base rfl (Q32 m9.F T  g6 g1 );have c6:=o4.d l.prog w base rfl (Q6r o4.F T    );have b7:=m3.d l.prog w base rfl (Q33 m3.F T    );have J:=n3.d l.prog w base rfl (jt n3.F T   b7 );have b3:=o0.d l.prog w base rfl (Q1f o0.F T    );have i4:=m2.d l.prog w base rfl (Qei m2.F T    );have c7:=l6.d l.prog w base rfl (Q04 l6.F T   J );have c4:=n2.d l.prog w base rfl (yt n2.F T  g8 J b3 );have i5:=n5.d l.prog w base rfl (Qeh n5.F T   c6 c7 i4 c4 );have i7:=o2.d l.prog w base rfl (Qhy o2.F T   a2 i5 );have e1:=n7.d l.prog w base rfl (Q31 n7.F T   b7 )
 have g3:=l7.d l.prog w base rfl (Q8p l7.F T   a2 e1 );have e0:=o9.d l.prog w base rfl (Q34 o9.F T   q b1 c5 f0 d0 );have d2:=o5.d l.prog w base rfl (Q1g o5.F T   J b3 );have i6:=p3.d l.prog w base rfl (Qhz p3.F T   a2 e0 c6 d2 );have c3:=o7.d l.prog w base rfl (yu o7.F T    );have O:=n0.d l.prog w base rfl (Q1i n0.F T   c3 );have b8:=l5.d l.prog w base rfl (Q38 l5.F T   O );have b6:=m4.d l.prog w base rfl (Km m4.F T   b8 );have d9:=n8.d l.prog w base rfl (Q37 n8.F T   O );have c9:=p0.d l.prog w base rfl (Q05 p0.F T   O b8 b6 d9 )
 have a1:=l9.d l.prog w base rfl (Q39 l9.F T    );have Z:=m8.d l.prog w base rfl (Q36 m8.F T    );have c2:=p1.d l.prog w base rfl (zq p1.F T    );have d5:=o6.d l.prog w base rfl (Q35 o6.F T   a1 Z );have c8:=m5.d l.prog w base rfl (Q06 m5.F T   a1 Z );have d3:=o1.d l.prog w base rfl (Q1h o1.F T   d5 g3 c2 c8 i6 );have c1:=n6.d l.prog w base rfl (ju n6.F T   a1 Z );exact Qny hL (Qt0 r0.F T   c9 i7 d3 c1 ) Qnz
end Lw
namespace PySem.W.Fast
local macro_rules|`(command|open $n*)=>return Lean.mkNullNode (<-n.mapM λn=>`(command|theorem $n:ident:True:=trivial))
open tw12257721720974532008 tw6809722335848632602 tw9567030064711730949 tw8492475971203765841 tw16911776722041487481 tw11633920303473356375 tw11027645078186741451 tw8804980342672747581 te7160072938497101247 te7844611091211138016 te280399174933000816 te14835494016418745577 te3809119677981694935 te1651209331612099948 te1950378701878107190 te10710449483053088213 te287730739094097595 te2185222741449212874 te9888174439652818303 te1403663699667956232 te12079900869572547702 te15047077271003336107 te6499783808825909787 te11501802428255446570 te4847463878899270719 te9699915785904014122 te3928918951586226436 te9964137344846394876 te2734431092604699369 te3646515199469770765 te8766371240520345201 te1779598062832083160 te14355973838960407771 te8988697247254011511 te15534994370694751524 te7247862559628175332 te18370327626856382008 te16597495508803499105 te5671108021169706659 te10121855225176308405 te11626944900078895294 te13023820630918344551 te11871989938431191155 te4811425848888855255 te10015282510997083817 te3337882159647729714 te6986983312652024361 te3226123676627636949 te6885810100909151027 te8009318469765807995 te459559064663239467 te7073059577632652428 te15423441951616589597 te965517429261447722 te11176973484722789566 te6035337265184778208 te14009973718395403100 te11171101177482472799 te2876321622155697533 te17155165645972336299 te6616832365443616425 te11266480149300747810 te11024530651332496258 te15453325558266029175 te5526690247199831722 te3812558172345497170 te11584833560415454153 te1205443108405427368 te1560839791744642297 te13653298151053503666 te9839031940553202255 te15561576491001852712 te9439040636672713743 te9691152466457265183 te1802976415472316835 te5552096367056398298 te15487694368999984939 te16098496631164669886 te17948274254895176653 te16556189756352373878 te974103585428996333 te2762094785305868616 te5003286046844686381 te16134349250221175608 te17771057661708522404 te2351436924037409607 te11229368216681165586 te3400783773404006501 te10274670599113185610 te12917793681225121796 te13730843570919287516 te6702452827730411089 te17153055911503566671 te8617481830258627123 te3783282209871694526 te7115334194934068565 te6958374387594125116 te2366534858837769788 te11491256592235422731 te3968444401261134366 te12131522595876050577 te12146954171876298362 te13777070102086263116 te8904715679408784394 te17441131685584558336 te2240822061381728941 te3271874614352433635 te17249815797745473484 te13139675806809454736 te10583065835332420319 te8594303130889323696 te6208189523799087189 te3854192499446218558 te9560339753842549432 te16828491029189931742 te3129081384383604177 te18152679686649302152 te10021569181574823303 te10541442430221012657 te4799005584293621541 te14318678906485531268 te2145570340338940547 te11157905492758399378 te5593579735425568481 te5407698264813661231 te2821097603538396397 te1109207665957568944 te1575464416903436773 te7022784462043597072 te9528844176594823917 te6235271941746816784 te1521903398190322494 te13033995512360760594 te7345654665792595504
end PySem.W.Fast
open PySem PySem.W PyProof.Rows Sm
set_option maxRecDepth 100000 in
set_option maxHeartbeats 0 in
theorem PySem.Challenge.cw_lendwharf_k63_whole_breaks_or_keeps_holds : PySem.Challenge.rw_lendwharf_k63_whole_breaks_or_keeps.Holds := by
 w_on; o_law; k_head; (case hw=>w_witness2)
 k_fill
 refine Sm.walkS (l:=PySem.Challenge.rw_lendwharf_k63_whole_breaks_or_keeps) (k:=11) rfl ⟨rfl,by decide,by decide⟩ rfl (fun w h Y=>PySem.W.kIn_of Y) ?F
 case F=>
  intro w mg fa h KX G hmg;refine' Lw.all_mk KX G hmg ..
  any_goals k_is
  any_goals exact FA.mk (by k_is) (by k_is) (by k_is) (by k_is)
  any_goals k_exc
  all_goals first | rfl | decide
