import PyProof.Rows.All
import Wide.All
import OpenK.AllK
import Wide.FinOn
import Lean
import PyProof.EqAt
import PyProof.EqKinds
import PyProof.TupleCall
import PyProof.ZipIter
import PyProof.Draws
import PyProof.SumAny
import PyProof.EnumMake
import PyProof.WalkInts
import PyProof.ExcArgsOwn
import PyProof.ExcAttrAll.ValueError
import PyProof.NsDelKeeps
import KE.KTryMore
import OpenK.KOwn
import PyProof.ListMulRoad
import PyProof.FactsAll.tuple_2
import PyProof.NeKinds
import PyProof.Rows.RuleIs
import PyProof.ExcInit
import PyProof.ExcClass3
import OpenK.KCls
import PyProof.InstStoreFacts
import OpenK.KMake
import PyProof.DictRoads
import PyProof.Rows.CountFlat
import PyProof.ListRange
import PyProof.Rows.SetFrom
import PyProof.CollectStr
import PyProof.Rows.TupMore
import PyProof.AttrMissHeap
import KE.KDictOf
import PyProof.DictWalks
import KE.KSortTup
import PyProof.DictItemsLoops
import KE.KDictList
import PyProof.CallStr
import PyProof.StrWalks
import PyProof.StrOps
import PyProof.StrCalls2
import KE.KRevIter
import PyProof.Conv_int_bool
import PySem.Challenge.RW_lendwharf_k62_shortest_runs_that_break
set_option Elab.async false
set_option linter.all false
set_option maxRecDepth 100000
set_option maxHeartbeats 4000000
open Option renaming some -> zo, none -> zb
open Bool renaming true -> yo, false -> yl
open List renaming getElem?_eq_some_iff -> O0, length_map -> O1, getElem?_eq_getElem -> O2, mem_cons_of_mem -> O4, length_append -> O6, getElem?_append_left -> O7, size_toArray -> O8, map_cons -> D2, getElem?_append_right -> D4, length_cons -> D5, mem_cons -> D6, getElem?_map -> D7, getD_eq_getElem?_getD -> D9, mem_append -> E2, mem_of_getElem? -> E3, map_append -> E4, getElem?_set_ne -> E5, getElem?_set_self -> E8, mem_append_right -> E9, mem_map -> F0, foldl_cons -> F1, mem_cons_self -> F2, length_range -> F3, all_eq_true -> F4, getElem_of_mem -> F8, length_set -> F9, mem_append_left -> G6, getElem_mem -> G9
open PySem.Heap renaming get?_push_of_some -> O3, lt_size -> D0, get?_push_size -> D1, get?_update_other -> F5, size_push -> F7, get?_update_self -> G8
open Nat renaming le_refl -> O5, lt_of_lt_of_le -> O9, ne_of_lt -> D8, le_trans -> E1, zero_le -> F6, lt_irrefl -> L0, sub_self -> L1
open Bool renaming false_ne_true -> D3, and_eq_true -> E6, false_eq_true -> E7, false_and -> G7
open PySem renaming Value -> aA, Addr -> aB, Shared -> aC, wpAny_bind -> aD, wpAny -> aF, Expr -> aH, model -> aI, World -> aJ, Program -> aK, Around -> aL, Stmt -> aM, starEach -> aN, eval -> aO, FuncData -> aP, cLine -> aQ, Paired -> aR, compareOp -> aS, rawInt -> aU, SetTable -> aV, mainGlobals -> aW, bootBuiltins -> aX, backTo -> aY, binaryOp -> aZ, wpAny_holding -> ae, wpAny_call_entry -> af, pyNext -> ag, cellsFrom -> ah, sysModules -> ak, wpAny_mono -> ao, wpAny_newObj_type -> aq, holding -> ar, NameKind -> au, assignEach -> av, wpAny_field -> aw, codeAny_builtin -> ay, wpAny_ite_split -> az, wpAny_seqItems -> bA, wpAny_truthy_bool -> bB, wpAny_typeOf -> bC, attributeBase -> bD, call_meets -> bE, plainId_quiet -> bF, wpAny_passesOwn -> bG, foldedSetIterable -> bH, sliceBounds -> bI, valueAt -> bJ, wpAny_isInstance -> bK, wpAny_pyIter_tuple -> bL, behindInMarks -> bM, isSubtype_type -> bN, wpAny_setField_rec -> bO, wpAny_rule -> bP, codeAny_mono -> bQ, raiseNew -> bR
open PySem.W renaming Frag -> bW, nsIn -> bg, fnOf -> br, mg_of -> bu, mg_none_of -> bw, kia_one -> cF, excIn -> cL, keepIn -> cX, codeIn -> cs, hideAll -> dq, hideAll_get -> du, instObj -> eY, methodObj -> eZ, lookIn -> em, kitOne -> fA, cellsFrom_some -> fC, OpenLaw -> fI, of_hideAll -> fo, hideAll_none -> fq, plainGet -> fu, findIn -> fv, kitx_list -> fw, kitx_dict -> fx, WalkO -> gK
open List renaming range -> bX, replicate -> ba, map_map -> bt, any_cons -> bz, toArray -> cB, append_nil -> cC, all_map -> cG, mem_range -> cH, all_cons -> cI, foldl -> cJ, lookup_cons -> cK, length_take -> cN, find?_cons -> cQ, nodup_append -> cS, filterMap_cons -> cW, nodup_cons -> cY, map_congr_left -> cZ, nodup_nil -> ca, ext_getElem? -> ce, pairwise_cons -> cf, mem_filter -> cp, length_nil -> cu, length_drop -> cv, replicate_succ -> cw, getElem?_eq_none -> cz, any_eq_true -> dA, mem_flatMap -> dC, any_eq_false -> dF, length -> dG, flatten_cons -> dI, append_assoc -> dJ, filter_cons -> dP, prefix_refl -> dS, set_append_right -> dU, any_map -> dW, mem_filterMap -> dY, reverse_cons -> dg, zip_cons_cons -> dw, getD -> eB, pairwise_iff_getElem -> eF, foldl_append -> eI, not_mem_nil -> eJ, getElem?_cons_succ -> eL, take_length -> eN, length_reverse -> eO, prefix_append -> eP, drop_zero -> eQ, cons_lt_cons_iff -> eU, length_flatMap -> eV, map_const' -> eW, sum_replicate_nat -> eX, of_mem_zip -> fB, forIn_cons -> fJ, range_succ_eq_map -> fL, Pairwise -> fP, pairwise_map -> fQ, take_append_drop -> fS, find? -> fT, find?_some -> fU, mem_of_find?_eq_some -> fV, getElem?_range -> fW, drop_length -> fb, eq_nil_of_length_eq_zero -> fc, ext_getElem -> fh, cons_append -> fj, getElem?_replicate -> gB, take_sublist -> gC, filterMap_map -> gE, map_nil -> gF, length_singleton -> gI, nil_append -> gJ, isEmpty_toArray -> gP, isEmpty_iff -> gQ, forIn_nil -> gT, mem_of_mem_drop -> gn, length_eq_zero_iff -> gq, length_eraseIdx_of_lt -> gr, getElem?_toArray -> gu, length_pos_of_mem -> hZ, length_erase_of_mem -> iA, mem_erase_of_ne -> iB, getElem?_take -> iC, getElem?_drop -> iD, perm_ext_iff_of_nodup -> iG, map_take -> iJ, map_drop -> iK, take_succ -> iM, getElem?_set -> iP, drop_eq_getElem_cons -> iR, take_of_length_le -> iX, find?_isSome -> iY, map_set -> iZ, zipIdx_cons -> ib, mem_zipIdx_iff_getElem? -> ic, map_inj_right -> ie, map_flatMap -> ig, length_filter_le -> ii, length_zipIdx -> ij, flatMap_cons -> ik
open PySem.Value renaming ref -> bY, none -> bZ, type -> bi, bool -> dE, int -> di, str -> dj, builtin -> dl, isInt -> fe, isStrOf -> fg, float -> fk, notImplemented -> gD
open Array renaming length_toList -> bc, getElem?_toList -> be, getElem?_eq_getElem -> bh, getElem?_eq_some_iff -> cA, getElem?_eq_none -> cb, getD_eq_getD_getElem? -> dO, getD -> dR, forIn_toList -> dm, toList -> ee, mem_toList_iff -> eu, getElem?_replicate -> fX, append_assoc -> ft, getElem?_setIfInBounds_ne -> gU, perm_iff_toList_perm -> gY, foldl_toList -> iF, filterMap -> iI, toList_inj -> iN
open Option.some renaming inj -> bj
open PySem renaming boot_len -> bn, mem_of_lookup -> cO, Env -> eR, call -> fG, Within -> fm, list_append -> gH, seqSlot_of -> gN
open Int renaming toNat_natCast -> bo, toNat_of_nonneg -> fM, emod_lt_of_pos -> hU, emod_nonneg -> hW
open PySem.Obj renaming mapSeq -> bp, mapFields -> cy, data_mapFields -> dL, putSet -> df, isFreed_of_fields -> fK, cls_mapFields -> gL
open Prod renaming fst -> bq, snd -> cT, ext -> dZ
open PySem.Str renaming empty -> bx, ofString -> cP
open Nat renaming ne_of_gt -> cE, le_of_lt -> cr, lt_succ_of_lt -> cx, lt_succ_self -> dM, le_succ -> dN, add_assoc -> dn, mul_comm -> dz, le_of_eq -> eA, mod_lt -> eH, le_of_lt_succ -> eK, add_sub_cancel -> fO, pow_succ -> fR, eq_zero_or_pos -> fZ, not_lt -> gM, lt_trans -> gX, not_lt_zero -> gm, succ_pos -> gw, zero_add -> gy, div_div_eq_div_mul -> gz, add_zero -> hX, sub_zero -> iQ, le_total -> iU, min_eq_left -> iV, min_eq_right -> iW
open List.Perm renaming refl -> cM, swap -> eG, append_left -> iq, cons_inv -> iu
open Bool renaming true_and -> cU, not_true -> cV, bne_false -> dB, or_false -> dH, and_false -> dh, false_or -> eC, true_or -> fN, eq_iff_iff -> fi, or_eq_true_iff -> gO, not_false -> iH, not_eq_true -> ia
open List.cons renaming inj -> cg, injEq -> iO
open Sum renaming inl -> cj, inr -> cm
open PyProof.Rows renaming callWith_type1 -> dX, slot_tuple_getitem -> dy, envOfC -> eT, callWith_builtin1 -> il, lt_int -> im, is_bool -> io, isnot_bool -> ip
open Option renaming isSome_map -> da, isNone -> eM, isSome_iff_exists -> fy, getD_none -> gG, isSome_some -> gS, bind -> iE, bind_some -> iT
open Array.Perm renaming refl -> db
open PySem.F renaming slot_dict_keyiterator_next -> eD, plain_list_iadd -> eE, slot_tuple_add -> fD, entry_tuple_add -> fE, args_tuple_add_2 -> fF, excBase_ValueError -> gW, slot_dict_iter -> gZ, entry_dict_keyiterator_next -> gc, args_dict_keyiterator_next_1 -> gf, entry_proto_collect -> gi, plain_proto_collect -> gj, entry_list_iadd -> gk, slot_set_iter -> gt, plain_extend_loop -> gv, plainAttrs_list -> iS
open List.Pairwise renaming nil -> fH, imp_of_mem -> ir
open PyProof.Rows.F renaming plain_set_update_loop -> fY, entry_set_update_loop -> iL
noncomputable section
theorem bS {c:Prop}{h:Decidable c}(j:c){α:Sort _}{t e:α}:ite c t e=t:=if_pos j
theorem bT {c:Prop}{h:Decidable c}(j:¬c){α:Sort _}{t e:α}:ite c t e=e:=if_neg j
theorem bU {p:Prop}[i:Decidable p](h:¬p):decide p=yl:=decide_eq_false h
theorem bV {p:Prop}[i:Decidable p](h:p):decide p=yo:=decide_eq_true h
namespace L2
open PySem PySem.Spec PyProof.Rows
section
abbrev Key:=Sum Int Str
def Q54:Key->aA->Bool
 | .inl k,v=>fe k v
 | .inr x,v=>fg x v
def Qy1 (w:aJ):Key->Int
 | .inl k=>hashInt k
 | .inr x=>hashStr w x
theorem Z6:∀ {k:Key} {v:aA},Q54 k v=yo->(∃ i t,k=cj i/\v=di i t)\/(∃ x t,k=cm x/\v=dj x t)
 | .inl i,v,h=>by
  obtain ⟨t,e⟩:=Value.isInt_shape (k:=i) (v:=v) h;exact .inl ⟨i,t,rfl,e⟩
 | .inr x,v,h=>by
  obtain ⟨t,e⟩:=Value.isStrOf_shape (x:=x) (v:=v) h;exact .inr ⟨x,t,rfl,e⟩
theorem Q04 (i:Int) (t:Tok):Q54 (.inl i) (.int i t)=yo:=by simp [Q54,fe]
theorem Q03 (x:Str) (t:Tok):Q54 (.inr x) (.str x t)=yo:=by simp [Q54,fg]
theorem Qsa (a b:Int):decide ((cj a:Key)=cj b)=(a == b):=by
 by_cases e:a=b
 ·subst e; simp
 ·have h:¬ (cj a:Key)=cj b:=fun q=>e (Sum.inl.inj q)
  rw [bU h];exact (beq_eq_false_iff_ne.mpr e).symm
theorem Qs7 (a b:Str):decide ((cm a:Key)=cm b)=decide (a=b):=by
 by_cases e:a=b
 ·subst e; simp
 ·have h:¬ (cm a:Key)=cm b:=fun q=>e (Sum.inr.inj q)
  rw [bU h,bU e]
theorem Qs9 (a:Int) (b:Str):decide ((cj a:Key)=cm b)=yl:=bU (fun q=>nomatch q)
theorem Qs8 (a:Str) (b:Int):decide ((cm a:Key)=cj b)=yl:=bU (fun q=>nomatch q)
def Ym (prog:aK) (w:aJ):PySem.KeyKind prog w Key where
 is:=Q54
 hash:=Qy1 w
 inj:=fun v a b ha hb=>by
  rcases Z6 ha with ⟨i,t,rfl,rfl⟩ | ⟨x,t,rfl,rfl⟩
  ·rcases Z6 hb with ⟨j,u,rfl,e⟩ | ⟨y,u,rfl,e⟩
   ·injection e with e1 _; rw [e1]
   ·exact nomatch e
  ·rcases Z6 hb with ⟨j,u,rfl,e⟩ | ⟨y,u,rfl,e⟩
   ·exact nomatch e
   ·injection e with e1 _; rw [e1]
 byValue:=fun k v h=>by
  rcases Z6 h with ⟨i,t,rfl,rfl⟩ | ⟨x,t,rfl,rfl⟩ <;> rfl
 pyHash:=fun hv h=>by
  rcases Z6 hv with ⟨i,t,rfl,rfl⟩ | ⟨x,t,rfl,rfl⟩
  ·exact wpAny_pyHash_int h
  ·exact wpAny_pyHash_str h
 eqBool:=fun hu hv h=>by
  rcases Z6 hu with ⟨i,t,rfl,rfl⟩ | ⟨x,t,rfl,rfl⟩
  ·rcases Z6 hv with ⟨j,u,rfl,rfl⟩ | ⟨y,u,rfl,rfl⟩
   ·rw [Qsa] at h; exact wpAny_eqBool_int h
   ·rw [Qs9] at h; exact SeqAt.EqAt.int_str i t y u _ _ _ _ h
  ·rcases Z6 hv with ⟨j,u,rfl,rfl⟩ | ⟨y,u,rfl,rfl⟩
   ·rw [Qs8] at h; exact SeqAt.EqAt.str_int x t j u _ _ _ _ h
   ·rw [Qs7] at h; exact wpAny_eqBool_str h
 «strs»:=fun k x t v h=>by
  rcases Z6 h with ⟨i,u,rfl,e⟩ | ⟨y,u,rfl,e⟩
  ·exact nomatch e
  ·injection e with e1 _
   subst e1;cases v <;> rfl
inductive HK where
 | int (i:Int) | str (x:Str) | tup (l:List HK)
instance:DecidableEq HK:=fun _ _=>Classical.propDecidable _
mutual
def KIs (h:Heap):HK->aA->Prop
 | .int i,v=>∃ t,v=.int i t
 | .str x,v=>∃ t,v=.str x t
 | .tup l,v=>∃ a items,v=.ref a/\IsTup h a items/\KIsL h l items.toList
def KIsL (h:Heap):List HK->List aA->Prop
 | [],vs=>vs=[]
 | k :: l,vs=>∃ v r,vs=v :: r/\KIs h k v/\KIsL h l r
end
def Dp:Nat->HK->Prop
 | _,.int _=>True
 | _,.str _=>True
 | 0,.tup _=>False
 | d + 1,.tup l=>∀ k∈l,Dp d k
theorem KIsL.len {h:Heap}:∀ {l:List HK} {vs:List aA},KIsL h l vs->l.length=vs.length
 | [],_,r=>by cases r; rfl
 | k :: l,_,⟨v,r,e,_,q⟩=>by subst e; rw [D5,D5,q.len]
theorem KIsL.get {h:Heap}:∀ {l:List HK} {vs:List aA},KIsL h l vs->∀ (j:Nat) (h1:j < l.length) (h2:j < vs.length),KIs h l[j] vs[j]
 | [],_,_,j,h1,_=>by simp at h1
 | k :: l,_,⟨v,r,e,q,t⟩,0,h1,h2=>by subst e; exact q
 | k :: l,_,⟨v,r,e,q,t⟩,j + 1,h1,h2=>by subst e; exact t.get j (by simpa using h1) (by simpa using h2)
theorem KIsL.of {h h':Heap}:∀ {l:List HK} {vs:List aA},KIsL h l vs->(∀ k v,k∈l->KIs h k v->KIs h' k v)->KIsL h' l vs
 | [],_,r,_=>r
 | k :: l,_,⟨v,r,e,q,t⟩,f=>⟨v,r,e,f k v (by simp) q,t.of fun k v j=>f k v (O4 _ j)⟩
theorem KIs.keep {h h':Heap} (j:∀ a its,IsTup h a its->IsTup h' a its):∀ (d:Nat) {k:HK} {v:aA},Dp d k->KIs h k v->KIs h' k v
 | d,.int _,_,_,r=>r
 | d,.str _,_,_,r=>r
 | 0,.tup _,_,p,_=>p.elim
 | d + 1,.tup l,_,p,⟨a,its,e,i,r⟩=>⟨a,its,e,j a its i,r.of fun k v hm=>KIs.keep j d (p k hm)⟩
theorem Qfd {h:Heap} {a:aB} {x y:Array aA} (p:IsTup h a x) (q:IsTup h a y):x=y:=by
 obtain ⟨o,h1,h2,n,I⟩:=p;obtain ⟨o',j,g2,J,z⟩:=q;rw [h1] at j; cases j;rw [I] at z; cases z; rfl
theorem KIs.inj {h:Heap}:∀ (d:Nat) {x y:HK} {v:aA},Dp d x->Dp d y->KIs h x v->KIs h y v->x=y:=by
 intro d
 induction d with
 | zero=>
  intro x y v dx z p q;cases x with
  | tup l=>exact dx.elim
  | int i=>
   obtain ⟨t,rfl⟩:=p;cases y with
   | tup l=>exact z.elim
   | int j=>obtain ⟨u,e⟩:=q; cases e; rfl
   | str j=>obtain ⟨u,e⟩:=q; cases e
  | str i=>
   obtain ⟨t,rfl⟩:=p;cases y with
   | tup l=>exact z.elim
   | int j=>obtain ⟨u,e⟩:=q; cases e
   | str j=>obtain ⟨u,e⟩:=q; cases e; rfl
 | succ d I=>
  intro x y v dx z p q;cases x with
  | int i=>
   obtain ⟨t,rfl⟩:=p;cases y with
   | tup l=>obtain ⟨_,_,e,_⟩:=q; cases e
   | int j=>obtain ⟨u,e⟩:=q; cases e; rfl
   | str j=>obtain ⟨u,e⟩:=q; cases e
  | str i=>
   obtain ⟨t,rfl⟩:=p;cases y with
   | tup l=>obtain ⟨_,_,e,_⟩:=q; cases e
   | int j=>obtain ⟨u,e⟩:=q; cases e
   | str j=>obtain ⟨u,e⟩:=q; cases e; rfl
  | tup l=>
   obtain ⟨a,its,rfl,O,p2⟩:=p;cases y with
   | int j=>obtain ⟨u,e⟩:=q; cases e
   | str j=>obtain ⟨u,e⟩:=q; cases e
   | tup m=>
    obtain ⟨b,J,e,q1,q2⟩:=q;cases e;have e:=Qfd O q1;subst e;have Z:=p2.len;have Y:=q2.len;congr 1;refine fh (by omega) fun j h1 h2=>?_
    exact I (dx _ (G9 h1)) (z _ (G9 h2)) (p2.get j h1 (by omega)) (q2.get j h2 (by omega))
theorem Qnx {α:Type} [DecidableEq α] (d:α) (xs ys:List α):((bX (min xs.length ys.length)).all (fun j=>decide (xs.getD j d=ys.getD j d)) && xs.length == ys.length)=decide (xs=ys):=by
 rw [fi];simp only [E6,F4,cH,decide_eq_true_eq,beq_iff_eq];constructor
 ·rintro ⟨h,e⟩;refine fh e fun i h1 h2=>?_
  have:=h i (by omega);simpa [D9,h1,h2] using this
 ·rintro rfl;simp
section
variable {prog:aK} {w:aJ}
mutual
def hkH (prog:aK) (w:aJ):HK->Int
 | .int i=>(Ym prog w).hash (.inl i)
 | .str x=>(Ym prog w).hash (.inr x)
 | .tup l=>reduceHash (Builtin.Tuple.tupleHashOf (hkHL prog w l))
def hkHL (prog:aK) (w:aJ):List HK->List Int
 | []=>[]
 | k :: l=>hkH prog w k :: hkHL prog w l
end
mutual
def hkD:HK->Nat
 | .int _=>1
 | .str _=>1
 | .tup l=>hkDL l + 1
def hkDL:List HK->Nat
 | []=>0
 | k :: l=>hkD k + hkDL l
end
theorem Qi7 (l:List HK):hkHL prog w l=l.map (hkH prog w):=by
 induction l with
 | nil=>rfl
 | cons k l j=>rw [hkHL,j]; rfl
theorem Qi8 (l m:List HK):hkDL (l ++ m)=hkDL l + hkDL m:=by
 induction l with
 | nil=>simp [hkDL]
 | cons k l j=>rw [fj,hkDL,hkDL,j]; omega
variable {A:aL} {E:aA->aC->Prop}
theorem Qnw (xs ys:List HK):((bX (min xs.length ys.length)).all (fun j=>decide (xs.getD j (.int 0)=ys.getD j (.int 0))) && xs.length == ys.length)=decide (xs=ys):=Qnx (.int 0) xs ys
theorem Qnc:∀ (d:Nat) {A:aL} {s:aC} {k:HK} {v:aA} {Q:Int->aC->Prop},Dp d k->A.units + d < aQ->KIs s.heap k v->Q (hkH prog w k) { s with toks:=s.toks + hkD k } ->
  aF (aI prog w) A (pyHash v) Q E s:=by
 intro d
 induction d with
 | zero=>
  intro A s k v Q O hu r q;cases k with
  | tup l=>exact O.elim
  | int i=>obtain ⟨t,rfl⟩:=r; exact (Ym prog w).pyHash (k:=.inl i) (Q04 i t) q
  | str i=>obtain ⟨t,rfl⟩:=r; exact (Ym prog w).pyHash (k:=.inr i) (Q03 i t) q
 | succ d ih=>
  intro A s k v Q O hu r q;cases k with
  | int i=>obtain ⟨t,rfl⟩:=r; exact (Ym prog w).pyHash (k:=.inl i) (Q04 i t) q
  | str i=>obtain ⟨t,rfl⟩:=r; exact (Ym prog w).pyHash (k:=.inr i) (Q03 i t) q
  | tup ks=>
   obtain ⟨a,Y,rfl,⟨o,ho,hc,n,hd⟩,hi⟩:=r;have hT:s.TypeIs (.ref a) "tuple" := ⟨o,ho,hc⟩;have a1:A.units < aQ:=by omega
   unfold pyHash;unfold pyHashByItsType;have nb:¬ (zo (dl "tuple.__hash__") == zo bZ)=yo:=by rw [beq_builtin_none]; exact D3
   have sp {Q:Option aA->aC->Prop} (h:Q (zo (.builtin "tuple.__hash__")) s):aF (aI prog w) A (specialOf (.ref a) "__hash__") Q E s:=wpAny_specialOf hT F.slot_tuple_hash.lookup h;refine aD (wpAny_cRoomFor_or (.inr a1) (aD (sp ?_)));show aF _ _ (if (zo (dl "tuple.__hash__") == zo bZ)=yo then _ else _) _ _ _;rw [bT nb];refine aD (sp (aD (wpAny_callSpecialIfBoundUnlessNone?_slot hT F.slot_tuple_hash (af F.slot_tuple_hash hT F.entry_tuple_hash ?_ (F.args_tuple_hash_1 _)))));show aF _ A.in1 (Builtin.Tuple.tupleItemsOf (.ref a) >>= _) _ _ s;refine aD (wpAny_tupleItemsOf ho hd (aD ?_));rw [<- dm];have Z:A.in1.units + d < aQ:=by show A.units + 1 + d < aQ; omega
   refine wpAny_forIn_list _ (fun rest (b:Array Int) s'=>∃ j I,ks=j ++ I/\KIsL s.heap I rest/\b.toList=j.map (hkH prog w)/\s'={ s with toks:=s.toks + hkDL j }) _ ?_ ?_ _ _ ⟨[],ks,rfl,hi,rfl,rfl⟩
   ·rintro x rest b s' ⟨j,I,rfl,J,hb,rfl⟩;cases I with
    | nil=>cases J
    | cons k I=>
     obtain ⟨v,r,e,h1,h2⟩:=J;cases e;refine aD (ih (s:={ s with toks:=s.toks + hkDL j }) (O k (by simp)) Z h1 ?_);exact wpAny_pure ⟨j ++ [k],I,by simp,h2,by simp [hb],by simp [Qi8,hkDL,dn]⟩
   ·rintro b s' ⟨j,I,rfl,J,hb,rfl⟩;cases I with
    | cons k I=>obtain ⟨_,_,e,_⟩:=J; cases e
    | nil=>
     rw [cC] at q;show aF _ _ (retInt (Builtin.Tuple.tupleHashOf b.toList)) _ _ _;rw [hb,<- Qi7];refine wpAny_ret_mkInt ?_;have q:Q (reduceHash (Builtin.Tuple.tupleHashOf (hkHL prog w j))) { s with toks:=s.toks + (hkDL j + 1) }:=q;generalize Builtin.Tuple.tupleHashOf (hkHL prog w j)=z at *;show aF _ _ (if (decide (-(2:Int) ^ 63<=z) && decide (z < 2 ^ 63))=yo then _ else _) Q E _;unfold reduceHash at q
     split
     ·rename_i hr;rw [bS hr] at q;exact wpAny_pure (by simpa [dn] using q)
     ·rename_i hr;rw [bT hr] at q;exact aD (bP (wpAny_pure (by simpa [dn] using q)))
theorem Qvd:∀ (d:Nat) {A:aL} {s:aC} {x y:HK} {u v:aA},Dp d x->Dp d y->A.units + d < aQ->KIs s.heap x u->KIs s.heap y v->SeqAt.EqAt A s u v (decide (x=y)):=by
 intro d;have J:∀ {A:aL} {s:aC} {x y:HK} {u v:aA},(∀ l,x≠.tup l)->(∀ l,y≠.tup l)->KIs s.heap x u->KIs s.heap y v->SeqAt.EqAt A s u v (decide (x=y)):=by
  intro A s x y u v nx ny p q;cases x with
  | tup l=>exact absurd rfl (nx l)
  | int i=>
   obtain ⟨t,rfl⟩:=p;cases y with
   | tup l=>exact absurd rfl (ny l)
   | int j=>
    obtain ⟨t',rfl⟩:=q;have:=SeqAt.EqAt.int_int (A:=A) (s:=s) i t j t'
    rwa [show (i == j)=decide (HK.int i=HK.int j) by by_cases e:i=j <;> simp [e]] at this
   | str j=>
    obtain ⟨t',rfl⟩:=q;rw [bU (by simp)];exact SeqAt.EqAt.int_str _ _ _ _
  | str i=>
   obtain ⟨t,rfl⟩:=p;cases y with
   | tup l=>exact absurd rfl (ny l)
   | int j=>
    obtain ⟨t',rfl⟩:=q;rw [bU (by simp)];exact SeqAt.EqAt.str_int _ _ _ _
   | str j=>
    obtain ⟨t',rfl⟩:=q;have:=SeqAt.EqAt.str_str (A:=A) (s:=s) i t j t'
    rwa [show (i == j)=decide (HK.str i=HK.str j) by by_cases e:i=j <;> simp [e]] at this
 induction d with
 | zero=>
  intro A s x y u v dx Y hu p q;exact J (fun l e=>by subst e; exact dx) (fun l e=>by subst e; exact Y) p q
 | succ d ih=>
  intro A s x y u v dx Y hu p q;have I:A.units < aQ:=by omega
  cases x with
  | tup l=>
   obtain ⟨a,its,rfl,O,p2⟩:=p;cases y with
   | int j=>
    obtain ⟨t',rfl⟩:=q;rw [bU (by simp)];exact SeqAt.EqAt.tuple_int _ _ O I
   | str j=>
    obtain ⟨t',rfl⟩:=q;rw [bU (by simp)];exact SeqAt.EqAt.tuple_str _ _ O I
   | tup m=>
    obtain ⟨b,z,rfl,q1,q2⟩:=q
    by_cases e:a=b
    ·subst e;have e:=KIs.inj (d + 1) (h:=s.heap) dx Y ⟨a,its,rfl,O,p2⟩ ⟨a,z,rfl,q1,q2⟩;rw [bV e];exact SeqAt.EqAt.same _
    ·have l1:=p2.len;have l2:=q2.len;have he:∀ j (h1:j < its.size) (h2:j < z.size),SeqAt.EqAt A.in1 s its[j] z[j] (decide (l.getD j (.int 0)=m.getD j (.int 0))):=fun j h1 h2=>by
      have k1:j < l.length:=by rw [l1,bc]; exact h1
      have k2:j < m.length:=by rw [l2,bc]; exact h2
      have e1:l.getD j (.int 0)=l[j]:=by rw [D9,O2 k1]; rfl
      have e2:m.getD j (.int 0)=m[j]:=by rw [D9,O2 k2]; rfl
      rw [e1,e2];exact ih (dx _ (G9 k1)) (Y _ (G9 k2)) (by show A.units + 1 + d < aQ; omega) (p2.get j k1 (by simpa using h1)) (q2.get j k2 (by simpa using h2))
     have Z:=SeqAt.RcAt.tuples O q1 I he;have s1:its.size=l.length:=by rw [l1,bc]
     have s2:z.size=m.length:=by rw [l2,bc]
     rw [s1,s2,Qnw] at Z;exact SeqAt.EqAt.of_refs e (by simpa using Z)
  | int i=>
   cases y with
   | tup m=>
    obtain ⟨t',rfl⟩:=p;obtain ⟨b,z,rfl,q1,q2⟩:=q;rw [bU (by simp)];exact SeqAt.EqAt.int_tuple _ _ q1 I
   | _=>exact J (by simp) (by simp) p q
  | str i=>
   cases y with
   | tup m=>
    obtain ⟨t',rfl⟩:=p;obtain ⟨b,z,rfl,q1,q2⟩:=q;rw [bU (by simp)];exact SeqAt.EqAt.str_tuple _ _ q1 I
   | _=>exact J (by simp) (by simp) p q
theorem Qi4:∀ (d:Nat) {A:aL} {s:aC} {k:HK} {v:aA} {Q:Bool->aC->Prop} (m:Nat),d < m->Dp d k->KIs s.heap k v->Q yo s->aF (aI prog w) A (eqIsQuiet m v) Q E s:=by
 intro d;have j:∀ {A:aL} {s:aC} {v:aA} {Q:Bool->aC->Prop} (m:Nat),carriedByValue v=yo->Q yo s->aF (aI prog w) A (eqIsQuiet m v) Q E s:=by
  intro A s v Q m hv q;rw [eqIsQuiet_byValue m hv];exact wpAny_pure q
 induction d with
 | zero=>
  intro A s k v Q m hm J r q;cases k with
  | tup l=>exact J.elim
  | int i=>obtain ⟨t,rfl⟩:=r; exact j m rfl q
  | str i=>obtain ⟨t,rfl⟩:=r; exact j m rfl q
 | succ d ih=>
  intro A s k v Q m hm J r q;cases k with
  | int i=>obtain ⟨t,rfl⟩:=r; exact j m rfl q
  | str i=>obtain ⟨t,rfl⟩:=r; exact j m rfl q
  | tup ks=>
   obtain ⟨a,I,rfl,⟨o,Y,hc,n,hd⟩,hi⟩:=r;have Z:s.TypeIs (.ref a) "tuple" := ⟨o,Y,hc⟩;obtain ⟨m,rfl⟩:∃ m',m=m' + 1:=⟨m - 1,by omega⟩;unfold eqIsQuiet;refine aD (wpAny_specialOf Z F.slot_tuple_eq.lookup ?_);show aF _ _ (isInstance (.ref a) (.type "tuple") >>= _) _ _ s;refine aD (bK Z isSubtype_tuple_tuple ?_);simp only [cV,E7,if_false];refine aD (bA Y hd (aD ?_));show aF _ _ (forIn I _ _) _ _ s;rw [<- dm];refine wpAny_forIn_list _ (fun rest r s'=>r.1=zb/\s'=s/\∃ l,KIsL s.heap l rest/\∀ k∈l,k∈ks) _ ?_ ?_ _ _ ⟨rfl,rfl,ks,hi,fun _ h=>h⟩
   ·rintro v rest r s' ⟨O,rfl,l,hl,z⟩;cases l with
    | nil=>cases hl
    | cons k l=>
     obtain ⟨v',r',e,h1,h2⟩:=hl;cases e;refine aD (ih m (by omega) (J k (z k (by simp))) h1 ?_);simp only [cV,E7,if_false];exact wpAny_pure ⟨rfl,rfl,l,h2,fun x hx=>z x (O4 _ hx)⟩
   ·rintro ⟨r1,r2⟩ s' ⟨O,rfl,_⟩;simp only at O;subst O;exact wpAny_pure q
def nk (prog:aK) (w:aJ):HeapKind prog w HK where
 is:=fun h k a=>KIs h k (.ref a)/\Dp 5 k
 hash:=hkH prog w
 draws:=hkD
 room:=fun A=>A.units + 5 < aQ
 inj:=fun hx hy=>KIs.inj 5 hx.2 hy.2 hx.1 hy.1
 keeps:=fun {h h' k a d o es ep} x ho hd hs=>⟨KIs.keep (fun b its ⟨ob,h1,h2,n,h3⟩=>⟨ob,(hs.2 b fun e=>by
  subst e;rw [ho] at h1; cases h1;rw [hd] at h3; cases h3).trans h1,h2,n,h3⟩) 5 x.2 x.1,x.2⟩
 pyHash:=fun hu hk h=>Qnc 5 hk.2 hu hk.1 h
 eqBool:=fun hu hx hy h=>Qvd 5 hx.2 hy.2 hu hx.1 hy.1 prog w _ _ h
 quiet:=fun hk h=>Qi4 5 8 (by decide) hk.2 hk.1 h
end
theorem Q8v (prog:aK) (w:aJ) (i:Int) (t:Tok):(Ym prog w).is (.inl i) (.int i t)=yo:=Q04 i t
theorem Q8u (prog:aK) (w:aJ) (x:Str) (t:Tok):(Ym prog w).is (.inr x) (.str x t)=yo:=Q03 x t
end
inductive V where
 | non | bl (b:Bool) | int (i:Int) | str (x:Str) | byt (b:Array UInt8) | flt (b:UInt64) | ref (a:aB) | ty (n:String)
 deriving DecidableEq
def RelV:V->aA->Prop
 | .non,u=>u=bZ
 | .bl b,u=>u=dE b
 | .int i,u=>∃ t,u=di i t
 | .str x,u=>∃ t,u=dj x t
 | .byt b,u=>∃ t,u=Value.bytes b t
 | .flt b,u=>∃ t,u=fk b t
 | .ref a,u=>u=bY a
 | .ty n,u=>u=bi n
abbrev Vals:List V->List aA->Prop:=aR RelV
theorem Vals.length {xs:List V} {j:List aA} (r:Vals xs j):xs.length=j.length:=Paired.length r
theorem Vals.get:∀ {xs:List V} {j:List aA} {i:Nat} {x:V},Vals xs j->xs[i]?=zo x->∃ u,j[i]?=zo u/\RelV x u
 | _,_,_,_,.nil,e=>by simp at e
 | _,_,0,_,.cons r _,e=>by simp at e; subst e; exact ⟨_,rfl,r⟩
 | _,_,i + 1,x,.cons _ t,e=>by
  obtain ⟨u,h1,h2⟩:=Vals.get (i:=i) (x:=x) t (by simpa using e);exact ⟨u,by simpa using h1,h2⟩
theorem Vals.set {x:V} {u:aA} (r:RelV x u):∀ {xs:List V} {j:List aA} (i:Nat),Vals xs j->Vals (xs.set i x) (j.set i u)
 | _,_,_,.nil=>.nil
 | _,_,0,.cons _ t=>.cons r t
 | _,_,i + 1,.cons q t=>.cons q (Vals.set r i t)
theorem Vals.append:∀ {xs ys:List V} {j ws:List aA},Vals xs j->Vals ys ws->Vals (xs ++ ys) (j ++ ws)
 | _,_,_,_,.nil,s=>s
 | _,_,_,_,.cons r t,s=>.cons r (Vals.append t s)
theorem Vals.take:∀ {xs:List V} {j:List aA} (n:Nat),Vals xs j->Vals (xs.take n) (j.take n)
 | _,_,0,_=>.nil
 | _,_,_ + 1,.nil=>.nil
 | _,_,n + 1,.cons r t=>.cons r (Vals.take n t)
theorem Vals.drop:∀ {xs:List V} {j:List aA} (n:Nat),Vals xs j->Vals (xs.drop n) (j.drop n)
 | _,_,0,r=>r
 | _,_,_ + 1,.nil=>.nil
 | _,_,n + 1,.cons _ t=>Vals.drop n t
def RelO:Option V->Option aA->Prop
 | some v,zo u=>RelV v u
 | none,zb=>True
 | _,_=>False
def KV {κ:Type}:List (κ × V)->List (κ × aA)->Prop:=aR fun (p:κ × V) (q:κ × aA)=>p.1=q.1/\RelV p.2 q.2
def kV:Key->V
 | .inl i=>.int i
 | .inr x=>.str x
inductive HO where
 | lst (xs:List V)
 | tup (xs:List V)
 | dK (kvs:List (Key × V)) | dT (kvs:List (HK × V))
 | set (S:Int->Bool) (n:Nat)
 | ins (C dx:aB) (fs:List (Str × V))
 | own (x:aB)
 | xd (fs:List (Str × V))
 | met (f x:aB)
 | rng (lo hi:Int)
 | frz (o:Obj) (u:HO)
 | tbl (ps:Array aA)
 | ext (φ:Heap->Prop)
abbrev Hp:=aB->Option HO
def upd (H:Hp) (a:aB) (o:HO):Hp:=fun b=>if b=a then zo o else H b
theorem J3 {H:Hp} {a:aB} {o:HO}:upd H a o a=zo o:=by unfold upd; rw [bS rfl]
theorem Qg {H:Hp} {a b:aB} {o:HO} (h:b≠a):upd H a o b=H b:=by unfold upd; rw [bT h]
theorem Qhb {H:Hp} {a b:aB} {o u:HO} (h:H a=zo o) (h':H b=zo u) (d:o≠u):a≠b:=by
 intro e; subst e; rw [h] at h'; exact d (bj h')
theorem Qh {H:Hp} {a b:aB} {o:HO} (h:H a=zo o) (h':H b=zb):a≠b:=by
 intro e; subst e; rw [h] at h'; cases h'
mutual
def KAt (H:Hp):HK->V->Prop
 | .int i,v=>v=.int i
 | .str x,v=>v=.str x
 | .tup l,v=>∃ a vs,v=.ref a/\H a=zo (.tup vs)/\KAtL H l vs
def KAtL (H:Hp):List HK->List V->Prop
 | [],vs=>vs=[]
 | k :: l,vs=>∃ v r,vs=v :: r/\KAt H k v/\KAtL H l r
end
mutual
theorem KAt.keep {H H':Hp} (j:∀ b xs,H b=zo (.tup xs)->H' b=zo (.tup xs)):∀ {k:HK} {v:V},KAt H k v->KAt H' k v
 | .int _,_,r=>r
 | .str _,_,r=>r
 | .tup _,_,⟨a,vs,e,h,r⟩=>⟨a,vs,e,j a vs h,KAtL.keep j r⟩
theorem KAtL.keep {H H':Hp} (j:∀ b xs,H b=zo (.tup xs)->H' b=zo (.tup xs)):∀ {l:List HK} {vs:List V},KAtL H l vs->KAtL H' l vs
 | [],_,r=>r
 | _ :: _,_,⟨v,r,e,h,t⟩=>⟨v,r,e,KAt.keep j h,KAtL.keep j t⟩
end
def KR (H:Hp) (k:HK) (b:aB):Prop:=KAt H k (.ref b)/\Dp 5 k
theorem KR.keep {H H':Hp} {k:HK} {b:aB} (r:KR H k b) (j:∀ b xs,H b=zo (.tup xs)->H' b=zo (.tup xs)):KR H' k b:=⟨r.1.keep j,r.2⟩
section
variable (P:aK) (w:aJ)
def ObjOk (H:Hp) (h:Heap) (a:aB):HO->Prop
 | .lst xs=>xs.length<=sizeLine/\∃ (its:List aA) (n:Nat),Vals xs its/\h.get? a=zo { cls:=.type "list",data:=.seq its.toArray n }
 | .tup xs=>xs.length<=sizeLine/\∃ its:List aA,Vals xs its/\IsTup h a its.toArray
 | .dK kvs=>kvs.length<=sizeLine/\(a == ak)=yl/\∃ vs,KV kvs vs/\h.DictOf (Ym P w) a vs
 | .dT kvs=>kvs.length<=sizeLine/\(a == ak)=yl/\∃ xs:List (HK × aB × aA),
   aR (fun (p:HK × V) (q:HK × aB × aA)=>p.1=q.1/\KR H p.1 q.2.1/\RelV p.2 q.2.2) kvs xs /\
   ∃ o es ep,h.get? a=zo o/\o.ExactDict/\o.data=.dict es ep/\es.toList=xs.map (entryOfKey (nk P w))/\(xs.map (·.1)).Nodup
 | .set S n=>h.SetOf (intKind P w) a S n
 | .ins C dx fs=>H dx=zo (.own a)/\fs.length<=1000/\dx≠a/\h.get? a=zo (eY C dx) /\
   ∃ mA,h.Ns1 dx mA/\(∀ f,RelO (fs.lookup f) (mA f))/\fm mA (fs.map (·.1))
 | .own _=>∃ o,h.get? a=zo o
 | .xd fs=>∃ mA,h.Ns1 a mA/\∀ f,RelO (fs.lookup f) (mA f)
 | .rng lo hi=>∃ t u v,h.get? a=zo { cls:=.type "range",data:=.fields #[.int lo t,.int hi u,.int 1 v] }
 | .frz o u=>h.get? a=zo o/\ObjOk H h a u
 | .tbl ps=>h.get? a=zo { cls:=.none,data:=.fields ps }
 | .met f x=>h.get? a=zo (eZ (.ref f) (.ref x))
 | .ext φ=>φ h/\(∃ o,h.get? a=zo o)/\∀ h1 h2:Heap,φ h1->(∀ o,h1.get? a=zo o->h2.get? a=zo o)->φ h2
def HOk (H:Hp) (h:Heap):Prop:=∀ a o,H a=zo o->ObjOk P w H h a o
end
section
variable {P:aK} {w:aJ} {H H':Hp} {h h':Heap} {a:aB} {o:HO}
theorem ObjOk.lt (x:ObjOk P w H h a o):a < h.objs.size:=by
 cases o with
 | lst xs=>obtain ⟨_,_,_,_,e⟩:=x; exact D0 e
 | tup xs=>obtain ⟨_,_,_,p⟩:=x; exact p.lt
 | dK kvs=>obtain ⟨_,_,_,_,o,_,_,e,_⟩:=x; exact D0 e
 | dT kvs=>obtain ⟨_,_,_,_,o,_,_,e,_⟩:=x; exact D0 e
 | set S n=>obtain ⟨o,_,_,_,e,_⟩:=x; exact D0 e
 | ins C dx fs=>obtain ⟨_,_,_,e,_⟩:=x; exact D0 e
 | own y=>obtain ⟨_,e⟩:=x; exact D0 e
 | xd fs=>obtain ⟨_,⟨_,_,_,e,_⟩,_⟩:=x; exact D0 e
 | rng lo hi=>obtain ⟨_,_,_,e⟩:=x; exact D0 e
 | frz ob u=>obtain ⟨e,_⟩:=x; exact D0 e
 | tbl ps=>exact D0 (show h.get? a=zo _ from x)
 | met f y=>exact D0 (show h.get? a=zo _ from x)
 | ext j=>obtain ⟨_,⟨_,e⟩,_⟩:=x; exact D0 e
theorem Paired.mapP {α β:Type} {F G:α->β->Prop}:∀ {l₁:List α} {j:List β},aR F l₁ j->(∀ a b,F a b->G a b)->aR G l₁ j
 | _,_,.nil,_=>.nil
 | _,_,.cons r t,f=>.cons (f _ _ r) (Paired.mapP t f)
theorem ObjOk.stay (x:ObjOk P w H h a o) (k:∀ b u,(b=a\/H b=zo (.own a))->h.get? b=zo u->h'.get? b=zo u)
  (I:∀ b,H b=zo (.own a)->H' b=zo (.own a)) (O:∀ b xs,H b=zo (.tup xs)->H' b=zo (.tup xs)):ObjOk P w H' h' a o:=by
 induction o with
 | lst xs=>obtain ⟨z,its,n,r,e⟩:=x; exact ⟨z,its,n,r,k _ _ (.inl rfl) e⟩
 | tup xs=>obtain ⟨z,its,r,ob,e,c⟩:=x; exact ⟨z,its,r,ob,k _ _ (.inl rfl) e,c⟩
 | dK kvs=>obtain ⟨z,y,vs,r,ob,es,ep,e,c⟩:=x; exact ⟨z,y,vs,r,ob,es,ep,k _ _ (.inl rfl) e,c⟩
 | dT kvs=>
  obtain ⟨z,y,xs,r,ob,es,ep,e,c⟩:=x;exact ⟨z,y,xs,Paired.mapP r fun p q z=>⟨z.1,z.2.1.keep O,z.2.2⟩,ob,es,ep,k _ _ (.inl rfl) e,c⟩
 | set S n=>obtain ⟨ob,es,ep,t,e,c⟩:=x; exact ⟨ob,es,ep,t,k _ _ (.inl rfl) e,c⟩
 | ins C dx fs=>
  obtain ⟨d,z,ne,e,mA,⟨j,es,ep,e2,c⟩,r⟩:=x;exact ⟨I _ d,z,ne,k _ _ (.inl rfl) e,mA,⟨j,es,ep,k _ _ (.inr d) e2,c⟩,r⟩
 | own y=>obtain ⟨ob,e⟩:=x; exact ⟨ob,k _ _ (.inl rfl) e⟩
 | xd fs=>obtain ⟨mA,⟨j,es,ep,e,c⟩,r⟩:=x; exact ⟨mA,⟨j,es,ep,k _ _ (.inl rfl) e,c⟩,r⟩
 | rng lo hi=>obtain ⟨t,u,v,e⟩:=x; exact ⟨t,u,v,k _ _ (.inl rfl) e⟩
 | frz ob u J=>obtain ⟨e,q⟩:=x; exact ⟨k _ _ (.inl rfl) e,J q⟩
 | tbl ps=>
  have e:h.get? a=zo { cls:=.none,data:=.fields ps }:=x;show h'.get? a=zo { cls:=.none,data:=.fields ps };exact k a _ (.inl rfl) e
 | met f y=>
  have e:h.get? a=zo (eZ (.ref f) (.ref y)):=x;show h'.get? a=zo (eZ (.ref f) (.ref y));exact k a _ (.inl rfl) e
 | ext Y=>obtain ⟨p,⟨o,e⟩,st⟩:=x; exact ⟨st _ _ p fun o q=>k _ _ (.inl rfl) q,⟨o,k _ _ (.inl rfl) e⟩,st⟩
theorem HOk.lt (x:HOk P w H h) (e:H a=zo o):a < h.objs.size:=(x a o e).lt
theorem HOk.fresh (x:HOk P w H h) (e:h.objs.size<=a):H a=zb:=by
 cases q:H a with
 | none=>rfl
 | some u=>exact absurd (O9 (x.lt q) e) (L0 _)
theorem HOk.kept (x:HOk P w H h) (k:∀ b u,h.get? b=zo u->h'.get? b=zo u):HOk P w H h':=fun a o e=>
 (x a o e).stay (fun b u _ q=>k b u q) (fun _ q=>q) fun _ _ q=>q
theorem HOk.laid (x:HOk P w H h) (k:∀ b u,h.get? b=zo u->h'.get? b=zo u) (hp:h.objs.size<=a) (new:ObjOk P w (upd H a o) h' a o):HOk P w (upd H a o) h':=fun b u e=>by
 have z:=x.fresh hp
 by_cases j:b=a
 ·subst j; rw [J3] at e; cases e; exact new
 ·rw [Qg j] at e;exact (x b u e).stay (fun c v _ q=>k c v q) (fun c q=>by rw [Qg (Qh q z)]; exact q) fun c xs q=>by rw [Qg (Qh q z)]; exact q
end
def Rd (H:Hp) (a:aB) (u:HO):Prop:=H a=zo u\/∃ o,H a=zo (.frz o u)
theorem Rd.ok {P:aK} {w:aJ} {H:Hp} {h:Heap} {a:aB} {u:HO} (r:Rd H a u) (x:HOk P w H h):ObjOk P w H h a u:=by
 rcases r with r | ⟨o,r⟩
 ·exact x a u r
 ·obtain ⟨_,q⟩:=x a _ r;exact q
def Mut:Option HO->Prop
 | some (.lst _)=>True
 | some (.dK _)=>True
 | some (.dT _)=>True
 | some (.set _ _)=>True
 | some (.ins _ _ _)=>True
 | some (.ext _)=>True
 | _=>False
section
variable {P:aK} {w:aJ} {H:Hp} {h h':Heap} {x e:aB} {o':HO}
theorem HOk.write (ok:HOk P w H h) (Z:Mut (H x)) (he:e=x\/H e=zo (.own x)) (k:∀ b u,b≠e->h.get? b=zo u->h'.get? b=zo u) (a1:∃ u,h'.get? e=zo u)
  (new:ObjOk P w (upd H x o') h' x o'):HOk P w (upd H x o') h':=fun b u q=>by
 have I:∀ c y,H c=zo (.own y)->c≠x:=fun c y r z=>by subst z; rw [r] at Z; exact Z
 have J:∀ c xs,H c=zo (.tup xs)->c≠x:=fun c xs r z=>by subst z; rw [r] at Z; exact Z
 by_cases Y:b=x
 ·subst Y; rw [J3] at q; cases q; exact new
 ·rw [Qg Y] at q
  by_cases j:b=e
  ·have q':H b=zo (.own x):=by
    rcases he with z | z
    ·exact absurd (j.trans z) Y
    ·rw [j]; exact z
   rw [q] at q'; cases q';obtain ⟨v,hv⟩:=a1;exact ⟨v,by rw [j]; exact hv⟩
  ·refine (ok b u q).stay (fun c v O r=>k c v ?_ r) (fun c r=>by rw [Qg (I c b r)]; exact r) fun c xs r=>by rw [Qg (J c xs r)]; exact r
   rcases O with rfl | O
   ·exact j
   ·rintro rfl;rcases he with z | z
    ·exact I c b O z
    ·rw [O] at z; cases z; exact Y rfl
end
structure Un (fs ex:List aB) (H H':Hp) (h h':Heap):Prop where
 keep:∀ b o,h.get? b=zo o->H b=zb->b∉fs->b∉ex->h'.get? b=zo o
 slot:∀ b o,h.get? b=zo o->H b=zb->b∈fs->b∉ex->∃ sl,h'.get? b=zo { o with slots:=sl }
 free:∀ b o,h.get? b=zo o->H b=zb->b∉ex->H' b=zb
 there:∀ b o,h.get? b=zo o->b∉ex->∃ o',h'.get? b=zo o'
 tups:∀ b xs,H b=zo (.tup xs)->H' b=zo (.tup xs)
 frzs:∀ b o u,H b=zo (.frz o u)->H' b=zo (.frz o u)
 tbls:∀ b ps,H b=zo (.tbl ps)->∃ more,H' b=zo (.tbl (ps ++ more))
section
variable {fs fs' ex ex':List aB} {H H1 H2:Hp} {h h1 h2 h':Heap} {a x e:aB} {o:HO}
theorem Un.any (u:Un fs ex H H1 h h1) {b:aB} {ob:Obj} (q:h.get? b=zo ob) (n:H b=zb) (z:b∉ex):∃ I,h1.get? b=zo { ob with slots:=I }:=by
 by_cases j:b∈fs
 ·exact u.slot b ob q n j z
 ·exact ⟨ob.slots,u.keep b ob q n j z⟩
theorem Un.kept (k:∀ b u,h.get? b=zo u->h'.get? b=zo u):Un fs ex H H h h':=
 ⟨fun b ob q _ _ _=>k b ob q,fun b ob q _ _ _=>⟨ob.slots,k b ob q⟩,fun _ _ _ n _=>n,fun b ob q _=>⟨ob,k b ob q⟩,fun _ _ q=>q,fun _ _ _ q=>q,fun _ ps q=>⟨#[],by rw [q]; simp⟩⟩
theorem Un.refl:Un fs ex H H h h:=Un.kept fun _ _ q=>q
theorem Un.laid (k:∀ b u,h.get? b=zo u->h'.get? b=zo u) (hp:h.objs.size<=a) (j:H a=zb):Un fs ex H (upd H a o) h h' where
 keep:=fun b u q _ _ _=>k b u q
 slot:=fun b u q _ _ _=>⟨u.slots,k b u q⟩
 free:=fun b u q n _=>by rw [Qg (D8 (O9 (D0 q) hp))]; exact n
 there:=fun b u q _=>⟨u,k b u q⟩
 tups:=fun b xs q=>by rw [Qg (Qh q j)]; exact q
 frzs:=fun b u xs q=>by rw [Qg (Qh q j)]; exact q
 tbls:=fun b ps q=>⟨#[],by rw [Qg (Qh q j),q]; simp⟩
theorem Un.write (I:Mut (H x)) (Z:e=x\/H e=zo (.own x)) (k:∀ b u,b≠e->h.get? b=zo u->h'.get? b=zo u) (J:∃ u,h'.get? e=zo u):Un fs ex H (upd H x o) h h':=by
 have O:∀ b,H b=zb->b≠x:=fun b n z=>by subst z; rw [n] at I; exact I
 have Y:∀ b,H b=zb->b≠e:=fun b n z=>by
  subst z;rcases Z with r | r
  ·exact O b n r
  ·rw [n] at r; cases r
 have hm:∀ b u,H b=zo u->¬ Mut (zo u)->b≠x:=fun b u q nm z=>by subst z; rw [q] at I; exact nm I
 refine ⟨fun b u q n _ _=>k b u (Y b n) q,fun b u q n _ _=>⟨u.slots,k b u (Y b n) q⟩,fun b u q n _=>by rw [Qg (O b n)]; exact n,fun b u q _=>?_,
  fun b xs q=>by rw [Qg (hm b _ q fun z=>z)]; exact q,fun b u xs q=>by rw [Qg (hm b _ q fun z=>z)]; exact q,fun b ps q=>⟨#[],by rw [Qg (hm b _ q fun z=>z),q]; simp⟩⟩
 by_cases j:b=e
 ·subst j; exact J
 ·exact ⟨u,k b u j q⟩
end
def trk (h:Heap) (H:Hp):List aB:=(bX h.objs.size).filter fun a=>(H a).isSome
def Q74 (h:Heap) (H:Hp):Heap:=dq h (trk h H)
theorem Qer (h:Heap) (H:Hp):(Q74 h H).objs.size=h.objs.size:=PySem.W.hideAll_size _ _
theorem Qib {h:Heap} {H:Hp} {b:aB} {o:Obj} (e:h.get? b=zo o) (n:H b=zb):(Q74 h H).get? b=zo o:=
 du _ e fun hm=>by
  have q:(H b).isSome=yo:=(cp.mp hm).2;rw [n] at q; simp at q
theorem Qmi {h:Heap} {H:Hp} {b:aB} {o:Obj} (e:(Q74 h H).get? b=zo o):h.get? b=zo o/\H b=zb:=by
 have j:h.get? b=zo o:=fo (trk h H) e;refine ⟨j,?_⟩;cases q:H b with
 | none=>rfl
 | some x=>
  have hm:b∈trk h H:=cp.mpr ⟨cH.mpr (D0 j),by simp [q]⟩;have z:(Q74 h H).get? b=zb:=fq (trk h H) hm;rw [z] at e; cases e
def Qny (g h:Heap) (L:aB):List (aB × Obj):=(bX h.objs.size).filterMap fun a=>if a=L\/(g.get? a).isSome=yo then zb else (h.get? a).map fun o=>(a,o)
def rest (g h:Heap) (L d:aB):List (aB × Obj):=(Qny g h L).filter fun p=>decide (p.1≠d)
structure Mod (K:bW) (mg:Str->Option aA) (base:Heap):Prop where
 kin:K.In base
 glob:base.Ns aW mg
 blt:∃ mb,base.Ns builtinsNs mb/\∀ x:Str,x≠"__name__" -> mb x=aX x
 nolimit:base.NoLimit
structure Cx where
 prog:aK
 w:aJ
 K:bW
 mg:Str->Option aA
 base:Heap
 A:aL
 N:List Str
 s₀:aC
 H₀:Hp
 env:Env
 outer:List Env
 stack:List Env
 ex:List aB
 fn:Str->Bool
 calm:Bool
 pn:List (aB × Obj)
 xe:aA->aC->Prop
def frs (l:List Env):List aB:=l.filterMap (·.frame)
abbrev Cx.fs (X:Cx):List aB:=frs X.outer
def Vis (sc:Scope) (x:Str):Prop:=sc.names.lookup x=zo .local\/sc.names.lookup x=zo .cell\/sc.names.lookup x=zo .free
def Loc (sc:Scope) (x:Str):Prop:=sc.names.lookup x=zo .local\/sc.names.lookup x=zo .cell
def Qyd (env:Env) (h:Heap) (m:Str->Option aA) (x:Str) (u:aA):Prop:=
 (env.kindOf x=zo .local/\m x=zo u)\/((env.kindOf x=zo .cell\/env.kindOf x=zo .free)/\∃ c,env.cells.lookup x=zo c/\h.IsCell c (zo u))
structure Cx.Ok (X:Cx):Prop where
 mod:Mod X.K X.mg X.base
 kind:X.env.scope.kind=.function
 glob:X.env.globals=aW
 blt:X.env.builtins=builtinsNs
 above:X.s₀.heap.objs.size<=X.env.locals
 inj:∀ x y c,X.env.cells.lookup x=zo c->X.env.cells.lookup y=zo c->x=y
 has:∀ x,(X.env.kindOf x=zo .cell\/X.env.kindOf x=zo .free)->∃ c,X.env.cells.lookup x=zo c
 cab:∀ x c,X.fn x=yo->X.env.cells.lookup x=zo c->X.s₀.heap.objs.size<=c
 hd:X.calm=yo->X.A.handled=zb
 frames:X.A.frames=zo X.stack
 stk:X.stack=X.outer\/(X.stack=X.env :: X.outer/\X.env.frame=zo X.env.locals)
 exf:∀ b∈X.ex,b≠X.env.locals/\∀ x c,X.env.cells.lookup x=zo c->c≠b
 bs:∀ b o,X.base.get? b=zo o->X.s₀.heap.get? b=zo o/\X.H₀ b=zb
 bsz:X.base.objs.size<=X.s₀.heap.objs.size
 noex:∀ b o,X.base.get? b=zo o->b∉X.ex
 exfs:∀ b∈X.ex,b∉X.fs
 funs:X.s₀.heap.FunFrames X.base X.outer
 frf:∀ b∈X.fs,X.H₀ b=zb
structure Inv (X:Cx) (pins:List (aB × Obj)) (σ:List (Option V)) (H:Hp) (s:aC):Prop where
 ok:X.Ok
 os:s.os=X.s₀.os
 bare:AllBare s.gens
 base:Un X.fs X.ex X.H₀ H X.s₀.heap s.heap
 loc:∃ m,s.heap.Ns X.env.locals m/\∀ (i:Nat) (x:Str) (v:V),X.N[i]?=zo x->σ[i]?=zo (zo v)->Vis X.env.scope x->∃ u,RelV v u/\Qyd X.env s.heap m x u
 cell:∀ x c,X.env.cells.lookup x=zo c->∃ v,s.heap.IsCell c v
 free:H X.env.locals=zb
 freeC:∀ x c,X.env.cells.lookup x=zo c->H c=zb
 pin:∀ p∈X.pn ++ pins,s.heap.get? p.1=zo p.2/\H p.1=zb/\p.1≠X.env.locals/\p.1∉X.fs/\∀ v,p.2.data≠.cell v
 hok:HOk X.prog X.w H s.heap
 len:σ.length=X.N.length
section
variable {X:Cx} {pins:List (aB × Obj)} {σ:List (Option V)} {H H':Hp} {s:aC} {h':Heap}
theorem Cx.Ok.nofr (ok:X.Ok) {b:aB} {o:Obj} (e:X.base.get? b=zo o):b∉X.fs:=fun j=>by
 have:=(ok.funs.mem j).1;rw [e] at this; cases this
theorem Inv.bs (I:Inv X pins σ H s):∀ b o,X.base.get? b=zo o->s.heap.get? b=zo o/\H b=zb:=fun b o e=>
 ⟨I.base.keep b o (I.ok.bs b o e).1 (I.ok.bs b o e).2 (I.ok.nofr e) (I.ok.noex b o e),I.base.free b o (I.ok.bs b o e).1 (I.ok.bs b o e).2 (I.ok.noex b o e)⟩
theorem Inv.bk (I:Inv X pins σ H s):∀ b o,X.base.get? b=zo o->s.heap.get? b=zo o:=fun b o e=>(I.bs b o e).1
theorem Inv.mod (I:Inv X pins σ H s):Mod X.K X.mg X.base:=I.ok.mod
theorem Inv.kIn (I:Inv X pins σ H s):X.K.In s.heap:=I.ok.mod.kin.keeps I.bk
theorem Inv.lt (I:Inv X pins σ H s):X.env.locals < s.heap.objs.size:=let ⟨_,j,_⟩:=I.loc; j.lt
theorem Inv.sz (I:Inv X pins σ H s):X.s₀.heap.objs.size<=s.heap.objs.size:=E1 I.ok.above (cr I.lt)
theorem Inv.nofs (I:Inv X pins σ H s) {a:aB} (h:s.heap.objs.size<=a):a∉X.fs:=fun q=>by
 obtain ⟨_,o,j,_⟩:=I.ok.funs.mem q;exact absurd (O9 (D0 j) (E1 I.sz h)) (L0 _)
theorem Inv.cne (I:Inv X pins σ H s):∀ x c,X.env.cells.lookup x=zo c->c≠X.env.locals:=fun x c e z=>by
 obtain ⟨v,o,J,hd⟩:=I.cell x c e;obtain ⟨m,⟨o',es,ep,q,j,_⟩,_⟩:=I.loc;rw [z,q] at J; cases J; rw [j] at hd; cases hd
theorem Inv.funs (I:Inv X pins σ H s):s.heap.FunFrames X.base X.outer:=by
 have all:∀ (l:List Env),(∀ b∈frs l,b∈X.fs)->X.s₀.heap.FunFrames X.base l->s.heap.FunFrames X.base l:=by
  intro l
  induction l with
  | nil=>intro _ _; trivial
  | cons env r Y=>
   intro hs hl;obtain ⟨Z,⟨L,o,j,hn,O,hd⟩,hr⟩:=hl;have q:L∈X.fs:=hs L (by unfold frs; rw [cW,j]; exact F2);obtain ⟨sl,e⟩:=I.base.slot L o O (I.ok.frf L q) q fun z=>I.ok.exfs L z q
   exact ⟨Z,⟨L,_,j,hn,e,hd⟩,Y (fun b J=>hs b (by unfold frs; rw [cW,j]; exact O4 _ J)) hr⟩
 exact all X.outer (fun _ J=>J) I.ok.funs
theorem Inv.stack (I:Inv X pins σ H s):s.heap.FunFrames X.base X.stack:=by
 rcases I.ok.stk with e | ⟨e,j⟩
 ·rw [e]; exact I.funs
 ·rw [e];obtain ⟨m,q,_⟩:=I.loc;refine .cons (by rw [I.ok.kind]; decide) j q ?_ I.funs;exact Heap.get?_none_of_le (E1 I.ok.bsz I.ok.above)
theorem Inv.stkSub (I:Inv X pins σ H s):∀ b∈frs X.stack,b∈X.env.locals :: X.fs:=fun b j=>by
 rcases I.ok.stk with e | ⟨e,q⟩
 ·rw [e] at j; exact O4 _ j
 ·rw [e] at j;unfold frs at j;rw [cW,q] at j;exact j
theorem Inv.stkFree (I:Inv X pins σ H s):∀ b∈frs X.stack,H b=zb:=fun b j=>by
 rcases D6.mp (I.stkSub b j) with e | j
 ·rw [e]; exact I.free
 ·obtain ⟨_,o,q,_⟩:=I.ok.funs.mem j;exact I.base.free b o q (I.ok.frf b j) fun z=>I.ok.exfs b z j
theorem Inv.step {g':Array GenState} {t':Nat} {d':Drawn} {ch:List aB} (I:Inv X pins σ H s)
  (O:∀ b∈ch,(b∈X.ex\/X.s₀.heap.objs.size<=b)/\b≠X.env.locals/\(∀ x c,X.env.cells.lookup x=zo c->c≠b)/\∀ p∈X.pn ++ pins,p.1≠b)
  (keep:∀ b o,b≠X.env.locals->b∉X.fs->b∉ch->s.heap.get? b=zo o->H b=zb->h'.get? b=zo o)
  (slot:∀ b o,b≠X.env.locals->b∈X.fs->b∉ch->s.heap.get? b=zo o->H b=zb->∃ sl,h'.get? b=zo { o with slots:=sl }) (free:∀ b o,b∉ch->s.heap.get? b=zo o->H b=zb->H' b=zb)
  (there:∀ b o,b∉ch->s.heap.get? b=zo o->∃ o',h'.get? b=zo o')
  (tups:∀ b xs,H b=zo (.tup xs)->H' b=zo (.tup xs)) (frzs:∀ b o u,H b=zo (.frz o u)->H' b=zo (.frz o u)) (tbls:∀ b ps,H b=zo (.tbl ps)->∃ more,H' b=zo (.tbl (ps ++ more)))
  (ns:∀ m,s.heap.Ns X.env.locals m->h'.Ns X.env.locals m) (hok:HOk X.prog X.w H' h') (hg:AllBare g') :
  Inv X pins σ H' { s with heap:=h',gens:=g',drawn:=d',toks:=t' }:=by
 have a1:∀ b o,X.s₀.heap.get? b=zo o->b≠X.env.locals:=fun b o e=>D8 (O9 (D0 e) I.ok.above)
 have Z:∀ b o,X.s₀.heap.get? b=zo o->b∉X.ex->b∉ch:=fun b o e j hb=>by
  rcases (O b hb).1 with z | z
  ·exact j z
  ·exact absurd (O9 (D0 e) z) (L0 _)
 have Y:∀ x c,X.env.cells.lookup x=zo c->∀ v,s.heap.IsCell c v->h'.IsCell c v:=fun x c e v ⟨o,ho,hd⟩=>by
  have J:c∉ch:=fun z=>(O c z).2.2.1 x c e rfl
  by_cases hc:c∈X.fs
  ·obtain ⟨sl,q⟩:=slot c o (I.cne x c e) hc J ho (I.freeC x c e);exact ⟨_,q,hd⟩
  ·exact ⟨o,keep c o (I.cne x c e) hc J ho (I.freeC x c e),hd⟩
 refine ⟨I.ok,I.os,hg,⟨fun b o e n hb j=>?_,fun b o e n hb j=>?_,fun b o e n j=>?_,fun b o e j=>?_,fun b xs e=>tups b xs (I.base.tups b xs e),fun b o xs e=>frzs b o xs (I.base.frzs b o xs e),fun b ps e=>?_⟩,?_,fun x c e=>?_,?_,fun x c e=>?_,fun p hp=>?_,hok,I.len⟩
 ·exact keep b o (a1 b o e) hb (Z b o e j) (I.base.keep b o e n hb j) (I.base.free b o e n j)
 ·obtain ⟨sl,e1⟩:=I.base.slot b o e n hb j;obtain ⟨a2,e2⟩:=slot b _ (a1 b o e) hb (Z b o e j) e1 (I.base.free b o e n j);exact ⟨a2,e2⟩
 ·obtain ⟨o',e1⟩:=I.base.there b o e j;exact free b o' (Z b o e j) e1 (I.base.free b o e n j)
 ·obtain ⟨o',e1⟩:=I.base.there b o e j;exact there b o' (Z b o e j) e1
 ·obtain ⟨m1,e1⟩:=I.base.tbls b ps e;obtain ⟨m2,e2⟩:=tbls b _ e1;exact ⟨m1 ++ m2,by rw [e2,ft]⟩
 ·obtain ⟨m,hn,hl⟩:=I.loc;refine ⟨m,ns m hn,fun i x v e1 e2 e3=>?_⟩;obtain ⟨u,r,l⟩:=hl i x v e1 e2 e3;refine ⟨u,r,?_⟩;rcases l with l | ⟨k,c,e,z⟩
  ·exact .inl l
  ·exact .inr ⟨k,c,e,Y x c e _ z⟩
 ·obtain ⟨v,z⟩:=I.cell x c e;exact ⟨v,Y x c e v z⟩
 ·obtain ⟨m,⟨o,_,_,ho,_⟩,_⟩:=I.loc;exact free _ o (fun z=>(O _ z).2.1 rfl) ho I.free
 ·obtain ⟨v,o,ho,hd⟩:=I.cell x c e;exact free c o (fun z=>(O c z).2.2.1 x c e rfl) ho (I.freeC x c e)
 ·obtain ⟨e,n,ne,nf,d⟩:=I.pin p hp;have J:p.1∉ch:=fun z=>(O p.1 z).2.2.2 p hp rfl
  exact ⟨keep p.1 p.2 ne nf J e n,free p.1 p.2 J e n,ne,nf,d⟩
theorem Inv.un {t':Nat} (I:Inv X pins σ H s) (u:Un X.fs [] H H' s.heap h') (hok:HOk X.prog X.w H' h'):Inv X pins σ H' { s with heap:=h',toks:=t' }:=by
 obtain ⟨m,⟨o,es,ep,Y,r⟩,_⟩:=id I.loc;obtain ⟨sl,hL⟩:=u.any Y I.free (by simp);exact I.step (g':=s.gens) (d':=s.drawn) (ch:=[]) (fun _ z=>nomatch z) (fun b o _ J _ e n=>u.keep b o e n J (by simp)) (fun b o _ J _ e n=>u.slot b o e n J (by simp)) (fun b o _ e n=>u.free b o e n (by simp)) (fun b o _ e=>u.there b o e (by simp)) u.tups u.frzs u.tbls (fun m' hm=>by
  obtain ⟨o',q,O,j,Z⟩:=hm;rw [Y] at j; cases j;exact ⟨_,q,O,hL,Z⟩) hok I.bare
theorem Inv.call {g':Array GenState} {t':Nat} {d':Drawn} {ch:List aB} (I:Inv X pins σ H s) (u:Un (frs X.stack) ch H H' s.heap h') (hok:HOk X.prog X.w H' h') (hg:AllBare g')
  (q:∀ b∈ch,(b∈X.ex\/X.s₀.heap.objs.size<=b)/\b≠X.env.locals/\(∀ x c,X.env.cells.lookup x=zo c->c≠b)/\∀ p∈X.pn ++ pins,p.1≠b) :
  Inv X pins σ H' { s with heap:=h',gens:=g',drawn:=d',toks:=t' }:=by
 obtain ⟨m,⟨o,es,ep,ho,r⟩,_⟩:=id I.loc;obtain ⟨sl,Z⟩:=u.any ho I.free fun z=>(q _ z).2.1 rfl
 exact I.step (ch:=ch) q (fun b o Z hb j e n=>u.keep b o e n (fun z=>(D6.mp (I.stkSub b z)).elim Z hb) j) (fun b o _ _ j e n=>u.any e n j) (fun b o j e n=>u.free b o e n j) (fun b o j e=>u.there b o e j) u.tups u.frzs u.tbls (fun m' hm=>by
  obtain ⟨o',O,Y,J,r'⟩:=hm;rw [ho] at J; cases J;exact ⟨_,O,Y,Z,r'⟩) hok hg
theorem Inv.turned {t':Nat} {it:aB} (I:Inv X pins σ H s) (k:∀ b o,b≠it->s.heap.get? b=zo o->h'.get? b=zo o) (Z:H it=zb) (O:it≠X.env.locals)
  (h1:it∈X.ex\/X.s₀.heap.objs.size<=it) (h2:∀ x c,X.env.cells.lookup x=zo c->c≠it) (h3:∀ p∈X.pn ++ pins,p.1≠it):Inv X pins σ H { s with heap:=h',toks:=t' }:=by
 have J:∀ b u,H b=zo u->b≠it:=fun b u e z=>by rw [z,Z] at e; cases e
 refine I.step (g':=s.gens) (d':=s.drawn) (ch:=[it]) (fun b hb=>?_) (fun b o _ _ j e _=>k b o (fun z=>j (by simp [z])) e) (fun b o _ _ j e _=>⟨o.slots,k b o (fun z=>j (by simp [z])) e⟩) (fun _ _ _ _ n=>n)
  (fun b o j e=>⟨o,k b o (fun z=>j (by simp [z])) e⟩) (fun _ _ e=>e) (fun _ _ _ e=>e) (fun b ps e=>⟨#[],by rw [e]; simp⟩) (fun m hm=>?_) (fun b u e=>?_) I.bare
 ·have e:b=it:=by simpa using hb
  subst e;exact ⟨h1,O,h2,h3⟩
 ·obtain ⟨o,es,ep,Y,r⟩:=hm;exact ⟨o,es,ep,k _ o (Ne.symm O) Y,r⟩
 ·refine (I.hok b u e).stay (fun c v j q=>k c v ?_ q) (fun _ q=>q) fun _ _ q=>q
  rcases j with z | z
  ·rw [z]; exact J b u e
  ·exact J c _ z
theorem Inv.tok (I:Inv X pins σ H s) (t:Nat):Inv X pins σ H { s with toks:=t }:=I.un (h':=s.heap) (t':=t) Un.refl I.hok
theorem Inv.kept {t':Nat} (I:Inv X pins σ H s) (k:∀ b u,s.heap.get? b=zo u->h'.get? b=zo u):Inv X pins σ H { s with heap:=h',toks:=t' }:=I.un (Un.kept k) (I.hok.kept k)
theorem Inv.laid {a:aB} {o:HO} {t':Nat} (I:Inv X pins σ H s) (k:∀ b u,s.heap.get? b=zo u->h'.get? b=zo u) (hp:s.heap.objs.size<=a) (new:ObjOk X.prog X.w (upd H a o) h' a o) :
  Inv X pins σ (upd H a o) { s with heap:=h',toks:=t' }:=I.un (Un.laid k hp (I.hok.fresh hp)) (I.hok.laid k hp new)
theorem Inv.write {x e:aB} {o:HO} {t':Nat} (I:Inv X pins σ H s) (z:Mut (H x)) (q:e=x\/H e=zo (.own x)) (k:∀ b u,b≠e->s.heap.get? b=zo u->h'.get? b=zo u) (j:∃ u,h'.get? e=zo u)
  (new:ObjOk X.prog X.w (upd H x o) h' x o):Inv X pins σ (upd H x o) { s with heap:=h',toks:=t' }:=I.un (Un.write z q k j) (I.hok.write z q k j new)
theorem Inv.pins_of {pins':List (aB × Obj)} (I:Inv X pins σ H s) (h:∀ p∈pins',s.heap.get? p.1=zo p.2/\H p.1=zb/\p.1≠X.env.locals/\p.1∉X.fs/\∀ v,p.2.data≠.cell v):Inv X pins' σ H s:=
 ⟨I.ok,I.os,I.bare,I.base,I.loc,I.cell,I.free,I.freeC,fun p hp=>(E2.mp hp).elim (fun z=>I.pin p (G6 _ z)) (h p),I.hok,I.len⟩
theorem Q8q {N:List Str} (q:N.Nodup) {i j:Nat} {x:Str} (a:N[i]?=zo x) (b:N[j]?=zo x):i=j:=by
 obtain ⟨h1,e1⟩:=O0.mp a;obtain ⟨h2,e2⟩:=O0.mp b;exact (List.getElem_inj q).mp (e1.trans e2.symm)
theorem Q4p {M:Model} {A:aL} {E:aA->aC->Prop} {i:Nat} {x:Str} {v:V} {u:aA} {Q:Unit->aC->Prop} (I:Inv X pins σ H s) (hN:X.N.Nodup) (hi:X.N[i]?=zo x) (Y:Loc X.env.scope x) (r:RelV v u)
  (h:∀ s',Inv X pins (σ.set i (zo v)) H s'->(∃ a,Heap.SameBut a s.heap s'.heap/\(a=X.env.locals\/X.env.cells.lookup x=zo a))->Q () s') (hf:X.fn x=yo\/X.env.scope.names.lookup x=zo .local:=by first | exact .inl rfl | exact .inr rfl | assumption):aF M A (storeName X.env x u) Q E s:=by
 obtain ⟨m,hn,hl⟩:=id I.loc;have a4:(X.env.scope.kind == .class || (X.env.scope.kind == .module && X.env.locals != X.env.globals))=yl:=by rw [I.ok.kind]; rfl
 have a1:i < σ.length:=by rw [I.len]; exact (O0.mp hi).1
 have cne:=I.cne;have J:∀ {a:aB} {h':Heap},(∃ o,s.heap.get? a=zo o/\H a=zb)->Heap.SameBut a s.heap h'->HOk X.prog X.w H h':=fun {a h'} ha hs b ob e=>by
  obtain ⟨_,_,Z⟩:=ha;refine (I.hok b ob e).stay (fun c w' O q=>(hs.2 c ?_).trans q) (fun _ q=>q) fun _ _ q=>q
  rintro rfl;rcases O with rfl | O
  ·rw [Z] at e; cases e
  ·rw [Z] at O; cases O
 rcases Y with hk | hk
 ·refine wpAny_storeName_local hk hn (fun h' a8 hs=>?_) a4;obtain ⟨oL,_,_,a9,_⟩:=id hn;refine h _ ⟨I.ok,I.os,I.bare,⟨fun b o e n hb Y=>?_,fun b o e n hb Y=>?_,I.base.free,fun b o e Y=>?_,I.base.tups,I.base.frzs,I.base.tbls⟩,⟨_,a8,fun j y v' e1 e2 e3=>?_⟩,fun y c e=>?_,I.free,I.freeC,fun p hp=>?_,J ⟨oL,a9,I.free⟩ hs,by simpa using I.len⟩ ⟨_,hs,.inl rfl⟩
  ·exact (hs.2 b (D8 (O9 (D0 e) I.ok.above))).trans (I.base.keep b o e n hb Y)
  ·obtain ⟨sl,e1⟩:=I.base.slot b o e n hb Y;exact ⟨sl,(hs.2 b (D8 (O9 (D0 e) I.ok.above))).trans e1⟩
  ·obtain ⟨o',e1⟩:=I.base.there b o e Y;exact ⟨o',(hs.2 b (D8 (O9 (D0 e) I.ok.above))).trans e1⟩
  ·by_cases hj:j=i
   ·subst hj;rw [hi] at e1; cases e1;rw [E8 a1] at e2;cases e2;exact ⟨u,r,.inl ⟨hk,by simp⟩⟩
   ·rw [E5 (Ne.symm hj)] at e2;obtain ⟨u',r',q⟩:=hl j y v' e1 e2 e3;refine ⟨u',r',?_⟩;rcases q with ⟨k,e⟩ | ⟨k,c,e,z⟩
    ·refine .inl ⟨k,?_⟩;have:y≠x:=fun e=>hj (Q8q hN e1 (e ▸ hi))
     simp [this,e]
    ·exact .inr ⟨k,c,e,z.sameBut hs (cne y c e)⟩
  ·obtain ⟨w',z⟩:=I.cell y c e;exact ⟨w',z.sameBut hs (cne y c e)⟩
  ·obtain ⟨e,n,ne,nf,d⟩:=I.pin p hp;exact ⟨(hs.2 p.1 ne).trans e,n,ne,nf,d⟩
 ·have a2:X.fn x=yo:=by
   rcases hf with z | z
   ·exact z
   ·rw [z] at hk; cases hk
  obtain ⟨c,O⟩:=I.ok.has x (.inl hk);obtain ⟨w',z⟩:=I.cell x c O;refine wpAny_storeName_cell I.ok.kind hk O z (fun h' a5 hs=>?_);obtain ⟨oc,a7,a3⟩:=id z;refine h { s with heap:=h' } ⟨I.ok,I.os,I.bare,⟨fun b o e n hb Y=>?_,fun b o e n hb Y=>?_,I.base.free,fun b o e Y=>?_,I.base.tups,I.base.frzs,I.base.tbls⟩,⟨m,hn.sameBut hs (Ne.symm (cne x c O)),fun j y v' e1 e2 e3=>?_⟩,fun y c' e=>?_,I.free,I.freeC,fun p hp=>?_,J ⟨oc,a7,I.freeC x c O⟩ hs,by simpa using I.len⟩ ⟨c,hs,.inr O⟩
  ·exact (hs.2 b (D8 (O9 (D0 e) (I.ok.cab x c a2 O)))).trans (I.base.keep b o e n hb Y)
  ·obtain ⟨sl,e1⟩:=I.base.slot b o e n hb Y;exact ⟨sl,(hs.2 b (D8 (O9 (D0 e) (I.ok.cab x c a2 O)))).trans e1⟩
  ·obtain ⟨o',e1⟩:=I.base.there b o e Y;exact ⟨o',(hs.2 b (D8 (O9 (D0 e) (I.ok.cab x c a2 O)))).trans e1⟩
  ·by_cases hj:j=i
   ·subst hj;rw [hi] at e1; cases e1;rw [E8 a1] at e2;cases e2;exact ⟨u,r,.inr ⟨.inl hk,c,O,a5⟩⟩
   ·rw [E5 (Ne.symm hj)] at e2;obtain ⟨u',r',q⟩:=hl j y v' e1 e2 e3;refine ⟨u',r',?_⟩;rcases q with q | ⟨k,c',e,z'⟩
    ·exact .inl q
    ·refine .inr ⟨k,c',e,z'.sameBut hs ?_⟩;rintro rfl;exact hj (Q8q hN e1 (I.ok.inj _ _ _ e O ▸ hi))
  ·by_cases a6:c'=c
   ·subst a6; exact ⟨_,a5⟩
   ·obtain ⟨w2,z2⟩:=I.cell y c' e;exact ⟨w2,z2.sameBut hs a6⟩
  ·obtain ⟨e,n,ne,nf,d⟩:=I.pin p hp;refine ⟨(hs.2 p.1 ?_).trans e,n,ne,nf,d⟩;intro q;rw [q,a7] at e;have q':oc=p.2:=bj e;exact d w' (by rw [<- q']; exact a3)
theorem Q1q {M:Model} {A:aL} {E:aA->aC->Prop} {i:Nat} {x:Str} {v:V} {u:aA} {Q:Unit->aC->Prop} (I:Inv X pins σ H s) (J:X.N.Nodup) (hi:X.N[i]?=zo x) (j:Loc X.env.scope x) (r:RelV v u)
  (h:∀ s',Inv X pins (σ.set i (zo v)) H s'->Q () s') (z:X.fn x=yo\/X.env.scope.names.lookup x=zo .local:=by first | exact .inl rfl | exact .inr rfl | assumption):aF M A (storeName X.env x u) Q E s:=
 Q4p I J hi j r (fun s' q _=>h s' q) z
theorem Inv.call' {s':aC} {ch:List aB} (I:Inv X pins σ H s) (q:s'.os=s.os) (u:Un (frs X.stack) ch H H' s.heap s'.heap) (hok:HOk X.prog X.w H' s'.heap) (z:AllBare s'.gens)
  (j:∀ b∈ch,(b∈X.ex\/X.s₀.heap.objs.size<=b)/\b≠X.env.locals/\(∀ x c,X.env.cells.lookup x=zo c->c≠b)/\∀ p∈X.pn ++ pins,p.1≠b):Inv X pins σ H' s':=by
 obtain ⟨h',g',d',t',o'⟩:=s';have e:o'=s.os:=q;subst e;exact I.call (g':=g') (t':=t') (d':=d') u hok z j
end
abbrev XK:=aA->Option aB->Hp->Prop
abbrev St:=List (Option V)
abbrev VK:=V->Hp->Prop
abbrev TE:=St->Hp->VK->Prop
abbrev TT:=St->Hp->(Bool->Hp->Prop)->Prop
abbrev TA:=St->Hp->(List V->Hp->Prop)->Prop
structure Ends where
 nx:St->Hp->Prop
 rt:VK
 bk:St->Hp->Prop:=fun _ _=>False
 ct:St->Hp->Prop:=fun _ _=>False
abbrev TS:=Ends->St->Hp->Prop
def EP (X:Cx) (pins:List (aB × Obj)) (σ:St) (Q:VK) (u:aA) (s':aC):Prop:=∃ v H',Inv X pins σ H' s'/\RelV v u/\Q v H'
def TP (X:Cx) (pins:List (aB × Obj)) (σ:St) (Q:Bool->Hp->Prop) (b:Bool) (s':aC):Prop:=∃ H',Inv X pins σ H' s'/\Q b H'
def AP (X:Cx) (pins:List (aB × Obj)) (σ:St) (Q:List V->Hp->Prop) (us:List aA) (s':aC):Prop:=∃ vs H',Inv X pins σ H' s'/\Vals vs us/\Q vs H'
def SP (X:Cx) (pins:List (aB × Obj)) (D:Ends) (f:Flow) (s':aC):Prop:=
 match f with
 | .next=>∃ σ' H',Inv X pins σ' H' s'/\D.nx σ' H'
 | .brk=>∃ σ' H',Inv X pins σ' H' s'/\D.bk σ' H'
 | .cont=>∃ σ' H',Inv X pins σ' H' s'/\D.ct σ' H'
 | .ret u=>∃ v σ' H',Inv X pins σ' H' s'/\RelV v u/\D.rt v H'
def PE (X:Cx) (e:aH) (t:TE):Prop:=
 ∀ (pins:List (aB × Obj)) (s:aC) (σ:St) (H:Hp) (Q:VK),Inv X pins σ H s->t σ H Q->aF (aI X.prog X.w) X.A (aO e X.env) (EP X pins σ Q) X.xe s
def PT (X:Cx) (e:aH) (t:TT):Prop:=
 ∀ (pins:List (aB × Obj)) (s:aC) (σ:St) (H:Hp) (Q:Bool->Hp->Prop),Inv X pins σ H s->t σ H Q->aF (aI X.prog X.w) X.A (isTrue e X.env (aO e X.env)) (TP X pins σ Q) X.xe s
def PW (X:Cx) (e:aH) (t:TT):Prop:=
 ∀ (whole:Sem aA) (pins:List (aB × Obj)) (s:aC) (σ:St) (H:Hp) (Q:Bool->Hp->Prop),Inv X pins σ H s->t σ H Q->aF (aI X.prog X.w) X.A (isTrue e X.env whole) (TP X pins σ Q) X.xe s
def PA (X:Cx) (es:List aH) (t:TA):Prop:=
 ∀ (pos:Pos) (pins:List (aB × Obj)) (s:aC) (σ:St) (H:Hp) (Q:List V->Hp->Prop),Inv X pins σ H s->t σ H Q->aF (aI X.prog X.w) X.A (spliced (aY pos (aN es X.env))) (AP X pins σ Q) X.xe s
def PS (X:Cx) (st:aM) (t:TS):Prop:=
 ∀ (pins:List (aB × Obj)) (s:aC) (σ:St) (H:Hp) (D:Ends),Inv X pins σ H s->t D σ H->aF (aI X.prog X.w) X.A (exec st X.env) (SP X pins D) X.xe s
def PSs (X:Cx) (st:List aM) (t:TS):Prop:=
 ∀ (pins:List (aB × Obj)) (s:aC) (σ:St) (H:Hp) (D:Ends),Inv X pins σ H s->t D σ H->aF (aI X.prog X.w) X.A (execs st X.env) (SP X pins D) X.xe s
theorem thn {α:Type} {t:Sem α} {Q j:α->aC->Prop} {M:Model} {A:aL} {E:aA->aC->Prop} {s:aC} (h:aF M A t Q E s) (q:∀ a s,Q a s->j a s):aF M A t j E s:=ao h q fun _ _ x=>x
section
variable {X:Cx}
def Qtm (i:Nat):TE:=fun σ H Q=>∃ v,σ[i]?=zo (zo v)/\Q v H
def tC (v:V):TE:=fun _ H Q=>Q v H
theorem Qgk {i:Nat} {x:Str} {pos:Pos} (Y:X.N[i]?=zo x) (hv:Vis X.env.scope x) (hd:(x == ("__debug__" : Str))=yl:=by decide) (z:(x == ("__classdict__" : Str))=yl:=by decide):PE X (.Name x pos) (Qtm i):=by
 intro pins s σ H Q I h;obtain ⟨v,e,h⟩:=h;obtain ⟨m,O,Z⟩:=I.loc;obtain ⟨u,r,l⟩:=Z i x v Y e hv;have fin:EP X pins σ Q u s:=⟨v,H,I,r,h⟩;rcases l with ⟨q,hm⟩ | ⟨q,c,J,j⟩
 ·exact wpAny_Name (wpAny_loadName_local I.ok.kind q O hm fin) hd
 ·rcases q with q | q
  ·exact wpAny_Name (wpAny_loadName_cell I.ok.kind q J j fin) hd
  ·exact wpAny_Name (wpAny_loadName_free I.ok.kind q J j fin z) hd
theorem Qr7 {i j pos}:PE X (.Constant (.int i) j pos) (tC (.int i)):=fun _ _ _ H _ I h=>wpAny_Constant_int ⟨.int i,H,I.tok _,⟨_,rfl⟩,h⟩
theorem Quf {b j pos}:PE X (.Constant (.bool b) j pos) (tC (.bl b)):=fun _ _ _ H _ I h=>Constant_bool ⟨.bl b,H,I,rfl,h⟩
theorem Qr6 {j pos}:PE X (.Constant .none j pos) (tC .non):=fun _ _ _ H _ I h=>Constant_none ⟨.non,H,I,rfl,h⟩
theorem Qr3 {x j pos}:PE X (.Constant (.str x) j pos) (tC (.str x)):=fun _ _ _ H _ I h=>Calls.Constant_str ⟨.str x,H,I.tok _,⟨_,rfl⟩,h⟩
def Gl (X:Cx) (x:Str):Prop:=X.env.kindOf x=zo .globalImplicit
theorem Q6x {E:aA->aC->Prop} {pins:List (aB × Obj)} {s:aC} {σ:St} {H:Hp} {x:Str} {u:aA} {pos:Pos} {Q:aA->aC->Prop} (I:Inv X pins σ H s) (j:Gl X x) (hm:X.mg x=zo u) (h:Q u s)
  (hd:(x == ("__debug__" : Str))=yl:=by decide):aF (aI X.prog X.w) X.A (aO (.Name x pos) X.env) Q E s:=
 Calls.Name_function_global I.ok.kind j (Calls.loadGlobal_global (by rw [I.ok.glob]; exact I.mod.glob.keeps I.bk) hm h) hd
theorem zm {E:aA->aC->Prop} {pins:List (aB × Obj)} {s:aC} {σ:St} {H:Hp} {x:Str} {u:aA} {pos:Pos} {Q:aA->aC->Prop} (I:Inv X pins σ H s) (z:Gl X x) (hm:X.mg x=zb) (j:aX x=zo u) (h:Q u s)
  (q:x≠"__name__" := by decide) (hd:(x == ("__debug__" : Str))=yl:=by decide):aF (aI X.prog X.w) X.A (aO (.Name x pos) X.env) Q E s:=by
 obtain ⟨mb,h1,h2⟩:=I.mod.blt;exact Calls.Name_function_global I.ok.kind z (Calls.loadGlobal_builtin (by rw [I.ok.glob]; exact I.mod.glob.keeps I.bk) hm (by rw [I.ok.blt]; exact h1.keeps I.bk) ((h2 x q).trans j) h) hd
theorem Q6b {x:Str} {v:V} {u:aA} {pos:Pos} (j:Gl X x) (hm:X.mg x=zo u) (r:RelV v u) (hd:(x == ("__debug__" : Str))=yl:=by decide):PE X (.Name x pos) (tC v):=
 fun _ _ _ H _ I h=>Q6x I j hm ⟨v,H,I,r,h⟩ hd
theorem Qm7 {x:Str} {v:V} {u:aA} {pos:Pos} (z:Gl X x) (hm:X.mg x=zb) (j:aX x=zo u) (r:RelV v u) (q:x≠"__name__" := by decide) (hd:(x == ("__debug__" : Str))=yl:=by decide):PE X (.Name x pos) (tC v):=
 fun _ _ _ H _ I h=>zm I z hm j ⟨v,H,I,r,h⟩ q hd
variable {a b:aH} {ta tb:TE} {pos:Pos}
def tB (t:TE):TT:=fun σ H Q=>t σ H fun x H1=>∃ c,x=.bl c/\Q c H1
theorem Qqr {e:aH} {t:TE} (h:PE X e t) (O:∀ j,isTrue e X.env j=(do let v <- j; standAt e.pos; ar [v] (truthy v)):=by intro _; rfl):PT X e (tB t):=by
 intro pins s σ H Q I J;refine isTrue_plain (thn (h pins s σ H _ I J) fun v s1 ⟨x,H1,z,Y,q1⟩=>?_) (O _)
 obtain ⟨d,rfl,q⟩:=q1;cases Y;exact bB ⟨H1,z,q⟩
variable {tA tB':TT} {rest:List aH}
def Qxm (t u:TT):TT:=fun σ H Q=>t σ H fun c H1=>if c=yo then u σ H1 Q else Q yl H1
def tOr (t u:TT):TT:=fun σ H Q=>t σ H fun c H1=>if c=yo then Q yo H1 else u σ H1 Q
def Qxe (t:TT):TT:=fun σ H Q=>t σ H fun c H1=>Q (!c) H1
theorem Qki (j:PT X a tA):PW X (.BoolOp .And [a] pos) tA:=by
 intro q pins s σ H Q I h;refine isTrue_and (thn (j pins s σ H Q I h) fun c s1 e=>?_)
 cases c with
 | true=>exact isTrue_and_nil e
 | false=>exact e
theorem Qqp (j:PT X a tA):PW X (.BoolOp .Or [a] pos) tA:=by
 intro q pins s σ H Q I h;refine isTrue_or (thn (j pins s σ H Q I h) fun c s1 e=>?_)
 cases c with
 | false=>exact isTrue_or_nil e
 | true=>exact e
theorem Qqq (z:PT X a tA) (J:PW X (.BoolOp .And (b :: rest) pos) tB'):PW X (.BoolOp .And (a :: b :: rest) pos) (Qxm tA tB'):=by
 intro q pins s σ H Q I h;refine isTrue_and (thn (z pins s σ H _ I h) fun c s1 ⟨H1,j,q1⟩=>?_)
 cases c with
 | true=>exact J q pins s1 σ H1 Q j q1
 | false=>exact ⟨H1,j,q1⟩
theorem Qu8 (z:PT X a tA) (J:PW X (.BoolOp .Or (b :: rest) pos) tB'):PW X (.BoolOp .Or (a :: b :: rest) pos) (tOr tA tB'):=by
 intro q pins s σ H Q I h;refine isTrue_or (thn (z pins s σ H _ I h) fun c s1 ⟨H1,j,q1⟩=>?_)
 cases c with
 | true=>exact ⟨H1,j,q1⟩
 | false=>exact J q pins s1 σ H1 Q j q1
theorem Qqs (j:PT X a tA):PT X (.UnaryOp .Not a pos) (Qxe tA):=by
 intro pins s σ H Q I h;exact isTrue_not (j pins s σ H (fun c H1=>Q (!c) H1) I h)
def Qtw (ta tb:TE):TE:=fun σ H Q=>ta σ H fun x H1=>∃ c,x=.bl c/\if c=yo then tb σ H1 Q else Q (.bl yl) H1
def Qxd (ta tb:TE):TE:=fun σ H Q=>ta σ H fun x H1=>∃ c,x=.bl c/\if c=yo then Q (.bl yo) H1 else tb σ H1 Q
def Qtq (ta:TE):TE:=fun σ H Q=>ta σ H fun x H1=>∃ c,x=.bl c/\Q (.bl (!c)) H1
theorem Qr4 {op} {t:TE} (h:PE X a t):PE X (.BoolOp op [a] pos) t:=fun pins s σ H Q I j=>BoolOp_one (h pins s σ H Q I j)
theorem Qr9 (q:PE X a ta) (J:PE X (.BoolOp .And (b :: rest) pos) tb):PE X (.BoolOp .And (a :: b :: rest) pos) (Qtw ta tb):=by
 intro pins s σ H Q I h;refine BoolOp_and (thn (q pins s σ H _ I h) fun v s1 ⟨x,H1,j,z,q1⟩=>?_)
 obtain ⟨c,rfl,q1⟩:=q1;cases z;refine bB ?_;cases c with
 | true=>exact J pins s1 σ H1 Q j q1
 | false=>exact ⟨.bl yl,H1,j,rfl,q1⟩
theorem Que (q:PE X a ta) (J:PE X (.BoolOp .Or (b :: rest) pos) tb):PE X (.BoolOp .Or (a :: b :: rest) pos) (Qxd ta tb):=by
 intro pins s σ H Q I h;refine BoolOp_or (thn (q pins s σ H _ I h) fun v s1 ⟨x,H1,j,z,q1⟩=>?_)
 obtain ⟨c,rfl,q1⟩:=q1;cases z;refine bB ?_;cases c with
 | false=>exact J pins s1 σ H1 Q j q1
 | true=>exact ⟨.bl yo,H1,j,rfl,q1⟩
theorem Qr5 (q:PE X a ta):PE X (.UnaryOp .Not a pos) (Qtq ta):=by
 intro pins s σ H Q I h;refine UnaryOp_ (thn (q pins s σ H _ I h) fun v s1 ⟨x,H1,j,z,q1⟩=>?_)
 obtain ⟨c,rfl,q1⟩:=q1;cases z;exact not_of (bB ⟨.bl (!c),H1,j,rfl,q1⟩)
end
def SqL (K:bW) (H:Hp) (a:aB) (xs:List V):Prop:=
 Rd H a (.lst xs) \/
  ∃ (o:Obj) (its:Array aA) (n:Nat),K.lookup a=zo o/\o.cls=.type "list" /\ o.dict=zb/\o.data=.seq its n/\its.size<=sizeLine/\Vals xs its.toList
def SqT (K:bW) (H:Hp) (a:aB) (xs:List V):Prop:=
 Rd H a (.tup xs) \/
  ∃ (o:Obj) (its:Array aA) (n:Nat),K.lookup a=zo o/\o.cls=.type "tuple" /\ o.data=.seq its n/\its.size<=sizeLine/\Vals xs its.toList
def Qy9:aA->Option V
 | .none=>zo .non
 | .bool b=>zo (.bl b)
 | .int i _=>zo (.int i)
 | .str x _=>zo (.str x)
 | .bytes b _=>zo (.byt b)
 | .float b _=>zo (.flt b)
 | .ref a=>zo (.ref a)
 | .type n=>zo (.ty n)
 | _=>zb
theorem RelV.abs {x:V} {u:aA} (r:RelV x u):Qy9 u=zo x:=by
 cases x with
 | non=>cases r; rfl
 | bl _=>cases r; rfl
 | int _=>obtain ⟨t,rfl⟩:=r; rfl
 | str _=>obtain ⟨t,rfl⟩:=r; rfl
 | byt _=>obtain ⟨t,rfl⟩:=r; rfl
 | flt _=>obtain ⟨t,rfl⟩:=r; rfl
 | ref _=>cases r; rfl
 | ty _=>cases r; rfl
theorem RelV.inj {x y:V} {u:aA} (r:RelV x u) (q:RelV y u):x=y:=bj (r.abs.symm.trans q.abs)
theorem Vals.inj:∀ {xs ys:List V} {j:List aA},Vals xs j->Vals ys j->xs=ys
 | _,_,_,.nil,.nil=>rfl
 | _,_,_,.cons r t,.cons q t'=>by rw [r.inj q,Vals.inj t t']
section
variable {X:Cx} {pins:List (aB × Obj)} {σ:St} {H:Hp} {s:aC} {a:aB} {xs ys:List V}
theorem SqL.of {K:bW} (h:H a=zo (.lst xs)):SqL K H a xs:=.inl (.inl h)
theorem SqT.of {K:bW} (h:H a=zo (.tup xs)):SqT K H a xs:=.inl (.inl h)
theorem Inv.list (I:Inv X pins σ H s) (h:SqL X.K H a xs):∃ its:List aA,Vals xs its/\PlainL s.heap a its.toArray/\xs.length<=sizeLine:=by
 rcases h with h | ⟨o,its,n,q,j,hd,hs,hz,r⟩
 ·obtain ⟨z,its,n,r,e⟩:=h.ok I.hok;exact ⟨its,r,⟨_,n,e,rfl,rfl,rfl⟩,z⟩
 ·refine ⟨its.toList,r,⟨o,n,I.kIn a o q,j,hd,by simpa using hs⟩,?_⟩;have e:=r.length;simp only [bc] at e;omega
theorem Inv.tuple (I:Inv X pins σ H s) (h:SqT X.K H a xs):∃ its:List aA,Vals xs its/\IsTup s.heap a its.toArray/\xs.length<=sizeLine:=by
 rcases h with h | ⟨o,its,n,q,j,hs,hz,r⟩
 ·obtain ⟨z,its,r,p⟩:=h.ok I.hok;exact ⟨its,r,p,z⟩
 ·refine ⟨its.toList,r,⟨o,I.kIn a o q,j,n,by simpa using hs⟩,?_⟩;have e:=r.length;simp only [bc] at e;omega
theorem Inv.list_inj (I:Inv X pins σ H s) (h:SqL X.K H a xs) (h':SqL X.K H a ys):xs=ys:=by
 obtain ⟨its,r,⟨o,n,e,_,_,d⟩,_⟩:=I.list h;obtain ⟨its',z,⟨o',J,j,_,_,d'⟩,_⟩:=I.list h';rw [e] at j; cases j;rw [d] at d';injection d' with q _
 have:its=its':=by simpa using congrArg ee q
 subst this;exact r.inj z
theorem Inv.tuple_inj (I:Inv X pins σ H s) (h:SqT X.K H a xs) (h':SqT X.K H a ys):xs=ys:=by
 obtain ⟨its,r,⟨o,e,_,n,d⟩,_⟩:=I.tuple h;obtain ⟨its',z,⟨o',j,_,J,d'⟩,_⟩:=I.tuple h';rw [e] at j; cases j;rw [d] at d';injection d' with q _
 have:its=its':=by simpa using congrArg ee q
 subst this;exact r.inj z
end
section
variable {X:Cx} {pins:List (aB × Obj)} {σ:St} {H:Hp} {s:aC} {E:aA->aC->Prop}
end
section
variable {X:Cx} {st:aM} {rest:List aM} {t u:TS} {e:aH} {te:TE} {pos:Pos}
def Qtr:TS:=fun D σ H=>D.nx σ H
def Qxa (t u:TS):TS:=fun D σ H=>t { D with nx:=u D } σ H
theorem Qkq:PSs X [] Qtr:=fun _ _ σ H _ I h=>wpAny_execs_nil ⟨σ,H,I,h⟩
theorem Qg9 (h1:PS X st t) (h2:PSs X rest u):PSs X (st :: rest) (Qxa t u):=by
 intro pins s σ H D I h;refine wpAny_execs_cons (thn (h1 pins s σ H { D with nx:=u D } I h) fun f s1 q=>?_)
 cases f with
 | next=>
  obtain ⟨j,H',z,q⟩:=q;exact h2 pins s1 j H' D z q
 | ret v=>exact q
 | brk=>exact q
 | cont=>exact q
theorem Qkp (h1:PS X st t):PSs X [st] t:=by
 intro pins s σ H D I h;refine wpAny_execs_cons (thn (h1 pins s σ H D I h) fun f s1 q=>?_)
 cases f with
 | next=>exact wpAny_execs_nil q
 | ret v=>exact q
 | brk=>exact q
 | cont=>exact q
def Qq4:TS:=fun D σ H=>D.bk σ H
theorem Qgc:PS X (.Break pos) Qq4:=fun _ _ σ H _ I h=>wpAny_Break ⟨σ,H,I,h⟩
theorem Inv.quiet {pins:List (aB × Obj)} {σ:St} {H:Hp} {s:aC} (I:Inv X pins σ H s):interactive X.env=yl:=by simp [interactive,I.ok.kind]
def Qts (te:TE):TS:=fun D σ H=>te σ H fun _ H1=>D.nx σ H1
theorem Qkr (q:PE X e te) (hs:swapsWith e zb pos.line X.env=pure yl:=by rfl):PS X (.Expr e pos) (Qts te):=by
 intro pins s σ H D I h;exact wpAny_Expr_any (thn (q pins s σ H _ I h) fun v s1 ⟨x,H1,j,z,q1⟩=>⟨σ,H1,j,q1⟩) I.quiet hs
def Qxc (te:TE):TS:=fun D σ H=>te σ H D.rt
theorem Qqu (z:PE X e te):PS X (.Return (zo e) pos) (Qxc te):=by
 intro pins s σ H D I h;exact wpAny_Return_some (thn (z pins s σ H _ I h) fun v s1 ⟨x,H1,j,q,q1⟩=>⟨x,σ,H1,j,q,q1⟩)
def Qxh (c:TT) (t u:TS):TS:=fun D σ H=>c σ H fun b H1=>if b=yo then t D σ H1 else u D σ H1
theorem Qua {c:aH} {a b:List aM} {tc:TT} (q:PT X c tc) (z:PSs X a t) (J:PSs X b u):PS X (.If c a b pos) (Qxh tc t u):=by
 intro pins s σ H D I h;refine wpAny_If (thn (q pins s σ H _ I h) fun d s1 ⟨H1,j,q1⟩=>?_)
 cases d with
 | true=>exact z pins s1 σ H1 D j q1
 | false=>exact J pins s1 σ H1 D j q1
end
abbrev TG:=V->St->Hp->(St->Hp->Prop)->Prop
abbrev TGs:=List V->St->Hp->(St->Hp->Prop)->Prop
def PG (X:Cx) (target:aH) (t:TG):Prop:=
 ∀ (pins:List (aB × Obj)) (s:aC) (σ:St) (H:Hp) (v:V) (u:aA) (Q:St->Hp->Prop),Inv X pins σ H s->RelV v u->t v σ H Q ->
  aF (aI X.prog X.w) X.A (assign target X.env u) (fun _ s'=>∃ σ' H',Inv X pins σ' H' s'/\Q σ' H') X.xe s
def PGs (X:Cx) (ts:List aH) (t:TGs):Prop:=
 ∀ (pins:List (aB × Obj)) (s:aC) (σ:St) (H:Hp) (vs:List V) (us:List aA) (Q:St->Hp->Prop),Inv X pins σ H s->Vals vs us->t vs σ H Q ->
  aF (aI X.prog X.w) X.A (assignInOrder ((av ts X.env).map (·.2)) us) (fun _ s'=>∃ σ' H',Inv X pins σ' H' s'/\Q σ' H') X.xe s
abbrev Qsy:=V->V->V->Hp->(Hp->Prop)->Prop
def Qw5 (X:Cx) (t:Qsy):Prop:=
 ∀ (pins:List (aB × Obj)) (s:aC) (σ:St) (H:Hp) (o i v:V) (ov iv u:aA) (Q:Hp->Prop),Inv X pins σ H s->RelV o ov->RelV i iv->RelV v u->t o i v H Q ->
  aF (aI X.prog X.w) X.A (setItem ov iv u) (fun _ s'=>∃ H',Inv X pins σ H' s'/\Q H') X.xe s
abbrev TIp:=V->V->Hp->VK->Prop
def PIp (X:Cx) (op:Operator) (t:TIp):Prop:=
 ∀ (pins:List (aB × Obj)) (s:aC) (σ:St) (H:Hp) (x y:V) (v u:aA) (Q:VK),Inv X pins σ H s->RelV x v->RelV y u->t x y H Q ->
  aF (aI X.prog X.w) X.A (inplaceOp op v u) (EP X pins σ Q) X.xe s
section
variable {X:Cx} {pos:Pos}
def Q9c (i:Nat):TG:=fun v σ H Q=>Q (σ.set i (zo v)) H
theorem Qm3 {i:Nat} {x:Str} (J:X.N.Nodup) (hi:X.N[i]?=zo x) (j:Loc X.env.scope x) (z:X.fn x=yo\/X.env.scope.names.lookup x=zo .local:=by first | exact .inl rfl | exact .inr rfl | assumption):PG X (.Name x pos) (Q9c i):=by
 intro pins s σ H v u Q I r h;exact wpAny_assign_Name (Q1q I J hi j r (fun s' q=>⟨_,H,q,h⟩) z)
def Qvh:TGs:=fun vs σ H Q=>vs=[]/\Q σ H
def Qif (t:TG) (u:TGs):TGs:=fun vs σ H Q=>∃ v r,vs=v :: r/\t v σ H fun σ' H'=>u r σ' H' Q
theorem Qm1:PGs X [] Qvh:=by
 intro pins s σ H vs j Q I r h;obtain ⟨e,h⟩:=h;subst e;cases r;exact assignInOrder_nil ⟨σ,H,I,h⟩
theorem Qgj {e:aH} {es:List aH} {t:TG} {u:TGs} (h1:PG X e t) (h2:PGs X es u)
  (hs:(av (e :: es) X.env).map (·.2)=assign e X.env :: (av es X.env).map (·.2):=by rfl):PGs X (e :: es) (Qif t u):=by
 intro pins s σ H vs J Q I r h;obtain ⟨v,O,e1,h⟩:=h;subst e1;cases r with
 | cons r z=>
  rw [hs];refine assignInOrder_cons (thn (h1 pins s σ H _ _ _ I r h) fun _ s1 ⟨j,H1,q,q1⟩=>?_)
  exact h2 pins s1 j H1 _ _ Q q z q1
def Qvg (K:bW) (n:Nat) (t:TGs):TG:=fun v σ H Q=>∃ a xs,v=.ref a/\SqT K H a xs/\xs.length=n/\t xs σ H Q
theorem Qr0 {es:List aH} {k:Nat} {t:TGs} {n:Nat} (O:X.calm=yo) (h:PGs X es t)
  (Z:(av es X.env).length=n:=by rfl) (q:(av es X.env).findIdx? (·.1)=zb:=by rfl):PG X (.Tuple es k pos) (Qvg X.K n t):=by
 intro pins s σ H v u Q I r j;obtain ⟨a,xs,e1,hq,hl,j⟩:=j;subst e1;cases r;obtain ⟨its,z,ht,hz⟩:=I.tuple hq;refine assign_Tuple_tuple (I.ok.hd O) ht (by simp [Z,<- hl,z.length]) q fun h' Y=>?_
 have J:Inv X pins σ H { s with heap:=h' }:=I.kept (t':=s.toks) fun b o e=>Y b o (D8 (D0 e)) e
 exact h pins _ σ H xs _ Q J (by simpa using z) j
def Qy4 (to ti:TE) (t:Qsy):TG:=fun v σ H Q=>to σ H fun o H1=>ti σ H1 fun i H2=>t o i v H2 fun H3=>Q σ H3
theorem Qr1 {o i:aH} {to z:TE} {t:Qsy} (J:PE X o to) (hi:PE X i z) (hs:Qw5 X t)
  (ha:∀ v,assign (.Subscript o i pos) X.env v=(do
   let j <- ar [v] (aO o X.env)
   let q <- ar [v,j] (aO i X.env)
   standAt pos
   ar [v,j,q] (setItem j q v)
   release [v,j,q] []):=by intro _; rfl):PG X (.Subscript o i pos) (Qy4 to z t):=by
 intro pins s σ H v u Q I r h;rw [ha];refine aD (ae (thn (J pins s σ H _ I h) fun j s1 ⟨x,H1,O,r1,q1⟩=>?_))
 refine aD (ae (thn (hi pins s1 σ H1 _ O q1) fun q s2 ⟨y,H2,Y,r2,q2⟩=>?_))
 refine aD (wpAny_standAt (aD (ae (thn (hs pins s2 σ H2 x y v j q u _ Y r1 r2 r q2) fun _ s3 ⟨Z,I3,q3⟩=>?_))))
 exact wpAny_release ⟨σ,Z,I3,q3⟩
def Qq5 (te:TE) (g:TG):TS:=fun D σ H=>te σ H fun x H1=>g x σ H1 D.nx
theorem Qgd {tg e:aH} {te:TE} {g:TG} (O:PE X e te) (J:PG X tg g) (hs:swapsWithSole [tg] e pos.line X.env=pure yl:=by rfl) (z:swappedStores [tg] e X.env=pure zb:=by rfl)
  (h1:(av [tg] X.env).map (·.2)=[assign tg X.env]:=by rfl):PS X (.Assign [tg] e pos) (Qq5 te g):=by
 intro pins s σ H D I h;refine wpAny_Assign_stores (thn (O pins s σ H _ I h) fun v s1 ⟨x,H1,j,Y,q1⟩=>?_) hs z
 rw [h1];exact thn (J pins s1 σ H1 x v _ j Y q1) fun _ Z q=>q
theorem Qqt {i:Nat} {x:Str} {e:aH} {te:TE} {pos':Pos} (O:X.N.Nodup) (hi:X.N[i]?=zo x) (z:Loc X.env.scope x) (Y:PE X e te) (hs:swapsWith e (zo (.Name x pos')) pos.line X.env=pure yl:=by rfl) (J:X.fn x=yo\/X.env.scope.names.lookup x=zo .local:=by first | exact .inl rfl | exact .inr rfl | assumption) :
  PS X (.Assign [.Name x pos'] e pos) (Qq5 te (Q9c i)):=by
 intro pins s σ H D I h;refine wpAny_Assign_Name (thn (Y pins s σ H _ I h) fun v s1 ⟨y,H1,j,Z,q1⟩=>?_) hs
 exact Q1q j O hi z Z (fun s2 q=>⟨_,H1,q,q1⟩) J
def Qxk (i:Nat) (te:TE) (ti:TIp):TS:=fun D σ H=>∃ x,σ[i]?=zo (zo x)/\te σ H fun y H1=>ti x y H1 fun z H2=>D.nx (σ.set i (zo z)) H2
theorem Qqw {i:Nat} {x:Str} {e:aH} {te:TE} {op:Operator} {ti:TIp} {pos':Pos} (hN:X.N.Nodup) (hi:X.N[i]?=zo x) (Z:Loc X.env.scope x) (he:PE X e te) (ho:PIp X op ti) (hf:X.fn x=yo\/X.env.scope.names.lookup x=zo .local:=by first | exact .inl rfl | exact .inr rfl | assumption) :
  PS X (.AugAssign (.Name x pos') op e pos) (Qxk i te ti):=by
 intro pins s σ H D I h;obtain ⟨v,e1,h⟩:=h;obtain ⟨m,hn,hl⟩:=I.loc;have Y:Vis X.env.scope x:=by rcases Z with k | k; exact .inl k; exact .inr (.inl k)
 obtain ⟨u,r,l⟩:=hl i x v hi e1 Y;refine wpAny_AugAssign_Name ?_;have go:aF (aI X.prog X.w) X.A (aO e X.env) (fun w O=>aF (aI X.prog X.w) X.A (inplaceOp op u w) (fun r J=>aF (aI X.prog X.w) X.A (storeName X.env x r) (fun _=>SP X pins D .next) X.xe J) X.xe O) X.xe s:=by
  refine thn (he pins s σ H _ I h) fun w s1 ⟨y,H1,I1,r1,q1⟩=>?_
  refine thn (ho pins s1 σ H1 v y u w _ I1 r r1 q1) fun z s2 ⟨zv,H2,I2,r2,q2⟩=>?_
  exact Q1q I2 hN hi Z r2 (fun s3 I3=>⟨_,H2,I3,q2⟩) hf
 rcases l with ⟨j,hm⟩ | ⟨j,c,hc,q⟩
 ·exact wpAny_loadName_local I.ok.kind j hn hm go
 ·rcases j with j | j
  ·exact wpAny_loadName_cell I.ok.kind j hc q go
  ·rcases Z with k | k
   ·have:X.env.scope.names.lookup x=zo .free:=j;rw [k] at this; cases this
   ·have:X.env.scope.names.lookup x=zo .free:=j;rw [k] at this; cases this
def ipI (f:Int->Int->Int):TIp:=fun x y H Q=>∃ i j,x=.int i/\y=.int j/\Q (.int (f i j)) H
theorem Qse:PIp X .Add (ipI fun i j=>i + j):=by
 intro pins s σ H x y v u Q I J z h;obtain ⟨i,j,e1,e2,q⟩:=h;subst e1; subst e2;obtain ⟨t,rfl⟩:=J;obtain ⟨t',rfl⟩:=z;exact iadd_int ⟨.int _,H,I.tok _,⟨_,rfl⟩,q⟩
end
section
variable {X:Cx} {pos:Pos}
def Qq0 (c:TT) (tb:TS):TS:=fun D σ H=>∃ W:Nat->St->Hp->Prop,(∃ m,W m σ H)/\∀ m σ H,W m σ H ->
 c σ H fun b H1=>if b=yo then ∃ N:St->Hp->Prop,(∀ σ' H',N σ' H'->∃ m',m' < m/\W m' σ' H')/\tb { D with nx:=N,ct:=N,bk:=D.nx } σ H1 else D.nx σ H1
theorem Qga {c:aH} {body:List aM} {tc:TT} {tb:TS} (hp:PassesOwn (aI X.prog X.w) X.A X.env X.xe) (hc:PT X c tc) (hb:PSs X body tb):PS X (.While c body [] pos) (Qq0 tc tb):=by
 intro pins s σ H D I h;obtain ⟨W,⟨m0,w0⟩,turn⟩:=h;refine wpAny_While (codeAny_whileLoop (fun n s'=>∃ J H',Inv X pins J H' s'/\W n J H') ?_ m0 ⟨σ,H,I,w0⟩);rintro n s1 ⟨q,H1,I1,w1⟩;refine bG hp (thn (hc pins s1 q H1 _ I1 (turn n q H1 w1)) fun b s2 ⟨H2,I2,q2⟩=>?_)
 cases b with
 | true=>
  obtain ⟨N,hN,q2⟩:=q2;rw [bS rfl];refine bG hp (thn (hb pins s2 q H2 _ I2 q2) fun f s3 q3=>?_)
  cases f with
  | next=>
   obtain ⟨j,z,Y,O⟩:=q3;obtain ⟨m',hm,Z⟩:=hN j z O;exact ⟨m',hm,j,z,Y,Z⟩
  | cont=>
   obtain ⟨j,z,Y,O⟩:=q3;obtain ⟨m',hm,Z⟩:=hN j z O;exact ⟨m',hm,j,z,Y,Z⟩
  | brk=>exact q3
  | ret v=>exact q3
 | false=>
  rw [bT D3];exact wpAny_execs_nil ⟨q,H2,I2,q2⟩
end
structure It where
 go:Nat->Hp->Prop
 yld:Nat->Hp->V->Hp->Prop
 stop:Nat->Hp->Prop
def Q43 (X:Cx) (pins:List (aB × Obj)) (H:Hp) (b:aB):Prop:=
 H b=zb/\b≠X.env.locals/\b∉X.fs/\(b∈X.ex\/X.s₀.heap.objs.size<=b)/\(∀ x c,X.env.cells.lookup x=zo c->c≠b)/\∀ p∈X.pn ++ pins,p.1≠b
theorem Inv.fpOk {X:Cx} {pins:List (aB × Obj)} {σ:St} {H H':Hp} {s:aC} {b:aB} (I:Inv X pins σ H s) (j:s.heap.objs.size<=b) (J:H' b=zb):Q43 X pins H' b:=by
 refine ⟨J,cE (O9 I.lt j),I.nofs j,.inr (E1 I.sz j),fun x c e z=>?_,fun p hp z=>?_⟩
 ·obtain ⟨v,q⟩:=I.cell x c e;exact absurd (O9 q.lt (by rw [z]; exact j)) (L0 _)
 ·exact absurd (O9 (D0 (I.pin p hp).1) (by rw [z]; exact j)) (L0 _)
structure Turn (P:aK) (w:aJ) (K:bW) (tg:aH) (J:It) (fp:List aB) (it:aB) (tn:Nat->Heap->Prop):Prop where
 mem:it∈fp
 obj:∀ i h,tn i h->∀ b∈fp,∃ o,h.get? b=zo o/\∀ v,o.data≠.cell v
 keep:∀ i h h',tn i h->(∀ b∈fp,∀ o,h.get? b=zo o->h'.get? b=zo o)->tn i h'
 item:∀ (X:Cx),X.prog=P->X.w=w->X.K=K->X.calm=yo->∀ (i:Nat) (pins:List (aB × Obj)) (s:aC) (σ:St) (H:Hp) (E:aA->aC->Prop),Inv X pins σ H s->(∀ b∈fp,Q43 X pins H b)->tn i s.heap->J.go i H ->
  aF (aI P w) X.A (ag (.ref it)) (fun r s1=>∃ u,r=zo u /\
   aF (aI P w) X.A (letOwnedTupleGo tg (.ref it) u) (fun _ s2=>∃ x H',Inv X pins σ H' s2/\RelV x u/\J.yld i H x H'/\tn (i + 1) s2.heap/\∀ b∈fp,H' b=zb) E s1) E s
 done:∀ (X:Cx),X.prog=P->X.w=w->X.K=K->X.calm=yo->∀ (i:Nat) (pins:List (aB × Obj)) (s:aC) (σ:St) (H:Hp) (E:aA->aC->Prop),Inv X pins σ H s->(∀ b∈fp,Q43 X pins H b)->tn i s.heap->J.stop i H ->
  aF (aI P w) X.A (ag (.ref it)) (fun r s1=>r=zb/\Inv X pins σ H s1) E s
 self:∀ (A:aL) (i:Nat) (s:aC) (Q:aA->aC->Prop) (E:aA->aC->Prop),tn i s.heap->Q (.ref it) s->aF (aI P w) A (pyIter (.ref it)) Q E s
abbrev TI:=St->Hp->(It->Hp->Prop)->Prop
def PIE (X:Cx) (pins:List (aB × Obj)) (σ:St) (tg:aH) (R:It->Hp->Prop) (itv:aA) (s2:aC):Prop:=
 ∃ (it:aB) (fp:List aB) (tn:Nat->Heap->Prop) (J:It) (H':Hp),itv=.ref it/\Inv X pins σ H' s2/\Turn X.prog X.w X.K tg J fp it tn/\tn 0 s2.heap/\(∀ b∈fp,Q43 X pins H' b)/\R J H'
def PI (X:Cx) (tg iter:aH) (wi:TI):Prop:=
 ∀ (pins:List (aB × Obj)) (s:aC) (σ:St) (H:Hp) (R:It->Hp->Prop),Inv X pins σ H s->wi σ H R ->
  aF (aI X.prog X.w) X.A (aO iter X.env) (fun v s1=>aF (aI X.prog X.w) X.A (pyIter v) (PIE X pins σ tg R) X.xe s1) X.xe s
theorem Qcx {M:Model} {A:aL} {E:aA->aC->Prop} {s:aC} {tg:aH} {it:aB} {u:aA} {o:Obj} {n:String} {vs:Array aA} {Q:Unit->aC->Prop} (q:s.heap.get? it=zo o) (z:o.cls=.type n) (hd:o.data=.fields vs)
  (I:["enumerate", "zip", "dict_itemiterator", "dict_reverseitemiterator", "odict_iterator", "itertools.zip_longest", "itertools.pairwise"].contains n=yl) (j:Q () s):aF M A (letOwnedTupleGo tg (.ref it) u) Q E s:=by
 unfold letOwnedTupleGo;cases tg <;> first
  | exact wpAny_pure j
  | (cases u <;> first
    | exact wpAny_pure j
    | (refine aD (wpAny_load q ?_)
       rw [z,hd];show aF M A (if (["enumerate", "zip", "dict_itemiterator", "dict_reverseitemiterator", "odict_iterator", "itertools.zip_longest", "itertools.pairwise"].contains n && vs[0]? == zo (aU _))=yo then _ else _) Q E s;rw [bT (by intro h; rw [I,G7] at h; cases h)];exact wpAny_pure j))
def Itl (K:bW) (a:aB):It:=
 ⟨fun i H=>∃ xs x,SqL K H a xs/\xs[i]?=zo x,fun i H x H'=>H'=H/\∀ xs,SqL K H a xs->xs[i]?=zo x,fun i H=>∃ xs,SqL K H a xs/\xs.length<=i⟩
def Itt (K:bW) (a:aB):It:=
 ⟨fun i H=>∃ xs x,SqT K H a xs/\xs[i]?=zo x,fun i H x H'=>H'=H/\∀ xs,SqT K H a xs->xs[i]?=zo x,fun i H=>∃ xs,SqT K H a xs/\xs.length<=i⟩
def Itr (lo:Int) (n:Nat):It:=⟨fun i _=>i < n,fun i H x H'=>H'=H/\x=.int (lo + i),fun i _=>n<=i⟩
theorem Qdh {P:aK} {w:aJ} {K:bW} {tg:aH} (a it:aB):Turn P w K tg (Itl K a) [it] it (fun i h=>h.IsListIter it a i) where
 mem:=by simp
 obj:=fun i h st b j=>by
  have e:b=it:=by simpa using j
  subst e;obtain ⟨o,e,c,d⟩:=st;exact ⟨o,e,fun v z=>by rw [d] at z; cases z⟩
 keep:=fun i h h' st k=>st.at fun o e=>k it (by simp) o e
 item:=by
  intro X O hw Y hc i pins s σ H E I q st hg;subst O hw Y;obtain ⟨xs,x,J,hx⟩:=hg;obtain ⟨its,rv,p,hz⟩:=I.list J;obtain ⟨u,hu,ru⟩:=rv.get hx;obtain ⟨f0,f1,f2,f3,f4,Z⟩:=q it (by simp);refine wpAny_pyNext_list_item st p.isList (x:=u) (by simpa using hu) fun h' st' sb=>?_
  have I1:Inv X pins σ H { s with heap:=h' }:=I.turned (t':=s.toks) (fun b o j e=>(sb.2 b j).trans e) f0 f1 f3 f4 Z
  obtain ⟨o,e,c,d⟩:=id st';exact ⟨u,rfl,Qcx (s:={ s with heap:=h' }) e c d (by decide) ⟨x,H,I1,ru,⟨rfl,fun ys hy=>by rw [I.list_inj hy J]; exact hx⟩,st',fun b j=>(q b j).1⟩⟩
 done:=by
  intro X O hw Y hc i pins s σ H E I q st hg;subst O hw Y;obtain ⟨xs,J,hx⟩:=hg;obtain ⟨its,rv,p,hz⟩:=I.list J;obtain ⟨f0,f1,f2,f3,f4,Z⟩:=q it (by simp);have hl:=rv.length;exact wpAny_pyNext_list_end (I.ok.hd hc) st p.isList (by simp; omega) fun h' eb=>⟨rfl,I.turned (t':=s.toks) (fun b o j e=>eb b o j e) f0 f1 f3 f4 Z⟩
 self:=fun _ _ _ _ _ st h=>wpAny_pyIter_listiter st h
theorem Qa2 {P:aK} {w:aJ} {K:bW} {tg:aH} (a it:aB):Turn P w K tg (Itt K a) [it] it (fun i h=>h.IsTupleIter it a i) where
 mem:=by simp
 obj:=fun i h st b j=>by
  have e:b=it:=by simpa using j
  subst e;obtain ⟨o,e,c,d⟩:=st;exact ⟨o,e,fun v z=>by rw [d] at z; cases z⟩
 keep:=fun i h h' st k=>st.at fun o e=>k it (by simp) o e
 item:=by
  intro X O hw Y hc i pins s σ H E I q st hg;subst O hw Y;obtain ⟨xs,x,J,hx⟩:=hg;obtain ⟨its,rv,p,hz⟩:=I.tuple J;obtain ⟨u,hu,ru⟩:=rv.get hx;obtain ⟨f0,f1,f2,f3,f4,Z⟩:=q it (by simp);refine wpAny_pyNext_tuple_item st (show s.heap.IsTuple a its.toArray from p) (x:=u) (by simpa using hu) fun h' st' sb=>?_
  have I1:Inv X pins σ H { s with heap:=h' }:=I.turned (t':=s.toks) (fun b o j e=>(sb.2 b j).trans e) f0 f1 f3 f4 Z
  obtain ⟨o,e,c,d⟩:=id st';exact ⟨u,rfl,Qcx (s:={ s with heap:=h' }) e c d (by decide) ⟨x,H,I1,ru,⟨rfl,fun ys hy=>by rw [I.tuple_inj hy J]; exact hx⟩,st',fun b j=>(q b j).1⟩⟩
 done:=by
  intro X O hw Y hc i pins s σ H E I q st hg;subst O hw Y;obtain ⟨xs,J,hx⟩:=hg;obtain ⟨its,rv,p,hz⟩:=I.tuple J;obtain ⟨f0,f1,f2,f3,f4,Z⟩:=q it (by simp);have hl:=rv.length;exact wpAny_pyNext_tuple_end (I.ok.hd hc) st (show s.heap.IsTuple a its.toArray from p) (by simp; omega) fun h' eb=>⟨rfl,I.turned (t':=s.toks) (fun b o j e=>eb b o j e) f0 f1 f3 f4 Z⟩
 self:=fun _ _ _ _ _ st h=>wpAny_pyIter_tupleiter st h
theorem Qa3 {P:aK} {w:aJ} {K:bW} {tg:aH} (it:aB) (lo:Int) (n:Nat):Turn P w K tg (Itr lo n) [it] it (fun i h=>IsRangeIter h it (lo + (i:Nat) * 1) ((n:Int) - (i:Nat)) 1) where
 mem:=by simp
 obj:=fun i h st b j=>by
  have e:b=it:=by simpa using j
  subst e;exact ⟨_,st,fun v z=>by
   have z':Data.fields _=Data.cell v:=z;cases z'⟩
 keep:=fun i h h' st k=>k it (by simp) _ st
 item:=by
  intro X J hw O Z i pins s σ H E I q st hg;subst J hw O;obtain ⟨f0,f1,f2,f3,f4,Y⟩:=q it (by simp);have W:=Walks.range (prog:=X.prog) (w:=X.w) (I.ok.hd Z) it lo 1 n;refine W.item i s _ _ hg st fun v h' tk hv st' kk=>?_
  obtain ⟨t,rfl⟩:=hv;have I1:Inv X pins σ H { s with heap:=h',toks:=tk }:=I.turned (fun b o j e=>kk b o (by simpa using j) e) f0 f1 f3 f4 Y
  refine ⟨_,rfl,Qcx (s:={ s with heap:=h',toks:=tk }) (n := "range_iterator") st' rfl rfl (by decide) ⟨.int (lo + i),H,I1,⟨t,?_⟩,⟨rfl,rfl⟩,st',fun b j=>(q b j).1⟩⟩
  rw [Int.mul_one]
 done:=by
  intro X J hw O Z i pins s σ H E I q st hg;subst J hw O;obtain ⟨f0,f1,f2,f3,f4,Y⟩:=q it (by simp);exact wpAny_pyNext_range_end (I.ok.hd Z) st (by have:n<=i:=hg; omega) fun h' eb=>⟨rfl,I.turned (t':=s.toks) (fun b o j e=>eb b o j e) f0 f1 f3 f4 Y⟩
 self:=fun _ _ _ _ _ st h=>wpAny_pyIter_rangeiter st h
section
variable {X:Cx} {tg:aH}
def Qvb (K:bW) (tl:TE):TI:=fun σ H R=>tl σ H fun x H1=>∃ a,x=.ref a/\(∃ xs,SqL K H1 a xs)/\R (Itl K a) H1
def Qy2 (K:bW) (tl:TE):TI:=fun σ H R=>tl σ H fun x H1=>∃ a,x=.ref a/\(∃ xs,SqT K H1 a xs)/\R (Itt K a) H1
theorem Qkz {l:aH} {tl:TE} (z:PE X l tl):PI X tg l (Qvb X.K tl):=by
 intro pins s σ H R I h;refine thn (z pins s σ H _ I h) fun v s1 ⟨x,H1,j,J,q1⟩=>?_
 obtain ⟨a,e,⟨xs,O⟩,q⟩:=q1;subst e;cases J;obtain ⟨its,Z,p,hz⟩:=j.list O;refine wpAny_pyIter_list p.isList ?_;refine ⟨s1.heap.objs.size,[s1.heap.objs.size],_,_,H1,rfl,j.kept (t':=s1.toks) fun b o e=>O3 _ e,Qdh a _,⟨_,D1 _ rfl,rfl,rfl⟩,fun b Y=>?_,q⟩
 have e:b=s1.heap.objs.size:=by simpa using Y
 subst e;exact j.fpOk (O5 _) (j.hok.fresh (O5 _))
theorem Qqy {l:aH} {tl:TE} (z:PE X l tl):PI X tg l (Qy2 X.K tl):=by
 intro pins s σ H R I h;refine thn (z pins s σ H _ I h) fun v s1 ⟨x,H1,j,J,q1⟩=>?_
 obtain ⟨a,e,⟨xs,O⟩,q⟩:=q1;subst e;cases J;obtain ⟨its,Z,p,hz⟩:=j.tuple O;refine bL (show s1.heap.IsTuple a its.toArray from p) ?_;refine ⟨s1.heap.objs.size,[s1.heap.objs.size],_,_,H1,rfl,j.kept (t':=s1.toks) fun b o e=>O3 _ e,Qa2 a _,⟨_,D1 _ rfl,rfl,rfl⟩,fun b Y=>?_,q⟩
 have e:b=s1.heap.objs.size:=by simpa using Y
 subst e;exact j.fpOk (O5 _) (j.hok.fresh (O5 _))
theorem Qg4 {pins:List (aB × Obj)} {σ:St} {H:Hp} {s:aC} {R:It->Hp->Prop} {E:aA->aC->Prop} {lo hi:Int} {t u v:Tok} {tk:Nat} (I:Inv X pins σ H s) (h1:-(2 ^ 62)<=lo) (h2:lo < 2 ^ 62) (J:-(2 ^ 62)<=hi) (z:hi < 2 ^ 62)
  (q:R (Itr lo (hi - lo).toNat) H):aF (aI X.prog X.w) X.A (pyIter (.ref s.heap.objs.size)) (PIE X pins σ tg R) E { s with heap:=s.heap.push { cls:=.type "range",data:=.fields #[.int lo t,.int hi u,.int 1 v] },toks:=tk }:=by
 refine wpAny_pyIter_range (IsRange.new ..) (small_one h1 h2 J z) ?_;have j:Inv X pins σ H { s with heap:=s.heap.push { cls:=.type "range",data:=.fields #[.int lo t,.int hi u,.int 1 v] },toks:=tk }:=I.kept fun b o e=>O3 _ e
 refine ⟨(s.heap.push { cls:=.type "range",data:=.fields #[.int lo t,.int hi u,.int 1 v] }).objs.size,[(s.heap.push { cls:=.type "range",data:=.fields #[.int lo t,.int hi u,.int 1 v] }).objs.size],_,_,H,rfl,
  j.kept (t':=tk) fun b o e=>O3 _ e,Qa3 _ lo (hi - lo).toNat,?_,fun b O=>?_,q⟩
 ·have e1:lo + ((0:Nat):Int) * 1=lo:=by simp
  have e2:(((hi - lo).toNat:Nat):Int) - ((0:Nat):Int)=Builtin.Range.rangeSize lo hi 1:=by rw [rangeSize_one]; split <;> omega
  show IsRangeIter _ _ (lo + ((0:Nat):Int) * 1) ((((hi - lo).toNat:Nat):Int) - ((0:Nat):Int)) 1;rw [e1,e2];exact D1 _ rfl
 ·have e:b=(s.heap.push { cls:=.type "range",data:=.fields #[.int lo t,.int hi u,.int 1 v] }).objs.size:=by simpa using O
  subst e;exact j.fpOk (O5 _) (j.hok.fresh (O5 _))
def Qva (ta:TA):TI:=fun σ H R=>ta σ H fun vs H1=>∃ j:Int,vs=[.int j]/\-(2 ^ 62)<=j/\j < 2 ^ 62/\R (Itr 0 j.toNat) H1
theorem Qe1 {a:aH} {ta:TA} {p pos:Pos} (O:Gl X "range") (hm:X.mg "range" = zb) (Y:PA X [a] ta) (hs:aN [a] X.env=[(yl,aO a X.env)]:=by rfl):PI X tg (.Call (.Name "range" p) [a] [] pos) (Qva ta):=by
 intro pins s σ H R I h;refine Call_ (zm I O hm boot_range (dX (thn (Y pos pins s σ H _ I h) fun us s1 ⟨vs,H1,z,Z,q1⟩=>?_) hs rfl))
 obtain ⟨j,e,q1,q2,q⟩:=q1;subst e;cases Z with
 | cons r J=>
  cases J;obtain ⟨t,rfl⟩:=r;exact call_range_1 (Qg4 z (by omega) (by omega) q1 q2 (by simpa using q))
def Qxi (wi:TI) (g:TG) (tb:TS):TS:=fun D σ H=>wi σ H fun J H1=>∃ W:Nat->Nat->St->Hp->Prop,(∃ m,W 0 m σ H1)/\∀ i m σ H,W i m σ H ->
 (J.stop i H/\D.nx σ H)\/(J.go i H/\∃ N:St->Hp->Prop,(∀ σ' H',N σ' H'->∃ m',m' < m/\W (i + 1) m' σ' H')/\∀ x H',J.yld i H x H'->g x σ H' fun σ2 H2=>tb { D with nx:=N,ct:=N,bk:=D.nx } σ2 H2)
def Q2e (fp:List aB) (h:Heap):List (aB × Obj):=fp.filterMap fun b=>(h.get? b).map fun o=>(b,o)
theorem V5 {j:List aB} {h:Heap} {b:aB} {o:Obj} (q:b∈j) (e:h.get? b=zo o):(b,o)∈Q2e j h:=dY.mpr ⟨b,q,by rw [e]; rfl⟩
theorem Qe9 {j:List aB} {h:Heap} {p:aB × Obj} (hp:p∈Q2e j h):p.1∈j/\h.get? p.1=zo p.2:=by
 obtain ⟨b,I,e⟩:=dY.mp hp;cases q:h.get? b with
 | none=>rw [q] at e; cases e
 | some o=>
  rw [q] at e;have z:(b,o)=p:=bj e;subst z;exact ⟨I,q⟩
theorem Inv.pinned {pins:List (aB × Obj)} {σ:St} {H:Hp} {s:aC} {j:List aB} (I:Inv X pins σ H s) (hf:∀ b∈j,Q43 X pins H b) (O:∀ b∈j,∃ o,s.heap.get? b=zo o/\∀ v,o.data≠.cell v):Inv X (pins ++ Q2e j s.heap) σ H s:=
 I.pins_of fun p hp=>(E2.mp hp).elim (fun z=>I.pin p (E9 _ z)) fun z=>by
  obtain ⟨J,e⟩:=Qe9 z;obtain ⟨f0,Y,Z,_⟩:=hf p.1 J;obtain ⟨o,q,d⟩:=O p.1 J;rw [e] at q; cases q;exact ⟨e,f0,Y,Z,d⟩
theorem Inv.unpinned {pins pl:List (aB × Obj)} {σ:St} {H:Hp} {s:aC} (I:Inv X (pins ++ pl) σ H s):Inv X pins σ H s:=I.pins_of fun p hp=>I.pin p (E9 _ (G6 _ hp))
theorem Qqv {iter:aH} {body:List aM} {wi:TI} {g:TG} {tb:TS} {pos:Pos} (hp:PassesOwn (aI X.prog X.w) X.A X.env X.xe) (hc:X.calm=yo) (hi:PI X tg iter wi) (hg:PG X tg g) (q:PSs X body tb)
  (hs:∀ x,bH iter X.env x=pure x:=by intro _; rfl):PS X (.For tg iter body [] pos) (Qxi wi g tb):=by
 intro pins s σ H D I h;refine wpAny_For (thn (hi pins s σ H _ I h) fun v s1 h1=>thn h1 fun a9 s2 h2=>?_) hs
 obtain ⟨it,fp,tn,J,H2,e,I2,T,a6,f2,W,⟨m0,w0⟩,turn⟩:=h2;subst e;have z:∀ {H':Hp},(∀ b∈fp,H' b=zb)->∀ b∈fp,Q43 X pins H' b:=fun hn b q=>⟨hn b q,(f2 b q).2⟩
 refine codeAny_forLoop_any (fun n s'=>∃ i Z H',Inv X pins Z H' s'/\tn i s'.heap/\(∀ b∈fp,H' b=zb)/\W i n Z H') ?_ m0 ⟨0,σ,H2,I2,a6,fun b q=>(f2 b q).1,w0⟩
 rintro n s3 ⟨i,a1,H3,I3,a4,a3,w3⟩;rcases turn i n a1 H3 w3 with ⟨stop,qn⟩ | ⟨go,N,hN,step⟩
 ·refine bG hp (thn (T.done X rfl rfl rfl hc i pins s3 a1 H3 X.xe I3 (z a3) a4 stop) fun r s4 ⟨hr,I4⟩=>?_)
  subst hr;exact wpAny_execs_nil ⟨a1,H3,I4,qn⟩
 ·refine bG hp (thn (T.item X rfl rfl rfl hc i pins s3 a1 H3 X.xe I3 (z a3) a4 go) fun r s4 ⟨u,hr,h4⟩=>?_)
  subst hr;refine bG hp (thn h4 fun _ s5 ⟨x,H5,I5,r5,y5,a2,a5⟩=>?_);have a8:=I5.pinned (z a5) (T.obj _ _ a2);refine bG hp (thn (hg _ s5 a1 H5 x u _ a8 r5 (step x H5 y5)) fun _ s6 ⟨a7,H6,I6,q6⟩=>?_)
  refine bG hp (thn (q _ s6 a7 H6 _ I6 q6) fun f s7 q7=>?_)
  have again:∀ {j:St} {Y:Hp},Inv X (pins ++ Q2e fp s5.heap) j Y s7->N j Y->∃ m,m < n/\∃ i Z H',Inv X pins Z H' s7/\tn i s7.heap/\(∀ b∈fp,H' b=zb)/\W i m Z H':=fun {j Y} O n7=>by
   obtain ⟨m',hm,w7⟩:=hN j Y n7;refine ⟨m',hm,i + 1,j,Y,O.unpinned,T.keep _ _ _ a2 fun b q o e=>(O.pin (b,o) (E9 _ (E9 _ (V5 q e)))).1,fun b q=>?_,w7⟩;obtain ⟨o,e,d⟩:=T.obj _ _ a2 b q;exact (O.pin (b,o) (E9 _ (E9 _ (V5 q e)))).2.1
  cases f with
  | next=>obtain ⟨j,Y,O,n7⟩:=q7; exact again O n7
  | cont=>obtain ⟨j,Y,O,n7⟩:=q7; exact again O n7
  | brk=>obtain ⟨j,Y,O,q7⟩:=q7; exact ⟨j,Y,O.unpinned,q7⟩
  | ret v=>obtain ⟨x7,j,Y,O,r7,q7⟩:=q7; exact ⟨x7,j,Y,O.unpinned,r7,q7⟩
end
abbrev R2:=V->V->Hp->VK->Prop
def OpR (X:Cx) (f:aA->aA->Sem aA) (r:R2):Prop:=
 ∀ (pins:List (aB × Obj)) (s:aC) (σ:St) (H:Hp) (x y:V) (v u:aA) (Q:VK),Inv X pins σ H s->RelV x v->RelV y u->r x y H Q ->
  aF (aI X.prog X.w) X.A (f v u) (EP X pins σ Q) X.xe s
def UnR (X:Cx) (f:aA->Sem aA) (r:V->Hp->VK->Prop):Prop:=
 ∀ (pins:List (aB × Obj)) (s:aC) (σ:St) (H:Hp) (x:V) (v:aA) (Q:VK),Inv X pins σ H s->RelV x v->r x H Q ->
  aF (aI X.prog X.w) X.A (f v) (EP X pins σ Q) X.xe s
def Vs (X:Cx) (f:aA) (r:List V->Hp->VK->Prop):Prop:=
 ∀ (pins:List (aB × Obj)) (s:aC) (σ:St) (H:Hp) (xs:List V) (us:List aA) (Q:VK),Inv X pins σ H s->Vals xs us->r xs H Q ->
  aF (aI X.prog X.w) X.A (call f us) (EP X pins σ Q) X.xe s
def tOp (r:R2) (ta tb:TE):TE:=fun σ H Q=>ta σ H fun x H1=>tb σ H1 fun y H2=>r x y H2 Q
def tUn (r:V->Hp->VK->Prop) (ta:TE):TE:=fun σ H Q=>ta σ H fun x H1=>r x H1 Q
def rI (C:Int->Int->Prop) (g:Int->Int->V):R2:=fun x y H Q=>∃ i j,x=.int i/\y=.int j/\C i j/\Q (g i j) H
def rI0 (g:Int->Int->V):R2:=fun x y H Q=>∃ i j,x=.int i/\y=.int j/\Q (g i j) H
def rU (g:Int->V):V->Hp->VK->Prop:=fun x H Q=>∃ i,x=.int i/\Q (g i) H
section
variable {X:Cx} {a b c:aH} {ta tb tc:TE} {pos:Pos}
theorem Qst (Z:PE X a ta) (hb:PE X b tb) {pins:List (aB × Obj)} {s:aC} {σ:St} {H:Hp} {R:V->V->Hp->Prop} (I:Inv X pins σ H s)
  (h:ta σ H fun x H1=>tb σ H1 fun y H2=>R x y H2) {Q:aA->aC->Prop} {f:aA->aA->Sem aA}
  (Y:∀ v u z x y H2,Inv X pins σ H2 z->RelV x v->RelV y u->R x y H2->aF (aI X.prog X.w) X.A (f v u) Q X.xe z) :
  aF (aI X.prog X.w) X.A (aO a X.env) (fun v q=>aF (aI X.prog X.w) X.A (aO b X.env) (fun u j=>aF (aI X.prog X.w) X.A (f v u) Q X.xe j) X.xe q) X.xe s:=by
 refine thn (Z pins s σ H _ I h) fun v s1 ⟨x,H1,J,r1,q1⟩=>?_
 refine thn (hb pins s1 σ H1 _ J q1) fun u z ⟨y,H2,O,r2,q2⟩=>?_
 exact Y v u z x y H2 O r1 r2 q2
theorem Qpd {op:Operator} {r:R2} (j:OpR X (aZ op) r) (Y:PE X a ta) (hb:PE X b tb):PE X (.BinOp a op b pos) (tOp r ta tb):=by
 intro pins s σ H Q I h;exact wpAny_BinOp (Qst Y hb I h fun v u J x y H2 z Z O q=>j pins J σ H2 x y v u Q z Z O q)
theorem Qud {op:UnaryOp} {r:V->Hp->VK->Prop} (j:UnR X (unaryOp op) r) (z:PE X a ta):PE X (.UnaryOp op a pos) (tUn r ta):=by
 intro pins s σ H Q I h;exact UnaryOp_ (thn (z pins s σ H _ I h) fun v s1 ⟨x,H1,q,J,q1⟩=>j pins s1 σ H1 x v Q q J q1)
theorem opI {f:aA->aA->Sem aA} {C:Int->Int->Prop} {g:Int->Int->Int}
  (rule:∀ (i j:Int) (t u:Tok) (s:aC) (Q:aA->aC->Prop) (E:aA->aC->Prop),C i j->Q (.int (g i j) s.toks) { s with toks:=s.toks + 1 }->aF (aI X.prog X.w) X.A (f (.int i t) (.int j u)) Q E s) :
  OpR X f (rI C fun i j=>.int (g i j)):=by
 intro pins s σ H x y v u Q I O J h;obtain ⟨i,j,rfl,rfl,z,q⟩:=h;obtain ⟨t,rfl⟩:=O;obtain ⟨t',rfl⟩:=J;exact rule i j t t' s _ _ z ⟨.int (g i j),H,I.tok _,⟨_,rfl⟩,q⟩
theorem Qun {f:aA->aA->Sem aA} {g:Int->Int->Int}
  (rule:∀ (i j:Int) (t u:Tok) (s:aC) (Q:aA->aC->Prop) (E:aA->aC->Prop),Q (.int (g i j) s.toks) { s with toks:=s.toks + 1 }->aF (aI X.prog X.w) X.A (f (.int i t) (.int j u)) Q E s) :
  OpR X f (rI0 fun i j=>.int (g i j)):=by
 intro pins s σ H x y v u Q I J z h;obtain ⟨i,j,rfl,rfl,q⟩:=h;obtain ⟨t,rfl⟩:=J;obtain ⟨t',rfl⟩:=z;exact rule i j t t' s _ _ ⟨.int (g i j),H,I.tok _,⟨_,rfl⟩,q⟩
theorem Qmh {f:aA->aA->Sem aA} {g:Int->Int->Bool}
  (rule:∀ (i j:Int) (t u:Tok) (s:aC) (Q:aA->aC->Prop) (E:aA->aC->Prop),Q (.bool (g i j)) s->aF (aI X.prog X.w) X.A (f (.int i t) (.int j u)) Q E s) :
  OpR X f (rI0 fun i j=>.bl (g i j)):=by
 intro pins s σ H x y v u Q I J z h;obtain ⟨i,j,rfl,rfl,q⟩:=h;obtain ⟨t,rfl⟩:=J;obtain ⟨t',rfl⟩:=z;exact rule i j t t' s _ _ ⟨.bl (g i j),H,I,rfl,q⟩
def Qye (i j:Int):Prop:=0<=j/\j<=1000000/\i.natAbs < 2 ^ 64
def CMul (i j:Int):Prop:=(-(2 ^ 64) < i/\i < 2 ^ 64)\/(-(2 ^ 64) < j/\j < 2 ^ 64)
theorem CMul.ok {i j:Int} (h:CMul i j):IntMulOk i j:=by
 rcases h with ⟨h1,h2⟩ | ⟨h1,h2⟩
 ·exact .of_left (intBits_le_64 h1 h2)
 ·exact .of_right (intBits_le_64 h1 h2)
theorem Qrj:OpR X (aZ .Add) (rI0 fun i j=>.int (i + j)):=Qun fun _ _ _ _ _ _ _ q=>add_int q
theorem Qrc:OpR X (aZ .Sub) (rI0 fun i j=>.int (i - j)):=Qun fun _ _ _ _ _ _ _ q=>sub_int q
theorem Qrf:OpR X (aZ .Mult) (rI CMul fun i j=>.int (i * j)):=opI fun _ _ _ _ _ _ _ z q=>mul_int q z.ok
theorem Qrg:OpR X (aZ .Mod) (rI (fun _ j=>0 < j) fun i j=>.int (i % j)):=opI fun i j _ _ _ _ _ z q=>by
 have h1:(0:Int) < j:=z;exact mod_int' (by omega) (by rw [Int.fmod_eq_emod_of_nonneg i (by omega)]; exact q)
theorem Qre:OpR X (aZ .Pow) (rI Qye fun i j=>.int (i ^ j.toNat)):=opI fun _ _ _ _ _ _ _ z q=>pow_int_small z.1 z.2.1 z.2.2 q
theorem unI {f:aA->Sem aA} {g:Int->Int}
  (rule:∀ (i:Int) (t:Tok) (s:aC) (Q:aA->aC->Prop) (E:aA->aC->Prop),Q (.int (g i) s.toks) { s with toks:=s.toks + 1 }->aF (aI X.prog X.w) X.A (f (.int i t)) Q E s) :
  UnR X f (rU fun i=>.int (g i)):=by
 intro pins s σ H x v Q I j h;obtain ⟨i,rfl,q⟩:=h;obtain ⟨t,rfl⟩:=j;exact rule i t s _ _ ⟨.int (g i),H,I.tok _,⟨_,rfl⟩,q⟩
theorem Qpy:UnR X (unaryOp .USub) (rU fun i=>.int (-i)):=unI fun _ _ _ _ _ q=>neg_int q
end
section
variable {X:Cx} {a b c:aH} {ta tb tc:TE} {pos:Pos}
theorem Q3j {pins:List (aB × Obj)} {σ:St} {H:Hp} {s:aC} {Q:VK} {k j:Bool} (I:Inv X pins σ H s) (q:Q (.bl k) H) (e:k=j):EP X pins σ Q (.bool j) s:=by
 subst e;exact ⟨.bl k,H,I,rfl,q⟩
theorem Quj:OpR X (aS .Lt) (rI0 fun i j=>.bl (decide (i < j))):=Qmh fun _ _ _ _ _ _ _ q=>lt_int q
theorem Qpg:OpR X (aS .LtE) (rI0 fun i j=>.bl (decide (i<=j))):=Qmh fun _ _ _ _ _ _ _ q=>le_int q
theorem Quk:OpR X (aS .Gt) (rI0 fun i j=>.bl (decide (j < i))):=Qmh fun _ _ _ _ _ _ _ q=>gt_int q
theorem Qum:OpR X (aS .GtE) (rI0 fun i j=>.bl (decide (j<=i))):=Qmh fun _ _ _ _ _ _ _ q=>ge_int q
theorem Qri:OpR X (aS .Is) (fun x y H Q=>y=.non/\Q (.bl (decide (x=.non))) H):=by
 intro pins s σ H x y v u Q I j z h;obtain ⟨rfl,q⟩:=h;cases z;refine is_none_gen (Q3j I q ?_);cases x <;> first
  | (cases j; rfl)
  | (obtain ⟨t,rfl⟩:=j; rfl)
theorem Qmf:OpR X (aS .IsNot) (fun x y H Q=>y=.non/\Q (.bl (!decide (x=.non))) H):=by
 intro pins s σ H x y v u Q I j z h;obtain ⟨rfl,q⟩:=h;cases z;refine isnot_none_gen (Q3j I q ?_);cases x <;> first
  | (cases j; rfl)
  | (obtain ⟨t,rfl⟩:=j; rfl)
theorem OpR.or {f:aA->aA->Sem aA} {r J:R2} (h:OpR X f r) (h':OpR X f J):OpR X f (fun x y H Q=>r x y H Q\/J x y H Q):=by
 intro pins s σ H x y v u Q I z j q;rcases q with q | q
 ·exact h pins s σ H x y v u Q I z j q
 ·exact h' pins s σ H x y v u Q I z j q
theorem Qh8 (b:aH) {op:CmpOp} (h:op≠.In:=by decide) (h2:op≠.NotIn:=by decide):bM op b=yl:=by
 have e1:(op == CmpOp.In)=yl:=by cases op <;> first | rfl | exact absurd rfl h
 have e2:(op == CmpOp.NotIn)=yl:=by cases op <;> first | rfl | exact absurd rfl h2
 cases b <;> simp [bM,e1,e2]
theorem Q6c {op:CmpOp} {r:R2} (j:OpR X (aS op) r) (Y:PE X a ta) (hb:PE X b tb) (hm:bM op b=yl):PE X (.Compare a [op] [b] pos) (tOp r ta tb):=by
 intro pins s σ H Q I h;exact wpAny_Compare1 (Qst Y hb I h fun v u J x y H2 z Z O q=>j pins J σ H2 x y v u Q z Z O q) hm
def Qp5 (t:TE):TT:=fun σ H Q=>t σ H fun x H'=>∃ k,x=.bl k/\Q k H'
theorem Qkn {op:CmpOp} {r:R2} (j:OpR X (aS op) r) (ha:PE X a ta) (hb:PE X b tb) (hm:bM op b=yl):PT X (.Compare a [op] [b] pos) (Qp5 (tOp r ta tb)):=by
 intro pins s σ H Q I h;refine wpAny_isTrue_Compare1 (thn (ha pins s σ H _ I h) fun v s1 ⟨x,H1,q,r1,q1⟩=>thn (hb pins s1 σ H1 _ q q1) fun u O ⟨y,H2,Y,r2,q2⟩=>
  thn (j pins O σ H2 x y v u _ Y r1 r2 q2) fun c s3 ⟨z,J,Z,r3,k,e,q3⟩=>?_) hm
 subst e;cases r3;exact bB ⟨J,Z,q3⟩
def Qa5 (r r':R2) (ta tb tc:TE):TE:=fun σ H Q=>ta σ H fun x H1=>tb σ H1 fun y H2=>r x y H2 fun z H3=>∃ k,z=.bl k /\
 (if k=yo then tc σ H3 fun w' H4=>r' y w' H4 Q else Q (.bl yl) H3)
theorem Qgr {op j:CmpOp} {r Y:R2} (ho:OpR X (aS op) r) (q:OpR X (aS j) Y) (ha:PE X a ta) (hb:PE X b tb) (hc:PE X c tc)
  (hm:lastMarks [op,j] [b,c]=yl:=by with_unfolding_all rfl):PE X (.Compare a [op,j] [b,c] pos) (Qa5 r Y ta tb tc):=by
 intro pins s σ H Q I h;refine Compare_chain (thn (ha pins s σ H _ I h) fun v s1 ⟨x,H1,I1,r1,q1⟩=>chain_link (thn (hb pins s1 σ H1 _ I1 q1) fun u s2 ⟨y,H2,I2,O,q2⟩=>
  thn (ho pins s2 σ H2 x y v u _ I2 r1 O q2) fun d s3 ⟨z,J,Z,r3,k,e,q3⟩=>?_)) hm
 subst e;cases r3;refine bB ?_;cases k with
 | false=>exact ite_ff ⟨.bl yl,J,Z,rfl,q3⟩
 | true=>exact ite_tt (chain_last (thn (hc pins s3 σ J _ Z q3) fun w' s4 ⟨z',H4,I4,r4,q4⟩=>q pins s4 σ H4 y z' u w' Q I4 O r4 q4))
theorem Qg8 {op j:CmpOp} {r Y:R2} (ho:OpR X (aS op) r) (q:OpR X (aS j) Y) (ha:PE X a ta) (hb:PE X b tb) (hc:PE X c tc)
  (hm:lastMarks [op,j] [b,c]=yl:=by with_unfolding_all rfl):PT X (.Compare a [op,j] [b,c] pos) (Qp5 (Qa5 r Y ta tb tc)):=by
 intro pins s σ H Q I h;refine isTrue_chain (thn (ha pins s σ H _ I h) fun v s1 ⟨x,H1,I1,r1,q1⟩=>test_link (thn (hb pins s1 σ H1 _ I1 q1) fun u s2 ⟨y,H2,I2,O,q2⟩=>
  thn (ho pins s2 σ H2 x y v u _ I2 r1 O q2) fun d s3 ⟨z,J,Z,r3,k,e,q3⟩=>?_)) hm
 subst e;cases r3;refine bB ?_;cases k with
 | false=>
  obtain ⟨k',e',q'⟩:=q3;cases e';exact ite_ff ⟨J,Z,q'⟩
 | true=>
  refine ite_tt (test_last (thn (hc pins s3 σ J _ Z q3) fun w' s4 ⟨z',H4,I4,r4,q4⟩=>thn (q pins s4 σ H4 y z' u w' _ I4 O r4 q4) fun d' s5 ⟨z2,H5,I5,r5,k2,e2,q5⟩=>?_))
  subst e2;cases r5;exact bB ⟨H5,I5,q5⟩
theorem Q01:(sizeLine:Nat) < 2 ^ 63:=by rw [sizeLine_eq]; decide
theorem Qan:OpR X (aZ .Add) (fun x y H Q=>∃ i j,x=.str i/\y=.str j/\i.length + j.length<=sizeLine/\Q (.str (i ++ j)) H):=by
 intro pins s σ H x y v u Q I J z h;obtain ⟨i,j,rfl,rfl,hz,q⟩:=h;obtain ⟨t,rfl⟩:=J;obtain ⟨t',rfl⟩:=z;exact add_str (fun t' tk=>⟨.str (i ++ j),H,I.tok _,⟨_,rfl⟩,q⟩) hz
theorem Xt {x:V} {j:List aA} (r:Vals [x] j):∃ u,j=[u]/\RelV x u:=by
 cases r with
 | cons z q=>cases q; exact ⟨_,rfl,z⟩
theorem Qtj {x y:V} {q:List aA} (r:Vals [x,y] q):∃ u j,q=[u,j]/\RelV x u/\RelV y j:=by
 cases r with
 | cons J I=>
  cases I with
  | cons O z=>cases z; exact ⟨_,_,rfl,J,O⟩
end
structure ObjM (h:Heap) (x dx C:aB) (mA:Str->Option aA):Prop where
 obj:h.get? x=zo (eY C dx)
 ns:h.Ns1 dx mA
 ne:dx≠x
theorem Qej {h:Heap} {dx:aB} {mA:Str->Option aA} (n:h.Ns1 dx mA):∃ I,h.get? dx=zo I/\∀ name,em name I=zo (mA name):=by
 obtain ⟨o,es,ep,J,hd,O,_,hm⟩:=n;refine ⟨o,J,fun name=>?_⟩;have e:=hm name;unfold nsFind findBy at e;rw [<- Array.find?_toList] at e;unfold em;rw [hd];dsimp only
 split
 ·rename_i y q;rw [q] at e;exact congrArg zo e
 ·rename_i q;rw [q] at e;have a:es.toList.any (·.refKey)=yl:=by
   rw [dF];intro y Y;obtain ⟨z,t,j⟩:=O y (eu.mp Y);simp [DictEntry.refKey,j]
  have Z:¬ es.toList.any (·.refKey)=yo:=by rw [a]; exact D3
  rw [bT Z];exact congrArg zo e
theorem ObjM.look {h:Heap} {x dx C:aB} {mA:Str->Option aA} (I:ObjM h x dx C mA):∃ j,PySem.W.InstAt h x (eY C dx) C (zo j)/\∀ name,em name j=zo (mA name):=
 let ⟨j,q,z⟩:=Qej I.ns
 ⟨j,⟨I.obj,rfl,rfl,q⟩,z⟩
section
variable {prog:aK} {w:aJ} {A:aL} {E:aA->aC->Prop} {s:aC} {K:bW} {x dx C f:aB} {mA:Str->Option aA} {name:Str} {v:aA}
end
theorem RelO.some_of {v:V} {o:Option aA} (r:RelO (zo v) o):∃ u,o=zo u/\RelV v u:=by
 cases o with
 | none=>exact (show False from r).elim
 | some u=>exact ⟨u,rfl,r⟩
section
variable {P:aK} {w:aJ} {H H':Hp} {h h':Heap} {a C dx:aB} {fs fs':List (Str × V)}
theorem Qna (hok:HOk P w H h) (e:H a=zo (.ins C dx fs)):∃ mA,ObjM h a dx C mA/\(∀ f,RelO (fs.lookup f) (mA f))/\fm mA (fs.map (·.1))/\fs.length<=1000/\H dx=zo (.own a):=by
 obtain ⟨d,z,ne,ob,mA,n,r,q⟩:=(show ObjOk P w H h a (.ins C dx fs) from hok a _ e);exact ⟨mA,⟨ob,n,ne⟩,r,q,z,d⟩
end
structure Cls (K:bW) (C:aB):Prop where
 pg:fu K C bx=yo
 hd:PySem.W.hasDictIn K C=yo
 po:PySem.W.plainOver K C=yo
 sa:fv K (.ref C) "__setattr__" = zo (zo (.builtin "object.__setattr__"))
theorem Cls.get {K:bW} {C:aB} (c:Cls K C) (f:Str):fu K C f=yo:=c.pg
section
variable {X:Cx} {pins:List (aB × Obj)} {σ:St} {H:Hp} {s:aC} {a C dx:aB} {fs:List (Str × V)} {f:Str} {v:V} {A:aL} {E:aA->aC->Prop}
end
section
variable {X:Cx} {o e value:aH} {f:Str} {pos pos' tpos:Pos} {ta tv:TE}
end
section
variable {X:Cx} {pins:List (aB × Obj)} {σ:St} {H:Hp} {s:aC} {A:aL} {E:aA->aC->Prop} {Q:aA->aC->Prop} {c:aA} {b:Bool}
inductive TyOf (K:bW) (H:Hp):V->aA->Prop where
 | non:TyOf K H .non (.type "NoneType")
 | bl (x:Bool):TyOf K H (.bl x) (.type "bool")
 | int (i:Int):TyOf K H (.int i) (.type "int")
 | str (x:Str):TyOf K H (.str x) (.type "str")
 | flt (x:UInt64):TyOf K H (.flt x) (.type "float")
 | lst {a:aB} {xs:List V} (e:H a=zo (.lst xs)):TyOf K H (.ref a) (.type "list")
 | frz {a:aB} {o:Obj} {xs:List V} (e:H a=zo (.frz o (.lst xs))):TyOf K H (.ref a) (.type "list")
 | tup {a:aB} {xs:List V} (e:H a=zo (.tup xs)):TyOf K H (.ref a) (.type "tuple")
 | dK {a:aB} {kvs:List (Key × V)} (e:H a=zo (.dK kvs)):TyOf K H (.ref a) (.type "dict")
 | dT {a:aB} {kvs:List (HK × V)} (e:H a=zo (.dT kvs)):TyOf K H (.ref a) (.type "dict")
 | ins {a C dx:aB} {fs:List (Str × V)} (e:H a=zo (.ins C dx fs)) (cl:Cls K C) (ha:fv K (.ref C) "__class__" = zo (zo (.builtin "object.__class__")))
   (hn:PySem.W.specialIn K (.builtin "object.__class__") "__get__" = zo (zo (.builtin "getset_descriptor.__get__"))) (htk:PySem.W.takesIn K (.builtin "object.__class__")=zo yo)
   (hm:PySem.W.mroIn K C (.type "object")=zo yo):TyOf K H (.ref a) (.ref C)
theorem Qen {x:V} {u t:aA} (I:Inv X pins σ H s) (j:RelV x u) (ty:TyOf X.K H x t) (e:fA X.K t c=zo b) (h:∀ tk,Q (.bool b) { s with toks:=tk }) :
  aF (aI X.prog X.w) A (call (.builtin "isinstance") [u,c]) Q E s:=by
 cases ty with
 | non=>cases (show u=bZ from j); exact cF PySem.W.kitx_none I.kIn True.intro e (fun z=>nomatch z) h
 | bl y=>cases (show u=dE y from j); exact cF PySem.W.kitx_bool I.kIn True.intro e (fun z=>nomatch z) h
 | int i=>obtain ⟨t,q⟩:=(show ∃ t,u=di i t from j); cases q; exact cF PySem.W.kitx_int I.kIn True.intro e (fun z=>nomatch z) h
 | str y=>obtain ⟨t,q⟩:=(show ∃ t,u=dj y t from j); cases q; exact cF PySem.W.kitx_str I.kIn True.intro e (fun z=>nomatch z) h
 | flt y=>obtain ⟨t,q⟩:=(show ∃ t,u=fk y t from j); cases q; exact cF PySem.W.kitx_float I.kIn True.intro e (fun z=>nomatch z) h
 | @lst a xs Y=>
  cases (show u=bY a from j);obtain ⟨_,_,n,_,h1⟩:=(show ObjOk X.prog X.w H s.heap a (.lst xs) from I.hok a _ Y);exact cF fw I.kIn ⟨_,h1,rfl⟩ e (fun z=>nomatch z) h
 | @frz a ob xs Y=>
  cases (show u=bY a from j);obtain ⟨_,_,_,n,_,h1⟩:=(show ObjOk X.prog X.w H s.heap a (.frz ob (.lst xs)) from I.hok a _ Y);exact cF fw I.kIn ⟨_,h1,rfl⟩ e (fun z=>nomatch z) h
 | @tup a xs Y=>
  cases (show u=bY a from j);obtain ⟨_,_,_,p⟩:=(show ObjOk X.prog X.w H s.heap a (.tup xs) from I.hok a _ Y);obtain ⟨o,h1,h2,_⟩:=p;exact cF PySem.W.kitx_tuple I.kIn ⟨o,h1,h2⟩ e (fun z=>nomatch z) h
 | @dK a kvs Y=>
  cases (show u=bY a from j);obtain ⟨_,_,vs,_,p⟩:=(show ObjOk X.prog X.w H s.heap a (.dK kvs) from I.hok a _ Y);obtain ⟨o,es,ep,h1,h2,_⟩:=p;exact cF fx I.kIn ⟨o,h1,h2.1⟩ e (fun z=>nomatch z) h
 | @dT a kvs Y=>
  cases (show u=bY a from j);obtain ⟨_,_,xs,_,o,es,ep,h1,h2,_⟩:=(show ObjOk X.prog X.w H s.heap a (.dT kvs) from I.hok a _ Y);exact cF fx I.kIn ⟨o,h1,h2.1⟩ e (fun z=>nomatch z) h
 | @ins a C dx fs Y cl ha hn Z hm=>
  cases (show u=bY a from j);obtain ⟨mA,O,_⟩:=Qna I.hok Y;obtain ⟨od,J,_⟩:=O.look;exact cF (PySem.W.kitx_own (cl.get _) cl.hd ha hn Z hm) I.kIn J e (fun z=>nomatch z) h
end
structure Room (k:Nat) (A:aL):Prop where
 hd:A.handled=zb
 dp:A.depth + 3 * k + 5 < recursionLimit
 un:A.units + 16 * k + 200 < aQ
theorem Room.mono {j k:Nat} {A:aL} (r:Room k A) (h:j<=k):Room j A:=⟨r.hd,by have:=r.dp; omega,by have:=r.un; omega⟩
theorem Room.deeper {k:Nat} {A:aL} (r:Room (k + 1) A) (env:Env):Room k (A.deeper env):=
 ⟨r.hd,by have:=r.dp; show A.depth + 1 + 3 * k + 5 < _; omega,by have:=r.un; show A.units + 3 + 16 * k + 200 < _; omega⟩
theorem Room.depth {k:Nat} {A:aL} (r:Room k A):A.depth < recursionLimit:=by have:=r.dp; omega
theorem Room.units {k:Nat} {A:aL} (r:Room k A):A.units + 64 < aQ:=by have:=r.un; omega
def Qxf:TA:=fun _ H Q=>Q [] H
def Qtu (ta:TE) (tr:TA):TA:=fun σ H Q=>ta σ H fun x H1=>tr σ H1 fun xs H2=>Q (x :: xs) H2
section
variable {X:Cx} {e:aH} {es:List aH} {te:TE} {t:TA} {pos:Pos}
theorem Xg:PA X [] Qxf:=fun _ _ _ _ H Q I h=>Calls.spliced_nil ⟨[],H,I,.nil,h⟩
theorem Wq (J:PE X e te) (z:PA X es t) (hs:aN (e :: es) X.env=(yl,aO e X.env) :: aN es X.env:=by rfl):PA X (e :: es) (Qtu te t):=by
 intro pos pins s σ H Q I h;rw [hs];show aF _ _ (spliced ((yl,aO e X.env) :: aY pos (aN es X.env))) _ _ s;refine Calls.spliced_cons (thn (J pins s σ H _ I h) fun u s1 ⟨x,H1,j,Y,q1⟩=>?_)
 exact thn (z pos pins s1 σ H1 _ j q1) fun us Z ⟨xs,H2,q,O,q2⟩=>⟨x :: xs,H2,q,.cons Y O,q2⟩
def Qx9 (t:TA):TE:=fun σ H Q=>t σ H fun xs H1=>xs.length<=sizeLine/\∀ p,H1 p=zb->Q (.ref p) (upd H1 p (.tup xs))
def Qxg (t:TA):TE:=fun σ H Q=>t σ H fun xs H1=>xs.length<=sizeLine/\∀ p,H1 p=zb->Q (.ref p) (upd H1 p (.lst xs))
theorem Qr2 {x1} (h:PA X es t):PE X (.Tuple es x1 pos) (Qx9 t):=by
 intro pins s σ H Q I Y;refine wpAny_Tuple_spliced (thn (h pos pins s σ H _ I Y) fun O s1 ⟨xs,H1,j,r,z,q⟩=>⟨by rw [<- r.length]; exact z,?_⟩)
 have J:H1 s1.heap.objs.size=zb:=j.hok.fresh (O5 _);refine ⟨.ref s1.heap.objs.size,upd H1 s1.heap.objs.size (.tup xs),j.laid (t':=s1.toks) (fun b u e=>O3 _ e) (O5 _) ?_,rfl,q _ J⟩;exact ⟨z,O,r,⟨_,D1 _ rfl,rfl,_,rfl⟩⟩
theorem Qgn (h:PA X es t):PE X (.List es pos) (Qxg t):=by
 intro pins s σ H Q I Y;refine wpAny_List_spliced (thn (h pos pins s σ H _ I Y) fun O s1 ⟨xs,H1,j,r,z,q⟩=>⟨by rw [<- r.length]; exact z,?_⟩)
 have J:H1 s1.heap.objs.size=zb:=j.hok.fresh (O5 _);refine ⟨.ref s1.heap.objs.size,upd H1 s1.heap.objs.size (.lst xs),j.laid (t':=s1.toks) (fun b u e=>O3 _ e) (O5 _) ?_,rfl,q _ J⟩;exact ⟨z,O,0,r,D1 _ rfl⟩
end
abbrev Sp:=List V->Hp->VK->XK->Prop
abbrev CXT:=List Env->Hp->aC->XK->aA->aC->Prop
structure Env0 (P:aK) (w:aJ) (K:bW) (mg:Str->Option aA) (base:Heap) (A:aL) (outer:List Env) (s:aC) (H:Hp):Prop where
 frames:A.frames=zo outer
 mod:Mod K mg base
 bs:∀ b o,base.get? b=zo o->s.heap.get? b=zo o/\H b=zb
 bsz:base.objs.size<=s.heap.objs.size
 funs:s.heap.FunFrames base outer
 frf:∀ b∈frs outer,H b=zb
 hok:HOk P w H s.heap
 bare:AllBare s.gens
def CE (outer:List Env) (P:aK) (w:aJ) (H:Hp) (s:aC) (Q:VK) (u:aA) (s':aC):Prop:=
 ∃ v H',s'.os=s.os/\AllBare s'.gens/\Un (frs outer) [] H H' s.heap s'.heap/\HOk P w H' s'.heap/\RelV v u/\Q v H'
def CR (CX:CXT) (outer:List Env) (P:aK) (w:aJ) (H:Hp) (s:aC) (Q:VK) (E:XK) (r:Result) (s':aC):Prop:=
 match r with
 | .ok (.ret u)=>CE outer P w H s Q u s'
 | .ok _=>False
 | .error e=>CX outer H s E e s'
structure FnOk (P:aK) (w:aJ) (K:bW) (mg:Str->Option aA) (base:Heap) (CX:CXT) (k:Nat) (f:aB) (fd:aP) (ps:List Str) (sp:Sp):Prop where
 len:∀ vs H Q E,sp vs H Q E->vs.length=ps.length
 run:∀ (A:aL) (outer:List Env) (s:aC) (H:Hp) (args:Args) (us:List aA) (vs:List V) (Q:VK) (E:XK),Room k A->Env0 P w K mg base A outer s H->BindsTo s fd args (ps.zip us)->Vals vs us->sp vs H Q E ->
  codeAny (aI P w) A (.call (.ref f) args) (CR CX outer P w H s Q E) s
theorem FnOk.imp {P:aK} {w:aJ} {K:bW} {mg:Str->Option aA} {base:Heap} {CX:CXT} {k:Nat} {f:aB} {fd:aP} {ps:List Str} {sp j:Sp} (F:FnOk P w K mg base CX k f fd ps sp)
  (h:∀ vs H Q E,j vs H Q E->sp vs H Q E):FnOk P w K mg base CX k f fd ps j:=
 ⟨fun vs H Q E q=>F.len vs H Q E (h _ _ _ _ q),fun A outer s H args J vs Q E z I Y O hs=>F.run A outer s H args J vs Q E z I Y O (h _ _ _ _ hs)⟩
section
variable {X:Cx} {pins:List (aB × Obj)} {σ:St} {H:Hp} {s s':aC}
theorem Inv.env0 (I:Inv X pins σ H s):Env0 X.prog X.w X.K X.mg X.base X.A X.stack s H:=
 ⟨I.ok.frames,I.ok.mod,I.bs,E1 I.ok.bsz I.sz,I.stack,I.stkFree,I.hok,I.bare⟩
theorem Inv.after {Q:VK} {u:aA} (I:Inv X pins σ H s) (h:CE X.stack X.prog X.w H s Q u s'):EP X pins σ Q u s':=by
 obtain ⟨v,H',os,bare,un,hok,r,q⟩:=h;obtain ⟨J,g,d,t,j⟩:=s';obtain rfl:j=s.os:=os;exact ⟨v,H',I.call (h':=J) (g':=g) (d':=d) (t':=t) (ch:=[]) un hok bare (fun b z=>absurd z (by simp)),r,q⟩
end
def Qtv (sp:Sp) (dvs:List V) (E:XK) (t:TA):TE:=fun σ H Q=>t σ H fun vs H1=>sp (vs ++ dvs) H1 Q E
def Binds (K:bW) (fd:aP) (ps:List Str) (ds:List aA):Prop:=
 ∀ (s:aC) (us:List aA),K.In s.heap->(us ++ ds).length=ps.length->BindsTo s fd ⟨us,[]⟩ (ps.zip (us ++ ds))
theorem Binds.all {K:bW} {fd:aP} {ps:List Str} (h:∀ j:List aA,j.length=ps.length->bindArgs fd ⟨j,[]⟩=pure (ps.zip j)):Binds K fd ps []:=fun s j _ q=>by
 rw [cC] at q ⊢;exact .of_eq (h j q)
def Q41 (CX:CXT) (X:Cx) (E:XK):Prop:=∀ (pins:List (aB × Obj)) (σ:St) (H:Hp) (s:aC) (e:aA) (s':aC),Inv X pins σ H s->CX X.stack H s E e s'->X.xe e s'
section
variable {X:Cx} {CX:CXT} {k:Nat} {f C:aB} {fd:aP} {ps:List Str} {sp:Sp} {dvs:List V} {ds:List aA} {E:XK} {x m:Str} {p pos apos:Pos} {e o:aH} {es:List aH} {ta:TE} {t:TA}
theorem Qqj {pins:List (aB × Obj)} {σ:St} {H:Hp} {s:aC} {Q:VK} {j:List aA} {vs:List V} (F:FnOk X.prog X.w X.K X.mg X.base CX k f fd ps sp) (O:Room k X.A) (Z:Binds X.K fd ps ds) (hd:Vals dvs ds) (J:Q41 CX X E)
  (I:Inv X pins σ H s) (r:Vals vs j) (h:sp (vs ++ dvs) H Q E):aF (aI X.prog X.w) X.A (call (.ref f) j) (EP X pins σ Q) X.xe s:=by
 have z:Vals (vs ++ dvs) (j ++ ds):=r.append hd;have Y:(j ++ ds).length=ps.length:=by rw [<- z.length]; exact F.len _ _ _ _ h
 refine wpAny_call (bQ (F.run X.A X.stack s H ⟨j,[]⟩ (j ++ ds) (vs ++ dvs) Q E O I.env0 (Z s j I.kIn Y) z h) fun r s' q=>?_)
 cases r with
 | error e=>exact J pins σ H s e s' I q
 | ok fl=>
  cases fl with
  | ret u=>exact I.after q
  | next=>exact False.elim q
  | brk=>exact False.elim q
  | cont=>exact False.elim q
theorem Qm6 (F:FnOk X.prog X.w X.K X.mg X.base CX k f fd ps sp) (Z:Room k X.A) (hg:Gl X x) (hm:X.mg x=zo (.ref f)) (Y:cX X.K (.ref f)=yo) (hb:Binds X.K fd ps ds) (hd:Vals dvs ds) (O:Q41 CX X E)
  (ha:PA X (e :: es) t) (j:(x == ("__debug__" : Str))=yl:=by decide) (he:aN (e :: es) X.env=(yl,aO e X.env) :: aN es X.env:=by rfl) (z:(aY pos (aN es X.env)).any (·.1)=yl:=by rfl) :
  PE X (.Call (.Name x p) (e :: es) [] pos) (Qtv sp dvs E t):=by
 intro pins s σ H Q I h;refine wpAny_Call_Name_kw (Q6x I hg hm ?_ j);refine PySem.W.callWith_K (h₀:=X.base) I.ok.mod.kin Y (thn (ha pos pins s σ H _ I h) fun us s1 ⟨vs,H1,J,r,q⟩=>⟨J.kIn,?_⟩) he z
 exact Qqj F Z hb hd O J r q
end
section
variable {X:Cx} {CX:CXT} {k:Nat} {f C:aB} {fd:aP} {ps ks:List Str} {sp:Sp} {E:XK} {x m:Str} {p pos apos kpos:Pos} {e o:aH} {es:List aH} {kws:List Keyword} {te ta:TE} {t tk:TA} {nm:Option Str}
variable {g:List aA->List aA->List aA} {gV:List V->List V->List V}
end
structure FnScope (N P:List Str) (sc:Scope):Prop where
 kind:sc.kind=.function
 co:sc.isCoroutine=yl
 gen:sc.isGenerator=yl
 nd:N.Nodup
 pre:N.take P.length=P
 par:∀ x∈P,sc.names.lookup x=zo .local\/sc.names.lookup x=zo .cell
 nofree:∀ y∈sc.names,y.2≠.free
theorem Q5m {kindOf:Str->Option au} {x:Str}:∀ {binds:List (Str × aA)} {m:Str->Option aA},(∀ v,(x,v)∉binds)->bindL kindOf binds m x=m x
 | [],_,_=>rfl
 | (n,v) :: r,m,h=>by
  unfold bindL;rw [Q5m fun w j=>h w (O4 _ j)]
  split
  ·have:x≠n:=by rintro rfl; exact h v F2
   simp [this]
  ·rfl
theorem Q5p {kindOf:Str->Option au} {x:Str}:∀ {binds:List (Str × aA)} {m:Str->Option aA},(∀ v,(x,v)∉binds)->bindC kindOf binds m x=m x
 | [],_,_=>rfl
 | (n,v) :: r,m,h=>by
  unfold bindC;rw [Q5p fun w j=>h w (O4 _ j)]
  split
  ·rfl
  ·have:x≠n:=by rintro rfl; exact h v F2
   simp [this]
theorem Q5n {kindOf:Str->Option au} {x:Str} {v:aA}:∀ {P:List Str} {vs:List aA} {i:Nat} {m:Str->Option aA},P.Nodup->P[i]?=zo x->vs[i]?=zo v->kindOf x=zo .local ->
  bindL kindOf (P.zip vs) m x=zo v
 | [],_,_,_,_,h,_,_=>by simp at h
 | _ :: _,[],_,_,_,_,h,_=>by simp at h
 | p :: P,w :: vs,0,m,nd,h1,h2,j=>by
  simp at h1 h2; subst h1; subst h2;show bindL kindOf ((p,w) :: P.zip vs) m p=_;unfold bindL;rw [Q5m fun v q=>(cY.mp nd).1 (fB q).1,bS j]
  simp
 | p :: P,w :: vs,i + 1,m,nd,h1,h2,j=>by
  show bindL kindOf ((p,w) :: P.zip vs) m x=_;unfold bindL;exact Q5n (i:=i) (cY.mp nd).2 (by simpa using h1) (by simpa using h2) j
theorem Q5q {kindOf:Str->Option au} {x:Str} {v:aA}:∀ {P:List Str} {vs:List aA} {i:Nat} {m:Str->Option aA},P.Nodup->P[i]?=zo x->vs[i]?=zo v->kindOf x≠zo .local ->
  bindC kindOf (P.zip vs) m x=zo v
 | [],_,_,_,_,h,_,_=>by simp at h
 | _ :: _,[],_,_,_,_,h,_=>by simp at h
 | p :: P,w :: vs,0,m,nd,h1,h2,j=>by
  simp at h1 h2; subst h1; subst h2;show bindC kindOf ((p,w) :: P.zip vs) m p=_;unfold bindC;rw [Q5p fun v q=>(cY.mp nd).1 (fB q).1,bT j]
  simp
 | p :: P,w :: vs,i + 1,m,nd,h1,h2,j=>by
  show bindC kindOf ((p,w) :: P.zip vs) m x=_;unfold bindC;exact Q5q (i:=i) (cY.mp nd).2 (by simpa using h1) (by simpa using h2) j
def start (N:List Str) (vs:List V):St:=vs.map zo ++ ba (N.length - vs.length) zb
def Qew (CX:CXT) (P:aK) (w:aJ) (K:bW) (mg:Str->Option aA) (base:Heap) (N:List Str) (qual:Str) (scope:Scope) (f:aB) (cd:aA) (A:aL) (outer:List Env) (s:aC) (H:Hp) (E:XK):Cx where
 prog:=P
 w:=w
 K:=K
 mg:=mg
 base:=base
 A:=A.deeper (envOfC qual scope s.heap.objs.size f cd)
 N:=N
 s₀:=s
 H₀:=H
 env:=envOfC qual scope s.heap.objs.size f cd
 outer:=outer
 stack:=envOfC qual scope s.heap.objs.size f cd :: outer
 ex:=[]
 calm:=yo
 fn:=fun _=>yo
 pn:=[]
 xe:=fun e s'=>aF (aI P w) (A.deeper (envOfC qual scope s.heap.objs.size f cd)) (leaving (envOfC qual scope s.heap.objs.size f cd) e) (fun _ s''=>CX outer H s E e s'') (fun e' s''=>CX outer H s E e' s'') s'
theorem Q9p {sc:Scope} {n:Nat} {x:Str} (h:sc.names.lookup x=zo .cell):∃ c,(ah n sc.names []).lookup x=zo c:=by
 have q:=fC sc.names n [] (.inl h);exact fy.mp q
theorem Qep {CX:CXT} {P:aK} {w:aJ} {K:bW} {mg:Str->Option aA} {base:Heap} {N ps:List Str} {qual:Str} {scope:Scope} {f:aB} {cd:aA} {A:aL} {outer:List Env} {s s1:aC} {H:Hp} {E:XK} {Y:List aA} {vs:List V}
  (S:FnScope N ps scope) (hd:A.handled=zb) (j:Env0 P w K mg base A outer s H) (hl:vs.length=ps.length) (r:Vals vs Y)
  (x:InCallC s s.heap.objs.size (bindL (envOfC qual scope s.heap.objs.size f cd).kindOf (ps.zip Y) fun _=>zb) (ah (s.heap.objs.size + 1) scope.names []) (bindC (envOfC qual scope s.heap.objs.size f cd).kindOf (ps.zip Y) fun _=>zb) s1) :
  Inv (Qew CX P w K mg base N qual scope f cd A outer s H E) [] (start N vs) H s1:=by
 have a1:ps.length<=N.length:=by have:=congrArg dG S.pre; rw [cN] at this; omega
 obtain ⟨h1,tk,rfl,hk⟩:=x.done;have J:∀ b:aB,b∉(Qew CX P w K mg base N qual scope f cd A outer s H E).ex:=fun b z=>absurd (show b∈([]:List aB) from z) (by simp)
 refine ⟨⟨j.mod,S.kind,rfl,rfl,O5 _,fun y z c h1 h2=>?_,fun y I=>?_,fun y c _ h=>?_,fun _=>hd,Around.frames_deeper j.frames,.inr ⟨rfl,rfl⟩,fun b z=>absurd z (J b),j.bs,j.bsz,fun b _ _=>J b,fun b z=>absurd z (J b),j.funs,j.frf⟩,
  rfl,j.bare,Un.kept hk,⟨_,x.toInCall.ns,fun i y v h1 h2 h3=>?_⟩,fun y c h=>⟨_,x.cell y c h⟩,j.hok.fresh (O5 _),fun y c h=>?_,fun p hp=>absurd (show p∈([]:List (aB × Obj)) from hp) (by simp),j.hok.kept hk,?_⟩
 ·exact name_of_addr x.apart (cO h1) (cO h2)
 ·have I:scope.names.lookup y=zo .cell\/scope.names.lookup y=zo .free:=I;rcases I with I | I
  ·exact Q9p I
  ·exact absurd rfl (S.nofree _ (cO I))
 ·exact cr (x.above y c (cO h))
 ·have hi:i < vs.length:=by
   unfold start at h2
   by_cases hi:i < vs.length
   ·exact hi
   ·rw [D4 (by simpa using hi)] at h2;rw [gB] at h2
    split at h2 <;> cases h2
  have ha:vs[i]?=zo v:=by
   unfold start at h2;rw [O7 (by simpa using hi),D7] at h2;cases e:vs[i]? with
   | none=>rw [e] at h2; cases h2
   | some a=>rw [e] at h2; cases h2; rfl
  obtain ⟨u,Z,rv⟩:=r.get ha;have hp:ps[i]?=zo y:=by
   rw [<- S.pre,List.getElem?_take_of_lt (by omega)]; exact h1
  have O:ps.Nodup:=by rw [<- S.pre]; exact S.nd.sublist (gC _ _)
  refine ⟨u,rv,?_⟩;rcases S.par y (E3 hp) with k | k
  ·exact .inl ⟨k,Q5n O hp Z k⟩
  ·obtain ⟨c,e⟩:=Q9p (n:=s.heap.objs.size + 1) k;refine .inr ⟨.inl k,c,e,?_⟩;have q:=x.cell y c e;rw [Q5q O hp Z (by show scope.names.lookup y≠_; rw [k]; decide)] at q;exact q
 ·exact j.hok.fresh (cr (x.above y c (cO h)))
 ·unfold start;show _=N.length;rw [O6,O1,List.length_replicate];omega
theorem Qvs {CX:CXT} {P:aK} {w:aJ} {K:bW} {mg:Str->Option aA} {base:Heap} {k:Nat} {f:aB} {name qual:Str} {z:Arguments} {body:List aM} {scope:Scope} {dV kV a2 pm j ct oc:aA} {an od:Option aB}
  {a4:Array (Option aA)} {N ps:List Str} {sp:Sp} (lk:K.lookup f=zo ⟨oc,od,.func (br name qual z body scope dV kV a2 pm an j ct),a4⟩) (a3:cs K j qual=yo) (S:FnScope N ps scope)
  (len:∀ vs H Q E,sp vs H Q E->vs.length=ps.length)
  (Y:∀ (A:aL) (outer:List Env) (s:aC) (H:Hp) (vs:List V) (Q:VK) (E:XK),Room k (A.deeper (envOfC qual scope s.heap.objs.size f j))->sp vs H Q E ->
   ∃ t,PSs (Qew CX P w K mg base N qual scope f j A outer s H E) body t/\t { nx:=fun _ H'=>Q .non H',rt:=Q } (start N vs) H) :
  FnOk P w K mg base CX (k + 1) f (br name qual z body scope dV kV a2 pm an j ct) ps sp:=by
 refine ⟨len,fun A outer s H args us vs Q E hr e0 hb r a1=>?_⟩;have hl:=len _ _ _ _ a1;have KX:K.In s.heap:=e0.mod.kin.keeps fun b o e=>(e0.bs b o e).1
 have lim:s.heap.NoLimit:=e0.mod.nolimit.keeps fun b o e=>(e0.bs b o e).1
 have Z:∀ y∈ps.zip us,scope.names.lookup y.1=zo .local\/(scope.names.lookup y.1=zo .cell/\((ah (s.heap.objs.size + 1) scope.names []).lookup y.1).isSome=yo):=fun ⟨n,v⟩ hy=>by
  rcases S.par n (fB hy).1 with q | q
  ·exact .inl q
  ·exact .inr ⟨q,fC _ _ _ (.inl q)⟩
 refine codeAny_call_function hr.depth (KX _ _ lk) rfl S.co S.gen rfl (PySem.W.codeRec_of KX a3) (hb _ _ _ _ ?_);refine wpAny_newFunctionEnv_cells S.kind Z fun env he s1 x=>?_
 subst he;refine ⟨lim.keeps x.toInCall.keep,codeAny_func ?_⟩;obtain ⟨t,ht,hq⟩:=Y A outer s H vs Q E (hr.deeper _) a1;have I:Inv (Qew CX P w K mg base N qual scope f j A outer s H E) [] (start N vs) H s1:=Qep S hr.hd e0 hl r x;refine ao (ht [] s1 (start N vs) H _ I hq) (fun fl s' hs=>?_) fun e s' hs=>hs
 have fin:∀ {O:St} {H':Hp} {v:V} {u:aA},Inv (Qew CX P w K mg base N qual scope f j A outer s H E) [] O H' s'->RelV v u->Q v H'->CE outer P w H s Q u s':=
  fun {O H' v u} J rv q=>⟨v,H',J.os,J.bare,J.base,J.hok,rv,q⟩
 cases fl with
 | ret u=>
  obtain ⟨v,O,H',J,rv,q⟩:=hs;exact fin J rv q
 | next=>
  obtain ⟨O,H',J,q⟩:=hs;exact fin (v:=V.non) (u:=bZ) J rfl q
 | brk=>
  obtain ⟨_,_,_,q⟩:=hs;exact False.elim q
 | cont=>
  obtain ⟨_,_,_,q⟩:=hs;exact False.elim q
section
variable {X:Cx} {x:Str} {p pos:Pos} {e:aH} {es:List aH} {t:TA} {id T:String} {r:List V->Hp->VK->Prop}
def tCB (r:List V->Hp->VK->Prop) (t:TA):TE:=fun σ H Q=>t σ H fun vs H1=>r vs H1 Q
theorem yg (J:Vs X (.builtin id) r) (Y:Gl X x) (hm:X.mg x=zb) (hv:aX x=zo (.builtin id)) (ha:PA X (e :: es) t) (O:x≠"__name__" := by decide) (j:(x == ("__debug__" : Str))=yl:=by decide)
  (Z:aN (e :: es) X.env=(yl,aO e X.env) :: aN es X.env:=by rfl) (q:(aY pos (aN es X.env)).any (·.1)=yl:=by rfl):PE X (.Call (.Name x p) (e :: es) [] pos) (tCB r t):=by
 intro pins s σ H Q I h;refine wpAny_Call_Name_kw (zm I Y hm hv ?_ O j);exact il (thn (ha pos pins s σ H _ I h) fun us s1 ⟨vs,H1,z,r1,q1⟩=>J pins s1 σ H1 vs us Q z r1 q1) Z q
theorem Xy (J:Vs X (.type T) r) (Y:Gl X x) (hm:X.mg x=zb) (hv:aX x=zo (.type T)) (ha:PA X (e :: es) t) (O:x≠"__name__" := by decide) (j:(x == ("__debug__" : Str))=yl:=by decide)
  (Z:aN (e :: es) X.env=(yl,aO e X.env) :: aN es X.env:=by rfl) (q:(aY pos (aN es X.env)).any (·.1)=yl:=by rfl):PE X (.Call (.Name x p) (e :: es) [] pos) (tCB r t):=by
 intro pins s σ H Q I h;refine wpAny_Call_Name_kw (zm I Y hm hv ?_ O j);exact dX (thn (ha pos pins s σ H _ I h) fun us s1 ⟨vs,H1,z,r1,q1⟩=>J pins s1 σ H1 vs us Q z r1 q1) Z q
end
end L2
namespace HT
open PySem PyProof.Rows
def lexLt:List Int->List Int->Bool
 | [],[]=>yl
 | [],_ :: _=>yo
 | _ :: _,[]=>yl
 | x :: xs,y :: ys=>if x=y then lexLt xs ys else decide (x < y)
theorem Qay (x y:Int) (xs ys:List Int):lexLt (x :: xs) (y :: ys)=if x=y then lexLt xs ys else decide (x < y):=rfl
theorem Q4c:lexLt [] []=yl:=rfl
theorem Q37 (y:Int) (ys:List Int):lexLt [] (y :: ys)=yo:=rfl
theorem Q38 (x:Int) (xs:List Int):lexLt (x :: xs) []=yl:=rfl
theorem Qir (A:aL) (s:aC) (a:Int) (t:Tok) (c:Int) (u:Tok):∃ e,SeqAt.EqAt A s (.int a t) (.int c u) e/\(e=yo <-> a=c):=
 ⟨(a == c),SeqAt.EqAt.int_int a t c u,by simp⟩
theorem Qg1 (A:aL) (s:aC) (a:Int) (t:Tok) (c:Int) (u:Tok) (prog:aK) (w:aJ) (E:aA->aC->Prop) (Q:aA->aC->Prop) (h:Q (.bool (decide (a < c))) s) :
  aF (aI prog w) A (richCompare .Lt (.int a t) (.int c u)) Q E s:=
 (im h:aF (aI prog w) A (aS .Lt (.int a t) (.int c u)) Q E s)
section
open PySem.SeqAt
open PySem.AutoSeq1 (wpAny_loadPart')
open PySem.MeetsSeq PySem.MeetsSeq2 PySem.MeetsSeq3
theorem Q45 (l b:aB) (z j:Array aA) (n n2:Nat) (dd a7:Option aB) (sl a8:Array (Option aA)) (ns ms:List Int) (hi:IntsAre z.toList ns) (hj:IntsAre j.toList ms) :
  Meets (Builtin.«tuple.__lt__» ⟨[.ref l,.ref b],[]⟩)
   (fun _ R s=>s.heap.get? l=zo { cls:=.type "tuple",dict:=dd,data:=.seq z n,slots:=sl }/\s.heap.get? b=zo { cls:=.type "tuple",dict:=a7,data:=.seq j n2,slots:=a8 } /\
    R (.ok (.ret (.bool (lexLt ns ms)))) s):=
 .of_wp fun prog w A R s h=>by
  obtain ⟨hp,g,d,tk,os⟩:=s; obtain ⟨hl,hb,h⟩:=h;have f2:=AutoSeq1.sub_tuple_tuple;have z1:z.size=ns.length:=by rw [<- hi.length]; simp
  have z2:j.size=ms.length:=by rw [<- hj.length]; simp
  wp_walk using wpAny_loadPart' hl,wpAny_loadPart' hb,wpAny_forIn_list _ (fun rest b s'=>b.1=zb/\s'=⟨hp,g,d,tk,os⟩/\∃ (vs ws:List aA) (J O:List Int),rest=vs.zip ws /\
   IntsAre vs J/\IntsAre ws O/\J.length + j.size=O.length + z.size/\R (.ok (.ret (.bool (lexLt J O)))) ⟨hp,g,d,tk,os⟩) _
  case turn=>
   rintro ⟨y,x⟩ rest b s' ⟨a3,rfl,vs,ws,J,O,hz,a4,Y,I,Z⟩;cases a4 with
   | nil=>rw [List.zip_nil_left] at hz; cases hz
   | cons a t a5=>
    cases Y with
    | nil=>rw [List.zip_nil_right] at hz; cases hz
    | cons c u a6=>
     rw [dw] at hz;injection hz with b0 a2
     injection b0 with hy hx
     subst hy hx;rw [Qay] at Z;simp only [D5] at I;obtain ⟨e,he,a1⟩:=Qir A.in1 ⟨hp,g,d,tk,os⟩ a t c u;refine aD (he prog w _ _ ?_);cases e with
     | true=>
      rw [bS (a1.mp rfl)] at Z
      wp_walk
      exact ⟨rfl,rfl,_,_,_,_,a2,a5,a6,by omega,Z⟩
     | false=>
      rw [bT (fun q=>absurd (a1.mpr q) D3)] at Z
      have a9:=Qg1 A.in1 ⟨hp,g,d,tk,os⟩ a t c u prog w
      wp_walk using a9
      exact ⟨_,rfl,by simpa using Z⟩
  case fin=>
   rintro ⟨b1,b2⟩ s' ⟨a3,rfl,vs,ws,J,O,hz,a4,Y,I,Z⟩;simp only at a3;subst a3;have hv:lexLt J O=decide (z.size < j.size):=by
    cases a4 with
    | nil=>
     cases Y with
     | nil=>
      simp only [cu] at I;rw [Q4c];exact (bU (by omega)).symm
     | cons c u hw=>
      simp only [cu,D5] at I;rw [Q37];exact (bV (by omega)).symm
    | cons a t hv=>
     cases Y with
     | nil=>
      simp only [cu,D5] at I;rw [Q38];exact (bU (by omega)).symm
     | cons c u hw=>
      rw [dw] at hz;cases hz
   rw [hv] at Z
   wp_walk
   exact ⟨_,rfl,by simpa [Builtin.Tuple.tupleCompareSizes] using Z⟩
  case h=>
   exact ⟨rfl,rfl,z.toList,j.toList,ns,ms,rfl,hi,hj,by omega,h⟩
end
section
variable {prog:aK} {w:aJ} {A:aL} {E:aA->aC->Prop} {s:aC}
theorem lt_tupInts {l b:aB} {q j:Array aA} {ns ms:List Int} {Q:aA->aC->Prop} (Z:IsTup s.heap l q) (hb:IsTup s.heap b j) (hi:IntsAre q.toList ns) (hj:IntsAre j.toList ms)
  (O:A.units < aQ) (h:Q (.bool (lexLt ns ms)) s):aF (aI prog w) A (aS .Lt (.ref l) (.ref b)) Q E s:=by
 obtain ⟨⟨cls,dd,data,Y⟩,ho,hc,n,hd⟩:=id Z;obtain ⟨⟨J,I,data2,z⟩,ho2,hc2,n2,hd2⟩:=id hb;simp only at hc hd hc2 hd2;subst hc hd hc2 hd2;exact richCompare_meets_room (op:=.Lt) ⟨_,ho,rfl⟩ ⟨_,ho2,rfl⟩ PySem.F.slot_tuple_lt PySem.F.entry_tuple_lt (PySem.F.args_tuple_lt_2 _ _) (Q45 l b q j n n2 dd I Y z ns ms hi hj)
  ⟨ho,ho2,show dE (lexLt ns ms)≠gD/\Q (.bool (lexLt ns ms)) s from ⟨(fun x=>nomatch x),h⟩⟩ O
theorem cat_tup {t b:aB} {vs ws:List aA} {Q:aA->aC->Prop} (Y:IsTup s.heap t vs.toArray) (Z:IsTup s.heap b ws.toArray) (O:vs≠[])
  (h1:ws=[]->Q (.ref t) s) (h2:ws≠[]->Q (.ref s.heap.objs.size) { s with heap:=s.heap.push { cls:=.type "tuple",data:=.seq (vs ++ ws).toArray } })
  (hsz:vs.length + ws.length<=sizeLine):aF (aI prog w) A (aZ .Add (.ref t) (.ref b)) Q E s:=by
 obtain ⟨⟨cls,dd,data,I⟩,ho,hc,n,hd⟩:=id Y;obtain ⟨⟨J,q,data2,j⟩,ho2,hc2,n2,hd2⟩:=id Z;simp only at hc hd hc2 hd2;subst hc hd hc2 hd2;have e:vs.toArray ++ ws.toArray=(vs ++ ws).toArray:=by simp
 by_cases z:ws=[]
 ·exact concat_meets ⟨_,ho,rfl⟩ ⟨_,ho2,rfl⟩ noFill_tuple_add seq_tuple_add fD fE (fF _ _)
   (tuple_addW1 t b vs.toArray ws.toArray n n2 dd q I j (by simpa using O) (by simp [z])) ⟨ho,ho2,h1 z⟩
 ·refine concat_meets ⟨_,ho,rfl⟩ ⟨_,ho2,rfl⟩ noFill_tuple_add seq_tuple_add fD fE (fF _ _)
   (tuple_addW2 t b vs.toArray ws.toArray n n2 dd q I j (by simpa using O) (by simpa using z) (by rw [O8,O8]; exact hsz)) ⟨ho,ho2,?_⟩
  rw [e];exact h2 z
def sIx (n d:Nat):Option Int->Nat
 | none=>d
 | some v=>if v < 0 then (v + (n:Int)).toNat else min v.toNat n
theorem sIx_none (n d:Nat):sIx n d zb=d:=rfl
theorem sIx_nat (n d k:Nat):sIx n d (zo (k:Int))=min k n:=by
 show (if (k:Int) < 0 then ((k:Int) + (n:Int)).toNat else min (k:Int).toNat n)=min k n;rw [bT (by omega),bo]
theorem Qqh (n d:Nat) (hd:d<=n) (o:Option Int):sIx n d o<=n:=by
 cases o with
 | none=>exact hd
 | some v=>
  show (if v < 0 then (v + (n:Int)).toNat else min v.toNat n)<=n
  by_cases j:v < 0
  ·rw [bS j]; omega
  ·rw [bT j]; exact Nat.min_le_right _ _
theorem Qd2 (v:Int) (n d:Nat):(if v < 0 then max (v + (n:Int)) 0 else min v (n:Int))=((sIx n d (zo v):Nat):Int):=by
 show (if v < 0 then max (v + (n:Int)) 0 else min v (n:Int))=(((if v < 0 then (v + (n:Int)).toNat else min v.toNat n):Nat):Int)
 by_cases j:v < 0
 ·simp only [bS j]; omega
 ·simp only [bT j]; omega
theorem Qbq (lo hi:Option Int) (n:Nat):Builtin.Slice.sliceAdjust lo hi 1 (n:Int)=(((sIx n 0 lo:Nat):Int),((sIx n n hi:Nat):Int)):=by
 have h1:¬ ((1:Int) < 0):=by omega
 unfold Builtin.Slice.sliceAdjust;simp only [h1,if_false];refine dZ ?_ ?_
 ·cases lo with
  | none=>rfl
  | some v=>exact Qd2 v n 0
 ·cases hi with
  | none=>rfl
  | some v=>exact Qd2 v n n
theorem Qai (i j:Nat):Builtin.Slice.slicePlaces (i:Int) (j:Int) 1=j - i:=by
 unfold Builtin.Slice.slicePlaces;have h1:(1:Int) > 0:=by omega
 simp only [h1,if_true,Int.ediv_one]
 split <;> omega
theorem Q1w {v:aA} {o:Option Int} {Q:Option Int->aC->Prop} (p:IsPart v o) (h:Q o s):aF (aI prog w) A (Builtin.Slice.slicePartIndex v) Q E s:=by
 cases p with
 | none=>exact slicePart_none h
 | int i t=>exact slicePart_int h
theorem Xw {J:aB} {I z:aA} {lo hi:Option Int} {n:Nat} {Q:Int × Int × Nat->aC->Prop} (hs:s.heap.IsSliceOf J I z .none) (pl:IsPart I lo) (O:IsPart z hi)
  (h:Q (((sIx n 0 lo:Nat):Int),1,sIx n n hi - sIx n 0 lo) s):aF (aI prog w) A (Builtin.Slice.sliceApplied (.ref J) (pure (n:Int))) Q E s:=by
 obtain ⟨os,q,Y,j⟩:=id hs;unfold Builtin.Slice.sliceApplied Builtin.Slice.sliceFields;refine aD (aD (aw q j (x:=I) rfl (aD (aw q j (x:=z) rfl (aD (aw q j (x:=.none) rfl (wpAny_pure ?_)))))));refine aD (slicePart_none ?_);show aF _ _ (if ((1:Int) == 0)=yo then _ else _) _ _ s;rw [bT (by decide)];refine aD (Q1w pl (aD (Q1w O (aD (wpAny_pure ?_)))));show aF _ _ (match Builtin.Slice.sliceAdjust lo hi 1 (n:Int) with | (lo,hi)=>pure (lo,(1:Int),Builtin.Slice.slicePlaces lo hi 1)) _ _ s
 rw [Qbq lo hi n];show aF _ _ (pure (((sIx n 0 lo:Nat):Int),(1:Int),Builtin.Slice.slicePlaces ((sIx n 0 lo:Nat):Int) ((sIx n n hi:Nat):Int) 1)) _ _ s;rw [Qai];exact wpAny_pure h
theorem Qgi (xs:Array aA) (i k:Nat):((bX k).filterMap fun (m:Nat)=>xs[((i:Int) + (m:Int) * 1).toNat]?).toArray=((xs.toList.drop i).take k).toArray:=by
 have e:(fun (m:Nat)=>xs[((i:Int) + (m:Int) * 1).toNat]?)=fun m=>xs[i + m]?:=by
  funext m;have:((i:Int) + (m:Int) * 1).toNat=i + m:=by omega
  rw [this]
 rw [e];have:=pick_run xs i k;rw [gE] at this;have e2:((fun x=>xs[x]?) ∘ fun x=>i + x)=fun m=>xs[i + m]?:=rfl
 rw [e2] at this;rw [this]
theorem getItem_tuple_cut {t J:aB} {j:Array aA} {vl vu:aA} {lo hi:Option Int} {Q:aA->aC->Prop} (I:IsTup s.heap t j) (hs:s.heap.IsSliceOf J vl vu .none) (pl:IsPart vl lo) (pu:IsPart vu hi)
  (hw:¬ (sIx j.size 0 lo=0/\sIx j.size j.size hi=j.size))
  (h:Q (.ref s.heap.objs.size) { s with heap:=s.heap.push { cls:=.type "tuple",data:=.seq ((j.toList.drop (sIx j.size 0 lo)).take (sIx j.size j.size hi - sIx j.size 0 lo)).toArray } })
  (hsz:j.size<=sizeLine):aF (aI prog w) A (getItem (.ref t) (.ref J)) Q E s:=by
 have z:sizeOk (.seq ((j.toList.drop (sIx j.size 0 lo)).take (sIx j.size j.size hi - sIx j.size 0 lo)).toArray):=by
  show ((j.toList.drop (sIx j.size 0 lo)).take (sIx j.size j.size hi - sIx j.size 0 lo)).toArray.size<=sizeLine;rw [O8,cN,cv,bc];omega
 have hj:sIx j.size j.size hi<=j.size:=Qqh _ _ (O5 _) hi;obtain ⟨os,Y,O,a2⟩:=id hs;have a1:s.TypeIs (.ref J) "slice" := ⟨os,Y,O⟩;unfold getItem
 try with_reducible refine ae ?_
 first | refine aD (wpAny_pure ?_) | skip
 refine aD (wpAny_sequenceKey I.typeIs (by decide) ?_);refine aD (wpAny_callSpecial?_slot (name:=cP "__getitem__") I.typeIs dy
  (af dy I.typeIs entry_tuple_getitem ?_ (args_tuple_getitem _ _)))
 show aF _ _ (Builtin.Tuple.tupleItemsOf (.ref t) >>= _) _ _ s;refine aD (tupleItemsOf_ I ?_);refine aD (bC a1 ?_);rw [bS (by decide)];refine aD (Xw hs pl pu ?_);have Z:¬ ((((sIx j.size 0 lo:Nat):Int) == 0 && (1:Int) == 1 && (sIx j.size j.size hi - sIx j.size 0 lo) == j.size)=yo):=by
  intro q;rw [E6,E6] at q;have q1:((sIx j.size 0 lo:Nat):Int)=0:=eq_of_beq q.1.1;have q2:sIx j.size j.size hi - sIx j.size 0 lo=j.size:=eq_of_beq q.2;exact hw ⟨by omega,by omega⟩
 show aF _ _ (if (((sIx j.size 0 lo:Nat):Int) == 0 && (1:Int) == 1 && (sIx j.size j.size hi - sIx j.size 0 lo) == j.size)=yo then _ else _) _ _ s;rw [bT Z,Qgi]
 first
  | exact aD (m:=Builtin.Tuple.tupleExact _) (aq (wpAny_pure ⟨_,rfl,wpAny_pure h⟩) z)
  | exact aD (m:=Builtin.Tuple.tupleExact _) (aq (aD (wpAny_pure (wpAny_pure ⟨_,rfl,wpAny_pure h⟩))) z)
  | exact aD (aD (m:=Builtin.Tuple.tupleExact _) (aq (wpAny_pure (wpAny_pure ⟨_,rfl,wpAny_pure h⟩)) z))
  | exact aD (aD (m:=Builtin.Tuple.tupleExact _) (aq (wpAny_pure ⟨_,rfl,wpAny_pure h⟩) z))
end
end HT
namespace L2
open PySem PySem.Spec PyProof.Rows
abbrev TO:=St->Hp->(Option Int->Hp->Prop)->Prop
def PO (X:Cx) (e:Option aH) (t:TO):Prop:=
 ∀ (pins:List (aB × Obj)) (s:aC) (σ:St) (H:Hp) (Q:Option Int->Hp->Prop),Inv X pins σ H s->t σ H Q ->
  aF (aI X.prog X.w) X.A (evalPart e X.env) (fun u s'=>∃ o H',Inv X pins σ H' s'/\IsPart u o/\Q o H') X.xe s
def Qjs:TO:=fun _ H Q=>Q zb H
def Qtp (t:TE):TO:=fun σ H Q=>t σ H fun x H1=>∃ i,x=.int i/\Q (zo i) H1
theorem Q3d {ns:List Int}:∀ {j:List aA},Vals (ns.map V.int) j->IntsAre j ns:=by
 induction ns with
 | nil=>intro j r; rw [gF] at r; cases r; exact .nil
 | cons n ns z=>
  intro j r;rw [D2] at r;cases r with
  | cons I q=>
   obtain ⟨t,e⟩:=I;subst e;exact .cons n t (z q)
section
variable {X:Cx} {e:aH} {te:TE} {lo hi:Option aH} {tl th:TO} {pos p2:Pos}
theorem Qkx:PO X zb Qjs:=by
 intro pins s σ H Q I h;rw [evalPart_none];exact wpAny_pure ⟨zb,H,I,.none,h⟩
theorem Qkw (h:PE X e te):PO X (zo e) (Qtp te):=by
 intro pins s σ H Q I z;rw [evalPart_some];refine thn (h pins s σ H _ I z) fun u s1 ⟨x,H1,j,J,q1⟩=>?_
 obtain ⟨i,rfl,q⟩:=q1;obtain ⟨t,rfl⟩:=J;exact ⟨zo i,H1,j,.int i t,q⟩
def SlR (X:Cx) (r:V->Option Int->Option Int->Hp->VK->Prop):Prop:=
 ∀ (pins:List (aB × Obj)) (s:aC) (σ:St) (H:Hp) (x:V) (v vl vu:aA) (lo hi:Option Int) (sl:aB) (Q:VK),Inv X pins σ H s->RelV x v->s.heap.IsSliceOf sl vl vu .none->IsPart vl lo->IsPart vu hi->r x lo hi H Q ->
  ∃ T id,typeLookup (.type T) "__getitem__" = pure (zo (.builtin id))/\s.TypeIs v T/\aF (aI X.prog X.w) X.A (getItem v (.ref sl)) (EP X pins σ Q) X.xe s
theorem SlR.or {r Y:V->Option Int->Option Int->Hp->VK->Prop} (h:SlR X r) (h':SlR X Y):SlR X (fun x lo hi H Q=>r x lo hi H Q\/Y x lo hi H Q):=by
 intro pins s σ H x v Z z lo hi j Q I J hs pl O q;rcases q with q | q
 ·exact h pins s σ H x v Z z lo hi j Q I J hs pl O q
 ·exact h' pins s σ H x v Z z lo hi j Q I J hs pl O q
def tSl (r:V->Option Int->Option Int->Hp->VK->Prop) (te:TE) (tl th:TO):TE:=fun σ H Q=>te σ H fun x H1=>tl σ H1 fun l H2=>th σ H2 fun u H3=>r x l u H3 Q
theorem Qgm {r:V->Option Int->Option Int->Hp->VK->Prop} (hr:SlR X r) (he:PE X e te) (hl:PO X lo tl) (Z:PO X hi th):PE X (.Subscript e (.Slice lo hi zb p2) pos) (tSl r te tl th):=by
 intro pins s σ H Q I h;refine Subscript_ (thn (he pins s σ H _ I h) fun v s1 ⟨x,H1,Y,r1,q1⟩=>?_)
 refine wpAny_Slice (thn (hl pins s1 σ H1 _ Y q1) fun z s2 ⟨l,H2,I2,pl,q2⟩=>thn (Z pins s2 σ H2 _ I2 q2) fun J j ⟨u,O,I3,pu,q3⟩=>?_)
 rw [evalPart_none];refine wpAny_pure ?_;have I4:Inv X pins σ O { j with heap:=j.heap.push { cls:=.type "slice",data:=.fields #[z,J,.none] } }:=I3.kept (t':=j.toks) fun b ob q=>O3 _ q
 obtain ⟨T,id,hT,ht,hg⟩:=hr pins { j with heap:=j.heap.push { cls:=.type "slice",data:=.fields #[z,J,.none] } } σ O x v z J l u j.heap.objs.size Q I4 r1 (Heap.IsSliceOf.new ..) pl pu q3;show aF (aI X.prog X.w) X.A (subscriptTail e (.Slice lo hi zb p2) v (.ref j.heap.objs.size)) (EP X pins σ Q) X.xe { j with heap:=j.heap.push { cls:=.type "slice",data:=.fields #[z,J,.none] } };exact tail_any (ops:=[.ref j.heap.objs.size,v]) ht hT hg (by with_unfolding_all rfl)
def Q9i (xs:List V) (lo hi:Option Int):List V:=(xs.drop (HT.sIx xs.length 0 lo)).take (HT.sIx xs.length xs.length hi - HT.sIx xs.length 0 lo)
theorem Q0m (xs:List V) (lo hi:Option Int):(Q9i xs lo hi).length<=xs.length:=by
 unfold Q9i;rw [cN,cv];omega
def Qxp (K:bW):V->Option Int->Option Int->Hp->VK->Prop:=fun x lo hi H Q=>∃ a xs,x=.ref a/\SqT K H a xs /\
 ¬ (HT.sIx xs.length 0 lo=0/\HT.sIx xs.length xs.length hi=xs.length)/\∀ p,H p=zb->Q (.ref p) (upd H p (.tup (Q9i xs lo hi)))
theorem sl_tup:SlR X (Qxp X.K):=by
 intro pins s σ H x v vl vu lo hi sl Q I Y hs pl Z h;obtain ⟨a,xs,rfl,J,O,q⟩:=h;cases Y;obtain ⟨its,r,z,hz⟩:=I.tuple J;have j:its.toArray.size=xs.length:=by rw [O8]; exact r.length.symm
 refine ⟨"tuple",_,PyProof.Rows.slot_tuple_getitem.lookup,z.typeIs,?_⟩;refine HT.getItem_tuple_cut z hs pl Z (by rw [j]; exact O) ?_ (by rw [j]; exact hz);rw [j];refine ⟨.ref s.heap.objs.size,_,I.laid (t':=s.toks) (o:=.tup (Q9i xs lo hi)) (fun b ob q=>O3 _ q) (O5 _) ?_,rfl,q _ (I.hok.fresh (O5 _))⟩;exact ⟨E1 (Q0m xs lo hi) hz,_,(r.drop (HT.sIx xs.length 0 lo)).take (HT.sIx xs.length xs.length hi - HT.sIx xs.length 0 lo),IsTup.new _ _⟩
def Qxs (K:bW):R2:=fun x y H Q=>∃ a b ns ms,x=.ref a/\y=.ref b/\SqT K H a (ns.map V.int)/\SqT K H b (ms.map V.int)/\Q (.bl (HT.lexLt ns ms)) H
theorem Qrh (J:X.A.units < aQ):OpR X (aS .Lt) (Qxs X.K):=by
 intro pins s σ H x y v u Q I rx Z h;obtain ⟨a,b,ns,ms,rfl,rfl,ha,hb,q⟩:=h;cases rx;cases Z;obtain ⟨its,r1,Y,_⟩:=I.tuple ha;obtain ⟨j,r2,p2,_⟩:=I.tuple hb;have z:IntsAre its.toArray.toList ns:=Q3d r1;have O:IntsAre j.toArray.toList ms:=Q3d r2;exact HT.lt_tupInts Y p2 z O J ⟨.bl (HT.lexLt ns ms),H,I,rfl,q⟩
def Qp9 (K:bW):R2:=fun x y H Q=>∃ a b xs ys,x=.ref a/\y=.ref b/\SqT K H a xs/\SqT K H b ys/\xs≠[]/\xs.length + ys.length<=sizeLine /\
 (ys=[]->Q (.ref a) H)/\(ys≠[]->∀ p,H p=zb->Q (.ref p) (upd H p (.tup (xs ++ ys))))
theorem Vals.nil_iff {xs:List V} {j:List aA} (r:Vals xs j):j=[] <-> xs=[]:=by
 cases r with
 | nil=>simp
 | cons _ _=>simp
theorem op_catT:OpR X (aZ .Add) (Qp9 X.K):=by
 intro pins s σ H x y v u Q I rx ry h;obtain ⟨a,b,xs,ys,rfl,rfl,ha,hb,Y,hz,q1,q2⟩:=h;cases rx;cases ry;obtain ⟨its,J,Z,_⟩:=I.tuple ha;obtain ⟨O,j,p2,_⟩:=I.tuple hb;refine HT.cat_tup Z p2 (fun z=>Y (J.nil_iff.mp z)) (fun z=>⟨.ref a,H,I,rfl,q1 (j.nil_iff.mp z)⟩) (fun z=>?_) (by rw [<- J.length,<- j.length]; exact hz)
 refine ⟨.ref s.heap.objs.size,_,I.laid (t':=s.toks) (o:=.tup (xs ++ ys)) (fun b ob q=>O3 _ q) (O5 _) ?_,rfl,q2 (fun w=>z (j.nil_iff.mpr w)) _ (I.hok.fresh (O5 _))⟩;exact ⟨by rw [O6]; exact hz,_,J.append j,IsTup.new _ _⟩
end
def ixN (n:Nat) (i:Int):Option Nat:=if 0<=i then (if i < n then zo i.toNat else zb) else if -(n:Int)<=i then zo (i + n).toNat else zb
def atI {α:Type} (xs:List α) (i:Int):Option α:=(ixN xs.length i).bind fun j=>xs[j]?
theorem Qcv {n:Nat} {i:Int} {j:Nat} (h:ixN n i=zo j):seqIndex? i n=zo j/\j < n/\-(n:Int)<=i/\i < n:=by
 unfold ixN at h
 by_cases h0:0<=i
 ·rw [bS h0] at h
  by_cases h1:i < n
  ·rw [bS h1] at h;have e:i.toNat=j:=bj h;exact ⟨by rw [seqIndex_of h0 h1,e],by omega,by omega,h1⟩
  ·rw [bT h1] at h; cases h
 ·rw [bT h0] at h
  by_cases h1:-(n:Int)<=i
  ·rw [bS h1] at h;have e:(i + n).toNat=j:=bj h;exact ⟨by rw [seqIndex_neg (by omega) h1,e],by omega,h1,by omega⟩
  ·rw [bT h1] at h; cases h
theorem atI_get {α:Type} {xs:List α} {i:Int} {v:α} (h:atI xs i=zo v):∃ j,seqIndex? i xs.length=zo j/\xs[j]?=zo v/\j < xs.length/\-(xs.length:Int)<=i/\i < xs.length:=by
 unfold atI at h;cases e:ixN xs.length i with
 | none=>rw [e] at h; cases h
 | some j=>
  rw [e] at h;obtain ⟨h1,h2,q,z⟩:=Qcv e;exact ⟨j,h1,h,h2,q,z⟩
theorem Qd7 {α:Type} {xs:List α} {j:Nat} {v:α} (h:xs[j]?=zo v):atI xs (j:Int)=zo v:=by
 have q:j < xs.length:=(O0.mp h).1;have e:ixN xs.length (j:Int)=zo j:=by
  unfold ixN;rw [bS (by omega),bS (by omega)]; simp
 unfold atI; rw [e]; exact h
def Q7j (b:aH):Prop:=∀ o i,subscripted b yl o i=operate [o,i] (getItem o i)
def IxR (X:Cx) (r:R2):Prop:=
 ∀ (value slice:aH) (pins:List (aB × Obj)) (s:aC) (σ:St) (H:Hp) (x y:V) (v u:aA) (Q:VK),Inv X pins σ H s->RelV x v->RelV y u->r x y H Q ->
  subscripted slice yl v u=operate [v,u] (getItem v u)->aF (aI X.prog X.w) X.A (subscriptTail value slice v u) (EP X pins σ Q) X.xe s
def MtR (X:Cx) (id:String) (r:V->List V->Hp->VK->Prop):Prop:=
 ∀ (pins:List (aB × Obj)) (s:aC) (σ:St) (H:Hp) (x:V) (xs:List V) (v:aA) (us:List aA) (Q:VK),Inv X pins σ H s->RelV x v->Vals xs us->r x xs H Q ->
  aF (aI X.prog X.w) X.A (call (.builtin id) (v :: us)) (EP X pins σ Q) X.xe s
section
variable {X:Cx} {a b:aH} {ta tb:TE} {pos:Pos}
theorem IxR.or {r O:R2} (h:IxR X r) (h':IxR X O):IxR X (fun x y H Q=>r x y H Q\/O x y H Q):=by
 intro value j pins s σ H x y v u Q I J z q hs;rcases q with q | q
 ·exact h value j pins s σ H x y v u Q I J z q hs
 ·exact h' value j pins s σ H x y v u Q I J z q hs
theorem Qpe {r:R2} (J:IxR X r) (Y:PE X a ta) (hb:PE X b tb) (hs:Q7j b):PE X (.Subscript a b pos) (tOp r ta tb):=by
 intro pins s σ H Q I h;exact Subscript_ (Qst Y hb I h fun v u z x y H2 j Z O q=>J a b pins z σ H2 x y v u Q j Z O q (hs _ _))
def Qu5 (K:bW):R2:=fun x y H Q=>∃ p xs i v,x=.ref p/\y=.int i/\SqL K H p xs/\atI xs i=zo v/\Q v H
def Qu3 (K:bW):R2:=fun x y H Q=>∃ p xs i v,x=.ref p/\y=.int i/\SqT K H p xs/\atI xs i=zo v/\Q v H
def Qu4:R2:=fun x y H Q=>∃ z i c,x=.str z/\y=.int i/\z.length<=sizeLine/\atI z.cps.toList i=zo c/\Q (.str ⟨#[c]⟩) H
theorem ix_list:IxR X (Qu5 X.K):=by
 intro value O pins s σ H x y v u Q I rx ry h hs;obtain ⟨p,xs,i,z,rfl,rfl,hq,he,q⟩:=h;cases rx;obtain ⟨t,rfl⟩:=ry;obtain ⟨its,r,pl,hz⟩:=I.list hq;obtain ⟨j,h1,h2,h3,h4,h5⟩:=atI_get he;obtain ⟨w,Z,J⟩:=r.get h2;have hl:=r.length;have hn:=Q01;have fin:EP X pins σ Q w s:=⟨z,H,I,J,q⟩
 by_cases h0:0<=i
 ·have Y:i.toNat=j:=by
   rw [seqIndex_of h0 h5] at h1;exact bj h1
  exact item_listR pl.isList h0 (by omega) (by rw [Y]; simpa using Z) fin hs
 ·have Y:(i + (its.toArray.size:Int)).toNat=j:=by
   rw [seqIndex_neg (by omega) h4] at h1;rw [O8,<- hl];exact bj h1
  exact subscriptTail_builtinR (x:=w) pl.isList.typeIs slot_list_getitem.lookup
   (wpAny_getItem_list_neg (Q:=fun r s'=>r=w/\EP X pins σ Q r s') pl.isList (by omega) (by rw [O8] <;> omega) (by omega) (by rw [Y]; simpa using Z) ⟨rfl,fin⟩) hs
theorem ix_tup:IxR X (Qu3 X.K):=by
 intro value O pins s σ H x y v u Q I rx Y h hs;obtain ⟨p,xs,i,z,rfl,rfl,hq,Z,q⟩:=h;cases rx;obtain ⟨t,rfl⟩:=Y;obtain ⟨its,r,pl,hz⟩:=I.tuple hq;obtain ⟨j,h1,h2,h3,h4,h5⟩:=atI_get Z;obtain ⟨w,ew,J⟩:=r.get h2;have hl:=r.length;have hn:=Q01;have fin:EP X pins σ Q w s:=⟨z,H,I,J,q⟩;exact subscriptTail_builtinR (x:=w) pl.typeIs slot_tuple_getitem.lookup
  (getItem_tuple (j:=j) (Q:=fun r s'=>r=w/\EP X pins σ Q r s') pl (by omega) (by omega) (by rw [O8,<- hl]; exact h1) (by simpa using ew) ⟨rfl,fin⟩) hs
theorem Qsc:IxR X Qu4:=by
 intro value J pins s σ H x y v u Q I rx Z h hs;obtain ⟨z,i,c,rfl,rfl,hz,he,q⟩:=h;obtain ⟨t,rfl⟩:=rx;obtain ⟨t',rfl⟩:=Z;obtain ⟨j,h1,h2,h3,O,Y⟩:=atI_get he;have hl:z.cps.toList.length=z.length:=by simp [Str.length]
 rw [hl] at h1 O Y;have hn:=Q01;exact tail_any (typeIs_str s z t) slot_str_getitem.lookup (getItem_str (c:=c) (by
  have e1:decide (i < -(2 ^ 63:Int))=yl:=bU (by omega);have e2:decide (i>=2 ^ 63)=yl:=bU (by omega);rw [e1,e2,dH]) (by rw [h1]; simpa using h2) ⟨.str ⟨#[c]⟩,H,I.tok _,⟨_,rfl⟩,q⟩) hs
def rIx (K:bW):R2:=fun x y H Q=>Qu5 K x y H Q\/Qu3 K x y H Q\/Qu4 x y H Q
theorem Qhz:IxR X (rIx X.K):=ix_list.or (ix_tup.or Qsc)
theorem Qav (its:List aA) (n j:Nat) (u:aA):bp (·.setIfInBounds j u) { cls:=.type "list",data:=.seq its.toArray n }={ cls:=.type "list",data:=.seq (its.set j u).toArray n }:=by
 simp [bp]
theorem Inv.lst {pins:List (aB × Obj)} {σ:St} {H:Hp} {s:aC} {p:aB} {xs:List V} (I:Inv X pins σ H s) (h:H p=zo (.lst xs)) :
  ∃ (its:List aA) (n:Nat),Vals xs its/\s.heap.get? p=zo { cls:=.type "list",data:=.seq its.toArray n }/\xs.length<=sizeLine:=by
 obtain ⟨z,its,n,r,e⟩:=I.hok p _ h;exact ⟨its,n,r,e,z⟩
theorem Inv.lstUpd {pins:List (aB × Obj)} {σ:St} {H:Hp} {s:aC} {p:aB} {xs ys:List V} {its its':List aA} {n j:Nat} {f:Obj->Obj} (I:Inv X pins σ H s) (h:H p=zo (.lst xs))
  (J:s.heap.get? p=zo { cls:=.type "list",data:=.seq its.toArray n }) (z:f { cls:=.type "list",data:=.seq its.toArray n }={ cls:=.type "list",data:=.seq its'.toArray j }) (r:Vals ys its') (hz:ys.length<=sizeLine) (t:Nat) :
  Inv X pins σ (upd H p (.lst ys)) { s with heap:=s.heap.update p f,toks:=t }:=by
 have e:(s.heap.update p f).get? p=zo { cls:=.type "list",data:=.seq its'.toArray j }:=by
  rw [G8 f J (by rw [z] <;> rfl),z]
 refine I.write (x:=p) (e:=p) (by rw [h]; trivial) (.inl rfl) (fun b u O q=>(F5 _ _ (Ne.symm O)).trans q) ⟨_,e⟩ ?_
 exact ⟨hz,its',j,r,e⟩
def Qu1:V->V->V->Hp->(Hp->Prop)->Prop:=fun o i v H Q=>∃ p xs k j,o=.ref p/\i=.int k/\H p=zo (.lst xs)/\ixN xs.length k=zo j/\Q (upd H p (.lst (xs.set j v)))
theorem Qft:Qw5 X Qu1:=by
 intro pins s σ H o i v ov iv u Q I ro ri rv h;obtain ⟨p,xs,k,j,rfl,rfl,hp,hj,q⟩:=h;cases ro;obtain ⟨t,rfl⟩:=ri;obtain ⟨its,n,r,O,hz⟩:=I.lst hp;obtain ⟨h1,h2,Z,h4⟩:=Qcv hj;have J:=r.length;have hn:=Q01;have Y:Inv X pins σ (upd H p (.lst (xs.set j v))) { s with heap:=s.heap.update p (bp (·.setIfInBounds j u)) }:=
  I.lstUpd hp O (Qav its n j u) (r.set rv j) (by rw [F9]; exact hz) s.toks
 by_cases h0:0<=k
 ·have z:k.toNat=j:=by
   rw [seqIndex_of h0 h4] at h1;exact bj h1
  exact PySem.W.ki_setAt O h0 (by omega) (by rw [O8,<- J]; exact h4) (by rw [z]; exact ⟨_,Y,q⟩)
 ·have z:(k + (its.toArray.size:Int)).toNat=j:=by
   rw [seqIndex_neg (by omega) Z] at h1;rw [O8,<- J];exact bj h1
  exact PySem.W.ki_setBack O (by omega) (by rw [O8,<- J]; exact Z) (by omega) (by rw [z]; exact ⟨_,Y,q⟩)
theorem Q5z (lo hi:Option Int) (n:Nat):(bI lo hi zb n).1=((HT.sIx n 0 lo:Nat):Int)/\(bI lo hi zb n).2.1=((HT.sIx n n hi:Nat):Int)/\(bI lo hi zb n).2.2=1:=by
 refine ⟨?_,?_,rfl⟩
 ·cases lo with
  | none=>simp [bI,HT.sIx]
  | some i=>
   simp only [bI,HT.sIx,gG,show (1:Int) > 0 by decide,if_true]
   by_cases h:i < 0
   ·simp only [h,if_true] <;> omega
   ·simp only [h,if_false] <;> omega
 ·cases hi with
  | none=>simp [bI,HT.sIx]
  | some i=>
   simp only [bI,HT.sIx,gG,show (1:Int) > 0 by decide,if_true]
   by_cases h:i < 0
   ·simp only [h,if_true] <;> omega
   ·simp only [h,if_false] <;> omega
theorem Q46 (its:List aA) (lo hi:Option Int):slicePick its.toArray lo hi zb=((its.drop (HT.sIx its.length 0 lo)).take (HT.sIx its.length its.length hi - HT.sIx its.length 0 lo)).toArray:=by
 obtain ⟨h1,h2,j⟩:=Q5z lo hi its.toArray.size;unfold slicePick;rw [h1,h2,j];simp only [sliceRange_one,pick_run,O8] <;> rfl
def Qxq (K:bW):V->Option Int->Option Int->Hp->VK->Prop:=fun x lo hi H Q=>∃ a xs,x=.ref a/\SqL K H a xs/\∀ p,H p=zb->Q (.ref p) (upd H p (.lst (Q9i xs lo hi)))
theorem Qk2:SlR X (Qxq X.K):=by
 intro pins s σ H x v vl vu lo hi Z Q I O hs pl Y h;obtain ⟨a,xs,rfl,J,q⟩:=h;cases O;obtain ⟨its,r,z,hz⟩:=I.list J;have j:=r.length;refine ⟨"list",_,slot_list_getitem.lookup,z.isList.typeIs,?_⟩;refine wpAny_getItem_list_slice z.isList hs pl Y .none (by simp) ?_ (by rw [O8] <;> omega);rw [Q46,<- j];refine ⟨.ref s.heap.objs.size,_,I.laid (t':=s.toks) (o:=.lst (Q9i xs lo hi)) (fun b ob q=>O3 _ q) (O5 _) ?_,rfl,q _ (I.hok.fresh (O5 _))⟩;exact ⟨E1 (Q0m xs lo hi) hz,_,0,(r.drop (HT.sIx xs.length 0 lo)).take (HT.sIx xs.length xs.length hi - HT.sIx xs.length 0 lo),D1 _ rfl⟩
def jx:V->Bool
 | .non=>yo
 | .bl _=>yo
 | .int _=>yo
 | .str _=>yo
 | _=>yl
def eqV:V->V->Bool
 | .non,.non=>yo
 | .bl a,.bl b=>a == b
 | .bl a,.int b=>(if a then 1 else 0) == b
 | .int a,.bl b=>a == (if b then 1 else 0)
 | .int a,.int b=>a == b
 | .str a,.str b=>a == b
 | _,_=>yl
theorem Qsi {A:aL} {s:aC} {y x:V} {u v:aA} (z:RelV y u) (j:RelV x v) (I:jx y=yo) (q:jx x=yo):SeqAt.EqAt A s u v (eqV y x):=by
 cases y with
 | non=>
  cases z;cases x with
  | non=>cases j; exact SeqAt.EqAt.same _
  | bl b=>cases j; exact SeqAt.EqAt.none_bool b
  | int b=>obtain ⟨t,rfl⟩:=j; exact SeqAt.EqAt.none_int b t
  | str b=>obtain ⟨t,rfl⟩:=j; exact SeqAt.EqAt.none_str b t
  | _=>exact absurd (show yl=yo from q) D3
 | bl a=>
  cases z;cases x with
  | non=>cases j; exact SeqAt.EqAt.bool_none a
  | bl b=>cases j; exact SeqAt.EqAt.bool_bool a b
  | int b=>obtain ⟨t,rfl⟩:=j; exact SeqAt.EqAt.bool_int a b t
  | str b=>obtain ⟨t,rfl⟩:=j; exact SeqAt.EqAt.bool_str a b t
  | _=>exact absurd (show yl=yo from q) D3
 | int a=>
  obtain ⟨t',rfl⟩:=z;cases x with
  | non=>cases j; exact SeqAt.EqAt.int_none a t'
  | bl b=>cases j; exact SeqAt.EqAt.int_bool a t' b
  | int b=>obtain ⟨t,rfl⟩:=j; exact SeqAt.EqAt.int_int a t' b t
  | str b=>obtain ⟨t,rfl⟩:=j; exact SeqAt.EqAt.int_str a t' b t
  | _=>exact absurd (show yl=yo from q) D3
 | str a=>
  obtain ⟨t',rfl⟩:=z;cases x with
  | non=>cases j; exact SeqAt.EqAt.str_none a t'
  | bl b=>cases j; exact SeqAt.EqAt.str_bool a t' b
  | int b=>obtain ⟨t,rfl⟩:=j; exact SeqAt.EqAt.str_int a t' b t
  | str b=>obtain ⟨t,rfl⟩:=j; exact SeqAt.EqAt.str_str a t' b t
  | _=>exact absurd (show yl=yo from q) D3
 | _=>exact absurd (show yl=yo from I) D3
def eqU (x:V) (u:aA):Bool:=match u with
 | .none=>eqV .non x
 | .bool b=>eqV (.bl b) x
 | .int i _=>eqV (.int i) x
 | .str z _=>eqV (.str z) x
 | _=>yl
theorem Qiq {x y:V} {u:aA} (r:RelV y u) (f:jx y=yo):eqU x u=eqV y x:=by
 cases y with
 | non=>cases r; rfl
 | bl b=>cases r; rfl
 | int i=>obtain ⟨t,rfl⟩:=r; rfl
 | str z=>obtain ⟨t,rfl⟩:=r; rfl
 | _=>exact absurd (show yl=yo from f) D3
theorem xg {x:V}:∀ {xs:List V} {j:List aA},Vals xs j->xs.all jx=yo->j.any (eqU x)=xs.any fun y=>eqV y x
 | _,_,.nil,_=>rfl
 | y :: xs,u :: j,.cons r t,f=>by
  rw [cI,E6] at f;rw [bz,bz,Qiq r f.1,xg t f.2]
theorem qk {A:aL} {s:aC} {x:V} {v:aA} (I:RelV x v) (z:jx x=yo):∀ {xs:List V} {q:List aA},Vals xs q->xs.all jx=yo->∀ u∈q,SeqAt.EqAt A s u v (eqU x u)
 | _,_,.nil,_=>fun u j=>by cases j
 | y :: xs,u :: q,.cons r t,f=>fun J j=>by
  rw [cI,E6] at f;rcases D6.mp j with rfl | j
  ·rw [Qiq r f.1]; exact Qsi r I f.1 z
  ·exact qk I z t f.2 J j
def inV (x:V) (xs:List V):Bool:=xs.any fun y=>eqV y x
def rIn (K:bW) (neg:Bool):R2:=fun x y H Q=>∃ p xs,y=.ref p/\(SqL K H p xs\/SqT K H p xs)/\jx x=yo/\xs.all jx=yo/\Q (.bl (if neg then !inV x xs else inV x xs)) H
theorem Qe6:OpR X (aS .In) (rIn X.K yl):=by
 intro pins s σ H x y v u Q I O Y h;obtain ⟨p,xs,rfl,j,J,fs,q⟩:=h;cases Y;rcases j with j | j
 ·obtain ⟨its,r,pl,hz⟩:=I.list j;refine SeqAt.in_listAt (eqU x) pl.isList (fun w z=>qk O J r fs w (by simpa using z)) ⟨.bl _,H,I,rfl,?_⟩
  rw [show its.toArray.any (eqU x)=its.any (eqU x) by simp,xg r fs];exact q
 ·obtain ⟨its,r,pl,hz⟩:=I.tuple j;refine SeqAt.in_tupleAt (eqU x) pl (fun w z=>qk O J r fs w (by simpa using z)) ⟨.bl _,H,I,rfl,?_⟩
  rw [show its.toArray.any (eqU x)=its.any (eqU x) by simp,xg r fs];exact q
theorem Q6f:OpR X (aS .NotIn) (rIn X.K yo):=by
 intro pins s σ H x y v u Q I O Y h;obtain ⟨p,xs,rfl,j,J,fs,q⟩:=h;cases Y;rcases j with j | j
 ·obtain ⟨its,r,pl,hz⟩:=I.list j;refine SeqAt.notIn_listAt (eqU x) pl.isList (fun w z=>qk O J r fs w (by simpa using z)) ⟨.bl _,H,I,rfl,?_⟩
  rw [show its.toArray.any (eqU x)=its.any (eqU x) by simp,xg r fs];exact q
 ·obtain ⟨its,r,pl,hz⟩:=I.tuple j;refine SeqAt.notIn_tupleAt (eqU x) pl (fun w z=>qk O J r fs w (by simpa using z)) ⟨.bl _,H,I,rfl,?_⟩
  rw [show its.toArray.any (eqU x)=its.any (eqU x) by simp,xg r fs];exact q
theorem Q7e:Vs X (.builtin "len") (fun xs H Q=>∃ p ys,xs=[.ref p]/\(SqL X.K H p ys\/SqT X.K H p ys)/\Q (.int ys.length) H):=by
 intro pins s σ H xs Z Q I r h;obtain ⟨p,ys,rfl,z,q⟩:=h;obtain ⟨u,rfl,O⟩:=Xt r;cases O;have Y:=Q01;rcases z with z | z
 ·obtain ⟨its,J,pl,hz⟩:=I.list z;have j:=J.length;exact Calls.call_len_list pl.isList (by simp only [O8] <;> omega) ⟨.int ys.length,H,I.tok _,⟨s.toks + 1,by rw [O8,j]⟩,q⟩
 ·obtain ⟨its,J,pl,hz⟩:=I.tuple z;have j:=J.length;exact len_tuple pl (by simp only [O8] <;> omega) ⟨.int ys.length,H,I.tok _,⟨s.toks + 1,by rw [O8,j]⟩,q⟩
theorem Q7d:Vs X (.builtin "len") (fun xs H Q=>∃ z,xs=[.str z]/\z.length<=sizeLine/\Q (.int z.length) H):=by
 intro pins s σ H xs J Q I r h;obtain ⟨z,rfl,hz,q⟩:=h;obtain ⟨u,rfl,t,rfl⟩:=Xt r;have j:=Q01;exact len_str (by omega) ⟨.int z.length,H,I.tok _,⟨_,rfl⟩,q⟩
theorem Q7c:Vs X (.type "list") (fun xs H Q=>∃ p ys,xs=[.ref p]/\(SqL X.K H p ys\/SqT X.K H p ys)/\∀ l,H l=zb->Q (.ref l) (upd H l (.lst ys))):=by
 intro pins s σ H xs us Q I r h;obtain ⟨p,ys,rfl,O,q⟩:=h;obtain ⟨u,rfl,rx⟩:=Xt r;cases rx;have fin:∀ (its:List aA),Vals ys its->ys.length<=sizeLine->∀ (h':Heap) (j:Nat),(∀ b o',s.heap.get? b=zo o'->h'.get? b=zo o') ->
   h'.get? s.heap.objs.size=zo { cls:=.type "list",dict:=zb,data:=.seq its.toArray j,slots:=#[] }->EP X pins σ Q (.ref s.heap.objs.size) { s with heap:=h' }:=fun its z hz h' j kp e=>
  ⟨.ref s.heap.objs.size,_,I.laid (t':=s.toks) kp (O5 _) (show ObjOk X.prog X.w _ h' _ (.lst ys) from ⟨hz,its,j,z,e⟩),rfl,q _ (I.hok.fresh (O5 _))⟩
 rcases O with O | O
 ·obtain ⟨its,z,pl,hz⟩:=I.list O;have J:=z.length;obtain ⟨o,Y,Z,n,hd⟩:=pl.isList;exact call_list_seq p (.inl rfl) Y Z hd (fun h' j kp e=>fin its z hz h' j kp e) (by simp only [O8] <;> omega)
 ·obtain ⟨its,z,pl,hz⟩:=I.tuple O;have J:=z.length;obtain ⟨o,Y,Z,n,hd⟩:=pl;exact call_list_seq p (.inr rfl) Y Z hd (fun h' j kp e=>fin its z hz h' j kp e) (by simp only [O8] <;> omega)
theorem jz:Vs X (.type "tuple") (fun xs H Q=>∃ p ys,xs=[.ref p]/\((SqL X.K H p ys/\∀ l,H l=zb->Q (.ref l) (upd H l (.tup ys)))\/(SqT X.K H p ys/\Q (.ref p) H))):=by
 intro pins s σ H xs us Q I r h;obtain ⟨p,ys,rfl,h⟩:=h;obtain ⟨u,rfl,Z⟩:=Xt r;cases Z;rcases h with ⟨z,q⟩ | ⟨z,q⟩
 ·obtain ⟨its,j,pl,hz⟩:=I.list z;have O:=j.length;refine call_tuple_list pl.isList (fun h' kp=>?_) (by simp only [O8] <;> omega);have J:Inv X pins σ H { s with heap:=h' }:=I.kept (t':=s.toks) kp;have Y:Inv X pins σ (upd H h'.objs.size (.tup ys)) { s with heap:=h'.push { cls:=.type "tuple",data:=.seq its.toArray } }:=
   J.laid (t':=s.toks) (fun b o e=>O3 _ e) (O5 _) (show ObjOk X.prog X.w _ _ _ (.tup ys) from ⟨hz,its,j,IsTup.new _ _⟩)
  exact ⟨.ref h'.objs.size,_,Y,rfl,q _ (J.hok.fresh (O5 _))⟩
 ·obtain ⟨its,j,pl,hz⟩:=I.tuple z;exact call_tuple_same pl ⟨.ref p,H,I,rfl,q⟩
def tyV (K:bW) (T:String) (x:V) (H:Hp):Prop:=match x with
 | .str _=>T = "str"
 | .int _=>T = "int"
 | .ref p=>(T = "list" /\ ∃ xs,SqL K H p xs)\/(T = "tuple" /\ ∃ o,K.lookup p=zo o/\o.cls=.type "tuple" /\ o.dict=zb) \/
   (T = "dict" /\ ((∃ kvs,H p=zo (.dK kvs))\/∃ kvs,H p=zo (.dT kvs)))\/(T = "set" /\ ∃ S n,H p=zo (.set S n))
 | _=>False
theorem Qfb {pins:List (aB × Obj)} {σ:St} {H:Hp} {s:aC} {T:String} {x:V} {v:aA} (I:Inv X pins σ H s) (r:RelV x v) (ty:tyV X.K T x H) :
  s.TypeIs v T/\∀ a,v=.ref a->∃ ob,s.heap.get? a=zo ob/\ob.dict=zb:=by
 cases x with
 | str z=>
  obtain ⟨t,rfl⟩:=r;cases (show T = "str" from ty);exact ⟨typeIs_str s z t,fun _ e=>nomatch e⟩
 | int i=>
  obtain ⟨t,rfl⟩:=r;cases (show T = "int" from ty);exact ⟨typeIs_int s i t,fun _ e=>nomatch e⟩
 | ref p=>
  cases r;rcases ty with ⟨rfl,xs,J⟩ | ⟨rfl,o,j,q,hd⟩ | ⟨rfl,j⟩ | ⟨rfl,S,n,j⟩
  ·obtain ⟨its,_,pl,_⟩:=I.list J;refine ⟨pl.isList.typeIs,fun a e=>?_⟩;cases e;obtain ⟨o,n,e,c,hd,_⟩:=pl;exact ⟨o,e,hd⟩
  ·refine ⟨⟨o,I.kIn p o j,q⟩,fun a e=>?_⟩
   cases e;exact ⟨o,I.kIn _ o j,hd⟩
  ·have z:∃ o,s.heap.get? p=zo o/\o.ExactDict:=by
    rcases j with ⟨kvs,j⟩ | ⟨kvs,j⟩
    ·obtain ⟨_,_,_,_,o,_,_,e,ex,_⟩:=I.hok p _ j;exact ⟨o,e,ex⟩
    ·obtain ⟨_,_,_,_,o,_,_,e,ex,_⟩:=I.hok p _ j;exact ⟨o,e,ex⟩
   obtain ⟨o,e,ex⟩:=z;refine ⟨⟨o,e,ex.1⟩,fun a e2=>?_⟩
   cases e2;exact ⟨o,e,ex.2.1⟩
  ·obtain ⟨o,_,_,_,e,ex,_⟩:=I.hok p _ j;refine ⟨⟨o,e,ex.1⟩,fun a e2=>?_⟩
   cases e2;exact ⟨o,e,ex.2.1⟩
 | _=>exact False.elim ty
def Qxj (K:bW) (T:String) (r:V->List V->Hp->VK->Prop) (to:TE):TE:=fun σ H Q=>to σ H fun x H1=>tyV K T x H1/\r x [] H1 Q
def tBM (K:bW) (T:String) (r:V->List V->Hp->VK->Prop) (to:TE) (t:TA):TE:=fun σ H Q=>to σ H fun x H1=>tyV K T x H1/\t σ H1 fun xs H2=>r x xs H2 Q
variable {o e:aH} {es:List aH} {to:TE} {t:TA} {name:Str} {apos cpos:Pos} {T id:String} {r:V->List V->Hp->VK->Prop}
theorem Qr8 (Z:PlainAttrs T) (slot:Slot T name id) (z:typeOf (.builtin id)=pure (.type "method_descriptor")) (hm:MtR X id r) (Y:PE X o to)
  (q:bD o name X.env (aO o X.env)=aO o X.env:=by rfl) (j:(apos.endLine == cpos.line)=yo:=by rfl):PE X (.Call (.Attribute o name apos) [] [] cpos) (Qxj X.K T r to):=by
 intro pins s σ H Q I h;refine wpAny_Call_method0_late q j (thn (Y pins s σ H _ I h) fun v s1 ⟨x,H1,J,O,ty,q1⟩=>?_)
 obtain ⟨h1,h2⟩:=Qfb J O ty;exact ⟨T,id,Z,slot,z,h1,h2,Calls.callWith_builtin rfl (PySem.evalArgs_none (hm pins s1 σ H1 x [] v [] Q J O .nil q1))⟩
theorem Qgs (pa:PlainAttrs T) (slot:Slot T name id) (O:typeOf (.builtin id)=pure (.type "method_descriptor")) (hm:MtR X id r) (ho:PE X o to) (ha:PA X (e :: es) t)
  (z:bD o name X.env (aO o X.env)=aO o X.env:=by rfl)
  (J:((aY cpos (aN (e :: es) X.env)).all (fun x=>!x.1) && (backToKw cpos (keywordEach [] X.env)).all (fun x=>x.1.isSome)
   && decide ((e :: es).length + ([]:List Keyword).length + (if ([]:List Keyword).isEmpty then 0 else 1) < 30))=yo:=by rfl)
  (q:(apos.endLine == cpos.line)=yo:=by rfl) (hs:aN (e :: es) X.env=(yl,aO e X.env) :: aN es X.env:=by rfl) (j:(aY cpos (aN es X.env)).any (·.1)=yl:=by rfl) :
  PE X (.Call (.Attribute o name apos) (e :: es) [] cpos) (tBM X.K T r to t):=by
 intro pins s σ H Q I h;refine wpAny_Call_method_late z J q rfl (thn (ho pins s σ H _ I h) fun v s1 ⟨x,H1,Y,Z,ty,q1⟩=>?_)
 obtain ⟨h1,h2⟩:=Qfb Y Z ty;refine ⟨T,id,pa,slot,O,h1,h2,?_⟩;have hA:=ha cpos pins s1 σ H1 _ Y q1;rw [hs] at hA ⊢;refine Calls.callWith_builtin (by show (yl || (aY cpos (aN es X.env)).any (·.1))=yl; rw [j] <;> rfl) (Calls.evalArgs_plain ?_);exact thn hA fun us s2 ⟨vs,H2,I2,r2,q2⟩=>hm pins s2 σ H2 x vs v us Q I2 Z r2 q2
end
def MtM (X:Cx) (id:String) (r:V->List V->Hp->VK->Prop):Prop:=
 ∀ (pins:List (aB × Obj)) (s:aC) (σ:St) (H:Hp) (x:V) (xs:List V) (v:aA) (us:List aA) (Q:VK),Inv X pins σ H s->RelV x v->Vals xs us->r x xs H Q ->
  aF (aI X.prog X.w) X.A (call (.builtin id) (v :: us)) (EP X pins σ Q) X.xe s
theorem Vals.one:∀ {x:V} {j:List aA},Vals [x] j->∃ u,j=[u]/\RelV x u
 | _,_,.cons r .nil=>⟨_,rfl,r⟩
theorem Vals.zero:∀ {j:List aA},Vals [] j->j=[]
 | _,.nil=>rfl
theorem Vals.rep {xs:List V} {j:List aA} (h:Vals xs j):∀ k:Nat,Vals (ba k xs).flatten (ba k j).flatten
 | 0=>.nil
 | k + 1=>by
  rw [cw,cw,dI,dI];exact Vals.append h (Vals.rep h k)
theorem Q07 (its:List aA):∀ (k:Nat) (acc:List aA),
  cJ (fun x1 x2=>x1 ++ x2) acc.toArray (ba k its.toArray)=(acc ++ (ba k its).flatten).toArray
 | 0,acc=>by simp
 | k + 1,acc=>by
  have e:acc.toArray ++ its.toArray=(acc ++ its).toArray:=by simp
  have e2:(acc ++ its) ++ (ba k its).flatten=acc ++ (ba (k + 1) its).flatten:=by
   rw [cw,dI,dJ]
  rw [<- e2,<- Q07 its k (acc ++ its),<- e,cw,F1]
section
variable {X:Cx} {pins:List (aB × Obj)} {σ:St} {H:Hp} {s:aC} {l b:aB} {xs ys zs:List V}
theorem Inv.lset {its its':List aA} {n:Nat} {f:Array aA->Array aA} {t':Nat} (I:Inv X pins σ H s) (z:H l=zo (.lst xs))
  (e:s.heap.get? l=zo { cls:=.type "list",data:=.seq its.toArray n }) (J:f its.toArray=its'.toArray) (O:Vals ys its') (hz:ys.length<=sizeLine) :
  Inv X pins σ (upd H l (.lst ys)) { s with heap:=s.heap.update l (bp f),toks:=t' }:=by
 have q:=PySem.IsL.update e f;rw [J] at q;refine I.write (x:=l) (e:=l) (by rw [z]; exact trivial) (.inl rfl) (fun Z u Y j=>(F5 s.heap (bp f) (Ne.symm Y)).trans j) ⟨_,q⟩ ?_
 exact ⟨hz,its',_,O,q⟩
theorem Inv.lnew {its:List aA} {t':Nat} (I:Inv X pins σ H s) (j:Vals ys its) (hz:ys.length<=sizeLine) :
  Inv X pins σ (upd H s.heap.objs.size (.lst ys)) { s with heap:=s.heap.push { cls:=.type "list",data:=.seq its.toArray },toks:=t' }:=
 I.laid (fun _ _ q=>O3 _ q) (O5 _) ⟨hz,its,0,j,D1 _ rfl⟩
theorem Inv.fresh (I:Inv X pins σ H s):H s.heap.objs.size=zb:=I.hok.fresh (O5 _)
theorem Inv.lstM (I:Inv X pins σ H s) (j:H l=zo (.lst xs)):xs.length<=sizeLine/\∃ (its:List aA) (n:Nat),Vals xs its/\xs.length=its.length/\s.heap.get? l=zo { cls:=.type "list",data:=.seq its.toArray n }:=by
 obtain ⟨z,its,n,r,e⟩:=I.hok l _ j;exact ⟨z,its,n,r,r.length,e⟩
theorem Qh7 {n:Nat} (h:n<=sizeLine):Builtin.List.listTooLong n=yl:=by
 unfold Builtin.List.listTooLong;exact bU (by omega)
end
section
variable {X:Cx}
def Qkh:V->List V->Hp->VK->Prop:=fun x vs H Q=>∃ l xs y,x=.ref l/\vs=[y]/\H l=zo (.lst xs)/\xs.length < sizeLine/\Q .non (upd H l (.lst (xs ++ [y])))
theorem Qec:MtM X "list.append" Qkh:=by
 intro pins s σ H x vs v Y Q I O J h;obtain ⟨l,xs,y,rfl,rfl,j,hz,q⟩:=h;cases O;obtain ⟨u,rfl,ru⟩:=J.one;obtain ⟨z,its,n,r,Z,e⟩:=I.lstM j;refine bE F.slot_list_append ⟨_,e,rfl⟩ F.entry_list_append (F.args_list_append_2 _ _) (gH l its.toArray n u (by rw [O8]; omega)) ⟨e,?_⟩;refine ⟨.non,_,I.lset (its':=its ++ [u]) j e (by simp) (r.append (.cons ru .nil)) ?_,rfl,q⟩;rw [O6,gI];omega
def Qqn:V->List V->Hp->VK->Prop:=fun x vs H Q=>∃ l xs,x=.ref l/\vs=[]/\H l=zo (.lst xs)/\Q .non (upd H l (.lst []))
theorem Qhd:MtM X "list.clear" Qqn:=by
 intro pins s σ H x vs v Z Q I Y O h;obtain ⟨l,xs,rfl,rfl,J,q⟩:=h;cases Y;have j:=O.zero;subst j;obtain ⟨z,its,n,r,hl,e⟩:=I.lstM J;refine bE F.slot_list_clear ⟨_,e,rfl⟩ F.entry_list_clear (F.args_list_clear_1 _) (AutoSeq1.list_clear_list_0 l its.toArray n (by rw [O8]; omega)) ⟨e,?_⟩;exact ⟨.non,_,I.lset (its':=[]) (ys:=[]) J e rfl .nil (F6 _),rfl,q⟩
def Qxt:R2:=fun x y H Q=>∃ l b xs zs,x=.ref l/\y=.ref b/\H l=zo (.lst xs)/\H b=zo (.lst zs)/\xs.length + zs.length<=sizeLine/\∀ p,H p=zb->Q (.ref p) (upd H p (.lst (xs ++ zs)))
theorem Qh3:OpR X (aZ .Add) Qxt:=by
 intro pins s σ H x y v u Q I Z Y h;obtain ⟨l,b,xs,zs,rfl,rfl,J,O,hz,q⟩:=h;cases Z;cases Y;obtain ⟨z,its,n,r,hl,e⟩:=I.lstM J;obtain ⟨z2,j,n2,r2,a1,e2⟩:=I.lstM O;refine PySem.P.add_list e e2 ?_ (by rw [O8,O8]; omega);have ea:its.toArray ++ j.toArray=(its ++ j).toArray:=by simp
 rw [ea];exact ⟨.ref _,_,I.lnew (t':=s.toks) (r.append r2) (by rw [O6]; omega),rfl,q _ I.fresh⟩
def Qxr:R2:=fun x y H Q=>∃ l k xs,x=.ref l/\y=.int k/\H l=zo (.lst xs)/\-(2 ^ 63)<=k/\k < 2 ^ 63/\xs.length * k.toNat<=sizeLine /\
 ∀ p,H p=zb->Q (.ref p) (upd H p (.lst (ba k.toNat xs).flatten))
theorem Q6v {α:Type} (xs:List α) (k:Nat):(ba k xs).flatten.length=k * xs.length:=by
 induction k with
 | zero=>simp
 | succ k j=>rw [cw,dI,O6,j,Nat.succ_mul,Nat.add_comm]
theorem Qrd:OpR X (aZ .Mult) Qxr:=by
 intro pins s σ H x y v u Q I rx ry h;obtain ⟨l,k,xs,rfl,rfl,hH,h1,h2,hz,q⟩:=h;cases rx;obtain ⟨t,rfl⟩:=ry;obtain ⟨z,its,n,r,hl,e⟩:=I.lstM hH;have J:its.toArray.size * k.toNat<=sizeLine:=by rw [O8,<- hl]; exact hz
 have Y:¬ its.toArray.size * k.toNat > (2 ^ 63 - 1) / 8:=by
  have:(sizeLine:Nat)<=(2 ^ 63 - 1) / 8:=by decide
  omega
 have Z:¬ (!Builtin.List.listFitsIndex k)=yo:=by
  rw [fitsIndex_both h1 h2];exact D3
 have j:¬ Builtin.List.listTooLong (its.toArray.size * k.toNat)=yo:=by
  rw [Qh7 J];exact D3
 have O:cJ (fun x1 x2=>x1 ++ x2) #[] (ba (if its.toArray.isEmpty=yo then 0 else k.toNat) its.toArray)=(ba k.toNat its).flatten.toArray:=by
  have f0:∀ m:Nat,cJ (fun x1 x2=>x1 ++ x2) #[] (ba m its.toArray)=(ba m its).flatten.toArray:=fun m=>by
   have:=Q07 its m [];rw [gJ] at this;exact this
  rw [f0];cases its with
  | nil=>simp
  | cons a r'=>rw [bT (by simp)]
 refine wpAny_binaryOp_repeat_ref (T := "list") (U := "int") (by decide) ⟨_,e,rfl⟩ (fun s'=>typeIs_int s' k t) noFill_list_mul F.fills_int_mul F.slot_int_rmul repeat_list F.slot_int_index.lookup
  (bE F.slot_int_rmul (typeIs_int s k t) F.entry_int_rmul (F.args_int_rmul_2 _ _) (int___rmul___int_list k t l its.toArray n)
   ⟨e,rfl,⟨_,e,rfl⟩,bE F.slot_list_mul ⟨_,e,rfl⟩ F.entry_list_mul (F.args_list_mul_2 _ _) (AutoListH.list___mul___list_int_3 l its.toArray n k t Z Y j) ⟨e,?_⟩⟩)
 rw [O];exact ⟨.ref _,_,I.lnew (t':=s.toks) (r.rep k.toNat) (by rw [Q6v,dz]; exact hz),rfl,q _ I.fresh⟩
end
section
variable {prog:aK} {w:aJ} {A:aL} {E:aA->aC->Prop} {s:aC}
end
section
variable {X:Cx}
end
end L2
namespace Att
open PySem PySem.W PySem.Calls PyProof.Rows
theorem Q0v {P:Params} {h:Heap}:∀ (ns:List Int) (vs:List aA),WellAll P h vs (ns.map WData.int)->IntsAre vs ns:=by
 intro ns
 induction ns with
 | nil=>
  intro vs w;rw [gF] at w;cases w;exact .nil
 | cons n ns j=>
  intro vs w;rw [D2] at w;cases w with
  | cons a b=>
   cases a;exact .cons _ _ (j _ b)
theorem Qdt {l:OpenLaw} {n:Nat} (hn:l.most=zo n) {P:Params} {h:Heap} {args:List WData} {j:List aA}
  (z:l.row.toRowW.claim.pre args=yo) (a1:WellAll P h j args) :
  ∃ a vs ns,j=[bY a]/\args=[WData.list (ns.map WData.int)]/\h.get? a=zo { cls:=.type "list",data:=.seq vs.toArray }/\IntsAre vs ns/\ns.length<=n:=by
 have Z:WShape.hasAll [] args [.list .int]=yo:=(pre_splitW z).1;have hc:l.pre.holds [] { args:=args }=yo:=(pre_splitW z).2;obtain ⟨d,r,rfl,h1,h2⟩:=hasAllW_cons Z;obtain rfl:=hasAllW_nil h2;obtain ⟨xs,rfl,h3⟩:=hasW_list h1;obtain ⟨ns,rfl⟩:=items_int h3;have J:ns.length<=n:=by
  unfold OpenLaw.pre at hc;have O:(WTm.not (.lt (.lit (.int (n:Int))) (.len (.arg 0)))).holds [] { args:=[.list (ns.map .int)] }=yo:=by
   have O:=(holds_andW hc).1;rw [hn] at O;exact O
  have Y:=condW_of O (w_not (w_lt w_lit (w_len_list (w_arg rfl))));rw [O1] at Y;refine Nat.le_of_not_lt fun q=>?_
  have q':(n:Int) < ((ns.length:Nat):Int):=by omega
  first
   | (rw [bV q'] at Y; exact absurd Y (by decide))
   | (simp at Y; omega)
 cases a1 with
 | cons w1 w2=>
  cases w2;cases w1 with
  | list ho I=>exact ⟨_,_,ns,rfl,rfl,ho,Q0v ns _ I,J⟩
theorem Qdy (l:OpenLaw) (args:List WData):l.row.toRowW.claim.post args (.bool yo) args=yo:=
 postW_of (r:=l.row.toRowW) (X:=(yo == yo))
  (show WShape.has [] (.bool yo) .bool=yo by first | rfl | decide | simp [WShape.has,WShape.arms,WShape.armsAll])
  (show (WTm.eq .res (.lit (.bool yo))).value [] { args:=args,res:=zo (.bool yo),after:=args }=zo (.bool (yo == yo)) from w_eq_bool (w_res rfl) w_lit) rfl
theorem attach_call {l:OpenLaw} {n:Nat} {q:aK} {z:List Str} {XP:(Str->Option aA)->Heap->Prop} {YP:aJ->Heap->Prop} {d:DefRec}
  (hn:l.most=zo n) (a5:d.params.defaults=[])
  (call:∀ (w:aJ) (s₀ j:aC) (mg mb:Str->Option aA) (O:aB) (o:Obj) (pm cd I:aA) (a:aB) (vs:List aA) (ns:List Int),
   Ground q z [] XP w s₀ mg mb j.heap->YP w j.heap ->
   j.heap.get? O=zo o->o.data=.func (docDef d.name d.params d.body d.scope pm cd I)->j.heap.CodeRec cd d.name->mg d.name=zo (.ref O) ->
   j.heap.get? a=zo { cls:=.type "list",data:=.seq vs.toArray }->IntsAre vs ns->ns.length<=n->j.gens=#[] ->
   codeAny (aI l.prog w) callerA (.call (.ref O) ⟨[.ref a],[]⟩) (fun r s'=>r=.ok (.ret (.bool yo))/\OldK j.heap s'.heap/\s'.os=j.os/\AllBare s'.gens) j) :
  WalkO q z XP YP l.row.toRowW d [] (fun f vs=>fG f vs):=by
 intro w s₀ j mg mb G Y O o pm cd I dV kV ho hd a4 hD a3 hg args a7 as Z a8 b0 a6 a9;obtain rfl:dV=.none:=Dflts.none hD a5;obtain rfl:kV=.none:=Dflts.noKw hD;obtain ⟨a,vs,ns,rfl,rfl,a1,J,a2⟩:=Qdt hn Z a6;refine enter_call (bQ (call w s₀ j mg mb O o pm cd I a vs ns G Y ho (fd_plain hd) a4 a3 a1 J a2 hg) fun r s' hq=>?_)
 obtain ⟨rfl,h2,h3,h4⟩:=hq;exact ⟨.inl ⟨.bool yo,.bool yo,[],rfl,fun _=>rfl,.bool yo,Qdy l _,fun _=>⟨fH,fun _ hm=>(nomatch hm)⟩⟩,h2,h3,h4⟩
section
variable {prog:aK} {w:aJ} {A:aL} {E:aA->aC->Prop} {s:aC} {K:Frag}
end
end Att
namespace L2
open PySem PySem.Spec PyProof.Rows
theorem Q4m:∀ {vs:List aA} {ns:List Int},IntsAre vs ns->Vals (ns.map V.int) vs
 | _,_,.nil=>.nil
 | _,_,.cons n t h=>.cons ⟨t,rfl⟩ (Q4m h)
def Qsz (H:Hp):Prop:=∀ b,H b=zb\/∃ o xs,H b=zo (.frz o (.lst xs))
theorem Qhv {P:aK} {w:aJ} {K:bW} {mg mb:Str->Option aA} {CX:CXT} {k:Nat} {fa a:aB} {fd:aP} {x:Str} {sp:Sp} {j:aC} {vs:List aA} {ns:List Int}
  (KX:K.In j.heap) (a5:j.heap.Ns aW mg) (J:j.heap.Ns builtinsNs mb) (a8:∀ x:Str,x≠"__name__" -> mb x=aX x) (a1:j.heap.NoLimit) (hg:j.gens=#[])
  (ha:j.heap.get? a=zo { cls:=.type "list",data:=.seq vs.toArray }) (hi:IntsAre vs ns) (hl:ns.length<=sizeLine) (hr:Room k callerA)
  (F:∀ base:Heap,K.In base->base.Ns aW mg->FnOk P w K mg base CX k fa fd [x] sp) (Z:∀ (s:aC) (u:aA),BindsTo s fd ⟨[u],[]⟩ [(x,u)])
  (a6:∀ H:Hp,Qsz H->SqL K H a (ns.map V.int)->sp [.ref a] H (fun v _=>v=.bl yo) fun _ _ _=>False)
  (a9:∀ H e s',CX [] H j (fun _ _ _=>False) e s'->False) :
  codeAny (aI P w) callerA (.call (.ref fa) ⟨[.ref a],[]⟩) (fun r s'=>r=.ok (.ret (.bool yo))/\OldK j.heap s'.heap/\s'.os=j.os/\AllBare s'.gens) j:=by
 have rv:=Q4m hi;have a4:=hi.length;have Y:∀ H:Hp,Qsz H->SqL K H a (ns.map V.int)->HOk P w H j.heap->(∀ b,H b≠zb->b=a)->(H a≠zb->K.lookup a=zb) ->
   codeAny (aI P w) callerA (.call (.ref fa) ⟨[.ref a],[]⟩) (fun r s'=>r=.ok (.ret (.bool yo))/\OldK j.heap s'.heap/\s'.os=j.os/\AllBare s'.gens) j:=by
  intro H hO hS hok hA hK;have I:∀ {b:aB} {o:Obj},j.heap.get? b=zo o->H b=zb->(Q74 j.heap H).get? b=zo o:=fun e n=>Qib e n
  have a7:∀ {b:aB} {o:Obj} {es:Array DictEntry} {ep:Nat},j.heap.get? b=zo o->o.data=.dict es ep->H b=zb:=fun {b o es ep} e d=>by
   cases q:H b with
   | none=>rfl
   | some u=>
    have e':b=a:=hA b (by rw [q]; simp);subst e';rw [ha] at e; cases e;have d':Data.seq vs.toArray _=Data.dict es ep:=d;cases d'
  have O:∀ {b:aB} {m:Str->Option aA},j.heap.Ns b m->(Q74 j.heap H).Ns b m:=fun {b m} ⟨o,es,ep,e,d,r⟩=>⟨o,es,ep,I e (a7 e d),d,r⟩
  have a3:K.In (Q74 j.heap H):=fun b o e=>I (KX b o e) (by
   cases q:H b with
   | none=>rfl
   | some u=>
    have e':b=a:=hA b (by rw [q]; simp);subst e';rw [hK (by rw [q]; simp)] at e; cases e)
  have hM:Mod K mg (Q74 j.heap H):=⟨a3,O a5,⟨mb,O J,a8⟩,let ⟨mc,h1,h2⟩:=a1; ⟨mc,O h1,h2⟩⟩;have e0:Env0 P w K mg (Q74 j.heap H) callerA [] j H:=⟨rfl,hM,fun b o e=>Qmi e,eA (Qer _ _),trivial,fun b J=>absurd (show b∈([]:List aB) from J) (by simp),hok,.of_eq hg⟩;refine bQ ((F _ a3 (O a5)).run callerA [] j H ⟨[.ref a],[]⟩ [.ref a] [.ref a] _ _ hr e0 (Z j (.ref a)) (.cons rfl .nil) (a6 H hO hS)) fun r s' h=>?_
  cases r with
  | error e=>exact (a9 H e s' h).elim
  | ok fl=>
   cases fl with
   | next=>exact False.elim h
   | brk=>exact False.elim h
   | cont=>exact False.elim h
   | ret u=>
    obtain ⟨v,H',os,bare,un,a2,r',q⟩:=h;have q':v=.bl yo:=q;subst q';obtain rfl:u=dE yo:=r';refine ⟨rfl,OldK.of_keep fun b o e=>?_,os,bare⟩;cases q:H b with
    | none=>exact un.keep b o e q (by intro z; exact absurd (show b∈([]:List aB) from z) (by simp)) (by simp)
    | some u=>
     rcases hO b with z | ⟨ob,xs,z⟩
     ·rw [q] at z; cases z
     ·have z2:=un.frzs b ob _ z;obtain ⟨e1,_⟩:=hok b _ z;obtain ⟨e2,_⟩:=a2 b _ z2;rw [e] at e1; cases e1;exact e2
 cases hk:K.lookup a with
 | some o=>
  have e:=KX a o hk;rw [ha] at e;cases e;refine Y (fun _=>zb) (fun _=>.inl rfl) (.inr ⟨_,vs.toArray,_,hk,rfl,rfl,rfl,by rw [O8,a4]; exact hl,by simpa using rv⟩) (fun b u z=>by have z':(zb:Option HO)=zo u:=z; cases z') (fun b z=>absurd rfl z) fun z=>absurd rfl z
 | none=>
  refine Y (fun b=>if b=a then zo (.frz { cls:=.type "list",data:=.seq vs.toArray } (.lst (ns.map V.int))) else zb) (fun b=>?_) (.inl (.inr ⟨{ cls:=.type "list",data:=.seq vs.toArray },bS rfl⟩)) (fun b u z=>?_) (fun b z=>?_) fun _=>hk
  ·by_cases J:b=a
   ·exact .inr ⟨_,_,bS J⟩
   ·exact .inl (bT J)
  ·by_cases J:b=a
   ·have z':=(bS J).symm.trans z;cases z';subst J;exact ⟨ha,by rw [O1]; exact hl,vs,_,rv,ha⟩
   ·have z':=(bT J).symm.trans z;cases z'
  ·by_cases J:b=a
   ·exact J
   ·exact absurd (bT J) z
theorem walk_of {l:fI} {n k:Nat} {q:aK} {z:List Str} {XP:(Str->Option aA)->Heap->Prop} {YP:aJ->Heap->Prop} {d:DefRec} {K:Params->bW} {CX:aJ->CXT} {sp:aJ->Sp} {x:Str}
  (hn:l.most=zo n) (a3:n<=sizeLine) (a4:d.params.defaults=[]) (hr:Room k callerA)
  (hY:∀ (w:aJ) (h:Heap),YP w h->(K w.params).In h)
  (F:∀ (w:aJ) (mg:Str->Option aA) (Z:aB) (h:Heap),(K w.params).In h->h.Ns aW mg->mg d.name=zo (.ref Z) ->
   ∃ fd:aP,(∀ (s:aC) (u:aA),BindsTo s fd ⟨[u],[]⟩ [(x,u)]) /\
    ∀ base:Heap,(K w.params).In base->base.Ns aW mg->FnOk l.prog w (K w.params) mg base (CX w) k Z fd [x] (sp w))
  (a1:∀ (w:aJ) (H:Hp) (a:aB) (ns:List Int),ns.length<=n->Qsz H->SqL (K w.params) H a (ns.map V.int)->sp w [.ref a] H (fun v _=>v=.bl yo) fun _ _ _=>False)
  (a5:∀ (w:aJ) (H:Hp) (s:aC) (e:aA) (s':aC),CX w [] H s (fun _ _ _=>False) e s'->False) :
  gK q z XP YP l.row.toRowW d [] (fun f vs=>fG f vs):=by
 refine Att.attach_call hn a4 fun w s₀ O mg mb Z o pm cd a6 a vs ns G Y ho hd a7 a2 J I j hg=>?_
 have KX:=hY w _ Y;obtain ⟨fd,hb,hF⟩:=F w mg Z _ KX G.T.g a2;exact Qhv KX G.T.g G.T.b G.T.builtins G.T.nolimit hg J I (E1 j a3) hr hF hb (fun H hO hS=>a1 w H a ns j hO hS) fun H e s'=>a5 w H O e s'
def Yq (s:aM):Arguments:=match s with
 | .FunctionDef _ a _ _ _ _ _ _ _ _=>a
 | _=>{ posonlyargs:=[],args:=[],vararg:=zb,kwonlyargs:=[],kw_defaults:=[],kwarg:=zb,defaults:=[] }
def Z0 (s:aM):List aM:=match s with
 | .FunctionDef _ _ b _ _ _ _ _ _ _=>b
 | _=>[]
def Qa (s:aM):Scope:=match s with
 | .FunctionDef _ _ _ _ _ _ sc _ _ _=>sc
 | _=>{ kind:=.function,names:=[],isGenerator:=yl,isCoroutine:=yl }
abbrev E0:XK:=fun _ _ _=>False
structure Fun (K:bW) (x qual:Str) (st:aM) (f:aB) (fd:aP):Prop where
 ex:∃ (oc:aA) (od:Option aB) (kV doc pm:aA) (an:Option aB) (cdv ct:aA) (osl:Array (Option aA)),
  fd=br x qual (Yq st) (Z0 st) (Qa st) .none kV doc pm an cdv ct/\K.lookup f=zo ⟨oc,od,.func fd,osl⟩/\cs K cdv qual=yo
 kp:cX K (.ref f)=yo
section
variable {P:aK} {w:aJ} {K:bW} {mg:Str->Option aA} {base:Heap}
theorem Fun.binds {x qual:Str} {st:aM} {f:aB} {fd:aP} {ps:List Str} (F:Fun K x qual st f fd)
  (h:∀ (kV j J:aA) (z:Option aB) (q ct:aA) (I:List aA),I.length=ps.length->bindArgs (br x qual (Yq st) (Z0 st) (Qa st) .none kV j J z q ct) ⟨I,[]⟩=pure (ps.zip I)):Binds K fd ps []:=by
 obtain ⟨oc,od,kV,j,J,z,q,ct,O,rfl,Z,Y⟩:=F.ex;exact .all (h kV j J z q ct)
theorem Qih {x qual:Str} {st:aM} {f:aB} {O:aA} {Y I:Option aB} {z:Array (Option aA)} {kV q J j ct:aA} (l:K.lookup f=zo ⟨O,Y,.func (br x qual (Yq st) (Z0 st) (Qa st) .none kV q J I j ct),z⟩)
  (c:cs K j qual=yo) (k:cX K (.ref f)=yo):Fun K x qual st f (br x qual (Yq st) (Z0 st) (Qa st) .none kV q J I j ct):=⟨⟨O,Y,kV,q,J,I,j,ct,z,rfl,l,c⟩,k⟩
end
section
variable {X:Cx}
theorem pv (i:Nat) {x:Str} {pos:Pos} (q:X.N[i]?=zo x:=by rfl) (z:Vis X.env.scope x:=by first | exact Or.inl rfl | exact Or.inr (Or.inl rfl) | exact Or.inr (Or.inr rfl)) (hd:(x == ("__debug__" : Str))=yl:=by decide)
  (j:(x == ("__classdict__" : Str))=yl:=by decide):PE X (.Name x pos) (Qtm i):=Qgk q z hd j
end
def Same (H H':Hp):Prop:=∀ b o,H b=zo o->H' b=zo o
theorem Same.refl (H:Hp):Same H H:=fun _ _ h=>h
section
variable {X:Cx} {tg:aH}
end
theorem Qbf {scope:Scope} {env:Env} (h:∀ x∈scope.names,x.2=.free->∃ c,env.cells.lookup x.1=zo c) :
  ∃ q,closureFor scope env=pure q/\(∀ x c,q.lookup x=zo c->env.cells.lookup x=zo c)/\(∀ x∈scope.names,x.2=.free->∃ c,q.lookup x.1=zo c):=by
 have a2:∀ (l:List (Str × au)) (acc:List (Str × aB)),(∀ x∈l,x.2=.free->∃ c,env.cells.lookup x.1=zo c)->(∀ x c,acc.lookup x=zo c->env.cells.lookup x=zo c) ->
   ∃ q,(forIn l acc fun (x:Str × au) (r:List (Str × aB))=>(match x with
    | (name,kind)=>if (kind == NameKind.free)=yo then (do let c <- cellOf env name; pure (ForInStep.yield ((name,c) :: r))) else (do pure PUnit.unit; pure (ForInStep.yield r)):Sem (ForInStep (List (Str × aB)))))=pure q /\
    (∀ x c,q.lookup x=zo c->env.cells.lookup x=zo c)/\(∀ x∈l,x.2=.free->∃ c,q.lookup x.1=zo c)/\(∀ x c,acc.lookup x=zo c->∃ I,q.lookup x=zo I):=by
  intro l
  induction l with
  | nil=>intro acc _ ha; exact ⟨acc,rfl,ha,fun x Y=>(by simp at Y),fun x c e=>⟨c,e⟩⟩
  | cons x r ih=>
   intro acc hl ha;obtain ⟨n,k⟩:=x
   by_cases hk:k=.free
   ·subst hk;obtain ⟨c,hc⟩:=hl (n,.free) F2 rfl;have a1:∀ x I,((n,c) :: acc).lookup x=zo I->env.cells.lookup x=zo I:=fun x I e=>by
     rw [cK] at e
     by_cases Y:x=n
     ·subst Y; simp at e; rw [<- e]; exact hc
     ·have:(x == n)=yl:=by simpa using Y
      rw [this] at e; exact ha x I e
    obtain ⟨q,e1,e2,e3,O⟩:=ih ((n,c) :: acc) (fun y j=>hl y (O4 _ j)) a1
    refine ⟨q,?_,e2,fun y j Z=>?_,fun y I e=>?_⟩
    ·rw [fJ];have J:cellOf env n=pure c:=by unfold cellOf; rw [hc]
     simp only [beq_self_eq_true,if_true,J];exact e1
    ·rcases D6.mp j with e | j
     ·subst e;exact O n c (by simp)
     ·exact e3 y j Z
    ·by_cases j:y=n
     ·subst j; exact O y c (by simp)
     ·have:(y == n)=yl:=by simpa using j
      exact O y I (by rw [cK,this]; exact e)
   ·obtain ⟨q,e1,e2,e3,O⟩:=ih acc (fun y j=>hl y (O4 _ j)) ha
    refine ⟨q,?_,e2,fun y j Z=>?_,O⟩
    ·rw [fJ];have:(k == NameKind.free)=yl:=by simpa using hk
     simp only [this,E7,if_false];exact e1
    ·rcases D6.mp j with e | j
     ·subst e; exact absurd Z hk
     ·exact e3 y j Z
 obtain ⟨q,e1,e2,e3,_⟩:=a2 scope.names [] h (fun x c e=>by simp at e);refine ⟨q,?_,e2,e3⟩;unfold closureFor;exact (congrArg (fun z=>z >>= pure) e1).trans rfl
theorem yx (f:Str->au->au) (x:Str):∀ l:List (Str × au),(l.map fun y=>(y.1,f y.1 y.2)).lookup x=(l.lookup x).map (f x)
 | []=>rfl
 | (n,k) :: r=>by
  have z:=yx f x r;rw [D2,cK,cK]
  by_cases j:x=n
  ·subst j; simp
  ·have q:(x == n)=yl:=by simpa using j
   rw [q]; exact z
theorem qh {scope:Scope} {env:Env} {x:Str}:(relabel scope env).names.lookup x =
  (scope.names.lookup x).map fun k=>if (k == .free && env.scope.kind == .function && env.kindOf x == zo .cell) then .cell else k:=by
 rw [<- yx (fun n k=>if (k == .free && env.scope.kind == .function && env.kindOf n == zo .cell) then .cell else k)]
 unfold relabel;refine congrArg (List.lookup x) (cZ fun y _=>?_);obtain ⟨n,k⟩:=y;show (if (k == NameKind.free && env.scope.kind == .function && env.kindOf n == zo .cell)=yo then (n,NameKind.cell) else (n,k))=_
 split <;> rfl
def xf (cap:List (Option Nat)) (σ:St):St:=cap.map fun c=>c.bind fun j=>(σ[j]?).join
section
variable {prog:aK} {w:aJ} {A:aL} {R:Result->aC->Prop} {s:aC}
end
section
variable {X:Cx}
end
def HasItems (t:Bool) (h:Heap) (a:aB) (items:Array aA):Prop:=if t=yo then h.IsTuple a items else h.IsList a items
def IterAt (t:Bool) (h:Heap) (it a:aB) (i:Nat):Prop:=if t=yo then h.IsTupleIter it a i else h.IsListIter it a i
theorem HasItems.at {t:Bool} {h h':Heap} {a:aB} {j:Array aA} (x:HasItems t h a j) (k:∀ o,h.get? a=zo o->h'.get? a=zo o):HasItems t h' a j:=by
 cases t
 ·exact Heap.IsList.at x k
 ·obtain ⟨o,e,r⟩:=x;exact ⟨o,k o e,r⟩
theorem HasItems.there {t:Bool} {h:Heap} {a:aB} {j:Array aA} (x:HasItems t h a j):∃ o,h.get? a=zo o:=by
 cases t
 ·obtain ⟨o,e,_⟩:=x; exact ⟨o,e⟩
 ·obtain ⟨o,e,_⟩:=x; exact ⟨o,e⟩
theorem IterAt.at {t:Bool} {h h':Heap} {it a:aB} {i:Nat} (x:IterAt t h it a i) (k:∀ o,h.get? it=zo o->h'.get? it=zo o):IterAt t h' it a i:=by
 cases t
 ·exact Heap.IsListIter.at x k
 ·obtain ⟨o,e,r⟩:=x;exact ⟨o,k o e,r⟩
theorem IterAt.there {t:Bool} {h:Heap} {it a:aB} {i:Nat} (x:IterAt t h it a i):∃ o,h.get? it=zo o/\∀ v,o.data≠.cell v:=by
 cases t
 ·obtain ⟨o,e,_,d⟩:=x; exact ⟨o,e,fun v z=>by rw [d] at z; cases z⟩
 ·obtain ⟨o,e,_,d⟩:=x; exact ⟨o,e,fun v z=>by rw [d] at z; cases z⟩
section
variable {prog:aK} {w:aJ} {A:aL} {E:aA->aC->Prop} {s:aC}
theorem yn {it l:aB} {i:Nat} {items} {x:aA} {Q:aA->aC->Prop} (j:s.heap.IsTupleIter it l i)
  (Z:s.heap.IsTuple l items) (O:items[i]?=zo x)
  (J:∀ h',h'.IsTupleIter it l (i + 1)->Heap.SameBut it s.heap h'->Q x { s with heap:=h' }) :
  aF (aI prog w) A (Builtin.SmallTypes.nextOf (.ref it)) Q E s:=by
 obtain ⟨o,q,Y,hd⟩:=id j;obtain ⟨ol,I,_,nl,z⟩:=Z;unfold Builtin.SmallTypes.nextOf;refine aD (wpAny_callSpecial?_slot (name:=cP "__next__") j.typeIs F.slot_tuple_iterator_next
  (af F.slot_tuple_iterator_next j.typeIs F.entry_tuple_iterator_next ?_ (F.args_tuple_iterator_next_1 _)))
 show aF _ _ (field (.ref it) 0 >>= _) _ _ s;refine aD (aw q hd (x:=.ref l) rfl ?_);show aF _ _ (if (bY l == bZ)=yo then _ else _) _ _ s;rw [bT (show ¬ ((bY l == bZ)=yo) from D3)];show aF _ _ (field (.ref it) 1 >>= _) _ _ s;refine aD (aw q hd (x:=.int i 0) rfl ?_);show aF _ _ (seqItems? (.ref l) >>= _) _ _ s;refine aD (bA I z ?_);simp only [bo,O];refine aD (wpAny_setField q hd (by simp) (wpAny_pure ⟨x,rfl,wpAny_pure (J _ ?_ (Heap.SameBut.update ..))⟩));exact ⟨_,G8 _ q (fK (dL hd _)),(gL ..).trans Y,by
  rw [dL hd]; simp [aU]⟩
theorem xx {it l:aB} {i:Nat} {items} {Q:aA->aC->Prop} (J:A.handled=zb)
  (j:s.heap.IsTupleIter it l i) (Y:s.heap.IsTuple l items) (O:items[i]?=zb)
  (Z:∀ h' e,Heap.ExtBut it s.heap h'->(∃ o,h'.get? e=zo o/\o.cls=.type "StopIteration")->E (.ref e) { s with heap:=h' }) :
  aF (aI prog w) A (Builtin.SmallTypes.nextOf (.ref it)) Q E s:=by
 obtain ⟨o,q,hc,hd⟩:=id j;obtain ⟨ol,I,_,nl,z⟩:=Y;unfold Builtin.SmallTypes.nextOf;refine aD (wpAny_callSpecial?_slot (name:=cP "__next__") j.typeIs F.slot_tuple_iterator_next
  (af F.slot_tuple_iterator_next j.typeIs F.entry_tuple_iterator_next ?_ (F.args_tuple_iterator_next_1 _)))
 show aF _ _ (field (.ref it) 0 >>= _) _ _ s;refine aD (aw q hd (x:=.ref l) rfl ?_);show aF _ _ (if (bY l == bZ)=yo then _ else _) _ _ s;rw [bT (show ¬ ((bY l == bZ)=yo) from D3)];show aF _ _ (field (.ref it) 1 >>= _) _ _ s;refine aD (aw q hd (x:=.int i 0) rfl ?_);show aF _ _ (seqItems? (.ref l) >>= _) _ _ s;refine aD (bA I z ?_);simp only [bo,O];refine aD (bP (aD (wpAny_setField q hd (by simp) ?_)));show aF _ _ (newExc (.type "StopIteration") [] >>= _) _ _ _;refine aD ?_;simp only [newExc,newTuple];refine aD (aq ?_ (by size_fits));refine aD (m:=firstArgMember _ _) (wpAny_of_eq (a:=bZ) (by first | rfl | (simp only [firstArgMember]; rfl)) ?_);refine aq ?_ (by size_fits);simp only [bR]
 refine aD (wpAny_handled ?_)
 first | rw [show A.in1.handled=zb from J] | rw [J]
 refine aD (wpAny_pure (wpAny_throw ?_));exact Z _ _ (((Heap.SameBut.update ..).extBut.push _).push _) ⟨_,D1 _ rfl,rfl⟩
theorem Q8s {t:Bool} {it l:aB} {i:Nat} {j:Array aA} {x:aA} {Q:aA->aC->Prop} (q:IterAt t s.heap it l i)
  (J:HasItems t s.heap l j) (I:j[i]?=zo x)
  (z:∀ h',IterAt t h' it l (i + 1)->Heap.SameBut it s.heap h'->Q x { s with heap:=h' }) :
  aF (aI prog w) A (Builtin.SmallTypes.nextOf (.ref it)) Q E s:=by
 cases t
 ·exact wpAny_nextOf_list_item q J I z
 ·exact yn q J I z
theorem Q2x {t:Bool} {it l:aB} {i:Nat} {j:Array aA} {Q:aA->aC->Prop} (O:A.handled=zb)
  (q:IterAt t s.heap it l i) (I:HasItems t s.heap l j) (z:j[i]?=zb)
  (J:∀ h' e,Heap.ExtBut it s.heap h'->(∃ o,h'.get? e=zo o/\o.cls=.type "StopIteration")->E (.ref e) { s with heap:=h' }) :
  aF (aI prog w) A (Builtin.SmallTypes.nextOf (.ref it)) Q E s:=by
 cases t
 ·exact wpAny_nextOf_list_end O q I z J
 ·exact xx O q I z J
def jf (t:Bool) (l:aB):Obj:=if t=yo then { cls:=.type "tuple_iterator",data:=.fields #[.ref l,.int 0 0] } else { cls:=.type "list_iterator",data:=.fields #[.ref l,.int 0 0] }
theorem Qaf {t:Bool} {l:aB} {j:Array aA} {Q:aA->aC->Prop} (z:HasItems t s.heap l j)
  (q:Q (.ref s.heap.objs.size) { s with heap:=s.heap.push (jf t l) }):aF (aI prog w) A (pyIter (.ref l)) Q E s:=by
 cases t
 ·exact wpAny_pyIter_list z q
 ·exact bL z q
theorem Qb2 {t:Bool} {h:Heap} {it l:aB} (e:h.get? it=zo (jf t l)):IterAt t h it l 0:=by
 cases t
 ·exact ⟨_,e,rfl,rfl⟩
 ·exact ⟨_,e,rfl,rfl⟩
theorem Q70 (t:Bool) (l:aB):(jf t l).isFreed=yl:=by cases t <;> rfl
end
section
variable {prog:aK} {w:aJ} {A:aL} {E:aA->aC->Prop} {s:aC}
end
def SqK (K:bW) (t:Bool) (H:Hp) (a:aB) (xs:List V):Prop:=if t=yo then SqT K H a xs else SqL K H a xs
section
variable {X:Cx} {pins:List (aB × Obj)} {σ:St} {H:Hp} {s:aC}
theorem Inv.seqK {t:Bool} {a:aB} {xs:List V} (I:Inv X pins σ H s) (h:SqK X.K t H a xs):∃ its:List aA,Vals xs its/\HasItems t s.heap a its.toArray/\xs.length<=sizeLine:=by
 cases t
 ·obtain ⟨its,r,p,z⟩:=I.list h;exact ⟨its,r,p.isList,z⟩
 ·obtain ⟨its,r,p,z⟩:=I.tuple h;exact ⟨its,r,p,z⟩
theorem Inv.seqK_inj {t:Bool} {a:aB} {xs ys:List V} (I:Inv X pins σ H s) (h:SqK X.K t H a xs) (h':SqK X.K t H a ys):xs=ys:=by
 cases t
 ·exact I.list_inj h h'
 ·exact I.tuple_inj h h'
theorem Inv.turnedL {t':Nat} {its:List aB} {h':Heap} (I:Inv X pins σ H s) (k:∀ b o,b∉its->s.heap.get? b=zo o->h'.get? b=zo o) (O:∀ b∈its,Q43 X pins H b):Inv X pins σ H { s with heap:=h',toks:=t' }:=by
 have J:∀ b u,H b=zo u->b∉its:=fun b u e z=>by rw [(O b z).1] at e; cases e
 refine I.step (g':=s.gens) (d':=s.drawn) (ch:=its) (fun b hb=>?_) (fun b o _ _ j e _=>k b o j e) (fun b o _ _ j e _=>⟨o.slots,k b o j e⟩) (fun _ _ _ _ n=>n)
  (fun b o j e=>⟨o,k b o j e⟩) (fun _ _ e=>e) (fun _ _ _ e=>e) (fun b ps e=>⟨#[],by rw [e]; simp⟩) (fun m hm=>?_) (fun b u e=>?_) I.bare
 ·obtain ⟨f0,f1,f2,f3,f4,Z⟩:=O b hb;exact ⟨f3,f1,f4,Z⟩
 ·obtain ⟨o,es,ep,Y,r⟩:=hm;exact ⟨o,es,ep,k _ o (fun z=>(O _ z).2.1 rfl) Y,r⟩
 ·refine (I.hok b u e).stay (fun c v j q=>k c v ?_ q) (fun _ q=>q) fun _ _ q=>q
  rcases j with z | z
  ·rw [z]; exact J b u e
  ·exact J c _ z
end
section
variable {X:Cx}
end
theorem Qpw {prog:aK} {w:aJ} {A:aL} (J:A.handled=zb) (t:Bool) (I q:aB) (z:q≠I) (j:Array aA) :
  Walks prog w A I [I,q] [I] j.size (fun i v=>j[i]?=zo v) (fun i h=>IterAt t h I q i/\HasItems t h q j):=by
 cases t
 ·exact Walks.list J I q z j
 ·exact Walks.tuple J I q z j
section
variable {X:Cx} {pins:List (aB × Obj)} {σ:St} {H:Hp} {s:aC}
theorem Inv.movedNew {s':aC} (I:Inv X pins σ H s) {o:Obj} (m:Moved [s.heap.objs.size] (fun a b=>b=a) { s with heap:=s.heap.push o } s'):Inv X pins σ H s':=by
 obtain ⟨m1,m2,m3,j,q⟩:=m;obtain ⟨h',g',d',t',o'⟩:=s';have e1:g'=s.gens:=m2;have e2:d'=s.drawn:=m3;have e3:o'=s.os:=j;subst e1 e2 e3;refine I.kept (t':=t') fun b u e=>m1 b u (fun z=>?_) (O3 _ e)
 have:b=s.heap.objs.size:=by simpa using z
 exact absurd (D0 e) (by rw [this]; exact L0 _)
theorem Qf3 {bs:List Bool} {its:List aA} (r:Vals (bs.map V.bl) its):∀ (i:Nat) (v:aA),its.toArray[i]?=zo v->v=dE (bs.getD i yl):=fun i v e=>by
 have j:its[i]?=zo v:=by simpa using e
 have hi:i < its.length:=(O0.mp j).1;have I:=r.length;rw [O1] at I;have z:(bs.map V.bl)[i]?=zo (V.bl (bs.getD i yl)):=by
  have:i < bs.length:=by omega
  simp [eB,this]
 obtain ⟨u,q,ru⟩:=r.get z;rw [j] at q;cases q;exact ru
theorem Q6z {t:Bool} {l:aB} {j:Array aA} (z:HasItems t s.heap l j):l≠s.heap.objs.size /\
  (IterAt t (s.heap.push (jf t l)) s.heap.objs.size l 0/\HasItems t (s.heap.push (jf t l)) l j)/\∀ b∈[s.heap.objs.size,l],b < (s.heap.push (jf t l)).objs.size:=by
 obtain ⟨o,e⟩:=z.there;have q:=D0 e;refine ⟨D8 q,⟨Qb2 (D1 _ (Q70 _ _)),z.at fun o e=>O3 _ e⟩,fun b I=>?_⟩
 rw [F7];simp at I;rcases I with rfl | rfl
 ·exact dM _
 ·exact cx q
end
section
variable {X:Cx}
theorem Qdv (bs:List Bool):(bX bs.length).all (fun i=>bs.getD i yl)=bs.all id:=by
 induction bs with
 | nil=>rfl
 | cons b r j=>
  rw [D5,fL,cI,cG,cI,<- j];rfl
theorem Qj4 (t:Bool) (Z:X.calm=yo):Vs X (.builtin "all") (fun xs H Q=>∃ (a:aB) (bs:List Bool),xs=[.ref a]/\SqK X.K t H a (bs.map V.bl)/\Q (.bl (bs.all id)) H):=by
 intro pins s σ H xs us Q I r h;obtain ⟨a,bs,rfl,hq,q⟩:=h;obtain ⟨u,rfl,r1⟩:=Xt r;cases r1;obtain ⟨its,z,p,_⟩:=I.seqK hq;obtain ⟨Y,w2,w3⟩:=Q6z p;have J:=z.length;rw [O1] at J;refine call_all_walkS (Qaf p ⟨_,_,_,_,_,_,_,fun j=>bs.getD j yl,rfl,(Qpw (A:=X.A.in1) (I.ok.hd Z) t _ a Y its.toArray).toS,w2,fun i v s' Q' E' hv O=>?_,fun s' m=>?_⟩)
 ·rw [Qf3 z i v hv];exact bB O
 ·refine ⟨.bl (bs.all id),H,I.movedNew m,?_,q⟩;show dE _=_;rw [O8,<- J,Qdv]
end
theorem Qsm {prog:aK} {w:aJ} {A:aL} (Z:A.handled=zb) (t:Bool) (it l:aB) (I:l≠it) (j:Array aA) :
  Draws prog w A it [it,l] j.size (fun i v=>j[i]?=zo v) (fun i h=>IterAt t h it l i/\HasItems t h l j) where
 live:=fun _ _ st=>let ⟨o,e,_⟩:=st.1.there; ⟨o,e⟩
 frame:=fun _ _ _ st J=>⟨st.1.at fun o e=>J it (by simp) o e,st.2.at fun o e=>J l (by simp) o e⟩
 item:=fun i s Q E hi st O=>by
  refine Q8s st.1 st.2 (x:=j[i]) (by simp [hi]) fun h' q z=>?_
  exact O _ h' s.toks (by simp [hi]) ⟨q,st.2.at fun o e=>z.extBut _ _ I e⟩ z
 done:=fun s Q E st Y=>Q2x Z st.1 st.2 (by simp) Y
theorem Q8x (l:aB) (j:Array aA) (n:Nat) (z:Option aB) (O:Array (Option aA)) :
  Meets (Builtin.«enumerate.__new__» ⟨[.type "enumerate",.ref l],[]⟩) (fun _ R s=>s.heap.get? l=zo { cls:=.type "tuple",dict:=z,data:=.seq j n,slots:=O } /\
   R (.ok (.ret (.ref (s.heap.push { cls:=.type "tuple_iterator",data:=.fields #[.ref l,.int 0 0] }).objs.size)))
    { s with heap:=(s.heap.push { cls:=.type "tuple_iterator",data:=.fields #[.ref l,.int 0 0] }).push { cls:=.type "enumerate",data:=.fields #[.none,.bool yl,.ref s.heap.objs.size,aU 0,.none,.none] } }):=
 .of_wp fun prog w A R s h=>by
  obtain ⟨hp,g,d,tk,os⟩:=s; obtain ⟨q,h⟩:=h;have J:=sub_enumerate;have I:Heap.IsTuple (Shared.heap ⟨hp,g,d,tk,os⟩) l j:=⟨_,q,rfl,n,rfl⟩
  wp_walk using AutoSeq1.wpAny_loadPart' q
  refine wpAny_stack_any fun st=>wpAny_pure ?_
  split
  ·rename_i c _ _ _ _ _;cases (c == bi "enumerate")
   ·wp_walk using AutoSeq1.wpAny_loadPart' q,bL I
    exact ⟨_,rfl,h⟩
   ·wp_walk using AutoSeq1.wpAny_loadPart' q,bL I
    exact ⟨_,rfl,h⟩
  ·wp_walk using AutoSeq1.wpAny_loadPart' q,bL I
   exact ⟨_,rfl,h⟩
section
variable {prog:aK} {w:aJ} {A:aL} {E:aA->aC->Prop} {s:aC}
theorem Qbi {l:aB} {j:Array aA} {Q:aA->aC->Prop} (J:s.heap.IsTuple l j)
  (h:∀ h',IsEnum h' (s.heap.objs.size + 1) s.heap.objs.size 0 .none->h'.IsTupleIter s.heap.objs.size l 0->h'.objs.size=s.heap.objs.size + 2 ->
   (∀ b o,s.heap.get? b=zo o->h'.get? b=zo o)->Q (.ref (s.heap.objs.size + 1)) { s with heap:=h' }) :
  aF (aI prog w) A (call (.type "enumerate") [.ref l]) Q E s:=by
 obtain ⟨⟨c,q,O,I⟩,hl,hc,n,hd⟩:=J;replace hc:c=.type "tuple" := hc;replace hd:O=.seq j n:=hd;subst hc hd;refine callType_new F.called_enumerate (by decide) (F.typeCall_enumerate_1 _) (F.newCall_enumerate_1 _) (fun obj=>F.args_object_init_2 obj _) F.entry_enumerate_new
  (Q8x l j n q I) ⟨hl,?_⟩
 have hz:(s.heap.push { cls:=.type "tuple_iterator",data:=.fields #[.ref l,.int 0 0] }).objs.size=s.heap.objs.size + 1:=F7 ..;show _/\_;rw [hz];have z:IsEnum ((s.heap.push { cls:=.type "tuple_iterator",data:=.fields #[.ref l,.int 0 0] }).push
   { cls:=.type "enumerate",data:=.fields #[.none,.bool yl,.ref s.heap.objs.size,aU 0,.none,.none] }) (s.heap.objs.size + 1) s.heap.objs.size 0 .none:=by
  have:=D1 (s.heap.push { cls:=.type "tuple_iterator",data:=.fields #[.ref l,.int 0 0] })
   (o:={ cls:=.type "enumerate",data:=.fields #[.none,.bool yl,.ref s.heap.objs.size,aU 0,.none,.none] }) rfl
  rw [hz] at this; exact this
 refine ⟨⟨_,z,rfl⟩,h _ z ⟨_,O3 _ (D1 _ rfl),rfl,rfl⟩ (by rw [F7,hz]) fun b o x=>O3 _ (O3 _ x)⟩
theorem Qbj {t:Bool} {l:aB} {j:Array aA} {Q:aA->aC->Prop} (q:HasItems t s.heap l j)
  (h:∀ h',IsEnum h' (s.heap.objs.size + 1) s.heap.objs.size 0 .none->IterAt t h' s.heap.objs.size l 0->h'.objs.size=s.heap.objs.size + 2 ->
   (∀ b o,s.heap.get? b=zo o->h'.get? b=zo o)->Q (.ref (s.heap.objs.size + 1)) { s with heap:=h' }) :
  aF (aI prog w) A (call (.type "enumerate") [.ref l]) Q E s:=by
 cases t
 ·exact call_enumerate_list q h
 ·exact Qbi q h
end
def Ite (K:bW) (t:Bool) (a:aB):It:=
 ⟨fun i H=>∃ xs x,SqK K t H a xs/\xs[i]?=zo x,
  fun i H v H'=>∃ p x,H p=zb/\v=.ref p/\H'=upd H p (.tup [.int i,x])/\∀ xs,SqK K t H a xs->xs[i]?=zo x,
  fun i H=>∃ xs,SqK K t H a xs/\xs.length<=i⟩
theorem Inv.tracks {X:Cx} {pins:List (aB × Obj)} {σ:St} {H:Hp} {s s1:aC} {p:aB} {xs:List V} {its:List aA} (I:Inv X pins σ H s) (j:Inv X pins σ H s1) (hp:s.heap.objs.size<=p) (J:H p=zb) (rv:Vals xs its) (hz:xs.length<=sizeLine)
  (ht:IsTup s1.heap p its.toArray):Inv X pins σ (upd H p (.tup xs)) s1:=by
 refine ⟨j.ok,j.os,j.bare,?_,j.loc,j.cell,?_,?_,?_,?_,j.len⟩
 ·have u0:=j.base;have old:∀ c o,X.s₀.heap.get? c=zo o->c≠p:=fun c o e=>D8 (O9 (D0 e) (E1 I.sz hp))
  exact ⟨u0.keep,u0.slot,fun c o e n Z=>by rw [Qg (old c o e)]; exact u0.free c o e n Z,u0.there,
   fun c ts e=>by have:=u0.tups c ts e; rw [Qg (Qh this J)]; exact this,
   fun c o ts e=>by have:=u0.frzs c o ts e; rw [Qg (Qh this J)]; exact this,
   fun c ps e=>by obtain ⟨more,q⟩:=u0.tbls c ps e; exact ⟨more,by rw [Qg (Qh q J)]; exact q⟩⟩
 ·rw [Qg (D8 (O9 I.lt hp))]; exact I.free
 ·intro Y c e;obtain ⟨v',q⟩:=I.cell Y c e;rw [Qg (D8 (O9 q.lt hp))]; exact I.freeC Y c e
 ·intro p' z;obtain ⟨e,n,ne,nf,d⟩:=j.pin p' z;have e0:=(I.pin p' z).1;exact ⟨e,by rw [Qg (D8 (O9 (D0 e0) hp))]; exact n,ne,nf,d⟩
 ·intro c o q
  by_cases O:c=p
  ·subst O;rw [J3] at q; cases q;exact ⟨hz,its,rv,ht⟩
  ·rw [Qg O] at q;exact (j.hok c o q).stay (fun _ _ _ r=>r) (fun c' r=>by rw [Qg (Qh r J)]; exact r) fun c' ts r=>by rw [Qg (Qh r J)]; exact r
def Qsj (t:Bool) (e it a:aB) (i:Nat) (h:Heap):Prop:=(∃ old,IsEnum h e it i old)/\IterAt t h it a i
theorem Qdi {P:aK} {w:aJ} {K:bW} {elts:List aH} {k:Nat} {pos:Pos} {t:Bool} {e it a:aB} (a4:e≠it) (b3:a≠e) (b0:a≠it) :
  Turn P w K (.Tuple elts k pos) (Ite K t a) [e,it] e (Qsj t e it a) where
 mem:=by simp
 obj:=fun i h st c hc=>by
  obtain ⟨⟨old,J⟩,h1⟩:=st;simp at hc;rcases hc with rfl | rfl
  ·exact ⟨_,J,fun v q=>by cases q⟩
  ·exact h1.there
 keep:=fun i h h' st kk=>by
  obtain ⟨⟨old,J⟩,h1⟩:=st;exact ⟨⟨old,kk e (by simp) _ J⟩,h1.at fun o q=>kk it (by simp) o q⟩
 item:=by
  intro X hP hw hK hc i pins s σ H E I hf st hg;subst hP hw hK;obtain ⟨xs,x,Y,hx⟩:=hg;obtain ⟨⟨old,J⟩,h1⟩:=st;obtain ⟨its,rv,p,_⟩:=I.seqK Y;obtain ⟨ux,a7,b2⟩:=rv.get hx;have a8:i < its.toArray.size:=by rw [O8]; exact (O0.mp a7).1
  refine wpAny_pyNext_enum_itemD (Qsm (A:=X.A.in1) (I.ok.hd hc) t it a b0 its.toArray) J ⟨h1,p⟩ a8 a4 (by simp; exact ⟨a4,fun z=>b3 z.symm⟩) fun x' h' tk a3 ho b1 hT hsz hk=>⟨_,rfl,?_⟩
  have:x'=ux:=by
   have e1:its[i]?=zo x':=by simpa using a3
   rw [a7] at e1; exact (bj e1).symm
  subst this;refine wpAny_letOwnedTupleGo_enum (s:={ s with heap:=h',toks:=tk + 1 }) ho fun a6 a2 O=>?_
  have elt:e < s.heap.objs.size:=D0 J;have b5:it < s.heap.objs.size:=by obtain ⟨o,q,_⟩:=h1.there; exact D0 q
  have a5:H s.heap.objs.size=zb:=I.fresh;have I1:Inv X pins σ H { s with heap:=a6,toks:=tk + 1 }:=I.turnedL (its:=[e,it]) (fun c o j q=>(O.2 c (fun z=>j (by simp [z]))).trans (hk c o (fun z=>j (by simp [z])) (fun z=>j (by simp [z])) q)) fun c j=>hf c j
  have a1:a6.get? s.heap.objs.size=zo { cls:=.type "tuple",data:=.seq #[.int i tk,x'] }:=(O.2 _ (cE elt)).trans hT;have I2:=I.tracks (xs:=[.int i,x]) (its:=[.int i tk,x']) I1 (O5 _) a5 (.cons ⟨tk,rfl⟩ (.cons b2 .nil)) (by simp only [D5,cu]; rw [sizeLine_eq]; decide) ⟨_,a1,rfl,0,rfl⟩;refine ⟨.ref s.heap.objs.size,_,I2,rfl,⟨s.heap.objs.size,x,a5,rfl,rfl,fun b6 q1=>?_⟩,?_,fun c j=>?_⟩
  ·rw [I.seqK_inj q1 Y]; exact hx
  ·exact ⟨⟨x',by simpa using a2⟩,b1.1.at fun o q=>O.extBut _ _ (Ne.symm a4) q⟩
  ·have:=(hf c j).1;have a9:c < s.heap.objs.size:=by simp at j; rcases j with rfl | rfl <;> assumption
   rw [Qg (D8 a9)]; exact this
 done:=by
  intro X hP hw hK hc i pins s σ H E I hf st hg;subst hP hw hK;obtain ⟨xs,Y,b4⟩:=hg;obtain ⟨⟨old,J⟩,h1⟩:=st;obtain ⟨its,rv,p,_⟩:=I.seqK Y;have hl:=rv.length;have hT:s.TypeIs (.ref e) "enumerate" := ⟨_,J,rfl⟩;unfold ag;refine aD (wpAny_attempt (wpAny_callSpecial?_slot (name:=cP "__next__") hT F.slot_enumerate_next
   (af F.slot_enumerate_next hT F.entry_enumerate_next ?_ (F.args_enumerate_next_1 _))))
  show aF _ _ (field (.ref e) 2 >>= _) _ _ _;refine aD (aw J rfl (x:=.ref it) rfl ?_);refine aD (Q2x (I.ok.hd hc) h1 p (by simp; omega) fun h' x a2 a3=>?_)
  obtain ⟨o,ho,j⟩:=a3;refine aD (bK (T := "StopIteration") (b:=yo) ⟨o,ho,j⟩ isSubtype_stop ?_);exact wpAny_pure ⟨rfl,I.turnedL (t':=s.toks) (its:=[it]) (fun c o Z q=>a2 c o (fun z=>Z (by simp [z])) q) fun c Z=>hf c (by simp at Z; simp [Z])⟩
 self:=fun _ _ _ _ _ st h=>by
  obtain ⟨⟨old,J⟩,_⟩:=st;exact wpAny_pyIter_enum J h
section
variable {X:Cx}
def Qvc (K:bW) (t:Bool) (ta:TA):TI:=fun σ H R=>ta σ H fun vs H1=>∃ a xs,vs=[.ref a]/\SqK K t H1 a xs/\R (Ite K t a) H1
theorem Q3w:aX "enumerate" = zo (.type "enumerate"):=by decide +kernel
theorem Qm0 (t:Bool) {a:aH} {ta:TA} {p pos:Pos} {elts:List aH} {k:Nat} {tp:Pos} (hg:Gl X "enumerate") (hm:X.mg "enumerate" = zb) (ha:PA X [a] ta) (hs:aN [a] X.env=[(yl,aO a X.env)]:=by rfl) :
  PI X (.Tuple elts k tp) (.Call (.Name "enumerate" p) [a] [] pos) (Qvc X.K t ta):=by
 intro pins s σ H R I h;refine Call_ (zm I hg hm Q3w (dX (thn (ha pos pins s σ H _ I h) fun us s1 ⟨vs,H1,J,r1,q1⟩=>?_) hs rfl))
 obtain ⟨a',xs,e,q1,q⟩:=q1;subst e;obtain ⟨u,rfl,r⟩:=Xt r1;cases r;obtain ⟨its,rv,O,_⟩:=J.seqK q1;refine Qbj O fun h' Y z2 z3 z4=>?_
 refine wpAny_pyIter_enum (s:={ s1 with heap:=h' }) Y ?_;have z:a' < s1.heap.objs.size:=by obtain ⟨o,e⟩:=O.there; exact D0 e
 refine ⟨_,[s1.heap.objs.size + 1,s1.heap.objs.size],_,_,H1,rfl,J.kept (t':=s1.toks) z4,Qdi (t:=t) (cE (dM _)) (D8 (cx z)) (D8 z),⟨⟨_,Y⟩,z2⟩,fun c Z=>?_,q⟩
 have j:s1.heap.objs.size<=c:=by simp at Z; unfold aB at *; omega
 exact J.fpOk j (J.hok.fresh j)
end
theorem Qfy {H:Hp} {a:aB} {o:HO} (h:H a=zb):Same H (upd H a o):=fun b u e=>by rw [Qg (Qh e h)]; exact e
section
variable {K:bW} {cap:List (Option Nat)} {te:TE} {σ:St} {H1:Hp} {Q:VK}
abbrev g2 (K:bW):TG:=Qvg K 2 (Qif (Q9c 0) (Qif (Q9c 1) Qvh))
end
def Qvv:V->Option aA
 | .ty n=>zo (.type n)
 | .ref a=>zo (.ref a)
 | _=>zb
theorem Qj1 {c:V} {j u:aA} (e:Qvv c=zo j) (r:RelV c u):u=j:=by
 cases c with
 | ty n=>cases e; exact r
 | ref a=>cases e; exact r
 | _=>cases e
section
variable {X:Cx}
theorem Q9q:Vs X (.builtin "isinstance") (fun xs H Q=>∃ x c j t b,xs=[x,c]/\Qvv c=zo j/\TyOf X.K H x t/\fA X.K t j=zo b/\Q (.bl b) H):=by
 intro pins s σ H xs Z Q I r h;obtain ⟨x,c,j,t,b,rfl,z,ty,e,q⟩:=h;obtain ⟨u,Y,rfl,O,J⟩:=Qtj r;rw [Qj1 z J];exact Qen I O ty e fun tk=>⟨.bl b,H,I.tok tk,rfl,q⟩
theorem Q0x:aX "isinstance" = zo (.builtin "isinstance"):=by decide +kernel
theorem qx:aX "all" = zo (.builtin "all"):=by decide +kernel
theorem Yk:aX "tuple" = zo (.type "tuple"):=by decide +kernel
theorem Va:aX "list" = zo (.type "list"):=by decide +kernel
theorem Q9u:aX "int" = zo (.type "int"):=by decide +kernel
theorem Q5k:aX "bool" = zo (.type "bool"):=by decide +kernel
theorem Qj8:aX "str" = zo (.type "str"):=by decide +kernel
end
section
variable {X:Cx} (K:bW)
end
end L2
namespace L2
open PySem PySem.Spec PyProof.Rows PySem.W PySem.Builtin.Getset_descriptor
section
variable {prog:aK} {w:aJ} {A:aL} {E:aA->aC->Prop} {h:Heap} {g:Array GenState} {d:Drawn} {t:Nat} {os:OsState} {K:Frag} {x C:aB}
end
end L2
namespace L2
open PySem PySem.Spec PyProof.Rows
theorem ObjOk.there {P:aK} {w:aJ} {H:Hp} {h:Heap} {a:aB} {o:HO} (x:ObjOk P w H h a o):∃ u,h.get? a=zo u:=by
 cases o with
 | lst xs=>obtain ⟨_,_,_,_,e⟩:=x; exact ⟨_,e⟩
 | tup xs=>obtain ⟨_,_,_,o,e,_⟩:=x; exact ⟨o,e⟩
 | dK kvs=>obtain ⟨_,_,_,_,o,_,_,e,_⟩:=x; exact ⟨o,e⟩
 | dT kvs=>obtain ⟨_,_,_,_,o,_,_,e,_⟩:=x; exact ⟨o,e⟩
 | set S n=>obtain ⟨o,_,_,_,e,_⟩:=x; exact ⟨o,e⟩
 | ins C dx fs=>obtain ⟨_,_,_,e,_⟩:=x; exact ⟨_,e⟩
 | own y=>exact x
 | xd fs=>obtain ⟨_,⟨o,_,_,e,_⟩,_⟩:=x; exact ⟨o,e⟩
 | rng lo hi=>obtain ⟨_,_,_,e⟩:=x; exact ⟨_,e⟩
 | frz ob u=>obtain ⟨e,_⟩:=x; exact ⟨_,e⟩
 | tbl ps=>exact ⟨_,x⟩
 | met f y=>exact ⟨_,x⟩
 | ext j=>exact x.2.1
theorem HOk.none_of {P:aK} {w:aJ} {H:Hp} {h:Heap} {a:aB} (x:HOk P w H h) (e:h.get? a=zb):H a=zb:=by
 cases q:H a with
 | none=>rfl
 | some o=>
  obtain ⟨u,z⟩:=(x a o q).there;rw [e] at z;cases z
structure Fly (P:aK) (w:aJ) (outer:List Env) (H H':Hp) (s s':aC) (a:aB) (cls a0:aA) (B:Heap):Prop where
 os:s'.os=s.os
 bare:AllBare s'.gens
 fl:Heap.FlyingW B outer a cls a0 s'.heap
 hokB:HOk P w H' B
 keep:∀ b o,s.heap.get? b=zo o->H b=zb->b∉frs outer->B.get? b=zo o
 there:∀ b o,s.heap.get? b=zo o->b∉frs outer->∃ o',B.get? b=zo o'
 slot:∀ b o,s.heap.get? b=zo o->b∈frs outer->∃ sl,s'.heap.get? b=zo { o with slots:=sl }
 free:∀ b o,s.heap.get? b=zo o->H b=zb->H' b=zb
 tups:∀ b xs,H b=zo (.tup xs)->H' b=zo (.tup xs)
 frzs:∀ b o u,H b=zo (.frz o u)->H' b=zo (.frz o u)
 tbls:∀ b ps,H b=zo (.tbl ps)->∃ more,H' b=zo (.tbl (ps ++ more))
section
variable {P:aK} {w:aJ} {K:bW} {mg:Str->Option aA} {base:Heap} {N:List Str} {qual:Str} {scope:Scope} {f:aB} {cd:aA} {A:aL} {outer:List Env} {s:aC} {H:Hp} {E:XK}
end
abbrev Q9v:List aA:=[.type "ValueError",.type "Exception",.type "BaseException",.type "object"]
theorem Qm8 {K:bW} {h:Heap} {C:aB} {z:List aA} {j:String} {x:Str} {mg:Str->Option aA} (X:K.In h) (m:mg x=zo (.ref C)) (q:cL K C z j=yo):OwnCls x C z j mg h:=by
 refine ⟨m,?_⟩;unfold cL at q
 split at q
 ·rename_i dd cd J O
  split at q
  ·rename_i C' bm k0 k1 k2 k3 n k5 hm hs;simp only [E6,beq_iff_eq,Bool.not_eq_true'] at q;obtain ⟨⟨⟨⟨⟨rfl,rfl⟩,hdel⟩,ht⟩,hok⟩,hni⟩:=q;obtain ⟨nm,bs,Y,ns,qn,hd,sn,sub,ab,col,Z⟩:=cd;dsimp only at hm hdel hok hni;subst hm hdel;have I:J=#[k0,k1,k2,k3,zo (.builtin n),k5]:=by
    obtain ⟨l⟩:=J;simp only at hs;rw [hs]
   subst I;exact ⟨bm,ns,nm,qn,bs,hd,sn,sub,ab,col,dd,k0,k1,k2,k3,k5,_,X _ _ O,.of_isNs (PySem.W.isNs_of_in X hok),PySem.W.nsMap_none_of_in X hok hni,PySem.W.tail_of_in X ht⟩
  ·cases q
 ·cases q
section
variable {X:Cx}
def Qq1 (C:aB) (E:XK) (t:TA):TS:=fun _ σ H=>t σ H fun vs H1=>vs.length<=sizeLine/\E (.ref C) zb H1
end
section
variable {X:Cx} {pins:List (aB × Obj)} {σ:St} {H H':Hp} {s s':aC} {a C:aB}
end
section
variable {X:Cx}
end
section
variable {X:Cx}
end
theorem Q1i (l:aB) (j:Array aA) (n:Nat) (dd:Option aB) (q:Array (Option aA)) (t:Tok) :
  Meets (Builtin.«tuple.__mul__» ⟨[.ref l,.int 1 t],[]⟩) (fun _ R s=>s.heap.get? l=zo { cls:=.type "tuple",dict:=dd,data:=.seq j n,slots:=q }/\R (.ok (.ret (.ref l))) s):=
 .of_wp fun prog w A R s h=>by
  obtain ⟨hp,g,d,tk,os⟩:=s; obtain ⟨z,h⟩:=h
  wp_walk using wpAny_loadPart' z
  exact ⟨_,rfl,h⟩
theorem Q1j (l:aB) (j:Array aA) (n:Nat) (dd:Option aB) (I:Array (Option aA)) (x:Int) (t:Tok) (h1:¬ (decide (x < -(2 ^ 63)) || decide (x>=2 ^ 63))=yo) (h2:¬ (j.isEmpty || x == 1)=yo) (Y:¬ (decide (x<=0) || j.isEmpty)=yo) (z:¬ (j.size:Int) * x > (2 ^ 63 - 1) / 8) (J:¬ Builtin.Tuple.tupleTooMany ((j.size:Int) * x)=yo)
  (O:((ba x.toNat j).foldl (fun x1 x2=>x1 ++ x2) #[]).size<=sizeLine) :
  Meets (Builtin.«tuple.__mul__» ⟨[.ref l,.int x t],[]⟩) (fun _ R s=>s.heap.get? l=zo { cls:=.type "tuple",dict:=dd,data:=.seq j n,slots:=I } /\
   R (.ok (.ret (bY s.heap.objs.size))) { s with heap:=s.heap.push { cls:=bi "tuple",data:=Data.seq ((ba x.toNat j).foldl (fun x1 x2=>x1 ++ x2) #[]) } }):=
 .of_wp fun prog w A R s h=>by
  obtain ⟨hp,g,d,tk,os⟩:=s; obtain ⟨q,h⟩:=h
  wp_walk using wpAny_loadPart' q
  refine wpAny_ite_false (bU h1) ?_
  wp_walk using wpAny_loadPart' q
  refine wpAny_ite_false (bU z) ?_
  wp_walk using wpAny_loadPart' q
  all_goals first | exact ⟨_,rfl,h⟩ | (refine wpAny_ite_false (bU J) ?_; wp_walk) | skip
  all_goals first | exact ⟨_,rfl,h⟩ | (refine wpAny_ite_false (bU (gM.mpr O)) ?_; wp_walk; exact ⟨_,rfl,h⟩)
theorem Q3e (a:Int) (t:Tok) (l:aB) (j:Array aA) (n:Nat) (dd:Option aB) (q:Array (Option aA)) :
  Meets (Builtin.«int.__rmul__» ⟨[.int a t,.ref l],[]⟩) (fun _ R s=>s.heap.get? l=zo { cls:=.type "tuple",dict:=dd,data:=.seq j n,slots:=q }/\R (.ok (.ret gD)) s):=
 .of_wp fun prog w A R s h=>by obtain ⟨hp,g,d,tk,os⟩:=s; obtain ⟨z,h⟩:=h; wp_walk using wpAny_loadPart' z; exact ⟨_,rfl,h⟩
theorem xw:fillsNumberSlot (.type "tuple") "mul" = pure yl:=
 PySem.fillsNumberSlot_seq (id := "tuple.__mul__") (r:=zo (.builtin "tuple.__rmul__")) F.slot_tuple_mul.lookup (by decide +kernel) F.slot_tuple_rmul.lookup (by decide +kernel)
theorem Q67:seqRepeat? (.type "tuple")=pure (zo (.builtin "tuple.__mul__")):=by
 unfold seqRepeat?;rw [gN (T := "tuple") (name := "__mul__") (id := "tuple.__mul__") F.slot_tuple_mul.lookup (by decide +kernel),gN (T := "tuple") (name := "__rmul__") (id := "tuple.__rmul__") F.slot_tuple_rmul.lookup (by decide +kernel)];rfl
section
variable {X:Cx}
def Qu2 (K:bW):R2:=fun x y H Q=>∃ a k xs,x=.ref a/\y=.int k/\SqT K H a xs/\xs≠[]/\1<=k/\xs.length * k.toNat<=4096 /\
 (k=1->Q (.ref a) H)/\(k≠1->∀ p,H p=zb->Q (.ref p) (upd H p (.tup (ba k.toNat xs).flatten)))
theorem Qme:OpR X (aZ .Mult) (Qu2 X.K):=by
 intro pins s σ H x y v u Q I rx ry h;obtain ⟨a,k,xs,rfl,rfl,ha,Y,hk,hz,q1,q2⟩:=h;cases rx;obtain ⟨t,rfl⟩:=ry;obtain ⟨its,r,p1,hs⟩:=I.tuple ha;obtain ⟨⟨cls,dd,data,J⟩,ho,hc,n,hd⟩:=id p1;simp only at hc hd;subst hc hd;have O:its.length=xs.length:=r.length.symm;have hpos:0 < its.length:=by rw [O]; exact List.length_pos_iff.mpr Y
 have a1:k.toNat<=4096:=by
  have:1 * k.toNat<=xs.length * k.toNat:=Nat.mul_le_mul_right _ (by omega);omega
 refine wpAny_binaryOp_repeat_ref (T := "tuple") (U := "int") (by decide) ⟨_,ho,rfl⟩ (fun s'=>typeIs_int s' k t) xw F.fills_int_mul F.slot_int_rmul Q67 F.slot_int_index.lookup
  (bE F.slot_int_rmul (typeIs_int s k t) F.entry_int_rmul (F.args_int_rmul_2 _ _) (Q3e k t a its.toArray n dd J)
   ⟨ho,rfl,⟨_,ho,rfl⟩,?_⟩)
 by_cases h1:k=1
 ·subst h1;exact bE F.slot_tuple_mul ⟨_,ho,rfl⟩ F.entry_tuple_mul (F.args_tuple_mul_2 _ _) (Q1i a its.toArray n dd J t) ⟨ho,⟨.ref a,H,I,rfl,q1 rfl⟩⟩
 ·have f0:cJ (fun x1 x2=>x1 ++ x2) #[] (ba k.toNat its.toArray)=(ba k.toNat its).flatten.toArray:=by
   have:=Q07 its k.toNat [];rw [gJ] at this;exact this
  have j:(its.toArray.size:Int) * k=((its.length * k.toNat:Nat):Int):=by
   rw [O8,Int.natCast_mul,fM (by omega)]
  have Z:(ba k.toNat its).flatten.length<=4096:=by rw [Q6v,O,dz]; exact hz
  have hb:its.length * k.toNat<=4096:=by rw [O]; exact hz
  refine bE F.slot_tuple_mul ⟨_,ho,rfl⟩ F.entry_tuple_mul (F.args_tuple_mul_2 _ _) (Q1j a its.toArray n dd J k t ?_ ?_ ?_ ?_ ?_ ?_) ⟨ho,?_⟩
  ·rw [bU (by omega),bU (by omega)]; exact D3
  ·intro z;rcases gO.mp z with z | z
   ·rw [gP,gQ] at z; rw [z] at hpos; simp at hpos
   ·exact h1 (eq_of_beq z)
  ·intro z;rcases gO.mp z with z | z
   ·have:=of_decide_eq_true z; omega
   ·rw [gP,gQ] at z; rw [z] at hpos; simp at hpos
  ·rw [j]; omega
  ·rw [j];have:(4096:Int)<=sizeLine:=by decide
   show ¬ decide (((its.length * k.toNat:Nat):Int) > (sizeLine:Int))=yo;rw [bU (by omega)]; exact D3
  ·rw [f0,O8]; exact E1 Z (by decide)
  ·rw [f0];refine ⟨.ref s.heap.objs.size,_,I.laid (t':=s.toks) (o:=.tup (ba k.toNat xs).flatten) (fun b ob q=>O3 _ q) (O5 _) ?_,rfl,q2 h1 _ (I.hok.fresh (O5 _))⟩;exact ⟨by rw [Q6v,dz]; exact E1 hz (by decide),_,r.rep k.toNat,IsTup.new _ _⟩
end
section
variable {X:Cx} {pins:List (aB × Obj)} {s:aC} {σ:St} {H:Hp}
open PySem.SeqAt
theorem Qh0:OpR X (aS .Is) (fun x y H Q=>∃ b c,x=.bl b/\y=.bl c/\Q (.bl (b == c)) H):=by
 intro pins s σ H x y v u Q I j z h;obtain ⟨b,c,rfl,rfl,q⟩:=h;cases j;cases z;exact io ⟨.bl _,H,I,rfl,q⟩
theorem Q8j:OpR X (aS .IsNot) (fun x y H Q=>∃ b c,x=.bl b/\y=.bl c/\Q (.bl (b != c)) H):=by
 intro pins s σ H x y v u Q I j z h;obtain ⟨b,c,rfl,rfl,q⟩:=h;cases j;cases z;exact ip ⟨.bl _,H,I,rfl,q⟩
end
section
variable {K:bW} {cap:List (Option Nat)} {te:TE} {σ:St} {H1:Hp} {Q:VK}
end
section
variable {X:Cx} {pos:Pos}
end
theorem Wv:∀ (names:List (Str × au)) (h:Heap) (acc:List (Str × aB)) (x:Str) (c:aB),(ah h.objs.size names acc).lookup x=zo c ->
  acc.lookup x=zo c\/((x,NameKind.cell)∈names/\h.objs.size<=c/\(pushCells h names).IsCell c zb)
 | [],_,_,_,_,e=>.inl e
 | (name,kind) :: r,h,acc,x,c,e=>by
  unfold ah at e;unfold pushCells
  by_cases j:(kind == NameKind.cell)=yo
  ·rw [bS j] at e ⊢;have J:kind=.cell:=by simpa using j
   have Y:=Wv r (h.push { cls:=.type "cell",data:=.cell zb }) ((name,h.objs.size) :: acc) x c (by rw [F7]; exact e);rw [F7] at Y;rcases Y with z | ⟨q,Z,I⟩
   ·rw [cK] at z;cases O:x == name with
    | true=>
     rw [O] at z; cases z;exact .inr ⟨by rw [beq_iff_eq.mp O,J]; exact F2,O5 _,⟨_,pushCells_keeps _ _ _ _ (D1 _ rfl),rfl⟩⟩
    | false=>rw [O] at z; exact .inl z
   ·exact .inr ⟨O4 _ q,by omega,I⟩
  ·rw [bT j] at e ⊢;rcases Wv r h acc x c e with z | ⟨q,Z,I⟩
   ·exact .inl z
   ·exact .inr ⟨O4 _ q,Z,I⟩
theorem Vh {x:Str}:∀ (names:List (Str × au)) (n:Nat) (acc:List (Str × aB)),(x,NameKind.cell)∉names->(ah n names acc).lookup x=acc.lookup x
 | [],_,_,_=>rfl
 | (name,kind) :: r,n,acc,h=>by
  unfold ah;have q:(x,NameKind.cell)∉r:=fun z=>h (O4 _ z)
  by_cases j:(kind == NameKind.cell)=yo
  ·rw [bS j,Vh r _ _ q,cK];cases I:x == name with
   | true=>exact absurd (by rw [beq_iff_eq.mp I,show kind=.cell by simpa using j]; exact F2) h
   | false=>rfl
  ·rw [bT j,Vh r _ _ q]
theorem Xq {x:Str} {c:aB}:∀ (names:List (Str × au)) (n:Nat) (acc:List (Str × aB)),(x,NameKind.cell)∈names->(ah n names acc).lookup x=zo c->n<=c
 | [],_,_,h,_=>by cases h
 | (name,kind) :: r,n,acc,h,e=>by
  unfold ah at e
  by_cases j:(x,NameKind.cell)∈r
  ·by_cases z:(kind == NameKind.cell)=yo
   ·rw [bS z] at e;exact Nat.le_of_succ_le (Xq r _ _ j e)
   ·rw [bT z] at e;exact Xq r _ _ j e
  ·rcases D6.mp h with q | q
   ·cases q;rw [bS (by decide),Vh r _ _ j,cK] at e;simp at e;exact eA e
   ·exact absurd q j
theorem Xr:∀ (names:List (Str × au)) (n:Nat) (acc:List (Str × aB)),(∀ x c,acc.lookup x=zo c->c < n)->(∀ x y c,acc.lookup x=zo c->acc.lookup y=zo c->x=y) ->
  ∀ x y c,(ah n names acc).lookup x=zo c->(ah n names acc).lookup y=zo c->x=y
 | [],_,_,_,h=>h
 | (name,kind) :: r,n,acc,h1,h2=>by
  unfold ah
  by_cases I:(kind == NameKind.cell)=yo
  ·rw [bS I];refine Xr r (n + 1) _ (fun x c e=>?_) (fun x y c e q=>?_)
   ·rw [cK] at e;cases z:x == name with
    | true=>rw [z] at e; cases e; exact dM _
    | false=>rw [z] at e; exact cx (h1 x c e)
   ·rw [cK] at e q;cases z:x == name with
    | true=>
     rw [z] at e; cases e;cases j:y == name with
     | true=>rw [beq_iff_eq.mp z,beq_iff_eq.mp j]
     | false=>rw [j] at q; exact absurd (h1 y _ q) (L0 _)
    | false=>
     rw [z] at e;cases j:y == name with
     | true=>rw [j] at q; cases q; exact absurd (h1 x _ e) (L0 _)
     | false=>rw [j] at q; exact h2 x y c e q
  ·rw [bT I];exact Xr r n acc h1 h2
theorem Q44 {M:Model} {A:aL} {E:aA->aC->Prop} {s:aC} {scope:Scope} {q:aB} {O:List (Str × aB)} {qual:Str} {z:Option aB} {code:aA} {env:Env} {j:aB} {Q:Env->aC->Prop}
  (Y:Q (newEnv scope s.heap.objs.size q (ah (s.heap.objs.size + 1) scope.names O) qual z code (zo env) j) { s with heap:=pushCells (s.heap.push { cls:=.type "dict",data:=.dict #[] }) scope.names }) :
  aF M A (newFunctionEnv scope q O [] qual z code (zo env) j) Q E s:=by
 simp only [newFunctionEnv,gS,if_true];refine aD (wpAny_alloc ?_);refine aD (wpAny_layCells _ (fun name kind I=>by cases J:kind == NameKind.cell <;> simp [J]) _ _ _ _ ?_);rw [show ({ s with heap:=s.heap.push { cls:=.type "dict",data:=.dict #[] } }:aC).heap.objs.size=s.heap.objs.size + 1 from F7 ..];refine aD ?_;rw [gT];exact wpAny_pure (wpAny_pure Y)
def compOkC (N N':List Str) (sc scE:Scope) (cap:List (Option Nat)):Bool:=
 sc.kind == .function && sc.names.all (fun x=>x.2 != .cell || sc.names.lookup x.1 == zo .cell) && sc.names.all (fun x=>x.2 != .local || sc.names.lookup x.1 == zo .local) &&
 sc.names.all (fun x=>x.2 != .free || scE.names.lookup x.1 == zo .cell || scE.names.lookup x.1 == zo .free) && cap.length == N'.length &&
 (bX cap.length).all (fun i=>match cap[i]? with
  | some (zo j)=>(match N'[i]?,N[j]? with | some a,zo b=>a == b && sc.names.lookup a == zo .free | _,_=>yl)
  | _=>yo)
structure CompOkC (N N':List Str) (sc scE:Scope) (cap:List (Option Nat)):Prop where
 kind:sc.kind=.function
 cel:∀ x∈sc.names,x.2=.cell->sc.names.lookup x.1=zo .cell
 loc:∀ x∈sc.names,x.2=.local->sc.names.lookup x.1=zo .local
 fre:∀ x∈sc.names,x.2=.free->scE.names.lookup x.1=zo .cell\/scE.names.lookup x.1=zo .free
 len:cap.length=N'.length
 at_:∀ (i j:Nat),cap[i]?=zo (zo j)->∃ x,N'[i]?=zo x/\N[j]?=zo x/\sc.names.lookup x=zo .free
theorem compOkC.of {N N':List Str} {sc scE:Scope} {cap:List (Option Nat)} (h:compOkC N N' sc scE cap=yo):CompOkC N N' sc scE cap:=by
 unfold compOkC at h;simp only [E6,F4,beq_iff_eq,Bool.or_eq_true,bne_iff_ne] at h;obtain ⟨⟨⟨⟨⟨h1,h2⟩,h3⟩,h4⟩,h5⟩,h6⟩:=h;refine ⟨h1,fun x q e=>?_,fun x q e=>?_,fun x q e=>?_,h5,fun i j e=>?_⟩
 ·rcases h2 x q with z | z
  ·exact absurd e z
  ·exact z
 ·rcases h3 x q with z | z
  ·exact absurd e z
  ·exact z
 ·rcases h4 x q with (z | z) | z
  ·exact absurd e z
  ·exact .inl z
  ·exact .inr z
 ·have hi:i < cap.length:=(O0.mp e).1;have:=h6 i (cH.mpr hi);rw [e] at this;simp only at this;cases e1:N'[i]? with
  | none=>rw [e1] at this; cases this
  | some a=>
   cases e2:N[j]? with
   | none=>rw [e1,e2] at this; cases this
   | some b=>
    rw [e1,e2] at this;simp only [E6,beq_iff_eq] at this;obtain ⟨rfl,z⟩:=this;exact ⟨a,rfl,rfl,z⟩
def Wf (X:Cx) (N':List Str) (sc:Scope) (cl:List (Str × aB)) (C:aB) (s0:aC) (H0:Hp) (ex:List aB):Cx:=
 { X with N:=N',s₀:=s0,H₀:=H0,env:=compEnvC sc cl C X.env,outer:=X.stack,ex:=ex,fn:=fun x=>sc.names.lookup x == zo .cell,pn:=[],xe:=fun _ _=>False }
section
variable {X:Cx}
theorem Qja {pins:List (aB × Obj)} {σ:St} {H:Hp} {s:aC} {N N':List Str} {sc scE:Scope} {cap:List (Option Nat)} {cl:List (Str × aB)} {fp:List aB}
  (I:Inv X pins σ H s) (hN:X.N=N) (hE:X.env.scope=scE) (ck:CompOkC N N' sc scE cap) (c1:∀ x c,cl.lookup x=zo c->X.env.cells.lookup x=zo c) (c2:∀ x∈sc.names,x.2=.free->∃ c,cl.lookup x.1=zo c)
  (hf:∀ b∈fp,Q43 X pins H b) (a6:∀ b∈fp,b < s.heap.objs.size) :
  Inv (Wf X N' sc (ah (s.heap.objs.size + 1) sc.names cl) s.heap.objs.size s H fp) [] (xf cap σ) H { s with heap:=pushCells (s.heap.push { cls:=.type "dict",data:=.dict #[] }) sc.names }:=by
 obtain ⟨Y,Z⟩:∃ Y,pushCells (s.heap.push { cls:=.type "dict",data:=.dict #[] }) sc.names=Y:=⟨_,rfl⟩;obtain ⟨J,O⟩:∃ J,ah (s.heap.objs.size + 1) sc.names cl=J:=⟨_,rfl⟩;rw [Z,O];have keep:∀ b o,s.heap.get? b=zo o->Y.get? b=zo o:=fun b o e=>by rw [<- Z]; exact pushCells_keeps _ _ b o (O3 _ e)
 have b0:Y.Ns s.heap.objs.size (fun _=>zb):=by rw [<- Z]; exact (Heap.Ns.new s.heap (.type "dict")).keeps (pushCells_keeps _ _)
 have look:∀ x c,J.lookup x=zo c->cl.lookup x=zo c\/(s.heap.objs.size + 1<=c/\Y.IsCell c zb):=fun x c e=>by
  rw [<- O] at e;have:=Wv (sc.names) (s.heap.push { cls:=.type "dict",data:=.dict #[] }) cl x c (by rw [F7]; exact e);rw [F7,Z] at this;rcases this with z | ⟨_,z,z'⟩
  ·exact .inl z
  ·exact .inr ⟨z,z'⟩
 have a1:∀ x c,cl.lookup x=zo c->c < s.heap.objs.size:=fun x c e=>by
  obtain ⟨v,o,ho,_⟩:=I.cell x c (c1 x c e);exact D0 ho
 have inj:∀ x y c,J.lookup x=zo c->J.lookup y=zo c->x=y:=by
  rw [<- O];exact Xr _ _ _ (fun x c e=>cx (a1 x c e)) fun x y c a b=>I.ok.inj x y c (c1 x c a) (c1 y c b)
 have a9:∀ x,sc.names.lookup x=zo .cell->∃ c,J.lookup x=zo c:=fun x e=>by
  rw [<- O];exact fy.mp (fC _ _ _ (.inl e))
 have a5:∀ x,sc.names.lookup x=zo .free->J.lookup x=cl.lookup x:=fun x e=>by
  rw [<- O];refine Vh _ _ _ fun z=>?_
  have:=ck.cel _ z rfl;rw [e] at this; cases this
 have kindOf:∀ x k,(compEnvC sc J s.heap.objs.size X.env).kindOf x=zo k->k=.cell\/k=.free->sc.names.lookup x=zo .free\/sc.names.lookup x=zo .cell:=fun x k e hk=>by
  have e':(relabel sc X.env).names.lookup x=zo k:=e;rw [qh] at e';cases q:sc.names.lookup x with
  | none=>rw [q] at e'; cases e'
  | some k'=>
   rw [q] at e';have a8:(if (k' == NameKind.free && X.env.scope.kind == .function && X.env.kindOf x == zo .cell)=yo then NameKind.cell else k')=k:=bj e'
   by_cases hc:(k' == NameKind.free && X.env.scope.kind == .function && X.env.kindOf x == zo .cell)=yo
   ·simp only [E6,beq_iff_eq] at hc;rw [hc.1.1]; exact .inl rfl
   ·rw [bT hc] at a8;subst a8;rcases hk with z | z
    ·rw [z]; exact .inr rfl
    ·rw [z]; exact .inl rfl
 have cellAt:∀ x c,X.env.cells.lookup x=zo c->∀ v,s.heap.IsCell c v->Y.IsCell c v:=fun x c e v ⟨o,ho,hd⟩=>⟨o,keep c o ho,hd⟩
 have a3:∀ c,s.heap.objs.size<=c->H c=zb:=fun c hc=>I.hok.fresh hc
 refine ⟨⟨I.ok.mod,ck.kind,I.ok.glob,I.ok.blt,O5 _,inj,fun x hx=>?_,fun x c h1 h2=>?_,I.ok.hd,I.ok.frames,.inl rfl,fun b hb=>?_,I.bs,
  E1 I.ok.bsz I.sz,fun b o e hb=>?_,fun b hb hz=>?_,I.stack,I.stkFree⟩,rfl,I.bare,Un.kept keep,⟨_,b0,fun i x v e1 e2 e3=>?_⟩,fun x c e=>?_,a3 _ (O5 _),fun x c e=>?_,fun p hp=>(by cases hp),I.hok.kept keep,?_⟩
 ·have hx:(compEnvC sc J s.heap.objs.size X.env).kindOf x=zo .cell\/(compEnvC sc J s.heap.objs.size X.env).kindOf x=zo .free:=hx;have q:sc.names.lookup x=zo .free\/sc.names.lookup x=zo .cell:=by
   rcases hx with z | z
   ·exact kindOf x _ z (.inl rfl)
   ·exact kindOf x _ z (.inr rfl)
  rcases q with q | q
  ·obtain ⟨c,hc⟩:=c2 _ (cO q) rfl;exact ⟨c,(a5 x q).trans hc⟩
  ·exact a9 x q
 ·have h1:sc.names.lookup x=zo .cell:=by simpa [Wf] using h1
  have h2:J.lookup x=zo c:=h2;rw [<- O] at h2;exact E1 (dN _) (Xq _ _ _ (cO h1) h2)
 ·refine ⟨D8 (a6 b hb),fun x c e=>?_⟩;rcases look x c e with z | ⟨z,_⟩
  ·exact (hf b hb).2.2.2.2.1 x c (c1 x c z)
  ·exact fun q=>absurd (O9 (a6 b hb) (E1 (dN _) (q ▸ z))) (L0 _)
 ·rcases (hf b hb).2.2.2.1 with z | z
  ·exact I.ok.noex b o e z
  ·exact absurd (O9 (D0 e) (E1 I.ok.bsz z)) (L0 _)
 ·rcases D6.mp (I.stkSub b hz) with e | z
  ·exact (hf b hb).2.1 e
  ·exact (hf b hb).2.2.1 z
 ·have e1:N'[i]?=zo x:=e1;have e2:(xf cap σ)[i]?=zo (zo v):=e2;unfold xf at e2;rw [D7] at e2;cases q:cap[i]? with
  | none=>rw [q] at e2; cases e2
  | some oj=>
   rw [q] at e2;cases oj with
   | none=>cases e2
   | some j=>
    obtain ⟨y,z1,z2,z3⟩:=ck.at_ i j q;rw [e1] at z1; cases z1;have ev:σ[j]?=zo (zo v):=by
     have a2:(σ[j]?).join=zo v:=bj e2;cases r:σ[j]? with
     | none=>rw [r] at a2; cases a2
     | some o=>rw [r] at a2; exact congrArg zo a2
    obtain ⟨m',b1,hl⟩:=I.loc;have sK:X.env.scope.names.lookup x=zo .cell\/X.env.scope.names.lookup x=zo .free:=by rw [hE]; exact ck.fre _ (cO z3) rfl
    obtain ⟨u,ru,l⟩:=hl j x v (by rw [hN]; exact z2) ev (sK.elim (fun z=>.inr (.inl z)) fun z=>.inr (.inr z))
    refine ⟨u,ru,?_⟩;obtain ⟨c,hc⟩:=c2 _ (cO z3) rfl;rcases l with ⟨k,_⟩ | ⟨k,c',a7,a4⟩
    ·have k:X.env.scope.names.lookup x=zo .local:=k;rcases sK with z | z <;> (rw [k] at z; cases z)
    ·have:c=c':=by
      have q1:=c1 x c hc;rw [a7] at q1;exact (bj q1).symm
     subst this;refine .inr ⟨?_,c,(a5 x z3).trans hc,cellAt x c a7 _ a4⟩;show (relabel sc X.env).names.lookup x=zo .cell\/(relabel sc X.env).names.lookup x=zo .free;rw [qh,z3];show zo (if _ then NameKind.cell else NameKind.free)=_\/zo (if _ then NameKind.cell else NameKind.free)=_
     split
     ·exact .inl rfl
     ·exact .inr rfl
 ·rcases look x c e with z | ⟨_,z⟩
  ·obtain ⟨v,q⟩:=I.cell x c (c1 x c z);exact ⟨v,cellAt x c (c1 x c z) v q⟩
  ·exact ⟨_,z⟩
 ·rcases look x c e with z | ⟨z,_⟩
  ·exact I.freeC x c (c1 x c z)
  ·exact a3 c (by omega)
 ·unfold xf;show _=N'.length;rw [O1];exact ck.len
end
section
variable {X:Cx}
end
end L2
namespace PySem
open Sem (wp)
section
variable {prog:aK} {w:aJ} {A:aL} {E:aA->aC->Prop} {hp:Heap} {gs:Array GenState} {dr:Drawn} {tk:Nat} {sy:OsState}
variable {cn cq:Str} {kC kN:aB} {bas tl tB:List aA} {hd:Bool} {sns:List Str} {subs:List aA} {abb:Bool} {coll:Option Bool} {dic:Option aB} {j0 j1 j2 j3 j5:Option aA} {BB Bn newI nI initI inN:String} {tN:List aA}
end
section
variable {M:Model} {A:aL} {E:aA->aC->Prop} {env:Env}
variable {cn cq:Str} {kC kN:aB} {bas tl:List aA} {hd:Bool} {sns:List Str} {subs:List aA} {abb:Bool} {coll:Option Bool} {dic:Option aB} {j0 j1 j2 j3 j5:Option aA} {newI:String}
end
end PySem
namespace L2
open PySem PySem.Spec PyProof.Rows PySem.W PySem.Builtin.ObjectAttr
section
variable {prog:aK} {w:aJ} {A:aL} {E:aA->aC->Prop} {s:aC} {K:Frag} {x C W:aB} {name:Str} {v:aA}
end
end L2
namespace L2
open PySem PySem.Spec PyProof.Rows PySem.W
section
variable {prog:aK} {w:aJ} {A:aL} {E:aA->aC->Prop} {s:aC} {K:Frag} {x C W f:aB}
end
section
variable {X:Cx} {x C W f:aB}
end
end L2
namespace PySem
open Sem (wp)
def Q4e (o:Obj):Option aA:=match o.data with | .fields vs=>vs[2]? | _=>zb
theorem Qin {o:Obj} {vs:Array aA} {x:aA} (j:o.data=.fields vs):Q4e (cy (·.setIfInBounds 1 x) o)=Q4e o:=by
 have d:=dL j (·.setIfInBounds 1 x);unfold Q4e;rw [d,j];exact gU (by decide)
section
variable {M:Model} {A:aL} {E:aA->aC->Prop} {s:aC} {bs:Heap} {en:Env} {ou:List Env} {L e:aB} {ob:Obj} {vs:Array aA} {a0:aA} {Q:Unit->aC->Prop}
theorem Q3m {I:aA} {nx:Bool} (fr:A.frames=zo (en :: ou)) (ff:s.heap.FunFrames bs (en :: ou)) (ef:en.frame=zo L) (oe:s.heap.get? e=zo ob) (kb:bs.StaysIn s.heap) (ne:bs.get? e=zb)
  (O:ob.data=.fields vs) (z1:1 < vs.size) (z0:vs[0]?=zo a0)
  (h:∀ h',Heap.LeftW bs (en :: ou) e ob.cls a0 s.heap h'->(∃ o',h'.get? e=zo o'/\o'.dict=ob.dict/\Q4e o'=Q4e ob)->Q () { s with heap:=h' }) :
  aF M A (do
   let a <- frameOf en
   let pl <- entryPlaceOf L nx
   let b <- EntryCells.newEntry I a .none (aU L) .none pl
   setField (.ref e) 1 b) (fun _ s'=>aF M A (setFlight (.ref e) zb) Q E s') E s:=by
 have nf:e∉(en :: ou).filterMap (·.frame):=fun m=>by
  obtain ⟨_,o,q,n⟩:=ff.mem m;rw [oe] at q;cases q;exact n vs O
 refine aD (wpAny_frameOf_fun fr ff ef fun g gs=>?_);refine aD (wpAny_entryPlaceOf fun pl hp=>?_);unfold EntryCells.newEntry newFields;refine aD (aq ?_ (hp.sizeOk5 _ _ _ _ _));have ge:g.get? e=zo ob:=(gs.2.1 e nf).trans oe;have gb:bs.StaysIn g:=fun b o q=>(gs.2.1 b fun m=>by
  rw [(ff.mem m).1] at q;cases q).trans (kb b o q)
 obtain ⟨tb,a1⟩:∃ tb:List aA,[I,.ref L,.none,aU L,.none] ++ (if pl.isEmpty then ba 6 bZ else pl)=tb:=⟨_,rfl⟩;have l5:3 < tb.length/\tb[3]?=zo (aU L):=by
  rw [<- a1];exact ⟨by simp,by simp⟩
 rw [a1];have Y:=O3 (h:=g) { cls:=.type "traceback",dict:=zb,data:=.fields tb.toArray } ge;refine wpAny_setField Y O z1 ?_;have te:g.objs.size≠e:=cE (D0 ge);have d3:=dL O (·.setIfInBounds 1 (bY g.objs.size));have j:=G8 (cy (·.setIfInBounds 1 (bY g.objs.size))) Y (fK d3);have J:=(F5 (g.push { cls:=.type "traceback",dict:=zb,data:=.fields tb.toArray })
  (cy (·.setIfInBounds 1 (bY g.objs.size))) te.symm).trans
  (D1 g rfl)
 unfold setFlight;refine aD (aw j d3 (x:=.ref g.objs.size) (by simp [z1]) ?_);rw [bS (show (bY g.objs.size != bZ)=yo by simp)];refine wpAny_setField J rfl (by simpa using l5.1) (h _ ?_ ?_)
 all_goals
  obtain ⟨g3,Z⟩:∃ g3,((g.push { cls:=.type "traceback",dict:=zb,data:=.fields tb.toArray }).update e (cy (·.setIfInBounds 1 (bY g.objs.size))))=g3:=⟨_,rfl⟩;rw [Z] at j J ⊢
 ·have kp:∀ b o,b≠e->g.get? b=zo o->(g3.update g.objs.size (cy (·.setIfInBounds 3 ((zb:Option aB).elim bZ fun f=>aU f)))).get? b=zo o:=fun b o n q=>by
   rw [F5 _ _ (cE (D0 q)),<- Z,F5 _ _ n.symm];exact O3 _ q
  have nr:∀ b o,s.heap.get? b=zo o->(∀ ws,o.data≠.fields ws)->b≠e:=fun b o q n z=>by
   rw [z,oe] at q;cases q;exact n vs O
  refine ⟨fun b o q=>kp b o (fun z=>by rw [z,ne] at q; cases q) (gb b o q),ff.of_keeps fun b o q n=>?_,?_,fun b o q n=>?_⟩
  ·obtain ⟨sl,z⟩:=gs.2.2 b o q;exact ⟨_,kp b _ (nr b o q n) z,rfl⟩
  ·refine ⟨_,_,g.objs.size,_,_,?_,⟨gL _ _,?_⟩,d3,by simp [z1],gb.fresh,te,G8 _ J (fK (dL rfl _)),dL rfl _,?_⟩
   ·rw [F5 _ _ te];exact j
   ·rw [gU (by decide)];exact z0
   ·have:=l5.1;simp [this]
  ·obtain ⟨sl,z⟩:=gs.2.2 b o q;exact ⟨sl,kp b _ (nr b o q n) z⟩
 ·refine ⟨_,(F5 _ _ te).trans j,?_,Qin O⟩;cases ob with
  | mk c d dt sl=>cases dt <;> first | rfl | cases O
theorem Q95 (Z:A.frames=zo (en :: ou)) (J:s.heap.FunFrames bs (en :: ou)) (z:en.frame=zo L) (q:s.heap.get? e=zo ob) (Y:bs.StaysIn s.heap) (ne:bs.get? e=zb)
  (I:ob.data=.fields vs) (j:vs[1]?=zo .none) (O:vs[0]?=zo a0)
  (h:∀ h',Heap.LeftW bs (en :: ou) e ob.cls a0 s.heap h'->(∃ o',h'.get? e=zo o'/\o'.dict=ob.dict/\Q4e o'=Q4e ob)->Q () { s with heap:=h' }):aF M A (leaving en (.ref e)) Q E s:=by
 unfold leaving noteFrame;simp only [z];refine aD (aD (aw q I j ?_));rw [bT (by decide)];exact Q3m Z J z q Y ne I (cA.mp j).1 O h
theorem Q94 {cls:aA} {Z:Option aB} (fr:A.frames=zo (en :: ou)) (ef:en.frame=zo L) (fl:Heap.FlyingW bs (en :: ou) e cls a0 s.heap) (dd:∃ o',s.heap.get? e=zo o'/\o'.dict=Z/\Q4e o'=zo .none)
  (h:∀ h',Heap.FlyingW bs ou e cls a0 h'->(∃ o',h'.get? e=zo o'/\o'.dict=Z/\Q4e o'=zo .none)->s.heap.UpToSlots h'->Q () { s with heap:=h' }):aF M A (leaving en (.ref e)) Q E s:=by
 obtain ⟨kb,ne,ff,oe,ws,T,oT,ts,J,⟨hc,z0⟩,od,z1,nT,Te,hT,dT,z3⟩:=fl;obtain ⟨o',j,Y,O⟩:=dd;rw [J] at j;cases j;unfold leaving noteFrame;simp only [ef];refine aD (aD (aw J od z1 ?_));rw [bS (show (bY T != bZ)=yo by simp)];refine aD (aw hT dT z3 ?_);rw [bT (show ¬ ((bZ == aU L)=yo) by simp [aU])];refine aD (wpAny_setField hT dT (cA.mp z3).1 ?_);have I:∀ b,b≠T->(s.heap.update T (cy (·.setIfInBounds 3 bZ))).get? b=s.heap.get? b:=fun b n=>F5 _ _ n.symm
 have nr:∀ b o,s.heap.get? b=zo o->(∀ ws,o.data≠.fields ws)->b≠T:=fun b o q n z=>by
  rw [z,hT] at q;cases q;exact n ts dT
 refine Q3m fr (ff.of_keeps fun b o q n=>⟨o,(I b (nr b o q n)).trans q,rfl⟩) ef ((I e Te.symm).trans J) (fun b o q=>(I b fun z=>by rw [z,nT] at q; cases q).trans (kb b o q)) ne od (cA.mp z1).1 z0 fun h' lf d'=>?_
 obtain ⟨k1,⟨_,_,k2⟩,k3,k4⟩:=lf;rw [hc] at k3;exact h h' ⟨k1,ne,k2,k3⟩ (d'.imp fun o q=>⟨q.1,q.2.1.trans Y,q.2.2.trans O⟩) fun b o q n=>k4 b o ((I b (nr b o q n)).trans q) n
end
end PySem
namespace L2
open PySem PySem.Spec PyProof.Rows
def CXD (P:aK) (w:aJ):CXT:=fun outer H s E e s'=>∃ a cls a0 dv H' B,e=bY a/\Fly P w outer H H' s s' a cls a0 B/\(∃ o',s'.heap.get? a=zo o'/\o'.dict=dv/\Q4e o'=zo .none)/\E cls dv H'
theorem Wp {P:aK} {w:aJ} {X:Cx}:Q41 (CXD P w) X E0:=fun _ _ _ _ _ _ _ h=>by
 obtain ⟨_,_,_,_,_,_,_,_,_,z⟩:=h;exact z.elim
section
variable {P:aK} {w:aJ} {K:bW} {mg:Str->Option aA} {base:Heap} {N:List Str} {qual:Str} {scope:Scope} {f:aB} {cd:aA} {A:aL} {outer:List Env} {s:aC} {H:Hp} {E:XK}
abbrev cxD (P:aK) (w:aJ) (K:bW) (mg:Str->Option aA) (base:Heap) (N:List Str) (qual:Str) (scope:Scope) (f:aB) (cd:aA) (A:aL) (outer:List Env) (s:aC) (H:Hp) (E:XK):Cx:=Qew (CXD P w) P w K mg base N qual scope f cd A outer s H E
theorem Q5w {pins:List (aB × Obj)} {σ:St} {H1:Hp} {s1:aC} (I:Inv (cxD P w K mg base N qual scope f cd A outer s H E) pins σ H1 s1) {b:aB} {o:Obj} (e:s.heap.get? b=zo o) (n:b∉frs outer):b∉frs (cxD P w K mg base N qual scope f cd A outer s H E).stack:=fun j=>by
 rcases D6.mp (I.stkSub b j) with z | z
 ·have h1:b < s.heap.objs.size:=D0 e;have h2:s.heap.objs.size<=(cxD P w K mg base N qual scope f cd A outer s H E).env.locals:=I.ok.above;rw [<- z] at h2;exact absurd (O9 h1 h2) (L0 _)
 ·exact n z
theorem Qii {b:aB} (h:b∈frs outer):b∈frs (cxD P w K mg base N qual scope f cd A outer s H E).stack:=by
 show b∈frs (_ :: outer);unfold frs at h ⊢;rw [cW]
 split
 ·exact h
 ·exact O4 _ h
theorem Qqm {pins:List (aB × Obj)} {σ:St} {H1:Hp} {s1:aC} {O:Heap} {e C t:aB} {dv:Option aB} (I:Inv (cxD P w K mg base N qual scope f cd A outer s H E) pins σ H1 s1)
  (hk:∀ b o,b≠e->s1.heap.get? b=zo o->O.get? b=zo o) (a4:∀ o,s1.heap.get? e=zo o->∃ vs,o.data=.fields vs) (new:s.heap.get? e=zb) (hH:H1 e=zb)
  (oe:O.get? e=zo { cls:=.ref C,dict:=dv,data:=.fields #[.ref t,.none,.none,.none,.bool yl,.none] }) (hE:E (.ref C) dv H1) :
  (cxD P w K mg base N qual scope f cd A outer s H E).xe (.ref e) { s1 with heap:=O }:=by
 have a6:∀ en∈(cxD P w K mg base N qual scope f cd A outer s H E).stack,∀ b,en.frame=zo b->b∈e :: frs (cxD P w K mg base N qual scope f cd A outer s H E).stack:=fun en he b j=>O4 _ (dY.mpr ⟨en,he,j⟩)
 have ff:=PySem.W.funFrames_hide I.stack a6;have a2:∀ b o,s1.heap.get? b=zo o->(∀ vs,o.data≠.fields vs)->b≠e:=fun b o q n z=>by
  subst z;obtain ⟨vs,d⟩:=a4 o q;exact n vs d
 have hid:(dq s1.heap (e :: frs (cxD P w K mg base N qual scope f cd A outer s H E).stack)).get? e=zb:=fq _ F2;have kb:(dq s1.heap (e :: frs (cxD P w K mg base N qual scope f cd A outer s H E).stack)).StaysIn O:=fun b o q=>hk b o (fun z=>by rw [z,hid] at q; cases q) (fo _ q)
 show aF (aI P w) _ (leaving _ (.ref e)) _ _ _;refine Q95 (bs:=dq s1.heap (e :: frs (cxD P w K mg base N qual scope f cd A outer s H E).stack)) (a0:=.ref t) (s:={ s1 with heap:=O }) I.ok.frames (ff.of_keeps fun b o q n=>⟨o,hk b o (a2 b o q n) q,rfl⟩) rfl oe kb hid rfl rfl rfl fun h2 lf dd=>?_
 obtain ⟨k1,⟨_,_,k2⟩,k3,k4⟩:=lf;have noex:∀ b:aB,b∉(cxD P w K mg base N qual scope f cd A outer s H E).ex:=fun b z=>absurd (show b∈([]:List aB) from z) (by simp)
 have Y:∀ b o,s.heap.get? b=zo o->b≠e:=fun b o q z=>by rw [z,new] at q; cases q
 have Z:∀ b o,s.heap.get? b=zo o->b∉frs outer->b∉e :: frs (cxD P w K mg base N qual scope f cd A outer s H E).stack:=fun b o q n m=>by
  rcases D6.mp m with z | z
  ·exact Y b o q z
  ·exact Q5w I q n z
 refine ⟨e,.ref C,.ref t,dv,H1,_,rfl,⟨I.os,I.bare,⟨k1,hid,k2,k3⟩,fun b u q=>?_,fun b o q n j=>?_,fun b o q j=>?_,fun b o q j=>?_,fun b o q n=>I.base.free b o q n (noex b),I.base.tups,I.base.frzs,I.base.tbls⟩,dd,hE⟩
 ·have ne:∀ c v,H1 c=zo v->c∉e :: frs (cxD P w K mg base N qual scope f cd A outer s H E).stack:=fun c v z m=>by
   rcases D6.mp m with m | m
   ·rw [m,hH] at z; cases z
   ·rw [I.stkFree c m] at z; cases z
  refine (I.hok b u q).stay (fun c v hc r=>du _ r ?_) (fun _ r=>r) fun _ _ r=>r
  rcases hc with rfl | hc
  ·exact ne c u q
  ·exact ne c _ hc
 ·exact du _ (I.base.keep b o q n j (noex b)) (Z b o q j)
 ·obtain ⟨o',z⟩:=I.base.there b o q (noex b);exact ⟨o',du _ z (Z b o q j)⟩
 ·obtain ⟨sl,z⟩:=I.base.slot b o q (I.ok.frf b j) j (noex b);obtain ⟨_,o',a3,a1⟩:=I.ok.funs.mem j;have J:s.heap.get? b=zo o':=a3;rw [q] at J;cases J;obtain ⟨a5,z'⟩:=k4 b _ (hk b _ (Y b o q) z) a1;exact ⟨a5,z'⟩
theorem Qb:Q41 (CXD P w) (cxD P w K mg base N qual scope f cd A outer s H E) E:=by
 intro pins σ H1 s1 e s' I h;obtain ⟨a,cls,a0,dv,H',B,rfl,F,dd,hE⟩:=h;show aF (aI P w) _ (leaving _ (.ref a)) _ _ _;have noex:∀ b:aB,b∉(cxD P w K mg base N qual scope f cd A outer s H E).ex:=fun b z=>absurd (show b∈([]:List aB) from z) (by simp)
 refine Q94 I.ok.frames rfl F.fl dd fun h2 x1 d2 x2=>?_
 refine ⟨a,cls,a0,dv,H',B,rfl,⟨F.os.trans I.os,F.bare,x1,F.hokB,fun b o q n j=>?_,fun b o q j=>?_,fun b o q j=>?_,fun b o q n=>?_,fun b xs q=>F.tups b xs (I.base.tups b xs q),fun b o u q=>F.frzs b o u (I.base.frzs b o u q),fun b ps q=>?_⟩,d2,hE⟩
 ·exact F.keep b o (I.base.keep b o q n j (noex b)) (I.base.free b o q n (noex b)) (Q5w I q j)
 ·obtain ⟨o',z⟩:=I.base.there b o q (noex b);exact F.there b o' z (Q5w I q j)
 ·obtain ⟨sl,z⟩:=I.base.slot b o q (I.ok.frf b j) j (noex b);obtain ⟨_,o',Z,O⟩:=I.ok.funs.mem j;have J:s.heap.get? b=zo o':=Z;rw [q] at J;cases J;obtain ⟨a1,z'⟩:=F.slot b _ z (Qii j);obtain ⟨Y,z2⟩:=x2 b _ z' O;exact ⟨Y,z2⟩
 ·obtain ⟨o',z⟩:=I.base.there b o q (noex b);exact F.free b o' z (I.base.free b o q n (noex b))
 ·obtain ⟨m1,e1⟩:=I.base.tbls b ps q;obtain ⟨m2,e2⟩:=F.tbls b _ e1;exact ⟨m1 ++ m2,by rw [e2,ft]⟩
end
section
variable {X:Cx}
def Qbv (X:Cx) (E:XK):Prop:=∀ (pins:List (aB × Obj)) (σ:St) (H0 H1:Hp) (s0 s1:aC) (hx:Heap) (e C t:aB) (dv:Option aB),Inv X pins σ H0 s0->s0.heap.get? e=zb->Inv X pins σ H1 s1->(∀ b o,b≠e->s1.heap.get? b=zo o->hx.get? b=zo o) ->
 (∀ o,s1.heap.get? e=zo o->∃ vs,o.data=.fields vs)->H1 e=zb->hx.get? e=zo { cls:=.ref C,dict:=dv,data:=.fields #[.ref t,.none,.none,.none,.bool yl,.none] }->E (.ref C) dv H1->X.xe (.ref e) { s1 with heap:=hx }
theorem Qdw {x:Str} {C:aB} {e:aH} {t:TA} {E:XK} {np cpos pos:Pos} (j:X.calm=yo) (RO:Qbv X E) (hg:Gl X x) (hm:X.mg x=zo (.ref C)) (q:cL X.K C Q9v "ValueError.__new__" = yo) (ha:PA X [e] t)
  (a1:(x == ("__debug__" : Str))=yl:=by decide) (he:aN [e] X.env=[(yl,aO e X.env)]:=by rfl):PS X (.Raise (zo (.Call (.Name x np) [e] [] cpos)) zb pos) (Qq1 C E t):=by
 intro pins s σ H D I h;obtain ⟨tl,N,nm,qn,bs,hdct,sn,sub,ab,col,dd,k0,k1,k2,k3,k5,mN,hC,hN,Z,T⟩:=(Qm8 I.mod.kin hm q).obj;refine wpAny_Raise_call_subU (C:=C) (nm:=nm) (q:=qn) (N:=N) (bs:=bs) (bm:=tl) (hdct:=hdct) (sn:=sn) (sub:=sub) (ab:=ab) (col:=col) (dd:=dd) (k0:=k0) (k1:=k1) (k2:=k2) (k3:=k3) (k5:=k5)
  gW (by decide +kernel) gW (mN:=mN) (T.hasType (by decide +kernel)) (I.ok.hd j) (by rw [he]; rfl) Z (Q6x I hg hm ⟨rfl,?_⟩ a1)
 have O:=ha cpos pins s σ H _ I h;rw [he] at O ⊢;refine Calls.evalArgs_plain (ao O (fun us s1 ⟨vs,H1,J,r,z,hE⟩=>?_) fun _ _ y=>y)
 refine ⟨rfl,by rw [<- r.length]; exact z,J.bk _ _ hC,hN.keeps J.bk,T.keeps J.bk,fun h' e' Y=>?_⟩;obtain ⟨t,oe,_,_⟩:=Y.there;exact RO pins σ H1 H1 s1 s1 h' e' C t zb J Y.new J (fun b o _ k=>Y.keeps b o k) (fun o k=>by rw [Y.new] at k; cases k) (J.hok.none_of Y.new) oe hE
end
theorem Q8c {P:aK} {w:aJ} {K:bW} {mg:Str->Option aA} {base:Heap} {N:List Str} {qual:Str} {scope:Scope} {f:aB} {cd:aA} {A:aL} {outer:List Env} {s:aC} {H:Hp} {E:XK} :
  Qbv (cxD P w K mg base N qual scope f cd A outer s H E) E:=fun pins σ H0 H1 s0 s1 hx e C t dv I0 J I O j Y Z hE=>by
 refine Qqm I O j ?_ Y Z hE;cases q:s.heap.get? e with
 | none=>rfl
 | some o=>
  obtain ⟨o',z⟩:=I0.base.there e o q (fun z=>absurd (show e∈([]:List aB) from z) (by simp))
  rw [J] at z; cases z
theorem Fun.okD {P:aK} {w:aJ} {K:bW} {mg:Str->Option aA} {base:Heap} {x qual:Str} {st:aM} {f:aB} {fd:aP} {N ps:List Str} {k:Nat} {sp:Sp} (F:Fun K x qual st f fd) (S:FnScope N ps (Qa st)) (len:∀ vs H Q E,sp vs H Q E->vs.length=ps.length)
  (q:∀ (j:aA) (A:aL) (outer:List Env) (s:aC) (H:Hp) (vs:List V) (Q:VK) (E:XK),Room k (A.deeper (envOfC qual (Qa st) s.heap.objs.size f j))->sp vs H Q E ->
   ∃ t,PSs (cxD P w K mg base N qual (Qa st) f j A outer s H E) (Z0 st) t/\t { nx:=fun _ H'=>Q .non H',rt:=Q } (start N vs) H):FnOk P w K mg base (CXD P w) (k + 1) f fd ps sp:=by
 obtain ⟨oc,od,kV,J,pm,an,j,ct,O,rfl,Y,I⟩:=F.ex;exact Qvs Y I S len fun A outer s H vs Q E Z z=>q j A outer s H vs Q E Z z
end L2
namespace L2
open PySem PySem.Spec PyProof.Rows PySem.W PySem.Builtin.Getset_descriptor
section
variable {prog:aK} {w:aJ} {A:aL} {E:aA->aC->Prop} {h:Heap} {g:Array GenState} {d:Drawn} {t:Nat} {os:OsState} {K:Frag} {x C dx:aB} {name:Str} {v:aA} {m:Str->Option aA}
end
section
variable {X:Cx}
end
section
variable {X:Cx} {pins:List (aB × Obj)} {σ:St} {H H':Hp} {s s':aC} {a C:aB}
end
end L2
namespace L2
open PySem PySem.Spec PyProof.Rows
section
variable {X:Cx}
end
section
variable {X:Cx}
end
end L2
namespace L2
open PySem PySem.Spec PyProof.Rows PySem.W PySem.Builtin.Getset_descriptor
section
variable {X:Cx} {pins:List (aB × Obj)} {σ:St} {H H':Hp} {s s':aC} {a C:aB}
end
end L2
namespace L2
open PySem PySem.Spec PyProof.Rows
section
variable {X:Cx}
end
end L2
namespace L2
open PySem PySem.Spec PyProof.Rows PySem.W PySem.Builtin.Getset_descriptor
section
variable {X:Cx} {pins:List (aB × Obj)} {σ:St} {H H':Hp} {s s':aC} {a C:aB}
end
section
variable {X:Cx}
end
end L2
namespace L2
open PySem PySem.Spec PyProof.Rows PySem.SeqAt
section
variable {prog:aK} {w:aJ} {A:aL} {E:aA->aC->Prop} {s:aC}
end
section
variable {X:Cx}
end
end L2
namespace L2
open PySem PySem.Spec PyProof.Rows PySem.SeqAt
section
variable {X:Cx}
end
end L2
namespace L2
open PySem PySem.Spec PyProof.Rows
section
variable {X:Cx}
def Qg6 (K:bW):R2:=fun x y H Q=>∃ a b ys,x=.ref a/\y=.ref b/\SqT K H a []/\SqT K H b ys/\Q (.ref b) H
theorem Qh2:OpR X (aZ .Add) (Qg6 X.K):=by
 intro pins s σ H x y v u Q I rx ry h;obtain ⟨a,b,ys,rfl,rfl,ha,hb,q⟩:=h;cases rx;cases ry;obtain ⟨its,r1,Z,_⟩:=I.tuple ha;obtain ⟨j,r2,p2,_⟩:=I.tuple hb;have e1:its=[]:=r1.nil_iff.mpr rfl;subst e1;obtain ⟨⟨cls,dd,data,Y⟩,ho,hc,n,hd⟩:=id Z;obtain ⟨⟨O,J,data2,z⟩,ho2,hc2,n2,hd2⟩:=id p2;simp only at hc hd hc2 hd2;subst hc hd hc2 hd2;exact concat_meets ⟨_,ho,rfl⟩ ⟨_,ho2,rfl⟩ noFill_tuple_add seq_tuple_add fD fE (fF _ _)
  (tuple_addW0 a b ([]:List aA).toArray j.toArray n n2 dd J Y z (by simp)) ⟨ho,ho2,⟨.ref b,H,I,rfl,q⟩⟩
abbrev Qu6 (K:bW):R2:=fun x y H Q=>Qp9 K x y H Q\/Qg6 K x y H Q
theorem Qmg:OpR X (aZ .Add) (Qu6 X.K):=op_catT.or Qh2
end
def PTs (X:Cx) (ifs:List aH) (t:TT):Prop:=
 ∀ (pins:List (aB × Obj)) (s:aC) (σ:St) (H:Hp) (Q:Bool->Hp->Prop),Inv X pins σ H s->t σ H Q ->
  aF (aI X.prog X.w) X.A (forIn ifs yo fun c r=>if r=yo then do let ok <- isTrue c X.env (aO c X.env); pure (ForInStep.yield ok) else pure (ForInStep.yield r)) (TP X pins σ Q) X.xe s
def Qtn:TT:=fun _ H Q=>Q yo H
theorem Qkm {X:Cx}:PTs X [] Qtn:=fun _ _ _ H _ I h=>wpAny_tests_nil ⟨H,I,h⟩
theorem Qkk {X:Cx} {c:aH} {t:TT} (h:PT X c t):PTs X [c] t:=fun pins s σ H Q I q=>wpAny_tests_one (h pins s σ H Q I q)
def Q5h (J:It) (cap:List (Option Nat)) (g:TG) (tt:TT) (te:TE) (σ:St) (H1:Hp) (Q:VK):Prop:=∀ acc,H1 acc=zb ->
 ∃ W:Nat->Nat->List V->St->Hp->Prop,(∃ m,W 0 m [] (xf cap σ) (upd H1 acc (.lst [])))/\∀ i m ys σ' H',W i m ys σ' H'->H' acc=zo (.lst ys) /\
  ((J.stop i H'/\Q (.ref acc) H')\/(J.go i H'/\ys.length < sizeLine/\∀ x H2,J.yld i H' x H2->g x σ' H2 fun σ3 H3=>tt σ3 H3 fun b H4=>
    if b=yo then te σ3 H4 fun y H5=>H5 acc=zo (.lst ys)/\∃ m',m' < m/\W (i + 1) m' (ys ++ [y]) σ3 (upd H5 acc (.lst (ys ++ [y])))
    else ∃ m',m' < m/\W (i + 1) m' ys σ3 H4))
def Q5v (cap:List (Option Nat)) (wi:TI) (g:TG) (tt:TT) (te:TE):TE:=fun σ H Q=>wi σ H fun J H1=>Q5h J cap g tt te σ H1 Q
section
variable {prog:aK} {w:aJ} {A:aL} {R:Result->aC->Prop} {s:aC}
theorem Q4f {elt j iter:aH} {ifs:List aH} {scope:Scope} {pos:Pos} {it acc:aA} {env:Env} (I:Nat->aC->Prop)
  (a4:∀ n s,I n s->aF (aI prog w) A (ag it) (fun r O=>match r with
   | none=>R (.ok .next) O
   | some v=>aF (aI prog w) A (letOwnedTupleGo j it v) (fun _ J=>aF (aI prog w) A (assign j env v) (fun _ Z=>
     aF (aI prog w) A (forIn ifs yo fun c r=>if r=yo then do let ok <- isTrue c env (aO c env); pure (ForInStep.yield ok) else pure (ForInStep.yield r)) (fun ok z=>
      if ok=yo then aF (aI prog w) A (aO elt env) (fun x a2=>
       aF (aI prog w) A (call (.builtin "list.append") [acc,x]) (fun _ a1=>∃ m,m < n/\I m a1) (fun _ _=>False) a2) (fun _ _=>False) z
      else ∃ m,m < n/\I m z) (fun _ _=>False) Z)
     (fun _ _=>False) J) (fun _ _=>False) O) (fun _ _=>False) s)
  (n:Nat) (h:I n s):codeAny (aI prog w) A (.compLoop (.ListComp elt [⟨j,iter,ifs,0⟩] scope pos) 0 it acc env) R s:=by
 refine codeAny_loop rfl I (fun n s hI=>?_) n h;show aF _ A ((compTurn (.ListComp elt [⟨j,iter,ifs,0⟩] scope pos) 0 it acc env).onRaise (fun x=>do noteFrame x env; theTreesLotGoes x)) _ _ s;refine wpAny_noted ?_;rw [compTurn_list];refine aD (wpAny_standAt (aD (ao (a4 n s hI) (fun r O Y=>?_) fun _ _ h'=>h'.elim)))
 cases r with
 | none=>exact wpAny_pure Y
 | some v=>
  refine aD (ao Y (fun _ J a3=>?_) fun _ _ h'=>h'.elim)
  refine aD (ao a3 (fun _ Z a6=>aD (ao a6 (fun ok z q=>?_) fun _ _ h'=>h'.elim)) fun _ _ h'=>h'.elim)
  cases ok with
  | true=>
   rw [bS rfl] at q;exact aD (aD (ao q (fun x a2 a5=>aD (ao a5 (fun _ a1 a7=>wpAny_pure (wpAny_pure ⟨rfl,a7⟩)) fun _ _ h'=>h'.elim)) fun _ _ h'=>h'.elim))
  | false=>
   rw [bT D3] at q;exact aD (wpAny_pure (wpAny_pure ⟨rfl,q⟩))
end
section
variable {X:Cx}
theorem Q3p {elt tg iter:aH} {ifs:List aH} {tt:TT} {pos:Pos} {N N':List Str} {sc scE:Scope} {cap:List (Option Nat)} {wi:TI} {g:TG} {te:TE} {use:Option (aA->Sem Unit)} {QQ:aA->aC->Prop} (c0:X.calm=yo) (hi:PI X tg iter wi)
  (hg:∀ cl C s0 H0 ex,PG (Wf X N' sc cl C s0 H0 ex) tg g) (he:∀ cl C s0 H0 ex,PE (Wf X N' sc cl C s0 H0 ex) elt te) (e8:∀ cl C s0 H0 ex,PTs (Wf X N' sc cl C s0 H0 ex) ifs tt)
  (hN:X.N=N) (hE:X.env.scope=scE) (hc:compOkC N N' sc scE cap=yo) (hs:∀ x,bH iter X.env x=pure x)
  {pins:List (aB × Obj)} {s:aC} {σ:St} {H:Hp} {Q:VK} (I:Inv X pins σ H s) (h:Q5v cap wi g tt te σ H Q)
  (fin:∀ acc C H' s' m,Inv X pins σ H' s'->s'.heap.Ns C m->Q43 X pins H' C->Q (.ref acc) H'->compPost (aI X.prog X.w) X.A X.xe use QQ (.ref acc) C (.ok .next) s') {pos':Pos} :
  aF (aI X.prog X.w) X.A (comprehension (.ListComp elt [⟨tg,iter,ifs,0⟩] sc pos) sc X.env pos' (newList []) yl (aO iter X.env) use) QQ X.xe s:=by
 have ck:=compOkC.of hc;obtain ⟨cl,e9,c1,c2⟩:=Qbf (scope:=sc) (env:=X.env) fun x hx hf=>I.ok.has x.1 (by
  have:=ck.fre x hx hf;rw [<- hE] at this;exact this)
 refine wpAny_comprehension_free (use:=use) rfl hs e9 ck.kind ck.loc (thn (hi pins s σ H _ I h) fun v s1 h1=>thn h1 fun f6 Z h2=>?_)
 obtain ⟨it,fp,tn,J,H2,e,I2,T,d5,f2,hw⟩:=h2;subst e;have b6:∀ b∈fp,b < Z.heap.objs.size:=fun b Y=>by
  obtain ⟨o,e,_⟩:=T.obj _ _ d5 b Y;exact D0 e
 obtain ⟨W,⟨m0,w0⟩,turn⟩:=hw Z.heap.objs.size I2.fresh;refine aq (Q44 ?_);dsimp only;have I3:Inv X pins σ (upd H2 Z.heap.objs.size (.lst [])) { Z with heap:=Z.heap.push { cls:=.type "list",data:=.seq ([]:List aA).toArray } }:=
  I2.lnew (its:=[]) (ys:=[]) (t':=Z.toks) .nil (F6 _)
 generalize c7:({ Z with heap:=Z.heap.push { cls:=.type "list",data:=.seq ([]:List aA).toArray } }:aC)=s3 at I3;have c8:s3.heap=Z.heap.push { cls:=.type "list",data:=.seq ([]:List aA).toArray }:=by rw [<- c7]
 have hsz:s3.heap.objs.size=Z.heap.objs.size + 1:=by rw [c8,F7]
 have f3:∀ b∈fp,Q43 X pins (upd H2 Z.heap.objs.size (.lst [])) b:=fun b Y=>by
  obtain ⟨g0,g1⟩:=f2 b Y;exact ⟨by rw [Qg (D8 (b6 b Y))]; exact g0,g1⟩
 have k3:∀ b o,Z.heap.get? b=zo o->s3.heap.get? b=zo o:=fun b o e=>by rw [c8]; exact O3 _ e
 obtain ⟨a3,b1⟩:∃ a3,ah (s3.heap.objs.size + 1) sc.names cl=a3:=⟨_,rfl⟩;obtain ⟨a1,a2⟩:∃ a1,pushCells (s3.heap.push { cls:=.type "dict",data:=.dict #[] }) sc.names=a1:=⟨_,rfl⟩;have k1:∀ b o,s3.heap.get? b=zo o->a1.get? b=zo o:=fun b o e=>by rw [<- a2]; exact pushCells_keeps _ _ b o (O3 _ e)
 have e0:∀ x c,a3.lookup x=zo c->cl.lookup x=zo c\/s3.heap.objs.size + 1<=c:=fun x c e=>by
  rw [<- b1] at e;have:=Wv (sc.names) (s3.heap.push { cls:=.type "dict",data:=.dict #[] }) cl x c (by rw [F7]; exact e);rcases this with z | ⟨_,z,_⟩
  ·exact .inl z
  ·rw [F7] at z; exact .inr z
 have I4:Inv (Wf X N' sc a3 s3.heap.objs.size s3 (upd H2 Z.heap.objs.size (.lst [])) fp) [] (xf cap σ) (upd H2 Z.heap.objs.size (.lst [])) { s3 with heap:=a1 }:=by
  rw [<- b1,<- a2];exact Qja I3 hN hE ck c1 c2 f3 (fun b Y=>O9 (b6 b Y) (by rw [hsz]; exact dN _))
 have d1:tn 0 a1:=T.keep _ _ _ d5 fun b Y o e=>k1 b o (k3 b o e)
 generalize j:Wf X N' sc a3 s3.heap.objs.size s3 (upd H2 Z.heap.objs.size (.lst [])) fp=X' at I4;have c6:X'.xe=fun _ _=>False:=by rw [<- j]; rfl
 have O:X'.prog=X.prog:=by rw [<- j]; rfl
 have a4:X'.w=X.w:=by rw [<- j]; rfl
 have d0:X'.K=X.K:=by rw [<- j]; rfl
 have a5:X'.A=X.A:=by rw [<- j]; rfl
 have d6:X'.calm=yo:=by rw [<- j]; exact c0
 have a8:X'.env=compEnvC sc a3 s3.heap.objs.size X.env:=by rw [<- j]; rfl
 have a6:X'.env.locals=s3.heap.objs.size:=by rw [a8]; rfl
 have d8:PG X' tg g:=by rw [<- j]; exact hg _ _ _ _ _
 have e7:PE X' elt te:=by rw [<- j]; exact he _ _ _ _ _
 have c9:PTs X' ifs tt:=by rw [<- j]; exact e8 _ _ _ _ _
 have b0:∀ {H':Hp},(∀ b∈fp,H' b=zb)->∀ b∈fp,Q43 X' [] H' b:=fun {H'} hn b Y=>by
  obtain ⟨_,g1,g2,g3,g4,g5⟩:=f3 b Y;refine ⟨hn b Y,by rw [a6,hsz]; exact D8 (cx (b6 b Y)),?_,?_,?_,fun p hp=>?_⟩
  ·rw [<- j];intro z;rcases D6.mp (I3.stkSub b z) with e | z
   ·exact g1 e
   ·exact g2 z
  ·left
   rw [<- j];exact Y
  ·intro x c e;rw [a8] at e;rcases e0 x c e with z | z
   ·exact g4 x c (c1 x c z)
   ·exact fun q=>absurd (O9 (b6 b Y) (E1 (E1 (dN _) (hsz ▸ dN _)) (q ▸ z))) (L0 _)
  ·rw [<- j] at hp;cases hp
 have d4:∀ {b4:St} {H':Hp} {s':aC},Inv X' [] b4 H' s'->Q (.ref Z.heap.objs.size) H'->compPost (aI X.prog X.w) X.A X.xe use QQ (.ref Z.heap.objs.size) s3.heap.objs.size (.ok .next) s':=fun {b4 H' s'} J q=>by
  obtain ⟨mm,d3,_⟩:=J.loc;rw [a6] at d3;have c5:H' s3.heap.objs.size=zb:=by have:=J.free; rw [a6] at this; exact this
  have hok:=J.hok;rw [O,a4] at hok;have u1:Un (frs X.stack) fp (upd H2 Z.heap.objs.size (.lst [])) H' s3.heap s'.heap:=by
   have:=J.base;rw [<- j] at this;exact this
  have e4:s'.os=s3.os:=by have:=J.os; rw [<- j] at this; exact this
  refine fin _ _ H' s' mm (I3.call' (s':=s') e4 u1 hok J.bare fun b Y=>?_) d3 (I3.fpOk (O5 _) c5) q
  obtain ⟨_,g1,g2,g3,g4,g5⟩:=f3 b Y;exact ⟨g3,g1,g4,g5⟩
 have b3:codeAny (aI X.prog X.w) X.A (.compLoop (.ListComp elt [⟨tg,iter,ifs,0⟩] sc pos) 0 (.ref it) (.ref Z.heap.objs.size) X'.env)
   (compPost (aI X.prog X.w) X.A X.xe use QQ (.ref Z.heap.objs.size) s3.heap.objs.size) { s3 with heap:=a1 }:=by
  refine Q4f (fun n s'=>∃ i ys b4 H',Inv X' [] b4 H' s'/\tn i s'.heap/\(∀ b∈fp,H' b=zb)/\W i n ys b4 H') ?_ m0 ⟨0,[],_,_,I4,d1,fun b Y=>(f3 b Y).1,w0⟩
  rintro n s5 ⟨i,ys,b8,H5,I5,d7,d2,w5⟩;obtain ⟨f4,q⟩:=turn i n ys b8 H5 w5;rcases q with ⟨stop,q⟩ | ⟨go,f5,step⟩
  ·refine thn (a5 ▸ T.done X' O a4 d0 d6 i [] s5 b8 H5 _ I5 (b0 d2) d7 stop) fun r s6 ⟨hr,I6⟩=>?_
   subst hr;exact d4 I6 q
  ·refine thn (a5 ▸ T.item X' O a4 d0 d6 i [] s5 b8 H5 _ I5 (b0 d2) d7 go) fun r s6 ⟨u,hr,h6⟩=>?_
   subst hr;refine thn h6 fun _ s7 ⟨x,H7,I7,r7,y7,a7,e6⟩=>?_
   have e5:=I7.pinned (b0 e6) (T.obj _ _ a7);have g7:=d8 _ s7 b8 H7 x u _ e5 r7 (step x H7 y7);rw [O,a4,a5,c6] at g7;refine thn g7 fun _ s8 ⟨b2,H8,I8,q8⟩=>?_
   have t8:=c9 _ s8 b2 H8 _ I8 q8;rw [O,a4,a5,c6] at t8;refine thn t8 fun f0 f1 ⟨d9,b7,b5⟩=>?_
   cases f0 with
   | false=>
    rw [bT D3] at b5 ⊢;obtain ⟨m',c3,w9⟩:=b5;refine ⟨m',c3,i + 1,_,b2,_,b7.unpinned,T.keep _ _ _ a7 fun b Y o eo=>(b7.pin (b,o) (E9 _ (E9 _ (V5 Y eo)))).1,fun b Y=>?_,w9⟩;obtain ⟨o,eo,d⟩:=T.obj _ _ a7 b Y;exact (b7.pin (b,o) (E9 _ (E9 _ (V5 Y eo)))).2.1
   | true=>
   rw [bS rfl] at b5 ⊢;have g8:=e7 _ f1 b2 d9 _ b7 b5;rw [O,a4,a5,c6] at g8;refine thn g8 fun y s9 ⟨yv,H9,I9,r9,a9,m',c3,w9⟩=>?_
   obtain ⟨z,its,nn,rr,hl,e⟩:=I9.lstM a9;refine bE F.slot_list_append ⟨_,e,rfl⟩ F.entry_list_append (F.args_list_append_2 _ _) (gH _ its.toArray nn y (by rw [O8]; omega)) ⟨e,?_⟩;have c4:Inv X' ([] ++ Q2e fp s7.heap) b2 (upd H9 Z.heap.objs.size (.lst (ys ++ [yv]))) { s9 with heap:=s9.heap.update Z.heap.objs.size (bp fun a=>a.push y) }:=
    I9.lset (t':=s9.toks) (its':=its ++ [y]) a9 e (by simp) (rr.append (.cons r9 .nil)) (by rw [O6,gI]; omega)
   refine ⟨m',c3,i + 1,_,b2,_,c4.unpinned,T.keep _ _ _ a7 fun b Y o eo=>(c4.pin (b,o) (E9 _ (E9 _ (V5 Y eo)))).1,fun b Y=>?_,w9⟩;obtain ⟨o,eo,d⟩:=T.obj _ _ a7 b Y;exact (c4.pin (b,o) (E9 _ (E9 _ (V5 Y eo)))).2.1
 rw [a8] at b3;have b9:=codeAny_compStart_list (rest:=[]) (ifs:=ifs) b3 (T.self X.A 0 _ _ _ d1 b3);subst c7;rw [<- b1,<- a2] at b9;exact b9
theorem Qgq {elt tg iter:aH} {ifs:List aH} {Z:TT} {pos:Pos} {N N':List Str} {sc scE:Scope} {cap:List (Option Nat)} {wi:TI} {g:TG} {te:TE} (j:X.calm=yo) (hi:PI X tg iter wi)
  (hg:∀ z C J H0 ex,PG (Wf X N' sc z C J H0 ex) tg g) (he:∀ z C J H0 ex,PE (Wf X N' sc z C J H0 ex) elt te) (Y:∀ z C J H0 ex,PTs (Wf X N' sc z C J H0 ex) ifs Z)
  (hN:X.N=N:=by rfl) (hE:X.env.scope=scE:=by rfl) (hc:compOkC N N' sc scE cap=yo:=by decide +kernel) (hs:∀ x,bH iter X.env x=pure x:=by intro _; rfl) :
  PE X (.ListComp elt [⟨tg,iter,ifs,0⟩] sc pos) (Q5v cap wi g Z te):=by
 intro pins s σ H Q I h;rw [eval_ListComp];refine Q3p (use:=zb) j hi hg he Y hN hE hc hs I h fun acc C H' s' m I' hm hf q=>⟨m,hm,fun h' O=>?_⟩
 obtain ⟨f0,f1,f2,f3,f4,f5⟩:=hf;exact ⟨.ref acc,H',I'.turned (t':=s'.toks) (fun b o hb e=>(O.2 b hb).trans e) f0 f1 f3 f4 f5,rfl,q⟩
theorem Qgb {ifs:List aH} {tt:TT} {i:Nat} {x:Str} {px j:Pos} {elt tg iter:aH} {pos:Pos} {N N':List Str} {sc scE:Scope} {cap:List (Option Nat)} {wi:TI} {g:TG} {te:TE} (a1:X.N.Nodup) (a6:X.N[i]?=zo x) (hx:Loc X.env.scope x) (J:X.calm=yo) (hi:PI X tg iter wi)
  (hg:∀ Y C Z H0 ex,PG (Wf X N' sc Y C Z H0 ex) tg g) (he:∀ Y C Z H0 ex,PE (Wf X N' sc Y C Z H0 ex) elt te) (a5:∀ Y C Z H0 ex,PTs (Wf X N' sc Y C Z H0 ex) ifs tt)
  (a3:swapsWith (.ListComp elt [⟨tg,iter,ifs,0⟩] sc pos) (zo (.Name x px)) j.line X.env=pure yo:=by rfl)
  (hN:X.N=N:=by rfl) (hE:X.env.scope=scE:=by rfl) (hc:compOkC N N' sc scE cap=yo:=by decide +kernel) (hs:∀ x,bH iter X.env x=pure x:=by intro _; rfl)
  (hf:X.fn x=yo\/X.env.scope.names.lookup x=zo .local:=by first | exact .inl rfl | exact .inr rfl | assumption) :
  PS X (.Assign [.Name x px] (.ListComp elt [⟨tg,iter,ifs,0⟩] sc pos) j) (Qq5 (Q5v cap wi g tt te) (Q9c i)):=by
 intro pins s σ H D I h;rw [exec_Assign_Name_used _ _ _ _ a3];refine aD (wpAny_standAt (aD ?_));show aF _ _ (do let _ <- comprehension (.ListComp elt [⟨tg,iter,ifs,0⟩] sc pos) sc X.env _ (newList []) yl (aO iter X.env) (zo (assign (.Name x px) X.env))) _ _ s;refine aD (ao (Q3p (use:=zo (assign (.Name x px) X.env)) (QQ:=fun _ s'=>SP X pins D .next s') J hi hg he a5 hN hE hc hs I h ?_) (fun _ s' hq=>wpAny_pure (wpAny_pure hq)) fun _ _ e=>e)
 intro acc C H' s' m I' hm a2 q;obtain ⟨f0,f1,f2,f3,f4,f5⟩:=a2;show aF _ _ (assign (.Name x px) X.env (.ref acc)) _ _ _;refine wpAny_assign_Name (Q4p I' a1 a6 hx (v:=.ref acc) rfl (fun s2 I2 ⟨a,sb,O⟩=>⟨m,?_,fun h' a4=>?_⟩) hf)
 ·refine hm.sameBut sb fun z=>?_
  rcases O with O | O
  ·exact f1 (z.trans O)
  ·exact f4 x a O z.symm
 ·exact ⟨_,H',I2.turned (t':=s2.toks) (fun b o hb e=>(a4.2 b hb).trans e) f0 f1 f3 f4 f5,q⟩
end
section
variable {X:Cx} {e e3:aH} {te t3:TE} {pos p2:Pos}
end
section
variable {X:Cx} {a:aH} {ta:TA} {p p' pos pos':Pos}
end
section
variable {X:Cx}
end
section
section
variable {κ:Type} [DecidableEq κ]
def jm (kvs:List (κ × V)) (k:κ):Option V:=(kvs.find? fun kv=>decide (kv.1=k)).map (·.2)
def Kh (kvs:List (κ × V)) (k:κ) (v:V):List (κ × V):=
 if (kvs.any fun kv=>decide (kv.1=k))=yo then kvs.map (fun kv=>if kv.1=k then (kv.1,v) else kv) else kvs ++ [(k,v)]
theorem Q1g {p:κ × V} {r:List (κ × V)} {k:κ} (e:p.1=k):jm (p :: r) k=zo p.2:=by simp [jm,cQ,e]
theorem Q1h {p:κ × V} {r:List (κ × V)} {k:κ} (e:¬ p.1=k):jm (p :: r) k=jm r k:=by simp [jm,cQ,e]
theorem Q7k (k:κ):∀ kvs:List (κ × V),(kvs.any fun kv=>decide (kv.1=k))=(jm kvs k).isSome
 | []=>rfl
 | p :: r=>by
  rw [bz]
  by_cases e:p.1=k
  ·simp only [Q1g e,bV e,fN,gS]
  ·rw [Q1h e,bU e,eC]; exact Q7k k r
theorem qu (kvs:List (κ × V)) (k:κ) (v:V):(Kh kvs k v).length<=kvs.length + 1:=by
 unfold Kh
 split
 ·rw [O1]; omega
 ·rw [O6,D5,cu]; omega
theorem RelO.isSome_eq {o:Option V} {u:Option aA} (r:RelO o u):o.isSome=u.isSome:=by
 cases o with
 | none=>cases u with
  | none=>rfl
  | some _=>exact (show False from r).elim
 | some _=>cases u with
  | none=>exact (show False from r).elim
  | some _=>rfl
theorem KV.val {kvs:List (κ × V)} {vs:List (κ × aA)} (r:KV kvs vs) (k:κ):RelO (jm kvs k) (bJ vs k):=by
 unfold KV at r
 induction r with
 | nil=>exact True.intro
 | @cons p q ps j h t J=>
  obtain ⟨h1,h2⟩:=h
  by_cases e:p.1=k
  ·have I:q.1=k:=h1.symm.trans e;have b:bJ (q :: j) k=zo q.2:=by simp [bJ,cQ,I]
   rw [Q1g e,b]; exact h2
  ·have I:¬ q.1=k:=fun z=>e (h1.trans z)
   have b:bJ (q :: j) k=bJ j k:=by simp [bJ,cQ,I]
   rw [Q1h e,b]; exact J
theorem KV.any {kvs:List (κ × V)} {vs:List (κ × aA)} (r:KV kvs vs) (k:κ):(kvs.any fun kv=>decide (kv.1=k))=vs.any fun kv=>decide (kv.1=k):=by
 unfold KV at r
 induction r with
 | nil=>rfl
 | cons h t j=>rw [bz,bz,j,h.1]
theorem KV.repl {kvs:List (κ × V)} {vs:List (κ × aA)} (r:KV kvs vs) (k:κ) {y:V} {u:aA} (I:RelV y u) :
  KV (kvs.map fun kv=>if kv.1=k then (kv.1,y) else kv) (vs.map fun kv=>if kv.1=k then (kv.1,u) else kv):=by
 unfold KV at r ⊢
 induction r with
 | nil=>exact .nil
 | @cons p q ps J h t j=>
  rw [D2,D2];refine .cons ?_ j;obtain ⟨h1,h2⟩:=h
  by_cases e:p.1=k
  ·rw [bS e,bS (h1.symm.trans e)]; exact ⟨h1,I⟩
  ·rw [bT e,bT (fun z=>e (h1.trans z))]; exact ⟨h1,h2⟩
theorem KV.put {kvs:List (κ × V)} {vs:List (κ × aA)} (r:KV kvs vs) (k:κ) {y:V} {u:aA} (j:RelV y u):KV (Kh kvs k y) (stored vs k u):=by
 unfold Kh stored;rw [r.any k]
 by_cases e:(vs.any fun kv=>decide (kv.1=k))=yo
 ·rw [bS e,bS e]; exact r.repl k j
 ·rw [bT e,bT e]; exact Paired.snoc r ⟨rfl,j⟩
theorem KV.length {kvs:List (κ × V)} {vs:List (κ × aA)} (r:KV kvs vs):kvs.length=vs.length:=Paired.length r
end
theorem Qcu {P:aK} {w:aJ} {k:Key} {u:aA} (r:RelV (kV k) u):(Ym P w).is k u=yo:=by
 cases k with
 | inl i=>obtain ⟨t,e⟩:=(show ∃ t,u=di i t from r); subst e; exact Q8v P w i t
 | inr x=>obtain ⟨t,e⟩:=(show ∃ t,u=dj x t from r); subst e; exact Q8u P w x t
abbrev KT (H:Hp):List (HK × V)->List (HK × aB × aA)->Prop:=aR fun p q=>p.1=q.1/\KR H p.1 q.2.1/\RelV p.2 q.2.2
theorem KT.val {H:Hp} {kvs:List (HK × V)} {xs:List (HK × aB × aA)} (r:KT H kvs xs) (k:HK):RelO (jm kvs k) ((atKey xs k).map (·.2)):=by
 induction r with
 | nil=>exact True.intro
 | @cons p q ps j h t J=>
  obtain ⟨h1,_,h2⟩:=h
  by_cases e:p.1=k
  ·have I:q.1=k:=h1.symm.trans e;have b:atKey (q :: j) k=zo q.2:=by simp [atKey,cQ,I]
   rw [Q1g e,b]; exact h2
  ·have I:¬ q.1=k:=fun z=>e (h1.trans z)
   have b:atKey (q :: j) k=atKey j k:=by simp [atKey,cQ,I]
   rw [Q1h e,b]; exact J
theorem KT.repl {H:Hp} {kvs:List (HK × V)} {xs:List (HK × aB × aA)} (r:KT H kvs xs) (k:HK) {y:V} {u:aA} (I:RelV y u) :
  KT H (kvs.map fun kv=>if kv.1=k then (kv.1,y) else kv) (xs.map (putAt k u)):=by
 induction r with
 | nil=>exact .nil
 | @cons p q ps O h t j=>
  rw [D2,D2];refine .cons ?_ j;obtain ⟨h1,h2,J⟩:=h;unfold putAt
  by_cases e:p.1=k
  ·rw [bS e,bS (h1.symm.trans e)]; exact ⟨h1,h2,I⟩
  ·rw [bT e,bT (fun z=>e (h1.trans z))]; exact ⟨h1,h2,J⟩
theorem KT.put {H:Hp} {kvs:List (HK × V)} {xs:List (HK × aB × aA)} (r:KT H kvs xs) (k:HK) {b:aB} {y:V} {u:aA} (z:KR H k b) (j:RelV y u) :
  KT H (Kh kvs k y) (storedH xs k b u):=by
 have e:(kvs.any fun kv=>decide (kv.1=k))=(atKey xs k).isSome:=by
  rw [Q7k,(r.val k).isSome_eq,da]
 unfold Kh storedH;rw [e]
 by_cases q:(atKey xs k).isSome=yo
 ·rw [bS q,bS q]; exact r.repl k j
 ·rw [bT q,bT q]; exact Paired.snoc r ⟨rfl,z,j⟩
theorem KT.keeps {H H':Hp} {kvs:List (HK × V)} {xs:List (HK × aB × aA)} (r:KT H kvs xs) (j:∀ b ys,H b=zo (.tup ys)->H' b=zo (.tup ys)):KT H' kvs xs:=
 Paired.mapP r fun _ _ z=>⟨z.1,z.2.1.keep j,z.2.2⟩
section
variable {P:aK} {w:aJ} {H:Hp} {h:Heap} {a:aB}
theorem Qp8 {u:HO} (ok:HOk P w H h) (e:Rd H a u):ObjOk P w H h a u:=e.ok ok
theorem Q9f {kvs:List (Key × V)} (ok:HOk P w H h) (e:Rd H a (.dK kvs)):kvs.length<=sizeLine/\(a == ak)=yl/\∃ vs,KV kvs vs/\h.DictOf (Ym P w) a vs:=
 show ObjOk P w H h a (.dK kvs) from Qp8 ok e
theorem Qvu {kvs:List (Key × V)} (ok:HOk P w H h) (e:H a=zo (.dK kvs)):kvs.length<=sizeLine/\(a == ak)=yl/\∃ vs,KV kvs vs/\h.DictOf (Ym P w) a vs:=Q9f ok (.inl e)
mutual
theorem Qhx (ok:HOk P w H h):∀ {k:HK} {v:V} {u:aA},KAt H k v->RelV v u->KIs h k u
 | .int _,_,_,r,ru=>by cases r; exact ru
 | .str _,_,_,r,ru=>by cases r; exact ru
 | .tup l,_,u,⟨a,vs,e,j,r⟩,ru=>by
  subst e;cases (show u=bY a from ru);obtain ⟨_,its,q,p⟩:=(show ObjOk P w H h a (.tup vs) from ok a _ j);exact ⟨a,its.toArray,rfl,p,by simpa using katL_is ok r q⟩
theorem katL_is (ok:HOk P w H h):∀ {l:List HK} {vs:List V} {j:List aA},KAtL H l vs->Vals vs j->KIsL h l j
 | [],_,_,r,ru=>by cases r; cases ru; rfl
 | _ :: _,_,_,⟨v,r,e,h1,t⟩,ru=>by
  subst e;cases ru with
  | cons a b=>exact ⟨_,_,rfl,Qhx ok h1 a,katL_is ok t b⟩
end
theorem U0 {k:HK} (ok:HOk P w H h) (e:KR H k a):(nk P w).is h k a:=⟨Qhx ok e.1 rfl,e.2⟩
theorem Q13 {A:aL} (j:A.units + 9 < aQ):(nk P w).room A.in1:=by show A.units + 1 + 5 < aQ; omega
theorem Q9d {kvs:List (HK × V)} (ok:HOk P w H h) (e:Rd H a (.dT kvs)):kvs.length<=sizeLine/\(a == ak)=yl /\
  ∃ xs,KT H kvs xs/\h.DictOfH (nk P w) a xs:=by
 obtain ⟨z,y,xs,r,o,es,ep,h1,h2,Z,O,Y⟩:=(show ObjOk P w H h a (.dT kvs) from Qp8 ok e);refine ⟨z,y,xs,r,o,es,ep,h1,h2,Z,O,fun x j=>?_,Y⟩;have all:∀ {l:List (HK × V)} {m:List (HK × aB × aA)},KT H l m->∀ x∈m,(nk P w).is h x.1 x.2.1:=by
  intro l m q
  induction q with
  | nil=>intro x j; exact nomatch j
  | @cons p q ps qs I t J=>
   intro x j;rcases D6.mp j with e | j
   ·subst e;exact U0 ok (by rw [<- I.1]; exact I.2.1)
   ·exact J x j
 exact all r x j
theorem Qiu {kvs:List (HK × V)} (ok:HOk P w H h) (e:H a=zo (.dT kvs)):kvs.length<=sizeLine/\(a == ak)=yl /\
  ∃ xs,KT H kvs xs/\h.DictOfH (nk P w) a xs:=Q9d ok (.inl e)
end
def DGet (H:Hp) (a:aB) (y:V) (r:Option V):Prop:=
 (∃ kvs k,Rd H a (.dK kvs)/\y=kV k/\r=jm kvs k)\/∃ kvs k b,Rd H a (.dT kvs)/\y=.ref b/\KR H k b/\r=jm kvs k
def DPut (H:Hp) (a:aB) (y v:V) (H':Hp):Prop:=
 (∃ kvs k,H a=zo (.dK kvs)/\y=kV k/\kvs.length < sizeLine/\H'=upd H a (.dK (Kh kvs k v))) \/
 ∃ kvs k b,H a=zo (.dT kvs)/\y=.ref b/\KR H k b/\kvs.length < sizeLine/\H'=upd H a (.dT (Kh kvs k v))
theorem DGet.t {H:Hp} {a b:aB} {kvs:List (HK × V)} {k:HK} (e:H a=zo (.dT kvs)) (j:KR H k b):DGet H a (.ref b) (jm kvs k):=.inr ⟨kvs,k,b,.inl e,rfl,j,rfl⟩
theorem DPut.t {H:Hp} {a b:aB} {kvs:List (HK × V)} {k:HK} {v:V} (e:H a=zo (.dT kvs)) (j:KR H k b) (q:kvs.length < sizeLine) :
  DPut H a (.ref b) v (upd H a (.dT (Kh kvs k v))):=.inr ⟨kvs,k,b,e,rfl,j,q,rfl⟩
section
variable {X:Cx} {pins:List (aB × Obj)} {σ:St} {H:Hp} {s:aC} {a:aB} {y v:V} {u r:aA} {o:Option V} {A:aL} {E:aA->aC->Prop}
theorem Inv.big (I:Inv X pins σ H s):ak < s.heap.objs.size:=by
 have h:aW < s.heap.objs.size:=(I.mod.glob.keeps I.bk).lt;exact gX (by decide) h
theorem Qev {Q:aA->aC->Prop} (hu:A.units + 9 < aQ) (I:Inv X pins σ H s) (g:DGet H a y (zo v)) (ry:RelV y u) (h:∀ J s',Inv X pins σ H s'->RelV v J->Q J s') :
  aF (aI X.prog X.w) A (getItem (.ref a) u) Q E s:=by
 rcases g with ⟨kvs,k,e,O,l⟩ | ⟨kvs,k,b,e,O,eb,l⟩
 ·subst O;obtain ⟨z,hd,vs,q,dd⟩:=Q9f I.hok e;obtain ⟨J,Y,j⟩:=RelO.some_of (v:=v) (o:=bJ vs k) (by rw [l]; exact q.val k);exact wpAny_getItem_of (Qcu ry) dd.mapOf Y (h J _ (I.tok _) j)
 ·subst O;cases (show u=bY b from ry);obtain ⟨z,hd,xs,q,dd⟩:=Q9d I.hok e;obtain ⟨J,Y,j⟩:=RelO.some_of (v:=v) (o:=(atKey xs k).map (·.2)) (by rw [l]; exact q.val k);obtain ⟨p,hp,Z⟩:=Option.map_eq_some_iff.mp Y;refine wpAny_getItem_heap (Q13 hu) (U0 I.hok eb) dd hp ?_;rw [Z];exact h J _ (I.tok _) j
theorem Qy7 {Q:aA->aC->Prop} (Z:A.units + 9 < aQ) (I:Inv X pins σ H s) (g:DGet H a y o) (O:RelV y u) (h:∀ s',Inv X pins σ H s'->Q (.bool o.isSome) s') :
  aF (aI X.prog X.w) A (aS .In u (.ref a)) Q E s:=by
 rcases g with ⟨kvs,k,e,J,l⟩ | ⟨kvs,k,b,e,J,Y,l⟩
 ·subst J;obtain ⟨z,hd,vs,j,dd⟩:=Q9f I.hok e;refine wpAny_in_of (Qcu O) hd dd.mapOf ?_;rw [<- (j.val k).isSome_eq,<- l];exact h _ (I.tok _)
 ·subst J;cases (show u=bY b from O);obtain ⟨z,hd,xs,j,dd⟩:=Q9d I.hok e;refine wpAny_in_heap (Q13 Z) (U0 I.hok Y) hd dd ?_;have q:=(j.val k).isSome_eq;rw [da] at q;rw [<- q,<- l];exact h _ (I.tok _)
theorem Qnk {Q:aA->aC->Prop} (Z:A.units + 9 < aQ) (I:Inv X pins σ H s) (g:DGet H a y o) (O:RelV y u) (h:∀ s',Inv X pins σ H s'->Q (.bool (!o.isSome)) s') :
  aF (aI X.prog X.w) A (aS .NotIn u (.ref a)) Q E s:=by
 rcases g with ⟨kvs,k,e,J,l⟩ | ⟨kvs,k,b,e,J,Y,l⟩
 ·subst J;obtain ⟨z,hd,vs,j,dd⟩:=Q9f I.hok e;refine wpAny_notIn_of (Qcu O) hd dd.mapOf ?_;rw [<- (j.val k).isSome_eq,<- l];exact h _ (I.tok _)
 ·subst J;cases (show u=bY b from O);obtain ⟨z,hd,xs,j,dd⟩:=Q9d I.hok e;refine wpAny_notIn_heap (Q13 Z) (U0 I.hok Y) hd dd ?_;have q:=(j.val k).isSome_eq;rw [da] at q;rw [<- q,<- l];exact h _ (I.tok _)
theorem Q7a {h':Heap} {t':Nat} {ob:HO} (I:Inv X pins σ H s) (O:Mut (H a)) (hs:Heap.SameBut a s.heap h') (j:∃ q,h'.get? a=zo q) (new:ObjOk X.prog X.w (upd H a ob) h' a ob) :
  Inv X pins σ (upd H a ob) { s with heap:=h',toks:=t' }:=
 I.write (x:=a) (e:=a) O (.inl rfl) (fun b q J z=>(hs.2 b J).trans z) j new
theorem Qsn {P:aK} {w:aJ} {H':Hp} {h':Heap} {kvs:List (Key × V)} {vs:List (Key × aA)} (z:kvs.length<=sizeLine) (hd:(a == ak)=yl) (j:KV kvs vs) (dd:h'.DictOf (Ym P w) a vs) :
  ObjOk P w H' h' a (.dK kvs):=⟨z,hd,vs,j,dd⟩
theorem Qeu {H':Hp} {Q:Unit->aC->Prop} (hu:A.units + 9 < aQ) (I:Inv X pins σ H s) (g:DPut H a y v H') (ry:RelV y u) (rv:RelV v r) (h:∀ s',Inv X pins σ H' s'->Q () s') :
  aF (aI X.prog X.w) A (setItem (.ref a) u r) Q E s:=by
 rcases g with ⟨kvs,k,e,ey,l,Y⟩ | ⟨kvs,k,b,e,ey,eb,l,Y⟩
 ·subst ey Y;obtain ⟨z,hd,vs,j,dd⟩:=Qvu I.hok e;have hz:vs.length<=sizeLine:=by rw [<- j.length]; exact z
  have Z:(Kh kvs k v).length<=sizeLine:=by have:=qu kvs k v; omega
  refine wpAny_setItem_pairs (hsz:=hz) (Qcu ry) dd fun h' J hs=>h _ ?_
  have he:∃ q,h'.get? a=zo q:=let ⟨q,_,_,O,_⟩:=J; ⟨q,O⟩;exact Q7a I (by rw [e]; exact True.intro) hs he (Qsn Z hd (j.put k rv) J)
 ·subst ey Y;cases (show u=bY b from ry);obtain ⟨z,hd,xs,j,dd⟩:=Qiu I.hok e;have hz:xs.length<=sizeLine:=by rw [<- Paired.length j]; exact z
  have Z:(Kh kvs k v).length<=sizeLine:=by have:=qu kvs k v; omega
  refine wpAny_setItem_heap (hsz:=hz) (Q13 hu) (U0 I.hok eb) dd fun h' J hs=>h _ ?_
  obtain ⟨q,es,ep,O,h2,h3,h4,_,h5⟩:=J;refine Q7a I (by rw [e]; exact True.intro) hs ⟨q,O⟩ ⟨Z,hd,_,(j.put k eb rv).keeps fun c ys ec=>?_,q,es,ep,O,h2,h3,h4,h5⟩;rw [Qg (Qhb ec e (fun z=>nomatch z))];exact ec
end
section
variable {X:Cx} {pins:List (aB × Obj)} {σ:St} {H:Hp} {s:aC} {a:aB} {kvs:List (Key × V)} {k:Key} {u:aA} {A:aL} {E:aA->aC->Prop}
end
def Qt0 (i:aH):Prop:=∀ ov iv,subscripted i yl ov iv=operate [ov,iv] (getItem ov iv)
theorem Qju {prog:aK} {w:aJ} {A:aL} {E:aA->aC->Prop} {s:aC} {env:Env} {value j:aH} {pos:Pos} {T id:String} {Q:aA->aC->Prop}
  (hl:typeLookup (.type T) "__getitem__" = pure (zo (.builtin id))) (hs:Qt0 j)
  (h:aF (aI prog w) A (aO value env) (fun o J=>aF (aI prog w) A (aO j env) (fun i q=>q.TypeIs o T/\aF (aI prog w) A (getItem o i) Q E q) E J) E s) :
  aF (aI prog w) A (aO (.Subscript value j pos) env) Q E s:=by
 refine Subscript_ (ao h (fun o J O=>ao O (fun i q z=>?_) fun _ _ x=>x) fun _ _ x=>x)
 obtain ⟨Z,z⟩:=z;unfold subscriptTail;refine aD ?_;rw [getitemInPython_of_ne Z.not_modules];refine aD (wpAny_specialOf Z hl ?_);have fin:aF (aI prog w) A (subscripted j yl o i) (fun r I=>aF (aI prog w) A (letTemporaryGo value o r >>= fun _=>pure r) Q E I) E q:=by
  rw [hs o i];exact wpAny_operating (ao z (fun r I Y=>aD (wpAny_letTemporaryGo (wpAny_pure Y))) fun _ _ x=>x)
 first
  | exact wpAny_pure (aD fin)
  | exact aD (wpAny_pure (aD fin))
  | exact aD fin
theorem Q9g {X:Cx} {pins:List (aB × Obj)} {σ:St} {H:Hp} {s:aC} {a:aB} {y:V} {o:Option V} (I:Inv X pins σ H s) (g:DGet H a y o):s.TypeIs (.ref a) "dict" := by
 rcases g with ⟨kvs,k,e,_,_⟩ | ⟨kvs,k,b,e,_,_,_⟩
 ·obtain ⟨_,_,vs,_,dd⟩:=Q9f I.hok e;exact dd.typeIs
 ·obtain ⟨_,_,xs,_,dd⟩:=Q9d I.hok e;exact dd.typeIs
def Qtt (td ty:TE):TE:=fun σ H Q=>td σ H fun x H1=>ty σ H1 fun y H2=>∃ a v,x=.ref a/\DGet H2 a y (zo v)/\Q v H2
def Qtz (td ty tv:TE):TS:=fun D σ H=>tv σ H fun v H1=>td σ H1 fun x H2=>ty σ H2 fun y H3=>∃ a H4,x=.ref a/\DPut H3 a y v H4/\D.nx σ H4
section
variable {X:Cx} {o i e value:aH} {pos pos' tpos:Pos} {td ty tv:TE}
theorem Qm5 (O:X.A.units + 9 < aQ) (z:PE X o td) (hi:PE X i ty) (hs:Qt0 i):PE X (.Subscript o i pos) (Qtt td ty):=by
 intro pins s σ H Q I h;refine Qju PySem.F.slot_dict_getitem.lookup hs (thn (z pins s σ H _ I h) fun u s1 ⟨x,H1,J,rx,q1⟩=>thn (hi pins s1 σ H1 _ J q1) fun iv s2 ⟨y,H2,q,Y,a,v,ex,g,q2⟩=>?_)
 subst ex;obtain rfl:u=bY a:=rx;exact ⟨Q9g q g,Qev O q g Y fun w' s3 Z j=>⟨v,H2,Z,j,q2⟩⟩
theorem Qks (O:X.A.units + 9 < aQ) (j:PE X o td) (hi:PE X i ty) (hv:PE X value tv) (hs:swapsWith value (zo (.Subscript o i pos')) pos.line X.env=pure yl) :
  PS X (.Assign [.Subscript o i pos'] value pos) (Qtz td ty tv):=by
 intro pins s σ H D I h;refine wpAny_Assign_Subscript (thn (hv pins s σ H _ I h) fun r s1 ⟨v,H1,q,rv,q1⟩=>thn (j pins s1 σ H1 _ q q1) fun u J ⟨x,H2,z,rx,q2⟩=>thn (hi pins J σ H2 _ z q2) fun iv s3 ⟨y,H3,I3,Z,a,H4,ex,g,q3⟩=>?_) hs
 subst ex;obtain rfl:u=bY a:=rx;exact Qeu O I3 g Z rv fun s4 Y=>⟨σ,H4,Y,q3⟩
end
theorem Q9e {P:aK} {w:aJ} {H:Hp} (h:Heap) (j:ak < h.objs.size):ObjOk P w H (h.push { cls:=.type "dict",data:=.dict #[] }) h.objs.size (.dT []):=
 ⟨F6 _,beq_eq_false_iff_ne.mpr (Ne.symm (D8 j)),[],.nil,_,#[],0,D1 _ rfl,⟨rfl,rfl,rfl⟩,rfl,rfl,ca⟩
def Qq3:TE:=fun _ H Q=>∀ p,H p=zb->Q (.ref p) (upd H p (.dT []))
section
variable {X:Cx} {pos:Pos}
theorem Qgp:PE X (.Dict [] [] pos) Qq3:=fun pins s σ H Q I h=>
 wpAny_Dict_empty ⟨.ref s.heap.objs.size,_,I.laid (a:=s.heap.objs.size) (o:=.dT []) (t':=s.toks) (fun _ _ q=>O3 _ q) (O5 _) (Q9e s.heap I.big),rfl,h _ (I.hok.fresh (O5 _))⟩
end
def Qa4:List (TE × TE)->St->Hp->(List (V × V)->Hp->Prop)->Prop
 | [],_,H,Q=>Q [] H
 | (tk,tv) :: r,σ,H,Q=>tk σ H fun x H1=>tv σ H1 fun y H2=>Qa4 r σ H2 fun ps H3=>Q ((x,y) :: ps) H3
abbrev VV:List (V × V)->List (aA × aA)->Prop:=aR fun p q=>RelV p.1 q.1/\RelV p.2 q.2
def PPs (X:Cx) (pos:Pos) (keys:List (Option aH)) (values:List aH) (trs:List (TE × TE)):Prop:=
 ∀ (pins:List (aB × Obj)) (s:aC) (σ:St) (H:Hp) (Q:List (V × V)->Hp->Prop),Inv X pins σ H s->Qa4 trs σ H Q ->
  aF (aI X.prog X.w) X.A (evalPairs (pairTrees keys values X.env pos)) (fun vs s'=>∃ ps H',Inv X pins σ H' s'/\VV ps vs/\Q ps H') X.xe s
theorem Qku {X:Cx} {pos:Pos}:PPs X pos [] [] []:=fun pins s σ H Q I h=>pairTrees_nil_walk ⟨[],H,I,.nil,h⟩
theorem Qgg {X:Cx} {pos:Pos} {k v:aH} {ks:List (Option aH)} {vs:List aH} {tk tv:TE} {j:List (TE × TE)} (Z:PE X k tk) (hv:PE X v tv) (hr:PPs X pos ks vs j) :
  PPs X pos (zo k :: ks) (v :: vs) ((tk,tv) :: j):=fun pins s σ H Q I h=>
 pairTrees_cons_walk (thn (Z pins s σ H _ I h) fun u s1 ⟨x,H1,z,rx,q1⟩=>thn (hv pins s1 σ H1 _ z q1) fun w2 Y ⟨y,H2,O,ry,q2⟩=>
  thn (hr pins Y σ H2 _ O q2) fun ws s3 ⟨ps,J,I3,q,q3⟩=>⟨(x,y) :: ps,J,I3,.cons ⟨rx,ry⟩ q,q3⟩)
structure M1 (X:Cx) (o:aH) (m:Str) (apos:Pos) (e:aH) (cpos:Pos):Prop where
 base:bD o m X.env (aO o X.env)=aO o X.env
 few:((aY cpos (aN [e] X.env)).all (fun x=>!x.1) && (backToKw cpos (keywordEach [] X.env)).all (fun x=>x.1.isSome)
  && decide (([e]:List aH).length + ([]:List Keyword).length + (if ([]:List Keyword).isEmpty then 0 else 1) < 30))=yo
 line:(apos.endLine == cpos.line)=yo
 trees:aY cpos (aN [e] X.env)=[(yl,aO e X.env)]
structure M2 (X:Cx) (o:aH) (m:Str) (apos:Pos) (e f:aH) (cpos:Pos):Prop where
 base:bD o m X.env (aO o X.env)=aO o X.env
 few:((aY cpos (aN [e,f] X.env)).all (fun x=>!x.1) && (backToKw cpos (keywordEach [] X.env)).all (fun x=>x.1.isSome)
  && decide (([e,f]:List aH).length + ([]:List Keyword).length + (if ([]:List Keyword).isEmpty then 0 else 1) < 30))=yo
 line:(apos.endLine == cpos.line)=yo
 trees:aY cpos (aN [e,f] X.env)=[(yl,aO e X.env),(yl,aO f X.env)]
section
variable {X:Cx} {pins:List (aB × Obj)} {σ:St} {H:Hp} {s:aC} {a:aB} {y d:V} {u r:aA} {o:Option V} {A:aL} {E:aA->aC->Prop}
end
section
variable {X:Cx} {o e f:aH} {apos cpos:Pos} {td ty tx:TE}
end
section
variable {X:Cx} {pins:List (aB × Obj)} {σ:St} {H:Hp} {s:aC} {a:aB} {kvs:List (Key × V)} {A:aL} {E:aA->aC->Prop}
end
section
variable {X:Cx} {pins:List (aB × Obj)} {σ:St} {H:Hp} {s:aC} {a:aB} {y:V} {u:aA} {A:aL} {E:aA->aC->Prop}
end
section
variable {X:Cx}
end
end
section
open AutoSeq1 (wpAny_loadPart')
section
variable {prog:aK} {w:aJ} {A:aL} {E:aA->aC->Prop} {s:aC}
end
section
variable {prog:aK} {w:aJ} {A:aL} {E:aA->aC->Prop} {s:aC}
end
section
variable {X:Cx} {a:aH} {ta:TA} {p p' pos pos':Pos}
end
end
section
variable {prog:aK} {w:aJ} {A:aL} {E:aA->aC->Prop} {s:aC}
end
section
variable {X:Cx} {e e3:aH} {te t3:TE} {pos p2:Pos}
end
theorem Q8r:typeLookup (.type "list") "keys" = pure zb:=am_miss_of_fast (by decide +kernel)
theorem Q4d {prog:aK} {w:aJ} {A:aL} {E:aA->aC->Prop} {s:aC} {a:aB} {xs:Array aA} {k:Nat} {J:Array (Option aA)} {Q:Option aA->aC->Prop}
  (I:s.heap.get? a=zo { cls:=.type "list",dict:=zb,data:=.seq xs k,slots:=J }) (Y:A.handled=zb)
  (h:∀ h' tk,(∀ b o,s.heap.get? b=zo o->h'.get? b=zo o)->Q zb { s with heap:=h',toks:=tk }) :
  aF (aI prog w) A (getAttr? (.ref a) "keys") Q E s:=by
 obtain ⟨hp,g,d,tk,os⟩:=s;have O:∀ q,(⟨hp,g,d,q,os⟩:aC).TypeIs (.ref a) "list" := fun _=>⟨_,I,rfl⟩
 have f1:=sub_AttributeError;have f3:=F.slot_list_getattribute.lookup;have f4:=F.slot_list_getattribute.bind (.ref a);have Z:=am_list_getattr_none;have j:(["__module__", "__name__", "__qualname__", "__doc__", "__annotations__"]:List Str).contains "keys" = yl:=by decide +kernel
 unfold getAttr? getAttrBy? getAttrBy
 repeat (any_goals (first | assumption | exact O _ | ((with_reducible show aF _ _ (call (dl "list.__getattribute__") _ _) _ _ _); refine bE F.slot_list_getattribute (O _) am_entry_list_getattribute (F.args_list_getattribute_2 _ _) (meets_getattribute_miss_list a xs k J "keys" _ Q8r j) ⟨I,Y,fun h' q e z=>?_⟩) | wp_step))
 obtain ⟨t',u',he⟩:=z.there;show aF _ _ (getattributeRaised _ _ _ _ _ _ _) _ _ _;unfold getattributeRaised
 repeat (any_goals (first | assumption | wp_step))
 exact h _ _ z.of.keeps
theorem Ku:entryFor table "dict.update.loop" = zo Builtin.«dict.update.loop»:=entryFor_of_tree (by kernel_rfl)
theorem W3:plainId "dict.update.loop" = yo:=by decide +kernel
section
variable {prog:aK} {w:aJ} {K:Type} [DecidableEq K] {knd:KeyKind prog w K} {A:aL} {R:Result->aC->Prop}
end
section
variable {X:Cx} {pins:List (aB × Obj)} {σ:St} {H:Hp} {s:aC} {a:aB} {tg:aH}
end
end L2
namespace L2
open PySem PySem.Spec PyProof.Rows PySem.W
def evT {α:Type} (c:Nat->Nat->Bool):KasT α->α
 | .ret a=>a
 | .ask i j k=>evT c (k (c i j))
theorem K3 {α β:Type} (c:Nat->Nat->Bool) (f:α->KasT β):∀ t:KasT α,evT c (t.bind f)=evT c (f (evT c t))
 | .ret _=>rfl
 | .ask i j k=>K3 c f (k (c i j))
section
variable (r:Nat->Nat)
def rk (p:Array Nat) (i:Nat):Nat:=r (p.getD i 0)
def cR:Nat->Nat->Bool:=fun i j=>decide (r i < r j)
variable {r}
theorem Q85 {p q:Array Nat} {i j:Nat} (h:p[i]?=q[j]?):rk r p i=rk r q j:=by
 unfold rk;rw [dO,dO,h]
theorem Qac {p:Array Nat} {i j:Nat} (z:j<=p.size) (k:Nat):rk r (kas_rev p i j) k=if i<=k/\k < j then rk r p (i + j - 1 - k) else rk r p k:=by
 have h:=getElem?_mirror_all (xs:=p) (i:=i) z k
 by_cases q:i<=k/\k < j
 ·rw [bS q] at h ⊢; exact Q85 h
 ·rw [bT q] at h ⊢; exact Q85 h
theorem Qg0 {p:Array Nat} {src d:Nat} (hs:src < p.size) (hd:d<=src) (k:Nat):rk r (bubble p src d) k=if k=src - d then rk r p src else if src - d < k/\k<=src then rk r p (k - 1) else rk r p k:=by
 have h:=getElem?_bubble hs d hd k
 by_cases q:k=src - d
 ·rw [bS q] at h ⊢; exact Q85 h
 ·rw [bT q] at h ⊢
  by_cases q2:src - d < k/\k<=src
  ·rw [bS q2] at h ⊢; exact Q85 h
  ·rw [bT q2] at h ⊢; exact Q85 h
theorem yd {p:Array Nat} (i j:Nat):(kas_rev p i j).size=p.size:=mirror_size _ _ _ _
theorem Wn {p:Array Nat} (i j:Nat):(kas_rev p i j).Perm p:=mirror_perm _ _ _ _
theorem Qbp (p:Array Nat):∀ f n,1<=n->n<=evT (cR r) (kas_asc p f n)/\evT (cR r) (kas_asc p f n)<=n + f/\(∀ i,n<=i->i < evT (cR r) (kas_asc p f n)->rk r p (i - 1)<=rk r p i)/\(evT (cR r) (kas_asc p f n) < n + f->rk r p (evT (cR r) (kas_asc p f n)) < rk r p (evT (cR r) (kas_asc p f n) - 1))
 | 0,n,_=>⟨O5 _,O5 _,fun i h1 h2=>absurd h2 (by show ¬ i < n; omega),fun h=>absurd h (by show ¬ n < n + 0; omega)⟩
 | f + 1,n,J=>by
  have e:evT (cR r) (kas_asc p (f + 1) n)=if rk r p n < rk r p (n - 1) then n else evT (cR r) (kas_asc p f (n + 1)):=by
   show evT (cR r) (if decide (rk r p n < rk r p (n - 1))=yo then KasT.ret n else kas_asc p f (n + 1))=_
   by_cases q:rk r p n < rk r p (n - 1)
   ·rw [bS (by simpa using q),bS q]; rfl
   ·rw [bT (by simpa using q),bT q]
  rw [e]
  by_cases q:rk r p n < rk r p (n - 1)
  ·rw [bS q];exact ⟨O5 _,by omega,fun i h1 h2=>by omega,fun _=>q⟩
  ·rw [bT q];obtain ⟨h1,h2,I,j⟩:=Qbp p f (n + 1) (by omega);refine ⟨by omega,by omega,fun i O g2=>?_,fun g=>j (by omega)⟩
   by_cases z:i=n
   ·subst z; omega
   ·exact I i (by omega) g2
theorem Q29 {p:Array Nat} {i j:Nat} (z:j<=p.size) (h:∀ k,i<=k->k < j->rk r p k=rk r p (j - 1)) (k:Nat):rk r (kas_rev p i j) k=rk r p k:=by
 rw [Qac z]
 by_cases q:i<=k/\k < j
 ·rw [bS q,h (i + j - 1 - k) (by omega) (by omega),h k q.1 q.2]
 ·rw [bT q]
structure Dsc (r:Nat->Nat) (p:Array Nat) (n q:Nat):Prop where
 n1:1<=n
 sz:n<=p.size
 qn:q + 1<=n
 de:∀ i,1<=i->i < n->rk r p i<=rk r p (i - 1)
 eq:∀ i,n - (q + 1)<=i->i < n->rk r p i=rk r p (n - 1)
theorem Q19:∀ f (p:Array Nat) n q,Dsc r p n q->n + f<=p.size->Dsc r (evT (cR r) (kas_desc f p n q)).1 (evT (cR r) (kas_desc f p n q)).2.1 (evT (cR r) (kas_desc f p n q)).2.2/\(evT (cR r) (kas_desc f p n q)).1.Perm p/\n<=(evT (cR r) (kas_desc f p n q)).2.1/\(evT (cR r) (kas_desc f p n q)).2.1<=n + f
 | 0,p,n,q,h,_=>⟨h,db _,O5 _,O5 _⟩
 | f + 1,p,n,q,h,hs=>by
  have e:evT (cR r) (kas_desc (f + 1) p n q)=if rk r p n < rk r p (n - 1) then (if q > 0 then evT (cR r) (kas_desc f (kas_rev p (n - (q + 1)) n) (n + 1) 0) else evT (cR r) (kas_desc f p (n + 1) 0)) else if rk r p (n - 1) < rk r p n then (p,n,q) else evT (cR r) (kas_desc f p (n + 1) (q + 1)):=by
   show evT (cR r) (if decide (rk r p n < rk r p (n - 1))=yo then (if q > 0 then kas_desc f (kas_rev p (n - (q + 1)) n) (n + 1) 0 else kas_desc f p (n + 1) 0) else KasT.ask (p.getD (n - 1) 0) (p.getD n 0) fun d=>if d=yo then .ret (p,n,q) else kas_desc f p (n + 1) (q + 1))=_
   by_cases z:rk r p n < rk r p (n - 1)
   ·rw [bS (by simpa using z),bS z]
    split <;> rfl
   ·rw [bT (by simpa using z),bT z];show evT (cR r) (if decide (rk r p (n - 1) < rk r p n)=yo then KasT.ret (p,n,q) else kas_desc f p (n + 1) (q + 1))=_
    by_cases J:rk r p (n - 1) < rk r p n
    ·rw [bS (by simpa using J),bS J]; rfl
    ·rw [bT (by simpa using J),bT J]
  rw [e]
  by_cases z:rk r p n < rk r p (n - 1)
  ·rw [bS z]
   by_cases Z:q > 0
   ·rw [bS Z];have Y:=Q29 (r:=r) (p:=p) (i:=n - (q + 1)) (j:=n) h.sz h.eq;obtain ⟨h1,h2,h3,O⟩:=Q19 f (kas_rev p (n - (q + 1)) n) (n + 1) 0 ⟨by omega,by rw [yd]; omega,by omega,fun i I g2=>by
     rw [Y,Y]
     by_cases y:i=n
     ·subst y; omega
     ·exact h.de i I (by omega),fun i I g2=>by
     have:i=n:=by omega
     subst this; rfl⟩ (by rw [yd]; omega)
    exact ⟨h1,h2.trans (Wn _ _),by omega,by omega⟩
   ·rw [bT Z];obtain ⟨h1,h2,h3,O⟩:=Q19 f p (n + 1) 0 ⟨by omega,by omega,by omega,fun i I g2=>by
     by_cases y:i=n
     ·subst y; omega
     ·exact h.de i I (by omega),fun i I g2=>by
     have:i=n:=by omega
     subst this; rfl⟩ (by omega)
    exact ⟨h1,h2,by omega,by omega⟩
  ·rw [bT z]
   by_cases J:rk r p (n - 1) < rk r p n
   ·rw [bS J];exact ⟨h,db _,O5 _,by show n<=n + (f + 1); omega⟩
   ·rw [bT J];have hn:=h.n1;have a1:=h.qn;obtain ⟨h1,h2,h3,O⟩:=Q19 f p (n + 1) (q + 1) ⟨by omega,by omega,by omega,fun i I g2=>by
     by_cases y:i=n
     ·subst y; omega
     ·exact h.de i I (by omega),fun i I g2=>by
     show rk r p i=rk r p n
     by_cases y:i=n
     ·rw [y]
     ·rw [h.eq i (by omega) (by omega)]; omega⟩ (by omega)
    exact ⟨h1,h2,by omega,by omega⟩
def Srt (r:Nat->Nat) (p:Array Nat) (m:Nat):Prop:=∀ i,1<=i->i < m->rk r p (i - 1)<=rk r p i
theorem Qbz {p:Array Nat} {n nrem:Nat} (j:1<=n) (I:n<=nrem) (hs:nrem<=p.size) (hd:∀ i,1<=i->i < n->rk r p i<=rk r p (i - 1)) :
  1<=(evT (cR r) (kas_tail3 n nrem p)).1/\(evT (cR r) (kas_tail3 n nrem p)).1<=nrem/\Srt r (evT (cR r) (kas_tail3 n nrem p)).2 (evT (cR r) (kas_tail3 n nrem p)).1/\(evT (cR r) (kas_tail3 n nrem p)).2.Perm p:=by
 obtain ⟨h1,h2,q,_⟩:=Qbp (r:=r) (kas_rev p 0 n) (nrem - n) n j;unfold kas_tail3;rw [K3];show 1<=evT (cR r) (kas_asc (kas_rev p 0 n) (nrem - n) n)/\_/\Srt r (kas_rev p 0 n) _/\(kas_rev p 0 n).Perm p;refine ⟨by omega,by show evT (cR r) (kas_asc (kas_rev p 0 n) (nrem - n) n)<=nrem; omega,fun i J g2=>?_,Wn _ _⟩
 by_cases z:i < n
 ·rw [Qac (by omega),Qac (by omega),bS (by omega),bS (by omega)];have:=hd (0 + n - 1 - (i - 1)) (by omega) (by omega);rw [show 0 + n - 1 - (i - 1) - 1=0 + n - 1 - i by omega] at this;exact this
 ·exact q i (by omega) g2
theorem Q0k {p:Array Nat} {n nrem:Nat} (hn:1<=n) (a2:n < nrem) (hs:nrem<=p.size) (I:∀ i,i < n->rk r p i=rk r p (n - 1)) (a1:rk r p n < rk r p (n - 1)) :
  1<=(evT (cR r) (kas_descPart n nrem p)).1/\(evT (cR r) (kas_descPart n nrem p)).1<=nrem/\Srt r (evT (cR r) (kas_descPart n nrem p)).2 (evT (cR r) (kas_descPart n nrem p)).1/\(evT (cR r) (kas_descPart n nrem p)).2.Perm p:=by
 obtain ⟨D,P,h3,Z⟩:=Q19 (r:=r) (nrem - (n + 1)) p (n + 1) 0 ⟨by omega,by omega,by omega,fun i O g2=>by
  by_cases y:i=n
  ·subst y; omega
  ·rw [I i (by omega),I (i - 1) (by omega)]; exact O5 _,fun i O g2=>by
  have:i=n:=by omega
  subst this; rfl⟩ (by omega)
 unfold kas_descPart;rw [K3];generalize evT (cR r) (kas_desc (nrem - (n + 1)) p (n + 1) 0)=x at *;obtain ⟨J,m,q⟩:=x;have sz:J.size=p.size:=P.size_eq;simp only at D P h3 Z;dsimp only
 by_cases z:q > 0
 ·rw [bS z];have Y:=Q29 (r:=r) (p:=J) (i:=m - (q + 1)) (j:=m) D.sz D.eq;obtain ⟨a,b,c,d⟩:=Qbz (r:=r) (p:=kas_rev J (m - (q + 1)) m) (n:=m) (nrem:=nrem) D.n1 (by omega) (by rw [yd]; omega) (fun i O g2=>by rw [Y,Y]; exact D.de i O g2);exact ⟨a,b,c,(d.trans (Wn _ _)).trans P⟩
 ·rw [bT z];obtain ⟨a,b,c,d⟩:=Qbz (r:=r) (p:=J) (n:=m) (nrem:=nrem) D.n1 (by omega) (by omega) D.de;exact ⟨a,b,c,d.trans P⟩
theorem Srt.le {p:Array Nat} {m:Nat} (h:Srt r p m):∀ {i j:Nat},i<=j->j < m->rk r p i<=rk r p j:=by
 intro i j I
 induction j with
 | zero => intro _; have : i = 0 := by omega
           subst this; exact O5 _
 | succ j q=>
  intro J
  by_cases z:i=j + 1
  ·subst z; exact O5 _
  ·have h1:=q (by omega) (by omega);have h2:=h (j + 1) (by omega) J;rw [fO] at h2;exact E1 h1 h2
theorem Qj0 {p:Array Nat} {n:Nat} (hn:1<=n) (hs:n<=p.size) :
  1<=(evT (cR r) (kas_count n p)).1/\(evT (cR r) (kas_count n p)).1<=n/\Srt r (evT (cR r) (kas_count n p)).2 (evT (cR r) (kas_count n p)).1/\(evT (cR r) (kas_count n p)).2.Perm p:=by
 obtain ⟨h1,h2,h3,Y⟩:=Qbp (r:=r) p (n - 1) 1 (O5 _);unfold kas_count;rw [K3];generalize evT (cR r) (kas_asc p (n - 1) 1)=m at *;have S:Srt r p m:=fun i g1 g2=>h3 i g1 g2
 by_cases z:m=n
 ·subst z;rw [bS (by simp)];exact ⟨h1,O5 _,S,db _⟩
 ·rw [bT (by simpa using z)];have q:=Y (by omega)
  by_cases O:m > 1
  ·rw [bS O];show 1<=(evT (cR r) (if decide (rk r p 0 < rk r p (m - 1))=yo then KasT.ret (m,p) else kas_descPart m n (kas_rev p 0 m))).1/\(evT (cR r) (if decide (rk r p 0 < rk r p (m - 1))=yo then KasT.ret (m,p) else kas_descPart m n (kas_rev p 0 m))).1<=n/\Srt r (evT (cR r) (if decide (rk r p 0 < rk r p (m - 1))=yo then KasT.ret (m,p) else kas_descPart m n (kas_rev p 0 m))).2 (evT (cR r) (if decide (rk r p 0 < rk r p (m - 1))=yo then KasT.ret (m,p) else kas_descPart m n (kas_rev p 0 m))).1/\(evT (cR r) (if decide (rk r p 0 < rk r p (m - 1))=yo then KasT.ret (m,p) else kas_descPart m n (kas_rev p 0 m))).2.Perm p
   by_cases J:rk r p 0 < rk r p (m - 1)
   ·rw [bS (by simpa using J)];exact ⟨h1,by show m<=n; omega,S,db _⟩
   ·rw [bT (by simpa using J)];have eq:∀ i,i < m->rk r p i=rk r p (m - 1):=fun i hi=>by
     have a:=S.le (i:=0) (j:=i) (by omega) hi;have b:=S.le (i:=i) (j:=m - 1) (by omega) (by omega);omega
    have I:=Q29 (r:=r) (p:=p) (i:=0) (j:=m) (by omega) (fun k _ Z=>eq k Z);obtain ⟨a,b,c,d⟩:=Q0k (r:=r) (p:=kas_rev p 0 m) (n:=m) (nrem:=n) h1 (by omega) (by rw [yd]; exact hs) (fun i hi=>by rw [I,I]; exact eq i hi) (by rw [I,I]; exact q);exact ⟨a,b,c,d.trans (Wn _ _)⟩
  ·rw [bT O];have:m=1:=by omega
   subst this;exact Q0k (r:=r) (O5 _) (by omega) hs (fun i hi=>by rw [show i=0 by omega]) q
theorem Q2d {p:Array Nat} {k:Nat} (S:Srt r p k):∀ f l q,l<=q->q<=k->q - l<=f->(∀ i,i < l->rk r p i<=rk r p k)->(∀ i,q<=i->i < k->rk r p k < rk r p i) ->
  evT (cR r) (kas_place p k f l q)<=k/\(∀ i,i < evT (cR r) (kas_place p k f l q)->rk r p i<=rk r p k)/\(∀ i,evT (cR r) (kas_place p k f l q)<=i->i < k->rk r p k < rk r p i)
 | 0,l,q,h1,h2,Y,j,I=>by
  have:l=q:=by omega
  subst this;exact ⟨h2,j,I⟩
 | f + 1,l,q,h1,h2,Y,j,I=>by
  by_cases z:l>=q
  ·have:l=q:=by omega
   subst this;have e:evT (cR r) (kas_place p k (f + 1) l l)=l:=by rw [kas_place,bS (O5 _)]; rfl
   rw [e];exact ⟨h2,j,I⟩
  ·have e:evT (cR r) (kas_place p k (f + 1) l q)=if rk r p k < rk r p ((l + q) / 2) then evT (cR r) (kas_place p k f l ((l + q) / 2)) else evT (cR r) (kas_place p k f ((l + q) / 2 + 1) q):=by
    rw [kas_place,bT z];show evT (cR r) (if decide (rk r p k < rk r p ((l + q) / 2))=yo then kas_place p k f l ((l + q) / 2) else kas_place p k f ((l + q) / 2 + 1) q)=_
    by_cases y:rk r p k < rk r p ((l + q) / 2)
    ·rw [bS (by simpa using y),bS y]
    ·rw [bT (by simpa using y),bT y]
   rw [e];have m1:l<=(l + q) / 2:=by omega
   have m2:(l + q) / 2 < q:=by omega
   generalize (l + q) / 2=J at *
   by_cases y:rk r p k < rk r p J
   ·rw [bS y];exact Q2d S f l J m1 (by omega) (by omega) j fun i O g2=>O9 y (S.le O g2)
   ·rw [bT y];exact Q2d S f (J + 1) q (by omega) h2 (by omega) (fun i g=>E1 (S.le (show i<=J by omega) (by omega)) (by omega)) I
theorem Qjb:∀ f (p:Array Nat) k,1<=k->k + f<=p.size->Srt r p k->Srt r (evT (cR r) (kas_bin f p k)) (k + f)/\(evT (cR r) (kas_bin f p k)).Perm p
 | 0,p,k,_,_,S=>⟨S,db _⟩
 | f + 1,p,k,I,hs,S=>by
  obtain ⟨h1,h2,q⟩:=Q2d S k 0 k (F6 _) (O5 _) (by omega) (fun i g=>by omega) (fun i j g2=>by omega);have e:evT (cR r) (kas_bin (f + 1) p k)=evT (cR r) (kas_bin f (bubble p k (k - evT (cR r) (kas_place p k k 0 k))) (k + 1)):=by rw [kas_bin,K3]
  rw [e];generalize evT (cR r) (kas_place p k k 0 k)=l at *;have z:Srt r (bubble p k (k - l)) (k + 1):=fun i j g2=>by
   rw [Qg0 (by omega) (by omega),Qg0 (by omega) (by omega),show k - (k - l)=l by omega]
   by_cases a:i=l
   ·subst a;rw [bT (by omega),bT (by omega),bS rfl];exact h2 (i - 1) (by omega)
   ·by_cases b:i - 1=l
    ·rw [bS b,bT a,bS (by omega),b];exact cr (q l (O5 _) (by omega))
    ·rw [bT b,bT a]
     by_cases c:l < i
     ·rw [bS (by omega),bS (by omega)];exact S (i - 1) (by omega) (by omega)
     ·rw [bT (by omega),bT (by omega)];exact S i j (by omega)
  obtain ⟨a,b⟩:=Qjb f (bubble p k (k - l)) (k + 1) (by omega) (by rw [bubble_size]; omega) z;exact ⟨by rw [show k + (f + 1)=k + 1 + f by omega]; exact a,b.trans (bubble_perm _ _ _)⟩
theorem Qk0 {n:Nat} (I:1<=n):Srt r (evT (cR r) (kas_sort n)) n/\(evT (cR r) (kas_sort n)).Perm (cB (bX n)):=by
 obtain ⟨h1,h2,q,j⟩:=Qj0 (r:=r) (p:=cB (bX n)) (n:=n) I (by simp);unfold kas_sort;rw [K3];generalize evT (cR r) (kas_count n (cB (bX n)))=x at *;obtain ⟨m,p⟩:=x;have sz:p.size=n:=by have:=j.size_eq; simpa using this
 simp only at h1 h2 q j;dsimp only
 by_cases z:m < n
 ·rw [bS z,show max m 1=m by omega];obtain ⟨a,b⟩:=Qjb (r:=r) (n - m) p m h1 (by omega) q;rw [show m + (n - m)=n by omega] at a;exact ⟨a,b.trans j⟩
 ·rw [bT z];have:m=n:=by omega
  subst this;exact ⟨q,j⟩
end
def Asks {α:Type} (n:Nat):KasT α->(α->Prop)->Prop
 | .ret a,P=>P a
 | .ask i j k,P=>i < n/\j < n/\∀ b,Asks n (k b) P
theorem Asks.bind {α β:Type} {n:Nat} {P:α->Prop} {Q:β->Prop} {f:α->KasT β} (q:∀ a,P a->Asks n (f a) Q):∀ {t:KasT α},Asks n t P->Asks n (t.bind f) Q
 | .ret a,h=>q a h
 | .ask i j k,h=>⟨h.1,h.2.1,fun b=>Asks.bind q (h.2.2 b)⟩
def AL (n:Nat) (p:Array Nat):Prop:=0 < n/\∀ x∈p.toList,x < n
theorem AL.get {n:Nat} {p:Array Nat} (h:AL n p) (i:Nat):p.getD i 0 < n:=by
 rw [dO]
 by_cases z:i < p.size
 ·rw [bh z];exact h.2 _ (by simp)
 ·rw [cb (by omega)]; exact h.1
theorem AL.perm {n:Nat} {p q:Array Nat} (h:AL n p) (e:q.Perm p):AL n q:=⟨h.1,fun x j=>h.2 x ((gY.mp e).mem_iff.mp j)⟩
theorem Wx {α:Type} {n:Nat} {P:α->Prop} {c:Prop} [Decidable c] {t u:KasT α} (h1:Asks n t P) (h2:Asks n u P):Asks n (if c then t else u) P:=by
 split
 ·exact h1
 ·exact h2
theorem Q3y {n:Nat} {p:Array Nat} (h:AL n p):∀ f m,Asks n (kas_asc p f m) (fun _=>True)
 | 0,m=>trivial
 | f + 1,m=>⟨h.get _,h.get _,fun b=>Wx trivial (Q3y h f (m + 1))⟩
theorem jk {n:Nat}:∀ f (p:Array Nat) m q,AL n p->Asks n (kas_desc f p m q) (fun x=>AL n x.1)
 | 0,p,m,q,h=>h
 | f + 1,p,m,q,h=>⟨h.get _,h.get _,fun b=>Wx (Wx (jk f _ _ _ (h.perm (Wn _ _))) (jk f _ _ _ h)) ⟨h.get _,h.get _,fun d=>Wx h (jk f _ _ _ h)⟩⟩
theorem Q5r {n:Nat} {p:Array Nat} (h:AL n p) (m k:Nat):Asks n (kas_tail3 m k p) (fun x=>AL n x.2):=by
 unfold kas_tail3;refine Asks.bind (P:=fun _=>True) (fun a _=>?_) (Q3y (h.perm (Wn _ _)) _ _);exact h.perm (Wn _ _)
theorem z5 {n:Nat} {p:Array Nat} (h:AL n p) (m k:Nat):Asks n (kas_descPart m k p) (fun x=>AL n x.2):=
 Asks.bind (fun x j=>Wx (Q5r (AL.perm j (Wn _ _)) _ _) (Q5r j _ _)) (jk _ _ _ _ h)
theorem Qbn {n:Nat} {p:Array Nat} (h:AL n p) (k:Nat):Asks n (kas_count k p) (fun x=>AL n x.2):=by
 unfold kas_count;refine Asks.bind (P:=fun _=>True) (fun m _=>?_) (Q3y h _ _);refine Wx (show AL n p from h) (Wx ?_ (z5 h _ _));exact ⟨h.get _,h.get _,fun c=>Wx (show AL n p from h) (z5 (h.perm (Wn _ _)) _ _)⟩
theorem zr {n:Nat} {p:Array Nat} (h:AL n p) (k:Nat):∀ f l q,Asks n (kas_place p k f l q) (fun _=>True)
 | 0,_,_=>trivial
 | f + 1,l,q=>by
  rw [kas_place];exact Wx trivial ⟨h.get _,h.get _,fun c=>Wx (zr h k f _ _) (zr h k f _ _)⟩
theorem Q9x {n:Nat}:∀ f (p:Array Nat) k,AL n p->Asks n (kas_bin f p k) (fun _=>True)
 | 0,_,_,_=>trivial
 | f + 1,p,k,h=>by
  rw [kas_bin];exact Asks.bind (fun l _=>Q9x f _ _ (h.perm (bubble_perm _ _ _))) (zr h k _ _ _)
theorem Qf4 {n:Nat} (q:1<=n):Asks n (kas_sort n) (fun _=>True):=by
 have h:AL n (cB (bX n)):=⟨q,fun x j=>by simpa using j⟩;unfold kas_sort;refine Asks.bind (P:=fun x=>AL n x.2) (fun x j=>?_) (Qbn h n);exact Wx (Q9x _ _ _ j) (show True from trivial)
theorem Q97 {α:Type} {z:Nat->Nat->(Bool->aC->Prop)->aC->Prop} {c:Nat->Nat->Bool} {n:Nat} {s:aC} (h:∀ i j (C:Bool->aC->Prop),i < n->j < n->C (c i j) s->z i j C s) :
  ∀ (t:KasT α) (P:α->Prop) (Q:α->aC->Prop),Asks n t P->Q (evT c t) s->t.kasWp z Q s
 | .ret a,_,_,_,q=>q
 | .ask i j k,P,Q,a,q=>h i j _ a.1 a.2.1 (Q97 h (k (c i j)) P Q (a.2.2 _) q)
end L2
namespace L2
open PySem PySem.Spec PyProof.Rows PySem.W
section
variable {prog:aK} {w:aJ} {A:aL} {E:aA->aC->Prop} {s:aC}
theorem jy {α:Type} {p q:α->Bool}:∀ {l:List α},(∀ x∈l,p x=yo->q x=yo)->(∃ x∈l,p x=yl/\q x=yo)->(l.filter p).length < (l.filter q).length
 | [],_,h=>by obtain ⟨_,h,_⟩:=h; cases h
 | x :: l,h,J=>by
  have O:(l.filter p).length<=(l.filter q).length:=by
   clear J
   induction l with
   | nil=>exact O5 _
   | cons y l j=>
    have j:=j fun z hz=>h z (by rcases D6.mp hz with rfl | hz <;> simp [*])
    have I:=h y (by simp);rw [dP,dP]
    by_cases a:p y=yo
    ·rw [bS a,bS (I a)]; simp; exact j
    ·rw [bT a]
     split
     ·simp; omega
     ·exact j
  rw [dP,dP];obtain ⟨y,I,h1,h2⟩:=J;rcases D6.mp I with rfl | I
  ·rw [h1,h2]; simp; omega
  ·have j:=jy (fun z hz=>h z (O4 _ hz)) ⟨y,I,h1,h2⟩
   by_cases a:p x=yo
   ·rw [bS a,bS (h x (by simp) a)]; simp; exact j
   ·rw [bT a]
    split
    ·simp; omega
    ·exact j
end
end L2
namespace L2
open PySem PySem.Spec PyProof.Rows
end L2
namespace L2
open PySem PySem.Spec PyProof.Rows PySem.W
section
variable {prog:aK} {w:aJ} {A:aL} {E:aA->aC->Prop} {s:aC}
end
end L2
namespace L2
open PySem PySem.Spec PyProof.Rows
section
variable {X:Cx}
end
def RawD (h:Heap) (a:aB) (es:Array DictEntry) (ep:Nat):Prop:=∃ o,h.get? a=zo o/\o.ExactDict/\o.data=.dict es ep
section
variable {prog:aK} {w:aJ} {A:aL} {E:aA->aC->Prop} {s:aC}
theorem RawD.typeIs {a:aB} {es:Array DictEntry} {ep:Nat} (h:RawD s.heap a es ep):s.TypeIs (.ref a) "dict" := let ⟨o,e,x,_⟩:=h; ⟨o,e,x.1⟩
theorem RawD.obj {h:Heap} {a:aB} {es:Array DictEntry} {ep:Nat} (x:RawD h a es ep):h.get? a=zo { cls:=.type "dict",dict:=zb,data:=.dict es ep,slots:=#[] }:=by
 obtain ⟨⟨c,j,q,z⟩,ho,⟨h1,h2,h3⟩,h4⟩:=x;simp only at h1 h2 h3 h4;subst h1 h2 h3 h4;exact ho
theorem Qg2 {d:aB} {es:Array DictEntry} {ep:Nat} {Q:aA->aC->Prop} (hd:(d == ak)=yl) (hm:RawD s.heap d es ep)
  (q:Q (.ref s.heap.objs.size) { s with heap:=s.heap.push { cls:=.type "dict_keyiterator",data:=.fields #[.ref d,.int 0 0,.int es.size 0,.int ep 0] } }) :
  aF (aI prog w) A (pyIter (.ref d)) Q E s:=by
 have j:=hm.typeIs;have z:=hm.obj;obtain ⟨hp,g,dr,tk,os⟩:=s;refine wpAny_pyIter_slot j gZ (af gZ j PySem.F.entry_dict_iter ?_ (PySem.F.args_dict_iter_1 _));unfold Builtin.«dict.__iter__» Builtin.Dict.dictSlotNone
 repeat (any_goals (first | assumption | wp_step))
 refine ⟨_,rfl, "dict_keyiterator",_,⟨_,D1 _ rfl,rfl⟩,PySem.F.slot_dict_keyiterator_next.lookup,q⟩
theorem Q3c:Builtin.Dict_items.ownsTuple ((Manifest.find? "dict_keyiterator").elim "dict_keyiterator" fun x=>x.tpName)=yl:=by decide +kernel
theorem Qg3 {it d:aB} {i ep:Nat} {es:Array DictEntry} {e:DictEntry} {Q:Option aA->aC->Prop} (j:s.heap.IsKeyIter it d i es.size ep) (hm:RawD s.heap d es ep) (J:es[i]?=zo e)
  (z:∀ h',h'.IsKeyIter it d (i + 1) es.size ep->Heap.SameBut it s.heap h'->Q (zo e.key) { s with heap:=h' }) :
  aF (aI prog w) A (ag (.ref it)) Q E s:=by
 have q:=j.typeIs;have Y:=hm.obj;obtain ⟨⟨c,I,O,Z⟩,hoi,hci,hdi⟩:=j;simp only at hci hdi;subst hci hdi;obtain ⟨hp,g,dr,tk,os⟩:=s;unfold ag;refine aD (wpAny_attempt (wpAny_callSpecial?_slot (name:=cP "__next__") q eD (af eD q gc ?_ (gf _))))
 repeat (any_goals (first | assumption | wp_step))
 simp only [Q3c,E7,if_false];simp only [show ¬ ((i:Int) < 0) by omega,if_false,bo,J]
 repeat (any_goals (first | assumption | wp_step))
 simp only [Q3c,E7,if_false];rw [bT (show ¬ ((_:Bool)=yo) by decide +kernel)];refine ⟨_,rfl,wpAny_pure (z _ ⟨_,G8 _ hoi rfl,rfl,?_⟩ (Heap.SameBut.update ..))⟩;simp [cy,aU]
theorem Qkg {it d:aB} {i ep:Nat} {es:Array DictEntry} {Q:Option aA->aC->Prop} (Z:A.handled=zb) (j:s.heap.IsKeyIter it d i es.size ep) (hm:RawD s.heap d es ep) (O:es[i]?=zb)
  (I:∀ h',Heap.ExtBut it s.heap h'->Q zb { s with heap:=h' }) :
  aF (aI prog w) A (ag (.ref it)) Q E s:=by
 have z:=j.typeIs;have ho:=hm.obj;obtain ⟨⟨c,J,Y,sl⟩,hoi,hci,hdi⟩:=j;simp only at hci hdi;subst hci hdi;obtain ⟨hp,g,dr,tk,os⟩:=s;unfold ag;refine aD (wpAny_attempt (wpAny_callSpecial?_slot (name:=cP "__next__") z eD (af eD z gc ?_ (gf _))))
 repeat (any_goals (first | assumption | wp_step))
 simp only [Q3c,E7,if_false];simp only [show ¬ ((i:Int) < 0) by omega,if_false,bo,O];have q:=isSubtype_stop
 repeat (any_goals (first | assumption | wp_step))
 unfold bR;refine aD (wpAny_handled ?_);rw [show A.in1.handled=zb from Z];refine aD (wpAny_pure (wpAny_throw ?_));refine aD (bK (T := "StopIteration") (b:=yo) ⟨_,D1 _ rfl,rfl⟩ isSubtype_stop ?_);exact wpAny_pure (I _ (((Heap.SameBut.update ..).extBut.push _).push _))
theorem RawD.at {h h':Heap} {a:aB} {es:Array DictEntry} {ep:Nat} (x:RawD h a es ep) (k:∀ o,h.get? a=zo o->h'.get? a=zo o):RawD h' a es ep:=let ⟨o,e,r⟩:=x; ⟨o,k o e,r⟩
theorem RawD.lt {h:Heap} {a:aB} {es:Array DictEntry} {ep:Nat} (x:RawD h a es ep):a < h.objs.size:=let ⟨_,e,_⟩:=x; D0 e
theorem Qdd (hh:A.handled=zb) (I d:aB) (Y:d≠I) (es:Array DictEntry) (ep:Nat) :
  Walks prog w A I [I,d] [I] es.size (fun i v=>∃ e,es[i]?=zo e/\v=e.key) (fun i h=>h.IsKeyIter I d i es.size ep/\RawD h d es ep) where
 sub:=fun b j=>by simp at j; simp [j]
 frame:=fun _ _ _ st Z=>⟨st.1.at fun o e=>Z I (by simp) o e,st.2.at fun o e=>Z d (by simp) o e⟩
 item:=fun i s Q E hi st q=>by
  refine Qg3 st.1 st.2 (bh hi) fun h' z J=>?_
  exact q _ h' s.toks ⟨_,bh hi,rfl⟩ ⟨z,st.2.at fun o e=>(J.2 d Y).trans e⟩ fun b o j e=>J.extBut b o (fun h=>j (by simp [h])) e
 done:=fun s Q E st q=>Qkg hh st.1 st.2 (by simp) fun h' O=>q h' s.toks fun b o j e=>O b o (fun h=>j (by simp [h])) e
 self:=fun _ _ _ _ st q=>wpAny_pyIter_keyiter st.1 q
theorem Qc3 {d:aB} {es:Array DictEntry} {ep:Nat} (lo:(d == ak)=yl):PySem.W.KdlSrc prog w "dict" d d es.size (fun i v=>∃ e,es[i]?=zo e/\v=e.key) (fun h=>RawD h d es ep) where
 type:=fun _ hm=>hm.typeIs
 there:=fun _ hm=>⟨hm.lt,hm.lt⟩
 keep:=fun _ _ hm z=>hm.at fun o e=>z d (.inl rfl) o e
 notList:=by decide
 notTuple:=by decide
 hint:=fun _ _ _ _ hm j=>PySem.W.kdl_hint_dict hm.typeIs j
 iter:=fun _ _ q hm=>⟨_,_,(fun _ _ j=>Qg2 lo hm j),Qdd q _ d (D8 hm.lt) es ep,⟨⟨_,D1 _ rfl,rfl,rfl⟩,hm.at fun o e=>O3 _ e⟩⟩
theorem Q9n {d:aB} {es:Array DictEntry} {ep:Nat} {Q:List aA->aC->Prop} (lo:(d == ak)=yl) (Z:A.handled=zb) (hm:RawD s.heap d es ep) (hn:es.size<=sizeLine)
  (h:∀ h' tk,(∀ b o,s.heap.get? b=zo o->h'.get? b=zo o)->s.heap.objs.size<=h'.objs.size->Q (es.toList.map (·.key)) { s with heap:=h',toks:=tk }):aF (aI prog w) A (collect (.ref d)) Q E s:=by
 unfold collect;refine aD (wpAny_runValue (ay gi ?_));rw [Around.under_plainId gj _];show aF _ A.in1 (newList [] >>= fun l=>again (.builtin "list.__iadd__" ⟨[l,.ref d],[]⟩)) _ _ s
 refine aD (aq ?_);refine wpAny_pure ⟨bF eE _,ay gk ?_⟩;rw [Around.under_plainId eE _];have hS:(s.heap.push { cls:=.type "list",data:=.seq ([]:List aA).toArray }).get? s.heap.objs.size=zo { cls:=.type "list",data:=.seq ([]:List aA).toArray }:=D1 _ rfl;have I:∀ b o,s.heap.get? b=zo o->(s.heap.push { cls:=.type "list",data:=.seq ([]:List aA).toArray }).get? b=zo o:=fun b o e=>O3 _ e
 have J:s.heap.objs.size≠d:=cE hm.lt;show aF _ A.in1 (Builtin.List.listExtendWith (.ref s.heap.objs.size) (.ref d) (.ref s.heap.objs.size)) _ _ _;refine PySem.W.kdl_extend (prog:=prog) (w:=w) (A:=A) (R:=fun r s'=>match r with | .ok (.ret v)=>aF (aI prog w) A (match v with | .ref a=>do { let o <- load a; match o.data with | .seq xs _=>pure xs.toList | _=>unsupported "internal:collect" } | _=>unsupported "internal:collect") Q E s' | .ok _=>False | .error e=>E e s') (s:={ s with heap:=s.heap.push { cls:=.type "list",data:=.seq ([]:List aA).toArray } }) (Qc3 (es:=es) (ep:=ep) lo) Z (hm.at fun o e=>I d o e) s.heap.objs.size J J _ _ hS (fun h' tk acc c Y O j=>?_) hn
 show aF _ A (load s.heap.objs.size >>= _) _ _ _;refine aD (wpAny_load O ?_);have e:acc.toList=es.toList.map (·.key):=by
  apply ce;intro i
  by_cases z:i < es.size
  ·have hi:i < acc.size:=by rw [j.1]; exact z
   obtain ⟨e,h1,h2⟩:=j.2 i acc[i] (bh hi);rw [be,bh hi,h2,D7,be,h1]; rfl
  ·rw [be,cb (by rw [j.1]; omega),D7,be,cb (by omega)]; rfl
 show aF _ _ (pure acc.toList) _ _ _;rw [e];exact wpAny_pure (h h' tk (fun b o q=>Y b o (D8 (D0 q)) (I b o q)) (cr (D0 O)))
end
end L2
namespace L2
open PySem PySem.Spec PyProof.Rows PySem.W
section
variable {prog:aK} {w:aJ} {A:aL} {E:aA->aC->Prop} {s:aC}
theorem Q7f {d:aB} {es:Array DictEntry} {ep:Nat} {Q:aA->aC->Prop} (lo:(d == ak)=yl) (hm:RawD s.heap d es ep) (j:es.size < 1000000) (h:∀ t tk,Q (.int es.size t) { s with toks:=tk }):aF (aI prog w) A (call (.builtin "len") [.ref d]) Q E s:=by
 have q:=hm.typeIs;have I:=hm.obj;have Z:((es.size:Int) < 2 ^ 63):=by omega
 obtain ⟨hp,g,dr,tk,os⟩:=s;refine Calls.call_function_entry kind_len plain_len entry_len (args_len1 _) ?_;unfold Builtin.«len»;have J:=PySem.F.slot_dict_len.lookup;have O:=PySem.F.slot_dict_len.bind (.ref d)
 repeat (any_goals (first | assumption | ((with_reducible show aF _ _ (call (dl "dict.__len__") _ _) _ _ _); refine af PySem.F.slot_dict_len q PySem.F.entry_dict_len ?_ (PySem.F.args_dict_len_1 _)) | wp_step))
 refine ⟨_,rfl,?_⟩;have z:((es.size:Int) + ((0:Nat):Int))=(es.size:Int):=by omega
 rw [z];have n1:¬ ((es.size:Int)>=2 ^ 63):=by omega
 have Y:¬ ((es.size:Int) < 0):=by omega
 repeat (any_goals (first | assumption | wp_step))
 rw [bT n1]
 repeat (any_goals (first | assumption | wp_step))
 exact ⟨_,rfl,h _ _⟩
end
theorem Qbb {P:aK} {w:aJ} {H:Hp} {h:Heap} {a:aB} {kvs:List (HK × V)} (ok:HOk P w H h) (e:H a=zo (.dT kvs)):kvs.length<=sizeLine/\(a == ak)=yl/\∃ es ep J,RawD h a es ep/\es.toList.map (·.key)=J.map bY/\aR (fun (p:HK × V) (b:aB)=>KR H p.1 b) kvs J:=by
 obtain ⟨z,hs,xs,j,o,es,ep,O,Z,hd,I,hn⟩:=ok a _ e;refine ⟨z,hs,es,ep,xs.map (fun q=>q.2.1),⟨o,O,Z,hd⟩,?_,?_⟩
 ·rw [I,bt,bt];exact cZ fun q _=>rfl
 ·clear I hn z e
  induction j with
  | nil=>exact .nil
  | cons hr _ Y=>exact .cons hr.2.1 Y
section
variable {X:Cx}
theorem Qbh:Vs X (.builtin "len") (fun xs H Q=>∃ a,∃ kvs:List (HK × V),xs=[.ref a]/\H a=zo (.dT kvs)/\kvs.length < 1000000/\Q (.int kvs.length) H):=by
 intro pins s σ H xs us Q I r h;obtain ⟨a,kvs,rfl,ea,hl,q⟩:=h;obtain ⟨u,rfl,Z⟩:=Xt r;cases Z;obtain ⟨z,hs,es,ep,as,O,J,j⟩:=Qbb I.hok ea;have l1:kvs.length=as.length:=Paired.length j;have Y:es.size=kvs.length:=by
  have:=congrArg dG J;simp at this;omega
 refine Q7f hs O (by omega) fun t tk=>?_
 exact ⟨.int kvs.length,H,I.tok _,⟨t,by rw [Y]⟩,q⟩
end
end L2
namespace L2
open PySem PySem.Spec PyProof.Rows
def Qq2 (tk tv:TE):TE:=fun σ H Q=>∀ p,H p=zb->Qa4 [(tk,tv)] σ (upd H p (.dT [])) fun ps H2=>∃ (ks:HK) (b:aB) (y:V),ps=[(.ref b,y)]/\KR H2 ks b/\H2 p=zo (.dT [])/\Q (.ref p) (upd H2 p (.dT [(ks,y)]))
theorem Qe2 {X:Cx} {pos:Pos} {k v:aH} {tk tv:TE} (hu:X.A.units + 5 < aQ) (hk:PE X k tk) (hv:PE X v tv):PE X (.Dict [zo k] [v] pos) (Qq2 tk tv):=by
 intro pins s σ H Q I q;have hn:=I.hok.fresh (O5 s.heap.objs.size);have I1:=I.laid (a:=s.heap.objs.size) (o:=.dT []) (h':=s.heap.push { cls:=.type "dict",data:=.dict #[] }) (t':=s.toks) (fun _ _ q=>O3 _ q) (O5 _) (Q9e s.heap I.big);rw [arm_eval_Dict,zip_pairTrees [zo k] [v] X.env pos rfl rfl,dictDisplay_pairs _ (by simp [pairTrees]) (by simp [pairTrees])];refine aD (wpAny_standAt (aD ?_));unfold subDict;refine aD (wpAny_alloc (aD (ae ?_)));rw [bS (by simp [pairTrees])];refine aD (thn ((Qgg hk hv Qku) pins _ σ _ _ I1 (q _ hn)) fun ws s2 ⟨ps,H2,J,j,ks,b,y,ep,Z,e,q2⟩=>?_)
 subst ep;obtain ⟨⟨u,r⟩,rfl,r1,r2⟩:∃ p:aA × aA,ws=[p]/\RelV (.ref b) p.1/\RelV y p.2:=by
  cases j with
  | @cons a c as bs h t=>
   cases t;exact ⟨_,rfl,h.1,h.2⟩
 cases (show u=bY b from r1);obtain ⟨z,hd,xs,j,dd⟩:=Qiu J.hok e;cases j;refine ae ?_;refine aD ?_;rw [fJ];refine aD (aD (wpAny_dictSet_heap (hsz:=by simp) (knd:=nk X.prog X.w) hu (U0 J.hok Z) dd fun h' O hs=>wpAny_pure ?_))
 dsimp only;rw [gT];refine wpAny_pure (wpAny_pure (wpAny_pure (wpAny_pure ⟨.ref s.heap.objs.size,_,?_,rfl,q2⟩)));obtain ⟨o,es,ep,hq,h2,h3,h4,_,h5⟩:=O;refine Q7a J (by rw [e]; exact True.intro) hs ⟨o,hq⟩ ⟨by simp [sizeLine_eq],hd,[(ks,b,r)],.cons ⟨rfl,?_,r2⟩ .nil,o,es,ep,hq,h2,h3,by simpa [storedH,atKey] using h4,by simp⟩;exact Z.keep fun c ys Y=>by rw [Qg (Qhb Y e (fun z=>nomatch z))]; exact Y
def Rise (xs:Array Nat):Prop:=xs.toList.Pairwise (· < ·)
theorem Rise.lt {xs:Array Nat} (r:Rise xs) {i j a b:Nat} (hi:xs[i]?=zo a) (Y:xs[j]?=zo b) (h:i < j):a < b:=by
 have q:=eF.mp r;obtain ⟨I,J⟩:=cA.mp hi;obtain ⟨z,O⟩:=cA.mp Y;have:=q i j (by simpa using I) (by simpa using z) h;simp only [Array.getElem_toList] at this;rw [<- J,<- O]; exact this
theorem Qjd {xs:Array Nat} {j:Nat} (r:Rise xs):∀ I lo hi,hi - lo<=I->lo<=hi->hi<=xs.size->(∀ i v,xs[i]?=zo v->i < lo->v < j)->(∀ i v,xs[i]?=zo v->hi<=i->j<=v) ->
  SetTable.below.go xs j I lo hi<=xs.size/\∀ i v,xs[i]?=zo v->(i < SetTable.below.go xs j I lo hi <-> v < j):=by
 intro I
 induction I with
 | zero=>
  intro lo hi h1 h2 h3 a b;have e:lo=hi:=by omega
  rw [SetTable.below.go];refine ⟨by omega,fun i v J=>⟨a i v J,fun h=>?_⟩⟩
  by_cases z:i < lo
  ·exact z
  ·have:=b i v J (by omega); omega
 | succ I Z=>
  intro lo hi h1 h2 h3 a b;rw [SetTable.below.go]
  by_cases z:lo < hi
  ·rw [bS z];dsimp only;have hm:(lo + hi) / 2 < xs.size:=by omega
   have O:xs[(lo + hi) / 2]?=zo xs[(lo + hi) / 2]:=bh hm;have ed:xs.getD ((lo + hi) / 2) j=xs[(lo + hi) / 2]:=by simp [dR,hm]
   rw [ed]
   by_cases y:xs[(lo + hi) / 2] < j
   ·rw [bS y];refine Z _ _ (by omega) (by omega) h3 (fun i v J Y=>?_) b
    by_cases q:i=(lo + hi) / 2
    ·subst q; rw [O] at J; cases J; exact y
    ·have:=r.lt J O (by omega); omega
   ·rw [bT y];refine Z _ _ (by omega) (by omega) (by omega) a fun i v J Y=>?_
    by_cases q:i=(lo + hi) / 2
    ·subst q; rw [O] at J; cases J; omega
    ·have:=r.lt O J (by omega); omega
  ·rw [bT z];refine ⟨by omega,fun i v J=>⟨a i v J,fun h=>?_⟩⟩
   by_cases q:i < lo
   ·exact q
   ·have:=b i v J (by omega); omega
theorem qy {xs:Array Nat} {j:Nat} (r:Rise xs):SetTable.below xs j<=xs.size/\∀ i v,xs[i]?=zo v->(i < SetTable.below xs j <-> v < j):=
 Qjd r _ _ _ (by omega) (F6 _) (O5 _) (fun i v _ h=>absurd h (gm _)) fun i v q h=>by
  have:=(cA.mp q).1; omega
def Good (L:Bool) (t:aV):Prop:=Rise t.place/\t.dummies=#[]/\t.led=L
theorem Q86 {xs:Array Nat} {j:Nat} (r:Rise xs) (h:j∉xs.toList):Rise (SetTable.insertAt xs (SetTable.below xs j) j):=by
 obtain ⟨_,b⟩:=qy (j:=j) r;unfold Rise;rw [SetTable.toList_insertAt];have lo:∀ v∈xs.toList.take (SetTable.below xs j),v < j:=fun v I=>by
  obtain ⟨i,hi,e⟩:=F8 I;rw [cN] at hi;refine (b i v ?_).mp (by omega);rw [<- be,<- e,List.getElem_take,O2]
 have hi:∀ v∈xs.toList.drop (SetTable.below xs j),j < v:=fun v I=>by
  obtain ⟨i,hi,e⟩:=F8 I;rw [cv] at hi;have O:xs[SetTable.below xs j + i]?=zo v:=by
   rw [<- be,<- e,List.getElem_drop,O2]
  have q:¬ v < j:=fun z=>by have:=(b _ v O).mpr z; omega
  have ne:v≠j:=fun z=>h (by rw [<- z]; exact gn I)
  omega
 refine List.pairwise_append.mpr ⟨fP.sublist (gC _ _) r,cf.mpr ⟨hi,fP.sublist (List.drop_sublist _ _) r⟩,fun x Y y J=>?_⟩
 rcases D6.mp J with rfl | J
 ·exact lo x Y
 ·exact gX (lo x Y) (hi y J)
theorem Good.put {L:Bool} {t:aV} (g:Good L t) {j:Nat} (h:j∉t.place.toList):Good L (t.put j).1:=by
 unfold SetTable.put;refine ⟨Q86 g.1 h,?_,g.2.2⟩;show (if SetTable.has t.dummies j=yo then _ else t.dummies)=#[];have:SetTable.has t.dummies j=yl:=by unfold SetTable.has; rw [g.2.1]; simp
 rw [this,bT (by simp)];exact g.2.1
theorem Good.relaid {L:Bool} {t t':aV} (g:Good L t) {hs:Array Int} {n:Nat} {o:Array Nat} (e:t.relaid hs n=zo (t',o)):Good L t':=by
 unfold SetTable.relaid SetTable.laid at e;cases z:SetTable.layClean (SetTable.sizeAbove n - 1) hs with
 | none=>rw [z] at e; cases e
 | some J=>
  rw [z] at e;cases e;refine ⟨?_,rfl,g.2.2⟩;show fP (· < ·) (List.map _ _);rw [fQ];have O:∀ l:List Nat,l.Pairwise (· < ·)->(l.filterMap fun j=>(J.getD j zb).map (j,·)).Pairwise fun a b=>a.1 < b.1:=by
   intro l
   induction l with
   | nil=>intro _; exact .nil
   | cons x l Y=>
    intro h;obtain ⟨h1,h2⟩:=cf.mp h;rw [cW];cases J.getD x zb with
    | none=>exact Y h2
    | some k=>
     refine cf.mpr ⟨fun b hb=>?_,Y h2⟩;obtain ⟨y,Z,I⟩:=dY.mp hb;cases q:J.getD y zb with
     | none=>rw [q] at I; cases I
     | some k'=>rw [q] at I; cases I; exact h1 y Z
  exact O _ List.pairwise_lt_range
theorem zn {α:Type}:∀ {l:List α} {i:Nat} (h:i < l.length),([l[i]] ++ l.eraseIdx i).Perm l
 | [],_,h=>absurd h (gm _)
 | a :: l,0,_=>cM _
 | a :: l,i + 1,h=>by
  have:=zn (l:=l) (i:=i) (by simpa using h);rw [List.eraseIdx_cons_succ,List.getElem_cons_succ];exact (eG a _ _).trans (this.cons a)
theorem Qky {α:Type} (next:Nat->Nat):∀ j k (left:List α) q,left.length=j->(pickOrder.go next j k left q).toList.Perm (q.toList ++ left):=by
 intro j
 induction j with
 | zero=>intro k left q h; rw [gq.mp h,pickOrder.go,cC]
 | succ j I=>
  intro k left q h;rw [pickOrder.go];have z:next k % left.length < left.length:=eH _ (by omega);rw [O2 z];refine (I (k + 1) _ _ (by rw [gr z]; omega)).trans ?_;rw [Array.toList_push,dJ];refine iq _ ?_;exact zn z
theorem Qe0 {α:Type} (next:Nat->Nat) (xs:Array α):(pickOrder next xs).toList.Perm xs.toList:=by
 have:=Qky next xs.size 0 xs.toList #[] (by simp);simpa [pickOrder] using this
theorem Q8i {α β:Type} {F:α->β->Prop} {l I:List α} (p:I.Perm l):∀ {ks:List β},aR F l ks->∃ j,aR F I j/\j.Perm ks:=by
 induction p with
 | nil=>intro ks h; exact ⟨ks,h,cM _⟩
 | cons x _ J=>
  intro ks h;cases h with
  | cons r t=>
   obtain ⟨j,h1,h2⟩:=J t;exact ⟨_,.cons r h1,h2.cons _⟩
 | swap x y l=>
  intro ks h;cases h with
  | cons r t=>
   cases t with
   | cons Y t'=>exact ⟨_,.cons Y (.cons r t'),eG _ _ _⟩
 | trans _ _ z q=>
  intro ks h;obtain ⟨k1,h1,O⟩:=q h;obtain ⟨k2,h2,p2⟩:=z h1;exact ⟨k2,h2,p2.trans O⟩
theorem qi {α β:Type} {F:α->β->Prop} {a:α}:∀ {l:List α} {ks:List β},aR F l ks->a∈l->∃ b∈ks,F a b
 | _,_,.nil,h=>by cases h
 | _,_,.cons (b:=b) r t,h=>by
  rcases D6.mp h with rfl | h
  ·exact ⟨b,by simp,r⟩
  ·obtain ⟨x,j,q⟩:=qi t h;exact ⟨x,O4 _ j,q⟩
section
variable {prog:aK} {w:aJ} {K:Type} [DecidableEq K]
variable {knd:KeyKind prog w K} {L:Bool} {A:aL} {E:aA->aC->Prop} {s:aC} {a:aB}
def Jy (ks:List K) (k:K):List K:=if k∈ks then ks else ks ++ [k]
end
theorem Q0w:entryFor table "set.__iter__" = zo Builtin.«frozenset.__iter__»:=entryFor_alias (id' := "frozenset.__iter__") (by kernel_rfl) rfl (by decide +kernel) (by kernel_rfl)
theorem slot_setit_next:Slot "set_iterator" "__next__" "set_iterator.__next__" :=
 .of (owner := "set_iterator") (n := "__next__") (by rw [typeLookup_type,builtinLookup_eq_fast]; kernel_rfl) (by decide +kernel) (by decide +kernel) (by decide +kernel) (by first | exact .inl (by decide +kernel) | exact .inr (by decide +kernel)) (by rw [bN]; kernel_rfl)
theorem K4:entryFor table "set_iterator.__next__" = zo Builtin.«set_iterator.__next__»:=entryFor_of_tree (by kernel_rfl)
theorem Q0e:Manifest.owners.lookup (String.ofList ['r','o','t','a','r','e','t','i','_','t','e','s'].reverse)=zo Manifest.sig_set_iterator:=by kernel_rfl
theorem Kx (a:aA):argsOk "set_iterator.__next__" ⟨[a],[]⟩:=by
 unfold argsOk; rw [signature?_of (id := "set_iterator.__next__") (n:=['_','_','t','x','e','n','_','_']) (o:=['r','o','t','a','r','e','t','i','_','t','e','s']) (by kernel_rfl) Q0e]; kernel_rfl
def SetIt (h:Heap) (it:aB) (f:aA) (i:Nat) (d:aB) (n ep:Nat):Prop:=
 h.get? it=zo { cls:=.type "set_iterator",dict:=zb,data:=.fields #[f,aU i,.ref d,aU n,aU ep],slots:=#[] }
def RawS (h:Heap) (a:aB) (es:Array (Int × aA)) (ep:Nat) (t:aV):Prop:=∃ o,h.get? a=zo o/\o.ExactSet/\o.data=.set es ep t
theorem RawS.at {h h':Heap} {a:aB} {es:Array (Int × aA)} {ep:Nat} {t:aV} (x:RawS h a es ep t) (k:∀ o,h.get? a=zo o->h'.get? a=zo o):RawS h' a es ep t:=let ⟨o,e,r⟩:=x; ⟨o,k o e,r⟩
theorem RawS.lt {h:Heap} {a:aB} {es:Array (Int × aA)} {ep:Nat} {t:aV} (x:RawS h a es ep t):a < h.objs.size:=let ⟨_,e,_⟩:=x; D0 e
theorem SetIt.at {h h':Heap} {it d:aB} {f:aA} {i n ep:Nat} (x:SetIt h it f i d n ep) (k:∀ o,h.get? it=zo o->h'.get? it=zo o):SetIt h' it f i d n ep:=k _ x
section
variable {prog:aK} {w:aJ} {A:aL} {E:aA->aC->Prop} {s:aC}
theorem RawS.typeIs {a:aB} {es:Array (Int × aA)} {ep:Nat} {t:aV} (x:RawS s.heap a es ep t):s.TypeIs (.ref a) "set" := let ⟨o,e,r,_⟩:=x; ⟨o,e,r.1⟩
theorem SetIt.typeIs {it d:aB} {f:aA} {i n ep:Nat} (x:SetIt s.heap it f i d n ep):s.TypeIs (.ref it) "set_iterator" := ⟨_,x,rfl⟩
theorem Ui {a:aB} {es:Array (Int × aA)} {ep:Nat} {t:aV} {Q:(Array (Int × aA) × Nat × aV)->aC->Prop} (x:RawS s.heap a es ep t) (q:t.fits es.size=yo) (h:Q (es,ep,t) s):aF (aI prog w) A (setState a) Q E s:=by
 obtain ⟨o,j,_,hd⟩:=x;exact wpAny_setState_of j hd q h
theorem Qbg {n:Nat} {Q:Nat->aC->Prop} (j:n≠0) (h:∀ i d',i < n->Q i { s with drawn:=d' }):aF (aI prog w) A (choose .order n) Q E s:=fun Γ p _=>⟨j,h _ _ (eH _ (by omega))⟩
theorem Qiv {α:Type}:∀ (n:Nat) (xs:List α) (s:aC) {Q:List α->aC->Prop},xs.length=n->(∀ ys d',ys.Perm xs->Q ys { s with drawn:=d' })->aF (aI prog w) A (drawOrder n xs) Q E s:=by
 intro n
 induction n with
 | zero=>
  intro xs s Q j h;rw [gq.mp j] at h ⊢;rw [drawOrder];exact wpAny_pure (h [] s.drawn (cM _))
 | succ n q=>
  intro xs s Q j h;cases xs with
  | nil=>cases j
  | cons x xs=>
   rw [drawOrder]
   ·refine aD (Qbg (by simp) fun i d' hi=>?_)
    rw [O2 hi];refine aD (q _ _ (by rw [gr hi]; omega) fun ys z hp=>?_)
    exact wpAny_pure (h _ z ((hp.cons _).trans (zn hi)))
   ·simp
end
section
variable {prog:aK} {w:aJ} {A:aL} {E:aA->aC->Prop} {s:aC}
theorem Qke {a:aB} {es:Array (Int × aA)} {ep:Nat} {t:aV} {Q:Nat->aC->Prop} (x:RawS s.heap a es ep t) (j:t.fits es.size=yo) (h:Q es.size s):aF (aI prog w) A (Builtin.Frozenset.sizeOf a) Q E s:=by
 unfold Builtin.Frozenset.sizeOf setEntries;exact aD (aD (Ui x j (wpAny_pure (wpAny_pure h))))
theorem Q84 {a:aB} {es:Array (Int × aA)} {ep:Nat} {t:aV} {Q:Nat->aC->Prop} (x:RawS s.heap a es ep t) (j:t.fits es.size=yo) (h:Q ep s):aF (aI prog w) A (setEpoch a) Q E s:=by
 unfold setEpoch;exact aD (Ui x j (wpAny_pure h))
theorem Q28 {a:aB} {es:Array (Int × aA)} {ep:Nat} {t:aV} {Q:Array (Int × aA)->aC->Prop} (x:RawS s.heap a es ep t) (j:t.fits es.size=yo) (h:Q es s):aF (aI prog w) A (setEntries a) Q E s:=by
 unfold setEntries;exact aD (Ui x j (wpAny_pure h))
theorem xm {Q:Bool->aC->Prop} (h:Q (w.params.followText "set-order") s):aF (aI prog w) A setsByText Q E s:=by
 unfold setsByText;exact aD (wpAny_askSetting (wpAny_pure h))
def drw (w:aJ) (n:Nat) (t:aV):Bool:=!w.params.followText "set-order" && (!t.plain && decide (n > 1))
theorem Qfz {a:aB} {es:Array (Int × aA)} {ep:Nat} {t:aV} {Q:Bool->aC->Prop} (x:RawS s.heap a es ep t) (j:t.fits es.size=yo) (h:Q (drw w es.size t) s):aF (aI prog w) A (setDrawn a) Q E s:=by
 unfold setDrawn;exact aD (Ui x j (aD (xm (wpAny_pure h))))
theorem Qfu {a:aB} {es:Array (Int × aA)} {ep:Nat} {t:aV} {Q:aA->aC->Prop} (x:RawS s.heap a es ep t) (j:t.fits es.size=yo) (hz:es.size<=sizeLine)
  (h1:drw w es.size t=yl->Q (.ref s.heap.objs.size) { s with heap:=s.heap.push { cls:=.type "set_iterator",data:=.fields #[aU 0,aU 0,.ref a,aU es.size,aU ep] } })
  (h2:drw w es.size t=yo->∀ (ys:List Nat) (d':Drawn),ys.Perm (bX es.size) ->
   Q (.ref (s.heap.objs.size + 1)) { s with heap:=(s.heap.push { cls:=.type "tuple",data:=.seq (ys.map fun (i:Nat)=>aU i).toArray }).push { cls:=.type "set_iterator",data:=.fields #[.ref s.heap.objs.size,aU 0,.ref a,aU es.size,aU ep] },drawn:=d' }) :
  aF (aI prog w) A (pyIter (.ref a)) Q E s:=by
 refine wpAny_pyIter_slot x.typeIs gt (af gt x.typeIs Q0w ?_ (PySem.F.args_set_iter_1 _));unfold Builtin.«frozenset.__iter__» Builtin.Frozenset.slot0 Builtin.Frozenset.addrOf slotArgs;show aF _ _ (pure a >>= _) _ _ _;refine aD (wpAny_pure ?_);refine aD (Qke x j ?_);refine aD (Qfz x j ?_);cases z:drw w es.size t with
 | false=>
  rw [bT D3];refine aD (wpAny_pure ?_);refine aD (Q84 x j ?_);refine aD (aq ?_);exact wpAny_pure ⟨_,rfl, "set_iterator",_,⟨_,D1 _ rfl,rfl⟩,slot_setit_next.lookup,h1 z⟩
 | true=>
  rw [bS rfl];refine aD ?_;refine Qiv _ _ _ F3 fun ys d' hp=>?_
  refine aD (wpAny_newTuple ?_ (by rw [O1,hp.length_eq,F3]; exact hz));have q:RawS (s.heap.push { cls:=.type "tuple",data:=.seq (ys.map fun (i:Nat)=>aU i).toArray }) a es ep t:=x.at fun o e=>O3 _ e
  refine aD (Q84 (s:={ s with heap:=s.heap.push { cls:=.type "tuple",data:=.seq (ys.map fun (i:Nat)=>aU i).toArray },drawn:=d' }) q j ?_)
  refine aD (aq ?_);refine wpAny_pure ⟨_,rfl, "set_iterator",_,⟨_,D1 _ rfl,rfl⟩,slot_setit_next.lookup,?_⟩;have:=h2 z ys d' hp
  rwa [show s.heap.objs.size + 1=(s.heap.push { cls:=.type "tuple",data:=.seq (ys.map fun (i:Nat)=>aU i).toArray }).objs.size from (F7 _ _).symm] at this
end
def byT (w:aJ):Bool:=!w.params.followText "set-order"
def Y6 (w:aJ):Obj:={ cls:=.type "set",dict:=zb,data:=.set #[] 0 (.fresh 0 0 (byT w)) }
def Y3 {K:Type} [DecidableEq K] (ks:List K):List K:=ks.foldl Jy []
theorem Qee {K:Type} [DecidableEq K] (ks:List K) (k:K):Y3 (ks ++ [k])=Jy (Y3 ks) k:=by unfold Y3; rw [eI]; rfl
theorem Uq {K:Type} [DecidableEq K]:∀ (ks acc:List K),(ks.foldl Jy acc).length<=acc.length + ks.length
 | [],acc=>by simp
 | k :: ks,acc=>by
  have h1:=Uq ks (Jy acc k);have h2:(Jy acc k).length<=acc.length + 1:=by unfold Jy; split <;> simp
  rw [F1,D5];omega
theorem yr {K:Type} [DecidableEq K] (ks:List K):(Y3 ks).length<=ks.length:=by unfold Y3; have:=Uq ks []; simpa using this
section
variable {prog:aK} {w:aJ} {K:Type} [DecidableEq K] {knd:KeyKind prog w K} {A:aL} {R:Result->aC->Prop}
theorem Qk5 {s:aC} {E:aA->aC->Prop} (a:aA) {Z:aA->aC->Prop} (h:Z (.ref s.heap.objs.size) { s with heap:=s.heap.push (Y6 w) }) :
  codeAny (aI prog w) A (.call (.builtin "set.__new__") ⟨[.type "set",a],[]⟩) (wants Z E) s:=by
 refine codeAny_of_tree ?_;show aF _ A.in1 (do checkBuiltinCall "set.__new__" ⟨[.type "set",a],[]⟩; again (.builtin "set.__new__" ⟨[.type "set",a],[]⟩)) _ _ s;refine aD (wpAny_of_eq (F.newCall_set_1 a) (wpAny_pure ⟨bF F.plain_set_new _,ay F.entry_set_new ?_⟩));rw [Around.under_plainId F.plain_set_new _];unfold Builtin.«set.__new__» Builtin.Frozenset.newClass;have hs:=sub_set_self;unfold Y6 byT at h;obtain ⟨hp,g,d,tk,os⟩:=s;dsimp only
 wp_walk
 refine wpAny_askSetting (wpAny_pure ?_);dsimp only;simp only [newObj];refine aD (wpAny_alloc (wpAny_pure ?_));exact wpAny_pure h
theorem Q1n:isSubtype (.type "tuple") (.type "set")=pure yl:=by rw [bN]; kernel_rfl
theorem Q0q:isSubtype (.type "tuple") (.type "frozenset")=pure yl:=by rw [bN]; kernel_rfl
end
def Vu (w:aJ) (t:aV) (i:Nat):Nat:=if w.params.followText "set-order" = yo then 0 else if i=0 then 0 else t.place.getD (i - 1) 0 + 1
def Q6d (w:aJ) (a:aB) (ep:Nat) (es:Array (Int × aA)):Array (Int × aA):=if w.params.followText "set-order" = yo then pickOrder (w.params.setOrder a ep) es else es
theorem Q4x (w:aJ) (a:aB) (ep:Nat) (es:Array (Int × aA)):(Q6d w a ep es).toList.Perm es.toList:=by
 unfold Q6d
 split
 ·exact Qe0 _ _
 ·exact cM _
theorem Qe4 (w:aJ) (a:aB) (ep:Nat) (es:Array (Int × aA)):(Q6d w a ep es).size=es.size:=by
 have:=(Q4x w a ep es).length_eq;simpa using this
theorem Qbm {xs:Array Nat} (r:Rise xs) {i:Nat} (h:i < xs.size):SetTable.below xs (xs.getD i 0 + 1)=i + 1:=by
 obtain ⟨I,b⟩:=qy (j:=xs.getD i 0 + 1) r;have q:xs[i]?=zo (xs.getD i 0):=by rw [bh h]; simp [dR,h]
 have h1:i < SetTable.below xs (xs.getD i 0 + 1):=(b i _ q).mpr (by omega)
 by_cases z:SetTable.below xs (xs.getD i 0 + 1)=i + 1
 ·exact z
 ·have h2:i + 1 < xs.size:=by omega
  have e2:xs[i + 1]?=zo xs[i + 1]:=bh h2;have:=(b (i + 1) _ e2).mp (by omega);have:=r.lt q e2 (by omega);omega
theorem Qbk {xs:Array Nat} (r:Rise xs):SetTable.below xs 0=0:=by
 obtain ⟨q,b⟩:=qy (j:=0) r
 by_cases z:SetTable.below xs 0=0
 ·exact z
 ·have h2:0 < xs.size:=by omega
  have:=(b 0 _ (bh h2)).mp (by omega);omega
section
variable {prog:aK} {w:aJ} {A:aL} {E:aA->aC->Prop} {s:aC}
theorem Qh9 {a:aB} {es:Array (Int × aA)} {ep i:Nat} {t:aV} {Q:Option (aA × Nat)->aC->Prop} (x:RawS s.heap a es ep t) (j:t.fits es.size=yo) (g:Good (byT w) t) (hd:drw w es.size t=yl) (hi:i<=es.size)
  (h:Q (((Q6d w a ep es)[i]?).map fun e=>(e.2,Vu w t (i + 1))) s):aF (aI prog w) A (setNext a (Vu w t i) i ep) Q E s:=by
 have hp:t.place.size=es.size:=by
  simp only [SetTable.fits,E6,beq_iff_eq,decide_eq_true_eq] at j;exact j.1
 unfold setNext;refine aD (Ui x j ?_);dsimp only;refine aD (xm ?_);cases z:w.params.followText "set-order" with
 | true=>
  rw [bS rfl,bT (by simp)];refine aD ?_;unfold setWalk;refine aD (Ui x j ?_);dsimp only;refine aD (xm ?_);rw [z,bS rfl];refine aD (wpAny_askSetting (wpAny_pure (wpAny_pure ?_)));unfold Q6d Vu at h;rw [bS z,bS z] at h;unfold Vu;rw [bS z];exact h
 | false=>
  rw [bT D3];have I:(!t.plain && decide (es.size > 1))=yl:=by
   unfold drw at hd;rw [z] at hd;simpa using hd
  have J:t.led=yo:=by rw [g.2.2]; unfold byT; rw [z]; rfl
  unfold Q6d Vu at h;rw [z,bT D3,bT D3,bT (by omega),fO] at h;have O:SetTable.below t.place (Vu w t i)=i:=by
   unfold Vu;rw [z,bT D3]
   by_cases q:i=0
   ·rw [bS q,q]; exact Qbk g.1
   ·rw [bT q,Qbm g.1 (by omega)]; omega
  show aF _ _ (if (!t.plain && decide (es.size > 1))=yo then _ else _) _ _ _;rw [I,bT D3];show aF _ _ ((if (!t.led && !es.isEmpty)=yo then _ else _) >>= _) _ _ _;rw [J];simp only [cV,G7,E7,if_false];refine aD (wpAny_pure ?_);rw [O];refine wpAny_pure ?_
  by_cases q:i < es.size
  ·have e1:es[i]?=zo es[i]:=bh q;have e2:t.place[i]?=zo (t.place.getD i 0):=by rw [bh (by omega)]; simp [dR,hp,q]
   rw [e1] at h ⊢;rw [e2];exact h
  ·have e1:es[i]?=zb:=cb (by omega);rw [e1] at h ⊢;exact h
end
section
variable {prog:aK} {w:aJ} {A:aL} {E:aA->aC->Prop} {s:aC}
theorem Kr:Slot "set_iterator" "__iter__" "set_iterator.__iter__" :=
 .of (owner := "set_iterator") (n := "__iter__") (by rw [typeLookup_type,builtinLookup_eq_fast]; kernel_rfl) (by decide +kernel) (by decide +kernel) (by decide +kernel) (by first | exact .inl (by decide +kernel) | exact .inr (by decide +kernel)) (by rw [bN]; kernel_rfl)
theorem Q08:entryFor table "set_iterator.__iter__" = zo Builtin.«dict_keyiterator.__iter__»:=entryFor_alias (id' := "dict_keyiterator.__iter__") (by kernel_rfl) rfl (by decide +kernel) (by kernel_rfl)
theorem Q0y (a:aA):argsOk "set_iterator.__iter__" ⟨[a],[]⟩:=by
 unfold argsOk; rw [signature?_of (id := "set_iterator.__iter__") (n:=['_','_','r','e','t','i','_','_']) (o:=['r','o','t','a','r','e','t','i','_','t','e','s']) (by kernel_rfl) Q0e]; kernel_rfl
theorem Q68 {it d:aB} {f:aA} {i n ep:Nat} {Q:aA->aC->Prop} (j:SetIt s.heap it f i d n ep) (h:Q (.ref it) s):aF (aI prog w) A (pyIter (.ref it)) Q E s:=by
 refine wpAny_pyIter_slot j.typeIs Kr (af Kr j.typeIs Q08 ?_ (Q0y _));show aF _ _ (ret (.ref it)) _ _ s;exact wpAny_pure ⟨_,rfl, "set_iterator",_,j.typeIs,slot_setit_next.lookup,h⟩
def zu (w:aJ) (t:aV) (h:Heap) (ys:Option (aB × List Nat)) (i:Nat) (f:aA):Prop:=match ys with
 | none=>f=aU (Vu w t i)
 | some (tp,ys)=>f=.ref tp/\h.get? tp=zo { cls:=.type "tuple",data:=.seq (ys.map fun (i:Nat)=>aU i).toArray }
def Q49 (w:aJ) (a:aB) (ep:Nat) (es:Array (Int × aA)) (ys:Option (aB × List Nat)):List (Int × aA):=match ys with
 | none=>(Q6d w a ep es).toList
 | some (_,ys)=>ys.filterMap fun i=>es[i]?
theorem xq {w:aJ} {a:aB} {ep:Nat} {es:Array (Int × aA)} {ys:Option (aB × List Nat)} (h:∀ tp l,ys=zo (tp,l)->l.Perm (bX es.size)):(Q49 w a ep es ys).Perm es.toList:=by
 unfold Q49;cases ys with
 | none=>exact Q4x _ _ _ _
 | some q=>
  obtain ⟨tp,l⟩:=q;refine ((h tp l rfl).filterMap _).trans ?_;rw [filterMap_getElem?_range]
theorem Qmc {w:aJ} {a:aB} {ep:Nat} {es:Array (Int × aA)} {tp:aB} {l:List Nat} (h:l.Perm (bX es.size)) (i:Nat):(Q49 w a ep es (zo (tp,l)))[i]?=(l[i]?).bind fun j=>es[j]?:=by
 have I:∀ j∈l,j < es.size:=fun j q=>by have:=h.mem_iff.mp q; simpa using this
 show (l.filterMap fun i=>es[i]?)[i]?=_;clear h
 induction l generalizing i with
 | nil=>rfl
 | cons x l J=>
  have z:=I x (by simp);rw [List.filterMap_cons_some (b:=es[x]) (bh z)];cases i with
  | zero=>simp [bh z]
  | succ i=>simpa using J i (fun j q=>I j (O4 _ q))
theorem Qfv {it a:aB} {es:Array (Int × aA)} {ep i:Nat} {t:aV} {ys:Option (aB × List Nat)} {f v:aA} {e:Int} {Q:Option aA->aC->Prop} (a1:a≠it) (O:SetIt s.heap it f i a es.size ep) (x:RawS s.heap a es ep t) (hf:t.fits es.size=yo) (g:Good (byT w) t)
  (hy:zu w t s.heap ys i f) (hn:ys=zb->drw w es.size t=yl) (hp:∀ tp l,ys=zo (tp,l)->l.Perm (bX es.size)/\tp≠it) (I:(Q49 w a ep es ys)[i]?=zo (e,v))
  (hQ:∀ f' h',SetIt h' it f' (i + 1) a es.size ep->zu w t h' ys (i + 1) f'->Heap.SameBut it s.heap h'->Q (zo v) { s with heap:=h' }):aF (aI prog w) A (ag (.ref it)) Q E s:=by
 have hT:=O.typeIs;unfold ag;refine aD (wpAny_attempt (wpAny_callSpecial?_slot (name:=cP "__next__") hT slot_setit_next (af slot_setit_next hT K4 ?_ (Kx _))));unfold Builtin.«set_iterator.__next__» slotArgs;show aF _ _ (fieldsOf (.ref it) >>= _) _ _ _;refine aD (wpAny_fieldsOf O rfl ?_);show aF _ _ (setEntries a >>= _) _ _ _;refine aD (Q28 x hf ?_);rw [bT (by simp)];cases ys with
 | none=>
  cases hy;show aF _ _ (setNext a (Vu w t i:Int).toNat (i:Int).toNat (ep:Int).toNat >>= _) _ _ _;rw [bo,bo,bo];have hi:i < es.size:=by
   obtain ⟨q,_⟩:=O0.mp I;have:=(xq (w:=w) (a:=a) (ep:=ep) (es:=es) (ys:=zb) (fun _ _ z=>nomatch z)).length_eq;rw [this] at q; simpa using q
  refine aD (Qh9 x hf g (hn rfl) (by omega) ?_);have e0:(Q6d w a ep es)[i]?=zo (e,v):=by rw [<- be]; exact I
  rw [e0];show aF _ _ (setField (.ref it) 0 (aU (Vu w t (i + 1))) >>= _) _ _ _;refine aD (bO O (by simp) fun h1 o1 J=>?_)
  refine aD (bO (s:={ s with heap:=h1 }) o1 (by simp) fun h2 o2 Z=>?_)
  exact wpAny_pure ⟨_,rfl,wpAny_pure (hQ _ h2 o2 rfl (J.trans Z))⟩
 | some q=>
  obtain ⟨tp,l⟩:=q;obtain ⟨rfl,ht⟩:=hy;obtain ⟨hl,Y⟩:=hp tp l rfl;rw [Qmc hl] at I;cases zl:l[i]? with
  | none=>rw [zl] at I; cases I
  | some j=>
   rw [zl] at I;have I:es[j]?=zo (e,v):=I;show aF _ _ (seqItems? (.ref tp) >>= _) _ _ _;refine aD (bA ht rfl ?_);show aF _ _ (match ((l.map fun (i:Nat)=>aU i).toArray)[(i:Int).toNat]? with | some (.int place _)=>_ | some _=>_ | none=>_) _ _ _
   rw [bo,gu,D7,zl];show aF _ _ (setNextDrawn a (j:Int).toNat (ep:Int).toNat >>= _) _ _ _;rw [bo,bo];refine aD ?_;unfold setNextDrawn;refine aD (Ui x hf ?_);dsimp only;rw [bT (by simp),I];refine wpAny_pure ?_;refine aD (bO O (by simp) fun h1 o1 J=>?_)
   exact wpAny_pure ⟨_,rfl,wpAny_pure (hQ _ h1 o1 ⟨rfl,(J.2 tp Y).trans ht⟩ J)⟩
theorem Q4q {it:aB} {Q:Option aA->aC->Prop} (z:A.handled=zb) {j:Heap} (k:Heap.ExtBut it s.heap j) (q:∀ h',Heap.ExtBut it s.heap h'->Q zb { s with heap:=h' }) :
  aF (aI prog w) A.in1 (newExc (.type "StopIteration") [] >>= fun e=>bR e) (fun (fin:Fin) s'=>∃ v,fin=.done (.ret v)/\aF (aI prog w) A (pure (zo v)) Q E s') (fun e s'=>aF (aI prog w) A (do if <- isInstance e (.type "StopIteration") then pure zb else throw e) Q E s') { s with heap:=j }:=by
 refine aD ?_;simp only [newExc,newTuple];refine aD (aq ?_ (by size_fits));refine aD (m:=firstArgMember _ _) (wpAny_of_eq (a:=bZ) (by first | rfl | (simp only [firstArgMember]; rfl)) ?_);refine aq ?_ (by size_fits);simp only [bR];refine aD (wpAny_handled ?_);rw [show A.in1.handled=zb from z];refine aD (wpAny_pure (wpAny_throw ?_));refine aD (bK (T := "StopIteration") (b:=yo) ⟨_,D1 _ rfl,rfl⟩ isSubtype_stop ?_);exact wpAny_pure (q _ ((k.push _).push _))
theorem Qk6 {it a:aB} {es:Array (Int × aA)} {ep:Nat} {t:aV} {ys:Option (aB × List Nat)} {f:aA} {Q:Option aA->aC->Prop} (O:A.handled=zb) (j:SetIt s.heap it f es.size a es.size ep) (x:RawS s.heap a es ep t) (Y:t.fits es.size=yo) (g:Good (byT w) t)
  (Z:zu w t s.heap ys es.size f) (hn:ys=zb->drw w es.size t=yl) (hp:∀ tp l,ys=zo (tp,l)->l.Perm (bX es.size)/\tp≠it)
  (J:∀ h',Heap.ExtBut it s.heap h'->Q zb { s with heap:=h' }):aF (aI prog w) A (ag (.ref it)) Q E s:=by
 have hT:=j.typeIs;unfold ag;refine aD (wpAny_attempt (wpAny_callSpecial?_slot (name:=cP "__next__") hT slot_setit_next (af slot_setit_next hT K4 ?_ (Kx _))));unfold Builtin.«set_iterator.__next__» slotArgs;show aF _ _ (fieldsOf (.ref it) >>= _) _ _ _;refine aD (wpAny_fieldsOf j rfl ?_);show aF _ _ (setEntries a >>= _) _ _ _;refine aD (Q28 x Y ?_);rw [bT (by simp)];cases ys with
 | none=>
  cases Z;show aF _ _ (setNext a (Vu w t es.size:Int).toNat (es.size:Int).toNat (ep:Int).toNat >>= _) _ _ _;rw [bo,bo,bo];refine aD (Qh9 x Y g (hn rfl) (O5 _) ?_);have e0:(Q6d w a ep es)[es.size]?=zb:=cb (by rw [Qe4]; exact O5 _);rw [e0];show aF _ _ (setField (.ref it) 2 .none >>= _) _ _ _;refine aD (bO j (by simp) fun h1 o1 z=>?_)
  exact Q4q (s:=s) O z.extBut J
 | some q=>
  obtain ⟨tp,l⟩:=q;obtain ⟨rfl,ht⟩:=Z;obtain ⟨hl,a1⟩:=hp tp l rfl;have hz:l[es.size]?=zb:=cz (by rw [hl.length_eq,F3]; exact O5 _);show aF _ _ (seqItems? (.ref tp) >>= _) _ _ _;refine aD (bA ht rfl ?_);show aF _ _ (match ((l.map fun (i:Nat)=>aU i).toArray)[(es.size:Int).toNat]? with | some (.int place _)=>_ | some _=>_ | none=>_) _ _ _
  rw [bo,gu,D7,hz];show aF _ _ (setField (.ref it) 0 (aU 0) >>= _) _ _ _;refine aD (bO j (by simp) fun h1 o1 z=>?_)
  refine aD (bO (s:={ s with heap:=h1 }) o1 (by simp) fun h2 o2 I=>?_)
  exact Q4q (s:=s) O (z.trans I).extBut J
def Q77 (it a:aB) (ys:Option (aB × List Nat)):List aB:=match ys with
 | none=>[it,a]
 | some (tp,_)=>[it,a,tp]
theorem Qdc {it a:aB} {es:Array (Int × aA)} {ep:Nat} {t:aV} {ys:Option (aB × List Nat)} (hh:A.handled=zb) (O:a≠it) (hf:t.fits es.size=yo) (g:Good (byT w) t) (hn:ys=zb->drw w es.size t=yl) (hp:∀ tp l,ys=zo (tp,l)->l.Perm (bX es.size)/\tp≠it) :
  Walks prog w A it (Q77 it a ys) [it] es.size (fun i v=>∃ e,(Q49 w a ep es ys)[i]?=zo e/\v=e.2) (fun i h=>RawS h a es ep t/\∃ f,SetIt h it f i a es.size ep/\zu w t h ys i f) where
 sub:=fun b J=>by
  have:b=it:=by simpa using J
  subst this;unfold Q77;cases ys <;> simp
 frame:=fun i h h' st Y=>by
  obtain ⟨x,f,h1,h2⟩:=st;have m1:it∈Q77 it a ys:=by unfold Q77; cases ys <;> simp
  have m2:a∈Q77 it a ys:=by unfold Q77; cases ys <;> simp
  refine ⟨x.at fun o e=>Y a m2 o e,f,h1.at fun o e=>Y it m1 o e,?_⟩;cases ys with
  | none=>exact h2
  | some q=>exact ⟨h2.1,Y q.1 (by unfold Q77; simp) _ h2.2⟩
 item:=fun i s Q E hi st j=>by
  obtain ⟨x,f,h1,h2⟩:=st;have hl:(Q49 w a ep es ys).length=es.size:=by
   have:=(xq (w:=w) (a:=a) (ep:=ep) (es:=es) (ys:=ys) fun tp l z=>(hp tp l z).1).length_eq
   simpa using this
  have I:i < (Q49 w a ep es ys).length:=by omega
  refine Qfv O h1 x hf g h2 hn hp (e:=(Q49 w a ep es ys)[i].1) (v:=(Q49 w a ep es ys)[i].2) (O2 I) fun f' h' i1 i2 Z=>?_
  exact j _ h' s.toks ⟨_,O2 I,rfl⟩ ⟨x.at fun o e=>(Z.2 a O).trans e,f',i1,i2⟩ fun b o J e=>Z.extBut b o (fun z=>J (by simp [z])) e
 done:=fun s Q E st j=>by
  obtain ⟨x,f,h1,h2⟩:=st;exact Qk6 hh h1 x hf g h2 hn hp fun h' k=>j h' s.toks fun b o J e=>k b o (fun z=>J (by simp [z])) e
 self:=fun i s Q E st j=>by
  obtain ⟨x,f,h1,h2⟩:=st;exact Q68 h1 j
theorem Qi9 {r:aB} {Q:Bool->aC->Prop} (q:s.TypeIs (.ref r) "set") (h:Q yl s):aF (aI prog w) A (Builtin.List.listLengthHint (.ref r)) Q E s:=by
 unfold Builtin.List.listLengthHint;refine aD (wpAny_specialOf q PySem.F.slot_set_len.lookup ?_);generalize hid:("set.__len__" : String)=j
 wp_delta
 rw [show splitId j=zo ("set", "__len__") from by subst hid; decide +kernel];subst hid;refine aD (bK (T := "set") (b:=yo) q (by rw [bN]; kernel_rfl) ?_);refine az (fun z=>absurd z (by decide)) (fun _=>?_)
 refine az (fun _=>?_) (fun z=>absurd (by decide +kernel) z)
 exact aD (bC q (wpAny_pure h))
end
section
variable {prog:aK} {w:aJ} {A:aL} {E:aA->aC->Prop} {s:aC}
theorem Qnj {R:Result->aC->Prop} {r:aB} {es:Array (Int × aA)} {ep:Nat} {t:aV} (hh:A.handled=zb) (x:RawS s.heap r es ep t) (hf:t.fits es.size=yo) (g:Good (byT w) t) (S:aB) (a1:S≠r) (res:aA) (a6:Nat) (hS:s.heap.get? S=zo { cls:=.type "list",data:=.seq #[] a6 })
  (hR:∀ h' d' tk (acc:Array aA) c',acc.toList.Perm (es.toList.map (·.2))->(∀ b o,b≠S->s.heap.get? b=zo o->h'.get? b=zo o)->h'.get? S=zo { cls:=.type "list",dict:=zb,data:=.seq acc c',slots:=#[] }->R (.ok (.ret res)) { s with heap:=h',drawn:=d',toks:=tk }) (hn:es.size<=sizeLine) :
  aF (aI prog w) A.in1 (Builtin.List.listExtendWith (.ref S) (.ref r) res)
   (fun fin s'=>match fin with | .done f=>R (.ok f) s' | .again c'=>c'.quiet=yo/\codeAny (aI prog w) A c' R s') (fun e s'=>R (.error e) s') s:=by
 have a2:=D0 hS;have a9:∀ (ys:Option (aB × List Nat)) (I:aB) (h:Heap) (d':Drawn) (J tk:Nat),s.heap.objs.size<=I->(ys=zb->drw w es.size t=yl)->(∀ tp l,ys=zo (tp,l)->l.Perm (bX es.size)/\tp≠I/\s.heap.objs.size<=tp) ->
   RawS h r es ep t->(∃ f,SetIt h I f 0 r es.size ep/\zu w t h ys 0 f)->(∀ b o,b≠S->s.heap.get? b=zo o->h.get? b=zo o) ->
   h.get? S=zo { cls:=.type "list",data:=.seq #[] J }->codeAny (aI prog w) A (.builtin "list.extend.loop" ⟨[.ref S,.ref I,res],[]⟩) R { s with heap:=h,drawn:=d',toks:=tk }:=by
  intro ys I h d' J tk hI a4 j hx Z hk a7;have a8:S≠I:=D8 (O9 a2 hI);have b0:r≠I:=D8 (O9 x.lt hI);have W:=Qdc (prog:=prog) (A:=A.in1) (it:=I) (a:=r) (es:=es) (ep:=ep) (t:=t) (ys:=ys) (by simpa using hh) b0 hf g a4 fun tp l z=>⟨(j tp l z).1,(j tp l z).2.1⟩
  have b2:S∉Q77 I r ys:=by
   unfold Q77;cases ys with
   | none=>simp only [D6,eJ,or_false,not_or]; exact ⟨a8,a1⟩
   | some q=>simp only [D6,eJ,or_false,not_or]; exact ⟨a8,a1,D8 (O9 a2 (j q.1 q.2 rfl).2.2)⟩
  refine codeAny_extend_loopS W.toS hn S b2 res es.size 0 _ #[] J rfl (F6 _) ⟨hx,Z⟩ a7 (ItemsOf.nil _) fun s' acc c' hm b1 Y=>?_
  rw [Moved.eq_with hm];have pm:=xq (w:=w) (a:=r) (ep:=ep) (es:=es) (ys:=ys) fun tp l z=>(j tp l z).1
  have hl:=pm.length_eq;simp only [bc] at hl;have e:acc.toList=(Q49 w r ep es ys).map (·.2):=by
   apply ce;intro i
   by_cases z:i < es.size
   ·have hi:i < acc.size:=by rw [Y.1]; exact z
    obtain ⟨e,h1,h2⟩:=Y.2 i acc[i] (bh hi);rw [be,bh hi,h2,D7,h1]; rfl
   ·rw [be,cb (by rw [Y.1]; omega),D7,cz (by omega)]; rfl
  refine hR s'.heap d' s'.toks acc c' (by rw [e]; exact pm.map _) (fun b o hb q=>hm.heap b o (fun O=>?_) (hk b o hb q)) b1
  rcases D6.mp O with z | O
  ·exact hb z
  ·have:=D0 q;rw [List.mem_singleton.mp O] at this;exact absurd (O9 this hI) (L0 _)
 have a5:∀ (bf:Bool->Bool) (ys:Option (aB × List Nat)) (I:aB) (h:Heap) (d':Drawn),s.heap.objs.size<=I->(ys=zb->drw w es.size t=yl)->(∀ tp l,ys=zo (tp,l)->l.Perm (bX es.size)/\tp≠I/\s.heap.objs.size<=tp) ->
   RawS h r es ep t->(∃ f,SetIt h I f 0 r es.size ep/\zu w t h ys 0 f)->(∀ b o,s.heap.get? b=zo o->h.get? b=zo o) ->
   aF (aI prog w) A.in1 (do
     let room <- ar [.ref I] (Builtin.List.listLengthHint (.ref r))
     if bf room then
      rule "list.extend.makes-room"
      Builtin.List.listTouch (.ref S)
     again (.builtin "list.extend.loop" ⟨[.ref S,.ref I,res],[]⟩))
    (fun fin s'=>match fin with | .done f=>R (.ok f) s' | .again c'=>c'.quiet=yo/\codeAny (aI prog w) A c' R s') (fun e s'=>R (.error e) s') { s with heap:=h,drawn:=d' }:=by
  intro bf ys I h d' hI a4 j hx Z hk;refine aD (ae (Qi9 (s:={ s with heap:=h,drawn:=d' }) hx.typeIs ?_));refine az (fun _=>?_) (fun _=>wpAny_pure ⟨bF gv _,a9 ys I h d' a6 s.toks hI a4 j hx Z (fun b o _ q=>hk b o q) (hk _ _ hS)⟩);refine aD (bP (aD ?_));show aF _ _ (updateSeq S (·.push .none) >>= fun _=>updateSeq S (·.pop)) _ _ _
  have s1:=hk _ _ hS;refine aD (wpAny_updateSeq (s:={ s with heap:=h,drawn:=d' }) s1 rfl ?_);have s2:=G8 (bp (·.push bZ)) s1 rfl;refine wpAny_updateSeq (hz:=by seq_fits) s2 rfl ?_;have s3:=G8 (bp (·.pop)) s2 rfl;have a3:∀ b o,b≠S->h.get? b=zo o->((h.update S (bp (·.push bZ))).update S (bp (·.pop))).get? b=zo o:=fun b o hb q=>(F5 _ _ (Ne.symm hb)).trans ((F5 _ _ (Ne.symm hb)).trans q)
  have nI:I≠S:=cE (O9 a2 hI);refine wpAny_pure ⟨bF gv _,a9 ys I _ d' _ s.toks hI a4 j (hx.at fun o q=>a3 r o (Ne.symm a1) q) ?_ (fun b o hb q=>a3 b o hb (hk b o q)) s3⟩;obtain ⟨f,i1,i2⟩:=Z;refine ⟨f,i1.at fun o q=>a3 I o nI q,?_⟩;cases ys with
  | none=>exact i2
  | some q=>exact ⟨i2.1,a3 q.1 _ (cE (O9 a2 (j q.1 q.2 rfl).2.2)) i2.2⟩
 unfold Builtin.List.listExtendWith;refine aD (bC (T := "set") x.typeIs ?_);have h1:Builtin.List.listSameRef (.ref S) (.ref r)=yl:=by simp [Builtin.List.listSameRef,a1]
 have e1:(bi "set" == bi "list")=yl:=by decide
 have e2:(bi "set" == bi "tuple")=yl:=by decide
 simp only [h1,e1,e2,dH,E7,if_false];refine aD (Qfu x hf hn (fun z=>?_) fun z ys d' hp=>?_)
 ·exact a5 _ zb s.heap.objs.size (s.heap.push { cls:=.type "set_iterator",data:=.fields #[aU 0,aU 0,.ref r,aU es.size,aU ep] }) s.drawn (O5 _) (fun _=>z) (fun _ _ q=>nomatch q) (x.at fun o q=>O3 _ q) ⟨_,D1 _ rfl,by unfold zu Vu; simp⟩ (fun b o q=>O3 _ q)
 ·have hz:s.heap.objs.size + 1=(s.heap.push { cls:=.type "tuple",data:=.seq (ys.map fun (i:Nat)=>aU i).toArray }).objs.size:=(F7 _ _).symm
  exact a5 _ (zo (s.heap.objs.size,ys)) (s.heap.objs.size + 1) ((s.heap.push { cls:=.type "tuple",data:=.seq (ys.map fun (i:Nat)=>aU i).toArray }).push { cls:=.type "set_iterator",data:=.fields #[.ref s.heap.objs.size,aU 0,.ref r,aU es.size,aU ep] }) d' (dN _) (fun q=>nomatch q)
   (fun tp l q=>by cases q; exact ⟨hp,D8 (dM _),O5 _⟩) (x.at fun o q=>O3 _ (O3 _ q)) ⟨.ref s.heap.objs.size,by rw [hz]; exact D1 _ rfl,rfl,O3 _ (D1 _ rfl)⟩ (fun b o q=>O3 _ (O3 _ q))
theorem Q9m {d:aB} {es:Array (Int × aA)} {ep:Nat} {t:aV} {Q:List aA->aC->Prop} (O:A.handled=zb) (x:RawS s.heap d es ep t) (Y:t.fits es.size=yo) (g:Good (byT w) t) (Z:es.size<=sizeLine)
  (h:∀ vs h' d' tk,vs.Perm (es.toList.map (·.2))->(∀ b o,s.heap.get? b=zo o->h'.get? b=zo o)->s.heap.objs.size<=h'.objs.size->Q vs { s with heap:=h',drawn:=d',toks:=tk }):aF (aI prog w) A (collect (.ref d)) Q E s:=by
 unfold collect;refine aD (wpAny_runValue (ay gi ?_));rw [Around.under_plainId gj _];show aF _ A.in1 (newList [] >>= fun l=>again (.builtin "list.__iadd__" ⟨[l,.ref d],[]⟩)) _ _ s
 refine aD (aq ?_);refine wpAny_pure ⟨bF eE _,ay gk ?_⟩;rw [Around.under_plainId eE _];have hS:(s.heap.push { cls:=.type "list",data:=.seq ([]:List aA).toArray }).get? s.heap.objs.size=zo { cls:=.type "list",data:=.seq ([]:List aA).toArray }:=D1 _ rfl;have j:∀ b o,s.heap.get? b=zo o->(s.heap.push { cls:=.type "list",data:=.seq ([]:List aA).toArray }).get? b=zo o:=fun b o e=>O3 _ e
 have I:s.heap.objs.size≠d:=cE x.lt;show aF _ A.in1 (Builtin.List.listExtendWith (.ref s.heap.objs.size) (.ref d) (.ref s.heap.objs.size)) _ _ _;refine Qnj (prog:=prog) (w:=w) (A:=A) (R:=fun r s'=>match r with | .ok (.ret v)=>aF (aI prog w) A (match v with | .ref a=>do { let o <- load a; match o.data with | .seq xs _=>pure xs.toList | _=>unsupported "internal:collect" } | _=>unsupported "internal:collect") Q E s' | .ok _=>False | .error e=>E e s') (s:={ s with heap:=s.heap.push { cls:=.type "list",data:=.seq ([]:List aA).toArray } }) O (x.at fun o e=>j d o e) Y g s.heap.objs.size I _ _ hS (fun h' d' tk acc c pm J z=>?_) Z
 show aF _ A (load s.heap.objs.size >>= _) _ _ _;refine aD (wpAny_load z ?_);exact wpAny_pure (h _ h' d' tk pm (fun b o q=>J b o (D8 (D0 q)) (j b o q)) (cr (D0 z)))
end
theorem Inv.redraw {X:Cx} {pins:List (aB × Obj)} {σ:List (Option V)} {H:Hp} {s:aC} (I:Inv X pins σ H s) (d':Drawn):Inv X pins σ H { s with drawn:=d' }:=⟨I.ok,I.os,I.bare,I.base,I.loc,I.cell,I.free,I.freeC,I.pin,I.hok,I.len⟩
section
variable {X:Cx}
end
section
variable {prog:aK} {w:aJ} {A:aL} {E:aA->aC->Prop} {s:aC}
end
section
variable {X:Cx}
end
end L2
namespace L2
open PySem PySem.Spec PyProof.Rows SeqAt
section
variable {prog:aK} {w:aJ} {K:Type} [DecidableEq K] {knd:KeyKind prog w K} {A:aL} {E:aA->aC->Prop} {s:aC}
end
section
variable {prog:aK} {w:aJ} {K:Type} [DecidableEq K] {knd:KeyKind prog w K} {A:aL} {E:aA->aC->Prop} {s:aC}
end
section
variable {X:Cx}
end
end L2
namespace L2
open PySem PySem.Spec PyProof.Rows SeqAt
section
variable {X:Cx}
end
end L2
namespace L2
open PySem PySem.Spec PyProof.Rows
section
variable {X:Cx} {tg:aH}
theorem Qe5:OpR X (aS .LtE) (fun x y H Q=>∃ i j,x=.str i/\y=.str j/\Q (.bl (!decide (j.cps.toList < i.cps.toList))) H):=by
 intro pins s σ H x y v u Q I J z h;obtain ⟨i,j,rfl,rfl,q⟩:=h;obtain ⟨t,rfl⟩:=J;obtain ⟨t',rfl⟩:=z;exact PySem.P.le_str (Q3j I q rfl)
def Qt1 (x:Str):It:=⟨fun i _=>i < x.cps.size,fun i H v H'=>H'=H/\∃ c,x.cps[i]?=zo c/\v=.str ⟨#[c]⟩,fun i _=>x.cps.size<=i⟩
theorem Q4k {prog:aK} {w:aJ} {A:aL} (h:A.handled=zb) (I:aB) (x:Str) (t:Tok):Walks prog w A I [I] [I] x.cps.size (SignAt x) fun i h=>h.IsStrIter I (strIterType x) x t i:=by
 unfold strIterType
 split
 ·exact Walks.strAscii h I x t
 ·exact Walks.strWide h I x t
theorem Q55 (x:Str):strIterType x = "str_ascii_iterator" \/ strIterType x = "str_iterator" := by
 unfold strIterType
 split
 ·exact .inl rfl
 ·exact .inr rfl
theorem Qfc {P:aK} {w:aJ} {K:bW} {tg:aH} (x:Str) (t:Tok) (it:aB):Turn P w K tg (Qt1 x) [it] it (fun i h=>h.IsStrIter it (strIterType x) x t i/\i<=x.cps.size) where
 mem:=by simp
 obj:=fun i h st b j=>by
  have e:b=it:=by simpa using j
  subst e;obtain ⟨o,e,c,d⟩:=st.1;exact ⟨o,e,fun v z=>by rw [d] at z; cases z⟩
 keep:=fun i h h' st k=>by
  obtain ⟨⟨o,e,c,d⟩,hi⟩:=st;exact ⟨⟨o,k it (by simp) o e,c,d⟩,hi⟩
 item:=by
  intro X Y hw Z hc i pins s σ H E I J st O;subst Y hw Z;obtain ⟨f0,f1,f2,f3,f4,f5⟩:=J it (by simp);have W:=Q4k (prog:=X.prog) (w:=X.w) (I.ok.hd hc) it x t;refine W.item i s _ _ O st.1 fun v h' tk hv st' kk=>?_
  obtain ⟨c,u,a1,rfl⟩:=hv;have I1:Inv X pins σ H { s with heap:=h',toks:=tk }:=I.turned (fun b o j e=>kk b o (by simpa using j) e) f0 f1 f3 f4 f5
  obtain ⟨o,e1,e2,e3⟩:=st';refine ⟨_,rfl,Qcx (s:={ s with heap:=h',toks:=tk }) (n:=strIterType x) e1 e2 e3 ?_ ⟨.str ⟨#[c]⟩,H,I1,⟨u,rfl⟩,⟨rfl,c,a1,rfl⟩,⟨⟨o,e1,e2,e3⟩,O⟩,fun b j=>(J b j).1⟩⟩
  rcases Q55 x with q | q <;> rw [q] <;> decide
 done:=by
  intro X Y hw Z hc i pins s σ H E I J st O;subst Y hw Z;obtain ⟨f0,f1,f2,f3,f4,f5⟩:=J it (by simp);have W:=Q4k (prog:=X.prog) (w:=X.w) (I.ok.hd hc) it x t;have e:i=x.cps.size:=Nat.le_antisymm st.2 O;subst e;exact W.done s _ _ st.1 fun h' tk kk=>⟨rfl,I.turned (fun b o j e=>kk b o (by simpa using j) e) f0 f1 f3 f4 f5⟩
 self:=fun A i s Q E st h=>by
  obtain ⟨st,_⟩:=st;revert st;rcases Q55 x with q | q <;> rw [q] <;> intro st
  ·exact wpAny_pyIter_striter_ascii st h
  ·exact wpAny_pyIter_striter_wide st h
def Qy3 (tl:TE):TI:=fun σ H R=>tl σ H fun v H1=>∃ x,v=.str x/\R (Qt1 x) H1
theorem Qqz {l:aH} {tl:TE} (J:PE X l tl):PI X tg l (Qy3 tl):=by
 intro pins s σ H R I h;refine thn (J pins s σ H _ I h) fun v s1 ⟨z,H1,j,O,q1⟩=>?_
 obtain ⟨x,e,q⟩:=q1;subst e;obtain ⟨t,rfl⟩:=O;refine wpAny_pyIter_strU ?_;refine ⟨s1.heap.objs.size,[s1.heap.objs.size],_,_,H1,rfl,j.kept (t':=s1.toks) fun b o e=>O3 _ e,Qfc x t _,⟨⟨_,D1 _ rfl,rfl,rfl⟩,F6 _⟩,fun b Y=>?_,q⟩
 have e:b=s1.heap.objs.size:=by simpa using Y
 subst e;exact j.fpOk (O5 _) (j.hok.fresh (O5 _))
theorem Qc1:∀ {ss:List Str} {j:List aA},Vals (ss.map V.str) j->∃ l:List (Str × Tok),j=strValues l/\l.map (·.1)=ss
 | [],_,.nil=>⟨[],rfl,rfl⟩
 | s :: ss,_,.cons r t=>by
  obtain ⟨l,e1,e2⟩:=Qc1 t;obtain ⟨tk,rfl⟩:=r;exact ⟨(s,tk) :: l,by rw [e1]; rfl,by rw [D2,e2]⟩
theorem Qmk:MtR X "str.join" (fun x vs H Q=>∃ j p ss,x=.str j/\vs=[.ref p]/\SqL X.K H p (ss.map V.str)/\JoinOk j ss=yo/\Q (.str (Txt.join j ss)) H):=by
 intro pins s σ H x vs v Z Q I J z h;obtain ⟨j,p,ss,rfl,rfl,O,hz,q⟩:=h;obtain ⟨t,rfl⟩:=J;obtain ⟨u,rfl,ru⟩:=z.one;cases ru;obtain ⟨its,Y,pl,_⟩:=I.list O;obtain ⟨l,e1,e2⟩:=Qc1 Y;subst e1;exact SC.join pl.isList e2 hz fun t' k=>⟨.str _,H,I.tok _,⟨_,rfl⟩,q⟩
end
def zt (M:Nat) (p:SetTable.Probe):SetTable.Probe:=
 if p.more > 0 then { j:=p.j + 1,more:=p.more - 1,i:=p.i,perturb:=p.perturb,dummy:=p.dummy }
 else { j:=(SetTable.leap M p.i p.perturb).1,more:=SetTable.runEnd M (SetTable.leap M p.i p.perturb).1 - (SetTable.leap M p.i p.perturb).1,i:=(SetTable.leap M p.i p.perturb).1,perturb:=(SetTable.leap M p.i p.perturb).2,dummy:=p.dummy }
theorem Q3z (t:aV) (p:SetTable.Probe):t.advance p=zt t.mask p:=by
 unfold SetTable.advance zt
 split <;> rfl
def Qic (M:Nat) (q:Nat × Nat):SetTable.Probe:={ j:=q.1,more:=SetTable.runEnd M q.1 - q.1,i:=q.1,perturb:=q.2,dummy:=zb }
def lpP (M:Nat) (h:Int):Nat->Nat × Nat
 | 0=>(SetTable.bits h % (M + 1),SetTable.bits h)
 | m + 1=>SetTable.leap M (lpP M h m).1 (lpP M h m).2
def pth (M:Nat) (h:Int):Nat->SetTable.Probe
 | 0=>Qic M (lpP M h 0)
 | n + 1=>zt M (pth M h n)
def J5 (M:Nat) (h:Int) (n:Nat):Nat:=(pth M h n).j
theorem Q4v (M:Nat) (h:Int):∀ n,(pth M h n).dummy=zb
 | 0=>rfl
 | n + 1=>by
  have:=Q4v M h n;show (zt M (pth M h n)).dummy=zb;unfold zt
  split <;> exact this
theorem Qcr (M i p:Nat):(SetTable.leap M i p).1<=M:=by
 show (i * 5 + 1 + p / 32) % (M + 1)<=M;exact eK (eH _ (gw _))
theorem Q6r (M:Nat) (h:Int):∀ m,(lpP M h m).1<=M
 | 0=>eK (eH _ (gw _))
 | m + 1=>Qcr _ _ _
theorem j9 {M i:Nat} (h:i<=M):SetTable.runEnd M i<=M/\i<=SetTable.runEnd M i/\SetTable.runEnd M i<=i + 9:=by
 unfold SetTable.runEnd
 split <;> omega
theorem Qg7 (M:Nat) (h:Int):∀ n,(pth M h n).j + (pth M h n).more<=M
 | 0=>by
  have:=j9 (Q6r M h 0);show (lpP M h 0).1 + (SetTable.runEnd M (lpP M h 0).1 - (lpP M h 0).1)<=M;omega
 | n + 1=>by
  have q:=Qg7 M h n;show (zt M (pth M h n)).j + (zt M (pth M h n)).more<=M;unfold zt
  split
  ·dsimp only; omega
  ·dsimp only;have:=j9 (Qcr M (pth M h n).i (pth M h n).perturb);omega
theorem Qkv (M:Nat) (h:Int) (n:Nat):J5 M h n<=M:=by
 have:=Qg7 M h n;unfold J5; omega
theorem Q6a {M:Nat} {h:Int} {n:Nat} {q:Nat × Nat} (e:pth M h n=Qic M q):∀ k,k<=SetTable.runEnd M q.1 - q.1->pth M h (n + k)={ j:=q.1 + k,more:=SetTable.runEnd M q.1 - q.1 - k,i:=q.1,perturb:=q.2,dummy:=zb }
 | 0,_=>e
 | k + 1,z=>by
  show zt M (pth M h (n + k))=_;rw [Q6a e k (by omega)];unfold zt;dsimp only;rw [bS (by omega)];congr 1
theorem Qca (M:Nat) (h:Int):∀ m,∃ n,n<=10 * m/\pth M h n=Qic M (lpP M h m)
 | 0=>⟨0,by omega,rfl⟩
 | m + 1=>by
  obtain ⟨n,j,e⟩:=Qca M h m;have b:=j9 (Q6r M h m);refine ⟨n + (SetTable.runEnd M (lpP M h m).1 - (lpP M h m).1) + 1,by omega,?_⟩;show zt M (pth M h (n + _))=_;rw [Q6a e _ (O5 _)];unfold zt;dsimp only;rw [bT (by omega)];rfl
def itF (M:Nat):Nat->Nat->Nat
 | 0,i=>i
 | n + 1,i=>itF M n ((i * 5 + 1) % (M + 1))
theorem yy (M:Nat):∀ a b i,itF M (a + b) i=itF M b (itF M a i)
 | 0,b,i=>by rw [gy]; rfl
 | a + 1,b,i=>by rw [Nat.succ_add]; exact yy M a b _
def orb (M:Nat):Nat->Nat->List Nat
 | 0,_=>[]
 | k + 1,i=>i :: orb M k ((i * 5 + 1) % (M + 1))
theorem Q6e {M:Nat}:∀ {k i j:Nat},j∈orb M k i->∃ n,n < k/\itF M n i=j
 | k + 1,i,j,h=>by
  rcases D6.mp h with rfl | h
  ·exact ⟨0,by omega,rfl⟩
  ·obtain ⟨n,q,e⟩:=Q6e h;exact ⟨n + 1,by omega,e⟩
def HM (M:Nat):Prop:=M=7\/M=31\/M=127
theorem Qmd {M:Nat} (q:HM M):(∀ j,j < M + 1->j∈orb M (M + 1) 0)/\itF M (M + 1) 0=0:=by
 rcases q with rfl | rfl | rfl
 ·exact ⟨by decide +kernel,by decide +kernel⟩
 ·exact ⟨by decide +kernel,by decide +kernel⟩
 ·exact ⟨by decide +kernel,by decide +kernel⟩
theorem Qsd {M:Nat} (O:HM M) {i j:Nat} (hi:i<=M) (Z:j<=M):∃ n,n < M + 1/\itF M n i=j:=by
 obtain ⟨o,z⟩:=Qmd O;obtain ⟨a,Y,J⟩:=Q6e (o i (by omega));obtain ⟨b,hb,I⟩:=Q6e (o j (by omega))
 by_cases q:a<=b
 ·refine ⟨b - a,by omega,?_⟩;rw [<- J,<- yy,show a + (b - a)=b by omega,I]
 ·refine ⟨M + 1 - a + b,by omega,?_⟩;rw [<- J,<- yy,show a + (M + 1 - a + b)=(M + 1) + b by omega,yy,z,I]
theorem Qhr (M:Nat) (h:Int):∀ m,(lpP M h m).2=SetTable.bits h / 32 ^ m
 | 0=>by show SetTable.bits h=_; rw [Nat.pow_zero,Nat.div_one]
 | m + 1=>by
  show (lpP M h m).2 / 32=_;rw [Qhr M h m,gz,<- fR]
theorem Qnv (h:Int):SetTable.bits h < 2 ^ 64:=by
 unfold SetTable.bits;have h1:(0:Int) < 2 ^ 64:=by decide
 have:=hU h h1;have:=hW h (show (2:Int) ^ 64≠0 by decide);omega
theorem Qv5 (M:Nat) (h:Int):∀ n,(lpP M h (12 + n)).1=itF M n (lpP M h 12).1:=by
 have step:∀ m,12<=m->(lpP M h (m + 1)).1=((lpP M h m).1 * 5 + 1) % (M + 1):=fun m hm=>by
  show ((lpP M h m).1 * 5 + 1 + (lpP M h m).2 / 32) % (M + 1)=_;have:(lpP M h m).2 / 32=0:=by
   rw [Qhr,gz,<- fR];refine Nat.div_eq_of_lt (O9 (Qnv h) ?_);exact E1 (show 2 ^ 64<=32 ^ 13 by decide) (Nat.pow_le_pow_right (by decide) (by omega))
  rw [this,hX]
 have j:∀ n i,itF M (n + 1) i=(itF M n i * 5 + 1) % (M + 1):=fun n i=>yy M n 1 i
 intro n
 induction n with
 | zero=>rfl
 | succ n q=>rw [j,<- q]; exact step (12 + n) (by omega)
theorem Q92 {M:Nat} (q:HM M) (h:Int) {j:Nat} (z:j<=M):∃ m,m < M + 13/\(lpP M h m).1=j:=by
 obtain ⟨n,I,e⟩:=Qsd q (Q6r M h 12) z;exact ⟨12 + n,by omega,by rw [Qv5,e]⟩
theorem Qdz {M:Nat} (q:HM M) (h:Int) {j:Nat} (z:j<=M):∃ n,n<=10 * (M + 12)/\J5 M h n=j:=by
 obtain ⟨m,hm,e⟩:=Q92 q h z;obtain ⟨n,I,en⟩:=Qca M h m;exact ⟨n,by omega,by unfold J5; rw [en]; exact e⟩
theorem Qb8 {M:Nat} (hM:HM M) (h:Int) (I:Nat->Prop) {j:Nat} (hj:j<=M) (Z:¬ I j):∃ N,N<=10 * (M + 12)/\¬ I (J5 M h N)/\∀ m,m < N->I (J5 M h m):=by
 obtain ⟨n,Y,e⟩:=Qdz hM h hj;have O:∀ n,¬ I (J5 M h n)->∃ N,N<=n/\¬ I (J5 M h N)/\∀ m,m < N->I (J5 M h m):=by
  intro n
  induction n using Nat.strongRecOn with
  | ind n ih=>
   intro Y
   by_cases q:∃ m,m < n/\¬ I (J5 M h m)
   ·obtain ⟨m,hm,hx⟩:=q;obtain ⟨N,h1,h2,J⟩:=ih m hm hx;exact ⟨N,by omega,h2,J⟩
   ·refine ⟨n,O5 _,Y,fun m hm=>?_⟩;exact Classical.byContradiction fun z=>q ⟨m,hm,z⟩
 obtain ⟨N,h1,h2,J⟩:=O n (by rw [e]; exact Z);exact ⟨N,by omega,h2,J⟩
theorem Xv {t:aV} {i j:Nat} (r:Rise t.place) (hi:t.place[i]?=zo j):t.slot j=.live i:=by
 obtain ⟨J,b⟩:=qy (j:=j) r;have n1:¬ i < SetTable.below t.place j:=fun z=>by have:=(b i j hi).mp z; omega
 have I:=(cA.mp hi).1;have e:SetTable.below t.place j=i:=by
  by_cases z:SetTable.below t.place j < i
  ·have q:SetTable.below t.place j < t.place.size:=by omega
   have l:=r.lt (bh q) hi z;have:=(b _ _ (bh q)).mpr l;omega
  ·omega
 unfold SetTable.slot;dsimp only;rw [e,hi];simp
theorem Qdm {t:aV} {j:Nat} (hd:t.dummies=#[]) (h:j∉t.place.toList):t.slot j=.empty:=by
 unfold SetTable.slot SetTable.has;dsimp only;rw [hd];have:¬ (t.place[SetTable.below t.place j]? == zo j)=yo:=fun z=>by
  have z:=eq_of_beq z;rw [<- be] at z;exact h (E3 z)
 rw [bT this];simp
theorem Qgf {t:aV} {L:Bool} (g:Good L t) (hashAt:Nat->Int) (h:Int) {N:Nat} (hN:J5 t.mask h N∉t.place.toList) (hl:∀ m,m < N->J5 t.mask h m∈t.place.toList):∀ j n,n<=N->N - n < j ->
  (SetTable.probe.go t hashAt h j (pth t.mask h n)=zo (.empty (J5 t.mask h N) zb)/\∀ m,n<=m->m < N->∀ i,t.place[i]?=zo (J5 t.mask h m)->hashAt i≠h) \/
  (∃ m i,n<=m/\m < N/\t.place[i]?=zo (J5 t.mask h m)/\hashAt i=h/\SetTable.probe.go t hashAt h j (pth t.mask h n)=zo (.candidate (J5 t.mask h m) i (pth t.mask h (m + 1)))/\∀ O,n<=O->O < m->∀ i,t.place[i]?=zo (J5 t.mask h O)->hashAt i≠h):=by
 intro j
 induction j with
 | zero=>intro n _ h2; omega
 | succ j ih=>
  intro n h1 h2;rw [SetTable.probe.go]
  by_cases e:n=N
  ·subst e
   left
   have:=Qdm g.2.1 hN;unfold J5 at this ⊢;rw [this,Q4v];exact ⟨rfl,fun m h3 Y=>by omega⟩
  ·have hm:=hl n (by omega);obtain ⟨i,hi,ei⟩:=F8 hm;have hv:t.place[i]?=zo (J5 t.mask h n):=by rw [<- be,O2 hi,ei]
   have hs:=Xv g.1 hv;have uq:∀ J,t.place[J]?=zo (J5 t.mask h n)->J=i:=fun J I=>by
    have:=Xv g.1 I;rw [hs] at this; cases this; rfl
   unfold J5 at hs;rw [hs];dsimp only
   by_cases q:hashAt i=h
   ·right
    refine ⟨n,i,O5 _,by omega,hv,q,?_,fun O h3 Y=>by omega⟩;rw [bS (by simp [q]),Q3z];rfl
   ·rw [bT (by simp [q]),Q3z];have ad:zt t.mask (pth t.mask h n)=pth t.mask h (n + 1):=rfl;rw [ad];rcases ih (n + 1) (by omega) (by omega) with ⟨a1,a2⟩ | ⟨m,J,a1,a2,a3,a4,a5,a6⟩
    ·left
     refine ⟨a1,fun m h3 Y J I=>?_⟩
     by_cases z:m=n
     ·subst z; rw [uq J I]; exact q
     ·exact a2 m (by omega) Y J I
    ·right
     refine ⟨m,J,by omega,a2,a3,a4,a5,fun O h3 Y i2 Z=>?_⟩
     by_cases z:O=n
     ·subst z; rw [uq i2 Z]; exact q
     ·exact a6 O (by omega) Y i2 Z
def Rch (M:Nat) (occ:Nat->Prop) (h:Int) (j:Nat):Prop:=∃ n,J5 M h n=j/\∀ m,m < n->occ (J5 M h m)
theorem Rch.mono {M:Nat} {z q:Nat->Prop} {h:Int} {j:Nat} (r:Rch M z h j) (k:∀ x,z x->q x):Rch M q h j:=let ⟨n,e,f⟩:=r; ⟨n,e,fun m hm=>k _ (f m hm)⟩
def SzM (M n:Nat):Prop:=M=7/\n<=4\/M=31/\n<=18\/M=127/\n<=76
def SzP (M n:Nat):Prop:=M=7/\n<=5\/M=31/\n<=19\/M=127/\n<=76
theorem SzM.hm {M n:Nat} (s:SzM M n):HM M:=by unfold SzM at s; unfold HM; omega
structure HG0 (L:Bool) (t:aV) (hs:List Int):Prop where
 good:Good L t
 len:t.place.size=hs.length
 le:∀ j,j∈t.place.toList->j<=t.mask
 rch:∀ (i j:Nat) (h:Int),t.place[i]?=zo j->hs[i]?=zo h->Rch t.mask (·∈t.place.toList) h j
structure HG (L:Bool) (t:aV) (hs:List Int):Prop extends HG0 L t hs where
 sz:SzM t.mask hs.length
theorem HG.fits {L:Bool} {t:aV} {hs:List Int} (g:HG L t hs):t.fits hs.length=yo:=by
 unfold SetTable.fits SetTable.fill;rw [g.good.2.1,g.len];have:=g.sz;unfold SzM at this;simp;omega
theorem Qc8:∀ (n:Nat) (l:List Nat),l.length < n->∃ j,j < n/\j∉l
 | 0,l,h=>by omega
 | n + 1,l,h=>by
  by_cases q:n∈l
  ·have hp:0 < l.length:=hZ q;obtain ⟨j,h1,h2⟩:=Qc8 n (l.erase n) (by rw [iA q]; omega);exact ⟨j,by omega,fun z=>h2 ((iB (by omega)).mpr z)⟩
  ·exact ⟨n,by omega,q⟩
theorem HG.free {L:Bool} {t:aV} {hs:List Int} (g:HG L t hs) (h:Int):∃ N,N<=10 * (t.mask + 12)/\J5 t.mask h N∉t.place.toList/\∀ m,m < N->J5 t.mask h m∈t.place.toList:=by
 have sz:=g.sz;unfold SzM at sz;obtain ⟨j,h1,h2⟩:=Qc8 (t.mask + 1) t.place.toList (by rw [bc,g.len]; omega);exact Qb8 g.sz.hm h (·∈t.place.toList) (eK h1) h2
theorem Qij (L:Bool):HG L (.fresh 0 0 L) [] where
 good:=⟨fH,rfl,rfl⟩
 len:=rfl
 le:=fun j h=>by cases h
 rch:=fun i j h e=>by simp [SetTable.fresh] at e
 sz:=.inl ⟨rfl,by simp⟩
theorem HG.put {L:Bool} {t:aV} {hs:List Int} (g:HG L t hs) {h:Int} {N:Nat} (Y:J5 t.mask h N∉t.place.toList) (hl:∀ m,m < N->J5 t.mask h m∈t.place.toList) :
  HG0 L (t.put (J5 t.mask h N)).1 (hs.take (SetTable.below t.place (J5 t.mask h N)) ++ h :: hs.drop (SetTable.below t.place (J5 t.mask h N))):=by
 generalize Z:J5 t.mask h N=j at Y;have b:=(qy (j:=j) g.good.1).1;have gl:=g.len;generalize hp:SetTable.below t.place j=p at b;have ep:(t.put j).1.place.toList=t.place.toList.take p ++ j :: t.place.toList.drop p:=by
  show (SetTable.insertAt t.place (SetTable.below t.place j) j).toList=_;rw [SetTable.toList_insertAt,hp]
 have O:(t.put j).1.mask=t.mask:=rfl;have sub:∀ x,x∈t.place.toList->x∈(t.put j).1.place.toList:=fun x I=>by
  rw [ep];rw [<- fS p t.place.toList] at I;rcases E2.mp I with q | q
  ·exact E2.mpr (.inl q)
  ·exact E2.mpr (.inr (O4 _ q))
 have tl:(t.place.toList.take p).length=p:=by rw [cN,bc]; omega
 have J:(hs.take p).length=p:=by rw [cN]; omega
 refine ⟨g.good.put Y,?_,fun x I=>?_,fun i x h' e1 e2=>?_⟩
 ·have:(t.put j).1.place.toList.length=hs.length + 1:=by
   rw [ep,O6,D5,tl,cv,bc]; omega
  rw [<- bc,this,O6,D5,J,cv]; omega
 ·rw [O];rw [ep] at I;rcases E2.mp I with q | q
  ·exact g.le x (List.mem_of_mem_take q)
  ·rcases D6.mp q with q | q
   ·rw [q,<- Z]; exact Qkv _ _ _
   ·exact g.le x (gn q)
 ·rw [<- be,ep] at e1;rw [O]
  by_cases q:i < p
  ·rw [O7 (by omega),iC,bS q,be] at e1;rw [O7 (by omega),iC,bS q] at e2;exact (g.rch i x h' e1 e2).mono sub
  ·rw [D4 (by omega),tl] at e1;rw [D4 (by omega),J] at e2
   by_cases z:i=p
   ·subst z;rw [L1] at e1 e2;have e1:j=x:=by simpa using e1
    have e2:h=h':=by simpa using e2
    subst e1; subst e2;exact ⟨N,Z,fun m hm=>sub _ (hl m hm)⟩
   ·obtain ⟨k,rfl⟩:∃ k,i=p + 1 + k:=⟨i - p - 1,by omega⟩;rw [show p + 1 + k - p=k + 1 by omega,eL,iD,be] at e1;rw [show p + 1 + k - p=k + 1 by omega,eL,iD] at e2;exact (g.rch (p + k) x h' e1 e2).mono sub
theorem Qnf {M:Nat} {owner:Array (Option Nat)} (h:Int):∀ J m n,pth M h n=Qic M (lpP M h m)->(∀ I,I < n->∃ k,owner[J5 M h I]?=zo (zo k))->owner.size=M + 1 ->
  (∃ I,m<=I/\I < m + J/\owner[(lpP M h I).1]?=zo zb) ->
  ∃ n',SetTable.layClean.free M owner J (lpP M h m).1 (lpP M h m).2=zo (J5 M h n')/\owner[J5 M h n']?=zo zb/\∀ I,I < n'->∃ k,owner[J5 M h I]?=zo (zo k):=by
 intro J
 induction J with
 | zero=>rintro m n _ _ _ ⟨I,h1,h2,_⟩; omega
 | succ J ih=>
  intro m n en Z hsz a4;rw [SetTable.layClean.free];have a2:=Q6r M h m;have hr:=j9 a2;have O:∀ k,k<=SetTable.runEnd M (lpP M h m).1 - (lpP M h m).1->J5 M h (n + k)=(lpP M h m).1 + k:=fun k hk=>by unfold J5; rw [Q6a en k hk]
  cases z:fT (fun k=>(owner.getD ((lpP M h m).1 + k) (zo 0)).isNone) (bX (SetTable.runEnd M (lpP M h m).1 + 1 - (lpP M h m).1)) with
  | some k=>
   dsimp only;have z1:=fU z;obtain ⟨z0,as,bs,e1,z2⟩:=List.find?_eq_some_iff_append.mp z;have hk:k < SetTable.runEnd M (lpP M h m).1 + 1 - (lpP M h m).1:=cH.mp (fV z);have ok:∀ j,j < k->∃ q,owner[(lpP M h m).1 + j]?=zo (zo q):=fun j a3=>by
    have hm:j∈as:=by
     have:(bX (SetTable.runEnd M (lpP M h m).1 + 1 - (lpP M h m).1))[j]?=zo j:=by rw [fW (by omega)]
     have a5:as.length=k:=by
      have q1:(as ++ k :: bs)[as.length]?=zo k:=by rw [D4 (O5 _),L1]; rfl
      rw [<- e1,fW (by
       have:=congrArg dG e1;rw [F3,O6,D5] at this;omega)] at q1
      cases q1; rfl
     rw [e1,O7 (by omega)] at this;exact E3 this
    have:=z2 j hm;have Y:(lpP M h m).1 + j < owner.size:=by omega
    simp [dR,Y] at this;rw [bh Y];cases q:owner[(lpP M h m).1 + j] with
    | none=>rw [q] at this; simp at this
    | some v=>exact ⟨v,rfl⟩
   have Y:(lpP M h m).1 + k < owner.size:=by omega
   refine ⟨n + k,by rw [O k (by omega)],?_,fun I a1=>?_⟩
   ·rw [O k (by omega),bh Y];simp [dR,Y] at z1;rw [z1]
   ·by_cases q:I < n
    ·exact Z I q
    ·obtain ⟨j,rfl⟩:∃ j,I=n + j:=⟨I - n,by omega⟩;rw [O j (by omega)];exact ok j (by omega)
  | none=>
   dsimp only;have z1:=List.find?_eq_none.mp z;have ok:∀ j,j<=SetTable.runEnd M (lpP M h m).1 - (lpP M h m).1->∃ q,owner[(lpP M h m).1 + j]?=zo (zo q):=fun j a3=>by
    have:=z1 j (cH.mpr (by omega));have Y:(lpP M h m).1 + j < owner.size:=by omega
    simp [dR,Y] at this;rw [bh Y];cases q:owner[(lpP M h m).1 + j] with
    | none=>rw [q] at this; simp at this
    | some v=>exact ⟨v,rfl⟩
   have nx:pth M h (n + (SetTable.runEnd M (lpP M h m).1 - (lpP M h m).1) + 1)=Qic M (lpP M h (m + 1)):=by
    show zt M (pth M h (n + _))=_;rw [Q6a en _ (O5 _)];unfold zt;dsimp only;rw [bT (by omega)];rfl
   refine ih (m + 1) _ nx (fun I a1=>?_) hsz ?_
   ·by_cases q:I < n
    ·exact Z I q
    ·obtain ⟨j,rfl⟩:∃ j,I=n + j:=⟨I - n,by omega⟩;rw [O j (by omega)];exact ok j (by omega)
   ·obtain ⟨I,h1,h2,h3⟩:=a4;have ne:I≠m:=fun e=>by
     subst e;obtain ⟨q,hq⟩:=ok 0 (by omega);rw [hX,h3] at hq;cases hq
    exact ⟨I,by omega,by omega,h3⟩
structure OwnT (M:Nat) (hs:List Int) (owner:Array (Option Nat)) (k:Nat):Prop where
 sz:owner.size=M + 1
 cnt:owner.toList.countP eM + k=M + 1
 inj:∀ (i j:Nat) (x:Nat),owner[i]?=zo (zo x)->owner[j]?=zo (zo x)->i=j
 lt:∀ (i:Nat) (x:Nat),owner[i]?=zo (zo x)->x < k
 all:∀ x:Nat,x < k->∃ i:Nat,owner[i]?=zo (zo x)
 rch:∀ (i:Nat) (x:Nat) (h:Int),owner[i]?=zo (zo x)->hs[x]?=zo h->Rch M (fun (j:Nat)=>∃ y,owner[j]?=zo (zo y)) h i
theorem Qgt {M:Nat} (hM:HM M) {hs:List Int} {owner:Array (Option Nat)} {k:Nat} (o:OwnT M hs owner k) {h:Int} (hk:hs[k]?=zo h) (a3:k < M + 1) :
  ∃ j,SetTable.layClean.free M owner (SetTable.turns M) (SetTable.bits h % (M + 1)) (SetTable.bits h)=zo j/\OwnT M hs (owner.setIfInBounds j (zo k)) (k + 1):=by
 have pos:0 < owner.toList.countP eM:=by have:=o.cnt; omega
 obtain ⟨v,hv,e⟩:=List.countP_pos_iff.mp pos;obtain ⟨j0,O,a1⟩:=F8 hv;have J:owner[j0]?=zo zb:=by
  rw [<- be,O2 O,a1];cases v with
  | none=>rfl
  | some _=>cases e
 have a2:j0<=M:=by have:=(cA.mp J).1; rw [o.sz] at this; omega
 obtain ⟨m',Y,Z⟩:=Q92 hM h a2;obtain ⟨n',e1,e2,e3⟩:=Qnf (M:=M) (owner:=owner) h (SetTable.turns M) 0 0 rfl (fun m' Y=>by omega) o.sz ⟨m',F6 _,by unfold SetTable.turns; omega,by rw [Z]; exact J⟩;refine ⟨J5 M h n',e1,?_⟩;generalize hj:J5 M h n'=j at e2;have hb:=(cA.mp e2).1;have g:∀ i:Nat,(owner.setIfInBounds j (zo k))[i]?=if j=i then zo (zo k) else owner[i]?:=fun i=>by
  rw [Array.getElem?_setIfInBounds]
  by_cases q:j=i
  ·rw [bS q,bS q,bS hb]
  ·rw [bT q,bT q]
 have up:∀ x:Nat,(∃ y,owner[x]?=zo (zo y))->∃ y,(owner.setIfInBounds j (zo k))[x]?=zo (zo y):=fun x ⟨y,hy⟩=>by
  rw [g]
  by_cases q:j=x
  ·exact ⟨k,by rw [bS q]⟩
  ·exact ⟨y,by rw [bT q]; exact hy⟩
 refine ⟨by rw [Array.size_setIfInBounds]; exact o.sz,?_,fun a b x h1 h2=>?_,fun i x h1=>?_,fun x hx=>?_,fun i x h' h1 h2=>?_⟩
 ·rw [Array.toList_setIfInBounds];have I:j < owner.toList.length:=by simpa using hb
  have c:=List.countP_set (p:=eM) (l:=owner.toList) (i:=j) (a:=zo k) I;have ej:owner.toList[j]=zb:=by
   have:=e2;rw [<- be,O2 I] at this;exact bj this
  rw [c];simp only [ej];show List.countP eM owner.toList - 1 + 0 + (k + 1)=M + 1;have:=o.cnt;omega
 ·rw [g] at h1 h2
  by_cases q:j=a <;> by_cases z:j=b
  ·omega
  ·rw [bS q] at h1;rw [bT z] at h2;cases h1;have:=o.lt _ _ h2;omega
  ·rw [bT q] at h1;rw [bS z] at h2;cases h2;have:=o.lt _ _ h1;omega
  ·rw [bT q] at h1;rw [bT z] at h2;exact o.inj a b x h1 h2
 ·rw [g] at h1
  by_cases q:j=i
  ·rw [bS q] at h1; cases h1; omega
  ·rw [bT q] at h1;have:=o.lt _ _ h1;omega
 ·by_cases q:x=k
  ·subst q; exact ⟨j,by rw [g,bS rfl]⟩
  ·obtain ⟨i,hi⟩:=o.all x (by omega);refine ⟨i,?_⟩;rw [g,bT]
   ·exact hi
   ·intro z; subst z; rw [e2] at hi; cases hi
 ·rw [g] at h1
  by_cases q:j=i
  ·rw [bS q] at h1; cases h1;rw [hk] at h2; cases h2;refine ⟨n',by rw [hj,q],fun m hm=>up _ (e3 m hm)⟩
  ·rw [bT q] at h1;exact (o.rch i x h' h1 h2).mono up
theorem Qm9 {M:Nat} (Z:HM M) (hs:List Int) (a1:hs.length<=M):∃ owner,SetTable.layClean M hs.toArray=zo owner/\OwnT M hs owner hs.length:=by
 have z:∀ (rest done:List Int) (owner:Array (Option Nat)),done ++ rest=hs->OwnT M hs owner done.length ->
   ∃ q,cJ (fun (acc:Option (Array (Option Nat) × Nat)) h=>do
    let __x <- acc
    match __x with
     | (owner,k)=>do
      let j <- SetTable.layClean.free M owner (SetTable.turns M) (SetTable.bits h % (M + 1)) (SetTable.bits h)
      pure (owner.setIfInBounds j (zo k),k + 1)) (zo (owner,done.length)) rest=zo (q,hs.length)/\OwnT M hs q hs.length:=by
  intro rest
  induction rest with
  | nil=>intro done owner e o; rw [cC] at e; subst e; exact ⟨owner,rfl,o⟩
  | cons h rest O=>
   intro done owner e o;have I:hs[done.length]?=zo h:=by rw [<- e,D4 (O5 _),L1]; rfl
   have hl:done.length < hs.length:=(O0.mp I).1;obtain ⟨j,e1,o1⟩:=Qgt Z o I (by omega);obtain ⟨q,e2,Y⟩:=O (done ++ [h]) (owner.setIfInBounds j (zo done.length)) (by rw [<- e]; simp) (by rw [O6]; exact o1);refine ⟨q,?_,Y⟩;rw [F1];rw [O6] at e2;rw [<- e2];congr 1;show iE (zo (owner,done.length)) _=_;show iE (SetTable.layClean.free M owner (SetTable.turns M) (SetTable.bits h % (M + 1)) (SetTable.bits h)) _=_;rw [e1];rfl
 obtain ⟨q,e,o⟩:=z hs [] (Array.replicate (M + 1) zb) rfl ⟨by simp,by simp [List.countP_replicate],fun i j x h1=>by simp [fX] at h1,fun i x h1=>by simp [fX] at h1,fun x J=>by simp at J,fun i x h h1=>by simp [fX] at h1⟩;refine ⟨q,?_,o⟩;unfold SetTable.layClean;rw [<- iF];show Option.map _ (cJ _ (zo (_,([]:List Int).length)) hs)=_;rw [e];rfl
theorem Qau {l m:List Nat} (h1:l.Nodup) (h2:m.Nodup) (h:∀ a,a∈l <-> a∈m):l.Perm m:=(iG h1 h2).mpr h
theorem Qdu {L:Bool} {t:aV} {hs:List Int} {wanted M:Nat} (g:Good L t) (hM:HM M) (hz:SetTable.sizeAbove wanted - 1=M) (a2:hs.length<=M) :
  ∃ t' ,∃ I:List Nat,t.relaid hs.toArray wanted=zo (t',I.toArray)/\I.Perm (bX hs.length)/\t'.mask=M/\HG0 L t' (I.map (fun x=>hs.getD x 0)):=by
 obtain ⟨owner,e,o⟩:=Qm9 hM hs a2;have a1:∀ (l:List Nat) (j x:Nat),(j,x)∈(l.filterMap fun j=>(owner.getD j zb).map (j,·)) <-> j∈l/\owner[j]?=zo (zo x):=by
  intro l j x;rw [dY];have gd:owner.getD j zb=(owner[j]?).getD zb:=by simp [dO]
  constructor
  ·rintro ⟨y,hy,ey⟩;cases q:owner.getD y zb with
   | none=>rw [q] at ey; cases ey
   | some v=>
    rw [q] at ey;cases ey;rw [gd] at q;refine ⟨hy,?_⟩;cases z:owner[j]? with
    | none=>rw [z] at q; cases q
    | some u=>rw [z] at q; exact congrArg zo q
  ·rintro ⟨h1,h2⟩;exact ⟨j,h1,by rw [gd,h2]; rfl⟩
 have hx:t.relaid hs.toArray wanted=zo ({ mask:=M,place:=(((bX (M + 1)).filterMap fun j=>(owner.getD j zb).map (j,·)).map (·.1)).toArray,dummies:=#[],finger:=t.finger,led:=t.led,moves:=t.movedTo M,plain:=t.plain },(((bX (M + 1)).filterMap fun j=>(owner.getD j zb).map (j,·)).map (·.2)).toArray):=by
  unfold SetTable.relaid SetTable.laid;rw [hz,e];rfl
 refine ⟨_,_,hx,?_,rfl,g.relaid hx,?_,?_,?_⟩
 all_goals generalize hl:((bX (M + 1)).filterMap fun j=>(owner.getD j zb).map (j,·))=O
 all_goals
  have J:∀ j x,(j,x)∈O <-> owner[j]?=zo (zo x):=fun j x=>by
   rw [<- hl,a1];refine ⟨fun q=>q.2,fun q=>⟨?_,q⟩⟩
   have:=(cA.mp q).1;rw [o.sz] at this;exact cH.mpr this
  have pw:O.Pairwise fun a b=>a.1 < b.1:=by
   have:=(g.relaid hx).1;unfold Rise at this;dsimp only at this;rw [hl] at this;exact fQ.mp this
  have Y:(O.map (·.2)).Perm (bX hs.length):=by
   refine Qau ?_ List.nodup_range fun a=>?_
   ·refine fQ.mpr (ir (fun {a b} ha hb hab=>?_) pw);intro z;have h1:=(J a.1 a.2).mp ha;have h2:=(J b.1 b.2).mp hb;rw [z] at h1;have:=o.inj _ _ _ h1 h2;omega
   ·rw [F0,cH];constructor
    ·rintro ⟨⟨j,x⟩,hm,rfl⟩;exact o.lt _ _ ((J j x).mp hm)
    ·intro ha;obtain ⟨j,Z⟩:=o.all a ha;exact ⟨(j,a),(J j a).mpr Z,rfl⟩
 ·exact Y
 ·simp only [O1,O8]
 ·intro j Z;have Z:j∈O.map (·.1):=by simpa using Z
  obtain ⟨⟨a,x⟩,hm,rfl⟩:=F0.mp Z;have:=(cA.mp ((J a x).mp hm)).1;rw [o.sz] at this;exact eK this
 ·intro i j h h1 h2;have h1:(O.map (·.1))[i]?=zo j:=by simpa using h1
  rw [D7] at h1;rw [D7,D7] at h2;cases q:O[i]? with
  | none=>rw [q] at h1; cases h1
  | some a=>
   rw [q] at h1 h2;cases h1;cases h2;have hm:=(J a.1 a.2).mp (E3 q);have hk:=o.lt _ _ hm;have he:hs[a.2]?=zo (hs.getD a.2 0):=by rw [D9,O2 hk]; rfl
   refine (o.rch _ _ _ hm he).mono ?_;rintro y ⟨z,hz⟩;show y∈(O.map (·.1)).toArray.toList;exact F0.mpr ⟨(y,z),(J y z).mpr hz,rfl⟩
theorem Qg5 {α:Type} (l:List α):(bX l.length).filterMap (fun x=>l[x]?)=l:=by
 induction l with
 | nil=>rfl
 | cons a l j=>
  rw [D5,fL,cW];simp only [List.getElem?_cons_zero,gE];congr 1
theorem Qad {es:List (Int × aA)} {j:List Nat} (p:j.Perm (bX es.length)) :
  (j.filterMap (fun x=>es[x]?)).Perm es/\(j.filterMap (fun x=>es[x]?)).map (·.1)=j.map (fun x=>(es.map (·.1)).getD x 0):=by
 constructor
 ·have:=p.filterMap (fun x=>es[x]?)
  rwa [Qg5] at this
 ·have hm:∀ x∈j,x < es.length:=fun x q=>cH.mp (p.mem_iff.mp q)
  clear p
  induction j with
  | nil=>rfl
  | cons x l I=>
   have q:=hm x (by simp);rw [cW,O2 q];simp only [D2];rw [I fun y z=>hm y (O4 _ z)]
   congr 1;rw [D9,D7,O2 q];rfl
theorem Qne {M n:Nat} (h:SzP M n):(decide (n * 5>=M * 3)=yo->∃ j,SetTable.sizeAbove (SetTable.grown n) - 1=j/\¬ SetTable.sizeAbove (SetTable.grown n) > sizeLine/\HM j/\SzM j n/\n<=j)/\(decide (n * 5>=M * 3)=yl->SzM M n):=by
 unfold SzP at h;constructor
 ·intro z;have z:n * 5>=M * 3:=by simpa using z
  have:(M=7/\n=5)\/(M=31/\n=19):=by omega
  rcases this with ⟨rfl,rfl⟩ | ⟨rfl,rfl⟩
  ·exact ⟨31,by decide +kernel,by decide +kernel,.inr (.inl rfl),.inr (.inl ⟨rfl,by decide⟩),by decide⟩
  ·exact ⟨127,by decide +kernel,by decide +kernel,.inr (.inr rfl),.inr (.inr ⟨rfl,by decide⟩),by decide⟩
 ·intro z;have z:¬ n * 5>=M * 3:=by simpa using z
  unfold SzM;omega
end L2
namespace L2
open PySem PySem.Spec PyProof.Rows SeqAt
section
variable {prog:aK} {w:aJ} {A:aL} {E:aA->aC->Prop} {s:aC}
theorem Qb5:∀ (m:Nat) (d:Nat) {A:aL} {s:aC} {k:HK} {v:aA} {Q:Bool->aC->Prop},Dp d k->KIs s.heap k v->(∀ b,Q b s)->aF (aI prog w) A (hashByValue m v) Q E s:=by
 intro m
 induction m with
 | zero=>
  intro d A s k v Q I r q;cases k with
  | int i=>obtain ⟨t,rfl⟩:=r; unfold hashByValue; exact wpAny_pure (q _)
  | str i=>obtain ⟨t,rfl⟩:=r; unfold hashByValue; exact wpAny_pure (q _)
  | tup l=>obtain ⟨a,j,rfl,_⟩:=r; unfold hashByValue; exact wpAny_pure (q _)
 | succ m ih=>
  intro d A s k v Q I r q;cases k with
  | int i=>obtain ⟨t,rfl⟩:=r; unfold hashByValue; exact wpAny_pure (q _)
  | str i=>obtain ⟨t,rfl⟩:=r; unfold hashByValue; exact wpAny_pure (q _)
  | tup ks=>
   obtain ⟨a,j,rfl,⟨o,J,Z,n,hd⟩,hi⟩:=r;have hT:s.TypeIs (.ref a) "tuple" := ⟨o,J,Z⟩;cases d with
   | zero=>exact I.elim
   | succ d=>
    unfold hashByValue;refine aD (wpAny_specialOf hT F.slot_tuple_hash.lookup ?_);dsimp only;refine aD (bA J hd (aD ?_));show aF _ _ (forIn j _ _) _ _ s;rw [<- dm];refine wpAny_forIn_list _ (fun rest r s'=>s'=s/\∃ l,KIsL s.heap l rest/\∀ k∈l,k∈ks) _ ?_ ?_ _ _ ⟨rfl,ks,hi,fun _ h=>h⟩
    ·rintro v rest r s' ⟨rfl,l,O,z⟩;cases l with
     | nil=>cases O
     | cons k l=>
      obtain ⟨v',r',e,h1,h2⟩:=O;cases e;refine aD (ih d (I k (z k (by simp))) h1 fun b=>?_)
      cases b with
      | false=>
       simp only [iH,if_true];refine wpAny_pure ?_
       first | exact wpAny_pure (q _) | exact q _
      | true=>
       simp only [cV,E7,if_false];exact wpAny_pure ⟨rfl,l,h2,fun x Y=>z x (O4 _ Y)⟩
    ·rintro ⟨r1,r2⟩ s' ⟨rfl,_⟩;cases r1 with
     | none=>exact wpAny_pure (q _)
     | some b=>exact wpAny_pure (q _)
theorem Q0j:∀ (d:Nat) {A:aL} {s:aC} {k:HK} {v:aA} {Q:Bool->aC->Prop} (m:Nat),d < m->Dp d k->KIs s.heap k v->Q yl s->aF (aI prog w) A (ofAClassStatement m v) Q E s:=by
 intro d
 induction d with
 | zero=>
  intro A s k v Q m hm z r q;cases k with
  | tup l=>exact z.elim
  | int i=>obtain ⟨t,rfl⟩:=r; unfold ofAClassStatement; exact wpAny_pure q
  | str i=>obtain ⟨t,rfl⟩:=r; unfold ofAClassStatement; exact wpAny_pure q
 | succ d ih=>
  intro A s k v Q m hm z r q;cases k with
  | int i=>obtain ⟨t,rfl⟩:=r; unfold ofAClassStatement; exact wpAny_pure q
  | str i=>obtain ⟨t,rfl⟩:=r; unfold ofAClassStatement; exact wpAny_pure q
  | tup ks=>
   obtain ⟨a,I,rfl,⟨o,O,hc,n,hd⟩,hi⟩:=r;have hT:s.TypeIs (.ref a) "tuple" := ⟨o,O,hc⟩;obtain ⟨m,rfl⟩:∃ m',m=m' + 1:=⟨m - 1,by omega⟩;unfold ofAClassStatement;refine aD (bC hT ?_);dsimp only;rw [bS (by decide)];refine aD (wpAny_pure ?_);simp only [cV,E7,if_false];refine aD (bA O hd ?_);dsimp only;refine aD ?_;rw [<- dm];refine wpAny_forIn_list _ (fun rest r s'=>r.1=zb/\s'=s/\∃ l,KIsL s.heap l rest/\∀ k∈l,k∈ks) _ ?_ ?_ _ _ ⟨rfl,rfl,ks,hi,fun _ h=>h⟩
   ·rintro v rest r s' ⟨J,rfl,l,Y,j⟩;cases l with
    | nil=>cases Y
    | cons k l=>
     obtain ⟨v',r',e,h1,h2⟩:=Y;cases e;refine aD (ih m (by omega) (z k (j k (by simp))) h1 ?_);simp only [E7,if_false];exact wpAny_pure ⟨rfl,rfl,l,h2,fun x Z=>j x (O4 _ Z)⟩
   ·rintro ⟨r1,r2⟩ s' ⟨J,rfl,_⟩;simp only at J;subst J;exact wpAny_pure q
theorem Qk8 {b:aB} {k:HK} (z:(nk prog w).is s.heap k b) {Q:Bool->aC->Prop} (l:List aA) (Y:∀ v∈l,∃ c I,v=.ref c/\(nk prog w).is s.heap I c) (q:Q yl s):aF (aI prog w) A (searchCouldBeSeen (.ref b) l) Q E s:=by
 unfold searchCouldBeSeen;refine aD ?_;refine wpAny_forIn_list _ (fun rest r s'=>r.1=zb/\s'=s/\∀ v∈rest,∃ c I,v=.ref c/\(nk prog w).is s.heap I c) _ ?_ ?_ _ _ ⟨rfl,rfl,Y⟩
 ·rintro v rest r s' ⟨O,rfl,j⟩;obtain ⟨c,I,rfl,J⟩:=j v (by simp);dsimp only;refine az (fun _=>wpAny_pure ⟨rfl,rfl,fun x z=>j x (O4 _ z)⟩) fun _=>?_
  refine aD ((nk prog w).quiet z ?_);simp only [cV,E7,if_false];refine aD ((nk prog w).quiet J ?_);simp only [cV,E7,if_false];refine aD (Q0j 5 8 (by decide) z.2 z.1 ?_);simp only [E7,if_false];refine aD (Q0j 5 8 (by decide) J.2 J.1 ?_);simp only [E7,if_false];exact wpAny_pure ⟨rfl,rfl,fun x z=>j x (O4 _ z)⟩
 ·rintro ⟨r1,Z⟩ s' ⟨O,rfl,_⟩;simp only at O;subst O;exact wpAny_pure q
def ElH (prog:aK) (w:aJ) (B:aB->Prop) (h:Heap) (e:Int × aA) (k:HK):Prop:=∃ b,e.2=.ref b/\(nk prog w).is h k b/\e.1=hkH prog w k/\B b
theorem Qdx {t:aV} {L:Bool} (g:Good L t) {hashAt:Nat->Int} {h:Int} {N:Nat} (I:J5 t.mask h N∉t.place.toList) (J:∀ m,m < N->J5 t.mask h m∈t.place.toList) {j n:Nat} (h1:n<=N) (h2:N - n < j) {q:Option SetTable.Met} (e:SetTable.probe.go t hashAt h j (pth t.mask h n)=q) :
  (q=zo (.empty (J5 t.mask h N) zb)/\∀ m,n<=m->m < N->∀ i,t.place[i]?=zo (J5 t.mask h m)->hashAt i≠h) \/
  (∃ m i,n<=m/\m < N/\t.place[i]?=zo (J5 t.mask h m)/\hashAt i=h/\q=zo (.candidate (J5 t.mask h m) i (pth t.mask h (m + 1)))/\∀ z,n<=z->z < m->∀ i,t.place[i]?=zo (J5 t.mask h z)->hashAt i≠h):=by
 subst e; exact Qgf g hashAt h I J j n h1 h2
theorem Ki {α β:Type} {F:α->β->Prop}:∀ {l:List α} {ks:List β} {i:Nat} {a:α},aR F l ks->l[i]?=zo a->∃ b,ks[i]?=zo b/\F a b
 | _,_,i,a,.nil,e=>by simp at e
 | _,_,0,a,.cons r t,e=>by simp at e; subst e; exact ⟨_,rfl,r⟩
 | _,_,i + 1,a,.cons r t,e=>by simpa using Ki t (by simpa using e)
theorem X2 {α β:Type} {F:α->β->Prop}:∀ {l:List α} {ks:List β} {i:Nat} {b:β},aR F l ks->ks[i]?=zo b->∃ a,l[i]?=zo a/\F a b
 | _,_,i,b,.nil,e=>by simp at e
 | _,_,0,b,.cons r t,e=>by simp at e; subst e; exact ⟨_,rfl,r⟩
 | _,_,i + 1,b,.cons r t,e=>by simpa using X2 t (by simpa using e)
theorem Qdq {B:aB->Prop} {L:Bool} {a b:aB} {k:HK} {o:Obj} {es:Array (Int × aA)} {ep:Nat} {t:aV} {ks:List HK} (hu:A.units + 5 < aQ) (hx:(nk prog w).is s.heap k b) (ho:s.heap.get? a=zo o) (hd:o.data=.set es ep t) (hg:HG L t (es.toList.map (·.1)))
  (hp:aR (ElH prog w B s.heap) es.toList ks) (nd:ks.Nodup) {N:Nat} (hN:J5 t.mask (hkH prog w k) N∉t.place.toList) (hl:∀ m,m < N->J5 t.mask (hkH prog w k) m∈t.place.toList) (b6:N<=10 * (t.mask + 12)) {Q:SetFound->aC->Prop}
  (h1:k∉ks->Q (.free (J5 t.mask (hkH prog w k) N) yl) s) (h2:k∈ks->Q (.there zb) s) :
  ∀ (J n:Nat) (st:Option SetTable.Probe),st.getD (t.probeStart (hkH prog w k))=pth t.mask (hkH prog w k) n->n<=N->N - n < J->(∀ i:Nat,ks[i]?=zo k->∃ m,n<=m/\m < N/\t.place[i]?=zo (J5 t.mask (hkH prog w k) m))->aF (aI prog w) A (setSearchFrom a (.ref b) (hkH prog w k) yo J st) Q E s:=by
 have Y:t.fits es.size=yo:=by have:=hg.fits; rwa [O1,bc] at this
 have b3:t.gaveWay=yl:=by
  have:=hg.sz;unfold SzM at this;unfold SetTable.gaveWay;rcases this with ⟨e,_⟩ | ⟨e,_⟩ | ⟨e,_⟩ <;> rw [e] <;> rfl
 intro J
 induction J with
 | zero=>intro n st _ _ h; omega
 | succ J ih=>
  intro n st b0 hn hf hk;rw [setSearchFrom.eq_2];refine aD (wpAny_setState_of ho hd Y ?_);dsimp only;rw [bT (by rw [b3]; exact D3),b0];generalize a7:SetTable.probe t _ _ _=pr;unfold SetTable.probe at a7;rcases Qdx hg.good hN hl hn (by unfold SetTable.turns; omega) a7 with ⟨e1,e2⟩ | ⟨m,i,c1,c2,c3,c4,e1,c6⟩
  ·subst e1;dsimp only;refine wpAny_pure (h1 fun hm=>?_);obtain ⟨i,hi,ei⟩:=F8 hm;have a5:ks[i]?=zo k:=by rw [O2 hi,ei]
   obtain ⟨m,m1,m2,m3⟩:=hk i a5;obtain ⟨e,Z,c,_,_,hh,_⟩:=X2 hp a5;refine e2 m m1 m2 i m3 ?_;show ((es[i]?).map (·.1)).getD 0=_;rw [<- be,Z];exact hh
  ·subst e1;dsimp only;have c4:((es[i]?).map (·.1)).getD 0=hkH prog w k:=c4;have a6:i < es.size:=by
    have:=(cA.mp c3).1;rw [hg.len,O1,bc] at this;exact this
   have b4:es.toList[i]?=zo es[i]:=by rw [be,bh a6]
   obtain ⟨k',a9,c,ec,hc,hh,_⟩:=Ki hp b4;have a8:es[i]?=zo (es[i].1,.ref c):=by rw [bh a6,<- ec]
   have go:aF (aI prog w) A
     (match es[i]? with
      | some (a4,y)=>do
       let equal <- ar [y] (eqBool y (.ref b))
       let __x <- setState a
       match __x with
        | (b1,a4,t')=>
         if (yo && equal)=yo then pure (SetFound.there zb)
         else
          match t'.sameMemory t.moves t.mask with
          | some same=>
           have I:=fun j=>
            match j with
            | none=>do
             rule "set.search.anew"
             setSearchFrom a (.ref b) (hkH prog w k) yo J zb
            | some i'=>
             if equal=yo then pure (SetFound.there (zo i'))
             else setSearchFrom a (.ref b) (hkH prog w k) yo J (zo (pth t.mask (hkH prog w k) (m + 1)));
           match if same=yo then t'.slot (J5 t.mask (hkH prog w k) m) else SetTable.Slot.empty with
           | SetTable.Slot.live i'=>
            match b1[i']? with
            | some (a4,y')=>do
             let __do_lift <- isSame y' y
             let j <- pure (if __do_lift=yo then zo i' else zb)
             I j
            | none=>do
             let j <- pure zb
             I j
           | x=>do
            let j <- pure zb
            I j
          | x=>unsupported "set.changed-during-lookup:is-the-new-block-at-the-old-address"
      | x=>unsupported "internal:set-entry") Q E s:=by
    rw [a8];dsimp only;refine aD (ae ((nk prog w).eqBool hu hc hx ?_));refine aD (wpAny_setState_of ho hd Y ?_);dsimp only
    by_cases q:k'=k
    ·rw [bV q,bS (by decide)];exact wpAny_pure (h2 (by rw [<- q]; exact E3 a9))
    ·rw [bU q,bT (by decide)];have sm:t.sameMemory t.moves t.mask=zo yo:=by unfold SetTable.sameMemory; rw [bS (by simp)]
     rw [sm];dsimp only;rw [bS rfl,Xv hg.good.1 c3];dsimp only;rw [a8];dsimp only;refine aD (wpAny_isSame_ref_self ?_);refine aD (wpAny_pure ?_);rw [bS rfl];dsimp only;rw [bT D3];refine ih (m + 1) _ rfl (by omega) (by omega) fun i2 O=>?_
     obtain ⟨m2,a1,a2,a3⟩:=hk i2 O;obtain ⟨e,Z,c',_,_,b2,_⟩:=X2 hp O;have ne:m2≠m:=fun z=>by
      subst z;have:=Xv hg.good.1 c3;rw [Xv hg.good.1 a3] at this;cases this;rw [a9] at O;cases O;exact q rfl
     have nl:¬ m2 < m:=fun z=>by
      refine c6 m2 a1 z i2 a3 ?_;show ((es[i2]?).map (·.1)).getD 0=_;rw [<- be,Z];exact b2
     exact ⟨m2,by omega,a2,a3⟩
   cases b5:t.led with
   | true=>simp only [cV,E7,if_false]; exact go
   | false=>
    simp only [iH,if_true];refine aD (Qk8 hx _ (fun v hv=>?_) ?_)
    ·obtain ⟨e,Z,rfl⟩:=F0.mp hv;have Z:e∈es:=by
      have:e∈(Array.filter (fun x=>x.1 == hkH prog w k) es):=by simpa using Z
      exact (Array.mem_filter.mp this).1
     obtain ⟨k2,_,c2,q1,q2,_⟩:=qi hp (eu.mpr Z);exact ⟨c2,k2,q1,q2⟩
    ·simp only [E7,if_false];exact go
end
end L2
namespace L2
open PySem PySem.Spec PyProof.Rows SeqAt
section
variable {prog:aK} {w:aJ} {A:aL} {E:aA->aC->Prop} {s:aC} {B:aB->Prop}
def GH (prog:aK) (w:aJ) (B:aB->Prop) (L:Bool) (h:Heap) (a:aB) (ks:List HK):Prop:=
 ∃ o es ep t,h.get? a=zo o/\o.ExactSet/\o.data=.set es ep t/\(∃ ks',ks'.Perm ks/\aR (ElH prog w B h) es.toList ks')/\ks.Nodup/\HG L t (es.toList.map (·.1))
theorem ElH.keep {h h':Heap} (q:∀ a its,IsTup h a its->IsTup h' a its) {e:Int × aA} {k:HK} (x:ElH prog w B h e k):ElH prog w B h' e k:=let ⟨b,e1,e2,e3,j⟩:=x; ⟨b,e1,⟨KIs.keep q 5 e2.2 e2.1,e2.2⟩,e3,j⟩
theorem zd {α β:Type} {F G:α->β->Prop} (f:∀ a b,F a b->G a b):∀ {l:List α} {ks:List β},aR F l ks->aR G l ks
 | _,_,.nil=>.nil
 | _,_,.cons r t=>.cons (f _ _ r) (zd f t)
theorem GH.at {L:Bool} {h h':Heap} {a:aB} {ks:List HK} (g:GH prog w B L h a ks) (k:∀ o,h.get? a=zo o->h'.get? a=zo o) (q:∀ a its,IsTup h a its->IsTup h' a its):GH prog w B L h' a ks:=by
 obtain ⟨o,es,ep,t,h1,h2,z,⟨j,p,r⟩,h5,h6⟩:=g;exact ⟨o,es,ep,t,k o h1,h2,z,⟨j,p,zd (fun _ _=>ElH.keep q) r⟩,h5,h6⟩
theorem Q7y {h:Heap} {a:aB} {o:Obj} {es:Array (Int × aA)} {ep:Nat} {t:aV} (q:h.get? a=zo o) (hd:o.data=.set es ep t) (its:Array aA):¬ IsTup h a its:=fun ⟨o',h1,_,n,j⟩=>by
 rw [q] at h1; cases h1; rw [hd] at j; cases j
theorem Q7n {h h':Heap} {a:aB} {o:Obj} {es:Array (Int × aA)} {ep:Nat} {t:aV} (j:h.get? a=zo o) (hd:o.data=.set es ep t) (q:Heap.SameBut a h h') (b:aB) (its:Array aA) (x:IsTup h b its):IsTup h' b its:=by
 by_cases e:b=a
 ·subst e; exact absurd x (Q7y j hd its)
 ·obtain ⟨o',h1,h2⟩:=x;exact ⟨o',(q.2 b e).trans h1,h2⟩
theorem jv {α β:Type} {F:α->β->Prop} {a:α} {b:β} (r:F a b):∀ {l:List α} {ks:List β} (p:Nat),aR F l ks->aR F (l.take p ++ a :: l.drop p) (ks.take p ++ b :: ks.drop p)
 | _,_,0,h=>by simpa using Paired.cons r h
 | _,_,p + 1,.nil=>by simpa using Paired.cons r .nil
 | _,_,p + 1,.cons j t=>by simpa using Paired.cons j (jv r p t)
theorem Q9b {h:Heap} {a:aB} {o:Obj} {es j:Array (Int × aA)} {ep:Nat} {t t':aV} {q:List HK} (z:h.get? a=zo o) (J:o.ExactSet) (hd:o.data=.set es ep t) (O:aR (ElH prog w B h) j.toList q) :
  ∃ o',(h.update a (df j t')).get? a=zo o'/\o'.ExactSet/\o'.data=.set j (ep + 1) t'/\Heap.SameBut a h (h.update a (df j t'))/\aR (ElH prog w B (h.update a (df j t'))) j.toList q:=by
 have e:=G8 (df j t') z (by rw [putSet_of j t' hd]; rfl);rw [putSet_of j t' hd] at e;have I:=Heap.SameBut.update h a (df j t');exact ⟨_,e,J,rfl,I,zd (fun _ _=>ElH.keep (Q7n z hd I)) O⟩
theorem HG0.unplain {L:Bool} {t:aV} {hs:List Int} (g:HG0 L t hs):HG0 L { t with plain:=yl } hs:=⟨g.good,g.len,g.le,g.rch⟩
theorem Q75 {L:Bool} {a:aB} {o:Obj} {es j:Array (Int × aA)} {ep:Nat} {t I:aV} {O:List HK} (ho:s.heap.get? a=zo o) (hx:o.ExactSet) (hd:o.data=.set es ep t) (hr:aR (ElH prog w B s.heap) j.toList O) (hn:O.Nodup)
  (hg:HG0 L I (j.toList.map (·.1))) (hz:SzP I.mask j.size) {n:Nat} (en:n=j.size) {Q:Bool->aC->Prop} (h:∀ h',Heap.SameBut a s.heap h'->GH prog w B L h' a O->Q yo { s with heap:=h' }) :
  aF (aI prog w) A (do
    storeSet a j I
    if (!false && I.tooFull)=yo then do
        setRelay a (SetTable.grown n)
        pure yo
     else pure yo) Q E s:=by
 have hb:j.size<=sizeLine:=by rw [sizeLine_eq]; unfold SzP at hz; omega
 refine aD (wpAny_storeSet_of ho hd ?_ hb);obtain ⟨o1,e1,x1,d1,a1,r1⟩:=Q9b (t':=I) ho hx hd hr;have J:I.fill=j.size:=by
  unfold SetTable.fill;rw [hg.good.2.1,hg.len,O1,bc];rfl
 have a3:I.tooFull=decide (j.size * 5>=I.mask * 3):=by unfold SetTable.tooFull; rw [J]
 obtain ⟨f1,f2⟩:=Qne hz;have a2:I.fits j.size=yo:=by
  unfold SetTable.fits;rw [J,hg.len,O1,bc];unfold SzP at hz;simp;omega
 rw [a3];cases z:decide (j.size * 5>=I.mask * 3) with
 | false=>
  rw [bT (by simp)];refine wpAny_pure (h _ a1 ⟨o1,j,_,I,e1,x1,d1,⟨O,cM _,r1⟩,hn,⟨hg,?_⟩⟩);rw [O1,bc];exact f2 z
 | true=>
  rw [bS (by simp)];obtain ⟨M',y1,y2,y3,y4,y5⟩:=f1 z;obtain ⟨t2,q,p1,p2,p3,p4⟩:=Qdu (t:=I) (hs:=j.toList.map (·.1)) (wanted:=SetTable.grown n) hg.good y3 (by rw [en]; exact y1) (by rw [O1,bc]; exact y5);rw [O1] at p2;obtain ⟨q1,q2⟩:=Qad p2;refine aD ?_;unfold setRelay;refine aD (wpAny_setState_of e1 d1 a2 ?_);dsimp only;rw [bT (by rw [en]; exact y2)];have eh:(Array.map (fun x=>x.1) j)=(j.toList.map (·.1)).toArray:=by
   apply Array.ext';rw [Array.toList_map]
  rw [eh,p1];refine aD ?_;generalize Y:iI (fun x=>j[x]?) q.toArray=Z;have e2:Z.toList=q.filterMap (fun x=>j.toList[x]?):=by
   rw [<- Y,Array.toList_filterMap];simp only [be]
  rw [<- e2] at q1 q2;have hsz:Z.size=j.size:=by rw [<- bc,q1.length_eq,bc]
  show aF _ _ (if (Array.size (iI (fun x=>j[x]?) q.toArray) != j.size)=yo then _ else _) _ _ _;rw [Y,bT (by rw [hsz]; simp)];refine wpAny_pure ?_;dsimp only;refine wpAny_storeSet_of e1 d1 ?_ (by rw [hsz]; exact hb);obtain ⟨a4,r2,p5⟩:=Q8i q1 r1;obtain ⟨o2,e3,x3,d3,a5,r3⟩:=Q9b (t':=t2) e1 x1 d1 r2;refine wpAny_pure (h _ (a1.trans a5) ⟨o2,Z,_,t2,e3,x3,d3,⟨a4,p5,r3⟩,hn,⟨?_,?_⟩⟩)
  ·rw [q2]; exact p4
  ·rw [O1,bc,hsz,p3]; exact y4
theorem Qsf {L:Bool} {a b:aB} {ks:List HK} {k:HK} {Q:Bool->aC->Prop} (hu:A.units + 5 < aQ) (hx:(nk prog w).is s.heap k b) (hB:B b) (g:GH prog w B L s.heap a ks) (b0:ks.length + 1<=76)
  (h:∀ b h',Heap.SameBut a s.heap h'->GH prog w B L h' a (Jy ks k)->Q b { s with heap:=h' }):aF (aI prog w) A (setAddHashed a (.ref b) (hkH prog w k)) Q E s:=by
 obtain ⟨o,es,ep,t,Z,J,hd,⟨j,p0,r0⟩,hn,hg⟩:=g;have a9:j.Nodup:=(p0.nodup_iff).mpr hn;have b1:es.size=j.length:=by rw [<- bc,Paired.length r0]
 have b2:j.length=ks.length:=p0.length_eq;have O:t.fits es.size=yo:=by have:=hg.fits; rwa [O1,bc] at this
 obtain ⟨N,n1,n2,n3⟩:=hg.free (hkH prog w k);unfold setAddHashed;refine ae ?_;rw [setAddHashedIn.eq_def];dsimp only;refine aD (wpAny_setState_of Z hd O ?_);dsimp only;rw [bT (by unfold byScan; simp [Value.scannable])];refine aD ?_;unfold setSearch;refine Qdq hu hx Z hd hg r0 a9 n2 n3 n1 (fun km=>?_) (fun km=>?_) 100000 0 zb rfl (F6 _) ?_ fun i hi=>?_
 ·dsimp only;refine aD (wpAny_setState_of Z hd O ?_);dsimp only;have a1:k∉ks:=fun z=>km (p0.mem_iff.mpr z)
  have ea:Jy ks k=ks ++ [k]:=by unfold Jy; rw [bT a1]
  have hr:=jv (F:=ElH prog w B s.heap) (a:=(hkH prog w k,bY b)) (b:=k) ⟨b,rfl,hx,rfl,hB⟩ (SetTable.below t.place (J5 t.mask (hkH prog w k) N)) r0;rw [<- SetTable.toList_insertAt] at hr;have a4:(j.take (SetTable.below t.place (J5 t.mask (hkH prog w k) N)) ++ k :: j.drop (SetTable.below t.place (J5 t.mask (hkH prog w k) N))).Perm (Jy ks k):=by
   rw [ea];refine List.perm_middle.trans ?_;rw [fS];exact (p0.cons k).trans (List.perm_append_comm (l₁:=[k]))
  have a2:(Jy ks k).Nodup:=by
   rw [ea];exact cS.mpr ⟨hn,by simp,fun x a5 y hy e=>by
    have:y=k:=by simpa using hy
    rw [e,this] at a5; exact a1 a5⟩
  have Y:=a4.nodup_iff.mpr a2;have I:=hg.put n2 n3;have a8:(SetTable.insertAt es (SetTable.below t.place (J5 t.mask (hkH prog w k) N)) (hkH prog w k,bY b)).toList.map (·.1)=(es.toList.map (·.1)).take (SetTable.below t.place (J5 t.mask (hkH prog w k) N)) ++ hkH prog w k :: (es.toList.map (·.1)).drop (SetTable.below t.place (J5 t.mask (hkH prog w k) N)):=by
   rw [SetTable.toList_insertAt,E4,D2,iJ,iK]
  rw [<- a8] at I;have q:(SetTable.insertAt es (SetTable.below t.place (J5 t.mask (hkH prog w k) N)) (hkH prog w k,bY b)).size=es.size + 1:=by
   rw [<- bc,SetTable.toList_insertAt,O6,D5,<- dn,<- O6,fS,bc]
  have hsz:SzP (t.put (J5 t.mask (hkH prog w k) N)).1.mask (SetTable.insertAt es (SetTable.below t.place (J5 t.mask (hkH prog w k) N)) (hkH prog w k,bY b)).size:=by
   rw [q];show SzP t.mask (es.size + 1);have:=hg.sz;rw [O1,bc] at this;unfold SzM at this;unfold SzP;omega
  have fin:∀ h',Heap.SameBut a s.heap h'->GH prog w B L h' a (j.take (SetTable.below t.place (J5 t.mask (hkH prog w k) N)) ++ k :: j.drop (SetTable.below t.place (J5 t.mask (hkH prog w k) N)))->Q yo { s with heap:=h' }:=fun h' sb gh=>by
   refine h yo h' sb ?_;obtain ⟨o,es,ep,t,y1,y2,y3,⟨y4,y5,y6⟩,y7,y8⟩:=gh;exact ⟨o,es,ep,t,y1,y2,y3,⟨y4,y5.trans a4,y6⟩,a2,y8⟩
  by_cases zp:t.plain=yo
  ·rw [bS (show (t.put (J5 t.mask (hkH prog w k) N)).1.plain=yo from zp)];refine aD (Qb5 8 5 hx.2 hx.1 fun bv=>?_);cases bv with
   | true=>
    simp only [if_true];exact Q75 (n:=es.size + 1) Z J hd hr Y I hsz q.symm fin
   | false=>
    simp only [E7,if_false];exact Q75 (n:=es.size + 1) Z J hd hr Y I.unplain hsz q.symm fin
  ·rw [bT (show ¬ (t.put (J5 t.mask (hkH prog w k) N)).1.plain=yo from zp)];refine aD (wpAny_pure ?_);simp only [if_true];exact Q75 (n:=es.size + 1) Z J hd hr Y I hsz q.symm fin
 ·dsimp only;have e:s={ s with heap:=s.heap }:=by cases s; rfl
  rw [e];refine wpAny_pure (h _ s.heap (Heap.SameBut.refl a s.heap) ?_);unfold Jy;rw [bS (p0.mem_iff.mp km)];exact ⟨o,es,ep,t,Z,J,hd,⟨j,p0,r0⟩,hn,hg⟩
 ·have:=hg.sz; unfold SzM at this; omega
 ·obtain ⟨e,he,c,e1,e2,e3,_⟩:=X2 r0 hi;have a3:i < t.place.size:=by
   have:=(O0.mp he).1;rw [hg.len,O1]; exact this
  have a6:t.place[i]?=zo t.place[i]:=bh a3;have hh:(es.toList.map (·.1))[i]?=zo (hkH prog w k):=by rw [D7,he,<- e3]; rfl
  obtain ⟨m,m1,m2⟩:=hg.rch i _ _ a6 hh;refine ⟨m,F6 _,?_,by rw [m1]; exact a6⟩;have a7:t.place[i]∈t.place.toList:=by rw [eu]; exact Array.getElem_mem a3
  by_cases c1:N < m
  ·exact absurd (m2 N c1) n2
  ·by_cases c2:N=m
   ·subst c2; rw [m1] at n2; exact absurd a7 n2
   ·omega
end
end L2
namespace L2
open PySem PySem.Spec PyProof.Rows SeqAt
section
variable {prog:aK} {w:aJ} {A:aL} {R:Result->aC->Prop} {B:aB->Prop}
theorem Q6y {h:Heap} {I q:aB} {i:Nat} (x:h.IsTupleIter I q i) {its:Array aA} (y:IsTup h I its):False:=by
 obtain ⟨o,h1,h2,z⟩:=x;obtain ⟨o',j,g2,n,J⟩:=y;rw [h1] at j; cases j;rw [h2] at g2; exact absurd g2 (by decide)
theorem Qdn {I D:aB} {fp:List aB} {n:Nat} {P:Nat->aA->Prop} {St:Nat->Heap->Prop} {ks:List HK} {h0:Heap} (hu:A.in1.units + 5 < aQ) (W:Walks prog w A.in1 I fp [I] n P St) (hD:D∉fp) (hI:∀ i h,St i h->∀ its,¬ IsTup h I its) (hn:n=ks.length)
  (hv:∀ i v,P i v->∃ k b,ks[i]?=zo k/\v=.ref b/\(nk prog w).is h0 k b/\B b) (Y:ks.length<=76) :
  ∀ (k i:Nat) (s:aC),n - i=k->i<=n->St i s.heap->(∀ a its,IsTup h0 a its->IsTup s.heap a its)->GH prog w B (byT w) s.heap D (Y3 (ks.take i)) ->
   (∀ h' tk,GH prog w B (byT w) h' D (Y3 ks)->(∀ b o,b∉[D,I]->s.heap.get? b=zo o->h'.get? b=zo o)->R (.ok (.ret .none)) { s with heap:=h',toks:=tk }) ->
   codeAny (aI prog w) A (.builtin "set.update.loop" ⟨[.ref D,.ref I],[]⟩) R s:=by
 have a3:D≠I:=fun z=>hD (W.sub D (by simp [z]))
 intro k
 induction k with
 | zero=>
  intro i s hk hi j O g hR;have e:i=n:=by omega
  subst e;refine ay iL ?_;rw [Around.under_plainId fY _];show aF _ A.in1 (ag (.ref I) >>= _) _ _ s;refine aD (W.done s _ _ j fun h' tk hm=>?_);show aF _ A.in1 (ret bZ) _ _ _;rw [hn,eN] at g;refine wpAny_pure (hR h' tk (g.at (fun o q=>hm D o (by simpa using a3) q) fun a its x=>?_) fun b o a5 q=>hm b o (fun z=>a5 (O4 _ z)) q)
  have:a≠I:=fun z=>by subst z; exact hI _ _ j its x
  obtain ⟨o',x1,x2⟩:=x;exact ⟨o',hm a o' (by simpa using this) x1,x2⟩
 | succ k ih=>
  intro i s hk hi j O g hR;have Z:i < n:=by omega
  refine ay iL ?_;rw [Around.under_plainId fY _];show aF _ A.in1 (ag (.ref I) >>= _) _ _ s;refine aD (W.item i s _ _ Z j fun v h1 tk hP a2 hm=>?_);have J:∀ a its,IsTup s.heap a its->IsTup h1 a its:=fun a its x=>by
   have:a≠I:=fun z=>by subst z; exact hI _ _ j its x
   obtain ⟨o',x1,x2⟩:=x;exact ⟨o',hm a o' (by simpa using this) x1,x2⟩
  obtain ⟨x,b,hx,rfl,h2,a7⟩:=hv i v hP;have h2:(nk prog w).is h1 x b:=⟨KIs.keep (fun a its y=>J a its (O a its y)) 5 h2.2 h2.1,h2.2⟩;have g1:GH prog w B (byT w) h1 D (Y3 (ks.take i)):=g.at (fun o q=>hm D o (by simpa using a3) q) J
  show aF _ A.in1 (ar [.ref b] (setAdd D (.ref b)) >>= _) _ _ _;refine aD (ae ?_);unfold setAdd;refine ae (aD ((nk prog w).pyHash (s:={ s with heap:=h1,toks:=tk }) (k:=x) hu h2 ?_));have a1:(Y3 (ks.take i)).length + 1<=76:=by
   have:=yr (ks.take i);have:(ks.take i).length<=i:=by rw [cN]; omega
   omega
  refine Qsf (s:={ s with heap:=h1,toks:=tk + (nk prog w).draws x }) hu h2 a7 g1 a1 fun bb h' sb g2=>?_
  have e1:ks.take (i + 1)=ks.take i ++ [x]:=by rw [iM,hx]; rfl
  rw [<- Qee,<- e1] at g2;obtain ⟨oD,a9,a8,tD,dD,_,a6,_⟩:=g1;refine wpAny_pure ⟨bF fY _,ih (i + 1) _ (by omega) Z (W.frame _ h1 h' a2 fun b Y o q=>?_) (fun a its y=>Q7n dD a6 sb a its (J a its (O a its y))) g2 fun h' a4 g' k'=>hR h' a4 g' fun b o Y q=>k' b o Y ?_⟩
  ·exact (sb.2 b fun z=>hD (by rw [<- z]; exact Y)).trans q
  ·refine (sb.2 b fun z=>Y (by simp [z])).trans (hm b o (fun z=>Y (O4 _ z)) q)
set_option maxHeartbeats 3200000 in
theorem ju {s:aC} {E:aA->aC->Prop} {l:aB} {j:Array aA} {ks:List HK} {Q:aA->aC->Prop} (hu:A.units + 9 < aQ) (hh:A.handled=zb) (hl:s.heap.IsTuple l j) (hn:j.size=ks.length)
  (hv:∀ (i:Nat) (v:aA),j[i]?=zo v->∃ k b,ks[i]?=zo k/\v=.ref b/\(nk prog w).is s.heap k b/\B b) (hb:ks.length<=76)
  (h:∀ h' tk,GH prog w B (byT w) h' s.heap.objs.size (Y3 ks)->(∀ b o,s.heap.get? b=zo o->h'.get? b=zo o)->Q (.ref s.heap.objs.size) { s with heap:=h',toks:=tk }) :
  aF (aI prog w) A (call (.type "set") [.ref l]) Q E s:=by
 obtain ⟨cc,tl,b3⟩:=F.called_set.mro;have m1:=F.called_set.made;have m2:=F.called_set.sub;refine wpAny_call (codeAny_of_tree ?_);show aF _ _ (callAny (.type "set") _) _ _ _;refine wpAny_pure ⟨Code.quiet_builtin _ (by decide +kernel),ay F.entry_type_call ?_⟩;rw [Around.under_plain (weight_type_call_type "set" [.ref l] []) rfl];have m3:=F.called_set.notType;have m4:=F.called_set.canCreate;have m5:=F.typeCall_set_1 (.ref l)
 repeat (any_goals (first | assumption | wp_step))
 refine bQ (Qk5 (.ref l) (E:=E) (Z:=fun ob s1=>ob=.ref s.heap.objs.size/\s1={ s with heap:=s.heap.push (Y6 w) }) ⟨rfl,rfl⟩) fun rr s1 q=>?_
 cases rr with
 | error e=>exact q
 | ok fl=>
  cases fl with
  | ret ob=>
   obtain ⟨rfl,rfl⟩:=q;have o1:(s.heap.push (Y6 w)).get? s.heap.objs.size=zo (Y6 w):=D1 _ rfl;have hT:Shared.TypeIs { s with heap:=s.heap.push (Y6 w) } (.ref s.heap.objs.size) "set" := ⟨_,o1,rfl⟩;have n1:=F.called_set.init.lookup;have n2:=F.called_set.init.bind (.ref s.heap.objs.size)
   repeat (any_goals (first | assumption | wp_step))
   refine bQ (codeAny_call_builtin (R:=wants (fun r s2=>r=.none/\∃ h' tk,s2={ s with heap:=h',toks:=tk }/\GH prog w B (byT w) h' s.heap.objs.size (Y3 ks)/\∀ b o,s.heap.get? b=zo o->h'.get? b=zo o) E) F.called_set.init.plain F.entry_set_init (check_set_init_1 hT ?_)) fun r2 s2 q2=>?_
   ·obtain ⟨ol,Y,a5,nl,a4⟩:=hl;obtain ⟨a9,J,a7,z⟩:=ol;simp only at a5 a4;subst a5; subst a4;have I:(s.heap.push (Y6 w)).get? l=zo { cls:=.type "tuple",dict:=J,data:=.seq j nl,slots:=z }:=O3 _ Y;have a1:=Q1n;have a2:=Q0q;have a3:(bi "tuple" == bi "dict")=yl:=by decide
    have O:(s.heap.push (Y6 w)).IsTuple l j:=⟨_,I,rfl,nl,rfl⟩;unfold Y6 at o1 hT I O ⊢;unfold Builtin.«set.__init__» noKeywords Builtin.Frozenset.updateFrom;generalize a6:pyIter=PI
    wp_walk
    subst a6;refine bL O ?_;refine aD (wpAny_runValue ?_);have b0:l < s.heap.objs.size:=D0 Y;have b1:l≠(s.heap.push (Y6 w)).objs.size:=by rw [F7]; exact D8 (cx b0)
    have b2:s.heap.objs.size≠(s.heap.push (Y6 w)).objs.size:=by rw [F7]; exact D8 (dM _)
    have W:=Walks.tuple (prog:=prog) (w:=w) (A:=A.in1.in1.in1) (by simpa using hh) (s.heap.push (Y6 w)).objs.size l b1 j;have tk:∀ a its,IsTup s.heap a its->IsTup ((s.heap.push (Y6 w)).push { cls:=.type "tuple_iterator",data:=.fields #[.ref l,aU 0] }) a its:=fun a its ⟨o',x1,x2⟩=>⟨o',O3 _ (O3 _ x1),x2⟩
    unfold Y6 at tk;refine Qdn (by show A.units + 1 + 1 + 1 + 5 < aQ; omega) W (by simp only [D6,eJ,or_false,not_or]; exact ⟨b2,cE b0⟩) (fun i h ⟨x,_⟩ its y=>Q6y x y) hn (fun i v hP=>hv i v hP) hb j.size 0 _ (by omega) (F6 _) ⟨⟨_,D1 _ rfl,rfl,rfl⟩,O.push _⟩ tk ?g0 fun h' tk g' k'=>?gR
    case g0=>
     exact ⟨_,#[],0,_,O3 _ o1,⟨rfl,rfl,rfl⟩,rfl,⟨[],by simp [Y3],.nil⟩,by simp [Y3],Qij _⟩
    case gR=>
     show aF _ _ _ _ _ _;refine wpAny_pure ?_;show aF _ _ (ret bZ) _ _ _;refine wpAny_pure ⟨rfl,h',tk,rfl,g',fun b o e=>?_⟩;have c0:=D0 e;refine k' b o ?_ (O3 _ (O3 _ e));simp only [D6,eJ,or_false,not_or];exact ⟨D8 c0,D8 (by rw [F7]; exact cx c0)⟩
   ·cases r2 with
    | error e=>exact q2
    | ok a8=>
     cases a8 with
     | ret r=>
      obtain ⟨rfl,h',tk,rfl,g',k'⟩:=q2
      repeat (any_goals (first | assumption | wp_step))
      exact h h' tk g' k'
     | _=>exact q2.elim
  | _=>exact q.elim
end
end L2
namespace L2
open PySem PySem.Spec PyProof.Rows PySem.W
section
variable {prog:aK} {w:aJ} {A:aL} {E:aA->aC->Prop} {s:aC}
def dQ:Int × Str:=(0,bx)
inductive PrsAre (h:Heap):List aA->List (Int × Str)->Prop
 | nil:PrsAre h [] []
 | cons {a:aB} {o:Obj} {x:Int} {y:Str} {t u:Tok} {n:Nat} {vs:List aA} {nss:List (Int × Str)} (ho:h.get? a=zo o) (hc:o.cls=.type "tuple") (hd:o.data=.seq #[.int x t,.str y u] n) (r:PrsAre h vs nss):PrsAre h (.ref a :: vs) ((x,y) :: nss)
theorem PrsAre.keep {h h':Heap} (k:∀ b o,h.get? b=zo o->h'.get? b=zo o):∀ {vs:List aA} {nss:List (Int × Str)},PrsAre h vs nss->PrsAre h' vs nss
 | _,_,.nil=>.nil
 | _,_,.cons j q hd r=>.cons (k _ _ j) q hd (r.keep k)
theorem PrsAre.keepT {h h':Heap} (k:∀ b o,o.cls=.type "tuple" -> h.get? b=zo o->h'.get? b=zo o):∀ {vs:List aA} {nss:List (Int × Str)},PrsAre h vs nss->PrsAre h' vs nss
 | _,_,.nil=>.nil
 | _,_,.cons q j hd r=>.cons (k _ _ j q) j hd (r.keepT k)
theorem PrsAre.length {h:Heap}:∀ {vs:List aA} {nss:List (Int × Str)},PrsAre h vs nss->vs.length=nss.length
 | _,_,.nil=>rfl
 | _,_,.cons _ _ _ r=>by rw [D5,D5,r.length]
theorem PrsAre.at {h:Heap}:∀ {vs:List aA} {nss:List (Int × Str)},PrsAre h vs nss->∀ i,i < vs.length->∃ a o t u n,vs.getD i bZ=.ref a/\h.get? a=zo o/\o.data=.seq #[.int (nss.getD i dQ).1 t,.str (nss.getD i dQ).2 u] n
 | _,_,.nil,i,hi=>by simp at hi
 | _,_,.cons j q hd r,0,_=>⟨_,_,_,_,_,rfl,j,hd⟩
 | _,_,.cons j q hd r,i + 1,z=>by
  obtain ⟨a,o,t,u,n,h1,h2,I⟩:=r.at i (by simpa using z);exact ⟨a,o,t,u,n,by simpa using h1,h2,by simpa using I⟩
theorem PrsAre.firsts {M:Model} {h:Heap}:∀ {vs:List aA} {nss:List (Int × Str)},PrsAre h vs nss->∃ fs,KatTups h vs fs/\fs.length=vs.length/\∀ v∈fs,Looks M h (typeOf v) (.type "int")
 | _,_,.nil=>⟨[],.nil,rfl,fun v j=>by cases j⟩
 | _,_,.cons (x:=x0) (t:=t) q z hd r=>by
  obtain ⟨fs,h1,h2,I⟩:=r.firsts (M:=M);refine ⟨.int x0 t :: fs,.cons q z hd rfl h1,by simp [h2],fun v j=>?_⟩;rcases D6.mp j with rfl | j
  ·exact Looks.of_pure rfl
  ·exact I v j
def Kq (a b:Str):Bool:=decide (a.cps.toList < b.cps.toList)
def Vn (a b:Int × Str):Bool:=if a.1=b.1 then (if a.2=b.2 then yl else Kq a.2 b.2) else decide (a.1 < b.1)
theorem Qhs (b:Bool) {Q:Bool->aC->Prop} {p q:Int × Str} {t t' u j:Tok} (h:Q (Vn p q) s):KatLex prog w A b yl Q ([.int p.1 t,.str p.2 u].zip [.int q.1 t',.str q.2 j]) 0 s:=by
 rw [dw];refine kat_cons (wpAny_eqBool_int ?_);unfold Vn at h
 by_cases z:p.1=q.1
 ·rw [bS z] at h;rw [z,beq_self_eq_true];refine kat_yes ?_;rw [dw];refine kat_cons (wpAny_eqBool_str ?_)
  by_cases y:p.2=q.2
  ·rw [bS y] at h;rw [bV y];refine kat_yes ?_;exact h
  ·rw [bT y] at h;rw [bU y];refine kat_no ?_;cases I:b && (0 + 1 == 0) with
   | true=>cases b <;> simp at I
   | false=>exact kat_one _ _ (lt_str h)
 ·rw [bT z] at h;rw [beq_eq_false_iff_ne.mpr z];refine kat_no ?_;cases b && 0 == 0 with
  | true=>exact oneLt_int h
  | false=>exact kat_one _ _ (lt_int h)
theorem Qn3 (a:List Nat):¬ a < a:=List.lt_irrefl a
def Uj (nss:List (Int × Str)) (i:Nat):Nat:=(nss.filter fun ms=>Vn ms (nss.getD i dQ)).length
theorem Qjw {a b:Str} (h:a.cps.toList=b.cps.toList):a=b:=by cases a; cases b; rw [Str.mk.injEq]; exact iN.mp h
theorem Q36 (a:Int × Str):Vn a a=yl:=by unfold Vn; rw [bS rfl,bS rfl]
theorem Q7q {a b c:Str} (h1:Kq a b=yo) (h2:Kq b c=yo):Kq a c=yo:=by
 unfold Kq at *;exact bV (List.lt_trans (of_decide_eq_true h1) (of_decide_eq_true h2))
theorem Qfh {a b:Str} (h:Kq a b=yo):a≠b:=fun e=>by subst e; exact Qn3 _ (of_decide_eq_true h)
theorem Q5s {a b:List Nat} (h:¬ b < a):a<=b:=h
theorem Qdj {a b:Str} (h:¬ a=b):Kq a b=yo\/Kq b a=yo:=by
 unfold Kq;have:¬ a.cps.toList=b.cps.toList:=fun e=>h (Qjw e)
 by_cases z:a.cps.toList < b.cps.toList
 ·exact .inl (bV z)
 ·by_cases j:b.cps.toList < a.cps.toList
  ·exact .inr (bV j)
  ·exact absurd (List.le_antisymm (Q5s j) (Q5s z)) this
theorem lexQ_is {a b:Int × Str}:Vn a b=yo <-> a.1 < b.1\/a.1=b.1/\Kq a.2 b.2=yo:=by
 unfold Vn
 by_cases z:a.1=b.1
 ·rw [bS z]
  by_cases y:a.2=b.2
  ·rw [bS y];constructor
   ·intro h; cases h
   ·rintro (h | ⟨_,h⟩)
    ·omega
    ·exact absurd y (Qfh h)
  ·rw [bT y];exact ⟨fun h=>.inr ⟨z,h⟩,fun h=>h.elim (fun h=>by omega) (·.2)⟩
 ·rw [bT z];simp [z]
theorem zk {a b c:Int × Str} (h1:Vn a b=yo) (h2:Vn b c=yo):Vn a c=yo:=by
 rw [lexQ_is] at *;rcases h1 with h1 | ⟨h1,j⟩ <;> rcases h2 with h2 | ⟨h2,g2⟩
 ·left; omega
 ·left; omega
 ·left; omega
 ·exact .inr ⟨by omega,Q7q j g2⟩
theorem Q35 {a b:Int × Str} (h1:Vn a b=yl) (h2:Vn b a=yl):a=b:=by
 have n1:¬ (a.1 < b.1\/a.1=b.1/\Kq a.2 b.2=yo):=fun z=>by rw [lexQ_is.mpr z] at h1; cases h1
 have j:¬ (b.1 < a.1\/b.1=a.1/\Kq b.2 a.2=yo):=fun z=>by rw [lexQ_is.mpr z] at h2; cases h2
 have e:a.1=b.1:=by
  by_cases q:a.1 < b.1
  ·exact absurd (.inl q) n1
  ·by_cases q2:b.1 < a.1
   ·exact absurd (.inl q2) j
   ·omega
 by_cases y:a.2=b.2
 ·exact dZ e y
 ·rcases Qdj y with z | z
  ·exact absurd (.inr ⟨e,z⟩) n1
  ·exact absurd (.inr ⟨e.symm,z⟩) j
theorem Q8b {nss:List (Int × Str)} {i j:Nat} (hi:i < nss.length) (I:j < nss.length):cR (Uj nss) i j=Vn (nss.getD i dQ) (nss.getD j dQ):=by
 have mem:∀ k,k < nss.length->nss.getD k dQ∈nss:=fun k J=>by
  rw [D9,O2 J]; exact G9 J
 unfold cR;have q:∀ {i j:Nat},i < nss.length->j < nss.length->Vn (nss.getD i dQ) (nss.getD j dQ)=yo->Uj nss i < Uj nss j:=fun {i j} hi I h=>
  jy (fun x _ Y=>zk Y h) ⟨nss.getD i dQ,mem i hi,Q36 _,h⟩
 cases z:Vn (nss.getD i dQ) (nss.getD j dQ) with
 | true=>exact bV (q hi I z)
 | false=>
  refine bU ?_;cases O:Vn (nss.getD j dQ) (nss.getD i dQ) with
  | true=>have:=q I hi O; omega
  | false=>
   have e:=Q35 z O;unfold Uj;rw [e];exact L0 _
theorem Q7x {a:aB} {vs:List aA} {nss:List (Int × Str)} {n:Nat} {P:PySem.Fin->aC->Prop} (ho:s.heap.get? a=zo (seqObj "list" vs.toArray n)) (hT:PrsAre s.heap vs nss) (b1:vs.length < 64)
  (h:∀ (p:List Nat) (h':Heap) (k:Nat),p.Perm (bX vs.length)->(∀ i,1<=i->i < vs.length->Vn (nss.getD (p.getD i 0) dQ) (nss.getD (p.getD (i - 1) 0) dQ)=yl)->h'.get? a=zo (seqObj "list" (cB (p.map fun i=>vs.getD i bZ)) k)->(∀ b o,b≠a->s.heap.get? b=zo o->h'.get? b=zo o)->P (.done (.ret .none)) { s with heap:=h' }) :
  aF (aI prog w) A (Builtin.«list.sort» ⟨[.ref a],[]⟩) P E s:=by
 have ha:a < s.heap.objs.size:=D0 ho;obtain ⟨e1,a7⟩:∃ e1,(s.heap.update a (bp fun _=>(#[]:Array aA))).get? a=zo (seqObj "list" #[] e1):=⟨_,get?_update_seq ho fun _=>#[]⟩
 have I:∀ b o,b≠a->s.heap.get? b=zo o->(((s.heap.update a (bp fun _=>(#[]:Array aA))).push (seqObj "tuple" vs.toArray 0)).push (seqObj "list" #[] 0)).get? b=zo o:=fun b o hb e=>
  O3 _ (O3 _ (by rw [Heap.get?_update_ne _ _ _ _ hb]; exact e))
 have a5:(((s.heap.update a (bp fun _=>(#[]:Array aA))).push (seqObj "tuple" vs.toArray 0)).push (seqObj "list" #[] 0)).get? a=zo (seqObj "list" #[] e1):=O3 _ (O3 _ a7)
 rw [list_sort_plain];refine aD (listItems_at ho rfl ?_);refine aD (listUpdate_at ho rfl ?_ (by rw [O8,sizeLine_eq]; omega) (F6 _));refine aD (seqEpoch_at a7 rfl ?_);refine aD (wpAny_newTuple ?_ (by show vs.length<=_; rw [sizeLine_eq]; omega));refine aD (wpAny_newList ?_ (F6 _));refine ae ?_;show aF (aI prog w) A _ P E { s with heap:=((s.heap.update a (bp fun _=>(#[]:Array aA))).push (seqObj "tuple" vs.toArray 0)).push (seqObj "list" #[] 0) }
 dsimp only;generalize hH:((s.heap.update a (bp fun _=>(#[]:Array aA))).push (seqObj "tuple" vs.toArray 0)).push (seqObj "list" #[] 0)=Y at *
 have fin:∀ (st:SortSt) (p:List Nat),p.Perm (bX vs.length)->(arrOf st).map (·.2)=cB (p.map fun i=>vs.getD i bZ)->failedOf st=zb->(∀ i,1<=i->i < vs.length->Vn (nss.getD (p.getD i 0) dQ) (nss.getD (p.getD (i - 1) 0) dQ)=yl) ->
   aF (aI prog w) A (do
    let O:=(arrOf st).map (·.2)
    let J:=(<- seqEpoch a) != e1
    Builtin.List.listUpdate (.ref a) fun _=>O
    if let zo e:=failedOf st then rule "list.sort.comparison-raised"; throw e
    if J then rule "list.sort.modified"; raiseError "ValueError" "list modified during sort"
    ret .none) P E { s with heap:=Y }:=fun st p hp b2 hf hs=>by
  dsimp only;have hl:(cB (p.map fun i=>vs.getD i bZ)).size=vs.length:=by rw [O8,O1,hp.length_eq,F3]
  obtain ⟨c2,b3⟩:∃ c2,(Y.update a (bp fun _=>cB (p.map fun i=>vs.getD i bZ))).get? a=zo (seqObj "list" (cB (p.map fun i=>vs.getD i bZ)) c2):=⟨_,get?_update_seq a5 fun _=>cB (p.map fun i=>vs.getD i bZ)⟩
  rw [b2,hf];refine aD (seqEpoch_at a5 rfl ?_);refine aD (listUpdate_at a5 rfl ?_ (F6 _) (E1 (eA hl) (by rw [sizeLine_eq]; omega)));simp only [bne_self_eq_false,E7,if_false];exact wpAny_pure (h p _ c2 hp hs b3 fun b o hb e=>by rw [Heap.get?_update_ne _ _ _ _ hb]; exact I b o hb e)
 by_cases h2:vs.toArray.size < 2
 ·rw [bS h2,bS h2];refine aD (wpAny_pure ?_);rw [StateT.run_pure];refine aD (wpAny_pure ?_);refine fin (SortSt.mk' general' (vs.toArray.zip vs.toArray) #[] 7 zb) (bX vs.length) (cM _) ?_ rfl (fun i g1 g2=>?_)
  ·show (vs.toArray.zip vs.toArray).map (·.2)=_;apply iN.mp;apply ce;intro i
   by_cases z:i < vs.length
   ·simp [z]
   ·simp [z]
  ·rw [O8] at h2; omega
 ·rw [bT h2,bT h2];rw [O8] at h2;have Z:PrsAre Y vs nss:=hT.keepT fun b o hc e=>I b o (fun z=>by
   rw [z,ho] at e;have e:=bj e;rw [<- e] at hc;exact absurd (show bi "list" = .type "tuple" from hc) (by decide)) e
  obtain ⟨fs,k1,k2,k3⟩:=Z.firsts (M:=aI prog w);refine aD (kat_kind (s:={ s with heap:=Y }) (T:=.type "int") k1 (by omega) k3 (by decide) ?_);have a9:∀ i j (C:Bool->aC->Prop),i < vs.length->j < vs.length->C (cR (Uj nss) i j) { s with heap:=Y }->kas_ask prog w A (tuples' (bi "int" != bi "tuple")) vs i j C { s with heap:=Y }:=fun i j C hi hj q=>by
   obtain ⟨ai,oi,ti,ui,ni,e1,e2,e3⟩:=Z.at i hi;obtain ⟨aj,oj,tj,uj,nj,f1,f2,f3⟩:=Z.at j hj;rw [Q8b (by rw [<- hT.length]; exact hi) (by rw [<- hT.length]; exact hj)] at q;unfold kas_ask;rw [e1,f1];exact kat_lt e2 e3 f2 f3 (Qhs _ q)
  have a6:=Qk0 (r:=Uj nss) (n:=vs.length) (by omega);refine aD (ao (kat_run (vs:=vs) (ks:=vs) (Q:=fun st' s'=>s'={ s with heap:=Y }/\arrOf st'=(evT (cR (Uj nss)) (kas_sort vs.length)).map (kas_item (vs.toArray.zip vs.toArray))/\failedOf st'=zb)
   (G:=fun p s'=>s'={ s with heap:=Y }/\p=evT (cR (Uj nss)) (kas_sort vs.length)) rfl (by omega) b1 (fun p' st' s' a1 a2 a3 a4=>⟨a4.1,by rw [<- a4.2]; exact a2,a3⟩) (Q97 a9 _ (fun _=>True) _ (Qf4 (by omega)) ⟨rfl,rfl⟩)) ?_ fun _ _ e=>e)
  rintro ⟨⟨⟩,st'⟩ s' ⟨rfl,b0,hf⟩;have b5:(evT (cR (Uj nss)) (kas_sort vs.length)).toList.Perm (bX vs.length):=by
   have:=gY.mp a6.2;simpa using this
  refine fin st' _ b5 (kat_snds rfl b0) hf fun i g1 g2=>?_
  have hr:=a6.1 i g1 g2;have a8:∀ k,(evT (cR (Uj nss)) (kas_sort vs.length)).toList.getD k 0 < vs.length:=fun k=>by
   have b4:AL vs.length (evT (cR (Uj nss)) (kas_sort vs.length)):=AL.perm (p:=cB (bX vs.length)) ⟨by omega,fun x hx=>by simpa using hx⟩ a6.2;have:=b4.get k;rw [dO,<- be] at this;rw [D9]; exact this
  have hg:∀ k,(evT (cR (Uj nss)) (kas_sort vs.length)).getD k 0=(evT (cR (Uj nss)) (kas_sort vs.length)).toList.getD k 0:=fun k=>by
   rw [dO,<- be,D9]
  unfold rk at hr;rw [hg,hg] at hr;have:=Q8b (nss:=nss) (i:=(evT (cR (Uj nss)) (kas_sort vs.length)).toList.getD i 0) (j:=(evT (cR (Uj nss)) (kas_sort vs.length)).toList.getD (i - 1) 0) (by rw [<- hT.length]; exact a8 _) (by rw [<- hT.length]; exact a8 _);rw [<- this];exact bU (gM.mpr hr)
theorem Q7w {d:aB} {es:Array DictEntry} {ep:Nat} {nss:List (Int × Str)} {Q:aA->aC->Prop} (lo:(d == ak)=yl) (hh:A.handled=zb) (hm:RawD s.heap d es ep) (Z:PrsAre s.heap (es.toList.map (·.key)) nss) (J:(es.toList.map (·.key)).length < 64)
  (h:∀ (p:List Nat) (h':Heap) (D k tk:Nat),p.Perm (bX (es.toList.map (·.key)).length)->(∀ i,1<=i->i < (es.toList.map (·.key)).length->Vn (nss.getD (p.getD i 0) dQ) (nss.getD (p.getD (i - 1) 0) dQ)=yl)->s.heap.objs.size<=D->h'.get? D=zo (seqObj "list" (cB (p.map fun i=>(es.toList.map (·.key)).getD i bZ)) k)->(∀ b o,s.heap.get? b=zo o->h'.get? b=zo o)->Q (.ref D) { s with heap:=h',toks:=tk }) :
  aF (aI prog w) A (call (.builtin "sorted") [.ref d]) Q E s:=by
 have hsz:es.size<=sizeLine:=by
  have:(es.toList.map (·.key)).length=es.size:=by simp
  rw [sizeLine_eq]; omega
 refine Calls.call_function_entry kind_sorted plain_sorted entry_sorted (args_sorted1 _) ?_;unfold Builtin.«sorted»;refine aD (m:=checkCount "sorted" 1 1 _) (wpAny_pure ?_);refine aD (Q9n lo (by simpa using hh) hm hsz fun h1 z j O=>?_)
 refine aD (wpAny_newList ?_ (by rw [sizeLine_eq]; omega));generalize es.toList.map (·.key)=vs at *;have I:(h1.push (seqObj "list" vs.toArray 0)).get? h1.objs.size=zo (seqObj "list" vs.toArray 0):=D1 _ rfl;have keep:∀ b o,s.heap.get? b=zo o->(h1.push (seqObj "list" vs.toArray 0)).get? b=zo o:=fun b o q=>O3 _ (j b o q)
 show aF _ _ _ _ _ { s with heap:=h1.push (seqObj "list" vs.toArray 0),toks:=z };refine aD (ae (af slot_list_sort ⟨_,I,rfl⟩ entry_list_sort ?body (args_list_sort _)))
 case body=>
  refine Q7x (s:={ s with heap:=h1.push (seqObj "list" vs.toArray 0),toks:=z }) I (Z.keep keep) J fun p h' k a1 a2 a3 Y=>?_
  exact ⟨_,rfl,wpAny_pure ⟨_,rfl,h p h' _ k z a1 a2 O a3 fun b o e=>Y b o (D8 (D0 (j b o e))) (keep b o e)⟩⟩
end
end L2
namespace L2
open PySem PySem.Spec PyProof.Rows PySem.W
def Qb3 (a:Int × Str):List (Int × Str)->List (Int × Str)
 | []=>[a]
 | b :: r=>if Vn b a=yo then b :: Qb3 a r else a :: b :: r
def X1:List (Int × Str)->List (Int × Str)
 | []=>[]
 | a :: r=>Qb3 a (X1 r)
def leQ (a b:Int × Str):Prop:=Vn b a=yl
theorem Q6w (a b:Int × Str):leQ a b <-> a=b\/Vn a b=yo:=by
 unfold leQ;constructor
 ·intro h;cases z:Vn a b with
  | true=>exact .inr rfl
  | false=>exact .inl (Q35 z h)
 ·rintro (rfl | h)
  ·exact Q36 a
  ·cases z:Vn b a with
   | false=>rfl
   | true=>have:=zk h z; rw [Q36] at this; cases this
theorem Q52 {a b c:Int × Str} (h1:leQ a b) (h2:leQ b c):leQ a c:=by
 rw [Q6w] at *;rcases h1 with rfl | h1
 ·exact h2
 ·rcases h2 with rfl | h2
  ·exact .inr h1
  ·exact .inr (zk h1 h2)
theorem Qhu {a b:Int × Str} (h1:leQ a b) (h2:leQ b a):a=b:=Q35 h2 h1
theorem Q06 (a:Int × Str):∀ l,(Qb3 a l).Perm (a :: l)
 | []=>cM _
 | b :: r=>by
  rw [Qb3]
  split
  ·exact ((Q06 a r).cons b).trans (eG a b r)
  ·exact cM _
theorem Wa:∀ l,(X1 l).Perm l
 | []=>cM _
 | a :: r=>(Q06 a (X1 r)).trans ((Wa r).cons a)
theorem Q0i {a:Int × Str}:∀ {l:List (Int × Str)},l.Pairwise leQ->(Qb3 a l).Pairwise leQ
 | [],_=>by rw [Qb3]; exact List.pairwise_singleton _ _
 | b :: r,h=>by
  obtain ⟨h1,h2⟩:=cf.mp h;rw [Qb3]
  split
  ·rename_i q;refine cf.mpr ⟨fun x j=>?_,Q0i h2⟩;rcases D6.mp ((Q06 a r).mem_iff.mp j) with rfl | j
   ·exact (Q6w b x).mpr (.inr q)
   ·exact h1 x j
  ·rename_i q;have z:leQ a b:=by unfold leQ; simpa using q
   refine cf.mpr ⟨fun x j=>?_,h⟩;rcases D6.mp j with rfl | j
   ·exact z
   ·exact Q52 z (h1 x j)
theorem Wj:∀ l,(X1 l).Pairwise leQ
 | []=>fH
 | a :: r=>Q0i (Wj r)
theorem K9:∀ {a b:List (Int × Str)},a.Perm b->a.Pairwise leQ->b.Pairwise leQ->a=b
 | [],b,h,_,_=>(List.nil_perm.mp h).symm
 | x :: a,[],h,_,_=>absurd (List.perm_nil.mp h) (by simp)
 | x :: a,y :: b,h,Y,Z=>by
  obtain ⟨J,O⟩:=cf.mp Y;obtain ⟨j,I⟩:=cf.mp Z;have e:x=y:=by
   rcases D6.mp (h.mem_iff.mp (F2 (a:=x) (l:=a))) with e | q
   ·exact e
   ·rcases D6.mp (h.mem_iff.mpr (F2 (a:=y) (l:=b))) with e | z
    ·exact e.symm
    ·exact Qhu (J y z) (j x q)
  subst e;rw [K9 (iu h) O I]
theorem Q2i {l:List (Int × Str)} (h:∀ i,1<=i->i < l.length->Vn (l.getD i dQ) (l.getD (i - 1) dQ)=yl):l.Pairwise leQ:=by
 rw [eF];have g:∀ k (z:k < l.length),l.getD k dQ=l[k]:=fun k z=>by rw [D9,O2 z]; rfl
 have q:∀ d i (hi:i + d < l.length),leQ (l.getD i dQ) (l.getD (i + d) dQ):=by
  intro d
  induction d with
  | zero=>intro i hi; exact (Q6w _ _).mpr (.inl rfl)
  | succ d I=>
   intro i hi;have h1:=I i (by omega);have h2:=h (i + d + 1) (by omega) (by omega);rw [fO] at h2;exact Q52 h1 h2
 intro i j hi O J;have:=q (j - i) i (by omega);rw [show i + (j - i)=j by omega,g i hi,g j O] at this;exact this
theorem Q1u {nss:List (Int × Str)} {p:List Nat} (hp:p.Perm (bX nss.length)) (h:∀ i,1<=i->i < nss.length->Vn (nss.getD (p.getD i 0) dQ) (nss.getD (p.getD (i - 1) 0) dQ)=yl):p.map (fun i=>nss.getD i dQ)=X1 nss:=by
 have O:p.length=nss.length:=by rw [hp.length_eq,F3]
 have e1:(bX nss.length).map (fun i=>nss.getD i dQ)=nss:=by
  apply ce;intro i
  by_cases z:i < nss.length
  ·simp [z]
  ·simp [z]
 have J:(p.map fun i=>nss.getD i dQ).Perm nss:=by
  have:=hp.map (fun i=>nss.getD i dQ)
  rwa [e1] at this
 have q:∀ k,k < p.length->(p.map fun i=>nss.getD i dQ).getD k dQ=nss.getD (p.getD k 0) dQ:=fun k j=>by
  rw [D9,D7,O2 j,D9 (l:=p),O2 j];rfl
 refine K9 (J.trans (Wa nss).symm) (Q2i fun i I g2=>?_) (Wj nss);rw [O1] at g2;rw [q i g2,q (i - 1) (by omega)];exact h i I (by omega)
theorem Q8f {P:aK} {w:aJ} {H:Hp} {h:Heap} (ok:HOk P w H h):∀ {kvs:List (HK × V)} {q:List aB} {nss:List (Int × Str)},aR (fun (p:HK × V) (b:aB)=>KR H p.1 b) kvs q->aR (fun (p:HK × V) (ns:Int × Str)=>p.1=.tup [.int ns.1,.str ns.2]) kvs nss->PrsAre h (q.map bY) nss/\aR (fun (v:V) (ns:Int × Str)=>∃ b,v=.ref b/\H b=zo (.tup [.int ns.1,.str ns.2])) (q.map V.ref) nss
 | [],_,_,.nil,.nil=>⟨.nil,.nil⟩
 | p :: kvs,a :: q,ns :: nss,.cons z t,.cons Z u=>by
  obtain ⟨r1,r2⟩:=Q8f ok t u;rw [Z] at z;obtain ⟨⟨b,vs,e,I,v1,q1,e1,k1,v2,q2,e2,k2,k3⟩,_⟩:=z;cases e;cases k1; cases k2; cases k3; subst e2; subst e1;obtain ⟨_,Y,j,o,J,O,n,hd⟩:=ok a _ I;refine ⟨?_,.cons ⟨a,rfl,I⟩ r2⟩;cases j with
  | cons x1 j=>
   cases j with
   | cons x2 j=>
    cases j;obtain ⟨t1,rfl⟩:=x1;obtain ⟨t2,rfl⟩:=x2;exact .cons J O hd r1
section
variable {X:Cx}
theorem Q4g (a7:X.calm=yo):Vs X (.builtin "sorted") (fun xs H Q=>∃ a,∃ kvs:List (HK × V),∃ nss:List (Int × Str),xs=[.ref a]/\H a=zo (.dT kvs)/\kvs.length < 64/\aR (fun (p:HK × V) (ns:Int × Str)=>p.1=.tup [.int ns.1,.str ns.2]) kvs nss /\
  ∀ d (j:List Nat) (vs:List V),H d=zb->aR (fun (v:V) (ns:Int × Str)=>∃ b,v=.ref b/\H b=zo (.tup [.int ns.1,.str ns.2])) vs nss->j.Perm (bX nss.length)->j.map (fun i=>nss.getD i dQ)=X1 nss->Q (.ref d) (upd H d (.lst (j.map fun i=>vs.getD i .non)))):=by
 intro pins s σ H xs us Q I r h;obtain ⟨a,kvs,nss,rfl,ea,a9,hp,q⟩:=h;obtain ⟨u,rfl,rx⟩:=Xt r;cases rx;obtain ⟨z,hs,es,ep,J,hr,hk,Y⟩:=Qbb I.hok ea;obtain ⟨T,a8⟩:=Q8f I.hok Y hp;have l1:kvs.length=J.length:=Paired.length Y;have l2:kvs.length=nss.length:=Paired.length hp;refine Q7w hs (I.ok.hd a7) hr (by rw [hk]; exact T) (by rw [hk,O1]; omega) fun j h' D k tk O a2 a3 a4 a5=>?_
 rw [hk] at O a2 a4;rw [O1] at O a2;have e:=Q1u (nss:=nss) (p:=j) (by rw [<- l2,l1]; exact O) (fun i g1 g2=>a2 i g1 (by omega))
 have b0:j.length=J.length:=by rw [O.length_eq,F3]
 have hv:Vals (j.map fun i=>(J.map V.ref).getD i .non) (j.map fun i=>(J.map bY).getD i bZ):=by
  have a6:∀ l:List Nat,(∀ x∈l,x < J.length)->Vals (l.map fun i=>(J.map V.ref).getD i .non) (l.map fun i=>(J.map bY).getD i bZ):=by
   intro l
   induction l with
   | nil=>intro _; exact .nil
   | cons x l ih=>
    intro hl;have Z:=hl x (by simp);refine .cons ?_ (ih fun y hy=>hl y (O4 _ hy))
    show RelV ((J.map V.ref).getD x .non) ((J.map bY).getD x bZ);rw [D9,D7,O2 Z,D9,D7,O2 Z];rfl
  exact a6 j fun x Z=>by have:=O.mem_iff.mp Z; simpa using this
 exact ⟨.ref D,_,I.laid (t':=tk) (o:=.lst (j.map fun i=>(J.map V.ref).getD i .non)) a5 a3 ⟨by rw [O1]; rw [sizeLine_eq] at *; omega,_,k,hv,a4⟩,rfl,q D j _ (I.hok.fresh a3) a8 (by rw [<- l2,l1]; exact O) e⟩
end
end L2
namespace L2
open PySem PySem.Spec PyProof.Rows SeqAt
section
variable {prog:aK} {w:aJ} {A:aL} {R:Result->aC->Prop}
def Jr (xs ps:List (HK × aB × aA)):List (HK × aB × aA):=ps.foldl (fun acc p=>storedH acc p.1 p.2.1 p.2.2) xs
theorem Q7r (xs:List (HK × aB × aA)) (k:HK) (a:aB) (v:aA):(storedH xs k a v).length<=xs.length + 1:=by
 unfold storedH
 split <;> simp
theorem Q1p (xs:List (HK × aB × aA)):∀ ps,(Jr xs ps).length<=xs.length + ps.length:=by
 intro ps;unfold Jr
 induction ps generalizing xs with
 | nil=>simp
 | cons p ps j=>
  rw [F1,D5];have h1:=j (storedH xs p.1 p.2.1 p.2.2);have h2:=Q7r xs p.1 p.2.1 p.2.2;omega
theorem Q0r (xs ps:List (HK × aB × aA)) (p:HK × aB × aA):Jr xs (ps ++ [p])=storedH (Jr xs ps) p.1 p.2.1 p.2.2:=by unfold Jr; rw [eI]; rfl
def Qda (prog:aK) (w:aJ) (h:Heap) (v:aA) (p:HK × aB × aA):Prop:=∃ a,v=.ref a/\IsTup h a #[.ref p.2.1,p.2.2]/\(nk prog w).is h p.1 p.2.1
theorem Q18 {h h':Heap} {D:aB} {xs:List (HK × aB × aA)} (d:h.DictOfH (nk prog w) D xs) (k:∀ o,h.get? D=zo o->h'.get? D=zo o) (I:∀ a its,IsTup h a its->IsTup h' a its):h'.DictOfH (nk prog w) D xs:=by
 obtain ⟨o,es,ep,h1,h2,O,z,q,J⟩:=d;exact ⟨o,es,ep,k o h1,h2,O,z,fun x j=>⟨KIs.keep I 5 (q x j).2 (q x j).1,(q x j).2⟩,J⟩
theorem Qdg {I l D:aB} {j:Array aA} {xs ps:List (HK × aB × aA)} {h0:Heap} (hu:A.in1.units + 5 < aQ) (hh:A.handled=zb) (c1:l≠I) (a4:D≠I) (b7:D≠l) (hI:∀ b o,h0.get? b=zo o->b≠I) (b9:∀ its,¬ IsTup h0 D its)
  (hn:j.size=ps.length) (hp:∀ (i:Nat) (v:aA) (p:HK × aB × aA),j[i]?=zo v->ps[i]?=zo p->Qda prog w h0 v p) (hsz:xs.length + ps.length<=sizeLine) :
  ∀ (k i:Nat) (s:aC),j.size - i=k->i<=j.size->(s.heap.IsListIter I l i/\s.heap.IsList l j)->(∀ b o,b≠D->h0.get? b=zo o->s.heap.get? b=zo o)->s.heap.DictOfH (nk prog w) D (Jr xs (ps.take i)) ->
   (∀ h' tk,h'.DictOfH (nk prog w) D (Jr xs ps)->(∀ b o,b≠D->h0.get? b=zo o->h'.get? b=zo o)->R (.ok (.ret .none)) { s with heap:=h',toks:=tk }) ->
   codeAny (aI prog w) A (.builtin "dict.update.loop" ⟨[.ref D,.ref I,aU i,.none],[]⟩) R s:=by
 have W:=Walks.list (prog:=prog) (w:=w) (A:=A.in1) (by simpa using hh) I l c1 j;have nI:∀ {i:Nat} {h:Heap},h.IsListIter I l i->∀ its,¬ IsTup h I its:=by
  rintro i h ⟨o,h1,h2,_⟩ its ⟨o',g1,g2,_⟩;rw [h1] at g1; cases g1;rw [h2] at g2; exact absurd g2 (by decide)
 intro k
 induction k with
 | zero=>
  intro i s hk hi O q hD hR;have c0:i=j.size:=by omega
  subst c0;refine ay Ku ?_;rw [Around.under_plainId W3 _];show aF _ A.in1 (ag (.ref I) >>= _) _ _ s;refine aD (W.done s _ _ O fun h' tk hm=>?_);show aF _ A.in1 (Builtin.Dict.addKeywords D [] >>= fun _=>ret bZ) _ _ _;refine aD (wpAny_pure (wpAny_pure (hR h' tk ?_ fun b o hb e=>hm b o (fun z=>hI b o e (by simpa using z)) (q b o hb e))))
  rw [hn,eN] at hD;refine Q18 hD (fun o e=>hm D o (fun z=>a4 (by simpa using z)) e) fun a its x=>?_
  have:a≠I:=fun z=>by subst z; exact nI O.1 its x
  obtain ⟨o',x1,x2⟩:=x;exact ⟨o',hm a o' (by simpa using this) x1,x2⟩
 | succ k ih=>
  intro i s hk hi O q hD hR;have a6:i < j.size:=by omega
  refine ay Ku ?_;rw [Around.under_plainId W3 _];show aF _ A.in1 (ag (.ref I) >>= _) _ _ s;refine aD (W.item i s _ _ a6 O fun v h' tk hP a2 hm=>?_);have b0:i < ps.length:=by omega
  obtain ⟨a,rfl,ht,Y⟩:=hp i v ps[i] hP (O2 b0);have J:∀ b o,b≠D->h0.get? b=zo o->h'.get? b=zo o:=fun b o hb e=>hm b o (fun z=>hI b o e (by simpa using z)) (q b o hb e)
  have a9:∀ a its,IsTup h0 a its->IsTup h' a its:=fun a its x=>by
   have:a≠D:=fun z=>by subst z; exact b9 its x
   obtain ⟨o',x1,x2⟩:=x;exact ⟨o',J a o' this x1,x2⟩
  have b3:h'.DictOfH (nk prog w) D (Jr xs (ps.take i)):=Q18 hD (fun o e=>hm D o (fun z=>a4 (by simpa using z)) e) fun a its x=>by
   have:a≠I:=fun z=>by subst z; exact nI O.1 its x
   obtain ⟨o',x1,x2⟩:=x;exact ⟨o',hm a o' (by simpa using this) x1,x2⟩
  have a5:(nk prog w).is h' ps[i].1 ps[i].2.1:=⟨KIs.keep a9 5 Y.2 Y.1,Y.2⟩;show aF _ A.in1 (ar [bY a] _ >>= _) _ _ _;refine aD (ae ?_);obtain ⟨ot,a3,b6,nt,b2⟩:=a9 a _ ht;have b1:Shared.TypeIs { s with heap:=h',toks:=tk } (.ref a) "tuple" := ⟨ot,a3,b6⟩;refine aD (wpAny_tryCatch ?_);unfold Builtin.Dict.pairItems;refine aD (bC b1 ?_);rw [bS (by decide)];refine aD (bA a3 b2 ?_);refine wpAny_pure ?_;show aF _ A.in1 (ar [.ref ps[i].2.1,(ps[i]).2.2] (dictSet D (.ref ps[i].2.1) (ps[i]).2.2)) _ _ _;have b4:(Jr xs (ps.take i)).length<=sizeLine:=by
   have:=Q1p xs (ps.take i);have h2:(ps.take i).length<=ps.length:=by rw [cN]; omega
   omega
  refine ae (wpAny_dictSet_heap (knd:=nk prog w) (s:={ s with heap:=h',toks:=tk }) (k:=(ps[i]).1) hu a5 b3 (fun a1 a7 Z=>?_) b4);have b5:∀ b o,b≠D->h0.get? b=zo o->a1.get? b=zo o:=fun b o hb e=>(Z.2 b hb).trans (J b o hb e)
  have a8:a1.IsListIter I l (i + 1)/\a1.IsList l j:=⟨a2.1.at fun o e=>(Z.2 I (Ne.symm a4)).trans e,a2.2.at fun o e=>(Z.2 l (Ne.symm b7)).trans e⟩;have e1:ps.take (i + 1)=ps.take i ++ [ps[i]]:=by rw [iM,O2 b0]; rfl
  have b8:a1.DictOfH (nk prog w) D (Jr xs (ps.take (i + 1))):=by rw [e1,Q0r]; exact a7
  exact wpAny_pure ⟨bF W3 _,ih (i + 1) _ (by omega) a6 a8 b5 b8 fun h3 t3 d3 k3=>hR h3 t3 d3 k3⟩
end
section
variable {X:Cx}
def putAll (kvs:List (HK × V)) (ps:List (HK × aB × V)):List (HK × V):=ps.foldl (fun acc p=>Kh acc p.1 p.2.2) kvs
theorem KT.putAll {H:Hp}:∀ {ps:List (HK × aB × V)} {j:List (HK × aB × aA)} {kvs:List (HK × V)} {xs:List (HK × aB × aA)},KT H kvs xs->aR (fun (p:HK × aB × V) (q:HK × aB × aA)=>p.1=q.1/\p.2.1=q.2.1/\KR H p.1 p.2.1/\RelV p.2.2 q.2.2) ps j->KT H (L2.putAll kvs ps) (Jr xs j)
 | _,_,_,_,r,.nil=>r
 | p :: ps,q :: j,_,_,r,.cons ⟨e1,e2,e3,z⟩ t=>by
  show KT H (L2.putAll (Kh _ p.1 p.2.2) ps) (Jr (storedH _ q.1 q.2.1 q.2.2) j);rw [<- e1,<- e2];exact KT.putAll (r.put p.1 e3 z) t
theorem Qag (kvs:List (HK × V)):∀ ps,(putAll kvs ps).length<=kvs.length + ps.length:=by
 intro ps;unfold putAll
 induction ps generalizing kvs with
 | nil=>simp
 | cons p ps j=>
  rw [F1,D5];have h1:=j (Kh kvs p.1 p.2.2);have h2:=qu kvs p.1 p.2.2;omega
theorem Qeb (hu:X.A.units + 9 < aQ) (hc:X.calm=yo):MtR X "dict.update" (fun x vs H Q=>∃ a p,∃ kvs:List (HK × V),∃ us,∃ ps:List (HK × aB × V),x=.ref a/\vs=[.ref p]/\H a=zo (.dT kvs)/\H p=zo (.lst us)/\aR (fun v (z:HK × aB × V)=>∃ c,v=.ref c/\H c=zo (.tup [.ref z.2.1,z.2.2])/\KR H z.1 z.2.1) us ps/\kvs.length + ps.length<=sizeLine/\Q .non (upd H a (.dT (putAll kvs ps)))):=by
 intro pins s σ H x vs v c9 Q I rx rv h;obtain ⟨D,p,kvs,us,ps,rfl,rfl,ea,hq,b9,hl,q⟩:=h;cases rx;obtain ⟨u,rfl,ru⟩:=rv.one;cases ru;obtain ⟨z,hd,xs,b1,dd⟩:=Qiu I.hok ea;obtain ⟨b8,its,n,r',c4,O⟩:=I.lstM hq;obtain ⟨oD,b7,b5,Y,b3,a4,a5⟩:=dd;have dd:s.heap.DictOfH (nk X.prog X.w) D xs:=⟨oD,b7,b5,Y,b3,a4,a5⟩;have b2:s.TypeIs (.ref D) "dict" := ⟨oD,Y,b3.1⟩;have b6:D≠p:=fun e=>by subst e; rw [Y] at O; cases O; cases a4
 have c2:∀ its,¬ IsTup s.heap D its:=by
  rintro its ⟨o',g1,g2,n,g3⟩;rw [Y] at g1; cases g1;rw [a4] at g3; cases g3
 obtain ⟨Z,a8,J⟩:∃ Z:List (HK × aB × aA),aR (fun (p:HK × aB × V) (q:HK × aB × aA)=>p.1=q.1/\p.2.1=q.2.1/\KR H p.1 p.2.1/\RelV p.2.2 q.2.2) ps Z/\(its.length=Z.length/\∀ (i:Nat) (v:aA) (p:HK × aB × aA),its[i]?=zo v->Z[i]?=zo p->Qda X.prog X.w s.heap v p):=by
  have hok:=I.hok;clear q hl O hq b8 c4
  induction b9 generalizing its with
  | nil=>cases r'; exact ⟨[],.nil,rfl,fun i v p h=>by simp at h⟩
  | cons h1 _ ih=>
   cases r' with
   | cons y1 y2=>
    obtain ⟨Z,a1,a2,a3⟩:=ih _ y2;obtain ⟨c,rfl,c5,hk⟩:=h1;cases y1;obtain ⟨_,c7,rj,ht⟩:=hok c _ c5;cases rj with
    | cons x1 rj=>
     cases rj with
     | cons x2 rj=>
      cases rj;cases x1;rename_i zz _ _ _ _ vv;refine ⟨(_,_,vv) :: Z,.cons ⟨rfl,rfl,hk,x2⟩ a1,by simp [a2],fun i v p e1 e2=>?_⟩
      cases i with
      | zero=>
       simp at e1 e2;subst e1; subst e2;exact ⟨c,rfl,ht,U0 hok hk⟩
      | succ i=>exact a3 i v p (by simpa using e1) (by simpa using e2)
 have c8:ps.length=Z.length:=Paired.length a8;have d0:kvs.length=xs.length:=Paired.length b1;have hh:=I.ok.hd hc;refine wpAny_call (codeAny_call_builtin F.slot_dict_update.plain F.entry_dict_update (F.slot_dict_update.check _ _ _ _ _ _ _ _ b2 (F.args_dict_update_2 _ _) ?_));unfold Builtin.«dict.update»;refine aD ?_;unfold Builtin.Dict.selfAndRest;refine aD (wpAny_notOrdered_dict b2 ?_);show aF _ _ (pure (D,[bY p])) _ _ _;refine wpAny_pure ?_;show aF _ _ (Builtin.Dict.updateFrom "dict.update" D (.ref p) [] .none) _ _ _;unfold Builtin.Dict.updateFrom;refine aD (bC (T := "list") ⟨_,O,rfl⟩ ?_);rw [bS (by decide)];refine aD (Q4d O (by simpa using hh) fun h2 d1 j=>?_)
 rw [bS (by rfl)];have a7:=j _ _ O;have b0:h2.IsList p its.toArray:=⟨_,a7,rfl,n,rfl⟩;have c1:h2.DictOfH (nk X.prog X.w) D xs:=Q18 dd (fun o e=>j _ _ e) fun a its x=>let ⟨o',x1,x2⟩:=x; ⟨o',j _ _ x1,x2⟩
 have a9:D < h2.objs.size:=D0 (j _ _ Y);refine aD (aD (m:=rule _) (bP (wpAny_pure (aD (wpAny_pyIter_list b0 ?_)))));refine wpAny_pure ⟨bF W3 _,?_⟩;have sb:∀ (h2:Heap) (o:Obj),∀ a its,IsTup h2 a its->IsTup (h2.push o) a its:=fun h2 o a its x=>let ⟨o',x1,x2⟩:=x; ⟨o',O3 _ x1,x2⟩
 refine Qdg (A:=X.A) (I:=h2.objs.size) (l:=p) (D:=D) (xs:=xs) (ps:=Z) (h0:=s.heap) (by show X.A.units + 1 + 5 < aQ; omega) (by simpa using hh) (D8 (D0 a7)) (D8 a9) b6 (fun b o e=>D8 (D0 (j b o e))) c2
  (by rw [O8]; exact J.1) (fun i v p e1 e2=>J.2 i v p (by simpa using e1) e2) (by omega) (its.toArray.size - 0) 0 _ rfl (F6 _) ⟨⟨_,D1 _ rfl,rfl,rfl⟩,b0.push _⟩ (fun b o _ e=>O3 _ (j b o e)) ?dk fun h' tk d k=>?_
 case dk=>exact Q18 c1 (fun o e=>O3 _ e) (sb _ _)
 obtain ⟨q1,es,ep,a6,c3,b4,c6,_,c0⟩:=d;refine ⟨.non,_,I.write (x:=D) (e:=D) (o:=.dT (putAll kvs ps)) (by rw [ea]; exact True.intro) (.inl rfl) (fun b o hb e=>k b o hb e) ⟨q1,a6⟩ ⟨?_,hd,_,(b1.putAll a8).keeps fun c ys ec=>?_,q1,es,ep,a6,c3,b4,c6,c0⟩,rfl,q⟩
 ·have:=Qag kvs ps; omega
 ·rw [Qg (Qhb ec ea (fun z=>nomatch z))];exact ec
end
end L2
namespace L2
open PySem PySem.Spec PyProof.Rows PySem.W
theorem PrsAre.perm {h:Heap} {l l':List aA} (p:l'.Perm l):∀ {ns:List (Int × Str)},PrsAre h l ns->∃ j,PrsAre h l' j/\j.Perm ns:=by
 induction p with
 | nil=>intro ns h; exact ⟨ns,h,cM _⟩
 | cons x _ ih=>
  intro ns h;cases h with
  | cons q I hd Z=>
   obtain ⟨ks,h1,h2⟩:=ih Z;exact ⟨_,.cons q I hd h1,h2.cons _⟩
 | swap x y l=>
  intro ns h;cases h with
  | cons q I hd Z=>
   cases Z with
   | cons a2 z J O=>exact ⟨_,.cons a2 z J (.cons q I hd O),eG _ _ _⟩
 | trans _ _ a1 Y=>
  intro ns h;obtain ⟨k1,h1,p1⟩:=Y h;obtain ⟨k2,h2,p2⟩:=a1 h1;exact ⟨k2,h2,p2.trans p1⟩
theorem PrsAre.one {h:Heap}:∀ {vs:List aA} {ns:List (Int × Str)},PrsAre h vs ns->∀ i,i < vs.length->PrsAre h [vs.getD i bZ] [ns.getD i dQ]
 | _,_,.nil,i,hi=>by simp at hi
 | _,_,.cons j q hd r,0,_=>.cons j q hd .nil
 | _,_,.cons j q hd r,i + 1,z=>by simpa using r.one i (by simpa using z)
theorem PrsAre.app {h:Heap}:∀ {vs j:List aA} {ns q:List (Int × Str)},PrsAre h vs ns->PrsAre h j q->PrsAre h (vs ++ j) (ns ++ q)
 | _,_,_,_,.nil,g=>g
 | _,_,_,_,.cons z I hd r,g=>.cons z I hd (r.app g)
theorem PrsAre.pick {h:Heap} {vs:List aA} {ns:List (Int × Str)} (r:PrsAre h vs ns):∀ (p:List Nat),(∀ i∈p,i < vs.length)->PrsAre h (p.map fun i=>vs.getD i bZ) (p.map fun i=>ns.getD i dQ)
 | [],_=>.nil
 | i :: p,hp=>(r.one i (hp i (by simp))).app (r.pick p fun j q=>hp j (O4 _ q))
theorem jt {a b:List (Int × Str)} (h:a.Perm b):X1 a=X1 b:=K9 ((Wa a).trans (h.trans (Wa b).symm)) (Wj a) (Wj b)
section
variable {prog:aK} {w:aJ} {A:aL} {E:aA->aC->Prop} {s:aC}
theorem jh {vs:List aA}:(bX vs.length).map (fun i=>vs.getD i bZ)=vs:=by
 apply ce;intro i
 by_cases z:i < vs.length
 ·simp [z]
 ·simp [z]
theorem Q7v {d:aB} {es:Array (Int × aA)} {ep:Nat} {t:aV} {ns:List (Int × Str)} {Q:aA->aC->Prop} (hh:A.handled=zb) (x:RawS s.heap d es ep t) (hf:t.fits es.size=yo) (g:Good (byT w) t) (hI:PrsAre s.heap (es.toList.map (·.2)) ns) (a7:es.size < 64)
  (h:∀ (O:List aA) (h':Heap) (d':Drawn) (tk D k:Nat),PrsAre h' O (X1 ns)->O.Perm (es.toList.map (·.2))->s.heap.objs.size<=D->h'.get? D=zo (seqObj "list" O.toArray k)->(∀ b o,s.heap.get? b=zo o->h'.get? b=zo o)->Q (.ref D) { s with heap:=h',drawn:=d',toks:=tk }) :
  aF (aI prog w) A (call (.builtin "sorted") [.ref d]) Q E s:=by
 have hsz:es.size<=sizeLine:=by rw [sizeLine_eq]; omega
 refine Calls.call_function_entry kind_sorted plain_sorted entry_sorted (args_sorted1 _) ?_;unfold Builtin.«sorted»;refine aD (m:=checkCount "sorted" 1 1 _) (wpAny_pure ?_);refine aD (Q9m (by simpa using hh) x hf g hsz fun vs h1 d1 I pm j a5=>?_)
 have hl:vs.length=es.size:=by rw [pm.length_eq]; simp
 obtain ⟨n1,Z,p1⟩:=PrsAre.perm pm hI;refine aD (wpAny_newList ?_ (by rw [sizeLine_eq]; omega));have J:(h1.push (seqObj "list" vs.toArray 0)).get? h1.objs.size=zo (seqObj "list" vs.toArray 0):=D1 _ rfl;have keep:∀ b o,s.heap.get? b=zo o->(h1.push (seqObj "list" vs.toArray 0)).get? b=zo o:=fun b o q=>O3 _ (j b o q)
 show aF _ _ _ _ _ { s with heap:=h1.push (seqObj "list" vs.toArray 0),drawn:=d1,toks:=I };have i2:=Z.keep keep;refine aD (ae (af slot_list_sort ⟨_,J,rfl⟩ entry_list_sort ?body (args_list_sort _)))
 case body=>
  refine Q7x (s:={ s with heap:=h1.push (seqObj "list" vs.toArray 0),drawn:=d1,toks:=I }) J i2 (by omega) fun p h' k a1 a2 a3 a4=>?_
  have a6:∀ i∈p,i < vs.length:=fun i hi=>by have:=a1.mem_iff.mp hi; simpa using this
  have e:=Q1u (nss:=n1) (p:=p) (by rw [<- Z.length]; exact a1) (fun i g1 g2=>a2 i g1 (by rw [Z.length]; exact g2))
  have Y:=i2.pick p a6;rw [e,jt p1] at Y;refine ⟨_,rfl,wpAny_pure ⟨_,rfl,h (p.map fun i=>vs.getD i bZ) h' d1 I _ k ?_ ?_ a5 a3 fun b o q=>a4 b o (D8 (D0 (j b o q))) (keep b o q)⟩⟩
  ·exact Y.keepT fun b o hc q=>a4 b o (fun z=>by
    rw [z,J] at q;have q:=bj q;rw [<- q] at hc;exact absurd (show bi "list" = .type "tuple" from hc) (by decide)) q
  ·have:=a1.map (fun i=>vs.getD i bZ);rw [jh] at this;exact this.trans pm
end
def Qw4 (w:aJ) (h:Heap) (a:aB) (bs:List aB):Prop:=∃ o es ep t,h.get? a=zo o/\o.ExactSet/\o.data=.set es ep t/\es.toList.map (·.2)=bs.map bY/\t.fits es.size=yo/\Good (byT w) t
def Q57 (w:aJ) (a:aB) (bs:List aB):HO:=.ext fun h=>Qw4 w h a bs
section
variable {X:Cx}
theorem Qpt {H:Hp} {h':Heap} {P:aK} {w:aJ} (j:∀ k b,KR H k b->(nk P w).is h' k b):∀ {es:List (Int × aA)} {ks:List HK},aR (ElH P w (fun b=>∃ k,KR H k b) h') es ks->∃ bs:List aB,es.map (·.2)=bs.map bY/\aR (fun b k=>KR H k b) bs ks
 | [],_,.nil=>⟨[],rfl,.nil⟩
 | e :: es,k :: ks,.cons ⟨b,e1,e2,_,k2,q⟩ t=>by
  obtain ⟨bs,h1,h2⟩:=Qpt j t;have:k=k2:=(nk P w).inj e2 (j k2 b q);exact ⟨b :: bs,by rw [D2,D2,e1,h1],.cons (by rw [this]; exact q) h2⟩
theorem Qf1 (hu:X.A.units + 9 < aQ) (hc:X.calm=yo):Vs X (.type "set") (fun xs H Q=>∃ p vs,∃ ks:List HK,xs=[.ref p]/\SqT X.K H p vs/\aR (fun v k=>∃ b,v=.ref b/\KR H k b) vs ks/\ks.length<=76/\∀ l bs j,H l=zb->j.Perm (Y3 ks)->aR (fun b k=>KR H k b) bs j->Q (.ref l) (upd H l (Q57 X.w l bs))):=by
 intro pins s σ H xs us Q I r h;obtain ⟨p,vs,ks,rfl,hq,hk,hl,q⟩:=h;obtain ⟨u,rfl,Y⟩:=Xt r;cases Y;obtain ⟨its,Z,pl,hz⟩:=I.tuple hq;have O:its.length=ks.length:=by rw [<- Z.length,Paired.length hk]
 refine ju (B:=fun b=>∃ k,KR H k b) (ks:=ks) hu (I.ok.hd hc) pl (by rw [O8,O]) (fun i v e=>?_) hl fun h' tk gh k=>?_
 ·have e:its[i]?=zo v:=by simpa using e
  have hi:i < vs.length:=by have:=(O0.mp e).1; rw [Z.length]; exact this
  obtain ⟨x,ex,Y⟩:=Z.get (O2 hi);rw [e] at ex; cases ex;obtain ⟨k,ek,b,eb,J⟩:=Ki hk (O2 hi);rw [eb] at Y;cases Y;exact ⟨k,b,ek,rfl,U0 I.hok J,k,J⟩
 ·obtain ⟨o,es,ep,t,h1,h2,h3,⟨j,p1,r1⟩,h5,h6⟩:=gh;obtain ⟨bs,b1,b2⟩:=Qpt (fun k2 b J=>⟨KIs.keep (fun a its ⟨o',x1,x2⟩=>⟨o',k a o' x1,x2⟩) 5 (U0 I.hok J).2 (U0 (P:=X.prog) (w:=X.w) I.hok J).1,(U0 (P:=X.prog) (w:=X.w) I.hok J).2⟩) r1
  have sz:Qw4 X.w h' s.heap.objs.size bs:=⟨o,es,ep,t,h1,h2,h3,b1,by have:=h6.fits; rwa [O1,bc] at this,h6.good⟩;refine ⟨.ref s.heap.objs.size,upd H s.heap.objs.size (Q57 X.w s.heap.objs.size bs),I.laid (t':=tk) k (O5 _) ⟨sz,⟨o,h1⟩,fun h1 h2 z kk=>?_⟩,rfl,q _ bs j (I.hok.fresh (O5 _)) p1 b2⟩
  obtain ⟨o,es,ep,t,g1,g2⟩:=z;exact ⟨o,es,ep,t,kk _ g1,g2⟩
theorem Qge {P:aK} {w:aJ} {H:Hp} {h:Heap} (ok:HOk P w H h):∀ {bs:List aB} {ns:List (Int × Str)},aR (fun b (n:Int × Str)=>H b=zo (.tup [.int n.1,.str n.2])) bs ns->PrsAre h (bs.map bY) ns
 | [],_,.nil=>.nil
 | b :: bs,n :: ns,.cons J t=>by
  obtain ⟨_,I,j,o,q,z,m,hd⟩:=ok b _ J;cases j with
  | cons x1 j=>
   cases j with
   | cons x2 j=>
    cases j;obtain ⟨Y,rfl⟩:=x1;obtain ⟨O,rfl⟩:=x2;exact .cons q z hd (Qge ok t)
theorem Qgv {P:aK} {w:aJ} {H:Hp} {h h':Heap} (ok:HOk P w H h) (kp:∀ b o,h.get? b=zo o->h'.get? b=zo o) {bs:List aB} {ns:List (Int × Str)} (hp:aR (fun b (n:Int × Str)=>H b=zo (.tup [.int n.1,.str n.2])) bs ns):∀ {q:List aA} {ms:List (Int × Str)},PrsAre h' q ms->(∀ v∈q,v∈bs.map bY)->∃ ds:List V,Vals ds q/\aR (fun (v:V) (n:Int × Str)=>∃ b,v=.ref b/\H b=zo (.tup [.int n.1,.str n.2])) ds ms
 | [],_,.nil,_=>⟨[],.nil,.nil⟩
 | _ :: q,_ :: ms,.cons (a:=a) (x:=x) (y:=y) Y hc hd r,hm=>by
  obtain ⟨ds,d1,d2⟩:=Qgv ok kp hp r fun v hv=>hm v (O4 _ hv)
  obtain ⟨b,hb,e⟩:=F0.mp (hm (.ref a) (by simp));cases e;obtain ⟨n,hn,O⟩:=qi hp hb;obtain ⟨_,Z,z,o',I,a1,m,j⟩:=ok a _ O;rw [kp a o' I] at Y;cases Y;rw [hd] at j;cases z with
  | cons x1 z=>
   cases z with
   | cons x2 z=>
    cases z;obtain ⟨t1,rfl⟩:=x1;obtain ⟨t2,rfl⟩:=x2;injection j with J _
    have j:=congrArg ee J;simp only [iO,Value.int.injEq,Value.str.injEq] at j;obtain ⟨⟨q1,_⟩,⟨q2,_⟩,_⟩:=j;exact ⟨.ref a :: ds,.cons rfl d1,.cons ⟨a,rfl,by rw [O,q1,q2]⟩ d2⟩
theorem Q7b (hc:X.calm=yo):Vs X (.builtin "sorted") (fun xs H Q=>∃ p bs,∃ ns:List (Int × Str),xs=[.ref p]/\H p=zo (Q57 X.w p bs)/\bs.length < 64/\aR (fun b (n:Int × Str)=>H b=zo (.tup [.int n.1,.str n.2])) bs ns/\∀ d ds,H d=zb->aR (fun (v:V) (n:Int × Str)=>∃ b,v=.ref b/\H b=zo (.tup [.int n.1,.str n.2])) ds (X1 ns)->Q (.ref d) (upd H d (.lst ds))):=by
 intro pins s σ H xs us Q I r h;obtain ⟨p,bs,ns,rfl,hp,hl,z,q⟩:=h;obtain ⟨u,rfl,rx⟩:=Xt r;cases rx;obtain ⟨⟨o,es,ep,t,ho,hx,hd,J,hf,hg⟩,_,_⟩:=I.hok p _ hp;have hz:es.size=bs.length:=by
  have:=congrArg dG J;simpa using this
 refine Q7v (I.ok.hd hc) ⟨o,ho,hx,hd⟩ hf hg (by rw [J]; exact Qge I.hok z) (by omega) fun j h' d' tk D k a1 O Z a4 Y=>?_
 rw [J] at O;obtain ⟨ds,d1,d2⟩:=Qgv I.hok Y z a1 fun v hv=>O.mem_iff.mp hv
 have a6:j.length=bs.length:=by rw [O.length_eq,O1]
 have a7:ds.length=j.length:=d1.length;exact ⟨.ref D,upd H D (.lst ds),Inv.redraw (I.laid (t':=tk) (o:=.lst ds) Y Z ⟨by rw [sizeLine_eq]; omega,j,k,d1,a4⟩) d',rfl,q D ds (I.hok.fresh Z) d2⟩
end
end L2
namespace L2
open PySem PySem.Spec PyProof.Rows
theorem Qn4:typeLookup (.type "list_reverseiterator") "__len__" = pure zb:=by rw [typeLookup_type,builtinLookup_eq_fast]; kernel_rfl
theorem Qhq:typeLookup (.type "list_reverseiterator") "__length_hint__" = pure (zo (.builtin "list_reverseiterator.__length_hint__")):=by rw [typeLookup_type,builtinLookup_eq_fast]; kernel_rfl
section
variable {prog:aK} {w:aJ} {A:aL} {E:aA->aC->Prop} {s:aC}
theorem Qia {I l:aB} {i:Int} {Q:Bool->aC->Prop} (z:s.heap.IsRevIter I l i) (h:Q yl s):aF (aI prog w) A (Builtin.List.listLengthHint (.ref I)) Q E s:=by
 unfold Builtin.List.listLengthHint;refine aD (wpAny_specialOf z.typeIs Qn4 ?_);refine az (fun j=>absurd j (by decide)) (fun _=>?_)
 refine az (fun j=>absurd j (by decide)) (fun _=>?_)
 refine aD (wpAny_specialOf z.typeIs Qhq ?_);generalize hid:("list_reverseiterator.__length_hint__" : String)=q
 wp_delta
 rw [show splitId q=zo ("list_reverseiterator", "__length_hint__") from by subst hid; decide +kernel];subst hid;refine aD (bK (T := "list_reverseiterator") (b:=yo) z.typeIs (by rw [bN]; kernel_rfl) ?_);refine az (fun j=>absurd j (by decide)) (fun _=>?_)
 refine az (fun _=>?_) (fun j=>absurd (by decide +kernel) j)
 refine az (fun j=>absurd j (by decide +kernel)) (fun _=>?_)
 exact wpAny_pure h
theorem Qb9 {R:Result->aC->Prop} {I l:aB} {j:Array aA} (hh:A.handled=zb) (Y:s.heap.IsRevIter I l ((j.size:Int) - 1)) (hl:s.heap.IsList l j) (a9:j.size<=2 ^ 24) (S:aB) (res:aA) (J:Nat) (hS:s.heap.get? S=zo { cls:=.type "list",data:=.seq #[] J }) (a8:S≠l)
  (hR:∀ h' tk q O,(∀ b o,b≠S->b≠I->s.heap.get? b=zo o->h'.get? b=zo o)->h'.get? S=zo { cls:=.type "list",dict:=zb,data:=.seq q O,slots:=#[] } ->
   ItemsOf (fun i v=>j[j.size - 1 - i]?=zo v) q j.size->R (.ok (.ret res)) { s with heap:=h',toks:=tk }) :
  aF (aI prog w) A.in1 (Builtin.List.listExtendWith (.ref S) (.ref I) res)
   (fun fin s'=>match fin with | .done f=>R (.ok f) s' | .again O=>O.quiet=yo/\codeAny (aI prog w) A O R s') (fun e s'=>R (.error e) s') s:=by
 have Z:S≠I:=fun e=>by
  obtain ⟨o,h1,h2,_⟩:=Y;rw [<- e,hS] at h1; cases h1;have h2:bi "list" = bi "list_reverseiterator" := h2;exact absurd h2 (by decide)
 have a6:l≠I:=fun e=>by
  obtain ⟨o,h1,h2,_⟩:=Y;obtain ⟨o',g1,g2,_⟩:=hl;rw [e,h1] at g1; cases g1;rw [h2] at g2; exact absurd g2 (by decide)
 have a5:S∉[I,l]:=fun hm=>by
  simp at hm;rcases hm with e | e
  ·exact Z e
  ·exact a8 e
 have W:=(Walks.listRev (prog:=prog) (w:=w) (A:=A.in1) hh I l a6 j).toS;have a2:(0:Nat)<=j.size/\s.heap.IsRevIter I l ((j.size:Int) - 1 - ((0:Nat):Int))/\s.heap.IsList l j:=⟨F6 _,by simpa using Y,hl⟩;unfold Builtin.List.listExtendWith;refine aD (bC (T := "list_reverseiterator") Y.typeIs ?_);have h1:Builtin.List.listSameRef (.ref S) (.ref I)=yl:=by simp [Builtin.List.listSameRef,Z]
 have h2:(bi "list_reverseiterator" == bi "list")=yl:=by decide
 have h3:(bi "list_reverseiterator" == bi "tuple")=yl:=by decide
 simp only [h1,h2,h3,dH,E7,if_false];refine aD (wpAny_pyIter_revIter Y ?_);refine aD (ae (Qia Y ?_));refine az (fun a4=>absurd a4 (by decide)) (fun _=>wpAny_pure ⟨bF F.plain_extend_loop _,?_⟩)
 refine codeAny_extend_loopS W (by rw [sizeLine_eq]; omega) S a5 res j.size 0 _ #[] J rfl (F6 _) a2 hS (ItemsOf.nil _) fun s' q O hm a3 a1=>?_
 rw [Moved.eq_with hm];refine hR s'.heap s'.toks q O (fun b o hb a7 e=>hm.heap b o (fun z=>?_) e) a3 a1
 rcases D6.mp z with e' | z
 ·exact hb e'
 ·exact a7 (by simpa using z)
theorem Qi2 {R:Result->aC->Prop} {I l:aB} {j:Array aA} (hh:A.handled=zb) (hr:s.heap.IsRevIter I l ((j.size:Int) - 1)) (hl:s.heap.IsList l j) (Z:j.size<=2 ^ 24) (S:aB) (hS:s.heap.get? S=zo { cls:=.type "list",data:=.seq #[] }) (a1:S≠l)
  (hR:∀ h' tk q O,(∀ b o,b≠S->b≠I->s.heap.get? b=zo o->h'.get? b=zo o)->h'.get? S=zo { cls:=.type "list",dict:=zb,data:=.seq q O,slots:=#[] } ->
   ItemsOf (fun i v=>j[j.size - 1 - i]?=zo v) q j.size->R (.ok (.ret .none)) { s with heap:=h',toks:=tk }) :
  aF (aI prog w) A.in1 (Builtin.«list.__init__» ⟨[.ref S,.ref I],[]⟩)
   (fun fin s'=>match fin with | .done f=>R (.ok f) s' | .again O=>O.quiet=yo/\codeAny (aI prog w) A O R s') (fun e s'=>R (.error e) s') s:=by
 have a2:S≠I:=fun e=>by
  obtain ⟨o,h1,h2,_⟩:=hr;rw [<- e,hS] at h1; cases h1;exact absurd h2 (by decide)
 show aF _ _ (do let old <- Builtin.List.listItems (.ref S); Builtin.List.listUpdate (.ref S) (fun _=>#[]); letGo old.toList.reverse; Builtin.List.listExtendWith (.ref S) (.ref I) .none) _ _ s;refine aD ?_;unfold Builtin.List.listItems;refine aD (bA hS rfl (wpAny_pure ?_));show aF _ _ (updateSeq S (fun _=>#[]) >>= fun _=>letGo (#[]:Array aA).toList.reverse >>= fun _=>Builtin.List.listExtendWith (.ref S) (.ref I) .none) _ _ s
 refine aD (wpAny_updateSeq hS rfl ?_);have z:=G8 (bp (fun _=>(#[]:Array aA))) hS rfl
 have J:∀ b o,b≠S->s.heap.get? b=zo o->(s.heap.update S (bp (fun _=>(#[]:Array aA)))).get? b=zo o:=
  fun b o hb e=>(F5 _ _ (Ne.symm hb)).trans e
 refine aD (wpAny_letGo ?_);refine Qb9 hh (hr.at fun o e=>J I _ (Ne.symm a2) e) (hl.at fun o e=>J l _ (Ne.symm a1) e) Z S .none _ z a1 fun h' tk q O hk a3 Y=>?_
 exact hR h' tk q O (fun b o hb a4 e=>hk b o hb a4 (J b o hb e)) a3 Y
theorem Q4h {Q:aA->aC->Prop} {I l:aB} {j:Array aA} (hh:A.handled=zb) (hr:s.heap.IsRevIter I l ((j.size:Int) - 1)) (hl:s.heap.IsList l j) (Y:j.size<=2 ^ 24)
  (hQ:∀ h' tk q c',(∀ b o,b≠I->s.heap.get? b=zo o->h'.get? b=zo o) ->
   h'.get? s.heap.objs.size=zo { cls:=.type "list",dict:=zb,data:=.seq q c',slots:=#[] }->ItemsOf (fun i v=>j[j.size - 1 - i]?=zo v) q j.size->Q (.ref s.heap.objs.size) { s with heap:=h',toks:=tk }) :
  aF (aI prog w) A (call (.type "list") [.ref I]) Q E s:=by
 refine callType_codes (Q₁:=fun obj z=>obj=.ref s.heap.objs.size/\z={ s with heap:=s.heap.push { cls:=.type "list",data:=.seq #[] } }) F.called_list (F.typeCall_list_1 _) F.entry_list_init
  (code_list_new _ ⟨rfl,rfl⟩) fun obj z J=>?_
 obtain ⟨rfl,rfl⟩:=J;have hS:(s.heap.push { cls:=.type "list",data:=.seq #[] }).get? s.heap.objs.size=zo { cls:=.type "list",data:=.seq #[] }:=D1 _ rfl;have Z:l < s.heap.objs.size:=let ⟨o,h1,_⟩:=hl; D0 h1;refine ⟨⟨_,hS,rfl⟩,F.args_list_init_2 _ _,Qi2 (A:=A.in1) hh (hr.at fun o e=>O3 _ e) (hl.push _) Y _ hS (cE Z) fun h' tk q c' hk a1 O=>?_⟩
 exact ⟨rfl,hQ h' tk q c' (fun b o hb e=>hk b o (D8 (D0 e)) hb (O3 _ e)) a1 O⟩
end
theorem Qf7 {xs:List V} {its:List aA} (r:Vals xs its) {acc:List aA} (I:acc.length=its.length) (h:∀ (j:Nat) (v:aA),acc[j]?=zo v->its[its.length - 1 - j]?=zo v):Vals xs.reverse acc:=by
 have:acc=its.reverse:=by
  apply ce;intro j
  by_cases q:j < acc.length
  ·have e:=h j acc[j] (O2 q);rw [O2 q,List.getElem?_reverse (by omega),e]
  ·rw [cz (by omega),cz (by rw [eO]; omega)]
 subst this;clear I h
 induction r with
 | nil=>exact .nil
 | cons a _ z=>rw [dg,dg]; exact z.append (.cons a .nil)
def Qxb (ta:TA):TE:=fun σ H Q=>ta σ H fun vs H1=>∃ l ys,vs=[.ref l]/\H1 l=zo (.lst ys)/\ys.length<=1000000/\∀ p,H1 p=zb->Q (.ref p) (upd H1 p (.lst ys.reverse))
section
variable {X:Cx} {a:aH} {ta:TA} {p p' pos pos':Pos}
theorem Qak (hc:X.calm=yo) (hg:Gl X "list") (hm:X.mg "list" = zb) (a2:Gl X "reversed") (Z:X.mg "reversed" = zb) (hb:aX "list" = zo (.type "list")) (a4:aX "reversed" = zo (.type "reversed")) (ha:PA X [a] ta) (hs:aN [a] X.env=[(yl,aO a X.env)]:=by rfl)
  (Y:aN [.Call (.Name "reversed" p') [a] [] pos'] X.env=[(yl,aO (.Call (.Name "reversed" p') [a] [] pos') X.env)]:=by rfl) :
  PE X (.Call (.Name "list" p) [.Call (.Name "reversed" p') [a] [] pos'] [] pos) (Qxb ta):=by
 intro pins s σ H Q I h;refine wpAny_Call_Name_kw (zm I hg hm hb ?_ (by decide) (by decide));refine dX ?_ Y rfl;rw [Y];refine Calls.spliced_cons ?_;refine Call_ (zm I a2 Z a4 (dX (thn (ha pos' pins s σ H _ I h) fun us s1 ⟨vs,H1,O,r1,q1⟩=>?_) hs rfl))
 obtain ⟨l,ys,rfl,hq,hn,q⟩:=q1;cases r1 with
 | cons r rr=>
  cases rr;cases r;obtain ⟨a1,its,n,r',a7,a3⟩:=O.lstM hq;have hL:s1.heap.IsList l its.toArray:=⟨_,a3,rfl,n,rfl⟩;have a6:ys.length=its.length:=Vals.length r';refine call_reversed_list hL ?_;refine Calls.spliced_nil ?_;have I2:Inv X pins σ H1 { s1 with heap:=s1.heap.push (revObj l ((its.toArray.size:Int) - 1)) }:=O.kept (t':=s1.toks) fun b ob q=>O3 _ q
  have a5:(s1.heap.push (revObj l ((its.toArray.size:Int) - 1))).IsRevIter s1.heap.objs.size l ((its.toArray.size:Int) - 1):=⟨_,D1 _ rfl,rfl,rfl⟩;refine Q4h (O.ok.hd hc) a5 (hL.push _) (by rw [O8]; omega) fun h' tk J c' hk hS z=>?_
  have hv:Vals ys.reverse J.toList:=Qf7 r' (by rw [bc,z.1,O8]) fun j v hj=>by
   have:=z.2 j v (by simpa using hj);simpa using this
  have hsz:(s1.heap.push (revObj l ((its.toArray.size:Int) - 1))).objs.size=s1.heap.objs.size + 1:=F7 _ _;refine ⟨.ref _,_,O.laid (t':=tk) (o:=.lst ys.reverse) (fun b u e=>hk b u (D8 (D0 e)) (O3 _ e)) (by rw [hsz]; omega) ?_,rfl,q _ (O.hok.fresh (by rw [hsz]; omega))⟩;exact ⟨by rw [eO]; exact a1,J.toList,c',hv,by simpa using hS⟩
end
end L2
namespace L2
open PySem PySem.Spec PyProof.Rows SeqAt
end L2
namespace Sm
open PySem PySem.Spec L2
section
inductive PV where
 | non | bl (b:Bool) | int (i:Int) | str (x:Str) | tup (xs:List PV) | lst (xs:List PV) | fro (xs:List PV) | ref (i:Nat) | dic
inductive Cell where
 | lst (xs:List PV) | dic (kvs:List (Key × PV)) | dtp (kvs:List (HK × PV)) | frd (kvs:List (Key × PV))
 | obj (C:aB) (fs:List (Str × PV))
abbrev Q0:=List Cell
structure Exc where
 cls:Str
 fs:Option (Str × PV):=zb
inductive Res (α:Type) where
 | ok (a:α) (st:Q0) | exc (x:Exc) (st:Q0) | stuck
abbrev Gam:=List (Option PV)
abbrev ME:=Gam->Q0->Res PV
structure Tk where
 tr:List aB
 hid:List aB
instance:Membership aB Tk:=⟨fun t a=>a∈t.tr\/a∈t.hid⟩
def Tk.nil:Tk:=⟨[],[]⟩
theorem Tk.not_nil (a:aB):a∉Tk.nil:=fun z=>by rcases z with z | z <;> cases z
def Tk.add (t:Tk) (p:aB):Tk:=⟨t.tr ++ [p],t.hid⟩
def Tk.hide (t:Tk) (p:aB):Tk:=⟨t.tr,p :: t.hid⟩
mutual
def Rep (H:Hp) (ρ:Tk):PV->V->Prop
 | .non,v=>v=.non
 | .bl b,v=>v=.bl b
 | .int i,v=>v=.int i
 | .str x,v=>v=.str x
 | .tup ps,v=>∃ a vs,v=.ref a/\H a=zo (.tup vs)/\a∉ρ/\RepL H ρ ps vs
 | .lst ps,v=>∃ a vs,v=.ref a/\H a=zo (.lst vs)/\a∉ρ/\RepL H ρ ps vs
 | .fro ps,v=>∃ a vs,v=.ref a/\Rd H a (.lst vs)/\a∉ρ/\RepL H ρ ps vs
 | .ref i,v=>∃ a,ρ.tr[i]?=zo a/\v=.ref a
 | .dic,v=>∃ a,v=.ref a/\H a=zo (.dK [])/\a∉ρ
def RepL (H:Hp) (ρ:Tk):List PV->List V->Prop
 | [],vs=>vs=[]
 | p :: ps,vs=>∃ v r,vs=v :: r/\Rep H ρ p v/\RepL H ρ ps r
end
structure Ext (H:Hp) (ρ:Tk) (H':Hp) (ρ':Tk):Prop where
 pre:ρ.tr <+: ρ'.tr
 hidM:∀ a,a∈ρ.hid->a∈ρ'.hid
 hidN:∀ a,a∈ρ'.hid->a∈ρ.hid\/H a=zb
 keep:∀ a o,H a=zo o->a∉ρ.tr->H' a=zo o
 new:∀ a,a∈ρ'.tr->a∈ρ.tr\/H a=zb
 old:∀ a o,H a=zo o->∃ o',H' a=zo o'
 frz:∀ a o u,H a=zo (.frz o u)->H' a=zo (.frz o u)
theorem Ext.refl (H:Hp) (ρ:Tk):Ext H ρ H ρ:=⟨dS _,fun _ h=>h,fun _ h=>.inl h,fun _ _ h _=>h,fun _ h=>.inl h,fun _ o h=>⟨o,h⟩,fun _ _ _ h=>h⟩
theorem Ext.trans {H H1 H2:Hp} {ρ ρ1 j:Tk} (a:Ext H ρ H1 ρ1) (b:Ext H1 ρ1 H2 j):Ext H ρ H2 j where
 pre:=a.pre.trans b.pre
 hidM:=fun x h=>b.hidM x (a.hidM x h)
 hidN:=fun x h=>by
  rcases b.hidN x h with z | z
  ·exact a.hidN x z
  ·right
   cases q:H x with
   | none=>rfl
   | some o=>
    obtain ⟨o',e⟩:=a.old x o q;rw [e] at z; cases z
 keep:=fun x o h n=>b.keep x o (a.keep x o h n) fun z=>by
  rcases a.new x z with z | z
  ·exact n z
  ·rw [h] at z; cases z
 new:=fun x h=>by
  rcases b.new x h with z | z
  ·exact a.new x z
  ·right
   cases q:H x with
   | none=>rfl
   | some o=>
    obtain ⟨o',e⟩:=a.old x o q;rw [e] at z; cases z
 old:=fun x o h=>by
  obtain ⟨o',e⟩:=a.old x o h;exact b.old x o' e
 frz:=fun x o u h=>b.frz x o u (a.frz x o u h)
theorem Ext.add {H:Hp} {ρ:Tk} {p:aB} {o:HO} (h:H p=zb):Ext H ρ (upd H p o) ρ where
 pre:=dS _
 hidM:=fun _ h=>h
 hidN:=fun _ h=>.inl h
 keep:=fun a u e _=>by rw [Qg (Qh e h)]; exact e
 new:=fun a e=>.inl e
 old:=fun a u e=>⟨u,by rw [Qg (Qh e h)]; exact e⟩
 frz:=fun a o u e=>by rw [Qg (Qh e h)]; exact e
theorem Ext.addT {H:Hp} {ρ:Tk} {p:aB} {o:HO} (h:H p=zb):Ext H ρ (upd H p o) (ρ.add p) where
 pre:=eP _ _
 hidM:=fun _ h=>h
 hidN:=fun _ h=>.inl h
 keep:=fun a u e _=>by rw [Qg (Qh e h)]; exact e
 new:=fun a e=>by
  rcases E2.mp e with z | z
  ·exact .inl z
  ·right
   have:a=p:=by simpa using z
   rw [this]; exact h
 old:=fun a u e=>⟨u,by rw [Qg (Qh e h)]; exact e⟩
 frz:=fun a o u e=>by rw [Qg (Qh e h)]; exact e
theorem Ext.same {H H':Hp} {ρ:Tk} (h:Same H H'):Ext H ρ H' ρ:=⟨dS _,fun _ h=>h,fun _ h=>.inl h,fun a o e _=>h a o e,fun _ e=>.inl e,fun a o e=>⟨o,h a o e⟩,fun a o u e=>h a _ e⟩
section
variable {H H':Hp} {ρ ρ':Tk}
theorem K2 {a:aB} {o:HO} (x:Ext H ρ H' ρ') (h:H a=zo o) (n:a∉ρ):a∉ρ':=fun z=>by
 rcases z with z | z
 ·rcases x.new a z with z | z
  ·exact n (.inl z)
  ·rw [h] at z; cases z
 ·rcases x.hidN a z with z | z
  ·exact n (.inr z)
  ·rw [h] at z; cases z
theorem Ext.kp {a:aB} {o:HO} (x:Ext H ρ H' ρ') (h:H a=zo o) (n:a∉ρ):H' a=zo o:=x.keep a o h fun z=>n (.inl z)
mutual
theorem Rep.ext (x:Ext H ρ H' ρ'):∀ {p:PV} {v:V},Rep H ρ p v->Rep H' ρ' p v
 | .non,_,h=>h
 | .bl _,_,h=>h
 | .int _,_,h=>h
 | .str _,_,h=>h
 | .tup ps,v,h=>by
  obtain ⟨a,vs,e,s,n,r⟩:=h;exact ⟨a,vs,e,x.kp s n,K2 x s n,RepL.ext x r⟩
 | .lst ps,v,h=>by
  obtain ⟨a,vs,e,s,n,r⟩:=h;exact ⟨a,vs,e,x.kp s n,K2 x s n,RepL.ext x r⟩
 | .fro ps,v,h=>by
  obtain ⟨a,vs,e,s,n,r⟩:=h;rcases s with s | ⟨o,s⟩
  ·exact ⟨a,vs,e,.inl (x.kp s n),K2 x s n,RepL.ext x r⟩
  ·exact ⟨a,vs,e,.inr ⟨o,x.kp s n⟩,K2 x s n,RepL.ext x r⟩
 | .ref i,v,h=>by
  obtain ⟨a,e,rfl⟩:=h;obtain ⟨t,j⟩:=x.pre;refine ⟨a,?_,rfl⟩;rw [<- j,O7 (O0.mp e).1];exact e
 | .dic,v,h=>by
  obtain ⟨a,e,s,n⟩:=h;exact ⟨a,e,x.kp s n,K2 x s n⟩
theorem RepL.ext (x:Ext H ρ H' ρ'):∀ {ps:List PV} {vs:List V},RepL H ρ ps vs->RepL H' ρ' ps vs
 | [],_,h=>h
 | p :: ps,vs,h=>by
  obtain ⟨v,r,e,h1,h2⟩:=h;exact ⟨v,r,e,Rep.ext x h1,RepL.ext x h2⟩
end
mutual
theorem Rep.hide {a:aB} {o:HO} (h:H a=zb):∀ {p:PV} {v:V},Rep H ρ p v->Rep (upd H a o) (ρ.hide a) p v
 | .non,_,r=>r
 | .bl _,_,r=>r
 | .int _,_,r=>r
 | .str _,_,r=>r
 | .tup ps,v,⟨b,vs,e,s,n,r⟩=>⟨b,vs,e,by rw [Qg (Qh s h)]; exact s,fun z=>by
   rcases z with z | z
   ·exact n (.inl z)
   ·rcases D6.mp z with z | z
    ·exact Qh s h z
    ·exact n (.inr z),RepL.hide h r⟩
 | .lst ps,v,⟨b,vs,e,s,n,r⟩=>⟨b,vs,e,by rw [Qg (Qh s h)]; exact s,fun z=>by
   rcases z with z | z
   ·exact n (.inl z)
   ·rcases D6.mp z with z | z
    ·exact Qh s h z
    ·exact n (.inr z),RepL.hide h r⟩
 | .fro ps,v,⟨b,vs,e,s,n,r⟩=>by
   have ne:b≠a:=by
    rcases s with s | ⟨_,s⟩
    ·exact Qh s h
    ·exact Qh s h
   refine ⟨b,vs,e,?_,fun z=>?_,RepL.hide h r⟩
   ·rcases s with s | ⟨u,s⟩
    ·exact .inl (by rw [Qg ne]; exact s)
    ·exact .inr ⟨u,by rw [Qg ne]; exact s⟩
   ·rcases z with z | z
    ·exact n (.inl z)
    ·rcases D6.mp z with z | z
     ·exact ne z
     ·exact n (.inr z)
 | .ref i,v,r=>r
 | .dic,v,⟨b,e,s,n⟩=>⟨b,e,by rw [Qg (Qh s h)]; exact s,fun z=>by
   rcases z with z | z
   ·exact n (.inl z)
   ·rcases D6.mp z with z | z
    ·exact Qh s h z
    ·exact n (.inr z)⟩
theorem RepL.hide {a:aB} {o:HO} (h:H a=zb):∀ {ps:List PV} {vs:List V},RepL H ρ ps vs->RepL (upd H a o) (ρ.hide a) ps vs
 | [],_,r=>r
 | p :: ps,_,⟨v,t,e,q,j⟩=>⟨v,t,e,Rep.hide h q,RepL.hide h j⟩
end
mutual
theorem Rep.rehide {a:aB} {o:HO} (h:a∈ρ.hid):∀ {p:PV} {v:V},Rep H ρ p v->Rep (upd H a o) ρ p v
 | .non,_,r=>r
 | .bl _,_,r=>r
 | .int _,_,r=>r
 | .str _,_,r=>r
 | .tup ps,v,⟨b,vs,e,s,n,r⟩=>⟨b,vs,e,by rw [Qg (show b≠a from fun z=>n (.inr (by rw [z]; exact h)))]; exact s,n,RepL.rehide h r⟩
 | .lst ps,v,⟨b,vs,e,s,n,r⟩=>⟨b,vs,e,by rw [Qg (show b≠a from fun z=>n (.inr (by rw [z]; exact h)))]; exact s,n,RepL.rehide h r⟩
 | .fro ps,v,⟨b,vs,e,s,n,r⟩=>by
   have ne:b≠a:=fun z=>n (.inr (by rw [z]; exact h))
   refine ⟨b,vs,e,?_,n,RepL.rehide h r⟩;rcases s with s | ⟨u,s⟩
   ·exact .inl (by rw [Qg ne]; exact s)
   ·exact .inr ⟨u,by rw [Qg ne]; exact s⟩
 | .ref i,v,r=>r
 | .dic,v,⟨b,e,s,n⟩=>⟨b,e,by rw [Qg (show b≠a from fun z=>n (.inr (by rw [z]; exact h)))]; exact s,n⟩
theorem RepL.rehide {a:aB} {o:HO} (h:a∈ρ.hid):∀ {ps:List PV} {vs:List V},RepL H ρ ps vs->RepL (upd H a o) ρ ps vs
 | [],_,r=>r
 | p :: ps,_,⟨v,t,e,q,j⟩=>⟨v,t,e,Rep.rehide h q,RepL.rehide h j⟩
end
mutual
theorem Rep.retr {a:aB} {o:HO} (h:a∈ρ.tr):∀ {p:PV} {v:V},Rep H ρ p v->Rep (upd H a o) ρ p v
 | .non,_,r=>r
 | .bl _,_,r=>r
 | .int _,_,r=>r
 | .str _,_,r=>r
 | .tup ps,v,⟨b,vs,e,s,n,r⟩=>⟨b,vs,e,by rw [Qg (show b≠a from fun z=>n (.inl (by rw [z]; exact h)))]; exact s,n,RepL.retr h r⟩
 | .lst ps,v,⟨b,vs,e,s,n,r⟩=>⟨b,vs,e,by rw [Qg (show b≠a from fun z=>n (.inl (by rw [z]; exact h)))]; exact s,n,RepL.retr h r⟩
 | .fro ps,v,⟨b,vs,e,s,n,r⟩=>by
   have ne:b≠a:=fun z=>n (.inl (by rw [z]; exact h))
   refine ⟨b,vs,e,?_,n,RepL.retr h r⟩;rcases s with s | ⟨u,s⟩
   ·exact .inl (by rw [Qg ne]; exact s)
   ·exact .inr ⟨u,by rw [Qg ne]; exact s⟩
 | .ref i,v,r=>r
 | .dic,v,⟨b,e,s,n⟩=>⟨b,e,by rw [Qg (show b≠a from fun z=>n (.inl (by rw [z]; exact h)))]; exact s,n⟩
theorem RepL.retr {a:aB} {o:HO} (h:a∈ρ.tr):∀ {ps:List PV} {vs:List V},RepL H ρ ps vs->RepL (upd H a o) ρ ps vs
 | [],_,r=>r
 | p :: ps,_,⟨v,t,e,q,j⟩=>⟨v,t,e,Rep.retr h q,RepL.retr h j⟩
end
mutual
theorem Rep.unhide {hs:List aB} (j:∀ a,a∈hs->a∈ρ.hid):∀ {p:PV} {v:V},Rep H ρ p v->Rep H ⟨ρ.tr,hs⟩ p v
 | .non,_,r=>r
 | .bl _,_,r=>r
 | .int _,_,r=>r
 | .str _,_,r=>r
 | .tup ps,v,⟨b,vs,e,s,n,r⟩=>⟨b,vs,e,s,fun z=>n (z.imp id (j _)),RepL.unhide j r⟩
 | .lst ps,v,⟨b,vs,e,s,n,r⟩=>⟨b,vs,e,s,fun z=>n (z.imp id (j _)),RepL.unhide j r⟩
 | .fro ps,v,⟨b,vs,e,s,n,r⟩=>⟨b,vs,e,s,fun z=>n (z.imp id (j _)),RepL.unhide j r⟩
 | .ref i,v,r=>r
 | .dic,v,⟨b,e,s,n⟩=>⟨b,e,s,fun z=>n (z.imp id (j _))⟩
theorem RepL.unhide {hs:List aB} (j:∀ a,a∈hs->a∈ρ.hid):∀ {ps:List PV} {vs:List V},RepL H ρ ps vs->RepL H ⟨ρ.tr,hs⟩ ps vs
 | [],_,r=>r
 | p :: ps,_,⟨v,t,e,z,q⟩=>⟨v,t,e,Rep.unhide j z,RepL.unhide j q⟩
end
theorem RepL.length:∀ {ps:List PV} {vs:List V},RepL H ρ ps vs->ps.length=vs.length
 | [],_,h=>by cases h; rfl
 | p :: ps,_,⟨v,r,rfl,_,h2⟩=>by rw [D5,D5,RepL.length h2]
theorem RepL.get:∀ {ps:List PV} {vs:List V} {i:Nat} {p:PV},RepL H ρ ps vs->ps[i]?=zo p->∃ v,vs[i]?=zo v/\Rep H ρ p v
 | [],_,_,_,_,e=>by simp at e
 | p :: ps,_,0,q,⟨v,r,rfl,h1,h2⟩,e=>by simp at e; subst e; exact ⟨v,rfl,h1⟩
 | p :: ps,_,i + 1,q,⟨v,r,rfl,h1,h2⟩,e=>by
  obtain ⟨u,e1,e2⟩:=RepL.get (i:=i) h2 (by simpa using e);exact ⟨u,by simpa using e1,e2⟩
theorem RepL.cons {p:PV} {v:V} {ps:List PV} {vs:List V} (h:Rep H ρ p v) (r:RepL H ρ ps vs):RepL H ρ (p :: ps) (v :: vs):=⟨v,vs,rfl,h,r⟩
theorem RepL.nil:RepL H ρ [] []:=rfl
theorem RepL.append:∀ {ps j:List PV} {vs q:List V},RepL H ρ ps vs->RepL H ρ j q->RepL H ρ (ps ++ j) (vs ++ q)
 | [],_,_,_,h,g=>by cases h; exact g
 | p :: ps,_,_,_,⟨v,r,rfl,h1,h2⟩,g=>⟨v,_,rfl,h1,RepL.append h2 g⟩
theorem RepL.take:∀ {ps:List PV} {vs:List V} (n:Nat),RepL H ρ ps vs->RepL H ρ (ps.take n) (vs.take n)
 | _,_,0,_=>rfl
 | [],_,n + 1,h=>by cases h; rfl
 | p :: ps,_,n + 1,⟨v,r,rfl,h1,h2⟩=>⟨v,_,rfl,h1,RepL.take n h2⟩
theorem RepL.drop:∀ {ps:List PV} {vs:List V} (n:Nat),RepL H ρ ps vs->RepL H ρ (ps.drop n) (vs.drop n)
 | _,_,0,h=>h
 | [],_,n + 1,h=>by cases h; rfl
 | p :: ps,_,n + 1,⟨v,r,rfl,h1,h2⟩=>RepL.drop n h2
theorem RepL.set {p:PV} {v:V} (h:Rep H ρ p v):∀ {ps:List PV} {vs:List V} (i:Nat),RepL H ρ ps vs->RepL H ρ (ps.set i p) (vs.set i v)
 | [],_,_,g=>by cases g; rfl
 | q :: ps,_,0,⟨u,r,rfl,h1,h2⟩=>⟨v,r,rfl,h,h2⟩
 | q :: ps,_,i + 1,⟨u,r,rfl,h1,h2⟩=>⟨u,_,rfl,h1,RepL.set h i h2⟩
theorem RepL.rep {ps:List PV} {vs:List V} (h:RepL H ρ ps vs):∀ n,RepL H ρ (ba n ps).flatten (ba n vs).flatten
 | 0=>rfl
 | n + 1=>by rw [cw,cw,dI,dI]; exact h.append (RepL.rep h n)
theorem RepL.toInts:∀ {ns:List Int} {vs:List V},RepL H ρ (ns.map .int) vs->vs=ns.map V.int
 | [],_,h=>h
 | n :: ns,_,⟨v,r,rfl,h1,h2⟩=>by
  have e:v=V.int n:=h1;rw [RepL.toInts h2,e]; rfl
theorem RepL.toBls:∀ {ns:List Bool} {vs:List V},RepL H ρ (ns.map .bl) vs->vs=ns.map V.bl
 | [],_,h=>h
 | n :: ns,_,⟨v,r,rfl,h1,h2⟩=>by
  have e:v=V.bl n:=h1;rw [RepL.toBls h2,e]; rfl
end
def RepD {κ:Type} (H:Hp) (ρ:Tk) (kvs:List (κ × PV)) (vs:List (κ × V)):Prop:=vs.map bq=kvs.map bq/\RepL H ρ (kvs.map cT) (vs.map cT)
theorem RepD.ext {κ:Type} {H H':Hp} {ρ ρ':Tk} {kvs:List (κ × PV)} {vs:List (κ × V)} (x:Ext H ρ H' ρ') (r:RepD H ρ kvs vs):RepD H' ρ' kvs vs:=⟨r.1,r.2.ext x⟩
theorem RepD.length {κ:Type} {H:Hp} {ρ:Tk} {kvs:List (κ × PV)} {vs:List (κ × V)} (r:RepD H ρ kvs vs):kvs.length=vs.length:=by
 have:=congrArg dG r.1;rw [O1,O1] at this;exact this.symm
def CellR (H:Hp) (ρ:Tk) (a:aB):Cell->Prop
 | .lst ps=>∃ vs,H a=zo (.lst vs)/\RepL H ρ ps vs
 | .dic kvs=>∃ vs,H a=zo (.dK vs)/\RepD H ρ kvs vs
 | .dtp kvs=>∃ vs,H a=zo (.dT vs)/\RepD H ρ kvs vs
 | .frd kvs=>∃ vs,(∃ o,H a=zo (.frz o (.dK vs)))/\RepD H ρ kvs vs
 | .obj C fs=>∃ vs,(∃ dx,H a=zo (.ins C dx vs))/\RepD H ρ fs vs
theorem CellR.dom {H:Hp} {ρ:Tk} {a:aB}:∀ {c:Cell},CellR H ρ a c->∃ o,H a=zo o
 | .lst _,⟨_,e,_⟩=>⟨_,e⟩
 | .dic _,⟨_,e,_⟩=>⟨_,e⟩
 | .dtp _,⟨_,e,_⟩=>⟨_,e⟩
 | .frd _,⟨_,⟨_,e⟩,_⟩=>⟨_,e⟩
 | .obj _ _,⟨_,⟨_,e⟩,_⟩=>⟨_,e⟩
theorem CellR.ext {H H':Hp} {ρ ρ':Tk} {a:aB} (x:Ext H ρ H' ρ') (k:∀ o,H a=zo o->H' a=zo o):∀ {c:Cell},CellR H ρ a c->CellR H' ρ' a c
 | .lst _,⟨vs,e,r⟩=>⟨vs,k _ e,r.ext x⟩
 | .dic _,⟨vs,e,r⟩=>⟨vs,k _ e,r.ext x⟩
 | .dtp _,⟨vs,e,r⟩=>⟨vs,k _ e,r.ext x⟩
 | .frd _,⟨vs,⟨o,e⟩,r⟩=>⟨vs,⟨o,k _ e⟩,r.ext x⟩
 | .obj _ _,⟨vs,⟨o,e⟩,r⟩=>⟨vs,⟨o,k _ e⟩,r.ext x⟩
structure Rel (H:Hp) (ρ:Tk) (st:Q0):Prop where
 len:ρ.tr.length=st.length
 nd:ρ.tr.Nodup
 hd:∀ a∈ρ.hid,∃ o,H a=zo o/\∀ xs,o≠.tup xs
 ap:∀ a∈ρ.hid,a∉ρ.tr
 cell:∀ (i:Nat) (a:aB) (c:Cell),ρ.tr[i]?=zo a->st[i]?=zo c->CellR H ρ a c
section
variable {H H':Hp} {ρ ρ':Tk} {st st':Q0}
theorem Rel.lst (R:Rel H ρ st) {i:Nat} {ps:List PV} (h:st[i]?=zo (.lst ps)):∃ a vs,ρ.tr[i]?=zo a/\H a=zo (.lst vs)/\RepL H ρ ps vs:=by
 have hi:i < ρ.tr.length:=by rw [R.len]; exact (O0.mp h).1
 have e:ρ.tr[i]?=zo ρ.tr[i]:=O2 hi;obtain ⟨vs,e1,e2⟩:=R.cell i _ _ e h;exact ⟨_,vs,e,e1,e2⟩
theorem Rel.dtp (R:Rel H ρ st) {i:Nat} {kvs:List (HK × PV)} (h:st[i]?=zo (.dtp kvs)):∃ a vs,ρ.tr[i]?=zo a/\H a=zo (.dT vs)/\RepD H ρ kvs vs:=by
 have hi:i < ρ.tr.length:=by rw [R.len]; exact (O0.mp h).1
 have e:ρ.tr[i]?=zo ρ.tr[i]:=O2 hi;obtain ⟨vs,e1,e2⟩:=R.cell i _ _ e h;exact ⟨_,vs,e,e1,e2⟩
theorem Rel.dom (R:Rel H ρ st) {a:aB} (h:a∈ρ.tr):∃ o,H a=zo o:=by
 obtain ⟨i,hi,e⟩:=F8 h;have hs:i < st.length:=by rw [<- R.len]; exact hi
 have q:=R.cell i a st[i] (by rw [O2 hi,e]) (O2 hs);exact q.dom
theorem Rel.fresh (R:Rel H ρ st) {p:aB} (h:H p=zb):p∉ρ:=fun z=>by
 rcases z with z | z
 ·obtain ⟨vs,q⟩:=R.dom z;rw [h] at q; cases q
 ·obtain ⟨o,q,_⟩:=R.hd p z;rw [h] at q; cases q
theorem Rel.later (R:Rel H ρ st) (x:Ext H ρ H' ρ) (k:∀ a o,a∈ρ.tr->H a=zo o->H' a=zo o):Rel H' ρ st where
 len:=R.len
 nd:=R.nd
 hd:=fun a j=>let ⟨o,e,n⟩:=R.hd a j; ⟨o,x.keep a o e (R.ap a j),n⟩
 ap:=R.ap
 cell:=fun i a c h1 h2=>by
  exact (R.cell i a c h1 h2).ext x fun o e=>k a o (E3 h1) e
end
theorem Rel.add {H:Hp} {ρ:Tk} {st:Q0} (R:Rel H ρ st) {p:aB} {o:HO} (h:H p=zb):Rel (upd H p o) ρ st:=
 R.later (Ext.add h) fun a u hm e=>by rw [Qg (Qh e h)]; exact e
theorem Rel.same {H H':Hp} {ρ:Tk} {st:Q0} (R:Rel H ρ st) (h:Same H H'):Rel H' ρ st:=R.later (Ext.same h) fun a u _ e=>h a u e
theorem Rel.addC {H:Hp} {ρ:Tk} {st:Q0} (R:Rel H ρ st) {p:aB} {I:Cell} {o:HO} (h:H p=zb) (r:CellR (upd H p o) (ρ.add p) p I):Rel (upd H p o) (ρ.add p) (st ++ [I]) where
 len:=by show (ρ.tr ++ [p]).length=_; rw [O6,O6,R.len]; rfl
 nd:=cS.mpr ⟨R.nd,by simp,fun a j b J e=>by
  have:b=p:=by simpa using J
  subst this; subst e;exact R.fresh h (.inl j)⟩
 hd:=fun a j=>let ⟨o,e,n⟩:=R.hd a j; ⟨o,by rw [Qg (Qh e h)]; exact e,n⟩
 ap:=fun a j z=>by
  rcases E2.mp z with z | z
  ·exact R.ap a j z
  ·have:a=p:=by simpa using z
   subst this;exact R.fresh h (.inr j)
 cell:=fun i a c h1 h2=>by
  have h1:(ρ.tr ++ [p])[i]?=zo a:=h1
  by_cases hi:i < st.length
  ·rw [O7 (by rw [R.len]; exact hi)] at h1;rw [O7 hi] at h2;exact (R.cell i a c h1 h2).ext (Ext.addT h) fun u e=>by rw [Qg (Qh e h)]; exact e
  ·rw [D4 (by rw [R.len]; omega)] at h1;rw [D4 (by omega)] at h2;have q:i - st.length=0:=by
    rcases fZ (i - st.length) with z | z
    ·exact z
    ·rw [cz (by simp; omega)] at h2; cases h2
   rw [R.len,q] at h1;rw [q] at h2;simp at h1 h2;subst h1; subst h2;exact r
theorem Q4y {α:Type} {l:List α} (h:l.Nodup) {i j:Nat} (hi:i < l.length) (q:j < l.length) (e:l[i]=l[j]):i=j:=by
 rcases Nat.lt_trichotomy i j with z | z | z
 ·exact absurd e ((eF.mp h) i j hi q z)
 ·exact z
 ·exact absurd e.symm ((eF.mp h) j i q hi z)
theorem Ext.put {H:Hp} {ρ:Tk} {a:aB} {o o':HO} (h:a∈ρ.tr) (e:H a=zo o) (j:∀ q u,o≠.frz q u:=by intro _ _ z; cases z):Ext H ρ (upd H a o') ρ where
 pre:=dS _
 hidM:=fun _ h=>h
 hidN:=fun _ h=>.inl h
 keep:=fun b u q n=>by rw [Qg (show b≠a from fun z=>n (by rw [z]; exact h))]; exact q
 new:=fun b q=>.inl q
 old:=fun b u q=>by
  by_cases z:b=a
  ·exact ⟨o',by rw [z]; exact J3⟩
  ·exact ⟨u,by rw [Qg z]; exact q⟩
 frz:=fun b q u k=>by
  by_cases z:b=a
  ·rw [z,e] at k; cases k; exact absurd rfl (j _ _)
  ·rw [Qg z]; exact k
theorem Rel.putC {H:Hp} {ρ:Tk} {st:Q0} (R:Rel H ρ st) {i:Nat} {a:aB} {cl:Cell} {o o':HO} (hi:ρ.tr[i]?=zo a) (e:H a=zo o) (r:CellR (upd H a o') ρ a cl):Rel (upd H a o') ρ (st.set i cl) where
 len:=by rw [F9]; exact R.len
 nd:=R.nd
 hd:=fun b I=>let ⟨u,q,n⟩:=R.hd b I; ⟨u,by rw [Qg (show b≠a from fun z=>R.ap b I (by rw [z]; exact E3 hi))]; exact q,n⟩
 ap:=R.ap
 cell:=fun j b c h1 h2=>by
  by_cases J:i=j
  ·subst J;rw [hi] at h1; cases h1;rw [E8 (by rw [<- R.len]; exact (O0.mp hi).1)] at h2;cases h2;exact r
  ·rw [E5 J] at h2;have q:=R.cell j b c h1 h2;have I:b≠a:=fun z=>by
    subst z;have Z:=(O0.mp hi);have Y:=(O0.mp h1);exact J (Q4y R.nd Z.1 Y.1 (Z.2.trans Y.2.symm))
   have hm:=E3 hi;cases c with
   | lst ps=>
    obtain ⟨vs,e1,e2⟩:=q;exact ⟨vs,by rw [Qg I]; exact e1,e2.retr hm⟩
   | dic ps=>
    obtain ⟨vs,e1,e2⟩:=q;exact ⟨vs,by rw [Qg I]; exact e1,e2.1,e2.2.retr hm⟩
   | dtp ps=>
    obtain ⟨vs,e1,e2⟩:=q;exact ⟨vs,by rw [Qg I]; exact e1,e2.1,e2.2.retr hm⟩
   | frd ps=>
    obtain ⟨vs,⟨O,e1⟩,e2⟩:=q;exact ⟨vs,⟨O,by rw [Qg I]; exact e1⟩,e2.1,e2.2.retr hm⟩
   | obj C ps=>
    obtain ⟨vs,⟨O,e1⟩,e2⟩:=q;exact ⟨vs,⟨O,by rw [Qg I]; exact e1⟩,e2.1,e2.2.retr hm⟩
theorem Rel.put {H:Hp} {ρ:Tk} {st:Q0} (R:Rel H ρ st) {i:Nat} {a:aB} {ps:List PV} {vs:List V} {o:HO} (hi:ρ.tr[i]?=zo a) (e:H a=zo o) (r:RepL H ρ ps vs):Rel (upd H a (.lst vs)) ρ (st.set i (.lst ps)):=
 R.putC hi e ⟨vs,J3,r.retr (E3 hi)⟩
theorem Rel.hide {H:Hp} {ρ:Tk} {st:Q0} (R:Rel H ρ st) {p:aB} {o:HO} (h:H p=zb) (O:∀ xs,o≠.tup xs:=by intro _ z; cases z):Rel (upd H p o) (ρ.hide p) st:=by
 have x:Ext H ρ (upd H p o) ρ:=Ext.add h;have I:=R.add (p:=p) (o:=o) h;refine ⟨I.len,I.nd,fun a j=>?_,fun a j z=>?_,fun i a c h1 h2=>?_⟩
 ·rcases D6.mp j with rfl | j
  ·exact ⟨o,J3,O⟩
  ·exact I.hd a j
 ·rcases D6.mp j with rfl | j
  ·exact R.fresh h (.inl z)
  ·exact R.ap a j z
 ·have q:=R.cell i a c h1 h2;cases c with
  | lst ps=>
   obtain ⟨vs,e1,e2⟩:=q;exact ⟨vs,by rw [Qg (Qh e1 h)]; exact e1,e2.hide h⟩
  | dic ps=>
   obtain ⟨vs,e1,e2⟩:=q;exact ⟨vs,by rw [Qg (Qh e1 h)]; exact e1,e2.1,e2.2.hide h⟩
  | dtp ps=>
   obtain ⟨vs,e1,e2⟩:=q;exact ⟨vs,by rw [Qg (Qh e1 h)]; exact e1,e2.1,e2.2.hide h⟩
  | frd ps=>
   obtain ⟨vs,⟨J,e1⟩,e2⟩:=q;exact ⟨vs,⟨J,by rw [Qg (Qh e1 h)]; exact e1⟩,e2.1,e2.2.hide h⟩
  | obj C ps=>
   obtain ⟨vs,⟨J,e1⟩,e2⟩:=q;exact ⟨vs,⟨J,by rw [Qg (Qh e1 h)]; exact e1⟩,e2.1,e2.2.hide h⟩
theorem Rel.rehide {H:Hp} {ρ:Tk} {st:Q0} (R:Rel H ρ st) {p:aB} {o:HO} (h:p∈ρ.hid) (I:∀ xs,o≠.tup xs:=by intro _ z; cases z):Rel (upd H p o) ρ st:=by
 refine ⟨R.len,R.nd,fun a J=>?_,R.ap,fun i a c h1 h2=>?_⟩
 ·by_cases e:a=p
  ·exact ⟨o,by rw [e]; exact J3,I⟩
  ·obtain ⟨u,q,n⟩:=R.hd a J;exact ⟨u,by rw [Qg e]; exact q,n⟩
 ·have q:=R.cell i a c h1 h2;have ne:a≠p:=fun z=>R.ap p h (by rw [<- z]; exact E3 h1)
  cases c with
  | lst ps=>
   obtain ⟨vs,e1,e2⟩:=q;exact ⟨vs,by rw [Qg ne]; exact e1,e2.rehide h⟩
  | dic ps=>
   obtain ⟨vs,e1,e2⟩:=q;exact ⟨vs,by rw [Qg ne]; exact e1,e2.1,e2.2.rehide h⟩
  | dtp ps=>
   obtain ⟨vs,e1,e2⟩:=q;exact ⟨vs,by rw [Qg ne]; exact e1,e2.1,e2.2.rehide h⟩
  | frd ps=>
   obtain ⟨vs,⟨j,e1⟩,e2⟩:=q;exact ⟨vs,⟨j,by rw [Qg ne]; exact e1⟩,e2.1,e2.2.rehide h⟩
  | obj C ps=>
   obtain ⟨vs,⟨j,e1⟩,e2⟩:=q;exact ⟨vs,⟨j,by rw [Qg ne]; exact e1⟩,e2.1,e2.2.rehide h⟩
theorem Rel.unhide {H:Hp} {ρ:Tk} {st:Q0} {hs:List aB} (j:∀ a,a∈hs->a∈ρ.hid) (R:Rel H ρ st):Rel H ⟨ρ.tr,hs⟩ st:=by
 refine ⟨R.len,R.nd,fun a z=>R.hd a (j a z),fun a z=>R.ap a (j a z),fun i a c h1 h2=>?_⟩;have q:=R.cell i a c h1 h2;cases c with
 | lst ps=>
  obtain ⟨vs,e1,e2⟩:=q;exact ⟨vs,e1,RepL.unhide j e2⟩
 | dic ps=>
  obtain ⟨vs,e1,e2⟩:=q;exact ⟨vs,e1,e2.1,RepL.unhide j e2.2⟩
 | dtp ps=>
  obtain ⟨vs,e1,e2⟩:=q;exact ⟨vs,e1,e2.1,RepL.unhide j e2.2⟩
 | frd ps=>
  obtain ⟨vs,e1,e2⟩:=q;exact ⟨vs,e1,e2.1,RepL.unhide j e2.2⟩
 | obj C ps=>
  obtain ⟨vs,e1,e2⟩:=q;exact ⟨vs,e1,e2.1,RepL.unhide j e2.2⟩
theorem Ext.hide {H:Hp} {ρ:Tk} {p:aB} {o:HO} (h:H p=zb):Ext H ρ (upd H p o) (ρ.hide p) where
 pre:=dS _
 hidM:=fun _ h=>O4 _ h
 hidN:=fun a j=>by
  rcases D6.mp j with rfl | j
  ·exact .inr h
  ·exact .inl j
 keep:=fun a u e _=>by rw [Qg (Qh e h)]; exact e
 new:=fun a e=>.inl e
 old:=fun a u e=>⟨u,by rw [Qg (Qh e h)]; exact e⟩
 frz:=fun a o u e=>by rw [Qg (Qh e h)]; exact e
theorem Ext.put0 {H H1:Hp} {ρ ρ1:Tk} {p:aB} {o:HO} (x:Ext H ρ H1 ρ1) (h:H p=zb):Ext H ρ (upd H1 p o) ρ1 where
 pre:=x.pre
 hidM:=x.hidM
 hidN:=x.hidN
 keep:=fun a u e n=>by rw [Qg (Qh e h)]; exact x.keep a u e n
 new:=x.new
 old:=fun a u e=>by rw [Qg (Qh e h)]; exact x.old a u e
 frz:=fun a o u e=>by rw [Qg (Qh e h)]; exact x.frz a o u e
theorem Ext.unhide {H H1:Hp} {ρ ρ1:Tk} (x:Ext H ρ H1 ρ1):Ext H ρ H1 ⟨ρ1.tr,ρ.hid⟩ where
 pre:=x.pre
 hidM:=fun _ h=>h
 hidN:=fun _ h=>.inl h
 keep:=x.keep
 new:=x.new
 old:=x.old
 frz:=x.frz
def EnvR (H:Hp) (ρ:Tk) (Γ:Gam) (σ:St):Prop:=Γ.length=σ.length/\∀ (i:Nat) (p:PV),Γ[i]?=zo (zo p)->∃ v,σ[i]?=zo (zo v)/\Rep H ρ p v
theorem EnvR.ext {H H':Hp} {ρ ρ':Tk} {Γ:Gam} {σ:St} (x:Ext H ρ H' ρ') (h:EnvR H ρ Γ σ):EnvR H' ρ' Γ σ:=
 ⟨h.1,fun i p e=>let ⟨v,a,b⟩:=h.2 i p e; ⟨v,a,b.ext x⟩⟩
theorem EnvR.hide {H:Hp} {ρ:Tk} {Γ:Gam} {σ:St} {a:aB} {o:HO} (n:H a=zb) (h:EnvR H ρ Γ σ):EnvR (upd H a o) (ρ.hide a) Γ σ:=⟨h.1,fun i p e=>let ⟨v,a,b⟩:=h.2 i p e; ⟨v,a,b.hide n⟩⟩
theorem EnvR.rehide {H:Hp} {ρ:Tk} {Γ:Gam} {σ:St} {a:aB} {o:HO} (n:a∈ρ.hid) (h:EnvR H ρ Γ σ):EnvR (upd H a o) ρ Γ σ:=⟨h.1,fun i p e=>let ⟨v,a,b⟩:=h.2 i p e; ⟨v,a,b.rehide n⟩⟩
theorem EnvR.set {H:Hp} {ρ:Tk} {Γ:Gam} {σ:St} {p:PV} {v:V} (h:EnvR H ρ Γ σ) (r:Rep H ρ p v) (i:Nat):EnvR H ρ (Γ.set i (zo p)) (σ.set i (zo v)):=by
 refine ⟨by rw [F9,F9]; exact h.1,fun j q e=>?_⟩;rw [iP] at e;rw [iP]
 by_cases I:i=j
 ·subst I;simp only [if_true] at e ⊢
  by_cases z:i < Γ.length
  ·rw [bS z] at e; cases e;rw [bS (by rw [<- h.1]; exact z)];exact ⟨v,rfl,r⟩
  ·rw [bT z] at e; cases e
 ·rw [bT I] at e ⊢;exact h.2 j q e
end
def Res.bind {α β:Type} (r:Res α) (f:α->Q0->Res β):Res β:=match r with
 | .ok a st=>f a st
 | .exc x st=>.exc x st
 | .stuck=>.stuck
def okO {α:Type} (st:Q0):Option α->Res α
 | some a=>.ok a st
 | none=>.stuck
section
variable (X:Cx)
def WE (e:aH):TE:=fun σ H Q=>∀ (pins:List (aB × Obj)) (s:aC),Inv X pins σ H s->aF (aI X.prog X.w) X.A (aO e X.env) (EP X pins σ Q) X.xe s
def WT (e:aH):TT:=fun σ H Q=>∀ (pins:List (aB × Obj)) (s:aC),Inv X pins σ H s->aF (aI X.prog X.w) X.A (isTrue e X.env (aO e X.env)) (TP X pins σ Q) X.xe s
def WW (e:aH):TT:=fun σ H Q=>∀ (wh:Sem aA) (pins:List (aB × Obj)) (s:aC),Inv X pins σ H s->aF (aI X.prog X.w) X.A (isTrue e X.env wh) (TP X pins σ Q) X.xe s
def WA (es:List aH):TA:=fun σ H Q=>∀ (pos:Pos) (pins:List (aB × Obj)) (s:aC),Inv X pins σ H s->aF (aI X.prog X.w) X.A (spliced (aY pos (aN es X.env))) (AP X pins σ Q) X.xe s
def WS (st:aM):TS:=fun D σ H=>∀ (pins:List (aB × Obj)) (s:aC),Inv X pins σ H s->aF (aI X.prog X.w) X.A (exec st X.env) (SP X pins D) X.xe s
def WB (st:List aM):TS:=fun D σ H=>∀ (pins:List (aB × Obj)) (s:aC),Inv X pins σ H s->aF (aI X.prog X.w) X.A (execs st X.env) (SP X pins D) X.xe s
def WI (tg iter : aH) : TI := fun σ H R => ∀ (pins : List (aB × Obj)) (s : aC), Inv X pins σ H s ->
  aF (aI X.prog X.w) X.A (aO iter X.env) (fun v s1=>aF (aI X.prog X.w) X.A (pyIter v) (PIE X pins σ tg R) X.xe s1) X.xe s
def WO (f:aA->aA->Sem aA):R2:=fun x y H Q=>∀ (pins:List (aB × Obj)) (s:aC) (σ:St) (v u:aA),Inv X pins σ H s->RelV x v->RelV y u->aF (aI X.prog X.w) X.A (f v u) (EP X pins σ Q) X.xe s
def WC (f:aA):List V->Hp->VK->Prop:=fun xs H Q=>∀ (pins:List (aB × Obj)) (s:aC) (σ:St) (us:List aA),Inv X pins σ H s->Vals xs us->aF (aI X.prog X.w) X.A (call f us) (EP X pins σ Q) X.xe s
end
section
variable {X:Cx}
theorem Ja {e:aH}:PE X e (WE X e):=fun pins s _ _ _ I h=>h pins s I
theorem Q8e {e:aH}:PT X e (WT X e):=fun pins s _ _ _ I h=>h pins s I
theorem Qu7 {e:aH}:PW X e (WW X e):=fun j pins s _ _ _ I h=>h j pins s I
theorem Q0s {es:List aH}:PA X es (WA X es):=fun pos pins s _ _ _ I h=>h pos pins s I
theorem Qu9 {st:aM}:PS X st (WS X st):=fun pins s _ _ _ I h=>h pins s I
theorem Q2c {st:List aM}:PSs X st (WB X st):=fun pins s _ _ _ I h=>h pins s I
theorem Qqx {tg iter:aH}:PI X tg iter (WI X tg iter):=fun pins s _ _ _ I h=>h pins s I
theorem Qam {f:aA->aA->Sem aA}:OpR X f (WO X f):=fun pins s σ _ _ _ v u _ I q j h=>h pins s σ v u I q j
theorem Qj3 {f:aA}:Vs X f (WC X f):=fun pins s σ _ _ j _ I r h=>h pins s σ j I r
theorem WE.of {e:aH} {t:TE} {σ:St} {H:Hp} {Q:VK} (h:PE X e t) (q:t σ H Q):WE X e σ H Q:=fun pins s I=>h pins s σ H Q I q
theorem WT.of {e:aH} {t:TT} {σ:St} {H:Hp} {Q:Bool->Hp->Prop} (h:PT X e t) (q:t σ H Q):WT X e σ H Q:=fun pins s I=>h pins s σ H Q I q
theorem WW.of {e:aH} {t:TT} {σ:St} {H:Hp} {Q:Bool->Hp->Prop} (h:PW X e t) (q:t σ H Q):WW X e σ H Q:=fun j pins s I=>h j pins s σ H Q I q
theorem WA.of {es:List aH} {t:TA} {σ:St} {H:Hp} {Q:List V->Hp->Prop} (h:PA X es t) (q:t σ H Q):WA X es σ H Q:=fun pos pins s I=>h pos pins s σ H Q I q
theorem WS.of {st:aM} {t:TS} {σ:St} {H:Hp} {D:Ends} (h:PS X st t) (q:t D σ H):WS X st D σ H:=fun pins s I=>h pins s σ H D I q
theorem WB.of {st:List aM} {t:TS} {σ:St} {H:Hp} {D:Ends} (h:PSs X st t) (q:t D σ H):WB X st D σ H:=fun pins s I=>h pins s σ H D I q
theorem WI.of {tg iter:aH} {t:TI} {σ:St} {H:Hp} {R:It->Hp->Prop} (h:PI X tg iter t) (q:t σ H R):WI X tg iter σ H R:=fun pins s I=>h pins s σ H R I q
theorem WO.of {f:aA->aA->Sem aA} {r:R2} {x y:V} {H:Hp} {Q:VK} (h:OpR X f r) (q:r x y H Q):WO X f x y H Q:=fun pins s σ v u I z j=>h pins s σ H x y v u Q I z j q
theorem WC.of {f:aA} {r:List V->Hp->VK->Prop} {xs:List V} {H:Hp} {Q:VK} (h:Vs X f r) (q:r xs H Q):WC X f xs H Q:=fun pins s σ j I z=>h pins s σ H xs j Q I z q
end
def XFs (H:Hp) (ρ:Tk):Option (Str × PV)->Option aB->Prop
 | none,dv=>dv=zb
 | some (n,p),dv=>∃ dx v,dv=zo dx/\H dx=zo (.xd [(n,v)])/\dx∉ρ/\Rep H ρ p v
def Acc {α:Type} (mg:Str->Option aA) (E:XK) (H:Hp) (ρ:Tk) (P:α->Q0->Hp->Tk->Prop):Res α->Prop
 | .ok a st=>∀ H' ρ',Ext H ρ H' ρ'->Rel H' ρ' st->P a st H' ρ'
 | .exc x st=>∀ C dv H' ρ',mg x.cls=zo (.ref C)->Ext H ρ H' ρ'->Rel H' ρ' st->XFs H' ρ' x.fs dv->E (.ref C) dv H'
 | .stuck=>False
section
variable {α β:Type} {mg:Str->Option aA} {E:XK} {H H1:Hp} {ρ ρ1:Tk}
theorem Acc.mono {P z:α->Q0->Hp->Tk->Prop} {r:Res α} (h:Acc mg E H ρ P r) (x:Ext H ρ H1 ρ1) (k:∀ a st H' ρ',P a st H' ρ'->z a st H' ρ'):Acc mg E H1 ρ1 z r:=by
 cases r with
 | ok a st=>exact fun H' ρ' q j=>k _ _ _ _ (h H' ρ' (x.trans q) j)
 | exc e st=>exact fun C I H' ρ' m q j f=>h C I H' ρ' m (x.trans q) j f
 | stuck=>exact h
theorem Acc.later {P:α->Q0->Hp->Tk->Prop} {r:Res α} (h:Acc mg E H ρ P r) (x:Ext H ρ H1 ρ1):Acc mg E H1 ρ1 P r:=h.mono x fun _ _ _ _ p=>p
theorem Acc.bind {P:β->Q0->Hp->Tk->Prop} {r:Res α} {f:α->Q0->Res β} (h:Acc mg E H ρ P (r.bind f)):Acc mg E H ρ (fun a j H1 ρ1=>Acc mg E H1 ρ1 P (f a j)) r:=by
 cases r with
 | ok a st=>exact fun H' ρ' q z=>Acc.later (show Acc mg E H ρ P (f a st) from h) q
 | exc e st=>exact h
 | stuck=>exact h
end
abbrev QV (Q:VK):PV->Q0->Hp->Tk->Prop:=fun p _ H' ρ'=>∀ v,Rep H' ρ' p v->Q v H'
abbrev QL (Q:List V->Hp->Prop):List PV->Q0->Hp->Tk->Prop:=fun ps _ H' ρ'=>∀ vs,RepL H' ρ' ps vs->Q vs H'
abbrev QB (Q:Bool->Hp->Prop):Bool->Q0->Hp->Tk->Prop:=fun b _ H' _=>Q b H'
structure SimE (X:Cx) (E:XK) (e:aH) (m:ME):Prop where
 run:∀ (Γ:Gam) (σ:St) (H:Hp) (ρ:Tk) (st:Q0) (Q:VK),Rel H ρ st->EnvR H ρ Γ σ->Acc X.mg E H ρ (QV Q) (m Γ st)->WE X e σ H Q
structure SimT (X:Cx) (E:XK) (e:aH) (m:Gam->Q0->Res Bool):Prop where
 run:∀ (Γ:Gam) (σ:St) (H:Hp) (ρ:Tk) (st:Q0) (Q:Bool->Hp->Prop),Rel H ρ st->EnvR H ρ Γ σ->Acc X.mg E H ρ (QB Q) (m Γ st)->WT X e σ H Q
structure SimW (X:Cx) (E:XK) (e:aH) (m:Gam->Q0->Res Bool):Prop where
 run:∀ (Γ:Gam) (σ:St) (H:Hp) (ρ:Tk) (st:Q0) (Q:Bool->Hp->Prop),Rel H ρ st->EnvR H ρ Γ σ->Acc X.mg E H ρ (QB Q) (m Γ st)->WW X e σ H Q
structure SimA (X:Cx) (E:XK) (es:List aH) (m:Gam->Q0->Res (List PV)):Prop where
 run:∀ (Γ:Gam) (σ:St) (H:Hp) (ρ:Tk) (st:Q0) (Q:List V->Hp->Prop),Rel H ρ st->EnvR H ρ Γ σ->Acc X.mg E H ρ (QL Q) (m Γ st)->WA X es σ H Q
abbrev OP:=Q0->PV->PV->Res PV
structure OpS (X:Cx) (E:XK) (f:aA->aA->Sem aA) (o:OP):Prop where
 run:∀ (H:Hp) (ρ:Tk) (st:Q0) (p q:PV) (x y:V) (Q:VK),Rel H ρ st->Rep H ρ p x->Rep H ρ q y->Acc X.mg E H ρ (QV Q) (o st p q)->WO X f x y H Q
abbrev CF:=Q0->List PV->Res PV
structure CallS (X:Cx) (E:XK) (f:aA) (o:CF):Prop where
 run:∀ (H:Hp) (ρ:Tk) (st:Q0) (ps:List PV) (xs:List V) (Q:VK),Rel H ρ st->RepL H ρ ps xs->Acc X.mg E H ρ (QV Q) (o st ps)->WC X f xs H Q
section
variable {X:Cx} {E:XK} {Γ:Gam} {σ:St} {H:Hp} {ρ:Tk} {st:Q0}
theorem SimE.use {e:aH} {m:ME} (s:SimE X E e m) {P:PV->Q0->Hp->Tk->Prop} {Q:VK} (R:Rel H ρ st) (G:EnvR H ρ Γ σ) (h:Acc X.mg E H ρ P (m Γ st))
  (k:∀ p j H1 ρ1 v,Ext H ρ H1 ρ1->Rel H1 ρ1 j->EnvR H1 ρ1 Γ σ->Rep H1 ρ1 p v->P p j H1 ρ1->Q v H1):WE X e σ H Q:=by
 refine s.run Γ σ H ρ st Q R G ?_;cases r:m Γ st with
 | ok p j=>rw [r] at h; exact fun H' ρ' q z v I=>k p j H' ρ' v q z (G.ext q) I (h H' ρ' q z)
 | exc e st=>rw [r] at h; exact h
 | stuck=>rw [r] at h; exact h
theorem SimE.use' {e:aH} {m:ME} (s:SimE X E e m) {P:PV->Q0->Hp->Tk->Prop} {Q:VK} (R:Rel H ρ st) (G:EnvR H ρ Γ σ) (h:Acc X.mg E H ρ P (m Γ st))
  (k:∀ p j H1 ρ1 v,m Γ st=.ok p j->Ext H ρ H1 ρ1->Rel H1 ρ1 j->EnvR H1 ρ1 Γ σ->Rep H1 ρ1 p v->P p j H1 ρ1->Q v H1):WE X e σ H Q:=by
 refine s.run Γ σ H ρ st Q R G ?_;cases r:m Γ st with
 | ok p j=>rw [r] at h; exact fun H' ρ' q z v I=>k p j H' ρ' v r q z (G.ext q) I (h H' ρ' q z)
 | exc e st=>rw [r] at h; exact h
 | stuck=>rw [r] at h; exact h
theorem SimA.use' {es:List aH} {m:Gam->Q0->Res (List PV)} (s:SimA X E es m) {P:List PV->Q0->Hp->Tk->Prop} {Q:List V->Hp->Prop} (R:Rel H ρ st) (G:EnvR H ρ Γ σ) (h:Acc X.mg E H ρ P (m Γ st))
  (k:∀ ps j H1 ρ1 vs,m Γ st=.ok ps j->Ext H ρ H1 ρ1->Rel H1 ρ1 j->EnvR H1 ρ1 Γ σ->RepL H1 ρ1 ps vs->P ps j H1 ρ1->Q vs H1):WA X es σ H Q:=by
 refine s.run Γ σ H ρ st Q R G ?_;cases r:m Γ st with
 | ok p j=>rw [r] at h; exact fun H' ρ' q z v I=>k p j H' ρ' v r q z (G.ext q) I (h H' ρ' q z)
 | exc e st=>rw [r] at h; exact h
 | stuck=>rw [r] at h; exact h
theorem SimT.use {e:aH} {m:Gam->Q0->Res Bool} (s:SimT X E e m) {P:Bool->Q0->Hp->Tk->Prop} {Q:Bool->Hp->Prop} (R:Rel H ρ st) (G:EnvR H ρ Γ σ) (h:Acc X.mg E H ρ P (m Γ st))
  (k:∀ p j H1 ρ1,Ext H ρ H1 ρ1->Rel H1 ρ1 j->EnvR H1 ρ1 Γ σ->P p j H1 ρ1->Q p H1):WT X e σ H Q:=by
 refine s.run Γ σ H ρ st Q R G ?_;cases r:m Γ st with
 | ok p j=>rw [r] at h; exact fun H' ρ' q z=>k p j H' ρ' q z (G.ext q) (h H' ρ' q z)
 | exc e st=>rw [r] at h; exact h
 | stuck=>rw [r] at h; exact h
theorem SimT.use' {e:aH} {m:Gam->Q0->Res Bool} (s:SimT X E e m) {P:Bool->Q0->Hp->Tk->Prop} {Q:Bool->Hp->Prop} (R:Rel H ρ st) (G:EnvR H ρ Γ σ) (h:Acc X.mg E H ρ P (m Γ st))
  (k:∀ p j H1 ρ1,m Γ st=.ok p j->Ext H ρ H1 ρ1->Rel H1 ρ1 j->EnvR H1 ρ1 Γ σ->P p j H1 ρ1->Q p H1):WT X e σ H Q:=by
 refine s.run Γ σ H ρ st Q R G ?_;cases r:m Γ st with
 | ok p j=>rw [r] at h; exact fun H' ρ' q z=>k p j H' ρ' r q z (G.ext q) (h H' ρ' q z)
 | exc e st=>rw [r] at h; exact h
 | stuck=>rw [r] at h; exact h
theorem SimW.use {e:aH} {m:Gam->Q0->Res Bool} (s:SimW X E e m) {P:Bool->Q0->Hp->Tk->Prop} {Q:Bool->Hp->Prop} (R:Rel H ρ st) (G:EnvR H ρ Γ σ) (h:Acc X.mg E H ρ P (m Γ st))
  (k:∀ p j H1 ρ1,Ext H ρ H1 ρ1->Rel H1 ρ1 j->EnvR H1 ρ1 Γ σ->P p j H1 ρ1->Q p H1):WW X e σ H Q:=by
 refine s.run Γ σ H ρ st Q R G ?_;cases r:m Γ st with
 | ok p j=>rw [r] at h; exact fun H' ρ' q z=>k p j H' ρ' q z (G.ext q) (h H' ρ' q z)
 | exc e st=>rw [r] at h; exact h
 | stuck=>rw [r] at h; exact h
theorem SimA.use {es:List aH} {m:Gam->Q0->Res (List PV)} (s:SimA X E es m) {P:List PV->Q0->Hp->Tk->Prop} {Q:List V->Hp->Prop} (R:Rel H ρ st) (G:EnvR H ρ Γ σ) (h:Acc X.mg E H ρ P (m Γ st))
  (k:∀ ps j H1 ρ1 vs,Ext H ρ H1 ρ1->Rel H1 ρ1 j->EnvR H1 ρ1 Γ σ->RepL H1 ρ1 ps vs->P ps j H1 ρ1->Q vs H1):WA X es σ H Q:=by
 refine s.run Γ σ H ρ st Q R G ?_;cases r:m Γ st with
 | ok p j=>rw [r] at h; exact fun H' ρ' q z v I=>k p j H' ρ' v q z (G.ext q) I (h H' ρ' q z)
 | exc e st=>rw [r] at h; exact h
 | stuck=>rw [r] at h; exact h
theorem OpS.use {f:aA->aA->Sem aA} {o:OP} (s:OpS X E f o) {P:PV->Q0->Hp->Tk->Prop} {Q:VK} {p q:PV} {x y:V} (R:Rel H ρ st) (J:Rep H ρ p x) (Y:Rep H ρ q y) (h:Acc X.mg E H ρ P (o st p q))
  (k:∀ p j H1 ρ1 v,Ext H ρ H1 ρ1->Rel H1 ρ1 j->Rep H1 ρ1 p v->P p j H1 ρ1->Q v H1):WO X f x y H Q:=by
 refine s.run H ρ st p q x y Q R J Y ?_;cases r:o st p q with
 | ok p j=>rw [r] at h; exact fun H' ρ' z I v O=>k p j H' ρ' v z I O (h H' ρ' z I)
 | exc e st=>rw [r] at h; exact h
 | stuck=>rw [r] at h; exact h
end
end Sm
namespace Sm
open PySem PySem.Spec L2 SeqAt
mutual
def peq:PV->PV->Bool
 | .non,.non=>yo
 | .bl a,.bl b=>a == b
 | .bl a,.int b=>(if a then 1 else 0) == b
 | .int a,.bl b=>a == (if b then 1 else 0)
 | .int a,.int b=>a == b
 | .str a,.str b=>a == b
 | .tup xs,.tup ys=>peqL xs ys
 | .lst xs,.lst ys=>peqL xs ys
 | .lst xs,.fro ys=>peqL xs ys
 | .fro xs,.lst ys=>peqL xs ys
 | .fro xs,.fro ys=>peqL xs ys
 | _,_=>yl
def peqL:List PV->List PV->Bool
 | [],[]=>yo
 | x :: xs,y :: ys=>peq x y && peqL xs ys
 | _,_=>yl
end
def good:Nat->PV->Bool
 | _,.ref _=>yl
 | _,.dic=>yl
 | 0,.tup _=>yl
 | 0,.lst _=>yl
 | 0,.fro _=>yl
 | n + 1,.tup xs=>xs.all (good n)
 | n + 1,.lst xs=>xs.all (good n)
 | n + 1,.fro xs=>xs.all (good n)
 | _,_=>yo
theorem Q2f:∀ {xs ys:List PV},xs.length≠ys.length->peqL xs ys=yl
 | [],[],h=>absurd rfl h
 | [],_ :: _,_=>by simp [peqL]
 | _ :: _,[],_=>by simp [peqL]
 | x :: xs,y :: ys,h=>by
  rw [peqL,Q2f (xs:=xs) (ys:=ys) fun e=>h (by simp [e]),dh]
theorem Q2g:∀ {xs ys:List PV},xs.length=ys.length->peqL xs ys=(bX xs.length).all fun j=>peq (xs.getD j .non) (ys.getD j .non)
 | [],[],_=>by simp [peqL]
 | [],_ :: _,h=>by simp at h
 | _ :: _,[],h=>by simp at h
 | x :: xs,y :: ys,h=>by
  rw [peqL,Q2g (xs:=xs) (ys:=ys) (by simpa using h),D5,fL,cI,cG];rfl
section
variable {X:Cx} {pins:List (aB × Obj)} {σ:St} {H:Hp} {s:aC} {ρ:Tk}
mutual
theorem Q87:∀ {p q:PV} {x:V} {n:Nat},good n p=yo->good n q=yo->Rep H ρ p x->Rep H ρ q x->peq p q=yo
 | .non,q,x,n,_,I,h1,h2=>by
  cases h1;cases q <;> first | rfl | (cases n <;> cases I; done) | (cases h2; done) | (obtain ⟨_,_,e,_⟩:=h2; cases e) | (obtain ⟨_,_,e⟩:=h2; cases e)
 | .bl b,q,x,n,_,I,h1,h2=>by
  cases h1;cases q <;> first | (cases n <;> cases I; done) | (cases h2; simp [peq]; done) | (obtain ⟨_,_,e,_⟩:=h2; done) | (obtain ⟨_,_,e,_⟩:=h2; cases e; done) | (obtain ⟨_,_,e⟩:=h2; cases e)
 | .int b,q,x,n,_,I,h1,h2=>by
  cases h1;cases q <;> first | (cases n <;> cases I; done) | (cases h2; simp [peq]; done) | (obtain ⟨_,_,e,_⟩:=h2; done) | (obtain ⟨_,_,e,_⟩:=h2; cases e; done) | (obtain ⟨_,_,e⟩:=h2; cases e)
 | .str b,q,x,n,_,I,h1,h2=>by
  cases h1;cases q <;> first | (cases n <;> cases I; done) | (cases h2; simp [peq]; done) | (obtain ⟨_,_,e,_⟩:=h2; done) | (obtain ⟨_,_,e,_⟩:=h2; cases e; done) | (obtain ⟨_,_,e⟩:=h2; cases e)
 | .tup ps,q,x,0,J,_,_,_=>by cases J
 | .tup ps,q,x,n + 1,J,I,⟨a,vs,e,z,_,r⟩,h2=>by
  subst e;cases q with
  | tup Z=>
   obtain ⟨b,O,e,j,_,Y⟩:=h2;cases e;rw [z] at j; cases j;rw [peq];exact repL_same J I r Y
  | lst Z=>obtain ⟨b,O,e,j,_⟩:=h2; cases e; rw [z] at j; cases j
  | fro Z=>obtain ⟨b,O,e,j,_⟩:=h2; cases e; rcases j with j | ⟨o,j⟩ <;> (rw [z] at j; cases j)
  | ref i=>cases I
  | dic=>cases I
  | _=>cases h2
 | .lst ps,q,x,0,J,_,_,_=>by cases J
 | .lst ps,q,x,n + 1,J,I,⟨a,vs,e,z,_,r⟩,h2=>by
  subst e;cases q with
  | lst Z=>
   obtain ⟨b,O,e,j,_,Y⟩:=h2;cases e;rw [z] at j; cases j;rw [peq];exact repL_same J I r Y
  | tup Z=>obtain ⟨b,O,e,j,_⟩:=h2; cases e; rw [z] at j; cases j
  | fro Z=>
   obtain ⟨b,O,e,j,_,Y⟩:=h2;cases e;rcases j with j | ⟨o,j⟩
   ·rw [z] at j; cases j;rw [peq];exact repL_same J I r Y
   ·rw [z] at j; cases j
  | ref i=>cases I
  | dic=>cases I
  | _=>cases h2
 | .fro ps,q,x,0,J,_,_,_=>by cases J
 | .fro ps,q,x,n + 1,J,I,⟨a,vs,e,z,_,r⟩,h2=>by
  subst e;cases q with
  | lst Z=>
   obtain ⟨b,O,e,j,_,Y⟩:=h2;cases e;rcases z with z | ⟨o,z⟩
   ·rw [z] at j; cases j;rw [peq];exact repL_same J I r Y
   ·rw [z] at j; cases j
  | tup Z=>obtain ⟨b,O,e,j,_⟩:=h2; cases e; rcases z with z | ⟨o,z⟩ <;> (rw [z] at j; cases j)
  | fro Z=>
   obtain ⟨b,O,e,j,_,Y⟩:=h2;cases e;have:vs=O:=by
    rcases z with z | ⟨o,z⟩ <;> rcases j with j | ⟨o',j⟩ <;> (rw [z] at j; cases j) <;> rfl
   subst this;rw [peq];exact repL_same J I r Y
  | ref i=>cases I
  | dic=>cases I
  | _=>cases h2
 | .ref i,_,_,n,J,_,_,_=>by cases n <;> cases J
 | .dic,_,_,n,J,_,_,_=>by cases n <;> cases J
theorem repL_same:∀ {ps j:List PV} {vs:List V} {n:Nat},ps.all (good n)=yo->j.all (good n)=yo->RepL H ρ ps vs->RepL H ρ j vs->peqL ps j=yo
 | [],j,vs,n,_,_,h1,h2=>by
  cases h1;cases j with
  | nil=>rfl
  | cons q j=>obtain ⟨_,_,e,_⟩:=h2; cases e
 | p :: ps,j,vs,n,z,g2,⟨v,r,e,h1,J⟩,h2=>by
  subst e;cases j with
  | nil=>cases h2
  | cons q j=>
   obtain ⟨_,_,e,h2,I⟩:=h2;cases e;rw [cI,E6] at z g2;rw [peqL,Q87 z.1 g2.1 h1 h2,repL_same z.2 g2.2 J I]; rfl
end
inductive Kd (H:Hp) (ρ:Tk) (s:aC):PV->aA->Prop where
 | non:Kd H ρ s .non .none
 | bl (b):Kd H ρ s (.bl b) (.bool b)
 | int (i t):Kd H ρ s (.int i) (.int i t)
 | str (x t):Kd H ρ s (.str x) (.str x t)
 | tup (ps a) (vs:List V) (its:List aA):H a=zo (.tup vs)->RepL H ρ ps vs->Vals vs its->s.heap.IsTuple a its.toArray->Kd H ρ s (.tup ps) (.ref a)
 | lst (p ps a) (vs:List V) (its:List aA):(p=.lst ps\/p=.fro ps)->RepL H ρ ps vs->Vals vs its->s.heap.IsList a its.toArray->Kd H ρ s p (.ref a)
theorem Qct {p:PV} {x:V} {u:aA} {n:Nat} (I:Inv X pins σ H s) (g:good n p=yo) (r:Rep H ρ p x) (ru:RelV x u):Kd H ρ s p u:=by
 cases p with
 | non=>cases r; cases ru; exact .non
 | bl b=>cases r; cases ru; exact .bl b
 | int i=>cases r; obtain ⟨t,rfl⟩:=ru; exact .int i t
 | str i=>cases r; obtain ⟨t,rfl⟩:=ru; exact .str i t
 | tup ps=>
  obtain ⟨a,vs,rfl,j,_,q⟩:=r;cases ru;obtain ⟨its,J,z,_⟩:=I.tuple (SqT.of (K:=X.K) j);exact .tup ps a vs its j q J z
 | lst ps=>
  obtain ⟨a,vs,rfl,j,_,q⟩:=r;cases ru;obtain ⟨its,J,z,_⟩:=I.list (SqL.of (K:=X.K) j);exact .lst _ ps a vs its (.inl rfl) q J z.isList
 | fro ps=>
  obtain ⟨a,vs,rfl,j,_,q⟩:=r;cases ru;obtain ⟨its,J,z,_⟩:=I.list (show SqL X.K H a vs from .inl j);exact .lst _ ps a vs its (.inr rfl) q J z.isList
 | ref i=>cases n <;> cases g
 | dic=>cases n <;> cases g
theorem jh {ps:List PV} {vs:List V} {its:List aA} (r:RepL H ρ ps vs) (v:Vals vs its) {j:Nat} (h:j < its.length):∃ x,Rep H ρ (ps.getD j .non) x/\RelV x its[j]:=by
 have J:=r.length;have I:=v.length;have q:j < ps.length:=by omega
 obtain ⟨x,e1,e2⟩:=r.get (O2 q);obtain ⟨u,e3,z⟩:=v.get e1;rw [O2 h] at e3; cases e3;refine ⟨x,?_,z⟩;rw [eB,O2 q];exact e2
theorem jg {ps:List PV} {n:Nat} (g:ps.all (good n)=yo) (j:Nat) (q:j < ps.length):good n (ps.getD j .non)=yo:=by
 rw [eB,O2 q];exact (F4.mp g) _ (G9 q)
theorem Qaj {ps q:List PV}:((bX (min ps.length q.length)).all (fun j=>peq (ps.getD j .non) (q.getD j .non)) && ps.length == q.length)=peqL ps q:=by
 by_cases e:ps.length=q.length
 ·rw [Q2g e,<- e,Nat.min_self,beq_self_eq_true,Bool.and_true]
 ·rw [Q2f e,beq_eq_false_iff_ne.mpr e,dh]
theorem Qd1:∀ (n:Nat) {A:aL} {p q:PV} {x y:V} {u v:aA},Inv X pins σ H s->good n p=yo->good n q=yo->A.units + n < aQ->Rep H ρ p x->RelV x u->Rep H ρ q y->RelV y v ->
  EqAt A s u v (peq p q)/\RcAt A s u v (peq p q)/\RcNeAt A s u v (!peq p q):=by
 intro n
 induction n with
 | zero=>
  intro A p q x y u v I gp Y hu rp ru rq rv;have k1:=Qct I gp rp ru;have k2:=Qct I Y rq rv;have hu:A.units < aQ:=by omega
  cases k1 with
  | tup=>cases gp
  | lst p ps a vs its h=>rcases h with rfl | rfl <;> cases gp
  | non=>cases k2 with
   | tup=>cases Y
   | lst p ps a vs its h=>rcases h with rfl | rfl <;> cases Y
   | non=>exact ⟨EqAt.same _,RcAt.none_none,RcNeAt.none_none⟩
   | bl b=>exact ⟨EqAt.none_bool _,RcAt.none_bool _,RcNeAt.none_bool _⟩
   | int i t=>exact ⟨EqAt.none_int _ _,RcAt.none_int _ _,RcNeAt.none_int _ _⟩
   | str i t=>exact ⟨EqAt.none_str _ _,RcAt.none_str _ _,RcNeAt.none_str _ _⟩
  | bl a=>cases k2 with
   | tup=>cases Y
   | lst p ps a vs its h=>rcases h with rfl | rfl <;> cases Y
   | non=>exact ⟨EqAt.bool_none _,RcAt.bool_none _,RcNeAt.bool_none _⟩
   | bl b=>exact ⟨EqAt.bool_bool _ _,RcAt.bool_bool _ _,RcNeAt.bool_bool _ _⟩
   | int i t=>exact ⟨EqAt.bool_int _ _ _,RcAt.bool_int _ _ _,RcNeAt.bool_int _ _ _⟩
   | str i t=>exact ⟨EqAt.bool_str _ _ _,RcAt.bool_str _ _ _,RcNeAt.bool_str _ _ _⟩
  | int a a3=>cases k2 with
   | tup=>cases Y
   | lst p ps a vs its h=>rcases h with rfl | rfl <;> cases Y
   | non=>exact ⟨EqAt.int_none _ _,RcAt.int_none _ _,RcNeAt.int_none _ _⟩
   | bl b=>exact ⟨EqAt.int_bool _ _ _,RcAt.int_bool _ _ _,RcNeAt.int_bool _ _ _⟩
   | int i t=>exact ⟨EqAt.int_int _ _ _ _,RcAt.int_int _ _ _ _,RcNeAt.int_int _ _ _ _⟩
   | str i t=>exact ⟨EqAt.int_str _ _ _ _,RcAt.int_str _ _ _ _,RcNeAt.int_str _ _ _ _⟩
  | str a a3=>cases k2 with
   | tup=>cases Y
   | lst p ps a vs its h=>rcases h with rfl | rfl <;> cases Y
   | non=>exact ⟨EqAt.str_none _ _,RcAt.str_none _ _,RcNeAt.str_none _ _⟩
   | bl b=>exact ⟨EqAt.str_bool _ _ _,RcAt.str_bool _ _ _,RcNeAt.str_bool _ _ _⟩
   | int i t=>exact ⟨EqAt.str_int _ _ _ _,RcAt.str_int _ _ _ _,RcNeAt.str_int _ _ _ _⟩
   | str i t=>exact ⟨EqAt.str_str _ _ _ _,RcAt.str_str _ _ _ _,RcNeAt.str_str _ _ _ _⟩
 | succ n ih=>
  intro A p q x y u v I gp Y hu rp ru rq rv;have k1:=Qct I gp rp ru;have k2:=Qct I Y rq rv;have z:A.units < aQ:=by omega
  have a5:A.in1.units + n < aQ:=by show A.units + 1 + n < aQ; omega
  cases k1 with
  | non=>cases k2 with
   | non=>exact ⟨EqAt.same _,RcAt.none_none,RcNeAt.none_none⟩
   | bl b=>exact ⟨EqAt.none_bool _,RcAt.none_bool _,RcNeAt.none_bool _⟩
   | int i t=>exact ⟨EqAt.none_int _ _,RcAt.none_int _ _,RcNeAt.none_int _ _⟩
   | str i t=>exact ⟨EqAt.none_str _ _,RcAt.none_str _ _,RcNeAt.none_str _ _⟩
   | tup ps a vs its ha r v1 J=>exact ⟨EqAt.none_tuple J z,RcAt.none_tuple J z,RcNeAt.none_tuple J z⟩
   | lst p ps a vs its h r v1 J=>rcases h with rfl | rfl <;> exact ⟨EqAt.none_list J z,RcAt.none_list J z,RcNeAt.none_list J z⟩
  | bl a=>cases k2 with
   | non=>exact ⟨EqAt.bool_none _,RcAt.bool_none _,RcNeAt.bool_none _⟩
   | bl b=>exact ⟨EqAt.bool_bool _ _,RcAt.bool_bool _ _,RcNeAt.bool_bool _ _⟩
   | int i t=>exact ⟨EqAt.bool_int _ _ _,RcAt.bool_int _ _ _,RcNeAt.bool_int _ _ _⟩
   | str i t=>exact ⟨EqAt.bool_str _ _ _,RcAt.bool_str _ _ _,RcNeAt.bool_str _ _ _⟩
   | tup ps a vs its ha r v1 J=>exact ⟨EqAt.bool_tuple _ J z,RcAt.bool_tuple _ J z,RcNeAt.bool_tuple _ J z⟩
   | lst p ps a vs its h r v1 J=>rcases h with rfl | rfl <;> exact ⟨EqAt.bool_list _ J z,RcAt.bool_list _ J z,RcNeAt.bool_list _ J z⟩
  | int a a3=>cases k2 with
   | non=>exact ⟨EqAt.int_none _ _,RcAt.int_none _ _,RcNeAt.int_none _ _⟩
   | bl b=>exact ⟨EqAt.int_bool _ _ _,RcAt.int_bool _ _ _,RcNeAt.int_bool _ _ _⟩
   | int i t=>exact ⟨EqAt.int_int _ _ _ _,RcAt.int_int _ _ _ _,RcNeAt.int_int _ _ _ _⟩
   | str i t=>exact ⟨EqAt.int_str _ _ _ _,RcAt.int_str _ _ _ _,RcNeAt.int_str _ _ _ _⟩
   | tup ps a vs its ha r v1 J=>exact ⟨EqAt.int_tuple _ _ J z,RcAt.int_tuple _ _ J z,RcNeAt.int_tuple _ _ J z⟩
   | lst p ps a vs its h r v1 J=>rcases h with rfl | rfl <;> exact ⟨EqAt.int_list _ _ J z,RcAt.int_list _ _ J z,RcNeAt.int_list _ _ J z⟩
  | str a a3=>cases k2 with
   | non=>exact ⟨EqAt.str_none _ _,RcAt.str_none _ _,RcNeAt.str_none _ _⟩
   | bl b=>exact ⟨EqAt.str_bool _ _ _,RcAt.str_bool _ _ _,RcNeAt.str_bool _ _ _⟩
   | int i t=>exact ⟨EqAt.str_int _ _ _ _,RcAt.str_int _ _ _ _,RcNeAt.str_int _ _ _ _⟩
   | str i t=>exact ⟨EqAt.str_str _ _ _ _,RcAt.str_str _ _ _ _,RcNeAt.str_str _ _ _ _⟩
   | tup ps a vs its ha r v1 J=>exact ⟨EqAt.str_tuple _ _ J z,RcAt.str_tuple _ _ J z,RcNeAt.str_tuple _ _ J z⟩
   | lst p ps a vs its h r v1 J=>rcases h with rfl | rfl <;> exact ⟨EqAt.str_list _ _ J z,RcAt.str_list _ _ J z,RcNeAt.str_list _ _ J z⟩
  | tup ps a vs its ha r v1 J=>cases k2 with
   | non=>exact ⟨EqAt.tuple_none J z,RcAt.tuple_none J z,RcNeAt.tuple_none J z⟩
   | bl b=>exact ⟨EqAt.tuple_bool _ J z,RcAt.tuple_bool _ J z,RcNeAt.tuple_bool _ J z⟩
   | int i t=>exact ⟨EqAt.tuple_int _ _ J z,RcAt.tuple_int _ _ J z,RcNeAt.tuple_int _ _ J z⟩
   | str i t=>exact ⟨EqAt.tuple_str _ _ J z,RcAt.tuple_str _ _ J z,RcNeAt.tuple_str _ _ J z⟩
   | tup Z b us O hb r2 v2 p2=>
    have l1:its.toArray.size=ps.length:=by rw [O8,<- v1.length,r.length]
    have l2:O.toArray.size=Z.length:=by rw [O8,<- v2.length,r2.length]
    have he:∀ j (h1:j < its.toArray.size) (h2:j < O.toArray.size),EqAt A.in1 s its.toArray[j] O.toArray[j] (peq (ps.getD j .non) (Z.getD j .non)):=fun j h1 h2=>by
     obtain ⟨x1,a1,b1⟩:=jh r v1 (j:=j) (by simpa using h1);obtain ⟨x2,a2,b2⟩:=jh r2 v2 (j:=j) (by simpa using h2);exact (ih I (jg gp j (by omega)) (jg Y j (by omega)) a5 a1 b1 a2 b2).1
    have rc:=RcAt.tuples J p2 z he;have rn:=RcNeAt.tuples J p2 z he;rw [l1,l2,Qaj] at rc rn;refine ⟨?_,rc,rn⟩
    by_cases e:a=b
    ·subst e;have:peqL ps Z=yo:=by
      rw [ha] at hb; cases hb;exact repL_same gp Y r r2
     show EqAt A s _ _ (peqL ps Z);rw [this];exact EqAt.same _
    ·exact EqAt.of_refs e rc
   | lst q Z b us O h r2 v2 p2=>rcases h with rfl | rfl <;> exact ⟨EqAt.tuple_list J p2 z,RcAt.tuple_list J p2 z,RcNeAt.tuple_list J p2 z⟩
  | lst p ps a vs its h r v1 J=>cases k2 with
   | non=>rcases h with rfl | rfl <;> exact ⟨EqAt.list_none J z,RcAt.list_none J z,RcNeAt.list_none J z⟩
   | bl b=>rcases h with rfl | rfl <;> exact ⟨EqAt.list_bool _ J z,RcAt.list_bool _ J z,RcNeAt.list_bool _ J z⟩
   | int i t=>rcases h with rfl | rfl <;> exact ⟨EqAt.list_int _ _ J z,RcAt.list_int _ _ J z,RcNeAt.list_int _ _ J z⟩
   | str i t=>rcases h with rfl | rfl <;> exact ⟨EqAt.list_str _ _ J z,RcAt.list_str _ _ J z,RcNeAt.list_str _ _ J z⟩
   | tup Z b us O hb r2 v2 p2=>rcases h with rfl | rfl <;> exact ⟨EqAt.list_tuple J p2 z,RcAt.list_tuple J p2 z,RcNeAt.list_tuple J p2 z⟩
   | lst q Z b us O h2 r2 v2 p2=>
    have l1:its.toArray.size=ps.length:=by rw [O8,<- v1.length,r.length]
    have l2:O.toArray.size=Z.length:=by rw [O8,<- v2.length,r2.length]
    have a7:ps.all (good n)=yo:=by rcases h with rfl | rfl <;> exact gp
    have a8:Z.all (good n)=yo:=by rcases h2 with rfl | rfl <;> exact Y
    have ep:peq p q=peqL ps Z:=by rcases h with rfl | rfl <;> rcases h2 with rfl | rfl <;> rfl
    have he:∀ j (h1:j < its.toArray.size) (h2:j < O.toArray.size),EqAt A.in1 s its.toArray[j] O.toArray[j] (peq (ps.getD j .non) (Z.getD j .non)):=fun j h1 h2=>by
     obtain ⟨x1,a1,b1⟩:=jh r v1 (j:=j) (by simpa using h1);obtain ⟨x2,a2,b2⟩:=jh r2 v2 (j:=j) (by simpa using h2);exact (ih I (jg a7 j (by omega)) (jg a8 j (by omega)) a5 a1 b1 a2 b2).1
    rw [ep];have a4:RcAt A s (.ref a) (.ref b) (peqL ps Z)/\RcNeAt A s (.ref a) (.ref b) (!peqL ps Z):=by
     by_cases e:ps.length=Z.length
     ·have rc:=RcAt.lists J p2 (by rw [l1,l2,e]) z he;have rn:=RcNeAt.lists J p2 (by rw [l1,l2,e]) z he;rw [l1,<- Q2g e] at rc rn;exact ⟨rc,rn⟩
     ·have e':(its.toArray.size != O.toArray.size)=yo:=by rw [l1,l2]; simpa using e
      rw [Q2f e];exact ⟨RcAt.lists_lengths J p2 e' z,RcNeAt.lists_lengths J p2 e' z⟩
    refine ⟨?_,a4.1,a4.2⟩
    by_cases e:a=b
    ·subst e;have a6:peq p q=yo:=by
      have b0:=rp;have a9:=rq;have xa:x=.ref a:=by
       rcases h with rfl | rfl <;> (obtain ⟨b',_,rfl,_⟩:=rp; cases ru; rfl)
      have ya:y=.ref a:=by
       rcases h2 with rfl | rfl <;> (obtain ⟨b',_,rfl,_⟩:=rq; cases rv; rfl)
      subst xa; subst ya;exact Q87 gp Y rp rq
     rw [<- ep,a6];exact EqAt.same _
    ·exact EqAt.of_refs e a4.1
end
end Sm
namespace Sm
open PySem PySem.Spec L2
def lim:Nat:=1000000
theorem Q6s:lim<=sizeLine:=by decide
theorem Yv {n:Nat} (h:n<=lim):n<=sizeLine:=E1 h Q6s
def U4 (st:Q0):PV->Option (List PV)
 | .lst xs=>zo xs
 | .ref i=>match st[i]? with
  | some (.lst xs)=>zo xs
  | _=>zb
 | _=>zb
def Wu (st:Q0):PV->Option (List PV)
 | .fro xs=>zo xs
 | p=>U4 st p
def Ud (st:Q0):PV->Option (List PV)
 | .tup xs=>zo xs
 | p=>Wu st p
def der (st:Q0):PV->PV
 | .ref i=>match st[i]? with
  | some (.lst xs)=>.lst xs
  | _=>.ref i
 | p=>p
section
variable {H:Hp} {ρ:Tk} {st:Q0} {p:PV} {v:V} {xs:List PV}
theorem zj (R:Rel H ρ st) (r:Rep H ρ p v) (e:U4 st p=zo xs):∃ a vs,v=.ref a/\H a=zo (.lst vs)/\RepL H ρ xs vs:=by
 cases p with
 | lst ys=>
  obtain ⟨a,vs,e1,e2,_,e3⟩:=r;cases e;exact ⟨a,vs,e1,e2,e3⟩
 | ref i=>
  obtain ⟨a,e1,e2⟩:=r;simp only [U4] at e
  split at e
  ·rename_i ys hs;cases e;obtain ⟨b,vs,j,z,q⟩:=R.lst hs;rw [e1] at j; cases j;exact ⟨a,vs,e2,z,q⟩
  ·cases e
 | _=>cases e
theorem Yp (R:Rel H ρ st) (r:Rep H ρ p v) (e:Wu st p=zo xs):∃ a vs,v=.ref a/\Rd H a (.lst vs)/\RepL H ρ xs vs:=by
 cases p with
 | fro ys=>
  obtain ⟨a,vs,e1,e2,_,e3⟩:=r;cases e;exact ⟨a,vs,e1,e2,e3⟩
 | _=>
  obtain ⟨a,vs,e1,e2,e3⟩:=zj R r e;exact ⟨a,vs,e1,.inl e2,e3⟩
theorem Q1x {K:bW} (R:Rel H ρ st) (r:Rep H ρ p v) (e:Ud st p=zo xs):∃ (t:Bool) (a:aB) (vs:List V),v=.ref a/\SqK K t H a vs/\RepL H ρ xs vs:=by
 cases p with
 | tup ys=>
  obtain ⟨a,vs,e1,e2,_,e3⟩:=r;cases e;exact ⟨yo,a,vs,e1,show SqT K H a vs from SqT.of e2,e3⟩
 | _=>
  obtain ⟨a,vs,e1,e2,e3⟩:=Yp R r e;exact ⟨yl,a,vs,e1,show SqL K H a vs from .inl e2,e3⟩
theorem Qfm {K:bW} {t:Bool} {a:aB} {vs:List V} (h:SqK K t H a vs):SqL K H a vs\/SqT K H a vs:=by
 cases t with
 | true=>exact .inr h
 | false=>exact .inl h
mutual
theorem Qc9:∀ {n:Nat} {q:PV} {u:V},good n q=yo->Rep H ρ q u->Rep H Tk.nil q u
 | _,.non,_,_,r=>r
 | _,.bl _,_,_,r=>r
 | _,.int _,_,_,r=>r
 | _,.str _,_,_,r=>r
 | 0,.tup _,_,g,_=>by cases g
 | 0,.lst _,_,g,_=>by cases g
 | 0,.fro _,_,g,_=>by cases g
 | n + 1,.tup _,_,g,⟨a,vs,e,h,_,r⟩=>⟨a,vs,e,h,Tk.not_nil _,repL_nil g r⟩
 | n + 1,.lst _,_,g,⟨a,vs,e,h,_,r⟩=>⟨a,vs,e,h,Tk.not_nil _,repL_nil g r⟩
 | n + 1,.fro _,_,g,⟨a,vs,e,h,_,r⟩=>⟨a,vs,e,h,Tk.not_nil _,repL_nil g r⟩
 | 0,.ref _,_,g,_=>by cases g
 | _ + 1,.ref _,_,g,_=>by cases g
 | 0,.dic,_,g,_=>by cases g
 | _ + 1,.dic,_,g,_=>by cases g
theorem repL_nil:∀ {n:Nat} {j:List PV} {z:List V},j.all (good n)=yo->RepL H ρ j z->RepL H Tk.nil j z
 | _,[],_,_,r=>r
 | n,q :: j,_,g,⟨v,r,e,h1,h2⟩=>by
  rw [cI,E6] at g;exact ⟨v,r,e,Qc9 g.1 h1,repL_nil g.2 h2⟩
end
theorem jj (R:Rel H ρ st) {n:Nat} (g:good n (der st p)=yo) (r:Rep H ρ p v):Rep H Tk.nil (der st p) v:=by
 cases p with
 | ref i=>
  obtain ⟨a,e1,e2⟩:=r;simp only [der] at g ⊢
  split at g
  ·rename_i ys hs;obtain ⟨b,vs,j,z,q⟩:=R.lst hs;rw [e1] at j; cases j;cases n with
   | zero=>cases g
   | succ n=>exact ⟨a,vs,e2,z,Tk.not_nil _,repL_nil g q⟩
  ·cases n <;> cases g
 | _=>exact Qc9 g r
theorem yp {mg:Str->Option aA} {E:XK} {Q:VK} {ps:List PV} {vs:List V} (R:Rel H ρ st) (h:Acc mg E H ρ (QV Q) (.ok (.tup ps) st)) (r:RepL H ρ ps vs):∀ p,H p=zb->Q (.ref p) (upd H p (.tup vs)):=
 fun p hp=>h _ ρ (Ext.add hp) (R.add hp) _ ⟨p,vs,rfl,J3,R.fresh hp,r.ext (Ext.add hp)⟩
theorem jc {mg:Str->Option aA} {E:XK} {Q:VK} {ps:List PV} {vs:List V} (R:Rel H ρ st) (h:Acc mg E H ρ (QV Q) (.ok (.lst ps) st)) (r:RepL H ρ ps vs):∀ p,H p=zb->Q (.ref p) (upd H p (.lst vs)):=
 fun p hp=>h _ ρ (Ext.add hp) (R.add hp) _ ⟨p,vs,rfl,J3,R.fresh hp,r.ext (Ext.add hp)⟩
theorem now {mg:Str->Option aA} {E:XK} {Q:VK} {p:PV} (R:Rel H ρ st) (h:Acc mg E H ρ (QV Q) (.ok p st)) (r:Rep H ρ p v):Q v H:=h H ρ (Ext.refl _ _) R v r
end
section
variable {X:Cx} {E:XK} {pos:Pos}
def Q4 (i:Nat):ME:=fun Γ st=>match Γ[i]? with
 | some (zo p)=>.ok p st
 | _=>.stuck
def mC (p:PV):ME:=fun _ st=>.ok p st
theorem Q2 (i:Nat) {x:Str} (z:X.N[i]?=zo x:=by rfl) (q:Vis X.env.scope x:=by first | exact Or.inl rfl | exact Or.inr (Or.inl rfl) | exact Or.inr (Or.inr rfl)) (hd:(x == ("__debug__" : Str))=yl:=by decide)
  (j:(x == ("__classdict__" : Str))=yl:=by decide):SimE X E (.Name x pos) (Q4 i):=⟨fun Γ σ H ρ st Q R G h=>WE.of (Qgk z q hd j) (by
 unfold Q4 at h
 split at h
 ·rename_i p e;obtain ⟨v,e1,r⟩:=G.2 i p e;exact ⟨v,e1,now R h r⟩
 ·exact h.elim)⟩
theorem Q5 {i:Int} {j:Nat}:SimE X E (.Constant (.int i) j pos) (mC (.int i)):=⟨fun Γ σ H ρ st Q R G h=>WE.of Qr7 (now R h rfl)⟩
theorem Wy {b:Bool} {j:Nat}:SimE X E (.Constant (.bool b) j pos) (mC (.bl b)):=⟨fun Γ σ H ρ st Q R G h=>WE.of Quf (now R h rfl)⟩
theorem Vv {j:Nat}:SimE X E (.Constant .none j pos) (mC .non):=⟨fun Γ σ H ρ st Q R G h=>WE.of Qr6 (now R h rfl)⟩
theorem Jm {x:Str} {j:Nat}:SimE X E (.Constant (.str x) j pos) (mC (.str x)):=⟨fun Γ σ H ρ st Q R G h=>WE.of Qr3 (now R h rfl)⟩
theorem Kb {x:Str} {i:Int} {t:Tok} (j:Gl X x) (hm:X.mg x=zo (.int i t)) (hd:(x == ("__debug__" : Str))=yl:=by decide):SimE X E (.Name x pos) (mC (.int i)):=
 ⟨fun Γ σ H ρ st Q R G h=>WE.of (Q6b j hm (v:=.int i) ⟨t,rfl⟩ hd) (now R h rfl)⟩
variable {a b c:aH} {ma mb mc:ME}
def mOp (o:OP) (ma mb:ME):ME:=fun Γ st=>(ma Γ st).bind fun x st1=>(mb Γ st1).bind fun y st2=>o st2 x y
theorem Q7g {f:aA->aA->Sem aA} {o:OP} {Γ:Gam} {σ:St} {H:Hp} {ρ:Tk} {st:Q0} {P:PV->Q0->Hp->Tk->Prop} {Q:VK} (ho:OpS X E f o) (ha:SimE X E a ma) (Z:SimE X E b mb) (R:Rel H ρ st) (G:EnvR H ρ Γ σ) (h:Acc X.mg E H ρ P (mOp o ma mb Γ st))
  (k:∀ p j H1 ρ1 v,Ext H ρ H1 ρ1->Rel H1 ρ1 j->Rep H1 ρ1 p v->P p j H1 ρ1->Q v H1):tOp (WO X f) (WE X a) (WE X b) σ H Q:=by
 refine ha.use R G h.bind fun p j H1 ρ1 v x1 R1 G1 Y h1=>?_
 refine Z.use R1 G1 h1.bind fun q a2 H2 a1 u x2 R2 G2 r2 h2=>?_
 exact ho.use R2 (Y.ext x2) r2 h2 fun w J O I z x3 R3 r3 p3=>k w J O I z (x1.trans (x2.trans x3)) R3 r3 p3
theorem J7 {op:Operator} {o:OP} (j:OpS X E (aZ op) o) (z:SimE X E a ma) (I:SimE X E b mb):SimE X E (.BinOp a op b pos) (mOp o ma mb):=
 ⟨fun Γ σ H ρ st Q R G h=>WE.of (Qpd Qam Ja Ja) (Q7g j z I R G h fun _ _ _ _ v _ _ r q=>q v r)⟩
theorem z8 {op:CmpOp} {o:OP} (j:OpS X E (aS op) o) (z:SimE X E a ma) (I:SimE X E b mb) (hm:bM op b=yl:=by first | exact Qh8 _ | rfl):SimE X E (.Compare a [op] [b] pos) (mOp o ma mb):=
 ⟨fun Γ σ H ρ st Q R G h=>WE.of (Q6c Qam Ja Ja hm) (Q7g j z I R G h fun _ _ _ _ v _ _ r q=>q v r)⟩
def asB (p:PV) (st:Q0):Res Bool:=match p with
 | .bl k=>.ok k st
 | _=>.stuck
def toB (m:ME):Gam->Q0->Res Bool:=fun Γ st=>(m Γ st).bind asB
theorem Qjg {mg:Str->Option aA} {H:Hp} {ρ:Tk} {st:Q0} {p:PV} {v:V} {P:Bool->Q0->Hp->Tk->Prop} (R:Rel H ρ st) (r:Rep H ρ p v) (h:Acc mg E H ρ P (asB p st)):∃ k,v=.bl k/\P k st H ρ:=by
 cases p with
 | bl k=>exact ⟨k,r,h H ρ (Ext.refl _ _) R⟩
 | _=>exact h.elim
theorem J4 {op:CmpOp} {o:OP} (j:OpS X E (aS op) o) (O:SimE X E a ma) (Y:SimE X E b mb) (hm:bM op b=yl:=by first | exact Qh8 _ | rfl):SimT X E (.Compare a [op] [b] pos) (toB (mOp o ma mb)):=
 ⟨fun Γ σ H ρ st Q R G h=>WT.of (Qkn Qam Ja Ja hm) (Q7g j O Y R G h.bind fun _ J _ _ v _ I r q=>by
  obtain ⟨k,e,z⟩:=Qjg I r q;exact ⟨k,e,z⟩)⟩
theorem Zi {e:aH} {m:ME} (h:SimE X E e m) (I:∀ j,isTrue e X.env j=(do let v <- j; standAt e.pos; ar [v] (truthy v)):=by intro _; rfl):SimT X E e (toB m):=
 ⟨fun Γ σ H ρ st Q R G Y=>WT.of (Qqr Ja I) (h.use R G Y.bind fun p J H1 ρ1 v x1 q Z O h1=>by
  obtain ⟨k,e,z⟩:=Qjg q O h1;exact ⟨k,e,z⟩)⟩
def Wd (o o':OP) (ma mb mc:ME):ME:=fun Γ st=>(ma Γ st).bind fun x st1=>(mb Γ st1).bind fun y st2=>(o st2 x y).bind fun k st3=>match k with
 | .bl yo=>(mc Γ st3).bind fun z st4=>o' st4 y z
 | .bl yl=>.ok (.bl yl) st3
 | _=>.stuck
theorem Q5i {op J:CmpOp} {o o':OP} {Γ:Gam} {σ:St} {H:Hp} {ρ:Tk} {st:Q0} {P:PV->Q0->Hp->Tk->Prop} {Q:VK} (ho:OpS X E (aS op) o) (a1:OpS X E (aS J) o') (ha:SimE X E a ma) (hb:SimE X E b mb) (hc:SimE X E c mc) (R:Rel H ρ st) (G:EnvR H ρ Γ σ) (h:Acc X.mg E H ρ P (Wd o o' ma mb mc Γ st))
  (k:∀ p j H1 ρ1 v,Ext H ρ H1 ρ1->Rel H1 ρ1 j->Rep H1 ρ1 p v->P p j H1 ρ1->Q v H1):Qa5 (WO X (aS op)) (WO X (aS J)) (WE X a) (WE X b) (WE X c) σ H Q:=by
 refine ha.use R G h.bind fun p j H1 ρ1 v x1 R1 G1 r1 h1=>?_
 refine hb.use R1 G1 h1.bind fun q a6 H2 a4 u x2 R2 G2 r2 h2=>?_
 refine ho.use R2 (r1.ext x2) r2 h2.bind fun w a7 H3 I z O R3 r3 Z=>?_
 cases w with
 | bl b=>
  refine ⟨b,r3,?_⟩;cases b with
  | true=>
   rw [bS rfl];refine hc.use R3 (G2.ext O) Z.bind fun y a5 H4 a3 yv x4 R4 G4 r4 h4=>?_
   exact a1.use R4 (r2.ext (O.trans x4)) r4 h4 fun w a2 H5 Y z x5 R5 r5 p5=>k w a2 H5 Y z (x1.trans (x2.trans (O.trans (x4.trans x5)))) R5 r5 p5
  | false=>
   rw [bT D3];exact k (.bl yl) _ H3 I _ (x1.trans (x2.trans O)) R3 rfl (Z H3 I (Ext.refl _ _) R3)
 | _=>exact Z.elim
theorem Q1z {op j:CmpOp} {o o':OP} (I:OpS X E (aS op) o) (z:OpS X E (aS j) o') (O:SimE X E a ma) (Y:SimE X E b mb) (J:SimE X E c mc) (hm:lastMarks [op,j] [b,c]=yl:=by with_unfolding_all rfl):SimE X E (.Compare a [op,j] [b,c] pos) (Wd o o' ma mb mc):=
 ⟨fun Γ σ H ρ st Q R G h=>WE.of (Qgr Qam Qam Ja Ja Ja hm) (Q5i I z O Y J R G h fun _ _ _ _ v _ _ r q=>q v r)⟩
theorem Q7s {op j:CmpOp} {o o':OP} (J:OpS X E (aS op) o) (I:OpS X E (aS j) o') (ha:SimE X E a ma) (hb:SimE X E b mb) (O:SimE X E c mc) (hm:lastMarks [op,j] [b,c]=yl:=by with_unfolding_all rfl):SimT X E (.Compare a [op,j] [b,c] pos) (toB (Wd o o' ma mb mc)):=
 ⟨fun Γ σ H ρ st Q R G h=>WT.of (Qg8 Qam Qam Ja Ja Ja hm) (Q5i J I ha hb O R G h.bind fun _ Z _ _ v _ Y r q=>by
  obtain ⟨k,e,z⟩:=Qjg Y r q;exact ⟨k,e,z⟩)⟩
variable {rest:List aH}
def Q00 (ma mb:ME):ME:=fun Γ st=>(ma Γ st).bind fun x st1=>match x with
 | .bl yo=>mb Γ st1
 | .bl yl=>.ok (.bl yl) st1
 | _=>.stuck
def mOr (ma mb:ME):ME:=fun Γ st=>(ma Γ st).bind fun x st1=>match x with
 | .bl yo=>.ok (.bl yo) st1
 | .bl yl=>mb Γ st1
 | _=>.stuck
def Qrv (ma:ME):ME:=fun Γ st=>(ma Γ st).bind fun x st1=>match x with
 | .bl k=>.ok (.bl (!k)) st1
 | _=>.stuck
theorem Uf {op:BoolOp} (j:SimE X E a ma):SimE X E (.BoolOp op [a] pos) ma:=⟨fun Γ σ H ρ st Q R G h=>WE.of (Qr4 Ja) (j.use R G h fun _ _ _ _ v _ _ _ r q=>q v r)⟩
theorem Kc (I:SimE X E a ma) (Y:SimE X E (.BoolOp .And (b :: rest) pos) mb):SimE X E (.BoolOp .And (a :: b :: rest) pos) (Q00 ma mb):=
 ⟨fun Γ σ H ρ st Q R G h=>WE.of (Qr9 Ja Ja) (I.use R G h.bind fun p z H1 ρ1 v x1 j J O h1=>by
  cases p with
  | bl k=>
   refine ⟨k,O,?_⟩;cases k with
   | true=>rw [bS rfl]; exact Y.use j J h1 fun _ _ _ _ v _ _ _ r q=>q v r
   | false=>rw [bT D3]; exact now j h1 rfl
  | _=>exact h1.elim)⟩
theorem Qfw (I:SimE X E a ma) (Y:SimE X E (.BoolOp .Or (b :: rest) pos) mb):SimE X E (.BoolOp .Or (a :: b :: rest) pos) (mOr ma mb):=
 ⟨fun Γ σ H ρ st Q R G h=>WE.of (Que Ja Ja) (I.use R G h.bind fun p z H1 ρ1 v x1 j J O h1=>by
  cases p with
  | bl k=>
   refine ⟨k,O,?_⟩;cases k with
   | true=>rw [bS rfl]; exact now j h1 rfl
   | false=>rw [bT D3]; exact Y.use j J h1 fun _ _ _ _ v _ _ _ r q=>q v r
  | _=>exact h1.elim)⟩
theorem Qqc (z:SimE X E a ma):SimE X E (.UnaryOp .Not a pos) (Qrv ma):=
 ⟨fun Γ σ H ρ st Q R G h=>WE.of (Qr5 Ja) (z.use R G h.bind fun p q H1 ρ1 v x1 j J I h1=>by
  cases p with
  | bl k=>exact ⟨k,I,now j h1 rfl⟩
  | _=>exact h1.elim)⟩
def Qmx (ma:ME):ME:=fun Γ st=>(ma Γ st).bind fun x st1=>match x with
 | .int k=>.ok (.int (-k)) st1
 | _=>.stuck
theorem Qqd (z:SimE X E a ma):SimE X E (.UnaryOp .USub a pos) (Qmx ma):=
 ⟨fun Γ σ H ρ st Q R G h=>WE.of (Qud Qpy Ja) (z.use R G h.bind fun p q H1 ρ1 v x1 j J I h1=>by
  cases p with
  | int k=>exact ⟨k,I,now j h1 rfl⟩
  | _=>exact h1.elim)⟩
abbrev MT:=Gam->Q0->Res Bool
variable {ta tb:MT}
def Q1m (ta tb:MT):MT:=fun Γ st=>(ta Γ st).bind fun k st1=>if k=yo then tb Γ st1 else .ok yl st1
def Xu (ta tb:MT):MT:=fun Γ st=>(ta Γ st).bind fun k st1=>if k=yo then .ok yo st1 else tb Γ st1
def Yt (ta:MT):MT:=fun Γ st=>(ta Γ st).bind fun k st1=>.ok (!k) st1
theorem SimW.t {e:aH} (h:SimW X E e ta):SimT X E e ta:=⟨fun Γ σ H ρ st Q R G q pins s I=>h.run Γ σ H ρ st Q R G q _ pins s I⟩
theorem Qjt (j:SimT X E a ta):SimW X E (.BoolOp .And [a] pos) ta:=⟨fun Γ σ H ρ st Q R G h=>WW.of (Qki Q8e) (j.use R G h fun _ _ _ _ _ _ _ q=>q)⟩
theorem Ub (j:SimT X E a ta):SimW X E (.BoolOp .Or [a] pos) ta:=⟨fun Γ σ H ρ st Q R G h=>WW.of (Qqp Q8e) (j.use R G h fun _ _ _ _ _ _ _ q=>q)⟩
theorem Qq6 (I:SimT X E a ta) (O:SimW X E (.BoolOp .And (b :: rest) pos) tb):SimW X E (.BoolOp .And (a :: b :: rest) pos) (Q1m ta tb):=
 ⟨fun Γ σ H ρ st Q R G h=>WW.of (Qqq Q8e Qu7) (I.use R G h.bind fun k z H1 ρ1 x1 j J h1=>by
  cases k with
  | true=>rw [bS rfl] at h1 ⊢; exact O.use j J h1 fun _ _ _ _ _ _ _ q=>q
  | false=>rw [bT D3] at h1 ⊢; exact h1 H1 ρ1 (Ext.refl _ _) j)⟩
theorem U3 (I:SimT X E a ta) (O:SimW X E (.BoolOp .Or (b :: rest) pos) tb):SimW X E (.BoolOp .Or (a :: b :: rest) pos) (Xu ta tb):=
 ⟨fun Γ σ H ρ st Q R G h=>WW.of (Qu8 Q8e Qu7) (I.use R G h.bind fun k z H1 ρ1 x1 j J h1=>by
  cases k with
  | true=>rw [bS rfl] at h1 ⊢; exact h1 H1 ρ1 (Ext.refl _ _) j
  | false=>rw [bT D3] at h1 ⊢; exact O.use j J h1 fun _ _ _ _ _ _ _ q=>q)⟩
theorem Zs (z:SimT X E a ta):SimT X E (.UnaryOp .Not a pos) (Yt ta):=
 ⟨fun Γ σ H ρ st Q R G h=>WT.of (Qqs Q8e) (z.use R G h.bind fun k q H1 ρ1 x1 j I h1=>h1 H1 ρ1 (Ext.refl _ _) j)⟩
variable {e:aH} {es:List aH} {m:ME} {mr:Gam->Q0->Res (List PV)}
def Q9:Gam->Q0->Res (List PV):=fun _ st=>.ok [] st
def Q3 (m:ME) (mr:Gam->Q0->Res (List PV)):Gam->Q0->Res (List PV):=fun Γ st=>(m Γ st).bind fun p st1=>(mr Γ st1).bind fun ps st2=>.ok (p :: ps) st2
theorem Q6:SimA X E [] Q9:=⟨fun Γ σ H ρ st Q R G h=>WA.of Xg (h H ρ (Ext.refl _ _) R [] rfl)⟩
theorem Q1 (Z:SimE X E e m) (I:SimA X E es mr) (hs:aN (e :: es) X.env=(yl,aO e X.env) :: aN es X.env:=by rfl):SimA X E (e :: es) (Q3 m mr):=
 ⟨fun Γ σ H ρ st Q R G h=>WA.of (Wq Ja Q0s hs) (Z.use R G h.bind fun p J H1 ρ1 v x1 z G1 Y h1=>I.use z G1 h1.bind fun ps q H2 j vs x2 R2 G2 O h2=>
  h2 H2 j (Ext.refl _ _) R2 (v :: vs) ⟨v,vs,rfl,Y.ext x2,O⟩)⟩
def Yx (mr:Gam->Q0->Res (List PV)):ME:=fun Γ st=>(mr Γ st).bind fun ps st1=>if ps.length<=lim then .ok (.tup ps) st1 else .stuck
def yu (mr:Gam->Q0->Res (List PV)):ME:=fun Γ st=>(mr Γ st).bind fun ps st1=>if ps.length<=lim then .ok (.lst ps) st1 else .stuck
theorem Jc {k:Nat} (h:SimA X E es mr):SimE X E (.Tuple es k pos) (Yx mr):=
 ⟨fun Γ σ H ρ st Q R G J=>WE.of (Qr2 Q0s) (h.use R G J.bind fun ps I H1 ρ1 vs x1 z O q h1=>by
  by_cases j:ps.length<=lim
  ·rw [bS j] at h1;exact ⟨by rw [<- q.length]; exact Yv j,yp z h1 q⟩
  ·rw [bT j] at h1; exact h1.elim)⟩
theorem qa (h:SimA X E es mr):SimE X E (.List es pos) (yu mr):=
 ⟨fun Γ σ H ρ st Q R G J=>WE.of (Qgn Q0s) (h.use R G J.bind fun ps I H1 ρ1 vs x1 z O q h1=>by
  by_cases j:ps.length<=lim
  ·rw [bS j] at h1;exact ⟨by rw [<- q.length]; exact Yv j,jc z h1 q⟩
  ·rw [bT j] at h1; exact h1.elim)⟩
end
end Sm
namespace HT
open PySem PySem.Spec PyProof.Rows
section
variable {prog:aK} {w:aJ} {A:aL} {E:aA->aC->Prop} {s:aC}
theorem getItem_tuple_whole {t I:aB} {j:Array aA} {vl vu:aA} {lo hi:Option Int} {Q:aA->aC->Prop} (z:IsTup s.heap t j) (hs:s.heap.IsSliceOf I vl vu .none) (pl:IsPart vl lo) (pu:IsPart vu hi)
  (Z:sIx j.size 0 lo=0/\sIx j.size j.size hi=j.size)
  (h:Q (.ref t) s):aF (aI prog w) A (getItem (.ref t) (.ref I)) Q E s:=by
 obtain ⟨os,Y,O,a1⟩:=id hs;have J:s.TypeIs (.ref I) "slice" := ⟨os,Y,O⟩;unfold getItem
 try with_reducible refine ae ?_
 first | refine aD (wpAny_pure ?_) | skip
 refine aD (wpAny_sequenceKey z.typeIs (by decide) ?_);refine aD (wpAny_callSpecial?_slot (name:=cP "__getitem__") z.typeIs dy
  (af dy z.typeIs entry_tuple_getitem ?_ (args_tuple_getitem _ _)))
 show aF _ _ (Builtin.Tuple.tupleItemsOf (.ref t) >>= _) _ _ s;refine aD (tupleItemsOf_ z ?_);refine aD (bC J ?_);rw [bS (by decide)];refine aD (Xw hs pl pu ?_);have q:(((sIx j.size 0 lo:Nat):Int) == 0 && (1:Int) == 1 && (sIx j.size j.size hi - sIx j.size 0 lo) == j.size)=yo:=by
  rw [Z.1,Z.2]; simp
 show aF _ _ (if (((sIx j.size 0 lo:Nat):Int) == 0 && (1:Int) == 1 && (sIx j.size j.size hi - sIx j.size 0 lo) == j.size)=yo then _ else _) _ _ s;rw [bS q];refine aD (aD (bC z.typeIs (wpAny_pure ?_)));rw [bS (by rfl)];exact aD (bP (wpAny_pure ⟨_,rfl,wpAny_pure h⟩))
end
end HT
namespace L2
open PySem PySem.Spec PyProof.Rows
def Qxn (K:bW):V->Option Int->Option Int->Hp->VK->Prop:=fun x lo hi H Q=>∃ a xs,x=.ref a/\SqT K H a xs /\
 (HT.sIx xs.length 0 lo=0/\HT.sIx xs.length xs.length hi=xs.length)/\Q (.ref a) H
theorem sl_whole {X:Cx}:SlR X (Qxn X.K):=by
 intro pins s σ H x v vl vu lo hi sl Q I Y hs pl Z h;obtain ⟨a,xs,rfl,J,O,q⟩:=h;cases Y;obtain ⟨its,r,z,hz⟩:=I.tuple J;have j:its.toArray.size=xs.length:=by rw [O8]; exact r.length.symm
 refine ⟨"tuple",_,PyProof.Rows.slot_tuple_getitem.lookup,z.typeIs,?_⟩;exact HT.getItem_tuple_whole z hs pl Z (by rw [j]; exact O) ⟨.ref a,H,I,rfl,q⟩
end L2
namespace Sm
open PySem PySem.Spec L2
section
variable {X:Cx} {E:XK} {pos:Pos}
def oI (g:Int->Int->PV):OP:=fun st p q=>match p,q with
 | .int a,.int b=>.ok (g a b) st
 | _,_=>.stuck
def Zt:OP:=fun st p q=>match p,q with
 | .int a,.int b=>.ok (.int (a + b)) st
 | .str a,.str b=>if a.length + b.length<=lim then .ok (.str (a ++ b)) st else .stuck
 | .tup xs,.tup ys=>if xs.length + ys.length<=lim then .ok (.tup (xs ++ ys)) st else .stuck
 | p,q=>match U4 st p,U4 st q with
  | some xs,zo ys=>if xs.length + ys.length<=lim then .ok (.lst (xs ++ ys)) st else .stuck
  | _,_=>.stuck
theorem Zd:OpS X E (aZ .Add) Zt:=⟨fun H ρ st p q x y Q R rp rq h=>by
 unfold Zt at h
 split at h
 ·cases rp; cases rq;exact WO.of Qrj ⟨_,_,rfl,rfl,now R h rfl⟩
 ·cases rp; cases rq
  split at h
  ·rename_i J;exact WO.of Qan ⟨_,_,rfl,rfl,Yv J,now R h rfl⟩
  ·exact h.elim
 ·split at h
  ·rename_i xs ys J;obtain ⟨a,vs,rfl,Y,na,j⟩:=rp;obtain ⟨b,O,rfl,Z,nb,I⟩:=rq;refine WO.of Qmg ?_
   by_cases e:xs=[]
   ·subst e;cases j;exact .inr ⟨a,b,O,rfl,rfl,SqT.of Y,SqT.of Z,now R h ⟨b,O,rfl,Z,nb,I⟩⟩
   ·refine .inl ⟨a,b,vs,O,rfl,rfl,SqT.of Y,SqT.of Z,fun z=>e ?_,by rw [<- j.length,<- I.length]; exact Yv J,fun z=>?_,fun z=>yp R h (j.append I)⟩
    ·subst z;cases xs with
     | nil=>rfl
     | cons _ _=>have:=j.length; simp at this
    ·subst z;have:ys=[]:=by
      cases ys with
      | nil=>rfl
      | cons _ _=>have:=I.length; simp at this
     subst this;rw [cC] at h;exact now R h ⟨a,vs,rfl,Y,na,j⟩
  ·exact h.elim
 ·split at h
  ·rename_i xs ys e1 e2
   split at h
   ·rename_i J;obtain ⟨a,vs,rfl,Y,j⟩:=zj R rp e1;obtain ⟨b,O,rfl,Z,I⟩:=zj R rq e2;exact WO.of Qh3 ⟨a,b,vs,O,rfl,rfl,Y,Z,by rw [<- j.length,<- I.length]; exact Yv J,jc R h (j.append I)⟩
   ·exact h.elim
  ·exact h.elim⟩
theorem Qgw:OpS X E (aZ .Sub) (oI fun a b=>.int (a - b)):=⟨fun H ρ st p q x y Q R j z h=>by
 unfold oI at h
 split at h
 ·cases j; cases z;exact WO.of Qrc ⟨_,_,rfl,rfl,now R h rfl⟩
 ·exact h.elim⟩
def qj:OP:=fun st p q=>match p,q with
 | .int a,.int b=>if (-(2 ^ 64) < a/\a < 2 ^ 64)\/(-(2 ^ 64) < b/\b < 2 ^ 64) then .ok (.int (a * b)) st else .stuck
 | .tup xs,.int b=>if xs≠[]/\1<=b/\xs.length * b.toNat<=4096 then .ok (.tup (ba b.toNat xs).flatten) st else .stuck
 | p,.int b=>match U4 st p with
  | some xs=>if -(2 ^ 63)<=b/\b < 2 ^ 63/\xs.length * b.toNat<=lim then .ok (.lst (ba b.toNat xs).flatten) st else .stuck
  | none=>.stuck
 | _,_=>.stuck
theorem Kj:OpS X E (aZ .Mult) qj:=⟨fun H ρ st p q x y Q R O Y h=>by
 unfold qj at h
 split at h
 ·cases O; cases Y
  split at h
  ·rename_i j;exact WO.of Qrf ⟨_,_,rfl,rfl,j,now R h rfl⟩
  ·exact h.elim
 ·cases Y
  split at h
  ·rename_i xs b j;obtain ⟨a,vs,rfl,J,Z,I⟩:=O;refine WO.of Qme ⟨a,b,vs,rfl,rfl,SqT.of J,fun z=>j.1 ?_,j.2.1,by rw [<- I.length]; exact j.2.2,fun z=>?_,fun z=>yp R h (I.rep _)⟩
   ·subst z;cases xs with
    | nil=>rfl
    | cons _ _=>have:=I.length; simp at this
   ·subst z;have e1:(ba (Int.toNat 1) xs).flatten=xs:=by simp
    rw [e1] at h;exact now R h ⟨a,vs,rfl,J,Z,I⟩
  ·exact h.elim
 ·cases Y
  split at h
  ·rename_i xs e1
   split at h
   ·rename_i j;obtain ⟨a,vs,rfl,J,I⟩:=zj R O e1;exact WO.of Qrd ⟨a,_,vs,rfl,rfl,J,j.1,j.2.1,by rw [<- I.length]; exact Yv j.2.2,jc R h (I.rep _)⟩
   ·exact h.elim
  ·exact h.elim
 ·exact h.elim⟩
def yk:OP:=fun st p q=>match p,q with
 | .int a,.int b=>if 0 < b then .ok (.int (a % b)) st else .stuck
 | _,_=>.stuck
theorem ze:OpS X E (aZ .Mod) yk:=⟨fun H ρ st p q x y Q R j I h=>by
 unfold yk at h
 split at h
 ·cases j; cases I
  split at h
  ·rename_i z;exact WO.of Qrg ⟨_,_,rfl,rfl,z,now R h rfl⟩
  ·exact h.elim
 ·exact h.elim⟩
def Qar:OP:=fun st p q=>match p,q with
 | .int a,.int b=>if 0<=b/\b<=1000000/\a.natAbs < 2 ^ 64 then .ok (.int (a ^ b.toNat)) st else .stuck
 | _,_=>.stuck
theorem Qgx:OpS X E (aZ .Pow) Qar:=⟨fun H ρ st p q x y Q R j I h=>by
 unfold Qar at h
 split at h
 ·cases j; cases I
  split at h
  ·rename_i z;exact WO.of Qre ⟨_,_,rfl,rfl,z,now R h rfl⟩
  ·exact h.elim
 ·exact h.elim⟩
theorem Qas {op:CmpOp} {g:Int->Int->Bool} (z:OpR X (aS op) (rI0 fun i j=>.bl (g i j))):OpS X E (aS op) (oI fun a b=>.bl (g a b)):=⟨fun H ρ st p q x y Q R I J h=>by
 unfold oI at h
 split at h
 ·cases I; cases J;exact WO.of z ⟨_,_,rfl,rfl,now R h rfl⟩
 ·exact h.elim⟩
theorem Q0f:OpS X E (aS .LtE) (oI fun a b=>.bl (decide (a<=b))):=Qas Qpg
theorem Q2k:OpS X E (aS .Gt) (oI fun a b=>.bl (decide (b < a))):=Qas Quk
theorem Qgz:OpS X E (aS .GtE) (oI fun a b=>.bl (decide (b<=a))):=Qas Qum
def Q05:List PV->Option (List Int)
 | []=>zo []
 | .int i :: ps=>(Q05 ps).map (i :: ·)
 | _ :: _=>zb
def Q0p:List PV->Option (List Bool)
 | []=>zo []
 | .bl i :: ps=>(Q0p ps).map (i :: ·)
 | _ :: _=>zb
theorem Qnt (ns:List Bool):Q0p (ns.map .bl)=zo ns:=by
 induction ns with
 | nil=>rfl
 | cons n ns j=>rw [D2,Q0p,j]; rfl
theorem Q73:∀ {ps:List PV} {ns:List Int},Q05 ps=zo ns->ps=ns.map .int
 | [],ns,h=>by cases h; rfl
 | .int i :: ps,ns,h=>by
  rw [Q05] at h;cases e:Q05 ps with
  | none=>rw [e] at h; cases h
  | some ms=>rw [e] at h; cases h; rw [Q73 e]; rfl
 | .non :: _,_,h | .bl _ :: _,_,h | .str _ :: _,_,h | .tup _ :: _,_,h | .lst _ :: _,_,h | .fro _ :: _,_,h | .ref _ :: _,_,h | .dic :: _,_,h=>by cases h
theorem Qj9:∀ {ps:List PV} {ns:List Bool},Q0p ps=zo ns->ps=ns.map .bl
 | [],ns,h=>by cases h; rfl
 | .bl i :: ps,ns,h=>by
  rw [Q0p] at h;cases e:Q0p ps with
  | none=>rw [e] at h; cases h
  | some ms=>rw [e] at h; cases h; rw [Qj9 e]; rfl
 | .non :: _,_,h | .int _ :: _,_,h | .str _ :: _,_,h | .tup _ :: _,_,h | .lst _ :: _,_,h | .fro _ :: _,_,h | .ref _ :: _,_,h | .dic :: _,_,h=>by cases h
def oLt:OP:=fun st p q=>match p,q with
 | .int a,.int b=>.ok (.bl (decide (a < b))) st
 | .tup xs,.tup ys=>match Q05 xs,Q05 ys with
  | some ns,zo ms=>.ok (.bl (HT.lexLt ns ms)) st
  | _,_=>.stuck
 | _,_=>.stuck
theorem Qcc (Z:X.A.units + 64 < aQ):OpS X E (aS .Lt) oLt:=⟨fun H ρ st p q x y Q R z J h=>by
 unfold oLt at h
 split at h
 ·cases z; cases J;exact WO.of Quj ⟨_,_,rfl,rfl,now R h rfl⟩
 ·split at h
  ·rename_i ns ms e1 e2;obtain ⟨a,vs,rfl,O,na,j⟩:=z;obtain ⟨b,us,rfl,Y,nb,I⟩:=J;rw [Q73 e1] at j;rw [Q73 e2] at I;rw [j.toInts] at O;rw [I.toInts] at Y;exact WO.of (Qrh (by omega)) ⟨a,b,ns,ms,rfl,rfl,SqT.of O,SqT.of Y,now R h rfl⟩
  ·exact h.elim
 ·exact h.elim⟩
def dep:Nat:=12
def oEq:OP:=fun st p q=>if good dep (der st p)=yo/\good dep (der st q)=yo then .ok (.bl (peq (der st p) (der st q))) st else .stuck
def oNe:OP:=fun st p q=>if good dep (der st p)=yo/\good dep (der st q)=yo then .ok (.bl (!peq (der st p) (der st q))) st else .stuck
theorem Q2m (O:X.A.units + 64 < aQ):OpS X E (aS .Eq) oEq:=⟨fun H ρ st p q x y Q R j J h=>by
 unfold oEq at h
 split at h
 ·rename_i g;intro pins s σ v u I z ru;exact (Qd1 dep I g.1 g.2 (by unfold dep; omega) (jj R g.1 j) z (jj R g.2 J) ru).2.1 _ _ _ _ ⟨.bl _,H,I,rfl,now R h rfl⟩
 ·exact h.elim⟩
theorem Q2j (O:X.A.units + 64 < aQ):OpS X E (aS .NotEq) oNe:=⟨fun H ρ st p q x y Q R j J h=>by
 unfold oNe at h
 split at h
 ·rename_i g;intro pins s σ v u I z ru;exact (Qd1 dep I g.1 g.2 (by unfold dep; omega) (jj R g.1 j) z (jj R g.2 J) ru).2.2 _ _ _ _ ⟨.bl _,H,I,rfl,now R h rfl⟩
 ·exact h.elim⟩
def Q98:PV->Bool
 | .non=>yo
 | _=>yl
theorem Q56 {H:Hp} {ρ:Tk} {p:PV} {x:V} (r:Rep H ρ p x):decide (x=.non)=Q98 p:=by
 cases p with
 | non=>cases r; rfl
 | bl _=>cases r; rfl
 | int _=>cases r; rfl
 | str _=>cases r; rfl
 | tup _=>obtain ⟨_,_,rfl,_⟩:=r; rfl
 | lst _=>obtain ⟨_,_,rfl,_⟩:=r; rfl
 | fro _=>obtain ⟨_,_,rfl,_⟩:=r; rfl
 | ref _=>obtain ⟨_,_,rfl⟩:=r; rfl
 | dic=>obtain ⟨_,rfl,_⟩:=r; rfl
def oIs:OP:=fun st p q=>match q with
 | .non=>.ok (.bl (Q98 p)) st
 | .bl c=>match p with
  | .bl b=>.ok (.bl (b == c)) st
  | _=>.stuck
 | _=>.stuck
def Xh:OP:=fun st p q=>match q with
 | .non=>.ok (.bl (!Q98 p)) st
 | .bl c=>match p with
  | .bl b=>.ok (.bl (b != c)) st
  | _=>.stuck
 | _=>.stuck
theorem Quh:OpS X E (aS .Is) oIs:=⟨fun H ρ st p q x y Q R j z h=>by
 unfold oIs at h
 split at h
 ·cases z;refine WO.of Qri ⟨rfl,?_⟩;rw [Q56 j];exact now R h rfl
 ·split at h
  ·cases j; cases z;exact WO.of Qh0 ⟨_,_,rfl,rfl,now R h rfl⟩
  ·exact h.elim
 ·exact h.elim⟩
theorem Xz:OpS X E (aS .IsNot) Xh:=⟨fun H ρ st p q x y Q R j z h=>by
 unfold Xh at h
 split at h
 ·cases z;refine WO.of Qmf ⟨rfl,?_⟩;rw [Q56 j];exact now R h rfl
 ·split at h
  ·cases j; cases z;exact WO.of Q8j ⟨_,_,rfl,rfl,now R h rfl⟩
  ·exact h.elim
 ·exact h.elim⟩
def oIn (neg:Bool):OP:=fun st p q=>match Ud st q with
 | some xs=>if good dep (der st p)=yo/\xs.all (good dep)=yo then .ok (.bl ((xs.any fun y=>peq y (der st p)) != neg)) st else .stuck
 | none=>.stuck
open Classical in
theorem Q99 {pins:List (aB × Obj)} {σ:St} {H:Hp} {ρ:Tk} {s:aC} {A:aL} {st:Q0} {p:PV} {xs:List PV} {x:V} {v:aA} {vs:List V} {its:List aA} (I:Inv X pins σ H s) (hu:A.units + dep < aQ) (R:Rel H ρ st)
  (gp:good dep (der st p)=yo) (gx:xs.all (good dep)=yo) (rp:Rep H ρ p x) (rv:RelV x v) (ra:RepL H ρ xs vs) (vi:Vals vs its):∃ e:aA->Bool,(∀ u,u∈its.toArray->SeqAt.EqAt A s u v (e u))/\its.toArray.any e=xs.any fun y=>peq y (der st p):=by
 have a2:∀ u∈its,∃ q∈xs,∃ y,Rep H Tk.nil q y/\RelV y u:=fun u hu=>by
  obtain ⟨j,hj,rfl⟩:=F8 hu;have l1:=vi.length;have l2:=ra.length;obtain ⟨y,e1,e2⟩:=(repL_nil gx ra).get (O2 (show j < xs.length by omega));obtain ⟨w,e3,e4⟩:=vi.get e1;rw [O2 hj] at e3; cases e3;exact ⟨_,G9 _,y,e2,e4⟩
 refine ⟨fun u=>decide (∃ q∈xs,∃ y,Rep H Tk.nil q y/\RelV y u/\peq q (der st p)=yo),fun u hm=>?_,?_⟩
 ·have a1:u∈its:=by simpa using hm
  by_cases z:∃ q∈xs,∃ y,Rep H Tk.nil q y/\RelV y u/\peq q (der st p)=yo
  ·show SeqAt.EqAt A s u v (decide _);rw [bV z];obtain ⟨q,J,y,O,Y,e⟩:=z;have:=(Qd1 dep I ((F4.mp gx) q J) gp hu O Y (jj R gp rp) rv).1;rw [e] at this;exact this
  ·show SeqAt.EqAt A s u v (decide _);rw [bU z];obtain ⟨q,J,y,O,Y⟩:=a2 u a1;have:=(Qd1 dep I ((F4.mp gx) q J) gp hu O Y (jj R gp rp) rv).1;cases e:peq q (der st p) with
   | true=>exact absurd ⟨q,J,y,O,Y,e⟩ z
   | false=>rw [e] at this; exact this
 ·rw [fi,Array.any_eq_true,dA];constructor
  ·rintro ⟨j,hj,e⟩;obtain ⟨q,J,y,O,Y,e⟩:=of_decide_eq_true e;exact ⟨q,J,e⟩
  ·rintro ⟨q,J,e⟩;obtain ⟨j,hj,rfl⟩:=F8 J;have l1:=vi.length;have l2:=ra.length;have Z:j < its.length:=by omega
   obtain ⟨y,e1,e2⟩:=(repL_nil gx ra).get (O2 hj);obtain ⟨w,e3,e4⟩:=vi.get e1;refine ⟨j,by simpa using Z,bV ⟨_,J,y,e2,?_,e⟩⟩;rw [O2 Z] at e3; cases e3;simpa using e4
theorem Qpf (hu:X.A.units + 64 < aQ):OpS X E (aS .In) (oIn yl):=⟨fun H ρ st p q x y Q R O rq h=>by
 unfold oIn at h
 split at h
 ·rename_i xs es
  split at h
  ·rename_i g;obtain ⟨t,a,vs,rfl,Z,J⟩:=Q1x (K:=X.K) R rq es;intro pins s σ v u I Y ru;cases ru;rw [dB] at h;cases t with
   | true=>
    obtain ⟨its,r,pl,hz⟩:=I.tuple Z;obtain ⟨e,j,z⟩:=Q99 (A:=X.A.in1) I (by show X.A.units + 1 + dep < aQ; unfold dep; omega) R g.1 g.2 O Y J r;refine SeqAt.in_tupleAt e pl j ⟨.bl _,H,I,rfl,?_⟩;rw [z];exact now R h rfl
   | false=>
    obtain ⟨its,r,pl,hz⟩:=I.list Z;obtain ⟨e,j,z⟩:=Q99 (A:=X.A.in1) I (by show X.A.units + 1 + dep < aQ; unfold dep; omega) R g.1 g.2 O Y J r;refine SeqAt.in_listAt e pl.isList j ⟨.bl _,H,I,rfl,?_⟩;rw [z];exact now R h rfl
  ·exact h.elim
 ·exact h.elim⟩
end
section
variable {H:Hp} {ρ:Tk}
theorem RepL.atI {ps:List PV} {vs:List V} {i:Int} {p:PV} (r:RepL H ρ ps vs) (e:atI ps i=zo p):∃ v,L2.atI vs i=zo v/\Rep H ρ p v:=by
 unfold L2.atI at e ⊢;rw [<- r.length];cases q:ixN ps.length i with
 | none=>rw [q] at e; cases e
 | some j=>
  rw [q] at e;exact r.get e
def cut {α:Type} (xs:List α) (lo hi:Option Int):List α:=(xs.drop (HT.sIx xs.length 0 lo)).take (HT.sIx xs.length xs.length hi - HT.sIx xs.length 0 lo)
theorem RepL.cut {ps:List PV} {vs:List V} (r:RepL H ρ ps vs) (lo hi:Option Int):RepL H ρ (Sm.cut ps lo hi) (Q9i vs lo hi):=by
 unfold Sm.cut Q9i;rw [<- r.length];exact (r.drop _).take _
end
section
variable {X:Cx} {E:XK} {pos:Pos} {a b:aH} {ma mb:ME}
def oIx:OP:=fun st p q=>match Ud st p,q with
 | some xs,.int i=>okO st (atI xs i)
 | _,_=>.stuck
theorem Qd (ha:SimE X E a ma) (Z:SimE X E b mb) (hs:Q7j b:=by exact fun _ _=>rfl):SimE X E (.Subscript a b pos) (mOp oIx ma mb):=
 ⟨fun Γ σ H ρ st Q R G h=>WE.of (Qpe Qhz Ja Ja hs) (ha.use R G h.bind fun p a2 H1 ρ1 v x1 R1 G1 Y h1=>Z.use R1 G1 h1.bind fun q a3 H2 a1 u x2 R2 G2 r2 h2=>by
  unfold oIx at h2
  split at h2
  ·rename_i xs i e;cases r2;cases j:atI xs i with
   | none=>rw [j] at h2; exact h2.elim
   | some w=>
    rw [j] at h2;obtain ⟨t,b,vs,rfl,O,ra⟩:=Q1x (K:=X.K) R2 (Y.ext x2) e;obtain ⟨z,J,I⟩:=ra.atI j;cases t with
    | true=>exact .inr (.inl ⟨b,vs,i,z,rfl,rfl,O,J,now R2 h2 I⟩)
    | false=>exact .inl ⟨b,vs,i,z,rfl,rfl,O,J,now R2 h2 I⟩
  ·exact h2.elim)⟩
structure SimO (X:Cx) (E:XK) (o:Option aH) (m:Gam->Q0->Res (Option Int)):Prop where
 run:∀ (Γ:Gam) (σ:St) (H:Hp) (ρ:Tk) (st:Q0) (P:Option Int->Q0->Hp->Tk->Prop) (Q:Option Int->Hp->Prop),Rel H ρ st->EnvR H ρ Γ σ->Acc X.mg E H ρ P (m Γ st) ->
  (∀ i st1 H1 ρ1,Ext H ρ H1 ρ1->Rel H1 ρ1 st1->EnvR H1 ρ1 Γ σ->P i st1 H1 ρ1->Q i H1)->∃ t,PO X o t/\t σ H Q
def X4:Gam->Q0->Res (Option Int):=fun _ st=>.ok zb st
def jw (m:ME):Gam->Q0->Res (Option Int):=fun Γ st=>(m Γ st).bind fun p st1=>match p with
 | .int i=>.ok (zo i) st1
 | _=>.stuck
theorem Q5y:SimO X E zb X4:=⟨fun Γ σ H ρ st P Q R G h k=>⟨_,Qkx,k zb st H ρ (Ext.refl _ _) R G (h H ρ (Ext.refl _ _) R)⟩⟩
theorem zx (z:SimE X E a ma):SimO X E (zo a) (jw ma):=⟨fun Γ σ H ρ st P Q R G h k=>⟨_,Qkw Ja,z.use R G h.bind fun p j H1 ρ1 v x1 q I J h1=>by
 cases p with
 | int i=>exact ⟨i,J,k (zo i) j H1 ρ1 x1 q I (h1 H1 ρ1 (Ext.refl _ _) q)⟩
 | _=>exact h1.elim⟩⟩
def oSl (st:Q0) (p:PV) (lo hi:Option Int):Res PV:=match p with
 | .tup xs=>.ok (.tup (cut xs lo hi)) st
 | p=>match Wu st p with
  | some xs=>.ok (.lst (cut xs lo hi)) st
  | none=>.stuck
def mSl (ma:ME) (ml mh:Gam->Q0->Res (Option Int)):ME:=fun Γ st=>(ma Γ st).bind fun p st1=>(ml Γ st1).bind fun lo st2=>(mh Γ st2).bind fun hi st3=>oSl st3 p lo hi
def TO.w (X:Cx) (o:Option aH):TO:=fun σ H Q=>∃ t,PO X o t/\t σ H Q
theorem Qub {o:Option aH}:PO X o (TO.w X o):=fun pins s σ H Q I ⟨t,h,q⟩=>h pins s σ H Q I q
theorem y0 {lo hi:Option aH} {ml mh:Gam->Q0->Res (Option Int)} {p2:Pos} (q:SimE X E a ma) (hl:SimO X E lo ml) (hh:SimO X E hi mh):SimE X E (.Subscript a (.Slice lo hi zb p2) pos) (mSl ma ml mh):=
 ⟨fun Γ σ H ρ st Q R G h=>WE.of (Qgm (sl_tup.or (sl_whole.or Qk2)) Ja Qub Qub) (q.use R G h.bind fun p Y H1 ρ1 v x1 R1 G1 r1 h1=>by
  refine hl.run Γ σ H1 ρ1 Y _ _ R1 G1 h1.bind fun l Z H2 O x2 R2 G2 h2=>?_
  refine hh.run Γ σ H2 O Z _ _ R2 G2 h2.bind fun u a2 H3 a1 x3 J G3 j=>?_
  have r3:=r1.ext (x2.trans x3);unfold oSl at j
  split at j
  ·rename_i xs;obtain ⟨a,vs,rfl,q,na,z⟩:=r3
   by_cases I:HT.sIx vs.length 0 l=0/\HT.sIx vs.length vs.length u=vs.length
   ·refine .inr (.inl ⟨a,vs,rfl,SqT.of q,I,?_⟩);have e:cut xs l u=xs:=by
     unfold cut;rw [z.length,I.1,I.2,eQ,iQ,<- z.length,eN]
    rw [e] at j;exact now J j ⟨a,vs,rfl,q,na,z⟩
   ·exact .inl ⟨a,vs,rfl,SqT.of q,I,yp J j (z.cut l u)⟩
  ·split at j
   ·rename_i xs e;obtain ⟨a,vs,rfl,q,z⟩:=Yp J r3 e;exact .inr (.inr ⟨a,vs,rfl,.inl q,jc J j (z.cut l u)⟩)
   ·exact j.elim)⟩
variable {es:List aH} {e:aH} {mr:Gam->Q0->Res (List PV)}
def J1 (o:CF) (mr:Gam->Q0->Res (List PV)):ME:=fun Γ st=>(mr Γ st).bind fun ps st1=>o st1 ps
theorem CallS.use {f:aA} {o:CF} (s:CallS X E f o) {P:PV->Q0->Hp->Tk->Prop} {Q:VK} {H:Hp} {ρ:Tk} {st:Q0} {ps:List PV} {xs:List V} (R:Rel H ρ st) (I:RepL H ρ ps xs) (h:Acc X.mg E H ρ P (o st ps))
  (k:∀ p j H1 ρ1 v,Ext H ρ H1 ρ1->Rel H1 ρ1 j->Rep H1 ρ1 p v->P p j H1 ρ1->Q v H1):WC X f xs H Q:=by
 refine s.run H ρ st ps xs Q R I ?_;cases r:o st ps with
 | ok p j=>rw [r] at h; exact fun H' ρ' q z v J=>k p j H' ρ' v q z J (h H' ρ' q z)
 | exc e st=>rw [r] at h; exact h
 | stuck=>rw [r] at h; exact h
theorem J0 {id:String} {x:Str} {p:Pos} {o:CF} (I:CallS X E (.builtin id) o) (Y:Gl X x) (hm:X.mg x=zb) (hv:aX x=zo (.builtin id)) (ha:SimA X E (e :: es) mr) (O:x≠"__name__" := by decide) (j:(x == ("__debug__" : Str))=yl:=by decide)
  (Z:aN (e :: es) X.env=(yl,aO e X.env) :: aN es X.env:=by rfl) (z:(aY pos (aN es X.env)).any (·.1)=yl:=by rfl):SimE X E (.Call (.Name x p) (e :: es) [] pos) (J1 o mr):=
 ⟨fun Γ σ H ρ st Q R G h=>WE.of (yg Qj3 Y hm hv Q0s O j Z z) (ha.use R G h.bind fun ps a1 H1 ρ1 vs x1 J G1 r1 h1=>I.use J r1 h1 fun _ _ _ _ v _ _ r q=>q v r)⟩
theorem Vm {T:String} {x:Str} {p:Pos} {o:CF} (I:CallS X E (.type T) o) (Y:Gl X x) (hm:X.mg x=zb) (hv:aX x=zo (.type T)) (ha:SimA X E (e :: es) mr) (O:x≠"__name__" := by decide) (j:(x == ("__debug__" : Str))=yl:=by decide)
  (Z:aN (e :: es) X.env=(yl,aO e X.env) :: aN es X.env:=by rfl) (z:(aY pos (aN es X.env)).any (·.1)=yl:=by rfl):SimE X E (.Call (.Name x p) (e :: es) [] pos) (J1 o mr):=
 ⟨fun Γ σ H ρ st Q R G h=>WE.of (Xy Qj3 Y hm hv Q0s O j Z z) (ha.use R G h.bind fun ps a1 H1 ρ1 vs x1 J G1 r1 h1=>I.use J r1 h1 fun _ _ _ _ v _ _ r q=>q v r)⟩
theorem Yd {H:Hp} {ρ:Tk} {p:PV} {xs:List V} (r:RepL H ρ [p] xs):∃ v,xs=[v]/\Rep H ρ p v:=by
 obtain ⟨v,t,rfl,h1,h2⟩:=r;cases h2;exact ⟨v,rfl,h1⟩
def Zv:CF:=fun st ps=>match ps with
 | [p]=>match Ud st p with
  | some xs=>.ok (.int xs.length) st
  | none=>match p with
   | .str x=>if x.length<=lim then .ok (.int x.length) st else .stuck
   | _=>.stuck
 | _=>.stuck
theorem Yj:CallS X E (.builtin "len") Zv:=⟨fun H ρ st ps xs Q R q h=>by
 unfold Zv at h
 split at h
 ·rename_i p;obtain ⟨v,rfl,r⟩:=Yd q
  split at h
  ·rename_i ys e;obtain ⟨t,a,vs,rfl,I,j⟩:=Q1x (K:=X.K) R r e;rw [j.length] at h;exact WC.of Q7e ⟨a,vs,rfl,Qfm I,now R h rfl⟩
  ·split at h
   ·cases r
    split at h
    ·rename_i z;exact WC.of Q7d ⟨_,rfl,Yv z,now R h rfl⟩
    ·exact h.elim
   ·exact h.elim
 ·exact h.elim⟩
def Q4i (g:List Bool->PV):CF:=fun st ps=>match ps with
 | [p]=>match (Ud st p).bind Q0p with
  | some ns=>.ok (g ns) st
  | none=>.stuck
 | _=>.stuck
theorem Qnu {K:bW} {H:Hp} {ρ:Tk} {st:Q0} {p:PV} {v:V} {ns:List Bool} (R:Rel H ρ st) (r:Rep H ρ p v) (e:(Ud st p).bind Q0p=zo ns):∃ (t:Bool) (a:aB),v=.ref a/\SqK K t H a (ns.map V.bl):=by
 cases q:Ud st p with
 | none=>rw [q] at e; cases e
 | some xs=>
  rw [q] at e;obtain ⟨t,a,vs,rfl,z,j⟩:=Q1x (K:=K) R r q;rw [Qj9 e] at j;rw [j.toBls] at z;exact ⟨t,a,rfl,z⟩
theorem Q3n (q:X.calm=yo):CallS X E (.builtin "all") (Q4i fun ns=>.bl (ns.all id)):=⟨fun H ρ st ps xs Q R j h=>by
 unfold Q4i at h
 split at h
 ·obtain ⟨v,rfl,r⟩:=Yd j
  split at h
  ·rename_i ns e;obtain ⟨t,a,rfl,z⟩:=Qnu (K:=X.K) R r e;exact WC.of (Qj4 t q) ⟨a,ns,rfl,z,now R h rfl⟩
  ·exact h.elim
 ·exact h.elim⟩
def Ww:CF:=fun st ps=>match ps with
 | [p]=>match Ud st p with
  | some xs=>.ok (.tup xs) st
  | none=>.stuck
 | _=>.stuck
theorem K5:CallS X E (.type "tuple") Ww:=⟨fun H ρ st ps xs Q R z h=>by
 unfold Ww at h
 split at h
 ·rename_i p;obtain ⟨v,rfl,r⟩:=Yd z
  split at h
  ·rename_i ys e;cases p with
   | tup zs=>
    cases e;obtain ⟨a,vs,rfl,j,I,q⟩:=r;exact WC.of jz ⟨a,vs,rfl,.inr ⟨SqT.of j,now R h ⟨a,vs,rfl,j,I,q⟩⟩⟩
   | _=>
    obtain ⟨a,vs,rfl,j,q⟩:=Yp R r e;exact WC.of jz ⟨a,vs,rfl,.inl ⟨.inl j,yp R h q⟩⟩
  ·exact h.elim
 ·exact h.elim⟩
def tyN:PV->String
 | .non => "NoneType"
 | .bl _ => "bool"
 | .int _ => "int"
 | .str _ => "str"
 | .tup _ => "tuple"
 | .lst _ => "list"
 | .fro _ => "list"
 | .ref _ => "list"
 | .dic => "dict"
def dpv (st:Q0):PV->PV
 | .ref i=>match st[i]? with
  | some (.dic _)=>.dic
  | some (.dtp _)=>.dic
  | _=>.ref i
 | p=>p
def isI (T:String) (p:PV):Bool:=tyN p == T || (T == "int" && tyN p == "bool")
def K1 (st:Q0):PV->Bool
 | .ref i=>match st[i]? with
  | some (.frd _)=>yo
  | some (.obj _ _)=>yo
  | _=>yl
 | _=>yl
theorem Qtk {K:bW} {H:Hp} {ρ:Tk} {st:Q0} {p:PV} {v:V} (z:K1 st p=yl) (R:Rel H ρ st) (r:Rep H ρ p v):TyOf K H v (.type (tyN (dpv st p))):=by
 cases p with
 | non=>cases r; exact .non
 | bl b=>cases r; exact .bl b
 | int i=>cases r; exact .int i
 | str x=>cases r; exact .str x
 | tup ps=>obtain ⟨a,vs,rfl,h,_⟩:=r; exact .tup h
 | lst ps=>obtain ⟨a,vs,rfl,h,_⟩:=r; exact .lst h
 | fro ps=>
  obtain ⟨a,vs,rfl,h,_⟩:=r;rcases h with h | ⟨o,h⟩
  ·exact .lst h
  ·exact .frz h
 | ref i=>
  obtain ⟨a,e,rfl⟩:=r;have I:i < st.length:=by rw [<- R.len]; exact (O0.mp e).1
  have hs:=O2 I;have q:=R.cell i a st[i] e hs;cases j:st[i] with
  | lst xs=>rw [j] at q hs; simp only [dpv,hs]; obtain ⟨vs,h,_⟩:=q; exact .lst h
  | dic xs=>rw [j] at q hs; simp only [dpv,hs]; obtain ⟨vs,h,_⟩:=q; exact .dK h
  | dtp xs=>rw [j] at q hs; simp only [dpv,hs]; obtain ⟨vs,h,_⟩:=q; exact .dT h
  | frd xs=>rw [j] at hs; simp only [K1,hs] at z; cases z
  | obj C xs=>rw [j] at hs; simp only [K1,hs] at z; cases z
 | dic=>obtain ⟨a,rfl,h,_⟩:=r; exact .dK h
def Q3b:List String:=["int", "bool", "str", "tuple", "list", "dict"]
theorem Qs6 (K:bW) {T:String} (j:T∈Q3b) (p:PV):fA K (.type (tyN p)) (.type T)=zo (isI T p):=by
 have j:T = "int" \/ T = "bool" \/ T = "str" \/ T = "tuple" \/ T = "list" \/ T = "dict" := by simpa [Q3b] using j
 rcases j with rfl | rfl | rfl | rfl | rfl | rfl <;> cases p <;> first | rfl | kernel_rfl
def jq (T:String) (m:ME):ME:=fun Γ st=>(m Γ st).bind fun p st1=>if K1 st1 p=yo then .stuck else .ok (.bl (isI T (dpv st1 p))) st1
theorem Ka {T:String} {tx:Str} {a:aH} {ma:ME} {p tp:Pos} (hT:T∈Q3b) (ha:SimE X E a ma) (hg:Gl X "isinstance") (hm:X.mg "isinstance" = zb) (Y:Gl X tx) (O:X.mg tx=zb) (J:aX tx=zo (.type T))
  (hn:tx≠"__name__" := by decide) (hd:(tx == ("__debug__" : Str))=yl:=by decide)
  (he:aN [a,.Name tx tp] X.env=(yl,aO a X.env) :: aN [.Name tx tp] X.env:=by rfl) (I:aN [.Name tx tp] X.env=(yl,aO (.Name tx tp) X.env) :: aN [] X.env:=by rfl) (Z:(aY pos (aN [.Name tx tp] X.env)).any (·.1)=yl:=by rfl) :
  SimE X E (.Call (.Name "isinstance" p) [a,.Name tx tp] [] pos) (jq T ma):=
 ⟨fun Γ σ H ρ st Q R G h=>WE.of (yg Q9q hg hm Q0x (Wq Ja (Wq (Qm7 Y O J (v:=.ty T) rfl hn hd) Xg I) he) (by decide) (by decide) he Z)
  (ha.use R G h.bind fun q j H1 ρ1 v x1 R1 G1 r1 h1=>by
   by_cases z:K1 j q=yo
   ·rw [bS z] at h1; exact h1.elim
   ·rw [bT z] at h1;exact ⟨v,.ty T,.type T,_,_,rfl,rfl,Qtk (by simpa using z) R1 r1,Qs6 X.K hT (dpv j q),now R1 h1 rfl⟩)⟩
end
abbrev GA:=PV->Gam->Option Gam
abbrev GAs:=List PV->Gam->Option Gam
structure SimG (X:Cx) (tg:aH) (ga:GA):Prop where
 run:∀ (Γ Γ':Gam) (σ:St) (H:Hp) (ρ:Tk) (p:PV) (v:V) (Q:St->Hp->Prop),EnvR H ρ Γ σ->Rep H ρ p v->ga p Γ=zo Γ'->(∀ σ',EnvR H ρ Γ' σ'->Q σ' H)->∃ t,PG X tg t/\t v σ H Q
structure SimGs (X:Cx) (tgs:List aH) (n:Nat) (ga:GAs):Prop where
 run:∀ (Γ Γ':Gam) (σ:St) (H:Hp) (ρ:Tk) (ps:List PV) (vs:List V) (Q:St->Hp->Prop),EnvR H ρ Γ σ->RepL H ρ ps vs->ga ps Γ=zo Γ'->(∀ σ',EnvR H ρ Γ' σ'->Q σ' H)->∃ t,PGs X tgs t/\t vs σ H Q
 len:∀ ps Γ Γ',ga ps Γ=zo Γ'->ps.length=n
def Qn (i:Nat):GA:=fun p Γ=>zo (Γ.set i (zo p))
def Q5b:GAs:=fun ps Γ=>match ps with
 | []=>zo Γ
 | _=>zb
def Um (g:GA) (gs:GAs):GAs:=fun ps Γ=>match ps with
 | p :: r=>(g p Γ).bind (gs r)
 | []=>zb
def Q5a (gs:GAs):GA:=fun p Γ=>match p with
 | .tup ps=>gs ps Γ
 | _=>zb
section
variable {X:Cx} {pos:Pos}
theorem Qy {i:Nat} {x:Str} (j:X.N.Nodup) (hi:X.N[i]?=zo x:=by rfl) (q:Loc X.env.scope x:=by first | exact Or.inl rfl | exact Or.inr rfl) (z:X.fn x=yo\/X.env.scope.names.lookup x=zo .local:=by first | exact .inl rfl | exact .inr rfl):SimG X (.Name x pos) (Qn i):=
 ⟨fun Γ I σ H ρ p v Q G r e k=>⟨_,Qm3 j hi q z,by cases e; exact k _ (G.set r i)⟩⟩
theorem Qc5:SimGs X [] 0 Q5b:=⟨fun Γ j σ H ρ ps vs Q G r e k=>⟨_,Qm1,by
 cases ps with
 | nil=>cases e; cases r; exact ⟨rfl,k σ G⟩
 | cons _ _=>cases e⟩,fun ps Γ j e=>by
 cases ps with
 | nil=>rfl
 | cons _ _=>cases e⟩
def WGx (X:Cx) (tg:aH):TG:=fun v σ H Q=>∃ t,PG X tg t/\t v σ H Q
theorem Qm2 {tg:aH}:PG X tg (WGx X tg):=fun pins s σ H v u Q I r ⟨t,h,q⟩=>h pins s σ H v u Q I r q
def Qya (X:Cx) (tgs:List aH):TGs:=fun v σ H Q=>∃ t,PGs X tgs t/\t v σ H Q
theorem Qpc {j:List aH}:PGs X j (Qya X j):=fun pins s σ H v u Q I r ⟨t,h,q⟩=>h pins s σ H v u Q I r q
theorem Xx {e:aH} {es:List aH} {g:GA} {gs:GAs} {n:Nat} (h1:SimG X e g) (h2:SimGs X es n gs) (hs:(av (e :: es) X.env).map (·.2)=assign e X.env :: (av es X.env).map (·.2):=by rfl):SimGs X (e :: es) (n + 1) (Um g gs):=
 ⟨fun Γ j σ H ρ ps vs Q G r eq k=>⟨_,Qgj Qm2 Qpc hs,by
  cases ps with
  | nil=>cases eq
  | cons p ps=>
   obtain ⟨v,t,rfl,O,J⟩:=r;have eq:(g p Γ).bind (gs ps)=zo j:=eq;cases e1:g p Γ with
   | none=>rw [e1] at eq; cases eq
   | some q=>
    rw [e1] at eq;exact ⟨v,t,rfl,h1.run Γ q σ H ρ p v _ G O e1 fun z I=>h2.run q j z H ρ ps t _ I J eq k⟩⟩,fun ps Γ j e=>by
  cases ps with
  | nil=>cases e
  | cons p ps=>
   have e:(g p Γ).bind (gs ps)=zo j:=e;cases e1:g p Γ with
   | none=>rw [e1] at e; cases e
   | some q=>rw [e1] at e; rw [D5,h2.len ps q j e]⟩
theorem Qfr {es:List aH} {k n:Nat} {gs:GAs} (J:X.calm=yo) (h:SimGs X es n gs) (O:(av es X.env).length=n:=by rfl) (z:(av es X.env).findIdx? (·.1)=zb:=by rfl):SimG X (.Tuple es k pos) (Q5a gs):=
 ⟨fun Γ j σ H ρ p v Q G r e q=>⟨_,Qr0 J Qpc O z,by
  cases p with
  | tup ps=>
   obtain ⟨a,vs,rfl,Y,Z,I⟩:=r;exact ⟨a,vs,rfl,SqT.of Y,by rw [<- I.length]; exact h.len ps Γ j e,h.run Γ j σ H ρ ps vs Q G I e q⟩
  | _=>cases e⟩⟩
end
abbrev Wt:=List (Nat × Cell)
def wOk (w:Wt) (st:Q0):Prop:=∀ x∈w,st[x.1]?=zo x.2
theorem Z4 (st:Q0):wOk [] st:=fun x h=>by cases h
structure Src (J:It) (items:List PV) (w:Wt) (H:Hp) (ρ:Tk):Prop where
 stop:∀ H2 ρ2 st2,Ext H ρ H2 ρ2->Rel H2 ρ2 st2->wOk w st2->J.stop items.length H2
 go:∀ H2 ρ2 st2,Ext H ρ H2 ρ2->Rel H2 ρ2 st2->wOk w st2->∀ i,i < items.length->J.go i H2
 yld:∀ H2 ρ2 st2,Ext H ρ H2 ρ2->Rel H2 ρ2 st2->wOk w st2->∀ i p,items[i]?=zo p->∀ x H3,J.yld i H2 x H3->Same H2 H3/\Rep H3 ρ2 p x
abbrev MI:=Gam->Q0->Res (List PV × Wt)
structure SimI (X:Cx) (E:XK) (tg iter:aH) (mi:MI):Prop where
 run:∀ (Γ:Gam) (σ:St) (H:Hp) (ρ:Tk) (st:Q0) (P:List PV × Wt->Q0->Hp->Tk->Prop) (R':It->Hp->Prop),Rel H ρ st->EnvR H ρ Γ σ->Acc X.mg E H ρ P (mi Γ st) ->
  (∀ iw st1 H1 ρ1 J,mi Γ st=.ok iw st1->Ext H ρ H1 ρ1->Rel H1 ρ1 st1->EnvR H1 ρ1 Γ σ->wOk iw.2 st1->iw.1.length<=sizeLine->Src J iw.1 iw.2 H1 ρ1->P iw st1 H1 ρ1->R' J H1)->WI X tg iter σ H R'
def Wi (st:Q0):PV->Option (List PV × Wt)
 | .tup xs=>zo (xs,[])
 | .lst xs=>zo (xs,[])
 | .fro xs=>zo (xs,[])
 | .ref i=>match st[i]? with
  | some (.lst xs)=>zo (xs,[(i,.lst xs)])
  | _=>zb
 | _=>zb
theorem Qa7 {K:bW} {H:Hp} {ρ:Tk} {st:Q0} {p:PV} {v:V} {xs:List PV} {w:Wt} (R:Rel H ρ st) (r:Rep H ρ p v) (e:Wi st p=zo (xs,w)) :
  wOk w st/\∃ (t:Bool) (a:aB),v=.ref a/\(t=yo->∃ ys,p=.tup ys)/\(t=yl->∀ ys,p≠.tup ys)/\∀ H2 j q,Ext H ρ H2 j->Rel H2 j q->wOk w q->∃ vs,SqK K t H2 a vs/\RepL H2 j xs vs:=by
 cases p with
 | tup ys=>
  obtain ⟨a,vs,rfl,I,J,O⟩:=r;cases e;exact ⟨Z4 _,yo,a,rfl,fun _=>⟨_,rfl⟩,(fun z=>by cases z),fun H2 j q x R2 _=>⟨vs,show SqT K H2 a vs from SqT.of (x.kp I J),O.ext x⟩⟩
 | lst ys=>
  obtain ⟨a,vs,rfl,I,J,O⟩:=r;cases e;exact ⟨Z4 _,yl,a,rfl,(fun z=>by cases z),(fun _ _ z=>by cases z),fun H2 j q x R2 _=>⟨vs,show SqL K H2 a vs from SqL.of (x.kp I J),O.ext x⟩⟩
 | fro ys=>
  obtain ⟨a,vs,rfl,I,J,O⟩:=r;cases e;refine ⟨Z4 _,yl,a,rfl,(fun z=>by cases z),(fun _ _ z=>by cases z),fun H2 j q x R2 _=>⟨vs,show SqL K H2 a vs from ?_,O.ext x⟩⟩
  rcases I with I | ⟨o,I⟩
  ·exact .inl (.inl (x.kp I J))
  ·exact .inl (.inr ⟨o,x.kp I J⟩)
 | ref i=>
  obtain ⟨a,ea,rfl⟩:=r;simp only [Wi] at e
  split at e
  ·rename_i ys hs;cases e;refine ⟨fun x hx=>?_,yl,a,rfl,(fun z=>by cases z),(fun _ _ z=>by cases z),fun H2 j q x R2 ok=>?_⟩
   ·have:x=(i,.lst xs):=by simpa using hx
    subst this; exact hs
   ·have Y:=ok (i,.lst xs) (by simp);obtain ⟨b,vs,Z,f2,f3⟩:=R2.lst Y;obtain ⟨t,et⟩:=x.pre;rw [<- et,O7 (O0.mp ea).1,ea] at Z;cases Z;exact ⟨vs,show SqL K H2 a vs from SqL.of f2,f3⟩
  ·cases e
 | _=>cases e
section
variable {X:Cx} {E:XK} {pos:Pos} {tg:aH} {e:aH} {m:ME}
def Xm (m:ME):MI:=fun Γ st=>(m Γ st).bind fun p st1=>match Wi st1 p with
 | some (xs,w)=>if xs.length<=lim then .ok (xs,w) st1 else .stuck
 | none=>.stuck
theorem RepL.i {H:Hp} {ρ:Tk} {ps:List PV} {vs:List V} {i:Nat} {p:PV} {x:V} (r:RepL H ρ ps vs) (h:ps[i]?=zo p) (h':vs[i]?=zo x):Rep H ρ p x:=by
 obtain ⟨v,e,q⟩:=r.get h;rw [h'] at e; cases e;exact q
theorem Qc2 {K:bW} {H:Hp} {ρ:Tk} {t:Bool} {a:aB} {xs:List PV} {w:Wt} (h:∀ H2 j q,Ext H ρ H2 j->Rel H2 j q->wOk w q->∃ vs,SqK K t H2 a vs/\RepL H2 j xs vs):Src (if t=yo then Itt K a else Itl K a) xs w H ρ:=by
 cases t with
 | true=>
  rw [bS rfl];refine ⟨fun H2 j q x R ok=>?_,fun H2 j q x R ok i hi=>?_,fun H2 j q x R ok i p hp y O I=>?_⟩
  ·obtain ⟨vs,s,r⟩:=h H2 j q x R ok;exact ⟨vs,s,by rw [r.length]; exact O5 _⟩
  ·obtain ⟨vs,s,r⟩:=h H2 j q x R ok;have z:i < vs.length:=by rw [<- r.length]; exact hi
   exact ⟨vs,vs[i],s,O2 z⟩
  ·obtain ⟨vs,s,r⟩:=h H2 j q x R ok;obtain ⟨rfl,J⟩:=I;exact ⟨Same.refl _,r.i hp (J vs s)⟩
 | false=>
  rw [bT D3];refine ⟨fun H2 j q x R ok=>?_,fun H2 j q x R ok i hi=>?_,fun H2 j q x R ok i p hp y O I=>?_⟩
  ·obtain ⟨vs,s,r⟩:=h H2 j q x R ok;exact ⟨vs,s,by rw [r.length]; exact O5 _⟩
  ·obtain ⟨vs,s,r⟩:=h H2 j q x R ok;have z:i < vs.length:=by rw [<- r.length]; exact hi
   exact ⟨vs,vs[i],s,O2 z⟩
  ·obtain ⟨vs,s,r⟩:=h H2 j q x R ok;obtain ⟨rfl,J⟩:=I;exact ⟨Same.refl _,r.i hp (J vs s)⟩
theorem Qck {mg:Str->Option aA} {H:Hp} {ρ:Tk} {st:Q0} {p:PV} {P:List PV × Wt->Q0->Hp->Tk->Prop} (R:Rel H ρ st) (h:Acc mg E H ρ P (match Wi st p with | some (xs,w)=>if xs.length<=lim then .ok (xs,w) st else .stuck | none=>.stuck)) :
  ∃ xs w,Wi st p=zo (xs,w)/\xs.length<=lim/\P (xs,w) st H ρ:=by
 split at h
 ·rename_i xs w e
  split at h
  ·rename_i j;exact ⟨xs,w,e,j,h H ρ (Ext.refl _ _) R⟩
  ·exact h.elim
 ·exact h.elim
theorem Wm (ha:SimE X E e m):SimI X E tg e (Xm m):=⟨fun Γ σ H ρ st P R' R G h k=>by
 have hb:Acc X.mg E H ρ _ (m Γ st):=Acc.bind h
 by_cases ht:∃ ys j,m Γ st=.ok (.tup ys) j
 ·obtain ⟨ys,a1,e0⟩:=ht;refine WI.of (Qqy Ja) (ha.use' R G hb fun p j H1 ρ1 v eq x1 q J O h1=>?_);obtain ⟨xs,w,e,I,Y⟩:=Qck q h1;obtain ⟨ok,t,a,rfl,t1,Z,z⟩:=Qa7 (K:=X.K) q O e;have ep:p=.tup ys:=by rw [eq] at e0; injection e0
  cases t with
  | false=>exact absurd ep (Z rfl ys)
  | true=>
   obtain ⟨vs,s,_⟩:=z H1 ρ1 j (Ext.refl _ _) q ok;exact ⟨a,rfl,⟨vs,s⟩,k (xs,w) j H1 ρ1 _ (by simp only [Xm,eq,Res.bind,e,bS I]) x1 q J ok (Yv I) (Qc2 z) Y⟩
 ·refine WI.of (Qkz Ja) (ha.use' R G hb fun p j H1 ρ1 v eq x1 q J O h1=>?_);obtain ⟨xs,w,e,I,Y⟩:=Qck q h1;obtain ⟨ok,t,a,rfl,t1,Z,z⟩:=Qa7 (K:=X.K) q O e;cases t with
  | true=>
   obtain ⟨ys,rfl⟩:=t1 rfl;exact absurd ⟨ys,j,eq⟩ ht
  | false=>
   obtain ⟨vs,s,_⟩:=z H1 ρ1 j (Ext.refl _ _) q ok;exact ⟨a,rfl,⟨vs,s⟩,k (xs,w) j H1 ρ1 _ (by simp only [Xm,eq,Res.bind,e,bS I]) x1 q J ok (Yv I) (Qc2 z) Y⟩⟩
def V3 (lo:Int) (n:Nat):List PV:=(bX n).map fun (k:Nat)=>PV.int (lo + (k:Int))
theorem Qdk {H:Hp} {ρ:Tk} {lo:Int} {n:Nat}:Src (Itr lo n) (V3 lo n) [] H ρ:=by
 have I:(V3 lo n).length=n:=by unfold V3; rw [O1,F3]
 refine ⟨fun H2 j q x R ok=>?_,fun H2 j q x R ok i hi=>?_,fun H2 j q x R ok i p hp y J z=>?_⟩
 ·show n<=(V3 lo n).length;omega
 ·show i < n;omega
 ·obtain ⟨rfl,rfl⟩:=z;have hi:i < n:=by rw [<- I]; exact (O0.mp hp).1
  unfold V3 at hp;rw [D7,fW hi] at hp;cases hp;exact ⟨Same.refl _,rfl⟩
def Zu (mr:Gam->Q0->Res (List PV)):MI:=fun Γ st=>(mr Γ st).bind fun ps st1=>match ps with
 | [.int j]=>if -(lim:Int)<=j/\j<=lim then .ok (V3 0 j.toNat,[]) st1 else .stuck
 | _=>.stuck
variable {a b:aH} {mr:Gam->Q0->Res (List PV)} {p:Pos}
theorem Qae (lo:Int) (n:Nat):(V3 lo n).length=n:=by unfold V3; rw [O1,F3]
theorem Zz (I:Gl X "range") (hm:X.mg "range" = zb) (O:SimA X E [a] mr) (hs:aN [a] X.env=[(yl,aO a X.env)]:=by rfl):SimI X E tg (.Call (.Name "range" p) [a] [] pos) (Zu mr):=⟨fun Γ σ H ρ st P R' R G h k=>by
 refine WI.of (Qe1 I hm Q0s hs) (O.use' R G h.bind fun ps q H1 ρ1 vs eq x1 z Y r1 h1=>?_)
 split at h1
 ·rename_i j
  split at h1
  ·rename_i Z;obtain ⟨v,rfl,J⟩:=Yd r1;cases J;have hl:(lim:Int)=1000000:=rfl;refine ⟨j,rfl,by omega,by omega,k (V3 0 j.toNat,[]) q H1 ρ1 _ (by simp only [Zu,eq,Res.bind,bS Z]) x1 z Y (Z4 _) ?_ Qdk (h1 H1 ρ1 (Ext.refl _ _) z)⟩;show (V3 0 j.toNat).length<=sizeLine;rw [Qae];exact Yv (by omega)
  ·exact h1.elim
 ·exact h1.elim⟩
def U5:Nat->List PV->List PV
 | _,[]=>[]
 | n,x :: xs=>.tup [.int n,x] :: U5 (n + 1) xs
theorem ji:∀ (n:Nat) (xs:List PV),(U5 n xs).length=xs.length
 | _,[]=>rfl
 | n,x :: xs=>by rw [U5,D5,ji (n + 1) xs,D5]
theorem Q5e:∀ {n:Nat} {xs:List PV} {i:Nat} {p:PV},(U5 n xs)[i]?=zo p->∃ x,p=.tup [.int (n + i:Nat),x]/\xs[i]?=zo x
 | n,[],i,p,h=>by simp [U5] at h
 | n,x :: xs,0,p,h=>by
  simp [U5] at h;exact ⟨x,h.symm,rfl⟩
 | n,x :: xs,i + 1,p,h=>by
  rw [U5,eL] at h;obtain ⟨y,e1,e2⟩:=Q5e h;exact ⟨y,by rw [e1,show n + 1 + i=n + (i + 1) by omega],by simpa using e2⟩
def Q90 (mr:Gam->Q0->Res (List PV)):MI:=fun Γ st=>(mr Γ st).bind fun ps st1=>match ps with
 | [p]=>match Wi st1 p with
  | some (xs,w)=>if xs.length<=lim then .ok (U5 0 xs,w) st1 else .stuck
  | none=>.stuck
 | _=>.stuck
theorem Qfk {K:bW} {H:Hp} {ρ:Tk} {t:Bool} {a:aB} {xs:List PV} {w:Wt} (h:∀ H2 j z,Ext H ρ H2 j->Rel H2 j z->wOk w z->∃ vs,SqK K t H2 a vs/\RepL H2 j xs vs):Src (Ite K t a) (U5 0 xs) w H ρ:=by
 refine ⟨fun H2 j z x R ok=>?_,fun H2 j z x R ok i hi=>?_,fun H2 j z x R ok i p hp y H3 O=>?_⟩
 ·obtain ⟨vs,s,r⟩:=h H2 j z x R ok;exact ⟨vs,s,by rw [ji,r.length]; exact O5 _⟩
 ·obtain ⟨vs,s,r⟩:=h H2 j z x R ok;rw [ji,r.length] at hi;exact ⟨vs,vs[i],s,O2 hi⟩
 ·obtain ⟨vs,s,r⟩:=h H2 j z x R ok;obtain ⟨q,u,J,rfl,rfl,Z⟩:=O;have e1:=Z vs s;obtain ⟨xp,rfl,Y⟩:=Q5e hp;have I:Same H2 (upd H2 q (.tup [.int i,u])):=Qfy J;exact ⟨I,q,[.int i,u],rfl,J3,R.fresh J,RepL.cons (by rw [gy]; rfl) (RepL.cons ((r.i Y e1).ext (Ext.same I)) RepL.nil)⟩
theorem Qk3 {elts:List aH} {kt:Nat} {tp:Pos} (hg:Gl X "enumerate") (hm:X.mg "enumerate" = zb) (ha:SimA X E [a] mr) (hs:aN [a] X.env=[(yl,aO a X.env)]:=by rfl) :
  SimI X E (.Tuple elts kt tp) (.Call (.Name "enumerate" p) [a] [] pos) (Q90 mr):=⟨fun Γ σ H ρ st P R' R G h k=>by
 have hb:Acc X.mg E H ρ _ (mr Γ st):=Acc.bind h;have q:∀ I:Bool,(∀ p j,mr Γ st=.ok [p] j->(I=yo <-> ∃ ys,p=.tup ys))->WI X (.Tuple elts kt tp) (.Call (.Name "enumerate" p) [a] [] pos) σ H R':=fun I ht=>by
  refine WI.of (Qm0 I hg hm Q0s hs) (ha.use' R G hb fun ps j H1 ρ1 vs eq x1 Y G1 r1 h1=>?_)
  split at h1
  ·rename_i p'
   split at h1
   ·rename_i xs w e1
    split at h1
    ·rename_i hl;obtain ⟨v,rfl,rv⟩:=Yd r1;obtain ⟨J,b1,a1,rfl,z1,a4,O⟩:=Qa7 (K:=X.K) Y rv e1;have Z:=ht _ _ eq;have a2:b1=I:=by
      cases b1 with
      | true=>exact (Z.mpr (z1 rfl)).symm
      | false=>
       cases I with
       | false=>rfl
       | true=>obtain ⟨ys,e⟩:=Z.mp rfl; exact absurd e (a4 rfl ys)
     subst a2;obtain ⟨a3,s1,_⟩:=O H1 ρ1 j (Ext.refl _ _) Y J;refine ⟨a1,a3,rfl,s1,k (U5 0 xs,w) j H1 ρ1 _ (by simp only [Q90,eq,Res.bind,e1,bS hl]) x1 Y G1 J ?_ (Qfk O) (h1 H1 ρ1 (Ext.refl _ _) Y)⟩;show (U5 0 xs).length<=sizeLine;rw [ji];exact Yv hl
    ·exact h1.elim
   ·exact h1.elim
  ·exact h1.elim
 have tt:∀ p:PV,∃ t:Bool,t=yo <-> ∃ ys,p=.tup ys:=fun p=>by
  cases p with
  | tup ys=>exact ⟨yo,fun _=>⟨ys,rfl⟩,fun _=>rfl⟩
  | _=>exact ⟨yl,⟨fun z=>(by cases z),fun ⟨_,z⟩=>(by cases z)⟩⟩
 by_cases hz:∃ p j,mr Γ st=.ok [p] j
 ·obtain ⟨p0,a5,e0⟩:=hz;obtain ⟨I,Z⟩:=tt p0;refine q I fun p j e=>?_
  rw [e0] at e; cases e;exact Z
 ·exact q yo fun p j e=>absurd ⟨p,j,e⟩ hz⟩
end
section
abbrev ML:=Gam->Q0->Res (List PV)
structure SimN (X:Cx) (E:XK) (e:aH) (m:ML):Prop where
 run:∀ (Γ:Gam) (σ:St) (H:Hp) (ρ:Tk) (st:Q0) (P:List PV->Q0->Hp->Tk->Prop) (Q:VK),Rel H ρ st->EnvR H ρ Γ σ->Acc X.mg E H ρ P (m Γ st) ->
  (∀ ps st1 H1 ρ1 a vs,m Γ st=.ok ps st1->Ext H ρ H1 ρ1->Rel H1 ρ1 st1->a∈ρ1.hid->H a=zb->H1 a=zo (.lst vs)->RepL H1 ρ1 ps vs->Q (.ref a) H1)->WE X e σ H Q
def Uy (m:ML):ME:=fun Γ st=>(m Γ st).bind fun ps st1=>.ok (.lst ps) st1
def zh (m:ML):ME:=fun Γ st=>(m Γ st).bind fun ps st1=>.ok (.ref st1.length) (st1 ++ [.lst ps])
section
variable {H0 H:Hp} {ρ0 ρ:Tk} {st:Q0} {a:aB} {ps:List PV} {vs:List V}
theorem Qcb (I:Rel H0 ρ0 st) (x:Ext H0 ρ0 H ρ) {j:Q0} (R:Rel H ρ j) (hm:a∈ρ.hid) (q:H0 a=zb) (J:H a=zo (.lst vs)) (r:RepL H ρ ps vs) :
  Ext H0 ρ0 H ⟨ρ.tr,ρ0.hid⟩/\Rel H ⟨ρ.tr,ρ0.hid⟩ j/\Rep H ⟨ρ.tr,ρ0.hid⟩ (.lst ps) (.ref a):=
 ⟨x.unhide,R.unhide x.hidM,a,vs,rfl,J,(fun z=>by
  rcases z with z | z
  ·exact R.ap a hm z
  ·obtain ⟨o,e,_⟩:=I.hd a z;rw [q] at e; cases e),r.unhide x.hidM⟩
mutual
theorem Rep.trk {b:aB} {hs:List aB} (j:b∈ρ.hid) (q:∀ c,c∈hs->c∈ρ.hid):∀ {p:PV} {v:V},Rep H ρ p v->Rep H ⟨ρ.tr ++ [b],hs⟩ p v
 | .non,_,r=>r
 | .bl _,_,r=>r
 | .int _,_,r=>r
 | .str _,_,r=>r
 | .tup ps,v,⟨c,vs,e,s,n,r⟩=>⟨c,vs,e,s,fun z=>by
   rcases z with z | z
   ·rcases E2.mp z with z | z
    ·exact n (.inl z)
    ·have:c=b:=by simpa using z
     subst this; exact n (.inr j)
   ·exact n (.inr (q _ z)),RepL.trk j q r⟩
 | .lst ps,v,⟨c,vs,e,s,n,r⟩=>⟨c,vs,e,s,fun z=>by
   rcases z with z | z
   ·rcases E2.mp z with z | z
    ·exact n (.inl z)
    ·have:c=b:=by simpa using z
     subst this; exact n (.inr j)
   ·exact n (.inr (q _ z)),RepL.trk j q r⟩
 | .fro ps,v,⟨c,vs,e,s,n,r⟩=>⟨c,vs,e,s,fun z=>by
   rcases z with z | z
   ·rcases E2.mp z with z | z
    ·exact n (.inl z)
    ·have:c=b:=by simpa using z
     subst this; exact n (.inr j)
   ·exact n (.inr (q _ z)),RepL.trk j q r⟩
 | .ref i,v,⟨c,e,e2⟩=>⟨c,by show (ρ.tr ++ [b])[i]?=zo c; rw [O7 (O0.mp e).1]; exact e,e2⟩
 | .dic,v,⟨c,e,s,n⟩=>⟨c,e,s,fun z=>by
   rcases z with z | z
   ·rcases E2.mp z with z | z
    ·exact n (.inl z)
    ·have:c=b:=by simpa using z
     subst this; exact n (.inr j)
   ·exact n (.inr (q _ z))⟩
theorem RepL.trk {b:aB} {hs:List aB} (j:b∈ρ.hid) (q:∀ c,c∈hs->c∈ρ.hid):∀ {ps:List PV} {vs:List V},RepL H ρ ps vs->RepL H ⟨ρ.tr ++ [b],hs⟩ ps vs
 | [],_,r=>r
 | p :: ps,_,⟨v,t,e,I,z⟩=>⟨v,t,e,Rep.trk j q I,RepL.trk j q z⟩
end
theorem Qma (R0:Rel H0 ρ0 st) (x:Ext H0 ρ0 H ρ) {j:Q0} (R:Rel H ρ j) (hm:a∈ρ.hid) (Z:H0 a=zb) (ha:H a=zo (.lst vs)) (r:RepL H ρ ps vs) :
  Ext H0 ρ0 H ⟨ρ.tr ++ [a],ρ0.hid⟩/\Rel H ⟨ρ.tr ++ [a],ρ0.hid⟩ (j ++ [.lst ps])/\Rep H ⟨ρ.tr ++ [a],ρ0.hid⟩ (.ref j.length) (.ref a):=by
 have Y:a∉ρ0.hid:=fun z=>by
  obtain ⟨o,e,_⟩:=R0.hd a z;rw [Z] at e; cases e
 refine ⟨⟨x.pre.trans (eP _ _),fun _ h=>h,fun _ h=>.inl h,x.keep,fun b J=>?_,x.old,x.frz⟩,⟨?_,?_,fun b J=>R.hd b (x.hidM b J),fun b J z=>?_,fun i b c h1 h2=>?_⟩,a,?_,rfl⟩
 ·rcases E2.mp J with z | z
  ·exact x.new b z
  ·have:b=a:=by simpa using z
   subst this; exact .inr Z
 ·show (ρ.tr ++ [a]).length=_;rw [O6,O6,R.len]; rfl
 ·show (ρ.tr ++ [a]).Nodup;refine cS.mpr ⟨R.nd,by simp,fun b J c hc e=>?_⟩;have:c=a:=by simpa using hc
  subst this; subst e;exact R.ap b hm J
 ·rcases E2.mp z with z | z
  ·exact R.ap b (x.hidM b J) z
  ·have:b=a:=by simpa using z
   subst this; exact Y J
 ·have h1:(ρ.tr ++ [a])[i]?=zo b:=h1
  by_cases hi:i < j.length
  ·rw [O7 (by rw [R.len]; exact hi)] at h1;rw [O7 hi] at h2;have q:=R.cell i b c h1 h2;cases c with
   | lst O=>
    obtain ⟨I,e1,e2⟩:=q;exact ⟨I,e1,e2.trk hm x.hidM⟩
   | dic O=>
    obtain ⟨I,e1,e2⟩:=q;exact ⟨I,e1,e2.1,e2.2.trk hm x.hidM⟩
   | dtp O=>
    obtain ⟨I,e1,e2⟩:=q;exact ⟨I,e1,e2.1,e2.2.trk hm x.hidM⟩
   | frd O=>
    obtain ⟨I,e1,e2⟩:=q;exact ⟨I,e1,e2.1,e2.2.trk hm x.hidM⟩
   | obj C O=>
    obtain ⟨I,e1,e2⟩:=q;exact ⟨I,e1,e2.1,e2.2.trk hm x.hidM⟩
  ·rw [D4 (by rw [R.len]; omega)] at h1;rw [D4 (by omega)] at h2;have e0:i - j.length=0:=by
    rcases fZ (i - j.length) with z | z
    ·exact z
    ·rw [cz (by simp; omega)] at h2; cases h2
   rw [R.len,e0] at h1;rw [e0] at h2;simp at h1 h2;subst h1; subst h2;exact ⟨vs,ha,r.trk hm x.hidM⟩
 ·show (ρ.tr ++ [a])[j.length]?=zo a;rw [<- R.len,D4 (O5 _),L1]; rfl
end
section
variable {X:Cx} {E:XK} {pos:Pos} {e:aH} {m:ML}
theorem Ue (h:SimN X E e m):SimE X E e (Uy m):=⟨fun Γ σ H ρ st Q R G j=>h.run Γ σ H ρ st _ Q R G j.bind fun ps I H1 ρ1 a vs eq x q hm z O r=>by
 obtain ⟨x2,R2,J⟩:=Qcb R x q hm z O r;unfold Uy at j;rw [eq] at j;exact j _ _ x2 R2 _ J⟩
theorem X7 (h:SimN X E e m):SimE X E e (zh m):=⟨fun Γ σ H ρ st Q R G j=>h.run Γ σ H ρ st _ Q R G j.bind fun ps I H1 ρ1 a vs eq x q hm z O r=>by
 obtain ⟨x2,R2,J⟩:=Qma R x q hm z O r;unfold zh at j;rw [eq] at j;exact j _ _ x2 R2 _ J⟩
variable {es:List aH} {mr:Gam->Q0->Res (List PV)} {a b:aH} {ma mb:ME}
theorem Q2y {H1:Hp} {ρ1:Tk} {j:Q0} {H:Hp} {ρ:Tk} {Q:VK} {ps:List PV} {vs:List V} (x:Ext H ρ H1 ρ1) (z:Rel H1 ρ1 j) (r:RepL H1 ρ1 ps vs)
  (k:∀ H1 ρ1 a vs,Ext H ρ H1 ρ1->Rel H1 ρ1 j->a∈ρ1.hid->H a=zb->H1 a=zo (.lst vs)->RepL H1 ρ1 ps vs->Q (.ref a) H1):∀ p,H1 p=zb->Q (.ref p) (upd H1 p (.lst vs)):=fun p hp=>by
 refine k _ (ρ1.hide p) p vs (x.trans (Ext.hide hp)) (z.hide hp) F2 ?_ J3 (r.hide hp);cases e:H p with
 | none=>rfl
 | some o=>
  obtain ⟨o',q⟩:=x.old p o e;rw [hp] at q; cases q
def Q0h (mr:Gam->Q0->Res (List PV)):ML:=fun Γ st=>(mr Γ st).bind fun ps st1=>if ps.length<=lim then .ok ps st1 else .stuck
theorem Q1v (h:SimA X E es mr):SimN X E (.List es pos) (Q0h mr):=
 ⟨fun Γ σ H ρ st P Q R G Y k=>WE.of (Qgn Q0s) (h.use' R G Y.bind fun ps q H1 ρ1 vs eq x1 J Z I h1=>by
  by_cases z:ps.length<=lim
  ·refine ⟨by rw [<- I.length]; exact Yv z,Q2y x1 J I fun H2 j a O=>k ps q H2 j a O ?_⟩;unfold Q0h;rw [eq];exact bS z
  ·rw [bT z] at h1; exact h1.elim)⟩
def Q33 (ma:ME):ML:=fun Γ st=>(ma Γ st).bind fun p st1=>match Ud st1 p with
 | some xs=>.ok xs st1
 | none=>.stuck
theorem Qc4 {p:Pos} (ha:SimE X E a ma) (Z:Gl X "list") (hm:X.mg "list" = zb) (O:aN [a] X.env=(yl,aO a X.env) :: aN [] X.env:=by rfl):SimN X E (.Call (.Name "list" p) [a] [] pos) (Q33 ma):=
 ⟨fun Γ σ H ρ st P Q R G hq k=>WE.of (Xy Q7c Z hm Va (Wq Ja Xg O) (by decide) (by decide) O rfl) (ha.use' R G hq.bind fun q j H1 ρ1 v eq x1 J G1 r1 h1=>by
  split at h1
  ·rename_i xs e;obtain ⟨t,b,vs,rfl,I,Y⟩:=Q1x (K:=X.K) J r1 e;refine ⟨b,vs,rfl,Qfm I,Q2y x1 J Y fun H2 z a us=>k xs j H2 z a us ?_⟩;unfold Q33;rw [eq];show (match Ud j q with | some xs=>Res.ok xs j | none=>.stuck)=_;rw [e]
  ·exact h1.elim)⟩
def Q8p (st:Q0) (p q:PV):Res (List PV):=match U4 st p,U4 st q with
 | some xs,zo ys=>if xs.length + ys.length<=lim then .ok (xs ++ ys) st else .stuck
 | _,_=>.stuck
def Q50 (ma mb:ME):ML:=fun Γ st=>(ma Γ st).bind fun x st1=>(mb Γ st1).bind fun y st2=>Q8p st2 x y
theorem Qq9 (ha:SimE X E a ma) (hb:SimE X E b mb):SimN X E (.BinOp a .Add b pos) (Q50 ma mb):=
 ⟨fun Γ σ H ρ st P Q R G hq k=>WE.of (Qpd Qh3 Ja Ja) (ha.use' R G hq.bind fun p I H1 ρ1 v e1 x1 R1 G1 r1 h1=>hb.use' R1 G1 h1.bind fun q j H2 a1 u e2 x2 R2 G2 r2 h2=>by
  unfold Q8p at h2
  split at h2
  ·rename_i xs ys Z f2
   split at h2
   ·rename_i J;obtain ⟨c,vs,rfl,hc,O⟩:=zj R2 (r1.ext x2) Z;obtain ⟨d,us,rfl,hd,Y⟩:=zj R2 r2 f2;refine ⟨c,d,vs,us,rfl,rfl,hc,hd,by rw [<- O.length,<- Y.length]; exact Yv J,Q2y (x1.trans x2) R2 (O.append Y) fun H3 z a ws=>k (xs ++ ys) j H3 z a ws ?_⟩;unfold Q50 Q8p;rw [e1];show (mb Γ I).bind _=_;rw [e2];show (match U4 j p,U4 j q with | some xs,zo ys=>if xs.length + ys.length<=lim then Res.ok (xs ++ ys) j else .stuck | _,_=>.stuck)=_
    rw [Z,f2];exact bS J
   ·exact h2.elim
  ·exact h2.elim)⟩
end
end
def Y5 (cap:List (Option Nat)) (Γ:Gam):Gam:=cap.map fun c=>c.bind fun j=>(Γ[j]?).join
theorem EnvR.cap {H:Hp} {ρ:Tk} {Γ:Gam} {σ:St} (h:EnvR H ρ Γ σ) (cap:List (Option Nat)):EnvR H ρ (Y5 cap Γ) (xf cap σ):=by
 refine ⟨by unfold Y5 xf; rw [O1,O1],fun i p e=>?_⟩;unfold Y5 at e;unfold xf;rw [D7] at e ⊢;cases q:cap[i]? with
 | none=>rw [q] at e; cases e
 | some c=>
  rw [q] at e;cases c with
  | none=>cases e
  | some j=>
   have z:(Γ[j]?).join=zo p:=bj e;cases r:Γ[j]? with
   | none=>rw [r] at z; cases z
   | some o=>
    rw [r] at z;have:o=zo p:=z;subst this;obtain ⟨v,e1,e2⟩:=h.2 j p r;exact ⟨v,by show zo ((σ[j]?).join)=zo (zo v); rw [e1]; rfl,e2⟩
def Q5t (cap:List (Option Nat)) (ga:GA):Prop:=∀ Γ p Γ1,ga p (Y5 cap Γ)=zo Γ1->Γ1.length=(Y5 cap Γ).length/\∀ (i:Nat) (q:PV),(Y5 cap Γ)[i]?=zo (zo q)->Γ1[i]?=zo (zo q)
theorem Q5j {cap:List (Option Nat)} {i:Nat} (h:cap[i]?=zo zb) (Γ:Gam):(Y5 cap Γ)[i]?=zo zb:=by
 unfold Y5;rw [D7,h]; rfl
theorem Z2 {cap:List (Option Nat)} {i:Nat} (h:cap[i]?=zo zb:=by rfl):Q5t cap (Qn i):=fun Γ p J e=>by
 cases e;refine ⟨F9 ..,fun j q I=>?_⟩;rw [E5 fun z=>?_]
 ·exact I
 ·subst z; rw [Q5j h] at I; cases I
def Qdb (cap:List (Option Nat)) (ga:GAs):Prop:=∀ Γ ps Γ0 Γ1,(∀ (i:Nat) (q:PV),(Y5 cap Γ)[i]?=zo (zo q)->Γ0[i]?=zo (zo q))->ga ps Γ0=zo Γ1->Γ1.length=Γ0.length/\∀ (i:Nat) (q:PV),(Y5 cap Γ)[i]?=zo (zo q)->Γ1[i]?=zo (zo q)
theorem Qim {cap:List (Option Nat)}:Qdb cap Q5b:=fun Γ ps Γ0 j h e=>by
 cases ps with
 | nil=>cases e; exact ⟨rfl,h⟩
 | cons _ _=>cases e
theorem Q5c {cap:List (Option Nat)} {i:Nat} {gs:GAs} (hs:Qdb cap gs) (h:cap[i]?=zo zb:=by rfl):Qdb cap (Um (Qn i) gs):=fun Γ ps Γ0 q h0 e=>by
 cases ps with
 | nil=>cases e
 | cons p ps=>
  obtain ⟨a,b⟩:=hs Γ ps (Γ0.set i (zo p)) q (fun k r j=>by
   rw [E5 fun z=>?_]
   ·exact h0 k r j
   ·subst z; rw [Q5j h] at j; cases j) e
  exact ⟨by rw [a,F9],b⟩
theorem Qik {cap:List (Option Nat)} {gs:GAs} (hs:Qdb cap gs):Q5t cap (Q5a gs):=fun Γ p j e=>by
 cases p with
 | tup ps=>exact hs Γ ps _ j (fun _ _ h=>h) e
 | _=>cases e
open Classical in
def Z8 (ga:GA) (mt:MT) (me:ME) (w:Wt) (Γ0:Gam):List PV->Q0->Res (List PV)
 | [],st=>if wOk w st then .ok [] st else .stuck
 | x :: xs,st=>if wOk w st then (match ga x Γ0 with
  | none=>.stuck
  | some Γ1=>(mt Γ1 st).bind fun b st1=>if b=yo then (me Γ1 st1).bind fun y st2=>(Z8 ga mt me w Γ0 xs st2).bind fun ys st3=>.ok (y :: ys) st3 else Z8 ga mt me w Γ0 xs st1) else .stuck
def noX {α:Type}:Res α->Res α
 | .exc _ _=>.stuck
 | r=>r
def Z1 (cap:List (Option Nat)) (ga:GA) (mi:MI) (mt:MT) (me:ME):ML:=fun Γ st=>(mi Γ st).bind fun iw st1=>noX (Z8 ga mt me iw.2 (Y5 cap Γ) iw.1 st1)
structure SimTs (X:Cx) (ifs:List aH) (m:MT):Prop where
 run:∀ (Γ:Gam) (σ:St) (H:Hp) (ρ:Tk) (st:Q0) (P:Bool->Q0->Hp->Tk->Prop) (Q:Bool->Hp->Prop),Rel H ρ st->EnvR H ρ Γ σ->Acc X.mg E0 H ρ P (m Γ st) ->
  (∀ b st1 H1 ρ1,m Γ st=.ok b st1->Ext H ρ H1 ρ1->Rel H1 ρ1 st1->EnvR H1 ρ1 Γ σ->Q b H1)->∃ t,PTs X ifs t/\t σ H Q
def Yg:MT:=fun _ st=>.ok yo st
theorem W2 {X:Cx}:SimTs X [] Yg:=⟨fun Γ σ H ρ st P Q R G h k=>⟨_,Qkm,k yo st H ρ rfl (Ext.refl _ _) R G⟩⟩
theorem Qjv {X:Cx} {c:aH} {m:MT} (q:SimT X E0 c m):SimTs X [c] m:=⟨fun Γ σ H ρ st P Q R G h k=>⟨_,Qkk Q8e,q.use' R G h fun b j H1 ρ1 e x1 z I p=>k b j H1 ρ1 e x1 z I⟩⟩
theorem Qp3 {α:Type} {mg:Str->Option aA} {E E':XK} {H:Hp} {ρ:Tk} {P:α->Q0->Hp->Tk->Prop} {r:Res α} (h:Acc mg E H ρ P (noX r)):Acc mg E' H ρ P r:=by
 cases r with
 | ok a st=>exact h
 | exc x st=>exact h.elim
 | stuck=>exact h
theorem Res.assoc {α β j:Type} (r:Res α) (f:α->Q0->Res β) (g:β->Q0->Res j):(r.bind f).bind g=r.bind fun a st=>(f a st).bind g:=by cases r <;> rfl
theorem Acc.assoc {α β j:Type} {mg:Str->Option aA} {E:XK} {H:Hp} {ρ:Tk} {P:j->Q0->Hp->Tk->Prop} {r:Res α} {f:α->Q0->Res β} {g:β->Q0->Res j} (h:Acc mg E H ρ P ((r.bind f).bind g)):Acc mg E H ρ P (r.bind fun a st=>(f a st).bind g):=by
 rw [<- Res.assoc]; exact h
theorem EnvR.le {H:Hp} {ρ:Tk} {Γ j:Gam} {σ:St} (h:EnvR H ρ j σ) (z:Γ.length=σ.length) (k:∀ (i:Nat) (q:PV),Γ[i]?=zo (zo q)->j[i]?=zo (zo q)):EnvR H ρ Γ σ:=⟨z,fun i p e=>h.2 i p (k i p e)⟩
section
variable {X:Cx} {E:XK} {pos:Pos} {tg iter elt:aH} {ifs:List aH} {N N':List Str} {sc scE:Scope} {cap:List (Option Nat)} {ga:GA} {mi:MI} {mt:MT} {me:ME}
def aE (X:Cx) (N':List Str) (sc:Scope) (e:aH):TE:=fun σ H Q=>∀ cl C s0 H0 ex,WE (Wf X N' sc cl C s0 H0 ex) e σ H Q
def aG (X:Cx) (N':List Str) (sc:Scope) (tg:aH):TG:=fun v σ H Q=>∀ cl C s0 H0 ex,WGx (Wf X N' sc cl C s0 H0 ex) tg v σ H Q
def aT (X:Cx) (N':List Str) (sc:Scope) (ifs:List aH):TT:=fun σ H Q=>∀ cl C s0 H0 ex,∃ t,PTs (Wf X N' sc cl C s0 H0 ex) ifs t/\t σ H Q
theorem Qey {Γ:Gam} {σ:St} {H1:Hp} {ρ1:Tk} {Y:Q0} {J:It} {j:List PV} {w:Wt} {Q:VK} {P:List PV->Q0->Hp->Tk->Prop} (hg:∀ cl C s0 H0 ex,SimG (Wf X N' sc cl C s0 H0 ex) tg ga) (he:∀ cl C s0 H0 ex,SimE (Wf X N' sc cl C s0 H0 ex) E0 elt me) (ht:∀ cl C s0 H0 ex,SimTs (Wf X N' sc cl C s0 H0 ex) ifs mt)
  (hf:Q5t cap ga) (R1:Rel H1 ρ1 Y) (G1:EnvR H1 ρ1 Γ σ) (src:Src J j w H1 ρ1) (c5:j.length<=sizeLine) (h:Acc X.mg E0 H1 ρ1 P (Z8 ga mt me w (Y5 cap Γ) j Y))
  (k:∀ ys b6 H2 a6 acc vs,Z8 ga mt me w (Y5 cap Γ) j Y=.ok ys b6->Ext H1 ρ1 H2 a6->Rel H2 a6 b6->acc∈a6.hid->H1 acc=zb->H2 acc=zo (.lst vs)->RepL H2 a6 ys vs->Q (.ref acc) H2):Q5h J cap (aG X N' sc tg) (aT X N' sc ifs) (aE X N' sc elt) σ H1 Q:=by
 intro acc I;let W:Nat->Nat->List V->St->Hp->Prop:=fun i m vs b3 H'=>m=j.length - i/\i<=j.length/\vs.length<=i/\∃ ρ' st' ys,Ext H1 ρ1 H' ρ'/\acc∈ρ'.hid/\Rel H' ρ' st'/\EnvR H' ρ' (Y5 cap Γ) b3/\H' acc=zo (.lst vs)/\RepL H' ρ' ys vs /\
  Z8 ga mt me w (Y5 cap Γ) j Y=(Z8 ga mt me w (Y5 cap Γ) (j.drop i) st').bind fun zs a4=>.ok (ys ++ zs) a4
 refine ⟨W,⟨_,rfl,F6 _,O5 _,ρ1.hide acc,Y,[],Ext.hide I,F2,R1.hide I,(G1.cap cap).hide I,J3,rfl,?_⟩,?_⟩
 ·rw [eQ];cases r:Z8 ga mt me w (Y5 cap Γ) j Y with
  | ok zs a4=>rfl
  | exc x a4=>rfl
  | stuck=>rfl
 rintro i m vs b3 H' ⟨hm,hi,c6,ρ',st',ys,x,a1,R',G',ha,ry,O⟩;have q:Acc X.mg E0 H1 ρ1 P ((Z8 ga mt me w (Y5 cap Γ) (j.drop i) st').bind fun zs a4=>.ok (ys ++ zs) a4):=by rw [<- O]; exact h
 refine ⟨ha,?_⟩
 by_cases Z:i < j.length
 ·right
  have hd:j.drop i=j[i] :: j.drop (i + 1):=iR Z;rw [hd,Z8] at q O
  by_cases hw:wOk w st'
  ·rw [bS hw] at q O;refine ⟨src.go H' _ st' x R' hw i Z,by omega,fun y H2 hy=>?_⟩;obtain ⟨sm,c4⟩:=src.yld H' _ st' x R' hw i _ (O2 Z) y H2 hy;cases eg:ga j[i] (Y5 cap Γ) with
   | none=>rw [eg] at q; exact q.elim
   | some a3=>
    rw [eg] at q O;have x2:Ext H' ρ' H2 ρ':=Ext.same sm;have R2:=R'.same sm;intro cl C s0 H0 ex;refine (hg cl C s0 H0 ex).run (Y5 cap Γ) a3 b3 H2 ρ' _ y _ (G'.ext x2) c4 eg fun b4 G3=>?_
    intro cl C s0 H0 ex;have b9:=Acc.later q (x.trans x2);refine (ht cl C s0 H0 ex).run a3 b4 H2 ρ' st' _ _ R2 G3 (Acc.bind (Acc.assoc b9)) fun b c3 H4 a5 e4 x4 R4 G4=>?_
    simp only [e4,Res.bind] at q O;have G0:∀ {a9:Hp} {a2:Tk},EnvR a9 a2 a3 b4->EnvR a9 a2 (Y5 cap Γ) b4:=fun {a9 a2} g=>g.le (by
     rw [<- G3.1];exact (hf Γ _ a3 eg).1.symm) (hf Γ _ a3 eg).2
    have b2:Ext H1 ρ1 H4 a5:=x.trans (x2.trans x4);have b1:acc∈a5.hid:=x4.hidM acc a1;have na:acc∉ρ'.tr:=R'.ap acc a1;have b5:H4 acc=zo (.lst vs):=x4.keep acc _ (sm acc _ ha) na;have b7:RepL H4 a5 ys vs:=ry.ext (x2.trans x4);cases b with
    | false=>
     rw [bT D3] at q O ⊢;exact ⟨_,show j.length - (i + 1) < m by omega,rfl,Z,by omega,a5,c3,ys,b2,b1,R4,G0 G4,b5,b7,O⟩
    | true=>
     rw [bS rfl] at q O ⊢;intro cl C s0 H0 ex;have c0:=Acc.later q b2;refine (he cl C s0 H0 ex).use' R4 G4 (Acc.bind (Acc.assoc c0)) fun z b8 H5 a8 zv e5 x5 R5 G5 r5 h5=>?_
     simp only [e5,Res.bind] at q O;have a7:acc∈a8.hid:=x5.hidM acc b1;have c1:H5 acc=zo (.lst vs):=x5.keep acc _ b5 (R4.ap acc b1);have c2:Ext H1 ρ1 H5 a8:=b2.trans x5;refine ⟨c1,_,show j.length - (i + 1) < m by omega,rfl,Z,by rw [O6]; simp; omega,a8,b8,ys ++ [z],c2.put0 I,a7,R5.rehide a7,(G0 G5).rehide a7,J3,((b7.ext x5).append (RepL.cons r5 RepL.nil)).rehide a7,?_⟩;refine O.trans ?_;cases rr:Z8 ga mt me w (Y5 cap Γ) (j.drop (i + 1)) b8 with
     | ok zs b0=>
      show Res.ok (ys ++ z :: zs) b0=Res.ok ((ys ++ [z]) ++ zs) b0;rw [dJ]; rfl
     | exc x6 b0=>rfl
     | stuck=>rfl
  ·rw [bT hw] at q; exact q.elim
 ·left
  have ei:i=j.length:=by omega
  subst ei;rw [fb,Z8] at q O
  by_cases hw:wOk w st'
  ·rw [bS hw] at q O;refine ⟨src.stop H' _ st' x R' hw,?_⟩;have O:Z8 ga mt me w (Y5 cap Γ) j Y=.ok (ys ++ []) st':=O;rw [cC] at O;exact k ys st' H' ρ' acc vs O x R' a1 I ha ry
  ·rw [bT hw] at q; exact q.elim
theorem Q9k {Γ:Gam} {σ:St} {H:Hp} {ρ:Tk} {st:Q0} {Q:VK} {P:List PV->Q0->Hp->Tk->Prop} (hi:SimI X E tg iter mi) (hg:∀ z C I H0 ex,SimG (Wf X N' sc z C I H0 ex) tg ga) (he:∀ z C I H0 ex,SimE (Wf X N' sc z C I H0 ex) E0 elt me) (ht:∀ z C I H0 ex,SimTs (Wf X N' sc z C I H0 ex) ifs mt)
  (hf:Q5t cap ga) (R:Rel H ρ st) (G:EnvR H ρ Γ σ) (h:Acc X.mg E H ρ P (Z1 cap ga mi mt me Γ st)) (k:∀ ps q H2 j a vs,Z1 cap ga mi mt me Γ st=.ok ps q->Ext H ρ H2 j->Rel H2 j q->a∈j.hid->H a=zb->H2 a=zo (.lst vs)->RepL H2 j ps vs->Q (.ref a) H2):Q5v cap (WI X tg iter) (aG X N' sc tg) (aT X N' sc ifs) (aE X N' sc elt) σ H Q:=by
 refine hi.run Γ σ H ρ st _ _ R G h.bind fun iw a1 H1 ρ1 J eq x1 R1 G1 ok Z src h1=>?_
 refine Qey hg he ht hf R1 G1 src Z (Qp3 (E':=E0) h1) fun ys q H2 j acc vs O x2 R2 hm hn ha ry=>?_
 refine k ys q H2 j acc vs ?_ (x1.trans x2) R2 hm ?_ ha ry
 ·unfold Z1;rw [eq];show noX _=_;rw [O]; rfl
 cases e:H acc with
 | none=>rfl
 | some o=>
  obtain ⟨o',Y⟩:=x1.old acc o e;rw [hn] at Y; cases Y
theorem Quc {N':List Str} {sc:Scope} {tg:aH}:∀ q C j H0 ex,PG (Wf X N' sc q C j H0 ex) tg (aG X N' sc tg):=fun q C j H0 ex pins s σ H v u Q I r h=>Qm2 pins s σ H v u Q I r (h q C j H0 ex)
theorem Qug {N':List Str} {sc:Scope} {e:aH}:∀ q C j H0 ex,PE (Wf X N' sc q C j H0 ex) e (aE X N' sc e):=fun q C j H0 ex pins s σ H Q I h=>h q C j H0 ex pins s I
theorem Qpa {N':List Str} {sc:Scope} {ifs:List aH}:∀ q C j H0 ex,PTs (Wf X N' sc q C j H0 ex) ifs (aT X N' sc ifs):=fun q C j H0 ex pins s σ H Q I h=>by
 obtain ⟨t,a,b⟩:=h q C j H0 ex;exact a pins s σ H Q I b
theorem Wk (cap:List (Option Nat)) (N':List Str) (j:X.calm=yo) (hi:SimI X E tg iter mi) (O:∀ z C q H0 ex,SimG (Wf X N' sc z C q H0 ex) tg ga) (Y:∀ z C q H0 ex,SimE (Wf X N' sc z C q H0 ex) E0 elt me) (ht:∀ z C q H0 ex,SimTs (Wf X N' sc z C q H0 ex) ifs mt)
  (J:Q5t cap ga) (Z:X.N=N:=by rfl) (hE:X.env.scope=scE:=by rfl) (I:compOkC N N' sc scE cap=yo:=by kernel_rfl) (hs:∀ x,bH iter X.env x=pure x:=by intro _; rfl) :
  SimN X E (.ListComp elt [⟨tg,iter,ifs,0⟩] sc pos) (Z1 cap ga mi mt me):=
 ⟨fun Γ σ H ρ st P Q R G h k=>WE.of (Qgq j Qqx Quc Qug Qpa Z hE I hs) (Q9k hi O Y ht J R G h k)⟩
end
inductive SR where
 | nx (Γ:Gam) (st:Q0) | rt (v:PV) (st:Q0) | bk (Γ:Gam) (st:Q0) | ct (Γ:Gam) (st:Q0) | exc (x:Exc) (st:Q0) | stuck
abbrev MS:=Gam->Q0->SR
def Res.sbind {α:Type} (r:Res α) (f:α->Q0->SR):SR:=match r with
 | .ok a st=>f a st
 | .exc x st=>.exc x st
 | .stuck=>.stuck
def AccS (mg:Str->Option aA) (E:XK) (D:Ends) (H:Hp) (ρ:Tk):SR->Prop
 | .nx Γ st=>∀ σ' H' ρ',Ext H ρ H' ρ'->Rel H' ρ' st->EnvR H' ρ' Γ σ'->D.nx σ' H'
 | .bk Γ st=>∀ σ' H' ρ',Ext H ρ H' ρ'->Rel H' ρ' st->EnvR H' ρ' Γ σ'->D.bk σ' H'
 | .ct Γ st=>∀ σ' H' ρ',Ext H ρ H' ρ'->Rel H' ρ' st->EnvR H' ρ' Γ σ'->D.ct σ' H'
 | .rt p st=>∀ v H' ρ',Ext H ρ H' ρ'->Rel H' ρ' st->Rep H' ρ' p v->D.rt v H'
 | .exc x st=>∀ C dv H' ρ',mg x.cls=zo (.ref C)->Ext H ρ H' ρ'->Rel H' ρ' st->XFs H' ρ' x.fs dv->E (.ref C) dv H'
 | .stuck=>False
section
variable {α:Type} {mg:Str->Option aA} {E:XK} {D:Ends} {H H1:Hp} {ρ ρ1:Tk}
theorem AccS.later {r:SR} (h:AccS mg E D H ρ r) (x:Ext H ρ H1 ρ1):AccS mg E D H1 ρ1 r:=by
 cases r with
 | nx Γ st=>exact fun j H' ρ' q=>h j H' ρ' (x.trans q)
 | bk Γ st=>exact fun j H' ρ' q=>h j H' ρ' (x.trans q)
 | ct Γ st=>exact fun j H' ρ' q=>h j H' ρ' (x.trans q)
 | rt p st=>exact fun v H' ρ' q=>h v H' ρ' (x.trans q)
 | exc y st=>exact fun C z H' ρ' m q=>h C z H' ρ' m (x.trans q)
 | stuck=>exact h
theorem AccS.bind {r:Res α} {f:α->Q0->SR} (h:AccS mg E D H ρ (r.sbind f)):Acc mg E H ρ (fun a j H1 ρ1=>AccS mg E D H1 ρ1 (f a j)) r:=by
 cases r with
 | ok a st=>exact fun H' ρ' q z=>AccS.later (show AccS mg E D H ρ (f a st) from h) q
 | exc e st=>exact h
 | stuck=>exact h
end
theorem Res.sassoc {α β:Type} (r:Res α) (f:α->Q0->Res β) (g:β->Q0->SR):(r.bind f).sbind g=r.sbind fun a st=>(f a st).sbind g:=by cases r <;> rfl
theorem AccS.assoc {α β:Type} {mg:Str->Option aA} {E:XK} {D:Ends} {H:Hp} {ρ:Tk} {r:Res α} {f:α->Q0->Res β} {g:β->Q0->SR} (h:AccS mg E D H ρ ((r.bind f).sbind g)):AccS mg E D H ρ (r.sbind fun a st=>(f a st).sbind g):=by
 rw [<- Res.sassoc]; exact h
structure SimS (X:Cx) (E:XK) (s:aM) (m:MS):Prop where
 run:∀ (Γ:Gam) (σ:St) (H:Hp) (ρ:Tk) (st:Q0) (D:Ends),Rel H ρ st->EnvR H ρ Γ σ->AccS X.mg E D H ρ (m Γ st)->WS X s D σ H
structure SimB (X:Cx) (E:XK) (ss:List aM) (m:MS):Prop where
 run:∀ (Γ:Gam) (σ:St) (H:Hp) (ρ:Tk) (st:Q0) (D:Ends),Rel H ρ st->EnvR H ρ Γ σ->AccS X.mg E D H ρ (m Γ st)->WB X ss D σ H
section
variable {X:Cx} {E:XK} {pos:Pos} {e:aH} {m:ME}
def Jk:MS:=fun Γ st=>.nx Γ st
def Qf (m1 m2:MS):MS:=fun Γ st=>match m1 Γ st with
 | .nx Γ1 st1=>m2 Γ1 st1
 | r=>r
theorem J8:SimB X E [] Jk:=⟨fun Γ σ H ρ st D R G h=>WB.of Qkq (h σ H ρ (Ext.refl _ _) R G)⟩
theorem Q7 {s:aM} {rest:List aM} {m1 m2:MS} (h1:SimS X E s m1) (h2:SimB X E rest m2):SimB X E (s :: rest) (Qf m1 m2):=
 ⟨fun Γ σ H ρ st D R G h=>WB.of (Qg9 Qu9 Q2c) (h1.run Γ σ H ρ st _ R G (by
  unfold Qf at h;cases r:m1 Γ st with
  | nx q j=>rw [r] at h; exact fun z H' ρ' J I O=>h2.run q z H' ρ' j D I O (AccS.later h J)
  | bk q j=>rw [r] at h; exact h
  | ct q j=>rw [r] at h; exact h
  | rt p j=>rw [r] at h; exact h
  | exc x j=>rw [r] at h; exact h
  | stuck=>rw [r] at h; exact h))⟩
theorem Qe {s:aM} {m1:MS} (h1:SimS X E s m1):SimB X E [s] m1:=⟨fun Γ σ H ρ st D R G h=>WB.of (Qkp Qu9) (h1.run Γ σ H ρ st D R G h)⟩
def Qaw:MS:=fun Γ st=>.bk Γ st
theorem Qfj:SimS X E (.Break pos) Qaw:=⟨fun Γ σ H ρ st D R G h=>WS.of Qgc (h σ H ρ (Ext.refl _ _) R G)⟩
def Kt (m:ME):MS:=fun Γ st=>(m Γ st).sbind fun _ st1=>.nx Γ st1
theorem X0 (q:SimE X E e m) (hs:swapsWith e zb pos.line X.env=pure yl:=by rfl):SimS X E (.Expr e pos) (Kt m):=
 ⟨fun Γ σ H ρ st D R G h=>WS.of (Qkr Ja hs) (q.use R G h.bind fun p z H1 ρ1 v x1 j I J h1=>h1 σ H1 ρ1 (Ext.refl _ _) j I)⟩
def Jd (m:ME):MS:=fun Γ st=>(m Γ st).sbind fun p st1=>.rt p st1
theorem Qr (q:SimE X E e m):SimS X E (.Return (zo e) pos) (Jd m):=
 ⟨fun Γ σ H ρ st D R G h=>WS.of (Qqu Ja) (q.use R G h.bind fun p z H1 ρ1 v x1 j J I h1=>h1 v H1 ρ1 (Ext.refl _ _) j I)⟩
def J2 (i:Nat) (m:ME):MS:=fun Γ st=>(m Γ st).sbind fun p st1=>.nx (Γ.set i (zo p)) st1
theorem Qt (i:Nat) {x:Str} {pos':Pos} (I:X.N.Nodup) (J:SimE X E e m) (hi:X.N[i]?=zo x:=by rfl) (j:Loc X.env.scope x:=by first | exact Or.inl rfl | exact Or.inr rfl) (hs:swapsWith e (zo (.Name x pos')) pos.line X.env=pure yl:=by rfl) (z:X.fn x=yo\/X.env.scope.names.lookup x=zo .local:=by first | exact .inl rfl | exact .inr rfl) :
  SimS X E (.Assign [.Name x pos'] e pos) (J2 i m):=
 ⟨fun Γ σ H ρ st D R G h=>WS.of (Qqt I hi j Ja hs z) (J.use R G h.bind fun p O H1 ρ1 v x1 q Y Z h1=>h1 _ H1 ρ1 (Ext.refl _ _) q (Y.set Z i))⟩
section
variable {tg iter elt:aH} {ifs:List aH} {N N':List Str} {sc scE:Scope} {ga:GA} {mi:MI} {mt:MT} {me:ME}
theorem Q7u (cap:List (Option Nat)) (N':List Str) (i:Nat) {x:Str} {px cpos:Pos} (I:X.N.Nodup) (j:X.calm=yo) (hi:SimI X E tg iter mi) (hg:∀ q C z H0 ex,SimG (Wf X N' sc q C z H0 ex) tg ga) (he:∀ q C z H0 ex,SimE (Wf X N' sc q C z H0 ex) E0 elt me) (ht:∀ q C z H0 ex,SimTs (Wf X N' sc q C z H0 ex) ifs mt)
  (hf:Q5t cap ga) (Y:X.N[i]?=zo x:=by rfl) (hx:Loc X.env.scope x:=by first | exact Or.inl rfl | exact Or.inr rfl) (J:swapsWith (.ListComp elt [⟨tg,iter,ifs,0⟩] sc cpos) (zo (.Name x px)) pos.line X.env=pure yo:=by rfl)
  (hN:X.N=N:=by rfl) (Z:X.env.scope=scE:=by rfl) (hc:compOkC N N' sc scE cap=yo:=by kernel_rfl) (hs:∀ x,bH iter X.env x=pure x:=by intro _; rfl) (O:X.fn x=yo\/X.env.scope.names.lookup x=zo .local:=by first | exact .inl rfl | exact .inr rfl) :
  SimS X E (.Assign [.Name x px] (.ListComp elt [⟨tg,iter,ifs,0⟩] sc cpos) pos) (J2 i (Uy (Z1 cap ga mi mt me))):=
 ⟨fun Γ σ H ρ st D R G h=>WS.of (Qgb I Y hx j Qqx Quc Qug Qpa J hN Z hc hs O) (Q9k hi hg he ht hf R G (AccS.bind (by unfold J2 Uy at h; exact AccS.assoc h)) fun ps a1 H1 ρ1 a vs eq x R1 hm hn ha r=>by
  obtain ⟨x2,R2,r2⟩:=Qcb R x R1 hm hn ha r;simp only [J2,Uy,eq,Res.bind,Res.sbind] at h;exact h _ _ _ x2 R2 ((G.ext x2).set r2 i))⟩
end
def Qn0 (ga:GA) (m:ME):MS:=fun Γ st=>(m Γ st).sbind fun p st1=>match ga p Γ with
 | some Γ1=>.nx Γ1 st1
 | none=>.stuck
theorem Qq8 {tg:aH} {ga:GA} (Y:SimE X E e m) (O:SimG X tg ga) (hs:swapsWithSole [tg] e pos.line X.env=pure yl:=by rfl) (I:swappedStores [tg] e X.env=pure zb:=by rfl) (h1:(av [tg] X.env).map (·.2)=[assign tg X.env]:=by rfl):SimS X E (.Assign [tg] e pos) (Qn0 ga m):=
 ⟨fun Γ σ H ρ st D R G h=>WS.of (Qgd Ja Qm2 hs I h1) (Y.use R G h.bind fun p Z H1 ρ1 v x1 J G1 r1 h1=>by
  cases q:ga p Γ with
  | none=>rw [q] at h1; exact h1.elim
  | some z=>
   rw [q] at h1;exact O.run Γ z σ H1 ρ1 p v _ G1 r1 q fun j G'=>h1 j H1 ρ1 (Ext.refl _ _) J G')⟩
def Ks (st:Q0) (o i p:PV):Option Q0:=match o,i with
 | .ref k,.int j=>match st[k]? with
  | some (.lst xs)=>(ixN xs.length j).map fun n=>st.set k (.lst (xs.set n p))
  | _=>zb
 | _,_=>zb
def Xk (mo mi m:ME):MS:=fun Γ st=>(m Γ st).sbind fun p st1=>(mo Γ st1).sbind fun o st2=>(mi Γ st2).sbind fun i st3=>match Ks st3 o i p with
 | some st4=>.nx Γ st4
 | none=>.stuck
theorem Qk4 {H:Hp} {ρ:Tk} {st st':Q0} {o i p:PV} {x y z:V} (R:Rel H ρ st) (ro:Rep H ρ o x) (Z:Rep H ρ i y) (rp:Rep H ρ p z) (e:Ks st o i p=zo st') :
  ∃ a vs k j,x=.ref a/\y=.int k/\H a=zo (.lst vs)/\ixN vs.length k=zo j/\Ext H ρ (upd H a (.lst (vs.set j z))) ρ/\Rel (upd H a (.lst (vs.set j z))) ρ st':=by
 unfold Ks at e
 split at e
 ·rename_i k j
  split at e
  ·rename_i xs hs;cases I:ixN xs.length j with
   | none=>rw [I] at e; cases e
   | some n=>
    rw [I] at e;have e:st.set k (.lst (xs.set n p))=st':=bj e;subst e;obtain ⟨a,J,rfl⟩:=ro;cases Z;obtain ⟨b,vs,O,q,Y⟩:=R.lst hs;rw [J] at O; cases O;exact ⟨a,vs,j,n,rfl,rfl,q,by rw [<- Y.length]; exact I,Ext.put (E3 J) q,R.put J q (Y.set rp n)⟩
  ·cases e
 ·cases e
theorem Q1t {o i:aH} {mo mi:ME} {tpos:Pos} (he:SimE X E e m) (ho:SimE X E o mo) (hi:SimE X E i mi)
  (ha:∀ v,assign (.Subscript o i tpos) X.env v=(do
   let q <- ar [v] (aO o X.env)
   let I <- ar [v,q] (aO i X.env)
   standAt tpos
   ar [v,q,I] (setItem q I v)
   release [v,q,I] []):=by intro _; rfl)
  (hs:swapsWithSole [.Subscript o i tpos] e pos.line X.env=pure yl:=by rfl) (hw:swappedStores [.Subscript o i tpos] e X.env=pure zb:=by rfl) (h1:(av [.Subscript o i tpos] X.env).map (·.2)=[assign (.Subscript o i tpos) X.env]:=by rfl) :
  SimS X E (.Assign [.Subscript o i tpos] e pos) (Xk mo mi m):=
 ⟨fun Γ σ H ρ st D R G h=>WS.of (Qgd Ja (Qr1 Ja Ja Qft ha) hs hw h1) (he.use R G h.bind fun p a2 H1 ρ1 z x1 R1 G1 r1 h1=>ho.use R1 G1 h1.bind fun q a4 H2 a1 x x2 R2 G2 r2 h2=>hi.use R2 G2 h2.bind fun I Y H3 O y x3 R3 G3 r3 J=>by
  cases es:Ks Y q I p with
  | none=>rw [es] at J; exact J.elim
  | some a3=>
   rw [es] at J;obtain ⟨a,vs,k,j,rfl,rfl,f1,f2,Z,R4⟩:=Qk4 R3 (r2.ext x3) r3 (r1.ext (x2.trans x3)) es;exact ⟨a,vs,k,j,rfl,rfl,f1,f2,J σ _ O Z R4 (G3.ext Z)⟩)⟩
def Zg (mt:MT) (ma mb:MS):MS:=fun Γ st=>(mt Γ st).sbind fun b st1=>if b=yo then ma Γ st1 else mb Γ st1
theorem Jt {c:aH} {a b:List aM} {mt:MT} {ma mb:MS} (I:SimT X E c mt) (J:SimB X E a ma) (O:SimB X E b mb):SimS X E (.If c a b pos) (Zg mt ma mb):=
 ⟨fun Γ σ H ρ st D R G h=>WS.of (Qua Q8e Q2c Q2c) (I.use R G h.bind fun k j H1 ρ1 x1 q z h1=>by
  cases k with
  | true=>rw [bS rfl] at h1 ⊢; exact J.run Γ σ H1 ρ1 j D q z h1
  | false=>rw [bT D3] at h1 ⊢; exact O.run Γ σ H1 ρ1 j D q z h1)⟩
open Classical in
def Ju (ga:GA) (body:MS) (w:Wt):List PV->Gam->Q0->SR
 | [],Γ,st=>if wOk w st then .nx Γ st else .stuck
 | x :: xs,Γ,st=>if wOk w st then (match ga x Γ with
  | none=>.stuck
  | some Γ1=>match body Γ1 st with
   | .nx Γ2 st2=>Ju ga body w xs Γ2 st2
   | .ct Γ2 st2=>Ju ga body w xs Γ2 st2
   | .bk Γ2 st2=>.nx Γ2 st2
   | .rt v st2=>.rt v st2
   | .exc x st2=>.exc x st2
   | .stuck=>.stuck) else .stuck
def jr (ga:GA) (mi:MI) (body:MS):MS:=fun Γ st=>(mi Γ st).sbind fun iw st1=>Ju ga body iw.2 iw.1 Γ st1
theorem Wz {tg iter:aH} {bd:List aM} {ga:GA} {mi:MI} {body:MS} (hp:PassesOwn (aI X.prog X.w) X.A X.env X.xe) (hc:X.calm=yo) (hi:SimI X E tg iter mi) (hg:SimG X tg ga) (hb:SimB X E bd body)
  (hs:∀ x,bH iter X.env x=pure x:=by intro _; rfl):SimS X E (.For tg iter bd [] pos) (jr ga mi body):=
 ⟨fun Γ σ H ρ st D R G h=>WS.of (Qqv hp hc Qqx Qm2 Q2c hs) (hi.run Γ σ H ρ st _ _ R G h.bind fun I a7 H1 ρ1 J eq x1 R1 G1 ok hl src h1=>by
  let W:Nat->Nat->St->Hp->Prop:=fun i m Y H'=>m=I.1.length - i/\i<=I.1.length/\∃ a1 ρ' st',Ext H1 ρ1 H' ρ'/\Rel H' ρ' st'/\EnvR H' ρ' a1 Y/\AccS X.mg E D H' ρ' (Ju ga body I.2 (I.1.drop i) a1 st')
  refine ⟨W,⟨_,rfl,F6 _,Γ,ρ1,a7,Ext.refl _ _,R1,G1,by rw [eQ]; exact h1⟩,?_⟩;rintro i m Y H' ⟨hm,a9,a1,ρ',st',x,R',G',Z⟩
  by_cases a3:i < I.1.length
  ·right
   have hd:I.1.drop i=I.1[i] :: I.1.drop (i + 1):=iR a3;rw [hd,Ju] at Z
   by_cases hw:wOk I.2 st'
   ·rw [bS hw] at Z;refine ⟨src.go H' ρ' st' x R' hw i a3,fun a6 H2=>W (i + 1) (I.1.length - (i + 1)) a6 H2,fun a6 H2 z=>⟨_,by omega,z⟩,fun y H2 hy=>?_⟩
    obtain ⟨sm,ry⟩:=src.yld H' ρ' st' x R' hw i _ (O2 a3) y H2 hy;have x2:Ext H' ρ' H2 ρ':=Ext.same sm;cases eg:ga I.1[i] a1 with
    | none=>rw [eg] at Z; exact Z.elim
    | some a5=>
     rw [eg] at Z;refine hg.run a1 a5 Y H2 ρ' _ y _ (G'.ext x2) ry eg fun a8 G3=>?_
     have j:=AccS.later Z x2;simp only at j;refine hb.run a5 a8 H2 ρ' st' _ (R'.same sm) G3 ?_;have again:∀ {O:Gam} {q:Q0},AccS X.mg E D H2 ρ' (Ju ga body I.2 (I.1.drop (i + 1)) O q)->∀ Y a4 a2,Ext H2 ρ' a4 a2->Rel a4 a2 q->EnvR a4 a2 O Y->W (i + 1) (I.1.length - (i + 1)) Y a4:=fun {O q} a σ4 H4 ρ4 x4 R4 G4=>
      ⟨rfl,a3,O,ρ4,q,x.trans (x2.trans x4),R4,G4,AccS.later a x4⟩
     cases rb:body a5 st' with
     | nx O q=>rw [rb] at j; exact again j
     | ct O q=>rw [rb] at j; exact again j
     | bk O q=>rw [rb] at j; exact j
     | rt v q=>rw [rb] at j; exact j
     | exc y q=>rw [rb] at j; exact j
     | stuck=>rw [rb] at j; exact j.elim
   ·rw [bT hw] at Z; exact Z.elim
  ·left
   have ei:i=I.1.length:=by omega
   subst ei;rw [fb,Ju] at Z
   by_cases hw:wOk I.2 st'
   ·rw [bS hw] at Z;exact ⟨src.stop H' ρ' st' x R' hw,Z Y H' ρ' (Ext.refl _ _) R' G'⟩
   ·rw [bT hw] at Z; exact Z.elim)⟩
def Jb (mt:MT) (body:MS):Nat->Gam->Q0->SR
 | 0,_,_=>.stuck
 | n + 1, Γ, st => (mt Γ st).sbind fun b st1 => if b = yo then (match body Γ st1 with
   | .nx Γ2 st2=>Jb mt body n Γ2 st2
   | .ct Γ2 st2=>Jb mt body n Γ2 st2
   | .bk Γ2 st2=>.nx Γ2 st2
   | .rt v st2=>.rt v st2
   | .exc x st2=>.exc x st2
   | .stuck=>.stuck) else .nx Γ st1
theorem Q1s (n:Nat) {c:aH} {bd:List aM} {mt:MT} {body:MS} (hp:PassesOwn (aI X.prog X.w) X.A X.env X.xe) (hc:SimT X E c mt) (hb:SimB X E bd body):SimS X E (.While c bd [] pos) (Jb mt body n):=
 ⟨fun Γ σ H ρ st D R G h=>WS.of (Qga hp Q8e Q2c) (by
  let W:Nat->St->Hp->Prop:=fun m q H'=>∃ O ρ' st',Rel H' ρ' st'/\EnvR H' ρ' O q/\AccS X.mg E D H' ρ' (Jb mt body m O st')
  refine ⟨W,⟨n,Γ,ρ,st,R,G,h⟩,?_⟩;rintro m q H' ⟨O,ρ',st',R',G',hA⟩;cases m with
  | zero=>exact hA.elim
  | succ m=>
   rw [Jb] at hA;refine hc.use R' G' hA.bind fun b a1 H1 ρ1 x1 R1 G1 h1=>?_
   cases b with
   | false=>rw [bT D3] at h1 ⊢; exact h1 q H1 ρ1 (Ext.refl _ _) R1 G1
   | true=>
    rw [bS rfl] at h1 ⊢;refine ⟨fun a2 H2=>W m a2 H2,fun a2 H2 z=>⟨m,dM _,z⟩,hb.run O q H1 ρ1 a1 _ R1 G1 ?_⟩
    have again:∀ {I:Gam} {j:Q0},AccS X.mg E D H1 ρ1 (Jb mt body m I j)->∀ q Y J,Ext H1 ρ1 Y J->Rel Y J j->EnvR Y J I q->W m q Y:=fun {I j} a σ4 H4 ρ4 x4 R4 G4=>⟨I,ρ4,j,R4,G4,AccS.later a x4⟩
    cases Z:body O a1 with
    | nx I j=>rw [Z] at h1; exact again h1
    | ct I j=>rw [Z] at h1; exact again h1
    | bk I j=>rw [Z] at h1; exact h1
    | rt v j=>rw [Z] at h1; exact h1
    | exc y j=>rw [Z] at h1; exact h1
    | stuck=>rw [Z] at h1; exact h1.elim)⟩
def Q6m (x:Str) (m:ME):MS:=fun Γ st=>(m Γ st).sbind fun _ st1=>.exc ⟨x,zb⟩ st1
theorem Q7t {x:Str} {C:aB} {np cpos:Pos} (j:X.calm=yo) (J:Qbv X E) (Y:Gl X x) (hm:X.mg x=zo (.ref C)) (q:cL X.K C Q9v "ValueError.__new__" = yo) (Z:SimE X E e m)
  (I:(x == ("__debug__" : Str))=yl:=by decide) (z:aN [e] X.env=[(yl,aO e X.env)]:=by rfl):SimS X E (.Raise (zo (.Call (.Name x np) [e] [] cpos)) zb pos) (Q6m x m):=
 ⟨fun Γ σ H ρ st D R G h=>WS.of (Qdw j J Y hm q (Wq Ja Xg (by rw [z]; rfl)) I z) (Z.use R G h.bind fun p a1 H1 ρ1 v x1 O G1 r1 h1=>⟨E1 (show 1<=lim by decide) Q6s,h1 C zb H1 ρ1 hm (Ext.refl _ _) O rfl⟩)⟩
end
def WM (X:Cx) (id:String):V->List V->Hp->VK->Prop:=fun x xs H Q=>∀ (pins:List (aB × Obj)) (s:aC) (σ:St) (v:aA) (us:List aA),Inv X pins σ H s->RelV x v->Vals xs us->aF (aI X.prog X.w) X.A (call (.builtin id) (v :: us)) (EP X pins σ Q) X.xe s
theorem Quw {X:Cx} {id:String}:MtR X id (WM X id):=fun pins s σ _ _ _ v j _ I r rs h=>h pins s σ v j I r rs
theorem WM.of {X:Cx} {id:String} {r:V->List V->Hp->VK->Prop} {x:V} {xs:List V} {H:Hp} {Q:VK} (h:MtR X id r) (q:r x xs H Q):WM X id x xs H Q:=fun pins s σ v j I J z=>h pins s σ H x xs v j Q I J z q
abbrev MF:=Q0->PV->List PV->Res PV
structure MtS (X:Cx) (E:XK) (id:String) (o:MF):Prop where
 run:∀ (H:Hp) (ρ:Tk) (st:Q0) (p:PV) (ps:List PV) (x:V) (xs:List V) (Q:VK),Rel H ρ st->Rep H ρ p x->RepL H ρ ps xs->Acc X.mg E H ρ (QV Q) (o st p ps)->WM X id x xs H Q
section
variable {X:Cx} {E:XK} {o e:aH} {es:List aH} {mo:ME} {mr:Gam->Q0->Res (List PV)} {name:Str} {apos cpos:Pos} {T id:String} {f:MF}
def mBM (f:MF) (mo:ME) (mr:Gam->Q0->Res (List PV)):ME:=fun Γ st=>(mo Γ st).bind fun p st1=>match Wu st1 p with
 | some _=>(mr Γ st1).bind fun ps st2=>f st2 p ps
 | none=>.stuck
theorem Qty (pa:PlainAttrs "list") (slot:Slot "list" name id) (Y:typeOf (.builtin id)=pure (.type "method_descriptor")) (hm:MtS X E id f) (ho:SimE X E o mo) (ha:SimA X E (e :: es) mr)
  (q:bD o name X.env (aO o X.env)=aO o X.env:=by rfl)
  (I:((aY cpos (aN (e :: es) X.env)).all (fun x=>!x.1) && (backToKw cpos (keywordEach [] X.env)).all (fun x=>x.1.isSome)
   && decide ((e :: es).length + ([]:List Keyword).length + (if ([]:List Keyword).isEmpty then 0 else 1) < 30))=yo:=by rfl)
  (z:(apos.endLine == cpos.line)=yo:=by rfl) (hs:aN (e :: es) X.env=(yl,aO e X.env) :: aN es X.env:=by rfl) (j:(aY cpos (aN es X.env)).any (·.1)=yl:=by rfl) :
  SimE X E (.Call (.Attribute o name apos) (e :: es) [] cpos) (mBM f mo mr):=
 ⟨fun Γ σ H ρ st Q R G h=>WE.of (Qgs pa slot Y Quw Ja Q0s q I z hs j) (ho.use R G h.bind fun p a1 H1 ρ1 v x1 R1 G1 Z h1=>by
  split at h1
  ·rename_i ys el;obtain ⟨a,vs,rfl,hr,_⟩:=Yp R1 Z el;exact ⟨.inl ⟨rfl,vs,.inl hr⟩,ha.use R1 G1 h1.bind fun ps O H2 J us x2 R2 G2 r2 h2=>hm.run H2 J O p ps _ us Q R2 (Z.ext x2) r2 h2⟩
  ·exact h1.elim)⟩
theorem Qqg (pa:PlainAttrs "list") (slot:Slot "list" name id) (z:typeOf (.builtin id)=pure (.type "method_descriptor")) (hm:MtS X E id f) (Y:SimE X E o mo)
  (j:bD o name X.env (aO o X.env)=aO o X.env:=by rfl) (q:(apos.endLine == cpos.line)=yo:=by rfl):SimE X E (.Call (.Attribute o name apos) [] [] cpos) (mBM f mo Q9):=
 ⟨fun Γ σ H ρ st Q R G h=>WE.of (Qr8 pa slot z Quw Ja j q) (Y.use R G h.bind fun p I H1 ρ1 v x1 J G1 O h1=>by
  split at h1
  ·rename_i ys Z;obtain ⟨a,vs,rfl,hr,_⟩:=Yp J O Z;exact ⟨.inl ⟨rfl,vs,.inl hr⟩,hm.run H1 ρ1 I p [] _ [] Q J O rfl h1⟩
  ·exact h1.elim)⟩
def chg (st:Q0) (p:PV) (g:List PV->Option (PV × List PV)):Res PV:=match p with
 | .ref i=>match st[i]? with
  | some (.lst xs)=>match g xs with
   | some (r,ys)=>.ok r (st.set i (.lst ys))
   | none=>.stuck
  | _=>.stuck
 | _=>.stuck
theorem Qd3 {mg:Str->Option aA} {H:Hp} {ρ:Tk} {st:Q0} {p:PV} {x:V} {g:List PV->Option (PV × List PV)} {Q:VK} (R:Rel H ρ st) (J:Rep H ρ p x) (h:Acc mg E H ρ (QV Q) (chg st p g)) :
  ∃ a xs vs r ys,x=.ref a/\H a=zo (.lst vs)/\RepL H ρ xs vs/\g xs=zo (r,ys)/\∀ j v,RepL H ρ ys j->Rep H ρ r v->Q v (upd H a (.lst j)):=by
 unfold chg at h
 split at h
 ·rename_i i
  split at h
  ·rename_i xs hs
   split at h
   ·rename_i r ys O;obtain ⟨a,z,rfl⟩:=J;obtain ⟨b,vs,I,q,Y⟩:=R.lst hs;rw [z] at I; cases I;refine ⟨a,xs,vs,r,ys,rfl,q,Y,O,fun j v ru Z=>?_⟩;have x:=Ext.put (o':=.lst j) (E3 z) q;exact h _ ρ x (R.put z q ru) v (Z.ext x)
   ·exact h.elim
  ·exact h.elim
 ·exact h.elim
def Zj:MF:=fun st p ps=>match ps with
 | [y]=>chg st p fun xs=>if xs.length < lim then zo (.non,xs ++ [y]) else zb
 | _=>.stuck
theorem Qed:MtS X E "list.append" Zj:=⟨fun H ρ st p ps x xs Q R z rs h=>by
 unfold Zj at h
 split at h
 ·obtain ⟨v,rfl,r⟩:=Yd rs;obtain ⟨a,ys,vs,O,zs,rfl,I,q,j,k⟩:=Qd3 R z h
  split at j
  ·rename_i J;cases j;exact WM.of Qec ⟨a,vs,v,rfl,rfl,I,by rw [<- q.length]; exact O9 J Q6s,k _ _ (q.append (RepL.cons r RepL.nil)) rfl⟩
  ·cases j
 ·exact h.elim⟩
def Qtb:MF:=fun st p ps=>match ps with
 | []=>chg st p fun xs=>zo (.non,xs.reverse)
 | _=>.stuck
def yq:MF:=fun st p ps=>match ps with
 | []=>chg st p fun _=>zo (.non,[])
 | _=>.stuck
theorem Qhf:MtS X E "list.clear" yq:=⟨fun H ρ st p ps x xs Q R j rs h=>by
 unfold yq at h
 split at h
 ·cases rs;obtain ⟨a,ys,vs,J,zs,rfl,q,I,z,k⟩:=Qd3 R j h;cases z;exact WM.of Qhd ⟨a,vs,rfl,rfl,q,k _ _ rfl rfl⟩
 ·exact h.elim⟩
theorem j8 (I:SimE X E o mo) (J:SimA X E [e] mr) (q:bD o "append" X.env (aO o X.env)=aO o X.env:=by rfl)
  (z:((aY cpos (aN [e] X.env)).all (fun x=>!x.1) && (backToKw cpos (keywordEach [] X.env)).all (fun x=>x.1.isSome) && decide ([e].length + ([]:List Keyword).length + (if ([]:List Keyword).isEmpty then 0 else 1) < 30))=yo:=by rfl)
  (j:(apos.endLine == cpos.line)=yo:=by rfl) (hs:aN [e] X.env=(yl,aO e X.env) :: aN [] X.env:=by rfl):SimE X E (.Call (.Attribute o "append" apos) [e] [] cpos) (mBM Zj mo mr):=
 Qty iS PySem.F.slot_list_append PySem.F.type_list_append Qed I J q z j hs
end
section
mutual
def fz (n:Nat) (st:Q0):Nat->PV->Option PV
 | 0,_=>zb
 | _ + 1,.non=>zo .non
 | _ + 1,.bl b=>zo (.bl b)
 | _ + 1,.int i=>zo (.int i)
 | _ + 1,.str x=>zo (.str x)
 | k + 1,.tup xs=>(fzL n st k xs).map .tup
 | k + 1,.lst xs=>(fzL n st k xs).map .lst
 | k + 1,.fro xs=>(fzL n st k xs).map .fro
 | _ + 1,.dic=>zo .dic
 | k + 1,.ref i=>if i < n then zo (.ref i) else match st[i]? with
  | some (.lst xs)=>(fzL n st k xs).map .lst
  | _=>zb
def fzL (n:Nat) (st:Q0):Nat->List PV->Option (List PV)
 | _,[]=>zo []
 | k,x :: xs=>(fz n st k x).bind fun y=>(fzL n st k xs).map (y :: ·)
end
theorem Qcy {n:Nat} {st:Q0}:∀ {m k:Nat} {p:PV},good m p=yo->m < k->fz n st k p=zo p:=by
 intro m
 induction m with
 | zero=>
  intro k p g J;obtain ⟨k,rfl⟩:∃ j,k=j + 1:=⟨k - 1,by omega⟩;cases p with
  | tup _=>cases g
  | lst _=>cases g
  | fro _=>cases g
  | ref _=>cases g
  | dic=>cases g
  | _=>rw [fz]
 | succ m I=>
  intro k p g J;obtain ⟨k,rfl⟩:∃ j,k=j + 1:=⟨k - 1,by omega⟩;have z:∀ xs:List PV,xs.all (good m)=yo->fzL n st k xs=zo xs:=by
   intro xs
   induction xs with
   | nil=>intro _; rw [fzL]
   | cons x xs q=>
    intro g;rw [cI,E6] at g;rw [fzL,I g.1 (by omega),q g.2]; rfl
  cases p with
  | tup xs=>rw [fz,z xs g]; rfl
  | lst xs=>rw [fz,z xs g]; rfl
  | fro xs=>rw [fz,z xs g]; rfl
  | ref _=>cases g
  | dic=>cases g
  | _=>rw [fz]
section
variable {H:Hp} {ρ:Tk} {st:Q0} {tr0 rest hs:List aB}
theorem Qig (R:Rel H ρ st) (ht:ρ.tr=tr0 ++ rest) (hh:∀ a,a∈hs->a∈ρ.hid):∀ (k:Nat) {p p':PV} {v:V},Rep H ρ p v->fz tr0.length st k p=zo p'->Rep H ⟨tr0,hs⟩ p' v:=by
 have I:∀ a,a∉ρ->a∉(⟨tr0,hs⟩:Tk):=fun a n z=>by
  rcases z with z | z
  ·exact n (.inl (by rw [ht]; exact G6 _ z))
  ·exact n (.inr (hh a z))
 intro k
 induction k with
 | zero=>intro p p' v r e; rw [fz] at e; cases e
 | succ k ih=>
  have hL:∀ {ps q:List PV} {vs:List V},RepL H ρ ps vs->fzL tr0.length st k ps=zo q->RepL H ⟨tr0,hs⟩ q vs:=by
   intro ps
   induction ps with
   | nil=>intro q vs r e; rw [fzL] at e; cases e; exact r
   | cons x xs a2=>
    intro q vs r e;obtain ⟨v,t,rfl,r1,r2⟩:=r;rw [fzL] at e;cases e1:fz tr0.length st k x with
    | none=>rw [e1] at e; cases e
    | some y=>
     rw [e1] at e;have e:(fzL tr0.length st k xs).map (y :: ·)=zo q:=e;cases e2:fzL tr0.length st k xs with
     | none=>rw [e2] at e; cases e
     | some ys=>
      rw [e2] at e;cases e;exact ⟨v,t,rfl,ih r1 e1,a2 r2 e2⟩
  intro p p' v r e;cases p with
  | non=>rw [fz] at e; cases e; exact r
  | bl b=>rw [fz] at e; cases e; exact r
  | int i=>rw [fz] at e; cases e; exact r
  | str x=>rw [fz] at e; cases e; exact r
  | tup xs=>
   rw [fz] at e;obtain ⟨a,vs,e1,J,O,Z⟩:=r;cases e2:fzL tr0.length st k xs with
   | none=>rw [e2] at e; cases e
   | some ys=>rw [e2] at e; cases e; exact ⟨a,vs,e1,J,I a O,hL Z e2⟩
  | lst xs=>
   rw [fz] at e;obtain ⟨a,vs,e1,J,O,Z⟩:=r;cases e2:fzL tr0.length st k xs with
   | none=>rw [e2] at e; cases e
   | some ys=>rw [e2] at e; cases e; exact ⟨a,vs,e1,J,I a O,hL Z e2⟩
  | fro xs=>
   rw [fz] at e;obtain ⟨a,vs,e1,J,O,Z⟩:=r;cases e2:fzL tr0.length st k xs with
   | none=>rw [e2] at e; cases e
   | some ys=>rw [e2] at e; cases e; exact ⟨a,vs,e1,J,I a O,hL Z e2⟩
  | dic=>
   rw [fz] at e;cases e;obtain ⟨a,e1,J,O⟩:=r;exact ⟨a,e1,J,I a O⟩
  | ref i=>
   rw [fz] at e;obtain ⟨a,Y,rfl⟩:=r
   by_cases hi:i < tr0.length
   ·rw [bS hi] at e;cases e;rw [ht,O7 hi] at Y;exact ⟨a,Y,rfl⟩
   ·rw [bT hi] at e
    split at e
    ·rename_i xs a1;obtain ⟨b,vs,f1,f2,f3⟩:=R.lst a1;rw [Y] at f1; cases f1;cases e2:fzL tr0.length st k xs with
     | none=>rw [e2] at e; cases e
     | some ys=>
      rw [e2] at e; cases e;refine ⟨a,vs,rfl,f2,fun z=>?_,hL f3 e2⟩;rcases z with z | z
      ·have z:a∈tr0:=z;obtain ⟨j,hj,ej⟩:=F8 z;have g1:ρ.tr[j]?=zo a:=by rw [ht,O7 hj,O2 hj,ej]
       have l1:=O0.mp g1;have l2:=O0.mp Y;have:=Q4y R.nd l1.1 l2.1 (l1.2.trans l2.2.symm);omega
      ·exact R.ap a (hh a z) (E3 Y)
    ·cases e
mutual
def bel (n:Nat):PV->Prop
 | .tup xs=>belL n xs
 | .lst xs=>belL n xs
 | .fro xs=>belL n xs
 | .ref i=>i < n
 | _=>True
def belL (n:Nat):List PV->Prop
 | []=>True
 | x :: xs=>bel n x/\belL n xs
end
mutual
theorem Rep.bel:∀ {p:PV} {v:V},Rep H ρ p v->bel ρ.tr.length p
 | .non,_,_=>by simp [Sm.bel]
 | .bl _,_,_=>by simp [Sm.bel]
 | .int _,_,_=>by simp [Sm.bel]
 | .str _,_,_=>by simp [Sm.bel]
 | .tup ps,_,⟨_,_,_,_,_,r⟩=>by rw [Sm.bel]; exact RepL.bel r
 | .lst ps,_,⟨_,_,_,_,_,r⟩=>by rw [Sm.bel]; exact RepL.bel r
 | .fro ps,_,⟨_,_,_,_,_,r⟩=>by rw [Sm.bel]; exact RepL.bel r
 | .ref i,_,⟨_,e,_⟩=>by rw [Sm.bel]; exact (O0.mp e).1
 | .dic,_,_=>by simp [Sm.bel]
theorem RepL.bel:∀ {ps:List PV} {vs:List V},RepL H ρ ps vs->belL ρ.tr.length ps
 | [],_,_=>by simp [belL]
 | p :: ps,_,⟨_,_,_,q,j⟩=>by rw [belL]; exact ⟨Rep.bel q,RepL.bel j⟩
end
mutual
theorem Rep.less (j:ρ.tr=tr0 ++ rest) (J:∀ a,a∈hs->a∈ρ.hid):∀ {p:PV} {v:V},Sm.bel tr0.length p->Rep H ρ p v->Rep H ⟨tr0,hs⟩ p v
 | .non,_,_,r=>r
 | .bl _,_,_,r=>r
 | .int _,_,_,r=>r
 | .str _,_,_,r=>r
 | .tup ps,_,b,⟨a,vs,e,q,I,r⟩=>⟨a,vs,e,q,fun z=>I (z.imp (fun z=>by rw [j]; exact G6 _ z) (J a)),RepL.less j J (by rw [Sm.bel] at b; exact b) r⟩
 | .lst ps,_,b,⟨a,vs,e,q,I,r⟩=>⟨a,vs,e,q,fun z=>I (z.imp (fun z=>by rw [j]; exact G6 _ z) (J a)),RepL.less j J (by rw [Sm.bel] at b; exact b) r⟩
 | .fro ps,_,b,⟨a,vs,e,q,I,r⟩=>⟨a,vs,e,q,fun z=>I (z.imp (fun z=>by rw [j]; exact G6 _ z) (J a)),RepL.less j J (by rw [Sm.bel] at b; exact b) r⟩
 | .ref i,_,b,⟨a,e,e2⟩=>⟨a,by rw [Sm.bel] at b; rw [j,O7 b] at e; exact e,e2⟩
 | .dic,_,_,⟨a,e,q,I⟩=>⟨a,e,q,fun z=>I (z.imp (fun z=>by rw [j]; exact G6 _ z) (J a))⟩
theorem RepL.less (j:ρ.tr=tr0 ++ rest) (q:∀ a,a∈hs->a∈ρ.hid):∀ {ps:List PV} {vs:List V},belL tr0.length ps->RepL H ρ ps vs->RepL H ⟨tr0,hs⟩ ps vs
 | [],_,_,r=>r
 | p :: ps,_,b,⟨v,t,e,I,z⟩=>by
  rw [belL] at b;exact ⟨v,t,e,Rep.less j q b.1 I,RepL.less j q b.2 z⟩
end
end
theorem Q8a {H H':Hp} {ρ ρ':Tk} {st st':Q0} (R:Rel H ρ st) (x:Ext H ρ H' ρ') (Y:Rel H' ρ' st') (hp:st <+: st'):Ext H ρ H' ρ/\Rel H' ρ st:=by
 obtain ⟨rest,z⟩:=x.pre;obtain ⟨more,hm⟩:=hp;refine ⟨⟨dS _,fun _ h=>h,fun _ h=>.inl h,x.keep,fun _ h=>.inl h,x.old,x.frz⟩,R.len,R.nd,fun a O=>let ⟨o,e,n⟩:=R.hd a O; ⟨o,x.keep a o e (R.ap a O),n⟩,R.ap,fun i a c h1 h2=>?_⟩
 have hi:i < st.length:=(O0.mp h2).1;have q:=Y.cell i a c (by rw [<- z,O7 (O0.mp h1).1]; exact h1) (by rw [<- hm,O7 hi]; exact h2);have I:=R.cell i a c h1 h2;cases c with
 | lst ps=>
  obtain ⟨vs,e1,e2⟩:=q;obtain ⟨J,_,j⟩:=I;exact ⟨vs,e1,RepL.less (ρ:=ρ') (tr0:=ρ.tr) (hs:=ρ.hid) z.symm x.hidM j.bel e2⟩
 | dic ps=>
  obtain ⟨vs,e1,e2⟩:=q;obtain ⟨J,_,j⟩:=I;exact ⟨vs,e1,e2.1,RepL.less (ρ:=ρ') (tr0:=ρ.tr) (hs:=ρ.hid) z.symm x.hidM j.2.bel e2.2⟩
 | dtp ps=>
  obtain ⟨vs,e1,e2⟩:=q;obtain ⟨J,_,j⟩:=I;exact ⟨vs,e1,e2.1,RepL.less (ρ:=ρ') (tr0:=ρ.tr) (hs:=ρ.hid) z.symm x.hidM j.2.bel e2.2⟩
 | frd ps=>
  obtain ⟨vs,e1,e2⟩:=q;obtain ⟨J,_,j⟩:=I;exact ⟨vs,e1,e2.1,RepL.less (ρ:=ρ') (tr0:=ρ.tr) (hs:=ρ.hid) z.symm x.hidM j.2.bel e2.2⟩
 | obj C ps=>
  obtain ⟨vs,e1,e2⟩:=q;obtain ⟨J,_,j⟩:=I;exact ⟨vs,e1,e2.1,RepL.less (ρ:=ρ') (tr0:=ρ.tr) (hs:=ρ.hid) z.symm x.hidM j.2.bel e2.2⟩
abbrev FN:=List PV->Q0->Res PV
open Classical in
def fin (st:Q0) (v:PV) (st':Q0):Res PV:=if st <+: st' then okO st (fz st.length st' 16 v) else .ok v st'
open Classical in
def Qni (st:Q0) (x:Exc) (st':Q0):Res PV:=if st <+: st' then (match x.fs with
 | none=>.exc x st
 | some (n,p)=>match fz st.length st' 16 p with
  | some q=>.exc ⟨x.cls,zo (n,q)⟩ st
  | none=>.stuck) else .exc x st'
def Qw (body:MS) (nl:Nat):FN:=fun ps st=>match body (ps.map zo ++ ba (nl - ps.length) zb) st with
 | .rt v st'=>fin st v st'
 | .nx _ st'=>fin st .non st'
 | .exc x st'=>Qni st x st'
 | _=>.stuck
theorem Qd0 {mg:Str->Option aA} {E:XK} {H:Hp} {ρ:Tk} {st st':Q0} {Q:VK} {p:PV} (R:Rel H ρ st) (h:Acc mg E H ρ (QV Q) (fin st p st')):∀ v H' ρ',Ext H ρ H' ρ'->Rel H' ρ' st'->Rep H' ρ' p v->Q v H':=fun v H' ρ' x j r=>by
 unfold fin at h
 by_cases hp:st <+: st'
 ·rw [bS hp] at h;cases e:fz st.length st' 16 p with
  | none=>rw [e] at h; exact h.elim
  | some q=>
   rw [e] at h;obtain ⟨x2,R2⟩:=Q8a R x j hp;obtain ⟨rest,z⟩:=x.pre;rw [<- R.len] at e;exact h H' ρ x2 R2 v (Qig (tr0:=ρ.tr) (hs:=ρ.hid) j z.symm x.hidM 16 r e)
 ·rw [bT hp] at h;exact h H' ρ' x j v r
def spF (mg:Str->Option aA) (n:Nat) (F:FN):Sp:=fun vs H Q E=>vs.length=n/\∃ ρ st ps,Rel H ρ st/\RepL H ρ ps vs/\Acc mg E H ρ (QV Q) (F ps st)
theorem Q4s {H:Hp} {ρ:Tk} {N:List Str} {ps:List PV} {vs:List V} (r:RepL H ρ ps vs):EnvR H ρ (ps.map zo ++ ba (N.length - ps.length) zb) (L2.start N vs):=by
 have j:=r.length;unfold L2.start;refine ⟨by simp [j],fun i p e=>?_⟩
 by_cases hi:i < ps.length
 ·rw [O7 (by simpa using hi),D7] at e;rw [O7 (by simp; omega),D7];cases q:ps[i]? with
  | none=>rw [q] at e; cases e
  | some p'=>
   rw [q] at e;cases e;obtain ⟨v,e1,e2⟩:=r.get q;exact ⟨v,by rw [e1]; rfl,e2⟩
 ·rw [D4 (by simpa using hi),gB] at e
  split at e <;> cases e
section
variable {P:aK} {w:aJ} {K:bW} {mg:Str->Option aA} {base:Heap}
theorem Qsg {x qual:Str} {st:aM} {f:aB} {fd:aP} {N ps:List Str} {k:Nat} {m:MS} (F:Fun K x qual st f fd) (S:FnScope N ps (Qa st))
  (hb:∀ (O:aA) (A:aL) (outer:List eR) (s:aC) (H:Hp) (E:XK),Room k (A.deeper (eT qual (Qa st) s.heap.objs.size f O))->SimB (cxD P w K mg base N qual (Qa st) f O A outer s H E) E (Z0 st) m) :
  FnOk P w K mg base (CXD P w) (k + 1) f fd ps (spF mg ps.length (Qw m N.length)):=by
 refine Fun.okD F S (fun vs H Q E h=>h.1) fun O A outer s H vs Q E hr a2=>⟨_,Q2c,?_⟩
 obtain ⟨hl,ρ,J,a1,R,rl,j⟩:=a2;refine (hb O A outer s H E hr).run _ (L2.start N vs) H ρ J _ R (Q4s rl) ?_;unfold Qw at j;cases Z:m (a1.map zo ++ ba (N.length - a1.length) zb) J with
 | rt v I=>rw [Z] at j; exact Qd0 R j
 | nx Γ I=>rw [Z] at j; exact fun a3 H' ρ' Y R' G'=>Qd0 R j .non H' ρ' Y R' rfl
 | bk Γ I=>rw [Z] at j; exact j.elim
 | ct Γ I=>rw [Z] at j; exact j.elim
 | stuck=>rw [Z] at j; exact j.elim
 | exc y I=>
  rw [Z] at j;have j:Acc mg E H ρ (QV Q) (Qni J y I):=j;intro C dv H' ρ' hm Y R' hf;unfold Qni at j
  by_cases hp:J <+: I
  ·rw [bS hp] at j;obtain ⟨x2,R2⟩:=Q8a R Y R' hp;obtain ⟨cls,fs⟩:=y;cases fs with
   | none=>exact j C dv H' ρ hm x2 R2 hf
   | some np=>
    obtain ⟨nm,p⟩:=np;simp only at j;cases e:fz J.length I 16 p with
    | none=>rw [e] at j; exact j.elim
    | some q=>
     rw [e] at j;obtain ⟨rest,ht⟩:=Y.pre;rw [<- R.len] at e;obtain ⟨dx,v,e1,e2,e3,e4⟩:=hf;refine j C dv H' ρ hm x2 R2 ⟨dx,v,e1,e2,fun z=>e3 (z.imp (fun z=>by rw [<- ht]; exact G6 _ z) (Y.hidM dx)),Qig (tr0:=ρ.tr) (hs:=ρ.hid) R' ht.symm Y.hidM 16 e4 e⟩
  ·rw [bT hp] at j;exact j C dv H' ρ' hm Y R' hf
end
theorem Jg {P:aK} {w:aJ} {K:bW} {mg:Str->Option aA} {base:Heap} {x qual:Str} {st:aM} {f:aB} {fd:aP} {N ps:List Str} {k n nl:Nat} {m:MS} {z:FN} (F:Fun K x qual st f fd) (S:FnScope N ps (Qa st)) (I:ps.length=n) (q:N.length=nl) (J:z=Qw m nl)
  (O:∀ (j:aA) (A:aL) (outer:List eR) (s:aC) (H:Hp) (E:XK),Room k (A.deeper (eT qual (Qa st) s.heap.objs.size f j))->SimB (cxD P w K mg base N qual (Qa st) f j A outer s H E) E (Z0 st) m) :
  FnOk P w K mg base (CXD P w) (k + 1) f fd ps (spF mg n z):=by
 subst I; subst q; subst J;exact Qsg F S O
structure DefS (P:aK) (w:aJ) (K:bW) (mg:Str->Option aA) (base:Heap) (k:Nat) (x:Str) (n:Nat) (F:FN):Prop where
 ex:∃ (f:aB) (fd:aP) (ps:List Str),FnOk P w K mg base (CXD P w) k f fd ps (spF mg n F)/\mg x=zo (.ref f)/\cX K (.ref f)=yo/\Binds K fd ps []/\ps.length=n
def Qj (n:Nat) (F:FN) (mr:Gam->Q0->Res (List PV)):ME:=fun Γ st=>(mr Γ st).bind fun ps st1=>if ps.length=n then F ps st1 else .stuck
section
variable {X:Cx} {E:XK} {k n:Nat} {x:Str} {F:FN} {p pos:Pos} {e:aH} {es:List aH} {mr:Gam->Q0->Res (List PV)}
theorem Qc (D:DefS X.prog X.w X.K X.mg X.base k x n F) (hr:Room k X.A) (Y:Q41 (CXD X.prog X.w) X E) (hg:Gl X x) (ha:SimA X E (e :: es) mr) (j:(x == ("__debug__" : Str))=yl:=by decide)
  (he:aN (e :: es) X.env=(yl,aO e X.env) :: aN es X.env:=by rfl) (I:(aY pos (aN es X.env)).any (·.1)=yl:=by rfl):SimE X E (.Call (.Name x p) (e :: es) [] pos) (Qj n F mr):=by
 obtain ⟨f,fd,ps,hF,hm,Z,hb,hl⟩:=D.ex;exact ⟨fun Γ σ H ρ st Q R G h=>WE.of (Qm6 hF hr hg hm Z hb .nil Y Q0s j he I) (ha.use R G h.bind fun J z H1 ρ1 vs x1 R1 G1 O h1=>by
  by_cases q:J.length=n
  ·rw [bS q] at h1;show spF X.mg n F (vs ++ []) H1 Q E;rw [cC];exact ⟨by rw [<- O.length]; exact q,ρ1,z,J,R1,O,h1⟩
  ·rw [bT q] at h1; exact h1.elim)⟩
end
end
@[simp] theorem Qx {α β:Type} (a:α) (st:Q0) (f:α->Q0->Res β):(Res.ok a st).bind f=f a st:=rfl
@[simp] theorem Qss {α β:Type} (f:α->Q0->Res β):(Res.stuck:Res α).bind f=.stuck:=rfl
@[simp] theorem Qw1 {α β:Type} (x:Exc) (st:Q0) (f:α->Q0->Res β):(Res.exc x st:Res α).bind f=.exc x st:=rfl
@[simp] theorem qb {α:Type} (a:α) (st:Q0) (f:α->Q0->SR):(Res.ok a st).sbind f=f a st:=rfl
@[simp] theorem Qp6 {α:Type} (f:α->Q0->SR):(Res.stuck:Res α).sbind f=.stuck:=rfl
@[simp] theorem Qt7 {α:Type} (x:Exc) (st:Q0) (f:α->Q0->SR):(Res.exc x st:Res α).sbind f=.exc x st:=rfl
@[simp] theorem Qwp (i:Nat) (Γ:Gam) (st:Q0):Q4 i Γ st=(match Γ[i]? with | some (zo p)=>.ok p st | _=>.stuck):=rfl
@[simp] theorem Qyg (p:PV) (Γ:Gam) (st:Q0):mC p Γ st=.ok p st:=rfl
@[simp] theorem Qru (o:OP) (a b:ME) (Γ:Gam) (st:Q0):mOp o a b Γ st=(a Γ st).bind fun x j=>(b Γ j).bind fun y q=>o q x y:=rfl
@[simp] theorem Qy8 (b:Bool) (st:Q0):asB (.bl b) st=.ok b st:=rfl
@[simp] theorem Qpz (m:ME) (Γ:Gam) (st:Q0):toB m Γ st=(m Γ st).bind asB:=rfl
def Qk7 {α:Type} (x:PV) (A B:Res α):Res α:=match x with
 | .bl yo=>A
 | .bl yl=>B
 | _=>.stuck
@[simp] theorem Qwa {α:Type} (b:Bool) (A B:Res α):Qk7 (.bl b) A B=if b=yo then A else B:=by cases b <;> rfl
@[simp] theorem Qte (o o':OP) (a b c:ME) (Γ:Gam) (st:Q0):Wd o o' a b c Γ st=(a Γ st).bind fun x I=>(b Γ I).bind fun y q=>(o q x y).bind fun k j=>Qk7 k ((c Γ j).bind fun z J=>o' J y z) (.ok (.bl yl) j):=by
 unfold Wd;refine congrArg _ (funext fun x=>funext fun I=>congrArg _ (funext fun y=>funext fun q=>congrArg _ (funext fun k=>funext fun j=>?_)))
 cases k with
 | bl b=>cases b <;> rfl
 | _=>rfl
@[simp] theorem Qn1 (a b:ME) (Γ:Gam) (st:Q0):Q00 a b Γ st=(a Γ st).bind fun x j=>Qk7 x (b Γ j) (.ok (.bl yl) j):=by
 unfold Q00;refine congrArg _ (funext fun x=>funext fun j=>?_);cases x with
 | bl b=>cases b <;> rfl
 | _=>rfl
@[simp] theorem Qrt (a b:ME) (Γ:Gam) (st:Q0):mOr a b Γ st=(a Γ st).bind fun x j=>Qk7 x (.ok (.bl yo) j) (b Γ j):=by
 unfold mOr;refine congrArg _ (funext fun x=>funext fun j=>?_);cases x with
 | bl b=>cases b <;> rfl
 | _=>rfl
@[simp] theorem Qwq (a:ME) (Γ:Gam) (st:Q0):Qrv a Γ st=(a Γ st).bind fun x j=>(match x with | .bl k=>.ok (.bl (!k)) j | _=>.stuck):=rfl
@[simp] theorem Qws (a:ME) (Γ:Gam) (st:Q0):Qmx a Γ st=(a Γ st).bind fun x j=>(match x with | .int k=>.ok (.int (-k)) j | _=>.stuck):=rfl
@[simp] theorem Q7p (a b:MT) (Γ:Gam) (st:Q0):Q1m a b Γ st=(a Γ st).bind fun k j=>if k=yo then b Γ j else .ok yl j:=rfl
@[simp] theorem Qc0 (a b:MT) (Γ:Gam) (st:Q0):Xu a b Γ st=(a Γ st).bind fun k j=>if k=yo then .ok yo j else b Γ j:=rfl
@[simp] theorem Qfg (a:MT) (Γ:Gam) (st:Q0):Yt a Γ st=(a Γ st).bind fun k j=>.ok (!k) j:=rfl
@[simp] theorem Qwr (Γ:Gam) (st:Q0):Q9 Γ st=.ok [] st:=rfl
@[simp] theorem Qhk (m:ME) (mr:ML) (Γ:Gam) (st:Q0):Q3 m mr Γ st=(m Γ st).bind fun p j=>(mr Γ j).bind fun ps q=>.ok (p :: ps) q:=rfl
@[simp] theorem Qms (mr:ML) (Γ:Gam) (st:Q0):Yx mr Γ st=(mr Γ st).bind fun ps j=>if ps.length<=lim then .ok (.tup ps) j else .stuck:=rfl
@[simp] theorem Qwt (mr:ML) (Γ:Gam) (st:Q0):yu mr Γ st=(mr Γ st).bind fun ps j=>if ps.length<=lim then .ok (.lst ps) j else .stuck:=rfl
@[simp] theorem Qv1 (mr:ML) (Γ:Gam) (st:Q0):Q0h mr Γ st=(mr Γ st).bind fun ps j=>if ps.length<=lim then .ok ps j else .stuck:=rfl
@[simp] theorem Qxy (m:ME) (l h:Gam->Q0->Res (Option Int)) (Γ:Gam) (st:Q0):mSl m l h Γ st=(m Γ st).bind fun p j=>(l Γ j).bind fun lo q=>(h Γ q).bind fun hi z=>oSl z p lo hi:=rfl
@[simp] theorem Qrw (Γ:Gam) (st:Q0):X4 Γ st=.ok zb st:=rfl
@[simp] theorem Quz (m:ME) (Γ:Gam) (st:Q0):jw m Γ st=(m Γ st).bind fun p j=>(match p with | .int i=>.ok (zo i) j | _=>.stuck):=rfl
@[simp] theorem Qhm (o:CF) (mr:ML) (Γ:Gam) (st:Q0):J1 o mr Γ st=(mr Γ st).bind fun ps j=>o j ps:=rfl
@[simp] theorem Qwu (T:String) (m:ME) (Γ:Gam) (st:Q0):jq T m Γ st=(m Γ st).bind fun p j=>if K1 j p=yo then .stuck else .ok (.bl (isI T (dpv j p))) j:=rfl
@[simp] theorem Qvm (st:Q0):K1 st .non=yl:=rfl
@[simp] theorem Qww (st:Q0) (b:Bool):K1 st (.bl b)=yl:=rfl
@[simp] theorem Qvp (st:Q0) (b:Int):K1 st (.int b)=yl:=rfl
@[simp] theorem Qvj (st:Q0) (b:Str):K1 st (.str b)=yl:=rfl
@[simp] theorem Qvi (st:Q0) (b:List PV):K1 st (.tup b)=yl:=rfl
@[simp] theorem Qvn (st:Q0) (b:List PV):K1 st (.lst b)=yl:=rfl
@[simp] theorem Qvq (st:Q0) (b:List PV):K1 st (.fro b)=yl:=rfl
@[simp] theorem Qvr (st:Q0):K1 st .dic=yl:=rfl
@[simp] theorem Qvk (st:Q0) (i:Nat):K1 st (.ref i)=(match st[i]? with | some (.frd _)=>yo | some (.obj _ _)=>yo | _=>yl):=rfl
@[simp] theorem Qx1 (st:Q0):dpv st .non=.non:=rfl
@[simp] theorem Qy6 (st:Q0) (b:Bool):dpv st (.bl b)=(.bl b):=rfl
@[simp] theorem Qx3 (st:Q0) (b:Int):dpv st (.int b)=(.int b):=rfl
@[simp] theorem Qx0 (st:Q0) (b:Str):dpv st (.str b)=(.str b):=rfl
@[simp] theorem Qwz (st:Q0) (b:List PV):dpv st (.tup b)=(.tup b):=rfl
@[simp] theorem Qx2 (st:Q0) (b:List PV):dpv st (.lst b)=(.lst b):=rfl
@[simp] theorem Qx4 (st:Q0) (b:List PV):dpv st (.fro b)=(.fro b):=rfl
@[simp] theorem Qy5 (st:Q0):dpv st .dic=.dic:=rfl
@[simp] theorem Qyh (st:Q0) (i:Nat):dpv st (.ref i)=(match st[i]? with | some (.dic _)=>.dic | some (.dtp _)=>.dic | _=>.ref i):=rfl
@[simp] theorem Qmq (m:ML) (Γ:Gam) (st:Q0):Uy m Γ st=(m Γ st).bind fun ps j=>.ok (.lst ps) j:=rfl
@[simp] theorem Qmt (m:ML) (Γ:Gam) (st:Q0):zh m Γ st=(m Γ st).bind fun ps j=>.ok (.ref j.length) (j ++ [.lst ps]):=rfl
@[simp] theorem Qeh (cap:List (Option Nat)) (ga:GA) (mi:MI) (mt:MT) (me:ME) (Γ:Gam) (st:Q0):Z1 cap ga mi mt me Γ st=(mi Γ st).bind fun q j=>noX (Z8 ga mt me q.2 (Y5 cap Γ) q.1 j):=rfl
@[simp] theorem Quy (Γ:Gam) (st:Q0):Yg Γ st=.ok yo st:=rfl
@[simp] theorem Qei (n:Nat) (F:FN) (mr:ML) (Γ:Gam) (st:Q0):Qj n F mr Γ st=(mr Γ st).bind fun ps j=>if ps.length=n then F ps j else .stuck:=rfl
@[simp] theorem Qv0 (Γ:Gam) (st:Q0):Jk Γ st=.nx Γ st:=rfl
@[simp] theorem qq (a b:MS) (Γ:Gam) (st:Q0):Qf a b Γ st=(match a Γ st with | .nx q j=>b q j | r=>r):=rfl
@[simp] theorem Q8z (m:ME) (Γ:Gam) (st:Q0):Kt m Γ st=(m Γ st).sbind fun _ j=>.nx Γ j:=rfl
@[simp] theorem Qmw (m:ME) (Γ:Gam) (st:Q0):Jd m Γ st=(m Γ st).sbind fun p j=>.rt p j:=rfl
@[simp] theorem Qmu (i:Nat) (m:ME) (Γ:Gam) (st:Q0):J2 i m Γ st=(m Γ st).sbind fun p j=>.nx (Γ.set i (zo p)) j:=rfl
@[simp] theorem Q6p (c:MT) (a b:MS) (Γ:Gam) (st:Q0):Zg c a b Γ st=(c Γ st).sbind fun k j=>if k=yo then a Γ j else b Γ j:=rfl
@[simp] theorem Qmy (ga:GA) (mi:MI) (b:MS) (Γ:Gam) (st:Q0):jr ga mi b Γ st=(mi Γ st).sbind fun q j=>Ju ga b q.2 q.1 Γ j:=rfl
@[simp] theorem Qmv (m:ME) (Γ:Gam) (st:Q0):Xm m Γ st=(m Γ st).bind fun p j=>(match Wi j p with | some (xs,w)=>if xs.length<=lim then .ok (xs,w) j else .stuck | none=>.stuck):=rfl
@[simp] theorem Q32 (mr:ML) (Γ:Gam) (st:Q0):Zu mr Γ st=(mr Γ st).bind fun ps q=>(match ps with | [.int j]=>if -(lim:Int)<=j/\j<=lim then .ok (V3 0 j.toNat,[]) q else .stuck | _=>.stuck):=rfl
@[simp] theorem Qv2 (mr:ML) (Γ:Gam) (st:Q0):Q90 mr Γ st=(mr Γ st).bind fun ps j=>(match ps with | [p]=>(match Wi j p with | some (xs,w)=>if xs.length<=lim then .ok (U5 0 xs,w) j else .stuck | none=>.stuck) | _=>.stuck):=rfl
@[simp] theorem Qrz (f:MF) (mo:ME) (mr:ML) (Γ:Gam) (st:Q0):mBM f mo mr Γ st=(mo Γ st).bind fun p j=>(match Wu j p with | some _=>(mr Γ j).bind fun ps q=>f q p ps | none=>.stuck):=rfl
@[simp] theorem Qmz (ga:GA) (m:ME) (Γ:Gam) (st:Q0):Qn0 ga m Γ st=(m Γ st).sbind fun p j=>(match ga p Γ with | some q=>.nx q j | none=>.stuck):=rfl
@[simp] theorem Qeg (mo mi m:ME) (Γ:Gam) (st:Q0):Xk mo mi m Γ st=(m Γ st).sbind fun p j=>(mo Γ j).sbind fun o z=>(mi Γ z).sbind fun i I=>(match Ks I o i p with | some q=>.nx Γ q | none=>.stuck):=rfl
@[simp] theorem Qtc (x:Str) (m:ME) (Γ:Gam) (st:Q0):Q6m x m Γ st=(m Γ st).sbind fun _ j=>.exc ⟨x,zb⟩ j:=rfl
@[simp] theorem Qtg (i:Nat) (p:PV) (Γ:Gam):Qn i p Γ=zo (Γ.set i (zo p)):=rfl
@[simp] theorem Qvf (Γ:Gam):Q5b [] Γ=zo Γ:=rfl
@[simp] theorem Qth (g:GA) (gs:GAs) (p:PV) (r:List PV) (Γ:Gam):Um g gs (p :: r) Γ=(g p Γ).bind (gs r):=rfl
@[simp] theorem Qve (gs:GAs) (ps:List PV) (Γ:Gam):Q5a gs (.tup ps) Γ=gs ps Γ:=rfl
@[simp] theorem Qxx {α:Type} (a:α) (st:Q0):noX (Res.ok a st)=.ok a st:=rfl
@[simp] theorem Qta {α:Type}:noX (Res.stuck:Res α)=.stuck:=rfl
@[simp] theorem Q8n {α:Type} (st:Q0) (a:α):okO st (zo a)=.ok a st:=rfl
@[simp] theorem Qup {α:Type} (st:Q0):okO st (zb:Option α)=.stuck:=rfl
@[simp] theorem Qyf (g:Int->Int->PV) (st:Q0) (a b:Int):oI g st (.int a) (.int b)=.ok (g a b) st:=rfl
@[simp] theorem Quv (st:Q0) (a b:Int):Zt st (.int a) (.int b)=.ok (.int (a + b)) st:=rfl
@[simp] theorem Quu (st:Q0) (a b:List PV):Zt st (.tup a) (.tup b)=if a.length + b.length<=lim then .ok (.tup (a ++ b)) st else .stuck:=rfl
@[simp] theorem Qus (st:Q0) (a b:Int):qj st (.int a) (.int b)=if (-(2 ^ 64) < a/\a < 2 ^ 64)\/(-(2 ^ 64) < b/\b < 2 ^ 64) then .ok (.int (a * b)) st else .stuck:=rfl
@[simp] theorem Qur (st:Q0) (xs:List PV) (b:Int):qj st (.tup xs) (.int b)=if xs≠[]/\1<=b/\xs.length * b.toNat<=4096 then .ok (.tup (ba b.toNat xs).flatten) st else .stuck:=rfl
@[simp] theorem Qut (st:Q0) (a b:Int):yk st (.int a) (.int b)=if 0 < b then .ok (.int (a % b)) st else .stuck:=rfl
@[simp] theorem Quq (st:Q0) (a b:Int):Qar st (.int a) (.int b)=if 0<=b/\b<=1000000/\a.natAbs < 2 ^ 64 then .ok (.int (a ^ b.toNat)) st else .stuck:=rfl
@[simp] theorem Qwg (st:Q0) (a b:Int):oLt st (.int a) (.int b)=.ok (.bl (decide (a < b))) st:=rfl
@[simp] theorem Qwn (st:Q0) (a b:Int):oEq st (.int a) (.int b)=.ok (.bl (a == b)) st:=rfl
@[simp] theorem Qwf (st:Q0) (a b:Int):oNe st (.int a) (.int b)=.ok (.bl (!(a == b))) st:=rfl
@[simp] theorem Qxw (st:Q0) (a b:Bool):oEq st (.bl a) (.bl b)=.ok (.bl (a == b)) st:=rfl
@[simp] theorem Qxu (st:Q0) (a b:Bool):oNe st (.bl a) (.bl b)=.ok (.bl (!(a == b))) st:=rfl
@[simp] theorem Qwm (st:Q0) (a b:Str):oEq st (.str a) (.str b)=.ok (.bl (a == b)) st:=rfl
@[simp] theorem Qwe (st:Q0) (a b:Str):oNe st (.str a) (.str b)=.ok (.bl (!(a == b))) st:=rfl
@[simp] theorem Qwk (st:Q0) (p:PV):oIs st p .non=.ok (.bl (Q98 p)) st:=rfl
@[simp] theorem Qxv (st:Q0) (a b:Bool):oIs st (.bl a) (.bl b)=.ok (.bl (a == b)) st:=rfl
@[simp] theorem Qrm (st:Q0) (p:PV):Xh st p .non=.ok (.bl (!Q98 p)) st:=rfl
@[simp] theorem Qt8 (st:Q0) (a b:Bool):Xh st (.bl a) (.bl b)=.ok (.bl (a != b)) st:=rfl
@[simp] theorem Qtf (st:Q0) (xs:List PV):U4 st (.lst xs)=zo xs:=rfl
@[simp] theorem Qs1 (st:Q0) (xs:List PV):Wu st (.lst xs)=zo xs:=rfl
@[simp] theorem Qs2 (st:Q0) (xs:List PV):Wu st (.fro xs)=zo xs:=rfl
@[simp] theorem Qdp (st:Q0) (xs:List PV):Ud st (.lst xs)=zo xs:=rfl
@[simp] theorem Qt6 (st:Q0) (xs:List PV):Ud st (.fro xs)=zo xs:=rfl
@[simp] theorem Qt5 (st:Q0) (xs:List PV):Ud st (.tup xs)=zo xs:=rfl
@[simp] theorem Qt3 (st:Q0) (xs:List PV):Wi st (.lst xs)=zo (xs,[]):=rfl
@[simp] theorem Qt4 (st:Q0) (xs:List PV):Wi st (.fro xs)=zo (xs,[]):=rfl
@[simp] theorem Qt2 (st:Q0) (xs:List PV):Wi st (.tup xs)=zo (xs,[]):=rfl
@[simp] theorem Qwh (st:Q0) (xs:List PV) (i:Int):oIx st (.tup xs) (.int i)=okO st (atI xs i):=rfl
@[simp] theorem Qwi (st:Q0) (xs:List PV) (i:Int):oIx st (.lst xs) (.int i)=okO st (atI xs i):=rfl
@[simp] theorem Qwj (st:Q0) (xs:List PV) (i:Int):oIx st (.fro xs) (.int i)=okO st (atI xs i):=rfl
@[simp] theorem Qwb (st:Q0) (xs:List PV) (l h:Option Int):oSl st (.tup xs) l h=.ok (.tup (cut xs l h)) st:=rfl
@[simp] theorem Qwc (st:Q0) (xs:List PV) (l h:Option Int):oSl st (.lst xs) l h=.ok (.lst (cut xs l h)) st:=rfl
@[simp] theorem Qwd (st:Q0) (xs:List PV) (l h:Option Int):oSl st (.fro xs) l h=.ok (.lst (cut xs l h)) st:=rfl
@[simp] theorem Qvx (st:Q0) (xs:List PV):Zv st [.tup xs]=.ok (.int xs.length) st:=rfl
@[simp] theorem Qvy (st:Q0) (xs:List PV):Zv st [.lst xs]=.ok (.int xs.length) st:=rfl
@[simp] theorem Qvz (st:Q0) (xs:List PV):Zv st [.fro xs]=.ok (.int xs.length) st:=rfl
@[simp] theorem Qsp (st:Q0) (xs:List PV):Ww st [.tup xs]=.ok (.tup xs) st:=rfl
@[simp] theorem Qsq (st:Q0) (xs:List PV):Ww st [.lst xs]=.ok (.tup xs) st:=rfl
@[simp] theorem Qj5 (g:List Bool->PV) (st:Q0) (bs:List Bool):Q4i g st [.lst (bs.map .bl)]=.ok (g bs) st:=by
 simp only [Q4i,Qdp,iT,Qnt]
@[simp] theorem Qti (st:Q0):wOk [] st=True:=by simp [wOk]
@[simp] theorem Q3j (st:Q0) (b:Bool):fin st (.bl b) st=.ok (.bl b) st:=by simp [fin,fz]
@[simp] theorem Qwy (st:Q0) (b:Int):fin st (.int b) st=.ok (.int b) st:=by simp [fin,fz]
@[simp] theorem Qnh (st:Q0):fin st .non st=.ok .non st:=by simp [fin,fz]
@[simp] theorem Qwx (st:Q0) (b:Str):fin st (.str b) st=.ok (.str b) st:=by simp [fin,fz]
theorem Q3i {st:Q0} {v:PV} (g:good 12 v=yo):fin st v st=.ok v st:=by
 simp only [fin,List.prefix_rfl,if_true,Qcy g (by decide:12 < 16),Q8n]
theorem Q5d {st more:Q0} {v:PV} (g:good 12 v=yo):fin st v (st ++ more)=.ok v st:=by
 simp only [fin,eP,if_true,Qcy g (by decide:12 < 16),Q8n]
theorem V9:lim=1000000:=rfl
theorem Q3q {α:Type} (g f:α->PV) {ga:GA} {me:ME} {w:Wt} {Γ0:Gam} {st:Q0} (I:wOk w st) {ys:List α} (h:∀ y∈ys,∃ j,ga (g y) Γ0=zo j/\me j st=.ok (f y) st):Z8 ga Yg me w Γ0 (ys.map g) st=.ok (ys.map f) st:=by
 induction ys with
 | nil=>simp [Z8,I]
 | cons y ys q=>
  obtain ⟨j,h1,h2⟩:=h y F2;have q:=q fun z hz=>h z (O4 _ hz)
  rw [D2,Z8,bS I,h1];simp [h2,q]
theorem Qez {α:Type} (g f:α->PV) (t:α->Bool) {ga:GA} {mt:MT} {me:ME} {w:Wt} {Γ0:Gam} {st:Q0} (I:wOk w st) {ys:List α} (h:∀ y∈ys,∃ j,ga (g y) Γ0=zo j/\mt j st=.ok (t y) st/\(t y=yo->me j st=.ok (f y) st)):Z8 ga mt me w Γ0 (ys.map g) st=.ok ((ys.filter t).map f) st:=by
 induction ys with
 | nil=>simp [Z8,I]
 | cons y ys q=>
  obtain ⟨j,h1,h2,J⟩:=h y F2;have q:=q fun z hz=>h z (O4 _ hz)
  rw [D2,Z8,bS I,h1];simp only [h2,Qx,q];cases tx:t y with
  | true=>simp [J tx,tx,q]
  | false=>simp [tx]
@[simp] theorem Qw0 {α:Type} (g:List Bool->PV) (st:Q0) (ys:List α) (b:α->Bool):Q4i g st [.lst (ys.map fun y=>.bl (b y))]=.ok (g (ys.map b)) st:=by
 rw [show (ys.map fun y=>PV.bl (b y))=(ys.map b).map .bl by rw [bt]; rfl,Qj5]
theorem Q3g {α:Type} (g:α->PV) {xs:List α} (I:Nat->Gam->Q0->Prop) {ga:GA} {body:MS} {w:Wt} (Y:∀ i Γ st,I i Γ st->wOk w st)
  (h:∀ (i:Nat) x Γ st,xs[i]?=zo x->I i Γ st->∃ O,ga (g x) Γ=zo O/\∃ J q,body O st=.nx J q/\I (i + 1) J q) {Γ:Gam} {st:Q0} (h0:I 0 Γ st):∃ j st',Ju ga body w (xs.map g) Γ st=.nx j st'/\I xs.length j st':=by
 induction xs generalizing I Γ st with
 | nil=>exact ⟨Γ,st,by simp [Ju,Y 0 Γ st h0],h0⟩
 | cons x xs Z=>
  obtain ⟨O,h1,J,q,e2,i2⟩:=h 0 x Γ st rfl h0;obtain ⟨j,st',e3,i3⟩:=Z (fun i=>I (i + 1)) (fun i Γ st z=>Y (i + 1) Γ st z) (fun i y Γ st hy z=>h (i + 1) y Γ st (by simpa using hy) z) i2
  refine ⟨j,st',?_,i3⟩;rw [D2,Ju,bS (Y 0 Γ st h0),h1];simp only [e2];exact e3
theorem Qd8 {α:Type} (f:α->PV) (xs:List α) (i:Int):atI (xs.map f) i=(atI xs i).map f:=by
 unfold atI;rw [O1];cases ixN xs.length i with
 | none=>rfl
 | some j=>simp [D7]
theorem atI_get {α:Type} {xs:List α} {i:Nat} {x:α} (h:xs[i]?=zo x):atI xs (i:Int)=zo x:=by
 have j:=(O0.mp h).1;unfold atI ixN;rw [bS (by omega),bS (by omega)];simpa using h
@[simp] theorem Qx8 {α:Type} (st l:List α) (c:α):(st ++ c :: l)[st.length]?=zo c:=by
 rw [D4 (O5 _),L1]; rfl
@[simp] theorem Qw8 {α:Type} (st l:List α) (c d:α):(st ++ c :: d :: l)[st.length + 1]?=zo d:=by
 rw [D4 (by omega)];rw [show st.length + 1 - st.length=1 by omega]; rfl
@[simp] theorem Qx7 {α:Type} (st l:List α) (c d:α):(st ++ c :: l).set st.length d=st ++ d :: l:=by
 rw [dU _ _ (O5 _),L1]; rfl
@[simp] theorem Qw7 {α:Type} (st l:List α) (c j d:α):(st ++ c :: j :: l).set (st.length + 1) d=st ++ c :: d :: l:=by
 rw [dU _ _ (by omega),show st.length + 1 - st.length=1 by omega]; rfl
@[simp] theorem Qx5 (st:Q0) (i:Nat) (g:List PV->Option (PV × List PV)):chg st (.ref i) g=(match st[i]? with | some (.lst xs)=>(match g xs with | some (r,ys)=>.ok r (st.set i (.lst ys)) | none=>.stuck) | _=>.stuck):=rfl
@[simp] theorem Qwv (st:Q0) (i:Nat):U4 st (.ref i)=(match st[i]? with | some (.lst xs)=>zo xs | _=>zb):=rfl
@[simp] theorem Qv6 (st:Q0) (i:Nat):Wu st (.ref i)=(match st[i]? with | some (.lst xs)=>zo xs | _=>zb):=rfl
@[simp] theorem Q60 (st:Q0) (i:Nat):Ud st (.ref i)=(match st[i]? with | some (.lst xs)=>zo xs | _=>zb):=rfl
@[simp] theorem Qw9 (st:Q0) (i:Nat):Wi st (.ref i)=(match st[i]? with | some (.lst xs)=>zo (xs,[(i,.lst xs)]) | _=>zb):=rfl
@[simp] theorem Qph (st:Q0) (p y:PV):Zj st p [y]=chg st p fun xs=>if xs.length < lim then zo (.non,xs ++ [y]) else zb:=rfl
@[simp] theorem Qvw (st:Q0) (i:Nat):Ww st [.ref i]=(match st[i]? with | some (.lst xs)=>.ok (.tup xs) st | _=>.stuck):=by
 unfold Ww; simp only [Q60];cases st[i]? with
 | none=>rfl
 | some c=>cases c <;> rfl
@[simp] theorem Qsr (st:Q0) (i:Nat):Zv st [.ref i]=(match st[i]? with | some (.lst xs)=>.ok (.int xs.length) st | _=>.stuck):=by
 unfold Zv; simp only [Q60];cases st[i]? with
 | none=>rfl
 | some c=>cases c <;> rfl
@[simp] theorem Q0g (st:Q0) (i:Nat) (j:Int):oIx st (.ref i) (.int j)=(match st[i]? with | some (.lst xs)=>okO st (atI xs j) | _=>.stuck):=by
 unfold oIx; simp only [Q60];cases st[i]? with
 | none=>rfl
 | some c=>cases c <;> rfl
@[simp] theorem Qc7 (st:Q0) (k:Nat) (j:Int) (p:PV):Ks st (.ref k) (.int j) p=(match st[k]? with | some (.lst xs)=>(ixN xs.length j).map fun n=>st.set k (.lst (xs.set n p)) | _=>zb):=rfl
theorem Qex {α:Type} (xs:List α) (k:Nat):cut xs zb (zo (k:Int))=xs.take k:=by
 unfold cut;rw [HT.sIx_none,HT.sIx_nat,eQ,iQ];rcases iU k xs.length with h | h
 ·rw [iV h]
 ·rw [iW h,eN,iX h]
theorem Qiy {α:Type} (xs:List α) (k:Nat):cut xs (zo (k:Int)) zb=xs.drop k:=by
 unfold cut;rw [HT.sIx_none,HT.sIx_nat];rcases iU k xs.length with h | h
 ·rw [iV h,iX (by rw [cv]; omega)]
 ·rw [iW h,fb,List.drop_of_length_le h]; simp
theorem Q59 {α:Type} {l:List α} {j:Nat} (h:j < l.length) (d:α):l[j]?=zo (l.getD j d):=by
 rw [eB,O2 h]; rfl
def ListAt (st:Q0) (V:PV) (xs:List PV):Prop:=V=.lst xs\/V=.fro xs\/∃ i,V=.ref i/\st[i]?=zo (.lst xs)
theorem ListAt.ix {st:Q0} {V:PV} {xs:List PV} (h:ListAt st V xs) (j:Int):oIx st V (.int j)=okO st (atI xs j):=by
 rcases h with rfl | rfl | ⟨i,rfl,e⟩
 ·rfl
 ·rfl
 ·rw [Q0g,e]
theorem Q09 {α:Type} (g:α->PV) {xs:List α} (I:Nat->List PV->Q0->Prop) {ga:GA} {me:ME} {w:Wt} {Γ0:Gam} (O:∀ i j st,I i j st->wOk w st)
  (h:∀ (i:Nat) x j st,xs[i]?=zo x->I i j st->∃ z,ga (g x) Γ0=zo z/\∃ v q,me z st=.ok v q/\I (i + 1) (j ++ [v]) q) {st:Q0} (h0:I 0 [] st):∃ j st',Z8 ga Yg me w Γ0 (xs.map g) st=.ok j st'/\I xs.length j st':=by
 have J:∀ (ys:List α) (k:Nat) (pre:List PV) (st:Q0),(∀ i,ys[i]?=xs[k + i]?)->k + ys.length=xs.length->I k pre st->∃ j st',Z8 ga Yg me w Γ0 (ys.map g) st=.ok j st'/\I xs.length (pre ++ j) st':=by
  intro ys
  induction ys with
  | nil=>
   intro k pre st e e2 i;refine ⟨[],st,by simp [Z8,O k pre st i],?_⟩;rw [cC,<- e2]; exact i
  | cons y ys Y=>
   intro k pre st e e2 i;have e0:xs[k]?=zo y:=by have:=e 0; simpa using this.symm
   obtain ⟨z,h1,v,q,h2,Z⟩:=h k y pre st e0 i;obtain ⟨j,st',h3,i3⟩:=Y (k + 1) (pre ++ [v]) q (fun i=>by
    have:=e (i + 1);rw [eL] at this;rw [this]; congr 1; omega) (by rw [<- e2,D5]; omega) Z
   refine ⟨v :: j,st',?_,by simpa using i3⟩;rw [D2,Z8,bS (O k pre st i),h1];simp [Yg,h2,h3]
 obtain ⟨j,st',h1,h2⟩:=J xs 0 [] st (fun i=>by simp) (by simp) h0;exact ⟨j,st',h1,by simpa using h2⟩
@[simp] theorem Qtd (ma:ME) (Γ:Gam) (st:Q0):Q33 ma Γ st=(ma Γ st).bind fun p j=>match Ud j p with | some xs=>.ok xs j | none=>.stuck:=rfl
@[simp] theorem Qv3 (ma mb:ME) (Γ:Gam) (st:Q0):Q50 ma mb Γ st=(ma Γ st).bind fun x j=>(mb Γ j).bind fun y q=>Q8p q x y:=rfl
theorem Qn9 {n k:Nat} (h:k < n):ixN n (k:Int)=zo k:=by
 unfold ixN;rw [bS (by omega),bS (by omega)];simp
theorem jb:∀ {xs:List PV},(∀ x∈xs,peq x x=yo)->peqL xs xs=yo
 | [],_=>rfl
 | x :: xs,h=>by
  rw [peqL,h x F2,jb fun y j=>h y (O4 _ j)]; rfl
theorem yf:∀ {n:Nat} {p:PV},good n p=yo->peq p p=yo
 | n,.non,_=>rfl
 | n,.bl b,_=>by simp [peq]
 | n,.int b,_=>by simp [peq]
 | n,.str b,_=>by simp [peq]
 | n,.ref _,g=>by cases n <;> simp [good] at g
 | n,.dic,g=>by cases n <;> simp [good] at g
 | 0,.tup _,g=>by simp [good] at g
 | 0,.lst _,g=>by simp [good] at g
 | 0,.fro _,g=>by simp [good] at g
 | n + 1,.tup xs,g=>by
  rw [peq]; refine jb fun x j=>yf (n:=n) ?_
  simp [good] at g; exact g x j
 | n + 1,.lst xs,g=>by
  rw [peq]; refine jb fun x j=>yf (n:=n) ?_
  simp [good] at g; exact g x j
 | n + 1,.fro xs,g=>by
  rw [peq]; refine jb fun x j=>yf (n:=n) ?_
  simp [good] at g; exact g x j
section
variable {X:Cx} {E:XK} {a b:aH} {ma mb:ME} {pos:Pos}
theorem Q9t:aX "set" = zo (.type "set"):=by decide +kernel
end
def U6 (body:MS) (nl:Nat):FN:=fun ps st=>match body (ps.map zo ++ ba (nl - ps.length) zb) st with
 | .rt v st'=>.ok v st'
 | .nx _ st'=>.ok .non st'
 | .exc x st'=>.exc x st'
 | _=>.stuck
section
variable {P:aK} {w:aJ} {K:bW} {mg:Str->Option aA} {base:Heap}
theorem Qnd {x qual:Str} {st:aM} {f:aB} {fd:aP} {N ps:List Str} {k:Nat} {m:MS} (F:Fun K x qual st f fd) (S:FnScope N ps (Qa st))
  (hb:∀ (q:aA) (A:aL) (outer:List eR) (s:aC) (H:Hp) (E:XK),Room k (A.deeper (eT qual (Qa st) s.heap.objs.size f q))->SimB (cxD P w K mg base N qual (Qa st) f q A outer s H E) E (Z0 st) m) :
  FnOk P w K mg base (CXD P w) (k + 1) f fd ps (spF mg ps.length (U6 m N.length)):=by
 refine Fun.okD F S (fun vs H Q E h=>h.1) fun q A outer s H vs Q E hr Y=>⟨_,Q2c,?_⟩
 obtain ⟨hl,ρ,O,J,R,rl,j⟩:=Y;refine (hb q A outer s H E hr).run _ (L2.start N vs) H ρ O _ R (Q4s rl) ?_;unfold U6 at j;cases I:m (J.map zo ++ ba (N.length - J.length) zb) O with
 | rt v z=>rw [I] at j; exact fun v H' ρ' x Z r=>j H' ρ' x Z v r
 | nx Γ z=>rw [I] at j; exact fun a1 H' ρ' x' Z G'=>j H' ρ' x' Z .non rfl
 | bk Γ z=>rw [I] at j; exact j.elim
 | ct Γ z=>rw [I] at j; exact j.elim
 | stuck=>rw [I] at j; exact j.elim
 | exc y z=>rw [I] at j; exact j
end
theorem Yh {P:aK} {w:aJ} {K:bW} {mg:Str->Option aA} {base:Heap} {x qual:Str} {st:aM} {f:aB} {fd:aP} {N ps:List Str} {k n nl:Nat} {m:MS} {z:FN} (F:Fun K x qual st f fd) (S:FnScope N ps (Qa st)) (I:ps.length=n) (q:N.length=nl) (J:z=U6 m nl)
  (O:∀ (j:aA) (A:aL) (outer:List eR) (s:aC) (H:Hp) (E:XK),Room k (A.deeper (eT qual (Qa st) s.heap.objs.size f j))->SimB (cxD P w K mg base N qual (Qa st) f j A outer s H E) E (Z0 st) m) :
  FnOk P w K mg base (CXD P w) (k + 1) f fd ps (spF mg n z):=by
 subst I; subst q; subst J;exact Qnd F S O
end Sm
namespace Sm
open PySem PySem.Spec PyProof.Rows L2
section
variable {X:Cx} {E:XK} {pos:Pos} {a b:aH} {ma mb:ME}
end
end Sm
namespace Sm
open PySem PySem.Spec L2
section
variable {X:Cx} {E:XK} {pos:Pos} {e:aH} {m:ME}
end
section
end
section
variable {X:Cx} {E:XK} {pos dpos:Pos} {e1 e2 e3 i:aH} {m1 m2 m3 mi:ME} {k1 k2 k3:Str} {j1 j2 j3:Nat} {q1 q2 q3:Pos}
end
section
variable {X:Cx} {E:XK} {pos:Pos} {e:aH} {m:ME}
end
theorem Y7 {k:Nat} {A:aL} (r:Room k A):A.units + 9 < aQ:=by have:=r.un; omega
section
variable {X:Cx} {E:XK}
end
section
variable {H0 H:Hp} {ρ0 ρ:Tk} {st:Q0} {a:aB} {ps:List (Key × PV)} {vs:List (Key × V)}
end
def Qx6 (kvs:List (Key × PV)) (k:Key):Option PV:=(kvs.find? fun kv=>decide (kv.1=k)).map (·.2)
section
variable {X:Cx} {E:XK} {pos dpos apos cpos:Pos} {e e1 e2 e3 i o f:aH} {m m1 m2 m3 mi mo mf:ME} {k1 k2 k3:Str} {j1 j2 j3:Nat} {q1 q2 q3:Pos}
end
def Qps (st:Q0):PV->Option (List (Key × PV))
 | .ref i=>match st[i]? with
  | some (.dic kvs)=>zo kvs
  | some (.frd kvs)=>zo kvs
  | _=>zb
 | _=>zb
section
variable {X:Cx} {E:XK} {pos dpos tpos:Pos} {e i o k:aH} {m mi mo mk:ME}
end
section
variable {X:Cx} {E:XK} {pos dpos tpos:Pos} {e i o k:aH} {m mi mo mk:ME} {tg:aH}
end
section
variable {X:Cx} {E:XK}
end
end Sm
namespace Sm
open PySem PySem.Spec PyProof.Rows L2
section
variable {X:Cx} {E:XK}
theorem Qh1:OpR X (aZ .FloorDiv) (rI (fun _ j=>0 < j/\j < 1267650600228229401496703205376) fun i j=>.int (i / j)):=opI fun i j _ _ _ _ _ z q=>by
 have h1:(0:Int) < j:=z.1;have h2:j < 1267650600228229401496703205376:=z.2;refine floordiv_int (by omega) (by rw [Int.fdiv_eq_ediv_of_nonneg i (by omega)]; exact q) (.inl (PyProof.noPylong_of_log2 ?_));have:j.natAbs.log2 < 100:=(Nat.log2_lt (by omega)).mpr (by
  rw [show (2:Nat) ^ 100=1267650600228229401496703205376 by decide];omega)
 omega
def Qce:OP:=fun st p q=>match p,q with
 | .int a,.int b=>if 0 < b/\b < 1267650600228229401496703205376 then .ok (.int (a / b)) st else .stuck
 | _,_=>.stuck
theorem Qmb:OpS X E (aZ .FloorDiv) Qce:=⟨fun H ρ st p q x y Q R j I h=>by
 unfold Qce at h
 split at h
 ·cases j; cases I
  split at h
  ·rename_i z;exact WO.of Qh1 ⟨_,_,rfl,rfl,z,now R h rfl⟩
  ·exact h.elim
 ·exact h.elim⟩
@[simp] theorem Qt9 (st:Q0) (a b:Int):Qce st (.int a) (.int b)=if 0 < b/\b < 1267650600228229401496703205376 then .ok (.int (a / b)) st else .stuck:=rfl
end
end Sm
namespace Sm
open PySem PySem.Spec L2
theorem Q0n:aX "sorted" = zo (.builtin "sorted"):=by decide +kernel
section
variable {X:Cx} {E:XK} {pos apos tp:Pos} {e:aH} {m:ME} {elts:List aH} {kt:Nat}
end
def Yw (f:PV->Option HK):List PV->Option (List HK)
 | []=>zo []
 | p :: ps=>match f p,Yw f ps with
  | some k,zo l=>zo (k :: l)
  | _,_=>zb
def U9:Nat->PV->Option HK
 | _,.int i=>zo (.int i)
 | _,.str x=>zo (.str x)
 | d + 1,.tup ps=>(Yw (U9 d) ps).map .tup
 | _,_=>zb
theorem Qi6 {H:Hp} {ρ:Tk}:∀ (d:Nat) {p:PV} {k:HK} {v:V},U9 d p=zo k->Rep H ρ p v->KAt H k v/\Dp d k:=by
 intro d
 induction d with
 | zero=>
  intro p k v e r;cases p with
  | int i=>cases e; exact ⟨r,trivial⟩
  | str i=>cases e; exact ⟨r,trivial⟩
  | _=>cases e
 | succ d O=>
  intro p k v e r;cases p with
  | int i=>cases e; exact ⟨r,trivial⟩
  | str i=>cases e; exact ⟨r,trivial⟩
  | tup ps=>
   obtain ⟨a,vs,rfl,ha,_,Z⟩:=r;have I:∀ {ps:List PV} {l:List HK} {vs:List V},Yw (U9 d) ps=zo l->RepL H ρ ps vs->KAtL H l vs/\∀ k∈l,Dp d k:=by
    intro ps
    induction ps with
    | nil=>intro l vs e r; cases e; exact ⟨r,fun k Y=>nomatch Y⟩
    | cons p ps q=>
     intro l vs e ⟨v,t,e1,r1,r2⟩;unfold Yw at e
     split at e
     ·rename_i k l' e2 e3;cases e;obtain ⟨h1,h2⟩:=O e2 r1;obtain ⟨h3,J⟩:=q e3 r2;exact ⟨⟨v,t,e1,h1,h3⟩,fun x j=>by rcases D6.mp j with rfl | j; exact h2; exact J x j⟩
     ·cases e
   unfold U9 at e;cases z:Yw (U9 d) ps with
   | none=>rw [z] at e; cases e
   | some l=>
    rw [z] at e;cases e;obtain ⟨h1,h2⟩:=I z Z;exact ⟨⟨a,vs,rfl,ha,h1⟩,h2⟩
  | _=>cases e
def Xn:PV->Option HK
 | .tup ps=>U9 5 (.tup ps)
 | _=>zb
theorem Vp {H:Hp} {ρ:Tk} {p:PV} {k:HK} {v:V} (e:Xn p=zo k) (r:Rep H ρ p v):∃ b,v=.ref b/\KR H k b:=by
 cases p with
 | tup ps=>
  have h:=Qi6 5 e r;obtain ⟨b,vs,rfl,_⟩:=r;exact ⟨b,rfl,h⟩
 | _=>cases e
def putT (kvs:List (HK × PV)) (k:HK) (v:PV):List (HK × PV):=
 if (kvs.any fun kv=>decide (kv.1=k))=yo then kvs.map (fun kv=>if kv.1=k then (kv.1,v) else kv) else kvs ++ [(k,v)]
theorem Q88 {H:Hp} {ρ:Tk} {kvs:List (HK × PV)} {vs:List (HK × V)} (r:RepD H ρ kvs vs) (k:HK) {p:PV} {v:V} (J:Rep H ρ p v):RepD H ρ (putT kvs k p) (Kh vs k v):=by
 have ha:(kvs.any fun kv=>decide (kv.1=k))=vs.any fun kv=>decide (kv.1=k):=by
  have e1:(kvs.any fun kv=>decide (kv.1=k))=(kvs.map bq).any fun x=>decide (x=k):=by rw [dW]; rfl
  have e2:(vs.any fun kv=>decide (kv.1=k))=(vs.map bq).any fun x=>decide (x=k):=by rw [dW]; rfl
  rw [e1,e2,r.1]
 unfold putT Kh;rw [<- ha]
 by_cases q:(kvs.any fun kv=>decide (kv.1=k))=yo
 ·rw [bS q,bS q];have I:∀ (kvs:List (HK × PV)) (vs:List (HK × V)),RepD H ρ kvs vs->RepD H ρ (kvs.map fun kv=>if kv.1=k then (kv.1,p) else kv) (vs.map fun kv=>if kv.1=k then (kv.1,v) else kv):=by
   intro kvs
   induction kvs with
   | nil=>
    intro vs r;cases vs with
    | nil=>exact r
    | cons _ _=>have:=r.length; cases this
   | cons a kvs Z=>
    intro vs r;cases vs with
    | nil=>have:=r.length; cases this
    | cons b vs=>
     obtain ⟨r1,x,t,e,r2,r3⟩:=r;obtain ⟨e1,e2⟩:=cg (show b.1 :: vs.map bq=a.1 :: kvs.map bq from r1);obtain ⟨e3,e4⟩:=cg (show b.2 :: vs.map cT=x :: t from e);subst e3; subst e4;obtain ⟨O,Y⟩:=Z vs ⟨e2,r3⟩;rw [D2,D2]
     by_cases z:a.1=k
     ·have j:b.1=k:=e1.trans z;rw [bS z,bS j];exact ⟨by rw [D2,D2,O]; show b.1 :: _=a.1 :: _; rw [e1],RepL.cons J Y⟩
     ·have j:¬ b.1=k:=fun h=>z (e1.symm.trans h)
      rw [bT z,bT j];exact ⟨by rw [D2,D2,O]; show b.1 :: _=a.1 :: _; rw [e1],RepL.cons r2 Y⟩
  exact I kvs vs r
 ·rw [bT q,bT q];refine ⟨?_,?_⟩
  ·rw [E4,E4,r.1]; rfl
  ·rw [E4,E4];exact r.2.append (RepL.cons J RepL.nil)
section
variable {X:Cx} {E:XK} {pos dpos tpos:Pos} {e i o k:aH} {m mi mo mk:ME}
def xy:ME:=fun Γ st=>.ok (.ref st.length) (st ++ [.dtp []])
theorem y9:SimE X E (.Dict [] [] dpos) xy:=⟨fun Γ σ H ρ st Q R G h=>WE.of Qgp fun d hd=>by
 have x:Ext H ρ (upd H d (.dT [])) (ρ.add d):=Ext.addT hd;refine h _ _ x (R.addC hd ⟨_,J3,rfl,rfl⟩) _ ⟨d,?_,rfl⟩;show (ρ.tr ++ [d])[st.length]?=zo d;rw [<- R.len,D4 (O5 _),L1]; rfl⟩
def Yi (st:Q0):PV->Option (List (HK × PV))
 | .ref i=>match st[i]? with
  | some (.dtp kvs)=>zo kvs
  | _=>zb
 | _=>zb
theorem Yy {H:Hp} {ρ:Tk} {st:Q0} {p:PV} {v:V} {kvs:List (HK × PV)} (R:Rel H ρ st) (r:Rep H ρ p v) (e:Yi st p=zo kvs):∃ i a vs,p=.ref i/\v=.ref a/\ρ.tr[i]?=zo a/\st[i]?=zo (.dtp kvs)/\H a=zo (.dT vs)/\RepD H ρ kvs vs:=by
 cases p with
 | ref i=>
  obtain ⟨a,I,rfl⟩:=r;unfold Yi at e;cases z:st[i]? with
  | none=>simp only [z] at e; cases e
  | some c=>
   simp only [z] at e;cases c with
   | dtp q=>
    cases e;obtain ⟨b,vs,j,O,J⟩:=R.dtp z;rw [I] at j;cases j;exact ⟨i,a,vs,rfl,rfl,I,z,O,J⟩
   | lst xs=>cases e
   | dic xs=>cases e
   | frd xs=>cases e
   | obj C xs=>cases e
 | _=>cases e
def x9 (st:Q0) (p q v:PV):Option Q0:=match p with
 | .ref n=>match Yi st (.ref n),Xn q with
  | some kvs,zo k=>if kvs.length < lim then zo (st.set n (.dtp (putT kvs k v))) else zb
  | _,_=>zb
 | _=>zb
def qr (mo mi m:ME):MS:=fun Γ st=>(m Γ st).sbind fun v st1=>(mo Γ st1).sbind fun p st2=>(mi Γ st2).sbind fun q st3=>match x9 st3 p q v with
 | some st4=>.nx Γ st4
 | none=>.stuck
theorem Kz (hu:X.A.units + 9 < aQ) (he:SimE X E e m) (ho:SimE X E o mo) (hi:SimE X E i mi) (hs:swapsWith e (zo (.Subscript o i tpos)) pos.line X.env=pure yl:=by rfl):SimS X E (.Assign [.Subscript o i tpos] e pos) (qr mo mi m):=
 ⟨fun Γ σ H ρ st D R G h=>WS.of (Qks hu Ja Ja Ja hs) (he.use R G h.bind fun v a3 H1 ρ1 z x1 R1 G1 r1 h1=>ho.use R1 G1 h1.bind fun p a6 H2 a2 x x2 R2 G2 r2 h2=>hi.use R2 G2 h2.bind fun q I Y j y x3 R3 G3 r3 J=>by
  cases es:x9 I p q v with
  | none=>rw [es] at J; exact J.elim
  | some a5=>
   rw [es] at J;unfold x9 at es
   split at es
   ·rename_i n
    split at es
    ·rename_i kvs k e1 e2
     split at es
     ·rename_i hl;cases es;obtain ⟨n',a,vs,en,rfl,ea,a4,Z,rd⟩:=Yy R3 (r2.ext x3) e1;cases en;obtain ⟨b,rfl,a1⟩:=Vp e2 r3;have O:Ext Y j (upd Y a (.dT (Kh vs k z))) j:=Ext.put (E3 ea) Z;have rz:=(r1.ext (x2.trans x3)).ext O;have R4:Rel (upd Y a (.dT (Kh vs k z))) j (I.set n (.dtp (putT kvs k v))):=R3.putC ea Z ⟨_,J3,Q88 (rd.ext O) k rz⟩;refine ⟨a,_,rfl,DPut.t Z a1 (by rw [<- rd.length]; exact O9 hl Q6s),J σ _ j O R4 (G3.ext O)⟩
     ·cases es
    ·cases es
   ·cases es)⟩
def Q9r:CF:=fun st ps=>match ps with
 | [p]=>match Yi st p with
  | some kvs=>if kvs.length < 1000000 then .ok (.int (kvs.length:Nat)) st else .stuck
  | none=>.stuck
 | _=>.stuck
theorem Qnm:CallS X E (.builtin "len") Q9r:=⟨fun H ρ st ps xs Q R q h=>by
 unfold Q9r at h
 split at h
 ·rename_i p;obtain ⟨v,rfl,r⟩:=Yd q
  split at h
  ·rename_i kvs e
   split at h
   ·rename_i j;obtain ⟨n,a,vs,rfl,rfl,_,_,z,I⟩:=Yy R r e;rw [I.length] at h j;exact WC.of Qbh ⟨a,vs,rfl,z,j,now R h rfl⟩
   ·exact h.elim
  ·exact h.elim
 ·exact h.elim⟩
def K8 (kvs:List (HK × PV)) (k:HK):Option PV:=(kvs.find? fun kv=>decide (kv.1=k)).map (·.2)
theorem ye {H:Hp} {ρ:Tk} (k:HK):∀ {kvs:List (HK × PV)} {vs:List (HK × V)},RepD H ρ kvs vs->(K8 kvs k=zb/\jm vs k=zb)\/∃ p v,K8 kvs k=zo p/\jm vs k=zo v/\Rep H ρ p v
 | [],[],_=>.inl ⟨rfl,rfl⟩
 | [],b :: vs,r=>by have:=r.length; cases this
 | a :: kvs,[],r=>by have:=r.length; cases this
 | a :: kvs,b :: vs,r=>by
  obtain ⟨J,x,t,e,I,O⟩:=r;obtain ⟨e1,e2⟩:=cg (show b.1 :: vs.map bq=a.1 :: kvs.map bq from J);obtain ⟨e3,q⟩:=cg (show b.2 :: vs.map cT=x :: t from e);subst e3; subst q;unfold K8 jm;rw [cQ,cQ]
  by_cases z:a.1=k
  ·have j:b.1=k:=e1.trans z;rw [bV z,bV j];exact .inr ⟨a.2,b.2,rfl,rfl,I⟩
  ·have j:¬ b.1=k:=fun h=>z (e1.symm.trans h)
   rw [bU z,bU j];exact ye k ⟨e2,O⟩
def Q2w (neg:Bool):OP:=fun st p q=>match Yi st q,Xn p with
 | some kvs,zo k=>.ok (.bl ((K8 kvs k).isSome != neg)) st
 | _,_=>.stuck
theorem Qra (O:X.A.units + 9 < aQ):OpS X E (aS .In) (Q2w yl):=⟨fun H ρ st p q x y Q R J rq h=>by
 unfold Q2w at h
 split at h
 ·rename_i kvs k e1 e2;obtain ⟨n,a,vs,rfl,rfl,_,_,hb,Y⟩:=Yy R rq e1;obtain ⟨b,rfl,kr⟩:=Vp e2 J;intro pins s σ v u I rv ru;cases ru;refine Qy7 O I (DGet.t hb kr) rv fun s' Z=>⟨.bl _,H,Z,rfl,?_⟩
  have:(jm vs k).isSome=(K8 kvs k).isSome:=by
   rcases ye k Y with ⟨z,j⟩ | ⟨p,v,z,j,_⟩ <;> rw [z,j] <;> rfl
  rw [this];rw [dB] at h;exact now R h rfl
 ·exact h.elim⟩
theorem Q4w (O:X.A.units + 9 < aQ):OpS X E (aS .NotIn) (Q2w yo):=⟨fun H ρ st p q x y Q R J rq h=>by
 unfold Q2w at h
 split at h
 ·rename_i kvs k e1 e2;obtain ⟨n,a,vs,rfl,rfl,_,_,hb,Y⟩:=Yy R rq e1;obtain ⟨b,rfl,kr⟩:=Vp e2 J;intro pins s σ v u I rv ru;cases ru;refine Qnk O I (DGet.t hb kr) rv fun s' Z=>⟨.bl _,H,Z,rfl,?_⟩
  have:(jm vs k).isSome=(K8 kvs k).isSome:=by
   rcases ye k Y with ⟨z,j⟩ | ⟨p,v,z,j,_⟩ <;> rw [z,j] <;> rfl
  rw [this];have hh:((K8 kvs k).isSome != yo)=!(K8 kvs k).isSome:=by cases (K8 kvs k).isSome <;> rfl
  rw [hh] at h;exact now R h rfl
 ·exact h.elim⟩
theorem Q0z {H:Hp} {ρ:Tk} {st:Q0} (R:Rel H ρ st) (b:aB) (xs:List V) (h:H b=zo (.tup xs)):b∉ρ:=fun z=>by
 rcases z with z | z
 ·obtain ⟨i,hi,e⟩:=F8 z;have hs:i < st.length:=by rw [<- R.len]; exact hi
  have q:=R.cell i b st[i] (by rw [O2 hi,e]) (O2 hs);cases j:st[i] with
  | lst xs=>rw [j] at q; obtain ⟨vs,h1,_⟩:=q; rw [h] at h1; cases h1
  | dic xs=>rw [j] at q; obtain ⟨vs,h1,_⟩:=q; rw [h] at h1; cases h1
  | dtp xs=>rw [j] at q; obtain ⟨vs,h1,_⟩:=q; rw [h] at h1; cases h1
  | frd xs=>rw [j] at q; obtain ⟨vs,⟨_,h1⟩,_⟩:=q; rw [h] at h1; cases h1
  | obj C xs=>rw [j] at q; obtain ⟨vs,⟨_,h1⟩,_⟩:=q; rw [h] at h1; cases h1
 ·obtain ⟨o,h1,h2⟩:=R.hd b z;rw [h] at h1;cases h1;exact h2 xs rfl
end
section
variable {H0 H:Hp} {ρ0 ρ:Tk} {st:Q0} {a:aB} {ps:List (HK × PV)} {vs:List (HK × V)}
theorem Qgu (R0:Rel H0 ρ0 st) (x:Ext H0 ρ0 H ρ) {j:Q0} (R:Rel H ρ j) (hm:a∈ρ.hid) (Z:H0 a=zb) (ha:H a=zo (.dT vs)) (r:RepD H ρ ps vs) :
  Ext H0 ρ0 H ⟨ρ.tr ++ [a],ρ0.hid⟩/\Rel H ⟨ρ.tr ++ [a],ρ0.hid⟩ (j ++ [.dtp ps])/\Rep H ⟨ρ.tr ++ [a],ρ0.hid⟩ (.ref j.length) (.ref a):=by
 have Y:a∉ρ0.hid:=fun z=>by
  obtain ⟨o,e,_⟩:=R0.hd a z;rw [Z] at e; cases e
 refine ⟨⟨x.pre.trans (eP _ _),fun _ h=>h,fun _ h=>.inl h,x.keep,fun b J=>?_,x.old,x.frz⟩,⟨?_,?_,fun b J=>R.hd b (x.hidM b J),fun b J z=>?_,fun i b c h1 h2=>?_⟩,a,?_,rfl⟩
 ·rcases E2.mp J with z | z
  ·exact x.new b z
  ·have:b=a:=by simpa using z
   subst this; exact .inr Z
 ·show (ρ.tr ++ [a]).length=_;rw [O6,O6,R.len]; rfl
 ·show (ρ.tr ++ [a]).Nodup;refine cS.mpr ⟨R.nd,by simp,fun b J c hc e=>?_⟩;have:c=a:=by simpa using hc
  subst this; subst e;exact R.ap b hm J
 ·rcases E2.mp z with z | z
  ·exact R.ap b (x.hidM b J) z
  ·have:b=a:=by simpa using z
   subst this; exact Y J
 ·have h1:(ρ.tr ++ [a])[i]?=zo b:=h1
  by_cases hi:i < j.length
  ·rw [O7 (by rw [R.len]; exact hi)] at h1;rw [O7 hi] at h2;have q:=R.cell i b c h1 h2;cases c with
   | lst O=>
    obtain ⟨I,e1,e2⟩:=q;exact ⟨I,e1,e2.trk hm x.hidM⟩
   | dic O=>
    obtain ⟨I,e1,e2⟩:=q;exact ⟨I,e1,e2.1,e2.2.trk hm x.hidM⟩
   | dtp O=>
    obtain ⟨I,e1,e2⟩:=q;exact ⟨I,e1,e2.1,e2.2.trk hm x.hidM⟩
   | frd O=>
    obtain ⟨I,e1,e2⟩:=q;exact ⟨I,e1,e2.1,e2.2.trk hm x.hidM⟩
   | obj C O=>
    obtain ⟨I,e1,e2⟩:=q;exact ⟨I,e1,e2.1,e2.2.trk hm x.hidM⟩
  ·rw [D4 (by rw [R.len]; omega)] at h1;rw [D4 (by omega)] at h2;have e0:i - j.length=0:=by
    rcases fZ (i - j.length) with z | z
    ·exact z
    ·rw [cz (by simp; omega)] at h2; cases h2
   rw [R.len,e0] at h1;rw [e0] at h2;simp at h1 h2;subst h1; subst h2;exact ⟨vs,ha,r.1,r.2.trk hm x.hidM⟩
 ·show (ρ.tr ++ [a])[j.length]?=zo a;rw [<- R.len,D4 (O5 _),L1]; rfl
end
section
variable {X:Cx} {E:XK} {k e:aH} {mk m:ME} {dpos:Pos}
def Qbe (st:Q0) (pv pk:PV):Res PV:=match Xn pk with
 | some ks=>.ok (.ref st.length) (st ++ [.dtp [(ks,pv)]])
 | none=>.stuck
def je (mk m:ME):ME:=fun Γ st=>(mk Γ st).bind fun pk st1=>(m Γ st1).bind fun pv st2=>Qbe st2 pv pk
theorem Qds (hu:X.A.units + 9 < aQ) (hk:SimE X E k mk) (he:SimE X E e m):SimE X E (.Dict [zo k] [e] dpos) (je mk m):=by
 refine ⟨fun Γ σ H ρ st Q R G h=>WE.of (Qe2 (by omega) Ja Ja) ?_⟩;intro p hp;have x0:Ext H ρ (upd H p (.dT [])) (ρ.hide p):=Ext.hide hp;refine hk.use' (R.hide hp) (G.hide hp) (h.bind.later x0) fun a1 O H1 ρ1 v1 f1 x1 R1 G1 r1 _=>?_
 have h:=h;unfold je at h;rw [f1] at h;have h:Acc X.mg E H ρ (QV Q) ((m Γ O).bind fun pv q=>Qbe q pv a1):=h
 refine he.use' R1 G1 (h.bind.later (x0.trans x1)) fun a2 q H2 j Y f2 x2 R2 G2 r2 _=>?_
 rw [f2] at h;have h:Acc X.mg E H ρ (QV Q) (Qbe q a2 a1):=h;unfold Qbe at h
 split at h
 ·rename_i ks ek;obtain ⟨b,rfl,kr⟩:=Vp ek (r1.ext x2);have xe:Ext (upd H p (.dT [])) (ρ.hide p) H2 j:=x1.trans x2;have Z:p∉(ρ.hide p).tr:=fun z=>R.fresh hp (.inl z)
  have J:H2 p=zo (.dT []):=xe.keep p _ J3 Z;have I:p∈j.hid:=xe.hidM p F2;refine ⟨ks,b,Y,rfl,kr,J,?_⟩;have y:Ext H ρ (upd H2 p (.dT [(ks,Y)])) j:=(x0.trans xe).put0 hp;have g2:=r2.rehide (o:=.dT [(ks,Y)]) I;obtain ⟨x5,R5,r5⟩:=Qgu (ps:=[(ks,a2)]) R y (R2.rehide I) I hp J3 ⟨rfl,RepL.cons g2 RepL.nil⟩;exact h _ _ x5 R5 _ r5
 ·exact h.elim
@[simp] theorem Qry (Γ:Gam) (st:Q0):je mk m Γ st=(mk Γ st).bind fun z j=>(m Γ j).bind fun pv q=>Qbe q pv z:=rfl
end
section
variable {X:Cx} {E:XK}
end
section
variable {X:Cx} {E:XK} {a:aH} {ma:ME} {pos:Pos}
end
end Sm
namespace Sm
open PySem PySem.Spec PyProof.Rows L2
section
variable {X:Cx} {E:XK}
end
end Sm
namespace Sm
open PySem PySem.Spec L2 SeqAt
def dEq (ks ls:List (Key × PV)):Bool:=decide (ks.length=ls.length) && ks.all fun kv=>match Qx6 ls kv.1 with
 | none=>yl
 | some v=>peq kv.2 v
def Qgh (ks:List (Key × PV)):Bool:=ks.all fun kv=>good 0 kv.2
section
variable {X:Cx} {E:XK}
variable {o:aH} {mo:ME} {apos cpos:Pos}
end
end Sm
namespace Sm
open PySem PySem.Spec L2 SeqAt
section
variable {X:Cx} {E:XK}
def Qv9 (ks:List (Key × PV)):Bool:=ks.all fun kv=>match kv.1 with
 | .inl _=>yo
 | .inr _=>yl
def eqM (st:Q0) (x y:PV):Option Bool:=
 if good dep (der st x)=yo/\good dep (der st y)=yo then zo (peq (der st x) (der st y))
 else match Qps st x,Qps st y with
  | some ks,zo ls=>if Qgh ks=yo/\Qgh ls=yo/\Qv9 ks=yo/\Qv9 ls=yo then zo (dEq ks ls) else zb
  | _,_=>zb
variable {e o i:aH} {m mo mi:ME} {pos tpos:Pos}
def Qs0 (i:Nat) (f:Int->Int->Int) (m:ME):MS:=fun Γ st=>match Γ[i]? with
 | some (zo (.int a))=>(m Γ st).sbind fun v st1=>match v with
  | .int b=>.nx (Γ.set i (zo (.int (f a b)))) st1
  | _=>.stuck
 | _=>.stuck
theorem Qq7 (i:Nat) {x:Str} {pos':Pos} {op:Operator} {f:Int->Int->Int} (hp:PIp X op (ipI f)) (J:X.N.Nodup) (O:SimE X E e m) (hi:X.N[i]?=zo x:=by rfl) (j:Loc X.env.scope x:=by first | exact Or.inl rfl | exact Or.inr rfl) (z:X.fn x=yo\/X.env.scope.names.lookup x=zo .local:=by first | exact .inl rfl | exact .inr rfl) :
  SimS X E (.AugAssign (.Name x pos') op e pos) (Qs0 i f m):=⟨fun Γ σ H ρ st D R G h=>by
 unfold Qs0 at h
 split at h
 ·rename_i a ea;obtain ⟨v,ev,I⟩:=G.2 i _ ea;cases I;refine WS.of (Qqw J hi j Ja hp z) ⟨_,ev,O.use R G h.bind fun p Y H1 ρ1 w x1 q Z r1 h1=>?_⟩;cases p with
  | int b=>
   cases r1;exact ⟨a,b,rfl,rfl,h1 _ H1 ρ1 (Ext.refl _ _) q (Z.set (p:=.int (f a b)) (v:=.int (f a b)) rfl i)⟩
  | _=>exact h1.elim
 ·exact h.elim⟩
end
end Sm
namespace L2
open PySem PySem.Spec PyProof.Rows
end L2
namespace Sm
open PySem PySem.Spec PyProof.Rows L2
section
variable {X:Cx} {E:XK} {pos:Pos} {e:aH} {m:ME}
end
end Sm
namespace Sm
open PySem PySem.Spec PyProof.Rows L2
section
variable {X:Cx} {E:XK} {tg:aH} {a b c:aH} {mr:ML} {p pos:Pos}
end
end Sm
namespace Sm
open PySem PySem.Spec L2
section
variable {X:Cx} {E:XK} {o:aH} {mo:ME} {apos cpos:Pos} {to:TE}
end
section
variable {X:Cx}
end
section
variable {H:Hp} {ρ:Tk}
end
section
variable {X:Cx} {E:XK} {o e:aH} {es:List aH} {mo m:ME} {mr:Gam->Q0->Res (List PV)} {C:aB} {f:Str} {pos pos' apos p:Pos}
end
section
variable {X:Cx} {E:XK}
end
section
variable {X:Cx} {E:XK} {pos:Pos} {e:aH} {m:ME}
end
section
end
section
variable {X:Cx} {E:XK}
end
section
variable {X:Cx} {pins pins':List (aB × Obj)} {E:XK} {σ:St} {H:Hp} {s:aC}
end
section
variable {X:Cx} {body:List aM} {mb:MS} {cn n:Str} {i:Nat} {CC:aB} {np hpos pos:Pos} {b₀:aM} {suite:List aM} {ts:aB->TS} {Γ:Gam} {σ:St} {H:Hp} {ρ:Tk} {st:Q0} {D:Ends}
end
section
variable {X:Cx} {E:XK}
end
end Sm
namespace Sm
open PySem PySem.Spec PyProof.Rows L2
section
variable {X:Cx} {E:XK}
end
end Sm
namespace Sm
open PySem PySem.Spec L2
section
variable {X:Cx} {E:XK} {pos:Pos} {tg:aH} {e a b:aH} {m ma mb:ME}
def Qea:OP:=fun st p q=>match p,q with
 | .int a,.int b=>.ok (.bl (decide (a<=b))) st
 | .str a,.str b=>.ok (.bl (!decide (b.cps.toList < a.cps.toList))) st
 | _,_=>.stuck
theorem Qgy:OpS X E (aS .LtE) Qea:=⟨fun H ρ st p q x y Q R j z h=>by
 unfold Qea at h
 split at h
 ·cases j; cases z;exact WO.of Qpg ⟨_,_,rfl,rfl,now R h rfl⟩
 ·cases j; cases z;exact WO.of Qe5 ⟨_,_,rfl,rfl,now R h rfl⟩
 ·exact h.elim⟩
def Qmj:OP:=fun st p q=>match p,q with
 | .str z,.int i=>match atI z.cps.toList i with
  | some c=>if z.length<=lim then .ok (.str ⟨#[c]⟩) st else .stuck
  | none=>.stuck
 | _,_=>.stuck
theorem Qqe (ha:SimE X E a ma) (hb:SimE X E b mb) (hs:Q7j b:=by exact fun _ _=>rfl):SimE X E (.Subscript a b pos) (mOp Qmj ma mb):=
 ⟨fun Γ σ H ρ st Q R G h=>WE.of (Qpe Qhz Ja Ja hs) (ha.use R G h.bind fun p Y H1 ρ1 v x1 J G1 r1 h1=>hb.use J G1 h1.bind fun q I H2 j u x2 R2 G2 r2 h2=>by
  unfold Qmj at h2
  split at h2
  ·rename_i z i;cases r1; cases r2
   split at h2
   ·rename_i c O
    split at h2
    ·rename_i Z;exact .inr (.inr ⟨z,i,c,rfl,rfl,Yv Z,O,now R2 h2 rfl⟩)
    ·exact h2.elim
   ·exact h2.elim
  ·exact h2.elim)⟩
def q9 (x:Str):List PV:=x.cps.toList.map fun c=>.str ⟨#[c]⟩
def Qcj (m:ME):MI:=fun Γ st=>(m Γ st).bind fun p st1=>match p with
 | .str x=>if x.length<=lim then .ok (q9 x,[]) st1 else .stuck
 | _=>.stuck
theorem Qjz {H:Hp} {ρ:Tk} (x:Str):Src (Qt1 x) (q9 x) [] H ρ:=by
 have O:(q9 x).length=x.cps.size:=by unfold q9; rw [O1,bc]
 refine ⟨fun H2 j q _ _ _=>?_,fun H2 j q _ _ _ i hi=>?_,fun H2 j q _ _ _ i p hp y J I=>?_⟩
 ·show x.cps.size<=_; omega
 ·show i < x.cps.size; omega
 ·obtain ⟨rfl,c,z,rfl⟩:=I;refine ⟨Same.refl _,?_⟩;unfold q9 at hp;rw [D7,be,z] at hp;cases hp;exact rfl
theorem Qqa (J:SimE X E e m):SimI X E tg e (Qcj m):=⟨fun Γ σ H ρ st P R' R G h k=>by
 have Z:Acc X.mg E H ρ _ (m Γ st):=Acc.bind h;refine WI.of (Qqz Ja) (J.use' R G Z fun p j H1 ρ1 v eq x1 z Y O h1=>?_)
 split at h1
 ·rename_i x
  split at h1
  ·rename_i I;cases O;have q:(q9 x).length<=lim:=by unfold q9; rw [O1,bc]; exact I
   exact ⟨x,rfl,k (q9 x,[]) j H1 ρ1 _ (by simp only [Qcj,eq,Res.bind,bS I]) x1 z Y (Z4 _) (Yv q) (Qjz x) (h1 H1 ρ1 (Ext.refl _ _) z)⟩
  ·exact h1.elim
 ·exact h1.elim⟩
def Q0c:List PV->Option (List Str)
 | []=>zo []
 | .str x :: r=>(Q0c r).map (x :: ·)
 | _ :: _=>zb
theorem Q4n {H:Hp} {ρ:Tk}:∀ {ps:List PV} {ss:List Str} {vs:List V},Q0c ps=zo ss->RepL H ρ ps vs->vs=ss.map V.str
 | [],_,_,e,r=>by cases e; exact r
 | .str x :: ps,_,_,e,⟨v,t,e1,q,j⟩=>by
  have e:(Q0c ps).map (x :: ·)=zo _:=e;cases z:Q0c ps with
  | none=>rw [z] at e; cases e
  | some l=>
   rw [z] at e;cases e;rw [e1,Q4n z j,show v=V.str x from q];rfl
def Qhe (sep:Str) (st:Q0) (ps:List PV):Res PV:=match ps with
 | [p]=>match (Wu st p).bind Q0c with
  | some ss=>if JoinOk sep ss=yo then .ok (.str (Txt.join sep ss)) st else .stuck
  | none=>.stuck
 | _=>.stuck
def Qcm (mo:ME) (mr:Gam->Q0->Res (List PV)):ME:=fun Γ st=>(mo Γ st).bind fun p st1=>match p with
 | .str sep=>(mr Γ st1).bind fun ps st2=>Qhe sep st2 ps
 | _=>.stuck
variable {o:aH} {es:List aH} {mo:ME} {mr:Gam->Q0->Res (List PV)} {apos cpos:Pos}
theorem Qk9 (ho:SimE X E o mo) (ha:SimA X E (e :: es) mr)
  (z:bD o "join" X.env (aO o X.env)=aO o X.env:=by rfl)
  (J:((aY cpos (aN (e :: es) X.env)).all (fun x=>!x.1) && (backToKw cpos (keywordEach [] X.env)).all (fun x=>x.1.isSome)
   && decide ((e :: es).length + ([]:List Keyword).length + (if ([]:List Keyword).isEmpty then 0 else 1) < 30))=yo:=by rfl)
  (I:(apos.endLine == cpos.line)=yo:=by rfl) (hs:aN (e :: es) X.env=(yl,aO e X.env) :: aN es X.env:=by rfl) (j:(aY cpos (aN es X.env)).any (·.1)=yl:=by rfl) :
  SimE X E (.Call (.Attribute o "join" apos) (e :: es) [] cpos) (Qcm mo mr):=
 ⟨fun Γ σ H ρ st Q R G h=>WE.of (Qgs PySem.F.plainAttrs_str PySem.F.slot_str_join PySem.F.type_str_join Qmk Ja Q0s z J I hs j) (ho.use R G h.bind fun p a2 H1 ρ1 v x1 R1 G1 r1 h1=>by
  split at h1
  ·rename_i Y;cases r1;refine ⟨rfl,ha.use R1 G1 h1.bind fun ps O H2 a1 us x2 R2 G2 r2 h2=>?_⟩;unfold Qhe at h2
   split at h2
   ·rename_i q;obtain ⟨y,rfl,ry⟩:=Yd r2
    split at h2
    ·rename_i ss es
     split at h2
     ·rename_i hz;cases Z:Wu O q with
      | none=>rw [Z] at es; cases es
      | some xs=>
       rw [Z] at es;obtain ⟨c,vs,rfl,hc,rc⟩:=Yp R2 ry Z;rw [Q4n es rc] at hc;exact ⟨Y,c,ss,rfl,rfl,.inl hc,hz,now R2 h2 rfl⟩
     ·exact h2.elim
    ·exact h2.elim
   ·exact h2.elim
  ·exact h1.elim)⟩
end
end Sm
namespace L2
open PySem PySem.Spec PyProof.Rows PySem.W
def SzS (h:Heap) (a:aB) (n:Nat):Prop:=∃ o es ep t,h.get? a=zo o/\o.ExactSet/\o.data=.set es ep t/\t.fits es.size=yo/\es.size=n
def Qeq (a:aB) (n:Nat):HO:=.ext fun h=>SzS h a n
section
variable {X:Cx}
theorem Qf0 (Z:X.A.units + 9 < aQ) (hc:X.calm=yo):Vs X (.type "set") (fun xs H Q=>∃ p vs,∃ ks:List HK,xs=[.ref p]/\SqT X.K H p vs/\aR (fun v k=>∃ b,v=.ref b/\KR H k b) vs ks/\ks.length<=76/\∀ l,H l=zb->Q (.ref l) (upd H l (Qeq l (Y3 ks).length))):=by
 intro pins s σ H xs us Q I r h;obtain ⟨p,vs,ks,rfl,hq,Y,hl,q⟩:=h;obtain ⟨u,rfl,J⟩:=Xt r;cases J;obtain ⟨its,O,pl,hz⟩:=I.tuple hq;have j:its.length=ks.length:=by rw [<- O.length,Paired.length Y]
 refine ju (B:=fun _=>True) (ks:=ks) Z (I.ok.hd hc) pl (by rw [O8,j]) (fun i v e=>?_) hl fun h' tk gh k=>?_
 ·have e:its[i]?=zo v:=by simpa using e
  have hi:i < vs.length:=by have:=(O0.mp e).1; rw [O.length]; exact this
  obtain ⟨x,ex,J⟩:=O.get (O2 hi);rw [e] at ex; cases ex;obtain ⟨k,ek,b,eb,hb⟩:=Ki Y (O2 hi);rw [eb] at J;cases J;exact ⟨k,b,ek,rfl,U0 I.hok hb,trivial⟩
 ·obtain ⟨o,es,ep,t,h1,h2,h3,⟨a1,p1,r1⟩,h5,h6⟩:=gh;have sz:SzS h' s.heap.objs.size (Y3 ks).length:=⟨o,es,ep,t,h1,h2,h3,by have:=h6.fits; rwa [O1,bc] at this,by rw [<- bc,Paired.length r1,p1.length_eq]⟩;refine ⟨.ref s.heap.objs.size,upd H s.heap.objs.size (Qeq s.heap.objs.size (Y3 ks).length),I.laid (t':=tk) k (O5 _) ⟨sz,⟨o,h1⟩,fun h1 h2 z kk=>?_⟩,rfl,q _ (I.hok.fresh (O5 _))⟩
  obtain ⟨o,es,ep,t,g1,g2⟩:=z;exact ⟨o,es,ep,t,kk _ g1,g2⟩
theorem Qf2:Vs X (.builtin "len") (fun xs H Q=>∃ p n,xs=[.ref p]/\H p=zo (Qeq p n)/\n<=4000/\Q (.int n) H):=by
 intro pins s σ H xs Y Q I r h;obtain ⟨p,n,rfl,hp,O,q⟩:=h;obtain ⟨u,rfl,z⟩:=Xt r;cases z;obtain ⟨⟨o,es,ep,t,h1,h2,J,j,rfl⟩,_,_⟩:=I.hok p _ hp;exact call_len_set h1 h2 J j (by omega) ⟨.int _,H,I.tok _,⟨s.toks + 1,rfl⟩,q⟩
theorem Q3r (hc:X.calm=yo):Vs X (.type "list") (fun xs H Q=>∃ a,∃ kvs:List (HK × V),xs=[.ref a]/\H a=zo (.dT kvs)/\∀ d vs,H d=zb->aR (fun v (p:HK × V)=>∃ b,v=.ref b/\KR H p.1 b) vs kvs->Q (.ref d) (upd H d (.lst vs))):=by
 intro pins s σ H xs us Q I r h;obtain ⟨a,kvs,rfl,ea,q⟩:=h;obtain ⟨u,rfl,rx⟩:=Xt r;cases rx;obtain ⟨z,hs,es,ep,J,Z,O,j⟩:=Qbb I.hok ea;have l1:kvs.length=J.length:=Paired.length j;have l2:es.size=J.length:=by
  have:=congrArg dG O;simpa using this
 refine kdl_call (Qc3 hs) (I.ok.hd hc) Z (by omega) fun h' tk acc c k1 k2 k3=>?_
 have e:acc.toList=J.map bY:=by
  rw [<- O];apply ce;intro i
  by_cases z:i < es.size
  ·have hi:i < acc.size:=by rw [k3.1]; exact z
   obtain ⟨e,h1,h2⟩:=k3.2 i acc[i] (bh hi);rw [be,bh hi,h2,D7,be,h1]; rfl
  ·rw [be,cb (by rw [k3.1]; omega),D7,be,cb (by omega)]; rfl
 have hv:Vals (J.map V.ref) acc.toList:=by
  rw [e];clear e j l1 l2 O
  induction J with
  | nil=>exact .nil
  | cons x l Y=>exact .cons rfl Y
 have hp:aR (fun v (p:HK × V)=>∃ b,v=.ref b/\KR H p.1 b) (J.map V.ref) kvs:=by
  clear e hv k3 k2 k1 O l1 l2 q ea z
  induction j with
  | nil=>exact .nil
  | cons Z _ Y=>exact .cons ⟨_,rfl,Z⟩ Y
 refine ⟨.ref s.heap.objs.size,_,I.laid (t':=tk) (o:=.lst (J.map V.ref)) k1 (O5 _) ⟨by rw [O1]; omega,acc.toList,c,hv,?_⟩,rfl,q _ _ (I.hok.fresh (O5 _)) hp⟩;rw [Array.toArray_toList]; exact k2
end
end L2
namespace Sm
open PySem PySem.Spec L2
section
variable {X:Cx} {E:XK} {a b:aH} {ma mb:ME} {pos:Pos}
def Q34 (ma:ME):ME:=fun Γ st=>(ma Γ st).bind fun p st1=>match p with
 | .tup ps=>match Yw Xn ps with
  | some ks=>if ks.length<=76 then .ok (.int (Y3 ks).length) st1 else .stuck
  | none=>.stuck
 | _=>.stuck
theorem Q8y {H:Hp} {ρ:Tk}:∀ {ps:List PV} {ks:List HK} {vs:List V},Yw Xn ps=zo ks->RepL H ρ ps vs->aR (fun v k=>∃ b,v=.ref b/\KR H k b) vs ks
 | [],_,_,e,r=>by cases e; cases r; exact .nil
 | p :: ps,_,_,e,⟨v,t,e1,q,j⟩=>by
  unfold Yw at e
  split at e
  ·rename_i k l e2 e3;cases e;rw [e1];exact .cons (Vp e2 q) (Q8y e3 j)
  ·cases e
theorem Qa8 {p p' pos':Pos} (Z:X.A.units + 9 < aQ) (ha:SimE X E a ma) (hc:X.calm=yo) (hg:Gl X "len") (hm:X.mg "len" = zb) (I:Gl X "set") (z:X.mg "set" = zb) (hb:aX "set" = zo (.type "set")) (O:aN [a] X.env=(yl,aO a X.env) :: aN [] X.env:=by rfl)
  (j:aN [.Call (.Name "set" p') [a] [] pos'] X.env=(yl,aO (.Call (.Name "set" p') [a] [] pos') X.env) :: aN [] X.env:=by rfl):SimE X E (.Call (.Name "len" p) [.Call (.Name "set" p') [a] [] pos'] [] pos) (Q34 ma):=
 ⟨fun Γ σ H ρ st Q R G hq=>WE.of (yg Qf2 hg hm bn (Wq (Xy (Qf0 Z hc) I z hb (Wq Ja Xg O) (by decide) (by decide) O rfl) Xg j) (by decide) (by decide) j rfl) (ha.use' R G hq.bind fun q a1 H1 ρ1 v e1 x1 R1 G1 r1 h1=>by
  split at h1
  ·rename_i ps
   split at h1
   ·rename_i ks ek
    split at h1
    ·rename_i hl;obtain ⟨c,vs,rfl,J,_,rc⟩:=r1;refine ⟨c,vs,ks,rfl,SqT.of J,Q8y ek rc,hl,fun l Y=>⟨l,_,rfl,J3,E1 (yr ks) (by omega),?_⟩⟩
     exact h1 _ _ (Ext.hide Y) (R1.hide Y) _ rfl
    ·exact h1.elim
   ·exact h1.elim
  ·exact h1.elim)⟩
@[simp] theorem Qpi (ma:ME) (Γ:Gam) (st:Q0):Q34 ma Γ st=(ma Γ st).bind fun p j=>match p with
 | .tup ps=>match Yw Xn ps with
  | some ks=>if ks.length<=76 then .ok (.int (Y3 ks).length) j else .stuck
  | none=>.stuck
 | _=>.stuck:=rfl
mutual
def hkV:HK->PV
 | .int i=>.int i
 | .str x=>.str x
 | .tup l=>.tup (hkVL l)
def hkVL:List HK->List PV
 | []=>[]
 | k :: l=>hkV k :: hkVL l
end
mutual
theorem Qcw {H:Hp} {ρ:Tk} (o:∀ b xs,H b=zo (.tup xs)->b∉ρ):∀ {k:HK} {v:V},KAt H k v->Rep H ρ (hkV k) v
 | .int _,_,r=>r
 | .str _,_,r=>r
 | .tup _,_,⟨a,vs,e,h,r⟩=>⟨a,vs,e,h,o a vs h,hkVL_rep o r⟩
theorem hkVL_rep {H:Hp} {ρ:Tk} (o:∀ b xs,H b=zo (.tup xs)->b∉ρ):∀ {l:List HK} {vs:List V},KAtL H l vs->RepL H ρ (hkVL l) vs
 | [],_,r=>r
 | _ :: _,_,⟨v,r,e,h,t⟩=>⟨v,r,e,Qcw o h,hkVL_rep o t⟩
end
def zq:CF:=fun st ps=>match ps with
 | [p]=>match Yi st p with
  | some kvs=>.ok (.lst (kvs.map fun kv=>hkV kv.1)) st
  | none=>.stuck
 | _=>.stuck
theorem Q02 {H:Hp} {ρ:Tk} (o:∀ b xs,H b=zo (.tup xs)->b∉ρ):∀ {kvs:List (HK × PV)} {j:List (HK × V)} {vs:List V},RepD H ρ kvs j->aR (fun v (p:HK × V)=>∃ b,v=.ref b/\KR H p.1 b) vs j->RepL H ρ (kvs.map fun kv=>hkV kv.1) vs
 | [],[],_,_,p=>by cases p; rfl
 | [],b :: j,_,r,_=>by have:=r.length; cases this
 | a :: kvs,[],_,r,_=>by have:=r.length; cases this
 | a :: kvs,b :: j,_,r,.cons h t=>by
  obtain ⟨J,x,q,e,Y,O⟩:=r;obtain ⟨e1,e2⟩:=cg (show b.1 :: j.map bq=a.1 :: kvs.map bq from J);obtain ⟨e3,z⟩:=cg (show b.2 :: j.map cT=x :: q from e);subst z;obtain ⟨c,rfl,I⟩:=h;refine RepL.cons ?_ (Q02 o ⟨e2,O⟩ t);show Rep H ρ (hkV a.1) _;rw [<- e1];exact Qcw o I.1
theorem Q9j (z:X.calm=yo):CallS X E (.type "list") zq:=⟨fun H ρ st ps xs Q R j h=>by
 unfold zq at h
 split at h
 ·rename_i p;obtain ⟨v,rfl,r⟩:=Yd j
  split at h
  ·rename_i kvs e;obtain ⟨n,a,vs,rfl,rfl,_,_,J,q⟩:=Yy R r e;exact WC.of (Q3r z) ⟨a,vs,rfl,J,fun d O hd I=>jc R h (Q02 (Q0z R) q I) d hd⟩
  ·exact h.elim
 ·exact h.elim⟩
end
structure TupG (K:bW) (mg:Str->Option aA) (n:Str) (ss:List Str):Prop where
 ex:∃ (a:aB) (o:Obj) (its:Array aA) (m:Nat),mg n=zo (.ref a)/\K.lookup a=zo o/\o.cls=.type "tuple" /\ o.data=.seq its m/\its.size<=sizeLine/\Vals (ss.map V.str) its.toList
def Kn (ss:List Str) (x:Str):Bool:=ss.any fun s=>decide (s=x)
def Q6n (neg:Bool) (ss:List Str) (m:ME):ME:=fun Γ st=>(m Γ st).bind fun p st1=>match p with
 | .str x=>.ok (.bl (Kn ss x != neg)) st1
 | _=>.stuck
theorem Q3f (x:Str):∀ ss:List Str,inV (.str x) (ss.map V.str)=Kn ss x
 | []=>rfl
 | s :: ss=>by
  have j:=Q3f x ss;unfold inV Kn at *;rw [D2,bz,bz,j];congr 1
section
variable {X:Cx} {E:XK} {pos p:Pos} {e:aH} {m:ME} {n:Str} {ss:List Str}
theorem Qqf (tg:TupG X.K X.mg n ss) (Y:Gl X n) (Z:SimE X E e m) (hd:(n == ("__debug__" : Str))=yl:=by decide):SimE X E (.Compare e [.In] [.Name n p] pos) (Q6n yl ss m):=by
 obtain ⟨a,o,its,k,hm,O,I,z,hz,hv⟩:=tg.ex;refine ⟨fun Γ σ H ρ st Q R G h=>WE.of (Q6c Qe6 Ja (Q6b (v:=.ref a) Y hm rfl hd) rfl) (Z.use R G h.bind fun q j H1 ρ1 v x1 J G1 r1 h1=>?_)⟩;cases q with
 | str x=>
  cases r1;have h1:Acc X.mg E H1 ρ1 (QV Q) (.ok (.bl (Kn ss x != yl)) j):=h1;refine ⟨a,ss.map V.str,rfl,.inr (.inr ⟨o,its,k,O,I,z,hz,hv⟩),rfl,by simp [jx],?_⟩;rw [Q3f];rw [dB] at h1;exact now J h1 rfl
 | _=>exact h1.elim
theorem Qdr (tg:TupG X.K X.mg n ss) (Y:Gl X n) (Z:SimE X E e m) (hd:(n == ("__debug__" : Str))=yl:=by decide):SimE X E (.Compare e [.NotIn] [.Name n p] pos) (Q6n yo ss m):=by
 obtain ⟨a,o,its,k,hm,O,I,z,hz,hv⟩:=tg.ex;refine ⟨fun Γ σ H ρ st Q R G h=>WE.of (Q6c Q6f Ja (Q6b (v:=.ref a) Y hm rfl hd) rfl) (Z.use R G h.bind fun q j H1 ρ1 v x1 J G1 r1 h1=>?_)⟩;cases q with
 | str x=>
  cases r1;have h1:Acc X.mg E H1 ρ1 (QV Q) (.ok (.bl (Kn ss x != yo)) j):=h1;refine ⟨a,ss.map V.str,rfl,.inr (.inr ⟨o,its,k,O,I,z,hz,hv⟩),rfl,by simp [jx],?_⟩;rw [Q3f];rw [show (Kn ss x != yo)=!Kn ss x by cases Kn ss x <;> rfl] at h1;exact now J h1 rfl
 | _=>exact h1.elim
end
section
variable {X:Cx} {E:XK}
def prV (p:Int × Str):PV:=.tup [.int p.1,.str p.2]
def Qaz:HK->Option (Int × Str)
 | .tup [.int x,.str y]=>zo (x,y)
 | _=>zb
def Q53:List (HK × PV)->Option (List (Int × Str))
 | []=>zo []
 | kv :: r=>match Qaz kv.1,Q53 r with
  | some p,zo l=>zo (p :: l)
  | _,_=>zb
theorem Qn8 {k:HK} {p:Int × Str} (h:Qaz k=zo p):k=.tup [.int p.1,.str p.2]:=by
 unfold Qaz at h
 split at h
 ·cases h; rfl
 ·cases h
theorem Q96 {H:Hp} {ρ:Tk}:∀ {kvs:List (HK × PV)} {vs:List (HK × V)} {nss:List (Int × Str)},Q53 kvs=zo nss->RepD H ρ kvs vs->aR (fun (p:HK × V) (ns:Int × Str)=>p.1=.tup [.int ns.1,.str ns.2]) vs nss
 | [],[],_,e,_=>by cases e; exact .nil
 | [],_ :: _,_,_,r=>by have:=r.length; cases this
 | _ :: _,[],_,_,r=>by have:=r.length; cases this
 | (k,p) :: kvs,(j,v) :: vs,nss,e,r=>by
  obtain ⟨J,x,t,z,Y,O⟩:=r;obtain ⟨e1,e2⟩:=cg (show j :: vs.map bq=k :: kvs.map bq from J);obtain ⟨e3,I⟩:=cg (show v :: vs.map cT=x :: t from z);subst e3; subst I;unfold Q53 at e
  split at e
  ·rename_i q l h1 h2;cases e;exact .cons (show j=_ by rw [e1]; exact Qn8 h1) (Q96 h2 ⟨e2,O⟩)
  ·cases e
theorem Q2a {H:Hp} {ρ:Tk} (q:∀ b xs,H b=zo (.tup xs)->b∉ρ):∀ {vs:List V} {nss:List (Int × Str)},aR (fun (v:V) (ns:Int × Str)=>∃ b,v=.ref b/\H b=zo (.tup [.int ns.1,.str ns.2])) vs nss->RepL H ρ (nss.map prV) vs
 | [],[],.nil=>rfl
 | v :: vs,ns :: nss,.cons ⟨b,e,j⟩ t=>by
  subst e;exact RepL.cons ⟨b,_,rfl,j,q b _ j,RepL.cons rfl (RepL.cons rfl RepL.nil)⟩ (Q2a q t)
theorem Q2b {H:Hp} {ρ:Tk} {nss:List (Int × Str)} {vs:List V} (r:RepL H ρ (nss.map prV) vs):∀ (j:List Nat),(∀ x∈j,x < vs.length)->RepL H ρ ((j.map fun i=>nss.getD i dQ).map prV) (j.map fun i=>vs.getD i .non)
 | [],_=>rfl
 | x :: j,h=>by
  have q:=h x (by simp);have I:=r.length;rw [O1] at I;have e1:(nss.map prV)[x]?=zo (prV (nss.getD x dQ)):=by
   rw [D7,O2 (by omega),D9,O2 (by omega)]; rfl
  have e2:vs[x]?=zo (vs.getD x .non):=by rw [D9,O2 q]; rfl
  exact RepL.cons (r.i e1 e2) (Q2b r j fun y z=>h y (O4 _ z))
def Q3s:CF:=fun st ps=>match ps with
 | [p]=>match Yi st p with
  | some kvs=>match Q53 kvs with
   | some nss=>if nss.length < 64 then .ok (.lst ((X1 nss).map prV)) st else .stuck
   | none=>.stuck
  | none=>.stuck
 | _=>.stuck
theorem Qiz (Z:X.calm=yo):CallS X E (.builtin "sorted") Q3s:=⟨fun H ρ st ps xs Q R I h=>by
 unfold Q3s at h
 split at h
 ·rename_i p;obtain ⟨v,rfl,r⟩:=Yd I
  split at h
  ·rename_i kvs e
   split at h
   ·rename_i nss en
    split at h
    ·rename_i Y;obtain ⟨n,a,vs,rfl,rfl,_,_,hb,O⟩:=Yy R r e;have q:=Q96 en O;have l2:vs.length=nss.length:=Paired.length q;refine WC.of (Q4g Z) ⟨a,vs,nss,rfl,hb,by omega,q,fun d pp us hd z hp he=>?_⟩;have rl:=Q2a (Q0z R) z;have l3:us.length=nss.length:=Paired.length z;have j:=Q2b rl pp fun x J=>by have:=hp.mem_iff.mp J; rw [l3]; simpa using this
     rw [he] at j;exact jc R h j d hd
    ·exact h.elim
   ·exact h.elim
  ·exact h.elim
 ·exact h.elim⟩
def xn:List PV->Option (List (HK × PV))
 | []=>zo []
 | .tup [kp,v] :: r=>match Xn kp,xn r with
  | some k,zo l=>zo ((k,v) :: l)
  | _,_=>zb
 | _ :: _=>zb
def ja (kvs l:List (HK × PV)):List (HK × PV):=l.foldl (fun acc p=>putT acc p.1 p.2) kvs
theorem Q2h {H:Hp} {ρ:Tk}:∀ {ps:List PV} {l:List (HK × PV)} {j:List V},xn ps=zo l->RepL H ρ ps j->∃ zs:List (HK × aB × V),aR (fun v (z:HK × aB × V)=>∃ c,v=.ref c/\H c=zo (.tup [.ref z.2.1,z.2.2])/\KR H z.1 z.2.1) j zs/\aR (fun (p:HK × PV) (z:HK × aB × V)=>p.1=z.1/\Rep H ρ p.2 z.2.2) l zs
 | [],_,_,e,r=>by cases e; cases r; exact ⟨[],.nil,.nil⟩
 | .tup [kp,v] :: ps,_,_,e,⟨w,t,e1,r1,r2⟩=>by
  unfold xn at e
  split at e
  ·rename_i k l h1 h2;cases e;obtain ⟨zs,Z,Y⟩:=Q2h h2 r2;obtain ⟨a,vs,e3,hb,_,w1,q1,O,s1,w2,q2,I,q,J⟩:=r1;cases J;subst I; subst O;obtain ⟨b,rfl,kr⟩:=Vp h1 s1;subst e1;exact ⟨(k,b,w2) :: zs,.cons ⟨a,e3,hb,kr⟩ Z,.cons ⟨rfl,q⟩ Y⟩
  ·cases e
theorem Q0d {H:Hp} {ρ:Tk}:∀ {l:List (HK × PV)} {zs:List (HK × aB × V)} {kvs:List (HK × PV)} {vs:List (HK × V)},RepD H ρ kvs vs->aR (fun (p:HK × PV) (z:HK × aB × V)=>p.1=z.1/\Rep H ρ p.2 z.2.2) l zs->RepD H ρ (ja kvs l) (L2.putAll vs zs)
 | _,_,_,_,r,.nil=>r
 | p :: l,z :: zs,_,_,r,.cons ⟨e1,e2⟩ t=>by
  show RepD H ρ (ja (putT _ p.1 p.2) l) (L2.putAll (Kh _ z.1 z.2.2) zs);rw [e1];exact Q0d (Q88 r z.1 e2) t
def Qjm (st:Q0) (p:PV) (ps:List PV):Res PV:=match p,ps with
 | .ref n,[.lst qs]=>match Yi st (.ref n),xn qs with
  | some kvs,zo l=>if kvs.length + l.length<=lim then .ok .non (st.set n (.dtp (ja kvs l))) else .stuck
  | _,_=>.stuck
 | _,_=>.stuck
def Qmr (mo:ME) (mr:Gam->Q0->Res (List PV)):ME:=fun Γ st=>(mo Γ st).bind fun p st1=>match Yi st1 p with
 | some _=>(mr Γ st1).bind fun ps st2=>Qjm st2 p ps
 | none=>.stuck
variable {o e:aH} {es:List aH} {mo:ME} {mr:Gam->Q0->Res (List PV)} {apos cpos:Pos}
theorem Qqb (hu:X.A.units + 9 < aQ) (hc:X.calm=yo) (ho:SimE X E o mo) (ha:SimA X E (e :: es) mr)
  (O:bD o "update" X.env (aO o X.env)=aO o X.env:=by rfl)
  (Y:((aY cpos (aN (e :: es) X.env)).all (fun x=>!x.1) && (backToKw cpos (keywordEach [] X.env)).all (fun x=>x.1.isSome)
   && decide ((e :: es).length + ([]:List Keyword).length + (if ([]:List Keyword).isEmpty then 0 else 1) < 30))=yo:=by rfl)
  (J:(apos.endLine == cpos.line)=yo:=by rfl) (hs:aN (e :: es) X.env=(yl,aO e X.env) :: aN es X.env:=by rfl) (I:(aY cpos (aN es X.env)).any (·.1)=yl:=by rfl) :
  SimE X E (.Call (.Attribute o "update" apos) (e :: es) [] cpos) (Qmr mo mr):=
 ⟨fun Γ σ H ρ st Q R G h=>WE.of (Qgs PySem.F.plainAttrs_dict PySem.F.slot_dict_update PySem.F.type_dict_update (Qeb hu hc) Ja Q0s O Y J hs I) (ho.use R G h.bind fun p a5 H1 ρ1 v x1 R1 G1 r1 h1=>by
  split at h1
  ·rename_i a9 e0;obtain ⟨n,a,a8,rfl,rfl,a7,_,a4,_⟩:=Yy R1 r1 e0;refine ⟨.inr (.inr (.inl ⟨rfl,.inr ⟨_,a4⟩⟩)),ha.use R1 G1 h1.bind fun ps a1 H2 j us x2 R2 G2 r2 h2=>?_⟩
   unfold Qjm at h2
   split at h2
   ·rename_i n' qs en;cases en;obtain ⟨y,rfl,ry⟩:=Yd r2
    split at h2
    ·rename_i kvs l e1 e2
     split at h2
     ·rename_i hl;obtain ⟨n2,a2,vs,en,ev,ea,a6,Z,rd⟩:=Yy R2 (r1.ext x2) e1;cases en; cases ev;obtain ⟨c,ws,rfl,a3,_,rc⟩:=ry;obtain ⟨zs,z1,z2⟩:=Q2h e2 rc;have x4:Ext H2 j (upd H2 a (.dT (L2.putAll vs zs))) j:=Ext.put (E3 ea) Z;have z3:aR (fun (p:HK × PV) (z:HK × aB × V)=>p.1=z.1/\Rep (upd H2 a (.dT (L2.putAll vs zs))) j p.2 z.2.2) l zs:=Paired.mapP z2 fun _ _ q=>⟨q.1,q.2.ext x4⟩
      have R4:Rel (upd H2 a (.dT (L2.putAll vs zs))) j (a1.set n (.dtp (ja kvs l))):=R2.putC ea Z ⟨_,J3,Q0d (rd.ext x4) z3⟩;have ll:l.length=zs.length:=Paired.length z2;refine ⟨a,c,vs,ws,zs,rfl,rfl,Z,a3,z1,?_,h2 _ j x4 R4 _ rfl⟩;rw [<- rd.length,<- ll];exact Yv hl
     ·exact h2.elim
    ·exact h2.elim
   ·exact h2.elim
  ·exact h1.elim)⟩
end
section
variable {X:Cx} {E:XK} {a:aH} {ma:ME} {pos:Pos}
def Q8h:List PV->Option (List (Int × Str))
 | []=>zo []
 | .tup [.int x,.str y] :: r=>(Q8h r).map ((x,y) :: ·)
 | _ :: _=>zb
def kQ (p:Int × Str):HK:=.tup [.int p.1,.str p.2]
theorem Qsb {p q:Int × Str} (h:kQ p=kQ q):p=q:=by
 unfold kQ at h;injection h with h
 injection h with h1 h
 injection h with h2 _
 injection h1 with h1
 injection h2 with h2
 exact dZ h1 h2
theorem Qp2 (acc:List (Int × Str)) (p:Int × Str):Jy (acc.map kQ) (kQ p)=(Jy acc p).map kQ:=by
 unfold Jy
 by_cases q:p∈acc
 ·rw [bS q,bS (F0.mpr ⟨p,q,rfl⟩)]
 ·rw [bT q,bT,E4]
  ·rfl
  ·intro h;obtain ⟨x,j,e⟩:=F0.mp h;rw [Qsb e] at j; exact q j
theorem Qmn (ps:List (Int × Str)):Y3 (ps.map kQ)=(Y3 ps).map kQ:=by
 have j:∀ (ps acc:List (Int × Str)),(ps.map kQ).foldl Jy (acc.map kQ)=(ps.foldl Jy acc).map kQ:=by
  intro ps
  induction ps with
  | nil=>intro acc; rfl
  | cons p ps q=>intro acc; rw [D2,F1,F1,Qp2,q]
 exact j ps []
theorem Q8g {H:Hp} {ρ:Tk}:∀ {ps:List PV} {ns:List (Int × Str)} {vs:List V},Q8h ps=zo ns->RepL H ρ ps vs->aR (fun v k=>∃ b,v=.ref b/\KR H k b) vs (ns.map kQ)
 | [],_,_,e,r=>by cases e; cases r; exact .nil
 | .tup [.int x,.str y] :: ps,_,_,e,⟨v,t,e1,q,j⟩=>by
  have e:(Q8h ps).map ((x,y) :: ·)=zo _:=e;cases z:Q8h ps with
  | none=>rw [z] at e; cases e
  | some l=>
   rw [z] at e;cases e;subst e1;exact .cons (Vp (p:=.tup [.int x,.str y]) rfl q) (Q8g z j)
theorem Qs5 {H:Hp} {n:Int × Str} {b:aB} (h:KR H (kQ n) b):H b=zo (.tup [.int n.1,.str n.2]):=by
 obtain ⟨⟨c,vs,e,j,z,q1,e1,k1,q,q2,e2,k2,k3⟩,_⟩:=h;cases e;cases k1; cases k2; cases k3;subst e2; subst e1;exact j
theorem Qd5 {H:Hp}:∀ {bs:List aB} {ks:List HK},aR (fun b k=>KR H k b) bs ks->∀ {ms:List (Int × Str)},ks=ms.map kQ->aR (fun b (n:Int × Str)=>H b=zo (.tup [.int n.1,.str n.2])) bs ms
 | [],_,.nil,[],_=>.nil
 | _ :: _,_ :: _,.cons _ _,[],e=>by cases e
 | [],_,.nil,_ :: _,e=>by cases e
 | b :: bs,k :: ks,.cons h t,m :: ms,e=>by
  rw [D2] at e;injection e with e1 e2
  exact .cons (Qs5 (by rw [<- e1]; exact h)) (Qd5 t e2)
theorem Qm4 {ks:List HK} {ns:List (Int × Str)} (p:ks.Perm (ns.map kQ)):∃ ms:List (Int × Str),ks=ms.map kQ/\ms.Perm ns:=by
 have h:∀ k∈ks,∃ n,k=kQ n:=fun k I=>by
  obtain ⟨n,_,e⟩:=F0.mp (p.mem_iff.mp I);exact ⟨n,e.symm⟩
 have h2:∃ ms:List (Int × Str),ks=ms.map kQ:=by
  clear p
  induction ks with
  | nil=>exact ⟨[],rfl⟩
  | cons k ks q=>
   obtain ⟨ms,e⟩:=q fun x z=>h x (O4 _ z)
   obtain ⟨n,e2⟩:=h k (by simp);exact ⟨n :: ms,by rw [D2,<- e,e2]⟩
 obtain ⟨ms,e⟩:=h2;refine ⟨ms,e,?_⟩;rw [e] at p;have j:∀ l:List (Int × Str),(l.map kQ).filterMap Qaz=l:=fun l=>by
  induction l with
  | nil=>rfl
  | cons x l q=>rw [D2,cW]; show (x :: (l.map kQ).filterMap Qaz)=_; rw [q]
 have:=p.filterMap Qaz
 rwa [j,j] at this
def jd (ma:ME):ME:=fun Γ st=>(ma Γ st).bind fun p st1=>match p with
 | .tup ps=>match Q8h ps with
  | some ns=>if ns.length < 64 then .ok (.lst ((X1 (Y3 ns)).map prV)) st1 else .stuck
  | none=>.stuck
 | _=>.stuck
theorem Q7z {p p' pos':Pos} (hu:X.A.units + 9 < aQ) (ha:SimE X E a ma) (hc:X.calm=yo) (hg:Gl X "sorted") (hm:X.mg "sorted" = zb) (a3:aX "sorted" = zo (.builtin "sorted")) (Y:Gl X "set") (J:X.mg "set" = zb) (I:aX "set" = zo (.type "set")) (he:aN [a] X.env=(yl,aO a X.env) :: aN [] X.env:=by rfl)
  (j:aN [.Call (.Name "set" p') [a] [] pos'] X.env=(yl,aO (.Call (.Name "set" p') [a] [] pos') X.env) :: aN [] X.env:=by rfl):SimE X E (.Call (.Name "sorted" p) [.Call (.Name "set" p') [a] [] pos'] [] pos) (jd ma):=
 ⟨fun Γ σ H ρ st Q R G hq=>WE.of (yg (Q7b hc) hg hm a3 (Wq (Xy (Qf1 hu hc) Y J I (Wq Ja Xg he) (by decide) (by decide) he rfl) Xg j) (by decide) (by decide) j rfl) (ha.use' R G hq.bind fun q O H1 ρ1 v e1 x1 R1 G1 r1 h1=>by
  split at h1
  ·rename_i ps
   split at h1
   ·rename_i ns ek
    split at h1
    ·rename_i hl;obtain ⟨c,vs,rfl,a2,_,rc⟩:=r1;refine ⟨c,vs,ns.map kQ,rfl,SqT.of a2,Q8g ek rc,by rw [O1]; omega,fun l bs a4 Z pk pb=>?_⟩;rw [Qmn] at pk;obtain ⟨ms,rfl,pm⟩:=Qm4 pk;have a5:=yr ns;have lb:bs.length=ms.length:=by have:=Paired.length pb; rwa [O1] at this
     have a1:=Qd5 pb rfl;have up:∀ {b:aB} {xs:List V},H1 b=zo (.tup xs)->(upd H1 l (Q57 X.w l bs)) b=zo (.tup xs):=fun {b xs} I=>by rw [Qg (Qh I Z)]; exact I
     refine ⟨l,bs,ms,rfl,J3,by rw [lb,pm.length_eq]; omega,Paired.mapP a1 fun _ _ z=>up z,fun d ds hd pd=>?_⟩;rw [jt pm] at pd;have x2:Ext H1 ρ1 (upd H1 l (Q57 X.w l bs)) (ρ1.hide l):=Ext.hide Z;have R2:Rel (upd H1 l (Q57 X.w l bs)) (ρ1.hide l) O:=R1.hide Z;have rl:=Q2a (Q0z R2) pd;exact h1 _ _ (x2.trans (Ext.add hd)) (R2.add hd) _ ⟨d,ds,rfl,J3,R2.fresh hd,rl.ext (Ext.add hd)⟩
    ·exact h1.elim
   ·exact h1.elim
  ·exact h1.elim)⟩
end
section
variable {X:Cx} {E:XK} {a i o:aH} {ma mo mi:ME} {pos:Pos}
def Q9h (st:Q0) (p q:PV):Res PV:=match Yi st p,Xn q with
 | some kvs,zo k=>match K8 kvs k with
  | some v=>.ok v st
  | none=>.stuck
 | _,_=>.stuck
def xz (mo mi:ME):ME:=fun Γ st=>(mo Γ st).bind fun p st1=>(mi Γ st1).bind fun q st2=>Q9h st2 p q
theorem Q1y (z:X.A.units + 9 < aQ) (ho:SimE X E o mo) (hi:SimE X E i mi) (hs:Qt0 i):SimE X E (.Subscript o i pos) (xz mo mi):=
 ⟨fun Γ σ H ρ st Q R G h=>WE.of (Qm5 z Ja Ja hs) (ho.use R G h.bind fun p a4 H1 ρ1 v1 x1 Z G1 J h1=>hi.use Z G1 h1.bind fun q a5 H2 Y v2 x2 R2 G2 r2 h2=>by
  unfold Q9h at h2
  split at h2
  ·rename_i kvs k e1 e2
   split at h2
   ·rename_i w e3;obtain ⟨n,a,vs,rfl,rfl,_,_,O,rd⟩:=Yy R2 (J.ext x2) e1;obtain ⟨b,rfl,kr⟩:=Vp e2 r2;rcases ye k rd with ⟨j,_⟩ | ⟨p,v,j,a2,I⟩
    ·rw [j] at e3; cases e3
    ·rw [j] at e3;cases e3;exact ⟨a,v,rfl,by have:=DGet.t (k:=k) O kr; rwa [a2] at this,now R2 h2 I⟩
   ·exact h2.elim
  ·exact h2.elim)⟩
def Qrx (ma:ME):ML:=fun Γ st=>(ma Γ st).bind fun p st1=>match U4 st1 p with
 | some xs=>if xs.length<=1000000 then .ok xs.reverse st1 else .stuck
 | none=>.stuck
theorem RepL.rev {H:Hp} {ρ:Tk}:∀ {xs:List PV} {vs:List V},RepL H ρ xs vs->RepL H ρ xs.reverse vs.reverse
 | [],_,r=>by cases r; exact RepL.nil
 | x :: xs,_,⟨v,t,e,q,j⟩=>by
  subst e;rw [dg,dg];exact (RepL.rev j).append (RepL.cons q RepL.nil)
theorem Q89 {H:Hp} {ρ:Tk}:∀ {xs:List PV} {vs:List V},RepL H ρ xs vs->xs.length=vs.length
 | [],_,r=>by cases r; rfl
 | x :: xs,_,⟨v,t,e,_,j⟩=>by subst e; rw [D5,D5,Q89 j]
theorem Qk1 {p p' pos':Pos} (ha:SimE X E a ma) (hc:X.calm=yo) (hg:Gl X "list") (hm:X.mg "list" = zb) (O:Gl X "reversed") (I:X.mg "reversed" = zb) (Y:aX "reversed" = zo (.type "reversed"):=by rfl) (he:aN [a] X.env=(yl,aO a X.env) :: aN [] X.env:=by rfl) (hs:aN [a] X.env=[(yl,aO a X.env)]:=by rfl)
  (Z:aN [.Call (.Name "reversed" p') [a] [] pos'] X.env=[(yl,aO (.Call (.Name "reversed" p') [a] [] pos') X.env)]:=by rfl):SimN X E (.Call (.Name "list" p) [.Call (.Name "reversed" p') [a] [] pos'] [] pos) (Qrx ma):=
 ⟨fun Γ σ H ρ st P Q R G hq k=>WE.of (Qak hc hg hm O I Va Y (Wq Ja Xg he) hs Z) (ha.use' R G hq.bind fun q j H1 ρ1 v e1 x1 R1 G1 r1 h1=>by
  split at h1
  ·rename_i xs ex
   split at h1
   ·rename_i hl;obtain ⟨b,vs,rfl,hb,rl⟩:=zj R1 r1 ex;refine ⟨b,vs,rfl,hb,by rw [<- Q89 rl]; exact hl,Q2y x1 R1 (RepL.rev rl) fun H3 J z us=>k _ j H3 J z us ?_⟩;unfold Qrx;rw [e1];show (match U4 j q with | some xs=>if xs.length<=1000000 then Res.ok xs.reverse j else .stuck | none=>.stuck)=_;rw [ex];show (if xs.length<=1000000 then Res.ok xs.reverse j else .stuck)=_;rw [bS hl]
   ·exact h1.elim
  ·exact h1.elim)⟩
def Q15 (ma:ME):ML:=fun Γ st=>(ma Γ st).bind fun p st1=>match Yi st1 p with
 | some kvs=>.ok (kvs.map fun kv=>hkV kv.1) st1
 | none=>.stuck
theorem Qfn {p:Pos} (ha:SimE X E a ma) (Z:X.calm=yo) (hg:Gl X "list") (hm:X.mg "list" = zb) (J:aN [a] X.env=(yl,aO a X.env) :: aN [] X.env:=by rfl):SimN X E (.Call (.Name "list" p) [a] [] pos) (Q15 ma):=
 ⟨fun Γ σ H ρ st P Q R G hq k=>WE.of (Xy (Q3r Z) hg hm Va (Wq Ja Xg J) (by decide) (by decide) J rfl) (ha.use' R G hq.bind fun q j H1 ρ1 v eq x1 I G1 r1 h1=>by
  split at h1
  ·rename_i kvs e;obtain ⟨n,a,vs,rfl,rfl,_,_,hb,rd⟩:=Yy I r1 e;refine ⟨a,vs,rfl,hb,fun d O hd Y=>Q2y x1 I (Q02 (Q0z I) rd Y) (fun H2 z a O=>k _ j H2 z a O ?_) d hd⟩;unfold Q15;rw [eq];show (match Yi j _ with | some (kvs:List (HK × PV))=>Res.ok (kvs.map fun (kv:HK × PV)=>hkV kv.1) j | none=>.stuck)=_
   rw [e]
  ·exact h1.elim)⟩
def Qh5:OP:=fun st p q=>match Yi st q with
 | some _=>Q2w yl st p q
 | none=>oIn yl st p q
theorem Qrb (I:X.A.units + 64 < aQ):OpS X E (aS .In) Qh5:=⟨fun H ρ st p q x y Q R j z h=>by
 unfold Qh5 at h
 split at h
 ·exact (Qra (by omega)).run H ρ st p q x y Q R j z h
 ·exact (Qpf I).run H ρ st p q x y Q R j z h⟩
end
structure KR (b:Bool):Prop where
 h:b=yo
section
variable {X:Cx} {E:XK} {pos:Pos} {tg iter elt:aH} {ifs:List aH} {sc:Scope} {ga:GA} {mi:MI} {mt:MT} {me:ME} {cap:List (Option Nat)} {i:Nat} {x:Str} {px cpos:Pos}
end
structure AtS (K:bW) (mg:Str->Option aA) (name:Str) (st:aM) (ps:List Str) (f:aB) (fd:aP):Prop where
 F:Fun K name name st f fd
 m:mg name=zo (.ref f)
 b:Binds K fd ps []
theorem Qsv {K:bW} {mg:Str->Option aA} {h:Heap} {name:Str} {st:aM} {ps:List Str} {f:aB} {Y:aA} {Z z:Option aB} {J:Array (Option aA)} {kV q I j ct:aA} (X:K.In h) (G:h.Ns aW mg)
  (a:bg K aW name=zo (zo (.ref f))) (l:K.lookup f=zo ⟨Y,Z,.func (br name name (Yq st) (Z0 st) (Qa st) .none kV q I z j ct),J⟩) (c:cs K j name=yo) (k:cX K (.ref f)=yo)
  (b:∀ (kV q I:aA) (z:Option aB) (j ct:aA) (O:List aA),O.length=ps.length->bindArgs (br name name (Yq st) (Z0 st) (Qa st) .none kV q I z j ct) ⟨O,[]⟩=pure (ps.zip O)) :
  AtS K mg name st ps f (br name name (Yq st) (Z0 st) (Qa st) .none kV q I z j ct):=
 have F:=Qih (st:=st) l c k
 ⟨F,bu X G a,F.binds b⟩
theorem AtS.def {P:aK} {w:aJ} {K:bW} {mg:Str->Option aA} {base:Heap} {name:Str} {st:aM} {ps:List Str} {f:aB} {fd:aP} {k n:Nat} {F:FN} (a:AtS K mg name st ps f fd) (j:ps.length=n) (G:FnOk P w K mg base (CXD P w) k f fd ps (spF mg n F)):DefS P w K mg base k name n F:=
 ⟨f,fd,ps,G,a.m,a.F.kp,a.b,j⟩
def FL (K:bW) (x ql:Str) (s:aM) (f:aB):Prop:=∃ (oc:aA) (od:Option aB) (kV dc pm:aA) (an:Option aB) (cd ct:aA) (sl:Array (Option aA)),K.lookup f=zo ⟨oc,od,.func (br x ql (Yq s) (Z0 s) (Qa s) .none kV dc pm an cd ct),sl⟩/\cs K cd ql=yo/\cX K (.ref f)=yo
theorem FL.fn {K:bW} {x j:Str} {s:aM} {f:aB} (h:FL K x j s f):∃ fd,Fun K x j s f fd:=let ⟨_,_,_,_,_,_,_,_,_,l,c,k⟩:=h; ⟨_,Qih l c k⟩
def FA (K:bW) (x:Str) (s:aM) (f:aB):Prop:=bg K aW x=zo (zo (.ref f))/\FL K x x s f
theorem FA.mk {K:bW} {x:Str} {s:aM} {f:aB} {z:aA} {O j:Option aB} {q:Array (Option aA)} {kV I J cd ct:aA} (a:bg K aW x=zo (zo (.ref f))) (l:K.lookup f=zo ⟨z,O,.func (br x x (Yq s) (Z0 s) (Qa s) .none kV I J j cd ct),q⟩) (c:cs K cd x=yo) (k:cX K (.ref f)=yo):FA K x s f:=⟨a,_,_,_,_,_,_,_,_,_,l,c,k⟩
theorem ln1 {α:Type} {l:List α} (h:l.length=1):∃ a,l=[a]:=match l,h with | [_],_=>⟨_,rfl⟩
theorem ln2 {α:Type} {l:List α} (h:l.length=2):∃ a b,l=[a,b]:=match l,h with | [_,_],_=>⟨_,_,rfl⟩
theorem ln3 {α:Type} {l:List α} (h:l.length=3):∃ a b c,l=[a,b,c]:=match l,h with | [_,_,_],_=>⟨_,_,_,rfl⟩
theorem ln4 {α:Type} {l:List α} (h:l.length=4):∃ a b c d,l=[a,b,c,d]:=match l,h with | [_,_,_,_],_=>⟨_,_,_,_,rfl⟩
theorem ln5 {α:Type} {l:List α} (h:l.length=5):∃ a b c d e,l=[a,b,c,d,e]:=match l,h with | [_,_,_,_,_],_=>⟨_,_,_,_,_,rfl⟩
theorem ln6 {α:Type} {l:List α} (h:l.length=6):∃ a b c d e f,l=[a,b,c,d,e,f]:=match l,h with | [_,_,_,_,_,_],_=>⟨_,_,_,_,_,_,rfl⟩
theorem ln7 {α:Type} {l:List α} (h:l.length=7):∃ a b c d e f g,l=[a,b,c,d,e,f,g]:=match l,h with | [_,_,_,_,_,_,_],_=>⟨_,_,_,_,_,_,_,rfl⟩
theorem FL.bd {K:bW} {x I:Str} {s:aM} {f:aB} {ps:List Str} (h:FL K x I s f)
  (b:∀ (kV j O:aA) (J:Option aB) (q ct:aA) (z:List aA),z.length=ps.length->bindArgs (br x I (Yq s) (Z0 s) (Qa s) .none kV j O J q ct) ⟨z,[]⟩=pure (ps.zip z)):∃ fd,Fun K x I s f fd/\Binds K fd ps []:=
 let ⟨_,F⟩:=h.fn
 ⟨_,F,F.binds b⟩
theorem Yz {K:bW} {mg:Str->Option aA} {h:Heap} {name:Str} {st:aM} {f:aB} (ps:List Str) (X:K.In h) (G:h.Ns aW mg) (a:FA K name st f)
  (b:∀ (kV z O:aA) (J:Option aB) (I ct:aA) (q:List aA),q.length=ps.length->bindArgs (br name name (Yq st) (Z0 st) (Qa st) .none kV z O J I ct) ⟨q,[]⟩=pure (ps.zip q):=by
   intro _ _ _ _ _ _ q j
   first | (obtain ⟨_,rfl⟩:=ln1 j; rfl) | (obtain ⟨_,_,rfl⟩:=ln2 j; rfl) | (obtain ⟨_,_,_,rfl⟩:=ln3 j; rfl) | (obtain ⟨_,_,_,_,rfl⟩:=ln4 j; rfl) | (obtain ⟨_,_,_,_,_,rfl⟩:=ln5 j; rfl) | (obtain ⟨_,_,_,_,_,_,rfl⟩:=ln6 j; rfl) | (obtain ⟨_,_,_,_,_,_,_,rfl⟩:=ln7 j; rfl)):∃ fd,AtS K mg name st ps f fd:=
 let ⟨a,l⟩:=a
 let ⟨_,F,B⟩:=l.bd b
 ⟨_,F,bu X G a,B⟩
theorem AtS.d {K:bW} {mg:Str->Option aA} {name:Str} {st:aM} {ps:List Str} {f:aB} {fd:aP} {k n:Nat} {F:FN} (a:AtS K mg name st ps f fd) (P:aK) (w:aJ) (base:Heap) (j:ps.length=n) (G:FnOk P w K mg base (CXD P w) k f fd ps (spF mg n F)):DefS P w K mg base k name n F:=a.def j G
def noL (K:bW):Bool:=K.all fun p=>match p.2.data with
 | .seq _ _=>(match p.2.cls with
  | .type n=>!(n == ("list" : Str))
  | _=>yo)
 | _=>yo
theorem Qax {K:bW} {a:aB} {o:Obj} (h:K.lookup a=zo o):(a,o)∈K:=by
 induction K with
 | nil=>cases h
 | cons p K j=>
  obtain ⟨b,u⟩:=p;rw [cK] at h;cases e:a == b with
  | true=>
   rw [e] at h;have:a=b:=by simpa using e
   subst this;cases h;exact F2
  | false=>
   rw [e] at h;exact O4 _ (j h)
theorem Qrn {K:bW} {a:aB} {o:Obj} {its:Array aA} {n:Nat} (j:noL K=yo) (h:K.lookup a=zo o) (q:o.cls=.type "list") (hd:o.data=.seq its n):False:=by
 have:=F4.mp j _ (Qax h);simp [q,hd] at this
theorem Q4u {H:Hp} {ρ:Tk}:∀ ns:List Int,RepL H ρ (ns.map .int) (ns.map V.int)
 | []=>rfl
 | n :: ns=>⟨_,_,rfl,rfl,Q4u ns⟩
theorem Qkf (H:Hp):Rel H Tk.nil []:=⟨rfl,ca,fun a h=>(by cases h),fun a h=>(by cases h),fun i a c h=>(by simp [Tk.nil] at h)⟩
def Q5x (K:bW):Sp:=fun vs H Q _=>∃ (a:aB) (ns:List Int),vs=[.ref a]/\SqL K H a (ns.map V.int)/\ns.length<=63/\∀ H',Q (.bl yo) H'
theorem Qn5 {P:aK} {w:aJ} {K:bW} {mg:Str->Option aA} {base:Heap} {CX:CXT} {k:Nat} {f:aB} {fd:aP} {ps:List Str} {FL:FN} (J:noL K=yo) (F:FnOk P w K mg base CX k f fd ps (spF mg 1 FL)) (j:∀ ns:List Int,ns.length<=63->∃ st',FL [.fro (ns.map .int)] []=.ok (.bl yo) st'):FnOk P w K mg base CX k f fd ps (Q5x K):=F.imp fun vs H Q E ⟨a,ns,e,Z,I,q⟩=>by
 subst e;obtain ⟨st',O⟩:=j ns I;have Y:Rd H a (.lst (ns.map V.int)):=by
  rcases Z with h | ⟨o,its,n,h1,h2,h3,z,_⟩
  ·exact h
  ·exact (Qrn J h1 h2 z).elim
 refine ⟨rfl,Tk.nil,[],[.fro (ns.map .int)],Qkf H,⟨_,_,rfl,⟨a,_,rfl,Y,Tk.not_nil a,Q4u ns⟩,rfl⟩,?_⟩;rw [O];intro H' ρ' x R v r;have e:v=.bl yo:=r;subst e;exact q H'
theorem Qiw {P:aK} {w:aJ} {H:Hp} {s:aC} {e:aA} {s':aC} (h:CXD P w [] H s (fun _ _ _=>False) e s'):False:=by
 obtain ⟨_,_,_,_,_,_,_,_,_,z⟩:=h;exact z
theorem walkS {l:fI} {k:Nat} {q:aK} {j:List Str} {XP:(Str->Option aA)->Heap->Prop} {O:aJ->Heap->Prop} {d:DefRec} {K:Params->bW} (hn:l.most=zo 63) (Z:Room k callerA) (I:d.params.defaults=[])
  (Y:∀ (w:aJ) (h:Heap),O w h->(K w.params).In h)
  (F:∀ (w:aJ) (mg:Str->Option aA) (J:aB) (h:Heap),(K w.params).In h->h.Ns aW mg->mg d.name=zo (.ref J) ->
   ∃ fd:aP,(∀ (s:aC) (u:aA),BindsTo s fd ⟨[u],[]⟩ [("script",u)])/\∀ base:Heap,(K w.params).In base->base.Ns aW mg->FnOk l.prog w (K w.params) mg base (CXD l.prog w) k J fd ["script"] (Q5x (K w.params))) :
  gK q j XP O l.row.toRowW d [] (fun f vs=>fG f vs):=
 L2.walk_of (n:=63) (k:=k) (x := "script") (CX:=fun w=>CXD l.prog w) (sp:=fun w=>Q5x (K w.params)) hn (by decide) I Z Y F (fun _ _ a ns hl _ hS=>⟨a,ns,rfl,hS,hl,fun _=>rfl⟩) fun _ _ _ _ _ z=>Qiw z
end Sm
namespace Lw
open PySem PySem.Spec L2 Sm
def top (i:Nat):aM:=PySem.Challenge.pw_lendwharf_k62_shortest_runs_that_break.main.body.getD i (.Pass ⟨0,0,0,0⟩)
abbrev z9:aM:=top 6
abbrev Kf:aM:=top 7
abbrev V0:aM:=top 8
abbrev xj:aM:=top 9
abbrev qd:aM:=top 17
abbrev Y2:aM:=top 18
abbrev xk:aM:=top 19
abbrev qg:aM:=top 20
abbrev Kg:aM:=top 21
abbrev qc:aM:=top 22
abbrev X9:aM:=top 23
abbrev qe:aM:=top 24
abbrev Xa:aM:=top 25
abbrev Wb:aM:=top 26
abbrev Ug:aM:=top 27
abbrev Q26:aM:=top 30
abbrev Vw:aM:=top 31
abbrev V1:aM:=top 32
abbrev Q25:aM:=top 33
abbrev Q66:aM:=top 34
abbrev X8:aM:=top 35
abbrev za:aM:=top 36
abbrev V2:aM:=top 38
abbrev Uh:aM:=top 39
abbrev Xe:aM:=top 40
abbrev Yc:aM:=top 41
abbrev Xd:aM:=top 42
abbrev Vx:aM:=top 43
abbrev Xf:aM:=top 44
abbrev Xc:aM:=top 45
abbrev Vy:aM:=top 46
abbrev Xb:aM:=top 47
abbrev yc:aM:=top 48
structure Txt (K:bW) (mg:Str->Option aA):Prop where
 b_all:mg "all" = zb
 b_bool:mg "bool" = zb
 b_enumerate:mg "enumerate" = zb
 b_int:mg "int" = zb
 b_isinstance:mg "isinstance" = zb
 b_len:mg "len" = zb
 b_list:mg "list" = zb
 b_range:mg "range" = zb
 b_reversed:mg "reversed" = zb
 b_set:mg "set" = zb
 b_sorted:mg "sorted" = zb
 b_str:mg "str" = zb
 b_tuple:mg "tuple" = zb
 c_MOST_SIGNS_OF_WORD:∃ t,mg "MOST_SIGNS_OF_WORD" = zo (.int 8 t)
 c_MOST_STOCK:∃ t,mg "MOST_STOCK" = zo (.int 20 t)
 c_MOST_STARTS:∃ t,mg "MOST_STARTS" = zo (.int 4 t)
 c_MOST_RULES:∃ t,mg "MOST_RULES" = zo (.int 60 t)
 c_MOST_USE_AT_ONCE:∃ t,mg "MOST_USE_AT_ONCE" = zo (.int 9 t)
 c_MOST_LETTERS_OF_RULE:∃ t,mg "MOST_LETTERS_OF_RULE" = zo (.int 8 t)
 c_MOST_STANDS:∃ t,mg "MOST_STANDS" = zo (.int 2000 t)
 u_EVENTS_WITHOUT_LETTER:TupG K mg "EVENTS_WITHOUT_LETTER" ["go", "fall"]
section
variable {P:aK} {w:aJ} {K:bW} {mg:Str->Option aA} {base:Heap}
def Uk:MS:=(Jd (Q00 (jq "int" (Q4 0)) (Qrv (jq "bool" (Q4 0)))))
def Vb:FN:=Qw Uk 1
theorem Q80:FnScope ["thing"] ["thing"] (Qa z9):=⟨rfl,rfl,rfl,by decide +kernel,rfl,by decide +kernel,by decide +kernel⟩
theorem Q8k {f:aB} {fd:aP} (F:Fun K "is_whole" "is_whole" z9 f fd) (T:Txt K mg)   : FnOk P w K mg base (CXD P w) 1 f fd ["thing"] (spF mg 1 Vb):=by
 refine Jg (k:=0) (m:=Uk) F Q80 rfl rfl rfl fun j A outer s H E q=>?_
 exact (Qe (Qr (Kc (Ka (T := "int") (by decide) (Q2 0) rfl T.b_isinstance rfl T.b_int Q9u) (Uf (Qqc (Ka (T := "bool") (by decide) (Q2 0) rfl T.b_isinstance rfl T.b_bool Q5k))))))
def U8:MS:=(Jd (Q00 (Qj 1 Vb (Q3 (Q4 0) Q9)) (Wd (oI fun a b=>.bl (decide (a<=b))) (oI fun a b=>.bl (decide (a<=b))) (Q4 1) (Q4 0) (Q4 2))))
def J6:FN:=Qw U8 3
theorem Q47:FnScope ["thing", "least", "most"] ["thing", "least", "most"] (Qa Kf):=⟨rfl,rfl,rfl,by decide +kernel,rfl,by decide +kernel,by decide +kernel⟩
theorem Q4a {f:aB} {fd:aP} (F:Fun K "is_between" "is_between" Kf f fd) (T:Txt K mg)  (j:DefS P w K mg base 1 "is_whole" 1 Vb):FnOk P w K mg base (CXD P w) 2 f fd ["thing", "least", "most"] (spF mg 3 J6):=by
 refine Jg (k:=1) (m:=U8) F Q47 rfl rfl rfl fun q A outer s H E z=>?_
 exact (Qe (Qr (Kc (Qc j (z.mono (by decide)) Qb rfl (Q1 (Q2 0) Q6)) (Uf (Q1z Q0f Q0f (Q2 1) (Q2 0) (Q2 2))))))
def Zk:MS:=(Jd (Q00 (jq "tuple" (Q4 0)) (Wd (oI fun a b=>.bl (decide (a<=b))) (oI fun a b=>.bl (decide (a<=b))) (Q4 1) (J1 Zv (Q3 (Q4 0) Q9)) (Q4 2))))
def Qu:FN:=Qw Zk 3
theorem yb:FnScope ["thing", "least", "most"] ["thing", "least", "most"] (Qa V0):=⟨rfl,rfl,rfl,by decide +kernel,rfl,by decide +kernel,by decide +kernel⟩
theorem yh {f:aB} {fd:aP} (F:Fun K "is_sized_tuple" "is_sized_tuple" V0 f fd) (T:Txt K mg)   : FnOk P w K mg base (CXD P w) 1 f fd ["thing", "least", "most"] (spF mg 3 Qu):=by
 refine Jg (k:=0) (m:=Zk) F yb rfl rfl rfl fun j A outer s H E q=>?_
 exact (Qe (Qr (Kc (Ka (T := "tuple") (by decide) (Q2 0) rfl T.b_isinstance rfl T.b_tuple Yk) (Uf (Q1z Q0f Q0f (Q2 1) (J0 Yj rfl T.b_len bn (Q1 (Q2 0) Q6)) (Q2 2))))))
def qv:ME:=(Wd Qea Qea (mC (.str "a")) (Q4 0) (mC (.str "z")))
def V6 : MS := (Qf (Zg (Xu (Yt (toB (jq "str" (Q4 0)))) (Yt (toB (Wd (oI fun a b => .bl (decide (a <= b))) (oI fun a b => .bl (decide (a <= b))) (mC (.int 1)) (J1 Zv (Q3 (Q4 0) Q9)) (mC (.int 8)))))) (Jd (mC (.bl yl))) Jk)
  (Jd (J1 (Q4i fun ns=>.bl (ns.all id)) (Q3 (Uy (Z1 [zb] (Qn 0) (Qcj (Q4 0)) Yg qv)) Q9))))
def Wh:FN:=Qw V6 1
theorem Qa9:FnScope ["thing"] ["thing"] (Qa xj):=⟨rfl,rfl,rfl,by decide +kernel,rfl,by decide +kernel,by decide +kernel⟩
theorem Qap {f:aB} {fd:aP} (F:Fun K "is_word" "is_word" xj f fd) (T:Txt K mg)   : FnOk P w K mg base (CXD P w) 1 f fd ["thing"] (spF mg 1 Wh):=by
 refine Jg (k:=0) (m:=V6) F Qa9 rfl rfl rfl fun j A outer s H E q=>?_
 exact (Q7 (Jt (SimW.t (U3 (Zs (Zi (Ka (T := "str") (by decide) (Q2 0) rfl T.b_isinstance rfl T.b_str Qj8))) (Ub (Zs (Q7s Q0f Q0f Q5 (J0 Yj rfl T.b_len bn (Q1 (Q2 0) Q6)) (Kb rfl T.c_MOST_SIGNS_OF_WORD.choose_spec)))))) (Qe (Qr Wy)) J8)
  (Qe (Qr (J0 (Q3n rfl) rfl T.b_all qx (Q1 (Ue (Wk [zb] ["sign"] rfl (Qqa (Q2 0)) (fun _ _ _ _ _=>(Qy (i:=0) (show (["sign"]:List Str).Nodup by decide +kernel))) (fun _ _ _ _ _=>(Q1z Qgy Qgy Jm (Q2 0) Jm)) (fun _ _ _ _ _=>W2) Z2)) Q6)))))
def Z5 : MS := (Qf (Zg (Xu (Yt (toB (Qj 3 Qu (Q3 (Q4 1) (Q3 (mC (.int 2)) (Q3 (mC (.int 2)) Q9)))))) (Yt (toB (Qj 3 J6 (Q3 (mOp oIx (Q4 1) (mC (.int 0))) (Q3 (mC (.int 0)) (Q3 (mOp (oI fun a b => .int (a - b)) (Q4 0) (mC (.int 1))) Q9))))))) (Jd (mC (.bl yl))) Jk)
  (Jd (Q00 (Qj 1 Wh (Q3 (mOp oIx (Q4 1) (mC (.int 1))) Q9)) (Q6n yo ["go", "fall"] (mOp oIx (Q4 1) (mC (.int 1)))))))
def Jp:FN:=Qw Z5 2
theorem Q63:FnScope ["n", "thing"] ["n", "thing"] (Qa qd):=⟨rfl,rfl,rfl,by decide +kernel,rfl,by decide +kernel,by decide +kernel⟩
theorem Q6h {f:aB} {fd:aP} (F:Fun K "is_letter" "is_letter" qd f fd) (T:Txt K mg)  (j:DefS P w K mg base 1 "is_sized_tuple" 3 Qu) (q:DefS P w K mg base 2 "is_between" 3 J6) (z:DefS P w K mg base 1 "is_word" 1 Wh):FnOk P w K mg base (CXD P w) 3 f fd ["n", "thing"] (spF mg 2 Jp):=by
 refine Jg (k:=2) (m:=Z5) F Q63 rfl rfl rfl fun J A outer s H E I=>?_
 exact (Q7 (Jt (SimW.t (U3 (Zs (Zi (Qc j (I.mono (by decide)) Qb rfl (Q1 (Q2 1) (Q1 Q5 (Q1 Q5 Q6)))))) (Ub (Zs (Zi (Qc q (I.mono (by decide)) Qb rfl (Q1 (Qd (Q2 1) Q5) (Q1 Q5 (Q1 (J7 Qgw (Q2 0) Q5) Q6))))))))) (Qe (Qr Wy)) J8)
  (Qe (Qr (Kc (Qc z (I.mono (by decide)) Qb rfl (Q1 (Qd (Q2 1) Q5) Q6)) (Uf (Qdr T.u_EVENTS_WITHOUT_LETTER rfl (Qd (Q2 1) Q5)))))))
def Zm:ME:=(Qj 2 Jp (Q3 (Q4 1) (Q3 (Q4 0) Q9)))
def Jh:MS:=(Jd (Q00 (Qj 3 Qu (Q3 (Q4 1) (Q3 (mC (.int 0)) (Q3 (mC (.int 8)) Q9)))) (J1 (Q4i fun ns=>.bl (ns.all id)) (Q3 (Uy (Z1 [zb,zo 0] (Qn 0) (Xm (Q4 1)) Yg Zm)) Q9))))
def Qz:FN:=Qw Jh 2
theorem Ke:FnScope ["n", "thing"] ["n", "thing"] (Qa Y2):=⟨rfl,rfl,rfl,by decide +kernel,rfl,by decide +kernel,by decide +kernel⟩
theorem Kk {f:aB} {fd:aP} (F:Fun K "are_letters_of_rule" "are_letters_of_rule" Y2 f fd) (T:Txt K mg)  (j:DefS P w K mg base 1 "is_sized_tuple" 3 Qu) (q:DefS P w K mg base 3 "is_letter" 2 Jp):FnOk P w K mg base (CXD P w) 4 f fd ["n", "thing"] (spF mg 2 Qz):=by
 refine Jg (k:=3) (m:=Jh) F Ke rfl rfl rfl fun I A outer s H E z=>?_
 exact (Qe (Qr (Kc (Qc j (z.mono (by decide)) Qb rfl (Q1 (Q2 1) (Q1 Q5 (Q1 (Kb rfl T.c_MOST_LETTERS_OF_RULE.choose_spec) Q6)))) (Uf (J0 (Q3n rfl) rfl T.b_all qx (Q1 (Ue (Wk [zb,zo 0] ["part", "n"] rfl (Wm (Q2 1)) (fun _ _ _ _ _=>(Qy (i:=0) (show (["part", "n"]:List Str).Nodup by decide +kernel))) (fun _ _ _ _ _=>(Qc q (z.mono (by decide)) Wp rfl (Q1 (Q2 1) (Q1 (Q2 0) Q6)))) (fun _ _ _ _ _=>W2) Z2)) Q6))))))
def qw:ME:=(Qj 1 Wh (Q3 (Q4 0) Q9))
def V7 : MS := (Qf (Zg (Xu (Yt (toB (Qj 3 Qu (Q3 (Q4 1) (Q3 (mC (.int 6)) (Q3 (mC (.int 6)) Q9)))))) (Yt (toB (Qj 3 J6 (Q3 (mOp oIx (Q4 1) (mC (.int 0))) (Q3 (mC (.int 0)) (Q3 (mOp (oI fun a b => .int (a - b)) (Q4 0) (mC (.int 1))) Q9))))))) (Jd (mC (.bl yl))) Jk)
  (Qf (Zg (Yt (toB (J1 (Q4i fun ns=>.bl (ns.all id)) (Q3 (Uy (Z1 [zb] (Qn 0) (Xm (mSl (Q4 1) (jw (mC (.int 1))) (jw (mC (.int 4))))) Yg qw)) Q9)))) (Jd (mC (.bl yl))) Jk)
  (Jd (Q00 (Qj 3 J6 (Q3 (mOp oIx (Q4 1) (mC (.int 4))) (Q3 (mC (.int 0)) (Q3 (mC (.int 9)) Q9)))) (Qj 2 Qz (Q3 (Q4 0) (Q3 (mOp oIx (Q4 1) (mC (.int 5))) Q9)))))))
def Yr:FN:=Qw V7 2
theorem Qaa:FnScope ["n", "thing"] ["n", "thing"] (Qa xk):=⟨rfl,rfl,rfl,by decide +kernel,rfl,by decide +kernel,by decide +kernel⟩
theorem Qaq {f:aB} {fd:aP} (F:Fun K "is_rule" "is_rule" xk f fd) (T:Txt K mg)  (z:DefS P w K mg base 1 "is_sized_tuple" 3 Qu) (q:DefS P w K mg base 2 "is_between" 3 J6) (I:DefS P w K mg base 1 "is_word" 1 Wh) (j:DefS P w K mg base 4 "are_letters_of_rule" 2 Qz):FnOk P w K mg base (CXD P w) 5 f fd ["n", "thing"] (spF mg 2 Yr):=by
 refine Jg (k:=4) (m:=V7) F Qaa rfl rfl rfl fun O A outer s H E J=>?_
 exact (Q7 (Jt (SimW.t (U3 (Zs (Zi (Qc z (J.mono (by decide)) Qb rfl (Q1 (Q2 1) (Q1 Q5 (Q1 Q5 Q6)))))) (Ub (Zs (Zi (Qc q (J.mono (by decide)) Qb rfl (Q1 (Qd (Q2 1) Q5) (Q1 Q5 (Q1 (J7 Qgw (Q2 0) Q5) Q6))))))))) (Qe (Qr Wy)) J8)
  (Q7 (Jt (Zs (Zi (J0 (Q3n rfl) rfl T.b_all qx (Q1 (Ue (Wk [zb] ["part"] rfl (Wm (y0 (Q2 1) (zx Q5) (zx Q5))) (fun _ _ _ _ _=>(Qy (i:=0) (show (["part"]:List Str).Nodup by decide +kernel))) (fun _ _ _ _ _=>(Qc I (J.mono (by decide)) Wp rfl (Q1 (Q2 0) Q6))) (fun _ _ _ _ _=>W2) Z2)) Q6)))) (Qe (Qr Wy)) J8)
  (Qe (Qr (Kc (Qc q (J.mono (by decide)) Qb rfl (Q1 (Qd (Q2 1) Q5) (Q1 Q5 (Q1 (Kb rfl T.c_MOST_USE_AT_ONCE.choose_spec) Q6)))) (Uf (Qc j (J.mono (by decide)) Qb rfl (Q1 (Q2 0) (Q1 (Qd (Q2 1) Q5) Q6)))))))))
def Xp:ME:=(Qj 2 Yr (Q3 (Q4 1) (Q3 (Q4 0) Q9)))
def Wg : MS := (Qf (Zg (Xu (Yt (toB (Qj 3 Qu (Q3 (Q4 1) (Q3 (mC (.int 0)) (Q3 (mC (.int 60)) Q9)))))) (Yt (toB (J1 (Q4i fun ns => .bl (ns.all id)) (Q3 (Uy (Z1 [zb, zo 0] (Qn 0) (Xm (Q4 1)) Yg Xp)) Q9))))) (Jd (mC (.bl yl))) Jk)
  (Jd (mOp oEq (Q34 (Q4 1)) (J1 Zv (Q3 (Q4 1) Q9)))))
def Zr:FN:=Qw Wg 2
theorem Q65:FnScope ["n", "thing"] ["n", "thing"] (Qa qg):=⟨rfl,rfl,rfl,by decide +kernel,rfl,by decide +kernel,by decide +kernel⟩
theorem Q6j {f:aB} {fd:aP} (F:Fun K "are_rules" "are_rules" qg f fd) (T:Txt K mg)  (j:DefS P w K mg base 1 "is_sized_tuple" 3 Qu) (q:DefS P w K mg base 5 "is_rule" 2 Yr):FnOk P w K mg base (CXD P w) 6 f fd ["n", "thing"] (spF mg 2 Zr):=by
 refine Jg (k:=5) (m:=Wg) F Q65 rfl rfl rfl fun I A outer s H E z=>?_
 exact (Q7 (Jt (SimW.t (U3 (Zs (Zi (Qc j (z.mono (by decide)) Qb rfl (Q1 (Q2 1) (Q1 Q5 (Q1 (Kb rfl T.c_MOST_RULES.choose_spec) Q6)))))) (Ub (Zs (Zi (J0 (Q3n rfl) rfl T.b_all qx (Q1 (Ue (Wk [zb,zo 0] ["part", "n"] rfl (Wm (Q2 1)) (fun _ _ _ _ _=>(Qy (i:=0) (show (["part", "n"]:List Str).Nodup by decide +kernel))) (fun _ _ _ _ _=>(Qc q (z.mono (by decide)) Wp rfl (Q1 (Q2 1) (Q1 (Q2 0) Q6)))) (fun _ _ _ _ _=>W2) Z2)) Q6))))))) (Qe (Qr Wy)) J8)
  (Qe (Qr (z8 (Q2m z.units) (Qa8 (Y7 z) (Q2 1) rfl rfl T.b_len rfl T.b_set Q9t) (J0 Yj rfl T.b_len bn (Q1 (Q2 1) Q6))))))
def Ur:ME:=(Qj 1 Wh (Q3 (Q4 0) Q9))
def Ws:MS:=(Jd (Q00 (Qj 3 Qu (Q3 (Q4 0) (Q3 (mC (.int 1)) (Q3 (mC (.int 4)) Q9)))) (J1 (Q4i fun ns=>.bl (ns.all id)) (Q3 (Uy (Z1 [zb] (Qn 0) (Xm (Q4 0)) Yg Ur)) Q9))))
def Zw:FN:=Qw Ws 1
theorem Q48:FnScope ["thing"] ["thing"] (Qa Kg):=⟨rfl,rfl,rfl,by decide +kernel,rfl,by decide +kernel,by decide +kernel⟩
theorem Q4b {f:aB} {fd:aP} (F:Fun K "are_starts" "are_starts" Kg f fd) (T:Txt K mg)  (j:DefS P w K mg base 1 "is_sized_tuple" 3 Qu) (q:DefS P w K mg base 1 "is_word" 1 Wh):FnOk P w K mg base (CXD P w) 2 f fd ["thing"] (spF mg 1 Zw):=by
 refine Jg (k:=1) (m:=Ws) F Q48 rfl rfl rfl fun I A outer s H E z=>?_
 exact (Qe (Qr (Kc (Qc j (z.mono (by decide)) Qb rfl (Q1 (Q2 0) (Q1 Q5 (Q1 (Kb rfl T.c_MOST_STARTS.choose_spec) Q6)))) (Uf (J0 (Q3n rfl) rfl T.b_all qx (Q1 (Ue (Wk [zb] ["part"] rfl (Wm (Q2 0)) (fun _ _ _ _ _=>(Qy (i:=0) (show (["part"]:List Str).Nodup by decide +kernel))) (fun _ _ _ _ _=>(Qc q (z.mono (by decide)) Wp rfl (Q1 (Q2 0) Q6))) (fun _ _ _ _ _=>W2) Z2)) Q6))))))
def Ye : MS := (Qf (Zg (Xu (Yt (toB (Qj 3 Qu (Q3 (Q4 0) (Q3 (mC (.int 3)) (Q3 (mC (.int 3)) Q9)))))) (Yt (toB (Qj 3 J6 (Q3 (mOp oIx (Q4 0) (mC (.int 0))) (Q3 (mC (.int 0)) (Q3 (mC (.int 20)) Q9))))))) (Jd (mC (.bl yl))) Jk)
  (Jd (Q00 (Qj 1 Zw (Q3 (mOp oIx (Q4 0) (mC (.int 1))) Q9)) (Qj 2 Zr (Q3 (J1 Zv (Q3 (mOp oIx (Q4 0) (mC (.int 1))) Q9)) (Q3 (mOp oIx (Q4 0) (mC (.int 2))) Q9))))))
def Za:FN:=Qw Ye 1
theorem Q62:FnScope ["thing"] ["thing"] (Qa qc):=⟨rfl,rfl,rfl,by decide +kernel,rfl,by decide +kernel,by decide +kernel⟩
theorem Q6g {f:aB} {fd:aP} (F:Fun K "is_manner" "is_manner" qc f fd) (T:Txt K mg)  (j:DefS P w K mg base 1 "is_sized_tuple" 3 Qu) (z:DefS P w K mg base 2 "is_between" 3 J6) (q:DefS P w K mg base 2 "are_starts" 1 Zw) (I:DefS P w K mg base 6 "are_rules" 2 Zr):FnOk P w K mg base (CXD P w) 7 f fd ["thing"] (spF mg 1 Za):=by
 refine Jg (k:=6) (m:=Ye) F Q62 rfl rfl rfl fun O A outer s H E J=>?_
 exact (Q7 (Jt (SimW.t (U3 (Zs (Zi (Qc j (J.mono (by decide)) Qb rfl (Q1 (Q2 0) (Q1 Q5 (Q1 Q5 Q6)))))) (Ub (Zs (Zi (Qc z (J.mono (by decide)) Qb rfl (Q1 (Qd (Q2 0) Q5) (Q1 Q5 (Q1 (Kb rfl T.c_MOST_STOCK.choose_spec) Q6))))))))) (Qe (Qr Wy)) J8)
  (Qe (Qr (Kc (Qc q (J.mono (by decide)) Qb rfl (Q1 (Qd (Q2 0) Q5) Q6)) (Uf (Qc I (J.mono (by decide)) Qb rfl (Q1 (J0 Yj rfl T.b_len bn (Q1 (Qd (Q2 0) Q5) Q6)) (Q1 (Qd (Q2 0) Q5) Q6))))))))
def Vd:MS:=(Zg (Yt (toB (Qj 1 Za (Q3 (Q4 0) Q9)))) (Q6m "NoManner" (mC (.str "this is no manner"))) Jk)
def Ze:FN:=Qw Vd 1
theorem Q21:FnScope ["manner"] ["manner"] (Qa X9):=⟨rfl,rfl,rfl,by decide +kernel,rfl,by decide +kernel,by decide +kernel⟩
theorem Q2p {f:aB} {fd:aP} (F:Fun K "need_manner" "need_manner" X9 f fd) (T:Txt K mg) (j:∃ C,mg "NoManner" = zo (.ref C)/\cL K C Q9v "ValueError.__new__" = yo) (q:DefS P w K mg base 7 "is_manner" 1 Za):FnOk P w K mg base (CXD P w) 8 f fd ["manner"] (spF mg 1 Ze):=by
 refine Jg (k:=7) (m:=Vd) F Q21 rfl rfl rfl fun z A outer s H E I=>?_
 exact (Qe (Jt (Zs (Zi (Qc q (I.mono (by decide)) Qb rfl (Q1 (Q2 0) Q6)))) (Qe (Q7t rfl Q8c rfl j.choose_spec.1 j.choose_spec.2 Jm)) J8))
def qp:MS:=(Jd (Yx (Q3 (mOp oIx (Q4 0) (mC (.int 1))) (Q3 (Yx Q9) (Q3 (mC (.int 0)) Q9)))))
def Zb:FN:=Qw qp 1
theorem Q64:FnScope ["manner"] ["manner"] (Qa qe):=⟨rfl,rfl,rfl,by decide +kernel,rfl,by decide +kernel,by decide +kernel⟩
theorem Q6i {f:aB} {fd:aP} (F:Fun K "beginning" "beginning" qe f fd) (T:Txt K mg)   : FnOk P w K mg base (CXD P w) 1 f fd ["manner"] (spF mg 1 Zb):=by
 refine Jg (k:=0) (m:=qp) F Q64 rfl rfl rfl fun j A outer s H E q=>?_
 exact (Qe (Qr (Jc (Q1 (Qd (Q2 0) Q5) (Q1 (Jc Q6) (Q1 Q5 Q6))))))
def Y0 : MS := (Qf (Zg (toB (mOp oNe (mOp oIx (mOp oIx (Q4 1) (mC (.int 0))) (mOp oIx (Q4 0) (mC (.int 0)))) (mOp oIx (Q4 0) (mC (.int 1))))) (Jd (mC (.bl yl))) Jk)
  (Jd (mOr (Q6n yl ["go", "fall"] (mOp oIx (Q4 0) (mC (.int 2)))) (mOp Qh5 (Yx (Q3 (mOp oIx (Q4 0) (mC (.int 0))) (Q3 (mOp oIx (Q4 0) (mC (.int 2))) Q9))) (mOp oIx (Q4 1) (mC (.int 1)))))))
def Jw:FN:=Qw Y0 2
theorem Q22:FnScope ["rule", "stand"] ["rule", "stand"] (Qa Xa):=⟨rfl,rfl,rfl,by decide +kernel,rfl,by decide +kernel,by decide +kernel⟩
theorem Q2q {f:aB} {fd:aP} (F:Fun K "may_be_done" "may_be_done" Xa f fd) (T:Txt K mg)   : FnOk P w K mg base (CXD P w) 1 f fd ["rule", "stand"] (spF mg 2 Jw):=by
 refine Jg (k:=0) (m:=Y0) F Q22 rfl rfl rfl fun q A outer s H E j=>?_
 exact (Q7 (Jt (J4 (Q2j j.units) (Qd (Qd (Q2 1) Q5) (Qd (Q2 0) Q5)) (Qd (Q2 0) Q5)) (Qe (Qr Wy)) J8)
  (Qe (Qr (Qfw (Qqf T.u_EVENTS_WITHOUT_LETTER rfl (Qd (Q2 0) Q5)) (Uf (z8 (Qrb j.units) (Jc (Q1 (Qd (Q2 0) Q5) (Q1 (Qd (Q2 0) Q5) Q6))) (Qd (Q2 1) Q5)))))))
def Vr:ME:=(Q4 0)
def Vj:MT:=(toB (Qj 2 Jw (Q3 (Q4 1) (Q3 (Q4 2) Q9))))
def Wc:MS:=(Jd (zh (Z1 [zb,zb,zo 1] (Q5a (Um (Qn 0) (Um (Qn 1) Q5b))) (Q90 (Q3 (mOp oIx (Q4 0) (mC (.int 2))) Q9)) Vj Vr)))
def J9:FN:=U6 Wc 2
theorem jn:FnScope ["manner", "stand"] ["manner", "stand"] (Qa Wb):=⟨rfl,rfl,rfl,by decide +kernel,rfl,by decide +kernel,by decide +kernel⟩
theorem jp {f:aB} {fd:aP} (F:Fun K "numbers_that_may" "numbers_that_may" Wb f fd) (T:Txt K mg)  (j:DefS P w K mg base 1 "may_be_done" 2 Jw):FnOk P w K mg base (CXD P w) 2 f fd ["manner", "stand"] (spF mg 2 J9):=by
 refine Yh (k:=1) (m:=Wc) F jn rfl rfl rfl fun q A outer s H E z=>?_
 exact (Qe (Qr (X7 (Wk [zb,zb,zo 1] ["number", "rule", "stand"] rfl (Qk3 rfl T.b_enumerate (Q1 (Qd (Q2 0) Q5) Q6)) (fun _ _ _ _ _=>(Qfr rfl (Xx (Qy (i:=0) (show (["number", "rule", "stand"]:List Str).Nodup by decide +kernel)) (Xx (Qy (i:=1) (show (["number", "rule", "stand"]:List Str).Nodup by decide +kernel)) Qc5)))) (fun _ _ _ _ _=>(Q2 0)) (fun _ _ _ _ _=>(Qjv (Zi (Qc j (z.mono (by decide)) Wp rfl (Q1 (Q2 1) (Q1 (Q2 2) Q6)))))) (Qik (Q5c (Q5c Qim)))))))
def Wr : MS := (Qf (J2 2 (mOp Zt (mOp Zt (mSl (mOp oIx (Q4 1) (mC (.int 0))) X4 (jw (mOp oIx (Q4 0) (mC (.int 0))))) (Yx (Q3 (mOp oIx (Q4 0) (mC (.int 3))) Q9))) (mSl (mOp oIx (Q4 1) (mC (.int 0))) (jw (mOp Zt (mOp oIx (Q4 0) (mC (.int 0))) (mC (.int 1)))) X4)))
  (Jd (Yx (Q3 (Q4 2) (Q3 (J1 Ww (Q3 (jd (mOp Zt (mOp oIx (Q4 1) (mC (.int 1))) (mOp oIx (Q4 0) (mC (.int 5))))) Q9)) (Q3 (mOp Zt (mOp oIx (Q4 1) (mC (.int 2))) (mOp oIx (Q4 0) (mC (.int 4)))) Q9))))))
def Jz:FN:=Qw Wr 3
theorem sc_stand_behind:FnScope ["rule", "stand", "states"] ["rule", "stand"] (Qa Ug):=⟨rfl,rfl,rfl,by decide +kernel,rfl,by decide +kernel,by decide +kernel⟩
theorem Q0t {f:aB} {fd:aP} (F:Fun K "stand_behind" "stand_behind" Ug f fd) (T:Txt K mg)   : FnOk P w K mg base (CXD P w) 1 f fd ["rule", "stand"] (spF mg 2 Jz):=by
 refine Jg (k:=0) (m:=Wr) F sc_stand_behind rfl rfl rfl fun j A outer s H E q=>?_
 exact (Q7 (Qt 2 sc_stand_behind.nd (J7 Zd (J7 Zd (y0 (Qd (Q2 1) Q5) Q5y (zx (Qd (Q2 0) Q5))) (Jc (Q1 (Qd (Q2 0) Q5) Q6))) (y0 (Qd (Q2 1) Q5) (zx (J7 Zd (Qd (Q2 0) Q5) Q5)) Q5y)))
  (Qe (Qr (Jc (Q1 (Q2 2) (Q1 (Vm K5 rfl T.b_tuple Yk (Q1 (Q7z (Y7 q) (J7 Zd (Qd (Q2 1) Q5) (Qd (Q2 0) Q5)) rfl rfl T.b_sorted Q0n rfl T.b_set Q9t) Q6)) (Q1 (J7 Zd (Qd (Q2 1) Q5) (Qd (Q2 0) Q5)) Q6)))))))
def Q3x : MS := (Qf (Kt (mBM Zj (Q4 2) (Q3 (mOp oIx (xz (Q4 0) (Q4 3)) (mC (.int 0))) Q9)))
  (J2 3 (mOp oIx (xz (Q4 0) (Q4 3)) (mC (.int 1)))))
def Q1e:MT:=(toB (mOp Xh (xz (Q4 0) (Q4 3)) (mC .non)))
def Q31 : MS := (Qf (J2 2 (zh (Q0h Q9)))
  (Qf (J2 3 (Q4 1))
  (Qf (Jb Q1e Q3x 100000)
  (Jd (Uy (Qrx (Q4 2)))))))
def K7:FN:=U6 Q31 4
theorem sc_run_to:FnScope ["found", "stand", "run", "at"] ["found", "stand"] (Qa Q26):=⟨rfl,rfl,rfl,by decide +kernel,rfl,by decide +kernel,by decide +kernel⟩
theorem Qe8 {f:aB} {fd:aP} (F:Fun K "run_to" "run_to" Q26 f fd) (T:Txt K mg)   : FnOk P w K mg base (CXD P w) 1 f fd ["found", "stand"] (spF mg 2 K7):=by
 refine Yh (k:=0) (m:=Q31) F sc_run_to rfl rfl rfl fun q A outer s H E j=>?_
 exact (Q7 (Qt 2 sc_run_to.nd (X7 (Q1v Q6)))
  (Q7 (Qt 3 sc_run_to.nd (Q2 1))
  (Q7 (Q1s 100000 PassesOwn.leaving (J4 Xz (Q1y (Y7 j) (Q2 0) (Q2 3) (fun _ _=>rfl)) Vv) (Q7 (X0 (j8 (Q2 2) (Q1 (Qd (Q1y (Y7 j) (Q2 0) (Q2 3) (fun _ _=>rfl)) Q5) Q6)))
  (Qe (Qt 3 sc_run_to.nd (Qd (Q1y (Y7 j) (Q2 0) (Q2 3) (fun _ _=>rfl)) Q5)))))
  (Qe (Qr (Ue (Qk1 (Q2 2) rfl rfl T.b_list rfl T.b_reversed)))))))
def Y9:MS:=(Zg (toB (mOp (oI fun a b=>.bl (decide (b < a))) (mOp Zt (mOp oIx (Q4 2) (mC (.int 2))) (mOp oIx (mOp oIx (mOp oIx (Q4 0) (mC (.int 2))) (Q4 3)) (mC (.int 4)))) (mOp oIx (Q4 0) (mC (.int 0))))) (Jd (Yx (Q3 (Q4 3) (Q3 (Q4 2) Q9)))) Jk)
def Ya:MS:=(jr (Qn 3) (Xm (Qj 2 J9 (Q3 (Q4 0) (Q3 (Q4 2) Q9)))) Y9)
def W4 : MS := (Qf (jr (Qn 2) (Xm (Q4 1)) Ya)
  (Jd (mC .non)))
def Zy:FN:=U6 W4 4
theorem sc_breaking_step:FnScope ["manner", "stands", "stand", "number"] ["manner", "stands"] (Qa Vw):=⟨rfl,rfl,rfl,by decide +kernel,rfl,by decide +kernel,by decide +kernel⟩
theorem xr {f:aB} {fd:aP} (F:Fun K "breaking_step" "breaking_step" Vw f fd) (T:Txt K mg)  (j:DefS P w K mg base 2 "numbers_that_may" 2 J9):FnOk P w K mg base (CXD P w) 3 f fd ["manner", "stands"] (spF mg 2 Zy):=by
 refine Yh (k:=2) (m:=W4) F sc_breaking_step rfl rfl rfl fun q A outer s H E z=>?_
 exact (Q7 (Wz PassesOwn.leaving rfl (Wm (Q2 1)) (Qy (i:=2) sc_breaking_step.nd) (Qe (Wz PassesOwn.leaving rfl (Wm (Qc j (z.mono (by decide)) Qb rfl (Q1 (Q2 0) (Q1 (Q2 2) Q6)))) (Qy (i:=3) sc_breaking_step.nd) (Qe (Jt (J4 Q2k (J7 Zd (Qd (Q2 2) Q5) (Qd (Qd (Qd (Q2 0) Q5) (Q2 3)) Q5)) (Qd (Q2 0) Q5)) (Qe (Qr (Jc (Q1 (Q2 3) (Q1 (Q2 2) Q6))))) J8)))))
  (Qe (Qr Vv)))
def Uu : MS := (Qf (J2 6 (Qj 2 Jz (Q3 (mOp oIx (mOp oIx (Q4 0) (mC (.int 2))) (Q4 5)) (Q3 (Q4 4) Q9))))
  (Zg (toB (mOp (Q2w yo) (Q4 6) (Q4 1))) (Qf (qr (Q4 1) (Q4 6) (Yx (Q3 (Q4 5) (Q3 (Q4 4) Q9))))
  (Qf (Kt (mBM Zj (Q4 3) (Q3 (Q4 6) Q9)))
  (Zg (toB (mOp (oI fun a b=>.bl (decide (b < a))) (J1 Q9r (Q3 (Q4 1) Q9)) (mC (.int 2000)))) (Q6m "TooMany" (mC (.str "more stands than are walked through"))) Jk))) Jk))
def Uv:MS:=(jr (Qn 5) (Xm (Qj 2 J9 (Q3 (Q4 0) (Q3 (Q4 4) Q9)))) Uu)
def V8 : MS := (Qf (J2 3 (zh (Q0h Q9)))
  (Qf (jr (Qn 4) (Xm (Q4 2)) Uv)
  (Jd (Q4 3))))
def Ys:FN:=U6 V8 7
theorem sc_further_stands:FnScope ["manner", "found", "stands", "further", "stand", "number", "after"] ["manner", "found", "stands"] (Qa V1):=⟨rfl,rfl,rfl,by decide +kernel,rfl,by decide +kernel,by decide +kernel⟩
theorem yi {f:aB} {fd:aP} (F:Fun K "further_stands" "further_stands" V1 f fd) (T:Txt K mg) (z:∃ C,mg "TooMany" = zo (.ref C)/\cL K C Q9v "ValueError.__new__" = yo) (j:DefS P w K mg base 2 "numbers_that_may" 2 J9) (q:DefS P w K mg base 1 "stand_behind" 2 Jz):FnOk P w K mg base (CXD P w) 3 f fd ["manner", "found", "stands"] (spF mg 3 Ys):=by
 refine Yh (k:=2) (m:=V8) F sc_further_stands rfl rfl rfl fun J A outer s H E I=>?_
 exact (Q7 (Qt 3 sc_further_stands.nd (X7 (Q1v Q6)))
  (Q7 (Wz PassesOwn.leaving rfl (Wm (Q2 2)) (Qy (i:=4) sc_further_stands.nd) (Qe (Wz PassesOwn.leaving rfl (Wm (Qc j (I.mono (by decide)) Qb rfl (Q1 (Q2 0) (Q1 (Q2 4) Q6)))) (Qy (i:=5) sc_further_stands.nd) (Q7 (Qt 6 sc_further_stands.nd (Qc q (I.mono (by decide)) Qb rfl (Q1 (Qd (Qd (Q2 0) Q5) (Q2 5)) (Q1 (Q2 4) Q6))))
  (Qe (Jt (J4 (Q4w (Y7 I)) (Q2 6) (Q2 1)) (Q7 (Kz (Y7 I) (Jc (Q1 (Q2 5) (Q1 (Q2 4) Q6))) (Q2 1) (Q2 6))
  (Q7 (X0 (j8 (Q2 3) (Q1 (Q2 6) Q6)))
  (Qe (Jt (J4 Q2k (J0 Qnm rfl T.b_len bn (Q1 (Q2 1) Q6)) (Kb rfl T.c_MOST_STANDS.choose_spec)) (Qe (Q7t rfl Q8c rfl z.choose_spec.1 z.choose_spec.2 Jm)) J8)))) J8))))))
  (Qe (Qr (Q2 3)))))
def Ut : MS := (Qf (J2 3 (Qj 2 Zy (Q3 (Q4 0) (Q3 (Q4 2) Q9))))
  (Qf (Zg (toB (mOp Xh (Q4 3) (mC .non))) (Jd (Yx (Q3 (Q4 1) (Q3 (zh (Q50 (Qj 2 K7 (Q3 (Q4 1) (Q3 (mOp oIx (Q4 3) (mC (.int 1))) Q9))) (yu (Q3 (mOp oIx (Q4 3) (mC (.int 0))) Q9)))) Q9)))) Jk)
  (J2 2 (Qj 3 Ys (Q3 (Q4 0) (Q3 (Q4 1) (Q3 (Q4 2) Q9)))))))
def W9:MT:=(toB (mOp (oI fun a b=>.bl (decide (b < a))) (J1 Zv (Q3 (Q4 2) Q9)) (mC (.int 0))))
def yt : MS := (Qf (J2 1 (je (Qj 1 Zb (Q3 (Q4 0) Q9)) (mC .non)))
  (Qf (J2 2 (yu (Q3 (Qj 1 Zb (Q3 (Q4 0) Q9)) Q9)))
  (Qf (Jb W9 Ut 100000)
  (Jd (Yx (Q3 (Q4 1) (Q3 (mC .non) Q9)))))))
def xh:FN:=U6 yt 4
theorem sc_walked:FnScope ["manner", "found", "fresh", "step"] ["manner"] (Qa Q25):=⟨rfl,rfl,rfl,by decide +kernel,rfl,by decide +kernel,by decide +kernel⟩
theorem Qe7 {f:aB} {fd:aP} (F:Fun K "walked" "walked" Q25 f fd) (T:Txt K mg)  (q:DefS P w K mg base 1 "beginning" 1 Zb) (z:DefS P w K mg base 3 "breaking_step" 2 Zy) (I:DefS P w K mg base 1 "run_to" 2 K7) (j:DefS P w K mg base 3 "further_stands" 3 Ys):FnOk P w K mg base (CXD P w) 4 f fd ["manner"] (spF mg 1 xh):=by
 refine Yh (k:=3) (m:=yt) F sc_walked rfl rfl rfl fun O A outer s H E J=>?_
 exact (Q7 (Qt 1 sc_walked.nd (Qds (Y7 J) (Qc q (J.mono (by decide)) Qb rfl (Q1 (Q2 0) Q6)) Vv))
  (Q7 (Qt 2 sc_walked.nd (qa (Q1 (Qc q (J.mono (by decide)) Qb rfl (Q1 (Q2 0) Q6)) Q6)))
  (Q7 (Q1s 100000 PassesOwn.leaving (J4 Q2k (J0 Yj rfl T.b_len bn (Q1 (Q2 2) Q6)) Q5) (Q7 (Qt 3 sc_walked.nd (Qc z (J.mono (by decide)) Qb rfl (Q1 (Q2 0) (Q1 (Q2 2) Q6))))
  (Q7 (Jt (J4 Xz (Q2 3) Vv) (Qe (Qr (Jc (Q1 (Q2 1) (Q1 (X7 (Qq9 (Qc I (J.mono (by decide)) Qb rfl (Q1 (Q2 1) (Q1 (Qd (Q2 3) Q5) Q6))) (qa (Q1 (Qd (Q2 3) Q5) Q6)))) Q6))))) J8)
  (Qe (Qt 2 sc_walked.nd (Qc j (J.mono (by decide)) Qb rfl (Q1 (Q2 0) (Q1 (Q2 1) (Q1 (Q2 2) Q6)))))))))
  (Qe (Qr (Jc (Q1 (Q2 1) (Q1 Vv Q6))))))))
def Q14 : MS := (Qf (Kt (Qj 1 Ze (Q3 (Q4 0) Q9)))
  (Qf (J2 1 (Qj 1 xh (Q3 (Q4 0) Q9)))
  (Qf (Zg (toB (mOp Xh (mOp oIx (Q4 1) (mC (.int 1))) (mC .non))) (Jd (Yx (Q3 (mC (.str "breaks")) (Q3 (mOp oIx (Q4 1) (mC (.int 1))) Q9)))) Jk)
  (Jd (Yx (Q3 (mC (.str "keeps")) (Q3 (zh (Q15 (mOp oIx (Q4 1) (mC (.int 0))))) Q9)))))))
def Q1c:FN:=U6 Q14 2
theorem sc_tried:FnScope ["manner", "walk"] ["manner"] (Qa Q66):=⟨rfl,rfl,rfl,by decide +kernel,rfl,by decide +kernel,by decide +kernel⟩
theorem Qh4 {f:aB} {fd:aP} (F:Fun K "tried" "tried" Q66 f fd) (T:Txt K mg)  (j:DefS P w K mg base 8 "need_manner" 1 Ze) (q:DefS P w K mg base 4 "walked" 1 xh):FnOk P w K mg base (CXD P w) 9 f fd ["manner"] (spF mg 1 Q1c):=by
 refine Yh (k:=8) (m:=Q14) F sc_tried rfl rfl rfl fun I A outer s H E z=>?_
 exact (Q7 (X0 (Qc j (z.mono (by decide)) Qb rfl (Q1 (Q2 0) Q6)))
  (Q7 (Qt 1 sc_tried.nd (Qc q (z.mono (by decide)) Qb rfl (Q1 (Q2 0) Q6)))
  (Q7 (Jt (J4 Xz (Qd (Q2 1) Q5) Vv) (Qe (Qr (Jc (Q1 Jm (Q1 (Qd (Q2 1) Q5) Q6))))) J8)
  (Qe (Qr (Jc (Q1 Jm (Q1 (X7 (Qfn (Qd (Q2 1) Q5) rfl rfl T.b_list)) Q6))))))))
def W6:ME:=(Yx (Q3 (Q4 0) (Q3 (mC (.bl yo)) Q9)))
def Je : MS := (Qf (Zg (Xu (Yt (toB (Wd (oI fun a b => .bl (decide (a <= b))) oLt (mC (.int 0)) (Q4 5) (J1 Zv (Q3 (mOp oIx (Q4 0) (mC (.int 2))) Q9))))) (Yt (toB (Qj 2 Jw (Q3 (mOp oIx (mOp oIx (Q4 0) (mC (.int 2))) (Q4 5)) (Q3 (Yx (Q3 (Q4 2) (Q3 (Q4 3) Q9))) Q9)))))) (Jd (mC .non)) Jk)
  (Qf (J2 6 (mOp oIx (mOp oIx (Q4 0) (mC (.int 2))) (Q4 5)))
  (Qf (Xk (Q4 2) (mOp oIx (Q4 6) (mC (.int 0))) (mOp oIx (Q4 6) (mC (.int 3))))
  (Qf (Kt (Qmr (Q4 3) (Q3 (Uy (Z1 [zb] (Qn 0) (Xm (mOp oIx (Q4 6) (mC (.int 5)))) Yg W6)) Q9)))
  (Qs0 4 (fun i j=>i + j) (mOp oIx (Q4 6) (mC (.int 4))))))))
def Vc : MS := (Qf (J2 2 (zh (Q33 (mOp oIx (Q4 0) (mC (.int 1))))))
  (Qf (J2 3 xy)
  (Qf (J2 4 (mC (.int 0)))
  (Qf (jr (Qn 5) (Xm (Q4 1)) Je)
  (Jd (Q4 4))))))
def W0:FN:=Qw Vc 7
theorem sc_used_behind:FnScope ["manner", "run", "states", "letters", "used", "number", "rule"] ["manner", "run"] (Qa X8):=⟨rfl,rfl,rfl,by decide +kernel,rfl,by decide +kernel,by decide +kernel⟩
theorem Q2n {f:aB} {fd:aP} (F:Fun K "used_behind" "used_behind" X8 f fd) (T:Txt K mg)  (j:DefS P w K mg base 1 "may_be_done" 2 Jw):FnOk P w K mg base (CXD P w) 2 f fd ["manner", "run"] (spF mg 2 W0):=by
 refine Jg (k:=1) (m:=Vc) F sc_used_behind rfl rfl rfl fun z A outer s H E q=>?_
 exact (Q7 (Qt 2 sc_used_behind.nd (X7 (Qc4 (Qd (Q2 0) Q5) rfl T.b_list)))
  (Q7 (Qt 3 sc_used_behind.nd y9)
  (Q7 (Qt 4 sc_used_behind.nd Q5)
  (Q7 (Wz PassesOwn.leaving rfl (Wm (Q2 1)) (Qy (i:=5) sc_used_behind.nd) (Q7 (Jt (SimW.t (U3 (Zs (Q7s Q0f (Qcc q.units) Q5 (Q2 5) (J0 Yj rfl T.b_len bn (Q1 (Qd (Q2 0) Q5) Q6)))) (Ub (Zs (Zi (Qc j (q.mono (by decide)) Qb rfl (Q1 (Qd (Qd (Q2 0) Q5) (Q2 5)) (Q1 (Jc (Q1 (Q2 2) (Q1 (Q2 3) Q6))) Q6)))))))) (Qe (Qr Vv)) J8)
  (Q7 (Qt 6 sc_used_behind.nd (Qd (Qd (Q2 0) Q5) (Q2 5)))
  (Q7 (Q1t (Qd (Q2 6) Q5) (Q2 2) (Qd (Q2 6) Q5))
  (Q7 (X0 (Qqb (Y7 q) rfl (Q2 3) (Q1 (Ue (Wk [zb] ["letter"] rfl (Wm (Qd (Q2 6) Q5)) (fun _ _ _ _ _=>(Qy (i:=0) (show (["letter"]:List Str).Nodup by decide +kernel))) (fun _ _ _ _ _=>(Jc (Q1 (Q2 0) (Q1 Wy Q6)))) (fun _ _ _ _ _=>W2) Z2)) Q6)))
  (Qe (Qq7 4 Qse sc_used_behind.nd (Qd (Q2 6) Q5))))))))
  (Qe (Qr (Q2 4)))))))
def zg : MS := (Qf (Kt (Qj 1 Ze (Q3 (Q4 0) Q9)))
  (Qf (J2 2 (Qj 2 W0 (Q3 (Q4 0) (Q3 (Q4 1) Q9))))
  (Jd (Q00 (mOp Xh (Q4 2) (mC .non)) (mOp (oI fun a b=>.bl (decide (b < a))) (Q4 2) (mOp oIx (Q4 0) (mC (.int 0))))))))
def Ux:FN:=Qw zg 3
theorem sc_is_break:FnScope ["manner", "run", "used"] ["manner", "run"] (Qa za):=⟨rfl,rfl,rfl,by decide +kernel,rfl,by decide +kernel,by decide +kernel⟩
theorem Q8m {f:aB} {fd:aP} (F:Fun K "is_break" "is_break" za f fd) (T:Txt K mg)  (q:DefS P w K mg base 8 "need_manner" 1 Ze) (j:DefS P w K mg base 2 "used_behind" 2 W0):FnOk P w K mg base (CXD P w) 9 f fd ["manner", "run"] (spF mg 2 Ux):=by
 refine Jg (k:=8) (m:=zg) F sc_is_break rfl rfl rfl fun I A outer s H E z=>?_
 exact (Q7 (X0 (Qc q (z.mono (by decide)) Qb rfl (Q1 (Q2 0) Q6)))
  (Q7 (Qt 2 sc_is_break.nd (Qc j (z.mono (by decide)) Qb rfl (Q1 (Q2 0) (Q1 (Q2 1) Q6))))
  (Qe (Qr (Kc (z8 Xz (Q2 2) Vv) (Uf (z8 Q2k (Q2 2) (Qd (Q2 0) Q5))))))))
def Yn : MS := (Qf (Zg (toB (mOp (oI fun a b => .bl (decide (b <= a))) (Q4 0) (mOp Qar (mC (.int 10)) (mC (.int 18))))) (Jd (Q4 0)) Jk)
  (Qf (J2 2 (mOp yk (mOp Zt (mOp Zt (mOp qj (mOp yk (Q4 0) (mC (.int 998244353))) (mC (.int 51749))) (mOp qj (Q4 1) (mC (.int 7919)))) (mC (.int 3))) (mC (.int 1000000007))))
  (Qf (J2 3 (mOp yk (mOp Zt (mOp Zt (mOp Zt (mOp qj (Q4 2) (Q4 2)) (mOp qj (mC (.int 32749)) (Q4 2))) (Q4 1)) (mC (.int 5))) (mC (.int 2147483629))))
  (Qf (J2 4 (mOp yk (mOp Zt (mOp Zt (mOp qj (Q4 3) (Q4 3)) (mOp qj (mC (.int 61)) (Q4 1))) (Q4 2)) (mC (.int 2147483587))))
  (Jd (mOp Zt (mOp qj (Q4 3) (mC (.int 2147483587))) (Q4 4)))))))
def Jj:FN:=Qw Yn 5
theorem sc__law_e_stirred:FnScope ["cell", "place", "first", "second", "third"] ["cell", "place"] (Qa V2):=⟨rfl,rfl,rfl,by decide +kernel,rfl,by decide +kernel,by decide +kernel⟩
theorem yj {f:aB} {fd:aP} (F:Fun K "_law_e_stirred" "_law_e_stirred" V2 f fd) (T:Txt K mg)   : FnOk P w K mg base (CXD P w) 1 f fd ["cell", "place"] (spF mg 2 Jj):=by
 refine Jg (k:=0) (m:=Yn) F sc__law_e_stirred rfl rfl rfl fun j A outer s H E q=>?_
 exact (Q7 (Jt (J4 Qgz (Q2 0) (J7 Qgx Q5 Q5)) (Qe (Qr (Q2 0))) J8)
  (Q7 (Qt 2 sc__law_e_stirred.nd (J7 ze (J7 Zd (J7 Zd (J7 Kj (J7 ze (Q2 0) Q5) Q5) (J7 Kj (Q2 1) Q5)) Q5) Q5))
  (Q7 (Qt 3 sc__law_e_stirred.nd (J7 ze (J7 Zd (J7 Zd (J7 Zd (J7 Kj (Q2 2) (Q2 2)) (J7 Kj Q5 (Q2 2))) (Q2 1)) Q5) Q5))
  (Q7 (Qt 4 sc__law_e_stirred.nd (J7 ze (J7 Zd (J7 Zd (J7 Kj (Q2 3) (Q2 3)) (J7 Kj Q5 (Q2 1))) (Q2 2)) Q5))
  (Qe (Qr (J7 Zd (J7 Kj (Q2 3) Q5) (Q2 4))))))))
def Yf : MS := (Qf (Zg (toB (mOp oLt (mOp oIx (Q4 0) (mC (.int 2))) (Q4 1))) (Qf (J2 2 (mOp oIx (Q4 0) (mC (.int 1))))
  (Qf (J2 3 (Q4 2))
  (Qf (Zg (toB (mOp oLt (Q4 2) (J1 Zv (Q3 (mOp oIx (Q4 0) (mC (.int 0))) Q9)))) (J2 3 (mOp oIx (mOp oIx (Q4 0) (mC (.int 0))) (Q4 2))) (Zg (toB (mOp (oI fun a b=>.bl (decide (b < a))) (J1 Zv (Q3 (mOp oIx (Q4 0) (mC (.int 0))) Q9)) (mC (.int 0)))) (J2 3 (mOp Zt (mOp yk (mOp oIx (mOp oIx (Q4 0) (mC (.int 0))) (mOp yk (mOp qj (Q4 2) (mC (.int 3))) (J1 Zv (Q3 (mOp oIx (Q4 0) (mC (.int 0))) Q9)))) (mOp Qar (mC (.int 10)) (mC (.int 9)))) (mOp qj (Q4 2) (mC (.int 1000000))))) Jk))
  (Qf (Xk (Q4 0) (mC (.int 1)) (mOp Zt (Q4 2) (mC (.int 1))))
  (Xk (Q4 0) (mC (.int 2)) (Qj 2 Jj (Q3 (Q4 3) (Q3 (Q4 2) Q9)))))))) Jk)
  (Qf (J2 4 (mOp yk (mOp oIx (Q4 0) (mC (.int 2))) (Q4 1)))
  (Qf (Xk (Q4 0) (mC (.int 2)) (mOp Qce (mOp oIx (Q4 0) (mC (.int 2))) (Q4 1)))
  (Jd (Q4 4)))))
def Qk:FN:=Qw Yf 5
theorem sc__law_e_digit:FnScope ["tape", "many", "place", "cell", "digit"] ["tape", "many"] (Qa Uh):=⟨rfl,rfl,rfl,by decide +kernel,rfl,by decide +kernel,by decide +kernel⟩
theorem Q0u {f:aB} {fd:aP} (F:Fun K "_law_e_digit" "_law_e_digit" Uh f fd) (T:Txt K mg)  (j:DefS P w K mg base 1 "_law_e_stirred" 2 Jj):FnOk P w K mg base (CXD P w) 2 f fd ["tape", "many"] (spF mg 2 Qk):=by
 refine Jg (k:=1) (m:=Yf) F sc__law_e_digit rfl rfl rfl fun z A outer s H E q=>?_
 exact (Q7 (Jt (J4 (Qcc q.units) (Qd (Q2 0) Q5) (Q2 1)) (Q7 (Qt 2 sc__law_e_digit.nd (Qd (Q2 0) Q5))
  (Q7 (Qt 3 sc__law_e_digit.nd (Q2 2))
  (Q7 (Jt (J4 (Qcc q.units) (Q2 2) (J0 Yj rfl T.b_len bn (Q1 (Qd (Q2 0) Q5) Q6))) (Qe (Qt 3 sc__law_e_digit.nd (Qd (Qd (Q2 0) Q5) (Q2 2)))) (Qe (Jt (J4 Q2k (J0 Yj rfl T.b_len bn (Q1 (Qd (Q2 0) Q5) Q6)) Q5) (Qe (Qt 3 sc__law_e_digit.nd (J7 Zd (J7 ze (Qd (Qd (Q2 0) Q5) (J7 ze (J7 Kj (Q2 2) Q5) (J0 Yj rfl T.b_len bn (Q1 (Qd (Q2 0) Q5) Q6)))) (J7 Qgx Q5 Q5)) (J7 Kj (Q2 2) Q5)))) J8)))
  (Q7 (Q1t (J7 Zd (Q2 2) Q5) (Q2 0) Q5)
  (Qe (Q1t (Qc j (q.mono (by decide)) Qb rfl (Q1 (Q2 3) (Q1 (Q2 2) Q6))) (Q2 0) Q5)))))) J8)
  (Q7 (Qt 4 sc__law_e_digit.nd (J7 ze (Qd (Q2 0) Q5) (Q2 1)))
  (Q7 (Q1t (J7 Qmb (Qd (Q2 0) Q5) (Q2 1)) (Q2 0) Q5)
  (Qe (Qr (Q2 4))))))
def U1:ME:=(mOp Qmj (mC (.str "abgoflz")) (Qj 2 Qk (Q3 (Q4 1) (Q3 (mC (.int 7)) Q9))))
def Vf : MS := (Qf (Zg (toB (mOp oEq (Qj 2 Qk (Q3 (Q4 0) (Q3 (mC (.int 4)) Q9))) (mC (.int 0)))) (Jd (mOp oIx (yu (Q3 (mC (.str "go")) (Q3 (mC (.str "fall")) (Q3 (mC (.str "gone")) (Q3 (mC (.str "fallen")) (Q3 (mC (.str "gofall")) (Q3 (mC (.str "a")) (Q3 (mC (.str "aa")) (Q3 (mC (.str "abcdefgh")) Q9))))))))) (Qj 2 Qk (Q3 (Q4 0) (Q3 (mC (.int 8)) Q9))))) Jk)
  (Jd (Qcm (mC (.str "")) (Q3 (Uy (Z1 [zb,zo 0] (Qn 0) (Zu (Q3 (mOp Zt (mC (.int 1)) (Qj 2 Qk (Q3 (Q4 0) (Q3 (mC (.int 4)) Q9)))) Q9)) Yg U1)) Q9))))
def Y1:FN:=U6 Vf 1
theorem Q23:FnScope ["tape"] ["tape"] (Qa Xe):=⟨rfl,rfl,rfl,by decide +kernel,rfl,by decide +kernel,by decide +kernel⟩
theorem Q2u {f:aB} {fd:aP} (F:Fun K "_law_e_name" "_law_e_name" Xe f fd) (T:Txt K mg)  (j:DefS P w K mg base 2 "_law_e_digit" 2 Qk):FnOk P w K mg base (CXD P w) 3 f fd ["tape"] (spF mg 1 Y1):=by
 refine Yh (k:=2) (m:=Vf) F Q23 rfl rfl rfl fun z A outer s H E q=>?_
 exact (Q7 (Jt (J4 (Q2m q.units) (Qc j (q.mono (by decide)) Qb rfl (Q1 (Q2 0) (Q1 Q5 Q6))) Q5) (Qe (Qr (Qd (qa (Q1 Jm (Q1 Jm (Q1 Jm (Q1 Jm (Q1 Jm (Q1 Jm (Q1 Jm (Q1 Jm Q6))))))))) (Qc j (q.mono (by decide)) Qb rfl (Q1 (Q2 0) (Q1 Q5 Q6)))))) J8)
  (Qe (Qr (Qk9 Jm (Q1 (Ue (Wk [zb,zo 0] ["turn", "tape"] rfl (Zz rfl T.b_range (Q1 (J7 Zd Q5 (Qc j (q.mono (by decide)) Qb rfl (Q1 (Q2 0) (Q1 Q5 Q6)))) Q6)) (fun _ _ _ _ _=>(Qy (i:=0) (show (["turn", "tape"]:List Str).Nodup by decide +kernel))) (fun _ _ _ _ _=>(Qqe Jm (Qc j (q.mono (by decide)) Wp rfl (Q1 (Q2 1) (Q1 Q5 Q6))))) (fun _ _ _ _ _=>W2) Z2)) Q6)))))
def Jn : MS := (Qf (J2 1 (Qj 1 Y1 (Q3 (Q4 0) Q9)))
  (Qf (Zg (Xu (toB (mOp oEq (Q4 1) (mC (.str "go")))) (toB (mOp oEq (Q4 1) (mC (.str "fall"))))) (Jd (mOp Zt (Q4 1) (mC (.str "a")))) Jk)
  (Jd (Q4 1))))
def Zc:FN:=U6 Jn 2
theorem sc__law_e_letter_name:FnScope ["tape", "name"] ["tape"] (Qa Yc):=⟨rfl,rfl,rfl,by decide +kernel,rfl,by decide +kernel,by decide +kernel⟩
theorem Ky {f:aB} {fd:aP} (F:Fun K "_law_e_letter_name" "_law_e_letter_name" Yc f fd) (T:Txt K mg)  (j:DefS P w K mg base 3 "_law_e_name" 1 Y1):FnOk P w K mg base (CXD P w) 4 f fd ["tape"] (spF mg 1 Zc):=by
 refine Yh (k:=3) (m:=Jn) F sc__law_e_letter_name rfl rfl rfl fun z A outer s H E q=>?_
 exact (Q7 (Qt 1 sc__law_e_letter_name.nd (Qc j (q.mono (by decide)) Qb rfl (Q1 (Q2 0) Q6)))
  (Q7 (Jt (SimW.t (U3 (J4 (Q2m q.units) (Q2 1) Jm) (Ub (J4 (Q2m q.units) (Q2 1) Jm)))) (Qe (Qr (J7 Zd (Q2 1) Jm))) J8)
  (Qe (Qr (Q2 1)))))
def Kw:MS:=(Kt (mBM Zj (Q4 9) (Q3 (Yx (Q3 (Qj 2 Qk (Q3 (Q4 0) (Q3 (Q4 1) Q9))) (Q3 (mOp oIx (Q4 3) (Qj 2 Qk (Q3 (Q4 0) (Q3 (J1 Zv (Q3 (Q4 3) Q9)) Q9)))) Q9))) Q9)))
def Xj : MS := (Qf (J2 4 (Qj 2 Qk (Q3 (Q4 0) (Q3 (Q4 1) Q9))))
  (Qf (J2 5 (mOp oIx (Q4 2) (Qj 2 Qk (Q3 (Q4 0) (Q3 (J1 Zv (Q3 (Q4 2) Q9)) Q9)))))
  (Qf (J2 6 (mOp oIx (yu (Q3 (mC (.str "go")) (Q3 (mC (.str "go")) (Q3 (mC (.str "fall")) (Q3 (mOp oIx (Q4 3) (Qj 2 Qk (Q3 (Q4 0) (Q3 (J1 Zv (Q3 (Q4 3) Q9)) Q9)))) Q9))))) (Qj 2 Qk (Q3 (Q4 0) (Q3 (mC (.int 4)) Q9)))))
  (Qf (J2 7 (mOp oIx (Q4 2) (Qj 2 Qk (Q3 (Q4 0) (Q3 (J1 Zv (Q3 (Q4 2) Q9)) Q9)))))
  (Qf (J2 8 (mOp oIx (yu (Q3 (mC (.int 0)) (Q3 (mC (.int 0)) (Q3 (mC (.int 0)) (Q3 (mC (.int 1)) (Q3 (mC (.int 1)) (Q3 (mC (.int 2)) (Q3 (mC (.int 9)) Q9)))))))) (Qj 2 Qk (Q3 (Q4 0) (Q3 (mC (.int 7)) Q9)))))
  (Qf (J2 9 (zh (Q0h Q9)))
  (Qf (jr (Qn 10) (Zu (Q3 (mOp oIx (yu (Q3 (mC (.int 0)) (Q3 (mC (.int 0)) (Q3 (mC (.int 1)) (Q3 (mC (.int 2)) (Q3 (mC (.int 3)) (Q3 (mC (.int 8)) Q9))))))) (Qj 2 Qk (Q3 (Q4 0) (Q3 (mC (.int 6)) Q9)))) Q9)) Kw)
  (Jd (Yx (Q3 (Q4 4) (Q3 (Q4 5) (Q3 (Q4 6) (Q3 (Q4 7) (Q3 (Q4 8) (Q3 (J1 Ww (Q3 (Q4 9) Q9)) Q9)))))))))))))))
def Vi:FN:=U6 Xj 11
theorem sc__law_e_rule:FnScope ["tape", "n", "states", "names", "house", "state", "event", "onward", "use", "letters", "turn"] ["tape", "n", "states", "names"] (Qa Xd):=⟨rfl,rfl,rfl,by decide +kernel,rfl,by decide +kernel,by decide +kernel⟩
theorem Q2t {f:aB} {fd:aP} (F:Fun K "_law_e_rule" "_law_e_rule" Xd f fd) (T:Txt K mg)  (j:DefS P w K mg base 2 "_law_e_digit" 2 Qk):FnOk P w K mg base (CXD P w) 3 f fd ["tape", "n", "states", "names"] (spF mg 4 Vi):=by
 refine Yh (k:=2) (m:=Xj) F sc__law_e_rule rfl rfl rfl fun z A outer s H E q=>?_
 exact (Q7 (Qt 4 sc__law_e_rule.nd (Qc j (q.mono (by decide)) Qb rfl (Q1 (Q2 0) (Q1 (Q2 1) Q6))))
  (Q7 (Qt 5 sc__law_e_rule.nd (Qd (Q2 2) (Qc j (q.mono (by decide)) Qb rfl (Q1 (Q2 0) (Q1 (J0 Yj rfl T.b_len bn (Q1 (Q2 2) Q6)) Q6)))))
  (Q7 (Qt 6 sc__law_e_rule.nd (Qd (qa (Q1 Jm (Q1 Jm (Q1 Jm (Q1 (Qd (Q2 3) (Qc j (q.mono (by decide)) Qb rfl (Q1 (Q2 0) (Q1 (J0 Yj rfl T.b_len bn (Q1 (Q2 3) Q6)) Q6)))) Q6))))) (Qc j (q.mono (by decide)) Qb rfl (Q1 (Q2 0) (Q1 Q5 Q6)))))
  (Q7 (Qt 7 sc__law_e_rule.nd (Qd (Q2 2) (Qc j (q.mono (by decide)) Qb rfl (Q1 (Q2 0) (Q1 (J0 Yj rfl T.b_len bn (Q1 (Q2 2) Q6)) Q6)))))
  (Q7 (Qt 8 sc__law_e_rule.nd (Qd (qa (Q1 Q5 (Q1 Q5 (Q1 Q5 (Q1 Q5 (Q1 Q5 (Q1 Q5 (Q1 Q5 Q6)))))))) (Qc j (q.mono (by decide)) Qb rfl (Q1 (Q2 0) (Q1 Q5 Q6)))))
  (Q7 (Qt 9 sc__law_e_rule.nd (X7 (Q1v Q6)))
  (Q7 (Wz PassesOwn.leaving rfl (Zz rfl T.b_range (Q1 (Qd (qa (Q1 Q5 (Q1 Q5 (Q1 Q5 (Q1 Q5 (Q1 Q5 (Q1 Q5 Q6))))))) (Qc j (q.mono (by decide)) Qb rfl (Q1 (Q2 0) (Q1 Q5 Q6)))) Q6)) (Qy (i:=10) sc__law_e_rule.nd) (Qe (X0 (j8 (Q2 9) (Q1 (Jc (Q1 (Qc j (q.mono (by decide)) Qb rfl (Q1 (Q2 0) (Q1 (Q2 1) Q6))) (Q1 (Qd (Q2 3) (Qc j (q.mono (by decide)) Qb rfl (Q1 (Q2 0) (Q1 (J0 Yj rfl T.b_len bn (Q1 (Q2 3) Q6)) Q6)))) Q6))) Q6)))))
  (Qe (Qr (Jc (Q1 (Q2 4) (Q1 (Q2 5) (Q1 (Q2 6) (Q1 (Q2 7) (Q1 (Q2 8) (Q1 (Vm K5 rfl T.b_tuple Yk (Q1 (Q2 9) Q6)) Q6))))))))))))))))
def x8:ME:=(Qj 1 Y1 (Q3 (Q4 1) Q9))
def yz:ME:=(Qj 1 Zc (Q3 (Q4 1) Q9))
def X6:MS:=(qr (Q4 8) (Qj 4 Vi (Q3 (Q4 0) (Q3 (Q4 2) (Q3 (Q4 6) (Q3 (Q4 7) Q9))))) (mC (.bl yo)))
def X5:ME:=(mOp oIx (Q4 1) (Qj 2 Qk (Q3 (Q4 2) (Q3 (Q4 3) Q9))))
def Vz : MS := (Qf (J2 1 (yu (Q3 (Yx (Q3 (mC (.int 2)) (Q3 (mC (.int 3)) (Q3 (mC (.int 2)) (Q3 (mC (.int 4)) Q9))))) (Q3 (Yx (Q3 (mC (.int 3)) (Q3 (mC (.int 2)) (Q3 (mC (.int 1)) (Q3 (mC (.int 4)) Q9))))) (Q3 (Yx (Q3 (mC (.int 1)) (Q3 (mC (.int 2)) (Q3 (mC (.int 1)) (Q3 (mC (.int 21)) Q9))))) (Q3 (Yx (Q3 (mC (.int 2)) (Q3 (mC (.int 2)) (Q3 (mC (.int 1)) (Q3 (mC (.int 21)) Q9))))) (Q3 (Yx (Q3 (mC (.int 4)) (Q3 (mC (.int 2)) (Q3 (mC (.int 1)) (Q3 (mC (.int 2)) Q9))))) Q9)))))))
  (Qf (Qn0 (Q5a (Um (Qn 2) (Um (Qn 3) (Um (Qn 4) (Um (Qn 5) Q5b))))) (mOp oIx (Q4 1) (Qj 2 Qk (Q3 (Q4 0) (Q3 (mC (.int 5)) Q9)))))
  (Qf (J2 6 (Uy (Z1 [zb,zo 0] (Qn 0) (Zu (Q3 (Q4 3) Q9)) Yg x8)))
  (Qf (J2 7 (Uy (Z1 [zb,zo 0] (Qn 0) (Zu (Q3 (Q4 4) Q9)) Yg yz)))
  (Qf (J2 8 xy)
  (Qf (jr (Qn 9) (Zu (Q3 (Qj 2 Qk (Q3 (Q4 0) (Q3 (mC (.int 10)) Q9))) Q9)) X6)
  (Qf (J2 10 (J1 Ww (Q3 (Uy (Z1 [zb,zo 6,zo 0,zo 3] (Qn 0) (Zu (Q3 (Q4 2) Q9)) Yg X5)) Q9)))
  (Jd (Yx (Q3 (Qj 2 Qk (Q3 (Q4 0) (Q3 (Q4 5) Q9))) (Q3 (Q4 10) (Q3 (J1 Ww (Q3 (J1 zq (Q3 (Q4 8) Q9)) Q9)) Q9))))))))))))
def W7:FN:=U6 Vz 11
theorem sc__law_e_manner:FnScope ["tape", "sizes", "n", "many", "words", "most", "states", "names", "rules", "turn", "starts"] ["tape"] (Qa Vx):=⟨rfl,rfl,rfl,by decide +kernel,rfl,by decide +kernel,by decide +kernel⟩
theorem xt {f:aB} {fd:aP} (F:Fun K "_law_e_manner" "_law_e_manner" Vx f fd) (T:Txt K mg)  (j:DefS P w K mg base 2 "_law_e_digit" 2 Qk) (z:DefS P w K mg base 3 "_law_e_name" 1 Y1) (q:DefS P w K mg base 4 "_law_e_letter_name" 1 Zc) (I:DefS P w K mg base 3 "_law_e_rule" 4 Vi):FnOk P w K mg base (CXD P w) 5 f fd ["tape"] (spF mg 1 W7):=by
 refine Yh (k:=4) (m:=Vz) F sc__law_e_manner rfl rfl rfl fun O A outer s H E J=>?_
 exact (Q7 (Qt 1 sc__law_e_manner.nd (qa (Q1 (Jc (Q1 Q5 (Q1 Q5 (Q1 Q5 (Q1 Q5 Q6))))) (Q1 (Jc (Q1 Q5 (Q1 Q5 (Q1 Q5 (Q1 Q5 Q6))))) (Q1 (Jc (Q1 Q5 (Q1 Q5 (Q1 Q5 (Q1 Q5 Q6))))) (Q1 (Jc (Q1 Q5 (Q1 Q5 (Q1 Q5 (Q1 Q5 Q6))))) (Q1 (Jc (Q1 Q5 (Q1 Q5 (Q1 Q5 (Q1 Q5 Q6))))) Q6)))))))
  (Q7 (Qq8 (Qd (Q2 1) (Qc j (J.mono (by decide)) Qb rfl (Q1 (Q2 0) (Q1 Q5 Q6)))) (Qfr rfl (Xx (Qy (i:=2) sc__law_e_manner.nd) (Xx (Qy (i:=3) sc__law_e_manner.nd) (Xx (Qy (i:=4) sc__law_e_manner.nd) (Xx (Qy (i:=5) sc__law_e_manner.nd) Qc5))))))
  (Q7 (by first | exact Q7u [zb,zo 0] ["turn", "tape"] 6 sc__law_e_manner.nd rfl (Zz rfl T.b_range (Q1 (Q2 3) Q6)) (fun _ _ _ _ _=>(Qy (i:=0) (show (["turn", "tape"]:List Str).Nodup by decide +kernel))) (fun _ _ _ _ _=>(Qc z (J.mono (by decide)) Wp rfl (Q1 (Q2 1) Q6))) (fun _ _ _ _ _=>W2) Z2 | exact Qt 6 sc__law_e_manner.nd (Ue (Wk [zb,zo 0] ["turn", "tape"] rfl (Zz rfl T.b_range (Q1 (Q2 3) Q6)) (fun _ _ _ _ _=>(Qy (i:=0) (show (["turn", "tape"]:List Str).Nodup by decide +kernel))) (fun _ _ _ _ _=>(Qc z (J.mono (by decide)) Wp rfl (Q1 (Q2 1) Q6))) (fun _ _ _ _ _=>W2) Z2)))
  (Q7 (by first | exact Q7u [zb,zo 0] ["turn", "tape"] 7 sc__law_e_manner.nd rfl (Zz rfl T.b_range (Q1 (Q2 4) Q6)) (fun _ _ _ _ _=>(Qy (i:=0) (show (["turn", "tape"]:List Str).Nodup by decide +kernel))) (fun _ _ _ _ _=>(Qc q (J.mono (by decide)) Wp rfl (Q1 (Q2 1) Q6))) (fun _ _ _ _ _=>W2) Z2 | exact Qt 7 sc__law_e_manner.nd (Ue (Wk [zb,zo 0] ["turn", "tape"] rfl (Zz rfl T.b_range (Q1 (Q2 4) Q6)) (fun _ _ _ _ _=>(Qy (i:=0) (show (["turn", "tape"]:List Str).Nodup by decide +kernel))) (fun _ _ _ _ _=>(Qc q (J.mono (by decide)) Wp rfl (Q1 (Q2 1) Q6))) (fun _ _ _ _ _=>W2) Z2)))
  (Q7 (Qt 8 sc__law_e_manner.nd y9)
  (Q7 (Wz PassesOwn.leaving rfl (Zz rfl T.b_range (Q1 (Qc j (J.mono (by decide)) Qb rfl (Q1 (Q2 0) (Q1 Q5 Q6))) Q6)) (Qy (i:=9) sc__law_e_manner.nd) (Qe (Kz (Y7 J) Wy (Q2 8) (Qc I (J.mono (by decide)) Qb rfl (Q1 (Q2 0) (Q1 (Q2 2) (Q1 (Q2 6) (Q1 (Q2 7) Q6))))))))
  (Q7 (Qt 10 sc__law_e_manner.nd (Vm K5 rfl T.b_tuple Yk (Q1 (Ue (Wk [zb,zo 6,zo 0,zo 3] ["house", "states", "tape", "many"] rfl (Zz rfl T.b_range (Q1 (Q2 2) Q6)) (fun _ _ _ _ _=>(Qy (i:=0) (show (["house", "states", "tape", "many"]:List Str).Nodup by decide +kernel))) (fun _ _ _ _ _=>(Qd (Q2 1) (Qc j (J.mono (by decide)) Wp rfl (Q1 (Q2 2) (Q1 (Q2 3) Q6))))) (fun _ _ _ _ _=>W2) Z2)) Q6)))
  (Qe (Qr (Jc (Q1 (Qc j (J.mono (by decide)) Qb rfl (Q1 (Q2 0) (Q1 (Q2 5) Q6))) (Q1 (Q2 10) (Q1 (Vm K5 rfl T.b_tuple Yk (Q1 (Vm (Q9j rfl) rfl T.b_list Va (Q1 (Q2 8) Q6)) Q6)) Q6)))))))))))))
def Vg : MS := (Qf (Zg (toB (mOp oNe (mOp oIx (mOp oIx (Q4 1) (mC (.int 0))) (mOp oIx (Q4 0) (mC (.int 0)))) (mOp oIx (Q4 0) (mC (.int 1))))) (Jd (mC (.bl yl))) Jk)
  (Jd (mOr (mOp oEq (mOp oIx (Q4 0) (mC (.int 2))) (mC (.str "go"))) (mOr (mOp oEq (mOp oIx (Q4 0) (mC (.int 2))) (mC (.str "fall"))) (mOp (oIn yl) (Yx (Q3 (mOp oIx (Q4 0) (mC (.int 0))) (Q3 (mOp oIx (Q4 0) (mC (.int 2))) Q9))) (mOp oIx (Q4 1) (mC (.int 1))))))))
def Zf:FN:=Qw Vg 2
theorem Q24:FnScope ["rule", "stand"] ["rule", "stand"] (Qa Xf):=⟨rfl,rfl,rfl,by decide +kernel,rfl,by decide +kernel,by decide +kernel⟩
theorem Q2v {f:aB} {fd:aP} (F:Fun K "_law_e_fits" "_law_e_fits" Xf f fd) (T:Txt K mg)   : FnOk P w K mg base (CXD P w) 1 f fd ["rule", "stand"] (spF mg 2 Zf):=by
 refine Jg (k:=0) (m:=Vg) F Q24 rfl rfl rfl fun q A outer s H E j=>?_
 exact (Q7 (Jt (J4 (Q2j j.units) (Qd (Qd (Q2 1) Q5) (Qd (Q2 0) Q5)) (Qd (Q2 0) Q5)) (Qe (Qr Wy)) J8)
  (Qe (Qr (Qfw (z8 (Q2m j.units) (Qd (Q2 0) Q5) Jm) (Qfw (z8 (Q2m j.units) (Qd (Q2 0) Q5) Jm) (Uf (z8 (Qpf j.units) (Jc (Q1 (Qd (Q2 0) Q5) (Q1 (Qd (Q2 0) Q5) Q6))) (Qd (Q2 1) Q5))))))))
def U2:MS:=(qr (Q4 3) (Q4 4) (mC (.bl yo)))
def Ve : MS := (Qf (J2 2 (zh (Q33 (mOp oIx (Q4 1) (mC (.int 0))))))
  (Qf (Xk (Q4 2) (mOp oIx (Q4 0) (mC (.int 0))) (mOp oIx (Q4 0) (mC (.int 3))))
  (Qf (J2 3 xy)
  (Qf (jr (Qn 4) (Xm (mOp Zt (mOp oIx (Q4 1) (mC (.int 1))) (mOp oIx (Q4 0) (mC (.int 5))))) U2)
  (Jd (Yx (Q3 (J1 Ww (Q3 (Q4 2) Q9)) (Q3 (J1 Ww (Q3 (J1 Q3s (Q3 (Q4 3) Q9)) Q9)) (Q3 (mOp Zt (mOp oIx (Q4 1) (mC (.int 2))) (mOp oIx (Q4 0) (mC (.int 4)))) Q9)))))))))
def Jx:FN:=Qw Ve 5
theorem sc__law_e_step:FnScope ["rule", "stand", "states", "letters", "letter"] ["rule", "stand"] (Qa Xc):=⟨rfl,rfl,rfl,by decide +kernel,rfl,by decide +kernel,by decide +kernel⟩
theorem Q2s {f:aB} {fd:aP} (F:Fun K "_law_e_step" "_law_e_step" Xc f fd) (T:Txt K mg)   : FnOk P w K mg base (CXD P w) 1 f fd ["rule", "stand"] (spF mg 2 Jx):=by
 refine Jg (k:=0) (m:=Ve) F sc__law_e_step rfl rfl rfl fun j A outer s H E q=>?_
 exact (Q7 (Qt 2 sc__law_e_step.nd (X7 (Qc4 (Qd (Q2 1) Q5) rfl T.b_list)))
  (Q7 (Q1t (Qd (Q2 0) Q5) (Q2 2) (Qd (Q2 0) Q5))
  (Q7 (Qt 3 sc__law_e_step.nd y9)
  (Q7 (Wz PassesOwn.leaving rfl (Wm (J7 Zd (Qd (Q2 1) Q5) (Qd (Q2 0) Q5))) (Qy (i:=4) sc__law_e_step.nd) (Qe (Kz (Y7 q) Wy (Q2 3) (Q2 4))))
  (Qe (Qr (Jc (Q1 (Vm K5 rfl T.b_tuple Yk (Q1 (Q2 2) Q6)) (Q1 (Vm K5 rfl T.b_tuple Yk (Q1 (J0 (Qiz rfl) rfl T.b_sorted Q0n (Q1 (Q2 3) Q6)) Q6)) (Q1 (J7 Zd (Qd (Q2 1) Q5) (Qd (Q2 0) Q5)) Q6))))))))))
def Jq : MS := (Zg (toB (Qj 2 Zf (Q3 (Q4 6) (Q3 (Q4 5) Q9)))) (Qf (J2 7 (Qj 2 Jx (Q3 (Q4 6) (Q3 (Q4 5) Q9))))
  (Qf (Zg (toB (mOp (oI fun a b=>.bl (decide (b < a))) (mOp oIx (Q4 7) (mC (.int 2))) (mOp oIx (Q4 0) (mC (.int 0))))) (Jd (Yx (Q3 (Q4 1) (Q3 (Q4 3) Q9)))) Jk)
  (Zg (toB (mOp (Q2w yo) (Q4 7) (Q4 1))) (Qf (qr (Q4 1) (Q4 7) (Q4 3))
  (Kt (mBM Zj (Q4 4) (Q3 (Q4 7) Q9)))) Jk))) Jk)
def Yb:MS:=(jr (Qn 6) (Xm (mOp oIx (Q4 0) (mC (.int 2)))) Jq)
def Z9 : MS := (Qf (J2 3 (mOp Zt (Q4 3) (mC (.int 1))))
  (Qf (J2 4 (zh (Q0h Q9)))
  (Qf (jr (Qn 5) (Xm (Q4 2)) Yb)
  (J2 2 (Q4 4)))))
def Z3:MT:=(toB (mOp oNe (Q4 2) (yu Q9)))
def W5 : MS := (Qf (J2 1 xy)
  (Qf (qr (Q4 1) (Yx (Q3 (mOp oIx (Q4 0) (mC (.int 1))) (Q3 (Yx Q9) (Q3 (mC (.int 0)) Q9)))) (mC (.int 0)))
  (Qf (J2 2 (J1 zq (Q3 (Q4 1) Q9)))
  (Qf (J2 3 (mC (.int 0)))
  (Qf (Jb Z3 Z9 100000)
  (Jd (Yx (Q3 (Q4 1) (Q3 (mC (.int 0)) Q9)))))))))
def W8:FN:=U6 W5 8
theorem sc__law_e_levels:FnScope ["manner", "known", "level", "depth", "fresh", "stand", "rule", "there"] ["manner"] (Qa Vy):=⟨rfl,rfl,rfl,by decide +kernel,rfl,by decide +kernel,by decide +kernel⟩
theorem xu {f:aB} {fd:aP} (F:Fun K "_law_e_levels" "_law_e_levels" Vy f fd) (T:Txt K mg)  (j:DefS P w K mg base 1 "_law_e_fits" 2 Zf) (q:DefS P w K mg base 1 "_law_e_step" 2 Jx):FnOk P w K mg base (CXD P w) 2 f fd ["manner"] (spF mg 1 W8):=by
 refine Yh (k:=1) (m:=W5) F sc__law_e_levels rfl rfl rfl fun I A outer s H E z=>?_
 exact (Q7 (Qt 1 sc__law_e_levels.nd y9)
  (Q7 (Kz (Y7 z) Q5 (Q2 1) (Jc (Q1 (Qd (Q2 0) Q5) (Q1 (Jc Q6) (Q1 Q5 Q6)))))
  (Q7 (Qt 2 sc__law_e_levels.nd (Vm (Q9j rfl) rfl T.b_list Va (Q1 (Q2 1) Q6)))
  (Q7 (Qt 3 sc__law_e_levels.nd Q5)
  (Q7 (Q1s 100000 PassesOwn.leaving (J4 (Q2j z.units) (Q2 2) (qa Q6)) (Q7 (Qt 3 sc__law_e_levels.nd (J7 Zd (Q2 3) Q5))
  (Q7 (Qt 4 sc__law_e_levels.nd (X7 (Q1v Q6)))
  (Q7 (Wz PassesOwn.leaving rfl (Wm (Q2 2)) (Qy (i:=5) sc__law_e_levels.nd) (Qe (Wz PassesOwn.leaving rfl (Wm (Qd (Q2 0) Q5)) (Qy (i:=6) sc__law_e_levels.nd) (Qe (Jt (Zi (Qc j (z.mono (by decide)) Qb rfl (Q1 (Q2 6) (Q1 (Q2 5) Q6)))) (Q7 (Qt 7 sc__law_e_levels.nd (Qc q (z.mono (by decide)) Qb rfl (Q1 (Q2 6) (Q1 (Q2 5) Q6))))
  (Q7 (Jt (J4 Q2k (Qd (Q2 7) Q5) (Qd (Q2 0) Q5)) (Qe (Qr (Jc (Q1 (Q2 1) (Q1 (Q2 3) Q6))))) J8)
  (Qe (Jt (J4 (Q4w (Y7 z)) (Q2 7) (Q2 1)) (Q7 (Kz (Y7 z) (Q2 3) (Q2 1) (Q2 7))
  (Qe (X0 (j8 (Q2 4) (Q1 (Q2 7) Q6))))) J8)))) J8)))))
  (Qe (Qt 2 sc__law_e_levels.nd (Q2 4)))))))
  (Qe (Qr (Jc (Q1 (Q2 1) (Q1 Q5 Q6))))))))))
def Kv : MS := (Qf (Zg (Xu (Yt (toB (jq "int" (Q4 3)))) (Xu (toB (jq "bool" (Q4 3))) (Xu (toB (mOp oLt (Q4 3) (mC (.int 0)))) (toB (mOp (oI fun a b => .bl (decide (b <= a))) (Q4 3) (J1 Zv (Q3 (mOp oIx (Q4 0) (mC (.int 2))) Q9))))))) (Jd (mC .non)) Jk)
  (Qf (Zg (Yt (toB (Qj 2 Zf (Q3 (mOp oIx (mOp oIx (Q4 0) (mC (.int 2))) (Q4 3)) (Q3 (Q4 2) Q9))))) (Jd (mC .non)) Jk)
  (J2 2 (Qj 2 Jx (Q3 (mOp oIx (mOp oIx (Q4 0) (mC (.int 2))) (Q4 3)) (Q3 (Q4 2) Q9))))))
def Xi : MS := (Qf (Zg (Yt (toB (jq "list" (Q4 1)))) (Jd (mC .non)) Jk)
  (Qf (J2 2 (Yx (Q3 (mOp oIx (Q4 0) (mC (.int 1))) (Q3 (Yx Q9) (Q3 (mC (.int 0)) Q9)))))
  (Qf (jr (Qn 3) (Xm (Q4 1)) Kv)
  (Jd (Q4 2)))))
def W1:FN:=Qw Xi 4
theorem sc__law_e_walk:FnScope ["manner", "run", "stand", "number"] ["manner", "run"] (Qa Xb):=⟨rfl,rfl,rfl,by decide +kernel,rfl,by decide +kernel,by decide +kernel⟩
theorem Q2r {f:aB} {fd:aP} (F:Fun K "_law_e_walk" "_law_e_walk" Xb f fd) (T:Txt K mg)  (j:DefS P w K mg base 1 "_law_e_fits" 2 Zf) (q:DefS P w K mg base 1 "_law_e_step" 2 Jx):FnOk P w K mg base (CXD P w) 2 f fd ["manner", "run"] (spF mg 2 W1):=by
 refine Jg (k:=1) (m:=Xi) F sc__law_e_walk rfl rfl rfl fun I A outer s H E z=>?_
 exact (Q7 (Jt (Zs (Zi (Ka (T := "list") (by decide) (Q2 1) rfl T.b_isinstance rfl T.b_list Va))) (Qe (Qr Vv)) J8)
  (Q7 (Qt 2 sc__law_e_walk.nd (Jc (Q1 (Qd (Q2 0) Q5) (Q1 (Jc Q6) (Q1 Q5 Q6)))))
  (Q7 (Wz PassesOwn.leaving rfl (Wm (Q2 1)) (Qy (i:=3) sc__law_e_walk.nd) (Q7 (Jt (SimW.t (U3 (Zs (Zi (Ka (T := "int") (by decide) (Q2 3) rfl T.b_isinstance rfl T.b_int Q9u))) (U3 (Zi (Ka (T := "bool") (by decide) (Q2 3) rfl T.b_isinstance rfl T.b_bool Q5k)) (U3 (J4 (Qcc z.units) (Q2 3) Q5) (Ub (J4 Qgz (Q2 3) (J0 Yj rfl T.b_len bn (Q1 (Qd (Q2 0) Q5) Q6)))))))) (Qe (Qr Vv)) J8)
  (Q7 (Jt (Zs (Zi (Qc j (z.mono (by decide)) Qb rfl (Q1 (Qd (Qd (Q2 0) Q5) (Q2 3)) (Q1 (Q2 2) Q6))))) (Qe (Qr Vv)) J8)
  (Qe (Qt 2 sc__law_e_walk.nd (Qc q (z.mono (by decide)) Qb rfl (Q1 (Qd (Qd (Q2 0) Q5) (Q2 3)) (Q1 (Q2 2) Q6))))))))
  (Qe (Qr (Q2 2))))))
def Q7h : MS := (Qf (J2 6 (Qj 1 Q1c (Q3 (Q4 3) Q9)))
  (Qf (Zg (Xu (Yt (toB (jq "tuple" (Q4 6)))) (Xu (toB (mOp oNe (J1 Zv (Q3 (Q4 6) Q9)) (mC (.int 2)))) (Yt (toB (jq "list" (mOp oIx (Q4 6) (mC (.int 1)))))))) (Jd (mC (.bl yl))) Jk)
  (Qf (Zg (toB (mOp oEq (Q4 4) (mC (.int 0)))) (Zg (toB (mOp oNe (mOp oIx (Q4 6) (mC (.int 0))) (mC (.str "keeps")))) (Jd (mC (.bl yl))) Jk) (Qf (J2 7 (Qj 2 W1 (Q3 (Q4 3) (Q3 (mOp oIx (Q4 6) (mC (.int 1))) Q9))))
  (Qf (Zg (Xu (toB (mOp oNe (mOp oIx (Q4 6) (mC (.int 0))) (mC (.str "breaks")))) (Xu (toB (mOp oIs (Q4 7) (mC .non))) (Xu (toB (mOp (oI fun a b=>.bl (decide (a<=b))) (mOp oIx (Q4 7) (mC (.int 2))) (mOp oIx (Q4 3) (mC (.int 0))))) (toB (mOp oNe (J1 Zv (Q3 (mOp oIx (Q4 6) (mC (.int 1))) Q9)) (Q4 4)))))) (Jd (mC (.bl yl))) Jk)
  (Zg (Xu (toB (mOp Xh (Qj 2 Ux (Q3 (Q4 3) (Q3 (mOp oIx (Q4 6) (mC (.int 1))) Q9))) (mC (.bl yo)))) (toB (mOp Xh (Qj 2 Ux (Q3 (Q4 3) (Q3 (mSl (mOp oIx (Q4 6) (mC (.int 1))) X4 (jw (Qmx (mC (.int 1))))) Q9))) (mC (.bl yl))))) (Jd (mC (.bl yl))) Jk))))
  (Kt (mBM yq (mOp oIx (Q4 6) (mC (.int 1))) Q9)))))
def Q7i : MS := (Qf (Zg (Q1m (toB (mOp (oI fun a b => .bl (decide (b < a))) (Q4 2) (mC (.int 1)))) (toB (mOp (oI fun a b => .bl (decide (b <= a))) (mOp oIx (Q4 1) (mC (.int 1))) (J1 Zv (Q3 (Q4 0) Q9))))) Qaw Jk)
  (Qf (J2 3 (Qj 1 W7 (Q3 (Q4 1) Q9)))
  (Qf (J2 4 (mOp oIx (Qj 1 W8 (Q3 (Q4 3) Q9)) (mC (.int 1))))
  (jr (Qn 5) (Zu (Q3 (mC (.int 2)) Q9)) Q7h))))
def Qhj : MS := (Qf (J2 1 (zh (Q0h (Q3 (Q4 0) (Q3 (mC (.int 0)) (Q3 (mC (.int 0)) Q9))))))
  (Qf (jr (Qn 2) (Zu (Q3 (mC (.int 3)) Q9)) Q7i)
  (Jd (mC (.bl yo)))))
def Qjh:FN:=Qw Qhj 8
theorem sc_law:FnScope ["script", "tape", "k", "manner", "depth", "turn", "found", "stand"] ["script"] (Qa yc):=⟨rfl,rfl,rfl,by decide +kernel,rfl,by decide +kernel,by decide +kernel⟩
theorem Qrk {f:aB} {fd:aP} (F:Fun K "law" "law" yc f fd) (T:Txt K mg)  (j:DefS P w K mg base 5 "_law_e_manner" 1 W7) (q:DefS P w K mg base 2 "_law_e_levels" 1 W8) (J:DefS P w K mg base 9 "tried" 1 Q1c) (I:DefS P w K mg base 2 "_law_e_walk" 2 W1) (z:DefS P w K mg base 9 "is_break" 2 Ux):FnOk P w K mg base (CXD P w) 10 f fd ["script"] (spF mg 1 Qjh):=by
 refine Jg (k:=9) (m:=Qhj) F sc_law rfl rfl rfl fun Y A outer s H E O=>?_
 exact (Q7 (Qt 1 sc_law.nd (X7 (Q1v (Q1 (Q2 0) (Q1 Q5 (Q1 Q5 Q6))))))
  (Q7 (Wz PassesOwn.leaving rfl (Zz rfl T.b_range (Q1 Q5 Q6)) (Qy (i:=2) sc_law.nd) (Q7 (Jt (SimW.t (Qq6 (J4 Q2k (Q2 2) Q5) (Qjt (J4 Qgz (Qd (Q2 1) Q5) (J0 Yj rfl T.b_len bn (Q1 (Q2 0) Q6)))))) (Qe Qfj) J8)
  (Q7 (Qt 3 sc_law.nd (Qc j (O.mono (by decide)) Qb rfl (Q1 (Q2 1) Q6)))
  (Q7 (Qt 4 sc_law.nd (Qd (Qc q (O.mono (by decide)) Qb rfl (Q1 (Q2 3) Q6)) Q5))
  (Qe (Wz PassesOwn.leaving rfl (Zz rfl T.b_range (Q1 Q5 Q6)) (Qy (i:=5) sc_law.nd) (Q7 (Qt 6 sc_law.nd (Qc J (O.mono (by decide)) Qb rfl (Q1 (Q2 3) Q6)))
  (Q7 (Jt (SimW.t (U3 (Zs (Zi (Ka (T := "tuple") (by decide) (Q2 6) rfl T.b_isinstance rfl T.b_tuple Yk))) (U3 (J4 (Q2j O.units) (J0 Yj rfl T.b_len bn (Q1 (Q2 6) Q6)) Q5) (Ub (Zs (Zi (Ka (T := "list") (by decide) (Qd (Q2 6) Q5) rfl T.b_isinstance rfl T.b_list Va))))))) (Qe (Qr Wy)) J8)
  (Q7 (Jt (J4 (Q2m O.units) (Q2 4) Q5) (Qe (Jt (J4 (Q2j O.units) (Qd (Q2 6) Q5) Jm) (Qe (Qr Wy)) J8)) (Q7 (Qt 7 sc_law.nd (Qc I (O.mono (by decide)) Qb rfl (Q1 (Q2 3) (Q1 (Qd (Q2 6) Q5) Q6))))
  (Q7 (Jt (SimW.t (U3 (J4 (Q2j O.units) (Qd (Q2 6) Q5) Jm) (U3 (J4 Quh (Q2 7) Vv) (U3 (J4 Q0f (Qd (Q2 7) Q5) (Qd (Q2 3) Q5)) (Ub (J4 (Q2j O.units) (J0 Yj rfl T.b_len bn (Q1 (Qd (Q2 6) Q5) Q6)) (Q2 4))))))) (Qe (Qr Wy)) J8)
  (Qe (Jt (SimW.t (U3 (J4 Xz (Qc z (O.mono (by decide)) Qb rfl (Q1 (Q2 3) (Q1 (Qd (Q2 6) Q5) Q6))) Wy) (Ub (J4 Xz (Qc z (O.mono (by decide)) Qb rfl (Q1 (Q2 3) (Q1 (y0 (Qd (Q2 6) Q5) Q5y (zx (Qqd Q5))) Q6))) Wy)))) (Qe (Qr Wy)) J8)))))
  (Qe (X0 (Qqg iS PySem.F.slot_list_clear PySem.F.type_list_clear Qhf (Qd (Q2 6) Q5)))))))))))))
  (Qe (Qr Wy))))
end
end Lw
namespace Lw
open PySem PySem.Spec L2 Sm
theorem Q79 (a:Int) {b:Int} (h:0 < b):0<=a % b/\a % b < b:=⟨hW a (by omega),hU a h⟩
theorem Qux (x:Int) {n:Nat} (h:1<=n):∃ k:Nat,k < n/\x % (n:Int)=(k:Int):=by
 have:=Q79 x (b:=(n:Int)) (by omega);exact ⟨(x % (n:Int)).toNat,by omega,by omega⟩
theorem Qjx (c:Int) (p:Nat) (st:Q0):∃ z:Int,Jj [.int c,.int p] st=.ok (.int z) st:=by
 by_cases q:1000000000000000000<=c
 ·refine ⟨c,?_⟩;simp -implicitDefEqProofs [Jj,Qw,Yn,q]
 ·obtain ⟨f,I⟩:∃ f,(c % 998244353 * 51749 + p * 7919 + 3) % 1000000007=f:=⟨_,rfl⟩;have J:=Q79 (c % 998244353 * 51749 + p * 7919 + 3) (b:=1000000007) (by decide);rw [I] at J;obtain ⟨g,j⟩:∃ g:Int,(f * f + 32749 * f + p + 5) % 2147483629=g:=⟨_,rfl⟩;have Y:=Q79 (f * f + 32749 * f + p + 5) (b:=2147483629) (by decide);rw [j] at Y;have O:-18446744073709551616 < f/\f < 18446744073709551616:=by omega
  have Z:-18446744073709551616 < g/\g < 18446744073709551616:=by omega
  refine ⟨g * 2147483587 + (g * g + 61 * p + f) % 2147483587,?_⟩;simp -implicitDefEqProofs [Jj,Qw,Yn,q,I,j,O,Z]
def TapeAt (S:Q0) (L:Nat) (ns:List Int):Prop:=∃ (p:Nat) (c:Int),S[L]?=zo (.lst [.fro (ns.map .int),.int p,.int c])
theorem TapeAt.lt {S:Q0} {L:Nat} {ns:List Int} (h:TapeAt S L ns):L < S.length:=let ⟨_,_,e⟩:=h; (O0.mp e).1
theorem Q1k {S:Q0} {L:Nat} {a b c x:PV} (h:S[L]?=zo (.lst [a,b,c])):Ks S (.ref L) (.int 1) x=zo (S.set L (.lst [a,x,c]))/\Ks S (.ref L) (.int 2) x=zo (S.set L (.lst [a,b,x])):=by
 unfold Ks;simp only [h];exact ⟨rfl,rfl⟩
theorem Q10 {S:Q0} {L:Nat} {a b c:PV} (h:S[L]?=zo (.lst [a,b,c])):oIx S (.ref L) (.int 0)=.ok a S/\oIx S (.ref L) (.int 1)=.ok b S/\oIx S (.ref L) (.int 2)=.ok c S:=by
 have j:ListAt S (.ref L) [a,b,c]:=.inr (.inr ⟨L,rfl,h⟩);rw [j.ix,j.ix,j.ix];exact ⟨rfl,rfl,rfl⟩
theorem Qnq (ns:List Int) (p:Nat) {S:Q0} {L:Nat} {c:PV} (hS:S[L]?=zo (.lst [.fro (ns.map .int),.int p,c])) (O J:Option PV):∃ z:Int,(Zg (toB (mOp oLt (Q4 2) (J1 Zv (Q3 (mOp oIx (Q4 0) (mC (.int 0))) Q9)))) (J2 3 (mOp oIx (mOp oIx (Q4 0) (mC (.int 0))) (Q4 2))) (Zg (toB (mOp (oI fun a b=>.bl (decide (b < a))) (J1 Zv (Q3 (mOp oIx (Q4 0) (mC (.int 0))) Q9)) (mC (.int 0)))) (J2 3 (mOp Zt (mOp yk (mOp oIx (mOp oIx (Q4 0) (mC (.int 0))) (mOp yk (mOp qj (Q4 2) (mC (.int 3))) (J1 Zv (Q3 (mOp oIx (Q4 0) (mC (.int 0))) Q9)))) (mOp Qar (mC (.int 10)) (mC (.int 9)))) (mOp qj (Q4 2) (mC (.int 1000000))))) Jk)) [zo (.ref L),O,zo (.int p),zo (.int p),J] S=.nx [zo (.ref L),O,zo (.int p),zo (.int z),J] S:=by
 obtain ⟨I,_,_⟩:=Q10 hS;have j:(ns.map PV.int).length=ns.length:=O1 _
 by_cases q:p < ns.length
 ·have e:atI (ns.map PV.int) (p:Int)=zo (.int (ns.getD p 0)):=by rw [Qd8,Sm.atI_get (Q59 q 0)]; rfl
  refine ⟨ns.getD p 0,?_⟩;generalize ns.getD p 0=x at *;generalize ns.length=len at *;generalize ns.map PV.int=Y at *;simp -implicitDefEqProofs [I,j,q,e,-Q0g]
 ·by_cases q2:ns.length=0
  ·refine ⟨p,?_⟩;generalize ns.map PV.int=Y at *;rw [q2] at j;have q0:¬ (p:Int) < 0:=by omega
   simp -implicitDefEqProofs [I,j,q0,-Q0g]
  ·have hp:0 < ns.length:=by omega
   obtain ⟨m,hm,Z⟩:=Qux ((p:Int) * 3) hp;have e:atI (ns.map PV.int) (m:Int)=zo (.int (ns.getD m 0)):=by rw [Qd8,Sm.atI_get (Q59 hm 0)]; rfl
   refine ⟨ns.getD m 0 % 1000000000 + p * 1000000,?_⟩;have q':¬ (p:Int) < (ns.length:Int):=by omega
   generalize ns.getD m 0=x at *;generalize ns.length=len at *;generalize ns.map PV.int=Y at *;simp -implicitDefEqProofs [I,j,q,q',hp,Z,e,-Q0g]
theorem Qsh {st st':Q0} (h:st'.length=st.length) (d:Int):fin st (.int d) st'=.ok (.int d) st':=by
 unfold fin
 by_cases q:st <+: st'
 ·rw [bS q];have:st=st':=q.eq_of_length h.symm;rw [<- this,fz]; rfl
 ·rw [bT q]
structure Mv (L:Nat) (S S':Q0):Prop where
 len:S'.length=S.length
 keep:∀ t,t≠L->S'[t]?=S[t]?
theorem Z7 {ns:List Int} {S:Q0} {L:Nat} (T:TapeAt S L ns) (m:Nat) (h1:1<=m) (hm:m < 1267650600228229401496703205376):∃ (d:Nat) (S':Q0),d < m/\TapeAt S' L ns/\Mv L S S'/\Qk [.ref L,.int m] S=.ok (.int d) S':=by
 obtain ⟨p,c,hS⟩:=T;have hL:=(O0.mp hS).1;obtain ⟨p1,Y,S1,a2,a3,J,M1,e1⟩:∃ (p1:Nat) (Y:Int) (S1:Q0) (a2 a3:Option PV),S1[L]?=zo (.lst [.fro (ns.map .int),.int p1,.int Y])/\Mv L S S1/\(Zg (toB (mOp oLt (mOp oIx (Q4 0) (mC (.int 2))) (Q4 1))) (Qf (J2 2 (mOp oIx (Q4 0) (mC (.int 1))))
  (Qf (J2 3 (Q4 2))
  (Qf (Zg (toB (mOp oLt (Q4 2) (J1 Zv (Q3 (mOp oIx (Q4 0) (mC (.int 0))) Q9)))) (J2 3 (mOp oIx (mOp oIx (Q4 0) (mC (.int 0))) (Q4 2))) (Zg (toB (mOp (oI fun a b=>.bl (decide (b < a))) (J1 Zv (Q3 (mOp oIx (Q4 0) (mC (.int 0))) Q9)) (mC (.int 0)))) (J2 3 (mOp Zt (mOp yk (mOp oIx (mOp oIx (Q4 0) (mC (.int 0))) (mOp yk (mOp qj (Q4 2) (mC (.int 3))) (J1 Zv (Q3 (mOp oIx (Q4 0) (mC (.int 0))) Q9)))) (mOp Qar (mC (.int 10)) (mC (.int 9)))) (mOp qj (Q4 2) (mC (.int 1000000))))) Jk))
  (Qf (Xk (Q4 0) (mC (.int 1)) (mOp Zt (Q4 2) (mC (.int 1))))
  (Xk (Q4 0) (mC (.int 2)) (Qj 2 Jj (Q3 (Q4 3) (Q3 (Q4 2) Q9)))))))) Jk) [zo (.ref L),zo (.int m),zb,zb,zb] S=.nx [zo (.ref L),zo (.int m),a2,a3,zb] S1:=by
  obtain ⟨i0,i1,i2⟩:=Q10 hS
  by_cases q:c < (m:Int)
  ·obtain ⟨z,ez⟩:=Qnq ns p hS (zo (.int m)) zb;obtain ⟨t1,_⟩:=Q1k (x:=.int ((p:Int) + 1)) hS;obtain ⟨S2,j⟩:∃ S2,S.set L (.lst [.fro (ns.map .int),.int ((p:Int) + 1),.int c])=S2:=⟨_,rfl⟩;have h2:S2[L]?=zo (.lst [.fro (ns.map .int),.int ((p:Int) + 1),.int c]):=by rw [<- j,E8 hL]
   rw [j] at t1;obtain ⟨y,ey⟩:=Qjx z p S2;obtain ⟨_,t2⟩:=Q1k (x:=.int y) h2;have a1:=(O0.mp h2).1;refine ⟨p + 1,y,S2.set L (.lst [.fro (ns.map .int),.int ((p:Int) + 1),.int y]),zo (.int p),zo (.int z),?_,⟨?_,fun t O=>?_⟩,?_⟩
   ·rw [E8 a1]; push_cast; rfl
   ·rw [F9,<- j,F9]
   ·rw [E5 (fun u=>O u.symm),<- j,E5 (fun u=>O u.symm)]
   ·have O:(toB (mOp oLt (mOp oIx (Q4 0) (mC (.int 2))) (Q4 1))) [zo (.ref L),zo (.int m),zb,zb,zb] S=.ok yo S:=by
     simp -implicitDefEqProofs [i2,q,-Q0g]
    have s1:∀ X:MS,(Qf (J2 2 (mOp oIx (Q4 0) (mC (.int 1)))) (Qf (J2 3 (Q4 2)) X)) [zo (.ref L),zo (.int m),zb,zb,zb] S=X [zo (.ref L),zo (.int m),zo (.int p),zo (.int p),zb] S:=fun X=>by
     simp -implicitDefEqProofs [i1,-Q0g]
    rw [Q6p,O,qb,bS rfl,s1,qq,ez];show Qf _ _ _ _=_;simp -implicitDefEqProofs [t1,ey,t2,-Qc7]
  ·refine ⟨p,c,S,zb,zb,hS,⟨rfl,fun _ _=>rfl⟩,?_⟩;simp -implicitDefEqProofs [i2,q,-Q0g]
 obtain ⟨_,_,j2⟩:=Q10 J;obtain ⟨d,hd,ed⟩:=Qux Y h1;obtain ⟨_,t2⟩:=Q1k (x:=.int (Y / (m:Int))) J;have a6:=(O0.mp J).1;obtain ⟨Z,I⟩:∃ Z,S1.set L (.lst [.fro (ns.map .int),.int p1,.int (Y / (m:Int))])=Z:=⟨_,rfl⟩;have h3:Z[L]?=zo (.lst [.fro (ns.map .int),.int p1,.int (Y / (m:Int))]):=by rw [<- I,E8 a6]
 have M3:Mv L S Z:=⟨by rw [<- I,F9,M1.len],fun t O=>by rw [<- I,E5 (fun u=>O u.symm),M1.keep t O]⟩;rw [I] at t2;refine ⟨d,Z,hd,⟨p1,_,h3⟩,M3,?_⟩;have a5:0 < m:=h1;have a4:(m:Int) < 1267650600228229401496703205376:=by omega
 have step:Yf [zo (.ref L),zo (.int m),zb,zb,zb] S=.rt (.int d) Z:=by
  unfold Yf;rw [qq,e1];show Qf _ _ _ _=_;simp -implicitDefEqProofs [j2,a5,a4,ed,t2,-Q0g,-Qc7]
 show Qw Yf 5 _ S=_;unfold Qw;rw [show (([PV.ref L,.int m]:List PV).map zo ++ ba (5 - [PV.ref L,.int m].length) zb)=[zo (.ref L),zo (.int m),zb,zb,zb] from rfl,step];exact Qsh M3.len d
theorem Q71 (i:Int) (st:Q0):Vb [.int i] st=.ok (.bl yo) st:=by
 simp [Vb,Qw,Uk,isI,tyN]
theorem Qnr (x a b:Int) (st:Q0):J6 [.int x,.int a,.int b] st=.ok (.bl (decide (a<=x) && decide (x<=b))) st:=by
 have:=Q71 x st
 by_cases q:a<=x <;> simp [J6,Qw,U8,this,q]
theorem Q8 {a b:MS} {Γ j:Gam} {S S1:Q0} {r:SR} (h1:a Γ S=.nx j S1) (h2:b j S1=r):Qf a b Γ S=r:=by rw [qq,h1]; exact h2
theorem Qp {i:Nat} {m:ME} {Γ:Gam} {S S1:Q0} {v:PV} (h:m Γ S=.ok v S1):J2 i m Γ S=.nx (Γ.set i (zo v)) S1:=by rw [Qmu,h]; rfl
theorem Qm {n:Nat} {F:FN} {mr:ML} {Γ:Gam} {S S1 j:Q0} {ps:List PV} {v:PV} (h1:mr Γ S=.ok ps S1) (h2:ps.length=n) (q:F ps S1=.ok v j):Qj n F mr Γ S=.ok v j:=by rw [Qei,h1,Qx,bS h2,q]
theorem Qi {o:OP} {a b:ME} {Γ:Gam} {S S1 q j:Q0} {x y v:PV} (h1:a Γ S=.ok x S1) (h2:b Γ S1=.ok y q) (z:o q x y=.ok v j):mOp o a b Γ S=.ok v j:=by rw [Qru,h1,Qx,h2,Qx,z]
theorem Qq {m:ME} {mr:ML} {Γ:Gam} {S S1 j:Q0} {p:PV} {ps:List PV} (h1:m Γ S=.ok p S1) (h2:mr Γ S1=.ok ps j):Q3 m mr Γ S=.ok (p :: ps) j:=by rw [Qhk,h1,Qx,h2,Qx]
theorem U7 {o:CF} {mr:ML} {Γ:Gam} {S S1 j:Q0} {ps:List PV} {v:PV} (h1:mr Γ S=.ok ps S1) (h2:o S1 ps=.ok v j):J1 o mr Γ S=.ok v j:=by rw [Qhm,h1,Qx,h2]
theorem Y4 {ga:GA} {mi:MI} {b:MS} {Γ:Gam} {S S1:Q0} {xs:List PV} {w:Wt} {r:SR} (h1:mi Γ S=.ok (xs,w) S1) (h2:Ju ga b w xs Γ S1=r):jr ga mi b Γ S=r:=by rw [Qmy,h1]; exact h2
theorem Km {c:MT} {a b:MS} {Γ:Gam} {S S1:Q0} {r:SR} (h1:c Γ S=.ok yo S1) (h2:a Γ S1=r):Zg c a b Γ S=r:=by rw [Q6p,h1]; exact h2
theorem Vq {c:MT} {a b:MS} {Γ:Gam} {S S1:Q0} {r:SR} (h1:c Γ S=.ok yl S1) (h2:b Γ S1=r):Zg c a b Γ S=r:=by rw [Q6p,h1]; exact h2
theorem Qsw {ga:GA} {m:ME} {Γ j:Gam} {S S1:Q0} {p:PV} (h1:m Γ S=.ok p S1) (h2:ga p Γ=zo j):Qn0 ga m Γ S=.nx j S1:=by rw [Qmz,h1]; show (match ga p Γ with | some j=>SR.nx j S1 | none=>.stuck)=_; rw [h2]
theorem Uc {m:ME} {Γ:Gam} {S S1:Q0} {p:PV} {xs:List PV} {w:Wt} (h1:m Γ S=.ok p S1) (h2:Wi S1 p=zo (xs,w)) (j:xs.length<=1000000):Xm m Γ S=.ok (xs,w) S1:=by rw [Qmv,h1,Qx,h2]; exact bS j
theorem Q1f {m:ML} {Γ:Gam} {S S1:Q0} {ps:List PV} (h:m Γ S=.ok ps S1):Uy m Γ S=.ok (.lst ps) S1:=by rw [Qmq,h,Qx]
theorem xc {cap:List (Option Nat)} {ga:GA} {mi:MI} {mt:MT} {me:ME} {Γ:Gam} {S S1 j:Q0} {xs ys:List PV} {w:Wt} (h1:mi Γ S=.ok (xs,w) S1) (h2:Z8 ga mt me w (Y5 cap Γ) xs S1=.ok ys j):Z1 cap ga mi mt me Γ S=.ok ys j:=by rw [Qeh,h1,Qx,h2]; rfl
theorem Vt {m:ML} {Γ:Gam} {S S1:Q0} {ps:List PV} (h:m Γ S=.ok ps S1):zh m Γ S=.ok (.ref S1.length) (S1 ++ [.lst ps]):=by rw [Qmt,h,Qx]
theorem V4 {t:MT} {Γ:Gam} {S S1:Q0} {b:Bool} (h:t Γ S=.ok b S1):Yt t Γ S=.ok (!b) S1:=by rw [Qfg,h,Qx]
theorem Qv {m:ME} {Γ:Gam} {S S1:Q0} {b:Bool} (h:m Γ S=.ok (.bl b) S1):toB m Γ S=.ok b S1:=by rw [Qpz,h]; rfl
theorem Qfq {mo mi m:ME} {Γ:Gam} {S S1 z q j:Q0} {p o i:PV} (h1:m Γ S=.ok p S1) (h2:mo Γ S1=.ok o z) (J:mi Γ z=.ok i q) (I:Ks q o i p=zo j):Xk mo mi m Γ S=.nx Γ j:=by
 rw [Qeg,h1,qb,h2,qb,J,qb,I]
theorem Q0b {f:MF} {mo:ME} {mr:ML} {Γ:Gam} {S S1 q j:Q0} {p v:PV} {xs ps:List PV} (h1:mo Γ S=.ok p S1) (h2:Wu S1 p=zo xs) (I:mr Γ S1=.ok ps q) (z:f q p ps=.ok v j):Kt (mBM f mo mr) Γ S=.nx Γ j:=by
 rw [Q8z,Qrz,h1,Qx];simp only [h2];rw [I,Qx,z,qb]
theorem Q3k {m:ME} {Γ:Gam} {S S1:Q0} {v:PV} (h:m Γ S=.ok v S1):Kt m Γ S=.nx Γ S1:=by rw [Q8z,h]; rfl
theorem Qui {a b:MT} {Γ:Gam} {S S1:Q0} (h:a Γ S=.ok yo S1):Xu a b Γ S=.ok yo S1:=by rw [Qc0,h]; rfl
theorem zf {a b:MT} {Γ:Gam} {S S1:Q0} {r:Res Bool} (h:a Γ S=.ok yl S1) (h2:b Γ S1=r):Xu a b Γ S=r:=by rw [Qc0,h]; exact h2
theorem Yu {a b:MS} {Γ:Gam} {S S1:Q0} {v:PV} (h:a Γ S=.rt v S1):Qf a b Γ S=.rt v S1:=by rw [qq,h]
theorem z7 {mr:ML} {Γ:Gam} {S S1:Q0} {ps:List PV} (h1:mr Γ S=.ok ps S1) (h2:ps.length<=1000000):Yx mr Γ S=.ok (.tup ps) S1:=by rw [Qms,h1,Qx]; exact bS h2
mutual
def Pl:PV->Prop
 | .ref _=>False
 | .str x=>x.length<=1000000
 | .tup xs=>PlL xs
 | _=>True
def PlL:List PV->Prop
 | []=>True
 | p :: ps=>Pl p/\PlL ps
end
theorem PlL.mem:∀ {ps:List PV} {p:PV},PlL ps->p∈ps->Pl p
 | _ :: _,_,h,m=>by
  rcases D6.mp m with rfl | m
  ·exact h.1
  ·exact PlL.mem h.2 m
theorem PlL.of:∀ {ps:List PV},(∀ p∈ps,Pl p)->PlL ps
 | [],_=>trivial
 | p :: ps,h=>⟨h p (by simp),PlL.of fun q j=>h q (O4 _ j)⟩
theorem Q72 (T:String) {m:ME} {Γ:Gam} {S:Q0} {p:PV} (h:m Γ S=.ok p S) (hp:Pl p):jq T m Γ S=.ok (.bl (isI T p)) S:=by
 unfold jq;rw [h,Qx];cases p <;> first | rfl | exact hp.elim
theorem zc {body:MS} {nl:Nat} {ps:List PV} {st:Q0} {b:Bool} (h:body (ps.map zo ++ ba (nl - ps.length) zb) st=.rt (.bl b) st):Qw body nl ps st=.ok (.bl b) st:=by
 unfold Qw; rw [h]; exact Q3j st b
def Qa1:PV->Bool
 | .int _=>yo
 | _=>yl
def Q0a (p:PV) (a b:Int):Bool:=match p with
 | .int x=>decide (a<=x) && decide (x<=b)
 | _=>yl
def szP (p:PV) (a b:Int):Bool:=match p with
 | .tup xs=>decide (a<=(xs.length:Int)) && decide ((xs.length:Int)<=b)
 | _=>yl
theorem Qji {p:PV} (hp:Pl p) (st:Q0):Vb [p] st=.ok (.bl (Qa1 p)) st:=by
 refine zc ?_;have h1:=Q72 "int" (m:=Q4 0) (Γ:=[zo p]) (S:=st) rfl hp;have h2:=Q72 "bool" (m:=Q4 0) (Γ:=[zo p]) (S:=st) rfl hp;show Uk [zo p] st=_;cases p with
 | ref=>exact hp.elim
 | _=>simp -implicitDefEqProofs [Uk,h1,h2,isI,tyN,Qa1]
theorem Qd4 {p:PV} (hp:Pl p) (a b:Int) (st:Q0):J6 [p,.int a,.int b] st=.ok (.bl (Q0a p a b)) st:=by
 have j:=Qji hp st;cases p with
 | int x=>exact Qnr x a b st
 | ref=>exact hp.elim
 | _=>simp -implicitDefEqProofs [J6,Qw,U8,j,Qa1,Q0a]
theorem j7 {p:PV} (hp:Pl p) (a b:Int) (st:Q0):Qu [p,.int a,.int b] st=.ok (.bl (szP p a b)) st:=by
 refine zc ?_;have h1:=Q72 "tuple" (m:=Q4 0) (Γ:=[zo p,zo (.int a),zo (.int b)]) (S:=st) rfl hp;show Zk [zo p,zo (.int a),zo (.int b)] st=_;cases p with
 | ref=>exact hp.elim
 | tup xs=>
  by_cases q:a<=(xs.length:Int) <;> simp -implicitDefEqProofs [Zk,h1,isI,tyN,szP,q]
 | _=>simp -implicitDefEqProofs [Zk,h1,isI,tyN,szP]
def zy (c:Nat):Bool:=decide (97<=c) && decide (c<=122)
def Zp (x:Str):Bool:=decide (1<=(x.length:Int)) && decide ((x.length:Int)<=8) && x.cps.toList.all zy
def Zq:PV->Bool
 | .str x=>Zp x
 | _=>yl
theorem Qy0 (c:Nat) (st:Q0):Qea st (.str "a") (.str ⟨#[c]⟩)=.ok (.bl (decide (97<=c))) st:=by
 show Res.ok (PV.bl (!decide ([c] < [97]))) st=_;have:(!decide ([c] < [97]))=decide (97<=c):=by
  by_cases q:97<=c
  ·simp [eU,q]
  ·simp [eU,q]; omega
 rw [this]
theorem Qxz (c:Nat) (st:Q0):Qea st (.str ⟨#[c]⟩) (.str "z")=.ok (.bl (decide (c<=122))) st:=by
 show Res.ok (PV.bl (!decide ([122] < [c]))) st=_;have:(!decide ([122] < [c]))=decide (c<=122):=by
  by_cases q:c<=122
  ·simp [eU,q]
  ·simp [eU,q]; omega
 rw [this]
theorem len_str {x:Str} (h:x.length<=1000000) (st:Q0):Zv st [.str x]=.ok (.int x.length) st:=by
 show (if x.length<=lim then _ else _)=_;rw [bS (by rw [V9]; exact h)]
theorem Qa0 {p:PV} (hp:Pl p) (st:Q0):Wh [p] st=.ok (.bl (Zq p)) st:=by
 refine zc ?_;have h1:=Q72 "str" (m:=Q4 0) (Γ:=[zo p]) (S:=st) rfl hp;show V6 [zo p] st=_;cases p with
 | ref=>exact hp.elim
 | str x=>
  by_cases q:1<=(x.length:Int)/\(x.length:Int)<=8
  ·obtain ⟨q1,q2⟩:=q;have j:x.length<=1000000:=by omega
   have O:Z8 (Qn 0) Yg qv [] (Y5 [zb] [zo (.str x)]) (x.cps.toList.map fun c=>.str ⟨#[c]⟩) st=.ok ((x.cps.toList.map zy).map .bl) st:=by
    rw [bt];refine Q3q (fun c=>PV.str ⟨#[c]⟩) (fun c=>PV.bl (zy c)) (by simp) fun c _=>⟨_,rfl,?_⟩
    have a:=Qy0 c st;have z:=Qxz c st
    by_cases r:97<=c <;> simp [Y5,qv,a,z,r,zy]
   have J:Zq (.str x)=(x.cps.toList.map zy).all id:=by
    show Zp x=_;unfold Zp;rw [bV q1,bV q2,cG];rfl
   rw [J];have Y:Qcj (Q4 0) [zo (.str x)] st=.ok (x.cps.toList.map fun c=>.str ⟨#[c]⟩,[]) st:=by
    show (if x.length<=lim then _ else _)=_;rw [bS (by rw [V9]; exact j)];rfl
   generalize x.cps.toList.map zy=bs at *;have I:=len_str j st;simp -implicitDefEqProofs [V6,h1,isI,tyN,I,q1,q2,O,Y]
  ·have J:Zq (.str x)=yl:=by
    show Zp x=_;unfold Zp;have:(decide (1<=(x.length:Int)) && decide ((x.length:Int)<=8))=yl:=by
     by_cases q1:1<=(x.length:Int)
     ·rw [bU (fun h=>q ⟨q1,h⟩),dh]
     ·rw [bU q1,G7]
    rw [this,G7]
   rw [J]
   by_cases j:x.length<=1000000
   ·have I:=len_str j st
    by_cases q1:1<=(x.length:Int)
    ·have q2:¬ (x.length:Int)<=8:=fun h=>q ⟨q1,h⟩
     simp -implicitDefEqProofs [V6,h1,isI,tyN,I,q1,q2]
    ·simp -implicitDefEqProofs [V6,h1,isI,tyN,I,q1]
   ·exact absurd hp j
 | _=>simp -implicitDefEqProofs [V6,h1,isI,tyN,Zq]
def evP:PV->Bool
 | .str x=>Kn ["go", "fall"] x
 | _=>yl
def K0 (n:Int):PV->Bool
 | .tup [a,b]=>Q0a a 0 (n - 1) && (Zq b && !evP b)
 | _=>yl
def Q3a (n:Int) (p:PV):Bool:=match p with
 | .tup xs=>decide ((xs.length:Int)<=8) && xs.all (K0 n)
 | _=>yl
def Zx (n:Int):PV->Bool
 | .tup [a,b,c,d,e,f]=>Q0a a 0 (n - 1) && (Zq b && (Zq c && Zq d)) && (Q0a e 0 9 && Q3a n f)
 | _=>yl
def xb (ps:List PV):Bool:=match Yw Xn ps with
 | some ks=>decide ((Y3 ks).length=ps.length)
 | none=>yl
def Q27 (n:Int) (p:PV):Bool:=match p with
 | .tup xs=>decide ((xs.length:Int)<=60) && xs.all (Zx n) && xb xs
 | _=>yl
def j4 (p:PV):Bool:=match p with
 | .tup xs=>decide (1<=(xs.length:Int)) && decide ((xs.length:Int)<=4) && xs.all Zq
 | _=>yl
def X3:PV->Bool
 | .tup [a,b,c]=>Q0a a 0 20 && (j4 b && match b with
  | .tup xs=>Q27 xs.length c
  | _=>yl)
 | _=>yl
theorem Qb4 {j:Bool} {ss:List Str} {m:ME} {Γ:Gam} {S S1:Q0} {x:Str} (h:m Γ S=.ok (.str x) S1):Q6n j ss m Γ S=.ok (.bl (Kn ss x != j)) S1:=by unfold Q6n; rw [h]; rfl
theorem Qv7 {p:PV} (hp:Pl p) (n:Int) (st:Q0):Jp [.int n,p] st=.ok (.bl (K0 n p)) st:=by
 have h1:=j7 hp 2 2 st;cases p with
 | tup xs=>
  rcases xs with _ | ⟨a,_ | ⟨b,_ | ⟨c,t⟩⟩⟩
  ·simp -implicitDefEqProofs [Jp,Qw,Z5,h1,szP,K0]
  ·simp -implicitDefEqProofs [Jp,Qw,Z5,h1,szP,K0]
  ·obtain ⟨Y,Z,_⟩:=(show Pl a/\Pl b/\True from hp);have h2:=Qd4 Y 0 (n - 1) st;have J:=Qa0 Z st;have z:atI [a,b] 0=zo a:=rfl;have j:atI [a,b] 1=zo b:=rfl;cases q:Q0a a 0 (n - 1) with
   | false=>simp -implicitDefEqProofs [Jp,Qw,Z5,h1,szP,K0,z,j,h2,q]
   | true=>
    cases b with
    | str x=>
     have I:Q6n yo ["go", "fall"] (mOp oIx (Q4 1) (mC (.int 1))) [zo (.int n),zo (.tup [a,.str x])] st=.ok (.bl (Kn ["go", "fall"] x != yo)) st:=Qb4 (by simp -implicitDefEqProofs [j]);have O:(Kn ["go", "fall"] x != yo)=!Kn ["go", "fall"] x:=by cases Kn ["go", "fall"] x <;> rfl
     rw [O] at I;cases r:Zq (.str x) <;> simp -implicitDefEqProofs [Jp,Qw,Z5,h1,szP,K0,z,j,h2,q,J,r,I,evP]
    | _=>simp -implicitDefEqProofs [Jp,Qw,Z5,h1,szP,K0,z,j,h2,q,J,Zq]
  ·have:¬ ((t.length:Int) + 1 + 1 + 1<=2):=by omega
   simp -implicitDefEqProofs [Jp,Qw,Z5,h1,szP,K0,this]
 | ref=>exact hp.elim
 | _=>simp -implicitDefEqProofs [Jp,Qw,Z5,h1,szP,K0]
theorem Qd9 {g:PV->Bool} {ga:GA} {me:ME} {Γ0:Gam} {xs:List PV} {st:Q0} (h:∀ p∈xs,∃ j,ga p Γ0=zo j/\me j st=.ok (.bl (g p)) st):Z8 ga Yg me [] Γ0 xs st=.ok ((xs.map g).map .bl) st:=by
 have:=Q3q (ga:=ga) (me:=me) (w:=[]) (Γ0:=Γ0) (st:=st) id (fun p=>PV.bl (g p)) (by simp) (ys:=xs) h
 rw [List.map_id] at this;rw [this,bt];rfl
theorem Q1b {g:PV->Bool} (xs:List PV):(xs.map g).all id=xs.all g:=by rw [cG]; rfl
theorem Qs3 {p:PV} (hp:Pl p) (n:Int) (st:Q0):Qz [.int n,p] st=.ok (.bl (Q3a n p)) st:=by
 have h1:=j7 hp 0 8 st;cases p with
 | tup xs=>
  by_cases q:(xs.length:Int)<=8
  ·have z:=Qd9 (g:=K0 n) (ga:=Qn 0) (me:=Zm) (Γ0:=Y5 [zb,zo 0] [zo (.int n),zo (.tup xs)]) (xs:=xs) (st:=st) fun p hm=>⟨_,rfl,by
    have:=Qv7 (PlL.mem hp hm) n st;simp -implicitDefEqProofs [Y5,Zm,this]⟩
   have I:xs.length<=1000000:=by omega
   have hz:szP (.tup xs) 0 8=yo:=by unfold szP; simp [q]
   have j:Q3a n (.tup xs)=(xs.map (K0 n)).all id:=by show (decide ((xs.length:Int)<=8) && xs.all (K0 n))=_; rw [Q1b,bV q,cU]
   rw [j];generalize xs.map (K0 n)=bs at *;simp -implicitDefEqProofs [Qz,Qw,Jh,h1,hz,I,V9,z]
  ·have hz:szP (.tup xs) 0 8=yl:=by unfold szP; simp [q]
   have j:Q3a n (.tup xs)=yl:=by show (decide ((xs.length:Int)<=8) && xs.all (K0 n))=_; rw [bU q,G7]
   simp -implicitDefEqProofs [Qz,Qw,Jh,h1,hz,j]
 | ref=>exact hp.elim
 | _=>simp -implicitDefEqProofs [Qz,Qw,Jh,h1,szP,Q3a]
theorem Qqk {p:PV} (hp:Pl p) (n:Int) (st:Q0):Yr [.int n,p] st=.ok (.bl (Zx n p)) st:=by
 have h1:=j7 hp 6 6 st;cases p with
 | tup xs=>
  by_cases z:xs.length=6
  ·obtain ⟨a,b,c,d,e,f,rfl⟩:∃ a b c d e f,xs=[a,b,c,d,e,f]:=by
    rcases xs with _ | ⟨a,_ | ⟨b,_ | ⟨c,_ | ⟨d,_ | ⟨e,_ | ⟨f,_ | ⟨g,t⟩⟩⟩⟩⟩⟩⟩ <;> first | exact ⟨_,_,_,_,_,_,rfl⟩ | (simp at z; done) | (simp at z; omega)
   obtain ⟨ha,hb,hc,hd,he,hf,_⟩:=(show Pl a/\Pl b/\Pl c/\Pl d/\Pl e/\Pl f/\True from hp);have h2:=Qd4 ha 0 (n - 1) st;have h3:=Qd4 he 0 9 st;have Z:=Qs3 hf n st;have O:atI [a,b,c,d,e,f] 0=zo a:=rfl;have i4:atI [a,b,c,d,e,f] 4=zo e:=rfl;have i5:atI [a,b,c,d,e,f] 5=zo f:=rfl;have Y:cut [a,b,c,d,e,f] (zo 1) (zo 4)=[b,c,d]:=rfl;have j:=Qd9 (g:=Zq) (ga:=Qn 0) (me:=qw) (Γ0:=Y5 [zb] [zo (.int n),zo (.tup [a,b,c,d,e,f])]) (xs:=[b,c,d]) (st:=st) fun p hm=>⟨_,rfl,by
    have I:Pl p:=PlL.mem (ps:=[b,c,d]) ⟨hb,hc,hd,trivial⟩ hm;have:=Qa0 I st;simp -implicitDefEqProofs [Y5,qw,this]⟩
   have hw:([b,c,d].map Zq).all id=(Zq b && (Zq c && Zq d)):=by simp
   have J:Zx n (.tup [a,b,c,d,e,f])=(Q0a a 0 (n - 1) && ([b,c,d].map Zq).all id && (Q0a e 0 9 && Q3a n f)):=by rw [hw]; rfl
   rw [J];generalize [b,c,d].map Zq=bs at *;cases q:Q0a a 0 (n - 1) with
   | false=>simp -implicitDefEqProofs [Yr,Qw,V7,h1,szP,O,h2,q]
   | true=>
    cases r:bs.all id with
    | false=>simp -implicitDefEqProofs [Yr,Qw,V7,h1,szP,O,h2,q,Y,V9,j,r]
    | true=>cases u:Q0a e 0 9 <;> simp -implicitDefEqProofs [Yr,Qw,V7,h1,szP,O,h2,q,Y,V9,j,r,i4,i5,h3,Z,u]
  ·have hz:szP (.tup xs) 6 6=yl:=by
    show (decide ((6:Int)<=xs.length) && decide ((xs.length:Int)<=6))=yl
    by_cases y:(6:Int)<=xs.length
    ·rw [bU (show ¬ (xs.length:Int)<=6 by omega),dh]
    ·rw [bU y,G7]
   have J:Zx n (.tup xs)=yl:=by
    unfold Zx
    split
    ·rename_i e; cases e; simp at z
    ·rfl
   simp -implicitDefEqProofs [Yr,Qw,V7,h1,hz,J]
 | ref=>exact hp.elim
 | _=>simp -implicitDefEqProofs [Yr,Qw,V7,h1,szP,Zx]
theorem Qnb {d:Nat} {ps:List PV} (h:∀ p∈ps,∃ k,U9 d p=zo k):∃ ks,Yw (U9 d) ps=zo ks:=by
 induction ps with
 | nil=>exact ⟨[],rfl⟩
 | cons p ps z=>
  obtain ⟨k,I⟩:=h p (by simp);obtain ⟨ks,j⟩:=z fun q J=>h q (O4 _ J)
  exact ⟨k :: ks,by unfold Yw; rw [I,j]⟩
theorem Q3u {p:PV} {a b:Int} (h:Q0a p a b=yo):∃ x,p=.int x/\a<=x/\x<=b:=by
 cases p with
 | int x=>
  have h:(decide (a<=x) && decide (x<=b))=yo:=h;simp at h;exact ⟨x,rfl,h⟩
 | _=>cases h
theorem qz {p:PV} (h:Zq p=yo):∃ x,p=.str x/\Zp x=yo:=by
 cases p with
 | str x=>exact ⟨x,rfl,h⟩
 | _=>cases h
theorem Qcq {n:Int} {p:PV} (h:K0 n p=yo):∃ x s,p=.tup [.int x,.str s]/\0<=x/\x < n/\Zp s=yo/\Kn ["go", "fall"] s=yl:=by
 unfold K0 at h
 split at h
 ·rename_i a b;rw [E6,E6] at h;obtain ⟨x,rfl,h1,h2⟩:=Q3u h.1;obtain ⟨s,rfl,j⟩:=qz h.2.1;refine ⟨x,s,rfl,h1,by omega,j,?_⟩;have:(!Kn ["go", "fall"] s)=yo:=h.2.2;simpa using this
 ·cases h
theorem Q83 {n:Int} {p:PV} (h:Zx n p=yo):∃ x s e t u ls,p=.tup [.int x,.str s,.str e,.str t,.int u,.tup ls]/\0<=x/\x < n/\Zp s=yo/\Zp e=yo/\Zp t=yo/\0<=u/\u<=9/\ls.length<=8/\∀ l∈ls,K0 n l=yo:=by
 unfold Zx at h
 split at h
 ·rename_i a b c d e f;simp only [E6] at h;obtain ⟨⟨h1,h2,J,j⟩,h5,h6⟩:=h;obtain ⟨x,rfl,x1,x2⟩:=Q3u h1;obtain ⟨s,rfl,s1⟩:=qz h2;obtain ⟨z,rfl,e1⟩:=qz J;obtain ⟨t,rfl,O⟩:=qz j;obtain ⟨u,rfl,q,I⟩:=Q3u h5;unfold Q3a at h6
  split at h6
  ·rename_i ls;simp only [E6,decide_eq_true_eq,F4] at h6;exact ⟨x,s,z,t,u,ls,rfl,x1,by omega,s1,e1,O,q,I,by omega,h6.2⟩
  ·cases h6
 ·cases h
theorem Q4t {n:Int} {p:PV} (h:Zx n p=yo):∃ k,Xn p=zo k:=by
 obtain ⟨x,s,e,t,u,ls,rfl,_,_,_,_,_,_,_,_,j⟩:=Q83 h;obtain ⟨ks,I⟩:=Qnb (d:=3) (ps:=ls) fun l hm=>by
  obtain ⟨y,z,rfl,_⟩:=Qcq (j l hm);exact ⟨_,rfl⟩
 refine ⟨.tup [.int x,.str s,.str e,.str t,.int u,.tup ks],?_⟩;show (Yw (U9 4) _).map HK.tup=_;have q:U9 4 (.tup ls)=zo (.tup ks):=by show (Yw (U9 3) ls).map HK.tup=_; rw [I]; rfl
 simp only [Yw,q];rfl
theorem Qcs {n:Int} {xs:List PV} (h:xs.all (Zx n)=yo):∃ ks,Yw Xn xs=zo ks/\ks.length=xs.length:=by
 induction xs with
 | nil=>exact ⟨[],rfl,rfl⟩
 | cons p ps z=>
  simp only [cI,E6] at h;obtain ⟨k,I⟩:=Q4t h.1;obtain ⟨ks,j,q⟩:=z h.2;exact ⟨k :: ks,by unfold Yw; rw [I,j],by rw [D5,D5,q]⟩
theorem Qkb {p:PV} (hp:Pl p) (n:Int) (st:Q0):Zr [.int n,p] st=.ok (.bl (Q27 n p)) st:=by
 have h1:=j7 hp 0 60 st;cases p with
 | tup xs=>
  by_cases q:(xs.length:Int)<=60
  ·have I:=Qd9 (g:=Zx n) (ga:=Qn 0) (me:=Xp) (Γ0:=Y5 [zb,zo 0] [zo (.int n),zo (.tup xs)]) (xs:=xs) (st:=st) fun p hm=>⟨_,rfl,by
    have:=Qqk (PlL.mem hp hm) n st;simp -implicitDefEqProofs [Y5,Xp,this]⟩
   have O:xs.length<=1000000:=by omega
   have hz:szP (.tup xs) 0 60=yo:=by unfold szP; simp [q]
   have z:Q27 n (.tup xs)=((xs.map (Zx n)).all id && xb xs):=by show (decide ((xs.length:Int)<=60) && xs.all (Zx n) && xb xs)=_; rw [Q1b,bV q,cU]
   rw [z];cases r:(xs.map (Zx n)).all id with
   | false=>
    generalize xs.map (Zx n)=bs at *;simp -implicitDefEqProofs [Zr,Qw,Wg,h1,hz,O,V9,I,r]
   | true=>
    obtain ⟨ks,J,Y⟩:=Qcs (n:=n) (xs:=xs) (by rw [<- Q1b]; exact r);have j:ks.length<=76:=by omega
    have hd:xb xs=decide (((Y3 ks).length:Int)=(xs.length:Int)):=by
     unfold xb;rw [J];show decide ((Y3 ks).length=xs.length)=_
     by_cases y:(Y3 ks).length=xs.length
     ·rw [bV y,bV (by rw [y])]
     ·rw [bU y,bU (by omega)]
    rw [hd];generalize xs.map (Zx n)=bs at *
    by_cases y:((Y3 ks).length:Int)=(xs.length:Int) <;> simp -implicitDefEqProofs [Zr,Qw,Wg,h1,hz,O,V9,I,r,J,j,y]
  ·have hz:szP (.tup xs) 0 60=yl:=by unfold szP; simp [q]
   have z:Q27 n (.tup xs)=yl:=by show (decide ((xs.length:Int)<=60) && xs.all (Zx n) && xb xs)=_; rw [bU q,G7,G7]
   simp -implicitDefEqProofs [Zr,Qw,Wg,h1,hz,z]
 | ref=>exact hp.elim
 | _=>simp -implicitDefEqProofs [Zr,Qw,Wg,h1,szP,Q27]
theorem Qfi {p:PV} (hp:Pl p) (st:Q0):Zw [p] st=.ok (.bl (j4 p)) st:=by
 have h1:=j7 hp 1 4 st;cases p with
 | tup xs=>
  cases q:szP (.tup xs) 1 4 with
  | true=>
   have j:(decide ((1:Int)<=xs.length) && decide ((xs.length:Int)<=4))=yo:=q;have I:=Qd9 (g:=Zq) (ga:=Qn 0) (me:=Ur) (Γ0:=Y5 [zb] [zo (.tup xs)]) (xs:=xs) (st:=st) fun p hm=>⟨_,rfl,by
    have:=Qa0 (PlL.mem hp hm) st;simp -implicitDefEqProofs [Y5,Ur,this]⟩
   have J:xs.length<=1000000:=by simp at j; omega
   have z:j4 (.tup xs)=(xs.map Zq).all id:=by show (decide ((1:Int)<=xs.length) && decide ((xs.length:Int)<=4) && xs.all Zq)=_; rw [Q1b,j,cU]
   rw [z];generalize xs.map Zq=bs at *;simp -implicitDefEqProofs [Zw,Qw,Ws,h1,q,J,V9,I]
  | false=>
   have j:(decide ((1:Int)<=xs.length) && decide ((xs.length:Int)<=4))=yl:=q;have z:j4 (.tup xs)=yl:=by show (decide ((1:Int)<=xs.length) && decide ((xs.length:Int)<=4) && xs.all Zq)=_; rw [j,G7]
   simp -implicitDefEqProofs [Zw,Qw,Ws,h1,q,z]
 | ref=>exact hp.elim
 | _=>simp -implicitDefEqProofs [Zw,Qw,Ws,h1,szP,j4]
theorem Qhi {p:PV} (hp:Pl p) (st:Q0):Za [p] st=.ok (.bl (X3 p)) st:=by
 have h1:=j7 hp 3 3 st;cases p with
 | tup xs=>
  by_cases z:xs.length=3
  ·obtain ⟨a,b,c,rfl⟩:∃ a b c,xs=[a,b,c]:=by
    rcases xs with _ | ⟨a,_ | ⟨b,_ | ⟨c,_ | ⟨g,t⟩⟩⟩⟩ <;> first | exact ⟨_,_,_,rfl⟩ | (simp at z; done) | (simp at z; omega)
   obtain ⟨ha,hb,Y,_⟩:=(show Pl a/\Pl b/\Pl c/\True from hp);have h2:=Qd4 ha 0 20 st;have J:=Qfi hb st;have j:atI [a,b,c] 0=zo a:=rfl;have I:atI [a,b,c] 1=zo b:=rfl;have Z:atI [a,b,c] 2=zo c:=rfl;cases q:Q0a a 0 20 with
   | false=>simp -implicitDefEqProofs [Za,Qw,Ye,h1,szP,j,h2,q,X3]
   | true=>
    cases r:j4 b with
    | false=>simp -implicitDefEqProofs [Za,Qw,Ye,h1,szP,j,I,h2,J,q,r,X3]
    | true=>
     cases b with
     | tup ys=>
      have O:=Qkb Y ys.length st;simp -implicitDefEqProofs [Za,Qw,Ye,h1,szP,j,I,Z,h2,J,O,q,r,X3]
     | _=>cases r
  ·have hz:szP (.tup xs) 3 3=yl:=by
    show (decide ((3:Int)<=xs.length) && decide ((xs.length:Int)<=3))=yl
    by_cases y:(3:Int)<=xs.length
    ·rw [bU (show ¬ (xs.length:Int)<=3 by omega),dh]
    ·rw [bU y,G7]
   have hr:X3 (.tup xs)=yl:=by
    unfold X3
    split
    ·rename_i e; cases e; simp at z
    ·rfl
   simp -implicitDefEqProofs [Za,Qw,Ye,h1,hz,hr]
 | ref=>exact hp.elim
 | _=>simp -implicitDefEqProofs [Za,Qw,Ye,h1,szP,X3]
theorem Ji {m:MS} {nl:Nat} {ps:List PV} {S j:Q0} {v:PV} (h:m (ps.map zo ++ ba (nl - ps.length) zb) S=.rt v j):U6 m nl ps S=.ok v j:=by unfold U6; rw [h]
theorem Us {m:MS} {nl:Nat} {ps:List PV} {S j:Q0} {v:PV} (h:m (ps.map zo ++ ba (nl - ps.length) zb) S=.rt v j):Qw m nl ps S=fin S v j:=by unfold Qw; rw [h]
theorem Q1a {S:Q0} {L:Nat} {xs:List PV} (h:S[L]?=zo (.lst xs)) (j:xs.length < 1000000) (y:PV):Zj S (.ref L) [y]=.ok .non (S.set L (.lst (xs ++ [y]))):=by
 simp only [Zj,chg,h];rw [bS (show xs.length < lim from j)]
theorem Qpu {a b:MT} {Γ:Gam} {S S1:Q0} {r:Res Bool} (h:a Γ S=.ok yo S1) (h2:b Γ S1=r):Q1m a b Γ S=r:=by rw [Q7p,h]; exact h2
theorem Qw2 {a b:MT} {Γ:Gam} {S S1:Q0} (h:a Γ S=.ok yl S1):Q1m a b Γ S=.ok yl S1:=by rw [Q7p,h]; rfl
theorem Jf {m:ME} {Γ:Gam} {S S1:Q0} {v:PV} (h:m Γ S=.ok v S1):Jd m Γ S=.rt v S1:=by rw [Qmw,h]; rfl
theorem Qpp (S:Q0) {a b:Int} (h:a=b):oEq S (.int a) (.int b)=.ok (.bl yo) S:=by simp [h]
theorem Qpq (S:Q0) {a b:Int} (h:¬ a=b):oEq S (.int a) (.int b)=.ok (.bl yl) S:=by simp [h]
theorem Qv4 (S:Q0) {a b:Int} (h:¬ a < b):oLt S (.int a) (.int b)=.ok (.bl yl) S:=by
 have:oLt S (.int a) (.int b)=.ok (.bl (decide (a < b))) S:=by simp
 rw [this,bU h]
theorem Q58 (S:Q0) {a b:Int} (h:b < a):(oI fun a b=>.bl (decide (b < a))) S (.int a) (.int b)=.ok (.bl yo) S:=by
 show Res.ok (PV.bl (decide (b < a))) S=_; rw [bV h]
theorem Q9a (S:Q0) {a b:Int} (h:¬ b < a):(oI fun a b=>.bl (decide (b < a))) S (.int a) (.int b)=.ok (.bl yl) S:=by
 show Res.ok (PV.bl (decide (b < a))) S=_; rw [bU h]
theorem Qbr (S:Q0) (a b:Int):Zt S (.int a) (.int b)=.ok (.int (a + b)) S:=by simp
theorem Qjc {mr:ML} {Γ:Gam} {S S1:Q0} {ps:List PV} (h:mr Γ S=.ok ps S1) (j:ps.length<=1000000:=by decide):yu mr Γ S=.ok (.lst ps) S1:=by
 unfold yu;rw [h,Qx];exact bS j
theorem Qha (S:Q0) (a:Int):oNe S (.int a) (.int a)=.ok (.bl yl) S:=by simp
theorem Qp7 {n:Nat} (j:n<=1000) {m:ME} {Γ:Gam} {S:Q0} (h:m Γ S=.ok (.int n) S):Zu (Q3 m Q9) Γ S=.ok (V3 0 n,[]) S:=by
 rw [Q32,Qq h (show Q9 Γ S=.ok [] S from rfl),Qx];show (if -(lim:Int)<=(n:Int)/\(n:Int)<=lim then _ else _)=_;rw [bS (by rw [V9]; omega),bo]
theorem Qpn (S:Q0) (a:Str):oEq S (.str a) (.str a)=.ok (.bl yo) S:=by simp
theorem Qip {a b:Str} (S:Q0) (h:¬ a=b):oEq S (.str a) (.str b)=.ok (.bl yl) S:=by simp [h]
theorem Qcg {S:Q0} {v:PV} (g:good dep v=yo) (hd:der S v=v):oNe S v v=.ok (.bl yl) S:=by
 have hp:peq v v=yo:=yf g;unfold oNe;rw [hd];simp [g,hp]
structure Mw (L:Nat) (S S':Q0):Prop where
 len:S.length<=S'.length
 keep:∀ t,t≠L->t < S.length->S'[t]?=S[t]?
theorem Mw.refl (L:Nat) (S:Q0):Mw L S S:=⟨O5 _,fun _ _ _=>rfl⟩
theorem Mw.trans {L:Nat} {S S1 j:Q0} (a:Mw L S S1) (b:Mw L S1 j):Mw L S j:=⟨E1 a.len b.len,fun t h1 h2=>(b.keep t h1 (O9 h2 a.len)).trans (a.keep t h1 h2)⟩
theorem Mv.w {L:Nat} {S j:Q0} (a:Mv L S j):Mw L S j:=⟨by rw [a.len]; exact O5 _,fun t h _=>a.keep t h⟩
theorem Mw.add (L:Nat) (S:Q0) (c:Cell):Mw L S (S ++ [c]):=⟨by rw [O6]; omega,fun t _ h=>O7 h⟩
theorem TapeAt.add {S:Q0} {L:Nat} {ns:List Int} (T:TapeAt S L ns) (c:Cell):TapeAt (S ++ [c]) L ns:=by
 have h:=T.lt;obtain ⟨p,q,e⟩:=T;exact ⟨p,q,by rw [O7 h]; exact e⟩
theorem TapeAt.put {S:Q0} {L M:Nat} {ns:List Int} (T:TapeAt S L ns) (j:M≠L) (c:Cell):TapeAt (S.set M c) L ns:=by
 obtain ⟨p,q,e⟩:=T;exact ⟨p,q,by rw [E5 j]; exact e⟩
theorem rgw {n:Nat} (j:n<=1000) {m:ME} {Γ:Gam} {S S1:Q0} (h:m Γ S=.ok (.int n) S1):Zu (Q3 m Q9) Γ S=.ok (V3 0 n,[]) S1:=by
 rw [Q32,Qq h (show Q9 Γ S1=.ok [] S1 from rfl),Qx];show (if -(lim:Int)<=(n:Int)/\(n:Int)<=lim then _ else _)=_;rw [bS (by rw [V9]; omega),bo]
theorem Qes (j:List Nat) (acc:Array Nat):cJ (fun acc (p:Str)=>acc ++ ("" : Str).cps ++ p.cps) acc (j.map fun c=>(⟨#[c]⟩:Str))=acc ++ j.toArray:=by
 induction j generalizing acc with
 | nil=>simp
 | cons c j q=>
  rw [D2,F1,q];have:("" : Str).cps=#[]:=rfl;rw [this];simp
theorem Qb1 (j:List Nat):Txt.join "" (j.map fun c=>(⟨#[c]⟩:Str))=⟨j.toArray⟩:=by
 show Builtin.Str.glued "" _=_;unfold Builtin.Str.glued;cases j with
 | nil=>rfl
 | cons c j=>
  show (⟨cJ _ #[c] (j.map fun c=>(⟨#[c]⟩:Str))⟩:Str)=_
  rw [Qes];simp
theorem Qhy {j:List Nat} (h:j.length<=1000):JoinOk "" (j.map fun c=>(⟨#[c]⟩:Str))=yo:=by
 unfold JoinOk;have q:∀ (j:List Nat) (a:Nat),cJ (fun x1 (x2:Str)=>x1 + x2.length + ("" : Str).length) a (j.map fun c=>(⟨#[c]⟩:Str))=a + j.length:=by
  intro j
  induction j with
  | nil=>intro a; rfl
  | cons c j z=>
   intro a;rw [D2,F1,z,D5];show a + 1 + 0 + _=_;omega
 rw [<- iF];show (!decide (cJ _ 0 (j.map fun c=>(⟨#[c]⟩:Str)) > sizeLine))=yo
 rw [q,sizeLine_eq];simp;omega
theorem Qa6 (j:List Nat):Q0c (j.map fun c=>PV.str ⟨#[c]⟩)=zo (j.map fun c=>(⟨#[c]⟩:Str)):=by
 induction j with
 | nil=>rfl
 | cons c j q=>rw [D2,Q0c,q]; rfl
theorem Q9z {j:List Nat} (h1:1<=j.length) (h2:j.length<=8) (h:∀ c∈j,zy c=yo):Zp ⟨j.toArray⟩=yo:=by
 unfold Zp;have e:(⟨j.toArray⟩:Str).length=j.length:=by show j.toArray.size=_; simp
 rw [e];simp only [E6,decide_eq_true_eq,F4];exact ⟨⟨by omega,by omega⟩,fun c q=>h c (by simpa using q)⟩
theorem Qch {ns:List Int} {S:Q0} {L:Nat} (T:TapeAt S L ns):∃ (x:Str) (Z:Q0),Zp x=yo/\TapeAt Z L ns/\Mw L S Z/\Y1 [.ref L] S=.ok (.str x) Z:=by
 obtain ⟨d,S1,hd,T1,M1,e1⟩:=Z7 T 4 (by decide) (by decide)
 by_cases q:d=0
 ·subst q;obtain ⟨k,J,hk,T2,M2,e2⟩:=Z7 T1 8 (by decide) (by decide);obtain ⟨x,hx,ex⟩:∃ x,Zp x=yo/\oIx J (.lst [.str "go",.str "fall",.str "gone",.str "fallen",.str "gofall",.str "a",.str "aa",.str "abcdefgh"]) (.int k)=.ok (.str x) J:=by
   have:k=0\/k=1\/k=2\/k=3\/k=4\/k=5\/k=6\/k=7:=by omega
   rcases this with rfl | rfl | rfl | rfl | rfl | rfl | rfl | rfl <;> exact ⟨_,by decide +kernel,rfl⟩
  refine ⟨x,J,hx,T2,M1.w.trans M2.w,Ji ?_⟩;show Vf [zo (.ref L)] S=_;exact Yu (Km (Qv (Qi (Qm (n:=2) rfl rfl e1) rfl (Qpp _ rfl))) (Jf (Qi rfl (Qm (n:=2) rfl rfl e2) ex)))
 ·obtain ⟨k,J,hk,T2,M2,e2⟩:=Z7 T1 4 (by decide) (by decide);obtain ⟨I,O,ec,T3,M3,z,a3,rfl,a1⟩:=Q09 (xs:=bX (1 + k)) (fun (i:Nat)=>PV.int ((0:Int) + (i:Int))) (fun i I st=>TapeAt st L ns/\Mw L J st/\∃ z:List Nat,z.length=i/\I=z.map (fun c=>PV.str ⟨#[c]⟩)/\∀ c∈z,zy c=yo) (ga:=Qn 0) (me:=U1) (w:=[]) (Γ0:=Y5 [zb,zo 0] [zo (.ref L)]) (fun _ _ st _=>Z4 st)
   (fun i x I st _ ⟨Ti,Mi,z,h1,h2,h3⟩=>by
    obtain ⟨j,S4,hj,T4,M4,e4⟩:=Z7 Ti 7 (by decide) (by decide);obtain ⟨c,hc,a2⟩:∃ c,zy c=yo/\Qmj S4 (.str "abgoflz") (.int j)=.ok (.str ⟨#[c]⟩) S4:=by
     have:j=0\/j=1\/j=2\/j=3\/j=4\/j=5\/j=6:=by omega
     rcases this with rfl | rfl | rfl | rfl | rfl | rfl | rfl <;> exact ⟨_,by decide +kernel,rfl⟩
    refine ⟨_,rfl,.str ⟨#[c]⟩,S4,Qi rfl (Qm (n:=2) rfl rfl e4) a2,T4,Mi.trans M4.w,z ++ [c],by rw [O6,h1]; rfl,by rw [h2,E4]; rfl,fun y Y=>?_⟩
    rcases E2.mp Y with Y | Y
    ·exact h3 y Y
    ·have:y=c:=by simpa using Y
     rw [this]; exact hc)
   ⟨T2,Mw.refl L J,[],rfl,rfl,fun c hc=>nomatch hc⟩
  rw [F3] at a3;refine ⟨⟨z.toArray⟩,O,Q9z (by omega) (by omega) a1,T3,(M1.w.trans M2.w).trans M3,Ji ?_⟩;show Vf [zo (.ref L)] S=_;refine Q8 (Vq (Qv (Qi (Qm (n:=2) rfl rfl e1) rfl (Qpq _ (by omega)))) rfl) (Jf ?_);show Qcm _ _ _ _=_;have hl:Uy (Z1 [zb,zo 0] (Qn 0) (Zu (Q3 (mOp Zt (mC (.int 1)) (Qj 2 Qk (Q3 (Q4 0) (Q3 (mC (.int 4)) Q9)))) Q9)) Yg U1) [zo (.ref L)] S1=.ok (.lst (z.map fun c=>PV.str ⟨#[c]⟩)) O:=Q1f (xc (rgw (n:=1 + k) (by omega) (Qi rfl (Qm (n:=2) rfl rfl e2) (by rw [Qbr]; push_cast; rfl))) ec);unfold Qcm;show ((Q3 _ Q9) [zo (.ref L)] S1).bind _=_;rw [Qq hl (show Q9 _ O=.ok [] O from rfl),Qx];show (match (zo (z.map fun c=>PV.str ⟨#[c]⟩)).bind Q0c with | some ss=>if JoinOk "" ss=yo then Res.ok (PV.str (Txt.join "" ss)) O else .stuck | none=>.stuck)=_
  rw [iT,Qa6];show (if JoinOk "" _=yo then _ else _)=_;rw [bS (Qhy (by omega)),Qb1]
def Qw6 (x:Str):Prop:=Zp x=yo/\Kn ["go", "fall"] x=yl
theorem Q39 {ns:List Int} {S:Q0} {L:Nat} (T:TapeAt S L ns):∃ (x:Str) (j:Q0),Qw6 x/\TapeAt j L ns/\Mw L S j/\Zc [.ref L] S=.ok (.str x) j:=by
 obtain ⟨x,S1,I,z,M1,e1⟩:=Qch T
 by_cases q:x = "go"
 ·subst q;refine ⟨"goa",S1,⟨by decide +kernel,by decide +kernel⟩,z,M1,Ji ?_⟩;show Jn [zo (.ref L),zb] S=_;exact Q8 (Qp (Qm (n:=1) rfl rfl e1)) (Yu (Km (Qui (Qv (Qi rfl rfl (Qpn _ _)))) (Jf (Qi rfl rfl rfl))))
 ·by_cases r:x = "fall"
  ·subst r;refine ⟨"falla",S1,⟨by decide +kernel,by decide +kernel⟩,z,M1,Ji ?_⟩;show Jn [zo (.ref L),zb] S=_;exact Q8 (Qp (Qm (n:=1) rfl rfl e1)) (Yu (Km (zf (Qv (Qi rfl rfl (Qip _ q))) (Qv (Qi rfl rfl (Qpn _ _)))) (Jf (Qi rfl rfl rfl))))
  ·refine ⟨x,S1,⟨I,?_⟩,z,M1,Ji ?_⟩
   ·unfold Kn;simp only [bz,List.any_nil,dH,bU (fun h=>q (Eq.symm h)),bU (fun h=>r (Eq.symm h))]
   ·show Jn [zo (.ref L),zb] S=_;exact Q8 (Qp (Qm (n:=1) rfl rfl e1)) (Q8 (Vq (zf (Qv (Qi rfl rfl (Qip _ q))) (Qv (Qi rfl rfl (Qip _ r)))) rfl) (Jf rfl))
theorem Qi0 {xs:List PV} {k:Nat} {p:PV} (h:xs[k]?=zo p) (S:Q0):oIx S (.lst xs) (.int k)=.ok p S:=by
 show okO S (atI xs (k:Int))=_;rw [Qd7 h]; rfl
theorem ix_tup {xs:List PV} {k:Nat} {p:PV} (h:xs[k]?=zo p) (S:Q0):oIx S (.tup xs) (.int k)=.ok p S:=by
 show okO S (atI xs (k:Int))=_;rw [Qd7 h]; rfl
def Vk (xs:List Str):PV:=.lst (xs.map .str)
theorem Q12 {ns:List Int} {S:Q0} {L i:Nat} (T:TapeAt S L ns) {xs:List Str} (h1:1<=xs.length) (h2:xs.length<=100) {Γ:Gam} (O:∀ st,Q4 0 Γ st=.ok (.ref L) st) (q:∀ st,Q4 i Γ st=.ok (Vk xs) st):∃ (x:Str) (j:Q0),x∈xs/\TapeAt j L ns/\Mw L S j/\(mOp oIx (Q4 i) (Qj 2 Qk (Q3 (Q4 0) (Q3 (J1 Zv (Q3 (Q4 i) Q9)) Q9)))) Γ S=.ok (.str x) j:=by
 have J:(xs.map PV.str).length=xs.length:=O1 _;obtain ⟨d,S1,hd,z,M1,e1⟩:=Z7 T xs.length h1 (by omega);have I:(xs.map PV.str)[d]?=zo (.str xs[d]):=by rw [D7,O2 hd]; rfl
 refine ⟨xs[d],S1,G9 hd,z,M1.w,Qi (q S) (Qm (n:=2) (Qq (O S) (Qq (U7 (Qq (q S) rfl) rfl) rfl)) rfl ?_) (Qi0 I S1)⟩;show Qk [.ref L,.int ((xs.map PV.str).length:Nat)] S=_;rw [J]; exact e1
theorem Xs {x:Str} (h:Zp x=yo):x.length<=1000000:=by
 unfold Zp at h;simp only [E6,decide_eq_true_eq] at h;omega
def Q42 (ws:List Str) (r:PV):Prop:=∀ a b c d e ls,r=.tup [a,b,c,d,e,.tup ls]->∀ l∈ls,∃ (h:Int) (y:Str),l=.tup [.int h,.str y]/\y∈ws
def Qbu (ss:List Str) (r:PV):Prop:=∀ a b c d e ls,r=.tup [a,b,c,d,e,ls]->∃ y∈ss,d=.str y
theorem Qkc {ns:List Int} {S:Q0} {L n:Nat} (T:TapeAt S L ns) (a2:1<=n) (hn:n<=100) {ss ws:List Str} (s1:1<=ss.length) (s2:ss.length<=100) (s3:∀ x∈ss,Zp x=yo) (w1:1<=ws.length) (w2:ws.length<=100) (w3:∀ x∈ws,Qw6 x) :
  ∃ (r:PV) (S':Q0),Zx n r=yo/\Pl r/\Q42 ws r/\Qbu ss r/\TapeAt S' L ns/\Mw L S S'/\Vi [.ref L,.int n,Vk ss,Vk ws] S=.ok r S':=by
 obtain ⟨I,S1,h1,T1,M1,e1⟩:=Z7 T n a2 (by omega);obtain ⟨st,S2,h2,T2,M2,e2⟩:=Q12 (i:=2) T1 s1 s2 (Γ:=[zo (.ref L),zo (.int n),zo (Vk ss),zo (Vk ws),zo (.int I),zb,zb,zb,zb,zb,zb]) (fun _=>rfl) (fun _=>rfl);obtain ⟨wd,S3,h3,T3,M3,e3⟩:=Q12 (i:=3) T2 w1 w2 (Γ:=[zo (.ref L),zo (.int n),zo (Vk ss),zo (Vk ws),zo (.int I),zo (.str st),zb,zb,zb,zb,zb]) (fun _=>rfl) (fun _=>rfl);obtain ⟨k4,S4,h4,T4,M4,e4⟩:=Z7 T3 4 (by decide) (by decide);obtain ⟨O,a5,b1⟩:∃ O,Zp O=yo/\oIx S4 (.lst [.str "go",.str "go",.str "fall",.str wd]) (.int k4)=.ok (.str O) S4:=by
  have:k4=0\/k4=1\/k4=2\/k4=3:=by omega
  rcases this with rfl | rfl | rfl | rfl
  ·exact ⟨_,by decide +kernel,rfl⟩
  ·exact ⟨_,by decide +kernel,rfl⟩
  ·exact ⟨_,by decide +kernel,rfl⟩
  ·exact ⟨wd,(w3 wd h3).1,rfl⟩
 obtain ⟨Y,S5,h5,T5,M5,e5⟩:=Q12 (i:=2) T4 s1 s2 (Γ:=[zo (.ref L),zo (.int n),zo (Vk ss),zo (Vk ws),zo (.int I),zo (.str st),zo (.str O),zb,zb,zb,zb]) (fun _=>rfl) (fun _=>rfl);obtain ⟨Z,j,h6,T6,M6,e6⟩:=Z7 T5 7 (by decide) (by decide);obtain ⟨z,a9,a7⟩:∃ z:Int,(0<=z/\z<=9)/\oIx j (.lst [.int 0,.int 0,.int 0,.int 1,.int 1,.int 2,.int 9]) (.int Z)=.ok (.int z) j:=by
  have:Z=0\/Z=1\/Z=2\/Z=3\/Z=4\/Z=5\/Z=6:=by omega
  rcases this with rfl | rfl | rfl | rfl | rfl | rfl | rfl <;> exact ⟨_,by decide,rfl⟩
 have b3:=T6.add (.lst []);obtain ⟨k7,S7,h7,T7,M7,e7⟩:=Z7 b3 6 (by decide) (by decide);have hM:j.length≠L:=by have:=T6.lt; omega
 have a1:j.length < (j ++ [Cell.lst []]).length:=by rw [O6]; simp
 have c7:S7[j.length]?=zo (.lst []):=by rw [M7.w.keep _ hM a1,D4 (O5 _),L1]; rfl
 obtain ⟨ct,a4,b4⟩:∃ ct:Nat,ct<=8/\oIx S7 (.lst [.int 0,.int 0,.int 1,.int 2,.int 3,.int 8]) (.int k7)=.ok (.int ct) S7:=by
  have:k7=0\/k7=1\/k7=2\/k7=3\/k7=4\/k7=5:=by omega
  rcases this with rfl | rfl | rfl | rfl | rfl | rfl
  ·exact ⟨0,by decide,rfl⟩
  ·exact ⟨0,by decide,rfl⟩
  ·exact ⟨1,by decide,rfl⟩
  ·exact ⟨2,by decide,rfl⟩
  ·exact ⟨3,by decide,rfl⟩
  ·exact ⟨8,by decide,rfl⟩
 obtain ⟨b6,S8,e8,T8,M8,ls,c8,b2,q,t8,rfl⟩:=Q3g (xs:=bX ct) (fun (i:Nat)=>PV.int ((0:Int) + (i:Int)))
  (fun i Γ A=>TapeAt A L ns/\Mw L j A/\∃ ls:List PV,A[j.length]?=zo (.lst ls)/\ls.length=i/\(∀ l∈ls,(K0 n l=yo/\Pl l)/\∃ (h:Int) (y:Str),l=.tup [.int h,.str y]/\y∈ws)/\∃ t,Γ=[zo (.ref L),zo (.int n),zo (Vk ss),zo (Vk ws),zo (.int I),zo (.str st),zo (.str O),zo (.str Y),zo (.int z),zo (.ref j.length),t])
  (ga:=Qn 10) (body:=Kw) (w:=[]) (fun _ _ A _=>Z4 A) (fun i x Γ A hx ⟨Ti,Mi,ls,ci,J,q,t,b0⟩=>by
   subst b0;obtain ⟨d,A1,hd,TA,MA,ea⟩:=Z7 Ti n a2 (by omega);obtain ⟨y,A2,hy,TB,MB,eb⟩:=Q12 (i:=3) TA w1 w2 (Γ:=[zo (.ref L),zo (.int n),zo (Vk ss),zo (Vk ws),zo (.int I),zo (.str st),zo (.str O),zo (.str Y),zo (.int z),zo (.ref j.length),zo (.int ((0:Int) + (x:Int)))]) (fun _=>rfl) (fun _=>rfl);have a3:j.length < A.length:=(O0.mp ci).1;have a8:j.length < A1.length:=O9 a3 MA.w.len;have c2:A2[j.length]?=zo (.lst ls):=by rw [MB.keep _ hM a8,MA.w.keep _ hM a3]; exact ci
   have a6:j.length < A2.length:=(O0.mp c2).1;have b7:i < ct:=by have:=(O0.mp hx).1; rwa [F3] at this
   refine ⟨_,rfl,_,A2.set j.length (.lst (ls ++ [.tup [.int d,.str y]])),Q0b (xs:=ls) rfl (by show (match A[j.length]? with | some (.lst xs)=>zo xs | _=>zb)=_; rw [ci]) (Qq (z7 (Qq (Qm (n:=2) rfl rfl ea) (Qq eb rfl)) (by simp)) rfl) (Q1a c2 (by omega) _),TB.put hM _,⟨?_,fun t h1 h2=>?_⟩,ls ++ [.tup [.int d,.str y]],?_,by rw [O6,J]; rfl,fun l hm=>?_,_,rfl⟩
   ·rw [F9]; exact E1 Mi.len (E1 MA.w.len MB.len)
   ·rw [E5 (by omega)];exact ((Mi.trans MA.w).trans MB).keep t h1 h2
   ·rw [E8 a6]
   ·rcases E2.mp hm with hm | hm
    ·exact q l hm
    ·have:l=.tup [.int d,.str y]:=by simpa using hm
     subst this;obtain ⟨y1,y2⟩:=w3 y hy;refine ⟨⟨?_,trivial,Xs y1,trivial⟩,d,y,rfl,hy⟩;show (decide ((0:Int)<=d) && decide ((d:Int)<=n - 1) && (Zp y && !Kn ["go", "fall"] y))=yo;rw [y1,y2];simp;omega)
  (Γ:=[zo (.ref L),zo (.int n),zo (Vk ss),zo (Vk ws),zo (.int I),zo (.str st),zo (.str O),zo (.str Y),zo (.int z),zo (.ref j.length),zb]) (st:=S7)
  ⟨T7,(Mw.add L j _).trans M7.w,[],c7,rfl,fun l J=>(nomatch J),zb,rfl⟩
 rw [F3] at b2;refine ⟨.tup [.int I,.str st,.str O,.str Y,.int z,.tup ls],S8,?_,?_,?_,?_,T8,((((M1.w.trans M2).trans M3).trans M4.w).trans M5).trans (M6.w.trans M8),Ji ?_⟩
 ·show (decide ((0:Int)<=I) && decide ((I:Int)<=n - 1) && (Zp st && (Zp O && Zp Y)) && (decide ((0:Int)<=z) && decide (z<=9) && (decide ((ls.length:Int)<=8) && ls.all (K0 n))))=yo;rw [s3 st h2,a5,s3 Y h5];simp only [E6,decide_eq_true_eq,F4];exact ⟨⟨⟨by omega,by omega⟩,trivial,trivial,trivial⟩,a9,by omega,fun l J=>(q l J).1.1⟩
 ·exact ⟨trivial,Xs (s3 st h2),Xs a5,Xs (s3 Y h5),trivial,PlL.of fun l J=>(q l J).1.2,trivial⟩
 ·intro a b c d e b5 eq l J;cases eq;exact (q l J).2
 ·intro a b c d e b5 eq;cases eq;exact ⟨Y,h5,rfl⟩
 ·show Xj [zo (.ref L),zo (.int n),zo (Vk ss),zo (Vk ws),zb,zb,zb,zb,zb,zb,zb] S=_;have a4:Ww S8 [.ref j.length]=.ok (.tup ls) S8:=by
   show (match (match S8[j.length]? with | some (.lst xs)=>zo xs | _=>zb) with | some xs=>Res.ok (PV.tup xs) S8 | none=>.stuck)=_
   rw [c8]
  exact Q8 (Qp (Qm (n:=2) rfl rfl e1)) (Q8 (Qp e2) (Q8 (Qp (Qi (Qjc (Qq rfl (Qq rfl (Qq rfl (Qq e3 rfl)))) (by simp)) (Qm (n:=2) rfl rfl e4) b1)) (Q8 (Qp e5) (Q8 (Qp (Qi rfl (Qm (n:=2) rfl rfl e6) a7)) (Q8 (Qp (Vt rfl)) (Q8 (Y4 (rgw (n:=ct) (by omega) (Qi rfl (Qm (n:=2) rfl rfl e7) b4)) e8) (Jf (z7 (Qq rfl (Qq rfl (Qq rfl (Qq rfl (Qq rfl (Qq (U7 rfl a4) rfl)))))) (by simp)))))))))
theorem Ua {mo mi m:ME} {Γ:Gam} {S S1 I z J:Q0} {v p q:PV} (h1:m Γ S=.ok v S1) (h2:mo Γ S1=.ok p I) (Y:mi Γ I=.ok q z) (O:x9 z p q v=zo J):qr mo mi m Γ S=.nx Γ J:=by
 unfold qr;rw [h1];show (mo Γ S1).sbind _=_;rw [h2];show (mi Γ I).sbind _=_;rw [Y];show (match x9 z p q v with | some j=>SR.nx Γ j | none=>.stuck)=_;rw [O]
def Jv (ks:List HK):List (HK × PV):=ks.map fun k=>(k,.bl yo)
theorem Q8d (ks:List HK) (k:HK):Sm.putT (Jv ks) k (.bl yo)=Jv (Jy ks k):=by
 unfold Sm.putT Jy
 by_cases q:k∈ks
 ·rw [bS q,bS]
  ·unfold Jv;rw [bt];refine cZ fun x _=>?_
   show (if x=k then (x,PV.bl yo) else (x,PV.bl yo))=_
   split <;> rfl
  ·unfold Jv;rw [dW,dA];exact ⟨k,q,by simp⟩
 ·rw [bT q,bT]
  ·unfold Jv; rw [E4]; rfl
  ·unfold Jv;rw [dW,dA];rintro ⟨x,j,e⟩;have:x=k:=by simpa using e
   rw [this] at j; exact q j
theorem Q5g {S:Q0} {D:Nat} {ks:List HK} (h:S[D]?=zo (.dtp (Jv ks))) (j:ks.length < 1000000) {p:PV} {k:HK} (q:Xn p=zo k):x9 S (.ref D) p (.bl yo)=zo (S.set D (.dtp (Jv (Jy ks k)))):=by
 have hd:Yi S (.ref D)=zo (Jv ks):=by show (match S[D]? with | some (.dtp kvs)=>zo kvs | _=>zb)=_; rw [h]
 unfold x9;simp only [hd,q];rw [bS (by unfold Jv; rw [O1]; exact j),Q8d]
theorem Qbt {ks:List HK} (h:ks.Nodup) (k:HK):(Jy ks k).Nodup:=by
 unfold Jy
 split
 ·exact h
 ·rename_i q;exact cS.mpr ⟨h,by simp,fun x j y z e=>by
   have:y=k:=by simpa using z
   rw [e,this] at j; exact q j⟩
theorem Q2z:∀ {ks acc:List HK},(acc ++ ks).Nodup->ks.foldl Jy acc=acc ++ ks
 | [],acc,_=>by simp
 | k :: ks,acc,h=>by
  rw [F1];have j:k∉acc:=fun hm=>(cS.mp h).2.2 k hm k (by simp) rfl
  have e:Jy acc k=acc ++ [k]:=by unfold Jy; rw [bT j]
  rw [e,Q2z (by rw [dJ]; exact h)];simp
theorem Qmm {ks:List HK} (h:ks.Nodup):Y3 ks=ks:=by
 have:=Q2z (ks:=ks) (acc:=[]) (by simpa using h);simpa [Y3] using this
mutual
theorem Qi5:∀ {d:Nat} {p:PV} {k:HK},U9 d p=zo k->hkV k=p
 | _,.int i,_,e=>by cases j:(‹Nat›) <;> (rw [j] at e; cases e; rfl)
 | _,.str x,_,e=>by cases j:(‹Nat›) <;> (rw [j] at e; cases e; rfl)
 | 0,.tup ps,_,e=>by cases e
 | d + 1,.tup ps,k,e=>by
  have e:(Yw (U9 d) ps).map HK.tup=zo k:=e;cases z:Yw (U9 d) ps with
  | none=>rw [z] at e; cases e
  | some l=>
   rw [z] at e;cases e;show PV.tup (hkVL l)=_;rw [hkVL_of z]
 | 0,.non,_,e=>by cases e
 | 0,.bl _,_,e=>by cases e
 | 0,.lst _,_,e=>by cases e
 | 0,.fro _,_,e=>by cases e
 | 0,.ref _,_,e=>by cases e
 | 0,.dic,_,e=>by cases e
 | _ + 1,.non,_,e=>by cases e
 | _ + 1,.bl _,_,e=>by cases e
 | _ + 1,.lst _,_,e=>by cases e
 | _ + 1,.fro _,_,e=>by cases e
 | _ + 1,.ref _,_,e=>by cases e
 | _ + 1,.dic,_,e=>by cases e
theorem hkVL_of:∀ {d:Nat} {ps:List PV} {l:List HK},Yw (U9 d) ps=zo l->hkVL l=ps
 | _,[],_,e=>by cases e; rfl
 | d,p :: ps,l,e=>by
  unfold Yw at e
  split at e
  ·rename_i k j e1 e2;cases e;show hkV k :: hkVL j=_;rw [Qi5 e1,hkVL_of e2]
  ·cases e
end
theorem Qv8 {p:PV} {k:HK} (h:Xn p=zo k):hkV k=p:=by
 cases p with
 | tup ps=>exact Qi5 (d:=5) h
 | _=>cases h
structure Man (most:Int) (starts:List Str) (rules:List PV):Prop where
 m0:0<=most
 m1:most<=20
 s1:1<=starts.length
 s4:starts.length<=4
 sw:∀ x∈starts,Zp x=yo
 r:rules.all (Zx starts.length)=yo
 pl:∀ p∈rules,Pl p
 len:rules.length<=9
 ks:∃ ks,Yw Xn rules=zo ks/\ks.Nodup
 ws:∃ sts ws:List Str,ws.length<=2/\sts.length ^ starts.length * 2 ^ (starts.length * ws.length) * (most.toNat + 1)<=576/\(∀ x∈starts,x∈sts)/\∀ p∈rules,Q42 ws p/\Qbu sts p
def Qs (most:Int) (starts:List Str) (rules:List PV):PV:=.tup [.int most,.tup (starts.map .str),.tup rules]
theorem Q8t {ns:List Int} {S:Q0} {L i:Nat} {P:Str->Prop} {F:FN} (hF:∀ {S:Q0},TapeAt S L ns->∃ (x:Str) (j:Q0),P x/\TapeAt j L ns/\Mw L S j/\F [.ref L] S=.ok (.str x) j) (T:TapeAt S L ns) {m:Nat} (hm:m<=100) {Γ:Gam} (hG:Y5 [zb,zo 0] Γ=[zb,zo (.ref L)]) (hv:Q4 i Γ S=.ok (.int m) S) :
  ∃ (xs:List Str) (j:Q0),xs.length=m/\(∀ x∈xs,P x)/\TapeAt j L ns/\Mw L S j/\Uy (Z1 [zb,zo 0] (Qn 0) (Zu (Q3 (Q4 i) Q9)) Yg (Qj 1 F (Q3 (Q4 1) Q9))) Γ S=.ok (Vk xs) j:=by
 obtain ⟨q,S3,ec,T3,Z,xs,I,rfl,J⟩:=Q09 (xs:=bX m) (fun (i:Nat)=>PV.int ((0:Int) + (i:Int))) (fun i q st=>TapeAt st L ns/\Mw L S st/\∃ xs:List Str,xs.length=i/\q=xs.map PV.str/\∀ x∈xs,P x) (ga:=Qn 0) (me:=Qj 1 F (Q3 (Q4 1) Q9)) (w:=[]) (Γ0:=[zb,zo (.ref L)]) (fun _ _ st _=>Z4 st)
  (fun i x q st _ ⟨Ti,Mi,xs,h1,h2,h3⟩=>by
   obtain ⟨y,S4,hy,Y,O,e4⟩:=hF Ti;refine ⟨_,rfl,.str y,S4,Qm (n:=1) rfl rfl e4,Y,Mi.trans O,xs ++ [y],by rw [O6,h1]; rfl,by rw [h2,E4]; rfl,fun z hz=>?_⟩;rcases E2.mp hz with hz | hz
   ·exact h3 z hz
   ·have:z=y:=by simpa using hz
    rw [this]; exact hy)
  ⟨T,Mw.refl L S,[],rfl,rfl,fun c hc=>nomatch hc⟩
 rw [F3] at I;exact ⟨xs,S3,I,J,T3,Z,Q1f (xc (rgw (n:=m) (by omega) hv) (by rw [hG]; exact ec))⟩
theorem Qfp {k:Nat} (j:k < 5) (S:Q0):∃ n m w t:Nat,(1<=n/\n<=4/\1<=m/\m<=3/\1<=w/\w<=2/\1<=t/\t<=21/\m ^ n * 2 ^ (n * w) * t<=576) /\
  oIx S (.lst [.tup [.int 2,.int 3,.int 2,.int 4],.tup [.int 3,.int 2,.int 1,.int 4],.tup [.int 1,.int 2,.int 1,.int 21],.tup [.int 2,.int 2,.int 1,.int 21],.tup [.int 4,.int 2,.int 1,.int 2]]) (.int k)=.ok (.tup [.int n,.int m,.int w,.int t]) S:=by
 have:k=0\/k=1\/k=2\/k=3\/k=4:=by omega
 rcases this with rfl | rfl | rfl | rfl | rfl
 ·exact ⟨2,3,2,4,by decide,rfl⟩
 ·exact ⟨3,2,1,4,by decide,rfl⟩
 ·exact ⟨1,2,1,21,by decide,rfl⟩
 ·exact ⟨2,2,1,21,by decide,rfl⟩
 ·exact ⟨4,2,1,2,by decide,rfl⟩
theorem Q4z {n:Int} {ws ss:List Str}:∀ {ks:List HK},(∀ k∈ks,∃ p,Xn p=zo k/\Zx n p=yo/\Pl p/\Q42 ws p/\Qbu ss p)->Yw Xn (ks.map hkV)=zo ks/\(ks.map hkV).all (Zx n)=yo/\∀ p∈ks.map hkV,Pl p/\Q42 ws p/\Qbu ss p
 | [],_=>⟨rfl,rfl,fun p h=>nomatch h⟩
 | k :: ks,h=>by
  obtain ⟨p,h1,h2,I⟩:=h k (by simp);obtain ⟨a,b,c⟩:=Q4z fun x z=>h x (O4 _ z)
  have e:=Qv8 h1;refine ⟨?_,?_,fun q j=>?_⟩
  ·rw [D2,e];unfold Yw;rw [h1,a]
  ·rw [D2,cI,e,h2,b]; rfl
  ·rw [D2,e] at j;rcases D6.mp j with rfl | j
   ·exact I
   ·exact c q j
theorem Qef {ns:List Int} {S:Q0} {L:Nat} (T:TapeAt S L ns):∃ (most:Int) (starts:List Str) (rules:List PV) (S':Q0),Man most starts rules/\TapeAt S' L ns/\Mw L S S'/\W7 [.ref L] S=.ok (Qs most starts rules) S':=by
 obtain ⟨k,S1,hk,T1,M1,e1⟩:=Z7 T 5 (by decide) (by decide);obtain ⟨n,m,w,t,⟨n1,n4,m1,m3,w1,w2,t1,t2,a2⟩,es⟩:=Qfp hk S1;generalize hsz:PV.lst [.tup [.int 2,.int 3,.int 2,.int 4],.tup [.int 3,.int 2,.int 1,.int 4],.tup [.int 1,.int 2,.int 1,.int 21],.tup [.int 2,.int 2,.int 1,.int 21],.tup [.int 4,.int 2,.int 1,.int 2]]=sz at es;obtain ⟨ss,S2,a6,a1,T2,M2,e2⟩:=Q8t (i:=3) Qch T1 (m:=m) (by omega) (Γ:=[zo (.ref L),zo sz,zo (.int n),zo (.int m),zo (.int w),zo (.int t),zb,zb,zb,zb,zb]) rfl rfl;obtain ⟨ws,j,b3,a9,T3,M3,e3⟩:=Q8t (i:=4) Q39 T2 (m:=w) (by omega) (Γ:=[zo (.ref L),zo sz,zo (.int n),zo (.int m),zo (.int w),zo (.int t),zo (Vk ss),zb,zb,zb,zb]) rfl rfl;have a8:=T3.add (.dtp []);obtain ⟨k4,S4,h4,T4,M4,e4⟩:=Z7 a8 10 (by decide) (by decide);have hM:j.length≠L:=by have:=T3.lt; omega
 have c4:S4[j.length]?=zo (.dtp (Jv [])):=by rw [M4.w.keep _ hM (by rw [O6]; simp),D4 (O5 _),L1]; rfl
 obtain ⟨b6,S5,e5,T5,M5,ks,c5,b0,b1,q,t5,rfl⟩:=Q3g (xs:=bX k4) (fun (i:Nat)=>PV.int ((0:Int) + (i:Int)))
  (fun i Γ A=>TapeAt A L ns/\Mw L j A/\∃ ks:List HK,A[j.length]?=zo (.dtp (Jv ks))/\ks.length<=i/\ks.Nodup/\(∀ k∈ks,∃ p,Xn p=zo k/\Zx n p=yo/\Pl p/\Q42 ws p/\Qbu ss p)/\∃ u,Γ=[zo (.ref L),zo sz,zo (.int n),zo (.int m),zo (.int w),zo (.int t),zo (Vk ss),zo (Vk ws),zo (.ref j.length),u,zb])
  (ga:=Qn 9) (body:=X6) (w:=[]) (fun _ _ A _=>Z4 A) (fun i x Γ A hx ⟨Ti,Mi,ks,ci,hl,nd,q,u,a7⟩=>by
   subst a7;obtain ⟨p,A1,hp,pp,pw,ps,TA,MA,ea⟩:=Qkc Ti n1 (by omega) (by omega) (by omega) a1 (by omega) (by omega) a9;obtain ⟨k,hk⟩:=Q4t hp;have Y:j.length < A.length:=(O0.mp ci).1;have c2:A1[j.length]?=zo (.dtp (Jv ks)):=by rw [MA.keep _ hM Y]; exact ci
   have a5:j.length < A1.length:=(O0.mp c2).1;have b4:i < k4:=by have:=(O0.mp hx).1; rwa [F3] at this
   refine ⟨_,rfl,_,A1.set j.length (.dtp (Jv (Jy ks k))),Ua rfl rfl (Qm (n:=4) rfl rfl ea) (Q5g c2 (by omega) hk),TA.put hM _,⟨?_,fun t h1 h2=>?_⟩,Jy ks k,?_,?_,Qbt nd k,fun y J=>?_,_,rfl⟩
   ·rw [F9]; exact E1 Mi.len MA.len
   ·rw [E5 (by omega)];exact (Mi.trans MA).keep t h1 h2
   ·rw [E8 a5]
   ·have:(Jy ks k).length<=ks.length + 1:=by unfold Jy; split <;> simp
    omega
   ·unfold Jy at J
    split at J
    ·exact q y J
    ·rcases E2.mp J with J | J
     ·exact q y J
     ·have:y=k:=by simpa using J
      rw [this]; exact ⟨p,hk,hp,pp,pw,ps⟩)
  (Γ:=[zo (.ref L),zo sz,zo (.int n),zo (.int m),zo (.int w),zo (.int t),zo (Vk ss),zo (Vk ws),zo (.ref j.length),zb,zb]) (st:=S4)
  ⟨T4,(Mw.add L j _).trans M4.w,[],c4,O5 _,ca,fun k hk=>(nomatch hk),zb,rfl⟩
 rw [F3] at b0;obtain ⟨Z,S6,e6,T6,M6,xs,a3,rfl,a4⟩:=Q09 (xs:=bX n) (fun (i:Nat)=>PV.int ((0:Int) + (i:Int))) (fun i Z A=>TapeAt A L ns/\Mw L S5 A/\∃ xs:List Str,xs.length=i/\Z=xs.map PV.str/\∀ x∈xs,Zp x=yo/\x∈ss) (ga:=Qn 0) (me:=X5) (w:=[]) (Γ0:=[zb,zo (Vk ss),zo (.ref L),zo (.int m)]) (fun _ _ A _=>Z4 A)
  (fun i x Z A _ ⟨Ti,Mi,xs,h1,h2,h3⟩=>by
   obtain ⟨d,A1,hd,TA,MA,ea⟩:=Z7 Ti m m1 (by omega);have O:d < ss.length:=by omega
   have hg:(ss.map PV.str)[d]?=zo (.str ss[d]):=by rw [D7,O2 O]; rfl
   refine ⟨_,rfl,.str ss[d],A1,Qi rfl (Qm (n:=2) rfl rfl ea) (Qi0 hg A1),TA,Mi.trans MA.w,xs ++ [ss[d]],by rw [O6,h1]; rfl,by rw [h2,E4]; rfl,fun z hz=>?_⟩;rcases E2.mp hz with hz | hz
   ·exact h3 z hz
   ·have:z=ss[d]:=by simpa using hz
    rw [this]; exact ⟨a1 _ (G9 O),G9 O⟩)
  ⟨T5,Mw.refl L S5,[],rfl,rfl,fun c hc=>(nomatch hc)⟩
 rw [F3] at a3;obtain ⟨mo,I,b5,T7,M7,e7⟩:=Z7 T6 t t1 (by omega);have Y:j.length < S5.length:=(O0.mp c5).1;have c6:S6[j.length]?=zo (.dtp (Jv ks)):=by rw [M6.keep _ hM Y]; exact c5
 have c7:I[j.length]?=zo (.dtp (Jv ks)):=by rw [M7.keep _ hM]; exact c6
 obtain ⟨q1,q2,q3⟩:=Q4z q;have hn:(n:Int)=(xs.length:Int):=by omega
 refine ⟨mo,xs,ks.map hkV,I,⟨by omega,by omega,by omega,by omega,fun x hx=>(a4 x hx).1,by rw [<- hn]; exact q2,fun p hp=>(q3 p hp).1,by rw [O1]; omega,⟨ks,q1,b1⟩,ss,ws,by omega,by rw [a6,b3,a3]; refine E1 (Nat.mul_le_mul_left _ ?_) a2; simp; omega,fun x hx=>(a4 x hx).2,fun p hp=>(q3 p hp).2⟩,T7,((M1.w.trans M2).trans M3).trans (M5.trans (M6.trans M7.w)),Ji ?_⟩
 show Vz [zo (.ref L),zb,zb,zb,zb,zb,zb,zb,zb,zb,zb] S=_;have b2:J1 zq (Q3 (Q4 8) Q9) [zo (.ref L),zo sz,zo (.int n),zo (.int m),zo (.int w),zo (.int t),zo (Vk ss),zo (Vk ws),zo (.ref j.length),t5,zo (.tup (xs.map .str))] I=.ok (.lst (ks.map hkV)) I:=by
  refine U7 rfl ?_;have hd:Yi I (.ref j.length)=zo (Jv ks):=by show (match I[j.length]? with | some (.dtp kvs)=>zo kvs | _=>zb)=_; rw [c7]
  show (match Yi I (.ref j.length) with | some kvs=>Res.ok (PV.lst (kvs.map fun (kv:HK × PV)=>hkV kv.1)) I | none=>.stuck)=_
  rw [hd];show Res.ok (PV.lst ((Jv ks).map fun (kv:HK × PV)=>hkV kv.1)) I=_
  unfold Jv;rw [bt];rfl
 subst hsz;exact Q8 (Qp rfl) (Q8 (Qsw (Qi rfl (Qm (n:=2) rfl rfl e1) es) rfl) (Q8 (Qp e2) (Q8 (Qp e3) (Q8 (Qp rfl) (Q8 (Y4 (rgw (n:=k4) (by omega) (Qm (n:=2) rfl rfl e4)) e5) (Q8 (Qp (U7 (Qq (Q1f (xc (rgw (n:=n) (by omega) rfl) e6)) rfl) rfl)) (Jf (z7 (Qq (Qm (n:=2) rfl rfl e7) (Qq rfl (Qq (U7 (Qq b2 rfl) rfl) rfl))) (by simp)))))))))
theorem Qrq {most:Int} {starts:List Str} {rules:List PV} (h:Man most starts rules):Pl (Qs most starts rules):=⟨trivial,PlL.of fun p hp=>by
 obtain ⟨x,j,rfl⟩:=F0.mp hp;exact Xs (h.sw x j),PlL.of h.pl,trivial⟩
theorem Qf5 {xs:List Str} (h:∀ x∈xs,Zp x=yo):(xs.map PV.str).all Zq=yo:=by
 rw [cG,F4];exact h
theorem Qrs {most:Int} {starts:List Str} {rules:List PV} (h:Man most starts rules):X3 (Qs most starts rules)=yo:=by
 obtain ⟨ks,k1,k2⟩:=h.ks;have j:(starts.map PV.str).length=starts.length:=O1 _;show (decide ((0:Int)<=most) && decide (most<=20) && ((decide ((1:Int)<=(starts.map PV.str).length) && decide (((starts.map PV.str).length:Int)<=4) && (starts.map PV.str).all Zq) && (decide ((rules.length:Int)<=60) && rules.all (Zx (starts.map PV.str).length) && xb rules)))=yo;have hd:xb rules=yo:=by
  unfold xb;rw [k1];show decide ((Y3 ks).length=rules.length)=yo;rw [Qmm k2];obtain ⟨q,e1,e2⟩:=Qcs h.r;rw [k1] at e1;cases e1;exact bV e2
 have:=h.m0;have:=h.m1;have:=h.s1;have:=h.s4;have:=h.len;rw [j,Qf5 h.sw,h.r,hd];simp;omega
structure Ru where
 h:Nat
 s:Str
 e:Str
 t:Str
 u:Int
 ms:List (Int × Str)
def ruV (r:Ru):PV:=.tup [.int r.h,.str r.s,.str r.e,.str r.t,.int r.u,.tup (r.ms.map prV)]
def stV (ss:List Str) (ls:List (Int × Str)) (u:Int):PV:=.tup [.tup (ss.map .str),.tup (ls.map prV),.int u]
def kP (p:Int × Str):HK:=.tup [.int p.1,.str p.2]
theorem Qb0 {p q:Int × Str} (h:kP p=kP q):p=q:=by
 unfold kP at h;injection h with h
 injection h with h1 h
 injection h with h2 _
 injection h1 with h1
 injection h2 with h2
 exact dZ h1 h2
def evB (e:Str):Bool:=decide (e = "go") || decide (e = "fall")
def js (r:Ru) (ss:List Str) (ls:List (Int × Str)):Bool:=decide (ss.getD r.h bx=r.s) && (evB r.e || decide (((r.h:Int),r.e)∈ls))
theorem ixs {ss:List Str} {h:Nat} (j:h < ss.length) (S:Q0):oIx S (.tup (ss.map .str)) (.int h)=.ok (.str (ss.getD h bx)) S:=by
 refine ix_tup ?_ S;rw [D7,D9,O2 j];rfl
theorem nes (S:Q0) (a b:Str):oNe S (.str a) (.str b)=.ok (.bl (!decide (a=b))) S:=by
 show Res.ok (PV.bl (!(a == b))) S=_
 by_cases q:a=b
 ·rw [bV q,beq_iff_eq.mpr q]
 ·rw [bU q,beq_eq_false_iff_ne.mpr q]
theorem eqs (S:Q0) (a b:Str):oEq S (.str a) (.str b)=.ok (.bl (decide (a=b))) S:=by
 show Res.ok (PV.bl (a == b)) S=_
 by_cases q:a=b
 ·rw [bV q,beq_iff_eq.mpr q]
 ·rw [bU q,beq_eq_false_iff_ne.mpr q]
theorem Qpb (p q:Int × Str):peq (prV p) (prV q)=decide (p=q):=by
 show ((p.1 == q.1) && ((p.2 == q.2) && yo))=_
 by_cases e:p=q
 ·subst e; simp
 ·rw [bU e]
  by_cases e1:p.1=q.1
  ·by_cases e2:p.2=q.2
   ·exact absurd (dZ e1 e2) e
   ·simp [e2]
  ·simp [e1]
theorem Qi3 (ls:List (Int × Str)) (p:Int × Str) (S:Q0):oIn yl S (prV p) (.tup (ls.map prV))=.ok (.bl (decide (p∈ls))) S:=by
 show (if good dep (prV p)=yo/\(ls.map prV).all (good dep)=yo then Res.ok (PV.bl (((ls.map prV).any fun y=>peq y (prV p)) != yl)) S else .stuck)=_
 rw [bS ⟨rfl,by rw [cG,F4]; exact fun _ _=>rfl⟩];have:((ls.map prV).any fun y=>peq y (prV p))=decide (p∈ls):=by
  rw [dW]
  by_cases q:p∈ls
  ·rw [bV q,dA];exact ⟨p,q,by show peq (prV p) (prV p)=yo; rw [Qpb]; simp⟩
  ·rw [bU q,dF];intro x j;show ¬ peq (prV x) (prV p)=yo;rw [Qpb];intro e;have e:x=p:=by simpa using e
   rw [e] at j; exact q j
 rw [this,dB]
theorem Qje {a b:ME} {Γ:Gam} {S:Q0} {x:Bool} {r:Res PV} (h:a Γ S=.ok (.bl x) S) (h2:x=yo->b Γ S=r) (j:x=yl->r=.ok (.bl yl) S):Q00 a b Γ S=r:=by
 rw [Qn1,h,Qx];cases x with
 | true=>exact h2 rfl
 | false=>rw [j rfl]; rfl
theorem Qcd {a b:ME} {Γ:Gam} {S:Q0} {x y:Bool} (h:a Γ S=.ok (.bl x) S) (h2:b Γ S=.ok (.bl y) S):mOr a b Γ S=.ok (.bl (x || y)) S:=by
 rw [Qrt,h,Qx];cases x with
 | true=>rfl
 | false=>exact h2
theorem Qng (r:Ru) {ss:List Str} (I:r.h < ss.length) (ls:List (Int × Str)) (u:Int) (S:Q0):Zf [ruV r,stV ss ls u] S=.ok (.bl (js r ss ls)) S:=by
 refine zc ?_;show Vg [zo (ruV r),zo (stV ss ls u)] S=_;have h1:=ixs I S;have j:=nes S (ss.getD r.h bx) r.s;unfold Vg
 by_cases q:ss.getD r.h bx=r.s
 ·rw [bV q] at j;have z:js r ss ls=(decide (r.e = "go") || (decide (r.e = "fall") || decide (((r.h:Int),r.e)∈ls))):=by
   unfold js evB; rw [bV q,cU,Bool.or_assoc]
  rw [z];exact Q8 (Vq (Qv (Qi (Qi rfl rfl h1) rfl j)) rfl) (Jf (Qcd (Qi rfl rfl (eqs S r.e "go")) (Qcd (Qi rfl rfl (eqs S r.e "fall")) (Qi rfl rfl (Qi3 ls ((r.h:Int),r.e) S)))))
 ·rw [bU q] at j;have z:js r ss ls=yl:=by unfold js; rw [bU q,G7]
  rw [z];exact Yu (Km (Qv (Qi (Qi rfl rfl h1) rfl j)) rfl)
theorem Qf8 (ks:List HK) (k:HK):(K8 (Jv ks) k).isSome=decide (k∈ks):=by
 unfold K8 Jv;rw [da]
 by_cases q:k∈ks
 ·rw [bV q,iY];exact ⟨(k,.bl yo),F0.mpr ⟨k,q,rfl⟩,by simp⟩
 ·rw [bU q];cases z:fT (fun kv=>decide (kv.1=k)) (ks.map fun k=>(k,PV.bl yo)) with
  | none=>rfl
  | some x=>
   have h1:=fV z;have h2:=fU z;obtain ⟨y,j,rfl⟩:=F0.mp h1;have:y=k:=by simpa using h2
   rw [this] at j; exact absurd j q
theorem Qrp (r:Ru) {ss:List Str} (Z:r.h < ss.length) {ks:List HK} {S:Q0} {i j:Nat} (hi:S[i]?=zo (.lst (ss.map .str))) (Y:S[j]?=zo (.dtp (Jv ks))) :
  Jw [ruV r,.tup [.ref i,.ref j]] S=.ok (.bl (decide (ss.getD r.h bx=r.s) && (evB r.e || decide (kP ((r.h:Int),r.e)∈ks)))) S:=by
 refine zc ?_;show Y0 [zo (ruV r),zo (.tup [.ref i,.ref j])] S=_;have O:ListAt S (.ref i) (ss.map .str):=.inr (.inr ⟨i,rfl,hi⟩);have h1:oIx S (.ref i) (.int r.h)=.ok (.str (ss.getD r.h bx)) S:=by
  rw [O.ix];exact ixs Z S
 have z:=nes S (ss.getD r.h bx) r.s;have hd:Yi S (.ref j)=zo (Jv ks):=by show (match S[j]? with | some (.dtp kvs)=>zo kvs | _=>zb)=_; rw [Y]
 have J:Qh5 S (.tup [.int r.h,.str r.e]) (.ref j)=.ok (.bl (decide (kP ((r.h:Int),r.e)∈ks))) S:=by
  unfold Qh5;rw [hd];show Q2w yl S _ _=_;unfold Q2w;rw [hd,show Xn (.tup [.int r.h,.str r.e])=zo (kP ((r.h:Int),r.e)) from rfl];show Res.ok (PV.bl ((K8 (Jv ks) _).isSome != yl)) S=_;rw [Qf8,dB]
 have I:Q6n yl ["go", "fall"] (mOp oIx (Q4 0) (mC (.int 2))) [zo (ruV r),zo (.tup [.ref i,.ref j])] S=.ok (.bl (evB r.e)) S:=by
  rw [Qb4 (x:=r.e) (S1:=S) rfl];congr 2;rw [dB];show (decide ("go" = r.e) || (decide ("fall" = r.e) || false))=_;unfold evB;rw [dH];congr 1 <;> exact decide_eq_decide.mpr eq_comm
 unfold Y0
 by_cases q:ss.getD r.h bx=r.s
 ·rw [bV q] at z ⊢;rw [cU];exact Q8 (Vq (Qv (Qi (Qi (Qi rfl rfl rfl) rfl h1) rfl z)) rfl) (Jf (Qcd I (Qi rfl rfl J)))
 ·rw [bU q] at z ⊢;rw [G7];exact Yu (Km (Qv (Qi (Qi (Qi rfl rfl rfl) rfl h1) rfl z)) rfl)
theorem Y8 (S:Q0) (c:Cell):(S ++ [c])[S.length]?=zo c:=by rw [D4 (O5 _),L1]; rfl
theorem Qnz (S:Q0) {a b:List PV} (h:a.length + b.length<=1000000):Zt S (.tup a) (.tup b)=.ok (.tup (a ++ b)) S:=bS (show _<=lim from h)
theorem Qc6 {S:Q0} {n k:Nat} {xs:List PV} (h:S[n]?=zo (.lst xs)) (j:k < xs.length) (v:PV):Ks S (.ref n) (.int k) v=zo (S.set n (.lst (xs.set k v))):=by
 unfold Ks;simp only [h];rw [Qn9 j];rfl
theorem Qp0 (acc:List (Int × Str)) (p:Int × Str):Jy (acc.map kP) (kP p)=(Jy acc p).map kP:=by
 unfold Jy
 by_cases q:p∈acc
 ·rw [bS q,bS (F0.mpr ⟨p,q,rfl⟩)]
 ·rw [bT q,bT,E4]
  ·rfl
  ·intro h;obtain ⟨x,j,e⟩:=F0.mp h;rw [Qb0 e] at j; exact q j
theorem Qjf {α:Type} [DecidableEq α] (acc:List α) (p:α):(Jy acc p).length<=acc.length + 1:=by unfold Jy; split <;> simp
theorem Q4r {D:Nat} {x0 x1 x2:Option PV}:∀ (ps acc:List (Int × Str)) (S:Q0) (a:Option PV),S[D]?=zo (.dtp (Jv (acc.map kP)))->acc.length + ps.length < 1000 ->
  ∃ z,Ju (Qn 4) U2 [] (ps.map prV) [x0,x1,x2,zo (.ref D),a] S=.nx [x0,x1,x2,zo (.ref D),z] (S.set D (.dtp (Jv ((ps.foldl Jy acc).map kP))))
 | [],acc,S,a,h,_=>⟨a,by
  have J:=(O0.mp h).1;have:S.set D (.dtp (Jv (acc.map kP)))=S:=by
   apply ce;intro i
   by_cases q:D=i
   ·subst q; rw [E8 J,h]
   ·rw [E5 q]
  simp [Ju,this]⟩
 | p :: ps,acc,S,a,h,O=>by
  rw [D5] at O;have J:=(O0.mp h).1;have j:=Q5g h (by rw [O1]; omega) (p:=prV p) (k:=kP p) rfl;rw [Qp0] at j;have I:U2 [x0,x1,x2,zo (.ref D),zo (prV p)] S=.nx [x0,x1,x2,zo (.ref D),zo (prV p)] (S.set D (.dtp (Jv ((Jy acc p).map kP)))):=Ua rfl rfl rfl j;obtain ⟨z,e⟩:=Q4r ps (Jy acc p) (S.set D (.dtp (Jv ((Jy acc p).map kP)))) (zo (prV p)) (E8 J) (by have:=Qjf acc p; omega);refine ⟨z,?_⟩;rw [List.set_set] at e;rw [D2,F1,<- e];simp [Ju,I]
def lsT (ls ms:List (Int × Str)):List (Int × Str):=X1 (Y3 (ls ++ ms))
theorem Qem (ps:List (Int × Str)):Q53 (Jv (ps.map kP))=zo ps:=by
 induction ps with
 | nil=>rfl
 | cons p ps j=>
  show (match Qaz (kP p),Q53 (Jv (ps.map kP)) with | some p,zo l=>zo (p :: l) | _,_=>zb)=_
  rw [j];rfl
theorem Q11 (ss:List Str) (ls:List (Int × Str)) (u:Int):good 12 (stV ss ls u)=yo:=by
 show ((ss.map PV.str).all (good 10) && ((ls.map prV).all (good 10) && (yo && yo)))=yo;have h1:(ss.map PV.str).all (good 10)=yo:=by rw [cG,F4]; exact fun _ _=>rfl
 have h2:(ls.map prV).all (good 10)=yo:=by rw [cG,F4]; exact fun _ _=>rfl
 rw [h1,h2];rfl
theorem Qjy (r:Ru) {ss:List Str} (hh:r.h < ss.length) {ls:List (Int × Str)} (Z:ls.length + r.ms.length < 64) (u:Int) (S:Q0):Jx [ruV r,stV ss ls u] S=.ok (stV (ss.set r.h r.t) (lsT ls r.ms) (u + r.u)) S:=by
 have Y:(S ++ [Cell.lst (ss.map .str)])[S.length]?=zo (.lst (ss.map .str)):=Y8 _ _;have hs:=Qc6 Y (k:=r.h) (by rw [O1]; exact hh) (.str r.t);have e1:(S ++ [Cell.lst (ss.map PV.str)]).set S.length (.lst ((ss.map PV.str).set r.h (.str r.t)))=S ++ [Cell.lst ((ss.set r.h r.t).map PV.str)]:=by
  rw [dU _ _ (O5 _),L1,iZ];rfl
 rw [e1] at hs;obtain ⟨j,I⟩:∃ j,S ++ [Cell.lst ((ss.set r.h r.t).map PV.str)]=j:=⟨_,rfl⟩;rw [I] at hs;have cD:(j ++ [Cell.dtp []])[j.length]?=zo (.dtp (Jv (([]:List (Int × Str)).map kP))):=Y8 _ _;have O:(ls ++ r.ms).length < 64:=by rw [O6]; exact Z
 obtain ⟨a',e2⟩:=Q4r (x0:=zo (ruV r)) (x1:=zo (stV ss ls u)) (x2:=zo (.ref S.length)) (ls ++ r.ms) [] (j ++ [Cell.dtp []]) zb cD (by simp only [cu]; omega);have e3:(j ++ [Cell.dtp []]).set j.length (.dtp (Jv (((ls ++ r.ms).foldl Jy []).map kP)))=j ++ [Cell.dtp (Jv ((Y3 (ls ++ r.ms)).map kP))]:=by
  rw [dU _ _ (O5 _),L1];rfl
 rw [e3] at e2;have a1:=yr (ls ++ r.ms);obtain ⟨q,z⟩:∃ q,j ++ [Cell.dtp (Jv ((Y3 (ls ++ r.ms)).map kP))]=q:=⟨_,rfl⟩;rw [z] at e2;have d4:Yi q (.ref j.length)=zo (Jv ((Y3 (ls ++ r.ms)).map kP)):=by
  have:q[j.length]?=zo (.dtp (Jv ((Y3 (ls ++ r.ms)).map kP))):=by rw [<- z]; exact Y8 _ _
  show (match q[j.length]? with | some (.dtp kvs)=>zo kvs | _=>zb)=_
  rw [this]
 have s4:Q3s q [.ref j.length]=.ok (.lst ((lsT ls r.ms).map prV)) q:=by
  unfold Q3s;simp only [d4,Qem];rw [bS (by omega)];rfl
 have t4:Ww q [.ref S.length]=.ok (.tup ((ss.set r.h r.t).map .str)) q:=by
  have:q[S.length]?=zo (.lst ((ss.set r.h r.t).map .str)):=by
   rw [<- z,<- I,O7 (by simp)];exact Y8 _ _
  show (match (match q[S.length]? with | some (.lst xs)=>zo xs | _=>zb) with | some xs=>Res.ok (PV.tup xs) q | none=>.stuck)=_
  rw [this]
 have J:Zt (j ++ [Cell.dtp []]) (.tup (ls.map prV)) (.tup (r.ms.map prV))=.ok (.tup ((ls ++ r.ms).map prV)) (j ++ [Cell.dtp []]):=by
  rw [Qnz _ (by rw [O1,O1]; omega),E4]
 have st:Ve [zo (ruV r),zo (stV ss ls u),zb,zb,zb] S=.rt (stV (ss.set r.h r.t) (lsT ls r.ms) (u + r.u)) q:=by
  unfold Ve;refine Q8 (Qp (Vt (ps:=ss.map .str) rfl)) ?_;refine Q8 (Qfq rfl rfl rfl hs) ?_;refine Q8 (Qp rfl) ?_;refine Q8 (Y4 (Uc (Qi rfl rfl J) rfl (by rw [O1]; omega)) e2) ?_;exact Jf (z7 (Qq (U7 rfl t4) (Qq (U7 (Qq (U7 rfl s4) rfl) rfl) (Qq (Qi rfl rfl (Qbr q u r.u)) rfl))) (by simp))
 have:=Us (nl:=5) (ps:=[ruV r,stV ss ls u]) st;unfold Jx;rw [this,<- z,<- I,dJ];exact Q5d (Q11 _ _ _)
theorem xv {α:Type} [DecidableEq α]:∀ {l m:List α},l.Nodup->(∀ x∈l,x∈m)->l.length<=m.length
 | [],_,_,_=>F6 _
 | a :: l,m,h,hs=>by
  obtain ⟨h1,h2⟩:=cY.mp h;have j:=hs a (by simp);have:=xv (m:=m.erase a) h2 fun x q=>(iB (show x≠a from fun e=>h1 (by rw [<- e]; exact q))).mpr (hs x (O4 _ q))
  rw [iA j] at this;have:=hZ j;rw [D5];omega
theorem Qhh {α:Type} [DecidableEq α] {acc:List α} {p x:α}:x∈Jy acc p <-> x∈acc\/x=p:=by
 unfold Jy
 split
 ·rename_i q;exact ⟨.inl,fun h=>h.elim id (fun e=>e ▸ q)⟩
 ·simp
theorem Q30 {α:Type} [DecidableEq α] {x:α}:∀ {ps acc:List α},x∈ps.foldl Jy acc <-> x∈acc\/x∈ps
 | [],acc=>by simp
 | p :: ps,acc=>by
  rw [F1,Q30,Qhh,D6];constructor
  ·rintro ((h | h) | h)
   ·exact .inl h
   ·exact .inr (.inl h)
   ·exact .inr (.inr h)
  ·rintro (h | h | h)
   ·exact .inl (.inl h)
   ·exact .inl (.inr h)
   ·exact .inr h
theorem Qp1 {α:Type} [DecidableEq α] {ks:List α} (h:ks.Nodup) (k:α):(Jy ks k).Nodup:=by
 unfold Jy
 split
 ·exact h
 ·rename_i q;exact cS.mpr ⟨h,by simp,fun x j y z e=>by
   have:y=k:=by simpa using z
   rw [e,this] at j; exact q j⟩
theorem Q78 {α:Type} [DecidableEq α]:∀ {ps acc:List α},acc.Nodup->(ps.foldl Jy acc).Nodup
 | [],_,h=>h
 | p :: ps,_,h=>by rw [F1]; exact Q78 (Qp1 h p)
theorem mem_lsT {ls ms:List (Int × Str)} {x:Int × Str}:x∈lsT ls ms <-> x∈ls\/x∈ms:=by
 unfold lsT;rw [(Wa _).mem_iff];unfold Y3;rw [Q30,E2];simp
def InW (ws:List Str) (p:Int × Str):Prop:=0<=p.1/\p.1 < 4/\p.2∈ws
structure StI (n:Nat) (ws:List Str) (ss:List Str) (ls:List (Int × Str)):Prop where
 len:ss.length=n
 nd:ls.Nodup
 sub:∀ p∈ls,InW ws p
theorem StI.small {n:Nat} {ws ss:List Str} {ls:List (Int × Str)} (I:StI n ws ss ls) (q:ws.length<=2):ls.length<=8:=by
 have h:=xv (m:=(ws.map fun w=>(0,w)) ++ (ws.map fun w=>(1,w)) ++ (ws.map fun w=>(2,w)) ++ (ws.map fun w=>((3:Int),w))) I.nd fun p hp=>by
  obtain ⟨h1,h2,j⟩:=I.sub p hp;have:p.1=0\/p.1=1\/p.1=2\/p.1=3:=by omega
  obtain ⟨a,b⟩:=p;simp only [E2,F0,Prod.mk.injEq];rcases this with e | e | e | e
  ·exact .inl (.inl (.inl ⟨b,j,e.symm,rfl⟩))
  ·exact .inl (.inl (.inr ⟨b,j,e.symm,rfl⟩))
  ·exact .inl (.inr ⟨b,j,e.symm,rfl⟩)
  ·exact .inr ⟨b,j,e.symm,rfl⟩
 simp only [O6,O1] at h;omega
structure RuI (n:Nat) (ws:List Str) (r:Ru):Prop where
 h:r.h < n
 ms:r.ms.length<=8
 sub:∀ p∈r.ms,InW ws p
theorem StI.step {n:Nat} {ws ss:List Str} {ls:List (Int × Str)} {r:Ru} (I:StI n ws ss ls) (J:RuI n ws r):StI n ws (ss.set r.h r.t) (lsT ls r.ms) where
 len:=by rw [F9]; exact I.len
 nd:=(Wa _).nodup_iff.mpr (Q78 ca)
 sub:=fun p hp=>(mem_lsT.mp hp).elim (I.sub p) (J.sub p)
def Uz (rs:List Ru):List Int->List Str->List (Int × Str)->Int->Option Int
 | [],_,_,u=>zo u
 | k :: ks,ss,ls,u=>match rs[k.toNat]? with
  | some r=>if 0<=k/\js r ss ls=yo then Uz rs ks (ss.set r.h r.t) (lsT ls r.ms) (u + r.u) else zb
  | none=>zb
def Qns (most:Int) (starts:List Str) (rs:List Ru) (ks:List Int):Bool:=match Uz rs ks starts [] 0 with
 | some u=>decide (most < u)
 | none=>yl
structure MI1 (starts:List Str) (rs:List Ru) (ws:List Str):Prop where
 w2:ws.length<=2
 ru:∀ r∈rs,RuI starts.length ws r
 len:rs.length<=9
theorem lei (S:Q0) (a b:Int):(oI fun a b=>.bl (decide (a<=b))) S (.int a) (.int b)=.ok (.bl (decide (a<=b))) S:=rfl
theorem gei (S:Q0) (a b:Int):(oI fun a b=>.bl (decide (b<=a))) S (.int a) (.int b)=.ok (.bl (decide (b<=a))) S:=rfl
theorem lti (S:Q0) (a b:Int):oLt S (.int a) (.int b)=.ok (.bl (decide (a < b))) S:=by simp
theorem Qu0 {rs:List Ru} {k:Int} (h0:0<=k) {r:Ru} (h:rs[k.toNat]?=zo r) (S:Q0):oIx S (.tup (rs.map ruV)) (.int k)=.ok (ruV r) S:=by
 have e:k=((k.toNat:Nat):Int):=by omega
 rw [e];refine ix_tup ?_ S;rw [D7,h];rfl
def U (S:Q0) (ss:List Str) (K:List HK):Q0:=S ++ [Cell.lst (ss.map .str),.dtp (Jv K)]
theorem U_i (S:Q0) (ss:List Str) (K:List HK):(U S ss K)[S.length]?=zo (.lst (ss.map .str)):=by
 unfold U; rw [D4 (O5 _),L1]; rfl
theorem U_j (S:Q0) (ss:List Str) (K:List HK):(U S ss K)[S.length + 1]?=zo (.dtp (Jv K)):=by
 unfold U; rw [D4 (by omega),show S.length + 1 - S.length=1 by omega]; rfl
theorem Qyc (S:Q0) (ss j:List Str) (K:List HK):(U S ss K).set S.length (.lst (j.map .str))=U S j K:=by
 unfold U; rw [dU _ _ (O5 _),L1]; rfl
theorem Qyb (S:Q0) (ss:List Str) (K j:List HK):(U S ss K).set (S.length + 1) (.dtp (Jv j))=U S ss j:=by
 unfold U; rw [dU _ _ (by omega),show S.length + 1 - S.length=1 by omega]; rfl
def Q5u (K:List HK) (ms:List (Int × Str)):List HK:=ms.foldl (fun acc p=>Jy acc (kP p)) K
theorem Qby (ms:List (Int × Str)):∀ K:List HK,Q5u K ms=(ms.map kP).foldl Jy K:=by
 unfold Q5u
 induction ms with
 | nil=>intro K; rfl
 | cons p ms j=>intro K; rw [F1,D2,F1,j]
theorem Qhg {K:List HK} {ms:List (Int × Str)} {p:Int × Str}:kP p∈Q5u K ms <-> kP p∈K\/p∈ms:=by
 rw [Qby,Q30,F0];constructor
 ·rintro (h | ⟨x,hx,e⟩)
  ·exact .inl h
  ·rw [Qb0 e] at hx; exact .inr hx
 ·rintro (h | h)
  ·exact .inl h
  ·exact .inr ⟨p,h,rfl⟩
theorem Qfa (K:List HK) (ms:List (Int × Str)):(Q5u K ms).length<=K.length + ms.length:=by
 rw [Qby];have:=Uq (ms.map kP) K
 rwa [O1] at this
theorem Qe3 (ms:List (Int × Str)):xn (ms.map fun p=>.tup [prV p,.bl yo])=zo (Jv (ms.map kP)):=by
 induction ms with
 | nil=>rfl
 | cons p ms j=>
  show (match Xn (prV p),xn (ms.map fun p=>.tup [prV p,.bl yo]) with | some k,zo l=>zo ((k,PV.bl yo) :: l) | _,_=>zb)=_
  rw [j];rfl
theorem Qah (ms:List (Int × Str)):∀ K:List HK,ja (Jv K) (Jv (ms.map kP))=Jv (Q5u K ms):=by
 induction ms with
 | nil=>intro K; rfl
 | cons p ms j=>
  intro K;show ja (Sm.putT (Jv K) (kP p) (.bl yo)) (Jv (ms.map kP))=_;rw [Q8d,j];rfl
theorem Qpx {S:Q0} {ss:List Str} {K:List HK} {ms:List (Int × Str)} (j:K.length + ms.length<=100000):Qjm (U S ss K) (.ref (S.length + 1)) [.lst (ms.map fun p=>.tup [prV p,.bl yo])]=.ok .non (U S ss (Q5u K ms)):=by
 have hd:Yi (U S ss K) (.ref (S.length + 1))=zo (Jv K):=by show (match (U S ss K)[S.length + 1]? with | some (.dtp kvs)=>zo kvs | _=>zb)=_; rw [U_j]
 unfold Qjm;simp only [hd,Qe3];rw [bS (by rw [V9]; unfold Jv; simp only [O1]; omega),Qah,Qyb]
theorem Qnn {o o':OP} {a b c:ME} {Γ:Gam} {S:Q0} {x y z:PV} {r:Res PV} (h1:a Γ S=.ok x S) (h2:b Γ S=.ok y S) (j:o S x y=.ok (.bl yo) S) (I:c Γ S=.ok z S) (q:o' S y z=r):Wd o o' a b c Γ S=r:=by
 unfold Wd;rw [h1,Qx,h2,Qx,j,Qx];show (c Γ S).bind _=_;rw [I,Qx];exact q
theorem Qnp {o o':OP} {a b c:ME} {Γ:Gam} {S:Q0} {x y:PV} (h1:a Γ S=.ok x S) (h2:b Γ S=.ok y S) (j:o S x y=.ok (.bl yl) S):Wd o o' a b c Γ S=.ok (.bl yl) S:=by
 unfold Wd;rw [h1,Qx,h2,Qx,j,Qx]
theorem Q7m {starts ws:List Str} {rs:List Ru} (M:MI1 starts rs ws) {most:Int} {V:PV} {S:Q0} {w:Wt} (hw:∀ ss K,wOk w (U S ss K)):∀ (ks:List Int) (ss:List Str) (ls:List (Int × Str)) (K:List HK) (u:Int) (a b:Option PV),StI starts.length ws ss ls->(∀ p,kP p∈K <-> p∈ls)->K.length + 8 * ks.length<=100000 ->
  (Uz rs ks ss ls u=zb/\∃ Y K',Ju (Qn 5) Je w (ks.map .int) [zo (Qs most starts (rs.map ruV)),zo V,zo (.ref S.length),zo (.ref (S.length + 1)),zo (.int u),a,b] (U S ss K)=.rt .non (U S Y K')) \/
  (∃ u' a' b' Y K',Uz rs ks ss ls u=zo u'/\Ju (Qn 5) Je w (ks.map .int) [zo (Qs most starts (rs.map ruV)),zo V,zo (.ref S.length),zo (.ref (S.length + 1)),zo (.int u),a,b] (U S ss K)=.nx [zo (Qs most starts (rs.map ruV)),zo V,zo (.ref S.length),zo (.ref (S.length + 1)),zo (.int u'),a',b'] (U S Y K'))
 | [],ss,ls,K,u,a,b,_,_,_=>.inr ⟨u,a,b,ss,K,rfl,by simp [Ju,hw]⟩
 | k :: ks,ss,ls,K,u,a,b,I,hK,hb=>by
  have Z:((rs.map ruV).length:Int)=(rs.length:Int):=by rw [O1]
  rw [D5] at hb;generalize hA:U S ss K=A;have a2:wOk w A:=hA ▸ hw ss K;have stop:∀ (O:Je [zo (Qs most starts (rs.map ruV)),zo V,zo (.ref S.length),zo (.ref (S.length + 1)),zo (.int u),zo (.int k),b] A=.rt .non A),∃ Y K',Ju (Qn 5) Je w ((k :: ks).map .int) [zo (Qs most starts (rs.map ruV)),zo V,zo (.ref S.length),zo (.ref (S.length + 1)),zo (.int u),a,b] A=.rt .non (U S Y K'):=fun O=>⟨ss,K,by rw [hA]; simp [Ju,a2,O]⟩
  have j:∀ x:Bool,(decide ((0:Int)<=k) && decide (k < (rs.length:Int)))=x->toB (Wd (oI fun a b=>.bl (decide (a<=b))) oLt (mC (.int 0)) (Q4 5) (J1 Zv (Q3 (mOp oIx (Q4 0) (mC (.int 2))) Q9))) [zo (Qs most starts (rs.map ruV)),zo V,zo (.ref S.length),zo (.ref (S.length + 1)),zo (.int u),zo (.int k),b] A=.ok x A:=fun x hx=>by
   refine Qv ?_;have h2:=lti A k ((rs.map ruV).length:Int);rw [Z] at h2
   by_cases q0:(0:Int)<=k
   ·rw [bV q0,cU] at hx;refine Qnn (z:=.int ((rs.map ruV).length:Nat)) rfl rfl (by rw [lei,bV q0]) rfl ?_;rw [Z,h2,hx]
   ·rw [bU q0,G7] at hx;rw [<- hx];exact Qnp rfl rfl (by rw [lei,bU q0])
  by_cases q:(decide ((0:Int)<=k) && decide (k < (rs.length:Int)))=yo
  ·have q':=q;simp only [E6,decide_eq_true_eq] at q';have hk:k.toNat < rs.length:=by omega
   have hr:rs[k.toNat]?=zo rs[k.toNat]:=O2 hk;have J:=M.ru _ (G9 hk);generalize rs[k.toNat]=r at hr J;have a1:=Qu0 q'.1 hr A;have hm:Jw [ruV r,.tup [.ref S.length,.ref (S.length + 1)]] A=.ok (.bl (js r ss ls)) A:=by
    rw [<- hA,Qrp r (ss:=ss) (ks:=K) (by rw [I.len]; exact J.h) (U_i S ss K) (U_j S ss K)];congr 2;unfold js;rw [decide_eq_decide.mpr (hK ((r.h:Int),r.e))]
   cases z:js r ss ls with
   | false=>
    rw [z] at hm;refine .inl ⟨?_,stop (Yu (Km (zf (V4 (j yo q)) (V4 (Qv (Qm (n:=2) (Qq (Qi rfl rfl a1) rfl) rfl hm)))) rfl))⟩;rw [Uz,hr];simp [z]
   | true=>
    rw [z] at hm;have hs:=Qc6 (S:=U S ss K) (U_i S ss K) (k:=r.h) (by rw [O1,I.len]; exact J.h) (.str r.t);have a4:((ss.map PV.str).set r.h (.str r.t))=(ss.set r.h r.t).map PV.str:=by rw [iZ]
    rw [a4,Qyc,hA] at hs;have hJ:=J.ms;have hu:=Qpx (S:=S) (ss:=ss.set r.h r.t) (K:=K) (ms:=r.ms) (by omega);have hd:Yi (U S (ss.set r.h r.t) K) (.ref (S.length + 1))=zo (Jv K):=by show (match (U S (ss.set r.h r.t) K)[S.length + 1]? with | some (.dtp kvs)=>zo kvs | _=>zb)=_; rw [U_j]
    have hc:Z8 (Qn 0) Yg W6 [] [zb] (r.ms.map prV) (U S (ss.set r.h r.t) K)=.ok (r.ms.map fun p=>.tup [prV p,.bl yo]) (U S (ss.set r.h r.t) K):=
     Q3q prV (fun p=>PV.tup [prV p,.bl yo]) (Z4 _) fun p _=>⟨_,rfl,rfl⟩
    have a6:Qmr (Q4 3) (Q3 (Uy (Z1 [zb] (Qn 0) (Xm (mOp oIx (Q4 6) (mC (.int 5)))) Yg W6)) Q9) [zo (Qs most starts (rs.map ruV)),zo V,zo (.ref S.length),zo (.ref (S.length + 1)),zo (.int u),zo (.int k),zo (ruV r)] (U S (ss.set r.h r.t) K)=.ok .non (U S (ss.set r.h r.t) (Q5u K r.ms)):=by
     have hv:Uy (Z1 [zb] (Qn 0) (Xm (mOp oIx (Q4 6) (mC (.int 5)))) Yg W6) [zo (Qs most starts (rs.map ruV)),zo V,zo (.ref S.length),zo (.ref (S.length + 1)),zo (.int u),zo (.int k),zo (ruV r)] (U S (ss.set r.h r.t) K)=.ok (.lst (r.ms.map fun p=>.tup [prV p,.bl yo])) (U S (ss.set r.h r.t) K):=Q1f (xc (Uc rfl rfl (by rw [O1]; omega)) hc);unfold Qmr;show (match Yi (U S (ss.set r.h r.t) K) (.ref (S.length + 1)) with | some _=>_ | none=>_)=_
     rw [hd];show ((Q3 _ Q9) _ _).bind _=_;rw [Qq hv (show Q9 _ _=.ok [] _ from rfl),Qx];exact hu
    have a3:Je [zo (Qs most starts (rs.map ruV)),zo V,zo (.ref S.length),zo (.ref (S.length + 1)),zo (.int u),zo (.int k),b] A=.nx [zo (Qs most starts (rs.map ruV)),zo V,zo (.ref S.length),zo (.ref (S.length + 1)),zo (.int (u + r.u)),zo (.int k),zo (ruV r)] (U S (ss.set r.h r.t) (Q5u K r.ms)):=
     Q8 (Vq (zf (V4 (j yo q)) (V4 (Qv (Qm (n:=2) (Qq (Qi rfl rfl a1) rfl) rfl hm)))) rfl) (Q8 (Qp (Qi rfl rfl a1)) (Q8 (Qfq rfl rfl rfl hs) (Q8 (Q3k a6) rfl)))
    have a7:Uz rs (k :: ks) ss ls u=Uz rs ks (ss.set r.h r.t) (lsT ls r.ms) (u + r.u):=by
     rw [Uz,hr];simp only;rw [bS ⟨q'.1,z⟩]
    have a5:Ju (Qn 5) Je w ((k :: ks).map .int) [zo (Qs most starts (rs.map ruV)),zo V,zo (.ref S.length),zo (.ref (S.length + 1)),zo (.int u),a,b] A=Ju (Qn 5) Je w (ks.map .int) [zo (Qs most starts (rs.map ruV)),zo V,zo (.ref S.length),zo (.ref (S.length + 1)),zo (.int (u + r.u)),zo (.int k),zo (ruV r)] (U S (ss.set r.h r.t) (Q5u K r.ms)):=by
     simp [Ju,a2,a3]
    rw [a7,a5];exact Q7m M hw ks _ _ _ _ _ _ (I.step J) (fun p=>by rw [Qhg,mem_lsT,hK]) (by have:=Qfa K r.ms; omega)
  ·have q:=ia _ ▸ q;refine .inl ⟨?_,stop (Yu (Km (Qui (V4 (j yl q))) rfl))⟩;rw [Uz]
   split
   ·rename_i r hr;have:=(O0.mp hr).1;rw [bT];rintro ⟨z1,_⟩;have:(decide ((0:Int)<=k) && decide (k < (rs.length:Int)))=yo:=by simp; omega
    rw [q] at this; cases this
   ·rfl
theorem Qpm (S:Q0) (ss:List Str) (K:List HK) (v:PV) (j:good 12 v=yo):fin S v (U S ss K)=.ok v S:=Q5d j
theorem Qjk {starts ws:List Str} {rs:List Ru} (M:MI1 starts rs ws) (most:Int) {S:Q0} {V:PV} {w:Wt} {ks:List Int} (I:∀ T,Wi (S ++ T) V=zo (ks.map .int,w)) (J:∀ T,wOk w (S ++ T)) (hl:ks.length<=1000):W0 [Qs most starts (rs.map ruV),V] S=.ok (match Uz rs ks starts [] 0 with | some u=>.int u | none=>.non) S:=by
 have Z:StI starts.length ws starts []:=⟨rfl,ca,fun p hp=>nomatch hp⟩;have Y:(S ++ [Cell.lst (starts.map PV.str)]) ++ [Cell.dtp []]=U S starts []:=by rw [dJ]; rfl
 have q:(S ++ [Cell.lst (starts.map PV.str)]).length=S.length + 1:=by simp
 have hd:xy [zo (Qs most starts (rs.map ruV)),zo V,zo (.ref S.length),zb,zb,zb,zb] (S ++ [Cell.lst (starts.map PV.str)])=.ok (.ref (S.length + 1)) (U S starts []):=by
  show Res.ok (PV.ref (S ++ [Cell.lst (starts.map PV.str)]).length) _=_;rw [q,Y]
 unfold W0;rcases Q7m M (most:=most) (V:=V) (S:=S) (w:=w) (fun ss K=>J _) ks starts [] [] 0 zb zb Z (fun p=>by simp) (by simp; omega) with ⟨e1,j,z,e2⟩ | ⟨O,a',b',j,z,e1,e2⟩
 ·rw [e1];have st:Vc [zo (Qs most starts (rs.map ruV)),zo V,zb,zb,zb,zb,zb] S=.rt .non (U S j z):=
   Q8 (Qp (Vt (ps:=starts.map .str) rfl)) (Q8 (Qp hd) (Q8 (Qp rfl) (Yu (Y4 (Uc rfl (I _) (by rw [O1]; omega)) e2))))
  rw [Us (nl:=7) (ps:=[Qs most starts (rs.map ruV),V]) st,Qpm _ _ _ _ rfl]
 ·rw [e1];have st:Vc [zo (Qs most starts (rs.map ruV)),zo V,zb,zb,zb,zb,zb] S=.rt (.int O) (U S j z):=
   Q8 (Qp (Vt (ps:=starts.map .str) rfl)) (Q8 (Qp hd) (Q8 (Qp rfl) (Q8 (Y4 (Uc rfl (I _) (by rw [O1]; omega)) e2) (Jf rfl))))
  rw [Us (nl:=7) (ps:=[Qs most starts (rs.map ruV),V]) st,Qpm _ _ _ _ rfl]
theorem Qcf {most:Int} {starts:List Str} {rules:List PV} (h:Man most starts rules) (S:Q0):Ze [Qs most starts rules] S=.ok .non S:=by
 have hm:=Qhi (Qrq h) S;rw [Qrs h] at hm;have st:Vd [zo (Qs most starts rules)] S=.nx [zo (Qs most starts rules)] S:=Vq (V4 (Qv (Qm (n:=1) rfl rfl hm))) rfl;unfold Ze Qw;show (match Vd [zo (Qs most starts rules)] S with | .rt v st'=>fin S v st' | .nx _ st'=>fin S .non st' | .exc x st'=>Qni S x st' | _=>.stuck)=_
 rw [st];exact Qnh S
theorem Q9s {starts ws:List Str} {rs:List Ru} (M:MI1 starts rs ws) {most:Int} (h:Man most starts (rs.map ruV)) {S:Q0} {V:PV} {w:Wt} {ks:List Int} (j:∀ T,Wi (S ++ T) V=zo (ks.map .int,w)) (I:∀ T,wOk w (S ++ T)) (q:ks.length<=1000):Ux [Qs most starts (rs.map ruV),V] S=.ok (.bl (Qns most starts rs ks)) S:=by
 have h1:=Qcf h S;have h2:=Qjk M most (S:=S) j I q;refine zc ?_;show zg [zo (Qs most starts (rs.map ruV)),zo V,zb] S=_;unfold Qns;cases z:Uz rs ks starts [] 0 with
 | none=>
  rw [z] at h2;exact Q8 (Q3k (Qm (n:=1) rfl rfl h1)) (Q8 (Qp (Qm (n:=2) rfl rfl h2)) (Jf (Qje (x:=yl) (Qi rfl rfl rfl) (fun e=>nomatch e) fun _=>rfl)))
 | some u=>
  rw [z] at h2;exact Q8 (Q3k (Qm (n:=1) rfl rfl h1)) (Q8 (Qp (Qm (n:=2) rfl rfl h2)) (Jf (Qje (x:=yo) (Qi rfl rfl rfl) (fun _=>Qi rfl rfl rfl) (fun e=>nomatch e))))
theorem Qmp (r:Ru) {ss:List Str} (I:r.h < ss.length) (ls:List (Int × Str)) (u:Int) (S:Q0):Jw [ruV r,stV ss ls u] S=.ok (.bl (js r ss ls)) S:=by
 refine zc ?_;show Y0 [zo (ruV r),zo (stV ss ls u)] S=_;have h1:=ixs I S;have j:=nes S (ss.getD r.h bx) r.s;have z:Q6n yl ["go", "fall"] (mOp oIx (Q4 0) (mC (.int 2))) [zo (ruV r),zo (stV ss ls u)] S=.ok (.bl (evB r.e)) S:=by
  rw [Qb4 (x:=r.e) (S1:=S) rfl];congr 2;rw [dB];show (decide ("go" = r.e) || (decide ("fall" = r.e) || false))=_;unfold evB;rw [dH];congr 1 <;> exact decide_eq_decide.mpr eq_comm
 unfold Y0 js
 by_cases q:ss.getD r.h bx=r.s
 ·rw [bV q] at j ⊢;rw [cU];exact Q8 (Vq (Qv (Qi (Qi rfl rfl h1) rfl j)) rfl) (Jf (Qcd z (Qi rfl rfl (Qi3 ls ((r.h:Int),r.e) S))))
 ·rw [bU q] at j ⊢;rw [G7];exact Yu (Km (Qv (Qi (Qi rfl rfl h1) rfl j)) rfl)
theorem Qkt (ns:List (Int × Str)):Q8h (ns.map prV)=zo ns:=by
 induction ns with
 | nil=>rfl
 | cons p ns j=>show (Q8h (ns.map prV)).map ((p.1,p.2) :: ·)=_; rw [j]; rfl
theorem Qfs {α:Type} (l:List α) {h:Nat} (j:h < l.length) (x:α):l.take h ++ [x] ++ l.drop (h + 1)=l.set h x:=by
 rw [List.set_eq_take_append_cons_drop,bS j];simp
theorem Qab (r:Ru) {ss:List Str} (O:r.h < ss.length) (Z:ss.length<=100) {ls:List (Int × Str)} (J:ls.length + r.ms.length < 64) (u:Int) (S:Q0):Jz [ruV r,stV ss ls u] S=.ok (stV (ss.set r.h r.t) (lsT ls r.ms) (u + r.u)) S:=by
 have st:Wr [zo (ruV r),zo (stV ss ls u),zb] S=.rt (stV (ss.set r.h r.t) (lsT ls r.ms) (u + r.u)) S:=by
  unfold Wr;have k1:mSl (mOp oIx (Q4 1) (mC (.int 0))) X4 (jw (mOp oIx (Q4 0) (mC (.int 0)))) [zo (ruV r),zo (stV ss ls u),zb] S=.ok (.tup ((ss.take r.h).map .str)) S:=by
   show Res.ok (PV.tup (cut (ss.map PV.str) zb (zo (r.h:Int)))) S=_;rw [Qex,iJ]
  have k2:mSl (mOp oIx (Q4 1) (mC (.int 0))) (jw (mOp Zt (mOp oIx (Q4 0) (mC (.int 0))) (mC (.int 1)))) X4 [zo (ruV r),zo (stV ss ls u),zb] S=.ok (.tup ((ss.drop (r.h + 1)).map .str)) S:=by
   show Res.ok (PV.tup (cut (ss.map PV.str) (zo ((r.h:Int) + 1)) zb)) S=_;rw [show ((r.h:Int) + 1)=((r.h + 1:Nat):Int) by push_cast; rfl,Qiy,iK]
  have Y:((ss.take r.h).map PV.str).length<=100:=by rw [O1,cN]; omega
  have b2:((ss.drop (r.h + 1)).map PV.str).length<=100:=by rw [O1,cv]; omega
  have q:Zt S (.tup ((ss.take r.h).map .str)) (.tup [.str r.t])=.ok (.tup ((ss.take r.h ++ [r.t]).map .str)) S:=by rw [Qnz S (by simp; omega),E4]; rfl
  have z:Zt S (.tup ((ss.take r.h ++ [r.t]).map .str)) (.tup ((ss.drop (r.h + 1)).map .str))=.ok (.tup ((ss.set r.h r.t).map .str)) S:=by
   rw [Qnz S (by rw [E4,O6]; simp; omega),<- E4,Qfs ss O]
  have I:Zt S (.tup (ls.map prV)) (.tup (r.ms.map prV))=.ok (.tup ((ls ++ r.ms).map prV)) S:=by
   rw [Qnz S (by rw [O1,O1]; omega),E4]
  have j:jd (mOp Zt (mOp oIx (Q4 1) (mC (.int 1))) (mOp oIx (Q4 0) (mC (.int 5)))) [zo (ruV r),zo (stV ss ls u),zo (.tup ((ss.set r.h r.t).map .str))] S=.ok (.lst ((lsT ls r.ms).map prV)) S:=by
   unfold jd;rw [Qi rfl rfl I,Qx];show (match Q8h ((ls ++ r.ms).map prV) with | some ns=>if ns.length < 64 then Res.ok (PV.lst ((X1 (Y3 ns)).map prV)) S else .stuck | none=>.stuck)=_
   rw [Qkt];show (if (ls ++ r.ms).length < 64 then _ else _)=_;rw [bS (by rw [O6]; exact J)];rfl
  exact Q8 (Qp (Qi (Qi k1 rfl q) k2 z)) (Jf (z7 (Qq rfl (Qq (U7 (Qq j rfl) rfl) (Qq (Qi rfl rfl (Qbr S u r.u)) rfl))) (by simp)))
 have:=Us (nl:=3) (ps:=[ruV r,stV ss ls u]) st;unfold Jz;rw [this];exact Q3i (Q11 _ _ _)
def Qba (rs:List Ru) (ss:List Str) (ls:List (Int × Str)):List (Ru × Nat):=rs.zipIdx.filter fun p=>js p.1 ss ls
def nV (p:Ru × Nat):PV:=.int (p.2:Int)
def Qvt (rs:List Ru) (ss:List Str) (ls:List (Int × Str)):List PV:=(Qba rs ss ls).map nV
theorem Qis:∀ (rs:List Ru) (n:Nat),U5 n (rs.map ruV)=(rs.zipIdx n).map fun p=>.tup [.int (p.2:Int),ruV p.1]
 | [],_=>rfl
 | r :: rs,n=>by rw [D2,ib,D2,<- Qis rs (n + 1)]; rfl
theorem Qf6 {rs:List Ru} {p:Ru × Nat} (h:p∈rs.zipIdx):rs[p.2]?=zo p.1:=ic.mp h
section
variable {most:Int} {starts ws:List Str} {rs:List Ru} (M:MI1 starts rs ws) (h:Man most starts (rs.map ruV)) {ss:List Str} (hs:ss.length=starts.length) (ls:List (Int × Str)) (u:Int) (S:Q0)
include M hs
theorem Qat:J9 [Qs most starts (rs.map ruV),stV ss ls u] S=.ok (.ref S.length) (S ++ [.lst (Qvt rs ss ls)]):=by
 refine Ji ?_;show Wc [zo (Qs most starts (rs.map ruV)),zo (stV ss ls u)] S=_;have q:Z8 (Q5a (Um (Qn 0) (Um (Qn 1) Q5b))) Vj Vr [] [zb,zb,zo (stV ss ls u)] (U5 0 (rs.map ruV)) S=.ok (Qvt rs ss ls) S:=by
  rw [Qis];exact Qez (fun p:Ru × Nat=>.tup [.int (p.2:Int),ruV p.1]) nV (fun p=>js p.1 ss ls) (Z4 _) fun p hp=>⟨_,rfl,Qv (Qm (n:=2) rfl rfl (Qmp p.1 (by rw [hs]; exact (M.ru _ (E3 (Qf6 hp))).h) ls u S)),fun _=>rfl⟩
 have j:Q90 (Q3 (mOp oIx (Q4 0) (mC (.int 2))) Q9) [zo (Qs most starts (rs.map ruV)),zo (stV ss ls u)] S=.ok (U5 0 (rs.map ruV),[]) S:=by
  show (if (rs.map ruV).length<=lim then Res.ok (U5 0 (rs.map ruV),([]:Wt)) S else .stuck)=_;exact bS (by rw [O1,V9]; have:=M.len; omega)
 exact Jf (Vt (xc j q))
end
def InG (n:Nat) (ws:List Str) (p:Int × Str):Prop:=0<=p.1/\p.1 < n/\p.2∈ws
theorem Qcp {n:Nat} {ws:List Str}:∀ {ls:List PV},(∀ l∈ls,K0 n l=yo)->(∀ l∈ls,∃ (h:Int) (y:Str),l=.tup [.int h,.str y]/\y∈ws)->∃ ms:List (Int × Str),ls=ms.map prV/\∀ p∈ms,InG n ws p
 | [],_,_=>⟨[],rfl,fun p hp=>nomatch hp⟩
 | l :: ls,h1,h2=>by
  obtain ⟨ms,e,hm⟩:=Qcp (fun x j=>h1 x (O4 _ j)) (fun x j=>h2 x (O4 _ j))
  obtain ⟨x,s,e1,x0,x1,_⟩:=Qcq (h1 l (by simp));obtain ⟨h,y,e2,q⟩:=h2 l (by simp);rw [e1] at e2;cases e2;refine ⟨(x,s) :: ms,by rw [D2,<- e,e1]; rfl,fun p hp=>?_⟩;rcases D6.mp hp with rfl | hp
  ·exact ⟨x0,by show x < n; omega,q⟩
  ·exact hm p hp
structure RuJ (n:Nat) (sts ws:List Str) (r:Ru):Prop where
 h:r.h < n
 ms:r.ms.length<=8
 sub:∀ p∈r.ms,InG n ws p
 t:r.t∈sts
 u0:0<=r.u
theorem Qkd {n:Nat} {sts ws:List Str} {p:PV} (h:Zx n p=yo) (J:Q42 ws p) (hs:Qbu sts p):∃ r,p=ruV r/\RuJ n sts ws r:=by
 obtain ⟨x,s,e,t,u,ls,rfl,x0,x1,_,_,_,u0,_,z,q⟩:=Q83 h;obtain ⟨ms,rfl,j⟩:=Qcp q (J _ _ _ _ _ ls rfl);obtain ⟨y,I,e3⟩:=hs _ _ _ _ _ _ rfl;cases e3;refine ⟨⟨x.toNat,s,e,t,u,ms⟩,?_,⟨by show x.toNat < n; omega,by rw [O1] at z; exact z,j,I,u0⟩⟩;show _=PV.tup [.int (x.toNat:Nat),.str s,.str e,.str t,.int u,.tup (ms.map prV)];rw [fM x0]
theorem Q82 {n:Nat} {sts ws:List Str}:∀ {rules:List PV},(∀ p∈rules,Zx n p=yo/\Q42 ws p/\Qbu sts p)->∃ rs:List Ru,rules=rs.map ruV/\∀ r∈rs,RuJ n sts ws r
 | [],_=>⟨[],rfl,fun r q=>nomatch q⟩
 | p :: rules,h=>by
  obtain ⟨rs,e,q⟩:=Q82 fun x j=>h x (O4 _ j)
  obtain ⟨h1,h2,z⟩:=h p (by simp);obtain ⟨r,e1,h1⟩:=Qkd h1 h2 z;refine ⟨r :: rs,by rw [D2,<- e,e1],fun x j=>?_⟩;rcases D6.mp j with rfl | j
  ·exact h1
  ·exact q x j
structure MI2 (most:Int) (starts:List Str) (rs:List Ru) (sts ws:List Str):Prop where
 m0:0<=most
 w2:ws.length<=2
 n4:starts.length<=4
 cnt:sts.length ^ starts.length * 2 ^ (starts.length * ws.length) * (most.toNat + 1)<=576
 st:∀ x∈starts,x∈sts
 ru:∀ r∈rs,RuJ starts.length sts ws r
 len:rs.length<=9
theorem MI2.one {most:Int} {starts:List Str} {rs:List Ru} {sts ws:List Str} (M:MI2 most starts rs sts ws):MI1 starts rs ws:=⟨M.w2,fun r j=>⟨(M.ru r j).h,(M.ru r j).ms,fun p hp=>let ⟨a,b,c⟩:=(M.ru r j).sub p hp; ⟨a,by have:=M.n4; omega,c⟩⟩,M.len⟩
theorem Qrr {most:Int} {starts:List Str} {rules:List PV} (h:Man most starts rules):∃ rs sts ws,rules=rs.map ruV/\MI2 most starts rs sts ws:=by
 obtain ⟨sts,ws,w2,q,h1,z⟩:=h.ws;obtain ⟨rs,e,j⟩:=Q82 (rules:=rules) fun p hp=>⟨F4.mp h.r p hp,z p hp⟩
 exact ⟨rs,sts,ws,e,h.m0,w2,h.s4,q,h1,j,by have:=h.len; rw [e,O1] at this; exact this⟩
abbrev Sd:=List Str × List (Int × Str) × Int
def sdV (s:Sd):PV:=stV s.1 s.2.1 s.2.2
def sdK (s:Sd):HK:=.tup [.tup (s.1.map .str),.tup (s.2.1.map kP),.int s.2.2]
theorem Qhw (d:Nat) (ss:List Str):Yw (U9 d) (ss.map .str)=zo (ss.map .str):=by
 induction ss with
 | nil=>rfl
 | cons x ss j=>
  rw [D2,Yw,j];have:U9 d (.str x)=zo (.str x):=by cases d <;> rfl
  rw [this];rfl
theorem Qn7 (d:Nat) (ls:List (Int × Str)):Yw (U9 (d + 1)) (ls.map prV)=zo (ls.map kP):=by
 induction ls with
 | nil=>rfl
 | cons p ls j=>
  rw [D2,Yw,j];have:U9 (d + 1) (prV p)=zo (kP p):=by cases d <;> rfl
  rw [this];rfl
theorem Q20 (s:Sd):Xn (sdV s)=zo (sdK s):=by
 show (Yw (U9 4) [.tup (s.1.map .str),.tup (s.2.1.map prV),.int s.2.2]).map HK.tup=_;have e1:U9 4 (.tup (s.1.map .str))=zo (.tup (s.1.map .str)):=by
  show (Yw (U9 3) (s.1.map .str)).map HK.tup=_;rw [Qhw]; rfl
 have e2:U9 4 (.tup (s.2.1.map prV))=zo (.tup (s.2.1.map kP)):=by
  show (Yw (U9 3) (s.2.1.map prV)).map HK.tup=_;rw [Qn7]; rfl
 simp only [Yw,e1,e2];rfl
theorem Q61 {s t:Sd} (h:sdK s=sdK t):s=t:=by
 obtain ⟨a,b,c⟩:=s;obtain ⟨q,z,I⟩:=t;unfold sdK at h;simp only [HK.tup.injEq,iO,HK.int.injEq,and_true] at h;obtain ⟨h1,h2,j⟩:=h;have k1:a=q:=ie (fun x y e=>by cases e; rfl) |>.mp h1;have k2:b=z:=ie (fun x y e=>Qb0 e) |>.mp h2;rw [k1,k2,j]
theorem Qpj (s:Sd):hkV (sdK s)=sdV s:=Qv8 (Q20 s)
def stp (r:Ru) (s:Sd):Sd:=(s.1.set r.h r.t,lsT s.2.1 r.ms,s.2.2 + r.u)
def fit (r:Ru) (s:Sd):Bool:=js r s.1 s.2.1
structure SdI (n:Nat) (sts ws:List Str) (s:Sd):Prop where
 len:s.1.length=n
 st:∀ x∈s.1,x∈sts
 nd:s.2.1.Nodup
 so:s.2.1.Pairwise leQ
 sub:∀ p∈s.2.1,InG n ws p
 u0:0<=s.2.2
theorem SdI.one {n:Nat} {sts ws:List Str} {s:Sd} (I:SdI n sts ws s) (j:n<=4):StI n ws s.1 s.2.1:=⟨I.len,I.nd,fun p hp=>let ⟨a,b,c⟩:=I.sub p hp; ⟨a,by omega,c⟩⟩
theorem SdI.step {n:Nat} {sts ws:List Str} {s:Sd} {r:Ru} (I:SdI n sts ws s) (J:RuJ n sts ws r):SdI n sts ws (stp r s) where
 len:=by show (s.1.set r.h r.t).length=n; rw [F9]; exact I.len
 st:=fun x j=>by
  rcases List.mem_or_eq_of_mem_set j with h | h
  ·exact I.st x h
  ·rw [h]; exact J.t
 nd:=(Wa _).nodup_iff.mpr (Q78 ca)
 so:=Wj _
 sub:=fun p hp=>(mem_lsT.mp hp).elim (I.sub p) (J.sub p)
 u0:=by show 0<=s.2.2 + r.u; have:=I.u0; have:=J.u0; omega
def pws {α:Type} (xs:List α):Nat->List (List α)
 | 0=>[[]]
 | n + 1=>xs.flatMap fun x=>(pws xs n).map (x :: ·)
theorem Q69 {α:Type} (xs:List α):∀ n,(pws xs n).length=xs.length ^ n
 | 0=>rfl
 | n + 1=>by
  rw [pws,eV];have:(xs.map fun x=>((pws xs n).map (x :: ·)).length)=xs.map fun _=>xs.length ^ n:=cZ fun x _=>by rw [O1,Q69 xs n]
  rw [this,eW,eX,fR,dz]
theorem Q6k {α:Type} {xs:List α}:∀ {n:Nat} {l:List α},l.length=n->(∀ x∈l,x∈xs)->l∈pws xs n
 | 0,[],_,_=>by simp [pws]
 | n + 1,a :: l,h,hs=>by
  rw [pws,dC];exact ⟨a,hs a (by simp),F0.mpr ⟨l,Q6k (by simpa using h) fun x j=>hs x (O4 _ j),rfl⟩⟩
def Qie (n:Nat) (ws:List Str):List (Int × Str):=(bX n).flatMap fun (h:Nat)=>ws.map fun w=>((h:Int),w)
theorem Qid (n:Nat) (ws:List Str):(Qie n ws).length=n * ws.length:=by
 unfold Qie;rw [eV];have:((bX n).map fun (h:Nat)=>(ws.map fun w=>((h:Int),w)).length)=(bX n).map fun _=>ws.length:=cZ fun x _=>by rw [O1]
 rw [this,eW,eX,F3]
theorem Q8w {n:Nat} {ws:List Str} {p:Int × Str} (h:InG n ws p):p∈Qie n ws:=by
 obtain ⟨a,b,c⟩:=h;refine dC.mpr ⟨p.1.toNat,cH.mpr (by omega),F0.mpr ⟨p.2,c,?_⟩⟩;rw [fM a]
def tel (n:Nat) (ws:List Str) (s:Sd):List Str × List Bool × Nat:=(s.1,(Qie n ws).map (fun p=>decide (p∈s.2.1)),s.2.2.toNat)
theorem Qjr {n:Nat} {sts ws:List Str} {s t:Sd} (I:SdI n sts ws s) (J:SdI n sts ws t) (h:tel n ws s=tel n ws t):s=t:=by
 obtain ⟨a,b,c⟩:=s;obtain ⟨a',z,O⟩:=t;unfold tel at h;simp only [Prod.mk.injEq] at h;obtain ⟨h1,h2,Z⟩:=h;have hm:∀ p,p∈b <-> p∈z:=fun p=>by
  have j:∀ q∈Qie n ws,decide (q∈b)=decide (q∈z):=fun q hq=>List.map_inj_left.mp h2 q hq
  constructor
  ·intro hp;have:=j p (Q8w (I.sub p hp));rw [bV hp] at this;exact of_decide_eq_true this.symm
  ·intro hp;have:=j p (Q8w (J.sub p hp));rw [bV hp] at this;exact of_decide_eq_true this
 have k2:b=z:=K9 ((iG I.nd J.nd).mpr hm) I.so J.so;have Y:=I.u0;have u2:=J.u0;have k3:c=O:=by
  have Z:c.toNat=O.toNat:=Z;have Y:0<=c:=Y;have u2:0<=O:=u2;omega
 rw [h1,k2,k3]
theorem ym {α β:Type} (f:α->β):∀ {l:List α},l.Nodup->(∀ x∈l,∀ y∈l,f x=f y->x=y)->(l.map f).Nodup
 | [],_,_=>ca
 | a :: l,h,hi=>by
  obtain ⟨h1,h2⟩:=cY.mp h;rw [D2];refine cY.mpr ⟨fun hm=>?_,ym f h2 fun x j y q=>hi x (O4 _ j) y (O4 _ q)⟩;obtain ⟨x,j,e⟩:=F0.mp hm;rw [hi x (O4 _ j) a (by simp) e] at j;exact h1 j
theorem few {most:Int} {starts:List Str} {rs:List Ru} {sts ws:List Str} (M:MI2 most starts rs sts ws) {l:List Sd} (h:l.Nodup) (q:∀ s∈l,SdI starts.length sts ws s/\s.2.2<=most):l.length<=576:=by
 have O:=ym (tel starts.length ws) h fun x j y J=>Qjr (q x j).1 (q y J).1
 have:=xv (m:=(pws sts starts.length).flatMap fun a=>(pws [yl,yo] (starts.length * ws.length)).flatMap fun b=>(bX (most.toNat + 1)).map fun c=>(a,b,c)) O fun x j=>by
  obtain ⟨s,hs,rfl⟩:=F0.mp j;obtain ⟨I,Z⟩:=q s hs;have Y:=I.u0;have z:=M.m0;refine dC.mpr ⟨s.1,Q6k I.len I.st,dC.mpr ⟨_,Q6k (by rw [O1,Qid]) (fun b _=>by cases b <;> simp),F0.mpr ⟨s.2.2.toNat,cH.mpr (by omega),rfl⟩⟩⟩
 rw [O1] at this;refine E1 this (E1 (eA ?_) M.cnt);rw [eV];have e1:((pws sts starts.length).map fun a=>((pws [yl,yo] (starts.length * ws.length)).flatMap fun b=>(bX (most.toNat + 1)).map fun c=>(a,b,c)).length)=(pws sts starts.length).map fun _=>2 ^ (starts.length * ws.length) * (most.toNat + 1):=cZ fun a _=>by
  rw [eV];have e2:((pws [yl,yo] (starts.length * ws.length)).map fun b=>((bX (most.toNat + 1)).map fun c=>(a,b,c)).length)=(pws [yl,yo] (starts.length * ws.length)).map fun _=>most.toNat + 1:=cZ fun b _=>by rw [O1,F3]
  rw [e2,eW,eX,Q69];rfl
 rw [e1,eW,eX,Q69,Nat.mul_assoc]
def Qbs (a:List Sd × List Sd) (t:Sd):List Sd × List Sd:=if t∈a.1 then a else (a.1 ++ [t],a.2 ++ [t])
def nxt (rs:List Ru) (fr:List Sd):List Sd:=fr.flatMap fun s=>(rs.filter (fit · s)).map (stp · s)
def lev (rs:List Ru) (a:List Sd × List Sd):List Sd × List Sd:=(nxt rs a.2).foldl Qbs (a.1,[])
def lvs (rs:List Ru) (s0:Sd):Nat->List Sd × List Sd
 | 0=>([s0],[s0])
 | i + 1=>lev rs (lvs rs s0 i)
def We (rs:List Ru) (most:Int) (fr:List Sd):Bool:=fr.any fun s=>rs.any fun r=>fit r s && decide (most < s.2.2 + r.u)
theorem K6:∀ (xs K z:List Sd),∃ ex,xs.foldl Qbs (K,z)=(K ++ ex,z ++ ex)/\(∀ x∈ex,x∈xs)/\(∀ x∈xs,x∈K ++ ex)/\(K.Nodup->(K ++ ex).Nodup)
 | [],K,z=>⟨[],by simp,by simp,by simp,by simp⟩
 | x :: xs,K,z=>by
  rw [F1]
  by_cases q:x∈K
  ·obtain ⟨ex,h1,h2,J,I⟩:=K6 xs K z;refine ⟨ex,by unfold Qbs; rw [bS q]; exact h1,fun y j=>O4 _ (h2 y j),fun y j=>?_,I⟩;rcases D6.mp j with rfl | j
   ·exact G6 _ q
   ·exact J y j
  ·obtain ⟨ex,h1,h2,J,I⟩:=K6 xs (K ++ [x]) (z ++ [x]);refine ⟨x :: ex,?_,fun y j=>?_,fun y j=>?_,fun Y=>?_⟩
   ·unfold Qbs; rw [bT q]; show xs.foldl Qbs (K ++ [x],z ++ [x])=_; rw [h1]; simp
   ·rcases D6.mp j with rfl | j
    ·simp
    ·exact O4 _ (h2 y j)
   ·rcases D6.mp j with rfl | j
    ·simp
    ·have:=J y j; simpa using this
   ·have:(K ++ [x]).Nodup:=cS.mpr ⟨Y,by simp,fun a O b Z e=>by
     have:b=x:=by simpa using Z
     rw [e,this] at O; exact q O⟩
    have:=I this;simpa using this
def Js {α:Type} (f:α->PV) (G:List (Sd × α)):List (HK × PV):=G.map fun e=>(sdK e.1,f e.2)
def Zn {α:Type} (a:List (Sd × α) × List Sd) (x:Sd × α):List (Sd × α) × List Sd:=if x.1∈a.1.map (·.1) then a else (a.1 ++ [x],a.2 ++ [x.1])
theorem Q40 {α:Type}:∀ (xs:List (Sd × α)) (a:List (Sd × α) × List Sd),((xs.foldl Zn a).1.map (·.1),(xs.foldl Zn a).2)=(xs.map (·.1)).foldl Qbs (a.1.map (·.1),a.2)
 | [],a=>rfl
 | x :: xs,a=>by
  rw [F1,D2,F1,Q40 xs];congr 1;unfold Zn Qbs
  by_cases q:x.1∈a.1.map (·.1)
  ·rw [bS q,bS q]
  ·rw [bT q,bT q,E4]; rfl
theorem Uw {α:Type}:∀ (xs:List (Sd × α)) (a:List (Sd × α) × List Sd),∃ ex,(xs.foldl Zn a).1=a.1 ++ ex/\(xs.foldl Zn a).2=a.2 ++ ex.map (·.1)/\∀ x∈ex,x∈xs
 | [],a=>⟨[],by simp,by simp,by simp⟩
 | x :: xs,a=>by
  rw [F1]
  by_cases q:x.1∈a.1.map (·.1)
  ·obtain ⟨ex,h1,h2,z⟩:=Uw xs a;have:Zn a x=a:=by unfold Zn; rw [bS q]
   rw [this];exact ⟨ex,h1,h2,fun y j=>O4 _ (z y j)⟩
  ·have:Zn a x=(a.1 ++ [x],a.2 ++ [x.1]):=by unfold Zn; rw [bT q]
   rw [this];obtain ⟨ex,h1,h2,z⟩:=Uw xs (a.1 ++ [x],a.2 ++ [x.1]);refine ⟨x :: ex,by rw [h1]; simp,by rw [h2]; simp,fun y j=>?_⟩;rcases D6.mp j with rfl | j
   ·simp
   ·exact O4 _ (z y j)
theorem Qjj {α:Type} (f:α->PV) (G:List (Sd × α)) (t:Sd):(K8 (Js f G) (sdK t)).isSome=decide (t∈G.map (·.1)):=by
 unfold K8 Js;rw [da]
 by_cases q:t∈G.map (·.1)
 ·rw [bV q,iY];obtain ⟨e,I,rfl⟩:=F0.mp q;exact ⟨_,F0.mpr ⟨e,I,rfl⟩,by simp⟩
 ·rw [bU q];cases z:fT (fun kv=>decide (kv.1=sdK t)) (G.map fun e=>(sdK e.1,f e.2)) with
  | none=>rfl
  | some x=>
   have h1:=fV z;have h2:=fU z;obtain ⟨y,j,rfl⟩:=F0.mp h1;have h2:sdK y.1=sdK t:=by simpa using h2
   exact absurd (F0.mpr ⟨y,j,Q61 h2⟩) q
theorem Qf9 {α:Type} (f:α->PV):∀ {G:List (Sd × α)} {t:Sd} {a:α},(G.map (·.1)).Nodup->(t,a)∈G->K8 (Js f G) (sdK t)=zo (f a)
 | e :: G,t,a,q,hm=>by
  unfold K8 Js;rw [D2,cQ];rw [D2] at q;obtain ⟨h1,h2⟩:=cY.mp q;rcases D6.mp hm with rfl | hm
  ·simp
  ·have j:¬ e.1=t:=fun z=>h1 (by rw [z]; exact F0.mpr ⟨_,hm,rfl⟩)
   have:decide (sdK e.1=sdK t)=yl:=bU fun z=>j (Q61 z)
   simp only [this];exact Qf9 f h2 hm
theorem Qkj {α:Type} (f:α->PV) {G:List (Sd × α)} {t:Sd} {a:α} (h:t∉G.map (·.1)):Sm.putT (Js f G) (sdK t) (f a)=Js f (G ++ [(t,a)]):=by
 unfold Sm.putT;rw [bT]
 ·unfold Js; rw [E4]; rfl
 ·unfold Js;rw [dW,dA];rintro ⟨x,j,e⟩;have e:sdK x.1=sdK t:=by simpa using e
  exact h (F0.mpr ⟨x,j,Q61 e⟩)
def pV:Option (Nat × Sd)->PV
 | none=>.non
 | some (n,s)=>.tup [.int (n:Int),sdV s]
abbrev Pr:=Sd × Option (Nat × Sd)
def Qjq (rs:List Ru) (s:Sd):List Pr:=(Qba rs s.1 s.2.1).map fun p=>(stp p.1 s,zo (p.2,s))
def trp (rs:List Ru) (fr:List Sd):List Pr:=fr.flatMap (Qjq rs)
theorem Q9y (rs:List Ru) (p:Ru->Bool):∀ n,((rs.zipIdx n).filter fun x=>p x.1).map (·.1)=rs.filter p:=by
 induction rs with
 | nil=>intro n; rfl
 | cons r rs j=>
  intro n;rw [ib,dP,dP];cases p r with
  | true=>simp only [if_true]; rw [D2,j]
  | false=>exact j (n + 1)
theorem Qfe (rs:List Ru) (s:Sd):(Qjq rs s).map (·.1)=(rs.filter (fit · s)).map (stp · s):=by
 unfold Qjq;rw [bt];show (Qba rs s.1 s.2.1).map ((stp · s) ∘ (·.1))=_;rw [<- bt];congr 1;exact Q9y rs (fit · s) 0
theorem Qjp (rs:List Ru) (j:List Sd):(trp rs j).map (·.1)=nxt rs j:=by
 unfold trp nxt;rw [ig];congr 1;funext s;exact Qfe rs s
def lvF (rs:List Ru) (s0:Sd):Nat->List Pr × List Sd
 | 0=>([(s0,zb)],[s0])
 | i + 1=>(trp rs (lvF rs s0 i).2).foldl Zn ((lvF rs s0 i).1,[])
theorem yw (rs:List Ru) (j:Sd):∀ i,((lvF rs j i).1.map (·.1),(lvF rs j i).2)=lvs rs j i
 | 0=>rfl
 | i + 1=>by
  have q:=yw rs j i;show (((trp rs (lvF rs j i).2).foldl Zn ((lvF rs j i).1,[])).1.map (·.1),((trp rs (lvF rs j i).2).foldl Zn ((lvF rs j i).1,[])).2)=lev rs (lvs rs j i);rw [Q40,Qjp,<- q];rfl
inductive Tr (F:List Pr):Sd->List Nat->Prop
 | nil {s:Sd}:(s,zb)∈F->Tr F s []
 | cons {s q:Sd} {n:Nat} {ks:List Nat}:(s,zo (n,q))∈F->Tr F q ks->Tr F s (n :: ks)
theorem Tr.mono {F j:List Pr} (h:∀ e∈F,e∈j):∀ {s:Sd} {ks:List Nat},Tr F s ks->Tr j s ks
 | _,_,.nil a=>.nil (h _ a)
 | _,_,.cons a b=>.cons (h _ a) (Tr.mono h b)
theorem Qcn (rs:List Ru) (j:Sd) (i:Nat):∃ ex,(lvF rs j (i + 1)).1=(lvF rs j i).1 ++ ex/\(lvF rs j (i + 1)).2=ex.map (·.1)/\∀ x∈ex,x∈trp rs (lvF rs j i).2:=by
 obtain ⟨ex,h1,h2,q⟩:=Uw (trp rs (lvF rs j i).2) ((lvF rs j i).1,[]);exact ⟨ex,h1,by rw [show (lvF rs j (i + 1)).2=_ from h2]; simp,q⟩
theorem Qci {rs:List Ru} {j:List Sd} {x:Pr} (h:x∈trp rs j):∃ s r n,s∈j/\rs[n]?=zo r/\fit r s=yo/\x=(stp r s,zo (n,s)):=by
 obtain ⟨s,hs,q⟩:=dC.mp h;obtain ⟨p,hp,rfl⟩:=F0.mp q;obtain ⟨h1,h2⟩:=cp.mp hp;exact ⟨s,p.1,p.2,hs,Qf6 h1,h2,rfl⟩
theorem Qhp (rs:List Ru) (j:Sd):∀ i,∀ s∈(lvF rs j i).2,∃ ks,ks.length=i/\Tr (lvF rs j i).1 s ks
 | 0,s,h=>⟨[],rfl,.nil (by
   have:s=j:=by simpa [lvF] using h
   rw [this]; simp [lvF])⟩
 | i + 1,s,h=>by
  obtain ⟨ex,h1,h2,Z⟩:=Qcn rs j i;rw [h2] at h;obtain ⟨x,z,rfl⟩:=F0.mp h;obtain ⟨q,r,n,Y,_,_,e⟩:=Qci (Z x z);obtain ⟨ks,I,O⟩:=Qhp rs j i q Y;refine ⟨n :: ks,by rw [D5,I],.cons (q:=q) ?_ (O.mono fun e J=>by rw [h1]; exact G6 _ J)⟩;rw [h1];refine E9 _ ?_;have:(x.1,zo (n,q))=x:=by rw [e]
  rw [this]; exact z
def Qpv (rs:List Ru) (s0:Sd) (F:List Pr):Prop:=∀ e∈F,(e.2=zb->e.1=s0)/\∀ n q,e.2=zo (n,q)->∃ r,rs[n]?=zo r/\fit r q=yo/\stp r q=e.1
theorem Q51 (rs:List Ru) (j:Sd):∀ i,Qpv rs j (lvF rs j i).1
 | 0,e,h=>by
  have:e=(j,zb):=by simpa [lvF] using h
  rw [this];exact ⟨fun _=>rfl,fun n q z=>by cases z⟩
 | i + 1,e,h=>by
  obtain ⟨ex,h1,h2,O⟩:=Qcn rs j i;rw [h1] at h;rcases E2.mp h with h | h
  ·exact Q51 rs j i e h
  ·obtain ⟨q,r,n,hq,J,I,e1⟩:=Qci (O e h);rw [e1];exact ⟨fun z=>(by cases z),fun Y Z z=>(by cases z; exact ⟨r,J,I,rfl⟩)⟩
def wkS (rs:List Ru):List Nat->Sd->Option Sd
 | [],s=>zo s
 | k :: ks,s=>match rs[k]? with
  | some r=>if fit r s=yo then wkS rs ks (stp r s) else zb
  | none=>zb
theorem Q1d {rs:List Ru} {n:Nat} {r:Ru} (q:rs[n]?=zo r):∀ {ks:List Nat} {a s:Sd},wkS rs ks a=zo s->fit r s=yo->wkS rs (ks ++ [n]) a=zo (stp r s)
 | [],a,s,e,j=>by
  cases e;show (match rs[n]? with | some r=>if fit r a=yo then wkS rs [] (stp r a) else zb | none=>zb)=_
  rw [q];simp only [j,if_true];rfl
 | k :: ks,a,s,e,j=>by
  rw [fj];unfold wkS at e ⊢
  split at e
  ·rename_i I z
   split at e
   ·rename_i h2;rw [bS h2];exact Q1d q e j
   ·cases e
  ·cases e
theorem Qp4 {rs:List Ru} {q:Sd} {F:List Pr} (j:Qpv rs q F):∀ {s:Sd} {ks:List Nat},Tr F s ks->wkS rs ks.reverse q=zo s
 | s,[],.nil h=>by
  have e:s=q:=(j _ h).1 rfl;rw [e]; rfl
 | s,n :: ks,.cons h t=>by
  obtain ⟨r,z,I,e⟩:=(j _ h).2 _ _ rfl;rw [dg,Q1d z (Qp4 j t) I];exact congrArg zo e
theorem Qbw (rs:List Ru):∀ (ks:List Nat) (s:Sd),Uz rs (ks.map fun (k:Nat)=>(k:Int)) s.1 s.2.1 s.2.2=(wkS rs ks s).map (·.2.2)
 | [],s=>rfl
 | k :: ks,s=>by
  rw [D2,Uz,wkS,bo];cases z:rs[k]? with
  | none=>rfl
  | some r=>
   simp only
   by_cases q:fit r s=yo
   ·rw [bS ⟨by omega,q⟩,bS q];exact Qbw rs ks (stp r s)
   ·rw [bT (fun h=>q h.2),bT q];rfl
section
variable {most:Int} {starts:List Str} {rs:List Ru} {sts ws:List Str} (M:MI2 most starts rs sts ws)
include M
theorem Q1r:SdI starts.length sts ws (starts,[],0):=⟨rfl,M.st,ca,.nil,fun p hp=>(nomatch hp),Int.le_refl _⟩
theorem zi:∀ i,(lvs rs (starts,[],0) i).1.Nodup/\(∀ s∈(lvs rs (starts,[],0) i).2,s∈(lvs rs (starts,[],0) i).1)/\∀ s∈(lvs rs (starts,[],0) i).1,SdI starts.length sts ws s
 | 0 => ⟨by simp [lvs], by simp [lvs], fun s hs => by
   have:s=(starts,[],0):=by simpa [lvs] using hs
   rw [this]; exact Q1r M⟩
 | i + 1=>by
  obtain ⟨h1,h2,j⟩:=zi i;obtain ⟨ex,e,J,g2,Y⟩:=K6 (nxt rs (lvs rs (starts,[],0) i).2) (lvs rs (starts,[],0) i).1 [];have e:lvs rs (starts,[],0) (i + 1)=_:=e;rw [e];refine ⟨Y h1,fun s hs=>E9 _ (by simpa using hs),fun s hs=>?_⟩;rcases E2.mp hs with hs | hs
  ·exact j s hs
  ·obtain ⟨q,O,z⟩:=dC.mp (J s hs);obtain ⟨r,I,rfl⟩:=F0.mp z;exact (j q (h2 q O)).step (M.ru r (cp.mp I).1)
theorem Q6q:∀ i,(∀ j,j < i->We rs most (lvs rs (starts,[],0) j).2=yl)->∀ s∈(lvs rs (starts,[],0) i).1,s.2.2<=most
 | 0,_,s,hs=>by
  have:s=(starts,[],0):=by simpa [lvs] using hs
  rw [this]; exact M.m0
 | i + 1,J,s,hs=>by
  have Y:=Q6q i (fun j hj=>J j (by omega))
  obtain ⟨ex,e,g1,g2,g3⟩:=K6 (nxt rs (lvs rs (starts,[],0) i).2) (lvs rs (starts,[],0) i).1 [];have e:lvs rs (starts,[],0) (i + 1)=_:=e;rw [e] at hs;rcases E2.mp hs with hs | hs
  ·exact Y s hs
  ·obtain ⟨q,hq,O⟩:=dC.mp (g1 s hs);obtain ⟨r,Z,rfl⟩:=F0.mp O;obtain ⟨I,z⟩:=cp.mp Z;have:=dF.mp (J i (by omega)) q hq;have:=dF.mp (ia _ ▸ this) r I;simp only [z,cU,decide_eq_true_eq] at this;show q.2.2 + r.u<=most;omega
theorem Q16 {i:Nat} (q:∀ j,j < i->We rs most (lvs rs (starts,[],0) j).2=yl):(lvs rs (starts,[],0) i).1.length<=576:=few M (zi M i).1 fun s hs=>⟨(zi M i).2.2 s hs,Q6q M i q s hs⟩
omit M in
theorem qt (i:Nat):(lvs rs (starts,[],0) (i + 1)).1.length=(lvs rs (starts,[],0) i).1.length + (lvs rs (starts,[],0) (i + 1)).2.length:=by
 obtain ⟨ex,e,_⟩:=K6 (nxt rs (lvs rs (starts,[],0) i).2) (lvs rs (starts,[],0) i).1 [];have e:lvs rs (starts,[],0) (i + 1)=_:=e;rw [e];simp
def Kp (rs:List Ru) (most:Int) (s0:Sd) (i:Nat):Prop:=We rs most (lvs rs s0 i).2=yo\/(lvs rs s0 i).2=[]
omit M in
theorem Q3h (j:Sd):∀ m,(∃ N,N<=m/\Kp rs most j N/\∀ i,i < N->¬ Kp rs most j i)\/∀ i,i<=m->¬ Kp rs most j i
 | 0=>by
  by_cases q:Kp rs most j 0
  ·exact .inl ⟨0,O5 _,q,fun i hi=>by omega⟩
  ·exact .inr fun i hi=>by
    have:i=0:=by omega
    rw [this]; exact q
 | m + 1=>by
  rcases Q3h j m with ⟨N,h1,h2,I⟩ | h
  ·exact .inl ⟨N,by omega,h2,I⟩
  ·by_cases q:Kp rs most j (m + 1)
   ·exact .inl ⟨m + 1,O5 _,q,fun i hi=>h i (by omega)⟩
   ·refine .inr fun i hi=>?_
    by_cases z:i=m + 1
    ·rw [z]; exact q
    ·exact h i (by omega)
theorem Qtx:∃ N,N<=600/\Kp rs most (starts,[],0) N/\∀ i,i < N->¬ Kp rs most (starts,[],0) i:=by
 rcases Q3h (rs:=rs) (most:=most) (starts,[],0) 600 with h | h
 ·exact h
 ·have J:∀ j,j < 600->We rs most (lvs rs (starts,[],0) j).2=yl:=fun j O=>by
   cases z:We rs most (lvs rs (starts,[],0) j).2 with
   | false=>rfl
   | true=>exact absurd (.inl z) (h j (by omega))
  have q:∀ i,i<=600->i + 1<=(lvs rs (starts,[],0) i).1.length:=by
   intro i
   induction i with
   | zero=>intro _; simp [lvs]
   | succ i I=>
    intro hi;have h1:=I (by omega);have h2:(lvs rs (starts,[],0) (i + 1)).2.length≠0:=fun z=>h (i + 1) hi (.inr (fc z))
    rw [qt];omega
  have h1:=q 600 (O5 _);have h2:=Q16 M J;omega
end
structure Gw (P:Nat->Prop) (S A:Q0):Prop where
 len:S.length<=A.length
 keep:∀ t,t < S.length->¬ P t->A[t]?=S[t]?
theorem Gw.refl (P:Nat->Prop) (S:Q0):Gw P S S:=⟨O5 _,fun _ _ _=>rfl⟩
theorem Gw.trans {P:Nat->Prop} {S A B:Q0} (a:Gw P S A) (b:Gw P A B):Gw P S B:=⟨E1 a.len b.len,fun t h1 h2=>(b.keep t (O9 h1 a.len) h2).trans (a.keep t h1 h2)⟩
theorem Gw.add (P:Nat->Prop) (S T:Q0):Gw P S (S ++ T):=⟨by rw [O6]; omega,fun t h _=>O7 h⟩
theorem Gw.put {P:Nat->Prop} (S:Q0) {n:Nat} (h:P n) (c:Cell):Gw P S (S.set n c):=⟨by rw [F9]; exact O5 _,fun t _ h2=>E5 fun e=>h2 (by rw [<- e]; exact h)⟩
theorem Gw.mono {P Q:Nat->Prop} {S A:Q0} (a:Gw P S A) (h:∀ t,t < S.length->P t->Q t):Gw Q S A:=⟨a.len,fun t h1 h2=>a.keep t h1 fun z=>h2 (h t h1 z)⟩
theorem Gw.at {P:Nat->Prop} {S A:Q0} (a:Gw P S A) {t:Nat} {c:Cell} (h:S[t]?=zo c) (hp:¬ P t):A[t]?=zo c:=by rw [a.keep t (O0.mp h).1 hp]; exact h
theorem Gw.w {P:Nat->Prop} {S A:Q0} (a:Gw P S A) {w:Wt} (h:wOk w S) (hp:∀ x∈w,¬ P x.1):wOk w A:=fun x j=>a.at (h x j) (hp x j)
theorem Gw.tape {P:Nat->Prop} {S A:Q0} (a:Gw P S A) {L:Nat} {ns:List Int} (T:TapeAt S L ns) (hp:¬ P L):TapeAt A L ns:=let ⟨p,c,e⟩:=T; ⟨p,c,a.at e hp⟩
section
variable {α:Type} (f:α->PV) {S:Q0} {D:Nat} {G:List (Sd × α)} (h:S[D]?=zo (.dtp (Js f G)))
include h
theorem Q5f:Yi S (.ref D)=zo (Js f G):=by show (match S[D]? with | some (.dtp kvs)=>zo kvs | _=>zb)=_; rw [h]
theorem Qpr (t:Sd) (j:Bool):Q2w j S (sdV t) (.ref D)=.ok (.bl (decide (t∈G.map (·.1)) != j)) S:=by
 unfold Q2w;rw [Q5f f h,Q20];show Res.ok (PV.bl ((K8 (Js f G) (sdK t)).isSome != j)) S=_;rw [Qjj]
theorem Qbd (q:(G.map (·.1)).Nodup) {t:Sd} {a:α} (j:(t,a)∈G):Q9h S (.ref D) (sdV t)=.ok (f a) S:=by
 unfold Q9h;rw [Q5f f h,Q20];show (match K8 (Js f G) (sdK t) with | some v=>Res.ok v S | none=>.stuck)=_
 rw [Qf9 f q j]
theorem Qbc (j:G.length < 1000000) {t:Sd} (q:t∉G.map (·.1)) (a:α):x9 S (.ref D) (sdV t) (f a)=zo (S.set D (.dtp (Js f (G ++ [(t,a)])))):=by
 unfold x9;simp only [Q5f f h,Q20];rw [bS (by unfold Js; rw [O1]; exact j),Qkj f q]
theorem Qsk (j:G.length < 1000000):Q9r S [.ref D]=.ok (.int (G.length:Nat)) S:=by
 unfold Q9r;simp only [Q5f f h];have:(Js f G).length=G.length:=O1 _;rw [this,bS j]
end
theorem Q76 {mo mi:ME} {Γ:Gam} {S S1 j:Q0} {p q:PV} {r:Res PV} (h1:mo Γ S=.ok p S1) (h2:mi Γ S1=.ok q j) (z:Q9h j p q=r):xz mo mi Γ S=r:=by
 unfold xz;rw [h1,Qx,h2,Qx,z]
theorem j6 {S:Q0} {D:Nat} {xs:List PV} (h:S[D]?=zo (.lst xs)):Wi S (.ref D)=zo (xs,[(D,.lst xs)]):=by
 show (match S[D]? with | some (.lst xs)=>zo (xs,[(D,Cell.lst xs)]) | _=>zb)=_
 rw [h]
theorem zw {S:Q0} {D:Nat} {xs:List PV} (h:S[D]?=zo (.lst xs)):wOk [(D,.lst xs)] S:=fun x j=>by
 have:x=(D,.lst xs):=by simpa using j
 rw [this]; exact h
theorem Yp {S:Q0} {D:Nat} {xs:List PV} (h:S[D]?=zo (.lst xs)):Wu S (.ref D)=zo xs:=by
 show (match S[D]? with | some (.lst xs)=>zo xs | _=>zb)=_; rw [h]
theorem Zh {ga:GA} {body:MS} {w:Wt} {x:PV} {xs:List PV} {Γ z q:Gam} {S I:Q0} {r:SR} (J:wOk w S) (h1:ga x Γ=zo z) (h2:body z S=.nx q I) (O:Ju ga body w xs q I=r):Ju ga body w (x :: xs) Γ S=r:=by
 rw [Ju,bS J,h1];show (match body z S with | .nx q j=>Ju ga body w xs q j | .ct q j=>Ju ga body w xs q j | .bk q j=>.nx q j | .rt v j=>.rt v j | .exc x j=>.exc x j | .stuck=>.stuck)=_;rw [h2];exact O
theorem Q17 {ga:GA} {body:MS} {w:Wt} {x:PV} {xs:List PV} {Γ z:Gam} {S I:Q0} {v:PV} (J:wOk w S) (h1:ga x Γ=zo z) (h2:body z S=.rt v I):Ju ga body w (x :: xs) Γ S=.rt v I:=by
 rw [Ju,bS J,h1];show (match body z S with | .nx q j=>Ju ga body w xs q j | .ct q j=>Ju ga body w xs q j | .bk q j=>.nx q j | .rt v j=>.rt v j | .exc x j=>.exc x j | .stuck=>.stuck)=_;rw [h2]
theorem Up {ga:GA} {body:MS} {w:Wt} {Γ:Gam} {S:Q0} (j:wOk w S):Ju ga body w [] Γ S=.nx Γ S:=by rw [Ju,bS j]
theorem xi {mt:MT} {body:MS} {n:Nat} {Γ q:Gam} {S S1 z:Q0} {r:SR} (h1:mt Γ S=.ok yo S1) (h2:body Γ S1=.nx q z) (I:Jb mt body n q z=r):Jb mt body (n + 1) Γ S=r:=by
 unfold Jb;rw [h1];show (match body Γ S1 with | .nx q j=>Jb mt body n q j | .ct q j=>Jb mt body n q j | .bk q j=>.nx q j | .rt v j=>.rt v j | .exc x j=>.exc x j | .stuck=>.stuck)=_;rw [h2];exact I
theorem Q4j {mt:MT} {body:MS} {n:Nat} {Γ:Gam} {S S1 z:Q0} {v:PV} (h1:mt Γ S=.ok yo S1) (h2:body Γ S1=.rt v z):Jb mt body (n + 1) Γ S=.rt v z:=by
 unfold Jb;rw [h1];show (match body Γ S1 with | .nx q j=>Jb mt body n q j | .ct q j=>Jb mt body n q j | .bk q j=>.nx q j | .rt v j=>.rt v j | .exc x j=>.exc x j | .stuck=>.stuck)=_;rw [h2]
theorem z6 {mt:MT} {body:MS} {n:Nat} {Γ:Gam} {S S1:Q0} (h1:mt Γ S=.ok yl S1):Jb mt body (n + 1) Γ S=.nx Γ S1:=by
 unfold Jb;rw [h1];rfl
section
variable {most:Int} {starts:List Str} {rs:List Ru} {sts ws:List Str} (M:MI2 most starts rs sts ws)
include M
theorem Qh6 {s:Sd} (I:SdI starts.length sts ws s) (S:Q0):J9 [Qs most starts (rs.map ruV),sdV s] S=.ok (.ref S.length) (S ++ [.lst ((Qba rs s.1 s.2.1).map nV)]):=Qat M.one I.len s.2.1 s.2.2 S
theorem Qsu {s:Sd} (I:SdI starts.length sts ws s) {r:Ru} (j:r∈rs) (S:Q0):Jz [ruV r,sdV s] S=.ok (sdV (stp r s)) S:=
 Qab r (by rw [I.len]; exact (M.ru r j).h) (by rw [I.len]; have:=M.n4; omega) (by have:=(I.one M.n4).small M.w2; have:=(M.ru r j).ms; omega) s.2.2 S
omit M in
theorem Qit {s:Sd} {p:Ru × Nat} (h:p∈Qba rs s.1 s.2.1):rs[p.2]?=zo p.1/\fit p.1 s=yo:=let ⟨a,b⟩:=cp.mp h; ⟨Qf6 a,b⟩
omit M in
theorem rix {p:Ru × Nat} (h:rs[p.2]?=zo p.1) (S:Q0):oIx S (.tup (rs.map ruV)) (nV p)=.ok (ruV p.1) S:=ix_tup (by rw [D7,h]; rfl) S
theorem Qb7 {D Fi:Nat} (Z:D≠Fi) {V:PV} {s:Sd} (I:SdI starts.length sts ws s) {w:Wt} (hw:∀ x∈w,¬ (x.1=D\/x.1=Fi)):∀ (ks:List (Ru × Nat)) (F:List Pr) (j:List Sd) (A:Q0) (a5 a6:Option PV),(∀ p∈ks,rs[p.2]?=zo p.1)->A[D]?=zo (.dtp (Js pV F))->A[Fi]?=zo (.lst (j.map sdV))->wOk w A->j.length<=F.length ->
  ((ks.map fun p=>(stp p.1 s,zo (p.2,s))).foldl Zn (F,j)).1.length<=2000 ->
  ∃ A' Y O,Ju (Qn 5) Uu w (ks.map nV) [zo (Qs most starts (rs.map ruV)),zo (.ref D),zo V,zo (.ref Fi),zo (sdV s),a5,a6] A=.nx [zo (Qs most starts (rs.map ruV)),zo (.ref D),zo V,zo (.ref Fi),zo (sdV s),Y,O] A' /\
   A'[D]?=zo (.dtp (Js pV ((ks.map fun p=>(stp p.1 s,zo (p.2,s))).foldl Zn (F,j)).1))/\A'[Fi]?=zo (.lst (((ks.map fun p=>(stp p.1 s,zo (p.2,s))).foldl Zn (F,j)).2.map sdV))/\Gw (fun t=>t=D\/t=Fi) A A'
 | [],F,j,A,a5,a6,_,hD,hF,z,_,_=>⟨A,a5,a6,Up z,hD,hF,Gw.refl _ _⟩
 | p :: ks,F,j,A,a5,a6,hk,hD,hF,z,hl,hb=>by
  have hr:=hk p (by simp);have hx:=rix hr A;have hs:=Qsu M I (E3 hr) A;have a3:=Qpr pV hD (stp p.1 s) yo;simp only [D2,F1] at hb ⊢;obtain ⟨ex,a7,_⟩:=Uw (ks.map fun p=>((stp p.1 s,zo (p.2,s)):Pr)) (Zn (F,j) (stp p.1 s,zo (p.2,s)))
  have Qeq:(J2 6 (Qj 2 Jz (Q3 (mOp oIx (mOp oIx (Q4 0) (mC (.int 2))) (Q4 5)) (Q3 (Q4 4) Q9)))) [zo (Qs most starts (rs.map ruV)),zo (.ref D),zo V,zo (.ref Fi),zo (sdV s),zo (nV p),a6] A=.nx [zo (Qs most starts (rs.map ruV)),zo (.ref D),zo V,zo (.ref Fi),zo (sdV s),zo (nV p),zo (sdV (stp p.1 s))] A:=Qp (Qm (n:=2) (Qq (Qi rfl rfl hx) rfl) rfl hs)
  by_cases q:stp p.1 s∈F.map (·.1)
  ·have J:Zn (F,j) (stp p.1 s,zo (p.2,s))=(F,j):=by unfold Zn; rw [bS q]
   rw [J] at hb ⊢;rw [bV q] at a3;obtain ⟨A',Y,O,e,h1,h2,h3⟩:=Qb7 Z I hw ks F j A (zo (nV p)) (zo (sdV (stp p.1 s))) (fun x hx=>hk x (O4 _ hx)) hD hF z hl hb
   exact ⟨A',Y,O,Zh z rfl (Q8 Qeq (Vq (Qv (Qi rfl rfl a3)) rfl)) e,h1,h2,h3⟩
  ·have J:Zn (F,j) (stp p.1 s,zo (p.2,s))=(F ++ [(stp p.1 s,zo (p.2,s))],j ++ [stp p.1 s]):=by unfold Zn; rw [bT q]
   rw [J] at hb a7 ⊢;rw [bU q] at a3;have b3:F.length + 1<=2000:=by
    rw [a7] at hb;simp only [O6,D5,cu] at hb;omega
   have a4:=Qbc pV hD (by omega) q (zo (p.2,s));obtain ⟨A1,a2⟩:∃ A1,A.set D (.dtp (Js pV (F ++ [(stp p.1 s,zo (p.2,s))])))=A1:=⟨_,rfl⟩;rw [a2] at a4;have b1:=(O0.mp hD).1;have b2:=(O0.mp hF).1;have d1:A1[D]?=zo (.dtp (Js pV (F ++ [(stp p.1 s,zo (p.2,s))]))):=by rw [<- a2]; exact E8 b1
   have f1:A1[Fi]?=zo (.lst (j.map sdV)):=by rw [<- a2,E5 Z]; exact hF
   have g1:Gw (fun t=>t=D\/t=Fi) A A1:=by rw [<- a2]; exact Gw.put A (.inl rfl) _
   obtain ⟨A2,a1⟩:∃ A2,A1.set Fi (.lst ((j ++ [stp p.1 s]).map sdV))=A2:=⟨_,rfl⟩;have d2:A2[D]?=zo (.dtp (Js pV (F ++ [(stp p.1 s,zo (p.2,s))]))):=by rw [<- a1,E5 (Ne.symm Z)]; exact d1
   have b0:=(O0.mp f1).1;have f2:A2[Fi]?=zo (.lst ((j ++ [stp p.1 s]).map sdV)):=by rw [<- a1]; exact E8 b0
   have g2:Gw (fun t=>t=D\/t=Fi) A A2:=by rw [<- a1]; exact g1.trans (Gw.put A1 (.inr rfl) _)
   have a8:Zj A1 (.ref Fi) [sdV (stp p.1 s)]=.ok .non A2:=by
    rw [Q1a f1 (by rw [O1]; omega),<- a1,E4];rfl
   have a9:=Qsk pV d2 (by rw [O6]; simp; omega);obtain ⟨A',Y,O,e,h1,h2,h3⟩:=Qb7 Z I hw ks (F ++ [(stp p.1 s,zo (p.2,s))]) (j ++ [stp p.1 s]) A2 (zo (nV p)) (zo (sdV (stp p.1 s))) (fun x hx=>hk x (O4 _ hx)) d2 f2 (g2.w z hw) (by rw [O6,O6]; simp; omega) hb
   refine ⟨A',Y,O,Zh z rfl (Q8 Qeq (Km (Qv (Qi rfl rfl a3)) (Q8 (Ua rfl rfl rfl a4) (Q8 (Q0b rfl (Yp f1) rfl a8) (Vq (Qv (Qi (U7 rfl a9) rfl (Q9a A2 ?_))) rfl))))) e,h1,h2,g2.trans h3⟩;rw [O6];simp;omega
theorem Qcz {D Fi:Nat} (a1:D≠Fi) {V:PV} {w:Wt} (hw:∀ x∈w,¬ (x.1=D\/x.1=Fi)):∀ (q:List Sd) (F:List Pr) (j:List Sd) (A:Q0) (a4 Z a6:Option PV),(∀ s∈q,SdI starts.length sts ws s)->A[D]?=zo (.dtp (Js pV F))->A[Fi]?=zo (.lst (j.map sdV))->wOk w A->j.length<=F.length ->
  ((trp rs q).foldl Zn (F,j)).1.length<=2000 ->
  ∃ A' b0 b8 b1,Ju (Qn 4) Uv w (q.map sdV) [zo (Qs most starts (rs.map ruV)),zo (.ref D),zo V,zo (.ref Fi),a4,Z,a6] A=.nx [zo (Qs most starts (rs.map ruV)),zo (.ref D),zo V,zo (.ref Fi),b0,b8,b1] A' /\
   A'[D]?=zo (.dtp (Js pV ((trp rs q).foldl Zn (F,j)).1))/\A'[Fi]?=zo (.lst (((trp rs q).foldl Zn (F,j)).2.map sdV))/\Gw (fun t=>t=D\/t=Fi) A A'
 | [],F,j,A,a4,Z,a6,_,hD,hF,O,_,_=>⟨A,a4,Z,a6,Up O,hD,hF,Gw.refl _ _⟩
 | s :: q,F,j,A,a4,Z,a6,hi,hD,hF,O,hl,hb=>by
  have I:=hi s (by simp);have hn:=Qh6 M I A;obtain ⟨ks,J⟩:∃ ks,Qba rs s.1 s.2.1=ks:=⟨_,rfl⟩;have a8:∀ p∈ks,rs[p.2]?=zo p.1:=fun p hp=>(Qit (by rw [J]; exact hp)).1
  have b9:ks.length<=9:=by
   rw [<- J];have:=ii (fun p:Ru × Nat=>js p.1 s.1 s.2.1) rs.zipIdx;rw [ij] at this;exact E1 this M.len
  have b7:trp rs (s :: q)=(ks.map fun p=>(stp p.1 s,zo (p.2,s))) ++ trp rs q:=by
   show (s :: q).flatMap (Qjq rs)=_;rw [ik,<- J]; rfl
  rw [J] at hn;rw [b7,eI] at hb ⊢;obtain ⟨Y,z⟩:∃ Y,A ++ [Cell.lst (ks.map nV)]=Y:=⟨_,rfl⟩;rw [z] at hn;have g1:Gw (fun t=>t=D\/t=Fi) A Y:=by rw [<- z]; exact Gw.add _ _ _
  have b2:=(O0.mp hD).1;have a9:=(O0.mp hF).1;have d1:Y[D]?=zo (.dtp (Js pV F)):=by rw [<- z,O7 b2]; exact hD
  have f1:Y[Fi]?=zo (.lst (j.map sdV)):=by rw [<- z,O7 a9]; exact hF
  have n1:Y[A.length]?=zo (.lst (ks.map nV)):=by rw [<- z]; exact Y8 _ _
  obtain ⟨ex,a2,a3,_⟩:=Uw (trp rs q) ((ks.map fun p=>((stp p.1 s,zo (p.2,s)):Pr)).foldl Zn (F,j))
  obtain ⟨ey,a7,b3,_⟩:=Uw (ks.map fun p=>((stp p.1 s,zo (p.2,s)):Pr)) (F,j)
  obtain ⟨A2,b5,b6,e2,d2,f2,g2⟩:=Qb7 M a1 (V:=V) I (w:=[(A.length,.lst (ks.map nV))]) (fun x hx=>by
   have:x=(A.length,.lst (ks.map nV)):=by simpa using hx
   rw [this];show ¬ (A.length=D\/A.length=Fi);omega) ks F j Y Z a6 a8 d1 f1 (zw n1) hl (by rw [a2,O6] at hb; omega)
  obtain ⟨A3,b4,c5,c6,e3,d3,f3,g3⟩:=Qcz a1 (V:=V) hw q _ _ A2 (zo (sdV s)) b5 b6 (fun x hx=>hi x (O4 _ hx)) d2 f2 ((g1.trans g2).w O hw) (by rw [a7,b3,O6,O6,O1]; show j.length + _<=F.length + _; omega) hb
  exact ⟨A3,b4,c5,c6,Zh O rfl (Y4 (Uc (Qm (n:=2) rfl rfl hn) (j6 n1) (by rw [O1]; omega)) e2) e3,d3,f3,(g1.trans g2).trans g3⟩
theorem Qb6 {D:Nat} {V:PV} {w:Wt} {S:Q0} {q:List Sd} {F:List Pr} (hV:∀ T,Wi (S ++ T) V=zo (q.map sdV,w)) (I:wOk w S) (hw:∀ x∈w,x.1≠D) (hi:∀ s∈q,SdI starts.length sts ws s) (Z:S[D]?=zo (.dtp (Js pV F))) (Y:q.length<=1000000) (hb:((trp rs q).foldl Zn (F,[])).1.length<=2000) :
  ∃ J,Ys [Qs most starts (rs.map ruV),.ref D,V] S=.ok (.ref S.length) J/\J[D]?=zo (.dtp (Js pV ((trp rs q).foldl Zn (F,[])).1))/\J[S.length]?=zo (.lst (((trp rs q).foldl Zn (F,[])).2.map sdV))/\Gw (fun t=>t=D) S J:=by
 have O:=(O0.mp Z).1;have d1:(S ++ [Cell.lst []])[D]?=zo (.dtp (Js pV F)):=by rw [O7 O]; exact Z
 have j:∀ x∈w,¬ (x.1=D\/x.1=S.length):=fun x hx z=>by
  rcases z with z | z
  ·exact hw x hx z
  ·have:=(O0.mp (I x hx)).1;omega
 obtain ⟨A',a4,a5,a6,e,h1,h2,h3⟩:=Qcz M (D:=D) (Fi:=S.length) (by omega) (V:=V) j q F [] (S ++ [Cell.lst []]) zb zb zb hi d1 (Y8 _ _) ((Gw.add (fun t=>t=D\/t=S.length) S _).w I j) (F6 _) hb;refine ⟨A',Ji (show V8 [zo (Qs most starts (rs.map ruV)),zo (.ref D),zo V,zb,zb,zb,zb] S=_ from Q8 (Qp (Vt rfl)) (Q8 (Y4 (Uc rfl (hV _) (by rw [O1]; exact Y)) e) (Jf rfl))),h1,h2,?_⟩;refine ((Gw.add (fun t=>t=D\/t=S.length) S _).trans h3).mono fun t ht z=>?_
 rcases z with z | z
 ·exact z
 ·omega
theorem Qj7 {V:PV} {s:Sd} {w:Wt} {A:Q0} (j:wOk w A):∀ (ks:List (Ru × Nat)) (J:Option PV),(∀ p∈ks,rs[p.2]?=zo p.1) ->
  ((ks.any fun p=>decide (most < s.2.2 + p.1.u))=yl/\∃ I,Ju (Qn 3) Y9 w (ks.map nV) [zo (Qs most starts (rs.map ruV)),zo V,zo (sdV s),J] A=.nx [zo (Qs most starts (rs.map ruV)),zo V,zo (sdV s),I] A) \/
  (∃ p∈ks,most < s.2.2 + p.1.u/\Ju (Qn 3) Y9 w (ks.map nV) [zo (Qs most starts (rs.map ruV)),zo V,zo (sdV s),J] A=.rt (.tup [nV p,sdV s]) A)
 | [],J,_=>.inl ⟨rfl,J,Up j⟩
 | p :: ks,J,Z=>by
  have O:=rix (Z p (by simp)) A
  by_cases q:most < s.2.2 + p.1.u
  ·exact .inr ⟨p,by simp,q,Q17 j rfl (Km (Qv (Qi (Qi rfl (Qi (Qi rfl rfl O) rfl rfl) (Qbr A s.2.2 p.1.u)) rfl (Q58 A q))) (Jf rfl))⟩
  ·have z:Y9 [zo (Qs most starts (rs.map ruV)),zo V,zo (sdV s),zo (nV p)] A=.nx [zo (Qs most starts (rs.map ruV)),zo V,zo (sdV s),zo (nV p)] A:=Vq (Qv (Qi (Qi rfl (Qi (Qi rfl rfl O) rfl rfl) (Qbr A s.2.2 p.1.u)) rfl (Q9a A q))) rfl;rcases Qj7 j ks (zo (nV p)) (fun x O=>Z x (O4 _ O)) with ⟨h1,I,e⟩ | ⟨p',Y,h1,e⟩
   ·exact .inl ⟨by rw [bz,bU q,h1]; rfl,I,Zh j rfl z e⟩
   ·exact .inr ⟨p',O4 _ Y,h1,Zh j rfl z e⟩
theorem Qd6 {V:PV} {w:Wt}:∀ (Z:List Sd) (A:Q0) (a2 O:Option PV),wOk w A->(∀ s∈Z,SdI starts.length sts ws s) ->
  (We rs most Z=yl/\∃ A' a5 a8,Ju (Qn 2) Ya w (Z.map sdV) [zo (Qs most starts (rs.map ruV)),zo V,a2,O] A=.nx [zo (Qs most starts (rs.map ruV)),zo V,a5,a8] A'/\Gw (fun _=>False) A A') \/
  (∃ s∈Z,∃ (r:Ru) (n:Nat) (A':Q0),rs[n]?=zo r/\fit r s=yo/\most < s.2.2 + r.u/\Ju (Qn 2) Ya w (Z.map sdV) [zo (Qs most starts (rs.map ruV)),zo V,a2,O] A=.rt (.tup [.int (n:Int),sdV s]) A'/\Gw (fun _=>False) A A')
 | [],A,a2,O,j,_=>.inl ⟨rfl,A,a2,O,Up j,Gw.refl _ _⟩
 | s :: Z,A,a2,O,j,hi=>by
  have I:=hi s (by simp);have hn:=Qh6 M I A;obtain ⟨ks,J⟩:∃ ks,Qba rs s.1 s.2.1=ks:=⟨_,rfl⟩;have Y:∀ p∈ks,rs[p.2]?=zo p.1/\fit p.1 s=yo:=fun p hp=>Qit (by rw [J]; exact hp)
  have a9:ks.length<=9:=by
   rw [<- J];have:=ii (fun p:Ru × Nat=>js p.1 s.1 s.2.1) rs.zipIdx;rw [ij] at this;exact E1 this M.len
  rw [J] at hn;obtain ⟨A1,a1⟩:∃ A1,A ++ [Cell.lst (ks.map nV)]=A1:=⟨_,rfl⟩;rw [a1] at hn;have g1:Gw (fun _=>False) A A1:=by rw [<- a1]; exact Gw.add _ _ _
  have n1:A1[A.length]?=zo (.lst (ks.map nV)):=by rw [<- a1]; exact Y8 _ _
  rcases Qj7 M (V:=V) (s:=s) (zw n1) ks O (fun p hp=>(Y p hp).1) with ⟨h1,b3,e⟩ | ⟨p,hp,h1,e⟩
  ·have q:Ya [zo (Qs most starts (rs.map ruV)),zo V,zo (sdV s),O] A=.nx [zo (Qs most starts (rs.map ruV)),zo V,zo (sdV s),b3] A1:=Y4 (Uc (Qm (n:=2) rfl rfl hn) (j6 n1) (by rw [O1]; omega)) e;have a4:(rs.any fun r=>fit r s && decide (most < s.2.2 + r.u))=yl:=by
    rw [dF];intro r hr z;simp only [E6,decide_eq_true_eq] at z;obtain ⟨n,a6,a7⟩:=F8 hr;have hm:(r,n)∈ks:=by
     rw [<- J];refine cp.mpr ⟨ic.mpr ?_,z.1⟩;rw [O2 a6,a7]
    have:=dF.mp h1 _ hm;simp only [decide_eq_true_eq] at this;exact this z.2
   rcases Qd6 Z A1 (zo (sdV s)) b3 (g1.w j fun _ _ h=>h) (fun x hx=>hi x (O4 _ hx)) with ⟨k1,A2,b2,c3,e2,g2⟩ | ⟨t,ht,r,n,A2,k1,k2,k3,e2,g2⟩
   ·exact .inl ⟨by unfold We; rw [bz,a4]; exact k1,A2,b2,c3,Zh j rfl q e2,g1.trans g2⟩
   ·exact .inr ⟨t,O4 _ ht,r,n,A2,k1,k2,k3,Zh j rfl q e2,g1.trans g2⟩
  ·exact .inr ⟨s,by simp,p.1,p.2,A1,(Y p hp).1,(Y p hp).2,h1,Q17 j rfl (Y4 (Uc (Qm (n:=2) rfl rfl hn) (j6 n1) (by rw [O1]; omega)) e),g1⟩
end
def nI (k:Nat):PV:=.int (k:Int)
theorem Q81 {F:List Pr} (hn:(F.map (·.1)).Nodup) {D R:Nat} (I:D≠R) {V:PV}:∀ {s:Sd} {ks:List Nat},Tr F s ks->∀ (m:Nat) (acc:List Nat) (A:Q0),A[D]?=zo (.dtp (Js pV F))->A[R]?=zo (.lst (acc.map nI))->acc.length + ks.length<=1000 ->
  ∃ O a3,Jb Q1e Q3x (m + ks.length + 1) [zo (.ref D),zo V,zo (.ref R),zo (sdV s)] A=.nx [zo (.ref D),zo V,zo (.ref R),a3] O/\O[R]?=zo (.lst ((acc ++ ks).map nI))/\Gw (fun t=>t=R) A O
 | s,[],.nil h,m,acc,A,Z,Y,_=>⟨A,_,z6 (Qv (Qi (Q76 rfl rfl (Qbd pV Z hn h)) rfl rfl)),by rw [cC]; exact Y,Gw.refl _ _⟩
 | s,n :: ks,.cons (q:=q) h t,m,acc,A,Z,Y,hl=>by
  have hg:=Qbd pV Z hn h;rw [D5] at hl;have a1:=(O0.mp Y).1;obtain ⟨z,j⟩:∃ z,A.set R (.lst ((acc ++ [n]).map nI))=z:=⟨_,rfl⟩;have J:Zj A (.ref R) [nI n]=.ok .non z:=by
   rw [Q1a Y (by rw [O1]; omega),<- j,E4];rfl
  have d1:z[D]?=zo (.dtp (Js pV F)):=by rw [<- j,E5 (Ne.symm I)]; exact Z
  have r1:z[R]?=zo (.lst ((acc ++ [n]).map nI)):=by rw [<- j]; exact E8 a1
  have g1:Gw (fun t=>t=R) A z:=by rw [<- j]; exact Gw.put (P:=fun t=>t=R) A rfl _
  have a2:=Qbd pV d1 hn h;obtain ⟨O,a3,e,h1,h2⟩:=Q81 hn I (V:=V) t m (acc ++ [n]) z d1 r1 (by rw [O6]; simp; omega);refine ⟨O,a3,?_,by rw [h1]; simp,g1.trans h2⟩;rw [D5,show m + (ks.length + 1) + 1=(m + ks.length + 1) + 1 from rfl];exact xi (Qv (Qi (Q76 rfl rfl hg) rfl rfl)) (Q8 (Q0b rfl (Yp Y) (Qq (Qi (Q76 rfl rfl hg) rfl rfl) rfl) J) (Qp (Qi (Q76 rfl rfl a2) rfl rfl))) e
theorem Qqi {F:List Pr} (O:(F.map (·.1)).Nodup) {D:Nat} {s:Sd} {ks:List Nat} (t:Tr F s ks) {S:Q0} (J:S[D]?=zo (.dtp (Js pV F))) (Z:ks.length<=1000):∃ I,K7 [.ref D,sdV s] S=.ok (.lst (ks.reverse.map nI)) I/\Gw (fun _=>False) S I:=by
 have q:=(O0.mp J).1;have Y:(S ++ [Cell.lst []])[D]?=zo (.dtp (Js pV F)):=by rw [O7 q]; exact J
 obtain ⟨j,a3,e,h1,h2⟩:=Q81 O (D:=D) (R:=S.length) (by omega) (V:=sdV s) t (99999 - ks.length) [] (S ++ [Cell.lst []]) Y (Y8 _ _) (by simpa using Z);rw [show 99999 - ks.length + ks.length + 1=100000 by omega] at e;refine ⟨j,Ji (show Q31 [zo (.ref D),zo (sdV s),zb,zb] S=_ from Q8 (Qp (Vt rfl)) (Q8 (Qp rfl) (Q8 e (Jf (Q1f ?_))))),((Gw.add (fun t=>t=S.length) S _).trans h2).mono fun t ht z=>by omega⟩;show (match U4 j (.ref S.length) with | some xs=>if xs.length<=1000000 then Res.ok xs.reverse j else .stuck | none=>.stuck)=_
 have:U4 j (.ref S.length)=zo (ks.map nI):=by
  show (match j[S.length]? with | some (.lst xs)=>zo xs | _=>zb)=_
  rw [h1]; rfl
 rw [this];show (if (ks.map nI).length<=1000000 then Res.ok (ks.map nI).reverse j else .stuck)=_;rw [bS (by rw [O1]; omega),List.map_reverse]
theorem Q3t {S:Q0} {B:Nat} {xs:List PV} (h:S[B]?=zo (.lst xs)):Zv S [.ref B]=.ok (.int (xs.length:Nat)) S:=by rw [Qsr,h]
def FrAt (S:Q0) (V:PV) (fr:List Sd):Prop:=V=.lst (fr.map sdV)\/∃ B,V=.ref B/\S[B]?=zo (.lst (fr.map sdV))
theorem FrAt.src {S:Q0} {V:PV} {j:List Sd} (h:FrAt S V j) {D:Nat} {c:List (HK × PV)} (z:S[D]?=zo (.dtp c)):∃ w,(∀ T,Wi (S ++ T) V=zo (j.map sdV,w))/\wOk w S/\∀ x∈w,x.1≠D:=by
 rcases h with rfl | ⟨B,rfl,h⟩
 ·exact ⟨[],fun _=>rfl,Z4 _,fun x q=>nomatch q⟩
 ·refine ⟨[(B,.lst (j.map sdV))],fun T=>j6 (by rw [O7 (O0.mp h).1]; exact h),zw h,fun x q e=>?_⟩;have:x=(B,.lst (j.map sdV)):=by simpa using q
  rw [this] at e;have e:B=D:=e;rw [e,z] at h;cases h
section
variable {most:Int} {starts:List Str} {rs:List Ru} {sts ws:List Str} (M:MI2 most starts rs sts ws)
include M
theorem Q3v {S:Q0} {V:PV} {w:Wt} {j:List Sd} (I:Wi S V=zo (j.map sdV,w)) (O:wOk w S) (J:j.length<=1000000) (hi:∀ s∈j,SdI starts.length sts ws s) :
  (We rs most j=yl/\∃ q,Zy [Qs most starts (rs.map ruV),V] S=.ok .non q/\Gw (fun _=>False) S q) \/
  (∃ s∈j,∃ (r:Ru) (n:Nat) (q:Q0),rs[n]?=zo r/\fit r s=yo/\most < s.2.2 + r.u/\Zy [Qs most starts (rs.map ruV),V] S=.ok (.tup [.int (n:Int),sdV s]) q/\Gw (fun _=>False) S q):=by
 rcases Qd6 M (V:=V) j S zb zb O hi with ⟨h1,z,Z,a3,e,g⟩ | ⟨s,hs,r,n,z,h1,h2,Y,e,g⟩
 ·exact .inl ⟨h1,z,Ji (show W4 [zo (Qs most starts (rs.map ruV)),zo V,zb,zb] S=_ from Q8 (Y4 (Uc rfl I (by rw [O1]; exact J)) e) (Jf rfl)),g⟩
 ·exact .inr ⟨s,hs,r,n,z,h1,h2,Y,Ji (show W4 [zo (Qs most starts (rs.map ruV)),zo V,zb,zb] S=_ from Yu (Y4 (Uc rfl I (by rw [O1]; exact J)) e)),g⟩
def Qsx (most:Int) (starts:List Str) (rs:List Ru) (N:Nat) (D:Nat) (v:PV) (A:Q0):Prop:=
 (We rs most (lvs rs (starts,[],0) N).2=yo/\∃ (R:Nat) (ks:List Nat) (n:Nat) (r:Ru) (s:Sd),v=.tup [.ref D,.ref R]/\D < R/\A[R]?=zo (.lst ((ks ++ [n]).map nI))/\ks.length=N/\wkS rs ks (starts,[],0)=zo s/\s∈(lvs rs (starts,[],0) N).1/\rs[n]?=zo r/\fit r s=yo/\most < s.2.2 + r.u) \/
 (We rs most (lvs rs (starts,[],0) N).2=yl/\v=.tup [.ref D,.non]/\A[D]?=zo (.dtp (Js pV (lvF rs (starts,[],0) N).1)))
theorem Qdf {N:Nat} (hN:N<=600) (hS:Kp rs most (starts,[],0) N) (a5:∀ i,i < N->¬ Kp rs most (starts,[],0) i) {D:Nat}:∀ (j i:Nat),i + j=N->∀ (m:Nat) (A:Q0) (V:PV) (a3:Option PV),A[D]?=zo (.dtp (Js pV (lvF rs (starts,[],0) i).1))->FrAt A V (lvF rs (starts,[],0) i).2 ->
  ∃ A',Gw (fun t=>t=D) A A'/\((∃ v,Jb W9 Ut (m + j + 2) [zo (Qs most starts (rs.map ruV)),zo (.ref D),zo V,a3] A=.rt v A'/\We rs most (lvs rs (starts,[],0) N).2=yo/\Qsx most starts rs N D v A')\/(∃ V' b3,Jb W9 Ut (m + j + 2) [zo (Qs most starts (rs.map ruV)),zo (.ref D),zo V,a3] A=.nx [zo (Qs most starts (rs.map ruV)),zo (.ref D),zo V',b3] A'/\Qsx most starts rs N D (.tup [.ref D,.non]) A')):=by
 intro j
 induction j with
 | zero=>
  intro i hi m A V a3 hD hV;have hi:i=N:=by omega
  subst hi;have Y:=yw rs (starts,[],0) i;have e1:(lvF rs (starts,[],0) i).1.map (·.1)=(lvs rs (starts,[],0) i).1:=congrArg bq Y;have e2:(lvF rs (starts,[],0) i).2=(lvs rs (starts,[],0) i).2:=congrArg cT Y;have a2:∀ j,j < i->We rs most (lvs rs (starts,[],0) j).2=yl:=fun j hj=>by
   cases z:We rs most (lvs rs (starts,[],0) j).2 with
   | false=>rfl
   | true=>exact absurd (.inl z) (a5 j hj)
  obtain ⟨k1,k2,k3⟩:=zi M i;have kf:=Q16 M a2;obtain ⟨w,O,hw,b6⟩:=hV.src hD;have b9:(lvF rs (starts,[],0) i).2.length<=576:=by
   rw [e2];refine E1 ?_ kf;cases i with
   | zero=>simp [lvs]
   | succ i=>rw [qt]; omega
  have I:Zv A [V]=.ok (.int ((lvF rs (starts,[],0) i).2.length:Nat)) A:=by
   rcases hV with rfl | ⟨B,rfl,h⟩
   ·show Res.ok (PV.int (((lvF rs (starts,[],0) i).2.map sdV).length:Nat)) A=_;rw [O1]
   ·have:=Q3t h;rw [this,O1]
  by_cases J:(lvF rs (starts,[],0) i).2=[]
  ·refine ⟨A,Gw.refl _ _,.inr ⟨V,a3,?_,.inr ⟨?_,rfl,hD⟩⟩⟩
   ·rw [J] at I;exact z6 (Qv (Qi (U7 rfl I) rfl rfl))
   ·rw [<- e2,J]; rfl
  ·have hb:We rs most (lvs rs (starts,[],0) i).2=yo:=by
    rcases hS with h | h
    ·exact h
    ·rw [<- e2] at h; exact absurd h J
   have ht:W9 [zo (Qs most starts (rs.map ruV)),zo (.ref D),zo V,a3] A=.ok yo A:=by
    refine Qv (Qi (U7 rfl I) rfl (Q58 A ?_));have:(lvF rs (starts,[],0) i).2.length≠0:=fun z=>J (fc z)
    omega
   have q:=O [];rw [cC] at q;rcases Q3v M q hw (by omega) (fun s hs=>k3 s (k2 s (by rw [<- e2]; exact hs))) with ⟨z,_⟩ | ⟨s,hs,r,n,A1,h1,h2,h3,e,g⟩
   ·rw [e2,hb] at z; cases z
   ·obtain ⟨ks,b8,b1⟩:=Qhp rs (starts,[],0) i s hs;have d1:=g.at hD (fun h=>h);obtain ⟨A2,er,g2⟩:=Qqi (by rw [e1]; exact k1) b1 d1 (by omega);have a8:zh (Q50 (Qj 2 K7 (Q3 (Q4 1) (Q3 (mOp oIx (Q4 3) (mC (.int 1))) Q9))) (yu (Q3 (mOp oIx (Q4 3) (mC (.int 0))) Q9))) [zo (Qs most starts (rs.map ruV)),zo (.ref D),zo V,zo (.tup [.int (n:Int),sdV s])] A1=.ok (.ref A2.length) (A2 ++ [.lst ((ks.reverse ++ [n]).map nI)]):=by
     refine Vt ?_;unfold Q50;rw [Qm (n:=2) (F:=K7) rfl rfl er,Qx];show Q8p A2 (.lst (ks.reverse.map nI)) (.lst [.int (n:Int)])=_;show (if (ks.reverse.map nI).length + 1<=lim then Res.ok (ks.reverse.map nI ++ [.int (n:Int)]) A2 else .stuck)=_;rw [bS (by rw [O1,eO,V9]; omega),E4];rfl
    refine ⟨A2 ++ [.lst ((ks.reverse ++ [n]).map nI)],((g.trans g2).trans (Gw.add _ _ _)).mono (fun t _ h=>h.elim),.inl ⟨.tup [.ref D,.ref A2.length],Q4j ht (Q8 (Qp (Qm (n:=2) rfl rfl e)) (Yu (Km (Qv (Qi rfl rfl rfl)) (Jf (z7 (Qq rfl (Qq a8 rfl)) (by simp)))))),hb,.inl ⟨hb,A2.length,ks.reverse,n,r,s,rfl,O9 (O0.mp hD).1 (E1 g.len g2.len),Y8 _ _,by rw [eO,b8],Qp4 (Q51 rs (starts,[],0) i) b1,k2 s (by rw [<- e2]; exact hs),h1,h2,h3⟩⟩⟩
 | succ j ih=>
  intro i hi m A V a3 hD hV;have Y:=yw rs (starts,[],0) i;have e1:(lvF rs (starts,[],0) i).1.map (·.1)=(lvs rs (starts,[],0) i).1:=congrArg bq Y;have e2:(lvF rs (starts,[],0) i).2=(lvs rs (starts,[],0) i).2:=congrArg cT Y;have a7:=yw rs (starts,[],0) (i + 1);have b4:(lvF rs (starts,[],0) (i + 1)).1.map (·.1)=(lvs rs (starts,[],0) (i + 1)).1:=congrArg bq a7;have a4:=a5 i (by omega);have a2:∀ j,j < i + 1->We rs most (lvs rs (starts,[],0) j).2=yl:=fun j hj=>by
   cases z:We rs most (lvs rs (starts,[],0) j).2 with
   | false=>rfl
   | true=>exact absurd (.inl z) (a5 j (by omega))
  obtain ⟨k1,k2,k3⟩:=zi M i;have kf:=Q16 M (i:=i) (fun j hj=>a2 j (by omega))
  have b7:=Q16 M a2;obtain ⟨w,O,hw,b6⟩:=hV.src hD;have b9:(lvF rs (starts,[],0) i).2.length<=576:=by
   rw [e2];refine E1 ?_ kf;cases i with
   | zero=>simp [lvs]
   | succ i=>rw [qt]; omega
  have I:Zv A [V]=.ok (.int ((lvF rs (starts,[],0) i).2.length:Nat)) A:=by
   rcases hV with rfl | ⟨B,rfl,h⟩
   ·show Res.ok (PV.int (((lvF rs (starts,[],0) i).2.map sdV).length:Nat)) A=_;rw [O1]
   ·have:=Q3t h;rw [this,O1]
  have J:(lvF rs (starts,[],0) i).2≠[]:=fun z=>a4 (.inr (by rw [<- e2]; exact z))
  have ht:W9 [zo (Qs most starts (rs.map ruV)),zo (.ref D),zo V,a3] A=.ok yo A:=by
   refine Qv (Qi (U7 rfl I) rfl (Q58 A ?_));have:(lvF rs (starts,[],0) i).2.length≠0:=fun z=>J (fc z)
   omega
  have q:=O [];rw [cC] at q;have b0:∀ s∈(lvF rs (starts,[],0) i).2,SdI starts.length sts ws s:=fun s hs=>k3 s (k2 s (by rw [<- e2]; exact hs))
  rcases Q3v M q hw (by omega) b0 with ⟨z,A1,e,g⟩ | ⟨s,hs,r,n,A1,h1,h2,h3,e,g⟩
  ·have d1:=g.at hD (fun h=>h);have b5:FrAt A1 V (lvF rs (starts,[],0) i).2:=by
    rcases hV with h | ⟨B,h,hB⟩
    ·exact .inl h
    ·exact .inr ⟨B,h,g.at hB (fun h=>h)⟩
   obtain ⟨w1,a6,c0,b2⟩:=b5.src d1;have a1:((trp rs (lvF rs (starts,[],0) i).2).foldl Zn ((lvF rs (starts,[],0) i).1,[])).1.length<=2000:=by
    have:((lvF rs (starts,[],0) (i + 1)).1.map (·.1)).length<=576:=by rw [b4]; exact b7
    rw [O1] at this;exact E1 this (by decide)
   obtain ⟨A2,ef,d2,f2,g2⟩:=Qb6 M a6 c0 b2 b0 d1 (by omega) a1;obtain ⟨A',gA,a9⟩:=ih (i + 1) (by omega) m A2 (.ref A1.length) (zo .non) d2 (.inr ⟨_,rfl,f2⟩);have Z:∀ r,Jb W9 Ut (m + j + 2) [zo (Qs most starts (rs.map ruV)),zo (.ref D),zo (.ref A1.length),zo .non] A2=r->Jb W9 Ut (m + (j + 1) + 2) [zo (Qs most starts (rs.map ruV)),zo (.ref D),zo V,a3] A=r:=fun r hr=>by
    rw [show m + (j + 1) + 2=(m + j + 2) + 1 from rfl];exact xi ht (Q8 (Qp (Qm (n:=2) rfl rfl e)) (Q8 (Vq (Qv (Qi rfl rfl rfl)) rfl) (Qp (Qm (n:=3) rfl rfl ef)))) hr
   refine ⟨A',((g.mono (fun t _ h=>h.elim)).trans g2).trans gA,?_⟩;rcases a9 with ⟨v,h1,h2,h3⟩ | ⟨V',b3,h1,h2⟩
   ·exact .inl ⟨v,Z _ h1,h2,h3⟩
   ·exact .inr ⟨V',b3,Z _ h1,h2⟩
  ·exfalso;refine a4 (.inl (dA.mpr ⟨s,by rw [<- e2]; exact hs,dA.mpr ⟨r,E3 h1,?_⟩⟩));rw [h2,bV h3]; rfl
end
theorem Q9w {most:Int} {starts:List Str} {rules:List PV} (S:Q0):Zb [Qs most starts rules] S=.ok (sdV (starts,[],0)) S:=by
 have st:qp [zo (Qs most starts rules)] S=.rt (sdV (starts,[],0)) S:=rfl;have:=Us (nl:=1) (ps:=[Qs most starts rules]) st;unfold Zb;rw [this];exact Q3i (Q11 _ _ _)
section
variable {most:Int} {starts:List Str} {rs:List Ru} {sts ws:List Str} (M:MI2 most starts rs sts ws)
include M
theorem Qde {N:Nat} (hN:N<=600) (hS:Kp rs most (starts,[],0) N) (I:∀ i,i < N->¬ Kp rs most (starts,[],0) i) (S:Q0):∃ v q,xh [Qs most starts (rs.map ruV)] S=.ok v q/\Gw (fun _=>False) S q/\Qsx most starts rs N S.length v q:=by
 have Z:(S ++ [Cell.dtp [(sdK (starts,[],0),.non)]])[S.length]?=zo (.dtp (Js pV (lvF rs (starts,[],0) 0).1)):=Y8 _ _;obtain ⟨O,g,j⟩:=Qdf M hN hS I (D:=S.length) N 0 (by omega) (99998 - N) (S ++ [Cell.dtp [(sdK (starts,[],0),.non)]]) (.lst [sdV (starts,[],0)]) zb Z (.inl rfl);rw [show 99998 - N + N + 2=100000 by omega] at j;have h1:(J2 1 (je (Qj 1 Zb (Q3 (Q4 0) Q9)) (mC .non))) [zo (Qs most starts (rs.map ruV)),zb,zb,zb] S=.nx [zo (Qs most starts (rs.map ruV)),zo (.ref S.length),zb,zb] (S ++ [Cell.dtp [(sdK (starts,[],0),.non)]]):=by
  refine Qp ?_;unfold je;rw [Qm (n:=1) (F:=Zb) rfl rfl (Q9w S),Qx];show Qbe S .non (sdV (starts,[],0))=_;unfold Qbe;rw [Q20]
 have h2:(J2 2 (yu (Q3 (Qj 1 Zb (Q3 (Q4 0) Q9)) Q9))) [zo (Qs most starts (rs.map ruV)),zo (.ref S.length),zb,zb] (S ++ [Cell.dtp [(sdK (starts,[],0),.non)]])=.nx [zo (Qs most starts (rs.map ruV)),zo (.ref S.length),zo (.lst [sdV (starts,[],0)]),zb] (S ++ [Cell.dtp [(sdK (starts,[],0),.non)]]):=Qp (Qjc (Qq (Qm (n:=1) rfl rfl (Q9w _)) rfl) (by simp));have Y:Gw (fun _=>False) S O:=((Gw.add (fun t=>t=S.length) S _).trans g).mono fun t ht z=>by omega
 rcases j with ⟨v,e,_,J⟩ | ⟨V',b3,e,J⟩
 ·exact ⟨v,O,Ji (show yt [zo (Qs most starts (rs.map ruV)),zb,zb,zb] S=_ from Q8 h1 (Q8 h2 (Yu e))),Y,J⟩
 ·exact ⟨_,O,Ji (show yt [zo (Qs most starts (rs.map ruV)),zb,zb,zb] S=_ from Q8 h1 (Q8 h2 (Q8 e (Jf rfl)))),Y,J⟩
def Qw3 (most:Int) (starts:List Str) (rs:List Ru) (N L:Nat) (v:PV) (A:Q0):Prop:=
 (We rs most (lvs rs (starts,[],0) N).2=yo/\∃ (R:Nat) (ks:List Nat) (n:Nat) (r:Ru) (s:Sd),v=.tup [.str "breaks",.ref R]/\L<=R/\A[R]?=zo (.lst ((ks ++ [n]).map nI))/\ks.length=N/\wkS rs ks (starts,[],0)=zo s/\s∈(lvs rs (starts,[],0) N).1/\rs[n]?=zo r/\fit r s=yo/\most < s.2.2 + r.u) \/
 (We rs most (lvs rs (starts,[],0) N).2=yl/\∃ R:Nat,v=.tup [.str "keeps",.ref R]/\L<=R/\A[R]?=zo (.lst ((lvs rs (starts,[],0) N).1.map sdV)))
theorem Qff (h:Man most starts (rs.map ruV)) {N:Nat} (Y:N<=600) (hS:Kp rs most (starts,[],0) N) (q:∀ i,i < N->¬ Kp rs most (starts,[],0) i) (S:Q0):∃ v j,Q1c [Qs most starts (rs.map ruV)] S=.ok v j/\Gw (fun _=>False) S j/\Qw3 most starts rs N S.length v j:=by
 obtain ⟨v,A,e,g,ht⟩:=Qde M Y hS q S;have h0:=Qcf h S;rcases ht with ⟨I,R,ks,n,r,s,rfl,z,hR,k1,k2,k3,k4,k5,J⟩ | ⟨I,rfl,O⟩
 ·exact ⟨_,A,Ji (show Q14 [zo (Qs most starts (rs.map ruV)),zb] S=_ from Q8 (Q3k (Qm (n:=1) rfl rfl h0)) (Q8 (Qp (Qm (n:=1) rfl rfl e)) (Yu (Km (Qv (Qi rfl rfl rfl)) (Jf rfl))))),g,.inl ⟨I,R,ks,n,r,s,rfl,cr z,hR,k1,k2,k3,k4,k5,J⟩⟩
 ·have Z:Q15 (mOp oIx (Q4 1) (mC (.int 0))) [zo (Qs most starts (rs.map ruV)),zo (.tup [.ref S.length,.non])] A=.ok ((lvs rs (starts,[],0) N).1.map sdV) A:=by
   show (match Yi A (.ref S.length) with | some (kvs:List (HK × PV))=>Res.ok (kvs.map fun (kv:HK × PV)=>hkV kv.1) A | none=>.stuck)=_
   rw [Q5f pV O];have e1:(lvF rs (starts,[],0) N).1.map (·.1)=(lvs rs (starts,[],0) N).1:=congrArg bq (yw rs (starts,[],0) N);rw [<- e1,bt];show Res.ok ((Js pV (lvF rs (starts,[],0) N).1).map fun (kv:HK × PV)=>hkV kv.1) A=_
   unfold Js;rw [bt];congr 1;exact cZ fun x _=>Qpj x.1
  exact ⟨_,A ++ [.lst ((lvs rs (starts,[],0) N).1.map sdV)],Ji (show Q14 [zo (Qs most starts (rs.map ruV)),zb] S=_ from Q8 (Q3k (Qm (n:=1) rfl rfl h0)) (Q8 (Qp (Qm (n:=1) rfl rfl e)) (Q8 (Vq (Qv (Qi rfl rfl rfl)) rfl) (Jf (z7 (Qq rfl (Qq (Vt Z) rfl)) (by simp)))))),g.trans (Gw.add _ _ _),.inr ⟨I,A.length,rfl,g.len,Y8 _ _⟩⟩
end
structure GoodL (most:Int) (n:Nat) (sts ws:List Str) (G:List (Sd × Nat)):Prop where
 nd:(G.map (·.1)).Nodup
 is:∀ s∈G.map (·.1),SdI n sts ws s/\s.2.2<=most
theorem Qka (s:Sd):good 11 (sdV s)=yo:=by
 show ((s.1.map PV.str).all (good 9) && ((s.2.1.map prV).all (good 9) && (yo && yo)))=yo;have h1:(s.1.map PV.str).all (good 9)=yo:=by rw [cG,F4]; exact fun _ _=>rfl
 have h2:(s.2.1.map prV).all (good 9)=yo:=by rw [cG,F4]; exact fun _ _=>rfl
 rw [h1,h2];rfl
theorem Qfx (j:List Sd):good dep (.lst (j.map sdV))=yo:=by
 show (j.map sdV).all (good 11)=yo;rw [cG,F4];exact fun s _=>Qka s
theorem Qpk {S:Q0} {V:PV} {j:List Sd} (h:FrAt S V j):oNe S V (.lst [])=.ok (.bl (!j.isEmpty)) S:=by
 have hd:der S V=.lst (j.map sdV):=by
  rcases h with rfl | ⟨B,rfl,h⟩
  ·rfl
  ·unfold der; simp only [h]
 unfold oNe;rw [hd];show (if good dep (.lst (j.map sdV))=yo/\good dep (.lst [])=yo then Res.ok (PV.bl (!peq (.lst (j.map sdV)) (.lst []))) S else .stuck)=_;rw [bS ⟨Qfx j,rfl⟩];cases j <;> rfl
section
variable {most:Int} {starts:List Str} {rs:List Ru} {sts ws:List Str} (M:MI2 most starts rs sts ws)
include M
theorem GoodL.few {G:List (Sd × Nat)} (h:GoodL most starts.length sts ws G):G.length<=576:=by
 have:=Lw.few M h.nd h.is
 rwa [O1] at this
theorem Q93 {s:Sd} (I:SdI starts.length sts ws s) {r:Ru} (j:r∈rs) (S:Q0):Zf [ruV r,sdV s] S=.ok (.bl (fit r s)) S:=Qng r (by rw [I.len]; exact (M.ru r j).h) s.2.1 s.2.2 S
theorem Q91 {s:Sd} (I:SdI starts.length sts ws s) {r:Ru} (j:r∈rs) (S:Q0):Jx [ruV r,sdV s] S=.ok (sdV (stp r s)) S:=Qjy r (by rw [I.len]; exact (M.ru r j).h) (by have:=(I.one M.n4).small M.w2; have:=(M.ru r j).ms; omega) s.2.2 S
theorem Q6u {D Fi d:Nat} (a2:D≠Fi) {V:PV} {s:Sd} (I:SdI starts.length sts ws s):∀ (O:List Ru) (G:List (Sd × Nat)) (J:List Sd) (A:Q0) (a6 a7:Option PV),(∀ r∈O,r∈rs)->GoodL most starts.length sts ws G->J.length<=G.length->A[D]?=zo (.dtp (Js nI G))->A[Fi]?=zo (.lst (J.map sdV)) ->
  ((O.any fun r=>fit r s && decide (most < s.2.2 + r.u))=yl/\∃ z b8 b4,Ju (Qn 6) Jq [] (O.map ruV) [zo (Qs most starts (rs.map ruV)),zo (.ref D),zo V,zo (.int (d:Int)),zo (.ref Fi),zo (sdV s),a6,a7] A=.nx [zo (Qs most starts (rs.map ruV)),zo (.ref D),zo V,zo (.int (d:Int)),zo (.ref Fi),zo (sdV s),b8,b4] z /\
    z[D]?=zo (.dtp (Js nI (((O.filter (fit · s)).map fun r=>(stp r s,d)).foldl Zn (G,J)).1))/\z[Fi]?=zo (.lst ((((O.filter (fit · s)).map fun r=>(stp r s,d)).foldl Zn (G,J)).2.map sdV))/\GoodL most starts.length sts ws (((O.filter (fit · s)).map fun r=>(stp r s,d)).foldl Zn (G,J)).1/\Gw (fun t=>t=D\/t=Fi) A z) \/
  ((O.any fun r=>fit r s && decide (most < s.2.2 + r.u))=yo/\∃ z G',Ju (Qn 6) Jq [] (O.map ruV) [zo (Qs most starts (rs.map ruV)),zo (.ref D),zo V,zo (.int (d:Int)),zo (.ref Fi),zo (sdV s),a6,a7] A=.rt (.tup [.ref D,.int (d:Int)]) z/\z[D]?=zo (.dtp (Js nI G'))/\GoodL most starts.length sts ws G'/\Gw (fun t=>t=D\/t=Fi) A z)
 | [],G,J,A,a6,a7,_,hG,_,hD,hF=>.inl ⟨rfl,A,a6,a7,Up (Z4 A),hD,hF,hG,Gw.refl _ _⟩
 | r :: O,G,J,A,a6,a7,a9,hG,hl,hD,hF=>by
  have hr:=a9 r (by simp);have hf:=Q93 M I hr A;have hs:=Q91 M I hr A;have Z:=Z4 A;have Y:∀ x∈O,x∈rs:=fun x hx=>a9 x (O4 _ hx)
  rw [bz,D2];cases qf:fit r s with
  | false=>
   rw [qf] at hf;have a3:(r :: O).filter (fit · s)=O.filter (fit · s):=List.filter_cons_of_neg (by rw [qf]; decide);rw [G7,eC,a3];have j:Jq [zo (Qs most starts (rs.map ruV)),zo (.ref D),zo V,zo (.int (d:Int)),zo (.ref Fi),zo (sdV s),zo (ruV r),a7] A=.nx [zo (Qs most starts (rs.map ruV)),zo (.ref D),zo V,zo (.int (d:Int)),zo (.ref Fi),zo (sdV s),zo (ruV r),a7] A:=Vq (Qv (Qm (n:=2) rfl rfl hf)) rfl;rcases Q6u a2 (V:=V) I O G J A (zo (ruV r)) a7 Y hG hl hD hF with ⟨h1,z,b6,b7,e,h2⟩ | ⟨h1,z,G',e,h2⟩
   ·exact .inl ⟨h1,z,b6,b7,Zh Z rfl j e,h2⟩
   ·exact .inr ⟨h1,z,G',Zh Z rfl j e,h2⟩
  | true=>
   rw [qf] at hf;have a3:(r :: O).filter (fit · s)=r :: O.filter (fit · s):=List.filter_cons_of_pos qf;rw [cU,a3,D2,F1]
   by_cases q:most < s.2.2 + r.u
   ·rw [bV q,fN];exact .inr ⟨rfl,A,G,Q17 Z rfl (Km (Qv (Qm (n:=2) rfl rfl hf)) (Q8 (Qp (Qm (n:=2) rfl rfl hs)) (Yu (Km (Qv (Qi rfl rfl (Q58 A q))) (Jf rfl))))),hD,hG,Gw.refl _ _⟩
   ·rw [bU q,eC];have a8:=Qpr nI hD (stp r s) yo
    by_cases qm:stp r s∈G.map (·.1)
    ·have a1:Zn (G,J) (stp r s,d)=(G,J):=by unfold Zn; rw [bS qm]
     rw [a1];rw [bV qm] at a8;have j:Jq [zo (Qs most starts (rs.map ruV)),zo (.ref D),zo V,zo (.int (d:Int)),zo (.ref Fi),zo (sdV s),zo (ruV r),a7] A=.nx [zo (Qs most starts (rs.map ruV)),zo (.ref D),zo V,zo (.int (d:Int)),zo (.ref Fi),zo (sdV s),zo (ruV r),zo (sdV (stp r s))] A:=Km (Qv (Qm (n:=2) rfl rfl hf)) (Q8 (Qp (Qm (n:=2) rfl rfl hs)) (Q8 (Vq (Qv (Qi rfl rfl (Q9a A q))) rfl) (Vq (Qv (Qi rfl rfl a8)) rfl)));rcases Q6u a2 (V:=V) I O G J A (zo (ruV r)) (zo (sdV (stp r s))) Y hG hl hD hF with ⟨h1,z,b6,b7,e,h2⟩ | ⟨h1,z,G',e,h2⟩
     ·exact .inl ⟨h1,z,b6,b7,Zh Z rfl j e,h2⟩
     ·exact .inr ⟨h1,z,G',Zh Z rfl j e,h2⟩
    ·have a1:Zn (G,J) (stp r s,d)=(G ++ [(stp r s,d)],J ++ [stp r s]):=by unfold Zn; rw [bT qm]
     rw [a1];rw [bU qm] at a8;have b9:=GoodL.few M hG;have b3:GoodL most starts.length sts ws (G ++ [(stp r s,d)]):=by
      refine ⟨?_,fun x hx=>?_⟩
      ·rw [E4];exact cS.mpr ⟨hG.nd,by simp,fun a ha b hb e=>by
        have:b=stp r s:=by simpa using hb
        rw [e,this] at ha; exact qm ha⟩
      ·rw [E4] at hx;rcases E2.mp hx with hx | hx
       ·exact hG.is x hx
       ·have:x=stp r s:=by simpa using hx
        rw [this];exact ⟨I.step (M.ru r hr),by show s.2.2 + r.u<=most; omega⟩
     have b0:=Qbc nI hD (by omega) qm d;obtain ⟨A1,a5⟩:∃ A1,A.set D (.dtp (Js nI (G ++ [(stp r s,d)])))=A1:=⟨_,rfl⟩;rw [a5] at b0;have b5:=(O0.mp hD).1;have d1:A1[D]?=zo (.dtp (Js nI (G ++ [(stp r s,d)]))):=by rw [<- a5]; exact E8 b5
     have f1:A1[Fi]?=zo (.lst (J.map sdV)):=by rw [<- a5,E5 a2]; exact hF
     have g1:Gw (fun t=>t=D\/t=Fi) A A1:=by rw [<- a5]; exact Gw.put A (.inl rfl) _
     obtain ⟨A2,a4⟩:∃ A2,A1.set Fi (.lst ((J ++ [stp r s]).map sdV))=A2:=⟨_,rfl⟩;have d2:A2[D]?=zo (.dtp (Js nI (G ++ [(stp r s,d)]))):=by rw [<- a4,E5 (Ne.symm a2)]; exact d1
     have b2:=(O0.mp f1).1;have f2:A2[Fi]?=zo (.lst ((J ++ [stp r s]).map sdV)):=by rw [<- a4]; exact E8 b2
     have g2:Gw (fun t=>t=D\/t=Fi) A A2:=by rw [<- a4]; exact g1.trans (Gw.put A1 (.inr rfl) _)
     have b1:Zj A1 (.ref Fi) [sdV (stp r s)]=.ok .non A2:=by
      rw [Q1a f1 (by rw [O1]; omega),<- a4,E4];rfl
     have j:Jq [zo (Qs most starts (rs.map ruV)),zo (.ref D),zo V,zo (.int (d:Int)),zo (.ref Fi),zo (sdV s),zo (ruV r),a7] A=.nx [zo (Qs most starts (rs.map ruV)),zo (.ref D),zo V,zo (.int (d:Int)),zo (.ref Fi),zo (sdV s),zo (ruV r),zo (sdV (stp r s))] A2:=Km (Qv (Qm (n:=2) rfl rfl hf)) (Q8 (Qp (Qm (n:=2) rfl rfl hs)) (Q8 (Vq (Qv (Qi rfl rfl (Q9a A q))) rfl) (Km (Qv (Qi rfl rfl a8)) (Q8 (Ua rfl rfl rfl b0) (Q0b rfl (Yp f1) rfl b1)))));rcases Q6u a2 (V:=V) I O (G ++ [(stp r s,d)]) (J ++ [stp r s]) A2 (zo (ruV r)) (zo (sdV (stp r s))) Y b3 (by rw [O6,O6]; simp; omega) d2 f2 with ⟨h1,z,b6,b7,e,k1,k2,k3,k4⟩ | ⟨h1,z,G',e,k1,k2,k3⟩
     ·exact .inl ⟨h1,z,b6,b7,Zh Z rfl j e,k1,k2,k3,g2.trans k4⟩
     ·exact .inr ⟨h1,z,G',Zh Z rfl j e,k1,k2,g2.trans k3⟩
def lxs (rs:List Ru) (d:Nat) (fr:List Sd):List (Sd × Nat):=fr.flatMap fun s=>(rs.filter (fit · s)).map fun r=>(stp r s,d)
omit M in
theorem Qn2 (d:Nat) (j:List Sd):(lxs rs d j).map (·.1)=nxt rs j:=by
 unfold lxs nxt;rw [ig];congr 1;funext s;rw [bt];rfl
theorem Q6t {D Fi d:Nat} (a2:D≠Fi) {V:PV} {w:Wt} (hw:∀ x∈w,¬ (x.1=D\/x.1=Fi)):∀ (q:List Sd) (G:List (Sd × Nat)) (J:List Sd) (A:Q0) (a5 Y Z:Option PV),(∀ s∈q,SdI starts.length sts ws s)->GoodL most starts.length sts ws G->J.length<=G.length->wOk w A->A[D]?=zo (.dtp (Js nI G))->A[Fi]?=zo (.lst (J.map sdV)) ->
  (We rs most q=yl/\∃ O b0 a8 a4,Ju (Qn 5) Yb w (q.map sdV) [zo (Qs most starts (rs.map ruV)),zo (.ref D),zo V,zo (.int (d:Int)),zo (.ref Fi),a5,Y,Z] A=.nx [zo (Qs most starts (rs.map ruV)),zo (.ref D),zo V,zo (.int (d:Int)),zo (.ref Fi),b0,a8,a4] O /\
   O[D]?=zo (.dtp (Js nI ((lxs rs d q).foldl Zn (G,J)).1))/\O[Fi]?=zo (.lst (((lxs rs d q).foldl Zn (G,J)).2.map sdV))/\GoodL most starts.length sts ws ((lxs rs d q).foldl Zn (G,J)).1/\Gw (fun t=>t=D\/t=Fi) A O) \/
  (We rs most q=yo/\∃ O G',Ju (Qn 5) Yb w (q.map sdV) [zo (Qs most starts (rs.map ruV)),zo (.ref D),zo V,zo (.int (d:Int)),zo (.ref Fi),a5,Y,Z] A=.rt (.tup [.ref D,.int (d:Int)]) O/\O[D]?=zo (.dtp (Js nI G'))/\GoodL most starts.length sts ws G'/\Gw (fun t=>t=D\/t=Fi) A O)
 | [],G,J,A,a5,Y,Z,_,hG,_,j,hD,hF=>.inl ⟨rfl,A,a5,Y,Z,Up j,hD,hF,hG,Gw.refl _ _⟩
 | s :: q,G,J,A,a5,Y,Z,hi,hG,hl,j,hD,hF=>by
  have I:=hi s (by simp);have hx:lxs rs d (s :: q)=((rs.filter (fit · s)).map fun r=>(stp r s,d)) ++ lxs rs d q:=ik
  rw [hx,eI];unfold We;rw [bz];obtain ⟨ey,a3,a9,_⟩:=Uw ((rs.filter (fit · s)).map fun r=>(stp r s,d)) (G,J)
  have a1:(rs.map ruV).length<=1000000:=by rw [O1]; have:=M.len; omega
  rcases Q6u M (d:=d) a2 (V:=V) I rs G J A Y Z (fun r hr=>hr) hG hl hD hF with ⟨h1,A1,b6,b7,e,k1,k2,k3,k4⟩ | ⟨h1,A1,G',e,k1,k2,k3⟩
  ·rw [h1,eC];have z:Yb [zo (Qs most starts (rs.map ruV)),zo (.ref D),zo V,zo (.int (d:Int)),zo (.ref Fi),zo (sdV s),Y,Z] A=.nx [zo (Qs most starts (rs.map ruV)),zo (.ref D),zo V,zo (.int (d:Int)),zo (.ref Fi),zo (sdV s),b6,b7] A1:=Y4 (Uc rfl rfl a1) e;rcases Q6t a2 (V:=V) hw q _ _ A1 (zo (sdV s)) b6 b7 (fun x hx=>hi x (O4 _ hx)) k3 (by rw [a3,a9,O6,O6,O1]; show J.length + _<=G.length + _; omega) (k4.w j hw) k1 k2 with ⟨j1,A2,c5,c6,c7,e2,m1,m2,m3,m4⟩ | ⟨j1,A2,G',e2,m1,m2,m3⟩
   ·exact .inl ⟨j1,A2,c5,c6,c7,Zh j rfl z e2,m1,m2,m3,k4.trans m4⟩
   ·exact .inr ⟨j1,A2,G',Zh j rfl z e2,m1,m2,k4.trans m3⟩
  ·rw [h1,fN];exact .inr ⟨rfl,A1,G',Q17 j rfl (Y4 (Uc rfl rfl a1) e),k1,k2,k3⟩
def Lvd (most:Int) (starts:List Str) (rs:List Ru) (sts ws:List Str) (N D:Nat) (d:Nat) (A:Q0):Prop:=
 ∃ G,A[D]?=zo (.dtp (Js nI G))/\GoodL most starts.length sts ws G/\((We rs most (lvs rs (starts,[],0) N).2=yo/\d=N + 1)\/(We rs most (lvs rs (starts,[],0) N).2=yl/\d=0/\G.map (·.1)=(lvs rs (starts,[],0) N).1))
theorem Qht {N:Nat} (hN:N<=600) (hS:Kp rs most (starts,[],0) N) (b2:∀ i,i < N->¬ Kp rs most (starts,[],0) i) {D:Nat}:∀ (j i:Nat),i + j=N->∀ (m:Nat) (A:Q0) (V:PV) (a4 a5 a6 a7:Option PV) (G:List (Sd × Nat)),A[D]?=zo (.dtp (Js nI G))->GoodL most starts.length sts ws G->G.map (·.1)=(lvs rs (starts,[],0) i).1->FrAt A V (lvs rs (starts,[],0) i).2 ->
  ∃ A',Gw (fun t=>t=D) A A'/\((∃ d:Nat,Jb Z3 Z9 (m + j + 2) [zo (Qs most starts (rs.map ruV)),zo (.ref D),zo V,zo (.int (i:Int)),a4,a5,a6,a7] A=.rt (.tup [.ref D,.int (d:Int)]) A'/\Lvd most starts rs sts ws N D d A')\/(∃ V' b3 b4 b5 b6 b7,Jb Z3 Z9 (m + j + 2) [zo (Qs most starts (rs.map ruV)),zo (.ref D),zo V,zo (.int (i:Int)),a4,a5,a6,a7] A=.nx [zo (Qs most starts (rs.map ruV)),zo (.ref D),zo V',b3,b4,b5,b6,b7] A'/\Lvd most starts rs sts ws N D 0 A')):=by
 intro j
 induction j with
 | zero=>
  intro i hi m A V a4 a5 a6 a7 G hD hG hK hV;have hi:i=N:=by omega
  subst hi;have I:=Qpk hV;cases Z:(lvs rs (starts,[],0) i).2 with
  | nil=>
   rw [Z] at I;refine ⟨A,Gw.refl _ _,.inr ⟨V,_,a4,a5,a6,a7,z6 (Qv (Qi rfl rfl I)),G,hD,hG,.inr ⟨?_,rfl,hK⟩⟩⟩;rw [Z]; rfl
  | cons s0 c0=>
   rw [Z] at I;have hb:We rs most (lvs rs (starts,[],0) i).2=yo:=by
    rcases hS with h | h
    ·exact h
    ·rw [Z] at h; cases h
   obtain ⟨w,J,hw,a2⟩:=hV.src hD;have q:∀ x∈w,¬ (x.1=D\/x.1=A.length):=fun x hx z=>by
    rcases z with z | z
    ·exact a2 x hx z
    ·have:=(O0.mp (hw x hx)).1;omega
   have a3:=(O0.mp hD).1;have d1:(A ++ [Cell.lst []])[D]?=zo (.dtp (Js nI G)):=by rw [O7 a3]; exact hD
   obtain ⟨k1,k2,k3⟩:=zi M i;have a8:(lvs rs (starts,[],0) i).2.length<=1000000:=by
    have h1:(lvs rs (starts,[],0) i).1.length<=576:=by rw [<- hK,O1]; exact GoodL.few M hG
    cases i with
    | zero=>simp [lvs]
    | succ i=>rw [qt] at h1; omega
   rcases Q6t M (d:=i + 1) (D:=D) (Fi:=A.length) (by omega) (V:=V) q (lvs rs (starts,[],0) i).2 G [] (A ++ [Cell.lst []]) a5 a6 a7 (fun s hs=>k3 s (k2 s hs)) hG (F6 _) ((Gw.add (fun t=>t=D\/t=A.length) A _).w hw q) d1 (Y8 _ _) with ⟨j1,_⟩ | ⟨j1,A2,G',e2,m1,m2,m3⟩
   ·rw [hb] at j1; cases j1
   ·refine ⟨A2,((Gw.add (fun t=>t=D\/t=A.length) A _).trans m3).mono (fun t ht z=>?_),.inl ⟨i + 1,?_,G',m1,m2,.inl ⟨hb,rfl⟩⟩⟩
    ·rcases z with z | z
     ·exact z
     ·omega
    ·exact Q4j (Qv (Qi rfl rfl I)) (Q8 (Qp (Qi rfl rfl (show Zt A (.int (i:Int)) (.int 1)=.ok (.int ((i + 1:Nat):Int)) A by rw [Qbr]; rfl))) (Q8 (Qp (Vt rfl)) (Yu (Y4 (Uc rfl (J _) (by rw [O1]; exact a8)) e2))))
 | succ j ih=>
  intro i hi m A V a4 a5 a6 a7 G hD hG hK hV;have a1:=b2 i (by omega);have I:=Qpk hV;have b1:We rs most (lvs rs (starts,[],0) i).2=yl:=by
   cases z:We rs most (lvs rs (starts,[],0) i).2 with
   | false=>rfl
   | true=>exact absurd (.inl z) a1
  have a9:(lvs rs (starts,[],0) i).2.isEmpty=yl:=by
   cases z:(lvs rs (starts,[],0) i).2 with
   | nil=>exact absurd (.inr z) a1
   | cons=>rfl
  rw [a9] at I;obtain ⟨w,J,hw,a2⟩:=hV.src hD;have q:∀ x∈w,¬ (x.1=D\/x.1=A.length):=fun x hx z=>by
   rcases z with z | z
   ·exact a2 x hx z
   ·have:=(O0.mp (hw x hx)).1;omega
  have a3:=(O0.mp hD).1;have d1:(A ++ [Cell.lst []])[D]?=zo (.dtp (Js nI G)):=by rw [O7 a3]; exact hD
  obtain ⟨k1,k2,k3⟩:=zi M i;have a8:(lvs rs (starts,[],0) i).2.length<=1000000:=by
   have h1:(lvs rs (starts,[],0) i).1.length<=576:=by rw [<- hK,O1]; exact GoodL.few M hG
   cases i with
   | zero=>simp [lvs]
   | succ i=>rw [qt] at h1; omega
  rcases Q6t M (d:=i + 1) (D:=D) (Fi:=A.length) (by omega) (V:=V) q (lvs rs (starts,[],0) i).2 G [] (A ++ [Cell.lst []]) a5 a6 a7 (fun s hs=>k3 s (k2 s hs)) hG (F6 _) ((Gw.add (fun t=>t=D\/t=A.length) A _).w hw q) d1 (Y8 _ _) with ⟨_,A2,c5,c6,c7,e2,m1,m2,m3,m4⟩ | ⟨j1,_⟩
  ·have O:=Q40 (lxs rs (i + 1) (lvs rs (starts,[],0) i).2) (G,[]);rw [Qn2,show ((G,([]:List Sd)).1.map (·.1),(G,([]:List Sd)).2)=((lvs rs (starts,[],0) i).1,[]) from by rw [hK]] at O;have b8:((lxs rs (i + 1) (lvs rs (starts,[],0) i).2).foldl Zn (G,[])).1.map (·.1)=(lvs rs (starts,[],0) (i + 1)).1:=congrArg bq O;have b9:((lxs rs (i + 1) (lvs rs (starts,[],0) i).2).foldl Zn (G,[])).2=(lvs rs (starts,[],0) (i + 1)).2:=congrArg cT O;rw [b9] at m2;obtain ⟨A',gA,b0⟩:=ih (i + 1) (by omega) m A2 (.ref A.length) (zo (.ref A.length)) c5 c6 c7 _ m1 m3 b8 (.inr ⟨_,rfl,m2⟩);have Y:∀ r,Jb Z3 Z9 (m + j + 2) [zo (Qs most starts (rs.map ruV)),zo (.ref D),zo (.ref A.length),zo (.int ((i + 1:Nat):Int)),zo (.ref A.length),c5,c6,c7] A2=r->Jb Z3 Z9 (m + (j + 1) + 2) [zo (Qs most starts (rs.map ruV)),zo (.ref D),zo V,zo (.int (i:Int)),a4,a5,a6,a7] A=r:=fun r hr=>by
    rw [show m + (j + 1) + 2=(m + j + 2) + 1 from rfl];exact xi (Qv (Qi rfl rfl I)) (Q8 (Qp (Qi rfl rfl (show Zt A (.int (i:Int)) (.int 1)=.ok (.int ((i + 1:Nat):Int)) A by rw [Qbr]; rfl))) (Q8 (Qp (Vt rfl)) (Q8 (Y4 (Uc rfl (J _) (by rw [O1]; exact a8)) e2) (Qp rfl)))) hr
   have g2:Gw (fun t=>t=D) A A2:=((Gw.add (fun t=>t=D\/t=A.length) A _).trans m4).mono (fun t ht z=>by
    rcases z with z | z
    ·exact z
    ·omega)
   refine ⟨A',g2.trans gA,?_⟩;rcases b0 with ⟨d,h1,h2⟩ | ⟨V',b3,b4,b5,b6,b7,h1,h2⟩
   ·exact .inl ⟨d,Y _ h1,h2⟩
   ·exact .inr ⟨V',b3,b4,b5,b6,b7,Y _ h1,h2⟩
  ·rw [b1] at j1; cases j1
theorem Qek {N:Nat} (hN:N<=600) (hS:Kp rs most (starts,[],0) N) (Z:∀ i,i < N->¬ Kp rs most (starts,[],0) i) (S:Q0):∃ (d:Nat) (Y:Q0),W8 [Qs most starts (rs.map ruV)] S=.ok (.tup [.ref S.length,.int (d:Int)]) Y/\Gw (fun _=>False) S Y/\Lvd most starts rs sts ws N S.length d Y:=by
 have d0:(S ++ [Cell.dtp []])[S.length]?=zo (.dtp (Js nI ([]:List (Sd × Nat)))):=Y8 _ _;have j:=Qbc nI d0 (by simp) (t:=(starts,[],0)) (by simp) 0;obtain ⟨I,J⟩:∃ I,(S ++ [Cell.dtp []]).set S.length (.dtp (Js nI ([] ++ [((starts,[],0),0)])))=I:=⟨_,rfl⟩;rw [J] at j;have d1:I[S.length]?=zo (.dtp (Js nI [((starts,[],0),0)])):=by rw [<- J]; exact E8 (by simp)
 have g1:Gw (fun t=>t=S.length) S I:=by rw [<- J]; exact (Gw.add _ S _).trans (Gw.put (P:=fun t=>t=S.length) _ rfl _)
 have O:zq I [.ref S.length]=.ok (.lst [sdV (starts,[],0)]) I:=by
  unfold zq;simp only [Q5f nI d1];show Res.ok (PV.lst [hkV (sdK (starts,[],0))]) I=_;rw [Qpj]
 have hG:GoodL most starts.length sts ws [((starts,[],0),0)]:=⟨by simp,fun s hs=>by
  have:s=(starts,[],0):=by simpa using hs
  rw [this]; exact ⟨Q1r M,M.m0⟩⟩
 obtain ⟨A',gA,q⟩:=Qht M hN hS Z (D:=S.length) N 0 (by omega) (99998 - N) I (.lst [sdV (starts,[],0)]) zb zb zb zb _ d1 hG rfl (.inl rfl);rw [show 99998 - N + N + 2=100000 by omega] at q;have gg:Gw (fun _=>False) S A':=(g1.trans gA).mono fun t ht z=>by omega
 rcases q with ⟨d,e,hL⟩ | ⟨V',b3,b4,b5,b6,b7,e,hL⟩
 ·exact ⟨d,A',Ji (show W5 [zo (Qs most starts (rs.map ruV)),zb,zb,zb,zb,zb,zb,zb] S=_ from Q8 (Qp rfl) (Q8 (Ua rfl rfl rfl j) (Q8 (Qp (U7 rfl O)) (Q8 (Qp rfl) (Yu e))))),gg,hL⟩
 ·exact ⟨0,A',Ji (show W5 [zo (Qs most starts (rs.map ruV)),zb,zb,zb,zb,zb,zb,zb] S=_ from Q8 (Qp rfl) (Q8 (Ua rfl rfl rfl j) (Q8 (Qp (U7 rfl O)) (Q8 (Qp rfl) (Q8 e (Jf rfl)))))),gg,hL⟩
end
section
variable {most:Int} {starts:List Str} {rs:List Ru} {sts ws:List Str} (M:MI2 most starts rs sts ws)
include M
theorem Qbx {V:PV} {w:Wt} {A:Q0} (j:wOk w A):∀ (ks:List Nat) (a s:Sd) (z:Option PV),SdI starts.length sts ws a->wkS rs ks a=zo s ->
  ∃ q,Ju (Qn 3) Kv w (ks.map nI) [zo (Qs most starts (rs.map ruV)),zo V,zo (sdV a),z] A=.nx [zo (Qs most starts (rs.map ruV)),zo V,zo (sdV s),q] A
 | [],a,s,z,_,h=>by cases h; exact ⟨z,Up j⟩
 | k :: ks,a,s,z,I,h=>by
  unfold wkS at h
  split at h
  ·rename_i r J
   split at h
   ·rename_i Z;have hm:=E3 J;have h1:=Q93 M I hm A;rw [Z] at h1;have h2:=Q91 M I hm A;have hk:=(O0.mp J).1;have Y:oIx A (.tup (rs.map ruV)) (.int (k:Int))=.ok (ruV r) A:=ix_tup (by rw [D7,J]; rfl) A;have O:(oI fun a b=>.bl (decide (b<=a))) A (.int (k:Int)) (.int ((rs.map ruV).length:Nat))=.ok (.bl yl) A:=by
     rw [gei,bU];rw [O1];omega
    obtain ⟨q,e⟩:=Qbx j ks (stp r a) s (zo (nI k)) (I.step (M.ru r hm)) h;exact ⟨q,Zh j rfl (Q8 (Vq (zf (V4 (b:=yo) rfl) (zf rfl (zf (Qv (Qi rfl rfl (Qv4 A (by omega)))) (Qv (Qi rfl rfl O))))) rfl) (Q8 (Vq (V4 (b:=yo) (Qv (Qm (n:=2) (Qq (Qi rfl rfl Y) rfl) rfl h1))) rfl) (Qp (Qm (n:=2) (Qq (Qi rfl rfl Y) rfl) rfl h2)))) e⟩
   ·cases h
  ·cases h
theorem Qhn {S:Q0} {R:Nat} {ks:List Nat} (j:S[R]?=zo (.lst (ks.map nI))) (I:ks.length<=1000) {s:Sd} (h:wkS rs ks (starts,[],0)=zo s):W1 [Qs most starts (rs.map ruV),.ref R] S=.ok (sdV s) S:=by
 obtain ⟨z,e⟩:=Qbx M (V:=.ref R) (zw j) ks _ s zb (Q1r M) h;have q:jq "list" (Q4 1) [zo (Qs most starts (rs.map ruV)),zo (.ref R),zb,zb] S=.ok (.bl yo) S:=by
  show (if K1 S (.ref R)=yo then Res.stuck else .ok (PV.bl (isI "list" (dpv S (.ref R)))) S)=_;have h1:K1 S (.ref R)=yl:=by unfold K1; simp only [j]
  have h2:dpv S (.ref R)=.ref R:=by unfold dpv; simp only [j]
  rw [h1,h2];rfl
 have st:Xi [zo (Qs most starts (rs.map ruV)),zo (.ref R),zb,zb] S=.rt (sdV s) S:=Q8 (Vq (V4 (b:=yo) (Qv q)) rfl) (Q8 (Qp (show _=Res.ok (sdV (starts,[],0)) S from rfl)) (Q8 (Y4 (Uc rfl (j6 j) (by rw [O1]; omega)) e) (Jf rfl)));have:=Us (nl:=4) (ps:=[Qs most starts (rs.map ruV),.ref R]) st;unfold W1;rw [this];exact Q3i (Q11 _ _ _)
end
theorem Qhc (ks:List Nat):ks.map nI=(ks.map fun (k:Nat)=>(k:Int)).map .int:=by rw [bt]; rfl
theorem Qj6 {most:Int} {starts:List Str} {rs:List Ru} {ks:List Nat} {s:Sd} (h:wkS rs ks (starts,[],0)=zo s):Qns most starts rs (ks.map fun (k:Nat)=>(k:Int))=decide (most < s.2.2):=by
 have:=Qbw rs ks (starts,[],0);rw [h] at this;unfold Qns;rw [show Uz rs (ks.map fun (k:Nat)=>(k:Int)) starts [] 0=zo s.2.2 from this]
theorem Qix {α:Type} (xs:List α) (x:α):cut (xs ++ [x]) zb (zo (-1))=xs:=by
 unfold cut;have h1:HT.sIx (xs ++ [x]).length 0 zb=0:=rfl;have h2:HT.sIx (xs ++ [x]).length (xs ++ [x]).length (zo (-1))=xs.length:=by
  show (if (-1:Int) < 0 then ((-1:Int) + ((xs ++ [x]).length:Nat)).toNat else min (-1:Int).toNat (xs ++ [x]).length)=_;rw [bS (by decide),O6];simp;omega
 rw [h1,h2];simp
theorem Qet {α:Type} (g:α->PV) {xs:List α} (I:Gam->Q0->Prop) {ga:GA} {body:MS} (h:∀ x Γ st,x∈xs->I Γ st->∃ J,ga (g x) Γ=zo J/\∃ q j,I q j/\(body J st=.nx q j\/body J st=.bk q j)) {Γ:Gam} {st:Q0} (h0:I Γ st):∃ z st',Ju ga body [] (xs.map g) Γ st=.nx z st'/\I z st':=by
 induction xs generalizing Γ st with
 | nil=>exact ⟨Γ,st,by simp [Ju],h0⟩
 | cons x xs ih=>
  obtain ⟨J,h1,q,j,O,e2⟩:=h x Γ st F2 h0;rcases e2 with e2 | e2
  ·obtain ⟨z,st',Z,Y⟩:=ih (fun y Γ st hy=>h y Γ st (O4 _ hy)) O
   exact ⟨z,st',by simp [Ju,h1,e2,Z],Y⟩
  ·exact ⟨q,j,by simp [Ju,h1,e2],O⟩
theorem Qj2 {S:Q0} {R:Nat} {xs:List PV} (h:S[R]?=zo (.lst xs)):yq S (.ref R) []=.ok .non (S.set R (.lst [])):=by
 simp only [yq,chg,h]
theorem Qi1 {S:Q0} {R:Nat} {xs:List PV} {m:ME} {Γ:Gam} (h:S[R]?=zo (.lst xs)) (hm:m Γ S=.ok (.ref R) S):jq "list" m Γ S=.ok (.bl yo) S:=by
 unfold jq;rw [hm,Qx];have h1:K1 S (.ref R)=yl:=by unfold K1; simp only [h]
 have h2:dpv S (.ref R)=.ref R:=by unfold dpv; simp only [h]
 rw [h1,h2];rfl
theorem Qjn {most:Int} {starts:List Str} {rs:List Ru} {sts ws:List Str} (M:MI2 most starts rs sts ws) (h:Man most starts (rs.map ruV)) {N:Nat} (hN:N<=600) (hS:Kp rs most (starts,[],0) N) (a2:∀ i,i < N->¬ Kp rs most (starts,[],0) i) {d:Nat} (hd:(We rs most (lvs rs (starts,[],0) N).2=yo/\d=N + 1)\/(We rs most (lvs rs (starts,[],0) N).2=yl/\d=0)) (S:Q0) (c0 c1 c2 c5 c6 Y:Option PV) :
  ∃ a9 b2 S',Q7h [c0,c1,c2,zo (Qs most starts (rs.map ruV)),zo (.int (d:Int)),c5,c6,Y] S=.nx [c0,c1,c2,zo (Qs most starts (rs.map ruV)),zo (.int (d:Int)),c5,a9,b2] S'/\Gw (fun _=>False) S S':=by
 obtain ⟨v,A,e,g,ht⟩:=Qff M h hN hS a2 S;have a4:=Q6q M N fun j hj=>by
  cases z:We rs most (lvs rs (starts,[],0) j).2 with
  | false=>rfl
  | true=>exact absurd (.inl z) (a2 j hj)
 have fresh:∀ {R:Nat} {c:Cell} ,S.length<=R->Gw (fun _=>False) S (A.set R c):=fun {R c} q=>(g.mono (Q:=fun t=>t=R) (fun _ _ z=>z.elim)).trans (Gw.put (P:=fun t=>t=R) A rfl c) |>.mono fun t ht z=>by omega
 rcases ht with ⟨hb,R,ks,n,r,s,rfl,J,q,k1,k2,k3,k4,k5,k6⟩ | ⟨hb,R,rfl,J,q⟩
 ·have a7:d=N + 1:=by
   rcases hd with ⟨_,h⟩ | ⟨z,_⟩
   ·exact h
   ·rw [hb] at z; cases z
  have a6:wkS rs (ks ++ [n]) (starts,[],0)=zo (stp r s):=Q1d k4 k2 k5;have b1:=Qhn M q (by rw [O6]; simp; omega) a6;have b3:=a4 s k3;have I:=q;rw [Qhc] at I;have Z:=(O0.mp I).1;have a1:=Q9s M.one h (S:=A) (V:=.ref R) (w:=[(R,.lst (((ks ++ [n]).map fun (k:Nat)=>(k:Int)).map .int))]) (ks:=(ks ++ [n]).map fun (k:Nat)=>(k:Int)) (fun T=>j6 (by rw [O7 Z]; exact I)) (fun T=>zw (by rw [O7 Z]; exact I)) (by rw [O1,O6]; simp; omega)
  rw [Qj6 a6,bV (show most < (stp r s).2.2 from k6)] at a1;have a5:=Q9s M.one h (S:=A) (V:=.lst ((ks.map fun (k:Nat)=>(k:Int)).map .int)) (w:=[]) (ks:=ks.map fun (k:Nat)=>(k:Int)) (fun T=>rfl) (fun T=>Z4 _) (by rw [O1]; omega)
  rw [Qj6 k2,bU (show ¬ most < s.2.2 by omega)] at a5;have b0:∀ Y,mSl (mOp oIx (Q4 6) (mC (.int 1))) X4 (jw (Qmx (mC (.int 1)))) [c0,c1,c2,zo (Qs most starts (rs.map ruV)),zo (.int (d:Int)),c5,zo (.tup [.str "breaks",.ref R]),Y] A=.ok (.lst ((ks.map fun (k:Nat)=>(k:Int)).map .int)) A:=fun Y=>by
   have a8:Wu A (.ref R)=zo ((ks ++ [n]).map nI):=Yp q;show (match Wu A (.ref R) with | some xs=>Res.ok (PV.lst (cut xs zb (zo (-1)))) A | none=>.stuck)=_
   rw [a8];show Res.ok (PV.lst (cut ((ks ++ [n]).map nI) zb (zo (-1)))) A=_;rw [E4];show Res.ok (PV.lst (cut (ks.map nI ++ [nI n]) zb (zo (-1)))) A=_;rw [Qix,Qhc]
  have a3:Zv A [.ref R]=.ok (.int (d:Int)) A:=by
   rw [Q3t q,a7,O1,O6,k1];rfl
  have O:¬ (d:Int)=0:=by omega
  refine ⟨zo (.tup [.str "breaks",.ref R]),zo (sdV (stp r s)),A.set R (.lst []),?_,fresh J⟩;exact Q8 (Qp (Qm (n:=1) rfl rfl e)) (Q8 (Vq (zf (V4 (b:=yo) rfl) (zf (Qv (Qi rfl rfl (Qha A 2))) (V4 (b:=yo) (Qv (Qi1 q rfl))))) rfl)
   (Q8 (Vq (Qv (Qi rfl rfl (Qpq A O))) (Q8 (Qp (Qm (n:=2) rfl rfl b1)) (Q8 (Vq (zf (Qv (Qi rfl rfl (Qcg rfl rfl))) (zf (Qv (Qi rfl rfl rfl)) (zf (Qv (Qi rfl rfl (show (oI fun a b=>.bl (decide (a<=b))) A (.int (stp r s).2.2) (.int most)=.ok (.bl yl) A by rw [lei,bU (show ¬ (stp r s).2.2<=most from by show ¬ s.2.2 + r.u<=most; omega)]))) (Qv (Qi (U7 rfl a3) rfl (Qha A d)))))) rfl)
    (Vq (zf (Qv (Qi (Qm (n:=2) rfl rfl a1) rfl rfl)) (Qv (Qi (Qm (n:=2) (Qq rfl (Qq (b0 _) rfl)) rfl a5) rfl rfl))) rfl)))) (Q0b (xs:=(ks ++ [n]).map nI) rfl (Yp q) rfl (Qj2 q))))
 ·have O:(d:Int)=0:=by
   rcases hd with ⟨z,_⟩ | ⟨_,h⟩
   ·rw [hb] at z; cases z
   ·rw [h]; rfl
  refine ⟨zo (.tup [.str "keeps",.ref R]),Y,A.set R (.lst []),?_,fresh J⟩;exact Q8 (Qp (Qm (n:=1) rfl rfl e)) (Q8 (Vq (zf (V4 (b:=yo) rfl) (zf (Qv (Qi rfl rfl (Qha A 2))) (V4 (b:=yo) (Qv (Qi1 q rfl))))) rfl)
   (Q8 (Km (Qv (Qi rfl rfl (Qpp A O))) (Vq (Qv (Qi rfl rfl (Qcg rfl rfl))) rfl)) (Q0b rfl (Yp q) rfl (Qj2 q))))
theorem Qs4 (ns:List Int):∃ S',Qhj [zo (.fro (ns.map .int)),zb,zb,zb,zb,zb,zb,zb] []=.rt (.bl yo) S':=by
 have T0:TapeAt [Cell.lst [.fro (ns.map .int),.int 0,.int 0]] 0 ns:=⟨0,0,rfl⟩;obtain ⟨a5,S1,e1,T1,x2,x3,x4,x5,x6,x7,rfl⟩:=Qet (xs:=bX 3) (fun (i:Nat)=>PV.int ((0:Int) + (i:Int))) (fun Γ A=>TapeAt A 0 ns/\∃ c2 Y Z O J j,Γ=[zo (.fro (ns.map .int)),zo (.ref 0),c2,Y,Z,O,J,j])
  (ga:=Qn 2) (body:=Q7i) (fun x Γ A _ ⟨T,c2,Y,Z,O,J,j,I⟩=>by
   subst I;refine ⟨_,rfl,?_⟩;have hT:=T;obtain ⟨p,c,eS⟩:=T;obtain ⟨_,i1,_⟩:=Q10 eS
   by_cases q:(1:Int) < (0:Int) + (x:Int)/\((ns.map PV.int).length:Int)<=(p:Int)
   ·refine ⟨[zo (.fro (ns.map .int)),zo (.ref 0),zo (.int ((0:Int) + (x:Int))),Y,Z,O,J,j],A,⟨hT,_,_,_,_,_,_,rfl⟩,.inr ?_⟩;unfold Q7i;have h1:(Q1m (toB (mOp (oI fun a b=>.bl (decide (b < a))) (Q4 2) (mC (.int 1)))) (toB (mOp (oI fun a b=>.bl (decide (b<=a))) (mOp oIx (Q4 1) (mC (.int 1))) (J1 Zv (Q3 (Q4 0) Q9))))) [zo (.fro (ns.map .int)),zo (.ref 0),zo (.int ((0:Int) + (x:Int))),Y,Z,O,J,j] A=.ok yo A:=
     Qpu (Qv (Qi rfl rfl (Q58 A q.1))) (Qv (Qi (Qi rfl rfl i1) rfl (by show Res.ok (PV.bl (decide _)) A=_; rw [bV q.2])))
    show Qf _ _ [zo (.fro (ns.map .int)),zo (.ref 0),zo (.int ((0:Int) + (x:Int))),Y,Z,O,J,j] A=_;rw [qq,Km h1 (show Qaw _ A=.bk _ A from rfl)]
   ·have h1:(Q1m (toB (mOp (oI fun a b=>.bl (decide (b < a))) (Q4 2) (mC (.int 1)))) (toB (mOp (oI fun a b=>.bl (decide (b<=a))) (mOp oIx (Q4 1) (mC (.int 1))) (J1 Zv (Q3 (Q4 0) Q9))))) [zo (.fro (ns.map .int)),zo (.ref 0),zo (.int ((0:Int) + (x:Int))),Y,Z,O,J,j] A=.ok yl A:=by
     by_cases q1:(1:Int) < (0:Int) + (x:Int)
     ·exact Qpu (Qv (Qi rfl rfl (Q58 A q1))) (Qv (Qi (Qi rfl rfl i1) rfl (by show Res.ok (PV.bl (decide _)) A=_; rw [bU (fun h=>q ⟨q1,h⟩)])))
     ·exact Qw2 (Qv (Qi rfl rfl (Q9a A q1)))
    obtain ⟨most,starts,rules,A1,hM,T1,M1,e1⟩:=Qef hT;obtain ⟨rs,sts,ws,rfl,M⟩:=Qrr hM;obtain ⟨N,hN,hS,a1⟩:=Qtx M;obtain ⟨d,A2,e2,g2,G,_,_,hd⟩:=Qek M hN hS a1 A1;have a2:(We rs most (lvs rs (starts,[],0) N).2=yo/\d=N + 1)\/(We rs most (lvs rs (starts,[],0) N).2=yl/\d=0):=hd.imp id fun z=>⟨z.1,z.2.1⟩
    have T2:=g2.tape T1 (fun h=>h);obtain ⟨a6,A3,e3,T3,d5,d6,d7,rfl⟩:=Q3g (xs:=bX 2) (fun (i:Nat)=>PV.int ((0:Int) + (i:Int))) (fun i Γ B=>TapeAt B 0 ns/\∃ d5 d6 d7,Γ=[zo (.fro (ns.map .int)),zo (.ref 0),zo (.int ((0:Int) + (x:Int))),zo (Qs most starts (rs.map ruV)),zo (.int (d:Int)),d5,d6,d7])
     (ga:=Qn 5) (body:=Q7h) (w:=[]) (fun _ _ B _=>Z4 B) (fun i y Γ B _ ⟨TB,d5,d6,d7,I⟩=>by
      subst I;obtain ⟨a4,a3,B',e',g'⟩:=Qjn M hM hN hS a1 a2 B (zo (.fro (ns.map .int))) (zo (.ref 0)) (zo (.int ((0:Int) + (x:Int)))) (zo (.int ((0:Int) + (y:Int)))) d6 d7;exact ⟨_,rfl,_,B',e',g'.tape TB (fun h=>h),_,_,_,rfl⟩)
     (Γ:=[zo (.fro (ns.map .int)),zo (.ref 0),zo (.int ((0:Int) + (x:Int))),zo (Qs most starts (rs.map ruV)),zo (.int (d:Int)),O,J,j]) (st:=A2) ⟨T2,_,_,_,rfl⟩
    exact ⟨_,A3,⟨T3,_,_,_,_,_,_,rfl⟩,.inl (Q8 (Vq h1 rfl) (Q8 (Qp (Qm (n:=1) rfl rfl e1)) (Q8 (Qp (Qi (Qm (n:=1) rfl rfl e2) rfl rfl)) (Y4 (Qp7 (n:=2) (by decide) rfl) e3))))⟩)
  (Γ:=[zo (.fro (ns.map .int)),zo (.ref 0),zb,zb,zb,zb,zb,zb]) (st:=[Cell.lst [.fro (ns.map .int),.int 0,.int 0]])
  ⟨T0,zb,zb,zb,zb,zb,zb,rfl⟩
 exact ⟨S1,Q8 (Qp (Vt rfl)) (Q8 (Y4 (Qp7 (n:=3) (by decide) rfl) e1) (Jf rfl))⟩
theorem Qn6:∀ ns:List Int,ns.length<=63->∃ st',Qjh [.fro (ns.map .int)] []=.ok (.bl yo) st':=fun ns _=>by
 obtain ⟨j,e⟩:=Qs4 ns;have:=Us (nl:=8) (ps:=[.fro (ns.map .int)]) e;refine ⟨[],?_⟩;unfold Qjh;rw [this];unfold fin;rw [bS (List.nil_prefix)];simp [fz,okO]
end Lw
namespace Lw
open PySem PySem.Spec L2 Sm
theorem all_mk {l:fI} {w:aJ} {K:bW} {h:Heap} {mg:Str->Option aA} {fa f1 f2 f3 f4 f5 f6 f7 f8 f9 o9 q6 q4 s9 r1 p8 p1 p3 t5 t4 r4 s0 p0 t9 t8 q8 p9 r6 u1 r3 r5 r9 p6 k5:aB} (X:K.In h) (G:h.Ns aW mg) (r8:mg "law" = zo (.ref fa))
  {m6 i9:Option aB} {m5:Array (Option aA)} {l1 i6 i7 i5 i2 i8:aA}
  {c3 c8:aB}
  {a8:Tok}
  {d6:Tok}
  {d1:Tok}
  {d7:Tok}
  {b6:Tok}
  {a5:Tok}
  {c5:Tok}
  {q:aB} {O J:Tok} {Y:Nat} {Z:Array (Option aA)}
  (n6:bg K aW "law" = zo (zo (.ref k5)))
  (r7:K.lookup k5=zo ⟨l1,m6,.func (br "law" "law" (Yq yc) (Z0 yc) (Qa yc) .none i6 i7 i5 i9 i2 i8),m5⟩)
  (r0:cs K i2 "law" = yo)
  (p5:cX K (.ref k5)=yo)
  (k0:bg K aW "all" = zo zb)
  (i4:bg K aW "bool" = zo zb)
  (e0:bg K aW "enumerate" = zo zb)
  (k8:bg K aW "int" = zo zb)
  (d5:bg K aW "isinstance" = zo zb)
  (k7:bg K aW "len" = zo zb)
  (i3:bg K aW "list" = zo zb)
  (i1:bg K aW "range" = zo zb)
  (e9:bg K aW "reversed" = zo zb)
  (k6:bg K aW "set" = zo zb)
  (g9:bg K aW "sorted" = zo zb)
  (k4:bg K aW "str" = zo zb)
  (i0:bg K aW "tuple" = zo zb)
  (a9:bg K aW "MOST_SIGNS_OF_WORD" = zo (zo (.int 8 a8)))
  (d3:bg K aW "MOST_STOCK" = zo (zo (.int 20 d6)))
  (c9:bg K aW "MOST_STARTS" = zo (zo (.int 4 d1)))
  (d8:bg K aW "MOST_RULES" = zo (zo (.int 60 d7)))
  (b5:bg K aW "MOST_USE_AT_ONCE" = zo (zo (.int 9 b6)))
  (a4:bg K aW "MOST_LETTERS_OF_RULE" = zo (zo (.int 8 a5)))
  (c7:bg K aW "MOST_STANDS" = zo (zo (.int 2000 c5)))
  (a2:bg K aW "EVENTS_WITHOUT_LETTER" = zo (zo (.ref q)))
  (a1:K.lookup q=zo ⟨.type "tuple",zb,.seq #[.str "go" O,.str "fall" J] Y,Z⟩)
  (g1:bg K aW "NoManner" = zo (zo (.ref c3)))
  (g3:bg K aW "TooMany" = zo (zo (.ref c8)))
  (h1:FA K "is_whole" z9 f1)
  (h2:FA K "is_between" Kf f2)
  (h3:FA K "is_sized_tuple" V0 f3)
  (h4:FA K "is_word" xj f4)
  (h5:FA K "is_letter" qd f5)
  (h6:FA K "are_letters_of_rule" Y2 f6)
  (h7:FA K "is_rule" xk f7)
  (h8:FA K "are_rules" qg f8)
  (h9:FA K "are_starts" Kg f9)
  (t1:FA K "is_manner" qc o9)
  (s3:FA K "need_manner" X9 q6)
  (s6:FA K "beginning" qe q4)
  (s7:FA K "may_be_done" Xa s9)
  (q7:FA K "numbers_that_may" Wb r1)
  (s8:FA K "stand_behind" Ug p8)
  (t2:FA K "run_to" Q26 p1)
  (s2:FA K "breaking_step" Vw p3)
  (p7:FA K "further_stands" V1 t5)
  (o4:FA K "walked" Q25 t4)
  (p4:FA K "tried" Q66 r4)
  (o2:FA K "used_behind" X8 s0)
  (o5:FA K "is_break" za p0)
  (o6:FA K "_law_e_stirred" V2 t9)
  (q5:FA K "_law_e_digit" Uh t8)
  (o8:FA K "_law_e_name" Xe q8)
  (o7:FA K "_law_e_letter_name" Yc p9)
  (t6:FA K "_law_e_rule" Xd r6)
  (q0:FA K "_law_e_manner" Vx u1)
  (r2:FA K "_law_e_fits" Xf r3)
  (t0:FA K "_law_e_step" Xc r5)
  (t7:FA K "_law_e_levels" Vy r9)
  (s5:FA K "_law_e_walk" Xb p6)
  (e8:cL K c3 Q9v "ValueError.__new__" = yo)
  (g5:cL K c8 Q9v "ValueError.__new__" = yo)
  (hL:noL K=yo) :
  ∃ fd:aP,(∀ (s:aC) (v:aA),BindsTo s fd ⟨[v],[]⟩ [("script",v)])/\∀ base:Heap,K.In base->base.Ns aW mg->FnOk l.prog w K mg base (CXD l.prog w) 10 fa fd ["script"] (Q5x K):=by
 have e:=r8.symm.trans (bu X G n6);cases e;have T:Txt K mg:=⟨bw X G k0,bw X G i4,bw X G e0,bw X G k8,bw X G d5,bw X G k7,bw X G i3,bw X G i1,bw X G e9,bw X G k6,bw X G g9,bw X G k4,bw X G i0,⟨_,bu X G a9⟩,⟨_,bu X G d3⟩,⟨_,bu X G c9⟩,⟨_,bu X G d8⟩,⟨_,bu X G b5⟩,⟨_,bu X G a4⟩,⟨_,bu X G c7⟩,⟨_,_,_,_,bu X G a2,a1,rfl,rfl,(by show 2<=sizeLine; decide),.cons ⟨_,rfl⟩ (.cons ⟨_,rfl⟩ (.nil))⟩⟩
 have g0:∃ C,mg "NoManner" = zo (.ref C)/\cL K C Q9v "ValueError.__new__" = yo:=⟨_,bu X G g1,e8⟩;have g6:∃ C,mg "TooMany" = zo (.ref C)/\cL K C Q9v "ValueError.__new__" = yo:=⟨_,bu X G g3,g5⟩;obtain ⟨_,A1⟩:=Yz ["thing"] X G h1;obtain ⟨_,A2⟩:=Yz ["thing", "least", "most"] X G h2;obtain ⟨_,A3⟩:=Yz ["thing", "least", "most"] X G h3;obtain ⟨_,A4⟩:=Yz ["thing"] X G h4;obtain ⟨_,A5⟩:=Yz ["n", "thing"] X G h5;obtain ⟨_,A6⟩:=Yz ["n", "thing"] X G h6;obtain ⟨_,A7⟩:=Yz ["n", "thing"] X G h7;obtain ⟨_,A8⟩:=Yz ["n", "thing"] X G h8;obtain ⟨_,A9⟩:=Yz ["thing"] X G h9;obtain ⟨_,l3⟩:=Yz ["thing"] X G t1;obtain ⟨_,o0⟩:=Yz ["manner"] X G s3;obtain ⟨_,o1⟩:=Yz ["manner"] X G s6;obtain ⟨_,k9⟩:=Yz ["rule", "stand"] X G s7;obtain ⟨_,m7⟩:=Yz ["manner", "stand"] X G q7;obtain ⟨_,n9⟩:=Yz ["rule", "stand"] X G s8
 obtain ⟨_,l4⟩:=Yz ["found", "stand"] X G t2;obtain ⟨_,l2⟩:=Yz ["manner", "stands"] X G s2;obtain ⟨_,l8⟩:=Yz ["manner", "found", "stands"] X G p7;obtain ⟨_,m4⟩:=Yz ["manner"] X G o4;obtain ⟨_,l6⟩:=Yz ["manner"] X G p4;obtain ⟨_,n2⟩:=Yz ["manner", "run"] X G o2;obtain ⟨_,n5⟩:=Yz ["manner", "run"] X G o5;obtain ⟨_,m8⟩:=Yz ["cell", "place"] X G o6;obtain ⟨_,n3⟩:=Yz ["tape", "many"] X G q5;obtain ⟨_,n7⟩:=Yz ["tape"] X G o8;obtain ⟨_,l5⟩:=Yz ["tape"] X G o7;obtain ⟨_,l0⟩:=Yz ["tape", "n", "states", "names"] X G t6;obtain ⟨_,m9⟩:=Yz ["tape"] X G q0;obtain ⟨_,l7⟩:=Yz ["rule", "stand"] X G r2;obtain ⟨_,l9⟩:=Yz ["rule", "stand"] X G t0;obtain ⟨_,n8⟩:=Yz ["manner"] X G t7;obtain ⟨_,n0⟩:=Yz ["manner", "run"] X G s5;have o3:=Qsv (st:=yc) (ps:=["script"]) X G n6 r7 r0 p5 fun _ _ _ _ _ _ us hl=>match us,hl with | [_],_=>rfl
 refine ⟨br "law" "law" (Yq yc) (Z0 yc) (Qa yc) .none i6 i7 i5 i9 i2 i8,fun s v=>.of_eq rfl,fun base kb nb=>?_⟩;have e7:=A1.d l.prog w base rfl (Q8k A1.F T    );have a3:=A2.d l.prog w base rfl (Q4a A2.F T   e7 );have j:=A3.d l.prog w base rfl (yh A3.F T    );have b7:=A4.d l.prog w base rfl (Qap A4.F T    );have e5:=A5.d l.prog w base rfl (Q6h A5.F T   j a3 b7 );have a6:=A6.d l.prog w base rfl (Kk A6.F T   j e5 );have g4:=A7.d l.prog w base rfl (Qaq A7.F T   j a3 b7 a6 );have e4:=A8.d l.prog w base rfl (Q6j A8.F T   j g4 );have d4:=A9.d l.prog w base rfl (Q4b A9.F T   j b7 );have d9:=l3.d l.prog w base rfl (Q6g l3.F T   j a3 d4 e4 )
 have b1:=o0.d l.prog w base rfl (Q2p o0.F T  g0 d9 );have e6:=o1.d l.prog w base rfl (Q6i o1.F T    );have b0:=k9.d l.prog w base rfl (Q2q k9.F T    );have I:=m7.d l.prog w base rfl (jp m7.F T   b0 );have c4:=n9.d l.prog w base rfl (Q0t n9.F T    );have g7:=l4.d l.prog w base rfl (Qe8 l4.F T    );have c2:=l2.d l.prog w base rfl (xr l2.F T   I );have b8:=l8.d l.prog w base rfl (yi l8.F T  g6 I c4 );have g8:=m4.d l.prog w base rfl (Qe7 m4.F T   e6 c2 g7 b8 );have h0:=l6.d l.prog w base rfl (Qh4 l6.F T   b1 g8 );have c6:=n2.d l.prog w base rfl (Q2n n2.F T   b0 );have f0:=n5.d l.prog w base rfl (Q8m n5.F T   b1 c6 )
 have b9:=m8.d l.prog w base rfl (yj m8.F T    );have z:=n3.d l.prog w base rfl (Q0u n3.F T   b9 );have b2:=n7.d l.prog w base rfl (Q2u n7.F T   z );have a7:=l5.d l.prog w base rfl (Ky l5.F T   b2 );have d2:=l0.d l.prog w base rfl (Q2t l0.F T   z );have c0:=m9.d l.prog w base rfl (xt m9.F T   z b2 a7 d2 );have b4:=l7.d l.prog w base rfl (Q2v l7.F T    );have b3:=l9.d l.prog w base rfl (Q2s l9.F T    );have c1:=n8.d l.prog w base rfl (xu n8.F T   b4 b3 );have d0:=n0.d l.prog w base rfl (Q2r n0.F T   b4 b3 );exact Qn5 hL (Qrk o3.F T   c0 c1 h0 d0 f0 ) Qn6
end Lw
namespace PySem.W.Fast
local macro_rules|`(command|open $n*)=>return Lean.mkNullNode (<-n.mapM λn=>`(command|theorem $n:ident:True:=trivial))
open tw9271885879835908317 tw9010627932940454261 tw9584834715735910862 tw8120092868926111404 tw11080707113152307495 tw1675092132331346663 tw398337507370313408 te16865023201480096144 te13421229287378022085 te5334206399029908072 te10930678543936422887 te499688596053515724 te12597362572162541691 te2927118020144293719 te9354281741886459071 te16792099699899464116 te2171602285218705072 te5425561667330040700 te16826880906704248867 te13768466612889693465 te5722619608292690798 te5920157543720012625 te3119261210253140269 te3637338274585015552 te10190557328353224178 te6152949778820680645 te14663951098582624104 te2389916832586850518 te2889729592232877266 te17888579869552748226 te16369973177396294919 te16715730020890640846 te17484580539958806328 te2449548775911140966 te2183118978036303691 te5301498519220029760 te17343053657852476422 te3505106750690378013 te14154001316877699707 te9930848914564822349 te12404273829852953566 te16061092119416755964 te7850533415531594415 te584461437056994755 te8408654956736141635 te15716595195774815528 te8100206614741434866 te9641002240801946937 te6416809022013408560 te16211960589514852665 te13643609252894404616 te8864664918493860130 te9703914119456241092 te10102415629518438478 te6759050562351979886 te15911963749386217869 te8769033064239143031 te13171527302125105194 te8256076415785820581 te4580840981918406407 te7020095312096921798 te17602591568185226931 te10548002617925517582 te896559088657626195 te13932019142879497056 te2965630076133939198 te2019662875520480207 te10210741174202012723 te6421690374322349343 te7580001354770178252 te7158043936819773995 te12873849018054660133 te16360688484310845532 te12626631570428587186 te941055759768086 te17564554966932029989 te1454786259086089188 te7309505557399186180 te16475824950437675598 te1577273666914562426 te3261118298496398643 te94871871803730557 te5858324189902511554 te922847867053853431 te13529764633906176914 te7010639344139623953 te18066957868729163552 te8210464585950039514
end PySem.W.Fast
open PySem PySem.W PyProof.Rows Sm
set_option maxRecDepth 100000 in
set_option maxHeartbeats 0 in
theorem PySem.Challenge.cw_lendwharf_k62_shortest_runs_that_break_holds : PySem.Challenge.rw_lendwharf_k62_shortest_runs_that_break.Holds := by
 w_on; o_law; k_head; (case hw=>w_witness2)
 k_fill
 refine Sm.walkS (l:=PySem.Challenge.rw_lendwharf_k62_shortest_runs_that_break) (k:=10) rfl ⟨rfl,by decide,by decide⟩ rfl (fun w h Y=>PySem.W.kIn_of Y) ?F
 case F=>
  intro w mg fa h KX G hmg;refine' Lw.all_mk KX G hmg ..
  any_goals k_is
  any_goals exact FA.mk (by k_is) (by k_is) (by k_is) (by k_is)
  any_goals k_exc
  all_goals first | rfl | decide
