import PyProof.Rows.All
import Wide.All
import OpenK.AllK
import Wide.FinOn
import Lean
import PyProof.EqAt
import PyProof.EqKinds
import PyProof.TupleCall
import PyProof.ZipIter
import PyProof.Draws
import PyProof.SumAny
import PyProof.EnumMake
import PyProof.WalkInts
import PyProof.ExcArgsOwn
import PyProof.ExcAttrAll.ValueError
import PyProof.NsDelKeeps
import KE.KTryMore
import OpenK.KOwn
import PyProof.ListMulRoad
import PyProof.FactsAll.tuple_2
import PyProof.NeKinds
import PyProof.Rows.RuleIs
import PyProof.ExcInit
import PyProof.ExcClass3
import OpenK.KCls
import PyProof.InstStoreFacts
import OpenK.KMake
import PyProof.DictRoads
import PyProof.Rows.CountFlat
import PyProof.ListRange
import PyProof.Rows.SetFrom
import PyProof.CollectStr
import PyProof.Rows.TupMore
import PyProof.AttrMissHeap
import KE.KDictOf
import PyProof.DictWalks
import KE.KSortTup
import PyProof.DictItemsLoops
import KE.KDictList
import PyProof.CallStr
import PyProof.StrWalks
import PyProof.StrOps
import PyProof.StrCalls2
import PyProof.Conv_int_bool
import PySem.Challenge.RW_lendwharf_k60_stands_and_rules
set_option Elab.async false
set_option linter.all false
set_option maxRecDepth 100000
set_option maxHeartbeats 4000000
open Option renaming some -> zo, none -> zb
open Bool renaming true -> yo, false -> yl
open List renaming getElem?_eq_getElem -> O0, getElem?_eq_some_iff -> O1, length_map -> O3, mem_cons_of_mem -> O5, size_toArray -> O6, map_cons -> O8, getElem?_map -> D2, getElem?_append_left -> D3, length_append -> D4, mem_cons -> D5, getElem?_append_right -> D6, length_cons -> D7, mem_of_getElem? -> D9, getD_eq_getElem?_getD -> E2, map_append -> E5, all_eq_true -> E7, mem_append -> E8, mem_append_right -> E9, length_range -> F0, getElem?_set_ne -> F2, getElem?_set_self -> F3, mem_cons_self -> F4, length_set -> F7, getElem_of_mem -> F8, mem_append_left -> G6, foldl_cons -> G7, mem_map -> L4
open PySem.Heap renaming get?_push_of_some -> O2, lt_size -> O9, get?_push_size -> D1, get?_update_other -> F1, size_push -> F5, get?_update_self -> F6
open Nat renaming le_refl -> O4, lt_of_lt_of_le -> D0, ne_of_lt -> D8, le_trans -> E3, lt_irrefl -> G8, zero_le -> G9
open Bool renaming false_ne_true -> O7, false_eq_true -> E4, and_eq_true -> E6, false_and -> F9
open PySem renaming Value -> aA, Addr -> aB, Shared -> aC, wpAny_bind -> aD, wpAny -> aF, Expr -> aH, model -> aI, World -> aJ, Program -> aK, Stmt -> aL, Around -> aM, starEach -> aN, FuncData -> aO, eval -> aP, mainGlobals -> aQ, rawInt -> aR, Paired -> aS, cLine -> aU, compareOp -> aV, SetTable -> aW, bootBuiltins -> aX, backTo -> aY, binaryOp -> aZ, wpAny_holding -> ae, pyNext -> af, cellsFrom -> ag, wpAny_call_entry -> ah, wpAny_field -> ak, wpAny_newObj_type -> ao, sysModules -> aq, wpAny_mono -> ar, holding -> au, NameKind -> av, assignEach -> aw, codeAny_builtin -> ay, call_meets -> az, wpAny_truthy_bool -> bA, wpAny_seqItems -> bB, wpAny_typeOf -> bC, plainId_quiet -> bD, foldedSetIterable -> bE, sliceBounds -> bF, wpAny_pyIter_tuple -> bG, behindInMarks -> bH, codeAny_mono -> bI, attributeBase -> bJ, wpAny_setField_rec -> bK, wpAny_rule -> bL, wpAny_isInstance -> bM, wpAny_passesOwn -> bN, isSubtype_type -> bO, raiseNew -> bP, wpAny_ite_split -> bQ
open PySem.W renaming Frag -> bW, nsIn -> bc, kitOne -> bi, mg_of -> bo, mg_none_of -> bz, fnOf -> cA, excIn -> cE, kia_one -> cH, keepIn -> cM, findIn -> cg, codeIn -> cx, mroIn -> dW, hideAll -> dw, hideAll_get -> dy, exmOne -> eI, clsIn -> er, instObj -> eu, methodObj -> ew, lookIn -> fB, cellsFrom_some -> fE, OpenLaw -> fM, of_hideAll -> fm, hideAll_none -> fo, plainGet -> fu, specialIn -> fw, takesIn -> fx, kitx_list -> fy, kitx_dict -> gA, callWith_K -> gB, WalkO -> gL
open List renaming range -> bY, map -> bZ, replicate -> bh, all_map -> cD, map_map -> cF, toArray -> cJ, all_cons -> cN, append_nil -> cO, foldl -> cP, lookup_cons -> cQ, getElem_mem -> cV, mem_range -> cW, length_take -> cY, filterMap_cons -> cf, length_nil -> cj, any_cons -> cm, pairwise_cons -> cr, any_map -> cs, length_drop -> cy, replicate_succ -> cz, ext_getElem? -> dB, flatten_cons -> dG, nodup_nil -> dI, nodup_append -> dM, prefix_refl -> dN, any_eq_true -> dO, mem_filter -> dR, mem_filterMap -> dU, nodup_cons -> dX, length -> dY, append_assoc -> da, getElem?_cons_succ -> dg, not_mem_nil -> di, set_append_right -> dl, zip_cons_cons -> eD, getD -> eH, find?_cons -> eJ, take_length -> eK, filter_cons -> eM, pairwise_iff_getElem -> eP, getElem?_eq_none -> eT, getElem?_range -> eV, prefix_append -> eX, drop_zero -> eY, cons_lt_cons_iff -> em, of_mem_zip -> fD, map_congr_left -> fN, range_succ_eq_map -> fP, Pairwise -> fU, pairwise_map -> fV, take_append_drop -> fW, drop_length -> fb, ext_getElem -> fi, any_eq_false -> ft, getElem?_replicate -> gC, take_sublist -> gD, filterMap_map -> gF, map_nil -> gG, length_singleton -> gJ, nil_append -> gK, forIn_cons -> gM, isEmpty_toArray -> gQ, isEmpty_iff -> gS, countP_cons -> gW, foldl_append -> gc, take_succ -> gf, getElem?_cons_zero -> gg, mem_of_mem_drop -> gv, length_eq_zero_iff -> gw, length_eraseIdx_of_lt -> gy, getElem?_toArray -> hJ, length_pos_of_mem -> iE, length_erase_of_mem -> iF, mem_erase_of_ne -> iG, getElem?_take -> iH, getElem?_drop -> iI, map_take -> iN, map_drop -> iO, getElem?_set -> iS, drop_eq_getElem_cons -> iU, prefix_rfl -> iW, take_of_length_le -> ia, map_id -> ib, length_filter_le -> ic
open PySem.Value renaming ref -> ba, none -> bg, type -> cC, bool -> cK, builtin -> cw, int -> dP, str -> dn, isInt -> fg, isStrOf -> fh, float -> fj, notImplemented -> gE
open Array renaming length_toList -> bj, getElem?_toList -> bp, getElem?_eq_getElem -> bq, getElem?_eq_some_iff -> bx, getElem?_eq_none -> cp, getD_eq_getD_getElem? -> dJ, getD -> dL, forIn_toList -> dq, toList -> fA, mem_toList_iff -> fC, getElem?_setIfInBounds_ne -> fS, getElem?_replicate -> fY, append_assoc -> fq, perm_iff_toList_perm -> gi, foldl_toList -> iK, filterMap -> iM, toList_inj -> iQ
open PySem renaming boot_len -> bn, mem_of_lookup -> cZ, Env -> eZ, call -> fJ, Within -> fk, list_append -> gI, seqSlot_of -> gO
open Option.some renaming inj -> br, injEq -> ij
open Int renaming toNat_natCast -> bt, toNat_of_nonneg -> fQ, zero_add -> fe, emod_lt_of_pos -> iB, emod_nonneg -> iC
open Prod renaming fst -> bu, snd -> dC, ext -> dZ
open PySem.Obj renaming mapSeq -> bw, mapFields -> cI, data_mapFields -> ce, isFreed_of_fields -> db, putSet -> dj, cls_mapFields -> fO
open Nat renaming sub_self -> cB, ne_of_gt -> cG, lt_succ_of_lt -> dA, le_of_lt -> dF, le_succ -> dH, lt_succ_self -> df, add_assoc -> du, zero_add -> eL, mod_lt -> eR, le_of_lt_succ -> eU, mul_comm -> fI, le_of_eq -> fL, add_sub_cancel -> fT, not_lt -> gN, lt_trans -> gZ, not_lt_zero -> gu, succ_pos -> hX, div_div_eq_div_mul -> hZ, pow_succ -> iA, add_zero -> iD, eq_zero_or_pos -> iR, sub_zero -> iT, le_total -> iX, min_eq_left -> iY, min_eq_right -> iZ
open PySem.Str renaming empty -> cL, ofString -> cb, length -> eF
open List.Perm renaming refl -> cS, swap -> eQ, append_left -> ik, cons_inv -> im
open Bool renaming and_false -> cT, not_true -> cX, eq_iff_iff -> dE, bne_false -> dk, true_and -> dm, or_false -> eG, or_eq_true_iff -> gP, not_false -> iL
open List.cons renaming inj -> cU, injEq -> io
open Sum renaming inl -> cu, inr -> cv
open PyProof.Rows renaming callWith_type1 -> dS, slot_tuple_getitem -> eE, envOfC -> ee, callWith_builtin1 -> ie, lt_int -> ig, isnot_bool -> ii
open Array.Perm renaming refl -> dh
open Option renaming isSome_iff_exists -> dz, isNone -> eW, getD_none -> gH, isSome_some -> gT, bind -> iJ, bind_some -> iV
open PySem.F renaming slot_dict_keyiterator_next -> eN, plain_list_iadd -> eO, slot_tuple_add -> fF, entry_tuple_add -> fG, args_tuple_add_2 -> fH, plainAttrs_list -> fc, excBase_ValueError -> gU, slot_list_count -> gX, slot_list_index -> gY, slot_dict_iter -> gj, entry_dict_keyiterator_next -> gk, args_dict_keyiterator_next_1 -> gm, entry_proto_collect -> gn, plain_proto_collect -> gq, entry_list_iadd -> gr, slot_set_iter -> gz, plain_extend_loop -> hU
open List.Pairwise renaming nil -> fK, imp_of_mem -> il
open PyProof.Rows.F renaming plain_set_update_loop -> fZ, entry_set_update_loop -> iP
noncomputable section
theorem bS {c:Prop}{h:Decidable c}(j:c){α:Sort _}{t e:α}:ite c t e=t:=if_pos j
theorem bT {c:Prop}{h:Decidable c}(j:¬c){α:Sort _}{t e:α}:ite c t e=e:=if_neg j
theorem bU {p:Prop}[i:Decidable p](h:¬p):decide p=yl:=decide_eq_false h
theorem bV {p:Prop}[i:Decidable p](h:p):decide p=yo:=decide_eq_true h
namespace L2
open PySem PySem.Spec PyProof.Rows
section
abbrev Key:=Sum Int Str
def Q6e:Key->aA->Bool
 | .inl k,v=>fg k v
 | .inr x,v=>fh x v
def Qxq (w:aJ):Key->Int
 | .inl k=>hashInt k
 | .inr x=>hashStr w x
theorem Zw:∀ {k:Key} {v:aA},Q6e k v=yo->(∃ i t,k=cu i/\v=dP i t)\/(∃ x t,k=cv x/\v=dn x t)
 | .inl i,v,h=>by
  obtain ⟨t,e⟩:=Value.isInt_shape (k:=i) (v:=v) h;exact .inl ⟨i,t,rfl,e⟩
 | .inr x,v,h=>by
  obtain ⟨t,e⟩:=Value.isStrOf_shape (x:=x) (v:=v) h;exact .inr ⟨x,t,rfl,e⟩
theorem Q10 (i:Int) (t:Tok):Q6e (.inl i) (.int i t)=yo:=by simp [Q6e,fg]
theorem Q0z (x:Str) (t:Tok):Q6e (.inr x) (.str x t)=yo:=by simp [Q6e,fh]
theorem Qs2 (a b:Int):decide ((cu a:Key)=cu b)=(a == b):=by
 by_cases e:a=b
 ·subst e; simp
 ·have h:¬ (cu a:Key)=cu b:=fun q=>e (Sum.inl.inj q)
  rw [bU h];exact (beq_eq_false_iff_ne.mpr e).symm
theorem Qrz (a b:Str):decide ((cv a:Key)=cv b)=decide (a=b):=by
 by_cases e:a=b
 ·subst e; simp
 ·have h:¬ (cv a:Key)=cv b:=fun q=>e (Sum.inr.inj q)
  rw [bU h,bU e]
theorem Qs1 (a:Int) (b:Str):decide ((cu a:Key)=cv b)=yl:=bU (fun q=>nomatch q)
theorem Qs0 (a:Str) (b:Int):decide ((cv a:Key)=cu b)=yl:=bU (fun q=>nomatch q)
def Y8 (prog:aK) (w:aJ):PySem.KeyKind prog w Key where
 is:=Q6e
 hash:=Qxq w
 inj:=fun v a b ha hb=>by
  rcases Zw ha with ⟨i,t,rfl,rfl⟩ | ⟨x,t,rfl,rfl⟩
  ·rcases Zw hb with ⟨j,u,rfl,e⟩ | ⟨y,u,rfl,e⟩
   ·injection e with e1 _; rw [e1]
   ·exact nomatch e
  ·rcases Zw hb with ⟨j,u,rfl,e⟩ | ⟨y,u,rfl,e⟩
   ·exact nomatch e
   ·injection e with e1 _; rw [e1]
 byValue:=fun k v h=>by
  rcases Zw h with ⟨i,t,rfl,rfl⟩ | ⟨x,t,rfl,rfl⟩ <;> rfl
 pyHash:=fun hv h=>by
  rcases Zw hv with ⟨i,t,rfl,rfl⟩ | ⟨x,t,rfl,rfl⟩
  ·exact wpAny_pyHash_int h
  ·exact wpAny_pyHash_str h
 eqBool:=fun hu hv h=>by
  rcases Zw hu with ⟨i,t,rfl,rfl⟩ | ⟨x,t,rfl,rfl⟩
  ·rcases Zw hv with ⟨j,u,rfl,rfl⟩ | ⟨y,u,rfl,rfl⟩
   ·rw [Qs2] at h; exact wpAny_eqBool_int h
   ·rw [Qs1] at h; exact SeqAt.EqAt.int_str i t y u _ _ _ _ h
  ·rcases Zw hv with ⟨j,u,rfl,rfl⟩ | ⟨y,u,rfl,rfl⟩
   ·rw [Qs0] at h; exact SeqAt.EqAt.str_int x t j u _ _ _ _ h
   ·rw [Qrz] at h; exact wpAny_eqBool_str h
 «strs»:=fun k x t v h=>by
  rcases Zw h with ⟨i,u,rfl,e⟩ | ⟨y,u,rfl,e⟩
  ·exact nomatch e
  ·injection e with e1 _
   subst e1;cases v <;> rfl
inductive HK where
 | int (i:Int) | str (x:Str) | tup (l:List HK)
instance:DecidableEq HK:=fun _ _=>Classical.propDecidable _
mutual
def KIs (h:Heap):HK->aA->Prop
 | .int i,v=>∃ t,v=.int i t
 | .str x,v=>∃ t,v=.str x t
 | .tup l,v=>∃ a items,v=.ref a/\IsTup h a items/\KIsL h l items.toList
def KIsL (h:Heap):List HK->List aA->Prop
 | [],vs=>vs=[]
 | k :: l,vs=>∃ v r,vs=v :: r/\KIs h k v/\KIsL h l r
end
def Dp:Nat->HK->Prop
 | _,.int _=>True
 | _,.str _=>True
 | 0,.tup _=>False
 | d + 1,.tup l=>∀ k∈l,Dp d k
theorem KIsL.len {h:Heap}:∀ {l:List HK} {vs:List aA},KIsL h l vs->l.length=vs.length
 | [],_,r=>by cases r; rfl
 | k :: l,_,⟨v,r,e,_,q⟩=>by subst e; rw [D7,D7,q.len]
theorem KIsL.get {h:Heap}:∀ {l:List HK} {vs:List aA},KIsL h l vs->∀ (j:Nat) (h1:j < l.length) (h2:j < vs.length),KIs h l[j] vs[j]
 | [],_,_,j,h1,_=>by simp at h1
 | k :: l,_,⟨v,r,e,q,t⟩,0,h1,h2=>by subst e; exact q
 | k :: l,_,⟨v,r,e,q,t⟩,j + 1,h1,h2=>by subst e; exact t.get j (by simpa using h1) (by simpa using h2)
theorem KIsL.of {h h':Heap}:∀ {l:List HK} {vs:List aA},KIsL h l vs->(∀ k v,k∈l->KIs h k v->KIs h' k v)->KIsL h' l vs
 | [],_,r,_=>r
 | k :: l,_,⟨v,r,e,q,t⟩,f=>⟨v,r,e,f k v (by simp) q,t.of fun k v j=>f k v (O5 _ j)⟩
theorem KIs.keep {h h':Heap} (j:∀ a its,IsTup h a its->IsTup h' a its):∀ (d:Nat) {k:HK} {v:aA},Dp d k->KIs h k v->KIs h' k v
 | d,.int _,_,_,r=>r
 | d,.str _,_,_,r=>r
 | 0,.tup _,_,p,_=>p.elim
 | d + 1,.tup l,_,p,⟨a,its,e,i,r⟩=>⟨a,its,e,j a its i,r.of fun k v hm=>KIs.keep j d (p k hm)⟩
theorem Qgy {h:Heap} {a:aB} {x y:Array aA} (p:IsTup h a x) (q:IsTup h a y):x=y:=by
 obtain ⟨o,h1,h2,n,G⟩:=p;obtain ⟨o',j,g2,J,z⟩:=q;rw [h1] at j; cases j;rw [G] at z; cases z; rfl
theorem KIs.inj {h:Heap}:∀ (d:Nat) {x y:HK} {v:aA},Dp d x->Dp d y->KIs h x v->KIs h y v->x=y:=by
 intro d
 induction d with
 | zero=>
  intro x y v dx z p q;cases x with
  | tup l=>exact dx.elim
  | int i=>
   obtain ⟨t,rfl⟩:=p;cases y with
   | tup l=>exact z.elim
   | int j=>obtain ⟨u,e⟩:=q; cases e; rfl
   | str j=>obtain ⟨u,e⟩:=q; cases e
  | str i=>
   obtain ⟨t,rfl⟩:=p;cases y with
   | tup l=>exact z.elim
   | int j=>obtain ⟨u,e⟩:=q; cases e
   | str j=>obtain ⟨u,e⟩:=q; cases e; rfl
 | succ d G=>
  intro x y v dx z p q;cases x with
  | int i=>
   obtain ⟨t,rfl⟩:=p;cases y with
   | tup l=>obtain ⟨_,_,e,_⟩:=q; cases e
   | int j=>obtain ⟨u,e⟩:=q; cases e; rfl
   | str j=>obtain ⟨u,e⟩:=q; cases e
  | str i=>
   obtain ⟨t,rfl⟩:=p;cases y with
   | tup l=>obtain ⟨_,_,e,_⟩:=q; cases e
   | int j=>obtain ⟨u,e⟩:=q; cases e
   | str j=>obtain ⟨u,e⟩:=q; cases e; rfl
  | tup l=>
   obtain ⟨a,its,rfl,O,p2⟩:=p;cases y with
   | int j=>obtain ⟨u,e⟩:=q; cases e
   | str j=>obtain ⟨u,e⟩:=q; cases e
   | tup m=>
    obtain ⟨b,J,e,q1,q2⟩:=q;cases e;have e:=Qgy O q1;subst e;have U:=p2.len;have Y:=q2.len;congr 1;refine fi (by omega) fun j h1 h2=>?_
    exact G (dx _ (cV h1)) (z _ (cV h2)) (p2.get j h1 (by omega)) (q2.get j h2 (by omega))
theorem Qpn {α:Type} [DecidableEq α] (d:α) (xs ys:List α):((bY (min xs.length ys.length)).all (fun j=>decide (xs.getD j d=ys.getD j d)) && xs.length == ys.length)=decide (xs=ys):=by
 rw [dE];simp only [E6,E7,cW,decide_eq_true_eq,beq_iff_eq];constructor
 ·rintro ⟨h,e⟩;refine fi e fun i h1 h2=>?_
  have:=h i (by omega);simpa [E2,h1,h2] using this
 ·rintro rfl;simp
section
variable {prog:aK} {w:aJ}
mutual
def hkH (prog:aK) (w:aJ):HK->Int
 | .int i=>(Y8 prog w).hash (.inl i)
 | .str x=>(Y8 prog w).hash (.inr x)
 | .tup l=>reduceHash (Builtin.Tuple.tupleHashOf (hkHL prog w l))
def hkHL (prog:aK) (w:aJ):List HK->List Int
 | []=>[]
 | k :: l=>hkH prog w k :: hkHL prog w l
end
mutual
def hkD:HK->Nat
 | .int _=>1
 | .str _=>1
 | .tup l=>hkDL l + 1
def hkDL:List HK->Nat
 | []=>0
 | k :: l=>hkD k + hkDL l
end
theorem Qjg (l:List HK):hkHL prog w l=l.map (hkH prog w):=by
 induction l with
 | nil=>rfl
 | cons k l j=>rw [hkHL,j]; rfl
theorem Qjh (l m:List HK):hkDL (l ++ m)=hkDL l + hkDL m:=by
 induction l with
 | nil=>simp [hkDL]
 | cons k l j=>rw [List.cons_append,hkDL,hkDL,j]; omega
variable {A:aM} {E:aA->aC->Prop}
theorem Qpm (xs ys:List HK):((bY (min xs.length ys.length)).all (fun j=>decide (xs.getD j (.int 0)=ys.getD j (.int 0))) && xs.length == ys.length)=decide (xs=ys):=Qpn (.int 0) xs ys
theorem Qp2:∀ (d:Nat) {A:aM} {s:aC} {k:HK} {v:aA} {Q:Int->aC->Prop},Dp d k->A.units + d < aU->KIs s.heap k v->Q (hkH prog w k) { s with toks:=s.toks + hkD k } ->
  aF (aI prog w) A (pyHash v) Q E s:=by
 intro d
 induction d with
 | zero=>
  intro A s k v Q Z hu r q;cases k with
  | tup l=>exact Z.elim
  | int i=>obtain ⟨t,rfl⟩:=r; exact (Y8 prog w).pyHash (k:=.inl i) (Q10 i t) q
  | str i=>obtain ⟨t,rfl⟩:=r; exact (Y8 prog w).pyHash (k:=.inr i) (Q0z i t) q
 | succ d ih=>
  intro A s k v Q Z hu r q;cases k with
  | int i=>obtain ⟨t,rfl⟩:=r; exact (Y8 prog w).pyHash (k:=.inl i) (Q10 i t) q
  | str i=>obtain ⟨t,rfl⟩:=r; exact (Y8 prog w).pyHash (k:=.inr i) (Q0z i t) q
  | tup ks=>
   obtain ⟨a,a1,rfl,⟨o,ho,hc,n,hd⟩,hi⟩:=r;have hT:s.TypeIs (.ref a) "tuple" := ⟨o,ho,hc⟩;have O:A.units < aU:=by omega
   unfold pyHash;unfold pyHashByItsType;have nb:¬ (zo (cw "tuple.__hash__") == zo bg)=yo:=by rw [beq_builtin_none]; exact O7
   have sp {Q:Option aA->aC->Prop} (h:Q (zo (.builtin "tuple.__hash__")) s):aF (aI prog w) A (specialOf (.ref a) "__hash__") Q E s:=wpAny_specialOf hT F.slot_tuple_hash.lookup h;refine aD (wpAny_cRoomFor_or (.inr O) (aD (sp ?_)));show aF _ _ (if (zo (cw "tuple.__hash__") == zo bg)=yo then _ else _) _ _ _;rw [bT nb];refine aD (sp (aD (wpAny_callSpecialIfBoundUnlessNone?_slot hT F.slot_tuple_hash (ah F.slot_tuple_hash hT F.entry_tuple_hash ?_ (F.args_tuple_hash_1 _)))));show aF _ A.in1 (Builtin.Tuple.tupleItemsOf (.ref a) >>= _) _ _ s;refine aD (wpAny_tupleItemsOf ho hd (aD ?_));rw [<- dq];have Y:A.in1.units + d < aU:=by show A.units + 1 + d < aU; omega
   refine wpAny_forIn_list _ (fun rest (b:Array Int) s'=>∃ j G,ks=j ++ G/\KIsL s.heap G rest/\b.toList=j.map (hkH prog w)/\s'={ s with toks:=s.toks + hkDL j }) _ ?_ ?_ _ _ ⟨[],ks,rfl,hi,rfl,rfl⟩
   ·rintro x rest b s' ⟨j,G,rfl,J,U,rfl⟩;cases G with
    | nil=>cases J
    | cons k G=>
     obtain ⟨v,r,e,h1,h2⟩:=J;cases e;refine aD (ih (s:={ s with toks:=s.toks + hkDL j }) (Z k (by simp)) Y h1 ?_);exact wpAny_pure ⟨j ++ [k],G,by simp,h2,by simp [U],by simp [Qjh,hkDL,du]⟩
   ·rintro b s' ⟨j,G,rfl,J,U,rfl⟩;cases G with
    | cons k G=>obtain ⟨_,_,e,_⟩:=J; cases e
    | nil=>
     rw [cO] at q;show aF _ _ (retInt (Builtin.Tuple.tupleHashOf b.toList)) _ _ _;rw [U,<- Qjg];refine wpAny_ret_mkInt ?_;have q:Q (reduceHash (Builtin.Tuple.tupleHashOf (hkHL prog w j))) { s with toks:=s.toks + (hkDL j + 1) }:=q;generalize Builtin.Tuple.tupleHashOf (hkHL prog w j)=z at *;show aF _ _ (if (decide (-(2:Int) ^ 63<=z) && decide (z < 2 ^ 63))=yo then _ else _) Q E _;unfold reduceHash at q
     split
     ·rename_i hr;rw [bS hr] at q;exact wpAny_pure (by simpa [du] using q)
     ·rename_i hr;rw [bT hr] at q;exact aD (bL (wpAny_pure (by simpa [du] using q)))
theorem Qv2:∀ (d:Nat) {A:aM} {s:aC} {x y:HK} {u v:aA},Dp d x->Dp d y->A.units + d < aU->KIs s.heap x u->KIs s.heap y v->SeqAt.EqAt A s u v (decide (x=y)):=by
 intro d;have J:∀ {A:aM} {s:aC} {x y:HK} {u v:aA},(∀ l,x≠.tup l)->(∀ l,y≠.tup l)->KIs s.heap x u->KIs s.heap y v->SeqAt.EqAt A s u v (decide (x=y)):=by
  intro A s x y u v nx ny p q;cases x with
  | tup l=>exact absurd rfl (nx l)
  | int i=>
   obtain ⟨t,rfl⟩:=p;cases y with
   | tup l=>exact absurd rfl (ny l)
   | int j=>
    obtain ⟨t',rfl⟩:=q;have:=SeqAt.EqAt.int_int (A:=A) (s:=s) i t j t'
    rwa [show (i == j)=decide (HK.int i=HK.int j) by by_cases e:i=j <;> simp [e]] at this
   | str j=>
    obtain ⟨t',rfl⟩:=q;rw [bU (by simp)];exact SeqAt.EqAt.int_str _ _ _ _
  | str i=>
   obtain ⟨t,rfl⟩:=p;cases y with
   | tup l=>exact absurd rfl (ny l)
   | int j=>
    obtain ⟨t',rfl⟩:=q;rw [bU (by simp)];exact SeqAt.EqAt.str_int _ _ _ _
   | str j=>
    obtain ⟨t',rfl⟩:=q;have:=SeqAt.EqAt.str_str (A:=A) (s:=s) i t j t'
    rwa [show (i == j)=decide (HK.str i=HK.str j) by by_cases e:i=j <;> simp [e]] at this
 induction d with
 | zero=>
  intro A s x y u v dx U hu p q;exact J (fun l e=>by subst e; exact dx) (fun l e=>by subst e; exact U) p q
 | succ d ih=>
  intro A s x y u v dx U hu p q;have G:A.units < aU:=by omega
  cases x with
  | tup l=>
   obtain ⟨a,its,rfl,O,p2⟩:=p;cases y with
   | int j=>
    obtain ⟨t',rfl⟩:=q;rw [bU (by simp)];exact SeqAt.EqAt.tuple_int _ _ O G
   | str j=>
    obtain ⟨t',rfl⟩:=q;rw [bU (by simp)];exact SeqAt.EqAt.tuple_str _ _ O G
   | tup m=>
    obtain ⟨b,z,rfl,q1,q2⟩:=q
    by_cases e:a=b
    ·subst e;have e:=KIs.inj (d + 1) (h:=s.heap) dx U ⟨a,its,rfl,O,p2⟩ ⟨a,z,rfl,q1,q2⟩;rw [bV e];exact SeqAt.EqAt.same _
    ·have Y:=p2.len;have l2:=q2.len;have he:∀ j (h1:j < its.size) (h2:j < z.size),SeqAt.EqAt A.in1 s its[j] z[j] (decide (l.getD j (.int 0)=m.getD j (.int 0))):=fun j h1 h2=>by
      have k1:j < l.length:=by rw [Y,bj]; exact h1
      have k2:j < m.length:=by rw [l2,bj]; exact h2
      have e1:l.getD j (.int 0)=l[j]:=by rw [E2,O0 k1]; rfl
      have e2:m.getD j (.int 0)=m[j]:=by rw [E2,O0 k2]; rfl
      rw [e1,e2];exact ih (dx _ (cV k1)) (U _ (cV k2)) (by show A.units + 1 + d < aU; omega) (p2.get j k1 (by simpa using h1)) (q2.get j k2 (by simpa using h2))
     have Z:=SeqAt.RcAt.tuples O q1 G he;have s1:its.size=l.length:=by rw [Y,bj]
     have s2:z.size=m.length:=by rw [l2,bj]
     rw [s1,s2,Qpm] at Z;exact SeqAt.EqAt.of_refs e (by simpa using Z)
  | int i=>
   cases y with
   | tup m=>
    obtain ⟨t',rfl⟩:=p;obtain ⟨b,z,rfl,q1,q2⟩:=q;rw [bU (by simp)];exact SeqAt.EqAt.int_tuple _ _ q1 G
   | _=>exact J (by simp) (by simp) p q
  | str i=>
   cases y with
   | tup m=>
    obtain ⟨t',rfl⟩:=p;obtain ⟨b,z,rfl,q1,q2⟩:=q;rw [bU (by simp)];exact SeqAt.EqAt.str_tuple _ _ q1 G
   | _=>exact J (by simp) (by simp) p q
theorem Qjd:∀ (d:Nat) {A:aM} {s:aC} {k:HK} {v:aA} {Q:Bool->aC->Prop} (m:Nat),d < m->Dp d k->KIs s.heap k v->Q yo s->aF (aI prog w) A (eqIsQuiet m v) Q E s:=by
 intro d;have j:∀ {A:aM} {s:aC} {v:aA} {Q:Bool->aC->Prop} (m:Nat),carriedByValue v=yo->Q yo s->aF (aI prog w) A (eqIsQuiet m v) Q E s:=by
  intro A s v Q m hv q;rw [eqIsQuiet_byValue m hv];exact wpAny_pure q
 induction d with
 | zero=>
  intro A s k v Q m hm J r q;cases k with
  | tup l=>exact J.elim
  | int i=>obtain ⟨t,rfl⟩:=r; exact j m rfl q
  | str i=>obtain ⟨t,rfl⟩:=r; exact j m rfl q
 | succ d ih=>
  intro A s k v Q m hm J r q;cases k with
  | int i=>obtain ⟨t,rfl⟩:=r; exact j m rfl q
  | str i=>obtain ⟨t,rfl⟩:=r; exact j m rfl q
  | tup ks=>
   obtain ⟨a,G,rfl,⟨o,U,hc,n,hd⟩,hi⟩:=r;have Y:s.TypeIs (.ref a) "tuple" := ⟨o,U,hc⟩;obtain ⟨m,rfl⟩:∃ m',m=m' + 1:=⟨m - 1,by omega⟩;unfold eqIsQuiet;refine aD (wpAny_specialOf Y F.slot_tuple_eq.lookup ?_);show aF _ _ (isInstance (.ref a) (.type "tuple") >>= _) _ _ s;refine aD (bM Y isSubtype_tuple_tuple ?_);simp only [cX,E4,if_false];refine aD (bB U hd (aD ?_));show aF _ _ (forIn G _ _) _ _ s;rw [<- dq];refine wpAny_forIn_list _ (fun rest r s'=>r.1=zb/\s'=s/\∃ l,KIsL s.heap l rest/\∀ k∈l,k∈ks) _ ?_ ?_ _ _ ⟨rfl,rfl,ks,hi,fun _ h=>h⟩
   ·rintro v rest r s' ⟨O,rfl,l,Z,z⟩;cases l with
    | nil=>cases Z
    | cons k l=>
     obtain ⟨v',r',e,h1,h2⟩:=Z;cases e;refine aD (ih m (by omega) (J k (z k (by simp))) h1 ?_);simp only [cX,E4,if_false];exact wpAny_pure ⟨rfl,rfl,l,h2,fun x hx=>z x (O5 _ hx)⟩
   ·rintro ⟨r1,r2⟩ s' ⟨O,rfl,_⟩;simp only at O;subst O;exact wpAny_pure q
def nk (prog:aK) (w:aJ):HeapKind prog w HK where
 is:=fun h k a=>KIs h k (.ref a)/\Dp 5 k
 hash:=hkH prog w
 draws:=hkD
 room:=fun A=>A.units + 5 < aU
 inj:=fun hx hy=>KIs.inj 5 hx.2 hy.2 hx.1 hy.1
 keeps:=fun {h h' k a d o es ep} x ho hd hs=>⟨KIs.keep (fun b its ⟨ob,h1,h2,n,h3⟩=>⟨ob,(hs.2 b fun e=>by
  subst e;rw [ho] at h1; cases h1;rw [hd] at h3; cases h3).trans h1,h2,n,h3⟩) 5 x.2 x.1,x.2⟩
 pyHash:=fun hu hk h=>Qp2 5 hk.2 hu hk.1 h
 eqBool:=fun hu hx hy h=>Qv2 5 hx.2 hy.2 hu hx.1 hy.1 prog w _ _ h
 quiet:=fun hk h=>Qjd 5 8 (by decide) hk.2 hk.1 h
end
theorem Qa9 (prog:aK) (w:aJ) (i:Int) (t:Tok):(Y8 prog w).is (.inl i) (.int i t)=yo:=Q10 i t
theorem Qa8 (prog:aK) (w:aJ) (x:Str) (t:Tok):(Y8 prog w).is (.inr x) (.str x t)=yo:=Q0z x t
end
inductive V where
 | non | bl (b:Bool) | int (i:Int) | str (x:Str) | byt (b:Array UInt8) | flt (b:UInt64) | ref (a:aB) | ty (n:String)
 deriving DecidableEq
def RelV:V->aA->Prop
 | .non,u=>u=bg
 | .bl b,u=>u=cK b
 | .int i,u=>∃ t,u=dP i t
 | .str x,u=>∃ t,u=dn x t
 | .byt b,u=>∃ t,u=Value.bytes b t
 | .flt b,u=>∃ t,u=fj b t
 | .ref a,u=>u=ba a
 | .ty n,u=>u=cC n
abbrev Vals:List V->List aA->Prop:=aS RelV
theorem Vals.length {xs:List V} {j:List aA} (r:Vals xs j):xs.length=j.length:=Paired.length r
theorem Vals.get:∀ {xs:List V} {j:List aA} {i:Nat} {x:V},Vals xs j->xs[i]?=zo x->∃ u,j[i]?=zo u/\RelV x u
 | _,_,_,_,.nil,e=>by simp at e
 | _,_,0,_,.cons r _,e=>by simp at e; subst e; exact ⟨_,rfl,r⟩
 | _,_,i + 1,x,.cons _ t,e=>by
  obtain ⟨u,h1,h2⟩:=Vals.get (i:=i) (x:=x) t (by simpa using e);exact ⟨u,by simpa using h1,h2⟩
theorem Vals.set {x:V} {u:aA} (r:RelV x u):∀ {xs:List V} {j:List aA} (i:Nat),Vals xs j->Vals (xs.set i x) (j.set i u)
 | _,_,_,.nil=>.nil
 | _,_,0,.cons _ t=>.cons r t
 | _,_,i + 1,.cons q t=>.cons q (Vals.set r i t)
theorem Vals.append:∀ {xs ys:List V} {j ws:List aA},Vals xs j->Vals ys ws->Vals (xs ++ ys) (j ++ ws)
 | _,_,_,_,.nil,s=>s
 | _,_,_,_,.cons r t,s=>.cons r (Vals.append t s)
theorem Vals.take:∀ {xs:List V} {j:List aA} (n:Nat),Vals xs j->Vals (xs.take n) (j.take n)
 | _,_,0,_=>.nil
 | _,_,_ + 1,.nil=>.nil
 | _,_,n + 1,.cons r t=>.cons r (Vals.take n t)
theorem Vals.drop:∀ {xs:List V} {j:List aA} (n:Nat),Vals xs j->Vals (xs.drop n) (j.drop n)
 | _,_,0,r=>r
 | _,_,_ + 1,.nil=>.nil
 | _,_,n + 1,.cons _ t=>Vals.drop n t
def RelO:Option V->Option aA->Prop
 | some v,zo u=>RelV v u
 | none,zb=>True
 | _,_=>False
def KV {κ:Type}:List (κ × V)->List (κ × aA)->Prop:=aS fun (p:κ × V) (q:κ × aA)=>p.1=q.1/\RelV p.2 q.2
def kV:Key->V
 | .inl i=>.int i
 | .inr x=>.str x
inductive HO where
 | lst (xs:List V)
 | tup (xs:List V)
 | dK (kvs:List (Key × V)) | dT (kvs:List (HK × V))
 | set (S:Int->Bool) (n:Nat)
 | ins (C dx:aB) (fs:List (Str × V))
 | own (x:aB)
 | xd (fs:List (Str × V))
 | met (f x:aB)
 | rng (lo hi:Int)
 | frz (o:Obj) (u:HO)
 | tbl (ps:Array aA)
 | ext (φ:Heap->Prop)
abbrev Hp:=aB->Option HO
def upd (H:Hp) (a:aB) (o:HO):Hp:=fun b=>if b=a then zo o else H b
theorem Qp {H:Hp} {a:aB} {o:HO}:upd H a o a=zo o:=by unfold upd; rw [bS rfl]
theorem Qf {H:Hp} {a b:aB} {o:HO} (h:b≠a):upd H a o b=H b:=by unfold upd; rw [bT h]
theorem Quj {H:Hp} {a b:aB} {o u:HO} (h:H a=zo o) (h':H b=zo u) (d:o≠u):a≠b:=by
 intro e; subst e; rw [h] at h'; exact d (br h')
theorem Qg {H:Hp} {a b:aB} {o:HO} (h:H a=zo o) (h':H b=zb):a≠b:=by
 intro e; subst e; rw [h] at h'; cases h'
mutual
def KAt (H:Hp):HK->V->Prop
 | .int i,v=>v=.int i
 | .str x,v=>v=.str x
 | .tup l,v=>∃ a vs,v=.ref a/\H a=zo (.tup vs)/\KAtL H l vs
def KAtL (H:Hp):List HK->List V->Prop
 | [],vs=>vs=[]
 | k :: l,vs=>∃ v r,vs=v :: r/\KAt H k v/\KAtL H l r
end
mutual
theorem KAt.keep {H H':Hp} (j:∀ b xs,H b=zo (.tup xs)->H' b=zo (.tup xs)):∀ {k:HK} {v:V},KAt H k v->KAt H' k v
 | .int _,_,r=>r
 | .str _,_,r=>r
 | .tup _,_,⟨a,vs,e,h,r⟩=>⟨a,vs,e,j a vs h,KAtL.keep j r⟩
theorem KAtL.keep {H H':Hp} (j:∀ b xs,H b=zo (.tup xs)->H' b=zo (.tup xs)):∀ {l:List HK} {vs:List V},KAtL H l vs->KAtL H' l vs
 | [],_,r=>r
 | _ :: _,_,⟨v,r,e,h,t⟩=>⟨v,r,e,KAt.keep j h,KAtL.keep j t⟩
end
def KR (H:Hp) (k:HK) (b:aB):Prop:=KAt H k (.ref b)/\Dp 5 k
theorem KR.keep {H H':Hp} {k:HK} {b:aB} (r:KR H k b) (j:∀ b xs,H b=zo (.tup xs)->H' b=zo (.tup xs)):KR H' k b:=⟨r.1.keep j,r.2⟩
section
variable (P:aK) (w:aJ)
def ObjOk (H:Hp) (h:Heap) (a:aB):HO->Prop
 | .lst xs=>xs.length<=sizeLine/\∃ (its:List aA) (n:Nat),Vals xs its/\h.get? a=zo { cls:=.type "list",data:=.seq its.toArray n }
 | .tup xs=>xs.length<=sizeLine/\∃ its:List aA,Vals xs its/\IsTup h a its.toArray
 | .dK kvs=>kvs.length<=sizeLine/\(a == aq)=yl/\∃ vs,KV kvs vs/\h.DictOf (Y8 P w) a vs
 | .dT kvs=>kvs.length<=sizeLine/\(a == aq)=yl/\∃ xs:List (HK × aB × aA),
   aS (fun (p:HK × V) (q:HK × aB × aA)=>p.1=q.1/\KR H p.1 q.2.1/\RelV p.2 q.2.2) kvs xs /\
   ∃ o es ep,h.get? a=zo o/\o.ExactDict/\o.data=.dict es ep/\es.toList=xs.map (entryOfKey (nk P w))/\(xs.map (·.1)).Nodup
 | .set S n=>h.SetOf (intKind P w) a S n
 | .ins C dx fs=>H dx=zo (.own a)/\fs.length<=1000/\dx≠a/\h.get? a=zo (eu C dx) /\
   ∃ mA,h.Ns1 dx mA/\(∀ f,RelO (fs.lookup f) (mA f))/\fk mA (fs.map (·.1))
 | .own _=>∃ o,h.get? a=zo o
 | .xd fs=>∃ mA,h.Ns1 a mA/\∀ f,RelO (fs.lookup f) (mA f)
 | .rng lo hi=>∃ t u v,h.get? a=zo { cls:=.type "range",data:=.fields #[.int lo t,.int hi u,.int 1 v] }
 | .frz o u=>h.get? a=zo o/\ObjOk H h a u
 | .tbl ps=>h.get? a=zo { cls:=.none,data:=.fields ps }
 | .met f x=>h.get? a=zo (ew (.ref f) (.ref x))
 | .ext φ=>φ h/\(∃ o,h.get? a=zo o)/\∀ h1 h2:Heap,φ h1->(∀ o,h1.get? a=zo o->h2.get? a=zo o)->φ h2
def HOk (H:Hp) (h:Heap):Prop:=∀ a o,H a=zo o->ObjOk P w H h a o
end
section
variable {P:aK} {w:aJ} {H H':Hp} {h h':Heap} {a:aB} {o:HO}
theorem ObjOk.lt (x:ObjOk P w H h a o):a < h.objs.size:=by
 cases o with
 | lst xs=>obtain ⟨_,_,_,_,e⟩:=x; exact O9 e
 | tup xs=>obtain ⟨_,_,_,p⟩:=x; exact p.lt
 | dK kvs=>obtain ⟨_,_,_,_,o,_,_,e,_⟩:=x; exact O9 e
 | dT kvs=>obtain ⟨_,_,_,_,o,_,_,e,_⟩:=x; exact O9 e
 | set S n=>obtain ⟨o,_,_,_,e,_⟩:=x; exact O9 e
 | ins C dx fs=>obtain ⟨_,_,_,e,_⟩:=x; exact O9 e
 | own y=>obtain ⟨_,e⟩:=x; exact O9 e
 | xd fs=>obtain ⟨_,⟨_,_,_,e,_⟩,_⟩:=x; exact O9 e
 | rng lo hi=>obtain ⟨_,_,_,e⟩:=x; exact O9 e
 | frz ob u=>obtain ⟨e,_⟩:=x; exact O9 e
 | tbl ps=>exact O9 (show h.get? a=zo _ from x)
 | met f y=>exact O9 (show h.get? a=zo _ from x)
 | ext j=>obtain ⟨_,⟨_,e⟩,_⟩:=x; exact O9 e
theorem Paired.mapP {α β:Type} {F G:α->β->Prop}:∀ {l₁:List α} {j:List β},aS F l₁ j->(∀ a b,F a b->G a b)->aS G l₁ j
 | _,_,.nil,_=>.nil
 | _,_,.cons r t,f=>.cons (f _ _ r) (Paired.mapP t f)
theorem ObjOk.stay (x:ObjOk P w H h a o) (k:∀ b u,(b=a\/H b=zo (.own a))->h.get? b=zo u->h'.get? b=zo u)
  (J:∀ b,H b=zo (.own a)->H' b=zo (.own a)) (O:∀ b xs,H b=zo (.tup xs)->H' b=zo (.tup xs)):ObjOk P w H' h' a o:=by
 induction o with
 | lst xs=>obtain ⟨z,its,n,r,e⟩:=x; exact ⟨z,its,n,r,k _ _ (.inl rfl) e⟩
 | tup xs=>obtain ⟨z,its,r,ob,e,c⟩:=x; exact ⟨z,its,r,ob,k _ _ (.inl rfl) e,c⟩
 | dK kvs=>obtain ⟨z,y,vs,r,ob,es,ep,e,c⟩:=x; exact ⟨z,y,vs,r,ob,es,ep,k _ _ (.inl rfl) e,c⟩
 | dT kvs=>
  obtain ⟨z,y,xs,r,ob,es,ep,e,c⟩:=x;exact ⟨z,y,xs,Paired.mapP r fun p q z=>⟨z.1,z.2.1.keep O,z.2.2⟩,ob,es,ep,k _ _ (.inl rfl) e,c⟩
 | set S n=>obtain ⟨ob,es,ep,t,e,c⟩:=x; exact ⟨ob,es,ep,t,k _ _ (.inl rfl) e,c⟩
 | ins C dx fs=>
  obtain ⟨d,z,ne,e,mA,⟨j,es,ep,e2,c⟩,r⟩:=x;exact ⟨J _ d,z,ne,k _ _ (.inl rfl) e,mA,⟨j,es,ep,k _ _ (.inr d) e2,c⟩,r⟩
 | own y=>obtain ⟨ob,e⟩:=x; exact ⟨ob,k _ _ (.inl rfl) e⟩
 | xd fs=>obtain ⟨mA,⟨j,es,ep,e,c⟩,r⟩:=x; exact ⟨mA,⟨j,es,ep,k _ _ (.inl rfl) e,c⟩,r⟩
 | rng lo hi=>obtain ⟨t,u,v,e⟩:=x; exact ⟨t,u,v,k _ _ (.inl rfl) e⟩
 | frz ob u G=>obtain ⟨e,q⟩:=x; exact ⟨k _ _ (.inl rfl) e,G q⟩
 | tbl ps=>
  have e:h.get? a=zo { cls:=.none,data:=.fields ps }:=x;show h'.get? a=zo { cls:=.none,data:=.fields ps };exact k a _ (.inl rfl) e
 | met f y=>
  have e:h.get? a=zo (ew (.ref f) (.ref y)):=x;show h'.get? a=zo (ew (.ref f) (.ref y));exact k a _ (.inl rfl) e
 | ext U=>obtain ⟨p,⟨o,e⟩,st⟩:=x; exact ⟨st _ _ p fun o q=>k _ _ (.inl rfl) q,⟨o,k _ _ (.inl rfl) e⟩,st⟩
theorem HOk.lt (x:HOk P w H h) (e:H a=zo o):a < h.objs.size:=(x a o e).lt
theorem HOk.fresh (x:HOk P w H h) (e:h.objs.size<=a):H a=zb:=by
 cases q:H a with
 | none=>rfl
 | some u=>exact absurd (D0 (x.lt q) e) (G8 _)
theorem HOk.kept (x:HOk P w H h) (k:∀ b u,h.get? b=zo u->h'.get? b=zo u):HOk P w H h':=fun a o e=>
 (x a o e).stay (fun b u _ q=>k b u q) (fun _ q=>q) fun _ _ q=>q
theorem HOk.laid (x:HOk P w H h) (k:∀ b u,h.get? b=zo u->h'.get? b=zo u) (hp:h.objs.size<=a) (new:ObjOk P w (upd H a o) h' a o):HOk P w (upd H a o) h':=fun b u e=>by
 have z:=x.fresh hp
 by_cases j:b=a
 ·subst j; rw [Qp] at e; cases e; exact new
 ·rw [Qf j] at e;exact (x b u e).stay (fun c v _ q=>k c v q) (fun c q=>by rw [Qf (Qg q z)]; exact q) fun c xs q=>by rw [Qf (Qg q z)]; exact q
end
def Rd (H:Hp) (a:aB) (u:HO):Prop:=H a=zo u\/∃ o,H a=zo (.frz o u)
theorem Rd.ok {P:aK} {w:aJ} {H:Hp} {h:Heap} {a:aB} {u:HO} (r:Rd H a u) (x:HOk P w H h):ObjOk P w H h a u:=by
 rcases r with r | ⟨o,r⟩
 ·exact x a u r
 ·obtain ⟨_,q⟩:=x a _ r;exact q
def Mut:Option HO->Prop
 | some (.lst _)=>True
 | some (.dK _)=>True
 | some (.dT _)=>True
 | some (.set _ _)=>True
 | some (.ins _ _ _)=>True
 | some (.ext _)=>True
 | _=>False
section
variable {P:aK} {w:aJ} {H:Hp} {h h':Heap} {x e:aB} {o':HO}
theorem HOk.write (ok:HOk P w H h) (U:Mut (H x)) (he:e=x\/H e=zo (.own x)) (k:∀ b u,b≠e->h.get? b=zo u->h'.get? b=zo u) (Z:∃ u,h'.get? e=zo u)
  (new:ObjOk P w (upd H x o') h' x o'):HOk P w (upd H x o') h':=fun b u q=>by
 have G:∀ c y,H c=zo (.own y)->c≠x:=fun c y r z=>by subst z; rw [r] at U; exact U
 have J:∀ c xs,H c=zo (.tup xs)->c≠x:=fun c xs r z=>by subst z; rw [r] at U; exact U
 by_cases O:b=x
 ·subst O; rw [Qp] at q; cases q; exact new
 ·rw [Qf O] at q
  by_cases j:b=e
  ·have q':H b=zo (.own x):=by
    rcases he with z | z
    ·exact absurd (j.trans z) O
    ·rw [j]; exact z
   rw [q] at q'; cases q';obtain ⟨v,hv⟩:=Z;exact ⟨v,by rw [j]; exact hv⟩
  ·refine (ok b u q).stay (fun c v Y r=>k c v ?_ r) (fun c r=>by rw [Qf (G c b r)]; exact r) fun c xs r=>by rw [Qf (J c xs r)]; exact r
   rcases Y with rfl | Y
   ·exact j
   ·rintro rfl;rcases he with z | z
    ·exact G c b Y z
    ·rw [Y] at z; cases z; exact O rfl
end
structure Un (fs ex:List aB) (H H':Hp) (h h':Heap):Prop where
 keep:∀ b o,h.get? b=zo o->H b=zb->b∉fs->b∉ex->h'.get? b=zo o
 slot:∀ b o,h.get? b=zo o->H b=zb->b∈fs->b∉ex->∃ sl,h'.get? b=zo { o with slots:=sl }
 free:∀ b o,h.get? b=zo o->H b=zb->b∉ex->H' b=zb
 there:∀ b o,h.get? b=zo o->b∉ex->∃ o',h'.get? b=zo o'
 tups:∀ b xs,H b=zo (.tup xs)->H' b=zo (.tup xs)
 frzs:∀ b o u,H b=zo (.frz o u)->H' b=zo (.frz o u)
 tbls:∀ b ps,H b=zo (.tbl ps)->∃ more,H' b=zo (.tbl (ps ++ more))
section
variable {fs fs' ex ex':List aB} {H H1 H2:Hp} {h h1 h2 h':Heap} {a x e:aB} {o:HO}
theorem Un.any (u:Un fs ex H H1 h h1) {b:aB} {ob:Obj} (q:h.get? b=zo ob) (n:H b=zb) (z:b∉ex):∃ G,h1.get? b=zo { ob with slots:=G }:=by
 by_cases j:b∈fs
 ·exact u.slot b ob q n j z
 ·exact ⟨ob.slots,u.keep b ob q n j z⟩
theorem Un.kept (k:∀ b u,h.get? b=zo u->h'.get? b=zo u):Un fs ex H H h h':=
 ⟨fun b ob q _ _ _=>k b ob q,fun b ob q _ _ _=>⟨ob.slots,k b ob q⟩,fun _ _ _ n _=>n,fun b ob q _=>⟨ob,k b ob q⟩,fun _ _ q=>q,fun _ _ _ q=>q,fun _ ps q=>⟨#[],by rw [q]; simp⟩⟩
theorem Un.refl:Un fs ex H H h h:=Un.kept fun _ _ q=>q
theorem Un.laid (k:∀ b u,h.get? b=zo u->h'.get? b=zo u) (hp:h.objs.size<=a) (j:H a=zb):Un fs ex H (upd H a o) h h' where
 keep:=fun b u q _ _ _=>k b u q
 slot:=fun b u q _ _ _=>⟨u.slots,k b u q⟩
 free:=fun b u q n _=>by rw [Qf (D8 (D0 (O9 q) hp))]; exact n
 there:=fun b u q _=>⟨u,k b u q⟩
 tups:=fun b xs q=>by rw [Qf (Qg q j)]; exact q
 frzs:=fun b u xs q=>by rw [Qf (Qg q j)]; exact q
 tbls:=fun b ps q=>⟨#[],by rw [Qf (Qg q j),q]; simp⟩
theorem Un.write (G:Mut (H x)) (Y:e=x\/H e=zo (.own x)) (k:∀ b u,b≠e->h.get? b=zo u->h'.get? b=zo u) (J:∃ u,h'.get? e=zo u):Un fs ex H (upd H x o) h h':=by
 have U:∀ b,H b=zb->b≠x:=fun b n z=>by subst z; rw [n] at G; exact G
 have O:∀ b,H b=zb->b≠e:=fun b n z=>by
  subst z;rcases Y with r | r
  ·exact U b n r
  ·rw [n] at r; cases r
 have hm:∀ b u,H b=zo u->¬ Mut (zo u)->b≠x:=fun b u q nm z=>by subst z; rw [q] at G; exact nm G
 refine ⟨fun b u q n _ _=>k b u (O b n) q,fun b u q n _ _=>⟨u.slots,k b u (O b n) q⟩,fun b u q n _=>by rw [Qf (U b n)]; exact n,fun b u q _=>?_,
  fun b xs q=>by rw [Qf (hm b _ q fun z=>z)]; exact q,fun b u xs q=>by rw [Qf (hm b _ q fun z=>z)]; exact q,fun b ps q=>⟨#[],by rw [Qf (hm b _ q fun z=>z),q]; simp⟩⟩
 by_cases j:b=e
 ·subst j; exact J
 ·exact ⟨u,k b u j q⟩
end
def trk (h:Heap) (H:Hp):List aB:=(bY h.objs.size).filter fun a=>(H a).isSome
def Q8s (h:Heap) (H:Hp):Heap:=dw h (trk h H)
theorem Qg8 (h:Heap) (H:Hp):(Q8s h H).objs.size=h.objs.size:=PySem.W.hideAll_size _ _
theorem Qjj {h:Heap} {H:Hp} {b:aB} {o:Obj} (e:h.get? b=zo o) (n:H b=zb):(Q8s h H).get? b=zo o:=
 dy _ e fun hm=>by
  have q:(H b).isSome=yo:=(dR.mp hm).2;rw [n] at q; simp at q
theorem Qnd {h:Heap} {H:Hp} {b:aB} {o:Obj} (e:(Q8s h H).get? b=zo o):h.get? b=zo o/\H b=zb:=by
 have j:h.get? b=zo o:=fm (trk h H) e;refine ⟨j,?_⟩;cases q:H b with
 | none=>rfl
 | some x=>
  have hm:b∈trk h H:=dR.mpr ⟨cW.mpr (O9 j),by simp [q]⟩;have z:(Q8s h H).get? b=zb:=fo (trk h H) hm;rw [z] at e; cases e
def Qpp (g h:Heap) (L:aB):List (aB × Obj):=(bY h.objs.size).filterMap fun a=>if a=L\/(g.get? a).isSome=yo then zb else (h.get? a).map fun o=>(a,o)
def rest (g h:Heap) (L d:aB):List (aB × Obj):=(Qpp g h L).filter fun p=>decide (p.1≠d)
structure Mod (K:bW) (mg:Str->Option aA) (base:Heap):Prop where
 kin:K.In base
 glob:base.Ns aQ mg
 blt:∃ mb,base.Ns builtinsNs mb/\∀ x:Str,x≠"__name__" -> mb x=aX x
 nolimit:base.NoLimit
structure Cx where
 prog:aK
 w:aJ
 K:bW
 mg:Str->Option aA
 base:Heap
 A:aM
 N:List Str
 s₀:aC
 H₀:Hp
 env:Env
 outer:List Env
 stack:List Env
 ex:List aB
 fn:Str->Bool
 calm:Bool
 pn:List (aB × Obj)
 xe:aA->aC->Prop
def frs (l:List Env):List aB:=l.filterMap (·.frame)
abbrev Cx.fs (X:Cx):List aB:=frs X.outer
def Vis (sc:Scope) (x:Str):Prop:=sc.names.lookup x=zo .local\/sc.names.lookup x=zo .cell\/sc.names.lookup x=zo .free
def Loc (sc:Scope) (x:Str):Prop:=sc.names.lookup x=zo .local\/sc.names.lookup x=zo .cell
def Qvx (env:Env) (h:Heap) (m:Str->Option aA) (x:Str) (u:aA):Prop:=
 (env.kindOf x=zo .local/\m x=zo u)\/((env.kindOf x=zo .cell\/env.kindOf x=zo .free)/\∃ c,env.cells.lookup x=zo c/\h.IsCell c (zo u))
structure Cx.Ok (X:Cx):Prop where
 mod:Mod X.K X.mg X.base
 kind:X.env.scope.kind=.function
 glob:X.env.globals=aQ
 blt:X.env.builtins=builtinsNs
 above:X.s₀.heap.objs.size<=X.env.locals
 inj:∀ x y c,X.env.cells.lookup x=zo c->X.env.cells.lookup y=zo c->x=y
 has:∀ x,(X.env.kindOf x=zo .cell\/X.env.kindOf x=zo .free)->∃ c,X.env.cells.lookup x=zo c
 cab:∀ x c,X.fn x=yo->X.env.cells.lookup x=zo c->X.s₀.heap.objs.size<=c
 hd:X.calm=yo->X.A.handled=zb
 frames:X.A.frames=zo X.stack
 stk:X.stack=X.outer\/(X.stack=X.env :: X.outer/\X.env.frame=zo X.env.locals)
 exf:∀ b∈X.ex,b≠X.env.locals/\∀ x c,X.env.cells.lookup x=zo c->c≠b
 bs:∀ b o,X.base.get? b=zo o->X.s₀.heap.get? b=zo o/\X.H₀ b=zb
 bsz:X.base.objs.size<=X.s₀.heap.objs.size
 noex:∀ b o,X.base.get? b=zo o->b∉X.ex
 exfs:∀ b∈X.ex,b∉X.fs
 funs:X.s₀.heap.FunFrames X.base X.outer
 frf:∀ b∈X.fs,X.H₀ b=zb
structure Inv (X:Cx) (pins:List (aB × Obj)) (σ:List (Option V)) (H:Hp) (s:aC):Prop where
 ok:X.Ok
 os:s.os=X.s₀.os
 bare:AllBare s.gens
 base:Un X.fs X.ex X.H₀ H X.s₀.heap s.heap
 loc:∃ m,s.heap.Ns X.env.locals m/\∀ (i:Nat) (x:Str) (v:V),X.N[i]?=zo x->σ[i]?=zo (zo v)->Vis X.env.scope x->∃ u,RelV v u/\Qvx X.env s.heap m x u
 cell:∀ x c,X.env.cells.lookup x=zo c->∃ v,s.heap.IsCell c v
 free:H X.env.locals=zb
 freeC:∀ x c,X.env.cells.lookup x=zo c->H c=zb
 pin:∀ p∈X.pn ++ pins,s.heap.get? p.1=zo p.2/\H p.1=zb/\p.1≠X.env.locals/\p.1∉X.fs/\∀ v,p.2.data≠.cell v
 hok:HOk X.prog X.w H s.heap
 len:σ.length=X.N.length
section
variable {X:Cx} {pins:List (aB × Obj)} {σ:List (Option V)} {H H':Hp} {s:aC} {h':Heap}
theorem Cx.Ok.nofr (ok:X.Ok) {b:aB} {o:Obj} (e:X.base.get? b=zo o):b∉X.fs:=fun j=>by
 have:=(ok.funs.mem j).1;rw [e] at this; cases this
theorem Inv.bs (I:Inv X pins σ H s):∀ b o,X.base.get? b=zo o->s.heap.get? b=zo o/\H b=zb:=fun b o e=>
 ⟨I.base.keep b o (I.ok.bs b o e).1 (I.ok.bs b o e).2 (I.ok.nofr e) (I.ok.noex b o e),I.base.free b o (I.ok.bs b o e).1 (I.ok.bs b o e).2 (I.ok.noex b o e)⟩
theorem Inv.bk (I:Inv X pins σ H s):∀ b o,X.base.get? b=zo o->s.heap.get? b=zo o:=fun b o e=>(I.bs b o e).1
theorem Inv.mod (I:Inv X pins σ H s):Mod X.K X.mg X.base:=I.ok.mod
theorem Inv.kIn (I:Inv X pins σ H s):X.K.In s.heap:=I.ok.mod.kin.keeps I.bk
theorem Inv.lt (I:Inv X pins σ H s):X.env.locals < s.heap.objs.size:=let ⟨_,j,_⟩:=I.loc; j.lt
theorem Inv.sz (I:Inv X pins σ H s):X.s₀.heap.objs.size<=s.heap.objs.size:=E3 I.ok.above (dF I.lt)
theorem Inv.nofs (I:Inv X pins σ H s) {a:aB} (h:s.heap.objs.size<=a):a∉X.fs:=fun j=>by
 obtain ⟨_,o,q,_⟩:=I.ok.funs.mem j;exact absurd (D0 (O9 q) (E3 I.sz h)) (G8 _)
theorem Inv.cne (I:Inv X pins σ H s):∀ x c,X.env.cells.lookup x=zo c->c≠X.env.locals:=fun x c e z=>by
 obtain ⟨v,o,G,hd⟩:=I.cell x c e;obtain ⟨m,⟨o',es,ep,j,q,_⟩,_⟩:=I.loc;rw [z,j] at G; cases G; rw [q] at hd; cases hd
theorem Inv.funs (I:Inv X pins σ H s):s.heap.FunFrames X.base X.outer:=by
 have all:∀ (l:List Env),(∀ b∈frs l,b∈X.fs)->X.s₀.heap.FunFrames X.base l->s.heap.FunFrames X.base l:=by
  intro l
  induction l with
  | nil=>intro _ _; trivial
  | cons env r O=>
   intro hs U;obtain ⟨Z,⟨L,o,G,J,Y,hd⟩,hr⟩:=U;have q:L∈X.fs:=hs L (by unfold frs; rw [cf,G]; exact F4);obtain ⟨sl,e⟩:=I.base.slot L o Y (I.ok.frf L q) q fun z=>I.ok.exfs L z q
   exact ⟨Z,⟨L,_,G,J,e,hd⟩,O (fun b j=>hs b (by unfold frs; rw [cf,G]; exact O5 _ j)) hr⟩
 exact all X.outer (fun _ j=>j) I.ok.funs
theorem Inv.stack (I:Inv X pins σ H s):s.heap.FunFrames X.base X.stack:=by
 rcases I.ok.stk with e | ⟨e,j⟩
 ·rw [e]; exact I.funs
 ·rw [e];obtain ⟨m,q,_⟩:=I.loc;refine .cons (by rw [I.ok.kind]; decide) j q ?_ I.funs;exact Heap.get?_none_of_le (E3 I.ok.bsz I.ok.above)
theorem Inv.stkSub (I:Inv X pins σ H s):∀ b∈frs X.stack,b∈X.env.locals :: X.fs:=fun b j=>by
 rcases I.ok.stk with e | ⟨e,q⟩
 ·rw [e] at j; exact O5 _ j
 ·rw [e] at j;unfold frs at j;rw [cf,q] at j;exact j
theorem Inv.stkFree (I:Inv X pins σ H s):∀ b∈frs X.stack,H b=zb:=fun b j=>by
 rcases D5.mp (I.stkSub b j) with e | j
 ·rw [e]; exact I.free
 ·obtain ⟨_,o,q,_⟩:=I.ok.funs.mem j;exact I.base.free b o q (I.ok.frf b j) fun z=>I.ok.exfs b z j
theorem Inv.step {g':Array GenState} {t':Nat} {d':Drawn} {ch:List aB} (I:Inv X pins σ H s)
  (G:∀ b∈ch,(b∈X.ex\/X.s₀.heap.objs.size<=b)/\b≠X.env.locals/\(∀ x c,X.env.cells.lookup x=zo c->c≠b)/\∀ p∈X.pn ++ pins,p.1≠b)
  (keep:∀ b o,b≠X.env.locals->b∉X.fs->b∉ch->s.heap.get? b=zo o->H b=zb->h'.get? b=zo o)
  (slot:∀ b o,b≠X.env.locals->b∈X.fs->b∉ch->s.heap.get? b=zo o->H b=zb->∃ sl,h'.get? b=zo { o with slots:=sl }) (free:∀ b o,b∉ch->s.heap.get? b=zo o->H b=zb->H' b=zb)
  (there:∀ b o,b∉ch->s.heap.get? b=zo o->∃ o',h'.get? b=zo o')
  (tups:∀ b xs,H b=zo (.tup xs)->H' b=zo (.tup xs)) (frzs:∀ b o u,H b=zo (.frz o u)->H' b=zo (.frz o u)) (tbls:∀ b ps,H b=zo (.tbl ps)->∃ more,H' b=zo (.tbl (ps ++ more)))
  (ns:∀ m,s.heap.Ns X.env.locals m->h'.Ns X.env.locals m) (hok:HOk X.prog X.w H' h') (hg:AllBare g') :
  Inv X pins σ H' { s with heap:=h',gens:=g',drawn:=d',toks:=t' }:=by
 have a1:∀ b o,X.s₀.heap.get? b=zo o->b≠X.env.locals:=fun b o e=>D8 (D0 (O9 e) I.ok.above)
 have U:∀ b o,X.s₀.heap.get? b=zo o->b∉X.ex->b∉ch:=fun b o e j Y=>by
  rcases (G b Y).1 with z | z
  ·exact j z
  ·exact absurd (D0 (O9 e) z) (G8 _)
 have O:∀ x c,X.env.cells.lookup x=zo c->∀ v,s.heap.IsCell c v->h'.IsCell c v:=fun x c e v ⟨o,Z,hd⟩=>by
  have J:c∉ch:=fun z=>(G c z).2.2.1 x c e rfl
  by_cases hc:c∈X.fs
  ·obtain ⟨sl,q⟩:=slot c o (I.cne x c e) hc J Z (I.freeC x c e);exact ⟨_,q,hd⟩
  ·exact ⟨o,keep c o (I.cne x c e) hc J Z (I.freeC x c e),hd⟩
 refine ⟨I.ok,I.os,hg,⟨fun b o e n Y j=>?_,fun b o e n Y j=>?_,fun b o e n j=>?_,fun b o e j=>?_,fun b xs e=>tups b xs (I.base.tups b xs e),fun b o xs e=>frzs b o xs (I.base.frzs b o xs e),fun b ps e=>?_⟩,?_,fun x c e=>?_,?_,fun x c e=>?_,fun p hp=>?_,hok,I.len⟩
 ·exact keep b o (a1 b o e) Y (U b o e j) (I.base.keep b o e n Y j) (I.base.free b o e n j)
 ·obtain ⟨sl,e1⟩:=I.base.slot b o e n Y j;obtain ⟨a2,e2⟩:=slot b _ (a1 b o e) Y (U b o e j) e1 (I.base.free b o e n j);exact ⟨a2,e2⟩
 ·obtain ⟨o',e1⟩:=I.base.there b o e j;exact free b o' (U b o e j) e1 (I.base.free b o e n j)
 ·obtain ⟨o',e1⟩:=I.base.there b o e j;exact there b o' (U b o e j) e1
 ·obtain ⟨m1,e1⟩:=I.base.tbls b ps e;obtain ⟨m2,e2⟩:=tbls b _ e1;exact ⟨m1 ++ m2,by rw [e2,fq]⟩
 ·obtain ⟨m,hn,hl⟩:=I.loc;refine ⟨m,ns m hn,fun i x v e1 e2 e3=>?_⟩;obtain ⟨u,r,l⟩:=hl i x v e1 e2 e3;refine ⟨u,r,?_⟩;rcases l with l | ⟨k,c,e,z⟩
  ·exact .inl l
  ·exact .inr ⟨k,c,e,O x c e _ z⟩
 ·obtain ⟨v,z⟩:=I.cell x c e;exact ⟨v,O x c e v z⟩
 ·obtain ⟨m,⟨o,_,_,Z,_⟩,_⟩:=I.loc;exact free _ o (fun z=>(G _ z).2.1 rfl) Z I.free
 ·obtain ⟨v,o,Z,hd⟩:=I.cell x c e;exact free c o (fun z=>(G c z).2.2.1 x c e rfl) Z (I.freeC x c e)
 ·obtain ⟨e,n,ne,nf,d⟩:=I.pin p hp;have J:p.1∉ch:=fun z=>(G p.1 z).2.2.2 p hp rfl
  exact ⟨keep p.1 p.2 ne nf J e n,free p.1 p.2 J e n,ne,nf,d⟩
theorem Inv.un {t':Nat} (I:Inv X pins σ H s) (u:Un X.fs [] H H' s.heap h') (hok:HOk X.prog X.w H' h'):Inv X pins σ H' { s with heap:=h',toks:=t' }:=by
 obtain ⟨m,⟨o,es,ep,O,r⟩,_⟩:=id I.loc;obtain ⟨Z,U⟩:=u.any O I.free (by simp);exact I.step (g':=s.gens) (d':=s.drawn) (ch:=[]) (fun _ z=>nomatch z) (fun b o _ q _ e n=>u.keep b o e n q (by simp)) (fun b o _ q _ e n=>u.slot b o e n q (by simp)) (fun b o _ e n=>u.free b o e n (by simp)) (fun b o _ e=>u.there b o e (by simp)) u.tups u.frzs u.tbls (fun m' hm=>by
  obtain ⟨o',G,J,j,Y⟩:=hm;rw [O] at j; cases j;exact ⟨_,G,J,U,Y⟩) hok I.bare
theorem Inv.call {g':Array GenState} {t':Nat} {d':Drawn} {ch:List aB} (I:Inv X pins σ H s) (u:Un (frs X.stack) ch H H' s.heap h') (hok:HOk X.prog X.w H' h') (hg:AllBare g')
  (G:∀ b∈ch,(b∈X.ex\/X.s₀.heap.objs.size<=b)/\b≠X.env.locals/\(∀ x c,X.env.cells.lookup x=zo c->c≠b)/\∀ p∈X.pn ++ pins,p.1≠b) :
  Inv X pins σ H' { s with heap:=h',gens:=g',drawn:=d',toks:=t' }:=by
 obtain ⟨m,⟨o,es,ep,Y,r⟩,_⟩:=id I.loc;obtain ⟨sl,J⟩:=u.any Y I.free fun z=>(G _ z).2.1 rfl
 exact I.step (ch:=ch) G (fun b o J Z j e n=>u.keep b o e n (fun z=>(D5.mp (I.stkSub b z)).elim J Z) j) (fun b o _ _ j e n=>u.any e n j) (fun b o j e n=>u.free b o e n j) (fun b o j e=>u.there b o e j) u.tups u.frzs u.tbls (fun m' hm=>by
  obtain ⟨o',O,U,q,r'⟩:=hm;rw [Y] at q; cases q;exact ⟨_,O,U,J,r'⟩) hok hg
theorem Inv.turned {t':Nat} {it:aB} (I:Inv X pins σ H s) (k:∀ b o,b≠it->s.heap.get? b=zo o->h'.get? b=zo o) (U:H it=zb) (J:it≠X.env.locals)
  (h1:it∈X.ex\/X.s₀.heap.objs.size<=it) (h2:∀ x c,X.env.cells.lookup x=zo c->c≠it) (Z:∀ p∈X.pn ++ pins,p.1≠it):Inv X pins σ H { s with heap:=h',toks:=t' }:=by
 have G:∀ b u,H b=zo u->b≠it:=fun b u e z=>by rw [z,U] at e; cases e
 refine I.step (g':=s.gens) (d':=s.drawn) (ch:=[it]) (fun b O=>?_) (fun b o _ _ j e _=>k b o (fun z=>j (by simp [z])) e) (fun b o _ _ j e _=>⟨o.slots,k b o (fun z=>j (by simp [z])) e⟩) (fun _ _ _ _ n=>n)
  (fun b o j e=>⟨o,k b o (fun z=>j (by simp [z])) e⟩) (fun _ _ e=>e) (fun _ _ _ e=>e) (fun b ps e=>⟨#[],by rw [e]; simp⟩) (fun m hm=>?_) (fun b u e=>?_) I.bare
 ·have e:b=it:=by simpa using O
  subst e;exact ⟨h1,J,h2,Z⟩
 ·obtain ⟨o,es,ep,Y,r⟩:=hm;exact ⟨o,es,ep,k _ o (Ne.symm J) Y,r⟩
 ·refine (I.hok b u e).stay (fun c v j q=>k c v ?_ q) (fun _ q=>q) fun _ _ q=>q
  rcases j with z | z
  ·rw [z]; exact G b u e
  ·exact G c _ z
theorem Inv.tok (I:Inv X pins σ H s) (t:Nat):Inv X pins σ H { s with toks:=t }:=I.un (h':=s.heap) (t':=t) Un.refl I.hok
theorem Inv.kept {t':Nat} (I:Inv X pins σ H s) (k:∀ b u,s.heap.get? b=zo u->h'.get? b=zo u):Inv X pins σ H { s with heap:=h',toks:=t' }:=I.un (Un.kept k) (I.hok.kept k)
theorem Inv.laid {a:aB} {o:HO} {t':Nat} (I:Inv X pins σ H s) (k:∀ b u,s.heap.get? b=zo u->h'.get? b=zo u) (hp:s.heap.objs.size<=a) (new:ObjOk X.prog X.w (upd H a o) h' a o) :
  Inv X pins σ (upd H a o) { s with heap:=h',toks:=t' }:=I.un (Un.laid k hp (I.hok.fresh hp)) (I.hok.laid k hp new)
theorem Inv.write {x e:aB} {o:HO} {t':Nat} (I:Inv X pins σ H s) (q:Mut (H x)) (z:e=x\/H e=zo (.own x)) (k:∀ b u,b≠e->s.heap.get? b=zo u->h'.get? b=zo u) (j:∃ u,h'.get? e=zo u)
  (new:ObjOk X.prog X.w (upd H x o) h' x o):Inv X pins σ (upd H x o) { s with heap:=h',toks:=t' }:=I.un (Un.write q z k j) (I.hok.write q z k j new)
theorem Inv.pins_of {pins':List (aB × Obj)} (I:Inv X pins σ H s) (h:∀ p∈pins',s.heap.get? p.1=zo p.2/\H p.1=zb/\p.1≠X.env.locals/\p.1∉X.fs/\∀ v,p.2.data≠.cell v):Inv X pins' σ H s:=
 ⟨I.ok,I.os,I.bare,I.base,I.loc,I.cell,I.free,I.freeC,fun p hp=>(E8.mp hp).elim (fun z=>I.pin p (G6 _ z)) (h p),I.hok,I.len⟩
theorem Q48 {N:List Str} (q:N.Nodup) {i j:Nat} {x:Str} (a:N[i]?=zo x) (b:N[j]?=zo x):i=j:=by
 obtain ⟨h1,e1⟩:=O1.mp a;obtain ⟨h2,e2⟩:=O1.mp b;exact (List.getElem_inj q).mp (e1.trans e2.symm)
theorem Q5v {M:Model} {A:aM} {E:aA->aC->Prop} {i:Nat} {x:Str} {v:V} {u:aA} {Q:Unit->aC->Prop} (I:Inv X pins σ H s) (hN:X.N.Nodup) (hi:X.N[i]?=zo x) (O:Loc X.env.scope x) (r:RelV v u)
  (h:∀ s',Inv X pins (σ.set i (zo v)) H s'->(∃ a,Heap.SameBut a s.heap s'.heap/\(a=X.env.locals\/X.env.cells.lookup x=zo a))->Q () s') (hf:X.fn x=yo\/X.env.scope.names.lookup x=zo .local:=by first | exact .inl rfl | exact .inr rfl | assumption):aF M A (storeName X.env x u) Q E s:=by
 obtain ⟨m,hn,hl⟩:=id I.loc;have a3:(X.env.scope.kind == .class || (X.env.scope.kind == .module && X.env.locals != X.env.globals))=yl:=by rw [I.ok.kind]; rfl
 have Y:i < σ.length:=by rw [I.len]; exact (O1.mp hi).1
 have cne:=I.cne;have G:∀ {a:aB} {h':Heap},(∃ o,s.heap.get? a=zo o/\H a=zb)->Heap.SameBut a s.heap h'->HOk X.prog X.w H h':=fun {a h'} ha hs b ob e=>by
  obtain ⟨_,_,U⟩:=ha;refine (I.hok b ob e).stay (fun c w' J q=>(hs.2 c ?_).trans q) (fun _ q=>q) fun _ _ q=>q
  rintro rfl;rcases J with rfl | J
  ·rw [U] at e; cases e
  ·rw [U] at J; cases J
 rcases O with Z | Z
 ·refine wpAny_storeName_local Z hn (fun h' a7 hs=>?_) a3;obtain ⟨oL,_,_,a8,_⟩:=id hn;refine h _ ⟨I.ok,I.os,I.bare,⟨fun b o e n hb O=>?_,fun b o e n hb O=>?_,I.base.free,fun b o e O=>?_,I.base.tups,I.base.frzs,I.base.tbls⟩,⟨_,a7,fun j y v' e1 e2 e3=>?_⟩,fun y c e=>?_,I.free,I.freeC,fun p hp=>?_,G ⟨oL,a8,I.free⟩ hs,by simpa using I.len⟩ ⟨_,hs,.inl rfl⟩
  ·exact (hs.2 b (D8 (D0 (O9 e) I.ok.above))).trans (I.base.keep b o e n hb O)
  ·obtain ⟨sl,e1⟩:=I.base.slot b o e n hb O;exact ⟨sl,(hs.2 b (D8 (D0 (O9 e) I.ok.above))).trans e1⟩
  ·obtain ⟨o',e1⟩:=I.base.there b o e O;exact ⟨o',(hs.2 b (D8 (D0 (O9 e) I.ok.above))).trans e1⟩
  ·by_cases hj:j=i
   ·subst hj;rw [hi] at e1; cases e1;rw [F3 Y] at e2;cases e2;exact ⟨u,r,.inl ⟨Z,by simp⟩⟩
   ·rw [F2 (Ne.symm hj)] at e2;obtain ⟨u',r',q⟩:=hl j y v' e1 e2 e3;refine ⟨u',r',?_⟩;rcases q with ⟨k,e⟩ | ⟨k,c,e,z⟩
    ·refine .inl ⟨k,?_⟩;have:y≠x:=fun e=>hj (Q48 hN e1 (e ▸ hi))
     simp [this,e]
    ·exact .inr ⟨k,c,e,z.sameBut hs (cne y c e)⟩
  ·obtain ⟨w',z⟩:=I.cell y c e;exact ⟨w',z.sameBut hs (cne y c e)⟩
  ·obtain ⟨e,n,ne,nf,d⟩:=I.pin p hp;exact ⟨(hs.2 p.1 ne).trans e,n,ne,nf,d⟩
 ·have a1:X.fn x=yo:=by
   rcases hf with z | z
   ·exact z
   ·rw [z] at Z; cases Z
  obtain ⟨c,J⟩:=I.ok.has x (.inl Z);obtain ⟨w',z⟩:=I.cell x c J;refine wpAny_storeName_cell I.ok.kind Z J z (fun h' a5 hs=>?_);obtain ⟨oc,a6,a2⟩:=id z;refine h { s with heap:=h' } ⟨I.ok,I.os,I.bare,⟨fun b o e n hb O=>?_,fun b o e n hb O=>?_,I.base.free,fun b o e O=>?_,I.base.tups,I.base.frzs,I.base.tbls⟩,⟨m,hn.sameBut hs (Ne.symm (cne x c J)),fun j y v' e1 e2 e3=>?_⟩,fun y c' e=>?_,I.free,I.freeC,fun p hp=>?_,G ⟨oc,a6,I.freeC x c J⟩ hs,by simpa using I.len⟩ ⟨c,hs,.inr J⟩
  ·exact (hs.2 b (D8 (D0 (O9 e) (I.ok.cab x c a1 J)))).trans (I.base.keep b o e n hb O)
  ·obtain ⟨sl,e1⟩:=I.base.slot b o e n hb O;exact ⟨sl,(hs.2 b (D8 (D0 (O9 e) (I.ok.cab x c a1 J)))).trans e1⟩
  ·obtain ⟨o',e1⟩:=I.base.there b o e O;exact ⟨o',(hs.2 b (D8 (D0 (O9 e) (I.ok.cab x c a1 J)))).trans e1⟩
  ·by_cases hj:j=i
   ·subst hj;rw [hi] at e1; cases e1;rw [F3 Y] at e2;cases e2;exact ⟨u,r,.inr ⟨.inl Z,c,J,a5⟩⟩
   ·rw [F2 (Ne.symm hj)] at e2;obtain ⟨u',r',q⟩:=hl j y v' e1 e2 e3;refine ⟨u',r',?_⟩;rcases q with q | ⟨k,c',e,z'⟩
    ·exact .inl q
    ·refine .inr ⟨k,c',e,z'.sameBut hs ?_⟩;rintro rfl;exact hj (Q48 hN e1 (I.ok.inj _ _ _ e J ▸ hi))
  ·by_cases a4:c'=c
   ·subst a4; exact ⟨_,a5⟩
   ·obtain ⟨w2,z2⟩:=I.cell y c' e;exact ⟨w2,z2.sameBut hs a4⟩
  ·obtain ⟨e,n,ne,nf,d⟩:=I.pin p hp;refine ⟨(hs.2 p.1 ?_).trans e,n,ne,nf,d⟩;intro q;rw [q,a6] at e;have q':oc=p.2:=br e;exact d w' (by rw [<- q']; exact a2)
theorem Q2n {M:Model} {A:aM} {E:aA->aC->Prop} {i:Nat} {x:Str} {v:V} {u:aA} {Q:Unit->aC->Prop} (I:Inv X pins σ H s) (z:X.N.Nodup) (hi:X.N[i]?=zo x) (G:Loc X.env.scope x) (r:RelV v u)
  (h:∀ s',Inv X pins (σ.set i (zo v)) H s'->Q () s') (q:X.fn x=yo\/X.env.scope.names.lookup x=zo .local:=by first | exact .inl rfl | exact .inr rfl | assumption):aF M A (storeName X.env x u) Q E s:=
 Q5v I z hi G r (fun s' j _=>h s' j) q
theorem Inv.call' {s':aC} {ch:List aB} (I:Inv X pins σ H s) (z:s'.os=s.os) (u:Un (frs X.stack) ch H H' s.heap s'.heap) (hok:HOk X.prog X.w H' s'.heap) (q:AllBare s'.gens)
  (j:∀ b∈ch,(b∈X.ex\/X.s₀.heap.objs.size<=b)/\b≠X.env.locals/\(∀ x c,X.env.cells.lookup x=zo c->c≠b)/\∀ p∈X.pn ++ pins,p.1≠b):Inv X pins σ H' s':=by
 obtain ⟨h',g',d',t',o'⟩:=s';have e:o'=s.os:=z;subst e;exact I.call (g':=g') (t':=t') (d':=d') u hok q j
end
abbrev XK:=aA->Option aB->Hp->Prop
abbrev St:=List (Option V)
abbrev VK:=V->Hp->Prop
abbrev TE:=St->Hp->VK->Prop
abbrev TT:=St->Hp->(Bool->Hp->Prop)->Prop
abbrev TA:=St->Hp->(List V->Hp->Prop)->Prop
structure Ends where
 nx:St->Hp->Prop
 rt:VK
 bk:St->Hp->Prop:=fun _ _=>False
 ct:St->Hp->Prop:=fun _ _=>False
abbrev TS:=Ends->St->Hp->Prop
def EP (X:Cx) (pins:List (aB × Obj)) (σ:St) (Q:VK) (u:aA) (s':aC):Prop:=∃ v H',Inv X pins σ H' s'/\RelV v u/\Q v H'
def TP (X:Cx) (pins:List (aB × Obj)) (σ:St) (Q:Bool->Hp->Prop) (b:Bool) (s':aC):Prop:=∃ H',Inv X pins σ H' s'/\Q b H'
def AP (X:Cx) (pins:List (aB × Obj)) (σ:St) (Q:List V->Hp->Prop) (us:List aA) (s':aC):Prop:=∃ vs H',Inv X pins σ H' s'/\Vals vs us/\Q vs H'
def SP (X:Cx) (pins:List (aB × Obj)) (D:Ends) (f:Flow) (s':aC):Prop:=
 match f with
 | .next=>∃ σ' H',Inv X pins σ' H' s'/\D.nx σ' H'
 | .brk=>∃ σ' H',Inv X pins σ' H' s'/\D.bk σ' H'
 | .cont=>∃ σ' H',Inv X pins σ' H' s'/\D.ct σ' H'
 | .ret u=>∃ v σ' H',Inv X pins σ' H' s'/\RelV v u/\D.rt v H'
def PE (X:Cx) (e:aH) (t:TE):Prop:=
 ∀ (pins:List (aB × Obj)) (s:aC) (σ:St) (H:Hp) (Q:VK),Inv X pins σ H s->t σ H Q->aF (aI X.prog X.w) X.A (aP e X.env) (EP X pins σ Q) X.xe s
def PT (X:Cx) (e:aH) (t:TT):Prop:=
 ∀ (pins:List (aB × Obj)) (s:aC) (σ:St) (H:Hp) (Q:Bool->Hp->Prop),Inv X pins σ H s->t σ H Q->aF (aI X.prog X.w) X.A (isTrue e X.env (aP e X.env)) (TP X pins σ Q) X.xe s
def PW (X:Cx) (e:aH) (t:TT):Prop:=
 ∀ (whole:Sem aA) (pins:List (aB × Obj)) (s:aC) (σ:St) (H:Hp) (Q:Bool->Hp->Prop),Inv X pins σ H s->t σ H Q->aF (aI X.prog X.w) X.A (isTrue e X.env whole) (TP X pins σ Q) X.xe s
theorem PW.pt {X:Cx} {e:aH} {t:TT} (h:PW X e t):PT X e t:=h _
def PA (X:Cx) (es:List aH) (t:TA):Prop:=
 ∀ (pos:Pos) (pins:List (aB × Obj)) (s:aC) (σ:St) (H:Hp) (Q:List V->Hp->Prop),Inv X pins σ H s->t σ H Q->aF (aI X.prog X.w) X.A (spliced (aY pos (aN es X.env))) (AP X pins σ Q) X.xe s
def PS (X:Cx) (st:aL) (t:TS):Prop:=
 ∀ (pins:List (aB × Obj)) (s:aC) (σ:St) (H:Hp) (D:Ends),Inv X pins σ H s->t D σ H->aF (aI X.prog X.w) X.A (exec st X.env) (SP X pins D) X.xe s
def PSs (X:Cx) (st:List aL) (t:TS):Prop:=
 ∀ (pins:List (aB × Obj)) (s:aC) (σ:St) (H:Hp) (D:Ends),Inv X pins σ H s->t D σ H->aF (aI X.prog X.w) X.A (execs st X.env) (SP X pins D) X.xe s
theorem thn {α:Type} {t:Sem α} {Q j:α->aC->Prop} {M:Model} {A:aM} {E:aA->aC->Prop} {s:aC} (h:aF M A t Q E s) (q:∀ a s,Q a s->j a s):aF M A t j E s:=ar h q fun _ _ x=>x
section
variable {X:Cx}
def Qtc (i:Nat):TE:=fun σ H Q=>∃ v,σ[i]?=zo (zo v)/\Q v H
def tC (v:V):TE:=fun _ H Q=>Q v H
theorem Qi6 {i:Nat} {x:Str} {pos:Pos} (J:X.N[i]?=zo x) (Y:Vis X.env.scope x) (hd:(x == ("__debug__" : Str))=yl:=by decide) (z:(x == ("__classdict__" : Str))=yl:=by decide):PE X (.Name x pos) (Qtc i):=by
 intro pins s σ H Q I h;obtain ⟨v,e,h⟩:=h;obtain ⟨m,O,U⟩:=I.loc;obtain ⟨u,r,l⟩:=U i x v J e Y;have fin:EP X pins σ Q u s:=⟨v,H,I,r,h⟩;rcases l with ⟨q,hm⟩ | ⟨q,c,G,j⟩
 ·exact wpAny_Name (wpAny_loadName_local I.ok.kind q O hm fin) hd
 ·rcases q with q | q
  ·exact wpAny_Name (wpAny_loadName_cell I.ok.kind q G j fin) hd
  ·exact wpAny_Name (wpAny_loadName_free I.ok.kind q G j fin z) hd
theorem Qi9 {i j pos}:PE X (.Constant (.int i) j pos) (tC (.int i)):=fun _ _ _ H _ I h=>wpAny_Constant_int ⟨.int i,H,I.tok _,⟨_,rfl⟩,h⟩
theorem Qid {b j pos}:PE X (.Constant (.bool b) j pos) (tC (.bl b)):=fun _ _ _ H _ I h=>Constant_bool ⟨.bl b,H,I,rfl,h⟩
theorem Qc1 {j pos}:PE X (.Constant .none j pos) (tC .non):=fun _ _ _ H _ I h=>Constant_none ⟨.non,H,I,rfl,h⟩
theorem Q7r {x j pos}:PE X (.Constant (.str x) j pos) (tC (.str x)):=fun _ _ _ H _ I h=>Calls.Constant_str ⟨.str x,H,I.tok _,⟨_,rfl⟩,h⟩
def Gl (X:Cx) (x:Str):Prop:=X.env.kindOf x=zo .globalImplicit
theorem Q01 {E:aA->aC->Prop} {pins:List (aB × Obj)} {s:aC} {σ:St} {H:Hp} {x:Str} {u:aA} {pos:Pos} {Q:aA->aC->Prop} (I:Inv X pins σ H s) (j:Gl X x) (hm:X.mg x=zo u) (h:Q u s)
  (hd:(x == ("__debug__" : Str))=yl:=by decide):aF (aI X.prog X.w) X.A (aP (.Name x pos) X.env) Q E s:=
 Calls.Name_function_global I.ok.kind j (Calls.loadGlobal_global (by rw [I.ok.glob]; exact I.mod.glob.keeps I.bk) hm h) hd
theorem yk {E:aA->aC->Prop} {pins:List (aB × Obj)} {s:aC} {σ:St} {H:Hp} {x:Str} {u:aA} {pos:Pos} {Q:aA->aC->Prop} (I:Inv X pins σ H s) (q:Gl X x) (hm:X.mg x=zb) (j:aX x=zo u) (h:Q u s)
  (z:x≠"__name__" := by decide) (hd:(x == ("__debug__" : Str))=yl:=by decide):aF (aI X.prog X.w) X.A (aP (.Name x pos) X.env) Q E s:=by
 obtain ⟨mb,h1,h2⟩:=I.mod.blt;exact Calls.Name_function_global I.ok.kind q (Calls.loadGlobal_builtin (by rw [I.ok.glob]; exact I.mod.glob.keeps I.bk) hm (by rw [I.ok.blt]; exact h1.keeps I.bk) ((h2 x z).trans j) h) hd
theorem Zr {x:Str} {v:V} {u:aA} {pos:Pos} (j:Gl X x) (hm:X.mg x=zo u) (r:RelV v u) (hd:(x == ("__debug__" : Str))=yl:=by decide):PE X (.Name x pos) (tC v):=
 fun _ _ _ H _ I h=>Q01 I j hm ⟨v,H,I,r,h⟩ hd
theorem Qdm {x:Str} {v:V} {u:aA} {pos:Pos} (q:Gl X x) (hm:X.mg x=zb) (j:aX x=zo u) (r:RelV v u) (z:x≠"__name__" := by decide) (hd:(x == ("__debug__" : Str))=yl:=by decide):PE X (.Name x pos) (tC v):=
 fun _ _ _ H _ I h=>yk I q hm j ⟨v,H,I,r,h⟩ z hd
variable {a b:aH} {ta tb:TE} {pos:Pos}
def tB (t:TE):TT:=fun σ H Q=>t σ H fun x H1=>∃ c,x=.bl c/\Q c H1
theorem Qhv {e:aH} {t:TE} (h:PE X e t) (z:∀ j,isTrue e X.env j=(do let v <- j; standAt e.pos; au [v] (truthy v)):=by intro _; rfl):PT X e (tB t):=by
 intro pins s σ H Q I G;refine isTrue_plain (thn (h pins s σ H _ I G) fun v s1 ⟨x,H1,O,J,q1⟩=>?_) (z _)
 obtain ⟨d,rfl,q⟩:=q1;cases J;exact bA ⟨H1,O,q⟩
variable {tA tB':TT} {rest:List aH}
def Qx7 (t u:TT):TT:=fun σ H Q=>t σ H fun c H1=>if c=yo then u σ H1 Q else Q yl H1
def tOr (t u:TT):TT:=fun σ H Q=>t σ H fun c H1=>if c=yo then Q yo H1 else u σ H1 Q
def Qx5 (t:TT):TT:=fun σ H Q=>t σ H fun c H1=>Q (!c) H1
theorem Qmm (j:PT X a tA):PW X (.BoolOp .And [a] pos) tA:=by
 intro q pins s σ H Q I h;refine isTrue_and (thn (j pins s σ H Q I h) fun c s1 e=>?_)
 cases c with
 | true=>exact isTrue_and_nil e
 | false=>exact e
theorem Qhs (j:PT X a tA):PW X (.BoolOp .Or [a] pos) tA:=by
 intro q pins s σ H Q I h;refine isTrue_or (thn (j pins s σ H Q I h) fun c s1 e=>?_)
 cases c with
 | false=>exact isTrue_or_nil e
 | true=>exact e
theorem Qqx (q:PT X a tA) (z:PW X (.BoolOp .And (b :: rest) pos) tB'):PW X (.BoolOp .And (a :: b :: rest) pos) (Qx7 tA tB'):=by
 intro G pins s σ H Q I h;refine isTrue_and (thn (q pins s σ H _ I h) fun c s1 ⟨H1,j,q1⟩=>?_)
 cases c with
 | true=>exact z G pins s1 σ H1 Q j q1
 | false=>exact ⟨H1,j,q1⟩
theorem Qq1 (q:PT X a tA) (z:PW X (.BoolOp .Or (b :: rest) pos) tB'):PW X (.BoolOp .Or (a :: b :: rest) pos) (tOr tA tB'):=by
 intro G pins s σ H Q I h;refine isTrue_or (thn (q pins s σ H _ I h) fun c s1 ⟨H1,j,q1⟩=>?_)
 cases c with
 | true=>exact ⟨H1,j,q1⟩
 | false=>exact z G pins s1 σ H1 Q j q1
theorem Qhw (j:PT X a tA):PT X (.UnaryOp .Not a pos) (Qx5 tA):=by
 intro pins s σ H Q I h;exact isTrue_not (j pins s σ H (fun c H1=>Q (!c) H1) I h)
def Qtp (ta tb:TE):TE:=fun σ H Q=>ta σ H fun x H1=>∃ c,x=.bl c/\if c=yo then tb σ H1 Q else Q (.bl yl) H1
def Qx4 (ta tb:TE):TE:=fun σ H Q=>ta σ H fun x H1=>∃ c,x=.bl c/\if c=yo then Q (.bl yo) H1 else tb σ H1 Q
def Qth (ta:TE):TE:=fun σ H Q=>ta σ H fun x H1=>∃ c,x=.bl c/\Q (.bl (!c)) H1
theorem Qr6 {op} {t:TE} (h:PE X a t):PE X (.BoolOp op [a] pos) t:=fun pins s σ H Q I j=>BoolOp_one (h pins s σ H Q I j)
theorem Qr8 (q:PE X a ta) (z:PE X (.BoolOp .And (b :: rest) pos) tb):PE X (.BoolOp .And (a :: b :: rest) pos) (Qtp ta tb):=by
 intro pins s σ H Q I h;refine BoolOp_and (thn (q pins s σ H _ I h) fun v s1 ⟨x,H1,j,G,q1⟩=>?_)
 obtain ⟨c,rfl,q1⟩:=q1;cases G;refine bA ?_;cases c with
 | true=>exact z pins s1 σ H1 Q j q1
 | false=>exact ⟨.bl yl,H1,j,rfl,q1⟩
theorem Qu4 (q:PE X a ta) (z:PE X (.BoolOp .Or (b :: rest) pos) tb):PE X (.BoolOp .Or (a :: b :: rest) pos) (Qx4 ta tb):=by
 intro pins s σ H Q I h;refine BoolOp_or (thn (q pins s σ H _ I h) fun v s1 ⟨x,H1,j,G,q1⟩=>?_)
 obtain ⟨c,rfl,q1⟩:=q1;cases G;refine bA ?_;cases c with
 | false=>exact z pins s1 σ H1 Q j q1
 | true=>exact ⟨.bl yo,H1,j,rfl,q1⟩
theorem Qr7 (j:PE X a ta):PE X (.UnaryOp .Not a pos) (Qth ta):=by
 intro pins s σ H Q I h;refine UnaryOp_ (thn (j pins s σ H _ I h) fun v s1 ⟨x,H1,z,q,q1⟩=>?_)
 obtain ⟨c,rfl,q1⟩:=q1;cases q;exact not_of (bA ⟨.bl (!c),H1,z,rfl,q1⟩)
end
def SqL (K:bW) (H:Hp) (a:aB) (xs:List V):Prop:=
 Rd H a (.lst xs) \/
  ∃ (o:Obj) (its:Array aA) (n:Nat),K.lookup a=zo o/\o.cls=.type "list" /\ o.dict=zb/\o.data=.seq its n/\its.size<=sizeLine/\Vals xs its.toList
def SqT (K:bW) (H:Hp) (a:aB) (xs:List V):Prop:=
 Rd H a (.tup xs) \/
  ∃ (o:Obj) (its:Array aA) (n:Nat),K.lookup a=zo o/\o.cls=.type "tuple" /\ o.data=.seq its n/\its.size<=sizeLine/\Vals xs its.toList
def Qxz:aA->Option V
 | .none=>zo .non
 | .bool b=>zo (.bl b)
 | .int i _=>zo (.int i)
 | .str x _=>zo (.str x)
 | .bytes b _=>zo (.byt b)
 | .float b _=>zo (.flt b)
 | .ref a=>zo (.ref a)
 | .type n=>zo (.ty n)
 | _=>zb
theorem RelV.abs {x:V} {u:aA} (r:RelV x u):Qxz u=zo x:=by
 cases x with
 | non=>cases r; rfl
 | bl _=>cases r; rfl
 | int _=>obtain ⟨t,rfl⟩:=r; rfl
 | str _=>obtain ⟨t,rfl⟩:=r; rfl
 | byt _=>obtain ⟨t,rfl⟩:=r; rfl
 | flt _=>obtain ⟨t,rfl⟩:=r; rfl
 | ref _=>cases r; rfl
 | ty _=>cases r; rfl
theorem RelV.inj {x y:V} {u:aA} (r:RelV x u) (q:RelV y u):x=y:=br (r.abs.symm.trans q.abs)
theorem Vals.inj:∀ {xs ys:List V} {j:List aA},Vals xs j->Vals ys j->xs=ys
 | _,_,_,.nil,.nil=>rfl
 | _,_,_,.cons r t,.cons q t'=>by rw [r.inj q,Vals.inj t t']
section
variable {X:Cx} {pins:List (aB × Obj)} {σ:St} {H:Hp} {s:aC} {a:aB} {xs ys:List V}
theorem SqL.of {K:bW} (h:H a=zo (.lst xs)):SqL K H a xs:=.inl (.inl h)
theorem SqT.of {K:bW} (h:H a=zo (.tup xs)):SqT K H a xs:=.inl (.inl h)
theorem Inv.list (I:Inv X pins σ H s) (h:SqL X.K H a xs):∃ its:List aA,Vals xs its/\PlainL s.heap a its.toArray/\xs.length<=sizeLine:=by
 rcases h with h | ⟨o,its,n,j,q,hd,hs,hz,r⟩
 ·obtain ⟨z,its,n,r,e⟩:=h.ok I.hok;exact ⟨its,r,⟨_,n,e,rfl,rfl,rfl⟩,z⟩
 ·refine ⟨its.toList,r,⟨o,n,I.kIn a o j,q,hd,by simpa using hs⟩,?_⟩;have e:=r.length;simp only [bj] at e;omega
theorem Inv.tuple (I:Inv X pins σ H s) (h:SqT X.K H a xs):∃ its:List aA,Vals xs its/\IsTup s.heap a its.toArray/\xs.length<=sizeLine:=by
 rcases h with h | ⟨o,its,n,j,q,hs,hz,r⟩
 ·obtain ⟨z,its,r,p⟩:=h.ok I.hok;exact ⟨its,r,p,z⟩
 ·refine ⟨its.toList,r,⟨o,I.kIn a o j,q,n,by simpa using hs⟩,?_⟩;have e:=r.length;simp only [bj] at e;omega
theorem Inv.list_inj (I:Inv X pins σ H s) (h:SqL X.K H a xs) (h':SqL X.K H a ys):xs=ys:=by
 obtain ⟨its,r,⟨o,n,e,_,_,d⟩,_⟩:=I.list h;obtain ⟨its',z,⟨o',G,j,_,_,d'⟩,_⟩:=I.list h';rw [e] at j; cases j;rw [d] at d';injection d' with q _
 have:its=its':=by simpa using congrArg fA q
 subst this;exact r.inj z
theorem Inv.tuple_inj (I:Inv X pins σ H s) (h:SqT X.K H a xs) (h':SqT X.K H a ys):xs=ys:=by
 obtain ⟨its,r,⟨o,e,_,n,d⟩,_⟩:=I.tuple h;obtain ⟨its',z,⟨o',j,_,G,d'⟩,_⟩:=I.tuple h';rw [e] at j; cases j;rw [d] at d';injection d' with q _
 have:its=its':=by simpa using congrArg fA q
 subst this;exact r.inj z
end
abbrev Cx.wish (X:Cx) (E:aA->aC->Prop):Cx:={ X with xe:=E }
abbrev Cx.nox (X:Cx):Cx:=X.wish fun _ _=>False
theorem Cx.Ok.wish {X:Cx} (ok:X.Ok) (E:aA->aC->Prop):(X.wish E).Ok:=
 ⟨ok.mod,ok.kind,ok.glob,ok.blt,ok.above,ok.inj,ok.has,ok.cab,ok.hd,ok.frames,ok.stk,ok.exf,ok.bs,ok.bsz,ok.noex,ok.exfs,ok.funs,ok.frf⟩
theorem Cx.Ok.unwish {X:Cx} {E:aA->aC->Prop} (ok:(X.wish E).Ok):X.Ok:=
 ⟨ok.mod,ok.kind,ok.glob,ok.blt,ok.above,ok.inj,ok.has,ok.cab,ok.hd,ok.frames,ok.stk,ok.exf,ok.bs,ok.bsz,ok.noex,ok.exfs,ok.funs,ok.frf⟩
section
variable {X:Cx} {pins:List (aB × Obj)} {σ:St} {H:Hp} {s:aC} {E:aA->aC->Prop}
theorem Inv.wish (I:Inv X pins σ H s) (E:aA->aC->Prop):Inv (X.wish E) pins σ H s:=⟨I.ok.wish E,I.os,I.bare,I.base,I.loc,I.cell,I.free,I.freeC,I.pin,I.hok,I.len⟩
theorem Inv.unwish (I:Inv (X.wish E) pins σ H s):Inv X pins σ H s:=⟨I.ok.unwish,I.os,I.bare,I.base,I.loc,I.cell,I.free,I.freeC,I.pin,I.hok,I.len⟩
end
section
variable {X:Cx} {st:aL} {rest:List aL} {t u:TS} {e:aH} {te:TE} {pos:Pos}
def Qpw:TS:=fun D σ H=>D.nx σ H
def Qte (t u:TS):TS:=fun D σ H=>t { D with nx:=u D } σ H
theorem Q7n:PSs X [] Qpw:=fun _ _ σ H _ I h=>wpAny_execs_nil ⟨σ,H,I,h⟩
theorem j8 (h1:PS X st t) (h2:PSs X rest u):PSs X (st :: rest) (Qte t u):=by
 intro pins s σ H D I h;refine wpAny_execs_cons (thn (h1 pins s σ H { D with nx:=u D } I h) fun f s1 q=>?_)
 cases f with
 | next=>
  obtain ⟨j,H',z,q⟩:=q;exact h2 pins s1 j H' D z q
 | ret v=>exact q
 | brk=>exact q
 | cont=>exact q
theorem xm (h1:PS X st t):PSs X [st] t:=by
 intro pins s σ H D I h;refine wpAny_execs_cons (thn (h1 pins s σ H D I h) fun f s1 q=>?_)
 cases f with
 | next=>exact wpAny_execs_nil q
 | ret v=>exact q
 | brk=>exact q
 | cont=>exact q
def Qqn:TS:=fun D σ H=>D.bk σ H
theorem Qi0:PS X (.Break pos) Qqn:=fun _ _ σ H _ I h=>wpAny_Break ⟨σ,H,I,h⟩
theorem Inv.quiet {pins:List (aB × Obj)} {σ:St} {H:Hp} {s:aC} (I:Inv X pins σ H s):interactive X.env=yl:=by simp [interactive,I.ok.kind]
def Qtm (te:TE):TS:=fun D σ H=>te σ H fun _ H1=>D.nx σ H1
theorem Qmq (j:PE X e te) (hs:swapsWith e zb pos.line X.env=pure yl:=by rfl):PS X (.Expr e pos) (Qtm te):=by
 intro pins s σ H D I h;exact wpAny_Expr_any (thn (j pins s σ H _ I h) fun v s1 ⟨x,H1,q,z,q1⟩=>⟨σ,H1,q,q1⟩) I.quiet hs
def Qtf (te:TE):TS:=fun D σ H=>te σ H D.rt
theorem Q7q (j:PE X e te):PS X (.Return (zo e) pos) (Qtf te):=by
 intro pins s σ H D I h;exact wpAny_Return_some (thn (j pins s σ H _ I h) fun v s1 ⟨x,H1,q,z,q1⟩=>⟨x,σ,H1,q,z,q1⟩)
def Qtk (c:TT) (t u:TS):TS:=fun D σ H=>c σ H fun b H1=>if b=yo then t D σ H1 else u D σ H1
theorem Qhy {c:aH} {a b:List aL} {tc:TT} (G:PT X c tc) (q:PSs X a t) (z:PSs X b u):PS X (.If c a b pos) (Qtk tc t u):=by
 intro pins s σ H D I h;refine wpAny_If (thn (G pins s σ H _ I h) fun d s1 ⟨H1,j,q1⟩=>?_)
 cases d with
 | true=>exact q pins s1 σ H1 D j q1
 | false=>exact z pins s1 σ H1 D j q1
end
abbrev TG:=V->St->Hp->(St->Hp->Prop)->Prop
abbrev TGs:=List V->St->Hp->(St->Hp->Prop)->Prop
def PG (X:Cx) (target:aH) (t:TG):Prop:=
 ∀ (pins:List (aB × Obj)) (s:aC) (σ:St) (H:Hp) (v:V) (u:aA) (Q:St->Hp->Prop),Inv X pins σ H s->RelV v u->t v σ H Q ->
  aF (aI X.prog X.w) X.A (assign target X.env u) (fun _ s'=>∃ σ' H',Inv X pins σ' H' s'/\Q σ' H') X.xe s
def PGs (X:Cx) (ts:List aH) (t:TGs):Prop:=
 ∀ (pins:List (aB × Obj)) (s:aC) (σ:St) (H:Hp) (vs:List V) (us:List aA) (Q:St->Hp->Prop),Inv X pins σ H s->Vals vs us->t vs σ H Q ->
  aF (aI X.prog X.w) X.A (assignInOrder ((aw ts X.env).map (·.2)) us) (fun _ s'=>∃ σ' H',Inv X pins σ' H' s'/\Q σ' H') X.xe s
abbrev Qsn:=V->V->V->Hp->(Hp->Prop)->Prop
def Qvw (X:Cx) (t:Qsn):Prop:=
 ∀ (pins:List (aB × Obj)) (s:aC) (σ:St) (H:Hp) (o i v:V) (ov iv u:aA) (Q:Hp->Prop),Inv X pins σ H s->RelV o ov->RelV i iv->RelV v u->t o i v H Q ->
  aF (aI X.prog X.w) X.A (setItem ov iv u) (fun _ s'=>∃ H',Inv X pins σ H' s'/\Q H') X.xe s
section
variable {X:Cx} {pos:Pos}
def Q6i (i:Nat):TG:=fun v σ H Q=>Q (σ.set i (zo v)) H
theorem Qn1 {i:Nat} {x:Str} (z:X.N.Nodup) (hi:X.N[i]?=zo x) (G:Loc X.env.scope x) (q:X.fn x=yo\/X.env.scope.names.lookup x=zo .local:=by first | exact .inl rfl | exact .inr rfl | assumption):PG X (.Name x pos) (Q6i i):=by
 intro pins s σ H v u Q I r h;exact wpAny_assign_Name (Q2n I z hi G r (fun s' j=>⟨_,H,j,h⟩) q)
def Qv7:TGs:=fun vs σ H Q=>vs=[]/\Q σ H
def Qjm (t:TG) (u:TGs):TGs:=fun vs σ H Q=>∃ v r,vs=v :: r/\t v σ H fun σ' H'=>u r σ' H' Q
theorem Qmz:PGs X [] Qv7:=by
 intro pins s σ H vs j Q I r h;obtain ⟨e,h⟩:=h;subst e;cases r;exact assignInOrder_nil ⟨σ,H,I,h⟩
theorem Qi5 {e:aH} {es:List aH} {t:TG} {u:TGs} (h1:PG X e t) (h2:PGs X es u)
  (hs:(aw (e :: es) X.env).map (·.2)=assign e X.env :: (aw es X.env).map (·.2):=by rfl):PGs X (e :: es) (Qjm t u):=by
 intro pins s σ H vs G Q I r h;obtain ⟨v,J,e1,h⟩:=h;subst e1;cases r with
 | cons r q=>
  rw [hs];refine assignInOrder_cons (thn (h1 pins s σ H _ _ _ I r h) fun _ s1 ⟨j,H1,z,q1⟩=>?_)
  exact h2 pins s1 j H1 _ _ Q z q q1
def Qv6 (K:bW) (n:Nat) (t:TGs):TG:=fun v σ H Q=>∃ a xs,v=.ref a/\SqT K H a xs/\xs.length=n/\t xs σ H Q
theorem Qr3 {es:List aH} {k:Nat} {t:TGs} {n:Nat} (O:X.calm=yo) (h:PGs X es t)
  (G:(aw es X.env).length=n:=by rfl) (j:(aw es X.env).findIdx? (·.1)=zb:=by rfl):PG X (.Tuple es k pos) (Qv6 X.K n t):=by
 intro pins s σ H v u Q I r q;obtain ⟨a,xs,e1,J,hl,q⟩:=q;subst e1;cases r;obtain ⟨its,z,Y,hz⟩:=I.tuple J;refine assign_Tuple_tuple (I.ok.hd O) Y (by simp [G,<- hl,z.length]) j fun h' Z=>?_
 have U:Inv X pins σ H { s with heap:=h' }:=I.kept (t':=s.toks) fun b o e=>Z b o (D8 (O9 e)) e
 exact h pins _ σ H xs _ Q U (by simpa using z) q
def Qxu (to ti:TE) (t:Qsn):TG:=fun v σ H Q=>to σ H fun o H1=>ti σ H1 fun i H2=>t o i v H2 fun H3=>Q σ H3
theorem Qr4 {o i:aH} {to z:TE} {t:Qsn} (ho:PE X o to) (hi:PE X i z) (hs:Qvw X t)
  (J:∀ v,assign (.Subscript o i pos) X.env v=(do
   let j <- au [v] (aP o X.env)
   let q <- au [v,j] (aP i X.env)
   standAt pos
   au [v,j,q] (setItem j q v)
   release [v,j,q] []):=by intro _; rfl):PG X (.Subscript o i pos) (Qxu to z t):=by
 intro pins s σ H v u Q I r h;rw [J];refine aD (ae (thn (ho pins s σ H _ I h) fun j s1 ⟨x,H1,I1,r1,q1⟩=>?_))
 refine aD (ae (thn (hi pins s1 σ H1 _ I1 q1) fun q Y ⟨y,H2,Z,G,q2⟩=>?_))
 refine aD (wpAny_standAt (aD (ae (thn (hs pins Y σ H2 x y v j q u _ Z r1 G r q2) fun _ s3 ⟨U,O,q3⟩=>?_))))
 exact wpAny_release ⟨σ,U,O,q3⟩
def Qkv (te:TE) (g:TG):TS:=fun D σ H=>te σ H fun x H1=>g x σ H1 D.nx
theorem Qi1 {tg e:aH} {te:TE} {g:TG} (z:PE X e te) (j:PG X tg g) (hs:swapsWithSole [tg] e pos.line X.env=pure yl:=by rfl) (G:swappedStores [tg] e X.env=pure zb:=by rfl)
  (h1:(aw [tg] X.env).map (·.2)=[assign tg X.env]:=by rfl):PS X (.Assign [tg] e pos) (Qkv te g):=by
 intro pins s σ H D I h;refine wpAny_Assign_stores (thn (z pins s σ H _ I h) fun v s1 ⟨x,H1,O,J,q1⟩=>?_) hs G
 rw [h1];exact thn (j pins s1 σ H1 x v _ O J q1) fun _ U q=>q
theorem Q7p {i:Nat} {x:Str} {e:aH} {te:TE} {pos':Pos} (q:X.N.Nodup) (hi:X.N[i]?=zo x) (U:Loc X.env.scope x) (j:PE X e te) (hs:swapsWith e (zo (.Name x pos')) pos.line X.env=pure yl:=by rfl) (J:X.fn x=yo\/X.env.scope.names.lookup x=zo .local:=by first | exact .inl rfl | exact .inr rfl | assumption) :
  PS X (.Assign [.Name x pos'] e pos) (Qkv te (Q6i i)):=by
 intro pins s σ H D I h;refine wpAny_Assign_Name (thn (j pins s σ H _ I h) fun v s1 ⟨y,H1,O,G,q1⟩=>?_) hs
 exact Q2n O q hi U G (fun Y z=>⟨_,H1,z,q1⟩) J
end
section
variable {X:Cx} {pos:Pos}
end
structure It where
 go:Nat->Hp->Prop
 yld:Nat->Hp->V->Hp->Prop
 stop:Nat->Hp->Prop
def Q5b (X:Cx) (pins:List (aB × Obj)) (H:Hp) (b:aB):Prop:=
 H b=zb/\b≠X.env.locals/\b∉X.fs/\(b∈X.ex\/X.s₀.heap.objs.size<=b)/\(∀ x c,X.env.cells.lookup x=zo c->c≠b)/\∀ p∈X.pn ++ pins,p.1≠b
theorem Inv.fpOk {X:Cx} {pins:List (aB × Obj)} {σ:St} {H H':Hp} {s:aC} {b:aB} (I:Inv X pins σ H s) (j:s.heap.objs.size<=b) (G:H' b=zb):Q5b X pins H' b:=by
 refine ⟨G,cG (D0 I.lt j),I.nofs j,.inr (E3 I.sz j),fun x c e z=>?_,fun p hp z=>?_⟩
 ·obtain ⟨v,q⟩:=I.cell x c e;exact absurd (D0 q.lt (by rw [z]; exact j)) (G8 _)
 ·exact absurd (D0 (O9 (I.pin p hp).1) (by rw [z]; exact j)) (G8 _)
structure Turn (P:aK) (w:aJ) (K:bW) (tg:aH) (J:It) (fp:List aB) (it:aB) (tn:Nat->Heap->Prop):Prop where
 mem:it∈fp
 obj:∀ i h,tn i h->∀ b∈fp,∃ o,h.get? b=zo o/\∀ v,o.data≠.cell v
 keep:∀ i h h',tn i h->(∀ b∈fp,∀ o,h.get? b=zo o->h'.get? b=zo o)->tn i h'
 item:∀ (X:Cx),X.prog=P->X.w=w->X.K=K->X.calm=yo->∀ (i:Nat) (pins:List (aB × Obj)) (s:aC) (σ:St) (H:Hp) (E:aA->aC->Prop),Inv X pins σ H s->(∀ b∈fp,Q5b X pins H b)->tn i s.heap->J.go i H ->
  aF (aI P w) X.A (af (.ref it)) (fun r s1=>∃ u,r=zo u /\
   aF (aI P w) X.A (letOwnedTupleGo tg (.ref it) u) (fun _ s2=>∃ x H',Inv X pins σ H' s2/\RelV x u/\J.yld i H x H'/\tn (i + 1) s2.heap/\∀ b∈fp,H' b=zb) E s1) E s
 done:∀ (X:Cx),X.prog=P->X.w=w->X.K=K->X.calm=yo->∀ (i:Nat) (pins:List (aB × Obj)) (s:aC) (σ:St) (H:Hp) (E:aA->aC->Prop),Inv X pins σ H s->(∀ b∈fp,Q5b X pins H b)->tn i s.heap->J.stop i H ->
  aF (aI P w) X.A (af (.ref it)) (fun r s1=>r=zb/\Inv X pins σ H s1) E s
 self:∀ (A:aM) (i:Nat) (s:aC) (Q:aA->aC->Prop) (E:aA->aC->Prop),tn i s.heap->Q (.ref it) s->aF (aI P w) A (pyIter (.ref it)) Q E s
abbrev TI:=St->Hp->(It->Hp->Prop)->Prop
def PIE (X:Cx) (pins:List (aB × Obj)) (σ:St) (tg:aH) (R:It->Hp->Prop) (itv:aA) (s2:aC):Prop:=
 ∃ (it:aB) (fp:List aB) (tn:Nat->Heap->Prop) (J:It) (H':Hp),itv=.ref it/\Inv X pins σ H' s2/\Turn X.prog X.w X.K tg J fp it tn/\tn 0 s2.heap/\(∀ b∈fp,Q5b X pins H' b)/\R J H'
def PI (X:Cx) (tg iter:aH) (wi:TI):Prop:=
 ∀ (pins:List (aB × Obj)) (s:aC) (σ:St) (H:Hp) (R:It->Hp->Prop),Inv X pins σ H s->wi σ H R ->
  aF (aI X.prog X.w) X.A (aP iter X.env) (fun v s1=>aF (aI X.prog X.w) X.A (pyIter v) (PIE X pins σ tg R) X.xe s1) X.xe s
theorem Qe7 {M:Model} {A:aM} {E:aA->aC->Prop} {s:aC} {tg:aH} {it:aB} {u:aA} {o:Obj} {n:String} {vs:Array aA} {Q:Unit->aC->Prop} (z:s.heap.get? it=zo o) (G:o.cls=.type n) (hd:o.data=.fields vs)
  (q:["enumerate", "zip", "dict_itemiterator", "dict_reverseitemiterator", "odict_iterator", "itertools.zip_longest", "itertools.pairwise"].contains n=yl) (j:Q () s):aF M A (letOwnedTupleGo tg (.ref it) u) Q E s:=by
 unfold letOwnedTupleGo;cases tg <;> first
  | exact wpAny_pure j
  | (cases u <;> first
    | exact wpAny_pure j
    | (refine aD (wpAny_load z ?_)
       rw [G,hd];show aF M A (if (["enumerate", "zip", "dict_itemiterator", "dict_reverseitemiterator", "odict_iterator", "itertools.zip_longest", "itertools.pairwise"].contains n && vs[0]? == zo (aR _))=yo then _ else _) Q E s;rw [bT (by intro h; rw [q,F9] at h; cases h)];exact wpAny_pure j))
def Itl (K:bW) (a:aB):It:=
 ⟨fun i H=>∃ xs x,SqL K H a xs/\xs[i]?=zo x,fun i H x H'=>H'=H/\∀ xs,SqL K H a xs->xs[i]?=zo x,fun i H=>∃ xs,SqL K H a xs/\xs.length<=i⟩
def Itt (K:bW) (a:aB):It:=
 ⟨fun i H=>∃ xs x,SqT K H a xs/\xs[i]?=zo x,fun i H x H'=>H'=H/\∀ xs,SqT K H a xs->xs[i]?=zo x,fun i H=>∃ xs,SqT K H a xs/\xs.length<=i⟩
def Itr (lo:Int) (n:Nat):It:=⟨fun i _=>i < n,fun i H x H'=>H'=H/\x=.int (lo + i),fun i _=>n<=i⟩
theorem Qet {P:aK} {w:aJ} {K:bW} {tg:aH} (a it:aB):Turn P w K tg (Itl K a) [it] it (fun i h=>h.IsListIter it a i) where
 mem:=by simp
 obj:=fun i h st b j=>by
  have e:b=it:=by simpa using j
  subst e;obtain ⟨o,e,c,d⟩:=st;exact ⟨o,e,fun v z=>by rw [d] at z; cases z⟩
 keep:=fun i h h' st k=>st.at fun o e=>k it (by simp) o e
 item:=by
  intro X J hw hK hc i pins s σ H E I q st hg;subst J hw hK;obtain ⟨xs,x,G,hx⟩:=hg;obtain ⟨its,rv,p,hz⟩:=I.list G;obtain ⟨u,hu,ru⟩:=rv.get hx;obtain ⟨O,Y,f2,Z,U,f5⟩:=q it (by simp);refine wpAny_pyNext_list_item st p.isList (x:=u) (by simpa using hu) fun h' st' sb=>?_
  have I1:Inv X pins σ H { s with heap:=h' }:=I.turned (t':=s.toks) (fun b o j e=>(sb.2 b j).trans e) O Y Z U f5
  obtain ⟨o,e,c,d⟩:=id st';exact ⟨u,rfl,Qe7 (s:={ s with heap:=h' }) e c d (by decide) ⟨x,H,I1,ru,⟨rfl,fun ys hy=>by rw [I.list_inj hy G]; exact hx⟩,st',fun b j=>(q b j).1⟩⟩
 done:=by
  intro X J hw hK hc i pins s σ H E I q st hg;subst J hw hK;obtain ⟨xs,G,hx⟩:=hg;obtain ⟨its,rv,p,hz⟩:=I.list G;obtain ⟨O,Y,f2,Z,U,f5⟩:=q it (by simp);have hl:=rv.length;exact wpAny_pyNext_list_end (I.ok.hd hc) st p.isList (by simp; omega) fun h' eb=>⟨rfl,I.turned (t':=s.toks) (fun b o j e=>eb b o j e) O Y Z U f5⟩
 self:=fun _ _ _ _ _ st h=>wpAny_pyIter_listiter st h
theorem Qbc {P:aK} {w:aJ} {K:bW} {tg:aH} (a it:aB):Turn P w K tg (Itt K a) [it] it (fun i h=>h.IsTupleIter it a i) where
 mem:=by simp
 obj:=fun i h st b j=>by
  have e:b=it:=by simpa using j
  subst e;obtain ⟨o,e,c,d⟩:=st;exact ⟨o,e,fun v z=>by rw [d] at z; cases z⟩
 keep:=fun i h h' st k=>st.at fun o e=>k it (by simp) o e
 item:=by
  intro X J hw hK hc i pins s σ H E I q st hg;subst J hw hK;obtain ⟨xs,x,G,hx⟩:=hg;obtain ⟨its,rv,p,hz⟩:=I.tuple G;obtain ⟨u,hu,ru⟩:=rv.get hx;obtain ⟨O,Y,f2,Z,U,f5⟩:=q it (by simp);refine wpAny_pyNext_tuple_item st (show s.heap.IsTuple a its.toArray from p) (x:=u) (by simpa using hu) fun h' st' sb=>?_
  have I1:Inv X pins σ H { s with heap:=h' }:=I.turned (t':=s.toks) (fun b o j e=>(sb.2 b j).trans e) O Y Z U f5
  obtain ⟨o,e,c,d⟩:=id st';exact ⟨u,rfl,Qe7 (s:={ s with heap:=h' }) e c d (by decide) ⟨x,H,I1,ru,⟨rfl,fun ys hy=>by rw [I.tuple_inj hy G]; exact hx⟩,st',fun b j=>(q b j).1⟩⟩
 done:=by
  intro X J hw hK hc i pins s σ H E I q st hg;subst J hw hK;obtain ⟨xs,G,hx⟩:=hg;obtain ⟨its,rv,p,hz⟩:=I.tuple G;obtain ⟨O,Y,f2,Z,U,f5⟩:=q it (by simp);have hl:=rv.length;exact wpAny_pyNext_tuple_end (I.ok.hd hc) st (show s.heap.IsTuple a its.toArray from p) (by simp; omega) fun h' eb=>⟨rfl,I.turned (t':=s.toks) (fun b o j e=>eb b o j e) O Y Z U f5⟩
 self:=fun _ _ _ _ _ st h=>wpAny_pyIter_tupleiter st h
theorem Qbd {P:aK} {w:aJ} {K:bW} {tg:aH} (it:aB) (lo:Int) (n:Nat):Turn P w K tg (Itr lo n) [it] it (fun i h=>IsRangeIter h it (lo + (i:Nat) * 1) ((n:Int) - (i:Nat)) 1) where
 mem:=by simp
 obj:=fun i h st b j=>by
  have e:b=it:=by simpa using j
  subst e;exact ⟨_,st,fun v z=>by
   have z':Data.fields _=Data.cell v:=z;cases z'⟩
 keep:=fun i h h' st k=>k it (by simp) _ st
 item:=by
  intro X G Z hK hc i pins s σ H E I q st hg;subst G Z hK;obtain ⟨J,U,f2,Y,O,f5⟩:=q it (by simp);have W:=Walks.range (prog:=X.prog) (w:=X.w) (I.ok.hd hc) it lo 1 n;refine W.item i s _ _ hg st fun v h' tk hv st' kk=>?_
  obtain ⟨t,rfl⟩:=hv;have I1:Inv X pins σ H { s with heap:=h',toks:=tk }:=I.turned (fun b o j e=>kk b o (by simpa using j) e) J U Y O f5
  refine ⟨_,rfl,Qe7 (s:={ s with heap:=h',toks:=tk }) (n := "range_iterator") st' rfl rfl (by decide) ⟨.int (lo + i),H,I1,⟨t,?_⟩,⟨rfl,rfl⟩,st',fun b j=>(q b j).1⟩⟩
  rw [Int.mul_one]
 done:=by
  intro X G Z hK hc i pins s σ H E I q st hg;subst G Z hK;obtain ⟨J,U,f2,Y,O,f5⟩:=q it (by simp);exact wpAny_pyNext_range_end (I.ok.hd hc) st (by have:n<=i:=hg; omega) fun h' eb=>⟨rfl,I.turned (t':=s.toks) (fun b o j e=>eb b o j e) J U Y O f5⟩
 self:=fun _ _ _ _ _ st h=>wpAny_pyIter_rangeiter st h
section
variable {X:Cx} {tg:aH}
def Qv0 (K:bW) (tl:TE):TI:=fun σ H R=>tl σ H fun x H1=>∃ a,x=.ref a/\(∃ xs,SqL K H1 a xs)/\R (Itl K a) H1
def Qxs (K:bW) (tl:TE):TI:=fun σ H R=>tl σ H fun x H1=>∃ a,x=.ref a/\(∃ xs,SqT K H1 a xs)/\R (Itt K a) H1
theorem Qmx {l:aH} {tl:TE} (O:PE X l tl):PI X tg l (Qv0 X.K tl):=by
 intro pins s σ H R I h;refine thn (O pins s σ H _ I h) fun v s1 ⟨x,H1,j,J,q1⟩=>?_
 obtain ⟨a,e,⟨xs,G⟩,q⟩:=q1;subst e;cases J;obtain ⟨its,U,p,hz⟩:=j.list G;refine wpAny_pyIter_list p.isList ?_;refine ⟨s1.heap.objs.size,[s1.heap.objs.size],_,_,H1,rfl,j.kept (t':=s1.toks) fun b o e=>O2 _ e,Qet a _,⟨_,D1 _ rfl,rfl,rfl⟩,fun b z=>?_,q⟩
 have e:b=s1.heap.objs.size:=by simpa using z
 subst e;exact j.fpOk (O4 _) (j.hok.fresh (O4 _))
theorem Qr1 {l:aH} {tl:TE} (O:PE X l tl):PI X tg l (Qxs X.K tl):=by
 intro pins s σ H R I h;refine thn (O pins s σ H _ I h) fun v s1 ⟨x,H1,j,J,q1⟩=>?_
 obtain ⟨a,e,⟨xs,G⟩,q⟩:=q1;subst e;cases J;obtain ⟨its,U,p,hz⟩:=j.tuple G;refine bG (show s1.heap.IsTuple a its.toArray from p) ?_;refine ⟨s1.heap.objs.size,[s1.heap.objs.size],_,_,H1,rfl,j.kept (t':=s1.toks) fun b o e=>O2 _ e,Qbc a _,⟨_,D1 _ rfl,rfl,rfl⟩,fun b z=>?_,q⟩
 have e:b=s1.heap.objs.size:=by simpa using z
 subst e;exact j.fpOk (O4 _) (j.hok.fresh (O4 _))
theorem Qhp {pins:List (aB × Obj)} {σ:St} {H:Hp} {s:aC} {R:It->Hp->Prop} {E:aA->aC->Prop} {lo hi:Int} {t u v:Tok} {tk:Nat} (I:Inv X pins σ H s) (h1:-(2 ^ 62)<=lo) (h2:lo < 2 ^ 62) (J:-(2 ^ 62)<=hi) (G:hi < 2 ^ 62)
  (q:R (Itr lo (hi - lo).toNat) H):aF (aI X.prog X.w) X.A (pyIter (.ref s.heap.objs.size)) (PIE X pins σ tg R) E { s with heap:=s.heap.push { cls:=.type "range",data:=.fields #[.int lo t,.int hi u,.int 1 v] },toks:=tk }:=by
 refine wpAny_pyIter_range (IsRange.new ..) (small_one h1 h2 J G) ?_;have j:Inv X pins σ H { s with heap:=s.heap.push { cls:=.type "range",data:=.fields #[.int lo t,.int hi u,.int 1 v] },toks:=tk }:=I.kept fun b o e=>O2 _ e
 refine ⟨(s.heap.push { cls:=.type "range",data:=.fields #[.int lo t,.int hi u,.int 1 v] }).objs.size,[(s.heap.push { cls:=.type "range",data:=.fields #[.int lo t,.int hi u,.int 1 v] }).objs.size],_,_,H,rfl,
  j.kept (t':=tk) fun b o e=>O2 _ e,Qbd _ lo (hi - lo).toNat,?_,fun b z=>?_,q⟩
 ·have e1:lo + ((0:Nat):Int) * 1=lo:=by simp
  have e2:(((hi - lo).toNat:Nat):Int) - ((0:Nat):Int)=Builtin.Range.rangeSize lo hi 1:=by rw [rangeSize_one]; split <;> omega
  show IsRangeIter _ _ (lo + ((0:Nat):Int) * 1) ((((hi - lo).toNat:Nat):Int) - ((0:Nat):Int)) 1;rw [e1,e2];exact D1 _ rfl
 ·have e:b=(s.heap.push { cls:=.type "range",data:=.fields #[.int lo t,.int hi u,.int 1 v] }).objs.size:=by simpa using z
  subst e;exact j.fpOk (O4 _) (j.hok.fresh (O4 _))
def Quz (ta:TA):TI:=fun σ H R=>ta σ H fun vs H1=>∃ j:Int,vs=[.int j]/\-(2 ^ 62)<=j/\j < 2 ^ 62/\R (Itr 0 j.toNat) H1
theorem Qfh {a:aH} {ta:TA} {p pos:Pos} (G:Gl X "range") (hm:X.mg "range" = zb) (z:PA X [a] ta) (hs:aN [a] X.env=[(yl,aP a X.env)]:=by rfl):PI X tg (.Call (.Name "range" p) [a] [] pos) (Quz ta):=by
 intro pins s σ H R I h;refine Call_ (yk I G hm boot_range (dS (thn (z pos pins s σ H _ I h) fun Y s1 ⟨vs,H1,U,O,q1⟩=>?_) hs rfl))
 obtain ⟨j,e,q1,q2,q⟩:=q1;subst e;cases O with
 | cons r J=>
  cases J;obtain ⟨t,rfl⟩:=r;exact call_range_1 (Qhp U (by omega) (by omega) q1 q2 (by simpa using q))
def Qx6 (wi:TI) (g:TG) (tb:TS):TS:=fun D σ H=>wi σ H fun J H1=>∃ W:Nat->Nat->St->Hp->Prop,(∃ m,W 0 m σ H1)/\∀ i m σ H,W i m σ H ->
 (J.stop i H/\D.nx σ H)\/(J.go i H/\∃ N:St->Hp->Prop,(∀ σ' H',N σ' H'->∃ m',m' < m/\W (i + 1) m' σ' H')/\∀ x H',J.yld i H x H'->g x σ H' fun σ2 H2=>tb { D with nx:=N,ct:=N,bk:=D.nx } σ2 H2)
def Q3m (fp:List aB) (h:Heap):List (aB × Obj):=fp.filterMap fun b=>(h.get? b).map fun o=>(b,o)
theorem Ve {j:List aB} {h:Heap} {b:aB} {o:Obj} (q:b∈j) (e:h.get? b=zo o):(b,o)∈Q3m j h:=dU.mpr ⟨b,q,by rw [e]; rfl⟩
theorem Qfr {j:List aB} {h:Heap} {p:aB × Obj} (hp:p∈Q3m j h):p.1∈j/\h.get? p.1=zo p.2:=by
 obtain ⟨b,z,e⟩:=dU.mp hp;cases q:h.get? b with
 | none=>rw [q] at e; cases e
 | some o=>
  rw [q] at e;have G:(b,o)=p:=br e;subst G;exact ⟨z,q⟩
theorem Inv.pinned {pins:List (aB × Obj)} {σ:St} {H:Hp} {s:aC} {j:List aB} (I:Inv X pins σ H s) (Z:∀ b∈j,Q5b X pins H b) (Y:∀ b∈j,∃ o,s.heap.get? b=zo o/\∀ v,o.data≠.cell v):Inv X (pins ++ Q3m j s.heap) σ H s:=
 I.pins_of fun p hp=>(E8.mp hp).elim (fun z=>I.pin p (E9 _ z)) fun z=>by
  obtain ⟨q,e⟩:=Qfr z;obtain ⟨O,U,J,_⟩:=Z p.1 q;obtain ⟨o,G,d⟩:=Y p.1 q;rw [e] at G; cases G;exact ⟨e,O,U,J,d⟩
theorem Inv.unpinned {pins pl:List (aB × Obj)} {σ:St} {H:Hp} {s:aC} (I:Inv X (pins ++ pl) σ H s):Inv X pins σ H s:=I.pins_of fun p hp=>I.pin p (E9 _ (G6 _ hp))
theorem Qqz {iter:aH} {body:List aL} {wi:TI} {g:TG} {tb:TS} {pos:Pos} (hp:PassesOwn (aI X.prog X.w) X.A X.env X.xe) (hc:X.calm=yo) (hi:PI X tg iter wi) (hg:PG X tg g) (q:PSs X body tb)
  (hs:∀ x,bE iter X.env x=pure x:=by intro _; rfl):PS X (.For tg iter body [] pos) (Qx6 wi g tb):=by
 intro pins s σ H D I h;refine wpAny_For (thn (hi pins s σ H _ I h) fun v s1 h1=>thn h1 fun a8 s2 h2=>?_) hs
 obtain ⟨it,fp,tn,J,H2,e,I2,T,a4,f2,W,⟨m0,w0⟩,turn⟩:=h2;subst e;have z:∀ {H':Hp},(∀ b∈fp,H' b=zb)->∀ b∈fp,Q5b X pins H' b:=fun hn b q=>⟨hn b q,(f2 b q).2⟩
 refine codeAny_forLoop_any (fun n s'=>∃ i U H',Inv X pins U H' s'/\tn i s'.heap/\(∀ b∈fp,H' b=zb)/\W i n U H') ?_ m0 ⟨0,σ,H2,I2,a4,fun b q=>(f2 b q).1,w0⟩
 rintro n s3 ⟨i,Y,H3,I3,a3,a2,w3⟩;rcases turn i n Y H3 w3 with ⟨stop,qn⟩ | ⟨go,N,hN,step⟩
 ·refine bN hp (thn (T.done X rfl rfl rfl hc i pins s3 Y H3 X.xe I3 (z a2) a3 stop) fun r s4 ⟨hr,I4⟩=>?_)
  subst hr;exact wpAny_execs_nil ⟨Y,H3,I4,qn⟩
 ·refine bN hp (thn (T.item X rfl rfl rfl hc i pins s3 Y H3 X.xe I3 (z a2) a3 go) fun r s4 ⟨u,hr,h4⟩=>?_)
  subst hr;refine bN hp (thn h4 fun _ s5 ⟨x,H5,I5,r5,y5,a1,a7⟩=>?_);have a6:=I5.pinned (z a7) (T.obj _ _ a1);refine bN hp (thn (hg _ s5 Y H5 x u _ a6 r5 (step x H5 y5)) fun _ s6 ⟨a5,H6,I6,q6⟩=>?_)
  refine bN hp (thn (q _ s6 a5 H6 _ I6 q6) fun f s7 Z=>?_)
  have again:∀ {j:St} {G:Hp},Inv X (pins ++ Q3m fp s5.heap) j G s7->N j G->∃ m,m < n/\∃ i U H',Inv X pins U H' s7/\tn i s7.heap/\(∀ b∈fp,H' b=zb)/\W i m U H':=fun {j G} O n7=>by
   obtain ⟨m',hm,w7⟩:=hN j G n7;refine ⟨m',hm,i + 1,j,G,O.unpinned,T.keep _ _ _ a1 fun b q o e=>(O.pin (b,o) (E9 _ (E9 _ (Ve q e)))).1,fun b q=>?_,w7⟩;obtain ⟨o,e,d⟩:=T.obj _ _ a1 b q;exact (O.pin (b,o) (E9 _ (E9 _ (Ve q e)))).2.1
  cases f with
  | next=>obtain ⟨j,G,O,n7⟩:=Z; exact again O n7
  | cont=>obtain ⟨j,G,O,n7⟩:=Z; exact again O n7
  | brk=>obtain ⟨j,G,O,Z⟩:=Z; exact ⟨j,G,O.unpinned,Z⟩
  | ret v=>obtain ⟨x7,j,G,O,r7,Z⟩:=Z; exact ⟨x7,j,G,O.unpinned,r7,Z⟩
end
abbrev R2:=V->V->Hp->VK->Prop
def OpR (X:Cx) (f:aA->aA->Sem aA) (r:R2):Prop:=
 ∀ (pins:List (aB × Obj)) (s:aC) (σ:St) (H:Hp) (x y:V) (v u:aA) (Q:VK),Inv X pins σ H s->RelV x v->RelV y u->r x y H Q ->
  aF (aI X.prog X.w) X.A (f v u) (EP X pins σ Q) X.xe s
def UnR (X:Cx) (f:aA->Sem aA) (r:V->Hp->VK->Prop):Prop:=
 ∀ (pins:List (aB × Obj)) (s:aC) (σ:St) (H:Hp) (x:V) (v:aA) (Q:VK),Inv X pins σ H s->RelV x v->r x H Q ->
  aF (aI X.prog X.w) X.A (f v) (EP X pins σ Q) X.xe s
def V8 (X:Cx) (f:aA) (r:List V->Hp->VK->Prop):Prop:=
 ∀ (pins:List (aB × Obj)) (s:aC) (σ:St) (H:Hp) (xs:List V) (us:List aA) (Q:VK),Inv X pins σ H s->Vals xs us->r xs H Q ->
  aF (aI X.prog X.w) X.A (call f us) (EP X pins σ Q) X.xe s
def tOp (r:R2) (ta tb:TE):TE:=fun σ H Q=>ta σ H fun x H1=>tb σ H1 fun y H2=>r x y H2 Q
def tUn (r:V->Hp->VK->Prop) (ta:TE):TE:=fun σ H Q=>ta σ H fun x H1=>r x H1 Q
def rI (C:Int->Int->Prop) (g:Int->Int->V):R2:=fun x y H Q=>∃ i j,x=.int i/\y=.int j/\C i j/\Q (g i j) H
def rI0 (g:Int->Int->V):R2:=fun x y H Q=>∃ i j,x=.int i/\y=.int j/\Q (g i j) H
def rU (g:Int->V):V->Hp->VK->Prop:=fun x H Q=>∃ i,x=.int i/\Q (g i) H
section
variable {X:Cx} {a b c:aH} {ta tb tc:TE} {pos:Pos}
theorem Qsk (J:PE X a ta) (O:PE X b tb) {pins:List (aB × Obj)} {s:aC} {σ:St} {H:Hp} {R:V->V->Hp->Prop} (I:Inv X pins σ H s)
  (h:ta σ H fun x H1=>tb σ H1 fun y H2=>R x y H2) {Q:aA->aC->Prop} {f:aA->aA->Sem aA}
  (Z:∀ v u z x y H2,Inv X pins σ H2 z->RelV x v->RelV y u->R x y H2->aF (aI X.prog X.w) X.A (f v u) Q X.xe z) :
  aF (aI X.prog X.w) X.A (aP a X.env) (fun v q=>aF (aI X.prog X.w) X.A (aP b X.env) (fun u j=>aF (aI X.prog X.w) X.A (f v u) Q X.xe j) X.xe q) X.xe s:=by
 refine thn (J pins s σ H _ I h) fun v s1 ⟨x,H1,I1,Y,q1⟩=>?_
 refine thn (O pins s1 σ H1 _ I1 q1) fun u z ⟨y,H2,U,G,q2⟩=>?_
 exact Z v u z x y H2 U Y G q2
theorem Qq5 {op:Operator} {r:R2} (U:OpR X (aZ op) r) (j:PE X a ta) (z:PE X b tb):PE X (.BinOp a op b pos) (tOp r ta tb):=by
 intro pins s σ H Q I h;exact wpAny_BinOp (Qsk j z I h fun v u G x y H2 J O Y q=>U pins G σ H2 x y v u Q J O Y q)
theorem Qu3 {op:UnaryOp} {r:V->Hp->VK->Prop} (z:UnR X (unaryOp op) r) (j:PE X a ta):PE X (.UnaryOp op a pos) (tUn r ta):=by
 intro pins s σ H Q I h;exact UnaryOp_ (thn (j pins s σ H _ I h) fun v s1 ⟨x,H1,G,q,q1⟩=>z pins s1 σ H1 x v Q G q q1)
theorem opI {f:aA->aA->Sem aA} {C:Int->Int->Prop} {g:Int->Int->Int}
  (rule:∀ (i j:Int) (t u:Tok) (s:aC) (Q:aA->aC->Prop) (E:aA->aC->Prop),C i j->Q (.int (g i j) s.toks) { s with toks:=s.toks + 1 }->aF (aI X.prog X.w) X.A (f (.int i t) (.int j u)) Q E s) :
  OpR X f (rI C fun i j=>.int (g i j)):=by
 intro pins s σ H x y v u Q I z J h;obtain ⟨i,j,rfl,rfl,G,q⟩:=h;obtain ⟨t,rfl⟩:=z;obtain ⟨t',rfl⟩:=J;exact rule i j t t' s _ _ G ⟨.int (g i j),H,I.tok _,⟨_,rfl⟩,q⟩
theorem Qub {f:aA->aA->Sem aA} {g:Int->Int->Int}
  (rule:∀ (i j:Int) (t u:Tok) (s:aC) (Q:aA->aC->Prop) (E:aA->aC->Prop),Q (.int (g i j) s.toks) { s with toks:=s.toks + 1 }->aF (aI X.prog X.w) X.A (f (.int i t) (.int j u)) Q E s) :
  OpR X f (rI0 fun i j=>.int (g i j)):=by
 intro pins s σ H x y v u Q I z G h;obtain ⟨i,j,rfl,rfl,q⟩:=h;obtain ⟨t,rfl⟩:=z;obtain ⟨t',rfl⟩:=G;exact rule i j t t' s _ _ ⟨.int (g i j),H,I.tok _,⟨_,rfl⟩,q⟩
theorem Qnc {f:aA->aA->Sem aA} {g:Int->Int->Bool}
  (rule:∀ (i j:Int) (t u:Tok) (s:aC) (Q:aA->aC->Prop) (E:aA->aC->Prop),Q (.bool (g i j)) s->aF (aI X.prog X.w) X.A (f (.int i t) (.int j u)) Q E s) :
  OpR X f (rI0 fun i j=>.bl (g i j)):=by
 intro pins s σ H x y v u Q I z G h;obtain ⟨i,j,rfl,rfl,q⟩:=h;obtain ⟨t,rfl⟩:=z;obtain ⟨t',rfl⟩:=G;exact rule i j t t' s _ _ ⟨.bl (g i j),H,I,rfl,q⟩
def Qy1 (i j:Int):Prop:=0<=j/\j<=1000000/\i.natAbs < 2 ^ 64
def CMul (i j:Int):Prop:=(-(2 ^ 64) < i/\i < 2 ^ 64)\/(-(2 ^ 64) < j/\j < 2 ^ 64)
theorem CMul.ok {i j:Int} (h:CMul i j):IntMulOk i j:=by
 rcases h with ⟨h1,h2⟩ | ⟨h1,h2⟩
 ·exact .of_left (intBits_le_64 h1 h2)
 ·exact .of_right (intBits_le_64 h1 h2)
theorem Qrg:OpR X (aZ .Add) (rI0 fun i j=>.int (i + j)):=Qub fun _ _ _ _ _ _ _ q=>add_int q
theorem Qr9:OpR X (aZ .Sub) (rI0 fun i j=>.int (i - j)):=Qub fun _ _ _ _ _ _ _ q=>sub_int q
theorem Qrc:OpR X (aZ .Mult) (rI CMul fun i j=>.int (i * j)):=opI fun _ _ _ _ _ _ _ z q=>mul_int q z.ok
theorem Qrd:OpR X (aZ .Mod) (rI (fun _ j=>0 < j) fun i j=>.int (i % j)):=opI fun i j _ _ _ _ _ z q=>by
 have h1:(0:Int) < j:=z;exact mod_int' (by omega) (by rw [Int.fmod_eq_emod_of_nonneg i (by omega)]; exact q)
theorem Qrb:OpR X (aZ .Pow) (rI Qy1 fun i j=>.int (i ^ j.toNat)):=opI fun _ _ _ _ _ _ _ z q=>pow_int_small z.1 z.2.1 z.2.2 q
theorem unI {f:aA->Sem aA} {g:Int->Int}
  (rule:∀ (i:Int) (t:Tok) (s:aC) (Q:aA->aC->Prop) (E:aA->aC->Prop),Q (.int (g i) s.toks) { s with toks:=s.toks + 1 }->aF (aI X.prog X.w) X.A (f (.int i t)) Q E s) :
  UnR X f (rU fun i=>.int (g i)):=by
 intro pins s σ H x v Q I j h;obtain ⟨i,rfl,q⟩:=h;obtain ⟨t,rfl⟩:=j;exact rule i t s _ _ ⟨.int (g i),H,I.tok _,⟨_,rfl⟩,q⟩
theorem Qqg:UnR X (unaryOp .USub) (rU fun i=>.int (-i)):=unI fun _ _ _ _ _ q=>neg_int q
end
def Qx8:V->V->Bool
 | .non,.non=>yo | .non,.int _=>yo | .int _,.non=>yo | .non,.bl _=>yo | .bl _,.non=>yo | .non,.str _=>yo | .str _,.non=>yo
 | .int _,.int _=>yo | .bl _,.bl _=>yo | .str _,.str _=>yo | .byt _,.byt _=>yo
 | .int _,.str _=>yo | .str _,.int _=>yo | .bl _,.str _=>yo | .str _,.bl _=>yo
 | _,_=>yl
def rNe:R2:=fun x y H Q=>Qx8 x y=yo/\Q (.bl (!decide (x=y))) H
theorem Qpb {i j:Int}:decide (V.int i=V.int j)=(i == j):=by
 rw [dE];simp
theorem Qse {i j:Bool}:decide (V.bl i=V.bl j)=(i == j):=by
 rw [dE];simp
theorem Qpa {i j:Str}:decide (V.str i=V.str j)=(i == j):=by
 rw [dE];simp
theorem Qpc {i j:Array UInt8}:decide (V.byt i=V.byt j)=(i.toList == j.toList):=by
 rw [dE];cases i;cases j;simp
section
variable {X:Cx} {a b c:aH} {ta tb tc:TE} {pos:Pos}
theorem Y1 {pins:List (aB × Obj)} {σ:St} {H:Hp} {s:aC} {Q:VK} {k j:Bool} (I:Inv X pins σ H s) (q:Q (.bl k) H) (e:k=j):EP X pins σ Q (.bool j) s:=by
 subst e;exact ⟨.bl k,H,I,rfl,q⟩
theorem Qu7:OpR X (aV .NotEq) rNe:=by
 intro pins s σ H x y v u Q I G z h;obtain ⟨hs,q⟩:=h;cases x with
 | non=>
  cases G;cases y with
  | non=>cases z; exact PySem.EqNone.ne_none_none (Y1 I q (by simp))
  | bl j=>cases z; exact PySem.EqNone.ne_none_bool (Y1 I q (by simp))
  | int j=>obtain ⟨t',rfl⟩:=z; exact PySem.EqNone.ne_none_int (Y1 I q (by simp))
  | str j=>obtain ⟨t',rfl⟩:=z; exact PySem.EqNone.ne_none_str (Y1 I q (by simp))
  | _=>exact absurd (show yl=yo from hs) O7
 | bl i=>
  cases G;cases y with
  | non=>cases z; exact PySem.EqNone.ne_bool_none (Y1 I q (by simp))
  | bl j=>cases z; exact ne_bool (Y1 I q (congrArg not Qse))
  | str j=>obtain ⟨t',rfl⟩:=z; exact PySem.EqMixed.ne_bool_str (Y1 I q (by simp))
  | _=>exact absurd (show yl=yo from hs) O7
 | int i=>
  obtain ⟨t,rfl⟩:=G;cases y with
  | non=>cases z; exact PySem.EqNone.ne_int_none (Y1 I q (by simp))
  | int j=>obtain ⟨t',rfl⟩:=z; exact ne_int (Y1 I q (congrArg not Qpb))
  | str j=>obtain ⟨t',rfl⟩:=z; exact PySem.EqMixed.ne_int_str (Y1 I q (by simp))
  | _=>exact absurd (show yl=yo from hs) O7
 | str i=>
  obtain ⟨t,rfl⟩:=G;cases y with
  | non=>cases z; exact PySem.EqNone.ne_str_none (Y1 I q (by simp))
  | bl j=>cases z; exact PySem.EqMixed.ne_str_bool (Y1 I q (by simp))
  | int j=>obtain ⟨t',rfl⟩:=z; exact PySem.EqMixed.ne_str_int (Y1 I q (by simp))
  | str j=>obtain ⟨t',rfl⟩:=z; exact ne_str (Y1 I q (congrArg not Qpa))
  | _=>exact absurd (show yl=yo from hs) O7
 | byt i=>
  obtain ⟨t,rfl⟩:=G;cases y with
  | byt j=>obtain ⟨t',rfl⟩:=z; exact PySem.W.ne_bytes (Y1 I q (congrArg not Qpc))
  | _=>exact absurd (show yl=yo from hs) O7
 | _=>cases y <;> exact absurd (show yl=yo from hs) O7
theorem Qu8:OpR X (aV .Lt) (rI0 fun i j=>.bl (decide (i < j))):=Qnc fun _ _ _ _ _ _ _ q=>lt_int q
theorem Qq7:OpR X (aV .LtE) (rI0 fun i j=>.bl (decide (i<=j))):=Qnc fun _ _ _ _ _ _ _ q=>le_int q
theorem Qu9:OpR X (aV .Gt) (rI0 fun i j=>.bl (decide (j < i))):=Qnc fun _ _ _ _ _ _ _ q=>gt_int q
theorem Qua:OpR X (aV .GtE) (rI0 fun i j=>.bl (decide (j<=i))):=Qnc fun _ _ _ _ _ _ _ q=>ge_int q
theorem Qrf:OpR X (aV .Is) (fun x y H Q=>y=.non/\Q (.bl (decide (x=.non))) H):=by
 intro pins s σ H x y v u Q I j z h;obtain ⟨rfl,q⟩:=h;cases z;refine is_none_gen (Y1 I q ?_);cases x <;> first
  | (cases j; rfl)
  | (obtain ⟨t,rfl⟩:=j; rfl)
theorem Qna:OpR X (aV .IsNot) (fun x y H Q=>y=.non/\Q (.bl (!decide (x=.non))) H):=by
 intro pins s σ H x y v u Q I j z h;obtain ⟨rfl,q⟩:=h;cases z;refine isnot_none_gen (Y1 I q ?_);cases x <;> first
  | (cases j; rfl)
  | (obtain ⟨t,rfl⟩:=j; rfl)
theorem OpR.or {f:aA->aA->Sem aA} {r j:R2} (h:OpR X f r) (h':OpR X f j):OpR X f (fun x y H Q=>r x y H Q\/j x y H Q):=by
 intro pins s σ H x y v u Q I G z q;rcases q with q | q
 ·exact h pins s σ H x y v u Q I G z q
 ·exact h' pins s σ H x y v u Q I G z q
theorem Q84 (b:aH) {op:CmpOp} (h:op≠.In:=by decide) (h2:op≠.NotIn:=by decide):bH op b=yl:=by
 have e1:(op == CmpOp.In)=yl:=by cases op <;> first | rfl | exact absurd rfl h
 have e2:(op == CmpOp.NotIn)=yl:=by cases op <;> first | rfl | exact absurd rfl h2
 cases b <;> simp [bH,e1,e2]
theorem Q7t {op:CmpOp} {r:R2} (U:OpR X (aV op) r) (j:PE X a ta) (z:PE X b tb) (hm:bH op b=yl):PE X (.Compare a [op] [b] pos) (tOp r ta tb):=by
 intro pins s σ H Q I h;exact wpAny_Compare1 (Qsk j z I h fun v u G x y H2 J O Y q=>U pins G σ H2 x y v u Q J O Y q) hm
def Qpu (t:TE):TT:=fun σ H Q=>t σ H fun x H'=>∃ k,x=.bl k/\Q k H'
theorem Q7m {op:CmpOp} {r:R2} (ho:OpR X (aV op) r) (q:PE X a ta) (G:PE X b tb) (hm:bH op b=yl):PT X (.Compare a [op] [b] pos) (Qpu (tOp r ta tb)):=by
 intro pins s σ H Q I h;refine wpAny_isTrue_Compare1 (thn (q pins s σ H _ I h) fun v s1 ⟨x,H1,I1,r1,q1⟩=>thn (G pins s1 σ H1 _ I1 q1) fun u U ⟨y,H2,Y,j,q2⟩=>
  thn (ho pins U σ H2 x y v u _ Y r1 j q2) fun c s3 ⟨z,O,J,Z,k,e,q3⟩=>?_) hm
 subst e;cases Z;exact bA ⟨O,J,q3⟩
def Qbe (r r':R2) (ta tb tc:TE):TE:=fun σ H Q=>ta σ H fun x H1=>tb σ H1 fun y H2=>r x y H2 fun z H3=>∃ k,z=.bl k /\
 (if k=yo then tc σ H3 fun w' H4=>r' y w' H4 Q else Q (.bl yl) H3)
theorem Qic {op j:CmpOp} {r U:R2} (ho:OpR X (aV op) r) (q:OpR X (aV j) U) (Y:PE X a ta) (Z:PE X b tb) (hc:PE X c tc)
  (hm:lastMarks [op,j] [b,c]=yl:=by with_unfolding_all rfl):PE X (.Compare a [op,j] [b,c] pos) (Qbe r U ta tb tc):=by
 intro pins s σ H Q I h;refine Compare_chain (thn (Y pins s σ H _ I h) fun v s1 ⟨x,H1,I1,r1,q1⟩=>chain_link (thn (Z pins s1 σ H1 _ I1 q1) fun u s2 ⟨y,H2,I2,G,q2⟩=>
  thn (ho pins s2 σ H2 x y v u _ I2 r1 G q2) fun d s3 ⟨z,O,J,r3,k,e,q3⟩=>?_)) hm
 subst e;cases r3;refine bA ?_;cases k with
 | false=>exact ite_ff ⟨.bl yl,O,J,rfl,q3⟩
 | true=>exact ite_tt (chain_last (thn (hc pins s3 σ O _ J q3) fun w' s4 ⟨z',H4,I4,r4,q4⟩=>q pins s4 σ H4 y z' u w' Q I4 G r4 q4))
theorem Qhx {op j:CmpOp} {r U:R2} (ho:OpR X (aV op) r) (q:OpR X (aV j) U) (Y:PE X a ta) (Z:PE X b tb) (hc:PE X c tc)
  (hm:lastMarks [op,j] [b,c]=yl:=by with_unfolding_all rfl):PT X (.Compare a [op,j] [b,c] pos) (Qpu (Qbe r U ta tb tc)):=by
 intro pins s σ H Q I h;refine isTrue_chain (thn (Y pins s σ H _ I h) fun v s1 ⟨x,H1,I1,r1,q1⟩=>test_link (thn (Z pins s1 σ H1 _ I1 q1) fun u s2 ⟨y,H2,I2,G,q2⟩=>
  thn (ho pins s2 σ H2 x y v u _ I2 r1 G q2) fun d s3 ⟨z,O,J,r3,k,e,q3⟩=>?_)) hm
 subst e;cases r3;refine bA ?_;cases k with
 | false=>
  obtain ⟨k',e',q'⟩:=q3;cases e';exact ite_ff ⟨O,J,q'⟩
 | true=>
  refine ite_tt (test_last (thn (hc pins s3 σ O _ J q3) fun w' s4 ⟨z',H4,I4,r4,q4⟩=>thn (q pins s4 σ H4 y z' u w' _ I4 G r4 q4) fun d' s5 ⟨z2,H5,I5,r5,k2,e2,q5⟩=>?_))
  subst e2;cases r5;exact bA ⟨H5,I5,q5⟩
theorem Q0y:(sizeLine:Nat) < 2 ^ 63:=by rw [sizeLine_eq]; decide
theorem Qc5:OpR X (aZ .Add) (fun x y H Q=>∃ i j,x=.str i/\y=.str j/\i.length + j.length<=sizeLine/\Q (.str (i ++ j)) H):=by
 intro pins s σ H x y v u Q I z G h;obtain ⟨i,j,rfl,rfl,hz,q⟩:=h;obtain ⟨t,rfl⟩:=z;obtain ⟨t',rfl⟩:=G;exact add_str (fun t' tk=>⟨.str (i ++ j),H,I.tok _,⟨_,rfl⟩,q⟩) hz
theorem K3 {x:V} {j:List aA} (r:Vals [x] j):∃ u,j=[u]/\RelV x u:=by
 cases r with
 | cons z q=>cases q; exact ⟨_,rfl,z⟩
theorem Qpt {x y:V} {j:List aA} (r:Vals [x,y] j):∃ u q,j=[u,q]/\RelV x u/\RelV y q:=by
 cases r with
 | cons O z=>
  cases z with
  | cons J G=>cases G; exact ⟨_,_,rfl,O,J⟩
end
structure ObjM (h:Heap) (x dx C:aB) (mA:Str->Option aA):Prop where
 obj:h.get? x=zo (eu C dx)
 ns:h.Ns1 dx mA
 ne:dx≠x
theorem Qg3 {h:Heap} {dx:aB} {mA:Str->Option aA} (n:h.Ns1 dx mA):∃ G,h.get? dx=zo G/\∀ name,fB name G=zo (mA name):=by
 obtain ⟨o,es,ep,U,hd,Y,_,hm⟩:=n;refine ⟨o,U,fun name=>?_⟩;have e:=hm name;unfold nsFind findBy at e;rw [<- Array.find?_toList] at e;unfold fB;rw [hd];dsimp only
 split
 ·rename_i y q;rw [q] at e;exact congrArg zo e
 ·rename_i q;rw [q] at e;have a:es.toList.any (·.refKey)=yl:=by
   rw [ft];intro y O;obtain ⟨z,t,j⟩:=Y y (fC.mp O);simp [DictEntry.refKey,j]
  have J:¬ es.toList.any (·.refKey)=yo:=by rw [a]; exact O7
  rw [bT J];exact congrArg zo e
theorem ObjM.look {h:Heap} {x dx C:aB} {mA:Str->Option aA} (I:ObjM h x dx C mA):∃ j,PySem.W.InstAt h x (eu C dx) C (zo j)/\∀ name,fB name j=zo (mA name):=
 let ⟨j,q,z⟩:=Qg3 I.ns
 ⟨j,⟨I.obj,rfl,rfl,q⟩,z⟩
section
variable {prog:aK} {w:aJ} {A:aM} {E:aA->aC->Prop} {s:aC} {K:bW} {x dx C f:aB} {mA:Str->Option aA} {name:Str} {v:aA}
end
section
variable {P:aK} {w:aJ} {H H':Hp} {h h':Heap} {a C dx:aB} {fs fs':List (Str × V)}
theorem Qp0 (hok:HOk P w H h) (e:H a=zo (.ins C dx fs)):∃ mA,ObjM h a dx C mA/\(∀ f,RelO (fs.lookup f) (mA f))/\fk mA (fs.map (·.1))/\fs.length<=1000/\H dx=zo (.own a):=by
 obtain ⟨d,z,ne,ob,mA,n,r,q⟩:=(show ObjOk P w H h a (.ins C dx fs) from hok a _ e);exact ⟨mA,⟨ob,n,ne⟩,r,q,z,d⟩
end
structure Cls (K:bW) (C:aB):Prop where
 pg:fu K C cL=yo
 hd:PySem.W.hasDictIn K C=yo
 po:PySem.W.plainOver K C=yo
 sa:cg K (.ref C) "__setattr__" = zo (zo (.builtin "object.__setattr__"))
theorem Cls.get {K:bW} {C:aB} (c:Cls K C) (f:Str):fu K C f=yo:=c.pg
section
variable {X:Cx} {pins:List (aB × Obj)} {σ:St} {H:Hp} {s:aC} {a C dx:aB} {fs:List (Str × V)} {f:Str} {v:V} {A:aM} {E:aA->aC->Prop}
end
section
variable {X:Cx} {o e value:aH} {f:Str} {pos pos' tpos:Pos} {ta tv:TE}
end
section
variable {X:Cx} {pins:List (aB × Obj)} {σ:St} {H:Hp} {s:aC} {A:aM} {E:aA->aC->Prop} {Q:aA->aC->Prop} {c:aA} {b:Bool}
inductive TyOf (K:bW) (H:Hp):V->aA->Prop where
 | non:TyOf K H .non (.type "NoneType")
 | bl (x:Bool):TyOf K H (.bl x) (.type "bool")
 | int (i:Int):TyOf K H (.int i) (.type "int")
 | str (x:Str):TyOf K H (.str x) (.type "str")
 | flt (x:UInt64):TyOf K H (.flt x) (.type "float")
 | lst {a:aB} {xs:List V} (e:H a=zo (.lst xs)):TyOf K H (.ref a) (.type "list")
 | frz {a:aB} {o:Obj} {xs:List V} (e:H a=zo (.frz o (.lst xs))):TyOf K H (.ref a) (.type "list")
 | tup {a:aB} {xs:List V} (e:H a=zo (.tup xs)):TyOf K H (.ref a) (.type "tuple")
 | dK {a:aB} {kvs:List (Key × V)} (e:H a=zo (.dK kvs)):TyOf K H (.ref a) (.type "dict")
 | dT {a:aB} {kvs:List (HK × V)} (e:H a=zo (.dT kvs)):TyOf K H (.ref a) (.type "dict")
 | ins {a C dx:aB} {fs:List (Str × V)} (e:H a=zo (.ins C dx fs)) (cl:Cls K C) (ha:cg K (.ref C) "__class__" = zo (zo (.builtin "object.__class__")))
   (hn:fw K (.builtin "object.__class__") "__get__" = zo (zo (.builtin "getset_descriptor.__get__"))) (htk:fx K (.builtin "object.__class__")=zo yo)
   (hm:dW K C (.type "object")=zo yo):TyOf K H (.ref a) (.ref C)
theorem Qg5 {x:V} {u t:aA} (I:Inv X pins σ H s) (j:RelV x u) (ty:TyOf X.K H x t) (e:bi X.K t c=zo b) (h:∀ tk,Q (.bool b) { s with toks:=tk }) :
  aF (aI X.prog X.w) A (call (.builtin "isinstance") [u,c]) Q E s:=by
 cases ty with
 | non=>cases (show u=bg from j); exact cH PySem.W.kitx_none I.kIn True.intro e (fun z=>nomatch z) h
 | bl y=>cases (show u=cK y from j); exact cH PySem.W.kitx_bool I.kIn True.intro e (fun z=>nomatch z) h
 | int i=>obtain ⟨t,q⟩:=(show ∃ t,u=dP i t from j); cases q; exact cH PySem.W.kitx_int I.kIn True.intro e (fun z=>nomatch z) h
 | str y=>obtain ⟨t,q⟩:=(show ∃ t,u=dn y t from j); cases q; exact cH PySem.W.kitx_str I.kIn True.intro e (fun z=>nomatch z) h
 | flt y=>obtain ⟨t,q⟩:=(show ∃ t,u=fj y t from j); cases q; exact cH PySem.W.kitx_float I.kIn True.intro e (fun z=>nomatch z) h
 | @lst a xs G=>
  cases (show u=ba a from j);obtain ⟨_,_,n,_,h1⟩:=(show ObjOk X.prog X.w H s.heap a (.lst xs) from I.hok a _ G);exact cH fy I.kIn ⟨_,h1,rfl⟩ e (fun z=>nomatch z) h
 | @frz a ob xs G=>
  cases (show u=ba a from j);obtain ⟨_,_,_,n,_,h1⟩:=(show ObjOk X.prog X.w H s.heap a (.frz ob (.lst xs)) from I.hok a _ G);exact cH fy I.kIn ⟨_,h1,rfl⟩ e (fun z=>nomatch z) h
 | @tup a xs G=>
  cases (show u=ba a from j);obtain ⟨_,_,_,p⟩:=(show ObjOk X.prog X.w H s.heap a (.tup xs) from I.hok a _ G);obtain ⟨o,h1,h2,_⟩:=p;exact cH PySem.W.kitx_tuple I.kIn ⟨o,h1,h2⟩ e (fun z=>nomatch z) h
 | @dK a kvs G=>
  cases (show u=ba a from j);obtain ⟨_,_,vs,_,p⟩:=(show ObjOk X.prog X.w H s.heap a (.dK kvs) from I.hok a _ G);obtain ⟨o,es,ep,h1,h2,_⟩:=p;exact cH gA I.kIn ⟨o,h1,h2.1⟩ e (fun z=>nomatch z) h
 | @dT a kvs G=>
  cases (show u=ba a from j);obtain ⟨_,_,xs,_,o,es,ep,h1,h2,_⟩:=(show ObjOk X.prog X.w H s.heap a (.dT kvs) from I.hok a _ G);exact cH gA I.kIn ⟨o,h1,h2.1⟩ e (fun z=>nomatch z) h
 | @ins a C dx fs G cl Y Z U hm=>
  cases (show u=ba a from j);obtain ⟨mA,O,_⟩:=Qp0 I.hok G;obtain ⟨od,J,_⟩:=O.look;exact cH (PySem.W.kitx_own (cl.get _) cl.hd Y Z U hm) I.kIn J e (fun z=>nomatch z) h
end
structure Room (k:Nat) (A:aM):Prop where
 hd:A.handled=zb
 dp:A.depth + 3 * k + 5 < recursionLimit
 un:A.units + 16 * k + 200 < aU
theorem Room.mono {j k:Nat} {A:aM} (r:Room k A) (h:j<=k):Room j A:=⟨r.hd,by have:=r.dp; omega,by have:=r.un; omega⟩
theorem Room.deeper {k:Nat} {A:aM} (r:Room (k + 1) A) (env:Env):Room k (A.deeper env):=
 ⟨r.hd,by have:=r.dp; show A.depth + 1 + 3 * k + 5 < _; omega,by have:=r.un; show A.units + 3 + 16 * k + 200 < _; omega⟩
theorem Room.depth {k:Nat} {A:aM} (r:Room k A):A.depth < recursionLimit:=by have:=r.dp; omega
theorem Room.units {k:Nat} {A:aM} (r:Room k A):A.units + 64 < aU:=by have:=r.un; omega
def Qti:TA:=fun _ H Q=>Q [] H
def Qpx (ta:TE) (tr:TA):TA:=fun σ H Q=>ta σ H fun x H1=>tr σ H1 fun xs H2=>Q (x :: xs) H2
section
variable {X:Cx} {e:aH} {es:List aH} {te:TE} {t:TA} {pos:Pos}
theorem Js:PA X [] Qti:=fun _ _ _ _ H Q I h=>Calls.spliced_nil ⟨[],H,I,.nil,h⟩
theorem Qt (q:PE X e te) (J:PA X es t) (hs:aN (e :: es) X.env=(yl,aP e X.env) :: aN es X.env:=by rfl):PA X (e :: es) (Qpx te t):=by
 intro pos pins s σ H Q I h;rw [hs];show aF _ _ (spliced ((yl,aP e X.env) :: aY pos (aN es X.env))) _ _ s;refine Calls.spliced_cons (thn (q pins s σ H _ I h) fun u s1 ⟨x,H1,O,G,q1⟩=>?_)
 exact thn (J pos pins s1 σ H1 _ O q1) fun U Y ⟨xs,H2,z,j,q2⟩=>⟨x :: xs,H2,z,.cons G j,q2⟩
def Qx3 (t:TA):TE:=fun σ H Q=>t σ H fun xs H1=>xs.length<=sizeLine/\∀ p,H1 p=zb->Q (.ref p) (upd H1 p (.tup xs))
def Qtj (t:TA):TE:=fun σ H Q=>t σ H fun xs H1=>xs.length<=sizeLine/\∀ p,H1 p=zb->Q (.ref p) (upd H1 p (.lst xs))
theorem Qr5 {x1} (h:PA X es t):PE X (.Tuple es x1 pos) (Qx3 t):=by
 intro pins s σ H Q I J;refine wpAny_Tuple_spliced (thn (h pos pins s σ H _ I J) fun G s1 ⟨xs,H1,j,r,z,q⟩=>⟨by rw [<- r.length]; exact z,?_⟩)
 have O:H1 s1.heap.objs.size=zb:=j.hok.fresh (O4 _);refine ⟨.ref s1.heap.objs.size,upd H1 s1.heap.objs.size (.tup xs),j.laid (t':=s1.toks) (fun b u e=>O2 _ e) (O4 _) ?_,rfl,q _ O⟩;exact ⟨z,G,r,⟨_,D1 _ rfl,rfl,_,rfl⟩⟩
theorem Qc2 (h:PA X es t):PE X (.List es pos) (Qtj t):=by
 intro pins s σ H Q I J;refine wpAny_List_spliced (thn (h pos pins s σ H _ I J) fun G s1 ⟨xs,H1,j,r,z,q⟩=>⟨by rw [<- r.length]; exact z,?_⟩)
 have O:H1 s1.heap.objs.size=zb:=j.hok.fresh (O4 _);refine ⟨.ref s1.heap.objs.size,upd H1 s1.heap.objs.size (.lst xs),j.laid (t':=s1.toks) (fun b u e=>O2 _ e) (O4 _) ?_,rfl,q _ O⟩;exact ⟨z,G,0,r,D1 _ rfl⟩
end
abbrev Sp:=List V->Hp->VK->XK->Prop
abbrev CXT:=List Env->Hp->aC->XK->aA->aC->Prop
structure Env0 (P:aK) (w:aJ) (K:bW) (mg:Str->Option aA) (base:Heap) (A:aM) (outer:List Env) (s:aC) (H:Hp):Prop where
 frames:A.frames=zo outer
 mod:Mod K mg base
 bs:∀ b o,base.get? b=zo o->s.heap.get? b=zo o/\H b=zb
 bsz:base.objs.size<=s.heap.objs.size
 funs:s.heap.FunFrames base outer
 frf:∀ b∈frs outer,H b=zb
 hok:HOk P w H s.heap
 bare:AllBare s.gens
def CE (outer:List Env) (P:aK) (w:aJ) (H:Hp) (s:aC) (Q:VK) (u:aA) (s':aC):Prop:=
 ∃ v H',s'.os=s.os/\AllBare s'.gens/\Un (frs outer) [] H H' s.heap s'.heap/\HOk P w H' s'.heap/\RelV v u/\Q v H'
def CR (CX:CXT) (outer:List Env) (P:aK) (w:aJ) (H:Hp) (s:aC) (Q:VK) (E:XK) (r:Result) (s':aC):Prop:=
 match r with
 | .ok (.ret u)=>CE outer P w H s Q u s'
 | .ok _=>False
 | .error e=>CX outer H s E e s'
structure FnOk (P:aK) (w:aJ) (K:bW) (mg:Str->Option aA) (base:Heap) (CX:CXT) (k:Nat) (f:aB) (fd:aO) (ps:List Str) (sp:Sp):Prop where
 len:∀ vs H Q E,sp vs H Q E->vs.length=ps.length
 run:∀ (A:aM) (outer:List Env) (s:aC) (H:Hp) (args:Args) (us:List aA) (vs:List V) (Q:VK) (E:XK),Room k A->Env0 P w K mg base A outer s H->BindsTo s fd args (ps.zip us)->Vals vs us->sp vs H Q E ->
  codeAny (aI P w) A (.call (.ref f) args) (CR CX outer P w H s Q E) s
theorem FnOk.imp {P:aK} {w:aJ} {K:bW} {mg:Str->Option aA} {base:Heap} {CX:CXT} {k:Nat} {f:aB} {fd:aO} {ps:List Str} {sp j:Sp} (F:FnOk P w K mg base CX k f fd ps sp)
  (h:∀ vs H Q E,j vs H Q E->sp vs H Q E):FnOk P w K mg base CX k f fd ps j:=
 ⟨fun vs H Q E q=>F.len vs H Q E (h _ _ _ _ q),fun A outer s H args z vs Q E U J G O hs=>F.run A outer s H args z vs Q E U J G O (h _ _ _ _ hs)⟩
section
variable {X:Cx} {pins:List (aB × Obj)} {σ:St} {H:Hp} {s s':aC}
theorem Inv.env0 (I:Inv X pins σ H s):Env0 X.prog X.w X.K X.mg X.base X.A X.stack s H:=
 ⟨I.ok.frames,I.ok.mod,I.bs,E3 I.ok.bsz I.sz,I.stack,I.stkFree,I.hok,I.bare⟩
theorem Inv.after {Q:VK} {u:aA} (I:Inv X pins σ H s) (h:CE X.stack X.prog X.w H s Q u s'):EP X pins σ Q u s':=by
 obtain ⟨v,H',os,bare,un,hok,r,q⟩:=h;obtain ⟨G,g,d,t,j⟩:=s';obtain rfl:j=s.os:=os;exact ⟨v,H',I.call (h':=G) (g':=g) (d':=d) (t':=t) (ch:=[]) un hok bare (fun b z=>absurd z (by simp)),r,q⟩
end
def Qtn (sp:Sp) (dvs:List V) (E:XK) (t:TA):TE:=fun σ H Q=>t σ H fun vs H1=>sp (vs ++ dvs) H1 Q E
def Binds (K:bW) (fd:aO) (ps:List Str) (ds:List aA):Prop:=
 ∀ (s:aC) (us:List aA),K.In s.heap->(us ++ ds).length=ps.length->BindsTo s fd ⟨us,[]⟩ (ps.zip (us ++ ds))
theorem Binds.all {K:bW} {fd:aO} {ps:List Str} (h:∀ j:List aA,j.length=ps.length->bindArgs fd ⟨j,[]⟩=pure (ps.zip j)):Binds K fd ps []:=fun s j _ q=>by
 rw [cO] at q ⊢;exact .of_eq (h j q)
def Q59 (CX:CXT) (X:Cx) (E:XK):Prop:=∀ (pins:List (aB × Obj)) (σ:St) (H:Hp) (s:aC) (e:aA) (s':aC),Inv X pins σ H s->CX X.stack H s E e s'->X.xe e s'
section
variable {X:Cx} {CX:CXT} {k:Nat} {f C:aB} {fd:aO} {ps:List Str} {sp:Sp} {dvs:List V} {ds:List aA} {E:XK} {x m:Str} {p pos apos:Pos} {e o:aH} {es:List aH} {ta:TE} {t:TA}
theorem Qqu {pins:List (aB × Obj)} {σ:St} {H:Hp} {s:aC} {Q:VK} {j:List aA} {vs:List V} (F:FnOk X.prog X.w X.K X.mg X.base CX k f fd ps sp) (J:Room k X.A) (G:Binds X.K fd ps ds) (hd:Vals dvs ds) (O:Q59 CX X E)
  (I:Inv X pins σ H s) (r:Vals vs j) (h:sp (vs ++ dvs) H Q E):aF (aI X.prog X.w) X.A (call (.ref f) j) (EP X pins σ Q) X.xe s:=by
 have z:Vals (vs ++ dvs) (j ++ ds):=r.append hd;have U:(j ++ ds).length=ps.length:=by rw [<- z.length]; exact F.len _ _ _ _ h
 refine wpAny_call (bI (F.run X.A X.stack s H ⟨j,[]⟩ (j ++ ds) (vs ++ dvs) Q E J I.env0 (G s j I.kIn U) z h) fun r s' q=>?_)
 cases r with
 | error e=>exact O pins σ H s e s' I q
 | ok fl=>
  cases fl with
  | ret u=>exact I.after q
  | next=>exact False.elim q
  | brk=>exact False.elim q
  | cont=>exact False.elim q
theorem Qdj (F:FnOk X.prog X.w X.K X.mg X.base CX k f fd ps sp) (Z:Room k X.A) (U:Gl X x) (hm:X.mg x=zo (.ref f)) (hk:cM X.K (.ref f)=yo) (O:Binds X.K fd ps ds) (hd:Vals dvs ds) (hx:Q59 CX X E)
  (J:PA X (e :: es) t) (j:(x == ("__debug__" : Str))=yl:=by decide) (Y:aN (e :: es) X.env=(yl,aP e X.env) :: aN es X.env:=by rfl) (z:(aY pos (aN es X.env)).any (·.1)=yl:=by rfl) :
  PE X (.Call (.Name x p) (e :: es) [] pos) (Qtn sp dvs E t):=by
 intro pins s σ H Q I h;refine wpAny_Call_Name_kw (Q01 I U hm ?_ j);refine gB (h₀:=X.base) I.ok.mod.kin hk (thn (J pos pins s σ H _ I h) fun us s1 ⟨vs,H1,G,r,q⟩=>⟨G.kIn,?_⟩) Y z
 exact Qqu F Z O hd hx G r q
end
section
variable {X:Cx} {CX:CXT} {k:Nat} {f C:aB} {fd:aO} {ps ks:List Str} {sp:Sp} {E:XK} {x m:Str} {p pos apos kpos:Pos} {e o:aH} {es:List aH} {kws:List Keyword} {te ta:TE} {t tk:TA} {nm:Option Str}
variable {g:List aA->List aA->List aA} {gV:List V->List V->List V}
end
structure FnScope (N P:List Str) (sc:Scope):Prop where
 kind:sc.kind=.function
 co:sc.isCoroutine=yl
 gen:sc.isGenerator=yl
 nd:N.Nodup
 pre:N.take P.length=P
 par:∀ x∈P,sc.names.lookup x=zo .local\/sc.names.lookup x=zo .cell
 nofree:∀ y∈sc.names,y.2≠.free
theorem Q6r {kindOf:Str->Option av} {x:Str}:∀ {binds:List (Str × aA)} {m:Str->Option aA},(∀ v,(x,v)∉binds)->bindL kindOf binds m x=m x
 | [],_,_=>rfl
 | (n,v) :: r,m,h=>by
  unfold bindL;rw [Q6r fun w j=>h w (O5 _ j)]
  split
  ·have:x≠n:=by rintro rfl; exact h v F4
   simp [this]
  ·rfl
theorem Q6t {kindOf:Str->Option av} {x:Str}:∀ {binds:List (Str × aA)} {m:Str->Option aA},(∀ v,(x,v)∉binds)->bindC kindOf binds m x=m x
 | [],_,_=>rfl
 | (n,v) :: r,m,h=>by
  unfold bindC;rw [Q6t fun w j=>h w (O5 _ j)]
  split
  ·rfl
  ·have:x≠n:=by rintro rfl; exact h v F4
   simp [this]
theorem Q6s {kindOf:Str->Option av} {x:Str} {v:aA}:∀ {P:List Str} {vs:List aA} {i:Nat} {m:Str->Option aA},P.Nodup->P[i]?=zo x->vs[i]?=zo v->kindOf x=zo .local ->
  bindL kindOf (P.zip vs) m x=zo v
 | [],_,_,_,_,h,_,_=>by simp at h
 | _ :: _,[],_,_,_,_,h,_=>by simp at h
 | p :: P,w :: vs,0,m,nd,h1,h2,j=>by
  simp at h1 h2; subst h1; subst h2;show bindL kindOf ((p,w) :: P.zip vs) m p=_;unfold bindL;rw [Q6r fun v q=>(dX.mp nd).1 (fD q).1,bS j]
  simp
 | p :: P,w :: vs,i + 1,m,nd,h1,h2,j=>by
  show bindL kindOf ((p,w) :: P.zip vs) m x=_;unfold bindL;exact Q6s (i:=i) (dX.mp nd).2 (by simpa using h1) (by simpa using h2) j
theorem Q6u {kindOf:Str->Option av} {x:Str} {v:aA}:∀ {P:List Str} {vs:List aA} {i:Nat} {m:Str->Option aA},P.Nodup->P[i]?=zo x->vs[i]?=zo v->kindOf x≠zo .local ->
  bindC kindOf (P.zip vs) m x=zo v
 | [],_,_,_,_,h,_,_=>by simp at h
 | _ :: _,[],_,_,_,_,h,_=>by simp at h
 | p :: P,w :: vs,0,m,nd,h1,h2,j=>by
  simp at h1 h2; subst h1; subst h2;show bindC kindOf ((p,w) :: P.zip vs) m p=_;unfold bindC;rw [Q6t fun v q=>(dX.mp nd).1 (fD q).1,bT j]
  simp
 | p :: P,w :: vs,i + 1,m,nd,h1,h2,j=>by
  show bindC kindOf ((p,w) :: P.zip vs) m x=_;unfold bindC;exact Q6u (i:=i) (dX.mp nd).2 (by simpa using h1) (by simpa using h2) j
def start (N:List Str) (vs:List V):St:=vs.map zo ++ bh (N.length - vs.length) zb
def Qgh (CX:CXT) (P:aK) (w:aJ) (K:bW) (mg:Str->Option aA) (base:Heap) (N:List Str) (qual:Str) (scope:Scope) (f:aB) (cd:aA) (A:aM) (outer:List Env) (s:aC) (H:Hp) (E:XK):Cx where
 prog:=P
 w:=w
 K:=K
 mg:=mg
 base:=base
 A:=A.deeper (envOfC qual scope s.heap.objs.size f cd)
 N:=N
 s₀:=s
 H₀:=H
 env:=envOfC qual scope s.heap.objs.size f cd
 outer:=outer
 stack:=envOfC qual scope s.heap.objs.size f cd :: outer
 ex:=[]
 calm:=yo
 fn:=fun _=>yo
 pn:=[]
 xe:=fun e s'=>aF (aI P w) (A.deeper (envOfC qual scope s.heap.objs.size f cd)) (leaving (envOfC qual scope s.heap.objs.size f cd) e) (fun _ s''=>CX outer H s E e s'') (fun e' s''=>CX outer H s E e' s'') s'
theorem Qaz {sc:Scope} {n:Nat} {x:Str} (h:sc.names.lookup x=zo .cell):∃ c,(ag n sc.names []).lookup x=zo c:=by
 have q:=fE sc.names n [] (.inl h);exact dz.mp q
theorem Qg7 {CX:CXT} {P:aK} {w:aJ} {K:bW} {mg:Str->Option aA} {base:Heap} {N ps:List Str} {qual:Str} {scope:Scope} {f:aB} {cd:aA} {A:aM} {outer:List Env} {s s1:aC} {H:Hp} {E:XK} {U:List aA} {vs:List V}
  (S:FnScope N ps scope) (hd:A.handled=zb) (j:Env0 P w K mg base A outer s H) (hl:vs.length=ps.length) (r:Vals vs U)
  (x:InCallC s s.heap.objs.size (bindL (envOfC qual scope s.heap.objs.size f cd).kindOf (ps.zip U) fun _=>zb) (ag (s.heap.objs.size + 1) scope.names []) (bindC (envOfC qual scope s.heap.objs.size f cd).kindOf (ps.zip U) fun _=>zb) s1) :
  Inv (Qgh CX P w K mg base N qual scope f cd A outer s H E) [] (start N vs) H s1:=by
 have a1:ps.length<=N.length:=by have:=congrArg dY S.pre; rw [cY] at this; omega
 obtain ⟨h1,tk,rfl,Y⟩:=x.done;have J:∀ b:aB,b∉(Qgh CX P w K mg base N qual scope f cd A outer s H E).ex:=fun b z=>absurd (show b∈([]:List aB) from z) (by simp)
 refine ⟨⟨j.mod,S.kind,rfl,rfl,O4 _,fun y z c h1 h2=>?_,fun y G=>?_,fun y c _ h=>?_,fun _=>hd,Around.frames_deeper j.frames,.inr ⟨rfl,rfl⟩,fun b z=>absurd z (J b),j.bs,j.bsz,fun b _ _=>J b,fun b z=>absurd z (J b),j.funs,j.frf⟩,
  rfl,j.bare,Un.kept Y,⟨_,x.toInCall.ns,fun i y v h1 h2 h3=>?_⟩,fun y c h=>⟨_,x.cell y c h⟩,j.hok.fresh (O4 _),fun y c h=>?_,fun p hp=>absurd (show p∈([]:List (aB × Obj)) from hp) (by simp),j.hok.kept Y,?_⟩
 ·exact name_of_addr x.apart (cZ h1) (cZ h2)
 ·have G:scope.names.lookup y=zo .cell\/scope.names.lookup y=zo .free:=G;rcases G with G | G
  ·exact Qaz G
  ·exact absurd rfl (S.nofree _ (cZ G))
 ·exact dF (x.above y c (cZ h))
 ·have hi:i < vs.length:=by
   unfold start at h2
   by_cases hi:i < vs.length
   ·exact hi
   ·rw [D6 (by simpa using hi)] at h2;rw [gC] at h2
    split at h2 <;> cases h2
  have ha:vs[i]?=zo v:=by
   unfold start at h2;rw [D3 (by simpa using hi),D2] at h2;cases e:vs[i]? with
   | none=>rw [e] at h2; cases h2
   | some a=>rw [e] at h2; cases h2; rfl
  obtain ⟨u,Z,rv⟩:=r.get ha;have hp:ps[i]?=zo y:=by
   rw [<- S.pre,List.getElem?_take_of_lt (by omega)]; exact h1
  have O:ps.Nodup:=by rw [<- S.pre]; exact S.nd.sublist (gD _ _)
  refine ⟨u,rv,?_⟩;rcases S.par y (D9 hp) with k | k
  ·exact .inl ⟨k,Q6s O hp Z k⟩
  ·obtain ⟨c,e⟩:=Qaz (n:=s.heap.objs.size + 1) k;refine .inr ⟨.inl k,c,e,?_⟩;have q:=x.cell y c e;rw [Q6u O hp Z (by show scope.names.lookup y≠_; rw [k]; decide)] at q;exact q
 ·exact j.hok.fresh (dF (x.above y c (cZ h)))
 ·unfold start;show _=N.length;rw [D4,O3,List.length_replicate];omega
theorem Qvg {CX:CXT} {P:aK} {w:aJ} {K:bW} {mg:Str->Option aA} {base:Heap} {k:Nat} {f:aB} {name qual:Str} {z:Arguments} {body:List aL} {scope:Scope} {dV kV Y pm j ct oc:aA} {an od:Option aB}
  {a2:Array (Option aA)} {N ps:List Str} {sp:Sp} (lk:K.lookup f=zo ⟨oc,od,.func (cA name qual z body scope dV kV Y pm an j ct),a2⟩) (a3:cx K j qual=yo) (S:FnScope N ps scope)
  (len:∀ vs H Q E,sp vs H Q E->vs.length=ps.length)
  (O:∀ (A:aM) (outer:List Env) (s:aC) (H:Hp) (vs:List V) (Q:VK) (E:XK),Room k (A.deeper (envOfC qual scope s.heap.objs.size f j))->sp vs H Q E ->
   ∃ t,PSs (Qgh CX P w K mg base N qual scope f j A outer s H E) body t/\t { nx:=fun _ H'=>Q .non H',rt:=Q } (start N vs) H) :
  FnOk P w K mg base CX (k + 1) f (cA name qual z body scope dV kV Y pm an j ct) ps sp:=by
 refine ⟨len,fun A outer s H args us vs Q E hr Z hb r a1=>?_⟩;have hl:=len _ _ _ _ a1;have KX:K.In s.heap:=Z.mod.kin.keeps fun b o e=>(Z.bs b o e).1
 have lim:s.heap.NoLimit:=Z.mod.nolimit.keeps fun b o e=>(Z.bs b o e).1
 have U:∀ y∈ps.zip us,scope.names.lookup y.1=zo .local\/(scope.names.lookup y.1=zo .cell/\((ag (s.heap.objs.size + 1) scope.names []).lookup y.1).isSome=yo):=fun ⟨n,v⟩ hy=>by
  rcases S.par n (fD hy).1 with q | q
  ·exact .inl q
  ·exact .inr ⟨q,fE _ _ _ (.inl q)⟩
 refine codeAny_call_function hr.depth (KX _ _ lk) rfl S.co S.gen rfl (PySem.W.codeRec_of KX a3) (hb _ _ _ _ ?_);refine wpAny_newFunctionEnv_cells S.kind U fun env he s1 x=>?_
 subst he;refine ⟨lim.keeps x.toInCall.keep,codeAny_func ?_⟩;obtain ⟨t,ht,hq⟩:=O A outer s H vs Q E (hr.deeper _) a1;have I:Inv (Qgh CX P w K mg base N qual scope f j A outer s H E) [] (start N vs) H s1:=Qg7 S hr.hd Z hl r x;refine ar (ht [] s1 (start N vs) H _ I hq) (fun fl s' hs=>?_) fun e s' hs=>hs
 have fin:∀ {G:St} {H':Hp} {v:V} {u:aA},Inv (Qgh CX P w K mg base N qual scope f j A outer s H E) [] G H' s'->RelV v u->Q v H'->CE outer P w H s Q u s':=
  fun {G H' v u} J rv q=>⟨v,H',J.os,J.bare,J.base,J.hok,rv,q⟩
 cases fl with
 | ret u=>
  obtain ⟨v,G,H',J,rv,q⟩:=hs;exact fin J rv q
 | next=>
  obtain ⟨G,H',J,q⟩:=hs;exact fin (v:=V.non) (u:=bg) J rfl q
 | brk=>
  obtain ⟨_,_,_,q⟩:=hs;exact False.elim q
 | cont=>
  obtain ⟨_,_,_,q⟩:=hs;exact False.elim q
section
variable {X:Cx} {x:Str} {p pos:Pos} {e:aH} {es:List aH} {t:TA} {id T:String} {r:List V->Hp->VK->Prop}
def tCB (r:List V->Hp->VK->Prop) (t:TA):TE:=fun σ H Q=>t σ H fun vs H1=>r vs H1 Q
theorem Jt (hc:V8 X (.builtin id) r) (J:Gl X x) (hm:X.mg x=zb) (Z:aX x=zo (.builtin id)) (z:PA X (e :: es) t) (U:x≠"__name__" := by decide) (j:(x == ("__debug__" : Str))=yl:=by decide)
  (O:aN (e :: es) X.env=(yl,aP e X.env) :: aN es X.env:=by rfl) (q:(aY pos (aN es X.env)).any (·.1)=yl:=by rfl):PE X (.Call (.Name x p) (e :: es) [] pos) (tCB r t):=by
 intro pins s σ H Q I h;refine wpAny_Call_Name_kw (yk I J hm Z ?_ U j);exact ie (thn (z pos pins s σ H _ I h) fun G s1 ⟨vs,H1,I1,Y,q1⟩=>hc pins s1 σ H1 vs G Q I1 Y q1) O q
theorem jw (hc:V8 X (.type T) r) (J:Gl X x) (hm:X.mg x=zb) (Z:aX x=zo (.type T)) (z:PA X (e :: es) t) (U:x≠"__name__" := by decide) (j:(x == ("__debug__" : Str))=yl:=by decide)
  (O:aN (e :: es) X.env=(yl,aP e X.env) :: aN es X.env:=by rfl) (q:(aY pos (aN es X.env)).any (·.1)=yl:=by rfl):PE X (.Call (.Name x p) (e :: es) [] pos) (tCB r t):=by
 intro pins s σ H Q I h;refine wpAny_Call_Name_kw (yk I J hm Z ?_ U j);exact dS (thn (z pos pins s σ H _ I h) fun G s1 ⟨vs,H1,I1,Y,q1⟩=>hc pins s1 σ H1 vs G Q I1 Y q1) O q
end
end L2
namespace HT
open PySem PyProof.Rows
def lexLt:List Int->List Int->Bool
 | [],[]=>yl
 | [],_ :: _=>yo
 | _ :: _,[]=>yl
 | x :: xs,y :: ys=>if x=y then lexLt xs ys else decide (x < y)
theorem Qce (x y:Int) (xs ys:List Int):lexLt (x :: xs) (y :: ys)=if x=y then lexLt xs ys else decide (x < y):=rfl
theorem Q5n:lexLt [] []=yl:=rfl
theorem Q4h (y:Int) (ys:List Int):lexLt [] (y :: ys)=yo:=rfl
theorem Q4i (x:Int) (xs:List Int):lexLt (x :: xs) []=yl:=rfl
theorem Qjz (A:aM) (s:aC) (a:Int) (t:Tok) (c:Int) (u:Tok):∃ e,SeqAt.EqAt A s (.int a t) (.int c u) e/\(e=yo <-> a=c):=
 ⟨(a == c),SeqAt.EqAt.int_int a t c u,by simp⟩
theorem Qhk (A:aM) (s:aC) (a:Int) (t:Tok) (c:Int) (u:Tok) (prog:aK) (w:aJ) (E:aA->aC->Prop) (Q:aA->aC->Prop) (h:Q (.bool (decide (a < c))) s) :
  aF (aI prog w) A (richCompare .Lt (.int a t) (.int c u)) Q E s:=
 (ig h:aF (aI prog w) A (aV .Lt (.int a t) (.int c u)) Q E s)
section
open PySem.SeqAt
open PySem.AutoSeq1 (wpAny_loadPart')
open PySem.MeetsSeq PySem.MeetsSeq2 PySem.MeetsSeq3
theorem Q5f (l b:aB) (z j:Array aA) (n n2:Nat) (dd a6:Option aB) (sl a8:Array (Option aA)) (ns ms:List Int) (hi:IntsAre z.toList ns) (hj:IntsAre j.toList ms) :
  Meets (Builtin.«tuple.__lt__» ⟨[.ref l,.ref b],[]⟩)
   (fun _ R s=>s.heap.get? l=zo { cls:=.type "tuple",dict:=dd,data:=.seq z n,slots:=sl }/\s.heap.get? b=zo { cls:=.type "tuple",dict:=a6,data:=.seq j n2,slots:=a8 } /\
    R (.ok (.ret (.bool (lexLt ns ms)))) s):=
 .of_wp fun prog w A R s h=>by
  obtain ⟨hp,g,d,tk,os⟩:=s; obtain ⟨hl,hb,h⟩:=h;have f2:=AutoSeq1.sub_tuple_tuple;have z1:z.size=ns.length:=by rw [<- hi.length]; simp
  have z2:j.size=ms.length:=by rw [<- hj.length]; simp
  wp_walk using wpAny_loadPart' hl,wpAny_loadPart' hb,wpAny_forIn_list _ (fun rest b s'=>b.1=zb/\s'=⟨hp,g,d,tk,os⟩/\∃ (vs ws:List aA) (O J:List Int),rest=vs.zip ws /\
   IntsAre vs O/\IntsAre ws J/\O.length + j.size=J.length + z.size/\R (.ok (.ret (.bool (lexLt O J)))) ⟨hp,g,d,tk,os⟩) _
  case turn=>
   rintro ⟨y,x⟩ rest b s' ⟨a3,rfl,vs,ws,O,J,hz,a2,U,G,Y⟩;cases a2 with
   | nil=>rw [List.zip_nil_left] at hz; cases hz
   | cons a t a4=>
    cases U with
    | nil=>rw [List.zip_nil_right] at hz; cases hz
    | cons c u a5=>
     rw [eD] at hz;injection hz with a7 a1
     injection a7 with hy hx
     subst hy hx;rw [Qce] at Y;simp only [D7] at G;obtain ⟨e,he,Z⟩:=Qjz A.in1 ⟨hp,g,d,tk,os⟩ a t c u;refine aD (he prog w _ _ ?_);cases e with
     | true=>
      rw [bS (Z.mp rfl)] at Y
      wp_walk
      exact ⟨rfl,rfl,_,_,_,_,a1,a4,a5,by omega,Y⟩
     | false=>
      rw [bT (fun q=>absurd (Z.mpr q) O7)] at Y
      have a9:=Qhk A.in1 ⟨hp,g,d,tk,os⟩ a t c u prog w
      wp_walk using a9
      exact ⟨_,rfl,by simpa using Y⟩
  case fin=>
   rintro ⟨b1,b2⟩ s' ⟨a3,rfl,vs,ws,O,J,hz,a2,U,G,Y⟩;simp only at a3;subst a3;have hv:lexLt O J=decide (z.size < j.size):=by
    cases a2 with
    | nil=>
     cases U with
     | nil=>
      simp only [cj] at G;rw [Q5n];exact (bU (by omega)).symm
     | cons c u hw=>
      simp only [cj,D7] at G;rw [Q4h];exact (bV (by omega)).symm
    | cons a t hv=>
     cases U with
     | nil=>
      simp only [cj,D7] at G;rw [Q4i];exact (bU (by omega)).symm
     | cons c u hw=>
      rw [eD] at hz;cases hz
   rw [hv] at Y
   wp_walk
   exact ⟨_,rfl,by simpa [Builtin.Tuple.tupleCompareSizes] using Y⟩
  case h=>
   exact ⟨rfl,rfl,z.toList,j.toList,ns,ms,rfl,hi,hj,by omega,h⟩
end
section
variable {prog:aK} {w:aJ} {A:aM} {E:aA->aC->Prop} {s:aC}
theorem lt_tupInts {l b:aB} {q j:Array aA} {ns ms:List Int} {Q:aA->aC->Prop} (hl:IsTup s.heap l q) (O:IsTup s.heap b j) (hi:IntsAre q.toList ns) (Y:IntsAre j.toList ms)
  (Z:A.units < aU) (h:Q (.bool (lexLt ns ms)) s):aF (aI prog w) A (aV .Lt (.ref l) (.ref b)) Q E s:=by
 obtain ⟨⟨cls,dd,data,U⟩,ho,hc,n,hd⟩:=id hl;obtain ⟨⟨J,G,data2,z⟩,ho2,hc2,n2,hd2⟩:=id O;simp only at hc hd hc2 hd2;subst hc hd hc2 hd2;exact richCompare_meets_room (op:=.Lt) ⟨_,ho,rfl⟩ ⟨_,ho2,rfl⟩ PySem.F.slot_tuple_lt PySem.F.entry_tuple_lt (PySem.F.args_tuple_lt_2 _ _) (Q5f l b q j n n2 dd G U z ns ms hi Y)
  ⟨ho,ho2,show cK (lexLt ns ms)≠gE/\Q (.bool (lexLt ns ms)) s from ⟨(fun x=>nomatch x),h⟩⟩ Z
theorem cat_tup {t b:aB} {vs ws:List aA} {Q:aA->aC->Prop} (Y:IsTup s.heap t vs.toArray) (U:IsTup s.heap b ws.toArray) (J:vs≠[])
  (h1:ws=[]->Q (.ref t) s) (h2:ws≠[]->Q (.ref s.heap.objs.size) { s with heap:=s.heap.push { cls:=.type "tuple",data:=.seq (vs ++ ws).toArray } })
  (hsz:vs.length + ws.length<=sizeLine):aF (aI prog w) A (aZ .Add (.ref t) (.ref b)) Q E s:=by
 obtain ⟨⟨cls,dd,data,G⟩,ho,hc,n,hd⟩:=id Y;obtain ⟨⟨O,q,data2,j⟩,ho2,hc2,n2,hd2⟩:=id U;simp only at hc hd hc2 hd2;subst hc hd hc2 hd2;have e:vs.toArray ++ ws.toArray=(vs ++ ws).toArray:=by simp
 by_cases z:ws=[]
 ·exact concat_meets ⟨_,ho,rfl⟩ ⟨_,ho2,rfl⟩ noFill_tuple_add seq_tuple_add fF fG (fH _ _)
   (tuple_addW1 t b vs.toArray ws.toArray n n2 dd q G j (by simpa using J) (by simp [z])) ⟨ho,ho2,h1 z⟩
 ·refine concat_meets ⟨_,ho,rfl⟩ ⟨_,ho2,rfl⟩ noFill_tuple_add seq_tuple_add fF fG (fH _ _)
   (tuple_addW2 t b vs.toArray ws.toArray n n2 dd q G j (by simpa using J) (by simpa using z) (by rw [O6,O6]; exact hsz)) ⟨ho,ho2,?_⟩
  rw [e];exact h2 z
def sIx (n d:Nat):Option Int->Nat
 | none=>d
 | some v=>if v < 0 then (v + (n:Int)).toNat else min v.toNat n
theorem sIx_none (n d:Nat):sIx n d zb=d:=rfl
theorem sIx_nat (n d k:Nat):sIx n d (zo (k:Int))=min k n:=by
 show (if (k:Int) < 0 then ((k:Int) + (n:Int)).toNat else min (k:Int).toNat n)=min k n;rw [bT (by omega),bt]
theorem Qqt (n d:Nat) (hd:d<=n) (o:Option Int):sIx n d o<=n:=by
 cases o with
 | none=>exact hd
 | some v=>
  show (if v < 0 then (v + (n:Int)).toNat else min v.toNat n)<=n
  by_cases j:v < 0
  ·rw [bS j]; omega
  ·rw [bT j]; exact Nat.min_le_right _ _
theorem Qef (v:Int) (n d:Nat):(if v < 0 then max (v + (n:Int)) 0 else min v (n:Int))=((sIx n d (zo v):Nat):Int):=by
 show (if v < 0 then max (v + (n:Int)) 0 else min v (n:Int))=(((if v < 0 then (v + (n:Int)).toNat else min v.toNat n):Nat):Int)
 by_cases j:v < 0
 ·simp only [bS j]; omega
 ·simp only [bT j]; omega
theorem Qd1 (lo hi:Option Int) (n:Nat):Builtin.Slice.sliceAdjust lo hi 1 (n:Int)=(((sIx n 0 lo:Nat):Int),((sIx n n hi:Nat):Int)):=by
 have h1:¬ ((1:Int) < 0):=by omega
 unfold Builtin.Slice.sliceAdjust;simp only [h1,if_false];refine dZ ?_ ?_
 ·cases lo with
  | none=>rfl
  | some v=>exact Qef v n 0
 ·cases hi with
  | none=>rfl
  | some v=>exact Qef v n n
theorem Qbz (i j:Nat):Builtin.Slice.slicePlaces (i:Int) (j:Int) 1=j - i:=by
 unfold Builtin.Slice.slicePlaces;have h1:(1:Int) > 0:=by omega
 simp only [h1,if_true,Int.ediv_one]
 split <;> omega
theorem Q2t {v:aA} {o:Option Int} {Q:Option Int->aC->Prop} (p:IsPart v o) (h:Q o s):aF (aI prog w) A (Builtin.Slice.slicePartIndex v) Q E s:=by
 cases p with
 | none=>exact slicePart_none h
 | int i t=>exact slicePart_int h
theorem K5 {J:aB} {z G:aA} {lo hi:Option Int} {n:Nat} {Q:Int × Int × Nat->aC->Prop} (hs:s.heap.IsSliceOf J z G .none) (pl:IsPart z lo) (O:IsPart G hi)
  (h:Q (((sIx n 0 lo:Nat):Int),1,sIx n n hi - sIx n 0 lo) s):aF (aI prog w) A (Builtin.Slice.sliceApplied (.ref J) (pure (n:Int))) Q E s:=by
 obtain ⟨os,q,U,j⟩:=id hs;unfold Builtin.Slice.sliceApplied Builtin.Slice.sliceFields;refine aD (aD (ak q j (x:=z) rfl (aD (ak q j (x:=G) rfl (aD (ak q j (x:=.none) rfl (wpAny_pure ?_)))))));refine aD (slicePart_none ?_);show aF _ _ (if ((1:Int) == 0)=yo then _ else _) _ _ s;rw [bT (by decide)];refine aD (Q2t pl (aD (Q2t O (aD (wpAny_pure ?_)))));show aF _ _ (match Builtin.Slice.sliceAdjust lo hi 1 (n:Int) with | (lo,hi)=>pure (lo,(1:Int),Builtin.Slice.slicePlaces lo hi 1)) _ _ s
 rw [Qd1 lo hi n];show aF _ _ (pure (((sIx n 0 lo:Nat):Int),(1:Int),Builtin.Slice.slicePlaces ((sIx n 0 lo:Nat):Int) ((sIx n n hi:Nat):Int) 1)) _ _ s;rw [Qbz];exact wpAny_pure h
theorem Qi4 (xs:Array aA) (i k:Nat):((bY k).filterMap fun (m:Nat)=>xs[((i:Int) + (m:Int) * 1).toNat]?).toArray=((xs.toList.drop i).take k).toArray:=by
 have e:(fun (m:Nat)=>xs[((i:Int) + (m:Int) * 1).toNat]?)=fun m=>xs[i + m]?:=by
  funext m;have:((i:Int) + (m:Int) * 1).toNat=i + m:=by omega
  rw [this]
 rw [e];have:=pick_run xs i k;rw [gF] at this;have e2:((fun x=>xs[x]?) ∘ fun x=>i + x)=fun m=>xs[i + m]?:=rfl
 rw [e2] at this;rw [this]
theorem getItem_tuple_cut {t J:aB} {j:Array aA} {vl vu:aA} {lo hi:Option Int} {Q:aA->aC->Prop} (G:IsTup s.heap t j) (hs:s.heap.IsSliceOf J vl vu .none) (pl:IsPart vl lo) (pu:IsPart vu hi)
  (hw:¬ (sIx j.size 0 lo=0/\sIx j.size j.size hi=j.size))
  (h:Q (.ref s.heap.objs.size) { s with heap:=s.heap.push { cls:=.type "tuple",data:=.seq ((j.toList.drop (sIx j.size 0 lo)).take (sIx j.size j.size hi - sIx j.size 0 lo)).toArray } })
  (hsz:j.size<=sizeLine):aF (aI prog w) A (getItem (.ref t) (.ref J)) Q E s:=by
 have z:sizeOk (.seq ((j.toList.drop (sIx j.size 0 lo)).take (sIx j.size j.size hi - sIx j.size 0 lo)).toArray):=by
  show ((j.toList.drop (sIx j.size 0 lo)).take (sIx j.size j.size hi - sIx j.size 0 lo)).toArray.size<=sizeLine;rw [O6,cY,cy,bj];omega
 have hj:sIx j.size j.size hi<=j.size:=Qqt _ _ (O4 _) hi;obtain ⟨os,O,Z,a1⟩:=id hs;have Y:s.TypeIs (.ref J) "slice" := ⟨os,O,Z⟩;unfold getItem
 try with_reducible refine ae ?_
 first | refine aD (wpAny_pure ?_) | skip
 refine aD (wpAny_sequenceKey G.typeIs (by decide) ?_);refine aD (wpAny_callSpecial?_slot (name:=cb "__getitem__") G.typeIs eE
  (ah eE G.typeIs entry_tuple_getitem ?_ (args_tuple_getitem _ _)))
 show aF _ _ (Builtin.Tuple.tupleItemsOf (.ref t) >>= _) _ _ s;refine aD (tupleItemsOf_ G ?_);refine aD (bC Y ?_);rw [bS (by decide)];refine aD (K5 hs pl pu ?_);have U:¬ ((((sIx j.size 0 lo:Nat):Int) == 0 && (1:Int) == 1 && (sIx j.size j.size hi - sIx j.size 0 lo) == j.size)=yo):=by
  intro q;rw [E6,E6] at q;have q1:((sIx j.size 0 lo:Nat):Int)=0:=eq_of_beq q.1.1;have q2:sIx j.size j.size hi - sIx j.size 0 lo=j.size:=eq_of_beq q.2;exact hw ⟨by omega,by omega⟩
 show aF _ _ (if (((sIx j.size 0 lo:Nat):Int) == 0 && (1:Int) == 1 && (sIx j.size j.size hi - sIx j.size 0 lo) == j.size)=yo then _ else _) _ _ s;rw [bT U,Qi4]
 first
  | exact aD (m:=Builtin.Tuple.tupleExact _) (ao (wpAny_pure ⟨_,rfl,wpAny_pure h⟩) z)
  | exact aD (m:=Builtin.Tuple.tupleExact _) (ao (aD (wpAny_pure (wpAny_pure ⟨_,rfl,wpAny_pure h⟩))) z)
  | exact aD (aD (m:=Builtin.Tuple.tupleExact _) (ao (wpAny_pure (wpAny_pure ⟨_,rfl,wpAny_pure h⟩)) z))
  | exact aD (aD (m:=Builtin.Tuple.tupleExact _) (ao (wpAny_pure ⟨_,rfl,wpAny_pure h⟩) z))
end
end HT
namespace L2
open PySem PySem.Spec PyProof.Rows
abbrev TO:=St->Hp->(Option Int->Hp->Prop)->Prop
def PO (X:Cx) (e:Option aH) (t:TO):Prop:=
 ∀ (pins:List (aB × Obj)) (s:aC) (σ:St) (H:Hp) (Q:Option Int->Hp->Prop),Inv X pins σ H s->t σ H Q ->
  aF (aI X.prog X.w) X.A (evalPart e X.env) (fun u s'=>∃ o H',Inv X pins σ H' s'/\IsPart u o/\Q o H') X.xe s
def Qku:TO:=fun _ H Q=>Q zb H
def Qtg (t:TE):TO:=fun σ H Q=>t σ H fun x H1=>∃ i,x=.int i/\Q (zo i) H1
theorem Q4r {ns:List Int}:∀ {j:List aA},Vals (ns.map V.int) j->IntsAre j ns:=by
 induction ns with
 | nil=>intro j r; rw [gG] at r; cases r; exact .nil
 | cons n ns z=>
  intro j r;rw [O8] at r;cases r with
  | cons G q=>
   obtain ⟨t,e⟩:=G;subst e;exact .cons n t (z q)
section
variable {X:Cx} {e:aH} {te:TE} {lo hi:Option aH} {tl th:TO} {pos p2:Pos}
theorem Qmv:PO X zb Qku:=by
 intro pins s σ H Q I h;rw [evalPart_none];exact wpAny_pure ⟨zb,H,I,.none,h⟩
theorem Qmu (h:PE X e te):PO X (zo e) (Qtg te):=by
 intro pins s σ H Q I G;rw [evalPart_some];refine thn (h pins s σ H _ I G) fun u s1 ⟨x,H1,z,j,q1⟩=>?_
 obtain ⟨i,rfl,q⟩:=q1;obtain ⟨t,rfl⟩:=j;exact ⟨zo i,H1,z,.int i t,q⟩
def SlR (X:Cx) (r:V->Option Int->Option Int->Hp->VK->Prop):Prop:=
 ∀ (pins:List (aB × Obj)) (s:aC) (σ:St) (H:Hp) (x:V) (v vl vu:aA) (lo hi:Option Int) (sl:aB) (Q:VK),Inv X pins σ H s->RelV x v->s.heap.IsSliceOf sl vl vu .none->IsPart vl lo->IsPart vu hi->r x lo hi H Q ->
  ∃ T id,typeLookup (.type T) "__getitem__" = pure (zo (.builtin id))/\s.TypeIs v T/\aF (aI X.prog X.w) X.A (getItem v (.ref sl)) (EP X pins σ Q) X.xe s
theorem SlR.or {r O:V->Option Int->Option Int->Hp->VK->Prop} (h:SlR X r) (h':SlR X O):SlR X (fun x lo hi H Q=>r x lo hi H Q\/O x lo hi H Q):=by
 intro pins s σ H x v j U lo hi z Q I J hs pl G q;rcases q with q | q
 ·exact h pins s σ H x v j U lo hi z Q I J hs pl G q
 ·exact h' pins s σ H x v j U lo hi z Q I J hs pl G q
def tSl (r:V->Option Int->Option Int->Hp->VK->Prop) (te:TE) (tl th:TO):TE:=fun σ H Q=>te σ H fun x H1=>tl σ H1 fun l H2=>th σ H2 fun u H3=>r x l u H3 Q
theorem Qi7 {r:V->Option Int->Option Int->Hp->VK->Prop} (hr:SlR X r) (he:PE X e te) (hl:PO X lo tl) (hu:PO X hi th):PE X (.Subscript e (.Slice lo hi zb p2) pos) (tSl r te tl th):=by
 intro pins s σ H Q I h;refine Subscript_ (thn (he pins s σ H _ I h) fun v s1 ⟨x,H1,Y,U,q1⟩=>?_)
 refine wpAny_Slice (thn (hl pins s1 σ H1 _ Y q1) fun z O ⟨l,H2,I2,pl,q2⟩=>thn (hu pins O σ H2 _ I2 q2) fun G j ⟨u,J,I3,pu,q3⟩=>?_)
 rw [evalPart_none];refine wpAny_pure ?_;have I4:Inv X pins σ J { j with heap:=j.heap.push { cls:=.type "slice",data:=.fields #[z,G,.none] } }:=I3.kept (t':=j.toks) fun b ob q=>O2 _ q
 obtain ⟨T,id,hT,Z,hg⟩:=hr pins { j with heap:=j.heap.push { cls:=.type "slice",data:=.fields #[z,G,.none] } } σ J x v z G l u j.heap.objs.size Q I4 U (Heap.IsSliceOf.new ..) pl pu q3;show aF (aI X.prog X.w) X.A (subscriptTail e (.Slice lo hi zb p2) v (.ref j.heap.objs.size)) (EP X pins σ Q) X.xe { j with heap:=j.heap.push { cls:=.type "slice",data:=.fields #[z,G,.none] } };exact tail_any (ops:=[.ref j.heap.objs.size,v]) Z hT hg (by with_unfolding_all rfl)
def Qat (xs:List V) (lo hi:Option Int):List V:=(xs.drop (HT.sIx xs.length 0 lo)).take (HT.sIx xs.length xs.length hi - HT.sIx xs.length 0 lo)
theorem Q1p (xs:List V) (lo hi:Option Int):(Qat xs lo hi).length<=xs.length:=by
 unfold Qat
 rw [cY,cy];omega
def Qxa (K:bW):V->Option Int->Option Int->Hp->VK->Prop:=fun x lo hi H Q=>∃ a xs,x=.ref a/\SqT K H a xs /\
 ¬ (HT.sIx xs.length 0 lo=0/\HT.sIx xs.length xs.length hi=xs.length)/\∀ p,H p=zb->Q (.ref p) (upd H p (.tup (Qat xs lo hi)))
theorem sl_tup:SlR X (Qxa X.K):=by
 intro pins s σ H x v Y Z lo hi sl Q I O hs pl G h;obtain ⟨a,xs,rfl,U,J,q⟩:=h;cases O;obtain ⟨its,r,z,hz⟩:=I.tuple U;have j:its.toArray.size=xs.length:=by rw [O6]; exact r.length.symm
 refine ⟨"tuple",_,PyProof.Rows.slot_tuple_getitem.lookup,z.typeIs,?_⟩;refine HT.getItem_tuple_cut z hs pl G (by rw [j]; exact J) ?_ (by rw [j]; exact hz);rw [j];refine ⟨.ref s.heap.objs.size,_,I.laid (t':=s.toks) (o:=.tup (Qat xs lo hi)) (fun b ob q=>O2 _ q) (O4 _) ?_,rfl,q _ (I.hok.fresh (O4 _))⟩;exact ⟨E3 (Q1p xs lo hi) hz,_,(r.drop (HT.sIx xs.length 0 lo)).take (HT.sIx xs.length xs.length hi - HT.sIx xs.length 0 lo),IsTup.new _ _⟩
def Qxd (K:bW):R2:=fun x y H Q=>∃ a b ns ms,x=.ref a/\y=.ref b/\SqT K H a (ns.map V.int)/\SqT K H b (ms.map V.int)/\Q (.bl (HT.lexLt ns ms)) H
theorem Qre (hu:X.A.units < aU):OpR X (aV .Lt) (Qxd X.K):=by
 intro pins s σ H x y v u Q I Z ry h;obtain ⟨a,b,ns,ms,rfl,rfl,G,J,q⟩:=h;cases Z;cases ry;obtain ⟨its,r1,Y,_⟩:=I.tuple G;obtain ⟨j,z,p2,_⟩:=I.tuple J;have O:IntsAre its.toArray.toList ns:=Q4r r1;have U:IntsAre j.toArray.toList ms:=Q4r z;exact HT.lt_tupInts Y p2 O U hu ⟨.bl (HT.lexLt ns ms),H,I,rfl,q⟩
def Qq0 (K:bW):R2:=fun x y H Q=>∃ a b xs ys,x=.ref a/\y=.ref b/\SqT K H a xs/\SqT K H b ys/\xs≠[]/\xs.length + ys.length<=sizeLine /\
 (ys=[]->Q (.ref a) H)/\(ys≠[]->∀ p,H p=zb->Q (.ref p) (upd H p (.tup (xs ++ ys))))
theorem Vals.nil_iff {xs:List V} {j:List aA} (r:Vals xs j):j=[] <-> xs=[]:=by
 cases r with
 | nil=>simp
 | cons _ _=>simp
theorem op_catT:OpR X (aZ .Add) (Qq0 X.K):=by
 intro pins s σ H x y v u Q I Z ry h;obtain ⟨a,b,xs,ys,rfl,rfl,O,U,hx,hz,q1,q2⟩:=h;cases Z;cases ry;obtain ⟨its,G,Y,_⟩:=I.tuple O;obtain ⟨J,j,p2,_⟩:=I.tuple U;refine HT.cat_tup Y p2 (fun z=>hx (G.nil_iff.mp z)) (fun z=>⟨.ref a,H,I,rfl,q1 (j.nil_iff.mp z)⟩) (fun z=>?_) (by rw [<- G.length,<- j.length]; exact hz)
 refine ⟨.ref s.heap.objs.size,_,I.laid (t':=s.toks) (o:=.tup (xs ++ ys)) (fun b ob q=>O2 _ q) (O4 _) ?_,rfl,q2 (fun w=>z (j.nil_iff.mpr w)) _ (I.hok.fresh (O4 _))⟩;exact ⟨by rw [D4]; exact hz,_,G.append j,IsTup.new _ _⟩
end
def ixN (n:Nat) (i:Int):Option Nat:=if 0<=i then (if i < n then zo i.toNat else zb) else if -(n:Int)<=i then zo (i + n).toNat else zb
def atI {α:Type} (xs:List α) (i:Int):Option α:=(ixN xs.length i).bind fun j=>xs[j]?
theorem Qe5 {n:Nat} {i:Int} {j:Nat} (h:ixN n i=zo j):seqIndex? i n=zo j/\j < n/\-(n:Int)<=i/\i < n:=by
 unfold ixN at h
 by_cases h0:0<=i
 ·rw [bS h0] at h
  by_cases h1:i < n
  ·rw [bS h1] at h;have e:i.toNat=j:=br h;exact ⟨by rw [seqIndex_of h0 h1,e],by omega,by omega,h1⟩
  ·rw [bT h1] at h; cases h
 ·rw [bT h0] at h
  by_cases h1:-(n:Int)<=i
  ·rw [bS h1] at h;have e:(i + n).toNat=j:=br h;exact ⟨by rw [seqIndex_neg (by omega) h1,e],by omega,h1,by omega⟩
  ·rw [bT h1] at h; cases h
theorem atI_get {α:Type} {xs:List α} {i:Int} {v:α} (h:atI xs i=zo v):∃ j,seqIndex? i xs.length=zo j/\xs[j]?=zo v/\j < xs.length/\-(xs.length:Int)<=i/\i < xs.length:=by
 unfold atI at h;cases e:ixN xs.length i with
 | none=>rw [e] at h; cases h
 | some j=>
  rw [e] at h;obtain ⟨h1,h2,z,q⟩:=Qe5 e;exact ⟨j,h1,h,h2,z,q⟩
theorem Qek {α:Type} {xs:List α} {j:Nat} {v:α} (h:xs[j]?=zo v):atI xs (j:Int)=zo v:=by
 have q:j < xs.length:=(O1.mp h).1;have e:ixN xs.length (j:Int)=zo j:=by
  unfold ixN;rw [bS (by omega),bS (by omega)]; simp
 unfold atI; rw [e]; exact h
def Q2c (b:aH):Prop:=∀ o i,subscripted b yl o i=operate [o,i] (getItem o i)
def IxR (X:Cx) (r:R2):Prop:=
 ∀ (value slice:aH) (pins:List (aB × Obj)) (s:aC) (σ:St) (H:Hp) (x y:V) (v u:aA) (Q:VK),Inv X pins σ H s->RelV x v->RelV y u->r x y H Q ->
  subscripted slice yl v u=operate [v,u] (getItem v u)->aF (aI X.prog X.w) X.A (subscriptTail value slice v u) (EP X pins σ Q) X.xe s
def MtR (X:Cx) (id:String) (r:V->List V->Hp->VK->Prop):Prop:=
 ∀ (pins:List (aB × Obj)) (s:aC) (σ:St) (H:Hp) (x:V) (xs:List V) (v:aA) (us:List aA) (Q:VK),Inv X pins σ H s->RelV x v->Vals xs us->r x xs H Q ->
  aF (aI X.prog X.w) X.A (call (.builtin id) (v :: us)) (EP X pins σ Q) X.xe s
section
variable {X:Cx} {a b:aH} {ta tb:TE} {pos:Pos}
theorem IxR.or {r G:R2} (h:IxR X r) (h':IxR X G):IxR X (fun x y H Q=>r x y H Q\/G x y H Q):=by
 intro value j pins s σ H x y v u Q I z J q hs;rcases q with q | q
 ·exact h value j pins s σ H x y v u Q I z J q hs
 ·exact h' value j pins s σ H x y v u Q I z J q hs
theorem Qi8 {r:R2} (Y:IxR X r) (j:PE X a ta) (z:PE X b tb) (hs:Q2c b):PE X (.Subscript a b pos) (tOp r ta tb):=by
 intro pins s σ H Q I h;exact Subscript_ (Qsk j z I h fun v u G x y H2 J O U q=>Y a b pins G σ H2 x y v u Q J O U q (hs _ _))
def Qtx (K:bW):R2:=fun x y H Q=>∃ p xs i v,x=.ref p/\y=.int i/\SqL K H p xs/\atI xs i=zo v/\Q v H
def Qtv (K:bW):R2:=fun x y H Q=>∃ p xs i v,x=.ref p/\y=.int i/\SqT K H p xs/\atI xs i=zo v/\Q v H
def Qtw:R2:=fun x y H Q=>∃ z i c,x=.str z/\y=.int i/\z.length<=sizeLine/\atI z.cps.toList i=zo c/\Q (.str ⟨#[c]⟩) H
theorem ix_list:IxR X (Qtx X.K):=by
 intro value J pins s σ H x y v u Q I rx ry h hs;obtain ⟨p,xs,i,z,rfl,rfl,hq,Z,q⟩:=h;cases rx;obtain ⟨t,rfl⟩:=ry;obtain ⟨its,r,pl,hz⟩:=I.list hq;obtain ⟨j,h1,h2,h3,Y,h5⟩:=atI_get Z;obtain ⟨w,U,O⟩:=r.get h2;have hl:=r.length;have hn:=Q0y;have fin:EP X pins σ Q w s:=⟨z,H,I,O,q⟩
 by_cases h0:0<=i
 ·have G:i.toNat=j:=by
   rw [seqIndex_of h0 h5] at h1;exact br h1
  exact item_listR pl.isList h0 (by omega) (by rw [G]; simpa using U) fin hs
 ·have G:(i + (its.toArray.size:Int)).toNat=j:=by
   rw [seqIndex_neg (by omega) Y] at h1;rw [O6,<- hl];exact br h1
  exact subscriptTail_builtinR (x:=w) pl.isList.typeIs slot_list_getitem.lookup
   (wpAny_getItem_list_neg (Q:=fun r s'=>r=w/\EP X pins σ Q r s') pl.isList (by omega) (by rw [O6] <;> omega) (by omega) (by rw [G]; simpa using U) ⟨rfl,fin⟩) hs
theorem ix_tup:IxR X (Qtv X.K):=by
 intro value G pins s σ H x y v u Q I Y ry h hs;obtain ⟨p,xs,i,z,rfl,rfl,Z,U,q⟩:=h;cases Y;obtain ⟨t,rfl⟩:=ry;obtain ⟨its,r,pl,hz⟩:=I.tuple Z;obtain ⟨j,h1,h2,h3,h4,h5⟩:=atI_get U;obtain ⟨w,O,J⟩:=r.get h2;have hl:=r.length;have hn:=Q0y;have fin:EP X pins σ Q w s:=⟨z,H,I,J,q⟩;exact subscriptTail_builtinR (x:=w) pl.typeIs slot_tuple_getitem.lookup
  (getItem_tuple (j:=j) (Q:=fun r s'=>r=w/\EP X pins σ Q r s') pl (by omega) (by omega) (by rw [O6,<- hl]; exact h1) (by simpa using O) ⟨rfl,fin⟩) hs
theorem Qs6:IxR X Qtw:=by
 intro value G pins s σ H x y v u Q I U Y h hs;obtain ⟨z,i,c,rfl,rfl,hz,J,q⟩:=h;obtain ⟨t,rfl⟩:=U;obtain ⟨t',rfl⟩:=Y;obtain ⟨j,h1,h2,h3,h4,Z⟩:=atI_get J;have O:z.cps.toList.length=z.length:=by simp [eF]
 rw [O] at h1 h4 Z;have hn:=Q0y;exact tail_any (typeIs_str s z t) slot_str_getitem.lookup (getItem_str (c:=c) (by
  have e1:decide (i < -(2 ^ 63:Int))=yl:=bU (by omega);have e2:decide (i>=2 ^ 63)=yl:=bU (by omega);rw [e1,e2,eG]) (by rw [h1]; simpa using h2) ⟨.str ⟨#[c]⟩,H,I.tok _,⟨_,rfl⟩,q⟩) hs
def rIx (K:bW):R2:=fun x y H Q=>Qtx K x y H Q\/Qtv K x y H Q\/Qtw x y H Q
theorem Qja:IxR X (rIx X.K):=ix_list.or (ix_tup.or Qs6)
theorem Qcb (its:List aA) (n j:Nat) (u:aA):bw (·.setIfInBounds j u) { cls:=.type "list",data:=.seq its.toArray n }={ cls:=.type "list",data:=.seq (its.set j u).toArray n }:=by
 simp [bw]
theorem Inv.lst {pins:List (aB × Obj)} {σ:St} {H:Hp} {s:aC} {p:aB} {xs:List V} (I:Inv X pins σ H s) (h:H p=zo (.lst xs)) :
  ∃ (its:List aA) (n:Nat),Vals xs its/\s.heap.get? p=zo { cls:=.type "list",data:=.seq its.toArray n }/\xs.length<=sizeLine:=by
 obtain ⟨z,its,n,r,e⟩:=I.hok p _ h;exact ⟨its,n,r,e,z⟩
theorem Inv.lstUpd {pins:List (aB × Obj)} {σ:St} {H:Hp} {s:aC} {p:aB} {xs ys:List V} {its its':List aA} {n j:Nat} {f:Obj->Obj} (I:Inv X pins σ H s) (h:H p=zo (.lst xs))
  (J:s.heap.get? p=zo { cls:=.type "list",data:=.seq its.toArray n }) (z:f { cls:=.type "list",data:=.seq its.toArray n }={ cls:=.type "list",data:=.seq its'.toArray j }) (r:Vals ys its') (hz:ys.length<=sizeLine) (t:Nat) :
  Inv X pins σ (upd H p (.lst ys)) { s with heap:=s.heap.update p f,toks:=t }:=by
 have e:(s.heap.update p f).get? p=zo { cls:=.type "list",data:=.seq its'.toArray j }:=by
  rw [F6 f J (by rw [z] <;> rfl),z]
 refine I.write (x:=p) (e:=p) (by rw [h]; trivial) (.inl rfl) (fun b u G q=>(F1 _ _ (Ne.symm G)).trans q) ⟨_,e⟩ ?_
 exact ⟨hz,its',j,r,e⟩
def Qtt:V->V->V->Hp->(Hp->Prop)->Prop:=fun o i v H Q=>∃ p xs k j,o=.ref p/\i=.int k/\H p=zo (.lst xs)/\ixN xs.length k=zo j/\Q (upd H p (.lst (xs.set j v)))
theorem Qh8:Qvw X Qtt:=by
 intro pins s σ H o i v ov iv u Q I ro ri rv h;obtain ⟨p,xs,k,j,rfl,rfl,hp,Z,q⟩:=h;cases ro;obtain ⟨t,rfl⟩:=ri;obtain ⟨its,n,r,z,hz⟩:=I.lst hp;obtain ⟨h1,h2,Y,U⟩:=Qe5 Z;have J:=r.length;have hn:=Q0y;have O:Inv X pins σ (upd H p (.lst (xs.set j v))) { s with heap:=s.heap.update p (bw (·.setIfInBounds j u)) }:=
  I.lstUpd hp z (Qcb its n j u) (r.set rv j) (by rw [F7]; exact hz) s.toks
 by_cases h0:0<=k
 ·have G:k.toNat=j:=by
   rw [seqIndex_of h0 U] at h1;exact br h1
  exact PySem.W.ki_setAt z h0 (by omega) (by rw [O6,<- J]; exact U) (by rw [G]; exact ⟨_,O,q⟩)
 ·have G:(k + (its.toArray.size:Int)).toNat=j:=by
   rw [seqIndex_neg (by omega) Y] at h1;rw [O6,<- J];exact br h1
  exact PySem.W.ki_setBack z (by omega) (by rw [O6,<- J]; exact Y) (by omega) (by rw [G]; exact ⟨_,O,q⟩)
theorem Q74 (lo hi:Option Int) (n:Nat):(bF lo hi zb n).1=((HT.sIx n 0 lo:Nat):Int)/\(bF lo hi zb n).2.1=((HT.sIx n n hi:Nat):Int)/\(bF lo hi zb n).2.2=1:=by
 refine ⟨?_,?_,rfl⟩
 ·cases lo with
  | none=>simp [bF,HT.sIx]
  | some i=>
   simp only [bF,HT.sIx,gH,show (1:Int) > 0 by decide,if_true]
   by_cases h:i < 0
   ·simp only [h,if_true] <;> omega
   ·simp only [h,if_false] <;> omega
 ·cases hi with
  | none=>simp [bF,HT.sIx]
  | some i=>
   simp only [bF,HT.sIx,gH,show (1:Int) > 0 by decide,if_true]
   by_cases h:i < 0
   ·simp only [h,if_true] <;> omega
   ·simp only [h,if_false] <;> omega
theorem Q5g (its:List aA) (lo hi:Option Int):slicePick its.toArray lo hi zb=((its.drop (HT.sIx its.length 0 lo)).take (HT.sIx its.length its.length hi - HT.sIx its.length 0 lo)).toArray:=by
 obtain ⟨h1,h2,j⟩:=Q74 lo hi its.toArray.size;unfold slicePick;rw [h1,h2,j];simp only [sliceRange_one,pick_run,O6] <;> rfl
def Qxb (K:bW):V->Option Int->Option Int->Hp->VK->Prop:=fun x lo hi H Q=>∃ a xs,x=.ref a/\SqL K H a xs/\∀ p,H p=zb->Q (.ref p) (upd H p (.lst (Qat xs lo hi)))
theorem Qm1:SlR X (Qxb X.K):=by
 intro pins s σ H x v U Y lo hi Z Q I J hs pl G h;obtain ⟨a,xs,rfl,O,q⟩:=h;cases J;obtain ⟨its,r,z,hz⟩:=I.list O;have j:=r.length;refine ⟨"list",_,slot_list_getitem.lookup,z.isList.typeIs,?_⟩;refine wpAny_getItem_list_slice z.isList hs pl G .none (by simp) ?_ (by rw [O6] <;> omega);rw [Q5g,<- j];refine ⟨.ref s.heap.objs.size,_,I.laid (t':=s.toks) (o:=.lst (Qat xs lo hi)) (fun b ob q=>O2 _ q) (O4 _) ?_,rfl,q _ (I.hok.fresh (O4 _))⟩;exact ⟨E3 (Q1p xs lo hi) hz,_,0,(r.drop (HT.sIx xs.length 0 lo)).take (HT.sIx xs.length xs.length hi - HT.sIx xs.length 0 lo),D1 _ rfl⟩
def zq:V->Bool
 | .non=>yo
 | .bl _=>yo
 | .int _=>yo
 | .str _=>yo
 | _=>yl
def eqV:V->V->Bool
 | .non,.non=>yo
 | .bl a,.bl b=>a == b
 | .bl a,.int b=>(if a then 1 else 0) == b
 | .int a,.bl b=>a == (if b then 1 else 0)
 | .int a,.int b=>a == b
 | .str a,.str b=>a == b
 | _,_=>yl
theorem Qsb {A:aM} {s:aC} {y x:V} {u v:aA} (z:RelV y u) (j:RelV x v) (G:zq y=yo) (q:zq x=yo):SeqAt.EqAt A s u v (eqV y x):=by
 cases y with
 | non=>
  cases z;cases x with
  | non=>cases j; exact SeqAt.EqAt.same _
  | bl b=>cases j; exact SeqAt.EqAt.none_bool b
  | int b=>obtain ⟨t,rfl⟩:=j; exact SeqAt.EqAt.none_int b t
  | str b=>obtain ⟨t,rfl⟩:=j; exact SeqAt.EqAt.none_str b t
  | _=>exact absurd (show yl=yo from q) O7
 | bl a=>
  cases z;cases x with
  | non=>cases j; exact SeqAt.EqAt.bool_none a
  | bl b=>cases j; exact SeqAt.EqAt.bool_bool a b
  | int b=>obtain ⟨t,rfl⟩:=j; exact SeqAt.EqAt.bool_int a b t
  | str b=>obtain ⟨t,rfl⟩:=j; exact SeqAt.EqAt.bool_str a b t
  | _=>exact absurd (show yl=yo from q) O7
 | int a=>
  obtain ⟨t',rfl⟩:=z;cases x with
  | non=>cases j; exact SeqAt.EqAt.int_none a t'
  | bl b=>cases j; exact SeqAt.EqAt.int_bool a t' b
  | int b=>obtain ⟨t,rfl⟩:=j; exact SeqAt.EqAt.int_int a t' b t
  | str b=>obtain ⟨t,rfl⟩:=j; exact SeqAt.EqAt.int_str a t' b t
  | _=>exact absurd (show yl=yo from q) O7
 | str a=>
  obtain ⟨t',rfl⟩:=z;cases x with
  | non=>cases j; exact SeqAt.EqAt.str_none a t'
  | bl b=>cases j; exact SeqAt.EqAt.str_bool a t' b
  | int b=>obtain ⟨t,rfl⟩:=j; exact SeqAt.EqAt.str_int a t' b t
  | str b=>obtain ⟨t,rfl⟩:=j; exact SeqAt.EqAt.str_str a t' b t
  | _=>exact absurd (show yl=yo from q) O7
 | _=>exact absurd (show yl=yo from G) O7
def eqU (x:V) (u:aA):Bool:=match u with
 | .none=>eqV .non x
 | .bool b=>eqV (.bl b) x
 | .int i _=>eqV (.int i) x
 | .str z _=>eqV (.str z) x
 | _=>yl
theorem Qjy {x y:V} {u:aA} (r:RelV y u) (f:zq y=yo):eqU x u=eqV y x:=by
 cases y with
 | non=>cases r; rfl
 | bl b=>cases r; rfl
 | int i=>obtain ⟨t,rfl⟩:=r; rfl
 | str z=>obtain ⟨t,rfl⟩:=r; rfl
 | _=>exact absurd (show yl=yo from f) O7
theorem Q0d {x:V}:∀ {xs:List V} {j:List aA},Vals xs j->xs.all zq=yo->j.any (eqU x)=xs.any fun y=>eqV y x
 | _,_,.nil,_=>rfl
 | y :: xs,u :: j,.cons r t,f=>by
  rw [cN,E6] at f;rw [cm,cm,Qjy r f.1,Q0d t f.2]
theorem jc {A:aM} {s:aC} {x:V} {v:aA} (G:RelV x v) (z:zq x=yo):∀ {xs:List V} {q:List aA},Vals xs q->xs.all zq=yo->∀ u∈q,SeqAt.EqAt A s u v (eqU x u)
 | _,_,.nil,_=>fun u j=>by cases j
 | y :: xs,u :: q,.cons r t,f=>fun J j=>by
  rw [cN,E6] at f;rcases D5.mp j with rfl | j
  ·rw [Qjy r f.1]; exact Qsb r G f.1 z
  ·exact jc G z t f.2 J j
def inV (x:V) (xs:List V):Bool:=xs.any fun y=>eqV y x
def rIn (K:bW) (neg:Bool):R2:=fun x y H Q=>∃ p xs,y=.ref p/\(SqL K H p xs\/SqT K H p xs)/\zq x=yo/\xs.all zq=yo/\Q (.bl (if neg then !inV x xs else inV x xs)) H
theorem Qfk:OpR X (aV .In) (rIn X.K yl):=by
 intro pins s σ H x y v u Q I J O h;obtain ⟨p,xs,rfl,j,G,fs,q⟩:=h;cases O;rcases j with j | j
 ·obtain ⟨its,r,pl,hz⟩:=I.list j;refine SeqAt.in_listAt (eqU x) pl.isList (fun w z=>jc J G r fs w (by simpa using z)) ⟨.bl _,H,I,rfl,?_⟩
  rw [show its.toArray.any (eqU x)=its.any (eqU x) by simp,Q0d r fs];exact q
 ·obtain ⟨its,r,pl,hz⟩:=I.tuple j;refine SeqAt.in_tupleAt (eqU x) pl (fun w z=>jc J G r fs w (by simpa using z)) ⟨.bl _,H,I,rfl,?_⟩
  rw [show its.toArray.any (eqU x)=its.any (eqU x) by simp,Q0d r fs];exact q
theorem Q7x:OpR X (aV .NotIn) (rIn X.K yo):=by
 intro pins s σ H x y v u Q I J O h;obtain ⟨p,xs,rfl,j,G,fs,q⟩:=h;cases O;rcases j with j | j
 ·obtain ⟨its,r,pl,hz⟩:=I.list j;refine SeqAt.notIn_listAt (eqU x) pl.isList (fun w z=>jc J G r fs w (by simpa using z)) ⟨.bl _,H,I,rfl,?_⟩
  rw [show its.toArray.any (eqU x)=its.any (eqU x) by simp,Q0d r fs];exact q
 ·obtain ⟨its,r,pl,hz⟩:=I.tuple j;refine SeqAt.notIn_tupleAt (eqU x) pl (fun w z=>jc J G r fs w (by simpa using z)) ⟨.bl _,H,I,rfl,?_⟩
  rw [show its.toArray.any (eqU x)=its.any (eqU x) by simp,Q0d r fs];exact q
theorem Q92:V8 X (.builtin "len") (fun xs H Q=>∃ p ys,xs=[.ref p]/\(SqL X.K H p ys\/SqT X.K H p ys)/\Q (.int ys.length) H):=by
 intro pins s σ H xs O Q I r h;obtain ⟨p,ys,rfl,z,q⟩:=h;obtain ⟨u,rfl,J⟩:=K3 r;cases J;have U:=Q0y;rcases z with z | z
 ·obtain ⟨its,G,pl,hz⟩:=I.list z;have j:=G.length;exact Calls.call_len_list pl.isList (by simp only [O6] <;> omega) ⟨.int ys.length,H,I.tok _,⟨s.toks + 1,by rw [O6,j]⟩,q⟩
 ·obtain ⟨its,G,pl,hz⟩:=I.tuple z;have j:=G.length;exact len_tuple pl (by simp only [O6] <;> omega) ⟨.int ys.length,H,I.tok _,⟨s.toks + 1,by rw [O6,j]⟩,q⟩
theorem Q91:V8 X (.builtin "len") (fun xs H Q=>∃ z,xs=[.str z]/\z.length<=sizeLine/\Q (.int z.length) H):=by
 intro pins s σ H xs j Q I r h;obtain ⟨z,rfl,hz,q⟩:=h;obtain ⟨u,rfl,t,rfl⟩:=K3 r;have G:=Q0y;exact len_str (by omega) ⟨.int z.length,H,I.tok _,⟨_,rfl⟩,q⟩
theorem Q0a:V8 X (.type "list") (fun xs H Q=>∃ p ys,xs=[.ref p]/\(SqL X.K H p ys\/SqT X.K H p ys)/\∀ l,H l=zb->Q (.ref l) (upd H l (.lst ys))):=by
 intro pins s σ H xs Z Q I r h;obtain ⟨p,ys,rfl,J,q⟩:=h;obtain ⟨u,rfl,Y⟩:=K3 r;cases Y;have fin:∀ (its:List aA),Vals ys its->ys.length<=sizeLine->∀ (h':Heap) (z:Nat),(∀ b o',s.heap.get? b=zo o'->h'.get? b=zo o') ->
   h'.get? s.heap.objs.size=zo { cls:=.type "list",dict:=zb,data:=.seq its.toArray z,slots:=#[] }->EP X pins σ Q (.ref s.heap.objs.size) { s with heap:=h' }:=fun its j hz h' z kp e=>
  ⟨.ref s.heap.objs.size,_,I.laid (t':=s.toks) kp (O4 _) (show ObjOk X.prog X.w _ h' _ (.lst ys) from ⟨hz,its,z,j,e⟩),rfl,q _ (I.hok.fresh (O4 _))⟩
 rcases J with J | J
 ·obtain ⟨its,j,pl,hz⟩:=I.list J;have G:=j.length;obtain ⟨o,O,U,n,hd⟩:=pl.isList;exact call_list_seq p (.inl rfl) O U hd (fun h' z kp e=>fin its j hz h' z kp e) (by simp only [O6] <;> omega)
 ·obtain ⟨its,j,pl,hz⟩:=I.tuple J;have G:=j.length;obtain ⟨o,O,U,n,hd⟩:=pl;exact call_list_seq p (.inr rfl) O U hd (fun h' z kp e=>fin its j hz h' z kp e) (by simp only [O6] <;> omega)
theorem zu:V8 X (.type "tuple") (fun xs H Q=>∃ p ys,xs=[.ref p]/\((SqL X.K H p ys/\∀ l,H l=zb->Q (.ref l) (upd H l (.tup ys)))\/(SqT X.K H p ys/\Q (.ref p) H))):=by
 intro pins s σ H xs Y Q I r h;obtain ⟨p,ys,rfl,h⟩:=h;obtain ⟨u,rfl,U⟩:=K3 r;cases U;rcases h with ⟨z,q⟩ | ⟨z,q⟩
 ·obtain ⟨its,j,pl,hz⟩:=I.list z;have J:=j.length;refine call_tuple_list pl.isList (fun h' kp=>?_) (by simp only [O6] <;> omega);have G:Inv X pins σ H { s with heap:=h' }:=I.kept (t':=s.toks) kp;have O:Inv X pins σ (upd H h'.objs.size (.tup ys)) { s with heap:=h'.push { cls:=.type "tuple",data:=.seq its.toArray } }:=
   G.laid (t':=s.toks) (fun b o e=>O2 _ e) (O4 _) (show ObjOk X.prog X.w _ _ _ (.tup ys) from ⟨hz,its,j,IsTup.new _ _⟩)
  exact ⟨.ref h'.objs.size,_,O,rfl,q _ (G.hok.fresh (O4 _))⟩
 ·obtain ⟨its,j,pl,hz⟩:=I.tuple z;exact call_tuple_same pl ⟨.ref p,H,I,rfl,q⟩
def tyV (K:bW) (T:String) (x:V) (H:Hp):Prop:=match x with
 | .str _=>T = "str"
 | .int _=>T = "int"
 | .ref p=>(T = "list" /\ ∃ xs,SqL K H p xs)\/(T = "tuple" /\ ∃ o,K.lookup p=zo o/\o.cls=.type "tuple" /\ o.dict=zb) \/
   (T = "dict" /\ ((∃ kvs,H p=zo (.dK kvs))\/∃ kvs,H p=zo (.dT kvs)))\/(T = "set" /\ ∃ S n,H p=zo (.set S n))
 | _=>False
theorem Qqh {pins:List (aB × Obj)} {σ:St} {H:Hp} {s:aC} {T:String} {x:V} {v:aA} (I:Inv X pins σ H s) (r:RelV x v) (ty:tyV X.K T x H) :
  s.TypeIs v T/\∀ a,v=.ref a->∃ ob,s.heap.get? a=zo ob/\ob.dict=zb:=by
 cases x with
 | str z=>
  obtain ⟨t,rfl⟩:=r;cases (show T = "str" from ty);exact ⟨typeIs_str s z t,fun _ e=>nomatch e⟩
 | int i=>
  obtain ⟨t,rfl⟩:=r;cases (show T = "int" from ty);exact ⟨typeIs_int s i t,fun _ e=>nomatch e⟩
 | ref p=>
  cases r;rcases ty with ⟨rfl,xs,q⟩ | ⟨rfl,o,j,G,hd⟩ | ⟨rfl,j⟩ | ⟨rfl,S,n,j⟩
  ·obtain ⟨its,_,pl,_⟩:=I.list q;refine ⟨pl.isList.typeIs,fun a e=>?_⟩;cases e;obtain ⟨o,n,e,c,hd,_⟩:=pl;exact ⟨o,e,hd⟩
  ·refine ⟨⟨o,I.kIn p o j,G⟩,fun a e=>?_⟩
   cases e;exact ⟨o,I.kIn _ o j,hd⟩
  ·have z:∃ o,s.heap.get? p=zo o/\o.ExactDict:=by
    rcases j with ⟨kvs,j⟩ | ⟨kvs,j⟩
    ·obtain ⟨_,_,_,_,o,_,_,e,ex,_⟩:=I.hok p _ j;exact ⟨o,e,ex⟩
    ·obtain ⟨_,_,_,_,o,_,_,e,ex,_⟩:=I.hok p _ j;exact ⟨o,e,ex⟩
   obtain ⟨o,e,ex⟩:=z;refine ⟨⟨o,e,ex.1⟩,fun a e2=>?_⟩
   cases e2;exact ⟨o,e,ex.2.1⟩
  ·obtain ⟨o,_,_,_,e,ex,_⟩:=I.hok p _ j;refine ⟨⟨o,e,ex.1⟩,fun a e2=>?_⟩
   cases e2;exact ⟨o,e,ex.2.1⟩
 | _=>exact False.elim ty
def tBM (K:bW) (T:String) (r:V->List V->Hp->VK->Prop) (to:TE) (t:TA):TE:=fun σ H Q=>to σ H fun x H1=>tyV K T x H1/\t σ H1 fun xs H2=>r x xs H2 Q
variable {o e:aH} {es:List aH} {to:TE} {t:TA} {name:Str} {apos cpos:Pos} {T id:String} {r:V->List V->Hp->VK->Prop}
theorem Qdk (pa:PlainAttrs T) (slot:Slot T name id) (J:typeOf (.builtin id)=pure (.type "method_descriptor")) (hm:MtR X id r) (ho:PE X o to) (ha:PA X (e :: es) t)
  (z:bJ o name X.env (aP o X.env)=aP o X.env:=by rfl)
  (G:((aY cpos (aN (e :: es) X.env)).all (fun x=>!x.1) && (backToKw cpos (keywordEach [] X.env)).all (fun x=>x.1.isSome)
   && decide ((e :: es).length + ([]:List Keyword).length + (if ([]:List Keyword).isEmpty then 0 else 1) < 30))=yo:=by rfl)
  (q:(apos.endLine == cpos.line)=yo:=by rfl) (hs:aN (e :: es) X.env=(yl,aP e X.env) :: aN es X.env:=by rfl) (j:(aY cpos (aN es X.env)).any (·.1)=yl:=by rfl) :
  PE X (.Call (.Attribute o name apos) (e :: es) [] cpos) (tBM X.K T r to t):=by
 intro pins s σ H Q I h;refine wpAny_Call_method_late z G q rfl (thn (ho pins s σ H _ I h) fun v s1 ⟨x,H1,Y,U,ty,q1⟩=>?_)
 obtain ⟨h1,h2⟩:=Qqh Y U ty;refine ⟨T,id,pa,slot,J,h1,h2,?_⟩;have O:=ha cpos pins s1 σ H1 _ Y q1;rw [hs] at O ⊢;refine Calls.callWith_builtin (by show (yl || (aY cpos (aN es X.env)).any (·.1))=yl; rw [j] <;> rfl) (Calls.evalArgs_plain ?_);exact thn O fun us s2 ⟨vs,H2,I2,Z,q2⟩=>hm pins s2 σ H2 x vs v us Q I2 U Z q2
end
def MtM (X:Cx) (id:String) (r:V->List V->Hp->VK->Prop):Prop:=
 ∀ (pins:List (aB × Obj)) (s:aC) (σ:St) (H:Hp) (x:V) (xs:List V) (v:aA) (us:List aA) (Q:VK),Inv X pins σ H s->RelV x v->Vals xs us->r x xs H Q ->
  aF (aI X.prog X.w) X.A (call (.builtin id) (v :: us)) (EP X pins σ Q) X.xe s
theorem Vals.one:∀ {x:V} {j:List aA},Vals [x] j->∃ u,j=[u]/\RelV x u
 | _,_,.cons r .nil=>⟨_,rfl,r⟩
theorem Vals.rep {xs:List V} {j:List aA} (h:Vals xs j):∀ k:Nat,Vals (bh k xs).flatten (bh k j).flatten
 | 0=>.nil
 | k + 1=>by
  rw [cz,cz,dG,dG];exact Vals.append h (Vals.rep h k)
theorem Q14 (its:List aA):∀ (k:Nat) (acc:List aA),
  cP (fun x1 x2=>x1 ++ x2) acc.toArray (bh k its.toArray)=(acc ++ (bh k its).flatten).toArray
 | 0,acc=>by simp
 | k + 1,acc=>by
  have e:acc.toArray ++ its.toArray=(acc ++ its).toArray:=by simp
  have e2:(acc ++ its) ++ (bh k its).flatten=acc ++ (bh (k + 1) its).flatten:=by
   rw [cz,dG,da]
  rw [<- e2,<- Q14 its k (acc ++ its),<- e,cz,G7]
section
variable {X:Cx} {pins:List (aB × Obj)} {σ:St} {H:Hp} {s:aC} {l b:aB} {xs ys zs:List V}
theorem Inv.lset {its its':List aA} {n:Nat} {f:Array aA->Array aA} {t':Nat} (I:Inv X pins σ H s) (z:H l=zo (.lst xs))
  (e:s.heap.get? l=zo { cls:=.type "list",data:=.seq its.toArray n }) (J:f its.toArray=its'.toArray) (G:Vals ys its') (hz:ys.length<=sizeLine) :
  Inv X pins σ (upd H l (.lst ys)) { s with heap:=s.heap.update l (bw f),toks:=t' }:=by
 have q:=PySem.IsL.update e f;rw [J] at q;refine I.write (x:=l) (e:=l) (by rw [z]; exact trivial) (.inl rfl) (fun U u j O=>(F1 s.heap (bw f) (Ne.symm j)).trans O) ⟨_,q⟩ ?_
 exact ⟨hz,its',_,G,q⟩
theorem Inv.lnew {its:List aA} {t':Nat} (I:Inv X pins σ H s) (j:Vals ys its) (hz:ys.length<=sizeLine) :
  Inv X pins σ (upd H s.heap.objs.size (.lst ys)) { s with heap:=s.heap.push { cls:=.type "list",data:=.seq its.toArray },toks:=t' }:=
 I.laid (fun _ _ q=>O2 _ q) (O4 _) ⟨hz,its,0,j,D1 _ rfl⟩
theorem Inv.fresh (I:Inv X pins σ H s):H s.heap.objs.size=zb:=I.hok.fresh (O4 _)
theorem Inv.lstM (I:Inv X pins σ H s) (j:H l=zo (.lst xs)):xs.length<=sizeLine/\∃ (its:List aA) (n:Nat),Vals xs its/\xs.length=its.length/\s.heap.get? l=zo { cls:=.type "list",data:=.seq its.toArray n }:=by
 obtain ⟨z,its,n,r,e⟩:=I.hok l _ j;exact ⟨z,its,n,r,r.length,e⟩
theorem Qir {n:Nat} (h:n<=sizeLine):Builtin.List.listTooLong n=yl:=by
 unfold Builtin.List.listTooLong;exact bU (by omega)
end
section
variable {X:Cx}
def Qmk:V->List V->Hp->VK->Prop:=fun x vs H Q=>∃ l xs y,x=.ref l/\vs=[y]/\H l=zo (.lst xs)/\xs.length < sizeLine/\Q .non (upd H l (.lst (xs ++ [y])))
theorem Qfv:MtM X "list.append" Qmk:=by
 intro pins s σ H x vs v O Q I J G h;obtain ⟨l,xs,y,rfl,rfl,j,hz,q⟩:=h;cases J;obtain ⟨u,rfl,ru⟩:=G.one;obtain ⟨z,its,n,r,U,e⟩:=I.lstM j;refine az F.slot_list_append ⟨_,e,rfl⟩ F.entry_list_append (F.args_list_append_2 _ _) (gI l its.toArray n u (by rw [O6]; omega)) ⟨e,?_⟩;refine ⟨.non,_,I.lset (its':=its ++ [u]) j e (by simp) (r.append (.cons ru .nil)) ?_,rfl,q⟩;rw [D4,gJ];omega
def Qxe:R2:=fun x y H Q=>∃ l b xs zs,x=.ref l/\y=.ref b/\H l=zo (.lst xs)/\H b=zo (.lst zs)/\xs.length + zs.length<=sizeLine/\∀ p,H p=zb->Q (.ref p) (upd H p (.lst (xs ++ zs)))
theorem Q0p:OpR X (aZ .Add) Qxe:=by
 intro pins s σ H x y v u Q I U Z h;obtain ⟨l,b,xs,zs,rfl,rfl,J,O,hz,q⟩:=h;cases U;cases Z;obtain ⟨z,its,n,r,hl,e⟩:=I.lstM J;obtain ⟨z2,j,n2,G,Y,e2⟩:=I.lstM O;refine PySem.P.add_list e e2 ?_ (by rw [O6,O6]; omega);have ea:its.toArray ++ j.toArray=(its ++ j).toArray:=by simp
 rw [ea];exact ⟨.ref _,_,I.lnew (t':=s.toks) (r.append G) (by rw [D4]; omega),rfl,q _ I.fresh⟩
def Qxc:R2:=fun x y H Q=>∃ l k xs,x=.ref l/\y=.int k/\H l=zo (.lst xs)/\-(2 ^ 63)<=k/\k < 2 ^ 63/\xs.length * k.toNat<=sizeLine /\
 ∀ p,H p=zb->Q (.ref p) (upd H p (.lst (bh k.toNat xs).flatten))
theorem Q8g {α:Type} (xs:List α) (k:Nat):(bh k xs).flatten.length=k * xs.length:=by
 induction k with
 | zero=>simp
 | succ k j=>rw [cz,dG,D4,j,Nat.succ_mul,Nat.add_comm]
theorem Qra:OpR X (aZ .Mult) Qxc:=by
 intro pins s σ H x y v u Q I rx ry h;obtain ⟨l,k,xs,rfl,rfl,Z,h1,h2,hz,q⟩:=h;cases rx;obtain ⟨t,rfl⟩:=ry;obtain ⟨z,its,n,r,hl,e⟩:=I.lstM Z;have J:its.toArray.size * k.toNat<=sizeLine:=by rw [O6,<- hl]; exact hz
 have Y:¬ its.toArray.size * k.toNat > (2 ^ 63 - 1) / 8:=by
  have:(sizeLine:Nat)<=(2 ^ 63 - 1) / 8:=by decide
  omega
 have O:¬ (!Builtin.List.listFitsIndex k)=yo:=by
  rw [fitsIndex_both h1 h2];exact O7
 have j:¬ Builtin.List.listTooLong (its.toArray.size * k.toNat)=yo:=by
  rw [Qir J];exact O7
 have G:cP (fun x1 x2=>x1 ++ x2) #[] (bh (if its.toArray.isEmpty=yo then 0 else k.toNat) its.toArray)=(bh k.toNat its).flatten.toArray:=by
  have f0:∀ m:Nat,cP (fun x1 x2=>x1 ++ x2) #[] (bh m its.toArray)=(bh m its).flatten.toArray:=fun m=>by
   have:=Q14 its m [];rw [gK] at this;exact this
  rw [f0];cases its with
  | nil=>simp
  | cons a r'=>rw [bT (by simp)]
 refine wpAny_binaryOp_repeat_ref (T := "list") (U := "int") (by decide) ⟨_,e,rfl⟩ (fun s'=>typeIs_int s' k t) noFill_list_mul F.fills_int_mul F.slot_int_rmul repeat_list F.slot_int_index.lookup
  (az F.slot_int_rmul (typeIs_int s k t) F.entry_int_rmul (F.args_int_rmul_2 _ _) (int___rmul___int_list k t l its.toArray n)
   ⟨e,rfl,⟨_,e,rfl⟩,az F.slot_list_mul ⟨_,e,rfl⟩ F.entry_list_mul (F.args_list_mul_2 _ _) (AutoListH.list___mul___list_int_3 l its.toArray n k t O Y j) ⟨e,?_⟩⟩)
 rw [G];exact ⟨.ref _,_,I.lnew (t':=s.toks) (r.rep k.toNat) (by rw [Q8g,fI]; exact hz),rfl,q _ I.fresh⟩
end
section
variable {prog:aK} {w:aJ} {A:aM} {E:aA->aC->Prop} {s:aC}
end
section
variable {X:Cx}
end
end L2
namespace Att
open PySem PySem.W PySem.Calls PyProof.Rows
theorem Q1z {P:Params} {h:Heap}:∀ (ns:List Int) (vs:List aA),WellAll P h vs (ns.map WData.int)->IntsAre vs ns:=by
 intro ns
 induction ns with
 | nil=>
  intro vs w;rw [gG] at w;cases w;exact .nil
 | cons n ns j=>
  intro vs w;rw [O8] at w;cases w with
  | cons a b=>
   cases a;exact .cons _ _ (j _ b)
theorem Qf4 {l:OpenLaw} {n:Nat} (hn:l.most=zo n) {P:Params} {h:Heap} {args:List WData} {z:List aA}
  (j:l.row.toRowW.claim.pre args=yo) (Z:WellAll P h z args) :
  ∃ a vs ns,z=[ba a]/\args=[WData.list (ns.map WData.int)]/\h.get? a=zo { cls:=.type "list",data:=.seq vs.toArray }/\IntsAre vs ns/\ns.length<=n:=by
 have Y:WShape.hasAll [] args [.list .int]=yo:=(pre_splitW j).1;have hc:l.pre.holds [] { args:=args }=yo:=(pre_splitW j).2;obtain ⟨d,r,rfl,h1,h2⟩:=hasAllW_cons Y;obtain rfl:=hasAllW_nil h2;obtain ⟨xs,rfl,h3⟩:=hasW_list h1;obtain ⟨ns,rfl⟩:=items_int h3;have J:ns.length<=n:=by
  unfold OpenLaw.pre at hc;have U:(WTm.not (.lt (.lit (.int (n:Int))) (.len (.arg 0)))).holds [] { args:=[.list (ns.map .int)] }=yo:=by
   have U:=(holds_andW hc).1;rw [hn] at U;exact U
  have O:=condW_of U (w_not (w_lt w_lit (w_len_list (w_arg rfl))));rw [O3] at O;refine Nat.le_of_not_lt fun q=>?_
  have q':(n:Int) < ((ns.length:Nat):Int):=by omega
  first
   | (rw [bV q'] at O; exact absurd O (by decide))
   | (simp at O; omega)
 cases Z with
 | cons w1 w2=>
  cases w2;cases w1 with
  | list ho G=>exact ⟨_,_,ns,rfl,rfl,ho,Q1z ns _ G,J⟩
theorem Qfe (l:OpenLaw) (args:List WData):l.row.toRowW.claim.post args (.bool yo) args=yo:=
 postW_of (r:=l.row.toRowW) (X:=(yo == yo))
  (show WShape.has [] (.bool yo) .bool=yo by first | rfl | decide | simp [WShape.has,WShape.arms,WShape.armsAll])
  (show (WTm.eq .res (.lit (.bool yo))).value [] { args:=args,res:=zo (.bool yo),after:=args }=zo (.bool (yo == yo)) from w_eq_bool (w_res rfl) w_lit) rfl
theorem attach_call {l:OpenLaw} {n:Nat} {q:aK} {z:List Str} {XP:(Str->Option aA)->Heap->Prop} {YP:aJ->Heap->Prop} {d:DefRec}
  (hn:l.most=zo n) (a3:d.params.defaults=[])
  (call:∀ (w:aJ) (s₀ j:aC) (mg mb:Str->Option aA) (fa:aB) (o:Obj) (pm cd O:aA) (a:aB) (vs:List aA) (ns:List Int),
   Ground q z [] XP w s₀ mg mb j.heap->YP w j.heap ->
   j.heap.get? fa=zo o->o.data=.func (docDef d.name d.params d.body d.scope pm cd O)->j.heap.CodeRec cd d.name->mg d.name=zo (.ref fa) ->
   j.heap.get? a=zo { cls:=.type "list",data:=.seq vs.toArray }->IntsAre vs ns->ns.length<=n->j.gens=#[] ->
   codeAny (aI l.prog w) callerA (.call (.ref fa) ⟨[.ref a],[]⟩) (fun r s'=>r=.ok (.ret (.bool yo))/\OldK j.heap s'.heap/\s'.os=j.os/\AllBare s'.gens) j) :
  WalkO q z XP YP l.row.toRowW d [] (fun f vs=>fJ f vs):=by
 intro w s₀ j mg mb G Y fa o pm cd O dV kV ho hd a5 hD a4 hg args a6 as a1 a7 a9 a2 a8;obtain rfl:dV=.none:=Dflts.none hD a3;obtain rfl:kV=.none:=Dflts.noKw hD;obtain ⟨a,vs,ns,rfl,rfl,Z,J,U⟩:=Qf4 hn a1 a2;refine enter_call (bI (call w s₀ j mg mb fa o pm cd O a vs ns G Y ho (fd_plain hd) a5 a4 Z J U hg) fun r s' hq=>?_)
 obtain ⟨rfl,h2,h3,h4⟩:=hq;exact ⟨.inl ⟨.bool yo,.bool yo,[],rfl,fun _=>rfl,.bool yo,Qfe l _,fun _=>⟨fK,fun _ hm=>(nomatch hm)⟩⟩,h2,h3,h4⟩
section
variable {prog:aK} {w:aJ} {A:aM} {E:aA->aC->Prop} {s:aC} {K:Frag}
end
end Att
namespace L2
open PySem PySem.Spec PyProof.Rows
theorem Q5t:∀ {vs:List aA} {ns:List Int},IntsAre vs ns->Vals (ns.map V.int) vs
 | _,_,.nil=>.nil
 | _,_,.cons n t h=>.cons ⟨t,rfl⟩ (Q5t h)
def Qsp (H:Hp):Prop:=∀ b,H b=zb\/∃ o xs,H b=zo (.frz o (.lst xs))
theorem Qj5 {P:aK} {w:aJ} {K:bW} {mg mb:Str->Option aA} {CX:CXT} {k:Nat} {fa a:aB} {fd:aO} {x:Str} {sp:Sp} {j:aC} {vs:List aA} {ns:List Int}
  (KX:K.In j.heap) (Z:j.heap.Ns aQ mg) (J:j.heap.Ns builtinsNs mb) (a8:∀ x:Str,x≠"__name__" -> mb x=aX x) (a3:j.heap.NoLimit) (hg:j.gens=#[])
  (ha:j.heap.get? a=zo { cls:=.type "list",data:=.seq vs.toArray }) (hi:IntsAre vs ns) (hl:ns.length<=sizeLine) (hr:Room k callerA)
  (F:∀ base:Heap,K.In base->base.Ns aQ mg->FnOk P w K mg base CX k fa fd [x] sp) (Y:∀ (s:aC) (u:aA),BindsTo s fd ⟨[u],[]⟩ [(x,u)])
  (a7:∀ H:Hp,Qsp H->SqL K H a (ns.map V.int)->sp [.ref a] H (fun v _=>v=.bl yo) fun _ _ _=>False)
  (a5:∀ H e s',CX [] H j (fun _ _ _=>False) e s'->False) :
  codeAny (aI P w) callerA (.call (.ref fa) ⟨[.ref a],[]⟩) (fun r s'=>r=.ok (.ret (.bool yo))/\OldK j.heap s'.heap/\s'.os=j.os/\AllBare s'.gens) j:=by
 have rv:=Q5t hi;have a4:=hi.length;have U:∀ H:Hp,Qsp H->SqL K H a (ns.map V.int)->HOk P w H j.heap->(∀ b,H b≠zb->b=a)->(H a≠zb->K.lookup a=zb) ->
   codeAny (aI P w) callerA (.call (.ref fa) ⟨[.ref a],[]⟩) (fun r s'=>r=.ok (.ret (.bool yo))/\OldK j.heap s'.heap/\s'.os=j.os/\AllBare s'.gens) j:=by
  intro H hO hS hok hA hK;have G:∀ {b:aB} {o:Obj},j.heap.get? b=zo o->H b=zb->(Q8s j.heap H).get? b=zo o:=fun e n=>Qjj e n
  have a6:∀ {b:aB} {o:Obj} {es:Array DictEntry} {ep:Nat},j.heap.get? b=zo o->o.data=.dict es ep->H b=zb:=fun {b o es ep} e d=>by
   cases q:H b with
   | none=>rfl
   | some u=>
    have e':b=a:=hA b (by rw [q]; simp);subst e';rw [ha] at e; cases e;have d':Data.seq vs.toArray _=Data.dict es ep:=d;cases d'
  have O:∀ {b:aB} {m:Str->Option aA},j.heap.Ns b m->(Q8s j.heap H).Ns b m:=fun {b m} ⟨o,es,ep,e,d,r⟩=>⟨o,es,ep,G e (a6 e d),d,r⟩
  have a1:K.In (Q8s j.heap H):=fun b o e=>G (KX b o e) (by
   cases q:H b with
   | none=>rfl
   | some u=>
    have e':b=a:=hA b (by rw [q]; simp);subst e';rw [hK (by rw [q]; simp)] at e; cases e)
  have hM:Mod K mg (Q8s j.heap H):=⟨a1,O Z,⟨mb,O J,a8⟩,let ⟨mc,h1,h2⟩:=a3; ⟨mc,O h1,h2⟩⟩;have e0:Env0 P w K mg (Q8s j.heap H) callerA [] j H:=⟨rfl,hM,fun b o e=>Qnd e,fL (Qg8 _ _),trivial,fun b J=>absurd (show b∈([]:List aB) from J) (by simp),hok,.of_eq hg⟩;refine bI ((F _ a1 (O Z)).run callerA [] j H ⟨[.ref a],[]⟩ [.ref a] [.ref a] _ _ hr e0 (Y j (.ref a)) (.cons rfl .nil) (a7 H hO hS)) fun r s' h=>?_
  cases r with
  | error e=>exact (a5 H e s' h).elim
  | ok fl=>
   cases fl with
   | next=>exact False.elim h
   | brk=>exact False.elim h
   | cont=>exact False.elim h
   | ret u=>
    obtain ⟨v,H',os,bare,un,a2,r',q⟩:=h;have q':v=.bl yo:=q;subst q';obtain rfl:u=cK yo:=r';refine ⟨rfl,OldK.of_keep fun b o e=>?_,os,bare⟩;cases q:H b with
    | none=>exact un.keep b o e q (by intro z; exact absurd (show b∈([]:List aB) from z) (by simp)) (by simp)
    | some u=>
     rcases hO b with z | ⟨ob,xs,z⟩
     ·rw [q] at z; cases z
     ·have z2:=un.frzs b ob _ z;obtain ⟨e1,_⟩:=hok b _ z;obtain ⟨e2,_⟩:=a2 b _ z2;rw [e] at e1; cases e1;exact e2
 cases hk:K.lookup a with
 | some o=>
  have e:=KX a o hk;rw [ha] at e;cases e;refine U (fun _=>zb) (fun _=>.inl rfl) (.inr ⟨_,vs.toArray,_,hk,rfl,rfl,rfl,by rw [O6,a4]; exact hl,by simpa using rv⟩) (fun b u z=>by have z':(zb:Option HO)=zo u:=z; cases z') (fun b z=>absurd rfl z) fun z=>absurd rfl z
 | none=>
  refine U (fun b=>if b=a then zo (.frz { cls:=.type "list",data:=.seq vs.toArray } (.lst (ns.map V.int))) else zb) (fun b=>?_) (.inl (.inr ⟨{ cls:=.type "list",data:=.seq vs.toArray },bS rfl⟩)) (fun b u z=>?_) (fun b z=>?_) fun _=>hk
  ·by_cases J:b=a
   ·exact .inr ⟨_,_,bS J⟩
   ·exact .inl (bT J)
  ·by_cases J:b=a
   ·have z':=(bS J).symm.trans z;cases z';subst J;exact ⟨ha,by rw [O3]; exact hl,vs,_,rv,ha⟩
   ·have z':=(bT J).symm.trans z;cases z'
  ·by_cases J:b=a
   ·exact J
   ·exact absurd (bT J) z
theorem walk_of {l:fM} {n k:Nat} {q:aK} {J:List Str} {XP:(Str->Option aA)->Heap->Prop} {YP:aJ->Heap->Prop} {d:DefRec} {K:Params->bW} {CX:aJ->CXT} {sp:aJ->Sp} {x:Str}
  (hn:l.most=zo n) (a1:n<=sizeLine) (a4:d.params.defaults=[]) (hr:Room k callerA)
  (hY:∀ (w:aJ) (h:Heap),YP w h->(K w.params).In h)
  (F:∀ (w:aJ) (mg:Str->Option aA) (Z:aB) (h:Heap),(K w.params).In h->h.Ns aQ mg->mg d.name=zo (.ref Z) ->
   ∃ fd:aO,(∀ (s:aC) (u:aA),BindsTo s fd ⟨[u],[]⟩ [(x,u)]) /\
    ∀ base:Heap,(K w.params).In base->base.Ns aQ mg->FnOk l.prog w (K w.params) mg base (CX w) k Z fd [x] (sp w))
  (a3:∀ (w:aJ) (H:Hp) (a:aB) (ns:List Int),ns.length<=n->Qsp H->SqL (K w.params) H a (ns.map V.int)->sp w [.ref a] H (fun v _=>v=.bl yo) fun _ _ _=>False)
  (a2:∀ (w:aJ) (H:Hp) (s:aC) (e:aA) (s':aC),CX w [] H s (fun _ _ _=>False) e s'->False) :
  gL q J XP YP l.row.toRowW d [] (fun f vs=>fJ f vs):=by
 refine Att.attach_call hn a4 fun w s₀ O mg mb Z o pm cd a6 a vs ns G Y ho hd a7 a5 U z j hg=>?_
 have KX:=hY w _ Y;obtain ⟨fd,hb,hF⟩:=F w mg Z _ KX G.T.g a5;exact Qj5 KX G.T.g G.T.b G.T.builtins G.T.nolimit hg U z (E3 j a1) hr hF hb (fun H hO hS=>a3 w H a ns j hO hS) fun H e s'=>a2 w H O e s'
def W5 (s:aL):Arguments:=match s with
 | .FunctionDef _ a _ _ _ _ _ _ _ _=>a
 | _=>{ posonlyargs:=[],args:=[],vararg:=zb,kwonlyargs:=[],kw_defaults:=[],kwarg:=zb,defaults:=[] }
def Zk (s:aL):List aL:=match s with
 | .FunctionDef _ _ b _ _ _ _ _ _ _=>b
 | _=>[]
def Qb (s:aL):Scope:=match s with
 | .FunctionDef _ _ _ _ _ _ sc _ _ _=>sc
 | _=>{ kind:=.function,names:=[],isGenerator:=yl,isCoroutine:=yl }
abbrev E0:XK:=fun _ _ _=>False
structure Fun (K:bW) (x qual:Str) (st:aL) (f:aB) (fd:aO):Prop where
 ex:∃ (oc:aA) (od:Option aB) (kV doc pm:aA) (an:Option aB) (cdv ct:aA) (osl:Array (Option aA)),
  fd=cA x qual (W5 st) (Zk st) (Qb st) .none kV doc pm an cdv ct/\K.lookup f=zo ⟨oc,od,.func fd,osl⟩/\cx K cdv qual=yo
 kp:cM K (.ref f)=yo
section
variable {P:aK} {w:aJ} {K:bW} {mg:Str->Option aA} {base:Heap}
theorem Fun.binds {x qual:Str} {st:aL} {f:aB} {fd:aO} {ps:List Str} (F:Fun K x qual st f fd)
  (h:∀ (kV j J:aA) (G:Option aB) (q ct:aA) (z:List aA),z.length=ps.length->bindArgs (cA x qual (W5 st) (Zk st) (Qb st) .none kV j J G q ct) ⟨z,[]⟩=pure (ps.zip z)):Binds K fd ps []:=by
 obtain ⟨Y,Z,kV,j,J,G,q,ct,U,rfl,lk,O⟩:=F.ex;exact .all (h kV j J G q ct)
theorem Qjp {x qual:Str} {st:aL} {f:aB} {O:aA} {U G:Option aB} {z:Array (Option aA)} {kV q J j ct:aA} (l:K.lookup f=zo ⟨O,U,.func (cA x qual (W5 st) (Zk st) (Qb st) .none kV q J G j ct),z⟩)
  (c:cx K j qual=yo) (k:cM K (.ref f)=yo):Fun K x qual st f (cA x qual (W5 st) (Zk st) (Qb st) .none kV q J G j ct):=⟨⟨O,U,kV,q,J,G,j,ct,z,rfl,l,c⟩,k⟩
end
section
variable {X:Cx}
theorem pv (i:Nat) {x:Str} {pos:Pos} (q:X.N[i]?=zo x:=by rfl) (z:Vis X.env.scope x:=by first | exact Or.inl rfl | exact Or.inr (Or.inl rfl) | exact Or.inr (Or.inr rfl)) (hd:(x == ("__debug__" : Str))=yl:=by decide)
  (j:(x == ("__classdict__" : Str))=yl:=by decide):PE X (.Name x pos) (Qtc i):=Qi6 q z hd j
end
theorem Qg4 {A B:Prop} (h:B):if yl=yo then A else B:=by
 rw [bT O7];exact h
theorem Qxr {A B:Prop} (h:A):if yo=yo then A else B:=by
 rw [bS rfl];exact h
def Same (H H':Hp):Prop:=∀ b o,H b=zo o->H' b=zo o
theorem Same.refl (H:Hp):Same H H:=fun _ _ h=>h
section
variable {X:Cx} {tg:aH}
end
theorem Qcn {scope:Scope} {env:Env} (h:∀ x∈scope.names,x.2=.free->∃ c,env.cells.lookup x.1=zo c) :
  ∃ cl,closureFor scope env=pure cl/\(∀ x c,cl.lookup x=zo c->env.cells.lookup x=zo c)/\(∀ x∈scope.names,x.2=.free->∃ c,cl.lookup x.1=zo c):=by
 have Z:∀ (l:List (Str × av)) (acc:List (Str × aB)),(∀ x∈l,x.2=.free->∃ c,env.cells.lookup x.1=zo c)->(∀ x c,acc.lookup x=zo c->env.cells.lookup x=zo c) ->
   ∃ cl,(forIn l acc fun (x:Str × av) (r:List (Str × aB))=>(match x with
    | (name,kind)=>if (kind == NameKind.free)=yo then (do let c <- cellOf env name; pure (ForInStep.yield ((name,c) :: r))) else (do pure PUnit.unit; pure (ForInStep.yield r)):Sem (ForInStep (List (Str × aB)))))=pure cl /\
    (∀ x c,cl.lookup x=zo c->env.cells.lookup x=zo c)/\(∀ x∈l,x.2=.free->∃ c,cl.lookup x.1=zo c)/\(∀ x c,acc.lookup x=zo c->∃ q,cl.lookup x=zo q):=by
  intro l
  induction l with
  | nil=>intro acc _ O; exact ⟨acc,rfl,O,fun x Y=>(by simp at Y),fun x c e=>⟨c,e⟩⟩
  | cons x r ih=>
   intro acc hl O;obtain ⟨n,k⟩:=x
   by_cases hk:k=.free
   ·subst hk;obtain ⟨c,hc⟩:=hl (n,.free) F4 rfl;have a1:∀ x q,((n,c) :: acc).lookup x=zo q->env.cells.lookup x=zo q:=fun x q e=>by
     rw [cQ] at e
     by_cases Y:x=n
     ·subst Y; simp at e; rw [<- e]; exact hc
     ·have:(x == n)=yl:=by simpa using Y
      rw [this] at e; exact O x q e
    obtain ⟨cl,e1,e2,e3,J⟩:=ih ((n,c) :: acc) (fun y j=>hl y (O5 _ j)) a1
    refine ⟨cl,?_,e2,fun y j U=>?_,fun y q e=>?_⟩
    ·rw [gM];have G:cellOf env n=pure c:=by unfold cellOf; rw [hc]
     simp only [beq_self_eq_true,if_true,G];exact e1
    ·rcases D5.mp j with e | j
     ·subst e;exact J n c (by simp)
     ·exact e3 y j U
    ·by_cases j:y=n
     ·subst j; exact J y c (by simp)
     ·have:(y == n)=yl:=by simpa using j
      exact J y q (by rw [cQ,this]; exact e)
   ·obtain ⟨cl,e1,e2,e3,J⟩:=ih acc (fun y j=>hl y (O5 _ j)) O
    refine ⟨cl,?_,e2,fun y j U=>?_,J⟩
    ·rw [gM];have:(k == NameKind.free)=yl:=by simpa using hk
     simp only [this,E4,if_false];exact e1
    ·rcases D5.mp j with e | j
     ·subst e; exact absurd U hk
     ·exact e3 y j U
 obtain ⟨cl,e1,e2,e3,_⟩:=Z scope.names [] h (fun x c e=>by simp at e);refine ⟨cl,?_,e2,e3⟩;unfold closureFor;exact (congrArg (fun z=>z >>= pure) e1).trans rfl
theorem Q00 (f:Str->av->av) (x:Str):∀ l:List (Str × av),(l.map fun y=>(y.1,f y.1 y.2)).lookup x=(l.lookup x).map (f x)
 | []=>rfl
 | (n,k) :: r=>by
  have z:=Q00 f x r;rw [O8,cQ,cQ]
  by_cases j:x=n
  ·subst j; simp
  ·have q:(x == n)=yl:=by simpa using j
   rw [q]; exact z
theorem j7 {scope:Scope} {env:Env} {x:Str}:(relabel scope env).names.lookup x =
  (scope.names.lookup x).map fun k=>if (k == .free && env.scope.kind == .function && env.kindOf x == zo .cell) then .cell else k:=by
 rw [<- Q00 (fun n k=>if (k == .free && env.scope.kind == .function && env.kindOf n == zo .cell) then .cell else k)]
 unfold relabel;refine congrArg (List.lookup x) (fN fun y _=>?_);obtain ⟨n,k⟩:=y;show (if (k == NameKind.free && env.scope.kind == .function && env.kindOf n == zo .cell)=yo then (n,NameKind.cell) else (n,k))=_
 split <;> rfl
def Q09 (cap:List (Option Nat)) (σ:St):St:=cap.map fun c=>c.bind fun j=>(σ[j]?).join
section
variable {prog:aK} {w:aJ} {A:aM} {R:Result->aC->Prop} {s:aC}
end
section
variable {X:Cx}
theorem HOk.same {P:aK} {w:aJ} {H:Hp} {h h':Heap} {a:aB} (ok:HOk P w H h) (z:H a=zb) (hs:Heap.SameBut a h h'):HOk P w H h':=fun b ob e=>by
 refine (ok b ob e).stay (fun c G j q=>(hs.2 c ?_).trans q) (fun _ q=>q) fun _ _ q=>q
 rintro rfl;rcases j with rfl | j
 ·rw [z] at e; cases e
 ·rw [z] at j; cases j
end
def HasItems (t:Bool) (h:Heap) (a:aB) (items:Array aA):Prop:=if t=yo then h.IsTuple a items else h.IsList a items
def IterAt (t:Bool) (h:Heap) (it a:aB) (i:Nat):Prop:=if t=yo then h.IsTupleIter it a i else h.IsListIter it a i
theorem HasItems.at {t:Bool} {h h':Heap} {a:aB} {j:Array aA} (x:HasItems t h a j) (k:∀ o,h.get? a=zo o->h'.get? a=zo o):HasItems t h' a j:=by
 cases t
 ·exact Heap.IsList.at x k
 ·obtain ⟨o,e,r⟩:=x;exact ⟨o,k o e,r⟩
theorem HasItems.there {t:Bool} {h:Heap} {a:aB} {j:Array aA} (x:HasItems t h a j):∃ o,h.get? a=zo o:=by
 cases t
 ·obtain ⟨o,e,_⟩:=x; exact ⟨o,e⟩
 ·obtain ⟨o,e,_⟩:=x; exact ⟨o,e⟩
theorem IterAt.at {t:Bool} {h h':Heap} {it a:aB} {i:Nat} (x:IterAt t h it a i) (k:∀ o,h.get? it=zo o->h'.get? it=zo o):IterAt t h' it a i:=by
 cases t
 ·exact Heap.IsListIter.at x k
 ·obtain ⟨o,e,r⟩:=x;exact ⟨o,k o e,r⟩
theorem IterAt.there {t:Bool} {h:Heap} {it a:aB} {i:Nat} (x:IterAt t h it a i):∃ o,h.get? it=zo o/\∀ v,o.data≠.cell v:=by
 cases t
 ·obtain ⟨o,e,_,d⟩:=x; exact ⟨o,e,fun v z=>by rw [d] at z; cases z⟩
 ·obtain ⟨o,e,_,d⟩:=x; exact ⟨o,e,fun v z=>by rw [d] at z; cases z⟩
section
variable {prog:aK} {w:aJ} {A:aM} {E:aA->aC->Prop} {s:aC}
theorem xv {it l:aB} {i:Nat} {items} {x:aA} {Q:aA->aC->Prop} (j:s.heap.IsTupleIter it l i)
  (Y:s.heap.IsTuple l items) (U:items[i]?=zo x)
  (J:∀ h',h'.IsTupleIter it l (i + 1)->Heap.SameBut it s.heap h'->Q x { s with heap:=h' }) :
  aF (aI prog w) A (Builtin.SmallTypes.nextOf (.ref it)) Q E s:=by
 obtain ⟨o,q,O,hd⟩:=id j;obtain ⟨Z,G,_,nl,z⟩:=Y;unfold Builtin.SmallTypes.nextOf;refine aD (wpAny_callSpecial?_slot (name:=cb "__next__") j.typeIs F.slot_tuple_iterator_next
  (ah F.slot_tuple_iterator_next j.typeIs F.entry_tuple_iterator_next ?_ (F.args_tuple_iterator_next_1 _)))
 show aF _ _ (field (.ref it) 0 >>= _) _ _ s;refine aD (ak q hd (x:=.ref l) rfl ?_);show aF _ _ (if (ba l == bg)=yo then _ else _) _ _ s;rw [bT (show ¬ ((ba l == bg)=yo) from O7)];show aF _ _ (field (.ref it) 1 >>= _) _ _ s;refine aD (ak q hd (x:=.int i 0) rfl ?_);show aF _ _ (seqItems? (.ref l) >>= _) _ _ s;refine aD (bB G z ?_);simp only [bt,U];refine aD (wpAny_setField q hd (by simp) (wpAny_pure ⟨x,rfl,wpAny_pure (J _ ?_ (Heap.SameBut.update ..))⟩));exact ⟨_,F6 _ q (db (ce hd _)),(fO ..).trans O,by
  rw [ce hd]; simp [aR]⟩
theorem Q0u {it l:aB} {i:Nat} {items} {Q:aA->aC->Prop} (J:A.handled=zb)
  (j:s.heap.IsTupleIter it l i) (Y:s.heap.IsTuple l items) (U:items[i]?=zb)
  (O:∀ h' e,Heap.ExtBut it s.heap h'->(∃ o,h'.get? e=zo o/\o.cls=.type "StopIteration")->E (.ref e) { s with heap:=h' }) :
  aF (aI prog w) A (Builtin.SmallTypes.nextOf (.ref it)) Q E s:=by
 obtain ⟨o,G,hc,hd⟩:=id j;obtain ⟨Z,z,_,nl,q⟩:=Y;unfold Builtin.SmallTypes.nextOf;refine aD (wpAny_callSpecial?_slot (name:=cb "__next__") j.typeIs F.slot_tuple_iterator_next
  (ah F.slot_tuple_iterator_next j.typeIs F.entry_tuple_iterator_next ?_ (F.args_tuple_iterator_next_1 _)))
 show aF _ _ (field (.ref it) 0 >>= _) _ _ s;refine aD (ak G hd (x:=.ref l) rfl ?_);show aF _ _ (if (ba l == bg)=yo then _ else _) _ _ s;rw [bT (show ¬ ((ba l == bg)=yo) from O7)];show aF _ _ (field (.ref it) 1 >>= _) _ _ s;refine aD (ak G hd (x:=.int i 0) rfl ?_);show aF _ _ (seqItems? (.ref l) >>= _) _ _ s;refine aD (bB z q ?_);simp only [bt,U];refine aD (bL (aD (wpAny_setField G hd (by simp) ?_)));show aF _ _ (newExc (.type "StopIteration") [] >>= _) _ _ _;refine aD ?_;simp only [newExc,newTuple];refine aD (ao ?_ (by size_fits));refine aD (m:=firstArgMember _ _) (wpAny_of_eq (a:=bg) (by first | rfl | (simp only [firstArgMember]; rfl)) ?_);refine ao ?_ (by size_fits);simp only [bP]
 refine aD (wpAny_handled ?_)
 first | rw [show A.in1.handled=zb from J] | rw [J]
 refine aD (wpAny_pure (wpAny_throw ?_));exact O _ _ (((Heap.SameBut.update ..).extBut.push _).push _) ⟨_,D1 _ rfl,rfl⟩
theorem Qa6 {t:Bool} {it l:aB} {i:Nat} {j:Array aA} {x:aA} {Q:aA->aC->Prop} (q:IterAt t s.heap it l i)
  (J:HasItems t s.heap l j) (G:j[i]?=zo x)
  (z:∀ h',IterAt t h' it l (i + 1)->Heap.SameBut it s.heap h'->Q x { s with heap:=h' }) :
  aF (aI prog w) A (Builtin.SmallTypes.nextOf (.ref it)) Q E s:=by
 cases t
 ·exact wpAny_nextOf_list_item q J G z
 ·exact xv q J G z
theorem Q49 {t:Bool} {it l:aB} {i:Nat} {j:Array aA} {Q:aA->aC->Prop} (z:A.handled=zb)
  (q:IterAt t s.heap it l i) (O:HasItems t s.heap l j) (J:j[i]?=zb)
  (G:∀ h' e,Heap.ExtBut it s.heap h'->(∃ o,h'.get? e=zo o/\o.cls=.type "StopIteration")->E (.ref e) { s with heap:=h' }) :
  aF (aI prog w) A (Builtin.SmallTypes.nextOf (.ref it)) Q E s:=by
 cases t
 ·exact wpAny_nextOf_list_end z q O J G
 ·exact Q0u z q O J G
def jz (t:Bool) (l:aB):Obj:=if t=yo then { cls:=.type "tuple_iterator",data:=.fields #[.ref l,.int 0 0] } else { cls:=.type "list_iterator",data:=.fields #[.ref l,.int 0 0] }
theorem Qbx {t:Bool} {l:aB} {j:Array aA} {Q:aA->aC->Prop} (z:HasItems t s.heap l j)
  (q:Q (.ref s.heap.objs.size) { s with heap:=s.heap.push (jz t l) }):aF (aI prog w) A (pyIter (.ref l)) Q E s:=by
 cases t
 ·exact wpAny_pyIter_list z q
 ·exact bG z q
theorem Qch {t:Bool} {h:Heap} {it l:aB} (e:h.get? it=zo (jz t l)):IterAt t h it l 0:=by
 cases t
 ·exact ⟨_,e,rfl,rfl⟩
 ·exact ⟨_,e,rfl,rfl⟩
theorem Q8m (t:Bool) (l:aB):(jz t l).isFreed=yl:=by cases t <;> rfl
end
section
variable {prog:aK} {w:aJ} {A:aM} {E:aA->aC->Prop} {s:aC}
end
def SqK (K:bW) (t:Bool) (H:Hp) (a:aB) (xs:List V):Prop:=if t=yo then SqT K H a xs else SqL K H a xs
section
variable {X:Cx} {pins:List (aB × Obj)} {σ:St} {H:Hp} {s:aC}
theorem Inv.seqK {t:Bool} {a:aB} {xs:List V} (I:Inv X pins σ H s) (h:SqK X.K t H a xs):∃ its:List aA,Vals xs its/\HasItems t s.heap a its.toArray/\xs.length<=sizeLine:=by
 cases t
 ·obtain ⟨its,r,p,z⟩:=I.list h;exact ⟨its,r,p.isList,z⟩
 ·obtain ⟨its,r,p,z⟩:=I.tuple h;exact ⟨its,r,p,z⟩
theorem Inv.seqK_inj {t:Bool} {a:aB} {xs ys:List V} (I:Inv X pins σ H s) (h:SqK X.K t H a xs) (h':SqK X.K t H a ys):xs=ys:=by
 cases t
 ·exact I.list_inj h h'
 ·exact I.tuple_inj h h'
theorem Inv.turnedL {t':Nat} {its:List aB} {h':Heap} (I:Inv X pins σ H s) (k:∀ b o,b∉its->s.heap.get? b=zo o->h'.get? b=zo o) (J:∀ b∈its,Q5b X pins H b):Inv X pins σ H { s with heap:=h',toks:=t' }:=by
 have G:∀ b u,H b=zo u->b∉its:=fun b u e z=>by rw [(J b z).1] at e; cases e
 refine I.step (g':=s.gens) (d':=s.drawn) (ch:=its) (fun b U=>?_) (fun b o _ _ j e _=>k b o j e) (fun b o _ _ j e _=>⟨o.slots,k b o j e⟩) (fun _ _ _ _ n=>n)
  (fun b o j e=>⟨o,k b o j e⟩) (fun _ _ e=>e) (fun _ _ _ e=>e) (fun b ps e=>⟨#[],by rw [e]; simp⟩) (fun m hm=>?_) (fun b u e=>?_) I.bare
 ·obtain ⟨f0,Z,f2,O,Y,f5⟩:=J b U;exact ⟨O,Z,Y,f5⟩
 ·obtain ⟨o,es,ep,ho,r⟩:=hm;exact ⟨o,es,ep,k _ o (fun z=>(J _ z).2.1 rfl) ho,r⟩
 ·refine (I.hok b u e).stay (fun c v j q=>k c v ?_ q) (fun _ q=>q) fun _ _ q=>q
  rcases j with z | z
  ·rw [z]; exact G b u e
  ·exact G c _ z
end
section
variable {X:Cx}
end
theorem Qqf {prog:aK} {w:aJ} {A:aM} (G:A.handled=zb) (t:Bool) (I q:aB) (z:q≠I) (j:Array aA) :
  Walks prog w A I [I,q] [I] j.size (fun i v=>j[i]?=zo v) (fun i h=>IterAt t h I q i/\HasItems t h q j):=by
 cases t
 ·exact Walks.list G I q z j
 ·exact Walks.tuple G I q z j
section
variable {X:Cx} {pins:List (aB × Obj)} {σ:St} {H:Hp} {s:aC}
theorem Inv.movedNew {s':aC} (I:Inv X pins σ H s) {o:Obj} (m:Moved [s.heap.objs.size] (fun a b=>b=a) { s with heap:=s.heap.push o } s'):Inv X pins σ H s':=by
 obtain ⟨m1,m2,m3,m4,m5⟩:=m;obtain ⟨h',g',d',t',o'⟩:=s';have e1:g'=s.gens:=m2;have e2:d'=s.drawn:=m3;have e3:o'=s.os:=m4;subst e1 e2 e3;refine I.kept (t':=t') fun b u e=>m1 b u (fun z=>?_) (O2 _ e)
 have:b=s.heap.objs.size:=by simpa using z
 exact absurd (O9 e) (by rw [this]; exact G8 _)
theorem Qgq {bs:List Bool} {its:List aA} (r:Vals (bs.map V.bl) its):∀ (i:Nat) (v:aA),its.toArray[i]?=zo v->v=cK (bs.getD i yl):=fun i v e=>by
 have q:its[i]?=zo v:=by simpa using e
 have hi:i < its.length:=(O1.mp q).1;have G:=r.length;rw [O3] at G;have z:(bs.map V.bl)[i]?=zo (V.bl (bs.getD i yl)):=by
  have:i < bs.length:=by omega
  simp [eH,this]
 obtain ⟨u,j,ru⟩:=r.get z;rw [q] at j;cases j;exact ru
theorem Q8k {t:Bool} {l:aB} {j:Array aA} (G:HasItems t s.heap l j):l≠s.heap.objs.size /\
  (IterAt t (s.heap.push (jz t l)) s.heap.objs.size l 0/\HasItems t (s.heap.push (jz t l)) l j)/\∀ b∈[s.heap.objs.size,l],b < (s.heap.push (jz t l)).objs.size:=by
 obtain ⟨o,e⟩:=G.there;have q:=O9 e;refine ⟨D8 q,⟨Qch (D1 _ (Q8m _ _)),G.at fun o e=>O2 _ e⟩,fun b z=>?_⟩
 rw [F5];simp at z;rcases z with rfl | rfl
 ·exact df _
 ·exact dA q
end
section
variable {X:Cx}
theorem Qfa (bs:List Bool):(bY bs.length).all (fun i=>bs.getD i yl)=bs.all id:=by
 induction bs with
 | nil=>rfl
 | cons b r j=>
  rw [D7,fP,cN,cD,cN,<- j];rfl
theorem Qkc (t:Bool) (hc:X.calm=yo):V8 X (.builtin "all") (fun xs H Q=>∃ (a:aB) (bs:List Bool),xs=[.ref a]/\SqK X.K t H a (bs.map V.bl)/\Q (.bl (bs.all id)) H):=by
 intro pins s σ H xs us Q I r h;obtain ⟨a,bs,rfl,U,q⟩:=h;obtain ⟨u,rfl,Y⟩:=K3 r;cases Y;obtain ⟨its,z,p,_⟩:=I.seqK U;obtain ⟨J,w2,w3⟩:=Q8k p;have G:=z.length;rw [O3] at G;refine call_all_walkS (Qbx p ⟨_,_,_,_,_,_,_,fun j=>bs.getD j yl,rfl,(Qqf (A:=X.A.in1) (I.ok.hd hc) t _ a J its.toArray).toS,w2,fun i v s' Q' E' Z O=>?_,fun s' m=>?_⟩)
 ·rw [Qgq z i v Z];exact bA O
 ·refine ⟨.bl (bs.all id),H,I.movedNew m,?_,q⟩;show cK _=_;rw [O6,<- G,Qfa]
end
theorem Qsd {prog:aK} {w:aJ} {A:aM} (U:A.handled=zb) (t:Bool) (it l:aB) (G:l≠it) (j:Array aA) :
  Draws prog w A it [it,l] j.size (fun i v=>j[i]?=zo v) (fun i h=>IterAt t h it l i/\HasItems t h l j) where
 live:=fun _ _ st=>let ⟨o,e,_⟩:=st.1.there; ⟨o,e⟩
 frame:=fun _ _ _ st J=>⟨st.1.at fun o e=>J it (by simp) o e,st.2.at fun o e=>J l (by simp) o e⟩
 item:=fun i s Q E hi st O=>by
  refine Qa6 st.1 st.2 (x:=j[i]) (by simp [hi]) fun h' q z=>?_
  exact O _ h' s.toks (by simp [hi]) ⟨q,st.2.at fun o e=>z.extBut _ _ G e⟩ z
 done:=fun s Q E st Y=>Q49 U st.1 st.2 (by simp) Y
theorem Qab (l:aB) (j:Array aA) (n:Nat) (z:Option aB) (O:Array (Option aA)) :
  Meets (Builtin.«enumerate.__new__» ⟨[.type "enumerate",.ref l],[]⟩) (fun _ R s=>s.heap.get? l=zo { cls:=.type "tuple",dict:=z,data:=.seq j n,slots:=O } /\
   R (.ok (.ret (.ref (s.heap.push { cls:=.type "tuple_iterator",data:=.fields #[.ref l,.int 0 0] }).objs.size)))
    { s with heap:=(s.heap.push { cls:=.type "tuple_iterator",data:=.fields #[.ref l,.int 0 0] }).push { cls:=.type "enumerate",data:=.fields #[.none,.bool yl,.ref s.heap.objs.size,aR 0,.none,.none] } }):=
 .of_wp fun prog w A R s h=>by
  obtain ⟨hp,g,d,tk,os⟩:=s; obtain ⟨q,h⟩:=h;have J:=sub_enumerate;have G:Heap.IsTuple (Shared.heap ⟨hp,g,d,tk,os⟩) l j:=⟨_,q,rfl,n,rfl⟩
  wp_walk using AutoSeq1.wpAny_loadPart' q
  refine wpAny_stack_any fun st=>wpAny_pure ?_
  split
  ·rename_i c _ _ _ _ _;cases (c == cC "enumerate")
   ·wp_walk using AutoSeq1.wpAny_loadPart' q,bG G
    exact ⟨_,rfl,h⟩
   ·wp_walk using AutoSeq1.wpAny_loadPart' q,bG G
    exact ⟨_,rfl,h⟩
  ·wp_walk using AutoSeq1.wpAny_loadPart' q,bG G
   exact ⟨_,rfl,h⟩
section
variable {prog:aK} {w:aJ} {A:aM} {E:aA->aC->Prop} {s:aC}
theorem Qcr {l:aB} {j:Array aA} {Q:aA->aC->Prop} (O:s.heap.IsTuple l j)
  (h:∀ h',IsEnum h' (s.heap.objs.size + 1) s.heap.objs.size 0 .none->h'.IsTupleIter s.heap.objs.size l 0->h'.objs.size=s.heap.objs.size + 2 ->
   (∀ b o,s.heap.get? b=zo o->h'.get? b=zo o)->Q (.ref (s.heap.objs.size + 1)) { s with heap:=h' }) :
  aF (aI prog w) A (call (.type "enumerate") [.ref l]) Q E s:=by
 obtain ⟨⟨c,q,J,G⟩,hl,hc,n,hd⟩:=O;replace hc:c=.type "tuple" := hc;replace hd:J=.seq j n:=hd;subst hc hd;refine callType_new F.called_enumerate (by decide) (F.typeCall_enumerate_1 _) (F.newCall_enumerate_1 _) (fun obj=>F.args_object_init_2 obj _) F.entry_enumerate_new
  (Qab l j n q G) ⟨hl,?_⟩
 have hz:(s.heap.push { cls:=.type "tuple_iterator",data:=.fields #[.ref l,.int 0 0] }).objs.size=s.heap.objs.size + 1:=F5 ..;show _/\_;rw [hz];have z:IsEnum ((s.heap.push { cls:=.type "tuple_iterator",data:=.fields #[.ref l,.int 0 0] }).push
   { cls:=.type "enumerate",data:=.fields #[.none,.bool yl,.ref s.heap.objs.size,aR 0,.none,.none] }) (s.heap.objs.size + 1) s.heap.objs.size 0 .none:=by
  have:=D1 (s.heap.push { cls:=.type "tuple_iterator",data:=.fields #[.ref l,.int 0 0] })
   (o:={ cls:=.type "enumerate",data:=.fields #[.none,.bool yl,.ref s.heap.objs.size,aR 0,.none,.none] }) rfl
  rw [hz] at this; exact this
 refine ⟨⟨_,z,rfl⟩,h _ z ⟨_,O2 _ (D1 _ rfl),rfl,rfl⟩ (by rw [F5,hz]) fun b o x=>O2 _ (O2 _ x)⟩
theorem Qcs {t:Bool} {l:aB} {j:Array aA} {Q:aA->aC->Prop} (q:HasItems t s.heap l j)
  (h:∀ h',IsEnum h' (s.heap.objs.size + 1) s.heap.objs.size 0 .none->IterAt t h' s.heap.objs.size l 0->h'.objs.size=s.heap.objs.size + 2 ->
   (∀ b o,s.heap.get? b=zo o->h'.get? b=zo o)->Q (.ref (s.heap.objs.size + 1)) { s with heap:=h' }) :
  aF (aI prog w) A (call (.type "enumerate") [.ref l]) Q E s:=by
 cases t
 ·exact call_enumerate_list q h
 ·exact Qcr q h
end
def Ite (K:bW) (t:Bool) (a:aB):It:=
 ⟨fun i H=>∃ xs x,SqK K t H a xs/\xs[i]?=zo x,
  fun i H v H'=>∃ p x,H p=zb/\v=.ref p/\H'=upd H p (.tup [.int i,x])/\∀ xs,SqK K t H a xs->xs[i]?=zo x,
  fun i H=>∃ xs,SqK K t H a xs/\xs.length<=i⟩
theorem Inv.tracks {X:Cx} {pins:List (aB × Obj)} {σ:St} {H:Hp} {s s1:aC} {p:aB} {xs:List V} {its:List aA} (I:Inv X pins σ H s) (j:Inv X pins σ H s1) (hp:s.heap.objs.size<=p) (G:H p=zb) (Y:Vals xs its) (hz:xs.length<=sizeLine)
  (ht:IsTup s1.heap p its.toArray):Inv X pins σ (upd H p (.tup xs)) s1:=by
 refine ⟨j.ok,j.os,j.bare,?_,j.loc,j.cell,?_,?_,?_,?_,j.len⟩
 ·have z:=j.base;have old:∀ c o,X.s₀.heap.get? c=zo o->c≠p:=fun c o e=>D8 (D0 (O9 e) (E3 I.sz hp))
  exact ⟨z.keep,z.slot,fun c o e n hx=>by rw [Qf (old c o e)]; exact z.free c o e n hx,z.there,
   fun c ts e=>by have:=z.tups c ts e; rw [Qf (Qg this G)]; exact this,
   fun c o ts e=>by have:=z.frzs c o ts e; rw [Qf (Qg this G)]; exact this,
   fun c ps e=>by obtain ⟨more,q⟩:=z.tbls c ps e; exact ⟨more,by rw [Qf (Qg q G)]; exact q⟩⟩
 ·rw [Qf (D8 (D0 I.lt hp))]; exact I.free
 ·intro U c e;obtain ⟨v',q⟩:=I.cell U c e;rw [Qf (D8 (D0 q.lt hp))]; exact I.freeC U c e
 ·intro p' O;obtain ⟨e,n,ne,Z,d⟩:=j.pin p' O;have e0:=(I.pin p' O).1;exact ⟨e,by rw [Qf (D8 (D0 (O9 e0) hp))]; exact n,ne,Z,d⟩
 ·intro c o q
  by_cases J:c=p
  ·subst J;rw [Qp] at q; cases q;exact ⟨hz,its,Y,ht⟩
  ·rw [Qf J] at q;exact (j.hok c o q).stay (fun _ _ _ r=>r) (fun c' r=>by rw [Qf (Qg r G)]; exact r) fun c' ts r=>by rw [Qf (Qg r G)]; exact r
def Qsc (t:Bool) (e it a:aB) (i:Nat) (h:Heap):Prop:=(∃ old,IsEnum h e it i old)/\IterAt t h it a i
theorem Qeu {P:aK} {w:aJ} {K:bW} {elts:List aH} {k:Nat} {pos:Pos} {t:Bool} {e it a:aB} (Y:e≠it) (a8:a≠e) (a9:a≠it) :
  Turn P w K (.Tuple elts k pos) (Ite K t a) [e,it] e (Qsc t e it a) where
 mem:=by simp
 obj:=fun i h st c hc=>by
  obtain ⟨⟨old,G⟩,h1⟩:=st;simp at hc;rcases hc with rfl | rfl
  ·exact ⟨_,G,fun v q=>by cases q⟩
  ·exact h1.there
 keep:=fun i h h' st kk=>by
  obtain ⟨⟨old,G⟩,h1⟩:=st;exact ⟨⟨old,kk e (by simp) _ G⟩,h1.at fun o q=>kk it (by simp) o q⟩
 item:=by
  intro X hP hw hK hc i pins s σ H E I hf st hg;subst hP hw hK;obtain ⟨xs,x,U,hx⟩:=hg;obtain ⟨⟨old,G⟩,h1⟩:=st;obtain ⟨its,rv,p,_⟩:=I.seqK U;obtain ⟨ux,a5,a6⟩:=rv.get hx;have a7:i < its.toArray.size:=by rw [O6]; exact (O1.mp a5).1
  refine wpAny_pyNext_enum_itemD (Qsd (A:=X.A.in1) (I.ok.hd hc) t it a a9 its.toArray) G ⟨h1,p⟩ a7 Y (by simp; exact ⟨Y,fun z=>a8 z.symm⟩) fun x' h' tk a2 ho b0 hT hsz hk=>⟨_,rfl,?_⟩
  have:x'=ux:=by
   have e1:its[i]?=zo x':=by simpa using a2
   rw [a5] at e1; exact (br e1).symm
  subst this;refine wpAny_letOwnedTupleGo_enum (s:={ s with heap:=h',toks:=tk + 1 }) ho fun a4 Z J=>?_
  have elt:e < s.heap.objs.size:=O9 G;have b4:it < s.heap.objs.size:=by obtain ⟨o,q,_⟩:=h1.there; exact O9 q
  have a3:H s.heap.objs.size=zb:=I.fresh;have I1:Inv X pins σ H { s with heap:=a4,toks:=tk + 1 }:=I.turnedL (its:=[e,it]) (fun c o j q=>(J.2 c (fun z=>j (by simp [z]))).trans (hk c o (fun z=>j (by simp [z])) (fun z=>j (by simp [z])) q)) fun c j=>hf c j
  have a1:a4.get? s.heap.objs.size=zo { cls:=.type "tuple",data:=.seq #[.int i tk,x'] }:=(J.2 _ (cG elt)).trans hT;have I2:=I.tracks (xs:=[.int i,x]) (its:=[.int i tk,x']) I1 (O4 _) a3 (.cons ⟨tk,rfl⟩ (.cons a6 .nil)) (by simp only [D7,cj]; rw [sizeLine_eq]; decide) ⟨_,a1,rfl,0,rfl⟩;refine ⟨.ref s.heap.objs.size,_,I2,rfl,⟨s.heap.objs.size,x,a3,rfl,rfl,fun b3 q1=>?_⟩,?_,fun c j=>?_⟩
  ·rw [I.seqK_inj q1 U]; exact hx
  ·exact ⟨⟨x',by simpa using Z⟩,b0.1.at fun o q=>J.extBut _ _ (Ne.symm Y) q⟩
  ·have:=(hf c j).1;have b1:c < s.heap.objs.size:=by simp at j; rcases j with rfl | rfl <;> assumption
   rw [Qf (D8 b1)]; exact this
 done:=by
  intro X hP hw hK hc i pins s σ H E I hf st hg;subst hP hw hK;obtain ⟨xs,U,b2⟩:=hg;obtain ⟨⟨old,G⟩,h1⟩:=st;obtain ⟨its,rv,p,_⟩:=I.seqK U;have hl:=rv.length;have hT:s.TypeIs (.ref e) "enumerate" := ⟨_,G,rfl⟩;unfold af;refine aD (wpAny_attempt (wpAny_callSpecial?_slot (name:=cb "__next__") hT F.slot_enumerate_next
   (ah F.slot_enumerate_next hT F.entry_enumerate_next ?_ (F.args_enumerate_next_1 _))))
  show aF _ _ (field (.ref e) 2 >>= _) _ _ _;refine aD (ak G rfl (x:=.ref it) rfl ?_);refine aD (Q49 (I.ok.hd hc) h1 p (by simp; omega) fun h' x Z a2=>?_)
  obtain ⟨o,ho,j⟩:=a2;refine aD (bM (T := "StopIteration") (b:=yo) ⟨o,ho,j⟩ isSubtype_stop ?_);exact wpAny_pure ⟨rfl,I.turnedL (t':=s.toks) (its:=[it]) (fun c o O q=>Z c o (fun z=>O (by simp [z])) q) fun c O=>hf c (by simp at O; simp [O])⟩
 self:=fun _ _ _ _ _ st h=>by
  obtain ⟨⟨old,G⟩,_⟩:=st;exact wpAny_pyIter_enum G h
section
variable {X:Cx}
def Qv1 (K:bW) (t:Bool) (ta:TA):TI:=fun σ H R=>ta σ H fun vs H1=>∃ a xs,vs=[.ref a]/\SqK K t H1 a xs/\R (Ite K t a) H1
theorem Q54:aX "enumerate" = zo (.type "enumerate"):=by decide +kernel
theorem Qmy (t:Bool) {a:aH} {ta:TA} {p pos:Pos} {elts:List aH} {k:Nat} {tp:Pos} (hg:Gl X "enumerate") (hm:X.mg "enumerate" = zb) (Y:PA X [a] ta) (hs:aN [a] X.env=[(yl,aP a X.env)]:=by rfl) :
  PI X (.Tuple elts k tp) (.Call (.Name "enumerate" p) [a] [] pos) (Qv1 X.K t ta):=by
 intro pins s σ H R I h;refine Call_ (yk I hg hm Q54 (dS (thn (Y pos pins s σ H _ I h) fun us s1 ⟨vs,H1,G,r1,q1⟩=>?_) hs rfl))
 obtain ⟨Z,xs,e,q1,q⟩:=q1;subst e;obtain ⟨u,rfl,r⟩:=K3 r1;cases r;obtain ⟨its,rv,J,_⟩:=G.seqK q1;refine Qcs J fun h' O U z3 z4=>?_
 refine wpAny_pyIter_enum (s:={ s1 with heap:=h' }) O ?_;have z:Z < s1.heap.objs.size:=by obtain ⟨o,e⟩:=J.there; exact O9 e
 refine ⟨_,[s1.heap.objs.size + 1,s1.heap.objs.size],_,_,H1,rfl,G.kept (t':=s1.toks) z4,Qeu (t:=t) (cG (df _)) (D8 (dA z)) (D8 z),⟨⟨_,O⟩,U⟩,fun c hc=>?_,q⟩
 have j:s1.heap.objs.size<=c:=by simp at hc; unfold aB at *; omega
 exact G.fpOk j (G.hok.fresh j)
end
theorem Qhd {H:Hp} {a:aB} {o:HO} (h:H a=zb):Same H (upd H a o):=fun b u e=>by rw [Qf (Qg e h)]; exact e
section
variable {K:bW} {cap:List (Option Nat)} {te:TE} {σ:St} {H1:Hp} {Q:VK}
abbrev g2 (K:bW):TG:=Qv6 K 2 (Qjm (Q6i 0) (Qjm (Q6i 1) Qv7))
end
def Qsg:V->Option aA
 | .ty n=>zo (.type n)
 | .ref a=>zo (.ref a)
 | _=>zb
theorem Qay {c:V} {j u:aA} (e:Qsg c=zo j) (r:RelV c u):u=j:=by
 cases c with
 | ty n=>cases e; exact r
 | ref a=>cases e; exact r
 | _=>cases e
section
variable {X:Cx}
theorem Qb0:V8 X (.builtin "isinstance") (fun xs H Q=>∃ x c j t b,xs=[x,c]/\Qsg c=zo j/\TyOf X.K H x t/\bi X.K t j=zo b/\Q (.bl b) H):=by
 intro pins s σ H xs O Q I r h;obtain ⟨x,c,j,t,b,rfl,J,ty,e,q⟩:=h;obtain ⟨u,U,rfl,G,z⟩:=Qpt r;rw [Qay J z];exact Qg5 I G ty e fun tk=>⟨.bl b,H,I.tok tk,rfl,q⟩
theorem Qx:aX "isinstance" = zo (.builtin "isinstance"):=by decide +kernel
theorem V6:aX "all" = zo (.builtin "all"):=by decide +kernel
theorem Z1:aX "tuple" = zo (.type "tuple"):=by decide +kernel
theorem Us:aX "list" = zo (.type "list"):=by decide +kernel
theorem Q0c:aX "int" = zo (.type "int"):=by decide +kernel
theorem z9:aX "bool" = zo (.type "bool"):=by decide +kernel
theorem Q53:aX "str" = zo (.type "str"):=by decide +kernel
end
section
variable {X:Cx} (K:bW)
end
end L2
namespace L2
open PySem PySem.Spec PyProof.Rows PySem.W PySem.Builtin.Getset_descriptor
structure XCls (K:Frag) (C:aB):Prop where
 cls:(clsIn K C).isSome=yo
 ga:findIn K (.ref C) "__getattribute__" = zo (zo (.builtin "BaseException.__getattribute__"))
 gt:findIn K (.ref C) "__getattr__" = zo zb
 cl:findIn K (.ref C) "__class__" = zo (zo (.builtin "object.__class__"))
 gs:specialIn K (.builtin "object.__class__") "__get__" = zo (zo (.builtin "getset_descriptor.__get__"))
 tk:takesIn K (.builtin "object.__class__")=zo yo
 ob:mroIn K C (.type "object")=zo yo
 be:mroIn K C (.type "BaseException")=zo yo
def IsX (x C:aB) (h:Heap):Prop:=∃ ox,h.get? x=zo ox/\ox.cls=.ref C
theorem IsX.type {M:Model} {h:Heap} {x C:aB} (I:IsX x C h):Looks M h (typeOf (.ref x)) (.ref C):=by
 obtain ⟨j,h1,h2⟩:=I;exact h2 ▸ (Looks.ld h1).andThen .now
theorem Qkq {K:Frag} {M:Model} {h:Heap} {x C:aB} (X:K.In h) (F:XCls K C):Looks M h (Builtin.ObjectAttr.find (.ref x) (.ref C) "__class__") (.bind (.builtin "getset_descriptor.__get__") (.builtin "object.__class__")):=by
 have q:=looks_findIn (M:=M) X F.cl;have j:Looks M h (Builtin.ObjectAttr.getOf (zo (.builtin "object.__class__"))) (zo (.builtin "getset_descriptor.__get__")):=looks_specialIn X F.gs;have z:Looks M h (Builtin.ObjectAttr.dataDescriptor? (zo (.builtin "object.__class__")) (zo (.builtin "getset_descriptor.__get__"))) (zo (.builtin "getset_descriptor.__get__",.builtin "object.__class__")):=(looks_takesIn X F.tk).andThen .now;exact q.andThen (j.andThen (z.andThen (Looks.tag .now)))
section
variable {prog:aK} {w:aJ} {A:aM} {E:aA->aC->Prop} {h:Heap} {g:Array GenState} {d:Drawn} {t:Nat} {os:OsState} {K:Frag} {x C:aB}
theorem Qqe {tp:aA} {R:Result->aC->Prop} (X:K.In h) (F:XCls K C) (I:IsX x C h) (j:R (.ok (.ret (.ref C))) ⟨h,g,d,t,os⟩):codeAny (aI prog w) A (.call (.builtin "getset_descriptor.__get__") ⟨[.builtin "object.__class__",.ref x,tp],[]⟩) R ⟨h,g,d,t,os⟩:=by
 have q:=I.type (M:=aI prog w);have z:=looks_mroIn (M:=aI prog w) X F.ob;refine codeAny_call_builtin KF.slot_gs.plain KF.entry_gs (KF.slot_gs.check _ _ _ _ _ _ _ _ KF.type_class (KF.args_gs _ _ _) ?_);unfold Builtin.«getset_descriptor.__get__» descrGet;rw [dga_obj];refine aD (wpAny_pure ?_);unfold descrGetter descrCheckInstance descrNameAndClass isInstance;simp only [KF.owner_class]
 repeat lk
 refine ⟨Code.quiet_builtin _ (by decide +kernel),ay KF.entry_class ?_⟩;unfold Builtin.«object.__class__» shownTypeOf
 repeat lk
 exact j
theorem Qgv {tk:Tok} {Q:Fin->aC->Prop} (X:K.In h) (F:XCls K C) (I:IsX x C h) (j:Q (.done (.ret (.ref C))) ⟨h,g,d,t,os⟩) :
  aF (aI prog w) A (Builtin.«object.__getattribute__» ⟨[.ref x,.str "__class__" tk],[]⟩) Q E ⟨h,g,d,t,os⟩:=by
 have q:=I.type (M:=aI prog w);have z:=Qkq (M:=aI prog w) (x:=x) X F;unfold Builtin.«object.__getattribute__»;refine aD (wpAny_pure ?_);refine aD (wpAny_pure ?_);refine aD (q.at (aD (z.at ?_)));show aF _ _ (Builtin.ObjectAttr.bindTo (.builtin "getset_descriptor.__get__") (.builtin "object.__class__") (.ref x) (.ref C)) _ _ _;unfold Builtin.ObjectAttr.bindTo;refine aD (ae (wpAny_call (Qqe X F I ?_)));exact wpAny_pure j
theorem Qgw {M:Model} {j:aA} {Q:Unit->aC->Prop} (X:K.In h) (F:XCls K C) (I:IsX x C h) (J:Q () ⟨h,g,d,t,os⟩):aF M A (checkBuiltinCall "BaseException.__getattribute__" ⟨[.ref x,j],[]⟩) Q E ⟨h,g,d,t,os⟩:=by
 have O:builtinKind "BaseException.__getattribute__" = zo .slot:=by decide +kernel
 have q:splitId "BaseException.__getattribute__" = zo ("BaseException", "__getattribute__"):=by decide +kernel
 have G:Looks M h (isInstance (.ref x) (.type "BaseException")) yo:=(I.type).andThen (looks_mroIn X F.be);have z:=PySem.F.args_bexc_ga (.ref x) j;simp only [checkBuiltinCall,O,q];refine aD (G.at ?_);simp only [cX,E4,if_false];exact wpAny_of_eq z J
theorem Qkr {tk:Tok} {R:Result->aC->Prop} (X:K.In h) (F:XCls K C) (I:IsX x C h) (j:R (.ok (.ret (.ref C))) ⟨h,g,d,t,os⟩) :
  codeAny (aI prog w) A (.call (.builtin "BaseException.__getattribute__") ⟨[.ref x,.str "__class__" tk],[]⟩) R ⟨h,g,d,t,os⟩:=
 codeAny_call_builtin PySem.F.attr_ValueError.ga.plain PySem.F.entry_bexc_ga (Qgw X F I (Qgv X F I j))
theorem Qt9 {tk:Tok} {Q:aA->aC->Prop} (X:K.In h) (F:XCls K C) (I:IsX x C h) (U:Q (.ref C) ⟨h,g,d,t,os⟩):aF (aI prog w) A (getAttrBy (.ref x) (.str "__class__" tk) yl) Q E ⟨h,g,d,t,os⟩:=by
 have q:=I.type (M:=aI prog w);have z:=looks_findIn (M:=aI prog w) X F.ga;have G:=looks_findIn (M:=aI prog w) X F.gt;have j:(cw "BaseException.__getattribute__" == cw "object.__getattribute__")=yl:=by decide +kernel
 have J:(onTheHeap (ba C) && cw "BaseException.__getattribute__" == cw "object.__getattribute__")=yl:=by rw [j]; rfl
 have O:=PySem.F.attr_ValueError.ga.bind (.ref x);unfold getAttrBy;refine ae (aD (q.at (aD (z.at ?_))))
 repeat (any_goals (first | assumption | with_reducible refine G.at ?_ | wp_step))
 refine Qkr X F I ?_
 repeat (any_goals (first | assumption | wp_step))
theorem Qks {Q:Option aA->aC->Prop} (X:K.In h) (F:XCls K C) (I:IsX x C h) (j:Q (zo (.ref C)) ⟨h,g,d,t + 1,os⟩):aF (aI prog w) A (getAttr? (.ref x) "__class__") Q E ⟨h,g,d,t,os⟩:=by
 unfold getAttr? getAttrBy?
 repeat (any_goals (first | assumption | with_reducible apply Qt9 X F I | wp_step))
end
theorem Qj6 {K:Frag} {x C:aB} (F:XCls K C):KitX K (.ref x) (.ref C) (IsX x C) where
 ty:=fun _ _ _ I=>I.type
 it:=fun _ _ X _=>by
  obtain ⟨Y,j⟩:=dz.mp F.cls;unfold clsIn at j
  split at j
  ·rename_i Z d' G O U;intro A' Q' E' s' k q;unfold isType loadHead;exact aD (wpAny_loadPart (k _ _ (X _ _ U)) (wpAny_pure q))
  ·cases j
 ne:=fun h tp dd its n sl X J=>by
  obtain ⟨Y,j⟩:=dz.mp F.cls;refine Bool.eq_false_iff.mpr fun q=>?_
  have e:C=tp:=Value.ref.inj (beq_iff_eq.mp q);subst e;unfold clsIn at j
  split at j
  ·rename_i Z d' G O U;have z:=(X _ _ U).symm.trans J;cases z
  ·cases j
 ca:=fun {prog w A E Q s} X I k=>by
  obtain ⟨h,g,d,t,os⟩:=s;exact Qks X F I k
end L2
namespace L2
open PySem PySem.Spec PyProof.Rows
theorem ObjOk.there {P:aK} {w:aJ} {H:Hp} {h:Heap} {a:aB} {o:HO} (x:ObjOk P w H h a o):∃ u,h.get? a=zo u:=by
 cases o with
 | lst xs=>obtain ⟨_,_,_,_,e⟩:=x; exact ⟨_,e⟩
 | tup xs=>obtain ⟨_,_,_,o,e,_⟩:=x; exact ⟨o,e⟩
 | dK kvs=>obtain ⟨_,_,_,_,o,_,_,e,_⟩:=x; exact ⟨o,e⟩
 | dT kvs=>obtain ⟨_,_,_,_,o,_,_,e,_⟩:=x; exact ⟨o,e⟩
 | set S n=>obtain ⟨o,_,_,_,e,_⟩:=x; exact ⟨o,e⟩
 | ins C dx fs=>obtain ⟨_,_,_,e,_⟩:=x; exact ⟨_,e⟩
 | own y=>exact x
 | xd fs=>obtain ⟨_,⟨o,_,_,e,_⟩,_⟩:=x; exact ⟨o,e⟩
 | rng lo hi=>obtain ⟨_,_,_,e⟩:=x; exact ⟨_,e⟩
 | frz ob u=>obtain ⟨e,_⟩:=x; exact ⟨_,e⟩
 | tbl ps=>exact ⟨_,x⟩
 | met f y=>exact ⟨_,x⟩
 | ext j=>exact x.2.1
theorem HOk.none_of {P:aK} {w:aJ} {H:Hp} {h:Heap} {a:aB} (x:HOk P w H h) (e:h.get? a=zb):H a=zb:=by
 cases q:H a with
 | none=>rfl
 | some o=>
  obtain ⟨u,z⟩:=(x a o q).there;rw [e] at z;cases z
structure Fly (P:aK) (w:aJ) (outer:List Env) (H H':Hp) (s s':aC) (a:aB) (cls a0:aA) (B:Heap):Prop where
 os:s'.os=s.os
 bare:AllBare s'.gens
 fl:Heap.FlyingW B outer a cls a0 s'.heap
 hokB:HOk P w H' B
 keep:∀ b o,s.heap.get? b=zo o->H b=zb->b∉frs outer->B.get? b=zo o
 there:∀ b o,s.heap.get? b=zo o->b∉frs outer->∃ o',B.get? b=zo o'
 slot:∀ b o,s.heap.get? b=zo o->b∈frs outer->∃ sl,s'.heap.get? b=zo { o with slots:=sl }
 free:∀ b o,s.heap.get? b=zo o->H b=zb->H' b=zb
 tups:∀ b xs,H b=zo (.tup xs)->H' b=zo (.tup xs)
 frzs:∀ b o u,H b=zo (.frz o u)->H' b=zo (.frz o u)
 tbls:∀ b ps,H b=zo (.tbl ps)->∃ more,H' b=zo (.tbl (ps ++ more))
section
variable {P:aK} {w:aJ} {K:bW} {mg:Str->Option aA} {base:Heap} {N:List Str} {qual:Str} {scope:Scope} {f:aB} {cd:aA} {A:aM} {outer:List Env} {s:aC} {H:Hp} {E:XK}
end
abbrev Q55:List aA:=[.type "ValueError",.type "Exception",.type "BaseException",.type "object"]
theorem Qn3 {K:bW} {h:Heap} {C:aB} {z:List aA} {j:String} {x:Str} {mg:Str->Option aA} (X:K.In h) (m:mg x=zo (.ref C)) (q:cE K C z j=yo):OwnCls x C z j mg h:=by
 refine ⟨m,?_⟩;unfold cE at q
 split at q
 ·rename_i dd cd J Y
  split at q
  ·rename_i Z bm k0 k1 k2 k3 n k5 hm hs;simp only [E6,beq_iff_eq,Bool.not_eq_true'] at q;obtain ⟨⟨⟨⟨⟨rfl,rfl⟩,hdel⟩,ht⟩,hok⟩,hni⟩:=q;obtain ⟨nm,bs,U,ns,qn,hd,sn,sub,ab,col,O⟩:=cd;dsimp only at hm hdel hok hni;subst hm hdel;have G:J=#[k0,k1,k2,k3,zo (.builtin n),k5]:=by
    obtain ⟨l⟩:=J;simp only at hs;rw [hs]
   subst G;exact ⟨bm,ns,nm,qn,bs,hd,sn,sub,ab,col,dd,k0,k1,k2,k3,k5,_,X _ _ Y,.of_isNs (PySem.W.isNs_of_in X hok),PySem.W.nsMap_none_of_in X hok hni,PySem.W.tail_of_in X ht⟩
  ·cases q
 ·cases q
section
variable {X:Cx}
def Qqk (C:aB) (E:XK) (t:TA):TS:=fun _ σ H=>t σ H fun vs H1=>vs.length<=sizeLine/\E (.ref C) zb H1
end
def jr (X:Cx) (a:aB):Cx:={ X with A:=X.A.mark (zo (.ref a)),calm:=yl,xe:=fun _ _=>False }
section
variable {X:Cx} {pins:List (aB × Obj)} {σ:St} {H H':Hp} {s s':aC} {a C:aB}
theorem Inv.suite (I:Inv X pins σ H s) (a:aB):Inv (jr X a) pins σ H s:=
 ⟨⟨I.ok.mod,I.ok.kind,I.ok.glob,I.ok.blt,I.ok.above,I.ok.inj,I.ok.has,I.ok.cab,fun h=>(by cases h),I.ok.frames,I.ok.stk,I.ok.exf,I.ok.bs,I.ok.bsz,I.ok.noex,I.ok.exfs,I.ok.funs,I.ok.frf⟩,I.os,I.bare,I.base,I.loc,I.cell,I.free,I.freeC,I.pin,I.hok,I.len⟩
theorem Inv.unsuite (ok:X.Ok) (I:Inv (jr X a) pins σ H s):Inv X pins σ H s:=⟨ok,I.os,I.bare,I.base,I.loc,I.cell,I.free,I.freeC,I.pin,I.hok,I.len⟩
theorem Fly.inv {cls a0:aA} {B O:Heap} (I:Inv X pins σ H s) (F:Fly X.prog X.w X.stack H H' s s' a cls a0 B) (U:B.StaysIn O) (sm:s'.heap.UpToSlots O):Inv X pins σ H' { s' with heap:=O }:=by
 have G:∀ b o,s.heap.get? b=zo o->b∈frs X.stack->∃ G,O.get? b=zo { o with slots:=G }:=fun b o q j=>by
  obtain ⟨G,z⟩:=F.slot b o q j;obtain ⟨_,o',J,Z⟩:=I.stack.mem j;rw [q] at J;cases J;obtain ⟨Y,z'⟩:=sm b _ z Z;exact ⟨Y,z'⟩
 refine I.call' (s':={ s' with heap:=O }) (ch:=[]) F.os ⟨fun b o q n j _=>U _ _ (F.keep b o q n j),fun b o q n j _=>G b o q j,fun b o q n _=>F.free b o q n,fun b o q _=>?_,F.tups,F.frzs,F.tbls⟩ (F.hokB.kept U) F.bare fun b z=>absurd z (by simp)
 by_cases j:b∈frs X.stack
 ·obtain ⟨G,z⟩:=G b o q j;exact ⟨_,z⟩
 ·obtain ⟨o',z⟩:=F.there b o q j;exact ⟨o',U _ _ z⟩
theorem Fly.new {cls a0:aA} {B:Heap} (F:Fly X.prog X.w X.stack H H' s s' a cls a0 B):s.heap.get? a=zb/\H' a=zb:=by
 have U:B.get? a=zb:=F.fl.2.1;refine ⟨?_,F.hokB.none_of U⟩;cases q:s.heap.get? a with
 | none=>rfl
 | some o=>
  by_cases J:a∈frs X.stack
  ·obtain ⟨_,o',j,G⟩:=F.fl.2.2.1.mem J;obtain ⟨Y,vs,O,_,hd,_⟩:=F.fl.first;rw [j] at O;cases O;exact absurd hd (G vs)
  ·obtain ⟨o',z⟩:=F.there a o q J;rw [U] at z;cases z
theorem Inv.track {s1:aC} {Y:Heap->Prop} (O:Inv X pins σ H s) (U:∀ b,b∉X.ex) (h0:s.heap.get? a=zb) (I:Inv X pins σ H' s1) (J:H' a=zb) (o:ObjOk X.prog X.w (upd H' a (.ext Y)) s1.heap a (.ext Y)):Inv X pins σ (upd H' a (.ext Y)) s1:=by
 have j:∀ b u,s.heap.get? b=zo u->b≠a:=fun b u e z=>by rw [z,h0] at e; cases e
 have nes:∀ b u,X.s₀.heap.get? b=zo u->b≠a:=fun b u e=>by
  obtain ⟨u',e'⟩:=O.base.there b u e (U b);exact j b u' e'
 refine ⟨I.ok,I.os,I.bare,?_,I.loc,I.cell,?_,?_,?_,?_,I.len⟩
 ·have G:=I.base;exact ⟨G.keep,G.slot,fun c o e n hx=>by rw [Qf (nes c o e)]; exact G.free c o e n hx,G.there,
   fun c ts e=>by have:=G.tups c ts e; rw [Qf (Qg this J)]; exact this,
   fun c o ts e=>by have:=G.frzs c o ts e; rw [Qf (Qg this J)]; exact this,
   fun c ps e=>by obtain ⟨more,q⟩:=G.tbls c ps e; exact ⟨more,by rw [Qf (Qg q J)]; exact q⟩⟩
 ·obtain ⟨m,⟨o,_,_,e,_⟩,_⟩:=O.loc;rw [Qf (j _ _ e)]; exact I.free
 ·intro x c e;obtain ⟨v,o,z,_⟩:=O.cell x c e;rw [Qf (j _ _ z)]; exact I.freeC x c e
 ·intro p hp;obtain ⟨e,n,ne,nf,d⟩:=I.pin p hp;exact ⟨e,by rw [Qf (j _ _ (O.pin p hp).1)]; exact n,ne,nf,d⟩
 ·intro c u q
  by_cases Z:c=a
  ·subst Z;rw [Qp] at q; cases q;exact o
  ·rw [Qf Z] at q;exact (I.hok c u q).stay (fun _ _ _ r=>r) (fun c' r=>by rw [Qf (Qg r J)]; exact r) fun c' ts r=>by rw [Qf (Qg r J)]; exact r
theorem Inv.forget {i:Nat} {n:Str} {m:Str->Option aA} {h':Heap} {v:Option aA} {tk:Nat} (I:Inv X pins σ H s) (hN:X.N.Nodup) (hi:X.N[i]?=zo n) (hl:∀ (i:Nat) (x:Str) (v:V),X.N[i]?=zo x->σ[i]?=zo (zo v)->Vis X.env.scope x->∃ u,RelV v u/\Qvx X.env s.heap m x u)
  (Z:h'.Ns X.env.locals (fun x=>if x=n then v else m x)) (hs:Heap.SameBut X.env.locals s.heap h'):Inv X pins (σ.set i zb) H { s with heap:=h',toks:=tk }:=by
 have cne:=I.cne;have G:HOk X.prog X.w H h':=I.hok.same I.free hs;have J:∀ b o,X.s₀.heap.get? b=zo o->b≠X.env.locals:=fun b o e=>D8 (D0 (O9 e) I.ok.above)
 refine ⟨I.ok,I.os,I.bare,⟨fun b o e n U O=>(hs.2 b (J b o e)).trans (I.base.keep b o e n U O),fun b o e n U O=>?_,I.base.free,fun b o e O=>?_,I.base.tups,I.base.frzs,I.base.tbls⟩,⟨_,Z,fun j y v' e1 e2 e3=>?_⟩,fun y c e=>?_,I.free,I.freeC,fun p hp=>?_,G,by simpa using I.len⟩
 ·obtain ⟨sl,z⟩:=I.base.slot b o e n U O;exact ⟨sl,(hs.2 b (J b o e)).trans z⟩
 ·obtain ⟨o',z⟩:=I.base.there b o e O;exact ⟨o',(hs.2 b (J b o e)).trans z⟩
 ·by_cases Y:j=i
  ·subst Y;rw [hi] at e1; cases e1;have:j < σ.length:=by have:=(O1.mp e2).1; simpa using this
   rw [F3 this] at e2;cases e2
  ·rw [F2 (Ne.symm Y)] at e2;obtain ⟨u,r,q⟩:=hl j y v' e1 e2 e3;refine ⟨u,r,?_⟩;rcases q with ⟨k,e⟩ | ⟨k,c,e,z⟩
   ·refine .inl ⟨k,?_⟩;have:y≠n:=fun e=>Y (Q48 hN e1 (e ▸ hi))
    simp [this,e]
   ·exact .inr ⟨k,c,e,z.sameBut hs (cne y c e)⟩
 ·obtain ⟨w',z⟩:=I.cell y c e;exact ⟨w',z.sameBut hs (cne y c e)⟩
 ·obtain ⟨e,n,ne,nf,d⟩:=I.pin p hp;exact ⟨(hs.2 p.1 ne).trans e,n,ne,nf,d⟩
end
section
variable {X:Cx}
end
section
variable {X:Cx}
end
theorem Q2g (l:aB) (j:Array aA) (n:Nat) (dd:Option aB) (q:Array (Option aA)) (t:Tok) :
  Meets (Builtin.«tuple.__mul__» ⟨[.ref l,.int 1 t],[]⟩) (fun _ R s=>s.heap.get? l=zo { cls:=.type "tuple",dict:=dd,data:=.seq j n,slots:=q }/\R (.ok (.ret (.ref l))) s):=
 .of_wp fun prog w A R s h=>by
  obtain ⟨hp,g,d,tk,os⟩:=s; obtain ⟨z,h⟩:=h
  wp_walk using wpAny_loadPart' z
  exact ⟨_,rfl,h⟩
theorem Q2h (l:aB) (j:Array aA) (n:Nat) (dd:Option aB) (z:Array (Option aA)) (x:Int) (t:Tok) (h1:¬ (decide (x < -(2 ^ 63)) || decide (x>=2 ^ 63))=yo) (h2:¬ (j.isEmpty || x == 1)=yo) (U:¬ (decide (x<=0) || j.isEmpty)=yo) (O:¬ (j.size:Int) * x > (2 ^ 63 - 1) / 8) (J:¬ Builtin.Tuple.tupleTooMany ((j.size:Int) * x)=yo)
  (G:((bh x.toNat j).foldl (fun x1 x2=>x1 ++ x2) #[]).size<=sizeLine) :
  Meets (Builtin.«tuple.__mul__» ⟨[.ref l,.int x t],[]⟩) (fun _ R s=>s.heap.get? l=zo { cls:=.type "tuple",dict:=dd,data:=.seq j n,slots:=z } /\
   R (.ok (.ret (ba s.heap.objs.size))) { s with heap:=s.heap.push { cls:=cC "tuple",data:=Data.seq ((bh x.toNat j).foldl (fun x1 x2=>x1 ++ x2) #[]) } }):=
 .of_wp fun prog w A R s h=>by
  obtain ⟨hp,g,d,tk,os⟩:=s; obtain ⟨q,h⟩:=h
  wp_walk using wpAny_loadPart' q
  refine wpAny_ite_false (bU h1) ?_
  wp_walk using wpAny_loadPart' q
  refine wpAny_ite_false (bU O) ?_
  wp_walk using wpAny_loadPart' q
  all_goals first | exact ⟨_,rfl,h⟩ | (refine wpAny_ite_false (bU J) ?_; wp_walk) | skip
  all_goals first | exact ⟨_,rfl,h⟩ | (refine wpAny_ite_false (bU (gN.mpr G)) ?_; wp_walk; exact ⟨_,rfl,h⟩)
theorem Q4s (a:Int) (t:Tok) (l:aB) (j:Array aA) (n:Nat) (dd:Option aB) (q:Array (Option aA)) :
  Meets (Builtin.«int.__rmul__» ⟨[.int a t,.ref l],[]⟩) (fun _ R s=>s.heap.get? l=zo { cls:=.type "tuple",dict:=dd,data:=.seq j n,slots:=q }/\R (.ok (.ret gE)) s):=
 .of_wp fun prog w A R s h=>by obtain ⟨hp,g,d,tk,os⟩:=s; obtain ⟨z,h⟩:=h; wp_walk using wpAny_loadPart' z; exact ⟨_,rfl,h⟩
theorem Q0t:fillsNumberSlot (.type "tuple") "mul" = pure yl:=
 PySem.fillsNumberSlot_seq (id := "tuple.__mul__") (r:=zo (.builtin "tuple.__rmul__")) F.slot_tuple_mul.lookup (by decide +kernel) F.slot_tuple_rmul.lookup (by decide +kernel)
theorem Q7i:seqRepeat? (.type "tuple")=pure (zo (.builtin "tuple.__mul__")):=by
 unfold seqRepeat?;rw [gO (T := "tuple") (name := "__mul__") (id := "tuple.__mul__") F.slot_tuple_mul.lookup (by decide +kernel),gO (T := "tuple") (name := "__rmul__") (id := "tuple.__rmul__") F.slot_tuple_rmul.lookup (by decide +kernel)];rfl
section
variable {X:Cx}
def Qtu (K:bW):R2:=fun x y H Q=>∃ a k xs,x=.ref a/\y=.int k/\SqT K H a xs/\xs≠[]/\1<=k/\xs.length * k.toNat<=4096 /\
 (k=1->Q (.ref a) H)/\(k≠1->∀ p,H p=zb->Q (.ref p) (upd H p (.tup (bh k.toNat xs).flatten)))
theorem Qn9:OpR X (aZ .Mult) (Qtu X.K):=by
 intro pins s σ H x y v u Q I rx ry h;obtain ⟨a,k,xs,rfl,rfl,ha,J,hk,hz,q1,q2⟩:=h;cases rx;obtain ⟨t,rfl⟩:=ry;obtain ⟨its,r,p1,hs⟩:=I.tuple ha;obtain ⟨⟨cls,dd,data,G⟩,ho,hc,n,hd⟩:=id p1;simp only at hc hd;subst hc hd;have O:its.length=xs.length:=r.length.symm;have hpos:0 < its.length:=by rw [O]; exact List.length_pos_iff.mpr J
 have a1:k.toNat<=4096:=by
  have:1 * k.toNat<=xs.length * k.toNat:=Nat.mul_le_mul_right _ (by omega);omega
 refine wpAny_binaryOp_repeat_ref (T := "tuple") (U := "int") (by decide) ⟨_,ho,rfl⟩ (fun s'=>typeIs_int s' k t) Q0t F.fills_int_mul F.slot_int_rmul Q7i F.slot_int_index.lookup
  (az F.slot_int_rmul (typeIs_int s k t) F.entry_int_rmul (F.args_int_rmul_2 _ _) (Q4s k t a its.toArray n dd G)
   ⟨ho,rfl,⟨_,ho,rfl⟩,?_⟩)
 by_cases h1:k=1
 ·subst h1;exact az F.slot_tuple_mul ⟨_,ho,rfl⟩ F.entry_tuple_mul (F.args_tuple_mul_2 _ _) (Q2g a its.toArray n dd G t) ⟨ho,⟨.ref a,H,I,rfl,q1 rfl⟩⟩
 ·have Z:cP (fun x1 x2=>x1 ++ x2) #[] (bh k.toNat its.toArray)=(bh k.toNat its).flatten.toArray:=by
   have:=Q14 its k.toNat [];rw [gK] at this;exact this
  have j:(its.toArray.size:Int) * k=((its.length * k.toNat:Nat):Int):=by
   rw [O6,Int.natCast_mul,fQ (by omega)]
  have Y:(bh k.toNat its).flatten.length<=4096:=by rw [Q8g,O,fI]; exact hz
  have hb:its.length * k.toNat<=4096:=by rw [O]; exact hz
  refine az F.slot_tuple_mul ⟨_,ho,rfl⟩ F.entry_tuple_mul (F.args_tuple_mul_2 _ _) (Q2h a its.toArray n dd G k t ?_ ?_ ?_ ?_ ?_ ?_) ⟨ho,?_⟩
  ·rw [bU (by omega),bU (by omega)]; exact O7
  ·intro z;rcases gP.mp z with z | z
   ·rw [gQ,gS] at z; rw [z] at hpos; simp at hpos
   ·exact h1 (eq_of_beq z)
  ·intro z;rcases gP.mp z with z | z
   ·have:=of_decide_eq_true z; omega
   ·rw [gQ,gS] at z; rw [z] at hpos; simp at hpos
  ·rw [j]; omega
  ·rw [j];have:(4096:Int)<=sizeLine:=by decide
   show ¬ decide (((its.length * k.toNat:Nat):Int) > (sizeLine:Int))=yo;rw [bU (by omega)]; exact O7
  ·rw [Z,O6]; exact E3 Y (by decide)
  ·rw [Z];refine ⟨.ref s.heap.objs.size,_,I.laid (t':=s.toks) (o:=.tup (bh k.toNat xs).flatten) (fun b ob q=>O2 _ q) (O4 _) ?_,rfl,q2 h1 _ (I.hok.fresh (O4 _))⟩;exact ⟨by rw [Q8g,fI]; exact E3 hz (by decide),_,r.rep k.toNat,IsTup.new _ _⟩
end
section
variable {X:Cx} {pins:List (aB × Obj)} {s:aC} {σ:St} {H:Hp}
open PySem.SeqAt
theorem Qa0:OpR X (aV .IsNot) (fun x y H Q=>∃ b c,x=.bl b/\y=.bl c/\Q (.bl (b != c)) H):=by
 intro pins s σ H x y v u Q I z j h;obtain ⟨b,c,rfl,rfl,q⟩:=h;cases z;cases j;exact ii ⟨.bl _,H,I,rfl,q⟩
end
section
variable {K:bW} {cap:List (Option Nat)} {te:TE} {σ:St} {H1:Hp} {Q:VK}
end
structure JE (X:Cx) (e:aH) (t:TE):Prop where out:PE X e t
structure JA (X:Cx) (es:List aH) (t:TA):Prop where out:PA X es t
structure JS (X:Cx) (st:aL) (t:TS):Prop where out:PS X st t
structure JSs (X:Cx) (sts:List aL) (t:TS):Prop where out:PSs X sts t
section
variable {X:Cx} {pos:Pos}
theorem jok {j:List aL} {R:TS->Prop} (h:∃ t,JSs X j t/\R t):∃ t,PSs X j t/\R t:=by
 obtain ⟨t,a,b⟩:=h;exact ⟨t,a.out,b⟩
theorem Q4q:JA X [] Qti:=⟨Js⟩
theorem Yp {e:aH} {es:List aH} {te:TE} {t:TA} (j:JE X e te) (q:JA X es t) (hs:aN (e :: es) X.env=(yl,aP e X.env) :: aN es X.env:=by rfl):JA X (e :: es) (Qpx te t):=⟨Qt j.out q.out hs⟩
theorem yn {es:List aH} {t:TA} (h:JA X es t):JE X (.List es pos) (Qtj t):=⟨Qc2 h.out⟩
theorem Qs5 {x:Str} {j:Nat}:JE X (.Constant (.str x) j pos) (tC (.str x)):=⟨Q7r⟩
theorem Qap {a b:aH} {ta tb:TE} {op:Operator} {r:R2} (z:OpR X (aZ op) r) (j:JE X a ta) (q:JE X b tb):JE X (.BinOp a op b pos) (tOp r ta tb):=⟨Qq5 z j.out q.out⟩
theorem Quy {a b:aH} {ta tb:TE} {r:R2} (j:IxR X r) (q:JE X a ta) (z:JE X b tb) (hs:Q2c b):JE X (.Subscript a b pos) (tOp r ta tb):=⟨Qi8 j q.out z.out hs⟩
theorem Qny:JSs X [] Qpw:=⟨Q7n⟩
theorem X5 {st:aL} {rest:List aL} {t u:TS} (h1:JS X st t) (h2:JSs X rest u):JSs X (st :: rest) (Qte t u):=⟨j8 h1.out h2.out⟩
theorem Qe4 {st:aL} {t:TS} (h1:JS X st t):JSs X [st] t:=⟨xm h1.out⟩
theorem Qux {c:aH} {a b:List aL} {tc:TT} {t u:TS} (z:PT X c tc) (j:JSs X a t) (q:JSs X b u):JS X (.If c a b pos) (Qtk tc t u):=⟨Qhy z j.out q.out⟩
theorem Qj8 {e:aH} {te:TE} (j:JE X e te):JS X (.Return (zo e) pos) (Qtf te):=⟨Q7q j.out⟩
theorem Q11 {i:Nat} {x:Str} {e:aH} {te:TE} {pos':Pos} (z:X.N.Nodup) (hi:X.N[i]?=zo x) (G:Loc X.env.scope x) (j:JE X e te) (hs:swapsWith e (zo (.Name x pos')) pos.line X.env=pure yl:=by rfl) (q:X.fn x=yo\/X.env.scope.names.lookup x=zo .local:=by first | exact .inl rfl | exact .inr rfl | assumption) :
  JS X (.Assign [.Name x pos'] e pos) (Qkv te (Q6i i)):=⟨Q7p z hi G j.out hs q⟩
end
theorem V5:∀ (names:List (Str × av)) (h:Heap) (acc:List (Str × aB)) (x:Str) (c:aB),(ag h.objs.size names acc).lookup x=zo c ->
  acc.lookup x=zo c\/((x,NameKind.cell)∈names/\h.objs.size<=c/\(pushCells h names).IsCell c zb)
 | [],_,_,_,_,e=>.inl e
 | (name,kind) :: r,h,acc,x,c,e=>by
  unfold ag at e;unfold pushCells
  by_cases O:(kind == NameKind.cell)=yo
  ·rw [bS O] at e ⊢;have G:kind=.cell:=by simpa using O
   have Y:=V5 r (h.push { cls:=.type "cell",data:=.cell zb }) ((name,h.objs.size) :: acc) x c (by rw [F5]; exact e);rw [F5] at Y;rcases Y with z | ⟨q,U,J⟩
   ·rw [cQ] at z;cases j:x == name with
    | true=>
     rw [j] at z; cases z;exact .inr ⟨by rw [beq_iff_eq.mp j,G]; exact F4,O4 _,⟨_,pushCells_keeps _ _ _ _ (D1 _ rfl),rfl⟩⟩
    | false=>rw [j] at z; exact .inl z
   ·exact .inr ⟨O5 _ q,by omega,J⟩
  ·rw [bT O] at e ⊢;rcases V5 r h acc x c e with z | ⟨q,U,J⟩
   ·exact .inl z
   ·exact .inr ⟨O5 _ q,U,J⟩
theorem Vs {x:Str}:∀ (names:List (Str × av)) (n:Nat) (acc:List (Str × aB)),(x,NameKind.cell)∉names->(ag n names acc).lookup x=acc.lookup x
 | [],_,_,_=>rfl
 | (name,kind) :: r,n,acc,h=>by
  unfold ag;have q:(x,NameKind.cell)∉r:=fun z=>h (O5 _ z)
  by_cases j:(kind == NameKind.cell)=yo
  ·rw [bS j,Vs r _ _ q,cQ];cases G:x == name with
   | true=>exact absurd (by rw [beq_iff_eq.mp G,show kind=.cell by simpa using j]; exact F4) h
   | false=>rfl
  ·rw [bT j,Vs r _ _ q]
theorem Xz {x:Str} {c:aB}:∀ (names:List (Str × av)) (n:Nat) (acc:List (Str × aB)),(x,NameKind.cell)∈names->(ag n names acc).lookup x=zo c->n<=c
 | [],_,_,h,_=>by cases h
 | (name,kind) :: r,n,acc,h,e=>by
  unfold ag at e
  by_cases j:(x,NameKind.cell)∈r
  ·by_cases z:(kind == NameKind.cell)=yo
   ·rw [bS z] at e;exact Nat.le_of_succ_le (Xz r _ _ j e)
   ·rw [bT z] at e;exact Xz r _ _ j e
  ·rcases D5.mp h with q | q
   ·cases q;rw [bS (by decide),Vs r _ _ j,cQ] at e;simp at e;exact fL e
   ·exact absurd q j
theorem K0:∀ (names:List (Str × av)) (n:Nat) (acc:List (Str × aB)),(∀ x c,acc.lookup x=zo c->c < n)->(∀ x y c,acc.lookup x=zo c->acc.lookup y=zo c->x=y) ->
  ∀ x y c,(ag n names acc).lookup x=zo c->(ag n names acc).lookup y=zo c->x=y
 | [],_,_,_,h=>h
 | (name,kind) :: r,n,acc,h1,h2=>by
  unfold ag
  by_cases G:(kind == NameKind.cell)=yo
  ·rw [bS G];refine K0 r (n + 1) _ (fun x c e=>?_) (fun x y c e q=>?_)
   ·rw [cQ] at e;cases z:x == name with
    | true=>rw [z] at e; cases e; exact df _
    | false=>rw [z] at e; exact dA (h1 x c e)
   ·rw [cQ] at e q;cases z:x == name with
    | true=>
     rw [z] at e; cases e;cases j:y == name with
     | true=>rw [beq_iff_eq.mp z,beq_iff_eq.mp j]
     | false=>rw [j] at q; exact absurd (h1 y _ q) (G8 _)
    | false=>
     rw [z] at e;cases j:y == name with
     | true=>rw [j] at q; cases q; exact absurd (h1 x _ e) (G8 _)
     | false=>rw [j] at q; exact h2 x y c e q
  ·rw [bT G];exact K0 r n acc h1 h2
theorem Q5e {M:Model} {A:aM} {E:aA->aC->Prop} {s:aC} {scope:Scope} {q:aB} {cl:List (Str × aB)} {qual:Str} {z:Option aB} {code:aA} {env:Env} {j:aB} {Q:Env->aC->Prop}
  (O:Q (newEnv scope s.heap.objs.size q (ag (s.heap.objs.size + 1) scope.names cl) qual z code (zo env) j) { s with heap:=pushCells (s.heap.push { cls:=.type "dict",data:=.dict #[] }) scope.names }) :
  aF M A (newFunctionEnv scope q cl [] qual z code (zo env) j) Q E s:=by
 simp only [newFunctionEnv,gT,if_true];refine aD (wpAny_alloc ?_);refine aD (wpAny_layCells _ (fun name kind J=>by cases G:kind == NameKind.cell <;> simp [G]) _ _ _ _ ?_);rw [show ({ s with heap:=s.heap.push { cls:=.type "dict",data:=.dict #[] } }:aC).heap.objs.size=s.heap.objs.size + 1 from F5 ..];refine aD ?_;rw [List.forIn_nil];exact wpAny_pure (wpAny_pure O)
def compOkC (N N':List Str) (sc scE:Scope) (cap:List (Option Nat)):Bool:=
 sc.kind == .function && sc.names.all (fun x=>x.2 != .cell || sc.names.lookup x.1 == zo .cell) && sc.names.all (fun x=>x.2 != .local || sc.names.lookup x.1 == zo .local) &&
 sc.names.all (fun x=>x.2 != .free || scE.names.lookup x.1 == zo .cell || scE.names.lookup x.1 == zo .free) && cap.length == N'.length &&
 (bY cap.length).all (fun i=>match cap[i]? with
  | some (zo j)=>(match N'[i]?,N[j]? with | some a,zo b=>a == b && sc.names.lookup a == zo .free | _,_=>yl)
  | _=>yo)
structure CompOkC (N N':List Str) (sc scE:Scope) (cap:List (Option Nat)):Prop where
 kind:sc.kind=.function
 cel:∀ x∈sc.names,x.2=.cell->sc.names.lookup x.1=zo .cell
 loc:∀ x∈sc.names,x.2=.local->sc.names.lookup x.1=zo .local
 fre:∀ x∈sc.names,x.2=.free->scE.names.lookup x.1=zo .cell\/scE.names.lookup x.1=zo .free
 len:cap.length=N'.length
 at_:∀ (i j:Nat),cap[i]?=zo (zo j)->∃ x,N'[i]?=zo x/\N[j]?=zo x/\sc.names.lookup x=zo .free
theorem compOkC.of {N N':List Str} {sc scE:Scope} {cap:List (Option Nat)} (h:compOkC N N' sc scE cap=yo):CompOkC N N' sc scE cap:=by
 unfold compOkC at h;simp only [E6,E7,beq_iff_eq,Bool.or_eq_true,bne_iff_ne] at h;obtain ⟨⟨⟨⟨⟨h1,h2⟩,h3⟩,h4⟩,h5⟩,h6⟩:=h;refine ⟨h1,fun x q e=>?_,fun x q e=>?_,fun x q e=>?_,h5,fun i j e=>?_⟩
 ·rcases h2 x q with z | z
  ·exact absurd e z
  ·exact z
 ·rcases h3 x q with z | z
  ·exact absurd e z
  ·exact z
 ·rcases h4 x q with (z | z) | z
  ·exact absurd e z
  ·exact .inl z
  ·exact .inr z
 ·have hi:i < cap.length:=(O1.mp e).1;have:=h6 i (cW.mpr hi);rw [e] at this;simp only at this;cases e1:N'[i]? with
  | none=>rw [e1] at this; cases this
  | some a=>
   cases e2:N[j]? with
   | none=>rw [e1,e2] at this; cases this
   | some b=>
    rw [e1,e2] at this;simp only [E6,beq_iff_eq] at this;obtain ⟨rfl,z⟩:=this;exact ⟨a,rfl,rfl,z⟩
def Wg (X:Cx) (N':List Str) (sc:Scope) (cl:List (Str × aB)) (C:aB) (s0:aC) (H0:Hp) (ex:List aB):Cx:=
 { X with N:=N',s₀:=s0,H₀:=H0,env:=compEnvC sc cl C X.env,outer:=X.stack,ex:=ex,fn:=fun x=>sc.names.lookup x == zo .cell,pn:=[],xe:=fun _ _=>False }
section
variable {X:Cx}
theorem Qkf {pins:List (aB × Obj)} {σ:St} {H:Hp} {s:aC} {N N':List Str} {sc scE:Scope} {cap:List (Option Nat)} {cl:List (Str × aB)} {fp:List aB}
  (I:Inv X pins σ H s) (hN:X.N=N) (hE:X.env.scope=scE) (ck:CompOkC N N' sc scE cap) (c1:∀ x c,cl.lookup x=zo c->X.env.cells.lookup x=zo c) (c2:∀ x∈sc.names,x.2=.free->∃ c,cl.lookup x.1=zo c)
  (hf:∀ b∈fp,Q5b X pins H b) (a5:∀ b∈fp,b < s.heap.objs.size) :
  Inv (Wg X N' sc (ag (s.heap.objs.size + 1) sc.names cl) s.heap.objs.size s H fp) [] (Q09 cap σ) H { s with heap:=pushCells (s.heap.push { cls:=.type "dict",data:=.dict #[] }) sc.names }:=by
 obtain ⟨O,U⟩:∃ O,pushCells (s.heap.push { cls:=.type "dict",data:=.dict #[] }) sc.names=O:=⟨_,rfl⟩;obtain ⟨G,J⟩:∃ G,ag (s.heap.objs.size + 1) sc.names cl=G:=⟨_,rfl⟩;rw [U,J];have keep:∀ b o,s.heap.get? b=zo o->O.get? b=zo o:=fun b o e=>by rw [<- U]; exact pushCells_keeps _ _ b o (O2 _ e)
 have a8:O.Ns s.heap.objs.size (fun _=>zb):=by rw [<- U]; exact (Heap.Ns.new s.heap (.type "dict")).keeps (pushCells_keeps _ _)
 have look:∀ x c,G.lookup x=zo c->cl.lookup x=zo c\/(s.heap.objs.size + 1<=c/\O.IsCell c zb):=fun x c e=>by
  rw [<- J] at e;have:=V5 (sc.names) (s.heap.push { cls:=.type "dict",data:=.dict #[] }) cl x c (by rw [F5]; exact e);rw [F5,U] at this;rcases this with z | ⟨_,z,z'⟩
  ·exact .inl z
  ·exact .inr ⟨z,z'⟩
 have Z:∀ x c,cl.lookup x=zo c->c < s.heap.objs.size:=fun x c e=>by
  obtain ⟨v,o,ho,_⟩:=I.cell x c (c1 x c e);exact O9 ho
 have inj:∀ x y c,G.lookup x=zo c->G.lookup y=zo c->x=y:=by
  rw [<- J];exact K0 _ _ _ (fun x c e=>dA (Z x c e)) fun x y c a b=>I.ok.inj x y c (c1 x c a) (c1 y c b)
 have a9:∀ x,sc.names.lookup x=zo .cell->∃ c,G.lookup x=zo c:=fun x e=>by
  rw [<- J];exact dz.mp (fE _ _ _ (.inl e))
 have a6:∀ x,sc.names.lookup x=zo .free->G.lookup x=cl.lookup x:=fun x e=>by
  rw [<- J];refine Vs _ _ _ fun z=>?_
  have:=ck.cel _ z rfl;rw [e] at this; cases this
 have kindOf:∀ x k,(compEnvC sc G s.heap.objs.size X.env).kindOf x=zo k->k=.cell\/k=.free->sc.names.lookup x=zo .free\/sc.names.lookup x=zo .cell:=fun x k e hk=>by
  have e':(relabel sc X.env).names.lookup x=zo k:=e;rw [j7] at e';cases q:sc.names.lookup x with
  | none=>rw [q] at e'; cases e'
  | some k'=>
   rw [q] at e';have a4:(if (k' == NameKind.free && X.env.scope.kind == .function && X.env.kindOf x == zo .cell)=yo then NameKind.cell else k')=k:=br e'
   by_cases Y:(k' == NameKind.free && X.env.scope.kind == .function && X.env.kindOf x == zo .cell)=yo
   ·simp only [E6,beq_iff_eq] at Y;rw [Y.1.1]; exact .inl rfl
   ·rw [bT Y] at a4;subst a4;rcases hk with z | z
    ·rw [z]; exact .inr rfl
    ·rw [z]; exact .inl rfl
 have cellAt:∀ x c,X.env.cells.lookup x=zo c->∀ v,s.heap.IsCell c v->O.IsCell c v:=fun x c e v ⟨o,ho,hd⟩=>⟨o,keep c o ho,hd⟩
 have a2:∀ c,s.heap.objs.size<=c->H c=zb:=fun c Y=>I.hok.fresh Y
 refine ⟨⟨I.ok.mod,ck.kind,I.ok.glob,I.ok.blt,O4 _,inj,fun x hx=>?_,fun x c h1 h2=>?_,I.ok.hd,I.ok.frames,.inl rfl,fun b hb=>?_,I.bs,
  E3 I.ok.bsz I.sz,fun b o e hb=>?_,fun b hb hz=>?_,I.stack,I.stkFree⟩,rfl,I.bare,Un.kept keep,⟨_,a8,fun i x v e1 e2 e3=>?_⟩,fun x c e=>?_,a2 _ (O4 _),fun x c e=>?_,fun p hp=>(by cases hp),I.hok.kept keep,?_⟩
 ·have hx:(compEnvC sc G s.heap.objs.size X.env).kindOf x=zo .cell\/(compEnvC sc G s.heap.objs.size X.env).kindOf x=zo .free:=hx;have q:sc.names.lookup x=zo .free\/sc.names.lookup x=zo .cell:=by
   rcases hx with z | z
   ·exact kindOf x _ z (.inl rfl)
   ·exact kindOf x _ z (.inr rfl)
  rcases q with q | q
  ·obtain ⟨c,Y⟩:=c2 _ (cZ q) rfl;exact ⟨c,(a6 x q).trans Y⟩
  ·exact a9 x q
 ·have h1:sc.names.lookup x=zo .cell:=by simpa [Wg] using h1
  have h2:G.lookup x=zo c:=h2;rw [<- J] at h2;exact E3 (dH _) (Xz _ _ _ (cZ h1) h2)
 ·refine ⟨D8 (a5 b hb),fun x c e=>?_⟩;rcases look x c e with z | ⟨z,_⟩
  ·exact (hf b hb).2.2.2.2.1 x c (c1 x c z)
  ·exact fun q=>absurd (D0 (a5 b hb) (E3 (dH _) (q ▸ z))) (G8 _)
 ·rcases (hf b hb).2.2.2.1 with z | z
  ·exact I.ok.noex b o e z
  ·exact absurd (D0 (O9 e) (E3 I.ok.bsz z)) (G8 _)
 ·rcases D5.mp (I.stkSub b hz) with e | z
  ·exact (hf b hb).2.1 e
  ·exact (hf b hb).2.2.1 z
 ·have e1:N'[i]?=zo x:=e1;have e2:(Q09 cap σ)[i]?=zo (zo v):=e2;unfold Q09 at e2;rw [D2] at e2;cases q:cap[i]? with
  | none=>rw [q] at e2; cases e2
  | some oj=>
   rw [q] at e2;cases oj with
   | none=>cases e2
   | some j=>
    obtain ⟨y,z1,z2,z3⟩:=ck.at_ i j q;rw [e1] at z1; cases z1;have ev:σ[j]?=zo (zo v):=by
     have a1:(σ[j]?).join=zo v:=br e2;cases r:σ[j]? with
     | none=>rw [r] at a1; cases a1
     | some o=>rw [r] at a1; exact congrArg zo a1
    obtain ⟨m',b0,hl⟩:=I.loc;have sK:X.env.scope.names.lookup x=zo .cell\/X.env.scope.names.lookup x=zo .free:=by rw [hE]; exact ck.fre _ (cZ z3) rfl
    obtain ⟨u,ru,l⟩:=hl j x v (by rw [hN]; exact z2) ev (sK.elim (fun z=>.inr (.inl z)) fun z=>.inr (.inr z))
    refine ⟨u,ru,?_⟩;obtain ⟨c,Y⟩:=c2 _ (cZ z3) rfl;rcases l with ⟨k,_⟩ | ⟨k,c',a7,a3⟩
    ·have k:X.env.scope.names.lookup x=zo .local:=k;rcases sK with z | z <;> (rw [k] at z; cases z)
    ·have:c=c':=by
      have q1:=c1 x c Y;rw [a7] at q1;exact (br q1).symm
     subst this;refine .inr ⟨?_,c,(a6 x z3).trans Y,cellAt x c a7 _ a3⟩;show (relabel sc X.env).names.lookup x=zo .cell\/(relabel sc X.env).names.lookup x=zo .free;rw [j7,z3];show zo (if _ then NameKind.cell else NameKind.free)=_\/zo (if _ then NameKind.cell else NameKind.free)=_
     split
     ·exact .inl rfl
     ·exact .inr rfl
 ·rcases look x c e with z | ⟨_,z⟩
  ·obtain ⟨v,q⟩:=I.cell x c (c1 x c z);exact ⟨v,cellAt x c (c1 x c z) v q⟩
  ·exact ⟨_,z⟩
 ·rcases look x c e with z | ⟨z,_⟩
  ·exact I.freeC x c (c1 x c z)
  ·exact a2 c (by omega)
 ·unfold Q09;show _=N'.length;rw [O3];exact ck.len
end
section
variable {X:Cx}
end
end L2
namespace PySem
open Sem (wp)
section
variable {prog:aK} {w:aJ} {A:aM} {E:aA->aC->Prop} {hp:Heap} {gs:Array GenState} {dr:Drawn} {tk:Nat} {sy:OsState}
variable {cn cq:Str} {kC kN:aB} {bas tl tB:List aA} {hd:Bool} {sns:List Str} {subs:List aA} {abb:Bool} {coll:Option Bool} {dic:Option aB} {j0 j1 j2 j3 j5:Option aA} {BB Bn newI nI initI inN:String} {tN:List aA}
end
section
variable {M:Model} {A:aM} {E:aA->aC->Prop} {env:Env}
variable {cn cq:Str} {kC kN:aB} {bas tl:List aA} {hd:Bool} {sns:List Str} {subs:List aA} {abb:Bool} {coll:Option Bool} {dic:Option aB} {j0 j1 j2 j3 j5:Option aA} {newI:String}
end
end PySem
namespace L2
open PySem PySem.Spec PyProof.Rows PySem.W PySem.Builtin.ObjectAttr
section
variable {prog:aK} {w:aJ} {A:aM} {E:aA->aC->Prop} {s:aC} {K:Frag} {x C W:aB} {name:Str} {v:aA}
end
end L2
namespace L2
open PySem PySem.Spec PyProof.Rows PySem.W
section
variable {prog:aK} {w:aJ} {A:aM} {E:aA->aC->Prop} {s:aC} {K:Frag} {x C W f:aB}
end
section
variable {X:Cx} {x C W f:aB}
end
end L2
namespace PySem
open Sem (wp)
def qt (o:Obj):Option aA:=match o.data with | .fields vs=>vs[2]? | _=>zb
theorem Qas {o:Obj} {vs:Array aA} {x:aA} (j:o.data=.fields vs):qt (cI (·.setIfInBounds 1 x) o)=qt o:=by
 have d:=ce j (·.setIfInBounds 1 x);unfold qt;rw [d,j];exact fS (by decide)
section
variable {M:Model} {A:aM} {E:aA->aC->Prop} {s:aC} {bs:Heap} {en:Env} {ou:List Env} {L e:aB} {ob:Obj} {vs:Array aA} {a0:aA} {Q:Unit->aC->Prop}
theorem Q4y {G:aA} {nx:Bool} (fr:A.frames=zo (en :: ou)) (ff:s.heap.FunFrames bs (en :: ou)) (ef:en.frame=zo L) (oe:s.heap.get? e=zo ob) (kb:bs.StaysIn s.heap) (ne:bs.get? e=zb)
  (O:ob.data=.fields vs) (z1:1 < vs.size) (z0:vs[0]?=zo a0)
  (h:∀ h',Heap.LeftW bs (en :: ou) e ob.cls a0 s.heap h'->(∃ o',h'.get? e=zo o'/\o'.dict=ob.dict/\qt o'=qt ob)->Q () { s with heap:=h' }) :
  aF M A (do
   let a <- frameOf en
   let pl <- entryPlaceOf L nx
   let b <- EntryCells.newEntry G a .none (aR L) .none pl
   setField (.ref e) 1 b) (fun _ s'=>aF M A (setFlight (.ref e) zb) Q E s') E s:=by
 have nf:e∉(en :: ou).filterMap (·.frame):=fun m=>by
  obtain ⟨_,o,q,n⟩:=ff.mem m;rw [oe] at q;cases q;exact n vs O
 refine aD (wpAny_frameOf_fun fr ff ef fun g gs=>?_);refine aD (wpAny_entryPlaceOf fun pl hp=>?_);unfold EntryCells.newEntry newFields;refine aD (ao ?_ (hp.sizeOk5 _ _ _ _ _));have ge:g.get? e=zo ob:=(gs.2.1 e nf).trans oe;have gb:bs.StaysIn g:=fun b o q=>(gs.2.1 b fun m=>by
  rw [(ff.mem m).1] at q;cases q).trans (kb b o q)
 obtain ⟨tb,Y⟩:∃ tb:List aA,[G,.ref L,.none,aR L,.none] ++ (if pl.isEmpty then bh 6 bg else pl)=tb:=⟨_,rfl⟩;have l5:3 < tb.length/\tb[3]?=zo (aR L):=by
  rw [<- Y];exact ⟨by simp,by simp⟩
 rw [Y];have Z:=O2 (h:=g) { cls:=.type "traceback",dict:=zb,data:=.fields tb.toArray } ge;refine wpAny_setField Z O z1 ?_;have te:g.objs.size≠e:=cG (O9 ge);have d3:=ce O (·.setIfInBounds 1 (ba g.objs.size));have j:=F6 (cI (·.setIfInBounds 1 (ba g.objs.size))) Z (db d3);have J:=(F1 (g.push { cls:=.type "traceback",dict:=zb,data:=.fields tb.toArray })
  (cI (·.setIfInBounds 1 (ba g.objs.size))) te.symm).trans
  (D1 g rfl)
 unfold setFlight;refine aD (ak j d3 (x:=.ref g.objs.size) (by simp [z1]) ?_);rw [bS (show (ba g.objs.size != bg)=yo by simp)];refine wpAny_setField J rfl (by simpa using l5.1) (h _ ?_ ?_)
 all_goals
  obtain ⟨g3,U⟩:∃ g3,((g.push { cls:=.type "traceback",dict:=zb,data:=.fields tb.toArray }).update e (cI (·.setIfInBounds 1 (ba g.objs.size))))=g3:=⟨_,rfl⟩;rw [U] at j J ⊢
 ·have kp:∀ b o,b≠e->g.get? b=zo o->(g3.update g.objs.size (cI (·.setIfInBounds 3 ((zb:Option aB).elim bg fun f=>aR f)))).get? b=zo o:=fun b o n q=>by
   rw [F1 _ _ (cG (O9 q)),<- U,F1 _ _ n.symm];exact O2 _ q
  have nr:∀ b o,s.heap.get? b=zo o->(∀ ws,o.data≠.fields ws)->b≠e:=fun b o q n z=>by
   rw [z,oe] at q;cases q;exact n vs O
  refine ⟨fun b o q=>kp b o (fun z=>by rw [z,ne] at q; cases q) (gb b o q),ff.of_keeps fun b o q n=>?_,?_,fun b o q n=>?_⟩
  ·obtain ⟨sl,z⟩:=gs.2.2 b o q;exact ⟨_,kp b _ (nr b o q n) z,rfl⟩
  ·refine ⟨_,_,g.objs.size,_,_,?_,⟨fO _ _,?_⟩,d3,by simp [z1],gb.fresh,te,F6 _ J (db (ce rfl _)),ce rfl _,?_⟩
   ·rw [F1 _ _ te];exact j
   ·rw [fS (by decide)];exact z0
   ·have:=l5.1;simp [this]
  ·obtain ⟨sl,z⟩:=gs.2.2 b o q;exact ⟨sl,kp b _ (nr b o q n) z⟩
 ·refine ⟨_,(F1 _ _ te).trans j,?_,Qas O⟩;cases ob with
  | mk c d dt sl=>cases dt <;> first | rfl | cases O
theorem Qak (Y:A.frames=zo (en :: ou)) (J:s.heap.FunFrames bs (en :: ou)) (G:en.frame=zo L) (j:s.heap.get? e=zo ob) (U:bs.StaysIn s.heap) (ne:bs.get? e=zb)
  (q:ob.data=.fields vs) (z:vs[1]?=zo .none) (O:vs[0]?=zo a0)
  (h:∀ h',Heap.LeftW bs (en :: ou) e ob.cls a0 s.heap h'->(∃ o',h'.get? e=zo o'/\o'.dict=ob.dict/\qt o'=qt ob)->Q () { s with heap:=h' }):aF M A (leaving en (.ref e)) Q E s:=by
 unfold leaving noteFrame;simp only [G];refine aD (aD (ak j q z ?_));rw [bT (by decide)];exact Q4y Y J G j U ne q (bx.mp z).1 O h
theorem Qaj {cls:aA} {Y:Option aB} (fr:A.frames=zo (en :: ou)) (ef:en.frame=zo L) (fl:Heap.FlyingW bs (en :: ou) e cls a0 s.heap) (dd:∃ o',s.heap.get? e=zo o'/\o'.dict=Y/\qt o'=zo .none)
  (h:∀ h',Heap.FlyingW bs ou e cls a0 h'->(∃ o',h'.get? e=zo o'/\o'.dict=Y/\qt o'=zo .none)->s.heap.UpToSlots h'->Q () { s with heap:=h' }):aF M A (leaving en (.ref e)) Q E s:=by
 obtain ⟨kb,ne,ff,oe,ws,T,oT,ts,O,⟨hc,z0⟩,od,z1,nT,Te,hT,dT,z3⟩:=fl;obtain ⟨o',j,J,U⟩:=dd;rw [O] at j;cases j;unfold leaving noteFrame;simp only [ef];refine aD (aD (ak O od z1 ?_));rw [bS (show (ba T != bg)=yo by simp)];refine aD (ak hT dT z3 ?_);rw [bT (show ¬ ((bg == aR L)=yo) by simp [aR])];refine aD (wpAny_setField hT dT (bx.mp z3).1 ?_);have G:∀ b,b≠T->(s.heap.update T (cI (·.setIfInBounds 3 bg))).get? b=s.heap.get? b:=fun b n=>F1 _ _ n.symm
 have Z:∀ b o,s.heap.get? b=zo o->(∀ ws,o.data≠.fields ws)->b≠T:=fun b o q n z=>by
  rw [z,hT] at q;cases q;exact n ts dT
 refine Q4y fr (ff.of_keeps fun b o q n=>⟨o,(G b (Z b o q n)).trans q,rfl⟩) ef ((G e Te.symm).trans O) (fun b o q=>(G b fun z=>by rw [z,nT] at q; cases q).trans (kb b o q)) ne od (bx.mp z1).1 z0 fun h' lf d'=>?_
 obtain ⟨k1,⟨_,_,k2⟩,k3,k4⟩:=lf;rw [hc] at k3;exact h h' ⟨k1,ne,k2,k3⟩ (d'.imp fun o q=>⟨q.1,q.2.1.trans J,q.2.2.trans U⟩) fun b o q n=>k4 b o ((G b (Z b o q n)).trans q) n
theorem Q1y {j:aA} {nx:Bool} (fr:A.frames=zo (en :: ou)) (Y:s.heap.FunFrames bs (en :: ou)) (ef:en.frame=zo L) (oe:s.heap.get? e=zo ob) (kb:bs.StaysIn s.heap) (ne:bs.get? e=zb)
  (G:ob.data=.fields vs) (z1:1 < vs.size) (z0:vs[0]?=zo a0)
  (h:∀ h',Heap.NotedW bs (en :: ou) e ob.cls a0 (aR L) s.heap h'->(∃ o',h'.get? e=zo o'/\o'.dict=ob.dict/\qt o'=qt ob)->Q () { s with heap:=h' }) :
  aF M A (do
   let a <- frameOf en
   let pl <- entryPlaceOf L nx
   let b <- EntryCells.newEntry j a .none (aR L) .none pl
   setField (.ref e) 1 b) Q E s:=by
 have nf:e∉(en :: ou).filterMap (·.frame):=fun m=>by
  obtain ⟨_,o,q,n⟩:=Y.mem m;rw [oe] at q;cases q;exact n vs G
 refine aD (wpAny_frameOf_fun fr Y ef fun g gs=>?_);refine aD (wpAny_entryPlaceOf fun pl hp=>?_);unfold EntryCells.newEntry newFields;refine aD (ao ?_ (hp.sizeOk5 _ _ _ _ _));have ge:g.get? e=zo ob:=(gs.2.1 e nf).trans oe;have gb:bs.StaysIn g:=fun b o q=>(gs.2.1 b fun m=>by
  rw [(Y.mem m).1] at q;cases q).trans (kb b o q)
 obtain ⟨tb,O⟩:∃ tb:List aA,[j,.ref L,.none,aR L,.none] ++ (if pl.isEmpty then bh 6 bg else pl)=tb:=⟨_,rfl⟩;have l5:3 < tb.length/\tb[3]?=zo (aR L):=by
  rw [<- O];exact ⟨by simp,by simp⟩
 rw [O];have U:=O2 (h:=g) { cls:=.type "traceback",dict:=zb,data:=.fields tb.toArray } ge;have te:g.objs.size≠e:=cG (O9 ge);have d3:=ce G (·.setIfInBounds 1 (ba g.objs.size));have J:=F6 (cI (·.setIfInBounds 1 (ba g.objs.size))) U (db d3);have a1:=(F1 (g.push { cls:=.type "traceback",dict:=zb,data:=.fields tb.toArray })
  (cI (·.setIfInBounds 1 (ba g.objs.size))) te.symm).trans
  (D1 g rfl)
 refine wpAny_setField U G z1 (h _ ?_ ?_)
 ·have kp:∀ b o,b≠e->g.get? b=zo o->((g.push { cls:=.type "traceback",dict:=zb,data:=.fields tb.toArray }).update e (cI (·.setIfInBounds 1 (ba g.objs.size)))).get? b=zo o:=fun b o n q=>by
   rw [F1 _ _ n.symm];exact O2 _ q
  have nr:∀ b o,s.heap.get? b=zo o->(∀ ws,o.data≠.fields ws)->b≠e:=fun b o q n z=>by
   rw [z,oe] at q;cases q;exact n vs G
  refine ⟨fun b o q=>kp b o (fun z=>by rw [z,ne] at q; cases q) (gb b o q),Y.of_keeps fun b o q n=>?_,?_,fun b o q n=>?_⟩
  ·obtain ⟨Z,z⟩:=gs.2.2 b o q;exact ⟨_,kp b _ (nr b o q n) z,rfl⟩
  ·refine ⟨_,_,g.objs.size,_,_,J,⟨fO _ _,?_⟩,d3,by simp [z1],gb.fresh,te,a1,rfl,by simpa using l5.2⟩;rw [fS (by decide)];exact z0
  ·obtain ⟨Z,z⟩:=gs.2.2 b o q;exact ⟨Z,kp b _ (nr b o q n) z⟩
 ·refine ⟨_,J,?_,Qas G⟩;cases ob with
  | mk c d dt Z=>cases dt <;> first | rfl | cases G
theorem Qg2 {cls:aA} {Y:Option aB} (fr:A.frames=zo (en :: ou)) (ef:en.frame=zo L) (fl:Heap.FlyingW bs (en :: ou) e cls a0 s.heap) (dd:∃ o',s.heap.get? e=zo o'/\o'.dict=Y/\qt o'=zo .none)
  (h:∀ h',Heap.HeldW bs (en :: ou) e cls a0 L h'->(∃ o',h'.get? e=zo o'/\o'.dict=Y/\qt o'=zo .none)->s.heap.UpToSlots h'->Q () { s with heap:=h' }):aF M A (noteFrame (.ref e) en) Q E s:=by
 obtain ⟨kb,ne,ff,oe,ws,T,oT,ts,O,⟨hc,z0⟩,od,z1,nT,Te,hT,dT,z3⟩:=fl;obtain ⟨o',j,J,U⟩:=dd;rw [O] at j;cases j;unfold noteFrame;simp only [ef];refine aD (ak O od z1 ?_);rw [bS (show (ba T != bg)=yo by simp)];refine aD (ak hT dT z3 ?_);rw [bT (show ¬ ((bg == aR L)=yo) by simp [aR])];refine aD (wpAny_setField hT dT (bx.mp z3).1 ?_);have G:∀ b,b≠T->(s.heap.update T (cI (·.setIfInBounds 3 bg))).get? b=s.heap.get? b:=fun b n=>F1 _ _ n.symm
 have Z:∀ b o,s.heap.get? b=zo o->(∀ ws,o.data≠.fields ws)->b≠T:=fun b o q n z=>by
  rw [z,hT] at q;cases q;exact n ts dT
 refine Q1y fr (ff.of_keeps fun b o q n=>⟨o,(G b (Z b o q n)).trans q,rfl⟩) ef ((G e Te.symm).trans O) (fun b o q=>(G b fun z=>by rw [z,nT] at q; cases q).trans (kb b o q)) ne od (bx.mp z1).1 z0 fun h' nt d'=>?_
 obtain ⟨k1,k2,k3,k4⟩:=nt;rw [hc] at k3;exact h h' ⟨k1,ne,k2,k3⟩ (d'.imp fun o q=>⟨q.1,q.2.1.trans J,q.2.2.trans U⟩) fun b o q n=>k4 b o ((G b (Z b o q n)).trans q) n
theorem Q1m {l:List Env} {cls fv:aA} {dv:Option aB} (kb:bs.StaysIn s.heap) (ne:bs.get? e=zb) (ff:s.heap.FunFrames bs l) (tr:s.heap.TracedAtW bs e cls a0 fv) (dd:∃ o',s.heap.get? e=zo o'/\o'.dict=dv/\qt o'=zo .none)
  (h:∀ h',Heap.FlyingW bs l e cls a0 h'->(∃ o',h'.get? e=zo o'/\o'.dict=dv/\qt o'=zo .none)->s.heap.UpToSlots h'->Q () { s with heap:=h' }):aF M A (setFlight (.ref e) zb) Q E s:=by
 obtain ⟨oe,ws,T,oT,ts,he,hc,Z,z1,nT,U,O,dT,z3⟩:=tr;obtain ⟨o',G,J,Y⟩:=dd;have s3:=(bx.mp z3).1;have j:∀ b,b≠T->(s.heap.update T (cI (·.setIfInBounds 3 ((zb:Option aB).elim bg fun f=>aR f)))).get? b=s.heap.get? b:=fun b n=>F1 _ _ n.symm
 have nr:∀ b o,s.heap.get? b=zo o->(∀ ws,o.data≠.fields ws)->b≠T:=fun b o q n z=>by
  rw [z,O] at q;cases q;exact n ts dT
 unfold setFlight;refine aD (ak he Z z1 ?_);rw [bS (show (ba T != bg)=yo by simp)];refine wpAny_setField O dT s3 (h _ ⟨fun b o q=>(j b fun z=>by rw [z,nT] at q; cases q).trans (kb b o q),ne,ff.of_keeps fun b o q n=>⟨o,(j b (nr b o q n)).trans q,rfl⟩,?_⟩ ⟨o',(j e U.symm).trans G,J,Y⟩ fun b o q n=>⟨o.slots,(j b (nr b o q n)).trans q⟩)
 exact ⟨oe,ws,T,_,_,(j e U.symm).trans he,hc,Z,z1,nT,U,F6 _ O (db (ce dT _)),ce dT _,by simp [s3]⟩
end
end PySem
namespace L2
open PySem PySem.Spec PyProof.Rows
def CXD (P:aK) (w:aJ):CXT:=fun outer H s E e s'=>∃ a cls a0 dv H' B,e=ba a/\Fly P w outer H H' s s' a cls a0 B/\(∃ o',s'.heap.get? a=zo o'/\o'.dict=dv/\qt o'=zo .none)/\E cls dv H'
theorem Zs {P:aK} {w:aJ} {X:Cx}:Q59 (CXD P w) X E0:=fun _ _ _ _ _ _ _ h=>by
 obtain ⟨_,_,_,_,_,_,_,_,_,z⟩:=h;exact z.elim
section
variable {P:aK} {w:aJ} {K:bW} {mg:Str->Option aA} {base:Heap} {N:List Str} {qual:Str} {scope:Scope} {f:aB} {cd:aA} {A:aM} {outer:List Env} {s:aC} {H:Hp} {E:XK}
abbrev cxD (P:aK) (w:aJ) (K:bW) (mg:Str->Option aA) (base:Heap) (N:List Str) (qual:Str) (scope:Scope) (f:aB) (cd:aA) (A:aM) (outer:List Env) (s:aC) (H:Hp) (E:XK):Cx:=Qgh (CXD P w) P w K mg base N qual scope f cd A outer s H E
theorem Q71 {pins:List (aB × Obj)} {σ:St} {H1:Hp} {s1:aC} (I:Inv (cxD P w K mg base N qual scope f cd A outer s H E) pins σ H1 s1) {b:aB} {o:Obj} (e:s.heap.get? b=zo o) (n:b∉frs outer):b∉frs (cxD P w K mg base N qual scope f cd A outer s H E).stack:=fun j=>by
 rcases D5.mp (I.stkSub b j) with z | z
 ·have h1:b < s.heap.objs.size:=O9 e;have h2:s.heap.objs.size<=(cxD P w K mg base N qual scope f cd A outer s H E).env.locals:=I.ok.above;rw [<- z] at h2;exact absurd (D0 h1 h2) (G8 _)
 ·exact n z
theorem Qjq {b:aB} (h:b∈frs outer):b∈frs (cxD P w K mg base N qual scope f cd A outer s H E).stack:=by
 show b∈frs (_ :: outer);unfold frs at h ⊢;rw [cf]
 split
 ·exact h
 ·exact O5 _ h
theorem Qqw {pins:List (aB × Obj)} {σ:St} {H1:Hp} {s1:aC} {U:Heap} {e C t:aB} {dv:Option aB} (I:Inv (cxD P w K mg base N qual scope f cd A outer s H E) pins σ H1 s1)
  (hk:∀ b o,b≠e->s1.heap.get? b=zo o->U.get? b=zo o) (a2:∀ o,s1.heap.get? e=zo o->∃ vs,o.data=.fields vs) (new:s.heap.get? e=zb) (hH:H1 e=zb)
  (oe:U.get? e=zo { cls:=.ref C,dict:=dv,data:=.fields #[.ref t,.none,.none,.none,.bool yl,.none] }) (hE:E (.ref C) dv H1) :
  (cxD P w K mg base N qual scope f cd A outer s H E).xe (.ref e) { s1 with heap:=U }:=by
 have Z:∀ en∈(cxD P w K mg base N qual scope f cd A outer s H E).stack,∀ b,en.frame=zo b->b∈e :: frs (cxD P w K mg base N qual scope f cd A outer s H E).stack:=fun en he b j=>O5 _ (dU.mpr ⟨en,he,j⟩)
 have ff:=PySem.W.funFrames_hide I.stack Z;have a3:∀ b o,s1.heap.get? b=zo o->(∀ vs,o.data≠.fields vs)->b≠e:=fun b o q n z=>by
  subst z;obtain ⟨vs,d⟩:=a2 o q;exact n vs d
 have hid:(dw s1.heap (e :: frs (cxD P w K mg base N qual scope f cd A outer s H E).stack)).get? e=zb:=fo _ F4;have kb:(dw s1.heap (e :: frs (cxD P w K mg base N qual scope f cd A outer s H E).stack)).StaysIn U:=fun b o q=>hk b o (fun z=>by rw [z,hid] at q; cases q) (fm _ q)
 show aF (aI P w) _ (leaving _ (.ref e)) _ _ _;refine Qak (bs:=dw s1.heap (e :: frs (cxD P w K mg base N qual scope f cd A outer s H E).stack)) (a0:=.ref t) (s:={ s1 with heap:=U }) I.ok.frames (ff.of_keeps fun b o q n=>⟨o,hk b o (a3 b o q n) q,rfl⟩) rfl oe kb hid rfl rfl rfl fun h2 lf dd=>?_
 obtain ⟨k1,⟨_,_,k2⟩,k3,k4⟩:=lf;have noex:∀ b:aB,b∉(cxD P w K mg base N qual scope f cd A outer s H E).ex:=fun b z=>absurd (show b∈([]:List aB) from z) (by simp)
 have G:∀ b o,s.heap.get? b=zo o->b≠e:=fun b o q z=>by rw [z,new] at q; cases q
 have J:∀ b o,s.heap.get? b=zo o->b∉frs outer->b∉e :: frs (cxD P w K mg base N qual scope f cd A outer s H E).stack:=fun b o q n m=>by
  rcases D5.mp m with z | z
  ·exact G b o q z
  ·exact Q71 I q n z
 refine ⟨e,.ref C,.ref t,dv,H1,_,rfl,⟨I.os,I.bare,⟨k1,hid,k2,k3⟩,fun b u q=>?_,fun b o q n j=>?_,fun b o q j=>?_,fun b o q j=>?_,fun b o q n=>I.base.free b o q n (noex b),I.base.tups,I.base.frzs,I.base.tbls⟩,dd,hE⟩
 ·have ne:∀ c v,H1 c=zo v->c∉e :: frs (cxD P w K mg base N qual scope f cd A outer s H E).stack:=fun c v z m=>by
   rcases D5.mp m with m | m
   ·rw [m,hH] at z; cases z
   ·rw [I.stkFree c m] at z; cases z
  refine (I.hok b u q).stay (fun c v hc r=>dy _ r ?_) (fun _ r=>r) fun _ _ r=>r
  rcases hc with rfl | hc
  ·exact ne c u q
  ·exact ne c _ hc
 ·exact dy _ (I.base.keep b o q n j (noex b)) (J b o q j)
 ·obtain ⟨o',z⟩:=I.base.there b o q (noex b);exact ⟨o',dy _ z (J b o q j)⟩
 ·obtain ⟨sl,z⟩:=I.base.slot b o q (I.ok.frf b j) j (noex b);obtain ⟨_,o',Y,a1⟩:=I.ok.funs.mem j;have O:s.heap.get? b=zo o':=Y;rw [q] at O;cases O;obtain ⟨a4,z'⟩:=k4 b _ (hk b _ (G b o q) z) a1;exact ⟨a4,z'⟩
theorem Qa:Q59 (CXD P w) (cxD P w K mg base N qual scope f cd A outer s H E) E:=by
 intro pins σ H1 s1 e s' I h;obtain ⟨a,cls,a0,dv,H',B,rfl,F,dd,Z⟩:=h;show aF (aI P w) _ (leaving _ (.ref a)) _ _ _;have noex:∀ b:aB,b∉(cxD P w K mg base N qual scope f cd A outer s H E).ex:=fun b z=>absurd (show b∈([]:List aB) from z) (by simp)
 refine Qaj I.ok.frames rfl F.fl dd fun h2 x1 d2 x2=>?_
 refine ⟨a,cls,a0,dv,H',B,rfl,⟨F.os.trans I.os,F.bare,x1,F.hokB,fun b o q n j=>?_,fun b o q j=>?_,fun b o q j=>?_,fun b o q n=>?_,fun b xs q=>F.tups b xs (I.base.tups b xs q),fun b o u q=>F.frzs b o u (I.base.frzs b o u q),fun b ps q=>?_⟩,d2,Z⟩
 ·exact F.keep b o (I.base.keep b o q n j (noex b)) (I.base.free b o q n (noex b)) (Q71 I q j)
 ·obtain ⟨o',z⟩:=I.base.there b o q (noex b);exact F.there b o' z (Q71 I q j)
 ·obtain ⟨sl,z⟩:=I.base.slot b o q (I.ok.frf b j) j (noex b);obtain ⟨_,o',O,U⟩:=I.ok.funs.mem j;have G:s.heap.get? b=zo o':=O;rw [q] at G;cases G;obtain ⟨a1,z'⟩:=F.slot b _ z (Qjq j);obtain ⟨J,Y⟩:=x2 b _ z' U;exact ⟨J,Y⟩
 ·obtain ⟨o',z⟩:=I.base.there b o q (noex b);exact F.free b o' z (I.base.free b o q n (noex b))
 ·obtain ⟨m1,e1⟩:=I.base.tbls b ps q;obtain ⟨m2,e2⟩:=F.tbls b _ e1;exact ⟨m1 ++ m2,by rw [e2,fq]⟩
end
section
variable {X:Cx}
def Qd3 (X:Cx) (E:XK):Prop:=∀ (pins:List (aB × Obj)) (σ:St) (H0 H1:Hp) (s0 s1:aC) (hx:Heap) (e C t:aB) (dv:Option aB),Inv X pins σ H0 s0->s0.heap.get? e=zb->Inv X pins σ H1 s1->(∀ b o,b≠e->s1.heap.get? b=zo o->hx.get? b=zo o) ->
 (∀ o,s1.heap.get? e=zo o->∃ vs,o.data=.fields vs)->H1 e=zb->hx.get? e=zo { cls:=.ref C,dict:=dv,data:=.fields #[.ref t,.none,.none,.none,.bool yl,.none] }->E (.ref C) dv H1->X.xe (.ref e) { s1 with heap:=hx }
theorem Qfc {x:Str} {C:aB} {e:aH} {t:TA} {E:XK} {np cpos pos:Pos} (j:X.calm=yo) (RO:Qd3 X E) (hg:Gl X x) (hm:X.mg x=zo (.ref C)) (q:cE X.K C Q55 "ValueError.__new__" = yo) (ha:PA X [e] t)
  (Y:(x == ("__debug__" : Str))=yl:=by decide) (Z:aN [e] X.env=[(yl,aP e X.env)]:=by rfl):PS X (.Raise (zo (.Call (.Name x np) [e] [] cpos)) zb pos) (Qqk C E t):=by
 intro pins s σ H D I h;obtain ⟨tl,N,nm,qn,bs,hdct,sn,sub,ab,col,dd,k0,k1,k2,k3,k5,mN,hC,hN,U,T⟩:=(Qn3 I.mod.kin hm q).obj;refine wpAny_Raise_call_subU (C:=C) (nm:=nm) (q:=qn) (N:=N) (bs:=bs) (bm:=tl) (hdct:=hdct) (sn:=sn) (sub:=sub) (ab:=ab) (col:=col) (dd:=dd) (k0:=k0) (k1:=k1) (k2:=k2) (k3:=k3) (k5:=k5)
  gU (by decide +kernel) gU (mN:=mN) (T.hasType (by decide +kernel)) (I.ok.hd j) (by rw [Z]; rfl) U (Q01 I hg hm ⟨rfl,?_⟩ Y)
 have J:=ha cpos pins s σ H _ I h;rw [Z] at J ⊢;refine Calls.evalArgs_plain (ar J (fun us s1 ⟨vs,H1,G,r,z,hE⟩=>?_) fun _ _ y=>y)
 refine ⟨rfl,by rw [<- r.length]; exact z,G.bk _ _ hC,hN.keeps G.bk,T.keeps G.bk,fun h' e' O=>?_⟩;obtain ⟨t,oe,_,_⟩:=O.there;exact RO pins σ H1 H1 s1 s1 h' e' C t zb G O.new G (fun b o _ k=>O.keeps b o k) (fun o k=>by rw [O.new] at k; cases k) (G.hok.none_of O.new) oe hE
end
theorem Q3j {P:aK} {w:aJ} {K:bW} {mg:Str->Option aA} {base:Heap} {N:List Str} {qual:Str} {scope:Scope} {f:aB} {cd:aA} {A:aM} {outer:List Env} {s:aC} {H:Hp} {E:XK} :
  Qd3 (cxD P w K mg base N qual scope f cd A outer s H E) E:=fun pins σ H0 H1 s0 s1 hx e C t dv Y G I Z j J U O=>by
 refine Qqw I Z j ?_ J U O;cases q:s.heap.get? e with
 | none=>rfl
 | some o=>
  obtain ⟨o',z⟩:=Y.base.there e o q (fun z=>absurd (show e∈([]:List aB) from z) (by simp))
  rw [G] at z; cases z
theorem Fun.okD {P:aK} {w:aJ} {K:bW} {mg:Str->Option aA} {base:Heap} {x qual:Str} {st:aL} {f:aB} {fd:aO} {N ps:List Str} {k:Nat} {sp:Sp} (F:Fun K x qual st f fd) (S:FnScope N ps (Qb st)) (len:∀ vs H Q E,sp vs H Q E->vs.length=ps.length)
  (q:∀ (j:aA) (A:aM) (outer:List Env) (s:aC) (H:Hp) (vs:List V) (Q:VK) (E:XK),Room k (A.deeper (envOfC qual (Qb st) s.heap.objs.size f j))->sp vs H Q E ->
   ∃ t,PSs (cxD P w K mg base N qual (Qb st) f j A outer s H E) (Zk st) t/\t { nx:=fun _ H'=>Q .non H',rt:=Q } (start N vs) H):FnOk P w K mg base (CXD P w) (k + 1) f fd ps sp:=by
 obtain ⟨Z,od,kV,O,pm,an,j,ct,U,rfl,J,z⟩:=F.ex;exact Qvg J z S len fun A outer s H vs Q E Y G=>q j A outer s H vs Q E Y G
end L2
namespace L2
open PySem PySem.Spec PyProof.Rows PySem.W PySem.Builtin.Getset_descriptor
def IsXD (x C:aB) (dv:Option aB) (h:Heap):Prop:=∃ ox vs,h.get? x=zo ox/\ox.cls=.ref C/\ox.dict=dv/\ox.data=.fields vs/\vs[2]?=zo .none
theorem IsXD.x {x C:aB} {j:Option aB} {h:Heap} (I:IsXD x C j h):IsX x C h:=let ⟨q,_,a,b,_⟩:=I; ⟨q,a,b⟩
theorem Qp9 {P:aK} {w:aJ} {H:Hp} {h:Heap} {a C:aB} {j:Option aB} (I:IsXD a C j h):ObjOk P w H h a (.ext (IsXD a C j)):=
 ⟨I,(let ⟨o,_,e,_⟩:=I; ⟨o,e⟩),fun h1 h2 ⟨o,vs,e,c⟩ k=>⟨o,vs,k o e,c⟩⟩
section
variable {prog:aK} {w:aJ} {A:aM} {E:aA->aC->Prop} {h:Heap} {g:Array GenState} {d:Drawn} {t:Nat} {os:OsState} {K:Frag} {x C dx:aB} {name:Str} {v:aA} {m:Str->Option aA}
end
section
variable {X:Cx}
end
section
variable {X:Cx} {pins:List (aB × Obj)} {σ:St} {H H':Hp} {s s':aC} {a C:aB}
theorem Qp3 {cn n:Str} {i:Nat} {CC:aB} {a0:aA} {B:Heap} {dv:Option aB} {np hpos:Pos} {b₀:aL} {suite:List aL} {ts:TS} {D:Ends} (hN:X.N.Nodup) (hi:X.N[i]?=zo n) (hk:X.env.scope.names.lookup n=zo .local) (b2:∀ b,b∉X.ex)
  (a5:X.stack=X.env :: X.outer) (b5:X.env.frame=zo X.env.locals) (hg:Gl X cn) (hm:X.mg cn=zo (.ref CC)) (hx:exmOne X.K (.ref C) (.ref CC)=zo yo) (I:Inv X pins σ H s) (F:Fly X.prog X.w X.stack H H' s s' a (.ref C) a0 B) (dd:∃ o',s'.heap.get? a=zo o'/\o'.dict=dv/\qt o'=zo .none)
  (J:PSs (jr X a) (b₀ :: suite) ts) (q:ts { nx:=fun c2 H2=>D.nx (c2.set i zb) H2,rt:=fun _ _=>False } (σ.set i (zo (.ref a))) (upd H' a (.ext (IsXD a C dv)))) (c1:(cn == ("__debug__" : Str))=yl:=by decide) :
  aF (aI X.prog X.w) X.A (noteFrame (.ref a) X.env) (fun _ a8=>aF (aI X.prog X.w) X.A (setFlight (.ref a) zb) (fun _ a4=>aF (aI X.prog X.w) X.A (handleBy (.ref a) X.env [.ExceptHandler (zo (.Name cn np)) (zo n) (b₀ :: suite) hpos]) (SP X pins D) X.xe a4) X.xe a8) X.xe s':=by
 have b1:(X.env.scope.kind == .class || (X.env.scope.kind == .module && X.env.locals != X.env.globals))=yl:=by rw [I.ok.kind]; rfl
 have a6:=F.fl;rw [a5] at a6;refine Qg2 (by rw [<- a5]; exact I.ok.frames) b5 a6 dd fun h4 j d4 a3=>?_
 refine Q1m (s:={ s' with heap:=h4 }) j.1 j.2.1 j.2.2.1 j.2.2.2 d4 fun h5 G d5 b0=>?_
 obtain ⟨n1,n2⟩:=F.new;have I5:Inv X pins σ H' { s' with heap:=h5 }:=F.inv I G.1 (a3.trans b0);obtain ⟨ob,c0,a7⟩:=G.there;have LT:Looks (aI X.prog X.w) h5 (typeOf (.ref a)) (.ref C):=IsX.type ⟨ob,c0,a7⟩;refine wpAny_handleBy_cons (codeAny_handlers_test (Q01 (X:=jr X a) (I5.suite a) hg hm ?_ c1)) (by intro z; cases z);refine (exm_one (h:=h5) I5.kIn LT hx).at ?_;refine codeAny_handlers_suite_as ?_;refine Q1m (s:={ s' with heap:=h5 }) G.1 G.2.1 G.2.2.1 G.2.2.2.at d5 fun h6 a2 d6 b6=>?_
 have I6:Inv X pins σ H' { s' with heap:=h6 }:=F.inv I a2.1 ((a3.trans b0).trans b6);obtain ⟨b3,b8,U,Z,O,_⟩:=a2.first;obtain ⟨o',a1,b7,Y⟩:=d6;rw [U] at a1;cases a1;have I7:Inv X pins σ (upd H' a (.ext (IsXD a C dv))) { s' with heap:=h6 }:=Inv.track I b2 n1 I6 n2 (Qp9 ⟨b3,b8,U,Z,b7,O,by unfold qt at Y; rw [O] at Y; exact Y⟩);refine Q2n (X:=jr X a) (v:=.ref a) (I7.suite a) hN hi (.inl hk) rfl (fun s8 I8=>?_) (.inr hk);refine ar (J pins s8 _ _ _ I8 q) (fun f s9 h9=>?_) fun _ _ z=>z.elim
 cases f with
 | next=>
  obtain ⟨c3,H9,I9,q9⟩:=h9;have a9:=I9.unsuite I.ok;obtain ⟨m,hn,hl⟩:=id a9.loc;exact wpAny_nameGoes_keeps hk hn b1 fun c4 v b4 b9=>⟨_,_,a9.forget hN hi hl b4 b9,q9⟩
 | brk=>obtain ⟨_,_,_,z⟩:=h9; exact z.elim
 | cont=>obtain ⟨_,_,_,z⟩:=h9; exact z.elim
 | ret u=>obtain ⟨_,_,_,_,_,z⟩:=h9; exact z.elim
end
end L2
namespace L2
open PySem PySem.Spec PyProof.Rows
section
variable {X:Cx}
theorem Qpf {CX:CXT} {f:aB} {fd:aO} {k:Nat} {ps:List Str} {sp:Sp} {g:Str} {p cpos:Pos} {e:aH} {es:List aH} {ta:TA} {pins:List (aB × Obj)} {σ:St} {H:Hp} {s:aC} {E1:aA->aC->Prop} {Qv:VK} {U:XK}
  (F:FnOk X.prog X.w X.K X.mg X.base CX k f fd ps sp) (hr:Room k X.A) (hm:X.mg g=zo (.ref f)) (Z:cM X.K (.ref f)=yo) (hb:Binds X.K fd ps []) (ha:PA X.nox (e :: es) ta) (hg:Gl X g)
  (I:Inv X pins σ H s) (h:ta σ H fun vs H1=>sp vs H1 Qv U) (hE:∀ H1 s1 v s',Inv X pins σ H1 s1->CX X.stack H1 s1 U v s'->E1 v s')
  (a1:(g == ("__debug__" : Str))=yl) (he:aN (e :: es) X.env=(yl,aP e X.env) :: aN es X.env) (Y:(aY cpos (aN es X.env)).any (·.1)=yl) :
  aF (aI X.prog X.w) X.A (aP (.Call (.Name g p) (e :: es) [] cpos) X.env) (EP X pins σ Qv) E1 s:=by
 refine wpAny_Call_Name_kw (Q01 I hg hm ?_ a1);refine gB (h₀:=X.base) I.ok.mod.kin Z (ar (ha cpos pins s σ H _ (I.wish _) h) (fun O s1 ⟨vs,H1,I1,r,q⟩=>⟨I1.unwish.kIn,?_⟩) fun _ _ z=>z.elim) he Y
 have j:=I1.unwish;have hl:O.length=ps.length:=by rw [<- r.length]; exact F.len _ _ _ _ q
 have J:=hb s1 O j.kIn (by rw [cO]; exact hl);rw [cO] at J;refine wpAny_call (bI (F.run X.A X.stack s1 H1 ⟨O,[]⟩ O vs Qv U hr j.env0 J r q) fun rr s' G=>?_)
 cases rr with
 | error v=>exact hE H1 s1 v s' j G
 | ok fl=>
  cases fl with
  | ret u=>exact j.after G
  | next=>exact False.elim G
  | brk=>exact False.elim G
  | cont=>exact False.elim G
end
section
variable {X:Cx}
theorem Z0 (K:bW) (U:X.K=K:=by rfl):V8 X (.builtin "isinstance") (fun xs H Q=>∃ (a C:aB) (G:Option aB) (c:V) (j:aA) (b:Bool),xs=[.ref a,c]/\Qsg c=zo j/\H a=zo (.ext (IsXD a C G))/\XCls K C/\bi K (.ref C) j=zo b/\Q (.bl b) H):=by
 subst U;intro pins s σ H xs us Q I r h;obtain ⟨a,C,G,c,j,b,rfl,Z,O,F,e,q⟩:=h;obtain ⟨u,w',rfl,Y,J⟩:=Qpt r;cases Y;rw [Qay Z J];exact cH (Qj6 F) I.kIn (I.hok a _ O).1.x e (fun z=>nomatch z) fun tk=>⟨.bl b,H,I.tok tk,rfl,q⟩
end
end L2
namespace L2
open PySem PySem.Spec PyProof.Rows PySem.W PySem.Builtin.Getset_descriptor
section
variable {X:Cx} {pins:List (aB × Obj)} {σ:St} {H H':Hp} {s s':aC} {a C:aB}
end
end L2
namespace L2
open PySem PySem.Spec PyProof.Rows
section
variable {X:Cx}
end
end L2
namespace L2
open PySem PySem.Spec PyProof.Rows PySem.W PySem.Builtin.Getset_descriptor
section
variable {X:Cx} {pins:List (aB × Obj)} {σ:St} {H H':Hp} {s s':aC} {a C:aB}
end
section
variable {X:Cx}
end
end L2
namespace L2
open PySem PySem.Spec PyProof.Rows PySem.SeqAt
section
variable {prog:aK} {w:aJ} {A:aM} {E:aA->aC->Prop} {s:aC}
end
section
variable {X:Cx}
theorem Qsf {bs:List Bool} {its:List aA} (r:Vals (bs.map V.bl) its):its.countP (isBoolOf yo)=bs.countP id:=by
 induction bs generalizing its with
 | nil=>cases r; rfl
 | cons b bs j=>
  cases r with
  | cons a r=>
   cases a;rw [gW,gW,j r];cases b <;> rfl
theorem eqB {bs:List Bool} {its:List aA} (r:Vals (bs.map V.bl) its):∀ y,y∈its->∀ (A:aM) (s:aC),EqAt A s y (.bool yo) (isBoolOf yo y):=by
 induction bs generalizing its with
 | nil=>cases r; intro y j; exact absurd j (by simp)
 | cons b bs z=>
  cases r with
  | cons a r=>
   cases a;intro y j A s;rcases D5.mp j with q | j
   ·rw [q]; exact EqAt.bool_bool b yo
   ·exact z r y j A s
def Qmj:V->List V->Hp->VK->Prop:=fun x vs H Q=>∃ (l:aB) (bs:List Bool),x=.ref l/\vs=[.bl yo]/\H l=zo (.lst (bs.map V.bl))/\Q (.int (bs.countP id:Nat)) H
theorem Qfu:MtR X "list.count" Qmj:=by
 intro pins s σ H x vs v U Q I O G h;obtain ⟨l,bs,rfl,rfl,J,q⟩:=h;cases O;obtain ⟨u,rfl,ru⟩:=G.one;obtain rfl:u=cK yo:=ru;obtain ⟨z,its,n,r,Y,e⟩:=I.lstM J;refine az gX ⟨_,e,rfl⟩ PySem.F.entry_list_count (PySem.F.args_list_count_2 _ _) (list_countAt l its.toArray n zb #[] (.bool yo) (isBoolOf yo)) ⟨e,fun y j=>eqB r y (by simpa using j) _ _,?_⟩;rw [show its.toArray.toList=its from rfl,Qsf r];exact ⟨.int _,H,I.tok _,⟨_,rfl⟩,q⟩
def Qmi:V->List V->Hp->VK->Prop:=fun x vs H Q=>∃ (l:aB) (bs:List Bool) (j:Nat),x=.ref l/\vs=[.bl yo]/\H l=zo (.lst (bs.map V.bl))/\bs.length<=1000/\bs[j]?=zo yo/\(∀ m,m < j->bs[m]?=zo yl)/\Q (.int (j:Nat)) H
theorem Qft:MtR X "list.index" Qmi:=by
 intro pins s σ H x vs v us Q I rx rv h;obtain ⟨l,bs,j,rfl,rfl,hH,hz,U,J,q⟩:=h;cases rx;obtain ⟨u,rfl,ru⟩:=rv.one;obtain rfl:u=cK yo:=ru;obtain ⟨z,its,n,r,Y,e⟩:=I.lstM hH;rw [O3] at Y;have lj:j < bs.length:=(O1.mp U).1;have G:∀ m (hm:m < its.toArray.size) b,bs[m]?=zo b->its.toArray[m]=cK b:=fun m hm b Z=>by
  obtain ⟨u,hu,ru⟩:=r.get (show (bs.map V.bl)[m]?=zo (V.bl b) by rw [D2,Z]; rfl);obtain rfl:u=cK b:=ru;have:its.toArray[m]?=zo (cK b):=by simpa using hu
  exact (bx.mp this).2
 refine az gY ⟨_,e,rfl⟩ PySem.F.entry_list_index (PySem.F.args_list_index_2 _ _)
  (list_indexAt l its.toArray n zb #[] (.bool yo) (isBoolOf yo) j (by rw [O6,<- Y]; exact lj) (by omega) ?_ ?_) ⟨e,fun y hy=>eqB r y (by simpa using hy) _ _,⟨.int _,H,I.tok _,⟨_,rfl⟩,q⟩⟩
 ·rw [G j _ yo U]; rfl
 ·intro m hm O;rw [G m hm yl (J m O)]; rfl
def Qqj (sp:Sp) (ta:TA) (i:Nat) (ok:aA->aB->Prop) (ts:aB->TS) (set:V->St->St):TS:=fun D σ H=>ta σ H fun vs H1=>sp vs H1 (fun v H2=>D.nx (set v σ) H2)
 (fun c dv H2=>∃ C,c=.ref C/\ok c C/\∀ a,H2 a=zb->ts a { nx:=fun σ3 H3=>D.nx (σ3.set i zb) H3,rt:=fun _ _=>False } (σ.set i (zo (.ref a))) (upd H2 a (.ext (IsXD a C dv))))
theorem Qfb {f:aB} {fd:aO} {k:Nat} {ps:List Str} {sp:Sp} {g cn n:Str} {i:Nat} {CC:aB} {p cpos G np hpos pos:Pos} {e:aH} {es:List aH} {ta:TA} {b₀:aL} {suite:List aL} {ts:aB->TS}
  (F:FnOk X.prog X.w X.K X.mg X.base (CXD X.prog X.w) k f fd ps sp) (hr:Room k X.A) (hm:X.mg g=zo (.ref f)) (a2:cM X.K (.ref f)=yo) (hb:Binds X.K fd ps []) (ha:PA X.nox (e :: es) ta)
  (hN:X.N.Nodup) (hi:X.N[i]?=zo n) (hk:X.env.scope.names.lookup n=zo .local) (j:∀ a,PSs (jr X a) (b₀ :: suite) (ts a)) (a1:X.mg cn=zo (.ref CC))
  (hg:Gl X g:=by rfl) (a3:Gl X cn:=by rfl) (O:∀ b,b∉X.ex:=by intro b z; exact absurd (show b∈([]:List aB) from z) (by simp)) (a4:X.stack=X.env :: X.outer:=by rfl) (U:X.env.frame=zo X.env.locals:=by rfl)
  (a6:(g == ("__debug__" : Str))=yl:=by decide) (J:(cn == ("__debug__" : Str))=yl:=by decide) (he:aN (e :: es) X.env=(yl,aP e X.env) :: aN es X.env:=by rfl) (Y:(aY cpos (aN es X.env)).any (·.1)=yl:=by rfl)
  (a5:swapsWith (.Call (.Name g p) (e :: es) [] cpos) zb G.line X.env=pure yl:=by rfl) :
  PS X (.Try [.Expr (.Call (.Name g p) (e :: es) [] cpos) G] [.ExceptHandler (zo (.Name cn np)) (zo n) (b₀ :: suite) hpos] [] [] pos) (Qqj sp ta i (fun c _=>eI X.K c (.ref CC)=zo yo) ts (fun _ σ=>σ)):=by
 intro pins s σ H D I h;refine wpAny_Try_except (wpAny_execs_cons (wpAny_Expr_any (thn (Qpf F hr hm a2 hb ha hg I h ?_ a6 he Y) fun v s1 ⟨x,H1,Z,r1,q1⟩=>wpAny_execs_nil (wpAny_execs_nil ⟨σ,H1,Z,q1⟩)) I.quiet a5))
 intro H1 s1 v s' Z hx;obtain ⟨a,cls,a0,dv,H',B,rfl,Fl,dd,C,rfl,hok,q⟩:=hx;exact Qp3 hN hi hk O a4 U a3 a1 hok Z Fl dd (j a) (q a Fl.new.2) J
end
end L2
namespace L2
open PySem PySem.Spec PyProof.Rows PySem.SeqAt
section
variable {X:Cx}
end
end L2
namespace L2
open PySem PySem.Spec PyProof.Rows
section
variable {X:Cx}
def Qhr (K:bW):R2:=fun x y H Q=>∃ a b ys,x=.ref a/\y=.ref b/\SqT K H a []/\SqT K H b ys/\Q (.ref b) H
theorem Qim:OpR X (aZ .Add) (Qhr X.K):=by
 intro pins s σ H x y v u Q I rx ry h;obtain ⟨a,b,ys,rfl,rfl,O,U,q⟩:=h;cases rx;cases ry;obtain ⟨its,r1,Z,_⟩:=I.tuple O;obtain ⟨j,r2,p2,_⟩:=I.tuple U;have e1:its=[]:=r1.nil_iff.mpr rfl;subst e1;obtain ⟨⟨cls,dd,data,Y⟩,ho,hc,n,hd⟩:=id Z;obtain ⟨⟨J,G,data2,z⟩,ho2,hc2,n2,hd2⟩:=id p2;simp only at hc hd hc2 hd2;subst hc hd hc2 hd2;exact concat_meets ⟨_,ho,rfl⟩ ⟨_,ho2,rfl⟩ noFill_tuple_add seq_tuple_add fF fG (fH _ _)
  (tuple_addW0 a b ([]:List aA).toArray j.toArray n n2 dd G Y z (by simp)) ⟨ho,ho2,⟨.ref b,H,I,rfl,q⟩⟩
abbrev Qty (K:bW):R2:=fun x y H Q=>Qq0 K x y H Q\/Qhr K x y H Q
theorem Qnb:OpR X (aZ .Add) (Qty X.K):=op_catT.or Qim
end
def PTs (X:Cx) (ifs:List aH) (t:TT):Prop:=
 ∀ (pins:List (aB × Obj)) (s:aC) (σ:St) (H:Hp) (Q:Bool->Hp->Prop),Inv X pins σ H s->t σ H Q ->
  aF (aI X.prog X.w) X.A (forIn ifs yo fun c r=>if r=yo then do let ok <- isTrue c X.env (aP c X.env); pure (ForInStep.yield ok) else pure (ForInStep.yield r)) (TP X pins σ Q) X.xe s
def Qtd:TT:=fun _ H Q=>Q yo H
theorem Qmp {X:Cx}:PTs X [] Qtd:=fun _ _ _ H _ I h=>wpAny_tests_nil ⟨H,I,h⟩
theorem Qmn {X:Cx} {c:aH} {t:TT} (h:PT X c t):PTs X [c] t:=fun pins s σ H Q I q=>wpAny_tests_one (h pins s σ H Q I q)
def Q6n (J:It) (cap:List (Option Nat)) (g:TG) (tt:TT) (te:TE) (σ:St) (H1:Hp) (Q:VK):Prop:=∀ acc,H1 acc=zb ->
 ∃ W:Nat->Nat->List V->St->Hp->Prop,(∃ m,W 0 m [] (Q09 cap σ) (upd H1 acc (.lst [])))/\∀ i m ys σ' H',W i m ys σ' H'->H' acc=zo (.lst ys) /\
  ((J.stop i H'/\Q (.ref acc) H')\/(J.go i H'/\ys.length < sizeLine/\∀ x H2,J.yld i H' x H2->g x σ' H2 fun σ3 H3=>tt σ3 H3 fun b H4=>
    if b=yo then te σ3 H4 fun y H5=>H5 acc=zo (.lst ys)/\∃ m',m' < m/\W (i + 1) m' (ys ++ [y]) σ3 (upd H5 acc (.lst (ys ++ [y])))
    else ∃ m',m' < m/\W (i + 1) m' ys σ3 H4))
def Q70 (cap:List (Option Nat)) (wi:TI) (g:TG) (tt:TT) (te:TE):TE:=fun σ H Q=>wi σ H fun J H1=>Q6n J cap g tt te σ H1 Q
section
variable {prog:aK} {w:aJ} {A:aM} {R:Result->aC->Prop} {s:aC}
theorem Q5q {elt j iter:aH} {ifs:List aH} {scope:Scope} {pos:Pos} {it acc:aA} {env:Env} (I:Nat->aC->Prop)
  (a5:∀ n s,I n s->aF (aI prog w) A (af it) (fun r G=>match r with
   | none=>R (.ok .next) G
   | some v=>aF (aI prog w) A (letOwnedTupleGo j it v) (fun _ J=>aF (aI prog w) A (assign j env v) (fun _ O=>
     aF (aI prog w) A (forIn ifs yo fun c r=>if r=yo then do let ok <- isTrue c env (aP c env); pure (ForInStep.yield ok) else pure (ForInStep.yield r)) (fun ok z=>
      if ok=yo then aF (aI prog w) A (aP elt env) (fun x Z=>
       aF (aI prog w) A (call (.builtin "list.append") [acc,x]) (fun _ U=>∃ m,m < n/\I m U) (fun _ _=>False) Z) (fun _ _=>False) z
      else ∃ m,m < n/\I m z) (fun _ _=>False) O)
     (fun _ _=>False) J) (fun _ _=>False) G) (fun _ _=>False) s)
  (n:Nat) (h:I n s):codeAny (aI prog w) A (.compLoop (.ListComp elt [⟨j,iter,ifs,0⟩] scope pos) 0 it acc env) R s:=by
 refine codeAny_loop rfl I (fun n s hI=>?_) n h;show aF _ A ((compTurn (.ListComp elt [⟨j,iter,ifs,0⟩] scope pos) 0 it acc env).onRaise (fun x=>do noteFrame x env; theTreesLotGoes x)) _ _ s;refine wpAny_noted ?_;rw [compTurn_list];refine aD (wpAny_standAt (aD (ar (a5 n s hI) (fun r G Y=>?_) fun _ _ h'=>h'.elim)))
 cases r with
 | none=>exact wpAny_pure Y
 | some v=>
  refine aD (ar Y (fun _ J a1=>?_) fun _ _ h'=>h'.elim)
  refine aD (ar a1 (fun _ O a3=>aD (ar a3 (fun ok z q=>?_) fun _ _ h'=>h'.elim)) fun _ _ h'=>h'.elim)
  cases ok with
  | true=>
   rw [bS rfl] at q;exact aD (aD (ar q (fun x Z a2=>aD (ar a2 (fun _ U a4=>wpAny_pure (wpAny_pure ⟨rfl,a4⟩)) fun _ _ h'=>h'.elim)) fun _ _ h'=>h'.elim))
  | false=>
   rw [bT O7] at q;exact aD (wpAny_pure (wpAny_pure ⟨rfl,q⟩))
end
section
variable {X:Cx}
theorem Q51 {elt tg iter:aH} {ifs:List aH} {tt:TT} {pos:Pos} {N N':List Str} {sc scE:Scope} {cap:List (Option Nat)} {wi:TI} {g:TG} {te:TE} {use:Option (aA->Sem Unit)} {QQ:aA->aC->Prop} (b9:X.calm=yo) (hi:PI X tg iter wi)
  (hg:∀ cl C s0 H0 ex,PG (Wg X N' sc cl C s0 H0 ex) tg g) (he:∀ cl C s0 H0 ex,PE (Wg X N' sc cl C s0 H0 ex) elt te) (d9:∀ cl C s0 H0 ex,PTs (Wg X N' sc cl C s0 H0 ex) ifs tt)
  (hN:X.N=N) (hE:X.env.scope=scE) (hc:compOkC N N' sc scE cap=yo) (hs:∀ x,bE iter X.env x=pure x)
  {pins:List (aB × Obj)} {s:aC} {σ:St} {H:Hp} {Q:VK} (I:Inv X pins σ H s) (h:Q70 cap wi g tt te σ H Q)
  (fin:∀ acc C H' s' m,Inv X pins σ H' s'->s'.heap.Ns C m->Q5b X pins H' C->Q (.ref acc) H'->compPost (aI X.prog X.w) X.A X.xe use QQ (.ref acc) C (.ok .next) s') {pos':Pos} :
  aF (aI X.prog X.w) X.A (comprehension (.ListComp elt [⟨tg,iter,ifs,0⟩] sc pos) sc X.env pos' (newList []) yl (aP iter X.env) use) QQ X.xe s:=by
 have ck:=compOkC.of hc;obtain ⟨cl,e0,c1,c2⟩:=Qcn (scope:=sc) (env:=X.env) fun x hx hf=>I.ok.has x.1 (by
  have:=ck.fre x hx hf;rw [<- hE] at this;exact this)
 refine wpAny_comprehension_free (use:=use) rfl hs e0 ck.kind ck.loc (thn (hi pins s σ H _ I h) fun v s1 h1=>thn h1 fun f5 U h2=>?_)
 obtain ⟨it,fp,tn,J,H2,e,I2,T,d4,f2,hw⟩:=h2;subst e;have b6:∀ b∈fp,b < U.heap.objs.size:=fun b G=>by
  obtain ⟨o,e,_⟩:=T.obj _ _ d4 b G;exact O9 e
 obtain ⟨W,⟨m0,w0⟩,turn⟩:=hw U.heap.objs.size I2.fresh;refine ao (Q5e ?_);dsimp only;have I3:Inv X pins σ (upd H2 U.heap.objs.size (.lst [])) { U with heap:=U.heap.push { cls:=.type "list",data:=.seq ([]:List aA).toArray } }:=
  I2.lnew (its:=[]) (ys:=[]) (t':=U.toks) .nil (G9 _)
 generalize c8:({ U with heap:=U.heap.push { cls:=.type "list",data:=.seq ([]:List aA).toArray } }:aC)=Y at I3;have d2:Y.heap=U.heap.push { cls:=.type "list",data:=.seq ([]:List aA).toArray }:=by rw [<- c8]
 have hsz:Y.heap.objs.size=U.heap.objs.size + 1:=by rw [d2,F5]
 have f3:∀ b∈fp,Q5b X pins (upd H2 U.heap.objs.size (.lst [])) b:=fun b G=>by
  obtain ⟨g0,g1⟩:=f2 b G;exact ⟨by rw [Qf (D8 (b6 b G))]; exact g0,g1⟩
 have k3:∀ b o,U.heap.get? b=zo o->Y.heap.get? b=zo o:=fun b o e=>by rw [d2]; exact O2 _ e
 obtain ⟨a3,a4⟩:∃ a3,ag (Y.heap.objs.size + 1) sc.names cl=a3:=⟨_,rfl⟩;obtain ⟨Z,a1⟩:∃ Z,pushCells (Y.heap.push { cls:=.type "dict",data:=.dict #[] }) sc.names=Z:=⟨_,rfl⟩;have k1:∀ b o,Y.heap.get? b=zo o->Z.get? b=zo o:=fun b o e=>by rw [<- a1]; exact pushCells_keeps _ _ b o (O2 _ e)
 have f0:∀ x c,a3.lookup x=zo c->cl.lookup x=zo c\/Y.heap.objs.size + 1<=c:=fun x c e=>by
  rw [<- a4] at e;have:=V5 (sc.names) (Y.heap.push { cls:=.type "dict",data:=.dict #[] }) cl x c (by rw [F5]; exact e);rcases this with z | ⟨_,z,_⟩
  ·exact .inl z
  ·rw [F5] at z; exact .inr z
 have I4:Inv (Wg X N' sc a3 Y.heap.objs.size Y (upd H2 U.heap.objs.size (.lst [])) fp) [] (Q09 cap σ) (upd H2 U.heap.objs.size (.lst [])) { Y with heap:=Z }:=by
  rw [<- a4,<- a1];exact Qkf I3 hN hE ck c1 c2 f3 (fun b G=>D0 (b6 b G) (by rw [hsz]; exact dH _))
 have c7:tn 0 Z:=T.keep _ _ _ d4 fun b G o e=>k1 b o (k3 b o e)
 generalize j:Wg X N' sc a3 Y.heap.objs.size Y (upd H2 U.heap.objs.size (.lst [])) fp=X' at I4;have c5:X'.xe=fun _ _=>False:=by rw [<- j]; rfl
 have O:X'.prog=X.prog:=by rw [<- j]; rfl
 have a2:X'.w=X.w:=by rw [<- j]; rfl
 have c9:X'.K=X.K:=by rw [<- j]; rfl
 have a5:X'.A=X.A:=by rw [<- j]; rfl
 have d1:X'.calm=yo:=by rw [<- j]; exact b9
 have b2:X'.env=compEnvC sc a3 Y.heap.objs.size X.env:=by rw [<- j]; rfl
 have a6:X'.env.locals=Y.heap.objs.size:=by rw [b2]; rfl
 have e5:PG X' tg g:=by rw [<- j]; exact hg _ _ _ _ _
 have d8:PE X' elt te:=by rw [<- j]; exact he _ _ _ _ _
 have c6:PTs X' ifs tt:=by rw [<- j]; exact d9 _ _ _ _ _
 have a8:∀ {H':Hp},(∀ b∈fp,H' b=zb)->∀ b∈fp,Q5b X' [] H' b:=fun {H'} hn b G=>by
  obtain ⟨_,g1,g2,g3,g4,g5⟩:=f3 b G;refine ⟨hn b G,by rw [a6,hsz]; exact D8 (dA (b6 b G)),?_,?_,?_,fun p hp=>?_⟩
  ·rw [<- j];intro z;rcases D5.mp (I3.stkSub b z) with e | z
   ·exact g1 e
   ·exact g2 z
  ·left
   rw [<- j];exact G
  ·intro x c e;rw [b2] at e;rcases f0 x c e with z | z
   ·exact g4 x c (c1 x c z)
   ·exact fun q=>absurd (D0 (b6 b G) (E3 (E3 (dH _) (hsz ▸ dH _)) (q ▸ z))) (G8 _)
  ·rw [<- j] at hp;cases hp
 have d6:∀ {b3:St} {H':Hp} {s':aC},Inv X' [] b3 H' s'->Q (.ref U.heap.objs.size) H'->compPost (aI X.prog X.w) X.A X.xe use QQ (.ref U.heap.objs.size) Y.heap.objs.size (.ok .next) s':=fun {b3 H' s'} J q=>by
  obtain ⟨mm,d3,_⟩:=J.loc;rw [a6] at d3;have c4:H' Y.heap.objs.size=zb:=by have:=J.free; rw [a6] at this; exact this
  have hok:=J.hok;rw [O,a2] at hok;have u1:Un (frs X.stack) fp (upd H2 U.heap.objs.size (.lst [])) H' Y.heap s'.heap:=by
   have:=J.base;rw [<- j] at this;exact this
  have d7:s'.os=Y.os:=by have:=J.os; rw [<- j] at this; exact this
  refine fin _ _ H' s' mm (I3.call' (s':=s') d7 u1 hok J.bare fun b G=>?_) d3 (I3.fpOk (O4 _) c4) q
  obtain ⟨_,g1,g2,g3,g4,g5⟩:=f3 b G;exact ⟨g3,g1,g4,g5⟩
 have b0:codeAny (aI X.prog X.w) X.A (.compLoop (.ListComp elt [⟨tg,iter,ifs,0⟩] sc pos) 0 (.ref it) (.ref U.heap.objs.size) X'.env)
   (compPost (aI X.prog X.w) X.A X.xe use QQ (.ref U.heap.objs.size) Y.heap.objs.size) { Y with heap:=Z }:=by
  refine Q5q (fun n s'=>∃ i ys b3 H',Inv X' [] b3 H' s'/\tn i s'.heap/\(∀ b∈fp,H' b=zb)/\W i n ys b3 H') ?_ m0 ⟨0,[],_,_,I4,c7,fun b G=>(f3 b G).1,w0⟩
  rintro n s5 ⟨i,ys,b5,H5,I5,d5,d0,w5⟩;obtain ⟨f4,q⟩:=turn i n ys b5 H5 w5;rcases q with ⟨stop,q⟩ | ⟨go,f1,step⟩
  ·refine thn (a5 ▸ T.done X' O a2 c9 d1 i [] s5 b5 H5 _ I5 (a8 d0) d5 stop) fun r s6 ⟨hr,I6⟩=>?_
   subst hr;exact d6 I6 q
  ·refine thn (a5 ▸ T.item X' O a2 c9 d1 i [] s5 b5 H5 _ I5 (a8 d0) d5 go) fun r s6 ⟨u,hr,h6⟩=>?_
   subst hr;refine thn h6 fun _ s7 ⟨x,H7,I7,r7,y7,b1,e6⟩=>?_
   have e7:=I7.pinned (a8 e6) (T.obj _ _ b1);have g7:=e5 _ s7 b5 H7 x u _ e7 r7 (step x H7 y7);rw [O,a2,a5,c5] at g7;refine thn g7 fun _ s8 ⟨a7,H8,I8,q8⟩=>?_
   have t8:=c6 _ s8 a7 H8 _ I8 q8;rw [O,a2,a5,c5] at t8;refine thn t8 fun e4 e8 ⟨e9,b7,b4⟩=>?_
   cases e4 with
   | false=>
    rw [bT O7] at b4 ⊢;obtain ⟨m',c0,w9⟩:=b4;refine ⟨m',c0,i + 1,_,a7,_,b7.unpinned,T.keep _ _ _ b1 fun b G o eo=>(b7.pin (b,o) (E9 _ (E9 _ (Ve G eo)))).1,fun b G=>?_,w9⟩;obtain ⟨o,eo,d⟩:=T.obj _ _ b1 b G;exact (b7.pin (b,o) (E9 _ (E9 _ (Ve G eo)))).2.1
   | true=>
   rw [bS rfl] at b4 ⊢;have g8:=d8 _ e8 a7 e9 _ b7 b4;rw [O,a2,a5,c5] at g8;refine thn g8 fun y s9 ⟨yv,H9,I9,r9,a9,m',c0,w9⟩=>?_
   obtain ⟨z,its,nn,rr,hl,e⟩:=I9.lstM a9;refine az F.slot_list_append ⟨_,e,rfl⟩ F.entry_list_append (F.args_list_append_2 _ _) (gI _ its.toArray nn y (by rw [O6]; omega)) ⟨e,?_⟩;have c3:Inv X' ([] ++ Q3m fp s7.heap) a7 (upd H9 U.heap.objs.size (.lst (ys ++ [yv]))) { s9 with heap:=s9.heap.update U.heap.objs.size (bw fun a=>a.push y) }:=
    I9.lset (t':=s9.toks) (its':=its ++ [y]) a9 e (by simp) (rr.append (.cons r9 .nil)) (by rw [D4,gJ]; omega)
   refine ⟨m',c0,i + 1,_,a7,_,c3.unpinned,T.keep _ _ _ b1 fun b G o eo=>(c3.pin (b,o) (E9 _ (E9 _ (Ve G eo)))).1,fun b G=>?_,w9⟩;obtain ⟨o,eo,d⟩:=T.obj _ _ b1 b G;exact (c3.pin (b,o) (E9 _ (E9 _ (Ve G eo)))).2.1
 rw [b2] at b0;have b8:=codeAny_compStart_list (rest:=[]) (ifs:=ifs) b0 (T.self X.A 0 _ _ _ c7 b0);subst c8;rw [<- a4,<- a1] at b8;exact b8
theorem Qib {elt tg iter:aH} {ifs:List aH} {U:TT} {pos:Pos} {N N':List Str} {sc scE:Scope} {cap:List (Option Nat)} {O:TI} {g:TG} {te:TE} (j:X.calm=yo) (hi:PI X tg iter O)
  (hg:∀ cl C z H0 ex,PG (Wg X N' sc cl C z H0 ex) tg g) (he:∀ cl C z H0 ex,PE (Wg X N' sc cl C z H0 ex) elt te) (J:∀ cl C z H0 ex,PTs (Wg X N' sc cl C z H0 ex) ifs U)
  (hN:X.N=N:=by rfl) (hE:X.env.scope=scE:=by rfl) (hc:compOkC N N' sc scE cap=yo:=by decide +kernel) (hs:∀ x,bE iter X.env x=pure x:=by intro _; rfl) :
  PE X (.ListComp elt [⟨tg,iter,ifs,0⟩] sc pos) (Q70 cap O g U te):=by
 intro pins s σ H Q I h;rw [eval_ListComp];refine Q51 (use:=zb) j hi hg he J hN hE hc hs I h fun acc C H' s' m Y hm hf q=>⟨m,hm,fun h' G=>?_⟩
 obtain ⟨f0,f1,f2,f3,f4,f5⟩:=hf;exact ⟨.ref acc,H',Y.turned (t':=s'.toks) (fun b o Z e=>(G.2 b Z).trans e) f0 f1 f3 f4 f5,rfl,q⟩
theorem Qhz {ifs:List aH} {tt:TT} {i:Nat} {x:Str} {px j:Pos} {elt tg iter:aH} {pos:Pos} {N N':List Str} {sc scE:Scope} {cap:List (Option Nat)} {wi:TI} {g:TG} {te:TE} (a1:X.N.Nodup) (Y:X.N[i]?=zo x) (hx:Loc X.env.scope x) (G:X.calm=yo) (hi:PI X tg iter wi)
  (hg:∀ cl C O H0 ex,PG (Wg X N' sc cl C O H0 ex) tg g) (he:∀ cl C O H0 ex,PE (Wg X N' sc cl C O H0 ex) elt te) (a3:∀ cl C O H0 ex,PTs (Wg X N' sc cl C O H0 ex) ifs tt)
  (a2:swapsWith (.ListComp elt [⟨tg,iter,ifs,0⟩] sc pos) (zo (.Name x px)) j.line X.env=pure yo:=by rfl)
  (hN:X.N=N:=by rfl) (hE:X.env.scope=scE:=by rfl) (hc:compOkC N N' sc scE cap=yo:=by decide +kernel) (hs:∀ x,bE iter X.env x=pure x:=by intro _; rfl)
  (hf:X.fn x=yo\/X.env.scope.names.lookup x=zo .local:=by first | exact .inl rfl | exact .inr rfl | assumption) :
  PS X (.Assign [.Name x px] (.ListComp elt [⟨tg,iter,ifs,0⟩] sc pos) j) (Qkv (Q70 cap wi g tt te) (Q6i i)):=by
 intro pins s σ H D I h;rw [exec_Assign_Name_used _ _ _ _ a2];refine aD (wpAny_standAt (aD ?_));show aF _ _ (do let _ <- comprehension (.ListComp elt [⟨tg,iter,ifs,0⟩] sc pos) sc X.env _ (newList []) yl (aP iter X.env) (zo (assign (.Name x px) X.env))) _ _ s;refine aD (ar (Q51 (use:=zo (assign (.Name x px) X.env)) (QQ:=fun _ s'=>SP X pins D .next s') G hi hg he a3 hN hE hc hs I h ?_) (fun _ s' hq=>wpAny_pure (wpAny_pure hq)) fun _ _ e=>e)
 intro acc C H' s' m I' hm U q;obtain ⟨f0,f1,f2,f3,f4,f5⟩:=U;show aF _ _ (assign (.Name x px) X.env (.ref acc)) _ _ _;refine wpAny_assign_Name (Q5v I' a1 Y hx (v:=.ref acc) rfl (fun s2 I2 ⟨a,sb,J⟩=>⟨m,?_,fun h' Z=>?_⟩) hf)
 ·refine hm.sameBut sb fun z=>?_
  rcases J with J | J
  ·exact f1 (z.trans J)
  ·exact f4 x a J z.symm
 ·exact ⟨_,H',I2.turned (t':=s2.toks) (fun b o hb e=>(Z.2 b hb).trans e) f0 f1 f3 f4 f5,q⟩
end
section
variable {X:Cx} {e e3:aH} {te t3:TE} {pos p2:Pos}
end
def tLR (ta:TA):TE:=fun σ H Q=>ta σ H fun vs H1=>∃ n:Nat,vs=[.int (n:Int)]/\n<=1000000/\∀ p,H1 p=zb->Q (.ref p) (upd H1 p (.lst ((bY n).map fun (k:Nat)=>V.int (k:Int))))
theorem Qba {its:List aA} {n:Nat} (q:its.length=n) (h:∀ (j:Nat) (v:aA),its[j]?=zo v->∃ t,v=dP (j:Int) t):Vals ((bY n).map fun (k:Nat)=>V.int (k:Int)) its:=by
 induction n generalizing its with
 | zero=>
  have:its=[]:=List.eq_nil_of_length_eq_zero q;subst this;exact .nil
 | succ n G=>
  rcases List.eq_nil_or_concat its with rfl | ⟨pre,v,rfl⟩
  ·simp at q
  ·rw [List.concat_eq_append] at q h ⊢;have hp:pre.length=n:=by simp at q; exact q
   rw [List.range_succ,E5];refine (G hp fun j u z=>h j u ?_).append ?_
   ·rw [D3 (O1.mp z).1]; exact z
   ·obtain ⟨t,rfl⟩:=h n v (by rw [D6 (by omega),hp]; simp);exact .cons ⟨t,rfl⟩ .nil
section
variable {X:Cx} {a:aH} {ta:TA} {p p' pos pos':Pos}
theorem Q7s (hc:X.calm=yo) (hg:Gl X "list") (hm:X.mg "list" = zb) (U:Gl X "range") (Y:X.mg "range" = zb) (hb:aX "list" = zo (.type "list")) (ha:PA X [a] ta) (hs:aN [a] X.env=[(yl,aP a X.env)]:=by rfl)
  (J:aN [.Call (.Name "range" p') [a] [] pos'] X.env=[(yl,aP (.Call (.Name "range" p') [a] [] pos') X.env)]:=by rfl) :
  PE X (.Call (.Name "list" p) [.Call (.Name "range" p') [a] [] pos'] [] pos) (tLR ta):=by
 intro pins s σ H Q I h;refine wpAny_Call_Name_kw (yk I hg hm hb ?_ (by decide) (by decide));refine dS ?_ J rfl;rw [J];refine Calls.spliced_cons ?_;refine Call_ (yk I U Y boot_range (dS (thn (ha pos' pins s σ H _ I h) fun us s1 ⟨vs,H1,I1,r1,q1⟩=>?_) hs rfl))
 obtain ⟨n,rfl,Z,q⟩:=q1;cases r1 with
 | cons r rr=>
  cases rr;obtain ⟨t,rfl⟩:=r;refine call_range_1 ?_;refine Calls.spliced_nil ?_;have I2:Inv X pins σ H1 { s1 with heap:=s1.heap.push { cls:=.type "range",data:=.fields #[.int 0 s1.toks,.int (n:Int) t,.int 1 (s1.toks + 1)] },toks:=s1.toks + 1 + 1 }:=I1.kept (t':=s1.toks + 1 + 1) fun b ob q=>O2 _ q
  refine call_list_range (n:=n) (I1.ok.hd hc) (IsRange.new ..) ?_ ?_ (by omega) fun h' tk G c' hk hS z=>?_
  ·have hr:Builtin.Range.rangeSize 0 (n:Int) 1=n:=by
    unfold Builtin.Range.rangeSize;rw [bS (by omega)]
    split <;> omega
   have O:∀ m:Nat,m<=1000000->Builtin.Range.rangeFitsLong (m:Int)=yo:=fun m hm=>by
    unfold Builtin.Range.rangeFitsLong;simp;omega
   unfold Builtin.Range.small;simp [hr,O n Z,show Builtin.Range.rangeFitsLong 0=yo from O 0 (by omega),show Builtin.Range.rangeFitsLong 1=yo from O 1 (by omega)]
  ·unfold Builtin.Range.rangeSize;rw [bS (by omega)]
   split <;> omega
  ·have hv:Vals ((bY n).map fun (k:Nat)=>V.int (k:Int)) G.toList:=Qba (by rw [bj]; exact z.1) fun j v hj=>by
    obtain ⟨t,rfl⟩:=z.2 j v (by simpa using hj);exact ⟨t,by simp⟩
   refine ⟨.ref _,_,I2.laid (t':=tk) (o:=.lst ((bY n).map fun (k:Nat)=>V.int (k:Int))) hk (O4 _) ?_,rfl,q _ (I2.hok.fresh (O4 _))⟩;exact ⟨by rw [O3,F0]; exact E3 Z (by decide),G.toList,c',hv,by simpa using hS⟩
end
section
variable {X:Cx}
end
section
section
variable {κ:Type} [DecidableEq κ]
def Qbb (kvs:List (κ × V)) (k:κ):Option V:=(kvs.find? fun kv=>decide (kv.1=k)).map (·.2)
def Kn (kvs:List (κ × V)) (k:κ) (v:V):List (κ × V):=
 if (kvs.any fun kv=>decide (kv.1=k))=yo then kvs.map (fun kv=>if kv.1=k then (kv.1,v) else kv) else kvs ++ [(k,v)]
theorem Q99 {p:κ × V} {r:List (κ × V)} {k:κ} (e:p.1=k):Qbb (p :: r) k=zo p.2:=by simp [Qbb,eJ,e]
theorem Q9a {p:κ × V} {r:List (κ × V)} {k:κ} (e:¬ p.1=k):Qbb (p :: r) k=Qbb r k:=by simp [Qbb,eJ,e]
theorem Q9b (k:κ):∀ kvs:List (κ × V),(kvs.any fun kv=>decide (kv.1=k))=(Qbb kvs k).isSome
 | []=>rfl
 | p :: r=>by
  rw [cm]
  by_cases e:p.1=k
  ·simp only [Q99 e,bV e,Bool.true_or,gT]
  ·rw [Q9a e,bU e,Bool.false_or]; exact Q9b k r
theorem Q1h (kvs:List (κ × V)) (k:κ) (v:V):(Kn kvs k v).length<=kvs.length + 1:=by
 unfold Kn
 split
 ·rw [O3]; omega
 ·rw [D4,D7,cj]; omega
theorem RelO.isSome_eq {o:Option V} {u:Option aA} (r:RelO o u):o.isSome=u.isSome:=by
 cases o with
 | none=>cases u with
  | none=>rfl
  | some _=>exact (show False from r).elim
 | some _=>cases u with
  | none=>exact (show False from r).elim
  | some _=>rfl
theorem KV.any {kvs:List (κ × V)} {vs:List (κ × aA)} (r:KV kvs vs) (k:κ):(kvs.any fun kv=>decide (kv.1=k))=vs.any fun kv=>decide (kv.1=k):=by
 unfold KV at r
 induction r with
 | nil=>rfl
 | cons h t j=>rw [cm,cm,j,h.1]
theorem KV.repl {kvs:List (κ × V)} {vs:List (κ × aA)} (r:KV kvs vs) (k:κ) {y:V} {u:aA} (G:RelV y u) :
  KV (kvs.map fun kv=>if kv.1=k then (kv.1,y) else kv) (vs.map fun kv=>if kv.1=k then (kv.1,u) else kv):=by
 unfold KV at r ⊢
 induction r with
 | nil=>exact .nil
 | @cons p q ps J h t j=>
  rw [O8,O8];refine .cons ?_ j;obtain ⟨h1,h2⟩:=h
  by_cases e:p.1=k
  ·rw [bS e,bS (h1.symm.trans e)]; exact ⟨h1,G⟩
  ·rw [bT e,bT (fun z=>e (h1.trans z))]; exact ⟨h1,h2⟩
theorem KV.put {kvs:List (κ × V)} {vs:List (κ × aA)} (r:KV kvs vs) (k:κ) {y:V} {u:aA} (j:RelV y u):KV (Kn kvs k y) (stored vs k u):=by
 unfold Kn stored;rw [r.any k]
 by_cases e:(vs.any fun kv=>decide (kv.1=k))=yo
 ·rw [bS e,bS e]; exact r.repl k j
 ·rw [bT e,bT e]; exact Paired.snoc r ⟨rfl,j⟩
theorem KV.length {kvs:List (κ × V)} {vs:List (κ × aA)} (r:KV kvs vs):kvs.length=vs.length:=Paired.length r
end
theorem Qqa {P:aK} {w:aJ} {k:Key} {u:aA} (r:RelV (kV k) u):(Y8 P w).is k u=yo:=by
 cases k with
 | inl i=>obtain ⟨t,e⟩:=(show ∃ t,u=dP i t from r); subst e; exact Qa9 P w i t
 | inr x=>obtain ⟨t,e⟩:=(show ∃ t,u=dn x t from r); subst e; exact Qa8 P w x t
abbrev KT (H:Hp):List (HK × V)->List (HK × aB × aA)->Prop:=aS fun p q=>p.1=q.1/\KR H p.1 q.2.1/\RelV p.2 q.2.2
theorem KT.val {H:Hp} {kvs:List (HK × V)} {xs:List (HK × aB × aA)} (r:KT H kvs xs) (k:HK):RelO (Qbb kvs k) ((atKey xs k).map (·.2)):=by
 induction r with
 | nil=>exact True.intro
 | @cons p q ps G h t J=>
  obtain ⟨h1,_,h2⟩:=h
  by_cases e:p.1=k
  ·have j:q.1=k:=h1.symm.trans e;have b:atKey (q :: G) k=zo q.2:=by simp [atKey,eJ,j]
   rw [Q99 e,b]; exact h2
  ·have j:¬ q.1=k:=fun z=>e (h1.trans z)
   have b:atKey (q :: G) k=atKey G k:=by simp [atKey,eJ,j]
   rw [Q9a e,b]; exact J
theorem KT.repl {H:Hp} {kvs:List (HK × V)} {xs:List (HK × aB × aA)} (r:KT H kvs xs) (k:HK) {y:V} {u:aA} (G:RelV y u) :
  KT H (kvs.map fun kv=>if kv.1=k then (kv.1,y) else kv) (xs.map (putAt k u)):=by
 induction r with
 | nil=>exact .nil
 | @cons p q ps O h t j=>
  rw [O8,O8];refine .cons ?_ j;obtain ⟨h1,h2,J⟩:=h;unfold putAt
  by_cases e:p.1=k
  ·rw [bS e,bS (h1.symm.trans e)]; exact ⟨h1,h2,G⟩
  ·rw [bT e,bT (fun z=>e (h1.trans z))]; exact ⟨h1,h2,J⟩
theorem KT.put {H:Hp} {kvs:List (HK × V)} {xs:List (HK × aB × aA)} (r:KT H kvs xs) (k:HK) {b:aB} {y:V} {u:aA} (z:KR H k b) (j:RelV y u) :
  KT H (Kn kvs k y) (storedH xs k b u):=by
 have e:(kvs.any fun kv=>decide (kv.1=k))=(atKey xs k).isSome:=by
  rw [Q9b,(r.val k).isSome_eq,Option.isSome_map]
 unfold Kn storedH;rw [e]
 by_cases q:(atKey xs k).isSome=yo
 ·rw [bS q,bS q]; exact r.repl k j
 ·rw [bT q,bT q]; exact Paired.snoc r ⟨rfl,z,j⟩
theorem KT.keeps {H H':Hp} {kvs:List (HK × V)} {xs:List (HK × aB × aA)} (r:KT H kvs xs) (j:∀ b ys,H b=zo (.tup ys)->H' b=zo (.tup ys)):KT H' kvs xs:=
 Paired.mapP r fun _ _ z=>⟨z.1,z.2.1.keep j,z.2.2⟩
section
variable {P:aK} {w:aJ} {H:Hp} {h:Heap} {a:aB}
theorem Qpz {u:HO} (ok:HOk P w H h) (e:Rd H a u):ObjOk P w H h a u:=e.ok ok
theorem Qvj {kvs:List (Key × V)} (ok:HOk P w H h) (e:Rd H a (.dK kvs)):kvs.length<=sizeLine/\(a == aq)=yl/\∃ vs,KV kvs vs/\h.DictOf (Y8 P w) a vs:=
 show ObjOk P w H h a (.dK kvs) from Qpz ok e
theorem Qvk {kvs:List (Key × V)} (ok:HOk P w H h) (e:H a=zo (.dK kvs)):kvs.length<=sizeLine/\(a == aq)=yl/\∃ vs,KV kvs vs/\h.DictOf (Y8 P w) a vs:=Qvj ok (.inl e)
mutual
theorem Qj7 (ok:HOk P w H h):∀ {k:HK} {v:V} {u:aA},KAt H k v->RelV v u->KIs h k u
 | .int _,_,_,r,ru=>by cases r; exact ru
 | .str _,_,_,r,ru=>by cases r; exact ru
 | .tup l,_,u,⟨a,vs,e,q,r⟩,ru=>by
  subst e;cases (show u=ba a from ru);obtain ⟨_,its,j,p⟩:=(show ObjOk P w H h a (.tup vs) from ok a _ q);exact ⟨a,its.toArray,rfl,p,by simpa using katL_is ok r j⟩
theorem katL_is (ok:HOk P w H h):∀ {l:List HK} {vs:List V} {j:List aA},KAtL H l vs->Vals vs j->KIsL h l j
 | [],_,_,r,ru=>by cases r; cases ru; rfl
 | _ :: _,_,_,⟨v,r,e,h1,t⟩,ru=>by
  subst e;cases ru with
  | cons a b=>exact ⟨_,_,rfl,Qj7 ok h1 a,katL_is ok t b⟩
end
theorem ym {k:HK} (ok:HOk P w H h) (e:KR H k a):(nk P w).is h k a:=⟨Qj7 ok e.1 rfl,e.2⟩
theorem Qnf {A:aM} (j:A.units + 9 < aU):(nk P w).room A.in1:=by show A.units + 1 + 5 < aU; omega
theorem Qvh {kvs:List (HK × V)} (ok:HOk P w H h) (e:Rd H a (.dT kvs)):kvs.length<=sizeLine/\(a == aq)=yl /\
  ∃ xs,KT H kvs xs/\h.DictOfH (nk P w) a xs:=by
 obtain ⟨z,y,xs,r,o,es,ep,h1,h2,Y,U,O⟩:=(show ObjOk P w H h a (.dT kvs) from Qpz ok e);refine ⟨z,y,xs,r,o,es,ep,h1,h2,Y,U,fun x j=>?_,O⟩;have all:∀ {l:List (HK × V)} {m:List (HK × aB × aA)},KT H l m->∀ x∈m,(nk P w).is h x.1 x.2.1:=by
  intro l m q
  induction q with
  | nil=>intro x j; exact nomatch j
  | @cons p q ps Z G t J=>
   intro x j;rcases D5.mp j with e | j
   ·subst e;exact ym ok (by rw [<- G.1]; exact G.2.1)
   ·exact J x j
 exact all r x j
theorem Qvi {kvs:List (HK × V)} (ok:HOk P w H h) (e:H a=zo (.dT kvs)):kvs.length<=sizeLine/\(a == aq)=yl /\
  ∃ xs,KT H kvs xs/\h.DictOfH (nk P w) a xs:=Qvh ok (.inl e)
end
def DPut (H:Hp) (a:aB) (y v:V) (H':Hp):Prop:=
 (∃ kvs k,H a=zo (.dK kvs)/\y=kV k/\kvs.length < sizeLine/\H'=upd H a (.dK (Kn kvs k v))) \/
 ∃ kvs k b,H a=zo (.dT kvs)/\y=.ref b/\KR H k b/\kvs.length < sizeLine/\H'=upd H a (.dT (Kn kvs k v))
theorem DPut.t {H:Hp} {a b:aB} {kvs:List (HK × V)} {k:HK} {v:V} (e:H a=zo (.dT kvs)) (j:KR H k b) (q:kvs.length < sizeLine) :
  DPut H a (.ref b) v (upd H a (.dT (Kn kvs k v))):=.inr ⟨kvs,k,b,e,rfl,j,q,rfl⟩
section
variable {X:Cx} {pins:List (aB × Obj)} {σ:St} {H:Hp} {s:aC} {a:aB} {y v:V} {u r:aA} {o:Option V} {A:aM} {E:aA->aC->Prop}
theorem Inv.big (I:Inv X pins σ H s):aq < s.heap.objs.size:=by
 have h:aQ < s.heap.objs.size:=(I.mod.glob.keeps I.bk).lt;exact gZ (by decide) h
theorem Qed {h':Heap} {t':Nat} {ob:HO} (I:Inv X pins σ H s) (J:Mut (H a)) (hs:Heap.SameBut a s.heap h') (G:∃ q,h'.get? a=zo q) (new:ObjOk X.prog X.w (upd H a ob) h' a ob) :
  Inv X pins σ (upd H a ob) { s with heap:=h',toks:=t' }:=
 I.write (x:=a) (e:=a) J (.inl rfl) (fun b q j z=>(hs.2 b j).trans z) G new
theorem Qk5 {P:aK} {w:aJ} {H':Hp} {h':Heap} {kvs:List (Key × V)} {vs:List (Key × aA)} (z:kvs.length<=sizeLine) (hd:(a == aq)=yl) (j:KV kvs vs) (dd:h'.DictOf (Y8 P w) a vs) :
  ObjOk P w H' h' a (.dK kvs):=⟨z,hd,vs,j,dd⟩
theorem Qgg {H':Hp} {Q:Unit->aC->Prop} (hu:A.units + 9 < aU) (I:Inv X pins σ H s) (g:DPut H a y v H') (ry:RelV y u) (rv:RelV v r) (h:∀ s',Inv X pins σ H' s'->Q () s') :
  aF (aI X.prog X.w) A (setItem (.ref a) u r) Q E s:=by
 rcases g with ⟨kvs,k,e,U,l,Y⟩ | ⟨kvs,k,b,e,U,Z,l,Y⟩
 ·subst U Y;obtain ⟨z,hd,vs,j,dd⟩:=Qvk I.hok e;have hz:vs.length<=sizeLine:=by rw [<- j.length]; exact z
  have O:(Kn kvs k v).length<=sizeLine:=by have:=Q1h kvs k v; omega
  refine wpAny_setItem_pairs (hsz:=hz) (Qqa ry) dd fun h' G hs=>h _ ?_
  have he:∃ q,h'.get? a=zo q:=let ⟨q,_,_,J,_⟩:=G; ⟨q,J⟩;exact Qed I (by rw [e]; exact True.intro) hs he (Qk5 O hd (j.put k rv) G)
 ·subst U Y;cases (show u=ba b from ry);obtain ⟨z,hd,xs,j,dd⟩:=Qvi I.hok e;have hz:xs.length<=sizeLine:=by rw [<- Paired.length j]; exact z
  have O:(Kn kvs k v).length<=sizeLine:=by have:=Q1h kvs k v; omega
  refine wpAny_setItem_heap (hsz:=hz) (Qnf hu) (ym I.hok Z) dd fun h' G hs=>h _ ?_
  obtain ⟨q,es,ep,J,h2,h3,h4,_,h5⟩:=G;refine Qed I (by rw [e]; exact True.intro) hs ⟨q,J⟩ ⟨O,hd,_,(j.put k Z rv).keeps fun c ys ec=>?_,q,es,ep,J,h2,h3,h4,h5⟩;rw [Qf (Quj ec e (fun z=>nomatch z))];exact ec
end
section
variable {X:Cx} {pins:List (aB × Obj)} {σ:St} {H:Hp} {s:aC} {a:aB} {kvs:List (Key × V)} {k:Key} {u:aA} {A:aM} {E:aA->aC->Prop}
end
def Qts (td ty tv:TE):TS:=fun D σ H=>tv σ H fun v H1=>td σ H1 fun x H2=>ty σ H2 fun y H3=>∃ a H4,x=.ref a/\DPut H3 a y v H4/\D.nx σ H4
section
variable {X:Cx} {o i e value:aH} {pos pos' tpos:Pos} {td ty tv:TE}
theorem Qmr (O:X.A.units + 9 < aU) (Z:PE X o td) (hi:PE X i ty) (Y:PE X value tv) (hs:swapsWith value (zo (.Subscript o i pos')) pos.line X.env=pure yl) :
  PS X (.Assign [.Subscript o i pos'] value pos) (Qts td ty tv):=by
 intro pins s σ H D I h;refine wpAny_Assign_Subscript (thn (Y pins s σ H _ I h) fun r s1 ⟨v,H1,I1,z,q1⟩=>thn (Z pins s1 σ H1 _ I1 q1) fun u G ⟨x,H2,J,U,q2⟩=>thn (hi pins G σ H2 _ J q2) fun iv s3 ⟨y,H3,j,ry,a,H4,ex,g,q3⟩=>?_) hs
 subst ex;obtain rfl:u=ba a:=U;exact Qgg O j g ry z fun s4 q=>⟨σ,H4,q,q3⟩
end
theorem Qk3 {P:aK} {w:aJ} {H:Hp} (h:Heap) (j:aq < h.objs.size):ObjOk P w H (h.push { cls:=.type "dict",data:=.dict #[] }) h.objs.size (.dT []):=
 ⟨G9 _,beq_eq_false_iff_ne.mpr (Ne.symm (D8 j)),[],.nil,_,#[],0,D1 _ rfl,⟨rfl,rfl,rfl⟩,rfl,rfl,dI⟩
def Qqm:TE:=fun _ H Q=>∀ p,H p=zb->Q (.ref p) (upd H p (.dT []))
section
variable {X:Cx} {pos:Pos}
theorem Qia:PE X (.Dict [] [] pos) Qqm:=fun pins s σ H Q I h=>
 wpAny_Dict_empty ⟨.ref s.heap.objs.size,_,I.laid (a:=s.heap.objs.size) (o:=.dT []) (t':=s.toks) (fun _ _ q=>O2 _ q) (O4 _) (Qk3 s.heap I.big),rfl,h _ (I.hok.fresh (O4 _))⟩
end
def yh (kvs more:List (Key × V)):List (Key × V):=more.foldl (fun acc kv=>Kn acc kv.1 kv.2) kvs
theorem KV.merge:∀ {more:List (Key × V)} {rs:List (Key × aA)} {kvs:List (Key × V)} {vs:List (Key × aA)},KV more rs->KV kvs vs->KV (yh kvs more) (merged vs rs):=by
 intro more rs kvs vs r;unfold KV at r
 induction r generalizing kvs vs with
 | nil=>intro q; exact q
 | @cons p q ps G h t z=>
  intro j;have e:KV (Kn kvs p.1 p.2) (stored vs q.1 q.2):=by
   have:=j.put p.1 h.2;rw [<- h.1]; exact this
  exact z e
structure M1 (X:Cx) (o:aH) (m:Str) (apos:Pos) (e:aH) (cpos:Pos):Prop where
 base:bJ o m X.env (aP o X.env)=aP o X.env
 few:((aY cpos (aN [e] X.env)).all (fun x=>!x.1) && (backToKw cpos (keywordEach [] X.env)).all (fun x=>x.1.isSome)
  && decide (([e]:List aH).length + ([]:List Keyword).length + (if ([]:List Keyword).isEmpty then 0 else 1) < 30))=yo
 line:(apos.endLine == cpos.line)=yo
 trees:aY cpos (aN [e] X.env)=[(yl,aP e X.env)]
structure M2 (X:Cx) (o:aH) (m:Str) (apos:Pos) (e f:aH) (cpos:Pos):Prop where
 base:bJ o m X.env (aP o X.env)=aP o X.env
 few:((aY cpos (aN [e,f] X.env)).all (fun x=>!x.1) && (backToKw cpos (keywordEach [] X.env)).all (fun x=>x.1.isSome)
  && decide (([e,f]:List aH).length + ([]:List Keyword).length + (if ([]:List Keyword).isEmpty then 0 else 1) < 30))=yo
 line:(apos.endLine == cpos.line)=yo
 trees:aY cpos (aN [e,f] X.env)=[(yl,aP e X.env),(yl,aP f X.env)]
section
variable {X:Cx} {pins:List (aB × Obj)} {σ:St} {H:Hp} {s:aC} {a:aB} {y d:V} {u r:aA} {o:Option V} {A:aM} {E:aA->aC->Prop}
end
section
variable {X:Cx} {o e f:aH} {apos cpos:Pos} {td ty tx:TE}
end
section
variable {X:Cx} {pins:List (aB × Obj)} {σ:St} {H:Hp} {s:aC} {a:aB} {kvs:List (Key × V)} {A:aM} {E:aA->aC->Prop}
end
section
variable {X:Cx} {pins:List (aB × Obj)} {σ:St} {H:Hp} {s:aC} {a:aB} {y:V} {u:aA} {A:aM} {E:aA->aC->Prop}
end
section
variable {X:Cx}
end
end
section
open AutoSeq1 (wpAny_loadPart')
section
variable {prog:aK} {w:aJ} {A:aM} {E:aA->aC->Prop} {s:aC}
end
section
variable {prog:aK} {w:aJ} {A:aM} {E:aA->aC->Prop} {s:aC}
end
section
variable {X:Cx} {a:aH} {ta:TA} {p p' pos pos':Pos}
end
end
section
variable {prog:aK} {w:aJ} {A:aM} {E:aA->aC->Prop} {s:aC}
end
section
variable {X:Cx} {e e3:aH} {te t3:TE} {pos p2:Pos}
end
theorem Qa5:typeLookup (.type "list") "keys" = pure zb:=am_miss_of_fast (by decide +kernel)
theorem Q5p {prog:aK} {w:aJ} {A:aM} {E:aA->aC->Prop} {s:aC} {a:aB} {xs:Array aA} {k:Nat} {G:Array (Option aA)} {Q:Option aA->aC->Prop}
  (J:s.heap.get? a=zo { cls:=.type "list",dict:=zb,data:=.seq xs k,slots:=G }) (U:A.handled=zb)
  (h:∀ h' tk,(∀ b o,s.heap.get? b=zo o->h'.get? b=zo o)->Q zb { s with heap:=h',toks:=tk }) :
  aF (aI prog w) A (getAttr? (.ref a) "keys") Q E s:=by
 obtain ⟨hp,g,d,tk,os⟩:=s;have O:∀ z,(⟨hp,g,d,z,os⟩:aC).TypeIs (.ref a) "list" := fun _=>⟨_,J,rfl⟩
 have f1:=sub_AttributeError;have Y:=F.slot_list_getattribute.lookup;have Z:=F.slot_list_getattribute.bind (.ref a);have f5:=am_list_getattr_none;have j:(["__module__", "__name__", "__qualname__", "__doc__", "__annotations__"]:List Str).contains "keys" = yl:=by decide +kernel
 unfold getAttr? getAttrBy? getAttrBy
 repeat (any_goals (first | assumption | exact O _ | ((with_reducible show aF _ _ (call (cw "list.__getattribute__") _ _) _ _ _); refine az F.slot_list_getattribute (O _) am_entry_list_getattribute (F.args_list_getattribute_2 _ _) (meets_getattribute_miss_list a xs k G "keys" _ Qa5 j) ⟨J,U,fun h' z e q=>?_⟩) | wp_step))
 obtain ⟨t',u',he⟩:=q.there;show aF _ _ (getattributeRaised _ _ _ _ _ _ _) _ _ _;unfold getattributeRaised
 repeat (any_goals (first | assumption | wp_step))
 exact h _ _ q.of.keeps
theorem qg:entryFor table "dict.update.loop" = zo Builtin.«dict.update.loop»:=entryFor_of_tree (by kernel_rfl)
theorem Wa:plainId "dict.update.loop" = yo:=by decide +kernel
def Qd4 {prog:aK} {w:aJ} {K:Type} [DecidableEq K] (knd:KeyKind prog w K) (h:Heap) (v:aA) (p:K × aA):Prop:=
 ∃ a key,v=.ref a/\knd.is p.1 key=yo/\IsTup h a #[key,p.2]
def W3 {K:Type} [DecidableEq K] (kvs:List (K × aA)):List (K × aA):=kvs.foldl (fun acc p=>stored acc p.1 p.2) []
theorem Q2m {K:Type} [DecidableEq K] (kvs:List (K × aA)) (p:K × aA):W3 (kvs ++ [p])=stored (W3 kvs) p.1 p.2:=by unfold W3; rw [gc]; rfl
theorem Qbh {K:Type} [DecidableEq K] (kvs:List (K × aA)) (k:K) (v:aA):(stored kvs k v).length<=kvs.length + 1:=by
 unfold stored; split <;> simp
theorem zh {K:Type} [DecidableEq K] (kvs:List (K × aA)):∀ acc:List (K × aA),(kvs.foldl (fun acc p=>stored acc p.1 p.2) acc).length<=acc.length + kvs.length:=by
 induction kvs with
 | nil=>intro acc; simp
 | cons p r j=>
  intro acc;rw [G7,D7];have:=j (stored acc p.1 p.2);have:=Qbh acc p.1 p.2;omega
section
variable {prog:aK} {w:aJ} {K:Type} [DecidableEq K] {knd:KeyKind prog w K} {A:aM} {R:Result->aC->Prop}
theorem Qgf {I l D:aB} {j:Array aA} {kvs:List (K × aA)} {h0:Heap} {B:Nat} (hh:A.handled=zb) (b5:l≠I) (Z:D≠I) (b4:D≠l) (hB:∀ b o,h0.get? b=zo o->b≠I/\b≠D)
  (hn:j.size=kvs.length) (hp:∀ (i:Nat) (v:aA) (p:K × aA),j[i]?=zo v->kvs[i]?=zo p->Qd4 knd h0 v p) (hsz:kvs.length<=sizeLine) :
  ∀ (k i:Nat) (s:aC),j.size - i=k->i<=j.size->(s.heap.IsListIter I l i/\s.heap.IsList l j)->(∀ b o,h0.get? b=zo o->s.heap.get? b=zo o)->s.heap.DictOf knd D (W3 (kvs.take i)) ->
   (∀ h' tk,h'.DictOf knd D (W3 kvs)->(∀ b o,h0.get? b=zo o->h'.get? b=zo o)->R (.ok (.ret .none)) { s with heap:=h',toks:=tk }) ->
   codeAny (aI prog w) A (.builtin "dict.update.loop" ⟨[.ref D,.ref I,aR i,.none],[]⟩) R s:=by
 have W:=Walks.list (prog:=prog) (w:=w) (A:=A.in1) (by simpa using hh) I l b5 j;intro k
 induction k with
 | zero=>
  intro i s hk hi a1 q hD hR;have a8:i=j.size:=by omega
  subst a8;refine ay qg ?_;rw [Around.under_plainId Wa _];show aF _ A.in1 (af (.ref I) >>= _) _ _ s;refine aD (W.done s _ _ a1 fun h' tk hm=>?_);show aF _ A.in1 (Builtin.Dict.addKeywords D [] >>= fun _=>ret bg) _ _ _;refine aD (wpAny_pure (wpAny_pure (hR h' tk ?_ fun b o e=>hm b o (fun z=>(hB b o e).1 (by simpa using z)) (q b o e))))
  rw [hn,eK] at hD;obtain ⟨o,es,ep,ho,r⟩:=hD;exact ⟨o,es,ep,hm D o (fun z=>Z (by simpa using z)) ho,r⟩
 | succ k ih=>
  intro i s hk hi a1 q hD hR;have a3:i < j.size:=by omega
  refine ay qg ?_;rw [Around.under_plainId Wa _];show aF _ A.in1 (af (.ref I) >>= _) _ _ s;refine aD (W.item i s _ _ a3 a1 fun v h' tk hP U hm=>?_);have a2:i < kvs.length:=by omega
  obtain ⟨a,a7,rfl,a6,ht⟩:=hp i v kvs[i] hP (O0 a2);have G:∀ b o,h0.get? b=zo o->h'.get? b=zo o:=fun b o e=>hm b o (fun z=>(hB b o e).1 (by simpa using z)) (q b o e)
  have a9:h'.DictOf knd D (W3 (kvs.take i)):=by
   obtain ⟨o,es,ep,ho,r⟩:=hD;exact ⟨o,es,ep,hm D o (fun z=>Z (by simpa using z)) ho,r⟩
  show aF _ A.in1 (au [ba a] _ >>= _) _ _ _;refine aD (ae ?_);obtain ⟨ot,b2,b6,nt,b0⟩:=ht;have Y:=G a ot b2;have b7:Shared.TypeIs { s with heap:=h',toks:=tk } (.ref a) "tuple" := ⟨ot,Y,b6⟩;refine aD (wpAny_tryCatch ?_);unfold Builtin.Dict.pairItems;refine aD (bC b7 ?_);rw [bS (by decide)];refine aD (bB Y b0 ?_);refine wpAny_pure ?_;show aF _ A.in1 (au [a7,(kvs[i]).2] (dictSet D a7 (kvs[i]).2)) _ _ _;refine ae (wpAny_dictSet_pairs (knd:=knd) (k:=(kvs[i]).1) a6 a9 (fun O a5 J=>?_) ?_)
  ·have b1:∀ b o,h0.get? b=zo o->O.get? b=zo o:=fun b o e=>(J.2 b (hB b o e).2).trans (G b o e)
   have a4:O.IsListIter I l (i + 1)/\O.IsList l j:=⟨U.1.at fun o e=>(J.2 I (Ne.symm Z)).trans e,U.2.at fun o e=>(J.2 l (Ne.symm b4)).trans e⟩;have e1:kvs.take (i + 1)=kvs.take i ++ [kvs[i]]:=by rw [gf,O0 a2]; rfl
   have b3:O.DictOf knd D (W3 (kvs.take (i + 1))):=by rw [e1,Q2m]; exact a5
   exact wpAny_pure ⟨bD Wa _,ih (i + 1) _ (by omega) a3 a4 b1 b3 fun h3 t3 d3 k3=>hR h3 t3 d3 k3⟩
  ·have:=zh (kvs.take i) [];have h2:(kvs.take i).length<=kvs.length:=by rw [cY]; omega
   simp only [cj,eL] at this;exact E3 this (E3 h2 hsz)
theorem Q21 {s:aC} {E:aA->aC->Prop} {l:aB} {j:Array aA} {m:Nat} {sl:Array (Option aA)} {kvs:List (K × aA)} {Q:aA->aC->Prop} (hh:A.handled=zb)
  (hl:s.heap.get? l=zo { cls:=.type "list",dict:=zb,data:=.seq j m,slots:=sl })
  (hn:j.size=kvs.length) (hp:∀ (i:Nat) (v:aA) (p:K × aA),j[i]?=zo v->kvs[i]?=zo p->Qd4 knd s.heap v p) (hsz:kvs.length<=sizeLine)
  (h:∀ h' tk,h'.DictOf knd s.heap.objs.size (W3 kvs)->(∀ b o,s.heap.get? b=zo o->h'.get? b=zo o)->Q (.ref s.heap.objs.size) { s with heap:=h',toks:=tk }) :
  aF (aI prog w) A (call (.type "dict") [.ref l]) Q E s:=by
 refine callType_codes (Q₁:=fun obj G=>obj=.ref s.heap.objs.size/\G={ s with heap:=s.heap.push { cls:=.type "dict",data:=.dict #[] } }) F.kt_called_dict (F.kt_typeCall_dict_1 _) F.entry_dict_init (kt_code_dict_new _ ⟨rfl,rfl⟩) ?_;rintro obj G ⟨rfl,rfl⟩;have z:(s.heap.push { cls:=.type "dict",data:=.dict #[] }).DictOf knd s.heap.objs.size []:=Heap.DictOf.new s.heap;refine ⟨z.typeIs,F.args_dict_init_2 _ _,?_⟩;have J:(s.heap.push { cls:=.type "dict",data:=.dict #[] }).get? l=zo { cls:=.type "list",dict:=zb,data:=.seq j m,slots:=sl }:=O2 _ hl;unfold Builtin.«dict.__init__»;refine aD ?_;unfold Builtin.Dict.selfAndRest;refine aD (wpAny_notOrdered_dict z.typeIs ?_);show aF _ _ (pure (s.heap.objs.size,[ba l])) _ _ _;refine wpAny_pure ?_;show aF _ _ (Builtin.Dict.updateFrom "dict.__init__" s.heap.objs.size (.ref l) [] .none) _ _ _;unfold Builtin.Dict.updateFrom
 refine aD (bC (T := "list") ⟨_,J,rfl⟩ ?_);rw [bS (by decide)];refine aD (Q5p J (by simpa using hh) fun h2 a1 q=>?_)
 rw [bS (by rfl)];have U:h2.get? l=zo { cls:=.type "list",dict:=zb,data:=.seq j m,slots:=sl }:=q _ _ J;have Z:h2.IsList l j:=⟨_,U,rfl,m,rfl⟩;have k0:∀ b o,s.heap.get? b=zo o->h2.get? b=zo o:=fun b o e=>q b o (O2 _ e)
 have O:h2.DictOf knd s.heap.objs.size []:=by
  obtain ⟨o,es,ep,ho,r⟩:=z;exact ⟨o,es,ep,q _ _ ho,r⟩
 have Y:s.heap.objs.size < h2.objs.size:=by
  obtain ⟨o,es,ep,ho,r⟩:=O;exact O9 ho
 refine aD (aD (m:=rule _) (bL (wpAny_pure (aD (wpAny_pyIter_list Z ?_)))));refine wpAny_pure ⟨bD Wa _,?_⟩;refine Qgf (A:=A.in1) (I:=h2.objs.size) (l:=l) (kvs:=kvs) (h0:=s.heap) (B:=0) (knd:=knd) (by simpa using hh) (D8 (O9 U)) (D8 Y) (cG (O9 hl))
  (fun b o e=>⟨D8 (O9 (k0 b o e)),D8 (O9 e)⟩) hn hp hsz (j.size - 0) 0 _ rfl (G9 _) ⟨⟨_,D1 _ rfl,rfl,rfl⟩,Z.push _⟩ (fun b o e=>O2 _ (k0 b o e)) (O.push _) fun h' tk d k=>?_
 exact ⟨rfl,h h' tk d k⟩
end
theorem Q9x {P:aK} {w:aJ} {H:Hp} {h:Heap} (ok:HOk P w H h):∀ {kvs:List (Key × V)} {vs:List V} {its:List aA},aS (fun (v:V) (kv:Key × V)=>∃ a,v=.ref a/\H a=zo (.tup [kV kv.1,kv.2])) vs kvs->Vals vs its ->
  ∃ rs:List (Key × aA),KV kvs rs/\its.length=rs.length/\∀ (i:Nat) (u:aA) (r:Key × aA),its[i]?=zo u->rs[i]?=zo r->Qd4 (Y8 P w) h u r
 | [],_,_,.nil,.nil=>⟨[],.nil,rfl,fun i u r e=>by simp at e⟩
 | kv :: kvs,v :: vs,u :: us,.cons ⟨a,Y,G⟩ t,.cons ru J=>by
  obtain ⟨rs,h1,h2,Z⟩:=Q9x ok t J;subst Y;cases ru;obtain ⟨_,O,j,tp⟩:=ok a _ G;cases j with
  | cons U j=>
   cases j with
   | cons z j=>
    cases j;rename_i q val;refine ⟨(kv.1,val) :: rs,.cons ⟨rfl,z⟩ h1,by simp [h2],fun i u r e1 e2=>?_⟩
    cases i with
    | zero=>
     simp only [gg,ij] at e1 e2;subst e1; subst e2;exact ⟨a,q,rfl,Qqa U,tp⟩
    | succ i=>
     simp only [dg] at e1 e2;exact Z i u r e1 e2
theorem Qct {X:Cx} (Y:X.calm=yo):V8 X (.type "dict") (fun xs H Q=>∃ p vs,∃ kvs:List (Key × V),xs=[.ref p]/\SqL X.K H p vs/\aS (fun (v:V) (kv:Key × V)=>∃ a,v=.ref a/\H a=zo (.tup [kV kv.1,kv.2])) vs kvs /\
  ∀ d,H d=zb->Q (.ref d) (upd H d (.dK (yh [] kvs)))):=by
 intro pins s σ H xs us Q I r h;obtain ⟨p,vs,kvs,rfl,U,hp,q⟩:=h;obtain ⟨u,rfl,O⟩:=K3 r;cases O;obtain ⟨its,J,pl,hz⟩:=I.list U;obtain ⟨rs,h1,h2,h3⟩:=Q9x I.hok hp J;obtain ⟨⟨oc,od,Z,a1⟩,n,e,hcls,hdict,hdata⟩:=pl;simp only at hcls hdict hdata;subst hcls hdict hdata;have j:rs.length<=sizeLine:=by rw [<- h2,<- J.length]; exact hz
 refine Q21 (knd:=Y8 X.prog X.w) (kvs:=rs) (I.ok.hd Y) e (by rw [O6,h2]) (fun i v p e1 e2=>h3 i v p (by simpa using e1) e2) j fun h' tk hd hk=>?_
 have z:KV (yh [] kvs) (W3 rs):=KV.merge h1 .nil;have G:(yh [] kvs).length<=sizeLine:=by
  rw [z.length];have:=zh rs [];simp only [cj,eL] at this;exact E3 this j
 exact ⟨.ref s.heap.objs.size,_,I.laid (t':=tk) (o:=.dK (yh [] kvs)) hk (O4 _) (Qk5 G (beq_eq_false_iff_ne.mpr (Ne.symm (D8 I.big))) z hd),rfl,q _ (I.hok.fresh (O4 _))⟩
section
variable {X:Cx} {pins:List (aB × Obj)} {σ:St} {H:Hp} {s:aC} {a:aB} {tg:aH}
end
end L2
namespace L2
open PySem PySem.Spec PyProof.Rows PySem.W
def evT {α:Type} (c:Nat->Nat->Bool):KasT α->α
 | .ret a=>a
 | .ask i j k=>evT c (k (c i j))
theorem Kb {α β:Type} (c:Nat->Nat->Bool) (f:α->KasT β):∀ t:KasT α,evT c (t.bind f)=evT c (f (evT c t))
 | .ret _=>rfl
 | .ask i j k=>Kb c f (k (c i j))
section
variable (r:Nat->Nat)
def rk (p:Array Nat) (i:Nat):Nat:=r (p.getD i 0)
def cR:Nat->Nat->Bool:=fun i j=>decide (r i < r j)
variable {r}
theorem Q9p {p q:Array Nat} {i j:Nat} (h:p[i]?=q[j]?):rk r p i=rk r q j:=by
 unfold rk;rw [dJ,dJ,h]
theorem Qbs {p:Array Nat} {i j:Nat} (z:j<=p.size) (k:Nat):rk r (kas_rev p i j) k=if i<=k/\k < j then rk r p (i + j - 1 - k) else rk r p k:=by
 have h:=getElem?_mirror_all (xs:=p) (i:=i) z k
 by_cases q:i<=k/\k < j
 ·rw [bS q] at h ⊢; exact Q9p h
 ·rw [bT q] at h ⊢; exact Q9p h
theorem Qhf {p:Array Nat} {j d:Nat} (hs:j < p.size) (hd:d<=j) (k:Nat):rk r (bubble p j d) k=if k=j - d then rk r p j else if j - d < k/\k<=j then rk r p (k - 1) else rk r p k:=by
 have h:=getElem?_bubble hs d hd k
 by_cases q:k=j - d
 ·rw [bS q] at h ⊢; exact Q9p h
 ·rw [bT q] at h ⊢
  by_cases q2:j - d < k/\k<=j
  ·rw [bS q2] at h ⊢; exact Q9p h
  ·rw [bT q2] at h ⊢; exact Q9p h
theorem xk {p:Array Nat} (i j:Nat):(kas_rev p i j).size=p.size:=mirror_size _ _ _ _
theorem Wu {p:Array Nat} (i j:Nat):(kas_rev p i j).Perm p:=mirror_perm _ _ _ _
theorem Qcz (p:Array Nat):∀ f n,1<=n->n<=evT (cR r) (kas_asc p f n)/\evT (cR r) (kas_asc p f n)<=n + f/\(∀ i,n<=i->i < evT (cR r) (kas_asc p f n)->rk r p (i - 1)<=rk r p i)/\(evT (cR r) (kas_asc p f n) < n + f->rk r p (evT (cR r) (kas_asc p f n)) < rk r p (evT (cR r) (kas_asc p f n) - 1))
 | 0,n,_=>⟨O4 _,O4 _,fun i h1 h2=>absurd h2 (by show ¬ i < n; omega),fun h=>absurd h (by show ¬ n < n + 0; omega)⟩
 | f + 1,n,O=>by
  have e:evT (cR r) (kas_asc p (f + 1) n)=if rk r p n < rk r p (n - 1) then n else evT (cR r) (kas_asc p f (n + 1)):=by
   show evT (cR r) (if decide (rk r p n < rk r p (n - 1))=yo then KasT.ret n else kas_asc p f (n + 1))=_
   by_cases q:rk r p n < rk r p (n - 1)
   ·rw [bS (by simpa using q),bS q]; rfl
   ·rw [bT (by simpa using q),bT q]
  rw [e]
  by_cases q:rk r p n < rk r p (n - 1)
  ·rw [bS q];exact ⟨O4 _,by omega,fun i h1 h2=>by omega,fun _=>q⟩
  ·rw [bT q];obtain ⟨h1,h2,G,j⟩:=Qcz p f (n + 1) (by omega);refine ⟨by omega,by omega,fun i J g2=>?_,fun g=>j (by omega)⟩
   by_cases z:i=n
   ·subst z; omega
   ·exact G i (by omega) g2
theorem Q3e {p:Array Nat} {i j:Nat} (z:j<=p.size) (h:∀ k,i<=k->k < j->rk r p k=rk r p (j - 1)) (k:Nat):rk r (kas_rev p i j) k=rk r p k:=by
 rw [Qbs z]
 by_cases q:i<=k/\k < j
 ·rw [bS q,h (i + j - 1 - k) (by omega) (by omega),h k q.1 q.2]
 ·rw [bT q]
structure Dsc (r:Nat->Nat) (p:Array Nat) (n q:Nat):Prop where
 n1:1<=n
 sz:n<=p.size
 qn:q + 1<=n
 de:∀ i,1<=i->i < n->rk r p i<=rk r p (i - 1)
 eq:∀ i,n - (q + 1)<=i->i < n->rk r p i=rk r p (n - 1)
theorem Q2b:∀ f (p:Array Nat) n q,Dsc r p n q->n + f<=p.size->Dsc r (evT (cR r) (kas_desc f p n q)).1 (evT (cR r) (kas_desc f p n q)).2.1 (evT (cR r) (kas_desc f p n q)).2.2/\(evT (cR r) (kas_desc f p n q)).1.Perm p/\n<=(evT (cR r) (kas_desc f p n q)).2.1/\(evT (cR r) (kas_desc f p n q)).2.1<=n + f
 | 0,p,n,q,h,_=>⟨h,dh _,O4 _,O4 _⟩
 | f + 1,p,n,q,h,hs=>by
  have e:evT (cR r) (kas_desc (f + 1) p n q)=if rk r p n < rk r p (n - 1) then (if q > 0 then evT (cR r) (kas_desc f (kas_rev p (n - (q + 1)) n) (n + 1) 0) else evT (cR r) (kas_desc f p (n + 1) 0)) else if rk r p (n - 1) < rk r p n then (p,n,q) else evT (cR r) (kas_desc f p (n + 1) (q + 1)):=by
   show evT (cR r) (if decide (rk r p n < rk r p (n - 1))=yo then (if q > 0 then kas_desc f (kas_rev p (n - (q + 1)) n) (n + 1) 0 else kas_desc f p (n + 1) 0) else KasT.ask (p.getD (n - 1) 0) (p.getD n 0) fun d=>if d=yo then .ret (p,n,q) else kas_desc f p (n + 1) (q + 1))=_
   by_cases z:rk r p n < rk r p (n - 1)
   ·rw [bS (by simpa using z),bS z]
    split <;> rfl
   ·rw [bT (by simpa using z),bT z];show evT (cR r) (if decide (rk r p (n - 1) < rk r p n)=yo then KasT.ret (p,n,q) else kas_desc f p (n + 1) (q + 1))=_
    by_cases J:rk r p (n - 1) < rk r p n
    ·rw [bS (by simpa using J),bS J]; rfl
    ·rw [bT (by simpa using J),bT J]
  rw [e]
  by_cases z:rk r p n < rk r p (n - 1)
  ·rw [bS z]
   by_cases U:q > 0
   ·rw [bS U];have O:=Q3e (r:=r) (p:=p) (i:=n - (q + 1)) (j:=n) h.sz h.eq;obtain ⟨h1,h2,Z,Y⟩:=Q2b f (kas_rev p (n - (q + 1)) n) (n + 1) 0 ⟨by omega,by rw [xk]; omega,by omega,fun i G g2=>by
     rw [O,O]
     by_cases y:i=n
     ·subst y; omega
     ·exact h.de i G (by omega),fun i G g2=>by
     have:i=n:=by omega
     subst this; rfl⟩ (by rw [xk]; omega)
    exact ⟨h1,h2.trans (Wu _ _),by omega,by omega⟩
   ·rw [bT U];obtain ⟨h1,h2,Z,Y⟩:=Q2b f p (n + 1) 0 ⟨by omega,by omega,by omega,fun i G g2=>by
     by_cases y:i=n
     ·subst y; omega
     ·exact h.de i G (by omega),fun i G g2=>by
     have:i=n:=by omega
     subst this; rfl⟩ (by omega)
    exact ⟨h1,h2,by omega,by omega⟩
  ·rw [bT z]
   by_cases J:rk r p (n - 1) < rk r p n
   ·rw [bS J];exact ⟨h,dh _,O4 _,by show n<=n + (f + 1); omega⟩
   ·rw [bT J];have hn:=h.n1;have a1:=h.qn;obtain ⟨h1,h2,Z,Y⟩:=Q2b f p (n + 1) (q + 1) ⟨by omega,by omega,by omega,fun i G g2=>by
     by_cases y:i=n
     ·subst y; omega
     ·exact h.de i G (by omega),fun i G g2=>by
     show rk r p i=rk r p n
     by_cases y:i=n
     ·rw [y]
     ·rw [h.eq i (by omega) (by omega)]; omega⟩ (by omega)
    exact ⟨h1,h2,by omega,by omega⟩
def Srt (r:Nat->Nat) (p:Array Nat) (m:Nat):Prop:=∀ i,1<=i->i < m->rk r p (i - 1)<=rk r p i
theorem Qd6 {p:Array Nat} {n nrem:Nat} (q:1<=n) (j:n<=nrem) (hs:nrem<=p.size) (hd:∀ i,1<=i->i < n->rk r p i<=rk r p (i - 1)) :
  1<=(evT (cR r) (kas_tail3 n nrem p)).1/\(evT (cR r) (kas_tail3 n nrem p)).1<=nrem/\Srt r (evT (cR r) (kas_tail3 n nrem p)).2 (evT (cR r) (kas_tail3 n nrem p)).1/\(evT (cR r) (kas_tail3 n nrem p)).2.Perm p:=by
 obtain ⟨h1,h2,G,_⟩:=Qcz (r:=r) (kas_rev p 0 n) (nrem - n) n q;unfold kas_tail3;rw [Kb];show 1<=evT (cR r) (kas_asc (kas_rev p 0 n) (nrem - n) n)/\_/\Srt r (kas_rev p 0 n) _/\(kas_rev p 0 n).Perm p;refine ⟨by omega,by show evT (cR r) (kas_asc (kas_rev p 0 n) (nrem - n) n)<=nrem; omega,fun i J g2=>?_,Wu _ _⟩
 by_cases z:i < n
 ·rw [Qbs (by omega),Qbs (by omega),bS (by omega),bS (by omega)];have:=hd (0 + n - 1 - (i - 1)) (by omega) (by omega);rw [show 0 + n - 1 - (i - 1) - 1=0 + n - 1 - i by omega] at this;exact this
 ·exact G i (by omega) g2
theorem Q1n {p:Array Nat} {n nrem:Nat} (hn:1<=n) (Y:n < nrem) (hs:nrem<=p.size) (G:∀ i,i < n->rk r p i=rk r p (n - 1)) (Z:rk r p n < rk r p (n - 1)) :
  1<=(evT (cR r) (kas_descPart n nrem p)).1/\(evT (cR r) (kas_descPart n nrem p)).1<=nrem/\Srt r (evT (cR r) (kas_descPart n nrem p)).2 (evT (cR r) (kas_descPart n nrem p)).1/\(evT (cR r) (kas_descPart n nrem p)).2.Perm p:=by
 obtain ⟨D,P,h3,h4⟩:=Q2b (r:=r) (nrem - (n + 1)) p (n + 1) 0 ⟨by omega,by omega,by omega,fun i O g2=>by
  by_cases y:i=n
  ·subst y; omega
  ·rw [G i (by omega),G (i - 1) (by omega)]; exact O4 _,fun i O g2=>by
  have:i=n:=by omega
  subst this; rfl⟩ (by omega)
 unfold kas_descPart;rw [Kb];generalize evT (cR r) (kas_desc (nrem - (n + 1)) p (n + 1) 0)=x at *;obtain ⟨J,m,q⟩:=x;have sz:J.size=p.size:=P.size_eq;simp only at D P h3 h4;dsimp only
 by_cases z:q > 0
 ·rw [bS z];have U:=Q3e (r:=r) (p:=J) (i:=m - (q + 1)) (j:=m) D.sz D.eq;obtain ⟨a,b,c,d⟩:=Qd6 (r:=r) (p:=kas_rev J (m - (q + 1)) m) (n:=m) (nrem:=nrem) D.n1 (by omega) (by rw [xk]; omega) (fun i O g2=>by rw [U,U]; exact D.de i O g2);exact ⟨a,b,c,(d.trans (Wu _ _)).trans P⟩
 ·rw [bT z];obtain ⟨a,b,c,d⟩:=Qd6 (r:=r) (p:=J) (n:=m) (nrem:=nrem) D.n1 (by omega) (by omega) D.de;exact ⟨a,b,c,d.trans P⟩
theorem Srt.le {p:Array Nat} {m:Nat} (h:Srt r p m):∀ {i j:Nat},i<=j->j < m->rk r p i<=rk r p j:=by
 intro i j q
 induction j with
 | zero => intro _; have : i = 0 := by omega
           subst this; exact O4 _
 | succ j J=>
  intro G
  by_cases z:i=j + 1
  ·subst z; exact O4 _
  ·have h1:=J (by omega) (by omega);have h2:=h (j + 1) (by omega) G;rw [fT] at h2;exact E3 h1 h2
theorem Qka {p:Array Nat} {n:Nat} (hn:1<=n) (hs:n<=p.size) :
  1<=(evT (cR r) (kas_count n p)).1/\(evT (cR r) (kas_count n p)).1<=n/\Srt r (evT (cR r) (kas_count n p)).2 (evT (cR r) (kas_count n p)).1/\(evT (cR r) (kas_count n p)).2.Perm p:=by
 obtain ⟨h1,h2,Z,Y⟩:=Qcz (r:=r) p (n - 1) 1 (O4 _);unfold kas_count;rw [Kb];generalize evT (cR r) (kas_asc p (n - 1) 1)=m at *;have S:Srt r p m:=fun i U g2=>Z i U g2
 by_cases z:m=n
 ·subst z;rw [bS (by simp)];exact ⟨h1,O4 _,S,dh _⟩
 ·rw [bT (by simpa using z)];have q:=Y (by omega)
  by_cases J:m > 1
  ·rw [bS J];show 1<=(evT (cR r) (if decide (rk r p 0 < rk r p (m - 1))=yo then KasT.ret (m,p) else kas_descPart m n (kas_rev p 0 m))).1/\(evT (cR r) (if decide (rk r p 0 < rk r p (m - 1))=yo then KasT.ret (m,p) else kas_descPart m n (kas_rev p 0 m))).1<=n/\Srt r (evT (cR r) (if decide (rk r p 0 < rk r p (m - 1))=yo then KasT.ret (m,p) else kas_descPart m n (kas_rev p 0 m))).2 (evT (cR r) (if decide (rk r p 0 < rk r p (m - 1))=yo then KasT.ret (m,p) else kas_descPart m n (kas_rev p 0 m))).1/\(evT (cR r) (if decide (rk r p 0 < rk r p (m - 1))=yo then KasT.ret (m,p) else kas_descPart m n (kas_rev p 0 m))).2.Perm p
   by_cases O:rk r p 0 < rk r p (m - 1)
   ·rw [bS (by simpa using O)];exact ⟨h1,by show m<=n; omega,S,dh _⟩
   ·rw [bT (by simpa using O)];have eq:∀ i,i < m->rk r p i=rk r p (m - 1):=fun i hi=>by
     have a:=S.le (i:=0) (j:=i) (by omega) hi;have b:=S.le (i:=i) (j:=m - 1) (by omega) (by omega);omega
    have G:=Q3e (r:=r) (p:=p) (i:=0) (j:=m) (by omega) (fun k _ hk=>eq k hk);obtain ⟨a,b,c,d⟩:=Q1n (r:=r) (p:=kas_rev p 0 m) (n:=m) (nrem:=n) h1 (by omega) (by rw [xk]; exact hs) (fun i hi=>by rw [G,G]; exact eq i hi) (by rw [G,G]; exact q);exact ⟨a,b,c,d.trans (Wu _ _)⟩
  ·rw [bT J];have:m=1:=by omega
   subst this;exact Q1n (r:=r) (O4 _) (by omega) hs (fun i hi=>by rw [show i=0 by omega]) q
theorem Q3k {p:Array Nat} {k:Nat} (S:Srt r p k):∀ f l q,l<=q->q<=k->q - l<=f->(∀ i,i < l->rk r p i<=rk r p k)->(∀ i,q<=i->i < k->rk r p k < rk r p i) ->
  evT (cR r) (kas_place p k f l q)<=k/\(∀ i,i < evT (cR r) (kas_place p k f l q)->rk r p i<=rk r p k)/\(∀ i,evT (cR r) (kas_place p k f l q)<=i->i < k->rk r p k < rk r p i)
 | 0,l,q,h1,h2,U,J,G=>by
  have:l=q:=by omega
  subst this;exact ⟨h2,J,G⟩
 | f + 1,l,q,h1,h2,U,J,G=>by
  by_cases z:l>=q
  ·have:l=q:=by omega
   subst this;have e:evT (cR r) (kas_place p k (f + 1) l l)=l:=by rw [kas_place,bS (O4 _)]; rfl
   rw [e];exact ⟨h2,J,G⟩
  ·have e:evT (cR r) (kas_place p k (f + 1) l q)=if rk r p k < rk r p ((l + q) / 2) then evT (cR r) (kas_place p k f l ((l + q) / 2)) else evT (cR r) (kas_place p k f ((l + q) / 2 + 1) q):=by
    rw [kas_place,bT z];show evT (cR r) (if decide (rk r p k < rk r p ((l + q) / 2))=yo then kas_place p k f l ((l + q) / 2) else kas_place p k f ((l + q) / 2 + 1) q)=_
    by_cases y:rk r p k < rk r p ((l + q) / 2)
    ·rw [bS (by simpa using y),bS y]
    ·rw [bT (by simpa using y),bT y]
   rw [e];have m1:l<=(l + q) / 2:=by omega
   have m2:(l + q) / 2 < q:=by omega
   generalize (l + q) / 2=j at *
   by_cases y:rk r p k < rk r p j
   ·rw [bS y];exact Q3k S f l j m1 (by omega) (by omega) J fun i O g2=>D0 y (S.le O g2)
   ·rw [bT y];exact Q3k S f (j + 1) q (by omega) h2 (by omega) (fun i g=>E3 (S.le (show i<=j by omega) (by omega)) (by omega)) G
theorem Qkg:∀ f (p:Array Nat) k,1<=k->k + f<=p.size->Srt r p k->Srt r (evT (cR r) (kas_bin f p k)) (k + f)/\(evT (cR r) (kas_bin f p k)).Perm p
 | 0,p,k,_,_,S=>⟨S,dh _⟩
 | f + 1,p,k,G,hs,S=>by
  obtain ⟨h1,h2,z⟩:=Q3k S k 0 k (G9 _) (O4 _) (by omega) (fun i g=>by omega) (fun i j g2=>by omega);have e:evT (cR r) (kas_bin (f + 1) p k)=evT (cR r) (kas_bin f (bubble p k (k - evT (cR r) (kas_place p k k 0 k))) (k + 1)):=by rw [kas_bin,Kb]
  rw [e];generalize evT (cR r) (kas_place p k k 0 k)=l at *;have q:Srt r (bubble p k (k - l)) (k + 1):=fun i j g2=>by
   rw [Qhf (by omega) (by omega),Qhf (by omega) (by omega),show k - (k - l)=l by omega]
   by_cases a:i=l
   ·subst a;rw [bT (by omega),bT (by omega),bS rfl];exact h2 (i - 1) (by omega)
   ·by_cases b:i - 1=l
    ·rw [bS b,bT a,bS (by omega),b];exact dF (z l (O4 _) (by omega))
    ·rw [bT b,bT a]
     by_cases c:l < i
     ·rw [bS (by omega),bS (by omega)];exact S (i - 1) (by omega) (by omega)
     ·rw [bT (by omega),bT (by omega)];exact S i j (by omega)
  obtain ⟨a,b⟩:=Qkg f (bubble p k (k - l)) (k + 1) (by omega) (by rw [bubble_size]; omega) q;exact ⟨by rw [show k + (f + 1)=k + 1 + f by omega]; exact a,b.trans (bubble_perm _ _ _)⟩
theorem Qkz {n:Nat} (G:1<=n):Srt r (evT (cR r) (kas_sort n)) n/\(evT (cR r) (kas_sort n)).Perm (cJ (bY n)):=by
 obtain ⟨h1,h2,q,j⟩:=Qka (r:=r) (p:=cJ (bY n)) (n:=n) G (by simp);unfold kas_sort;rw [Kb];generalize evT (cR r) (kas_count n (cJ (bY n)))=x at *;obtain ⟨m,p⟩:=x;have sz:p.size=n:=by have:=j.size_eq; simpa using this
 simp only at h1 h2 q j;dsimp only
 by_cases z:m < n
 ·rw [bS z,show max m 1=m by omega];obtain ⟨a,b⟩:=Qkg (r:=r) (n - m) p m h1 (by omega) q;rw [show m + (n - m)=n by omega] at a;exact ⟨a,b.trans j⟩
 ·rw [bT z];have:m=n:=by omega
  subst this;exact ⟨q,j⟩
end
def Asks {α:Type} (n:Nat):KasT α->(α->Prop)->Prop
 | .ret a,P=>P a
 | .ask i j k,P=>i < n/\j < n/\∀ b,Asks n (k b) P
theorem Asks.bind {α β:Type} {n:Nat} {P:α->Prop} {Q:β->Prop} {f:α->KasT β} (q:∀ a,P a->Asks n (f a) Q):∀ {t:KasT α},Asks n t P->Asks n (t.bind f) Q
 | .ret a,h=>q a h
 | .ask i j k,h=>⟨h.1,h.2.1,fun b=>Asks.bind q (h.2.2 b)⟩
def AL (n:Nat) (p:Array Nat):Prop:=0 < n/\∀ x∈p.toList,x < n
theorem AL.get {n:Nat} {p:Array Nat} (h:AL n p) (i:Nat):p.getD i 0 < n:=by
 rw [dJ]
 by_cases z:i < p.size
 ·rw [bq z];exact h.2 _ (by simp)
 ·rw [cp (by omega)]; exact h.1
theorem AL.perm {n:Nat} {p q:Array Nat} (h:AL n p) (e:q.Perm p):AL n q:=⟨h.1,fun x j=>h.2 x ((gi.mp e).mem_iff.mp j)⟩
theorem V7 {α:Type} {n:Nat} {P:α->Prop} {c:Prop} [Decidable c] {t u:KasT α} (h1:Asks n t P) (h2:Asks n u P):Asks n (if c then t else u) P:=by
 split
 ·exact h1
 ·exact h2
theorem Q56 {n:Nat} {p:Array Nat} (h:AL n p):∀ f m,Asks n (kas_asc p f m) (fun _=>True)
 | 0,m=>trivial
 | f + 1,m=>⟨h.get _,h.get _,fun b=>V7 trivial (Q56 h f (m + 1))⟩
theorem za {n:Nat}:∀ f (p:Array Nat) m q,AL n p->Asks n (kas_desc f p m q) (fun x=>AL n x.1)
 | 0,p,m,q,h=>h
 | f + 1,p,m,q,h=>⟨h.get _,h.get _,fun b=>V7 (V7 (za f _ _ _ (h.perm (Wu _ _))) (za f _ _ _ h)) ⟨h.get _,h.get _,fun d=>V7 h (za f _ _ _ h)⟩⟩
theorem Q6v {n:Nat} {p:Array Nat} (h:AL n p) (m k:Nat):Asks n (kas_tail3 m k p) (fun x=>AL n x.2):=by
 unfold kas_tail3;refine Asks.bind (P:=fun _=>True) (fun a _=>?_) (Q56 (h.perm (Wu _ _)) _ _);exact h.perm (Wu _ _)
theorem zw {n:Nat} {p:Array Nat} (h:AL n p) (m k:Nat):Asks n (kas_descPart m k p) (fun x=>AL n x.2):=
 Asks.bind (fun x j=>V7 (Q6v (AL.perm j (Wu _ _)) _ _) (Q6v j _ _)) (za _ _ _ _ h)
theorem Qcy {n:Nat} {p:Array Nat} (h:AL n p) (k:Nat):Asks n (kas_count k p) (fun x=>AL n x.2):=by
 unfold kas_count;refine Asks.bind (P:=fun _=>True) (fun m _=>?_) (Q56 h _ _);refine V7 (show AL n p from h) (V7 ?_ (zw h _ _));exact ⟨h.get _,h.get _,fun c=>V7 (show AL n p from h) (zw (h.perm (Wu _ _)) _ _)⟩
theorem yt {n:Nat} {p:Array Nat} (h:AL n p) (k:Nat):∀ f l q,Asks n (kas_place p k f l q) (fun _=>True)
 | 0,_,_=>trivial
 | f + 1,l,q=>by
  rw [kas_place];exact V7 trivial ⟨h.get _,h.get _,fun c=>V7 (yt h k f _ _) (yt h k f _ _)⟩
theorem Qb2 {n:Nat}:∀ f (p:Array Nat) k,AL n p->Asks n (kas_bin f p k) (fun _=>True)
 | 0,_,_,_=>trivial
 | f + 1,p,k,h=>by
  rw [kas_bin];exact Asks.bind (fun l _=>Qb2 f _ _ (h.perm (bubble_perm _ _ _))) (yt h k _ _ _)
theorem Qgt {n:Nat} (q:1<=n):Asks n (kas_sort n) (fun _=>True):=by
 have h:AL n (cJ (bY n)):=⟨q,fun x j=>by simpa using j⟩;unfold kas_sort;refine Asks.bind (P:=fun x=>AL n x.2) (fun x j=>?_) (Qcy h n);exact V7 (Qb2 _ _ _ j) (show True from trivial)
theorem Qan {α:Type} {z:Nat->Nat->(Bool->aC->Prop)->aC->Prop} {c:Nat->Nat->Bool} {n:Nat} {s:aC} (h:∀ i j (C:Bool->aC->Prop),i < n->j < n->C (c i j) s->z i j C s) :
  ∀ (t:KasT α) (P:α->Prop) (Q:α->aC->Prop),Asks n t P->Q (evT c t) s->t.kasWp z Q s
 | .ret a,_,_,_,q=>q
 | .ask i j k,P,Q,a,q=>h i j _ a.1 a.2.1 (Qan h (k (c i j)) P Q (a.2.2 _) q)
end L2
namespace L2
open PySem PySem.Spec PyProof.Rows PySem.W
section
variable {prog:aK} {w:aJ} {A:aM} {E:aA->aC->Prop} {s:aC}
theorem zr {α:Type} {p q:α->Bool}:∀ {l:List α},(∀ x∈l,p x=yo->q x=yo)->(∃ x∈l,p x=yl/\q x=yo)->(l.filter p).length < (l.filter q).length
 | [],_,h=>by obtain ⟨_,h,_⟩:=h; cases h
 | x :: l,h,J=>by
  have O:(l.filter p).length<=(l.filter q).length:=by
   clear J
   induction l with
   | nil=>exact O4 _
   | cons y l j=>
    have j:=j fun z hz=>h z (by rcases D5.mp hz with rfl | hz <;> simp [*])
    have G:=h y (by simp);rw [eM,eM]
    by_cases a:p y=yo
    ·rw [bS a,bS (G a)]; simp; exact j
    ·rw [bT a]
     split
     ·simp; omega
     ·exact j
  rw [eM,eM];obtain ⟨y,G,h1,h2⟩:=J;rcases D5.mp G with rfl | G
  ·rw [h1,h2]; simp; omega
  ·have j:=zr (fun z hz=>h z (O5 _ hz)) ⟨y,G,h1,h2⟩
   by_cases a:p x=yo
   ·rw [bS a,bS (h x (by simp) a)]; simp; exact j
   ·rw [bT a]
    split
    ·simp; omega
    ·exact j
end
end L2
namespace L2
open PySem PySem.Spec PyProof.Rows
end L2
namespace L2
open PySem PySem.Spec PyProof.Rows PySem.W
section
variable {prog:aK} {w:aJ} {A:aM} {E:aA->aC->Prop} {s:aC}
end
end L2
namespace L2
open PySem PySem.Spec PyProof.Rows
section
variable {X:Cx}
end
def RawD (h:Heap) (a:aB) (es:Array DictEntry) (ep:Nat):Prop:=∃ o,h.get? a=zo o/\o.ExactDict/\o.data=.dict es ep
section
variable {prog:aK} {w:aJ} {A:aM} {E:aA->aC->Prop} {s:aC}
theorem RawD.typeIs {a:aB} {es:Array DictEntry} {ep:Nat} (h:RawD s.heap a es ep):s.TypeIs (.ref a) "dict" := let ⟨o,e,x,_⟩:=h; ⟨o,e,x.1⟩
theorem RawD.obj {h:Heap} {a:aB} {es:Array DictEntry} {ep:Nat} (x:RawD h a es ep):h.get? a=zo { cls:=.type "dict",dict:=zb,data:=.dict es ep,slots:=#[] }:=by
 obtain ⟨⟨c,j,q,z⟩,ho,⟨h1,h2,h3⟩,h4⟩:=x;simp only at h1 h2 h3 h4;subst h1 h2 h3 h4;exact ho
theorem Qhm {d:aB} {es:Array DictEntry} {ep:Nat} {Q:aA->aC->Prop} (hd:(d == aq)=yl) (hm:RawD s.heap d es ep)
  (q:Q (.ref s.heap.objs.size) { s with heap:=s.heap.push { cls:=.type "dict_keyiterator",data:=.fields #[.ref d,.int 0 0,.int es.size 0,.int ep 0] } }) :
  aF (aI prog w) A (pyIter (.ref d)) Q E s:=by
 have j:=hm.typeIs;have z:=hm.obj;obtain ⟨hp,g,dr,tk,os⟩:=s;refine wpAny_pyIter_slot j gj (ah gj j PySem.F.entry_dict_iter ?_ (PySem.F.args_dict_iter_1 _));unfold Builtin.«dict.__iter__» Builtin.Dict.dictSlotNone
 repeat (any_goals (first | assumption | wp_step))
 refine ⟨_,rfl, "dict_keyiterator",_,⟨_,D1 _ rfl,rfl⟩,PySem.F.slot_dict_keyiterator_next.lookup,q⟩
theorem Q4n:Builtin.Dict_items.ownsTuple ((Manifest.find? "dict_keyiterator").elim "dict_keyiterator" fun x=>x.tpName)=yl:=by decide +kernel
theorem Qhn {it d:aB} {i ep:Nat} {es:Array DictEntry} {e:DictEntry} {Q:Option aA->aC->Prop} (j:s.heap.IsKeyIter it d i es.size ep) (hm:RawD s.heap d es ep) (O:es[i]?=zo e)
  (z:∀ h',h'.IsKeyIter it d (i + 1) es.size ep->Heap.SameBut it s.heap h'->Q (zo e.key) { s with heap:=h' }) :
  aF (aI prog w) A (af (.ref it)) Q E s:=by
 have q:=j.typeIs;have Y:=hm.obj;obtain ⟨⟨c,G,J,U⟩,hoi,hci,hdi⟩:=j;simp only at hci hdi;subst hci hdi;obtain ⟨hp,g,dr,tk,os⟩:=s;unfold af;refine aD (wpAny_attempt (wpAny_callSpecial?_slot (name:=cb "__next__") q eN (ah eN q gk ?_ (gm _))))
 repeat (any_goals (first | assumption | wp_step))
 simp only [Q4n,E4,if_false];simp only [show ¬ ((i:Int) < 0) by omega,if_false,bt,O]
 repeat (any_goals (first | assumption | wp_step))
 simp only [Q4n,E4,if_false];rw [bT (show ¬ ((_:Bool)=yo) by decide +kernel)];refine ⟨_,rfl,wpAny_pure (z _ ⟨_,F6 _ hoi rfl,rfl,?_⟩ (Heap.SameBut.update ..))⟩;simp [cI,aR]
theorem Qmh {it d:aB} {i ep:Nat} {es:Array DictEntry} {Q:Option aA->aC->Prop} (J:A.handled=zb) (j:s.heap.IsKeyIter it d i es.size ep) (hm:RawD s.heap d es ep) (Y:es[i]?=zb)
  (G:∀ h',Heap.ExtBut it s.heap h'->Q zb { s with heap:=h' }) :
  aF (aI prog w) A (af (.ref it)) Q E s:=by
 have z:=j.typeIs;have ho:=hm.obj;obtain ⟨⟨c,O,U,Z⟩,hoi,hci,hdi⟩:=j;simp only at hci hdi;subst hci hdi;obtain ⟨hp,g,dr,tk,os⟩:=s;unfold af;refine aD (wpAny_attempt (wpAny_callSpecial?_slot (name:=cb "__next__") z eN (ah eN z gk ?_ (gm _))))
 repeat (any_goals (first | assumption | wp_step))
 simp only [Q4n,E4,if_false];simp only [show ¬ ((i:Int) < 0) by omega,if_false,bt,Y];have q:=isSubtype_stop
 repeat (any_goals (first | assumption | wp_step))
 unfold bP;refine aD (wpAny_handled ?_);rw [show A.in1.handled=zb from J];refine aD (wpAny_pure (wpAny_throw ?_));refine aD (bM (T := "StopIteration") (b:=yo) ⟨_,D1 _ rfl,rfl⟩ isSubtype_stop ?_);exact wpAny_pure (G _ (((Heap.SameBut.update ..).extBut.push _).push _))
theorem RawD.at {h h':Heap} {a:aB} {es:Array DictEntry} {ep:Nat} (x:RawD h a es ep) (k:∀ o,h.get? a=zo o->h'.get? a=zo o):RawD h' a es ep:=let ⟨o,e,r⟩:=x; ⟨o,k o e,r⟩
theorem RawD.lt {h:Heap} {a:aB} {es:Array DictEntry} {ep:Nat} (x:RawD h a es ep):a < h.objs.size:=let ⟨_,e,_⟩:=x; O9 e
theorem Qes (Y:A.handled=zb) (I d:aB) (J:d≠I) (es:Array DictEntry) (ep:Nat) :
  Walks prog w A I [I,d] [I] es.size (fun i v=>∃ e,es[i]?=zo e/\v=e.key) (fun i h=>h.IsKeyIter I d i es.size ep/\RawD h d es ep) where
 sub:=fun b j=>by simp at j; simp [j]
 frame:=fun _ _ _ st U=>⟨st.1.at fun o e=>U I (by simp) o e,st.2.at fun o e=>U d (by simp) o e⟩
 item:=fun i s Q E hi st q=>by
  refine Qhn st.1 st.2 (bq hi) fun h' z G=>?_
  exact q _ h' s.toks ⟨_,bq hi,rfl⟩ ⟨z,st.2.at fun o e=>(G.2 d J).trans e⟩ fun b o j e=>G.extBut b o (fun h=>j (by simp [h])) e
 done:=fun s Q E st q=>Qmh Y st.1 st.2 (by simp) fun h' O=>q h' s.toks fun b o j e=>O b o (fun h=>j (by simp [h])) e
 self:=fun _ _ _ _ st q=>wpAny_pyIter_keyiter st.1 q
theorem Qdc {d:aB} {es:Array DictEntry} {ep:Nat} (lo:(d == aq)=yl):PySem.W.KdlSrc prog w "dict" d d es.size (fun i v=>∃ e,es[i]?=zo e/\v=e.key) (fun h=>RawD h d es ep) where
 type:=fun _ hm=>hm.typeIs
 there:=fun _ hm=>⟨hm.lt,hm.lt⟩
 keep:=fun _ _ hm z=>hm.at fun o e=>z d (.inl rfl) o e
 notList:=by decide
 notTuple:=by decide
 hint:=fun _ _ _ _ hm j=>PySem.W.kdl_hint_dict hm.typeIs j
 iter:=fun _ _ q hm=>⟨_,_,(fun _ _ j=>Qhm lo hm j),Qes q _ d (D8 hm.lt) es ep,⟨⟨_,D1 _ rfl,rfl,rfl⟩,hm.at fun o e=>O2 _ e⟩⟩
theorem Qax {d:aB} {es:Array DictEntry} {ep:Nat} {Q:List aA->aC->Prop} (lo:(d == aq)=yl) (U:A.handled=zb) (hm:RawD s.heap d es ep) (Y:es.size<=sizeLine)
  (h:∀ h' tk,(∀ b o,s.heap.get? b=zo o->h'.get? b=zo o)->s.heap.objs.size<=h'.objs.size->Q (es.toList.map (·.key)) { s with heap:=h',toks:=tk }):aF (aI prog w) A (collect (.ref d)) Q E s:=by
 unfold collect;refine aD (wpAny_runValue (ay gn ?_));rw [Around.under_plainId gq _];show aF _ A.in1 (newList [] >>= fun l=>again (.builtin "list.__iadd__" ⟨[l,.ref d],[]⟩)) _ _ s
 refine aD (ao ?_);refine wpAny_pure ⟨bD eO _,ay gr ?_⟩;rw [Around.under_plainId eO _];have Z:(s.heap.push { cls:=.type "list",data:=.seq ([]:List aA).toArray }).get? s.heap.objs.size=zo { cls:=.type "list",data:=.seq ([]:List aA).toArray }:=D1 _ rfl;have G:∀ b o,s.heap.get? b=zo o->(s.heap.push { cls:=.type "list",data:=.seq ([]:List aA).toArray }).get? b=zo o:=fun b o e=>O2 _ e
 have J:s.heap.objs.size≠d:=cG hm.lt;show aF _ A.in1 (Builtin.List.listExtendWith (.ref s.heap.objs.size) (.ref d) (.ref s.heap.objs.size)) _ _ _;refine PySem.W.kdl_extend (prog:=prog) (w:=w) (A:=A) (R:=fun r s'=>match r with | .ok (.ret v)=>aF (aI prog w) A (match v with | .ref a=>do { let o <- load a; match o.data with | .seq xs _=>pure xs.toList | _=>unsupported "internal:collect" } | _=>unsupported "internal:collect") Q E s' | .ok _=>False | .error e=>E e s') (s:={ s with heap:=s.heap.push { cls:=.type "list",data:=.seq ([]:List aA).toArray } }) (Qdc (es:=es) (ep:=ep) lo) U (hm.at fun o e=>G d o e) s.heap.objs.size J J _ _ Z (fun h' tk acc c hk O j=>?_) Y
 show aF _ A (load s.heap.objs.size >>= _) _ _ _;refine aD (wpAny_load O ?_);have e:acc.toList=es.toList.map (·.key):=by
  apply dB;intro i
  by_cases z:i < es.size
  ·have hi:i < acc.size:=by rw [j.1]; exact z
   obtain ⟨e,h1,h2⟩:=j.2 i acc[i] (bq hi);rw [bp,bq hi,h2,D2,bp,h1]; rfl
  ·rw [bp,cp (by rw [j.1]; omega),D2,bp,cp (by omega)]; rfl
 show aF _ _ (pure acc.toList) _ _ _;rw [e];exact wpAny_pure (h h' tk (fun b o q=>hk b o (D8 (O9 q)) (G b o q)) (dF (O9 O)))
end
end L2
namespace L2
open PySem PySem.Spec PyProof.Rows PySem.W
section
variable {prog:aK} {w:aJ} {A:aM} {E:aA->aC->Prop} {s:aC}
end
theorem Qk2 {P:aK} {w:aJ} {H:Hp} {h:Heap} {a:aB} {kvs:List (HK × V)} (ok:HOk P w H h) (e:H a=zo (.dT kvs)):kvs.length<=sizeLine/\(a == aq)=yl/\∃ es ep G,RawD h a es ep/\es.toList.map (·.key)=G.map ba/\aS (fun (p:HK × V) (b:aB)=>KR H p.1 b) kvs G:=by
 obtain ⟨z,hs,xs,j,o,es,ep,Y,hx,hd,J,O⟩:=ok a _ e;refine ⟨z,hs,es,ep,xs.map (fun q=>q.2.1),⟨o,Y,hx,hd⟩,?_,?_⟩
 ·rw [J,cF,cF];exact fN fun q _=>rfl
 ·clear J O z e
  induction j with
  | nil=>exact .nil
  | cons Z _ U=>exact .cons Z.2.1 U
section
variable {X:Cx}
end
end L2
namespace L2
open PySem PySem.Spec PyProof.Rows
def Rise (xs:Array Nat):Prop:=xs.toList.Pairwise (· < ·)
theorem Rise.lt {xs:Array Nat} (r:Rise xs) {i j a b:Nat} (hi:xs[i]?=zo a) (J:xs[j]?=zo b) (h:i < j):a < b:=by
 have q:=eP.mp r;obtain ⟨z,O⟩:=bx.mp hi;obtain ⟨G,U⟩:=bx.mp J;have:=q i j (by simpa using z) (by simpa using G) h;simp only [Array.getElem_toList] at this;rw [<- O,<- U]; exact this
theorem Qkh {xs:Array Nat} {j:Nat} (r:Rise xs):∀ G lo hi,hi - lo<=G->lo<=hi->hi<=xs.size->(∀ i v,xs[i]?=zo v->i < lo->v < j)->(∀ i v,xs[i]?=zo v->hi<=i->j<=v) ->
  SetTable.below.go xs j G lo hi<=xs.size/\∀ i v,xs[i]?=zo v->(i < SetTable.below.go xs j G lo hi <-> v < j):=by
 intro G
 induction G with
 | zero=>
  intro lo hi h1 h2 Z a b;have e:lo=hi:=by omega
  rw [SetTable.below.go];refine ⟨by omega,fun i v J=>⟨a i v J,fun h=>?_⟩⟩
  by_cases z:i < lo
  ·exact z
  ·have:=b i v J (by omega); omega
 | succ G Y=>
  intro lo hi h1 h2 Z a b;rw [SetTable.below.go]
  by_cases z:lo < hi
  ·rw [bS z];dsimp only;have hm:(lo + hi) / 2 < xs.size:=by omega
   have O:xs[(lo + hi) / 2]?=zo xs[(lo + hi) / 2]:=bq hm;have ed:xs.getD ((lo + hi) / 2) j=xs[(lo + hi) / 2]:=by simp [dL,hm]
   rw [ed]
   by_cases y:xs[(lo + hi) / 2] < j
   ·rw [bS y];refine Y _ _ (by omega) (by omega) Z (fun i v J U=>?_) b
    by_cases q:i=(lo + hi) / 2
    ·subst q; rw [O] at J; cases J; exact y
    ·have:=r.lt J O (by omega); omega
   ·rw [bT y];refine Y _ _ (by omega) (by omega) (by omega) a fun i v J U=>?_
    by_cases q:i=(lo + hi) / 2
    ·subst q; rw [O] at J; cases J; omega
    ·have:=r.lt O J (by omega); omega
  ·rw [bT z];refine ⟨by omega,fun i v J=>⟨a i v J,fun h=>?_⟩⟩
   by_cases q:i < lo
   ·exact q
   ·have:=b i v J (by omega); omega
theorem jn {xs:Array Nat} {j:Nat} (r:Rise xs):SetTable.below xs j<=xs.size/\∀ i v,xs[i]?=zo v->(i < SetTable.below xs j <-> v < j):=
 Qkh r _ _ _ (by omega) (G9 _) (O4 _) (fun i v _ h=>absurd h (gu _)) fun i v q h=>by
  have:=(bx.mp q).1; omega
def Good (L:Bool) (t:aW):Prop:=Rise t.place/\t.dummies=#[]/\t.led=L
theorem Q9q {xs:Array Nat} {j:Nat} (r:Rise xs) (h:j∉xs.toList):Rise (SetTable.insertAt xs (SetTable.below xs j) j):=by
 obtain ⟨_,b⟩:=jn (j:=j) r;unfold Rise;rw [SetTable.toList_insertAt];have lo:∀ v∈xs.toList.take (SetTable.below xs j),v < j:=fun v G=>by
  obtain ⟨i,hi,e⟩:=F8 G;rw [cY] at hi;refine (b i v ?_).mp (by omega);rw [<- bp,<- e,List.getElem_take,O0]
 have hi:∀ v∈xs.toList.drop (SetTable.below xs j),j < v:=fun v G=>by
  obtain ⟨i,hi,e⟩:=F8 G;rw [cy] at hi;have O:xs[SetTable.below xs j + i]?=zo v:=by
   rw [<- bp,<- e,List.getElem_drop,O0]
  have q:¬ v < j:=fun z=>by have:=(b _ v O).mpr z; omega
  have ne:v≠j:=fun z=>h (by rw [<- z]; exact gv G)
  omega
 refine List.pairwise_append.mpr ⟨fU.sublist (gD _ _) r,cr.mpr ⟨hi,fU.sublist (List.drop_sublist _ _) r⟩,fun x U y J=>?_⟩
 rcases D5.mp J with rfl | J
 ·exact lo x U
 ·exact gZ (lo x U) (hi y J)
theorem Good.put {L:Bool} {t:aW} (g:Good L t) {j:Nat} (h:j∉t.place.toList):Good L (t.put j).1:=by
 unfold SetTable.put;refine ⟨Q9q g.1 h,?_,g.2.2⟩;show (if SetTable.has t.dummies j=yo then _ else t.dummies)=#[];have:SetTable.has t.dummies j=yl:=by unfold SetTable.has; rw [g.2.1]; simp
 rw [this,bT (by simp)];exact g.2.1
theorem Good.relaid {L:Bool} {t t':aW} (g:Good L t) {hs:Array Int} {n:Nat} {o:Array Nat} (e:t.relaid hs n=zo (t',o)):Good L t':=by
 unfold SetTable.relaid SetTable.laid at e;cases z:SetTable.layClean (SetTable.sizeAbove n - 1) hs with
 | none=>rw [z] at e; cases e
 | some O=>
  rw [z] at e;cases e;refine ⟨?_,rfl,g.2.2⟩;show fU (· < ·) (bZ _ _);rw [fV];have J:∀ l:List Nat,l.Pairwise (· < ·)->(l.filterMap fun j=>(O.getD j zb).map (j,·)).Pairwise fun a b=>a.1 < b.1:=by
   intro l
   induction l with
   | nil=>intro _; exact .nil
   | cons x l U=>
    intro h;obtain ⟨h1,h2⟩:=cr.mp h;rw [cf];cases O.getD x zb with
    | none=>exact U h2
    | some k=>
     refine cr.mpr ⟨fun b Y=>?_,U h2⟩;obtain ⟨y,Z,G⟩:=dU.mp Y;cases q:O.getD y zb with
     | none=>rw [q] at G; cases G
     | some k'=>rw [q] at G; cases G; exact h1 y Z
  exact J _ List.pairwise_lt_range
theorem yq {α:Type}:∀ {l:List α} {i:Nat} (h:i < l.length),([l[i]] ++ l.eraseIdx i).Perm l
 | [],_,h=>absurd h (gu _)
 | a :: l,0,_=>cS _
 | a :: l,i + 1,h=>by
  have:=yq (l:=l) (i:=i) (by simpa using h);rw [List.eraseIdx_cons_succ,List.getElem_cons_succ];exact (eQ a _ _).trans (this.cons a)
theorem Qmw {α:Type} (next:Nat->Nat):∀ j k (left:List α) q,left.length=j->(pickOrder.go next j k left q).toList.Perm (q.toList ++ left):=by
 intro j
 induction j with
 | zero=>intro k left q h; rw [gw.mp h,pickOrder.go,cO]
 | succ j G=>
  intro k left q h;rw [pickOrder.go];have z:next k % left.length < left.length:=eR _ (by omega);rw [O0 z];refine (G (k + 1) _ _ (by rw [gy z]; omega)).trans ?_;rw [Array.toList_push,da];refine ik _ ?_;exact yq z
theorem Qfg {α:Type} (next:Nat->Nat) (xs:Array α):(pickOrder next xs).toList.Perm xs.toList:=by
 have:=Qmw next xs.size 0 xs.toList #[] (by simp);simpa [pickOrder] using this
theorem Q9y {α β:Type} {F:α->β->Prop} {l G:List α} (p:G.Perm l):∀ {ks:List β},aS F l ks->∃ j,aS F G j/\j.Perm ks:=by
 induction p with
 | nil=>intro ks h; exact ⟨ks,h,cS _⟩
 | cons x _ J=>
  intro ks h;cases h with
  | cons r t=>
   obtain ⟨j,h1,h2⟩:=J t;exact ⟨_,.cons r h1,h2.cons _⟩
 | swap x y l=>
  intro ks h;cases h with
  | cons r t=>
   cases t with
   | cons U t'=>exact ⟨_,.cons U (.cons r t'),eQ _ _ _⟩
 | trans _ _ z q=>
  intro ks h;obtain ⟨k1,h1,O⟩:=q h;obtain ⟨k2,h2,p2⟩:=z h1;exact ⟨k2,h2,p2.trans O⟩
theorem ja {α β:Type} {F:α->β->Prop} {a:α}:∀ {l:List α} {ks:List β},aS F l ks->a∈l->∃ b∈ks,F a b
 | _,_,.nil,h=>by cases h
 | _,_,.cons (b:=b) r t,h=>by
  rcases D5.mp h with rfl | h
  ·exact ⟨b,by simp,r⟩
  ·obtain ⟨x,j,q⟩:=ja t h;exact ⟨x,O5 _ j,q⟩
section
variable {prog:aK} {w:aJ} {K:Type} [DecidableEq K]
variable {knd:KeyKind prog w K} {L:Bool} {A:aM} {E:aA->aC->Prop} {s:aC} {a:aB}
def Zf (ks:List K) (k:K):List K:=if k∈ks then ks else ks ++ [k]
end
theorem Q20:entryFor table "set.__iter__" = zo Builtin.«frozenset.__iter__»:=entryFor_alias (id' := "frozenset.__iter__") (by kernel_rfl) rfl (by decide +kernel) (by kernel_rfl)
theorem slot_setit_next:Slot "set_iterator" "__next__" "set_iterator.__next__" :=
 .of (owner := "set_iterator") (n := "__next__") (by rw [typeLookup_type,builtinLookup_eq_fast]; kernel_rfl) (by decide +kernel) (by decide +kernel) (by decide +kernel) (by first | exact .inl (by decide +kernel) | exact .inr (by decide +kernel)) (by rw [bO]; kernel_rfl)
theorem Kc:entryFor table "set_iterator.__next__" = zo Builtin.«set_iterator.__next__»:=entryFor_of_tree (by kernel_rfl)
theorem Q1c:Manifest.owners.lookup (String.ofList ['r','o','t','a','r','e','t','i','_','t','e','s'].reverse)=zo Manifest.sig_set_iterator:=by kernel_rfl
theorem qm (a:aA):argsOk "set_iterator.__next__" ⟨[a],[]⟩:=by
 unfold argsOk; rw [signature?_of (id := "set_iterator.__next__") (n:=['_','_','t','x','e','n','_','_']) (o:=['r','o','t','a','r','e','t','i','_','t','e','s']) (by kernel_rfl) Q1c]; kernel_rfl
def SetIt (h:Heap) (it:aB) (f:aA) (i:Nat) (d:aB) (n ep:Nat):Prop:=
 h.get? it=zo { cls:=.type "set_iterator",dict:=zb,data:=.fields #[f,aR i,.ref d,aR n,aR ep],slots:=#[] }
def RawS (h:Heap) (a:aB) (es:Array (Int × aA)) (ep:Nat) (t:aW):Prop:=∃ o,h.get? a=zo o/\o.ExactSet/\o.data=.set es ep t
theorem RawS.at {h h':Heap} {a:aB} {es:Array (Int × aA)} {ep:Nat} {t:aW} (x:RawS h a es ep t) (k:∀ o,h.get? a=zo o->h'.get? a=zo o):RawS h' a es ep t:=let ⟨o,e,r⟩:=x; ⟨o,k o e,r⟩
theorem RawS.lt {h:Heap} {a:aB} {es:Array (Int × aA)} {ep:Nat} {t:aW} (x:RawS h a es ep t):a < h.objs.size:=let ⟨_,e,_⟩:=x; O9 e
theorem SetIt.at {h h':Heap} {it d:aB} {f:aA} {i n ep:Nat} (x:SetIt h it f i d n ep) (k:∀ o,h.get? it=zo o->h'.get? it=zo o):SetIt h' it f i d n ep:=k _ x
section
variable {prog:aK} {w:aJ} {A:aM} {E:aA->aC->Prop} {s:aC}
theorem RawS.typeIs {a:aB} {es:Array (Int × aA)} {ep:Nat} {t:aW} (x:RawS s.heap a es ep t):s.TypeIs (.ref a) "set" := let ⟨o,e,r,_⟩:=x; ⟨o,e,r.1⟩
theorem SetIt.typeIs {it d:aB} {f:aA} {i n ep:Nat} (x:SetIt s.heap it f i d n ep):s.TypeIs (.ref it) "set_iterator" := ⟨_,x,rfl⟩
theorem Uz {a:aB} {es:Array (Int × aA)} {ep:Nat} {t:aW} {Q:(Array (Int × aA) × Nat × aW)->aC->Prop} (x:RawS s.heap a es ep t) (j:t.fits es.size=yo) (h:Q (es,ep,t) s):aF (aI prog w) A (setState a) Q E s:=by
 obtain ⟨o,q,_,hd⟩:=x;exact wpAny_setState_of q hd j h
theorem Qcp {n:Nat} {Q:Nat->aC->Prop} (j:n≠0) (h:∀ i d',i < n->Q i { s with drawn:=d' }):aF (aI prog w) A (choose .order n) Q E s:=fun Γ p _=>⟨j,h _ _ (eR _ (by omega))⟩
theorem Qk4 {α:Type}:∀ (n:Nat) (xs:List α) (s:aC) {Q:List α->aC->Prop},xs.length=n->(∀ ys d',ys.Perm xs->Q ys { s with drawn:=d' })->aF (aI prog w) A (drawOrder n xs) Q E s:=by
 intro n
 induction n with
 | zero=>
  intro xs s Q j h;rw [gw.mp j] at h ⊢;rw [drawOrder];exact wpAny_pure (h [] s.drawn (cS _))
 | succ n z=>
  intro xs s Q j h;cases xs with
  | nil=>cases j
  | cons x xs=>
   rw [drawOrder]
   ·refine aD (Qcp (by simp) fun i d' hi=>?_)
    rw [O0 hi];refine aD (z _ _ (by rw [gy hi]; omega) fun ys q hp=>?_)
    exact wpAny_pure (h _ q ((hp.cons _).trans (yq hi)))
   ·simp
end
section
variable {prog:aK} {w:aJ} {A:aM} {E:aA->aC->Prop} {s:aC}
theorem Qmd {a:aB} {es:Array (Int × aA)} {ep:Nat} {t:aW} {Q:Nat->aC->Prop} (x:RawS s.heap a es ep t) (j:t.fits es.size=yo) (h:Q es.size s):aF (aI prog w) A (Builtin.Frozenset.sizeOf a) Q E s:=by
 unfold Builtin.Frozenset.sizeOf setEntries;exact aD (aD (Uz x j (wpAny_pure (wpAny_pure h))))
theorem Q9n {a:aB} {es:Array (Int × aA)} {ep:Nat} {t:aW} {Q:Nat->aC->Prop} (x:RawS s.heap a es ep t) (j:t.fits es.size=yo) (h:Q ep s):aF (aI prog w) A (setEpoch a) Q E s:=by
 unfold setEpoch;exact aD (Uz x j (wpAny_pure h))
theorem Q3d {a:aB} {es:Array (Int × aA)} {ep:Nat} {t:aW} {Q:Array (Int × aA)->aC->Prop} (x:RawS s.heap a es ep t) (j:t.fits es.size=yo) (h:Q es s):aF (aI prog w) A (setEntries a) Q E s:=by
 unfold setEntries;exact aD (Uz x j (wpAny_pure h))
theorem Q0k {Q:Bool->aC->Prop} (h:Q (w.params.followText "set-order") s):aF (aI prog w) A setsByText Q E s:=by
 unfold setsByText;exact aD (wpAny_askSetting (wpAny_pure h))
def drw (w:aJ) (n:Nat) (t:aW):Bool:=!w.params.followText "set-order" && (!t.plain && decide (n > 1))
theorem Qhe {a:aB} {es:Array (Int × aA)} {ep:Nat} {t:aW} {Q:Bool->aC->Prop} (x:RawS s.heap a es ep t) (j:t.fits es.size=yo) (h:Q (drw w es.size t) s):aF (aI prog w) A (setDrawn a) Q E s:=by
 unfold setDrawn;exact aD (Uz x j (aD (Q0k (wpAny_pure h))))
theorem Qh9 {a:aB} {es:Array (Int × aA)} {ep:Nat} {t:aW} {Q:aA->aC->Prop} (x:RawS s.heap a es ep t) (j:t.fits es.size=yo) (hz:es.size<=sizeLine)
  (h1:drw w es.size t=yl->Q (.ref s.heap.objs.size) { s with heap:=s.heap.push { cls:=.type "set_iterator",data:=.fields #[aR 0,aR 0,.ref a,aR es.size,aR ep] } })
  (h2:drw w es.size t=yo->∀ (ys:List Nat) (d':Drawn),ys.Perm (bY es.size) ->
   Q (.ref (s.heap.objs.size + 1)) { s with heap:=(s.heap.push { cls:=.type "tuple",data:=.seq (ys.map fun (i:Nat)=>aR i).toArray }).push { cls:=.type "set_iterator",data:=.fields #[.ref s.heap.objs.size,aR 0,.ref a,aR es.size,aR ep] },drawn:=d' }) :
  aF (aI prog w) A (pyIter (.ref a)) Q E s:=by
 refine wpAny_pyIter_slot x.typeIs gz (ah gz x.typeIs Q20 ?_ (PySem.F.args_set_iter_1 _));unfold Builtin.«frozenset.__iter__» Builtin.Frozenset.slot0 Builtin.Frozenset.addrOf slotArgs;show aF _ _ (pure a >>= _) _ _ _;refine aD (wpAny_pure ?_);refine aD (Qmd x j ?_);refine aD (Qhe x j ?_);cases z:drw w es.size t with
 | false=>
  rw [bT O7];refine aD (wpAny_pure ?_);refine aD (Q9n x j ?_);refine aD (ao ?_);exact wpAny_pure ⟨_,rfl, "set_iterator",_,⟨_,D1 _ rfl,rfl⟩,slot_setit_next.lookup,h1 z⟩
 | true=>
  rw [bS rfl];refine aD ?_;refine Qk4 _ _ _ F0 fun ys d' hp=>?_
  refine aD (wpAny_newTuple ?_ (by rw [O3,hp.length_eq,F0]; exact hz));have q:RawS (s.heap.push { cls:=.type "tuple",data:=.seq (ys.map fun (i:Nat)=>aR i).toArray }) a es ep t:=x.at fun o e=>O2 _ e
  refine aD (Q9n (s:={ s with heap:=s.heap.push { cls:=.type "tuple",data:=.seq (ys.map fun (i:Nat)=>aR i).toArray },drawn:=d' }) q j ?_)
  refine aD (ao ?_);refine wpAny_pure ⟨_,rfl, "set_iterator",_,⟨_,D1 _ rfl,rfl⟩,slot_setit_next.lookup,?_⟩;have:=h2 z ys d' hp
  rwa [show s.heap.objs.size + 1=(s.heap.push { cls:=.type "tuple",data:=.seq (ys.map fun (i:Nat)=>aR i).toArray }).objs.size from (F5 _ _).symm] at this
end
def byT (w:aJ):Bool:=!w.params.followText "set-order"
def Yn (w:aJ):Obj:={ cls:=.type "set",dict:=zb,data:=.set #[] 0 (.fresh 0 0 (byT w)) }
def Yj {K:Type} [DecidableEq K] (ks:List K):List K:=ks.foldl Zf []
theorem Qfx {K:Type} [DecidableEq K] (ks:List K) (k:K):Yj (ks ++ [k])=Zf (Yj ks) k:=by unfold Yj; rw [gc]; rfl
theorem jh {K:Type} [DecidableEq K]:∀ (ks acc:List K),(ks.foldl Zf acc).length<=acc.length + ks.length
 | [],acc=>by simp
 | k :: ks,acc=>by
  have h1:=jh ks (Zf acc k);have h2:(Zf acc k).length<=acc.length + 1:=by unfold Zf; split <;> simp
  rw [G7,D7];omega
theorem xx {K:Type} [DecidableEq K] (ks:List K):(Yj ks).length<=ks.length:=by unfold Yj; have:=jh ks []; simpa using this
section
variable {prog:aK} {w:aJ} {K:Type} [DecidableEq K] {knd:KeyKind prog w K} {A:aM} {R:Result->aC->Prop}
theorem Qm4 {s:aC} {E:aA->aC->Prop} (a:aA) {Z:aA->aC->Prop} (h:Z (.ref s.heap.objs.size) { s with heap:=s.heap.push (Yn w) }) :
  codeAny (aI prog w) A (.call (.builtin "set.__new__") ⟨[.type "set",a],[]⟩) (wants Z E) s:=by
 refine codeAny_of_tree ?_;show aF _ A.in1 (do checkBuiltinCall "set.__new__" ⟨[.type "set",a],[]⟩; again (.builtin "set.__new__" ⟨[.type "set",a],[]⟩)) _ _ s;refine aD (wpAny_of_eq (F.newCall_set_1 a) (wpAny_pure ⟨bD F.plain_set_new _,ay F.entry_set_new ?_⟩));rw [Around.under_plainId F.plain_set_new _];unfold Builtin.«set.__new__» Builtin.Frozenset.newClass;have hs:=sub_set_self;unfold Yn byT at h;obtain ⟨hp,g,d,tk,os⟩:=s;dsimp only
 wp_walk
 refine wpAny_askSetting (wpAny_pure ?_);dsimp only;simp only [newObj];refine aD (wpAny_alloc (wpAny_pure ?_));exact wpAny_pure h
theorem Q2k:isSubtype (.type "tuple") (.type "set")=pure yl:=by rw [bO]; kernel_rfl
theorem Q1r:isSubtype (.type "tuple") (.type "frozenset")=pure yl:=by rw [bO]; kernel_rfl
end
def U3 (w:aJ) (t:aW) (i:Nat):Nat:=if w.params.followText "set-order" = yo then 0 else if i=0 then 0 else t.place.getD (i - 1) 0 + 1
def Q7v (w:aJ) (a:aB) (ep:Nat) (es:Array (Int × aA)):Array (Int × aA):=if w.params.followText "set-order" = yo then pickOrder (w.params.setOrder a ep) es else es
theorem Q64 (w:aJ) (a:aB) (ep:Nat) (es:Array (Int × aA)):(Q7v w a ep es).toList.Perm es.toList:=by
 unfold Q7v
 split
 ·exact Qfg _ _
 ·exact cS _
theorem Qfi (w:aJ) (a:aB) (ep:Nat) (es:Array (Int × aA)):(Q7v w a ep es).size=es.size:=by
 have:=(Q64 w a ep es).length_eq;simpa using this
theorem Qcw {xs:Array Nat} (r:Rise xs) {i:Nat} (h:i < xs.size):SetTable.below xs (xs.getD i 0 + 1)=i + 1:=by
 obtain ⟨G,b⟩:=jn (j:=xs.getD i 0 + 1) r;have q:xs[i]?=zo (xs.getD i 0):=by rw [bq h]; simp [dL,h]
 have h1:i < SetTable.below xs (xs.getD i 0 + 1):=(b i _ q).mpr (by omega)
 by_cases z:SetTable.below xs (xs.getD i 0 + 1)=i + 1
 ·exact z
 ·have h2:i + 1 < xs.size:=by omega
  have e2:xs[i + 1]?=zo xs[i + 1]:=bq h2;have:=(b (i + 1) _ e2).mp (by omega);have:=r.lt q e2 (by omega);omega
theorem Qcv {xs:Array Nat} (r:Rise xs):SetTable.below xs 0=0:=by
 obtain ⟨q,b⟩:=jn (j:=0) r
 by_cases z:SetTable.below xs 0=0
 ·exact z
 ·have h2:0 < xs.size:=by omega
  have:=(b 0 _ (bq h2)).mp (by omega);omega
section
variable {prog:aK} {w:aJ} {A:aM} {E:aA->aC->Prop} {s:aC}
theorem Qis {a:aB} {es:Array (Int × aA)} {ep i:Nat} {t:aW} {Q:Option (aA × Nat)->aC->Prop} (x:RawS s.heap a es ep t) (j:t.fits es.size=yo) (g:Good (byT w) t) (hd:drw w es.size t=yl) (hi:i<=es.size)
  (h:Q (((Q7v w a ep es)[i]?).map fun e=>(e.2,U3 w t (i + 1))) s):aF (aI prog w) A (setNext a (U3 w t i) i ep) Q E s:=by
 have hp:t.place.size=es.size:=by
  simp only [SetTable.fits,E6,beq_iff_eq,decide_eq_true_eq] at j;exact j.1
 unfold setNext;refine aD (Uz x j ?_);dsimp only;refine aD (Q0k ?_);cases z:w.params.followText "set-order" with
 | true=>
  rw [bS rfl,bT (by simp)];refine aD ?_;unfold setWalk;refine aD (Uz x j ?_);dsimp only;refine aD (Q0k ?_);rw [z,bS rfl];refine aD (wpAny_askSetting (wpAny_pure (wpAny_pure ?_)));unfold Q7v U3 at h;rw [bS z,bS z] at h;unfold U3;rw [bS z];exact h
 | false=>
  rw [bT O7];have G:(!t.plain && decide (es.size > 1))=yl:=by
   unfold drw at hd;rw [z] at hd;simpa using hd
  have O:t.led=yo:=by rw [g.2.2]; unfold byT; rw [z]; rfl
  unfold Q7v U3 at h;rw [z,bT O7,bT O7,bT (by omega),fT] at h;have J:SetTable.below t.place (U3 w t i)=i:=by
   unfold U3;rw [z,bT O7]
   by_cases q:i=0
   ·rw [bS q,q]; exact Qcv g.1
   ·rw [bT q,Qcw g.1 (by omega)]; omega
  show aF _ _ (if (!t.plain && decide (es.size > 1))=yo then _ else _) _ _ _;rw [G,bT O7];show aF _ _ ((if (!t.led && !es.isEmpty)=yo then _ else _) >>= _) _ _ _;rw [O];simp only [cX,F9,E4,if_false];refine aD (wpAny_pure ?_);rw [J];refine wpAny_pure ?_
  by_cases q:i < es.size
  ·have e1:es[i]?=zo es[i]:=bq q;have e2:t.place[i]?=zo (t.place.getD i 0):=by rw [bq (by omega)]; simp [dL,hp,q]
   rw [e1] at h ⊢;rw [e2];exact h
  ·have e1:es[i]?=zb:=cp (by omega);rw [e1] at h ⊢;exact h
end
section
variable {prog:aK} {w:aJ} {A:aM} {E:aA->aC->Prop} {s:aC}
theorem qa:Slot "set_iterator" "__iter__" "set_iterator.__iter__" :=
 .of (owner := "set_iterator") (n := "__iter__") (by rw [typeLookup_type,builtinLookup_eq_fast]; kernel_rfl) (by decide +kernel) (by decide +kernel) (by decide +kernel) (by first | exact .inl (by decide +kernel) | exact .inr (by decide +kernel)) (by rw [bO]; kernel_rfl)
theorem Q15:entryFor table "set_iterator.__iter__" = zo Builtin.«dict_keyiterator.__iter__»:=entryFor_alias (id' := "dict_keyiterator.__iter__") (by kernel_rfl) rfl (by decide +kernel) (by kernel_rfl)
theorem Q23 (a:aA):argsOk "set_iterator.__iter__" ⟨[a],[]⟩:=by
 unfold argsOk; rw [signature?_of (id := "set_iterator.__iter__") (n:=['_','_','r','e','t','i','_','_']) (o:=['r','o','t','a','r','e','t','i','_','t','e','s']) (by kernel_rfl) Q1c]; kernel_rfl
theorem Q7j {it d:aB} {f:aA} {i n ep:Nat} {Q:aA->aC->Prop} (j:SetIt s.heap it f i d n ep) (h:Q (.ref it) s):aF (aI prog w) A (pyIter (.ref it)) Q E s:=by
 refine wpAny_pyIter_slot j.typeIs qa (ah qa j.typeIs Q15 ?_ (Q23 _));show aF _ _ (ret (.ref it)) _ _ s;exact wpAny_pure ⟨_,rfl, "set_iterator",_,j.typeIs,slot_setit_next.lookup,h⟩
def yw (w:aJ) (t:aW) (h:Heap) (ys:Option (aB × List Nat)) (i:Nat) (f:aA):Prop:=match ys with
 | none=>f=aR (U3 w t i)
 | some (tp,ys)=>f=.ref tp/\h.get? tp=zo { cls:=.type "tuple",data:=.seq (ys.map fun (i:Nat)=>aR i).toArray }
def Q5j (w:aJ) (a:aB) (ep:Nat) (es:Array (Int × aA)) (ys:Option (aB × List Nat)):List (Int × aA):=match ys with
 | none=>(Q7v w a ep es).toList
 | some (_,ys)=>ys.filterMap fun i=>es[i]?
theorem Q0n {w:aJ} {a:aB} {ep:Nat} {es:Array (Int × aA)} {ys:Option (aB × List Nat)} (h:∀ tp l,ys=zo (tp,l)->l.Perm (bY es.size)):(Q5j w a ep es ys).Perm es.toList:=by
 unfold Q5j;cases ys with
 | none=>exact Q64 _ _ _ _
 | some q=>
  obtain ⟨tp,l⟩:=q;refine ((h tp l rfl).filterMap _).trans ?_;rw [filterMap_getElem?_range]
theorem Qn7 {w:aJ} {a:aB} {ep:Nat} {es:Array (Int × aA)} {tp:aB} {l:List Nat} (h:l.Perm (bY es.size)) (i:Nat):(Q5j w a ep es (zo (tp,l)))[i]?=(l[i]?).bind fun j=>es[j]?:=by
 have z:∀ j∈l,j < es.size:=fun j q=>by have:=h.mem_iff.mp q; simpa using this
 show (l.filterMap fun i=>es[i]?)[i]?=_;clear h
 induction l generalizing i with
 | nil=>rfl
 | cons x l J=>
  have G:=z x (by simp);rw [List.filterMap_cons_some (b:=es[x]) (bq G)];cases i with
  | zero=>simp [bq G]
  | succ i=>simpa using J i (fun j q=>z j (O5 _ q))
theorem Qha {it a:aB} {es:Array (Int × aA)} {ep i:Nat} {t:aW} {ys:Option (aB × List Nat)} {f v:aA} {e:Int} {Q:Option aA->aC->Prop} (a1:a≠it) (J:SetIt s.heap it f i a es.size ep) (x:RawS s.heap a es ep t) (Y:t.fits es.size=yo) (g:Good (byT w) t)
  (hy:yw w t s.heap ys i f) (hn:ys=zb->drw w es.size t=yl) (hp:∀ tp l,ys=zo (tp,l)->l.Perm (bY es.size)/\tp≠it) (O:(Q5j w a ep es ys)[i]?=zo (e,v))
  (hQ:∀ f' h',SetIt h' it f' (i + 1) a es.size ep->yw w t h' ys (i + 1) f'->Heap.SameBut it s.heap h'->Q (zo v) { s with heap:=h' }):aF (aI prog w) A (af (.ref it)) Q E s:=by
 have hT:=J.typeIs;unfold af;refine aD (wpAny_attempt (wpAny_callSpecial?_slot (name:=cb "__next__") hT slot_setit_next (ah slot_setit_next hT Kc ?_ (qm _))));unfold Builtin.«set_iterator.__next__» slotArgs;show aF _ _ (fieldsOf (.ref it) >>= _) _ _ _;refine aD (wpAny_fieldsOf J rfl ?_);show aF _ _ (setEntries a >>= _) _ _ _;refine aD (Q3d x Y ?_);rw [bT (by simp)];cases ys with
 | none=>
  cases hy;show aF _ _ (setNext a (U3 w t i:Int).toNat (i:Int).toNat (ep:Int).toNat >>= _) _ _ _;rw [bt,bt,bt];have hi:i < es.size:=by
   obtain ⟨q,_⟩:=O1.mp O;have:=(Q0n (w:=w) (a:=a) (ep:=ep) (es:=es) (ys:=zb) (fun _ _ z=>nomatch z)).length_eq;rw [this] at q; simpa using q
  refine aD (Qis x Y g (hn rfl) (by omega) ?_);have e0:(Q7v w a ep es)[i]?=zo (e,v):=by rw [<- bp]; exact O
  rw [e0];show aF _ _ (setField (.ref it) 0 (aR (U3 w t (i + 1))) >>= _) _ _ _;refine aD (bK J (by simp) fun h1 o1 G=>?_)
  refine aD (bK (s:={ s with heap:=h1 }) o1 (by simp) fun h2 o2 Z=>?_)
  exact wpAny_pure ⟨_,rfl,wpAny_pure (hQ _ h2 o2 rfl (G.trans Z))⟩
 | some q=>
  obtain ⟨tp,l⟩:=q;obtain ⟨rfl,ht⟩:=hy;obtain ⟨hl,U⟩:=hp tp l rfl;rw [Qn7 hl] at O;cases zl:l[i]? with
  | none=>rw [zl] at O; cases O
  | some j=>
   rw [zl] at O;have O:es[j]?=zo (e,v):=O;show aF _ _ (seqItems? (.ref tp) >>= _) _ _ _;refine aD (bB ht rfl ?_);show aF _ _ (match ((l.map fun (i:Nat)=>aR i).toArray)[(i:Int).toNat]? with | some (.int place _)=>_ | some _=>_ | none=>_) _ _ _
   rw [bt,hJ,D2,zl];show aF _ _ (setNextDrawn a (j:Int).toNat (ep:Int).toNat >>= _) _ _ _;rw [bt,bt];refine aD ?_;unfold setNextDrawn;refine aD (Uz x Y ?_);dsimp only;rw [bT (by simp),O];refine wpAny_pure ?_;refine aD (bK J (by simp) fun h1 o1 G=>?_)
   exact wpAny_pure ⟨_,rfl,wpAny_pure (hQ _ h1 o1 ⟨rfl,(G.2 tp U).trans ht⟩ G)⟩
theorem Q5w {it:aB} {Q:Option aA->aC->Prop} (z:A.handled=zb) {j:Heap} (k:Heap.ExtBut it s.heap j) (q:∀ h',Heap.ExtBut it s.heap h'->Q zb { s with heap:=h' }) :
  aF (aI prog w) A.in1 (newExc (.type "StopIteration") [] >>= fun e=>bP e) (fun (fin:Fin) s'=>∃ v,fin=.done (.ret v)/\aF (aI prog w) A (pure (zo v)) Q E s') (fun e s'=>aF (aI prog w) A (do if <- isInstance e (.type "StopIteration") then pure zb else throw e) Q E s') { s with heap:=j }:=by
 refine aD ?_;simp only [newExc,newTuple];refine aD (ao ?_ (by size_fits));refine aD (m:=firstArgMember _ _) (wpAny_of_eq (a:=bg) (by first | rfl | (simp only [firstArgMember]; rfl)) ?_);refine ao ?_ (by size_fits);simp only [bP];refine aD (wpAny_handled ?_);rw [show A.in1.handled=zb from z];refine aD (wpAny_pure (wpAny_throw ?_));refine aD (bM (T := "StopIteration") (b:=yo) ⟨_,D1 _ rfl,rfl⟩ isSubtype_stop ?_);exact wpAny_pure (q _ ((k.push _).push _))
theorem Qm6 {it a:aB} {es:Array (Int × aA)} {ep:Nat} {t:aW} {ys:Option (aB × List Nat)} {f:aA} {Q:Option aA->aC->Prop} (hh:A.handled=zb) (j:SetIt s.heap it f es.size a es.size ep) (x:RawS s.heap a es ep t) (O:t.fits es.size=yo) (g:Good (byT w) t)
  (J:yw w t s.heap ys es.size f) (hn:ys=zb->drw w es.size t=yl) (hp:∀ tp l,ys=zo (tp,l)->l.Perm (bY es.size)/\tp≠it)
  (Y:∀ h',Heap.ExtBut it s.heap h'->Q zb { s with heap:=h' }):aF (aI prog w) A (af (.ref it)) Q E s:=by
 have U:=j.typeIs;unfold af;refine aD (wpAny_attempt (wpAny_callSpecial?_slot (name:=cb "__next__") U slot_setit_next (ah slot_setit_next U Kc ?_ (qm _))));unfold Builtin.«set_iterator.__next__» slotArgs;show aF _ _ (fieldsOf (.ref it) >>= _) _ _ _;refine aD (wpAny_fieldsOf j rfl ?_);show aF _ _ (setEntries a >>= _) _ _ _;refine aD (Q3d x O ?_);rw [bT (by simp)];cases ys with
 | none=>
  cases J;show aF _ _ (setNext a (U3 w t es.size:Int).toNat (es.size:Int).toNat (ep:Int).toNat >>= _) _ _ _;rw [bt,bt,bt];refine aD (Qis x O g (hn rfl) (O4 _) ?_);have e0:(Q7v w a ep es)[es.size]?=zb:=cp (by rw [Qfi]; exact O4 _);rw [e0];show aF _ _ (setField (.ref it) 2 .none >>= _) _ _ _;refine aD (bK j (by simp) fun h1 Z z=>?_)
  exact Q5w (s:=s) hh z.extBut Y
 | some q=>
  obtain ⟨tp,l⟩:=q;obtain ⟨rfl,ht⟩:=J;obtain ⟨hl,a1⟩:=hp tp l rfl;have hz:l[es.size]?=zb:=eT (by rw [hl.length_eq,F0]; exact O4 _);show aF _ _ (seqItems? (.ref tp) >>= _) _ _ _;refine aD (bB ht rfl ?_);show aF _ _ (match ((l.map fun (i:Nat)=>aR i).toArray)[(es.size:Int).toNat]? with | some (.int place _)=>_ | some _=>_ | none=>_) _ _ _
  rw [bt,hJ,D2,hz];show aF _ _ (setField (.ref it) 0 (aR 0) >>= _) _ _ _;refine aD (bK j (by simp) fun h1 Z z=>?_)
  refine aD (bK (s:={ s with heap:=h1 }) Z (by simp) fun h2 o2 G=>?_)
  exact Q5w (s:=s) hh (z.trans G).extBut Y
def Q8u (it a:aB) (ys:Option (aB × List Nat)):List aB:=match ys with
 | none=>[it,a]
 | some (tp,_)=>[it,a,tp]
theorem Qer {it a:aB} {es:Array (Int × aA)} {ep:Nat} {t:aW} {ys:Option (aB × List Nat)} (hh:A.handled=zb) (O:a≠it) (hf:t.fits es.size=yo) (g:Good (byT w) t) (Y:ys=zb->drw w es.size t=yl) (hp:∀ tp l,ys=zo (tp,l)->l.Perm (bY es.size)/\tp≠it) :
  Walks prog w A it (Q8u it a ys) [it] es.size (fun i v=>∃ e,(Q5j w a ep es ys)[i]?=zo e/\v=e.2) (fun i h=>RawS h a es ep t/\∃ f,SetIt h it f i a es.size ep/\yw w t h ys i f) where
 sub:=fun b j=>by
  have:b=it:=by simpa using j
  subst this;unfold Q8u;cases ys <;> simp
 frame:=fun i h h' st U=>by
  obtain ⟨x,f,h1,h2⟩:=st;have m1:it∈Q8u it a ys:=by unfold Q8u; cases ys <;> simp
  have m2:a∈Q8u it a ys:=by unfold Q8u; cases ys <;> simp
  refine ⟨x.at fun o e=>U a m2 o e,f,h1.at fun o e=>U it m1 o e,?_⟩;cases ys with
  | none=>exact h2
  | some q=>exact ⟨h2.1,U q.1 (by unfold Q8u; simp) _ h2.2⟩
 item:=fun i s Q E hi st G=>by
  obtain ⟨x,f,h1,h2⟩:=st;have hl:(Q5j w a ep es ys).length=es.size:=by
   have:=(Q0n (w:=w) (a:=a) (ep:=ep) (es:=es) (ys:=ys) fun tp l z=>(hp tp l z).1).length_eq
   simpa using this
  have J:i < (Q5j w a ep es ys).length:=by omega
  refine Qha O h1 x hf g h2 Y hp (e:=(Q5j w a ep es ys)[i].1) (v:=(Q5j w a ep es ys)[i].2) (O0 J) fun f' h' i1 i2 Z=>?_
  exact G _ h' s.toks ⟨_,O0 J,rfl⟩ ⟨x.at fun o e=>(Z.2 a O).trans e,f',i1,i2⟩ fun b o j e=>Z.extBut b o (fun z=>j (by simp [z])) e
 done:=fun s Q E st G=>by
  obtain ⟨x,f,h1,h2⟩:=st;exact Qm6 hh h1 x hf g h2 Y hp fun h' k=>G h' s.toks fun b o j e=>k b o (fun z=>j (by simp [z])) e
 self:=fun i s Q E st G=>by
  obtain ⟨x,f,h1,h2⟩:=st;exact Q7j h1 G
theorem Qji {r:aB} {Q:Bool->aC->Prop} (j:s.TypeIs (.ref r) "set") (h:Q yl s):aF (aI prog w) A (Builtin.List.listLengthHint (.ref r)) Q E s:=by
 unfold Builtin.List.listLengthHint;refine aD (wpAny_specialOf j PySem.F.slot_set_len.lookup ?_);generalize hid:("set.__len__" : String)=q
 wp_delta
 rw [show splitId q=zo ("set", "__len__") from by subst hid; decide +kernel];subst hid;refine aD (bM (T := "set") (b:=yo) j (by rw [bO]; kernel_rfl) ?_);refine bQ (fun z=>absurd z (by decide)) (fun _=>?_)
 refine bQ (fun _=>?_) (fun z=>absurd (by decide +kernel) z)
 exact aD (bC j (wpAny_pure h))
end
section
variable {prog:aK} {w:aJ} {A:aM} {E:aA->aC->Prop} {s:aC}
theorem Qp8 {R:Result->aC->Prop} {r:aB} {es:Array (Int × aA)} {ep:Nat} {t:aW} (hh:A.handled=zb) (x:RawS s.heap r es ep t) (hf:t.fits es.size=yo) (g:Good (byT w) t) (S:aB) (U:S≠r) (res:aA) (a4:Nat) (hS:s.heap.get? S=zo { cls:=.type "list",data:=.seq #[] a4 })
  (hR:∀ h' d' tk (acc:Array aA) c',acc.toList.Perm (es.toList.map (·.2))->(∀ b o,b≠S->s.heap.get? b=zo o->h'.get? b=zo o)->h'.get? S=zo { cls:=.type "list",dict:=zb,data:=.seq acc c',slots:=#[] }->R (.ok (.ret res)) { s with heap:=h',drawn:=d',toks:=tk }) (hn:es.size<=sizeLine) :
  aF (aI prog w) A.in1 (Builtin.List.listExtendWith (.ref S) (.ref r) res)
   (fun fin s'=>match fin with | .done f=>R (.ok f) s' | .again c'=>c'.quiet=yo/\codeAny (aI prog w) A c' R s') (fun e s'=>R (.error e) s') s:=by
 have a1:=O9 hS;have a7:∀ (ys:Option (aB × List Nat)) (I:aB) (h:Heap) (d':Drawn) (J tk:Nat),s.heap.objs.size<=I->(ys=zb->drw w es.size t=yl)->(∀ tp l,ys=zo (tp,l)->l.Perm (bY es.size)/\tp≠I/\s.heap.objs.size<=tp) ->
   RawS h r es ep t->(∃ f,SetIt h I f 0 r es.size ep/\yw w t h ys 0 f)->(∀ b o,b≠S->s.heap.get? b=zo o->h.get? b=zo o) ->
   h.get? S=zo { cls:=.type "list",data:=.seq #[] J }->codeAny (aI prog w) A (.builtin "list.extend.loop" ⟨[.ref S,.ref I,res],[]⟩) R { s with heap:=h,drawn:=d',toks:=tk }:=by
  intro ys I h d' J tk hI Y j hx Z hk a5;have a6:S≠I:=D8 (D0 a1 hI);have a8:r≠I:=D8 (D0 x.lt hI);have W:=Qer (prog:=prog) (A:=A.in1) (it:=I) (a:=r) (es:=es) (ep:=ep) (t:=t) (ys:=ys) (by simpa using hh) a8 hf g Y fun tp l z=>⟨(j tp l z).1,(j tp l z).2.1⟩
  have b0:S∉Q8u I r ys:=by
   unfold Q8u;cases ys with
   | none=>simp only [D5,di,or_false,not_or]; exact ⟨a6,U⟩
   | some q=>simp only [D5,di,or_false,not_or]; exact ⟨a6,U,D8 (D0 a1 (j q.1 q.2 rfl).2.2)⟩
  refine codeAny_extend_loopS W.toS hn S b0 res es.size 0 _ #[] J rfl (G9 _) ⟨hx,Z⟩ a5 (ItemsOf.nil _) fun s' acc c' hm a9 G=>?_
  rw [Moved.eq_with hm];have pm:=Q0n (w:=w) (a:=r) (ep:=ep) (es:=es) (ys:=ys) fun tp l z=>(j tp l z).1
  have hl:=pm.length_eq;simp only [bj] at hl;have e:acc.toList=(Q5j w r ep es ys).map (·.2):=by
   apply dB;intro i
   by_cases z:i < es.size
   ·have hi:i < acc.size:=by rw [G.1]; exact z
    obtain ⟨e,h1,h2⟩:=G.2 i acc[i] (bq hi);rw [bp,bq hi,h2,D2,h1]; rfl
   ·rw [bp,cp (by rw [G.1]; omega),D2,eT (by omega)]; rfl
  refine hR s'.heap d' s'.toks acc c' (by rw [e]; exact pm.map _) (fun b o hb q=>hm.heap b o (fun O=>?_) (hk b o hb q)) a9
  rcases D5.mp O with z | O
  ·exact hb z
  ·have:=O9 q;rw [List.mem_singleton.mp O] at this;exact absurd (D0 this hI) (G8 _)
 have a3:∀ (bf:Bool->Bool) (ys:Option (aB × List Nat)) (I:aB) (h:Heap) (d':Drawn),s.heap.objs.size<=I->(ys=zb->drw w es.size t=yl)->(∀ tp l,ys=zo (tp,l)->l.Perm (bY es.size)/\tp≠I/\s.heap.objs.size<=tp) ->
   RawS h r es ep t->(∃ f,SetIt h I f 0 r es.size ep/\yw w t h ys 0 f)->(∀ b o,s.heap.get? b=zo o->h.get? b=zo o) ->
   aF (aI prog w) A.in1 (do
     let room <- au [.ref I] (Builtin.List.listLengthHint (.ref r))
     if bf room then
      rule "list.extend.makes-room"
      Builtin.List.listTouch (.ref S)
     again (.builtin "list.extend.loop" ⟨[.ref S,.ref I,res],[]⟩))
    (fun fin s'=>match fin with | .done f=>R (.ok f) s' | .again c'=>c'.quiet=yo/\codeAny (aI prog w) A c' R s') (fun e s'=>R (.error e) s') { s with heap:=h,drawn:=d' }:=by
  intro bf ys I h d' hI Y j hx Z hk;refine aD (ae (Qji (s:={ s with heap:=h,drawn:=d' }) hx.typeIs ?_));refine bQ (fun _=>?_) (fun _=>wpAny_pure ⟨bD hU _,a7 ys I h d' a4 s.toks hI Y j hx Z (fun b o _ q=>hk b o q) (hk _ _ hS)⟩);refine aD (bL (aD ?_));show aF _ _ (updateSeq S (·.push .none) >>= fun _=>updateSeq S (·.pop)) _ _ _
  have s1:=hk _ _ hS;refine aD (wpAny_updateSeq (s:={ s with heap:=h,drawn:=d' }) s1 rfl ?_);have s2:=F6 (bw (·.push bg)) s1 rfl;refine wpAny_updateSeq (hz:=by seq_fits) s2 rfl ?_;have s3:=F6 (bw (·.pop)) s2 rfl;have a2:∀ b o,b≠S->h.get? b=zo o->((h.update S (bw (·.push bg))).update S (bw (·.pop))).get? b=zo o:=fun b o hb q=>(F1 _ _ (Ne.symm hb)).trans ((F1 _ _ (Ne.symm hb)).trans q)
  have nI:I≠S:=cG (D0 a1 hI);refine wpAny_pure ⟨bD hU _,a7 ys I _ d' _ s.toks hI Y j (hx.at fun o q=>a2 r o (Ne.symm U) q) ?_ (fun b o hb q=>a2 b o hb (hk b o q)) s3⟩;obtain ⟨f,i1,i2⟩:=Z;refine ⟨f,i1.at fun o q=>a2 I o nI q,?_⟩;cases ys with
  | none=>exact i2
  | some q=>exact ⟨i2.1,a2 q.1 _ (cG (D0 a1 (j q.1 q.2 rfl).2.2)) i2.2⟩
 unfold Builtin.List.listExtendWith;refine aD (bC (T := "set") x.typeIs ?_);have h1:Builtin.List.listSameRef (.ref S) (.ref r)=yl:=by simp [Builtin.List.listSameRef,U]
 have e1:(cC "set" == cC "list")=yl:=by decide
 have e2:(cC "set" == cC "tuple")=yl:=by decide
 simp only [h1,e1,e2,eG,E4,if_false];refine aD (Qh9 x hf hn (fun z=>?_) fun z ys d' hp=>?_)
 ·exact a3 _ zb s.heap.objs.size (s.heap.push { cls:=.type "set_iterator",data:=.fields #[aR 0,aR 0,.ref r,aR es.size,aR ep] }) s.drawn (O4 _) (fun _=>z) (fun _ _ q=>nomatch q) (x.at fun o q=>O2 _ q) ⟨_,D1 _ rfl,by unfold yw U3; simp⟩ (fun b o q=>O2 _ q)
 ·have hz:s.heap.objs.size + 1=(s.heap.push { cls:=.type "tuple",data:=.seq (ys.map fun (i:Nat)=>aR i).toArray }).objs.size:=(F5 _ _).symm
  exact a3 _ (zo (s.heap.objs.size,ys)) (s.heap.objs.size + 1) ((s.heap.push { cls:=.type "tuple",data:=.seq (ys.map fun (i:Nat)=>aR i).toArray }).push { cls:=.type "set_iterator",data:=.fields #[.ref s.heap.objs.size,aR 0,.ref r,aR es.size,aR ep] }) d' (dH _) (fun q=>nomatch q)
   (fun tp l q=>by cases q; exact ⟨hp,D8 (df _),O4 _⟩) (x.at fun o q=>O2 _ (O2 _ q)) ⟨.ref s.heap.objs.size,by rw [hz]; exact D1 _ rfl,rfl,O2 _ (D1 _ rfl)⟩ (fun b o q=>O2 _ (O2 _ q))
theorem Qaw {d:aB} {es:Array (Int × aA)} {ep:Nat} {t:aW} {Q:List aA->aC->Prop} (Z:A.handled=zb) (x:RawS s.heap d es ep t) (O:t.fits es.size=yo) (g:Good (byT w) t) (J:es.size<=sizeLine)
  (h:∀ vs h' d' tk,vs.Perm (es.toList.map (·.2))->(∀ b o,s.heap.get? b=zo o->h'.get? b=zo o)->s.heap.objs.size<=h'.objs.size->Q vs { s with heap:=h',drawn:=d',toks:=tk }):aF (aI prog w) A (collect (.ref d)) Q E s:=by
 unfold collect;refine aD (wpAny_runValue (ay gn ?_));rw [Around.under_plainId gq _];show aF _ A.in1 (newList [] >>= fun l=>again (.builtin "list.__iadd__" ⟨[l,.ref d],[]⟩)) _ _ s
 refine aD (ao ?_);refine wpAny_pure ⟨bD eO _,ay gr ?_⟩;rw [Around.under_plainId eO _];have hS:(s.heap.push { cls:=.type "list",data:=.seq ([]:List aA).toArray }).get? s.heap.objs.size=zo { cls:=.type "list",data:=.seq ([]:List aA).toArray }:=D1 _ rfl;have z:∀ b o,s.heap.get? b=zo o->(s.heap.push { cls:=.type "list",data:=.seq ([]:List aA).toArray }).get? b=zo o:=fun b o e=>O2 _ e
 have G:s.heap.objs.size≠d:=cG x.lt;show aF _ A.in1 (Builtin.List.listExtendWith (.ref s.heap.objs.size) (.ref d) (.ref s.heap.objs.size)) _ _ _;refine Qp8 (prog:=prog) (w:=w) (A:=A) (R:=fun r s'=>match r with | .ok (.ret v)=>aF (aI prog w) A (match v with | .ref a=>do { let o <- load a; match o.data with | .seq xs _=>pure xs.toList | _=>unsupported "internal:collect" } | _=>unsupported "internal:collect") Q E s' | .ok _=>False | .error e=>E e s') (s:={ s with heap:=s.heap.push { cls:=.type "list",data:=.seq ([]:List aA).toArray } }) Z (x.at fun o e=>z d o e) O g s.heap.objs.size G _ _ hS (fun h' d' tk acc c U Y j=>?_) J
 show aF _ A (load s.heap.objs.size >>= _) _ _ _;refine aD (wpAny_load j ?_);exact wpAny_pure (h _ h' d' tk U (fun b o q=>Y b o (D8 (O9 q)) (z b o q)) (dF (O9 j)))
end
theorem Inv.redraw {X:Cx} {pins:List (aB × Obj)} {σ:List (Option V)} {H:Hp} {s:aC} (I:Inv X pins σ H s) (d':Drawn):Inv X pins σ H { s with drawn:=d' }:=⟨I.ok,I.os,I.bare,I.base,I.loc,I.cell,I.free,I.freeC,I.pin,I.hok,I.len⟩
section
variable {X:Cx}
end
section
variable {prog:aK} {w:aJ} {A:aM} {E:aA->aC->Prop} {s:aC}
end
section
variable {X:Cx}
end
end L2
namespace L2
open PySem PySem.Spec PyProof.Rows SeqAt
section
variable {prog:aK} {w:aJ} {K:Type} [DecidableEq K] {knd:KeyKind prog w K} {A:aM} {E:aA->aC->Prop} {s:aC}
theorem Q3q {es:List DictEntry} {kvs:List (K × aA)} (h:Pairs knd es kvs) {i:Nat} (hi:i < es.length):∃ kv,kvs[i]?=zo kv/\knd.is kv.1 es[i].key=yo/\es[i].val=kv.2:=by
 induction h generalizing i with
 | nil=>simp at hi
 | cons h1 h2 _ j=>
  cases i with
  | zero=>exact ⟨_,rfl,h1,h2⟩
  | succ i=>
   obtain ⟨kv,e1,e2,e3⟩:=j (i:=i) (by simpa using hi);exact ⟨kv,by simpa using e1,by simpa using e2,by simpa using e3⟩
end
section
variable {prog:aK} {w:aJ} {K:Type} [DecidableEq K] {knd:KeyKind prog w K} {A:aM} {E:aA->aC->Prop} {s:aC}
end
section
variable {X:Cx}
end
end L2
namespace L2
open PySem PySem.Spec PyProof.Rows SeqAt
section
variable {X:Cx}
end
end L2
namespace L2
open PySem PySem.Spec PyProof.Rows
section
variable {X:Cx} {tg:aH}
theorem Qfj:OpR X (aV .LtE) (fun x y H Q=>∃ i j,x=.str i/\y=.str j/\Q (.bl (!decide (j.cps.toList < i.cps.toList))) H):=by
 intro pins s σ H x y v u Q I z G h;obtain ⟨i,j,rfl,rfl,q⟩:=h;obtain ⟨t,rfl⟩:=z;obtain ⟨t',rfl⟩:=G;exact PySem.P.le_str (Y1 I q rfl)
def Qsq (x:Str):It:=⟨fun i _=>i < x.cps.size,fun i H v H'=>H'=H/\∃ c,x.cps[i]?=zo c/\v=.str ⟨#[c]⟩,fun i _=>x.cps.size<=i⟩
theorem Q5s {prog:aK} {w:aJ} {A:aM} (h:A.handled=zb) (I:aB) (x:Str) (t:Tok):Walks prog w A I [I] [I] x.cps.size (SignAt x) fun i h=>h.IsStrIter I (strIterType x) x t i:=by
 unfold strIterType
 split
 ·exact Walks.strAscii h I x t
 ·exact Walks.strWide h I x t
theorem Q6f (x:Str):strIterType x = "str_ascii_iterator" \/ strIterType x = "str_iterator" := by
 unfold strIterType
 split
 ·exact .inl rfl
 ·exact .inr rfl
theorem Qgx {P:aK} {w:aJ} {K:bW} {tg:aH} (x:Str) (t:Tok) (it:aB):Turn P w K tg (Qsq x) [it] it (fun i h=>h.IsStrIter it (strIterType x) x t i/\i<=x.cps.size) where
 mem:=by simp
 obj:=fun i h st b j=>by
  have e:b=it:=by simpa using j
  subst e;obtain ⟨o,e,c,d⟩:=st.1;exact ⟨o,e,fun v z=>by rw [d] at z; cases z⟩
 keep:=fun i h h' st k=>by
  obtain ⟨⟨o,e,c,d⟩,hi⟩:=st;exact ⟨⟨o,k it (by simp) o e,c,d⟩,hi⟩
 item:=by
  intro X O hw hK hc i pins s σ H E I G st J;subst O hw hK;obtain ⟨U,Z,f2,f3,Y,f5⟩:=G it (by simp);have W:=Q5s (prog:=X.prog) (w:=X.w) (I.ok.hd hc) it x t;refine W.item i s _ _ J st.1 fun v h' tk hv st' kk=>?_
  obtain ⟨c,u,a1,rfl⟩:=hv;have I1:Inv X pins σ H { s with heap:=h',toks:=tk }:=I.turned (fun b o j e=>kk b o (by simpa using j) e) U Z f3 Y f5
  obtain ⟨o,e1,e2,e3⟩:=st';refine ⟨_,rfl,Qe7 (s:={ s with heap:=h',toks:=tk }) (n:=strIterType x) e1 e2 e3 ?_ ⟨.str ⟨#[c]⟩,H,I1,⟨u,rfl⟩,⟨rfl,c,a1,rfl⟩,⟨⟨o,e1,e2,e3⟩,J⟩,fun b j=>(G b j).1⟩⟩
  rcases Q6f x with q | q <;> rw [q] <;> decide
 done:=by
  intro X O hw hK hc i pins s σ H E I G st J;subst O hw hK;obtain ⟨U,Z,f2,f3,Y,f5⟩:=G it (by simp);have W:=Q5s (prog:=X.prog) (w:=X.w) (I.ok.hd hc) it x t;have e:i=x.cps.size:=Nat.le_antisymm st.2 J;subst e;exact W.done s _ _ st.1 fun h' tk kk=>⟨rfl,I.turned (fun b o j e=>kk b o (by simpa using j) e) U Z f3 Y f5⟩
 self:=fun A i s Q E st h=>by
  obtain ⟨st,_⟩:=st;revert st;rcases Q6f x with q | q <;> rw [q] <;> intro st
  ·exact wpAny_pyIter_striter_ascii st h
  ·exact wpAny_pyIter_striter_wide st h
def Qxt (tl:TE):TI:=fun σ H R=>tl σ H fun v H1=>∃ x,v=.str x/\R (Qsq x) H1
theorem Qr2 {l:aH} {tl:TE} (O:PE X l tl):PI X tg l (Qxt tl):=by
 intro pins s σ H R I h;refine thn (O pins s σ H _ I h) fun v s1 ⟨z,H1,j,J,q1⟩=>?_
 obtain ⟨x,e,q⟩:=q1;subst e;obtain ⟨t,rfl⟩:=J;refine wpAny_pyIter_strU ?_;refine ⟨s1.heap.objs.size,[s1.heap.objs.size],_,_,H1,rfl,j.kept (t':=s1.toks) fun b o e=>O2 _ e,Qgx x t _,⟨⟨_,D1 _ rfl,rfl,rfl⟩,G9 _⟩,fun b G=>?_,q⟩
 have e:b=s1.heap.objs.size:=by simpa using G
 subst e;exact j.fpOk (O4 _) (j.hok.fresh (O4 _))
theorem Qd9:∀ {ss:List Str} {j:List aA},Vals (ss.map V.str) j->∃ l:List (Str × Tok),j=strValues l/\l.map (·.1)=ss
 | [],_,.nil=>⟨[],rfl,rfl⟩
 | s :: ss,_,.cons r t=>by
  obtain ⟨l,e1,e2⟩:=Qd9 t;obtain ⟨tk,rfl⟩:=r;exact ⟨(s,tk) :: l,by rw [e1]; rfl,by rw [O8,e2]⟩
theorem Qng:MtR X "str.join" (fun x vs H Q=>∃ j p ss,x=.str j/\vs=[.ref p]/\SqL X.K H p (ss.map V.str)/\JoinOk j ss=yo/\Q (.str (Txt.join j ss)) H):=by
 intro pins s σ H x vs v U Q I G z h;obtain ⟨j,p,ss,rfl,rfl,J,hz,q⟩:=h;obtain ⟨t,rfl⟩:=G;obtain ⟨u,rfl,ru⟩:=z.one;cases ru;obtain ⟨its,O,pl,_⟩:=I.list J;obtain ⟨l,e1,e2⟩:=Qd9 O;subst e1;exact SC.join pl.isList e2 hz fun t' k=>⟨.str _,H,I.tok _,⟨_,rfl⟩,q⟩
end
def yu (M:Nat) (p:SetTable.Probe):SetTable.Probe:=
 if p.more > 0 then { j:=p.j + 1,more:=p.more - 1,i:=p.i,perturb:=p.perturb,dummy:=p.dummy }
 else { j:=(SetTable.leap M p.i p.perturb).1,more:=SetTable.runEnd M (SetTable.leap M p.i p.perturb).1 - (SetTable.leap M p.i p.perturb).1,i:=(SetTable.leap M p.i p.perturb).1,perturb:=(SetTable.leap M p.i p.perturb).2,dummy:=p.dummy }
theorem Q58 (t:aW) (p:SetTable.Probe):t.advance p=yu t.mask p:=by
 unfold SetTable.advance yu
 split <;> rfl
def Qjk (M:Nat) (q:Nat × Nat):SetTable.Probe:={ j:=q.1,more:=SetTable.runEnd M q.1 - q.1,i:=q.1,perturb:=q.2,dummy:=zb }
def lpP (M:Nat) (h:Int):Nat->Nat × Nat
 | 0=>(SetTable.bits h % (M + 1),SetTable.bits h)
 | m + 1=>SetTable.leap M (lpP M h m).1 (lpP M h m).2
def pth (M:Nat) (h:Int):Nat->SetTable.Probe
 | 0=>Qjk M (lpP M h 0)
 | n + 1=>yu M (pth M h n)
def Jn (M:Nat) (h:Int) (n:Nat):Nat:=(pth M h n).j
theorem Q61 (M:Nat) (h:Int):∀ n,(pth M h n).dummy=zb
 | 0=>rfl
 | n + 1=>by
  have:=Q61 M h n;show (yu M (pth M h n)).dummy=zb;unfold yu
  split <;> exact this
theorem Qe0 (M i p:Nat):(SetTable.leap M i p).1<=M:=by
 show (i * 5 + 1 + p / 32) % (M + 1)<=M;exact eU (eR _ (hX _))
theorem Q8e (M:Nat) (h:Int):∀ m,(lpP M h m).1<=M
 | 0=>eU (eR _ (hX _))
 | m + 1=>Qe0 _ _ _
theorem ju {M i:Nat} (h:i<=M):SetTable.runEnd M i<=M/\i<=SetTable.runEnd M i/\SetTable.runEnd M i<=i + 9:=by
 unfold SetTable.runEnd
 split <;> omega
theorem Qhu (M:Nat) (h:Int):∀ n,(pth M h n).j + (pth M h n).more<=M
 | 0=>by
  have:=ju (Q8e M h 0);show (lpP M h 0).1 + (SetTable.runEnd M (lpP M h 0).1 - (lpP M h 0).1)<=M;omega
 | n + 1=>by
  have q:=Qhu M h n;show (yu M (pth M h n)).j + (yu M (pth M h n)).more<=M;unfold yu
  split
  ·dsimp only; omega
  ·dsimp only;have:=ju (Qe0 M (pth M h n).i (pth M h n).perturb);omega
theorem Qmt (M:Nat) (h:Int) (n:Nat):Jn M h n<=M:=by
 have:=Qhu M h n;unfold Jn; omega
theorem Q7k {M:Nat} {h:Int} {n:Nat} {q:Nat × Nat} (e:pth M h n=Qjk M q):∀ k,k<=SetTable.runEnd M q.1 - q.1->pth M h (n + k)={ j:=q.1 + k,more:=SetTable.runEnd M q.1 - q.1 - k,i:=q.1,perturb:=q.2,dummy:=zb }
 | 0,_=>e
 | k + 1,z=>by
  show yu M (pth M h (n + k))=_;rw [Q7k e k (by omega)];unfold yu;dsimp only;rw [bS (by omega)];congr 1
theorem Qdi (M:Nat) (h:Int):∀ m,∃ n,n<=10 * m/\pth M h n=Qjk M (lpP M h m)
 | 0=>⟨0,by omega,rfl⟩
 | m + 1=>by
  obtain ⟨n,j,e⟩:=Qdi M h m;have b:=ju (Q8e M h m);refine ⟨n + (SetTable.runEnd M (lpP M h m).1 - (lpP M h m).1) + 1,by omega,?_⟩;show yu M (pth M h (n + _))=_;rw [Q7k e _ (O4 _)];unfold yu;dsimp only;rw [bT (by omega)];rfl
def itF (M:Nat):Nat->Nat->Nat
 | 0,i=>i
 | n + 1,i=>itF M n ((i * 5 + 1) % (M + 1))
theorem Q03 (M:Nat):∀ a b i,itF M (a + b) i=itF M b (itF M a i)
 | 0,b,i=>by rw [eL]; rfl
 | a + 1,b,i=>by rw [Nat.succ_add]; exact Q03 M a b _
def orb (M:Nat):Nat->Nat->List Nat
 | 0,_=>[]
 | k + 1,i=>i :: orb M k ((i * 5 + 1) % (M + 1))
theorem Q7w {M:Nat}:∀ {k i j:Nat},j∈orb M k i->∃ n,n < k/\itF M n i=j
 | k + 1,i,j,h=>by
  rcases D5.mp h with rfl | h
  ·exact ⟨0,by omega,rfl⟩
  ·obtain ⟨n,q,e⟩:=Q7w h;exact ⟨n + 1,by omega,e⟩
def HM (M:Nat):Prop:=M=7\/M=31\/M=127
theorem Qn8 {M:Nat} (q:HM M):(∀ j,j < M + 1->j∈orb M (M + 1) 0)/\itF M (M + 1) 0=0:=by
 rcases q with rfl | rfl | rfl
 ·exact ⟨by decide +kernel,by decide +kernel⟩
 ·exact ⟨by decide +kernel,by decide +kernel⟩
 ·exact ⟨by decide +kernel,by decide +kernel⟩
theorem Qs7 {M:Nat} (O:HM M) {i j:Nat} (hi:i<=M) (Z:j<=M):∃ n,n < M + 1/\itF M n i=j:=by
 obtain ⟨o,z⟩:=Qn8 O;obtain ⟨a,U,J⟩:=Q7w (o i (by omega));obtain ⟨b,Y,G⟩:=Q7w (o j (by omega))
 by_cases q:a<=b
 ·refine ⟨b - a,by omega,?_⟩;rw [<- J,<- Q03,show a + (b - a)=b by omega,G]
 ·refine ⟨M + 1 - a + b,by omega,?_⟩;rw [<- J,<- Q03,show a + (M + 1 - a + b)=(M + 1) + b by omega,Q03,z,G]
theorem Qj2 (M:Nat) (h:Int):∀ m,(lpP M h m).2=SetTable.bits h / 32 ^ m
 | 0=>by show SetTable.bits h=_; rw [Nat.pow_zero,Nat.div_one]
 | m + 1=>by
  show (lpP M h m).2 / 32=_;rw [Qj2 M h m,hZ,<- iA]
theorem Qpj (h:Int):SetTable.bits h < 2 ^ 64:=by
 unfold SetTable.bits;have h1:(0:Int) < 2 ^ 64:=by decide
 have:=iB h h1;have:=iC h (show (2:Int) ^ 64≠0 by decide);omega
theorem Quu (M:Nat) (h:Int):∀ n,(lpP M h (12 + n)).1=itF M n (lpP M h 12).1:=by
 have step:∀ m,12<=m->(lpP M h (m + 1)).1=((lpP M h m).1 * 5 + 1) % (M + 1):=fun m hm=>by
  show ((lpP M h m).1 * 5 + 1 + (lpP M h m).2 / 32) % (M + 1)=_;have:(lpP M h m).2 / 32=0:=by
   rw [Qj2,hZ,<- iA];refine Nat.div_eq_of_lt (D0 (Qpj h) ?_);exact E3 (show 2 ^ 64<=32 ^ 13 by decide) (Nat.pow_le_pow_right (by decide) (by omega))
  rw [this,iD]
 have j:∀ n i,itF M (n + 1) i=(itF M n i * 5 + 1) % (M + 1):=fun n i=>Q03 M n 1 i
 intro n
 induction n with
 | zero=>rfl
 | succ n q=>rw [j,<- q]; exact step (12 + n) (by omega)
theorem Qai {M:Nat} (z:HM M) (h:Int) {j:Nat} (q:j<=M):∃ m,m < M + 13/\(lpP M h m).1=j:=by
 obtain ⟨n,G,e⟩:=Qs7 z (Q8e M h 12) q;exact ⟨12 + n,by omega,by rw [Quu,e]⟩
theorem Qff {M:Nat} (z:HM M) (h:Int) {j:Nat} (q:j<=M):∃ n,n<=10 * (M + 12)/\Jn M h n=j:=by
 obtain ⟨m,hm,e⟩:=Qai z h q;obtain ⟨n,G,en⟩:=Qdi M h m;exact ⟨n,by omega,by unfold Jn; rw [en]; exact e⟩
theorem Qcm {M:Nat} (hM:HM M) (h:Int) (G:Nat->Prop) {j:Nat} (Y:j<=M) (ho:¬ G j):∃ N,N<=10 * (M + 12)/\¬ G (Jn M h N)/\∀ m,m < N->G (Jn M h m):=by
 obtain ⟨n,U,e⟩:=Qff hM h Y;have J:∀ n,¬ G (Jn M h n)->∃ N,N<=n/\¬ G (Jn M h N)/\∀ m,m < N->G (Jn M h m):=by
  intro n
  induction n using Nat.strongRecOn with
  | ind n Z=>
   intro U
   by_cases q:∃ m,m < n/\¬ G (Jn M h m)
   ·obtain ⟨m,hm,hx⟩:=q;obtain ⟨N,h1,h2,O⟩:=Z m hm hx;exact ⟨N,by omega,h2,O⟩
   ·refine ⟨n,O4 _,U,fun m hm=>?_⟩;exact Classical.byContradiction fun z=>q ⟨m,hm,z⟩
 obtain ⟨N,h1,h2,O⟩:=J n (by rw [e]; exact ho);exact ⟨N,by omega,h2,O⟩
theorem K4 {t:aW} {i j:Nat} (r:Rise t.place) (hi:t.place[i]?=zo j):t.slot j=.live i:=by
 obtain ⟨J,b⟩:=jn (j:=j) r;have n1:¬ i < SetTable.below t.place j:=fun z=>by have:=(b i j hi).mp z; omega
 have G:=(bx.mp hi).1;have e:SetTable.below t.place j=i:=by
  by_cases z:SetTable.below t.place j < i
  ·have q:SetTable.below t.place j < t.place.size:=by omega
   have l:=r.lt (bq q) hi z;have:=(b _ _ (bq q)).mpr l;omega
  ·omega
 unfold SetTable.slot;dsimp only;rw [e,hi];simp
theorem Qez {t:aW} {j:Nat} (hd:t.dummies=#[]) (h:j∉t.place.toList):t.slot j=.empty:=by
 unfold SetTable.slot SetTable.has;dsimp only;rw [hd];have:¬ (t.place[SetTable.below t.place j]? == zo j)=yo:=fun z=>by
  have z:=eq_of_beq z;rw [<- bp] at z;exact h (D9 z)
 rw [bT this];simp
theorem Qi3 {t:aW} {L:Bool} (g:Good L t) (hashAt:Nat->Int) (h:Int) {N:Nat} (hN:Jn t.mask h N∉t.place.toList) (hl:∀ m,m < N->Jn t.mask h m∈t.place.toList):∀ j n,n<=N->N - n < j ->
  (SetTable.probe.go t hashAt h j (pth t.mask h n)=zo (.empty (Jn t.mask h N) zb)/\∀ m,n<=m->m < N->∀ i,t.place[i]?=zo (Jn t.mask h m)->hashAt i≠h) \/
  (∃ m i,n<=m/\m < N/\t.place[i]?=zo (Jn t.mask h m)/\hashAt i=h/\SetTable.probe.go t hashAt h j (pth t.mask h n)=zo (.candidate (Jn t.mask h m) i (pth t.mask h (m + 1)))/\∀ O,n<=O->O < m->∀ i,t.place[i]?=zo (Jn t.mask h O)->hashAt i≠h):=by
 intro j
 induction j with
 | zero=>intro n _ h2; omega
 | succ j ih=>
  intro n h1 h2;rw [SetTable.probe.go]
  by_cases e:n=N
  ·subst e
   left
   have:=Qez g.2.1 hN;unfold Jn at this ⊢;rw [this,Q61];exact ⟨rfl,fun m h3 Y=>by omega⟩
  ·have hm:=hl n (by omega);obtain ⟨i,hi,ei⟩:=F8 hm;have hv:t.place[i]?=zo (Jn t.mask h n):=by rw [<- bp,O0 hi,ei]
   have hs:=K4 g.1 hv;have uq:∀ J,t.place[J]?=zo (Jn t.mask h n)->J=i:=fun J G=>by
    have:=K4 g.1 G;rw [hs] at this; cases this; rfl
   unfold Jn at hs;rw [hs];dsimp only
   by_cases q:hashAt i=h
   ·right
    refine ⟨n,i,O4 _,by omega,hv,q,?_,fun O h3 Y=>by omega⟩;rw [bS (by simp [q]),Q58];rfl
   ·rw [bT (by simp [q]),Q58];have ad:yu t.mask (pth t.mask h n)=pth t.mask h (n + 1):=rfl;rw [ad];rcases ih (n + 1) (by omega) (by omega) with ⟨a1,Z⟩ | ⟨m,J,a1,Z,a3,a4,a5,a6⟩
    ·left
     refine ⟨a1,fun m h3 Y J G=>?_⟩
     by_cases z:m=n
     ·subst z; rw [uq J G]; exact q
     ·exact Z m (by omega) Y J G
    ·right
     refine ⟨m,J,by omega,Z,a3,a4,a5,fun O h3 Y i2 U=>?_⟩
     by_cases z:O=n
     ·subst z; rw [uq i2 U]; exact q
     ·exact a6 O (by omega) Y i2 U
def Rch (M:Nat) (occ:Nat->Prop) (h:Int) (j:Nat):Prop:=∃ n,Jn M h n=j/\∀ m,m < n->occ (Jn M h m)
theorem Rch.mono {M:Nat} {z q:Nat->Prop} {h:Int} {j:Nat} (r:Rch M z h j) (k:∀ x,z x->q x):Rch M q h j:=let ⟨n,e,f⟩:=r; ⟨n,e,fun m hm=>k _ (f m hm)⟩
def SzM (M n:Nat):Prop:=M=7/\n<=4\/M=31/\n<=18\/M=127/\n<=76
def SzP (M n:Nat):Prop:=M=7/\n<=5\/M=31/\n<=19\/M=127/\n<=76
theorem SzM.hm {M n:Nat} (s:SzM M n):HM M:=by unfold SzM at s; unfold HM; omega
structure HG0 (L:Bool) (t:aW) (hs:List Int):Prop where
 good:Good L t
 len:t.place.size=hs.length
 le:∀ j,j∈t.place.toList->j<=t.mask
 rch:∀ (i j:Nat) (h:Int),t.place[i]?=zo j->hs[i]?=zo h->Rch t.mask (·∈t.place.toList) h j
structure HG (L:Bool) (t:aW) (hs:List Int):Prop extends HG0 L t hs where
 sz:SzM t.mask hs.length
theorem HG.fits {L:Bool} {t:aW} {hs:List Int} (g:HG L t hs):t.fits hs.length=yo:=by
 unfold SetTable.fits SetTable.fill;rw [g.good.2.1,g.len];have:=g.sz;unfold SzM at this;simp;omega
theorem Qdf:∀ (n:Nat) (l:List Nat),l.length < n->∃ j,j < n/\j∉l
 | 0,l,h=>by omega
 | n + 1,l,h=>by
  by_cases q:n∈l
  ·have hp:0 < l.length:=iE q;obtain ⟨j,h1,h2⟩:=Qdf n (l.erase n) (by rw [iF q]; omega);exact ⟨j,by omega,fun z=>h2 ((iG (by omega)).mpr z)⟩
  ·exact ⟨n,by omega,q⟩
theorem HG.free {L:Bool} {t:aW} {hs:List Int} (g:HG L t hs) (h:Int):∃ N,N<=10 * (t.mask + 12)/\Jn t.mask h N∉t.place.toList/\∀ m,m < N->Jn t.mask h m∈t.place.toList:=by
 have sz:=g.sz;unfold SzM at sz;obtain ⟨j,h1,h2⟩:=Qdf (t.mask + 1) t.place.toList (by rw [bj,g.len]; omega);exact Qcm g.sz.hm h (·∈t.place.toList) (eU h1) h2
theorem Qjr (L:Bool):HG L (.fresh 0 0 L) [] where
 good:=⟨fK,rfl,rfl⟩
 len:=rfl
 le:=fun j h=>by cases h
 rch:=fun i j h e=>by simp [SetTable.fresh] at e
 sz:=.inl ⟨rfl,by simp⟩
theorem HG.put {L:Bool} {t:aW} {hs:List Int} (g:HG L t hs) {h:Int} {N:Nat} (Y:Jn t.mask h N∉t.place.toList) (Z:∀ m,m < N->Jn t.mask h m∈t.place.toList) :
  HG0 L (t.put (Jn t.mask h N)).1 (hs.take (SetTable.below t.place (Jn t.mask h N)) ++ h :: hs.drop (SetTable.below t.place (Jn t.mask h N))):=by
 generalize O:Jn t.mask h N=j at Y;have b:=(jn (j:=j) g.good.1).1;have gl:=g.len;generalize hp:SetTable.below t.place j=p at b;have ep:(t.put j).1.place.toList=t.place.toList.take p ++ j :: t.place.toList.drop p:=by
  show (SetTable.insertAt t.place (SetTable.below t.place j) j).toList=_;rw [SetTable.toList_insertAt,hp]
 have U:(t.put j).1.mask=t.mask:=rfl;have sub:∀ x,x∈t.place.toList->x∈(t.put j).1.place.toList:=fun x J=>by
  rw [ep];rw [<- fW p t.place.toList] at J;rcases E8.mp J with q | q
  ·exact E8.mpr (.inl q)
  ·exact E8.mpr (.inr (O5 _ q))
 have tl:(t.place.toList.take p).length=p:=by rw [cY,bj]; omega
 have G:(hs.take p).length=p:=by rw [cY]; omega
 refine ⟨g.good.put Y,?_,fun x J=>?_,fun i x h' e1 e2=>?_⟩
 ·have:(t.put j).1.place.toList.length=hs.length + 1:=by
   rw [ep,D4,D7,tl,cy,bj]; omega
  rw [<- bj,this,D4,D7,G,cy]; omega
 ·rw [U];rw [ep] at J;rcases E8.mp J with q | q
  ·exact g.le x (List.mem_of_mem_take q)
  ·rcases D5.mp q with q | q
   ·rw [q,<- O]; exact Qmt _ _ _
   ·exact g.le x (gv q)
 ·rw [<- bp,ep] at e1;rw [U]
  by_cases q:i < p
  ·rw [D3 (by omega),iH,bS q,bp] at e1;rw [D3 (by omega),iH,bS q] at e2;exact (g.rch i x h' e1 e2).mono sub
  ·rw [D6 (by omega),tl] at e1;rw [D6 (by omega),G] at e2
   by_cases z:i=p
   ·subst z;rw [cB] at e1 e2;have e1:j=x:=by simpa using e1
    have e2:h=h':=by simpa using e2
    subst e1; subst e2;exact ⟨N,O,fun m hm=>sub _ (Z m hm)⟩
   ·obtain ⟨k,rfl⟩:∃ k,i=p + 1 + k:=⟨i - p - 1,by omega⟩;rw [show p + 1 + k - p=k + 1 by omega,dg,iI,bp] at e1;rw [show p + 1 + k - p=k + 1 by omega,dg,iI] at e2;exact (g.rch (p + k) x h' e1 e2).mono sub
theorem Qp6 {M:Nat} {owner:Array (Option Nat)} (h:Int):∀ J m n,pth M h n=Qjk M (lpP M h m)->(∀ G,G < n->∃ k,owner[Jn M h G]?=zo (zo k))->owner.size=M + 1 ->
  (∃ G,m<=G/\G < m + J/\owner[(lpP M h G).1]?=zo zb) ->
  ∃ n',SetTable.layClean.free M owner J (lpP M h m).1 (lpP M h m).2=zo (Jn M h n')/\owner[Jn M h n']?=zo zb/\∀ G,G < n'->∃ k,owner[Jn M h G]?=zo (zo k):=by
 intro J
 induction J with
 | zero=>rintro m n _ _ _ ⟨G,h1,h2,_⟩; omega
 | succ J ih=>
  intro m n en Y hsz a1;rw [SetTable.layClean.free];have a2:=Q8e M h m;have hr:=ju a2;have O:∀ k,k<=SetTable.runEnd M (lpP M h m).1 - (lpP M h m).1->Jn M h (n + k)=(lpP M h m).1 + k:=fun k hk=>by unfold Jn; rw [Q7k en k hk]
  cases z:List.find? (fun k=>(owner.getD ((lpP M h m).1 + k) (zo 0)).isNone) (bY (SetTable.runEnd M (lpP M h m).1 + 1 - (lpP M h m).1)) with
  | some k=>
   dsimp only;have z1:=List.find?_some z;obtain ⟨z0,Z,bs,e1,z2⟩:=List.find?_eq_some_iff_append.mp z;have hk:k < SetTable.runEnd M (lpP M h m).1 + 1 - (lpP M h m).1:=cW.mp (List.mem_of_find?_eq_some z);have ok:∀ j,j < k->∃ q,owner[(lpP M h m).1 + j]?=zo (zo q):=fun j a3=>by
    have hm:j∈Z:=by
     have:(bY (SetTable.runEnd M (lpP M h m).1 + 1 - (lpP M h m).1))[j]?=zo j:=by rw [eV (by omega)]
     have a5:Z.length=k:=by
      have q1:(Z ++ k :: bs)[Z.length]?=zo k:=by rw [D6 (O4 _),cB]; rfl
      rw [<- e1,eV (by
       have:=congrArg dY e1;rw [F0,D4,D7] at this;omega)] at q1
      cases q1; rfl
     rw [e1,D3 (by omega)] at this;exact D9 this
    have:=z2 j hm;have U:(lpP M h m).1 + j < owner.size:=by omega
    simp [dL,U] at this;rw [bq U];cases q:owner[(lpP M h m).1 + j] with
    | none=>rw [q] at this; simp at this
    | some v=>exact ⟨v,rfl⟩
   have U:(lpP M h m).1 + k < owner.size:=by omega
   refine ⟨n + k,by rw [O k (by omega)],?_,fun G a4=>?_⟩
   ·rw [O k (by omega),bq U];simp [dL,U] at z1;rw [z1]
   ·by_cases q:G < n
    ·exact Y G q
    ·obtain ⟨j,rfl⟩:∃ j,G=n + j:=⟨G - n,by omega⟩;rw [O j (by omega)];exact ok j (by omega)
  | none=>
   dsimp only;have z1:=List.find?_eq_none.mp z;have ok:∀ j,j<=SetTable.runEnd M (lpP M h m).1 - (lpP M h m).1->∃ q,owner[(lpP M h m).1 + j]?=zo (zo q):=fun j a3=>by
    have:=z1 j (cW.mpr (by omega));have U:(lpP M h m).1 + j < owner.size:=by omega
    simp [dL,U] at this;rw [bq U];cases q:owner[(lpP M h m).1 + j] with
    | none=>rw [q] at this; simp at this
    | some v=>exact ⟨v,rfl⟩
   have nx:pth M h (n + (SetTable.runEnd M (lpP M h m).1 - (lpP M h m).1) + 1)=Qjk M (lpP M h (m + 1)):=by
    show yu M (pth M h (n + _))=_;rw [Q7k en _ (O4 _)];unfold yu;dsimp only;rw [bT (by omega)];rfl
   refine ih (m + 1) _ nx (fun G a4=>?_) hsz ?_
   ·by_cases q:G < n
    ·exact Y G q
    ·obtain ⟨j,rfl⟩:∃ j,G=n + j:=⟨G - n,by omega⟩;rw [O j (by omega)];exact ok j (by omega)
   ·obtain ⟨G,h1,h2,h3⟩:=a1;have ne:G≠m:=fun e=>by
     subst e;obtain ⟨q,hq⟩:=ok 0 (by omega);rw [iD,h3] at hq;cases hq
    exact ⟨G,by omega,by omega,h3⟩
structure OwnT (M:Nat) (hs:List Int) (owner:Array (Option Nat)) (k:Nat):Prop where
 sz:owner.size=M + 1
 cnt:owner.toList.countP eW + k=M + 1
 inj:∀ (i j:Nat) (x:Nat),owner[i]?=zo (zo x)->owner[j]?=zo (zo x)->i=j
 lt:∀ (i:Nat) (x:Nat),owner[i]?=zo (zo x)->x < k
 all:∀ x:Nat,x < k->∃ i:Nat,owner[i]?=zo (zo x)
 rch:∀ (i:Nat) (x:Nat) (h:Int),owner[i]?=zo (zo x)->hs[x]?=zo h->Rch M (fun (j:Nat)=>∃ y,owner[j]?=zo (zo y)) h i
theorem Qie {M:Nat} (hM:HM M) {hs:List Int} {owner:Array (Option Nat)} {k:Nat} (o:OwnT M hs owner k) {h:Int} (hk:hs[k]?=zo h) (a3:k < M + 1) :
  ∃ j,SetTable.layClean.free M owner (SetTable.turns M) (SetTable.bits h % (M + 1)) (SetTable.bits h)=zo j/\OwnT M hs (owner.setIfInBounds j (zo k)) (k + 1):=by
 have pos:0 < owner.toList.countP eW:=by have:=o.cnt; omega
 obtain ⟨v,hv,e⟩:=List.countP_pos_iff.mp pos;obtain ⟨j0,U,a1⟩:=F8 hv;have G:owner[j0]?=zo zb:=by
  rw [<- bp,O0 U,a1];cases v with
  | none=>rfl
  | some _=>cases e
 have Y:j0<=M:=by have:=(bx.mp G).1; rw [o.sz] at this; omega
 obtain ⟨m',a2,O⟩:=Qai hM h Y;obtain ⟨Z,e1,e2,e3⟩:=Qp6 (M:=M) (owner:=owner) h (SetTable.turns M) 0 0 rfl (fun m' a2=>by omega) o.sz ⟨m',G9 _,by unfold SetTable.turns; omega,by rw [O]; exact G⟩;refine ⟨Jn M h Z,e1,?_⟩;generalize hj:Jn M h Z=j at e2;have hb:=(bx.mp e2).1;have g:∀ i:Nat,(owner.setIfInBounds j (zo k))[i]?=if j=i then zo (zo k) else owner[i]?:=fun i=>by
  rw [Array.getElem?_setIfInBounds]
  by_cases q:j=i
  ·rw [bS q,bS q,bS hb]
  ·rw [bT q,bT q]
 have up:∀ x:Nat,(∃ y,owner[x]?=zo (zo y))->∃ y,(owner.setIfInBounds j (zo k))[x]?=zo (zo y):=fun x ⟨y,hy⟩=>by
  rw [g]
  by_cases q:j=x
  ·exact ⟨k,by rw [bS q]⟩
  ·exact ⟨y,by rw [bT q]; exact hy⟩
 refine ⟨by rw [Array.size_setIfInBounds]; exact o.sz,?_,fun a b x h1 h2=>?_,fun i x h1=>?_,fun x hx=>?_,fun i x h' h1 h2=>?_⟩
 ·rw [Array.toList_setIfInBounds];have J:j < owner.toList.length:=by simpa using hb
  have c:=List.countP_set (p:=eW) (l:=owner.toList) (i:=j) (a:=zo k) J;have ej:owner.toList[j]=zb:=by
   have:=e2;rw [<- bp,O0 J] at this;exact br this
  rw [c];simp only [ej];show List.countP eW owner.toList - 1 + 0 + (k + 1)=M + 1;have:=o.cnt;omega
 ·rw [g] at h1 h2
  by_cases q:j=a <;> by_cases z:j=b
  ·omega
  ·rw [bS q] at h1;rw [bT z] at h2;cases h1;have:=o.lt _ _ h2;omega
  ·rw [bT q] at h1;rw [bS z] at h2;cases h2;have:=o.lt _ _ h1;omega
  ·rw [bT q] at h1;rw [bT z] at h2;exact o.inj a b x h1 h2
 ·rw [g] at h1
  by_cases q:j=i
  ·rw [bS q] at h1; cases h1; omega
  ·rw [bT q] at h1;have:=o.lt _ _ h1;omega
 ·by_cases q:x=k
  ·subst q; exact ⟨j,by rw [g,bS rfl]⟩
  ·obtain ⟨i,hi⟩:=o.all x (by omega);refine ⟨i,?_⟩;rw [g,bT]
   ·exact hi
   ·intro z; subst z; rw [e2] at hi; cases hi
 ·rw [g] at h1
  by_cases q:j=i
  ·rw [bS q] at h1; cases h1;rw [hk] at h2; cases h2;refine ⟨Z,by rw [hj,q],fun m hm=>up _ (e3 m hm)⟩
  ·rw [bT q] at h1;exact (o.rch i x h' h1 h2).mono up
theorem Qn4 {M:Nat} (Y:HM M) (hs:List Int) (J:hs.length<=M):∃ owner,SetTable.layClean M hs.toArray=zo owner/\OwnT M hs owner hs.length:=by
 have z:∀ (rest done:List Int) (owner:Array (Option Nat)),done ++ rest=hs->OwnT M hs owner done.length ->
   ∃ q,cP (fun (acc:Option (Array (Option Nat) × Nat)) h=>do
    let __x <- acc
    match __x with
     | (owner,k)=>do
      let j <- SetTable.layClean.free M owner (SetTable.turns M) (SetTable.bits h % (M + 1)) (SetTable.bits h)
      pure (owner.setIfInBounds j (zo k),k + 1)) (zo (owner,done.length)) rest=zo (q,hs.length)/\OwnT M hs q hs.length:=by
  intro rest
  induction rest with
  | nil=>intro done owner e o; rw [cO] at e; subst e; exact ⟨owner,rfl,o⟩
  | cons h rest O=>
   intro done owner e o;have G:hs[done.length]?=zo h:=by rw [<- e,D6 (O4 _),cB]; rfl
   have hl:done.length < hs.length:=(O1.mp G).1;obtain ⟨j,e1,Z⟩:=Qie Y o G (by omega);obtain ⟨q,e2,U⟩:=O (done ++ [h]) (owner.setIfInBounds j (zo done.length)) (by rw [<- e]; simp) (by rw [D4]; exact Z);refine ⟨q,?_,U⟩;rw [G7];rw [D4] at e2;rw [<- e2];congr 1;show iJ (zo (owner,done.length)) _=_;show iJ (SetTable.layClean.free M owner (SetTable.turns M) (SetTable.bits h % (M + 1)) (SetTable.bits h)) _=_;rw [e1];rfl
 obtain ⟨q,e,o⟩:=z hs [] (Array.replicate (M + 1) zb) rfl ⟨by simp,by simp [List.countP_replicate],fun i j x h1=>by simp [fY] at h1,fun i x h1=>by simp [fY] at h1,fun x hx=>by simp at hx,fun i x h h1=>by simp [fY] at h1⟩;refine ⟨q,?_,o⟩;unfold SetTable.layClean;rw [<- iK];show Option.map _ (cP _ (zo (_,([]:List Int).length)) hs)=_;rw [e];rfl
theorem Qc9 {l m:List Nat} (h1:l.Nodup) (h2:m.Nodup) (h:∀ a,a∈l <-> a∈m):l.Perm m:=(List.perm_ext_iff_of_nodup h1 h2).mpr h
theorem Qf9 {L:Bool} {t:aW} {hs:List Int} {wanted M:Nat} (g:Good L t) (hM:HM M) (hz:SetTable.sizeAbove wanted - 1=M) (a1:hs.length<=M) :
  ∃ t' ,∃ G:List Nat,t.relaid hs.toArray wanted=zo (t',G.toArray)/\G.Perm (bY hs.length)/\t'.mask=M/\HG0 L t' (G.map (fun x=>hs.getD x 0)):=by
 obtain ⟨owner,e,o⟩:=Qn4 hM hs a1;have Z:∀ (l:List Nat) (j x:Nat),(j,x)∈(l.filterMap fun j=>(owner.getD j zb).map (j,·)) <-> j∈l/\owner[j]?=zo (zo x):=by
  intro l j x;rw [dU];have gd:owner.getD j zb=(owner[j]?).getD zb:=by simp [dJ]
  constructor
  ·rintro ⟨y,hy,ey⟩;cases q:owner.getD y zb with
   | none=>rw [q] at ey; cases ey
   | some v=>
    rw [q] at ey;cases ey;rw [gd] at q;refine ⟨hy,?_⟩;cases z:owner[j]? with
    | none=>rw [z] at q; cases q
    | some u=>rw [z] at q; exact congrArg zo q
  ·rintro ⟨h1,h2⟩;exact ⟨j,h1,by rw [gd,h2]; rfl⟩
 have hx:t.relaid hs.toArray wanted=zo ({ mask:=M,place:=(((bY (M + 1)).filterMap fun j=>(owner.getD j zb).map (j,·)).map (·.1)).toArray,dummies:=#[],finger:=t.finger,led:=t.led,moves:=t.movedTo M,plain:=t.plain },(((bY (M + 1)).filterMap fun j=>(owner.getD j zb).map (j,·)).map (·.2)).toArray):=by
  unfold SetTable.relaid SetTable.laid;rw [hz,e];rfl
 refine ⟨_,_,hx,?_,rfl,g.relaid hx,?_,?_,?_⟩
 all_goals generalize hl:((bY (M + 1)).filterMap fun j=>(owner.getD j zb).map (j,·))=O
 all_goals
  have J:∀ j x,(j,x)∈O <-> owner[j]?=zo (zo x):=fun j x=>by
   rw [<- hl,Z];refine ⟨fun q=>q.2,fun q=>⟨?_,q⟩⟩
   have:=(bx.mp q).1;rw [o.sz] at this;exact cW.mpr this
  have pw:O.Pairwise fun a b=>a.1 < b.1:=by
   have:=(g.relaid hx).1;unfold Rise at this;dsimp only at this;rw [hl] at this;exact fV.mp this
  have Y:(O.map (·.2)).Perm (bY hs.length):=by
   refine Qc9 ?_ List.nodup_range fun a=>?_
   ·refine fV.mpr (il (fun {a b} ha hb hab=>?_) pw);intro z;have h1:=(J a.1 a.2).mp ha;have h2:=(J b.1 b.2).mp hb;rw [z] at h1;have:=o.inj _ _ _ h1 h2;omega
   ·rw [L4,cW];constructor
    ·rintro ⟨⟨j,x⟩,hm,rfl⟩;exact o.lt _ _ ((J j x).mp hm)
    ·intro ha;obtain ⟨j,U⟩:=o.all a ha;exact ⟨(j,a),(J j a).mpr U,rfl⟩
 ·exact Y
 ·simp only [O3,O6]
 ·intro j U;have U:j∈O.map (·.1):=by simpa using U
  obtain ⟨⟨a,x⟩,hm,rfl⟩:=L4.mp U;have:=(bx.mp ((J a x).mp hm)).1;rw [o.sz] at this;exact eU this
 ·intro i j h h1 h2;have h1:(O.map (·.1))[i]?=zo j:=by simpa using h1
  rw [D2] at h1;rw [D2,D2] at h2;cases q:O[i]? with
  | none=>rw [q] at h1; cases h1
  | some a=>
   rw [q] at h1 h2;cases h1;cases h2;have hm:=(J a.1 a.2).mp (D9 q);have hk:=o.lt _ _ hm;have he:hs[a.2]?=zo (hs.getD a.2 0):=by rw [E2,O0 hk]; rfl
   refine (o.rch _ _ _ hm he).mono ?_;rintro y ⟨z,hz⟩;show y∈(O.map (·.1)).toArray.toList;exact L4.mpr ⟨(y,z),(J y z).mpr hz,rfl⟩
theorem Qhq {α:Type} (l:List α):(bY l.length).filterMap (fun x=>l[x]?)=l:=by
 induction l with
 | nil=>rfl
 | cons a l j=>
  rw [D7,fP,cf];simp only [gg,gF];congr 1
theorem Qbu {es:List (Int × aA)} {j:List Nat} (p:j.Perm (bY es.length)) :
  (j.filterMap (fun x=>es[x]?)).Perm es/\(j.filterMap (fun x=>es[x]?)).map (·.1)=j.map (fun x=>(es.map (·.1)).getD x 0):=by
 constructor
 ·have:=p.filterMap (fun x=>es[x]?)
  rwa [Qhq] at this
 ·have hm:∀ x∈j,x < es.length:=fun x q=>cW.mp (p.mem_iff.mp q)
  clear p
  induction j with
  | nil=>rfl
  | cons x l G=>
   have q:=hm x (by simp);rw [cf,O0 q];simp only [O8];rw [G fun y z=>hm y (O5 _ z)]
   congr 1;rw [E2,D2,O0 q];rfl
theorem Qp5 {M n:Nat} (h:SzP M n):(decide (n * 5>=M * 3)=yo->∃ j,SetTable.sizeAbove (SetTable.grown n) - 1=j/\¬ SetTable.sizeAbove (SetTable.grown n) > sizeLine/\HM j/\SzM j n/\n<=j)/\(decide (n * 5>=M * 3)=yl->SzM M n):=by
 unfold SzP at h;constructor
 ·intro z;have z:n * 5>=M * 3:=by simpa using z
  have:(M=7/\n=5)\/(M=31/\n=19):=by omega
  rcases this with ⟨rfl,rfl⟩ | ⟨rfl,rfl⟩
  ·exact ⟨31,by decide +kernel,by decide +kernel,.inr (.inl rfl),.inr (.inl ⟨rfl,by decide⟩),by decide⟩
  ·exact ⟨127,by decide +kernel,by decide +kernel,.inr (.inr rfl),.inr (.inr ⟨rfl,by decide⟩),by decide⟩
 ·intro z;have z:¬ n * 5>=M * 3:=by simpa using z
  unfold SzM;omega
end L2
namespace L2
open PySem PySem.Spec PyProof.Rows SeqAt
section
variable {prog:aK} {w:aJ} {A:aM} {E:aA->aC->Prop} {s:aC}
theorem Qck:∀ (m:Nat) (d:Nat) {A:aM} {s:aC} {k:HK} {v:aA} {Q:Bool->aC->Prop},Dp d k->KIs s.heap k v->(∀ b,Q b s)->aF (aI prog w) A (hashByValue m v) Q E s:=by
 intro m
 induction m with
 | zero=>
  intro d A s k v Q G r q;cases k with
  | int i=>obtain ⟨t,rfl⟩:=r; unfold hashByValue; exact wpAny_pure (q _)
  | str i=>obtain ⟨t,rfl⟩:=r; unfold hashByValue; exact wpAny_pure (q _)
  | tup l=>obtain ⟨a,j,rfl,_⟩:=r; unfold hashByValue; exact wpAny_pure (q _)
 | succ m U=>
  intro d A s k v Q G r q;cases k with
  | int i=>obtain ⟨t,rfl⟩:=r; unfold hashByValue; exact wpAny_pure (q _)
  | str i=>obtain ⟨t,rfl⟩:=r; unfold hashByValue; exact wpAny_pure (q _)
  | tup ks=>
   obtain ⟨a,j,rfl,⟨o,J,Z,n,hd⟩,hi⟩:=r;have hT:s.TypeIs (.ref a) "tuple" := ⟨o,J,Z⟩;cases d with
   | zero=>exact G.elim
   | succ d=>
    unfold hashByValue;refine aD (wpAny_specialOf hT F.slot_tuple_hash.lookup ?_);dsimp only;refine aD (bB J hd (aD ?_));show aF _ _ (forIn j _ _) _ _ s;rw [<- dq];refine wpAny_forIn_list _ (fun rest r s'=>s'=s/\∃ l,KIsL s.heap l rest/\∀ k∈l,k∈ks) _ ?_ ?_ _ _ ⟨rfl,ks,hi,fun _ h=>h⟩
    ·rintro v rest r s' ⟨rfl,l,O,z⟩;cases l with
     | nil=>cases O
     | cons k l=>
      obtain ⟨v',r',e,h1,h2⟩:=O;cases e;refine aD (U d (G k (z k (by simp))) h1 fun b=>?_)
      cases b with
      | false=>
       simp only [iL,if_true];refine wpAny_pure ?_
       first | exact wpAny_pure (q _) | exact q _
      | true=>
       simp only [cX,E4,if_false];exact wpAny_pure ⟨rfl,l,h2,fun x hx=>z x (O5 _ hx)⟩
    ·rintro ⟨Y,r2⟩ s' ⟨rfl,_⟩;cases Y with
     | none=>exact wpAny_pure (q _)
     | some b=>exact wpAny_pure (q _)
theorem Q1k:∀ (d:Nat) {A:aM} {s:aC} {k:HK} {v:aA} {Q:Bool->aC->Prop} (m:Nat),d < m->Dp d k->KIs s.heap k v->Q yl s->aF (aI prog w) A (ofAClassStatement m v) Q E s:=by
 intro d
 induction d with
 | zero=>
  intro A s k v Q m hm z r q;cases k with
  | tup l=>exact z.elim
  | int i=>obtain ⟨t,rfl⟩:=r; unfold ofAClassStatement; exact wpAny_pure q
  | str i=>obtain ⟨t,rfl⟩:=r; unfold ofAClassStatement; exact wpAny_pure q
 | succ d Y=>
  intro A s k v Q m hm z r q;cases k with
  | int i=>obtain ⟨t,rfl⟩:=r; unfold ofAClassStatement; exact wpAny_pure q
  | str i=>obtain ⟨t,rfl⟩:=r; unfold ofAClassStatement; exact wpAny_pure q
  | tup ks=>
   obtain ⟨a,J,rfl,⟨o,O,hc,n,hd⟩,hi⟩:=r;have hT:s.TypeIs (.ref a) "tuple" := ⟨o,O,hc⟩;obtain ⟨m,rfl⟩:∃ Z,m=Z + 1:=⟨m - 1,by omega⟩;unfold ofAClassStatement;refine aD (bC hT ?_);dsimp only;rw [bS (by decide)];refine aD (wpAny_pure ?_);simp only [cX,E4,if_false];refine aD (bB O hd ?_);dsimp only;refine aD ?_;rw [<- dq];refine wpAny_forIn_list _ (fun rest r s'=>r.1=zb/\s'=s/\∃ l,KIsL s.heap l rest/\∀ k∈l,k∈ks) _ ?_ ?_ _ _ ⟨rfl,rfl,ks,hi,fun _ h=>h⟩
   ·rintro v rest r s' ⟨G,rfl,l,U,j⟩;cases l with
    | nil=>cases U
    | cons k l=>
     obtain ⟨v',r',e,h1,h2⟩:=U;cases e;refine aD (Y m (by omega) (z k (j k (by simp))) h1 ?_);simp only [E4,if_false];exact wpAny_pure ⟨rfl,rfl,l,h2,fun x hx=>j x (O5 _ hx)⟩
   ·rintro ⟨r1,r2⟩ s' ⟨G,rfl,_⟩;simp only at G;subst G;exact wpAny_pure q
theorem Qm8 {b:aB} {k:HK} (z:(nk prog w).is s.heap k b) {Q:Bool->aC->Prop} (l:List aA) (U:∀ v∈l,∃ c G,v=.ref c/\(nk prog w).is s.heap G c) (q:Q yl s):aF (aI prog w) A (searchCouldBeSeen (.ref b) l) Q E s:=by
 unfold searchCouldBeSeen;refine aD ?_;refine wpAny_forIn_list _ (fun rest r s'=>r.1=zb/\s'=s/\∀ v∈rest,∃ c G,v=.ref c/\(nk prog w).is s.heap G c) _ ?_ ?_ _ _ ⟨rfl,rfl,U⟩
 ·rintro v rest r s' ⟨O,rfl,j⟩;obtain ⟨c,G,rfl,J⟩:=j v (by simp);dsimp only;refine bQ (fun _=>wpAny_pure ⟨rfl,rfl,fun x z=>j x (O5 _ z)⟩) fun _=>?_
  refine aD ((nk prog w).quiet z ?_);simp only [cX,E4,if_false];refine aD ((nk prog w).quiet J ?_);simp only [cX,E4,if_false];refine aD (Q1k 5 8 (by decide) z.2 z.1 ?_);simp only [E4,if_false];refine aD (Q1k 5 8 (by decide) J.2 J.1 ?_);simp only [E4,if_false];exact wpAny_pure ⟨rfl,rfl,fun x z=>j x (O5 _ z)⟩
 ·rintro ⟨Z,Y⟩ s' ⟨O,rfl,_⟩;simp only at O;subst O;exact wpAny_pure q
def ElH (prog:aK) (w:aJ) (B:aB->Prop) (h:Heap) (e:Int × aA) (k:HK):Prop:=∃ b,e.2=.ref b/\(nk prog w).is h k b/\e.1=hkH prog w k/\B b
theorem Qfd {t:aW} {L:Bool} (g:Good L t) {hashAt:Nat->Int} {h:Int} {N:Nat} (G:Jn t.mask h N∉t.place.toList) (J:∀ m,m < N->Jn t.mask h m∈t.place.toList) {j n:Nat} (h1:n<=N) (h2:N - n < j) {q:Option SetTable.Met} (e:SetTable.probe.go t hashAt h j (pth t.mask h n)=q) :
  (q=zo (.empty (Jn t.mask h N) zb)/\∀ m,n<=m->m < N->∀ i,t.place[i]?=zo (Jn t.mask h m)->hashAt i≠h) \/
  (∃ m i,n<=m/\m < N/\t.place[i]?=zo (Jn t.mask h m)/\hashAt i=h/\q=zo (.candidate (Jn t.mask h m) i (pth t.mask h (m + 1)))/\∀ z,n<=z->z < m->∀ i,t.place[i]?=zo (Jn t.mask h z)->hashAt i≠h):=by
 subst e; exact Qi3 g hashAt h G J j n h1 h2
theorem Kp {α β:Type} {F:α->β->Prop}:∀ {l:List α} {ks:List β} {i:Nat} {a:α},aS F l ks->l[i]?=zo a->∃ b,ks[i]?=zo b/\F a b
 | _,_,i,a,.nil,e=>by simp at e
 | _,_,0,a,.cons r t,e=>by simp at e; subst e; exact ⟨_,rfl,r⟩
 | _,_,i + 1,a,.cons r t,e=>by simpa using Kp t (by simpa using e)
theorem Xc {α β:Type} {F:α->β->Prop}:∀ {l:List α} {ks:List β} {i:Nat} {b:β},aS F l ks->ks[i]?=zo b->∃ a,l[i]?=zo a/\F a b
 | _,_,i,b,.nil,e=>by simp at e
 | _,_,0,b,.cons r t,e=>by simp at e; subst e; exact ⟨_,rfl,r⟩
 | _,_,i + 1,b,.cons r t,e=>by simpa using Xc t (by simpa using e)
theorem Qf2 {B:aB->Prop} {L:Bool} {a b:aB} {k:HK} {o:Obj} {es:Array (Int × aA)} {ep:Nat} {t:aW} {ks:List HK} (hu:A.units + 5 < aU) (hx:(nk prog w).is s.heap k b) (ho:s.heap.get? a=zo o) (hd:o.data=.set es ep t) (Z:HG L t (es.toList.map (·.1)))
  (hp:aS (ElH prog w B s.heap) es.toList ks) (nd:ks.Nodup) {N:Nat} (hN:Jn t.mask (hkH prog w k) N∉t.place.toList) (hl:∀ m,m < N->Jn t.mask (hkH prog w k) m∈t.place.toList) (b6:N<=10 * (t.mask + 12)) {Q:SetFound->aC->Prop}
  (h1:k∉ks->Q (.free (Jn t.mask (hkH prog w k) N) yl) s) (h2:k∈ks->Q (.there zb) s) :
  ∀ (J n:Nat) (st:Option SetTable.Probe),st.getD (t.probeStart (hkH prog w k))=pth t.mask (hkH prog w k) n->n<=N->N - n < J->(∀ i:Nat,ks[i]?=zo k->∃ m,n<=m/\m < N/\t.place[i]?=zo (Jn t.mask (hkH prog w k) m))->aF (aI prog w) A (setSearchFrom a (.ref b) (hkH prog w k) yo J st) Q E s:=by
 have U:t.fits es.size=yo:=by have:=Z.fits; rwa [O3,bj] at this
 have b3:t.gaveWay=yl:=by
  have:=Z.sz;unfold SzM at this;unfold SetTable.gaveWay;rcases this with ⟨e,_⟩ | ⟨e,_⟩ | ⟨e,_⟩ <;> rw [e] <;> rfl
 intro J
 induction J with
 | zero=>intro n st _ _ h; omega
 | succ J ih=>
  intro n st b0 hn hf hk;rw [setSearchFrom.eq_2];refine aD (wpAny_setState_of ho hd U ?_);dsimp only;rw [bT (by rw [b3]; exact O7),b0];generalize a4:SetTable.probe t _ _ _=pr;unfold SetTable.probe at a4;rcases Qfd Z.good hN hl hn (by unfold SetTable.turns; omega) a4 with ⟨e1,e2⟩ | ⟨m,i,c1,c2,c3,c4,e1,c6⟩
  ·subst e1;dsimp only;refine wpAny_pure (h1 fun hm=>?_);obtain ⟨i,hi,ei⟩:=F8 hm;have a7:ks[i]?=zo k:=by rw [O0 hi,ei]
   obtain ⟨m,m1,m2,m3⟩:=hk i a7;obtain ⟨e,Y,c,_,_,hh,_⟩:=Xc hp a7;refine e2 m m1 m2 i m3 ?_;show ((es[i]?).map (·.1)).getD 0=_;rw [<- bp,Y];exact hh
  ·subst e1;dsimp only;have c4:((es[i]?).map (·.1)).getD 0=hkH prog w k:=c4;have a9:i < es.size:=by
    have:=(bx.mp c3).1;rw [Z.len,O3,bj] at this;exact this
   have b1:es.toList[i]?=zo es[i]:=by rw [bp,bq a9]
   obtain ⟨k',a5,c,ec,hc,hh,_⟩:=Kp hp b1;have a6:es[i]?=zo (es[i].1,.ref c):=by rw [bq a9,<- ec]
   have go:aF (aI prog w) A
     (match es[i]? with
      | some (a8,y)=>do
       let equal <- au [y] (eqBool y (.ref b))
       let __x <- setState a
       match __x with
        | (b4,a8,t')=>
         if (yo && equal)=yo then pure (SetFound.there zb)
         else
          match t'.sameMemory t.moves t.mask with
          | some same=>
           have G:=fun j=>
            match j with
            | none=>do
             rule "set.search.anew"
             setSearchFrom a (.ref b) (hkH prog w k) yo J zb
            | some i'=>
             if equal=yo then pure (SetFound.there (zo i'))
             else setSearchFrom a (.ref b) (hkH prog w k) yo J (zo (pth t.mask (hkH prog w k) (m + 1)));
           match if same=yo then t'.slot (Jn t.mask (hkH prog w k) m) else SetTable.Slot.empty with
           | SetTable.Slot.live i'=>
            match b4[i']? with
            | some (a8,y')=>do
             let __do_lift <- isSame y' y
             let j <- pure (if __do_lift=yo then zo i' else zb)
             G j
            | none=>do
             let j <- pure zb
             G j
           | x=>do
            let j <- pure zb
            G j
          | x=>unsupported "set.changed-during-lookup:is-the-new-block-at-the-old-address"
      | x=>unsupported "internal:set-entry") Q E s:=by
    rw [a6];dsimp only;refine aD (ae ((nk prog w).eqBool hu hc hx ?_));refine aD (wpAny_setState_of ho hd U ?_);dsimp only
    by_cases q:k'=k
    ·rw [bV q,bS (by decide)];exact wpAny_pure (h2 (by rw [<- q]; exact D9 a5))
    ·rw [bU q,bT (by decide)];have sm:t.sameMemory t.moves t.mask=zo yo:=by unfold SetTable.sameMemory; rw [bS (by simp)]
     rw [sm];dsimp only;rw [bS rfl,K4 Z.good.1 c3];dsimp only;rw [a6];dsimp only;refine aD (wpAny_isSame_ref_self ?_);refine aD (wpAny_pure ?_);rw [bS rfl];dsimp only;rw [bT O7];refine ih (m + 1) _ rfl (by omega) (by omega) fun i2 O=>?_
     obtain ⟨m2,a1,a2,a3⟩:=hk i2 O;obtain ⟨e,Y,c',_,_,b2,_⟩:=Xc hp O;have ne:m2≠m:=fun z=>by
      subst z;have:=K4 Z.good.1 c3;rw [K4 Z.good.1 a3] at this;cases this;rw [a5] at O;cases O;exact q rfl
     have nl:¬ m2 < m:=fun z=>by
      refine c6 m2 a1 z i2 a3 ?_;show ((es[i2]?).map (·.1)).getD 0=_;rw [<- bp,Y];exact b2
     exact ⟨m2,by omega,a2,a3⟩
   cases b5:t.led with
   | true=>simp only [cX,E4,if_false]; exact go
   | false=>
    simp only [iL,if_true];refine aD (Qm8 hx _ (fun v hv=>?_) ?_)
    ·obtain ⟨e,Y,rfl⟩:=L4.mp hv;have Y:e∈es:=by
      have:e∈(Array.filter (fun x=>x.1 == hkH prog w k) es):=by simpa using Y
      exact (Array.mem_filter.mp this).1
     obtain ⟨k2,_,c2,q1,q2,_⟩:=ja hp (fC.mpr Y);exact ⟨c2,k2,q1,q2⟩
    ·simp only [E4,if_false];exact go
end
end L2
namespace L2
open PySem PySem.Spec PyProof.Rows SeqAt
section
variable {prog:aK} {w:aJ} {A:aM} {E:aA->aC->Prop} {s:aC} {B:aB->Prop}
def GH (prog:aK) (w:aJ) (B:aB->Prop) (L:Bool) (h:Heap) (a:aB) (ks:List HK):Prop:=
 ∃ o es ep t,h.get? a=zo o/\o.ExactSet/\o.data=.set es ep t/\(∃ ks',ks'.Perm ks/\aS (ElH prog w B h) es.toList ks')/\ks.Nodup/\HG L t (es.toList.map (·.1))
theorem ElH.keep {h h':Heap} (q:∀ a its,IsTup h a its->IsTup h' a its) {e:Int × aA} {k:HK} (x:ElH prog w B h e k):ElH prog w B h' e k:=let ⟨b,e1,e2,e3,j⟩:=x; ⟨b,e1,⟨KIs.keep q 5 e2.2 e2.1,e2.2⟩,e3,j⟩
theorem yb {α β:Type} {F G:α->β->Prop} (f:∀ a b,F a b->G a b):∀ {l:List α} {ks:List β},aS F l ks->aS G l ks
 | _,_,.nil=>.nil
 | _,_,.cons r t=>.cons (f _ _ r) (yb f t)
theorem GH.at {L:Bool} {h h':Heap} {a:aB} {ks:List HK} (g:GH prog w B L h a ks) (k:∀ o,h.get? a=zo o->h'.get? a=zo o) (z:∀ a its,IsTup h a its->IsTup h' a its):GH prog w B L h' a ks:=by
 obtain ⟨o,es,ep,t,h1,h2,q,⟨j,p,r⟩,h5,h6⟩:=g;exact ⟨o,es,ep,t,k o h1,h2,q,⟨j,p,yb (fun _ _=>ElH.keep z) r⟩,h5,h6⟩
theorem Q9i {h:Heap} {a:aB} {o:Obj} {es:Array (Int × aA)} {ep:Nat} {t:aW} (q:h.get? a=zo o) (hd:o.data=.set es ep t) (its:Array aA):¬ IsTup h a its:=fun ⟨o',h1,_,n,j⟩=>by
 rw [q] at h1; cases h1; rw [hd] at j; cases j
theorem Q9c {h h':Heap} {a:aB} {o:Obj} {es:Array (Int × aA)} {ep:Nat} {t:aW} (q:h.get? a=zo o) (hd:o.data=.set es ep t) (j:Heap.SameBut a h h') (b:aB) (its:Array aA) (x:IsTup h b its):IsTup h' b its:=by
 by_cases e:b=a
 ·subst e; exact absurd x (Q9i q hd its)
 ·obtain ⟨o',h1,h2⟩:=x;exact ⟨o',(j.2 b e).trans h1,h2⟩
theorem zk {α β:Type} {F:α->β->Prop} {a:α} {b:β} (r:F a b):∀ {l:List α} {ks:List β} (p:Nat),aS F l ks->aS F (l.take p ++ a :: l.drop p) (ks.take p ++ b :: ks.drop p)
 | _,_,0,h=>by simpa using Paired.cons r h
 | _,_,p + 1,.nil=>by simpa using Paired.cons r .nil
 | _,_,p + 1,.cons j t=>by simpa using Paired.cons j (zk r p t)
theorem Qar {h:Heap} {a:aB} {o:Obj} {es j:Array (Int × aA)} {ep:Nat} {t t':aW} {q:List HK} (z:h.get? a=zo o) (O:o.ExactSet) (hd:o.data=.set es ep t) (J:aS (ElH prog w B h) j.toList q) :
  ∃ o',(h.update a (dj j t')).get? a=zo o'/\o'.ExactSet/\o'.data=.set j (ep + 1) t'/\Heap.SameBut a h (h.update a (dj j t'))/\aS (ElH prog w B (h.update a (dj j t'))) j.toList q:=by
 have e:=F6 (dj j t') z (by rw [putSet_of j t' hd]; rfl);rw [putSet_of j t' hd] at e;have G:=Heap.SameBut.update h a (dj j t');exact ⟨_,e,O,rfl,G,yb (fun _ _=>ElH.keep (Q9c z hd G)) J⟩
theorem HG0.unplain {L:Bool} {t:aW} {hs:List Int} (g:HG0 L t hs):HG0 L { t with plain:=yl } hs:=⟨g.good,g.len,g.le,g.rch⟩
theorem Q8t {L:Bool} {a:aB} {o:Obj} {es j:Array (Int × aA)} {ep:Nat} {t G:aW} {O:List HK} (ho:s.heap.get? a=zo o) (hx:o.ExactSet) (hd:o.data=.set es ep t) (hr:aS (ElH prog w B s.heap) j.toList O) (hn:O.Nodup)
  (hg:HG0 L G (j.toList.map (·.1))) (hz:SzP G.mask j.size) {n:Nat} (en:n=j.size) {Q:Bool->aC->Prop} (h:∀ h',Heap.SameBut a s.heap h'->GH prog w B L h' a O->Q yo { s with heap:=h' }) :
  aF (aI prog w) A (do
    storeSet a j G
    if (!false && G.tooFull)=yo then do
        setRelay a (SetTable.grown n)
        pure yo
     else pure yo) Q E s:=by
 have hb:j.size<=sizeLine:=by rw [sizeLine_eq]; unfold SzP at hz; omega
 refine aD (wpAny_storeSet_of ho hd ?_ hb);obtain ⟨o1,e1,x1,d1,Z,r1⟩:=Qar (t':=G) ho hx hd hr;have J:G.fill=j.size:=by
  unfold SetTable.fill;rw [hg.good.2.1,hg.len,O3,bj];rfl
 have a2:G.tooFull=decide (j.size * 5>=G.mask * 3):=by unfold SetTable.tooFull; rw [J]
 obtain ⟨f1,f2⟩:=Qp5 hz;have a1:G.fits j.size=yo:=by
  unfold SetTable.fits;rw [J,hg.len,O3,bj];unfold SzP at hz;simp;omega
 rw [a2];cases z:decide (j.size * 5>=G.mask * 3) with
 | false=>
  rw [bT (by simp)];refine wpAny_pure (h _ Z ⟨o1,j,_,G,e1,x1,d1,⟨O,cS _,r1⟩,hn,⟨hg,?_⟩⟩);rw [O3,bj];exact f2 z
 | true=>
  rw [bS (by simp)];obtain ⟨M',y1,y2,y3,y4,y5⟩:=f1 z;obtain ⟨t2,q,p1,p2,p3,p4⟩:=Qf9 (t:=G) (hs:=j.toList.map (·.1)) (wanted:=SetTable.grown n) hg.good y3 (by rw [en]; exact y1) (by rw [O3,bj]; exact y5);rw [O3] at p2;obtain ⟨q1,q2⟩:=Qbu p2;refine aD ?_;unfold setRelay;refine aD (wpAny_setState_of e1 d1 a1 ?_);dsimp only;rw [bT (by rw [en]; exact y2)];have eh:(Array.map (fun x=>x.1) j)=(j.toList.map (·.1)).toArray:=by
   apply Array.ext';rw [Array.toList_map]
  rw [eh,p1];refine aD ?_;generalize U:iM (fun x=>j[x]?) q.toArray=Y;have e2:Y.toList=q.filterMap (fun x=>j.toList[x]?):=by
   rw [<- U,Array.toList_filterMap];simp only [bp]
  rw [<- e2] at q1 q2;have hsz:Y.size=j.size:=by rw [<- bj,q1.length_eq,bj]
  show aF _ _ (if (Array.size (iM (fun x=>j[x]?) q.toArray) != j.size)=yo then _ else _) _ _ _;rw [U,bT (by rw [hsz]; simp)];refine wpAny_pure ?_;dsimp only;refine wpAny_storeSet_of e1 d1 ?_ (by rw [hsz]; exact hb);obtain ⟨a4,r2,p5⟩:=Q9y q1 r1;obtain ⟨o2,e3,x3,d3,a3,r3⟩:=Qar (t':=t2) e1 x1 d1 r2;refine wpAny_pure (h _ (Z.trans a3) ⟨o2,Y,_,t2,e3,x3,d3,⟨a4,p5,r3⟩,hn,⟨?_,?_⟩⟩)
  ·rw [q2]; exact p4
  ·rw [O3,bj,hsz,p3]; exact y4
theorem Qs8 {L:Bool} {a b:aB} {ks:List HK} {k:HK} {Q:Bool->aC->Prop} (hu:A.units + 5 < aU) (hx:(nk prog w).is s.heap k b) (hB:B b) (g:GH prog w B L s.heap a ks) (b1:ks.length + 1<=76)
  (h:∀ b h',Heap.SameBut a s.heap h'->GH prog w B L h' a (Zf ks k)->Q b { s with heap:=h' }):aF (aI prog w) A (setAddHashed a (.ref b) (hkH prog w k)) Q E s:=by
 obtain ⟨o,es,ep,t,Y,q,hd,⟨j,Z,r0⟩,hn,hg⟩:=g;have a9:j.Nodup:=(Z.nodup_iff).mpr hn;have b0:es.size=j.length:=by rw [<- bj,Paired.length r0]
 have b2:j.length=ks.length:=Z.length_eq;have O:t.fits es.size=yo:=by have:=hg.fits; rwa [O3,bj] at this
 obtain ⟨N,n1,n2,n3⟩:=hg.free (hkH prog w k);unfold setAddHashed;refine ae ?_;rw [setAddHashedIn.eq_def];dsimp only;refine aD (wpAny_setState_of Y hd O ?_);dsimp only;rw [bT (by unfold byScan; simp [Value.scannable])];refine aD ?_;unfold setSearch;refine Qf2 hu hx Y hd hg r0 a9 n2 n3 n1 (fun km=>?_) (fun km=>?_) 100000 0 zb rfl (G9 _) ?_ fun i hi=>?_
 ·dsimp only;refine aD (wpAny_setState_of Y hd O ?_);dsimp only;have a4:k∉ks:=fun z=>km (Z.mem_iff.mpr z)
  have ea:Zf ks k=ks ++ [k]:=by unfold Zf; rw [bT a4]
  have hr:=zk (F:=ElH prog w B s.heap) (a:=(hkH prog w k,ba b)) (b:=k) ⟨b,rfl,hx,rfl,hB⟩ (SetTable.below t.place (Jn t.mask (hkH prog w k) N)) r0;rw [<- SetTable.toList_insertAt] at hr;have a3:(j.take (SetTable.below t.place (Jn t.mask (hkH prog w k) N)) ++ k :: j.drop (SetTable.below t.place (Jn t.mask (hkH prog w k) N))).Perm (Zf ks k):=by
   rw [ea];refine List.perm_middle.trans ?_;rw [fW];exact (Z.cons k).trans (List.perm_append_comm (l₁:=[k]))
  have a6:(Zf ks k).Nodup:=by
   rw [ea];exact dM.mpr ⟨hn,by simp,fun x a1 y hy e=>by
    have:y=k:=by simpa using hy
    rw [e,this] at a1; exact a4 a1⟩
  have U:=a3.nodup_iff.mpr a6;have J:=hg.put n2 n3;have a8:(SetTable.insertAt es (SetTable.below t.place (Jn t.mask (hkH prog w k) N)) (hkH prog w k,ba b)).toList.map (·.1)=(es.toList.map (·.1)).take (SetTable.below t.place (Jn t.mask (hkH prog w k) N)) ++ hkH prog w k :: (es.toList.map (·.1)).drop (SetTable.below t.place (Jn t.mask (hkH prog w k) N)):=by
   rw [SetTable.toList_insertAt,E5,O8,iN,iO]
  rw [<- a8] at J;have G:(SetTable.insertAt es (SetTable.below t.place (Jn t.mask (hkH prog w k) N)) (hkH prog w k,ba b)).size=es.size + 1:=by
   rw [<- bj,SetTable.toList_insertAt,D4,D7,<- du,<- D4,fW,bj]
  have hsz:SzP (t.put (Jn t.mask (hkH prog w k) N)).1.mask (SetTable.insertAt es (SetTable.below t.place (Jn t.mask (hkH prog w k) N)) (hkH prog w k,ba b)).size:=by
   rw [G];show SzP t.mask (es.size + 1);have:=hg.sz;rw [O3,bj] at this;unfold SzM at this;unfold SzP;omega
  have fin:∀ h',Heap.SameBut a s.heap h'->GH prog w B L h' a (j.take (SetTable.below t.place (Jn t.mask (hkH prog w k) N)) ++ k :: j.drop (SetTable.below t.place (Jn t.mask (hkH prog w k) N)))->Q yo { s with heap:=h' }:=fun h' sb gh=>by
   refine h yo h' sb ?_;obtain ⟨o,es,ep,t,y1,y2,y3,⟨y4,y5,y6⟩,y7,y8⟩:=gh;exact ⟨o,es,ep,t,y1,y2,y3,⟨y4,y5.trans a3,y6⟩,a6,y8⟩
  by_cases zp:t.plain=yo
  ·rw [bS (show (t.put (Jn t.mask (hkH prog w k) N)).1.plain=yo from zp)];refine aD (Qck 8 5 hx.2 hx.1 fun bv=>?_);cases bv with
   | true=>
    simp only [if_true];exact Q8t (n:=es.size + 1) Y q hd hr U J hsz G.symm fin
   | false=>
    simp only [E4,if_false];exact Q8t (n:=es.size + 1) Y q hd hr U J.unplain hsz G.symm fin
  ·rw [bT (show ¬ (t.put (Jn t.mask (hkH prog w k) N)).1.plain=yo from zp)];refine aD (wpAny_pure ?_);simp only [if_true];exact Q8t (n:=es.size + 1) Y q hd hr U J hsz G.symm fin
 ·dsimp only;have e:s={ s with heap:=s.heap }:=by cases s; rfl
  rw [e];refine wpAny_pure (h _ s.heap (Heap.SameBut.refl a s.heap) ?_);unfold Zf;rw [bS (Z.mem_iff.mp km)];exact ⟨o,es,ep,t,Y,q,hd,⟨j,Z,r0⟩,hn,hg⟩
 ·have:=hg.sz; unfold SzM at this; omega
 ·obtain ⟨e,he,c,e1,e2,e3,_⟩:=Xc r0 hi;have a5:i < t.place.size:=by
   have:=(O1.mp he).1;rw [hg.len,O3]; exact this
  have a2:t.place[i]?=zo t.place[i]:=bq a5;have hh:(es.toList.map (·.1))[i]?=zo (hkH prog w k):=by rw [D2,he,<- e3]; rfl
  obtain ⟨m,m1,m2⟩:=hg.rch i _ _ a2 hh;refine ⟨m,G9 _,?_,by rw [m1]; exact a2⟩;have a7:t.place[i]∈t.place.toList:=by rw [fC]; exact Array.getElem_mem a5
  by_cases c1:N < m
  ·exact absurd (m2 N c1) n2
  ·by_cases c2:N=m
   ·subst c2; rw [m1] at n2; exact absurd a7 n2
   ·omega
end
end L2
namespace L2
open PySem PySem.Spec PyProof.Rows SeqAt
section
variable {prog:aK} {w:aJ} {A:aM} {R:Result->aC->Prop} {B:aB->Prop}
theorem Q8j {h:Heap} {I q:aB} {i:Nat} (x:h.IsTupleIter I q i) {its:Array aA} (y:IsTup h I its):False:=by
 obtain ⟨o,h1,h2,G⟩:=x;obtain ⟨o',j,g2,n,z⟩:=y;rw [h1] at j; cases j;rw [h2] at g2; exact absurd g2 (by decide)
theorem Qf0 {I D:aB} {fp:List aB} {n:Nat} {P:Nat->aA->Prop} {St:Nat->Heap->Prop} {ks:List HK} {h0:Heap} (hu:A.in1.units + 5 < aU) (W:Walks prog w A.in1 I fp [I] n P St) (hD:D∉fp) (hI:∀ i h,St i h->∀ its,¬ IsTup h I its) (hn:n=ks.length)
  (hv:∀ i v,P i v->∃ k b,ks[i]?=zo k/\v=.ref b/\(nk prog w).is h0 k b/\B b) (O:ks.length<=76) :
  ∀ (k i:Nat) (s:aC),n - i=k->i<=n->St i s.heap->(∀ a its,IsTup h0 a its->IsTup s.heap a its)->GH prog w B (byT w) s.heap D (Yj (ks.take i)) ->
   (∀ h' tk,GH prog w B (byT w) h' D (Yj ks)->(∀ b o,b∉[D,I]->s.heap.get? b=zo o->h'.get? b=zo o)->R (.ok (.ret .none)) { s with heap:=h',toks:=tk }) ->
   codeAny (aI prog w) A (.builtin "set.update.loop" ⟨[.ref D,.ref I],[]⟩) R s:=by
 have Y:D≠I:=fun z=>hD (W.sub D (by simp [z]))
 intro k
 induction k with
 | zero=>
  intro i s hk hi j G g hR;have e:i=n:=by omega
  subst e;refine ay iP ?_;rw [Around.under_plainId fZ _];show aF _ A.in1 (af (.ref I) >>= _) _ _ s;refine aD (W.done s _ _ j fun h' tk hm=>?_);show aF _ A.in1 (ret bg) _ _ _;rw [hn,eK] at g;refine wpAny_pure (hR h' tk (g.at (fun o q=>hm D o (by simpa using Y) q) fun a its x=>?_) fun b o a5 q=>hm b o (fun z=>a5 (O5 _ z)) q)
  have:a≠I:=fun z=>by subst z; exact hI _ _ j its x
  obtain ⟨o',x1,x2⟩:=x;exact ⟨o',hm a o' (by simpa using this) x1,x2⟩
 | succ k ih=>
  intro i s hk hi j G g hR;have U:i < n:=by omega
  refine ay iP ?_;rw [Around.under_plainId fZ _];show aF _ A.in1 (af (.ref I) >>= _) _ _ s;refine aD (W.item i s _ _ U j fun v h1 tk hP a1 hm=>?_);have J:∀ a its,IsTup s.heap a its->IsTup h1 a its:=fun a its x=>by
   have:a≠I:=fun z=>by subst z; exact hI _ _ j its x
   obtain ⟨o',x1,x2⟩:=x;exact ⟨o',hm a o' (by simpa using this) x1,x2⟩
  obtain ⟨x,b,hx,rfl,h2,a4⟩:=hv i v hP;have h2:(nk prog w).is h1 x b:=⟨KIs.keep (fun a its y=>J a its (G a its y)) 5 h2.2 h2.1,h2.2⟩;have g1:GH prog w B (byT w) h1 D (Yj (ks.take i)):=g.at (fun o q=>hm D o (by simpa using Y) q) J
  show aF _ A.in1 (au [.ref b] (setAdd D (.ref b)) >>= _) _ _ _;refine aD (ae ?_);unfold setAdd;refine ae (aD ((nk prog w).pyHash (s:={ s with heap:=h1,toks:=tk }) (k:=x) hu h2 ?_));have Z:(Yj (ks.take i)).length + 1<=76:=by
   have:=xx (ks.take i);have:(ks.take i).length<=i:=by rw [cY]; omega
   omega
  refine Qs8 (s:={ s with heap:=h1,toks:=tk + (nk prog w).draws x }) hu h2 a4 g1 Z fun bb h' sb g2=>?_
  have e1:ks.take (i + 1)=ks.take i ++ [x]:=by rw [gf,hx]; rfl
  rw [<- Qfx,<- e1] at g2;obtain ⟨oD,a6,a7,tD,dD,_,a2,_⟩:=g1;refine wpAny_pure ⟨bD fZ _,ih (i + 1) _ (by omega) U (W.frame _ h1 h' a1 fun b O o q=>?_) (fun a its y=>Q9c dD a2 sb a its (J a its (G a its y))) g2 fun h' a3 g' k'=>hR h' a3 g' fun b o O q=>k' b o O ?_⟩
  ·exact (sb.2 b fun z=>hD (by rw [<- z]; exact O)).trans q
  ·refine (sb.2 b fun z=>O (by simp [z])).trans (hm b o (fun z=>O (O5 _ z)) q)
set_option maxHeartbeats 3200000 in
theorem zj {s:aC} {E:aA->aC->Prop} {l:aB} {j:Array aA} {ks:List HK} {Q:aA->aC->Prop} (hu:A.units + 9 < aU) (hh:A.handled=zb) (hl:s.heap.IsTuple l j) (hn:j.size=ks.length)
  (hv:∀ (i:Nat) (v:aA),j[i]?=zo v->∃ k b,ks[i]?=zo k/\v=.ref b/\(nk prog w).is s.heap k b/\B b) (hb:ks.length<=76)
  (h:∀ h' tk,GH prog w B (byT w) h' s.heap.objs.size (Yj ks)->(∀ b o,s.heap.get? b=zo o->h'.get? b=zo o)->Q (.ref s.heap.objs.size) { s with heap:=h',toks:=tk }) :
  aF (aI prog w) A (call (.type "set") [.ref l]) Q E s:=by
 obtain ⟨cc,tl,a8⟩:=F.called_set.mro;have m1:=F.called_set.made;have m2:=F.called_set.sub;refine wpAny_call (codeAny_of_tree ?_);show aF _ _ (callAny (.type "set") _) _ _ _;refine wpAny_pure ⟨Code.quiet_builtin _ (by decide +kernel),ay F.entry_type_call ?_⟩;rw [Around.under_plain (weight_type_call_type "set" [.ref l] []) rfl];have m3:=F.called_set.notType;have m4:=F.called_set.canCreate;have m5:=F.typeCall_set_1 (.ref l)
 repeat (any_goals (first | assumption | wp_step))
 refine bI (Qm4 (.ref l) (E:=E) (Z:=fun ob s1=>ob=.ref s.heap.objs.size/\s1={ s with heap:=s.heap.push (Yn w) }) ⟨rfl,rfl⟩) fun rr s1 q=>?_
 cases rr with
 | error e=>exact q
 | ok fl=>
  cases fl with
  | ret ob=>
   obtain ⟨rfl,rfl⟩:=q;have o1:(s.heap.push (Yn w)).get? s.heap.objs.size=zo (Yn w):=D1 _ rfl;have hT:Shared.TypeIs { s with heap:=s.heap.push (Yn w) } (.ref s.heap.objs.size) "set" := ⟨_,o1,rfl⟩;have n1:=F.called_set.init.lookup;have n2:=F.called_set.init.bind (.ref s.heap.objs.size)
   repeat (any_goals (first | assumption | wp_step))
   refine bI (codeAny_call_builtin (R:=wants (fun r s2=>r=.none/\∃ h' tk,s2={ s with heap:=h',toks:=tk }/\GH prog w B (byT w) h' s.heap.objs.size (Yj ks)/\∀ b o,s.heap.get? b=zo o->h'.get? b=zo o) E) F.called_set.init.plain F.entry_set_init (check_set_init_1 hT ?_)) fun r2 s2 q2=>?_
   ·obtain ⟨ol,Y,U,nl,a4⟩:=hl;obtain ⟨a9,O,a5,z⟩:=ol;simp only at U a4;subst U; subst a4;have G:(s.heap.push (Yn w)).get? l=zo { cls:=.type "tuple",dict:=O,data:=.seq j nl,slots:=z }:=O2 _ Y;have a1:=Q2k;have a2:=Q1r;have a3:(cC "tuple" == cC "dict")=yl:=by decide
    have J:(s.heap.push (Yn w)).IsTuple l j:=⟨_,G,rfl,nl,rfl⟩;unfold Yn at o1 hT G J ⊢;unfold Builtin.«set.__init__» noKeywords Builtin.Frozenset.updateFrom;generalize a7:pyIter=PI
    wp_walk
    subst a7;refine bG J ?_;refine aD (wpAny_runValue ?_);have b0:l < s.heap.objs.size:=O9 Y;have b1:l≠(s.heap.push (Yn w)).objs.size:=by rw [F5]; exact D8 (dA b0)
    have b2:s.heap.objs.size≠(s.heap.push (Yn w)).objs.size:=by rw [F5]; exact D8 (df _)
    have W:=Walks.tuple (prog:=prog) (w:=w) (A:=A.in1.in1.in1) (by simpa using hh) (s.heap.push (Yn w)).objs.size l b1 j;have tk:∀ a its,IsTup s.heap a its->IsTup ((s.heap.push (Yn w)).push { cls:=.type "tuple_iterator",data:=.fields #[.ref l,aR 0] }) a its:=fun a its ⟨o',x1,x2⟩=>⟨o',O2 _ (O2 _ x1),x2⟩
    unfold Yn at tk;refine Qf0 (by show A.units + 1 + 1 + 1 + 5 < aU; omega) W (by simp only [D5,di,or_false,not_or]; exact ⟨b2,cG b0⟩) (fun i h ⟨x,_⟩ its y=>Q8j x y) hn (fun i v hP=>hv i v hP) hb j.size 0 _ (by omega) (G9 _) ⟨⟨_,D1 _ rfl,rfl,rfl⟩,J.push _⟩ tk ?g0 fun h' tk g' k'=>?gR
    case g0=>
     exact ⟨_,#[],0,_,O2 _ o1,⟨rfl,rfl,rfl⟩,rfl,⟨[],by simp [Yj],.nil⟩,by simp [Yj],Qjr _⟩
    case gR=>
     show aF _ _ _ _ _ _;refine wpAny_pure ?_;show aF _ _ (ret bg) _ _ _;refine wpAny_pure ⟨rfl,h',tk,rfl,g',fun b o e=>?_⟩;have c0:=O9 e;refine k' b o ?_ (O2 _ (O2 _ e));simp only [D5,di,or_false,not_or];exact ⟨D8 c0,D8 (by rw [F5]; exact dA c0)⟩
   ·cases r2 with
    | error e=>exact q2
    | ok a6=>
     cases a6 with
     | ret r=>
      obtain ⟨rfl,h',tk,rfl,g',k'⟩:=q2
      repeat (any_goals (first | assumption | wp_step))
      exact h h' tk g' k'
     | _=>exact q2.elim
  | _=>exact q.elim
end
end L2
namespace L2
open PySem PySem.Spec PyProof.Rows PySem.W
section
variable {prog:aK} {w:aJ} {A:aM} {E:aA->aC->Prop} {s:aC}
def dQ:Int × Str:=(0,cL)
inductive PrsAre (h:Heap):List aA->List (Int × Str)->Prop
 | nil:PrsAre h [] []
 | cons {a:aB} {o:Obj} {x:Int} {y:Str} {t u:Tok} {n:Nat} {vs:List aA} {nss:List (Int × Str)} (ho:h.get? a=zo o) (hc:o.cls=.type "tuple") (hd:o.data=.seq #[.int x t,.str y u] n) (r:PrsAre h vs nss):PrsAre h (.ref a :: vs) ((x,y) :: nss)
theorem PrsAre.keep {h h':Heap} (k:∀ b o,h.get? b=zo o->h'.get? b=zo o):∀ {vs:List aA} {nss:List (Int × Str)},PrsAre h vs nss->PrsAre h' vs nss
 | _,_,.nil=>.nil
 | _,_,.cons j q hd r=>.cons (k _ _ j) q hd (r.keep k)
theorem PrsAre.keepT {h h':Heap} (k:∀ b o,o.cls=.type "tuple" -> h.get? b=zo o->h'.get? b=zo o):∀ {vs:List aA} {nss:List (Int × Str)},PrsAre h vs nss->PrsAre h' vs nss
 | _,_,.nil=>.nil
 | _,_,.cons q j hd r=>.cons (k _ _ j q) j hd (r.keepT k)
theorem PrsAre.length {h:Heap}:∀ {vs:List aA} {nss:List (Int × Str)},PrsAre h vs nss->vs.length=nss.length
 | _,_,.nil=>rfl
 | _,_,.cons _ _ _ r=>by rw [D7,D7,r.length]
theorem PrsAre.at {h:Heap}:∀ {vs:List aA} {nss:List (Int × Str)},PrsAre h vs nss->∀ i,i < vs.length->∃ a o t u n,vs.getD i bg=.ref a/\h.get? a=zo o/\o.data=.seq #[.int (nss.getD i dQ).1 t,.str (nss.getD i dQ).2 u] n
 | _,_,.nil,i,hi=>by simp at hi
 | _,_,.cons j G hd r,0,_=>⟨_,_,_,_,_,rfl,j,hd⟩
 | _,_,.cons j G hd r,i + 1,q=>by
  obtain ⟨a,o,t,u,n,h1,h2,z⟩:=r.at i (by simpa using q);exact ⟨a,o,t,u,n,by simpa using h1,h2,by simpa using z⟩
theorem PrsAre.firsts {M:Model} {h:Heap}:∀ {vs:List aA} {nss:List (Int × Str)},PrsAre h vs nss->∃ fs,KatTups h vs fs/\fs.length=vs.length/\∀ v∈fs,Looks M h (typeOf v) (.type "int")
 | _,_,.nil=>⟨[],.nil,rfl,fun v j=>by cases j⟩
 | _,_,.cons (x:=x0) (t:=t) q G hd r=>by
  obtain ⟨fs,h1,h2,z⟩:=r.firsts (M:=M);refine ⟨.int x0 t :: fs,.cons q G hd rfl h1,by simp [h2],fun v j=>?_⟩;rcases D5.mp j with rfl | j
  ·exact Looks.of_pure rfl
  ·exact z v j
def Kz (a b:Str):Bool:=decide (a.cps.toList < b.cps.toList)
def Vy (a b:Int × Str):Bool:=if a.1=b.1 then (if a.2=b.2 then yl else Kz a.2 b.2) else decide (a.1 < b.1)
theorem Qj3 (b:Bool) {Q:Bool->aC->Prop} {p q:Int × Str} {t t' u G:Tok} (h:Q (Vy p q) s):KatLex prog w A b yl Q ([.int p.1 t,.str p.2 u].zip [.int q.1 t',.str q.2 G]) 0 s:=by
 rw [eD];refine kat_cons (wpAny_eqBool_int ?_);unfold Vy at h
 by_cases z:p.1=q.1
 ·rw [bS z] at h;rw [z,beq_self_eq_true];refine kat_yes ?_;rw [eD];refine kat_cons (wpAny_eqBool_str ?_)
  by_cases y:p.2=q.2
  ·rw [bS y] at h;rw [bV y];refine kat_yes ?_;exact h
  ·rw [bT y] at h;rw [bU y];refine kat_no ?_;cases j:b && (0 + 1 == 0) with
   | true=>cases b <;> simp at j
   | false=>exact kat_one _ _ (lt_str h)
 ·rw [bT z] at h;rw [beq_eq_false_iff_ne.mpr z];refine kat_no ?_;cases b && 0 == 0 with
  | true=>exact oneLt_int h
  | false=>exact kat_one _ _ (lt_int h)
theorem Qnu (a:List Nat):¬ a < a:=List.lt_irrefl a
def X0 (nss:List (Int × Str)) (i:Nat):Nat:=(nss.filter fun ms=>Vy ms (nss.getD i dQ)).length
theorem Qkw {a b:Str} (h:a.cps.toList=b.cps.toList):a=b:=by cases a; cases b; rw [Str.mk.injEq]; exact iQ.mp h
theorem Q4g (a:Int × Str):Vy a a=yl:=by unfold Vy; rw [bS rfl,bS rfl]
theorem Q9e {a b c:Str} (h1:Kz a b=yo) (h2:Kz b c=yo):Kz a c=yo:=by
 unfold Kz at *;exact bV (List.lt_trans (of_decide_eq_true h1) (of_decide_eq_true h2))
theorem Qh0 {a b:Str} (h:Kz a b=yo):a≠b:=fun e=>by subst e; exact Qnu _ (of_decide_eq_true h)
theorem Q6w {a b:List Nat} (h:¬ b < a):a<=b:=h
theorem Qev {a b:Str} (h:¬ a=b):Kz a b=yo\/Kz b a=yo:=by
 unfold Kz;have:¬ a.cps.toList=b.cps.toList:=fun e=>h (Qkw e)
 by_cases z:a.cps.toList < b.cps.toList
 ·exact .inl (bV z)
 ·by_cases j:b.cps.toList < a.cps.toList
  ·exact .inr (bV j)
  ·exact absurd (List.le_antisymm (Q6w j) (Q6w z)) this
theorem lexQ_is {a b:Int × Str}:Vy a b=yo <-> a.1 < b.1\/a.1=b.1/\Kz a.2 b.2=yo:=by
 unfold Vy
 by_cases z:a.1=b.1
 ·rw [bS z]
  by_cases y:a.2=b.2
  ·rw [bS y];constructor
   ·intro h; cases h
   ·rintro (h | ⟨_,h⟩)
    ·omega
    ·exact absurd y (Qh0 h)
  ·rw [bT y];exact ⟨fun h=>.inr ⟨z,h⟩,fun h=>h.elim (fun h=>by omega) (·.2)⟩
 ·rw [bT z];simp [z]
theorem yj {a b c:Int × Str} (h1:Vy a b=yo) (h2:Vy b c=yo):Vy a c=yo:=by
 rw [lexQ_is] at *;rcases h1 with h1 | ⟨h1,j⟩ <;> rcases h2 with h2 | ⟨h2,g2⟩
 ·left; omega
 ·left; omega
 ·left; omega
 ·exact .inr ⟨by omega,Q9e j g2⟩
theorem Q4f {a b:Int × Str} (h1:Vy a b=yl) (h2:Vy b a=yl):a=b:=by
 have n1:¬ (a.1 < b.1\/a.1=b.1/\Kz a.2 b.2=yo):=fun z=>by rw [lexQ_is.mpr z] at h1; cases h1
 have j:¬ (b.1 < a.1\/b.1=a.1/\Kz b.2 a.2=yo):=fun z=>by rw [lexQ_is.mpr z] at h2; cases h2
 have e:a.1=b.1:=by
  by_cases q:a.1 < b.1
  ·exact absurd (.inl q) n1
  ·by_cases q2:b.1 < a.1
   ·exact absurd (.inl q2) j
   ·omega
 by_cases y:a.2=b.2
 ·exact dZ e y
 ·rcases Qev y with z | z
  ·exact absurd (.inr ⟨e,z⟩) n1
  ·exact absurd (.inr ⟨e.symm,z⟩) j
theorem Q9t {nss:List (Int × Str)} {i j:Nat} (hi:i < nss.length) (G:j < nss.length):cR (X0 nss) i j=Vy (nss.getD i dQ) (nss.getD j dQ):=by
 have mem:∀ k,k < nss.length->nss.getD k dQ∈nss:=fun k O=>by
  rw [E2,O0 O]; exact cV O
 unfold cR;have q:∀ {i j:Nat},i < nss.length->j < nss.length->Vy (nss.getD i dQ) (nss.getD j dQ)=yo->X0 nss i < X0 nss j:=fun {i j} hi G h=>
  zr (fun x _ U=>yj U h) ⟨nss.getD i dQ,mem i hi,Q4g _,h⟩
 cases z:Vy (nss.getD i dQ) (nss.getD j dQ) with
 | true=>exact bV (q hi G z)
 | false=>
  refine bU ?_;cases J:Vy (nss.getD j dQ) (nss.getD i dQ) with
  | true=>have:=q G hi J; omega
  | false=>
   have e:=Q4f z J;unfold X0;rw [e];exact G8 _
theorem Q9h {a:aB} {vs:List aA} {nss:List (Int × Str)} {n:Nat} {P:PySem.Fin->aC->Prop} (ho:s.heap.get? a=zo (seqObj "list" vs.toArray n)) (hT:PrsAre s.heap vs nss) (b5:vs.length < 64)
  (h:∀ (p:List Nat) (h':Heap) (k:Nat),p.Perm (bY vs.length)->(∀ i,1<=i->i < vs.length->Vy (nss.getD (p.getD i 0) dQ) (nss.getD (p.getD (i - 1) 0) dQ)=yl)->h'.get? a=zo (seqObj "list" (cJ (p.map fun i=>vs.getD i bg)) k)->(∀ b o,b≠a->s.heap.get? b=zo o->h'.get? b=zo o)->P (.done (.ret .none)) { s with heap:=h' }) :
  aF (aI prog w) A (Builtin.«list.sort» ⟨[.ref a],[]⟩) P E s:=by
 have ha:a < s.heap.objs.size:=O9 ho;obtain ⟨e1,a9⟩:∃ e1,(s.heap.update a (bw fun _=>(#[]:Array aA))).get? a=zo (seqObj "list" #[] e1):=⟨_,get?_update_seq ho fun _=>#[]⟩
 have J:∀ b o,b≠a->s.heap.get? b=zo o->(((s.heap.update a (bw fun _=>(#[]:Array aA))).push (seqObj "tuple" vs.toArray 0)).push (seqObj "list" #[] 0)).get? b=zo o:=fun b o hb e=>
  O2 _ (O2 _ (by rw [Heap.get?_update_ne _ _ _ _ hb]; exact e))
 have a6:(((s.heap.update a (bw fun _=>(#[]:Array aA))).push (seqObj "tuple" vs.toArray 0)).push (seqObj "list" #[] 0)).get? a=zo (seqObj "list" #[] e1):=O2 _ (O2 _ a9)
 rw [list_sort_plain];refine aD (listItems_at ho rfl ?_);refine aD (listUpdate_at ho rfl ?_ (by rw [O6,sizeLine_eq]; omega) (G9 _));refine aD (seqEpoch_at a9 rfl ?_);refine aD (wpAny_newTuple ?_ (by show vs.length<=_; rw [sizeLine_eq]; omega));refine aD (wpAny_newList ?_ (G9 _));refine ae ?_;show aF (aI prog w) A _ P E { s with heap:=((s.heap.update a (bw fun _=>(#[]:Array aA))).push (seqObj "tuple" vs.toArray 0)).push (seqObj "list" #[] 0) }
 dsimp only;generalize hH:((s.heap.update a (bw fun _=>(#[]:Array aA))).push (seqObj "tuple" vs.toArray 0)).push (seqObj "list" #[] 0)=Y at *
 have fin:∀ (st:SortSt) (p:List Nat),p.Perm (bY vs.length)->(arrOf st).map (·.2)=cJ (p.map fun i=>vs.getD i bg)->failedOf st=zb->(∀ i,1<=i->i < vs.length->Vy (nss.getD (p.getD i 0) dQ) (nss.getD (p.getD (i - 1) 0) dQ)=yl) ->
   aF (aI prog w) A (do
    let U:=(arrOf st).map (·.2)
    let O:=(<- seqEpoch a) != e1
    Builtin.List.listUpdate (.ref a) fun _=>U
    if let zo e:=failedOf st then rule "list.sort.comparison-raised"; throw e
    if O then rule "list.sort.modified"; raiseError "ValueError" "list modified during sort"
    ret .none) P E { s with heap:=Y }:=fun st p hp b1 hf hs=>by
  dsimp only;have hl:(cJ (p.map fun i=>vs.getD i bg)).size=vs.length:=by rw [O6,O3,hp.length_eq,F0]
  obtain ⟨c2,b3⟩:∃ c2,(Y.update a (bw fun _=>cJ (p.map fun i=>vs.getD i bg))).get? a=zo (seqObj "list" (cJ (p.map fun i=>vs.getD i bg)) c2):=⟨_,get?_update_seq a6 fun _=>cJ (p.map fun i=>vs.getD i bg)⟩
  rw [b1,hf];refine aD (seqEpoch_at a6 rfl ?_);refine aD (listUpdate_at a6 rfl ?_ (G9 _) (E3 (fL hl) (by rw [sizeLine_eq]; omega)));simp only [bne_self_eq_false,E4,if_false];exact wpAny_pure (h p _ c2 hp hs b3 fun b o hb e=>by rw [Heap.get?_update_ne _ _ _ _ hb]; exact J b o hb e)
 by_cases h2:vs.toArray.size < 2
 ·rw [bS h2,bS h2];refine aD (wpAny_pure ?_);rw [StateT.run_pure];refine aD (wpAny_pure ?_);refine fin (SortSt.mk' general' (vs.toArray.zip vs.toArray) #[] 7 zb) (bY vs.length) (cS _) ?_ rfl (fun i g1 g2=>?_)
  ·show (vs.toArray.zip vs.toArray).map (·.2)=_;apply iQ.mp;apply dB;intro i
   by_cases z:i < vs.length
   ·simp [z]
   ·simp [z]
  ·rw [O6] at h2; omega
 ·rw [bT h2,bT h2];rw [O6] at h2;have Z:PrsAre Y vs nss:=hT.keepT fun b o hc e=>J b o (fun z=>by
   rw [z,ho] at e;have e:=br e;rw [<- e] at hc;exact absurd (show cC "list" = .type "tuple" from hc) (by decide)) e
  obtain ⟨fs,k1,k2,k3⟩:=Z.firsts (M:=aI prog w);refine aD (kat_kind (s:={ s with heap:=Y }) (T:=.type "int") k1 (by omega) k3 (by decide) ?_);have a8:∀ i j (C:Bool->aC->Prop),i < vs.length->j < vs.length->C (cR (X0 nss) i j) { s with heap:=Y }->kas_ask prog w A (tuples' (cC "int" != cC "tuple")) vs i j C { s with heap:=Y }:=fun i j C hi hj q=>by
   obtain ⟨ai,oi,ti,ui,ni,e1,e2,e3⟩:=Z.at i hi;obtain ⟨aj,oj,tj,uj,nj,f1,f2,f3⟩:=Z.at j hj;rw [Q9t (by rw [<- hT.length]; exact hi) (by rw [<- hT.length]; exact hj)] at q;unfold kas_ask;rw [e1,f1];exact kat_lt e2 e3 f2 f3 (Qj3 _ q)
  have a5:=Qkz (r:=X0 nss) (n:=vs.length) (by omega);refine aD (ar (kat_run (vs:=vs) (ks:=vs) (Q:=fun st' s'=>s'={ s with heap:=Y }/\arrOf st'=(evT (cR (X0 nss)) (kas_sort vs.length)).map (kas_item (vs.toArray.zip vs.toArray))/\failedOf st'=zb)
   (G:=fun p s'=>s'={ s with heap:=Y }/\p=evT (cR (X0 nss)) (kas_sort vs.length)) rfl (by omega) b5 (fun p' st' s' a1 a2 a3 a4=>⟨a4.1,by rw [<- a4.2]; exact a2,a3⟩) (Qan a8 _ (fun _=>True) _ (Qgt (by omega)) ⟨rfl,rfl⟩)) ?_ fun _ _ e=>e)
  rintro ⟨⟨⟩,st'⟩ s' ⟨rfl,b4,hf⟩;have b0:(evT (cR (X0 nss)) (kas_sort vs.length)).toList.Perm (bY vs.length):=by
   have:=gi.mp a5.2;simpa using this
  refine fin st' _ b0 (kat_snds rfl b4) hf fun i g1 g2=>?_
  have hr:=a5.1 i g1 g2;have a7:∀ k,(evT (cR (X0 nss)) (kas_sort vs.length)).toList.getD k 0 < vs.length:=fun k=>by
   have b2:AL vs.length (evT (cR (X0 nss)) (kas_sort vs.length)):=AL.perm (p:=cJ (bY vs.length)) ⟨by omega,fun x hx=>by simpa using hx⟩ a5.2;have:=b2.get k;rw [dJ,<- bp] at this;rw [E2]; exact this
  have hg:∀ k,(evT (cR (X0 nss)) (kas_sort vs.length)).getD k 0=(evT (cR (X0 nss)) (kas_sort vs.length)).toList.getD k 0:=fun k=>by
   rw [dJ,<- bp,E2]
  unfold rk at hr;rw [hg,hg] at hr;have:=Q9t (nss:=nss) (i:=(evT (cR (X0 nss)) (kas_sort vs.length)).toList.getD i 0) (j:=(evT (cR (X0 nss)) (kas_sort vs.length)).toList.getD (i - 1) 0) (by rw [<- hT.length]; exact a7 _) (by rw [<- hT.length]; exact a7 _);rw [<- this];exact bU (gN.mpr hr)
theorem Q9g {d:aB} {es:Array DictEntry} {ep:Nat} {nss:List (Int × Str)} {Q:aA->aC->Prop} (lo:(d == aq)=yl) (U:A.handled=zb) (hm:RawD s.heap d es ep) (hT:PrsAre s.heap (es.toList.map (·.key)) nss) (O:(es.toList.map (·.key)).length < 64)
  (h:∀ (p:List Nat) (h':Heap) (D k tk:Nat),p.Perm (bY (es.toList.map (·.key)).length)->(∀ i,1<=i->i < (es.toList.map (·.key)).length->Vy (nss.getD (p.getD i 0) dQ) (nss.getD (p.getD (i - 1) 0) dQ)=yl)->s.heap.objs.size<=D->h'.get? D=zo (seqObj "list" (cJ (p.map fun i=>(es.toList.map (·.key)).getD i bg)) k)->(∀ b o,s.heap.get? b=zo o->h'.get? b=zo o)->Q (.ref D) { s with heap:=h',toks:=tk }) :
  aF (aI prog w) A (call (.builtin "sorted") [.ref d]) Q E s:=by
 have hsz:es.size<=sizeLine:=by
  have:(es.toList.map (·.key)).length=es.size:=by simp
  rw [sizeLine_eq]; omega
 refine Calls.call_function_entry kind_sorted plain_sorted entry_sorted (args_sorted1 _) ?_;unfold Builtin.«sorted»;refine aD (m:=checkCount "sorted" 1 1 _) (wpAny_pure ?_);refine aD (Qax lo (by simpa using U) hm hsz fun h1 z j J=>?_)
 refine aD (wpAny_newList ?_ (by rw [sizeLine_eq]; omega));generalize es.toList.map (·.key)=vs at *;have G:(h1.push (seqObj "list" vs.toArray 0)).get? h1.objs.size=zo (seqObj "list" vs.toArray 0):=D1 _ rfl;have keep:∀ b o,s.heap.get? b=zo o->(h1.push (seqObj "list" vs.toArray 0)).get? b=zo o:=fun b o q=>O2 _ (j b o q)
 show aF _ _ _ _ _ { s with heap:=h1.push (seqObj "list" vs.toArray 0),toks:=z };refine aD (ae (ah slot_list_sort ⟨_,G,rfl⟩ entry_list_sort ?body (args_list_sort _)))
 case body=>
  refine Q9h (s:={ s with heap:=h1.push (seqObj "list" vs.toArray 0),toks:=z }) G (hT.keep keep) O fun p h' k a1 a2 Y Z=>?_
  exact ⟨_,rfl,wpAny_pure ⟨_,rfl,h p h' _ k z a1 a2 J Y fun b o e=>Z b o (D8 (O9 (j b o e))) (keep b o e)⟩⟩
end
end L2
namespace L2
open PySem PySem.Spec PyProof.Rows PySem.W
def Qci (a:Int × Str):List (Int × Str)->List (Int × Str)
 | []=>[a]
 | b :: r=>if Vy b a=yo then b :: Qci a r else a :: b :: r
def Ud:List (Int × Str)->List (Int × Str)
 | []=>[]
 | a :: r=>Qci a (Ud r)
def leQ (a b:Int × Str):Prop:=Vy b a=yl
theorem Q8h (a b:Int × Str):leQ a b <-> a=b\/Vy a b=yo:=by
 unfold leQ;constructor
 ·intro h;cases z:Vy a b with
  | true=>exact .inr rfl
  | false=>exact .inl (Q4f z h)
 ·rintro (rfl | h)
  ·exact Q4g a
  ·cases z:Vy b a with
   | false=>rfl
   | true=>have:=yj h z; rw [Q4g] at this; cases this
theorem Q6a {a b c:Int × Str} (h1:leQ a b) (h2:leQ b c):leQ a c:=by
 rw [Q8h] at *;rcases h1 with rfl | h1
 ·exact h2
 ·rcases h2 with rfl | h2
  ·exact .inr h1
  ·exact .inr (yj h1 h2)
theorem Qj4 {a b:Int × Str} (h1:leQ a b) (h2:leQ b a):a=b:=Q4f h2 h1
theorem Q13 (a:Int × Str):∀ l,(Qci a l).Perm (a :: l)
 | []=>cS _
 | b :: r=>by
  rw [Qci]
  split
  ·exact ((Q13 a r).cons b).trans (eQ a b r)
  ·exact cS _
theorem Yr:∀ l,(Ud l).Perm l
 | []=>cS _
 | a :: r=>(Q13 a (Ud r)).trans ((Yr r).cons a)
theorem Q1j {a:Int × Str}:∀ {l:List (Int × Str)},l.Pairwise leQ->(Qci a l).Pairwise leQ
 | [],_=>by rw [Qci]; exact List.pairwise_singleton _ _
 | b :: r,h=>by
  obtain ⟨h1,h2⟩:=cr.mp h;rw [Qci]
  split
  ·rename_i q;refine cr.mpr ⟨fun x j=>?_,Q1j h2⟩;rcases D5.mp ((Q13 a r).mem_iff.mp j) with rfl | j
   ·exact (Q8h b x).mpr (.inr q)
   ·exact h1 x j
  ·rename_i q;have z:leQ a b:=by unfold leQ; simpa using q
   refine cr.mpr ⟨fun x j=>?_,h⟩;rcases D5.mp j with rfl | j
   ·exact z
   ·exact Q6a z (h1 x j)
theorem Uh:∀ l,(Ud l).Pairwise leQ
 | []=>fK
 | a :: r=>Q1j (Uh r)
theorem zx:∀ {a b:List (Int × Str)},a.Perm b->a.Pairwise leQ->b.Pairwise leQ->a=b
 | [],b,h,_,_=>(List.nil_perm.mp h).symm
 | x :: a,[],h,_,_=>absurd (List.perm_nil.mp h) (by simp)
 | x :: a,y :: b,h,j,q=>by
  obtain ⟨Y,O⟩:=cr.mp j;obtain ⟨J,U⟩:=cr.mp q;have e:x=y:=by
   rcases D5.mp (h.mem_iff.mp (F4 (a:=x) (l:=a))) with e | G
   ·exact e
   ·rcases D5.mp (h.mem_iff.mpr (F4 (a:=y) (l:=b))) with e | z
    ·exact e.symm
    ·exact Qj4 (Y y z) (J x G)
  subst e;rw [zx (im h) O U]
theorem Q3s {l:List (Int × Str)} (h:∀ i,1<=i->i < l.length->Vy (l.getD i dQ) (l.getD (i - 1) dQ)=yl):l.Pairwise leQ:=by
 rw [eP];have g:∀ k (z:k < l.length),l.getD k dQ=l[k]:=fun k z=>by rw [E2,O0 z]; rfl
 have q:∀ d i (hi:i + d < l.length),leQ (l.getD i dQ) (l.getD (i + d) dQ):=by
  intro d
  induction d with
  | zero=>intro i hi; exact (Q8h _ _).mpr (.inl rfl)
  | succ d O=>
   intro i hi;have h1:=O i (by omega);have h2:=h (i + d + 1) (by omega) (by omega);rw [fT] at h2;exact Q6a h1 h2
 intro i j hi J G;have:=q (j - i) i (by omega);rw [show i + (j - i)=j by omega,g i hi,g j J] at this;exact this
theorem Q2s {nss:List (Int × Str)} {p:List Nat} (hp:p.Perm (bY nss.length)) (h:∀ i,1<=i->i < nss.length->Vy (nss.getD (p.getD i 0) dQ) (nss.getD (p.getD (i - 1) 0) dQ)=yl):p.map (fun i=>nss.getD i dQ)=Ud nss:=by
 have O:p.length=nss.length:=by rw [hp.length_eq,F0]
 have e1:(bY nss.length).map (fun i=>nss.getD i dQ)=nss:=by
  apply dB;intro i
  by_cases z:i < nss.length
  ·simp [z]
  ·simp [z]
 have J:(p.map fun i=>nss.getD i dQ).Perm nss:=by
  have:=hp.map (fun i=>nss.getD i dQ)
  rwa [e1] at this
 have q:∀ k,k < p.length->(p.map fun i=>nss.getD i dQ).getD k dQ=nss.getD (p.getD k 0) dQ:=fun k j=>by
  rw [E2,D2,O0 j,E2 (l:=p),O0 j];rfl
 refine zx (J.trans (Yr nss).symm) (Q3s fun i G g2=>?_) (Uh nss);rw [O3] at g2;rw [q i g2,q (i - 1) (by omega)];exact h i G (by omega)
theorem Q9u {P:aK} {w:aJ} {H:Hp} {h:Heap} (ok:HOk P w H h):∀ {kvs:List (HK × V)} {q:List aB} {nss:List (Int × Str)},aS (fun (p:HK × V) (b:aB)=>KR H p.1 b) kvs q->aS (fun (p:HK × V) (ns:Int × Str)=>p.1=.tup [.int ns.1,.str ns.2]) kvs nss->PrsAre h (q.map ba) nss/\aS (fun (v:V) (ns:Int × Str)=>∃ b,v=.ref b/\H b=zo (.tup [.int ns.1,.str ns.2])) (q.map V.ref) nss
 | [],_,_,.nil,.nil=>⟨.nil,.nil⟩
 | p :: kvs,a :: q,ns :: nss,.cons z t,.cons O u=>by
  obtain ⟨Y,J⟩:=Q9u ok t u;rw [O] at z;obtain ⟨⟨b,vs,e,G,v1,q1,e1,k1,v2,q2,e2,k2,k3⟩,_⟩:=z;cases e;cases k1; cases k2; cases k3; subst e2; subst e1;obtain ⟨_,U,j,o,Z,hc,n,hd⟩:=ok a _ G;refine ⟨?_,.cons ⟨a,rfl,G⟩ J⟩;cases j with
  | cons x1 j=>
   cases j with
   | cons x2 j=>
    cases j;obtain ⟨t1,rfl⟩:=x1;obtain ⟨t2,rfl⟩:=x2;exact .cons Z hc hd Y
section
variable {X:Cx}
theorem Q5r (Y:X.calm=yo):V8 X (.builtin "sorted") (fun xs H Q=>∃ a,∃ kvs:List (HK × V),∃ nss:List (Int × Str),xs=[.ref a]/\H a=zo (.dT kvs)/\kvs.length < 64/\aS (fun (p:HK × V) (ns:Int × Str)=>p.1=.tup [.int ns.1,.str ns.2]) kvs nss /\
  ∀ d (j:List Nat) (vs:List V),H d=zb->aS (fun (v:V) (ns:Int × Str)=>∃ b,v=.ref b/\H b=zo (.tup [.int ns.1,.str ns.2])) vs nss->j.Perm (bY nss.length)->j.map (fun i=>nss.getD i dQ)=Ud nss->Q (.ref d) (upd H d (.lst (j.map fun i=>vs.getD i .non)))):=by
 intro pins s σ H xs us Q I r h;obtain ⟨a,kvs,nss,rfl,ea,a9,hp,q⟩:=h;obtain ⟨u,rfl,rx⟩:=K3 r;cases rx;obtain ⟨z,hs,es,ep,G,hr,hk,O⟩:=Qk2 I.hok ea;obtain ⟨T,a7⟩:=Q9u I.hok O hp;have l1:kvs.length=G.length:=Paired.length O;have l2:kvs.length=nss.length:=Paired.length hp;refine Q9g hs (I.ok.hd Y) hr (by rw [hk]; exact T) (by rw [hk,O3]; omega) fun j h' D k tk J Z a3 a4 a5=>?_
 rw [hk] at J Z a4;rw [O3] at J Z;have e:=Q2s (nss:=nss) (p:=j) (by rw [<- l2,l1]; exact J) (fun i g1 g2=>Z i g1 (by omega))
 have a8:j.length=G.length:=by rw [J.length_eq,F0]
 have hv:Vals (j.map fun i=>(G.map V.ref).getD i .non) (j.map fun i=>(G.map ba).getD i bg):=by
  have a6:∀ l:List Nat,(∀ x∈l,x < G.length)->Vals (l.map fun i=>(G.map V.ref).getD i .non) (l.map fun i=>(G.map ba).getD i bg):=by
   intro l
   induction l with
   | nil=>intro _; exact .nil
   | cons x l ih=>
    intro hl;have U:=hl x (by simp);refine .cons ?_ (ih fun y hy=>hl y (O5 _ hy))
    show RelV ((G.map V.ref).getD x .non) ((G.map ba).getD x bg);rw [E2,D2,O0 U,E2,D2,O0 U];rfl
  exact a6 j fun x U=>by have:=J.mem_iff.mp U; simpa using this
 exact ⟨.ref D,_,I.laid (t':=tk) (o:=.lst (j.map fun i=>(G.map V.ref).getD i .non)) a5 a3 ⟨by rw [O3]; rw [sizeLine_eq] at *; omega,_,k,hv,a4⟩,rfl,q D j _ (I.hok.fresh a3) a7 (by rw [<- l2,l1]; exact J) e⟩
end
end L2
namespace L2
open PySem PySem.Spec PyProof.Rows SeqAt
section
variable {prog:aK} {w:aJ} {A:aM} {R:Result->aC->Prop}
end
section
variable {X:Cx}
end
end L2
namespace L2
open PySem PySem.Spec PyProof.Rows PySem.W
theorem PrsAre.perm {h:Heap} {l l':List aA} (p:l'.Perm l):∀ {ns:List (Int × Str)},PrsAre h l ns->∃ j,PrsAre h l' j/\j.Perm ns:=by
 induction p with
 | nil=>intro ns h; exact ⟨ns,h,cS _⟩
 | cons x _ ih=>
  intro ns h;cases h with
  | cons O hc hd Y=>
   obtain ⟨ks,h1,h2⟩:=ih Y;exact ⟨_,.cons O hc hd h1,h2.cons _⟩
 | swap x y l=>
  intro ns h;cases h with
  | cons O hc hd Y=>
   cases Y with
   | cons q J Z U=>exact ⟨_,.cons q J Z (.cons O hc hd U),eQ _ _ _⟩
 | trans _ _ G z=>
  intro ns h;obtain ⟨k1,h1,p1⟩:=z h;obtain ⟨k2,h2,p2⟩:=G h1;exact ⟨k2,h2,p2.trans p1⟩
theorem PrsAre.one {h:Heap}:∀ {vs:List aA} {ns:List (Int × Str)},PrsAre h vs ns->∀ i,i < vs.length->PrsAre h [vs.getD i bg] [ns.getD i dQ]
 | _,_,.nil,i,hi=>by simp at hi
 | _,_,.cons q j hd r,0,_=>.cons q j hd .nil
 | _,_,.cons q j hd r,i + 1,z=>by simpa using r.one i (by simpa using z)
theorem PrsAre.app {h:Heap}:∀ {vs j:List aA} {ns q:List (Int × Str)},PrsAre h vs ns->PrsAre h j q->PrsAre h (vs ++ j) (ns ++ q)
 | _,_,_,_,.nil,g=>g
 | _,_,_,_,.cons z G hd r,g=>.cons z G hd (r.app g)
theorem PrsAre.pick {h:Heap} {vs:List aA} {ns:List (Int × Str)} (r:PrsAre h vs ns):∀ (p:List Nat),(∀ i∈p,i < vs.length)->PrsAre h (p.map fun i=>vs.getD i bg) (p.map fun i=>ns.getD i dQ)
 | [],_=>.nil
 | i :: p,hp=>(r.one i (hp i (by simp))).app (r.pick p fun j q=>hp j (O5 _ q))
theorem zi {a b:List (Int × Str)} (h:a.Perm b):Ud a=Ud b:=zx ((Yr a).trans (h.trans (Yr b).symm)) (Uh a) (Uh b)
section
variable {prog:aK} {w:aJ} {A:aM} {E:aA->aC->Prop} {s:aC}
theorem z6 {vs:List aA}:(bY vs.length).map (fun i=>vs.getD i bg)=vs:=by
 apply dB;intro i
 by_cases z:i < vs.length
 ·simp [z]
 ·simp [z]
theorem Q9f {d:aB} {es:Array (Int × aA)} {ep:Nat} {t:aW} {ns:List (Int × Str)} {Q:aA->aC->Prop} (hh:A.handled=zb) (x:RawS s.heap d es ep t) (hf:t.fits es.size=yo) (g:Good (byT w) t) (hI:PrsAre s.heap (es.toList.map (·.2)) ns) (a5:es.size < 64)
  (h:∀ (O:List aA) (h':Heap) (d':Drawn) (tk D k:Nat),PrsAre h' O (Ud ns)->O.Perm (es.toList.map (·.2))->s.heap.objs.size<=D->h'.get? D=zo (seqObj "list" O.toArray k)->(∀ b o,s.heap.get? b=zo o->h'.get? b=zo o)->Q (.ref D) { s with heap:=h',drawn:=d',toks:=tk }) :
  aF (aI prog w) A (call (.builtin "sorted") [.ref d]) Q E s:=by
 have hsz:es.size<=sizeLine:=by rw [sizeLine_eq]; omega
 refine Calls.call_function_entry kind_sorted plain_sorted entry_sorted (args_sorted1 _) ?_;unfold Builtin.«sorted»;refine aD (m:=checkCount "sorted" 1 1 _) (wpAny_pure ?_);refine aD (Qaw (by simpa using hh) x hf g hsz fun vs h1 d1 J pm j Y=>?_)
 have hl:vs.length=es.size:=by rw [pm.length_eq]; simp
 obtain ⟨n1,i1,p1⟩:=PrsAre.perm pm hI;refine aD (wpAny_newList ?_ (by rw [sizeLine_eq]; omega));have G:(h1.push (seqObj "list" vs.toArray 0)).get? h1.objs.size=zo (seqObj "list" vs.toArray 0):=D1 _ rfl;have keep:∀ b o,s.heap.get? b=zo o->(h1.push (seqObj "list" vs.toArray 0)).get? b=zo o:=fun b o q=>O2 _ (j b o q)
 show aF _ _ _ _ _ { s with heap:=h1.push (seqObj "list" vs.toArray 0),drawn:=d1,toks:=J };have i2:=i1.keep keep;refine aD (ae (ah slot_list_sort ⟨_,G,rfl⟩ entry_list_sort ?body (args_list_sort _)))
 case body=>
  refine Q9h (s:={ s with heap:=h1.push (seqObj "list" vs.toArray 0),drawn:=d1,toks:=J }) G i2 (by omega) fun p h' k a1 a2 a3 a4=>?_
  have Z:∀ i∈p,i < vs.length:=fun i hi=>by have:=a1.mem_iff.mp hi; simpa using this
  have e:=Q2s (nss:=n1) (p:=p) (by rw [<- i1.length]; exact a1) (fun i g1 g2=>a2 i g1 (by rw [i1.length]; exact g2))
  have U:=i2.pick p Z;rw [e,zi p1] at U;refine ⟨_,rfl,wpAny_pure ⟨_,rfl,h (p.map fun i=>vs.getD i bg) h' d1 J _ k ?_ ?_ Y a3 fun b o q=>a4 b o (D8 (O9 (j b o q))) (keep b o q)⟩⟩
  ·exact U.keepT fun b o hc q=>a4 b o (fun z=>by
    rw [z,G] at q;have q:=br q;rw [<- q] at hc;exact absurd (show cC "list" = .type "tuple" from hc) (by decide)) q
  ·have:=a1.map (fun i=>vs.getD i bg);rw [z6] at this;exact this.trans pm
end
def Qvv (w:aJ) (h:Heap) (a:aB) (bs:List aB):Prop:=∃ o es ep t,h.get? a=zo o/\o.ExactSet/\o.data=.set es ep t/\es.toList.map (·.2)=bs.map ba/\t.fits es.size=yo/\Good (byT w) t
def Q6g (w:aJ) (a:aB) (bs:List aB):HO:=.ext fun h=>Qvv w h a bs
section
variable {X:Cx}
theorem Qqd {H:Hp} {h':Heap} {P:aK} {w:aJ} (q:∀ k b,KR H k b->(nk P w).is h' k b):∀ {es:List (Int × aA)} {ks:List HK},aS (ElH P w (fun b=>∃ k,KR H k b) h') es ks->∃ bs:List aB,es.map (·.2)=bs.map ba/\aS (fun b k=>KR H k b) bs ks
 | [],_,.nil=>⟨[],rfl,.nil⟩
 | e :: es,k :: ks,.cons ⟨b,e1,e2,_,k2,j⟩ t=>by
  obtain ⟨bs,h1,h2⟩:=Qqd q t;have:k=k2:=(nk P w).inj e2 (q k2 b j);exact ⟨b :: bs,by rw [O8,O8,e1,h1],.cons (by rw [this]; exact j) h2⟩
theorem Qgm (hu:X.A.units + 9 < aU) (hc:X.calm=yo):V8 X (.type "set") (fun xs H Q=>∃ p vs,∃ ks:List HK,xs=[.ref p]/\SqT X.K H p vs/\aS (fun v k=>∃ b,v=.ref b/\KR H k b) vs ks/\ks.length<=76/\∀ l bs j,H l=zb->j.Perm (Yj ks)->aS (fun b k=>KR H k b) bs j->Q (.ref l) (upd H l (Q6g X.w l bs))):=by
 intro pins s σ H xs us Q I r h;obtain ⟨p,vs,ks,rfl,hq,Y,hl,q⟩:=h;obtain ⟨u,rfl,O⟩:=K3 r;cases O;obtain ⟨its,U,pl,hz⟩:=I.tuple hq;have J:its.length=ks.length:=by rw [<- U.length,Paired.length Y]
 refine zj (B:=fun b=>∃ k,KR H k b) (ks:=ks) hu (I.ok.hd hc) pl (by rw [O6,J]) (fun i v e=>?_) hl fun h' tk Z k=>?_
 ·have e:its[i]?=zo v:=by simpa using e
  have hi:i < vs.length:=by have:=(O1.mp e).1; rw [U.length]; exact this
  obtain ⟨x,ex,O⟩:=U.get (O0 hi);rw [e] at ex; cases ex;obtain ⟨k,ek,b,eb,G⟩:=Kp Y (O0 hi);rw [eb] at O;cases O;exact ⟨k,b,ek,rfl,ym I.hok G,k,G⟩
 ·obtain ⟨o,es,ep,t,h1,h2,h3,⟨j,p1,r1⟩,h5,h6⟩:=Z;obtain ⟨bs,b1,b2⟩:=Qqd (fun k2 b G=>⟨KIs.keep (fun a its ⟨o',x1,x2⟩=>⟨o',k a o' x1,x2⟩) 5 (ym I.hok G).2 (ym (P:=X.prog) (w:=X.w) I.hok G).1,(ym (P:=X.prog) (w:=X.w) I.hok G).2⟩) r1
  have sz:Qvv X.w h' s.heap.objs.size bs:=⟨o,es,ep,t,h1,h2,h3,b1,by have:=h6.fits; rwa [O3,bj] at this,h6.good⟩;refine ⟨.ref s.heap.objs.size,upd H s.heap.objs.size (Q6g X.w s.heap.objs.size bs),I.laid (t':=tk) k (O4 _) ⟨sz,⟨o,h1⟩,fun h1 h2 z kk=>?_⟩,rfl,q _ bs j (I.hok.fresh (O4 _)) p1 b2⟩
  obtain ⟨o,es,ep,t,g1,g2⟩:=z;exact ⟨o,es,ep,t,kk _ g1,g2⟩
theorem Qi2 {P:aK} {w:aJ} {H:Hp} {h:Heap} (ok:HOk P w H h):∀ {bs:List aB} {ns:List (Int × Str)},aS (fun b (n:Int × Str)=>H b=zo (.tup [.int n.1,.str n.2])) bs ns->PrsAre h (bs.map ba) ns
 | [],_,.nil=>.nil
 | b :: bs,n :: ns,.cons q t=>by
  obtain ⟨_,z,j,o,G,J,m,hd⟩:=ok b _ q;cases j with
  | cons x1 j=>
   cases j with
   | cons x2 j=>
    cases j;obtain ⟨O,rfl⟩:=x1;obtain ⟨U,rfl⟩:=x2;exact .cons G J hd (Qi2 ok t)
theorem Qif {P:aK} {w:aJ} {H:Hp} {h h':Heap} (ok:HOk P w H h) (kp:∀ b o,h.get? b=zo o->h'.get? b=zo o) {bs:List aB} {ns:List (Int × Str)} (hp:aS (fun b (n:Int × Str)=>H b=zo (.tup [.int n.1,.str n.2])) bs ns):∀ {q:List aA} {ms:List (Int × Str)},PrsAre h' q ms->(∀ v∈q,v∈bs.map ba)->∃ ds:List V,Vals ds q/\aS (fun (v:V) (n:Int × Str)=>∃ b,v=.ref b/\H b=zo (.tup [.int n.1,.str n.2])) ds ms
 | [],_,.nil,_=>⟨[],.nil,.nil⟩
 | _ :: q,_ :: ms,.cons (a:=a) (x:=x) (y:=y) U hc hd r,hm=>by
  obtain ⟨ds,d1,Z⟩:=Qif ok kp hp r fun v hv=>hm v (O5 _ hv)
  obtain ⟨b,Y,e⟩:=L4.mp (hm (.ref a) (by simp));cases e;obtain ⟨n,hn,O⟩:=ja hp Y;obtain ⟨_,a1,z,o',G,a2,m,j⟩:=ok a _ O;rw [kp a o' G] at U;cases U;rw [hd] at j;cases z with
  | cons x1 z=>
   cases z with
   | cons x2 z=>
    cases z;obtain ⟨t1,rfl⟩:=x1;obtain ⟨t2,rfl⟩:=x2;injection j with J _
    have j:=congrArg fA J;simp only [io,Value.int.injEq,Value.str.injEq] at j;obtain ⟨⟨q1,_⟩,⟨q2,_⟩,_⟩:=j;exact ⟨.ref a :: ds,.cons rfl d1,.cons ⟨a,rfl,by rw [O,q1,q2]⟩ Z⟩
theorem Q90 (hc:X.calm=yo):V8 X (.builtin "sorted") (fun xs H Q=>∃ p bs,∃ ns:List (Int × Str),xs=[.ref p]/\H p=zo (Q6g X.w p bs)/\bs.length < 64/\aS (fun b (n:Int × Str)=>H b=zo (.tup [.int n.1,.str n.2])) bs ns/\∀ d ds,H d=zb->aS (fun (v:V) (n:Int × Str)=>∃ b,v=.ref b/\H b=zo (.tup [.int n.1,.str n.2])) ds (Ud ns)->Q (.ref d) (upd H d (.lst ds))):=by
 intro pins s σ H xs us Q I r h;obtain ⟨p,bs,ns,rfl,hp,hl,z,q⟩:=h;obtain ⟨u,rfl,rx⟩:=K3 r;cases rx;obtain ⟨⟨o,es,ep,t,ho,hx,hd,G,hf,hg⟩,_,_⟩:=I.hok p _ hp;have hz:es.size=bs.length:=by
  have:=congrArg dY G;simpa using this
 refine Q9f (I.ok.hd hc) ⟨o,ho,hx,hd⟩ hf hg (by rw [G]; exact Qi2 I.hok z) (by omega) fun j h' d' tk D k a1 J Y a4 O=>?_
 rw [G] at J;obtain ⟨ds,U,d2⟩:=Qif I.hok O z a1 fun v hv=>J.mem_iff.mp hv
 have Z:j.length=bs.length:=by rw [J.length_eq,O3]
 have a6:ds.length=j.length:=U.length;exact ⟨.ref D,upd H D (.lst ds),Inv.redraw (I.laid (t':=tk) (o:=.lst ds) O Y ⟨by rw [sizeLine_eq]; omega,j,k,U,a4⟩) d',rfl,q D ds (I.hok.fresh Y) d2⟩
end
end L2
namespace Sm
open PySem PySem.Spec L2
section
inductive PV where
 | non | bl (b:Bool) | int (i:Int) | str (x:Str) | tup (xs:List PV) | lst (xs:List PV) | fro (xs:List PV) | ref (i:Nat) | dic
inductive Cell where
 | lst (xs:List PV) | dic (kvs:List (Key × PV)) | dtp (kvs:List (HK × PV)) | frd (kvs:List (Key × PV))
 | obj (C:aB) (fs:List (Str × PV))
abbrev Q2:=List Cell
structure Exc where
 cls:Str
 fs:Option (Str × PV):=zb
inductive Res (α:Type) where
 | ok (a:α) (st:Q2) | exc (x:Exc) (st:Q2) | stuck
abbrev Gam:=List (Option PV)
abbrev ME:=Gam->Q2->Res PV
structure Tk where
 tr:List aB
 hid:List aB
instance:Membership aB Tk:=⟨fun t a=>a∈t.tr\/a∈t.hid⟩
def Tk.nil:Tk:=⟨[],[]⟩
theorem Tk.not_nil (a:aB):a∉Tk.nil:=fun z=>by rcases z with z | z <;> cases z
def Tk.add (t:Tk) (p:aB):Tk:=⟨t.tr ++ [p],t.hid⟩
def Tk.hide (t:Tk) (p:aB):Tk:=⟨t.tr,p :: t.hid⟩
mutual
def Rep (H:Hp) (ρ:Tk):PV->V->Prop
 | .non,v=>v=.non
 | .bl b,v=>v=.bl b
 | .int i,v=>v=.int i
 | .str x,v=>v=.str x
 | .tup ps,v=>∃ a vs,v=.ref a/\H a=zo (.tup vs)/\a∉ρ/\RepL H ρ ps vs
 | .lst ps,v=>∃ a vs,v=.ref a/\H a=zo (.lst vs)/\a∉ρ/\RepL H ρ ps vs
 | .fro ps,v=>∃ a vs,v=.ref a/\Rd H a (.lst vs)/\a∉ρ/\RepL H ρ ps vs
 | .ref i,v=>∃ a,ρ.tr[i]?=zo a/\v=.ref a
 | .dic,v=>∃ a,v=.ref a/\H a=zo (.dK [])/\a∉ρ
def RepL (H:Hp) (ρ:Tk):List PV->List V->Prop
 | [],vs=>vs=[]
 | p :: ps,vs=>∃ v r,vs=v :: r/\Rep H ρ p v/\RepL H ρ ps r
end
structure Ext (H:Hp) (ρ:Tk) (H':Hp) (ρ':Tk):Prop where
 pre:ρ.tr <+: ρ'.tr
 hidM:∀ a,a∈ρ.hid->a∈ρ'.hid
 hidN:∀ a,a∈ρ'.hid->a∈ρ.hid\/H a=zb
 keep:∀ a o,H a=zo o->a∉ρ.tr->H' a=zo o
 new:∀ a,a∈ρ'.tr->a∈ρ.tr\/H a=zb
 old:∀ a o,H a=zo o->∃ o',H' a=zo o'
 frz:∀ a o u,H a=zo (.frz o u)->H' a=zo (.frz o u)
theorem Ext.refl (H:Hp) (ρ:Tk):Ext H ρ H ρ:=⟨dN _,fun _ h=>h,fun _ h=>.inl h,fun _ _ h _=>h,fun _ h=>.inl h,fun _ o h=>⟨o,h⟩,fun _ _ _ h=>h⟩
theorem Ext.trans {H H1 H2:Hp} {ρ ρ1 j:Tk} (a:Ext H ρ H1 ρ1) (b:Ext H1 ρ1 H2 j):Ext H ρ H2 j where
 pre:=a.pre.trans b.pre
 hidM:=fun x h=>b.hidM x (a.hidM x h)
 hidN:=fun x h=>by
  rcases b.hidN x h with z | z
  ·exact a.hidN x z
  ·right
   cases q:H x with
   | none=>rfl
   | some o=>
    obtain ⟨o',e⟩:=a.old x o q;rw [e] at z; cases z
 keep:=fun x o h n=>b.keep x o (a.keep x o h n) fun z=>by
  rcases a.new x z with z | z
  ·exact n z
  ·rw [h] at z; cases z
 new:=fun x h=>by
  rcases b.new x h with z | z
  ·exact a.new x z
  ·right
   cases q:H x with
   | none=>rfl
   | some o=>
    obtain ⟨o',e⟩:=a.old x o q;rw [e] at z; cases z
 old:=fun x o h=>by
  obtain ⟨o',e⟩:=a.old x o h;exact b.old x o' e
 frz:=fun x o u h=>b.frz x o u (a.frz x o u h)
theorem Ext.add {H:Hp} {ρ:Tk} {p:aB} {o:HO} (h:H p=zb):Ext H ρ (upd H p o) ρ where
 pre:=dN _
 hidM:=fun _ h=>h
 hidN:=fun _ h=>.inl h
 keep:=fun a u e _=>by rw [Qf (Qg e h)]; exact e
 new:=fun a e=>.inl e
 old:=fun a u e=>⟨u,by rw [Qf (Qg e h)]; exact e⟩
 frz:=fun a o u e=>by rw [Qf (Qg e h)]; exact e
theorem Ext.addT {H:Hp} {ρ:Tk} {p:aB} {o:HO} (h:H p=zb):Ext H ρ (upd H p o) (ρ.add p) where
 pre:=eX _ _
 hidM:=fun _ h=>h
 hidN:=fun _ h=>.inl h
 keep:=fun a u e _=>by rw [Qf (Qg e h)]; exact e
 new:=fun a e=>by
  rcases E8.mp e with z | z
  ·exact .inl z
  ·right
   have:a=p:=by simpa using z
   rw [this]; exact h
 old:=fun a u e=>⟨u,by rw [Qf (Qg e h)]; exact e⟩
 frz:=fun a o u e=>by rw [Qf (Qg e h)]; exact e
theorem Ext.same {H H':Hp} {ρ:Tk} (h:Same H H'):Ext H ρ H' ρ:=⟨dN _,fun _ h=>h,fun _ h=>.inl h,fun a o e _=>h a o e,fun _ e=>.inl e,fun a o e=>⟨o,h a o e⟩,fun a o u e=>h a _ e⟩
section
variable {H H':Hp} {ρ ρ':Tk}
theorem Ka {a:aB} {o:HO} (x:Ext H ρ H' ρ') (h:H a=zo o) (n:a∉ρ):a∉ρ':=fun z=>by
 rcases z with z | z
 ·rcases x.new a z with z | z
  ·exact n (.inl z)
  ·rw [h] at z; cases z
 ·rcases x.hidN a z with z | z
  ·exact n (.inr z)
  ·rw [h] at z; cases z
theorem Ext.kp {a:aB} {o:HO} (x:Ext H ρ H' ρ') (h:H a=zo o) (n:a∉ρ):H' a=zo o:=x.keep a o h fun z=>n (.inl z)
mutual
theorem Rep.ext (x:Ext H ρ H' ρ'):∀ {p:PV} {v:V},Rep H ρ p v->Rep H' ρ' p v
 | .non,_,h=>h
 | .bl _,_,h=>h
 | .int _,_,h=>h
 | .str _,_,h=>h
 | .tup ps,v,h=>by
  obtain ⟨a,vs,e,s,n,r⟩:=h;exact ⟨a,vs,e,x.kp s n,Ka x s n,RepL.ext x r⟩
 | .lst ps,v,h=>by
  obtain ⟨a,vs,e,s,n,r⟩:=h;exact ⟨a,vs,e,x.kp s n,Ka x s n,RepL.ext x r⟩
 | .fro ps,v,h=>by
  obtain ⟨a,vs,e,s,n,r⟩:=h;rcases s with s | ⟨o,s⟩
  ·exact ⟨a,vs,e,.inl (x.kp s n),Ka x s n,RepL.ext x r⟩
  ·exact ⟨a,vs,e,.inr ⟨o,x.kp s n⟩,Ka x s n,RepL.ext x r⟩
 | .ref i,v,h=>by
  obtain ⟨a,e,rfl⟩:=h;obtain ⟨t,j⟩:=x.pre;refine ⟨a,?_,rfl⟩;rw [<- j,D3 (O1.mp e).1];exact e
 | .dic,v,h=>by
  obtain ⟨a,e,s,n⟩:=h;exact ⟨a,e,x.kp s n,Ka x s n⟩
theorem RepL.ext (x:Ext H ρ H' ρ'):∀ {ps:List PV} {vs:List V},RepL H ρ ps vs->RepL H' ρ' ps vs
 | [],_,h=>h
 | p :: ps,vs,h=>by
  obtain ⟨v,r,e,h1,h2⟩:=h;exact ⟨v,r,e,Rep.ext x h1,RepL.ext x h2⟩
end
mutual
theorem Rep.hide {a:aB} {o:HO} (h:H a=zb):∀ {p:PV} {v:V},Rep H ρ p v->Rep (upd H a o) (ρ.hide a) p v
 | .non,_,r=>r
 | .bl _,_,r=>r
 | .int _,_,r=>r
 | .str _,_,r=>r
 | .tup ps,v,⟨b,vs,e,s,n,r⟩=>⟨b,vs,e,by rw [Qf (Qg s h)]; exact s,fun z=>by
   rcases z with z | z
   ·exact n (.inl z)
   ·rcases D5.mp z with z | z
    ·exact Qg s h z
    ·exact n (.inr z),RepL.hide h r⟩
 | .lst ps,v,⟨b,vs,e,s,n,r⟩=>⟨b,vs,e,by rw [Qf (Qg s h)]; exact s,fun z=>by
   rcases z with z | z
   ·exact n (.inl z)
   ·rcases D5.mp z with z | z
    ·exact Qg s h z
    ·exact n (.inr z),RepL.hide h r⟩
 | .fro ps,v,⟨b,vs,e,s,n,r⟩=>by
   have ne:b≠a:=by
    rcases s with s | ⟨_,s⟩
    ·exact Qg s h
    ·exact Qg s h
   refine ⟨b,vs,e,?_,fun z=>?_,RepL.hide h r⟩
   ·rcases s with s | ⟨u,s⟩
    ·exact .inl (by rw [Qf ne]; exact s)
    ·exact .inr ⟨u,by rw [Qf ne]; exact s⟩
   ·rcases z with z | z
    ·exact n (.inl z)
    ·rcases D5.mp z with z | z
     ·exact ne z
     ·exact n (.inr z)
 | .ref i,v,r=>r
 | .dic,v,⟨b,e,s,n⟩=>⟨b,e,by rw [Qf (Qg s h)]; exact s,fun z=>by
   rcases z with z | z
   ·exact n (.inl z)
   ·rcases D5.mp z with z | z
    ·exact Qg s h z
    ·exact n (.inr z)⟩
theorem RepL.hide {a:aB} {o:HO} (h:H a=zb):∀ {ps:List PV} {vs:List V},RepL H ρ ps vs->RepL (upd H a o) (ρ.hide a) ps vs
 | [],_,r=>r
 | p :: ps,_,⟨v,t,e,q,j⟩=>⟨v,t,e,Rep.hide h q,RepL.hide h j⟩
end
mutual
theorem Rep.rehide {a:aB} {o:HO} (h:a∈ρ.hid):∀ {p:PV} {v:V},Rep H ρ p v->Rep (upd H a o) ρ p v
 | .non,_,r=>r
 | .bl _,_,r=>r
 | .int _,_,r=>r
 | .str _,_,r=>r
 | .tup ps,v,⟨b,vs,e,s,n,r⟩=>⟨b,vs,e,by rw [Qf (show b≠a from fun z=>n (.inr (by rw [z]; exact h)))]; exact s,n,RepL.rehide h r⟩
 | .lst ps,v,⟨b,vs,e,s,n,r⟩=>⟨b,vs,e,by rw [Qf (show b≠a from fun z=>n (.inr (by rw [z]; exact h)))]; exact s,n,RepL.rehide h r⟩
 | .fro ps,v,⟨b,vs,e,s,n,r⟩=>by
   have ne:b≠a:=fun z=>n (.inr (by rw [z]; exact h))
   refine ⟨b,vs,e,?_,n,RepL.rehide h r⟩;rcases s with s | ⟨u,s⟩
   ·exact .inl (by rw [Qf ne]; exact s)
   ·exact .inr ⟨u,by rw [Qf ne]; exact s⟩
 | .ref i,v,r=>r
 | .dic,v,⟨b,e,s,n⟩=>⟨b,e,by rw [Qf (show b≠a from fun z=>n (.inr (by rw [z]; exact h)))]; exact s,n⟩
theorem RepL.rehide {a:aB} {o:HO} (h:a∈ρ.hid):∀ {ps:List PV} {vs:List V},RepL H ρ ps vs->RepL (upd H a o) ρ ps vs
 | [],_,r=>r
 | p :: ps,_,⟨v,t,e,q,j⟩=>⟨v,t,e,Rep.rehide h q,RepL.rehide h j⟩
end
mutual
theorem Rep.retr {a:aB} {o:HO} (h:a∈ρ.tr):∀ {p:PV} {v:V},Rep H ρ p v->Rep (upd H a o) ρ p v
 | .non,_,r=>r
 | .bl _,_,r=>r
 | .int _,_,r=>r
 | .str _,_,r=>r
 | .tup ps,v,⟨b,vs,e,s,n,r⟩=>⟨b,vs,e,by rw [Qf (show b≠a from fun z=>n (.inl (by rw [z]; exact h)))]; exact s,n,RepL.retr h r⟩
 | .lst ps,v,⟨b,vs,e,s,n,r⟩=>⟨b,vs,e,by rw [Qf (show b≠a from fun z=>n (.inl (by rw [z]; exact h)))]; exact s,n,RepL.retr h r⟩
 | .fro ps,v,⟨b,vs,e,s,n,r⟩=>by
   have ne:b≠a:=fun z=>n (.inl (by rw [z]; exact h))
   refine ⟨b,vs,e,?_,n,RepL.retr h r⟩;rcases s with s | ⟨u,s⟩
   ·exact .inl (by rw [Qf ne]; exact s)
   ·exact .inr ⟨u,by rw [Qf ne]; exact s⟩
 | .ref i,v,r=>r
 | .dic,v,⟨b,e,s,n⟩=>⟨b,e,by rw [Qf (show b≠a from fun z=>n (.inl (by rw [z]; exact h)))]; exact s,n⟩
theorem RepL.retr {a:aB} {o:HO} (h:a∈ρ.tr):∀ {ps:List PV} {vs:List V},RepL H ρ ps vs->RepL (upd H a o) ρ ps vs
 | [],_,r=>r
 | p :: ps,_,⟨v,t,e,q,j⟩=>⟨v,t,e,Rep.retr h q,RepL.retr h j⟩
end
mutual
theorem Rep.unhide {hs:List aB} (j:∀ a,a∈hs->a∈ρ.hid):∀ {p:PV} {v:V},Rep H ρ p v->Rep H ⟨ρ.tr,hs⟩ p v
 | .non,_,r=>r
 | .bl _,_,r=>r
 | .int _,_,r=>r
 | .str _,_,r=>r
 | .tup ps,v,⟨b,vs,e,s,n,r⟩=>⟨b,vs,e,s,fun z=>n (z.imp id (j _)),RepL.unhide j r⟩
 | .lst ps,v,⟨b,vs,e,s,n,r⟩=>⟨b,vs,e,s,fun z=>n (z.imp id (j _)),RepL.unhide j r⟩
 | .fro ps,v,⟨b,vs,e,s,n,r⟩=>⟨b,vs,e,s,fun z=>n (z.imp id (j _)),RepL.unhide j r⟩
 | .ref i,v,r=>r
 | .dic,v,⟨b,e,s,n⟩=>⟨b,e,s,fun z=>n (z.imp id (j _))⟩
theorem RepL.unhide {hs:List aB} (j:∀ a,a∈hs->a∈ρ.hid):∀ {ps:List PV} {vs:List V},RepL H ρ ps vs->RepL H ⟨ρ.tr,hs⟩ ps vs
 | [],_,r=>r
 | p :: ps,_,⟨v,t,e,z,q⟩=>⟨v,t,e,Rep.unhide j z,RepL.unhide j q⟩
end
theorem RepL.length:∀ {ps:List PV} {vs:List V},RepL H ρ ps vs->ps.length=vs.length
 | [],_,h=>by cases h; rfl
 | p :: ps,_,⟨v,r,rfl,_,h2⟩=>by rw [D7,D7,RepL.length h2]
theorem RepL.get:∀ {ps:List PV} {vs:List V} {i:Nat} {p:PV},RepL H ρ ps vs->ps[i]?=zo p->∃ v,vs[i]?=zo v/\Rep H ρ p v
 | [],_,_,_,_,e=>by simp at e
 | p :: ps,_,0,q,⟨v,r,rfl,h1,h2⟩,e=>by simp at e; subst e; exact ⟨v,rfl,h1⟩
 | p :: ps,_,i + 1,q,⟨v,r,rfl,h1,h2⟩,e=>by
  obtain ⟨u,e1,e2⟩:=RepL.get (i:=i) h2 (by simpa using e);exact ⟨u,by simpa using e1,e2⟩
theorem RepL.cons {p:PV} {v:V} {ps:List PV} {vs:List V} (h:Rep H ρ p v) (r:RepL H ρ ps vs):RepL H ρ (p :: ps) (v :: vs):=⟨v,vs,rfl,h,r⟩
theorem RepL.nil:RepL H ρ [] []:=rfl
theorem RepL.append:∀ {ps j:List PV} {vs q:List V},RepL H ρ ps vs->RepL H ρ j q->RepL H ρ (ps ++ j) (vs ++ q)
 | [],_,_,_,h,g=>by cases h; exact g
 | p :: ps,_,_,_,⟨v,r,rfl,h1,h2⟩,g=>⟨v,_,rfl,h1,RepL.append h2 g⟩
theorem RepL.take:∀ {ps:List PV} {vs:List V} (n:Nat),RepL H ρ ps vs->RepL H ρ (ps.take n) (vs.take n)
 | _,_,0,_=>rfl
 | [],_,n + 1,h=>by cases h; rfl
 | p :: ps,_,n + 1,⟨v,r,rfl,h1,h2⟩=>⟨v,_,rfl,h1,RepL.take n h2⟩
theorem RepL.drop:∀ {ps:List PV} {vs:List V} (n:Nat),RepL H ρ ps vs->RepL H ρ (ps.drop n) (vs.drop n)
 | _,_,0,h=>h
 | [],_,n + 1,h=>by cases h; rfl
 | p :: ps,_,n + 1,⟨v,r,rfl,h1,h2⟩=>RepL.drop n h2
theorem RepL.set {p:PV} {v:V} (h:Rep H ρ p v):∀ {ps:List PV} {vs:List V} (i:Nat),RepL H ρ ps vs->RepL H ρ (ps.set i p) (vs.set i v)
 | [],_,_,g=>by cases g; rfl
 | q :: ps,_,0,⟨u,r,rfl,h1,h2⟩=>⟨v,r,rfl,h,h2⟩
 | q :: ps,_,i + 1,⟨u,r,rfl,h1,h2⟩=>⟨u,_,rfl,h1,RepL.set h i h2⟩
theorem RepL.rep {ps:List PV} {vs:List V} (h:RepL H ρ ps vs):∀ n,RepL H ρ (bh n ps).flatten (bh n vs).flatten
 | 0=>rfl
 | n + 1=>by rw [cz,cz,dG,dG]; exact h.append (RepL.rep h n)
theorem RepL.toInts:∀ {ns:List Int} {vs:List V},RepL H ρ (ns.map .int) vs->vs=ns.map V.int
 | [],_,h=>h
 | n :: ns,_,⟨v,r,rfl,h1,h2⟩=>by
  have e:v=V.int n:=h1;rw [RepL.toInts h2,e]; rfl
theorem RepL.toBls:∀ {ns:List Bool} {vs:List V},RepL H ρ (ns.map .bl) vs->vs=ns.map V.bl
 | [],_,h=>h
 | n :: ns,_,⟨v,r,rfl,h1,h2⟩=>by
  have e:v=V.bl n:=h1;rw [RepL.toBls h2,e]; rfl
end
def RepD {κ:Type} (H:Hp) (ρ:Tk) (kvs:List (κ × PV)) (vs:List (κ × V)):Prop:=vs.map bu=kvs.map bu/\RepL H ρ (kvs.map dC) (vs.map dC)
theorem RepD.ext {κ:Type} {H H':Hp} {ρ ρ':Tk} {kvs:List (κ × PV)} {vs:List (κ × V)} (x:Ext H ρ H' ρ') (r:RepD H ρ kvs vs):RepD H' ρ' kvs vs:=⟨r.1,r.2.ext x⟩
theorem RepD.length {κ:Type} {H:Hp} {ρ:Tk} {kvs:List (κ × PV)} {vs:List (κ × V)} (r:RepD H ρ kvs vs):kvs.length=vs.length:=by
 have:=congrArg dY r.1;rw [O3,O3] at this;exact this.symm
def CellR (H:Hp) (ρ:Tk) (a:aB):Cell->Prop
 | .lst ps=>∃ vs,H a=zo (.lst vs)/\RepL H ρ ps vs
 | .dic kvs=>∃ vs,H a=zo (.dK vs)/\RepD H ρ kvs vs
 | .dtp kvs=>∃ vs,H a=zo (.dT vs)/\RepD H ρ kvs vs
 | .frd kvs=>∃ vs,(∃ o,H a=zo (.frz o (.dK vs)))/\RepD H ρ kvs vs
 | .obj C fs=>∃ vs,(∃ dx,H a=zo (.ins C dx vs))/\RepD H ρ fs vs
theorem CellR.dom {H:Hp} {ρ:Tk} {a:aB}:∀ {c:Cell},CellR H ρ a c->∃ o,H a=zo o
 | .lst _,⟨_,e,_⟩=>⟨_,e⟩
 | .dic _,⟨_,e,_⟩=>⟨_,e⟩
 | .dtp _,⟨_,e,_⟩=>⟨_,e⟩
 | .frd _,⟨_,⟨_,e⟩,_⟩=>⟨_,e⟩
 | .obj _ _,⟨_,⟨_,e⟩,_⟩=>⟨_,e⟩
theorem CellR.ext {H H':Hp} {ρ ρ':Tk} {a:aB} (x:Ext H ρ H' ρ') (k:∀ o,H a=zo o->H' a=zo o):∀ {c:Cell},CellR H ρ a c->CellR H' ρ' a c
 | .lst _,⟨vs,e,r⟩=>⟨vs,k _ e,r.ext x⟩
 | .dic _,⟨vs,e,r⟩=>⟨vs,k _ e,r.ext x⟩
 | .dtp _,⟨vs,e,r⟩=>⟨vs,k _ e,r.ext x⟩
 | .frd _,⟨vs,⟨o,e⟩,r⟩=>⟨vs,⟨o,k _ e⟩,r.ext x⟩
 | .obj _ _,⟨vs,⟨o,e⟩,r⟩=>⟨vs,⟨o,k _ e⟩,r.ext x⟩
structure Rel (H:Hp) (ρ:Tk) (st:Q2):Prop where
 len:ρ.tr.length=st.length
 nd:ρ.tr.Nodup
 hd:∀ a∈ρ.hid,∃ o,H a=zo o/\∀ xs,o≠.tup xs
 ap:∀ a∈ρ.hid,a∉ρ.tr
 cell:∀ (i:Nat) (a:aB) (c:Cell),ρ.tr[i]?=zo a->st[i]?=zo c->CellR H ρ a c
section
variable {H H':Hp} {ρ ρ':Tk} {st st':Q2}
theorem Rel.lst (R:Rel H ρ st) {i:Nat} {ps:List PV} (h:st[i]?=zo (.lst ps)):∃ a vs,ρ.tr[i]?=zo a/\H a=zo (.lst vs)/\RepL H ρ ps vs:=by
 have hi:i < ρ.tr.length:=by rw [R.len]; exact (O1.mp h).1
 have e:ρ.tr[i]?=zo ρ.tr[i]:=O0 hi;obtain ⟨vs,e1,e2⟩:=R.cell i _ _ e h;exact ⟨_,vs,e,e1,e2⟩
theorem Rel.dtp (R:Rel H ρ st) {i:Nat} {kvs:List (HK × PV)} (h:st[i]?=zo (.dtp kvs)):∃ a vs,ρ.tr[i]?=zo a/\H a=zo (.dT vs)/\RepD H ρ kvs vs:=by
 have hi:i < ρ.tr.length:=by rw [R.len]; exact (O1.mp h).1
 have e:ρ.tr[i]?=zo ρ.tr[i]:=O0 hi;obtain ⟨vs,e1,e2⟩:=R.cell i _ _ e h;exact ⟨_,vs,e,e1,e2⟩
theorem Rel.dom (R:Rel H ρ st) {a:aB} (h:a∈ρ.tr):∃ o,H a=zo o:=by
 obtain ⟨i,hi,e⟩:=F8 h;have hs:i < st.length:=by rw [<- R.len]; exact hi
 have q:=R.cell i a st[i] (by rw [O0 hi,e]) (O0 hs);exact q.dom
theorem Rel.fresh (R:Rel H ρ st) {p:aB} (h:H p=zb):p∉ρ:=fun z=>by
 rcases z with z | z
 ·obtain ⟨vs,q⟩:=R.dom z;rw [h] at q; cases q
 ·obtain ⟨o,q,_⟩:=R.hd p z;rw [h] at q; cases q
theorem Rel.later (R:Rel H ρ st) (x:Ext H ρ H' ρ) (k:∀ a o,a∈ρ.tr->H a=zo o->H' a=zo o):Rel H' ρ st where
 len:=R.len
 nd:=R.nd
 hd:=fun a j=>let ⟨o,e,n⟩:=R.hd a j; ⟨o,x.keep a o e (R.ap a j),n⟩
 ap:=R.ap
 cell:=fun i a c h1 h2=>by
  exact (R.cell i a c h1 h2).ext x fun o e=>k a o (D9 h1) e
end
theorem Rel.add {H:Hp} {ρ:Tk} {st:Q2} (R:Rel H ρ st) {p:aB} {o:HO} (h:H p=zb):Rel (upd H p o) ρ st:=
 R.later (Ext.add h) fun a u hm e=>by rw [Qf (Qg e h)]; exact e
theorem Rel.same {H H':Hp} {ρ:Tk} {st:Q2} (R:Rel H ρ st) (h:Same H H'):Rel H' ρ st:=R.later (Ext.same h) fun a u _ e=>h a u e
theorem Rel.addC {H:Hp} {ρ:Tk} {st:Q2} (R:Rel H ρ st) {p:aB} {cl:Cell} {o:HO} (h:H p=zb) (r:CellR (upd H p o) (ρ.add p) p cl):Rel (upd H p o) (ρ.add p) (st ++ [cl]) where
 len:=by show (ρ.tr ++ [p]).length=_; rw [D4,D4,R.len]; rfl
 nd:=dM.mpr ⟨R.nd,by simp,fun a j b G e=>by
  have:b=p:=by simpa using G
  subst this; subst e;exact R.fresh h (.inl j)⟩
 hd:=fun a j=>let ⟨o,e,n⟩:=R.hd a j; ⟨o,by rw [Qf (Qg e h)]; exact e,n⟩
 ap:=fun a j z=>by
  rcases E8.mp z with z | z
  ·exact R.ap a j z
  ·have:a=p:=by simpa using z
   subst this;exact R.fresh h (.inr j)
 cell:=fun i a c h1 h2=>by
  have h1:(ρ.tr ++ [p])[i]?=zo a:=h1
  by_cases hi:i < st.length
  ·rw [D3 (by rw [R.len]; exact hi)] at h1;rw [D3 hi] at h2;exact (R.cell i a c h1 h2).ext (Ext.addT h) fun u e=>by rw [Qf (Qg e h)]; exact e
  ·rw [D6 (by rw [R.len]; omega)] at h1;rw [D6 (by omega)] at h2;have q:i - st.length=0:=by
    rcases iR (i - st.length) with z | z
    ·exact z
    ·rw [eT (by simp; omega)] at h2; cases h2
   rw [R.len,q] at h1;rw [q] at h2;simp at h1 h2;subst h1; subst h2;exact r
theorem Q66 {α:Type} {l:List α} (h:l.Nodup) {i j:Nat} (hi:i < l.length) (q:j < l.length) (e:l[i]=l[j]):i=j:=by
 rcases Nat.lt_trichotomy i j with z | z | z
 ·exact absurd e ((eP.mp h) i j hi q z)
 ·exact z
 ·exact absurd e.symm ((eP.mp h) j i q hi z)
theorem Ext.put {H:Hp} {ρ:Tk} {a:aB} {o o':HO} (h:a∈ρ.tr) (e:H a=zo o) (j:∀ q u,o≠.frz q u:=by intro _ _ z; cases z):Ext H ρ (upd H a o') ρ where
 pre:=dN _
 hidM:=fun _ h=>h
 hidN:=fun _ h=>.inl h
 keep:=fun b u q n=>by rw [Qf (show b≠a from fun z=>n (by rw [z]; exact h))]; exact q
 new:=fun b q=>.inl q
 old:=fun b u q=>by
  by_cases z:b=a
  ·exact ⟨o',by rw [z]; exact Qp⟩
  ·exact ⟨u,by rw [Qf z]; exact q⟩
 frz:=fun b q u k=>by
  by_cases z:b=a
  ·rw [z,e] at k; cases k; exact absurd rfl (j _ _)
  ·rw [Qf z]; exact k
theorem Rel.putC {H:Hp} {ρ:Tk} {st:Q2} (R:Rel H ρ st) {i:Nat} {a:aB} {cl:Cell} {o o':HO} (hi:ρ.tr[i]?=zo a) (e:H a=zo o) (r:CellR (upd H a o') ρ a cl):Rel (upd H a o') ρ (st.set i cl) where
 len:=by rw [F7]; exact R.len
 nd:=R.nd
 hd:=fun b G=>let ⟨u,q,n⟩:=R.hd b G; ⟨u,by rw [Qf (show b≠a from fun z=>R.ap b G (by rw [z]; exact D9 hi))]; exact q,n⟩
 ap:=R.ap
 cell:=fun j b c h1 h2=>by
  by_cases J:i=j
  ·subst J;rw [hi] at h1; cases h1;rw [F3 (by rw [<- R.len]; exact (O1.mp hi).1)] at h2;cases h2;exact r
  ·rw [F2 J] at h2;have q:=R.cell j b c h1 h2;have G:b≠a:=fun z=>by
    subst z;have U:=(O1.mp hi);have Y:=(O1.mp h1);exact J (Q66 R.nd U.1 Y.1 (U.2.trans Y.2.symm))
   have hm:=D9 hi;cases c with
   | lst ps=>
    obtain ⟨vs,e1,e2⟩:=q;exact ⟨vs,by rw [Qf G]; exact e1,e2.retr hm⟩
   | dic ps=>
    obtain ⟨vs,e1,e2⟩:=q;exact ⟨vs,by rw [Qf G]; exact e1,e2.1,e2.2.retr hm⟩
   | dtp ps=>
    obtain ⟨vs,e1,e2⟩:=q;exact ⟨vs,by rw [Qf G]; exact e1,e2.1,e2.2.retr hm⟩
   | frd ps=>
    obtain ⟨vs,⟨O,e1⟩,e2⟩:=q;exact ⟨vs,⟨O,by rw [Qf G]; exact e1⟩,e2.1,e2.2.retr hm⟩
   | obj C ps=>
    obtain ⟨vs,⟨O,e1⟩,e2⟩:=q;exact ⟨vs,⟨O,by rw [Qf G]; exact e1⟩,e2.1,e2.2.retr hm⟩
theorem Rel.put {H:Hp} {ρ:Tk} {st:Q2} (R:Rel H ρ st) {i:Nat} {a:aB} {ps:List PV} {vs:List V} {o:HO} (hi:ρ.tr[i]?=zo a) (e:H a=zo o) (r:RepL H ρ ps vs):Rel (upd H a (.lst vs)) ρ (st.set i (.lst ps)):=
 R.putC hi e ⟨vs,Qp,r.retr (D9 hi)⟩
theorem Rel.hide {H:Hp} {ρ:Tk} {st:Q2} (R:Rel H ρ st) {p:aB} {o:HO} (h:H p=zb) (O:∀ xs,o≠.tup xs:=by intro _ z; cases z):Rel (upd H p o) (ρ.hide p) st:=by
 have x:Ext H ρ (upd H p o) ρ:=Ext.add h;have J:=R.add (p:=p) (o:=o) h;refine ⟨J.len,J.nd,fun a j=>?_,fun a j z=>?_,fun i a c h1 h2=>?_⟩
 ·rcases D5.mp j with rfl | j
  ·exact ⟨o,Qp,O⟩
  ·exact J.hd a j
 ·rcases D5.mp j with rfl | j
  ·exact R.fresh h (.inl z)
  ·exact R.ap a j z
 ·have q:=R.cell i a c h1 h2;cases c with
  | lst ps=>
   obtain ⟨vs,e1,e2⟩:=q;exact ⟨vs,by rw [Qf (Qg e1 h)]; exact e1,e2.hide h⟩
  | dic ps=>
   obtain ⟨vs,e1,e2⟩:=q;exact ⟨vs,by rw [Qf (Qg e1 h)]; exact e1,e2.1,e2.2.hide h⟩
  | dtp ps=>
   obtain ⟨vs,e1,e2⟩:=q;exact ⟨vs,by rw [Qf (Qg e1 h)]; exact e1,e2.1,e2.2.hide h⟩
  | frd ps=>
   obtain ⟨vs,⟨G,e1⟩,e2⟩:=q;exact ⟨vs,⟨G,by rw [Qf (Qg e1 h)]; exact e1⟩,e2.1,e2.2.hide h⟩
  | obj C ps=>
   obtain ⟨vs,⟨G,e1⟩,e2⟩:=q;exact ⟨vs,⟨G,by rw [Qf (Qg e1 h)]; exact e1⟩,e2.1,e2.2.hide h⟩
theorem Rel.rehide {H:Hp} {ρ:Tk} {st:Q2} (R:Rel H ρ st) {p:aB} {o:HO} (h:p∈ρ.hid) (J:∀ xs,o≠.tup xs:=by intro _ z; cases z):Rel (upd H p o) ρ st:=by
 refine ⟨R.len,R.nd,fun a G=>?_,R.ap,fun i a c h1 h2=>?_⟩
 ·by_cases e:a=p
  ·exact ⟨o,by rw [e]; exact Qp,J⟩
  ·obtain ⟨u,q,n⟩:=R.hd a G;exact ⟨u,by rw [Qf e]; exact q,n⟩
 ·have q:=R.cell i a c h1 h2;have ne:a≠p:=fun z=>R.ap p h (by rw [<- z]; exact D9 h1)
  cases c with
  | lst ps=>
   obtain ⟨vs,e1,e2⟩:=q;exact ⟨vs,by rw [Qf ne]; exact e1,e2.rehide h⟩
  | dic ps=>
   obtain ⟨vs,e1,e2⟩:=q;exact ⟨vs,by rw [Qf ne]; exact e1,e2.1,e2.2.rehide h⟩
  | dtp ps=>
   obtain ⟨vs,e1,e2⟩:=q;exact ⟨vs,by rw [Qf ne]; exact e1,e2.1,e2.2.rehide h⟩
  | frd ps=>
   obtain ⟨vs,⟨j,e1⟩,e2⟩:=q;exact ⟨vs,⟨j,by rw [Qf ne]; exact e1⟩,e2.1,e2.2.rehide h⟩
  | obj C ps=>
   obtain ⟨vs,⟨j,e1⟩,e2⟩:=q;exact ⟨vs,⟨j,by rw [Qf ne]; exact e1⟩,e2.1,e2.2.rehide h⟩
theorem Rel.unhide {H:Hp} {ρ:Tk} {st:Q2} {hs:List aB} (j:∀ a,a∈hs->a∈ρ.hid) (R:Rel H ρ st):Rel H ⟨ρ.tr,hs⟩ st:=by
 refine ⟨R.len,R.nd,fun a z=>R.hd a (j a z),fun a z=>R.ap a (j a z),fun i a c h1 h2=>?_⟩;have q:=R.cell i a c h1 h2;cases c with
 | lst ps=>
  obtain ⟨vs,e1,e2⟩:=q;exact ⟨vs,e1,RepL.unhide j e2⟩
 | dic ps=>
  obtain ⟨vs,e1,e2⟩:=q;exact ⟨vs,e1,e2.1,RepL.unhide j e2.2⟩
 | dtp ps=>
  obtain ⟨vs,e1,e2⟩:=q;exact ⟨vs,e1,e2.1,RepL.unhide j e2.2⟩
 | frd ps=>
  obtain ⟨vs,e1,e2⟩:=q;exact ⟨vs,e1,e2.1,RepL.unhide j e2.2⟩
 | obj C ps=>
  obtain ⟨vs,e1,e2⟩:=q;exact ⟨vs,e1,e2.1,RepL.unhide j e2.2⟩
theorem Ext.hide {H:Hp} {ρ:Tk} {p:aB} {o:HO} (h:H p=zb):Ext H ρ (upd H p o) (ρ.hide p) where
 pre:=dN _
 hidM:=fun _ h=>O5 _ h
 hidN:=fun a j=>by
  rcases D5.mp j with rfl | j
  ·exact .inr h
  ·exact .inl j
 keep:=fun a u e _=>by rw [Qf (Qg e h)]; exact e
 new:=fun a e=>.inl e
 old:=fun a u e=>⟨u,by rw [Qf (Qg e h)]; exact e⟩
 frz:=fun a o u e=>by rw [Qf (Qg e h)]; exact e
theorem Ext.put0 {H H1:Hp} {ρ ρ1:Tk} {p:aB} {o:HO} (x:Ext H ρ H1 ρ1) (h:H p=zb):Ext H ρ (upd H1 p o) ρ1 where
 pre:=x.pre
 hidM:=x.hidM
 hidN:=x.hidN
 keep:=fun a u e n=>by rw [Qf (Qg e h)]; exact x.keep a u e n
 new:=x.new
 old:=fun a u e=>by rw [Qf (Qg e h)]; exact x.old a u e
 frz:=fun a o u e=>by rw [Qf (Qg e h)]; exact x.frz a o u e
theorem Ext.unhide {H H1:Hp} {ρ ρ1:Tk} (x:Ext H ρ H1 ρ1):Ext H ρ H1 ⟨ρ1.tr,ρ.hid⟩ where
 pre:=x.pre
 hidM:=fun _ h=>h
 hidN:=fun _ h=>.inl h
 keep:=x.keep
 new:=x.new
 old:=x.old
 frz:=x.frz
def EnvR (H:Hp) (ρ:Tk) (Γ:Gam) (σ:St):Prop:=Γ.length=σ.length/\∀ (i:Nat) (p:PV),Γ[i]?=zo (zo p)->∃ v,σ[i]?=zo (zo v)/\Rep H ρ p v
theorem EnvR.ext {H H':Hp} {ρ ρ':Tk} {Γ:Gam} {σ:St} (x:Ext H ρ H' ρ') (h:EnvR H ρ Γ σ):EnvR H' ρ' Γ σ:=
 ⟨h.1,fun i p e=>let ⟨v,a,b⟩:=h.2 i p e; ⟨v,a,b.ext x⟩⟩
theorem EnvR.hide {H:Hp} {ρ:Tk} {Γ:Gam} {σ:St} {a:aB} {o:HO} (n:H a=zb) (h:EnvR H ρ Γ σ):EnvR (upd H a o) (ρ.hide a) Γ σ:=⟨h.1,fun i p e=>let ⟨v,a,b⟩:=h.2 i p e; ⟨v,a,b.hide n⟩⟩
theorem EnvR.rehide {H:Hp} {ρ:Tk} {Γ:Gam} {σ:St} {a:aB} {o:HO} (n:a∈ρ.hid) (h:EnvR H ρ Γ σ):EnvR (upd H a o) ρ Γ σ:=⟨h.1,fun i p e=>let ⟨v,a,b⟩:=h.2 i p e; ⟨v,a,b.rehide n⟩⟩
theorem EnvR.set {H:Hp} {ρ:Tk} {Γ:Gam} {σ:St} {p:PV} {v:V} (h:EnvR H ρ Γ σ) (r:Rep H ρ p v) (i:Nat):EnvR H ρ (Γ.set i (zo p)) (σ.set i (zo v)):=by
 refine ⟨by rw [F7,F7]; exact h.1,fun j q e=>?_⟩;rw [iS] at e;rw [iS]
 by_cases G:i=j
 ·subst G;simp only [if_true] at e ⊢
  by_cases z:i < Γ.length
  ·rw [bS z] at e; cases e;rw [bS (by rw [<- h.1]; exact z)];exact ⟨v,rfl,r⟩
  ·rw [bT z] at e; cases e
 ·rw [bT G] at e ⊢;exact h.2 j q e
end
def Res.bind {α β:Type} (r:Res α) (f:α->Q2->Res β):Res β:=match r with
 | .ok a st=>f a st
 | .exc x st=>.exc x st
 | .stuck=>.stuck
def okO {α:Type} (st:Q2):Option α->Res α
 | some a=>.ok a st
 | none=>.stuck
section
variable (X:Cx)
def WE (e:aH):TE:=fun σ H Q=>∀ (pins:List (aB × Obj)) (s:aC),Inv X pins σ H s->aF (aI X.prog X.w) X.A (aP e X.env) (EP X pins σ Q) X.xe s
def WT (e:aH):TT:=fun σ H Q=>∀ (pins:List (aB × Obj)) (s:aC),Inv X pins σ H s->aF (aI X.prog X.w) X.A (isTrue e X.env (aP e X.env)) (TP X pins σ Q) X.xe s
def WW (e:aH):TT:=fun σ H Q=>∀ (wh:Sem aA) (pins:List (aB × Obj)) (s:aC),Inv X pins σ H s->aF (aI X.prog X.w) X.A (isTrue e X.env wh) (TP X pins σ Q) X.xe s
def WA (es:List aH):TA:=fun σ H Q=>∀ (pos:Pos) (pins:List (aB × Obj)) (s:aC),Inv X pins σ H s->aF (aI X.prog X.w) X.A (spliced (aY pos (aN es X.env))) (AP X pins σ Q) X.xe s
def WS (st:aL):TS:=fun D σ H=>∀ (pins:List (aB × Obj)) (s:aC),Inv X pins σ H s->aF (aI X.prog X.w) X.A (exec st X.env) (SP X pins D) X.xe s
def WB (st:List aL):TS:=fun D σ H=>∀ (pins:List (aB × Obj)) (s:aC),Inv X pins σ H s->aF (aI X.prog X.w) X.A (execs st X.env) (SP X pins D) X.xe s
def WI (tg iter : aH) : TI := fun σ H R => ∀ (pins : List (aB × Obj)) (s : aC), Inv X pins σ H s ->
  aF (aI X.prog X.w) X.A (aP iter X.env) (fun v s1=>aF (aI X.prog X.w) X.A (pyIter v) (PIE X pins σ tg R) X.xe s1) X.xe s
def WO (f:aA->aA->Sem aA):R2:=fun x y H Q=>∀ (pins:List (aB × Obj)) (s:aC) (σ:St) (v u:aA),Inv X pins σ H s->RelV x v->RelV y u->aF (aI X.prog X.w) X.A (f v u) (EP X pins σ Q) X.xe s
def WC (f:aA):List V->Hp->VK->Prop:=fun xs H Q=>∀ (pins:List (aB × Obj)) (s:aC) (σ:St) (us:List aA),Inv X pins σ H s->Vals xs us->aF (aI X.prog X.w) X.A (call f us) (EP X pins σ Q) X.xe s
end
section
variable {X:Cx}
theorem Zb {e:aH}:PE X e (WE X e):=fun pins s _ _ _ I h=>h pins s I
theorem Qby {e:aH}:PT X e (WT X e):=fun pins s _ _ _ I h=>h pins s I
theorem Qtz {e:aH}:PW X e (WW X e):=fun j pins s _ _ _ I h=>h j pins s I
theorem Q3t {es:List aH}:PA X es (WA X es):=fun pos pins s _ _ _ I h=>h pos pins s I
theorem Qu0 {st:aL}:PS X st (WS X st):=fun pins s _ _ _ I h=>h pins s I
theorem Q62 {st:List aL}:PSs X st (WB X st):=fun pins s _ _ _ I h=>h pins s I
theorem Qr0 {tg iter:aH}:PI X tg iter (WI X tg iter):=fun pins s _ _ _ I h=>h pins s I
theorem Qc4 {f:aA->aA->Sem aA}:OpR X f (WO X f):=fun pins s σ _ _ _ v u _ I q j h=>h pins s σ v u I q j
theorem Qkb {f:aA}:V8 X f (WC X f):=fun pins s σ _ _ j _ I r h=>h pins s σ j I r
theorem WE.of {e:aH} {t:TE} {σ:St} {H:Hp} {Q:VK} (h:PE X e t) (q:t σ H Q):WE X e σ H Q:=fun pins s I=>h pins s σ H Q I q
theorem WT.of {e:aH} {t:TT} {σ:St} {H:Hp} {Q:Bool->Hp->Prop} (h:PT X e t) (q:t σ H Q):WT X e σ H Q:=fun pins s I=>h pins s σ H Q I q
theorem WW.of {e:aH} {t:TT} {σ:St} {H:Hp} {Q:Bool->Hp->Prop} (h:PW X e t) (q:t σ H Q):WW X e σ H Q:=fun j pins s I=>h j pins s σ H Q I q
theorem WA.of {es:List aH} {t:TA} {σ:St} {H:Hp} {Q:List V->Hp->Prop} (h:PA X es t) (q:t σ H Q):WA X es σ H Q:=fun pos pins s I=>h pos pins s σ H Q I q
theorem WS.of {st:aL} {t:TS} {σ:St} {H:Hp} {D:Ends} (h:PS X st t) (q:t D σ H):WS X st D σ H:=fun pins s I=>h pins s σ H D I q
theorem WB.of {st:List aL} {t:TS} {σ:St} {H:Hp} {D:Ends} (h:PSs X st t) (q:t D σ H):WB X st D σ H:=fun pins s I=>h pins s σ H D I q
theorem WI.of {tg iter:aH} {t:TI} {σ:St} {H:Hp} {R:It->Hp->Prop} (h:PI X tg iter t) (q:t σ H R):WI X tg iter σ H R:=fun pins s I=>h pins s σ H R I q
theorem WO.of {f:aA->aA->Sem aA} {r:R2} {x y:V} {H:Hp} {Q:VK} (h:OpR X f r) (q:r x y H Q):WO X f x y H Q:=fun pins s σ v u I z j=>h pins s σ H x y v u Q I z j q
theorem WC.of {f:aA} {r:List V->Hp->VK->Prop} {xs:List V} {H:Hp} {Q:VK} (h:V8 X f r) (q:r xs H Q):WC X f xs H Q:=fun pins s σ j I z=>h pins s σ H xs j Q I z q
end
def XFs (H:Hp) (ρ:Tk):Option (Str × PV)->Option aB->Prop
 | none,dv=>dv=zb
 | some (n,p),dv=>∃ dx v,dv=zo dx/\H dx=zo (.xd [(n,v)])/\dx∉ρ/\Rep H ρ p v
def Acc {α:Type} (mg:Str->Option aA) (E:XK) (H:Hp) (ρ:Tk) (P:α->Q2->Hp->Tk->Prop):Res α->Prop
 | .ok a st=>∀ H' ρ',Ext H ρ H' ρ'->Rel H' ρ' st->P a st H' ρ'
 | .exc x st=>∀ C dv H' ρ',mg x.cls=zo (.ref C)->Ext H ρ H' ρ'->Rel H' ρ' st->XFs H' ρ' x.fs dv->E (.ref C) dv H'
 | .stuck=>False
section
variable {α β:Type} {mg:Str->Option aA} {E:XK} {H H1:Hp} {ρ ρ1:Tk}
theorem Acc.mono {P z:α->Q2->Hp->Tk->Prop} {r:Res α} (h:Acc mg E H ρ P r) (x:Ext H ρ H1 ρ1) (k:∀ a st H' ρ',P a st H' ρ'->z a st H' ρ'):Acc mg E H1 ρ1 z r:=by
 cases r with
 | ok a st=>exact fun H' ρ' j q=>k _ _ _ _ (h H' ρ' (x.trans j) q)
 | exc e st=>exact fun C G H' ρ' m j q f=>h C G H' ρ' m (x.trans j) q f
 | stuck=>exact h
theorem Acc.later {P:α->Q2->Hp->Tk->Prop} {r:Res α} (h:Acc mg E H ρ P r) (x:Ext H ρ H1 ρ1):Acc mg E H1 ρ1 P r:=h.mono x fun _ _ _ _ p=>p
theorem Acc.bind {P:β->Q2->Hp->Tk->Prop} {r:Res α} {f:α->Q2->Res β} (h:Acc mg E H ρ P (r.bind f)):Acc mg E H ρ (fun a j H1 ρ1=>Acc mg E H1 ρ1 P (f a j)) r:=by
 cases r with
 | ok a st=>exact fun H' ρ' q z=>Acc.later (show Acc mg E H ρ P (f a st) from h) q
 | exc e st=>exact h
 | stuck=>exact h
end
abbrev QV (Q:VK):PV->Q2->Hp->Tk->Prop:=fun p _ H' ρ'=>∀ v,Rep H' ρ' p v->Q v H'
abbrev QL (Q:List V->Hp->Prop):List PV->Q2->Hp->Tk->Prop:=fun ps _ H' ρ'=>∀ vs,RepL H' ρ' ps vs->Q vs H'
abbrev QB (Q:Bool->Hp->Prop):Bool->Q2->Hp->Tk->Prop:=fun b _ H' _=>Q b H'
structure SimE (X:Cx) (E:XK) (e:aH) (m:ME):Prop where
 run:∀ (Γ:Gam) (σ:St) (H:Hp) (ρ:Tk) (st:Q2) (Q:VK),Rel H ρ st->EnvR H ρ Γ σ->Acc X.mg E H ρ (QV Q) (m Γ st)->WE X e σ H Q
structure SimT (X:Cx) (E:XK) (e:aH) (m:Gam->Q2->Res Bool):Prop where
 run:∀ (Γ:Gam) (σ:St) (H:Hp) (ρ:Tk) (st:Q2) (Q:Bool->Hp->Prop),Rel H ρ st->EnvR H ρ Γ σ->Acc X.mg E H ρ (QB Q) (m Γ st)->WT X e σ H Q
structure SimW (X:Cx) (E:XK) (e:aH) (m:Gam->Q2->Res Bool):Prop where
 run:∀ (Γ:Gam) (σ:St) (H:Hp) (ρ:Tk) (st:Q2) (Q:Bool->Hp->Prop),Rel H ρ st->EnvR H ρ Γ σ->Acc X.mg E H ρ (QB Q) (m Γ st)->WW X e σ H Q
structure SimA (X:Cx) (E:XK) (es:List aH) (m:Gam->Q2->Res (List PV)):Prop where
 run:∀ (Γ:Gam) (σ:St) (H:Hp) (ρ:Tk) (st:Q2) (Q:List V->Hp->Prop),Rel H ρ st->EnvR H ρ Γ σ->Acc X.mg E H ρ (QL Q) (m Γ st)->WA X es σ H Q
abbrev OP:=Q2->PV->PV->Res PV
structure OpS (X:Cx) (E:XK) (f:aA->aA->Sem aA) (o:OP):Prop where
 run:∀ (H:Hp) (ρ:Tk) (st:Q2) (p q:PV) (x y:V) (Q:VK),Rel H ρ st->Rep H ρ p x->Rep H ρ q y->Acc X.mg E H ρ (QV Q) (o st p q)->WO X f x y H Q
abbrev CF:=Q2->List PV->Res PV
structure CallS (X:Cx) (E:XK) (f:aA) (o:CF):Prop where
 run:∀ (H:Hp) (ρ:Tk) (st:Q2) (ps:List PV) (xs:List V) (Q:VK),Rel H ρ st->RepL H ρ ps xs->Acc X.mg E H ρ (QV Q) (o st ps)->WC X f xs H Q
section
variable {X:Cx} {E:XK} {Γ:Gam} {σ:St} {H:Hp} {ρ:Tk} {st:Q2}
theorem SimE.use {e:aH} {m:ME} (s:SimE X E e m) {P:PV->Q2->Hp->Tk->Prop} {Q:VK} (R:Rel H ρ st) (G:EnvR H ρ Γ σ) (h:Acc X.mg E H ρ P (m Γ st))
  (k:∀ p j H1 ρ1 v,Ext H ρ H1 ρ1->Rel H1 ρ1 j->EnvR H1 ρ1 Γ σ->Rep H1 ρ1 p v->P p j H1 ρ1->Q v H1):WE X e σ H Q:=by
 refine s.run Γ σ H ρ st Q R G ?_;cases r:m Γ st with
 | ok p j=>rw [r] at h; exact fun H' ρ' q z v J=>k p j H' ρ' v q z (G.ext q) J (h H' ρ' q z)
 | exc e st=>rw [r] at h; exact h
 | stuck=>rw [r] at h; exact h
theorem SimE.use' {e:aH} {m:ME} (s:SimE X E e m) {P:PV->Q2->Hp->Tk->Prop} {Q:VK} (R:Rel H ρ st) (G:EnvR H ρ Γ σ) (h:Acc X.mg E H ρ P (m Γ st))
  (k:∀ p j H1 ρ1 v,m Γ st=.ok p j->Ext H ρ H1 ρ1->Rel H1 ρ1 j->EnvR H1 ρ1 Γ σ->Rep H1 ρ1 p v->P p j H1 ρ1->Q v H1):WE X e σ H Q:=by
 refine s.run Γ σ H ρ st Q R G ?_;cases r:m Γ st with
 | ok p j=>rw [r] at h; exact fun H' ρ' q z v J=>k p j H' ρ' v r q z (G.ext q) J (h H' ρ' q z)
 | exc e st=>rw [r] at h; exact h
 | stuck=>rw [r] at h; exact h
theorem SimA.use' {es:List aH} {m:Gam->Q2->Res (List PV)} (s:SimA X E es m) {P:List PV->Q2->Hp->Tk->Prop} {Q:List V->Hp->Prop} (R:Rel H ρ st) (G:EnvR H ρ Γ σ) (h:Acc X.mg E H ρ P (m Γ st))
  (k:∀ ps j H1 ρ1 vs,m Γ st=.ok ps j->Ext H ρ H1 ρ1->Rel H1 ρ1 j->EnvR H1 ρ1 Γ σ->RepL H1 ρ1 ps vs->P ps j H1 ρ1->Q vs H1):WA X es σ H Q:=by
 refine s.run Γ σ H ρ st Q R G ?_;cases r:m Γ st with
 | ok p j=>rw [r] at h; exact fun H' ρ' q z v J=>k p j H' ρ' v r q z (G.ext q) J (h H' ρ' q z)
 | exc e st=>rw [r] at h; exact h
 | stuck=>rw [r] at h; exact h
theorem SimT.use {e:aH} {m:Gam->Q2->Res Bool} (s:SimT X E e m) {P:Bool->Q2->Hp->Tk->Prop} {Q:Bool->Hp->Prop} (R:Rel H ρ st) (G:EnvR H ρ Γ σ) (h:Acc X.mg E H ρ P (m Γ st))
  (k:∀ p j H1 ρ1,Ext H ρ H1 ρ1->Rel H1 ρ1 j->EnvR H1 ρ1 Γ σ->P p j H1 ρ1->Q p H1):WT X e σ H Q:=by
 refine s.run Γ σ H ρ st Q R G ?_;cases r:m Γ st with
 | ok p j=>rw [r] at h; exact fun H' ρ' q z=>k p j H' ρ' q z (G.ext q) (h H' ρ' q z)
 | exc e st=>rw [r] at h; exact h
 | stuck=>rw [r] at h; exact h
theorem SimT.use' {e:aH} {m:Gam->Q2->Res Bool} (s:SimT X E e m) {P:Bool->Q2->Hp->Tk->Prop} {Q:Bool->Hp->Prop} (R:Rel H ρ st) (G:EnvR H ρ Γ σ) (h:Acc X.mg E H ρ P (m Γ st))
  (k:∀ p j H1 ρ1,m Γ st=.ok p j->Ext H ρ H1 ρ1->Rel H1 ρ1 j->EnvR H1 ρ1 Γ σ->P p j H1 ρ1->Q p H1):WT X e σ H Q:=by
 refine s.run Γ σ H ρ st Q R G ?_;cases r:m Γ st with
 | ok p j=>rw [r] at h; exact fun H' ρ' q z=>k p j H' ρ' r q z (G.ext q) (h H' ρ' q z)
 | exc e st=>rw [r] at h; exact h
 | stuck=>rw [r] at h; exact h
theorem SimW.use {e:aH} {m:Gam->Q2->Res Bool} (s:SimW X E e m) {P:Bool->Q2->Hp->Tk->Prop} {Q:Bool->Hp->Prop} (R:Rel H ρ st) (G:EnvR H ρ Γ σ) (h:Acc X.mg E H ρ P (m Γ st))
  (k:∀ p j H1 ρ1,Ext H ρ H1 ρ1->Rel H1 ρ1 j->EnvR H1 ρ1 Γ σ->P p j H1 ρ1->Q p H1):WW X e σ H Q:=by
 refine s.run Γ σ H ρ st Q R G ?_;cases r:m Γ st with
 | ok p j=>rw [r] at h; exact fun H' ρ' q z=>k p j H' ρ' q z (G.ext q) (h H' ρ' q z)
 | exc e st=>rw [r] at h; exact h
 | stuck=>rw [r] at h; exact h
theorem SimA.use {es:List aH} {m:Gam->Q2->Res (List PV)} (s:SimA X E es m) {P:List PV->Q2->Hp->Tk->Prop} {Q:List V->Hp->Prop} (R:Rel H ρ st) (G:EnvR H ρ Γ σ) (h:Acc X.mg E H ρ P (m Γ st))
  (k:∀ ps j H1 ρ1 vs,Ext H ρ H1 ρ1->Rel H1 ρ1 j->EnvR H1 ρ1 Γ σ->RepL H1 ρ1 ps vs->P ps j H1 ρ1->Q vs H1):WA X es σ H Q:=by
 refine s.run Γ σ H ρ st Q R G ?_;cases r:m Γ st with
 | ok p j=>rw [r] at h; exact fun H' ρ' q z v J=>k p j H' ρ' v q z (G.ext q) J (h H' ρ' q z)
 | exc e st=>rw [r] at h; exact h
 | stuck=>rw [r] at h; exact h
theorem OpS.use {f:aA->aA->Sem aA} {o:OP} (s:OpS X E f o) {P:PV->Q2->Hp->Tk->Prop} {Q:VK} {p q:PV} {x y:V} (R:Rel H ρ st) (J:Rep H ρ p x) (U:Rep H ρ q y) (h:Acc X.mg E H ρ P (o st p q))
  (k:∀ p j H1 ρ1 v,Ext H ρ H1 ρ1->Rel H1 ρ1 j->Rep H1 ρ1 p v->P p j H1 ρ1->Q v H1):WO X f x y H Q:=by
 refine s.run H ρ st p q x y Q R J U ?_;cases r:o st p q with
 | ok p j=>rw [r] at h; exact fun H' ρ' z G v O=>k p j H' ρ' v z G O (h H' ρ' z G)
 | exc e st=>rw [r] at h; exact h
 | stuck=>rw [r] at h; exact h
end
end Sm
namespace Sm
open PySem PySem.Spec L2 SeqAt
mutual
def peq:PV->PV->Bool
 | .non,.non=>yo
 | .bl a,.bl b=>a == b
 | .bl a,.int b=>(if a then 1 else 0) == b
 | .int a,.bl b=>a == (if b then 1 else 0)
 | .int a,.int b=>a == b
 | .str a,.str b=>a == b
 | .tup xs,.tup ys=>peqL xs ys
 | .lst xs,.lst ys=>peqL xs ys
 | .lst xs,.fro ys=>peqL xs ys
 | .fro xs,.lst ys=>peqL xs ys
 | .fro xs,.fro ys=>peqL xs ys
 | _,_=>yl
def peqL:List PV->List PV->Bool
 | [],[]=>yo
 | x :: xs,y :: ys=>peq x y && peqL xs ys
 | _,_=>yl
end
def good:Nat->PV->Bool
 | _,.ref _=>yl
 | _,.dic=>yl
 | 0,.tup _=>yl
 | 0,.lst _=>yl
 | 0,.fro _=>yl
 | n + 1,.tup xs=>xs.all (good n)
 | n + 1,.lst xs=>xs.all (good n)
 | n + 1,.fro xs=>xs.all (good n)
 | _,_=>yo
theorem Q3n:∀ {xs ys:List PV},xs.length≠ys.length->peqL xs ys=yl
 | [],[],h=>absurd rfl h
 | [],_ :: _,_=>by simp [peqL]
 | _ :: _,[],_=>by simp [peqL]
 | x :: xs,y :: ys,h=>by
  rw [peqL,Q3n (xs:=xs) (ys:=ys) fun e=>h (by simp [e]),cT]
theorem Q3p:∀ {xs ys:List PV},xs.length=ys.length->peqL xs ys=(bY xs.length).all fun j=>peq (xs.getD j .non) (ys.getD j .non)
 | [],[],_=>by simp [peqL]
 | [],_ :: _,h=>by simp at h
 | _ :: _,[],h=>by simp at h
 | x :: xs,y :: ys,h=>by
  rw [peqL,Q3p (xs:=xs) (ys:=ys) (by simpa using h),D7,fP,cN,cD];rfl
section
variable {X:Cx} {pins:List (aB × Obj)} {σ:St} {H:Hp} {s:aC} {ρ:Tk}
mutual
theorem Q9r:∀ {p q:PV} {x:V} {n:Nat},good n p=yo->good n q=yo->Rep H ρ p x->Rep H ρ q x->peq p q=yo
 | .non,q,x,n,_,G,h1,h2=>by
  cases h1;cases q <;> first | rfl | (cases n <;> cases G; done) | (cases h2; done) | (obtain ⟨_,_,e,_⟩:=h2; cases e) | (obtain ⟨_,_,e⟩:=h2; cases e)
 | .bl b,q,x,n,_,G,h1,h2=>by
  cases h1;cases q <;> first | (cases n <;> cases G; done) | (cases h2; simp [peq]; done) | (obtain ⟨_,_,e,_⟩:=h2; done) | (obtain ⟨_,_,e,_⟩:=h2; cases e; done) | (obtain ⟨_,_,e⟩:=h2; cases e)
 | .int b,q,x,n,_,G,h1,h2=>by
  cases h1;cases q <;> first | (cases n <;> cases G; done) | (cases h2; simp [peq]; done) | (obtain ⟨_,_,e,_⟩:=h2; done) | (obtain ⟨_,_,e,_⟩:=h2; cases e; done) | (obtain ⟨_,_,e⟩:=h2; cases e)
 | .str b,q,x,n,_,G,h1,h2=>by
  cases h1;cases q <;> first | (cases n <;> cases G; done) | (cases h2; simp [peq]; done) | (obtain ⟨_,_,e,_⟩:=h2; done) | (obtain ⟨_,_,e,_⟩:=h2; cases e; done) | (obtain ⟨_,_,e⟩:=h2; cases e)
 | .tup ps,q,x,0,J,_,_,_=>by cases J
 | .tup ps,q,x,n + 1,J,G,⟨a,vs,e,z,_,r⟩,h2=>by
  subst e;cases q with
  | tup Y=>
   obtain ⟨b,U,e,j,_,O⟩:=h2;cases e;rw [z] at j; cases j;rw [peq];exact repL_same J G r O
  | lst Y=>obtain ⟨b,U,e,j,_⟩:=h2; cases e; rw [z] at j; cases j
  | fro Y=>obtain ⟨b,U,e,j,_⟩:=h2; cases e; rcases j with j | ⟨o,j⟩ <;> (rw [z] at j; cases j)
  | ref i=>cases G
  | dic=>cases G
  | _=>cases h2
 | .lst ps,q,x,0,J,_,_,_=>by cases J
 | .lst ps,q,x,n + 1,J,G,⟨a,vs,e,z,_,r⟩,h2=>by
  subst e;cases q with
  | lst Y=>
   obtain ⟨b,U,e,j,_,O⟩:=h2;cases e;rw [z] at j; cases j;rw [peq];exact repL_same J G r O
  | tup Y=>obtain ⟨b,U,e,j,_⟩:=h2; cases e; rw [z] at j; cases j
  | fro Y=>
   obtain ⟨b,U,e,j,_,O⟩:=h2;cases e;rcases j with j | ⟨o,j⟩
   ·rw [z] at j; cases j;rw [peq];exact repL_same J G r O
   ·rw [z] at j; cases j
  | ref i=>cases G
  | dic=>cases G
  | _=>cases h2
 | .fro ps,q,x,0,J,_,_,_=>by cases J
 | .fro ps,q,x,n + 1,J,G,⟨a,vs,e,z,_,r⟩,h2=>by
  subst e;cases q with
  | lst Y=>
   obtain ⟨b,U,e,j,_,O⟩:=h2;cases e;rcases z with z | ⟨o,z⟩
   ·rw [z] at j; cases j;rw [peq];exact repL_same J G r O
   ·rw [z] at j; cases j
  | tup Y=>obtain ⟨b,U,e,j,_⟩:=h2; cases e; rcases z with z | ⟨o,z⟩ <;> (rw [z] at j; cases j)
  | fro Y=>
   obtain ⟨b,U,e,j,_,O⟩:=h2;cases e;have:vs=U:=by
    rcases z with z | ⟨o,z⟩ <;> rcases j with j | ⟨o',j⟩ <;> (rw [z] at j; cases j) <;> rfl
   subst this;rw [peq];exact repL_same J G r O
  | ref i=>cases G
  | dic=>cases G
  | _=>cases h2
 | .ref i,_,_,n,J,_,_,_=>by cases n <;> cases J
 | .dic,_,_,n,J,_,_,_=>by cases n <;> cases J
theorem repL_same:∀ {ps j:List PV} {vs:List V} {n:Nat},ps.all (good n)=yo->j.all (good n)=yo->RepL H ρ ps vs->RepL H ρ j vs->peqL ps j=yo
 | [],j,vs,n,_,_,h1,h2=>by
  cases h1;cases j with
  | nil=>rfl
  | cons q j=>obtain ⟨_,_,e,_⟩:=h2; cases e
 | p :: ps,j,vs,n,z,g2,⟨v,r,e,h1,J⟩,h2=>by
  subst e;cases j with
  | nil=>cases h2
  | cons q j=>
   obtain ⟨_,_,e,h2,G⟩:=h2;cases e;rw [cN,E6] at z g2;rw [peqL,Q9r z.1 g2.1 h1 h2,repL_same z.2 g2.2 J G]; rfl
end
inductive Kd (H:Hp) (ρ:Tk) (s:aC):PV->aA->Prop where
 | non:Kd H ρ s .non .none
 | bl (b):Kd H ρ s (.bl b) (.bool b)
 | int (i t):Kd H ρ s (.int i) (.int i t)
 | str (x t):Kd H ρ s (.str x) (.str x t)
 | tup (ps a) (vs:List V) (its:List aA):H a=zo (.tup vs)->RepL H ρ ps vs->Vals vs its->s.heap.IsTuple a its.toArray->Kd H ρ s (.tup ps) (.ref a)
 | lst (p ps a) (vs:List V) (its:List aA):(p=.lst ps\/p=.fro ps)->RepL H ρ ps vs->Vals vs its->s.heap.IsList a its.toArray->Kd H ρ s p (.ref a)
theorem Qe3 {p:PV} {x:V} {u:aA} {n:Nat} (I:Inv X pins σ H s) (g:good n p=yo) (r:Rep H ρ p x) (ru:RelV x u):Kd H ρ s p u:=by
 cases p with
 | non=>cases r; cases ru; exact .non
 | bl b=>cases r; cases ru; exact .bl b
 | int i=>cases r; obtain ⟨t,rfl⟩:=ru; exact .int i t
 | str i=>cases r; obtain ⟨t,rfl⟩:=ru; exact .str i t
 | tup ps=>
  obtain ⟨a,vs,rfl,j,_,z⟩:=r;cases ru;obtain ⟨its,q,G,_⟩:=I.tuple (SqT.of (K:=X.K) j);exact .tup ps a vs its j z q G
 | lst ps=>
  obtain ⟨a,vs,rfl,j,_,z⟩:=r;cases ru;obtain ⟨its,q,G,_⟩:=I.list (SqL.of (K:=X.K) j);exact .lst _ ps a vs its (.inl rfl) z q G.isList
 | fro ps=>
  obtain ⟨a,vs,rfl,j,_,z⟩:=r;cases ru;obtain ⟨its,q,G,_⟩:=I.list (show SqL X.K H a vs from .inl j);exact .lst _ ps a vs its (.inr rfl) z q G.isList
 | ref i=>cases n <;> cases g
 | dic=>cases n <;> cases g
theorem z6 {ps:List PV} {vs:List V} {its:List aA} (r:RepL H ρ ps vs) (v:Vals vs its) {j:Nat} (h:j < its.length):∃ x,Rep H ρ (ps.getD j .non) x/\RelV x its[j]:=by
 have G:=r.length;have J:=v.length;have q:j < ps.length:=by omega
 obtain ⟨x,e1,e2⟩:=r.get (O0 q);obtain ⟨u,e3,z⟩:=v.get e1;rw [O0 h] at e3; cases e3;refine ⟨x,?_,z⟩;rw [eH,O0 q];exact e2
theorem z5 {ps:List PV} {n:Nat} (g:ps.all (good n)=yo) (j:Nat) (q:j < ps.length):good n (ps.getD j .non)=yo:=by
 rw [eH,O0 q];exact (E7.mp g) _ (cV q)
theorem Qc0 {ps q:List PV}:((bY (min ps.length q.length)).all (fun j=>peq (ps.getD j .non) (q.getD j .non)) && ps.length == q.length)=peqL ps q:=by
 by_cases e:ps.length=q.length
 ·rw [Q3p e,<- e,Nat.min_self,beq_self_eq_true,Bool.and_true]
 ·rw [Q3n e,beq_eq_false_iff_ne.mpr e,cT]
theorem Qec:∀ (n:Nat) {A:aM} {p q:PV} {x y:V} {u v:aA},Inv X pins σ H s->good n p=yo->good n q=yo->A.units + n < aU->Rep H ρ p x->RelV x u->Rep H ρ q y->RelV y v ->
  EqAt A s u v (peq p q)/\RcAt A s u v (peq p q)/\RcNeAt A s u v (!peq p q):=by
 intro n
 induction n with
 | zero=>
  intro A p q x y u v I Z O hu rp ru rq rv;have k1:=Qe3 I Z rp ru;have k2:=Qe3 I O rq rv;have hu:A.units < aU:=by omega
  cases k1 with
  | tup=>cases Z
  | lst p ps a vs its h=>rcases h with rfl | rfl <;> cases Z
  | non=>cases k2 with
   | tup=>cases O
   | lst p ps a vs its h=>rcases h with rfl | rfl <;> cases O
   | non=>exact ⟨EqAt.same _,RcAt.none_none,RcNeAt.none_none⟩
   | bl b=>exact ⟨EqAt.none_bool _,RcAt.none_bool _,RcNeAt.none_bool _⟩
   | int i t=>exact ⟨EqAt.none_int _ _,RcAt.none_int _ _,RcNeAt.none_int _ _⟩
   | str i t=>exact ⟨EqAt.none_str _ _,RcAt.none_str _ _,RcNeAt.none_str _ _⟩
  | bl a=>cases k2 with
   | tup=>cases O
   | lst p ps a vs its h=>rcases h with rfl | rfl <;> cases O
   | non=>exact ⟨EqAt.bool_none _,RcAt.bool_none _,RcNeAt.bool_none _⟩
   | bl b=>exact ⟨EqAt.bool_bool _ _,RcAt.bool_bool _ _,RcNeAt.bool_bool _ _⟩
   | int i t=>exact ⟨EqAt.bool_int _ _ _,RcAt.bool_int _ _ _,RcNeAt.bool_int _ _ _⟩
   | str i t=>exact ⟨EqAt.bool_str _ _ _,RcAt.bool_str _ _ _,RcNeAt.bool_str _ _ _⟩
  | int a a4=>cases k2 with
   | tup=>cases O
   | lst p ps a vs its h=>rcases h with rfl | rfl <;> cases O
   | non=>exact ⟨EqAt.int_none _ _,RcAt.int_none _ _,RcNeAt.int_none _ _⟩
   | bl b=>exact ⟨EqAt.int_bool _ _ _,RcAt.int_bool _ _ _,RcNeAt.int_bool _ _ _⟩
   | int i t=>exact ⟨EqAt.int_int _ _ _ _,RcAt.int_int _ _ _ _,RcNeAt.int_int _ _ _ _⟩
   | str i t=>exact ⟨EqAt.int_str _ _ _ _,RcAt.int_str _ _ _ _,RcNeAt.int_str _ _ _ _⟩
  | str a a4=>cases k2 with
   | tup=>cases O
   | lst p ps a vs its h=>rcases h with rfl | rfl <;> cases O
   | non=>exact ⟨EqAt.str_none _ _,RcAt.str_none _ _,RcNeAt.str_none _ _⟩
   | bl b=>exact ⟨EqAt.str_bool _ _ _,RcAt.str_bool _ _ _,RcNeAt.str_bool _ _ _⟩
   | int i t=>exact ⟨EqAt.str_int _ _ _ _,RcAt.str_int _ _ _ _,RcNeAt.str_int _ _ _ _⟩
   | str i t=>exact ⟨EqAt.str_str _ _ _ _,RcAt.str_str _ _ _ _,RcNeAt.str_str _ _ _ _⟩
 | succ n ih=>
  intro A p q x y u v I Z O hu rp ru rq rv;have k1:=Qe3 I Z rp ru;have k2:=Qe3 I O rq rv;have z:A.units < aU:=by omega
  have a5:A.in1.units + n < aU:=by show A.units + 1 + n < aU; omega
  cases k1 with
  | non=>cases k2 with
   | non=>exact ⟨EqAt.same _,RcAt.none_none,RcNeAt.none_none⟩
   | bl b=>exact ⟨EqAt.none_bool _,RcAt.none_bool _,RcNeAt.none_bool _⟩
   | int i t=>exact ⟨EqAt.none_int _ _,RcAt.none_int _ _,RcNeAt.none_int _ _⟩
   | str i t=>exact ⟨EqAt.none_str _ _,RcAt.none_str _ _,RcNeAt.none_str _ _⟩
   | tup ps a vs its ha r Y G=>exact ⟨EqAt.none_tuple G z,RcAt.none_tuple G z,RcNeAt.none_tuple G z⟩
   | lst p ps a vs its h r Y G=>rcases h with rfl | rfl <;> exact ⟨EqAt.none_list G z,RcAt.none_list G z,RcNeAt.none_list G z⟩
  | bl a=>cases k2 with
   | non=>exact ⟨EqAt.bool_none _,RcAt.bool_none _,RcNeAt.bool_none _⟩
   | bl b=>exact ⟨EqAt.bool_bool _ _,RcAt.bool_bool _ _,RcNeAt.bool_bool _ _⟩
   | int i t=>exact ⟨EqAt.bool_int _ _ _,RcAt.bool_int _ _ _,RcNeAt.bool_int _ _ _⟩
   | str i t=>exact ⟨EqAt.bool_str _ _ _,RcAt.bool_str _ _ _,RcNeAt.bool_str _ _ _⟩
   | tup ps a vs its ha r Y G=>exact ⟨EqAt.bool_tuple _ G z,RcAt.bool_tuple _ G z,RcNeAt.bool_tuple _ G z⟩
   | lst p ps a vs its h r Y G=>rcases h with rfl | rfl <;> exact ⟨EqAt.bool_list _ G z,RcAt.bool_list _ G z,RcNeAt.bool_list _ G z⟩
  | int a a4=>cases k2 with
   | non=>exact ⟨EqAt.int_none _ _,RcAt.int_none _ _,RcNeAt.int_none _ _⟩
   | bl b=>exact ⟨EqAt.int_bool _ _ _,RcAt.int_bool _ _ _,RcNeAt.int_bool _ _ _⟩
   | int i t=>exact ⟨EqAt.int_int _ _ _ _,RcAt.int_int _ _ _ _,RcNeAt.int_int _ _ _ _⟩
   | str i t=>exact ⟨EqAt.int_str _ _ _ _,RcAt.int_str _ _ _ _,RcNeAt.int_str _ _ _ _⟩
   | tup ps a vs its ha r Y G=>exact ⟨EqAt.int_tuple _ _ G z,RcAt.int_tuple _ _ G z,RcNeAt.int_tuple _ _ G z⟩
   | lst p ps a vs its h r Y G=>rcases h with rfl | rfl <;> exact ⟨EqAt.int_list _ _ G z,RcAt.int_list _ _ G z,RcNeAt.int_list _ _ G z⟩
  | str a a4=>cases k2 with
   | non=>exact ⟨EqAt.str_none _ _,RcAt.str_none _ _,RcNeAt.str_none _ _⟩
   | bl b=>exact ⟨EqAt.str_bool _ _ _,RcAt.str_bool _ _ _,RcNeAt.str_bool _ _ _⟩
   | int i t=>exact ⟨EqAt.str_int _ _ _ _,RcAt.str_int _ _ _ _,RcNeAt.str_int _ _ _ _⟩
   | str i t=>exact ⟨EqAt.str_str _ _ _ _,RcAt.str_str _ _ _ _,RcNeAt.str_str _ _ _ _⟩
   | tup ps a vs its ha r Y G=>exact ⟨EqAt.str_tuple _ _ G z,RcAt.str_tuple _ _ G z,RcNeAt.str_tuple _ _ G z⟩
   | lst p ps a vs its h r Y G=>rcases h with rfl | rfl <;> exact ⟨EqAt.str_list _ _ G z,RcAt.str_list _ _ G z,RcNeAt.str_list _ _ G z⟩
  | tup ps a vs its ha r Y G=>cases k2 with
   | non=>exact ⟨EqAt.tuple_none G z,RcAt.tuple_none G z,RcNeAt.tuple_none G z⟩
   | bl b=>exact ⟨EqAt.tuple_bool _ G z,RcAt.tuple_bool _ G z,RcNeAt.tuple_bool _ G z⟩
   | int i t=>exact ⟨EqAt.tuple_int _ _ G z,RcAt.tuple_int _ _ G z,RcNeAt.tuple_int _ _ G z⟩
   | str i t=>exact ⟨EqAt.tuple_str _ _ G z,RcAt.tuple_str _ _ G z,RcNeAt.tuple_str _ _ G z⟩
   | tup U b us J hb r2 v2 p2=>
    have l1:its.toArray.size=ps.length:=by rw [O6,<- Y.length,r.length]
    have l2:J.toArray.size=U.length:=by rw [O6,<- v2.length,r2.length]
    have he:∀ j (h1:j < its.toArray.size) (h2:j < J.toArray.size),EqAt A.in1 s its.toArray[j] J.toArray[j] (peq (ps.getD j .non) (U.getD j .non)):=fun j h1 h2=>by
     obtain ⟨x1,a1,b1⟩:=z6 r Y (j:=j) (by simpa using h1);obtain ⟨x2,a2,b2⟩:=z6 r2 v2 (j:=j) (by simpa using h2);exact (ih I (z5 Z j (by omega)) (z5 O j (by omega)) a5 a1 b1 a2 b2).1
    have rc:=RcAt.tuples G p2 z he;have rn:=RcNeAt.tuples G p2 z he;rw [l1,l2,Qc0] at rc rn;refine ⟨?_,rc,rn⟩
    by_cases e:a=b
    ·subst e;have:peqL ps U=yo:=by
      rw [ha] at hb; cases hb;exact repL_same Z O r r2
     show EqAt A s _ _ (peqL ps U);rw [this];exact EqAt.same _
    ·exact EqAt.of_refs e rc
   | lst q U b us J h r2 v2 p2=>rcases h with rfl | rfl <;> exact ⟨EqAt.tuple_list G p2 z,RcAt.tuple_list G p2 z,RcNeAt.tuple_list G p2 z⟩
  | lst p ps a vs its h r Y G=>cases k2 with
   | non=>rcases h with rfl | rfl <;> exact ⟨EqAt.list_none G z,RcAt.list_none G z,RcNeAt.list_none G z⟩
   | bl b=>rcases h with rfl | rfl <;> exact ⟨EqAt.list_bool _ G z,RcAt.list_bool _ G z,RcNeAt.list_bool _ G z⟩
   | int i t=>rcases h with rfl | rfl <;> exact ⟨EqAt.list_int _ _ G z,RcAt.list_int _ _ G z,RcNeAt.list_int _ _ G z⟩
   | str i t=>rcases h with rfl | rfl <;> exact ⟨EqAt.list_str _ _ G z,RcAt.list_str _ _ G z,RcNeAt.list_str _ _ G z⟩
   | tup U b us J hb r2 v2 p2=>rcases h with rfl | rfl <;> exact ⟨EqAt.list_tuple G p2 z,RcAt.list_tuple G p2 z,RcNeAt.list_tuple G p2 z⟩
   | lst q U b us J h2 r2 v2 p2=>
    have l1:its.toArray.size=ps.length:=by rw [O6,<- Y.length,r.length]
    have l2:J.toArray.size=U.length:=by rw [O6,<- v2.length,r2.length]
    have a6:ps.all (good n)=yo:=by rcases h with rfl | rfl <;> exact Z
    have a7:U.all (good n)=yo:=by rcases h2 with rfl | rfl <;> exact O
    have ep:peq p q=peqL ps U:=by rcases h with rfl | rfl <;> rcases h2 with rfl | rfl <;> rfl
    have he:∀ j (h1:j < its.toArray.size) (h2:j < J.toArray.size),EqAt A.in1 s its.toArray[j] J.toArray[j] (peq (ps.getD j .non) (U.getD j .non)):=fun j h1 h2=>by
     obtain ⟨x1,a1,b1⟩:=z6 r Y (j:=j) (by simpa using h1);obtain ⟨x2,a2,b2⟩:=z6 r2 v2 (j:=j) (by simpa using h2);exact (ih I (z5 a6 j (by omega)) (z5 a7 j (by omega)) a5 a1 b1 a2 b2).1
    rw [ep];have a3:RcAt A s (.ref a) (.ref b) (peqL ps U)/\RcNeAt A s (.ref a) (.ref b) (!peqL ps U):=by
     by_cases e:ps.length=U.length
     ·have rc:=RcAt.lists G p2 (by rw [l1,l2,e]) z he;have rn:=RcNeAt.lists G p2 (by rw [l1,l2,e]) z he;rw [l1,<- Q3p e] at rc rn;exact ⟨rc,rn⟩
     ·have e':(its.toArray.size != J.toArray.size)=yo:=by rw [l1,l2]; simpa using e
      rw [Q3n e];exact ⟨RcAt.lists_lengths G p2 e' z,RcNeAt.lists_lengths G p2 e' z⟩
    refine ⟨?_,a3.1,a3.2⟩
    by_cases e:a=b
    ·subst e;have a8:peq p q=yo:=by
      have a9:=rp;have b0:=rq;have xa:x=.ref a:=by
       rcases h with rfl | rfl <;> (obtain ⟨b',_,rfl,_⟩:=rp; cases ru; rfl)
      have ya:y=.ref a:=by
       rcases h2 with rfl | rfl <;> (obtain ⟨b',_,rfl,_⟩:=rq; cases rv; rfl)
      subst xa; subst ya;exact Q9r Z O rp rq
     rw [<- ep,a8];exact EqAt.same _
    ·exact EqAt.of_refs e a3.1
end
end Sm
namespace Sm
open PySem PySem.Spec L2
def lim:Nat:=1000000
theorem Q8f:lim<=sizeLine:=by decide
theorem V0 {n:Nat} (h:n<=lim):n<=sizeLine:=E3 h Q8f
def xz (st:Q2):PV->Option (List PV)
 | .lst xs=>zo xs
 | .ref i=>match st[i]? with
  | some (.lst xs)=>zo xs
  | _=>zb
 | _=>zb
def Wf (st:Q2):PV->Option (List PV)
 | .fro xs=>zo xs
 | p=>xz st p
def Wq (st:Q2):PV->Option (List PV)
 | .tup xs=>zo xs
 | p=>Wf st p
def der (st:Q2):PV->PV
 | .ref i=>match st[i]? with
  | some (.lst xs)=>.lst xs
  | _=>.ref i
 | p=>p
section
variable {H:Hp} {ρ:Tk} {st:Q2} {p:PV} {v:V} {xs:List PV}
theorem Q8d (R:Rel H ρ st) (r:Rep H ρ p v) (e:xz st p=zo xs):∃ a vs,v=.ref a/\H a=zo (.lst vs)/\RepL H ρ xs vs:=by
 cases p with
 | lst ys=>
  obtain ⟨a,vs,e1,e2,_,e3⟩:=r;cases e;exact ⟨a,vs,e1,e2,e3⟩
 | ref i=>
  obtain ⟨a,e1,e2⟩:=r;simp only [xz] at e
  split at e
  ·rename_i ys hs;cases e;obtain ⟨b,vs,j,z,q⟩:=R.lst hs;rw [e1] at j; cases j;exact ⟨a,vs,e2,z,q⟩
  ·cases e
 | _=>cases e
theorem Um (R:Rel H ρ st) (r:Rep H ρ p v) (e:Wf st p=zo xs):∃ a vs,v=.ref a/\Rd H a (.lst vs)/\RepL H ρ xs vs:=by
 cases p with
 | fro ys=>
  obtain ⟨a,vs,e1,e2,_,e3⟩:=r;cases e;exact ⟨a,vs,e1,e2,e3⟩
 | _=>
  obtain ⟨a,vs,e1,e2,e3⟩:=Q8d R r e;exact ⟨a,vs,e1,.inl e2,e3⟩
theorem zy {K:bW} (R:Rel H ρ st) (r:Rep H ρ p v) (e:Wq st p=zo xs):∃ (t:Bool) (a:aB) (vs:List V),v=.ref a/\SqK K t H a vs/\RepL H ρ xs vs:=by
 cases p with
 | tup ys=>
  obtain ⟨a,vs,e1,e2,_,e3⟩:=r;cases e;exact ⟨yo,a,vs,e1,show SqT K H a vs from SqT.of e2,e3⟩
 | _=>
  obtain ⟨a,vs,e1,e2,e3⟩:=Um R r e;exact ⟨yl,a,vs,e1,show SqL K H a vs from .inl e2,e3⟩
theorem Qbj {K:bW} {t:Bool} {a:aB} {vs:List V} (h:SqK K t H a vs):SqL K H a vs\/SqT K H a vs:=by
 cases t with
 | true=>exact .inr h
 | false=>exact .inl h
mutual
theorem Qdh:∀ {n:Nat} {q:PV} {u:V},good n q=yo->Rep H ρ q u->Rep H Tk.nil q u
 | _,.non,_,_,r=>r
 | _,.bl _,_,_,r=>r
 | _,.int _,_,_,r=>r
 | _,.str _,_,_,r=>r
 | 0,.tup _,_,g,_=>by cases g
 | 0,.lst _,_,g,_=>by cases g
 | 0,.fro _,_,g,_=>by cases g
 | n + 1,.tup _,_,g,⟨a,vs,e,h,_,r⟩=>⟨a,vs,e,h,Tk.not_nil _,repL_nil g r⟩
 | n + 1,.lst _,_,g,⟨a,vs,e,h,_,r⟩=>⟨a,vs,e,h,Tk.not_nil _,repL_nil g r⟩
 | n + 1,.fro _,_,g,⟨a,vs,e,h,_,r⟩=>⟨a,vs,e,h,Tk.not_nil _,repL_nil g r⟩
 | 0,.ref _,_,g,_=>by cases g
 | _ + 1,.ref _,_,g,_=>by cases g
 | 0,.dic,_,g,_=>by cases g
 | _ + 1,.dic,_,g,_=>by cases g
theorem repL_nil:∀ {n:Nat} {j:List PV} {z:List V},j.all (good n)=yo->RepL H ρ j z->RepL H Tk.nil j z
 | _,[],_,_,r=>r
 | n,q :: j,_,g,⟨v,r,e,h1,h2⟩=>by
  rw [cN,E6] at g;exact ⟨v,r,e,Qdh g.1 h1,repL_nil g.2 h2⟩
end
theorem z8 (R:Rel H ρ st) {n:Nat} (g:good n (der st p)=yo) (r:Rep H ρ p v):Rep H Tk.nil (der st p) v:=by
 cases p with
 | ref i=>
  obtain ⟨a,e1,e2⟩:=r;simp only [der] at g ⊢
  split at g
  ·rename_i ys hs;obtain ⟨b,vs,j,z,q⟩:=R.lst hs;rw [e1] at j; cases j;cases n with
   | zero=>cases g
   | succ n=>exact ⟨a,vs,e2,z,Tk.not_nil _,repL_nil g q⟩
  ·cases n <;> cases g
 | _=>exact Qdh g r
theorem xw {mg:Str->Option aA} {E:XK} {Q:VK} {ps:List PV} {vs:List V} (R:Rel H ρ st) (h:Acc mg E H ρ (QV Q) (.ok (.tup ps) st)) (r:RepL H ρ ps vs):∀ p,H p=zb->Q (.ref p) (upd H p (.tup vs)):=
 fun p hp=>h _ ρ (Ext.add hp) (R.add hp) _ ⟨p,vs,rfl,Qp,R.fresh hp,r.ext (Ext.add hp)⟩
theorem Ks {mg:Str->Option aA} {E:XK} {Q:VK} {ps:List PV} {vs:List V} (R:Rel H ρ st) (h:Acc mg E H ρ (QV Q) (.ok (.lst ps) st)) (r:RepL H ρ ps vs):∀ p,H p=zb->Q (.ref p) (upd H p (.lst vs)):=
 fun p hp=>h _ ρ (Ext.add hp) (R.add hp) _ ⟨p,vs,rfl,Qp,R.fresh hp,r.ext (Ext.add hp)⟩
theorem now {mg:Str->Option aA} {E:XK} {Q:VK} {p:PV} (R:Rel H ρ st) (h:Acc mg E H ρ (QV Q) (.ok p st)) (r:Rep H ρ p v):Q v H:=h H ρ (Ext.refl _ _) R v r
end
section
variable {X:Cx} {E:XK} {pos:Pos}
def Q4 (i:Nat):ME:=fun Γ st=>match Γ[i]? with
 | some (zo p)=>.ok p st
 | _=>.stuck
def mC (p:PV):ME:=fun _ st=>.ok p st
theorem Q1 (i:Nat) {x:Str} (q:X.N[i]?=zo x:=by rfl) (z:Vis X.env.scope x:=by first | exact Or.inl rfl | exact Or.inr (Or.inl rfl) | exact Or.inr (Or.inr rfl)) (hd:(x == ("__debug__" : Str))=yl:=by decide)
  (j:(x == ("__classdict__" : Str))=yl:=by decide):SimE X E (.Name x pos) (Q4 i):=⟨fun Γ σ H ρ st Q R G h=>WE.of (Qi6 q z hd j) (by
 unfold Q4 at h
 split at h
 ·rename_i p e;obtain ⟨v,e1,r⟩:=G.2 i p e;exact ⟨v,e1,now R h r⟩
 ·exact h.elim)⟩
theorem Q6 {i:Int} {j:Nat}:SimE X E (.Constant (.int i) j pos) (mC (.int i)):=⟨fun Γ σ H ρ st Q R G h=>WE.of Qi9 (now R h rfl)⟩
theorem Zp {b:Bool} {j:Nat}:SimE X E (.Constant (.bool b) j pos) (mC (.bl b)):=⟨fun Γ σ H ρ st Q R G h=>WE.of Qid (now R h rfl)⟩
theorem Q76 {j:Nat}:SimE X E (.Constant .none j pos) (mC .non):=⟨fun Γ σ H ρ st Q R G h=>WE.of Qc1 (now R h rfl)⟩
theorem Jf {x:Str} {j:Nat}:SimE X E (.Constant (.str x) j pos) (mC (.str x)):=⟨fun Γ σ H ρ st Q R G h=>WE.of Q7r (now R h rfl)⟩
theorem Ki {x:Str} {i:Int} {t:Tok} (j:Gl X x) (hm:X.mg x=zo (.int i t)) (hd:(x == ("__debug__" : Str))=yl:=by decide):SimE X E (.Name x pos) (mC (.int i)):=
 ⟨fun Γ σ H ρ st Q R G h=>WE.of (Zr j hm (v:=.int i) ⟨t,rfl⟩ hd) (now R h rfl)⟩
variable {a b c:aH} {ma mb mc:ME}
def mOp (o:OP) (ma mb:ME):ME:=fun Γ st=>(ma Γ st).bind fun x st1=>(mb Γ st1).bind fun y st2=>o st2 x y
theorem Q94 {f:aA->aA->Sem aA} {o:OP} {Γ:Gam} {σ:St} {H:Hp} {ρ:Tk} {st:Q2} {P:PV->Q2->Hp->Tk->Prop} {Q:VK} (ho:OpS X E f o) (U:SimE X E a ma) (Y:SimE X E b mb) (R:Rel H ρ st) (G:EnvR H ρ Γ σ) (h:Acc X.mg E H ρ P (mOp o ma mb Γ st))
  (k:∀ p j H1 ρ1 v,Ext H ρ H1 ρ1->Rel H1 ρ1 j->Rep H1 ρ1 p v->P p j H1 ρ1->Q v H1):tOp (WO X f) (WE X a) (WE X b) σ H Q:=by
 refine U.use R G h.bind fun p j H1 ρ1 v x1 R1 G1 r1 h1=>?_
 refine Y.use R1 G1 h1.bind fun q Z H2 a1 u x2 R2 G2 r2 h2=>?_
 exact ho.use R2 (r1.ext x2) r2 h2 fun w O H3 J z x3 R3 r3 p3=>k w O H3 J z (x1.trans (x2.trans x3)) R3 r3 p3
theorem Jd {op:Operator} {o:OP} (J:OpS X E (aZ op) o) (j:SimE X E a ma) (z:SimE X E b mb):SimE X E (.BinOp a op b pos) (mOp o ma mb):=
 ⟨fun Γ σ H ρ st Q R G h=>WE.of (Qq5 Qc4 Zb Zb) (Q94 J j z R G h fun _ _ _ _ v _ _ r q=>q v r)⟩
theorem zz {op:CmpOp} {o:OP} (J:OpS X E (aV op) o) (j:SimE X E a ma) (z:SimE X E b mb) (hm:bH op b=yl:=by first | exact Q84 _ | rfl):SimE X E (.Compare a [op] [b] pos) (mOp o ma mb):=
 ⟨fun Γ σ H ρ st Q R G h=>WE.of (Q7t Qc4 Zb Zb hm) (Q94 J j z R G h fun _ _ _ _ v _ _ r q=>q v r)⟩
def asB (p:PV) (st:Q2):Res Bool:=match p with
 | .bl k=>.ok k st
 | _=>.stuck
def toB (m:ME):Gam->Q2->Res Bool:=fun Γ st=>(m Γ st).bind asB
theorem Qkn {mg:Str->Option aA} {H:Hp} {ρ:Tk} {st:Q2} {p:PV} {v:V} {P:Bool->Q2->Hp->Tk->Prop} (R:Rel H ρ st) (r:Rep H ρ p v) (h:Acc mg E H ρ P (asB p st)):∃ k,v=.bl k/\P k st H ρ:=by
 cases p with
 | bl k=>exact ⟨k,r,h H ρ (Ext.refl _ _) R⟩
 | _=>exact h.elim
theorem J9 {op:CmpOp} {o:OP} (O:OpS X E (aV op) o) (j:SimE X E a ma) (J:SimE X E b mb) (hm:bH op b=yl:=by first | exact Q84 _ | rfl):SimT X E (.Compare a [op] [b] pos) (toB (mOp o ma mb)):=
 ⟨fun Γ σ H ρ st Q R G h=>WT.of (Q7m Qc4 Zb Zb hm) (Q94 O j J R G h.bind fun _ U _ _ v _ Y r q=>by
  obtain ⟨k,e,z⟩:=Qkn Y r q;exact ⟨k,e,z⟩)⟩
theorem Jj {e:aH} {m:ME} (h:SimE X E e m) (q:∀ j,isTrue e X.env j=(do let v <- j; standAt e.pos; au [v] (truthy v)):=by intro _; rfl):SimT X E e (toB m):=
 ⟨fun Γ σ H ρ st Q R G J=>WT.of (Qhv Zb q) (h.use R G J.bind fun p U H1 ρ1 v x1 Y Z O h1=>by
  obtain ⟨k,e,z⟩:=Qkn Y O h1;exact ⟨k,e,z⟩)⟩
def Ku (o o':OP) (ma mb mc:ME):ME:=fun Γ st=>(ma Γ st).bind fun x st1=>(mb Γ st1).bind fun y st2=>(o st2 x y).bind fun k st3=>match k with
 | .bl yo=>(mc Γ st3).bind fun z st4=>o' st4 y z
 | .bl yl=>.ok (.bl yl) st3
 | _=>.stuck
theorem Q6p {op J:CmpOp} {o o':OP} {Γ:Gam} {σ:St} {H:Hp} {ρ:Tk} {st:Q2} {P:PV->Q2->Hp->Tk->Prop} {Q:VK} (ho:OpS X E (aV op) o) (Y:OpS X E (aV J) o') (ha:SimE X E a ma) (hb:SimE X E b mb) (hc:SimE X E c mc) (R:Rel H ρ st) (G:EnvR H ρ Γ σ) (h:Acc X.mg E H ρ P (Ku o o' ma mb mc Γ st))
  (k:∀ p j H1 ρ1 v,Ext H ρ H1 ρ1->Rel H1 ρ1 j->Rep H1 ρ1 p v->P p j H1 ρ1->Q v H1):Qbe (WO X (aV op)) (WO X (aV J)) (WE X a) (WE X b) (WE X c) σ H Q:=by
 refine ha.use R G h.bind fun p j H1 ρ1 v x1 R1 G1 r1 h1=>?_
 refine hb.use R1 G1 h1.bind fun q a2 H2 a5 u x2 R2 G2 r2 h2=>?_
 refine ho.use R2 (r1.ext x2) r2 h2.bind fun w a6 H3 O z U R3 r3 h3=>?_
 cases w with
 | bl b=>
  refine ⟨b,r3,?_⟩;cases b with
  | true=>
   rw [bS rfl];refine hc.use R3 (G2.ext U) h3.bind fun y a3 H4 a4 yv x4 R4 G4 r4 h4=>?_
   exact Y.use R4 (r2.ext (U.trans x4)) r4 h4 fun w Z H5 a1 z x5 R5 r5 p5=>k w Z H5 a1 z (x1.trans (x2.trans (U.trans (x4.trans x5)))) R5 r5 p5
  | false=>
   rw [bT O7];exact k (.bl yl) _ H3 O _ (x1.trans (x2.trans U)) R3 rfl (h3 H3 O (Ext.refl _ _) R3)
 | _=>exact h3.elim
theorem Q2y {op j:CmpOp} {o o':OP} (U:OpS X E (aV op) o) (z:OpS X E (aV j) o') (J:SimE X E a ma) (O:SimE X E b mb) (Y:SimE X E c mc) (hm:lastMarks [op,j] [b,c]=yl:=by with_unfolding_all rfl):SimE X E (.Compare a [op,j] [b,c] pos) (Ku o o' ma mb mc):=
 ⟨fun Γ σ H ρ st Q R G h=>WE.of (Qic Qc4 Qc4 Zb Zb Zb hm) (Q6p U z J O Y R G h fun _ _ _ _ v _ _ r q=>q v r)⟩
theorem Qh2 {op j:CmpOp} {o o':OP} (Y:OpS X E (aV op) o) (J:OpS X E (aV j) o') (O:SimE X E a ma) (U:SimE X E b mb) (hc:SimE X E c mc) (hm:lastMarks [op,j] [b,c]=yl:=by with_unfolding_all rfl):SimT X E (.Compare a [op,j] [b,c] pos) (toB (Ku o o' ma mb mc)):=
 ⟨fun Γ σ H ρ st Q R G h=>WT.of (Qhx Qc4 Qc4 Zb Zb Zb hm) (Q6p Y J O U hc R G h.bind fun _ Z _ _ v _ R1 r q=>by
  obtain ⟨k,e,z⟩:=Qkn R1 r q;exact ⟨k,e,z⟩)⟩
variable {rest:List aH}
def Q0x (ma mb:ME):ME:=fun Γ st=>(ma Γ st).bind fun x st1=>match x with
 | .bl yo=>mb Γ st1
 | .bl yl=>.ok (.bl yl) st1
 | _=>.stuck
def mOr (ma mb:ME):ME:=fun Γ st=>(ma Γ st).bind fun x st1=>match x with
 | .bl yo=>.ok (.bl yo) st1
 | .bl yl=>mb Γ st1
 | _=>.stuck
def Qnr (ma:ME):ME:=fun Γ st=>(ma Γ st).bind fun x st1=>match x with
 | .bl k=>.ok (.bl (!k)) st1
 | _=>.stuck
theorem U4 {op:BoolOp} (j:SimE X E a ma):SimE X E (.BoolOp op [a] pos) ma:=⟨fun Γ σ H ρ st Q R G h=>WE.of (Qr6 Zb) (j.use R G h fun _ _ _ _ v _ _ _ r q=>q v r)⟩
theorem Xh (z:SimE X E a ma) (J:SimE X E (.BoolOp .And (b :: rest) pos) mb):SimE X E (.BoolOp .And (a :: b :: rest) pos) (Q0x ma mb):=
 ⟨fun Γ σ H ρ st Q R G h=>WE.of (Qr8 Zb Zb) (z.use R G h.bind fun p Y H1 ρ1 v x1 j O U h1=>by
  cases p with
  | bl k=>
   refine ⟨k,U,?_⟩;cases k with
   | true=>rw [bS rfl]; exact J.use j O h1 fun _ _ _ _ v _ _ _ r q=>q v r
   | false=>rw [bT O7]; exact now j h1 rfl
  | _=>exact h1.elim)⟩
theorem Qhb (z:SimE X E a ma) (J:SimE X E (.BoolOp .Or (b :: rest) pos) mb):SimE X E (.BoolOp .Or (a :: b :: rest) pos) (mOr ma mb):=
 ⟨fun Γ σ H ρ st Q R G h=>WE.of (Qu4 Zb Zb) (z.use R G h.bind fun p Y H1 ρ1 v x1 j O U h1=>by
  cases p with
  | bl k=>
   refine ⟨k,U,?_⟩;cases k with
   | true=>rw [bS rfl]; exact now j h1 rfl
   | false=>rw [bT O7]; exact J.use j O h1 fun _ _ _ _ v _ _ _ r q=>q v r
  | _=>exact h1.elim)⟩
theorem Qhc (j:SimE X E a ma):SimE X E (.UnaryOp .Not a pos) (Qnr ma):=
 ⟨fun Γ σ H ρ st Q R G h=>WE.of (Qr7 Zb) (j.use R G h.bind fun p z H1 ρ1 v x1 J O q h1=>by
  cases p with
  | bl k=>exact ⟨k,q,now J h1 rfl⟩
  | _=>exact h1.elim)⟩
def Q89 (ma:ME):ME:=fun Γ st=>(ma Γ st).bind fun x st1=>match x with
 | .int k=>.ok (.int (-k)) st1
 | _=>.stuck
theorem Q77 (j:SimE X E a ma):SimE X E (.UnaryOp .USub a pos) (Q89 ma):=
 ⟨fun Γ σ H ρ st Q R G h=>WE.of (Qu3 Qqg Zb) (j.use R G h.bind fun p z H1 ρ1 v x1 J O q h1=>by
  cases p with
  | int k=>exact ⟨k,q,now J h1 rfl⟩
  | _=>exact h1.elim)⟩
abbrev MT:=Gam->Q2->Res Bool
variable {ta tb:MT}
def yx (ta tb:MT):MT:=fun Γ st=>(ta Γ st).bind fun k st1=>if k=yo then tb Γ st1 else .ok yl st1
def Ug (ta tb:MT):MT:=fun Γ st=>(ta Γ st).bind fun k st1=>if k=yo then .ok yo st1 else tb Γ st1
def Zm (ta:MT):MT:=fun Γ st=>(ta Γ st).bind fun k st1=>.ok (!k) st1
theorem SimW.t {e:aH} (h:SimW X E e ta):SimT X E e ta:=⟨fun Γ σ H ρ st Q R G q pins s I=>h.run Γ σ H ρ st Q R G q _ pins s I⟩
theorem Qd8 (j:SimT X E a ta):SimW X E (.BoolOp .And [a] pos) ta:=⟨fun Γ σ H ρ st Q R G h=>WW.of (Qmm Qby) (j.use R G h fun _ _ _ _ _ _ _ q=>q)⟩
theorem Yq (j:SimT X E a ta):SimW X E (.BoolOp .Or [a] pos) ta:=⟨fun Γ σ H ρ st Q R G h=>WW.of (Qhs Qby) (j.use R G h fun _ _ _ _ _ _ _ q=>q)⟩
theorem Qbf (z:SimT X E a ta) (J:SimW X E (.BoolOp .And (b :: rest) pos) tb):SimW X E (.BoolOp .And (a :: b :: rest) pos) (yx ta tb):=
 ⟨fun Γ σ H ρ st Q R G h=>WW.of (Qqx Qby Qtz) (z.use R G h.bind fun k U H1 ρ1 x1 j O h1=>by
  cases k with
  | true=>rw [bS rfl] at h1 ⊢; exact J.use j O h1 fun _ _ _ _ _ _ _ q=>q
  | false=>rw [bT O7] at h1 ⊢; exact h1 H1 ρ1 (Ext.refl _ _) j)⟩
theorem Wh (z:SimT X E a ta) (J:SimW X E (.BoolOp .Or (b :: rest) pos) tb):SimW X E (.BoolOp .Or (a :: b :: rest) pos) (Ug ta tb):=
 ⟨fun Γ σ H ρ st Q R G h=>WW.of (Qq1 Qby Qtz) (z.use R G h.bind fun k U H1 ρ1 x1 j O h1=>by
  cases k with
  | true=>rw [bS rfl] at h1 ⊢; exact h1 H1 ρ1 (Ext.refl _ _) j
  | false=>rw [bT O7] at h1 ⊢; exact J.use j O h1 fun _ _ _ _ _ _ _ q=>q)⟩
theorem Z5 (j:SimT X E a ta):SimT X E (.UnaryOp .Not a pos) (Zm ta):=
 ⟨fun Γ σ H ρ st Q R G h=>WT.of (Qhw Qby) (j.use R G h.bind fun k q H1 ρ1 x1 z J h1=>h1 H1 ρ1 (Ext.refl _ _) z)⟩
variable {e:aH} {es:List aH} {m:ME} {mr:Gam->Q2->Res (List PV)}
def Q7:Gam->Q2->Res (List PV):=fun _ st=>.ok [] st
def Q3 (m:ME) (mr:Gam->Q2->Res (List PV)):Gam->Q2->Res (List PV):=fun Γ st=>(m Γ st).bind fun p st1=>(mr Γ st1).bind fun ps st2=>.ok (p :: ps) st2
theorem Q5:SimA X E [] Q7:=⟨fun Γ σ H ρ st Q R G h=>WA.of Js (h H ρ (Ext.refl _ _) R [] rfl)⟩
theorem Q0 (z:SimE X E e m) (U:SimA X E es mr) (hs:aN (e :: es) X.env=(yl,aP e X.env) :: aN es X.env:=by rfl):SimA X E (e :: es) (Q3 m mr):=
 ⟨fun Γ σ H ρ st Q R G h=>WA.of (Qt Zb Q3t hs) (z.use R G h.bind fun p Z H1 ρ1 v x1 R1 O Y h1=>U.use R1 O h1.bind fun ps J H2 j vs x2 R2 G2 q h2=>
  h2 H2 j (Ext.refl _ _) R2 (v :: vs) ⟨v,vs,rfl,Y.ext x2,q⟩)⟩
def Y3 (mr:Gam->Q2->Res (List PV)):ME:=fun Γ st=>(mr Γ st).bind fun ps st1=>if ps.length<=lim then .ok (.tup ps) st1 else .stuck
def jg (mr:Gam->Q2->Res (List PV)):ME:=fun Γ st=>(mr Γ st).bind fun ps st1=>if ps.length<=lim then .ok (.lst ps) st1 else .stuck
theorem Ji {k:Nat} (h:SimA X E es mr):SimE X E (.Tuple es k pos) (Y3 mr):=
 ⟨fun Γ σ H ρ st Q R G z=>WE.of (Qr5 Q3t) (h.use R G z.bind fun ps J H1 ρ1 vs x1 O U q h1=>by
  by_cases j:ps.length<=lim
  ·rw [bS j] at h1;exact ⟨by rw [<- q.length]; exact V0 j,xw O h1 q⟩
  ·rw [bT j] at h1; exact h1.elim)⟩
theorem Uu (h:SimA X E es mr):SimE X E (.List es pos) (jg mr):=
 ⟨fun Γ σ H ρ st Q R G z=>WE.of (Qc2 Q3t) (h.use R G z.bind fun ps J H1 ρ1 vs x1 O U q h1=>by
  by_cases j:ps.length<=lim
  ·rw [bS j] at h1;exact ⟨by rw [<- q.length]; exact V0 j,Ks O h1 q⟩
  ·rw [bT j] at h1; exact h1.elim)⟩
end
end Sm
namespace HT
open PySem PySem.Spec PyProof.Rows
section
variable {prog:aK} {w:aJ} {A:aM} {E:aA->aC->Prop} {s:aC}
theorem getItem_tuple_whole {t G:aB} {j:Array aA} {Y vu:aA} {lo hi:Option Int} {Q:aA->aC->Prop} (z:IsTup s.heap t j) (hs:s.heap.IsSliceOf G Y vu .none) (pl:IsPart Y lo) (pu:IsPart vu hi)
  (Z:sIx j.size 0 lo=0/\sIx j.size j.size hi=j.size)
  (h:Q (.ref t) s):aF (aI prog w) A (getItem (.ref t) (.ref G)) Q E s:=by
 obtain ⟨os,U,O,a1⟩:=id hs;have J:s.TypeIs (.ref G) "slice" := ⟨os,U,O⟩;unfold getItem
 try with_reducible refine ae ?_
 first | refine aD (wpAny_pure ?_) | skip
 refine aD (wpAny_sequenceKey z.typeIs (by decide) ?_);refine aD (wpAny_callSpecial?_slot (name:=cb "__getitem__") z.typeIs eE
  (ah eE z.typeIs entry_tuple_getitem ?_ (args_tuple_getitem _ _)))
 show aF _ _ (Builtin.Tuple.tupleItemsOf (.ref t) >>= _) _ _ s;refine aD (tupleItemsOf_ z ?_);refine aD (bC J ?_);rw [bS (by decide)];refine aD (K5 hs pl pu ?_);have q:(((sIx j.size 0 lo:Nat):Int) == 0 && (1:Int) == 1 && (sIx j.size j.size hi - sIx j.size 0 lo) == j.size)=yo:=by
  rw [Z.1,Z.2]; simp
 show aF _ _ (if (((sIx j.size 0 lo:Nat):Int) == 0 && (1:Int) == 1 && (sIx j.size j.size hi - sIx j.size 0 lo) == j.size)=yo then _ else _) _ _ s;rw [bS q];refine aD (aD (bC z.typeIs (wpAny_pure ?_)));rw [bS (by rfl)];exact aD (bL (wpAny_pure ⟨_,rfl,wpAny_pure h⟩))
end
end HT
namespace L2
open PySem PySem.Spec PyProof.Rows
def Qx9 (K:bW):V->Option Int->Option Int->Hp->VK->Prop:=fun x lo hi H Q=>∃ a xs,x=.ref a/\SqT K H a xs /\
 (HT.sIx xs.length 0 lo=0/\HT.sIx xs.length xs.length hi=xs.length)/\Q (.ref a) H
theorem sl_whole {X:Cx}:SlR X (Qx9 X.K):=by
 intro pins s σ H x v Y Z lo hi sl Q I O hs pl G h;obtain ⟨a,xs,rfl,U,J,q⟩:=h;cases O;obtain ⟨its,r,z,hz⟩:=I.tuple U;have j:its.toArray.size=xs.length:=by rw [O6]; exact r.length.symm
 refine ⟨"tuple",_,PyProof.Rows.slot_tuple_getitem.lookup,z.typeIs,?_⟩;exact HT.getItem_tuple_whole z hs pl G (by rw [j]; exact J) ⟨.ref a,H,I,rfl,q⟩
end L2
namespace Sm
open PySem PySem.Spec L2
section
variable {X:Cx} {E:XK} {pos:Pos}
def oI (g:Int->Int->PV):OP:=fun st p q=>match p,q with
 | .int a,.int b=>.ok (g a b) st
 | _,_=>.stuck
def Zt:OP:=fun st p q=>match p,q with
 | .int a,.int b=>.ok (.int (a + b)) st
 | .str a,.str b=>if a.length + b.length<=lim then .ok (.str (a ++ b)) st else .stuck
 | .tup xs,.tup ys=>if xs.length + ys.length<=lim then .ok (.tup (xs ++ ys)) st else .stuck
 | p,q=>match xz st p,xz st q with
  | some xs,zo ys=>if xs.length + ys.length<=lim then .ok (.lst (xs ++ ys)) st else .stuck
  | _,_=>.stuck
theorem Zg:OpS X E (aZ .Add) Zt:=⟨fun H ρ st p q x y Q R Z rq h=>by
 unfold Zt at h
 split at h
 ·cases Z; cases rq;exact WO.of Qrg ⟨_,_,rfl,rfl,now R h rfl⟩
 ·cases Z; cases rq
  split at h
  ·rename_i Y;exact WO.of Qc5 ⟨_,_,rfl,rfl,V0 Y,now R h rfl⟩
  ·exact h.elim
 ·split at h
  ·rename_i xs ys Y;obtain ⟨a,vs,rfl,J,na,j⟩:=Z;obtain ⟨b,O,rfl,U,nb,G⟩:=rq;refine WO.of Qnb ?_
   by_cases e:xs=[]
   ·subst e;cases j;exact .inr ⟨a,b,O,rfl,rfl,SqT.of J,SqT.of U,now R h ⟨b,O,rfl,U,nb,G⟩⟩
   ·refine .inl ⟨a,b,vs,O,rfl,rfl,SqT.of J,SqT.of U,fun z=>e ?_,by rw [<- j.length,<- G.length]; exact V0 Y,fun z=>?_,fun z=>xw R h (j.append G)⟩
    ·subst z;cases xs with
     | nil=>rfl
     | cons _ _=>have:=j.length; simp at this
    ·subst z;have:ys=[]:=by
      cases ys with
      | nil=>rfl
      | cons _ _=>have:=G.length; simp at this
     subst this;rw [cO] at h;exact now R h ⟨a,vs,rfl,J,na,j⟩
  ·exact h.elim
 ·split at h
  ·rename_i xs ys e1 e2
   split at h
   ·rename_i Y;obtain ⟨a,vs,rfl,J,j⟩:=Q8d R Z e1;obtain ⟨b,O,rfl,U,G⟩:=Q8d R rq e2;exact WO.of Q0p ⟨a,b,vs,O,rfl,rfl,J,U,by rw [<- j.length,<- G.length]; exact V0 Y,Ks R h (j.append G)⟩
   ·exact h.elim
  ·exact h.elim⟩
theorem Q7u:OpS X E (aZ .Sub) (oI fun a b=>.int (a - b)):=⟨fun H ρ st p q x y Q R z j h=>by
 unfold oI at h
 split at h
 ·cases z; cases j;exact WO.of Qr9 ⟨_,_,rfl,rfl,now R h rfl⟩
 ·exact h.elim⟩
def jb:OP:=fun st p q=>match p,q with
 | .int a,.int b=>if (-(2 ^ 64) < a/\a < 2 ^ 64)\/(-(2 ^ 64) < b/\b < 2 ^ 64) then .ok (.int (a * b)) st else .stuck
 | .tup xs,.int b=>if xs≠[]/\1<=b/\xs.length * b.toNat<=4096 then .ok (.tup (bh b.toNat xs).flatten) st else .stuck
 | p,.int b=>match xz st p with
  | some xs=>if -(2 ^ 63)<=b/\b < 2 ^ 63/\xs.length * b.toNat<=lim then .ok (.lst (bh b.toNat xs).flatten) st else .stuck
  | none=>.stuck
 | _,_=>.stuck
theorem Kq:OpS X E (aZ .Mult) jb:=⟨fun H ρ st p q x y Q R O U h=>by
 unfold jb at h
 split at h
 ·cases O; cases U
  split at h
  ·rename_i j;exact WO.of Qrc ⟨_,_,rfl,rfl,j,now R h rfl⟩
  ·exact h.elim
 ·cases U
  split at h
  ·rename_i xs b j;obtain ⟨a,vs,rfl,J,Y,G⟩:=O;refine WO.of Qn9 ⟨a,b,vs,rfl,rfl,SqT.of J,fun z=>j.1 ?_,j.2.1,by rw [<- G.length]; exact j.2.2,fun z=>?_,fun z=>xw R h (G.rep _)⟩
   ·subst z;cases xs with
    | nil=>rfl
    | cons _ _=>have:=G.length; simp at this
   ·subst z;have e1:(bh (Int.toNat 1) xs).flatten=xs:=by simp
    rw [e1] at h;exact now R h ⟨a,vs,rfl,J,Y,G⟩
  ·exact h.elim
 ·cases U
  split at h
  ·rename_i xs e1
   split at h
   ·rename_i j;obtain ⟨a,vs,rfl,J,G⟩:=Q8d R O e1;exact WO.of Qra ⟨a,_,vs,rfl,rfl,J,j.1,j.2.1,by rw [<- G.length]; exact V0 j.2.2,Ks R h (G.rep _)⟩
   ·exact h.elim
  ·exact h.elim
 ·exact h.elim⟩
def xu:OP:=fun st p q=>match p,q with
 | .int a,.int b=>if 0 < b then .ok (.int (a % b)) st else .stuck
 | _,_=>.stuck
theorem yc:OpS X E (aZ .Mod) xu:=⟨fun H ρ st p q x y Q R z j h=>by
 unfold xu at h
 split at h
 ·cases z; cases j
  split at h
  ·rename_i G;exact WO.of Qrd ⟨_,_,rfl,rfl,G,now R h rfl⟩
  ·exact h.elim
 ·exact h.elim⟩
def Qa4:OP:=fun st p q=>match p,q with
 | .int a,.int b=>if 0<=b/\b<=1000000/\a.natAbs < 2 ^ 64 then .ok (.int (a ^ b.toNat)) st else .stuck
 | _,_=>.stuck
theorem Qc3:OpS X E (aZ .Pow) Qa4:=⟨fun H ρ st p q x y Q R z j h=>by
 unfold Qa4 at h
 split at h
 ·cases z; cases j
  split at h
  ·rename_i G;exact WO.of Qrb ⟨_,_,rfl,rfl,G,now R h rfl⟩
  ·exact h.elim
 ·exact h.elim⟩
theorem Qc8 {op:CmpOp} {g:Int->Int->Bool} (G:OpR X (aV op) (rI0 fun i j=>.bl (g i j))):OpS X E (aV op) (oI fun a b=>.bl (g a b)):=⟨fun H ρ st p q x y Q R z J h=>by
 unfold oI at h
 split at h
 ·cases z; cases J;exact WO.of G ⟨_,_,rfl,rfl,now R h rfl⟩
 ·exact h.elim⟩
theorem Q63:OpS X E (aV .LtE) (oI fun a b=>.bl (decide (a<=b))):=Qc8 Qq7
theorem Qdq:OpS X E (aV .Gt) (oI fun a b=>.bl (decide (b < a))):=Qc8 Qu9
theorem Qq6:OpS X E (aV .GtE) (oI fun a b=>.bl (decide (b<=a))):=Qc8 Qua
def Q12:List PV->Option (List Int)
 | []=>zo []
 | .int i :: ps=>(Q12 ps).map (i :: ·)
 | _ :: _=>zb
def Q1q:List PV->Option (List Bool)
 | []=>zo []
 | .bl i :: ps=>(Q1q ps).map (i :: ·)
 | _ :: _=>zb
theorem Qph (ns:List Bool):Q1q (ns.map .bl)=zo ns:=by
 induction ns with
 | nil=>rfl
 | cons n ns j=>rw [O8,Q1q,j]; rfl
theorem Q8q:∀ {ps:List PV} {ns:List Int},Q12 ps=zo ns->ps=ns.map .int
 | [],ns,h=>by cases h; rfl
 | .int i :: ps,ns,h=>by
  rw [Q12] at h;cases e:Q12 ps with
  | none=>rw [e] at h; cases h
  | some ms=>rw [e] at h; cases h; rw [Q8q e]; rfl
 | .non :: _,_,h | .bl _ :: _,_,h | .str _ :: _,_,h | .tup _ :: _,_,h | .lst _ :: _,_,h | .fro _ :: _,_,h | .ref _ :: _,_,h | .dic :: _,_,h=>by cases h
theorem Qke:∀ {ps:List PV} {ns:List Bool},Q1q ps=zo ns->ps=ns.map .bl
 | [],ns,h=>by cases h; rfl
 | .bl i :: ps,ns,h=>by
  rw [Q1q] at h;cases e:Q1q ps with
  | none=>rw [e] at h; cases h
  | some ms=>rw [e] at h; cases h; rw [Qke e]; rfl
 | .non :: _,_,h | .int _ :: _,_,h | .str _ :: _,_,h | .tup _ :: _,_,h | .lst _ :: _,_,h | .fro _ :: _,_,h | .ref _ :: _,_,h | .dic :: _,_,h=>by cases h
def oLt:OP:=fun st p q=>match p,q with
 | .int a,.int b=>.ok (.bl (decide (a < b))) st
 | .tup xs,.tup ys=>match Q12 xs,Q12 ys with
  | some ns,zo ms=>.ok (.bl (HT.lexLt ns ms)) st
  | _,_=>.stuck
 | _,_=>.stuck
theorem Qig (hu:X.A.units + 64 < aU):OpS X E (aV .Lt) oLt:=⟨fun H ρ st p q x y Q R G U h=>by
 unfold oLt at h
 split at h
 ·cases G; cases U;exact WO.of Qu8 ⟨_,_,rfl,rfl,now R h rfl⟩
 ·split at h
  ·rename_i ns ms e1 e2;obtain ⟨a,vs,rfl,j,na,O⟩:=G;obtain ⟨b,Y,rfl,z,Z,J⟩:=U;rw [Q8q e1] at O;rw [Q8q e2] at J;rw [O.toInts] at j;rw [J.toInts] at z;exact WO.of (Qre (by omega)) ⟨a,b,ns,ms,rfl,rfl,SqT.of j,SqT.of z,now R h rfl⟩
  ·exact h.elim
 ·exact h.elim⟩
def dep:Nat:=12
def oEq:OP:=fun st p q=>if good dep (der st p)=yo/\good dep (der st q)=yo then .ok (.bl (peq (der st p) (der st q))) st else .stuck
def oNe:OP:=fun st p q=>if good dep (der st p)=yo/\good dep (der st q)=yo then .ok (.bl (!peq (der st p) (der st q))) st else .stuck
theorem X1 (J:X.A.units + 64 < aU):OpS X E (aV .Eq) oEq:=⟨fun H ρ st p q x y Q R j G h=>by
 unfold oEq at h
 split at h
 ·rename_i g;intro pins s σ v u I z ru;exact (Qec dep I g.1 g.2 (by unfold dep; omega) (z8 R g.1 j) z (z8 R g.2 G) ru).2.1 _ _ _ _ ⟨.bl _,H,I,rfl,now R h rfl⟩
 ·exact h.elim⟩
theorem qc (J:X.A.units + 64 < aU):OpS X E (aV .NotEq) oNe:=⟨fun H ρ st p q x y Q R j G h=>by
 unfold oNe at h
 split at h
 ·rename_i g;intro pins s σ v u I z ru;exact (Qec dep I g.1 g.2 (by unfold dep; omega) (z8 R g.1 j) z (z8 R g.2 G) ru).2.2 _ _ _ _ ⟨.bl _,H,I,rfl,now R h rfl⟩
 ·exact h.elim⟩
def Qaq:PV->Bool
 | .non=>yo
 | _=>yl
theorem Qg6 {H:Hp} {ρ:Tk} {p:PV} {x:V} (r:Rep H ρ p x):decide (x=.non)=Qaq p:=by
 cases p with
 | non=>cases r; rfl
 | bl _=>cases r; rfl
 | int _=>cases r; rfl
 | str _=>cases r; rfl
 | tup _=>obtain ⟨_,_,rfl,_⟩:=r; rfl
 | lst _=>obtain ⟨_,_,rfl,_⟩:=r; rfl
 | fro _=>obtain ⟨_,_,rfl,_⟩:=r; rfl
 | ref _=>obtain ⟨_,_,rfl⟩:=r; rfl
 | dic=>obtain ⟨_,rfl,_⟩:=r; rfl
def oIs:OP:=fun st p q=>match q with
 | .non=>.ok (.bl (Qaq p)) st
 | .bl c=>match p with
  | .bl b=>.ok (.bl (b == c)) st
  | _=>.stuck
 | _=>.stuck
def yf:OP:=fun st p q=>match q with
 | .non=>.ok (.bl (!Qaq p)) st
 | .bl c=>match p with
  | .bl b=>.ok (.bl (b != c)) st
  | _=>.stuck
 | _=>.stuck
theorem Q3v:OpS X E (aV .IsNot) yf:=⟨fun H ρ st p q x y Q R z j h=>by
 unfold yf at h
 split at h
 ·cases j;refine WO.of Qna ⟨rfl,?_⟩;rw [Qg6 z];exact now R h rfl
 ·split at h
  ·cases z; cases j;exact WO.of Qa0 ⟨_,_,rfl,rfl,now R h rfl⟩
  ·exact h.elim
 ·exact h.elim⟩
def oIn (neg:Bool):OP:=fun st p q=>match Wq st q with
 | some xs=>if good dep (der st p)=yo/\xs.all (good dep)=yo then .ok (.bl ((xs.any fun y=>peq y (der st p)) != neg)) st else .stuck
 | none=>.stuck
open Classical in
theorem Q04 {pins:List (aB × Obj)} {σ:St} {H:Hp} {ρ:Tk} {s:aC} {A:aM} {st:Q2} {p:PV} {xs:List PV} {x:V} {v:aA} {vs:List V} {its:List aA} (I:Inv X pins σ H s) (hu:A.units + dep < aU) (R:Rel H ρ st)
  (gp:good dep (der st p)=yo) (gx:xs.all (good dep)=yo) (rp:Rep H ρ p x) (rv:RelV x v) (Z:RepL H ρ xs vs) (vi:Vals vs its):∃ e:aA->Bool,(∀ u,u∈its.toArray->SeqAt.EqAt A s u v (e u))/\its.toArray.any e=xs.any fun y=>peq y (der st p):=by
 have a1:∀ u∈its,∃ q∈xs,∃ y,Rep H Tk.nil q y/\RelV y u:=fun u hu=>by
  obtain ⟨j,Y,rfl⟩:=F8 hu;have l1:=vi.length;have l2:=Z.length;obtain ⟨y,e1,e2⟩:=(repL_nil gx Z).get (O0 (show j < xs.length by omega));obtain ⟨w,e3,e4⟩:=vi.get e1;rw [O0 Y] at e3; cases e3;exact ⟨_,cV _,y,e2,e4⟩
 refine ⟨fun u=>decide (∃ q∈xs,∃ y,Rep H Tk.nil q y/\RelV y u/\peq q (der st p)=yo),fun u hm=>?_,?_⟩
 ·have a2:u∈its:=by simpa using hm
  by_cases z:∃ q∈xs,∃ y,Rep H Tk.nil q y/\RelV y u/\peq q (der st p)=yo
  ·show SeqAt.EqAt A s u v (decide _);rw [bV z];obtain ⟨q,G,y,J,O,e⟩:=z;have:=(Qec dep I ((E7.mp gx) q G) gp hu J O (z8 R gp rp) rv).1;rw [e] at this;exact this
  ·show SeqAt.EqAt A s u v (decide _);rw [bU z];obtain ⟨q,G,y,J,O⟩:=a1 u a2;have:=(Qec dep I ((E7.mp gx) q G) gp hu J O (z8 R gp rp) rv).1;cases e:peq q (der st p) with
   | true=>exact absurd ⟨q,G,y,J,O,e⟩ z
   | false=>rw [e] at this; exact this
 ·rw [dE,Array.any_eq_true,dO];constructor
  ·rintro ⟨j,Y,e⟩;obtain ⟨q,G,y,J,O,e⟩:=of_decide_eq_true e;exact ⟨q,G,e⟩
  ·rintro ⟨q,G,e⟩;obtain ⟨j,Y,rfl⟩:=F8 G;have l1:=vi.length;have l2:=Z.length;have U:j < its.length:=by omega
   obtain ⟨y,e1,e2⟩:=(repL_nil gx Z).get (O0 Y);obtain ⟨w,e3,e4⟩:=vi.get e1;refine ⟨j,by simpa using U,bV ⟨_,G,y,e2,?_,e⟩⟩;rw [O0 U] at e3; cases e3;simpa using e4
theorem Qii (Z:X.A.units + 64 < aU):OpS X E (aV .In) (oIn yl):=⟨fun H ρ st p q x y Q R G Y h=>by
 unfold oIn at h
 split at h
 ·rename_i xs es
  split at h
  ·rename_i g;obtain ⟨t,a,vs,rfl,U,O⟩:=zy (K:=X.K) R Y es;intro pins s σ v u I J ru;cases ru;rw [dk] at h;cases t with
   | true=>
    obtain ⟨its,r,pl,hz⟩:=I.tuple U;obtain ⟨e,j,z⟩:=Q04 (A:=X.A.in1) I (by show X.A.units + 1 + dep < aU; unfold dep; omega) R g.1 g.2 G J O r;refine SeqAt.in_tupleAt e pl j ⟨.bl _,H,I,rfl,?_⟩;rw [z];exact now R h rfl
   | false=>
    obtain ⟨its,r,pl,hz⟩:=I.list U;obtain ⟨e,j,z⟩:=Q04 (A:=X.A.in1) I (by show X.A.units + 1 + dep < aU; unfold dep; omega) R g.1 g.2 G J O r;refine SeqAt.in_listAt e pl.isList j ⟨.bl _,H,I,rfl,?_⟩;rw [z];exact now R h rfl
  ·exact h.elim
 ·exact h.elim⟩
theorem Q3u (Z:X.A.units + 64 < aU):OpS X E (aV .NotIn) (oIn yo):=⟨fun H ρ st p q x y Q R G Y h=>by
 unfold oIn at h
 split at h
 ·rename_i xs es
  split at h
  ·rename_i g;obtain ⟨t,a,vs,rfl,U,O⟩:=zy (K:=X.K) R Y es;intro pins s σ v u I J ru;cases ru;rw [Bool.bne_true] at h;cases t with
   | true=>
    obtain ⟨its,r,pl,hz⟩:=I.tuple U;obtain ⟨e,j,z⟩:=Q04 (A:=X.A.in1) I (by show X.A.units + 1 + dep < aU; unfold dep; omega) R g.1 g.2 G J O r;refine SeqAt.notIn_tupleAt e pl j ⟨.bl _,H,I,rfl,?_⟩;rw [z];exact now R h rfl
   | false=>
    obtain ⟨its,r,pl,hz⟩:=I.list U;obtain ⟨e,j,z⟩:=Q04 (A:=X.A.in1) I (by show X.A.units + 1 + dep < aU; unfold dep; omega) R g.1 g.2 G J O r;refine SeqAt.notIn_listAt e pl.isList j ⟨.bl _,H,I,rfl,?_⟩;rw [z];exact now R h rfl
  ·exact h.elim
 ·exact h.elim⟩
end
section
variable {H:Hp} {ρ:Tk}
theorem RepL.atI {ps:List PV} {vs:List V} {i:Int} {p:PV} (r:RepL H ρ ps vs) (e:atI ps i=zo p):∃ v,L2.atI vs i=zo v/\Rep H ρ p v:=by
 unfold L2.atI at e ⊢;rw [<- r.length];cases q:ixN ps.length i with
 | none=>rw [q] at e; cases e
 | some j=>
  rw [q] at e;exact r.get e
def cut {α:Type} (xs:List α) (lo hi:Option Int):List α:=(xs.drop (HT.sIx xs.length 0 lo)).take (HT.sIx xs.length xs.length hi - HT.sIx xs.length 0 lo)
theorem RepL.cut {ps:List PV} {vs:List V} (r:RepL H ρ ps vs) (lo hi:Option Int):RepL H ρ (Sm.cut ps lo hi) (Qat vs lo hi):=by
 unfold Sm.cut Qat
 rw [<- r.length];exact (r.drop _).take _
end
section
variable {X:Cx} {E:XK} {pos:Pos} {a b:aH} {ma mb:ME}
def oIx:OP:=fun st p q=>match Wq st p,q with
 | some xs,.int i=>okO st (atI xs i)
 | _,_=>.stuck
theorem Qm (Y:SimE X E a ma) (Z:SimE X E b mb) (hs:Q2c b:=by exact fun _ _=>rfl):SimE X E (.Subscript a b pos) (mOp oIx ma mb):=
 ⟨fun Γ σ H ρ st Q R G h=>WE.of (Qi8 Qja Zb Zb hs) (Y.use R G h.bind fun p a3 H1 ρ1 v x1 R1 G1 r1 h1=>Z.use R1 G1 h1.bind fun q a1 H2 a2 u x2 R2 G2 r2 h2=>by
  unfold oIx at h2
  split at h2
  ·rename_i xs i e;cases r2;cases j:atI xs i with
   | none=>rw [j] at h2; exact h2.elim
   | some w=>
    rw [j] at h2;obtain ⟨t,b,vs,rfl,O,ra⟩:=zy (K:=X.K) R2 (r1.ext x2) e;obtain ⟨z,U,J⟩:=ra.atI j;cases t with
    | true=>exact .inr (.inl ⟨b,vs,i,z,rfl,rfl,O,U,now R2 h2 J⟩)
    | false=>exact .inl ⟨b,vs,i,z,rfl,rfl,O,U,now R2 h2 J⟩
  ·exact h2.elim)⟩
structure SimO (X:Cx) (E:XK) (o:Option aH) (m:Gam->Q2->Res (Option Int)):Prop where
 run:∀ (Γ:Gam) (σ:St) (H:Hp) (ρ:Tk) (st:Q2) (P:Option Int->Q2->Hp->Tk->Prop) (Q:Option Int->Hp->Prop),Rel H ρ st->EnvR H ρ Γ σ->Acc X.mg E H ρ P (m Γ st) ->
  (∀ i st1 H1 ρ1,Ext H ρ H1 ρ1->Rel H1 ρ1 st1->EnvR H1 ρ1 Γ σ->P i st1 H1 ρ1->Q i H1)->∃ t,PO X o t/\t σ H Q
def jy:Gam->Q2->Res (Option Int):=fun _ st=>.ok zb st
def Q1g (m:ME):Gam->Q2->Res (Option Int):=fun Γ st=>(m Γ st).bind fun p st1=>match p with
 | .int i=>.ok (zo i) st1
 | _=>.stuck
theorem Qdd:SimO X E zb jy:=⟨fun Γ σ H ρ st P Q R G h k=>⟨_,Qmv,k zb st H ρ (Ext.refl _ _) R G (h H ρ (Ext.refl _ _) R)⟩⟩
theorem Q26 (z:SimE X E a ma):SimO X E (zo a) (Q1g ma):=⟨fun Γ σ H ρ st P Q R G h k=>⟨_,Qmu Zb,z.use R G h.bind fun p j H1 ρ1 v x1 q J O h1=>by
 cases p with
 | int i=>exact ⟨i,O,k (zo i) j H1 ρ1 x1 q J (h1 H1 ρ1 (Ext.refl _ _) q)⟩
 | _=>exact h1.elim⟩⟩
def oSl (st:Q2) (p:PV) (lo hi:Option Int):Res PV:=match p with
 | .tup xs=>.ok (.tup (cut xs lo hi)) st
 | p=>match Wf st p with
  | some xs=>.ok (.lst (cut xs lo hi)) st
  | none=>.stuck
def mSl (ma:ME) (ml mh:Gam->Q2->Res (Option Int)):ME:=fun Γ st=>(ma Γ st).bind fun p st1=>(ml Γ st1).bind fun lo st2=>(mh Γ st2).bind fun hi st3=>oSl st3 p lo hi
def TO.w (X:Cx) (o:Option aH):TO:=fun σ H Q=>∃ t,PO X o t/\t σ H Q
theorem Qu1 {o:Option aH}:PO X o (TO.w X o):=fun pins s σ H Q I ⟨t,h,q⟩=>h pins s σ H Q I q
theorem Q2w {lo hi:Option aH} {ml mh:Gam->Q2->Res (Option Int)} {p2:Pos} (q:SimE X E a ma) (hl:SimO X E lo ml) (hh:SimO X E hi mh):SimE X E (.Subscript a (.Slice lo hi zb p2) pos) (mSl ma ml mh):=
 ⟨fun Γ σ H ρ st Q R G h=>WE.of (Qi7 (sl_tup.or (sl_whole.or Qm1)) Zb Qu1 Qu1) (q.use R G h.bind fun p Z H1 ρ1 v x1 R1 G1 r1 h1=>by
  refine hl.run Γ σ H1 ρ1 Z _ _ R1 G1 h1.bind fun l U H2 Y x2 R2 G2 h2=>?_
  refine hh.run Γ σ H2 Y U _ _ R2 G2 h2.bind fun u a2 H3 a1 x3 J G3 j=>?_
  have r3:=r1.ext (x2.trans x3);unfold oSl at j
  split at j
  ·rename_i xs;obtain ⟨a,vs,rfl,q,na,z⟩:=r3
   by_cases O:HT.sIx vs.length 0 l=0/\HT.sIx vs.length vs.length u=vs.length
   ·refine .inr (.inl ⟨a,vs,rfl,SqT.of q,O,?_⟩);have e:cut xs l u=xs:=by
     unfold cut;rw [z.length,O.1,O.2,eY,iT,<- z.length,eK]
    rw [e] at j;exact now J j ⟨a,vs,rfl,q,na,z⟩
   ·exact .inl ⟨a,vs,rfl,SqT.of q,O,xw J j (z.cut l u)⟩
  ·split at j
   ·rename_i xs e;obtain ⟨a,vs,rfl,q,z⟩:=Um J r3 e;exact .inr (.inr ⟨a,vs,rfl,.inl q,Ks J j (z.cut l u)⟩)
   ·exact j.elim)⟩
variable {es:List aH} {e:aH} {mr:Gam->Q2->Res (List PV)}
def Qz (o:CF) (mr:Gam->Q2->Res (List PV)):ME:=fun Γ st=>(mr Γ st).bind fun ps st1=>o st1 ps
theorem CallS.use {f:aA} {o:CF} (s:CallS X E f o) {P:PV->Q2->Hp->Tk->Prop} {Q:VK} {H:Hp} {ρ:Tk} {st:Q2} {ps:List PV} {xs:List V} (R:Rel H ρ st) (G:RepL H ρ ps xs) (h:Acc X.mg E H ρ P (o st ps))
  (k:∀ p j H1 ρ1 v,Ext H ρ H1 ρ1->Rel H1 ρ1 j->Rep H1 ρ1 p v->P p j H1 ρ1->Q v H1):WC X f xs H Q:=by
 refine s.run H ρ st ps xs Q R G ?_;cases r:o st ps with
 | ok p j=>rw [r] at h; exact fun H' ρ' q z v J=>k p j H' ρ' v q z J (h H' ρ' q z)
 | exc e st=>rw [r] at h; exact h
 | stuck=>rw [r] at h; exact h
theorem Qu {id:String} {x:Str} {p:Pos} {o:CF} (hc:CallS X E (.builtin id) o) (O:Gl X x) (hm:X.mg x=zb) (hv:aX x=zo (.builtin id)) (J:SimA X E (e :: es) mr) (Y:x≠"__name__" := by decide) (j:(x == ("__debug__" : Str))=yl:=by decide)
  (U:aN (e :: es) X.env=(yl,aP e X.env) :: aN es X.env:=by rfl) (z:(aY pos (aN es X.env)).any (·.1)=yl:=by rfl):SimE X E (.Call (.Name x p) (e :: es) [] pos) (Qz o mr):=
 ⟨fun Γ σ H ρ st Q R G h=>WE.of (Jt Qkb O hm hv Q3t Y j U z) (J.use R G h.bind fun ps a1 H1 ρ1 vs x1 R1 G1 Z h1=>hc.use R1 Z h1 fun _ _ _ _ v _ _ r q=>q v r)⟩
theorem Yb {T:String} {x:Str} {p:Pos} {o:CF} (hc:CallS X E (.type T) o) (O:Gl X x) (hm:X.mg x=zb) (hv:aX x=zo (.type T)) (J:SimA X E (e :: es) mr) (Y:x≠"__name__" := by decide) (j:(x == ("__debug__" : Str))=yl:=by decide)
  (U:aN (e :: es) X.env=(yl,aP e X.env) :: aN es X.env:=by rfl) (z:(aY pos (aN es X.env)).any (·.1)=yl:=by rfl):SimE X E (.Call (.Name x p) (e :: es) [] pos) (Qz o mr):=
 ⟨fun Γ σ H ρ st Q R G h=>WE.of (jw Qkb O hm hv Q3t Y j U z) (J.use R G h.bind fun ps a1 H1 ρ1 vs x1 R1 G1 Z h1=>hc.use R1 Z h1 fun _ _ _ _ v _ _ r q=>q v r)⟩
theorem Yc {H:Hp} {ρ:Tk} {p:PV} {xs:List V} (r:RepL H ρ [p] xs):∃ v,xs=[v]/\Rep H ρ p v:=by
 obtain ⟨v,t,rfl,h1,h2⟩:=r;cases h2;exact ⟨v,rfl,h1⟩
theorem Qhh {H:Hp} {ρ:Tk} {p q:PV} {xs:List V} (r:RepL H ρ [p,q] xs):∃ v u,xs=[v,u]/\Rep H ρ p v/\Rep H ρ q u:=by
 obtain ⟨v,t,rfl,h1,h2⟩:=r;obtain ⟨u,rfl,j⟩:=Yc h2;exact ⟨v,u,rfl,h1,j⟩
def Ze:CF:=fun st ps=>match ps with
 | [p]=>match Wq st p with
  | some xs=>.ok (.int xs.length) st
  | none=>match p with
   | .str x=>if x.length<=lim then .ok (.int x.length) st else .stuck
   | _=>.stuck
 | _=>.stuck
theorem Jx:CallS X E (.builtin "len") Ze:=⟨fun H ρ st ps xs Q R q h=>by
 unfold Ze at h
 split at h
 ·rename_i p;obtain ⟨v,rfl,r⟩:=Yc q
  split at h
  ·rename_i ys e;obtain ⟨t,a,vs,rfl,j,z⟩:=zy (K:=X.K) R r e;rw [z.length] at h;exact WC.of Q92 ⟨a,vs,rfl,Qbj j,now R h rfl⟩
  ·split at h
   ·cases r
    split at h
    ·rename_i G;exact WC.of Q91 ⟨_,rfl,V0 G,now R h rfl⟩
    ·exact h.elim
   ·exact h.elim
 ·exact h.elim⟩
def zg (g:List Bool->PV):CF:=fun st ps=>match ps with
 | [p]=>match (Wq st p).bind Q1q with
  | some ns=>.ok (g ns) st
  | none=>.stuck
 | _=>.stuck
theorem Qpi {K:bW} {H:Hp} {ρ:Tk} {st:Q2} {p:PV} {v:V} {ns:List Bool} (R:Rel H ρ st) (r:Rep H ρ p v) (e:(Wq st p).bind Q1q=zo ns):∃ (t:Bool) (a:aB),v=.ref a/\SqK K t H a (ns.map V.bl):=by
 cases q:Wq st p with
 | none=>rw [q] at e; cases e
 | some xs=>
  rw [q] at e;obtain ⟨t,a,vs,rfl,j,z⟩:=zy (K:=K) R r q;rw [Qke e] at z;rw [z.toBls] at j;exact ⟨t,a,rfl,j⟩
theorem Kx (z:X.calm=yo):CallS X E (.builtin "all") (zg fun ns=>.bl (ns.all id)):=⟨fun H ρ st ps xs Q R q h=>by
 unfold zg at h
 split at h
 ·obtain ⟨v,rfl,r⟩:=Yc q
  split at h
  ·rename_i ns e;obtain ⟨t,a,rfl,j⟩:=Qpi (K:=X.K) R r e;exact WC.of (Qkc t z) ⟨a,ns,rfl,j,now R h rfl⟩
  ·exact h.elim
 ·exact h.elim⟩
def Q0b:CF:=fun st ps=>match ps with
 | [p]=>match Wq st p with
  | some xs=>.ok (.lst xs) st
  | none=>.stuck
 | _=>.stuck
def W0:CF:=fun st ps=>match ps with
 | [p]=>match Wq st p with
  | some xs=>.ok (.tup xs) st
  | none=>.stuck
 | _=>.stuck
theorem Qee:CallS X E (.type "list") Q0b:=⟨fun H ρ st ps xs Q R q h=>by
 unfold Q0b at h
 split at h
 ·obtain ⟨v,rfl,r⟩:=Yc q
  split at h
  ·rename_i ys e;obtain ⟨t,a,vs,rfl,j,z⟩:=zy (K:=X.K) R r e;exact WC.of Q0a ⟨a,vs,rfl,Qbj j,Ks R h z⟩
  ·exact h.elim
 ·exact h.elim⟩
theorem U1:CallS X E (.type "tuple") W0:=⟨fun H ρ st ps xs Q R z h=>by
 unfold W0 at h
 split at h
 ·rename_i p;obtain ⟨v,rfl,r⟩:=Yc z
  split at h
  ·rename_i ys e;cases p with
   | tup zs=>
    cases e;obtain ⟨a,vs,rfl,j,G,q⟩:=r;exact WC.of zu ⟨a,vs,rfl,.inr ⟨SqT.of j,now R h ⟨a,vs,rfl,j,G,q⟩⟩⟩
   | _=>
    obtain ⟨a,vs,rfl,j,q⟩:=Um R r e;exact WC.of zu ⟨a,vs,rfl,.inl ⟨.inl j,xw R h q⟩⟩
  ·exact h.elim
 ·exact h.elim⟩
def tyN:PV->String
 | .non => "NoneType"
 | .bl _ => "bool"
 | .int _ => "int"
 | .str _ => "str"
 | .tup _ => "tuple"
 | .lst _ => "list"
 | .fro _ => "list"
 | .ref _ => "list"
 | .dic => "dict"
def dpv (st:Q2):PV->PV
 | .ref i=>match st[i]? with
  | some (.dic _)=>.dic
  | some (.dtp _)=>.dic
  | _=>.ref i
 | p=>p
def isI (T:String) (p:PV):Bool:=tyN p == T || (T == "int" && tyN p == "bool")
def qr (st:Q2):PV->Bool
 | .ref i=>match st[i]? with
  | some (.frd _)=>yo
  | some (.obj _ _)=>yo
  | _=>yl
 | _=>yl
theorem Qtb {K:bW} {H:Hp} {ρ:Tk} {st:Q2} {p:PV} {v:V} (z:qr st p=yl) (R:Rel H ρ st) (r:Rep H ρ p v):TyOf K H v (.type (tyN (dpv st p))):=by
 cases p with
 | non=>cases r; exact .non
 | bl b=>cases r; exact .bl b
 | int i=>cases r; exact .int i
 | str x=>cases r; exact .str x
 | tup ps=>obtain ⟨a,vs,rfl,h,_⟩:=r; exact .tup h
 | lst ps=>obtain ⟨a,vs,rfl,h,_⟩:=r; exact .lst h
 | fro ps=>
  obtain ⟨a,vs,rfl,h,_⟩:=r;rcases h with h | ⟨o,h⟩
  ·exact .lst h
  ·exact .frz h
 | ref i=>
  obtain ⟨a,e,rfl⟩:=r;have G:i < st.length:=by rw [<- R.len]; exact (O1.mp e).1
  have hs:=O0 G;have q:=R.cell i a st[i] e hs;cases j:st[i] with
  | lst xs=>rw [j] at q hs; simp only [dpv,hs]; obtain ⟨vs,h,_⟩:=q; exact .lst h
  | dic xs=>rw [j] at q hs; simp only [dpv,hs]; obtain ⟨vs,h,_⟩:=q; exact .dK h
  | dtp xs=>rw [j] at q hs; simp only [dpv,hs]; obtain ⟨vs,h,_⟩:=q; exact .dT h
  | frd xs=>rw [j] at hs; simp only [qr,hs] at z; cases z
  | obj C xs=>rw [j] at hs; simp only [qr,hs] at z; cases z
 | dic=>obtain ⟨a,rfl,h,_⟩:=r; exact .dK h
def Q4m:List String:=["int", "bool", "str", "tuple", "list", "dict"]
theorem Qry (K:bW) {T:String} (j:T∈Q4m) (p:PV):bi K (.type (tyN p)) (.type T)=zo (isI T p):=by
 have j:T = "int" \/ T = "bool" \/ T = "str" \/ T = "tuple" \/ T = "list" \/ T = "dict" := by simpa [Q4m] using j
 rcases j with rfl | rfl | rfl | rfl | rfl | rfl <;> cases p <;> first | rfl | kernel_rfl
def Xa (T:String) (m:ME):ME:=fun Γ st=>(m Γ st).bind fun p st1=>if qr st1 p=yo then .stuck else .ok (.bl (isI T (dpv st1 p))) st1
theorem Ys {T:String} {tx:Str} {a:aH} {ma:ME} {p tp:Pos} (hT:T∈Q4m) (ha:SimE X E a ma) (hg:Gl X "isinstance") (hm:X.mg "isinstance" = zb) (J:Gl X tx) (O:X.mg tx=zb) (Z:aX tx=zo (.type T))
  (hn:tx≠"__name__" := by decide) (hd:(tx == ("__debug__" : Str))=yl:=by decide)
  (he:aN [a,.Name tx tp] X.env=(yl,aP a X.env) :: aN [.Name tx tp] X.env:=by rfl) (z:aN [.Name tx tp] X.env=(yl,aP (.Name tx tp) X.env) :: aN [] X.env:=by rfl) (Y:(aY pos (aN [.Name tx tp] X.env)).any (·.1)=yl:=by rfl) :
  SimE X E (.Call (.Name "isinstance" p) [a,.Name tx tp] [] pos) (Xa T ma):=
 ⟨fun Γ σ H ρ st Q R G h=>WE.of (Jt Qb0 hg hm Qx (Qt Zb (Qt (Qdm J O Z (v:=.ty T) rfl hn hd) Js z) he) (by decide) (by decide) he Y)
  (ha.use R G h.bind fun q j H1 ρ1 v x1 R1 G1 r1 h1=>by
   by_cases U:qr j q=yo
   ·rw [bS U] at h1; exact h1.elim
   ·rw [bT U] at h1;exact ⟨v,.ty T,.type T,_,_,rfl,rfl,Qtb (by simpa using U) R1 r1,Qry X.K hT (dpv j q),now R1 h1 rfl⟩)⟩
end
abbrev GA:=PV->Gam->Option Gam
abbrev GAs:=List PV->Gam->Option Gam
structure SimG (X:Cx) (tg:aH) (ga:GA):Prop where
 run:∀ (Γ Γ':Gam) (σ:St) (H:Hp) (ρ:Tk) (p:PV) (v:V) (Q:St->Hp->Prop),EnvR H ρ Γ σ->Rep H ρ p v->ga p Γ=zo Γ'->(∀ σ',EnvR H ρ Γ' σ'->Q σ' H)->∃ t,PG X tg t/\t v σ H Q
structure SimGs (X:Cx) (tgs:List aH) (n:Nat) (ga:GAs):Prop where
 run:∀ (Γ Γ':Gam) (σ:St) (H:Hp) (ρ:Tk) (ps:List PV) (vs:List V) (Q:St->Hp->Prop),EnvR H ρ Γ σ->RepL H ρ ps vs->ga ps Γ=zo Γ'->(∀ σ',EnvR H ρ Γ' σ'->Q σ' H)->∃ t,PGs X tgs t/\t vs σ H Q
 len:∀ ps Γ Γ',ga ps Γ=zo Γ'->ps.length=n
def Qk (i:Nat):GA:=fun p Γ=>zo (Γ.set i (zo p))
def Q4v:GAs:=fun ps Γ=>match ps with
 | []=>zo Γ
 | _=>zb
def V1 (g:GA) (gs:GAs):GAs:=fun ps Γ=>match ps with
 | p :: r=>(g p Γ).bind (gs r)
 | []=>zb
def Q4u (gs:GAs):GA:=fun p Γ=>match p with
 | .tup ps=>gs ps Γ
 | _=>zb
section
variable {X:Cx} {pos:Pos}
theorem Qy {i:Nat} {x:Str} (j:X.N.Nodup) (hi:X.N[i]?=zo x:=by rfl) (J:Loc X.env.scope x:=by first | exact Or.inl rfl | exact Or.inr rfl) (q:X.fn x=yo\/X.env.scope.names.lookup x=zo .local:=by first | exact .inl rfl | exact .inr rfl):SimG X (.Name x pos) (Qk i):=
 ⟨fun Γ z σ H ρ p v Q G r e k=>⟨_,Qn1 j hi J q,by cases e; exact k _ (G.set r i)⟩⟩
theorem Q75:SimGs X [] 0 Q4v:=⟨fun Γ j σ H ρ ps vs Q G r e k=>⟨_,Qmz,by
 cases ps with
 | nil=>cases e; cases r; exact ⟨rfl,k σ G⟩
 | cons _ _=>cases e⟩,fun ps Γ j e=>by
 cases ps with
 | nil=>rfl
 | cons _ _=>cases e⟩
def WGx (X:Cx) (tg:aH):TG:=fun v σ H Q=>∃ t,PG X tg t/\t v σ H Q
theorem Qn0 {tg:aH}:PG X tg (WGx X tg):=fun pins s σ H v u Q I r ⟨t,h,q⟩=>h pins s σ H v u Q I r q
def Qy0 (X:Cx) (tgs:List aH):TGs:=fun v σ H Q=>∃ t,PGs X tgs t/\t v σ H Q
theorem Qq4 {j:List aH}:PGs X j (Qy0 X j):=fun pins s σ H v u Q I r ⟨t,h,q⟩=>h pins s σ H v u Q I r q
theorem Wp {e:aH} {es:List aH} {g:GA} {gs:GAs} {n:Nat} (h1:SimG X e g) (h2:SimGs X es n gs) (hs:(aw (e :: es) X.env).map (·.2)=assign e X.env :: (aw es X.env).map (·.2):=by rfl):SimGs X (e :: es) (n + 1) (V1 g gs):=
 ⟨fun Γ j σ H ρ ps vs Q G r eq k=>⟨_,Qi5 Qn0 Qq4 hs,by
  cases ps with
  | nil=>cases eq
  | cons p ps=>
   obtain ⟨v,t,rfl,U,J⟩:=r;have eq:(g p Γ).bind (gs ps)=zo j:=eq;cases e1:g p Γ with
   | none=>rw [e1] at eq; cases eq
   | some q=>
    rw [e1] at eq;exact ⟨v,t,rfl,h1.run Γ q σ H ρ p v _ G U e1 fun z O=>h2.run q j z H ρ ps t _ O J eq k⟩⟩,fun ps Γ j e=>by
  cases ps with
  | nil=>cases e
  | cons p ps=>
   have e:(g p Γ).bind (gs ps)=zo j:=e;cases e1:g p Γ with
   | none=>rw [e1] at e; cases e
   | some q=>rw [e1] at e; rw [D7,h2.len ps q j e]⟩
theorem Qbm {es:List aH} {k n:Nat} {gs:GAs} (Y:X.calm=yo) (h:SimGs X es n gs) (U:(aw es X.env).length=n:=by rfl) (z:(aw es X.env).findIdx? (·.1)=zb:=by rfl):SimG X (.Tuple es k pos) (Q4u gs):=
 ⟨fun Γ j σ H ρ p v Q G r e q=>⟨_,Qr3 Y Qq4 U z,by
  cases p with
  | tup ps=>
   obtain ⟨a,vs,rfl,O,Z,J⟩:=r;exact ⟨a,vs,rfl,SqT.of O,by rw [<- J.length]; exact h.len ps Γ j e,h.run Γ j σ H ρ ps vs Q G J e q⟩
  | _=>cases e⟩⟩
end
abbrev Wt:=List (Nat × Cell)
def wOk (w:Wt) (st:Q2):Prop:=∀ x∈w,st[x.1]?=zo x.2
theorem Jr (st:Q2):wOk [] st:=fun x h=>by cases h
structure Src (J:It) (items:List PV) (w:Wt) (H:Hp) (ρ:Tk):Prop where
 stop:∀ H2 ρ2 st2,Ext H ρ H2 ρ2->Rel H2 ρ2 st2->wOk w st2->J.stop items.length H2
 go:∀ H2 ρ2 st2,Ext H ρ H2 ρ2->Rel H2 ρ2 st2->wOk w st2->∀ i,i < items.length->J.go i H2
 yld:∀ H2 ρ2 st2,Ext H ρ H2 ρ2->Rel H2 ρ2 st2->wOk w st2->∀ i p,items[i]?=zo p->∀ x H3,J.yld i H2 x H3->Same H2 H3/\Rep H3 ρ2 p x
abbrev MI:=Gam->Q2->Res (List PV × Wt)
structure SimI (X:Cx) (E:XK) (tg iter:aH) (mi:MI):Prop where
 run:∀ (Γ:Gam) (σ:St) (H:Hp) (ρ:Tk) (st:Q2) (P:List PV × Wt->Q2->Hp->Tk->Prop) (R':It->Hp->Prop),Rel H ρ st->EnvR H ρ Γ σ->Acc X.mg E H ρ P (mi Γ st) ->
  (∀ iw st1 H1 ρ1 J,mi Γ st=.ok iw st1->Ext H ρ H1 ρ1->Rel H1 ρ1 st1->EnvR H1 ρ1 Γ σ->wOk iw.2 st1->iw.1.length<=sizeLine->Src J iw.1 iw.2 H1 ρ1->P iw st1 H1 ρ1->R' J H1)->WI X tg iter σ H R'
def Xb (st:Q2):PV->Option (List PV × Wt)
 | .tup xs=>zo (xs,[])
 | .lst xs=>zo (xs,[])
 | .fro xs=>zo (xs,[])
 | .ref i=>match st[i]? with
  | some (.lst xs)=>zo (xs,[(i,.lst xs)])
  | _=>zb
 | _=>zb
theorem Qbi {K:bW} {H:Hp} {ρ:Tk} {st:Q2} {p:PV} {v:V} {xs:List PV} {w:Wt} (R:Rel H ρ st) (r:Rep H ρ p v) (e:Xb st p=zo (xs,w)) :
  wOk w st/\∃ (t:Bool) (a:aB),v=.ref a/\(t=yo->∃ ys,p=.tup ys)/\(t=yl->∀ ys,p≠.tup ys)/\∀ H2 j q,Ext H ρ H2 j->Rel H2 j q->wOk w q->∃ vs,SqK K t H2 a vs/\RepL H2 j xs vs:=by
 cases p with
 | tup ys=>
  obtain ⟨a,vs,rfl,G,J,O⟩:=r;cases e;exact ⟨Jr _,yo,a,rfl,fun _=>⟨_,rfl⟩,(fun z=>by cases z),fun H2 j q x R2 _=>⟨vs,show SqT K H2 a vs from SqT.of (x.kp G J),O.ext x⟩⟩
 | lst ys=>
  obtain ⟨a,vs,rfl,G,J,O⟩:=r;cases e;exact ⟨Jr _,yl,a,rfl,(fun z=>by cases z),(fun _ _ z=>by cases z),fun H2 j q x R2 _=>⟨vs,show SqL K H2 a vs from SqL.of (x.kp G J),O.ext x⟩⟩
 | fro ys=>
  obtain ⟨a,vs,rfl,G,J,O⟩:=r;cases e;refine ⟨Jr _,yl,a,rfl,(fun z=>by cases z),(fun _ _ z=>by cases z),fun H2 j q x R2 _=>⟨vs,show SqL K H2 a vs from ?_,O.ext x⟩⟩
  rcases G with G | ⟨o,G⟩
  ·exact .inl (.inl (x.kp G J))
  ·exact .inl (.inr ⟨o,x.kp G J⟩)
 | ref i=>
  obtain ⟨a,Z,rfl⟩:=r;simp only [Xb] at e
  split at e
  ·rename_i ys hs;cases e;refine ⟨fun x hx=>?_,yl,a,rfl,(fun z=>by cases z),(fun _ _ z=>by cases z),fun H2 j q x R2 ok=>?_⟩
   ·have:x=(i,.lst xs):=by simpa using hx
    subst this; exact hs
   ·have U:=ok (i,.lst xs) (by simp);obtain ⟨b,vs,Y,f2,f3⟩:=R2.lst U;obtain ⟨t,et⟩:=x.pre;rw [<- et,D3 (O1.mp Z).1,Z] at Y;cases Y;exact ⟨vs,show SqL K H2 a vs from SqL.of f2,f3⟩
  ·cases e
 | _=>cases e
section
variable {X:Cx} {E:XK} {pos:Pos} {tg:aH} {e:aH} {m:ME}
def Uk (m:ME):MI:=fun Γ st=>(m Γ st).bind fun p st1=>match Xb st1 p with
 | some (xs,w)=>if xs.length<=lim then .ok (xs,w) st1 else .stuck
 | none=>.stuck
theorem RepL.i {H:Hp} {ρ:Tk} {ps:List PV} {vs:List V} {i:Nat} {p:PV} {x:V} (r:RepL H ρ ps vs) (h:ps[i]?=zo p) (h':vs[i]?=zo x):Rep H ρ p x:=by
 obtain ⟨v,e,q⟩:=r.get h;rw [h'] at e; cases e;exact q
theorem Qdb {K:bW} {H:Hp} {ρ:Tk} {t:Bool} {a:aB} {xs:List PV} {w:Wt} (h:∀ H2 j q,Ext H ρ H2 j->Rel H2 j q->wOk w q->∃ vs,SqK K t H2 a vs/\RepL H2 j xs vs):Src (if t=yo then Itt K a else Itl K a) xs w H ρ:=by
 cases t with
 | true=>
  rw [bS rfl];refine ⟨fun H2 j q x R ok=>?_,fun H2 j q x R ok i hi=>?_,fun H2 j q x R ok i p hp y O G=>?_⟩
  ·obtain ⟨vs,s,r⟩:=h H2 j q x R ok;exact ⟨vs,s,by rw [r.length]; exact O4 _⟩
  ·obtain ⟨vs,s,r⟩:=h H2 j q x R ok;have z:i < vs.length:=by rw [<- r.length]; exact hi
   exact ⟨vs,vs[i],s,O0 z⟩
  ·obtain ⟨vs,s,r⟩:=h H2 j q x R ok;obtain ⟨rfl,J⟩:=G;exact ⟨Same.refl _,r.i hp (J vs s)⟩
 | false=>
  rw [bT O7];refine ⟨fun H2 j q x R ok=>?_,fun H2 j q x R ok i hi=>?_,fun H2 j q x R ok i p hp y O G=>?_⟩
  ·obtain ⟨vs,s,r⟩:=h H2 j q x R ok;exact ⟨vs,s,by rw [r.length]; exact O4 _⟩
  ·obtain ⟨vs,s,r⟩:=h H2 j q x R ok;have z:i < vs.length:=by rw [<- r.length]; exact hi
   exact ⟨vs,vs[i],s,O0 z⟩
  ·obtain ⟨vs,s,r⟩:=h H2 j q x R ok;obtain ⟨rfl,J⟩:=G;exact ⟨Same.refl _,r.i hp (J vs s)⟩
theorem Qdv {mg:Str->Option aA} {H:Hp} {ρ:Tk} {st:Q2} {p:PV} {P:List PV × Wt->Q2->Hp->Tk->Prop} (R:Rel H ρ st) (h:Acc mg E H ρ P (match Xb st p with | some (xs,w)=>if xs.length<=lim then .ok (xs,w) st else .stuck | none=>.stuck)) :
  ∃ xs w,Xb st p=zo (xs,w)/\xs.length<=lim/\P (xs,w) st H ρ:=by
 split at h
 ·rename_i xs w e
  split at h
  ·rename_i j;exact ⟨xs,w,e,j,h H ρ (Ext.refl _ _) R⟩
  ·exact h.elim
 ·exact h.elim
theorem Yg (Z:SimE X E e m):SimI X E tg e (Uk m):=⟨fun Γ σ H ρ st P R' R G h k=>by
 have hb:Acc X.mg E H ρ _ (m Γ st):=Acc.bind h
 by_cases ht:∃ ys j,m Γ st=.ok (.tup ys) j
 ·obtain ⟨ys,a1,e0⟩:=ht;refine WI.of (Qr1 Zb) (Z.use' R G hb fun p j H1 ρ1 v eq x1 q U Y h1=>?_);obtain ⟨xs,w,e,J,O⟩:=Qdv q h1;obtain ⟨ok,t,a,rfl,t1,t2,z⟩:=Qbi (K:=X.K) q Y e;have ep:p=.tup ys:=by rw [eq] at e0; injection e0
  cases t with
  | false=>exact absurd ep (t2 rfl ys)
  | true=>
   obtain ⟨vs,s,_⟩:=z H1 ρ1 j (Ext.refl _ _) q ok;exact ⟨a,rfl,⟨vs,s⟩,k (xs,w) j H1 ρ1 _ (by simp only [Uk,eq,Res.bind,e,bS J]) x1 q U ok (V0 J) (Qdb z) O⟩
 ·refine WI.of (Qmx Zb) (Z.use' R G hb fun p j H1 ρ1 v eq x1 q U Y h1=>?_);obtain ⟨xs,w,e,J,O⟩:=Qdv q h1;obtain ⟨ok,t,a,rfl,t1,t2,z⟩:=Qbi (K:=X.K) q Y e;cases t with
  | true=>
   obtain ⟨ys,rfl⟩:=t1 rfl;exact absurd ⟨ys,j,eq⟩ ht
  | false=>
   obtain ⟨vs,s,_⟩:=z H1 ρ1 j (Ext.refl _ _) q ok;exact ⟨a,rfl,⟨vs,s⟩,k (xs,w) j H1 ρ1 _ (by simp only [Uk,eq,Res.bind,e,bS J]) x1 q U ok (V0 J) (Qdb z) O⟩⟩
def Yv (lo:Int) (n:Nat):List PV:=(bY n).map fun (k:Nat)=>PV.int (lo + (k:Int))
theorem Qex {H:Hp} {ρ:Tk} {lo:Int} {n:Nat}:Src (Itr lo n) (Yv lo n) [] H ρ:=by
 have G:(Yv lo n).length=n:=by unfold Yv; rw [O3,F0]
 refine ⟨fun H2 j q x R ok=>?_,fun H2 j q x R ok i hi=>?_,fun H2 j q x R ok i p hp y J z=>?_⟩
 ·show n<=(Yv lo n).length;omega
 ·show i < n;omega
 ·obtain ⟨rfl,rfl⟩:=z;have hi:i < n:=by rw [<- G]; exact (O1.mp hp).1
  unfold Yv at hp;rw [D2,eV hi] at hp;cases hp;exact ⟨Same.refl _,rfl⟩
def Zd (mr:Gam->Q2->Res (List PV)):MI:=fun Γ st=>(mr Γ st).bind fun ps st1=>match ps with
 | [.int j]=>if -(lim:Int)<=j/\j<=lim then .ok (Yv 0 j.toNat,[]) st1 else .stuck
 | _=>.stuck
variable {a b:aH} {mr:Gam->Q2->Res (List PV)} {p:Pos}
theorem Qbw (lo:Int) (n:Nat):(Yv lo n).length=n:=by unfold Yv; rw [O3,F0]
theorem Jz (O:Gl X "range") (hm:X.mg "range" = zb) (J:SimA X E [a] mr) (hs:aN [a] X.env=[(yl,aP a X.env)]:=by rfl):SimI X E tg (.Call (.Name "range" p) [a] [] pos) (Zd mr):=⟨fun Γ σ H ρ st P R' R G h k=>by
 refine WI.of (Qfh O hm Q3t hs) (J.use' R G h.bind fun ps q H1 ρ1 vs eq x1 z U r1 h1=>?_)
 split at h1
 ·rename_i j
  split at h1
  ·rename_i Z;obtain ⟨v,rfl,Y⟩:=Yc r1;cases Y;have hl:(lim:Int)=1000000:=rfl;refine ⟨j,rfl,by omega,by omega,k (Yv 0 j.toNat,[]) q H1 ρ1 _ (by simp only [Zd,eq,Res.bind,bS Z]) x1 z U (Jr _) ?_ Qex (h1 H1 ρ1 (Ext.refl _ _) z)⟩;show (Yv 0 j.toNat).length<=sizeLine;rw [Qbw];exact V0 (by omega)
  ·exact h1.elim
 ·exact h1.elim⟩
def Ue:Nat->List PV->List PV
 | _,[]=>[]
 | n,x :: xs=>.tup [.int n,x] :: Ue (n + 1) xs
theorem z7:∀ (n:Nat) (xs:List PV),(Ue n xs).length=xs.length
 | _,[]=>rfl
 | n,x :: xs=>by rw [Ue,D7,z7 (n + 1) xs,D7]
theorem Q6m:∀ {n:Nat} {xs:List PV} {i:Nat} {p:PV},(Ue n xs)[i]?=zo p->∃ x,p=.tup [.int (n + i:Nat),x]/\xs[i]?=zo x
 | n,[],i,p,h=>by simp [Ue] at h
 | n,x :: xs,0,p,h=>by
  simp [Ue] at h;exact ⟨x,h.symm,rfl⟩
 | n,x :: xs,i + 1,p,h=>by
  rw [Ue,dg] at h;obtain ⟨y,e1,e2⟩:=Q6m h;exact ⟨y,by rw [e1,show n + 1 + i=n + (i + 1) by omega],by simpa using e2⟩
def Qah (mr:Gam->Q2->Res (List PV)):MI:=fun Γ st=>(mr Γ st).bind fun ps st1=>match ps with
 | [p]=>match Xb st1 p with
  | some (xs,w)=>if xs.length<=lim then .ok (Ue 0 xs,w) st1 else .stuck
  | none=>.stuck
 | _=>.stuck
theorem Qh5 {K:bW} {H:Hp} {ρ:Tk} {t:Bool} {a:aB} {xs:List PV} {w:Wt} (h:∀ H2 j z,Ext H ρ H2 j->Rel H2 j z->wOk w z->∃ vs,SqK K t H2 a vs/\RepL H2 j xs vs):Src (Ite K t a) (Ue 0 xs) w H ρ:=by
 refine ⟨fun H2 j z x R ok=>?_,fun H2 j z x R ok i hi=>?_,fun H2 j z x R ok i p hp y H3 O=>?_⟩
 ·obtain ⟨vs,s,r⟩:=h H2 j z x R ok;exact ⟨vs,s,by rw [z7,r.length]; exact O4 _⟩
 ·obtain ⟨vs,s,r⟩:=h H2 j z x R ok;rw [z7,r.length] at hi;exact ⟨vs,vs[i],s,O0 hi⟩
 ·obtain ⟨vs,s,r⟩:=h H2 j z x R ok;obtain ⟨q,u,J,rfl,rfl,Y⟩:=O;have e1:=Y vs s;obtain ⟨Z,rfl,U⟩:=Q6m hp;have G:Same H2 (upd H2 q (.tup [.int i,u])):=Qhd J;exact ⟨G,q,[.int i,u],rfl,Qp,R.fresh J,RepL.cons (by rw [eL]; rfl) (RepL.cons ((r.i U e1).ext (Ext.same G)) RepL.nil)⟩
theorem Qm2 {elts:List aH} {kt:Nat} {tp:Pos} (hg:Gl X "enumerate") (hm:X.mg "enumerate" = zb) (ha:SimA X E [a] mr) (hs:aN [a] X.env=[(yl,aP a X.env)]:=by rfl) :
  SimI X E (.Tuple elts kt tp) (.Call (.Name "enumerate" p) [a] [] pos) (Qah mr):=⟨fun Γ σ H ρ st P R' R G h k=>by
 have hb:Acc X.mg E H ρ _ (mr Γ st):=Acc.bind h;have q:∀ J:Bool,(∀ p j,mr Γ st=.ok [p] j->(J=yo <-> ∃ ys,p=.tup ys))->WI X (.Tuple elts kt tp) (.Call (.Name "enumerate" p) [a] [] pos) σ H R':=fun J ht=>by
  refine WI.of (Qmy J hg hm Q3t hs) (ha.use' R G hb fun ps j H1 ρ1 vs eq x1 Y G1 r1 h1=>?_)
  split at h1
  ·rename_i p'
   split at h1
   ·rename_i xs w e1
    split at h1
    ·rename_i hl;obtain ⟨v,rfl,rv⟩:=Yc r1;obtain ⟨O,b1,a1,rfl,z1,a3,U⟩:=Qbi (K:=X.K) Y rv e1;have Z:=ht _ _ eq;have a2:b1=J:=by
      cases b1 with
      | true=>exact (Z.mpr (z1 rfl)).symm
      | false=>
       cases J with
       | false=>rfl
       | true=>obtain ⟨ys,e⟩:=Z.mp rfl; exact absurd e (a3 rfl ys)
     subst a2;obtain ⟨a4,s1,_⟩:=U H1 ρ1 j (Ext.refl _ _) Y O;refine ⟨a1,a4,rfl,s1,k (Ue 0 xs,w) j H1 ρ1 _ (by simp only [Qah,eq,Res.bind,e1,bS hl]) x1 Y G1 O ?_ (Qh5 U) (h1 H1 ρ1 (Ext.refl _ _) Y)⟩;show (Ue 0 xs).length<=sizeLine;rw [z7];exact V0 hl
    ·exact h1.elim
   ·exact h1.elim
  ·exact h1.elim
 have tt:∀ p:PV,∃ t:Bool,t=yo <-> ∃ ys,p=.tup ys:=fun p=>by
  cases p with
  | tup ys=>exact ⟨yo,fun _=>⟨ys,rfl⟩,fun _=>rfl⟩
  | _=>exact ⟨yl,⟨fun z=>(by cases z),fun ⟨_,z⟩=>(by cases z)⟩⟩
 by_cases hz:∃ p j,mr Γ st=.ok [p] j
 ·obtain ⟨p0,a5,e0⟩:=hz;obtain ⟨J,Z⟩:=tt p0;refine q J fun p j e=>?_
  rw [e0] at e; cases e;exact Z
 ·exact q yo fun p j e=>absurd ⟨p,j,e⟩ hz⟩
end
section
abbrev ML:=Gam->Q2->Res (List PV)
structure SimN (X:Cx) (E:XK) (e:aH) (m:ML):Prop where
 run:∀ (Γ:Gam) (σ:St) (H:Hp) (ρ:Tk) (st:Q2) (P:List PV->Q2->Hp->Tk->Prop) (Q:VK),Rel H ρ st->EnvR H ρ Γ σ->Acc X.mg E H ρ P (m Γ st) ->
  (∀ ps st1 H1 ρ1 a vs,m Γ st=.ok ps st1->Ext H ρ H1 ρ1->Rel H1 ρ1 st1->a∈ρ1.hid->H a=zb->H1 a=zo (.lst vs)->RepL H1 ρ1 ps vs->Q (.ref a) H1)->WE X e σ H Q
def Wk (m:ML):ME:=fun Γ st=>(m Γ st).bind fun ps st1=>.ok (.lst ps) st1
def Q88 (m:ML):ME:=fun Γ st=>(m Γ st).bind fun ps st1=>.ok (.ref st1.length) (st1 ++ [.lst ps])
section
variable {H0 H:Hp} {ρ0 ρ:Tk} {st:Q2} {a:aB} {ps:List PV} {vs:List V}
theorem Qdp (J:Rel H0 ρ0 st) (x:Ext H0 ρ0 H ρ) {j:Q2} (R:Rel H ρ j) (hm:a∈ρ.hid) (G:H0 a=zb) (q:H a=zo (.lst vs)) (r:RepL H ρ ps vs) :
  Ext H0 ρ0 H ⟨ρ.tr,ρ0.hid⟩/\Rel H ⟨ρ.tr,ρ0.hid⟩ j/\Rep H ⟨ρ.tr,ρ0.hid⟩ (.lst ps) (.ref a):=
 ⟨x.unhide,R.unhide x.hidM,a,vs,rfl,q,(fun z=>by
  rcases z with z | z
  ·exact R.ap a hm z
  ·obtain ⟨o,e,_⟩:=J.hd a z;rw [G] at e; cases e),r.unhide x.hidM⟩
mutual
theorem Rep.trk {b:aB} {hs:List aB} (j:b∈ρ.hid) (q:∀ c,c∈hs->c∈ρ.hid):∀ {p:PV} {v:V},Rep H ρ p v->Rep H ⟨ρ.tr ++ [b],hs⟩ p v
 | .non,_,r=>r
 | .bl _,_,r=>r
 | .int _,_,r=>r
 | .str _,_,r=>r
 | .tup ps,v,⟨c,vs,e,s,n,r⟩=>⟨c,vs,e,s,fun z=>by
   rcases z with z | z
   ·rcases E8.mp z with z | z
    ·exact n (.inl z)
    ·have:c=b:=by simpa using z
     subst this; exact n (.inr j)
   ·exact n (.inr (q _ z)),RepL.trk j q r⟩
 | .lst ps,v,⟨c,vs,e,s,n,r⟩=>⟨c,vs,e,s,fun z=>by
   rcases z with z | z
   ·rcases E8.mp z with z | z
    ·exact n (.inl z)
    ·have:c=b:=by simpa using z
     subst this; exact n (.inr j)
   ·exact n (.inr (q _ z)),RepL.trk j q r⟩
 | .fro ps,v,⟨c,vs,e,s,n,r⟩=>⟨c,vs,e,s,fun z=>by
   rcases z with z | z
   ·rcases E8.mp z with z | z
    ·exact n (.inl z)
    ·have:c=b:=by simpa using z
     subst this; exact n (.inr j)
   ·exact n (.inr (q _ z)),RepL.trk j q r⟩
 | .ref i,v,⟨c,e,e2⟩=>⟨c,by show (ρ.tr ++ [b])[i]?=zo c; rw [D3 (O1.mp e).1]; exact e,e2⟩
 | .dic,v,⟨c,e,s,n⟩=>⟨c,e,s,fun z=>by
   rcases z with z | z
   ·rcases E8.mp z with z | z
    ·exact n (.inl z)
    ·have:c=b:=by simpa using z
     subst this; exact n (.inr j)
   ·exact n (.inr (q _ z))⟩
theorem RepL.trk {b:aB} {hs:List aB} (j:b∈ρ.hid) (q:∀ c,c∈hs->c∈ρ.hid):∀ {ps:List PV} {vs:List V},RepL H ρ ps vs->RepL H ⟨ρ.tr ++ [b],hs⟩ ps vs
 | [],_,r=>r
 | p :: ps,_,⟨v,t,e,G,z⟩=>⟨v,t,e,Rep.trk j q G,RepL.trk j q z⟩
end
theorem Qn5 (R0:Rel H0 ρ0 st) (x:Ext H0 ρ0 H ρ) {j:Q2} (R:Rel H ρ j) (hm:a∈ρ.hid) (Y:H0 a=zb) (ha:H a=zo (.lst vs)) (r:RepL H ρ ps vs) :
  Ext H0 ρ0 H ⟨ρ.tr ++ [a],ρ0.hid⟩/\Rel H ⟨ρ.tr ++ [a],ρ0.hid⟩ (j ++ [.lst ps])/\Rep H ⟨ρ.tr ++ [a],ρ0.hid⟩ (.ref j.length) (.ref a):=by
 have U:a∉ρ0.hid:=fun z=>by
  obtain ⟨o,e,_⟩:=R0.hd a z;rw [Y] at e; cases e
 refine ⟨⟨x.pre.trans (eX _ _),fun _ h=>h,fun _ h=>.inl h,x.keep,fun b J=>?_,x.old,x.frz⟩,⟨?_,?_,fun b J=>R.hd b (x.hidM b J),fun b J z=>?_,fun i b c h1 h2=>?_⟩,a,?_,rfl⟩
 ·rcases E8.mp J with z | z
  ·exact x.new b z
  ·have:b=a:=by simpa using z
   subst this; exact .inr Y
 ·show (ρ.tr ++ [a]).length=_;rw [D4,D4,R.len]; rfl
 ·show (ρ.tr ++ [a]).Nodup;refine dM.mpr ⟨R.nd,by simp,fun b J c hc e=>?_⟩;have:c=a:=by simpa using hc
  subst this; subst e;exact R.ap b hm J
 ·rcases E8.mp z with z | z
  ·exact R.ap b (x.hidM b J) z
  ·have:b=a:=by simpa using z
   subst this; exact U J
 ·have h1:(ρ.tr ++ [a])[i]?=zo b:=h1
  by_cases hi:i < j.length
  ·rw [D3 (by rw [R.len]; exact hi)] at h1;rw [D3 hi] at h2;have q:=R.cell i b c h1 h2;cases c with
   | lst O=>
    obtain ⟨G,e1,e2⟩:=q;exact ⟨G,e1,e2.trk hm x.hidM⟩
   | dic O=>
    obtain ⟨G,e1,e2⟩:=q;exact ⟨G,e1,e2.1,e2.2.trk hm x.hidM⟩
   | dtp O=>
    obtain ⟨G,e1,e2⟩:=q;exact ⟨G,e1,e2.1,e2.2.trk hm x.hidM⟩
   | frd O=>
    obtain ⟨G,e1,e2⟩:=q;exact ⟨G,e1,e2.1,e2.2.trk hm x.hidM⟩
   | obj C O=>
    obtain ⟨G,e1,e2⟩:=q;exact ⟨G,e1,e2.1,e2.2.trk hm x.hidM⟩
  ·rw [D6 (by rw [R.len]; omega)] at h1;rw [D6 (by omega)] at h2;have Z:i - j.length=0:=by
    rcases iR (i - j.length) with z | z
    ·exact z
    ·rw [eT (by simp; omega)] at h2; cases h2
   rw [R.len,Z] at h1;rw [Z] at h2;simp at h1 h2;subst h1; subst h2;exact ⟨vs,ha,r.trk hm x.hidM⟩
 ·show (ρ.tr ++ [a])[j.length]?=zo a;rw [<- R.len,D6 (O4 _),cB]; rfl
end
section
variable {X:Cx} {E:XK} {pos:Pos} {e:aH} {m:ML}
theorem Yh (h:SimN X E e m):SimE X E e (Wk m):=⟨fun Γ σ H ρ st Q R G j=>h.run Γ σ H ρ st _ Q R G j.bind fun ps O H1 ρ1 a vs eq x U hm J z r=>by
 obtain ⟨x2,R2,q⟩:=Qdp R x U hm J z r;unfold Wk at j;rw [eq] at j;exact j _ _ x2 R2 _ q⟩
theorem Q2v (h:SimN X E e m):SimE X E e (Q88 m):=⟨fun Γ σ H ρ st Q R G j=>h.run Γ σ H ρ st _ Q R G j.bind fun ps O H1 ρ1 a vs eq x U hm J z r=>by
 obtain ⟨x2,R2,q⟩:=Qn5 R x U hm J z r;unfold Q88 at j;rw [eq] at j;exact j _ _ x2 R2 _ q⟩
variable {es:List aH} {mr:Gam->Q2->Res (List PV)} {a b:aH} {ma mb:ME}
theorem Qca {H1:Hp} {ρ1:Tk} {j:Q2} {H:Hp} {ρ:Tk} {Q:VK} {ps:List PV} {vs:List V} (x:Ext H ρ H1 ρ1) (z:Rel H1 ρ1 j) (r:RepL H1 ρ1 ps vs)
  (k:∀ H1 ρ1 a vs,Ext H ρ H1 ρ1->Rel H1 ρ1 j->a∈ρ1.hid->H a=zb->H1 a=zo (.lst vs)->RepL H1 ρ1 ps vs->Q (.ref a) H1):∀ p,H1 p=zb->Q (.ref p) (upd H1 p (.lst vs)):=fun p hp=>by
 refine k _ (ρ1.hide p) p vs (x.trans (Ext.hide hp)) (z.hide hp) F4 ?_ Qp (r.hide hp);cases e:H p with
 | none=>rfl
 | some o=>
  obtain ⟨o',q⟩:=x.old p o e;rw [hp] at q; cases q
def Q68 (mr:Gam->Q2->Res (List PV)):ML:=fun Γ st=>(mr Γ st).bind fun ps st1=>if ps.length<=lim then .ok ps st1 else .stuck
theorem Qbk (h:SimA X E es mr):SimN X E (.List es pos) (Q68 mr):=
 ⟨fun Γ σ H ρ st P Q R G U k=>WE.of (Qc2 Q3t) (h.use' R G U.bind fun ps q H1 ρ1 vs eq x1 Y Z J h1=>by
  by_cases z:ps.length<=lim
  ·refine ⟨by rw [<- J.length]; exact V0 z,Qca x1 Y J fun H2 j a O=>k ps q H2 j a O ?_⟩;unfold Q68;rw [eq];exact bS z
  ·rw [bT z] at h1; exact h1.elim)⟩
def Q8a (ma:ME):ML:=fun Γ st=>(ma Γ st).bind fun p st1=>match Wq st1 p with
 | some xs=>.ok xs st1
 | none=>.stuck
theorem Qm0 {p:Pos} (Y:SimE X E a ma) (hg:Gl X "list") (hm:X.mg "list" = zb) (O:aN [a] X.env=(yl,aP a X.env) :: aN [] X.env:=by rfl):SimN X E (.Call (.Name "list" p) [a] [] pos) (Q8a ma):=
 ⟨fun Γ σ H ρ st P Q R G hq k=>WE.of (jw Q0a hg hm Us (Qt Zb Js O) (by decide) (by decide) O rfl) (Y.use' R G hq.bind fun q j H1 ρ1 v eq x1 U G1 r1 h1=>by
  split at h1
  ·rename_i xs e;obtain ⟨t,b,vs,rfl,J,ra⟩:=zy (K:=X.K) U r1 e;refine ⟨b,vs,rfl,Qbj J,Qca x1 U ra fun H2 z a Z=>k xs j H2 z a Z ?_⟩;unfold Q8a;rw [eq];show (match Wq j q with | some xs=>Res.ok xs j | none=>.stuck)=_;rw [e]
  ·exact h1.elim)⟩
end
end
def Ym (cap:List (Option Nat)) (Γ:Gam):Gam:=cap.map fun c=>c.bind fun j=>(Γ[j]?).join
theorem EnvR.cap {H:Hp} {ρ:Tk} {Γ:Gam} {σ:St} (h:EnvR H ρ Γ σ) (cap:List (Option Nat)):EnvR H ρ (Ym cap Γ) (Q09 cap σ):=by
 refine ⟨by unfold Ym Q09; rw [O3,O3],fun i p e=>?_⟩;unfold Ym at e;unfold Q09;rw [D2] at e ⊢;cases q:cap[i]? with
 | none=>rw [q] at e; cases e
 | some c=>
  rw [q] at e;cases c with
  | none=>cases e
  | some j=>
   have z:(Γ[j]?).join=zo p:=br e;cases r:Γ[j]? with
   | none=>rw [r] at z; cases z
   | some o=>
    rw [r] at z;have:o=zo p:=z;subst this;obtain ⟨v,e1,e2⟩:=h.2 j p r;exact ⟨v,by show zo ((σ[j]?).join)=zo (zo v); rw [e1]; rfl,e2⟩
def Q6x (cap:List (Option Nat)) (ga:GA):Prop:=∀ Γ p Γ1,ga p (Ym cap Γ)=zo Γ1->Γ1.length=(Ym cap Γ).length/\∀ (i:Nat) (q:PV),(Ym cap Γ)[i]?=zo (zo q)->Γ1[i]?=zo (zo q)
theorem Q6q {cap:List (Option Nat)} {i:Nat} (h:cap[i]?=zo zb) (Γ:Gam):(Ym cap Γ)[i]?=zo zb:=by
 unfold Ym;rw [D2,h]; rfl
theorem Ja {cap:List (Option Nat)} {i:Nat} (h:cap[i]?=zo zb:=by rfl):Q6x cap (Qk i):=fun Γ p J e=>by
 cases e;refine ⟨F7 ..,fun j q G=>?_⟩;rw [F2 fun z=>?_]
 ·exact G
 ·subst z; rw [Q6q h] at G; cases G
def Qeq (cap:List (Option Nat)) (ga:GAs):Prop:=∀ Γ ps Γ0 Γ1,(∀ (i:Nat) (q:PV),(Ym cap Γ)[i]?=zo (zo q)->Γ0[i]?=zo (zo q))->ga ps Γ0=zo Γ1->Γ1.length=Γ0.length/\∀ (i:Nat) (q:PV),(Ym cap Γ)[i]?=zo (zo q)->Γ1[i]?=zo (zo q)
theorem Qjt {cap:List (Option Nat)}:Qeq cap Q4v:=fun Γ ps Γ0 j h e=>by
 cases ps with
 | nil=>cases e; exact ⟨rfl,h⟩
 | cons _ _=>cases e
theorem Q6j {cap:List (Option Nat)} {i:Nat} {gs:GAs} (hs:Qeq cap gs) (h:cap[i]?=zo zb:=by rfl):Qeq cap (V1 (Qk i) gs):=fun Γ ps Γ0 j h0 e=>by
 cases ps with
 | nil=>cases e
 | cons p ps=>
  obtain ⟨a,b⟩:=hs Γ ps (Γ0.set i (zo p)) j (fun k r q=>by
   rw [F2 fun z=>?_]
   ·exact h0 k r q
   ·subst z; rw [Q6q h] at q; cases q) e
  exact ⟨by rw [a,F7],b⟩
theorem Qjs {cap:List (Option Nat)} {gs:GAs} (hs:Qeq cap gs):Q6x cap (Q4u gs):=fun Γ p j e=>by
 cases p with
 | tup ps=>exact hs Γ ps _ j (fun _ _ h=>h) e
 | _=>cases e
open Classical in
def Zc (ga:GA) (mt:MT) (me:ME) (w:Wt) (Γ0:Gam):List PV->Q2->Res (List PV)
 | [],st=>if wOk w st then .ok [] st else .stuck
 | x :: xs,st=>if wOk w st then (match ga x Γ0 with
  | none=>.stuck
  | some Γ1=>(mt Γ1 st).bind fun b st1=>if b=yo then (me Γ1 st1).bind fun y st2=>(Zc ga mt me w Γ0 xs st2).bind fun ys st3=>.ok (y :: ys) st3 else Zc ga mt me w Γ0 xs st1) else .stuck
def noX {α:Type}:Res α->Res α
 | .exc _ _=>.stuck
 | r=>r
def Jv (cap:List (Option Nat)) (ga:GA) (mi:MI) (mt:MT) (me:ME):ML:=fun Γ st=>(mi Γ st).bind fun iw st1=>noX (Zc ga mt me iw.2 (Ym cap Γ) iw.1 st1)
structure SimTs (X:Cx) (ifs:List aH) (m:MT):Prop where
 run:∀ (Γ:Gam) (σ:St) (H:Hp) (ρ:Tk) (st:Q2) (P:Bool->Q2->Hp->Tk->Prop) (Q:Bool->Hp->Prop),Rel H ρ st->EnvR H ρ Γ σ->Acc X.mg E0 H ρ P (m Γ st) ->
  (∀ b st1 H1 ρ1,m Γ st=.ok b st1->Ext H ρ H1 ρ1->Rel H1 ρ1 st1->EnvR H1 ρ1 Γ σ->Q b H1)->∃ t,PTs X ifs t/\t σ H Q
def Zv:MT:=fun _ st=>.ok yo st
theorem Zn {X:Cx}:SimTs X [] Zv:=⟨fun Γ σ H ρ st P Q R G h k=>⟨_,Qmp,k yo st H ρ rfl (Ext.refl _ _) R G⟩⟩
theorem yy {X:Cx} {c:aH} {m:MT} (J:SimT X E0 c m):SimTs X [c] m:=⟨fun Γ σ H ρ st P Q R G h k=>⟨_,Qmn Qby,J.use' R G h fun b j H1 ρ1 e x1 z q p=>k b j H1 ρ1 e x1 z q⟩⟩
theorem Qps {α:Type} {mg:Str->Option aA} {E E':XK} {H:Hp} {ρ:Tk} {P:α->Q2->Hp->Tk->Prop} {r:Res α} (h:Acc mg E H ρ P (noX r)):Acc mg E' H ρ P r:=by
 cases r with
 | ok a st=>exact h
 | exc x st=>exact h.elim
 | stuck=>exact h
theorem Res.assoc {α β j:Type} (r:Res α) (f:α->Q2->Res β) (g:β->Q2->Res j):(r.bind f).bind g=r.bind fun a st=>(f a st).bind g:=by cases r <;> rfl
theorem Acc.assoc {α β j:Type} {mg:Str->Option aA} {E:XK} {H:Hp} {ρ:Tk} {P:j->Q2->Hp->Tk->Prop} {r:Res α} {f:α->Q2->Res β} {g:β->Q2->Res j} (h:Acc mg E H ρ P ((r.bind f).bind g)):Acc mg E H ρ P (r.bind fun a st=>(f a st).bind g):=by
 rw [<- Res.assoc]; exact h
theorem EnvR.le {H:Hp} {ρ:Tk} {Γ j:Gam} {σ:St} (h:EnvR H ρ j σ) (z:Γ.length=σ.length) (k:∀ (i:Nat) (q:PV),Γ[i]?=zo (zo q)->j[i]?=zo (zo q)):EnvR H ρ Γ σ:=⟨z,fun i p e=>h.2 i p (k i p e)⟩
section
variable {X:Cx} {E:XK} {pos:Pos} {tg iter elt:aH} {ifs:List aH} {N N':List Str} {sc scE:Scope} {cap:List (Option Nat)} {ga:GA} {mi:MI} {mt:MT} {me:ME}
def aE (X:Cx) (N':List Str) (sc:Scope) (e:aH):TE:=fun σ H Q=>∀ cl C s0 H0 ex,WE (Wg X N' sc cl C s0 H0 ex) e σ H Q
def aG (X:Cx) (N':List Str) (sc:Scope) (tg:aH):TG:=fun v σ H Q=>∀ cl C s0 H0 ex,WGx (Wg X N' sc cl C s0 H0 ex) tg v σ H Q
def aT (X:Cx) (N':List Str) (sc:Scope) (ifs:List aH):TT:=fun σ H Q=>∀ cl C s0 H0 ex,∃ t,PTs (Wg X N' sc cl C s0 H0 ex) ifs t/\t σ H Q
theorem Qgj {Γ:Gam} {σ:St} {H1:Hp} {ρ1:Tk} {U:Q2} {J:It} {j:List PV} {w:Wt} {Q:VK} {P:List PV->Q2->Hp->Tk->Prop} (hg:∀ cl C s0 H0 ex,SimG (Wg X N' sc cl C s0 H0 ex) tg ga) (he:∀ cl C s0 H0 ex,SimE (Wg X N' sc cl C s0 H0 ex) E0 elt me) (ht:∀ cl C s0 H0 ex,SimTs (Wg X N' sc cl C s0 H0 ex) ifs mt)
  (hf:Q6x cap ga) (R1:Rel H1 ρ1 U) (G1:EnvR H1 ρ1 Γ σ) (a7:Src J j w H1 ρ1) (c5:j.length<=sizeLine) (h:Acc X.mg E0 H1 ρ1 P (Zc ga mt me w (Ym cap Γ) j U))
  (k:∀ ys b5 H2 a6 acc vs,Zc ga mt me w (Ym cap Γ) j U=.ok ys b5->Ext H1 ρ1 H2 a6->Rel H2 a6 b5->acc∈a6.hid->H1 acc=zb->H2 acc=zo (.lst vs)->RepL H2 a6 ys vs->Q (.ref acc) H2):Q6n J cap (aG X N' sc tg) (aT X N' sc ifs) (aE X N' sc elt) σ H1 Q:=by
 intro acc G;let W:Nat->Nat->List V->St->Hp->Prop:=fun i m vs b2 H'=>m=j.length - i/\i<=j.length/\vs.length<=i/\∃ ρ' st' ys,Ext H1 ρ1 H' ρ'/\acc∈ρ'.hid/\Rel H' ρ' st'/\EnvR H' ρ' (Ym cap Γ) b2/\H' acc=zo (.lst vs)/\RepL H' ρ' ys vs /\
  Zc ga mt me w (Ym cap Γ) j U=(Zc ga mt me w (Ym cap Γ) (j.drop i) st').bind fun zs a3=>.ok (ys ++ zs) a3
 refine ⟨W,⟨_,rfl,G9 _,O4 _,ρ1.hide acc,U,[],Ext.hide G,F4,R1.hide G,(G1.cap cap).hide G,Qp,rfl,?_⟩,?_⟩
 ·rw [eY];cases r:Zc ga mt me w (Ym cap Γ) j U with
  | ok zs a3=>rfl
  | exc x a3=>rfl
  | stuck=>rfl
 rintro i m vs b2 H' ⟨hm,hi,c6,ρ',st',ys,x,a2,R',G',ha,ry,O⟩;have q:Acc X.mg E0 H1 ρ1 P ((Zc ga mt me w (Ym cap Γ) (j.drop i) st').bind fun zs a3=>.ok (ys ++ zs) a3):=by rw [<- O]; exact h
 refine ⟨ha,?_⟩
 by_cases Y:i < j.length
 ·right
  have hd:j.drop i=j[i] :: j.drop (i + 1):=iU Y;rw [hd,Zc] at q O
  by_cases hw:wOk w st'
  ·rw [bS hw] at q O;refine ⟨a7.go H' _ st' x R' hw i Y,by omega,fun y H2 hy=>?_⟩;obtain ⟨sm,b9⟩:=a7.yld H' _ st' x R' hw i _ (O0 Y) y H2 hy;cases eg:ga j[i] (Ym cap Γ) with
   | none=>rw [eg] at q; exact q.elim
   | some Z=>
    rw [eg] at q O;have x2:Ext H' ρ' H2 ρ':=Ext.same sm;have R2:=R'.same sm;intro cl C s0 H0 ex;refine (hg cl C s0 H0 ex).run (Ym cap Γ) Z b2 H2 ρ' _ y _ (G'.ext x2) b9 eg fun b3 G3=>?_
    intro cl C s0 H0 ex;have c0:=Acc.later q (x.trans x2);refine (ht cl C s0 H0 ex).run Z b3 H2 ρ' st' _ _ R2 G3 (Acc.bind (Acc.assoc c0)) fun b c1 H4 a5 e4 x4 R4 G4=>?_
    simp only [e4,Res.bind] at q O;have G0:∀ {a8:Hp} {a1:Tk},EnvR a8 a1 Z b3->EnvR a8 a1 (Ym cap Γ) b3:=fun {a8 a1} g=>g.le (by
     rw [<- G3.1];exact (hf Γ _ Z eg).1.symm) (hf Γ _ Z eg).2
    have a9:Ext H1 ρ1 H4 a5:=x.trans (x2.trans x4);have b0:acc∈a5.hid:=x4.hidM acc a2;have na:acc∉ρ'.tr:=R'.ap acc a2;have b7:H4 acc=zo (.lst vs):=x4.keep acc _ (sm acc _ ha) na;have b6:RepL H4 a5 ys vs:=ry.ext (x2.trans x4);cases b with
    | false=>
     rw [bT O7] at q O ⊢;exact ⟨_,show j.length - (i + 1) < m by omega,rfl,Y,by omega,a5,c1,ys,a9,b0,R4,G0 G4,b7,b6,O⟩
    | true=>
     rw [bS rfl] at q O ⊢;intro cl C s0 H0 ex;have c2:=Acc.later q a9;refine (he cl C s0 H0 ex).use' R4 G4 (Acc.bind (Acc.assoc c2)) fun z b8 H5 b1 zv e5 x5 R5 G5 r5 h5=>?_
     simp only [e5,Res.bind] at q O;have a4:acc∈b1.hid:=x5.hidM acc b0;have c3:H5 acc=zo (.lst vs):=x5.keep acc _ b7 (R4.ap acc b0);have c4:Ext H1 ρ1 H5 b1:=a9.trans x5;refine ⟨c3,_,show j.length - (i + 1) < m by omega,rfl,Y,by rw [D4]; simp; omega,b1,b8,ys ++ [z],c4.put0 G,a4,R5.rehide a4,(G0 G5).rehide a4,Qp,((b6.ext x5).append (RepL.cons r5 RepL.nil)).rehide a4,?_⟩;refine O.trans ?_;cases rr:Zc ga mt me w (Ym cap Γ) (j.drop (i + 1)) b8 with
     | ok zs b4=>
      show Res.ok (ys ++ z :: zs) b4=Res.ok ((ys ++ [z]) ++ zs) b4;rw [da]; rfl
     | exc x6 b4=>rfl
     | stuck=>rfl
  ·rw [bT hw] at q; exact q.elim
 ·left
  have ei:i=j.length:=by omega
  subst ei;rw [fb,Zc] at q O
  by_cases hw:wOk w st'
  ·rw [bS hw] at q O;refine ⟨a7.stop H' _ st' x R' hw,?_⟩;have O:Zc ga mt me w (Ym cap Γ) j U=.ok (ys ++ []) st':=O;rw [cO] at O;exact k ys st' H' ρ' acc vs O x R' a2 G ha ry
  ·rw [bT hw] at q; exact q.elim
theorem Qav {Γ:Gam} {σ:St} {H:Hp} {ρ:Tk} {st:Q2} {Q:VK} {P:List PV->Q2->Hp->Tk->Prop} (hi:SimI X E tg iter mi) (hg:∀ cl C z H0 ex,SimG (Wg X N' sc cl C z H0 ex) tg ga) (he:∀ cl C z H0 ex,SimE (Wg X N' sc cl C z H0 ex) E0 elt me) (ht:∀ cl C z H0 ex,SimTs (Wg X N' sc cl C z H0 ex) ifs mt)
  (hf:Q6x cap ga) (R:Rel H ρ st) (G:EnvR H ρ Γ σ) (h:Acc X.mg E H ρ P (Jv cap ga mi mt me Γ st)) (k:∀ ps q H2 j a vs,Jv cap ga mi mt me Γ st=.ok ps q->Ext H ρ H2 j->Rel H2 j q->a∈j.hid->H a=zb->H2 a=zo (.lst vs)->RepL H2 j ps vs->Q (.ref a) H2):Q70 cap (WI X tg iter) (aG X N' sc tg) (aT X N' sc ifs) (aE X N' sc elt) σ H Q:=by
 refine hi.run Γ σ H ρ st _ _ R G h.bind fun iw a1 H1 ρ1 J eq x1 R1 G1 ok hl O h1=>?_
 refine Qgj hg he ht hf R1 G1 O hl (Qps (E':=E0) h1) fun ys q H2 j acc vs U x2 R2 hm hn Z ry=>?_
 refine k ys q H2 j acc vs ?_ (x1.trans x2) R2 hm ?_ Z ry
 ·unfold Jv;rw [eq];show noX _=_;rw [U]; rfl
 cases e:H acc with
 | none=>rfl
 | some o=>
  obtain ⟨o',Y⟩:=x1.old acc o e;rw [hn] at Y; cases Y
theorem Qu2 {N':List Str} {sc:Scope} {tg:aH}:∀ cl C j H0 ex,PG (Wg X N' sc cl C j H0 ex) tg (aG X N' sc tg):=fun cl C j H0 ex pins s σ H v u Q I r h=>Qn0 pins s σ H v u Q I r (h cl C j H0 ex)
theorem Qu5 {N':List Str} {sc:Scope} {e:aH}:∀ cl C j H0 ex,PE (Wg X N' sc cl C j H0 ex) e (aE X N' sc e):=fun cl C j H0 ex pins s σ H Q I h=>h cl C j H0 ex pins s I
theorem Qq2 {N':List Str} {sc:Scope} {ifs:List aH}:∀ cl C j H0 ex,PTs (Wg X N' sc cl C j H0 ex) ifs (aT X N' sc ifs):=fun cl C j H0 ex pins s σ H Q I h=>by
 obtain ⟨t,a,b⟩:=h cl C j H0 ex;exact a pins s σ H Q I b
theorem Zj (cap:List (Option Nat)) (N':List Str) (j:X.calm=yo) (hi:SimI X E tg iter mi) (z:∀ cl C q H0 ex,SimG (Wg X N' sc cl C q H0 ex) tg ga) (O:∀ cl C q H0 ex,SimE (Wg X N' sc cl C q H0 ex) E0 elt me) (Z:∀ cl C q H0 ex,SimTs (Wg X N' sc cl C q H0 ex) ifs mt)
  (Y:Q6x cap ga) (U:X.N=N:=by rfl) (J:X.env.scope=scE:=by rfl) (hc:compOkC N N' sc scE cap=yo:=by kernel_rfl) (hs:∀ x,bE iter X.env x=pure x:=by intro _; rfl) :
  SimN X E (.ListComp elt [⟨tg,iter,ifs,0⟩] sc pos) (Jv cap ga mi mt me):=
 ⟨fun Γ σ H ρ st P Q R G h k=>WE.of (Qib j Qr0 Qu2 Qu5 Qq2 U J hc hs) (Qav hi z O Z Y R G h k)⟩
end
inductive SR where
 | nx (Γ:Gam) (st:Q2) | rt (v:PV) (st:Q2) | bk (Γ:Gam) (st:Q2) | ct (Γ:Gam) (st:Q2) | exc (x:Exc) (st:Q2) | stuck
abbrev MS:=Gam->Q2->SR
def Res.sbind {α:Type} (r:Res α) (f:α->Q2->SR):SR:=match r with
 | .ok a st=>f a st
 | .exc x st=>.exc x st
 | .stuck=>.stuck
def AccS (mg:Str->Option aA) (E:XK) (D:Ends) (H:Hp) (ρ:Tk):SR->Prop
 | .nx Γ st=>∀ σ' H' ρ',Ext H ρ H' ρ'->Rel H' ρ' st->EnvR H' ρ' Γ σ'->D.nx σ' H'
 | .bk Γ st=>∀ σ' H' ρ',Ext H ρ H' ρ'->Rel H' ρ' st->EnvR H' ρ' Γ σ'->D.bk σ' H'
 | .ct Γ st=>∀ σ' H' ρ',Ext H ρ H' ρ'->Rel H' ρ' st->EnvR H' ρ' Γ σ'->D.ct σ' H'
 | .rt p st=>∀ v H' ρ',Ext H ρ H' ρ'->Rel H' ρ' st->Rep H' ρ' p v->D.rt v H'
 | .exc x st=>∀ C dv H' ρ',mg x.cls=zo (.ref C)->Ext H ρ H' ρ'->Rel H' ρ' st->XFs H' ρ' x.fs dv->E (.ref C) dv H'
 | .stuck=>False
section
variable {α:Type} {mg:Str->Option aA} {E:XK} {D:Ends} {H H1:Hp} {ρ ρ1:Tk}
theorem AccS.later {r:SR} (h:AccS mg E D H ρ r) (x:Ext H ρ H1 ρ1):AccS mg E D H1 ρ1 r:=by
 cases r with
 | nx Γ st=>exact fun j H' ρ' q=>h j H' ρ' (x.trans q)
 | bk Γ st=>exact fun j H' ρ' q=>h j H' ρ' (x.trans q)
 | ct Γ st=>exact fun j H' ρ' q=>h j H' ρ' (x.trans q)
 | rt p st=>exact fun v H' ρ' q=>h v H' ρ' (x.trans q)
 | exc y st=>exact fun C z H' ρ' m q=>h C z H' ρ' m (x.trans q)
 | stuck=>exact h
theorem AccS.bind {r:Res α} {f:α->Q2->SR} (h:AccS mg E D H ρ (r.sbind f)):Acc mg E H ρ (fun a j H1 ρ1=>AccS mg E D H1 ρ1 (f a j)) r:=by
 cases r with
 | ok a st=>exact fun H' ρ' q z=>AccS.later (show AccS mg E D H ρ (f a st) from h) q
 | exc e st=>exact h
 | stuck=>exact h
end
theorem Res.sassoc {α β:Type} (r:Res α) (f:α->Q2->Res β) (g:β->Q2->SR):(r.bind f).sbind g=r.sbind fun a st=>(f a st).sbind g:=by cases r <;> rfl
theorem AccS.assoc {α β:Type} {mg:Str->Option aA} {E:XK} {D:Ends} {H:Hp} {ρ:Tk} {r:Res α} {f:α->Q2->Res β} {g:β->Q2->SR} (h:AccS mg E D H ρ ((r.bind f).sbind g)):AccS mg E D H ρ (r.sbind fun a st=>(f a st).sbind g):=by
 rw [<- Res.sassoc]; exact h
structure SimS (X:Cx) (E:XK) (s:aL) (m:MS):Prop where
 run:∀ (Γ:Gam) (σ:St) (H:Hp) (ρ:Tk) (st:Q2) (D:Ends),Rel H ρ st->EnvR H ρ Γ σ->AccS X.mg E D H ρ (m Γ st)->WS X s D σ H
structure SimB (X:Cx) (E:XK) (ss:List aL) (m:MS):Prop where
 run:∀ (Γ:Gam) (σ:St) (H:Hp) (ρ:Tk) (st:Q2) (D:Ends),Rel H ρ st->EnvR H ρ Γ σ->AccS X.mg E D H ρ (m Γ st)->WB X ss D σ H
section
variable {X:Cx} {E:XK} {pos:Pos} {e:aH} {m:ME}
def Jg:MS:=fun Γ st=>.nx Γ st
def Qi (m1 m2:MS):MS:=fun Γ st=>match m1 Γ st with
 | .nx Γ1 st1=>m2 Γ1 st1
 | r=>r
theorem J6:SimB X E [] Jg:=⟨fun Γ σ H ρ st D R G h=>WB.of Q7n (h σ H ρ (Ext.refl _ _) R G)⟩
theorem Q8 {s:aL} {rest:List aL} {m1 m2:MS} (h1:SimS X E s m1) (h2:SimB X E rest m2):SimB X E (s :: rest) (Qi m1 m2):=
 ⟨fun Γ σ H ρ st D R G h=>WB.of (j8 Qu0 Q62) (h1.run Γ σ H ρ st _ R G (by
  unfold Qi at h;cases r:m1 Γ st with
  | nx q j=>rw [r] at h; exact fun z H' ρ' J U O=>h2.run q z H' ρ' j D U O (AccS.later h J)
  | bk q j=>rw [r] at h; exact h
  | ct q j=>rw [r] at h; exact h
  | rt p j=>rw [r] at h; exact h
  | exc x j=>rw [r] at h; exact h
  | stuck=>rw [r] at h; exact h))⟩
theorem Qe {s:aL} {m1:MS} (h1:SimS X E s m1):SimB X E [s] m1:=⟨fun Γ σ H ρ st D R G h=>WB.of (xm Qu0) (h1.run Γ σ H ρ st D R G h)⟩
def Qcc:MS:=fun Γ st=>.bk Γ st
theorem Qh3:SimS X E (.Break pos) Qcc:=⟨fun Γ σ H ρ st D R G h=>WS.of Qi0 (h σ H ρ (Ext.refl _ _) R G)⟩
def X3 (m:ME):MS:=fun Γ st=>(m Γ st).sbind fun _ st1=>.nx Γ st1
theorem Vj (q:SimE X E e m) (hs:swapsWith e zb pos.line X.env=pure yl:=by rfl):SimS X E (.Expr e pos) (X3 m):=
 ⟨fun Γ σ H ρ st D R G h=>WS.of (Qmq Zb hs) (q.use R G h.bind fun p z H1 ρ1 v x1 J j O h1=>h1 σ H1 ρ1 (Ext.refl _ _) J j)⟩
def Je (m:ME):MS:=fun Γ st=>(m Γ st).sbind fun p st1=>.rt p st1
theorem Qq (j:SimE X E e m):SimS X E (.Return (zo e) pos) (Je m):=
 ⟨fun Γ σ H ρ st D R G h=>WS.of (Q7q Zb) (j.use R G h.bind fun p z H1 ρ1 v x1 J O q h1=>h1 v H1 ρ1 (Ext.refl _ _) J q)⟩
def Ju (i:Nat) (m:ME):MS:=fun Γ st=>(m Γ st).sbind fun p st1=>.nx (Γ.set i (zo p)) st1
theorem J5 (i:Nat) {x:Str} {pos':Pos} (J:X.N.Nodup) (z:SimE X E e m) (hi:X.N[i]?=zo x:=by rfl) (O:Loc X.env.scope x:=by first | exact Or.inl rfl | exact Or.inr rfl) (hs:swapsWith e (zo (.Name x pos')) pos.line X.env=pure yl:=by rfl) (Y:X.fn x=yo\/X.env.scope.names.lookup x=zo .local:=by first | exact .inl rfl | exact .inr rfl) :
  SimS X E (.Assign [.Name x pos'] e pos) (Ju i m):=
 ⟨fun Γ σ H ρ st D R G h=>WS.of (Q7p J hi O Zb hs Y) (z.use R G h.bind fun p q H1 ρ1 v x1 Z j U h1=>h1 _ H1 ρ1 (Ext.refl _ _) Z (j.set U i))⟩
section
variable {tg iter elt:aH} {ifs:List aH} {N N':List Str} {sc scE:Scope} {ga:GA} {mi:MI} {mt:MT} {me:ME}
theorem yz (cap:List (Option Nat)) (N':List Str) (i:Nat) {x:Str} {px cpos:Pos} (O:X.N.Nodup) (j:X.calm=yo) (hi:SimI X E tg iter mi) (hg:∀ cl C q H0 ex,SimG (Wg X N' sc cl C q H0 ex) tg ga) (he:∀ cl C q H0 ex,SimE (Wg X N' sc cl C q H0 ex) E0 elt me) (ht:∀ cl C q H0 ex,SimTs (Wg X N' sc cl C q H0 ex) ifs mt)
  (hf:Q6x cap ga) (J:X.N[i]?=zo x:=by rfl) (hx:Loc X.env.scope x:=by first | exact Or.inl rfl | exact Or.inr rfl) (U:swapsWith (.ListComp elt [⟨tg,iter,ifs,0⟩] sc cpos) (zo (.Name x px)) pos.line X.env=pure yo:=by rfl)
  (hN:X.N=N:=by rfl) (hE:X.env.scope=scE:=by rfl) (hc:compOkC N N' sc scE cap=yo:=by kernel_rfl) (hs:∀ x,bE iter X.env x=pure x:=by intro _; rfl) (z:X.fn x=yo\/X.env.scope.names.lookup x=zo .local:=by first | exact .inl rfl | exact .inr rfl) :
  SimS X E (.Assign [.Name x px] (.ListComp elt [⟨tg,iter,ifs,0⟩] sc cpos) pos) (Ju i (Wk (Jv cap ga mi mt me))):=
 ⟨fun Γ σ H ρ st D R G h=>WS.of (Qhz O J hx j Qr0 Qu2 Qu5 Qq2 U hN hE hc hs z) (Qav hi hg he ht hf R G (AccS.bind (by unfold Ju Wk at h; exact AccS.assoc h)) fun ps a1 H1 ρ1 a vs eq x R1 hm Z Y r=>by
  obtain ⟨x2,R2,r2⟩:=Qdp R x R1 hm Z Y r;simp only [Ju,Wk,eq,Res.bind,Res.sbind] at h;exact h _ _ _ x2 R2 ((G.ext x2).set r2 i))⟩
end
def Qj1 (ga:GA) (m:ME):MS:=fun Γ st=>(m Γ st).sbind fun p st1=>match ga p Γ with
 | some Γ1=>.nx Γ1 st1
 | none=>.stuck
theorem Qh4 {tg:aH} {ga:GA} (U:SimE X E e m) (J:SimG X tg ga) (hs:swapsWithSole [tg] e pos.line X.env=pure yl:=by rfl) (Z:swappedStores [tg] e X.env=pure zb:=by rfl) (h1:(aw [tg] X.env).map (·.2)=[assign tg X.env]:=by rfl):SimS X E (.Assign [tg] e pos) (Qj1 ga m):=
 ⟨fun Γ σ H ρ st D R G h=>WS.of (Qi1 Zb Qn0 hs Z h1) (U.use R G h.bind fun p a1 H1 ρ1 v x1 R1 O r1 h1=>by
  cases q:ga p Γ with
  | none=>rw [q] at h1; exact h1.elim
  | some j=>
   rw [q] at h1;exact J.run Γ j σ H1 ρ1 p v _ O r1 q fun z Y=>h1 z H1 ρ1 (Ext.refl _ _) R1 Y)⟩
def qb (st:Q2) (o i p:PV):Option Q2:=match o,i with
 | .ref k,.int j=>match st[k]? with
  | some (.lst xs)=>(ixN xs.length j).map fun n=>st.set k (.lst (xs.set n p))
  | _=>zb
 | _,_=>zb
def Kt (mo mi m:ME):MS:=fun Γ st=>(m Γ st).sbind fun p st1=>(mo Γ st1).sbind fun o st2=>(mi Γ st2).sbind fun i st3=>match qb st3 o i p with
 | some st4=>.nx Γ st4
 | none=>.stuck
theorem Qm3 {H:Hp} {ρ:Tk} {st st':Q2} {o i p:PV} {x y z:V} (R:Rel H ρ st) (ro:Rep H ρ o x) (Y:Rep H ρ i y) (Z:Rep H ρ p z) (e:qb st o i p=zo st') :
  ∃ a vs k j,x=.ref a/\y=.int k/\H a=zo (.lst vs)/\ixN vs.length k=zo j/\Ext H ρ (upd H a (.lst (vs.set j z))) ρ/\Rel (upd H a (.lst (vs.set j z))) ρ st':=by
 unfold qb at e
 split at e
 ·rename_i k j
  split at e
  ·rename_i xs hs;cases J:ixN xs.length j with
   | none=>rw [J] at e; cases e
   | some n=>
    rw [J] at e;have e:st.set k (.lst (xs.set n p))=st':=br e;subst e;obtain ⟨a,G,rfl⟩:=ro;cases Y;obtain ⟨b,vs,U,q,O⟩:=R.lst hs;rw [G] at U; cases U;exact ⟨a,vs,j,n,rfl,rfl,q,by rw [<- O.length]; exact J,Ext.put (D9 G) q,R.put G q (O.set Z n)⟩
  ·cases e
 ·cases e
theorem Q72 {o i:aH} {mo mi:ME} {tpos:Pos} (he:SimE X E e m) (ho:SimE X E o mo) (hi:SimE X E i mi)
  (ha:∀ v,assign (.Subscript o i tpos) X.env v=(do
   let q <- au [v] (aP o X.env)
   let J <- au [v,q] (aP i X.env)
   standAt tpos
   au [v,q,J] (setItem q J v)
   release [v,q,J] []):=by intro _; rfl)
  (hs:swapsWithSole [.Subscript o i tpos] e pos.line X.env=pure yl:=by rfl) (hw:swappedStores [.Subscript o i tpos] e X.env=pure zb:=by rfl) (h1:(aw [.Subscript o i tpos] X.env).map (·.2)=[assign (.Subscript o i tpos) X.env]:=by rfl) :
  SimS X E (.Assign [.Subscript o i tpos] e pos) (Kt mo mi m):=
 ⟨fun Γ σ H ρ st D R G h=>WS.of (Qi1 Zb (Qr4 Zb Zb Qh8 ha) hs hw h1) (he.use R G h.bind fun p a4 H1 ρ1 z x1 R1 G1 r1 h1=>ho.use R1 G1 h1.bind fun q a1 H2 a3 x x2 R2 G2 r2 h2=>hi.use R2 G2 h2.bind fun J Y H3 U y Z R3 G3 r3 O=>by
  cases es:qb Y q J p with
  | none=>rw [es] at O; exact O.elim
  | some a2=>
   rw [es] at O;obtain ⟨a,vs,k,j,rfl,rfl,f1,f2,x4,R4⟩:=Qm3 R3 (r2.ext Z) r3 (r1.ext (x2.trans Z)) es;exact ⟨a,vs,k,j,rfl,rfl,f1,f2,O σ _ U x4 R4 (G3.ext x4)⟩)⟩
def Z9 (mt:MT) (ma mb:MS):MS:=fun Γ st=>(mt Γ st).sbind fun b st1=>if b=yo then ma Γ st1 else mb Γ st1
theorem Jk {c:aH} {a b:List aL} {mt:MT} {ma mb:MS} (U:SimT X E c mt) (J:SimB X E a ma) (O:SimB X E b mb):SimS X E (.If c a b pos) (Z9 mt ma mb):=
 ⟨fun Γ σ H ρ st D R G h=>WS.of (Qhy Qby Q62 Q62) (U.use R G h.bind fun k j H1 ρ1 x1 z q h1=>by
  cases k with
  | true=>rw [bS rfl] at h1 ⊢; exact J.run Γ σ H1 ρ1 j D z q h1
  | false=>rw [bT O7] at h1 ⊢; exact O.run Γ σ H1 ρ1 j D z q h1)⟩
open Classical in
def Wm (ga:GA) (body:MS) (w:Wt):List PV->Gam->Q2->SR
 | [],Γ,st=>if wOk w st then .nx Γ st else .stuck
 | x :: xs,Γ,st=>if wOk w st then (match ga x Γ with
  | none=>.stuck
  | some Γ1=>match body Γ1 st with
   | .nx Γ2 st2=>Wm ga body w xs Γ2 st2
   | .ct Γ2 st2=>Wm ga body w xs Γ2 st2
   | .bk Γ2 st2=>.nx Γ2 st2
   | .rt v st2=>.rt v st2
   | .exc x st2=>.exc x st2
   | .stuck=>.stuck) else .stuck
def ze (ga:GA) (mi:MI) (body:MS):MS:=fun Γ st=>(mi Γ st).sbind fun iw st1=>Wm ga body iw.2 iw.1 Γ st1
theorem V9 {tg iter:aH} {bd:List aL} {ga:GA} {mi:MI} {body:MS} (hp:PassesOwn (aI X.prog X.w) X.A X.env X.xe) (hc:X.calm=yo) (hi:SimI X E tg iter mi) (hg:SimG X tg ga) (hb:SimB X E bd body)
  (hs:∀ x,bE iter X.env x=pure x:=by intro _; rfl):SimS X E (.For tg iter bd [] pos) (ze ga mi body):=
 ⟨fun Γ σ H ρ st D R G h=>WS.of (Qqz hp hc Qr0 Qn0 Q62 hs) (hi.run Γ σ H ρ st _ _ R G h.bind fun O a8 H1 ρ1 J eq x1 R1 G1 ok hl a6 h1=>by
  let W:Nat->Nat->St->Hp->Prop:=fun i m Y H'=>m=O.1.length - i/\i<=O.1.length/\∃ a2 ρ' st',Ext H1 ρ1 H' ρ'/\Rel H' ρ' st'/\EnvR H' ρ' a2 Y/\AccS X.mg E D H' ρ' (Wm ga body O.2 (O.1.drop i) a2 st')
  refine ⟨W,⟨_,rfl,G9 _,Γ,ρ1,a8,Ext.refl _ _,R1,G1,by rw [eY]; exact h1⟩,?_⟩;rintro i m Y H' ⟨hm,b0,a2,ρ',st',x,R',G',Z⟩
  by_cases a3:i < O.1.length
  ·right
   have hd:O.1.drop i=O.1[i] :: O.1.drop (i + 1):=iU a3;rw [hd,Wm] at Z
   by_cases hw:wOk O.2 st'
   ·rw [bS hw] at Z;refine ⟨a6.go H' ρ' st' x R' hw i a3,fun a7 H2=>W (i + 1) (O.1.length - (i + 1)) a7 H2,fun a7 H2 z=>⟨_,by omega,z⟩,fun y H2 hy=>?_⟩
    obtain ⟨sm,ry⟩:=a6.yld H' ρ' st' x R' hw i _ (O0 a3) y H2 hy;have x2:Ext H' ρ' H2 ρ':=Ext.same sm;cases eg:ga O.1[i] a2 with
    | none=>rw [eg] at Z; exact Z.elim
    | some a5=>
     rw [eg] at Z;refine hg.run a2 a5 Y H2 ρ' _ y _ (G'.ext x2) ry eg fun a9 G3=>?_
     have j:=AccS.later Z x2;simp only at j;refine hb.run a5 a9 H2 ρ' st' _ (R'.same sm) G3 ?_;have again:∀ {U:Gam} {q:Q2},AccS X.mg E D H2 ρ' (Wm ga body O.2 (O.1.drop (i + 1)) U q)->∀ Y a4 a1,Ext H2 ρ' a4 a1->Rel a4 a1 q->EnvR a4 a1 U Y->W (i + 1) (O.1.length - (i + 1)) Y a4:=fun {U q} a σ4 H4 ρ4 x4 R4 G4=>
      ⟨rfl,a3,U,ρ4,q,x.trans (x2.trans x4),R4,G4,AccS.later a x4⟩
     cases rb:body a5 st' with
     | nx U q=>rw [rb] at j; exact again j
     | ct U q=>rw [rb] at j; exact again j
     | bk U q=>rw [rb] at j; exact j
     | rt v q=>rw [rb] at j; exact j
     | exc y q=>rw [rb] at j; exact j
     | stuck=>rw [rb] at j; exact j.elim
   ·rw [bT hw] at Z; exact Z.elim
  ·left
   have ei:i=O.1.length:=by omega
   subst ei;rw [fb,Wm] at Z
   by_cases hw:wOk O.2 st'
   ·rw [bS hw] at Z;exact ⟨a6.stop H' ρ' st' x R' hw,Z Y H' ρ' (Ext.refl _ _) R' G'⟩
   ·rw [bT hw] at Z; exact Z.elim)⟩
def Q4c (x:Str) (m:ME):MS:=fun Γ st=>(m Γ st).sbind fun _ st1=>.exc ⟨x,zb⟩ st1
theorem Q2q {x:Str} {C:aB} {np cpos:Pos} (j:X.calm=yo) (Z:Qd3 X E) (O:Gl X x) (hm:X.mg x=zo (.ref C)) (q:cE X.K C Q55 "ValueError.__new__" = yo) (U:SimE X E e m)
  (J:(x == ("__debug__" : Str))=yl:=by decide) (z:aN [e] X.env=[(yl,aP e X.env)]:=by rfl):SimS X E (.Raise (zo (.Call (.Name x np) [e] [] cpos)) zb pos) (Q4c x m):=
 ⟨fun Γ σ H ρ st D R G h=>WS.of (Qfc j Z O hm q (Qt Zb Js (by rw [z]; rfl)) J z) (U.use R G h.bind fun p Y H1 ρ1 v x1 R1 G1 r1 h1=>⟨E3 (show 1<=lim by decide) Q8f,h1 C zb H1 ρ1 hm (Ext.refl _ _) R1 rfl⟩)⟩
end
def WM (X:Cx) (id:String):V->List V->Hp->VK->Prop:=fun x xs H Q=>∀ (pins:List (aB × Obj)) (s:aC) (σ:St) (v:aA) (us:List aA),Inv X pins σ H s->RelV x v->Vals xs us->aF (aI X.prog X.w) X.A (call (.builtin id) (v :: us)) (EP X pins σ Q) X.xe s
theorem Qxj {X:Cx} {id:String}:MtR X id (WM X id):=fun pins s σ _ _ _ v j _ I r rs h=>h pins s σ v j I r rs
theorem WM.of {X:Cx} {id:String} {r:V->List V->Hp->VK->Prop} {x:V} {xs:List V} {H:Hp} {Q:VK} (h:MtR X id r) (q:r x xs H Q):WM X id x xs H Q:=fun pins s σ v z I G j=>h pins s σ H x xs v z Q I G j q
abbrev MF:=Q2->PV->List PV->Res PV
structure MtS (X:Cx) (E:XK) (id:String) (o:MF):Prop where
 run:∀ (H:Hp) (ρ:Tk) (st:Q2) (p:PV) (ps:List PV) (x:V) (xs:List V) (Q:VK),Rel H ρ st->Rep H ρ p x->RepL H ρ ps xs->Acc X.mg E H ρ (QV Q) (o st p ps)->WM X id x xs H Q
section
variable {X:Cx} {E:XK} {o e:aH} {es:List aH} {mo:ME} {mr:Gam->Q2->Res (List PV)} {name:Str} {apos cpos:Pos} {T id:String} {f:MF}
def mBM (f:MF) (mo:ME) (mr:Gam->Q2->Res (List PV)):ME:=fun Γ st=>(mo Γ st).bind fun p st1=>match Wf st1 p with
 | some _=>(mr Γ st1).bind fun ps st2=>f st2 p ps
 | none=>.stuck
theorem Qtr (pa:PlainAttrs "list") (slot:Slot "list" name id) (U:typeOf (.builtin id)=pure (.type "method_descriptor")) (hm:MtS X E id f) (ho:SimE X E o mo) (ha:SimA X E (e :: es) mr)
  (z:bJ o name X.env (aP o X.env)=aP o X.env:=by rfl)
  (J:((aY cpos (aN (e :: es) X.env)).all (fun x=>!x.1) && (backToKw cpos (keywordEach [] X.env)).all (fun x=>x.1.isSome)
   && decide ((e :: es).length + ([]:List Keyword).length + (if ([]:List Keyword).isEmpty then 0 else 1) < 30))=yo:=by rfl)
  (q:(apos.endLine == cpos.line)=yo:=by rfl) (hs:aN (e :: es) X.env=(yl,aP e X.env) :: aN es X.env:=by rfl) (j:(aY cpos (aN es X.env)).any (·.1)=yl:=by rfl) :
  SimE X E (.Call (.Attribute o name apos) (e :: es) [] cpos) (mBM f mo mr):=
 ⟨fun Γ σ H ρ st Q R G h=>WE.of (Qdk pa slot U Qxj Zb Q3t z J q hs j) (ho.use R G h.bind fun p a1 H1 ρ1 v x1 R1 G1 Z h1=>by
  split at h1
  ·rename_i ys el;obtain ⟨a,vs,rfl,hr,_⟩:=Um R1 Z el;exact ⟨.inl ⟨rfl,vs,.inl hr⟩,ha.use R1 G1 h1.bind fun ps O H2 Y us x2 R2 G2 r2 h2=>hm.run H2 Y O p ps _ us Q R2 (Z.ext x2) r2 h2⟩
  ·exact h1.elim)⟩
def chg (st:Q2) (p:PV) (g:List PV->Option (PV × List PV)):Res PV:=match p with
 | .ref i=>match st[i]? with
  | some (.lst xs)=>match g xs with
   | some (r,ys)=>.ok r (st.set i (.lst ys))
   | none=>.stuck
  | _=>.stuck
 | _=>.stuck
theorem Qpd {mg:Str->Option aA} {H:Hp} {ρ:Tk} {st:Q2} {p:PV} {x:V} {g:List PV->Option (PV × List PV)} {Q:VK} (R:Rel H ρ st) (U:Rep H ρ p x) (h:Acc mg E H ρ (QV Q) (chg st p g)) :
  ∃ a xs vs r ys,x=.ref a/\H a=zo (.lst vs)/\RepL H ρ xs vs/\g xs=zo (r,ys)/\∀ j v,RepL H ρ ys j->Rep H ρ r v->Q v (upd H a (.lst j)):=by
 unfold chg at h
 split at h
 ·rename_i i
  split at h
  ·rename_i xs hs
   split at h
   ·rename_i r ys O;obtain ⟨a,z,rfl⟩:=U;obtain ⟨b,vs,G,q,J⟩:=R.lst hs;rw [z] at G; cases G;refine ⟨a,xs,vs,r,ys,rfl,q,J,O,fun j v ru Y=>?_⟩;have x:=Ext.put (o':=.lst j) (D9 z) q;exact h _ ρ x (R.put z q ru) v (Y.ext x)
   ·exact h.elim
  ·exact h.elim
 ·exact h.elim
def Wv:MF:=fun st p ps=>match ps with
 | [y]=>chg st p fun xs=>if xs.length < lim then zo (.non,xs ++ [y]) else zb
 | _=>.stuck
theorem Qfw:MtS X E "list.append" Wv:=⟨fun H ρ st p ps x xs Q R z rs h=>by
 unfold Wv at h
 split at h
 ·obtain ⟨v,rfl,r⟩:=Yc rs;obtain ⟨a,ys,vs,O,zs,rfl,G,q,j,k⟩:=Qpd R z h
  split at j
  ·rename_i J;cases j;exact WM.of Qfv ⟨a,vs,v,rfl,rfl,G,by rw [<- q.length]; exact D0 J Q8f,k _ _ (q.append (RepL.cons r RepL.nil)) rfl⟩
  ·cases j
 ·exact h.elim⟩
theorem Q0f (J:SimE X E o mo) (G:SimA X E [e] mr) (q:bJ o "append" X.env (aP o X.env)=aP o X.env:=by rfl)
  (z:((aY cpos (aN [e] X.env)).all (fun x=>!x.1) && (backToKw cpos (keywordEach [] X.env)).all (fun x=>x.1.isSome) && decide ([e].length + ([]:List Keyword).length + (if ([]:List Keyword).isEmpty then 0 else 1) < 30))=yo:=by rfl)
  (j:(apos.endLine == cpos.line)=yo:=by rfl) (hs:aN [e] X.env=(yl,aP e X.env) :: aN [] X.env:=by rfl):SimE X E (.Call (.Attribute o "append" apos) [e] [] cpos) (mBM Wv mo mr):=
 Qtr fc PySem.F.slot_list_append PySem.F.type_list_append Qfw J G q z j hs
end
section
mutual
def fz (n:Nat) (st:Q2):Nat->PV->Option PV
 | 0,_=>zb
 | _ + 1,.non=>zo .non
 | _ + 1,.bl b=>zo (.bl b)
 | _ + 1,.int i=>zo (.int i)
 | _ + 1,.str x=>zo (.str x)
 | k + 1,.tup xs=>(fzL n st k xs).map .tup
 | k + 1,.lst xs=>(fzL n st k xs).map .lst
 | k + 1,.fro xs=>(fzL n st k xs).map .fro
 | _ + 1,.dic=>zo .dic
 | k + 1,.ref i=>if i < n then zo (.ref i) else match st[i]? with
  | some (.lst xs)=>(fzL n st k xs).map .lst
  | _=>zb
def fzL (n:Nat) (st:Q2):Nat->List PV->Option (List PV)
 | _,[]=>zo []
 | k,x :: xs=>(fz n st k x).bind fun y=>(fzL n st k xs).map (y :: ·)
end
theorem Qe8 {n:Nat} {st:Q2}:∀ {m k:Nat} {p:PV},good m p=yo->m < k->fz n st k p=zo p:=by
 intro m
 induction m with
 | zero=>
  intro k p g G;obtain ⟨k,rfl⟩:∃ j,k=j + 1:=⟨k - 1,by omega⟩;cases p with
  | tup _=>cases g
  | lst _=>cases g
  | fro _=>cases g
  | ref _=>cases g
  | dic=>cases g
  | _=>rw [fz]
 | succ m J=>
  intro k p g G;obtain ⟨k,rfl⟩:∃ j,k=j + 1:=⟨k - 1,by omega⟩;have z:∀ xs:List PV,xs.all (good m)=yo->fzL n st k xs=zo xs:=by
   intro xs
   induction xs with
   | nil=>intro _; rw [fzL]
   | cons x xs q=>
    intro g;rw [cN,E6] at g;rw [fzL,J g.1 (by omega),q g.2]; rfl
  cases p with
  | tup xs=>rw [fz,z xs g]; rfl
  | lst xs=>rw [fz,z xs g]; rfl
  | fro xs=>rw [fz,z xs g]; rfl
  | ref _=>cases g
  | dic=>cases g
  | _=>rw [fz]
section
variable {H:Hp} {ρ:Tk} {st:Q2} {tr0 rest hs:List aB}
theorem Qjn (R:Rel H ρ st) (ht:ρ.tr=tr0 ++ rest) (hh:∀ a,a∈hs->a∈ρ.hid):∀ (k:Nat) {p p':PV} {v:V},Rep H ρ p v->fz tr0.length st k p=zo p'->Rep H ⟨tr0,hs⟩ p' v:=by
 have G:∀ a,a∉ρ->a∉(⟨tr0,hs⟩:Tk):=fun a n z=>by
  rcases z with z | z
  ·exact n (.inl (by rw [ht]; exact G6 _ z))
  ·exact n (.inr (hh a z))
 intro k
 induction k with
 | zero=>intro p p' v r e; rw [fz] at e; cases e
 | succ k ih=>
  have Z:∀ {ps q:List PV} {vs:List V},RepL H ρ ps vs->fzL tr0.length st k ps=zo q->RepL H ⟨tr0,hs⟩ q vs:=by
   intro ps
   induction ps with
   | nil=>intro q vs r e; rw [fzL] at e; cases e; exact r
   | cons x xs a2=>
    intro q vs r e;obtain ⟨v,t,rfl,r1,r2⟩:=r;rw [fzL] at e;cases e1:fz tr0.length st k x with
    | none=>rw [e1] at e; cases e
    | some y=>
     rw [e1] at e;have e:(fzL tr0.length st k xs).map (y :: ·)=zo q:=e;cases e2:fzL tr0.length st k xs with
     | none=>rw [e2] at e; cases e
     | some ys=>
      rw [e2] at e;cases e;exact ⟨v,t,rfl,ih r1 e1,a2 r2 e2⟩
  intro p p' v r e;cases p with
  | non=>rw [fz] at e; cases e; exact r
  | bl b=>rw [fz] at e; cases e; exact r
  | int i=>rw [fz] at e; cases e; exact r
  | str x=>rw [fz] at e; cases e; exact r
  | tup xs=>
   rw [fz] at e;obtain ⟨a,vs,e1,J,O,U⟩:=r;cases e2:fzL tr0.length st k xs with
   | none=>rw [e2] at e; cases e
   | some ys=>rw [e2] at e; cases e; exact ⟨a,vs,e1,J,G a O,Z U e2⟩
  | lst xs=>
   rw [fz] at e;obtain ⟨a,vs,e1,J,O,U⟩:=r;cases e2:fzL tr0.length st k xs with
   | none=>rw [e2] at e; cases e
   | some ys=>rw [e2] at e; cases e; exact ⟨a,vs,e1,J,G a O,Z U e2⟩
  | fro xs=>
   rw [fz] at e;obtain ⟨a,vs,e1,J,O,U⟩:=r;cases e2:fzL tr0.length st k xs with
   | none=>rw [e2] at e; cases e
   | some ys=>rw [e2] at e; cases e; exact ⟨a,vs,e1,J,G a O,Z U e2⟩
  | dic=>
   rw [fz] at e;cases e;obtain ⟨a,e1,J,O⟩:=r;exact ⟨a,e1,J,G a O⟩
  | ref i=>
   rw [fz] at e;obtain ⟨a,Y,rfl⟩:=r
   by_cases hi:i < tr0.length
   ·rw [bS hi] at e;cases e;rw [ht,D3 hi] at Y;exact ⟨a,Y,rfl⟩
   ·rw [bT hi] at e
    split at e
    ·rename_i xs a1;obtain ⟨b,vs,f1,f2,f3⟩:=R.lst a1;rw [Y] at f1; cases f1;cases e2:fzL tr0.length st k xs with
     | none=>rw [e2] at e; cases e
     | some ys=>
      rw [e2] at e; cases e;refine ⟨a,vs,rfl,f2,fun z=>?_,Z f3 e2⟩;rcases z with z | z
      ·have z:a∈tr0:=z;obtain ⟨j,hj,ej⟩:=F8 z;have g1:ρ.tr[j]?=zo a:=by rw [ht,D3 hj,O0 hj,ej]
       have l1:=O1.mp g1;have l2:=O1.mp Y;have:=Q66 R.nd l1.1 l2.1 (l1.2.trans l2.2.symm);omega
      ·exact R.ap a (hh a z) (D9 Y)
    ·cases e
mutual
def bel (n:Nat):PV->Prop
 | .tup xs=>belL n xs
 | .lst xs=>belL n xs
 | .fro xs=>belL n xs
 | .ref i=>i < n
 | _=>True
def belL (n:Nat):List PV->Prop
 | []=>True
 | x :: xs=>bel n x/\belL n xs
end
mutual
theorem Rep.bel:∀ {p:PV} {v:V},Rep H ρ p v->bel ρ.tr.length p
 | .non,_,_=>by simp [Sm.bel]
 | .bl _,_,_=>by simp [Sm.bel]
 | .int _,_,_=>by simp [Sm.bel]
 | .str _,_,_=>by simp [Sm.bel]
 | .tup ps,_,⟨_,_,_,_,_,r⟩=>by rw [Sm.bel]; exact RepL.bel r
 | .lst ps,_,⟨_,_,_,_,_,r⟩=>by rw [Sm.bel]; exact RepL.bel r
 | .fro ps,_,⟨_,_,_,_,_,r⟩=>by rw [Sm.bel]; exact RepL.bel r
 | .ref i,_,⟨_,e,_⟩=>by rw [Sm.bel]; exact (O1.mp e).1
 | .dic,_,_=>by simp [Sm.bel]
theorem RepL.bel:∀ {ps:List PV} {vs:List V},RepL H ρ ps vs->belL ρ.tr.length ps
 | [],_,_=>by simp [belL]
 | p :: ps,_,⟨_,_,_,q,j⟩=>by rw [belL]; exact ⟨Rep.bel q,RepL.bel j⟩
end
mutual
theorem Rep.less (j:ρ.tr=tr0 ++ rest) (G:∀ a,a∈hs->a∈ρ.hid):∀ {p:PV} {v:V},Sm.bel tr0.length p->Rep H ρ p v->Rep H ⟨tr0,hs⟩ p v
 | .non,_,_,r=>r
 | .bl _,_,_,r=>r
 | .int _,_,_,r=>r
 | .str _,_,_,r=>r
 | .tup ps,_,b,⟨a,vs,e,q,J,r⟩=>⟨a,vs,e,q,fun z=>J (z.imp (fun z=>by rw [j]; exact G6 _ z) (G a)),RepL.less j G (by rw [Sm.bel] at b; exact b) r⟩
 | .lst ps,_,b,⟨a,vs,e,q,J,r⟩=>⟨a,vs,e,q,fun z=>J (z.imp (fun z=>by rw [j]; exact G6 _ z) (G a)),RepL.less j G (by rw [Sm.bel] at b; exact b) r⟩
 | .fro ps,_,b,⟨a,vs,e,q,J,r⟩=>⟨a,vs,e,q,fun z=>J (z.imp (fun z=>by rw [j]; exact G6 _ z) (G a)),RepL.less j G (by rw [Sm.bel] at b; exact b) r⟩
 | .ref i,_,b,⟨a,e,e2⟩=>⟨a,by rw [Sm.bel] at b; rw [j,D3 b] at e; exact e,e2⟩
 | .dic,_,_,⟨a,e,q,J⟩=>⟨a,e,q,fun z=>J (z.imp (fun z=>by rw [j]; exact G6 _ z) (G a))⟩
theorem RepL.less (q:ρ.tr=tr0 ++ rest) (j:∀ a,a∈hs->a∈ρ.hid):∀ {ps:List PV} {vs:List V},belL tr0.length ps->RepL H ρ ps vs->RepL H ⟨tr0,hs⟩ ps vs
 | [],_,_,r=>r
 | p :: ps,_,b,⟨v,t,e,G,z⟩=>by
  rw [belL] at b;exact ⟨v,t,e,Rep.less q j b.1 G,RepL.less q j b.2 z⟩
end
end
theorem Q9s {H H':Hp} {ρ ρ':Tk} {st st':Q2} (R:Rel H ρ st) (x:Ext H ρ H' ρ') (U:Rel H' ρ' st') (hp:st <+: st'):Ext H ρ H' ρ/\Rel H' ρ st:=by
 obtain ⟨rest,z⟩:=x.pre;obtain ⟨more,hm⟩:=hp;refine ⟨⟨dN _,fun _ h=>h,fun _ h=>.inl h,x.keep,fun _ h=>.inl h,x.old,x.frz⟩,R.len,R.nd,fun a O=>let ⟨o,e,n⟩:=R.hd a O; ⟨o,x.keep a o e (R.ap a O),n⟩,R.ap,fun i a c h1 h2=>?_⟩
 have hi:i < st.length:=(O1.mp h2).1;have q:=U.cell i a c (by rw [<- z,D3 (O1.mp h1).1]; exact h1) (by rw [<- hm,D3 hi]; exact h2);have G:=R.cell i a c h1 h2;cases c with
 | lst ps=>
  obtain ⟨vs,e1,e2⟩:=q;obtain ⟨J,_,j⟩:=G;exact ⟨vs,e1,RepL.less (ρ:=ρ') (tr0:=ρ.tr) (hs:=ρ.hid) z.symm x.hidM j.bel e2⟩
 | dic ps=>
  obtain ⟨vs,e1,e2⟩:=q;obtain ⟨J,_,j⟩:=G;exact ⟨vs,e1,e2.1,RepL.less (ρ:=ρ') (tr0:=ρ.tr) (hs:=ρ.hid) z.symm x.hidM j.2.bel e2.2⟩
 | dtp ps=>
  obtain ⟨vs,e1,e2⟩:=q;obtain ⟨J,_,j⟩:=G;exact ⟨vs,e1,e2.1,RepL.less (ρ:=ρ') (tr0:=ρ.tr) (hs:=ρ.hid) z.symm x.hidM j.2.bel e2.2⟩
 | frd ps=>
  obtain ⟨vs,e1,e2⟩:=q;obtain ⟨J,_,j⟩:=G;exact ⟨vs,e1,e2.1,RepL.less (ρ:=ρ') (tr0:=ρ.tr) (hs:=ρ.hid) z.symm x.hidM j.2.bel e2.2⟩
 | obj C ps=>
  obtain ⟨vs,e1,e2⟩:=q;obtain ⟨J,_,j⟩:=G;exact ⟨vs,e1,e2.1,RepL.less (ρ:=ρ') (tr0:=ρ.tr) (hs:=ρ.hid) z.symm x.hidM j.2.bel e2.2⟩
abbrev FN:=List PV->Q2->Res PV
open Classical in
def fin (st:Q2) (v:PV) (st':Q2):Res PV:=if st <+: st' then okO st (fz st.length st' 16 v) else .ok v st'
open Classical in
def Q8v (st:Q2) (x:Exc) (st':Q2):Res PV:=if st <+: st' then (match x.fs with
 | none=>.exc x st
 | some (n,p)=>match fz st.length st' 16 p with
  | some q=>.exc ⟨x.cls,zo (n,q)⟩ st
  | none=>.stuck) else .exc x st'
def Qs (body:MS) (nl:Nat):FN:=fun ps st=>match body (ps.map zo ++ bh (nl - ps.length) zb) st with
 | .rt v st'=>fin st v st'
 | .nx _ st'=>fin st .non st'
 | .exc x st'=>Q8v st x st'
 | _=>.stuck
theorem Qeb {mg:Str->Option aA} {E:XK} {H:Hp} {ρ:Tk} {st st':Q2} {Q:VK} {p:PV} (R:Rel H ρ st) (h:Acc mg E H ρ (QV Q) (fin st p st')):∀ v H' ρ',Ext H ρ H' ρ'->Rel H' ρ' st'->Rep H' ρ' p v->Q v H':=fun v H' ρ' x j r=>by
 unfold fin at h
 by_cases hp:st <+: st'
 ·rw [bS hp] at h;cases e:fz st.length st' 16 p with
  | none=>rw [e] at h; exact h.elim
  | some q=>
   rw [e] at h;obtain ⟨x2,R2⟩:=Q9s R x j hp;obtain ⟨rest,z⟩:=x.pre;rw [<- R.len] at e;exact h H' ρ x2 R2 v (Qjn (tr0:=ρ.tr) (hs:=ρ.hid) j z.symm x.hidM 16 r e)
 ·rw [bT hp] at h;exact h H' ρ' x j v r
def spF (mg:Str->Option aA) (n:Nat) (F:FN):Sp:=fun vs H Q E=>vs.length=n/\∃ ρ st ps,Rel H ρ st/\RepL H ρ ps vs/\Acc mg E H ρ (QV Q) (F ps st)
theorem Q5y {H:Hp} {ρ:Tk} {N:List Str} {ps:List PV} {vs:List V} (r:RepL H ρ ps vs):EnvR H ρ (ps.map zo ++ bh (N.length - ps.length) zb) (L2.start N vs):=by
 have j:=r.length;unfold L2.start;refine ⟨by simp [j],fun i p e=>?_⟩
 by_cases hi:i < ps.length
 ·rw [D3 (by simpa using hi),D2] at e;rw [D3 (by simp; omega),D2];cases q:ps[i]? with
  | none=>rw [q] at e; cases e
  | some p'=>
   rw [q] at e;cases e;obtain ⟨v,e1,e2⟩:=r.get q;exact ⟨v,by rw [e1]; rfl,e2⟩
 ·rw [D6 (by simpa using hi),gC] at e
  split at e <;> cases e
section
variable {P:aK} {w:aJ} {K:bW} {mg:Str->Option aA} {base:Heap}
theorem Qs9 {x qual:Str} {st:aL} {f:aB} {fd:aO} {N ps:List Str} {k:Nat} {m:MS} (F:Fun K x qual st f fd) (S:FnScope N ps (Qb st))
  (hb:∀ (O:aA) (A:aM) (outer:List eZ) (s:aC) (H:Hp) (E:XK),Room k (A.deeper (ee qual (Qb st) s.heap.objs.size f O))->SimB (cxD P w K mg base N qual (Qb st) f O A outer s H E) E (Zk st) m) :
  FnOk P w K mg base (CXD P w) (k + 1) f fd ps (spF mg ps.length (Qs m N.length)):=by
 refine Fun.okD F S (fun vs H Q E h=>h.1) fun O A outer s H vs Q E hr a1=>⟨_,Q62,?_⟩
 obtain ⟨hl,ρ,J,Z,R,rl,j⟩:=a1;refine (hb O A outer s H E hr).run _ (L2.start N vs) H ρ J _ R (Q5y rl) ?_;unfold Qs at j;cases Y:m (Z.map zo ++ bh (N.length - Z.length) zb) J with
 | rt v G=>rw [Y] at j; exact Qeb R j
 | nx Γ G=>rw [Y] at j; exact fun a2 H' ρ' U R' G'=>Qeb R j .non H' ρ' U R' rfl
 | bk Γ G=>rw [Y] at j; exact j.elim
 | ct Γ G=>rw [Y] at j; exact j.elim
 | stuck=>rw [Y] at j; exact j.elim
 | exc y G=>
  rw [Y] at j;have j:Acc mg E H ρ (QV Q) (Q8v J y G):=j;intro C dv H' ρ' hm U R' hf;unfold Q8v at j
  by_cases hp:J <+: G
  ·rw [bS hp] at j;obtain ⟨x2,R2⟩:=Q9s R U R' hp;obtain ⟨cls,fs⟩:=y;cases fs with
   | none=>exact j C dv H' ρ hm x2 R2 hf
   | some np=>
    obtain ⟨nm,p⟩:=np;simp only at j;cases e:fz J.length G 16 p with
    | none=>rw [e] at j; exact j.elim
    | some q=>
     rw [e] at j;obtain ⟨rest,ht⟩:=U.pre;rw [<- R.len] at e;obtain ⟨dx,v,e1,e2,e3,e4⟩:=hf;refine j C dv H' ρ hm x2 R2 ⟨dx,v,e1,e2,fun z=>e3 (z.imp (fun z=>by rw [<- ht]; exact G6 _ z) (U.hidM dx)),Qjn (tr0:=ρ.tr) (hs:=ρ.hid) R' ht.symm U.hidM 16 e4 e⟩
  ·rw [bT hp] at j;exact j C dv H' ρ' hm U R' hf
end
theorem J3 {P:aK} {w:aJ} {K:bW} {mg:Str->Option aA} {base:Heap} {x qual:Str} {st:aL} {f:aB} {fd:aO} {N ps:List Str} {k n nl:Nat} {m:MS} {z:FN} (F:Fun K x qual st f fd) (S:FnScope N ps (Qb st)) (O:ps.length=n) (q:N.length=nl) (J:z=Qs m nl)
  (G:∀ (j:aA) (A:aM) (outer:List eZ) (s:aC) (H:Hp) (E:XK),Room k (A.deeper (ee qual (Qb st) s.heap.objs.size f j))->SimB (cxD P w K mg base N qual (Qb st) f j A outer s H E) E (Zk st) m) :
  FnOk P w K mg base (CXD P w) (k + 1) f fd ps (spF mg n z):=by
 subst O; subst q; subst J;exact Qs9 F S G
structure DefS (P:aK) (w:aJ) (K:bW) (mg:Str->Option aA) (base:Heap) (k:Nat) (x:Str) (n:Nat) (F:FN):Prop where
 ex:∃ (f:aB) (fd:aO) (ps:List Str),FnOk P w K mg base (CXD P w) k f fd ps (spF mg n F)/\mg x=zo (.ref f)/\cM K (.ref f)=yo/\Binds K fd ps []/\ps.length=n
def Qd (n:Nat) (F:FN) (mr:Gam->Q2->Res (List PV)):ME:=fun Γ st=>(mr Γ st).bind fun ps st1=>if ps.length=n then F ps st1 else .stuck
section
variable {X:Cx} {E:XK} {k n:Nat} {x:Str} {F:FN} {p pos:Pos} {e:aH} {es:List aH} {mr:Gam->Q2->Res (List PV)}
theorem Q9 (D:DefS X.prog X.w X.K X.mg X.base k x n F) (hr:Room k X.A) (hx:Q59 (CXD X.prog X.w) X E) (hg:Gl X x) (Y:SimA X E (e :: es) mr) (z:(x == ("__debug__" : Str))=yl:=by decide)
  (he:aN (e :: es) X.env=(yl,aP e X.env) :: aN es X.env:=by rfl) (j:(aY pos (aN es X.env)).any (·.1)=yl:=by rfl):SimE X E (.Call (.Name x p) (e :: es) [] pos) (Qd n F mr):=by
 obtain ⟨f,fd,ps,hF,hm,hk,Z,hl⟩:=D.ex;exact ⟨fun Γ σ H ρ st Q R G h=>WE.of (Qdj hF hr hg hm hk Z .nil hx Q3t z he j) (Y.use R G h.bind fun U J H1 ρ1 vs x1 R1 G1 O h1=>by
  by_cases q:U.length=n
  ·rw [bS q] at h1;show spF X.mg n F (vs ++ []) H1 Q E;rw [cO];exact ⟨by rw [<- O.length]; exact q,ρ1,J,U,R1,O,h1⟩
  ·rw [bT q] at h1; exact h1.elim)⟩
end
end
@[simp] theorem Jw {α β:Type} (a:α) (st:Q2) (f:α->Q2->Res β):(Res.ok a st).bind f=f a st:=rfl
@[simp] theorem Qsj {α β:Type} (f:α->Q2->Res β):(Res.stuck:Res α).bind f=.stuck:=rfl
@[simp] theorem Qvs {α β:Type} (x:Exc) (st:Q2) (f:α->Q2->Res β):(Res.exc x st:Res α).bind f=.exc x st:=rfl
@[simp] theorem qv {α:Type} (a:α) (st:Q2) (f:α->Q2->SR):(Res.ok a st).sbind f=f a st:=rfl
@[simp] theorem Qpy {α:Type} (f:α->Q2->SR):(Res.stuck:Res α).sbind f=.stuck:=rfl
@[simp] theorem Qsw {α:Type} (x:Exc) (st:Q2) (f:α->Q2->SR):(Res.exc x st:Res α).sbind f=.exc x st:=rfl
@[simp] theorem Qwf (i:Nat) (Γ:Gam) (st:Q2):Q4 i Γ st=(match Γ[i]? with | some (zo p)=>.ok p st | _=>.stuck):=rfl
@[simp] theorem Qy3 (p:PV) (Γ:Gam) (st:Q2):mC p Γ st=.ok p st:=rfl
@[simp] theorem Qrq (o:OP) (a b:ME) (Γ:Gam) (st:Q2):mOp o a b Γ st=(a Γ st).bind fun x j=>(b Γ j).bind fun y q=>o q x y:=rfl
@[simp] theorem Qxy (b:Bool) (st:Q2):asB (.bl b) st=.ok b st:=rfl
@[simp] theorem Qqi (m:ME) (Γ:Gam) (st:Q2):toB m Γ st=(m Γ st).bind asB:=rfl
def Qm7 {α:Type} (x:PV) (A B:Res α):Res α:=match x with
 | .bl yo=>A
 | .bl yl=>B
 | _=>.stuck
@[simp] theorem Qw2 {α:Type} (b:Bool) (A B:Res α):Qm7 (.bl b) A B=if b=yo then A else B:=by cases b <;> rfl
@[simp] theorem Qt2 (o o':OP) (a b c:ME) (Γ:Gam) (st:Q2):Ku o o' a b c Γ st=(a Γ st).bind fun x G=>(b Γ G).bind fun y q=>(o q x y).bind fun k j=>Qm7 k ((c Γ j).bind fun z J=>o' J y z) (.ok (.bl yl) j):=by
 unfold Ku;refine congrArg _ (funext fun x=>funext fun G=>congrArg _ (funext fun y=>funext fun q=>congrArg _ (funext fun k=>funext fun j=>?_)))
 cases k with
 | bl b=>cases b <;> rfl
 | _=>rfl
@[simp] theorem Qwn (a b:ME) (Γ:Gam) (st:Q2):Q0x a b Γ st=(a Γ st).bind fun x j=>Qm7 x (b Γ j) (.ok (.bl yl) j):=by
 unfold Q0x;refine congrArg _ (funext fun x=>funext fun j=>?_);cases x with
 | bl b=>cases b <;> rfl
 | _=>rfl
@[simp] theorem Qrp (a b:ME) (Γ:Gam) (st:Q2):mOr a b Γ st=(a Γ st).bind fun x j=>Qm7 x (.ok (.bl yo) j) (b Γ j):=by
 unfold mOr;refine congrArg _ (funext fun x=>funext fun j=>?_);cases x with
 | bl b=>cases b <;> rfl
 | _=>rfl
@[simp] theorem Qwg (a:ME) (Γ:Gam) (st:Q2):Qnr a Γ st=(a Γ st).bind fun x j=>(match x with | .bl k=>.ok (.bl (!k)) j | _=>.stuck):=rfl
@[simp] theorem Qwi (a:ME) (Γ:Gam) (st:Q2):Q89 a Γ st=(a Γ st).bind fun x j=>(match x with | .int k=>.ok (.int (-k)) j | _=>.stuck):=rfl
@[simp] theorem Q9d (a b:MT) (Γ:Gam) (st:Q2):yx a b Γ st=(a Γ st).bind fun k j=>if k=yo then b Γ j else .ok yl j:=rfl
@[simp] theorem Qd7 (a b:MT) (Γ:Gam) (st:Q2):Ug a b Γ st=(a Γ st).bind fun k j=>if k=yo then .ok yo j else b Γ j:=rfl
@[simp] theorem Qgz (a:MT) (Γ:Gam) (st:Q2):Zm a Γ st=(a Γ st).bind fun k j=>.ok (!k) j:=rfl
@[simp] theorem Qwh (Γ:Gam) (st:Q2):Q7 Γ st=.ok [] st:=rfl
@[simp] theorem Qiz (m:ME) (mr:ML) (Γ:Gam) (st:Q2):Q3 m mr Γ st=(m Γ st).bind fun p j=>(mr Γ j).bind fun ps q=>.ok (p :: ps) q:=rfl
@[simp] theorem Qnm (mr:ML) (Γ:Gam) (st:Q2):Y3 mr Γ st=(mr Γ st).bind fun ps j=>if ps.length<=lim then .ok (.tup ps) j else .stuck:=rfl
@[simp] theorem Qwj (mr:ML) (Γ:Gam) (st:Q2):jg mr Γ st=(mr Γ st).bind fun ps j=>if ps.length<=lim then .ok (.lst ps) j else .stuck:=rfl
@[simp] theorem Qus (mr:ML) (Γ:Gam) (st:Q2):Q68 mr Γ st=(mr Γ st).bind fun ps j=>if ps.length<=lim then .ok ps j else .stuck:=rfl
@[simp] theorem Qxk (m:ME) (l h:Gam->Q2->Res (Option Int)) (Γ:Gam) (st:Q2):mSl m l h Γ st=(m Γ st).bind fun p j=>(l Γ j).bind fun lo q=>(h Γ q).bind fun hi z=>oSl z p lo hi:=rfl
@[simp] theorem Qrr (Γ:Gam) (st:Q2):jy Γ st=.ok zb st:=rfl
@[simp] theorem Quq (m:ME) (Γ:Gam) (st:Q2):Q1g m Γ st=(m Γ st).bind fun p j=>(match p with | .int i=>.ok (zo i) j | _=>.stuck):=rfl
@[simp] theorem Qj0 (o:CF) (mr:ML) (Γ:Gam) (st:Q2):Qz o mr Γ st=(mr Γ st).bind fun ps j=>o j ps:=rfl
@[simp] theorem Qwm (T:String) (m:ME) (Γ:Gam) (st:Q2):Xa T m Γ st=(m Γ st).bind fun p j=>if qr j p=yo then .stuck else .ok (.bl (isI T (dpv j p))) j:=rfl
@[simp] theorem Qvb (st:Q2):qr st .non=yl:=rfl
@[simp] theorem Qwq (st:Q2) (b:Bool):qr st (.bl b)=yl:=rfl
@[simp] theorem Qvd (st:Q2) (b:Int):qr st (.int b)=yl:=rfl
@[simp] theorem Qv9 (st:Q2) (b:Str):qr st (.str b)=yl:=rfl
@[simp] theorem Qv8 (st:Q2) (b:List PV):qr st (.tup b)=yl:=rfl
@[simp] theorem Qvc (st:Q2) (b:List PV):qr st (.lst b)=yl:=rfl
@[simp] theorem Qve (st:Q2) (b:List PV):qr st (.fro b)=yl:=rfl
@[simp] theorem Qvf (st:Q2):qr st .dic=yl:=rfl
@[simp] theorem Qva (st:Q2) (i:Nat):qr st (.ref i)=(match st[i]? with | some (.frd _)=>yo | some (.obj _ _)=>yo | _=>yl):=rfl
@[simp] theorem Qwv (st:Q2):dpv st .non=.non:=rfl
@[simp] theorem Qxw (st:Q2) (b:Bool):dpv st (.bl b)=(.bl b):=rfl
@[simp] theorem Qwx (st:Q2) (b:Int):dpv st (.int b)=(.int b):=rfl
@[simp] theorem Qwu (st:Q2) (b:Str):dpv st (.str b)=(.str b):=rfl
@[simp] theorem Qwt (st:Q2) (b:List PV):dpv st (.tup b)=(.tup b):=rfl
@[simp] theorem Qww (st:Q2) (b:List PV):dpv st (.lst b)=(.lst b):=rfl
@[simp] theorem Qwy (st:Q2) (b:List PV):dpv st (.fro b)=(.fro b):=rfl
@[simp] theorem Qxv (st:Q2):dpv st .dic=.dic:=rfl
@[simp] theorem Qy4 (st:Q2) (i:Nat):dpv st (.ref i)=(match st[i]? with | some (.dic _)=>.dic | some (.dtp _)=>.dic | _=>.ref i):=rfl
@[simp] theorem Qnk (m:ML) (Γ:Gam) (st:Q2):Wk m Γ st=(m Γ st).bind fun ps j=>.ok (.lst ps) j:=rfl
@[simp] theorem Qnn (m:ML) (Γ:Gam) (st:Q2):Q88 m Γ st=(m Γ st).bind fun ps j=>.ok (.ref j.length) (j ++ [.lst ps]):=rfl
@[simp] theorem Qg1 (cap:List (Option Nat)) (ga:GA) (mi:MI) (mt:MT) (me:ME) (Γ:Gam) (st:Q2):Jv cap ga mi mt me Γ st=(mi Γ st).bind fun q j=>noX (Zc ga mt me q.2 (Ym cap Γ) q.1 j):=rfl
@[simp] theorem Qum (Γ:Gam) (st:Q2):Zv Γ st=.ok yo st:=rfl
@[simp] theorem Q69 (n:Nat) (F:FN) (mr:ML) (Γ:Gam) (st:Q2):Qd n F mr Γ st=(mr Γ st).bind fun ps j=>if ps.length=n then F ps j else .stuck:=rfl
@[simp] theorem Qur (Γ:Gam) (st:Q2):Jg Γ st=.nx Γ st:=rfl
@[simp] theorem K8 (a b:MS) (Γ:Gam) (st:Q2):Qi a b Γ st=(match a Γ st with | .nx j q=>b j q | r=>r):=rfl
@[simp] theorem Q4e (m:ME) (Γ:Gam) (st:Q2):X3 m Γ st=(m Γ st).sbind fun _ j=>.nx Γ j:=rfl
@[simp] theorem Qdw (m:ME) (Γ:Gam) (st:Q2):Je m Γ st=(m Γ st).sbind fun p j=>.rt p j:=rfl
@[simp] theorem Qnp (i:Nat) (m:ME) (Γ:Gam) (st:Q2):Ju i m Γ st=(m Γ st).sbind fun p j=>.nx (Γ.set i (zo p)) j:=rfl
@[simp] theorem Q8b (c:MT) (a b:MS) (Γ:Gam) (st:Q2):Z9 c a b Γ st=(c Γ st).sbind fun k j=>if k=yo then a Γ j else b Γ j:=rfl
@[simp] theorem Qns (ga:GA) (mi:MI) (b:MS) (Γ:Gam) (st:Q2):ze ga mi b Γ st=(mi Γ st).sbind fun q j=>Wm ga b q.2 q.1 Γ j:=rfl
@[simp] theorem Qnq (m:ME) (Γ:Gam) (st:Q2):Uk m Γ st=(m Γ st).bind fun p j=>(match Xb j p with | some (xs,w)=>if xs.length<=lim then .ok (xs,w) j else .stuck | none=>.stuck):=rfl
@[simp] theorem Q4b (mr:ML) (Γ:Gam) (st:Q2):Zd mr Γ st=(mr Γ st).bind fun ps q=>(match ps with | [.int j]=>if -(lim:Int)<=j/\j<=lim then .ok (Yv 0 j.toNat,[]) q else .stuck | _=>.stuck):=rfl
@[simp] theorem Qut (mr:ML) (Γ:Gam) (st:Q2):Qah mr Γ st=(mr Γ st).bind fun ps j=>(match ps with | [p]=>(match Xb j p with | some (xs,w)=>if xs.length<=lim then .ok (Ue 0 xs,w) j else .stuck | none=>.stuck) | _=>.stuck):=rfl
@[simp] theorem Qrs (f:MF) (mo:ME) (mr:ML) (Γ:Gam) (st:Q2):mBM f mo mr Γ st=(mo Γ st).bind fun p j=>(match Wf j p with | some _=>(mr Γ j).bind fun ps q=>f q p ps | none=>.stuck):=rfl
@[simp] theorem Qnt (ga:GA) (m:ME) (Γ:Gam) (st:Q2):Qj1 ga m Γ st=(m Γ st).sbind fun p q=>(match ga p Γ with | some j=>.nx j q | none=>.stuck):=rfl
@[simp] theorem Qg0 (mo mi m:ME) (Γ:Gam) (st:Q2):Kt mo mi m Γ st=(m Γ st).sbind fun p j=>(mo Γ j).sbind fun o z=>(mi Γ z).sbind fun i G=>(match qb G o i p with | some q=>.nx Γ q | none=>.stuck):=rfl
@[simp] theorem Qt0 (x:Str) (m:ME) (Γ:Gam) (st:Q2):Q4c x m Γ st=(m Γ st).sbind fun _ j=>.exc ⟨x,zb⟩ j:=rfl
@[simp] theorem Qt4 (i:Nat) (p:PV) (Γ:Gam):Qk i p Γ=zo (Γ.set i (zo p)):=rfl
@[simp] theorem Qv5 (Γ:Gam):Q4v [] Γ=zo Γ:=rfl
@[simp] theorem Qt5 (g:GA) (gs:GAs) (p:PV) (r:List PV) (Γ:Gam):V1 g gs (p :: r) Γ=(g p Γ).bind (gs r):=rfl
@[simp] theorem Qv4 (gs:GAs) (ps:List PV) (Γ:Gam):Q4u gs (.tup ps) Γ=gs ps Γ:=rfl
@[simp] theorem Qxi {α:Type} (a:α) (st:Q2):noX (Res.ok a st)=.ok a st:=rfl
@[simp] theorem Qsz {α:Type}:noX (Res.stuck:Res α)=.stuck:=rfl
@[simp] theorem Qa3 {α:Type} (st:Q2) (a:α):okO st (zo a)=.ok a st:=rfl
@[simp] theorem Quc {α:Type} (st:Q2):okO st (zb:Option α)=.stuck:=rfl
@[simp] theorem Qy2 (g:Int->Int->PV) (st:Q2) (a b:Int):oI g st (.int a) (.int b)=.ok (g a b) st:=rfl
@[simp] theorem Qui (st:Q2) (a b:Int):Zt st (.int a) (.int b)=.ok (.int (a + b)) st:=rfl
@[simp] theorem Quh (st:Q2) (a b:List PV):Zt st (.tup a) (.tup b)=if a.length + b.length<=lim then .ok (.tup (a ++ b)) st else .stuck:=rfl
@[simp] theorem Quf (st:Q2) (a b:Int):jb st (.int a) (.int b)=if (-(2 ^ 64) < a/\a < 2 ^ 64)\/(-(2 ^ 64) < b/\b < 2 ^ 64) then .ok (.int (a * b)) st else .stuck:=rfl
@[simp] theorem Que (st:Q2) (xs:List PV) (b:Int):jb st (.tup xs) (.int b)=if xs≠[]/\1<=b/\xs.length * b.toNat<=4096 then .ok (.tup (bh b.toNat xs).flatten) st else .stuck:=rfl
@[simp] theorem Qug (st:Q2) (a b:Int):xu st (.int a) (.int b)=if 0 < b then .ok (.int (a % b)) st else .stuck:=rfl
@[simp] theorem Qud (st:Q2) (a b:Int):Qa4 st (.int a) (.int b)=if 0<=b/\b<=1000000/\a.natAbs < 2 ^ 64 then .ok (.int (a ^ b.toNat)) st else .stuck:=rfl
@[simp] theorem Qw8 (st:Q2) (a b:Int):oLt st (.int a) (.int b)=.ok (.bl (decide (a < b))) st:=rfl
@[simp] theorem Qwe (st:Q2) (a b:Int):oEq st (.int a) (.int b)=.ok (.bl (a == b)) st:=rfl
@[simp] theorem Qw7 (st:Q2) (a b:Int):oNe st (.int a) (.int b)=.ok (.bl (!(a == b))) st:=rfl
@[simp] theorem Qxh (st:Q2) (a b:Bool):oEq st (.bl a) (.bl b)=.ok (.bl (a == b)) st:=rfl
@[simp] theorem Qxf (st:Q2) (a b:Bool):oNe st (.bl a) (.bl b)=.ok (.bl (!(a == b))) st:=rfl
@[simp] theorem Qwd (st:Q2) (a b:Str):oEq st (.str a) (.str b)=.ok (.bl (a == b)) st:=rfl
@[simp] theorem Qw6 (st:Q2) (a b:Str):oNe st (.str a) (.str b)=.ok (.bl (!(a == b))) st:=rfl
@[simp] theorem Qwc (st:Q2) (p:PV):oIs st p .non=.ok (.bl (Qaq p)) st:=rfl
@[simp] theorem Qxg (st:Q2) (a b:Bool):oIs st (.bl a) (.bl b)=.ok (.bl (a == b)) st:=rfl
@[simp] theorem Qri (st:Q2) (p:PV):yf st p .non=.ok (.bl (!Qaq p)) st:=rfl
@[simp] theorem Qsx (st:Q2) (a b:Bool):yf st (.bl a) (.bl b)=.ok (.bl (a != b)) st:=rfl
@[simp] theorem Qt3 (st:Q2) (xs:List PV):xz st (.lst xs)=zo xs:=rfl
@[simp] theorem Qrt (st:Q2) (xs:List PV):Wf st (.lst xs)=zo xs:=rfl
@[simp] theorem Qru (st:Q2) (xs:List PV):Wf st (.fro xs)=zo xs:=rfl
@[simp] theorem Qf1 (st:Q2) (xs:List PV):Wq st (.lst xs)=zo xs:=rfl
@[simp] theorem Qsv (st:Q2) (xs:List PV):Wq st (.fro xs)=zo xs:=rfl
@[simp] theorem Qsu (st:Q2) (xs:List PV):Wq st (.tup xs)=zo xs:=rfl
@[simp] theorem Qss (st:Q2) (xs:List PV):Xb st (.lst xs)=zo (xs,[]):=rfl
@[simp] theorem Qst (st:Q2) (xs:List PV):Xb st (.fro xs)=zo (xs,[]):=rfl
@[simp] theorem Qsr (st:Q2) (xs:List PV):Xb st (.tup xs)=zo (xs,[]):=rfl
@[simp] theorem Qw9 (st:Q2) (xs:List PV) (i:Int):oIx st (.tup xs) (.int i)=okO st (atI xs i):=rfl
@[simp] theorem Qwa (st:Q2) (xs:List PV) (i:Int):oIx st (.lst xs) (.int i)=okO st (atI xs i):=rfl
@[simp] theorem Qwb (st:Q2) (xs:List PV) (i:Int):oIx st (.fro xs) (.int i)=okO st (atI xs i):=rfl
@[simp] theorem Qw3 (st:Q2) (xs:List PV) (l h:Option Int):oSl st (.tup xs) l h=.ok (.tup (cut xs l h)) st:=rfl
@[simp] theorem Qw4 (st:Q2) (xs:List PV) (l h:Option Int):oSl st (.lst xs) l h=.ok (.lst (cut xs l h)) st:=rfl
@[simp] theorem Qw5 (st:Q2) (xs:List PV) (l h:Option Int):oSl st (.fro xs) l h=.ok (.lst (cut xs l h)) st:=rfl
@[simp] theorem Qvn (st:Q2) (xs:List PV):Ze st [.tup xs]=.ok (.int xs.length) st:=rfl
@[simp] theorem Qvp (st:Q2) (xs:List PV):Ze st [.lst xs]=.ok (.int xs.length) st:=rfl
@[simp] theorem Qvq (st:Q2) (xs:List PV):Ze st [.fro xs]=.ok (.int xs.length) st:=rfl
@[simp] theorem Qt6 (st:Q2) (xs:List PV):Q0b st [.tup xs]=.ok (.lst xs) st:=rfl
@[simp] theorem Qt7 (st:Q2) (xs:List PV):Q0b st [.lst xs]=.ok (.lst xs) st:=rfl
@[simp] theorem Qt8 (st:Q2) (xs:List PV):Q0b st [.fro xs]=.ok (.lst xs) st:=rfl
@[simp] theorem Qsh (st:Q2) (xs:List PV):W0 st [.tup xs]=.ok (.tup xs) st:=rfl
@[simp] theorem Qsi (st:Q2) (xs:List PV):W0 st [.lst xs]=.ok (.tup xs) st:=rfl
@[simp] theorem Qkd (g:List Bool->PV) (st:Q2) (bs:List Bool):zg g st [.lst (bs.map .bl)]=.ok (g bs) st:=by
 simp only [zg,Qf1,iV,Qph]
@[simp] theorem Qta (st:Q2):wOk [] st=True:=by simp [wOk]
@[simp] theorem Y1 (st:Q2) (b:Bool):fin st (.bl b) st=.ok (.bl b) st:=by simp [fin,fz]
@[simp] theorem Qws (st:Q2) (b:Int):fin st (.int b) st=.ok (.int b) st:=by simp [fin,fz]
@[simp] theorem Qp7 (st:Q2):fin st .non st=.ok .non st:=by simp [fin,fz]
@[simp] theorem Qwr (st:Q2) (b:Str):fin st (.str b) st=.ok (.str b) st:=by simp [fin,fz]
theorem Q4w {st:Q2} {v:PV} (g:good 12 v=yo):fin st v st=.ok v st:=by
 simp only [fin,iW,if_true,Qe8 g (by decide:12 < 16),Qa3]
theorem Q6k {st more:Q2} {v:PV} (g:good 12 v=yo):fin st v (st ++ more)=.ok v st:=by
 simp only [fin,eX,if_true,Qe8 g (by decide:12 < 16),Qa3]
theorem X4:lim=1000000:=rfl
theorem Q08 {α:Type} (g f:α->PV) {ga:GA} {me:ME} {w:Wt} {Γ0:Gam} {st:Q2} (G:wOk w st) {ys:List α} (h:∀ y∈ys,∃ j,ga (g y) Γ0=zo j/\me j st=.ok (f y) st):Zc ga Zv me w Γ0 (ys.map g) st=.ok (ys.map f) st:=by
 induction ys with
 | nil=>simp [Zc,G]
 | cons y ys q=>
  obtain ⟨j,h1,h2⟩:=h y F4;have q:=q fun z hz=>h z (O5 _ hz)
  rw [O8,Zc,bS G,h1];simp [h2,q]
theorem Q17 {α:Type} (g f:α->PV) (t:α->Bool) {ga:GA} {mt:MT} {me:ME} {w:Wt} {Γ0:Gam} {st:Q2} (G:wOk w st) {ys:List α} (h:∀ y∈ys,∃ j,ga (g y) Γ0=zo j/\mt j st=.ok (t y) st/\(t y=yo->me j st=.ok (f y) st)):Zc ga mt me w Γ0 (ys.map g) st=.ok ((ys.filter t).map f) st:=by
 induction ys with
 | nil=>simp [Zc,G]
 | cons y ys q=>
  obtain ⟨j,h1,h2,J⟩:=h y F4;have q:=q fun z hz=>h z (O5 _ hz)
  rw [O8,Zc,bS G,h1];simp only [h2,Jw,q];cases tx:t y with
  | true=>simp [J tx,tx,q]
  | false=>simp [tx]
@[simp] theorem Qvr {α:Type} (g:List Bool->PV) (st:Q2) (ys:List α) (b:α->Bool):zg g st [.lst (ys.map fun y=>.bl (b y))]=.ok (g (ys.map b)) st:=by
 rw [show (ys.map fun y=>PV.bl (b y))=(ys.map b).map .bl by rw [cF]; rfl,Qkd]
theorem V2 {α:Type} (g:α->PV) {xs:List α} (I:Nat->Gam->Q2->Prop) {ga:GA} {body:MS} {w:Wt} (O:∀ i Γ st,I i Γ st->wOk w st)
  (h:∀ (i:Nat) x Γ st,xs[i]?=zo x->I i Γ st->∃ J,ga (g x) Γ=zo J/\∃ q G,body J st=.nx q G/\I (i + 1) q G) {Γ:Gam} {st:Q2} (h0:I 0 Γ st):∃ j st',Wm ga body w (xs.map g) Γ st=.nx j st'/\I xs.length j st':=by
 induction xs generalizing I Γ st with
 | nil=>exact ⟨Γ,st,by simp [Wm,O 0 Γ st h0],h0⟩
 | cons x xs ih=>
  obtain ⟨J,h1,q,G,e2,Z⟩:=h 0 x Γ st rfl h0;obtain ⟨j,st',e3,Y⟩:=ih (fun i=>I (i + 1)) (fun i Γ st z=>O (i + 1) Γ st z) (fun i y Γ st U z=>h (i + 1) y Γ st (by simpa using U) z) Z
  refine ⟨j,st',?_,Y⟩;rw [O8,Wm,bS (O 0 Γ st h0),h1];simp only [e2];exact e3
theorem Qem {α:Type} (f:α->PV) (xs:List α) (i:Int):atI (xs.map f) i=(atI xs i).map f:=by
 unfold atI;rw [O3];cases ixN xs.length i with
 | none=>rfl
 | some j=>simp [D2]
theorem atI_get {α:Type} {xs:List α} {i:Nat} {x:α} (h:xs[i]?=zo x):atI xs (i:Int)=zo x:=by
 have j:=(O1.mp h).1;unfold atI ixN;rw [bS (by omega),bS (by omega)];simpa using h
@[simp] theorem Qx2 {α:Type} (st l:List α) (c:α):(st ++ c :: l)[st.length]?=zo c:=by
 rw [D6 (O4 _),cB]; rfl
@[simp] theorem Qw0 {α:Type} (st l:List α) (c d:α):(st ++ c :: d :: l)[st.length + 1]?=zo d:=by
 rw [D6 (by omega)];rw [show st.length + 1 - st.length=1 by omega]; rfl
@[simp] theorem Qx1 {α:Type} (st l:List α) (c d:α):(st ++ c :: l).set st.length d=st ++ d :: l:=by
 rw [dl _ _ (O4 _),cB]; rfl
@[simp] theorem Qvz {α:Type} (st l:List α) (c j d:α):(st ++ c :: j :: l).set (st.length + 1) d=st ++ c :: d :: l:=by
 rw [dl _ _ (by omega),show st.length + 1 - st.length=1 by omega]; rfl
@[simp] theorem Qwz (st:Q2) (i:Nat) (g:List PV->Option (PV × List PV)):chg st (.ref i) g=(match st[i]? with | some (.lst xs)=>(match g xs with | some (r,ys)=>.ok r (st.set i (.lst ys)) | none=>.stuck) | _=>.stuck):=rfl
@[simp] theorem Qwp (st:Q2) (i:Nat):xz st (.ref i)=(match st[i]? with | some (.lst xs)=>zo xs | _=>zb):=rfl
@[simp] theorem Quv (st:Q2) (i:Nat):Wf st (.ref i)=(match st[i]? with | some (.lst xs)=>zo xs | _=>zb):=rfl
@[simp] theorem Q27 (st:Q2) (i:Nat):Wq st (.ref i)=(match st[i]? with | some (.lst xs)=>zo xs | _=>zb):=rfl
@[simp] theorem Qw1 (st:Q2) (i:Nat):Xb st (.ref i)=(match st[i]? with | some (.lst xs)=>zo (xs,[(i,.lst xs)]) | _=>zb):=rfl
@[simp] theorem Qq8 (st:Q2) (p y:PV):Wv st p [y]=chg st p fun xs=>if xs.length < lim then zo (.non,xs ++ [y]) else zb:=rfl
@[simp] theorem Qvm (st:Q2) (i:Nat):W0 st [.ref i]=(match st[i]? with | some (.lst xs)=>.ok (.tup xs) st | _=>.stuck):=by
 unfold W0; simp only [Q27];cases st[i]? with
 | none=>rfl
 | some c=>cases c <;> rfl
@[simp] theorem Qx0 (st:Q2) (i:Nat):Q0b st [.ref i]=(match st[i]? with | some (.lst xs)=>.ok (.lst xs) st | _=>.stuck):=by
 unfold Q0b; simp only [Q27];cases st[i]? with
 | none=>rfl
 | some c=>cases c <;> rfl
@[simp] theorem Qxx (st:Q2) (i:Nat):Ze st [.ref i]=(match st[i]? with | some (.lst xs)=>.ok (.int xs.length) st | _=>.stuck):=by
 unfold Ze; simp only [Q27];cases st[i]? with
 | none=>rfl
 | some c=>cases c <;> rfl
@[simp] theorem Q1d (st:Q2) (i:Nat) (j:Int):oIx st (.ref i) (.int j)=(match st[i]? with | some (.lst xs)=>okO st (atI xs j) | _=>.stuck):=by
 unfold oIx; simp only [Q27];cases st[i]? with
 | none=>rfl
 | some c=>cases c <;> rfl
@[simp] theorem Qde (st:Q2) (k:Nat) (j:Int) (p:PV):qb st (.ref k) (.int j) p=(match st[k]? with | some (.lst xs)=>(ixN xs.length j).map fun n=>st.set k (.lst (xs.set n p)) | _=>zb):=rfl
theorem Qgi {α:Type} (xs:List α) (k:Nat):cut xs zb (zo (k:Int))=xs.take k:=by
 unfold cut;rw [HT.sIx_none,HT.sIx_nat,eY,iT];rcases iX k xs.length with h | h
 ·rw [iY h]
 ·rw [iZ h,eK,ia h]
theorem Qk7 {α:Type} (xs:List α) (k:Nat):cut xs (zo (k:Int)) zb=xs.drop k:=by
 unfold cut;rw [HT.sIx_none,HT.sIx_nat];rcases iX k xs.length with h | h
 ·rw [iY h,ia (by rw [cy]; omega)]
 ·rw [iZ h,fb,List.drop_of_length_le h]; simp
theorem Q6h {α:Type} {l:List α} {j:Nat} (h:j < l.length) (d:α):l[j]?=zo (l.getD j d):=by
 rw [eH,O0 h]; rfl
def ListAt (st:Q2) (V:PV) (xs:List PV):Prop:=V=.lst xs\/V=.fro xs\/∃ i,V=.ref i/\st[i]?=zo (.lst xs)
theorem ListAt.ix {st:Q2} {V:PV} {xs:List PV} (h:ListAt st V xs) (j:Int):oIx st V (.int j)=okO st (atI xs j):=by
 rcases h with rfl | rfl | ⟨i,rfl,e⟩
 ·rfl
 ·rfl
 ·rw [Q1d,e]
theorem Q18 {α:Type} (g:α->PV) {xs:List α} (I:Nat->List PV->Q2->Prop) {ga:GA} {me:ME} {w:Wt} {Γ0:Gam} (J:∀ i j st,I i j st->wOk w st)
  (h:∀ (i:Nat) x j st,xs[i]?=zo x->I i j st->∃ z,ga (g x) Γ0=zo z/\∃ v q,me z st=.ok v q/\I (i + 1) (j ++ [v]) q) {st:Q2} (h0:I 0 [] st):∃ j st',Zc ga Zv me w Γ0 (xs.map g) st=.ok j st'/\I xs.length j st':=by
 have G:∀ (ys:List α) (k:Nat) (pre:List PV) (st:Q2),(∀ i,ys[i]?=xs[k + i]?)->k + ys.length=xs.length->I k pre st->∃ j st',Zc ga Zv me w Γ0 (ys.map g) st=.ok j st'/\I xs.length (pre ++ j) st':=by
  intro ys
  induction ys with
  | nil=>
   intro k pre st e e2 i;refine ⟨[],st,by simp [Zc,J k pre st i],?_⟩;rw [cO,<- e2]; exact i
  | cons y ys Y=>
   intro k pre st e e2 i;have Z:xs[k]?=zo y:=by have:=e 0; simpa using this.symm
   obtain ⟨z,h1,v,q,h2,U⟩:=h k y pre st Z i;obtain ⟨j,st',h3,O⟩:=Y (k + 1) (pre ++ [v]) q (fun i=>by
    have:=e (i + 1);rw [dg] at this;rw [this]; congr 1; omega) (by rw [<- e2,D7]; omega) U
   refine ⟨v :: j,st',?_,by simpa using O⟩;rw [O8,Zc,bS (J k pre st i),h1];simp [Zv,h2,h3]
 obtain ⟨j,st',h1,h2⟩:=G xs 0 [] st (fun i=>by simp) (by simp) h0;exact ⟨j,st',h1,by simpa using h2⟩
@[simp] theorem Qt1 (ma:ME) (Γ:Gam) (st:Q2):Q8a ma Γ st=(ma Γ st).bind fun p j=>match Wq j p with | some xs=>.ok xs j | none=>.stuck:=rfl
theorem Qnz {n k:Nat} (h:k < n):ixN n (k:Int)=zo k:=by
 unfold ixN;rw [bS (by omega),bS (by omega)];simp
theorem jv:∀ {xs:List PV},(∀ x∈xs,peq x x=yo)->peqL xs xs=yo
 | [],_=>rfl
 | x :: xs,h=>by
  rw [peqL,h x F4,jv fun y j=>h y (O5 _ j)]; rfl
theorem j9:∀ {n:Nat} {p:PV},good n p=yo->peq p p=yo
 | n,.non,_=>rfl
 | n,.bl b,_=>by simp [peq]
 | n,.int b,_=>by simp [peq]
 | n,.str b,_=>by simp [peq]
 | n,.ref _,g=>by cases n <;> simp [good] at g
 | n,.dic,g=>by cases n <;> simp [good] at g
 | 0,.tup _,g=>by simp [good] at g
 | 0,.lst _,g=>by simp [good] at g
 | 0,.fro _,g=>by simp [good] at g
 | n + 1,.tup xs,g=>by
  rw [peq]; refine jv fun x j=>j9 (n:=n) ?_
  simp [good] at g; exact g x j
 | n + 1,.lst xs,g=>by
  rw [peq]; refine jv fun x j=>j9 (n:=n) ?_
  simp [good] at g; exact g x j
 | n + 1,.fro xs,g=>by
  rw [peq]; refine jv fun x j=>j9 (n:=n) ?_
  simp [good] at g; exact g x j
section
variable {X:Cx} {E:XK} {a b:aH} {ma mb:ME} {pos:Pos}
theorem Qb1:aX "set" = zo (.type "set"):=by decide +kernel
def Qup (ma mb:ME):ML:=fun Γ st=>(ma Γ st).bind fun p st1=>(mb Γ st1).bind fun q st2=>match q,Wf st2 p with
 | .int i,zo xs=>if i=-1 then .ok xs.reverse st2 else .stuck
 | _,_=>.stuck
@[simp] theorem Qun (ma mb:ME) (Γ:Gam) (st:Q2):Qup ma mb Γ st=(ma Γ st).bind fun p z=>(mb Γ z).bind fun q j=>match q,Wf j p with
 | .int i,zo xs=>if i=-1 then .ok xs.reverse j else .stuck
 | _,_=>.stuck:=rfl
def Qiy (ma:ME):ML:=fun Γ st=>(ma Γ st).bind fun p st1=>match p with
 | .int i=>if 0<=i/\i<=1000000 then .ok ((bY i.toNat).map fun (k:Nat)=>.int (k:Int)) st1 else .stuck
 | _=>.stuck
theorem Qbt {H:Hp} {ρ:Tk} (ks:List Nat):RepL H ρ (ks.map fun (k:Nat)=>.int (k:Int)) (ks.map fun (k:Nat)=>V.int (k:Int)):=by
 induction ks with
 | nil=>exact RepL.nil
 | cons k ks j=>exact RepL.cons rfl j
theorem Qey {p p' pos':Pos} (Z:SimE X E a ma) (hc:X.calm=yo) (hg:Gl X "list") (hm:X.mg "list" = zb) (O:Gl X "range") (Y:X.mg "range" = zb) (he:aN [a] X.env=(yl,aP a X.env) :: aN [] X.env:=by rfl) (hs:aN [a] X.env=[(yl,aP a X.env)]:=by rfl)
  (J:aN [.Call (.Name "range" p') [a] [] pos'] X.env=[(yl,aP (.Call (.Name "range" p') [a] [] pos') X.env)]:=by rfl):SimN X E (.Call (.Name "list" p) [.Call (.Name "range" p') [a] [] pos'] [] pos) (Qiy ma):=
 ⟨fun Γ σ H ρ st P Q R G hq k=>WE.of (Q7s hc hg hm O Y Us (Qt Zb Js he) hs J) (Z.use' R G hq.bind fun q j H1 ρ1 v e1 x1 R1 G1 r1 h1=>by
  split at h1
  ·rename_i i
   split at h1
   ·rename_i hi;have ev:v=.int i:=r1;subst ev;refine ⟨i.toNat,by rw [fQ hi.1],by omega,Qca x1 R1 (Qbt _) fun H3 U z us=>k _ j H3 U z us ?_⟩;unfold Qiy;rw [e1];show (if 0<=i/\i<=1000000 then Res.ok _ j else .stuck)=_;rw [bS hi]
   ·exact h1.elim
  ·exact h1.elim)⟩
@[simp] theorem Qwk (ma:ME) (Γ:Gam) (st:Q2):Qiy ma Γ st=(ma Γ st).bind fun p j=>match p with
 | .int i=>if 0<=i/\i<=1000000 then .ok ((bY i.toNat).map fun (k:Nat)=>.int (k:Int)) j else .stuck
 | _=>.stuck:=rfl
end
def Xf (body:MS) (nl:Nat):FN:=fun ps st=>match body (ps.map zo ++ bh (nl - ps.length) zb) st with
 | .rt v st'=>.ok v st'
 | .nx _ st'=>.ok .non st'
 | .exc x st'=>.exc x st'
 | _=>.stuck
section
variable {P:aK} {w:aJ} {K:bW} {mg:Str->Option aA} {base:Heap}
theorem Qp4 {x qual:Str} {st:aL} {f:aB} {fd:aO} {N ps:List Str} {k:Nat} {m:MS} (F:Fun K x qual st f fd) (S:FnScope N ps (Qb st))
  (Z:∀ (z:aA) (A:aM) (outer:List eZ) (s:aC) (H:Hp) (E:XK),Room k (A.deeper (ee qual (Qb st) s.heap.objs.size f z))->SimB (cxD P w K mg base N qual (Qb st) f z A outer s H E) E (Zk st) m) :
  FnOk P w K mg base (CXD P w) (k + 1) f fd ps (spF mg ps.length (Xf m N.length)):=by
 refine Fun.okD F S (fun vs H Q E h=>h.1) fun z A outer s H vs Q E hr U=>⟨_,Q62,?_⟩
 obtain ⟨hl,ρ,O,J,R,rl,j⟩:=U;refine (Z z A outer s H E hr).run _ (L2.start N vs) H ρ O _ R (Q5y rl) ?_;unfold Xf at j;cases G:m (J.map zo ++ bh (N.length - J.length) zb) O with
 | rt v q=>rw [G] at j; exact fun v H' ρ' x Y r=>j H' ρ' x Y v r
 | nx Γ q=>rw [G] at j; exact fun a1 H' ρ' x' Y G'=>j H' ρ' x' Y .non rfl
 | bk Γ q=>rw [G] at j; exact j.elim
 | ct Γ q=>rw [G] at j; exact j.elim
 | stuck=>rw [G] at j; exact j.elim
 | exc y q=>rw [G] at j; exact j
end
theorem Vz {P:aK} {w:aJ} {K:bW} {mg:Str->Option aA} {base:Heap} {x qual:Str} {st:aL} {f:aB} {fd:aO} {N ps:List Str} {k n nl:Nat} {m:MS} {z:FN} (F:Fun K x qual st f fd) (S:FnScope N ps (Qb st)) (O:ps.length=n) (q:N.length=nl) (J:z=Xf m nl)
  (G:∀ (j:aA) (A:aM) (outer:List eZ) (s:aC) (H:Hp) (E:XK),Room k (A.deeper (ee qual (Qb st) s.heap.objs.size f j))->SimB (cxD P w K mg base N qual (Qb st) f j A outer s H E) E (Zk st) m) :
  FnOk P w K mg base (CXD P w) (k + 1) f fd ps (spF mg n z):=by
 subst O; subst q; subst J;exact Qp4 F S G
end Sm
namespace Sm
open PySem PySem.Spec PyProof.Rows L2
section
variable {X:Cx} {E:XK} {pos:Pos} {a b:aH} {ma mb:ME}
end
end Sm
namespace Sm
open PySem PySem.Spec L2
section
variable {X:Cx} {E:XK} {pos:Pos} {e:aH} {m:ME}
end
section
end
section
variable {X:Cx} {E:XK} {pos dpos:Pos} {e1 e2 e3 i:aH} {m1 m2 m3 mi:ME} {k1 k2 k3:Str} {j1 j2 j3:Nat} {q1 q2 q3:Pos}
end
section
variable {X:Cx} {E:XK} {pos:Pos} {e:aH} {m:ME}
end
theorem xj {k:Nat} {A:aM} (r:Room k A):A.units + 9 < aU:=by have:=r.un; omega
section
variable {X:Cx} {E:XK}
end
section
variable {H0 H:Hp} {ρ0 ρ:Tk} {st:Q2} {a:aB} {ps:List (Key × PV)} {vs:List (Key × V)}
end
def Qqy (kvs:List (Key × PV)) (k:Key) (v:PV):List (Key × PV):=
 if (kvs.any fun kv=>decide (kv.1=k))=yo then kvs.map (fun kv=>if kv.1=k then (kv.1,v) else kv) else kvs ++ [(k,v)]
def Qe2:PV->Option Key
 | .int i=>zo (.inl i)
 | .str x=>zo (.inr x)
 | _=>zb
theorem Qmf {H:Hp} {ρ:Tk} {p:PV} {v:V} {k:Key} (e:Qe2 p=zo k) (r:Rep H ρ p v):v=kV k:=by
 cases p with
 | int i=>cases e; exact r
 | str x=>cases e; exact r
 | _=>cases e
section
variable {X:Cx} {E:XK} {pos dpos apos cpos:Pos} {e e1 e2 e3 i o f:aH} {m m1 m2 m3 mi mo mf:ME} {k1 k2 k3:Str} {j1 j2 j3:Nat} {q1 q2 q3:Pos}
end
theorem Qhi {H:Hp} {ρ:Tk} {kvs:List (Key × PV)} {vs:List (Key × V)} (r:RepD H ρ kvs vs) (k:Key) {p:PV} {v:V} (J:Rep H ρ p v):RepD H ρ (Qqy kvs k p) (Kn vs k v):=by
 have Z:(kvs.any fun kv=>decide (kv.1=k))=vs.any fun kv=>decide (kv.1=k):=by
  have e1:(kvs.any fun kv=>decide (kv.1=k))=(kvs.map bu).any fun x=>decide (x=k):=by rw [cs]; rfl
  have e2:(vs.any fun kv=>decide (kv.1=k))=(vs.map bu).any fun x=>decide (x=k):=by rw [cs]; rfl
  rw [e1,e2,r.1]
 unfold Qqy Kn;rw [<- Z]
 by_cases q:(kvs.any fun kv=>decide (kv.1=k))=yo
 ·rw [bS q,bS q];have G:∀ (kvs:List (Key × PV)) (vs:List (Key × V)),RepD H ρ kvs vs->RepD H ρ (kvs.map fun kv=>if kv.1=k then (kv.1,p) else kv) (vs.map fun kv=>if kv.1=k then (kv.1,v) else kv):=by
   intro kvs
   induction kvs with
   | nil=>
    intro vs r;cases vs with
    | nil=>exact r
    | cons _ _=>have:=r.length; cases this
   | cons a kvs ih=>
    intro vs r;cases vs with
    | nil=>have:=r.length; cases this
    | cons b vs=>
     obtain ⟨r1,x,t,e,Y,r3⟩:=r;obtain ⟨e1,e2⟩:=cU (show b.1 :: vs.map bu=a.1 :: kvs.map bu from r1);obtain ⟨e3,e4⟩:=cU (show b.2 :: vs.map dC=x :: t from e);subst e3; subst e4;obtain ⟨O,U⟩:=ih vs ⟨e2,r3⟩
     by_cases z:a.1=k
     ·have j:b.1=k:=e1.trans z;refine ⟨?_,?_⟩
      ·rw [O8,O8,O8,O8,bS z,bS j];show b.1 :: _=a.1 :: _;rw [e1,O]
      ·rw [O8,O8,O8,O8,bS z,bS j];exact RepL.cons J U
     ·have j:¬ b.1=k:=fun h=>z (e1.symm.trans h)
      refine ⟨?_,?_⟩
      ·rw [O8,O8,O8,O8,bT z,bT j];show b.1 :: _=a.1 :: _;rw [e1,O]
      ·rw [O8,O8,O8,O8,bT z,bT j];exact RepL.cons Y U
  exact G kvs vs r
 ·rw [bT q,bT q];refine ⟨?_,?_⟩
  ·rw [E5,E5,r.1]; rfl
  ·rw [E5,E5];exact r.2.append (RepL.cons J RepL.nil)
section
variable {X:Cx} {E:XK} {pos dpos tpos:Pos} {e i o k:aH} {m mi mo mk:ME}
end
theorem Qgp:aX "dict" = zo (.type "dict"):=by decide +kernel
def Q3r:List PV->Option (List (Key × PV))
 | []=>zo []
 | .tup [k,v] :: xs=>match Qe2 k with
  | some k=>(Q3r xs).map ((k,v) :: ·)
  | none=>zb
 | _ :: _=>zb
def Qiw (kvs more:List (Key × PV)):List (Key × PV):=more.foldl (fun acc kv=>Qqy acc kv.1 kv.2) kvs
theorem Q3i {H:Hp} {ρ:Tk}:∀ {more:List (Key × PV)} {mv:List (Key × V)} {kvs:List (Key × PV)} {vs:List (Key × V)},RepD H ρ more mv->RepD H ρ kvs vs->RepD H ρ (Qiw kvs more) (yh vs mv)
 | [],[],_,_,_,r=>r
 | [],_ :: _,_,_,r,_=>by have:=r.length; cases this
 | _ :: _,[],_,_,r,_=>by have:=r.length; cases this
 | (k,p) :: more,(j,v) :: mv,kvs,vs,r,s=>by
  obtain ⟨G,x,t,e,q,z⟩:=r;obtain ⟨e1,e2⟩:=cU (show j :: mv.map bu=k :: more.map bu from G);obtain ⟨e3,J⟩:=cU (show v :: mv.map dC=x :: t from e);subst e1; subst e3; subst J;exact Q3i (more:=more) (mv:=mv) ⟨e2,z⟩ (Qhi s j q)
theorem Q3q {H:Hp} {ρ:Tk}:∀ {xs:List PV} {vs:List V} {kvs:List (Key × PV)},Q3r xs=zo kvs->RepL H ρ xs vs->∃ j:List (Key × V),RepD H ρ kvs j/\aS (fun (v:V) (kv:Key × V)=>∃ a,v=.ref a/\H a=zo (.tup [kV kv.1,kv.2])) vs j
 | [],vs,kvs,e,r=>by cases e; cases r; exact ⟨[],⟨rfl,rfl⟩,.nil⟩
 | .tup [k,p] :: xs,vs,kvs,e,⟨v,t,e1,Z,U⟩=>by
  have e:(match Qe2 k with | some k=>(Q3r xs).map ((k,p) :: ·) | none=>zb)=zo kvs:=e
  cases q:Qe2 k with
  | none=>rw [q] at e; cases e
  | some Y=>
   rw [q] at e;cases z:Q3r xs with
   | none=>rw [z] at e; cases e
   | some J=>
    rw [z] at e;cases e;obtain ⟨j,G,g2⟩:=Q3q z U;obtain ⟨a,us,rfl,O,_,ru⟩:=Z;obtain ⟨u1,u2,rfl,q1,q2⟩:=Qhh ru;have ek:=Qmf q q1;subst ek;subst e1;exact ⟨(Y,u2) :: j,⟨by rw [O8,O8,G.1],RepL.cons q2 G.2⟩,.cons ⟨a,rfl,O⟩ g2⟩
 | .tup [] :: _,_,_,e,_=>by cases e
 | .tup [_] :: _,_,_,e,_=>by cases e
 | .tup (_ :: _ :: _ :: _) :: _,_,_,e,_=>by cases e
 | .non :: _,_,_,e,_=>by cases e
 | .bl _ :: _,_,_,e,_=>by cases e
 | .int _ :: _,_,_,e,_=>by cases e
 | .str _ :: _,_,_,e,_=>by cases e
 | .lst _ :: _,_,_,e,_=>by cases e
 | .fro _ :: _,_,_,e,_=>by cases e
 | .ref _ :: _,_,_,e,_=>by cases e
 | .dic :: _,_,_,e,_=>by cases e
section
variable {X:Cx} {E:XK} {pos dpos tpos:Pos} {e i o k:aH} {m mi mo mk:ME} {tg:aH}
def Qcu:CF:=fun st ps=>match ps with
 | [p]=>match Wf st p with
  | some xs=>match Q3r xs with
   | some kvs=>.ok (.ref st.length) (st ++ [.dic (Qiw [] kvs)])
   | none=>.stuck
  | none=>.stuck
 | _=>.stuck
theorem Qk9 (Y:X.calm=yo):CallS X E (.type "dict") Qcu:=⟨fun H ρ st ps xs Q R z h=>by
 unfold Qcu at h
 split at h
 ·rename_i p;obtain ⟨v,rfl,r⟩:=Yc z
  split at h
  ·rename_i ys q
   split at h
   ·rename_i kvs U;obtain ⟨a,vs,rfl,O,G⟩:=Um R r q;obtain ⟨j,J,g2⟩:=Q3q U G;refine WC.of (Qct Y) ⟨a,vs,j,rfl,.inl O,g2,fun d hd=>?_⟩;have x:Ext H ρ (upd H d (.dK (yh [] j))) (ρ.add d):=Ext.addT hd;refine h _ _ x (R.addC hd ⟨_,Qp,(Q3i J (show RepD H ρ [] [] from ⟨rfl,RepL.nil⟩)).ext x⟩) _ ⟨d,?_,rfl⟩;show (ρ.tr ++ [d])[st.length]?=zo d;rw [<- R.len,D6 (O4 _),cB]; rfl
   ·exact h.elim
  ·exact h.elim
 ·exact h.elim⟩
end
section
variable {X:Cx} {E:XK}
end
end Sm
namespace Sm
open PySem PySem.Spec PyProof.Rows L2
section
variable {X:Cx} {E:XK}
theorem Qik:OpR X (aZ .FloorDiv) (rI (fun _ j=>0 < j/\j < 1267650600228229401496703205376) fun i j=>.int (i / j)):=opI fun i j _ _ _ _ _ z q=>by
 have h1:(0:Int) < j:=z.1;have h2:j < 1267650600228229401496703205376:=z.2;refine floordiv_int (by omega) (by rw [Int.fdiv_eq_ediv_of_nonneg i (by omega)]; exact q) (.inl (PyProof.noPylong_of_log2 ?_));have:j.natAbs.log2 < 100:=(Nat.log2_lt (by omega)).mpr (by
  rw [show (2:Nat) ^ 100=1267650600228229401496703205376 by decide];omega)
 omega
def Qdr:OP:=fun st p q=>match p,q with
 | .int a,.int b=>if 0 < b/\b < 1267650600228229401496703205376 then .ok (.int (a / b)) st else .stuck
 | _,_=>.stuck
theorem Qn6:OpS X E (aZ .FloorDiv) Qdr:=⟨fun H ρ st p q x y Q R z j h=>by
 unfold Qdr at h
 split at h
 ·cases z; cases j
  split at h
  ·rename_i G;exact WO.of Qik ⟨_,_,rfl,rfl,G,now R h rfl⟩
  ·exact h.elim
 ·exact h.elim⟩
@[simp] theorem Qsy (st:Q2) (a b:Int):Qdr st (.int a) (.int b)=if 0 < b/\b < 1267650600228229401496703205376 then .ok (.int (a / b)) st else .stuck:=rfl
end
end Sm
namespace Sm
open PySem PySem.Spec L2
theorem jm:aX "sorted" = zo (.builtin "sorted"):=by decide +kernel
section
variable {X:Cx} {E:XK} {pos apos tp:Pos} {e:aH} {m:ME} {elts:List aH} {kt:Nat}
end
def Ui (f:PV->Option HK):List PV->Option (List HK)
 | []=>zo []
 | p :: ps=>match f p,Ui f ps with
  | some k,zo l=>zo (k :: l)
  | _,_=>zb
def yp:Nat->PV->Option HK
 | _,.int i=>zo (.int i)
 | _,.str x=>zo (.str x)
 | d + 1,.tup ps=>(Ui (yp d) ps).map .tup
 | _,_=>zb
theorem Qjf {H:Hp} {ρ:Tk}:∀ (d:Nat) {p:PV} {k:HK} {v:V},yp d p=zo k->Rep H ρ p v->KAt H k v/\Dp d k:=by
 intro d
 induction d with
 | zero=>
  intro p k v e r;cases p with
  | int i=>cases e; exact ⟨r,trivial⟩
  | str i=>cases e; exact ⟨r,trivial⟩
  | _=>cases e
 | succ d Y=>
  intro p k v e r;cases p with
  | int i=>cases e; exact ⟨r,trivial⟩
  | str i=>cases e; exact ⟨r,trivial⟩
  | tup ps=>
   obtain ⟨a,vs,rfl,O,_,U⟩:=r;have j:∀ {ps:List PV} {l:List HK} {vs:List V},Ui (yp d) ps=zo l->RepL H ρ ps vs->KAtL H l vs/\∀ k∈l,Dp d k:=by
    intro ps
    induction ps with
    | nil=>intro l vs e r; cases e; exact ⟨r,fun k hk=>nomatch hk⟩
    | cons p ps q=>
     intro l vs e ⟨v,t,e1,Z,J⟩;unfold Ui at e
     split at e
     ·rename_i k l' e2 e3;cases e;obtain ⟨h1,h2⟩:=Y e2 Z;obtain ⟨h3,h4⟩:=q e3 J;exact ⟨⟨v,t,e1,h1,h3⟩,fun x G=>by rcases D5.mp G with rfl | G; exact h2; exact h4 x G⟩
     ·cases e
   unfold yp at e;cases z:Ui (yp d) ps with
   | none=>rw [z] at e; cases e
   | some l=>
    rw [z] at e;cases e;obtain ⟨h1,h2⟩:=j z U;exact ⟨⟨a,vs,rfl,O,h1⟩,h2⟩
  | _=>cases e
def Q02:PV->Option HK
 | .tup ps=>yp 5 (.tup ps)
 | _=>zb
theorem Q4p {H:Hp} {ρ:Tk} {p:PV} {k:HK} {v:V} (e:Q02 p=zo k) (r:Rep H ρ p v):∃ b,v=.ref b/\KR H k b:=by
 cases p with
 | tup ps=>
  have h:=Qjf 5 e r;obtain ⟨b,vs,rfl,_⟩:=r;exact ⟨b,rfl,h⟩
 | _=>cases e
def putT (kvs:List (HK × PV)) (k:HK) (v:PV):List (HK × PV):=
 if (kvs.any fun kv=>decide (kv.1=k))=yo then kvs.map (fun kv=>if kv.1=k then (kv.1,v) else kv) else kvs ++ [(k,v)]
theorem Qhg {H:Hp} {ρ:Tk} {kvs:List (HK × PV)} {vs:List (HK × V)} (r:RepD H ρ kvs vs) (k:HK) {p:PV} {v:V} (J:Rep H ρ p v):RepD H ρ (putT kvs k p) (Kn vs k v):=by
 have Z:(kvs.any fun kv=>decide (kv.1=k))=vs.any fun kv=>decide (kv.1=k):=by
  have e1:(kvs.any fun kv=>decide (kv.1=k))=(kvs.map bu).any fun x=>decide (x=k):=by rw [cs]; rfl
  have e2:(vs.any fun kv=>decide (kv.1=k))=(vs.map bu).any fun x=>decide (x=k):=by rw [cs]; rfl
  rw [e1,e2,r.1]
 unfold putT Kn;rw [<- Z]
 by_cases q:(kvs.any fun kv=>decide (kv.1=k))=yo
 ·rw [bS q,bS q];have j:∀ (kvs:List (HK × PV)) (vs:List (HK × V)),RepD H ρ kvs vs->RepD H ρ (kvs.map fun kv=>if kv.1=k then (kv.1,p) else kv) (vs.map fun kv=>if kv.1=k then (kv.1,v) else kv):=by
   intro kvs
   induction kvs with
   | nil=>
    intro vs r;cases vs with
    | nil=>exact r
    | cons _ _=>have:=r.length; cases this
   | cons a kvs ih=>
    intro vs r;cases vs with
    | nil=>have:=r.length; cases this
    | cons b vs=>
     obtain ⟨r1,x,t,e,Y,r3⟩:=r;obtain ⟨e1,e2⟩:=cU (show b.1 :: vs.map bu=a.1 :: kvs.map bu from r1);obtain ⟨e3,e4⟩:=cU (show b.2 :: vs.map dC=x :: t from e);subst e3; subst e4;obtain ⟨O,U⟩:=ih vs ⟨e2,r3⟩;rw [O8,O8]
     by_cases z:a.1=k
     ·have G:b.1=k:=e1.trans z;rw [bS z,bS G];exact ⟨by rw [O8,O8,O]; show b.1 :: _=a.1 :: _; rw [e1],RepL.cons J U⟩
     ·have G:¬ b.1=k:=fun h=>z (e1.symm.trans h)
      rw [bT z,bT G];exact ⟨by rw [O8,O8,O]; show b.1 :: _=a.1 :: _; rw [e1],RepL.cons Y U⟩
  exact j kvs vs r
 ·rw [bT q,bT q];refine ⟨?_,?_⟩
  ·rw [E5,E5,r.1]; rfl
  ·rw [E5,E5];exact r.2.append (RepL.cons J RepL.nil)
section
variable {X:Cx} {E:XK} {pos dpos tpos:Pos} {e i o k:aH} {m mi mo mk:ME}
def Q8c:ME:=fun Γ st=>.ok (.ref st.length) (st ++ [.dtp []])
theorem Q2x:SimE X E (.Dict [] [] dpos) Q8c:=⟨fun Γ σ H ρ st Q R G h=>WE.of Qia fun d hd=>by
 have x:Ext H ρ (upd H d (.dT [])) (ρ.add d):=Ext.addT hd;refine h _ _ x (R.addC hd ⟨_,Qp,rfl,rfl⟩) _ ⟨d,?_,rfl⟩;show (ρ.tr ++ [d])[st.length]?=zo d;rw [<- R.len,D6 (O4 _),cB]; rfl⟩
def zt (st:Q2):PV->Option (List (HK × PV))
 | .ref i=>match st[i]? with
  | some (.dtp kvs)=>zo kvs
  | _=>zb
 | _=>zb
theorem Q4z {H:Hp} {ρ:Tk} {st:Q2} {p:PV} {v:V} {kvs:List (HK × PV)} (R:Rel H ρ st) (r:Rep H ρ p v) (e:zt st p=zo kvs):∃ i a vs,p=.ref i/\v=.ref a/\ρ.tr[i]?=zo a/\st[i]?=zo (.dtp kvs)/\H a=zo (.dT vs)/\RepD H ρ kvs vs:=by
 cases p with
 | ref i=>
  obtain ⟨a,q,rfl⟩:=r;unfold zt at e;cases z:st[i]? with
  | none=>simp only [z] at e; cases e
  | some c=>
   simp only [z] at e;cases c with
   | dtp G=>
    cases e;obtain ⟨b,vs,j,J,O⟩:=R.dtp z;rw [q] at j;cases j;exact ⟨i,a,vs,rfl,rfl,q,z,J,O⟩
   | lst xs=>cases e
   | dic xs=>cases e
   | frd xs=>cases e
   | obj C xs=>cases e
 | _=>cases e
def Q50 (st:Q2) (p q v:PV):Option Q2:=match p with
 | .ref n=>match zt st (.ref n),Q02 q with
  | some kvs,zo k=>if kvs.length < lim then zo (st.set n (.dtp (putT kvs k v))) else zb
  | _,_=>zb
 | _=>zb
def Q0w (mo mi m:ME):MS:=fun Γ st=>(m Γ st).sbind fun v st1=>(mo Γ st1).sbind fun p st2=>(mi Γ st2).sbind fun q st3=>match Q50 st3 p q v with
 | some st4=>.nx Γ st4
 | none=>.stuck
theorem Q2r (hu:X.A.units + 9 < aU) (he:SimE X E e m) (ho:SimE X E o mo) (hi:SimE X E i mi) (hs:swapsWith e (zo (.Subscript o i tpos)) pos.line X.env=pure yl:=by rfl):SimS X E (.Assign [.Subscript o i tpos] e pos) (Q0w mo mi m):=
 ⟨fun Γ σ H ρ st D R G h=>WS.of (Qmr hu Zb Zb Zb hs) (he.use R G h.bind fun v a5 H1 ρ1 z x1 R1 G1 r1 h1=>ho.use R1 G1 h1.bind fun p a1 H2 a4 x x2 R2 G2 r2 h2=>hi.use R2 G2 h2.bind fun q J H3 j y x3 R3 G3 r3 O=>by
  cases es:Q50 J p q v with
  | none=>rw [es] at O; exact O.elim
  | some a2=>
   rw [es] at O;unfold Q50 at es
   split at es
   ·rename_i n
    split at es
    ·rename_i kvs k e1 e2
     split at es
     ·rename_i hl;cases es;obtain ⟨n',a,vs,en,rfl,ea,a3,Y,rd⟩:=Q4z R3 (r2.ext x3) e1;cases en;obtain ⟨b,rfl,Z⟩:=Q4p e2 r3;have U:Ext H3 j (upd H3 a (.dT (Kn vs k z))) j:=Ext.put (D9 ea) Y;have rz:=(r1.ext (x2.trans x3)).ext U;have R4:Rel (upd H3 a (.dT (Kn vs k z))) j (J.set n (.dtp (putT kvs k v))):=R3.putC ea Y ⟨_,Qp,Qhg (rd.ext U) k rz⟩;refine ⟨a,_,rfl,DPut.t Y Z (by rw [<- rd.length]; exact D0 hl Q8f),O σ _ j U R4 (G3.ext U)⟩
     ·cases es
    ·cases es
   ·cases es)⟩
theorem Q6y {H:Hp} {ρ:Tk} {st:Q2} (R:Rel H ρ st) (b:aB) (xs:List V) (h:H b=zo (.tup xs)):b∉ρ:=fun z=>by
 rcases z with z | z
 ·obtain ⟨i,hi,e⟩:=F8 z;have hs:i < st.length:=by rw [<- R.len]; exact hi
  have q:=R.cell i b st[i] (by rw [O0 hi,e]) (O0 hs);cases j:st[i] with
  | lst xs=>rw [j] at q; obtain ⟨vs,h1,_⟩:=q; rw [h] at h1; cases h1
  | dic xs=>rw [j] at q; obtain ⟨vs,h1,_⟩:=q; rw [h] at h1; cases h1
  | dtp xs=>rw [j] at q; obtain ⟨vs,h1,_⟩:=q; rw [h] at h1; cases h1
  | frd xs=>rw [j] at q; obtain ⟨vs,⟨_,h1⟩,_⟩:=q; rw [h] at h1; cases h1
  | obj C xs=>rw [j] at q; obtain ⟨vs,⟨_,h1⟩,_⟩:=q; rw [h] at h1; cases h1
 ·obtain ⟨o,h1,h2⟩:=R.hd b z;rw [h] at h1;cases h1;exact h2 xs rfl
end
section
variable {H0 H:Hp} {ρ0 ρ:Tk} {st:Q2} {a:aB} {ps:List (HK × PV)} {vs:List (HK × V)}
end
section
variable {X:Cx} {E:XK} {k e:aH} {mk m:ME} {dpos:Pos}
end
section
variable {X:Cx} {E:XK}
end
section
variable {X:Cx} {E:XK} {a:aH} {ma:ME} {pos:Pos}
end
end Sm
namespace Sm
open PySem PySem.Spec PyProof.Rows L2
section
variable {X:Cx} {E:XK}
end
end Sm
namespace Sm
open PySem PySem.Spec L2 SeqAt
section
variable {X:Cx} {E:XK}
variable {o:aH} {mo:ME} {apos cpos:Pos}
end
end Sm
namespace Sm
open PySem PySem.Spec L2 SeqAt
section
variable {X:Cx} {E:XK}
variable {e o i:aH} {m mo mi:ME} {pos tpos:Pos}
end
end Sm
namespace L2
open PySem PySem.Spec PyProof.Rows
end L2
namespace Sm
open PySem PySem.Spec PyProof.Rows L2
section
variable {X:Cx} {E:XK} {pos:Pos} {e:aH} {m:ME}
end
end Sm
namespace Sm
open PySem PySem.Spec PyProof.Rows L2
section
variable {X:Cx} {E:XK} {tg:aH} {a b c:aH} {mr:ML} {p pos:Pos}
end
end Sm
namespace Sm
open PySem PySem.Spec L2
section
variable {X:Cx} {E:XK} {o:aH} {mo:ME} {apos cpos:Pos} {to:TE}
end
structure DefX (P:aK) (w:aJ) (K:bW) (mg:Str->Option aA) (base:Heap) (k:Nat) (x:Str) (ps:List Str) (sp:Sp):Prop where
 ex:∃ (f:aB) (fd:aO),FnOk P w K mg base (CXD P w) k f fd ps sp/\mg x=zo (.ref f)/\cM K (.ref f)=yo/\Binds K fd ps []
theorem Jc {H0 H:Hp} (h:Same H0 H) {p:aB} {o:HO} (hp:H p=zb):Same H0 (upd H p o):=fun b u e=>by
 have:=h b u e;rw [Qf fun z=>by rw [z,hp] at this; cases this]; exact this
structure Nms (mg:Str->Option aA) (c:Nat->aB):Prop where
 m0:mg "WharfError" = zo (.ref (c 0))
 m1:mg "NoTable" = zo (.ref (c 1))
 m2:mg "NoHouse" = zo (.ref (c 2))
 m3:mg "NoDeed" = zo (.ref (c 3))
 m4:mg "NoLetter" = zo (.ref (c 4))
 m5:mg "NoStand" = zo (.ref (c 5))
 m6:mg "NoRoad" = zo (.ref (c 6))
 m7:mg "NoPlan" = zo (.ref (c 7))
 m8:mg "NoBook" = zo (.ref (c 8))
 m9:mg "NoManner" = zo (.ref (c 9))
 m10:mg "TooMany" = zo (.ref (c 10))
 m11:mg "NoText" = zo (.ref (c 11))
 m12:mg "NoRow" = zo (.ref (c 12))
 m13:mg "NoName" = zo (.ref (c 13))
 m14:mg "Short" = zo (.ref (c 14))
 ve:mg "ValueError" = zb
 isi:mg "isinstance" = zb
structure TgtS (K:bW) (c:Nat->aB) (t:Nat):Prop where
 xc:XCls K (c t)
 ve:bi K (.ref (c t)) (.type "ValueError")=zo yo
 ex:eI K (.ref (c t)) (.ref (c 0))=zo yo
 k:∀ i,1<=i->i<=14->bi K (.ref (c t)) (.ref (c i))=zo (decide (i=t))
theorem Q22:aX "ValueError" = zo (.type "ValueError"):=by decide +kernel
theorem J2 {H:Hp} {e p:aB} {v o:HO} (h:H e=zo v) (hp:H p=zb):upd H p o e=zo v:=by
 rw [Qf fun z=>by rw [z,hp] at h; cases h]; exact h
theorem noB (bs:List Bool) (j:Nat) (h:(bs.take j).all (fun b=>!b)=yo) (G:j<=bs.length):∀ m,m < j->bs[m]?=zo yl:=fun m hm=>by
 have z:m < bs.length:=by omega
 have:=E7.mp h (bs[m]) (List.mem_take_iff_getElem.mpr ⟨m,by omega,rfl⟩);rw [O0 z];cases q:bs[m] with
 | false=>rfl
 | true=>rw [q] at this; cases this
section
variable {X:Cx}
def Qpv (ss:List Str):TA:=fun σ H Q=>Q (ss.map V.str) H
theorem Qdn:∀ (l:List (Str × Nat × Pos)),PA X (l.map fun p=>Expr.Constant (.str p.1) p.2.1 p.2.2) (Qpv (l.map (·.1)))
 | []=>fun pos pins s σ H Q I h=>Js pos pins s σ H Q I h
 | (x,j,p) :: l=>fun pos pins s σ H Q I h=>Qt (e:=.Constant (.str x) j p) Q7r (Qdn l) rfl pos pins s σ H Q I h
theorem Q9z (ss:List Str) (l:List (Nat × Pos)) {es:List aH} (h:es=(ss.zip l).map (fun p=>Expr.Constant (.str p.1) p.2.1 p.2.2)) (j:ss.length=l.length:=by rfl):PA X es (Qpv ss):=by
 have e:((ss.zip l).map fun p=>((p.1,p.2.1,p.2.2):Str × Nat × Pos)).map (fun p=>Expr.Constant (.str p.1) p.2.1 p.2.2)=es:=by rw [h,cF]; rfl
 have e2:((ss.zip l).map fun p=>((p.1,p.2.1,p.2.2):Str × Nat × Pos)).map (·.1)=ss:=by
  rw [cF];show (ss.zip l).map bu=ss;exact List.map_fst_zip (by omega)
 have:=Qdn (X:=X) ((ss.zip l).map fun p=>(p.1,p.2.1,p.2.2))
 rw [e,e2] at this;exact this
end
section
variable {H:Hp} {ρ:Tk}
end
section
variable {X:Cx} {E:XK} {o e:aH} {es:List aH} {mo m:ME} {mr:Gam->Q2->Res (List PV)} {C:aB} {f:Str} {pos pos' apos p:Pos}
end
section
variable {X:Cx} {E:XK}
end
section
variable {X:Cx} {E:XK} {pos:Pos} {e:aH} {m:ME}
end
section
end
section
variable {X:Cx} {E:XK}
end
section
variable {X:Cx} {pins pins':List (aB × Obj)} {E:XK} {σ:St} {H:Hp} {s:aC}
end
section
variable {X:Cx} {body:List aL} {mb:MS} {cn n:Str} {i:Nat} {CC:aB} {np hpos pos:Pos} {b₀:aL} {suite:List aL} {ts:aB->TS} {Γ:Gam} {σ:St} {H:Hp} {ρ:Tk} {st:Q2} {D:Ends}
end
section
variable {X:Cx} {E:XK}
end
def qf:MS:=fun _ _=>.stuck
theorem Wr {X:Cx} {E:XK} {ss:List aL}:SimB X E ss qf:=⟨fun _ _ _ _ _ _ _ _ h=>h.elim⟩
end Sm
namespace Sm
open PySem PySem.Spec PyProof.Rows L2
section
variable {X:Cx} {E:XK}
end
end Sm
namespace Sm
open PySem PySem.Spec L2
section
variable {X:Cx} {E:XK} {pos:Pos} {tg:aH} {e a b:aH} {m ma mb:ME}
def Qfs:OP:=fun st p q=>match p,q with
 | .int a,.int b=>.ok (.bl (decide (a<=b))) st
 | .str a,.str b=>.ok (.bl (!decide (b.cps.toList < a.cps.toList))) st
 | _,_=>.stuck
theorem Qih:OpS X E (aV .LtE) Qfs:=⟨fun H ρ st p q x y Q R z j h=>by
 unfold Qfs at h
 split at h
 ·cases z; cases j;exact WO.of Qq7 ⟨_,_,rfl,rfl,now R h rfl⟩
 ·cases z; cases j;exact WO.of Qfj ⟨_,_,rfl,rfl,now R h rfl⟩
 ·exact h.elim⟩
def Qne:OP:=fun st p q=>match p,q with
 | .str z,.int i=>match atI z.cps.toList i with
  | some c=>if z.length<=lim then .ok (.str ⟨#[c]⟩) st else .stuck
  | none=>.stuck
 | _,_=>.stuck
theorem Qqr (J:SimE X E a ma) (O:SimE X E b mb) (hs:Q2c b:=by exact fun _ _=>rfl):SimE X E (.Subscript a b pos) (mOp Qne ma mb):=
 ⟨fun Γ σ H ρ st Q R G h=>WE.of (Qi8 Qja Zb Zb hs) (J.use R G h.bind fun p a2 H1 ρ1 v x1 R1 Z r1 h1=>O.use R1 Z h1.bind fun q Y H2 a1 u x2 R2 G2 j h2=>by
  unfold Qne at h2
  split at h2
  ·rename_i z i;cases r1; cases j
   split at h2
   ·rename_i c U
    split at h2
    ·rename_i hl;exact .inr (.inr ⟨z,i,c,rfl,rfl,V0 hl,U,now R2 h2 rfl⟩)
    ·exact h2.elim
   ·exact h2.elim
  ·exact h2.elim)⟩
def qu (x:Str):List PV:=x.cps.toList.map fun c=>.str ⟨#[c]⟩
def Qdu (m:ME):MI:=fun Γ st=>(m Γ st).bind fun p st1=>match p with
 | .str x=>if x.length<=lim then .ok (qu x,[]) st1 else .stuck
 | _=>.stuck
theorem Qky {H:Hp} {ρ:Tk} (x:Str):Src (Qsq x) (qu x) [] H ρ:=by
 have O:(qu x).length=x.cps.size:=by unfold qu; rw [O3,bj]
 refine ⟨fun H2 j q _ _ _=>?_,fun H2 j q _ _ _ i hi=>?_,fun H2 j q _ _ _ i p hp y J z=>?_⟩
 ·show x.cps.size<=_; omega
 ·show i < x.cps.size; omega
 ·obtain ⟨rfl,c,G,rfl⟩:=z;refine ⟨Same.refl _,?_⟩;unfold qu at hp;rw [D2,bp,G] at hp;cases hp;exact rfl
theorem Qqq (O:SimE X E e m):SimI X E tg e (Qdu m):=⟨fun Γ σ H ρ st P R' R G h k=>by
 have U:Acc X.mg E H ρ _ (m Γ st):=Acc.bind h;refine WI.of (Qr2 Zb) (O.use' R G U fun p j H1 ρ1 v eq x1 z Y Z h1=>?_)
 split at h1
 ·rename_i x
  split at h1
  ·rename_i J;cases Z;have q:(qu x).length<=lim:=by unfold qu; rw [O3,bj]; exact J
   exact ⟨x,rfl,k (qu x,[]) j H1 ρ1 _ (by simp only [Qdu,eq,Res.bind,bS J]) x1 z Y (Jr _) (V0 q) (Qky x) (h1 H1 ρ1 (Ext.refl _ _) z)⟩
  ·exact h1.elim
 ·exact h1.elim⟩
def Q1a:List PV->Option (List Str)
 | []=>zo []
 | .str x :: r=>(Q1a r).map (x :: ·)
 | _ :: _=>zb
theorem Q5u {H:Hp} {ρ:Tk}:∀ {ps:List PV} {ss:List Str} {vs:List V},Q1a ps=zo ss->RepL H ρ ps vs->vs=ss.map V.str
 | [],_,_,e,r=>by cases e; exact r
 | .str x :: ps,_,_,e,⟨v,t,e1,q,j⟩=>by
  have e:(Q1a ps).map (x :: ·)=zo _:=e;cases z:Q1a ps with
  | none=>rw [z] at e; cases e
  | some l=>
   rw [z] at e;cases e;rw [e1,Q5u z j,show v=V.str x from q];rfl
def Qiv (sep:Str) (st:Q2) (ps:List PV):Res PV:=match ps with
 | [p]=>match (Wf st p).bind Q1a with
  | some ss=>if JoinOk sep ss=yo then .ok (.str (Txt.join sep ss)) st else .stuck
  | none=>.stuck
 | _=>.stuck
def Qdx (mo:ME) (mr:Gam->Q2->Res (List PV)):ME:=fun Γ st=>(mo Γ st).bind fun p st1=>match p with
 | .str sep=>(mr Γ st1).bind fun ps st2=>Qiv sep st2 ps
 | _=>.stuck
variable {o:aH} {es:List aH} {mo:ME} {mr:Gam->Q2->Res (List PV)} {apos cpos:Pos}
theorem Qm9 (ho:SimE X E o mo) (ha:SimA X E (e :: es) mr)
  (J:bJ o "join" X.env (aP o X.env)=aP o X.env:=by rfl)
  (O:((aY cpos (aN (e :: es) X.env)).all (fun x=>!x.1) && (backToKw cpos (keywordEach [] X.env)).all (fun x=>x.1.isSome)
   && decide ((e :: es).length + ([]:List Keyword).length + (if ([]:List Keyword).isEmpty then 0 else 1) < 30))=yo:=by rfl)
  (z:(apos.endLine == cpos.line)=yo:=by rfl) (hs:aN (e :: es) X.env=(yl,aP e X.env) :: aN es X.env:=by rfl) (j:(aY cpos (aN es X.env)).any (·.1)=yl:=by rfl) :
  SimE X E (.Call (.Attribute o "join" apos) (e :: es) [] cpos) (Qdx mo mr):=
 ⟨fun Γ σ H ρ st Q R G h=>WE.of (Qdk PySem.F.plainAttrs_str PySem.F.slot_str_join PySem.F.type_str_join Qng Zb Q3t J O z hs j) (ho.use R G h.bind fun p a2 H1 ρ1 v x1 R1 G1 r1 h1=>by
  split at h1
  ·rename_i Z;cases r1;refine ⟨rfl,ha.use R1 G1 h1.bind fun ps U H2 a1 us x2 R2 G2 r2 h2=>?_⟩;unfold Qiv at h2
   split at h2
   ·rename_i q;obtain ⟨y,rfl,ry⟩:=Yc r2
    split at h2
    ·rename_i ss es
     split at h2
     ·rename_i hz;cases Y:Wf U q with
      | none=>rw [Y] at es; cases es
      | some xs=>
       rw [Y] at es;obtain ⟨c,vs,rfl,hc,rc⟩:=Um R2 ry Y;rw [Q5u es rc] at hc;exact ⟨Z,c,ss,rfl,rfl,.inl hc,hz,now R2 h2 rfl⟩
     ·exact h2.elim
    ·exact h2.elim
   ·exact h2.elim
  ·exact h1.elim)⟩
end
end Sm
namespace L2
open PySem PySem.Spec PyProof.Rows PySem.W
def SzS (h:Heap) (a:aB) (n:Nat):Prop:=∃ o es ep t,h.get? a=zo o/\o.ExactSet/\o.data=.set es ep t/\t.fits es.size=yo/\es.size=n
def Q8r (a:aB) (n:Nat):HO:=.ext fun h=>SzS h a n
section
variable {X:Cx}
theorem Qgk (hu:X.A.units + 9 < aU) (hc:X.calm=yo):V8 X (.type "set") (fun xs H Q=>∃ p vs,∃ ks:List HK,xs=[.ref p]/\SqT X.K H p vs/\aS (fun v k=>∃ b,v=.ref b/\KR H k b) vs ks/\ks.length<=76/\∀ l,H l=zb->Q (.ref l) (upd H l (Q8r l (Yj ks).length))):=by
 intro pins s σ H xs us Q I r h;obtain ⟨p,vs,ks,rfl,hq,O,hl,q⟩:=h;obtain ⟨u,rfl,G⟩:=K3 r;cases G;obtain ⟨its,J,pl,hz⟩:=I.tuple hq;have j:its.length=ks.length:=by rw [<- J.length,Paired.length O]
 refine zj (B:=fun _=>True) (ks:=ks) hu (I.ok.hd hc) pl (by rw [O6,j]) (fun i v e=>?_) hl fun h' tk Z k=>?_
 ·have e:its[i]?=zo v:=by simpa using e
  have hi:i < vs.length:=by have:=(O1.mp e).1; rw [J.length]; exact this
  obtain ⟨x,ex,G⟩:=J.get (O0 hi);rw [e] at ex; cases ex;obtain ⟨k,ek,b,eb,U⟩:=Kp O (O0 hi);rw [eb] at G;cases G;exact ⟨k,b,ek,rfl,ym I.hok U,trivial⟩
 ·obtain ⟨o,es,ep,t,h1,h2,h3,⟨Y,p1,r1⟩,h5,h6⟩:=Z;have sz:SzS h' s.heap.objs.size (Yj ks).length:=⟨o,es,ep,t,h1,h2,h3,by have:=h6.fits; rwa [O3,bj] at this,by rw [<- bj,Paired.length r1,p1.length_eq]⟩;refine ⟨.ref s.heap.objs.size,upd H s.heap.objs.size (Q8r s.heap.objs.size (Yj ks).length),I.laid (t':=tk) k (O4 _) ⟨sz,⟨o,h1⟩,fun h1 h2 z kk=>?_⟩,rfl,q _ (I.hok.fresh (O4 _))⟩
  obtain ⟨o,es,ep,t,g1,g2⟩:=z;exact ⟨o,es,ep,t,kk _ g1,g2⟩
theorem Qgn:V8 X (.builtin "len") (fun xs H Q=>∃ p n,xs=[.ref p]/\H p=zo (Q8r p n)/\n<=4000/\Q (.int n) H):=by
 intro pins s σ H xs J Q I r h;obtain ⟨p,n,rfl,hp,O,q⟩:=h;obtain ⟨u,rfl,j⟩:=K3 r;cases j;obtain ⟨⟨o,es,ep,t,h1,h2,G,z,rfl⟩,_,_⟩:=I.hok p _ hp;exact call_len_set h1 h2 G z (by omega) ⟨.int _,H,I.tok _,⟨s.toks + 1,rfl⟩,q⟩
theorem Qcq (hc:X.calm=yo):V8 X (.type "list") (fun xs H Q=>∃ a,∃ kvs:List (HK × V),xs=[.ref a]/\H a=zo (.dT kvs)/\∀ d vs,H d=zb->aS (fun v (p:HK × V)=>∃ b,v=.ref b/\KR H p.1 b) vs kvs->Q (.ref d) (upd H d (.lst vs))):=by
 intro pins s σ H xs us Q I r h;obtain ⟨a,kvs,rfl,ea,q⟩:=h;obtain ⟨u,rfl,rx⟩:=K3 r;cases rx;obtain ⟨z,hs,es,ep,G,U,J,j⟩:=Qk2 I.hok ea;have Y:kvs.length=G.length:=Paired.length j;have l2:es.size=G.length:=by
  have:=congrArg dY J;simpa using this
 refine kdl_call (Qdc hs) (I.ok.hd hc) U (by omega) fun h' tk acc c k1 k2 k3=>?_
 have e:acc.toList=G.map ba:=by
  rw [<- J];apply dB;intro i
  by_cases z:i < es.size
  ·have hi:i < acc.size:=by rw [k3.1]; exact z
   obtain ⟨e,h1,h2⟩:=k3.2 i acc[i] (bq hi);rw [bp,bq hi,h2,D2,bp,h1]; rfl
  ·rw [bp,cp (by rw [k3.1]; omega),D2,bp,cp (by omega)]; rfl
 have Z:Vals (G.map V.ref) acc.toList:=by
  rw [e];clear e j Y l2 J
  induction G with
  | nil=>exact .nil
  | cons x l O=>exact .cons rfl O
 have hp:aS (fun v (p:HK × V)=>∃ b,v=.ref b/\KR H p.1 b) (G.map V.ref) kvs:=by
  clear e Z k3 k2 k1 J Y l2 q ea z
  induction j with
  | nil=>exact .nil
  | cons U _ O=>exact .cons ⟨_,rfl,U⟩ O
 refine ⟨.ref s.heap.objs.size,_,I.laid (t':=tk) (o:=.lst (G.map V.ref)) k1 (O4 _) ⟨by rw [O3]; omega,acc.toList,c,Z,?_⟩,rfl,q _ _ (I.hok.fresh (O4 _)) hp⟩;rw [Array.toArray_toList]; exact k2
end
end L2
namespace Sm
open PySem PySem.Spec L2
section
variable {X:Cx} {E:XK} {a b:aH} {ma mb:ME} {pos:Pos}
def Q4d (ma:ME):ME:=fun Γ st=>(ma Γ st).bind fun p st1=>match p with
 | .tup ps=>match Ui Q02 ps with
  | some ks=>if ks.length<=76 then .ok (.int (Yj ks).length) st1 else .stuck
  | none=>.stuck
 | _=>.stuck
theorem Qac {H:Hp} {ρ:Tk}:∀ {ps:List PV} {ks:List HK} {vs:List V},Ui Q02 ps=zo ks->RepL H ρ ps vs->aS (fun v k=>∃ b,v=.ref b/\KR H k b) vs ks
 | [],_,_,e,r=>by cases e; cases r; exact .nil
 | p :: ps,_,_,e,⟨v,t,e1,q,j⟩=>by
  unfold Ui at e
  split at e
  ·rename_i k l e2 e3;cases e;rw [e1];exact .cons (Q4p e2 q) (Qac e3 j)
  ·cases e
theorem Qbn {p p' pos':Pos} (hu:X.A.units + 9 < aU) (Z:SimE X E a ma) (hc:X.calm=yo) (hg:Gl X "len") (hm:X.mg "len" = zb) (J:Gl X "set") (O:X.mg "set" = zb) (hb:aX "set" = zo (.type "set")) (Y:aN [a] X.env=(yl,aP a X.env) :: aN [] X.env:=by rfl)
  (j:aN [.Call (.Name "set" p') [a] [] pos'] X.env=(yl,aP (.Call (.Name "set" p') [a] [] pos') X.env) :: aN [] X.env:=by rfl):SimE X E (.Call (.Name "len" p) [.Call (.Name "set" p') [a] [] pos'] [] pos) (Q4d ma):=
 ⟨fun Γ σ H ρ st Q R G hq=>WE.of (Jt Qgn hg hm bn (Qt (jw (Qgk hu hc) J O hb (Qt Zb Js Y) (by decide) (by decide) Y rfl) Js j) (by decide) (by decide) j rfl) (Z.use' R G hq.bind fun q a1 H1 ρ1 v e1 x1 R1 G1 r1 h1=>by
  split at h1
  ·rename_i ps
   split at h1
   ·rename_i ks ek
    split at h1
    ·rename_i hl;obtain ⟨c,vs,rfl,z,_,rc⟩:=r1;refine ⟨c,vs,ks,rfl,SqT.of z,Qac ek rc,hl,fun l U=>⟨l,_,rfl,Qp,E3 (xx ks) (by omega),?_⟩⟩
     exact h1 _ _ (Ext.hide U) (R1.hide U) _ rfl
    ·exact h1.elim
   ·exact h1.elim
  ·exact h1.elim)⟩
@[simp] theorem Qq9 (ma:ME) (Γ:Gam) (st:Q2):Q4d ma Γ st=(ma Γ st).bind fun p j=>match p with
 | .tup ps=>match Ui Q02 ps with
  | some ks=>if ks.length<=76 then .ok (.int (Yj ks).length) j else .stuck
  | none=>.stuck
 | _=>.stuck:=rfl
mutual
def hkV:HK->PV
 | .int i=>.int i
 | .str x=>.str x
 | .tup l=>.tup (hkVL l)
def hkVL:List HK->List PV
 | []=>[]
 | k :: l=>hkV k :: hkVL l
end
mutual
theorem Qe6 {H:Hp} {ρ:Tk} (o:∀ b xs,H b=zo (.tup xs)->b∉ρ):∀ {k:HK} {v:V},KAt H k v->Rep H ρ (hkV k) v
 | .int _,_,r=>r
 | .str _,_,r=>r
 | .tup _,_,⟨a,vs,e,h,r⟩=>⟨a,vs,e,h,o a vs h,hkVL_rep o r⟩
theorem hkVL_rep {H:Hp} {ρ:Tk} (o:∀ b xs,H b=zo (.tup xs)->b∉ρ):∀ {l:List HK} {vs:List V},KAtL H l vs->RepL H ρ (hkVL l) vs
 | [],_,r=>r
 | _ :: _,_,⟨v,r,e,h,t⟩=>⟨v,r,e,Qe6 o h,hkVL_rep o t⟩
end
def Q93:CF:=fun st ps=>match ps with
 | [p]=>match zt st p with
  | some kvs=>.ok (.lst (kvs.map fun kv=>hkV kv.1)) st
  | none=>.stuck
 | _=>.stuck
theorem Q6d {H:Hp} {ρ:Tk} (o:∀ b xs,H b=zo (.tup xs)->b∉ρ):∀ {kvs:List (HK × PV)} {j:List (HK × V)} {vs:List V},RepD H ρ kvs j->aS (fun v (p:HK × V)=>∃ b,v=.ref b/\KR H p.1 b) vs j->RepL H ρ (kvs.map fun kv=>hkV kv.1) vs
 | [],[],_,_,p=>by cases p; rfl
 | [],b :: j,_,r,_=>by have:=r.length; cases this
 | a :: kvs,[],_,r,_=>by have:=r.length; cases this
 | a :: kvs,b :: j,_,r,.cons h t=>by
  obtain ⟨G,x,J,e,U,z⟩:=r;obtain ⟨e1,e2⟩:=cU (show b.1 :: j.map bu=a.1 :: kvs.map bu from G);obtain ⟨e3,O⟩:=cU (show b.2 :: j.map dC=x :: J from e);subst O;obtain ⟨c,rfl,q⟩:=h;refine RepL.cons ?_ (Q6d o ⟨e2,z⟩ t);show Rep H ρ (hkV a.1) _;rw [<- e1];exact Qe6 o q.1
theorem Qk8 (J:X.calm=yo):CallS X E (.type "list") Q93:=⟨fun H ρ st ps xs Q R q h=>by
 unfold Q93 at h
 split at h
 ·rename_i p;obtain ⟨v,rfl,r⟩:=Yc q
  split at h
  ·rename_i kvs e;obtain ⟨n,a,vs,rfl,rfl,_,_,j,z⟩:=Q4z R r e;exact WC.of (Qcq J) ⟨a,vs,rfl,j,fun d O hd G=>Ks R h (Q6d (Q6y R) z G) d hd⟩
  ·exact h.elim
 ·exact h.elim⟩
end
structure TupG (K:bW) (mg:Str->Option aA) (n:Str) (ss:List Str):Prop where
 ex:∃ (a:aB) (o:Obj) (its:Array aA) (m:Nat),mg n=zo (.ref a)/\K.lookup a=zo o/\o.cls=.type "tuple" /\ o.data=.seq its m/\its.size<=sizeLine/\Vals (ss.map V.str) its.toList
def Kw (ss:List Str) (x:Str):Bool:=ss.any fun s=>decide (s=x)
def Qag (neg:Bool) (ss:List Str) (m:ME):ME:=fun Γ st=>(m Γ st).bind fun p st1=>match p with
 | .str x=>.ok (.bl (Kw ss x != neg)) st1
 | _=>.stuck
theorem Q4t (x:Str):∀ ss:List Str,inV (.str x) (ss.map V.str)=Kw ss x
 | []=>rfl
 | s :: ss=>by
  have j:=Q4t x ss;unfold inV Kw at *;rw [O8,cm,cm,j];congr 1
section
variable {X:Cx} {E:XK} {pos p:Pos} {e:aH} {m:ME} {n:Str} {ss:List Str}
theorem Qqs (tg:TupG X.K X.mg n ss) (J:Gl X n) (O:SimE X E e m) (hd:(n == ("__debug__" : Str))=yl:=by decide):SimE X E (.Compare e [.In] [.Name n p] pos) (Qag yl ss m):=by
 obtain ⟨a,o,its,k,hm,U,hc,j,hz,Z⟩:=tg.ex;refine ⟨fun Γ σ H ρ st Q R G h=>WE.of (Q7t Qfk Zb (Zr (v:=.ref a) J hm rfl hd) rfl) (O.use R G h.bind fun q z H1 ρ1 v x1 R1 G1 Y h1=>?_)⟩;cases q with
 | str x=>
  cases Y;have h1:Acc X.mg E H1 ρ1 (QV Q) (.ok (.bl (Kw ss x != yl)) z):=h1;refine ⟨a,ss.map V.str,rfl,.inr (.inr ⟨o,its,k,U,hc,j,hz,Z⟩),rfl,by simp [zq],?_⟩;rw [Q4t];rw [dk] at h1;exact now R1 h1 rfl
 | _=>exact h1.elim
theorem Qf3 (tg:TupG X.K X.mg n ss) (J:Gl X n) (O:SimE X E e m) (hd:(n == ("__debug__" : Str))=yl:=by decide):SimE X E (.Compare e [.NotIn] [.Name n p] pos) (Qag yo ss m):=by
 obtain ⟨a,o,its,k,hm,U,hc,j,hz,Z⟩:=tg.ex;refine ⟨fun Γ σ H ρ st Q R G h=>WE.of (Q7t Q7x Zb (Zr (v:=.ref a) J hm rfl hd) rfl) (O.use R G h.bind fun q z H1 ρ1 v x1 R1 G1 Y h1=>?_)⟩;cases q with
 | str x=>
  cases Y;have h1:Acc X.mg E H1 ρ1 (QV Q) (.ok (.bl (Kw ss x != yo)) z):=h1;refine ⟨a,ss.map V.str,rfl,.inr (.inr ⟨o,its,k,U,hc,j,hz,Z⟩),rfl,by simp [zq],?_⟩;rw [Q4t];rw [show (Kw ss x != yo)=!Kw ss x by cases Kw ss x <;> rfl] at h1;exact now R1 h1 rfl
 | _=>exact h1.elim
end
section
variable {X:Cx} {E:XK}
def prV (p:Int × Str):PV:=.tup [.int p.1,.str p.2]
def Qcf:HK->Option (Int × Str)
 | .tup [.int x,.str y]=>zo (x,y)
 | _=>zb
def Q6c:List (HK × PV)->Option (List (Int × Str))
 | []=>zo []
 | kv :: r=>match Qcf kv.1,Q6c r with
  | some p,zo l=>zo (p :: l)
  | _,_=>zb
theorem Qnx {k:HK} {p:Int × Str} (h:Qcf k=zo p):k=.tup [.int p.1,.str p.2]:=by
 unfold Qcf at h
 split at h
 ·cases h; rfl
 ·cases h
theorem Qam {H:Hp} {ρ:Tk}:∀ {kvs:List (HK × PV)} {vs:List (HK × V)} {nss:List (Int × Str)},Q6c kvs=zo nss->RepD H ρ kvs vs->aS (fun (p:HK × V) (ns:Int × Str)=>p.1=.tup [.int ns.1,.str ns.2]) vs nss
 | [],[],_,e,_=>by cases e; exact .nil
 | [],_ :: _,_,_,r=>by have:=r.length; cases this
 | _ :: _,[],_,_,r=>by have:=r.length; cases this
 | (k,p) :: kvs,(j,v) :: vs,nss,e,r=>by
  obtain ⟨G,x,t,J,U,z⟩:=r;obtain ⟨e1,e2⟩:=cU (show j :: vs.map bu=k :: kvs.map bu from G);obtain ⟨e3,O⟩:=cU (show v :: vs.map dC=x :: t from J);subst e3; subst O;unfold Q6c at e
  split at e
  ·rename_i q l h1 h2;cases e;exact .cons (show j=_ by rw [e1]; exact Qnx h1) (Qam h2 ⟨e2,z⟩)
  ·cases e
theorem Q3g {H:Hp} {ρ:Tk} (q:∀ b xs,H b=zo (.tup xs)->b∉ρ):∀ {vs:List V} {nss:List (Int × Str)},aS (fun (v:V) (ns:Int × Str)=>∃ b,v=.ref b/\H b=zo (.tup [.int ns.1,.str ns.2])) vs nss->RepL H ρ (nss.map prV) vs
 | [],[],.nil=>rfl
 | v :: vs,ns :: nss,.cons ⟨b,e,j⟩ t=>by
  subst e;exact RepL.cons ⟨b,_,rfl,j,q b _ j,RepL.cons rfl (RepL.cons rfl RepL.nil)⟩ (Q3g q t)
theorem Q3h {H:Hp} {ρ:Tk} {nss:List (Int × Str)} {vs:List V} (r:RepL H ρ (nss.map prV) vs):∀ (j:List Nat),(∀ x∈j,x < vs.length)->RepL H ρ ((j.map fun i=>nss.getD i dQ).map prV) (j.map fun i=>vs.getD i .non)
 | [],_=>rfl
 | x :: j,h=>by
  have G:=h x (by simp);have z:=r.length;rw [O3] at z;have e1:(nss.map prV)[x]?=zo (prV (nss.getD x dQ)):=by
   rw [D2,O0 (by omega),E2,O0 (by omega)]; rfl
  have e2:vs[x]?=zo (vs.getD x .non):=by rw [E2,O0 G]; rfl
  exact RepL.cons (r.i e1 e2) (Q3h r j fun y q=>h y (O5 _ q))
def jk:CF:=fun st ps=>match ps with
 | [p]=>match zt st p with
  | some kvs=>match Q6c kvs with
   | some nss=>if nss.length < 64 then .ok (.lst ((Ud nss).map prV)) st else .stuck
   | none=>.stuck
  | none=>.stuck
 | _=>.stuck
theorem Qau (hc:X.calm=yo):CallS X E (.builtin "sorted") jk:=⟨fun H ρ st ps xs Q R O h=>by
 unfold jk at h
 split at h
 ·rename_i p;obtain ⟨v,rfl,r⟩:=Yc O
  split at h
  ·rename_i kvs e
   split at h
   ·rename_i nss en
    split at h
    ·rename_i Z;obtain ⟨n,a,vs,rfl,rfl,_,_,J,rd⟩:=Q4z R r e;have j:=Qam en rd;have l2:vs.length=nss.length:=Paired.length j;refine WC.of (Q5r hc) ⟨a,vs,nss,rfl,J,by omega,j,fun d pp G hd z hp Y=>?_⟩;have rl:=Q3g (Q6y R) z;have U:G.length=nss.length:=Paired.length z;have q:=Q3h rl pp fun x hx=>by have:=hp.mem_iff.mp hx; rw [U]; simpa using this
     rw [Y] at q;exact Ks R h q d hd
    ·exact h.elim
   ·exact h.elim
  ·exact h.elim
 ·exact h.elim⟩
variable {o e:aH} {es:List aH} {mo:ME} {mr:Gam->Q2->Res (List PV)} {apos cpos:Pos}
end
section
variable {X:Cx} {E:XK} {a:aH} {ma:ME} {pos:Pos}
def Q9w:List PV->Option (List (Int × Str))
 | []=>zo []
 | .tup [.int x,.str y] :: r=>(Q9w r).map ((x,y) :: ·)
 | _ :: _=>zb
def kQ (p:Int × Str):HK:=.tup [.int p.1,.str p.2]
theorem Qs3 {p q:Int × Str} (h:kQ p=kQ q):p=q:=by
 unfold kQ at h;injection h with h
 injection h with h1 h
 injection h with h2 _
 injection h1 with h1
 injection h2 with h2
 exact dZ h1 h2
theorem Qpr (acc:List (Int × Str)) (p:Int × Str):Zf (acc.map kQ) (kQ p)=(Zf acc p).map kQ:=by
 unfold Zf
 by_cases q:p∈acc
 ·rw [bS q,bS (L4.mpr ⟨p,q,rfl⟩)]
 ·rw [bT q,bT,E5]
  ·rfl
  ·intro h;obtain ⟨x,j,e⟩:=L4.mp h;rw [Qs3 e] at j; exact q j
theorem Qni (ps:List (Int × Str)):Yj (ps.map kQ)=(Yj ps).map kQ:=by
 have j:∀ (ps acc:List (Int × Str)),(ps.map kQ).foldl Zf (acc.map kQ)=(ps.foldl Zf acc).map kQ:=by
  intro ps
  induction ps with
  | nil=>intro acc; rfl
  | cons p ps q=>intro acc; rw [O8,G7,G7,Qpr,q]
 exact j ps []
theorem Q9v {H:Hp} {ρ:Tk}:∀ {ps:List PV} {ns:List (Int × Str)} {vs:List V},Q9w ps=zo ns->RepL H ρ ps vs->aS (fun v k=>∃ b,v=.ref b/\KR H k b) vs (ns.map kQ)
 | [],_,_,e,r=>by cases e; cases r; exact .nil
 | .tup [.int x,.str y] :: ps,_,_,e,⟨v,t,e1,q,j⟩=>by
  have e:(Q9w ps).map ((x,y) :: ·)=zo _:=e;cases z:Q9w ps with
  | none=>rw [z] at e; cases e
  | some l=>
   rw [z] at e;cases e;subst e1;exact .cons (Q4p (p:=.tup [.int x,.str y]) rfl q) (Q9v z j)
theorem Qrx {H:Hp} {n:Int × Str} {b:aB} (h:KR H (kQ n) b):H b=zo (.tup [.int n.1,.str n.2]):=by
 obtain ⟨⟨c,vs,e,j,q,q1,e1,k1,z,q2,e2,k2,k3⟩,_⟩:=h;cases e;cases k1; cases k2; cases k3;subst e2; subst e1;exact j
theorem Qeh {H:Hp}:∀ {bs:List aB} {ks:List HK},aS (fun b k=>KR H k b) bs ks->∀ {ms:List (Int × Str)},ks=ms.map kQ->aS (fun b (n:Int × Str)=>H b=zo (.tup [.int n.1,.str n.2])) bs ms
 | [],_,.nil,[],_=>.nil
 | _ :: _,_ :: _,.cons _ _,[],e=>by cases e
 | [],_,.nil,_ :: _,e=>by cases e
 | b :: bs,k :: ks,.cons h t,m :: ms,e=>by
  rw [O8] at e;injection e with e1 e2
  exact .cons (Qrx (by rw [<- e1]; exact h)) (Qeh t e2)
theorem Qn2 {ks:List HK} {ns:List (Int × Str)} (p:ks.Perm (ns.map kQ)):∃ ms:List (Int × Str),ks=ms.map kQ/\ms.Perm ns:=by
 have h:∀ k∈ks,∃ n,k=kQ n:=fun k G=>by
  obtain ⟨n,_,e⟩:=L4.mp (p.mem_iff.mp G);exact ⟨n,e.symm⟩
 have h2:∃ ms:List (Int × Str),ks=ms.map kQ:=by
  clear p
  induction ks with
  | nil=>exact ⟨[],rfl⟩
  | cons k ks q=>
   obtain ⟨ms,e⟩:=q fun x z=>h x (O5 _ z)
   obtain ⟨n,e2⟩:=h k (by simp);exact ⟨n :: ms,by rw [O8,<- e,e2]⟩
 obtain ⟨ms,e⟩:=h2;refine ⟨ms,e,?_⟩;rw [e] at p;have j:∀ l:List (Int × Str),(l.map kQ).filterMap Qcf=l:=fun l=>by
  induction l with
  | nil=>rfl
  | cons x l q=>rw [O8,cf]; show (x :: (l.map kQ).filterMap Qcf)=_; rw [q]
 have:=p.filterMap Qcf
 rwa [j,j] at this
def jx (ma:ME):ME:=fun Γ st=>(ma Γ st).bind fun p st1=>match p with
 | .tup ps=>match Q9w ps with
  | some ns=>if ns.length < 64 then .ok (.lst ((Ud (Yj ns)).map prV)) st1 else .stuck
  | none=>.stuck
 | _=>.stuck
theorem Q9j {p p' pos':Pos} (hu:X.A.units + 9 < aU) (ha:SimE X E a ma) (hc:X.calm=yo) (hg:Gl X "sorted") (hm:X.mg "sorted" = zb) (O:aX "sorted" = zo (.builtin "sorted")) (a1:Gl X "set") (a2:X.mg "set" = zb) (J:aX "set" = zo (.type "set")) (he:aN [a] X.env=(yl,aP a X.env) :: aN [] X.env:=by rfl)
  (j:aN [.Call (.Name "set" p') [a] [] pos'] X.env=(yl,aP (.Call (.Name "set" p') [a] [] pos') X.env) :: aN [] X.env:=by rfl):SimE X E (.Call (.Name "sorted" p) [.Call (.Name "set" p') [a] [] pos'] [] pos) (jx ma):=
 ⟨fun Γ σ H ρ st Q R G hq=>WE.of (Jt (Q90 hc) hg hm O (Qt (jw (Qgm hu hc) a1 a2 J (Qt Zb Js he) (by decide) (by decide) he rfl) Js j) (by decide) (by decide) j rfl) (ha.use' R G hq.bind fun q a3 H1 ρ1 v e1 x1 R1 G1 r1 h1=>by
  split at h1
  ·rename_i ps
   split at h1
   ·rename_i ns ek
    split at h1
    ·rename_i hl;obtain ⟨c,vs,rfl,Z,_,rc⟩:=r1;refine ⟨c,vs,ns.map kQ,rfl,SqT.of Z,Q9v ek rc,by rw [O3]; omega,fun l bs a4 Y pk pb=>?_⟩;rw [Qni] at pk;obtain ⟨ms,rfl,pm⟩:=Qn2 pk;have a5:=xx ns;have lb:bs.length=ms.length:=by have:=Paired.length pb; rwa [O3] at this
     have U:=Qeh pb rfl;have up:∀ {b:aB} {xs:List V},H1 b=zo (.tup xs)->(upd H1 l (Q6g X.w l bs)) b=zo (.tup xs):=fun {b xs} J=>by rw [Qf (Qg J Y)]; exact J
     refine ⟨l,bs,ms,rfl,Qp,by rw [lb,pm.length_eq]; omega,Paired.mapP U fun _ _ z=>up z,fun d ds hd pd=>?_⟩;rw [zi pm] at pd;have x2:Ext H1 ρ1 (upd H1 l (Q6g X.w l bs)) (ρ1.hide l):=Ext.hide Y;have R2:Rel (upd H1 l (Q6g X.w l bs)) (ρ1.hide l) a3:=R1.hide Y;have rl:=Q3g (Q6y R2) pd;exact h1 _ _ (x2.trans (Ext.add hd)) (R2.add hd) _ ⟨d,ds,rfl,Qp,R2.fresh hd,rl.ext (Ext.add hd)⟩
    ·exact h1.elim
   ·exact h1.elim
  ·exact h1.elim)⟩
end
structure KR (b:Bool):Prop where
 h:b=yo
section
variable {X:Cx} {E:XK} {pos:Pos} {tg iter elt:aH} {ifs:List aH} {sc:Scope} {ga:GA} {mi:MI} {mt:MT} {me:ME} {cap:List (Option Nat)} {i:Nat} {x:Str} {px cpos:Pos}
end
structure AtS (K:bW) (mg:Str->Option aA) (name:Str) (st:aL) (ps:List Str) (f:aB) (fd:aO):Prop where
 F:Fun K name name st f fd
 m:mg name=zo (.ref f)
 b:Binds K fd ps []
theorem Qsm {K:bW} {mg:Str->Option aA} {h:Heap} {name:Str} {st:aL} {ps:List Str} {f:aB} {Y:aA} {Z z:Option aB} {U:Array (Option aA)} {kV q J j ct:aA} (X:K.In h) (G:h.Ns aQ mg)
  (a:bc K aQ name=zo (zo (.ref f))) (l:K.lookup f=zo ⟨Y,Z,.func (cA name name (W5 st) (Zk st) (Qb st) .none kV q J z j ct),U⟩) (c:cx K j name=yo) (k:cM K (.ref f)=yo)
  (b:∀ (kV q J:aA) (z:Option aB) (j ct:aA) (O:List aA),O.length=ps.length->bindArgs (cA name name (W5 st) (Zk st) (Qb st) .none kV q J z j ct) ⟨O,[]⟩=pure (ps.zip O)) :
  AtS K mg name st ps f (cA name name (W5 st) (Zk st) (Qb st) .none kV q J z j ct):=
 have F:=Qjp (st:=st) l c k
 ⟨F,bo X G a,F.binds b⟩
theorem AtS.def {P:aK} {w:aJ} {K:bW} {mg:Str->Option aA} {base:Heap} {name:Str} {st:aL} {ps:List Str} {f:aB} {fd:aO} {k n:Nat} {F:FN} (a:AtS K mg name st ps f fd) (j:ps.length=n) (G:FnOk P w K mg base (CXD P w) k f fd ps (spF mg n F)):DefS P w K mg base k name n F:=
 ⟨f,fd,ps,G,a.m,a.F.kp,a.b,j⟩
theorem AtS.defX {P:aK} {w:aJ} {K:bW} {mg:Str->Option aA} {base:Heap} {name:Str} {st:aL} {ps:List Str} {f:aB} {fd:aO} {k:Nat} {sp:Sp} (a:AtS K mg name st ps f fd) (G:FnOk P w K mg base (CXD P w) k f fd ps sp):DefX P w K mg base k name ps sp:=⟨f,fd,G,a.m,a.F.kp,a.b⟩
def FL (K:bW) (x ql:Str) (s:aL) (f:aB):Prop:=∃ (oc:aA) (od:Option aB) (kV dc pm:aA) (an:Option aB) (cd ct:aA) (sl:Array (Option aA)),K.lookup f=zo ⟨oc,od,.func (cA x ql (W5 s) (Zk s) (Qb s) .none kV dc pm an cd ct),sl⟩/\cx K cd ql=yo/\cM K (.ref f)=yo
theorem FL.fn {K:bW} {x j:Str} {s:aL} {f:aB} (h:FL K x j s f):∃ fd,Fun K x j s f fd:=let ⟨_,_,_,_,_,_,_,_,_,l,c,k⟩:=h; ⟨_,Qjp l c k⟩
def FA (K:bW) (x:Str) (s:aL) (f:aB):Prop:=bc K aQ x=zo (zo (.ref f))/\FL K x x s f
theorem FA.mk {K:bW} {x:Str} {s:aL} {f:aB} {q:aA} {J G:Option aB} {z:Array (Option aA)} {kV j O cd ct:aA} (a:bc K aQ x=zo (zo (.ref f))) (l:K.lookup f=zo ⟨q,J,.func (cA x x (W5 s) (Zk s) (Qb s) .none kV j O G cd ct),z⟩) (c:cx K cd x=yo) (k:cM K (.ref f)=yo):FA K x s f:=⟨a,_,_,_,_,_,_,_,_,_,l,c,k⟩
theorem ln1 {α:Type} {l:List α} (h:l.length=1):∃ a,l=[a]:=match l,h with | [_],_=>⟨_,rfl⟩
theorem ln2 {α:Type} {l:List α} (h:l.length=2):∃ a b,l=[a,b]:=match l,h with | [_,_],_=>⟨_,_,rfl⟩
theorem ln3 {α:Type} {l:List α} (h:l.length=3):∃ a b c,l=[a,b,c]:=match l,h with | [_,_,_],_=>⟨_,_,_,rfl⟩
theorem ln4 {α:Type} {l:List α} (h:l.length=4):∃ a b c d,l=[a,b,c,d]:=match l,h with | [_,_,_,_],_=>⟨_,_,_,_,rfl⟩
theorem ln5 {α:Type} {l:List α} (h:l.length=5):∃ a b c d e,l=[a,b,c,d,e]:=match l,h with | [_,_,_,_,_],_=>⟨_,_,_,_,_,rfl⟩
theorem ln6 {α:Type} {l:List α} (h:l.length=6):∃ a b c d e f,l=[a,b,c,d,e,f]:=match l,h with | [_,_,_,_,_,_],_=>⟨_,_,_,_,_,_,rfl⟩
theorem ln7 {α:Type} {l:List α} (h:l.length=7):∃ a b c d e f g,l=[a,b,c,d,e,f,g]:=match l,h with | [_,_,_,_,_,_,_],_=>⟨_,_,_,_,_,_,_,rfl⟩
theorem FL.bd {K:bW} {x G:Str} {s:aL} {f:aB} {ps:List Str} (h:FL K x G s f)
  (b:∀ (kV q O:aA) (J:Option aB) (z ct:aA) (j:List aA),j.length=ps.length->bindArgs (cA x G (W5 s) (Zk s) (Qb s) .none kV q O J z ct) ⟨j,[]⟩=pure (ps.zip j)):∃ fd,Fun K x G s f fd/\Binds K fd ps []:=
 let ⟨_,F⟩:=h.fn
 ⟨_,F,F.binds b⟩
theorem Zi {K:bW} {mg:Str->Option aA} {h:Heap} {name:Str} {st:aL} {f:aB} (ps:List Str) (X:K.In h) (G:h.Ns aQ mg) (a:FA K name st f)
  (b:∀ (kV J U:aA) (O:Option aB) (z ct:aA) (q:List aA),q.length=ps.length->bindArgs (cA name name (W5 st) (Zk st) (Qb st) .none kV J U O z ct) ⟨q,[]⟩=pure (ps.zip q):=by
   intro _ _ _ _ _ _ q j
   first | (obtain ⟨_,rfl⟩:=ln1 j; rfl) | (obtain ⟨_,_,rfl⟩:=ln2 j; rfl) | (obtain ⟨_,_,_,rfl⟩:=ln3 j; rfl) | (obtain ⟨_,_,_,_,rfl⟩:=ln4 j; rfl) | (obtain ⟨_,_,_,_,_,rfl⟩:=ln5 j; rfl) | (obtain ⟨_,_,_,_,_,_,rfl⟩:=ln6 j; rfl) | (obtain ⟨_,_,_,_,_,_,_,rfl⟩:=ln7 j; rfl)):∃ fd,AtS K mg name st ps f fd:=
 let ⟨a,l⟩:=a
 let ⟨_,F,B⟩:=l.bd b
 ⟨_,F,bo X G a,B⟩
theorem AtS.d {K:bW} {mg:Str->Option aA} {name:Str} {st:aL} {ps:List Str} {f:aB} {fd:aO} {k n:Nat} {F:FN} (a:AtS K mg name st ps f fd) (P:aK) (w:aJ) (base:Heap) (j:ps.length=n) (G:FnOk P w K mg base (CXD P w) k f fd ps (spF mg n F)):DefS P w K mg base k name n F:=a.def j G
def noL (K:bW):Bool:=K.all fun p=>match p.2.data with
 | .seq _ _=>(match p.2.cls with
  | .type n=>!(n == ("list" : Str))
  | _=>yo)
 | _=>yo
theorem Qcd {K:bW} {a:aB} {o:Obj} (h:K.lookup a=zo o):(a,o)∈K:=by
 induction K with
 | nil=>cases h
 | cons p K j=>
  obtain ⟨b,u⟩:=p;rw [cQ] at h;cases e:a == b with
  | true=>
   rw [e] at h;have:a=b:=by simpa using e
   subst this;cases h;exact F4
  | false=>
   rw [e] at h;exact O5 _ (j h)
theorem Qrj {K:bW} {a:aB} {o:Obj} {its:Array aA} {n:Nat} (j:noL K=yo) (h:K.lookup a=zo o) (q:o.cls=.type "list") (hd:o.data=.seq its n):False:=by
 have:=E7.mp j _ (Qcd h);simp [q,hd] at this
theorem Q60 {H:Hp} {ρ:Tk}:∀ ns:List Int,RepL H ρ (ns.map .int) (ns.map V.int)
 | []=>rfl
 | n :: ns=>⟨_,_,rfl,rfl,Q60 ns⟩
theorem Qmg (H:Hp):Rel H Tk.nil []:=⟨rfl,dI,fun a h=>(by cases h),fun a h=>(by cases h),fun i a c h=>(by simp [Tk.nil] at h)⟩
def Q73 (K:bW):Sp:=fun vs H Q _=>∃ (a:aB) (ns:List Int),vs=[.ref a]/\SqL K H a (ns.map V.int)/\ns.length<=63/\∀ H',Q (.bl yo) H'
theorem Qnv {P:aK} {w:aJ} {K:bW} {mg:Str->Option aA} {base:Heap} {CX:CXT} {k:Nat} {f:aB} {fd:aO} {ps:List Str} {FL:FN} (G:noL K=yo) (F:FnOk P w K mg base CX k f fd ps (spF mg 1 FL)) (j:∀ ns:List Int,ns.length<=63->∃ st',FL [.fro (ns.map .int)] []=.ok (.bl yo) st'):FnOk P w K mg base CX k f fd ps (Q73 K):=F.imp fun vs H Q E ⟨a,ns,e,J,Y,q⟩=>by
 subst e;obtain ⟨st',z⟩:=j ns Y;have O:Rd H a (.lst (ns.map V.int)):=by
  rcases J with h | ⟨o,its,n,h1,h2,Z,U,_⟩
  ·exact h
  ·exact (Qrj G h1 h2 U).elim
 refine ⟨rfl,Tk.nil,[],[.fro (ns.map .int)],Qmg H,⟨_,_,rfl,⟨a,_,rfl,O,Tk.not_nil a,Q60 ns⟩,rfl⟩,?_⟩;rw [z];intro H' ρ' x R v r;have e:v=.bl yo:=r;subst e;exact q H'
theorem Qk6 {P:aK} {w:aJ} {H:Hp} {s:aC} {e:aA} {s':aC} (h:CXD P w [] H s (fun _ _ _=>False) e s'):False:=by
 obtain ⟨_,_,_,_,_,_,_,_,_,z⟩:=h;exact z
theorem walkS {l:fM} {k:Nat} {q:aK} {j:List Str} {Y:(Str->Option aA)->Heap->Prop} {J:aJ->Heap->Prop} {d:DefRec} {K:Params->bW} (U:l.most=zo 63) (hr:Room k callerA) (G:d.params.defaults=[])
  (hY:∀ (w:aJ) (h:Heap),J w h->(K w.params).In h)
  (F:∀ (w:aJ) (mg:Str->Option aA) (O:aB) (h:Heap),(K w.params).In h->h.Ns aQ mg->mg d.name=zo (.ref O) ->
   ∃ fd:aO,(∀ (s:aC) (u:aA),BindsTo s fd ⟨[u],[]⟩ [("script",u)])/\∀ base:Heap,(K w.params).In base->base.Ns aQ mg->FnOk l.prog w (K w.params) mg base (CXD l.prog w) k O fd ["script"] (Q73 (K w.params))) :
  gL q j Y J l.row.toRowW d [] (fun f vs=>fJ f vs):=
 L2.walk_of (n:=63) (k:=k) (x := "script") (CX:=fun w=>CXD l.prog w) (sp:=fun w=>Q73 (K w.params)) U (by decide) G hr hY F (fun _ _ a ns hl _ Z=>⟨a,ns,rfl,Z,hl,fun _=>rfl⟩) fun _ _ _ _ _ z=>Qk6 z
end Sm
namespace Lw
open PySem PySem.Spec L2 Sm
def top (i:Nat):aL:=PySem.Challenge.pw_lendwharf_k60_stands_and_rules.main.body.getD i (.Pass ⟨0,0,0,0⟩)
abbrev y0:aL:=top 18
abbrev Kk:aL:=top 19
abbrev qw:aL:=top 20
abbrev Va:aL:=top 21
abbrev Q0i:aL:=top 22
abbrev qy:aL:=top 30
abbrev Yi:aL:=top 31
abbrev Q0j:aL:=top 32
abbrev j6:aL:=top 33
abbrev Km:aL:=top 34
abbrev qx:aL:=top 35
abbrev Xj:aL:=top 36
abbrev j4:aL:=top 37
abbrev Xk:aL:=top 38
abbrev Wc:aL:=top 39
abbrev Uw:aL:=top 40
abbrev Xn:aL:=top 41
abbrev Q39:aL:=top 42
abbrev Q3a:aL:=top 43
abbrev Q38:aL:=top 46
abbrev U6:aL:=top 47
abbrev Vb:aL:=top 48
abbrev Q37:aL:=top 49
abbrev Q7e:aL:=top 50
abbrev Xi:aL:=top 51
abbrev y9:aL:=top 52
abbrev Xm:aL:=top 53
abbrev Ux:aL:=top 54
abbrev Q7g:aL:=top 55
abbrev qz:aL:=top 57
abbrev Uv:aL:=top 58
abbrev U5:aL:=top 59
abbrev Q7f:aL:=top 60
abbrev Vc:aL:=top 62
abbrev Uy:aL:=top 63
abbrev Xr:aL:=top 64
abbrev Yu:aL:=top 65
abbrev Xq:aL:=top 66
abbrev U7:aL:=top 67
abbrev Xu:aL:=top 68
abbrev Xp:aL:=top 69
abbrev Ws:aL:=top 70
abbrev Xv:aL:=top 71
abbrev Xt:aL:=top 72
abbrev Vd:aL:=top 73
abbrev Xs:aL:=top 74
abbrev Yt:aL:=top 75
abbrev xi:aL:=top 76
structure Txt (K:bW) (mg:Str->Option aA):Prop where
 b_all:mg "all" = zb
 b_bool:mg "bool" = zb
 b_dict:mg "dict" = zb
 b_enumerate:mg "enumerate" = zb
 b_int:mg "int" = zb
 b_isinstance:mg "isinstance" = zb
 b_len:mg "len" = zb
 b_list:mg "list" = zb
 b_range:mg "range" = zb
 b_set:mg "set" = zb
 b_sorted:mg "sorted" = zb
 b_str:mg "str" = zb
 b_tuple:mg "tuple" = zb
 b_zip:mg "zip" = zb
 c_MOST_SIGNS_OF_WORD:∃ t,mg "MOST_SIGNS_OF_WORD" = zo (.int 8 t)
 c_MOST_STOCK:∃ t,mg "MOST_STOCK" = zo (.int 20 t)
 c_MOST_STARTS:∃ t,mg "MOST_STARTS" = zo (.int 4 t)
 c_MOST_RULES:∃ t,mg "MOST_RULES" = zo (.int 60 t)
 c_MOST_USE_AT_ONCE:∃ t,mg "MOST_USE_AT_ONCE" = zo (.int 9 t)
 c_MOST_LETTERS_OF_RULE:∃ t,mg "MOST_LETTERS_OF_RULE" = zo (.int 8 t)
 c_MOST_STANDS:∃ t,mg "MOST_STANDS" = zo (.int 2000 t)
 u_EVENTS_WITHOUT_LETTER:TupG K mg "EVENTS_WITHOUT_LETTER" ["go", "fall"]
section
variable {P:aK} {w:aJ} {K:bW} {mg:Str->Option aA} {base:Heap}
end
section
variable {P:aK} {w:aJ} {K:bW} {mg:Str->Option aA} {base:Heap}
def X2:MS:=(Je (Q0x (Xa "int" (Q4 0)) (Qnr (Xa "bool" (Q4 0)))))
def Vi:FN:=Qs X2 1
theorem Q9k:FnScope ["thing"] ["thing"] (Qb y0):=⟨rfl,rfl,rfl,by decide +kernel,rfl,by decide +kernel,by decide +kernel⟩
theorem Qa1 {f:aB} {fd:aO} (F:Fun K "is_whole" "is_whole" y0 f fd) (T:Txt K mg)   : FnOk P w K mg base (CXD P w) 1 f fd ["thing"] (spF mg 1 Vi):=by
 refine J3 (k:=0) (m:=X2) F Q9k rfl rfl rfl fun j A outer s H E q=>?_
 exact (Qe (Qq (Xh (Ys (T := "int") (by decide) (Q1 0) rfl T.b_isinstance rfl T.b_int Q0c) (U4 (Qhc (Ys (T := "bool") (by decide) (Q1 0) rfl T.b_isinstance rfl T.b_bool z9))))))
def Uj:MS:=(Je (Q0x (Qd 1 Vi (Q3 (Q4 0) Q7)) (Ku (oI fun a b=>.bl (decide (a<=b))) (oI fun a b=>.bl (decide (a<=b))) (Q4 1) (Q4 0) (Q4 2))))
def Jp:FN:=Qs Uj 3
theorem Q5h:FnScope ["thing", "least", "most"] ["thing", "least", "most"] (Qb Kk):=⟨rfl,rfl,rfl,by decide +kernel,rfl,by decide +kernel,by decide +kernel⟩
theorem Q5k {f:aB} {fd:aO} (F:Fun K "is_between" "is_between" Kk f fd) (T:Txt K mg)  (j:DefS P w K mg base 1 "is_whole" 1 Vi):FnOk P w K mg base (CXD P w) 2 f fd ["thing", "least", "most"] (spF mg 3 Jp):=by
 refine J3 (k:=1) (m:=Uj) F Q5h rfl rfl rfl fun z A outer s H E q=>?_
 exact (Qe (Qq (Xh (Q9 j (q.mono (by decide)) Qa rfl (Q0 (Q1 0) Q5)) (U4 (Q2y Q63 Q63 (Q1 1) (Q1 0) (Q1 2))))))
def Q1e:MS:=qf
def Qb5:FN:=Qs Q1e 1
theorem Q78:FnScope ["things"] ["things"] (Qb qw):=⟨rfl,rfl,rfl,by decide +kernel,rfl,by decide +kernel,by decide +kernel⟩
theorem Q7y {f:aB} {fd:aO} (F:Fun K "is_rising" "is_rising" qw f fd) (T:Txt K mg)   : FnOk P w K mg base (CXD P w) 1 f fd ["things"] (spF mg 1 Qb5):=by
 refine J3 (k:=0) (m:=Q1e) F Q78 rfl rfl rfl fun j A outer s H E q=>?_
 exact Wr
def Y0:MS:=(Je (Q0x (Xa "tuple" (Q4 0)) (Ku (oI fun a b=>.bl (decide (a<=b))) (oI fun a b=>.bl (decide (a<=b))) (Q4 1) (Qz Ze (Q3 (Q4 0) Q7)) (Q4 2))))
def J0:FN:=Qs Y0 3
theorem xg:FnScope ["thing", "least", "most"] ["thing", "least", "most"] (Qb Va):=⟨rfl,rfl,rfl,by decide +kernel,rfl,by decide +kernel,by decide +kernel⟩
theorem xn {f:aB} {fd:aO} (F:Fun K "is_sized_tuple" "is_sized_tuple" Va f fd) (T:Txt K mg)   : FnOk P w K mg base (CXD P w) 1 f fd ["thing", "least", "most"] (spF mg 3 J0):=by
 refine J3 (k:=0) (m:=Y0) F xg rfl rfl rfl fun j A outer s H E q=>?_
 exact (Qe (Qq (Xh (Ys (T := "tuple") (by decide) (Q1 0) rfl T.b_isinstance rfl T.b_tuple Z1) (U4 (Q2y Q63 Q63 (Q1 1) (Qu Jx rfl T.b_len bn (Q0 (Q1 0) Q5)) (Q1 2))))))
def ji:ME:=(Ku Qfs Qfs (mC (.str "a")) (Q4 0) (mC (.str "z")))
def Vf : MS := (Qi (Z9 (Ug (Zm (toB (Xa "str" (Q4 0)))) (Zm (toB (Ku (oI fun a b => .bl (decide (a <= b))) (oI fun a b => .bl (decide (a <= b))) (mC (.int 1)) (Qz Ze (Q3 (Q4 0) Q7)) (mC (.int 8)))))) (Je (mC (.bl yl))) Jg)
  (Je (Qz (zg fun ns=>.bl (ns.all id)) (Q3 (Wk (Jv [zb] (Qk 0) (Qdu (Q4 0)) Zv ji)) Q7))))
def Wj:FN:=Qs Vf 1
theorem Qbp:FnScope ["thing"] ["thing"] (Qb Q0i):=⟨rfl,rfl,rfl,by decide +kernel,rfl,by decide +kernel,by decide +kernel⟩
theorem Qc6 {f:aB} {fd:aO} (F:Fun K "is_word" "is_word" Q0i f fd) (T:Txt K mg)   : FnOk P w K mg base (CXD P w) 1 f fd ["thing"] (spF mg 1 Wj):=by
 refine J3 (k:=0) (m:=Vf) F Qbp rfl rfl rfl fun j A outer s H E q=>?_
 exact (Q8 (Jk (SimW.t (Wh (Z5 (Jj (Ys (T := "str") (by decide) (Q1 0) rfl T.b_isinstance rfl T.b_str Q53))) (Yq (Z5 (Qh2 Q63 Q63 Q6 (Qu Jx rfl T.b_len bn (Q0 (Q1 0) Q5)) (Ki rfl T.c_MOST_SIGNS_OF_WORD.choose_spec)))))) (Qe (Qq Zp)) J6)
  (Qe (Qq (Qu (Kx rfl) rfl T.b_all V6 (Q0 (Yh (Zj [zb] ["sign"] rfl (Qqq (Q1 0)) (fun _ _ _ _ _=>(Qy (i:=0) (show (["sign"]:List Str).Nodup by decide +kernel))) (fun _ _ _ _ _=>(Q2y Qih Qih Jf (Q1 0) Jf)) (fun _ _ _ _ _=>Zn) Ja)) Q5)))))
def Zu : MS := (Qi (Z9 (Ug (Zm (toB (Qd 3 J0 (Q3 (Q4 1) (Q3 (mC (.int 2)) (Q3 (mC (.int 2)) Q7)))))) (Zm (toB (Qd 3 Jp (Q3 (mOp oIx (Q4 1) (mC (.int 0))) (Q3 (mC (.int 0)) (Q3 (mOp (oI fun a b => .int (a - b)) (Q4 0) (mC (.int 1))) Q7))))))) (Je (mC (.bl yl))) Jg)
  (Je (Q0x (Qd 1 Wj (Q3 (mOp oIx (Q4 1) (mC (.int 1))) Q7)) (Qag yo ["go", "fall"] (mOp oIx (Q4 1) (mC (.int 1)))))))
def Z7:FN:=Qs Zu 2
theorem Q7a:FnScope ["n", "thing"] ["n", "thing"] (Qb qy):=⟨rfl,rfl,rfl,by decide +kernel,rfl,by decide +kernel,by decide +kernel⟩
theorem Q80 {f:aB} {fd:aO} (F:Fun K "is_letter" "is_letter" qy f fd) (T:Txt K mg)  (j:DefS P w K mg base 1 "is_sized_tuple" 3 J0) (q:DefS P w K mg base 2 "is_between" 3 Jp) (z:DefS P w K mg base 1 "is_word" 1 Wj):FnOk P w K mg base (CXD P w) 3 f fd ["n", "thing"] (spF mg 2 Z7):=by
 refine J3 (k:=2) (m:=Zu) F Q7a rfl rfl rfl fun J A outer s H E G=>?_
 exact (Q8 (Jk (SimW.t (Wh (Z5 (Jj (Q9 j (G.mono (by decide)) Qa rfl (Q0 (Q1 1) (Q0 Q6 (Q0 Q6 Q5)))))) (Yq (Z5 (Jj (Q9 q (G.mono (by decide)) Qa rfl (Q0 (Qm (Q1 1) Q6) (Q0 Q6 (Q0 (Jd Q7u (Q1 0) Q6) Q5))))))))) (Qe (Qq Zp)) J6)
  (Qe (Qq (Xh (Q9 z (G.mono (by decide)) Qa rfl (Q0 (Qm (Q1 1) Q6) Q5)) (U4 (Qf3 T.u_EVENTS_WITHOUT_LETTER rfl (Qm (Q1 1) Q6)))))))
def Y2:ME:=(Qd 2 Z7 (Q3 (Q4 1) (Q3 (Q4 0) Q7)))
def Jy:MS:=(Je (Q0x (Qd 3 J0 (Q3 (Q4 1) (Q3 (mC (.int 0)) (Q3 (mC (.int 8)) Q7)))) (Qz (zg fun ns=>.bl (ns.all id)) (Q3 (Wk (Jv [zb,zo 0] (Qk 0) (Uk (Q4 1)) Zv Y2)) Q7))))
def Jb:FN:=Qs Jy 2
theorem Kj:FnScope ["n", "thing"] ["n", "thing"] (Qb Yi):=⟨rfl,rfl,rfl,by decide +kernel,rfl,by decide +kernel,by decide +kernel⟩
theorem Kr {f:aB} {fd:aO} (F:Fun K "are_letters_of_rule" "are_letters_of_rule" Yi f fd) (T:Txt K mg)  (j:DefS P w K mg base 1 "is_sized_tuple" 3 J0) (q:DefS P w K mg base 3 "is_letter" 2 Z7):FnOk P w K mg base (CXD P w) 4 f fd ["n", "thing"] (spF mg 2 Jb):=by
 refine J3 (k:=3) (m:=Jy) F Kj rfl rfl rfl fun G A outer s H E z=>?_
 exact (Qe (Qq (Xh (Q9 j (z.mono (by decide)) Qa rfl (Q0 (Q1 1) (Q0 Q6 (Q0 (Ki rfl T.c_MOST_LETTERS_OF_RULE.choose_spec) Q5)))) (U4 (Qu (Kx rfl) rfl T.b_all V6 (Q0 (Yh (Zj [zb,zo 0] ["part", "n"] rfl (Yg (Q1 1)) (fun _ _ _ _ _=>(Qy (i:=0) (show (["part", "n"]:List Str).Nodup by decide +kernel))) (fun _ _ _ _ _=>(Q9 q (z.mono (by decide)) Zs rfl (Q0 (Q1 1) (Q0 (Q1 0) Q5)))) (fun _ _ _ _ _=>Zn) Ja)) Q5))))))
def jj:ME:=(Qd 1 Wj (Q3 (Q4 0) Q7))
def Vg : MS := (Qi (Z9 (Ug (Zm (toB (Qd 3 J0 (Q3 (Q4 1) (Q3 (mC (.int 6)) (Q3 (mC (.int 6)) Q7)))))) (Zm (toB (Qd 3 Jp (Q3 (mOp oIx (Q4 1) (mC (.int 0))) (Q3 (mC (.int 0)) (Q3 (mOp (oI fun a b => .int (a - b)) (Q4 0) (mC (.int 1))) Q7))))))) (Je (mC (.bl yl))) Jg)
  (Qi (Z9 (Zm (toB (Qz (zg fun ns=>.bl (ns.all id)) (Q3 (Wk (Jv [zb] (Qk 0) (Uk (mSl (Q4 1) (Q1g (mC (.int 1))) (Q1g (mC (.int 4))))) Zv jj)) Q7)))) (Je (mC (.bl yl))) Jg)
  (Je (Q0x (Qd 3 Jp (Q3 (mOp oIx (Q4 1) (mC (.int 4))) (Q3 (mC (.int 0)) (Q3 (mC (.int 9)) Q7)))) (Qd 2 Jb (Q3 (Q4 0) (Q3 (mOp oIx (Q4 1) (mC (.int 5))) Q7)))))))
def W6:FN:=Qs Vg 2
theorem Qbq:FnScope ["n", "thing"] ["n", "thing"] (Qb Q0j):=⟨rfl,rfl,rfl,by decide +kernel,rfl,by decide +kernel,by decide +kernel⟩
theorem Qc7 {f:aB} {fd:aO} (F:Fun K "is_rule" "is_rule" Q0j f fd) (T:Txt K mg)  (z:DefS P w K mg base 1 "is_sized_tuple" 3 J0) (q:DefS P w K mg base 2 "is_between" 3 Jp) (G:DefS P w K mg base 1 "is_word" 1 Wj) (j:DefS P w K mg base 4 "are_letters_of_rule" 2 Jb):FnOk P w K mg base (CXD P w) 5 f fd ["n", "thing"] (spF mg 2 W6):=by
 refine J3 (k:=4) (m:=Vg) F Qbq rfl rfl rfl fun O A outer s H E J=>?_
 exact (Q8 (Jk (SimW.t (Wh (Z5 (Jj (Q9 z (J.mono (by decide)) Qa rfl (Q0 (Q1 1) (Q0 Q6 (Q0 Q6 Q5)))))) (Yq (Z5 (Jj (Q9 q (J.mono (by decide)) Qa rfl (Q0 (Qm (Q1 1) Q6) (Q0 Q6 (Q0 (Jd Q7u (Q1 0) Q6) Q5))))))))) (Qe (Qq Zp)) J6)
  (Q8 (Jk (Z5 (Jj (Qu (Kx rfl) rfl T.b_all V6 (Q0 (Yh (Zj [zb] ["part"] rfl (Yg (Q2w (Q1 1) (Q26 Q6) (Q26 Q6))) (fun _ _ _ _ _=>(Qy (i:=0) (show (["part"]:List Str).Nodup by decide +kernel))) (fun _ _ _ _ _=>(Q9 G (J.mono (by decide)) Zs rfl (Q0 (Q1 0) Q5))) (fun _ _ _ _ _=>Zn) Ja)) Q5)))) (Qe (Qq Zp)) J6)
  (Qe (Qq (Xh (Q9 q (J.mono (by decide)) Qa rfl (Q0 (Qm (Q1 1) Q6) (Q0 Q6 (Q0 (Ki rfl T.c_MOST_USE_AT_ONCE.choose_spec) Q5)))) (U4 (Q9 j (J.mono (by decide)) Qa rfl (Q0 (Q1 0) (Q0 (Qm (Q1 1) Q6) Q5)))))))))
def Xy:ME:=(Qd 2 W6 (Q3 (Q4 1) (Q3 (Q4 0) Q7)))
def Wi : MS := (Qi (Z9 (Ug (Zm (toB (Qd 3 J0 (Q3 (Q4 1) (Q3 (mC (.int 0)) (Q3 (mC (.int 60)) Q7)))))) (Zm (toB (Qz (zg fun ns => .bl (ns.all id)) (Q3 (Wk (Jv [zb, zo 0] (Qk 0) (Uk (Q4 1)) Zv Xy)) Q7))))) (Je (mC (.bl yl))) Jg)
  (Je (mOp oEq (Q4d (Q4 1)) (Qz Ze (Q3 (Q4 1) Q7)))))
def Y6:FN:=Qs Wi 2
theorem Q7d:FnScope ["n", "thing"] ["n", "thing"] (Qb j6):=⟨rfl,rfl,rfl,by decide +kernel,rfl,by decide +kernel,by decide +kernel⟩
theorem Q83 {f:aB} {fd:aO} (F:Fun K "are_rules" "are_rules" j6 f fd) (T:Txt K mg)  (j:DefS P w K mg base 1 "is_sized_tuple" 3 J0) (q:DefS P w K mg base 5 "is_rule" 2 W6):FnOk P w K mg base (CXD P w) 6 f fd ["n", "thing"] (spF mg 2 Y6):=by
 refine J3 (k:=5) (m:=Wi) F Q7d rfl rfl rfl fun G A outer s H E z=>?_
 exact (Q8 (Jk (SimW.t (Wh (Z5 (Jj (Q9 j (z.mono (by decide)) Qa rfl (Q0 (Q1 1) (Q0 Q6 (Q0 (Ki rfl T.c_MOST_RULES.choose_spec) Q5)))))) (Yq (Z5 (Jj (Qu (Kx rfl) rfl T.b_all V6 (Q0 (Yh (Zj [zb,zo 0] ["part", "n"] rfl (Yg (Q1 1)) (fun _ _ _ _ _=>(Qy (i:=0) (show (["part", "n"]:List Str).Nodup by decide +kernel))) (fun _ _ _ _ _=>(Q9 q (z.mono (by decide)) Zs rfl (Q0 (Q1 1) (Q0 (Q1 0) Q5)))) (fun _ _ _ _ _=>Zn) Ja)) Q5))))))) (Qe (Qq Zp)) J6)
  (Qe (Qq (zz (X1 z.units) (Qbn (xj z) (Q1 1) rfl rfl T.b_len rfl T.b_set Qb1) (Qu Jx rfl T.b_len bn (Q0 (Q1 1) Q5))))))
def X6:ME:=(Qd 1 Wj (Q3 (Q4 0) Q7))
def Wy:MS:=(Je (Q0x (Qd 3 J0 (Q3 (Q4 0) (Q3 (mC (.int 1)) (Q3 (mC (.int 4)) Q7)))) (Qz (zg fun ns=>.bl (ns.all id)) (Q3 (Wk (Jv [zb] (Qk 0) (Uk (Q4 0)) Zv X6)) Q7))))
def Ya:FN:=Qs Wy 1
theorem Q5i:FnScope ["thing"] ["thing"] (Qb Km):=⟨rfl,rfl,rfl,by decide +kernel,rfl,by decide +kernel,by decide +kernel⟩
theorem Q5m {f:aB} {fd:aO} (F:Fun K "are_starts" "are_starts" Km f fd) (T:Txt K mg)  (j:DefS P w K mg base 1 "is_sized_tuple" 3 J0) (q:DefS P w K mg base 1 "is_word" 1 Wj):FnOk P w K mg base (CXD P w) 2 f fd ["thing"] (spF mg 1 Ya):=by
 refine J3 (k:=1) (m:=Wy) F Q5i rfl rfl rfl fun G A outer s H E z=>?_
 exact (Qe (Qq (Xh (Q9 j (z.mono (by decide)) Qa rfl (Q0 (Q1 0) (Q0 Q6 (Q0 (Ki rfl T.c_MOST_STARTS.choose_spec) Q5)))) (U4 (Qu (Kx rfl) rfl T.b_all V6 (Q0 (Yh (Zj [zb] ["part"] rfl (Yg (Q1 0)) (fun _ _ _ _ _=>(Qy (i:=0) (show (["part"]:List Str).Nodup by decide +kernel))) (fun _ _ _ _ _=>(Q9 q (z.mono (by decide)) Zs rfl (Q0 (Q1 0) Q5))) (fun _ _ _ _ _=>Zn) Ja)) Q5))))))
def Yw : MS := (Qi (Z9 (Ug (Zm (toB (Qd 3 J0 (Q3 (Q4 0) (Q3 (mC (.int 3)) (Q3 (mC (.int 3)) Q7)))))) (Zm (toB (Qd 3 Jp (Q3 (mOp oIx (Q4 0) (mC (.int 0))) (Q3 (mC (.int 0)) (Q3 (mC (.int 20)) Q7))))))) (Je (mC (.bl yl))) Jg)
  (Je (Q0x (Qd 1 Ya (Q3 (mOp oIx (Q4 0) (mC (.int 1))) Q7)) (Qd 2 Y6 (Q3 (Qz Ze (Q3 (mOp oIx (Q4 0) (mC (.int 1))) Q7)) (Q3 (mOp oIx (Q4 0) (mC (.int 2))) Q7))))))
def Zx:FN:=Qs Yw 1
theorem Q79:FnScope ["thing"] ["thing"] (Qb qx):=⟨rfl,rfl,rfl,by decide +kernel,rfl,by decide +kernel,by decide +kernel⟩
theorem Q7z {f:aB} {fd:aO} (F:Fun K "is_manner" "is_manner" qx f fd) (T:Txt K mg)  (j:DefS P w K mg base 1 "is_sized_tuple" 3 J0) (q:DefS P w K mg base 2 "is_between" 3 Jp) (z:DefS P w K mg base 2 "are_starts" 1 Ya) (G:DefS P w K mg base 6 "are_rules" 2 Y6):FnOk P w K mg base (CXD P w) 7 f fd ["thing"] (spF mg 1 Zx):=by
 refine J3 (k:=6) (m:=Yw) F Q79 rfl rfl rfl fun O A outer s H E J=>?_
 exact (Q8 (Jk (SimW.t (Wh (Z5 (Jj (Q9 j (J.mono (by decide)) Qa rfl (Q0 (Q1 0) (Q0 Q6 (Q0 Q6 Q5)))))) (Yq (Z5 (Jj (Q9 q (J.mono (by decide)) Qa rfl (Q0 (Qm (Q1 0) Q6) (Q0 Q6 (Q0 (Ki rfl T.c_MOST_STOCK.choose_spec) Q5))))))))) (Qe (Qq Zp)) J6)
  (Qe (Qq (Xh (Q9 z (J.mono (by decide)) Qa rfl (Q0 (Qm (Q1 0) Q6) Q5)) (U4 (Q9 G (J.mono (by decide)) Qa rfl (Q0 (Qu Jx rfl T.b_len bn (Q0 (Qm (Q1 0) Q6) Q5)) (Q0 (Qm (Q1 0) Q6) Q5))))))))
def W8:MS:=(Z9 (Zm (toB (Qd 1 Zx (Q3 (Q4 0) Q7)))) (Q4c "NoManner" (mC (.str "this is no manner"))) Jg)
def J1:FN:=Qs W8 1
theorem Q30:FnScope ["manner"] ["manner"] (Qb Xj):=⟨rfl,rfl,rfl,by decide +kernel,rfl,by decide +kernel,by decide +kernel⟩
theorem Q3x {f:aB} {fd:aO} (F:Fun K "need_manner" "need_manner" Xj f fd) (T:Txt K mg) (j:∃ C,mg "NoManner" = zo (.ref C)/\cE K C Q55 "ValueError.__new__" = yo) (q:DefS P w K mg base 7 "is_manner" 1 Zx):FnOk P w K mg base (CXD P w) 8 f fd ["manner"] (spF mg 1 J1):=by
 refine J3 (k:=7) (m:=W8) F Q30 rfl rfl rfl fun G A outer s H E z=>?_
 exact (Qe (Jk (Z5 (Jj (Q9 q (z.mono (by decide)) Qa rfl (Q0 (Q1 0) Q5)))) (Qe (Q2q rfl Q3j rfl j.choose_spec.1 j.choose_spec.2 Jf)) J6))
def jf:MS:=(Je (Y3 (Q3 (mOp oIx (Q4 0) (mC (.int 1))) (Q3 (Y3 Q7) (Q3 (mC (.int 0)) Q7)))))
def W2:FN:=Qs jf 1
theorem Q7c:FnScope ["manner"] ["manner"] (Qb j4):=⟨rfl,rfl,rfl,by decide +kernel,rfl,by decide +kernel,by decide +kernel⟩
theorem Q82 {f:aB} {fd:aO} (F:Fun K "beginning" "beginning" j4 f fd) (T:Txt K mg)   : FnOk P w K mg base (CXD P w) 1 f fd ["manner"] (spF mg 1 W2):=by
 refine J3 (k:=0) (m:=jf) F Q7c rfl rfl rfl fun j A outer s H E q=>?_
 exact (Qe (Qq (Ji (Q0 (Qm (Q1 0) Q6) (Q0 (Ji Q5) (Q0 Q6 Q5))))))
def Vk : MS := (Qi (Z9 (toB (mOp oNe (mOp oIx (mOp oIx (Q4 1) (mC (.int 0))) (mOp oIx (Q4 0) (mC (.int 0)))) (mOp oIx (Q4 0) (mC (.int 1))))) (Je (mC (.bl yl))) Jg)
  (Je (mOr (Qag yl ["go", "fall"] (mOp oIx (Q4 0) (mC (.int 2)))) (mOp (oIn yl) (Y3 (Q3 (mOp oIx (Q4 0) (mC (.int 0))) (Q3 (mOp oIx (Q4 0) (mC (.int 2))) Q7))) (mOp oIx (Q4 1) (mC (.int 1)))))))
def Vt:FN:=Qs Vk 2
theorem Q31:FnScope ["rule", "stand"] ["rule", "stand"] (Qb Xk):=⟨rfl,rfl,rfl,by decide +kernel,rfl,by decide +kernel,by decide +kernel⟩
theorem Q3y {f:aB} {fd:aO} (F:Fun K "may_be_done" "may_be_done" Xk f fd) (T:Txt K mg)   : FnOk P w K mg base (CXD P w) 1 f fd ["rule", "stand"] (spF mg 2 Vt):=by
 refine J3 (k:=0) (m:=Vk) F Q31 rfl rfl rfl fun q A outer s H E j=>?_
 exact (Q8 (Jk (J9 (qc j.units) (Qm (Qm (Q1 1) Q6) (Qm (Q1 0) Q6)) (Qm (Q1 0) Q6)) (Qe (Qq Zp)) J6)
  (Qe (Qq (Qhb (Qqs T.u_EVENTS_WITHOUT_LETTER rfl (Qm (Q1 0) Q6)) (U4 (zz (Qii j.units) (Ji (Q0 (Qm (Q1 0) Q6) (Q0 (Qm (Q1 0) Q6) Q5))) (Qm (Q1 1) Q6)))))))
def U0:ME:=(Q4 0)
def Vw:MT:=(toB (Qd 2 Vt (Q3 (Q4 1) (Q3 (Q4 2) Q7))))
def We:MS:=(Je (Q88 (Jv [zb,zb,zo 1] (Q4u (V1 (Qk 0) (V1 (Qk 1) Q4v))) (Qah (Q3 (mOp oIx (Q4 0) (mC (.int 2))) Q7)) Vw U0)))
def Z2:FN:=Xf We 2
theorem zc:FnScope ["manner", "stand"] ["manner", "stand"] (Qb Wc):=⟨rfl,rfl,rfl,by decide +kernel,rfl,by decide +kernel,by decide +kernel⟩
theorem zd {f:aB} {fd:aO} (F:Fun K "numbers_that_may" "numbers_that_may" Wc f fd) (T:Txt K mg)  (j:DefS P w K mg base 1 "may_be_done" 2 Vt):FnOk P w K mg base (CXD P w) 2 f fd ["manner", "stand"] (spF mg 2 Z2):=by
 refine Vz (k:=1) (m:=We) F zc rfl rfl rfl fun z A outer s H E q=>?_
 exact (Qe (Qq (Q2v (Zj [zb,zb,zo 1] ["number", "rule", "stand"] rfl (Qm2 rfl T.b_enumerate (Q0 (Qm (Q1 0) Q6) Q5)) (fun _ _ _ _ _=>(Qbm rfl (Wp (Qy (i:=0) (show (["number", "rule", "stand"]:List Str).Nodup by decide +kernel)) (Wp (Qy (i:=1) (show (["number", "rule", "stand"]:List Str).Nodup by decide +kernel)) Q75)))) (fun _ _ _ _ _=>(Q1 0)) (fun _ _ _ _ _=>(yy (Jj (Q9 j (q.mono (by decide)) Zs rfl (Q0 (Q1 1) (Q0 (Q1 2) Q5)))))) (Qjs (Q6j (Q6j Qjt)))))))
def Wx : MS := (Qi (Ju 2 (mOp Zt (mOp Zt (mSl (mOp oIx (Q4 1) (mC (.int 0))) jy (Q1g (mOp oIx (Q4 0) (mC (.int 0))))) (Y3 (Q3 (mOp oIx (Q4 0) (mC (.int 3))) Q7))) (mSl (mOp oIx (Q4 1) (mC (.int 0))) (Q1g (mOp Zt (mOp oIx (Q4 0) (mC (.int 0))) (mC (.int 1)))) jy)))
  (Je (Y3 (Q3 (Q4 2) (Q3 (Qz W0 (Q3 (jx (mOp Zt (mOp oIx (Q4 1) (mC (.int 1))) (mOp oIx (Q4 0) (mC (.int 5))))) Q7)) (Q3 (mOp Zt (mOp oIx (Q4 1) (mC (.int 2))) (mOp oIx (Q4 0) (mC (.int 4)))) Q7))))))
def W1:FN:=Qs Wx 3
theorem sc_stand_behind:FnScope ["rule", "stand", "states"] ["rule", "stand"] (Qb Uw):=⟨rfl,rfl,rfl,by decide +kernel,rfl,by decide +kernel,by decide +kernel⟩
theorem Q1v {f:aB} {fd:aO} (F:Fun K "stand_behind" "stand_behind" Uw f fd) (T:Txt K mg)   : FnOk P w K mg base (CXD P w) 1 f fd ["rule", "stand"] (spF mg 2 W1):=by
 refine J3 (k:=0) (m:=Wx) F sc_stand_behind rfl rfl rfl fun q A outer s H E j=>?_
 exact (Q8 (J5 2 sc_stand_behind.nd (Jd Zg (Jd Zg (Q2w (Qm (Q1 1) Q6) Qdd (Q26 (Qm (Q1 0) Q6))) (Ji (Q0 (Qm (Q1 0) Q6) Q5))) (Q2w (Qm (Q1 1) Q6) (Q26 (Jd Zg (Qm (Q1 0) Q6) Q6)) Qdd)))
  (Qe (Qq (Ji (Q0 (Q1 2) (Q0 (Yb U1 rfl T.b_tuple Z1 (Q0 (Q9j (xj j) (Jd Zg (Qm (Q1 1) Q6) (Qm (Q1 0) Q6)) rfl rfl T.b_sorted jm rfl T.b_set Qb1) Q5)) (Q0 (Jd Zg (Qm (Q1 1) Q6) (Qm (Q1 0) Q6)) Q5)))))))
def Vm : MS := (Qi (X3 (Qd 1 J1 (Q3 (Q4 0) Q7)))
  (Je (Qd 1 W2 (Q3 (Q4 0) Q7))))
def Z4:FN:=Qs Vm 1
theorem Q33:FnScope ["manner"] ["manner"] (Qb Xn):=⟨rfl,rfl,rfl,by decide +kernel,rfl,by decide +kernel,by decide +kernel⟩
theorem Q40 {f:aB} {fd:aO} (F:Fun K "first_stand" "first_stand" Xn f fd) (T:Txt K mg)  (j:DefS P w K mg base 8 "need_manner" 1 J1) (q:DefS P w K mg base 1 "beginning" 1 W2):FnOk P w K mg base (CXD P w) 9 f fd ["manner"] (spF mg 1 Z4):=by
 refine J3 (k:=8) (m:=Vm) F Q33 rfl rfl rfl fun G A outer s H E z=>?_
 exact (Q8 (Vj (Q9 j (z.mono (by decide)) Qa rfl (Q0 (Q1 0) Q5)))
  (Qe (Qq (Q9 q (z.mono (by decide)) Qa rfl (Q0 (Q1 0) Q5)))))
def xy : MS := (Qi (X3 (Qd 1 J1 (Q3 (Q4 0) Q7)))
  (Je (Qd 2 Z2 (Q3 (Q4 0) (Q3 (Q4 1) Q7)))))
def U2:FN:=Xf xy 2
theorem Qf7:FnScope ["manner", "stand"] ["manner", "stand"] (Qb Q39):=⟨rfl,rfl,rfl,by decide +kernel,rfl,by decide +kernel,by decide +kernel⟩
theorem Qfp {f:aB} {fd:aO} (F:Fun K "may_do" "may_do" Q39 f fd) (T:Txt K mg)  (q:DefS P w K mg base 8 "need_manner" 1 J1) (j:DefS P w K mg base 2 "numbers_that_may" 2 Z2):FnOk P w K mg base (CXD P w) 9 f fd ["manner", "stand"] (spF mg 2 U2):=by
 refine Vz (k:=8) (m:=xy) F Qf7 rfl rfl rfl fun G A outer s H E z=>?_
 exact (Q8 (Vj (Q9 q (z.mono (by decide)) Qa rfl (Q0 (Q1 0) Q5)))
  (Qe (Qq (Q9 j (z.mono (by decide)) Qa rfl (Q0 (Q1 0) (Q0 (Q1 1) Q5))))))
def K7 : MS := (Qi (X3 (Qd 1 J1 (Q3 (Q4 0) Q7)))
  (Qi (Z9 (toB (mOp (oIn yo) (Q4 2) (Qd 2 Z2 (Q3 (Q4 0) (Q3 (Q4 1) Q7))))) (Q4c "NoDeed" (mC (.str "no rule that may be done there"))) Jg)
  (Je (Qd 2 W1 (Q3 (mOp oIx (mOp oIx (Q4 0) (mC (.int 2))) (Q4 2)) (Q3 (Q4 1) Q7))))))
def W9:FN:=Qs K7 3
theorem Qf8:FnScope ["manner", "stand", "number"] ["manner", "stand", "number"] (Qb Q3a):=⟨rfl,rfl,rfl,by decide +kernel,rfl,by decide +kernel,by decide +kernel⟩
theorem Qfq {f:aB} {fd:aO} (F:Fun K "behind" "behind" Q3a f fd) (T:Txt K mg) (G:∃ C,mg "NoDeed" = zo (.ref C)/\cE K C Q55 "ValueError.__new__" = yo) (z:DefS P w K mg base 8 "need_manner" 1 J1) (j:DefS P w K mg base 2 "numbers_that_may" 2 Z2) (q:DefS P w K mg base 1 "stand_behind" 2 W1):FnOk P w K mg base (CXD P w) 9 f fd ["manner", "stand", "number"] (spF mg 3 W9):=by
 refine J3 (k:=8) (m:=K7) F Qf8 rfl rfl rfl fun O A outer s H E J=>?_
 exact (Q8 (Vj (Q9 z (J.mono (by decide)) Qa rfl (Q0 (Q1 0) Q5)))
  (Q8 (Jk (J9 (Q3u J.units) (Q1 2) (Q9 j (J.mono (by decide)) Qa rfl (Q0 (Q1 0) (Q0 (Q1 1) Q5)))) (Qe (Q2q rfl Q3j rfl G.choose_spec.1 G.choose_spec.2 Jf)) J6)
  (Qe (Qq (Q9 q (J.mono (by decide)) Qa rfl (Q0 (Qm (Qm (Q1 0) Q6) (Q1 2)) (Q0 (Q1 1) Q5)))))))
def Qaf:MS:=qf
def Q5d:FN:=Qs Qaf 4
theorem Qf6:FnScope ["found", "stand", "run", "at"] ["found", "stand"] (Qb Q38):=⟨rfl,rfl,rfl,by decide +kernel,rfl,by decide +kernel,by decide +kernel⟩
theorem Qfn {f:aB} {fd:aO} (F:Fun K "run_to" "run_to" Q38 f fd) (T:Txt K mg)   : FnOk P w K mg base (CXD P w) 1 f fd ["found", "stand"] (spF mg 2 Q5d):=by
 refine J3 (k:=0) (m:=Qaf) F Qf6 rfl rfl rfl fun j A outer s H E q=>?_
 exact Wr
def qe:MS:=qf
def Q24:FN:=Qs qe 4
theorem Q0h:FnScope ["manner", "stands", "stand", "number"] ["manner", "stands"] (Qb U6):=⟨rfl,rfl,rfl,by decide +kernel,rfl,by decide +kernel,by decide +kernel⟩
theorem Q0r {f:aB} {fd:aO} (F:Fun K "breaking_step" "breaking_step" U6 f fd) (T:Txt K mg)   : FnOk P w K mg base (CXD P w) 1 f fd ["manner", "stands"] (spF mg 2 Q24):=by
 refine J3 (k:=0) (m:=qe) F Q0h rfl rfl rfl fun j A outer s H E q=>?_
 exact Wr
def K6:MS:=qf
def Q19:FN:=Qs K6 7
theorem xh:FnScope ["manner", "found", "stands", "further", "stand", "number", "after"] ["manner", "found", "stands"] (Qb Vb):=⟨rfl,rfl,rfl,by decide +kernel,rfl,by decide +kernel,by decide +kernel⟩
theorem xq {f:aB} {fd:aO} (F:Fun K "further_stands" "further_stands" Vb f fd) (T:Txt K mg)   : FnOk P w K mg base (CXD P w) 1 f fd ["manner", "found", "stands"] (spF mg 3 Q19):=by
 refine J3 (k:=0) (m:=K6) F xh rfl rfl rfl fun j A outer s H E q=>?_
 exact Wr
def Qae:MS:=qf
def jp:FN:=Qs Qae 4
theorem Qf5:FnScope ["manner", "found", "fresh", "step"] ["manner"] (Qb Q37):=⟨rfl,rfl,rfl,by decide +kernel,rfl,by decide +kernel,by decide +kernel⟩
theorem Qfm {f:aB} {fd:aO} (F:Fun K "walked" "walked" Q37 f fd) (T:Txt K mg)   : FnOk P w K mg base (CXD P w) 1 f fd ["manner"] (spF mg 1 jp):=by
 refine J3 (k:=0) (m:=Qae) F Qf5 rfl rfl rfl fun j A outer s H E q=>?_
 exact Wr
def Q85 : MS := (Qi (X3 (Qd 1 J1 (Q3 (Q4 0) Q7)))
  (Qi (Ju 1 (Qd 1 jp (Q3 (Q4 0) Q7)))
  (Qi (Z9 (toB (mOp yf (mOp oIx (Q4 1) (mC (.int 1))) (mC .non))) (Je (Y3 (Q3 (mC (.str "breaks")) (Q3 (mOp oIx (Q4 1) (mC (.int 1))) Q7)))) Jg)
  (Je (Y3 (Q3 (mC (.str "keeps")) (Q3 (Qz Q0b (Q3 (mOp oIx (Q4 1) (mC (.int 0))) Q7)) Q7)))))))
def Q2d:FN:=Qs Q85 2
theorem sc_tried:FnScope ["manner", "walk"] ["manner"] (Qb Q7e):=⟨rfl,rfl,rfl,by decide +kernel,rfl,by decide +kernel,by decide +kernel⟩
theorem Qin {f:aB} {fd:aO} (F:Fun K "tried" "tried" Q7e f fd) (T:Txt K mg)  (j:DefS P w K mg base 8 "need_manner" 1 J1) (q:DefS P w K mg base 1 "walked" 1 jp):FnOk P w K mg base (CXD P w) 9 f fd ["manner"] (spF mg 1 Q2d):=by
 refine J3 (k:=8) (m:=Q85) F sc_tried rfl rfl rfl fun G A outer s H E z=>?_
 exact (Q8 (Vj (Q9 j (z.mono (by decide)) Qa rfl (Q0 (Q1 0) Q5)))
  (Q8 (J5 1 sc_tried.nd (Q9 q (z.mono (by decide)) Qa rfl (Q0 (Q1 0) Q5)))
  (Q8 (Jk (J9 Q3v (Qm (Q1 1) Q6) Q76) (Qe (Qq (Ji (Q0 Jf (Q0 (Qm (Q1 1) Q6) Q5))))) J6)
  (Qe (Qq (Ji (Q0 Jf (Q0 (Yb Qee rfl T.b_list Us (Q0 (Qm (Q1 1) Q6) Q5)) Q5))))))))
def zm:MS:=qf
def K1:FN:=Qs zm 7
theorem Q2z:FnScope ["manner", "run", "states", "letters", "used", "number", "rule"] ["manner", "run"] (Qb Xi):=⟨rfl,rfl,rfl,by decide +kernel,rfl,by decide +kernel,by decide +kernel⟩
theorem Q3w {f:aB} {fd:aO} (F:Fun K "used_behind" "used_behind" Xi f fd) (T:Txt K mg)   : FnOk P w K mg base (CXD P w) 1 f fd ["manner", "run"] (spF mg 2 K1):=by
 refine J3 (k:=0) (m:=zm) F Q2z rfl rfl rfl fun j A outer s H E q=>?_
 exact Wr
def yi : MS := (Qi (X3 (Qd 1 J1 (Q3 (Q4 0) Q7)))
  (Qi (Ju 2 (Qd 2 K1 (Q3 (Q4 0) (Q3 (Q4 1) Q7))))
  (Je (Q0x (mOp yf (Q4 2) (mC .non)) (mOp (oI fun a b=>.bl (decide (b < a))) (Q4 2) (mOp oIx (Q4 0) (mC (.int 0))))))))
def Ky:FN:=Qs yi 3
theorem sc_is_break:FnScope ["manner", "run", "used"] ["manner", "run"] (Qb y9):=⟨rfl,rfl,rfl,by decide +kernel,rfl,by decide +kernel,by decide +kernel⟩
theorem Qa2 {f:aB} {fd:aO} (F:Fun K "is_break" "is_break" y9 f fd) (T:Txt K mg)  (j:DefS P w K mg base 8 "need_manner" 1 J1) (q:DefS P w K mg base 1 "used_behind" 2 K1):FnOk P w K mg base (CXD P w) 9 f fd ["manner", "run"] (spF mg 2 Ky):=by
 refine J3 (k:=8) (m:=yi) F sc_is_break rfl rfl rfl fun G A outer s H E z=>?_
 exact (Q8 (Vj (Q9 j (z.mono (by decide)) Qa rfl (Q0 (Q1 0) Q5)))
  (Q8 (J5 2 sc_is_break.nd (Q9 q (z.mono (by decide)) Qa rfl (Q0 (Q1 0) (Q0 (Q1 1) Q5))))
  (Qe (Qq (Xh (zz Q3v (Q1 2) Q76) (U4 (zz Qdq (Q1 2) (Qm (Q1 0) Q6))))))))
def zn:MS:=qf
def K2:FN:=Qs zn 3
theorem Q32:FnScope ["manner", "thing", "n"] ["manner", "thing"] (Qb Xm):=⟨rfl,rfl,rfl,by decide +kernel,rfl,by decide +kernel,by decide +kernel⟩
theorem Q3z {f:aB} {fd:aO} (F:Fun K "is_stand_of" "is_stand_of" Xm f fd) (T:Txt K mg)   : FnOk P w K mg base (CXD P w) 1 f fd ["manner", "thing"] (spF mg 2 K2):=by
 refine J3 (k:=0) (m:=zn) F Q32 rfl rfl rfl fun j A outer s H E q=>?_
 exact Wr
def je:MS:=qf
def X9:FN:=Qs je 3
theorem Q1t:FnScope ["manner", "among", "stand"] ["manner", "among", "stand"] (Qb Ux):=⟨rfl,rfl,rfl,by decide +kernel,rfl,by decide +kernel,by decide +kernel⟩
theorem Q1w {f:aB} {fd:aO} (F:Fun K "is_closed_at" "is_closed_at" Ux f fd) (T:Txt K mg)   : FnOk P w K mg base (CXD P w) 1 f fd ["manner", "among", "stand"] (spF mg 3 X9):=by
 refine J3 (k:=0) (m:=je) F Q1t rfl rfl rfl fun j A outer s H E q=>?_
 exact Wr
def Qge:ME:=(Qd 2 K2 (Q3 (Q4 1) (Q3 (Q4 0) Q7)))
def Qgd:ME:=(Y3 (Q3 (Q4 0) (Q3 (mC (.bl yo)) Q7)))
def Qgc:ME:=(Qd 3 X9 (Q3 (Q4 1) (Q3 (Q4 2) (Q3 (Q4 0) Q7))))
def Q87 : MS := (Qi (X3 (Qd 1 J1 (Q3 (Q4 0) Q7)))
  (Qi (Z9 (Ug (toB (mOp (oI fun a b=>.bl (decide (b < a))) (Qz Ze (Q3 (Q4 1) Q7)) (mC (.int 2000)))) (Zm (toB (Qz (zg fun ns=>.bl (ns.all id)) (Q3 (Wk (Jv [zb,zo 0] (Qk 0) (Uk (Q4 1)) Zv Qge)) Q7))))) (Je (mC (.bl yl))) Jg)
  (Qi (Ju 2 (Qz Qcu (Q3 (Wk (Jv [zb] (Qk 0) (Uk (Q4 1)) Zv Qgd)) Q7)))
  (Qi (Z9 (Ug (toB (mOp oLt (Qz Ze (Q3 (Q4 2) Q7)) (Qz Ze (Q3 (Q4 1) Q7)))) (toB (mOp (oIn yo) (Qd 1 W2 (Q3 (Q4 0) Q7)) (Q4 2)))) (Je (mC (.bl yl))) Jg)
  (Je (Qz (zg fun ns=>.bl (ns.all id)) (Q3 (Wk (Jv [zb,zo 0,zo 2] (Qk 0) (Uk (Q4 1)) Zv Qgc)) Q7)))))))
def Q2f:FN:=Qs Q87 3
theorem sc_keeps:FnScope ["manner", "stands", "among"] ["manner", "stands"] (Qb Q7g):=⟨rfl,rfl,rfl,by decide +kernel,rfl,by decide +kernel,by decide +kernel⟩
theorem Qiq {f:aB} {fd:aO} (F:Fun K "keeps" "keeps" Q7g f fd) (T:Txt K mg)  (q:DefS P w K mg base 8 "need_manner" 1 J1) (z:DefS P w K mg base 1 "is_stand_of" 2 K2) (G:DefS P w K mg base 1 "beginning" 1 W2) (j:DefS P w K mg base 1 "is_closed_at" 3 X9):FnOk P w K mg base (CXD P w) 9 f fd ["manner", "stands"] (spF mg 2 Q2f):=by
 refine J3 (k:=8) (m:=Q87) F sc_keeps rfl rfl rfl fun O A outer s H E J=>?_
 exact (Q8 (Vj (Q9 q (J.mono (by decide)) Qa rfl (Q0 (Q1 0) Q5)))
  (Q8 (Jk (SimW.t (Wh (J9 Qdq (Qu Jx rfl T.b_len bn (Q0 (Q1 1) Q5)) (Ki rfl T.c_MOST_STANDS.choose_spec)) (Yq (Z5 (Jj (Qu (Kx rfl) rfl T.b_all V6 (Q0 (Yh (Zj [zb,zo 0] ["stand", "manner"] rfl (Yg (Q1 1)) (fun _ _ _ _ _=>(Qy (i:=0) (show (["stand", "manner"]:List Str).Nodup by decide +kernel))) (fun _ _ _ _ _=>(Q9 z (J.mono (by decide)) Zs rfl (Q0 (Q1 1) (Q0 (Q1 0) Q5)))) (fun _ _ _ _ _=>Zn) Ja)) Q5))))))) (Qe (Qq Zp)) J6)
  (Q8 (J5 2 sc_keeps.nd (Yb (Qk9 rfl) rfl T.b_dict Qgp (Q0 (Yh (Zj [zb] ["stand"] rfl (Yg (Q1 1)) (fun _ _ _ _ _=>(Qy (i:=0) (show (["stand"]:List Str).Nodup by decide +kernel))) (fun _ _ _ _ _=>(Ji (Q0 (Q1 0) (Q0 Zp Q5)))) (fun _ _ _ _ _=>Zn) Ja)) Q5)))
  (Q8 (Jk (SimW.t (Wh (J9 (Qig J.units) (Qu Jx rfl T.b_len bn (Q0 (Q1 2) Q5)) (Qu Jx rfl T.b_len bn (Q0 (Q1 1) Q5))) (Yq (J9 (Q3u J.units) (Q9 G (J.mono (by decide)) Qa rfl (Q0 (Q1 0) Q5)) (Q1 2))))) (Qe (Qq Zp)) J6)
  (Qe (Qq (Qu (Kx rfl) rfl T.b_all V6 (Q0 (Yh (Zj [zb,zo 0,zo 2] ["stand", "manner", "among"] rfl (Yg (Q1 1)) (fun _ _ _ _ _=>(Qy (i:=0) (show (["stand", "manner", "among"]:List Str).Nodup by decide +kernel))) (fun _ _ _ _ _=>(Q9 j (J.mono (by decide)) Zs rfl (Q0 (Q1 1) (Q0 (Q1 2) (Q0 (Q1 0) Q5))))) (fun _ _ _ _ _=>Zn) Ja)) Q5))))))))
def Q1f:MS:=qf
def Qb6:FN:=Qs Q1f 4
theorem Q7b:FnScope ["manner", "stand", "rules", "by_letters"] ["manner", "stand"] (Qb qz):=⟨rfl,rfl,rfl,by decide +kernel,rfl,by decide +kernel,by decide +kernel⟩
theorem Q81 {f:aB} {fd:aO} (F:Fun K "does_rest" "does_rest" qz f fd) (T:Txt K mg)   : FnOk P w K mg base (CXD P w) 1 f fd ["manner", "stand"] (spF mg 2 Qb6):=by
 refine J3 (k:=0) (m:=Q1f) F Q7b rfl rfl rfl fun j A outer s H E q=>?_
 exact Wr
def jd:MS:=qf
def Q5c:FN:=Qs jd 5
theorem Q1s:FnScope ["manner", "stands", "ahead", "stand", "number"] ["manner", "stands"] (Qb Uv):=⟨rfl,rfl,rfl,by decide +kernel,rfl,by decide +kernel,by decide +kernel⟩
theorem Q1u {f:aB} {fd:aO} (F:Fun K "stands_ahead" "stands_ahead" Uv f fd) (T:Txt K mg)   : FnOk P w K mg base (CXD P w) 1 f fd ["manner", "stands"] (spF mg 2 Q5c):=by
 refine J3 (k:=0) (m:=jd) F Q1s rfl rfl rfl fun j A outer s H E q=>?_
 exact Wr
def qd:MS:=qf
def Uc:FN:=Qs qd 8
theorem Q0g:FnScope ["manner", "stands", "ahead", "fresh", "fewest", "further", "stand", "earlier"] ["manner", "stands"] (Qb U5):=⟨rfl,rfl,rfl,by decide +kernel,rfl,by decide +kernel,by decide +kernel⟩
theorem Q0q {f:aB} {fd:aO} (F:Fun K "steps_to_rest" "steps_to_rest" U5 f fd) (T:Txt K mg)   : FnOk P w K mg base (CXD P w) 1 f fd ["manner", "stands"] (spF mg 2 Uc):=by
 refine J3 (k:=0) (m:=qd) F Q0g rfl rfl rfl fun j A outer s H E q=>?_
 exact Wr
def Qgs:MS:=(Z9 (toB (mOp (oIn yo) (Q4 4) (Q4 3))) (Je (Y3 (Q3 (mC (.str "restless")) (Q3 (Qd 2 Q5d (Q3 (mOp oIx (Q4 1) (mC (.int 0))) (Q3 (Q4 4) Q7))) Q7)))) Jg)
def Q86 : MS := (Qi (X3 (Qd 1 J1 (Q3 (Q4 0) Q7)))
  (Qi (Ju 1 (Qd 1 jp (Q3 (Q4 0) Q7)))
  (Qi (Z9 (toB (mOp yf (mOp oIx (Q4 1) (mC (.int 1))) (mC .non))) (Q4c "NoStand" (mC (.str "the manner does not keep its stock"))) Jg)
  (Qi (Ju 2 (Qz Q0b (Q3 (mOp oIx (Q4 1) (mC (.int 0))) Q7)))
  (Qi (Ju 3 (Qd 2 Uc (Q3 (Q4 0) (Q3 (Q4 2) Q7))))
  (Qi (ze (Qk 4) (Uk (Q4 2)) Qgs)
  (Je (Y3 (Q3 (mC (.str "rests")) (Q3 (Q4 3) Q7))))))))))
def Q2e:FN:=Qs Q86 5
theorem sc_rests:FnScope ["manner", "walk", "stands", "fewest", "stand"] ["manner"] (Qb Q7f):=⟨rfl,rfl,rfl,by decide +kernel,rfl,by decide +kernel,by decide +kernel⟩
theorem Qip {f:aB} {fd:aO} (F:Fun K "rests" "rests" Q7f f fd) (T:Txt K mg) (z:∃ C,mg "NoStand" = zo (.ref C)/\cE K C Q55 "ValueError.__new__" = yo) (q:DefS P w K mg base 8 "need_manner" 1 J1) (G:DefS P w K mg base 1 "walked" 1 jp) (j:DefS P w K mg base 1 "steps_to_rest" 2 Uc) (J:DefS P w K mg base 1 "run_to" 2 Q5d):FnOk P w K mg base (CXD P w) 9 f fd ["manner"] (spF mg 1 Q2e):=by
 refine J3 (k:=8) (m:=Q86) F sc_rests rfl rfl rfl fun U A outer s H E O=>?_
 exact (Q8 (Vj (Q9 q (O.mono (by decide)) Qa rfl (Q0 (Q1 0) Q5)))
  (Q8 (J5 1 sc_rests.nd (Q9 G (O.mono (by decide)) Qa rfl (Q0 (Q1 0) Q5)))
  (Q8 (Jk (J9 Q3v (Qm (Q1 1) Q6) Q76) (Qe (Q2q rfl Q3j rfl z.choose_spec.1 z.choose_spec.2 Jf)) J6)
  (Q8 (J5 2 sc_rests.nd (Yb Qee rfl T.b_list Us (Q0 (Qm (Q1 1) Q6) Q5)))
  (Q8 (J5 3 sc_rests.nd (Q9 j (O.mono (by decide)) Qa rfl (Q0 (Q1 0) (Q0 (Q1 2) Q5))))
  (Q8 (V9 PassesOwn.leaving rfl (Yg (Q1 2)) (Qy (i:=4) sc_rests.nd) (Qe (Jk (J9 (Q3u O.units) (Q1 4) (Q1 3)) (Qe (Qq (Ji (Q0 Jf (Q0 (Q9 J (O.mono (by decide)) Qa rfl (Q0 (Qm (Q1 1) Q6) (Q0 (Q1 4) Q5))) Q5))))) J6)))
  (Qe (Qq (Ji (Q0 Jf (Q0 (Q1 3) Q5)))))))))))
def W4 : MS := (Qi (Z9 (toB (mOp (oI fun a b => .bl (decide (b <= a))) (Q4 0) (mOp Qa4 (mC (.int 10)) (mC (.int 18))))) (Je (Q4 0)) Jg)
  (Qi (Ju 2 (mOp xu (mOp Zt (mOp Zt (mOp jb (mOp xu (Q4 0) (mC (.int 998244353))) (mC (.int 51749))) (mOp jb (Q4 1) (mC (.int 7919)))) (mC (.int 3))) (mC (.int 1000000007))))
  (Qi (Ju 3 (mOp xu (mOp Zt (mOp Zt (mOp Zt (mOp jb (Q4 2) (Q4 2)) (mOp jb (mC (.int 32749)) (Q4 2))) (Q4 1)) (mC (.int 5))) (mC (.int 2147483629))))
  (Qi (Ju 4 (mOp xu (mOp Zt (mOp Zt (mOp jb (Q4 3) (Q4 3)) (mOp jb (mC (.int 61)) (Q4 1))) (Q4 2)) (mC (.int 2147483587))))
  (Je (mOp Zt (mOp jb (Q4 3) (mC (.int 2147483587))) (Q4 4)))))))
def Z3:FN:=Qs W4 5
theorem sc__law_e_stirred:FnScope ["cell", "place", "first", "second", "third"] ["cell", "place"] (Qb Vc):=⟨rfl,rfl,rfl,by decide +kernel,rfl,by decide +kernel,by decide +kernel⟩
theorem xr {f:aB} {fd:aO} (F:Fun K "_law_e_stirred" "_law_e_stirred" Vc f fd) (T:Txt K mg)   : FnOk P w K mg base (CXD P w) 1 f fd ["cell", "place"] (spF mg 2 Z3):=by
 refine J3 (k:=0) (m:=W4) F sc__law_e_stirred rfl rfl rfl fun j A outer s H E q=>?_
 exact (Q8 (Jk (J9 Qq6 (Q1 0) (Jd Qc3 Q6 Q6)) (Qe (Qq (Q1 0))) J6)
  (Q8 (J5 2 sc__law_e_stirred.nd (Jd yc (Jd Zg (Jd Zg (Jd Kq (Jd yc (Q1 0) Q6) Q6) (Jd Kq (Q1 1) Q6)) Q6) Q6))
  (Q8 (J5 3 sc__law_e_stirred.nd (Jd yc (Jd Zg (Jd Zg (Jd Zg (Jd Kq (Q1 2) (Q1 2)) (Jd Kq Q6 (Q1 2))) (Q1 1)) Q6) Q6))
  (Q8 (J5 4 sc__law_e_stirred.nd (Jd yc (Jd Zg (Jd Zg (Jd Kq (Q1 3) (Q1 3)) (Jd Kq Q6 (Q1 1))) (Q1 2)) Q6))
  (Qe (Qq (Jd Zg (Jd Kq (Q1 3) Q6) (Q1 4))))))))
def Yy : MS := (Qi (Z9 (toB (mOp oLt (mOp oIx (Q4 0) (mC (.int 2))) (Q4 1))) (Qi (Ju 2 (mOp oIx (Q4 0) (mC (.int 1))))
  (Qi (Ju 3 (Q4 2))
  (Qi (Z9 (toB (mOp oLt (Q4 2) (Qz Ze (Q3 (mOp oIx (Q4 0) (mC (.int 0))) Q7)))) (Ju 3 (mOp oIx (mOp oIx (Q4 0) (mC (.int 0))) (Q4 2))) (Z9 (toB (mOp (oI fun a b=>.bl (decide (b < a))) (Qz Ze (Q3 (mOp oIx (Q4 0) (mC (.int 0))) Q7)) (mC (.int 0)))) (Ju 3 (mOp Zt (mOp xu (mOp oIx (mOp oIx (Q4 0) (mC (.int 0))) (mOp xu (mOp jb (Q4 2) (mC (.int 3))) (Qz Ze (Q3 (mOp oIx (Q4 0) (mC (.int 0))) Q7)))) (mOp Qa4 (mC (.int 10)) (mC (.int 9)))) (mOp jb (Q4 2) (mC (.int 1000000))))) Jg))
  (Qi (Kt (Q4 0) (mC (.int 1)) (mOp Zt (Q4 2) (mC (.int 1))))
  (Kt (Q4 0) (mC (.int 2)) (Qd 2 Z3 (Q3 (Q4 3) (Q3 (Q4 2) Q7)))))))) Jg)
  (Qi (Ju 4 (mOp xu (mOp oIx (Q4 0) (mC (.int 2))) (Q4 1)))
  (Qi (Kt (Q4 0) (mC (.int 2)) (mOp Qdr (mOp oIx (Q4 0) (mC (.int 2))) (Q4 1)))
  (Je (Q4 4)))))
def Qc:FN:=Qs Yy 5
theorem sc__law_e_digit:FnScope ["tape", "many", "place", "cell", "digit"] ["tape", "many"] (Qb Uy):=⟨rfl,rfl,rfl,by decide +kernel,rfl,by decide +kernel,by decide +kernel⟩
theorem Q1x {f:aB} {fd:aO} (F:Fun K "_law_e_digit" "_law_e_digit" Uy f fd) (T:Txt K mg)  (j:DefS P w K mg base 1 "_law_e_stirred" 2 Z3):FnOk P w K mg base (CXD P w) 2 f fd ["tape", "many"] (spF mg 2 Qc):=by
 refine J3 (k:=1) (m:=Yy) F sc__law_e_digit rfl rfl rfl fun z A outer s H E q=>?_
 exact (Q8 (Jk (J9 (Qig q.units) (Qm (Q1 0) Q6) (Q1 1)) (Q8 (J5 2 sc__law_e_digit.nd (Qm (Q1 0) Q6))
  (Q8 (J5 3 sc__law_e_digit.nd (Q1 2))
  (Q8 (Jk (J9 (Qig q.units) (Q1 2) (Qu Jx rfl T.b_len bn (Q0 (Qm (Q1 0) Q6) Q5))) (Qe (J5 3 sc__law_e_digit.nd (Qm (Qm (Q1 0) Q6) (Q1 2)))) (Qe (Jk (J9 Qdq (Qu Jx rfl T.b_len bn (Q0 (Qm (Q1 0) Q6) Q5)) Q6) (Qe (J5 3 sc__law_e_digit.nd (Jd Zg (Jd yc (Qm (Qm (Q1 0) Q6) (Jd yc (Jd Kq (Q1 2) Q6) (Qu Jx rfl T.b_len bn (Q0 (Qm (Q1 0) Q6) Q5)))) (Jd Qc3 Q6 Q6)) (Jd Kq (Q1 2) Q6)))) J6)))
  (Q8 (Q72 (Jd Zg (Q1 2) Q6) (Q1 0) Q6)
  (Qe (Q72 (Q9 j (q.mono (by decide)) Qa rfl (Q0 (Q1 3) (Q0 (Q1 2) Q5))) (Q1 0) Q6)))))) J6)
  (Q8 (J5 4 sc__law_e_digit.nd (Jd yc (Qm (Q1 0) Q6) (Q1 1)))
  (Q8 (Q72 (Jd Qn6 (Qm (Q1 0) Q6) (Q1 1)) (Q1 0) Q6)
  (Qe (Qq (Q1 4))))))
def Ua:ME:=(mOp Qne (mC (.str "abgoflz")) (Qd 2 Qc (Q3 (Q4 1) (Q3 (mC (.int 7)) Q7))))
def Vp : MS := (Qi (Z9 (toB (mOp oEq (Qd 2 Qc (Q3 (Q4 0) (Q3 (mC (.int 4)) Q7))) (mC (.int 0)))) (Je (mOp oIx (jg (Q3 (mC (.str "go")) (Q3 (mC (.str "fall")) (Q3 (mC (.str "gone")) (Q3 (mC (.str "fallen")) (Q3 (mC (.str "gofall")) (Q3 (mC (.str "a")) (Q3 (mC (.str "aa")) (Q3 (mC (.str "abcdefgh")) Q7))))))))) (Qd 2 Qc (Q3 (Q4 0) (Q3 (mC (.int 8)) Q7))))) Jg)
  (Je (Qdx (mC (.str "")) (Q3 (Wk (Jv [zb,zo 0] (Qk 0) (Zd (Q3 (mOp Zt (mC (.int 1)) (Qd 2 Qc (Q3 (Q4 0) (Q3 (mC (.int 4)) Q7)))) Q7)) Zv Ua)) Q7))))
def Yd:FN:=Xf Vp 1
theorem Q34:FnScope ["tape"] ["tape"] (Qb Xr):=⟨rfl,rfl,rfl,by decide +kernel,rfl,by decide +kernel,by decide +kernel⟩
theorem Q43 {f:aB} {fd:aO} (F:Fun K "_law_e_name" "_law_e_name" Xr f fd) (T:Txt K mg)  (j:DefS P w K mg base 2 "_law_e_digit" 2 Qc):FnOk P w K mg base (CXD P w) 3 f fd ["tape"] (spF mg 1 Yd):=by
 refine Vz (k:=2) (m:=Vp) F Q34 rfl rfl rfl fun z A outer s H E q=>?_
 exact (Q8 (Jk (J9 (X1 q.units) (Q9 j (q.mono (by decide)) Qa rfl (Q0 (Q1 0) (Q0 Q6 Q5))) Q6) (Qe (Qq (Qm (Uu (Q0 Jf (Q0 Jf (Q0 Jf (Q0 Jf (Q0 Jf (Q0 Jf (Q0 Jf (Q0 Jf Q5))))))))) (Q9 j (q.mono (by decide)) Qa rfl (Q0 (Q1 0) (Q0 Q6 Q5)))))) J6)
  (Qe (Qq (Qm9 Jf (Q0 (Yh (Zj [zb,zo 0] ["turn", "tape"] rfl (Jz rfl T.b_range (Q0 (Jd Zg Q6 (Q9 j (q.mono (by decide)) Qa rfl (Q0 (Q1 0) (Q0 Q6 Q5)))) Q5)) (fun _ _ _ _ _=>(Qy (i:=0) (show (["turn", "tape"]:List Str).Nodup by decide +kernel))) (fun _ _ _ _ _=>(Qqr Jf (Q9 j (q.mono (by decide)) Zs rfl (Q0 (Q1 1) (Q0 Q6 Q5))))) (fun _ _ _ _ _=>Zn) Ja)) Q5)))))
def Z6 : MS := (Qi (Ju 1 (Qd 1 Yd (Q3 (Q4 0) Q7)))
  (Qi (Z9 (Ug (toB (mOp oEq (Q4 1) (mC (.str "go")))) (toB (mOp oEq (Q4 1) (mC (.str "fall"))))) (Je (mOp Zt (Q4 1) (mC (.str "a")))) Jg)
  (Je (Q4 1))))
def Zy:FN:=Xf Z6 2
theorem sc__law_e_letter_name:FnScope ["tape", "name"] ["tape"] (Qb Yu):=⟨rfl,rfl,rfl,by decide +kernel,rfl,by decide +kernel,by decide +kernel⟩
theorem qq {f:aB} {fd:aO} (F:Fun K "_law_e_letter_name" "_law_e_letter_name" Yu f fd) (T:Txt K mg)  (j:DefS P w K mg base 3 "_law_e_name" 1 Yd):FnOk P w K mg base (CXD P w) 4 f fd ["tape"] (spF mg 1 Zy):=by
 refine Vz (k:=3) (m:=Z6) F sc__law_e_letter_name rfl rfl rfl fun z A outer s H E q=>?_
 exact (Q8 (J5 1 sc__law_e_letter_name.nd (Q9 j (q.mono (by decide)) Qa rfl (Q0 (Q1 0) Q5)))
  (Q8 (Jk (SimW.t (Wh (J9 (X1 q.units) (Q1 1) Jf) (Yq (J9 (X1 q.units) (Q1 1) Jf)))) (Qe (Qq (Jd Zg (Q1 1) Jf))) J6)
  (Qe (Qq (Q1 1)))))
def qi:MS:=(X3 (mBM Wv (Q4 9) (Q3 (Y3 (Q3 (Qd 2 Qc (Q3 (Q4 0) (Q3 (Q4 1) Q7))) (Q3 (mOp oIx (Q4 3) (Qd 2 Qc (Q3 (Q4 0) (Q3 (Qz Ze (Q3 (Q4 3) Q7)) Q7)))) Q7))) Q7)))
def Xw : MS := (Qi (Ju 4 (Qd 2 Qc (Q3 (Q4 0) (Q3 (Q4 1) Q7))))
  (Qi (Ju 5 (mOp oIx (Q4 2) (Qd 2 Qc (Q3 (Q4 0) (Q3 (Qz Ze (Q3 (Q4 2) Q7)) Q7)))))
  (Qi (Ju 6 (mOp oIx (jg (Q3 (mC (.str "go")) (Q3 (mC (.str "go")) (Q3 (mC (.str "fall")) (Q3 (mOp oIx (Q4 3) (Qd 2 Qc (Q3 (Q4 0) (Q3 (Qz Ze (Q3 (Q4 3) Q7)) Q7)))) Q7))))) (Qd 2 Qc (Q3 (Q4 0) (Q3 (mC (.int 4)) Q7)))))
  (Qi (Ju 7 (mOp oIx (Q4 2) (Qd 2 Qc (Q3 (Q4 0) (Q3 (Qz Ze (Q3 (Q4 2) Q7)) Q7)))))
  (Qi (Ju 8 (mOp oIx (jg (Q3 (mC (.int 0)) (Q3 (mC (.int 0)) (Q3 (mC (.int 0)) (Q3 (mC (.int 1)) (Q3 (mC (.int 1)) (Q3 (mC (.int 2)) (Q3 (mC (.int 9)) Q7)))))))) (Qd 2 Qc (Q3 (Q4 0) (Q3 (mC (.int 7)) Q7)))))
  (Qi (Ju 9 (Q88 (Q68 Q7)))
  (Qi (ze (Qk 10) (Zd (Q3 (mOp oIx (jg (Q3 (mC (.int 0)) (Q3 (mC (.int 0)) (Q3 (mC (.int 1)) (Q3 (mC (.int 2)) (Q3 (mC (.int 3)) (Q3 (mC (.int 8)) Q7))))))) (Qd 2 Qc (Q3 (Q4 0) (Q3 (mC (.int 6)) Q7)))) Q7)) qi)
  (Je (Y3 (Q3 (Q4 4) (Q3 (Q4 5) (Q3 (Q4 6) (Q3 (Q4 7) (Q3 (Q4 8) (Q3 (Qz W0 (Q3 (Q4 9) Q7)) Q7)))))))))))))))
def Vu:FN:=Xf Xw 11
theorem sc__law_e_rule:FnScope ["tape", "n", "states", "names", "house", "state", "event", "onward", "use", "letters", "turn"] ["tape", "n", "states", "names"] (Qb Xq):=⟨rfl,rfl,rfl,by decide +kernel,rfl,by decide +kernel,by decide +kernel⟩
theorem Q42 {f:aB} {fd:aO} (F:Fun K "_law_e_rule" "_law_e_rule" Xq f fd) (T:Txt K mg)  (j:DefS P w K mg base 2 "_law_e_digit" 2 Qc):FnOk P w K mg base (CXD P w) 3 f fd ["tape", "n", "states", "names"] (spF mg 4 Vu):=by
 refine Vz (k:=2) (m:=Xw) F sc__law_e_rule rfl rfl rfl fun z A outer s H E q=>?_
 exact (Q8 (J5 4 sc__law_e_rule.nd (Q9 j (q.mono (by decide)) Qa rfl (Q0 (Q1 0) (Q0 (Q1 1) Q5))))
  (Q8 (J5 5 sc__law_e_rule.nd (Qm (Q1 2) (Q9 j (q.mono (by decide)) Qa rfl (Q0 (Q1 0) (Q0 (Qu Jx rfl T.b_len bn (Q0 (Q1 2) Q5)) Q5)))))
  (Q8 (J5 6 sc__law_e_rule.nd (Qm (Uu (Q0 Jf (Q0 Jf (Q0 Jf (Q0 (Qm (Q1 3) (Q9 j (q.mono (by decide)) Qa rfl (Q0 (Q1 0) (Q0 (Qu Jx rfl T.b_len bn (Q0 (Q1 3) Q5)) Q5)))) Q5))))) (Q9 j (q.mono (by decide)) Qa rfl (Q0 (Q1 0) (Q0 Q6 Q5)))))
  (Q8 (J5 7 sc__law_e_rule.nd (Qm (Q1 2) (Q9 j (q.mono (by decide)) Qa rfl (Q0 (Q1 0) (Q0 (Qu Jx rfl T.b_len bn (Q0 (Q1 2) Q5)) Q5)))))
  (Q8 (J5 8 sc__law_e_rule.nd (Qm (Uu (Q0 Q6 (Q0 Q6 (Q0 Q6 (Q0 Q6 (Q0 Q6 (Q0 Q6 (Q0 Q6 Q5)))))))) (Q9 j (q.mono (by decide)) Qa rfl (Q0 (Q1 0) (Q0 Q6 Q5)))))
  (Q8 (J5 9 sc__law_e_rule.nd (Q2v (Qbk Q5)))
  (Q8 (V9 PassesOwn.leaving rfl (Jz rfl T.b_range (Q0 (Qm (Uu (Q0 Q6 (Q0 Q6 (Q0 Q6 (Q0 Q6 (Q0 Q6 (Q0 Q6 Q5))))))) (Q9 j (q.mono (by decide)) Qa rfl (Q0 (Q1 0) (Q0 Q6 Q5)))) Q5)) (Qy (i:=10) sc__law_e_rule.nd) (Qe (Vj (Q0f (Q1 9) (Q0 (Ji (Q0 (Q9 j (q.mono (by decide)) Qa rfl (Q0 (Q1 0) (Q0 (Q1 1) Q5))) (Q0 (Qm (Q1 3) (Q9 j (q.mono (by decide)) Qa rfl (Q0 (Q1 0) (Q0 (Qu Jx rfl T.b_len bn (Q0 (Q1 3) Q5)) Q5)))) Q5))) Q5)))))
  (Qe (Qq (Ji (Q0 (Q1 4) (Q0 (Q1 5) (Q0 (Q1 6) (Q0 (Q1 7) (Q0 (Q1 8) (Q0 (Yb U1 rfl T.b_tuple Z1 (Q0 (Q1 9) Q5)) Q5))))))))))))))))
def Q06:ME:=(Qd 1 Yd (Q3 (Q4 1) Q7))
def Q05:ME:=(Qd 1 Zy (Q3 (Q4 1) Q7))
def Xg:MS:=(Q0w (Q4 8) (Qd 4 Vu (Q3 (Q4 0) (Q3 (Q4 2) (Q3 (Q4 6) (Q3 (Q4 7) Q7))))) (mC (.bl yo)))
def Xe:ME:=(mOp oIx (Q4 1) (Qd 2 Qc (Q3 (Q4 2) (Q3 (Q4 3) Q7))))
def U8 : MS := (Qi (Ju 1 (jg (Q3 (Y3 (Q3 (mC (.int 2)) (Q3 (mC (.int 3)) (Q3 (mC (.int 2)) (Q3 (mC (.int 4)) Q7))))) (Q3 (Y3 (Q3 (mC (.int 3)) (Q3 (mC (.int 2)) (Q3 (mC (.int 1)) (Q3 (mC (.int 4)) Q7))))) (Q3 (Y3 (Q3 (mC (.int 1)) (Q3 (mC (.int 2)) (Q3 (mC (.int 1)) (Q3 (mC (.int 21)) Q7))))) (Q3 (Y3 (Q3 (mC (.int 2)) (Q3 (mC (.int 2)) (Q3 (mC (.int 1)) (Q3 (mC (.int 21)) Q7))))) (Q3 (Y3 (Q3 (mC (.int 4)) (Q3 (mC (.int 2)) (Q3 (mC (.int 1)) (Q3 (mC (.int 2)) Q7))))) Q7)))))))
  (Qi (Qj1 (Q4u (V1 (Qk 2) (V1 (Qk 3) (V1 (Qk 4) (V1 (Qk 5) Q4v))))) (mOp oIx (Q4 1) (Qd 2 Qc (Q3 (Q4 0) (Q3 (mC (.int 5)) Q7)))))
  (Qi (Ju 6 (Wk (Jv [zb,zo 0] (Qk 0) (Zd (Q3 (Q4 3) Q7)) Zv Q06)))
  (Qi (Ju 7 (Wk (Jv [zb,zo 0] (Qk 0) (Zd (Q3 (Q4 4) Q7)) Zv Q05)))
  (Qi (Ju 8 Q8c)
  (Qi (ze (Qk 9) (Zd (Q3 (Qd 2 Qc (Q3 (Q4 0) (Q3 (mC (.int 10)) Q7))) Q7)) Xg)
  (Qi (Ju 10 (Qz W0 (Q3 (Wk (Jv [zb,zo 6,zo 0,zo 3] (Qk 0) (Zd (Q3 (Q4 2) Q7)) Zv Xe)) Q7)))
  (Je (Y3 (Q3 (Qd 2 Qc (Q3 (Q4 0) (Q3 (Q4 5) Q7))) (Q3 (Q4 10) (Q3 (Qz W0 (Q3 (Qz Q93 (Q3 (Q4 8) Q7)) Q7)) Q7))))))))))))
def Wb:FN:=Xf U8 11
theorem sc__law_e_manner:FnScope ["tape", "sizes", "n", "many", "words", "most", "states", "names", "rules", "turn", "starts"] ["tape"] (Qb U7):=⟨rfl,rfl,rfl,by decide +kernel,rfl,by decide +kernel,by decide +kernel⟩
theorem Q0s {f:aB} {fd:aO} (F:Fun K "_law_e_manner" "_law_e_manner" U7 f fd) (T:Txt K mg)  (j:DefS P w K mg base 2 "_law_e_digit" 2 Qc) (z:DefS P w K mg base 3 "_law_e_name" 1 Yd) (q:DefS P w K mg base 4 "_law_e_letter_name" 1 Zy) (G:DefS P w K mg base 3 "_law_e_rule" 4 Vu):FnOk P w K mg base (CXD P w) 5 f fd ["tape"] (spF mg 1 Wb):=by
 refine Vz (k:=4) (m:=U8) F sc__law_e_manner rfl rfl rfl fun O A outer s H E J=>?_
 exact (Q8 (J5 1 sc__law_e_manner.nd (Uu (Q0 (Ji (Q0 Q6 (Q0 Q6 (Q0 Q6 (Q0 Q6 Q5))))) (Q0 (Ji (Q0 Q6 (Q0 Q6 (Q0 Q6 (Q0 Q6 Q5))))) (Q0 (Ji (Q0 Q6 (Q0 Q6 (Q0 Q6 (Q0 Q6 Q5))))) (Q0 (Ji (Q0 Q6 (Q0 Q6 (Q0 Q6 (Q0 Q6 Q5))))) (Q0 (Ji (Q0 Q6 (Q0 Q6 (Q0 Q6 (Q0 Q6 Q5))))) Q5)))))))
  (Q8 (Qh4 (Qm (Q1 1) (Q9 j (J.mono (by decide)) Qa rfl (Q0 (Q1 0) (Q0 Q6 Q5)))) (Qbm rfl (Wp (Qy (i:=2) sc__law_e_manner.nd) (Wp (Qy (i:=3) sc__law_e_manner.nd) (Wp (Qy (i:=4) sc__law_e_manner.nd) (Wp (Qy (i:=5) sc__law_e_manner.nd) Q75))))))
  (Q8 (by first | exact yz [zb,zo 0] ["turn", "tape"] 6 sc__law_e_manner.nd rfl (Jz rfl T.b_range (Q0 (Q1 3) Q5)) (fun _ _ _ _ _=>(Qy (i:=0) (show (["turn", "tape"]:List Str).Nodup by decide +kernel))) (fun _ _ _ _ _=>(Q9 z (J.mono (by decide)) Zs rfl (Q0 (Q1 1) Q5))) (fun _ _ _ _ _=>Zn) Ja | exact J5 6 sc__law_e_manner.nd (Yh (Zj [zb,zo 0] ["turn", "tape"] rfl (Jz rfl T.b_range (Q0 (Q1 3) Q5)) (fun _ _ _ _ _=>(Qy (i:=0) (show (["turn", "tape"]:List Str).Nodup by decide +kernel))) (fun _ _ _ _ _=>(Q9 z (J.mono (by decide)) Zs rfl (Q0 (Q1 1) Q5))) (fun _ _ _ _ _=>Zn) Ja)))
  (Q8 (by first | exact yz [zb,zo 0] ["turn", "tape"] 7 sc__law_e_manner.nd rfl (Jz rfl T.b_range (Q0 (Q1 4) Q5)) (fun _ _ _ _ _=>(Qy (i:=0) (show (["turn", "tape"]:List Str).Nodup by decide +kernel))) (fun _ _ _ _ _=>(Q9 q (J.mono (by decide)) Zs rfl (Q0 (Q1 1) Q5))) (fun _ _ _ _ _=>Zn) Ja | exact J5 7 sc__law_e_manner.nd (Yh (Zj [zb,zo 0] ["turn", "tape"] rfl (Jz rfl T.b_range (Q0 (Q1 4) Q5)) (fun _ _ _ _ _=>(Qy (i:=0) (show (["turn", "tape"]:List Str).Nodup by decide +kernel))) (fun _ _ _ _ _=>(Q9 q (J.mono (by decide)) Zs rfl (Q0 (Q1 1) Q5))) (fun _ _ _ _ _=>Zn) Ja)))
  (Q8 (J5 8 sc__law_e_manner.nd Q2x)
  (Q8 (V9 PassesOwn.leaving rfl (Jz rfl T.b_range (Q0 (Q9 j (J.mono (by decide)) Qa rfl (Q0 (Q1 0) (Q0 Q6 Q5))) Q5)) (Qy (i:=9) sc__law_e_manner.nd) (Qe (Q2r (xj J) Zp (Q1 8) (Q9 G (J.mono (by decide)) Qa rfl (Q0 (Q1 0) (Q0 (Q1 2) (Q0 (Q1 6) (Q0 (Q1 7) Q5))))))))
  (Q8 (J5 10 sc__law_e_manner.nd (Yb U1 rfl T.b_tuple Z1 (Q0 (Yh (Zj [zb,zo 6,zo 0,zo 3] ["house", "states", "tape", "many"] rfl (Jz rfl T.b_range (Q0 (Q1 2) Q5)) (fun _ _ _ _ _=>(Qy (i:=0) (show (["house", "states", "tape", "many"]:List Str).Nodup by decide +kernel))) (fun _ _ _ _ _=>(Qm (Q1 1) (Q9 j (J.mono (by decide)) Zs rfl (Q0 (Q1 2) (Q0 (Q1 3) Q5))))) (fun _ _ _ _ _=>Zn) Ja)) Q5)))
  (Qe (Qq (Ji (Q0 (Q9 j (J.mono (by decide)) Qa rfl (Q0 (Q1 0) (Q0 (Q1 5) Q5))) (Q0 (Q1 10) (Q0 (Yb U1 rfl T.b_tuple Z1 (Q0 (Yb (Qk8 rfl) rfl T.b_list Us (Q0 (Q1 8) Q5)) Q5)) Q5)))))))))))))
def Vq : MS := (Qi (Z9 (toB (mOp oNe (mOp oIx (mOp oIx (Q4 1) (mC (.int 0))) (mOp oIx (Q4 0) (mC (.int 0)))) (mOp oIx (Q4 0) (mC (.int 1))))) (Je (mC (.bl yl))) Jg)
  (Je (mOr (mOp oEq (mOp oIx (Q4 0) (mC (.int 2))) (mC (.str "go"))) (mOr (mOp oEq (mOp oIx (Q4 0) (mC (.int 2))) (mC (.str "fall"))) (mOp (oIn yl) (Y3 (Q3 (mOp oIx (Q4 0) (mC (.int 0))) (Q3 (mOp oIx (Q4 0) (mC (.int 2))) Q7))) (mOp oIx (Q4 1) (mC (.int 1))))))))
def Ye:FN:=Qs Vq 2
theorem Q35:FnScope ["rule", "stand"] ["rule", "stand"] (Qb Xu):=⟨rfl,rfl,rfl,by decide +kernel,rfl,by decide +kernel,by decide +kernel⟩
theorem Q46 {f:aB} {fd:aO} (F:Fun K "_law_e_fits" "_law_e_fits" Xu f fd) (T:Txt K mg)   : FnOk P w K mg base (CXD P w) 1 f fd ["rule", "stand"] (spF mg 2 Ye):=by
 refine J3 (k:=0) (m:=Vq) F Q35 rfl rfl rfl fun q A outer s H E j=>?_
 exact (Q8 (Jk (J9 (qc j.units) (Qm (Qm (Q1 1) Q6) (Qm (Q1 0) Q6)) (Qm (Q1 0) Q6)) (Qe (Qq Zp)) J6)
  (Qe (Qq (Qhb (zz (X1 j.units) (Qm (Q1 0) Q6) Jf) (Qhb (zz (X1 j.units) (Qm (Q1 0) Q6) Jf) (U4 (zz (Qii j.units) (Ji (Q0 (Qm (Q1 0) Q6) (Q0 (Qm (Q1 0) Q6) Q5))) (Qm (Q1 1) Q6))))))))
def Ub:MS:=(Q0w (Q4 3) (Q4 4) (mC (.bl yo)))
def Vn : MS := (Qi (Ju 2 (Q88 (Q8a (mOp oIx (Q4 1) (mC (.int 0))))))
  (Qi (Kt (Q4 2) (mOp oIx (Q4 0) (mC (.int 0))) (mOp oIx (Q4 0) (mC (.int 3))))
  (Qi (Ju 3 Q8c)
  (Qi (ze (Qk 4) (Uk (mOp Zt (mOp oIx (Q4 1) (mC (.int 1))) (mOp oIx (Q4 0) (mC (.int 5))))) Ub)
  (Je (Y3 (Q3 (Qz W0 (Q3 (Q4 2) Q7)) (Q3 (Qz W0 (Q3 (Qz jk (Q3 (Q4 3) Q7)) Q7)) (Q3 (mOp Zt (mOp oIx (Q4 1) (mC (.int 2))) (mOp oIx (Q4 0) (mC (.int 4)))) Q7)))))))))
def Zz:FN:=Qs Vn 5
theorem sc__law_e_step:FnScope ["rule", "stand", "states", "letters", "letter"] ["rule", "stand"] (Qb Xp):=⟨rfl,rfl,rfl,by decide +kernel,rfl,by decide +kernel,by decide +kernel⟩
theorem Q41 {f:aB} {fd:aO} (F:Fun K "_law_e_step" "_law_e_step" Xp f fd) (T:Txt K mg)   : FnOk P w K mg base (CXD P w) 1 f fd ["rule", "stand"] (spF mg 2 Zz):=by
 refine J3 (k:=0) (m:=Vn) F sc__law_e_step rfl rfl rfl fun q A outer s H E j=>?_
 exact (Q8 (J5 2 sc__law_e_step.nd (Q2v (Qm0 (Qm (Q1 1) Q6) rfl T.b_list)))
  (Q8 (Q72 (Qm (Q1 0) Q6) (Q1 2) (Qm (Q1 0) Q6))
  (Q8 (J5 3 sc__law_e_step.nd Q2x)
  (Q8 (V9 PassesOwn.leaving rfl (Yg (Jd Zg (Qm (Q1 1) Q6) (Qm (Q1 0) Q6))) (Qy (i:=4) sc__law_e_step.nd) (Qe (Q2r (xj j) Zp (Q1 3) (Q1 4))))
  (Qe (Qq (Ji (Q0 (Yb U1 rfl T.b_tuple Z1 (Q0 (Q1 2) Q5)) (Q0 (Yb U1 rfl T.b_tuple Z1 (Q0 (Qu (Qau rfl) rfl T.b_sorted jm (Q0 (Q1 3) Q5)) Q5)) (Q0 (Jd Zg (Qm (Q1 1) Q6) (Qm (Q1 0) Q6)) Q5))))))))))
def W7:ME:=(Xa "str" (Q4 0))
def Uf : MS := (Qi (Z9 (Ug (Zm (toB (Xa "tuple" (Q4 2)))) (Ug (toB (mOp oNe (Qz Ze (Q3 (Q4 2) Q7)) (mC (.int 2)))) (Zm (toB (Xa "str" (mOp oIx (Q4 2) (mC (.int 1)))))))) (Je (mC (.bl yl))) Jg)
  (Z9 (Ug (Zm (toB (Xa "int" (mOp oIx (Q4 2) (mC (.int 0)))))) (toB (Xa "bool" (mOp oIx (Q4 2) (mC (.int 0)))))) (Je (mC (.bl yl))) Jg))
def Wz : MS := (Qi (Z9 (Ug (Zm (toB (Xa "tuple" (Q4 1)))) (Ug (toB (mOp oNe (Qz Ze (Q3 (Q4 1) Q7)) (mC (.int 3)))) (Zm (toB (Xa "tuple" (mOp oIx (Q4 1) (mC (.int 0)))))))) (Je (mC (.bl yl))) Jg)
  (Qi (Z9 (Ug (toB (mOp oNe (Qz Ze (Q3 (mOp oIx (Q4 1) (mC (.int 0))) Q7)) (Qz Ze (Q3 (mOp oIx (Q4 0) (mC (.int 1))) Q7)))) (Zm (toB (Qz (zg fun ns=>.bl (ns.all id)) (Q3 (Wk (Jv [zb] (Qk 0) (Uk (mOp oIx (Q4 1) (mC (.int 0)))) Zv W7)) Q7))))) (Je (mC (.bl yl))) Jg)
  (Qi (Z9 (Ug (Zm (toB (Xa "tuple" (mOp oIx (Q4 1) (mC (.int 1)))))) (Ug (Zm (toB (Xa "int" (mOp oIx (Q4 1) (mC (.int 2)))))) (toB (Xa "bool" (mOp oIx (Q4 1) (mC (.int 2))))))) (Je (mC (.bl yl))) Jg)
  (Qi (ze (Qk 2) (Uk (mOp oIx (Q4 1) (mC (.int 1)))) Uf)
  (Je (mC (.bl yo)))))))
def Za:FN:=Qs Wz 3
theorem sc__law_e_is_stand:FnScope ["manner", "found", "letter"] ["manner", "found"] (Qb Ws):=⟨rfl,rfl,rfl,by decide +kernel,rfl,by decide +kernel,by decide +kernel⟩
theorem ye {f:aB} {fd:aO} (F:Fun K "_law_e_is_stand" "_law_e_is_stand" Ws f fd) (T:Txt K mg)   : FnOk P w K mg base (CXD P w) 1 f fd ["manner", "found"] (spF mg 2 Za):=by
 refine J3 (k:=0) (m:=Wz) F sc__law_e_is_stand rfl rfl rfl fun q A outer s H E j=>?_
 exact (Q8 (Jk (SimW.t (Wh (Z5 (Jj (Ys (T := "tuple") (by decide) (Q1 1) rfl T.b_isinstance rfl T.b_tuple Z1))) (Wh (J9 (qc j.units) (Qu Jx rfl T.b_len bn (Q0 (Q1 1) Q5)) Q6) (Yq (Z5 (Jj (Ys (T := "tuple") (by decide) (Qm (Q1 1) Q6) rfl T.b_isinstance rfl T.b_tuple Z1))))))) (Qe (Qq Zp)) J6)
  (Q8 (Jk (SimW.t (Wh (J9 (qc j.units) (Qu Jx rfl T.b_len bn (Q0 (Qm (Q1 1) Q6) Q5)) (Qu Jx rfl T.b_len bn (Q0 (Qm (Q1 0) Q6) Q5))) (Yq (Z5 (Jj (Qu (Kx rfl) rfl T.b_all V6 (Q0 (Yh (Zj [zb] ["name"] rfl (Yg (Qm (Q1 1) Q6)) (fun _ _ _ _ _=>(Qy (i:=0) (show (["name"]:List Str).Nodup by decide +kernel))) (fun _ _ _ _ _=>(Ys (T := "str") (by decide) (Q1 0) rfl T.b_isinstance rfl T.b_str Q53)) (fun _ _ _ _ _=>Zn) Ja)) Q5))))))) (Qe (Qq Zp)) J6)
  (Q8 (Jk (SimW.t (Wh (Z5 (Jj (Ys (T := "tuple") (by decide) (Qm (Q1 1) Q6) rfl T.b_isinstance rfl T.b_tuple Z1))) (Wh (Z5 (Jj (Ys (T := "int") (by decide) (Qm (Q1 1) Q6) rfl T.b_isinstance rfl T.b_int Q0c))) (Yq (Jj (Ys (T := "bool") (by decide) (Qm (Q1 1) Q6) rfl T.b_isinstance rfl T.b_bool z9)))))) (Qe (Qq Zp)) J6)
  (Q8 (V9 PassesOwn.leaving rfl (Yg (Qm (Q1 1) Q6)) (Qy (i:=2) sc__law_e_is_stand.nd) (Q8 (Jk (SimW.t (Wh (Z5 (Jj (Ys (T := "tuple") (by decide) (Q1 2) rfl T.b_isinstance rfl T.b_tuple Z1))) (Wh (J9 (qc j.units) (Qu Jx rfl T.b_len bn (Q0 (Q1 2) Q5)) Q6) (Yq (Z5 (Jj (Ys (T := "str") (by decide) (Qm (Q1 2) Q6) rfl T.b_isinstance rfl T.b_str Q53))))))) (Qe (Qq Zp)) J6)
  (Qe (Jk (SimW.t (Wh (Z5 (Jj (Ys (T := "int") (by decide) (Qm (Q1 2) Q6) rfl T.b_isinstance rfl T.b_int Q0c))) (Yq (Jj (Ys (T := "bool") (by decide) (Qm (Q1 2) Q6) rfl T.b_isinstance rfl T.b_bool z9))))) (Qe (Qq Zp)) J6))))
  (Qe (Qq Zp))))))
def Vr : MS := (Qi (Z9 (toB (mOp oEq (Q4 0) (mC (.int 0)))) (Je (Qd 3 W9 (Q3 (Q4 1) (Q3 (Q4 2) (Q3 (Q4 3) Q7))))) Jg)
  (Qi (Z9 (toB (mOp oEq (Q4 0) (mC (.int 1)))) (Je (Qd 1 Z4 (Q3 (Q4 1) Q7))) Jg)
  (Qi (Z9 (toB (mOp oEq (Q4 0) (mC (.int 2)))) (Je (Qd 2 U2 (Q3 (Q4 1) (Q3 (Q4 2) Q7)))) Jg)
  (Qi (Z9 (toB (mOp oEq (Q4 0) (mC (.int 3)))) (Je (Qd 2 Ky (Q3 (Q4 1) (Q3 (jg Q7) Q7)))) Jg)
  (Qi (Z9 (toB (mOp oEq (Q4 0) (mC (.int 4)))) (Je (Qd 2 Q2f (Q3 (Q4 1) (Q3 (jg Q7) Q7)))) Jg)
  (Qi (Z9 (toB (mOp oEq (Q4 0) (mC (.int 5)))) (Je (Qd 1 Q2d (Q3 (Q4 1) Q7))) Jg)
  (Je (Qd 1 Q2e (Q3 (Q4 1) Q7)))))))))
def Yf:FN:=Qs Vr 4
theorem Q36:FnScope ["way", "manner", "stand", "number"] ["way", "manner", "stand", "number"] (Qb Xv):=⟨rfl,rfl,rfl,by decide +kernel,rfl,by decide +kernel,by decide +kernel⟩
theorem Q47 {f:aB} {fd:aO} (F:Fun K "_law_e_door" "_law_e_door" Xv f fd) (T:Txt K mg)  (z:DefS P w K mg base 9 "behind" 3 W9) (j:DefS P w K mg base 9 "first_stand" 1 Z4) (G:DefS P w K mg base 9 "may_do" 2 U2) (q:DefS P w K mg base 9 "is_break" 2 Ky) (Y:DefS P w K mg base 9 "keeps" 2 Q2f) (U:DefS P w K mg base 9 "tried" 1 Q2d) (O:DefS P w K mg base 9 "rests" 1 Q2e):FnOk P w K mg base (CXD P w) 10 f fd ["way", "manner", "stand", "number"] (spF mg 4 Yf):=by
 refine J3 (k:=9) (m:=Vr) F Q36 rfl rfl rfl fun Z A outer s H E J=>?_
 exact (Q8 (Jk (J9 (X1 J.units) (Q1 0) Q6) (Qe (Qq (Q9 z (J.mono (by decide)) Qa rfl (Q0 (Q1 1) (Q0 (Q1 2) (Q0 (Q1 3) Q5)))))) J6)
  (Q8 (Jk (J9 (X1 J.units) (Q1 0) Q6) (Qe (Qq (Q9 j (J.mono (by decide)) Qa rfl (Q0 (Q1 1) Q5)))) J6)
  (Q8 (Jk (J9 (X1 J.units) (Q1 0) Q6) (Qe (Qq (Q9 G (J.mono (by decide)) Qa rfl (Q0 (Q1 1) (Q0 (Q1 2) Q5))))) J6)
  (Q8 (Jk (J9 (X1 J.units) (Q1 0) Q6) (Qe (Qq (Q9 q (J.mono (by decide)) Qa rfl (Q0 (Q1 1) (Q0 (Uu Q5) Q5))))) J6)
  (Q8 (Jk (J9 (X1 J.units) (Q1 0) Q6) (Qe (Qq (Q9 Y (J.mono (by decide)) Qa rfl (Q0 (Q1 1) (Q0 (Uu Q5) Q5))))) J6)
  (Q8 (Jk (J9 (X1 J.units) (Q1 0) Q6) (Qe (Qq (Q9 U (J.mono (by decide)) Qa rfl (Q0 (Q1 1) Q5)))) J6)
  (Qe (Qq (Q9 O (J.mono (by decide)) Qa rfl (Q0 (Q1 1) Q5))))))))))
def Qtq (c:Nat->aB):Sp:=fun vs H Q E=>∃ e dv,vs=[V.ref e]/\((H e=zo (.ext (IsXD e (c 9) dv))/\∀ H2,Same H H2->Q (.str "manner") H2)\/(H e=zo (.ext (IsXD e (c 3) dv))/\∀ H2,Same H H2->Q (.str "deed") H2))
theorem sc__law_e_kind:FnScope ["caught", "names", "kinds"] ["caught"] (Qb Xt):=⟨rfl,rfl,rfl,by decide +kernel,rfl,by decide +kernel,by decide +kernel⟩
theorem Q45 {f:aB} {fd:aO} {c:Nat->aB} (F:Fun K "_law_e_kind" "_law_e_kind" Xt f fd) (T:Txt K mg) (Nm:Nms mg c) (T9:TgtS K c 9) (T3:TgtS K c 3):FnOk P w K mg base (CXD P w) 1 f fd ["caught"] (Qtq c):=by
 refine Fun.okD (k:=0) F sc__law_e_kind (fun vs H Q E h=>by obtain ⟨e,dv,rfl,_⟩:=h; rfl) fun i6 A outer s H vs Q E hr h0=>?_
 obtain ⟨e,dv,rfl,h0⟩:=h0;refine jok ?_;refine ⟨_,X5 (Q11 (i:=1) sc__law_e_kind.nd rfl (Or.inl rfl) (yn ⟨Q9z ["road", "house", "table", "deed", "letter", "stand", "plan", "book", "manner", "many", "text", "row"] [(_,_),(_,_),(_,_),(_,_),(_,_),(_,_),(_,_),(_,_),(_,_),(_,_),(_,_),(_,_)] rfl⟩))
   (X5 (Q11 (i:=2) sc__law_e_kind.nd rfl (Or.inl rfl) (yn (Yp ⟨Jt (Z0 K) (by rfl) Nm.isi Qx (Qt (pv 0) (Qt (Zr (v:=.ref (c 6)) (by rfl) Nm.m6 rfl) Js))⟩ (Yp ⟨Jt (Z0 K) (by rfl) Nm.isi Qx (Qt (pv 0) (Qt (Zr (v:=.ref (c 2)) (by rfl) Nm.m2 rfl) Js))⟩ (Yp ⟨Jt (Z0 K) (by rfl) Nm.isi Qx (Qt (pv 0) (Qt (Zr (v:=.ref (c 1)) (by rfl) Nm.m1 rfl) Js))⟩ Q4q)))))
   (X5 (Q11 (i:=2) sc__law_e_kind.nd rfl (Or.inl rfl) (Qap Q0p ⟨pv 2⟩ (yn (Yp ⟨Jt (Z0 K) (by rfl) Nm.isi Qx (Qt (pv 0) (Qt (Zr (v:=.ref (c 3)) (by rfl) Nm.m3 rfl) Js))⟩ (Yp ⟨Jt (Z0 K) (by rfl) Nm.isi Qx (Qt (pv 0) (Qt (Zr (v:=.ref (c 4)) (by rfl) Nm.m4 rfl) Js))⟩ (Yp ⟨Jt (Z0 K) (by rfl) Nm.isi Qx (Qt (pv 0) (Qt (Zr (v:=.ref (c 5)) (by rfl) Nm.m5 rfl) Js))⟩ Q4q))))))
   (X5 (Q11 (i:=2) sc__law_e_kind.nd rfl (Or.inl rfl) (Qap Q0p ⟨pv 2⟩ (yn (Yp ⟨Jt (Z0 K) (by rfl) Nm.isi Qx (Qt (pv 0) (Qt (Zr (v:=.ref (c 7)) (by rfl) Nm.m7 rfl) Js))⟩ (Yp ⟨Jt (Z0 K) (by rfl) Nm.isi Qx (Qt (pv 0) (Qt (Zr (v:=.ref (c 8)) (by rfl) Nm.m8 rfl) Js))⟩ (Yp ⟨Jt (Z0 K) (by rfl) Nm.isi Qx (Qt (pv 0) (Qt (Zr (v:=.ref (c 9)) (by rfl) Nm.m9 rfl) Js))⟩ Q4q))))))
   (X5 (Q11 (i:=2) sc__law_e_kind.nd rfl (Or.inl rfl) (Qap Q0p ⟨pv 2⟩ (yn (Yp ⟨Jt (Z0 K) (by rfl) Nm.isi Qx (Qt (pv 0) (Qt (Zr (v:=.ref (c 10)) (by rfl) Nm.m10 rfl) Js))⟩ (Yp ⟨Jt (Z0 K) (by rfl) Nm.isi Qx (Qt (pv 0) (Qt (Zr (v:=.ref (c 11)) (by rfl) Nm.m11 rfl) Js))⟩ (Yp ⟨Jt (Z0 K) (by rfl) Nm.isi Qx (Qt (pv 0) (Qt (Zr (v:=.ref (c 12)) (by rfl) Nm.m12 rfl) Js))⟩ Q4q))))))
   (X5 (Q11 (i:=2) sc__law_e_kind.nd rfl (Or.inl rfl) (Qap Q0p ⟨pv 2⟩ (yn (Yp ⟨Jt (Z0 K) (by rfl) Nm.isi Qx (Qt (pv 0) (Qt (Zr (v:=.ref (c 13)) (by rfl) Nm.m13 rfl) Js))⟩ (Yp ⟨Jt (Z0 K) (by rfl) Nm.isi Qx (Qt (pv 0) (Qt (Zr (v:=.ref (c 14)) (by rfl) Nm.m14 rfl) Js))⟩ Q4q)))))
   (X5 (Qux (PW.pt (Qq1 (Q7m Qu7 (Qdk fc gX PySem.F.type_list_count Qfu (pv 2) (Qt Qid Js)) Qi9 (Q84 _)) (Qhs (Qhw (Qhv (Jt (Z0 K) (by rfl) Nm.isi Qx (Qt (pv 0) (Qt (Qdm (v:=.ty "ValueError") (by rfl) Nm.ve Q22 rfl) Js)))))))) (Qe4 (Qj8 Qs5)) Qny)
   (Qe4 (Qj8 (Quy ix_list (Qap Q0p ⟨pv 1⟩ (yn ⟨Q9z ["name", "short"] [(_,_),(_,_)] rfl⟩)) ⟨Qdk fc gY PySem.F.type_list_index Qft (pv 2) (Qt Qid Js)⟩ (fun _ _=>rfl)))))))))),?_⟩
 rcases h0 with ⟨h7,hQ⟩ | ⟨h7,hQ⟩
 ·refine ⟨by decide,fun p1 f9=>?_⟩;obtain ⟨H1,e1⟩:∃ H1,upd H p1 (.lst (bZ V.str ["road", "house", "table", "deed", "letter", "stand", "plan", "book", "manner", "many", "text", "row"]))=H1:=⟨_,rfl⟩;have b4:H1 e=zo (.ext (IsXD e (c 9) dv)):=e1 ▸ J2 h7 f9;have h4:Same H H1:=e1 ▸ Jc (fun _ _ z=>z) f9;have d6:H1 p1=zo (.lst (bZ V.str ["road", "house", "table", "deed", "letter", "stand", "plan", "book", "manner", "many", "text", "row"])):=e1 ▸ Qp;rw [show upd H p1 (.lst (bZ V.str ["road", "house", "table", "deed", "letter", "stand", "plan", "book", "manner", "many", "text", "row"]))=H1 from e1];refine ⟨_,rfl,e,_,_,_,_,yl,rfl,rfl,b4,T9.xc,T9.k 6 (by decide) (by decide),?_⟩;refine ⟨_,rfl,e,_,_,_,_,yl,rfl,rfl,b4,T9.xc,T9.k 2 (by decide) (by decide),?_⟩;refine ⟨_,rfl,e,_,_,_,_,yl,rfl,rfl,b4,T9.xc,T9.k 1 (by decide) (by decide),?_⟩;refine ⟨by decide,fun p2 f3=>?_⟩
  obtain ⟨H2,e2⟩:∃ H2,upd H1 p2 (.lst [.bl yl,.bl yl,.bl yl])=H2:=⟨_,rfl⟩;have d9:H2 e=zo (.ext (IsXD e (c 9) dv)):=e2 ▸ J2 b4 f3;have i0:Same H H2:=e2 ▸ Jc h4 f3;have d3:H2 p2=zo (.lst [.bl yl,.bl yl,.bl yl]):=e2 ▸ Qp;have d7:H2 p1=zo (.lst (bZ V.str ["road", "house", "table", "deed", "letter", "stand", "plan", "book", "manner", "many", "text", "row"])):=e2 ▸ J2 d6 f3;rw [show upd H1 p2 (.lst (_))=H2 from e2];refine ⟨_,rfl,?_⟩;refine ⟨_,rfl,e,_,_,_,_,yl,rfl,rfl,d9,T9.xc,T9.k 3 (by decide) (by decide),?_⟩;refine ⟨_,rfl,e,_,_,_,_,yl,rfl,rfl,d9,T9.xc,T9.k 4 (by decide) (by decide),?_⟩;refine ⟨_,rfl,e,_,_,_,_,yl,rfl,rfl,d9,T9.xc,T9.k 5 (by decide) (by decide),?_⟩;refine ⟨by decide,fun p3 f0=>?_⟩;obtain ⟨H3,e3⟩:∃ H3,upd H2 p3 (.lst [.bl yl,.bl yl,.bl yl])=H3:=⟨_,rfl⟩;have i1:H3 e=zo (.ext (IsXD e (c 9) dv)):=e3 ▸ J2 d9 f0
  have g9:Same H H3:=e3 ▸ Jc i0 f0;have c2:H3 p3=zo (.lst [.bl yl,.bl yl,.bl yl]):=e3 ▸ Qp;have d0:H3 p1=zo (.lst (bZ V.str ["road", "house", "table", "deed", "letter", "stand", "plan", "book", "manner", "many", "text", "row"])):=e3 ▸ J2 d7 f0;have a5:H3 p2=zo (.lst [.bl yl,.bl yl,.bl yl]):=e3 ▸ J2 d3 f0;rw [show upd H2 p3 (.lst (_))=H3 from e3];refine ⟨_,_,_,_,rfl,rfl,a5,c2,by decide,fun p4 e0=>?_⟩;obtain ⟨H4,e4⟩:∃ H4,upd H3 p4 (.lst [.bl yl,.bl yl,.bl yl,.bl yl,.bl yl,.bl yl])=H4:=⟨_,rfl⟩;have b9:H4 e=zo (.ext (IsXD e (c 9) dv)):=e4 ▸ J2 i1 e0;have h9:Same H H4:=e4 ▸ Jc g9 e0;have d1:H4 p4=zo (.lst [.bl yl,.bl yl,.bl yl,.bl yl,.bl yl,.bl yl]):=e4 ▸ Qp;have c9:H4 p1=zo (.lst (bZ V.str ["road", "house", "table", "deed", "letter", "stand", "plan", "book", "manner", "many", "text", "row"])):=e4 ▸ J2 d0 e0
  have g6:H4 p2=zo (.lst [.bl yl,.bl yl,.bl yl]):=e4 ▸ J2 a5 e0;rw [show upd H3 p4 (.lst ([.bl yl,.bl yl,.bl yl] ++ [.bl yl,.bl yl,.bl yl]))=H4 from e4];refine ⟨_,rfl,?_⟩;refine ⟨_,rfl,e,_,_,_,_,yl,rfl,rfl,b9,T9.xc,T9.k 7 (by decide) (by decide),?_⟩;refine ⟨_,rfl,e,_,_,_,_,yl,rfl,rfl,b9,T9.xc,T9.k 8 (by decide) (by decide),?_⟩;refine ⟨_,rfl,e,_,_,_,_,yo,rfl,rfl,b9,T9.xc,T9.k 9 (by decide) (by decide),?_⟩;refine ⟨by decide,fun p5 b5=>?_⟩;obtain ⟨H5,e5⟩:∃ H5,upd H4 p5 (.lst [.bl yl,.bl yl,.bl yo])=H5:=⟨_,rfl⟩;have g8:H5 e=zo (.ext (IsXD e (c 9) dv)):=e5 ▸ J2 b9 b5;have i3:Same H H5:=e5 ▸ Jc h9 b5;have b6:H5 p5=zo (.lst [.bl yl,.bl yl,.bl yo]):=e5 ▸ Qp;have c7:H5 p1=zo (.lst (bZ V.str ["road", "house", "table", "deed", "letter", "stand", "plan", "book", "manner", "many", "text", "row"])):=e5 ▸ J2 c9 b5
  have a7:H5 p4=zo (.lst [.bl yl,.bl yl,.bl yl,.bl yl,.bl yl,.bl yl]):=e5 ▸ J2 d1 b5;rw [show upd H4 p5 (.lst (_))=H5 from e5];refine ⟨_,_,_,_,rfl,rfl,a7,b6,by decide,fun p6 d8=>?_⟩;obtain ⟨H6,e6⟩:∃ H6,upd H5 p6 (.lst [.bl yl,.bl yl,.bl yl,.bl yl,.bl yl,.bl yl,.bl yl,.bl yl,.bl yo])=H6:=⟨_,rfl⟩;have c3:H6 e=zo (.ext (IsXD e (c 9) dv)):=e6 ▸ J2 g8 d8;have h5:Same H H6:=e6 ▸ Jc i3 d8;have d4:H6 p6=zo (.lst [.bl yl,.bl yl,.bl yl,.bl yl,.bl yl,.bl yl,.bl yl,.bl yl,.bl yo]):=e6 ▸ Qp;have c6:H6 p1=zo (.lst (bZ V.str ["road", "house", "table", "deed", "letter", "stand", "plan", "book", "manner", "many", "text", "row"])):=e6 ▸ J2 c7 d8;have g7:H6 p4=zo (.lst [.bl yl,.bl yl,.bl yl,.bl yl,.bl yl,.bl yl]):=e6 ▸ J2 a7 d8;rw [show upd H5 p6 (.lst ([.bl yl,.bl yl,.bl yl,.bl yl,.bl yl,.bl yl] ++ [.bl yl,.bl yl,.bl yo]))=H6 from e6]
  refine ⟨_,rfl,?_⟩;refine ⟨_,rfl,e,_,_,_,_,yl,rfl,rfl,c3,T9.xc,T9.k 10 (by decide) (by decide),?_⟩;refine ⟨_,rfl,e,_,_,_,_,yl,rfl,rfl,c3,T9.xc,T9.k 11 (by decide) (by decide),?_⟩;refine ⟨_,rfl,e,_,_,_,_,yl,rfl,rfl,c3,T9.xc,T9.k 12 (by decide) (by decide),?_⟩;refine ⟨by decide,fun p7 d5=>?_⟩;obtain ⟨H7,e7⟩:∃ H7,upd H6 p7 (.lst [.bl yl,.bl yl,.bl yl])=H7:=⟨_,rfl⟩;have h6:H7 e=zo (.ext (IsXD e (c 9) dv)):=e7 ▸ J2 c3 d5;have i4:Same H H7:=e7 ▸ Jc h5 d5;have c4:H7 p7=zo (.lst [.bl yl,.bl yl,.bl yl]):=e7 ▸ Qp;have b8:H7 p1=zo (.lst (bZ V.str ["road", "house", "table", "deed", "letter", "stand", "plan", "book", "manner", "many", "text", "row"])):=e7 ▸ J2 c6 d5;have a4:H7 p6=zo (.lst [.bl yl,.bl yl,.bl yl,.bl yl,.bl yl,.bl yl,.bl yl,.bl yl,.bl yo]):=e7 ▸ J2 d4 d5;rw [show upd H6 p7 (.lst (_))=H7 from e7]
  refine ⟨_,_,_,_,rfl,rfl,a4,c4,by decide,fun p8 d2=>?_⟩;obtain ⟨H8,e8⟩:∃ H8,upd H7 p8 (.lst [.bl yl,.bl yl,.bl yl,.bl yl,.bl yl,.bl yl,.bl yl,.bl yl,.bl yo,.bl yl,.bl yl,.bl yl])=H8:=⟨_,rfl⟩;have f4:H8 e=zo (.ext (IsXD e (c 9) dv)):=e8 ▸ J2 h6 d2;have h8:Same H H8:=e8 ▸ Jc i4 d2;have c0:H8 p8=zo (.lst [.bl yl,.bl yl,.bl yl,.bl yl,.bl yl,.bl yl,.bl yl,.bl yl,.bl yo,.bl yl,.bl yl,.bl yl]):=e8 ▸ Qp;have b7:H8 p1=zo (.lst (bZ V.str ["road", "house", "table", "deed", "letter", "stand", "plan", "book", "manner", "many", "text", "row"])):=e8 ▸ J2 b8 d2;have g5:H8 p6=zo (.lst [.bl yl,.bl yl,.bl yl,.bl yl,.bl yl,.bl yl,.bl yl,.bl yl,.bl yo]):=e8 ▸ J2 a4 d2;rw [show upd H7 p8 (.lst ([.bl yl,.bl yl,.bl yl,.bl yl,.bl yl,.bl yl,.bl yl,.bl yl,.bl yo] ++ [.bl yl,.bl yl,.bl yl]))=H8 from e8]
  refine ⟨_,rfl,?_⟩;refine ⟨_,rfl,e,_,_,_,_,yl,rfl,rfl,f4,T9.xc,T9.k 13 (by decide) (by decide),?_⟩;refine ⟨_,rfl,e,_,_,_,_,yl,rfl,rfl,f4,T9.xc,T9.k 14 (by decide) (by decide),?_⟩;refine ⟨by decide,fun p9 f1=>?_⟩;obtain ⟨H9,e9⟩:∃ H9,upd H8 p9 (.lst [.bl yl,.bl yl])=H9:=⟨_,rfl⟩;have i2:H9 e=zo (.ext (IsXD e (c 9) dv)):=e9 ▸ J2 f4 f1;have h3:Same H H9:=e9 ▸ Jc h8 f1;have c1:H9 p9=zo (.lst [.bl yl,.bl yl]):=e9 ▸ Qp;have c5:H9 p1=zo (.lst (bZ V.str ["road", "house", "table", "deed", "letter", "stand", "plan", "book", "manner", "many", "text", "row"])):=e9 ▸ J2 b7 f1;have a3:H9 p8=zo (.lst [.bl yl,.bl yl,.bl yl,.bl yl,.bl yl,.bl yl,.bl yl,.bl yl,.bl yo,.bl yl,.bl yl,.bl yl]):=e9 ▸ J2 c0 f1;rw [show upd H8 p9 (.lst (_))=H9 from e9];refine ⟨_,_,_,_,rfl,rfl,a3,c1,by decide,fun b2 a2=>?_⟩;obtain ⟨q,b1⟩:∃ q,upd H9 b2 (.lst [.bl yl,.bl yl,.bl yl,.bl yl,.bl yl,.bl yl,.bl yl,.bl yl,.bl yo,.bl yl,.bl yl,.bl yl,.bl yl,.bl yl])=q:=⟨_,rfl⟩
  have f2:q e=zo (.ext (IsXD e (c 9) dv)):=b1 ▸ J2 i2 a2;have f8:Same H q:=b1 ▸ Jc h3 a2;have j:q b2=zo (.lst [.bl yl,.bl yl,.bl yl,.bl yl,.bl yl,.bl yl,.bl yl,.bl yl,.bl yo,.bl yl,.bl yl,.bl yl,.bl yl,.bl yl]):=b1 ▸ Qp;have b3:q p1=zo (.lst (bZ V.str ["road", "house", "table", "deed", "letter", "stand", "plan", "book", "manner", "many", "text", "row"])):=b1 ▸ J2 c5 a2;have g3:q p8=zo (.lst [.bl yl,.bl yl,.bl yl,.bl yl,.bl yl,.bl yl,.bl yl,.bl yl,.bl yo,.bl yl,.bl yl,.bl yl]):=b1 ▸ J2 a3 a2;rw [show upd H9 b2 (.lst ([.bl yl,.bl yl,.bl yl,.bl yl,.bl yl,.bl yl,.bl yl,.bl yl,.bl yo,.bl yl,.bl yl,.bl yl] ++ [.bl yl,.bl yl]))=q from b1];refine ⟨_,rfl,.inl ⟨rfl,_,.inl (.inl j)⟩,_,[yl,yl,yl,yl,yl,yl,yl,yl,yo,yl,yl,yl,yl,yl],rfl,rfl,j,rfl,_,rfl,Qg4 ?_⟩
  refine ⟨_,rfl,e,_,_,_,_,yo,rfl,rfl,f2,T9.xc,T9.ve,_,rfl,Qg4 ?_⟩;refine ⟨_,rfl,?_⟩;refine ⟨by decide,fun c8 a6=>?_⟩;obtain ⟨G,b0⟩:∃ G,upd q c8 (.lst (bZ V.str ["name", "short"]))=G:=⟨_,rfl⟩;have g1:G e=zo (.ext (IsXD e (c 9) dv)):=b0 ▸ J2 f2 a6;have g0:Same H G:=b0 ▸ Jc f8 a6;have O:G c8=zo (.lst (bZ V.str ["name", "short"])):=b0 ▸ Qp;have Y:G p1=zo (.lst (bZ V.str ["road", "house", "table", "deed", "letter", "stand", "plan", "book", "manner", "many", "text", "row"])):=b0 ▸ J2 b3 a6;have a9:G b2=zo (.lst [.bl yl,.bl yl,.bl yl,.bl yl,.bl yl,.bl yl,.bl yl,.bl yl,.bl yo,.bl yl,.bl yl,.bl yl,.bl yl,.bl yl]):=b0 ▸ J2 j a6;rw [show upd q c8 (.lst (bZ V.str ["name", "short"]))=G from b0];refine ⟨_,_,_,_,rfl,rfl,Y,O,by decide,fun f5 Z=>?_⟩
  obtain ⟨U,a1⟩:∃ U,upd G f5 (.lst (bZ V.str ["road", "house", "table", "deed", "letter", "stand", "plan", "book", "manner", "many", "text", "row"] ++ bZ V.str ["name", "short"]))=U:=⟨_,rfl⟩;have i5:U e=zo (.ext (IsXD e (c 9) dv)):=a1 ▸ J2 g1 Z;have f7:Same H U:=a1 ▸ Jc g0 Z;have a8:U f5=zo (.lst (bZ V.str ["road", "house", "table", "deed", "letter", "stand", "plan", "book", "manner", "many", "text", "row"] ++ bZ V.str ["name", "short"])):=a1 ▸ Qp;have g4:U p1=zo (.lst (bZ V.str ["road", "house", "table", "deed", "letter", "stand", "plan", "book", "manner", "many", "text", "row"])):=a1 ▸ J2 Y Z;have J:U b2=zo (.lst [.bl yl,.bl yl,.bl yl,.bl yl,.bl yl,.bl yl,.bl yl,.bl yl,.bl yo,.bl yl,.bl yl,.bl yl,.bl yl,.bl yl]):=a1 ▸ J2 a9 Z;have f6:U c8=zo (.lst (bZ V.str ["name", "short"])):=a1 ▸ J2 O Z
  rw [show upd G f5 (.lst (bZ V.str ["road", "house", "table", "deed", "letter", "stand", "plan", "book", "manner", "many", "text", "row"] ++ bZ V.str ["name", "short"]))=U from a1];refine ⟨_,rfl,.inl ⟨rfl,_,.inl (.inl J)⟩,_,[yl,yl,yl,yl,yl,yl,yl,yl,yo,yl,yl,yl,yl,yl],8,rfl,rfl,J,by decide,rfl,noB _ _ (by decide) (by decide),?_⟩;refine ⟨_,_,_,_,rfl,rfl,.inl (.inl a8),rfl,?_⟩;exact hQ _ f7
 ·refine ⟨by decide,fun p1 f9=>?_⟩;obtain ⟨H1,e1⟩:∃ H1,upd H p1 (.lst (bZ V.str ["road", "house", "table", "deed", "letter", "stand", "plan", "book", "manner", "many", "text", "row"]))=H1:=⟨_,rfl⟩;have b4:H1 e=zo (.ext (IsXD e (c 3) dv)):=e1 ▸ J2 h7 f9;have h4:Same H H1:=e1 ▸ Jc (fun _ _ z=>z) f9;have d6:H1 p1=zo (.lst (bZ V.str ["road", "house", "table", "deed", "letter", "stand", "plan", "book", "manner", "many", "text", "row"])):=e1 ▸ Qp;rw [show upd H p1 (.lst (bZ V.str ["road", "house", "table", "deed", "letter", "stand", "plan", "book", "manner", "many", "text", "row"]))=H1 from e1];refine ⟨_,rfl,e,_,_,_,_,yl,rfl,rfl,b4,T3.xc,T3.k 6 (by decide) (by decide),?_⟩;refine ⟨_,rfl,e,_,_,_,_,yl,rfl,rfl,b4,T3.xc,T3.k 2 (by decide) (by decide),?_⟩;refine ⟨_,rfl,e,_,_,_,_,yl,rfl,rfl,b4,T3.xc,T3.k 1 (by decide) (by decide),?_⟩;refine ⟨by decide,fun p2 f3=>?_⟩
  obtain ⟨H2,e2⟩:∃ H2,upd H1 p2 (.lst [.bl yl,.bl yl,.bl yl])=H2:=⟨_,rfl⟩;have d9:H2 e=zo (.ext (IsXD e (c 3) dv)):=e2 ▸ J2 b4 f3;have i0:Same H H2:=e2 ▸ Jc h4 f3;have d3:H2 p2=zo (.lst [.bl yl,.bl yl,.bl yl]):=e2 ▸ Qp;have d7:H2 p1=zo (.lst (bZ V.str ["road", "house", "table", "deed", "letter", "stand", "plan", "book", "manner", "many", "text", "row"])):=e2 ▸ J2 d6 f3;rw [show upd H1 p2 (.lst (_))=H2 from e2];refine ⟨_,rfl,?_⟩;refine ⟨_,rfl,e,_,_,_,_,yo,rfl,rfl,d9,T3.xc,T3.k 3 (by decide) (by decide),?_⟩;refine ⟨_,rfl,e,_,_,_,_,yl,rfl,rfl,d9,T3.xc,T3.k 4 (by decide) (by decide),?_⟩;refine ⟨_,rfl,e,_,_,_,_,yl,rfl,rfl,d9,T3.xc,T3.k 5 (by decide) (by decide),?_⟩;refine ⟨by decide,fun p3 f0=>?_⟩;obtain ⟨H3,e3⟩:∃ H3,upd H2 p3 (.lst [.bl yo,.bl yl,.bl yl])=H3:=⟨_,rfl⟩;have i1:H3 e=zo (.ext (IsXD e (c 3) dv)):=e3 ▸ J2 d9 f0
  have g9:Same H H3:=e3 ▸ Jc i0 f0;have c2:H3 p3=zo (.lst [.bl yo,.bl yl,.bl yl]):=e3 ▸ Qp;have d0:H3 p1=zo (.lst (bZ V.str ["road", "house", "table", "deed", "letter", "stand", "plan", "book", "manner", "many", "text", "row"])):=e3 ▸ J2 d7 f0;have a5:H3 p2=zo (.lst [.bl yl,.bl yl,.bl yl]):=e3 ▸ J2 d3 f0;rw [show upd H2 p3 (.lst (_))=H3 from e3];refine ⟨_,_,_,_,rfl,rfl,a5,c2,by decide,fun p4 e0=>?_⟩;obtain ⟨H4,e4⟩:∃ H4,upd H3 p4 (.lst [.bl yl,.bl yl,.bl yl,.bl yo,.bl yl,.bl yl])=H4:=⟨_,rfl⟩;have b9:H4 e=zo (.ext (IsXD e (c 3) dv)):=e4 ▸ J2 i1 e0;have h9:Same H H4:=e4 ▸ Jc g9 e0;have d1:H4 p4=zo (.lst [.bl yl,.bl yl,.bl yl,.bl yo,.bl yl,.bl yl]):=e4 ▸ Qp;have c9:H4 p1=zo (.lst (bZ V.str ["road", "house", "table", "deed", "letter", "stand", "plan", "book", "manner", "many", "text", "row"])):=e4 ▸ J2 d0 e0
  have g6:H4 p2=zo (.lst [.bl yl,.bl yl,.bl yl]):=e4 ▸ J2 a5 e0;rw [show upd H3 p4 (.lst ([.bl yl,.bl yl,.bl yl] ++ [.bl yo,.bl yl,.bl yl]))=H4 from e4];refine ⟨_,rfl,?_⟩;refine ⟨_,rfl,e,_,_,_,_,yl,rfl,rfl,b9,T3.xc,T3.k 7 (by decide) (by decide),?_⟩;refine ⟨_,rfl,e,_,_,_,_,yl,rfl,rfl,b9,T3.xc,T3.k 8 (by decide) (by decide),?_⟩;refine ⟨_,rfl,e,_,_,_,_,yl,rfl,rfl,b9,T3.xc,T3.k 9 (by decide) (by decide),?_⟩;refine ⟨by decide,fun p5 b5=>?_⟩;obtain ⟨H5,e5⟩:∃ H5,upd H4 p5 (.lst [.bl yl,.bl yl,.bl yl])=H5:=⟨_,rfl⟩;have g8:H5 e=zo (.ext (IsXD e (c 3) dv)):=e5 ▸ J2 b9 b5;have i3:Same H H5:=e5 ▸ Jc h9 b5;have b6:H5 p5=zo (.lst [.bl yl,.bl yl,.bl yl]):=e5 ▸ Qp;have c7:H5 p1=zo (.lst (bZ V.str ["road", "house", "table", "deed", "letter", "stand", "plan", "book", "manner", "many", "text", "row"])):=e5 ▸ J2 c9 b5
  have a7:H5 p4=zo (.lst [.bl yl,.bl yl,.bl yl,.bl yo,.bl yl,.bl yl]):=e5 ▸ J2 d1 b5;rw [show upd H4 p5 (.lst (_))=H5 from e5];refine ⟨_,_,_,_,rfl,rfl,a7,b6,by decide,fun p6 d8=>?_⟩;obtain ⟨H6,e6⟩:∃ H6,upd H5 p6 (.lst [.bl yl,.bl yl,.bl yl,.bl yo,.bl yl,.bl yl,.bl yl,.bl yl,.bl yl])=H6:=⟨_,rfl⟩;have c3:H6 e=zo (.ext (IsXD e (c 3) dv)):=e6 ▸ J2 g8 d8;have h5:Same H H6:=e6 ▸ Jc i3 d8;have d4:H6 p6=zo (.lst [.bl yl,.bl yl,.bl yl,.bl yo,.bl yl,.bl yl,.bl yl,.bl yl,.bl yl]):=e6 ▸ Qp;have c6:H6 p1=zo (.lst (bZ V.str ["road", "house", "table", "deed", "letter", "stand", "plan", "book", "manner", "many", "text", "row"])):=e6 ▸ J2 c7 d8;have g7:H6 p4=zo (.lst [.bl yl,.bl yl,.bl yl,.bl yo,.bl yl,.bl yl]):=e6 ▸ J2 a7 d8;rw [show upd H5 p6 (.lst ([.bl yl,.bl yl,.bl yl,.bl yo,.bl yl,.bl yl] ++ [.bl yl,.bl yl,.bl yl]))=H6 from e6]
  refine ⟨_,rfl,?_⟩;refine ⟨_,rfl,e,_,_,_,_,yl,rfl,rfl,c3,T3.xc,T3.k 10 (by decide) (by decide),?_⟩;refine ⟨_,rfl,e,_,_,_,_,yl,rfl,rfl,c3,T3.xc,T3.k 11 (by decide) (by decide),?_⟩;refine ⟨_,rfl,e,_,_,_,_,yl,rfl,rfl,c3,T3.xc,T3.k 12 (by decide) (by decide),?_⟩;refine ⟨by decide,fun p7 d5=>?_⟩;obtain ⟨H7,e7⟩:∃ H7,upd H6 p7 (.lst [.bl yl,.bl yl,.bl yl])=H7:=⟨_,rfl⟩;have h6:H7 e=zo (.ext (IsXD e (c 3) dv)):=e7 ▸ J2 c3 d5;have i4:Same H H7:=e7 ▸ Jc h5 d5;have c4:H7 p7=zo (.lst [.bl yl,.bl yl,.bl yl]):=e7 ▸ Qp;have b8:H7 p1=zo (.lst (bZ V.str ["road", "house", "table", "deed", "letter", "stand", "plan", "book", "manner", "many", "text", "row"])):=e7 ▸ J2 c6 d5;have a4:H7 p6=zo (.lst [.bl yl,.bl yl,.bl yl,.bl yo,.bl yl,.bl yl,.bl yl,.bl yl,.bl yl]):=e7 ▸ J2 d4 d5;rw [show upd H6 p7 (.lst (_))=H7 from e7]
  refine ⟨_,_,_,_,rfl,rfl,a4,c4,by decide,fun p8 d2=>?_⟩;obtain ⟨H8,e8⟩:∃ H8,upd H7 p8 (.lst [.bl yl,.bl yl,.bl yl,.bl yo,.bl yl,.bl yl,.bl yl,.bl yl,.bl yl,.bl yl,.bl yl,.bl yl])=H8:=⟨_,rfl⟩;have f4:H8 e=zo (.ext (IsXD e (c 3) dv)):=e8 ▸ J2 h6 d2;have h8:Same H H8:=e8 ▸ Jc i4 d2;have c0:H8 p8=zo (.lst [.bl yl,.bl yl,.bl yl,.bl yo,.bl yl,.bl yl,.bl yl,.bl yl,.bl yl,.bl yl,.bl yl,.bl yl]):=e8 ▸ Qp;have b7:H8 p1=zo (.lst (bZ V.str ["road", "house", "table", "deed", "letter", "stand", "plan", "book", "manner", "many", "text", "row"])):=e8 ▸ J2 b8 d2;have g5:H8 p6=zo (.lst [.bl yl,.bl yl,.bl yl,.bl yo,.bl yl,.bl yl,.bl yl,.bl yl,.bl yl]):=e8 ▸ J2 a4 d2;rw [show upd H7 p8 (.lst ([.bl yl,.bl yl,.bl yl,.bl yo,.bl yl,.bl yl,.bl yl,.bl yl,.bl yl] ++ [.bl yl,.bl yl,.bl yl]))=H8 from e8]
  refine ⟨_,rfl,?_⟩;refine ⟨_,rfl,e,_,_,_,_,yl,rfl,rfl,f4,T3.xc,T3.k 13 (by decide) (by decide),?_⟩;refine ⟨_,rfl,e,_,_,_,_,yl,rfl,rfl,f4,T3.xc,T3.k 14 (by decide) (by decide),?_⟩;refine ⟨by decide,fun p9 f1=>?_⟩;obtain ⟨H9,e9⟩:∃ H9,upd H8 p9 (.lst [.bl yl,.bl yl])=H9:=⟨_,rfl⟩;have i2:H9 e=zo (.ext (IsXD e (c 3) dv)):=e9 ▸ J2 f4 f1;have h3:Same H H9:=e9 ▸ Jc h8 f1;have c1:H9 p9=zo (.lst [.bl yl,.bl yl]):=e9 ▸ Qp;have c5:H9 p1=zo (.lst (bZ V.str ["road", "house", "table", "deed", "letter", "stand", "plan", "book", "manner", "many", "text", "row"])):=e9 ▸ J2 b7 f1;have a3:H9 p8=zo (.lst [.bl yl,.bl yl,.bl yl,.bl yo,.bl yl,.bl yl,.bl yl,.bl yl,.bl yl,.bl yl,.bl yl,.bl yl]):=e9 ▸ J2 c0 f1;rw [show upd H8 p9 (.lst (_))=H9 from e9];refine ⟨_,_,_,_,rfl,rfl,a3,c1,by decide,fun b2 a2=>?_⟩;obtain ⟨q,b1⟩:∃ q,upd H9 b2 (.lst [.bl yl,.bl yl,.bl yl,.bl yo,.bl yl,.bl yl,.bl yl,.bl yl,.bl yl,.bl yl,.bl yl,.bl yl,.bl yl,.bl yl])=q:=⟨_,rfl⟩
  have f2:q e=zo (.ext (IsXD e (c 3) dv)):=b1 ▸ J2 i2 a2;have f8:Same H q:=b1 ▸ Jc h3 a2;have j:q b2=zo (.lst [.bl yl,.bl yl,.bl yl,.bl yo,.bl yl,.bl yl,.bl yl,.bl yl,.bl yl,.bl yl,.bl yl,.bl yl,.bl yl,.bl yl]):=b1 ▸ Qp;have b3:q p1=zo (.lst (bZ V.str ["road", "house", "table", "deed", "letter", "stand", "plan", "book", "manner", "many", "text", "row"])):=b1 ▸ J2 c5 a2;have g3:q p8=zo (.lst [.bl yl,.bl yl,.bl yl,.bl yo,.bl yl,.bl yl,.bl yl,.bl yl,.bl yl,.bl yl,.bl yl,.bl yl]):=b1 ▸ J2 a3 a2;rw [show upd H9 b2 (.lst ([.bl yl,.bl yl,.bl yl,.bl yo,.bl yl,.bl yl,.bl yl,.bl yl,.bl yl,.bl yl,.bl yl,.bl yl] ++ [.bl yl,.bl yl]))=q from b1];refine ⟨_,rfl,.inl ⟨rfl,_,.inl (.inl j)⟩,_,[yl,yl,yl,yo,yl,yl,yl,yl,yl,yl,yl,yl,yl,yl],rfl,rfl,j,rfl,_,rfl,Qg4 ?_⟩
  refine ⟨_,rfl,e,_,_,_,_,yo,rfl,rfl,f2,T3.xc,T3.ve,_,rfl,Qg4 ?_⟩;refine ⟨_,rfl,?_⟩;refine ⟨by decide,fun c8 a6=>?_⟩;obtain ⟨G,b0⟩:∃ G,upd q c8 (.lst (bZ V.str ["name", "short"]))=G:=⟨_,rfl⟩;have g1:G e=zo (.ext (IsXD e (c 3) dv)):=b0 ▸ J2 f2 a6;have g0:Same H G:=b0 ▸ Jc f8 a6;have O:G c8=zo (.lst (bZ V.str ["name", "short"])):=b0 ▸ Qp;have Y:G p1=zo (.lst (bZ V.str ["road", "house", "table", "deed", "letter", "stand", "plan", "book", "manner", "many", "text", "row"])):=b0 ▸ J2 b3 a6;have a9:G b2=zo (.lst [.bl yl,.bl yl,.bl yl,.bl yo,.bl yl,.bl yl,.bl yl,.bl yl,.bl yl,.bl yl,.bl yl,.bl yl,.bl yl,.bl yl]):=b0 ▸ J2 j a6;rw [show upd q c8 (.lst (bZ V.str ["name", "short"]))=G from b0];refine ⟨_,_,_,_,rfl,rfl,Y,O,by decide,fun f5 Z=>?_⟩
  obtain ⟨U,a1⟩:∃ U,upd G f5 (.lst (bZ V.str ["road", "house", "table", "deed", "letter", "stand", "plan", "book", "manner", "many", "text", "row"] ++ bZ V.str ["name", "short"]))=U:=⟨_,rfl⟩;have i5:U e=zo (.ext (IsXD e (c 3) dv)):=a1 ▸ J2 g1 Z;have f7:Same H U:=a1 ▸ Jc g0 Z;have a8:U f5=zo (.lst (bZ V.str ["road", "house", "table", "deed", "letter", "stand", "plan", "book", "manner", "many", "text", "row"] ++ bZ V.str ["name", "short"])):=a1 ▸ Qp;have g4:U p1=zo (.lst (bZ V.str ["road", "house", "table", "deed", "letter", "stand", "plan", "book", "manner", "many", "text", "row"])):=a1 ▸ J2 Y Z;have J:U b2=zo (.lst [.bl yl,.bl yl,.bl yl,.bl yo,.bl yl,.bl yl,.bl yl,.bl yl,.bl yl,.bl yl,.bl yl,.bl yl,.bl yl,.bl yl]):=a1 ▸ J2 a9 Z;have f6:U c8=zo (.lst (bZ V.str ["name", "short"])):=a1 ▸ J2 O Z
  rw [show upd G f5 (.lst (bZ V.str ["road", "house", "table", "deed", "letter", "stand", "plan", "book", "manner", "many", "text", "row"] ++ bZ V.str ["name", "short"]))=U from a1];refine ⟨_,rfl,.inl ⟨rfl,_,.inl (.inl J)⟩,_,[yl,yl,yl,yo,yl,yl,yl,yl,yl,yl,yl,yl,yl,yl],3,rfl,rfl,J,by decide,rfl,noB _ _ (by decide) (by decide),?_⟩;refine ⟨_,_,_,_,rfl,rfl,.inl (.inl a8),rfl,?_⟩;exact hQ _ f7
def J4:FN:=fun ps st=>match Yf ps st with
 | .ok v st1=>.ok (.str "") st1
 | .exc x st1=>if x.cls = "NoManner" then .ok (.str "manner") st1 else if x.cls = "NoDeed" then .ok (.str "deed") st1 else .stuck
 | .stuck=>.stuck
theorem sc__law_e_refused:FnScope ["way", "manner", "stand", "number", "caught", "e"] ["way", "manner", "stand", "number"] (Qb Vd):=⟨rfl,rfl,rfl,by decide +kernel,rfl,by decide +kernel,by decide +kernel⟩
theorem xt {f:aB} {fd:aO} {c:Nat->aB} (F:Fun K "_law_e_refused" "_law_e_refused" Vd f fd) (T:Txt K mg) (Nm:Nms mg c) (T9:TgtS K c 9) (T3:TgtS K c 3) (q:DefS P w K mg base 10 "_law_e_door" 4 Yf) (j:DefX P w K mg base 1 "_law_e_kind" ["caught"] (Qtq c)):FnOk P w K mg base (CXD P w) 11 f fd ["way", "manner", "stand", "number"] (spF mg 4 J4):=by
 obtain ⟨fR,a5,a6,FR,mR,kR,bR,lR⟩:=q.ex;obtain ⟨fX,a7,FX,mX,kX,bX⟩:=j.ex;refine Fun.okD (k:=10) F sc__law_e_refused (fun vs H Q E h=>h.1) fun a4 A outer s H vs Q E U a2=>?_
 obtain ⟨hl,ρ,a1,Z,R,rl,z⟩:=a2;refine ⟨_,j8 (Q7p (i:=4) sc__law_e_refused.nd rfl (Or.inl rfl) Qc1)
   (j8 (Qfb FR (U.mono (by decide)) mR kR bR (Qt (pv 0) (Qt (pv 1) (Qt (pv 2) (Qt (pv 3) Js)))) sc__law_e_refused.nd (i:=5) rfl rfl (fun e=>xm (Q7p (i:=4) sc__law_e_refused.nd rfl (Or.inl rfl) (pv 5))) Nm.m0)
   (j8 (Qhy (Q7m Qrf (pv 4) Qc1 (Q84 _)) (xm (Q7q Q7r)) Q7n)
   (xm (Q7q (Qdj (x := "_law_e_kind") (E:=E) FX (U.mono (by decide)) (by rfl) mX kX bX .nil Qa (Qt (pv 4) Js)))))),?_⟩
 match vs,hl with
 | [v0,v1,v2,v3],hl=>
 refine ⟨_,rfl,_,rfl,_,rfl,_,rfl,  rfl,ρ,a1,Z,R,rl,?_⟩;unfold J4 at z;cases U:Yf Z a1 with
 | ok a a3=>
  rw [U] at z;exact fun H1 ρ1 x1 Y v r=>⟨_,rfl,rfl,_,rfl,Qxr (z H1 ρ1 x1 Y _ rfl)⟩
 | stuck=>
  rw [U] at z; exact z.elim
 | exc x a3=>
  rw [U] at z;dsimp only at z
  by_cases J:x.cls = "NoManner"
  ·rw [bS J] at z;intro C G H1 ρ1 hm x1 Y fs;rw [J,Nm.m9] at hm;cases hm;refine ⟨_,rfl,T9.ex,fun e he=>?_⟩;have x2:Ext H1 ρ1 (upd H1 e (.ext (IsXD e (c 9) G))) ρ1:=Ext.add he;have R2:=Y.add (o:=.ext (IsXD e (c 9) G)) he;refine ⟨_,rfl,_,rfl,rfl,_,rfl,Qg4 ?_⟩;refine ⟨_,rfl,e,G,rfl,.inl ⟨Qp,fun H2 sm=>z _ _ ((x1.trans x2).trans (Ext.same sm)) (R2.same sm) _ rfl⟩⟩
  ·rw [bT J] at z
   by_cases O:x.cls = "NoDeed"
   ·rw [bS O] at z;intro C G H1 ρ1 hm x1 Y fs;rw [O,Nm.m3] at hm;cases hm;refine ⟨_,rfl,T3.ex,fun e he=>?_⟩;have x2:Ext H1 ρ1 (upd H1 e (.ext (IsXD e (c 3) G))) ρ1:=Ext.add he;have R2:=Y.add (o:=.ext (IsXD e (c 3) G)) he;refine ⟨_,rfl,_,rfl,rfl,_,rfl,Qg4 ?_⟩;refine ⟨_,rfl,e,G,rfl,.inr (⟨Qp,fun H2 sm=>z _ _ ((x1.trans x2).trans (Ext.same sm)) (R2.same sm) _ rfl⟩)⟩
   ·rw [bT O] at z;exact z.elim
def qh:ME:=(mOp oIx (Q4 0) (mC (.int 1)))
def qk : MS := (Qi (Ju 4 (mOp Zt (jg (Q3 (mOp oIx (mOp oIx (Q4 1) (mC (.int 1))) (Q4 3)) Q7)) (Wk (Jv [zb] (Qk 0) (Uk (mOp oIx (Q4 1) (mC (.int 2)))) Zv qh))))
  (X3 (mBM Wv (Q4 2) (Q3 (mOp oIx (Q4 4) (Qd 2 Qc (Q3 (Q4 0) (Q3 (Qz Ze (Q3 (Q4 4) Q7)) Q7)))) Q7))))
def qj:MS:=(Z9 (yx (toB (mOp oNe (mOp oIx (Q4 6) (mC (.int 2))) (mC (.str "go")))) (yx (toB (mOp oNe (mOp oIx (Q4 6) (mC (.int 2))) (mC (.str "fall")))) (toB (mOp oEq (Qd 2 Qc (Q3 (Q4 0) (Q3 (mC (.int 2)) Q7))) (mC (.int 0)))))) (Q0w (Q4 5) (Y3 (Q3 (mOp oIx (Q4 6) (mC (.int 0))) (Q3 (mOp oIx (Q4 6) (mC (.int 2))) Q7))) (mC (.bl yo))) Jg)
def Xx : MS := (Qi (Ju 2 (Q88 (Q68 Q7)))
  (Qi (ze (Qk 3) (Zd (Q3 (Qz Ze (Q3 (mOp oIx (Q4 1) (mC (.int 1))) Q7)) Q7)) qk)
  (Qi (Ju 5 Q8c)
  (Qi (ze (Qk 6) (Uk (mOp oIx (Q4 1) (mC (.int 2)))) qj)
  (Je (Y3 (Q3 (Qz W0 (Q3 (Q4 2) Q7)) (Q3 (Qz W0 (Q3 (Qz jk (Q3 (Q4 5) Q7)) Q7)) (Q3 (Qd 2 Qc (Q3 (Q4 0) (Q3 (mC (.int 30)) Q7))) Q7)))))))))
def Vv:FN:=Xf Xx 7
theorem sc__law_e_made:FnScope ["tape", "manner", "states", "house", "some", "letters", "rule"] ["tape", "manner"] (Qb Xs):=⟨rfl,rfl,rfl,by decide +kernel,rfl,by decide +kernel,by decide +kernel⟩
theorem Q44 {f:aB} {fd:aO} (F:Fun K "_law_e_made" "_law_e_made" Xs f fd) (T:Txt K mg)  (j:DefS P w K mg base 2 "_law_e_digit" 2 Qc):FnOk P w K mg base (CXD P w) 3 f fd ["tape", "manner"] (spF mg 2 Vv):=by
 refine Vz (k:=2) (m:=Xx) F sc__law_e_made rfl rfl rfl fun z A outer s H E q=>?_
 exact (Q8 (J5 2 sc__law_e_made.nd (Q2v (Qbk Q5)))
  (Q8 (V9 PassesOwn.leaving rfl (Jz rfl T.b_range (Q0 (Qu Jx rfl T.b_len bn (Q0 (Qm (Q1 1) Q6) Q5)) Q5)) (Qy (i:=3) sc__law_e_made.nd) (Q8 (J5 4 sc__law_e_made.nd (Jd Zg (Uu (Q0 (Qm (Qm (Q1 1) Q6) (Q1 3)) Q5)) (Yh (Zj [zb] ["rule"] rfl (Yg (Qm (Q1 1) Q6)) (fun _ _ _ _ _=>(Qy (i:=0) (show (["rule"]:List Str).Nodup by decide +kernel))) (fun _ _ _ _ _=>(Qm (Q1 0) Q6)) (fun _ _ _ _ _=>Zn) Ja))))
  (Qe (Vj (Q0f (Q1 2) (Q0 (Qm (Q1 4) (Q9 j (q.mono (by decide)) Qa rfl (Q0 (Q1 0) (Q0 (Qu Jx rfl T.b_len bn (Q0 (Q1 4) Q5)) Q5)))) Q5))))))
  (Q8 (J5 5 sc__law_e_made.nd Q2x)
  (Q8 (V9 PassesOwn.leaving rfl (Yg (Qm (Q1 1) Q6)) (Qy (i:=6) sc__law_e_made.nd) (Qe (Jk (SimW.t (Qbf (J9 (qc q.units) (Qm (Q1 6) Q6) Jf) (Qbf (J9 (qc q.units) (Qm (Q1 6) Q6) Jf) (Qd8 (J9 (X1 q.units) (Q9 j (q.mono (by decide)) Qa rfl (Q0 (Q1 0) (Q0 Q6 Q5))) Q6))))) (Qe (Q2r (xj q) Zp (Q1 5) (Ji (Q0 (Qm (Q1 6) Q6) (Q0 (Qm (Q1 6) Q6) Q5))))) J6)))
  (Qe (Qq (Ji (Q0 (Yb U1 rfl T.b_tuple Z1 (Q0 (Q1 2) Q5)) (Q0 (Yb U1 rfl T.b_tuple Z1 (Q0 (Qu (Qau rfl) rfl T.b_sorted jm (Q0 (Q1 5) Q5)) Q5)) (Q0 (Q9 j (q.mono (by decide)) Qa rfl (Q0 (Q1 0) (Q0 Q6 Q5))) Q5))))))))))
def V4:ME:=(Q4 0)
def Wn:MT:=(toB (Qd 2 Ye (Q3 (mOp oIx (Q4 2) (Q4 0)) (Q3 (Q4 1) Q7))))
def V3:ME:=(Q0x (Xa "int" (Q4 0)) (Qnr (Xa "bool" (Q4 0))))
def Qr : MS := (Qi (Ju 6 (Qd 2 U2 (Q3 (Q4 1) (Q3 (Q4 2) Q7))))
  (Qi (Z9 (Ug (Zm (toB (Xa "list" (Q4 6)))) (Zm (toB (Qz (zg fun ns=>.bl (ns.all id)) (Q3 (Wk (Jv [zb] (Qk 0) (Uk (Q4 6)) Zv V3)) Q7))))) (Je (mC (.bl yl))) Jg)
  (Qi (Z9 (toB (mOp oNe (Q4 6) (Q4 4))) (Je (mC (.bl yl))) Jg)
  (X3 (mBM Wv (Q4 6) (Q3 (mC (.int 0)) Q7))))))
def Y9 : MS := (Z9 (toB (mOp (oIn yl) (Q4 8) (Q4 4))) (Qi (Ju 6 (Qd 3 W9 (Q3 (Q4 1) (Q3 (Q4 2) (Q3 (Q4 8) Q7)))))
  (Z9 (Ug (Zm (toB (Qd 2 Za (Q3 (Q4 1) (Q3 (Q4 6) Q7))))) (toB (mOp oNe (Q4 6) (Qd 2 Zz (Q3 (mOp oIx (Q4 3) (Q4 8)) (Q3 (Q4 2) Q7)))))) (Je (mC (.bl yl))) Jg)) (Z9 (toB (mOp oNe (Qd 4 J4 (Q3 (mC (.int 0)) (Q3 (Q4 1) (Q3 (Q4 2) (Q3 (Q4 8) Q7))))) (mC (.str "deed")))) (Je (mC (.bl yl))) Jg))
def Yx : MS := (Qi (Ju 3 (mOp oIx (Q4 1) (mC (.int 2))))
  (Qi (Ju 4 (Wk (Jv [zb,zo 2,zo 3] (Qk 0) (Zd (Q3 (Qz Ze (Q3 (Q4 3) Q7)) Q7)) Wn V4)))
  (Qi (ze (Qk 5) (Zd (Q3 (mC (.int 2)) Q7)) Qr)
  (Qi (Ju 7 (Qd 2 Qc (Q3 (Q4 0) (Q3 (mOp Qa4 (mC (.int 10)) (mC (.int 20))) Q7))))
  (Qi (ze (Qk 8) (Uk (mOp Zt (Wk (Qiy (Qz Ze (Q3 (Q4 3) Q7)))) (jg (Q3 (Q89 (mC (.int 1))) (Q3 (Qz Ze (Q3 (Q4 3) Q7)) (Q3 (mOp (oI fun a b=>.int (a - b)) (Q89 (Qz Ze (Q3 (Q4 3) Q7))) (mC (.int 1))) (Q3 (mOp Zt (Qz Ze (Q3 (Q4 3) Q7)) (Q4 7)) (Q3 (mOp (oI fun a b=>.int (a - b)) (Q89 (mC (.int 1))) (Q4 7)) Q7)))))))) Y9)
  (Je (mC (.bl yo))))))))
def Z8:FN:=Xf Yx 9
theorem sc__law_e_stand_right:FnScope ["tape", "manner", "stand", "rules", "due", "turn", "found", "far", "number"] ["tape", "manner", "stand"] (Qb Yt):=⟨rfl,rfl,rfl,by decide +kernel,rfl,by decide +kernel,by decide +kernel⟩
theorem qp {f:aB} {fd:aO} (F:Fun K "_law_e_stand_right" "_law_e_stand_right" Yt f fd) (T:Txt K mg)  (j:DefS P w K mg base 1 "_law_e_fits" 2 Ye) (U:DefS P w K mg base 9 "may_do" 2 U2) (G:DefS P w K mg base 2 "_law_e_digit" 2 Qc) (O:DefS P w K mg base 9 "behind" 3 W9) (q:DefS P w K mg base 1 "_law_e_is_stand" 2 Za) (J:DefS P w K mg base 1 "_law_e_step" 2 Zz) (z:DefS P w K mg base 11 "_law_e_refused" 4 J4):FnOk P w K mg base (CXD P w) 12 f fd ["tape", "manner", "stand"] (spF mg 3 Z8):=by
 refine Vz (k:=11) (m:=Yx) F sc__law_e_stand_right rfl rfl rfl fun Z A outer s H E Y=>?_
 exact (Q8 (J5 3 sc__law_e_stand_right.nd (Qm (Q1 1) Q6))
  (Q8 (by first | exact yz [zb,zo 2,zo 3] ["k", "stand", "rules"] 4 sc__law_e_stand_right.nd rfl (Jz rfl T.b_range (Q0 (Qu Jx rfl T.b_len bn (Q0 (Q1 3) Q5)) Q5)) (fun _ _ _ _ _=>(Qy (i:=0) (show (["k", "stand", "rules"]:List Str).Nodup by decide +kernel))) (fun _ _ _ _ _=>(Q1 0)) (fun _ _ _ _ _=>(yy (Jj (Q9 j (Y.mono (by decide)) Zs rfl (Q0 (Qm (Q1 2) (Q1 0)) (Q0 (Q1 1) Q5)))))) Ja | exact J5 4 sc__law_e_stand_right.nd (Yh (Zj [zb,zo 2,zo 3] ["k", "stand", "rules"] rfl (Jz rfl T.b_range (Q0 (Qu Jx rfl T.b_len bn (Q0 (Q1 3) Q5)) Q5)) (fun _ _ _ _ _=>(Qy (i:=0) (show (["k", "stand", "rules"]:List Str).Nodup by decide +kernel))) (fun _ _ _ _ _=>(Q1 0)) (fun _ _ _ _ _=>(yy (Jj (Q9 j (Y.mono (by decide)) Zs rfl (Q0 (Qm (Q1 2) (Q1 0)) (Q0 (Q1 1) Q5)))))) Ja)))
  (Q8 (V9 PassesOwn.leaving rfl (Jz rfl T.b_range (Q0 Q6 Q5)) (Qy (i:=5) sc__law_e_stand_right.nd) (Q8 (J5 6 sc__law_e_stand_right.nd (Q9 U (Y.mono (by decide)) Qa rfl (Q0 (Q1 1) (Q0 (Q1 2) Q5))))
  (Q8 (Jk (SimW.t (Wh (Z5 (Jj (Ys (T := "list") (by decide) (Q1 6) rfl T.b_isinstance rfl T.b_list Us))) (Yq (Z5 (Jj (Qu (Kx rfl) rfl T.b_all V6 (Q0 (Yh (Zj [zb] ["k"] rfl (Yg (Q1 6)) (fun _ _ _ _ _=>(Qy (i:=0) (show (["k"]:List Str).Nodup by decide +kernel))) (fun _ _ _ _ _=>(Xh (Ys (T := "int") (by decide) (Q1 0) rfl T.b_isinstance rfl T.b_int Q0c) (U4 (Qhc (Ys (T := "bool") (by decide) (Q1 0) rfl T.b_isinstance rfl T.b_bool z9))))) (fun _ _ _ _ _=>Zn) Ja)) Q5))))))) (Qe (Qq Zp)) J6)
  (Q8 (Jk (J9 (qc Y.units) (Q1 6) (Q1 4)) (Qe (Qq Zp)) J6)
  (Qe (Vj (Q0f (Q1 6) (Q0 Q6 Q5))))))))
  (Q8 (J5 7 sc__law_e_stand_right.nd (Q9 G (Y.mono (by decide)) Qa rfl (Q0 (Q1 0) (Q0 (Jd Qc3 Q6 Q6) Q5))))
  (Q8 (V9 PassesOwn.leaving rfl (Yg (Jd Zg (Yh (Qey (Qu Jx rfl T.b_len bn (Q0 (Q1 3) Q5)) rfl rfl T.b_list rfl T.b_range)) (Uu (Q0 (Q77 Q6) (Q0 (Qu Jx rfl T.b_len bn (Q0 (Q1 3) Q5)) (Q0 (Jd Q7u (Q77 (Qu Jx rfl T.b_len bn (Q0 (Q1 3) Q5))) Q6) (Q0 (Jd Zg (Qu Jx rfl T.b_len bn (Q0 (Q1 3) Q5)) (Q1 7)) (Q0 (Jd Q7u (Q77 Q6) (Q1 7)) Q5)))))))) (Qy (i:=8) sc__law_e_stand_right.nd) (Qe (Jk (J9 (Qii Y.units) (Q1 8) (Q1 4)) (Q8 (J5 6 sc__law_e_stand_right.nd (Q9 O (Y.mono (by decide)) Qa rfl (Q0 (Q1 1) (Q0 (Q1 2) (Q0 (Q1 8) Q5)))))
  (Qe (Jk (SimW.t (Wh (Z5 (Jj (Q9 q (Y.mono (by decide)) Qa rfl (Q0 (Q1 1) (Q0 (Q1 6) Q5))))) (Yq (J9 (qc Y.units) (Q1 6) (Q9 J (Y.mono (by decide)) Qa rfl (Q0 (Qm (Q1 3) (Q1 8)) (Q0 (Q1 2) Q5))))))) (Qe (Qq Zp)) J6))) (Qe (Jk (J9 (qc Y.units) (Q9 z (Y.mono (by decide)) Qa rfl (Q0 Q6 (Q0 (Q1 1) (Q0 (Q1 2) (Q0 (Q1 8) Q5))))) Jf) (Qe (Qq Zp)) J6)))))
  (Qe (Qq Zp)))))))
def Q8y:ME:=(Q4 0)
def Q6z:MT:=(toB (Qd 2 Ye (Q3 (Q4 0) (Q3 (Q4 1) Q7))))
def Q96 : MS := (Qi (Z9 (Zm (toB (Qd 3 Z8 (Q3 (Q4 1) (Q3 (Q4 3) (Q3 (Q4 4) Q7)))))) (Je (mC (.bl yl))) Jg)
  (Qi (Ju 6 (Wk (Jv [zb,zo 4] (Qk 0) (Uk (mOp oIx (Q4 3) (mC (.int 2)))) Q6z Q8y)))
  (Z9 (Ug (toB (mOp oEq (Q4 6) (jg Q7))) (toB (mOp oEq (Qd 2 Qc (Q3 (Q4 1) (Q3 (mC (.int 4)) Q7))) (mC (.int 0))))) (Ju 4 (Qd 2 Vv (Q3 (Q4 1) (Q3 (Q4 3) Q7)))) (Ju 4 (Qd 2 Zz (Q3 (mOp oIx (Q4 6) (Qd 2 Qc (Q3 (Q4 1) (Q3 (Qz Ze (Q3 (Q4 6) Q7)) Q7)))) (Q3 (Q4 4) Q7)))))))
def Qei:MS:=(Z9 (toB (mOp oNe (Qd 4 J4 (Q3 (Q4 12) (Q3 (Q4 11) (Q3 (Y3 (Q3 (Q4 8) (Q3 (Y3 Q7) (Q3 (mC (.int 0)) Q7)))) (Q3 (Q89 (mC (.int 1))) Q7))))) (mC (.str "manner")))) (Je (mC (.bl yl))) Jg)
def Qej:MS:=(ze (Qk 12) (Zd (Q3 (mC (.int 7)) Q7)) Qei)
def Q97 : MS := (Qi (Z9 (yx (toB (mOp (oI fun a b => .bl (decide (b < a))) (Q4 2) (mC (.int 1)))) (toB (mOp (oI fun a b => .bl (decide (b <= a))) (mOp oIx (Q4 1) (mC (.int 1))) (Qz Ze (Q3 (Q4 0) Q7))))) Qcc Jg)
  (Qi (Ju 3 (Qd 1 Wb (Q3 (Q4 1) Q7)))
  (Qi (Ju 4 (Y3 (Q3 (mOp oIx (Q4 3) (mC (.int 1))) (Q3 (Y3 Q7) (Q3 (mC (.int 0)) Q7)))))
  (Qi (Z9 (Ug (Zm (toB (Qd 2 Za (Q3 (Q4 3) (Q3 (Qd 1 Z4 (Q3 (Q4 3) Q7)) Q7))))) (toB (mOp oNe (Qd 1 Z4 (Q3 (Q4 3) Q7)) (Q4 4)))) (Je (mC (.bl yl))) Jg)
  (Qi (ze (Qk 5) (Zd (Q3 (mC (.int 8)) Q7)) Q96)
  (Qi (Qj1 (Q4u (V1 (Qk 7) (V1 (Qk 8) (V1 (Qk 9) Q4v)))) (Q4 3))
  (Qi (Ju 10 (mOp Zt (Q4 9) (Y3 (Q3 (Y3 (Q3 (mC (.int 0)) (Q3 (mC (.str "A")) (Q3 (mC (.str "go")) (Q3 (mC (.str "a")) (Q3 (mC (.int 0)) (Q3 (Y3 Q7) Q7))))))) Q7))))
  (ze (Qk 11) (Uk (jg (Q3 (Y3 (Q3 (mC (.int 21)) (Q3 (Q4 8) (Q3 (Q4 9) Q7)))) (Q3 (Y3 (Q3 (Q4 7) (Q3 (Y3 Q7) (Q3 (Q4 9) Q7)))) (Q3 (Y3 (Q3 (Q4 7) (Q3 (Q4 8) (Q3 (Q4 10) Q7)))) (Q3 (mC .non) Q7)))))) Qej))))))))
def Qix : MS := (Qi (Ju 1 (Q88 (Q68 (Q3 (Q4 0) (Q3 (mC (.int 0)) (Q3 (mC (.int 0)) Q7))))))
  (Qi (ze (Qk 2) (Zd (Q3 (mC (.int 4)) Q7)) Q97)
  (Je (mC (.bl yo)))))
def Qkp:FN:=Qs Qix 13
theorem sc_law:FnScope ["script", "tape", "k", "manner", "stand", "turn", "some", "most", "starts", "rules", "worse", "bad", "way"] ["script"] (Qb xi):=⟨rfl,rfl,rfl,by decide +kernel,rfl,by decide +kernel,by decide +kernel⟩
theorem Qrh {f:aB} {fd:aO} (F:Fun K "law" "law" xi f fd) (T:Txt K mg)  (U:DefS P w K mg base 5 "_law_e_manner" 1 Wb) (J:DefS P w K mg base 1 "_law_e_is_stand" 2 Za) (G:DefS P w K mg base 9 "first_stand" 1 Z4) (q:DefS P w K mg base 12 "_law_e_stand_right" 3 Z8) (z:DefS P w K mg base 1 "_law_e_fits" 2 Ye) (j:DefS P w K mg base 2 "_law_e_digit" 2 Qc) (Y:DefS P w K mg base 3 "_law_e_made" 2 Vv) (Z:DefS P w K mg base 1 "_law_e_step" 2 Zz) (O:DefS P w K mg base 11 "_law_e_refused" 4 J4):FnOk P w K mg base (CXD P w) 13 f fd ["script"] (spF mg 1 Qkp):=by
 refine J3 (k:=12) (m:=Qix) F sc_law rfl rfl rfl fun a1 A outer s H E hr=>?_
 exact (Q8 (J5 1 sc_law.nd (Q2v (Qbk (Q0 (Q1 0) (Q0 Q6 (Q0 Q6 Q5))))))
  (Q8 (V9 PassesOwn.leaving rfl (Jz rfl T.b_range (Q0 Q6 Q5)) (Qy (i:=2) sc_law.nd) (Q8 (Jk (SimW.t (Qbf (J9 Qdq (Q1 2) Q6) (Qd8 (J9 Qq6 (Qm (Q1 1) Q6) (Qu Jx rfl T.b_len bn (Q0 (Q1 0) Q5)))))) (Qe Qh3) J6)
  (Q8 (J5 3 sc_law.nd (Q9 U (hr.mono (by decide)) Qa rfl (Q0 (Q1 1) Q5)))
  (Q8 (J5 4 sc_law.nd (Ji (Q0 (Qm (Q1 3) Q6) (Q0 (Ji Q5) (Q0 Q6 Q5)))))
  (Q8 (Jk (SimW.t (Wh (Z5 (Jj (Q9 J (hr.mono (by decide)) Qa rfl (Q0 (Q1 3) (Q0 (Q9 G (hr.mono (by decide)) Qa rfl (Q0 (Q1 3) Q5)) Q5))))) (Yq (J9 (qc hr.units) (Q9 G (hr.mono (by decide)) Qa rfl (Q0 (Q1 3) Q5)) (Q1 4))))) (Qe (Qq Zp)) J6)
  (Q8 (V9 PassesOwn.leaving rfl (Jz rfl T.b_range (Q0 Q6 Q5)) (Qy (i:=5) sc_law.nd) (Q8 (Jk (Z5 (Jj (Q9 q (hr.mono (by decide)) Qa rfl (Q0 (Q1 1) (Q0 (Q1 3) (Q0 (Q1 4) Q5)))))) (Qe (Qq Zp)) J6)
  (Q8 (by first | exact yz [zb,zo 4] ["rule", "stand"] 6 sc_law.nd rfl (Yg (Qm (Q1 3) Q6)) (fun _ _ _ _ _=>(Qy (i:=0) (show (["rule", "stand"]:List Str).Nodup by decide +kernel))) (fun _ _ _ _ _=>(Q1 0)) (fun _ _ _ _ _=>(yy (Jj (Q9 z (hr.mono (by decide)) Zs rfl (Q0 (Q1 0) (Q0 (Q1 1) Q5)))))) Ja | exact J5 6 sc_law.nd (Yh (Zj [zb,zo 4] ["rule", "stand"] rfl (Yg (Qm (Q1 3) Q6)) (fun _ _ _ _ _=>(Qy (i:=0) (show (["rule", "stand"]:List Str).Nodup by decide +kernel))) (fun _ _ _ _ _=>(Q1 0)) (fun _ _ _ _ _=>(yy (Jj (Q9 z (hr.mono (by decide)) Zs rfl (Q0 (Q1 0) (Q0 (Q1 1) Q5)))))) Ja)))
  (Qe (Jk (SimW.t (Wh (J9 (X1 hr.units) (Q1 6) (Uu Q5)) (Yq (J9 (X1 hr.units) (Q9 j (hr.mono (by decide)) Qa rfl (Q0 (Q1 1) (Q0 Q6 Q5))) Q6)))) (Qe (J5 4 sc_law.nd (Q9 Y (hr.mono (by decide)) Qa rfl (Q0 (Q1 1) (Q0 (Q1 3) Q5))))) (Qe (J5 4 sc_law.nd (Q9 Z (hr.mono (by decide)) Qa rfl (Q0 (Qm (Q1 6) (Q9 j (hr.mono (by decide)) Qa rfl (Q0 (Q1 1) (Q0 (Qu Jx rfl T.b_len bn (Q0 (Q1 6) Q5)) Q5)))) (Q0 (Q1 4) Q5))))))))))
  (Q8 (Qh4 (Q1 3) (Qbm rfl (Wp (Qy (i:=7) sc_law.nd) (Wp (Qy (i:=8) sc_law.nd) (Wp (Qy (i:=9) sc_law.nd) Q75)))))
  (Q8 (J5 10 sc_law.nd (Jd Zg (Q1 9) (Ji (Q0 (Ji (Q0 Q6 (Q0 Jf (Q0 Jf (Q0 Jf (Q0 Q6 (Q0 (Ji Q5) Q5))))))) Q5))))
  (Qe (V9 PassesOwn.leaving rfl (Yg (Uu (Q0 (Ji (Q0 Q6 (Q0 (Q1 8) (Q0 (Q1 9) Q5)))) (Q0 (Ji (Q0 (Q1 7) (Q0 (Ji Q5) (Q0 (Q1 9) Q5)))) (Q0 (Ji (Q0 (Q1 7) (Q0 (Q1 8) (Q0 (Q1 10) Q5)))) (Q0 Q76 Q5)))))) (Qy (i:=11) sc_law.nd) (Qe (V9 PassesOwn.leaving rfl (Jz rfl T.b_range (Q0 Q6 Q5)) (Qy (i:=12) sc_law.nd) (Qe (Jk (J9 (qc hr.units) (Q9 O (hr.mono (by decide)) Qa rfl (Q0 (Q1 12) (Q0 (Q1 11) (Q0 (Ji (Q0 (Q1 8) (Q0 (Ji Q5) (Q0 Q6 Q5)))) (Q0 (Q77 Q6) Q5))))) Jf) (Qe (Qq Zp)) J6))))))))))))))
  (Qe (Qq Zp))))
end
end Lw
namespace Lw
open PySem PySem.Spec L2 Sm
theorem Q8x (a:Int) {b:Int} (h:0 < b):0<=a % b/\a % b < b:=⟨iC a (by omega),iB a h⟩
theorem Quk (x:Int) {n:Nat} (h:1<=n):∃ k:Nat,k < n/\x % (n:Int)=(k:Int):=by
 have:=Q8x x (b:=(n:Int)) (by omega);exact ⟨(x % (n:Int)).toNat,by omega,by omega⟩
theorem Qkx (c:Int) (p:Nat) (st:Q2):∃ z:Int,Z3 [.int c,.int p] st=.ok (.int z) st:=by
 by_cases q:1000000000000000000<=c
 ·refine ⟨c,?_⟩;simp -implicitDefEqProofs [Z3,Qs,W4,q]
 ·obtain ⟨f,G⟩:∃ f,(c % 998244353 * 51749 + p * 7919 + 3) % 1000000007=f:=⟨_,rfl⟩;have Y:=Q8x (c % 998244353 * 51749 + p * 7919 + 3) (b:=1000000007) (by decide);rw [G] at Y;obtain ⟨g,j⟩:∃ g:Int,(f * f + 32749 * f + p + 5) % 2147483629=g:=⟨_,rfl⟩;have J:=Q8x (f * f + 32749 * f + p + 5) (b:=2147483629) (by decide);rw [j] at J;have O:-18446744073709551616 < f/\f < 18446744073709551616:=by omega
  have U:-18446744073709551616 < g/\g < 18446744073709551616:=by omega
  refine ⟨g * 2147483587 + (g * g + 61 * p + f) % 2147483587,?_⟩;simp -implicitDefEqProofs [Z3,Qs,W4,q,G,j,O,U]
def TapeAt (S:Q2) (L:Nat) (ns:List Int):Prop:=∃ (p:Nat) (c:Int),S[L]?=zo (.lst [.fro (ns.map .int),.int p,.int c])
theorem TapeAt.lt {S:Q2} {L:Nat} {ns:List Int} (h:TapeAt S L ns):L < S.length:=let ⟨_,_,e⟩:=h; (O1.mp e).1
theorem Q2j {S:Q2} {L:Nat} {a b c x:PV} (h:S[L]?=zo (.lst [a,b,c])):qb S (.ref L) (.int 1) x=zo (S.set L (.lst [a,x,c]))/\qb S (.ref L) (.int 2) x=zo (S.set L (.lst [a,b,x])):=by
 unfold qb;simp only [h];exact ⟨rfl,rfl⟩
theorem Q25 {S:Q2} {L:Nat} {a b c:PV} (h:S[L]?=zo (.lst [a,b,c])):oIx S (.ref L) (.int 0)=.ok a S/\oIx S (.ref L) (.int 1)=.ok b S/\oIx S (.ref L) (.int 2)=.ok c S:=by
 have j:ListAt S (.ref L) [a,b,c]:=.inr (.inr ⟨L,rfl,h⟩);rw [j.ix,j.ix,j.ix];exact ⟨rfl,rfl,rfl⟩
theorem Qpe (ns:List Int) (p:Nat) {S:Q2} {L:Nat} {c:PV} (Z:S[L]?=zo (.lst [.fro (ns.map .int),.int p,c])) (U O:Option PV):∃ z:Int,(Z9 (toB (mOp oLt (Q4 2) (Qz Ze (Q3 (mOp oIx (Q4 0) (mC (.int 0))) Q7)))) (Ju 3 (mOp oIx (mOp oIx (Q4 0) (mC (.int 0))) (Q4 2))) (Z9 (toB (mOp (oI fun a b=>.bl (decide (b < a))) (Qz Ze (Q3 (mOp oIx (Q4 0) (mC (.int 0))) Q7)) (mC (.int 0)))) (Ju 3 (mOp Zt (mOp xu (mOp oIx (mOp oIx (Q4 0) (mC (.int 0))) (mOp xu (mOp jb (Q4 2) (mC (.int 3))) (Qz Ze (Q3 (mOp oIx (Q4 0) (mC (.int 0))) Q7)))) (mOp Qa4 (mC (.int 10)) (mC (.int 9)))) (mOp jb (Q4 2) (mC (.int 1000000))))) Jg)) [zo (.ref L),U,zo (.int p),zo (.int p),O] S=.nx [zo (.ref L),U,zo (.int p),zo (.int z),O] S:=by
 obtain ⟨G,_,_⟩:=Q25 Z;have j:(ns.map PV.int).length=ns.length:=O3 _
 by_cases q:p < ns.length
 ·have e:atI (ns.map PV.int) (p:Int)=zo (.int (ns.getD p 0)):=by rw [Qem,Sm.atI_get (Q6h q 0)]; rfl
  refine ⟨ns.getD p 0,?_⟩;generalize ns.getD p 0=x at *;generalize ns.length=len at *;generalize ns.map PV.int=J at *;simp -implicitDefEqProofs [G,j,q,e,-Q1d]
 ·by_cases q2:ns.length=0
  ·refine ⟨p,?_⟩;generalize ns.map PV.int=J at *;rw [q2] at j;have q0:¬ (p:Int) < 0:=by omega
   simp -implicitDefEqProofs [G,j,q0,-Q1d]
  ·have hp:0 < ns.length:=by omega
   obtain ⟨m,hm,Y⟩:=Quk ((p:Int) * 3) hp;have e:atI (ns.map PV.int) (m:Int)=zo (.int (ns.getD m 0)):=by rw [Qem,Sm.atI_get (Q6h hm 0)]; rfl
   refine ⟨ns.getD m 0 % 1000000000 + p * 1000000,?_⟩;have q':¬ (p:Int) < (ns.length:Int):=by omega
   generalize ns.getD m 0=x at *;generalize ns.length=len at *;generalize ns.map PV.int=J at *;simp -implicitDefEqProofs [G,j,q,q',hp,Y,e,-Q1d]
theorem Qsa {st st':Q2} (h:st'.length=st.length) (d:Int):fin st (.int d) st'=.ok (.int d) st':=by
 unfold fin
 by_cases q:st <+: st'
 ·rw [bS q];have:st=st':=q.eq_of_length h.symm;rw [<- this,fz]; rfl
 ·rw [bT q]
structure Mv (L:Nat) (S S':Q2):Prop where
 len:S'.length=S.length
 keep:∀ t,t≠L->S'[t]?=S[t]?
theorem Jq {ns:List Int} {S:Q2} {L:Nat} (T:TapeAt S L ns) (m:Nat) (h1:1<=m) (hm:m < 1267650600228229401496703205376):∃ (d:Nat) (S':Q2),d < m/\TapeAt S' L ns/\Mv L S S'/\Qc [.ref L,.int m] S=.ok (.int d) S':=by
 obtain ⟨p,c,hS⟩:=T;have hL:=(O1.mp hS).1;obtain ⟨Y,U,S1,a2,a3,O,M1,e1⟩:∃ (Y:Nat) (U:Int) (S1:Q2) (a2 a3:Option PV),S1[L]?=zo (.lst [.fro (ns.map .int),.int Y,.int U])/\Mv L S S1/\(Z9 (toB (mOp oLt (mOp oIx (Q4 0) (mC (.int 2))) (Q4 1))) (Qi (Ju 2 (mOp oIx (Q4 0) (mC (.int 1))))
  (Qi (Ju 3 (Q4 2))
  (Qi (Z9 (toB (mOp oLt (Q4 2) (Qz Ze (Q3 (mOp oIx (Q4 0) (mC (.int 0))) Q7)))) (Ju 3 (mOp oIx (mOp oIx (Q4 0) (mC (.int 0))) (Q4 2))) (Z9 (toB (mOp (oI fun a b=>.bl (decide (b < a))) (Qz Ze (Q3 (mOp oIx (Q4 0) (mC (.int 0))) Q7)) (mC (.int 0)))) (Ju 3 (mOp Zt (mOp xu (mOp oIx (mOp oIx (Q4 0) (mC (.int 0))) (mOp xu (mOp jb (Q4 2) (mC (.int 3))) (Qz Ze (Q3 (mOp oIx (Q4 0) (mC (.int 0))) Q7)))) (mOp Qa4 (mC (.int 10)) (mC (.int 9)))) (mOp jb (Q4 2) (mC (.int 1000000))))) Jg))
  (Qi (Kt (Q4 0) (mC (.int 1)) (mOp Zt (Q4 2) (mC (.int 1))))
  (Kt (Q4 0) (mC (.int 2)) (Qd 2 Z3 (Q3 (Q4 3) (Q3 (Q4 2) Q7)))))))) Jg) [zo (.ref L),zo (.int m),zb,zb,zb] S=.nx [zo (.ref L),zo (.int m),a2,a3,zb] S1:=by
  obtain ⟨i0,i1,i2⟩:=Q25 hS
  by_cases q:c < (m:Int)
  ·obtain ⟨z,ez⟩:=Qpe ns p hS (zo (.int m)) zb;obtain ⟨t1,_⟩:=Q2j (x:=.int ((p:Int) + 1)) hS;obtain ⟨Z,j⟩:∃ Z,S.set L (.lst [.fro (ns.map .int),.int ((p:Int) + 1),.int c])=Z:=⟨_,rfl⟩;have h2:Z[L]?=zo (.lst [.fro (ns.map .int),.int ((p:Int) + 1),.int c]):=by rw [<- j,F3 hL]
   rw [j] at t1;obtain ⟨y,ey⟩:=Qkx z p Z;obtain ⟨_,t2⟩:=Q2j (x:=.int y) h2;have a5:=(O1.mp h2).1;refine ⟨p + 1,y,Z.set L (.lst [.fro (ns.map .int),.int ((p:Int) + 1),.int y]),zo (.int p),zo (.int z),?_,⟨?_,fun t J=>?_⟩,?_⟩
   ·rw [F3 a5]; push_cast; rfl
   ·rw [F7,<- j,F7]
   ·rw [F2 (fun u=>J u.symm),<- j,F2 (fun u=>J u.symm)]
   ·have J:(toB (mOp oLt (mOp oIx (Q4 0) (mC (.int 2))) (Q4 1))) [zo (.ref L),zo (.int m),zb,zb,zb] S=.ok yo S:=by
     simp -implicitDefEqProofs [i2,q,-Q1d]
    have s1:∀ X:MS,(Qi (Ju 2 (mOp oIx (Q4 0) (mC (.int 1)))) (Qi (Ju 3 (Q4 2)) X)) [zo (.ref L),zo (.int m),zb,zb,zb] S=X [zo (.ref L),zo (.int m),zo (.int p),zo (.int p),zb] S:=fun X=>by
     simp -implicitDefEqProofs [i1,-Q1d]
    rw [Q8b,J,qv,bS rfl,s1,K8,ez];show Qi _ _ _ _=_;simp -implicitDefEqProofs [t1,ey,t2,-Qde]
  ·refine ⟨p,c,S,zb,zb,hS,⟨rfl,fun _ _=>rfl⟩,?_⟩;simp -implicitDefEqProofs [i2,q,-Q1d]
 obtain ⟨_,_,j2⟩:=Q25 O;obtain ⟨d,hd,ed⟩:=Quk U h1;obtain ⟨_,t2⟩:=Q2j (x:=.int (U / (m:Int))) O;have a1:=(O1.mp O).1;obtain ⟨S3,G⟩:∃ S3,S1.set L (.lst [.fro (ns.map .int),.int Y,.int (U / (m:Int))])=S3:=⟨_,rfl⟩;have h3:S3[L]?=zo (.lst [.fro (ns.map .int),.int Y,.int (U / (m:Int))]):=by rw [<- G,F3 a1]
 have M3:Mv L S S3:=⟨by rw [<- G,F7,M1.len],fun t J=>by rw [<- G,F2 (fun u=>J u.symm),M1.keep t J]⟩;rw [G] at t2;refine ⟨d,S3,hd,⟨Y,_,h3⟩,M3,?_⟩;have a4:0 < m:=h1;have a6:(m:Int) < 1267650600228229401496703205376:=by omega
 have step:Yy [zo (.ref L),zo (.int m),zb,zb,zb] S=.rt (.int d) S3:=by
  unfold Yy;rw [K8,e1];show Qi _ _ _ _=_;simp -implicitDefEqProofs [j2,a4,a6,ed,t2,-Q1d,-Qde]
 show Qs Yy 5 _ S=_;unfold Qs;rw [show (([PV.ref L,.int m]:List PV).map zo ++ bh (5 - [PV.ref L,.int m].length) zb)=[zo (.ref L),zo (.int m),zb,zb,zb] from rfl,step];exact Qsa M3.len d
theorem Q8n (i:Int) (st:Q2):Vi [.int i] st=.ok (.bl yo) st:=by
 simp [Vi,Qs,X2,isI,tyN]
theorem Qpg (x a b:Int) (st:Q2):Jp [.int x,.int a,.int b] st=.ok (.bl (decide (a<=x) && decide (x<=b))) st:=by
 have:=Q8n x st
 by_cases q:a<=x <;> simp [Jp,Qs,Uj,this,q]
theorem Qh {a b:MS} {Γ j:Gam} {S S1:Q2} {r:SR} (h1:a Γ S=.nx j S1) (h2:b j S1=r):Qi a b Γ S=r:=by rw [K8,h1]; exact h2
theorem Jh {i:Nat} {m:ME} {Γ:Gam} {S S1:Q2} {v:PV} (h:m Γ S=.ok v S1):Ju i m Γ S=.nx (Γ.set i (zo v)) S1:=by rw [Qnp,h]; rfl
theorem Qn {n:Nat} {F:FN} {mr:ML} {Γ:Gam} {S S1 j:Q2} {ps:List PV} {v:PV} (h1:mr Γ S=.ok ps S1) (h2:ps.length=n) (q:F ps S1=.ok v j):Qd n F mr Γ S=.ok v j:=by rw [Q69,h1,Jw,bS h2,q]
theorem Qw {o:OP} {a b:ME} {Γ:Gam} {S S1 j S3:Q2} {x y v:PV} (h1:a Γ S=.ok x S1) (h2:b Γ S1=.ok y j) (q:o j x y=.ok v S3):mOp o a b Γ S=.ok v S3:=by rw [Qrq,h1,Jw,h2,Jw,q]
theorem Qj {m:ME} {mr:ML} {Γ:Gam} {S S1 j:Q2} {p:PV} {ps:List PV} (h1:m Γ S=.ok p S1) (h2:mr Γ S1=.ok ps j):Q3 m mr Γ S=.ok (p :: ps) j:=by rw [Qiz,h1,Jw,h2,Jw]
theorem X8 {o:CF} {mr:ML} {Γ:Gam} {S S1 j:Q2} {ps:List PV} {v:PV} (h1:mr Γ S=.ok ps S1) (h2:o S1 ps=.ok v j):Qz o mr Γ S=.ok v j:=by rw [Qj0,h1,Jw,h2]
theorem U9 {ga:GA} {mi:MI} {b:MS} {Γ:Gam} {S S1:Q2} {xs:List PV} {w:Wt} {r:SR} (h1:mi Γ S=.ok (xs,w) S1) (h2:Wm ga b w xs Γ S1=r):ze ga mi b Γ S=r:=by rw [Qns,h1]; exact h2
theorem Kv {c:MT} {a b:MS} {Γ:Gam} {S S1:Q2} {r:SR} (h1:c Γ S=.ok yo S1) (h2:a Γ S1=r):Z9 c a b Γ S=r:=by rw [Q8b,h1]; exact h2
theorem Zh {c:MT} {a b:MS} {Γ:Gam} {S S1:Q2} {r:SR} (h1:c Γ S=.ok yl S1) (h2:b Γ S1=r):Z9 c a b Γ S=r:=by rw [Q8b,h1]; exact h2
theorem Qkj {ga:GA} {m:ME} {Γ j:Gam} {S S1:Q2} {p:PV} (h1:m Γ S=.ok p S1) (h2:ga p Γ=zo j):Qj1 ga m Γ S=.nx j S1:=by rw [Qnt,h1]; show (match ga p Γ with | some j=>SR.nx j S1 | none=>.stuck)=_; rw [h2]
theorem xb {m:ME} {Γ:Gam} {S S1:Q2} {p:PV} {xs:List PV} {w:Wt} (h1:m Γ S=.ok p S1) (h2:Xb S1 p=zo (xs,w)) (j:xs.length<=1000000):Uk m Γ S=.ok (xs,w) S1:=by rw [Qnq,h1,Jw,h2]; exact bS j
theorem Kf {m:ML} {Γ:Gam} {S S1:Q2} {ps:List PV} (h:m Γ S=.ok ps S1):Wk m Γ S=.ok (.lst ps) S1:=by rw [Qnk,h,Jw]
theorem Up {cap:List (Option Nat)} {ga:GA} {mi:MI} {mt:MT} {me:ME} {Γ:Gam} {S S1 j:Q2} {xs ys:List PV} {w:Wt} (h1:mi Γ S=.ok (xs,w) S1) (h2:Zc ga mt me w (Ym cap Γ) xs S1=.ok ys j):Jv cap ga mi mt me Γ S=.ok ys j:=by rw [Qg1,h1,Jw,h2]; rfl
theorem Q2i {m:ML} {Γ:Gam} {S S1:Q2} {ps:List PV} (h:m Γ S=.ok ps S1):Q88 m Γ S=.ok (.ref S1.length) (S1 ++ [.lst ps]):=by rw [Qnn,h,Jw]
theorem Wd {t:MT} {Γ:Gam} {S S1:Q2} {b:Bool} (h:t Γ S=.ok b S1):Zm t Γ S=.ok (!b) S1:=by rw [Qgz,h,Jw]
theorem J7 {m:ME} {Γ:Gam} {S S1:Q2} {b:Bool} (h:m Γ S=.ok (.bl b) S1):toB m Γ S=.ok b S1:=by rw [Qqi,h]; rfl
theorem Qqp {mo mi m:ME} {Γ:Gam} {S S1 j S3 q:Q2} {p o i:PV} (h1:m Γ S=.ok p S1) (h2:mo Γ S1=.ok o j) (G:mi Γ j=.ok i S3) (z:qb S3 o i p=zo q):Kt mo mi m Γ S=.nx Γ q:=by
 rw [Qg0,h1,qv,h2,qv,G,qv,z]
theorem Qd0 {f:MF} {mo:ME} {mr:ML} {Γ:Gam} {S S1 j S3:Q2} {p v:PV} {xs ps:List PV} (h1:mo Γ S=.ok p S1) (h2:Wf S1 p=zo xs) (q:mr Γ S1=.ok ps j) (z:f j p ps=.ok v S3):X3 (mBM f mo mr) Γ S=.nx Γ S3:=by
 rw [Q4e,Qrs,h1,Jw];simp only [h2];rw [q,Jw,z,qv]
theorem Q8w {m:ME} {Γ:Gam} {S S1:Q2} {v:PV} (h:m Γ S=.ok v S1):X3 m Γ S=.nx Γ S1:=by rw [Q4e,h]; rfl
theorem Qu6 {a b:MT} {Γ:Gam} {S S1:Q2} (h:a Γ S=.ok yo S1):Ug a b Γ S=.ok yo S1:=by rw [Qd7,h]; rfl
theorem yd {a b:MT} {Γ:Gam} {S S1:Q2} {r:Res Bool} (h:a Γ S=.ok yl S1) (h2:b Γ S1=r):Ug a b Γ S=r:=by rw [Qd7,h]; exact h2
theorem Q2u {a b:MS} {Γ:Gam} {S S1:Q2} {v:PV} (h:a Γ S=.rt v S1):Qi a b Γ S=.rt v S1:=by rw [K8,h]
theorem Kg {mr:ML} {Γ:Gam} {S S1:Q2} {ps:List PV} (h1:mr Γ S=.ok ps S1) (h2:ps.length<=1000000):Y3 mr Γ S=.ok (.tup ps) S1:=by rw [Qnm,h1,Jw]; exact bS h2
theorem X7 {n:Nat} {F:FN} {mr:ML} {Γ:Gam} {S S1 j:Q2} {ps:List PV} {x:Exc} (h1:mr Γ S=.ok ps S1) (h2:ps.length=n) (q:F ps S1=.exc x j):Qd n F mr Γ S=.exc x j:=by rw [Q69,h1,Jw,bS h2,q]
mutual
def Pl:PV->Prop
 | .ref _=>False
 | .str x=>x.length<=1000000
 | .tup xs=>PlL xs
 | _=>True
def PlL:List PV->Prop
 | []=>True
 | p :: ps=>Pl p/\PlL ps
end
theorem PlL.mem:∀ {ps:List PV} {p:PV},PlL ps->p∈ps->Pl p
 | _ :: _,_,h,m=>by
  rcases D5.mp m with rfl | m
  ·exact h.1
  ·exact PlL.mem h.2 m
theorem PlL.of:∀ {ps:List PV},(∀ p∈ps,Pl p)->PlL ps
 | [],_=>trivial
 | p :: ps,h=>⟨h p (by simp),PlL.of fun q j=>h q (O5 _ j)⟩
theorem Q8p (T:String) {m:ME} {Γ:Gam} {S:Q2} {p:PV} (h:m Γ S=.ok p S) (hp:Pl p):Xa T m Γ S=.ok (.bl (isI T p)) S:=by
 unfold Xa;rw [h,Jw];cases p <;> first | rfl | exact hp.elim
theorem Q0m {body:MS} {nl:Nat} {ps:List PV} {st:Q2} {b:Bool} (h:body (ps.map zo ++ bh (nl - ps.length) zb) st=.rt (.bl b) st):Qs body nl ps st=.ok (.bl b) st:=by
 unfold Qs; rw [h]; exact Y1 st b
def Qb9:PV->Bool
 | .int _=>yo
 | _=>yl
def yr (p:PV) (a b:Int):Bool:=match p with
 | .int x=>decide (a<=x) && decide (x<=b)
 | _=>yl
def szP (p:PV) (a b:Int):Bool:=match p with
 | .tup xs=>decide (a<=(xs.length:Int)) && decide ((xs.length:Int)<=b)
 | _=>yl
theorem Qkt {p:PV} (hp:Pl p) (st:Q2):Vi [p] st=.ok (.bl (Qb9 p)) st:=by
 refine Q0m ?_;have h1:=Q8p "int" (m:=Q4 0) (Γ:=[zo p]) (S:=st) rfl hp;have h2:=Q8p "bool" (m:=Q4 0) (Γ:=[zo p]) (S:=st) rfl hp;show X2 [zo p] st=_;cases p with
 | ref=>exact hp.elim
 | _=>simp -implicitDefEqProofs [X2,h1,h2,isI,tyN,Qb9]
theorem Qeg {p:PV} (hp:Pl p) (a b:Int) (st:Q2):Jp [p,.int a,.int b] st=.ok (.bl (yr p a b)) st:=by
 have j:=Qkt hp st;cases p with
 | int x=>exact Qpg x a b st
 | ref=>exact hp.elim
 | _=>simp -implicitDefEqProofs [Jp,Qs,Uj,j,Qb9,yr]
theorem jt {p:PV} (hp:Pl p) (a b:Int) (st:Q2):J0 [p,.int a,.int b] st=.ok (.bl (szP p a b)) st:=by
 refine Q0m ?_;have h1:=Q8p "tuple" (m:=Q4 0) (Γ:=[zo p,zo (.int a),zo (.int b)]) (S:=st) rfl hp;show Y0 [zo p,zo (.int a),zo (.int b)] st=_;cases p with
 | ref=>exact hp.elim
 | tup xs=>
  by_cases q:a<=(xs.length:Int) <;> simp -implicitDefEqProofs [Y0,h1,isI,tyN,szP,q]
 | _=>simp -implicitDefEqProofs [Y0,h1,isI,tyN,szP]
def xf (c:Nat):Bool:=decide (97<=c) && decide (c<=122)
def Y4 (x:Str):Bool:=decide (1<=(x.length:Int)) && decide ((x.length:Int)<=8) && x.cps.toList.all xf
def Y5:PV->Bool
 | .str x=>Y4 x
 | _=>yl
theorem Qxn (c:Nat) (st:Q2):Qfs st (.str "a") (.str ⟨#[c]⟩)=.ok (.bl (decide (97<=c))) st:=by
 show Res.ok (PV.bl (!decide ([c] < [97]))) st=_;have:(!decide ([c] < [97]))=decide (97<=c):=by
  by_cases q:97<=c
  ·simp [em,q]
  ·simp [em,q]; omega
 rw [this]
theorem Qxm (c:Nat) (st:Q2):Qfs st (.str ⟨#[c]⟩) (.str "z")=.ok (.bl (decide (c<=122))) st:=by
 show Res.ok (PV.bl (!decide ([122] < [c]))) st=_;have:(!decide ([122] < [c]))=decide (c<=122):=by
  by_cases q:c<=122
  ·simp [em,q]
  ·simp [em,q]; omega
 rw [this]
theorem len_str {x:Str} (h:x.length<=1000000) (st:Q2):Ze st [.str x]=.ok (.int x.length) st:=by
 show (if x.length<=lim then _ else _)=_;rw [bS (by rw [X4]; exact h)]
theorem Qb8 {p:PV} (hp:Pl p) (st:Q2):Wj [p] st=.ok (.bl (Y5 p)) st:=by
 refine Q0m ?_;have h1:=Q8p "str" (m:=Q4 0) (Γ:=[zo p]) (S:=st) rfl hp;show Vf [zo p] st=_;cases p with
 | ref=>exact hp.elim
 | str x=>
  by_cases q:1<=(x.length:Int)/\(x.length:Int)<=8
  ·obtain ⟨q1,q2⟩:=q;have j:x.length<=1000000:=by omega
   have U:Zc (Qk 0) Zv ji [] (Ym [zb] [zo (.str x)]) (x.cps.toList.map fun c=>.str ⟨#[c]⟩) st=.ok ((x.cps.toList.map xf).map .bl) st:=by
    rw [cF];refine Q08 (fun c=>PV.str ⟨#[c]⟩) (fun c=>PV.bl (xf c)) (by simp) fun c _=>⟨_,rfl,?_⟩
    have a:=Qxn c st;have z:=Qxm c st
    by_cases r:97<=c <;> simp [Ym,ji,a,z,r,xf]
   have J:Y5 (.str x)=(x.cps.toList.map xf).all id:=by
    show Y4 x=_;unfold Y4;rw [bV q1,bV q2,cD];rfl
   rw [J];have O:Qdu (Q4 0) [zo (.str x)] st=.ok (x.cps.toList.map fun c=>.str ⟨#[c]⟩,[]) st:=by
    show (if x.length<=lim then _ else _)=_;rw [bS (by rw [X4]; exact j)];rfl
   generalize x.cps.toList.map xf=bs at *;have G:=len_str j st;simp -implicitDefEqProofs [Vf,h1,isI,tyN,G,q1,q2,U,O]
  ·have J:Y5 (.str x)=yl:=by
    show Y4 x=_;unfold Y4;have:(decide (1<=(x.length:Int)) && decide ((x.length:Int)<=8))=yl:=by
     by_cases q1:1<=(x.length:Int)
     ·rw [bU (fun h=>q ⟨q1,h⟩),cT]
     ·rw [bU q1,F9]
    rw [this,F9]
   rw [J]
   by_cases j:x.length<=1000000
   ·have G:=len_str j st
    by_cases q1:1<=(x.length:Int)
    ·have q2:¬ (x.length:Int)<=8:=fun h=>q ⟨q1,h⟩
     simp -implicitDefEqProofs [Vf,h1,isI,tyN,G,q1,q2]
    ·simp -implicitDefEqProofs [Vf,h1,isI,tyN,G,q1]
   ·exact absurd hp j
 | _=>simp -implicitDefEqProofs [Vf,h1,isI,tyN,Y5]
def evP:PV->Bool
 | .str x=>Kw ["go", "fall"] x
 | _=>yl
def K9 (n:Int):PV->Bool
 | .tup [a,b]=>yr a 0 (n - 1) && (Y5 b && !evP b)
 | _=>yl
def Q4k (n:Int) (p:PV):Bool:=match p with
 | .tup xs=>decide ((xs.length:Int)<=8) && xs.all (K9 n)
 | _=>yl
def Zq (n:Int):PV->Bool
 | .tup [a,b,c,d,e,f]=>yr a 0 (n - 1) && (Y5 b && (Y5 c && Y5 d)) && (yr e 0 9 && Q4k n f)
 | _=>yl
def Q07 (ps:List PV):Bool:=match Ui Q02 ps with
 | some ks=>decide ((Yj ks).length=ps.length)
 | none=>yl
def Q3b (n:Int) (p:PV):Bool:=match p with
 | .tup xs=>decide ((xs.length:Int)<=60) && xs.all (Zq n) && Q07 xs
 | _=>yl
def js (p:PV):Bool:=match p with
 | .tup xs=>decide (1<=(xs.length:Int)) && decide ((xs.length:Int)<=4) && xs.all Y5
 | _=>yl
def Ww:PV->Bool
 | .tup [a,b,c]=>yr a 0 20 && (js b && match b with
  | .tup xs=>Q3b xs.length c
  | _=>yl)
 | _=>yl
theorem Qjc {j:Bool} {ss:List Str} {m:ME} {Γ:Gam} {S S1:Q2} {x:Str} (h:m Γ S=.ok (.str x) S1):Qag j ss m Γ S=.ok (.bl (Kw ss x != j)) S1:=by unfold Qag; rw [h]; rfl
theorem Quw {p:PV} (hp:Pl p) (n:Int) (st:Q2):Z7 [.int n,p] st=.ok (.bl (K9 n p)) st:=by
 have h1:=jt hp 2 2 st;cases p with
 | tup xs=>
  rcases xs with _ | ⟨a,_ | ⟨b,_ | ⟨c,t⟩⟩⟩
  ·simp -implicitDefEqProofs [Z7,Qs,Zu,h1,szP,K9]
  ·simp -implicitDefEqProofs [Z7,Qs,Zu,h1,szP,K9]
  ·obtain ⟨O,U,_⟩:=(show Pl a/\Pl b/\True from hp);have h2:=Qeg O 0 (n - 1) st;have J:=Qb8 U st;have z:atI [a,b] 0=zo a:=rfl;have j:atI [a,b] 1=zo b:=rfl;cases q:yr a 0 (n - 1) with
   | false=>simp -implicitDefEqProofs [Z7,Qs,Zu,h1,szP,K9,z,j,h2,q]
   | true=>
    cases b with
    | str x=>
     have G:Qag yo ["go", "fall"] (mOp oIx (Q4 1) (mC (.int 1))) [zo (.int n),zo (.tup [a,.str x])] st=.ok (.bl (Kw ["go", "fall"] x != yo)) st:=Qjc (by simp -implicitDefEqProofs [j]);have Y:(Kw ["go", "fall"] x != yo)=!Kw ["go", "fall"] x:=by cases Kw ["go", "fall"] x <;> rfl
     rw [Y] at G;cases r:Y5 (.str x) <;> simp -implicitDefEqProofs [Z7,Qs,Zu,h1,szP,K9,z,j,h2,q,J,r,G,evP]
    | _=>simp -implicitDefEqProofs [Z7,Qs,Zu,h1,szP,K9,z,j,h2,q,J,Y5]
  ·have:¬ ((t.length:Int) + 1 + 1 + 1<=2):=by omega
   simp -implicitDefEqProofs [Z7,Qs,Zu,h1,szP,K9,this]
 | ref=>exact hp.elim
 | _=>simp -implicitDefEqProofs [Z7,Qs,Zu,h1,szP,K9]
theorem Qb3 {g:PV->Bool} {ga:GA} {me:ME} {Γ0:Gam} {xs:List PV} {st:Q2} (h:∀ p∈xs,∃ j,ga p Γ0=zo j/\me j st=.ok (.bl (g p)) st):Zc ga Zv me [] Γ0 xs st=.ok ((xs.map g).map .bl) st:=by
 have:=Q08 (ga:=ga) (me:=me) (w:=[]) (Γ0:=Γ0) (st:=st) id (fun p=>PV.bl (g p)) (by simp) (ys:=xs) h
 rw [ib] at this;rw [this,cF];rfl
theorem Q0e {g:PV->Bool} (xs:List PV):(xs.map g).all id=xs.all g:=by rw [cD]; rfl
theorem Qrv {p:PV} (hp:Pl p) (n:Int) (st:Q2):Jb [.int n,p] st=.ok (.bl (Q4k n p)) st:=by
 have h1:=jt hp 0 8 st;cases p with
 | tup xs=>
  by_cases q:(xs.length:Int)<=8
  ·have G:=Qb3 (g:=K9 n) (ga:=Qk 0) (me:=Y2) (Γ0:=Ym [zb,zo 0] [zo (.int n),zo (.tup xs)]) (xs:=xs) (st:=st) fun p hm=>⟨_,rfl,by
    have:=Quw (PlL.mem hp hm) n st;simp -implicitDefEqProofs [Ym,Y2,this]⟩
   have z:xs.length<=1000000:=by omega
   have hz:szP (.tup xs) 0 8=yo:=by unfold szP; simp [q]
   have j:Q4k n (.tup xs)=(xs.map (K9 n)).all id:=by show (decide ((xs.length:Int)<=8) && xs.all (K9 n))=_; rw [Q0e,bV q,dm]
   rw [j];generalize xs.map (K9 n)=bs at *;simp -implicitDefEqProofs [Jb,Qs,Jy,h1,hz,z,X4,G]
  ·have hz:szP (.tup xs) 0 8=yl:=by unfold szP; simp [q]
   have j:Q4k n (.tup xs)=yl:=by show (decide ((xs.length:Int)<=8) && xs.all (K9 n))=_; rw [bU q,F9]
   simp -implicitDefEqProofs [Jb,Qs,Jy,h1,hz,j]
 | ref=>exact hp.elim
 | _=>simp -implicitDefEqProofs [Jb,Qs,Jy,h1,szP,Q4k]
theorem Qqv {p:PV} (hp:Pl p) (n:Int) (st:Q2):W6 [.int n,p] st=.ok (.bl (Zq n p)) st:=by
 have h1:=jt hp 6 6 st;cases p with
 | tup xs=>
  by_cases z:xs.length=6
  ·obtain ⟨a,b,c,d,e,f,rfl⟩:∃ a b c d e f,xs=[a,b,c,d,e,f]:=by
    rcases xs with _ | ⟨a,_ | ⟨b,_ | ⟨c,_ | ⟨d,_ | ⟨e,_ | ⟨f,_ | ⟨g,t⟩⟩⟩⟩⟩⟩⟩ <;> first | exact ⟨_,_,_,_,_,_,rfl⟩ | (simp at z; done) | (simp at z; omega)
   obtain ⟨Z,hb,hc,hd,he,hf,_⟩:=(show Pl a/\Pl b/\Pl c/\Pl d/\Pl e/\Pl f/\True from hp);have h2:=Qeg Z 0 (n - 1) st;have h3:=Qeg he 0 9 st;have h4:=Qrv hf n st;have G:atI [a,b,c,d,e,f] 0=zo a:=rfl;have i4:atI [a,b,c,d,e,f] 4=zo e:=rfl;have Y:atI [a,b,c,d,e,f] 5=zo f:=rfl;have U:cut [a,b,c,d,e,f] (zo 1) (zo 4)=[b,c,d]:=rfl;have j:=Qb3 (g:=Y5) (ga:=Qk 0) (me:=jj) (Γ0:=Ym [zb] [zo (.int n),zo (.tup [a,b,c,d,e,f])]) (xs:=[b,c,d]) (st:=st) fun p hm=>⟨_,rfl,by
    have J:Pl p:=PlL.mem (ps:=[b,c,d]) ⟨hb,hc,hd,trivial⟩ hm;have:=Qb8 J st;simp -implicitDefEqProofs [Ym,jj,this]⟩
   have hw:([b,c,d].map Y5).all id=(Y5 b && (Y5 c && Y5 d)):=by simp
   have O:Zq n (.tup [a,b,c,d,e,f])=(yr a 0 (n - 1) && ([b,c,d].map Y5).all id && (yr e 0 9 && Q4k n f)):=by rw [hw]; rfl
   rw [O];generalize [b,c,d].map Y5=bs at *;cases q:yr a 0 (n - 1) with
   | false=>simp -implicitDefEqProofs [W6,Qs,Vg,h1,szP,G,h2,q]
   | true=>
    cases r:bs.all id with
    | false=>simp -implicitDefEqProofs [W6,Qs,Vg,h1,szP,G,h2,q,U,X4,j,r]
    | true=>cases u:yr e 0 9 <;> simp -implicitDefEqProofs [W6,Qs,Vg,h1,szP,G,h2,q,U,X4,j,r,i4,Y,h3,h4,u]
  ·have hz:szP (.tup xs) 6 6=yl:=by
    show (decide ((6:Int)<=xs.length) && decide ((xs.length:Int)<=6))=yl
    by_cases y:(6:Int)<=xs.length
    ·rw [bU (show ¬ (xs.length:Int)<=6 by omega),cT]
    ·rw [bU y,F9]
   have O:Zq n (.tup xs)=yl:=by
    unfold Zq
    split
    ·rename_i e; cases e; simp at z
    ·rfl
   simp -implicitDefEqProofs [W6,Qs,Vg,h1,hz,O]
 | ref=>exact hp.elim
 | _=>simp -implicitDefEqProofs [W6,Qs,Vg,h1,szP,Zq]
theorem Qp1 {d:Nat} {ps:List PV} (h:∀ p∈ps,∃ k,yp d p=zo k):∃ ks,Ui (yp d) ps=zo ks:=by
 induction ps with
 | nil=>exact ⟨[],rfl⟩
 | cons p ps z=>
  obtain ⟨k,J⟩:=h p (by simp);obtain ⟨ks,j⟩:=z fun q G=>h q (O5 _ G)
  exact ⟨k :: ks,by unfold Ui; rw [J,j]⟩
theorem Q52 {p:PV} {a b:Int} (h:yr p a b=yo):∃ x,p=.int x/\a<=x/\x<=b:=by
 cases p with
 | int x=>
  have h:(decide (a<=x) && decide (x<=b))=yo:=h;simp at h;exact ⟨x,rfl,h⟩
 | _=>cases h
theorem jq {p:PV} (h:Y5 p=yo):∃ x,p=.str x/\Y4 x=yo:=by
 cases p with
 | str x=>exact ⟨x,rfl,h⟩
 | _=>cases h
theorem Qdz {n:Int} {p:PV} (h:K9 n p=yo):∃ x s,p=.tup [.int x,.str s]/\0<=x/\x < n/\Y4 s=yo/\Kw ["go", "fall"] s=yl:=by
 unfold K9 at h
 split at h
 ·rename_i a b;rw [E6,E6] at h;obtain ⟨x,rfl,h1,h2⟩:=Q52 h.1;obtain ⟨s,rfl,j⟩:=jq h.2.1;refine ⟨x,s,rfl,h1,by omega,j,?_⟩;have:(!Kw ["go", "fall"] s)=yo:=h.2.2;simpa using this
 ·cases h
theorem Q3c {n:Int} {p:PV} (h:Zq n p=yo):∃ x s e t u ls,p=.tup [.int x,.str s,.str e,.str t,.int u,.tup ls]/\0<=x/\x < n/\Y4 s=yo/\Y4 e=yo/\Y4 t=yo/\0<=u/\u<=9/\ls.length<=8/\∀ l∈ls,K9 n l=yo:=by
 unfold Zq at h
 split at h
 ·rename_i a b c d e f;simp only [E6] at h;obtain ⟨⟨h1,h2,O,J⟩,h5,h6⟩:=h;obtain ⟨x,rfl,x1,x2⟩:=Q52 h1;obtain ⟨s,rfl,s1⟩:=jq h2;obtain ⟨z,rfl,e1⟩:=jq O;obtain ⟨t,rfl,q⟩:=jq J;obtain ⟨u,rfl,j,G⟩:=Q52 h5;unfold Q4k at h6
  split at h6
  ·rename_i ls;simp only [E6,decide_eq_true_eq,E7] at h6;exact ⟨x,s,z,t,u,ls,rfl,x1,by omega,s1,e1,q,j,G,by omega,h6.2⟩
  ·cases h6
 ·cases h
theorem Q5z {n:Int} {p:PV} (h:Zq n p=yo):∃ k,Q02 p=zo k:=by
 obtain ⟨x,s,e,t,u,ls,rfl,_,_,_,_,_,_,_,_,q⟩:=Q3c h;obtain ⟨ks,G⟩:=Qp1 (d:=3) (ps:=ls) fun l hm=>by
  obtain ⟨y,z,rfl,_⟩:=Qdz (q l hm);exact ⟨_,rfl⟩
 refine ⟨.tup [.int x,.str s,.str e,.str t,.int u,.tup ks],?_⟩;show (Ui (yp 4) _).map HK.tup=_;have j:yp 4 (.tup ls)=zo (.tup ks):=by show (Ui (yp 3) ls).map HK.tup=_; rw [G]; rfl
 simp only [Ui,j];rfl
theorem Qe1 {n:Int} {xs:List PV} (h:xs.all (Zq n)=yo):∃ ks,Ui Q02 xs=zo ks/\ks.length=xs.length:=by
 induction xs with
 | nil=>exact ⟨[],rfl,rfl⟩
 | cons p ps z=>
  simp only [cN,E6] at h;obtain ⟨k,q⟩:=Q5z h.1;obtain ⟨ks,j,G⟩:=z h.2;exact ⟨k :: ks,by unfold Ui; rw [q,j],by rw [D7,D7,G]⟩
theorem Qma {p:PV} (hp:Pl p) (n:Int) (st:Q2):Y6 [.int n,p] st=.ok (.bl (Q3b n p)) st:=by
 have h1:=jt hp 0 60 st;cases p with
 | tup xs=>
  by_cases q:(xs.length:Int)<=60
  ·have J:=Qb3 (g:=Zq n) (ga:=Qk 0) (me:=Xy) (Γ0:=Ym [zb,zo 0] [zo (.int n),zo (.tup xs)]) (xs:=xs) (st:=st) fun p hm=>⟨_,rfl,by
    have:=Qqv (PlL.mem hp hm) n st;simp -implicitDefEqProofs [Ym,Xy,this]⟩
   have G:xs.length<=1000000:=by omega
   have hz:szP (.tup xs) 0 60=yo:=by unfold szP; simp [q]
   have z:Q3b n (.tup xs)=((xs.map (Zq n)).all id && Q07 xs):=by show (decide ((xs.length:Int)<=60) && xs.all (Zq n) && Q07 xs)=_; rw [Q0e,bV q,dm]
   rw [z];cases r:(xs.map (Zq n)).all id with
   | false=>
    generalize xs.map (Zq n)=bs at *;simp -implicitDefEqProofs [Y6,Qs,Wi,h1,hz,G,X4,J,r]
   | true=>
    obtain ⟨ks,O,U⟩:=Qe1 (n:=n) (xs:=xs) (by rw [<- Q0e]; exact r);have j:ks.length<=76:=by omega
    have hd:Q07 xs=decide (((Yj ks).length:Int)=(xs.length:Int)):=by
     unfold Q07;rw [O];show decide ((Yj ks).length=xs.length)=_
     by_cases y:(Yj ks).length=xs.length
     ·rw [bV y,bV (by rw [y])]
     ·rw [bU y,bU (by omega)]
    rw [hd];generalize xs.map (Zq n)=bs at *
    by_cases y:((Yj ks).length:Int)=(xs.length:Int) <;> simp -implicitDefEqProofs [Y6,Qs,Wi,h1,hz,G,X4,J,r,O,j,y]
  ·have hz:szP (.tup xs) 0 60=yl:=by unfold szP; simp [q]
   have z:Q3b n (.tup xs)=yl:=by show (decide ((xs.length:Int)<=60) && xs.all (Zq n) && Q07 xs)=_; rw [bU q,F9,F9]
   simp -implicitDefEqProofs [Y6,Qs,Wi,h1,hz,z]
 | ref=>exact hp.elim
 | _=>simp -implicitDefEqProofs [Y6,Qs,Wi,h1,szP,Q3b]
theorem Qh1 {p:PV} (hp:Pl p) (st:Q2):Ya [p] st=.ok (.bl (js p)) st:=by
 have h1:=jt hp 1 4 st;cases p with
 | tup xs=>
  cases q:szP (.tup xs) 1 4 with
  | true=>
   have j:(decide ((1:Int)<=xs.length) && decide ((xs.length:Int)<=4))=yo:=q;have J:=Qb3 (g:=Y5) (ga:=Qk 0) (me:=X6) (Γ0:=Ym [zb] [zo (.tup xs)]) (xs:=xs) (st:=st) fun p hm=>⟨_,rfl,by
    have:=Qb8 (PlL.mem hp hm) st;simp -implicitDefEqProofs [Ym,X6,this]⟩
   have G:xs.length<=1000000:=by simp at j; omega
   have z:js (.tup xs)=(xs.map Y5).all id:=by show (decide ((1:Int)<=xs.length) && decide ((xs.length:Int)<=4) && xs.all Y5)=_; rw [Q0e,j,dm]
   rw [z];generalize xs.map Y5=bs at *;simp -implicitDefEqProofs [Ya,Qs,Wy,h1,q,G,X4,J]
  | false=>
   have j:(decide ((1:Int)<=xs.length) && decide ((xs.length:Int)<=4))=yl:=q;have z:js (.tup xs)=yl:=by show (decide ((1:Int)<=xs.length) && decide ((xs.length:Int)<=4) && xs.all Y5)=_; rw [j,F9]
   simp -implicitDefEqProofs [Ya,Qs,Wy,h1,q,z]
 | ref=>exact hp.elim
 | _=>simp -implicitDefEqProofs [Ya,Qs,Wy,h1,szP,js]
theorem Qad {p:PV} (hp:Pl p) (st:Q2):Zx [p] st=.ok (.bl (Ww p)) st:=by
 have h1:=jt hp 3 3 st;cases p with
 | tup xs=>
  by_cases z:xs.length=3
  ·obtain ⟨a,b,c,rfl⟩:∃ a b c,xs=[a,b,c]:=by
    rcases xs with _ | ⟨a,_ | ⟨b,_ | ⟨c,_ | ⟨g,t⟩⟩⟩⟩ <;> first | exact ⟨_,_,_,rfl⟩ | (simp at z; done) | (simp at z; omega)
   obtain ⟨O,U,hc,_⟩:=(show Pl a/\Pl b/\Pl c/\True from hp);have h2:=Qeg O 0 20 st;have J:=Qh1 U st;have j:atI [a,b,c] 0=zo a:=rfl;have G:atI [a,b,c] 1=zo b:=rfl;have Y:atI [a,b,c] 2=zo c:=rfl;cases q:yr a 0 20 with
   | false=>simp -implicitDefEqProofs [Zx,Qs,Yw,h1,szP,j,h2,q,Ww]
   | true=>
    cases r:js b with
    | false=>simp -implicitDefEqProofs [Zx,Qs,Yw,h1,szP,j,G,h2,J,q,r,Ww]
    | true=>
     cases b with
     | tup ys=>
      have h4:=Qma hc ys.length st;simp -implicitDefEqProofs [Zx,Qs,Yw,h1,szP,j,G,Y,h2,J,h4,q,r,Ww]
     | _=>cases r
  ·have hz:szP (.tup xs) 3 3=yl:=by
    show (decide ((3:Int)<=xs.length) && decide ((xs.length:Int)<=3))=yl
    by_cases y:(3:Int)<=xs.length
    ·rw [bU (show ¬ (xs.length:Int)<=3 by omega),cT]
    ·rw [bU y,F9]
   have Z:Ww (.tup xs)=yl:=by
    unfold Ww
    split
    ·rename_i e; cases e; simp at z
    ·rfl
   simp -implicitDefEqProofs [Zx,Qs,Yw,h1,hz,Z]
 | ref=>exact hp.elim
 | _=>simp -implicitDefEqProofs [Zx,Qs,Yw,h1,szP,Ww]
theorem Yz {m:MS} {nl:Nat} {ps:List PV} {S j:Q2} {v:PV} (h:m (ps.map zo ++ bh (nl - ps.length) zb) S=.rt v j):Xf m nl ps S=.ok v j:=by unfold Xf; rw [h]
theorem Ke {m:MS} {nl:Nat} {ps:List PV} {S j:Q2} {v:PV} (h:m (ps.map zo ++ bh (nl - ps.length) zb) S=.rt v j):Qs m nl ps S=fin S v j:=by unfold Qs; rw [h]
theorem Q98 {S:Q2} {L:Nat} {xs:List PV} (h:S[L]?=zo (.lst xs)) (j:xs.length < 1000000) (y:PV):Wv S (.ref L) [y]=.ok .non (S.set L (.lst (xs ++ [y]))):=by
 simp only [Wv,chg,h];rw [bS (show xs.length < lim from j)]
theorem Q57 {a b:MT} {Γ:Gam} {S S1:Q2} {r:Res Bool} (h:a Γ S=.ok yo S1) (h2:b Γ S1=r):yx a b Γ S=r:=by rw [Q9d,h]; exact h2
theorem Qkk {a b:MT} {Γ:Gam} {S S1:Q2} (h:a Γ S=.ok yl S1):yx a b Γ S=.ok yl S1:=by rw [Q9d,h]; rfl
theorem Y7 {m:ME} {Γ:Gam} {S S1:Q2} {v:PV} (h:m Γ S=.ok v S1):Je m Γ S=.rt v S1:=by rw [Qdw,h]; rfl
theorem Qjw (S:Q2) {a b:Int} (h:a=b):oEq S (.int a) (.int b)=.ok (.bl yo) S:=by simp [h]
theorem Qjx (S:Q2) {a b:Int} (h:¬ a=b):oEq S (.int a) (.int b)=.ok (.bl yl) S:=by simp [h]
theorem Qqb (S:Q2) {a b:Int} (h:b < a):(oI fun a b=>.bl (decide (b < a))) S (.int a) (.int b)=.ok (.bl yo) S:=by
 show Res.ok (PV.bl (decide (b < a))) S=_; rw [bV h]
theorem Qv3 (S:Q2) {a b:Int} (h:¬ b < a):(oI fun a b=>.bl (decide (b < a))) S (.int a) (.int b)=.ok (.bl yl) S:=by
 show Res.ok (PV.bl (decide (b < a))) S=_; rw [bU h]
theorem Qpq (S:Q2) (a b:Int):Zt S (.int a) (.int b)=.ok (.int (a + b)) S:=by simp
theorem Q95 {mr:ML} {Γ:Gam} {S S1:Q2} {ps:List PV} (h:mr Γ S=.ok ps S1) (j:ps.length<=1000000:=by decide):jg mr Γ S=.ok (.lst ps) S1:=by
 unfold jg;rw [h,Jw];exact bS j
theorem Qit (S:Q2) (a:Int):oNe S (.int a) (.int a)=.ok (.bl yl) S:=by simp
theorem Qdg {n:Nat} (j:n<=1000) {m:ME} {Γ:Gam} {S:Q2} (h:m Γ S=.ok (.int n) S):Zd (Q3 m Q7) Γ S=.ok (Yv 0 n,[]) S:=by
 rw [Q4b,Qj h (show Q7 Γ S=.ok [] S from rfl),Jw];show (if -(lim:Int)<=(n:Int)/\(n:Int)<=lim then _ else _)=_;rw [bS (by rw [X4]; omega),bt]
theorem Qqc (S:Q2) (a:Str):oEq S (.str a) (.str a)=.ok (.bl yo) S:=by simp
theorem Qjv {a b:Str} (S:Q2) (h:¬ a=b):oEq S (.str a) (.str b)=.ok (.bl yl) S:=by simp [h]
theorem Q2a {S:Q2} {v:PV} (g:good dep v=yo) (hd:der S v=v):oNe S v v=.ok (.bl yl) S:=by
 have hp:peq v v=yo:=j9 g;unfold oNe;rw [hd];simp [g,hp]
theorem Ut {a b:MS} {Γ:Gam} {S S1:Q2} {x:Exc} (h:a Γ S=.exc x S1):Qi a b Γ S=.exc x S1:=by rw [K8,h]
theorem Q4x {m:ME} {Γ:Gam} {S S1:Q2} {x:Exc} (h:m Γ S=.exc x S1):X3 m Γ S=.exc x S1:=by rw [Q4e,h]; rfl
theorem Qgb (S:Q2) (cn:Str):Q8v S ⟨cn,zb⟩ S=.exc ⟨cn,zb⟩ S:=by unfold Q8v; rw [bS iW]
theorem Uq {m:MS} {nl:Nat} {ps:List PV} {S:Q2} {cn:Str} (h:m (ps.map zo ++ bh (nl - ps.length) zb) S=.exc ⟨cn,zb⟩ S):Qs m nl ps S=.exc ⟨cn,zb⟩ S:=by unfold Qs; rw [h]; exact Qgb S cn
structure Mw (L:Nat) (S S':Q2):Prop where
 len:S.length<=S'.length
 keep:∀ t,t≠L->t < S.length->S'[t]?=S[t]?
theorem Mw.refl (L:Nat) (S:Q2):Mw L S S:=⟨O4 _,fun _ _ _=>rfl⟩
theorem Mw.trans {L:Nat} {S S1 j:Q2} (a:Mw L S S1) (b:Mw L S1 j):Mw L S j:=⟨E3 a.len b.len,fun t h1 h2=>(b.keep t h1 (D0 h2 a.len)).trans (a.keep t h1 h2)⟩
theorem Mv.w {L:Nat} {S j:Q2} (a:Mv L S j):Mw L S j:=⟨by rw [a.len]; exact O4 _,fun t h _=>a.keep t h⟩
theorem Mw.add (L:Nat) (S:Q2) (c:Cell):Mw L S (S ++ [c]):=⟨by rw [D4]; omega,fun t _ h=>D3 h⟩
theorem TapeAt.add {S:Q2} {L:Nat} {ns:List Int} (T:TapeAt S L ns) (c:Cell):TapeAt (S ++ [c]) L ns:=by
 have h:=T.lt;obtain ⟨p,q,e⟩:=T;exact ⟨p,q,by rw [D3 h]; exact e⟩
theorem TapeAt.put {S:Q2} {L M:Nat} {ns:List Int} (T:TapeAt S L ns) (j:M≠L) (c:Cell):TapeAt (S.set M c) L ns:=by
 obtain ⟨p,q,e⟩:=T;exact ⟨p,q,by rw [F2 j]; exact e⟩
theorem rgw {n:Nat} (j:n<=1000) {m:ME} {Γ:Gam} {S S1:Q2} (h:m Γ S=.ok (.int n) S1):Zd (Q3 m Q7) Γ S=.ok (Yv 0 n,[]) S1:=by
 rw [Q4b,Qj h (show Q7 Γ S1=.ok [] S1 from rfl),Jw];show (if -(lim:Int)<=(n:Int)/\(n:Int)<=lim then _ else _)=_;rw [bS (by rw [X4]; omega),bt]
theorem Qg9 (j:List Nat) (acc:Array Nat):cP (fun acc (p:Str)=>acc ++ ("" : Str).cps ++ p.cps) acc (j.map fun c=>(⟨#[c]⟩:Str))=acc ++ j.toArray:=by
 induction j generalizing acc with
 | nil=>simp
 | cons c j q=>
  rw [O8,G7,q];have:("" : Str).cps=#[]:=rfl;rw [this];simp
theorem Qcg (j:List Nat):Txt.join "" (j.map fun c=>(⟨#[c]⟩:Str))=⟨j.toArray⟩:=by
 show Builtin.Str.glued "" _=_;unfold Builtin.Str.glued;cases j with
 | nil=>rfl
 | cons c j=>
  show (⟨cP _ #[c] (j.map fun c=>(⟨#[c]⟩:Str))⟩:Str)=_
  rw [Qg9];simp
theorem Qj9 {j:List Nat} (h:j.length<=1000):JoinOk "" (j.map fun c=>(⟨#[c]⟩:Str))=yo:=by
 unfold JoinOk;have q:∀ (j:List Nat) (a:Nat),cP (fun x1 (x2:Str)=>x1 + x2.length + ("" : Str).length) a (j.map fun c=>(⟨#[c]⟩:Str))=a + j.length:=by
  intro j
  induction j with
  | nil=>intro a; rfl
  | cons c j z=>
   intro a;rw [O8,G7,z,D7];show a + 1 + 0 + _=_;omega
 rw [<- iK];show (!decide (cP _ 0 (j.map fun c=>(⟨#[c]⟩:Str)) > sizeLine))=yo
 rw [q,sizeLine_eq];simp;omega
theorem Qbg (j:List Nat):Q1a (j.map fun c=>PV.str ⟨#[c]⟩)=zo (j.map fun c=>(⟨#[c]⟩:Str)):=by
 induction j with
 | nil=>rfl
 | cons c j q=>rw [O8,Q1a,q]; rfl
theorem Qb7 {j:List Nat} (h1:1<=j.length) (h2:j.length<=8) (h:∀ c∈j,xf c=yo):Y4 ⟨j.toArray⟩=yo:=by
 unfold Y4;have e:(⟨j.toArray⟩:Str).length=j.length:=by show j.toArray.size=_; simp
 rw [e];simp only [E6,decide_eq_true_eq,E7];exact ⟨⟨by omega,by omega⟩,fun c q=>h c (by simpa using q)⟩
theorem Qds {ns:List Int} {S:Q2} {L:Nat} (T:TapeAt S L ns):∃ (x:Str) (S':Q2),Y4 x=yo/\TapeAt S' L ns/\Mw L S S'/\Yd [.ref L] S=.ok (.str x) S':=by
 obtain ⟨d,S1,hd,T1,M1,e1⟩:=Jq T 4 (by decide) (by decide)
 by_cases q:d=0
 ·subst q;obtain ⟨k,J,hk,T2,M2,e2⟩:=Jq T1 8 (by decide) (by decide);obtain ⟨x,hx,ex⟩:∃ x,Y4 x=yo/\oIx J (.lst [.str "go",.str "fall",.str "gone",.str "fallen",.str "gofall",.str "a",.str "aa",.str "abcdefgh"]) (.int k)=.ok (.str x) J:=by
   have:k=0\/k=1\/k=2\/k=3\/k=4\/k=5\/k=6\/k=7:=by omega
   rcases this with rfl | rfl | rfl | rfl | rfl | rfl | rfl | rfl <;> exact ⟨_,by decide +kernel,rfl⟩
  refine ⟨x,J,hx,T2,M1.w.trans M2.w,Yz ?_⟩;show Vp [zo (.ref L)] S=_;exact Q2u (Kv (J7 (Qw (Qn (n:=2) rfl rfl e1) rfl (Qjw _ rfl))) (Y7 (Qw rfl (Qn (n:=2) rfl rfl e2) ex)))
 ·obtain ⟨k,J,hk,T2,M2,e2⟩:=Jq T1 4 (by decide) (by decide);obtain ⟨G,S3,ec,T3,M3,z,U,rfl,a1⟩:=Q18 (xs:=bY (1 + k)) (fun (i:Nat)=>PV.int ((0:Int) + (i:Int))) (fun i G st=>TapeAt st L ns/\Mw L J st/\∃ z:List Nat,z.length=i/\G=z.map (fun c=>PV.str ⟨#[c]⟩)/\∀ c∈z,xf c=yo) (ga:=Qk 0) (me:=Ua) (w:=[]) (Γ0:=Ym [zb,zo 0] [zo (.ref L)]) (fun _ _ st _=>Jr st)
   (fun i x G st _ ⟨Ti,Mi,z,h1,h2,h3⟩=>by
    obtain ⟨j,Z,hj,T4,M4,e4⟩:=Jq Ti 7 (by decide) (by decide);obtain ⟨c,hc,Y⟩:∃ c,xf c=yo/\Qne Z (.str "abgoflz") (.int j)=.ok (.str ⟨#[c]⟩) Z:=by
     have:j=0\/j=1\/j=2\/j=3\/j=4\/j=5\/j=6:=by omega
     rcases this with rfl | rfl | rfl | rfl | rfl | rfl | rfl <;> exact ⟨_,by decide +kernel,rfl⟩
    refine ⟨_,rfl,.str ⟨#[c]⟩,Z,Qw rfl (Qn (n:=2) rfl rfl e4) Y,T4,Mi.trans M4.w,z ++ [c],by rw [D4,h1]; rfl,by rw [h2,E5]; rfl,fun y O=>?_⟩
    rcases E8.mp O with O | O
    ·exact h3 y O
    ·have:y=c:=by simpa using O
     rw [this]; exact hc)
   ⟨T2,Mw.refl L J,[],rfl,rfl,fun c hc=>nomatch hc⟩
  rw [F0] at U;refine ⟨⟨z.toArray⟩,S3,Qb7 (by omega) (by omega) a1,T3,(M1.w.trans M2.w).trans M3,Yz ?_⟩;show Vp [zo (.ref L)] S=_;refine Qh (Zh (J7 (Qw (Qn (n:=2) rfl rfl e1) rfl (Qjx _ (by omega)))) rfl) (Y7 ?_);show Qdx _ _ _ _=_;have hl:Wk (Jv [zb,zo 0] (Qk 0) (Zd (Q3 (mOp Zt (mC (.int 1)) (Qd 2 Qc (Q3 (Q4 0) (Q3 (mC (.int 4)) Q7)))) Q7)) Zv Ua) [zo (.ref L)] S1=.ok (.lst (z.map fun c=>PV.str ⟨#[c]⟩)) S3:=Kf (Up (rgw (n:=1 + k) (by omega) (Qw rfl (Qn (n:=2) rfl rfl e2) (by rw [Qpq]; push_cast; rfl))) ec);unfold Qdx;show ((Q3 _ Q7) [zo (.ref L)] S1).bind _=_;rw [Qj hl (show Q7 _ S3=.ok [] S3 from rfl),Jw];show (match (zo (z.map fun c=>PV.str ⟨#[c]⟩)).bind Q1a with | some ss=>if JoinOk "" ss=yo then Res.ok (PV.str (Txt.join "" ss)) S3 else .stuck | none=>.stuck)=_
  rw [iV,Qbg];show (if JoinOk "" _=yo then _ else _)=_;rw [bS (Qj9 (by omega)),Qcg]
def Qvy (x:Str):Prop:=Y4 x=yo/\Kw ["go", "fall"] x=yl
theorem Q4j {ns:List Int} {S:Q2} {L:Nat} (T:TapeAt S L ns):∃ (x:Str) (z:Q2),Qvy x/\TapeAt z L ns/\Mw L S z/\Zy [.ref L] S=.ok (.str x) z:=by
 obtain ⟨x,S1,G,j,M1,e1⟩:=Qds T
 by_cases q:x = "go"
 ·subst q;refine ⟨"goa",S1,⟨by decide +kernel,by decide +kernel⟩,j,M1,Yz ?_⟩;show Z6 [zo (.ref L),zb] S=_;exact Qh (Jh (Qn (n:=1) rfl rfl e1)) (Q2u (Kv (Qu6 (J7 (Qw rfl rfl (Qqc _ _)))) (Y7 (Qw rfl rfl rfl))))
 ·by_cases r:x = "fall"
  ·subst r;refine ⟨"falla",S1,⟨by decide +kernel,by decide +kernel⟩,j,M1,Yz ?_⟩;show Z6 [zo (.ref L),zb] S=_;exact Qh (Jh (Qn (n:=1) rfl rfl e1)) (Q2u (Kv (yd (J7 (Qw rfl rfl (Qjv _ q))) (J7 (Qw rfl rfl (Qqc _ _)))) (Y7 (Qw rfl rfl rfl))))
  ·refine ⟨x,S1,⟨G,?_⟩,j,M1,Yz ?_⟩
   ·unfold Kw;simp only [cm,List.any_nil,eG,bU (fun h=>q (Eq.symm h)),bU (fun h=>r (Eq.symm h))]
   ·show Z6 [zo (.ref L),zb] S=_;exact Qh (Jh (Qn (n:=1) rfl rfl e1)) (Qh (Zh (yd (J7 (Qw rfl rfl (Qjv _ q))) (J7 (Qw rfl rfl (Qjv _ r)))) rfl) (Y7 rfl))
theorem Q8i {xs:List PV} {k:Nat} {p:PV} (h:xs[k]?=zo p) (S:Q2):oIx S (.lst xs) (.int k)=.ok p S:=by
 show okO S (atI xs (k:Int))=_;rw [Qek h]; rfl
theorem ix_tup {xs:List PV} {k:Nat} {p:PV} (h:xs[k]?=zo p) (S:Q2):oIx S (.tup xs) (.int k)=.ok p S:=by
 show okO S (atI xs (k:Int))=_;rw [Qek h]; rfl
def Vx (xs:List Str):PV:=.lst (xs.map .str)
theorem Q28 {ns:List Int} {S:Q2} {L i:Nat} (T:TapeAt S L ns) {xs:List Str} (h1:1<=xs.length) (h2:xs.length<=100) {Γ:Gam} (J:∀ st,Q4 0 Γ st=.ok (.ref L) st) (q:∀ st,Q4 i Γ st=.ok (Vx xs) st):∃ (x:Str) (j:Q2),x∈xs/\TapeAt j L ns/\Mw L S j/\(mOp oIx (Q4 i) (Qd 2 Qc (Q3 (Q4 0) (Q3 (Qz Ze (Q3 (Q4 i) Q7)) Q7)))) Γ S=.ok (.str x) j:=by
 have O:(xs.map PV.str).length=xs.length:=O3 _;obtain ⟨d,S1,hd,G,M1,e1⟩:=Jq T xs.length h1 (by omega);have z:(xs.map PV.str)[d]?=zo (.str xs[d]):=by rw [D2,O0 hd]; rfl
 refine ⟨xs[d],S1,cV hd,G,M1.w,Qw (q S) (Qn (n:=2) (Qj (J S) (Qj (X8 (Qj (q S) rfl) rfl) rfl)) rfl ?_) (Q8i z S1)⟩;show Qc [.ref L,.int ((xs.map PV.str).length:Nat)] S=_;rw [O]; exact e1
theorem Ur {x:Str} (h:Y4 x=yo):x.length<=1000000:=by
 unfold Y4 at h;simp only [E6,decide_eq_true_eq] at h;omega
def Q5a (ws:List Str) (r:PV):Prop:=∀ a b c d e ls,r=.tup [a,b,c,d,e,.tup ls]->∀ l∈ls,∃ (h:Int) (y:Str),l=.tup [.int h,.str y]/\y∈ws
theorem Qmb {ns:List Int} {S:Q2} {L n:Nat} (T:TapeAt S L ns) (a1:1<=n) (hn:n<=100) {ss ws:List Str} (s1:1<=ss.length) (s2:ss.length<=100) (s3:∀ x∈ss,Y4 x=yo) (w1:1<=ws.length) (w2:ws.length<=100) (w3:∀ x∈ws,Qvy x) :
  ∃ (r:PV) (S':Q2),Zq n r=yo/\Pl r/\Q5a ws r/\TapeAt S' L ns/\Mw L S S'/\Vu [.ref L,.int n,Vx ss,Vx ws] S=.ok r S':=by
 obtain ⟨O,S1,h1,T1,M1,e1⟩:=Jq T n a1 (by omega);obtain ⟨st,S2,h2,T2,M2,e2⟩:=Q28 (i:=2) T1 s1 s2 (Γ:=[zo (.ref L),zo (.int n),zo (Vx ss),zo (Vx ws),zo (.int O),zb,zb,zb,zb,zb,zb]) (fun _=>rfl) (fun _=>rfl);obtain ⟨wd,S3,h3,T3,M3,e3⟩:=Q28 (i:=3) T2 w1 w2 (Γ:=[zo (.ref L),zo (.int n),zo (Vx ss),zo (Vx ws),zo (.int O),zo (.str st),zb,zb,zb,zb,zb]) (fun _=>rfl) (fun _=>rfl);obtain ⟨k4,S4,h4,T4,M4,e4⟩:=Jq T3 4 (by decide) (by decide);obtain ⟨J,a3,a8⟩:∃ J,Y4 J=yo/\oIx S4 (.lst [.str "go",.str "go",.str "fall",.str wd]) (.int k4)=.ok (.str J) S4:=by
  have:k4=0\/k4=1\/k4=2\/k4=3:=by omega
  rcases this with rfl | rfl | rfl | rfl
  ·exact ⟨_,by decide +kernel,rfl⟩
  ·exact ⟨_,by decide +kernel,rfl⟩
  ·exact ⟨_,by decide +kernel,rfl⟩
  ·exact ⟨wd,(w3 wd h3).1,rfl⟩
 obtain ⟨Z,S5,h5,T5,M5,e5⟩:=Q28 (i:=2) T4 s1 s2 (Γ:=[zo (.ref L),zo (.int n),zo (Vx ss),zo (Vx ws),zo (.int O),zo (.str st),zo (.str J),zb,zb,zb,zb]) (fun _=>rfl) (fun _=>rfl);obtain ⟨U,j,h6,T6,M6,e6⟩:=Jq T5 7 (by decide) (by decide);obtain ⟨z,b1,b0⟩:∃ z:Int,(0<=z/\z<=9)/\oIx j (.lst [.int 0,.int 0,.int 0,.int 1,.int 1,.int 2,.int 9]) (.int U)=.ok (.int z) j:=by
  have:U=0\/U=1\/U=2\/U=3\/U=4\/U=5\/U=6:=by omega
  rcases this with rfl | rfl | rfl | rfl | rfl | rfl | rfl <;> exact ⟨_,by decide,rfl⟩
 have a7:=T6.add (.lst []);obtain ⟨Y,S7,h7,T7,M7,e7⟩:=Jq a7 6 (by decide) (by decide);have hM:j.length≠L:=by have:=T6.lt; omega
 have a2:j.length < (j ++ [Cell.lst []]).length:=by rw [D4]; simp
 have c7:S7[j.length]?=zo (.lst []):=by rw [M7.w.keep _ hM a2,D6 (O4 _),cB]; rfl
 obtain ⟨ct,a5,b3⟩:∃ ct:Nat,ct<=8/\oIx S7 (.lst [.int 0,.int 0,.int 1,.int 2,.int 3,.int 8]) (.int Y)=.ok (.int ct) S7:=by
  have:Y=0\/Y=1\/Y=2\/Y=3\/Y=4\/Y=5:=by omega
  rcases this with rfl | rfl | rfl | rfl | rfl | rfl
  ·exact ⟨0,by decide,rfl⟩
  ·exact ⟨0,by decide,rfl⟩
  ·exact ⟨1,by decide,rfl⟩
  ·exact ⟨2,by decide,rfl⟩
  ·exact ⟨3,by decide,rfl⟩
  ·exact ⟨8,by decide,rfl⟩
 obtain ⟨b5,S8,e8,T8,M8,ls,c8,b2,q,t8,rfl⟩:=V2 (xs:=bY ct) (fun (i:Nat)=>PV.int ((0:Int) + (i:Int)))
  (fun i Γ A=>TapeAt A L ns/\Mw L j A/\∃ ls:List PV,A[j.length]?=zo (.lst ls)/\ls.length=i/\(∀ l∈ls,(K9 n l=yo/\Pl l)/\∃ (h:Int) (y:Str),l=.tup [.int h,.str y]/\y∈ws)/\∃ t,Γ=[zo (.ref L),zo (.int n),zo (Vx ss),zo (Vx ws),zo (.int O),zo (.str st),zo (.str J),zo (.str Z),zo (.int z),zo (.ref j.length),t])
  (ga:=Qk 10) (body:=qi) (w:=[]) (fun _ _ A _=>Jr A) (fun i x Γ A hx ⟨Ti,Mi,ls,ci,G,q,t,a9⟩=>by
   subst a9;obtain ⟨d,A1,hd,TA,MA,ea⟩:=Jq Ti n a1 (by omega);obtain ⟨y,A2,hy,TB,MB,eb⟩:=Q28 (i:=3) TA w1 w2 (Γ:=[zo (.ref L),zo (.int n),zo (Vx ss),zo (Vx ws),zo (.int O),zo (.str st),zo (.str J),zo (.str Z),zo (.int z),zo (.ref j.length),zo (.int ((0:Int) + (x:Int)))]) (fun _=>rfl) (fun _=>rfl);have a4:j.length < A.length:=(O1.mp ci).1;have a6:j.length < A1.length:=D0 a4 MA.w.len;have c2:A2[j.length]?=zo (.lst ls):=by rw [MB.keep _ hM a6,MA.w.keep _ hM a4]; exact ci
   have b4:j.length < A2.length:=(O1.mp c2).1;have b6:i < ct:=by have:=(O1.mp hx).1; rwa [F0] at this
   refine ⟨_,rfl,_,A2.set j.length (.lst (ls ++ [.tup [.int d,.str y]])),Qd0 (xs:=ls) rfl (by show (match A[j.length]? with | some (.lst xs)=>zo xs | _=>zb)=_; rw [ci]) (Qj (Kg (Qj (Qn (n:=2) rfl rfl ea) (Qj eb rfl)) (by simp)) rfl) (Q98 c2 (by omega) _),TB.put hM _,⟨?_,fun t h1 h2=>?_⟩,ls ++ [.tup [.int d,.str y]],?_,by rw [D4,G]; rfl,fun l hm=>?_,_,rfl⟩
   ·rw [F7]; exact E3 Mi.len (E3 MA.w.len MB.len)
   ·rw [F2 (by omega)];exact ((Mi.trans MA.w).trans MB).keep t h1 h2
   ·rw [F3 b4]
   ·rcases E8.mp hm with hm | hm
    ·exact q l hm
    ·have:l=.tup [.int d,.str y]:=by simpa using hm
     subst this;obtain ⟨y1,y2⟩:=w3 y hy;refine ⟨⟨?_,trivial,Ur y1,trivial⟩,d,y,rfl,hy⟩;show (decide ((0:Int)<=d) && decide ((d:Int)<=n - 1) && (Y4 y && !Kw ["go", "fall"] y))=yo;rw [y1,y2];simp;omega)
  (Γ:=[zo (.ref L),zo (.int n),zo (Vx ss),zo (Vx ws),zo (.int O),zo (.str st),zo (.str J),zo (.str Z),zo (.int z),zo (.ref j.length),zb]) (st:=S7)
  ⟨T7,(Mw.add L j _).trans M7.w,[],c7,rfl,fun l G=>(nomatch G),zb,rfl⟩
 rw [F0] at b2;refine ⟨.tup [.int O,.str st,.str J,.str Z,.int z,.tup ls],S8,?_,?_,?_,T8,((((M1.w.trans M2).trans M3).trans M4.w).trans M5).trans (M6.w.trans M8),Yz ?_⟩
 ·show (decide ((0:Int)<=O) && decide ((O:Int)<=n - 1) && (Y4 st && (Y4 J && Y4 Z)) && (decide ((0:Int)<=z) && decide (z<=9) && (decide ((ls.length:Int)<=8) && ls.all (K9 n))))=yo;rw [s3 st h2,a3,s3 Z h5];simp only [E6,decide_eq_true_eq,E7];exact ⟨⟨⟨by omega,by omega⟩,trivial,trivial,trivial⟩,b1,by omega,fun l G=>(q l G).1.1⟩
 ·exact ⟨trivial,Ur (s3 st h2),Ur a3,Ur (s3 Z h5),trivial,PlL.of fun l G=>(q l G).1.2,trivial⟩
 ·intro a b c d e b7 eq l G;cases eq;exact (q l G).2
 ·show Xw [zo (.ref L),zo (.int n),zo (Vx ss),zo (Vx ws),zb,zb,zb,zb,zb,zb,zb] S=_;have a5:W0 S8 [.ref j.length]=.ok (.tup ls) S8:=by
   show (match (match S8[j.length]? with | some (.lst xs)=>zo xs | _=>zb) with | some xs=>Res.ok (PV.tup xs) S8 | none=>.stuck)=_
   rw [c8]
  exact Qh (Jh (Qn (n:=2) rfl rfl e1)) (Qh (Jh e2) (Qh (Jh (Qw (Q95 (Qj rfl (Qj rfl (Qj rfl (Qj e3 rfl)))) (by simp)) (Qn (n:=2) rfl rfl e4) a8)) (Qh (Jh e5) (Qh (Jh (Qw rfl (Qn (n:=2) rfl rfl e6) b0)) (Qh (Jh (Q2i rfl)) (Qh (U9 (rgw (n:=ct) (by omega) (Qw rfl (Qn (n:=2) rfl rfl e7) b3)) e8) (Y7 (Kg (Qj rfl (Qj rfl (Qj rfl (Qj rfl (Qj rfl (Qj (X8 rfl a5) rfl)))))) (by simp)))))))))
theorem Q0v {mo mi m:ME} {Γ:Gam} {S S1 z S3 G:Q2} {v p q:PV} (h1:m Γ S=.ok v S1) (h2:mo Γ S1=.ok p z) (J:mi Γ z=.ok q S3) (O:Q50 S3 p q v=zo G):Q0w mo mi m Γ S=.nx Γ G:=by
 unfold Q0w;rw [h1];show (mo Γ S1).sbind _=_;rw [h2];show (mi Γ z).sbind _=_;rw [J];show (match Q50 S3 p q v with | some j=>SR.nx Γ j | none=>.stuck)=_;rw [O]
def Yk (ks:List HK):List (HK × PV):=ks.map fun k=>(k,.bl yo)
theorem Qht (ks:List HK) (k:HK):Sm.putT (Yk ks) k (.bl yo)=Yk (Zf ks k):=by
 unfold Sm.putT Zf
 by_cases q:k∈ks
 ·rw [bS q,bS]
  ·unfold Yk;rw [cF];refine fN fun x _=>?_
   show (if x=k then (x,PV.bl yo) else (x,PV.bl yo))=_
   split <;> rfl
  ·unfold Yk;rw [cs,dO];exact ⟨k,q,by simp⟩
 ·rw [bT q,bT]
  ·unfold Yk; rw [E5]; rfl
  ·unfold Yk;rw [cs,dO];rintro ⟨x,j,e⟩;have:x=k:=by simpa using e
   rw [this] at j; exact q j
theorem Q16 {S:Q2} {D:Nat} {ks:List HK} (h:S[D]?=zo (.dtp (Yk ks))) (q:ks.length < 1000000) {p:PV} {k:HK} (j:Q02 p=zo k):Q50 S (.ref D) p (.bl yo)=zo (S.set D (.dtp (Yk (Zf ks k)))):=by
 have hd:zt S (.ref D)=zo (Yk ks):=by show (match S[D]? with | some (.dtp kvs)=>zo kvs | _=>zb)=_; rw [h]
 unfold Q50;simp only [hd,j];rw [bS (by unfold Yk; rw [O3]; exact q),Qht]
theorem Qd2 {ks:List HK} (h:ks.Nodup) (k:HK):(Zf ks k).Nodup:=by
 unfold Zf
 split
 ·exact h
 ·rename_i q;exact dM.mpr ⟨h,by simp,fun x j y z e=>by
   have:y=k:=by simpa using z
   rw [e,this] at j; exact q j⟩
theorem Q4a:∀ {ks acc:List HK},(acc ++ ks).Nodup->ks.foldl Zf acc=acc ++ ks
 | [],acc,_=>by simp
 | k :: ks,acc,h=>by
  rw [G7];have j:k∉acc:=fun hm=>(dM.mp h).2.2 k hm k (by simp) rfl
  have e:Zf acc k=acc ++ [k]:=by unfold Zf; rw [bT j]
  rw [e,Q4a (by rw [da]; exact h)];simp
theorem Qnh {ks:List HK} (h:ks.Nodup):Yj ks=ks:=by
 have:=Q4a (ks:=ks) (acc:=[]) (by simpa using h);simpa [Yj] using this
mutual
theorem Qje:∀ {d:Nat} {p:PV} {k:HK},yp d p=zo k->hkV k=p
 | _,.int i,_,e=>by cases j:(‹Nat›) <;> (rw [j] at e; cases e; rfl)
 | _,.str x,_,e=>by cases j:(‹Nat›) <;> (rw [j] at e; cases e; rfl)
 | 0,.tup ps,_,e=>by cases e
 | d + 1,.tup ps,k,e=>by
  have e:(Ui (yp d) ps).map HK.tup=zo k:=e;cases z:Ui (yp d) ps with
  | none=>rw [z] at e; cases e
  | some l=>
   rw [z] at e;cases e;show PV.tup (hkVL l)=_;rw [hkVL_of z]
 | 0,.non,_,e=>by cases e
 | 0,.bl _,_,e=>by cases e
 | 0,.lst _,_,e=>by cases e
 | 0,.fro _,_,e=>by cases e
 | 0,.ref _,_,e=>by cases e
 | 0,.dic,_,e=>by cases e
 | _ + 1,.non,_,e=>by cases e
 | _ + 1,.bl _,_,e=>by cases e
 | _ + 1,.lst _,_,e=>by cases e
 | _ + 1,.fro _,_,e=>by cases e
 | _ + 1,.ref _,_,e=>by cases e
 | _ + 1,.dic,_,e=>by cases e
theorem hkVL_of:∀ {d:Nat} {ps:List PV} {l:List HK},Ui (yp d) ps=zo l->hkVL l=ps
 | _,[],_,e=>by cases e; rfl
 | d,p :: ps,l,e=>by
  unfold Ui at e
  split at e
  ·rename_i k j e1 e2;cases e;show hkV k :: hkVL j=_;rw [Qje e1,hkVL_of e2]
  ·cases e
end
theorem Qxp {p:PV} {k:HK} (h:Q02 p=zo k):hkV k=p:=by
 cases p with
 | tup ps=>exact Qje (d:=5) h
 | _=>cases h
structure Man (most:Int) (starts:List Str) (rules:List PV):Prop where
 m0:0<=most
 m1:most<=20
 s1:1<=starts.length
 s4:starts.length<=4
 sw:∀ x∈starts,Y4 x=yo
 r:rules.all (Zq starts.length)=yo
 pl:∀ p∈rules,Pl p
 len:rules.length<=9
 ks:∃ ks,Ui Q02 rules=zo ks/\ks.Nodup
 ws:∃ ws:List Str,ws.length<=2/\∀ p∈rules,Q5a ws p
def Jm (most:Int) (starts:List Str) (rules:List PV):PV:=.tup [.int most,.tup (starts.map .str),.tup rules]
theorem Qa7 {ns:List Int} {S:Q2} {L i:Nat} {P:Str->Prop} {F:FN} (hF:∀ {S:Q2},TapeAt S L ns->∃ (x:Str) (j:Q2),P x/\TapeAt j L ns/\Mw L S j/\F [.ref L] S=.ok (.str x) j) (T:TapeAt S L ns) {m:Nat} (hm:m<=100) {Γ:Gam} (hG:Ym [zb,zo 0] Γ=[zb,zo (.ref L)]) (hv:Q4 i Γ S=.ok (.int m) S) :
  ∃ (xs:List Str) (j:Q2),xs.length=m/\(∀ x∈xs,P x)/\TapeAt j L ns/\Mw L S j/\Wk (Jv [zb,zo 0] (Qk 0) (Zd (Q3 (Q4 i) Q7)) Zv (Qd 1 F (Q3 (Q4 1) Q7))) Γ S=.ok (Vx xs) j:=by
 obtain ⟨q,S3,ec,Z,M3,xs,G,rfl,J⟩:=Q18 (xs:=bY m) (fun (i:Nat)=>PV.int ((0:Int) + (i:Int))) (fun i q st=>TapeAt st L ns/\Mw L S st/\∃ xs:List Str,xs.length=i/\q=xs.map PV.str/\∀ x∈xs,P x) (ga:=Qk 0) (me:=Qd 1 F (Q3 (Q4 1) Q7)) (w:=[]) (Γ0:=[zb,zo (.ref L)]) (fun _ _ st _=>Jr st)
  (fun i x q st _ ⟨Ti,O,xs,h1,h2,h3⟩=>by
   obtain ⟨y,Y,U,T4,M4,e4⟩:=hF Ti;refine ⟨_,rfl,.str y,Y,Qn (n:=1) rfl rfl e4,T4,O.trans M4,xs ++ [y],by rw [D4,h1]; rfl,by rw [h2,E5]; rfl,fun z hz=>?_⟩;rcases E8.mp hz with hz | hz
   ·exact h3 z hz
   ·have:z=y:=by simpa using hz
    rw [this]; exact U)
  ⟨T,Mw.refl L S,[],rfl,rfl,fun c hc=>nomatch hc⟩
 rw [F0] at G;exact ⟨xs,S3,G,J,Z,M3,Kf (Up (rgw (n:=m) (by omega) hv) (by rw [hG]; exact ec))⟩
theorem Qh6 {k:Nat} (j:k < 5) (S:Q2):∃ n m w t:Nat,(1<=n/\n<=4/\1<=m/\m<=3/\1<=w/\w<=2/\1<=t/\t<=21) /\
  oIx S (.lst [.tup [.int 2,.int 3,.int 2,.int 4],.tup [.int 3,.int 2,.int 1,.int 4],.tup [.int 1,.int 2,.int 1,.int 21],.tup [.int 2,.int 2,.int 1,.int 21],.tup [.int 4,.int 2,.int 1,.int 2]]) (.int k)=.ok (.tup [.int n,.int m,.int w,.int t]) S:=by
 have:k=0\/k=1\/k=2\/k=3\/k=4:=by omega
 rcases this with rfl | rfl | rfl | rfl | rfl
 ·exact ⟨2,3,2,4,by decide,rfl⟩
 ·exact ⟨3,2,1,4,by decide,rfl⟩
 ·exact ⟨1,2,1,21,by decide,rfl⟩
 ·exact ⟨2,2,1,21,by decide,rfl⟩
 ·exact ⟨4,2,1,2,by decide,rfl⟩
theorem Q67 {n:Int} {ws:List Str}:∀ {ks:List HK},(∀ k∈ks,∃ p,Q02 p=zo k/\Zq n p=yo/\Pl p/\Q5a ws p)->Ui Q02 (ks.map hkV)=zo ks/\(ks.map hkV).all (Zq n)=yo/\∀ p∈ks.map hkV,Pl p/\Q5a ws p
 | [],_=>⟨rfl,rfl,fun p h=>nomatch h⟩
 | k :: ks,h=>by
  obtain ⟨p,h1,h2,G⟩:=h k (by simp);obtain ⟨a,b,c⟩:=Q67 fun x z=>h x (O5 _ z)
  have e:=Qxp h1;refine ⟨?_,?_,fun q j=>?_⟩
  ·rw [O8,e];unfold Ui;rw [h1,a]
  ·rw [O8,cN,e,h2,b]; rfl
  ·rw [O8,e] at j;rcases D5.mp j with rfl | j
   ·exact G
   ·exact c q j
theorem Qfz {ns:List Int} {S:Q2} {L:Nat} (T:TapeAt S L ns):∃ (most:Int) (starts:List Str) (rules:List PV) (S':Q2),Man most starts rules/\TapeAt S' L ns/\Mw L S S'/\Wb [.ref L] S=.ok (Jm most starts rules) S':=by
 obtain ⟨k,S1,Y,T1,M1,e1⟩:=Jq T 5 (by decide) (by decide);obtain ⟨n,m,w,t,⟨n1,n4,m1,m3,w1,w2,t1,t2⟩,es⟩:=Qh6 Y S1;generalize hsz:PV.lst [.tup [.int 2,.int 3,.int 2,.int 4],.tup [.int 3,.int 2,.int 1,.int 4],.tup [.int 1,.int 2,.int 1,.int 21],.tup [.int 2,.int 2,.int 1,.int 21],.tup [.int 4,.int 2,.int 1,.int 2]]=sz at es;obtain ⟨ss,S2,b4,a2,T2,M2,e2⟩:=Qa7 (i:=3) Qds T1 (m:=m) (by omega) (Γ:=[zo (.ref L),zo sz,zo (.int n),zo (.int m),zo (.int w),zo (.int t),zb,zb,zb,zb,zb]) rfl rfl;obtain ⟨ws,S3,b3,a3,T3,M3,e3⟩:=Qa7 (i:=4) Q4j T2 (m:=w) (by omega) (Γ:=[zo (.ref L),zo sz,zo (.int n),zo (.int m),zo (.int w),zo (.int t),zo (Vx ss),zb,zb,zb,zb]) rfl rfl;have a5:=T3.add (.dtp []);obtain ⟨k4,S4,h4,T4,M4,e4⟩:=Jq a5 10 (by decide) (by decide);have hM:S3.length≠L:=by have:=T3.lt; omega
 have c4:S4[S3.length]?=zo (.dtp (Yk [])):=by rw [M4.w.keep _ hM (by rw [D4]; simp),D6 (O4 _),cB]; rfl
 obtain ⟨b2,S5,e5,T5,M5,ks,c5,a8,b0,q,t5,rfl⟩:=V2 (xs:=bY k4) (fun (i:Nat)=>PV.int ((0:Int) + (i:Int)))
  (fun i Γ A=>TapeAt A L ns/\Mw L S3 A/\∃ ks:List HK,A[S3.length]?=zo (.dtp (Yk ks))/\ks.length<=i/\ks.Nodup/\(∀ k∈ks,∃ p,Q02 p=zo k/\Zq n p=yo/\Pl p/\Q5a ws p)/\∃ u,Γ=[zo (.ref L),zo sz,zo (.int n),zo (.int m),zo (.int w),zo (.int t),zo (Vx ss),zo (Vx ws),zo (.ref S3.length),u,zb])
  (ga:=Qk 9) (body:=Xg) (w:=[]) (fun _ _ A _=>Jr A) (fun i x Γ A hx ⟨Ti,Mi,ks,ci,hl,nd,q,u,a7⟩=>by
   subst a7;obtain ⟨p,U,hp,pp,pw,TA,Z,ea⟩:=Qmb Ti n1 (by omega) (by omega) (by omega) a2 (by omega) (by omega) a3;obtain ⟨k,Y⟩:=Q5z hp;have O:S3.length < A.length:=(O1.mp ci).1;have c2:U[S3.length]?=zo (.dtp (Yk ks)):=by rw [Z.keep _ hM O]; exact ci
   have b1:S3.length < U.length:=(O1.mp c2).1;have b5:i < k4:=by have:=(O1.mp hx).1; rwa [F0] at this
   refine ⟨_,rfl,_,U.set S3.length (.dtp (Yk (Zf ks k))),Q0v rfl rfl (Qn (n:=4) rfl rfl ea) (Q16 c2 (by omega) Y),TA.put hM _,⟨?_,fun t h1 h2=>?_⟩,Zf ks k,?_,?_,Qd2 nd k,fun y G=>?_,_,rfl⟩
   ·rw [F7]; exact E3 Mi.len Z.len
   ·rw [F2 (by omega)];exact (Mi.trans Z).keep t h1 h2
   ·rw [F3 b1]
   ·have:(Zf ks k).length<=ks.length + 1:=by unfold Zf; split <;> simp
    omega
   ·unfold Zf at G
    split at G
    ·exact q y G
    ·rcases E8.mp G with G | G
     ·exact q y G
     ·have:y=k:=by simpa using G
      rw [this]; exact ⟨p,Y,hp,pp,pw⟩)
  (Γ:=[zo (.ref L),zo sz,zo (.int n),zo (.int m),zo (.int w),zo (.int t),zo (Vx ss),zo (Vx ws),zo (.ref S3.length),zb,zb]) (st:=S4)
  ⟨T4,(Mw.add L S3 _).trans M4.w,[],c4,O4 _,dI,fun k Y=>(nomatch Y),zb,rfl⟩
 rw [F0] at a8;obtain ⟨J,S6,e6,T6,M6,xs,a9,rfl,a4⟩:=Q18 (xs:=bY n) (fun (i:Nat)=>PV.int ((0:Int) + (i:Int))) (fun i J A=>TapeAt A L ns/\Mw L S5 A/\∃ xs:List Str,xs.length=i/\J=xs.map PV.str/\∀ x∈xs,Y4 x=yo) (ga:=Qk 0) (me:=Xe) (w:=[]) (Γ0:=[zb,zo (Vx ss),zo (.ref L),zo (.int m)]) (fun _ _ A _=>Jr A)
  (fun i x J A _ ⟨Ti,Mi,xs,h1,h2,h3⟩=>by
   obtain ⟨d,U,hd,TA,Z,ea⟩:=Jq Ti m m1 (by omega);have a1:d < ss.length:=by omega
   have hg:(ss.map PV.str)[d]?=zo (.str ss[d]):=by rw [D2,O0 a1]; rfl
   refine ⟨_,rfl,.str ss[d],U,Qw rfl (Qn (n:=2) rfl rfl ea) (Q8i hg U),TA,Mi.trans Z.w,xs ++ [ss[d]],by rw [D4,h1]; rfl,by rw [h2,E5]; rfl,fun z hz=>?_⟩;rcases E8.mp hz with hz | hz
   ·exact h3 z hz
   ·have:z=ss[d]:=by simpa using hz
    rw [this]; exact a2 _ (cV a1))
  ⟨T5,Mw.refl L S5,[],rfl,rfl,fun c hc=>(nomatch hc)⟩
 rw [F0] at a9;obtain ⟨mo,j,b6,T7,M7,e7⟩:=Jq T6 t t1 (by omega);have O:S3.length < S5.length:=(O1.mp c5).1;have c6:S6[S3.length]?=zo (.dtp (Yk ks)):=by rw [M6.keep _ hM O]; exact c5
 have c7:j[S3.length]?=zo (.dtp (Yk ks)):=by rw [M7.keep _ hM]; exact c6
 obtain ⟨q1,q2,q3⟩:=Q67 q;have hn:(n:Int)=(xs.length:Int):=by omega
 refine ⟨mo,xs,ks.map hkV,j,⟨by omega,by omega,by omega,by omega,a4,by rw [<- hn]; exact q2,fun p hp=>(q3 p hp).1,by rw [O3]; omega,⟨ks,q1,b0⟩,ws,by omega,fun p hp=>(q3 p hp).2⟩,T7,((M1.w.trans M2).trans M3).trans (M5.trans (M6.trans M7.w)),Yz ?_⟩
 show U8 [zo (.ref L),zb,zb,zb,zb,zb,zb,zb,zb,zb,zb] S=_;have a6:Qz Q93 (Q3 (Q4 8) Q7) [zo (.ref L),zo sz,zo (.int n),zo (.int m),zo (.int w),zo (.int t),zo (Vx ss),zo (Vx ws),zo (.ref S3.length),t5,zo (.tup (xs.map .str))] j=.ok (.lst (ks.map hkV)) j:=by
  refine X8 rfl ?_;have hd:zt j (.ref S3.length)=zo (Yk ks):=by show (match j[S3.length]? with | some (.dtp kvs)=>zo kvs | _=>zb)=_; rw [c7]
  show (match zt j (.ref S3.length) with | some kvs=>Res.ok (PV.lst (kvs.map fun (kv:HK × PV)=>hkV kv.1)) j | none=>.stuck)=_
  rw [hd];show Res.ok (PV.lst ((Yk ks).map fun (kv:HK × PV)=>hkV kv.1)) j=_
  unfold Yk;rw [cF];rfl
 subst hsz;exact Qh (Jh rfl) (Qh (Qkj (Qw rfl (Qn (n:=2) rfl rfl e1) es) rfl) (Qh (Jh e2) (Qh (Jh e3) (Qh (Jh rfl) (Qh (U9 (rgw (n:=k4) (by omega) (Qn (n:=2) rfl rfl e4)) e5) (Qh (Jh (X8 (Qj (Kf (Up (rgw (n:=n) (by omega) rfl) e6)) rfl) rfl)) (Y7 (Kg (Qj (Qn (n:=2) rfl rfl e7) (Qj rfl (Qj (X8 (Qj a6 rfl) rfl) rfl))) (by simp)))))))))
theorem Qrk {most:Int} {starts:List Str} {rules:List PV} (h:Man most starts rules):Pl (Jm most starts rules):=⟨trivial,PlL.of fun p hp=>by
 obtain ⟨x,j,rfl⟩:=L4.mp hp;exact Ur (h.sw x j),PlL.of h.pl,trivial⟩
theorem Qgu {xs:List Str} (h:∀ x∈xs,Y4 x=yo):(xs.map PV.str).all Y5=yo:=by
 rw [cD,E7];exact h
theorem Qrn {most:Int} {starts:List Str} {rules:List PV} (h:Man most starts rules):Ww (Jm most starts rules)=yo:=by
 obtain ⟨ks,k1,k2⟩:=h.ks;have q:(starts.map PV.str).length=starts.length:=O3 _;show (decide ((0:Int)<=most) && decide (most<=20) && ((decide ((1:Int)<=(starts.map PV.str).length) && decide (((starts.map PV.str).length:Int)<=4) && (starts.map PV.str).all Y5) && (decide ((rules.length:Int)<=60) && rules.all (Zq (starts.map PV.str).length) && Q07 rules)))=yo;have hd:Q07 rules=yo:=by
  unfold Q07;rw [k1];show decide ((Yj ks).length=rules.length)=yo;rw [Qnh k2];obtain ⟨j,e1,e2⟩:=Qe1 h.r;rw [k1] at e1;cases e1;exact bV e2
 have:=h.m0;have:=h.m1;have:=h.s1;have:=h.s4;have:=h.len;rw [q,Qgu h.sw,h.r,hd];simp;omega
structure Ru where
 h:Nat
 s:Str
 e:Str
 t:Str
 u:Int
 ms:List (Int × Str)
def ruV (r:Ru):PV:=.tup [.int r.h,.str r.s,.str r.e,.str r.t,.int r.u,.tup (r.ms.map prV)]
def stV (ss:List Str) (ls:List (Int × Str)) (u:Int):PV:=.tup [.tup (ss.map .str),.tup (ls.map prV),.int u]
def kP (p:Int × Str):HK:=.tup [.int p.1,.str p.2]
theorem Qs4 {p q:Int × Str} (h:kP p=kP q):p=q:=by
 unfold kP at h;injection h with h
 injection h with h1 h
 injection h with h2 _
 injection h1 with h1
 injection h2 with h2
 exact dZ h1 h2
def evB (e:Str):Bool:=decide (e = "go") || decide (e = "fall")
def zf (r:Ru) (ss:List Str) (ls:List (Int × Str)):Bool:=decide (ss.getD r.h cL=r.s) && (evB r.e || decide (((r.h:Int),r.e)∈ls))
theorem ixs {ss:List Str} {h:Nat} (j:h < ss.length) (S:Q2):oIx S (.tup (ss.map .str)) (.int h)=.ok (.str (ss.getD h cL)) S:=by
 refine ix_tup ?_ S;rw [D2,E2,O0 j];rfl
theorem nes (S:Q2) (a b:Str):oNe S (.str a) (.str b)=.ok (.bl (!decide (a=b))) S:=by
 show Res.ok (PV.bl (!(a == b))) S=_
 by_cases q:a=b
 ·rw [bV q,beq_iff_eq.mpr q]
 ·rw [bU q,beq_eq_false_iff_ne.mpr q]
theorem eqs (S:Q2) (a b:Str):oEq S (.str a) (.str b)=.ok (.bl (decide (a=b))) S:=by
 show Res.ok (PV.bl (a == b)) S=_
 by_cases q:a=b
 ·rw [bV q,beq_iff_eq.mpr q]
 ·rw [bU q,beq_eq_false_iff_ne.mpr q]
theorem Qq3 (p q:Int × Str):peq (prV p) (prV q)=decide (p=q):=by
 show ((p.1 == q.1) && ((p.2 == q.2) && yo))=_
 by_cases e:p=q
 ·subst e; simp
 ·rw [bU e]
  by_cases e1:p.1=q.1
  ·by_cases e2:p.2=q.2
   ·exact absurd (dZ e1 e2) e
   ·simp [e2]
  ·simp [e1]
theorem Qjb (ls:List (Int × Str)) (p:Int × Str) (S:Q2):oIn yl S (prV p) (.tup (ls.map prV))=.ok (.bl (decide (p∈ls))) S:=by
 show (if good dep (prV p)=yo/\(ls.map prV).all (good dep)=yo then Res.ok (PV.bl (((ls.map prV).any fun y=>peq y (prV p)) != yl)) S else .stuck)=_
 rw [bS ⟨rfl,by rw [cD,E7]; exact fun _ _=>rfl⟩];have:((ls.map prV).any fun y=>peq y (prV p))=decide (p∈ls):=by
  rw [cs]
  by_cases q:p∈ls
  ·rw [bV q,dO];exact ⟨p,q,by show peq (prV p) (prV p)=yo; rw [Qq3]; simp⟩
  ·rw [bU q,ft];intro x j;show ¬ peq (prV x) (prV p)=yo;rw [Qq3];intro e;have e:x=p:=by simpa using e
   rw [e] at j; exact q j
 rw [this,dk]
theorem Qij {a b:ME} {Γ:Gam} {S:Q2} {x y:Bool} (h:a Γ S=.ok (.bl x) S) (h2:b Γ S=.ok (.bl y) S):mOr a b Γ S=.ok (.bl (x || y)) S:=by
 rw [Qrp,h,Jw];cases x with
 | true=>rfl
 | false=>exact h2
theorem Qea (r:Ru) {ss:List Str} (G:r.h < ss.length) (ls:List (Int × Str)) (u:Int) (S:Q2):Ye [ruV r,stV ss ls u] S=.ok (.bl (zf r ss ls)) S:=by
 refine Q0m ?_;show Vq [zo (ruV r),zo (stV ss ls u)] S=_;have h1:=ixs G S;have j:=nes S (ss.getD r.h cL) r.s;unfold Vq
 by_cases q:ss.getD r.h cL=r.s
 ·rw [bV q] at j;have z:zf r ss ls=(decide (r.e = "go") || (decide (r.e = "fall") || decide (((r.h:Int),r.e)∈ls))):=by
   unfold zf evB; rw [bV q,dm,Bool.or_assoc]
  rw [z];exact Qh (Zh (J7 (Qw (Qw rfl rfl h1) rfl j)) rfl) (Y7 (Qij (Qw rfl rfl (eqs S r.e "go")) (Qij (Qw rfl rfl (eqs S r.e "fall")) (Qw rfl rfl (Qjb ls ((r.h:Int),r.e) S)))))
 ·rw [bU q] at j;have z:zf r ss ls=yl:=by unfold zf; rw [bU q,F9]
  rw [z];exact Q2u (Kv (J7 (Qw (Qw rfl rfl h1) rfl j)) rfl)
theorem Xd (S:Q2) (c:Cell):(S ++ [c])[S.length]?=zo c:=by rw [D6 (O4 _),cB]; rfl
theorem Qvu (S:Q2) {a b:List PV} (h:a.length + b.length<=1000000):Zt S (.lst a) (.lst b)=.ok (.lst (a ++ b)) S:=bS (show _<=lim from h)
theorem Qkm (S:Q2) {a b:List PV} (h:a.length + b.length<=1000000):Zt S (.tup a) (.tup b)=.ok (.tup (a ++ b)) S:=bS (show _<=lim from h)
theorem Qm5 {S:Q2} {n k:Nat} {xs:List PV} (h:S[n]?=zo (.lst xs)) (j:k < xs.length) (v:PV):qb S (.ref n) (.int k) v=zo (S.set n (.lst (xs.set k v))):=by
 unfold qb;simp only [h];rw [Qnz j];rfl
theorem Qen (acc:List (Int × Str)) (p:Int × Str):Zf (acc.map kP) (kP p)=(Zf acc p).map kP:=by
 unfold Zf
 by_cases q:p∈acc
 ·rw [bS q,bS (L4.mpr ⟨p,q,rfl⟩)]
 ·rw [bT q,bT,E5]
  ·rfl
  ·intro h;obtain ⟨x,j,e⟩:=L4.mp h;rw [Qs4 e] at j; exact q j
theorem Qb4 {α:Type} [DecidableEq α] (acc:List α) (p:α):(Zf acc p).length<=acc.length + 1:=by unfold Zf; split <;> simp
theorem Q5x {D:Nat} {x0 x1 x2:Option PV}:∀ (ps acc:List (Int × Str)) (S:Q2) (a:Option PV),S[D]?=zo (.dtp (Yk (acc.map kP)))->acc.length + ps.length < 1000 ->
  ∃ z,Wm (Qk 4) Ub [] (ps.map prV) [x0,x1,x2,zo (.ref D),a] S=.nx [x0,x1,x2,zo (.ref D),z] (S.set D (.dtp (Yk ((ps.foldl Zf acc).map kP))))
 | [],acc,S,a,h,_=>⟨a,by
  have J:=(O1.mp h).1;have:S.set D (.dtp (Yk (acc.map kP)))=S:=by
   apply dB;intro i
   by_cases q:D=i
   ·subst q; rw [F3 J,h]
   ·rw [F2 q]
  simp [Wm,this]⟩
 | p :: ps,acc,S,a,h,O=>by
  rw [D7] at O;have J:=(O1.mp h).1;have j:=Q16 h (by rw [O3]; omega) (p:=prV p) (k:=kP p) rfl;rw [Qen] at j;have G:Ub [x0,x1,x2,zo (.ref D),zo (prV p)] S=.nx [x0,x1,x2,zo (.ref D),zo (prV p)] (S.set D (.dtp (Yk ((Zf acc p).map kP)))):=Q0v rfl rfl rfl j;obtain ⟨z,e⟩:=Q5x ps (Zf acc p) (S.set D (.dtp (Yk ((Zf acc p).map kP)))) (zo (prV p)) (F3 J) (by have:=Qb4 acc p; omega);refine ⟨z,?_⟩;rw [List.set_set] at e;rw [O8,G7,<- e];simp [Wm,G]
def lsT (ls ms:List (Int × Str)):List (Int × Str):=Ud (Yj (ls ++ ms))
theorem Q6b (ps:List (Int × Str)):Q6c (Yk (ps.map kP))=zo ps:=by
 induction ps with
 | nil=>rfl
 | cons p ps j=>
  show (match Qcf (kP p),Q6c (Yk (ps.map kP)) with | some p,zo l=>zo (p :: l) | _,_=>zb)=_
  rw [j];rfl
theorem Kh (ss:List Str) (ls:List (Int × Str)) (u:Int):good 12 (stV ss ls u)=yo:=by
 show ((ss.map PV.str).all (good 10) && ((ls.map prV).all (good 10) && (yo && yo)))=yo;have h1:(ss.map PV.str).all (good 10)=yo:=by rw [cD,E7]; exact fun _ _=>rfl
 have h2:(ls.map prV).all (good 10)=yo:=by rw [cD,E7]; exact fun _ _=>rfl
 rw [h1,h2];rfl
theorem Qda (r:Ru) {ss:List Str} (hh:r.h < ss.length) {ls:List (Int × Str)} (hl:ls.length + r.ms.length < 64) (u:Int) (S:Q2):Zz [ruV r,stV ss ls u] S=.ok (stV (ss.set r.h r.t) (lsT ls r.ms) (u + r.u)) S:=by
 have c1:(S ++ [Cell.lst (ss.map .str)])[S.length]?=zo (.lst (ss.map .str)):=Xd _ _;have hs:=Qm5 c1 (k:=r.h) (by rw [O3]; exact hh) (.str r.t);have e1:(S ++ [Cell.lst (ss.map PV.str)]).set S.length (.lst ((ss.map PV.str).set r.h (.str r.t)))=S ++ [Cell.lst ((ss.set r.h r.t).map PV.str)]:=by
  rw [dl _ _ (O4 _),cB,List.map_set];rfl
 rw [e1] at hs;obtain ⟨j,G⟩:∃ j,S ++ [Cell.lst ((ss.set r.h r.t).map PV.str)]=j:=⟨_,rfl⟩;rw [G] at hs;have U:(j ++ [Cell.dtp []])[j.length]?=zo (.dtp (Yk (([]:List (Int × Str)).map kP))):=Xd _ _;have O:(ls ++ r.ms).length < 64:=by rw [D4]; exact hl
 obtain ⟨a',e2⟩:=Q5x (x0:=zo (ruV r)) (x1:=zo (stV ss ls u)) (x2:=zo (.ref S.length)) (ls ++ r.ms) [] (j ++ [Cell.dtp []]) zb U (by simp only [cj]; omega);have e3:(j ++ [Cell.dtp []]).set j.length (.dtp (Yk (((ls ++ r.ms).foldl Zf []).map kP)))=j ++ [Cell.dtp (Yk ((Yj (ls ++ r.ms)).map kP))]:=by
  rw [dl _ _ (O4 _),cB];rfl
 rw [e3] at e2;have Y:=xx (ls ++ r.ms);obtain ⟨q,z⟩:∃ q,j ++ [Cell.dtp (Yk ((Yj (ls ++ r.ms)).map kP))]=q:=⟨_,rfl⟩;rw [z] at e2;have Z:zt q (.ref j.length)=zo (Yk ((Yj (ls ++ r.ms)).map kP)):=by
  have:q[j.length]?=zo (.dtp (Yk ((Yj (ls ++ r.ms)).map kP))):=by rw [<- z]; exact Xd _ _
  show (match q[j.length]? with | some (.dtp kvs)=>zo kvs | _=>zb)=_
  rw [this]
 have s4:jk q [.ref j.length]=.ok (.lst ((lsT ls r.ms).map prV)) q:=by
  unfold jk;simp only [Z,Q6b];rw [bS (by omega)];rfl
 have t4:W0 q [.ref S.length]=.ok (.tup ((ss.set r.h r.t).map .str)) q:=by
  have:q[S.length]?=zo (.lst ((ss.set r.h r.t).map .str)):=by
   rw [<- z,<- G,D3 (by simp)];exact Xd _ _
  show (match (match q[S.length]? with | some (.lst xs)=>zo xs | _=>zb) with | some xs=>Res.ok (PV.tup xs) q | none=>.stuck)=_
  rw [this]
 have J:Zt (j ++ [Cell.dtp []]) (.tup (ls.map prV)) (.tup (r.ms.map prV))=.ok (.tup ((ls ++ r.ms).map prV)) (j ++ [Cell.dtp []]):=by
  rw [Qkm _ (by rw [O3,O3]; omega),E5]
 have st:Vn [zo (ruV r),zo (stV ss ls u),zb,zb,zb] S=.rt (stV (ss.set r.h r.t) (lsT ls r.ms) (u + r.u)) q:=by
  unfold Vn;refine Qh (Jh (Q2i (ps:=ss.map .str) rfl)) ?_;refine Qh (Qqp rfl rfl rfl hs) ?_;refine Qh (Jh rfl) ?_;refine Qh (U9 (xb (Qw rfl rfl J) rfl (by rw [O3]; omega)) e2) ?_;exact Y7 (Kg (Qj (X8 rfl t4) (Qj (X8 (Qj (X8 rfl s4) rfl) rfl) (Qj (Qw rfl rfl (Qpq q u r.u)) rfl))) (by simp))
 have:=Ke (nl:=5) (ps:=[ruV r,stV ss ls u]) st;unfold Zz;rw [this,<- z,<- G,da];exact Q6k (Kh _ _ _)
theorem Q65 {α:Type} [DecidableEq α]:∀ {l m:List α},l.Nodup->(∀ x∈l,x∈m)->l.length<=m.length
 | [],_,_,_=>G9 _
 | a :: l,m,h,hs=>by
  obtain ⟨h1,h2⟩:=dX.mp h;have j:=hs a (by simp);have:=Q65 (m:=m.erase a) h2 fun x q=>(iG (show x≠a from fun e=>h1 (by rw [<- e]; exact q))).mpr (hs x (O5 _ q))
  rw [iF j] at this;have:=iE j;rw [D7];omega
theorem mem_addK {α:Type} [DecidableEq α] {acc:List α} {p x:α}:x∈Zf acc p <-> x∈acc\/x=p:=by
 unfold Zf
 split
 ·rename_i q;exact ⟨.inl,fun h=>h.elim id (fun e=>e ▸ q)⟩
 ·simp
theorem Qaa {α:Type} [DecidableEq α] {x:α}:∀ {ps acc:List α},x∈ps.foldl Zf acc <-> x∈acc\/x∈ps
 | [],acc=>by simp
 | p :: ps,acc=>by
  rw [G7,Qaa,mem_addK,D5];constructor
  ·rintro ((h | h) | h)
   ·exact .inl h
   ·exact .inr (.inl h)
   ·exact .inr (.inr h)
  ·rintro (h | h | h)
   ·exact .inl (.inl h)
   ·exact .inl (.inr h)
   ·exact .inr h
theorem Qep {α:Type} [DecidableEq α] {ks:List α} (h:ks.Nodup) (k:α):(Zf ks k).Nodup:=by
 unfold Zf
 split
 ·exact h
 ·rename_i q;exact dM.mpr ⟨h,by simp,fun x j y z e=>by
   have:y=k:=by simpa using z
   rw [e,this] at j; exact q j⟩
theorem Qe9 {α:Type} [DecidableEq α]:∀ {ps acc:List α},acc.Nodup->(ps.foldl Zf acc).Nodup
 | [],_,h=>h
 | p :: ps,_,h=>by rw [G7]; exact Qe9 (Qep h p)
theorem mem_lsT {ls ms:List (Int × Str)} {x:Int × Str}:x∈lsT ls ms <-> x∈ls\/x∈ms:=by
 unfold lsT;rw [(Yr _).mem_iff];unfold Yj;rw [Qaa,E8];simp
def InW (ws:List Str) (p:Int × Str):Prop:=0<=p.1/\p.1 < 4/\p.2∈ws
structure StI (n:Nat) (ws:List Str) (ss:List Str) (ls:List (Int × Str)):Prop where
 len:ss.length=n
 nd:ls.Nodup
 sub:∀ p∈ls,InW ws p
structure RuI (n:Nat) (ws:List Str) (r:Ru):Prop where
 h:r.h < n
 ms:r.ms.length<=8
 sub:∀ p∈r.ms,InW ws p
structure MI1 (starts:List Str) (rs:List Ru) (ws:List Str):Prop where
 w2:ws.length<=2
 ru:∀ r∈rs,RuI starts.length ws r
 len:rs.length<=9
theorem Qdy {n:Nat} (z:n<=4) {ws:List Str}:∀ {ls:List PV},(∀ l∈ls,K9 n l=yo)->(∀ l∈ls,∃ (h:Int) (y:Str),l=.tup [.int h,.str y]/\y∈ws)->∃ ms:List (Int × Str),ls=ms.map prV/\∀ p∈ms,InW ws p
 | [],_,_=>⟨[],rfl,fun p hp=>nomatch hp⟩
 | l :: ls,h1,h2=>by
  obtain ⟨ms,e,hm⟩:=Qdy z (fun x j=>h1 x (O5 _ j)) (fun x j=>h2 x (O5 _ j))
  obtain ⟨x,s,e1,x0,x1,_⟩:=Qdz (h1 l (by simp));obtain ⟨h,y,e2,q⟩:=h2 l (by simp);rw [e1] at e2;cases e2;refine ⟨(x,s) :: ms,by rw [O8,<- e,e1]; rfl,fun p hp=>?_⟩;rcases D5.mp hp with rfl | hp
  ·exact ⟨x0,by show x < 4; omega,q⟩
  ·exact hm p hp
theorem Qmc {n:Nat} (G:n<=4) {ws:List Str} {p:PV} (h:Zq n p=yo) (J:Q5a ws p):∃ r,p=ruV r/\RuI n ws r:=by
 obtain ⟨x,s,e,t,u,ls,rfl,x0,x1,_,_,_,_,_,z,q⟩:=Q3c h;obtain ⟨ms,rfl,j⟩:=Qdy G q (J _ _ _ _ _ ls rfl);refine ⟨⟨x.toNat,s,e,t,u,ms⟩,?_,⟨by show x.toNat < n; omega,by rw [O3] at z; exact z,j⟩⟩;show _=PV.tup [.int (x.toNat:Nat),.str s,.str e,.str t,.int u,.tup (ms.map prV)];rw [fQ x0]
theorem Q9m {n:Nat} (z:n<=4) {ws:List Str}:∀ {rules:List PV},(∀ p∈rules,Zq n p=yo/\Q5a ws p)->∃ rs:List Ru,rules=rs.map ruV/\∀ r∈rs,RuI n ws r
 | [],_=>⟨[],rfl,fun r q=>nomatch q⟩
 | p :: rules,h=>by
  obtain ⟨rs,e,q⟩:=Q9m z fun x j=>h x (O5 _ j)
  obtain ⟨r,e1,h1⟩:=Qmc z (h p (by simp)).1 (h p (by simp)).2;refine ⟨r :: rs,by rw [O8,<- e,e1],fun x j=>?_⟩;rcases D5.mp j with rfl | j
  ·exact h1
  ·exact q x j
theorem Qrm {most:Int} {starts:List Str} {rules:List PV} (h:Man most starts rules):∃ rs ws,rules=rs.map ruV/\MI1 starts rs ws:=by
 obtain ⟨ws,w2,q⟩:=h.ws;obtain ⟨rs,e,j⟩:=Q9m h.s4 (rules:=rules) fun p hp=>⟨E7.mp h.r p hp,q p hp⟩
 exact ⟨rs,ws,e,w2,j,by have:=h.len; rw [e,O3] at this; exact this⟩
theorem Qnj (r:Ru) {ss:List Str} (G:r.h < ss.length) (ls:List (Int × Str)) (u:Int) (S:Q2):Vt [ruV r,stV ss ls u] S=.ok (.bl (zf r ss ls)) S:=by
 refine Q0m ?_;show Vk [zo (ruV r),zo (stV ss ls u)] S=_;have h1:=ixs G S;have j:=nes S (ss.getD r.h cL) r.s;have z:Qag yl ["go", "fall"] (mOp oIx (Q4 0) (mC (.int 2))) [zo (ruV r),zo (stV ss ls u)] S=.ok (.bl (evB r.e)) S:=by
  rw [Qjc (x:=r.e) (S1:=S) rfl];congr 2;rw [dk];show (decide ("go" = r.e) || (decide ("fall" = r.e) || false))=_;unfold evB;rw [eG];congr 1 <;> exact decide_eq_decide.mpr eq_comm
 unfold Vk zf
 by_cases q:ss.getD r.h cL=r.s
 ·rw [bV q] at j ⊢;rw [dm];exact Qh (Zh (J7 (Qw (Qw rfl rfl h1) rfl j)) rfl) (Y7 (Qij z (Qw rfl rfl (Qjb ls ((r.h:Int),r.e) S))))
 ·rw [bU q] at j ⊢;rw [F9];exact Q2u (Kv (J7 (Qw (Qw rfl rfl h1) rfl j)) rfl)
theorem Qms (ns:List (Int × Str)):Q9w (ns.map prV)=zo ns:=by
 induction ns with
 | nil=>rfl
 | cons p ns j=>show (Q9w (ns.map prV)).map ((p.1,p.2) :: ·)=_; rw [j]; rfl
theorem Qh7 {α:Type} (l:List α) {h:Nat} (j:h < l.length) (x:α):l.take h ++ [x] ++ l.drop (h + 1)=l.set h x:=by
 rw [List.set_eq_take_append_cons_drop,bS j];simp
theorem Qbr (r:Ru) {ss:List Str} (j:r.h < ss.length) (Z:ss.length<=100) {ls:List (Int × Str)} (O:ls.length + r.ms.length < 64) (u:Int) (S:Q2):W1 [ruV r,stV ss ls u] S=.ok (stV (ss.set r.h r.t) (lsT ls r.ms) (u + r.u)) S:=by
 have st:Wx [zo (ruV r),zo (stV ss ls u),zb] S=.rt (stV (ss.set r.h r.t) (lsT ls r.ms) (u + r.u)) S:=by
  unfold Wx;have k1:mSl (mOp oIx (Q4 1) (mC (.int 0))) jy (Q1g (mOp oIx (Q4 0) (mC (.int 0)))) [zo (ruV r),zo (stV ss ls u),zb] S=.ok (.tup ((ss.take r.h).map .str)) S:=by
   show Res.ok (PV.tup (cut (ss.map PV.str) zb (zo (r.h:Int)))) S=_;rw [Qgi,iN]
  have k2:mSl (mOp oIx (Q4 1) (mC (.int 0))) (Q1g (mOp Zt (mOp oIx (Q4 0) (mC (.int 0))) (mC (.int 1)))) jy [zo (ruV r),zo (stV ss ls u),zb] S=.ok (.tup ((ss.drop (r.h + 1)).map .str)) S:=by
   show Res.ok (PV.tup (cut (ss.map PV.str) (zo ((r.h:Int) + 1)) zb)) S=_;rw [show ((r.h:Int) + 1)=((r.h + 1:Nat):Int) by push_cast; rfl,Qk7,iO]
  have U:((ss.take r.h).map PV.str).length<=100:=by rw [O3,cY]; omega
  have Y:((ss.drop (r.h + 1)).map PV.str).length<=100:=by rw [O3,cy]; omega
  have J:Zt S (.tup ((ss.take r.h).map .str)) (.tup [.str r.t])=.ok (.tup ((ss.take r.h ++ [r.t]).map .str)) S:=by rw [Qkm S (by simp; omega),E5]; rfl
  have G:Zt S (.tup ((ss.take r.h ++ [r.t]).map .str)) (.tup ((ss.drop (r.h + 1)).map .str))=.ok (.tup ((ss.set r.h r.t).map .str)) S:=by
   rw [Qkm S (by rw [E5,D4]; simp; omega),<- E5,Qh7 ss j]
  have q:Zt S (.tup (ls.map prV)) (.tup (r.ms.map prV))=.ok (.tup ((ls ++ r.ms).map prV)) S:=by
   rw [Qkm S (by rw [O3,O3]; omega),E5]
  have z:jx (mOp Zt (mOp oIx (Q4 1) (mC (.int 1))) (mOp oIx (Q4 0) (mC (.int 5)))) [zo (ruV r),zo (stV ss ls u),zo (.tup ((ss.set r.h r.t).map .str))] S=.ok (.lst ((lsT ls r.ms).map prV)) S:=by
   unfold jx;rw [Qw rfl rfl q,Jw];show (match Q9w ((ls ++ r.ms).map prV) with | some ns=>if ns.length < 64 then Res.ok (PV.lst ((Ud (Yj ns)).map prV)) S else .stuck | none=>.stuck)=_
   rw [Qms];show (if (ls ++ r.ms).length < 64 then _ else _)=_;rw [bS (by rw [D4]; exact O)];rfl
  exact Qh (Jh (Qw (Qw k1 rfl J) k2 G)) (Y7 (Kg (Qj rfl (Qj (X8 (Qj z rfl) rfl) (Qj (Qw rfl rfl (Qpq S u r.u)) rfl))) (by simp)))
 have:=Ke (nl:=3) (ps:=[ruV r,stV ss ls u]) st;unfold W1;rw [this];exact Q4w (Kh _ _ _)
def Q8z (rs:List Ru) (ss:List Str) (ls:List (Int × Str)):List (Ru × Nat):=rs.zipIdx.filter fun p=>zf p.1 ss ls
def nV (p:Ru × Nat):PV:=.int (p.2:Int)
def Vh (rs:List Ru) (ss:List Str) (ls:List (Int × Str)):List PV:=(Q8z rs ss ls).map nV
theorem Qk0:∀ (rs:List Ru) (n:Nat),Ue n (rs.map ruV)=(rs.zipIdx n).map fun p=>.tup [.int (p.2:Int),ruV p.1]
 | [],_=>rfl
 | r :: rs,n=>by rw [O8,List.zipIdx_cons,O8,<- Qk0 rs (n + 1)]; rfl
theorem Qd5 {rs:List Ru} {p:Ru × Nat} (h:p∈rs.zipIdx):rs[p.2]?=zo p.1:=List.mem_zipIdx_iff_getElem?.mp h
theorem Q29 {most:Int} {starts:List Str} {rules:List PV} (h:Man most starts rules) (S:Q2):J1 [Jm most starts rules] S=.ok .non S:=by
 have hm:=Qad (Qrk h) S;rw [Qrn h] at hm;have st:W8 [zo (Jm most starts rules)] S=.nx [zo (Jm most starts rules)] S:=Zh (Wd (J7 (Qn (n:=1) rfl rfl hm))) rfl;unfold J1 Qs;show (match W8 [zo (Jm most starts rules)] S with | .rt v st'=>fin S v st' | .nx _ st'=>fin S .non st' | .exc x st'=>Q8v S x st' | _=>.stuck)=_
 rw [st];exact Qp7 S
theorem Qiu {p:PV} (hp:Pl p) (h:Ww p=yl) (S:Q2):J1 [p] S=.exc ⟨"NoManner",zb⟩ S:=by
 have hm:=Qad hp S;rw [h] at hm;refine Uq ?_;show W8 [zo p] S=_;exact Kv (Wd (J7 (Qn (n:=1) rfl rfl hm))) rfl
section
variable {most:Int} {starts ws:List Str} {rs:List Ru} (M:MI1 starts rs ws) (h:Man most starts (rs.map ruV)) {ss:List Str} (hs:ss.length=starts.length) (ls:List (Int × Str)) (u:Int) (S:Q2)
include M hs
theorem yg:Z2 [Jm most starts (rs.map ruV),stV ss ls u] S=.ok (.ref S.length) (S ++ [.lst (Vh rs ss ls)]):=by
 refine Yz ?_;show We [zo (Jm most starts (rs.map ruV)),zo (stV ss ls u)] S=_;have q:Zc (Q4u (V1 (Qk 0) (V1 (Qk 1) Q4v))) Vw U0 [] [zb,zb,zo (stV ss ls u)] (Ue 0 (rs.map ruV)) S=.ok (Vh rs ss ls) S:=by
  rw [Qk0];exact Q17 (fun p:Ru × Nat=>.tup [.int (p.2:Int),ruV p.1]) nV (fun p=>zf p.1 ss ls) (Jr _) fun p hp=>⟨_,rfl,J7 (Qn (n:=2) rfl rfl (Qnj p.1 (by rw [hs]; exact (M.ru _ (D9 (Qd5 hp))).h) ls u S)),fun _=>rfl⟩
 have j:Qah (Q3 (mOp oIx (Q4 0) (mC (.int 2))) Q7) [zo (Jm most starts (rs.map ruV)),zo (stV ss ls u)] S=.ok (Ue 0 (rs.map ruV),[]) S:=by
  show (if (rs.map ruV).length<=lim then Res.ok (Ue 0 (rs.map ruV),([]:Wt)) S else .stuck)=_;exact bS (by rw [O3,X4]; have:=M.len; omega)
 exact Y7 (Q2i (Up j q))
include h
theorem Qfy:U2 [Jm most starts (rs.map ruV),stV ss ls u] S=.ok (.ref S.length) (S ++ [.lst (Vh rs ss ls)]):=
 Yz (show xy [zo (Jm most starts (rs.map ruV)),zo (stV ss ls u)] S=_ from Qh (Q8w (Qn (n:=1) rfl rfl (Q29 h S))) (Y7 (Qn (n:=2) rfl rfl (yg M hs ls u S))))
omit M h hs in
theorem Qcj (ks:List (Ru × Nat)) (x:Int) {S:Q2} {q:PV} (z:Wq S q=zo (ks.map nV)) (j:Bool):oIn j S (.int x) q=.ok (.bl ((ks.any fun p=>(p.2:Int) == x) != j)) S:=by
 unfold oIn;rw [z];show (if good dep (PV.int x)=yo/\(ks.map nV).all (good dep)=yo then Res.ok (PV.bl (((ks.map nV).any fun y=>peq y (.int x)) != j)) S else .stuck)=_
 rw [bS ⟨rfl,by rw [cD,E7]; exact fun _ _=>rfl⟩,cs];rfl
omit M h hs in
theorem Qki (ks:List PV):Wq (S ++ [Cell.lst ks]) (.ref S.length)=zo ks:=by
 show (match (S ++ [Cell.lst ks])[S.length]? with | some (.lst xs)=>zo xs | _=>zb)=_
 rw [Xd]
theorem Qgr {k:Nat} {r:Ru} (hz:(r,k)∈Q8z rs ss ls) (U:ls.length + 8 < 64):W9 [Jm most starts (rs.map ruV),stV ss ls u,.int k] S=.ok (stV (ss.set r.h r.t) (lsT ls r.ms) (u + r.u)) S:=by
 have z:=dR.mp hz;have G:=Qd5 z.1;have J:=M.ru r (D9 G);have q:((Q8z rs ss ls).any fun p=>(p.2:Int) == (k:Int))=yo:=dO.mpr ⟨_,hz,by simp⟩
 have j:=Qcj (Q8z rs ss ls) (k:Int) (Qki S (Vh rs ss ls)) yo;rw [q] at j;have:=J.ms;have:=h.s4;have O:=Qbr r (ss:=ss) (by rw [hs]; exact J.h) (by omega) (ls:=ls) (by omega) u (S ++ [.lst (Vh rs ss ls)]);have st:K7 [zo (Jm most starts (rs.map ruV)),zo (stV ss ls u),zo (.int k)] S=.rt (stV (ss.set r.h r.t) (lsT ls r.ms) (u + r.u)) (S ++ [.lst (Vh rs ss ls)]):=
  Qh (Q8w (Qn (n:=1) rfl rfl (Q29 h S))) (Qh (Zh (J7 (Qw rfl (Qn (n:=2) rfl rfl (yg M hs ls u S)) j)) rfl) (Y7 (Qn (n:=2) (Qj (Qw rfl rfl (ix_tup (by rw [D2,G]; rfl) _)) rfl) rfl O)))
 have:=Ke (nl:=3) (ps:=[Jm most starts (rs.map ruV),stV ss ls u,.int k]) st;unfold W9;rw [this];exact Q6k (Kh _ _ _)
theorem Qcx {x:Int} (hz:((Q8z rs ss ls).any fun p=>(p.2:Int) == x)=yl):W9 [Jm most starts (rs.map ruV),stV ss ls u,.int x] S=.exc ⟨"NoDeed",zb⟩ S:=by
 have j:=Qcj (Q8z rs ss ls) x (Qki S (Vh rs ss ls)) yo;rw [hz] at j;have st:K7 [zo (Jm most starts (rs.map ruV)),zo (stV ss ls u),zo (.int x)] S=.exc ⟨"NoDeed",zb⟩ (S ++ [.lst (Vh rs ss ls)]):=
  Qh (Q8w (Qn (n:=1) rfl rfl (Q29 h S))) (Ut (Kv (J7 (Qw rfl (Qn (n:=2) rfl rfl (yg M hs ls u S)) j)) rfl))
 unfold W9 Qs;show (match K7 [zo (Jm most starts (rs.map ruV)),zo (stV ss ls u),zo (.int x)] S with | .rt v st'=>fin S v st' | .nx _ st'=>fin S .non st' | .exc x st'=>Q8v S x st' | _=>.stuck)=_
 rw [st];show Q8v S ⟨"NoDeed",zb⟩ (S ++ [.lst (Vh rs ss ls)])=_;unfold Q8v;rw [bS (eX _ _)]
omit M hs in
theorem Qju:Z4 [Jm most starts (rs.map ruV)] S=.ok (stV starts [] 0) S:=by
 have j:W2 [Jm most starts (rs.map ruV)] S=.ok (stV starts [] 0) S:=by
  have st:jf [zo (Jm most starts (rs.map ruV))] S=.rt (stV starts [] 0) S:=rfl;have:=Ke (nl:=1) (ps:=[Jm most starts (rs.map ruV)]) st;unfold W2;rw [this];exact Q4w (Kh _ _ _)
 have st:Vm [zo (Jm most starts (rs.map ruV))] S=.rt (stV starts [] 0) S:=Qh (Q8w (Qn (n:=1) rfl rfl (Q29 h S))) (Y7 (Qn (n:=1) rfl rfl j));have:=Ke (nl:=1) (ps:=[Jm most starts (rs.map ruV)]) st;unfold Z4;rw [this];exact Q4w (Kh _ _ _)
omit M h in
theorem Q1i (h4:ss.length<=1000) (Z:ls.length<=1000) (rules:List PV):Za [Jm most starts rules,stV ss ls u] S=.ok (.bl yo) S:=by
 refine Q0m ?_;show Wz [zo (Jm most starts rules),zo (stV ss ls u),zb] S=_;have q:((ss.map PV.str).length:Int)=((starts.map PV.str).length:Int):=by rw [O3,O3,hs]
 have z:oNe S (.int ((ss.map PV.str).length:Nat)) (.int ((starts.map PV.str).length:Nat))=.ok (.bl yl) S:=by rw [q]; exact Qit S _
 have U:Zc (Qk 0) Zv W7 [] [zb] (ss.map .str) S=.ok (((ss.map PV.str).map fun _=>yo).map .bl) S:=Qb3 fun p hp=>by
  obtain ⟨x,_,rfl⟩:=L4.mp hp;exact ⟨_,rfl,rfl⟩
 obtain ⟨J,Y,e,O,a,rfl⟩:=V2 (xs:=ls) prV (fun _ Γ A=>A=S/\∃ a,Γ=[zo (Jm most starts rules),zo (stV ss ls u),a]) (ga:=Qk 2) (body:=Uf) (w:=[]) (fun _ _ A _=>Jr A) (fun i x Γ A _ ⟨e1,a,e2⟩=>by
   subst e1 e2;exact ⟨_,rfl,_,A,Qh (Zh (yd (Wd (b:=yo) rfl) (yd (J7 (Qw rfl rfl (Qit A 2))) (Wd (b:=yo) rfl))) rfl) (Zh (yd (Wd (b:=yo) rfl) rfl) rfl),rfl,_,rfl⟩)
  (Γ:=[zo (Jm most starts rules),zo (stV ss ls u),zb]) (st:=S) ⟨rfl,zb,rfl⟩
 rw [O] at e;have j:Qz (zg fun ns=>.bl (ns.all id)) (Q3 (Wk (Jv [zb] (Qk 0) (Uk (mOp oIx (Q4 1) (mC (.int 0)))) Zv W7)) Q7) [zo (Jm most starts rules),zo (stV ss ls u),zb] S=.ok (.bl yo) S:=by
  refine X8 (Qj (Kf (Up (xb rfl rfl (by rw [O3]; omega)) U)) rfl) ?_;have G:(((ss.map PV.str).map fun _=>yo)).all id=yo:=by rw [Q0e,E7]; exact fun _ _=>rfl
  generalize (ss.map PV.str).map (fun _=>yo)=bs at *;simp -implicitDefEqProofs [G]
 exact Qh (Zh (yd (Wd (b:=yo) rfl) (yd (J7 (Qw rfl rfl (Qit S 3))) (Wd (b:=yo) rfl))) rfl) (Qh (Zh (yd (J7 (Qw rfl rfl z)) (Wd (b:=yo) (J7 j))) rfl) (Qh (Zh (yd (Wd (b:=yo) rfl) (yd (Wd (b:=yo) rfl) rfl)) rfl) (Qh (U9 (xb rfl rfl (by rw [O3]; omega)) e) (Y7 rfl))))
end
def rPr (r:Ru):Int × Str:=((r.h:Int),r.e)
structure StJ (n:Nat) (ws:List Str) (rs:List Ru) (ss:List Str) (ls:List (Int × Str)):Prop where
 len:ss.length=n
 nd:ls.Nodup
 sub:∀ p∈ls,InW ws p\/p∈rs.map rPr
theorem StJ.small {n:Nat} {ws ss:List Str} {rs:List Ru} {ls:List (Int × Str)} (I:StJ n ws rs ss ls) (G:ws.length<=2) (z:rs.length<=9):ls.length<=17:=by
 have h:=Q65 (m:=(ws.map fun w=>(0,w)) ++ (ws.map fun w=>(1,w)) ++ (ws.map fun w=>(2,w)) ++ (ws.map fun w=>((3:Int),w)) ++ rs.map rPr) I.nd fun p hp=>by
  rcases I.sub p hp with ⟨h1,h2,j⟩ | q
  ·have:p.1=0\/p.1=1\/p.1=2\/p.1=3:=by omega
   obtain ⟨a,b⟩:=p;refine G6 _ ?_;simp only [E8,L4,Prod.mk.injEq];rcases this with e | e | e | e
   ·exact .inl (.inl (.inl ⟨b,j,e.symm,rfl⟩))
   ·exact .inl (.inl (.inr ⟨b,j,e.symm,rfl⟩))
   ·exact .inl (.inr ⟨b,j,e.symm,rfl⟩)
   ·exact .inr ⟨b,j,e.symm,rfl⟩
  ·exact E9 _ q
 simp only [D4,O3] at h;omega
theorem StJ.step {n:Nat} {ws ss:List Str} {rs:List Ru} {ls:List (Int × Str)} {r:Ru} (I:StJ n ws rs ss ls) (J:RuI n ws r):StJ n ws rs (ss.set r.h r.t) (lsT ls r.ms) where
 len:=by rw [F7]; exact I.len
 nd:=(Yr _).nodup_iff.mpr (Qe9 dI)
 sub:=fun p hp=>(mem_lsT.mp hp).elim (I.sub p) (fun h=>.inl (J.sub p h))
theorem Um {S:Q2} {D:Nat} {xs:List PV} (h:S[D]?=zo (.lst xs)):Wf S (.ref D)=zo xs/\Wq S (.ref D)=zo xs/\xz S (.ref D)=zo xs:=by
 refine ⟨?_,?_,?_⟩
 ·show (match S[D]? with | some (.lst xs)=>zo xs | _=>zb)=_; rw [h]
 ·show (match S[D]? with | some (.lst xs)=>zo xs | _=>zb)=_; rw [h]
 ·show (match S[D]? with | some (.lst xs)=>zo xs | _=>zb)=_; rw [h]
theorem Qdt {ns:List Int} {S:Q2} {L:Nat} (T:TapeAt S L ns) {starts ws:List Str} {rs:List Ru} (M:MI1 starts rs ws) (h4:starts.length<=4) (most:Int):∃ (ss:List Str) (ls:List (Int × Str)) (u:Int) (S':Q2),StJ starts.length ws rs ss ls/\TapeAt S' L ns/\Mw L S S'/\Vv [.ref L,Jm most starts (rs.map ruV)] S=.ok (stV ss ls u) S':=by
 have hL:=T.lt;have T1:=T.add (.lst []);have hE:S.length≠L:=by omega
 have hr:=M.len;have b3:(starts.map PV.str).length=starts.length:=O3 _;obtain ⟨b6,j,e2,T2,M2,ss,c2,a5,a3,Y,rfl⟩:=V2 (xs:=bY starts.length) (fun (i:Nat)=>PV.int ((0:Int) + (i:Int)))
  (fun i Γ A=>TapeAt A L ns/\Mw L S A/\∃ ss:List Str,A[S.length]?=zo (.lst (ss.map .str))/\ss.length=i/\∃ a3 Y,Γ=[zo (.ref L),zo (Jm most starts (rs.map ruV)),zo (.ref S.length),a3,Y,zb,zb])
  (ga:=Qk 3) (body:=qk) (w:=[]) (fun _ _ A _=>Jr A) (fun i x Γ A hx ⟨Ti,U,ss,ci,hl,a3,Y,a1⟩=>by
   subst a1;have hi:i < starts.length:=by have:=(O1.mp hx).1; rwa [F0] at this
   have a8:x=i:=by
    rw [eV hi] at hx;exact (br hx).symm
   subst a8;obtain ⟨xs,a2⟩:∃ xs:List Str,starts.getD x cL :: rs.map (·.s)=xs:=⟨_,rfl⟩;have b7:xs.length=rs.length + 1:=by rw [<- a2]; simp
   obtain ⟨d,G,hd,TA,J,ea⟩:=Jq Ti xs.length (by omega) (by omega);have c0:S.length < A.length:=(O1.mp ci).1;have c1:G[S.length]?=zo (.lst (ss.map .str)):=by rw [J.keep _ hE]; exact ci
   have Z:S.length < G.length:=(O1.mp c1).1;have hc:Zc (Qk 0) Zv qh [] [zb] (rs.map ruV) A=.ok ((rs.map (·.s)).map .str) A:=by
    rw [cF];exact Q08 ruV (fun r=>PV.str r.s) (Jr _) fun r _=>⟨_,rfl,rfl⟩
   have hg:(xs.map PV.str)[d]?=zo (.str xs[d]):=by rw [D2,O0 hd]; rfl
   have b4:oIx A (.tup (starts.map .str)) (.int ((0:Int) + (x:Int)))=.ok (.str (starts.getD x cL)) A:=by rw [fe]; exact ixs hi A
   have a7:Zt A (.lst [.str (starts.getD x cL)]) (.lst ((rs.map (·.s)).map .str))=.ok (.lst (xs.map .str)) A:=by
    rw [Qvu A (by simp; omega),<- a2]; rfl
   have b5:Qc [.ref L,.int ((xs.map PV.str).length:Nat)] A=.ok (.int d) G:=by rw [O3]; exact ea
   have b1:ss.length < 1000000:=by omega
   refine ⟨_,rfl,_,G.set S.length (.lst ((ss.map .str) ++ [.str xs[d]])),Qh (Jh (Qw (Q95 (Qj (Qw rfl rfl b4) rfl) (by simp)) (Kf (Up (xb rfl rfl (by rw [O3]; omega)) hc)) a7))
    (Qd0 (xs:=ss.map .str) rfl (Um ci).1 (Qj (Qw rfl (Qn (n:=2) (Qj rfl (Qj (X8 rfl rfl) rfl)) rfl b5) (Q8i hg G)) rfl) (Q98 c1 (by rw [O3]; exact b1) _)),TA.put hE _,⟨by rw [F7]; exact E3 U.len J.w.len,fun t h1 h2=>?_⟩,ss ++ [xs[d]],by rw [F3 Z,E5]; rfl,by rw [D4,hl]; rfl,_,_,rfl⟩
   rw [F2 (by omega)];exact (U.trans J.w).keep t h1 h2)
  (Γ:=[zo (.ref L),zo (Jm most starts (rs.map ruV)),zo (.ref S.length),zb,zb,zb,zb]) (st:=S ++ [.lst []])
  ⟨T1,Mw.add L S _,[],Xd _ _,rfl,zb,zb,rfl⟩
 rw [F0] at a5;have a9:=T2.add (.dtp []);have hD:j.length≠L:=by have:=T2.lt; omega
 have b0:S.length < j.length:=(O1.mp c2).1;obtain ⟨b8,S3,e3,T3,M3,ls,c3,b9,z,q,a6,rfl⟩:=V2 (xs:=rs) ruV
  (fun i Γ A=>TapeAt A L ns/\Mw L j A/\∃ ls:List (Int × Str),A[j.length]?=zo (.dtp (Yk (ls.map kP)))/\ls.length<=i/\ls.Nodup/\(∀ p∈ls,p∈rs.map rPr)/\∃ a6,Γ=[zo (.ref L),zo (Jm most starts (rs.map ruV)),zo (.ref S.length),a3,Y,zo (.ref j.length),a6])
  (ga:=Qk 6) (body:=qj) (w:=[]) (fun _ _ A _=>Jr A) (fun i r Γ A hx ⟨Ti,U,ls,ci,hl,z,q,a6,a1⟩=>by
   subst a1;have b2:r∈rs:=D9 hx;have hi:i < rs.length:=(O1.mp hx).1;have keep:TapeAt A L ns/\Mw L j A/\∃ ls:List (Int × Str),A[j.length]?=zo (.dtp (Yk (ls.map kP)))/\ls.length<=i + 1/\ls.Nodup/\(∀ p∈ls,p∈rs.map rPr)/\∃ a6,[zo (.ref L),zo (Jm most starts (rs.map ruV)),zo (.ref S.length),a3,Y,zo (.ref j.length),zo (ruV r)]=[zo (.ref L),zo (Jm most starts (rs.map ruV)),zo (.ref S.length),a3,Y,zo (.ref j.length),a6]:=⟨Ti,U,ls,ci,by omega,z,q,_,rfl⟩;have n1:=nes A r.e "go";have n2:=nes A r.e "fall"
   by_cases q1:r.e = "go"
   ·rw [bV q1] at n1;exact ⟨_,rfl,_,A,Zh (Qkk (J7 (Qw rfl rfl n1))) rfl,keep⟩
   ·rw [bU q1] at n1
    by_cases q2:r.e = "fall"
    ·rw [bV q2] at n2;exact ⟨_,rfl,_,A,Zh (Q57 (J7 (Qw rfl rfl n1)) (Qkk (J7 (Qw rfl rfl n2)))) rfl,keep⟩
    ·rw [bU q2] at n2;obtain ⟨d,G,hd,TA,J,ea⟩:=Jq Ti 2 (by decide) (by decide);have c1:G[j.length]?=zo (.dtp (Yk (ls.map kP))):=by rw [J.keep _ hD]; exact ci
     have Z:j.length < G.length:=(O1.mp c1).1
     by_cases q3:d=0
     ·have O:=Q16 c1 (by rw [O3]; omega) (p:=prV (rPr r)) (k:=kP (rPr r)) rfl;rw [Qen] at O;refine ⟨_,rfl,_,G.set j.length (.dtp (Yk ((Zf ls (rPr r)).map kP))),Kv (Q57 (J7 (Qw rfl rfl n1)) (Q57 (J7 (Qw rfl rfl n2)) (J7 (Qw (Qn (n:=2) rfl rfl ea) rfl (Qjw _ (by omega)))))) (Q0v rfl rfl rfl O),TA.put hD _,⟨by rw [F7]; exact E3 U.len J.w.len,fun t h1 h2=>?_⟩,Zf ls (rPr r),F3 Z,by have:=Qb4 ls (rPr r); omega,Qep z _,fun p hp=>?_,_,rfl⟩
      ·rw [F2 (by omega)];exact (U.trans J.w).keep t h1 h2
      ·rcases mem_addK.mp hp with hp | rfl
       ·exact q p hp
       ·exact L4.mpr ⟨r,b2,rfl⟩
     ·exact ⟨_,rfl,_,G,Zh (Q57 (J7 (Qw rfl rfl n1)) (Q57 (J7 (Qw rfl rfl n2)) (J7 (Qw (Qn (n:=2) rfl rfl ea) rfl (Qjx _ (by omega)))))) rfl,TA,U.trans J.w,ls,c1,by omega,z,q,_,rfl⟩)
  (Γ:=[zo (.ref L),zo (Jm most starts (rs.map ruV)),zo (.ref S.length),a3,Y,zo (.ref j.length),zb]) (st:=j ++ [.dtp []])
  ⟨a9,Mw.add L j _,[],Xd _ _,O4 _,dI,fun p hp=>(nomatch hp),zb,rfl⟩
 obtain ⟨u,S4,hu,T4,M4,e4⟩:=Jq T3 30 (by decide) (by decide);have k2:S3[S.length]?=zo (.lst (ss.map .str)):=by rw [M3.keep _ hE b0]; exact c2
 have t3:W0 S3 [.ref S.length]=.ok (.tup (ss.map .str)) S3:=by
  show (match (match S3[S.length]? with | some (.lst xs)=>zo xs | _=>zb) with | some xs=>Res.ok (PV.tup xs) S3 | none=>.stuck)=_
  rw [k2]
 have d3:zt S3 (.ref j.length)=zo (Yk (ls.map kP)):=by
  show (match S3[j.length]? with | some (.dtp kvs)=>zo kvs | _=>zb)=_
  rw [c3]
 have s3:jk S3 [.ref j.length]=.ok (.lst ((Ud ls).map prV)) S3:=by
  unfold jk;simp only [d3,Q6b];rw [bS (by omega)]
 refine ⟨ss,Ud ls,u,S4,⟨a5,(Yr _).nodup_iff.mpr z,fun p hp=>.inr (q p ((Yr _).mem_iff.mp hp))⟩,T4,(M2.trans M3).trans M4.w,Yz ?_⟩;show Xx [zo (.ref L),zo (Jm most starts (rs.map ruV)),zb,zb,zb,zb,zb] S=_;exact Qh (Jh (Q2i rfl)) (Qh (U9 (rgw (n:=starts.length) (by omega) (by rw [<- b3]; rfl)) e2) (Qh (Jh rfl) (Qh (U9 (xb rfl rfl (by rw [O3]; omega)) e3) (Y7 (Kg (Qj (X8 rfl t3) (Qj (X8 (Qj (X8 rfl s3) rfl) rfl) (Qj (Qn (n:=2) rfl rfl e4) rfl))) (by simp))))))
theorem Qbv {ps:List PV} {S:Q2} (h:Yf ps S=.exc ⟨"NoManner",zb⟩ S):J4 ps S=.ok (.str "manner") S:=by
 unfold J4;rw [h];rfl
theorem Qhj {ps:List PV} {S:Q2} (h:Yf ps S=.exc ⟨"NoDeed",zb⟩ S):J4 ps S=.ok (.str "deed") S:=by
 unfold J4;rw [h];rfl
theorem Q1b {m:ME} {Γ:Gam} {S S1:Q2} {x:Exc} (h:m Γ S=.exc x S1):Je m Γ S=.exc x S1:=by rw [Qdw,h]; rfl
theorem Qpk {p:PV} (hp:Pl p) (h:Ww p=yl) (v:PV) (x:Int) (S:Q2) {k:Nat} (Z:k < 7):J4 [.int ((0:Int) + (k:Int)),p,v,.int x] S=.ok (.str "manner") S:=by
 have j:=Qiu hp h S;have G:W9 [p,v,.int x] S=.exc ⟨"NoManner",zb⟩ S:=Uq (show K7 [zo p,zo v,zo (.int x)] S=_ from Ut (Q4x (X7 rfl rfl j)));have U:Z4 [p] S=.exc ⟨"NoManner",zb⟩ S:=Uq (show Vm [zo p] S=_ from Ut (Q4x (X7 rfl rfl j)));have Y:U2 [p,v] S=.exc ⟨"NoManner",zb⟩ S:=by
  unfold U2 Xf;rw [show xy (([p,v]:List PV).map zo ++ bh (2 - [p,v].length) zb) S=.exc ⟨"NoManner",zb⟩ S from Ut (Q4x (X7 rfl rfl j))]
 have q:Ky [p,.lst []] S=.exc ⟨"NoManner",zb⟩ S:=Uq (show yi [zo p,zo (.lst []),zb] S=_ from Ut (Q4x (X7 rfl rfl j)));have J:Q2f [p,.lst []] S=.exc ⟨"NoManner",zb⟩ S:=Uq (show Q87 [zo p,zo (.lst []),zb] S=_ from Ut (Q4x (X7 rfl rfl j)));have z:Q2d [p] S=.exc ⟨"NoManner",zb⟩ S:=Uq (show Q85 [zo p,zb] S=_ from Ut (Q4x (X7 rfl rfl j)));have O:Q2e [p] S=.exc ⟨"NoManner",zb⟩ S:=Uq (show Q86 [zo p,zb,zb,zb,zb] S=_ from Ut (Q4x (X7 rfl rfl j)));refine Qbv (Uq ?_);show Vr [zo (.int ((0:Int) + (k:Int))),zo p,zo v,zo (.int x)] S=_;have:k=0\/k=1\/k=2\/k=3\/k=4\/k=5\/k=6:=by omega
 rcases this with rfl | rfl | rfl | rfl | rfl | rfl | rfl
 ·exact Ut (Kv rfl (Q1b (X7 rfl rfl G)))
 ·exact Qh (Zh rfl rfl) (Ut (Kv rfl (Q1b (X7 rfl rfl U))))
 ·exact Qh (Zh rfl rfl) (Qh (Zh rfl rfl) (Ut (Kv rfl (Q1b (X7 rfl rfl Y)))))
 ·exact Qh (Zh rfl rfl) (Qh (Zh rfl rfl) (Qh (Zh rfl rfl) (Ut (Kv rfl (Q1b (X7 rfl rfl q))))))
 ·exact Qh (Zh rfl rfl) (Qh (Zh rfl rfl) (Qh (Zh rfl rfl) (Qh (Zh rfl rfl) (Ut (Kv rfl (Q1b (X7 rfl rfl J)))))))
 ·exact Qh (Zh rfl rfl) (Qh (Zh rfl rfl) (Qh (Zh rfl rfl) (Qh (Zh rfl rfl) (Qh (Zh rfl rfl) (Ut (Kv rfl (Q1b (X7 rfl rfl z))))))))
 ·exact Qh (Zh rfl rfl) (Qh (Zh rfl rfl) (Qh (Zh rfl rfl) (Qh (Zh rfl rfl) (Qh (Zh rfl rfl) (Qh (Zh rfl rfl) (Q1b (X7 rfl rfl O)))))))
theorem Qme (rs:List Ru):Yv 0 rs.length=rs.zipIdx.map fun p=>.int ((0:Int) + ((p.2:Nat):Int)):=by
 unfold Yv;have:bY rs.length=rs.zipIdx.map (·.2):=by rw [List.zipIdx_map_snd,List.range_eq_range']
 rw [this,cF];rfl
theorem Qk1 (ks:List (Ru × Nat)):(ks.map nV).all (good 11)=yo:=by rw [cD,E7]; exact fun _ _=>rfl
section
variable {most:Int} {starts ws:List Str} {rs:List Ru} (M:MI1 starts rs ws) (h:Man most starts (rs.map ruV)) {ss:List Str} {ls:List (Int × Str)} (I:StJ starts.length ws rs ss ls) (u:Int)
include M h I
theorem Q3f (S:Q2) (Y c3 c5 c6 c7 Z:Option PV):Qr [Y,zo (Jm most starts (rs.map ruV)),zo (stV ss ls u),c3,zo (.lst (Vh rs ss ls)),c5,c6,c7,Z] S=.nx [Y,zo (Jm most starts (rs.map ruV)),zo (stV ss ls u),c3,zo (.lst (Vh rs ss ls)),c5,zo (.ref S.length),c7,Z] (S ++ [.lst (Vh rs ss ls ++ [.int 0])]):=by
 have e1:=Qfy M h I.len ls u S;obtain ⟨ks,O⟩:∃ ks,Q8z rs ss ls=ks:=⟨_,rfl⟩;have G:ks.length<=9:=by
  rw [<- O];have:=ic (fun p:Ru × Nat=>zf p.1 ss ls) rs.zipIdx;rw [List.length_zipIdx] at this;exact E3 this M.len
 obtain ⟨V,hV⟩:∃ V,Vh rs ss ls=V:=⟨_,rfl⟩;have q:V=ks.map nV:=by rw [<- hV,<- O]; rfl
 rw [hV] at e1 ⊢;have a3:V.length<=9:=by rw [q,O3]; exact G
 have j:(S ++ [Cell.lst V])[S.length]?=zo (.lst V):=Xd _ _;obtain ⟨A,hA⟩:∃ A,S ++ [Cell.lst V]=A:=⟨_,rfl⟩;have Q8r:A.set S.length (.lst (V ++ [.int 0]))=S ++ [.lst (V ++ [.int 0])]:=by
  rw [<- hA,dl _ _ (O4 _),cB]; rfl
 rw [hA] at e1 j;have J:Xb A (.ref S.length)=zo (V,[(S.length,.lst V)]):=by
  show (match A[S.length]? with | some (.lst xs)=>zo (xs,[(S.length,Cell.lst xs)]) | _=>zb)=_
  rw [j]
 have hw:wOk [(S.length,Cell.lst V)] A:=fun x hx=>by
  have:x=(S.length,.lst V):=by simpa using hx
  rw [this]; exact j
 have z:Zc (Qk 0) Zv V3 [(S.length,.lst V)] [zb] V A=.ok (ks.map fun _=>PV.bl yo) A:=by
  rw [q] at hw ⊢;exact Q08 nV (fun _=>PV.bl yo) hw fun p _=>⟨_,rfl,rfl⟩
 have a2:zg (fun ns=>PV.bl (ns.all id)) A [.lst (ks.map fun _=>PV.bl yo)]=.ok (.bl yo) A:=by
  have hb:(ks.map fun _=>yo).all id=yo:=by rw [cD,E7]; exact fun _ _=>rfl
  have:(ks.map fun _=>PV.bl yo)=(ks.map fun _=>yo).map PV.bl:=by rw [cF]; rfl
  rw [this];generalize ks.map (fun _=>yo)=bs at *;simp -implicitDefEqProofs [hb]
 have U:Xa "list" (Q4 6) [Y,zo (Jm most starts (rs.map ruV)),zo (stV ss ls u),c3,zo (.lst V),c5,zo (.ref S.length),c7,Z] A=.ok (.bl yo) A:=by
  show (if qr A (.ref S.length)=yo then Res.stuck else .ok (PV.bl (isI "list" (dpv A (.ref S.length)))) A)=_;have h1:qr A (.ref S.length)=yl:=by unfold qr; simp only [j]
  have h2:dpv A (.ref S.length)=.ref S.length:=by unfold dpv; simp only [j]
  rw [h1,h2];rfl
 have a1:oNe A (.ref S.length) (.lst V)=.ok (.bl yl) A:=by
  have hd:der A (.ref S.length)=.lst V:=by unfold der; simp only [j]
  have hg:good dep (.lst V)=yo:=by rw [q]; exact Qk1 ks
  have hp:=j9 hg;unfold oNe;rw [hd];show (if good dep (.lst V)=yo/\good dep (.lst V)=yo then Res.ok (PV.bl (!peq (.lst V) (.lst V))) A else .stuck)=_;rw [bS ⟨hg,hg⟩,hp];rfl
 rw [<- Q8r];exact Qh (Jh (Qn (n:=2) rfl rfl e1)) (Qh (Zh (yd (Wd (b:=yo) (J7 U)) (Wd (b:=yo) (J7 (X8 (Qj (Kf (Up (xb rfl J (by omega)) z)) rfl) a2)))) rfl) (Qh (Zh (J7 (Qw rfl rfl a1)) rfl) (Qd0 (xs:=V) rfl (Um j).1 rfl (Q98 j (by omega) _))))
theorem Q7h (S:Q2) (x:Int) (c0 c5 c6 Z:Option PV):∃ d6,Y9 [c0,zo (Jm most starts (rs.map ruV)),zo (stV ss ls u),zo (.tup (rs.map ruV)),zo (.lst (Vh rs ss ls)),c5,c6,Z,zo (.int x)] S=.nx [c0,zo (Jm most starts (rs.map ruV)),zo (stV ss ls u),zo (.tup (rs.map ruV)),zo (.lst (Vh rs ss ls)),c5,d6,Z,zo (.int x)] S:=by
 have j:=Qcj (Q8z rs ss ls) x (S:=S) (q:=.lst (Vh rs ss ls)) rfl yl;rw [dk] at j;have a2:=I.small M.w2 M.len;have h4:=h.s4;have U:=I.len;cases q:(Q8z rs ss ls).any fun p=>(p.2:Int) == x with
 | true=>
  rw [q] at j;obtain ⟨p,hp,e⟩:=dO.mp q;obtain ⟨r,k⟩:=p;have e:(k:Int)=x:=by simpa using e
  subst e;have Y:=Qd5 (dR.mp hp).1;have J:=M.ru r (D9 Y);have J8:=J.ms;have G:=Qgr M h I.len ls u S hp (by omega);have z:=I.step J;have a1:=z.small M.w2 M.len;have O:=Q1i (most:=most) z.len (lsT ls r.ms) (u + r.u) S (by rw [z.len]; omega) (by omega) (rs.map ruV);have hs:=Qda r (ss:=ss) (by rw [U]; exact J.h) (ls:=ls) (by omega) u S;exact ⟨_,Kv (J7 (Qw rfl rfl j)) (Qh (Jh (Qn (n:=3) rfl rfl G)) (Zh (yd (Wd (b:=yo) (J7 (Qn (n:=2) rfl rfl O))) (J7 (Qw rfl (Qn (n:=2) (Qj (Qw rfl rfl (ix_tup (by rw [D2,Y]; rfl) _)) rfl) rfl hs) (Q2a (Kh _ _ _) rfl)))) rfl))⟩
 | false=>
  rw [q] at j;have G:=Qcx M h I.len ls u S q;have hd:J4 [.int 0,Jm most starts (rs.map ruV),stV ss ls u,.int x] S=.ok (.str "deed") S:=Qhj (Uq (show Vr [zo (.int 0),zo (Jm most starts (rs.map ruV)),zo (stV ss ls u),zo (.int x)] S=_ from Ut (Kv rfl (Q1b (X7 rfl rfl G)))));exact ⟨_,Zh (J7 (Qw rfl rfl j)) (Zh (J7 (Qw (Qn (n:=4) rfl rfl hd) rfl (Q2a rfl rfl))) rfl)⟩
theorem Q2p {ns:List Int} {S:Q2} {L:Nat} (T:TapeAt S L ns):∃ S',TapeAt S' L ns/\Mw L S S'/\Z8 [.ref L,Jm most starts (rs.map ruV),stV ss ls u] S=.ok (.bl yo) S':=by
 have hr:=M.len;have hl:(rs.map ruV).length=rs.length:=O3 _;have a1:Zc (Qk 0) Wn V4 [] [zb,zo (stV ss ls u),zo (.tup (rs.map ruV))] (Yv 0 rs.length) S=.ok (Vh rs ss ls) S:=by
  rw [Qme];refine Q17 (fun p:Ru × Nat=>.int ((0:Int) + ((p.2:Nat):Int))) nV (fun p=>zf p.1 ss ls) (Jr _) fun p hp=>?_
  have hk:=Qd5 hp;have J:=M.ru p.1 (D9 hk);refine ⟨_,rfl,J7 (Qn (n:=2) (Qj (Qw rfl rfl (o:=oIx) (v:=ruV p.1) (S3:=S) ?_) rfl) rfl (Qea p.1 (by rw [I.len]; exact J.h) ls u S)),fun _=>?_⟩
  ·show oIx S (.tup (rs.map ruV)) (.int ((0:Int) + (p.2:Int)))=_;rw [fe];exact ix_tup (by rw [D2,hk]; rfl) S
  ·show Res.ok (PV.int ((0:Int) + (p.2:Int))) S=_;rw [fe]; rfl
 have t0:=Q3f M h I u S (zo (.ref L)) (zo (.tup (rs.map ruV))) (zo (.int ((0:Int) + ((0:Nat):Int)))) zb zb zb;obtain ⟨S1,Y⟩:∃ S1,S ++ [Cell.lst (Vh rs ss ls ++ [.int 0])]=S1:=⟨_,rfl⟩;rw [Y] at t0;have T1:TapeAt S1 L ns:=by rw [<- Y]; exact T.add _
 have t1:=Q3f M h I u S1 (zo (.ref L)) (zo (.tup (rs.map ruV))) (zo (.int ((0:Int) + ((1:Nat):Int)))) (zo (.ref S.length)) zb zb;obtain ⟨Z,G⟩:∃ Z,S1 ++ [Cell.lst (Vh rs ss ls ++ [.int 0])]=Z:=⟨_,rfl⟩;rw [G] at t1;have T2:TapeAt Z L ns:=by rw [<- G]; exact T1.add _
 have M2:Mw L S Z:=by rw [<- G,<- Y]; exact (Mw.add L S _).trans (Mw.add L _ _)
 have O:Wm (Qk 5) Qr [] (Yv 0 2) [zo (.ref L),zo (Jm most starts (rs.map ruV)),zo (stV ss ls u),zo (.tup (rs.map ruV)),zo (.lst (Vh rs ss ls)),zb,zb,zb,zb] S=.nx [zo (.ref L),zo (Jm most starts (rs.map ruV)),zo (stV ss ls u),zo (.tup (rs.map ruV)),zo (.lst (Vh rs ss ls)),zo (.int ((0:Int) + ((1:Nat):Int))),zo (.ref S1.length),zb,zb] Z:=by
  show Wm (Qk 5) Qr [] [.int ((0:Int) + ((0:Nat):Int)),.int ((0:Int) + ((1:Nat):Int))] _ _=_;rw [Wm,bS (Jr S)];show (match Qr [zo (.ref L),zo (Jm most starts (rs.map ruV)),zo (stV ss ls u),zo (.tup (rs.map ruV)),zo (.lst (Vh rs ss ls)),zo (.int ((0:Int) + ((0:Nat):Int))),zb,zb,zb] S with | .nx q j=>Wm (Qk 5) Qr [] [.int ((0:Int) + ((1:Nat):Int))] q j | .ct q j=>Wm (Qk 5) Qr [] [.int ((0:Int) + ((1:Nat):Int))] q j | .bk q j=>.nx q j | .rt v j=>.rt v j | .exc x j=>.exc x j | .stuck=>.stuck)=_
  rw [t0];show Wm (Qk 5) Qr [] [.int ((0:Int) + ((1:Nat):Int))] _ _=_;rw [Wm,bS (Jr S1)];show (match Qr [zo (.ref L),zo (Jm most starts (rs.map ruV)),zo (stV ss ls u),zo (.tup (rs.map ruV)),zo (.lst (Vh rs ss ls)),zo (.int ((0:Int) + ((1:Nat):Int))),zo (.ref S.length),zb,zb] S1 with | .nx q j=>Wm (Qk 5) Qr [] [] q j | .ct q j=>Wm (Qk 5) Qr [] [] q j | .bk q j=>.nx q j | .rt v j=>.rt v j | .exc x j=>.exc x j | .stuck=>.stuck)=_
  rw [t1];show Wm (Qk 5) Qr [] [] _ _=_;rw [Wm,bS (Jr Z)]
 obtain ⟨z,S3,hf,T3,M3,e3⟩:=Jq T2 100000000000000000000 (by decide) (by decide);obtain ⟨xs,a2,a6⟩:∃ xs:List Int,Zt S3 (.lst ((bY rs.length).map fun (k:Nat)=>.int (k:Int))) (.lst [.int (-1),.int ((rs.map ruV).length:Nat),.int (-((rs.map ruV).length:Nat) - 1),.int (((rs.map ruV).length:Nat) + (z:Int)),.int (-1 - (z:Int))])=.ok (.lst (xs.map .int)) S3/\xs.length<=1000:=by
  refine ⟨(bY rs.length).map (fun (k:Nat)=>(k:Int)) ++ [(-1:Int),((rs.map ruV).length:Nat),-((rs.map ruV).length:Nat) - 1,((rs.map ruV).length:Nat) + (z:Int),-1 - (z:Int)],?_,by simp; omega⟩;rw [Qvu S3 (by simp; omega),E5,cF];rfl
 obtain ⟨a7,U,e4,rfl,c6,c8,rfl⟩:=V2 (xs:=xs) PV.int (fun i Γ A=>A=S3/\∃ c6 c8,Γ=[zo (.ref L),zo (Jm most starts (rs.map ruV)),zo (stV ss ls u),zo (.tup (rs.map ruV)),zo (.lst (Vh rs ss ls)),zo (.int ((0:Int) + ((1:Nat):Int))),c6,zo (.int z),c8])
  (ga:=Qk 8) (body:=Y9) (w:=[]) (fun _ _ A _=>Jr A) (fun i x Γ A _ ⟨eA,c6,c8,a4⟩=>by
   subst eA a4;obtain ⟨d6,hb⟩:=Q7h M h I u A x (zo (.ref L)) (zo (.int ((0:Int) + ((1:Nat):Int)))) c6 (zo (.int z));exact ⟨_,rfl,_,A,hb,rfl,_,_,rfl⟩)
  (Γ:=[zo (.ref L),zo (Jm most starts (rs.map ruV)),zo (stV ss ls u),zo (.tup (rs.map ruV)),zo (.lst (Vh rs ss ls)),zo (.int ((0:Int) + ((1:Nat):Int))),zo (.ref S1.length),zo (.int z),zb]) (st:=S3) ⟨rfl,_,_,rfl⟩
 refine ⟨U,T3,M2.trans M3.w,Yz ?_⟩;show Yx [zo (.ref L),zo (Jm most starts (rs.map ruV)),zo (stV ss ls u),zb,zb,zb,zb,zb,zb] S=_;have a3:Wk (Qiy (Qz Ze (Q3 (Q4 3) Q7))) [zo (.ref L),zo (Jm most starts (rs.map ruV)),zo (stV ss ls u),zo (.tup (rs.map ruV)),zo (.lst (Vh rs ss ls)),zo (.int ((0:Int) + ((1:Nat):Int))),zo (.ref S1.length),zo (.int z),zb] U=.ok (.lst ((bY rs.length).map fun (k:Nat)=>.int (k:Int))) U:=by
  refine Kf ?_;show (if 0<=(((rs.map ruV).length:Nat):Int)/\(((rs.map ruV).length:Nat):Int)<=1000000 then Res.ok ((bY (((rs.map ruV).length:Nat):Int).toNat).map fun (k:Nat)=>PV.int (k:Int)) U else .stuck)=_
  rw [bS (by rw [hl]; omega),bt,hl]
 have a5:jg (Q3 (Q89 (mC (.int 1))) (Q3 (Qz Ze (Q3 (Q4 3) Q7)) (Q3 (mOp (oI fun a b=>.int (a - b)) (Q89 (Qz Ze (Q3 (Q4 3) Q7))) (mC (.int 1))) (Q3 (mOp Zt (Qz Ze (Q3 (Q4 3) Q7)) (Q4 7)) (Q3 (mOp (oI fun a b=>.int (a - b)) (Q89 (mC (.int 1))) (Q4 7)) Q7))))) [zo (.ref L),zo (Jm most starts (rs.map ruV)),zo (stV ss ls u),zo (.tup (rs.map ruV)),zo (.lst (Vh rs ss ls)),zo (.int ((0:Int) + ((1:Nat):Int))),zo (.ref S1.length),zo (.int z),zb] U=.ok (.lst [.int (-1),.int ((rs.map ruV).length:Nat),.int (-((rs.map ruV).length:Nat) - 1),.int (((rs.map ruV).length:Nat) + (z:Int)),.int (-1 - (z:Int))]) U:=
  Q95 (Qj rfl (Qj rfl (Qj rfl (Qj (Qw rfl rfl (Qpq U _ _)) (Qj rfl rfl))))) (by simp)
 exact Qh (Jh rfl) (Qh (Jh (Kf (Up (rgw (n:=rs.length) (by omega) (by rw [<- hl]; rfl)) a1))) (Qh (U9 (Qdg (n:=2) (by decide) rfl) O) (Qh (Jh (Qn (n:=2) rfl rfl e3)) (Qh (U9 (xb (Qw a3 a5 a2) rfl (by rw [O3]; omega)) e4) (Y7 rfl)))))
end
theorem Qga {α:Type} (g:α->PV) {xs:List α} (I:Gam->Q2->Prop) {ga:GA} {body:MS} (h:∀ x Γ st,x∈xs->I Γ st->∃ z,ga (g x) Γ=zo z/\∃ j q,I j q/\(body z st=.nx j q\/body z st=.bk j q)) {Γ:Gam} {st:Q2} (h0:I Γ st):∃ G st',Wm ga body [] (xs.map g) Γ st=.nx G st'/\I G st':=by
 induction xs generalizing Γ st with
 | nil=>exact ⟨Γ,st,by simp [Wm],h0⟩
 | cons x xs U=>
  obtain ⟨z,h1,j,q,J,e2⟩:=h x Γ st F4 h0;rcases e2 with e2 | e2
  ·obtain ⟨G,st',Y,Z⟩:=U (fun y Γ st O=>h y Γ st (O5 _ O)) J
   exact ⟨G,st',by simp [Wm,h1,e2,Y],Z⟩
  ·exact ⟨j,q,by simp [Wm,h1,e2],J⟩
theorem Qvt {most:Int} {starts:List Str} {rules:List PV} (h:Man most starts rules):∀ p∈[PV.tup [.int 21,.tup (starts.map .str),.tup rules],.tup [.int most,.tup [],.tup rules],.tup [.int most,.tup (starts.map .str),.tup (rules ++ [.tup [.int 0,.str "A",.str "go",.str "a",.int 0,.tup []]])],.non],Pl p/\Ww p=yl:=by
 have hs:Pl (.tup (starts.map .str)):=PlL.of fun p hp=>by
  obtain ⟨x,J,rfl⟩:=L4.mp hp;exact Ur (h.sw x J)
 have j:Pl (.tup rules):=PlL.of h.pl;intro p hp;simp only [D5,di,or_false] at hp;rcases hp with rfl | rfl | rfl | rfl
 ·exact ⟨⟨trivial,hs,j,trivial⟩,rfl⟩
 ·refine ⟨⟨trivial,trivial,j,trivial⟩,?_⟩;show (yr (.int most) 0 20 && (yl && _))=yl;rw [F9,cT]
 ·refine ⟨⟨trivial,hs,PlL.of fun p hp=>?_,trivial⟩,?_⟩
  ·rcases E8.mp hp with hp | hp
   ·exact h.pl p hp
   ·have:p=.tup [.int 0,.str "A",.str "go",.str "a",.int 0,.tup []]:=by simpa using hp
    rw [this];exact ⟨trivial,show eF _<=1000000 by decide,show eF _<=1000000 by decide,show eF _<=1000000 by decide,trivial,trivial,trivial⟩
  ·have z:∀ n:Int,(rules ++ [PV.tup [.int 0,.str "A",.str "go",.str "a",.int 0,.tup []]]).all (Zq n)=yl:=fun n=>by
    rw [List.all_append];have:[PV.tup [.int 0,.str "A",.str "go",.str "a",.int 0,.tup []]].all (Zq n)=yl:=by
     cases q:Zq n (PV.tup [.int 0,.str "A",.str "go",.str "a",.int 0,.tup []]) with
     | false=>rw [cN,q]; rfl
     | true=>
      obtain ⟨x,s,e,t,u,ls,G,_,_,h1,_⟩:=Q3c q;cases G;exact absurd h1 (by decide +kernel)
    rw [this,cT]
   show (yr (.int most) 0 20 && (_ && (decide _ && (rules ++ [PV.tup [.int 0,.str "A",.str "go",.str "a",.int 0,.tup []]]).all (Zq _) && _)))=yl;rw [z,cT,F9,cT,cT]
 ·exact ⟨trivial,rfl⟩
theorem Qew {ns:List Int} {A:Q2} (T:TapeAt A 0 ns) {most:Int} {starts ws:List Str} {rs:List Ru} (M:MI1 starts rs ws) (h:Man most starts (rs.map ruV)) {ss:List Str} {ls:List (Int × Str)} (I:StJ starts.length ws rs ss ls) (u:Int) (c0 c2 c5 c6:Option PV) (t:Gam):∃ G z u' d6 A',StJ starts.length ws rs G z/\TapeAt A' 0 ns/\Q96 (c0 :: zo (.ref 0) :: c2 :: zo (Jm most starts (rs.map ruV)) :: zo (stV ss ls u) :: c5 :: c6 :: t) A=.nx (c0 :: zo (.ref 0) :: c2 :: zo (Jm most starts (rs.map ruV)) :: zo (stV G z u') :: c5 :: d6 :: t) A':=by
 obtain ⟨U,T1,M1,e1⟩:=Q2p M h I u T;have Z:=M.len;have Y:Zc (Qk 0) Q6z Q8y [] [zb,zo (stV ss ls u)] (rs.map ruV) U=.ok ((rs.filter fun r=>zf r ss ls).map ruV) U:=
  Q17 ruV ruV (fun r=>zf r ss ls) (Jr _) fun r Z=>⟨_,rfl,J7 (Qn (n:=2) rfl rfl (Qea r (by rw [I.len]; exact (M.ru r Z).h) ls u U)),fun _=>rfl⟩
 have hf:=ic (fun r=>zf r ss ls) rs;have a2:∀ r∈rs.filter (fun r=>zf r ss ls),r∈rs:=fun r Z=>(dR.mp Z).1
 generalize rs.filter (fun r=>zf r ss ls)=fs at *;have j:Zm (toB (Qd 3 Z8 (Q3 (Q4 1) (Q3 (Q4 3) (Q3 (Q4 4) Q7))))) (c0 :: zo (.ref 0) :: c2 :: zo (Jm most starts (rs.map ruV)) :: zo (stV ss ls u) :: c5 :: c6 :: t) A=.ok yl U:=Wd (b:=yo) (J7 (Qn (n:=3) rfl rfl e1));have Q8r:∀ t:Gam,(Ju 6 (Wk (Jv [zb,zo 4] (Qk 0) (Uk (mOp oIx (Q4 3) (mC (.int 2)))) Q6z Q8y))) (c0 :: zo (.ref 0) :: c2 :: zo (Jm most starts (rs.map ruV)) :: zo (stV ss ls u) :: c5 :: c6 :: t) U=.nx (c0 :: zo (.ref 0) :: c2 :: zo (Jm most starts (rs.map ruV)) :: zo (stV ss ls u) :: c5 :: zo (.lst (fs.map ruV)) :: t) U:=fun t=>Jh (Kf (Up (xb rfl rfl (by rw [O3]; omega)) Y))
 cases fs with
 | nil=>
  obtain ⟨G,z,u',A2,I2,T2,M2,e2⟩:=Qdt T1 M h.s4 most;exact ⟨G,z,u',_,A2,I2,T2,Qh (Zh j rfl) (Qh (Q8r t) (Kv (Qu6 rfl) (Jh (Qn (n:=2) rfl rfl e2))))⟩
 | cons f fs=>
  obtain ⟨d,A2,hd,T2,M2,e2⟩:=Jq T1 4 (by decide) (by decide);have a1:oEq U (.lst ((f :: fs).map ruV)) (.lst [])=.ok (.bl yl) U:=by
   have hg:good dep (.lst ((f :: fs).map ruV))=yo:=by
    show ((f :: fs).map ruV).all (good 11)=yo;rw [cD,E7];intro r _;show (yo && (yo && (yo && (yo && (yo && ((r.ms.map prV).all (good 9) && yo))))))=yo;have:(r.ms.map prV).all (good 9)=yo:=by rw [cD,E7]; exact fun _ _=>rfl
    rw [this]; rfl
   unfold oEq;show (if good dep (.lst ((f :: fs).map ruV))=yo/\good dep (.lst [])=yo then Res.ok (PV.bl (peq (.lst ((f :: fs).map ruV)) (.lst []))) U else .stuck)=_;rw [bS ⟨hg,rfl⟩];rfl
  by_cases q:d=0
  ·obtain ⟨G,z,u',A3,I3,T3,M3,e3⟩:=Qdt T2 M h.s4 most;exact ⟨G,z,u',_,A3,I3,T3,Qh (Zh j rfl) (Qh (Q8r t) (Kv (yd (J7 (Qw rfl rfl a1)) (J7 (Qw (Qn (n:=2) rfl rfl e2) rfl (Qjw _ (by omega))))) (Jh (Qn (n:=2) rfl rfl e3))))⟩
  ·have O:((f :: fs).map ruV).length=(f :: fs).length:=O3 _;obtain ⟨k,A3,hk,T3,M3,e3⟩:=Jq T2 ((f :: fs).map ruV).length (by rw [O]; simp) (by rw [O]; omega);rw [O] at hk;obtain ⟨r,Z⟩:∃ r,(f :: fs)[k]?=zo r:=⟨_,O0 hk⟩;have J:=M.ru r (a2 r (D9 Z));have J8:=J.ms;have a3:=I.small M.w2 M.len;have hs:=Qda r (ss:=ss) (by rw [I.len]; exact J.h) (ls:=ls) (by omega) u A3;exact ⟨_,_,_,_,A3,I.step J,T3,Qh (Zh j rfl) (Qh (Q8r t) (Zh (yd (J7 (Qw rfl rfl a1)) (J7 (Qw (Qn (n:=2) rfl rfl e2) rfl (Qjx _ (by omega))))) (Jh (Qn (n:=2) (Qj (Qw rfl (Qn (n:=2) rfl rfl e3) (Q8i (by rw [D2,Z]; rfl) _)) rfl) rfl hs))))⟩
theorem Qrw (ns:List Int):∃ S',Qix [zo (.fro (ns.map .int)),zb,zb,zb,zb,zb,zb,zb,zb,zb,zb,zb,zb] []=.rt (.bl yo) S':=by
 have T0:TapeAt [Cell.lst [.fro (ns.map .int),.int 0,.int 0]] 0 ns:=⟨0,0,rfl⟩;obtain ⟨b3,S1,e1,T1,x2,x3,x4,x5,x6,x7,x8,x9,b8,b4,b6,rfl⟩:=Qga (xs:=bY 4) (fun (i:Nat)=>PV.int ((0:Int) + (i:Int))) (fun Γ A=>TapeAt A 0 ns/\∃ c2 c3 c4 c5 c6 c7 c8 c9 J G z,Γ=[zo (.fro (ns.map .int)),zo (.ref 0),c2,c3,c4,c5,c6,c7,c8,c9,J,G,z])
  (ga:=Qk 2) (body:=Q97) (fun x Γ A _ ⟨T,c2,c3,c4,c5,c6,c7,c8,c9,J,G,z,Y⟩=>by
   subst Y;refine ⟨_,rfl,?_⟩;have hT:=T;obtain ⟨p,c,eS⟩:=T;obtain ⟨_,i1,_⟩:=Q25 eS
   by_cases q:(1:Int) < (0:Int) + (x:Int)/\((ns.map PV.int).length:Int)<=(p:Int)
   ·refine ⟨[zo (.fro (ns.map .int)),zo (.ref 0),zo (.int ((0:Int) + (x:Int))),c3,c4,c5,c6,c7,c8,c9,J,G,z],A,⟨hT,_,_,_,_,_,_,_,_,_,_,_,rfl⟩,.inr ?_⟩;unfold Q97;have h1:(yx (toB (mOp (oI fun a b=>.bl (decide (b < a))) (Q4 2) (mC (.int 1)))) (toB (mOp (oI fun a b=>.bl (decide (b<=a))) (mOp oIx (Q4 1) (mC (.int 1))) (Qz Ze (Q3 (Q4 0) Q7))))) [zo (.fro (ns.map .int)),zo (.ref 0),zo (.int ((0:Int) + (x:Int))),c3,c4,c5,c6,c7,c8,c9,J,G,z] A=.ok yo A:=
     Q57 (J7 (Qw rfl rfl (Qqb A q.1))) (J7 (Qw (Qw rfl rfl i1) rfl (by show Res.ok (PV.bl (decide _)) A=_; rw [bV q.2])))
    show Qi _ _ [zo (.fro (ns.map .int)),zo (.ref 0),zo (.int ((0:Int) + (x:Int))),c3,c4,c5,c6,c7,c8,c9,J,G,z] A=_;rw [K8,Kv h1 (show Qcc _ A=.bk _ A from rfl)]
   ·have h1:(yx (toB (mOp (oI fun a b=>.bl (decide (b < a))) (Q4 2) (mC (.int 1)))) (toB (mOp (oI fun a b=>.bl (decide (b<=a))) (mOp oIx (Q4 1) (mC (.int 1))) (Qz Ze (Q3 (Q4 0) Q7))))) [zo (.fro (ns.map .int)),zo (.ref 0),zo (.int ((0:Int) + (x:Int))),c3,c4,c5,c6,c7,c8,c9,J,G,z] A=.ok yl A:=by
     by_cases q1:(1:Int) < (0:Int) + (x:Int)
     ·exact Q57 (J7 (Qw rfl rfl (Qqb A q1))) (J7 (Qw (Qw rfl rfl i1) rfl (by show Res.ok (PV.bl (decide _)) A=_; rw [bU (fun h=>q ⟨q1,h⟩)])))
     ·exact Qkk (J7 (Qw rfl rfl (Qv3 A q1)))
    obtain ⟨most,starts,rules,A1,hM,T1,M1,e1⟩:=Qfz hT;obtain ⟨rs,ws,rfl,K⟩:=Qrm hM;have I0:StJ starts.length ws rs starts []:=⟨rfl,dI,fun p hp=>(nomatch hp)⟩;have h4:=hM.s4;have f1:=Qju hM A1;have f2:=Q1i (most:=most) (starts:=starts) (ss:=starts) rfl [] 0 A1 (by omega) (by simp) (rs.map ruV);obtain ⟨b7,U,e2,T2,ss,ls,u,a5,a6,I2,rfl⟩:=V2 (xs:=bY 8) (fun (i:Nat)=>PV.int ((0:Int) + (i:Int))) (fun i Γ B=>TapeAt B 0 ns/\∃ ss ls u a5 a6,StJ starts.length ws rs ss ls/\Γ=[zo (.fro (ns.map .int)),zo (.ref 0),zo (.int ((0:Int) + (x:Int))),zo (Jm most starts (rs.map ruV)),zo (stV ss ls u),a5,a6,c7,c8,c9,J,G,z])
     (ga:=Qk 5) (body:=Q96) (w:=[]) (fun _ _ B _=>Jr B) (fun i y Γ B _ ⟨TB,ss,ls,u,a5,a6,IB,Y⟩=>by
      subst Y;obtain ⟨b1,b0,u',d6,B',I',T',e'⟩:=Qew TB K hM IB u (zo (.fro (ns.map .int))) (zo (.int ((0:Int) + (x:Int)))) (zo (.int ((0:Int) + (y:Int)))) a6 [c7,c8,c9,J,G,z];exact ⟨_,rfl,_,B',e',T',b1,b0,u',_,_,I',rfl⟩)
     (Γ:=[zo (.fro (ns.map .int)),zo (.ref 0),zo (.int ((0:Int) + (x:Int))),zo (Jm most starts (rs.map ruV)),zo (stV starts [] 0),c5,c6,c7,c8,c9,J,G,z]) (st:=A1) ⟨T1,_,_,_,_,_,I0,rfl⟩
    have Z:=Qvt hM;have a2:[PV.tup [.int 21,.tup (starts.map .str),.tup (rs.map ruV)],.tup [.int most,.tup [],.tup (rs.map ruV)],.tup [.int most,.tup (starts.map .str),.tup (rs.map ruV ++ [.tup [.int 0,.str "A",.str "go",.str "a",.int 0,.tup []]])],.non].length<=1000000:=by simp
    have a1:Zt U (.tup (rs.map ruV)) (.tup [.tup [.int 0,.str "A",.str "go",.str "a",.int 0,.tup []]])=.ok (.tup (rs.map ruV ++ [.tup [.int 0,.str "A",.str "go",.str "a",.int 0,.tup []]])) U:=Qkm U (by rw [O3]; have:=K.len; simp; omega);obtain ⟨W,hW⟩:∃ W,PV.tup (rs.map ruV ++ [.tup [.int 0,.str "A",.str "go",.str "a",.int 0,.tup []]])=W:=⟨_,rfl⟩;rw [hW] at Z a2 a1;obtain ⟨bs,a7⟩:∃ bs,[PV.tup [.int 21,.tup (starts.map .str),.tup (rs.map ruV)],.tup [.int most,.tup [],.tup (rs.map ruV)],.tup [.int most,.tup (starts.map .str),W],.non]=bs:=⟨_,rfl⟩;have a4:∀ Γ:Gam,Q4 7 Γ U=.ok (.int most) U->Q4 8 Γ U=.ok (.tup (starts.map .str)) U->Q4 9 Γ U=.ok (.tup (rs.map ruV)) U->Q4 10 Γ U=.ok W U->jg (Q3 (Y3 (Q3 (mC (.int 21)) (Q3 (Q4 8) (Q3 (Q4 9) Q7)))) (Q3 (Y3 (Q3 (Q4 7) (Q3 (Y3 Q7) (Q3 (Q4 9) Q7)))) (Q3 (Y3 (Q3 (Q4 7) (Q3 (Q4 8) (Q3 (Q4 10) Q7)))) (Q3 (mC .non) Q7)))) Γ U=.ok (.lst bs) U:=fun Γ h7 h8 h9 a9=>by
     rw [<- a7];exact Q95 (Qj (Kg (Qj rfl (Qj h8 (Qj h9 rfl))) (by simp)) (Qj (Kg (Qj h7 (Qj rfl (Qj h9 rfl))) (by simp)) (Qj (Kg (Qj h7 (Qj h8 (Qj a9 rfl))) (by simp)) (Qj rfl rfl)))) (by simp)
    rw [a7] at Z a2;obtain ⟨b9,A3,e3,rfl,a3,O,rfl⟩:=V2 (xs:=bs) id (fun i Γ B=>B=U/\∃ a3 O,Γ=[zo (.fro (ns.map .int)),zo (.ref 0),zo (.int ((0:Int) + (x:Int))),zo (Jm most starts (rs.map ruV)),zo (stV ss ls u),a5,a6,zo (.int most),zo (.tup (starts.map .str)),zo (.tup (rs.map ruV)),zo W,a3,O])
     (ga:=Qk 11) (body:=Qej) (w:=[]) (fun _ _ B _=>Jr B) (fun i b Γ B hb ⟨eB,a3,O,Y⟩=>by
      subst eB Y;obtain ⟨hp,hf⟩:=Z b (D9 hb);obtain ⟨b5,A4,e4,rfl,b2,rfl⟩:=V2 (xs:=bY 7) (fun (i:Nat)=>PV.int ((0:Int) + (i:Int))) (fun i Γ C=>C=B/\∃ O,Γ=[zo (.fro (ns.map .int)),zo (.ref 0),zo (.int ((0:Int) + (x:Int))),zo (Jm most starts (rs.map ruV)),zo (stV ss ls u),a5,a6,zo (.int most),zo (.tup (starts.map .str)),zo (.tup (rs.map ruV)),zo W,zo b,O])
       (ga:=Qk 12) (body:=Qei) (w:=[]) (fun _ _ C _=>Jr C) (fun j y Γ C hy ⟨eC,O,Y⟩=>by
        subst eC Y;have a8:y < 7:=cW.mp (D9 hy);have hr:=Qpk hp hf (.tup [.tup (starts.map .str),.tup [],.int 0]) (-1) C a8;exact ⟨_,rfl,_,C,Zh (J7 (Qw (Qn (n:=4) rfl rfl hr) rfl (Q2a rfl rfl))) rfl,rfl,_,rfl⟩)
       (Γ:=[zo (.fro (ns.map .int)),zo (.ref 0),zo (.int ((0:Int) + (x:Int))),zo (Jm most starts (rs.map ruV)),zo (stV ss ls u),a5,a6,zo (.int most),zo (.tup (starts.map .str)),zo (.tup (rs.map ruV)),zo W,zo b,O]) (st:=B) ⟨rfl,_,rfl⟩
      exact ⟨_,rfl,_,A4,U9 (Qdg (n:=7) (by decide) rfl) e4,rfl,_,_,rfl⟩)
     (Γ:=[zo (.fro (ns.map .int)),zo (.ref 0),zo (.int ((0:Int) + (x:Int))),zo (Jm most starts (rs.map ruV)),zo (stV ss ls u),a5,a6,zo (.int most),zo (.tup (starts.map .str)),zo (.tup (rs.map ruV)),zo W,G,z]) (st:=U) ⟨rfl,_,_,rfl⟩
    rw [ib] at e3;refine ⟨_,A3,⟨T2,_,_,_,_,_,_,_,_,_,_,_,rfl⟩,.inl (Qh (Zh h1 rfl) (Qh (Jh (Qn (n:=1) rfl rfl e1)) (Qh (Jh (show _=Res.ok (stV starts [] 0) A1 from rfl)) (Qh (Zh (yd (Wd (b:=yo) (J7 (Qn (n:=2) (Qj rfl (Qj (Qn (n:=1) rfl rfl f1) rfl)) rfl f2))) (J7 (Qw (Qn (n:=1) rfl rfl f1) rfl (Q2a (Kh _ _ _) rfl)))) rfl) (Qh (U9 (Qdg (n:=8) (by decide) rfl) e2) (Qh (Qkj rfl rfl) (Qh (Jh (Qw rfl rfl a1)) (U9 (xb (a4 _ rfl rfl rfl rfl) rfl a2) e3))))))))⟩)
  (Γ:=[zo (.fro (ns.map .int)),zo (.ref 0),zb,zb,zb,zb,zb,zb,zb,zb,zb,zb,zb]) (st:=[Cell.lst [.fro (ns.map .int),.int 0,.int 0]])
  ⟨T0,zb,zb,zb,zb,zb,zb,zb,zb,zb,zb,zb,rfl⟩
 exact ⟨S1,Qh (Jh (Q2i rfl)) (Qh (U9 (Qdg (n:=4) (by decide) rfl) e1) (Y7 rfl))⟩
theorem Qnw:∀ ns:List Int,ns.length<=63->∃ st',Qkp [.fro (ns.map .int)] []=.ok (.bl yo) st':=fun ns _=>by
 obtain ⟨j,e⟩:=Qrw ns;have:=Ke (nl:=13) (ps:=[.fro (ns.map .int)]) e;refine ⟨[],?_⟩;unfold Qkp;rw [this];unfold fin;rw [bS (List.nil_prefix)];simp [fz,okO]
end Lw
namespace Lw
open PySem PySem.Spec L2 Sm
theorem all_mk {l:fM} {w:aJ} {K:bW} {h:Heap} {mg:Str->Option aA} {fa f1 f2 f3 f4 f5 f6 f7 f8 f9 L7 S6 S0 R8 C4 R4 P4 H6 P2 P1 N2 R1 L1 S1 N3 I0 M5 S7 C1 S3 R6 G0 I2 P9 R5 I9 C6 C2 G3 S4 G4 I5 I8 N1 C7 M7 N9 M8 r1:aB} (X:K.In h) (G:h.Ns aQ mg) (N0:mg "law" = zo (.ref fa))
  {w6 p7:Option aB} {v1:Array (Option aA)} {x0 p8 q0 p6 n6 p9:aA}
  {h0 c7 d9:aB}
  {b5:Tok}
  {g0:Tok}
  {d5:Tok}
  {e9:Tok}
  {c0:Tok}
  {b0:Tok}
  {e4:Tok}
  {J:aB} {Z a2:Tok} {a3:Nat} {a6:Array (Option aA)}
  {l5 l7 n2 O n0 l0 l3 l4 l8 U g6 g3 g5 g4 g7:aB} {w5 v2:ClassData}
  (x4:bc K aQ "law" = zo (zo (.ref r1)))
  (R7:K.lookup r1=zo ⟨x0,w6,.func (cA "law" "law" (W5 xi) (Zk xi) (Qb xi) .none p8 q0 p6 p7 n6 p9),v1⟩)
  (H5:cx K n6 "law" = yo)
  (B7:cM K (.ref r1)=yo)
  (s3:bc K aQ "all" = zo zb)
  (o3:bc K aQ "bool" = zo zb)
  (o1:bc K aQ "dict" = zo zb)
  (i4:bc K aQ "enumerate" = zo zb)
  (s9:bc K aQ "int" = zo zb)
  (e7:bc K aQ "isinstance" = zo zb)
  (r2:bc K aQ "len" = zo zb)
  (o0:bc K aQ "list" = zo zb)
  (n8:bc K aQ "range" = zo zb)
  (r5:bc K aQ "set" = zo zb)
  (l6:bc K aQ "sorted" = zo zb)
  (r6:bc K aQ "str" = zo zb)
  (n5:bc K aQ "tuple" = zo zb)
  (r8:bc K aQ "zip" = zo zb)
  (b4:bc K aQ "MOST_SIGNS_OF_WORD" = zo (zo (.int 8 b5)))
  (e6:bc K aQ "MOST_STOCK" = zo (zo (.int 20 g0)))
  (d7:bc K aQ "MOST_STARTS" = zo (zo (.int 4 d5)))
  (g1:bc K aQ "MOST_RULES" = zo (zo (.int 60 e9)))
  (c1:bc K aQ "MOST_USE_AT_ONCE" = zo (zo (.int 9 c0)))
  (a9:bc K aQ "MOST_LETTERS_OF_RULE" = zo (zo (.int 8 b0)))
  (d4:bc K aQ "MOST_STANDS" = zo (zo (.int 2000 e4)))
  (a5:bc K aQ "EVENTS_WITHOUT_LETTER" = zo (zo (.ref J)))
  (a4:K.lookup J=zo ⟨.type "tuple",zb,.seq #[.str "go" Z,.str "fall" a2] a3,a6⟩)
  (k8:bc K aQ "NoDeed" = zo (zo (.ref h0)))
  (i8:bc K aQ "NoManner" = zo (zo (.ref c7)))
  (k0:bc K aQ "NoStand" = zo (zo (.ref d9)))
  (H7:bc K aQ "WharfError" = zo (zo (.ref l5)))
  (G2:bc K aQ "NoTable" = zo (zo (.ref l7)))
  (P8:bc K aQ "NoHouse" = zo (zo (.ref n2)))
  (C9:bc K aQ "NoDeed" = zo (zo (.ref O)))
  (J8:bc K aQ "NoLetter" = zo (zo (.ref n0)))
  (I4:bc K aQ "NoStand" = zo (zo (.ref l0)))
  (B8:bc K aQ "NoRoad" = zo (zo (.ref l3)))
  (N6:bc K aQ "NoPlan" = zo (zo (.ref l4)))
  (M3:bc K aQ "NoBook" = zo (zo (.ref l8)))
  (C8:bc K aQ "NoManner" = zo (zo (.ref U)))
  (z0:bc K aQ "TooMany" = zo (zo (.ref g6)))
  (v0:bc K aQ "NoText" = zo (zo (.ref g3)))
  (x2:bc K aQ "NoRow" = zo (zo (.ref g5)))
  (z4:bc K aQ "NoName" = zo (zo (.ref g4)))
  (t6:bc K aQ "Short" = zo (zo (.ref g7)))
  (e5:bc K aQ "ValueError" = zo zb)
  (e8:bc K aQ "isinstance" = zo zb)
  (A0:fw K (.builtin "object.__class__") "__get__" = zo (zo (.builtin "getset_descriptor.__get__")))
  (B2:fx K (.builtin "object.__class__")=zo yo)
  (t2:er K U=zo w5)
  (y2:cg K (.ref U) "__getattribute__" = zo (zo (.builtin "BaseException.__getattribute__")))
  (t4:cg K (.ref U) "__getattr__" = zo zb)
  (x8:cg K (.ref U) "__class__" = zo (zo (.builtin "object.__class__")))
  (w4:dW K U (.type "object")=zo yo)
  (y6:dW K U (.type "BaseException")=zo yo)
  (s7:er K O=zo v2)
  (t7:cg K (.ref O) "__getattribute__" = zo (zo (.builtin "BaseException.__getattribute__")))
  (v4:cg K (.ref O) "__getattr__" = zo zb)
  (u3:cg K (.ref O) "__class__" = zo (zo (.builtin "object.__class__")))
  (u0:dW K O (.type "object")=zo yo)
  (w1:dW K O (.type "BaseException")=zo yo)
  (h1:FA K "is_whole" y0 f1)
  (h2:FA K "is_between" Kk f2)
  (h3:FA K "is_rising" qw f3)
  (h4:FA K "is_sized_tuple" Va f4)
  (h5:FA K "is_word" Q0i f5)
  (h6:FA K "is_letter" qy f6)
  (h7:FA K "are_letters_of_rule" Yi f7)
  (h8:FA K "is_rule" Q0j f8)
  (h9:FA K "are_rules" j6 f9)
  (N8:FA K "are_starts" Km L7)
  (I7:FA K "is_manner" qx S6)
  (L3:FA K "need_manner" Xj S0)
  (P7:FA K "beginning" j4 R8)
  (P5:FA K "may_be_done" Xk C4)
  (L2:FA K "numbers_that_may" Wc R4)
  (I3:FA K "stand_behind" Uw P4)
  (G5:FA K "first_stand" Xn H6)
  (L6:FA K "may_do" Q39 P2)
  (C0:FA K "behind" Q3a P1)
  (H4:FA K "run_to" Q38 N2)
  (L8:FA K "breaking_step" U6 R1)
  (M9:FA K "further_stands" Vb L1)
  (L0:FA K "walked" Q37 S1)
  (R0:FA K "tried" Q7e N3)
  (H8:FA K "used_behind" Xi I0)
  (N4:FA K "is_break" y9 M5)
  (M4:FA K "is_stand_of" Xm S7)
  (N5:FA K "is_closed_at" Ux C1)
  (E1:FA K "keeps" Q7g S3)
  (S5:FA K "does_rest" qz R6)
  (P6:FA K "stands_ahead" Uv G0)
  (I6:FA K "steps_to_rest" U5 I2)
  (H9:FA K "rests" Q7f P9)
  (N7:FA K "_law_e_stirred" Vc R5)
  (G1:FA K "_law_e_digit" Uy I9)
  (B9:FA K "_law_e_name" Xr C6)
  (L5:FA K "_law_e_letter_name" Yu C2)
  (P3:FA K "_law_e_rule" Xq G3)
  (R9:FA K "_law_e_manner" U7 S4)
  (R3:FA K "_law_e_fits" Xu G4)
  (C3:FA K "_law_e_step" Xp I5)
  (L9:FA K "_law_e_is_stand" Ws I8)
  (H3:FA K "_law_e_door" Xv N1)
  (S2:FA K "_law_e_kind" Xt C7)
  (M6:FA K "_law_e_refused" Vd M7)
  (M0:FA K "_law_e_made" Xs N9)
  (B6:FA K "_law_e_stand_right" Yt M8)
  (l2:cE K h0 Q55 "ValueError.__new__" = yo)
  (i6:cE K c7 Q55 "ValueError.__new__" = yo)
  (k6:cE K d9 Q55 "ValueError.__new__" = yo)
  (x3:bi K (.ref U) (.type "ValueError")=zo yo)
  (q7:bi K (.ref U) (.ref l7)=zo yl)
  (s6:bi K (.ref U) (.ref n2)=zo yl)
  (t0:bi K (.ref U) (.ref O)=zo yl)
  (q4:bi K (.ref U) (.ref n0)=zo yl)
  (s2:bi K (.ref U) (.ref l0)=zo yl)
  (q8:bi K (.ref U) (.ref l3)=zo yl)
  (r0:bi K (.ref U) (.ref l4)=zo yl)
  (s0:bi K (.ref U) (.ref l8)=zo yl)
  (r9:bi K (.ref U) (.ref U)=zo yo)
  (p5:bi K (.ref U) (.ref g6)=zo yl)
  (o8:bi K (.ref U) (.ref g3)=zo yl)
  (o7:bi K (.ref U) (.ref g5)=zo yl)
  (o4:bi K (.ref U) (.ref g4)=zo yl)
  (p4:bi K (.ref U) (.ref g7)=zo yl)
  (v3:bi K (.ref O) (.type "ValueError")=zo yo)
  (s8:bi K (.ref O) (.ref l7)=zo yl)
  (r7:bi K (.ref O) (.ref n2)=zo yl)
  (t1:bi K (.ref O) (.ref O)=zo yo)
  (r3:bi K (.ref O) (.ref n0)=zo yl)
  (q6:bi K (.ref O) (.ref l0)=zo yl)
  (s5:bi K (.ref O) (.ref l3)=zo yl)
  (q5:bi K (.ref O) (.ref l4)=zo yl)
  (q9:bi K (.ref O) (.ref l8)=zo yl)
  (r4:bi K (.ref O) (.ref U)=zo yl)
  (o6:bi K (.ref O) (.ref g6)=zo yl)
  (p3:bi K (.ref O) (.ref g3)=zo yl)
  (o2:bi K (.ref O) (.ref g5)=zo yl)
  (p1:bi K (.ref O) (.ref g4)=zo yl)
  (p0:bi K (.ref O) (.ref g7)=zo yl)
  (v8:eI K (.ref U) (.ref l5)=zo yo)
  (y3:eI K (.ref O) (.ref l5)=zo yo)
  (hL:noL K=yo) :
  ∃ fd:aO,(∀ (s:aC) (v:aA),BindsTo s fd ⟨[v],[]⟩ [("script",v)])/\∀ base:Heap,K.In base->base.Ns aQ mg->FnOk l.prog w K mg base (CXD l.prog w) 13 fa fd ["script"] (Q73 K):=by
 have e:=N0.symm.trans (bo X G x4);cases e;have T:Txt K mg:=⟨bz X G s3,bz X G o3,bz X G o1,bz X G i4,bz X G s9,bz X G e7,bz X G r2,bz X G o0,bz X G n8,bz X G r5,bz X G l6,bz X G r6,bz X G n5,bz X G r8,⟨_,bo X G b4⟩,⟨_,bo X G e6⟩,⟨_,bo X G d7⟩,⟨_,bo X G g1⟩,⟨_,bo X G c1⟩,⟨_,bo X G a9⟩,⟨_,bo X G d4⟩,⟨_,_,_,_,bo X G a5,a4,rfl,rfl,(by show 2<=sizeLine; decide),.cons ⟨_,rfl⟩ (.cons ⟨_,rfl⟩ (.nil))⟩⟩
 have l1:∃ C,mg "NoDeed" = zo (.ref C)/\cE K C Q55 "ValueError.__new__" = yo:=⟨_,bo X G k8,l2⟩;have i5:∃ C,mg "NoManner" = zo (.ref C)/\cE K C Q55 "ValueError.__new__" = yo:=⟨_,bo X G i8,i6⟩;have k4:∃ C,mg "NoStand" = zo (.ref C)/\cE K C Q55 "ValueError.__new__" = yo:=⟨_,bo X G k0,k6⟩;have Nm:Nms mg (fun i=>[l5,l7,n2,O,n0,l0,l3,l4,l8,U,g6,g3,g5,g4,g7].getD i 0):=⟨bo X G H7,bo X G G2,bo X G P8,bo X G C9,bo X G J8,bo X G I4,bo X G B8,bo X G N6,bo X G M3,bo X G C8,bo X G z0,bo X G v0,bo X G x2,bo X G z4,bo X G t6,bz X G e5,bz X G e8⟩
 have C5:XCls K U:=⟨show (er K U).isSome=yo by rw [t2]; rfl,y2,t4,x8,A0,B2,w4,y6⟩;have T9:TgtS K (fun i=>[l5,l7,n2,O,n0,l0,l3,l4,l8,U,g6,g3,g5,g4,g7].getD i 0) 9:=⟨C5,x3,v8,fun i h1 h2=>match i,h1,h2 with | 0,h,_=>absurd h (by omega) | 1,_,_=>q7 | 2,_,_=>s6 | 3,_,_=>t0 | 4,_,_=>q4 | 5,_,_=>s2 | 6,_,_=>q8 | 7,_,_=>r0 | 8,_,_=>s0 | 9,_,_=>r9 | 10,_,_=>p5 | 11,_,_=>o8 | 12,_,_=>o7 | 13,_,_=>o4 | 14,_,_=>p4 | _ + 15,_,h=>absurd h (by omega)⟩;have P0:XCls K O:=⟨show (er K O).isSome=yo by rw [s7]; rfl,t7,v4,u3,A0,B2,u0,w1⟩;have T3:TgtS K (fun i=>[l5,l7,n2,O,n0,l0,l3,l4,l8,U,g6,g3,g5,g4,g7].getD i 0) 3:=⟨P0,v3,y3,fun i h1 h2=>match i,h1,h2 with | 0,h,_=>absurd h (by omega) | 1,_,_=>s8 | 2,_,_=>r7 | 3,_,_=>t1 | 4,_,_=>r3 | 5,_,_=>q6 | 6,_,_=>s5 | 7,_,_=>q5 | 8,_,_=>q9 | 9,_,_=>r4 | 10,_,_=>o6 | 11,_,_=>p3 | 12,_,_=>o2 | 13,_,_=>p1 | 14,_,_=>p0 | _ + 15,_,h=>absurd h (by omega)⟩
 obtain ⟨_,A1⟩:=Zi ["thing"] X G h1;obtain ⟨_,A2⟩:=Zi ["thing", "least", "most"] X G h2;obtain ⟨_,A3⟩:=Zi ["things"] X G h3;obtain ⟨_,A4⟩:=Zi ["thing", "least", "most"] X G h4;obtain ⟨_,A5⟩:=Zi ["thing"] X G h5;obtain ⟨_,A6⟩:=Zi ["n", "thing"] X G h6;obtain ⟨_,A7⟩:=Zi ["n", "thing"] X G h7;obtain ⟨_,A8⟩:=Zi ["n", "thing"] X G h8;obtain ⟨_,A9⟩:=Zi ["n", "thing"] X G h9;obtain ⟨_,v6⟩:=Zi ["thing"] X G N8;obtain ⟨_,u6⟩:=Zi ["thing"] X G I7;obtain ⟨_,w3⟩:=Zi ["manner"] X G L3;obtain ⟨_,v5⟩:=Zi ["manner"] X G P7;obtain ⟨_,x6⟩:=Zi ["rule", "stand"] X G P5;obtain ⟨_,w9⟩:=Zi ["manner", "stand"] X G L2;obtain ⟨_,B0⟩:=Zi ["rule", "stand"] X G I3;obtain ⟨_,u7⟩:=Zi ["manner"] X G G5;obtain ⟨_,B3⟩:=Zi ["manner", "stand"] X G L6;obtain ⟨_,y5⟩:=Zi ["manner", "stand", "number"] X G C0;obtain ⟨_,z1⟩:=Zi ["found", "stand"] X G H4;obtain ⟨_,x9⟩:=Zi ["manner", "stands"] X G L8;obtain ⟨_,y4⟩:=Zi ["manner", "found", "stands"] X G M9
 obtain ⟨_,B5⟩:=Zi ["manner"] X G L0;obtain ⟨_,t9⟩:=Zi ["manner"] X G R0;obtain ⟨_,t8⟩:=Zi ["manner", "run"] X G H8;obtain ⟨_,v9⟩:=Zi ["manner", "run"] X G N4;obtain ⟨_,t5⟩:=Zi ["manner", "thing"] X G M4;obtain ⟨_,x5⟩:=Zi ["manner", "among", "stand"] X G N5;obtain ⟨_,u8⟩:=Zi ["manner", "stands"] X G E1;obtain ⟨_,z2⟩:=Zi ["manner", "stand"] X G S5;obtain ⟨_,u9⟩:=Zi ["manner", "stands"] X G P6;obtain ⟨_,w0⟩:=Zi ["manner", "stands"] X G I6;obtain ⟨_,x1⟩:=Zi ["manner"] X G H9;obtain ⟨_,w8⟩:=Zi ["cell", "place"] X G N7;obtain ⟨_,z3⟩:=Zi ["tape", "many"] X G G1;obtain ⟨_,x7⟩:=Zi ["tape"] X G B9;obtain ⟨_,y8⟩:=Zi ["tape"] X G L5;obtain ⟨_,w7⟩:=Zi ["tape", "n", "states", "names"] X G P3;obtain ⟨_,u1⟩:=Zi ["tape"] X G R9;obtain ⟨_,u2⟩:=Zi ["rule", "stand"] X G R3;obtain ⟨_,u4⟩:=Zi ["rule", "stand"] X G C3;obtain ⟨_,y1⟩:=Zi ["manner", "found"] X G L9;obtain ⟨_,B4⟩:=Zi ["way", "manner", "stand", "number"] X G H3
 obtain ⟨_,B1⟩:=Zi ["caught"] X G S2;obtain ⟨_,u5⟩:=Zi ["way", "manner", "stand", "number"] X G M6;obtain ⟨_,y7⟩:=Zi ["tape", "manner"] X G M0;obtain ⟨_,v7⟩:=Zi ["tape", "manner", "stand"] X G B6;have I1:=Qsm (st:=xi) (ps:=["script"]) X G x4 R7 H5 B7 fun _ _ _ _ _ _ us hl=>match us,hl with | [_],_=>rfl
 refine ⟨cA "law" "law" (W5 xi) (Zk xi) (Qb xi) .none p8 q0 p6 p7 n6 p9,fun s v=>.of_eq rfl,fun base kb nb=>?_⟩;have i7:=A1.d l.prog w base rfl (Qa1 A1.F T    );have a8:=A2.d l.prog w base rfl (Q5k A2.F T   i7 );have o9:=A3.d l.prog w base rfl (Q7y A3.F T    );have j:=A4.d l.prog w base rfl (xn A4.F T    );have c2:=A5.d l.prog w base rfl (Qc6 A5.F T    );have i1:=A6.d l.prog w base rfl (Q80 A6.F T   j a8 c2 );have b1:=A7.d l.prog w base rfl (Kr A7.F T   j i1 );have k5:=A8.d l.prog w base rfl (Qc7 A8.F T   j a8 c2 b1 );have i3:=A9.d l.prog w base rfl (Q83 A9.F T   j k5 );have f0:=v6.d l.prog w base rfl (Q5m v6.F T   j c2 )
 have i2:=u6.d l.prog w base rfl (Q7z u6.F T   j a8 f0 i3 );have q:=w3.d l.prog w base rfl (Q3x w3.F T  i5 i2 );have c3:=v5.d l.prog w base rfl (Q82 v5.F T    );have d2:=x6.d l.prog w base rfl (Q3y x6.F T    );have Y:=w9.d l.prog w base rfl (zd w9.F T   d2 );have c8:=B0.d l.prog w base rfl (Q1v B0.F T    );have b6:=u7.d l.prog w base rfl (Q40 u7.F T   q c3 );have g9:=B3.d l.prog w base rfl (Qfp B3.F T   q Y );have g8:=y5.d l.prog w base rfl (Qfq y5.F T  l1 q Y c8 );have k9:=z1.d l.prog w base rfl (Qfn z1.F T    );have l9:=x9.d l.prog w base rfl (Q0r x9.F T    );have k7:=y4.d l.prog w base rfl (xq y4.F T    )
 have i0:=B5.d l.prog w base rfl (Qfm B5.F T    );have n7:=t9.d l.prog w base rfl (Qin t9.F T   q i0 );have e0:=t8.d l.prog w base rfl (Q3w t8.F T    );have i9:=v9.d l.prog w base rfl (Qa2 v9.F T   q e0 );have d6:=t5.d l.prog w base rfl (Q3z t5.F T    );have c9:=x5.d l.prog w base rfl (Q1w x5.F T    );have n9:=u8.d l.prog w base rfl (Qiq u8.F T   q d6 c3 c9 );have o5:=z2.d l.prog w base rfl (Q81 z2.F T    );have n3:=u9.d l.prog w base rfl (Q1u u9.F T    );have c6:=w0.d l.prog w base rfl (Q0q w0.F T    );have n4:=x1.d l.prog w base rfl (Qip x1.F T  k4 q i0 c6 k9 );have c4:=w8.d l.prog w base rfl (xr w8.F T    );have z:=z3.d l.prog w base rfl (Q1x z3.F T   c4 )
 have b7:=x7.d l.prog w base rfl (Q43 x7.F T   z );have b3:=y8.d l.prog w base rfl (qq y8.F T   b7 );have d8:=w7.d l.prog w base rfl (Q42 w7.F T   z );have c5:=u1.d l.prog w base rfl (Q0s u1.F T   z b7 b3 d8 );have b9:=u2.d l.prog w base rfl (Q46 u2.F T    );have b8:=u4.d l.prog w base rfl (Q41 u4.F T    );have a1:=y1.d l.prog w base rfl (ye y1.F T    );have d1:=B4.d l.prog w base rfl (Q47 B4.F T   g8 b6 g9 i9 n9 n7 n4 );have d0:=B1.defX (P:=l.prog) (w:=w) (base:=base) (Q45 B1.F T Nm T9 T3   );have a7:=u5.d l.prog w base rfl (xt u5.F T Nm T9 T3  d1 d0 );have d3:=y7.d l.prog w base rfl (Q44 y7.F T   z )
 have b2:=v7.d l.prog w base rfl (qp v7.F T   b9 g9 z g8 a1 b8 a7 );exact Qnv hL (Qrh I1.F T   c5 a1 b6 b2 b9 z d3 b8 a7 ) Qnw
end Lw
namespace PySem.W.Fast
local macro_rules|`(command|open $n*)=>return Lean.mkNullNode (<-n.mapM λn=>`(command|theorem $n:ident:True:=trivial))
open tw17028692454612537256 tw363700959503019937 tw9286638117792583310 tw2415635908923984027 tw1588416966815109666 tw122199554165433035 tw6527094094546686795 tw3501017281986745442 tw874388405985974122 tw14217883461473648232 tw10262886368804919400 tw17951702392762681100 tw9637906241910367989 tw257439119947209239 tw4815249914982972205 tw16410740704837930810 tw1455803972371751558 tw12139580484418965460 tw10345599467217979183 tw2118295668051636317 te17639923426851911175 te5507688993176053124 te14029308370886778045 te7039854988532567779 te2038565647760649598 te11507844996149965556 te3132796115727911853 te14906968079832921436 te5873758828453436023 te1845580647922634100 te1440238728956985197 te18207553444133484923 te12087883575233092005 te4347128653721127617 te1061371024677899349 te17778562507883137044 te8685776062078394601 te16129438351663774453 te7983883527525480618 te13894222884884498454 te5029291541403273911 te625104790544749095 te12291240790866822918 te14145301128292776234 te12021401567226623752 te16451601013758103508 te12291954528837991 te5287543074350422117 te1990088188408473273 te6738156660053760593 te4841294471317421115 te10783438235115107226 te3988677288652580503 te15349373647327502112 te2293796599409667132 te11838401373918175999 te1226700939884413635 te9929522879989585487 te3207876426417478333 te2212276390712887880 te9679041258587210081 te17089979578818722695 te9277987078327135046 te14841540353589543991 te13362208812361160199 te14479891081074439850 te4561481421606230133 te2042029263726762608 te12232720660933949376 te8021819622216638212 te14963081032052004949 te13326760925983694129 te3340318786952969561 te11998671026696736935 te1489698499665267317 te13112276675248996171 te10186933657777525956 te5946739512101487443 te8100342835482185432 te5122047006093510042 te16824807077419082771 te10602618279071925273 te12533671820510289098 te18165277843812415272 te7645870082552492954 te645494551071881580 te16007375017404174066 te4809422516601739912 te14290719752145750747 te2439562617285863445 te9410230986092654513 te12538615010982344035 te4823646150324865328 te6436860769241996675 te5649464972150617394 te869570890283221899 te14303812289441296732 te6478437436739409031 te14198866752643233515 te12310003821302011875 te5231293022235754203 te14683499135532756211 te9616570190015220389 te16556138535011530595 te4220332363209579823 te1761659014733855766 te14283365627766212453 te6677125013484859497 te16110732623015084338 te6038893709328743366 te550204933511225628 te6422100982951490773 te9253171486612677958 te15806036960951938939 te10060389798197118660 te17733850915006394515 te1558745610733796031 te16769639689840906514 te9720240914347251562 te14113318691844123962 te4775842829464906963 te16099607770998876652 te10622696018375815564 te17004257860777696428 te3228397031432117122 te14691226680681663878 te8668019314463813285 te17818932499081818744 te10928651848324686056 te1801258260482478759 te12884752490817225970
end PySem.W.Fast
open PySem PySem.W PyProof.Rows Sm
set_option maxRecDepth 100000 in
set_option maxHeartbeats 0 in
theorem PySem.Challenge.cw_lendwharf_k60_stands_and_rules_holds : PySem.Challenge.rw_lendwharf_k60_stands_and_rules.Holds := by
 w_on; o_law; k_head; (case hw=>w_witness2)
 k_fill
 refine Sm.walkS (l:=PySem.Challenge.rw_lendwharf_k60_stands_and_rules) (k:=13) rfl ⟨rfl,by decide,by decide⟩ rfl (fun w h Y=>PySem.W.kIn_of Y) ?F
 case F=>
  intro w mg fa h KX G hmg;refine' Lw.all_mk KX G hmg ..
  any_goals k_is
  any_goals exact FA.mk (by k_is) (by k_is) (by k_is) (by k_is)
  any_goals k_exc
  all_goals first | kts_exm | kit_is | rfl | decide
