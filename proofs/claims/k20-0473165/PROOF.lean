import PyProof.Rows.All
import Wide.All
import OpenK.AllK
import Wide.FinOn
import Lean
import PyProof.EqAt
import PyProof.EqKinds
import PyProof.TupleCall
import PyProof.ZipIter
import PyProof.Draws
import PyProof.SumAny
import PyProof.EnumMake
import PyProof.WalkInts
import PyProof.ExcArgsOwn
import PyProof.ExcAttrAll.ValueError
import PyProof.NsDelKeeps
import KE.KTryMore
import OpenK.KOwn
import PyProof.ListMulRoad
import PyProof.FactsAll.tuple_2
import PyProof.NeKinds
import PyProof.Rows.RuleIs
import PyProof.ExcInit
import PyProof.ExcClass3
import OpenK.KCls
import PyProof.InstStoreFacts
import OpenK.KMake
import PyProof.DictRoads
import PyProof.Rows.CountFlat
import PyProof.ListRange
import PyProof.Rows.SetFrom
import PyProof.CollectStr
import PyProof.Rows.TupMore
import PyProof.AttrMissHeap
import KE.KDictOf
import PyProof.DictWalks
import KE.KSortTup
import PyProof.DictItemsLoops
import KE.KDictList
import PyProof.CallStr
import PyProof.Conv_int_bool
import PySem.Challenge.RW_lendwharf_k20_whole_letters_late_and_aga
set_option Elab.async false
set_option linter.all false
set_option maxRecDepth 100000
set_option maxHeartbeats 4000000
open List renaming getElem?_eq_some_iff -> O0, length_map -> O2, length_append -> O3, size_toArray -> O4, getElem?_append_left -> O5, getElem?_set_ne -> O6, getElem?_eq_getElem -> O7, getElem?_append_right -> O9, mem_cons_of_mem -> D0, mem_of_getElem? -> D2, mem_cons_self -> D3, length_set -> D4, map_append -> D5, getElem?_set_self -> D7, mem_cons -> D8, length_cons -> E3, mem_range -> E4, mem_append_right -> E5, lookup_cons -> E6, getElem?_map -> E8, mem_append -> E9, getElem?_range -> F1, length_range -> F4, map_cons -> F5, getElem?_eq_none -> F6, getD_eq_getElem?_getD -> F7, append_assoc -> F8, mem_append_left -> G6, getElem?_replicate -> G7, map_map -> G9, all_eq_true -> L5
open PySem.Heap renaming get?_push_of_some -> O1, lt_size -> D1, get?_push_size -> D9, get?_update_other -> F0, size_push -> F9, get?_update_self -> L6
open Nat renaming le_refl -> O8, lt_of_lt_of_le -> D6, le_of_lt -> E7, ne_of_lt -> F2, le_trans -> F3
open Bool renaming false_ne_true -> E2, and_eq_true -> G8
open PySem renaming Addr -> aA, Value -> aB, Shared -> aC, Expr -> aD, wpAny_bind -> aF, wpAny -> aI, model -> aJ, Stmt -> aL, World -> aM, eval -> aN, Program -> aO, starEach -> aP, FuncData -> aQ, Around -> aR, wpAny_pure -> aU, mainGlobals -> aV, backTo -> aW, compareOp -> aX, binaryOp -> aY, IsPair -> aZ, wpAny_field -> aa, bootBuiltins -> ac, cLine -> ae, wpAny_mono -> af, rawInt -> ag, cellsFrom -> ai, sysModules -> aj, holding -> ak, attributeBase -> am, NameKind -> ao, assignEach -> aq, wpAny_truthy_bool -> ar, call_meets -> au, wpAny_newObj_type -> av, Paired -> aw, wpAny_seqItems -> ay, wpAny_holding -> az, wpAny_passesOwn -> bA, pyNext -> bB, foldedSetIterable -> bC, sliceBounds -> bD, valueAt -> bE, behindInMarks -> bF, codeAny_mono -> bG, wpAny_call_entry -> bH, wpAny_setField_rec -> bI, wpAny_typeOf -> bJ, wpAny_rule -> bK, wpAny_pyIter_tuple -> bL
open PySem.Str renaming ofString -> bR, empty -> fo
open PySem.W renaming Frag -> bS, findIn -> bW, nsIn -> bY, keepIn -> bZ, fnOf -> ba, excIn -> bc, codeIn -> bh, isFn -> bo, mg_of -> bp, mg_none_of -> bq, kia_one -> bu, emptyDict -> bx, instObj -> cI, plainGet -> dA, callWith_K -> dC, exmOne -> dG, hideAll -> dM, hideAll_get -> dN, lookIn -> dQ, hasDictIn -> dR, clsIn -> eA, methodObj -> eF, plainGet_of -> eJ, plainOver -> eK, takerIn -> eL, makesIn -> eM, specialIn -> eO, mroIn -> eP, kitOne -> eQ, cellsFrom_some -> eR, OpenLaw -> ek, of_hideAll -> fX, hideAll_none -> fY, handedIn -> fk, looks_findIn -> fm, takesIn -> fq, kitx_list -> ft, kitx_dict -> fu, methodCall_KW -> fw, WalkO -> gG
open List renaming replicate -> bT, range -> bU, getD -> bb, append_nil -> bv, lookup -> cB, length_take -> cC, mem_map -> cG, mem_filter -> cJ, replicate_succ -> cM, find?_cons -> cO, not_mem_nil -> cQ, length_nil -> cU, length_drop -> cV, flatten_cons -> cW, all_cons -> cX, prefix_refl -> cY, range_succ -> cZ, mem_singleton -> cc, of_mem_zip -> cj, map_nil -> cp, foldl_cons -> cu, length_pos_iff -> dE, prefix_append -> dH, any_eq_true -> dJ, ext_getElem? -> dL, filterMap_cons -> dO, nodup_cons -> dS, foldl -> dW, forIn_cons -> dY, any_cons -> dZ, any_map -> da, getElem_mem -> db, mem_iff_getElem -> df, getElem_of_mem -> dg, nodup_append -> dh, getElem?_set -> di, drop_zero -> dj, length_zip -> dk, getElem?_zip_eq_some -> dl, eraseIdx_eq_take_drop_succ -> dn, map_take -> dy, mem_or_eq_of_mem_set -> dz, mem_filterMap -> eI, length -> eT, length_replicate -> eU, length_singleton -> eZ, map_congr_left -> eu, forIn_nil -> fC, take_length -> fD, range_succ_eq_map -> fE, all_map -> fF, drop_length -> fL, length_filter_le -> fN, eq_of_mem_replicate -> fP, map_replicate -> fR, eq_replicate_iff -> fS, find?_cons_of_neg -> fT, any_eq_false -> fj, zip_cons_cons -> fy, eraseIdxIfInBounds_toArray -> gE, nil_append -> gF, zipIdx_cons -> gI, zipIdx_nil -> gJ, sum_append -> gK, isEmpty_toArray -> gQ, isEmpty_iff -> gR, pairwise_iff_getElem -> gU, drop_eq_getElem_cons -> gX, dropLast_eq_take -> gY, map_drop -> gZ, set_append_right -> gc, take_of_length_le -> gk, mem_toArray -> gm, nodup_nil -> gq, any_filter -> gr, set -> gy, mem_flatMap -> gz, mem_of_mem_take -> hR
open PySem.Value renaming ref -> bV, none -> bf, isStrOf -> br, bool -> cH, int -> ce, builtin -> cx, str -> cz, float -> eB, type -> eC, isInt -> fV, bytes -> fW, notImplemented -> gA
open PySem renaming boot_len -> bX, mem_of_lookup -> cD, Env -> dq, Within -> eE, call -> ee, list_append -> gC, seqSlot_of -> gO
open Int renaming le_refl -> bg, le_trans -> bi, toNat_natCast -> cE, fdiv_eq_ediv_of_nonneg -> fh, emod_eq_of_lt -> gv, le_antisymm -> gw, natCast_add -> hU, add_zero -> hW
open Option.some renaming inj -> bj
open Nat renaming lt_irrefl -> bt, ne_of_gt -> cK, le_succ -> cL, not_lt_zero -> cb, lt_succ_self -> cg, lt_succ_of_lt -> cv, sub_self -> cy, zero_le -> dB, min_le_left -> dm, le_of_eq -> eN, mul_comm -> ec, eq_zero_or_pos -> fJ, min_self -> fK, add_sub_cancel_left -> fQ, mul_le_mul -> fU, lt_of_le_of_lt -> gL, sub_zero -> gW, le_total -> gf, min_eq_left -> gg, min_eq_right -> gh, pow_le_pow_right -> gu, zero_add -> hJ
open PySem.Obj renaming mapFields -> bw, data_mapFields -> cF, mapSeq -> cr, isFreed_of_fields -> dD, cls_mapFields -> ez
open Prod renaming fst -> cP, snd -> fH
open Sum renaming inl -> cR, inr -> cS
open Array renaming getElem?_eq_some_iff -> cw, length_toList -> eG, getElem?_setIfInBounds_ne -> fG, append_assoc -> fZ, toList -> fb, getElem?_toList -> gD
open PySem.F renaming excBase_ValueError -> dF, slot_tuple_add -> eV, entry_tuple_add -> eX, args_tuple_add_2 -> eY, plainAttrs_list -> fM, slot_dict_get -> gT
open Bool renaming eq_iff_iff -> dI, and_false -> dX, true_and -> fO, false_and -> fe, false_eq_true -> gH, not_true -> gM, or_eq_true_iff -> gP, or_eq_true -> gS
open PyProof.Rows renaming callWith_type1 -> dP, slot_tuple_getitem -> dU, envOfC -> du, callWith_builtin1 -> hX, lt_int -> hZ
open Option renaming bind_some -> dw, isSome_iff_exists -> fx, getD_none -> gB
noncomputable section
theorem bN {c:Prop}{h:Decidable c}(j:c){α:Sort _}{t e:α}:ite c t e=t:=if_pos j
theorem bO {c:Prop}{h:Decidable c}(j:¬c){α:Sort _}{t e:α}:ite c t e=e:=if_neg j
theorem bP {p:Prop}[i:Decidable p](h:¬p):decide p=false:=decide_eq_false h
theorem bQ {p:Prop}[i:Decidable p](h:p):decide p=true:=decide_eq_true h
namespace L2
open PySem PySem.Spec PyProof.Rows
abbrev Key:=Sum Int Str
def qx:Key->aB->Bool
 | .inl k,v=>fV k v
 | .inr x,v=>br x v
def Qz8 (w:aM):Key->Int
 | .inl k=>hashInt k
 | .inr x=>hashStr w x
theorem Wn:∀ {k:Key} {v:aB},qx k v=true->(∃ i t,k=cR i/\v=ce i t)\/(∃ x t,k=cS x/\v=cz x t)
 | .inl i,v,h=>by
  obtain ⟨t,e⟩:=Value.isInt_shape (k:=i) (v:=v) h;exact .inl ⟨i,t,rfl,e⟩
 | .inr x,v,h=>by
  obtain ⟨t,e⟩:=Value.isStrOf_shape (x:=x) (v:=v) h;exact .inr ⟨x,t,rfl,e⟩
theorem Qi5 (i:Int) (t:Tok):qx (.inl i) (.int i t)=true:=by simp [qx,fV]
theorem Qi4 (x:Str) (t:Tok):qx (.inr x) (.str x t)=true:=by simp [qx,br]
theorem Qu1 (a b:Int):decide ((cR a:Key)=cR b)=(a == b):=by
 by_cases e:a=b
 ·subst e; simp
 ·have h:¬ (cR a:Key)=cR b:=fun q=>e (Sum.inl.inj q)
  rw [bP h];exact (beq_eq_false_iff_ne.mpr e).symm
theorem Qty (a b:Str):decide ((cS a:Key)=cS b)=decide (a=b):=by
 by_cases e:a=b
 ·subst e; simp
 ·have h:¬ (cS a:Key)=cS b:=fun q=>e (Sum.inr.inj q)
  rw [bP h,bP e]
theorem Qu0 (a:Int) (b:Str):decide ((cR a:Key)=cS b)=false:=bP (fun q=>nomatch q)
theorem Qtz (a:Str) (b:Int):decide ((cS a:Key)=cR b)=false:=bP (fun q=>nomatch q)
def J4 (prog:aO) (w:aM):PySem.KeyKind prog w Key where
 is:=qx
 hash:=Qz8 w
 inj:=fun v a b ha hb=>by
  rcases Wn ha with ⟨i,t,rfl,rfl⟩ | ⟨x,t,rfl,rfl⟩
  ·rcases Wn hb with ⟨j,u,rfl,e⟩ | ⟨y,u,rfl,e⟩
   ·injection e with e1 _; rw [e1]
   ·exact nomatch e
  ·rcases Wn hb with ⟨j,u,rfl,e⟩ | ⟨y,u,rfl,e⟩
   ·exact nomatch e
   ·injection e with e1 _; rw [e1]
 byValue:=fun k v h=>by
  rcases Wn h with ⟨i,t,rfl,rfl⟩ | ⟨x,t,rfl,rfl⟩ <;> rfl
 pyHash:=fun hv h=>by
  rcases Wn hv with ⟨i,t,rfl,rfl⟩ | ⟨x,t,rfl,rfl⟩
  ·exact wpAny_pyHash_int h
  ·exact wpAny_pyHash_str h
 eqBool:=fun hu hv h=>by
  rcases Wn hu with ⟨i,t,rfl,rfl⟩ | ⟨x,t,rfl,rfl⟩
  ·rcases Wn hv with ⟨j,u,rfl,rfl⟩ | ⟨y,u,rfl,rfl⟩
   ·rw [Qu1] at h; exact wpAny_eqBool_int h
   ·rw [Qu0] at h; exact SeqAt.EqAt.int_str i t y u _ _ _ _ h
  ·rcases Wn hv with ⟨j,u,rfl,rfl⟩ | ⟨y,u,rfl,rfl⟩
   ·rw [Qtz] at h; exact SeqAt.EqAt.str_int x t j u _ _ _ _ h
   ·rw [Qty] at h; exact wpAny_eqBool_str h
 «strs»:=fun k x t v h=>by
  rcases Wn h with ⟨i,u,rfl,e⟩ | ⟨y,u,rfl,e⟩
  ·exact nomatch e
  ·injection e with e1 _
   subst e1;cases v <;> rfl
theorem Qdm (prog:aO) (w:aM) (i:Int) (t:Tok):(J4 prog w).is (.inl i) (.int i t)=true:=Qi5 i t
theorem Qdk (prog:aO) (w:aM) (x:Str) (t:Tok):(J4 prog w).is (.inr x) (.str x t)=true:=Qi4 x t
inductive V where
 | non | bl (b:Bool) | int (i:Int) | str (x:Str) | byt (b:Array UInt8) | flt (b:UInt64) | ref (a:aA) | ty (n:String)
 deriving DecidableEq
def RelV:V->aB->Prop
 | .non,u=>u=bf
 | .bl b,u=>u=cH b
 | .int i,u=>∃ t,u=ce i t
 | .str x,u=>∃ t,u=cz x t
 | .byt b,u=>∃ t,u=fW b t
 | .flt b,u=>∃ t,u=eB b t
 | .ref a,u=>u=bV a
 | .ty n,u=>u=eC n
abbrev Vals:List V->List aB->Prop:=aw RelV
theorem Vals.length {xs:List V} {us:List aB} (r:Vals xs us):xs.length=us.length:=Paired.length r
theorem Vals.get:∀ {xs:List V} {us:List aB} {i:Nat} {x:V},Vals xs us->xs[i]?=some x->∃ u,us[i]?=some u/\RelV x u
 | _,_,_,_,.nil,e=>by simp at e
 | _,_,0,_,.cons r _,e=>by simp at e; subst e; exact ⟨_,rfl,r⟩
 | _,_,i + 1,x,.cons _ t,e=>by
  obtain ⟨u,h1,h2⟩:=Vals.get (i:=i) (x:=x) t (by simpa using e);exact ⟨u,by simpa using h1,h2⟩
theorem Vals.set {x:V} {u:aB} (r:RelV x u):∀ {xs:List V} {us:List aB} (i:Nat),Vals xs us->Vals (xs.set i x) (us.set i u)
 | _,_,_,.nil=>.nil
 | _,_,0,.cons _ t=>.cons r t
 | _,_,i + 1,.cons q t=>.cons q (Vals.set r i t)
theorem Vals.append:∀ {xs ys:List V} {us j:List aB},Vals xs us->Vals ys j->Vals (xs ++ ys) (us ++ j)
 | _,_,_,_,.nil,s=>s
 | _,_,_,_,.cons r t,s=>.cons r (Vals.append t s)
theorem Vals.take:∀ {xs:List V} {us:List aB} (n:Nat),Vals xs us->Vals (xs.take n) (us.take n)
 | _,_,0,_=>.nil
 | _,_,_ + 1,.nil=>.nil
 | _,_,n + 1,.cons r t=>.cons r (Vals.take n t)
theorem Vals.drop:∀ {xs:List V} {us:List aB} (n:Nat),Vals xs us->Vals (xs.drop n) (us.drop n)
 | _,_,0,r=>r
 | _,_,_ + 1,.nil=>.nil
 | _,_,n + 1,.cons _ t=>Vals.drop n t
def RelO:Option V->Option aB->Prop
 | some v,some u=>RelV v u
 | none,none=>True
 | _,_=>False
def KV {κ:Type}:List (κ × V)->List (κ × aB)->Prop:=aw fun (p:κ × V) (q:κ × aB)=>p.1=q.1/\RelV p.2 q.2
def kV:Key->V
 | .inl i=>.int i
 | .inr x=>.str x
inductive HO where
 | lst (xs:List V)
 | tup (xs:List V)
 | dK (kvs:List (Key × V)) | dT (kvs:List (List Key × V))
 | set (S:Int->Bool) (n:Nat)
 | ins (C dx:aA) (fs:List (Str × V))
 | own (x:aA)
 | xd (fs:List (Str × V))
 | met (f x:aA)
 | rng (lo hi:Int)
 | frz (o:Obj) (u:HO)
 | tbl (ps:Array aB)
 | ext (φ:Heap->Prop)
abbrev Hp:=aA->Option HO
def upd (H:Hp) (a:aA) (o:HO):Hp:=fun b=>if b=a then some o else H b
theorem Je {H:Hp} {a:aA} {o:HO}:upd H a o a=some o:=by unfold upd; rw [bN rfl]
theorem Qi {H:Hp} {a b:aA} {o:HO} (h:b≠a):upd H a o b=H b:=by unfold upd; rw [bO h]
theorem Qm {H:Hp} {a b:aA} {o:HO} (h:H a=some o) (h':H b=none):a≠b:=by
 intro e; subst e; rw [h] at h'; cases h'
section
variable (P:aO) (w:aM)
def ObjOk (H:Hp) (h:Heap) (a:aA):HO->Prop
 | .lst xs=>xs.length<=sizeLine/\∃ (its:List aB) (n:Nat),Vals xs its/\h.get? a=some { cls:=.type "list",data:=.seq its.toArray n }
 | .tup xs=>xs.length<=sizeLine/\∃ its:List aB,Vals xs its/\IsTup h a its.toArray
 | .dK kvs=>kvs.length<=sizeLine/\(a == aj)=false/\∃ vs,KV kvs vs/\h.DictOf (J4 P w) a vs
 | .dT kvs=>kvs.length<=sizeLine/\(a == aj)=false/\∃ xs:List (List Key × aA × aB),
   aw (fun (p:List Key × V) (q:List Key × aA × aB)=>p.1=q.1/\H q.2.1=some (.tup (p.1.map kV))/\RelV p.2 q.2.2) kvs xs /\
   ∃ o es ep,h.get? a=some o/\o.ExactDict/\o.data=.dict es ep/\es.toList=xs.map (entryOfKey (tupleKind (J4 P w)))/\(xs.map (·.1)).Nodup
 | .set S n=>h.SetOf (intKind P w) a S n
 | .ins C dx fs=>H dx=some (.own a)/\fs.length<=1000/\dx≠a/\h.get? a=some (cI C dx) /\
   ∃ mA,h.Ns1 dx mA/\(∀ f,RelO (fs.lookup f) (mA f))/\eE mA (fs.map (·.1))
 | .own _=>∃ o,h.get? a=some o
 | .xd fs=>∃ mA,h.Ns1 a mA/\∀ f,RelO (fs.lookup f) (mA f)
 | .rng lo hi=>∃ t u v,h.get? a=some { cls:=.type "range",data:=.fields #[.int lo t,.int hi u,.int 1 v] }
 | .frz o u=>h.get? a=some o/\ObjOk H h a u
 | .tbl ps=>h.get? a=some { cls:=.none,data:=.fields ps }
 | .met f x=>h.get? a=some (eF (.ref f) (.ref x))
 | .ext φ=>φ h/\(∃ o,h.get? a=some o)/\∀ h1 h2:Heap,φ h1->(∀ o,h1.get? a=some o->h2.get? a=some o)->φ h2
def HOk (H:Hp) (h:Heap):Prop:=∀ a o,H a=some o->ObjOk P w H h a o
end
section
variable {P:aO} {w:aM} {H H':Hp} {h h':Heap} {a:aA} {o:HO}
theorem ObjOk.lt (x:ObjOk P w H h a o):a < h.objs.size:=by
 cases o with
 | lst xs=>obtain ⟨_,_,_,_,e⟩:=x; exact D1 e
 | tup xs=>obtain ⟨_,_,_,p⟩:=x; exact p.lt
 | dK kvs=>obtain ⟨_,_,_,_,o,_,_,e,_⟩:=x; exact D1 e
 | dT kvs=>obtain ⟨_,_,_,_,o,_,_,e,_⟩:=x; exact D1 e
 | set S n=>obtain ⟨o,_,_,_,e,_⟩:=x; exact D1 e
 | ins C dx fs=>obtain ⟨_,_,_,e,_⟩:=x; exact D1 e
 | own y=>obtain ⟨_,e⟩:=x; exact D1 e
 | xd fs=>obtain ⟨_,⟨_,_,_,e,_⟩,_⟩:=x; exact D1 e
 | rng lo hi=>obtain ⟨_,_,_,e⟩:=x; exact D1 e
 | frz ob u=>obtain ⟨e,_⟩:=x; exact D1 e
 | tbl ps=>exact D1 (show h.get? a=some _ from x)
 | met f y=>exact D1 (show h.get? a=some _ from x)
 | ext j=>obtain ⟨_,⟨_,e⟩,_⟩:=x; exact D1 e
theorem Paired.mapP {α β:Type} {F G:α->β->Prop}:∀ {l₁:List α} {l₂:List β},aw F l₁ l₂->(∀ a b,F a b->G a b)->aw G l₁ l₂
 | _,_,.nil,_=>.nil
 | _,_,.cons r t,f=>.cons (f _ _ r) (Paired.mapP t f)
theorem ObjOk.stay (x:ObjOk P w H h a o) (k:∀ b u,(b=a\/H b=some (.own a))->h.get? b=some u->h'.get? b=some u)
  (I:∀ b,H b=some (.own a)->H' b=some (.own a)) (G:∀ b xs,H b=some (.tup xs)->H' b=some (.tup xs)):ObjOk P w H' h' a o:=by
 induction o with
 | lst xs=>obtain ⟨z,its,n,r,e⟩:=x; exact ⟨z,its,n,r,k _ _ (.inl rfl) e⟩
 | tup xs=>obtain ⟨z,its,r,ob,e,c⟩:=x; exact ⟨z,its,r,ob,k _ _ (.inl rfl) e,c⟩
 | dK kvs=>obtain ⟨z,y,vs,r,ob,es,j,e,c⟩:=x; exact ⟨z,y,vs,r,ob,es,j,k _ _ (.inl rfl) e,c⟩
 | dT kvs=>
  obtain ⟨z,y,xs,r,ob,es,j,e,c⟩:=x;exact ⟨z,y,xs,Paired.mapP r fun p q z=>⟨z.1,G _ _ z.2.1,z.2.2⟩,ob,es,j,k _ _ (.inl rfl) e,c⟩
 | set S n=>obtain ⟨ob,es,j,t,e,c⟩:=x; exact ⟨ob,es,j,t,k _ _ (.inl rfl) e,c⟩
 | ins C dx fs=>
  obtain ⟨d,z,ne,e,mA,⟨B,es,j,e2,c⟩,r⟩:=x;exact ⟨I _ d,z,ne,k _ _ (.inl rfl) e,mA,⟨B,es,j,k _ _ (.inr d) e2,c⟩,r⟩
 | own y=>obtain ⟨ob,e⟩:=x; exact ⟨ob,k _ _ (.inl rfl) e⟩
 | xd fs=>obtain ⟨mA,⟨B,es,j,e,c⟩,r⟩:=x; exact ⟨mA,⟨B,es,j,k _ _ (.inl rfl) e,c⟩,r⟩
 | rng lo hi=>obtain ⟨t,u,v,e⟩:=x; exact ⟨t,u,v,k _ _ (.inl rfl) e⟩
 | frz ob u J=>obtain ⟨e,q⟩:=x; exact ⟨k _ _ (.inl rfl) e,J q⟩
 | tbl ps=>
  have e:h.get? a=some { cls:=.none,data:=.fields ps }:=x;show h'.get? a=some { cls:=.none,data:=.fields ps };exact k a _ (.inl rfl) e
 | met f y=>
  have e:h.get? a=some (eF (.ref f) (.ref y)):=x;show h'.get? a=some (eF (.ref f) (.ref y));exact k a _ (.inl rfl) e
 | ext O=>obtain ⟨p,⟨o,e⟩,st⟩:=x; exact ⟨st _ _ p fun o q=>k _ _ (.inl rfl) q,⟨o,k _ _ (.inl rfl) e⟩,st⟩
theorem HOk.lt (x:HOk P w H h) (e:H a=some o):a < h.objs.size:=(x a o e).lt
theorem HOk.fresh (x:HOk P w H h) (e:h.objs.size<=a):H a=none:=by
 cases q:H a with
 | none=>rfl
 | some u=>exact absurd (D6 (x.lt q) e) (bt _)
theorem HOk.kept (x:HOk P w H h) (k:∀ b u,h.get? b=some u->h'.get? b=some u):HOk P w H h':=fun a o e=>
 (x a o e).stay (fun b u _ q=>k b u q) (fun _ q=>q) fun _ _ q=>q
theorem HOk.laid (x:HOk P w H h) (k:∀ b u,h.get? b=some u->h'.get? b=some u) (hp:h.objs.size<=a) (new:ObjOk P w (upd H a o) h' a o):HOk P w (upd H a o) h':=fun b u e=>by
 have z:=x.fresh hp
 by_cases j:b=a
 ·subst j; rw [Je] at e; cases e; exact new
 ·rw [Qi j] at e;exact (x b u e).stay (fun c v _ q=>k c v q) (fun c q=>by rw [Qi (Qm q z)]; exact q) fun c xs q=>by rw [Qi (Qm q z)]; exact q
end
def Rd (H:Hp) (a:aA) (u:HO):Prop:=H a=some u\/∃ o,H a=some (.frz o u)
theorem Rd.ok {P:aO} {w:aM} {H:Hp} {h:Heap} {a:aA} {u:HO} (r:Rd H a u) (x:HOk P w H h):ObjOk P w H h a u:=by
 rcases r with r | ⟨o,r⟩
 ·exact x a u r
 ·obtain ⟨_,q⟩:=x a _ r;exact q
def Mut:Option HO->Prop
 | some (.lst _)=>True
 | some (.dK _)=>True
 | some (.dT _)=>True
 | some (.set _ _)=>True
 | some (.ins _ _ _)=>True
 | some (.ext _)=>True
 | _=>False
section
variable {P:aO} {w:aM} {H:Hp} {h h':Heap} {x e:aA} {o':HO}
theorem HOk.write (ok:HOk P w H h) (O:Mut (H x)) (Y:e=x\/H e=some (.own x)) (k:∀ b u,b≠e->h.get? b=some u->h'.get? b=some u) (U:∃ u,h'.get? e=some u)
  (new:ObjOk P w (upd H x o') h' x o'):HOk P w (upd H x o') h':=fun b u q=>by
 have B:∀ c y,H c=some (.own y)->c≠x:=fun c y r z=>by subst z; rw [r] at O; exact O
 have G:∀ c xs,H c=some (.tup xs)->c≠x:=fun c xs r z=>by subst z; rw [r] at O; exact O
 by_cases I:b=x
 ·subst I; rw [Je] at q; cases q; exact new
 ·rw [Qi I] at q
  by_cases j:b=e
  ·have Z:H b=some (.own x):=by
    rcases Y with z | z
    ·exact absurd (j.trans z) I
    ·rw [j]; exact z
   rw [q] at Z; cases Z;obtain ⟨v,hv⟩:=U;exact ⟨v,by rw [j]; exact hv⟩
  ·refine (ok b u q).stay (fun c v J r=>k c v ?_ r) (fun c r=>by rw [Qi (B c b r)]; exact r) fun c xs r=>by rw [Qi (G c xs r)]; exact r
   rcases J with rfl | J
   ·exact j
   ·rintro rfl;rcases Y with z | z
    ·exact B c b J z
    ·rw [J] at z; cases z; exact I rfl
end
structure Un (fs ex:List aA) (H H':Hp) (h h':Heap):Prop where
 keep:∀ b o,h.get? b=some o->H b=none->b∉fs->b∉ex->h'.get? b=some o
 slot:∀ b o,h.get? b=some o->H b=none->b∈fs->b∉ex->∃ sl,h'.get? b=some { o with slots:=sl }
 free:∀ b o,h.get? b=some o->H b=none->b∉ex->H' b=none
 there:∀ b o,h.get? b=some o->b∉ex->∃ o',h'.get? b=some o'
 tups:∀ b xs,H b=some (.tup xs)->H' b=some (.tup xs)
 frzs:∀ b o u,H b=some (.frz o u)->H' b=some (.frz o u)
 tbls:∀ b ps,H b=some (.tbl ps)->∃ more,H' b=some (.tbl (ps ++ more))
section
variable {fs fs' ex ex':List aA} {H H1 H2:Hp} {h h1 h2 h':Heap} {a x e:aA} {o:HO}
theorem Un.any (u:Un fs ex H H1 h h1) {b:aA} {ob:Obj} (q:h.get? b=some ob) (n:H b=none) (z:b∉ex):∃ sl,h1.get? b=some { ob with slots:=sl }:=by
 by_cases j:b∈fs
 ·exact u.slot b ob q n j z
 ·exact ⟨ob.slots,u.keep b ob q n j z⟩
theorem Un.kept (k:∀ b u,h.get? b=some u->h'.get? b=some u):Un fs ex H H h h':=
 ⟨fun b ob q _ _ _=>k b ob q,fun b ob q _ _ _=>⟨ob.slots,k b ob q⟩,fun _ _ _ n _=>n,fun b ob q _=>⟨ob,k b ob q⟩,fun _ _ q=>q,fun _ _ _ q=>q,fun _ ps q=>⟨#[],by rw [q]; simp⟩⟩
theorem Un.refl:Un fs ex H H h h:=Un.kept fun _ _ q=>q
theorem Un.laid (k:∀ b u,h.get? b=some u->h'.get? b=some u) (hp:h.objs.size<=a) (j:H a=none):Un fs ex H (upd H a o) h h' where
 keep:=fun b u q _ _ _=>k b u q
 slot:=fun b u q _ _ _=>⟨u.slots,k b u q⟩
 free:=fun b u q n _=>by rw [Qi (F2 (D6 (D1 q) hp))]; exact n
 there:=fun b u q _=>⟨u,k b u q⟩
 tups:=fun b xs q=>by rw [Qi (Qm q j)]; exact q
 frzs:=fun b u xs q=>by rw [Qi (Qm q j)]; exact q
 tbls:=fun b ps q=>⟨#[],by rw [Qi (Qm q j),q]; simp⟩
theorem Un.write (B:Mut (H x)) (U:e=x\/H e=some (.own x)) (k:∀ b u,b≠e->h.get? b=some u->h'.get? b=some u) (I:∃ u,h'.get? e=some u):Un fs ex H (upd H x o) h h':=by
 have O:∀ b,H b=none->b≠x:=fun b n z=>by subst z; rw [n] at B; exact B
 have J:∀ b,H b=none->b≠e:=fun b n z=>by
  subst z;rcases U with r | r
  ·exact O b n r
  ·rw [n] at r; cases r
 have G:∀ b u,H b=some u->¬ Mut (some u)->b≠x:=fun b u q nm z=>by subst z; rw [q] at B; exact nm B
 refine ⟨fun b u q n _ _=>k b u (J b n) q,fun b u q n _ _=>⟨u.slots,k b u (J b n) q⟩,fun b u q n _=>by rw [Qi (O b n)]; exact n,fun b u q _=>?_,
  fun b xs q=>by rw [Qi (G b _ q fun z=>z)]; exact q,fun b u xs q=>by rw [Qi (G b _ q fun z=>z)]; exact q,fun b ps q=>⟨#[],by rw [Qi (G b _ q fun z=>z),q]; simp⟩⟩
 by_cases j:b=e
 ·subst j; exact I
 ·exact ⟨u,k b u j q⟩
end
def trk (h:Heap) (H:Hp):List aA:=(bU h.objs.size).filter fun a=>(H a).isSome
def Qc6 (h:Heap) (H:Hp):Heap:=dM h (trk h H)
theorem Qib (h:Heap) (H:Hp):(Qc6 h H).objs.size=h.objs.size:=PySem.W.hideAll_size _ _
theorem Qm5 {h:Heap} {H:Hp} {b:aA} {o:Obj} (e:h.get? b=some o) (n:H b=none):(Qc6 h H).get? b=some o:=
 dN _ e fun j=>by
  have q:(H b).isSome=true:=(cJ.mp j).2;rw [n] at q; simp at q
theorem Qq2 {h:Heap} {H:Hp} {b:aA} {o:Obj} (e:(Qc6 h H).get? b=some o):h.get? b=some o/\H b=none:=by
 have j:h.get? b=some o:=fX (trk h H) e;refine ⟨j,?_⟩;cases q:H b with
 | none=>rfl
 | some x=>
  have B:b∈trk h H:=cJ.mpr ⟨E4.mpr (D1 j),by simp [q]⟩;have z:(Qc6 h H).get? b=none:=fY (trk h H) B;rw [z] at e; cases e
def Qra (g h:Heap) (L:aA):List (aA × Obj):=(bU h.objs.size).filterMap fun a=>if a=L\/(g.get? a).isSome=true then none else (h.get? a).map fun o=>(a,o)
def rest (g h:Heap) (L d:aA):List (aA × Obj):=(Qra g h L).filter fun p=>decide (p.1≠d)
structure Mod (K:bS) (mg:Str->Option aB) (base:Heap):Prop where
 kin:K.In base
 glob:base.Ns aV mg
 blt:∃ mb,base.Ns builtinsNs mb/\∀ x:Str,x≠"__name__" -> mb x=ac x
 nolimit:base.NoLimit
structure Cx where
 prog:aO
 w:aM
 K:bS
 mg:Str->Option aB
 base:Heap
 A:aR
 N:List Str
 s₀:aC
 H₀:Hp
 env:Env
 outer:List Env
 stack:List Env
 ex:List aA
 fn:Str->Bool
 calm:Bool
 pn:List (aA × Obj)
 xe:aB->aC->Prop
def frs (l:List Env):List aA:=l.filterMap (·.frame)
abbrev Cx.fs (X:Cx):List aA:=frs X.outer
def Vis (sc:Scope) (x:Str):Prop:=sc.names.lookup x=some .local\/sc.names.lookup x=some .cell\/sc.names.lookup x=some .free
def Loc (sc:Scope) (x:Str):Prop:=sc.names.lookup x=some .local\/sc.names.lookup x=some .cell
def Qxh (env:Env) (h:Heap) (m:Str->Option aB) (x:Str) (u:aB):Prop:=
 (env.kindOf x=some .local/\m x=some u)\/((env.kindOf x=some .cell\/env.kindOf x=some .free)/\∃ c,env.cells.lookup x=some c/\h.IsCell c (some u))
structure Cx.Ok (X:Cx):Prop where
 mod:Mod X.K X.mg X.base
 kind:X.env.scope.kind=.function
 glob:X.env.globals=aV
 blt:X.env.builtins=builtinsNs
 above:X.s₀.heap.objs.size<=X.env.locals
 inj:∀ x y c,X.env.cells.lookup x=some c->X.env.cells.lookup y=some c->x=y
 has:∀ x,(X.env.kindOf x=some .cell\/X.env.kindOf x=some .free)->∃ c,X.env.cells.lookup x=some c
 cab:∀ x c,X.fn x=true->X.env.cells.lookup x=some c->X.s₀.heap.objs.size<=c
 hd:X.calm=true->X.A.handled=none
 frames:X.A.frames=some X.stack
 stk:X.stack=X.outer\/(X.stack=X.env :: X.outer/\X.env.frame=some X.env.locals)
 exf:∀ b∈X.ex,b≠X.env.locals/\∀ x c,X.env.cells.lookup x=some c->c≠b
 bs:∀ b o,X.base.get? b=some o->X.s₀.heap.get? b=some o/\X.H₀ b=none
 bsz:X.base.objs.size<=X.s₀.heap.objs.size
 noex:∀ b o,X.base.get? b=some o->b∉X.ex
 exfs:∀ b∈X.ex,b∉X.fs
 funs:X.s₀.heap.FunFrames X.base X.outer
 frf:∀ b∈X.fs,X.H₀ b=none
structure Inv (X:Cx) (pins:List (aA × Obj)) (σ:List (Option V)) (H:Hp) (s:aC):Prop where
 ok:X.Ok
 os:s.os=X.s₀.os
 bare:AllBare s.gens
 base:Un X.fs X.ex X.H₀ H X.s₀.heap s.heap
 loc:∃ m,s.heap.Ns X.env.locals m/\∀ (i:Nat) (x:Str) (v:V),X.N[i]?=some x->σ[i]?=some (some v)->Vis X.env.scope x->∃ u,RelV v u/\Qxh X.env s.heap m x u
 cell:∀ x c,X.env.cells.lookup x=some c->∃ v,s.heap.IsCell c v
 free:H X.env.locals=none
 freeC:∀ x c,X.env.cells.lookup x=some c->H c=none
 pin:∀ p∈X.pn ++ pins,s.heap.get? p.1=some p.2/\H p.1=none/\p.1≠X.env.locals/\p.1∉X.fs/\∀ v,p.2.data≠.cell v
 hok:HOk X.prog X.w H s.heap
 len:σ.length=X.N.length
section
variable {X:Cx} {pins:List (aA × Obj)} {σ:List (Option V)} {H H':Hp} {s:aC} {h':Heap}
theorem Cx.Ok.nofr (ok:X.Ok) {b:aA} {o:Obj} (e:X.base.get? b=some o):b∉X.fs:=fun j=>by
 have:=(ok.funs.mem j).1;rw [e] at this; cases this
theorem Inv.bs (I:Inv X pins σ H s):∀ b o,X.base.get? b=some o->s.heap.get? b=some o/\H b=none:=fun b o e=>
 ⟨I.base.keep b o (I.ok.bs b o e).1 (I.ok.bs b o e).2 (I.ok.nofr e) (I.ok.noex b o e),I.base.free b o (I.ok.bs b o e).1 (I.ok.bs b o e).2 (I.ok.noex b o e)⟩
theorem Inv.bk (I:Inv X pins σ H s):∀ b o,X.base.get? b=some o->s.heap.get? b=some o:=fun b o e=>(I.bs b o e).1
theorem Inv.mod (I:Inv X pins σ H s):Mod X.K X.mg X.base:=I.ok.mod
theorem Inv.kIn (I:Inv X pins σ H s):X.K.In s.heap:=I.ok.mod.kin.keeps I.bk
theorem Inv.lt (I:Inv X pins σ H s):X.env.locals < s.heap.objs.size:=let ⟨_,j,_⟩:=I.loc; j.lt
theorem Inv.sz (I:Inv X pins σ H s):X.s₀.heap.objs.size<=s.heap.objs.size:=F3 I.ok.above (E7 I.lt)
theorem Inv.nofs (I:Inv X pins σ H s) {a:aA} (h:s.heap.objs.size<=a):a∉X.fs:=fun j=>by
 obtain ⟨_,o,q,_⟩:=I.ok.funs.mem j;exact absurd (D6 (D1 q) (F3 I.sz h)) (bt _)
theorem Inv.cne (I:Inv X pins σ H s):∀ x c,X.env.cells.lookup x=some c->c≠X.env.locals:=fun x c e z=>by
 obtain ⟨v,o,B,hd⟩:=I.cell x c e;obtain ⟨m,⟨o',es,G,j,q,_⟩,_⟩:=I.loc;rw [z,j] at B; cases B; rw [q] at hd; cases hd
theorem Inv.funs (I:Inv X pins σ H s):s.heap.FunFrames X.base X.outer:=by
 have all:∀ (l:List Env),(∀ b∈frs l,b∈X.fs)->X.s₀.heap.FunFrames X.base l->s.heap.FunFrames X.base l:=by
  intro l
  induction l with
  | nil=>intro _ _; trivial
  | cons env r U=>
   intro hs Y;obtain ⟨G,⟨L,o,j,J,O,hd⟩,hr⟩:=Y;have B:L∈X.fs:=hs L (by unfold frs; rw [dO,j]; exact D3);obtain ⟨sl,e⟩:=I.base.slot L o O (I.ok.frf L B) B fun z=>I.ok.exfs L z B
   exact ⟨G,⟨L,_,j,J,e,hd⟩,U (fun b q=>hs b (by unfold frs; rw [dO,j]; exact D0 _ q)) hr⟩
 exact all X.outer (fun _ q=>q) I.ok.funs
theorem Inv.stack (I:Inv X pins σ H s):s.heap.FunFrames X.base X.stack:=by
 rcases I.ok.stk with e | ⟨e,j⟩
 ·rw [e]; exact I.funs
 ·rw [e];obtain ⟨m,q,_⟩:=I.loc;refine .cons (by rw [I.ok.kind]; decide) j q ?_ I.funs;exact Heap.get?_none_of_le (F3 I.ok.bsz I.ok.above)
theorem Inv.stkSub (I:Inv X pins σ H s):∀ b∈frs X.stack,b∈X.env.locals :: X.fs:=fun b j=>by
 rcases I.ok.stk with e | ⟨e,q⟩
 ·rw [e] at j; exact D0 _ j
 ·rw [e] at j;unfold frs at j;rw [dO,q] at j;exact j
theorem Inv.stkFree (I:Inv X pins σ H s):∀ b∈frs X.stack,H b=none:=fun b j=>by
 rcases D8.mp (I.stkSub b j) with e | j
 ·rw [e]; exact I.free
 ·obtain ⟨_,o,q,_⟩:=I.ok.funs.mem j;exact I.base.free b o q (I.ok.frf b j) fun z=>I.ok.exfs b z j
theorem Inv.step {g':Array GenState} {t':Nat} {d':Drawn} {ch:List aA} (I:Inv X pins σ H s)
  (G:∀ b∈ch,(b∈X.ex\/X.s₀.heap.objs.size<=b)/\b≠X.env.locals/\(∀ x c,X.env.cells.lookup x=some c->c≠b)/\∀ p∈X.pn ++ pins,p.1≠b)
  (keep:∀ b o,b≠X.env.locals->b∉X.fs->b∉ch->s.heap.get? b=some o->H b=none->h'.get? b=some o)
  (slot:∀ b o,b≠X.env.locals->b∈X.fs->b∉ch->s.heap.get? b=some o->H b=none->∃ sl,h'.get? b=some { o with slots:=sl }) (free:∀ b o,b∉ch->s.heap.get? b=some o->H b=none->H' b=none)
  (there:∀ b o,b∉ch->s.heap.get? b=some o->∃ o',h'.get? b=some o')
  (tups:∀ b xs,H b=some (.tup xs)->H' b=some (.tup xs)) (frzs:∀ b o u,H b=some (.frz o u)->H' b=some (.frz o u)) (tbls:∀ b ps,H b=some (.tbl ps)->∃ more,H' b=some (.tbl (ps ++ more)))
  (ns:∀ m,s.heap.Ns X.env.locals m->h'.Ns X.env.locals m) (hok:HOk X.prog X.w H' h') (hg:AllBare g') :
  Inv X pins σ H' { s with heap:=h',gens:=g',drawn:=d',toks:=t' }:=by
 have Z:∀ b o,X.s₀.heap.get? b=some o->b≠X.env.locals:=fun b o e=>F2 (D6 (D1 e) I.ok.above)
 have O:∀ b o,X.s₀.heap.get? b=some o->b∉X.ex->b∉ch:=fun b o e j U=>by
  rcases (G b U).1 with z | z
  ·exact j z
  ·exact absurd (D6 (D1 e) z) (bt _)
 have J:∀ x c,X.env.cells.lookup x=some c->∀ v,s.heap.IsCell c v->h'.IsCell c v:=fun x c e v ⟨o,Y,hd⟩=>by
  have B:c∉ch:=fun z=>(G c z).2.2.1 x c e rfl
  by_cases hc:c∈X.fs
  ·obtain ⟨sl,q⟩:=slot c o (I.cne x c e) hc B Y (I.freeC x c e);exact ⟨_,q,hd⟩
  ·exact ⟨o,keep c o (I.cne x c e) hc B Y (I.freeC x c e),hd⟩
 refine ⟨I.ok,I.os,hg,⟨fun b o e n U j=>?_,fun b o e n U j=>?_,fun b o e n j=>?_,fun b o e j=>?_,fun b xs e=>tups b xs (I.base.tups b xs e),fun b o xs e=>frzs b o xs (I.base.frzs b o xs e),fun b ps e=>?_⟩,?_,fun x c e=>?_,?_,fun x c e=>?_,fun p hp=>?_,hok,I.len⟩
 ·exact keep b o (Z b o e) U (O b o e j) (I.base.keep b o e n U j) (I.base.free b o e n j)
 ·obtain ⟨sl,e1⟩:=I.base.slot b o e n U j;obtain ⟨a2,e2⟩:=slot b _ (Z b o e) U (O b o e j) e1 (I.base.free b o e n j);exact ⟨a2,e2⟩
 ·obtain ⟨o',e1⟩:=I.base.there b o e j;exact free b o' (O b o e j) e1 (I.base.free b o e n j)
 ·obtain ⟨o',e1⟩:=I.base.there b o e j;exact there b o' (O b o e j) e1
 ·obtain ⟨m1,e1⟩:=I.base.tbls b ps e;obtain ⟨m2,e2⟩:=tbls b _ e1;exact ⟨m1 ++ m2,by rw [e2,fZ]⟩
 ·obtain ⟨m,hn,hl⟩:=I.loc;refine ⟨m,ns m hn,fun i x v e1 e2 e3=>?_⟩;obtain ⟨u,r,l⟩:=hl i x v e1 e2 e3;refine ⟨u,r,?_⟩;rcases l with l | ⟨k,c,e,z⟩
  ·exact .inl l
  ·exact .inr ⟨k,c,e,J x c e _ z⟩
 ·obtain ⟨v,z⟩:=I.cell x c e;exact ⟨v,J x c e v z⟩
 ·obtain ⟨m,⟨o,_,_,Y,_⟩,_⟩:=I.loc;exact free _ o (fun z=>(G _ z).2.1 rfl) Y I.free
 ·obtain ⟨v,o,Y,hd⟩:=I.cell x c e;exact free c o (fun z=>(G c z).2.2.1 x c e rfl) Y (I.freeC x c e)
 ·obtain ⟨e,n,ne,nf,d⟩:=I.pin p hp;have B:p.1∉ch:=fun z=>(G p.1 z).2.2.2 p hp rfl
  exact ⟨keep p.1 p.2 ne nf B e n,free p.1 p.2 B e n,ne,nf,d⟩
theorem Inv.un {t':Nat} (I:Inv X pins σ H s) (u:Un X.fs [] H H' s.heap h') (hok:HOk X.prog X.w H' h'):Inv X pins σ H' { s with heap:=h',toks:=t' }:=by
 obtain ⟨m,⟨o,es,ep,J,r⟩,_⟩:=id I.loc;obtain ⟨sl,U⟩:=u.any J I.free (by simp);exact I.step (g':=s.gens) (d':=s.drawn) (ch:=[]) (fun _ z=>nomatch z) (fun b o _ B _ e n=>u.keep b o e n B (by simp)) (fun b o _ B _ e n=>u.slot b o e n B (by simp)) (fun b o _ e n=>u.free b o e n (by simp)) (fun b o _ e=>u.there b o e (by simp)) u.tups u.frzs u.tbls (fun Z O=>by
  obtain ⟨o',G,q,j,Y⟩:=O;rw [J] at j; cases j;exact ⟨_,G,q,U,Y⟩) hok I.bare
theorem Inv.call {g':Array GenState} {t':Nat} {d':Drawn} {ch:List aA} (I:Inv X pins σ H s) (u:Un (frs X.stack) ch H H' s.heap h') (hok:HOk X.prog X.w H' h') (Y:AllBare g')
  (B:∀ b∈ch,(b∈X.ex\/X.s₀.heap.objs.size<=b)/\b≠X.env.locals/\(∀ x c,X.env.cells.lookup x=some c->c≠b)/\∀ p∈X.pn ++ pins,p.1≠b) :
  Inv X pins σ H' { s with heap:=h',gens:=g',drawn:=d',toks:=t' }:=by
 obtain ⟨m,⟨o,es,ep,U,r⟩,_⟩:=id I.loc;obtain ⟨sl,O⟩:=u.any U I.free fun z=>(B _ z).2.1 rfl
 exact I.step (ch:=ch) B (fun b o O hb j e n=>u.keep b o e n (fun z=>(D8.mp (I.stkSub b z)).elim O hb) j) (fun b o _ _ j e n=>u.any e n j) (fun b o j e n=>u.free b o e n j) (fun b o j e=>u.there b o e j) u.tups u.frzs u.tbls (fun m' Z=>by
  obtain ⟨o',J,G,q,r'⟩:=Z;rw [U] at q; cases q;exact ⟨_,J,G,O,r'⟩) hok Y
theorem Inv.turned {t':Nat} {j:aA} (I:Inv X pins σ H s) (k:∀ b o,b≠j->s.heap.get? b=some o->h'.get? b=some o) (U:H j=none) (J:j≠X.env.locals)
  (h1:j∈X.ex\/X.s₀.heap.objs.size<=j) (h2:∀ x c,X.env.cells.lookup x=some c->c≠j) (O:∀ p∈X.pn ++ pins,p.1≠j):Inv X pins σ H { s with heap:=h',toks:=t' }:=by
 have G:∀ b u,H b=some u->b≠j:=fun b u e z=>by rw [z,U] at e; cases e
 refine I.step (g':=s.gens) (d':=s.drawn) (ch:=[j]) (fun b hb=>?_) (fun b o _ _ B e _=>k b o (fun z=>B (by simp [z])) e) (fun b o _ _ B e _=>⟨o.slots,k b o (fun z=>B (by simp [z])) e⟩) (fun _ _ _ _ n=>n)
  (fun b o B e=>⟨o,k b o (fun z=>B (by simp [z])) e⟩) (fun _ _ e=>e) (fun _ _ _ e=>e) (fun b ps e=>⟨#[],by rw [e]; simp⟩) (fun m Y=>?_) (fun b u e=>?_) I.bare
 ·have e:b=j:=by simpa using hb
  subst e;exact ⟨h1,J,h2,O⟩
 ·obtain ⟨o,es,Z,ho,r⟩:=Y;exact ⟨o,es,Z,k _ o (Ne.symm J) ho,r⟩
 ·refine (I.hok b u e).stay (fun c v B q=>k c v ?_ q) (fun _ q=>q) fun _ _ q=>q
  rcases B with z | z
  ·rw [z]; exact G b u e
  ·exact G c _ z
theorem Inv.tok (I:Inv X pins σ H s) (t:Nat):Inv X pins σ H { s with toks:=t }:=I.un (h':=s.heap) (t':=t) Un.refl I.hok
theorem Inv.kept {t':Nat} (I:Inv X pins σ H s) (k:∀ b u,s.heap.get? b=some u->h'.get? b=some u):Inv X pins σ H { s with heap:=h',toks:=t' }:=I.un (Un.kept k) (I.hok.kept k)
theorem Inv.laid {a:aA} {o:HO} {t':Nat} (I:Inv X pins σ H s) (k:∀ b u,s.heap.get? b=some u->h'.get? b=some u) (hp:s.heap.objs.size<=a) (new:ObjOk X.prog X.w (upd H a o) h' a o) :
  Inv X pins σ (upd H a o) { s with heap:=h',toks:=t' }:=I.un (Un.laid k hp (I.hok.fresh hp)) (I.hok.laid k hp new)
theorem Inv.write {x e:aA} {o:HO} {t':Nat} (I:Inv X pins σ H s) (z:Mut (H x)) (q:e=x\/H e=some (.own x)) (k:∀ b u,b≠e->s.heap.get? b=some u->h'.get? b=some u) (j:∃ u,h'.get? e=some u)
  (new:ObjOk X.prog X.w (upd H x o) h' x o):Inv X pins σ (upd H x o) { s with heap:=h',toks:=t' }:=I.un (Un.write z q k j) (I.hok.write z q k j new)
theorem Inv.pins_of {pins':List (aA × Obj)} (I:Inv X pins σ H s) (h:∀ p∈pins',s.heap.get? p.1=some p.2/\H p.1=none/\p.1≠X.env.locals/\p.1∉X.fs/\∀ v,p.2.data≠.cell v):Inv X pins' σ H s:=
 ⟨I.ok,I.os,I.bare,I.base,I.loc,I.cell,I.free,I.freeC,fun p hp=>(E9.mp hp).elim (fun z=>I.pin p (G6 _ z)) (h p),I.hok,I.len⟩
theorem Q7s {N:List Str} (q:N.Nodup) {i j:Nat} {x:Str} (a:N[i]?=some x) (b:N[j]?=some x):i=j:=by
 obtain ⟨h1,e1⟩:=O0.mp a;obtain ⟨h2,e2⟩:=O0.mp b;exact (List.getElem_inj q).mp (e1.trans e2.symm)
theorem Qa9 {M:Model} {A:aR} {E:aB->aC->Prop} {i:Nat} {x:Str} {v:V} {u:aB} {Q:Unit->aC->Prop} (I:Inv X pins σ H s) (hN:X.N.Nodup) (hi:X.N[i]?=some x) (J:Loc X.env.scope x) (r:RelV v u)
  (h:∀ s',Inv X pins (σ.set i (some v)) H s'->(∃ a,Heap.SameBut a s.heap s'.heap/\(a=X.env.locals\/X.env.cells.lookup x=some a))->Q () s') (hf:X.fn x=true\/X.env.scope.names.lookup x=some .local:=by first | exact .inl rfl | exact .inr rfl | assumption):aI M A (storeName X.env x u) Q E s:=by
 obtain ⟨m,hn,hl⟩:=id I.loc;have a4:(X.env.scope.kind == .class || (X.env.scope.kind == .module && X.env.locals != X.env.globals))=false:=by rw [I.ok.kind]; rfl
 have Y:i < σ.length:=by rw [I.len]; exact (O0.mp hi).1
 have cne:=I.cne;have B:∀ {a:aA} {h':Heap},(∃ o,s.heap.get? a=some o/\H a=none)->Heap.SameBut a s.heap h'->HOk X.prog X.w H h':=fun {a h'} ha hs b ob e=>by
  obtain ⟨_,_,O⟩:=ha;refine (I.hok b ob e).stay (fun c w' G q=>(hs.2 c ?_).trans q) (fun _ q=>q) fun _ _ q=>q
  rintro rfl;rcases G with rfl | G
  ·rw [O] at e; cases e
  ·rw [O] at G; cases G
 rcases J with U | U
 ·refine wpAny_storeName_local U hn (fun h' a8 hs=>?_) a4;obtain ⟨oL,_,_,a7,_⟩:=id hn;refine h _ ⟨I.ok,I.os,I.bare,⟨fun b o e n hb J=>?_,fun b o e n hb J=>?_,I.base.free,fun b o e J=>?_,I.base.tups,I.base.frzs,I.base.tbls⟩,⟨_,a8,fun j y v' e1 e2 e3=>?_⟩,fun y c e=>?_,I.free,I.freeC,fun p hp=>?_,B ⟨oL,a7,I.free⟩ hs,by simpa using I.len⟩ ⟨_,hs,.inl rfl⟩
  ·exact (hs.2 b (F2 (D6 (D1 e) I.ok.above))).trans (I.base.keep b o e n hb J)
  ·obtain ⟨sl,e1⟩:=I.base.slot b o e n hb J;exact ⟨sl,(hs.2 b (F2 (D6 (D1 e) I.ok.above))).trans e1⟩
  ·obtain ⟨o',e1⟩:=I.base.there b o e J;exact ⟨o',(hs.2 b (F2 (D6 (D1 e) I.ok.above))).trans e1⟩
  ·by_cases hj:j=i
   ·subst hj;rw [hi] at e1; cases e1;rw [D7 Y] at e2;cases e2;exact ⟨u,r,.inl ⟨U,by simp⟩⟩
   ·rw [O6 (Ne.symm hj)] at e2;obtain ⟨u',r',q⟩:=hl j y v' e1 e2 e3;refine ⟨u',r',?_⟩;rcases q with ⟨k,e⟩ | ⟨k,c,e,z⟩
    ·refine .inl ⟨k,?_⟩;have:y≠x:=fun e=>hj (Q7s hN e1 (e ▸ hi))
     simp [this,e]
    ·exact .inr ⟨k,c,e,z.sameBut hs (cne y c e)⟩
  ·obtain ⟨w',z⟩:=I.cell y c e;exact ⟨w',z.sameBut hs (cne y c e)⟩
  ·obtain ⟨e,n,ne,nf,d⟩:=I.pin p hp;exact ⟨(hs.2 p.1 ne).trans e,n,ne,nf,d⟩
 ·have Z:X.fn x=true:=by
   rcases hf with z | z
   ·exact z
   ·rw [z] at U; cases U
  obtain ⟨c,G⟩:=I.ok.has x (.inl U);obtain ⟨w',z⟩:=I.cell x c G;refine wpAny_storeName_cell I.ok.kind U G z (fun h' a2 hs=>?_);obtain ⟨oc,a5,a6⟩:=id z;refine h { s with heap:=h' } ⟨I.ok,I.os,I.bare,⟨fun b o e n hb J=>?_,fun b o e n hb J=>?_,I.base.free,fun b o e J=>?_,I.base.tups,I.base.frzs,I.base.tbls⟩,⟨m,hn.sameBut hs (Ne.symm (cne x c G)),fun j y v' e1 e2 e3=>?_⟩,fun y c' e=>?_,I.free,I.freeC,fun p hp=>?_,B ⟨oc,a5,I.freeC x c G⟩ hs,by simpa using I.len⟩ ⟨c,hs,.inr G⟩
  ·exact (hs.2 b (F2 (D6 (D1 e) (I.ok.cab x c Z G)))).trans (I.base.keep b o e n hb J)
  ·obtain ⟨sl,e1⟩:=I.base.slot b o e n hb J;exact ⟨sl,(hs.2 b (F2 (D6 (D1 e) (I.ok.cab x c Z G)))).trans e1⟩
  ·obtain ⟨o',e1⟩:=I.base.there b o e J;exact ⟨o',(hs.2 b (F2 (D6 (D1 e) (I.ok.cab x c Z G)))).trans e1⟩
  ·by_cases hj:j=i
   ·subst hj;rw [hi] at e1; cases e1;rw [D7 Y] at e2;cases e2;exact ⟨u,r,.inr ⟨.inl U,c,G,a2⟩⟩
   ·rw [O6 (Ne.symm hj)] at e2;obtain ⟨u',r',q⟩:=hl j y v' e1 e2 e3;refine ⟨u',r',?_⟩;rcases q with q | ⟨k,c',e,z'⟩
    ·exact .inl q
    ·refine .inr ⟨k,c',e,z'.sameBut hs ?_⟩;rintro rfl;exact hj (Q7s hN e1 (I.ok.inj _ _ _ e G ▸ hi))
  ·by_cases a3:c'=c
   ·subst a3; exact ⟨_,a2⟩
   ·obtain ⟨w2,z2⟩:=I.cell y c' e;exact ⟨w2,z2.sameBut hs a3⟩
  ·obtain ⟨e,n,ne,nf,d⟩:=I.pin p hp;refine ⟨(hs.2 p.1 ?_).trans e,n,ne,nf,d⟩;intro q;rw [q,a5] at e;have q':oc=p.2:=bj e;exact d w' (by rw [<- q']; exact a6)
theorem Q6w {M:Model} {A:aR} {E:aB->aC->Prop} {i:Nat} {x:Str} {v:V} {u:aB} {Q:Unit->aC->Prop} (I:Inv X pins σ H s) (z:X.N.Nodup) (hi:X.N[i]?=some x) (B:Loc X.env.scope x) (r:RelV v u)
  (h:∀ s',Inv X pins (σ.set i (some v)) H s'->Q () s') (j:X.fn x=true\/X.env.scope.names.lookup x=some .local:=by first | exact .inl rfl | exact .inr rfl | assumption):aI M A (storeName X.env x u) Q E s:=
 Qa9 I z hi B r (fun s' q _=>h s' q) j
theorem Inv.call' {s':aC} {ch:List aA} (I:Inv X pins σ H s) (z:s'.os=s.os) (u:Un (frs X.stack) ch H H' s.heap s'.heap) (hok:HOk X.prog X.w H' s'.heap) (q:AllBare s'.gens)
  (j:∀ b∈ch,(b∈X.ex\/X.s₀.heap.objs.size<=b)/\b≠X.env.locals/\(∀ x c,X.env.cells.lookup x=some c->c≠b)/\∀ p∈X.pn ++ pins,p.1≠b):Inv X pins σ H' s':=by
 obtain ⟨h',g',d',t',o'⟩:=s';have e:o'=s.os:=z;subst e;exact I.call (g':=g') (t':=t') (d':=d') u hok q j
end
abbrev XK:=aB->Option aA->Hp->Prop
abbrev St:=List (Option V)
abbrev VK:=V->Hp->Prop
abbrev TE:=St->Hp->VK->Prop
abbrev TT:=St->Hp->(Bool->Hp->Prop)->Prop
abbrev TA:=St->Hp->(List V->Hp->Prop)->Prop
structure Ends where
 nx:St->Hp->Prop
 rt:VK
 bk:St->Hp->Prop:=fun _ _=>False
 ct:St->Hp->Prop:=fun _ _=>False
abbrev TS:=Ends->St->Hp->Prop
def EP (X:Cx) (pins:List (aA × Obj)) (σ:St) (Q:VK) (u:aB) (s':aC):Prop:=∃ v H',Inv X pins σ H' s'/\RelV v u/\Q v H'
def TP (X:Cx) (pins:List (aA × Obj)) (σ:St) (Q:Bool->Hp->Prop) (b:Bool) (s':aC):Prop:=∃ H',Inv X pins σ H' s'/\Q b H'
def AP (X:Cx) (pins:List (aA × Obj)) (σ:St) (Q:List V->Hp->Prop) (us:List aB) (s':aC):Prop:=∃ vs H',Inv X pins σ H' s'/\Vals vs us/\Q vs H'
def SP (X:Cx) (pins:List (aA × Obj)) (D:Ends) (f:Flow) (s':aC):Prop:=
 match f with
 | .next=>∃ σ' H',Inv X pins σ' H' s'/\D.nx σ' H'
 | .brk=>∃ σ' H',Inv X pins σ' H' s'/\D.bk σ' H'
 | .cont=>∃ σ' H',Inv X pins σ' H' s'/\D.ct σ' H'
 | .ret u=>∃ v σ' H',Inv X pins σ' H' s'/\RelV v u/\D.rt v H'
def PE (X:Cx) (e:aD) (t:TE):Prop:=
 ∀ (pins:List (aA × Obj)) (s:aC) (σ:St) (H:Hp) (Q:VK),Inv X pins σ H s->t σ H Q->aI (aJ X.prog X.w) X.A (aN e X.env) (EP X pins σ Q) X.xe s
def PT (X:Cx) (e:aD) (t:TT):Prop:=
 ∀ (pins:List (aA × Obj)) (s:aC) (σ:St) (H:Hp) (Q:Bool->Hp->Prop),Inv X pins σ H s->t σ H Q->aI (aJ X.prog X.w) X.A (isTrue e X.env (aN e X.env)) (TP X pins σ Q) X.xe s
def PW (X:Cx) (e:aD) (t:TT):Prop:=
 ∀ (whole:Sem aB) (pins:List (aA × Obj)) (s:aC) (σ:St) (H:Hp) (Q:Bool->Hp->Prop),Inv X pins σ H s->t σ H Q->aI (aJ X.prog X.w) X.A (isTrue e X.env whole) (TP X pins σ Q) X.xe s
def PA (X:Cx) (es:List aD) (t:TA):Prop:=
 ∀ (pos:Pos) (pins:List (aA × Obj)) (s:aC) (σ:St) (H:Hp) (Q:List V->Hp->Prop),Inv X pins σ H s->t σ H Q->aI (aJ X.prog X.w) X.A (spliced (aW pos (aP es X.env))) (AP X pins σ Q) X.xe s
def PS (X:Cx) (st:aL) (t:TS):Prop:=
 ∀ (pins:List (aA × Obj)) (s:aC) (σ:St) (H:Hp) (D:Ends),Inv X pins σ H s->t D σ H->aI (aJ X.prog X.w) X.A (exec st X.env) (SP X pins D) X.xe s
def PSs (X:Cx) (st:List aL) (t:TS):Prop:=
 ∀ (pins:List (aA × Obj)) (s:aC) (σ:St) (H:Hp) (D:Ends),Inv X pins σ H s->t D σ H->aI (aJ X.prog X.w) X.A (execs st X.env) (SP X pins D) X.xe s
theorem thn {α:Type} {t:Sem α} {Q j:α->aC->Prop} {M:Model} {A:aR} {E:aB->aC->Prop} {s:aC} (h:aI M A t Q E s) (q:∀ a s,Q a s->j a s):aI M A t j E s:=af h q fun _ _ x=>x
section
variable {X:Cx}
def Qs7 (i:Nat):TE:=fun σ H Q=>∃ v,σ[i]?=some (some v)/\Q v H
def tC (v:V):TE:=fun _ H Q=>Q v H
theorem Qk5 {i:Nat} {x:Str} {pos:Pos} (U:X.N[i]?=some x) (O:Vis X.env.scope x) (hd:(x == ("__debug__" : Str))=false:=by decide) (z:(x == ("__classdict__" : Str))=false:=by decide):PE X (.Name x pos) (Qs7 i):=by
 intro pins s σ H Q I h;obtain ⟨v,e,h⟩:=h;obtain ⟨m,G,Y⟩:=I.loc;obtain ⟨u,r,l⟩:=Y i x v U e O;have fin:EP X pins σ Q u s:=⟨v,H,I,r,h⟩;rcases l with ⟨q,J⟩ | ⟨q,c,B,j⟩
 ·exact wpAny_Name (wpAny_loadName_local I.ok.kind q G J fin) hd
 ·rcases q with q | q
  ·exact wpAny_Name (wpAny_loadName_cell I.ok.kind q B j fin) hd
  ·exact wpAny_Name (wpAny_loadName_free I.ok.kind q B j fin z) hd
theorem Qt3 {i j pos}:PE X (.Constant (.int i) j pos) (tC (.int i)):=fun _ _ _ H _ I h=>wpAny_Constant_int ⟨.int i,H,I.tok _,⟨_,rfl⟩,h⟩
theorem Qw1 {b j pos}:PE X (.Constant (.bool b) j pos) (tC (.bl b)):=fun _ _ _ H _ I h=>Constant_bool ⟨.bl b,H,I,rfl,h⟩
theorem Q1a {x j pos}:PE X (.Constant (.str x) j pos) (tC (.str x)):=fun _ _ _ H _ I h=>Calls.Constant_str ⟨.str x,H,I.tok _,⟨_,rfl⟩,h⟩
def Gl (X:Cx) (x:Str):Prop:=X.env.kindOf x=some .globalImplicit
theorem jg {E:aB->aC->Prop} {pins:List (aA × Obj)} {s:aC} {σ:St} {H:Hp} {x:Str} {u:aB} {pos:Pos} {Q:aB->aC->Prop} (I:Inv X pins σ H s) (j:Gl X x) (q:X.mg x=some u) (h:Q u s)
  (hd:(x == ("__debug__" : Str))=false:=by decide):aI (aJ X.prog X.w) X.A (aN (.Name x pos) X.env) Q E s:=
 Calls.Name_function_global I.ok.kind j (Calls.loadGlobal_global (by rw [I.ok.glob]; exact I.mod.glob.keeps I.bk) q h) hd
theorem Q53 {E:aB->aC->Prop} {pins:List (aA × Obj)} {s:aC} {σ:St} {H:Hp} {x:Str} {u:aB} {pos:Pos} {Q:aB->aC->Prop} (I:Inv X pins σ H s) (j:Gl X x) (q:X.mg x=none) (z:ac x=some u) (h:Q u s)
  (B:x≠"__name__" := by decide) (hd:(x == ("__debug__" : Str))=false:=by decide):aI (aJ X.prog X.w) X.A (aN (.Name x pos) X.env) Q E s:=by
 obtain ⟨mb,h1,h2⟩:=I.mod.blt;exact Calls.Name_function_global I.ok.kind j (Calls.loadGlobal_builtin (by rw [I.ok.glob]; exact I.mod.glob.keeps I.bk) q (by rw [I.ok.blt]; exact h1.keeps I.bk) ((h2 x B).trans z) h) hd
theorem Qpn {x:Str} {v:V} {u:aB} {pos:Pos} (j:Gl X x) (q:X.mg x=some u) (r:RelV v u) (hd:(x == ("__debug__" : Str))=false:=by decide):PE X (.Name x pos) (tC v):=
 fun _ _ _ H _ I h=>jg I j q ⟨v,H,I,r,h⟩ hd
theorem Qpr {x:Str} {v:V} {u:aB} {pos:Pos} (j:Gl X x) (q:X.mg x=none) (z:ac x=some u) (r:RelV v u) (B:x≠"__name__" := by decide) (hd:(x == ("__debug__" : Str))=false:=by decide):PE X (.Name x pos) (tC v):=
 fun _ _ _ H _ I h=>Q53 I j q z ⟨v,H,I,r,h⟩ B hd
variable {a b:aD} {ta tb:TE} {pos:Pos}
def tB (t:TE):TT:=fun σ H Q=>t σ H fun x H1=>∃ c,x=.bl c/\Q c H1
theorem Qsp {e:aD} {t:TE} (h:PE X e t) (G:∀ j,isTrue e X.env j=(do let v <- j; standAt e.pos; ak [v] (truthy v)):=by intro _; rfl):PT X e (tB t):=by
 intro pins s σ H Q I J;refine isTrue_plain (thn (h pins s σ H _ I J) fun v s1 ⟨x,H1,z,B,q1⟩=>?_) (G _)
 obtain ⟨d,rfl,q⟩:=q1;cases B;exact ar ⟨H1,z,q⟩
variable {tA tB':TT} {rest:List aD}
def Qys (t u:TT):TT:=fun σ H Q=>t σ H fun c H1=>if c=true then u σ H1 Q else Q false H1
def tOr (t u:TT):TT:=fun σ H Q=>t σ H fun c H1=>if c=true then Q true H1 else u σ H1 Q
def Qym (t:TT):TT:=fun σ H Q=>t σ H fun c H1=>Q (!c) H1
theorem Qp5 (j:PT X a tA):PW X (.BoolOp .And [a] pos) tA:=by
 intro q pins s σ H Q I h;refine isTrue_and (thn (j pins s σ H Q I h) fun c s1 e=>?_)
 cases c with
 | true=>exact isTrue_and_nil e
 | false=>exact e
theorem Qsm (j:PT X a tA):PW X (.BoolOp .Or [a] pos) tA:=by
 intro q pins s σ H Q I h;refine isTrue_or (thn (j pins s σ H Q I h) fun c s1 e=>?_)
 cases c with
 | false=>exact isTrue_or_nil e
 | true=>exact e
theorem Qsn (B:PT X a tA) (q:PW X (.BoolOp .And (b :: rest) pos) tB'):PW X (.BoolOp .And (a :: b :: rest) pos) (Qys tA tB'):=by
 intro z pins s σ H Q I h;refine isTrue_and (thn (B pins s σ H _ I h) fun c s1 ⟨H1,j,q1⟩=>?_)
 cases c with
 | true=>exact q z pins s1 σ H1 Q j q1
 | false=>exact ⟨H1,j,q1⟩
theorem Qvr (B:PT X a tA) (q:PW X (.BoolOp .Or (b :: rest) pos) tB'):PW X (.BoolOp .Or (a :: b :: rest) pos) (tOr tA tB'):=by
 intro z pins s σ H Q I h;refine isTrue_or (thn (B pins s σ H _ I h) fun c s1 ⟨H1,j,q1⟩=>?_)
 cases c with
 | true=>exact ⟨H1,j,q1⟩
 | false=>exact q z pins s1 σ H1 Q j q1
theorem Qsq (j:PT X a tA):PT X (.UnaryOp .Not a pos) (Qym tA):=by
 intro pins s σ H Q I h;exact isTrue_not (j pins s σ H (fun c H1=>Q (!c) H1) I h)
def Qvf (ta tb:TE):TE:=fun σ H Q=>ta σ H fun x H1=>∃ c,x=.bl c/\if c=true then tb σ H1 Q else Q (.bl false) H1
def Qyk (ta tb:TE):TE:=fun σ H Q=>ta σ H fun x H1=>∃ c,x=.bl c/\if c=true then Q (.bl true) H1 else tb σ H1 Q
def Qv7 (ta:TE):TE:=fun σ H Q=>ta σ H fun x H1=>∃ c,x=.bl c/\Q (.bl (!c)) H1
theorem Qt1 {op} {t:TE} (h:PE X a t):PE X (.BoolOp op [a] pos) t:=fun pins s σ H Q I j=>BoolOp_one (h pins s σ H Q I j)
theorem Qt5 (B:PE X a ta) (q:PE X (.BoolOp .And (b :: rest) pos) tb):PE X (.BoolOp .And (a :: b :: rest) pos) (Qvf ta tb):=by
 intro pins s σ H Q I h;refine BoolOp_and (thn (B pins s σ H _ I h) fun v s1 ⟨x,H1,j,z,q1⟩=>?_)
 obtain ⟨c,rfl,q1⟩:=q1;cases z;refine ar ?_;cases c with
 | true=>exact q pins s1 σ H1 Q j q1
 | false=>exact ⟨.bl false,H1,j,rfl,q1⟩
theorem Qvx (B:PE X a ta) (q:PE X (.BoolOp .Or (b :: rest) pos) tb):PE X (.BoolOp .Or (a :: b :: rest) pos) (Qyk ta tb):=by
 intro pins s σ H Q I h;refine BoolOp_or (thn (B pins s σ H _ I h) fun v s1 ⟨x,H1,j,z,q1⟩=>?_)
 obtain ⟨c,rfl,q1⟩:=q1;cases z;refine ar ?_;cases c with
 | false=>exact q pins s1 σ H1 Q j q1
 | true=>exact ⟨.bl true,H1,j,rfl,q1⟩
theorem Qt2 (z:PE X a ta):PE X (.UnaryOp .Not a pos) (Qv7 ta):=by
 intro pins s σ H Q I h;refine UnaryOp_ (thn (z pins s σ H _ I h) fun v s1 ⟨x,H1,q,j,q1⟩=>?_)
 obtain ⟨c,rfl,q1⟩:=q1;cases j;exact not_of (ar ⟨.bl (!c),H1,q,rfl,q1⟩)
end
def SqL (K:bS) (H:Hp) (a:aA) (xs:List V):Prop:=
 Rd H a (.lst xs) \/
  ∃ (o:Obj) (its:Array aB) (n:Nat),K.lookup a=some o/\o.cls=.type "list" /\ o.dict=none/\o.data=.seq its n/\its.size<=sizeLine/\Vals xs its.toList
def SqT (K:bS) (H:Hp) (a:aA) (xs:List V):Prop:=
 Rd H a (.tup xs) \/
  ∃ (o:Obj) (its:Array aB) (n:Nat),K.lookup a=some o/\o.cls=.type "tuple" /\ o.data=.seq its n/\its.size<=sizeLine/\Vals xs its.toList
def Qzh:aB->Option V
 | .none=>some .non
 | .bool b=>some (.bl b)
 | .int i _=>some (.int i)
 | .str x _=>some (.str x)
 | .bytes b _=>some (.byt b)
 | .float b _=>some (.flt b)
 | .ref a=>some (.ref a)
 | .type n=>some (.ty n)
 | _=>none
theorem RelV.abs {x:V} {u:aB} (r:RelV x u):Qzh u=some x:=by
 cases x with
 | non=>cases r; rfl
 | bl _=>cases r; rfl
 | int _=>obtain ⟨t,rfl⟩:=r; rfl
 | str _=>obtain ⟨t,rfl⟩:=r; rfl
 | byt _=>obtain ⟨t,rfl⟩:=r; rfl
 | flt _=>obtain ⟨t,rfl⟩:=r; rfl
 | ref _=>cases r; rfl
 | ty _=>cases r; rfl
theorem RelV.inj {x y:V} {u:aB} (r:RelV x u) (q:RelV y u):x=y:=bj (r.abs.symm.trans q.abs)
theorem Vals.inj:∀ {xs ys:List V} {us:List aB},Vals xs us->Vals ys us->xs=ys
 | _,_,_,.nil,.nil=>rfl
 | _,_,_,.cons r t,.cons j t'=>by rw [r.inj j,Vals.inj t t']
section
variable {X:Cx} {pins:List (aA × Obj)} {σ:St} {H:Hp} {s:aC} {a:aA} {xs ys:List V}
theorem SqL.of {K:bS} (h:H a=some (.lst xs)):SqL K H a xs:=.inl (.inl h)
theorem SqT.of {K:bS} (h:H a=some (.tup xs)):SqT K H a xs:=.inl (.inl h)
theorem Inv.list (I:Inv X pins σ H s) (h:SqL X.K H a xs):∃ its:List aB,Vals xs its/\PlainL s.heap a its.toArray/\xs.length<=sizeLine:=by
 rcases h with h | ⟨o,its,n,j,q,hd,hs,hz,r⟩
 ·obtain ⟨z,its,n,r,e⟩:=h.ok I.hok;exact ⟨its,r,⟨_,n,e,rfl,rfl,rfl⟩,z⟩
 ·refine ⟨its.toList,r,⟨o,n,I.kIn a o j,q,hd,by simpa using hs⟩,?_⟩;have e:=r.length;simp only [eG] at e;omega
theorem Inv.tuple (I:Inv X pins σ H s) (h:SqT X.K H a xs):∃ its:List aB,Vals xs its/\IsTup s.heap a its.toArray/\xs.length<=sizeLine:=by
 rcases h with h | ⟨o,its,n,j,q,hs,hz,r⟩
 ·obtain ⟨z,its,r,p⟩:=h.ok I.hok;exact ⟨its,r,p,z⟩
 ·refine ⟨its.toList,r,⟨o,I.kIn a o j,q,n,by simpa using hs⟩,?_⟩;have e:=r.length;simp only [eG] at e;omega
theorem Inv.list_inj (I:Inv X pins σ H s) (h:SqL X.K H a xs) (h':SqL X.K H a ys):xs=ys:=by
 obtain ⟨its,r,⟨o,n,e,_,_,d⟩,_⟩:=I.list h;obtain ⟨its',z,⟨o',B,j,_,_,d'⟩,_⟩:=I.list h';rw [e] at j; cases j;rw [d] at d';injection d' with q _
 have:its=its':=by simpa using congrArg fb q
 subst this;exact r.inj z
theorem Inv.tuple_inj (I:Inv X pins σ H s) (h:SqT X.K H a xs) (h':SqT X.K H a ys):xs=ys:=by
 obtain ⟨its,r,⟨o,e,_,n,d⟩,_⟩:=I.tuple h;obtain ⟨its',z,⟨o',j,_,B,d'⟩,_⟩:=I.tuple h';rw [e] at j; cases j;rw [d] at d';injection d' with q _
 have:its=its':=by simpa using congrArg fb q
 subst this;exact r.inj z
end
abbrev Cx.wish (X:Cx) (E:aB->aC->Prop):Cx:={ X with xe:=E }
abbrev Cx.nox (X:Cx):Cx:=X.wish fun _ _=>False
theorem Cx.Ok.wish {X:Cx} (ok:X.Ok) (E:aB->aC->Prop):(X.wish E).Ok:=
 ⟨ok.mod,ok.kind,ok.glob,ok.blt,ok.above,ok.inj,ok.has,ok.cab,ok.hd,ok.frames,ok.stk,ok.exf,ok.bs,ok.bsz,ok.noex,ok.exfs,ok.funs,ok.frf⟩
theorem Cx.Ok.unwish {X:Cx} {E:aB->aC->Prop} (ok:(X.wish E).Ok):X.Ok:=
 ⟨ok.mod,ok.kind,ok.glob,ok.blt,ok.above,ok.inj,ok.has,ok.cab,ok.hd,ok.frames,ok.stk,ok.exf,ok.bs,ok.bsz,ok.noex,ok.exfs,ok.funs,ok.frf⟩
section
variable {X:Cx} {pins:List (aA × Obj)} {σ:St} {H:Hp} {s:aC} {E:aB->aC->Prop}
theorem Inv.wish (I:Inv X pins σ H s) (E:aB->aC->Prop):Inv (X.wish E) pins σ H s:=⟨I.ok.wish E,I.os,I.bare,I.base,I.loc,I.cell,I.free,I.freeC,I.pin,I.hok,I.len⟩
theorem Inv.unwish (I:Inv (X.wish E) pins σ H s):Inv X pins σ H s:=⟨I.ok.unwish,I.os,I.bare,I.base,I.loc,I.cell,I.free,I.freeC,I.pin,I.hok,I.len⟩
theorem SP.unwish {D:Ends} {f:Flow} {s':aC} (h:SP (X.wish E) pins D f s'):SP X pins D f s':=by
 cases f with
 | next=>obtain ⟨j,H',I,q⟩:=h; exact ⟨j,H',I.unwish,q⟩
 | brk=>obtain ⟨j,H',I,q⟩:=h; exact ⟨j,H',I.unwish,q⟩
 | cont=>obtain ⟨j,H',I,q⟩:=h; exact ⟨j,H',I.unwish,q⟩
 | ret u=>obtain ⟨v,j,H',I,r,q⟩:=h; exact ⟨v,j,H',I.unwish,r,q⟩
theorem PSs.nox {st:List aL} {t:TS} (h:PSs X.nox st t):PSs X st t:=fun pins s σ H D I j=>
 af (h pins s σ H D (I.wish _) j) (fun _ _ q=>q.unwish) fun _ _ z=>False.elim z
end
section
variable {X:Cx} {st:aL} {rest:List aL} {t u:TS} {e:aD} {te:TE} {pos:Pos}
def Qre:TS:=fun D σ H=>D.nx σ H
def Qyj (t u:TS):TS:=fun D σ H=>t { D with nx:=u D } σ H
theorem Qpa:PSs X [] Qre:=fun _ _ σ H _ I h=>wpAny_execs_nil ⟨σ,H,I,h⟩
theorem Qd7 (h1:PS X st t) (h2:PSs X rest u):PSs X (st :: rest) (Qyj t u):=by
 intro pins s σ H D I h;refine wpAny_execs_cons (thn (h1 pins s σ H { D with nx:=u D } I h) fun f s1 q=>?_)
 cases f with
 | next=>
  obtain ⟨j,H',z,q⟩:=q;exact h2 pins s1 j H' D z q
 | ret v=>exact q
 | brk=>exact q
 | cont=>exact q
theorem Qbp (h1:PS X st t):PSs X [st] t:=by
 intro pins s σ H D I h;refine wpAny_execs_cons (thn (h1 pins s σ H D I h) fun f s1 q=>?_)
 cases f with
 | next=>exact wpAny_execs_nil q
 | ret v=>exact q
 | brk=>exact q
 | cont=>exact q
theorem Qpc:PS X (.Pass pos) Qre:=fun _ _ σ H _ I h=>wpAny_Pass ⟨σ,H,I,h⟩
theorem Inv.quiet {pins:List (aA × Obj)} {σ:St} {H:Hp} {s:aC} (I:Inv X pins σ H s):interactive X.env=false:=by simp [interactive,I.ok.kind]
def Qva (te:TE):TS:=fun D σ H=>te σ H fun _ H1=>D.nx σ H1
theorem Qfw (j:PE X e te) (hs:swapsWith e none pos.line X.env=pure false:=by rfl):PS X (.Expr e pos) (Qva te):=by
 intro pins s σ H D I h;exact wpAny_Expr_any (thn (j pins s σ H _ I h) fun v s1 ⟨x,H1,q,z,q1⟩=>⟨σ,H1,q,q1⟩) I.quiet hs
def Qv5 (te:TE):TS:=fun D σ H=>te σ H D.rt
theorem Qjy (j:PE X e te):PS X (.Return (some e) pos) (Qv5 te):=by
 intro pins s σ H D I h;exact wpAny_Return_some (thn (j pins s σ H _ I h) fun v s1 ⟨x,H1,z,q,q1⟩=>⟨x,σ,H1,z,q,q1⟩)
def Qyp (c:TT) (t u:TS):TS:=fun D σ H=>c σ H fun b H1=>if b=true then t D σ H1 else u D σ H1
theorem Qvt {c:aD} {a b:List aL} {tc:TT} (z:PT X c tc) (B:PSs X a t) (q:PSs X b u):PS X (.If c a b pos) (Qyp tc t u):=by
 intro pins s σ H D I h;refine wpAny_If (thn (z pins s σ H _ I h) fun d s1 ⟨H1,j,q1⟩=>?_)
 cases d with
 | true=>exact B pins s1 σ H1 D j q1
 | false=>exact q pins s1 σ H1 D j q1
end
abbrev TG:=V->St->Hp->(St->Hp->Prop)->Prop
abbrev TGs:=List V->St->Hp->(St->Hp->Prop)->Prop
def PG (X:Cx) (target:aD) (t:TG):Prop:=
 ∀ (pins:List (aA × Obj)) (s:aC) (σ:St) (H:Hp) (v:V) (u:aB) (Q:St->Hp->Prop),Inv X pins σ H s->RelV v u->t v σ H Q ->
  aI (aJ X.prog X.w) X.A (assign target X.env u) (fun _ s'=>∃ σ' H',Inv X pins σ' H' s'/\Q σ' H') X.xe s
def PGs (X:Cx) (ts:List aD) (t:TGs):Prop:=
 ∀ (pins:List (aA × Obj)) (s:aC) (σ:St) (H:Hp) (vs:List V) (us:List aB) (Q:St->Hp->Prop),Inv X pins σ H s->Vals vs us->t vs σ H Q ->
  aI (aJ X.prog X.w) X.A (assignInOrder ((aq ts X.env).map (·.2)) us) (fun _ s'=>∃ σ' H',Inv X pins σ' H' s'/\Q σ' H') X.xe s
abbrev Quh:=V->V->V->Hp->(Hp->Prop)->Prop
def Qxg (X:Cx) (t:Quh):Prop:=
 ∀ (pins:List (aA × Obj)) (s:aC) (σ:St) (H:Hp) (o i v:V) (ov iv u:aB) (Q:Hp->Prop),Inv X pins σ H s->RelV o ov->RelV i iv->RelV v u->t o i v H Q ->
  aI (aJ X.prog X.w) X.A (setItem ov iv u) (fun _ s'=>∃ H',Inv X pins σ H' s'/\Q H') X.xe s
section
variable {X:Cx} {pos:Pos}
def Qe4 (i:Nat):TG:=fun v σ H Q=>Q (σ.set i (some v)) H
theorem Qpi {i:Nat} {x:Str} (z:X.N.Nodup) (hi:X.N[i]?=some x) (B:Loc X.env.scope x) (j:X.fn x=true\/X.env.scope.names.lookup x=some .local:=by first | exact .inl rfl | exact .inr rfl | assumption):PG X (.Name x pos) (Qe4 i):=by
 intro pins s σ H v u Q I r h;exact wpAny_assign_Name (Q6w I z hi B r (fun s' q=>⟨_,H,q,h⟩) j)
def Qwx:TGs:=fun vs σ H Q=>vs=[]/\Q σ H
def Qm8 (t:TG) (u:TGs):TGs:=fun vs σ H Q=>∃ v r,vs=v :: r/\t v σ H fun σ' H'=>u r σ' H' Q
theorem Qpg:PGs X [] Qwx:=by
 intro pins s σ H vs us Q I r h;obtain ⟨e,h⟩:=h;subst e;cases r;exact assignInOrder_nil ⟨σ,H,I,h⟩
theorem Qk3 {e:aD} {es:List aD} {t:TG} {u:TGs} (h1:PG X e t) (h2:PGs X es u)
  (hs:(aq (e :: es) X.env).map (·.2)=assign e X.env :: (aq es X.env).map (·.2):=by rfl):PGs X (e :: es) (Qm8 t u):=by
 intro pins s σ H vs us Q I r h;obtain ⟨v,B,e1,h⟩:=h;subst e1;cases r with
 | cons r z=>
  rw [hs];refine assignInOrder_cons (thn (h1 pins s σ H _ _ _ I r h) fun _ s1 ⟨j,H1,q,q1⟩=>?_)
  exact h2 pins s1 j H1 _ _ Q q z q1
def Qww (K:bS) (n:Nat) (t:TGs):TG:=fun v σ H Q=>∃ a xs,v=.ref a/\SqT K H a xs/\xs.length=n/\t xs σ H Q
theorem Qsy {es:List aD} {k:Nat} {t:TGs} {n:Nat} (U:X.calm=true) (h:PGs X es t)
  (J:(aq es X.env).length=n:=by rfl) (j:(aq es X.env).findIdx? (·.1)=none:=by rfl):PG X (.Tuple es k pos) (Qww X.K n t):=by
 intro pins s σ H v u Q I r q;obtain ⟨a,xs,e1,B,Z,q⟩:=q;subst e1;cases r;obtain ⟨its,z,O,hz⟩:=I.tuple B;refine assign_Tuple_tuple (I.ok.hd U) O (by simp [J,<- Z,z.length]) j fun h' Y=>?_
 have G:Inv X pins σ H { s with heap:=h' }:=I.kept (t':=s.toks) fun b o e=>Y b o (F2 (D1 e)) e
 exact h pins _ σ H xs _ Q G (by simpa using z) q
def Qzb (to ti:TE) (t:Quh):TG:=fun v σ H Q=>to σ H fun o H1=>ti σ H1 fun i H2=>t o i v H2 fun H3=>Q σ H3
theorem Qsz {o i:aD} {to z:TE} {t:Quh} (Z:PE X o to) (hi:PE X i z) (hs:Qxg X t)
  (ha:∀ v,assign (.Subscript o i pos) X.env v=(do
   let j <- ak [v] (aN o X.env)
   let q <- ak [v,j] (aN i X.env)
   standAt pos
   ak [v,j,q] (setItem j q v)
   release [v,j,q] []):=by intro _; rfl):PG X (.Subscript o i pos) (Qzb to z t):=by
 intro pins s σ H v u Q I r h;rw [ha];refine aF (az (thn (Z pins s σ H _ I h) fun j s1 ⟨x,H1,B,U,q1⟩=>?_))
 refine aF (az (thn (hi pins s1 σ H1 _ B q1) fun q s2 ⟨y,H2,O,Y,q2⟩=>?_))
 refine aF (wpAny_standAt (aF (az (thn (hs pins s2 σ H2 x y v j q u _ O U Y r q2) fun _ s3 ⟨J,G,q3⟩=>?_))))
 exact wpAny_release ⟨σ,J,G,q3⟩
def Qsa (te:TE) (g:TG):TS:=fun D σ H=>te σ H fun x H1=>g x σ H1 D.nx
theorem Qk0 {tg e:aD} {te:TE} {g:TG} (G:PE X e te) (j:PG X tg g) (hs:swapsWithSole [tg] e pos.line X.env=pure false:=by rfl) (J:swappedStores [tg] e X.env=pure none:=by rfl)
  (h1:(aq [tg] X.env).map (·.2)=[assign tg X.env]:=by rfl):PS X (.Assign [tg] e pos) (Qsa te g):=by
 intro pins s σ H D I h;refine wpAny_Assign_stores (thn (G pins s σ H _ I h) fun v s1 ⟨x,H1,z,B,q1⟩=>?_) hs J
 rw [h1];exact thn (j pins s1 σ H1 x v _ z B q1) fun _ s2 q=>q
theorem Qsr {i:Nat} {x:Str} {e:aD} {te:TE} {pos':Pos} (J:X.N.Nodup) (hi:X.N[i]?=some x) (O:Loc X.env.scope x) (G:PE X e te) (hs:swapsWith e (some (.Name x pos')) pos.line X.env=pure false:=by rfl) (j:X.fn x=true\/X.env.scope.names.lookup x=some .local:=by first | exact .inl rfl | exact .inr rfl | assumption) :
  PS X (.Assign [.Name x pos'] e pos) (Qsa te (Qe4 i)):=by
 intro pins s σ H D I h;refine wpAny_Assign_Name (thn (G pins s σ H _ I h) fun v s1 ⟨y,H1,q,B,q1⟩=>?_) hs
 exact Q6w q J hi O B (fun s2 z=>⟨_,H1,z,q1⟩) j
end
section
variable {X:Cx} {pos:Pos}
def Qs6 (c:TT) (tb:TS):TS:=fun D σ H=>∃ W:Nat->St->Hp->Prop,(∃ m,W m σ H)/\∀ m σ H,W m σ H ->
 c σ H fun b H1=>if b=true then ∃ N:St->Hp->Prop,(∀ σ' H',N σ' H'->∃ m',m' < m/\W m' σ' H')/\tb { D with nx:=N,ct:=N,bk:=D.nx } σ H1 else D.nx σ H1
theorem Qjw {c:aD} {body:List aL} {tc:TT} {tb:TS} (hp:PassesOwn (aJ X.prog X.w) X.A X.env X.xe) (hc:PT X c tc) (hb:PSs X body tb):PS X (.While c body [] pos) (Qs6 tc tb):=by
 intro pins s σ H D I h;obtain ⟨W,⟨m0,w0⟩,turn⟩:=h;refine wpAny_While (codeAny_whileLoop (fun n s'=>∃ z H',Inv X pins z H' s'/\W n z H') ?_ m0 ⟨σ,H,I,w0⟩);rintro n s1 ⟨q,H1,I1,w1⟩;refine bA hp (thn (hc pins s1 q H1 _ I1 (turn n q H1 w1)) fun b s2 ⟨H2,Z,q2⟩=>?_)
 cases b with
 | true=>
  obtain ⟨N,hN,q2⟩:=q2;rw [bN rfl];refine bA hp (thn (hb pins s2 q H2 _ Z q2) fun f s3 q3=>?_)
  cases f with
  | next=>
   obtain ⟨j,B,U,J⟩:=q3;obtain ⟨O,Y,G⟩:=hN j B J;exact ⟨O,Y,j,B,U,G⟩
  | cont=>
   obtain ⟨j,B,U,J⟩:=q3;obtain ⟨O,Y,G⟩:=hN j B J;exact ⟨O,Y,j,B,U,G⟩
  | brk=>exact q3
  | ret v=>exact q3
 | false=>
  rw [bO E2];exact wpAny_execs_nil ⟨q,H2,Z,q2⟩
end
structure It where
 go:Nat->Hp->Prop
 yld:Nat->Hp->V->Hp->Prop
 stop:Nat->Hp->Prop
def Q92 (X:Cx) (pins:List (aA × Obj)) (H:Hp) (b:aA):Prop:=
 H b=none/\b≠X.env.locals/\b∉X.fs/\(b∈X.ex\/X.s₀.heap.objs.size<=b)/\(∀ x c,X.env.cells.lookup x=some c->c≠b)/\∀ p∈X.pn ++ pins,p.1≠b
theorem Inv.fpOk {X:Cx} {pins:List (aA × Obj)} {σ:St} {H H':Hp} {s:aC} {b:aA} (I:Inv X pins σ H s) (j:s.heap.objs.size<=b) (B:H' b=none):Q92 X pins H' b:=by
 refine ⟨B,cK (D6 I.lt j),I.nofs j,.inr (F3 I.sz j),fun x c e z=>?_,fun p hp z=>?_⟩
 ·obtain ⟨v,q⟩:=I.cell x c e;exact absurd (D6 q.lt (by rw [z]; exact j)) (bt _)
 ·exact absurd (D6 (D1 (I.pin p hp).1) (by rw [z]; exact j)) (bt _)
structure Turn (P:aO) (w:aM) (K:bS) (tg:aD) (J:It) (fp:List aA) (it:aA) (tn:Nat->Heap->Prop):Prop where
 mem:it∈fp
 obj:∀ i h,tn i h->∀ b∈fp,∃ o,h.get? b=some o/\∀ v,o.data≠.cell v
 keep:∀ i h h',tn i h->(∀ b∈fp,∀ o,h.get? b=some o->h'.get? b=some o)->tn i h'
 item:∀ (X:Cx),X.prog=P->X.w=w->X.K=K->X.calm=true->∀ (i:Nat) (pins:List (aA × Obj)) (s:aC) (σ:St) (H:Hp) (E:aB->aC->Prop),Inv X pins σ H s->(∀ b∈fp,Q92 X pins H b)->tn i s.heap->J.go i H ->
  aI (aJ P w) X.A (bB (.ref it)) (fun r s1=>∃ u,r=some u /\
   aI (aJ P w) X.A (letOwnedTupleGo tg (.ref it) u) (fun _ s2=>∃ x H',Inv X pins σ H' s2/\RelV x u/\J.yld i H x H'/\tn (i + 1) s2.heap/\∀ b∈fp,H' b=none) E s1) E s
 done:∀ (X:Cx),X.prog=P->X.w=w->X.K=K->X.calm=true->∀ (i:Nat) (pins:List (aA × Obj)) (s:aC) (σ:St) (H:Hp) (E:aB->aC->Prop),Inv X pins σ H s->(∀ b∈fp,Q92 X pins H b)->tn i s.heap->J.stop i H ->
  aI (aJ P w) X.A (bB (.ref it)) (fun r s1=>r=none/\Inv X pins σ H s1) E s
 self:∀ (A:aR) (i:Nat) (s:aC) (Q:aB->aC->Prop) (E:aB->aC->Prop),tn i s.heap->Q (.ref it) s->aI (aJ P w) A (pyIter (.ref it)) Q E s
abbrev TI:=St->Hp->(It->Hp->Prop)->Prop
def PIE (X:Cx) (pins:List (aA × Obj)) (σ:St) (tg:aD) (R:It->Hp->Prop) (itv:aB) (s2:aC):Prop:=
 ∃ (it:aA) (fp:List aA) (tn:Nat->Heap->Prop) (J:It) (H':Hp),itv=.ref it/\Inv X pins σ H' s2/\Turn X.prog X.w X.K tg J fp it tn/\tn 0 s2.heap/\(∀ b∈fp,Q92 X pins H' b)/\R J H'
def PI (X:Cx) (tg iter:aD) (wi:TI):Prop:=
 ∀ (pins:List (aA × Obj)) (s:aC) (σ:St) (H:Hp) (R:It->Hp->Prop),Inv X pins σ H s->wi σ H R ->
  aI (aJ X.prog X.w) X.A (aN iter X.env) (fun v s1=>aI (aJ X.prog X.w) X.A (pyIter v) (PIE X pins σ tg R) X.xe s1) X.xe s
theorem Qm6 {M:Model} {A:aR} {E:aB->aC->Prop} {s:aC} {tg:aD} {q:aA} {u:aB} {o:Obj} {n:String} {vs:Array aB} {Q:Unit->aC->Prop} (G:s.heap.get? q=some o) (B:o.cls=.type n) (hd:o.data=.fields vs)
  (z:["enumerate", "zip", "dict_itemiterator", "dict_reverseitemiterator", "odict_iterator", "itertools.zip_longest", "itertools.pairwise"].contains n=false) (j:Q () s):aI M A (letOwnedTupleGo tg (.ref q) u) Q E s:=by
 unfold letOwnedTupleGo;cases tg <;> first
  | exact aU j
  | (cases u <;> first
    | exact aU j
    | (refine aF (wpAny_load G ?_)
       rw [B,hd];show aI M A (if (["enumerate", "zip", "dict_itemiterator", "dict_reverseitemiterator", "odict_iterator", "itertools.zip_longest", "itertools.pairwise"].contains n && vs[0]? == some (ag _))=true then _ else _) Q E s;rw [bO (by intro h; rw [z,fe] at h; cases h)];exact aU j))
def Itl (K:bS) (a:aA):It:=
 ⟨fun i H=>∃ xs x,SqL K H a xs/\xs[i]?=some x,fun i H x H'=>H'=H/\∀ xs,SqL K H a xs->xs[i]?=some x,fun i H=>∃ xs,SqL K H a xs/\xs.length<=i⟩
def Itt (K:bS) (a:aA):It:=
 ⟨fun i H=>∃ xs x,SqT K H a xs/\xs[i]?=some x,fun i H x H'=>H'=H/\∀ xs,SqT K H a xs->xs[i]?=some x,fun i H=>∃ xs,SqT K H a xs/\xs.length<=i⟩
def Itr (lo:Int) (n:Nat):It:=⟨fun i _=>i < n,fun i H x H'=>H'=H/\x=.int (lo + i),fun i _=>n<=i⟩
theorem Qh5 {P:aO} {w:aM} {K:bS} {tg:aD} (a j:aA):Turn P w K tg (Itl K a) [j] j (fun i h=>h.IsListIter j a i) where
 mem:=by simp
 obj:=fun i h st b q=>by
  have e:b=j:=by simpa using q
  subst e;obtain ⟨o,e,c,d⟩:=st;exact ⟨o,e,fun v z=>by rw [d] at z; cases z⟩
 keep:=fun i h h' st k=>st.at fun o e=>k j (by simp) o e
 item:=by
  intro X O Y hK hc i pins s σ H E I G st J;subst O Y hK;obtain ⟨xs,x,B,hx⟩:=J;obtain ⟨its,rv,p,hz⟩:=I.list B;obtain ⟨u,hu,ru⟩:=rv.get hx;obtain ⟨Z,U,f2,f3,f4,f5⟩:=G j (by simp);refine wpAny_pyNext_list_item st p.isList (x:=u) (by simpa using hu) fun h' st' sb=>?_
  have I1:Inv X pins σ H { s with heap:=h' }:=I.turned (t':=s.toks) (fun b o q e=>(sb.2 b q).trans e) Z U f3 f4 f5
  obtain ⟨o,e,c,d⟩:=id st';exact ⟨u,rfl,Qm6 (s:={ s with heap:=h' }) e c d (by decide) ⟨x,H,I1,ru,⟨rfl,fun ys hy=>by rw [I.list_inj hy B]; exact hx⟩,st',fun b q=>(G b q).1⟩⟩
 done:=by
  intro X O Y hK hc i pins s σ H E I G st J;subst O Y hK;obtain ⟨xs,B,hx⟩:=J;obtain ⟨its,rv,p,hz⟩:=I.list B;obtain ⟨Z,U,f2,f3,f4,f5⟩:=G j (by simp);have hl:=rv.length;exact wpAny_pyNext_list_end (I.ok.hd hc) st p.isList (by simp; omega) fun h' eb=>⟨rfl,I.turned (t':=s.toks) (fun b o q e=>eb b o q e) Z U f3 f4 f5⟩
 self:=fun _ _ _ _ _ st h=>wpAny_pyIter_listiter st h
theorem Qeh {P:aO} {w:aM} {K:bS} {tg:aD} (a j:aA):Turn P w K tg (Itt K a) [j] j (fun i h=>h.IsTupleIter j a i) where
 mem:=by simp
 obj:=fun i h st b q=>by
  have e:b=j:=by simpa using q
  subst e;obtain ⟨o,e,c,d⟩:=st;exact ⟨o,e,fun v z=>by rw [d] at z; cases z⟩
 keep:=fun i h h' st k=>st.at fun o e=>k j (by simp) o e
 item:=by
  intro X O Y hK hc i pins s σ H E I G st J;subst O Y hK;obtain ⟨xs,x,B,hx⟩:=J;obtain ⟨its,rv,p,hz⟩:=I.tuple B;obtain ⟨u,hu,ru⟩:=rv.get hx;obtain ⟨Z,U,f2,f3,f4,f5⟩:=G j (by simp);refine wpAny_pyNext_tuple_item st (show s.heap.IsTuple a its.toArray from p) (x:=u) (by simpa using hu) fun h' st' sb=>?_
  have I1:Inv X pins σ H { s with heap:=h' }:=I.turned (t':=s.toks) (fun b o q e=>(sb.2 b q).trans e) Z U f3 f4 f5
  obtain ⟨o,e,c,d⟩:=id st';exact ⟨u,rfl,Qm6 (s:={ s with heap:=h' }) e c d (by decide) ⟨x,H,I1,ru,⟨rfl,fun ys hy=>by rw [I.tuple_inj hy B]; exact hx⟩,st',fun b q=>(G b q).1⟩⟩
 done:=by
  intro X O Y hK hc i pins s σ H E I G st J;subst O Y hK;obtain ⟨xs,B,hx⟩:=J;obtain ⟨its,rv,p,hz⟩:=I.tuple B;obtain ⟨Z,U,f2,f3,f4,f5⟩:=G j (by simp);have hl:=rv.length;exact wpAny_pyNext_tuple_end (I.ok.hd hc) st (show s.heap.IsTuple a its.toArray from p) (by simp; omega) fun h' eb=>⟨rfl,I.turned (t':=s.toks) (fun b o q e=>eb b o q e) Z U f3 f4 f5⟩
 self:=fun _ _ _ _ _ st h=>wpAny_pyIter_tupleiter st h
theorem Qei {P:aO} {w:aM} {K:bS} {tg:aD} (j:aA) (lo:Int) (n:Nat):Turn P w K tg (Itr lo n) [j] j (fun i h=>IsRangeIter h j (lo + (i:Nat) * 1) ((n:Int) - (i:Nat)) 1) where
 mem:=by simp
 obj:=fun i h st b q=>by
  have e:b=j:=by simpa using q
  subst e;exact ⟨_,st,fun v z=>by
   have z':Data.fields _=Data.cell v:=z;cases z'⟩
 keep:=fun i h h' st k=>k j (by simp) _ st
 item:=by
  intro X J U Z hc i pins s σ H E I B st G;subst J U Z;obtain ⟨Y,O,f2,f3,f4,f5⟩:=B j (by simp);have W:=Walks.range (prog:=X.prog) (w:=X.w) (I.ok.hd hc) j lo 1 n;refine W.item i s _ _ G st fun v h' tk hv st' kk=>?_
  obtain ⟨t,rfl⟩:=hv;have I1:Inv X pins σ H { s with heap:=h',toks:=tk }:=I.turned (fun b o q e=>kk b o (by simpa using q) e) Y O f3 f4 f5
  refine ⟨_,rfl,Qm6 (s:={ s with heap:=h',toks:=tk }) (n := "range_iterator") st' rfl rfl (by decide) ⟨.int (lo + i),H,I1,⟨t,?_⟩,⟨rfl,rfl⟩,st',fun b q=>(B b q).1⟩⟩
  rw [Int.mul_one]
 done:=by
  intro X J U Z hc i pins s σ H E I B st G;subst J U Z;obtain ⟨Y,O,f2,f3,f4,f5⟩:=B j (by simp);exact wpAny_pyNext_range_end (I.ok.hd hc) st (by have:n<=i:=G; omega) fun h' eb=>⟨rfl,I.turned (t':=s.toks) (fun b o q e=>eb b o q e) Y O f3 f4 f5⟩
 self:=fun _ _ _ _ _ st h=>wpAny_pyIter_rangeiter st h
section
variable {X:Cx} {tg:aD}
def Qws (K:bS) (tl:TE):TI:=fun σ H R=>tl σ H fun x H1=>∃ a,x=.ref a/\(∃ xs,SqL K H1 a xs)/\R (Itl K a) H1
def Qza (K:bS) (tl:TE):TI:=fun σ H R=>tl σ H fun x H1=>∃ a,x=.ref a/\(∃ xs,SqT K H1 a xs)/\R (Itt K a) H1
theorem Qpf {l:aD} {tl:TE} (J:PE X l tl):PI X tg l (Qws X.K tl):=by
 intro pins s σ H R I h;refine thn (J pins s σ H _ I h) fun v s1 ⟨x,H1,j,B,q1⟩=>?_
 obtain ⟨a,e,⟨xs,z⟩,q⟩:=q1;subst e;cases B;obtain ⟨its,O,p,hz⟩:=j.list z;refine wpAny_pyIter_list p.isList ?_;refine ⟨s1.heap.objs.size,[s1.heap.objs.size],_,_,H1,rfl,j.kept (t':=s1.toks) fun b o e=>O1 _ e,Qh5 a _,⟨_,D9 _ rfl,rfl,rfl⟩,fun b G=>?_,q⟩
 have e:b=s1.heap.objs.size:=by simpa using G
 subst e;exact j.fpOk (O8 _) (j.hok.fresh (O8 _))
theorem Qsx {l:aD} {tl:TE} (J:PE X l tl):PI X tg l (Qza X.K tl):=by
 intro pins s σ H R I h;refine thn (J pins s σ H _ I h) fun v s1 ⟨x,H1,j,B,q1⟩=>?_
 obtain ⟨a,e,⟨xs,z⟩,q⟩:=q1;subst e;cases B;obtain ⟨its,O,p,hz⟩:=j.tuple z;refine bL (show s1.heap.IsTuple a its.toArray from p) ?_;refine ⟨s1.heap.objs.size,[s1.heap.objs.size],_,_,H1,rfl,j.kept (t':=s1.toks) fun b o e=>O1 _ e,Qeh a _,⟨_,D9 _ rfl,rfl,rfl⟩,fun b G=>?_,q⟩
 have e:b=s1.heap.objs.size:=by simpa using G
 subst e;exact j.fpOk (O8 _) (j.hok.fresh (O8 _))
theorem Qd5 {pins:List (aA × Obj)} {σ:St} {H:Hp} {s:aC} {R:It->Hp->Prop} {E:aB->aC->Prop} {lo hi:Int} {t u v:Tok} {tk:Nat} (I:Inv X pins σ H s) (h1:-(2 ^ 62)<=lo) (h2:lo < 2 ^ 62) (z:-(2 ^ 62)<=hi) (G:hi < 2 ^ 62)
  (q:R (Itr lo (hi - lo).toNat) H):aI (aJ X.prog X.w) X.A (pyIter (.ref s.heap.objs.size)) (PIE X pins σ tg R) E { s with heap:=s.heap.push { cls:=.type "range",data:=.fields #[.int lo t,.int hi u,.int 1 v] },toks:=tk }:=by
 refine wpAny_pyIter_range (IsRange.new ..) (small_one h1 h2 z G) ?_;have j:Inv X pins σ H { s with heap:=s.heap.push { cls:=.type "range",data:=.fields #[.int lo t,.int hi u,.int 1 v] },toks:=tk }:=I.kept fun b o e=>O1 _ e
 refine ⟨(s.heap.push { cls:=.type "range",data:=.fields #[.int lo t,.int hi u,.int 1 v] }).objs.size,[(s.heap.push { cls:=.type "range",data:=.fields #[.int lo t,.int hi u,.int 1 v] }).objs.size],_,_,H,rfl,
  j.kept (t':=tk) fun b o e=>O1 _ e,Qei _ lo (hi - lo).toNat,?_,fun b B=>?_,q⟩
 ·have e1:lo + ((0:Nat):Int) * 1=lo:=by simp
  have e2:(((hi - lo).toNat:Nat):Int) - ((0:Nat):Int)=Builtin.Range.rangeSize lo hi 1:=by rw [rangeSize_one]; split <;> omega
  show IsRangeIter _ _ (lo + ((0:Nat):Int) * 1) ((((hi - lo).toNat:Nat):Int) - ((0:Nat):Int)) 1;rw [e1,e2];exact D9 _ rfl
 ·have e:b=(s.heap.push { cls:=.type "range",data:=.fields #[.int lo t,.int hi u,.int 1 v] }).objs.size:=by simpa using B
  subst e;exact j.fpOk (O8 _) (j.hok.fresh (O8 _))
def Qwr (ta:TA):TI:=fun σ H R=>ta σ H fun vs H1=>∃ j:Int,vs=[.int j]/\-(2 ^ 62)<=j/\j < 2 ^ 62/\R (Itr 0 j.toNat) H1
def Qwq (ta:TA):TI:=fun σ H R=>ta σ H fun vs H1=>∃ i j:Int,vs=[.int i,.int j]/\(-(2 ^ 62)<=i/\i < 2 ^ 62/\-(2 ^ 62)<=j/\j < 2 ^ 62)/\R (Itr i (j - i).toNat) H1
theorem Qhk {a:aD} {ta:TA} {p pos:Pos} (z:Gl X "range") (G:X.mg "range" = none) (O:PA X [a] ta) (hs:aP [a] X.env=[(false,aN a X.env)]:=by rfl):PI X tg (.Call (.Name "range" p) [a] [] pos) (Qwr ta):=by
 intro pins s σ H R I h;refine Call_ (Q53 I z G boot_range (dP (thn (O pos pins s σ H _ I h) fun us s1 ⟨vs,H1,B,J,q1⟩=>?_) hs rfl))
 obtain ⟨j,e,q1,q2,q⟩:=q1;subst e;cases J with
 | cons r U=>
  cases U;obtain ⟨t,rfl⟩:=r;exact call_range_1 (Qd5 B (by omega) (by omega) q1 q2 (by simpa using q))
theorem Qhj {a b:aD} {ta:TA} {p pos:Pos} (J:Gl X "range") (U:X.mg "range" = none) (Z:PA X [a,b] ta) (hs:aP [a,b] X.env=[(false,aN a X.env),(false,aN b X.env)]:=by rfl) (z:aP [b] X.env=[(false,aN b X.env)]:=by rfl) :
  PI X tg (.Call (.Name "range" p) [a,b] [] pos) (Qwq ta):=by
 intro pins s σ H R I h;refine Call_ (Q53 I J U boot_range (dP (thn (Z pos pins s σ H _ I h) fun us s1 ⟨vs,H1,O,Y,q1⟩=>?_) (by rw [hs,z]) (by rw [z]; rfl)))
 obtain ⟨i,j,e,⟨q1,q2,q3,G⟩,q⟩:=q1;subst e;cases Y with
 | cons r B=>
  cases B with
  | cons r' B=>
   cases B;obtain ⟨t,rfl⟩:=r;obtain ⟨t',rfl⟩:=r';exact call_range_2 (Qd5 O q1 q2 q3 G q)
def Qyq (wi:TI) (g:TG) (tb:TS):TS:=fun D σ H=>wi σ H fun J H1=>∃ W:Nat->Nat->St->Hp->Prop,(∃ m,W 0 m σ H1)/\∀ i m σ H,W i m σ H ->
 (J.stop i H/\D.nx σ H)\/(J.go i H/\∃ N:St->Hp->Prop,(∀ σ' H',N σ' H'->∃ m',m' < m/\W (i + 1) m' σ' H')/\∀ x H',J.yld i H x H'->g x σ H' fun σ2 H2=>tb { D with nx:=N,ct:=N,bk:=D.nx } σ2 H2)
def Q7d (fp:List aA) (h:Heap):List (aA × Obj):=fp.filterMap fun b=>(h.get? b).map fun o=>(b,o)
theorem Kf {j:List aA} {h:Heap} {b:aA} {o:Obj} (q:b∈j) (e:h.get? b=some o):(b,o)∈Q7d j h:=eI.mpr ⟨b,q,by rw [e]; rfl⟩
theorem Qhs {j:List aA} {h:Heap} {p:aA × Obj} (hp:p∈Q7d j h):p.1∈j/\h.get? p.1=some p.2:=by
 obtain ⟨b,z,e⟩:=eI.mp hp;cases q:h.get? b with
 | none=>rw [q] at e; cases e
 | some o=>
  rw [q] at e;have B:(b,o)=p:=bj e;subst B;exact ⟨z,q⟩
theorem Inv.pinned {pins:List (aA × Obj)} {σ:St} {H:Hp} {s:aC} {j:List aA} (I:Inv X pins σ H s) (G:∀ b∈j,Q92 X pins H b) (U:∀ b∈j,∃ o,s.heap.get? b=some o/\∀ v,o.data≠.cell v):Inv X (pins ++ Q7d j s.heap) σ H s:=
 I.pins_of fun p hp=>(E9.mp hp).elim (fun z=>I.pin p (E5 _ z)) fun z=>by
  obtain ⟨q,e⟩:=Qhs z;obtain ⟨J,O,Y,_⟩:=G p.1 q;obtain ⟨o,B,d⟩:=U p.1 q;rw [e] at B; cases B;exact ⟨e,J,O,Y,d⟩
theorem Inv.unpinned {pins pl:List (aA × Obj)} {σ:St} {H:Hp} {s:aC} (I:Inv X (pins ++ pl) σ H s):Inv X pins σ H s:=I.pins_of fun p hp=>I.pin p (E5 _ (G6 _ hp))
theorem Qss {iter:aD} {body:List aL} {wi:TI} {g:TG} {tb:TS} {pos:Pos} (hp:PassesOwn (aJ X.prog X.w) X.A X.env X.xe) (hc:X.calm=true) (hi:PI X tg iter wi) (hg:PG X tg g) (O:PSs X body tb)
  (hs:∀ x,bC iter X.env x=pure x:=by intro _; rfl):PS X (.For tg iter body [] pos) (Qyq wi g tb):=by
 intro pins s σ H D I h;refine wpAny_For (thn (hi pins s σ H _ I h) fun v s1 h1=>thn h1 fun a8 s2 h2=>?_) hs
 obtain ⟨it,fp,tn,J,H2,e,I2,T,a6,f2,W,⟨m0,w0⟩,turn⟩:=h2;subst e;have B:∀ {H':Hp},(∀ b∈fp,H' b=none)->∀ b∈fp,Q92 X pins H' b:=fun hn b O=>⟨hn b O,(f2 b O).2⟩
 refine codeAny_forLoop_any (fun n s'=>∃ i z H',Inv X pins z H' s'/\tn i s'.heap/\(∀ b∈fp,H' b=none)/\W i n z H') ?_ m0 ⟨0,σ,H2,I2,a6,fun b O=>(f2 b O).1,w0⟩
 rintro n s3 ⟨i,U,H3,I3,a3,a2,w3⟩;rcases turn i n U H3 w3 with ⟨stop,qn⟩ | ⟨go,N,hN,step⟩
 ·refine bA hp (thn (T.done X rfl rfl rfl hc i pins s3 U H3 X.xe I3 (B a2) a3 stop) fun r s4 ⟨hr,I4⟩=>?_)
  subst hr;exact wpAny_execs_nil ⟨U,H3,I4,qn⟩
 ·refine bA hp (thn (T.item X rfl rfl rfl hc i pins s3 U H3 X.xe I3 (B a2) a3 go) fun r s4 ⟨u,hr,h4⟩=>?_)
  subst hr;refine bA hp (thn h4 fun _ s5 ⟨x,H5,I5,r5,y5,Z,a5⟩=>?_);have a7:=I5.pinned (B a5) (T.obj _ _ Z);refine bA hp (thn (hg _ s5 U H5 x u _ a7 r5 (step x H5 y5)) fun _ s6 ⟨a4,H6,I6,q6⟩=>?_)
  refine bA hp (thn (O _ s6 a4 H6 _ I6 q6) fun f s7 Y=>?_)
  have again:∀ {j:St} {q:Hp},Inv X (pins ++ Q7d fp s5.heap) j q s7->N j q->∃ m,m < n/\∃ i z H',Inv X pins z H' s7/\tn i s7.heap/\(∀ b∈fp,H' b=none)/\W i m z H':=fun {j q} G n7=>by
   obtain ⟨m',hm,w7⟩:=hN j q n7;refine ⟨m',hm,i + 1,j,q,G.unpinned,T.keep _ _ _ Z fun b O o e=>(G.pin (b,o) (E5 _ (E5 _ (Kf O e)))).1,fun b O=>?_,w7⟩;obtain ⟨o,e,d⟩:=T.obj _ _ Z b O;exact (G.pin (b,o) (E5 _ (E5 _ (Kf O e)))).2.1
  cases f with
  | next=>obtain ⟨j,q,G,n7⟩:=Y; exact again G n7
  | cont=>obtain ⟨j,q,G,n7⟩:=Y; exact again G n7
  | brk=>obtain ⟨j,q,G,Y⟩:=Y; exact ⟨j,q,G.unpinned,Y⟩
  | ret v=>obtain ⟨x7,j,q,G,r7,Y⟩:=Y; exact ⟨x7,j,q,G.unpinned,r7,Y⟩
end
abbrev R2:=V->V->Hp->VK->Prop
def OpR (X:Cx) (f:aB->aB->Sem aB) (r:R2):Prop:=
 ∀ (pins:List (aA × Obj)) (s:aC) (σ:St) (H:Hp) (x y:V) (v u:aB) (Q:VK),Inv X pins σ H s->RelV x v->RelV y u->r x y H Q ->
  aI (aJ X.prog X.w) X.A (f v u) (EP X pins σ Q) X.xe s
def UnR (X:Cx) (f:aB->Sem aB) (r:V->Hp->VK->Prop):Prop:=
 ∀ (pins:List (aA × Obj)) (s:aC) (σ:St) (H:Hp) (x:V) (v:aB) (Q:VK),Inv X pins σ H s->RelV x v->r x H Q ->
  aI (aJ X.prog X.w) X.A (f v) (EP X pins σ Q) X.xe s
def qd (X:Cx) (f:aB) (r:List V->Hp->VK->Prop):Prop:=
 ∀ (pins:List (aA × Obj)) (s:aC) (σ:St) (H:Hp) (xs:List V) (us:List aB) (Q:VK),Inv X pins σ H s->Vals xs us->r xs H Q ->
  aI (aJ X.prog X.w) X.A (call f us) (EP X pins σ Q) X.xe s
def tOp (r:R2) (ta tb:TE):TE:=fun σ H Q=>ta σ H fun x H1=>tb σ H1 fun y H2=>r x y H2 Q
def tUn (r:V->Hp->VK->Prop) (ta:TE):TE:=fun σ H Q=>ta σ H fun x H1=>r x H1 Q
def rI (C:Int->Int->Prop) (g:Int->Int->V):R2:=fun x y H Q=>∃ i j,x=.int i/\y=.int j/\C i j/\Q (g i j) H
def rI0 (g:Int->Int->V):R2:=fun x y H Q=>∃ i j,x=.int i/\y=.int j/\Q (g i j) H
def rU (g:Int->V):V->Hp->VK->Prop:=fun x H Q=>∃ i,x=.int i/\Q (g i) H
section
variable {X:Cx} {a b c:aD} {ta tb tc:TE} {pos:Pos}
theorem Que (Y:PE X a ta) (J:PE X b tb) {pins:List (aA × Obj)} {s:aC} {σ:St} {H:Hp} {R:V->V->Hp->Prop} (I:Inv X pins σ H s)
  (h:ta σ H fun x H1=>tb σ H1 fun y H2=>R x y H2) {Q:aB->aC->Prop} {f:aB->aB->Sem aB}
  (z:∀ v u s2 x y H2,Inv X pins σ H2 s2->RelV x v->RelV y u->R x y H2->aI (aJ X.prog X.w) X.A (f v u) Q X.xe s2) :
  aI (aJ X.prog X.w) X.A (aN a X.env) (fun v j=>aI (aJ X.prog X.w) X.A (aN b X.env) (fun u q=>aI (aJ X.prog X.w) X.A (f v u) Q X.xe q) X.xe j) X.xe s:=by
 refine thn (Y pins s σ H _ I h) fun v s1 ⟨x,H1,B,O,q1⟩=>?_
 refine thn (J pins s1 σ H1 _ B q1) fun u s2 ⟨y,H2,G,U,q2⟩=>?_
 exact z v u s2 x y H2 G O U q2
theorem Qvy {op:Operator} {r:R2} (G:OpR X (aY op) r) (O:PE X a ta) (B:PE X b tb):PE X (.BinOp a op b pos) (tOp r ta tb):=by
 intro pins s σ H Q I h;exact wpAny_BinOp (Que O B I h fun v u s2 x y H2 z j J q=>G pins s2 σ H2 x y v u Q z j J q)
theorem Qvw {op:UnaryOp} {r:V->Hp->VK->Prop} (z:UnR X (unaryOp op) r) (B:PE X a ta):PE X (.UnaryOp op a pos) (tUn r ta):=by
 intro pins s σ H Q I h;exact UnaryOp_ (thn (B pins s σ H _ I h) fun v s1 ⟨x,H1,j,q,q1⟩=>z pins s1 σ H1 x v Q j q q1)
theorem opI {f:aB->aB->Sem aB} {C:Int->Int->Prop} {g:Int->Int->Int}
  (rule:∀ (i j:Int) (t u:Tok) (s:aC) (Q:aB->aC->Prop) (E:aB->aC->Prop),C i j->Q (.int (g i j) s.toks) { s with toks:=s.toks + 1 }->aI (aJ X.prog X.w) X.A (f (.int i t) (.int j u)) Q E s) :
  OpR X f (rI C fun i j=>.int (g i j)):=by
 intro pins s σ H x y v u Q I z G h;obtain ⟨i,j,rfl,rfl,B,q⟩:=h;obtain ⟨t,rfl⟩:=z;obtain ⟨t',rfl⟩:=G;exact rule i j t t' s _ _ B ⟨.int (g i j),H,I.tok _,⟨_,rfl⟩,q⟩
theorem Qw8 {f:aB->aB->Sem aB} {g:Int->Int->Int}
  (rule:∀ (i j:Int) (t u:Tok) (s:aC) (Q:aB->aC->Prop) (E:aB->aC->Prop),Q (.int (g i j) s.toks) { s with toks:=s.toks + 1 }->aI (aJ X.prog X.w) X.A (f (.int i t) (.int j u)) Q E s) :
  OpR X f (rI0 fun i j=>.int (g i j)):=by
 intro pins s σ H x y v u Q I z B h;obtain ⟨i,j,rfl,rfl,q⟩:=h;obtain ⟨t,rfl⟩:=z;obtain ⟨t',rfl⟩:=B;exact rule i j t t' s _ _ ⟨.int (g i j),H,I.tok _,⟨_,rfl⟩,q⟩
theorem Qpz {f:aB->aB->Sem aB} {g:Int->Int->Bool}
  (rule:∀ (i j:Int) (t u:Tok) (s:aC) (Q:aB->aC->Prop) (E:aB->aC->Prop),Q (.bool (g i j)) s->aI (aJ X.prog X.w) X.A (f (.int i t) (.int j u)) Q E s) :
  OpR X f (rI0 fun i j=>.bl (g i j)):=by
 intro pins s σ H x y v u Q I z B h;obtain ⟨i,j,rfl,rfl,q⟩:=h;obtain ⟨t,rfl⟩:=z;obtain ⟨t',rfl⟩:=B;exact rule i j t t' s _ _ ⟨.bl (g i j),H,I,rfl,q⟩
def Qzk (i j:Int):Prop:=0 < j/\j < 1073741824
def Qzj (i j:Int):Prop:=0<=j/\j<=1000000/\i.natAbs < 2 ^ 64
def CMul (i j:Int):Prop:=(-(2 ^ 64) < i/\i < 2 ^ 64)\/(-(2 ^ 64) < j/\j < 2 ^ 64)
theorem CMul.ok {i j:Int} (h:CMul i j):IntMulOk i j:=by
 rcases h with ⟨h1,h2⟩ | ⟨h1,h2⟩
 ·exact .of_left (intBits_le_64 h1 h2)
 ·exact .of_right (intBits_le_64 h1 h2)
theorem Qtg:OpR X (aY .Add) (rI0 fun i j=>.int (i + j)):=Qw8 fun _ _ _ _ _ _ _ q=>add_int q
theorem Qt9:OpR X (aY .Sub) (rI0 fun i j=>.int (i - j)):=Qw8 fun _ _ _ _ _ _ _ q=>sub_int q
theorem Qtc:OpR X (aY .Mult) (rI CMul fun i j=>.int (i * j)):=opI fun _ _ _ _ _ _ _ z q=>mul_int q z.ok
theorem Qpx:OpR X (aY .FloorDiv) (rI Qzk fun i j=>.int (i / j)):=opI fun i j _ _ _ _ _ z q=>by
 have h1:(0:Int) < j:=z.1;have h2:j < 1073741824:=z.2;exact floordiv_int (by omega) (by rw [fh i (by omega)]; exact q) (.inl (PyProof.noPylong_small (by omega)))
theorem Qtd:OpR X (aY .Mod) (rI (fun _ j=>0 < j) fun i j=>.int (i % j)):=opI fun i j _ _ _ _ _ z q=>by
 have h1:(0:Int) < j:=z;exact mod_int' (by omega) (by rw [Int.fmod_eq_emod_of_nonneg i (by omega)]; exact q)
theorem Qtb:OpR X (aY .Pow) (rI Qzj fun i j=>.int (i ^ j.toNat)):=opI fun _ _ _ _ _ _ _ z q=>pow_int_small z.1 z.2.1 z.2.2 q
theorem unI {f:aB->Sem aB} {g:Int->Int}
  (rule:∀ (i:Int) (t:Tok) (s:aC) (Q:aB->aC->Prop) (E:aB->aC->Prop),Q (.int (g i) s.toks) { s with toks:=s.toks + 1 }->aI (aJ X.prog X.w) X.A (f (.int i t)) Q E s) :
  UnR X f (rU fun i=>.int (g i)):=by
 intro pins s σ H x v Q I j h;obtain ⟨i,rfl,q⟩:=h;obtain ⟨t,rfl⟩:=j;exact rule i t s _ _ ⟨.int (g i),H,I.tok _,⟨_,rfl⟩,q⟩
theorem Qs1:UnR X (unaryOp .USub) (rU fun i=>.int (-i)):=unI fun _ _ _ _ _ q=>neg_int q
end
section
variable {X:Cx} {a b c:aD} {ta tb tc:TE} {pos:Pos}
theorem Qu7 {pins:List (aA × Obj)} {σ:St} {H:Hp} {s:aC} {Q:VK} {k j:Bool} (I:Inv X pins σ H s) (q:Q (.bl k) H) (e:k=j):EP X pins σ Q (.bool j) s:=by
 subst e;exact ⟨.bl k,H,I,rfl,q⟩
theorem Qw4:OpR X (aX .Lt) (rI0 fun i j=>.bl (decide (i < j))):=Qpz fun _ _ _ _ _ _ _ q=>lt_int q
theorem Qw5:OpR X (aX .LtE) (rI0 fun i j=>.bl (decide (i<=j))):=Qpz fun _ _ _ _ _ _ _ q=>le_int q
theorem Qw6:OpR X (aX .Gt) (rI0 fun i j=>.bl (decide (j < i))):=Qpz fun _ _ _ _ _ _ _ q=>gt_int q
theorem Qw7:OpR X (aX .GtE) (rI0 fun i j=>.bl (decide (j<=i))):=Qpz fun _ _ _ _ _ _ _ q=>ge_int q
theorem OpR.or {f:aB->aB->Sem aB} {r B:R2} (h:OpR X f r) (h':OpR X f B):OpR X f (fun x y H Q=>r x y H Q\/B x y H Q):=by
 intro pins s σ H x y v u Q I j z q;rcases q with q | q
 ·exact h pins s σ H x y v u Q I j z q
 ·exact h' pins s σ H x y v u Q I j z q
theorem Qkm (b:aD) {op:CmpOp} (h:op≠.In:=by decide) (h2:op≠.NotIn:=by decide):bF op b=false:=by
 have e1:(op == CmpOp.In)=false:=by cases op <;> first | rfl | exact absurd rfl h
 have e2:(op == CmpOp.NotIn)=false:=by cases op <;> first | rfl | exact absurd rfl h2
 cases b <;> simp [bF,e1,e2]
theorem Qpp {op:CmpOp} {r:R2} (J:OpR X (aX op) r) (U:PE X a ta) (G:PE X b tb) (B:bF op b=false):PE X (.Compare a [op] [b] pos) (tOp r ta tb):=by
 intro pins s σ H Q I h;exact wpAny_Compare1 (Que U G I h fun v u s2 x y H2 z j O q=>J pins s2 σ H2 x y v u Q z j O q) B
def Qrd (t:TE):TT:=fun σ H Q=>t σ H fun x H'=>∃ k,x=.bl k/\Q k H'
theorem Qp9 {op:CmpOp} {r:R2} (ho:OpR X (aX op) r) (ha:PE X a ta) (U:PE X b tb) (O:bF op b=false):PT X (.Compare a [op] [b] pos) (Qrd (tOp r ta tb)):=by
 intro pins s σ H Q I h;refine wpAny_isTrue_Compare1 (thn (ha pins s σ H _ I h) fun v s1 ⟨x,H1,j,Y,q1⟩=>thn (U pins s1 σ H1 _ j q1) fun u s2 ⟨y,H2,G,Z,q2⟩=>
  thn (ho pins s2 σ H2 x y v u _ G Y Z q2) fun c s3 ⟨z,J,B,q,k,e,q3⟩=>?_) O
 subst e;cases q;exact ar ⟨J,B,q3⟩
def Qek (r r':R2) (ta tb tc:TE):TE:=fun σ H Q=>ta σ H fun x H1=>tb σ H1 fun y H2=>r x y H2 fun z H3=>∃ k,z=.bl k /\
 (if k=true then tc σ H3 fun w' H4=>r' y w' H4 Q else Q (.bl false) H3)
theorem Qka {op j:CmpOp} {r O:R2} (ho:OpR X (aX op) r) (q:OpR X (aX j) O) (ha:PE X a ta) (hb:PE X b tb) (hc:PE X c tc)
  (hm:lastMarks [op,j] [b,c]=false:=by with_unfolding_all rfl):PE X (.Compare a [op,j] [b,c] pos) (Qek r O ta tb tc):=by
 intro pins s σ H Q I h;refine Compare_chain (thn (ha pins s σ H _ I h) fun v s1 ⟨x,H1,I1,r1,q1⟩=>chain_link (thn (hb pins s1 σ H1 _ I1 q1) fun u s2 ⟨y,H2,I2,G,q2⟩=>
  thn (ho pins s2 σ H2 x y v u _ I2 r1 G q2) fun d s3 ⟨z,B,J,r3,k,e,q3⟩=>?_)) hm
 subst e;cases r3;refine ar ?_;cases k with
 | false=>exact ite_ff ⟨.bl false,B,J,rfl,q3⟩
 | true=>exact ite_tt (chain_last (thn (hc pins s3 σ B _ J q3) fun w' Z ⟨z',Y,I4,r4,U⟩=>q pins Z σ Y y z' u w' Q I4 G r4 U))
theorem Qjv {op j:CmpOp} {r O:R2} (ho:OpR X (aX op) r) (q:OpR X (aX j) O) (ha:PE X a ta) (hb:PE X b tb) (hc:PE X c tc)
  (hm:lastMarks [op,j] [b,c]=false:=by with_unfolding_all rfl):PT X (.Compare a [op,j] [b,c] pos) (Qrd (Qek r O ta tb tc)):=by
 intro pins s σ H Q I h;refine isTrue_chain (thn (ha pins s σ H _ I h) fun v s1 ⟨x,H1,I1,r1,q1⟩=>test_link (thn (hb pins s1 σ H1 _ I1 q1) fun u s2 ⟨y,H2,I2,G,q2⟩=>
  thn (ho pins s2 σ H2 x y v u _ I2 r1 G q2) fun d s3 ⟨z,B,J,r3,k,e,q3⟩=>?_)) hm
 subst e;cases r3;refine ar ?_;cases k with
 | false=>
  obtain ⟨k',e',q'⟩:=q3;cases e';exact ite_ff ⟨B,J,q'⟩
 | true=>
  refine ite_tt (test_last (thn (hc pins s3 σ B _ J q3) fun w' s4 ⟨z',Y,I4,r4,U⟩=>thn (q pins s4 σ Y y z' u w' _ I4 G r4 U) fun d' s5 ⟨z2,H5,I5,r5,k2,e2,Z⟩=>?_))
  subst e2;cases r5;exact ar ⟨H5,I5,Z⟩
theorem Q52:(sizeLine:Nat) < 2 ^ 63:=by rw [sizeLine_eq]; decide
theorem Qez:OpR X (aY .Add) (fun x y H Q=>∃ i j,x=.str i/\y=.str j/\i.length + j.length<=sizeLine/\Q (.str (i ++ j)) H):=by
 intro pins s σ H x y v u Q I z B h;obtain ⟨i,j,rfl,rfl,hz,q⟩:=h;obtain ⟨t,rfl⟩:=z;obtain ⟨t',rfl⟩:=B;exact add_str (fun t' tk=>⟨.str (i ++ j),H,I.tok _,⟨_,rfl⟩,q⟩) hz
theorem Q2j {x:V} {us:List aB} (r:Vals [x] us):∃ u,us=[u]/\RelV x u:=by
 cases r with
 | cons q j=>cases j; exact ⟨_,rfl,q⟩
theorem Qj7 {x y:V} {us:List aB} (r:Vals [x,y] us):∃ u j,us=[u,j]/\RelV x u/\RelV y j:=by
 cases r with
 | cons B G=>
  cases G with
  | cons q z=>cases z; exact ⟨_,_,rfl,B,q⟩
theorem Qim (B:X.calm=true):qd X (.builtin "max") (fun xs H Q=>∃ i j,xs=[.int i,.int j]/\Q (.int (if j > i then j else i)) H):=by
 intro pins s σ H xs us Q I r h;obtain ⟨i,j,rfl,q⟩:=h;obtain ⟨u,G,rfl,⟨t,rfl⟩,⟨t',rfl⟩⟩:=Qj7 r;refine max_two_ints (I.ok.hd B) fun h' tk k=>⟨_,H,I.kept k,?_,q⟩
 by_cases z:j > i
 ·rw [bN z,bN z]; exact ⟨_,rfl⟩
 ·rw [bO z,bO z]; exact ⟨_,rfl⟩
theorem Qij (B:X.calm=true):qd X (.builtin "min") (fun xs H Q=>∃ i j,xs=[.int i,.int j]/\Q (.int (if j < i then j else i)) H):=by
 intro pins s σ H xs us Q I r h;obtain ⟨i,j,rfl,q⟩:=h;obtain ⟨u,G,rfl,⟨t,rfl⟩,⟨t',rfl⟩⟩:=Qj7 r;refine min_two_ints (I.ok.hd B) fun h' tk k=>⟨_,H,I.kept k,?_,q⟩
 by_cases z:j < i
 ·rw [bN z,bN z]; exact ⟨_,rfl⟩
 ·rw [bO z,bO z]; exact ⟨_,rfl⟩
end
structure ObjM (h:Heap) (x dx C:aA) (mA:Str->Option aB):Prop where
 obj:h.get? x=some (cI C dx)
 ns:h.Ns1 dx mA
 ne:dx≠x
theorem Qau {h:Heap} {dx:aA} {mA:Str->Option aB} (n:h.Ns1 dx mA):∃ B,h.get? dx=some B/\∀ name,dQ name B=some (mA name):=by
 obtain ⟨o,es,Y,O,hd,I,_,J⟩:=n;refine ⟨o,O,fun name=>?_⟩;have e:=J name;unfold nsFind findBy at e;rw [<- Array.find?_toList] at e;unfold dQ;rw [hd];dsimp only
 split
 ·rename_i y q;rw [q] at e;exact congrArg some e
 ·rename_i q;rw [q] at e;have a:es.toList.any (·.refKey)=false:=by
   rw [fj];intro y G;obtain ⟨z,t,j⟩:=I y (Array.mem_toList_iff.mp G);simp [DictEntry.refKey,j]
  have U:¬ es.toList.any (·.refKey)=true:=by rw [a]; exact E2
  rw [bO U];exact congrArg some e
theorem ObjM.look {h:Heap} {x dx C:aA} {mA:Str->Option aB} (I:ObjM h x dx C mA):∃ j,PySem.W.InstAt h x (cI C dx) C (some j)/\∀ name,dQ name j=some (mA name):=
 let ⟨j,z,q⟩:=Qau I.ns
 ⟨j,⟨I.obj,rfl,rfl,z⟩,q⟩
section
variable {prog:aO} {w:aM} {A:aR} {E:aB->aC->Prop} {s:aC} {K:bS} {x dx C f:aA} {mA:Str->Option aB} {name:Str} {v:aB}
theorem Qqu {j:Bool} {Q:aB->aC->Prop} (X:K.In s.heap) (I:ObjM s.heap x dx C mA) (z:dA K C name=true) (B:dR K C=true)
  (O:bW K (.ref C) name=some none) (G:mA name=some v) (q:fk v=true) (h:Q v { s with toks:=s.toks + 1 }) :
  aI (aJ prog w) A (getAttr (.ref x) name j) Q E s:=by
 obtain ⟨Y,J,U⟩:=I.look;exact PySem.W.get_value X J (eJ z).1 (PySem.W.findObj_own B O rfl (by rw [U,G])) q h
theorem Qm7 {pl:Sem Bool} {Q:aB × List aB->aC->Prop} (X:K.In s.heap) (I:ObjM s.heap x dx C mA) (j:dA K C name=true)
  (q:bW K (.ref C) name=some (some (.ref f))) (B:bo K (.ref f)=true) (z:mA name=none) (h:Q (.ref f,[.ref x]) s) :
  aI (aJ prog w) A (getMethod (.ref x) name pl) Q E s:=by
 obtain ⟨G,J,O⟩:=I.look;exact PySem.W.method_fn X J (eJ j).1 (eJ j).2 q (beq_iff_eq.mp B) (by show (dQ name G).map (·.isSome)=some false; rw [O,z]; rfl) h
theorem Qnv {ns:List Str} {Q:Unit->aC->Prop} (X:K.In s.heap) (I:ObjM s.heap x dx C mA)
  (hs:bW K (.ref C) "__setattr__" = some (some (.builtin "object.__setattr__"))) (hp:eK K C=true) (Y:eL K C name=some none) (U:dR K C=true)
  (hw:eE mA ns) (a2:ns.length<=sizeLine)
  (h:∀ h',ObjM h' x dx C (fun y=>if y=name then some v else mA y)->Heap.SameBut dx s.heap h'->Q () { s with heap:=h',toks:=s.toks + 2 }) :
  aI (aJ prog w) A (setAttr (.ref x) name v) Q E s:=by
 obtain ⟨od,J,hl⟩:=I.look;refine PySem.W.set_plain X J hs (PySem.W.osa_open (s:={ s with toks:=s.toks + 1 }) (r:=none) X J hp Y fun b=>?_)
 obtain ⟨cd,hc,G⟩:=PySem.W.any_some U;have hx:s.heap.get? x=some ⟨.ref C,some dx,.plain,#[]⟩:=I.obj;refine aF (aU (aF (aF (wpAny_loadPart hx (aF (PySem.W.Looks.here (s:={ s with toks:=s.toks + 1 }) (PySem.W.looks_clsIn X hc) ?_))))));rw [G];refine aU (a:=some dx) (aF (aU (aF ?_)));refine wpAny_nsSet1 (s:={ s with toks:=s.toks + 1 }) I.ns fun h' j q=>?_
 obtain ⟨oD,a3,Z,B,O,z⟩:=j.count (PySem.Within.cons name v hw);refine aF (wpAny_lookBehind B (by rw [O]; exact pastItsLine_dict (F3 z (by rw [E3]; omega))) ?_);exact aU (h _ ⟨(q.2 _ (Ne.symm I.ne)).trans I.obj,j,I.ne⟩ q)
theorem Qkq {R:Result->aC->Prop} {vs:List aB} {j:List (Str × aB)} (X:K.In s.heap) (z:eM K C=true)
  (hi:bW K (.ref C) "__init__" = some (some (.ref f))) (q:PySem.W.typeIn K (.ref f)=some (.type "function"))
  (h:codeAny (aJ prog w) (A.under (.builtin "type.__call__" ⟨.ref C :: vs,j⟩)) (.call (.ref f) ⟨.ref (s.heap.objs.size + 1) :: vs,j⟩) (PySem.W.InitBack (s.heap.objs.size + 1) R)
   { s with heap:=(s.heap.push bx).push (cI C s.heap.objs.size) }) :
  codeAny (aJ prog w) A (.call (.ref C) ⟨vs,j⟩) R s:=by
 obtain ⟨B,g,d,t,os⟩:=s;exact PySem.W.make_core (PySem.W.makes_of X z) (fm X hi) (fun self=>PySem.W.bind_fn X self q) (.inl rfl) h
end
def Q0b (f:Str) (v:V):List (Str × V)->List (Str × V)
 | []=>[(f,v)]
 | (g,x) :: r=>if g=f then (g,v) :: r else (g,x) :: Q0b f v r
theorem Q5f (f g:Str) (v:V):∀ fs:List (Str × V),(Q0b f v fs).lookup g=if g=f then some v else fs.lookup g
 | []=>by
  show cB g [(f,v)]=_
  by_cases h:g=f
  ·have j:(g == f)=true:=beq_iff_eq.mpr h;simp only [cB,j,bN h]
  ·have j:(g == f)=false:=beq_eq_false_iff_ne.mpr h;simp only [cB,j,bO h]
 | (k,x) :: r=>by
  have z:=Q5f f g v r;rw [show Q0b f v ((k,x) :: r)=(if k=f then (k,v) :: r else (k,x) :: Q0b f v r) from rfl]
  by_cases q:k=f
  ·rw [bN q]
   by_cases h:g=k
   ·have j:(g == k)=true:=beq_iff_eq.mpr h;simp only [cB,j,bN (h.trans q)]
   ·have j:(g == k)=false:=beq_eq_false_iff_ne.mpr h;simp only [cB,j,bO (fun e:g=f=>h (e.trans q.symm))]
  ·rw [bO q]
   by_cases h:g=k
   ·have j:(g == k)=true:=beq_iff_eq.mpr h;simp only [cB,j,bO (fun e:g=f=>q (h.symm.trans e))]
   ·have j:(g == k)=false:=beq_eq_false_iff_ne.mpr h;simp only [cB,j];exact z
theorem Q55 (f:Str) (v:V):∀ fs:List (Str × V),f∈(Q0b f v fs).map (·.1)/\∀ g,g∈fs.map (·.1)->g∈(Q0b f v fs).map (·.1)
 | []=>⟨by simp [Q0b],fun g h=>by simp at h⟩
 | (k,x) :: r=>by
  obtain ⟨z,q⟩:=Q55 f v r;rw [show Q0b f v ((k,x) :: r)=(if k=f then (k,v) :: r else (k,x) :: Q0b f v r) from rfl]
  by_cases j:k=f
  ·rw [bN j];subst j;exact ⟨by simp,fun g h=>by simpa using h⟩
  ·rw [bO j];refine ⟨?_,fun g h=>?_⟩
   ·rw [F5];exact D0 _ z
   ·rw [F5] at h ⊢;rcases D8.mp h with e | e
    ·exact D8.mpr (.inl e)
    ·exact D0 _ (q g e)
theorem Q5g (f:Str) (v:V):∀ fs:List (Str × V),(Q0b f v fs).length<=fs.length + 1
 | []=>by simp [Q0b]
 | (k,x) :: r=>by
  have q:=Q5g f v r;rw [show Q0b f v ((k,x) :: r)=(if k=f then (k,v) :: r else (k,x) :: Q0b f v r) from rfl]
  by_cases j:k=f
  ·rw [bN j,E3,E3]; omega
  ·rw [bO j,E3,E3]; omega
theorem RelO.some_of {v:V} {o:Option aB} (r:RelO (some v) o):∃ u,o=some u/\RelV v u:=by
 cases o with
 | none=>exact (show False from r).elim
 | some u=>exact ⟨u,rfl,r⟩
theorem RelO.none_of {o:Option aB} (r:RelO none o):o=none:=by
 cases o with
 | none=>rfl
 | some u=>exact (show False from r).elim
theorem Qic {v:V} {u:aB} (r:RelV v u):fk u=true:=by
 cases v with
 | non=>cases (show u=bf from r); rfl
 | bl b=>cases (show u=cH b from r); rfl
 | int i=>obtain ⟨t,e⟩:=(show ∃ t,u=ce i t from r); cases e; rfl
 | str x=>obtain ⟨t,e⟩:=(show ∃ t,u=cz x t from r); cases e; rfl
 | byt b=>obtain ⟨t,e⟩:=(show ∃ t,u=fW b t from r); cases e; rfl
 | flt b=>obtain ⟨t,e⟩:=(show ∃ t,u=eB b t from r); cases e; rfl
 | ref a=>cases (show u=bV a from r); rfl
 | ty n=>cases (show u=eC n from r); rfl
section
variable {P:aO} {w:aM} {H H':Hp} {h h':Heap} {a C dx:aA} {fs fs':List (Str × V)}
theorem Q6d (hok:HOk P w H h) (e:H a=some (.ins C dx fs)):∃ mA,ObjM h a dx C mA/\(∀ f,RelO (fs.lookup f) (mA f))/\eE mA (fs.map (·.1))/\fs.length<=1000/\H dx=some (.own a):=by
 obtain ⟨d,z,ne,ob,mA,n,r,q⟩:=(show ObjOk P w H h a (.ins C dx fs) from hok a _ e);exact ⟨mA,⟨ob,n,ne⟩,r,q,z,d⟩
end
structure Cls (K:bS) (C:aA):Prop where
 pg:dA K C fo=true
 hd:dR K C=true
 po:eK K C=true
 sa:bW K (.ref C) "__setattr__" = some (some (.builtin "object.__setattr__"))
theorem Cls.get {K:bS} {C:aA} (c:Cls K C) (f:Str):dA K C f=true:=c.pg
def NoAttr (K:bS) (C:aA) (f:Str):Prop:=bW K (.ref C) f=some none
theorem NoAttr.taker {K:bS} {C:aA} {f:Str} (n:NoAttr K C f):eL K C f=some none:=by
 unfold eL;rw [show bW K (.ref C) f=some none from n];rfl
structure Meth (K:bS) (C:aA) (m:Str) (f:aA):Prop where
 at_:bW K (.ref C) m=some (some (.ref f))
 fn:bo K (.ref f)=true
 kp:bZ K (.ref f)=true
section
variable {X:Cx} {pins:List (aA × Obj)} {σ:St} {H:Hp} {s:aC} {a C dx:aA} {fs:List (Str × V)} {f:Str} {v:V} {A:aR} {E:aB->aC->Prop}
theorem Qfe {b:Bool} {Q:aB->aC->Prop} (I:Inv X pins σ H s) (e:H a=some (.ins C dx fs)) (c:Cls X.K C) (n:NoAttr X.K C f) (l:fs.lookup f=some v)
  (h:∀ u s',Inv X pins σ H s'->RelV v u->Q u s'):aI (aJ X.prog X.w) A (getAttr (.ref a) f b) Q E s:=by
 obtain ⟨mA,O,r,_,_,_⟩:=Q6d I.hok e;obtain ⟨u,q,j⟩:=RelO.some_of (v:=v) (o:=mA f) (by rw [<- l]; exact r f);exact Qqu I.kIn O (c.get f) c.hd n q (Qic j) (h u _ (I.tok _) j)
theorem Q8h {m:Str} {g:aA} {pl:Sem Bool} {Q:aB × List aB->aC->Prop} (I:Inv X pins σ H s) (e:H a=some (.ins C dx fs)) (c:Cls X.K C) (k:Meth X.K C m g) (l:fs.lookup m=none)
  (h:Q (.ref g,[.ref a]) s):aI (aJ X.prog X.w) A (getMethod (.ref a) m pl) Q E s:=by
 obtain ⟨mA,O,r,_,_,_⟩:=Q6d I.hok e;have j:mA m=none:=RelO.none_of (by rw [<- l]; exact r m);exact Qm7 I.kIn O (c.get m) k.at_ k.fn j h
theorem Qer {y:V} {u:aB} {Q:Unit->aC->Prop} (I:Inv X pins σ H s) (e:H a=some (.ins C dx fs)) (c:Cls X.K C) (n:NoAttr X.K C f) (hl:fs.length < 1000) (ry:RelV y u)
  (h:∀ s',Inv X pins σ (upd H a (.ins C dx (Q0b f y fs))) s'->Q () s'):aI (aJ X.prog X.w) A (setAttr (.ref a) f u) Q E s:=by
 obtain ⟨mA,O,r,B,_,G⟩:=Q6d I.hok e;have hz:(fs.map (·.1)).length<=sizeLine:=by rw [O2,sizeLine_eq]; omega
 refine Qnv I.kIn O c.sa c.po n.taker c.hd B hz fun h' j U=>h _ ?_
 have hd:∃ o,h'.get? dx=some o:=let ⟨o,_,_,Z,_⟩:=j.ns; ⟨o,Z⟩;refine I.write (x:=a) (e:=dx) (by rw [e]; exact True.intro) (.inr G) (fun b q Y z=>(U.2 b Y).trans z) hd ?_
 refine ⟨by rw [Qi O.ne]; exact G,?_,O.ne,j.obj,_,j.ns,fun g=>?_,fun g J=>?_⟩
 ·have:=Q5g f y fs; omega
 ·show RelO ((Q0b f y fs).lookup g) (if g=f then some u else mA g);rw [Q5f]
  by_cases q:g=f
  ·rw [bN q,bN q]; exact ry
  ·rw [bO q,bO q]; exact r g
 ·by_cases q:g=f
  ·rw [q]; exact (Q55 f y fs).1
  ·refine (Q55 f y fs).2 g (B g fun z=>J ?_);show (if g=f then some u else mA g)=none;rw [bO q]; exact z
theorem Inv.made (I:Inv X pins σ H s):Inv X pins σ (upd (upd H s.heap.objs.size (.own (s.heap.objs.size + 1))) (s.heap.objs.size + 1) (.ins C s.heap.objs.size []))
  { s with heap:=(s.heap.push bx).push (cI C s.heap.objs.size) }:=by
 have e1:(s.heap.push bx).get? s.heap.objs.size=some bx:=D9 s.heap rfl;have e2:((s.heap.push bx).push (cI C s.heap.objs.size)).get? (s.heap.objs.size + 1)=some (cI C s.heap.objs.size):=by
  have:=D9 (s.heap.push bx) (o:=cI C s.heap.objs.size) rfl
  rwa [F9] at this
 have e3:(s.heap.push bx).Ns s.heap.objs.size (fun _=>none):=⟨bx,#[],_,e1,rfl,(fun e B=>absurd B (by simp)),fun _=>rfl⟩;have j:=I.laid (a:=s.heap.objs.size) (o:=.own (s.heap.objs.size + 1)) (h':=s.heap.push bx) (t':=s.toks) (fun b u q=>O1 _ q) (O8 _) ⟨_,e1⟩;refine j.laid (a:=s.heap.objs.size + 1) (o:=.ins C s.heap.objs.size []) (t':=s.toks) (fun b u q=>O1 _ q) (eN (F9 _ _)) ?_;have ne:s.heap.objs.size≠s.heap.objs.size + 1:=F2 (cg _);refine ⟨by rw [Qi ne,Je],dB _,ne,e2,fun _=>none,(Heap.Ns1.of_empty e3).at fun o q=>O1 _ q,fun _=>True.intro,fun y z=>absurd rfl z⟩
theorem Qgx {prog:aO} {w:aM} {env:Env} {e:aD} {f:Str} {pos:Pos} {s:aC} {Q:aB->aC->Prop} (q:am e f env (aN e env)=aN e env)
  (h:aI (aJ prog w) A (aN e env) (fun o j=>aI (aJ prog w) A (getAttr o f true) Q E j) E s):aI (aJ prog w) A (aN (.Attribute e f pos) env) Q E s:=
 Attribute_any_ h (by rw [arm_eval_Attribute,q])
end
def Qyr (K:bS) (ta:TE) (f:Str):TE:=fun σ H Q=>ta σ H fun x H1=>∃ a C dx fs v,x=.ref a/\H1 a=some (.ins C dx fs)/\Cls K C/\NoAttr K C f/\fs.lookup f=some v/\Q v H1
def Qyt (K:bS) (ta tv:TE) (f:Str):TS:=fun D σ H=>tv σ H fun y H1=>ta σ H1 fun x H2=>∃ a C dx fs,x=.ref a/\H2 a=some (.ins C dx fs)/\Cls K C/\NoAttr K C f/\fs.length < 1000 /\
 D.nx σ (upd H2 a (.ins C dx (Q0b f y fs)))
section
variable {X:Cx} {o e value:aD} {f:Str} {pos pos' tpos:Pos} {ta tv:TE}
theorem Qt4 (U:PE X e ta) (J:am e f X.env (aN e X.env)=aN e X.env):PE X (.Attribute e f pos) (Qyr X.K ta f):=by
 intro pins s σ H Q I h;refine Qgx J (thn (U pins s σ H _ I h) fun u s1 ⟨x,H1,z,B,a,C,dx,fs,v,ex,O,c,n,l,q⟩=>?_)
 subst ex;obtain rfl:u=bV a:=B;exact Qfe z O c n l fun Y s2 G j=>⟨v,H1,G,j,q⟩
theorem Qst (Y:PE X o ta) (U:PE X value tv) (hs:swapsWith value (some (.Attribute o f pos')) pos.line X.env=pure false):PS X (.Assign [.Attribute o f pos'] value pos) (Qyt X.K ta tv f):=by
 intro pins s σ H D I h;refine plainObj_wpAny_Assign_Attribute (thn (U pins s σ H _ I h) fun u s1 ⟨y,H1,z,Z,q⟩=>thn (Y pins s1 σ H1 _ z q) fun j s2 ⟨x,H2,J,B,a,C,dx,fs,ex,O,c,n,l,q2⟩=>?_) hs
 subst ex;obtain rfl:j=bV a:=B;exact Qer J O c n l Z fun s3 G=>⟨σ,_,G,q2⟩
end
section
variable {X:Cx} {pins:List (aA × Obj)} {σ:St} {H:Hp} {s:aC} {A:aR} {E:aB->aC->Prop} {Q:aB->aC->Prop} {c:aB} {b:Bool}
inductive TyOf (K:bS) (H:Hp):V->aB->Prop where
 | non:TyOf K H .non (.type "NoneType")
 | bl (x:Bool):TyOf K H (.bl x) (.type "bool")
 | int (i:Int):TyOf K H (.int i) (.type "int")
 | str (x:Str):TyOf K H (.str x) (.type "str")
 | flt (x:UInt64):TyOf K H (.flt x) (.type "float")
 | lst {a:aA} {xs:List V} (e:H a=some (.lst xs)):TyOf K H (.ref a) (.type "list")
 | frz {a:aA} {o:Obj} {xs:List V} (e:H a=some (.frz o (.lst xs))):TyOf K H (.ref a) (.type "list")
 | tup {a:aA} {xs:List V} (e:H a=some (.tup xs)):TyOf K H (.ref a) (.type "tuple")
 | dK {a:aA} {kvs:List (Key × V)} (e:H a=some (.dK kvs)):TyOf K H (.ref a) (.type "dict")
 | dT {a:aA} {kvs:List (List Key × V)} (e:H a=some (.dT kvs)):TyOf K H (.ref a) (.type "dict")
 | ins {a C dx:aA} {fs:List (Str × V)} (e:H a=some (.ins C dx fs)) (cl:Cls K C) (ha:bW K (.ref C) "__class__" = some (some (.builtin "object.__class__")))
   (hn:eO K (.builtin "object.__class__") "__get__" = some (some (.builtin "getset_descriptor.__get__"))) (htk:fq K (.builtin "object.__class__")=some true)
   (hm:eP K C (.type "object")=some true):TyOf K H (.ref a) (.ref C)
theorem Qi7 {x:V} {u t:aB} (I:Inv X pins σ H s) (j:RelV x u) (ty:TyOf X.K H x t) (e:eQ X.K t c=some b) (h:∀ tk,Q (.bool b) { s with toks:=tk }) :
  aI (aJ X.prog X.w) A (call (.builtin "isinstance") [u,c]) Q E s:=by
 cases ty with
 | non=>cases (show u=bf from j); exact bu PySem.W.kitx_none I.kIn True.intro e (fun z=>nomatch z) h
 | bl y=>cases (show u=cH y from j); exact bu PySem.W.kitx_bool I.kIn True.intro e (fun z=>nomatch z) h
 | int i=>obtain ⟨t,q⟩:=(show ∃ t,u=ce i t from j); cases q; exact bu PySem.W.kitx_int I.kIn True.intro e (fun z=>nomatch z) h
 | str y=>obtain ⟨t,q⟩:=(show ∃ t,u=cz y t from j); cases q; exact bu PySem.W.kitx_str I.kIn True.intro e (fun z=>nomatch z) h
 | flt y=>obtain ⟨t,q⟩:=(show ∃ t,u=eB y t from j); cases q; exact bu PySem.W.kitx_float I.kIn True.intro e (fun z=>nomatch z) h
 | @lst a xs B=>
  cases (show u=bV a from j);obtain ⟨_,_,n,_,h1⟩:=(show ObjOk X.prog X.w H s.heap a (.lst xs) from I.hok a _ B);exact bu ft I.kIn ⟨_,h1,rfl⟩ e (fun z=>nomatch z) h
 | @frz a ob xs B=>
  cases (show u=bV a from j);obtain ⟨_,_,_,n,_,h1⟩:=(show ObjOk X.prog X.w H s.heap a (.frz ob (.lst xs)) from I.hok a _ B);exact bu ft I.kIn ⟨_,h1,rfl⟩ e (fun z=>nomatch z) h
 | @tup a xs B=>
  cases (show u=bV a from j);obtain ⟨_,_,_,p⟩:=(show ObjOk X.prog X.w H s.heap a (.tup xs) from I.hok a _ B);obtain ⟨o,h1,h2,_⟩:=p;exact bu PySem.W.kitx_tuple I.kIn ⟨o,h1,h2⟩ e (fun z=>nomatch z) h
 | @dK a kvs B=>
  cases (show u=bV a from j);obtain ⟨_,_,vs,_,p⟩:=(show ObjOk X.prog X.w H s.heap a (.dK kvs) from I.hok a _ B);obtain ⟨o,es,Y,h1,h2,_⟩:=p;exact bu fu I.kIn ⟨o,h1,h2.1⟩ e (fun z=>nomatch z) h
 | @dT a kvs B=>
  cases (show u=bV a from j);obtain ⟨_,_,xs,_,o,es,Y,h1,h2,_⟩:=(show ObjOk X.prog X.w H s.heap a (.dT kvs) from I.hok a _ B);exact bu fu I.kIn ⟨o,h1,h2.1⟩ e (fun z=>nomatch z) h
 | @ins a C dx fs B cl ha Z G U=>
  cases (show u=bV a from j);obtain ⟨mA,O,_⟩:=Q6d I.hok B;obtain ⟨od,J,_⟩:=O.look;exact bu (PySem.W.kitx_own (cl.get _) cl.hd ha Z G U) I.kIn J e (fun z=>nomatch z) h
end
structure Room (k:Nat) (A:aR):Prop where
 hd:A.handled=none
 dp:A.depth + 3 * k + 5 < recursionLimit
 un:A.units + 16 * k + 200 < ae
theorem Room.mono {j k:Nat} {A:aR} (r:Room k A) (h:j<=k):Room j A:=⟨r.hd,by have:=r.dp; omega,by have:=r.un; omega⟩
theorem Room.deeper {k:Nat} {A:aR} (r:Room (k + 1) A) (env:Env):Room k (A.deeper env):=
 ⟨r.hd,by have:=r.dp; show A.depth + 1 + 3 * k + 5 < _; omega,by have:=r.un; show A.units + 3 + 16 * k + 200 < _; omega⟩
theorem Qf9 {A:aR} {C:aA} {us:List aB} {j:List (Str × aB)}:(A.under (.builtin "type.__call__" ⟨.ref C :: us,j⟩)).depth=A.depth + 1:=by
 first | rfl | simp [Around.under,Code.weight,Code.isCreation,Code.isGuard,Code.isCaller,Code.frames,Code.isFrame,guardIds]
theorem Qf8 {A:aR} {C:aA} {us:List aB} {j:List (Str × aB)}:(A.under (.builtin "type.__call__" ⟨.ref C :: us,j⟩)).units=A.units + 1:=by
 first | rfl | simp [Around.under,Code.cUnits,Code.frames,Code.isFrame]
theorem Room.make {k:Nat} {A:aR} (r:Room (k + 1) A) (C:aA) (us:List aB) (j:List (Str × aB)):Room k (A.under (.builtin "type.__call__" ⟨.ref C :: us,j⟩)):=
 ⟨r.hd,by have:=r.dp; rw [Qf9]; omega,by have:=r.un; rw [Qf8]; omega⟩
theorem Room.depth {k:Nat} {A:aR} (r:Room k A):A.depth < recursionLimit:=by have:=r.dp; omega
theorem Room.units {k:Nat} {A:aR} (r:Room k A):A.units + 64 < ae:=by have:=r.un; omega
def Qv8:TA:=fun _ H Q=>Q [] H
def Qvd (ta:TE) (tr:TA):TA:=fun σ H Q=>ta σ H fun x H1=>tr σ H1 fun xs H2=>Q (x :: xs) H2
section
variable {X:Cx} {e:aD} {es:List aD} {te:TE} {t:TA} {pos:Pos}
theorem Q4p:PA X [] Qv8:=fun _ _ _ _ H Q I h=>Calls.spliced_nil ⟨[],H,I,.nil,h⟩
theorem zw (J:PE X e te) (j:PA X es t) (hs:aP (e :: es) X.env=(false,aN e X.env) :: aP es X.env:=by rfl):PA X (e :: es) (Qvd te t):=by
 intro pos pins s σ H Q I h;rw [hs];show aI _ _ (spliced ((false,aN e X.env) :: aW pos (aP es X.env))) _ _ s;refine Calls.spliced_cons (thn (J pins s σ H _ I h) fun u s1 ⟨x,H1,q,B,q1⟩=>?_)
 exact thn (j pos pins s1 σ H1 _ q q1) fun us s2 ⟨xs,H2,z,G,q2⟩=>⟨x :: xs,H2,z,.cons B G,q2⟩
def Qyi (t:TA):TE:=fun σ H Q=>t σ H fun xs H1=>xs.length<=sizeLine/\∀ p,H1 p=none->Q (.ref p) (upd H1 p (.tup xs))
def Qyn (t:TA):TE:=fun σ H Q=>t σ H fun xs H1=>xs.length<=sizeLine/\∀ p,H1 p=none->Q (.ref p) (upd H1 p (.lst xs))
theorem Qt0 {x1} (h:PA X es t):PE X (.Tuple es x1 pos) (Qyi t):=by
 intro pins s σ H Q I G;refine wpAny_Tuple_spliced (thn (h pos pins s σ H _ I G) fun us s1 ⟨xs,H1,j,r,z,q⟩=>⟨by rw [<- r.length]; exact z,?_⟩)
 have B:H1 s1.heap.objs.size=none:=j.hok.fresh (O8 _);refine ⟨.ref s1.heap.objs.size,upd H1 s1.heap.objs.size (.tup xs),j.laid (t':=s1.toks) (fun b u e=>O1 _ e) (O8 _) ?_,rfl,q _ B⟩;exact ⟨z,us,r,⟨_,D9 _ rfl,rfl,_,rfl⟩⟩
theorem Qk8 (h:PA X es t):PE X (.List es pos) (Qyn t):=by
 intro pins s σ H Q I G;refine wpAny_List_spliced (thn (h pos pins s σ H _ I G) fun us s1 ⟨xs,H1,j,r,z,q⟩=>⟨by rw [<- r.length]; exact z,?_⟩)
 have B:H1 s1.heap.objs.size=none:=j.hok.fresh (O8 _);refine ⟨.ref s1.heap.objs.size,upd H1 s1.heap.objs.size (.lst xs),j.laid (t':=s1.toks) (fun b u e=>O1 _ e) (O8 _) ?_,rfl,q _ B⟩;exact ⟨z,us,0,r,D9 _ rfl⟩
end
abbrev Sp:=List V->Hp->VK->XK->Prop
abbrev CXT:=List Env->Hp->aC->XK->aB->aC->Prop
structure Env0 (P:aO) (w:aM) (K:bS) (mg:Str->Option aB) (base:Heap) (A:aR) (outer:List Env) (s:aC) (H:Hp):Prop where
 frames:A.frames=some outer
 mod:Mod K mg base
 bs:∀ b o,base.get? b=some o->s.heap.get? b=some o/\H b=none
 bsz:base.objs.size<=s.heap.objs.size
 funs:s.heap.FunFrames base outer
 frf:∀ b∈frs outer,H b=none
 hok:HOk P w H s.heap
 bare:AllBare s.gens
def CE (outer:List Env) (P:aO) (w:aM) (H:Hp) (s:aC) (Q:VK) (u:aB) (s':aC):Prop:=
 ∃ v H',s'.os=s.os/\AllBare s'.gens/\Un (frs outer) [] H H' s.heap s'.heap/\HOk P w H' s'.heap/\RelV v u/\Q v H'
def CR (CX:CXT) (outer:List Env) (P:aO) (w:aM) (H:Hp) (s:aC) (Q:VK) (E:XK) (r:Result) (s':aC):Prop:=
 match r with
 | .ok (.ret u)=>CE outer P w H s Q u s'
 | .ok _=>False
 | .error e=>CX outer H s E e s'
structure FnOk (P:aO) (w:aM) (K:bS) (mg:Str->Option aB) (base:Heap) (CX:CXT) (k:Nat) (f:aA) (fd:aQ) (ps:List Str) (sp:Sp):Prop where
 len:∀ vs H Q E,sp vs H Q E->vs.length=ps.length
 run:∀ (A:aR) (outer:List Env) (s:aC) (H:Hp) (args:Args) (us:List aB) (vs:List V) (Q:VK) (E:XK),Room k A->Env0 P w K mg base A outer s H->BindsTo s fd args (ps.zip us)->Vals vs us->sp vs H Q E ->
  codeAny (aJ P w) A (.call (.ref f) args) (CR CX outer P w H s Q E) s
theorem FnOk.imp {P:aO} {w:aM} {K:bS} {mg:Str->Option aB} {base:Heap} {CX:CXT} {k:Nat} {f:aA} {fd:aQ} {ps:List Str} {sp j:Sp} (F:FnOk P w K mg base CX k f fd ps sp)
  (h:∀ vs H Q E,j vs H Q E->sp vs H Q E):FnOk P w K mg base CX k f fd ps j:=
 ⟨fun vs H Q E q=>F.len vs H Q E (h _ _ _ _ q),fun A outer s H args us vs Q E z I B G hs=>F.run A outer s H args us vs Q E z I B G (h _ _ _ _ hs)⟩
theorem Env0.make {P:aO} {w:aM} {K:bS} {mg:Str->Option aB} {base:Heap} {A:aR} {outer:List Env} {s:aC} {H:Hp} (e:Env0 P w K mg base A outer s H) (C:aA) (us:List aB) (j:List (Str × aB)) :
  Env0 P w K mg base (A.under (.builtin "type.__call__" ⟨.ref C :: us,j⟩)) outer s H:=⟨by first | exact e.frames | (simpa [Around.under,Code.envs,Code.isFrame,pushEnvs] using e.frames),e.mod,e.bs,e.bsz,e.funs,e.frf,e.hok,e.bare⟩
section
variable {X:Cx} {pins:List (aA × Obj)} {σ:St} {H:Hp} {s s':aC}
theorem Inv.env0 (I:Inv X pins σ H s):Env0 X.prog X.w X.K X.mg X.base X.A X.stack s H:=
 ⟨I.ok.frames,I.ok.mod,I.bs,F3 I.ok.bsz I.sz,I.stack,I.stkFree,I.hok,I.bare⟩
theorem Inv.after {Q:VK} {u:aB} (I:Inv X pins σ H s) (h:CE X.stack X.prog X.w H s Q u s'):EP X pins σ Q u s':=by
 obtain ⟨v,H',os,bare,un,hok,r,q⟩:=h;obtain ⟨B,g,d,t,j⟩:=s';obtain rfl:j=s.os:=os;exact ⟨v,H',I.call (h':=B) (g':=g) (d':=d) (t':=t) (ch:=[]) un hok bare (fun b z=>absurd z (by simp)),r,q⟩
end
def Qve (sp:Sp) (dvs:List V) (E:XK) (t:TA):TE:=fun σ H Q=>t σ H fun vs H1=>sp (vs ++ dvs) H1 Q E
def Qrf (C:aA) (m:Str) (sp:Sp) (dvs:List V) (E:XK) (ta:TE) (t:TA):TE:=fun σ H Q=>ta σ H fun x H1=>∃ a dx fs,x=.ref a/\H1 a=some (.ins C dx fs)/\fs.lookup m=none /\
 t σ H1 fun vs H2=>sp (x :: (vs ++ dvs)) H2 Q E
def Qv9 (C:aA) (sp:Sp) (dvs:List V) (E:XK) (t:TA):TE:=fun σ H Q=>t σ H fun vs H1=>∀ x dx,H1 x=none->H1 dx=none->dx≠x ->
 sp (.ref x :: (vs ++ dvs)) (upd (upd H1 dx (.own x)) x (.ins C dx [])) (fun v H2=>v=.non/\Q (.ref x) H2) E
def Binds (K:bS) (fd:aQ) (ps:List Str) (ds:List aB):Prop:=
 ∀ (s:aC) (us:List aB),K.In s.heap->(us ++ ds).length=ps.length->BindsTo s fd ⟨us,[]⟩ (ps.zip (us ++ ds))
theorem Binds.all {K:bS} {fd:aQ} {ps:List Str} (h:∀ us:List aB,us.length=ps.length->bindArgs fd ⟨us,[]⟩=pure (ps.zip us)):Binds K fd ps []:=fun s us _ j=>by
 rw [bv] at j ⊢;exact .of_eq (h us j)
def qw (CX:CXT) (X:Cx) (E:XK):Prop:=∀ (pins:List (aA × Obj)) (σ:St) (H:Hp) (s:aC) (e:aB) (s':aC),Inv X pins σ H s->CX X.stack H s E e s'->X.xe e s'
section
variable {X:Cx} {CX:CXT} {k:Nat} {f C:aA} {fd:aQ} {ps:List Str} {sp:Sp} {dvs:List V} {ds:List aB} {E:XK} {x m:Str} {p pos apos:Pos} {e o:aD} {es:List aD} {ta:TE} {t:TA}
theorem Qeu {pins:List (aA × Obj)} {σ:St} {H:Hp} {s:aC} {Q:VK} {us:List aB} {vs:List V} (F:FnOk X.prog X.w X.K X.mg X.base CX k f fd ps sp) (z:Room k X.A) (B:Binds X.K fd ps ds) (hd:Vals dvs ds) (G:qw CX X E)
  (I:Inv X pins σ H s) (r:Vals vs us) (h:sp (vs ++ dvs) H Q E):aI (aJ X.prog X.w) X.A (call (.ref f) us) (EP X pins σ Q) X.xe s:=by
 have q:Vals (vs ++ dvs) (us ++ ds):=r.append hd;have J:(us ++ ds).length=ps.length:=by rw [<- q.length]; exact F.len _ _ _ _ h
 refine wpAny_call (bG (F.run X.A X.stack s H ⟨us,[]⟩ (us ++ ds) (vs ++ dvs) Q E z I.env0 (B s us I.kIn J) q h) fun r s' j=>?_)
 cases r with
 | error e=>exact G pins σ H s e s' I j
 | ok fl=>
  cases fl with
  | ret u=>exact I.after j
  | next=>exact False.elim j
  | brk=>exact False.elim j
  | cont=>exact False.elim j
theorem Qpq (F:FnOk X.prog X.w X.K X.mg X.base CX k f fd ps sp) (J:Room k X.A) (G:Gl X x) (U:X.mg x=some (.ref f)) (O:bZ X.K (.ref f)=true) (Y:Binds X.K fd ps ds) (hd:Vals dvs ds) (hx:qw CX X E)
  (ha:PA X (e :: es) t) (j:(x == ("__debug__" : Str))=false:=by decide) (Z:aP (e :: es) X.env=(false,aN e X.env) :: aP es X.env:=by rfl) (z:(aW pos (aP es X.env)).any (·.1)=false:=by rfl) :
  PE X (.Call (.Name x p) (e :: es) [] pos) (Qve sp dvs E t):=by
 intro pins s σ H Q I h;refine wpAny_Call_Name_kw (jg I G U ?_ j);refine dC (h₀:=X.base) I.ok.mod.kin O (thn (ha pos pins s σ H _ I h) fun us s1 ⟨vs,H1,B,r,q⟩=>⟨B.kIn,?_⟩) Z z
 exact Qeu F J Y hd hx B r q
theorem Qpk {pl:Sem Bool} (he:PE X o ta) (c:Cls X.K C) (J:Meth X.K C m f) (F:FnOk X.prog X.w X.K X.mg X.base CX k f fd ps sp) (O:Room k X.A) (Y:Binds X.K fd ps ds) (hd:Vals dvs ds) (hx:qw CX X E) (ha:PA X (e :: es) t)
  (j:aP (e :: es) X.env=(false,aN e X.env) :: aP es X.env:=by rfl) (z:(aW pos (aP es X.env)).any (·.1)=false:=by rfl)
  (ht:aN (.Call (.Attribute o m apos) (e :: es) [] pos) X.env=(do
   let ov <- aN o X.env
   standAt apos.atName
   let (f,first) <- ak [ov] (getMethod ov m pl)
   callWith pos f first (aW pos (aP (e :: es) X.env)) (backToKw pos (keywordEach [] X.env))):=by rfl) :
  PE X (.Call (.Attribute o m apos) (e :: es) [] pos) (Qrf C m sp dvs E ta t):=by
 intro pins s σ H Q I h;refine fw (pl:=pl) (thn (he pins s σ H _ I h) fun u s1 ⟨x,H1,B,U,a,dx,fs,ex,Z,l,q⟩=>?_) ht
 subst ex;obtain rfl:u=bV a:=U;refine Q8h B Z c J l ?_;refine dC (first:=[.ref a]) (h₀:=X.base) I.ok.mod.kin J.kp (thn (ha pos pins s1 σ H1 _ B q) fun us s2 ⟨vs,H2,G,r,q2⟩=>⟨G.kIn,?_⟩) j z
 exact Qeu (us:=.ref a :: us) (vs:=.ref a :: vs) F O Y hd hx G (.cons rfl r) q2
theorem Qk7 {pl:Sem Bool} (Y:PE X o ta) (c:Cls X.K C) (z:Meth X.K C m f) (F:FnOk X.prog X.w X.K X.mg X.base CX k f fd ps sp) (B:Room k X.A) (J:Binds X.K fd ps ds) (hd:Vals dvs ds) (Z:qw CX X E)
  (U:aN (.Call (.Attribute o m apos) [] [] pos) X.env=(do
   let ov <- aN o X.env
   standAt apos.atName
   let (f,first) <- ak [ov] (getMethod ov m pl)
   callWith pos f first (aW pos (aP [] X.env)) (backToKw pos (keywordEach [] X.env))):=by rfl) :
  PE X (.Call (.Attribute o m apos) [] [] pos) (Qrf C m sp dvs E ta Qv8):=by
 intro pins s σ H Q I h;refine fw (pl:=pl) (thn (Y pins s σ H _ I h) fun u s1 ⟨x,H1,j,G,a,dx,fs,ex,O,l,q⟩=>?_) U
 subst ex;obtain rfl:u=bV a:=G;refine Q8h j O c z l ?_;exact PySem.W.callWith_K0 (first:=[.ref a]) j.kIn z.kp (Qeu (us:=[.ref a]) (vs:=[.ref a]) F B J hd Z j (.cons rfl .nil) q)
structure Mk (K:bS) (C f:aA):Prop where
 makes:eM K C=true
 init:bW K (.ref C) "__init__" = some (some (.ref f))
 fn:bo K (.ref f)=true
 kp:bZ K (.ref C)=true
theorem Qjp {pins:List (aA × Obj)} {σ:St} {H:Hp} {s:aC} {Q:VK} {us:List aB} {vs:List V} (M:Mk X.K C f) (F:FnOk X.prog X.w X.K X.mg X.base CX k f fd ps sp) (G:Room (k + 1) X.A) (O:Binds X.K fd ps ds) (hd:Vals dvs ds)
  (Z:qw CX X E) (I:Inv X pins σ H s) (r:Vals vs us)
  (h:∀ x dx,H x=none->H dx=none->dx≠x->sp (.ref x :: (vs ++ dvs)) (upd (upd H dx (.own x)) x (.ins C dx [])) (fun v H2=>v=.non/\Q (.ref x) H2) E) :
  aI (aJ X.prog X.w) X.A (call (.ref C) us) (EP X pins σ Q) X.xe s:=by
 have z:=h (s.heap.objs.size + 1) s.heap.objs.size (I.hok.fresh (cL _)) (I.hok.fresh (O8 _)) (F2 (cg _));have q:=Inv.made (C:=C) I;have B:Vals (V.ref (s.heap.objs.size + 1) :: (vs ++ dvs)) (bV (s.heap.objs.size + 1) :: (us ++ ds)):=.cons rfl (r.append hd);have hl:(bV (s.heap.objs.size + 1) :: us ++ ds).length=ps.length:=by
  have e:=B.length;rw [F.len _ _ _ _ z] at e;exact e.symm
 refine wpAny_call (Qkq (f:=f) I.kIn M.makes M.init (beq_iff_eq.mp M.fn) (bG (F.run _ X.stack _ _ ⟨bV (s.heap.objs.size + 1) :: us,[]⟩ (bV (s.heap.objs.size + 1) :: (us ++ ds)) _ _ E (G.make C us [])
  (q.env0.make C us []) (O _ (bV (s.heap.objs.size + 1) :: us) q.kIn hl) B z) fun r s' j=>?_))
 cases r with
 | error e=>exact Z pins σ _ _ e s' q j
 | ok fl=>
  cases fl with
  | ret u=>
   obtain ⟨v,H',J,U,Y,q3⟩:=q.after j;subst Y;exact ⟨U,⟨V.ref (s.heap.objs.size + 1),H',J,rfl,q3⟩⟩
  | next=>exact False.elim j
  | brk=>exact False.elim j
  | cont=>exact False.elim j
theorem Qpm (M:Mk X.K C f) (F:FnOk X.prog X.w X.K X.mg X.base CX k f fd ps sp) (J:Room (k + 1) X.A) (G:Gl X x) (O:X.mg x=some (.ref C)) (U:Binds X.K fd ps ds) (hd:Vals dvs ds) (hx:qw CX X E)
  (Z:PA X (e :: es) t) (j:(x == ("__debug__" : Str))=false:=by decide) (Y:aP (e :: es) X.env=(false,aN e X.env) :: aP es X.env:=by rfl) (z:(aW pos (aP es X.env)).any (·.1)=false:=by rfl) :
  PE X (.Call (.Name x p) (e :: es) [] pos) (Qv9 C sp dvs E t):=by
 intro pins s σ H Q I h;refine wpAny_Call_Name_kw (jg I G O ?_ j);refine dC (h₀:=X.base) I.ok.mod.kin M.kp (thn (Z pos pins s σ H _ I h) fun us s1 ⟨vs,H1,B,r,q⟩=>⟨B.kIn,?_⟩) Y z
 exact Qjp M F J U hd hx B r q
end
def PK (X:Cx) (kws:List Keyword) (t:TA):Prop:=
 ∀ (pos:Pos) (pins:List (aA × Obj)) (s:aC) (σ:St) (H:Hp) (Q:List V->Hp->Prop),Inv X pins σ H s->t σ H Q->aI (aJ X.prog X.w) X.A (evalAll ((backToKw pos (keywordEach kws X.env)).map (·.2))) (AP X pins σ Q) X.xe s
section
variable {X:Cx} {CX:CXT} {k:Nat} {f C:aA} {fd:aQ} {ps ks:List Str} {sp:Sp} {E:XK} {x m:Str} {p pos apos kpos:Pos} {e o:aD} {es:List aD} {kws:List Keyword} {te ta:TE} {t tk:TA} {nm:Option Str}
variable {g:List aB->List aB->List aB} {gV:List V->List V->List V}
end
structure FnScope (N P:List Str) (sc:Scope):Prop where
 kind:sc.kind=.function
 co:sc.isCoroutine=false
 gen:sc.isGenerator=false
 nd:N.Nodup
 pre:N.take P.length=P
 par:∀ x∈P,sc.names.lookup x=some .local\/sc.names.lookup x=some .cell
 nofree:∀ y∈sc.names,y.2≠.free
theorem Qb7 {kindOf:Str->Option ao} {x:Str}:∀ {binds:List (Str × aB)} {m:Str->Option aB},(∀ v,(x,v)∉binds)->bindL kindOf binds m x=m x
 | [],_,_=>rfl
 | (n,v) :: r,m,h=>by
  unfold bindL;rw [Qb7 fun w j=>h w (D0 _ j)]
  split
  ·have:x≠n:=by rintro rfl; exact h v D3
   simp [this]
  ·rfl
theorem Qb9 {kindOf:Str->Option ao} {x:Str}:∀ {binds:List (Str × aB)} {m:Str->Option aB},(∀ v,(x,v)∉binds)->bindC kindOf binds m x=m x
 | [],_,_=>rfl
 | (n,v) :: r,m,h=>by
  unfold bindC;rw [Qb9 fun w j=>h w (D0 _ j)]
  split
  ·rfl
  ·have:x≠n:=by rintro rfl; exact h v D3
   simp [this]
theorem Qb8 {kindOf:Str->Option ao} {x:Str} {v:aB}:∀ {P:List Str} {vs:List aB} {i:Nat} {m:Str->Option aB},P.Nodup->P[i]?=some x->vs[i]?=some v->kindOf x=some .local ->
  bindL kindOf (P.zip vs) m x=some v
 | [],_,_,_,_,h,_,_=>by simp at h
 | _ :: _,[],_,_,_,_,h,_=>by simp at h
 | p :: P,w :: vs,0,m,nd,h1,h2,j=>by
  simp at h1 h2; subst h1; subst h2;show bindL kindOf ((p,w) :: P.zip vs) m p=_;unfold bindL;rw [Qb7 fun v q=>(dS.mp nd).1 (cj q).1,bN j]
  simp
 | p :: P,w :: vs,i + 1,m,nd,h1,h2,j=>by
  show bindL kindOf ((p,w) :: P.zip vs) m x=_;unfold bindL;exact Qb8 (i:=i) (dS.mp nd).2 (by simpa using h1) (by simpa using h2) j
theorem Qba {kindOf:Str->Option ao} {x:Str} {v:aB}:∀ {P:List Str} {vs:List aB} {i:Nat} {m:Str->Option aB},P.Nodup->P[i]?=some x->vs[i]?=some v->kindOf x≠some .local ->
  bindC kindOf (P.zip vs) m x=some v
 | [],_,_,_,_,h,_,_=>by simp at h
 | _ :: _,[],_,_,_,_,h,_=>by simp at h
 | p :: P,w :: vs,0,m,nd,h1,h2,j=>by
  simp at h1 h2; subst h1; subst h2;show bindC kindOf ((p,w) :: P.zip vs) m p=_;unfold bindC;rw [Qb9 fun v q=>(dS.mp nd).1 (cj q).1,bO j]
  simp
 | p :: P,w :: vs,i + 1,m,nd,h1,h2,j=>by
  show bindC kindOf ((p,w) :: P.zip vs) m x=_;unfold bindC;exact Qba (i:=i) (dS.mp nd).2 (by simpa using h1) (by simpa using h2) j
def start (N:List Str) (vs:List V):St:=vs.map some ++ bT (N.length - vs.length) none
def Qfi (CX:CXT) (P:aO) (w:aM) (K:bS) (mg:Str->Option aB) (base:Heap) (N:List Str) (qual:Str) (scope:Scope) (f:aA) (cd:aB) (A:aR) (outer:List Env) (s:aC) (H:Hp) (E:XK):Cx where
 prog:=P
 w:=w
 K:=K
 mg:=mg
 base:=base
 A:=A.deeper (envOfC qual scope s.heap.objs.size f cd)
 N:=N
 s₀:=s
 H₀:=H
 env:=envOfC qual scope s.heap.objs.size f cd
 outer:=outer
 stack:=envOfC qual scope s.heap.objs.size f cd :: outer
 ex:=[]
 calm:=true
 fn:=fun _=>true
 pn:=[]
 xe:=fun e s'=>aI (aJ P w) (A.deeper (envOfC qual scope s.heap.objs.size f cd)) (leaving (envOfC qual scope s.heap.objs.size f cd) e) (fun _ s''=>CX outer H s E e s'') (fun e' s''=>CX outer H s E e' s'') s'
theorem Qe9 {sc:Scope} {n:Nat} {x:Str} (h:sc.names.lookup x=some .cell):∃ c,(ai n sc.names []).lookup x=some c:=by
 have q:=eR sc.names n [] (.inl h);exact fx.mp q
theorem Qi9 {CX:CXT} {P:aO} {w:aM} {K:bS} {mg:Str->Option aB} {base:Heap} {N ps:List Str} {qual:Str} {scope:Scope} {f:aA} {cd:aB} {A:aR} {outer:List Env} {s s1:aC} {H:Hp} {E:XK} {us:List aB} {vs:List V}
  (S:FnScope N ps scope) (hd:A.handled=none) (j:Env0 P w K mg base A outer s H) (hl:vs.length=ps.length) (r:Vals vs us)
  (x:InCallC s s.heap.objs.size (bindL (envOfC qual scope s.heap.objs.size f cd).kindOf (ps.zip us) fun _=>none) (ai (s.heap.objs.size + 1) scope.names []) (bindC (envOfC qual scope s.heap.objs.size f cd).kindOf (ps.zip us) fun _=>none) s1) :
  Inv (Qfi CX P w K mg base N qual scope f cd A outer s H E) [] (start N vs) H s1:=by
 have U:ps.length<=N.length:=by have:=congrArg eT S.pre; rw [cC] at this; omega
 obtain ⟨h1,tk,rfl,O⟩:=x.done;have B:∀ b:aA,b∉(Qfi CX P w K mg base N qual scope f cd A outer s H E).ex:=fun b z=>absurd (show b∈([]:List aA) from z) (by simp)
 refine ⟨⟨j.mod,S.kind,rfl,rfl,O8 _,fun y z c h1 h2=>?_,fun y G=>?_,fun y c _ h=>?_,fun _=>hd,Around.frames_deeper j.frames,.inr ⟨rfl,rfl⟩,fun b z=>absurd z (B b),j.bs,j.bsz,fun b _ _=>B b,fun b z=>absurd z (B b),j.funs,j.frf⟩,
  rfl,j.bare,Un.kept O,⟨_,x.toInCall.ns,fun i y v h1 h2 h3=>?_⟩,fun y c h=>⟨_,x.cell y c h⟩,j.hok.fresh (O8 _),fun y c h=>?_,fun p hp=>absurd (show p∈([]:List (aA × Obj)) from hp) (by simp),j.hok.kept O,?_⟩
 ·exact name_of_addr x.apart (cD h1) (cD h2)
 ·have G:scope.names.lookup y=some .cell\/scope.names.lookup y=some .free:=G;rcases G with G | G
  ·exact Qe9 G
  ·exact absurd rfl (S.nofree _ (cD G))
 ·exact E7 (x.above y c (cD h))
 ·have hi:i < vs.length:=by
   unfold start at h2
   by_cases hi:i < vs.length
   ·exact hi
   ·rw [O9 (by simpa using hi)] at h2;rw [G7] at h2
    split at h2 <;> cases h2
  have Y:vs[i]?=some v:=by
   unfold start at h2;rw [O5 (by simpa using hi),E8] at h2;cases e:vs[i]? with
   | none=>rw [e] at h2; cases h2
   | some a=>rw [e] at h2; cases h2; rfl
  obtain ⟨u,J,Z⟩:=r.get Y;have hp:ps[i]?=some y:=by
   rw [<- S.pre,List.getElem?_take_of_lt (by omega)]; exact h1
  have I:ps.Nodup:=by rw [<- S.pre]; exact S.nd.sublist (List.take_sublist _ _)
  refine ⟨u,Z,?_⟩;rcases S.par y (D2 hp) with k | k
  ·exact .inl ⟨k,Qb8 I hp J k⟩
  ·obtain ⟨c,e⟩:=Qe9 (n:=s.heap.objs.size + 1) k;refine .inr ⟨.inl k,c,e,?_⟩;have q:=x.cell y c e;rw [Qba I hp J (by show scope.names.lookup y≠_; rw [k]; decide)] at q;exact q
 ·exact j.hok.fresh (E7 (x.above y c (cD h)))
 ·unfold start;show _=N.length;rw [O3,O2,eU];omega
theorem Qru {CX:CXT} {P:aO} {w:aM} {K:bS} {mg:Str->Option aB} {base:Heap} {k:Nat} {f:aA} {name qual:Str} {z:Arguments} {body:List aL} {scope:Scope} {dV kV U pm j ct oc:aB} {an od:Option aA}
  {a2:Array (Option aB)} {N ps:List Str} {sp:Sp} (lk:K.lookup f=some ⟨oc,od,.func (ba name qual z body scope dV kV U pm an j ct),a2⟩) (a3:bh K j qual=true) (S:FnScope N ps scope)
  (len:∀ vs H Q E,sp vs H Q E->vs.length=ps.length)
  (O:∀ (A:aR) (outer:List Env) (s:aC) (H:Hp) (vs:List V) (Q:VK) (E:XK),Room k (A.deeper (envOfC qual scope s.heap.objs.size f j))->sp vs H Q E ->
   ∃ t,PSs (Qfi CX P w K mg base N qual scope f j A outer s H E) body t/\t { nx:=fun _ H'=>Q .non H',rt:=Q } (start N vs) H) :
  FnOk P w K mg base CX (k + 1) f (ba name qual z body scope dV kV U pm an j ct) ps sp:=by
 refine ⟨len,fun A outer s H args us vs Q E hr Z hb r Y=>?_⟩;have hl:=len _ _ _ _ Y;have KX:K.In s.heap:=Z.mod.kin.keeps fun b o e=>(Z.bs b o e).1
 have lim:s.heap.NoLimit:=Z.mod.nolimit.keeps fun b o e=>(Z.bs b o e).1
 have G:∀ y∈ps.zip us,scope.names.lookup y.1=some .local\/(scope.names.lookup y.1=some .cell/\((ai (s.heap.objs.size + 1) scope.names []).lookup y.1).isSome=true):=fun ⟨n,v⟩ hy=>by
  rcases S.par n (cj hy).1 with q | q
  ·exact .inl q
  ·exact .inr ⟨q,eR _ _ _ (.inl q)⟩
 refine codeAny_call_function hr.depth (KX _ _ lk) rfl S.co S.gen rfl (PySem.W.codeRec_of KX a3) (hb _ _ _ _ ?_);refine wpAny_newFunctionEnv_cells S.kind G fun env he s1 x=>?_
 subst he;refine ⟨lim.keeps x.toInCall.keep,codeAny_func ?_⟩;obtain ⟨t,ht,hq⟩:=O A outer s H vs Q E (hr.deeper _) Y;have I:Inv (Qfi CX P w K mg base N qual scope f j A outer s H E) [] (start N vs) H s1:=Qi9 S hr.hd Z hl r x;refine af (ht [] s1 (start N vs) H _ I hq) (fun fl s' hs=>?_) fun e s' hs=>hs
 have fin:∀ {B:St} {H':Hp} {v:V} {u:aB},Inv (Qfi CX P w K mg base N qual scope f j A outer s H E) [] B H' s'->RelV v u->Q v H'->CE outer P w H s Q u s':=
  fun {B H' v u} J rv q=>⟨v,H',J.os,J.bare,J.base,J.hok,rv,q⟩
 cases fl with
 | ret u=>
  obtain ⟨v,B,H',J,rv,q⟩:=hs;exact fin J rv q
 | next=>
  obtain ⟨B,H',J,q⟩:=hs;exact fin (v:=V.non) (u:=bf) J rfl q
 | brk=>
  obtain ⟨_,_,_,q⟩:=hs;exact False.elim q
 | cont=>
  obtain ⟨_,_,_,q⟩:=hs;exact False.elim q
section
variable {X:Cx} {x:Str} {p pos:Pos} {e:aD} {es:List aD} {t:TA} {id T:String} {r:List V->Hp->VK->Prop}
def tCB (r:List V->Hp->VK->Prop) (t:TA):TE:=fun σ H Q=>t σ H fun vs H1=>r vs H1 Q
theorem Qda (Z:qd X (.builtin id) r) (z:Gl X x) (G:X.mg x=none) (O:ac x=some (.builtin id)) (ha:PA X (e :: es) t) (J:x≠"__name__" := by decide) (j:(x == ("__debug__" : Str))=false:=by decide)
  (Y:aP (e :: es) X.env=(false,aN e X.env) :: aP es X.env:=by rfl) (q:(aW pos (aP es X.env)).any (·.1)=false:=by rfl):PE X (.Call (.Name x p) (e :: es) [] pos) (tCB r t):=by
 intro pins s σ H Q I h;refine wpAny_Call_Name_kw (Q53 I z G O ?_ J j);exact hX (thn (ha pos pins s σ H _ I h) fun us s1 ⟨vs,H1,B,U,q1⟩=>Z pins s1 σ H1 vs us Q B U q1) Y q
theorem Qak (Z:qd X (.type T) r) (z:Gl X x) (G:X.mg x=none) (O:ac x=some (.type T)) (ha:PA X (e :: es) t) (J:x≠"__name__" := by decide) (j:(x == ("__debug__" : Str))=false:=by decide)
  (Y:aP (e :: es) X.env=(false,aN e X.env) :: aP es X.env:=by rfl) (q:(aW pos (aP es X.env)).any (·.1)=false:=by rfl):PE X (.Call (.Name x p) (e :: es) [] pos) (tCB r t):=by
 intro pins s σ H Q I h;refine wpAny_Call_Name_kw (Q53 I z G O ?_ J j);exact dP (thn (ha pos pins s σ H _ I h) fun us s1 ⟨vs,H1,B,U,q1⟩=>Z pins s1 σ H1 vs us Q B U q1) Y q
end
end L2
namespace HT
open PySem PyProof.Rows
def lexLt:List Int->List Int->Bool
 | [],[]=>false
 | [],_ :: _=>true
 | _ :: _,[]=>false
 | x :: xs,y :: ys=>if x=y then lexLt xs ys else decide (x < y)
theorem Qfd (x y:Int) (xs ys:List Int):lexLt (x :: xs) (y :: ys)=if x=y then lexLt xs ys else decide (x < y):=rfl
theorem Qa1:lexLt [] []=false:=rfl
theorem Q87 (y:Int) (ys:List Int):lexLt [] (y :: ys)=true:=rfl
theorem Q88 (x:Int) (xs:List Int):lexLt (x :: xs) []=false:=rfl
theorem Qmc (A:aR) (s:aC) (a:Int) (t:Tok) (c:Int) (u:Tok):∃ e,SeqAt.EqAt A s (.int a t) (.int c u) e/\(e=true <-> a=c):=
 ⟨(a == c),SeqAt.EqAt.int_int a t c u,by simp⟩
theorem Qjr (A:aR) (s:aC) (a:Int) (t:Tok) (c:Int) (u:Tok) (prog:aO) (w:aM) (E:aB->aC->Prop) (Q:aB->aC->Prop) (h:Q (.bool (decide (a < c))) s) :
  aI (aJ prog w) A (richCompare .Lt (.int a t) (.int c u)) Q E s:=
 (hZ h:aI (aJ prog w) A (aX .Lt (.int a t) (.int c u)) Q E s)
section
open PySem.SeqAt
open PySem.AutoSeq1 (wpAny_loadPart')
open PySem.MeetsSeq PySem.MeetsSeq2 PySem.MeetsSeq3
theorem Q94 (l b:aA) (z j:Array aB) (n n2:Nat) (dd a8:Option aA) (sl a5:Array (Option aB)) (ns ms:List Int) (hi:IntsAre z.toList ns) (hj:IntsAre j.toList ms) :
  Meets (Builtin.«tuple.__lt__» ⟨[.ref l,.ref b],[]⟩)
   (fun _ R s=>s.heap.get? l=some { cls:=.type "tuple",dict:=dd,data:=.seq z n,slots:=sl }/\s.heap.get? b=some { cls:=.type "tuple",dict:=a8,data:=.seq j n2,slots:=a5 } /\
    R (.ok (.ret (.bool (lexLt ns ms)))) s):=
 .of_wp fun prog w A R s h=>by
  obtain ⟨hp,g,d,tk,os⟩:=s; obtain ⟨hl,hb,h⟩:=h;have f2:=AutoSeq1.sub_tuple_tuple;have z1:z.size=ns.length:=by rw [<- hi.length]; simp
  have z2:j.size=ms.length:=by rw [<- hj.length]; simp
  wp_walk using wpAny_loadPart' hl,wpAny_loadPart' hb,wpAny_forIn_list _ (fun rest b s'=>b.1=none/\s'=⟨hp,g,d,tk,os⟩/\∃ (vs ws:List aB) (I G:List Int),rest=vs.zip ws /\
   IntsAre vs I/\IntsAre ws G/\I.length + j.size=G.length + z.size/\R (.ok (.ret (.bool (lexLt I G)))) ⟨hp,g,d,tk,os⟩) _
  case turn=>
   rintro ⟨y,x⟩ rest b s' ⟨Y,rfl,vs,ws,I,G,hz,a2,J,B,U⟩;cases a2 with
   | nil=>rw [List.zip_nil_left] at hz; cases hz
   | cons a t a3=>
    cases J with
    | nil=>rw [List.zip_nil_right] at hz; cases hz
    | cons c u a4=>
     rw [fy] at hz;injection hz with a7 Z
     injection a7 with hy hx
     subst hy hx;rw [Qfd] at U;simp only [E3] at B;obtain ⟨e,he,O⟩:=Qmc A.in1 ⟨hp,g,d,tk,os⟩ a t c u;refine aF (he prog w _ _ ?_);cases e with
     | true=>
      rw [bN (O.mp rfl)] at U
      wp_walk
      exact ⟨rfl,rfl,_,_,_,_,Z,a3,a4,by omega,U⟩
     | false=>
      rw [bO (fun q=>absurd (O.mpr q) E2)] at U
      have a6:=Qjr A.in1 ⟨hp,g,d,tk,os⟩ a t c u prog w
      wp_walk using a6
      exact ⟨_,rfl,by simpa using U⟩
  case fin=>
   rintro ⟨b1,b2⟩ s' ⟨Y,rfl,vs,ws,I,G,hz,a2,J,B,U⟩;simp only at Y;subst Y;have hv:lexLt I G=decide (z.size < j.size):=by
    cases a2 with
    | nil=>
     cases J with
     | nil=>
      simp only [cU] at B;rw [Qa1];exact (bP (by omega)).symm
     | cons c u hw=>
      simp only [cU,E3] at B;rw [Q87];exact (bQ (by omega)).symm
    | cons a t hv=>
     cases J with
     | nil=>
      simp only [cU,E3] at B;rw [Q88];exact (bP (by omega)).symm
     | cons c u hw=>
      rw [fy] at hz;cases hz
   rw [hv] at U
   wp_walk
   exact ⟨_,rfl,by simpa [Builtin.Tuple.tupleCompareSizes] using U⟩
  case h=>
   exact ⟨rfl,rfl,z.toList,j.toList,ns,ms,rfl,hi,hj,by omega,h⟩
end
section
variable {prog:aO} {w:aM} {A:aR} {E:aB->aC->Prop} {s:aC}
theorem lt_tupInts {l b:aA} {q j:Array aB} {ns ms:List Int} {Q:aB->aC->Prop} (U:IsTup s.heap l q) (J:IsTup s.heap b j) (hi:IntsAre q.toList ns) (O:IntsAre j.toList ms)
  (I:A.units < ae) (h:Q (.bool (lexLt ns ms)) s):aI (aJ prog w) A (aX .Lt (.ref l) (.ref b)) Q E s:=by
 obtain ⟨⟨cls,dd,data,sl⟩,ho,hc,n,hd⟩:=id U;obtain ⟨⟨G,B,data2,z⟩,ho2,hc2,n2,hd2⟩:=id J;simp only at hc hd hc2 hd2;subst hc hd hc2 hd2;exact richCompare_meets_room (op:=.Lt) ⟨_,ho,rfl⟩ ⟨_,ho2,rfl⟩ PySem.F.slot_tuple_lt PySem.F.entry_tuple_lt (PySem.F.args_tuple_lt_2 _ _) (Q94 l b q j n n2 dd B sl z ns ms hi O)
  ⟨ho,ho2,show cH (lexLt ns ms)≠gA/\Q (.bool (lexLt ns ms)) s from ⟨(fun x=>nomatch x),h⟩⟩ I
theorem cat_tup {t b:aA} {vs j:List aB} {Q:aB->aC->Prop} (U:IsTup s.heap t vs.toArray) (O:IsTup s.heap b j.toArray) (I:vs≠[])
  (h1:j=[]->Q (.ref t) s) (h2:j≠[]->Q (.ref s.heap.objs.size) { s with heap:=s.heap.push { cls:=.type "tuple",data:=.seq (vs ++ j).toArray } })
  (G:vs.length + j.length<=sizeLine):aI (aJ prog w) A (aY .Add (.ref t) (.ref b)) Q E s:=by
 obtain ⟨⟨cls,dd,data,sl⟩,ho,hc,n,hd⟩:=id U;obtain ⟨⟨J,z,data2,q⟩,ho2,hc2,n2,hd2⟩:=id O;simp only at hc hd hc2 hd2;subst hc hd hc2 hd2;have e:vs.toArray ++ j.toArray=(vs ++ j).toArray:=by simp
 by_cases B:j=[]
 ·exact concat_meets ⟨_,ho,rfl⟩ ⟨_,ho2,rfl⟩ noFill_tuple_add seq_tuple_add eV eX (eY _ _)
   (tuple_addW1 t b vs.toArray j.toArray n n2 dd z sl q (by simpa using I) (by simp [B])) ⟨ho,ho2,h1 B⟩
 ·refine concat_meets ⟨_,ho,rfl⟩ ⟨_,ho2,rfl⟩ noFill_tuple_add seq_tuple_add eV eX (eY _ _)
   (tuple_addW2 t b vs.toArray j.toArray n n2 dd z sl q (by simpa using I) (by simpa using B) (by rw [O4,O4]; exact G)) ⟨ho,ho2,?_⟩
  rw [e];exact h2 B
def sIx (n d:Nat):Option Int->Nat
 | none=>d
 | some v=>if v < 0 then (v + (n:Int)).toNat else min v.toNat n
theorem sIx_none (n d:Nat):sIx n d none=d:=rfl
theorem sIx_nat (n d k:Nat):sIx n d (some (k:Int))=min k n:=by
 show (if (k:Int) < 0 then ((k:Int) + (n:Int)).toNat else min (k:Int).toNat n)=min k n;rw [bO (by omega),cE]
theorem Qsf (n d:Nat) (hd:d<=n) (o:Option Int):sIx n d o<=n:=by
 cases o with
 | none=>exact hd
 | some v=>
  show (if v < 0 then (v + (n:Int)).toNat else min v.toNat n)<=n
  by_cases j:v < 0
  ·rw [bN j]; omega
  ·rw [bO j]; exact Nat.min_le_right _ _
theorem Qgp (v:Int) (n d:Nat):(if v < 0 then max (v + (n:Int)) 0 else min v (n:Int))=((sIx n d (some v):Nat):Int):=by
 show (if v < 0 then max (v + (n:Int)) 0 else min v (n:Int))=(((if v < 0 then (v + (n:Int)).toNat else min v.toNat n):Nat):Int)
 by_cases j:v < 0
 ·simp only [bN j]; omega
 ·simp only [bO j]; omega
theorem Qfq (lo hi:Option Int) (n:Nat):Builtin.Slice.sliceAdjust lo hi 1 (n:Int)=(((sIx n 0 lo:Nat):Int),((sIx n n hi:Nat):Int)):=by
 have h1:¬ ((1:Int) < 0):=by omega
 unfold Builtin.Slice.sliceAdjust;simp only [h1,if_false];refine Prod.ext ?_ ?_
 ·cases lo with
  | none=>rfl
  | some v=>exact Qgp v n 0
 ·cases hi with
  | none=>rfl
  | some v=>exact Qgp v n n
theorem Qew (i j:Nat):Builtin.Slice.slicePlaces (i:Int) (j:Int) 1=j - i:=by
 unfold Builtin.Slice.slicePlaces;have h1:(1:Int) > 0:=by omega
 simp only [h1,if_true,Int.ediv_one]
 split <;> omega
theorem Q70 {v:aB} {o:Option Int} {Q:Option Int->aC->Prop} (p:IsPart v o) (h:Q o s):aI (aJ prog w) A (Builtin.Slice.slicePartIndex v) Q E s:=by
 cases p with
 | none=>exact slicePart_none h
 | int i t=>exact slicePart_int h
theorem xb {sl:aA} {B z:aB} {lo hi:Option Int} {n:Nat} {Q:Int × Int × Nat->aC->Prop} (hs:s.heap.IsSliceOf sl B z .none) (pl:IsPart B lo) (G:IsPart z hi)
  (h:Q (((sIx n 0 lo:Nat):Int),1,sIx n n hi - sIx n 0 lo) s):aI (aJ prog w) A (Builtin.Slice.sliceApplied (.ref sl) (pure (n:Int))) Q E s:=by
 obtain ⟨os,j,I,q⟩:=id hs;unfold Builtin.Slice.sliceApplied Builtin.Slice.sliceFields;refine aF (aF (aa j q (x:=B) rfl (aF (aa j q (x:=z) rfl (aF (aa j q (x:=.none) rfl (aU ?_)))))));refine aF (slicePart_none ?_);show aI _ _ (if ((1:Int) == 0)=true then _ else _) _ _ s;rw [bO (by decide)];refine aF (Q70 pl (aF (Q70 G (aF (aU ?_)))));show aI _ _ (match Builtin.Slice.sliceAdjust lo hi 1 (n:Int) with | (lo,hi)=>pure (lo,(1:Int),Builtin.Slice.slicePlaces lo hi 1)) _ _ s
 rw [Qfq lo hi n];show aI _ _ (pure (((sIx n 0 lo:Nat):Int),(1:Int),Builtin.Slice.slicePlaces ((sIx n 0 lo:Nat):Int) ((sIx n n hi:Nat):Int) 1)) _ _ s;rw [Qew];exact aU h
theorem Qk2 (xs:Array aB) (i k:Nat):((bU k).filterMap fun (m:Nat)=>xs[((i:Int) + (m:Int) * 1).toNat]?).toArray=((xs.toList.drop i).take k).toArray:=by
 have e:(fun (m:Nat)=>xs[((i:Int) + (m:Int) * 1).toNat]?)=fun m=>xs[i + m]?:=by
  funext m;have:((i:Int) + (m:Int) * 1).toNat=i + m:=by omega
  rw [this]
 rw [e];have:=pick_run xs i k;rw [List.filterMap_map] at this;have e2:((fun x=>xs[x]?) ∘ fun x=>i + x)=fun m=>xs[i + m]?:=rfl
 rw [e2] at this;rw [this]
theorem getItem_tuple_cut {t sl:aA} {j:Array aB} {Y U:aB} {lo hi:Option Int} {Q:aB->aC->Prop} (B:IsTup s.heap t j) (hs:s.heap.IsSliceOf sl Y U .none) (pl:IsPart Y lo) (Z:IsPart U hi)
  (hw:¬ (sIx j.size 0 lo=0/\sIx j.size j.size hi=j.size))
  (h:Q (.ref s.heap.objs.size) { s with heap:=s.heap.push { cls:=.type "tuple",data:=.seq ((j.toList.drop (sIx j.size 0 lo)).take (sIx j.size j.size hi - sIx j.size 0 lo)).toArray } })
  (a2:j.size<=sizeLine):aI (aJ prog w) A (getItem (.ref t) (.ref sl)) Q E s:=by
 have z:sizeOk (.seq ((j.toList.drop (sIx j.size 0 lo)).take (sIx j.size j.size hi - sIx j.size 0 lo)).toArray):=by
  show ((j.toList.drop (sIx j.size 0 lo)).take (sIx j.size j.size hi - sIx j.size 0 lo)).toArray.size<=sizeLine;rw [O4,cC,cV,eG];omega
 have hj:sIx j.size j.size hi<=j.size:=Qsf _ _ (O8 _) hi;obtain ⟨os,I,J,a3⟩:=id hs;have G:s.TypeIs (.ref sl) "slice" := ⟨os,I,J⟩;unfold getItem
 try with_reducible refine az ?_
 first | refine aF (aU ?_) | skip
 refine aF (wpAny_sequenceKey B.typeIs (by decide) ?_);refine aF (wpAny_callSpecial?_slot (name:=bR "__getitem__") B.typeIs dU
  (bH dU B.typeIs entry_tuple_getitem ?_ (args_tuple_getitem _ _)))
 show aI _ _ (Builtin.Tuple.tupleItemsOf (.ref t) >>= _) _ _ s;refine aF (tupleItemsOf_ B ?_);refine aF (bJ G ?_);rw [bN (by decide)];refine aF (xb hs pl Z ?_);have O:¬ ((((sIx j.size 0 lo:Nat):Int) == 0 && (1:Int) == 1 && (sIx j.size j.size hi - sIx j.size 0 lo) == j.size)=true):=by
  intro q;rw [G8,G8] at q;have q1:((sIx j.size 0 lo:Nat):Int)=0:=eq_of_beq q.1.1;have q2:sIx j.size j.size hi - sIx j.size 0 lo=j.size:=eq_of_beq q.2;exact hw ⟨by omega,by omega⟩
 show aI _ _ (if (((sIx j.size 0 lo:Nat):Int) == 0 && (1:Int) == 1 && (sIx j.size j.size hi - sIx j.size 0 lo) == j.size)=true then _ else _) _ _ s;rw [bO O,Qk2]
 first
  | exact aF (m:=Builtin.Tuple.tupleExact _) (av (aU ⟨_,rfl,aU h⟩) z)
  | exact aF (m:=Builtin.Tuple.tupleExact _) (av (aF (aU (aU ⟨_,rfl,aU h⟩))) z)
  | exact aF (aF (m:=Builtin.Tuple.tupleExact _) (av (aU (aU ⟨_,rfl,aU h⟩)) z))
  | exact aF (aF (m:=Builtin.Tuple.tupleExact _) (av (aU ⟨_,rfl,aU h⟩) z))
end
end HT
namespace L2
open PySem PySem.Spec PyProof.Rows
abbrev TO:=St->Hp->(Option Int->Hp->Prop)->Prop
def PO (X:Cx) (e:Option aD) (t:TO):Prop:=
 ∀ (pins:List (aA × Obj)) (s:aC) (σ:St) (H:Hp) (Q:Option Int->Hp->Prop),Inv X pins σ H s->t σ H Q ->
  aI (aJ X.prog X.w) X.A (evalPart e X.env) (fun u s'=>∃ o H',Inv X pins σ H' s'/\IsPart u o/\Q o H') X.xe s
def Qnj:TO:=fun _ H Q=>Q none H
def Qv6 (t:TE):TO:=fun σ H Q=>t σ H fun x H1=>∃ i,x=.int i/\Q (some i) H1
theorem Q8f {ns:List Int}:∀ {us:List aB},Vals (ns.map V.int) us->IntsAre us ns:=by
 induction ns with
 | nil=>intro us r; rw [cp] at r; cases r; exact .nil
 | cons n ns q=>
  intro us r;rw [F5] at r;cases r with
  | cons z j=>
   obtain ⟨t,e⟩:=z;subst e;exact .cons n t (q j)
section
variable {X:Cx} {e:aD} {te:TE} {lo hi:Option aD} {tl th:TO} {pos p2:Pos}
theorem Qpe:PO X none Qnj:=by
 intro pins s σ H Q I h;rw [evalPart_none];exact aU ⟨none,H,I,.none,h⟩
theorem Qpd (h:PE X e te):PO X (some e) (Qv6 te):=by
 intro pins s σ H Q I B;rw [evalPart_some];refine thn (h pins s σ H _ I B) fun u s1 ⟨x,H1,j,z,q1⟩=>?_
 obtain ⟨i,rfl,q⟩:=q1;obtain ⟨t,rfl⟩:=z;exact ⟨some i,H1,j,.int i t,q⟩
def SlR (X:Cx) (r:V->Option Int->Option Int->Hp->VK->Prop):Prop:=
 ∀ (pins:List (aA × Obj)) (s:aC) (σ:St) (H:Hp) (x:V) (v vl vu:aB) (lo hi:Option Int) (sl:aA) (Q:VK),Inv X pins σ H s->RelV x v->s.heap.IsSliceOf sl vl vu .none->IsPart vl lo->IsPart vu hi->r x lo hi H Q ->
  ∃ T id,typeLookup (.type T) "__getitem__" = pure (some (.builtin id))/\s.TypeIs v T/\aI (aJ X.prog X.w) X.A (getItem v (.ref sl)) (EP X pins σ Q) X.xe s
theorem SlR.or {r J:V->Option Int->Option Int->Hp->VK->Prop} (h:SlR X r) (h':SlR X J):SlR X (fun x lo hi H Q=>r x lo hi H Q\/J x lo hi H Q):=by
 intro pins s σ H x v G j lo hi sl Q I z hs pl B q;rcases q with q | q
 ·exact h pins s σ H x v G j lo hi sl Q I z hs pl B q
 ·exact h' pins s σ H x v G j lo hi sl Q I z hs pl B q
def tSl (r:V->Option Int->Option Int->Hp->VK->Prop) (te:TE) (tl th:TO):TE:=fun σ H Q=>te σ H fun x H1=>tl σ H1 fun l H2=>th σ H2 fun u H3=>r x l u H3 Q
theorem Qk6 {r:V->Option Int->Option Int->Hp->VK->Prop} (G:SlR X r) (U:PE X e te) (hl:PO X lo tl) (hu:PO X hi th):PE X (.Subscript e (.Slice lo hi none p2) pos) (tSl r te tl th):=by
 intro pins s σ H Q I h;refine Subscript_ (thn (U pins s σ H _ I h) fun v s1 ⟨x,H1,I1,r1,q1⟩=>?_)
 refine wpAny_Slice (thn (hl pins s1 σ H1 _ I1 q1) fun z s2 ⟨l,H2,J,pl,q2⟩=>thn (hu pins s2 σ H2 _ J q2) fun j s3 ⟨u,B,I3,Z,q3⟩=>?_)
 rw [evalPart_none];refine aU ?_;have I4:Inv X pins σ B { s3 with heap:=s3.heap.push { cls:=.type "slice",data:=.fields #[z,j,.none] } }:=I3.kept (t':=s3.toks) fun b ob q=>O1 _ q
 obtain ⟨T,id,hT,O,Y⟩:=G pins { s3 with heap:=s3.heap.push { cls:=.type "slice",data:=.fields #[z,j,.none] } } σ B x v z j l u s3.heap.objs.size Q I4 r1 (Heap.IsSliceOf.new ..) pl Z q3;show aI (aJ X.prog X.w) X.A (subscriptTail e (.Slice lo hi none p2) v (.ref s3.heap.objs.size)) (EP X pins σ Q) X.xe { s3 with heap:=s3.heap.push { cls:=.type "slice",data:=.fields #[z,j,.none] } };exact tail_any (ops:=[.ref s3.heap.objs.size,v]) O hT Y (by with_unfolding_all rfl)
def Qe7 (xs:List V) (lo hi:Option Int):List V:=(xs.drop (HT.sIx xs.length 0 lo)).take (HT.sIx xs.length xs.length hi - HT.sIx xs.length 0 lo)
theorem Q5j (xs:List V) (lo hi:Option Int):(Qe7 xs lo hi).length<=xs.length:=by
 unfold Qe7;rw [cC,cV];omega
def Qyv (K:bS):V->Option Int->Option Int->Hp->VK->Prop:=fun x lo hi H Q=>∃ a xs,x=.ref a/\SqT K H a xs /\
 ¬ (HT.sIx xs.length 0 lo=0/\HT.sIx xs.length xs.length hi=xs.length)/\∀ p,H p=none->Q (.ref p) (upd H p (.tup (Qe7 xs lo hi)))
theorem sl_tup:SlR X (Qyv X.K):=by
 intro pins s σ H x v Y U lo hi sl Q I B hs pl G h;obtain ⟨a,xs,rfl,O,J,q⟩:=h;cases B;obtain ⟨its,r,z,hz⟩:=I.tuple O;have j:its.toArray.size=xs.length:=by rw [O4]; exact r.length.symm
 refine ⟨"tuple",_,PyProof.Rows.slot_tuple_getitem.lookup,z.typeIs,?_⟩;refine HT.getItem_tuple_cut z hs pl G (by rw [j]; exact J) ?_ (by rw [j]; exact hz);rw [j];refine ⟨.ref s.heap.objs.size,_,I.laid (t':=s.toks) (o:=.tup (Qe7 xs lo hi)) (fun b ob q=>O1 _ q) (O8 _) ?_,rfl,q _ (I.hok.fresh (O8 _))⟩;exact ⟨F3 (Q5j xs lo hi) hz,_,(r.drop (HT.sIx xs.length 0 lo)).take (HT.sIx xs.length xs.length hi - HT.sIx xs.length 0 lo),IsTup.new _ _⟩
def Qyz (K:bS):R2:=fun x y H Q=>∃ a b ns ms,x=.ref a/\y=.ref b/\SqT K H a (ns.map V.int)/\SqT K H b (ms.map V.int)/\Q (.bl (HT.lexLt ns ms)) H
theorem Qte (z:X.A.units < ae):OpR X (aX .Lt) (Qyz X.K):=by
 intro pins s σ H x y v u Q I G ry h;obtain ⟨a,b,ns,ms,rfl,rfl,ha,O,q⟩:=h;cases G;cases ry;obtain ⟨its,U,Y,_⟩:=I.tuple ha;obtain ⟨j,Z,p2,_⟩:=I.tuple O;have J:IntsAre its.toArray.toList ns:=Q8f U;have B:IntsAre j.toArray.toList ms:=Q8f Z;exact HT.lt_tupInts Y p2 J B z ⟨.bl (HT.lexLt ns ms),H,I,rfl,q⟩
def Qri (K:bS):R2:=fun x y H Q=>∃ a b xs ys,x=.ref a/\y=.ref b/\SqT K H a xs/\SqT K H b ys/\xs≠[]/\xs.length + ys.length<=sizeLine /\
 (ys=[]->Q (.ref a) H)/\(ys≠[]->∀ p,H p=none->Q (.ref p) (upd H p (.tup (xs ++ ys))))
theorem Vals.nil_iff {xs:List V} {us:List aB} (r:Vals xs us):us=[] <-> xs=[]:=by
 cases r with
 | nil=>simp
 | cons _ _=>simp
theorem op_catT:OpR X (aY .Add) (Qri X.K):=by
 intro pins s σ H x y v u Q I J Z h;obtain ⟨a,b,xs,ys,rfl,rfl,Y,O,hx,hz,q1,q2⟩:=h;cases J;cases Z;obtain ⟨its,B,U,_⟩:=I.tuple Y;obtain ⟨G,j,p2,_⟩:=I.tuple O;refine HT.cat_tup U p2 (fun z=>hx (B.nil_iff.mp z)) (fun z=>⟨.ref a,H,I,rfl,q1 (j.nil_iff.mp z)⟩) (fun z=>?_) (by rw [<- B.length,<- j.length]; exact hz)
 refine ⟨.ref s.heap.objs.size,_,I.laid (t':=s.toks) (o:=.tup (xs ++ ys)) (fun b ob q=>O1 _ q) (O8 _) ?_,rfl,q2 (fun w=>z (j.nil_iff.mpr w)) _ (I.hok.fresh (O8 _))⟩;exact ⟨by rw [O3]; exact hz,_,B.append j,IsTup.new _ _⟩
end
def ixN (n:Nat) (i:Int):Option Nat:=if 0<=i then (if i < n then some i.toNat else none) else if -(n:Int)<=i then some (i + n).toNat else none
def atI {α:Type} (xs:List α) (i:Int):Option α:=(ixN xs.length i).bind fun j=>xs[j]?
theorem Qc4 {n:Nat} {i:Int} {j:Nat} (h:ixN n i=some j):seqIndex? i n=some j/\j < n/\-(n:Int)<=i/\i < n:=by
 unfold ixN at h
 by_cases h0:0<=i
 ·rw [bN h0] at h
  by_cases h1:i < n
  ·rw [bN h1] at h;have e:i.toNat=j:=bj h;exact ⟨by rw [seqIndex_of h0 h1,e],by omega,by omega,h1⟩
  ·rw [bO h1] at h; cases h
 ·rw [bO h0] at h
  by_cases h1:-(n:Int)<=i
  ·rw [bN h1] at h;have e:(i + n).toNat=j:=bj h;exact ⟨by rw [seqIndex_neg (by omega) h1,e],by omega,h1,by omega⟩
  ·rw [bO h1] at h; cases h
theorem atI_get {α:Type} {xs:List α} {i:Int} {v:α} (h:atI xs i=some v):∃ j,seqIndex? i xs.length=some j/\xs[j]?=some v/\j < xs.length/\-(xs.length:Int)<=i/\i < xs.length:=by
 unfold atI at h;cases e:ixN xs.length i with
 | none=>rw [e] at h; cases h
 | some j=>
  rw [e] at h;obtain ⟨h1,h2,q,z⟩:=Qc4 e;exact ⟨j,h1,h,h2,q,z⟩
def Qh0 (b:aD):Prop:=∀ o i,subscripted b false o i=operate [o,i] (getItem o i)
def IxR (X:Cx) (r:R2):Prop:=
 ∀ (value slice:aD) (pins:List (aA × Obj)) (s:aC) (σ:St) (H:Hp) (x y:V) (v u:aB) (Q:VK),Inv X pins σ H s->RelV x v->RelV y u->r x y H Q ->
  subscripted slice false v u=operate [v,u] (getItem v u)->aI (aJ X.prog X.w) X.A (subscriptTail value slice v u) (EP X pins σ Q) X.xe s
def MtR (X:Cx) (id:String) (r:V->List V->Hp->VK->Prop):Prop:=
 ∀ (pins:List (aA × Obj)) (s:aC) (σ:St) (H:Hp) (x:V) (xs:List V) (v:aB) (us:List aB) (Q:VK),Inv X pins σ H s->RelV x v->Vals xs us->r x xs H Q ->
  aI (aJ X.prog X.w) X.A (call (.builtin id) (v :: us)) (EP X pins σ Q) X.xe s
section
variable {X:Cx} {a b:aD} {ta tb:TE} {pos:Pos}
theorem IxR.or {r G:R2} (h:IxR X r) (h':IxR X G):IxR X (fun x y H Q=>r x y H Q\/G x y H Q):=by
 intro value j pins s σ H x y v u Q I z B q hs;rcases q with q | q
 ·exact h value j pins s σ H x y v u Q I z B q hs
 ·exact h' value j pins s σ H x y v u Q I z B q hs
theorem Qvz {r:R2} (j:IxR X r) (J:PE X a ta) (G:PE X b tb) (hs:Qh0 b):PE X (.Subscript a b pos) (tOp r ta tb):=by
 intro pins s σ H Q I h;exact Subscript_ (Que J G I h fun v u s2 x y H2 B z O q=>j a b pins s2 σ H2 x y v u Q B z O q (hs _ _))
def Qvn (K:bS):R2:=fun x y H Q=>∃ p xs i v,x=.ref p/\y=.int i/\SqL K H p xs/\atI xs i=some v/\Q v H
def Qvk (K:bS):R2:=fun x y H Q=>∃ p xs i v,x=.ref p/\y=.int i/\SqT K H p xs/\atI xs i=some v/\Q v H
def Qvm:R2:=fun x y H Q=>∃ z i c,x=.str z/\y=.int i/\z.length<=sizeLine/\atI z.cps.toList i=some c/\Q (.str ⟨#[c]⟩) H
theorem ix_list:IxR X (Qvn X.K):=by
 intro value G pins s σ H x y v u Q I Y ry h hs;obtain ⟨p,xs,i,z,rfl,rfl,U,Z,q⟩:=h;cases Y;obtain ⟨t,rfl⟩:=ry;obtain ⟨its,r,pl,hz⟩:=I.list U;obtain ⟨j,h1,h2,h3,h4,h5⟩:=atI_get Z;obtain ⟨w,O,B⟩:=r.get h2;have hl:=r.length;have hn:=Q52;have fin:EP X pins σ Q w s:=⟨z,H,I,B,q⟩
 by_cases h0:0<=i
 ·have J:i.toNat=j:=by
   rw [seqIndex_of h0 h5] at h1;exact bj h1
  exact item_listR pl.isList h0 (by omega) (by rw [J]; simpa using O) fin hs
 ·have J:(i + (its.toArray.size:Int)).toNat=j:=by
   rw [seqIndex_neg (by omega) h4] at h1;rw [O4,<- hl];exact bj h1
  exact subscriptTail_builtinR (x:=w) pl.isList.typeIs slot_list_getitem.lookup
   (wpAny_getItem_list_neg (Q:=fun r s'=>r=w/\EP X pins σ Q r s') pl.isList (by omega) (by rw [O4] <;> omega) (by omega) (by rw [J]; simpa using O) ⟨rfl,fin⟩) hs
theorem ix_tup:IxR X (Qvk X.K):=by
 intro value G pins s σ H x y v u Q I O Z h hs;obtain ⟨p,xs,i,z,rfl,rfl,J,Y,q⟩:=h;cases O;obtain ⟨t,rfl⟩:=Z;obtain ⟨its,r,pl,hz⟩:=I.tuple J;obtain ⟨j,h1,h2,h3,h4,h5⟩:=atI_get Y;obtain ⟨w,U,B⟩:=r.get h2;have hl:=r.length;have hn:=Q52;have fin:EP X pins σ Q w s:=⟨z,H,I,B,q⟩;exact subscriptTail_builtinR (x:=w) pl.typeIs slot_tuple_getitem.lookup
  (getItem_tuple (j:=j) (Q:=fun r s'=>r=w/\EP X pins σ Q r s') pl (by omega) (by omega) (by rw [O4,<- hl]; exact h1) (by simpa using U) ⟨rfl,fin⟩) hs
theorem Qu2:IxR X Qvm:=by
 intro value B pins s σ H x y v u Q I G U h hs;obtain ⟨z,i,c,rfl,rfl,hz,J,q⟩:=h;obtain ⟨t,rfl⟩:=G;obtain ⟨t',rfl⟩:=U;obtain ⟨j,h1,h2,h3,Y,O⟩:=atI_get J;have Z:z.cps.toList.length=z.length:=by simp [Str.length]
 rw [Z] at h1 Y O;have hn:=Q52;exact tail_any (typeIs_str s z t) slot_str_getitem.lookup (getItem_str (c:=c) (by
  have e1:decide (i < -(2 ^ 63:Int))=false:=bP (by omega);have e2:decide (i>=2 ^ 63)=false:=bP (by omega);rw [e1,e2,Bool.or_false]) (by rw [h1]; simpa using h2) ⟨.str ⟨#[c]⟩,H,I.tok _,⟨_,rfl⟩,q⟩) hs
def rIx (K:bS):R2:=fun x y H Q=>Qvn K x y H Q\/Qvk K x y H Q\/Qvm x y H Q
theorem Qu3:IxR X (rIx X.K):=ix_list.or (ix_tup.or Qu2)
theorem Qf7 (its:List aB) (n j:Nat) (u:aB):cr (·.setIfInBounds j u) { cls:=.type "list",data:=.seq its.toArray n }={ cls:=.type "list",data:=.seq (its.set j u).toArray n }:=by
 simp [cr]
theorem Inv.lst {pins:List (aA × Obj)} {σ:St} {H:Hp} {s:aC} {p:aA} {xs:List V} (I:Inv X pins σ H s) (h:H p=some (.lst xs)) :
  ∃ (its:List aB) (n:Nat),Vals xs its/\s.heap.get? p=some { cls:=.type "list",data:=.seq its.toArray n }/\xs.length<=sizeLine:=by
 obtain ⟨z,its,n,r,e⟩:=I.hok p _ h;exact ⟨its,n,r,e,z⟩
theorem Inv.lstUpd {pins:List (aA × Obj)} {σ:St} {H:Hp} {s:aC} {p:aA} {xs ys:List V} {its its':List aB} {n j:Nat} {f:Obj->Obj} (I:Inv X pins σ H s) (h:H p=some (.lst xs))
  (G:s.heap.get? p=some { cls:=.type "list",data:=.seq its.toArray n }) (z:f { cls:=.type "list",data:=.seq its.toArray n }={ cls:=.type "list",data:=.seq its'.toArray j }) (r:Vals ys its') (hz:ys.length<=sizeLine) (t:Nat) :
  Inv X pins σ (upd H p (.lst ys)) { s with heap:=s.heap.update p f,toks:=t }:=by
 have e:(s.heap.update p f).get? p=some { cls:=.type "list",data:=.seq its'.toArray j }:=by
  rw [L6 f G (by rw [z] <;> rfl),z]
 refine I.write (x:=p) (e:=p) (by rw [h]; trivial) (.inl rfl) (fun b u B q=>(F0 _ _ (Ne.symm B)).trans q) ⟨_,e⟩ ?_
 exact ⟨hz,its',j,r,e⟩
def Qvi:V->V->V->Hp->(Hp->Prop)->Prop:=fun o i v H Q=>∃ p xs k j,o=.ref p/\i=.int k/\H p=some (.lst xs)/\ixN xs.length k=some j/\Q (upd H p (.lst (xs.set j v)))
theorem Qjg:Qxg X Qvi:=by
 intro pins s σ H o i v ov iv u Q I Y ri Z h;obtain ⟨p,xs,k,j,rfl,rfl,hp,hj,q⟩:=h;cases Y;obtain ⟨t,rfl⟩:=ri;obtain ⟨its,n,r,B,hz⟩:=I.lst hp;obtain ⟨h1,h2,U,J⟩:=Qc4 hj;have G:=r.length;have hn:=Q52;have O:Inv X pins σ (upd H p (.lst (xs.set j v))) { s with heap:=s.heap.update p (cr (·.setIfInBounds j u)) }:=
  I.lstUpd hp B (Qf7 its n j u) (r.set Z j) (by rw [D4]; exact hz) s.toks
 by_cases h0:0<=k
 ·have z:k.toNat=j:=by
   rw [seqIndex_of h0 J] at h1;exact bj h1
  exact PySem.W.ki_setAt B h0 (by omega) (by rw [O4,<- G]; exact J) (by rw [z]; exact ⟨_,O,q⟩)
 ·have z:(k + (its.toArray.size:Int)).toNat=j:=by
   rw [seqIndex_neg (by omega) U] at h1;rw [O4,<- G];exact bj h1
  exact PySem.W.ki_setBack B (by omega) (by rw [O4,<- G]; exact U) (by omega) (by rw [z]; exact ⟨_,O,q⟩)
theorem Qbi (lo hi:Option Int) (n:Nat):(bD lo hi none n).1=((HT.sIx n 0 lo:Nat):Int)/\(bD lo hi none n).2.1=((HT.sIx n n hi:Nat):Int)/\(bD lo hi none n).2.2=1:=by
 refine ⟨?_,?_,rfl⟩
 ·cases lo with
  | none=>simp [bD,HT.sIx]
  | some i=>
   simp only [bD,HT.sIx,gB,show (1:Int) > 0 by decide,if_true]
   by_cases h:i < 0
   ·simp only [h,if_true] <;> omega
   ·simp only [h,if_false] <;> omega
 ·cases hi with
  | none=>simp [bD,HT.sIx]
  | some i=>
   simp only [bD,HT.sIx,gB,show (1:Int) > 0 by decide,if_true]
   by_cases h:i < 0
   ·simp only [h,if_true] <;> omega
   ·simp only [h,if_false] <;> omega
theorem Q95 (its:List aB) (lo hi:Option Int):slicePick its.toArray lo hi none=((its.drop (HT.sIx its.length 0 lo)).take (HT.sIx its.length its.length hi - HT.sIx its.length 0 lo)).toArray:=by
 obtain ⟨h1,h2,j⟩:=Qbi lo hi its.toArray.size;unfold slicePick;rw [h1,h2,j];simp only [sliceRange_one,pick_run,O4] <;> rfl
def Qyw (K:bS):V->Option Int->Option Int->Hp->VK->Prop:=fun x lo hi H Q=>∃ a xs,x=.ref a/\SqL K H a xs/\∀ p,H p=none->Q (.ref p) (upd H p (.lst (Qe7 xs lo hi)))
theorem Qnt:SlR X (Qyw X.K):=by
 intro pins s σ H x v U O lo hi sl Q I B hs pl G h;obtain ⟨a,xs,rfl,J,q⟩:=h;cases B;obtain ⟨its,r,z,hz⟩:=I.list J;have j:=r.length;refine ⟨"list",_,slot_list_getitem.lookup,z.isList.typeIs,?_⟩;refine wpAny_getItem_list_slice z.isList hs pl G .none (by simp) ?_ (by rw [O4] <;> omega);rw [Q95,<- j];refine ⟨.ref s.heap.objs.size,_,I.laid (t':=s.toks) (o:=.lst (Qe7 xs lo hi)) (fun b ob q=>O1 _ q) (O8 _) ?_,rfl,q _ (I.hok.fresh (O8 _))⟩;exact ⟨F3 (Q5j xs lo hi) hz,_,0,(r.drop (HT.sIx xs.length 0 lo)).take (HT.sIx xs.length xs.length hi - HT.sIx xs.length 0 lo),D9 _ rfl⟩
theorem Qce:qd X (.builtin "len") (fun xs H Q=>∃ p ys,xs=[.ref p]/\(SqL X.K H p ys\/SqT X.K H p ys)/\Q (.int ys.length) H):=by
 intro pins s σ H xs us Q I r h;obtain ⟨p,ys,rfl,z,q⟩:=h;obtain ⟨u,rfl,G⟩:=Q2j r;cases G;have J:=Q52;rcases z with z | z
 ·obtain ⟨its,B,pl,hz⟩:=I.list z;have j:=B.length;exact Calls.call_len_list pl.isList (by simp only [O4] <;> omega) ⟨.int ys.length,H,I.tok _,⟨s.toks + 1,by rw [O4,j]⟩,q⟩
 ·obtain ⟨its,B,pl,hz⟩:=I.tuple z;have j:=B.length;exact len_tuple pl (by simp only [O4] <;> omega) ⟨.int ys.length,H,I.tok _,⟨s.toks + 1,by rw [O4,j]⟩,q⟩
theorem Qcd:qd X (.builtin "len") (fun xs H Q=>∃ z,xs=[.str z]/\z.length<=sizeLine/\Q (.int z.length) H):=by
 intro pins s σ H xs us Q I r h;obtain ⟨z,rfl,hz,q⟩:=h;obtain ⟨u,rfl,t,rfl⟩:=Q2j r;have j:=Q52;exact len_str (by omega) ⟨.int z.length,H,I.tok _,⟨_,rfl⟩,q⟩
theorem Qcc:qd X (.type "list") (fun xs H Q=>∃ p ys,xs=[.ref p]/\(SqL X.K H p ys\/SqT X.K H p ys)/\∀ l,H l=none->Q (.ref l) (upd H l (.lst ys))):=by
 intro pins s σ H xs us Q I r h;obtain ⟨p,ys,rfl,G,q⟩:=h;obtain ⟨u,rfl,U⟩:=Q2j r;cases U;have fin:∀ (its:List aB),Vals ys its->ys.length<=sizeLine->∀ (h':Heap) (j:Nat),(∀ b o',s.heap.get? b=some o'->h'.get? b=some o') ->
   h'.get? s.heap.objs.size=some { cls:=.type "list",dict:=none,data:=.seq its.toArray j,slots:=#[] }->EP X pins σ Q (.ref s.heap.objs.size) { s with heap:=h' }:=fun its z hz h' j kp e=>
  ⟨.ref s.heap.objs.size,_,I.laid (t':=s.toks) kp (O8 _) (show ObjOk X.prog X.w _ h' _ (.lst ys) from ⟨hz,its,j,z,e⟩),rfl,q _ (I.hok.fresh (O8 _))⟩
 rcases G with G | G
 ·obtain ⟨its,z,pl,hz⟩:=I.list G;have B:=z.length;obtain ⟨o,O,J,n,hd⟩:=pl.isList;exact call_list_seq p (.inl rfl) O J hd (fun h' j kp e=>fin its z hz h' j kp e) (by simp only [O4] <;> omega)
 ·obtain ⟨its,z,pl,hz⟩:=I.tuple G;have B:=z.length;obtain ⟨o,O,J,n,hd⟩:=pl;exact call_list_seq p (.inr rfl) O J hd (fun h' j kp e=>fin its z hz h' j kp e) (by simp only [O4] <;> omega)
theorem Q2p:qd X (.type "tuple") (fun xs H Q=>∃ p ys,xs=[.ref p]/\((SqL X.K H p ys/\∀ l,H l=none->Q (.ref l) (upd H l (.tup ys)))\/(SqT X.K H p ys/\Q (.ref p) H))):=by
 intro pins s σ H xs us Q I r h;obtain ⟨p,ys,rfl,h⟩:=h;obtain ⟨u,rfl,J⟩:=Q2j r;cases J;rcases h with ⟨j,q⟩ | ⟨j,q⟩
 ·obtain ⟨its,z,pl,hz⟩:=I.list j;have B:=z.length;refine call_tuple_list pl.isList (fun h' kp=>?_) (by simp only [O4] <;> omega);have G:Inv X pins σ H { s with heap:=h' }:=I.kept (t':=s.toks) kp;have O:Inv X pins σ (upd H h'.objs.size (.tup ys)) { s with heap:=h'.push { cls:=.type "tuple",data:=.seq its.toArray } }:=
   G.laid (t':=s.toks) (fun b o e=>O1 _ e) (O8 _) (show ObjOk X.prog X.w _ _ _ (.tup ys) from ⟨hz,its,z,IsTup.new _ _⟩)
  exact ⟨.ref h'.objs.size,_,O,rfl,q _ (G.hok.fresh (O8 _))⟩
 ·obtain ⟨its,z,pl,hz⟩:=I.tuple j;exact call_tuple_same pl ⟨.ref p,H,I,rfl,q⟩
def tyV (K:bS) (T:String) (x:V) (H:Hp):Prop:=match x with
 | .str _=>T = "str"
 | .int _=>T = "int"
 | .ref p=>(T = "list" /\ ∃ xs,SqL K H p xs)\/(T = "tuple" /\ ∃ o,K.lookup p=some o/\o.cls=.type "tuple" /\ o.dict=none) \/
   (T = "dict" /\ ((∃ kvs,H p=some (.dK kvs))\/∃ kvs,H p=some (.dT kvs)))\/(T = "set" /\ ∃ S n,H p=some (.set S n))
 | _=>False
theorem Qs2 {pins:List (aA × Obj)} {σ:St} {H:Hp} {s:aC} {T:String} {x:V} {v:aB} (I:Inv X pins σ H s) (r:RelV x v) (ty:tyV X.K T x H) :
  s.TypeIs v T/\∀ a,v=.ref a->∃ ob,s.heap.get? a=some ob/\ob.dict=none:=by
 cases x with
 | str z=>
  obtain ⟨t,rfl⟩:=r;cases (show T = "str" from ty);exact ⟨typeIs_str s z t,fun _ e=>nomatch e⟩
 | int i=>
  obtain ⟨t,rfl⟩:=r;cases (show T = "int" from ty);exact ⟨typeIs_int s i t,fun _ e=>nomatch e⟩
 | ref p=>
  cases r;rcases ty with ⟨rfl,xs,q⟩ | ⟨rfl,o,j,B,hd⟩ | ⟨rfl,j⟩ | ⟨rfl,S,n,j⟩
  ·obtain ⟨its,_,pl,_⟩:=I.list q;refine ⟨pl.isList.typeIs,fun a e=>?_⟩;cases e;obtain ⟨o,n,e,c,hd,_⟩:=pl;exact ⟨o,e,hd⟩
  ·refine ⟨⟨o,I.kIn p o j,B⟩,fun a e=>?_⟩
   cases e;exact ⟨o,I.kIn _ o j,hd⟩
  ·have z:∃ o,s.heap.get? p=some o/\o.ExactDict:=by
    rcases j with ⟨kvs,j⟩ | ⟨kvs,j⟩
    ·obtain ⟨_,_,_,_,o,_,_,e,ex,_⟩:=I.hok p _ j;exact ⟨o,e,ex⟩
    ·obtain ⟨_,_,_,_,o,_,_,e,ex,_⟩:=I.hok p _ j;exact ⟨o,e,ex⟩
   obtain ⟨o,e,ex⟩:=z;refine ⟨⟨o,e,ex.1⟩,fun a e2=>?_⟩
   cases e2;exact ⟨o,e,ex.2.1⟩
  ·obtain ⟨o,_,_,_,e,ex,_⟩:=I.hok p _ j;refine ⟨⟨o,e,ex.1⟩,fun a e2=>?_⟩
   cases e2;exact ⟨o,e,ex.2.1⟩
 | _=>exact False.elim ty
def tBM (K:bS) (T:String) (r:V->List V->Hp->VK->Prop) (to:TE) (t:TA):TE:=fun σ H Q=>to σ H fun x H1=>tyV K T x H1/\t σ H1 fun xs H2=>r x xs H2 Q
variable {o e:aD} {es:List aD} {to:TE} {t:TA} {name:Str} {apos cpos:Pos} {T id:String} {r:V->List V->Hp->VK->Prop}
theorem Qw0 (pa:PlainAttrs T) (slot:Slot T name id) (G:typeOf (.builtin id)=pure (.type "method_descriptor")) (Z:MtR X id r) (ho:PE X o to) (ha:PA X (e :: es) t)
  (q:am o name X.env (aN o X.env)=aN o X.env:=by rfl)
  (B:((aW cpos (aP (e :: es) X.env)).all (fun x=>!x.1) && (backToKw cpos (keywordEach [] X.env)).all (fun x=>x.1.isSome)
   && decide ((e :: es).length + ([]:List Keyword).length + (if ([]:List Keyword).isEmpty then 0 else 1) < 30))=true:=by rfl)
  (z:(apos.endLine == cpos.line)=true:=by rfl) (hs:aP (e :: es) X.env=(false,aN e X.env) :: aP es X.env:=by rfl) (j:(aW cpos (aP es X.env)).any (·.1)=false:=by rfl) :
  PE X (.Call (.Attribute o name apos) (e :: es) [] cpos) (tBM X.K T r to t):=by
 intro pins s σ H Q I h;refine wpAny_Call_method_late q B z rfl (thn (ho pins s σ H _ I h) fun v s1 ⟨x,H1,J,O,ty,q1⟩=>?_)
 obtain ⟨h1,h2⟩:=Qs2 J O ty;refine ⟨T,id,pa,slot,G,h1,h2,?_⟩;have U:=ha cpos pins s1 σ H1 _ J q1;rw [hs] at U ⊢;refine Calls.callWith_builtin (by show (false || (aW cpos (aP es X.env)).any (·.1))=false; rw [j] <;> rfl) (Calls.evalArgs_plain ?_);exact thn U fun us s2 ⟨vs,H2,Y,r2,q2⟩=>Z pins s2 σ H2 x vs v us Q Y O r2 q2
end
def MtM (X:Cx) (id:String) (r:V->List V->Hp->VK->Prop):Prop:=
 ∀ (pins:List (aA × Obj)) (s:aC) (σ:St) (H:Hp) (x:V) (xs:List V) (v:aB) (us:List aB) (Q:VK),Inv X pins σ H s->RelV x v->Vals xs us->r x xs H Q ->
  aI (aJ X.prog X.w) X.A (call (.builtin id) (v :: us)) (EP X pins σ Q) X.xe s
theorem Vals.one:∀ {x:V} {us:List aB},Vals [x] us->∃ u,us=[u]/\RelV x u
 | _,_,.cons r .nil=>⟨_,rfl,r⟩
theorem Vals.zero:∀ {us:List aB},Vals [] us->us=[]
 | _,.nil=>rfl
theorem Vals.dropLast {xs:List V} {us:List aB} (h:Vals xs us):Vals xs.dropLast us.dropLast:=by
 induction h with
 | nil=>exact .nil
 | cons r t j=>
  cases t with
  | nil=>exact .nil
  | cons q t'=>exact .cons r j
theorem Vals.eraseIdx:∀ {xs:List V} {us:List aB} (i:Nat),Vals xs us->Vals (xs.eraseIdx i) (us.eraseIdx i)
 | _,_,_,.nil=>.nil
 | _,_,0,.cons _ t=>t
 | _,_,i + 1,.cons r t=>.cons r (Vals.eraseIdx i t)
theorem Vals.rep {xs:List V} {us:List aB} (h:Vals xs us):∀ k:Nat,Vals (bT k xs).flatten (bT k us).flatten
 | 0=>.nil
 | k + 1=>by
  rw [cM,cM,cW,cW];exact Vals.append h (Vals.rep h k)
theorem Qfg {α:Type} (l:List α):l.eraseIdx (l.length - 1)=l.dropLast:=by
 induction l with
 | nil=>rfl
 | cons a r j=>
  cases r with
  | nil=>rfl
  | cons b r=>
   have e:(a :: b :: r).length - 1=((b :: r).length - 1) + 1:=by
    have h1:(a :: b :: r).length=r.length + 2:=rfl;have h2:(b :: r).length=r.length + 1:=rfl;omega
   rw [e,List.eraseIdx_cons_succ,j]
   all_goals rfl
theorem Qav {α:Type}:∀ (l:List α) (i:Nat),(l.eraseIdx i).length<=l.length
 | [],_=>O8 _
 | _ :: _,0=>cL _
 | _ :: r,i + 1=>Nat.succ_le_succ (Qav r i)
theorem Q58 (its:List aB):∀ (k:Nat) (j:List aB),
  dW (fun z q=>z ++ q) j.toArray (bT k its.toArray)=(j ++ (bT k its).flatten).toArray
 | 0,j=>by simp
 | k + 1,j=>by
  have e:j.toArray ++ its.toArray=(j ++ its).toArray:=by simp
  have e2:(j ++ its) ++ (bT k its).flatten=j ++ (bT (k + 1) its).flatten:=by
   rw [cM,cW,F8]
  rw [<- e2,<- Q58 its k (j ++ its),<- e,cM,cu]
section
variable {X:Cx} {pins:List (aA × Obj)} {σ:St} {H:Hp} {s:aC} {l b:aA} {xs ys zs:List V}
theorem Inv.lset {its its':List aB} {n:Nat} {f:Array aB->Array aB} {t':Nat} (I:Inv X pins σ H s) (z:H l=some (.lst xs))
  (e:s.heap.get? l=some { cls:=.type "list",data:=.seq its.toArray n }) (B:f its.toArray=its'.toArray) (J:Vals ys its') (hz:ys.length<=sizeLine) :
  Inv X pins σ (upd H l (.lst ys)) { s with heap:=s.heap.update l (cr f),toks:=t' }:=by
 have q:=PySem.IsL.update e f;rw [B] at q;refine I.write (x:=l) (e:=l) (by rw [z]; exact trivial) (.inl rfl) (fun O u G j=>(F0 s.heap (cr f) (Ne.symm G)).trans j) ⟨_,q⟩ ?_
 exact ⟨hz,its',_,J,q⟩
theorem Inv.lnew {its:List aB} {t':Nat} (I:Inv X pins σ H s) (j:Vals ys its) (hz:ys.length<=sizeLine) :
  Inv X pins σ (upd H s.heap.objs.size (.lst ys)) { s with heap:=s.heap.push { cls:=.type "list",data:=.seq its.toArray },toks:=t' }:=
 I.laid (fun _ _ q=>O1 _ q) (O8 _) ⟨hz,its,0,j,D9 _ rfl⟩
theorem Inv.fresh (I:Inv X pins σ H s):H s.heap.objs.size=none:=I.hok.fresh (O8 _)
theorem Inv.lstM (I:Inv X pins σ H s) (j:H l=some (.lst xs)):xs.length<=sizeLine/\∃ (its:List aB) (n:Nat),Vals xs its/\xs.length=its.length/\s.heap.get? l=some { cls:=.type "list",data:=.seq its.toArray n }:=by
 obtain ⟨z,its,n,r,e⟩:=I.hok l _ j;exact ⟨z,its,n,r,r.length,e⟩
theorem Qdh {n:Nat} (h:n<=sizeLine):Builtin.List.listTooLong n=false:=by
 unfold Builtin.List.listTooLong;exact bP (by omega)
end
section
variable {X:Cx}
def Qp4:V->List V->Hp->VK->Prop:=fun x vs H Q=>∃ l xs y,x=.ref l/\vs=[y]/\H l=some (.lst xs)/\xs.length < sizeLine/\Q .non (upd H l (.lst (xs ++ [y])))
theorem Qhw:MtM X "list.append" Qp4:=by
 intro pins s σ H x vs v us Q I G J h;obtain ⟨l,xs,y,rfl,rfl,j,hz,q⟩:=h;cases G;obtain ⟨u,rfl,B⟩:=J.one;obtain ⟨z,its,n,r,O,e⟩:=I.lstM j;refine au F.slot_list_append ⟨_,e,rfl⟩ F.entry_list_append (F.args_list_append_2 _ _) (gC l its.toArray n u (by rw [O4]; omega)) ⟨e,?_⟩;refine ⟨.non,_,I.lset (its':=its ++ [u]) j e (by simp) (r.append (.cons B .nil)) ?_,rfl,q⟩;rw [O3,eZ];omega
def Qp3:V->List V->Hp->VK->Prop:=fun x vs H Q=>∃ l b xs zs,x=.ref l/\vs=[.ref b]/\H l=some (.lst xs)/\H b=some (.lst zs)/\xs.length + zs.length<=sizeLine/\Q .non (upd H l (.lst (xs ++ zs)))
theorem Qhv:MtM X "list.extend" Qp3:=by
 intro pins s σ H x vs v us Q I Z rv h;obtain ⟨l,b,xs,zs,rfl,rfl,J,O,hz,q⟩:=h;cases Z;obtain ⟨u,rfl,U⟩:=rv.one;cases U;obtain ⟨z,its,n,r,hl,e⟩:=I.lstM J;obtain ⟨z2,j,n2,r2,Y,e2⟩:=I.lstM O;have G:its.toArray.size + j.toArray.size<=sizeLine:=by rw [O4,O4]; omega
 have B:¬ (!its.toArray.isEmpty && Builtin.List.listTooLong (its.toArray.size + j.toArray.size))=true:=by
  rw [Qdh G,dX];exact E2
 refine au F.slot_list_extend ⟨_,e,rfl⟩ F.entry_list_extend (F.args_list_extend_2 _ _)
  (AutoSeq1.list_extend_list_list_0 l its.toArray n b j.toArray n2 B (by rw [O4]; omega) (by omega)) ⟨e,e2,?_⟩
 refine ⟨.non,_,I.lset (its':=its ++ j) J e (by simp) (r.append r2) ?_,rfl,q⟩;rw [O3];omega
def Qyy:V->List V->Hp->VK->Prop:=fun x vs H Q=>∃ l xs y,x=.ref l/\vs=[]/\H l=some (.lst xs)/\xs[xs.length - 1]?=some y/\Q y (upd H l (.lst xs.dropLast))
theorem Qtk:MtM X "list.pop" Qyy:=by
 intro pins s σ H x vs v us Q I U Z h;obtain ⟨l,xs,y,rfl,rfl,G,Y,q⟩:=h;cases U;have j:=Z.zero;subst j;obtain ⟨z,its,n,r,hl,e⟩:=I.lstM G;obtain ⟨u,J,O⟩:=r.get Y;have B:its.toArray[its.toArray.size - 1]?=some u:=by
  show its.toArray[its.length - 1]?=some u;rw [<- gD,<- hl];exact J
 refine au F.slot_list_pop ⟨_,e,rfl⟩ F.entry_list_pop (F.args_list_pop_1 _) (MeetsSeq.list_pop_last l its.toArray n u B (by rw [O4]; omega)) ⟨e,?_⟩;refine ⟨y,_,I.lset (its':=its.dropLast) G e ?_ r.dropLast ?_,O,q⟩
 ·show its.toArray.eraseIdxIfInBounds (its.toArray.size - 1)=its.dropLast.toArray;rw [O4,gE,Qfg]
 ·rw [List.length_dropLast];omega
def Qsi:V->List V->Hp->VK->Prop:=fun x vs H Q=>∃ l xs i k y,x=.ref l/\vs=[.int i]/\H l=some (.lst xs)/\-(2 ^ 63)<=i/\i < 2 ^ 63/\seqIndex? i xs.length=some k/\xs[k]?=some y/\Q y (upd H l (.lst (xs.eraseIdx k)))
theorem Qkp:MtM X "list.pop" Qsi:=by
 intro pins s σ H x vs v us Q I J Y h;obtain ⟨l,xs,i,k,y,rfl,rfl,B,h1,h2,O,U,q⟩:=h;cases J;obtain ⟨u,rfl,G⟩:=Y.one;obtain ⟨t,rfl⟩:=G;obtain ⟨z,its,n,r,hl,e⟩:=I.lstM B;obtain ⟨w,Z,j⟩:=r.get U;refine au F.slot_list_pop ⟨_,e,rfl⟩ F.entry_list_pop (F.args_list_pop_2 _ _)
  (MeetsSeq.list_pop_at l its.toArray n i t k w (fitsIndex_both h1 h2) (by rw [O4,<- hl]; exact O) (by rw [<- gD]; exact Z) (by rw [O4]; omega)) ⟨e,?_⟩
 refine ⟨y,_,I.lset (its':=its.eraseIdx k) B e ?_ (r.eraseIdx k) ?_,j,q⟩
 ·show its.toArray.eraseIdxIfInBounds k=(its.eraseIdx k).toArray;rw [gE]
 ·have:=Qav xs k;omega
def Qz0:R2:=fun x y H Q=>∃ l b xs zs,x=.ref l/\y=.ref b/\H l=some (.lst xs)/\H b=some (.lst zs)/\xs.length + zs.length<=sizeLine/\∀ p,H p=none->Q (.ref p) (upd H p (.lst (xs ++ zs)))
theorem Qtf:OpR X (aY .Add) Qz0:=by
 intro pins s σ H x y v u Q I O Z h;obtain ⟨l,b,xs,zs,rfl,rfl,G,B,hz,q⟩:=h;cases O;cases Z;obtain ⟨z,its,n,r,hl,e⟩:=I.lstM G;obtain ⟨z2,j,n2,Y,J,e2⟩:=I.lstM B;refine PySem.P.add_list e e2 ?_ (by rw [O4,O4]; omega);have U:its.toArray ++ j.toArray=(its ++ j).toArray:=by simp
 rw [U];exact ⟨.ref _,_,I.lnew (t':=s.toks) (r.append Y) (by rw [O3]; omega),rfl,q _ I.fresh⟩
def Qyx:R2:=fun x y H Q=>∃ l k xs,x=.ref l/\y=.int k/\H l=some (.lst xs)/\-(2 ^ 63)<=k/\k < 2 ^ 63/\xs.length * k.toNat<=sizeLine /\
 ∀ p,H p=none->Q (.ref p) (upd H p (.lst (bT k.toNat xs).flatten))
theorem Qbz {α:Type} (xs:List α) (k:Nat):(bT k xs).flatten.length=k * xs.length:=by
 induction k with
 | zero=>simp
 | succ k j=>rw [cM,cW,O3,j,Nat.succ_mul,Nat.add_comm]
theorem Qta:OpR X (aY .Mult) Qyx:=by
 intro pins s σ H x y v u Q I rx ry h;obtain ⟨l,k,xs,rfl,rfl,hH,h1,h2,hz,q⟩:=h;cases rx;obtain ⟨t,rfl⟩:=ry;obtain ⟨z,its,n,r,hl,e⟩:=I.lstM hH;have B:its.toArray.size * k.toNat<=sizeLine:=by rw [O4,<- hl]; exact hz
 have J:¬ its.toArray.size * k.toNat > (2 ^ 63 - 1) / 8:=by
  have:(sizeLine:Nat)<=(2 ^ 63 - 1) / 8:=by decide
  omega
 have G:¬ (!Builtin.List.listFitsIndex k)=true:=by
  rw [fitsIndex_both h1 h2];exact E2
 have j:¬ Builtin.List.listTooLong (its.toArray.size * k.toNat)=true:=by
  rw [Qdh B];exact E2
 have O:dW (fun Z Y=>Z ++ Y) #[] (bT (if its.toArray.isEmpty=true then 0 else k.toNat) its.toArray)=(bT k.toNat its).flatten.toArray:=by
  have f0:∀ m:Nat,dW (fun Z Y=>Z ++ Y) #[] (bT m its.toArray)=(bT m its).flatten.toArray:=fun m=>by
   have:=Q58 its m [];rw [gF] at this;exact this
  rw [f0];cases its with
  | nil=>simp
  | cons a r'=>rw [bO (by simp)]
 refine wpAny_binaryOp_repeat_ref (T := "list") (U := "int") (by decide) ⟨_,e,rfl⟩ (fun s'=>typeIs_int s' k t) noFill_list_mul F.fills_int_mul F.slot_int_rmul repeat_list F.slot_int_index.lookup
  (au F.slot_int_rmul (typeIs_int s k t) F.entry_int_rmul (F.args_int_rmul_2 _ _) (int___rmul___int_list k t l its.toArray n)
   ⟨e,rfl,⟨_,e,rfl⟩,au F.slot_list_mul ⟨_,e,rfl⟩ F.entry_list_mul (F.args_list_mul_2 _ _) (AutoListH.list___mul___list_int_3 l its.toArray n k t G J j) ⟨e,?_⟩⟩)
 rw [O];exact ⟨.ref _,_,I.lnew (t':=s.toks) (r.rep k.toNat) (by rw [Qbz,ec]; exact hz),rfl,q _ I.fresh⟩
end
section
variable {prog:aO} {w:aM} {A:aR} {E:aB->aC->Prop} {s:aC}
end
section
variable {X:Cx}
end
end L2
namespace Att
open PySem PySem.W PySem.Calls PyProof.Rows
theorem Q63 {P:Params} {h:Heap}:∀ (ns:List Int) (vs:List aB),WellAll P h vs (ns.map WData.int)->IntsAre vs ns:=by
 intro ns
 induction ns with
 | nil=>
  intro vs w;rw [cp] at w;cases w;exact .nil
 | cons n ns j=>
  intro vs w;rw [F5] at w;cases w with
  | cons a b=>
   cases a;exact .cons _ _ (j _ b)
theorem Qh9 {l:OpenLaw} {n:Nat} (hn:l.most=some n) {P:Params} {h:Heap} {args:List WData} {j:List aB}
  (z:l.row.toRowW.claim.pre args=true) (U:WellAll P h j args) :
  ∃ a vs ns,j=[bV a]/\args=[WData.list (ns.map WData.int)]/\h.get? a=some { cls:=.type "list",data:=.seq vs.toArray }/\IntsAre vs ns/\ns.length<=n:=by
 have O:WShape.hasAll [] args [.list .int]=true:=(pre_splitW z).1;have Y:l.pre.holds [] { args:=args }=true:=(pre_splitW z).2;obtain ⟨d,r,rfl,h1,h2⟩:=hasAllW_cons O;obtain rfl:=hasAllW_nil h2;obtain ⟨xs,rfl,h3⟩:=hasW_list h1;obtain ⟨ns,rfl⟩:=items_int h3;have G:ns.length<=n:=by
  unfold OpenLaw.pre at Y;have J:(WTm.not (.lt (.lit (.int (n:Int))) (.len (.arg 0)))).holds [] { args:=[.list (ns.map .int)] }=true:=by
   have J:=(holds_andW Y).1;rw [hn] at J;exact J
  have I:=condW_of J (w_not (w_lt w_lit (w_len_list (w_arg rfl))));rw [O2] at I;refine Nat.le_of_not_lt fun q=>?_
  have q':(n:Int) < ((ns.length:Nat):Int):=by omega
  first
   | (rw [bQ q'] at I; exact absurd I (by decide))
   | (simp at I; omega)
 cases U with
 | cons w1 Z=>
  cases Z;cases w1 with
  | list ho B=>exact ⟨_,_,ns,rfl,rfl,ho,Q63 ns _ B,G⟩
theorem Qhh (l:OpenLaw) (args:List WData):l.row.toRowW.claim.post args (.bool true) args=true:=
 postW_of (r:=l.row.toRowW) (X:=(true == true))
  (show WShape.has [] (.bool true) .bool=true by first | rfl | decide | simp [WShape.has,WShape.arms,WShape.armsAll])
  (show (WTm.eq .res (.lit (.bool true))).value [] { args:=args,res:=some (.bool true),after:=args }=some (.bool (true == true)) from w_eq_bool (w_res rfl) w_lit) rfl
theorem attach_call {l:OpenLaw} {n:Nat} {q:aO} {z:List Str} {XP:(Str->Option aB)->Heap->Prop} {YP:aM->Heap->Prop} {d:DefRec}
  (hn:l.most=some n) (a2:d.params.defaults=[])
  (call:∀ (w:aM) (s₀ j:aC) (mg mb:Str->Option aB) (O:aA) (o:Obj) (pm cd I:aB) (a:aA) (vs:List aB) (ns:List Int),
   Ground q z [] XP w s₀ mg mb j.heap->YP w j.heap ->
   j.heap.get? O=some o->o.data=.func (docDef d.name d.params d.body d.scope pm cd I)->j.heap.CodeRec cd d.name->mg d.name=some (.ref O) ->
   j.heap.get? a=some { cls:=.type "list",data:=.seq vs.toArray }->IntsAre vs ns->ns.length<=n->j.gens=#[] ->
   codeAny (aJ l.prog w) callerA (.call (.ref O) ⟨[.ref a],[]⟩) (fun r s'=>r=.ok (.ret (.bool true))/\OldK j.heap s'.heap/\s'.os=j.os/\AllBare s'.gens) j) :
  WalkO q z XP YP l.row.toRowW d [] (fun f vs=>ee f vs):=by
 intro w s₀ j mg mb G Y O o pm cd I dV kV ho hd a5 hD a3 hg args a7 as Z a6 a8 a4 a9;obtain rfl:dV=.none:=Dflts.none hD a2;obtain rfl:kV=.none:=Dflts.noKw hD;obtain ⟨a,vs,ns,rfl,rfl,J,B,U⟩:=Qh9 hn Z a4;refine enter_call (bG (call w s₀ j mg mb O o pm cd I a vs ns G Y ho (fd_plain hd) a5 a3 J B U hg) fun r s' hq=>?_)
 obtain ⟨rfl,h2,h3,h4⟩:=hq;exact ⟨.inl ⟨.bool true,.bool true,[],rfl,fun _=>rfl,.bool true,Qhh l _,fun _=>⟨List.Pairwise.nil,fun _ hm=>(nomatch hm)⟩⟩,h2,h3,h4⟩
section
variable {prog:aO} {w:aM} {A:aR} {E:aB->aC->Prop} {s:aC} {K:Frag}
end
end Att
namespace L2
open PySem PySem.Spec PyProof.Rows
theorem Qa7:∀ {vs:List aB} {ns:List Int},IntsAre vs ns->Vals (ns.map V.int) vs
 | _,_,.nil=>.nil
 | _,_,.cons n t h=>.cons ⟨t,rfl⟩ (Qa7 h)
def Qui (H:Hp):Prop:=∀ b,H b=none\/∃ o xs,H b=some (.frz o (.lst xs))
theorem Qm0 {P:aO} {w:aM} {K:bS} {mg mb:Str->Option aB} {CX:CXT} {k:Nat} {fa a:aA} {fd:aQ} {x:Str} {sp:Sp} {j:aC} {vs:List aB} {ns:List Int}
  (KX:K.In j.heap) (a4:j.heap.Ns aV mg) (G:j.heap.Ns builtinsNs mb) (a7:∀ x:Str,x≠"__name__" -> mb x=ac x) (a3:j.heap.NoLimit) (hg:j.gens=#[])
  (ha:j.heap.get? a=some { cls:=.type "list",data:=.seq vs.toArray }) (hi:IntsAre vs ns) (hl:ns.length<=sizeLine) (hr:Room k callerA)
  (F:∀ base:Heap,K.In base->base.Ns aV mg->FnOk P w K mg base CX k fa fd [x] sp) (O:∀ (s:aC) (u:aB),BindsTo s fd ⟨[u],[]⟩ [(x,u)])
  (a9:∀ H:Hp,Qui H->SqL K H a (ns.map V.int)->sp [.ref a] H (fun v _=>v=.bl true) fun _ _ _=>False)
  (a8:∀ H e s',CX [] H j (fun _ _ _=>False) e s'->False) :
  codeAny (aJ P w) callerA (.call (.ref fa) ⟨[.ref a],[]⟩) (fun r s'=>r=.ok (.ret (.bool true))/\OldK j.heap s'.heap/\s'.os=j.os/\AllBare s'.gens) j:=by
 have rv:=Qa7 hi;have a2:=hi.length;have J:∀ H:Hp,Qui H->SqL K H a (ns.map V.int)->HOk P w H j.heap->(∀ b,H b≠none->b=a)->(H a≠none->K.lookup a=none) ->
   codeAny (aJ P w) callerA (.call (.ref fa) ⟨[.ref a],[]⟩) (fun r s'=>r=.ok (.ret (.bool true))/\OldK j.heap s'.heap/\s'.os=j.os/\AllBare s'.gens) j:=by
  intro H hO hS hok hA hK;have B:∀ {b:aA} {o:Obj},j.heap.get? b=some o->H b=none->(Qc6 j.heap H).get? b=some o:=fun e n=>Qm5 e n
  have a6:∀ {b:aA} {o:Obj} {es:Array DictEntry} {Y:Nat},j.heap.get? b=some o->o.data=.dict es Y->H b=none:=fun {b o es Y} e d=>by
   cases q:H b with
   | none=>rfl
   | some u=>
    have e':b=a:=hA b (by rw [q]; simp);subst e';rw [ha] at e; cases e;have d':Data.seq vs.toArray _=Data.dict es Y:=d;cases d'
  have I:∀ {b:aA} {m:Str->Option aB},j.heap.Ns b m->(Qc6 j.heap H).Ns b m:=fun {b m} ⟨o,es,Y,e,d,r⟩=>⟨o,es,Y,B e (a6 e d),d,r⟩
  have U:K.In (Qc6 j.heap H):=fun b o e=>B (KX b o e) (by
   cases q:H b with
   | none=>rfl
   | some u=>
    have e':b=a:=hA b (by rw [q]; simp);subst e';rw [hK (by rw [q]; simp)] at e; cases e)
  have hM:Mod K mg (Qc6 j.heap H):=⟨U,I a4,⟨mb,I G,a7⟩,let ⟨mc,h1,h2⟩:=a3; ⟨mc,I h1,h2⟩⟩;have e0:Env0 P w K mg (Qc6 j.heap H) callerA [] j H:=⟨rfl,hM,fun b o e=>Qq2 e,eN (Qib _ _),trivial,fun b G=>absurd (show b∈([]:List aA) from G) (by simp),hok,.of_eq hg⟩;refine bG ((F _ U (I a4)).run callerA [] j H ⟨[.ref a],[]⟩ [.ref a] [.ref a] _ _ hr e0 (O j (.ref a)) (.cons rfl .nil) (a9 H hO hS)) fun r s' h=>?_
  cases r with
  | error e=>exact (a8 H e s' h).elim
  | ok fl=>
   cases fl with
   | next=>exact False.elim h
   | brk=>exact False.elim h
   | cont=>exact False.elim h
   | ret u=>
    obtain ⟨v,H',os,bare,un,a5,r',q⟩:=h;have q':v=.bl true:=q;subst q';obtain rfl:u=cH true:=r';refine ⟨rfl,OldK.of_keep fun b o e=>?_,os,bare⟩;cases q:H b with
    | none=>exact un.keep b o e q (by intro z; exact absurd (show b∈([]:List aA) from z) (by simp)) (by simp)
    | some u=>
     rcases hO b with z | ⟨ob,xs,z⟩
     ·rw [q] at z; cases z
     ·have z2:=un.frzs b ob _ z;obtain ⟨e1,_⟩:=hok b _ z;obtain ⟨e2,_⟩:=a5 b _ z2;rw [e] at e1; cases e1;exact e2
 cases hk:K.lookup a with
 | some o=>
  have e:=KX a o hk;rw [ha] at e;cases e;refine J (fun _=>none) (fun _=>.inl rfl) (.inr ⟨_,vs.toArray,_,hk,rfl,rfl,rfl,by rw [O4,a2]; exact hl,by simpa using rv⟩) (fun b u z=>by have Z:(none:Option HO)=some u:=z; cases Z) (fun b z=>absurd rfl z) fun z=>absurd rfl z
 | none=>
  refine J (fun b=>if b=a then some (.frz { cls:=.type "list",data:=.seq vs.toArray } (.lst (ns.map V.int))) else none) (fun b=>?_) (.inl (.inr ⟨{ cls:=.type "list",data:=.seq vs.toArray },bN rfl⟩)) (fun b u z=>?_) (fun b z=>?_) fun _=>hk
  ·by_cases G:b=a
   ·exact .inr ⟨_,_,bN G⟩
   ·exact .inl (bO G)
  ·by_cases G:b=a
   ·have Z:=(bN G).symm.trans z;cases Z;subst G;exact ⟨ha,by rw [O2]; exact hl,vs,_,rv,ha⟩
   ·have Z:=(bO G).symm.trans z;cases Z
  ·by_cases G:b=a
   ·exact G
   ·exact absurd (bO G) z
theorem walk_of {l:ek} {n k:Nat} {q:aO} {B:List Str} {XP:(Str->Option aB)->Heap->Prop} {YP:aM->Heap->Prop} {d:DefRec} {K:Params->bS} {CX:aM->CXT} {sp:aM->Sp} {x:Str}
  (hn:l.most=some n) (a4:n<=sizeLine) (U:d.params.defaults=[]) (hr:Room k callerA)
  (hY:∀ (w:aM) (h:Heap),YP w h->(K w.params).In h)
  (F:∀ (w:aM) (mg:Str->Option aB) (O:aA) (h:Heap),(K w.params).In h->h.Ns aV mg->mg d.name=some (.ref O) ->
   ∃ fd:aQ,(∀ (s:aC) (u:aB),BindsTo s fd ⟨[u],[]⟩ [(x,u)]) /\
    ∀ base:Heap,(K w.params).In base->base.Ns aV mg->FnOk l.prog w (K w.params) mg base (CX w) k O fd [x] (sp w))
  (a3:∀ (w:aM) (H:Hp) (a:aA) (ns:List Int),ns.length<=n->Qui H->SqL (K w.params) H a (ns.map V.int)->sp w [.ref a] H (fun v _=>v=.bl true) fun _ _ _=>False)
  (Z:∀ (w:aM) (H:Hp) (s:aC) (e:aB) (s':aC),CX w [] H s (fun _ _ _=>False) e s'->False) :
  gG q B XP YP l.row.toRowW d [] (fun f vs=>ee f vs):=by
 refine Att.attach_call hn U fun w s₀ I mg mb O o pm cd a5 a vs ns G Y ho hd a6 a2 J z j hg=>?_
 have KX:=hY w _ Y;obtain ⟨fd,hb,hF⟩:=F w mg O _ KX G.T.g a2;exact Qm0 KX G.T.g G.T.b G.T.builtins G.T.nolimit hg J z (F3 j a4) hr hF hb (fun H hO hS=>a3 w H a ns j hO hS) fun H e s'=>Z w H I e s'
def Xv (s:aL) (j:Nat):aL:=match s with
 | .ClassDef _ _ _ body _ _ _ _ _ _ _=>body.getD j (.Pass ⟨0,0,0,0⟩)
 | _=>.Pass ⟨0,0,0,0⟩
def Yn (s:aL):Arguments:=match s with
 | .FunctionDef _ a _ _ _ _ _ _ _ _=>a
 | _=>{ posonlyargs:=[],args:=[],vararg:=none,kwonlyargs:=[],kw_defaults:=[],kwarg:=none,defaults:=[] }
def Jx (s:aL):List aL:=match s with
 | .FunctionDef _ _ b _ _ _ _ _ _ _=>b
 | _=>[]
def Q8 (s:aL):Scope:=match s with
 | .FunctionDef _ _ _ _ _ _ sc _ _ _=>sc
 | _=>{ kind:=.function,names:=[],isGenerator:=false,isCoroutine:=false }
abbrev CX0:CXT:=fun _ _ _ _ _ _=>False
abbrev E0:XK:=fun _ _ _=>False
structure Fun (K:bS) (x qual:Str) (st:aL) (f:aA) (fd:aQ):Prop where
 ex:∃ (oc:aB) (od:Option aA) (kV doc pm:aB) (an:Option aA) (cdv ct:aB) (osl:Array (Option aB)),
  fd=ba x qual (Yn st) (Jx st) (Q8 st) .none kV doc pm an cdv ct/\K.lookup f=some ⟨oc,od,.func fd,osl⟩/\bh K cdv qual=true
 kp:bZ K (.ref f)=true
section
variable {P:aO} {w:aM} {K:bS} {mg:Str->Option aB} {base:Heap}
theorem Fun.ok {x qual:Str} {st:aL} {f:aA} {fd:aQ} {N ps:List Str} {k:Nat} {sp:Sp} (F:Fun K x qual st f fd) (S:FnScope N ps (Q8 st)) (len:∀ vs H Q E,sp vs H Q E->vs.length=ps.length)
  (z:∀ (j:aB) (A:aR) (outer:List Env) (s:aC) (H:Hp) (vs:List V) (Q:VK) (E:XK),Room k (A.deeper (envOfC qual (Q8 st) s.heap.objs.size f j))->sp vs H Q E ->
   ∃ t,PSs (Qfi CX0 P w K mg base N qual (Q8 st) f j A outer s H E).nox (Jx st) t/\t { nx:=fun _ H'=>Q .non H',rt:=Q } (start N vs) H):FnOk P w K mg base CX0 (k + 1) f fd ps sp:=by
 obtain ⟨Z,Y,kV,O,U,an,j,ct,I,rfl,lk,B⟩:=F.ex;refine Qru lk B S len fun A outer s H vs Q E J G=>?_
 obtain ⟨t,h,q⟩:=z j A outer s H vs Q E J G;exact ⟨t,h.nox,q⟩
theorem Fun.binds {x qual:Str} {st:aL} {f:aA} {fd:aQ} {ps:List Str} (F:Fun K x qual st f fd)
  (h:∀ (kV q z:aB) (an:Option aA) (j ct:aB) (us:List aB),us.length=ps.length->bindArgs (ba x qual (Yn st) (Jx st) (Q8 st) .none kV q z an j ct) ⟨us,[]⟩=pure (ps.zip us)):Binds K fd ps []:=by
 obtain ⟨J,I,kV,q,z,an,j,ct,B,rfl,lk,G⟩:=F.ex;exact .all (h kV q z an j ct)
theorem Xw {x qual:Str} {st:aL} {f:aA} {I:aB} {G an:Option aA} {z:Array (Option aB)} {kV q B j ct:aB} (l:K.lookup f=some ⟨I,G,.func (ba x qual (Yn st) (Jx st) (Q8 st) .none kV q B an j ct),z⟩)
  (c:bh K j qual=true) (k:bZ K (.ref f)=true):Fun K x qual st f (ba x qual (Yn st) (Jx st) (Q8 st) .none kV q B an j ct):=⟨⟨I,G,kV,q,B,an,j,ct,z,rfl,l,c⟩,k⟩
end
section
variable {X:Cx}
theorem pv (i:Nat) {x:Str} {pos:Pos} (q:X.N[i]?=some x:=by rfl) (z:Vis X.env.scope x:=by first | exact Or.inl rfl | exact Or.inr (Or.inl rfl) | exact Or.inr (Or.inr rfl)) (hd:(x == ("__debug__" : Str))=false:=by decide)
  (j:(x == ("__classdict__" : Str))=false:=by decide):PE X (.Name x pos) (Qs7 i):=Qk5 q z hd j
end
def Same (H H':Hp):Prop:=∀ b o,H b=some o->H' b=some o
theorem Same.refl (H:Hp):Same H H:=fun _ _ h=>h
section
variable {X:Cx} {tg:aD}
end
theorem Qfj {scope:Scope} {env:Env} (h:∀ x∈scope.names,x.2=.free->∃ c,env.cells.lookup x.1=some c) :
  ∃ cl,closureFor scope env=pure cl/\(∀ x c,cl.lookup x=some c->env.cells.lookup x=some c)/\(∀ x∈scope.names,x.2=.free->∃ c,cl.lookup x.1=some c):=by
 have Z:∀ (l:List (Str × ao)) (j:List (Str × aA)),(∀ x∈l,x.2=.free->∃ c,env.cells.lookup x.1=some c)->(∀ x c,j.lookup x=some c->env.cells.lookup x=some c) ->
   ∃ cl,(forIn l j fun (x:Str × ao) (r:List (Str × aA))=>(match x with
    | (name,kind)=>if (kind == NameKind.free)=true then (do let c <- cellOf env name; pure (ForInStep.yield ((name,c) :: r))) else (do pure PUnit.unit; pure (ForInStep.yield r)):Sem (ForInStep (List (Str × aA)))))=pure cl /\
    (∀ x c,cl.lookup x=some c->env.cells.lookup x=some c)/\(∀ x∈l,x.2=.free->∃ c,cl.lookup x.1=some c)/\(∀ x c,j.lookup x=some c->∃ B,cl.lookup x=some B):=by
  intro l
  induction l with
  | nil=>intro j _ U; exact ⟨j,rfl,U,fun x O=>(by simp at O),fun x c e=>⟨c,e⟩⟩
  | cons x r ih=>
   intro j hl U;obtain ⟨n,k⟩:=x
   by_cases Y:k=.free
   ·subst Y;obtain ⟨c,hc⟩:=hl (n,.free) D3 rfl;have a2:∀ x B,((n,c) :: j).lookup x=some B->env.cells.lookup x=some B:=fun x B e=>by
     rw [E6] at e
     by_cases O:x=n
     ·subst O; simp at e; rw [<- e]; exact hc
     ·have:(x == n)=false:=by simpa using O
      rw [this] at e; exact U x B e
    obtain ⟨cl,e1,e2,e3,I⟩:=ih ((n,c) :: j) (fun y q=>hl y (D0 _ q)) a2
    refine ⟨cl,?_,e2,fun y q J=>?_,fun y B e=>?_⟩
    ·rw [dY];have G:cellOf env n=pure c:=by unfold cellOf; rw [hc]
     simp only [beq_self_eq_true,if_true,G];exact e1
    ·rcases D8.mp q with e | q
     ·subst e;exact I n c (by simp)
     ·exact e3 y q J
    ·by_cases q:y=n
     ·subst q; exact I y c (by simp)
     ·have:(y == n)=false:=by simpa using q
      exact I y B (by rw [E6,this]; exact e)
   ·obtain ⟨cl,e1,e2,e3,I⟩:=ih j (fun y q=>hl y (D0 _ q)) U
    refine ⟨cl,?_,e2,fun y q J=>?_,I⟩
    ·rw [dY];have:(k == NameKind.free)=false:=by simpa using Y
     simp only [this,gH,if_false];exact e1
    ·rcases D8.mp q with e | q
     ·subst e; exact absurd J Y
     ·exact e3 y q J
 obtain ⟨cl,e1,e2,e3,_⟩:=Z scope.names [] h (fun x c e=>by simp at e);refine ⟨cl,?_,e2,e3⟩;unfold closureFor;exact (congrArg (fun z=>z >>= pure) e1).trans rfl
theorem Q3x (f:Str->ao->ao) (x:Str):∀ l:List (Str × ao),(l.map fun y=>(y.1,f y.1 y.2)).lookup x=(l.lookup x).map (f x)
 | []=>rfl
 | (n,k) :: r=>by
  have q:=Q3x f x r;rw [F5,E6,E6]
  by_cases j:x=n
  ·subst j; simp
  ·have z:(x == n)=false:=by simpa using j
   rw [z]; exact q
theorem Q19 {scope:Scope} {env:Env} {x:Str}:(relabel scope env).names.lookup x =
  (scope.names.lookup x).map fun k=>if (k == .free && env.scope.kind == .function && env.kindOf x == some .cell) then .cell else k:=by
 rw [<- Q3x (fun n k=>if (k == .free && env.scope.kind == .function && env.kindOf n == some .cell) then .cell else k)]
 unfold relabel;refine congrArg (cB x) (eu fun y _=>?_);obtain ⟨n,k⟩:=y;show (if (k == NameKind.free && env.scope.kind == .function && env.kindOf n == some .cell)=true then (n,NameKind.cell) else (n,k))=_
 split <;> rfl
def Q43 (cap:List (Option Nat)) (σ:St):St:=cap.map fun c=>c.bind fun j=>(σ[j]?).join
section
variable {prog:aO} {w:aM} {A:aR} {R:Result->aC->Prop} {s:aC}
end
section
variable {X:Cx}
theorem HOk.same {P:aO} {w:aM} {H:Hp} {h h':Heap} {a:aA} (ok:HOk P w H h) (z:H a=none) (hs:Heap.SameBut a h h'):HOk P w H h':=fun b ob e=>by
 refine (ok b ob e).stay (fun c B j q=>(hs.2 c ?_).trans q) (fun _ q=>q) fun _ _ q=>q
 rintro rfl;rcases j with rfl | j
 ·rw [z] at e; cases e
 ·rw [z] at j; cases j
end
def HasItems (t:Bool) (h:Heap) (a:aA) (items:Array aB):Prop:=if t=true then h.IsTuple a items else h.IsList a items
def IterAt (t:Bool) (h:Heap) (it a:aA) (i:Nat):Prop:=if t=true then h.IsTupleIter it a i else h.IsListIter it a i
theorem HasItems.at {t:Bool} {h h':Heap} {a:aA} {j:Array aB} (x:HasItems t h a j) (k:∀ o,h.get? a=some o->h'.get? a=some o):HasItems t h' a j:=by
 cases t
 ·exact Heap.IsList.at x k
 ·obtain ⟨o,e,r⟩:=x;exact ⟨o,k o e,r⟩
theorem HasItems.there {t:Bool} {h:Heap} {a:aA} {j:Array aB} (x:HasItems t h a j):∃ o,h.get? a=some o:=by
 cases t
 ·obtain ⟨o,e,_⟩:=x; exact ⟨o,e⟩
 ·obtain ⟨o,e,_⟩:=x; exact ⟨o,e⟩
theorem IterAt.at {t:Bool} {h h':Heap} {j a:aA} {i:Nat} (x:IterAt t h j a i) (k:∀ o,h.get? j=some o->h'.get? j=some o):IterAt t h' j a i:=by
 cases t
 ·exact Heap.IsListIter.at x k
 ·obtain ⟨o,e,r⟩:=x;exact ⟨o,k o e,r⟩
theorem IterAt.there {t:Bool} {h:Heap} {j a:aA} {i:Nat} (x:IterAt t h j a i):∃ o,h.get? j=some o/\∀ v,o.data≠.cell v:=by
 cases t
 ·obtain ⟨o,e,_,d⟩:=x; exact ⟨o,e,fun v z=>by rw [d] at z; cases z⟩
 ·obtain ⟨o,e,_,d⟩:=x; exact ⟨o,e,fun v z=>by rw [d] at z; cases z⟩
section
variable {prog:aO} {w:aM} {A:aR} {E:aB->aC->Prop} {s:aC}
theorem Q3t {q l:aA} {i:Nat} {items} {x:aB} {Q:aB->aC->Prop} (j:s.heap.IsTupleIter q l i)
  (O:s.heap.IsTuple l items) (J:items[i]?=some x)
  (U:∀ h',h'.IsTupleIter q l (i + 1)->Heap.SameBut q s.heap h'->Q x { s with heap:=h' }) :
  aI (aJ prog w) A (Builtin.SmallTypes.nextOf (.ref q)) Q E s:=by
 obtain ⟨o,z,I,hd⟩:=id j;obtain ⟨Y,B,_,nl,G⟩:=O;unfold Builtin.SmallTypes.nextOf;refine aF (wpAny_callSpecial?_slot (name:=bR "__next__") j.typeIs F.slot_tuple_iterator_next
  (bH F.slot_tuple_iterator_next j.typeIs F.entry_tuple_iterator_next ?_ (F.args_tuple_iterator_next_1 _)))
 show aI _ _ (field (.ref q) 0 >>= _) _ _ s;refine aF (aa z hd (x:=.ref l) rfl ?_);show aI _ _ (if (bV l == bf)=true then _ else _) _ _ s;rw [bO (show ¬ ((bV l == bf)=true) from E2)];show aI _ _ (field (.ref q) 1 >>= _) _ _ s;refine aF (aa z hd (x:=.int i 0) rfl ?_);show aI _ _ (seqItems? (.ref l) >>= _) _ _ s;refine aF (ay B G ?_);simp only [cE,J];refine aF (wpAny_setField z hd (by simp) (aU ⟨x,rfl,aU (U _ ?_ (Heap.SameBut.update ..))⟩));exact ⟨_,L6 _ z (dD (cF hd _)),(ez ..).trans I,by
  rw [cF hd]; simp [ag]⟩
theorem Q4z {q l:aA} {i:Nat} {items} {Q:aB->aC->Prop} (I:A.handled=none)
  (j:s.heap.IsTupleIter q l i) (U:s.heap.IsTuple l items) (O:items[i]?=none)
  (J:∀ h' e,Heap.ExtBut q s.heap h'->(∃ o,h'.get? e=some o/\o.cls=.type "StopIteration")->E (.ref e) { s with heap:=h' }) :
  aI (aJ prog w) A (Builtin.SmallTypes.nextOf (.ref q)) Q E s:=by
 obtain ⟨o,B,Y,hd⟩:=id j;obtain ⟨Z,z,_,nl,G⟩:=U;unfold Builtin.SmallTypes.nextOf;refine aF (wpAny_callSpecial?_slot (name:=bR "__next__") j.typeIs F.slot_tuple_iterator_next
  (bH F.slot_tuple_iterator_next j.typeIs F.entry_tuple_iterator_next ?_ (F.args_tuple_iterator_next_1 _)))
 show aI _ _ (field (.ref q) 0 >>= _) _ _ s;refine aF (aa B hd (x:=.ref l) rfl ?_);show aI _ _ (if (bV l == bf)=true then _ else _) _ _ s;rw [bO (show ¬ ((bV l == bf)=true) from E2)];show aI _ _ (field (.ref q) 1 >>= _) _ _ s;refine aF (aa B hd (x:=.int i 0) rfl ?_);show aI _ _ (seqItems? (.ref l) >>= _) _ _ s;refine aF (ay z G ?_);simp only [cE,O];refine aF (bK (aF (wpAny_setField B hd (by simp) ?_)));show aI _ _ (newExc (.type "StopIteration") [] >>= _) _ _ _;refine aF ?_;simp only [newExc,newTuple];refine aF (av ?_ (by size_fits));refine aF (m:=firstArgMember _ _) (wpAny_of_eq (a:=bf) (by first | rfl | (simp only [firstArgMember]; rfl)) ?_);refine av ?_ (by size_fits);simp only [raiseNew]
 refine aF (wpAny_handled ?_)
 first | rw [show A.in1.handled=none from I] | rw [I]
 refine aF (aU (wpAny_throw ?_));exact J _ _ (((Heap.SameBut.update ..).extBut.push _).push _) ⟨_,D9 _ rfl,rfl⟩
theorem Q1e {t:Bool} {z l:aA} {i:Nat} {j:Array aB} {x:aB} {Q:aB->aC->Prop} (q:IterAt t s.heap z l i)
  (G:HasItems t s.heap l j) (B:j[i]?=some x)
  (I:∀ h',IterAt t h' z l (i + 1)->Heap.SameBut z s.heap h'->Q x { s with heap:=h' }) :
  aI (aJ prog w) A (Builtin.SmallTypes.nextOf (.ref z)) Q E s:=by
 cases t
 ·exact wpAny_nextOf_list_item q G B I
 ·exact Q3t q G B I
theorem Q7u {t:Bool} {z l:aA} {i:Nat} {j:Array aB} {Q:aB->aC->Prop} (B:A.handled=none)
  (q:IterAt t s.heap z l i) (J:HasItems t s.heap l j) (I:j[i]?=none)
  (G:∀ h' e,Heap.ExtBut z s.heap h'->(∃ o,h'.get? e=some o/\o.cls=.type "StopIteration")->E (.ref e) { s with heap:=h' }) :
  aI (aJ prog w) A (Builtin.SmallTypes.nextOf (.ref z)) Q E s:=by
 cases t
 ·exact wpAny_nextOf_list_end B q J I G
 ·exact Q4z B q J I G
def Xu (t:Bool) (l:aA):Obj:=if t=true then { cls:=.type "tuple_iterator",data:=.fields #[.ref l,.int 0 0] } else { cls:=.type "list_iterator",data:=.fields #[.ref l,.int 0 0] }
theorem X6 {t:Bool} {l:aA} {j:Array aB} {Q:aB->aC->Prop} (z:HasItems t s.heap l j)
  (q:Q (.ref s.heap.objs.size) { s with heap:=s.heap.push (Xu t l) }):aI (aJ prog w) A (pyIter (.ref l)) Q E s:=by
 cases t
 ·exact wpAny_pyIter_list z q
 ·exact bL z q
theorem Q35 {t:Bool} {h:Heap} {j l:aA} (e:h.get? j=some (Xu t l)):IterAt t h j l 0:=by
 cases t
 ·exact ⟨_,e,rfl,rfl⟩
 ·exact ⟨_,e,rfl,rfl⟩
theorem Q0q (t:Bool) (l:aA):(Xu t l).isFreed=false:=by cases t <;> rfl
theorem Qh2 {t1 t2:Bool} {z TI TO i1 i2 l1 l2:aA} {k1 k2:Nat} {xs ys:Array aB} {x y a b:aB} {Q:aB->aC->Prop} (D:ZipApart z TI TO i1 i2 l1 l2)
  (hz:IsZip s.heap z TI TO .none) (c8:aZ s.heap TI (.ref i1) (.ref i2)) (d1:aZ s.heap TO a b)
  (h1:IterAt t1 s.heap i1 l1 k1) (h2:IterAt t2 s.heap i2 l2 k2) (c9:HasItems t1 s.heap l1 xs) (d0:HasItems t2 s.heap l2 ys) (hx:xs[k1]?=some x) (hy:ys[k2]?=some y)
  (hQ:∀ h',IsZip h' z TI TO (ag s.heap.objs.size)->aZ h' TO x y->IterAt t1 h' i1 l1 (k1 + 1)->IterAt t2 h' i2 l2 (k2 + 1)->aZ h' s.heap.objs.size x y->h'.objs.size=s.heap.objs.size + 1 ->
   (∀ c o,c≠z->c≠TO->c≠i1->c≠i2->s.heap.get? c=some o->h'.get? c=some o)->Q (.ref s.heap.objs.size) { s with heap:=h' }) :
  aI (aJ prog w) A (Builtin.«zip.__next__» ⟨[.ref z],[]⟩) (fun fin s'=>∃ v,fin=.done (.ret v)/\Q v s') E s:=by
 show aI _ _ (field (.ref z) 2 >>= _) _ _ _;refine aF (aa hz rfl (x:=.bool false) rfl ?_);show aI _ _ (field (.ref z) 3 >>= _) _ _ _;refine aF (aa hz rfl (x:=.ref TI) rfl ?_);refine aF (ay c8 rfl ?_);show aI _ _ (Builtin.SmallTypes.ownedTupleIsFree (.ref z) >>= _) _ _ _;refine aF ?_;unfold Builtin.SmallTypes.ownedTupleIsFree;refine aF (aa hz rfl (x:=.none) rfl (aU ?_));simp only [if_true];refine aF (bK ?_);refine aF (aa hz rfl (x:=.ref TO) rfl ?_);refine aF (bI hz (by simp) fun b9 a5 q=>?_)
 replace a5:IsZip b9 z TI TO .ellipsis:=a5;refine aF ?_;simp only [gI,gJ,dY,fC];refine aF (aF (wpAny_onRaise ?_));show aI _ _ (Builtin.SmallTypes.nextOf (.ref i1) >>= _) _ _ _;refine aF (Q1e (h1.at fun o e=>q.extBut _ _ D.i1z e) (c9.at fun o e=>q.extBut _ _ D.l1z e) hx fun c7 b1 G=>aU ?_)
 have a6:aZ c7 TO a b:=G.extBut _ _ D.TOi1 (q.extBut _ _ D.TOz d1);refine aF (ay a6 rfl ?_);refine aF (wpAny_updateSeq_pair a6 fun c6 U B=>?_);replace U:aZ c6 TO x b:=U;refine aF (wpAny_letGo (aU ?_));refine aF (aF (wpAny_onRaise ?_));show aI _ _ (Builtin.SmallTypes.nextOf (.ref i2) >>= _) _ _ _;refine aF (Q1e (h2.at fun o e=>B.extBut _ _ D.TOi2.symm (G.extBut _ _ D.i12.symm (q.extBut _ _ D.i2z e)))
  (d0.at fun o e=>B.extBut _ _ D.l2TO (G.extBut _ _ D.l2i1 (q.extBut _ _ D.l2z e))) hy fun b7 b2 O=>aU ?_)
 have a7:aZ b7 TO x b:=O.extBut _ _ D.TOi2 U;refine aF (ay a7 rfl ?_);refine aF (wpAny_updateSeq_pair a7 fun j I J=>?_);replace I:aZ j TO x y:=I;refine aF (wpAny_letGo (aU (aU ?_)));refine aF (ay I rfl ?_);refine aF (wpAny_newTuple ?_);have c5:j.objs.size=s.heap.objs.size:=by rw [J.1,O.1,B.1,G.1,q.1]
 have a9:IsZip j z TI TO .ellipsis:=J.extBut _ _ D.TOz.symm (O.extBut _ _ D.i2z.symm (B.extBut _ _ D.TOz.symm (G.extBut _ _ D.i1z.symm a5)));have b6:∀ c o,c≠z->c≠TO->c≠i1->c≠i2->s.heap.get? c=some o->j.get? c=some o:=fun c o c1 c2 c3 c4 e=>
  J.extBut _ _ c2 (O.extBut _ _ c4 (B.extBut _ _ c2 (G.extBut _ _ c3 (q.extBut _ _ c1 e))))
 have b3:IterAt t1 j i1 l1 (k1 + 1):=b1.at fun o e=>J.extBut _ _ D.TOi1.symm (O.extBut _ _ D.i12 (B.extBut _ _ D.TOi1.symm e))
 have b4:IterAt t2 j i2 l2 (k2 + 1):=b2.at fun o e=>J.extBut _ _ D.TOi2.symm e
 have b0:z < j.objs.size:=D1 a9;show aI _ _ (Builtin.SmallTypes.ownedTupleHandOut (.ref z) (.ref j.objs.size) >>= _) _ _ _;refine aF ?_;unfold Builtin.SmallTypes.ownedTupleHandOut;have b5:IsZip (j.push { cls:=.type "tuple",data:=.seq #[x,y] }) z TI TO .ellipsis:=O1 _ a9;refine aF (bI b5 (by simp) fun b8 a3 a2=>?_)
 replace a3:IsZip b8 z TI TO (ag j.objs.size):=a3;refine bI a3 (by simp) fun Z Y a4=>?_
 replace Y:IsZip Z z TI TO (ag j.objs.size):=Y;have up:∀ c o,c≠z->j.get? c=some o->Z.get? c=some o:=fun c o c1 e=>a4.extBut _ _ c1 (a2.extBut _ _ c1 (O1 _ e))
 have a8:aZ Z j.objs.size x y:=a4.extBut _ _ (cK b0) (a2.extBut _ _ (cK b0) (D9 _ rfl));have c0:Z.objs.size=j.objs.size + 1:=by rw [a4.1,a2.1,F9]
 rw [c5] at Y a8 c0;refine aU ⟨_,rfl,?_⟩;show Q (.ref j.objs.size) _;rw [c5];exact hQ Z Y (up _ _ D.TOz I) (b3.at fun o e=>up _ o D.i1z e) (b4.at fun o e=>up _ o D.i2z e) a8 c0 fun c o c1 c2 c3 c4 e=>up c o c1 (b6 c o c1 c2 c3 c4 e)
theorem Qj3 {t1 t2:Bool} {z TI TO i1 i2 l1 l2:aA} {k1 k2:Nat} {xs ys:Array aB} {a b:aB} {Q:Fin->aC->Prop} (hh:A.handled=none) (D:ZipApart z TI TO i1 i2 l1 l2)
  (hz:IsZip s.heap z TI TO .none) (b3:aZ s.heap TI (.ref i1) (.ref i2)) (b5:aZ s.heap TO a b)
  (h1:IterAt t1 s.heap i1 l1 k1) (h2:IterAt t2 s.heap i2 l2 k2) (a9:HasItems t1 s.heap l1 xs) (b4:HasItems t2 s.heap l2 ys) (a7:xs[k1]?=none\/ys[k2]?=none)
  (hE:∀ h' e,(∀ c o,c≠z->c≠TO->c≠i1->c≠i2->s.heap.get? c=some o->h'.get? c=some o)->(∃ o,h'.get? e=some o/\o.cls=.type "StopIteration")->E (.ref e) { s with heap:=h' }) :
  aI (aJ prog w) A (Builtin.«zip.__next__» ⟨[.ref z],[]⟩) Q E s:=by
 show aI _ _ (field (.ref z) 2 >>= _) _ _ _;refine aF (aa hz rfl (x:=.bool false) rfl ?_);show aI _ _ (field (.ref z) 3 >>= _) _ _ _;refine aF (aa hz rfl (x:=.ref TI) rfl ?_);refine aF (ay b3 rfl ?_);show aI _ _ (Builtin.SmallTypes.ownedTupleIsFree (.ref z) >>= _) _ _ _;refine aF ?_;unfold Builtin.SmallTypes.ownedTupleIsFree;refine aF (aa hz rfl (x:=.none) rfl (aU ?_));simp only [if_true];refine aF (bK ?_);refine aF (aa hz rfl (x:=.ref TO) rfl ?_);refine aF (bI hz (by simp) fun a8 G j=>?_)
 replace G:IsZip a8 z TI TO .ellipsis:=G;refine aF ?_;simp only [gI,gJ,dY,fC];refine aF (aF (wpAny_onRaise ?_));show aI _ _ (Builtin.SmallTypes.nextOf (.ref i1) >>= _) _ _ _;cases hx:xs[k1]? with
 | none=>
  refine aF (Q7u hh (h1.at fun o e=>j.extBut _ _ D.i1z e) (a9.at fun o e=>j.extBut _ _ D.l1z e) hx fun a3 e q he=>?_)
  obtain ⟨oe,I,Z⟩:=he;have a2:IsZip a3 z TI TO .ellipsis:=q _ _ D.i1z.symm G;have a5:e≠z:=fun x=>by subst x; rw [a2] at I; cases I; simp at Z
  refine bI a2 (by simp) fun a4 _ B=>hE a4 e (fun c o c1 _ c3 _ x=>B.extBut _ _ c1 (q _ _ c3 (j.extBut _ _ c1 x))) ⟨oe,B.extBut _ _ a5 I,Z⟩
 | some x=>
  have hy:ys[k2]?=none:=by rcases a7 with h | h; rw [hx] at h; cases h; exact h
  refine aF (Q1e (h1.at fun o e=>j.extBut _ _ D.i1z e) (a9.at fun o e=>j.extBut _ _ D.l1z e) hx fun a3 b2 q=>aU ?_)
  have J:aZ a3 TO a b:=q.extBut _ _ D.TOi1 (j.extBut _ _ D.TOz b5);refine aF (ay J rfl ?_);refine aF (wpAny_updateSeq_pair J fun a4 b1 B=>?_);refine aF (wpAny_letGo (aU ?_));refine aF (aF (wpAny_onRaise ?_));show aI _ _ (Builtin.SmallTypes.nextOf (.ref i2) >>= _) _ _ _;refine aF (Q7u hh (h2.at fun o e=>B.extBut _ _ D.TOi2.symm (q.extBut _ _ D.i12.symm (j.extBut _ _ D.i2z e)))
   (b4.at fun o e=>B.extBut _ _ D.l2TO (q.extBut _ _ D.l2i1 (j.extBut _ _ D.l2z e))) hy fun a6 e Y he=>?_)
  obtain ⟨oe,I,Z⟩:=he;have U:IsZip a6 z TI TO .ellipsis:=Y _ _ D.i2z.symm (B.extBut _ _ D.TOz.symm (q.extBut _ _ D.i1z.symm G));have a5:e≠z:=fun x=>by subst x; rw [U] at I; cases I; simp at Z
  refine bI U (by simp) fun b0 _ O=>hE b0 e (fun c o c1 c2 c3 c4 x=>O.extBut _ _ c1 (Y _ _ c4 (B.extBut _ _ c2 (q.extBut _ _ c3 (j.extBut _ _ c1 x))))) ⟨oe,O.extBut _ _ a5 I,Z⟩
theorem Q7t {t1 t2:Bool} {z TI TO j q B G:aA} {k1 k2:Nat} {xs ys:Array aB} {x y a b:aB} {Q:Option aB->aC->Prop} (D:ZipApart z TI TO j q B G)
  (hz:IsZip s.heap z TI TO .none) (I:aZ s.heap TI (.ref j) (.ref q)) (U:aZ s.heap TO a b)
  (h1:IterAt t1 s.heap j B k1) (h2:IterAt t2 s.heap q G k2) (J:HasItems t1 s.heap B xs) (O:HasItems t2 s.heap G ys) (hx:xs[k1]?=some x) (hy:ys[k2]?=some y)
  (hQ:∀ h',IsZip h' z TI TO (ag s.heap.objs.size)->aZ h' TO x y->IterAt t1 h' j B (k1 + 1)->IterAt t2 h' q G (k2 + 1)->aZ h' s.heap.objs.size x y->h'.objs.size=s.heap.objs.size + 1 ->
   (∀ c o,c≠z->c≠TO->c≠j->c≠q->s.heap.get? c=some o->h'.get? c=some o)->Q (some (.ref s.heap.objs.size)) { s with heap:=h' }) :
  aI (aJ prog w) A (bB (.ref z)) Q E s:=by
 have Y:s.TypeIs (.ref z) "zip" := ⟨_,hz,rfl⟩;unfold bB;exact aF (wpAny_attempt (wpAny_callSpecial?_slot (name:=bR "__next__") Y F.slot_zip_next
  (bH F.slot_zip_next Y F.entry_zip_next
   (Qh2 D hz I U h1 h2 J O hx hy fun h' a1 a2 a3 Z a5 a6 a7=>aU (hQ h' a1 a2 a3 Z a5 a6 a7)) (F.args_zip_next_1 _))))
theorem Q9y {t1 t2:Bool} {z TI TO q B G U:aA} {k1 k2:Nat} {xs ys:Array aB} {a b:aB} {Q:Option aB->aC->Prop} (hh:A.handled=none) (D:ZipApart z TI TO q B G U)
  (hz:IsZip s.heap z TI TO .none) (I:aZ s.heap TI (.ref q) (.ref B)) (Y:aZ s.heap TO a b)
  (h1:IterAt t1 s.heap q G k1) (h2:IterAt t2 s.heap B U k2) (J:HasItems t1 s.heap G xs) (O:HasItems t2 s.heap U ys) (j:xs[k1]?=none\/ys[k2]?=none)
  (hQ:∀ h',(∀ c o,c≠z->c≠TO->c≠q->c≠B->s.heap.get? c=some o->h'.get? c=some o)->Q none { s with heap:=h' }):aI (aJ prog w) A (bB (.ref z)) Q E s:=by
 have Z:s.TypeIs (.ref z) "zip" := ⟨_,hz,rfl⟩;unfold bB;refine aF (wpAny_attempt (wpAny_callSpecial?_slot (name:=bR "__next__") Z F.slot_zip_next
  (bH F.slot_zip_next Z F.entry_zip_next (Qj3 hh D hz I Y h1 h2 J O j fun h' e hk he=>?_) (F.args_zip_next_1 _))))
 obtain ⟨o,ho,hc⟩:=he;refine aF (wpAny_isInstance (T := "StopIteration") (b:=true) ⟨o,ho,hc⟩ isSubtype_stop ?_);exact aU (hQ _ hk)
end
def zH1 (t1:Bool) (h:Heap) (l1:aA):Heap:=h.push (Xu t1 l1)
def zH2 (t1 t2:Bool) (h:Heap) (l1 l2:aA):Heap:=(zH1 t1 h l1).push (Xu t2 l2)
def zH3 (t1 t2:Bool) (h:Heap) (l1 l2:aA):Heap:=(zH2 t1 t2 h l1 l2).push { cls:=.type "tuple",data:=.seq #[.ref h.objs.size,.ref (zH1 t1 h l1).objs.size] }
def zH4 (t1 t2:Bool) (h:Heap) (l1 l2:aA):Heap:=(zH3 t1 t2 h l1 l2).push { cls:=.type "tuple",data:=.seq #[.none,.none] }
def zH5 (t1 t2:Bool) (h:Heap) (l1 l2:aA):Heap:=(zH4 t1 t2 h l1 l2).push { cls:=.type "zip",data:=.fields #[.none,.bool false,.bool false,.ref (zH2 t1 t2 h l1 l2).objs.size,.ref (zH3 t1 t2 h l1 l2).objs.size] }
theorem Q7v (t1 t2:Bool) (j q:aA) (xs ys:Array aB) :
  Meets (Builtin.«zip.__new__» ⟨[.type "zip",.ref j,.ref q],[]⟩) (fun _ R s=>HasItems t1 s.heap j xs/\HasItems t2 s.heap q ys /\
   R (.ok (.ret (.ref (zH4 t1 t2 s.heap j q).objs.size))) { s with heap:=zH5 t1 t2 s.heap j q }):=
 .of_wp fun prog w A R s h=>by
  obtain ⟨hp,g,d,tk,os⟩:=s; obtain ⟨z,B,h⟩:=h;have J:=sub_zip;have G:HasItems t1 (Shared.heap ⟨hp,g,d,tk,os⟩) j xs:=z;have I:HasItems t2 (Shared.heap ⟨hp.push (Xu t1 j),g,d,tk,os⟩) q ys:=B.at fun o e=>O1 _ e
  wp_walk using X6 G,X6 I
  exact ⟨_,rfl,h⟩
section
variable {prog:aO} {w:aM} {A:aR} {E:aB->aC->Prop} {s:aC}
theorem Qih {t1 t2:Bool} {j q:aA} {xs ys:Array aB} {Q:aB->aC->Prop} (z:HasItems t1 s.heap j xs) (B:HasItems t2 s.heap q ys)
  (h:∀ h',IsZip h' (s.heap.objs.size + 4) (s.heap.objs.size + 2) (s.heap.objs.size + 3) .none->aZ h' (s.heap.objs.size + 2) (.ref s.heap.objs.size) (.ref (s.heap.objs.size + 1)) ->
   aZ h' (s.heap.objs.size + 3) .none .none->IterAt t1 h' s.heap.objs.size j 0->IterAt t2 h' (s.heap.objs.size + 1) q 0->h'.objs.size=s.heap.objs.size + 5 ->
   (∀ c o,s.heap.get? c=some o->h'.get? c=some o)->Q (.ref (s.heap.objs.size + 4)) { s with heap:=h' }) :
  aI (aJ prog w) A (call (.type "zip") [.ref j,.ref q]) Q E s:=by
 refine callType_new F.called_zip (by decide) (F.typeCall_zip_2 _ _) (F.newCall_zip_2 _ _) (fun obj=>F.args_object_init_3 obj _ _) F.entry_zip_new
  (Q7v t1 t2 j q xs ys) ⟨z,B,?_⟩
 have I:(zH1 t1 s.heap j).objs.size=s.heap.objs.size + 1:=F9 ..;have U:(zH2 t1 t2 s.heap j q).objs.size=s.heap.objs.size + 2:=by unfold zH2; rw [F9,I]
 have G:(zH3 t1 t2 s.heap j q).objs.size=s.heap.objs.size + 3:=by unfold zH3; rw [F9,U]
 have O:(zH4 t1 t2 s.heap j q).objs.size=s.heap.objs.size + 4:=by unfold zH4; rw [F9,G]
 have z5:(zH5 t1 t2 s.heap j q).objs.size=s.heap.objs.size + 5:=by unfold zH5; rw [F9,O]
 have J:(zH5 t1 t2 s.heap j q).get? (zH4 t1 t2 s.heap j q).objs.size=some { cls:=.type "zip",data:=.fields #[.none,.bool false,.bool false,.ref (zH2 t1 t2 s.heap j q).objs.size,.ref (zH3 t1 t2 s.heap j q).objs.size] }:=D9 _ rfl;have Y:(zH5 t1 t2 s.heap j q).get? (zH3 t1 t2 s.heap j q).objs.size=some { cls:=.type "tuple",data:=.seq #[.none,.none] }:=O1 _ (D9 _ rfl);have Z:(zH5 t1 t2 s.heap j q).get? (zH2 t1 t2 s.heap j q).objs.size=some { cls:=.type "tuple",data:=.seq #[.ref s.heap.objs.size,.ref (zH1 t1 s.heap j).objs.size] }:=O1 _ (O1 _ (D9 _ rfl));have g2:(zH5 t1 t2 s.heap j q).get? (zH1 t1 s.heap j).objs.size=some (Xu t2 q):=O1 _ (O1 _ (O1 _ (D9 _ (Q0q _ _))));have g1:(zH5 t1 t2 s.heap j q).get? s.heap.objs.size=some (Xu t1 j):=O1 _ (O1 _ (O1 _ (O1 _ (D9 _ (Q0q _ _)))));show _/\_;rw [U,G,O] at J;rw [I,U] at Z;rw [G] at Y;rw [I] at g2;rw [O];exact ⟨⟨_,J,rfl⟩,h _ J Z Y (Q35 g1) (Q35 g2) z5 fun c o x=>
  O1 _ (O1 _ (O1 _ (O1 _ (O1 _ x))))⟩
end
def SqK (K:bS) (t:Bool) (H:Hp) (a:aA) (xs:List V):Prop:=if t=true then SqT K H a xs else SqL K H a xs
section
variable {X:Cx} {pins:List (aA × Obj)} {σ:St} {H:Hp} {s:aC}
theorem Inv.seqK {t:Bool} {a:aA} {xs:List V} (I:Inv X pins σ H s) (h:SqK X.K t H a xs):∃ its:List aB,Vals xs its/\HasItems t s.heap a its.toArray/\xs.length<=sizeLine:=by
 cases t
 ·obtain ⟨its,r,p,z⟩:=I.list h;exact ⟨its,r,p.isList,z⟩
 ·obtain ⟨its,r,p,z⟩:=I.tuple h;exact ⟨its,r,p,z⟩
theorem Inv.seqK_inj {t:Bool} {a:aA} {xs ys:List V} (I:Inv X pins σ H s) (h:SqK X.K t H a xs) (h':SqK X.K t H a ys):xs=ys:=by
 cases t
 ·exact I.list_inj h h'
 ·exact I.tuple_inj h h'
theorem Inv.turnedL {t':Nat} {its:List aA} {h':Heap} (I:Inv X pins σ H s) (k:∀ b o,b∉its->s.heap.get? b=some o->h'.get? b=some o) (G:∀ b∈its,Q92 X pins H b):Inv X pins σ H { s with heap:=h',toks:=t' }:=by
 have B:∀ b u,H b=some u->b∉its:=fun b u e z=>by rw [(G b z).1] at e; cases e
 refine I.step (g':=s.gens) (d':=s.drawn) (ch:=its) (fun b U=>?_) (fun b o _ _ j e _=>k b o j e) (fun b o _ _ j e _=>⟨o.slots,k b o j e⟩) (fun _ _ _ _ n=>n)
  (fun b o j e=>⟨o,k b o j e⟩) (fun _ _ e=>e) (fun _ _ _ e=>e) (fun b ps e=>⟨#[],by rw [e]; simp⟩) (fun m J=>?_) (fun b u e=>?_) I.bare
 ·obtain ⟨f0,Z,f2,Y,f4,f5⟩:=G b U;exact ⟨Y,Z,f4,f5⟩
 ·obtain ⟨o,es,O,ho,r⟩:=J;exact ⟨o,es,O,k _ o (fun z=>(G _ z).2.1 rfl) ho,r⟩
 ·refine (I.hok b u e).stay (fun c v j q=>k c v ?_ q) (fun _ q=>q) fun _ _ q=>q
  rcases j with z | z
  ·rw [z]; exact B b u e
  ·exact B c _ z
end
def Itz (K:bS) (t1 t2:Bool) (a b:aA):It:=
 ⟨fun i H=>∃ xs ys x y,SqK K t1 H a xs/\SqK K t2 H b ys/\xs[i]?=some x/\ys[i]?=some y,
  fun i H v H'=>∃ p x y,H p=none/\v=.ref p/\H'=upd H p (.tup [x,y])/\∀ xs ys,SqK K t1 H a xs->SqK K t2 H b ys->xs[i]?=some x/\ys[i]?=some y,
  fun i H=>∃ xs ys,SqK K t1 H a xs/\SqK K t2 H b ys/\(xs.length<=i\/ys.length<=i)⟩
def Quy (t1 t2:Bool) (z TI TO i1 i2 a b:aA) (i:Nat) (h:Heap):Prop:=
 IsZip h z TI TO .none/\aZ h TI (.ref i1) (.ref i2)/\(∃ u v,aZ h TO u v)/\IterAt t1 h i1 a i/\IterAt t2 h i2 b i
theorem Qam {a b:aB}:∀ v,({ cls:=.type "tuple",data:=.seq #[a,b] }:Obj).data≠.cell v:=fun v z=>by cases z
theorem Qjb {P:aO} {w:aM} {K:bS} {elts:List aD} {k:Nat} {pos:Pos} {t1 t2:Bool} {z TI TO i1 i2 a b:aA} (D:ZipApart z TI TO i1 i2 a b) :
  Turn P w K (.Tuple elts k pos) (Itz K t1 t2 a b) [z,TI,TO,i1,i2] z (Quy t1 t2 z TI TO i1 i2 a b) where
 mem:=by simp
 obj:=fun i h st c j=>by
  obtain ⟨hz,B,⟨u,v,G⟩,h1,h2⟩:=st;simp at j;rcases j with rfl | rfl | rfl | rfl | rfl
  ·exact ⟨_,hz,fun v q=>by cases q⟩
  ·exact ⟨_,B,Qam⟩
  ·exact ⟨_,G,Qam⟩
  ·exact h1.there
  ·exact h2.there
 keep:=fun i h h' st kk=>by
  obtain ⟨hz,B,⟨u,v,G⟩,h1,h2⟩:=st;exact ⟨kk z (by simp) _ hz,kk TI (by simp) _ B,⟨u,v,kk TO (by simp) _ G⟩,h1.at fun o e=>kk i1 (by simp) o e,h2.at fun o e=>kk i2 (by simp) o e⟩
 item:=by
  intro X hP hw hK j i pins s σ H E I hf st hg;subst hP hw hK;obtain ⟨xs,ys,x,y,U,O,hx,hy⟩:=hg;obtain ⟨hz,B,⟨u,v,G⟩,h1,h2⟩:=st;obtain ⟨its,rv,p,_⟩:=I.seqK U;obtain ⟨b5,a8,p2,_⟩:=I.seqK O;obtain ⟨ux,c2,b8⟩:=rv.get hx;obtain ⟨uy,b7,c1⟩:=a8.get hy;refine Q7t D hz B G h1 h2 p p2 (x:=ux) (y:=uy) (by simpa using c2) (by simpa using b7) fun h' a1 a2 a3 a4 a5 a6 a7=>⟨_,rfl,?_⟩
  refine wpAny_letOwnedTupleGo_zip (s:={ s with heap:=h' }) a1 fun a9 b1 b2=>?_
  have b9:H s.heap.objs.size=none:=I.fresh;have c0:z < s.heap.objs.size:=D1 hz;have c5:TI < s.heap.objs.size:=D1 B;have c4:TO < s.heap.objs.size:=D1 G;have c6:i1 < s.heap.objs.size:=by obtain ⟨o,e,_⟩:=h1.there; exact D1 e
  have c3:i2 < s.heap.objs.size:=by obtain ⟨o,e,_⟩:=h2.there; exact D1 e
  have Y:Inv X pins σ H { s with heap:=a9 }:=I.turnedL (t':=s.toks) (its:=[z,TO,i1,i2]) (fun c o j e=>(b2.2 c (fun q=>j (by simp [q]))).trans (a7 c o (fun q=>j (by simp [q])) (fun q=>j (by simp [q])) (fun q=>j (by simp [q])) (fun q=>j (by simp [q])) e))
   fun c j=>hf c (by simp at j ⊢; rcases j with rfl | rfl | rfl | rfl <;> simp)
  have Z:aZ a9 s.heap.objs.size ux uy:=(b2.2 _ (cK c0)).trans a5;have J:H s.heap.objs.size=none:=b9;have I2:Inv X pins σ (upd H s.heap.objs.size (.tup [x,y])) { s with heap:=a9 }:=by
   refine ⟨Y.ok,Y.os,Y.bare,?_,Y.loc,Y.cell,?_,?_,?_,?_,Y.len⟩
   ·have u0:=Y.base;have old:∀ c o,X.s₀.heap.get? c=some o->c≠s.heap.objs.size:=fun c o e=>F2 (D6 (D1 e) I.sz)
    exact ⟨u0.keep,u0.slot,fun c o e n hx=>by rw [Qi (old c o e)]; exact u0.free c o e n hx,u0.there,
     fun c ts e=>by have:=u0.tups c ts e; rw [Qi (Qm this J)]; exact this,
     fun c o ts e=>by have:=u0.frzs c o ts e; rw [Qi (Qm this J)]; exact this,
     fun c ps e=>by obtain ⟨more,q⟩:=u0.tbls c ps e; exact ⟨more,by rw [Qi (Qm q J)]; exact q⟩⟩
   ·rw [Qi (F2 I.lt)]; exact I.free
   ·intro x' c e;obtain ⟨v',q⟩:=I.cell x' c e;rw [Qi (F2 q.lt)]; exact I.freeC x' c e
   ·intro p' b0;obtain ⟨e,n,ne,nf,d⟩:=Y.pin p' b0;have e0:=(I.pin p' b0).1;exact ⟨e,by rw [Qi (F2 (D1 e0))]; exact n,ne,nf,d⟩
   ·intro c o q
    by_cases b4:c=s.heap.objs.size
    ·subst b4;rw [Je] at q; cases q;exact ⟨by simp only [E3,cU]; rw [sizeLine_eq]; decide,[ux,uy],.cons b8 (.cons c1 .nil),⟨_,Z,rfl,0,rfl⟩⟩
    ·rw [Qi b4] at q;exact (Y.hok c o q).stay (fun _ _ _ r=>r) (fun c' r=>by rw [Qi (Qm r J)]; exact r) fun c' ts r=>by rw [Qi (Qm r J)]; exact r
  refine ⟨.ref s.heap.objs.size,_,I2,rfl,⟨s.heap.objs.size,x,y,J,rfl,rfl,fun c7 c8 q1 q2=>?_⟩,?_,fun c j=>?_⟩
  ·rw [I.seqK_inj q1 U,I.seqK_inj q2 O]; exact ⟨hx,hy⟩
  ·exact ⟨b1,b2.extBut _ _ D.TIz (a7 _ _ D.TIz D.TITO D.TIi1 D.TIi2 B),⟨_,_,b2.extBut _ _ D.TOz a2⟩,a3.at fun o e=>b2.extBut _ _ D.i1z e,a4.at fun o e=>b2.extBut _ _ D.i2z e⟩
  ·have:=(hf c j).1;have b6:c < s.heap.objs.size:=by simp at j; rcases j with rfl | rfl | rfl | rfl | rfl <;> assumption
   rw [Qi (F2 b6)]; exact this
 done:=by
  intro X hP hw hK j i pins s σ H E I hf st hg;subst hP hw hK;obtain ⟨xs,ys,U,O,b3⟩:=hg;obtain ⟨hz,B,⟨u,v,G⟩,h1,h2⟩:=st;obtain ⟨its,rv,p,_⟩:=I.seqK U;obtain ⟨b5,a8,p2,_⟩:=I.seqK O;have l1:=rv.length;have l2:=a8.length;refine Q9y (I.ok.hd j) D hz B G h1 h2 p p2 (b3.elim (fun h=>.inl (by simp; omega)) fun h=>.inr (by simp; omega)) fun h' kk=>⟨rfl,?_⟩
  exact I.turnedL (t':=s.toks) (its:=[z,TO,i1,i2]) (fun c o j e=>kk c o (fun q=>j (by simp [q])) (fun q=>j (by simp [q])) (fun q=>j (by simp [q])) (fun q=>j (by simp [q])) e)
   fun c j=>hf c (by simp at j ⊢; rcases j with rfl | rfl | rfl | rfl <;> simp)
 self:=fun _ _ _ _ _ st h=>wpAny_pyIter_zip st.1 h
section
variable {X:Cx}
def Qz9 (K:bS) (t1 t2:Bool) (ta:TA):TI:=fun σ H R=>ta σ H fun vs H1=>∃ a b xs ys,vs=[.ref a,.ref b]/\SqK K t1 H1 a xs/\SqK K t2 H1 b ys/\R (Itz K t1 t2 a b) H1
theorem Qn0:ac "zip" = some (.type "zip"):=by decide +kernel
theorem Qsv (t1 t2:Bool) {a b:aD} {ta:TA} {p pos:Pos} {elts:List aD} {k:Nat} {tp:Pos} (hg:Gl X "zip") (hm:X.mg "zip" = none) (ha:PA X [a,b] ta) (hs:aP [a,b] X.env=[(false,aN a X.env),(false,aN b X.env)]:=by rfl) (B:aP [b] X.env=[(false,aN b X.env)]:=by rfl) :
  PI X (.Tuple elts k tp) (.Call (.Name "zip" p) [a,b] [] pos) (Qz9 X.K t1 t2 ta):=by
 intro pins s σ H R I h;refine Call_ (Q53 I hg hm Qn0 (dP (thn (ha pos pins s σ H _ I h) fun us s1 ⟨vs,H1,G,r1,q1⟩=>?_) (by rw [hs,B]) (by rw [B]; rfl)))
 obtain ⟨Y,Z,xs,ys,e,q1,q2,q⟩:=q1;subst e;cases r1 with
 | cons r J=>
  cases J with
  | cons r' J=>
   cases J;cases r;cases r';obtain ⟨its,rv,U,_⟩:=G.seqK q1;obtain ⟨a2,a5,p2,_⟩:=G.seqK q2;refine Qih U p2 fun h' O z2 z3 z4 z5 z6 z7=>?_
   refine wpAny_pyIter_zip (s:={ s1 with heap:=h' }) O ?_;have a3:Y < s1.heap.objs.size:=by obtain ⟨o,e⟩:=U.there; exact D1 e
   have a4:Z < s1.heap.objs.size:=by obtain ⟨o,e⟩:=p2.there; exact D1 e
   have D:ZipApart (s1.heap.objs.size + 4) (s1.heap.objs.size + 2) (s1.heap.objs.size + 3) s1.heap.objs.size (s1.heap.objs.size + 1) Y Z:=by
    constructor <;> (intro z; unfold aA at *; omega)
   refine ⟨_,[s1.heap.objs.size + 4,s1.heap.objs.size + 2,s1.heap.objs.size + 3,s1.heap.objs.size,s1.heap.objs.size + 1],_,_,H1,rfl,G.kept (t':=s1.toks) z7,Qjb (t1:=t1) (t2:=t2) D,⟨O,z2,⟨_,_,z3⟩,z4,z5⟩,fun c hc=>?_,q⟩
   have j:s1.heap.objs.size<=c:=by simp at hc; unfold aA at *; omega
   exact G.fpOk j (G.hok.fresh j)
end
theorem Q6p {prog:aO} {w:aM} {A:aR} (B:A.handled=none) (t:Bool) (I q:aA) (z:q≠I) (j:Array aB) :
  Walks prog w A I [I,q] [I] j.size (fun i v=>j[i]?=some v) (fun i h=>IterAt t h I q i/\HasItems t h q j):=by
 cases t
 ·exact Walks.list B I q z j
 ·exact Walks.tuple B I q z j
theorem Q3y {α:Type} (l:List α) (d:α) {n:Nat} (h:n < l.length):l.getD n d=l[n]:=by simp [bb,h]
theorem Qd8 (ns:List Int):preSum (fun j=>ns.getD j 0) ns.length=ns.sum:=by
 have z:∀ (k:Nat),k<=ns.length->preSum (fun j=>ns.getD j 0) k=(ns.take k).sum:=by
  intro k
  induction k with
  | zero=>intro _; rfl
  | succ k B=>
   intro G;show preSum _ k + ns.getD k 0=_;have q:k < ns.length:=by omega
   rw [B (by omega),List.take_succ,gK,Q3y _ _ q,O7 q];simp
 rw [z ns.length (O8 _),fD]
section
variable {X:Cx} {pins:List (aA × Obj)} {σ:St} {H:Hp} {s:aC}
theorem Inv.movedNew {s':aC} (I:Inv X pins σ H s) {o:Obj} (m:Moved [s.heap.objs.size] (fun a b=>b=a) { s with heap:=s.heap.push o } s'):Inv X pins σ H s':=by
 obtain ⟨m1,m2,m3,j,q⟩:=m;obtain ⟨h',g',d',t',o'⟩:=s';have e1:g'=s.gens:=m2;have e2:d'=s.drawn:=m3;have e3:o'=s.os:=j;subst e1 e2 e3;refine I.kept (t':=t') fun b u e=>m1 b u (fun z=>?_) (O1 _ e)
 have:b=s.heap.objs.size:=by simpa using z
 exact absurd (D1 e) (by rw [this]; exact bt _)
theorem Q1j {ns:List Int} {its:List aB} (r:Vals (ns.map V.int) its):∀ (i:Nat) (v:aB),its.toArray[i]?=some v->∃ t,v=ce (ns.getD i 0) t:=fun i v e=>by
 have q:its[i]?=some v:=by simpa using e
 have hi:i < its.length:=(O0.mp q).1;have G:=r.length;rw [O2] at G;have B:(ns.map V.int)[i]?=some (V.int (ns.getD i 0)):=by
  have:i < ns.length:=by omega
  simp [bb,this]
 obtain ⟨u,j,t,z⟩:=r.get B;rw [q] at j;cases j;exact ⟨t,z⟩
theorem Qb6 {bs:List Bool} {its:List aB} (r:Vals (bs.map V.bl) its):∀ (i:Nat) (v:aB),its.toArray[i]?=some v->v=cH (bs.getD i false):=fun i v e=>by
 have q:its[i]?=some v:=by simpa using e
 have hi:i < its.length:=(O0.mp q).1;have G:=r.length;rw [O2] at G;have B:(bs.map V.bl)[i]?=some (V.bl (bs.getD i false)):=by
  have:i < bs.length:=by omega
  simp [bb,this]
 obtain ⟨u,j,z⟩:=r.get B;rw [q] at j;cases j;exact z
theorem Xt {t:Bool} {l:aA} {j:Array aB} (B:HasItems t s.heap l j):l≠s.heap.objs.size /\
  (IterAt t (s.heap.push (Xu t l)) s.heap.objs.size l 0/\HasItems t (s.heap.push (Xu t l)) l j)/\∀ b∈[s.heap.objs.size,l],b < (s.heap.push (Xu t l)).objs.size:=by
 obtain ⟨o,e⟩:=B.there;have q:=D1 e;refine ⟨F2 q,⟨Q35 (D9 _ (Q0q _ _)),B.at fun o e=>O1 _ e⟩,fun b z=>?_⟩
 rw [F9];simp at z;rcases z with rfl | rfl
 ·exact cg _
 ·exact cv q
end
section
variable {X:Cx}
theorem Qmr (t:Bool) (Z:X.calm=true):qd X (.builtin "sum") (fun xs H Q=>∃ (a:aA) (ns:List Int),xs=[.ref a]/\SqK X.K t H a (ns.map V.int)/\Q (.int ns.sum) H):=by
 intro pins s σ H xs us Q I r h;obtain ⟨a,ns,rfl,J,q⟩:=h;obtain ⟨u,rfl,Y⟩:=Q2j r;cases Y;obtain ⟨its,z,p,_⟩:=I.seqK J;obtain ⟨U,O,G⟩:=Xt p;have B:=z.length;rw [O2] at B;refine call_sum_walkAnyS (X6 p ⟨_,_,_,_,_,_,_,fun j=>ns.getD j 0,rfl,(Q6p (A:=X.A.in1) (I.ok.hd Z) t _ a U its.toArray).toS,O,G,Q1j z,fun s' t' m=>?_⟩);refine ⟨.int ns.sum,H,I.movedNew m,⟨t',?_⟩,q⟩;rw [O4,<- B,Qd8]
theorem Qhd (bs:List Bool):(bU bs.length).all (fun i=>bs.getD i false)=bs.all id:=by
 induction bs with
 | nil=>rfl
 | cons b r j=>
  rw [E3,fE,cX,fF,cX,<- j];rfl
theorem Qhc (bs:List Bool):(bU bs.length).any (fun i=>bs.getD i false)=bs.any id:=by
 induction bs with
 | nil=>rfl
 | cons b r j=>
  rw [E3,fE,dZ,da,dZ,<- j];rfl
theorem Qmt (t:Bool) (Z:X.calm=true):qd X (.builtin "all") (fun xs H Q=>∃ (a:aA) (bs:List Bool),xs=[.ref a]/\SqK X.K t H a (bs.map V.bl)/\Q (.bl (bs.all id)) H):=by
 intro pins s σ H xs us Q I r h;obtain ⟨a,bs,rfl,G,q⟩:=h;obtain ⟨u,rfl,U⟩:=Q2j r;cases U;obtain ⟨its,z,p,_⟩:=I.seqK G;obtain ⟨O,J,w3⟩:=Xt p;have B:=z.length;rw [O2] at B;refine call_all_walkS (X6 p ⟨_,_,_,_,_,_,_,fun j=>bs.getD j false,rfl,(Q6p (A:=X.A.in1) (I.ok.hd Z) t _ a O its.toArray).toS,J,fun i v s' Q' E' Y hQ=>?_,fun s' m=>?_⟩)
 ·rw [Qb6 z i v Y];exact ar hQ
 ·refine ⟨.bl (bs.all id),H,I.movedNew m,?_,q⟩;show cH _=_;rw [O4,<- B,Qhd]
theorem Qms (t:Bool) (Z:X.calm=true):qd X (.builtin "any") (fun xs H Q=>∃ (a:aA) (bs:List Bool),xs=[.ref a]/\SqK X.K t H a (bs.map V.bl)/\Q (.bl (bs.any id)) H):=by
 intro pins s σ H xs us Q I r h;obtain ⟨a,bs,rfl,G,q⟩:=h;obtain ⟨u,rfl,U⟩:=Q2j r;cases U;obtain ⟨its,z,p,_⟩:=I.seqK G;obtain ⟨O,J,w3⟩:=Xt p;have B:=z.length;rw [O2] at B;refine call_any_walkS (X6 p ⟨_,_,_,_,_,_,_,fun j=>bs.getD j false,rfl,(Q6p (A:=X.A.in1) (I.ok.hd Z) t _ a O its.toArray).toS,J,fun i v s' Q' E' Y hQ=>?_,fun s' m=>?_⟩)
 ·rw [Qb6 z i v Y];exact ar hQ
 ·refine ⟨.bl (bs.any id),H,I.movedNew m,?_,q⟩;show cH _=_;rw [O4,<- B,Qhc]
theorem Qik (t:Bool) (hc:X.calm=true):qd X (.builtin "max") (fun xs H Q=>∃ (a:aA) (ns:List Int),xs=[.ref a]/\SqK X.K t H a (ns.map V.int)/\ns≠[]/\∀ m,m∈ns->(∀ k,k∈ns->k<=m)->Q (.int m) H):=by
 intro pins s σ H xs us Q I r h;obtain ⟨a,ns,rfl,O,B,q⟩:=h;obtain ⟨u,rfl,r1⟩:=Q2j r;cases r1;obtain ⟨its,G,p,_⟩:=I.seqK O;obtain ⟨w1,Y,U⟩:=Xt p;have hl:=G.length;rw [O2] at hl;have hpos:0 < ns.length:=dE.mpr B;refine call_max_walkS (X6 p ⟨_,_,_,_,_,_,_,_,rfl,(Q6p (A:=X.A.in1) (I.ok.hd hc) t _ a w1 its.toArray).toS,Y,U,by rw [O4]; omega,CmpOf.ints_gt (fun j=>ns.getD j 0) (fun i v z=>Q1j G i v z),fun v s' z m=>?_⟩);obtain ⟨t',rfl⟩:=Q1j G _ _ z;obtain ⟨h1,h2⟩:=argBest_gt (fun j=>ns.getD j 0) (its.toArray.size - 1);have J:argBest (fun i j=>decide (ns.getD i 0 > ns.getD j 0)) (its.toArray.size - 1) < ns.length:=by
  have e':its.toArray.size=ns.length:=by rw [O4]; omega
  rw [e'] at h1 ⊢;exact gL h1 (by omega)
 refine ⟨.int (ns.getD (argBest (fun i j=>decide (ns.getD i 0 > ns.getD j 0)) (its.toArray.size - 1)) 0),H,I.movedNew m,⟨t',rfl⟩,q _ ?_ fun k Z=>?_⟩
 ·rw [Q3y _ _ J];exact db J
 ·obtain ⟨j,hj,rfl⟩:=df.mp Z;have:=h2 j (by rw [O4]; omega);rw [Q3y _ _ hj] at this;exact this
theorem Qii (t:Bool) (hc:X.calm=true):qd X (.builtin "min") (fun xs H Q=>∃ (a:aA) (ns:List Int),xs=[.ref a]/\SqK X.K t H a (ns.map V.int)/\ns≠[]/\∀ m,m∈ns->(∀ k,k∈ns->m<=k)->Q (.int m) H):=by
 intro pins s σ H xs us Q I r h;obtain ⟨a,ns,rfl,O,B,q⟩:=h;obtain ⟨u,rfl,r1⟩:=Q2j r;cases r1;obtain ⟨its,G,p,_⟩:=I.seqK O;obtain ⟨w1,Y,U⟩:=Xt p;have hl:=G.length;rw [O2] at hl;have hpos:0 < ns.length:=dE.mpr B;refine call_min_walkS (X6 p ⟨_,_,_,_,_,_,_,_,rfl,(Q6p (A:=X.A.in1) (I.ok.hd hc) t _ a w1 its.toArray).toS,Y,U,by rw [O4]; omega,CmpOf.ints_lt (fun j=>ns.getD j 0) (fun i v z=>Q1j G i v z),fun v s' z m=>?_⟩);obtain ⟨t',rfl⟩:=Q1j G _ _ z;obtain ⟨h1,h2⟩:=argBest_lt (fun j=>ns.getD j 0) (its.toArray.size - 1);have J:argBest (fun i j=>decide (ns.getD i 0 < ns.getD j 0)) (its.toArray.size - 1) < ns.length:=by
  have e':its.toArray.size=ns.length:=by rw [O4]; omega
  rw [e'] at h1 ⊢;exact gL h1 (by omega)
 refine ⟨.int (ns.getD (argBest (fun i j=>decide (ns.getD i 0 < ns.getD j 0)) (its.toArray.size - 1)) 0),H,I.movedNew m,⟨t',rfl⟩,q _ ?_ fun k Z=>?_⟩
 ·rw [Q3y _ _ J];exact db J
 ·obtain ⟨j,hj,rfl⟩:=df.mp Z;have:=h2 j (by rw [O4]; omega);rw [Q3y _ _ hj] at this;exact this
end
section
variable {prog:aO} {w:aM} {A:aR} {E:aB->aC->Prop} {s:aC}
end
section
variable {X:Cx}
end
theorem Qjn {H:Hp} {a:aA} {o:HO} (h:H a=none):Same H (upd H a o):=fun b u e=>by rw [Qi (Qm e h)]; exact e
section
variable {K:bS} {cap:List (Option Nat)} {te:TE} {σ:St} {H1:Hp} {Q:VK}
abbrev g2 (K:bS):TG:=Qww K 2 (Qm8 (Qe4 0) (Qm8 (Qe4 1) Qwx))
end
def Qx7:V->Option aB
 | .ty n=>some (.type n)
 | .ref a=>some (.ref a)
 | _=>none
theorem Qmn {c:V} {j u:aB} (e:Qx7 c=some j) (r:RelV c u):u=j:=by
 cases c with
 | ty n=>cases e; exact r
 | ref a=>cases e; exact r
 | _=>cases e
section
variable {X:Cx}
theorem Qea:qd X (.builtin "isinstance") (fun xs H Q=>∃ x c j t b,xs=[x,c]/\Qx7 c=some j/\TyOf X.K H x t/\eQ X.K t j=some b/\Q (.bl b) H):=by
 intro pins s σ H xs us Q I r h;obtain ⟨x,c,j,t,b,rfl,G,ty,e,q⟩:=h;obtain ⟨u,J,rfl,z,B⟩:=Qj7 r;rw [Qmn G B];exact Qi7 I z ty e fun tk=>⟨.bl b,H,I.tok tk,rfl,q⟩
theorem Q64:ac "isinstance" = some (.builtin "isinstance"):=by decide +kernel
theorem Q1q:ac "sum" = some (.builtin "sum"):=by decide +kernel
theorem Q1r:ac "all" = some (.builtin "all"):=by decide +kernel
theorem Qed:ac "any" = some (.builtin "any"):=by decide +kernel
theorem Q44:ac "max" = some (.builtin "max"):=by decide +kernel
theorem Qn2:ac "min" = some (.builtin "min"):=by decide +kernel
theorem Va:ac "tuple" = some (.type "tuple"):=by decide +kernel
theorem Qit:ac "list" = some (.type "list"):=by decide +kernel
theorem Qec:ac "int" = some (.type "int"):=by decide +kernel
theorem Qiu:ac "bool" = some (.type "bool"):=by decide +kernel
theorem Qn1:ac "str" = some (.type "str"):=by decide +kernel
end
section
variable {X:Cx} (K:bS)
end
def Tab (H:Hp) (a:aA) (tb:List (List Int)):Prop:=∃ rs:List aA,H a=some (.tup (rs.map V.ref))/\aw (fun r row=>H r=some (.tup (List.map V.int row))) rs tb
def Sz (n:Nat) (tb:List (List Int)):Prop:=tb.length=n/\∀ row∈tb,row.length=n + 1
end L2
namespace L2
open PySem PySem.Spec PyProof.Rows PySem.W PySem.Builtin.Getset_descriptor
structure XCls (K:Frag) (C:aA):Prop where
 cls:(clsIn K C).isSome=true
 ga:findIn K (.ref C) "__getattribute__" = some (some (.builtin "BaseException.__getattribute__"))
 gt:findIn K (.ref C) "__getattr__" = some none
 cl:findIn K (.ref C) "__class__" = some (some (.builtin "object.__class__"))
 gs:specialIn K (.builtin "object.__class__") "__get__" = some (some (.builtin "getset_descriptor.__get__"))
 tk:takesIn K (.builtin "object.__class__")=some true
 ob:mroIn K C (.type "object")=some true
 be:mroIn K C (.type "BaseException")=some true
def IsX (x C:aA) (h:Heap):Prop:=∃ ox,h.get? x=some ox/\ox.cls=.ref C
theorem IsX.type {M:Model} {h:Heap} {x C:aA} (I:IsX x C h):Looks M h (typeOf (.ref x)) (.ref C):=by
 obtain ⟨j,h1,h2⟩:=I;exact h2 ▸ (Looks.ld h1).andThen .now
section
variable {prog:aO} {w:aM} {A:aR} {E:aB->aC->Prop} {h:Heap} {g:Array GenState} {d:Drawn} {t:Nat} {os:OsState} {K:Frag} {x C:aA}
theorem Qj6 {M:Model} {j:aB} {Q:Unit->aC->Prop} (X:K.In h) (F:XCls K C) (I:IsX x C h) (z:Q () ⟨h,g,d,t,os⟩):aI M A (checkBuiltinCall "BaseException.__getattribute__" ⟨[.ref x,j],[]⟩) Q E ⟨h,g,d,t,os⟩:=by
 have G:builtinKind "BaseException.__getattribute__" = some .slot:=by decide +kernel
 have q:splitId "BaseException.__getattribute__" = some ("BaseException", "__getattribute__"):=by decide +kernel
 have B:Looks M h (isInstance (.ref x) (.type "BaseException")) true:=(I.type).andThen (looks_mroIn X F.be);have J:=PySem.F.args_bexc_ga (.ref x) j;simp only [checkBuiltinCall,G,q];refine aF (B.at ?_);simp only [gM,gH,if_false];exact wpAny_of_eq J z
end
end L2
namespace L2
open PySem PySem.Spec PyProof.Rows
theorem ObjOk.there {P:aO} {w:aM} {H:Hp} {h:Heap} {a:aA} {o:HO} (x:ObjOk P w H h a o):∃ u,h.get? a=some u:=by
 cases o with
 | lst xs=>obtain ⟨_,_,_,_,e⟩:=x; exact ⟨_,e⟩
 | tup xs=>obtain ⟨_,_,_,o,e,_⟩:=x; exact ⟨o,e⟩
 | dK kvs=>obtain ⟨_,_,_,_,o,_,_,e,_⟩:=x; exact ⟨o,e⟩
 | dT kvs=>obtain ⟨_,_,_,_,o,_,_,e,_⟩:=x; exact ⟨o,e⟩
 | set S n=>obtain ⟨o,_,_,_,e,_⟩:=x; exact ⟨o,e⟩
 | ins C dx fs=>obtain ⟨_,_,_,e,_⟩:=x; exact ⟨_,e⟩
 | own y=>exact x
 | xd fs=>obtain ⟨_,⟨o,_,_,e,_⟩,_⟩:=x; exact ⟨o,e⟩
 | rng lo hi=>obtain ⟨_,_,_,e⟩:=x; exact ⟨_,e⟩
 | frz ob u=>obtain ⟨e,_⟩:=x; exact ⟨_,e⟩
 | tbl ps=>exact ⟨_,x⟩
 | met f y=>exact ⟨_,x⟩
 | ext j=>exact x.2.1
theorem HOk.none_of {P:aO} {w:aM} {H:Hp} {h:Heap} {a:aA} (x:HOk P w H h) (e:h.get? a=none):H a=none:=by
 cases q:H a with
 | none=>rfl
 | some o=>
  obtain ⟨u,z⟩:=(x a o q).there;rw [e] at z;cases z
structure Fly (P:aO) (w:aM) (outer:List Env) (H H':Hp) (s s':aC) (a:aA) (cls a0:aB) (B:Heap):Prop where
 os:s'.os=s.os
 bare:AllBare s'.gens
 fl:Heap.FlyingW B outer a cls a0 s'.heap
 hokB:HOk P w H' B
 keep:∀ b o,s.heap.get? b=some o->H b=none->b∉frs outer->B.get? b=some o
 there:∀ b o,s.heap.get? b=some o->b∉frs outer->∃ o',B.get? b=some o'
 slot:∀ b o,s.heap.get? b=some o->b∈frs outer->∃ sl,s'.heap.get? b=some { o with slots:=sl }
 free:∀ b o,s.heap.get? b=some o->H b=none->H' b=none
 tups:∀ b xs,H b=some (.tup xs)->H' b=some (.tup xs)
 frzs:∀ b o u,H b=some (.frz o u)->H' b=some (.frz o u)
 tbls:∀ b ps,H b=some (.tbl ps)->∃ more,H' b=some (.tbl (ps ++ more))
section
variable {P:aO} {w:aM} {K:bS} {mg:Str->Option aB} {base:Heap} {N:List Str} {qual:Str} {scope:Scope} {f:aA} {cd:aB} {A:aR} {outer:List Env} {s:aC} {H:Hp} {E:XK}
end
abbrev X9:List aB:=[.type "ValueError",.type "Exception",.type "BaseException",.type "object"]
theorem Qg0 {K:bS} {h:Heap} {C:aA} {z:List aB} {j:String} {x:Str} {mg:Str->Option aB} (X:K.In h) (m:mg x=some (.ref C)) (q:bc K C z j=true):OwnCls x C z j mg h:=by
 refine ⟨m,?_⟩;unfold bc at q
 split at q
 ·rename_i dd cd sl U
  split at q
  ·rename_i Y bm k0 k1 k2 k3 n k5 G hs;simp only [G8,beq_iff_eq,Bool.not_eq_true'] at q;obtain ⟨⟨⟨⟨⟨rfl,rfl⟩,hdel⟩,ht⟩,hok⟩,hni⟩:=q;obtain ⟨nm,bs,I,ns,J,hd,sn,sub,ab,col,O⟩:=cd;dsimp only at G hdel hok hni;subst G hdel;have B:sl=#[k0,k1,k2,k3,some (.builtin n),k5]:=by
    obtain ⟨l⟩:=sl;simp only at hs;rw [hs]
   subst B;exact ⟨bm,ns,nm,J,bs,hd,sn,sub,ab,col,dd,k0,k1,k2,k3,k5,_,X _ _ U,.of_isNs (PySem.W.isNs_of_in X hok),PySem.W.nsMap_none_of_in X hok hni,PySem.W.tail_of_in X ht⟩
  ·cases q
 ·cases q
section
variable {X:Cx}
def Qs8 (C:aA) (E:XK) (t:TA):TS:=fun _ σ H=>t σ H fun vs H1=>vs.length<=sizeLine/\E (.ref C) none H1
end
def xy (X:Cx) (a:aA):Cx:={ X with A:=X.A.mark (some (.ref a)),calm:=false,xe:=fun _ _=>False }
section
variable {X:Cx} {pins:List (aA × Obj)} {σ:St} {H H':Hp} {s s':aC} {a C:aA}
theorem Inv.suite (I:Inv X pins σ H s) (a:aA):Inv (xy X a) pins σ H s:=
 ⟨⟨I.ok.mod,I.ok.kind,I.ok.glob,I.ok.blt,I.ok.above,I.ok.inj,I.ok.has,I.ok.cab,fun h=>(by cases h),I.ok.frames,I.ok.stk,I.ok.exf,I.ok.bs,I.ok.bsz,I.ok.noex,I.ok.exfs,I.ok.funs,I.ok.frf⟩,I.os,I.bare,I.base,I.loc,I.cell,I.free,I.freeC,I.pin,I.hok,I.len⟩
theorem Inv.unsuite (ok:X.Ok) (I:Inv (xy X a) pins σ H s):Inv X pins σ H s:=⟨ok,I.os,I.bare,I.base,I.loc,I.cell,I.free,I.freeC,I.pin,I.hok,I.len⟩
theorem Fly.inv {cls a0:aB} {B J:Heap} (I:Inv X pins σ H s) (F:Fly X.prog X.w X.stack H H' s s' a cls a0 B) (Y:B.StaysIn J) (sm:s'.heap.UpToSlots J):Inv X pins σ H' { s' with heap:=J }:=by
 have sl:∀ b o,s.heap.get? b=some o->b∈frs X.stack->∃ sl,J.get? b=some { o with slots:=sl }:=fun b o q j=>by
  obtain ⟨sl,z⟩:=F.slot b o q j;obtain ⟨_,o',G,U⟩:=I.stack.mem j;rw [q] at G;cases G;obtain ⟨O,Z⟩:=sm b _ z U;exact ⟨O,Z⟩
 refine I.call' (s':={ s' with heap:=J }) (ch:=[]) F.os ⟨fun b o q n j _=>Y _ _ (F.keep b o q n j),fun b o q n j _=>sl b o q j,fun b o q n _=>F.free b o q n,fun b o q _=>?_,F.tups,F.frzs,F.tbls⟩ (F.hokB.kept Y) F.bare fun b z=>absurd z (by simp)
 by_cases j:b∈frs X.stack
 ·obtain ⟨sl,z⟩:=sl b o q j;exact ⟨_,z⟩
 ·obtain ⟨o',z⟩:=F.there b o q j;exact ⟨o',Y _ _ z⟩
theorem Fly.new {cls a0:aB} {B:Heap} (F:Fly X.prog X.w X.stack H H' s s' a cls a0 B):s.heap.get? a=none/\H' a=none:=by
 have I:B.get? a=none:=F.fl.2.1;refine ⟨?_,F.hokB.none_of I⟩;cases q:s.heap.get? a with
 | none=>rfl
 | some o=>
  by_cases J:a∈frs X.stack
  ·obtain ⟨_,o',j,G⟩:=F.fl.2.2.1.mem J;obtain ⟨U,vs,O,_,hd,_⟩:=F.fl.first;rw [j] at O;cases O;exact absurd hd (G vs)
  ·obtain ⟨o',z⟩:=F.there a o q J;rw [I] at z;cases z
theorem Inv.track {s1:aC} {Y:Heap->Prop} (J:Inv X pins σ H s) (O:∀ b,b∉X.ex) (h0:s.heap.get? a=none) (I:Inv X pins σ H' s1) (G:H' a=none) (o:ObjOk X.prog X.w (upd H' a (.ext Y)) s1.heap a (.ext Y)):Inv X pins σ (upd H' a (.ext Y)) s1:=by
 have j:∀ b u,s.heap.get? b=some u->b≠a:=fun b u e z=>by rw [z,h0] at e; cases e
 have U:∀ b u,X.s₀.heap.get? b=some u->b≠a:=fun b u e=>by
  obtain ⟨u',e'⟩:=J.base.there b u e (O b);exact j b u' e'
 refine ⟨I.ok,I.os,I.bare,?_,I.loc,I.cell,?_,?_,?_,?_,I.len⟩
 ·have B:=I.base;exact ⟨B.keep,B.slot,fun c o e n hx=>by rw [Qi (U c o e)]; exact B.free c o e n hx,B.there,
   fun c ts e=>by have:=B.tups c ts e; rw [Qi (Qm this G)]; exact this,
   fun c o ts e=>by have:=B.frzs c o ts e; rw [Qi (Qm this G)]; exact this,
   fun c ps e=>by obtain ⟨more,q⟩:=B.tbls c ps e; exact ⟨more,by rw [Qi (Qm q G)]; exact q⟩⟩
 ·obtain ⟨m,⟨o,_,_,e,_⟩,_⟩:=J.loc;rw [Qi (j _ _ e)]; exact I.free
 ·intro x c e;obtain ⟨v,o,z,_⟩:=J.cell x c e;rw [Qi (j _ _ z)]; exact I.freeC x c e
 ·intro p hp;obtain ⟨e,n,ne,nf,d⟩:=I.pin p hp;exact ⟨e,by rw [Qi (j _ _ (J.pin p hp).1)]; exact n,ne,nf,d⟩
 ·intro c u q
  by_cases Z:c=a
  ·subst Z;rw [Je] at q; cases q;exact o
  ·rw [Qi Z] at q;exact (I.hok c u q).stay (fun _ _ _ r=>r) (fun c' r=>by rw [Qi (Qm r G)]; exact r) fun c' ts r=>by rw [Qi (Qm r G)]; exact r
theorem Inv.forget {i:Nat} {n:Str} {m:Str->Option aB} {h':Heap} {v:Option aB} {tk:Nat} (I:Inv X pins σ H s) (hN:X.N.Nodup) (hi:X.N[i]?=some n) (hl:∀ (i:Nat) (x:Str) (v:V),X.N[i]?=some x->σ[i]?=some (some v)->Vis X.env.scope x->∃ u,RelV v u/\Qxh X.env s.heap m x u)
  (Y:h'.Ns X.env.locals (fun x=>if x=n then v else m x)) (hs:Heap.SameBut X.env.locals s.heap h'):Inv X pins (σ.set i none) H { s with heap:=h',toks:=tk }:=by
 have cne:=I.cne;have B:HOk X.prog X.w H h':=I.hok.same I.free hs;have G:∀ b o,X.s₀.heap.get? b=some o->b≠X.env.locals:=fun b o e=>F2 (D6 (D1 e) I.ok.above)
 refine ⟨I.ok,I.os,I.bare,⟨fun b o e n O J=>(hs.2 b (G b o e)).trans (I.base.keep b o e n O J),fun b o e n O J=>?_,I.base.free,fun b o e J=>?_,I.base.tups,I.base.frzs,I.base.tbls⟩,⟨_,Y,fun j y v' e1 e2 e3=>?_⟩,fun y c e=>?_,I.free,I.freeC,fun p hp=>?_,B,by simpa using I.len⟩
 ·obtain ⟨sl,z⟩:=I.base.slot b o e n O J;exact ⟨sl,(hs.2 b (G b o e)).trans z⟩
 ·obtain ⟨o',z⟩:=I.base.there b o e J;exact ⟨o',(hs.2 b (G b o e)).trans z⟩
 ·by_cases U:j=i
  ·subst U;rw [hi] at e1; cases e1;have:j < σ.length:=by have:=(O0.mp e2).1; simpa using this
   rw [D7 this] at e2;cases e2
  ·rw [O6 (Ne.symm U)] at e2;obtain ⟨u,r,q⟩:=hl j y v' e1 e2 e3;refine ⟨u,r,?_⟩;rcases q with ⟨k,e⟩ | ⟨k,c,e,z⟩
   ·refine .inl ⟨k,?_⟩;have:y≠n:=fun e=>U (Q7s hN e1 (e ▸ hi))
    simp [this,e]
   ·exact .inr ⟨k,c,e,z.sameBut hs (cne y c e)⟩
 ·obtain ⟨Z,z⟩:=I.cell y c e;exact ⟨Z,z.sameBut hs (cne y c e)⟩
 ·obtain ⟨e,n,ne,nf,d⟩:=I.pin p hp;exact ⟨(hs.2 p.1 ne).trans e,n,ne,nf,d⟩
end
section
variable {X:Cx}
end
section
variable {X:Cx}
end
theorem Q6s (l:aA) (j:Array aB) (n:Nat) (dd:Option aA) (sl:Array (Option aB)) (t:Tok) :
  Meets (Builtin.«tuple.__mul__» ⟨[.ref l,.int 1 t],[]⟩) (fun _ R s=>s.heap.get? l=some { cls:=.type "tuple",dict:=dd,data:=.seq j n,slots:=sl }/\R (.ok (.ret (.ref l))) s):=
 .of_wp fun prog w A R s h=>by
  obtain ⟨hp,g,d,tk,os⟩:=s; obtain ⟨q,h⟩:=h
  wp_walk using wpAny_loadPart' q
  exact ⟨_,rfl,h⟩
theorem Q6t (l:aA) (j:Array aB) (n:Nat) (dd:Option aA) (sl:Array (Option aB)) (x:Int) (t:Tok) (h1:¬ (decide (x < -(2 ^ 63)) || decide (x>=2 ^ 63))=true) (h2:¬ (j.isEmpty || x == 1)=true) (O:¬ (decide (x<=0) || j.isEmpty)=true) (J:¬ (j.size:Int) * x > (2 ^ 63 - 1) / 8) (I:¬ Builtin.Tuple.tupleTooMany ((j.size:Int) * x)=true)
  (G:((bT x.toNat j).foldl (fun z q=>z ++ q) #[]).size<=sizeLine) :
  Meets (Builtin.«tuple.__mul__» ⟨[.ref l,.int x t],[]⟩) (fun _ R s=>s.heap.get? l=some { cls:=.type "tuple",dict:=dd,data:=.seq j n,slots:=sl } /\
   R (.ok (.ret (bV s.heap.objs.size))) { s with heap:=s.heap.push { cls:=eC "tuple",data:=Data.seq ((bT x.toNat j).foldl (fun z q=>z ++ q) #[]) } }):=
 .of_wp fun prog w A R s h=>by
  obtain ⟨hp,g,d,tk,os⟩:=s; obtain ⟨B,h⟩:=h
  wp_walk using wpAny_loadPart' B
  refine wpAny_ite_false (bP h1) ?_
  wp_walk using wpAny_loadPart' B
  refine wpAny_ite_false (bP J) ?_
  wp_walk using wpAny_loadPart' B
  all_goals first | exact ⟨_,rfl,h⟩ | (refine wpAny_ite_false (bP I) ?_; wp_walk) | skip
  all_goals first | exact ⟨_,rfl,h⟩ | (refine wpAny_ite_false (bP (Nat.not_lt.mpr G)) ?_; wp_walk; exact ⟨_,rfl,h⟩)
theorem Q8g (a:Int) (t:Tok) (l:aA) (j:Array aB) (n:Nat) (dd:Option aA) (sl:Array (Option aB)) :
  Meets (Builtin.«int.__rmul__» ⟨[.int a t,.ref l],[]⟩) (fun _ R s=>s.heap.get? l=some { cls:=.type "tuple",dict:=dd,data:=.seq j n,slots:=sl }/\R (.ok (.ret gA)) s):=
 .of_wp fun prog w A R s h=>by obtain ⟨hp,g,d,tk,os⟩:=s; obtain ⟨q,h⟩:=h; wp_walk using wpAny_loadPart' q; exact ⟨_,rfl,h⟩
theorem Q4y:fillsNumberSlot (.type "tuple") "mul" = pure false:=
 PySem.fillsNumberSlot_seq (id := "tuple.__mul__") (r:=some (.builtin "tuple.__rmul__")) F.slot_tuple_mul.lookup (by decide +kernel) F.slot_tuple_rmul.lookup (by decide +kernel)
theorem Qbn:seqRepeat? (.type "tuple")=pure (some (.builtin "tuple.__mul__")):=by
 unfold seqRepeat?;rw [gO (T := "tuple") (name := "__mul__") (id := "tuple.__mul__") F.slot_tuple_mul.lookup (by decide +kernel),gO (T := "tuple") (name := "__rmul__") (id := "tuple.__rmul__") F.slot_tuple_rmul.lookup (by decide +kernel)];rfl
section
variable {X:Cx}
def Qvj (K:bS):R2:=fun x y H Q=>∃ a k xs,x=.ref a/\y=.int k/\SqT K H a xs/\xs≠[]/\1<=k/\xs.length * k.toNat<=4096 /\
 (k=1->Q (.ref a) H)/\(k≠1->∀ p,H p=none->Q (.ref p) (upd H p (.tup (bT k.toNat xs).flatten)))
theorem Qpw:OpR X (aY .Mult) (Qvj X.K):=by
 intro pins s σ H x y v u Q I Y ry h;obtain ⟨a,k,xs,rfl,rfl,ha,G,hk,hz,q1,q2⟩:=h;cases Y;obtain ⟨t,rfl⟩:=ry;obtain ⟨its,r,Z,hs⟩:=I.tuple ha;obtain ⟨⟨cls,dd,data,sl⟩,ho,hc,n,hd⟩:=id Z;simp only at hc hd;subst hc hd;have J:its.length=xs.length:=r.length.symm;have hpos:0 < its.length:=by rw [J]; exact dE.mpr G
 have a2:k.toNat<=4096:=by
  have:1 * k.toNat<=xs.length * k.toNat:=Nat.mul_le_mul_right _ (by omega);omega
 refine wpAny_binaryOp_repeat_ref (T := "tuple") (U := "int") (by decide) ⟨_,ho,rfl⟩ (fun s'=>typeIs_int s' k t) Q4y F.fills_int_mul F.slot_int_rmul Qbn F.slot_int_index.lookup
  (au F.slot_int_rmul (typeIs_int s k t) F.entry_int_rmul (F.args_int_rmul_2 _ _) (Q8g k t a its.toArray n dd sl)
   ⟨ho,rfl,⟨_,ho,rfl⟩,?_⟩)
 by_cases h1:k=1
 ·subst h1;exact au F.slot_tuple_mul ⟨_,ho,rfl⟩ F.entry_tuple_mul (F.args_tuple_mul_2 _ _) (Q6s a its.toArray n dd sl t) ⟨ho,⟨.ref a,H,I,rfl,q1 rfl⟩⟩
 ·have O:dW (fun x1 x2=>x1 ++ x2) #[] (bT k.toNat its.toArray)=(bT k.toNat its).flatten.toArray:=by
   have:=Q58 its k.toNat [];rw [gF] at this;exact this
  have j:(its.toArray.size:Int) * k=((its.length * k.toNat:Nat):Int):=by
   rw [O4,Int.natCast_mul,Int.toNat_of_nonneg (by omega)]
  have B:(bT k.toNat its).flatten.length<=4096:=by rw [Qbz,J,ec]; exact hz
  have hb:its.length * k.toNat<=4096:=by rw [J]; exact hz
  refine au F.slot_tuple_mul ⟨_,ho,rfl⟩ F.entry_tuple_mul (F.args_tuple_mul_2 _ _) (Q6t a its.toArray n dd sl k t ?_ ?_ ?_ ?_ ?_ ?_) ⟨ho,?_⟩
  ·rw [bP (by omega),bP (by omega)]; exact E2
  ·intro z;rcases gP.mp z with z | z
   ·rw [gQ,gR] at z; rw [z] at hpos; simp at hpos
   ·exact h1 (eq_of_beq z)
  ·intro z;rcases gP.mp z with z | z
   ·have:=of_decide_eq_true z; omega
   ·rw [gQ,gR] at z; rw [z] at hpos; simp at hpos
  ·rw [j]; omega
  ·rw [j];have:(4096:Int)<=sizeLine:=by decide
   show ¬ decide (((its.length * k.toNat:Nat):Int) > (sizeLine:Int))=true;rw [bP (by omega)]; exact E2
  ·rw [O,O4]; exact F3 B (by decide)
  ·rw [O];refine ⟨.ref s.heap.objs.size,_,I.laid (t':=s.toks) (o:=.tup (bT k.toNat xs).flatten) (fun b ob q=>O1 _ q) (O8 _) ?_,rfl,q2 h1 _ (I.hok.fresh (O8 _))⟩;exact ⟨by rw [Qbz,ec]; exact F3 hz (by decide),_,r.rep k.toNat,IsTup.new _ _⟩
end
section
variable {X:Cx} {pins:List (aA × Obj)} {s:aC} {σ:St} {H:Hp}
open PySem.SeqAt
end
section
variable {K:bS} {cap:List (Option Nat)} {te:TE} {σ:St} {H1:Hp} {Q:VK}
end
section
variable {X:Cx} {pos:Pos}
end
theorem K1:∀ (names:List (Str × ao)) (h:Heap) (j:List (Str × aA)) (x:Str) (c:aA),(ai h.objs.size names j).lookup x=some c ->
  j.lookup x=some c\/((x,NameKind.cell)∈names/\h.objs.size<=c/\(pushCells h names).IsCell c none)
 | [],_,_,_,_,e=>.inl e
 | (name,kind) :: r,h,j,x,c,e=>by
  unfold ai at e;unfold pushCells
  by_cases B:(kind == NameKind.cell)=true
  ·rw [bN B] at e ⊢;have J:kind=.cell:=by simpa using B
   have O:=K1 r (h.push { cls:=.type "cell",data:=.cell none }) ((name,h.objs.size) :: j) x c (by rw [F9]; exact e);rw [F9] at O;rcases O with z | ⟨G,U,q⟩
   ·rw [E6] at z;cases I:x == name with
    | true=>
     rw [I] at z; cases z;exact .inr ⟨by rw [beq_iff_eq.mp I,J]; exact D3,O8 _,⟨_,pushCells_keeps _ _ _ _ (D9 _ rfl),rfl⟩⟩
    | false=>rw [I] at z; exact .inl z
   ·exact .inr ⟨D0 _ G,by omega,q⟩
  ·rw [bO B] at e ⊢;rcases K1 r h j x c e with z | ⟨G,U,q⟩
   ·exact .inl z
   ·exact .inr ⟨D0 _ G,U,q⟩
theorem Kp {x:Str}:∀ (names:List (Str × ao)) (n:Nat) (j:List (Str × aA)),(x,NameKind.cell)∉names->(ai n names j).lookup x=j.lookup x
 | [],_,_,_=>rfl
 | (name,kind) :: r,n,j,h=>by
  unfold ai;have B:(x,NameKind.cell)∉r:=fun z=>h (D0 _ z)
  by_cases q:(kind == NameKind.cell)=true
  ·rw [bN q,Kp r _ _ B,E6];cases G:x == name with
   | true=>exact absurd (by rw [beq_iff_eq.mp G,show kind=.cell by simpa using q]; exact D3) h
   | false=>rfl
  ·rw [bO q,Kp r _ _ B]
theorem x8 {x:Str} {c:aA}:∀ (names:List (Str × ao)) (n:Nat) (j:List (Str × aA)),(x,NameKind.cell)∈names->(ai n names j).lookup x=some c->n<=c
 | [],_,_,h,_=>by cases h
 | (name,kind) :: r,n,j,h,e=>by
  unfold ai at e
  by_cases z:(x,NameKind.cell)∈r
  ·by_cases B:(kind == NameKind.cell)=true
   ·rw [bN B] at e;exact Nat.le_of_succ_le (x8 r _ _ z e)
   ·rw [bO B] at e;exact x8 r _ _ z e
  ·rcases D8.mp h with q | q
   ·cases q;rw [bN (by decide),Kp r _ _ z,E6] at e;simp at e;exact eN e
   ·exact absurd q z
theorem x9:∀ (names:List (Str × ao)) (n:Nat) (j:List (Str × aA)),(∀ x c,j.lookup x=some c->c < n)->(∀ x y c,j.lookup x=some c->j.lookup y=some c->x=y) ->
  ∀ x y c,(ai n names j).lookup x=some c->(ai n names j).lookup y=some c->x=y
 | [],_,_,_,h=>h
 | (name,kind) :: r,n,j,h1,h2=>by
  unfold ai
  by_cases G:(kind == NameKind.cell)=true
  ·rw [bN G];refine x9 r (n + 1) _ (fun x c e=>?_) (fun x y c e z=>?_)
   ·rw [E6] at e;cases B:x == name with
    | true=>rw [B] at e; cases e; exact cg _
    | false=>rw [B] at e; exact cv (h1 x c e)
   ·rw [E6] at e z;cases B:x == name with
    | true=>
     rw [B] at e; cases e;cases q:y == name with
     | true=>rw [beq_iff_eq.mp B,beq_iff_eq.mp q]
     | false=>rw [q] at z; exact absurd (h1 y _ z) (bt _)
    | false=>
     rw [B] at e;cases q:y == name with
     | true=>rw [q] at z; cases z; exact absurd (h1 x _ e) (bt _)
     | false=>rw [q] at z; exact h2 x y c e z
  ·rw [bO G];exact x9 r n j h1 h2
theorem Q93 {M:Model} {A:aR} {E:aB->aC->Prop} {s:aC} {scope:Scope} {q:aA} {cl:List (Str × aA)} {qual:Str} {z:Option aA} {code:aB} {env:Env} {j:aA} {Q:Env->aC->Prop}
  (I:Q (newEnv scope s.heap.objs.size q (ai (s.heap.objs.size + 1) scope.names cl) qual z code (some env) j) { s with heap:=pushCells (s.heap.push { cls:=.type "dict",data:=.dict #[] }) scope.names }) :
  aI M A (newFunctionEnv scope q cl [] qual z code (some env) j) Q E s:=by
 simp only [newFunctionEnv,Option.isSome_some,if_true];refine aF (wpAny_alloc ?_);refine aF (wpAny_layCells _ (fun name kind B=>by cases G:kind == NameKind.cell <;> simp [G]) _ _ _ _ ?_);rw [show ({ s with heap:=s.heap.push { cls:=.type "dict",data:=.dict #[] } }:aC).heap.objs.size=s.heap.objs.size + 1 from F9 ..];refine aF ?_;rw [fC];exact aU (aU I)
def compOkC (N N':List Str) (sc scE:Scope) (cap:List (Option Nat)):Bool:=
 sc.kind == .function && sc.names.all (fun x=>x.2 != .cell || sc.names.lookup x.1 == some .cell) && sc.names.all (fun x=>x.2 != .local || sc.names.lookup x.1 == some .local) &&
 sc.names.all (fun x=>x.2 != .free || scE.names.lookup x.1 == some .cell || scE.names.lookup x.1 == some .free) && cap.length == N'.length &&
 (bU cap.length).all (fun i=>match cap[i]? with
  | some (some j)=>(match N'[i]?,N[j]? with | some a,some b=>a == b && sc.names.lookup a == some .free | _,_=>false)
  | _=>true)
structure CompOkC (N N':List Str) (sc scE:Scope) (cap:List (Option Nat)):Prop where
 kind:sc.kind=.function
 cel:∀ x∈sc.names,x.2=.cell->sc.names.lookup x.1=some .cell
 loc:∀ x∈sc.names,x.2=.local->sc.names.lookup x.1=some .local
 fre:∀ x∈sc.names,x.2=.free->scE.names.lookup x.1=some .cell\/scE.names.lookup x.1=some .free
 len:cap.length=N'.length
 at_:∀ (i j:Nat),cap[i]?=some (some j)->∃ x,N'[i]?=some x/\N[j]?=some x/\sc.names.lookup x=some .free
theorem compOkC.of {N N':List Str} {sc scE:Scope} {cap:List (Option Nat)} (h:compOkC N N' sc scE cap=true):CompOkC N N' sc scE cap:=by
 unfold compOkC at h;simp only [G8,L5,beq_iff_eq,gS,bne_iff_ne] at h;obtain ⟨⟨⟨⟨⟨h1,h2⟩,h3⟩,h4⟩,h5⟩,h6⟩:=h;refine ⟨h1,fun x q e=>?_,fun x q e=>?_,fun x q e=>?_,h5,fun i j e=>?_⟩
 ·rcases h2 x q with z | z
  ·exact absurd e z
  ·exact z
 ·rcases h3 x q with z | z
  ·exact absurd e z
  ·exact z
 ·rcases h4 x q with (z | z) | z
  ·exact absurd e z
  ·exact .inl z
  ·exact .inr z
 ·have hi:i < cap.length:=(O0.mp e).1;have:=h6 i (E4.mpr hi);rw [e] at this;simp only at this;cases e1:N'[i]? with
  | none=>rw [e1] at this; cases this
  | some a=>
   cases e2:N[j]? with
   | none=>rw [e1,e2] at this; cases this
   | some b=>
    rw [e1,e2] at this;simp only [G8,beq_iff_eq] at this;obtain ⟨rfl,z⟩:=this;exact ⟨a,rfl,rfl,z⟩
def Xa (X:Cx) (N':List Str) (sc:Scope) (cl:List (Str × aA)) (C:aA) (s0:aC) (H0:Hp) (ex:List aA):Cx:=
 { X with N:=N',s₀:=s0,H₀:=H0,env:=compEnvC sc cl C X.env,outer:=X.stack,ex:=ex,fn:=fun x=>sc.names.lookup x == some .cell,pn:=[],xe:=fun _ _=>False }
section
variable {X:Cx}
theorem Qn4 {pins:List (aA × Obj)} {σ:St} {H:Hp} {s:aC} {N N':List Str} {sc scE:Scope} {cap:List (Option Nat)} {cl:List (Str × aA)} {fp:List aA}
  (I:Inv X pins σ H s) (hN:X.N=N) (hE:X.env.scope=scE) (ck:CompOkC N N' sc scE cap) (c1:∀ x c,cl.lookup x=some c->X.env.cells.lookup x=some c) (c2:∀ x∈sc.names,x.2=.free->∃ c,cl.lookup x.1=some c)
  (hf:∀ b∈fp,Q92 X pins H b) (a6:∀ b∈fp,b < s.heap.objs.size) :
  Inv (Xa X N' sc (ai (s.heap.objs.size + 1) sc.names cl) s.heap.objs.size s H fp) [] (Q43 cap σ) H { s with heap:=pushCells (s.heap.push { cls:=.type "dict",data:=.dict #[] }) sc.names }:=by
 obtain ⟨G,O⟩:∃ G,pushCells (s.heap.push { cls:=.type "dict",data:=.dict #[] }) sc.names=G:=⟨_,rfl⟩;obtain ⟨B,J⟩:∃ B,ai (s.heap.objs.size + 1) sc.names cl=B:=⟨_,rfl⟩;rw [O,J];have keep:∀ b o,s.heap.get? b=some o->G.get? b=some o:=fun b o e=>by rw [<- O]; exact pushCells_keeps _ _ b o (O1 _ e)
 have a8:G.Ns s.heap.objs.size (fun _=>none):=by rw [<- O]; exact (Heap.Ns.new s.heap (.type "dict")).keeps (pushCells_keeps _ _)
 have look:∀ x c,B.lookup x=some c->cl.lookup x=some c\/(s.heap.objs.size + 1<=c/\G.IsCell c none):=fun x c e=>by
  rw [<- J] at e;have:=K1 (sc.names) (s.heap.push { cls:=.type "dict",data:=.dict #[] }) cl x c (by rw [F9]; exact e);rw [F9,O] at this;rcases this with z | ⟨_,z,z'⟩
  ·exact .inl z
  ·exact .inr ⟨z,z'⟩
 have Y:∀ x c,cl.lookup x=some c->c < s.heap.objs.size:=fun x c e=>by
  obtain ⟨v,o,ho,_⟩:=I.cell x c (c1 x c e);exact D1 ho
 have inj:∀ x y c,B.lookup x=some c->B.lookup y=some c->x=y:=by
  rw [<- J];exact x9 _ _ _ (fun x c e=>cv (Y x c e)) fun x y c a b=>I.ok.inj x y c (c1 x c a) (c1 y c b)
 have a9:∀ x,sc.names.lookup x=some .cell->∃ c,B.lookup x=some c:=fun x e=>by
  rw [<- J];exact fx.mp (eR _ _ _ (.inl e))
 have a7:∀ x,sc.names.lookup x=some .free->B.lookup x=cl.lookup x:=fun x e=>by
  rw [<- J];refine Kp _ _ _ fun z=>?_
  have:=ck.cel _ z rfl;rw [e] at this; cases this
 have kindOf:∀ x k,(compEnvC sc B s.heap.objs.size X.env).kindOf x=some k->k=.cell\/k=.free->sc.names.lookup x=some .free\/sc.names.lookup x=some .cell:=fun x k e hk=>by
  have e':(relabel sc X.env).names.lookup x=some k:=e;rw [Q19] at e';cases q:sc.names.lookup x with
  | none=>rw [q] at e'; cases e'
  | some k'=>
   rw [q] at e';have a5:(if (k' == NameKind.free && X.env.scope.kind == .function && X.env.kindOf x == some .cell)=true then NameKind.cell else k')=k:=bj e'
   by_cases U:(k' == NameKind.free && X.env.scope.kind == .function && X.env.kindOf x == some .cell)=true
   ·simp only [G8,beq_iff_eq] at U;rw [U.1.1]; exact .inl rfl
   ·rw [bO U] at a5;subst a5;rcases hk with z | z
    ·rw [z]; exact .inr rfl
    ·rw [z]; exact .inl rfl
 have cellAt:∀ x c,X.env.cells.lookup x=some c->∀ v,s.heap.IsCell c v->G.IsCell c v:=fun x c e v ⟨o,ho,hd⟩=>⟨o,keep c o ho,hd⟩
 have a2:∀ c,s.heap.objs.size<=c->H c=none:=fun c U=>I.hok.fresh U
 refine ⟨⟨I.ok.mod,ck.kind,I.ok.glob,I.ok.blt,O8 _,inj,fun x hx=>?_,fun x c h1 h2=>?_,I.ok.hd,I.ok.frames,.inl rfl,fun b hb=>?_,I.bs,
  F3 I.ok.bsz I.sz,fun b o e hb=>?_,fun b hb hz=>?_,I.stack,I.stkFree⟩,rfl,I.bare,Un.kept keep,⟨_,a8,fun i x v e1 e2 e3=>?_⟩,fun x c e=>?_,a2 _ (O8 _),fun x c e=>?_,fun p hp=>(by cases hp),I.hok.kept keep,?_⟩
 ·have hx:(compEnvC sc B s.heap.objs.size X.env).kindOf x=some .cell\/(compEnvC sc B s.heap.objs.size X.env).kindOf x=some .free:=hx;have q:sc.names.lookup x=some .free\/sc.names.lookup x=some .cell:=by
   rcases hx with z | z
   ·exact kindOf x _ z (.inl rfl)
   ·exact kindOf x _ z (.inr rfl)
  rcases q with q | q
  ·obtain ⟨c,U⟩:=c2 _ (cD q) rfl;exact ⟨c,(a7 x q).trans U⟩
  ·exact a9 x q
 ·have h1:sc.names.lookup x=some .cell:=by simpa [Xa] using h1
  have h2:B.lookup x=some c:=h2;rw [<- J] at h2;exact F3 (cL _) (x8 _ _ _ (cD h1) h2)
 ·refine ⟨F2 (a6 b hb),fun x c e=>?_⟩;rcases look x c e with z | ⟨z,_⟩
  ·exact (hf b hb).2.2.2.2.1 x c (c1 x c z)
  ·exact fun q=>absurd (D6 (a6 b hb) (F3 (cL _) (q ▸ z))) (bt _)
 ·rcases (hf b hb).2.2.2.1 with z | z
  ·exact I.ok.noex b o e z
  ·exact absurd (D6 (D1 e) (F3 I.ok.bsz z)) (bt _)
 ·rcases D8.mp (I.stkSub b hz) with e | z
  ·exact (hf b hb).2.1 e
  ·exact (hf b hb).2.2.1 z
 ·have e1:N'[i]?=some x:=e1;have e2:(Q43 cap σ)[i]?=some (some v):=e2;unfold Q43 at e2;rw [E8] at e2;cases q:cap[i]? with
  | none=>rw [q] at e2; cases e2
  | some oj=>
   rw [q] at e2;cases oj with
   | none=>cases e2
   | some j=>
    obtain ⟨y,z1,z2,z3⟩:=ck.at_ i j q;rw [e1] at z1; cases z1;have ev:σ[j]?=some (some v):=by
     have Z:(σ[j]?).join=some v:=bj e2;cases r:σ[j]? with
     | none=>rw [r] at Z; cases Z
     | some o=>rw [r] at Z; exact congrArg some Z
    obtain ⟨m',b0,hl⟩:=I.loc;have sK:X.env.scope.names.lookup x=some .cell\/X.env.scope.names.lookup x=some .free:=by rw [hE]; exact ck.fre _ (cD z3) rfl
    obtain ⟨u,ru,l⟩:=hl j x v (by rw [hN]; exact z2) ev (sK.elim (fun z=>.inr (.inl z)) fun z=>.inr (.inr z))
    refine ⟨u,ru,?_⟩;obtain ⟨c,U⟩:=c2 _ (cD z3) rfl;rcases l with ⟨k,_⟩ | ⟨k,c',a4,a3⟩
    ·have k:X.env.scope.names.lookup x=some .local:=k;rcases sK with z | z <;> (rw [k] at z; cases z)
    ·have:c=c':=by
      have q1:=c1 x c U;rw [a4] at q1;exact (bj q1).symm
     subst this;refine .inr ⟨?_,c,(a7 x z3).trans U,cellAt x c a4 _ a3⟩;show (relabel sc X.env).names.lookup x=some .cell\/(relabel sc X.env).names.lookup x=some .free;rw [Q19,z3];show some (if _ then NameKind.cell else NameKind.free)=_\/some (if _ then NameKind.cell else NameKind.free)=_
     split
     ·exact .inl rfl
     ·exact .inr rfl
 ·rcases look x c e with z | ⟨_,z⟩
  ·obtain ⟨v,q⟩:=I.cell x c (c1 x c z);exact ⟨v,cellAt x c (c1 x c z) v q⟩
  ·exact ⟨_,z⟩
 ·rcases look x c e with z | ⟨z,_⟩
  ·exact I.freeC x c (c1 x c z)
  ·exact a2 c (by omega)
 ·unfold Q43;show _=N'.length;rw [O2];exact ck.len
end
section
variable {X:Cx}
theorem Qs3 {x y:V} {us:List aB} (r:Vals [x,y] us):∃ u w,us=[u,w]/\RelV x u/\RelV y w:=by
 cases r with
 | cons a r=>
  cases r with
  | cons b r=>
   cases r with
   | nil=>exact ⟨_,_,rfl,a,b⟩
end
end L2
namespace PySem
open Sem (wp)
section
variable {prog:aO} {w:aM} {A:aR} {E:aB->aC->Prop} {hp:Heap} {gs:Array GenState} {dr:Drawn} {tk:Nat} {sy:OsState}
variable {cn cq:Str} {kC kN:aA} {bas tl tB:List aB} {hd:Bool} {sns:List Str} {subs:List aB} {abb:Bool} {coll:Option Bool} {dic:Option aA} {j0 j1 j2 j3 j5:Option aB} {BB Bn newI nI initI inN:String} {tN:List aB}
theorem Q6r (J:ExcBaseFacts Bn newI inN tN) (j:tB.contains (.type Bn)=true) (F:ExcBaseFacts BB nI initI tB) (T:OwnTail hp tB tl) {rest:List aB} {G:aA} {O:Obj} {Q:Fin->aC->Prop}
  (B:hp.get? kC=some (excClassObj cn cq kC kN bas tl hd sns subs abb coll dic j0 j1 j2 j3 j5 newI)) {K:bS} (X:K.In hp) (Y:bW K (.ref kC) "__init__" = some (some (.ref G))) (of:hp.get? G=some O) (cf:O.cls=.type "function")
  (Z:∀ h',(∀ b o,hp.get? b=some o->h'.get? b=some o)->h'.get? (hp.objs.size + 1)=some { cls:=.ref kC,data:=.fields #[.ref hp.objs.size,.none,.none,.none,.bool false,.none] }->aI (aJ prog w) A (call (.ref G) (.ref (hp.objs.size + 1) :: rest)) (fun r s'=>r=.none/\Q (.done (.ret (.ref (hp.objs.size + 1)))) s') E ⟨h',gs,dr,tk,sy⟩) (hz:rest.length<=sizeLine) :
  aI (aJ prog w) A (Builtin.«type.__call__» ⟨.ref kC :: rest,[]⟩) Q E ⟨hp,gs,dr,tk,sy⟩:=by
 repeat (first | with_reducible refine wpAny_loadPart_at B ?_ | with_reducible refine wpAny_madeBy_exc B ?_ | wp_step)
 refine codeAny_call_builtin_code (Code.quiet_builtin _ J.quiet) (wpAny_check_new_subU J j T B ?_);refine codeAny_exc_new_subU J j F T B ?_ hz;show aI _ _ _ _ _ _;obtain ⟨h2,e2⟩:∃ h2,(hp.push { cls:=.type "tuple",data:=.seq rest.toArray }).push { cls:=.ref kC,data:=.fields #[.ref hp.objs.size,.none,.none,.none,.bool false,.none] }=h2:=⟨_,rfl⟩;have kp:∀ b o,hp.get? b=some o->h2.get? b=some o:=fun b o q=>by rw [<- e2]; exact O1 _ (O1 _ q)
 have U:h2.get? (hp.objs.size + 1)=some { cls:=.ref kC,data:=.fields #[.ref hp.objs.size,.none,.none,.none,.bool false,.none] }:=by rw [<- e2]; heap_get
 have ot:h2.get? hp.objs.size=some { cls:=.type "tuple",data:=.seq rest.toArray }:=by rw [<- e2]; exact O1 _ (Heap.get?_push_at rfl rfl)
 rw [e2];have I:=kp _ _ B;have self:(bV kC :: tl).contains (.ref kC)=true:=by simp
 unfold isInstance
 repeat (first | with_reducible refine wpAny_loadPart_at U ?_ | (with_reducible refine wpAny_isSubtype_exc I ?_; rw [self]) | wp_step)
 show aI _ _ (typeLookup (.ref kC) _) _ _ _;refine (fm (X.keeps kp) Y).at ?_;refine az (aF ?_);unfold bindSpecial;refine aF (bJ (T := "function") ⟨_,kp _ _ of,cf⟩ ?_);rw [bN (by decide)];refine aU (aF (af (Z h2 kp U) (fun r s' z=>?_) fun _ _ z=>z))
 obtain ⟨rfl,z⟩:=z
 wp_walk
 exact z
theorem Qfk (O:ExcBaseFacts Bn newI inN tN) (z:tB.contains (.type Bn)=true) (F:ExcBaseFacts BB nI initI tB) (T:OwnTail hp tB tl) {rest:List aB} {q:aA} {B:Obj} {Q:aB->aC->Prop}
  (j:hp.get? kC=some (excClassObj cn cq kC kN bas tl hd sns subs abb coll dic j0 j1 j2 j3 j5 newI)) {K:bS} (X:K.In hp) (G:bW K (.ref kC) "__init__" = some (some (.ref q))) (of:hp.get? q=some B) (J:B.cls=.type "function")
  (I:∀ h',(∀ b o,hp.get? b=some o->h'.get? b=some o)->h'.get? (hp.objs.size + 1)=some { cls:=.ref kC,data:=.fields #[.ref hp.objs.size,.none,.none,.none,.bool false,.none] }->aI (aJ prog w) (A.under (.builtin "type.__call__" ⟨.ref kC :: rest,[]⟩)) (call (.ref q) (.ref (hp.objs.size + 1) :: rest)) (fun r s'=>r=.none/\Q (.ref (hp.objs.size + 1)) s') E ⟨h',gs,dr,tk,sy⟩) (hz:rest.length<=sizeLine) :
  aI (aJ prog w) A (call (.ref kC) rest) Q E ⟨hp,gs,dr,tk,sy⟩:=by
 have Y:=tc_lookup;have U:=tc_bind (.ref kC);have ty:(⟨hp,gs,dr,tk,sy⟩:aC).TypeIs (.ref kC) "type" := ⟨_,j,rfl⟩;refine wpAny_call (codeAny_of_tree ?_);show aI _ _ (callAny (.ref kC) _) _ _ _
 repeat (any_goals (first | assumption | with_reducible refine wpAny_loadPart_at j ?_ | wp_step))
 refine ⟨rfl,?_⟩;exact codeAny_call_builtin_at (Code.quiet_builtin _ (by decide +kernel)) entry_typeCall (wpAny_check_type_call_sub j (Q6r (hz:=hz) O z F T j X G of J fun h' k m=>I h' k m))
end
section
variable {M:Model} {A:aR} {E:aB->aC->Prop} {env:Env}
variable {cn cq:Str} {kC kN:aA} {bas tl:List aB} {hd:Bool} {sns:List Str} {subs:List aB} {abb:Bool} {coll:Option Bool} {dic:Option aA} {j0 j1 j2 j3 j5:Option aB} {newI:String}
theorem Q9h {s:aC} {x:Sem aB} {Q:Flow->aC->Prop} (B:tl.contains (.type "BaseException")=true) (G:A.handled=none)
  (h:aI M A x (fun v s1=>∃ e t j,v=.ref e/\s1.heap.get? kC=some (excClassObj cn cq kC kN bas tl hd sns subs abb coll dic j0 j1 j2 j3 j5 newI) /\
   s1.heap.get? e=some { cls:=.ref kC,dict:=j,data:=.fields #[.ref t,.none,.none,.none,.bool false,.none] }/\E (.ref e) s1) E s):aI M A (raiseStmt env (some x) none) Q E s:=by
 have I:(bV kC :: tl).contains (.type "BaseException")=true:=by rw [List.contains_cons,B,Bool.or_true]
 unfold raiseStmt;refine aF (af h (fun v s1 z=>?_) fun _ _ z=>z)
 obtain ⟨e,t,j,rfl,q,J,z⟩:=z;obtain ⟨hp,gs,dr,tk,sy⟩:=s1
 repeat (first | with_reducible refine wpAny_loadPart_at J ?_ | with_reducible refine wpAny_loadPart_at q ?_ | (with_reducible refine wpAny_isSubtype_exc q ?_; rw [I]) | wp_step)
 exact wpAny_raiseNew_none G z
end
end PySem
namespace L2
open PySem PySem.Spec PyProof.Rows PySem.W PySem.Builtin.ObjectAttr
structure XSet (K:Frag) (C W:aA) (name:Str):Prop where
 sa:findIn K (.ref C) "__setattr__" = some (some (.builtin "object.__setattr__"))
 ob:mroIn K C (.type "object")=some true
 cls:∃ cd,clsIn K C=some cd/\cd.mro=.ref C :: .ref W :: X9/\cd.hasDict=true
 no:findIn K (.ref C) name=some none
section
variable {prog:aO} {w:aM} {A:aR} {E:aB->aC->Prop} {s:aC} {K:Frag} {x C W:aA} {name:Str} {v:aB}
theorem Qnf {vs:Array aB} {Q:Unit->aC->Prop} (X:K.In s.heap) (S:XSet K C W name) (z:s.heap.get? x=some { cls:=.ref C,data:=.fields vs })
  (hq:∀ h' tk,h'.get? x=some { cls:=.ref C,dict:=some s.heap.objs.size,data:=.fields vs }->h'.Ns1 s.heap.objs.size (fun y=>if y=name then some v else none) ->
   (∀ b o,b≠x->s.heap.get? b=some o->h'.get? b=some o)->Q () { s with heap:=h',toks:=tk }):aI (aJ prog w) A (setAttr (.ref x) name v) Q E s:=by
 have J:InstAt s.heap x { cls:=.ref C,data:=.fields vs } C none:=⟨z,rfl,rfl,True.intro⟩;obtain ⟨cd,Y,hm,hd⟩:=S.cls;refine set_plain X J S.sa ?_;have j:=PySem.F.store_ValueError;have sub:Looks (aJ prog w) s.heap (isInstance (.ref x) (.type "object")) true:=J.type.andThen (looks_mroIn X S.ob);refine codeAny_call_builtin j.slot.plain j.entry (@check_slot (aJ prog w) _ _ { s with toks:=s.toks + 1 } "object.__setattr__" "object" "__setattr__" (.ref x) [.str name s.toks,v] [] _ j.kind j.split sub (j.args (.ref x) (.str name s.toks) v) ?_);have lm:Looks (aJ prog w) s.heap (mroOf (.ref C)) cd.mro:=(looks_clsIn X Y).andThen .now;rw [osa_eq,refuse_eq];refine aF (aF (Looks.here (s:={ s with toks:=s.toks + 1 }) J.type (aF (Looks.here (s:={ s with toks:=s.toks + 1 }) lm ?_))));rw [hm,refuseLoop_ref,refuseLoop_ref,j.passes];refine aU (aF (Looks.here (s:={ s with toks:=s.toks + 1 }) J.type (aF (Looks.here (s:={ s with toks:=s.toks + 1 }) (looks_findIn X S.no) (aF (aU ?_))))))
 dsimp only;unfold storeInOwnDict;refine aF (aU (aF ?_));unfold ownDictForStores instanceDict;refine aF (wpAny_loadPart z (aF (Looks.here (s:={ s with toks:=s.toks + 1 }) (looks_clsIn X Y) ?_)));rw [hd];have U:(s.heap.push { cls:=.type "dict",data:=.dict #[] }).get? x=some { cls:=.ref C,data:=.fields vs }:=O1 _ z;have xs:x≠s.heap.objs.size:=F2 (D1 z);have th:typeHasDict (.ref C)=true:=rfl;dsimp only;rw [bO (by decide),bO (by rw [th]; decide)];refine aF (wpAny_alloc' ?_);refine aF (wpAny_update' U ?_);refine aU ?_;obtain ⟨h2,e2⟩:∃ h2,((s.heap.push { cls:=.type "dict",data:=.dict #[] }).update x fun o=>{ cls:=o.cls,dict:=some s.heap.objs.size,data:=o.data,slots:=o.slots })=h2:=⟨_,rfl⟩
 have g2:h2.get? s.heap.objs.size=some { cls:=.type "dict",data:=.dict #[] }:=by rw [<- e2]; exact (Heap.get?_update_ne _ _ _ _ xs.symm).trans (Heap.get?_push_at rfl rfl)
 have x2:h2.get? x=some { cls:=.ref C,dict:=some s.heap.objs.size,data:=.fields vs }:=by rw [<- e2]; exact L6 _ U rfl
 have k2:∀ b o,b≠x->s.heap.get? b=some o->h2.get? b=some o:=fun b o n q=>by rw [<- e2]; exact (Heap.get?_update_ne _ _ _ _ n).trans (O1 _ q)
 have n2:h2.Ns s.heap.objs.size (fun _=>none):=⟨_,#[],_,g2,rfl,fun e he=>absurd he (by simp),fun _=>rfl⟩;show aI _ _ (storeInDict s.heap.objs.size (.str name s.toks) name v) _ _ _;rw [e2];unfold storeInDict newKeyGuard;refine aF (aU (aF (wpAny_nsSet1 (Heap.Ns1.of_empty n2) fun h' Z O=>?_)))
 obtain ⟨oD,a3,a2,G,I,B⟩:=Z.count (Within.cons name v Within.nil);refine aF (wpAny_lookBehind G (by rw [I]; exact pastItsLine_dict (F3 B (by rw [E3,cU,sizeLine_eq]; omega))) ?_);exact aU (hq h' _ ((O.2 x xs).trans x2) Z fun b o n q=>(O.2 b (F2 (D1 q))).trans (k2 b o n q))
end
end L2
namespace L2
open PySem PySem.Spec PyProof.Rows PySem.W
def XO (x C:aA) (dv:Option aA) (h:Heap):Prop:=∃ t,h.get? x=some { cls:=.ref C,dict:=dv,data:=.fields #[.ref t,.none,.none,.none,.bool false,.none] }
theorem Qj4 {P:aO} {w:aM} {H:Hp} {h:Heap} {x C:aA} {j:Option aA} (o:XO x C j h):ObjOk P w H h x (.ext (XO x C j)):=
 ⟨o,o.elim fun t e=>⟨_,e⟩,fun h1 h2 ⟨t,e⟩ k=>⟨t,k _ e⟩⟩
structure XMade (K:Frag) (C W f:aA):Prop where
 lk:∃ nm q N bs sn sub ab col dd k0 k1 k2 k3 k5,K.lookup C=some (excClassObj nm q C N bs (.ref W :: X9) true sn sub ab col dd k0 k1 k2 k3 k5 "ValueError.__new__")
 xw:excIn K W X9 "ValueError.__new__" = true
 fi:findIn K (.ref C) "__init__" = some (some (.ref f))
 ff:∃ o,K.lookup f=some o/\o.cls=.type "function"
 kp:keepIn K (.ref C)=true
theorem XMade.tail {K:Frag} {C W f:aA} {h:Heap} (M:XMade K C W f) (X:K.In h):OwnTail h X9 (.ref W :: X9):=by
 obtain ⟨tl,N,nm,B,bs,hdct,sn,sub,ab,col,dd,k0,k1,k2,k3,k5,mN,z,q,j,T⟩:=(Qg0 (mg:=fun _=>some (.ref W)) (x := "W") X rfl M.xw).obj
 exact .own z q j .base
section
variable {prog:aO} {w:aM} {A:aR} {E:aB->aC->Prop} {s:aC} {K:Frag} {x C W f:aA}
theorem Qry {u:aB} {Q:aB->aC->Prop} (X:K.In s.heap) (M:XMade K C W f) (o:XO x C none s.heap)
  (z:∀ h',(∀ b o,b≠x->s.heap.get? b=some o->h'.get? b=some o)->XO x C none h'->Q .none { s with heap:=h' }):aI (aJ prog w) A (call (.builtin "ValueError.__init__") [.ref x,u]) Q E s:=by
 obtain ⟨t,j⟩:=o;obtain ⟨nm,q,N,bs,sn,sub,ab,col,dd,k0,k1,k2,k3,k5,lk⟩:=M.lk;obtain ⟨hp,gs,dr,tk,sy⟩:=s;refine wpAny_call (codeAny_call_builtin PySem.F.excBase_ValueError.init.plain PySem.F.excBase_ValueError.initEntry (wpAny_check_init_subU dF (M.tail X) (X _ _ lk) j rfl ?_))
 wp_walk
 refine z _ (fun b o n e=>?_) ⟨hp.objs.size,?_⟩
 ·rw [F0 _ _ (Ne.symm n)];exact O1 _ e
 ·rw [L6 _ (O1 _ j) rfl];rfl
end
section
variable {X:Cx} {x C W f:aA}
structure XCall (K:Frag) (W:aA):Prop where
 ga:specialIn K (.ref W) "__getattribute__" = some (some (.builtin "type.__getattribute__"))
 rd:readsIn K W (.type "type")=true
 fc:findCls K (.ref W) (.type "type") "__init__" = some (.val (.builtin "ValueError.__init__"))
def tXI (K:Frag) (C W f:aA) (t:TA):TE:=fun σ H Q=>t σ H fun vs H1=>∃ x y,vs=[.ref x,y]/\H1 x=some (.ext (XO x C none))/\Q .non H1
theorem Qk4 {n:Str} {p apos pos:Pos} {a b:aD} {t:TA} {pl:Sem Bool} (M:XMade X.K C W f) (L:XCall X.K W) (hg:Gl X n) (U:X.mg n=some (.ref W)) (ha:PA X [a,b] t) (J:(n == ("__debug__" : Str))=false:=by decide)
  (B:aP [a,b] X.env=[(false,aN a X.env),(false,aN b X.env)]:=by rfl)
  (Y:aN (.Call (.Attribute (.Name n p) "__init__" apos) [a,b] [] pos) X.env=(do
   let ov <- aN (.Name n p) X.env
   standAt apos.atName
   let (g,first) <- ak [ov] (getMethod ov "__init__" pl)
   callWith pos g first (aW pos (aP [a,b] X.env)) (backToKw pos (keywordEach [] X.env))):=by rfl) :
  PE X (.Call (.Attribute (.Name n p) "__init__" apos) [a,b] [] pos) (tXI X.K C W f t):=by
 intro pins s σ H Q I h;refine methodCall_KW (pl:=pl) (jg I hg U ?_ J) Y;refine method_cls I.kIn L.ga (cls_value I.kIn L.rd L.fc (by first | rfl | kernel_rfl) ?_);have I1:Inv X pins σ H { s with toks:=s.toks + 1 }:=I.tok _;have O:=ha pos pins _ σ H _ I1 h;rw [B] at O ⊢;refine Calls.callWith_builtin rfl (Calls.evalArgs_plain ?_);refine thn O fun us s2 ⟨vs,H2,j,Z,x,y,e,G,q⟩=>?_
 subst e;obtain ⟨u1,u2,rfl,r1,r3⟩:=Qs3 Z;cases r1;refine Qry j.kIn M (j.hok x _ G).1 fun h' kk o=>?_
 refine ⟨.non,H2,?_,rfl,q⟩;have:=j.write (x:=x) (e:=x) (o:=.ext (XO x C none)) (t':=s2.toks) (h':=h') (by rw [G]; exact trivial) (.inl rfl) kk (o.elim fun t e=>⟨_,e⟩) (Qj4 o);have eq:upd H2 x (.ext (XO x C none))=H2:=by
  funext b
  by_cases z:b=x
  ·subst z; rw [Je,G]
  ·rw [Qi z]
 rw [eq] at this;exact this
theorem Inv.trackO {pins:List (aA × Obj)} {σ:St} {H H':Hp} {s s1:aC} {a:aA} {Y:HO} (J:Inv X pins σ H s) (O:∀ b,b∉X.ex) (h0:s.heap.get? a=none) (I:Inv X pins σ H' s1) (G:H' a=none) (o:ObjOk X.prog X.w (upd H' a Y) s1.heap a Y):Inv X pins σ (upd H' a Y) s1:=by
 have j:∀ b u,s.heap.get? b=some u->b≠a:=fun b u e z=>by rw [z,h0] at e; cases e
 have U:∀ b u,X.s₀.heap.get? b=some u->b≠a:=fun b u e=>by
  obtain ⟨u',e'⟩:=J.base.there b u e (O b);exact j b u' e'
 refine ⟨I.ok,I.os,I.bare,?_,I.loc,I.cell,?_,?_,?_,?_,I.len⟩
 ·have B:=I.base;exact ⟨B.keep,B.slot,fun c o e n hx=>by rw [Qi (U c o e)]; exact B.free c o e n hx,B.there,
   fun c ts e=>by have:=B.tups c ts e; rw [Qi (Qm this G)]; exact this,
   fun c o ts e=>by have:=B.frzs c o ts e; rw [Qi (Qm this G)]; exact this,
   fun c ps e=>by obtain ⟨more,q⟩:=B.tbls c ps e; exact ⟨more,by rw [Qi (Qm q G)]; exact q⟩⟩
 ·obtain ⟨m,⟨o,_,_,e,_⟩,_⟩:=J.loc;rw [Qi (j _ _ e)]; exact I.free
 ·intro x c e;obtain ⟨v,o,z,_⟩:=J.cell x c e;rw [Qi (j _ _ z)]; exact I.freeC x c e
 ·intro p hp;obtain ⟨e,n,ne,nf,d⟩:=I.pin p hp;exact ⟨e,by rw [Qi (j _ _ (J.pin p hp).1)]; exact n,ne,nf,d⟩
 ·intro c u q
  by_cases Z:c=a
  ·subst Z;rw [Je] at q; cases q;exact o
  ·rw [Qi Z] at q;exact (I.hok c u q).stay (fun _ _ _ r=>r) (fun c' r=>by rw [Qi (Qm r G)]; exact r) fun c' ts r=>by rw [Qi (Qm r G)]; exact r
def tXS (C:aA) (name:Str) (ta tv:TE):TS:=fun D σ H=>tv σ H fun y H1=>ta σ H1 fun v H2=>∃ x,v=.ref x/\H2 x=some (.ext (XO x C none)) /\
 ∀ dx,H2 dx=none->dx≠x->D.nx σ (upd (upd H2 x (.ext (XO x C (some dx)))) dx (.xd [(name,y)]))
theorem Qpb {o value:aD} {name:Str} {ta tv:TE} {pos pos':Pos} (B:∀ b,b∉X.ex) (S:XSet X.K C W name) (ha:PE X o ta) (hv:PE X value tv) (hs:swapsWith value (some (.Attribute o name pos')) pos.line X.env=pure false:=by rfl) :
  PS X (.Assign [.Attribute o name pos'] value pos) (tXS C name ta tv):=by
 intro pins s σ H D I h;refine plainObj_wpAny_Assign_Attribute (thn (hv pins s σ H _ I h) fun u s1 ⟨y,H1,U,ry,q⟩=>thn (ha pins s1 σ H1 _ U q) fun O s2 ⟨v,H2,j,Y,x,ex,J,q2⟩=>?_) hs
 subst ex;obtain rfl:O=bV x:=Y;obtain ⟨t,G⟩:=(j.hok x _ J).1;refine Qnf j.kIn S G fun h' tk o' n' kk=>?_
 have xs:s2.heap.objs.size≠x:=cK (D1 G);have Z:=j.write (x:=x) (e:=x) (o:=.ext (XO x C (some s2.heap.objs.size))) (t':=tk) (h':=h') (by rw [J]; exact trivial) (.inl rfl) kk ⟨_,o'⟩ (Qj4 ⟨t,o'⟩);refine ⟨σ,_,?_,q2 s2.heap.objs.size j.fresh xs⟩;refine Inv.trackO j B (Heap.get?_none_of_le (O8 _)) Z (by rw [Qi xs]; exact j.fresh) ⟨_,n',fun g=>?_⟩;show RelO ([(name,y)].lookup g) (if g=name then some u else none)
 by_cases z:g=name
 ·subst z;rw [bN rfl,E6,show (g == g)=true by simp];exact ry
 ·have:(g == name)=false:=by simpa using z
  rw [bO z,E6,this];exact trivial
end
end L2
namespace PySem
open Sem (wp)
def Q12 (o:Obj):Option aB:=match o.data with | .fields vs=>vs[2]? | _=>none
theorem Qe5 {o:Obj} {vs:Array aB} {x:aB} (j:o.data=.fields vs):Q12 (bw (·.setIfInBounds 1 x) o)=Q12 o:=by
 have d:=cF j (·.setIfInBounds 1 x);unfold Q12;rw [d,j];exact fG (by decide)
section
variable {M:Model} {A:aR} {E:aB->aC->Prop} {s:aC} {bs:Heap} {en:Env} {ou:List Env} {L e:aA} {ob:Obj} {vs:Array aB} {a0:aB} {Q:Unit->aC->Prop}
theorem Q8p {B:aB} {nx:Bool} (fr:A.frames=some (en :: ou)) (ff:s.heap.FunFrames bs (en :: ou)) (ef:en.frame=some L) (Z:s.heap.get? e=some ob) (kb:bs.StaysIn s.heap) (ne:bs.get? e=none)
  (I:ob.data=.fields vs) (Y:1 < vs.size) (z0:vs[0]?=some a0)
  (h:∀ h',Heap.LeftW bs (en :: ou) e ob.cls a0 s.heap h'->(∃ o',h'.get? e=some o'/\o'.dict=ob.dict/\Q12 o'=Q12 ob)->Q () { s with heap:=h' }) :
  aI M A (do
   let a <- frameOf en
   let pl <- entryPlaceOf L nx
   let b <- EntryCells.newEntry B a .none (ag L) .none pl
   setField (.ref e) 1 b) (fun _ s'=>aI M A (setFlight (.ref e) none) Q E s') E s:=by
 have nf:e∉(en :: ou).filterMap (·.frame):=fun m=>by
  obtain ⟨_,o,q,n⟩:=ff.mem m;rw [Z] at q;cases q;exact n vs I
 refine aF (wpAny_frameOf_fun fr ff ef fun g gs=>?_);refine aF (wpAny_entryPlaceOf fun pl hp=>?_);unfold EntryCells.newEntry newFields;refine aF (av ?_ (hp.sizeOk5 _ _ _ _ _));have ge:g.get? e=some ob:=(gs.2.1 e nf).trans Z;have gb:bs.StaysIn g:=fun b o q=>(gs.2.1 b fun m=>by
  rw [(ff.mem m).1] at q;cases q).trans (kb b o q)
 obtain ⟨tb,U⟩:∃ tb:List aB,[B,.ref L,.none,ag L,.none] ++ (if pl.isEmpty then bT 6 bf else pl)=tb:=⟨_,rfl⟩;have l5:3 < tb.length/\tb[3]?=some (ag L):=by
  rw [<- U];exact ⟨by simp,by simp⟩
 rw [U];have J:=O1 (h:=g) { cls:=.type "traceback",dict:=none,data:=.fields tb.toArray } ge;refine wpAny_setField J I Y ?_;have te:g.objs.size≠e:=cK (D1 ge);have d3:=cF I (·.setIfInBounds 1 (bV g.objs.size));have j:=L6 (bw (·.setIfInBounds 1 (bV g.objs.size))) J (dD d3);have G:=(F0 (g.push { cls:=.type "traceback",dict:=none,data:=.fields tb.toArray })
  (bw (·.setIfInBounds 1 (bV g.objs.size))) te.symm).trans
  (D9 g rfl)
 unfold setFlight;refine aF (aa j d3 (x:=.ref g.objs.size) (by simp [Y]) ?_);rw [bN (show (bV g.objs.size != bf)=true by simp)];refine wpAny_setField G rfl (by simpa using l5.1) (h _ ?_ ?_)
 all_goals
  obtain ⟨g3,O⟩:∃ g3,((g.push { cls:=.type "traceback",dict:=none,data:=.fields tb.toArray }).update e (bw (·.setIfInBounds 1 (bV g.objs.size))))=g3:=⟨_,rfl⟩;rw [O] at j G ⊢
 ·have kp:∀ b o,b≠e->g.get? b=some o->(g3.update g.objs.size (bw (·.setIfInBounds 3 ((none:Option aA).elim bf fun f=>ag f)))).get? b=some o:=fun b o n q=>by
   rw [F0 _ _ (cK (D1 q)),<- O,F0 _ _ n.symm];exact O1 _ q
  have nr:∀ b o,s.heap.get? b=some o->(∀ ws,o.data≠.fields ws)->b≠e:=fun b o q n z=>by
   rw [z,Z] at q;cases q;exact n vs I
  refine ⟨fun b o q=>kp b o (fun z=>by rw [z,ne] at q; cases q) (gb b o q),ff.of_keeps fun b o q n=>?_,?_,fun b o q n=>?_⟩
  ·obtain ⟨sl,z⟩:=gs.2.2 b o q;exact ⟨_,kp b _ (nr b o q n) z,rfl⟩
  ·refine ⟨_,_,g.objs.size,_,_,?_,⟨ez _ _,?_⟩,d3,by simp [Y],gb.fresh,te,L6 _ G (dD (cF rfl _)),cF rfl _,?_⟩
   ·rw [F0 _ _ te];exact j
   ·rw [fG (by decide)];exact z0
   ·have:=l5.1;simp [this]
  ·obtain ⟨sl,z⟩:=gs.2.2 b o q;exact ⟨sl,kp b _ (nr b o q n) z⟩
 ·refine ⟨_,(F0 _ _ te).trans j,?_,Qe5 I⟩;cases ob with
  | mk c d dt sl=>cases dt <;> first | rfl | cases I
theorem Qdx (G:A.frames=some (en :: ou)) (ff:s.heap.FunFrames bs (en :: ou)) (q:en.frame=some L) (B:s.heap.get? e=some ob) (kb:bs.StaysIn s.heap) (ne:bs.get? e=none)
  (z:ob.data=.fields vs) (j:vs[1]?=some .none) (I:vs[0]?=some a0)
  (h:∀ h',Heap.LeftW bs (en :: ou) e ob.cls a0 s.heap h'->(∃ o',h'.get? e=some o'/\o'.dict=ob.dict/\Q12 o'=Q12 ob)->Q () { s with heap:=h' }):aI M A (leaving en (.ref e)) Q E s:=by
 unfold leaving noteFrame;simp only [q];refine aF (aF (aa B z j ?_));rw [bO (by decide)];exact Q8p G ff q B kb ne z (cw.mp j).1 I h
theorem Qdw {cls:aB} {U:Option aA} (fr:A.frames=some (en :: ou)) (Z:en.frame=some L) (fl:Heap.FlyingW bs (en :: ou) e cls a0 s.heap) (dd:∃ o',s.heap.get? e=some o'/\o'.dict=U/\Q12 o'=some .none)
  (h:∀ h',Heap.FlyingW bs ou e cls a0 h'->(∃ o',h'.get? e=some o'/\o'.dict=U/\Q12 o'=some .none)->s.heap.UpToSlots h'->Q () { s with heap:=h' }):aI M A (leaving en (.ref e)) Q E s:=by
 obtain ⟨kb,ne,ff,oe,O,T,oT,ts,G,⟨hc,z0⟩,od,z1,nT,Te,hT,dT,z3⟩:=fl;obtain ⟨o',j,I,J⟩:=dd;rw [G] at j;cases j;unfold leaving noteFrame;simp only [Z];refine aF (aF (aa G od z1 ?_));rw [bN (show (bV T != bf)=true by simp)];refine aF (aa hT dT z3 ?_);rw [bO (show ¬ ((bf == ag L)=true) by simp [ag])];refine aF (wpAny_setField hT dT (cw.mp z3).1 ?_);have B:∀ b,b≠T->(s.heap.update T (bw (·.setIfInBounds 3 bf))).get? b=s.heap.get? b:=fun b n=>F0 _ _ n.symm
 have Y:∀ b o,s.heap.get? b=some o->(∀ O,o.data≠.fields O)->b≠T:=fun b o q n z=>by
  rw [z,hT] at q;cases q;exact n ts dT
 refine Q8p fr (ff.of_keeps fun b o q n=>⟨o,(B b (Y b o q n)).trans q,rfl⟩) Z ((B e Te.symm).trans G) (fun b o q=>(B b fun z=>by rw [z,nT] at q; cases q).trans (kb b o q)) ne od (cw.mp z1).1 z0 fun h' lf d'=>?_
 obtain ⟨k1,⟨_,_,k2⟩,k3,k4⟩:=lf;rw [hc] at k3;exact h h' ⟨k1,ne,k2,k3⟩ (d'.imp fun o q=>⟨q.1,q.2.1.trans I,q.2.2.trans J⟩) fun b o q n=>k4 b o ((B b (Y b o q n)).trans q) n
theorem Q61 {j:aB} {nx:Bool} (fr:A.frames=some (en :: ou)) (ff:s.heap.FunFrames bs (en :: ou)) (ef:en.frame=some L) (O:s.heap.get? e=some ob) (kb:bs.StaysIn s.heap) (ne:bs.get? e=none)
  (B:ob.data=.fields vs) (Y:1 < vs.size) (z0:vs[0]?=some a0)
  (h:∀ h',Heap.NotedW bs (en :: ou) e ob.cls a0 (ag L) s.heap h'->(∃ o',h'.get? e=some o'/\o'.dict=ob.dict/\Q12 o'=Q12 ob)->Q () { s with heap:=h' }) :
  aI M A (do
   let a <- frameOf en
   let pl <- entryPlaceOf L nx
   let b <- EntryCells.newEntry j a .none (ag L) .none pl
   setField (.ref e) 1 b) Q E s:=by
 have nf:e∉(en :: ou).filterMap (·.frame):=fun m=>by
  obtain ⟨_,o,q,n⟩:=ff.mem m;rw [O] at q;cases q;exact n vs B
 refine aF (wpAny_frameOf_fun fr ff ef fun g gs=>?_);refine aF (wpAny_entryPlaceOf fun pl hp=>?_);unfold EntryCells.newEntry newFields;refine aF (av ?_ (hp.sizeOk5 _ _ _ _ _));have ge:g.get? e=some ob:=(gs.2.1 e nf).trans O;have gb:bs.StaysIn g:=fun b o q=>(gs.2.1 b fun m=>by
  rw [(ff.mem m).1] at q;cases q).trans (kb b o q)
 obtain ⟨tb,J⟩:∃ tb:List aB,[j,.ref L,.none,ag L,.none] ++ (if pl.isEmpty then bT 6 bf else pl)=tb:=⟨_,rfl⟩;have l5:3 < tb.length/\tb[3]?=some (ag L):=by
  rw [<- J];exact ⟨by simp,by simp⟩
 rw [J];have I:=O1 (h:=g) { cls:=.type "traceback",dict:=none,data:=.fields tb.toArray } ge;have te:g.objs.size≠e:=cK (D1 ge);have d3:=cF B (·.setIfInBounds 1 (bV g.objs.size));have G:=L6 (bw (·.setIfInBounds 1 (bV g.objs.size))) I (dD d3);have U:=(F0 (g.push { cls:=.type "traceback",dict:=none,data:=.fields tb.toArray })
  (bw (·.setIfInBounds 1 (bV g.objs.size))) te.symm).trans
  (D9 g rfl)
 refine wpAny_setField I B Y (h _ ?_ ?_)
 ·have kp:∀ b o,b≠e->g.get? b=some o->((g.push { cls:=.type "traceback",dict:=none,data:=.fields tb.toArray }).update e (bw (·.setIfInBounds 1 (bV g.objs.size)))).get? b=some o:=fun b o n q=>by
   rw [F0 _ _ n.symm];exact O1 _ q
  have Z:∀ b o,s.heap.get? b=some o->(∀ ws,o.data≠.fields ws)->b≠e:=fun b o q n z=>by
   rw [z,O] at q;cases q;exact n vs B
  refine ⟨fun b o q=>kp b o (fun z=>by rw [z,ne] at q; cases q) (gb b o q),ff.of_keeps fun b o q n=>?_,?_,fun b o q n=>?_⟩
  ·obtain ⟨sl,z⟩:=gs.2.2 b o q;exact ⟨_,kp b _ (Z b o q n) z,rfl⟩
  ·refine ⟨_,_,g.objs.size,_,_,G,⟨ez _ _,?_⟩,d3,by simp [Y],gb.fresh,te,U,rfl,by simpa using l5.2⟩;rw [fG (by decide)];exact z0
  ·obtain ⟨sl,z⟩:=gs.2.2 b o q;exact ⟨sl,kp b _ (Z b o q n) z⟩
 ·refine ⟨_,G,?_,Qe5 B⟩;cases ob with
  | mk c d dt sl=>cases dt <;> first | rfl | cases B
theorem Qi2 {cls:aB} {U:Option aA} (fr:A.frames=some (en :: ou)) (Z:en.frame=some L) (fl:Heap.FlyingW bs (en :: ou) e cls a0 s.heap) (dd:∃ o',s.heap.get? e=some o'/\o'.dict=U/\Q12 o'=some .none)
  (h:∀ h',Heap.HeldW bs (en :: ou) e cls a0 L h'->(∃ o',h'.get? e=some o'/\o'.dict=U/\Q12 o'=some .none)->s.heap.UpToSlots h'->Q () { s with heap:=h' }):aI M A (noteFrame (.ref e) en) Q E s:=by
 obtain ⟨kb,ne,ff,oe,O,T,oT,ts,G,⟨hc,z0⟩,od,z1,nT,Te,hT,dT,z3⟩:=fl;obtain ⟨o',j,I,J⟩:=dd;rw [G] at j;cases j;unfold noteFrame;simp only [Z];refine aF (aa G od z1 ?_);rw [bN (show (bV T != bf)=true by simp)];refine aF (aa hT dT z3 ?_);rw [bO (show ¬ ((bf == ag L)=true) by simp [ag])];refine aF (wpAny_setField hT dT (cw.mp z3).1 ?_);have B:∀ b,b≠T->(s.heap.update T (bw (·.setIfInBounds 3 bf))).get? b=s.heap.get? b:=fun b n=>F0 _ _ n.symm
 have Y:∀ b o,s.heap.get? b=some o->(∀ O,o.data≠.fields O)->b≠T:=fun b o q n z=>by
  rw [z,hT] at q;cases q;exact n ts dT
 refine Q61 fr (ff.of_keeps fun b o q n=>⟨o,(B b (Y b o q n)).trans q,rfl⟩) Z ((B e Te.symm).trans G) (fun b o q=>(B b fun z=>by rw [z,nT] at q; cases q).trans (kb b o q)) ne od (cw.mp z1).1 z0 fun h' nt d'=>?_
 obtain ⟨k1,k2,k3,k4⟩:=nt;rw [hc] at k3;exact h h' ⟨k1,ne,k2,k3⟩ (d'.imp fun o q=>⟨q.1,q.2.1.trans I,q.2.2.trans J⟩) fun b o q n=>k4 b o ((B b (Y b o q n)).trans q) n
theorem Q5h {l:List Env} {cls fv:aB} {dv:Option aA} (kb:bs.StaysIn s.heap) (ne:bs.get? e=none) (ff:s.heap.FunFrames bs l) (tr:s.heap.TracedAtW bs e cls a0 fv) (dd:∃ o',s.heap.get? e=some o'/\o'.dict=dv/\Q12 o'=some .none)
  (h:∀ h',Heap.FlyingW bs l e cls a0 h'->(∃ o',h'.get? e=some o'/\o'.dict=dv/\Q12 o'=some .none)->s.heap.UpToSlots h'->Q () { s with heap:=h' }):aI M A (setFlight (.ref e) none) Q E s:=by
 obtain ⟨oe,B,T,oT,ts,Z,hc,od,Y,nT,U,O,dT,z3⟩:=tr;obtain ⟨o',I,G,J⟩:=dd;have s3:=(cw.mp z3).1;have j:∀ b,b≠T->(s.heap.update T (bw (·.setIfInBounds 3 ((none:Option aA).elim bf fun f=>ag f)))).get? b=s.heap.get? b:=fun b n=>F0 _ _ n.symm
 have nr:∀ b o,s.heap.get? b=some o->(∀ B,o.data≠.fields B)->b≠T:=fun b o q n z=>by
  rw [z,O] at q;cases q;exact n ts dT
 unfold setFlight;refine aF (aa Z od Y ?_);rw [bN (show (bV T != bf)=true by simp)];refine wpAny_setField O dT s3 (h _ ⟨fun b o q=>(j b fun z=>by rw [z,nT] at q; cases q).trans (kb b o q),ne,ff.of_keeps fun b o q n=>⟨o,(j b (nr b o q n)).trans q,rfl⟩,?_⟩ ⟨o',(j e U.symm).trans I,G,J⟩ fun b o q n=>⟨o.slots,(j b (nr b o q n)).trans q⟩)
 exact ⟨oe,B,T,_,_,(j e U.symm).trans Z,hc,od,Y,nT,U,L6 _ O (dD (cF dT _)),cF dT _,by simp [s3]⟩
end
end PySem
namespace L2
open PySem PySem.Spec PyProof.Rows
def CXD (P:aO) (w:aM):CXT:=fun outer H s E e s'=>∃ a cls a0 dv H' B,e=bV a/\Fly P w outer H H' s s' a cls a0 B/\(∃ o',s'.heap.get? a=some o'/\o'.dict=dv/\Q12 o'=some .none)/\E cls dv H'
theorem Xp {P:aO} {w:aM} {X:Cx}:qw (CXD P w) X E0:=fun _ _ _ _ _ _ _ h=>by
 obtain ⟨_,_,_,_,_,_,_,_,_,z⟩:=h;exact z.elim
def Qca (H:Hp) (a:aA):Hp:=fun b=>if b=a then none else H b
theorem Q6i {H:Hp} {a b:aA} (h:b≠a):Qca H a b=H b:=by unfold Qca; rw [bO h]
theorem Q26 {H:Hp} {a:aA}:Qca H a a=none:=by unfold Qca; rw [bN rfl]
theorem Inv.drop {X:Cx} {pins:List (aA × Obj)} {σ:St} {H:Hp} {s:aC} {a:aA} {B:Heap->Prop} (I:Inv X pins σ H s) (h:H a=some (.ext B)):Inv X pins σ (Qca H a) s:=by
 have nn:∀ b,H b=none->Qca H a b=none:=fun b e=>by
  by_cases z:b=a
  ·subst z; exact Q26
  ·rw [Q6i z]; exact e
 have j:∀ b o,H b=some o->o≠.ext B->Qca H a b=some o:=fun b o e n=>by
  rw [Q6i fun z=>?_]
  ·exact e
  ·subst z; rw [h] at e; exact n (bj e).symm
 refine ⟨I.ok,I.os,I.bare,?_,I.loc,I.cell,nn _ I.free,fun x c e=>nn _ (I.freeC x c e),fun p hp=>?_,fun b u q=>?_,I.len⟩
 ·have u:=I.base;exact ⟨u.keep,u.slot,fun b o e n J=>nn _ (u.free b o e n J),u.there,fun b xs e=>j _ _ (u.tups b xs e) (by simp),fun b o v e=>j _ _ (u.frzs b o v e) (by simp),fun b ps e=>by
   obtain ⟨more,q⟩:=u.tbls b ps e;exact ⟨more,j _ _ q (by simp)⟩⟩
 ·obtain ⟨e,n,ne,G,d⟩:=I.pin p hp;exact ⟨e,nn _ n,ne,G,d⟩
 ·by_cases z:b=a
  ·subst z; rw [Q26] at q; cases q
  ·rw [Q6i z] at q;exact (I.hok b u q).stay (fun _ _ _ r=>r) (fun c r=>j _ _ r (by simp)) fun c ts r=>j _ _ r (by simp)
section
variable {P:aO} {w:aM} {K:bS} {mg:Str->Option aB} {base:Heap} {N:List Str} {qual:Str} {scope:Scope} {f:aA} {cd:aB} {A:aR} {outer:List Env} {s:aC} {H:Hp} {E:XK}
abbrev cxD (P:aO) (w:aM) (K:bS) (mg:Str->Option aB) (base:Heap) (N:List Str) (qual:Str) (scope:Scope) (f:aA) (cd:aB) (A:aR) (outer:List Env) (s:aC) (H:Hp) (E:XK):Cx:=Qfi (CXD P w) P w K mg base N qual scope f cd A outer s H E
theorem Qbf {pins:List (aA × Obj)} {σ:St} {H1:Hp} {s1:aC} (I:Inv (cxD P w K mg base N qual scope f cd A outer s H E) pins σ H1 s1) {b:aA} {o:Obj} (e:s.heap.get? b=some o) (n:b∉frs outer):b∉frs (cxD P w K mg base N qual scope f cd A outer s H E).stack:=fun j=>by
 rcases D8.mp (I.stkSub b j) with z | z
 ·have h1:b < s.heap.objs.size:=D1 e;have h2:s.heap.objs.size<=(cxD P w K mg base N qual scope f cd A outer s H E).env.locals:=I.ok.above;rw [<- z] at h2;exact absurd (D6 h1 h2) (bt _)
 ·exact n z
theorem Qma {b:aA} (h:b∈frs outer):b∈frs (cxD P w K mg base N qual scope f cd A outer s H E).stack:=by
 show b∈frs (_ :: outer);unfold frs at h ⊢;rw [dO]
 split
 ·exact h
 ·exact D0 _ h
theorem Qsh {pins:List (aA × Obj)} {σ:St} {H1:Hp} {s1:aC} {J:Heap} {e C t:aA} {Z:Option aA} (I:Inv (cxD P w K mg base N qual scope f cd A outer s H E) pins σ H1 s1)
  (hk:∀ b o,b≠e->s1.heap.get? b=some o->J.get? b=some o) (Y:∀ o,s1.heap.get? e=some o->∃ vs,o.data=.fields vs) (new:s.heap.get? e=none) (hH:H1 e=none)
  (oe:J.get? e=some { cls:=.ref C,dict:=Z,data:=.fields #[.ref t,.none,.none,.none,.bool false,.none] }) (hE:E (.ref C) Z H1) :
  (cxD P w K mg base N qual scope f cd A outer s H E).xe (.ref e) { s1 with heap:=J }:=by
 have a5:∀ en∈(cxD P w K mg base N qual scope f cd A outer s H E).stack,∀ b,en.frame=some b->b∈e :: frs (cxD P w K mg base N qual scope f cd A outer s H E).stack:=fun en he b j=>D0 _ (eI.mpr ⟨en,he,j⟩)
 have ff:=PySem.W.funFrames_hide I.stack a5;have a2:∀ b o,s1.heap.get? b=some o->(∀ vs,o.data≠.fields vs)->b≠e:=fun b o q n z=>by
  subst z;obtain ⟨vs,d⟩:=Y o q;exact n vs d
 have hid:(dM s1.heap (e :: frs (cxD P w K mg base N qual scope f cd A outer s H E).stack)).get? e=none:=fY _ D3;have kb:(dM s1.heap (e :: frs (cxD P w K mg base N qual scope f cd A outer s H E).stack)).StaysIn J:=fun b o q=>hk b o (fun z=>by rw [z,hid] at q; cases q) (fX _ q)
 show aI (aJ P w) _ (leaving _ (.ref e)) _ _ _;refine Qdx (bs:=dM s1.heap (e :: frs (cxD P w K mg base N qual scope f cd A outer s H E).stack)) (a0:=.ref t) (s:={ s1 with heap:=J }) I.ok.frames (ff.of_keeps fun b o q n=>⟨o,hk b o (a2 b o q n) q,rfl⟩) rfl oe kb hid rfl rfl rfl fun h2 lf dd=>?_
 obtain ⟨k1,⟨_,_,k2⟩,k3,k4⟩:=lf;have noex:∀ b:aA,b∉(cxD P w K mg base N qual scope f cd A outer s H E).ex:=fun b z=>absurd (show b∈([]:List aA) from z) (by simp)
 have O:∀ b o,s.heap.get? b=some o->b≠e:=fun b o q z=>by rw [z,new] at q; cases q
 have B:∀ b o,s.heap.get? b=some o->b∉frs outer->b∉e :: frs (cxD P w K mg base N qual scope f cd A outer s H E).stack:=fun b o q n m=>by
  rcases D8.mp m with z | z
  ·exact O b o q z
  ·exact Qbf I q n z
 refine ⟨e,.ref C,.ref t,Z,H1,_,rfl,⟨I.os,I.bare,⟨k1,hid,k2,k3⟩,fun b u q=>?_,fun b o q n j=>?_,fun b o q j=>?_,fun b o q j=>?_,fun b o q n=>I.base.free b o q n (noex b),I.base.tups,I.base.frzs,I.base.tbls⟩,dd,hE⟩
 ·have ne:∀ c v,H1 c=some v->c∉e :: frs (cxD P w K mg base N qual scope f cd A outer s H E).stack:=fun c v z m=>by
   rcases D8.mp m with m | m
   ·rw [m,hH] at z; cases z
   ·rw [I.stkFree c m] at z; cases z
  refine (I.hok b u q).stay (fun c v hc r=>dN _ r ?_) (fun _ r=>r) fun _ _ r=>r
  rcases hc with rfl | hc
  ·exact ne c u q
  ·exact ne c _ hc
 ·exact dN _ (I.base.keep b o q n j (noex b)) (B b o q j)
 ·obtain ⟨o',z⟩:=I.base.there b o q (noex b);exact ⟨o',dN _ z (B b o q j)⟩
 ·obtain ⟨sl,z⟩:=I.base.slot b o q (I.ok.frf b j) j (noex b);obtain ⟨_,o',a3,U⟩:=I.ok.funs.mem j;have G:s.heap.get? b=some o':=a3;rw [q] at G;cases G;obtain ⟨a4,z'⟩:=k4 b _ (hk b _ (O b o q) z) U;exact ⟨a4,z'⟩
theorem Qd:qw (CXD P w) (cxD P w K mg base N qual scope f cd A outer s H E) E:=by
 intro pins σ H1 s1 e s' I h;obtain ⟨a,cls,a0,Z,H',B,rfl,F,dd,hE⟩:=h;show aI (aJ P w) _ (leaving _ (.ref a)) _ _ _;have noex:∀ b:aA,b∉(cxD P w K mg base N qual scope f cd A outer s H E).ex:=fun b z=>absurd (show b∈([]:List aA) from z) (by simp)
 refine Qdw I.ok.frames rfl F.fl dd fun h2 x1 d2 x2=>?_
 refine ⟨a,cls,a0,Z,H',B,rfl,⟨F.os.trans I.os,F.bare,x1,F.hokB,fun b o q n j=>?_,fun b o q j=>?_,fun b o q j=>?_,fun b o q n=>?_,fun b xs q=>F.tups b xs (I.base.tups b xs q),fun b o u q=>F.frzs b o u (I.base.frzs b o u q),fun b ps q=>?_⟩,d2,hE⟩
 ·exact F.keep b o (I.base.keep b o q n j (noex b)) (I.base.free b o q n (noex b)) (Qbf I q j)
 ·obtain ⟨o',z⟩:=I.base.there b o q (noex b);exact F.there b o' z (Qbf I q j)
 ·obtain ⟨sl,z⟩:=I.base.slot b o q (I.ok.frf b j) j (noex b);obtain ⟨_,o',O,U⟩:=I.ok.funs.mem j;have G:s.heap.get? b=some o':=O;rw [q] at G;cases G;obtain ⟨a2,z'⟩:=F.slot b _ z (Qma j);obtain ⟨J,Y⟩:=x2 b _ z' U;exact ⟨J,Y⟩
 ·obtain ⟨o',z⟩:=I.base.there b o q (noex b);exact F.free b o' z (I.base.free b o q n (noex b))
 ·obtain ⟨m1,e1⟩:=I.base.tbls b ps q;obtain ⟨m2,e2⟩:=F.tbls b _ e1;exact ⟨m1 ++ m2,by rw [e2,fZ]⟩
end
section
variable {X:Cx}
def Q91 (X:Cx) (E:XK):Prop:=∀ (pins:List (aA × Obj)) (σ:St) (H0 H1:Hp) (s0 s1:aC) (hx:Heap) (e C t:aA) (dv:Option aA),Inv X pins σ H0 s0->s0.heap.get? e=none->Inv X pins σ H1 s1->(∀ b o,b≠e->s1.heap.get? b=some o->hx.get? b=some o) ->
 (∀ o,s1.heap.get? e=some o->∃ vs,o.data=.fields vs)->H1 e=none->hx.get? e=some { cls:=.ref C,dict:=dv,data:=.fields #[.ref t,.none,.none,.none,.bool false,.none] }->E (.ref C) dv H1->X.xe (.ref e) { s1 with heap:=hx }
theorem Qhg {x:Str} {C:aA} {e:aD} {t:TA} {E:XK} {np cpos pos:Pos} (j:X.calm=true) (RO:Q91 X E) (hg:Gl X x) (Y:X.mg x=some (.ref C)) (q:bc X.K C X9 "ValueError.__new__" = true) (ha:PA X [e] t)
  (U:(x == ("__debug__" : Str))=false:=by decide) (Z:aP [e] X.env=[(false,aN e X.env)]:=by rfl):PS X (.Raise (some (.Call (.Name x np) [e] [] cpos)) none pos) (Qs8 C E t):=by
 intro pins s σ H D I h;obtain ⟨tl,N,nm,qn,bs,hdct,sn,sub,ab,col,dd,k0,k1,k2,k3,k5,mN,hC,hN,O,T⟩:=(Qg0 I.mod.kin Y q).obj;refine wpAny_Raise_call_subU (C:=C) (nm:=nm) (q:=qn) (N:=N) (bs:=bs) (bm:=tl) (hdct:=hdct) (sn:=sn) (sub:=sub) (ab:=ab) (col:=col) (dd:=dd) (k0:=k0) (k1:=k1) (k2:=k2) (k3:=k3) (k5:=k5)
  dF (by decide +kernel) dF (mN:=mN) (T.hasType (by decide +kernel)) (I.ok.hd j) (by rw [Z]; rfl) O (jg I hg Y ⟨rfl,?_⟩ U)
 have G:=ha cpos pins s σ H _ I h;rw [Z] at G ⊢;refine Calls.evalArgs_plain (af G (fun us s1 ⟨vs,H1,B,r,z,hE⟩=>?_) fun _ _ y=>y)
 refine ⟨rfl,by rw [<- r.length]; exact z,B.bk _ _ hC,hN.keeps B.bk,T.keeps B.bk,fun h' e' J=>?_⟩;obtain ⟨t,oe,_,_⟩:=J.there;exact RO pins σ H1 H1 s1 s1 h' e' C t none B J.new B (fun b o _ k=>J.keeps b o k) (fun o k=>by rw [J.new] at k; cases k) (B.hok.none_of J.new) oe hE
def Q6z (C:aA) (name:Str):Sp:=fun vs H Q _=>∃ (x:aA) (v:V),vs=[.ref x,v]/\H x=some (.ext (XO x C none))/\∀ dx,H dx=none->dx≠x->Q .non (upd (upd H x (.ext (XO x C (some dx)))) dx (.xd [(name,v)]))
def Qni (C:aA) (name:Str) (E:XK) (t:TA):TS:=fun _ σ H=>t σ H fun vs H1=>∃ v,vs=[v]/\∀ dx,H1 dx=none->E (.ref C) (some dx) (upd H1 dx (.xd [(name,v)]))
theorem Qhf {x name:Str} {C W f:aA} {fd:aQ} {k:Nat} {ps:List Str} {e:aD} {t:TA} {E:XK} {np cpos pos:Pos} (O:X.calm=true) (RO:Q91 X E) (M:XMade X.K C W f) (G:FnOk X.prog X.w X.K X.mg X.base CX0 k f fd ps (Q6z C name)) (hr:Room (k + 1) X.A)
  (hb:Binds X.K fd ps []) (hg:Gl X x) (hm:X.mg x=some (.ref C)) (ha:PA X [e] t)
  (a2:(x == ("__debug__" : Str))=false:=by decide) (he:aP [e] X.env=[(false,aN e X.env)]:=by rfl):PS X (.Raise (some (.Call (.Name x np) [e] [] cpos)) none pos) (Qni C name E t):=by
 intro pins s σ H D I h;obtain ⟨nm,q,N,bs,sn,sub,ab,col,dd,k0,k1,k2,k3,k5,lk⟩:=M.lk;obtain ⟨of,lf,cf⟩:=M.ff;have oC:∀ {H':Hp} {s':aC},Inv X pins σ H' s'->s'.heap.get? C=some (excClassObj nm q C N bs (.ref W :: X9) true sn sub ab col dd k0 k1 k2 k3 k5 "ValueError.__new__"):=fun J=>J.kIn _ _ lk
 rw [arm_exec_Raise];refine aF (wpAny_standAt (Q9h (kC:=C) (cn:=nm) (cq:=q) (kN:=N) (bas:=bs) (tl:=.ref W :: X9) (hd:=true) (sns:=sn) (subs:=sub) (abb:=ab) (coll:=col) (dic:=dd) (j0:=k0) (j1:=k1) (j2:=k2) (j3:=k3) (j5:=k5) (newI := "ValueError.__new__") (by simp) (I.ok.hd O) ?_));refine aF (af (wpAny_Call_Name_kw (jg I hg hm (dC (h₀:=X.base) (Q:=fun v s1=>∃ e t dv,v=.ref e/\s1.heap.get? C=some (excClassObj nm q C N bs (.ref W :: X9) true sn sub ab col dd k0 k1 k2 k3 k5 "ValueError.__new__")/\s1.heap.get? e=some { cls:=.ref C,dict:=dv,data:=.fields #[.ref t,.none,.none,.none,.bool false,.none] }/\X.xe (.ref e) s1) I.ok.mod.kin M.kp (thn (ha cpos pins s σ H _ I h) fun us s1 ⟨vs,H1,B,r,v,ev,hE⟩=>⟨B.kIn,?_⟩) (by rw [he]; rfl) rfl) a2)) (fun v s3 z=>aF (wpAny_standAt (aU z))) fun _ _ z=>z)
 subst ev;obtain ⟨u,rfl,ru⟩:=r.one;obtain ⟨hp,gs,dr,tk,sy⟩:=s1;refine Qfk (rest:=[u]) dF (by decide +kernel) dF (M.tail B.kIn) (oC B) B.kIn M.fi (B.kIn _ _ lf) cf (fun h' kp oe=>?_) (show 1<=sizeLine by decide);obtain ⟨a,ea⟩:∃ a,hp.objs.size + 1=a:=⟨_,rfl⟩;rw [ea] at oe ⊢;have Z:hp.objs.size<=a:=by rw [<- ea]; exact cL _
 have na:H1 a=none:=B.hok.fresh Z;have ga:hp.get? a=none:=Heap.get?_none_of_le Z;have I2:Inv X pins σ (upd H1 a (.ext (XO a C none))) ⟨h',gs,dr,tk,sy⟩:=B.laid (t':=tk) (h':=h') kp Z (Qj4 ⟨_,oe⟩);have sp:Q6z C name [.ref a,v] (upd H1 a (.ext (XO a C none))) (fun v' H'=>v'=.non/\∃ dx,H1 dx=none/\dx≠a/\H'=upd (upd (upd H1 a (.ext (XO a C none))) a (.ext (XO a C (some dx)))) dx (.xd [(name,v)])) E0:=
  ⟨a,v,rfl,Je,fun dx hn j=>⟨rfl,dx,by rwa [Qi j] at hn,j,rfl⟩⟩
 have r2:Vals [V.ref a,v] [bV a,u]:=.cons rfl (.cons ru .nil);have hl:([bV a,u] ++ []).length=ps.length:=by
  have:=G.len _ _ _ _ sp;simpa using this
 refine wpAny_call (bG (G.run _ X.stack _ _ ⟨[bV a,u],[]⟩ [bV a,u] _ _ E0 (hr.make C [u] []) (I2.env0.make C [u] []) (hb _ [bV a,u] I2.kIn hl) r2 sp) fun r s' z=>?_)
 cases r with
 | error e=>exact False.elim z
 | ok fl=>
  cases fl with
  | ret u'=>
   obtain ⟨v',H',I3,rv,ev,dx,hn,j,eH⟩:=I2.after z;subst ev;obtain rfl:u'=bf:=rv;have U:H' a=some (.ext (XO a C (some dx))):=by rw [eH,Qi (Ne.symm j),Je]
   obtain ⟨t2,o2⟩:=(I3.hok a _ U).1;have eD:Qca H' a=upd H1 dx (.xd [(name,v)]):=by
    funext b
    by_cases Y:b=a
    ·rw [Y,Q26,Qi (Ne.symm j),na]
    ·rw [Q6i Y,eH]
     by_cases zd:b=dx
     ·rw [zd,Je,Je]
     ·rw [Qi zd,Qi zd,Qi Y,Qi Y]
   refine ⟨rfl,a,t2,some dx,rfl,oC I3,o2,?_⟩;have:=RO pins σ H1 (Qca H' a) _ s' s'.heap a C t2 (some dx) B ga (I3.drop U) (fun b o _ k=>k) (fun o k=>by rw [o2] at k; cases k; exact ⟨_,rfl⟩) Q26 o2 (by rw [eD]; exact hE dx hn);exact this
  | next=>exact False.elim z
  | brk=>exact False.elim z
  | cont=>exact False.elim z
end
theorem Vf {P:aO} {w:aM} {K:bS} {mg:Str->Option aB} {base:Heap} {N:List Str} {qual:Str} {scope:Scope} {f:aA} {cd:aB} {A:aR} {outer:List Env} {s:aC} {H:Hp} {E:XK} :
  Q91 (cxD P w K mg base N qual scope f cd A outer s H E) E:=fun pins σ H0 H1 s0 s1 hx e C t Z O G I J j B Y U=>by
 refine Qsh I J j ?_ B Y U;cases q:s.heap.get? e with
 | none=>rfl
 | some o=>
  obtain ⟨o',z⟩:=O.base.there e o q (fun z=>absurd (show e∈([]:List aA) from z) (by simp))
  rw [G] at z; cases z
theorem Fun.okD {P:aO} {w:aM} {K:bS} {mg:Str->Option aB} {base:Heap} {x qual:Str} {st:aL} {f:aA} {fd:aQ} {N ps:List Str} {k:Nat} {sp:Sp} (F:Fun K x qual st f fd) (S:FnScope N ps (Q8 st)) (len:∀ vs H Q E,sp vs H Q E->vs.length=ps.length)
  (q:∀ (j:aB) (A:aR) (outer:List Env) (s:aC) (H:Hp) (vs:List V) (Q:VK) (E:XK),Room k (A.deeper (envOfC qual (Q8 st) s.heap.objs.size f j))->sp vs H Q E ->
   ∃ t,PSs (cxD P w K mg base N qual (Q8 st) f j A outer s H E) (Jx st) t/\t { nx:=fun _ H'=>Q .non H',rt:=Q } (start N vs) H):FnOk P w K mg base (CXD P w) (k + 1) f fd ps sp:=by
 obtain ⟨Y,U,kV,J,O,an,j,ct,G,rfl,lk,z⟩:=F.ex;exact Qru lk z S len fun A outer s H vs Q E I B=>q j A outer s H vs Q E I B
end L2
namespace L2
open PySem PySem.Spec PyProof.Rows PySem.W PySem.Builtin.Getset_descriptor
def IsXD (x C:aA) (dv:Option aA) (h:Heap):Prop:=∃ ox vs,h.get? x=some ox/\ox.cls=.ref C/\ox.dict=dv/\ox.data=.fields vs/\vs[2]?=some .none
theorem IsXD.x {x C:aA} {j:Option aA} {h:Heap} (I:IsXD x C j h):IsX x C h:=let ⟨q,_,a,b,_⟩:=I; ⟨q,a,b⟩
theorem Qqy {P:aO} {w:aM} {H:Hp} {h:Heap} {a C:aA} {j:Option aA} (I:IsXD a C j h):ObjOk P w H h a (.ext (IsXD a C j)):=
 ⟨I,(let ⟨o,_,e,_⟩:=I; ⟨o,e⟩),fun h1 h2 ⟨o,vs,e,c⟩ k=>⟨o,vs,k o e,c⟩⟩
structure XGet (K:Frag) (C:aA) (name:Str):Prop where
 xc:XCls K C
 hd:∃ cd,clsIn K C=some cd/\cd.hasDict=true
 no:findIn K (.ref C) name=some none
section
variable {prog:aO} {w:aM} {A:aR} {E:aB->aC->Prop} {h:Heap} {g:Array GenState} {d:Drawn} {t:Nat} {os:OsState} {K:Frag} {x C dx:aA} {name:Str} {v:aB} {m:Str->Option aB}
theorem Qnc {M:Model} (X:K.In h) (F:XGet K C name) (I:IsXD x C (some dx) h) (n:h.Ns1 dx m) (G:m name=some v):Looks M h (Builtin.ObjectAttr.find (.ref x) (.ref C) name) (.value v):=by
 obtain ⟨ox,vs,e1,e2,e3,O,_⟩:=I;obtain ⟨j,Z,hl⟩:=Qau n;obtain ⟨cd,Y,hd⟩:=F.hd;have J:InstAt h x ox C (some j):=⟨e1,e2,by unfold notCls; rw [O],by rw [e3]; exact Z⟩;have z:=looks_findIn (M:=M) X F.no;have q:Looks M h (Builtin.ObjectAttr.getOf none) none:=.now;have B:Looks M h (Builtin.ObjectAttr.dataDescriptor? none none) none:=.now;have U:Looks M h (Builtin.ObjectAttr.inOwnDict name (.ref x)) (some v):=looks_own X J Y (by unfold PySem.W.ownOf; rw [hd,bN rfl]; show lookIn name j=_; rw [hl,G]);exact z.andThen (q.andThen (B.andThen (U.andThen (Looks.tag .now))))
theorem Qj5 {tk:Tok} {Q:Fin->aC->Prop} (X:K.In h) (F:XGet K C name) (I:IsXD x C (some dx) h) (n:h.Ns1 dx m) (B:m name=some v) (q:Q (.done (.ret v)) ⟨h,g,d,t,os⟩) :
  aI (aJ prog w) A (Builtin.«object.__getattribute__» ⟨[.ref x,.str name tk],[]⟩) Q E ⟨h,g,d,t,os⟩:=by
 have j:=I.x.type (M:=aJ prog w);have z:=Qnc (M:=aJ prog w) X F I n B;unfold Builtin.«object.__getattribute__»;refine aF (aU ?_);refine aF (aU ?_);refine aF (j.at (aF (z.at ?_)));exact aU q
theorem Qnd {tk:Tok} {R:Result->aC->Prop} (X:K.In h) (F:XGet K C name) (I:IsXD x C (some dx) h) (n:h.Ns1 dx m) (q:m name=some v) (j:R (.ok (.ret v)) ⟨h,g,d,t,os⟩) :
  codeAny (aJ prog w) A (.call (.builtin "BaseException.__getattribute__") ⟨[.ref x,.str name tk],[]⟩) R ⟨h,g,d,t,os⟩:=
 codeAny_call_builtin PySem.F.attr_ValueError.ga.plain PySem.F.entry_bexc_ga (Qj6 X F.xc I.x (Qj5 X F I n q j))
theorem Qne {j:Bool} {Q:aB->aC->Prop} (X:K.In h) (F:XGet K C name) (I:IsXD x C (some dx) h) (n:h.Ns1 dx m) (U:m name=some v) (O:handedIn v=true) (B:Q v ⟨h,g,d,t + 1,os⟩):aI (aJ prog w) A (getAttr (.ref x) name j) Q E ⟨h,g,d,t,os⟩:=by
 have z:=I.x.type (M:=aJ prog w);have J:=looks_findIn (M:=aJ prog w) X F.xc.ga;have G:=looks_findIn (M:=aJ prog w) X F.xc.gt;have q:(cx "BaseException.__getattribute__" == cx "object.__getattribute__")=false:=by decide +kernel
 have Z:(onTheHeap (bV C) && cx "BaseException.__getattribute__" == cx "object.__getattribute__")=false:=by rw [q]; rfl
 have Y:(j && onTheHeap (cx "BaseException.__getattribute__"))=false:=by rw [show onTheHeap (cx "BaseException.__getattribute__")=false from rfl,dX]
 have f3:=PySem.F.attr_ValueError.ga.bind (.ref x);have ho:=handedOut_of O;unfold getAttr getAttrBy;refine aF (wpAny_mkText (az (aF (z.at (aF (J.at ?_))))))
 repeat (any_goals (first | assumption | with_reducible refine G.at ?_ | wp_step))
 refine Qnd X F I n U ?_;dsimp only;rw [ho];exact aU B
end
section
variable {X:Cx}
def tXF (K:Frag) (name:Str) (ta:TE):TE:=fun σ H Q=>ta σ H fun v H1=>∃ (a C dx:aA) (i:Int) (fs:List (Str × V)),v=.ref a/\H1 a=some (.ext (IsXD a C (some dx)))/\H1 dx=some (.xd fs)/\fs.lookup name=some (.int i)/\XGet K C name/\Q (.int i) H1
theorem Qpj {e:aD} {name:Str} {ta:TE} {pos:Pos} (K:Frag) (Y:PE X e ta) (U:am e name X.env (aN e X.env)=aN e X.env:=by rfl) (O:X.K=K:=by rfl):PE X (.Attribute e name pos) (tXF K name ta):=by
 subst O;intro pins s σ H Q I h;refine Qgx U (thn (Y pins s σ H _ I h) fun u s1 ⟨v,H1,z,J,a,C,dx,i,fs,ev,ha,hd,hl,G,q⟩=>?_)
 subst ev;obtain rfl:u=bV a:=J;obtain ⟨mA,n,r⟩:=z.hok dx _ hd;have j:=r name;rw [hl] at j;cases B:mA name with
 | none=>rw [B] at j; exact False.elim j
 | some y=>
  rw [B] at j;obtain ⟨tk,rfl⟩:∃ tk,y=.int i tk:=j;obtain ⟨hp,gs,dr,Z,sy⟩:=s1;exact Qne z.kIn G (z.hok a _ ha).1 n B rfl ⟨.int i,H1,z.tok _,⟨_,rfl⟩,q⟩
end
section
variable {X:Cx} {pins:List (aA × Obj)} {σ:St} {H H':Hp} {s s':aC} {a C:aA}
end
end L2
namespace L2
open PySem PySem.Spec PyProof.Rows
section
variable {X:Cx}
theorem Qr6 {CX:CXT} {f:aA} {fd:aQ} {k:Nat} {ps:List Str} {sp:Sp} {g:Str} {p cpos:Pos} {e:aD} {es:List aD} {ta:TA} {pins:List (aA × Obj)} {σ:St} {H:Hp} {s:aC} {E1:aB->aC->Prop} {U:VK} {J:XK}
  (F:FnOk X.prog X.w X.K X.mg X.base CX k f fd ps sp) (hr:Room k X.A) (hm:X.mg g=some (.ref f)) (O:bZ X.K (.ref f)=true) (hb:Binds X.K fd ps []) (ha:PA X.nox (e :: es) ta) (hg:Gl X g)
  (I:Inv X pins σ H s) (h:ta σ H fun vs H1=>sp vs H1 U J) (hE:∀ H1 s1 v s',Inv X pins σ H1 s1->CX X.stack H1 s1 J v s'->E1 v s')
  (Z:(g == ("__debug__" : Str))=false) (he:aP (e :: es) X.env=(false,aN e X.env) :: aP es X.env) (Y:(aW cpos (aP es X.env)).any (·.1)=false) :
  aI (aJ X.prog X.w) X.A (aN (.Call (.Name g p) (e :: es) [] cpos) X.env) (EP X pins σ U) E1 s:=by
 refine wpAny_Call_Name_kw (jg I hg hm ?_ Z);refine dC (h₀:=X.base) I.ok.mod.kin O (af (ha cpos pins s σ H _ (I.wish _) h) (fun us s1 ⟨vs,H1,I1,r,q⟩=>⟨I1.unwish.kIn,?_⟩) fun _ _ z=>z.elim) he Y
 have j:=I1.unwish;have hl:us.length=ps.length:=by rw [<- r.length]; exact F.len _ _ _ _ q
 have G:=hb s1 us j.kIn (by rw [bv]; exact hl);rw [bv] at G;refine wpAny_call (bG (F.run X.A X.stack s1 H1 ⟨us,[]⟩ us vs U J hr j.env0 G r q) fun rr s' B=>?_)
 cases rr with
 | error v=>exact hE H1 s1 v s' j B
 | ok fl=>
  cases fl with
  | ret u=>exact j.after B
  | next=>exact False.elim B
  | brk=>exact False.elim B
  | cont=>exact False.elim B
end
section
variable {X:Cx}
end
end L2
namespace L2
open PySem PySem.Spec PyProof.Rows PySem.W PySem.Builtin.Getset_descriptor
section
variable {X:Cx} {pins:List (aA × Obj)} {σ:St} {H H':Hp} {s s':aC} {a C:aA}
theorem Qqs {cn n:Str} {i:Nat} {CC:aA} {a0:aB} {B:Heap} {dv:Option aA} {np hpos:Pos} {b₀:aL} {suite:List aL} {ts:TS} {D:Ends} (hN:X.N.Nodup) (hi:X.N[i]?=some n) (hk:X.env.scope.names.lookup n=some .local) (b6:∀ b,b∉X.ex)
  (b1:X.stack=X.env :: X.outer) (b8:X.env.frame=some X.env.locals) (hg:Gl X cn) (hm:X.mg cn=some (.ref CC)) (hx:exmOne X.K (.ref C) (.ref CC)=some true) (I:Inv X pins σ H s) (F:Fly X.prog X.w X.stack H H' s s' a (.ref C) a0 B) (dd:∃ o',s'.heap.get? a=some o'/\o'.dict=dv/\Q12 o'=some .none)
  (O:PSs (xy X a) (b₀ :: suite) ts) (q:ts { nx:=fun c4 H2=>D.nx (c4.set i none) H2,rt:=D.rt } (σ.set i (some (.ref a))) (upd H' a (.ext (IsXD a C dv)))) (c3:(cn == ("__debug__" : Str))=false:=by decide) :
  aI (aJ X.prog X.w) X.A (noteFrame (.ref a) X.env) (fun _ a7=>aI (aJ X.prog X.w) X.A (setFlight (.ref a) none) (fun _ b4=>aI (aJ X.prog X.w) X.A (handleBy (.ref a) X.env [.ExceptHandler (some (.Name cn np)) (some n) (b₀ :: suite) hpos]) (SP X pins D) X.xe b4) X.xe a7) X.xe s':=by
 have U:(X.env.scope.kind == .class || (X.env.scope.kind == .module && X.env.locals != X.env.globals))=false:=by rw [I.ok.kind]; rfl
 have a6:=F.fl;rw [b1] at a6;refine Qi2 (by rw [<- b1]; exact I.ok.frames) b8 a6 dd fun h4 j d4 b3=>?_
 refine Q5h (s:={ s' with heap:=h4 }) j.1 j.2.1 j.2.2.1 j.2.2.2 d4 fun h5 G d5 a8=>?_
 obtain ⟨n1,n2⟩:=F.new;have I5:Inv X pins σ H' { s' with heap:=h5 }:=F.inv I G.1 (b3.trans a8);obtain ⟨ob,c0,b2⟩:=G.there;have LT:Looks (aJ X.prog X.w) h5 (typeOf (.ref a)) (.ref C):=IsX.type ⟨ob,c0,b2⟩;refine wpAny_handleBy_cons (codeAny_handlers_test (jg (X:=xy X a) (I5.suite a) hg hm ?_ c3)) (by intro z; cases z);refine (exm_one (h:=h5) I5.kIn LT hx).at ?_;refine codeAny_handlers_suite_as ?_;refine Q5h (s:={ s' with heap:=h5 }) G.1 G.2.1 G.2.2.1 G.2.2.2.at d5 fun h6 b0 d6 c5=>?_
 have I6:Inv X pins σ H' { s' with heap:=h6 }:=F.inv I b0.1 ((b3.trans a8).trans c5);obtain ⟨b5,b7,Z,a5,Y,_⟩:=b0.first;obtain ⟨o',a9,c2,a3⟩:=d6;rw [Z] at a9;cases a9;have I7:Inv X pins σ (upd H' a (.ext (IsXD a C dv))) { s' with heap:=h6 }:=Inv.track I b6 n1 I6 n2 (Qqy ⟨b5,b7,Z,a5,c2,Y,by unfold Q12 at a3; rw [Y] at a3; exact a3⟩);refine Q6w (X:=xy X a) (v:=.ref a) (I7.suite a) hN hi (.inl hk) rfl (fun s8 I8=>?_) (.inr hk);refine af (O pins s8 _ _ _ I8 q) (fun f s9 h9=>?_) fun _ _ z=>z.elim
 cases f with
 | next=>
  obtain ⟨b9,H9,I9,q9⟩:=h9;have J:=I9.unsuite I.ok;obtain ⟨m,hn,hl⟩:=id J.loc;exact wpAny_nameGoes_keeps hk hn U fun c1 v a4 a2=>⟨_,_,J.forget hN hi hl a4 a2,q9⟩
 | brk=>obtain ⟨_,_,_,z⟩:=h9; exact z.elim
 | cont=>obtain ⟨_,_,_,z⟩:=h9; exact z.elim
 | ret u=>
  obtain ⟨v9,b9,H9,I9,r9,q9⟩:=h9;have J:=I9.unsuite I.ok;obtain ⟨m,hn,hl⟩:=id J.loc;exact wpAny_nameGoes_keeps hk hn U fun c1 v a4 a2=>⟨v9,_,_,J.forget hN hi hl a4 a2,r9,q9⟩
def Qv3 (sp:Sp) (ta:TA) (i:Nat) (ok:aB->aA->Prop) (ts:TS) (set:V->St->St):TS:=fun D σ H=>ta σ H fun vs H1=>sp vs H1 (fun v H2=>D.nx (set v σ) H2)
 (fun c dv H2=>∃ C,c=.ref C/\ok c C/\∀ a,H2 a=none->ts { nx:=fun σ3 H3=>D.nx (σ3.set i none) H3,rt:=D.rt } (σ.set i (some (.ref a))) (upd H2 a (.ext (IsXD a C dv))))
theorem Qjx {f:aA} {fd:aQ} {k:Nat} {ps:List Str} {sp:Sp} {g cn n:Str} {i:Nat} {CC:aA} {p cpos G np hpos pos:Pos} {e:aD} {es:List aD} {ta:TA} {b₀:aL} {suite:List aL} {ts:TS}
  (F:FnOk X.prog X.w X.K X.mg X.base (CXD X.prog X.w) k f fd ps sp) (hr:Room k X.A) (hm:X.mg g=some (.ref f)) (a2:bZ X.K (.ref f)=true) (hb:Binds X.K fd ps []) (ha:PA X.nox (e :: es) ta)
  (hN:X.N.Nodup) (hi:X.N[i]?=some n) (hk:X.env.scope.names.lookup n=some .local) (j:∀ a,PSs (xy X a) (b₀ :: suite) ts) (Y:X.mg cn=some (.ref CC))
  (hg:Gl X g:=by rfl) (a5:Gl X cn:=by rfl) (O:∀ b,b∉X.ex:=by intro b z; exact absurd (show b∈([]:List aA) from z) (by simp)) (a3:X.stack=X.env :: X.outer:=by rfl) (Z:X.env.frame=some X.env.locals:=by rfl)
  (a6:(g == ("__debug__" : Str))=false:=by decide) (J:(cn == ("__debug__" : Str))=false:=by decide) (he:aP (e :: es) X.env=(false,aN e X.env) :: aP es X.env:=by rfl) (a4:(aW cpos (aP es X.env)).any (·.1)=false:=by rfl)
  (U:swapsWith (.Call (.Name g p) (e :: es) [] cpos) none G.line X.env=pure false:=by rfl) :
  PS X (.Try [.Expr (.Call (.Name g p) (e :: es) [] cpos) G] [.ExceptHandler (some (.Name cn np)) (some n) (b₀ :: suite) hpos] [] [] pos) (Qv3 sp ta i (fun c _=>dG X.K c (.ref CC)=some true) ts (fun _ σ=>σ)):=by
 intro pins s σ H D I h;refine wpAny_Try_except (wpAny_execs_cons (wpAny_Expr_any (thn (Qr6 F hr hm a2 hb ha hg I h ?_ a6 he a4) fun v s1 ⟨x,H1,I1,r1,q1⟩=>wpAny_execs_nil (wpAny_execs_nil ⟨σ,H1,I1,q1⟩)) I.quiet U))
 intro H1 s1 v s' I1 hx;obtain ⟨a,cls,a0,dv,H',B,rfl,Fl,dd,C,rfl,hok,q⟩:=hx;exact Qqs hN hi hk O a3 Z a5 Y hok I1 Fl dd (j a) (q a Fl.new.2) J
end
end L2
namespace L2
open PySem PySem.Spec PyProof.Rows
section
variable {X:Cx}
end
end L2
namespace L2
open PySem PySem.Spec PyProof.Rows PySem.W PySem.Builtin.Getset_descriptor
section
variable {X:Cx} {pins:List (aA × Obj)} {σ:St} {H H':Hp} {s s':aC} {a C:aA}
end
section
variable {X:Cx}
end
end L2
namespace L2
open PySem PySem.Spec PyProof.Rows PySem.SeqAt
section
variable {prog:aO} {w:aM} {A:aR} {E:aB->aC->Prop} {s:aC}
end
section
variable {X:Cx}
end
end L2
namespace L2
open PySem PySem.Spec PyProof.Rows PySem.SeqAt
section
variable {X:Cx}
def Qs9 (val:Str->V) (te:TE):TE:=fun σ H Q=>te σ H fun y H1=>∃ w,y=.str w/\Q (val w) H1
theorem Qd9 {n:Str} {a:aA} {o:Obj} {es:Array DictEntry} {O:Nat} {val:Str->V} {e:aD} {te:TE} {p apos cpos:Pos} (Y:Gl X n) (Z:X.mg n=some (.ref a)) (lk:X.K.lookup a=some o) (ty:o.cls=.type "dict") (U:o.ExactDict) (od:o.data=.dict es O) (ks:KeysOf (J4 X.prog X.w) es) (hs:(a == aj)=false)
  (hv:∀ w,RelV (val w) ((findBy (J4 X.prog X.w).is es (.inr w)).getD .none)) (he:PE X e te) (B:(n == ("__debug__" : Str))=false:=by decide)
  (base:am (.Name n p) "get" X.env (aN (.Name n p) X.env)=aN (.Name n p) X.env:=by rfl)
  (few:((aW cpos (aP [e] X.env)).all (fun x=>!x.1) && (backToKw cpos (keywordEach [] X.env)).all (fun x=>x.1.isSome)
   && decide (([e]:List aD).length + ([]:List Keyword).length + (if ([]:List Keyword).isEmpty then 0 else 1) < 30))=true:=by rfl)
  (line:(apos.endLine == cpos.line)=true:=by rfl) (trees:aW cpos (aP [e] X.env)=[(false,aN e X.env)]:=by rfl) :
  PE X (.Call (.Attribute (.Name n p) "get" apos) [e] [] cpos) (Qs9 val te):=by
 intro pins s σ H Q I h;have j:∀ {H':Hp} {s':aC},Inv X pins σ H' s'->s'.heap.get? a=some o:=fun J=>J.kIn _ _ lk
 refine wpAny_Call_method base few line PySem.F.plainAttrs_dict gT PySem.F.type_dict_get (jg I Y Z ?_ B);refine ⟨⟨o,j I,ty⟩,fun b z=>⟨o,?_,?_⟩,?_⟩
 ·cases z; exact j I
 ·exact U.2.1
 ·rw [trees];refine Calls.callWith_builtin rfl (Calls.evalArgs_plain (Calls.spliced_cons (thn (he pins s σ H _ I h) fun iv s2 ⟨y,H2,G,ry,w,ey,q⟩=>Calls.spliced_nil ?_)))
  subst ey;obtain ⟨tk,rfl⟩:∃ tk,iv=.str w tk:=ry;have mo:s2.heap.MapOf (J4 X.prog X.w) a (fun k=>findBy (J4 X.prog X.w).is es k):=⟨o,es,O,j G,U,od,ks,fun _=>rfl⟩
  refine call_meetsIn gT ⟨o,j G,ty⟩ PySem.F.entry_dict_get (PySem.F.args_dict_get_2 _ _) (meets_dict_get (J4 X.prog X.w) a (k:=.inr w) (by simp [J4,qx,br]) hs) ⟨_,mo,⟨val w,H2,G.tok _,hv w,q⟩⟩
end
end L2
namespace L2
open PySem PySem.Spec PyProof.Rows
section
variable {X:Cx}
def Qjs (K:bS):R2:=fun x y H Q=>∃ a b ys,x=.ref a/\y=.ref b/\SqT K H a []/\SqT K H b ys/\Q (.ref b) H
theorem Qkf:OpR X (aY .Add) (Qjs X.K):=by
 intro pins s σ H x y v u Q I J ry h;obtain ⟨a,b,ys,rfl,rfl,Z,O,q⟩:=h;cases J;cases ry;obtain ⟨its,U,Y,_⟩:=I.tuple Z;obtain ⟨j,r2,p2,_⟩:=I.tuple O;have e1:its=[]:=U.nil_iff.mpr rfl;subst e1;obtain ⟨⟨cls,dd,data,sl⟩,ho,hc,n,hd⟩:=id Y;obtain ⟨⟨G,B,data2,z⟩,ho2,hc2,n2,hd2⟩:=id p2;simp only at hc hd hc2 hd2;subst hc hd hc2 hd2;exact concat_meets ⟨_,ho,rfl⟩ ⟨_,ho2,rfl⟩ noFill_tuple_add seq_tuple_add eV eX (eY _ _)
  (tuple_addW0 a b ([]:List aB).toArray j.toArray n n2 dd B sl z (by simp)) ⟨ho,ho2,⟨.ref b,H,I,rfl,q⟩⟩
abbrev Qvp (K:bS):R2:=fun x y H Q=>Qri K x y H Q\/Qjs K x y H Q
theorem Qpy:OpR X (aY .Add) (Qvp X.K):=op_catT.or Qkf
end
def PTs (X:Cx) (ifs:List aD) (t:TT):Prop:=
 ∀ (pins:List (aA × Obj)) (s:aC) (σ:St) (H:Hp) (Q:Bool->Hp->Prop),Inv X pins σ H s->t σ H Q ->
  aI (aJ X.prog X.w) X.A (forIn ifs true fun c r=>if r=true then do let ok <- isTrue c X.env (aN c X.env); pure (ForInStep.yield ok) else pure (ForInStep.yield r)) (TP X pins σ Q) X.xe s
def Qv4:TT:=fun _ H Q=>Q true H
theorem Qp8 {X:Cx}:PTs X [] Qv4:=fun _ _ _ H _ I h=>wpAny_tests_nil ⟨H,I,h⟩
theorem Qp7 {X:Cx} {c:aD} {t:TT} (h:PT X c t):PTs X [c] t:=fun pins s σ H Q I q=>wpAny_tests_one (h pins s σ H Q I q)
def Qb3 (J:It) (cap:List (Option Nat)) (g:TG) (tt:TT) (te:TE) (σ:St) (H1:Hp) (Q:VK):Prop:=∀ acc,H1 acc=none ->
 ∃ W:Nat->Nat->List V->St->Hp->Prop,(∃ m,W 0 m [] (Q43 cap σ) (upd H1 acc (.lst [])))/\∀ i m ys σ' H',W i m ys σ' H'->H' acc=some (.lst ys) /\
  ((J.stop i H'/\Q (.ref acc) H')\/(J.go i H'/\ys.length < sizeLine/\∀ x H2,J.yld i H' x H2->g x σ' H2 fun σ3 H3=>tt σ3 H3 fun b H4=>
    if b=true then te σ3 H4 fun y H5=>H5 acc=some (.lst ys)/\∃ m',m' < m/\W (i + 1) m' (ys ++ [y]) σ3 (upd H5 acc (.lst (ys ++ [y])))
    else ∃ m',m' < m/\W (i + 1) m' ys σ3 H4))
def Qbe (cap:List (Option Nat)) (wi:TI) (g:TG) (tt:TT) (te:TE):TE:=fun σ H Q=>wi σ H fun J H1=>Qb3 J cap g tt te σ H1 Q
section
variable {prog:aO} {w:aM} {A:aR} {R:Result->aC->Prop} {s:aC}
theorem Qa4 {elt j iter:aD} {ifs:List aD} {scope:Scope} {pos:Pos} {it Z:aB} {env:Env} (I:Nat->aC->Prop)
  (a5:∀ n s,I n s->aI (aJ prog w) A (bB it) (fun r z=>match r with
   | none=>R (.ok .next) z
   | some v=>aI (aJ prog w) A (letOwnedTupleGo j it v) (fun _ B=>aI (aJ prog w) A (assign j env v) (fun _ Y=>
     aI (aJ prog w) A (forIn ifs true fun c r=>if r=true then do let ok <- isTrue c env (aN c env); pure (ForInStep.yield ok) else pure (ForInStep.yield r)) (fun ok G=>
      if ok=true then aI (aJ prog w) A (aN elt env) (fun x O=>
       aI (aJ prog w) A (call (.builtin "list.append") [Z,x]) (fun _ J=>∃ m,m < n/\I m J) (fun _ _=>False) O) (fun _ _=>False) G
      else ∃ m,m < n/\I m G) (fun _ _=>False) Y)
     (fun _ _=>False) B) (fun _ _=>False) z) (fun _ _=>False) s)
  (n:Nat) (h:I n s):codeAny (aJ prog w) A (.compLoop (.ListComp elt [⟨j,iter,ifs,0⟩] scope pos) 0 it Z env) R s:=by
 refine codeAny_loop rfl I (fun n s hI=>?_) n h;show aI _ A ((compTurn (.ListComp elt [⟨j,iter,ifs,0⟩] scope pos) 0 it Z env).onRaise (fun x=>do noteFrame x env; theTreesLotGoes x)) _ _ s;refine wpAny_noted ?_;rw [compTurn_list];refine aF (wpAny_standAt (aF (af (a5 n s hI) (fun r z U=>?_) fun _ _ h'=>h'.elim)))
 cases r with
 | none=>exact aU U
 | some v=>
  refine aF (af U (fun _ B a2=>?_) fun _ _ h'=>h'.elim)
  refine aF (af a2 (fun _ Y a6=>aF (af a6 (fun ok G q=>?_) fun _ _ h'=>h'.elim)) fun _ _ h'=>h'.elim)
  cases ok with
  | true=>
   rw [bN rfl] at q;exact aF (aF (af q (fun x O a4=>aF (af a4 (fun _ J a3=>aU (aU ⟨rfl,a3⟩)) fun _ _ h'=>h'.elim)) fun _ _ h'=>h'.elim))
  | false=>
   rw [bO E2] at q;exact aF (aU (aU ⟨rfl,q⟩))
end
section
variable {X:Cx}
theorem Q8t {elt tg iter:aD} {ifs:List aD} {tt:TT} {pos:Pos} {N N':List Str} {sc scE:Scope} {cap:List (Option Nat)} {wi:TI} {g:TG} {te:TE} {use:Option (aB->Sem Unit)} {QQ:aB->aC->Prop} (b9:X.calm=true) (hi:PI X tg iter wi)
  (hg:∀ cl C s0 H0 ex,PG (Xa X N' sc cl C s0 H0 ex) tg g) (he:∀ cl C s0 H0 ex,PE (Xa X N' sc cl C s0 H0 ex) elt te) (e5:∀ cl C s0 H0 ex,PTs (Xa X N' sc cl C s0 H0 ex) ifs tt)
  (hN:X.N=N) (hE:X.env.scope=scE) (hc:compOkC N N' sc scE cap=true) (hs:∀ x,bC iter X.env x=pure x)
  {pins:List (aA × Obj)} {s:aC} {σ:St} {H:Hp} {Q:VK} (I:Inv X pins σ H s) (h:Qbe cap wi g tt te σ H Q)
  (fin:∀ c9 C H' s' m,Inv X pins σ H' s'->s'.heap.Ns C m->Q92 X pins H' C->Q (.ref c9) H'->compPost (aJ X.prog X.w) X.A X.xe use QQ (.ref c9) C (.ok .next) s') {pos':Pos} :
  aI (aJ X.prog X.w) X.A (comprehension (.ListComp elt [⟨tg,iter,ifs,0⟩] sc pos) sc X.env pos' (newList []) false (aN iter X.env) use) QQ X.xe s:=by
 have ck:=compOkC.of hc;obtain ⟨cl,e0,c1,c2⟩:=Qfj (scope:=sc) (env:=X.env) fun x hx hf=>I.ok.has x.1 (by
  have:=ck.fre x hx hf;rw [<- hE] at this;exact this)
 refine wpAny_comprehension_free (use:=use) rfl hs e0 ck.kind ck.loc (thn (hi pins s σ H _ I h) fun v s1 h1=>thn h1 fun f6 s2 h2=>?_)
 obtain ⟨it,fp,tn,J,H2,e,I2,T,d7,f2,hw⟩:=h2;subst e;have b3:∀ b∈fp,b < s2.heap.objs.size:=fun b G=>by
  obtain ⟨o,e,_⟩:=T.obj _ _ d7 b G;exact D1 e
 obtain ⟨W,⟨m0,w0⟩,turn⟩:=hw s2.heap.objs.size I2.fresh;refine av (Q93 ?_);dsimp only;have I3:Inv X pins σ (upd H2 s2.heap.objs.size (.lst [])) { s2 with heap:=s2.heap.push { cls:=.type "list",data:=.seq ([]:List aB).toArray } }:=
  I2.lnew (its:=[]) (ys:=[]) (t':=s2.toks) .nil (dB _)
 generalize c8:({ s2 with heap:=s2.heap.push { cls:=.type "list",data:=.seq ([]:List aB).toArray } }:aC)=s3 at I3;have d6:s3.heap=s2.heap.push { cls:=.type "list",data:=.seq ([]:List aB).toArray }:=by rw [<- c8]
 have c3:s3.heap.objs.size=s2.heap.objs.size + 1:=by rw [d6,F9]
 have f3:∀ b∈fp,Q92 X pins (upd H2 s2.heap.objs.size (.lst [])) b:=fun b G=>by
  obtain ⟨g0,g1⟩:=f2 b G;exact ⟨by rw [Qi (F2 (b3 b G))]; exact g0,g1⟩
 have k3:∀ b o,s2.heap.get? b=some o->s3.heap.get? b=some o:=fun b o e=>by rw [d6]; exact O1 _ e
 obtain ⟨a2,b2⟩:∃ a2,ai (s3.heap.objs.size + 1) sc.names cl=a2:=⟨_,rfl⟩;obtain ⟨O,Y⟩:∃ O,pushCells (s3.heap.push { cls:=.type "dict",data:=.dict #[] }) sc.names=O:=⟨_,rfl⟩;have k1:∀ b o,s3.heap.get? b=some o->O.get? b=some o:=fun b o e=>by rw [<- Y]; exact pushCells_keeps _ _ b o (O1 _ e)
 have e4:∀ x c,a2.lookup x=some c->cl.lookup x=some c\/s3.heap.objs.size + 1<=c:=fun x c e=>by
  rw [<- b2] at e;have:=K1 (sc.names) (s3.heap.push { cls:=.type "dict",data:=.dict #[] }) cl x c (by rw [F9]; exact e);rcases this with z | ⟨_,z,_⟩
  ·exact .inl z
  ·rw [F9] at z; exact .inr z
 have I4:Inv (Xa X N' sc a2 s3.heap.objs.size s3 (upd H2 s2.heap.objs.size (.lst [])) fp) [] (Q43 cap σ) (upd H2 s2.heap.objs.size (.lst [])) { s3 with heap:=O }:=by
  rw [<- b2,<- Y];exact Qn4 I3 hN hE ck c1 c2 f3 (fun b G=>D6 (b3 b G) (by rw [c3]; exact cL _))
 have d2:tn 0 O:=T.keep _ _ _ d7 fun b G o e=>k1 b o (k3 b o e)
 generalize j:Xa X N' sc a2 s3.heap.objs.size s3 (upd H2 s2.heap.objs.size (.lst [])) fp=U at I4;have c5:U.xe=fun _ _=>False:=by rw [<- j]; rfl
 have B:U.prog=X.prog:=by rw [<- j]; rfl
 have Z:U.w=X.w:=by rw [<- j]; rfl
 have c7:U.K=X.K:=by rw [<- j]; rfl
 have a3:U.A=X.A:=by rw [<- j]; rfl
 have d3:U.calm=true:=by rw [<- j]; exact b9
 have b0:U.env=compEnvC sc a2 s3.heap.objs.size X.env:=by rw [<- j]; rfl
 have a8:U.env.locals=s3.heap.objs.size:=by rw [b0]; rfl
 have d9:PG U tg g:=by rw [<- j]; exact hg _ _ _ _ _
 have d8:PE U elt te:=by rw [<- j]; exact he _ _ _ _ _
 have d5:PTs U ifs tt:=by rw [<- j]; exact e5 _ _ _ _ _
 have a4:∀ {H':Hp},(∀ b∈fp,H' b=none)->∀ b∈fp,Q92 U [] H' b:=fun {H'} hn b G=>by
  obtain ⟨_,g1,g2,g3,g4,g5⟩:=f3 b G;refine ⟨hn b G,by rw [a8,c3]; exact F2 (cv (b3 b G)),?_,?_,?_,fun p hp=>?_⟩
  ·rw [<- j];intro z;rcases D8.mp (I3.stkSub b z) with e | z
   ·exact g1 e
   ·exact g2 z
  ·left
   rw [<- j];exact G
  ·intro x c e;rw [b0] at e;rcases e4 x c e with z | z
   ·exact g4 x c (c1 x c z)
   ·exact fun q=>absurd (D6 (b3 b G) (F3 (F3 (cL _) (c3 ▸ cL _)) (q ▸ z))) (bt _)
  ·rw [<- j] at hp;cases hp
 have c6:∀ {a5:St} {H':Hp} {s':aC},Inv U [] a5 H' s'->Q (.ref s2.heap.objs.size) H'->compPost (aJ X.prog X.w) X.A X.xe use QQ (.ref s2.heap.objs.size) s3.heap.objs.size (.ok .next) s':=fun {a5 H' s'} J q=>by
  obtain ⟨mm,d1,_⟩:=J.loc;rw [a8] at d1;have b8:H' s3.heap.objs.size=none:=by have:=J.free; rw [a8] at this; exact this
  have hok:=J.hok;rw [B,Z] at hok;have u1:Un (frs X.stack) fp (upd H2 s2.heap.objs.size (.lst [])) H' s3.heap s'.heap:=by
   have:=J.base;rw [<- j] at this;exact this
  have e8:s'.os=s3.os:=by have:=J.os; rw [<- j] at this; exact this
  refine fin _ _ H' s' mm (I3.call' (s':=s') e8 u1 hok J.bare fun b G=>?_) d1 (I3.fpOk (O8 _) b8) q
  obtain ⟨_,g1,g2,g3,g4,g5⟩:=f3 b G;exact ⟨g3,g1,g4,g5⟩
 have a7:codeAny (aJ X.prog X.w) X.A (.compLoop (.ListComp elt [⟨tg,iter,ifs,0⟩] sc pos) 0 (.ref it) (.ref s2.heap.objs.size) U.env)
   (compPost (aJ X.prog X.w) X.A X.xe use QQ (.ref s2.heap.objs.size) s3.heap.objs.size) { s3 with heap:=O }:=by
  refine Qa4 (fun n s'=>∃ i ys a5 H',Inv U [] a5 H' s'/\tn i s'.heap/\(∀ b∈fp,H' b=none)/\W i n ys a5 H') ?_ m0 ⟨0,[],_,_,I4,d2,fun b G=>(f3 b G).1,w0⟩
  rintro n s5 ⟨i,ys,b6,H5,I5,d4,d0,w5⟩;obtain ⟨f5,q⟩:=turn i n ys b6 H5 w5;rcases q with ⟨stop,q⟩ | ⟨go,f4,step⟩
  ·refine thn (a3 ▸ T.done U B Z c7 d3 i [] s5 b6 H5 _ I5 (a4 d0) d4 stop) fun r s6 ⟨hr,I6⟩=>?_
   subst hr;exact c6 I6 q
  ·refine thn (a3 ▸ T.item U B Z c7 d3 i [] s5 b6 H5 _ I5 (a4 d0) d4 go) fun r s6 ⟨u,hr,h6⟩=>?_
   subst hr;refine thn h6 fun _ s7 ⟨x,H7,I7,r7,y7,a6,e7⟩=>?_
   have e9:=I7.pinned (a4 e7) (T.obj _ _ a6);have g7:=d9 _ s7 b6 H7 x u _ e9 r7 (step x H7 y7);rw [B,Z,a3,c5] at g7;refine thn g7 fun _ s8 ⟨b1,H8,I8,q8⟩=>?_
   have t8:=d5 _ s8 b1 H8 _ I8 q8;rw [B,Z,a3,c5] at t8;refine thn t8 fun e6 f1 ⟨f0,b4,b5⟩=>?_
   cases e6 with
   | false=>
    rw [bO E2] at b5 ⊢;obtain ⟨m',c0,w9⟩:=b5;refine ⟨m',c0,i + 1,_,b1,_,b4.unpinned,T.keep _ _ _ a6 fun b G o eo=>(b4.pin (b,o) (E5 _ (E5 _ (Kf G eo)))).1,fun b G=>?_,w9⟩;obtain ⟨o,eo,d⟩:=T.obj _ _ a6 b G;exact (b4.pin (b,o) (E5 _ (E5 _ (Kf G eo)))).2.1
   | true=>
   rw [bN rfl] at b5 ⊢;have g8:=d8 _ f1 b1 f0 _ b4 b5;rw [B,Z,a3,c5] at g8;refine thn g8 fun y s9 ⟨yv,H9,I9,r9,a9,m',c0,w9⟩=>?_
   obtain ⟨z,its,nn,rr,hl,e⟩:=I9.lstM a9;refine au F.slot_list_append ⟨_,e,rfl⟩ F.entry_list_append (F.args_list_append_2 _ _) (gC _ its.toArray nn y (by rw [O4]; omega)) ⟨e,?_⟩;have c4:Inv U ([] ++ Q7d fp s7.heap) b1 (upd H9 s2.heap.objs.size (.lst (ys ++ [yv]))) { s9 with heap:=s9.heap.update s2.heap.objs.size (cr fun a=>a.push y) }:=
    I9.lset (t':=s9.toks) (its':=its ++ [y]) a9 e (by simp) (rr.append (.cons r9 .nil)) (by rw [O3,eZ]; omega)
   refine ⟨m',c0,i + 1,_,b1,_,c4.unpinned,T.keep _ _ _ a6 fun b G o eo=>(c4.pin (b,o) (E5 _ (E5 _ (Kf G eo)))).1,fun b G=>?_,w9⟩;obtain ⟨o,eo,d⟩:=T.obj _ _ a6 b G;exact (c4.pin (b,o) (E5 _ (E5 _ (Kf G eo)))).2.1
 rw [b0] at a7;have b7:=codeAny_compStart_list (rest:=[]) (ifs:=ifs) a7 (T.self X.A 0 _ _ _ d2 a7);subst c8;rw [<- b2,<- Y] at b7;exact b7
theorem Qk9 {elt tg iter:aD} {ifs:List aD} {O:TT} {pos:Pos} {N N':List Str} {sc scE:Scope} {cap:List (Option Nat)} {J:TI} {g:TG} {te:TE} (j:X.calm=true) (hi:PI X tg iter J)
  (Z:∀ cl C s0 H0 ex,PG (Xa X N' sc cl C s0 H0 ex) tg g) (Y:∀ cl C s0 H0 ex,PE (Xa X N' sc cl C s0 H0 ex) elt te) (G:∀ cl C s0 H0 ex,PTs (Xa X N' sc cl C s0 H0 ex) ifs O)
  (hN:X.N=N:=by rfl) (hE:X.env.scope=scE:=by rfl) (hc:compOkC N N' sc scE cap=true:=by decide +kernel) (hs:∀ x,bC iter X.env x=pure x:=by intro _; rfl) :
  PE X (.ListComp elt [⟨tg,iter,ifs,0⟩] sc pos) (Qbe cap J g O te):=by
 intro pins s σ H Q I h;rw [eval_ListComp];refine Q8t (use:=none) j hi Z Y G hN hE hc hs I h fun B C H' s' m I' U hf q=>⟨m,U,fun h' z=>?_⟩
 obtain ⟨f0,f1,f2,f3,f4,f5⟩:=hf;exact ⟨.ref B,H',I'.turned (t':=s'.toks) (fun b o hb e=>(z.2 b hb).trans e) f0 f1 f3 f4 f5,rfl,q⟩
theorem Qjz {ifs:List aD} {tt:TT} {i:Nat} {x:Str} {J j:Pos} {elt tg iter:aD} {pos:Pos} {N N':List Str} {sc scE:Scope} {cap:List (Option Nat)} {wi:TI} {g:TG} {te:TE} (a4:X.N.Nodup) (a3:X.N[i]?=some x) (hx:Loc X.env.scope x) (B:X.calm=true) (hi:PI X tg iter wi)
  (hg:∀ cl C s0 H0 ex,PG (Xa X N' sc cl C s0 H0 ex) tg g) (he:∀ cl C s0 H0 ex,PE (Xa X N' sc cl C s0 H0 ex) elt te) (Z:∀ cl C s0 H0 ex,PTs (Xa X N' sc cl C s0 H0 ex) ifs tt)
  (Y:swapsWith (.ListComp elt [⟨tg,iter,ifs,0⟩] sc pos) (some (.Name x J)) j.line X.env=pure true:=by rfl)
  (hN:X.N=N:=by rfl) (hE:X.env.scope=scE:=by rfl) (hc:compOkC N N' sc scE cap=true:=by decide +kernel) (hs:∀ x,bC iter X.env x=pure x:=by intro _; rfl)
  (hf:X.fn x=true\/X.env.scope.names.lookup x=some .local:=by first | exact .inl rfl | exact .inr rfl | assumption) :
  PS X (.Assign [.Name x J] (.ListComp elt [⟨tg,iter,ifs,0⟩] sc pos) j) (Qsa (Qbe cap wi g tt te) (Qe4 i)):=by
 intro pins s σ H D I h;rw [exec_Assign_Name_used _ _ _ _ Y];refine aF (wpAny_standAt (aF ?_));show aI _ _ (do let _ <- comprehension (.ListComp elt [⟨tg,iter,ifs,0⟩] sc pos) sc X.env _ (newList []) false (aN iter X.env) (some (assign (.Name x J) X.env))) _ _ s;refine aF (af (Q8t (use:=some (assign (.Name x J) X.env)) (QQ:=fun _ s'=>SP X pins D .next s') B hi hg he Z hN hE hc hs I h ?_) (fun _ s' hq=>aU (aU hq)) fun _ _ e=>e)
 intro G C H' s' m I' hm a2 q;obtain ⟨f0,f1,f2,f3,f4,f5⟩:=a2;show aI _ _ (assign (.Name x J) X.env (.ref G)) _ _ _;refine wpAny_assign_Name (Qa9 I' a4 a3 hx (v:=.ref G) rfl (fun s2 I2 ⟨a,sb,O⟩=>⟨m,?_,fun h' U=>?_⟩) hf)
 ·refine hm.sameBut sb fun z=>?_
  rcases O with O | O
  ·exact f1 (z.trans O)
  ·exact f4 x a O z.symm
 ·exact ⟨_,H',I2.turned (t':=s2.toks) (fun b o hb e=>(U.2 b hb).trans e) f0 f1 f3 f4 f5,q⟩
end
section
variable {X:Cx} {e e3:aD} {te t3:TE} {pos p2:Pos}
end
section
variable {X:Cx} {a:aD} {ta:TA} {p p' pos pos':Pos}
end
section
variable {X:Cx}
end
section
variable {κ:Type} [DecidableEq κ]
def jp (kvs:List (κ × V)) (k:κ):Option V:=(kvs.find? fun kv=>decide (kv.1=k)).map (·.2)
def Q9i (kvs:List (κ × V)) (k:κ) (v:V):List (κ × V):=
 if (kvs.any fun kv=>decide (kv.1=k))=true then kvs.map (fun kv=>if kv.1=k then (kv.1,v) else kv) else kvs ++ [(k,v)]
theorem Qcm {p:κ × V} {r:List (κ × V)} {k:κ} (e:p.1=k):jp (p :: r) k=some p.2:=by simp [jp,cO,e]
theorem Qcn {p:κ × V} {r:List (κ × V)} {k:κ} (e:¬ p.1=k):jp (p :: r) k=jp r k:=by simp [jp,cO,e]
theorem Qdv (kvs:List (κ × V)) (k:κ) (v:V):(Q9i kvs k v).length<=kvs.length + 1:=by
 unfold Q9i
 split
 ·rw [O2]; omega
 ·rw [O3,E3,cU]; omega
theorem KV.val {kvs:List (κ × V)} {vs:List (κ × aB)} (r:KV kvs vs) (k:κ):RelO (jp kvs k) (bE vs k):=by
 unfold KV at r
 induction r with
 | nil=>exact True.intro
 | @cons p q ps j h t G=>
  obtain ⟨h1,h2⟩:=h
  by_cases e:p.1=k
  ·have B:q.1=k:=h1.symm.trans e;have b:bE (q :: j) k=some q.2:=by simp [bE,cO,B]
   rw [Qcm e,b]; exact h2
  ·have B:¬ q.1=k:=fun z=>e (h1.trans z)
   have b:bE (q :: j) k=bE j k:=by simp [bE,cO,B]
   rw [Qcn e,b]; exact G
theorem KV.any {kvs:List (κ × V)} {vs:List (κ × aB)} (r:KV kvs vs) (k:κ):(kvs.any fun j=>decide (j.1=k))=vs.any fun j=>decide (j.1=k):=by
 unfold KV at r
 induction r with
 | nil=>rfl
 | cons h t q=>rw [dZ,dZ,q,h.1]
theorem KV.repl {kvs:List (κ × V)} {vs:List (κ × aB)} (r:KV kvs vs) (k:κ) {y:V} {u:aB} (B:RelV y u) :
  KV (kvs.map fun j=>if j.1=k then (j.1,y) else j) (vs.map fun j=>if j.1=k then (j.1,u) else j):=by
 unfold KV at r ⊢
 induction r with
 | nil=>exact .nil
 | @cons p q ps I h t G=>
  rw [F5,F5];refine .cons ?_ G;obtain ⟨h1,h2⟩:=h
  by_cases e:p.1=k
  ·rw [bN e,bN (h1.symm.trans e)]; exact ⟨h1,B⟩
  ·rw [bO e,bO (fun z=>e (h1.trans z))]; exact ⟨h1,h2⟩
theorem KV.put {kvs:List (κ × V)} {vs:List (κ × aB)} (r:KV kvs vs) (k:κ) {y:V} {u:aB} (j:RelV y u):KV (Q9i kvs k y) (stored vs k u):=by
 unfold Q9i stored;rw [r.any k]
 by_cases e:(vs.any fun q=>decide (q.1=k))=true
 ·rw [bN e,bN e]; exact r.repl k j
 ·rw [bO e,bO e]; exact Paired.snoc r ⟨rfl,j⟩
end
theorem Qm4 {P:aO} {w:aM} {k:Key} {u:aB} (r:RelV (kV k) u):(J4 P w).is k u=true:=by
 cases k with
 | inl i=>obtain ⟨t,e⟩:=(show ∃ t,u=ce i t from r); subst e; exact Qdm P w i t
 | inr x=>obtain ⟨t,e⟩:=(show ∃ t,u=cz x t from r); subst e; exact Qdk P w x t
theorem Qay {P:aO} {w:aM}:∀ {ks:List Key} {us:List aB},Vals (ks.map kV) us->ItemsAre (J4 P w) ks us
 | [],_,r=>by rw [cp] at r; cases r; exact .nil
 | k :: ks,_,r=>by
  rw [F5] at r;cases r with
  | cons h t=>exact .cons (Qm4 h) (Qay t)
abbrev KT (H:Hp):List (List Key × V)->List (List Key × aA × aB)->Prop:=aw fun p q=>p.1=q.1/\H q.2.1=some (.tup (p.1.map kV))/\RelV p.2 q.2.2
theorem KT.val {H:Hp} {kvs:List (List Key × V)} {xs:List (List Key × aA × aB)} (r:KT H kvs xs) (k:List Key):RelO (jp kvs k) ((atKey xs k).map (·.2)):=by
 induction r with
 | nil=>exact True.intro
 | @cons p q ps j h t G=>
  obtain ⟨h1,_,h2⟩:=h
  by_cases e:p.1=k
  ·have B:q.1=k:=h1.symm.trans e;have b:atKey (q :: j) k=some q.2:=by simp [atKey,cO,B]
   rw [Qcm e,b]; exact h2
  ·have B:¬ q.1=k:=fun z=>e (h1.trans z)
   have b:atKey (q :: j) k=atKey j k:=by simp [atKey,cO,B]
   rw [Qcn e,b]; exact G
section
variable {P:aO} {w:aM} {H:Hp} {h:Heap} {a:aA}
theorem Qrh {u:HO} (ok:HOk P w H h) (e:Rd H a u):ObjOk P w H h a u:=e.ok ok
theorem Qmf {kvs:List (Key × V)} (ok:HOk P w H h) (e:Rd H a (.dK kvs)):kvs.length<=sizeLine/\(a == aj)=false/\∃ vs,KV kvs vs/\h.DictOf (J4 P w) a vs:=
 show ObjOk P w H h a (.dK kvs) from Qrh ok e
theorem Qx6 {kvs:List (Key × V)} (ok:HOk P w H h) (e:H a=some (.dK kvs)):kvs.length<=sizeLine/\(a == aj)=false/\∃ vs,KV kvs vs/\h.DictOf (J4 P w) a vs:=Qmf ok (.inl e)
theorem Qm2 {ks:List Key} (ok:HOk P w H h) (e:H a=some (.tup (ks.map kV))):(tupleKind (J4 P w)).is h ks a:=by
 obtain ⟨_,its,r,o,h1,h2,n,j⟩:=(show ObjOk P w H h a (.tup (ks.map kV)) from ok a _ e);exact ⟨o,its.toArray,n,h1,h2,j,by simpa using Qay r⟩
theorem Qrv {kvs:List (List Key × V)} (ok:HOk P w H h) (e:Rd H a (.dT kvs)):kvs.length<=sizeLine/\(a == aj)=false /\
  ∃ xs,KT H kvs xs/\h.DictOfH (tupleKind (J4 P w)) a xs:=by
 obtain ⟨z,y,xs,r,o,es,I,h1,h2,G,U,J⟩:=(show ObjOk P w H h a (.dT kvs) from Qrh ok e);refine ⟨z,y,xs,r,o,es,I,h1,h2,G,U,fun x j=>?_,J⟩;have all:∀ {l:List (List Key × V)} {m:List (List Key × aA × aB)},KT H l m->∀ x∈m,(tupleKind (J4 P w)).is h x.1 x.2.1:=by
  intro l m q
  induction q with
  | nil=>intro x j; exact nomatch j
  | @cons p q ps Y B t O=>
   intro x j;rcases D8.mp j with e | j
   ·subst e;exact Qm2 ok (by rw [<- B.1]; exact B.2.1)
   ·exact O x j
 exact all r x j
end
def DGet (H:Hp) (a:aA) (y:V) (r:Option V):Prop:=
 (∃ kvs k,Rd H a (.dK kvs)/\y=kV k/\r=jp kvs k)\/∃ kvs k b,Rd H a (.dT kvs)/\y=.ref b/\H b=some (.tup (k.map kV))/\r=jp kvs k
theorem DGet.k {H:Hp} {a:aA} {kvs:List (Key × V)} {k:Key} (e:H a=some (.dK kvs)):DGet H a (kV k) (jp kvs k):=.inl ⟨kvs,k,.inl e,rfl,rfl⟩
section
variable {X:Cx} {pins:List (aA × Obj)} {σ:St} {H:Hp} {s:aC} {a:aA} {y v:V} {u r:aB} {o:Option V} {A:aR} {E:aB->aC->Prop}
theorem Inv.big (I:Inv X pins σ H s):aj < s.heap.objs.size:=by
 have h:aV < s.heap.objs.size:=(I.mod.glob.keeps I.bk).lt;exact Nat.lt_trans (by decide) h
theorem Qid {Q:aB->aC->Prop} (Y:A.units + 1 < ae) (I:Inv X pins σ H s) (g:DGet H a y (some v)) (U:RelV y u) (h:∀ B s',Inv X pins σ H s'->RelV v B->Q B s') :
  aI (aJ X.prog X.w) A (getItem (.ref a) u) Q E s:=by
 rcases g with ⟨kvs,k,e,G,l⟩ | ⟨kvs,k,b,e,G,Z,l⟩
 ·subst G;obtain ⟨z,hd,vs,q,dd⟩:=Qmf I.hok e;obtain ⟨B,J,j⟩:=RelO.some_of (v:=v) (o:=bE vs k) (by rw [l]; exact q.val k);exact wpAny_getItem_of (Qm4 U) dd.mapOf J (h B _ (I.tok _) j)
 ·subst G;cases (show u=bV b from U);obtain ⟨z,hd,xs,q,dd⟩:=Qrv I.hok e;obtain ⟨B,J,j⟩:=RelO.some_of (v:=v) (o:=(atKey xs k).map (·.2)) (by rw [l]; exact q.val k);obtain ⟨p,hp,O⟩:=Option.map_eq_some_iff.mp J;refine wpAny_getItem_heap (tupleKind_room_in1 Y) (Qm2 I.hok Z) dd hp ?_;rw [O];exact h B _ (I.tok _) j
theorem Qr1 {h':Heap} {t':Nat} {ob:HO} (I:Inv X pins σ H s) (G:Mut (H a)) (hs:Heap.SameBut a s.heap h') (B:∃ q,h'.get? a=some q) (new:ObjOk X.prog X.w (upd H a ob) h' a ob) :
  Inv X pins σ (upd H a ob) { s with heap:=h',toks:=t' }:=
 I.write (x:=a) (e:=a) G (.inl rfl) (fun b q j z=>(hs.2 b j).trans z) B new
theorem Qu8 {P:aO} {w:aM} {H':Hp} {h':Heap} {kvs:List (Key × V)} {vs:List (Key × aB)} (z:kvs.length<=sizeLine) (hd:(a == aj)=false) (j:KV kvs vs) (dd:h'.DictOf (J4 P w) a vs) :
  ObjOk P w H' h' a (.dK kvs):=⟨z,hd,vs,j,dd⟩
end
section
variable {X:Cx} {pins:List (aA × Obj)} {σ:St} {H:Hp} {s:aC} {a:aA} {kvs:List (Key × V)} {k:Key} {u:aB} {A:aR} {E:aB->aC->Prop}
end
def Qrc (i:aD):Prop:=∀ ov iv,subscripted i false ov iv=operate [ov,iv] (getItem ov iv)
theorem Qnm {prog:aO} {w:aM} {A:aR} {E:aB->aC->Prop} {s:aC} {env:Env} {value j:aD} {pos:Pos} {T id:String} {Q:aB->aC->Prop}
  (U:typeLookup (.type T) "__getitem__" = pure (some (.builtin id))) (hs:Qrc j)
  (h:aI (aJ prog w) A (aN value env) (fun o B=>aI (aJ prog w) A (aN j env) (fun i q=>q.TypeIs o T/\aI (aJ prog w) A (getItem o i) Q E q) E B) E s) :
  aI (aJ prog w) A (aN (.Subscript value j pos) env) Q E s:=by
 refine Subscript_ (af h (fun o B I=>af I (fun i q z=>?_) fun _ _ x=>x) fun _ _ x=>x)
 obtain ⟨O,z⟩:=z;unfold subscriptTail;refine aF ?_;rw [getitemInPython_of_ne O.not_modules];refine aF (wpAny_specialOf O U ?_);have fin:aI (aJ prog w) A (subscripted j false o i) (fun r G=>aI (aJ prog w) A (letTemporaryGo value o r >>= fun _=>pure r) Q E G) E q:=by
  rw [hs o i];exact wpAny_operating (af z (fun r G J=>aF (wpAny_letTemporaryGo (aU J))) fun _ _ x=>x)
 first
  | exact aU (aF fin)
  | exact aF (aU (aF fin))
  | exact aF fin
theorem Qe6 {X:Cx} {pins:List (aA × Obj)} {σ:St} {H:Hp} {s:aC} {a:aA} {y:V} {o:Option V} (I:Inv X pins σ H s) (g:DGet H a y o):s.TypeIs (.ref a) "dict" := by
 rcases g with ⟨kvs,k,e,_,_⟩ | ⟨kvs,k,b,e,_,_,_⟩
 ·obtain ⟨_,_,vs,_,dd⟩:=Qmf I.hok e;exact dd.typeIs
 ·obtain ⟨_,_,xs,_,dd⟩:=Qrv I.hok e;exact dd.typeIs
def Qvc (td ty:TE):TE:=fun σ H Q=>td σ H fun x H1=>ty σ H1 fun y H2=>∃ a v,x=.ref a/\DGet H2 a y (some v)/\Q v H2
section
variable {X:Cx} {o i e value:aD} {pos pos' tpos:Pos} {td ty tv:TE}
theorem Qfz (z:X.A.units + 1 < ae) (O:PE X o td) (hi:PE X i ty) (hs:Qrc i):PE X (.Subscript o i pos) (Qvc td ty):=by
 intro pins s σ H Q I h;refine Qnm PySem.F.slot_dict_getitem.lookup hs (thn (O pins s σ H _ I h) fun u s1 ⟨x,H1,B,G,q1⟩=>thn (hi pins s1 σ H1 _ B q1) fun Z s2 ⟨y,H2,q,U,a,v,ex,g,q2⟩=>?_)
 subst ex;obtain rfl:u=bV a:=G;exact ⟨Qe6 q g,Qid z q g U fun Y s3 J j=>⟨v,H2,J,j,q2⟩⟩
end
theorem Qmg {P:aO} {w:aM} {H:Hp} (h:Heap) (j:aj < h.objs.size):ObjOk P w H (h.push { cls:=.type "dict",data:=.dict #[] }) h.objs.size (.dK []):=
 ⟨dB _,beq_eq_false_iff_ne.mpr (Ne.symm (F2 j)),[],.nil,Heap.DictOf.new h⟩
section
variable {X:Cx} {pos:Pos}
end
def Qej:List (TE × TE)->St->Hp->(List (V × V)->Hp->Prop)->Prop
 | [],_,H,Q=>Q [] H
 | (tk,tv) :: r,σ,H,Q=>tk σ H fun x H1=>tv σ H1 fun y H2=>Qej r σ H2 fun ps H3=>Q ((x,y) :: ps) H3
abbrev VV:List (V × V)->List (aB × aB)->Prop:=aw fun p q=>RelV p.1 q.1/\RelV p.2 q.2
def PPs (X:Cx) (pos:Pos) (keys:List (Option aD)) (values:List aD) (trs:List (TE × TE)):Prop:=
 ∀ (pins:List (aA × Obj)) (s:aC) (σ:St) (H:Hp) (Q:List (V × V)->Hp->Prop),Inv X pins σ H s->Qej trs σ H Q ->
  aI (aJ X.prog X.w) X.A (evalPairs (pairTrees keys values X.env pos)) (fun vs s'=>∃ ps H',Inv X pins σ H' s'/\VV ps vs/\Q ps H') X.xe s
theorem Qfx {X:Cx} {pos:Pos}:PPs X pos [] [] []:=fun pins s σ H Q I h=>pairTrees_nil_walk ⟨[],H,I,.nil,h⟩
theorem xh {X:Cx} {pos:Pos} {k v:aD} {ks:List (Option aD)} {vs:List aD} {tk tv:TE} {j:List (TE × TE)} (J:PE X k tk) (Z:PE X v tv) (z:PPs X pos ks vs j) :
  PPs X pos (some k :: ks) (v :: vs) ((tk,tv) :: j):=fun pins s σ H Q I h=>
 pairTrees_cons_walk (thn (J pins s σ H _ I h) fun u s1 ⟨x,H1,G,B,q1⟩=>thn (Z pins s1 σ H1 _ G q1) fun w2 s2 ⟨y,H2,Y,ry,q2⟩=>
  thn (z pins s2 σ H2 _ Y q2) fun ws s3 ⟨ps,U,O,q,q3⟩=>⟨(x,y) :: ps,U,O,.cons ⟨B,ry⟩ q,q3⟩)
def Q0g (kvs more:List (Key × V)):List (Key × V):=more.foldl (fun acc kv=>Q9i acc kv.1 kv.2) kvs
theorem KV.merge:∀ {more:List (Key × V)} {j:List (Key × aB)} {kvs:List (Key × V)} {vs:List (Key × aB)},KV more j->KV kvs vs->KV (Q0g kvs more) (merged vs j):=by
 intro more j kvs vs r;unfold KV at r
 induction r generalizing kvs vs with
 | nil=>intro q; exact q
 | @cons p q ps G h t z=>
  intro B;have e:KV (Q9i kvs p.1 p.2) (stored vs q.1 q.2):=by
   have:=B.put p.1 h.2;rw [<- h.1]; exact this
  exact z e
theorem Q2n:∀ (more kvs:List (Key × V)),(Q0g kvs more).length<=kvs.length + more.length
 | [],kvs=>by show kvs.length<=kvs.length + 0; omega
 | p :: r,kvs=>by
  have h1:=Q2n r (Q9i kvs p.1 p.2);have h2:=Qdv kvs p.1 p.2;show (Q0g (Q9i kvs p.1 p.2) r).length<=_;rw [E3]; omega
theorem Q8w {P:aO} {w:aM}:∀ {kvs:List (Key × V)} {B:List (aB × aB)},VV (kvs.map fun z=>(kV z.1,z.2)) B->∃ j,Carries (J4 P w) B j/\KV kvs j
 | [],_,r=>by rw [cp] at r; cases r; exact ⟨[],True.intro,.nil⟩
 | p :: kvs,_,r=>by
  rw [F5] at r;cases r with
  | @cons a b I bs h t=>
   obtain ⟨j,c,q⟩:=Q8w (P:=P) (w:=w) t;obtain ⟨J,G⟩:=b;exact ⟨(p.1,G) :: j,⟨Qm4 h.1,rfl,c⟩,.cons ⟨rfl,h.2⟩ q⟩
def Qvb (trs:List (TE × TE)):TE:=fun σ H Q=>∀ p,H p=none->Qej trs σ (upd H p (.dK [])) fun ps H2=>H2 p=some (.dK [])/\∃ kvs:List (Key × V),ps=kvs.map (fun kv=>(kV kv.1,kv.2))/\kvs.length<=15/\Q (.ref p) (upd H2 p (.dK (Q0g [] kvs)))
theorem Qfy {X:Cx} {pos:Pos} {j:List (Option aD)} {B:List aD} {O:List (TE × TE)} (h:PPs X pos j B O) (J:j.all (·.isSome)=true) (hl:j.length=B.length) (h0:j≠[])
  (Y:j.length<=15):PE X (.Dict j B pos) (Qvb O):=by
 intro pins s σ H Q I q;have hn:=I.hok.fresh (O8 s.heap.objs.size);have I1:=I.laid (a:=s.heap.objs.size) (o:=.dK []) (h':=s.heap.push { cls:=.type "dict",data:=.dict #[] }) (t':=s.toks) (fun _ _ q=>O1 _ q) (O8 _) (Qmg s.heap I.big);refine wpAny_Dict_walk (knd:=J4 X.prog X.w) J hl h0 Y (thn (h pins _ σ _ _ I1 (q _ hn)) fun ws s2 ⟨ps,H2,Z,U,e,kvs,ep,lk,q2⟩=>?_)
 subst ep;obtain ⟨rs,c,rk⟩:=Q8w (P:=X.prog) (w:=X.w) U;obtain ⟨z,hd,a2,r0,dd⟩:=Qx6 Z.hok e;cases r0;refine ⟨rs,c,dd,fun h' G hs=>⟨.ref s.heap.objs.size,_,?_,rfl,q2⟩⟩
 have hz:(Q0g [] kvs).length<=sizeLine:=by
  have h1:=Q2n kvs [];rw [cU] at h1;rw [sizeLine_eq]; omega
 have he:∃ q,h'.get? s.heap.objs.size=some q:=let ⟨q,_,_,hq,_⟩:=G; ⟨q,hq⟩;exact Qr1 Z (by rw [e]; exact True.intro) hs he (Qu8 hz hd (rk.merge .nil) G)
structure M1 (X:Cx) (o:aD) (m:Str) (apos:Pos) (e:aD) (cpos:Pos):Prop where
 base:am o m X.env (aN o X.env)=aN o X.env
 few:((aW cpos (aP [e] X.env)).all (fun x=>!x.1) && (backToKw cpos (keywordEach [] X.env)).all (fun x=>x.1.isSome)
  && decide (([e]:List aD).length + ([]:List Keyword).length + (if ([]:List Keyword).isEmpty then 0 else 1) < 30))=true
 line:(apos.endLine == cpos.line)=true
 trees:aW cpos (aP [e] X.env)=[(false,aN e X.env)]
structure M2 (X:Cx) (o:aD) (m:Str) (apos:Pos) (e f:aD) (cpos:Pos):Prop where
 base:am o m X.env (aN o X.env)=aN o X.env
 few:((aW cpos (aP [e,f] X.env)).all (fun x=>!x.1) && (backToKw cpos (keywordEach [] X.env)).all (fun x=>x.1.isSome)
  && decide (([e,f]:List aD).length + ([]:List Keyword).length + (if ([]:List Keyword).isEmpty then 0 else 1) < 30))=true
 line:(apos.endLine == cpos.line)=true
 trees:aW cpos (aP [e,f] X.env)=[(false,aN e X.env),(false,aN f X.env)]
section
variable {X:Cx} {pins:List (aA × Obj)} {σ:St} {H:Hp} {s:aC} {a:aA} {y d:V} {u r:aB} {o:Option V} {A:aR} {E:aB->aC->Prop}
end
section
variable {X:Cx} {o e f:aD} {apos cpos:Pos} {td ty tx:TE}
end
section
variable {X:Cx} {pins:List (aA × Obj)} {σ:St} {H:Hp} {s:aC} {a:aA} {kvs:List (Key × V)} {A:aR} {E:aB->aC->Prop}
end
section
variable {X:Cx} {pins:List (aA × Obj)} {σ:St} {H:Hp} {s:aC} {a:aA} {y:V} {u:aB} {A:aR} {E:aB->aC->Prop}
end
section
variable {X:Cx}
end
section
open AutoSeq1 (wpAny_loadPart')
section
variable {prog:aO} {w:aM} {A:aR} {E:aB->aC->Prop} {s:aC}
end
section
variable {prog:aO} {w:aM} {A:aR} {E:aB->aC->Prop} {s:aC}
end
section
variable {X:Cx} {a:aD} {ta:TA} {p p' pos pos':Pos}
end
end
section
variable {prog:aO} {w:aM} {A:aR} {E:aB->aC->Prop} {s:aC}
end
section
variable {X:Cx} {e e3:aD} {te t3:TE} {pos p2:Pos}
end
section
variable {prog:aO} {w:aM} {K:Type} [DecidableEq K] {knd:KeyKind prog w K} {A:aR} {R:Result->aC->Prop}
end
section
variable {X:Cx} {pins:List (aA × Obj)} {σ:St} {H:Hp} {s:aC} {a:aA} {tg:aD}
end
end L2
namespace L2
open PySem PySem.Spec PyProof.Rows PySem.W
section
variable (r:Nat->Nat)
def rk (p:Array Nat) (i:Nat):Nat:=r (p.getD i 0)
variable {r}
end
end L2
namespace L2
open PySem PySem.Spec PyProof.Rows PySem.W
section
variable {prog:aO} {w:aM} {A:aR} {E:aB->aC->Prop} {s:aC}
end
end L2
namespace L2
open PySem PySem.Spec PyProof.Rows
end L2
namespace L2
open PySem PySem.Spec PyProof.Rows PySem.W
section
variable {prog:aO} {w:aM} {A:aR} {E:aB->aC->Prop} {s:aC}
end
end L2
namespace L2
open PySem PySem.Spec PyProof.Rows
section
variable {X:Cx}
end
section
variable {prog:aO} {w:aM} {A:aR} {E:aB->aC->Prop} {s:aC}
end
end L2
namespace L2
open PySem PySem.Spec PyProof.Rows PySem.W
section
variable {prog:aO} {w:aM} {A:aR} {E:aB->aC->Prop} {s:aC}
end
section
variable {X:Cx}
end
end L2
namespace L2
open PySem PySem.Spec PyProof.Rows
section
variable {prog:aO} {w:aM} {K:Type} [DecidableEq K]
variable {knd:KeyKind prog w K} {L:Bool} {A:aR} {E:aB->aC->Prop} {s:aC} {a:aA}
end
section
variable {prog:aO} {w:aM} {A:aR} {E:aB->aC->Prop} {s:aC}
end
section
variable {prog:aO} {w:aM} {A:aR} {E:aB->aC->Prop} {s:aC}
end
section
variable {prog:aO} {w:aM} {K:Type} [DecidableEq K] {knd:KeyKind prog w K} {A:aR} {R:Result->aC->Prop}
end
section
variable {prog:aO} {w:aM} {A:aR} {E:aB->aC->Prop} {s:aC}
end
section
variable {prog:aO} {w:aM} {A:aR} {E:aB->aC->Prop} {s:aC}
end
section
variable {prog:aO} {w:aM} {A:aR} {E:aB->aC->Prop} {s:aC}
end
section
variable {X:Cx}
end
end L2
namespace L2
open PySem PySem.Spec PyProof.Rows SeqAt
section
variable {prog:aO} {w:aM} {K:Type} [DecidableEq K] {knd:KeyKind prog w K} {A:aR} {E:aB->aC->Prop} {s:aC}
end
section
variable {prog:aO} {w:aM} {K:Type} [DecidableEq K] {knd:KeyKind prog w K} {A:aR} {E:aB->aC->Prop} {s:aC}
end
section
variable {X:Cx}
end
end L2
namespace L2
open PySem PySem.Spec PyProof.Rows SeqAt
section
variable {X:Cx}
end
end L2
namespace Sm
open PySem PySem.Spec L2
section
inductive PV where
 | non | bl (b:Bool) | int (i:Int) | str (x:Str) | tup (xs:List PV) | lst (xs:List PV) | fro (xs:List PV) | ref (i:Nat) | dic
inductive Cell where
 | lst (xs:List PV) | dic (kvs:List (Key × PV)) | dtp (kvs:List (List Key × PV)) | frd (kvs:List (Key × PV))
 | obj (C:aA) (fs:List (Str × PV))
abbrev Q2:=List Cell
structure Exc where
 cls:Str
 fs:Option (Str × PV):=none
inductive Res (α:Type) where
 | ok (a:α) (st:Q2) | exc (x:Exc) (st:Q2) | stuck
abbrev Gam:=List (Option PV)
abbrev ME:=Gam->Q2->Res PV
structure Tk where
 tr:List aA
 hid:List aA
instance:Membership aA Tk:=⟨fun t a=>a∈t.tr\/a∈t.hid⟩
def Tk.nil:Tk:=⟨[],[]⟩
theorem Tk.not_nil (a:aA):a∉Tk.nil:=fun z=>by rcases z with z | z <;> cases z
def Tk.add (t:Tk) (p:aA):Tk:=⟨t.tr ++ [p],t.hid⟩
def Tk.hide (t:Tk) (p:aA):Tk:=⟨t.tr,p :: t.hid⟩
mutual
def Rep (H:Hp) (ρ:Tk):PV->V->Prop
 | .non,v=>v=.non
 | .bl b,v=>v=.bl b
 | .int i,v=>v=.int i
 | .str x,v=>v=.str x
 | .tup ps,v=>∃ a vs,v=.ref a/\H a=some (.tup vs)/\a∉ρ/\RepL H ρ ps vs
 | .lst ps,v=>∃ a vs,v=.ref a/\H a=some (.lst vs)/\a∉ρ/\RepL H ρ ps vs
 | .fro ps,v=>∃ a vs,v=.ref a/\Rd H a (.lst vs)/\a∉ρ/\RepL H ρ ps vs
 | .ref i,v=>∃ a,ρ.tr[i]?=some a/\v=.ref a
 | .dic,v=>∃ a,v=.ref a/\H a=some (.dK [])/\a∉ρ
def RepL (H:Hp) (ρ:Tk):List PV->List V->Prop
 | [],vs=>vs=[]
 | p :: ps,vs=>∃ v r,vs=v :: r/\Rep H ρ p v/\RepL H ρ ps r
end
structure Ext (H:Hp) (ρ:Tk) (H':Hp) (ρ':Tk):Prop where
 pre:ρ.tr <+: ρ'.tr
 hidM:∀ a,a∈ρ.hid->a∈ρ'.hid
 hidN:∀ a,a∈ρ'.hid->a∈ρ.hid\/H a=none
 keep:∀ a o,H a=some o->a∉ρ.tr->H' a=some o
 new:∀ a,a∈ρ'.tr->a∈ρ.tr\/H a=none
 old:∀ a o,H a=some o->∃ o',H' a=some o'
 frz:∀ a o u,H a=some (.frz o u)->H' a=some (.frz o u)
theorem Ext.refl (H:Hp) (ρ:Tk):Ext H ρ H ρ:=⟨cY _,fun _ h=>h,fun _ h=>.inl h,fun _ _ h _=>h,fun _ h=>.inl h,fun _ o h=>⟨o,h⟩,fun _ _ _ h=>h⟩
theorem Ext.trans {H H1 H2:Hp} {ρ ρ1 j:Tk} (a:Ext H ρ H1 ρ1) (b:Ext H1 ρ1 H2 j):Ext H ρ H2 j where
 pre:=a.pre.trans b.pre
 hidM:=fun x h=>b.hidM x (a.hidM x h)
 hidN:=fun x h=>by
  rcases b.hidN x h with z | z
  ·exact a.hidN x z
  ·right
   cases q:H x with
   | none=>rfl
   | some o=>
    obtain ⟨o',e⟩:=a.old x o q;rw [e] at z; cases z
 keep:=fun x o h n=>b.keep x o (a.keep x o h n) fun z=>by
  rcases a.new x z with z | z
  ·exact n z
  ·rw [h] at z; cases z
 new:=fun x h=>by
  rcases b.new x h with z | z
  ·exact a.new x z
  ·right
   cases q:H x with
   | none=>rfl
   | some o=>
    obtain ⟨o',e⟩:=a.old x o q;rw [e] at z; cases z
 old:=fun x o h=>by
  obtain ⟨o',e⟩:=a.old x o h;exact b.old x o' e
 frz:=fun x o u h=>b.frz x o u (a.frz x o u h)
theorem Ext.add {H:Hp} {ρ:Tk} {p:aA} {o:HO} (h:H p=none):Ext H ρ (upd H p o) ρ where
 pre:=cY _
 hidM:=fun _ h=>h
 hidN:=fun _ h=>.inl h
 keep:=fun a u e _=>by rw [Qi (Qm e h)]; exact e
 new:=fun a e=>.inl e
 old:=fun a u e=>⟨u,by rw [Qi (Qm e h)]; exact e⟩
 frz:=fun a o u e=>by rw [Qi (Qm e h)]; exact e
theorem Ext.addT {H:Hp} {ρ:Tk} {p:aA} {o:HO} (h:H p=none):Ext H ρ (upd H p o) (ρ.add p) where
 pre:=dH _ _
 hidM:=fun _ h=>h
 hidN:=fun _ h=>.inl h
 keep:=fun a u e _=>by rw [Qi (Qm e h)]; exact e
 new:=fun a e=>by
  rcases E9.mp e with z | z
  ·exact .inl z
  ·right
   have:a=p:=by simpa using z
   rw [this]; exact h
 old:=fun a u e=>⟨u,by rw [Qi (Qm e h)]; exact e⟩
 frz:=fun a o u e=>by rw [Qi (Qm e h)]; exact e
theorem Ext.same {H H':Hp} {ρ:Tk} (h:Same H H'):Ext H ρ H' ρ:=⟨cY _,fun _ h=>h,fun _ h=>.inl h,fun a o e _=>h a o e,fun _ e=>.inl e,fun a o e=>⟨o,h a o e⟩,fun a o u e=>h a _ e⟩
section
variable {H H':Hp} {ρ ρ':Tk}
theorem xm {a:aA} {o:HO} (x:Ext H ρ H' ρ') (h:H a=some o) (n:a∉ρ):a∉ρ':=fun z=>by
 rcases z with z | z
 ·rcases x.new a z with z | z
  ·exact n (.inl z)
  ·rw [h] at z; cases z
 ·rcases x.hidN a z with z | z
  ·exact n (.inr z)
  ·rw [h] at z; cases z
theorem Ext.kp {a:aA} {o:HO} (x:Ext H ρ H' ρ') (h:H a=some o) (n:a∉ρ):H' a=some o:=x.keep a o h fun z=>n (.inl z)
mutual
theorem Rep.ext (x:Ext H ρ H' ρ'):∀ {p:PV} {v:V},Rep H ρ p v->Rep H' ρ' p v
 | .non,_,h=>h
 | .bl _,_,h=>h
 | .int _,_,h=>h
 | .str _,_,h=>h
 | .tup ps,v,h=>by
  obtain ⟨a,vs,e,s,n,r⟩:=h;exact ⟨a,vs,e,x.kp s n,xm x s n,RepL.ext x r⟩
 | .lst ps,v,h=>by
  obtain ⟨a,vs,e,s,n,r⟩:=h;exact ⟨a,vs,e,x.kp s n,xm x s n,RepL.ext x r⟩
 | .fro ps,v,h=>by
  obtain ⟨a,vs,e,s,n,r⟩:=h;rcases s with s | ⟨o,s⟩
  ·exact ⟨a,vs,e,.inl (x.kp s n),xm x s n,RepL.ext x r⟩
  ·exact ⟨a,vs,e,.inr ⟨o,x.kp s n⟩,xm x s n,RepL.ext x r⟩
 | .ref i,v,h=>by
  obtain ⟨a,e,rfl⟩:=h;obtain ⟨t,j⟩:=x.pre;refine ⟨a,?_,rfl⟩;rw [<- j,O5 (O0.mp e).1];exact e
 | .dic,v,h=>by
  obtain ⟨a,e,s,n⟩:=h;exact ⟨a,e,x.kp s n,xm x s n⟩
theorem RepL.ext (x:Ext H ρ H' ρ'):∀ {ps:List PV} {vs:List V},RepL H ρ ps vs->RepL H' ρ' ps vs
 | [],_,h=>h
 | p :: ps,vs,h=>by
  obtain ⟨v,r,e,h1,h2⟩:=h;exact ⟨v,r,e,Rep.ext x h1,RepL.ext x h2⟩
end
mutual
theorem Rep.hide {a:aA} {o:HO} (h:H a=none):∀ {p:PV} {v:V},Rep H ρ p v->Rep (upd H a o) (ρ.hide a) p v
 | .non,_,r=>r
 | .bl _,_,r=>r
 | .int _,_,r=>r
 | .str _,_,r=>r
 | .tup ps,v,⟨b,vs,e,s,n,r⟩=>⟨b,vs,e,by rw [Qi (Qm s h)]; exact s,fun z=>by
   rcases z with z | z
   ·exact n (.inl z)
   ·rcases D8.mp z with z | z
    ·exact Qm s h z
    ·exact n (.inr z),RepL.hide h r⟩
 | .lst ps,v,⟨b,vs,e,s,n,r⟩=>⟨b,vs,e,by rw [Qi (Qm s h)]; exact s,fun z=>by
   rcases z with z | z
   ·exact n (.inl z)
   ·rcases D8.mp z with z | z
    ·exact Qm s h z
    ·exact n (.inr z),RepL.hide h r⟩
 | .fro ps,v,⟨b,vs,e,s,n,r⟩=>by
   have ne:b≠a:=by
    rcases s with s | ⟨_,s⟩
    ·exact Qm s h
    ·exact Qm s h
   refine ⟨b,vs,e,?_,fun z=>?_,RepL.hide h r⟩
   ·rcases s with s | ⟨u,s⟩
    ·exact .inl (by rw [Qi ne]; exact s)
    ·exact .inr ⟨u,by rw [Qi ne]; exact s⟩
   ·rcases z with z | z
    ·exact n (.inl z)
    ·rcases D8.mp z with z | z
     ·exact ne z
     ·exact n (.inr z)
 | .ref i,v,r=>r
 | .dic,v,⟨b,e,s,n⟩=>⟨b,e,by rw [Qi (Qm s h)]; exact s,fun z=>by
   rcases z with z | z
   ·exact n (.inl z)
   ·rcases D8.mp z with z | z
    ·exact Qm s h z
    ·exact n (.inr z)⟩
theorem RepL.hide {a:aA} {o:HO} (h:H a=none):∀ {ps:List PV} {vs:List V},RepL H ρ ps vs->RepL (upd H a o) (ρ.hide a) ps vs
 | [],_,r=>r
 | p :: ps,_,⟨v,t,e,q,j⟩=>⟨v,t,e,Rep.hide h q,RepL.hide h j⟩
end
mutual
theorem Rep.rehide {a:aA} {o:HO} (h:a∈ρ.hid):∀ {p:PV} {v:V},Rep H ρ p v->Rep (upd H a o) ρ p v
 | .non,_,r=>r
 | .bl _,_,r=>r
 | .int _,_,r=>r
 | .str _,_,r=>r
 | .tup ps,v,⟨b,vs,e,s,n,r⟩=>⟨b,vs,e,by rw [Qi (show b≠a from fun z=>n (.inr (by rw [z]; exact h)))]; exact s,n,RepL.rehide h r⟩
 | .lst ps,v,⟨b,vs,e,s,n,r⟩=>⟨b,vs,e,by rw [Qi (show b≠a from fun z=>n (.inr (by rw [z]; exact h)))]; exact s,n,RepL.rehide h r⟩
 | .fro ps,v,⟨b,vs,e,s,n,r⟩=>by
   have ne:b≠a:=fun z=>n (.inr (by rw [z]; exact h))
   refine ⟨b,vs,e,?_,n,RepL.rehide h r⟩;rcases s with s | ⟨u,s⟩
   ·exact .inl (by rw [Qi ne]; exact s)
   ·exact .inr ⟨u,by rw [Qi ne]; exact s⟩
 | .ref i,v,r=>r
 | .dic,v,⟨b,e,s,n⟩=>⟨b,e,by rw [Qi (show b≠a from fun z=>n (.inr (by rw [z]; exact h)))]; exact s,n⟩
theorem RepL.rehide {a:aA} {o:HO} (h:a∈ρ.hid):∀ {ps:List PV} {vs:List V},RepL H ρ ps vs->RepL (upd H a o) ρ ps vs
 | [],_,r=>r
 | p :: ps,_,⟨v,t,e,q,j⟩=>⟨v,t,e,Rep.rehide h q,RepL.rehide h j⟩
end
mutual
theorem Rep.retr {a:aA} {o:HO} (h:a∈ρ.tr):∀ {p:PV} {v:V},Rep H ρ p v->Rep (upd H a o) ρ p v
 | .non,_,r=>r
 | .bl _,_,r=>r
 | .int _,_,r=>r
 | .str _,_,r=>r
 | .tup ps,v,⟨b,vs,e,s,n,r⟩=>⟨b,vs,e,by rw [Qi (show b≠a from fun z=>n (.inl (by rw [z]; exact h)))]; exact s,n,RepL.retr h r⟩
 | .lst ps,v,⟨b,vs,e,s,n,r⟩=>⟨b,vs,e,by rw [Qi (show b≠a from fun z=>n (.inl (by rw [z]; exact h)))]; exact s,n,RepL.retr h r⟩
 | .fro ps,v,⟨b,vs,e,s,n,r⟩=>by
   have ne:b≠a:=fun z=>n (.inl (by rw [z]; exact h))
   refine ⟨b,vs,e,?_,n,RepL.retr h r⟩;rcases s with s | ⟨u,s⟩
   ·exact .inl (by rw [Qi ne]; exact s)
   ·exact .inr ⟨u,by rw [Qi ne]; exact s⟩
 | .ref i,v,r=>r
 | .dic,v,⟨b,e,s,n⟩=>⟨b,e,by rw [Qi (show b≠a from fun z=>n (.inl (by rw [z]; exact h)))]; exact s,n⟩
theorem RepL.retr {a:aA} {o:HO} (h:a∈ρ.tr):∀ {ps:List PV} {vs:List V},RepL H ρ ps vs->RepL (upd H a o) ρ ps vs
 | [],_,r=>r
 | p :: ps,_,⟨v,t,e,q,j⟩=>⟨v,t,e,Rep.retr h q,RepL.retr h j⟩
end
mutual
theorem Rep.unhide {hs:List aA} (j:∀ a,a∈hs->a∈ρ.hid):∀ {p:PV} {v:V},Rep H ρ p v->Rep H ⟨ρ.tr,hs⟩ p v
 | .non,_,r=>r
 | .bl _,_,r=>r
 | .int _,_,r=>r
 | .str _,_,r=>r
 | .tup ps,v,⟨b,vs,e,s,n,r⟩=>⟨b,vs,e,s,fun z=>n (z.imp id (j _)),RepL.unhide j r⟩
 | .lst ps,v,⟨b,vs,e,s,n,r⟩=>⟨b,vs,e,s,fun z=>n (z.imp id (j _)),RepL.unhide j r⟩
 | .fro ps,v,⟨b,vs,e,s,n,r⟩=>⟨b,vs,e,s,fun z=>n (z.imp id (j _)),RepL.unhide j r⟩
 | .ref i,v,r=>r
 | .dic,v,⟨b,e,s,n⟩=>⟨b,e,s,fun z=>n (z.imp id (j _))⟩
theorem RepL.unhide {hs:List aA} (j:∀ a,a∈hs->a∈ρ.hid):∀ {ps:List PV} {vs:List V},RepL H ρ ps vs->RepL H ⟨ρ.tr,hs⟩ ps vs
 | [],_,r=>r
 | p :: ps,_,⟨v,t,e,z,q⟩=>⟨v,t,e,Rep.unhide j z,RepL.unhide j q⟩
end
theorem RepL.length:∀ {ps:List PV} {vs:List V},RepL H ρ ps vs->ps.length=vs.length
 | [],_,h=>by cases h; rfl
 | p :: ps,_,⟨v,r,rfl,_,h2⟩=>by rw [E3,E3,RepL.length h2]
theorem RepL.get:∀ {ps:List PV} {vs:List V} {i:Nat} {p:PV},RepL H ρ ps vs->ps[i]?=some p->∃ v,vs[i]?=some v/\Rep H ρ p v
 | [],_,_,_,_,e=>by simp at e
 | p :: ps,_,0,q,⟨v,r,rfl,h1,h2⟩,e=>by simp at e; subst e; exact ⟨v,rfl,h1⟩
 | p :: ps,_,i + 1,q,⟨v,r,rfl,h1,h2⟩,e=>by
  obtain ⟨u,e1,e2⟩:=RepL.get (i:=i) h2 (by simpa using e);exact ⟨u,by simpa using e1,e2⟩
theorem RepL.cons {p:PV} {v:V} {ps:List PV} {vs:List V} (h:Rep H ρ p v) (r:RepL H ρ ps vs):RepL H ρ (p :: ps) (v :: vs):=⟨v,vs,rfl,h,r⟩
theorem RepL.nil:RepL H ρ [] []:=rfl
theorem RepL.append:∀ {ps j:List PV} {vs us:List V},RepL H ρ ps vs->RepL H ρ j us->RepL H ρ (ps ++ j) (vs ++ us)
 | [],_,_,_,h,g=>by cases h; exact g
 | p :: ps,_,_,_,⟨v,r,rfl,h1,h2⟩,g=>⟨v,_,rfl,h1,RepL.append h2 g⟩
theorem RepL.take:∀ {ps:List PV} {vs:List V} (n:Nat),RepL H ρ ps vs->RepL H ρ (ps.take n) (vs.take n)
 | _,_,0,_=>rfl
 | [],_,n + 1,h=>by cases h; rfl
 | p :: ps,_,n + 1,⟨v,r,rfl,h1,h2⟩=>⟨v,_,rfl,h1,RepL.take n h2⟩
theorem RepL.drop:∀ {ps:List PV} {vs:List V} (n:Nat),RepL H ρ ps vs->RepL H ρ (ps.drop n) (vs.drop n)
 | _,_,0,h=>h
 | [],_,n + 1,h=>by cases h; rfl
 | p :: ps,_,n + 1,⟨v,r,rfl,h1,h2⟩=>RepL.drop n h2
theorem RepL.set {p:PV} {v:V} (h:Rep H ρ p v):∀ {ps:List PV} {vs:List V} (i:Nat),RepL H ρ ps vs->RepL H ρ (ps.set i p) (vs.set i v)
 | [],_,_,g=>by cases g; rfl
 | q :: ps,_,0,⟨u,r,rfl,h1,h2⟩=>⟨v,r,rfl,h,h2⟩
 | q :: ps,_,i + 1,⟨u,r,rfl,h1,h2⟩=>⟨u,_,rfl,h1,RepL.set h i h2⟩
theorem RepL.rep {ps:List PV} {vs:List V} (h:RepL H ρ ps vs):∀ n,RepL H ρ (bT n ps).flatten (bT n vs).flatten
 | 0=>rfl
 | n + 1=>by rw [cM,cM,cW,cW]; exact h.append (RepL.rep h n)
theorem RepL.toInts:∀ {ns:List Int} {vs:List V},RepL H ρ (ns.map .int) vs->vs=ns.map V.int
 | [],_,h=>h
 | n :: ns,_,⟨v,r,rfl,h1,h2⟩=>by
  have e:v=V.int n:=h1;rw [RepL.toInts h2,e]; rfl
theorem RepL.toBls:∀ {ns:List Bool} {vs:List V},RepL H ρ (ns.map .bl) vs->vs=ns.map V.bl
 | [],_,h=>h
 | n :: ns,_,⟨v,r,rfl,h1,h2⟩=>by
  have e:v=V.bl n:=h1;rw [RepL.toBls h2,e]; rfl
end
def RepD {κ:Type} (H:Hp) (ρ:Tk) (kvs:List (κ × PV)) (vs:List (κ × V)):Prop:=vs.map cP=kvs.map cP/\RepL H ρ (kvs.map fH) (vs.map fH)
theorem RepD.ext {κ:Type} {H H':Hp} {ρ ρ':Tk} {kvs:List (κ × PV)} {vs:List (κ × V)} (x:Ext H ρ H' ρ') (r:RepD H ρ kvs vs):RepD H' ρ' kvs vs:=⟨r.1,r.2.ext x⟩
theorem RepD.length {κ:Type} {H:Hp} {ρ:Tk} {kvs:List (κ × PV)} {vs:List (κ × V)} (r:RepD H ρ kvs vs):kvs.length=vs.length:=by
 have:=congrArg eT r.1;rw [O2,O2] at this;exact this.symm
def CellR (H:Hp) (ρ:Tk) (a:aA):Cell->Prop
 | .lst ps=>∃ vs,H a=some (.lst vs)/\RepL H ρ ps vs
 | .dic kvs=>∃ vs,H a=some (.dK vs)/\RepD H ρ kvs vs
 | .dtp kvs=>∃ vs,H a=some (.dT vs)/\RepD H ρ kvs vs
 | .frd kvs=>∃ vs,(∃ o,H a=some (.frz o (.dK vs)))/\RepD H ρ kvs vs
 | .obj C fs=>∃ vs,(∃ dx,H a=some (.ins C dx vs))/\RepD H ρ fs vs
theorem CellR.dom {H:Hp} {ρ:Tk} {a:aA}:∀ {c:Cell},CellR H ρ a c->∃ o,H a=some o
 | .lst _,⟨_,e,_⟩=>⟨_,e⟩
 | .dic _,⟨_,e,_⟩=>⟨_,e⟩
 | .dtp _,⟨_,e,_⟩=>⟨_,e⟩
 | .frd _,⟨_,⟨_,e⟩,_⟩=>⟨_,e⟩
 | .obj _ _,⟨_,⟨_,e⟩,_⟩=>⟨_,e⟩
theorem CellR.ext {H H':Hp} {ρ ρ':Tk} {a:aA} (x:Ext H ρ H' ρ') (k:∀ o,H a=some o->H' a=some o):∀ {c:Cell},CellR H ρ a c->CellR H' ρ' a c
 | .lst _,⟨vs,e,r⟩=>⟨vs,k _ e,r.ext x⟩
 | .dic _,⟨vs,e,r⟩=>⟨vs,k _ e,r.ext x⟩
 | .dtp _,⟨vs,e,r⟩=>⟨vs,k _ e,r.ext x⟩
 | .frd _,⟨vs,⟨o,e⟩,r⟩=>⟨vs,⟨o,k _ e⟩,r.ext x⟩
 | .obj _ _,⟨vs,⟨o,e⟩,r⟩=>⟨vs,⟨o,k _ e⟩,r.ext x⟩
structure Rel (H:Hp) (ρ:Tk) (st:Q2):Prop where
 len:ρ.tr.length=st.length
 nd:ρ.tr.Nodup
 hd:∀ a∈ρ.hid,∃ o,H a=some o/\∀ xs,o≠.tup xs
 ap:∀ a∈ρ.hid,a∉ρ.tr
 cell:∀ (i:Nat) (a:aA) (c:Cell),ρ.tr[i]?=some a->st[i]?=some c->CellR H ρ a c
section
variable {H H':Hp} {ρ ρ':Tk} {st st':Q2}
theorem Rel.lst (R:Rel H ρ st) {i:Nat} {ps:List PV} (h:st[i]?=some (.lst ps)):∃ a vs,ρ.tr[i]?=some a/\H a=some (.lst vs)/\RepL H ρ ps vs:=by
 have hi:i < ρ.tr.length:=by rw [R.len]; exact (O0.mp h).1
 have e:ρ.tr[i]?=some ρ.tr[i]:=O7 hi;obtain ⟨vs,e1,e2⟩:=R.cell i _ _ e h;exact ⟨_,vs,e,e1,e2⟩
theorem Rel.dic (R:Rel H ρ st) {i:Nat} {kvs:List (Key × PV)} (h:st[i]?=some (.dic kvs)):∃ a vs,ρ.tr[i]?=some a/\H a=some (.dK vs)/\RepD H ρ kvs vs:=by
 have hi:i < ρ.tr.length:=by rw [R.len]; exact (O0.mp h).1
 have e:ρ.tr[i]?=some ρ.tr[i]:=O7 hi;obtain ⟨vs,e1,e2⟩:=R.cell i _ _ e h;exact ⟨_,vs,e,e1,e2⟩
theorem Rel.frd (R:Rel H ρ st) {i:Nat} {kvs:List (Key × PV)} (h:st[i]?=some (.frd kvs)):∃ a vs o,ρ.tr[i]?=some a/\H a=some (.frz o (.dK vs))/\RepD H ρ kvs vs:=by
 have hi:i < ρ.tr.length:=by rw [R.len]; exact (O0.mp h).1
 have e:ρ.tr[i]?=some ρ.tr[i]:=O7 hi;obtain ⟨vs,⟨o,e1⟩,e2⟩:=R.cell i _ _ e h;exact ⟨_,vs,o,e,e1,e2⟩
theorem Rel.obj (R:Rel H ρ st) {i:Nat} {C:aA} {fs:List (Str × PV)} (h:st[i]?=some (.obj C fs)):∃ a vs dx,ρ.tr[i]?=some a/\H a=some (.ins C dx vs)/\RepD H ρ fs vs:=by
 have hi:i < ρ.tr.length:=by rw [R.len]; exact (O0.mp h).1
 have e:ρ.tr[i]?=some ρ.tr[i]:=O7 hi;obtain ⟨vs,⟨o,e1⟩,e2⟩:=R.cell i _ _ e h;exact ⟨_,vs,o,e,e1,e2⟩
theorem Rel.dom (R:Rel H ρ st) {a:aA} (h:a∈ρ.tr):∃ o,H a=some o:=by
 obtain ⟨i,hi,e⟩:=dg h;have hs:i < st.length:=by rw [<- R.len]; exact hi
 have q:=R.cell i a st[i] (by rw [O7 hi,e]) (O7 hs);exact q.dom
theorem Rel.fresh (R:Rel H ρ st) {p:aA} (h:H p=none):p∉ρ:=fun z=>by
 rcases z with z | z
 ·obtain ⟨vs,q⟩:=R.dom z;rw [h] at q; cases q
 ·obtain ⟨o,q,_⟩:=R.hd p z;rw [h] at q; cases q
theorem Rel.later (R:Rel H ρ st) (x:Ext H ρ H' ρ) (k:∀ a o,a∈ρ.tr->H a=some o->H' a=some o):Rel H' ρ st where
 len:=R.len
 nd:=R.nd
 hd:=fun a j=>let ⟨o,e,n⟩:=R.hd a j; ⟨o,x.keep a o e (R.ap a j),n⟩
 ap:=R.ap
 cell:=fun i a c h1 h2=>by
  exact (R.cell i a c h1 h2).ext x fun o e=>k a o (D2 h1) e
end
theorem Rel.add {H:Hp} {ρ:Tk} {st:Q2} (R:Rel H ρ st) {p:aA} {o:HO} (h:H p=none):Rel (upd H p o) ρ st:=
 R.later (Ext.add h) fun a u j e=>by rw [Qi (Qm e h)]; exact e
theorem Rel.same {H H':Hp} {ρ:Tk} {st:Q2} (R:Rel H ρ st) (h:Same H H'):Rel H' ρ st:=R.later (Ext.same h) fun a u _ e=>h a u e
theorem Rel.addC {H:Hp} {ρ:Tk} {st:Q2} (R:Rel H ρ st) {p:aA} {cl:Cell} {o:HO} (h:H p=none) (r:CellR (upd H p o) (ρ.add p) p cl):Rel (upd H p o) (ρ.add p) (st ++ [cl]) where
 len:=by show (ρ.tr ++ [p]).length=_; rw [O3,O3,R.len]; rfl
 nd:=dh.mpr ⟨R.nd,by simp,fun a j b B e=>by
  have:b=p:=by simpa using B
  subst this; subst e;exact R.fresh h (.inl j)⟩
 hd:=fun a j=>let ⟨o,e,n⟩:=R.hd a j; ⟨o,by rw [Qi (Qm e h)]; exact e,n⟩
 ap:=fun a j z=>by
  rcases E9.mp z with z | z
  ·exact R.ap a j z
  ·have:a=p:=by simpa using z
   subst this;exact R.fresh h (.inr j)
 cell:=fun i a c h1 h2=>by
  have h1:(ρ.tr ++ [p])[i]?=some a:=h1
  by_cases hi:i < st.length
  ·rw [O5 (by rw [R.len]; exact hi)] at h1;rw [O5 hi] at h2;exact (R.cell i a c h1 h2).ext (Ext.addT h) fun u e=>by rw [Qi (Qm e h)]; exact e
  ·rw [O9 (by rw [R.len]; omega)] at h1;rw [O9 (by omega)] at h2;have q:i - st.length=0:=by
    rcases fJ (i - st.length) with z | z
    ·exact z
    ·rw [F6 (by simp; omega)] at h2; cases h2
   rw [R.len,q] at h1;rw [q] at h2;simp at h1 h2;subst h1; subst h2;exact r
theorem Qaq {α:Type} {l:List α} (h:l.Nodup) {i j:Nat} (hi:i < l.length) (q:j < l.length) (e:l[i]=l[j]):i=j:=by
 rcases Nat.lt_trichotomy i j with z | z | z
 ·exact absurd e ((gU.mp h) i j hi q z)
 ·exact z
 ·exact absurd e.symm ((gU.mp h) j i q hi z)
theorem Ext.put {H:Hp} {ρ:Tk} {a:aA} {o o':HO} (h:a∈ρ.tr) (e:H a=some o) (j:∀ q u,o≠.frz q u:=by intro _ _ z; cases z):Ext H ρ (upd H a o') ρ where
 pre:=cY _
 hidM:=fun _ h=>h
 hidN:=fun _ h=>.inl h
 keep:=fun b u q n=>by rw [Qi (show b≠a from fun z=>n (by rw [z]; exact h))]; exact q
 new:=fun b q=>.inl q
 old:=fun b u q=>by
  by_cases z:b=a
  ·exact ⟨o',by rw [z]; exact Je⟩
  ·exact ⟨u,by rw [Qi z]; exact q⟩
 frz:=fun b q u k=>by
  by_cases z:b=a
  ·rw [z,e] at k; cases k; exact absurd rfl (j _ _)
  ·rw [Qi z]; exact k
theorem Rel.putC {H:Hp} {ρ:Tk} {st:Q2} (R:Rel H ρ st) {i:Nat} {a:aA} {cl:Cell} {o o':HO} (hi:ρ.tr[i]?=some a) (e:H a=some o) (r:CellR (upd H a o') ρ a cl):Rel (upd H a o') ρ (st.set i cl) where
 len:=by rw [D4]; exact R.len
 nd:=R.nd
 hd:=fun b B=>let ⟨u,q,n⟩:=R.hd b B; ⟨u,by rw [Qi (show b≠a from fun z=>R.ap b B (by rw [z]; exact D2 hi))]; exact q,n⟩
 ap:=R.ap
 cell:=fun j b c h1 h2=>by
  by_cases J:i=j
  ·subst J;rw [hi] at h1; cases h1;rw [D7 (by rw [<- R.len]; exact (O0.mp hi).1)] at h2;cases h2;exact r
  ·rw [O6 J] at h2;have q:=R.cell j b c h1 h2;have B:b≠a:=fun z=>by
    subst z;have U:=(O0.mp hi);have O:=(O0.mp h1);exact J (Qaq R.nd U.1 O.1 (U.2.trans O.2.symm))
   have G:=D2 hi;cases c with
   | lst ps=>
    obtain ⟨vs,e1,e2⟩:=q;exact ⟨vs,by rw [Qi B]; exact e1,e2.retr G⟩
   | dic ps=>
    obtain ⟨vs,e1,e2⟩:=q;exact ⟨vs,by rw [Qi B]; exact e1,e2.1,e2.2.retr G⟩
   | dtp ps=>
    obtain ⟨vs,e1,e2⟩:=q;exact ⟨vs,by rw [Qi B]; exact e1,e2.1,e2.2.retr G⟩
   | frd ps=>
    obtain ⟨vs,⟨I,e1⟩,e2⟩:=q;exact ⟨vs,⟨I,by rw [Qi B]; exact e1⟩,e2.1,e2.2.retr G⟩
   | obj C ps=>
    obtain ⟨vs,⟨I,e1⟩,e2⟩:=q;exact ⟨vs,⟨I,by rw [Qi B]; exact e1⟩,e2.1,e2.2.retr G⟩
theorem Rel.put {H:Hp} {ρ:Tk} {st:Q2} (R:Rel H ρ st) {i:Nat} {a:aA} {ps:List PV} {vs:List V} {o:HO} (hi:ρ.tr[i]?=some a) (e:H a=some o) (r:RepL H ρ ps vs):Rel (upd H a (.lst vs)) ρ (st.set i (.lst ps)):=
 R.putC hi e ⟨vs,Je,r.retr (D2 hi)⟩
theorem Rel.hide {H:Hp} {ρ:Tk} {st:Q2} (R:Rel H ρ st) {p:aA} {o:HO} (h:H p=none) (I:∀ xs,o≠.tup xs:=by intro _ z; cases z):Rel (upd H p o) (ρ.hide p) st:=by
 have x:Ext H ρ (upd H p o) ρ:=Ext.add h;have B:=R.add (p:=p) (o:=o) h;refine ⟨B.len,B.nd,fun a j=>?_,fun a j z=>?_,fun i a c h1 h2=>?_⟩
 ·rcases D8.mp j with rfl | j
  ·exact ⟨o,Je,I⟩
  ·exact B.hd a j
 ·rcases D8.mp j with rfl | j
  ·exact R.fresh h (.inl z)
  ·exact R.ap a j z
 ·have q:=R.cell i a c h1 h2;cases c with
  | lst ps=>
   obtain ⟨vs,e1,e2⟩:=q;exact ⟨vs,by rw [Qi (Qm e1 h)]; exact e1,e2.hide h⟩
  | dic ps=>
   obtain ⟨vs,e1,e2⟩:=q;exact ⟨vs,by rw [Qi (Qm e1 h)]; exact e1,e2.1,e2.2.hide h⟩
  | dtp ps=>
   obtain ⟨vs,e1,e2⟩:=q;exact ⟨vs,by rw [Qi (Qm e1 h)]; exact e1,e2.1,e2.2.hide h⟩
  | frd ps=>
   obtain ⟨vs,⟨G,e1⟩,e2⟩:=q;exact ⟨vs,⟨G,by rw [Qi (Qm e1 h)]; exact e1⟩,e2.1,e2.2.hide h⟩
  | obj C ps=>
   obtain ⟨vs,⟨G,e1⟩,e2⟩:=q;exact ⟨vs,⟨G,by rw [Qi (Qm e1 h)]; exact e1⟩,e2.1,e2.2.hide h⟩
theorem Rel.rehide {H:Hp} {ρ:Tk} {st:Q2} (R:Rel H ρ st) {p:aA} {o:HO} (h:p∈ρ.hid) (B:∀ xs,o≠.tup xs:=by intro _ z; cases z):Rel (upd H p o) ρ st:=by
 refine ⟨R.len,R.nd,fun a G=>?_,R.ap,fun i a c h1 h2=>?_⟩
 ·by_cases e:a=p
  ·exact ⟨o,by rw [e]; exact Je,B⟩
  ·obtain ⟨u,q,n⟩:=R.hd a G;exact ⟨u,by rw [Qi e]; exact q,n⟩
 ·have q:=R.cell i a c h1 h2;have ne:a≠p:=fun z=>R.ap p h (by rw [<- z]; exact D2 h1)
  cases c with
  | lst ps=>
   obtain ⟨vs,e1,e2⟩:=q;exact ⟨vs,by rw [Qi ne]; exact e1,e2.rehide h⟩
  | dic ps=>
   obtain ⟨vs,e1,e2⟩:=q;exact ⟨vs,by rw [Qi ne]; exact e1,e2.1,e2.2.rehide h⟩
  | dtp ps=>
   obtain ⟨vs,e1,e2⟩:=q;exact ⟨vs,by rw [Qi ne]; exact e1,e2.1,e2.2.rehide h⟩
  | frd ps=>
   obtain ⟨vs,⟨j,e1⟩,e2⟩:=q;exact ⟨vs,⟨j,by rw [Qi ne]; exact e1⟩,e2.1,e2.2.rehide h⟩
  | obj C ps=>
   obtain ⟨vs,⟨j,e1⟩,e2⟩:=q;exact ⟨vs,⟨j,by rw [Qi ne]; exact e1⟩,e2.1,e2.2.rehide h⟩
theorem Rel.unhide {H:Hp} {ρ:Tk} {st:Q2} {hs:List aA} (j:∀ a,a∈hs->a∈ρ.hid) (R:Rel H ρ st):Rel H ⟨ρ.tr,hs⟩ st:=by
 refine ⟨R.len,R.nd,fun a z=>R.hd a (j a z),fun a z=>R.ap a (j a z),fun i a c h1 h2=>?_⟩;have q:=R.cell i a c h1 h2;cases c with
 | lst ps=>
  obtain ⟨vs,e1,e2⟩:=q;exact ⟨vs,e1,RepL.unhide j e2⟩
 | dic ps=>
  obtain ⟨vs,e1,e2⟩:=q;exact ⟨vs,e1,e2.1,RepL.unhide j e2.2⟩
 | dtp ps=>
  obtain ⟨vs,e1,e2⟩:=q;exact ⟨vs,e1,e2.1,RepL.unhide j e2.2⟩
 | frd ps=>
  obtain ⟨vs,e1,e2⟩:=q;exact ⟨vs,e1,e2.1,RepL.unhide j e2.2⟩
 | obj C ps=>
  obtain ⟨vs,e1,e2⟩:=q;exact ⟨vs,e1,e2.1,RepL.unhide j e2.2⟩
theorem Ext.hide {H:Hp} {ρ:Tk} {p:aA} {o:HO} (h:H p=none):Ext H ρ (upd H p o) (ρ.hide p) where
 pre:=cY _
 hidM:=fun _ h=>D0 _ h
 hidN:=fun a j=>by
  rcases D8.mp j with rfl | j
  ·exact .inr h
  ·exact .inl j
 keep:=fun a u e _=>by rw [Qi (Qm e h)]; exact e
 new:=fun a e=>.inl e
 old:=fun a u e=>⟨u,by rw [Qi (Qm e h)]; exact e⟩
 frz:=fun a o u e=>by rw [Qi (Qm e h)]; exact e
theorem Ext.put0 {H H1:Hp} {ρ ρ1:Tk} {p:aA} {o:HO} (x:Ext H ρ H1 ρ1) (h:H p=none):Ext H ρ (upd H1 p o) ρ1 where
 pre:=x.pre
 hidM:=x.hidM
 hidN:=x.hidN
 keep:=fun a u e n=>by rw [Qi (Qm e h)]; exact x.keep a u e n
 new:=x.new
 old:=fun a u e=>by rw [Qi (Qm e h)]; exact x.old a u e
 frz:=fun a o u e=>by rw [Qi (Qm e h)]; exact x.frz a o u e
theorem Ext.unhide {H H1:Hp} {ρ ρ1:Tk} (x:Ext H ρ H1 ρ1):Ext H ρ H1 ⟨ρ1.tr,ρ.hid⟩ where
 pre:=x.pre
 hidM:=fun _ h=>h
 hidN:=fun _ h=>.inl h
 keep:=x.keep
 new:=x.new
 old:=x.old
 frz:=x.frz
def EnvR (H:Hp) (ρ:Tk) (Γ:Gam) (σ:St):Prop:=Γ.length=σ.length/\∀ (i:Nat) (p:PV),Γ[i]?=some (some p)->∃ v,σ[i]?=some (some v)/\Rep H ρ p v
theorem EnvR.ext {H H':Hp} {ρ ρ':Tk} {Γ:Gam} {σ:St} (x:Ext H ρ H' ρ') (h:EnvR H ρ Γ σ):EnvR H' ρ' Γ σ:=
 ⟨h.1,fun i p e=>let ⟨v,a,b⟩:=h.2 i p e; ⟨v,a,b.ext x⟩⟩
theorem EnvR.hide {H:Hp} {ρ:Tk} {Γ:Gam} {σ:St} {a:aA} {o:HO} (n:H a=none) (h:EnvR H ρ Γ σ):EnvR (upd H a o) (ρ.hide a) Γ σ:=⟨h.1,fun i p e=>let ⟨v,a,b⟩:=h.2 i p e; ⟨v,a,b.hide n⟩⟩
theorem EnvR.rehide {H:Hp} {ρ:Tk} {Γ:Gam} {σ:St} {a:aA} {o:HO} (n:a∈ρ.hid) (h:EnvR H ρ Γ σ):EnvR (upd H a o) ρ Γ σ:=⟨h.1,fun i p e=>let ⟨v,a,b⟩:=h.2 i p e; ⟨v,a,b.rehide n⟩⟩
theorem EnvR.set {H:Hp} {ρ:Tk} {Γ:Gam} {σ:St} {p:PV} {v:V} (h:EnvR H ρ Γ σ) (r:Rep H ρ p v) (i:Nat):EnvR H ρ (Γ.set i (some p)) (σ.set i (some v)):=by
 refine ⟨by rw [D4,D4]; exact h.1,fun j q e=>?_⟩;rw [di] at e;rw [di]
 by_cases B:i=j
 ·subst B;simp only [if_true] at e ⊢
  by_cases z:i < Γ.length
  ·rw [bN z] at e; cases e;rw [bN (by rw [<- h.1]; exact z)];exact ⟨v,rfl,r⟩
  ·rw [bO z] at e; cases e
 ·rw [bO B] at e ⊢;exact h.2 j q e
end
def Res.bind {α β:Type} (r:Res α) (f:α->Q2->Res β):Res β:=match r with
 | .ok a st=>f a st
 | .exc x st=>.exc x st
 | .stuck=>.stuck
def okO {α:Type} (st:Q2):Option α->Res α
 | some a=>.ok a st
 | none=>.stuck
section
variable (X:Cx)
def WE (e:aD):TE:=fun σ H Q=>∀ (pins:List (aA × Obj)) (s:aC),Inv X pins σ H s->aI (aJ X.prog X.w) X.A (aN e X.env) (EP X pins σ Q) X.xe s
def WT (e:aD):TT:=fun σ H Q=>∀ (pins:List (aA × Obj)) (s:aC),Inv X pins σ H s->aI (aJ X.prog X.w) X.A (isTrue e X.env (aN e X.env)) (TP X pins σ Q) X.xe s
def WW (e:aD):TT:=fun σ H Q=>∀ (wh:Sem aB) (pins:List (aA × Obj)) (s:aC),Inv X pins σ H s->aI (aJ X.prog X.w) X.A (isTrue e X.env wh) (TP X pins σ Q) X.xe s
def WA (es:List aD):TA:=fun σ H Q=>∀ (pos:Pos) (pins:List (aA × Obj)) (s:aC),Inv X pins σ H s->aI (aJ X.prog X.w) X.A (spliced (aW pos (aP es X.env))) (AP X pins σ Q) X.xe s
def WS (st:aL):TS:=fun D σ H=>∀ (pins:List (aA × Obj)) (s:aC),Inv X pins σ H s->aI (aJ X.prog X.w) X.A (exec st X.env) (SP X pins D) X.xe s
def WB (st:List aL):TS:=fun D σ H=>∀ (pins:List (aA × Obj)) (s:aC),Inv X pins σ H s->aI (aJ X.prog X.w) X.A (execs st X.env) (SP X pins D) X.xe s
def WI (tg iter : aD) : TI := fun σ H R => ∀ (pins : List (aA × Obj)) (s : aC), Inv X pins σ H s ->
  aI (aJ X.prog X.w) X.A (aN iter X.env) (fun v s1=>aI (aJ X.prog X.w) X.A (pyIter v) (PIE X pins σ tg R) X.xe s1) X.xe s
def WO (f:aB->aB->Sem aB):R2:=fun x y H Q=>∀ (pins:List (aA × Obj)) (s:aC) (σ:St) (v u:aB),Inv X pins σ H s->RelV x v->RelV y u->aI (aJ X.prog X.w) X.A (f v u) (EP X pins σ Q) X.xe s
def WC (f:aB):List V->Hp->VK->Prop:=fun xs H Q=>∀ (pins:List (aA × Obj)) (s:aC) (σ:St) (us:List aB),Inv X pins σ H s->Vals xs us->aI (aJ X.prog X.w) X.A (call f us) (EP X pins σ Q) X.xe s
end
section
variable {X:Cx}
theorem Yv {e:aD}:PE X e (WE X e):=fun pins s _ _ _ I h=>h pins s I
theorem Qd6 {e:aD}:PT X e (WT X e):=fun pins s _ _ _ I h=>h pins s I
theorem Qvq {e:aD}:PW X e (WW X e):=fun j pins s _ _ _ I h=>h j pins s I
theorem Q3m {es:List aD}:PA X es (WA X es):=fun pos pins s _ _ _ I h=>h pos pins s I
theorem Qvs {st:aL}:PS X st (WS X st):=fun pins s _ _ _ I h=>h pins s I
theorem Q7c {st:List aL}:PSs X st (WB X st):=fun pins s _ _ _ I h=>h pins s I
theorem Qsw {tg iter:aD}:PI X tg iter (WI X tg iter):=fun pins s _ _ _ I h=>h pins s I
theorem Qey {f:aB->aB->Sem aB}:OpR X f (WO X f):=fun pins s σ _ _ _ v u _ I q j h=>h pins s σ v u I q j
theorem Qmq {f:aB}:qd X f (WC X f):=fun pins s σ _ _ us _ I r h=>h pins s σ us I r
theorem WE.of {e:aD} {t:TE} {σ:St} {H:Hp} {Q:VK} (h:PE X e t) (q:t σ H Q):WE X e σ H Q:=fun pins s I=>h pins s σ H Q I q
theorem WT.of {e:aD} {t:TT} {σ:St} {H:Hp} {Q:Bool->Hp->Prop} (h:PT X e t) (q:t σ H Q):WT X e σ H Q:=fun pins s I=>h pins s σ H Q I q
theorem WW.of {e:aD} {t:TT} {σ:St} {H:Hp} {Q:Bool->Hp->Prop} (h:PW X e t) (q:t σ H Q):WW X e σ H Q:=fun j pins s I=>h j pins s σ H Q I q
theorem WA.of {es:List aD} {t:TA} {σ:St} {H:Hp} {Q:List V->Hp->Prop} (h:PA X es t) (q:t σ H Q):WA X es σ H Q:=fun pos pins s I=>h pos pins s σ H Q I q
theorem WS.of {st:aL} {t:TS} {σ:St} {H:Hp} {D:Ends} (h:PS X st t) (q:t D σ H):WS X st D σ H:=fun pins s I=>h pins s σ H D I q
theorem WB.of {st:List aL} {t:TS} {σ:St} {H:Hp} {D:Ends} (h:PSs X st t) (q:t D σ H):WB X st D σ H:=fun pins s I=>h pins s σ H D I q
theorem WI.of {tg iter:aD} {t:TI} {σ:St} {H:Hp} {R:It->Hp->Prop} (h:PI X tg iter t) (q:t σ H R):WI X tg iter σ H R:=fun pins s I=>h pins s σ H R I q
theorem WO.of {f:aB->aB->Sem aB} {r:R2} {x y:V} {H:Hp} {Q:VK} (h:OpR X f r) (q:r x y H Q):WO X f x y H Q:=fun pins s σ v u I z j=>h pins s σ H x y v u Q I z j q
theorem WC.of {f:aB} {r:List V->Hp->VK->Prop} {xs:List V} {H:Hp} {Q:VK} (h:qd X f r) (q:r xs H Q):WC X f xs H Q:=fun pins s σ us I j=>h pins s σ H xs us Q I j q
end
def XFs (H:Hp) (ρ:Tk):Option (Str × PV)->Option aA->Prop
 | none,dv=>dv=none
 | some (n,p),dv=>∃ dx v,dv=some dx/\H dx=some (.xd [(n,v)])/\dx∉ρ/\Rep H ρ p v
def Acc {α:Type} (mg:Str->Option aB) (E:XK) (H:Hp) (ρ:Tk) (P:α->Q2->Hp->Tk->Prop):Res α->Prop
 | .ok a st=>∀ H' ρ',Ext H ρ H' ρ'->Rel H' ρ' st->P a st H' ρ'
 | .exc x st=>∀ C dv H' ρ',mg x.cls=some (.ref C)->Ext H ρ H' ρ'->Rel H' ρ' st->XFs H' ρ' x.fs dv->E (.ref C) dv H'
 | .stuck=>False
section
variable {α β:Type} {mg:Str->Option aB} {E:XK} {H H1:Hp} {ρ ρ1:Tk}
theorem Acc.mono {P z:α->Q2->Hp->Tk->Prop} {r:Res α} (h:Acc mg E H ρ P r) (x:Ext H ρ H1 ρ1) (k:∀ a st H' ρ',P a st H' ρ'->z a st H' ρ'):Acc mg E H1 ρ1 z r:=by
 cases r with
 | ok a st=>exact fun H' ρ' q j=>k _ _ _ _ (h H' ρ' (x.trans q) j)
 | exc e st=>exact fun C B H' ρ' m q j f=>h C B H' ρ' m (x.trans q) j f
 | stuck=>exact h
theorem Acc.later {P:α->Q2->Hp->Tk->Prop} {r:Res α} (h:Acc mg E H ρ P r) (x:Ext H ρ H1 ρ1):Acc mg E H1 ρ1 P r:=h.mono x fun _ _ _ _ p=>p
theorem Acc.bind {P:β->Q2->Hp->Tk->Prop} {r:Res α} {f:α->Q2->Res β} (h:Acc mg E H ρ P (r.bind f)):Acc mg E H ρ (fun a j H1 ρ1=>Acc mg E H1 ρ1 P (f a j)) r:=by
 cases r with
 | ok a st=>exact fun H' ρ' q z=>Acc.later (show Acc mg E H ρ P (f a st) from h) q
 | exc e st=>exact h
 | stuck=>exact h
end
abbrev QV (Q:VK):PV->Q2->Hp->Tk->Prop:=fun p _ H' ρ'=>∀ v,Rep H' ρ' p v->Q v H'
abbrev QL (Q:List V->Hp->Prop):List PV->Q2->Hp->Tk->Prop:=fun ps _ H' ρ'=>∀ vs,RepL H' ρ' ps vs->Q vs H'
abbrev QB (Q:Bool->Hp->Prop):Bool->Q2->Hp->Tk->Prop:=fun b _ H' _=>Q b H'
structure SimE (X:Cx) (E:XK) (e:aD) (m:ME):Prop where
 run:∀ (Γ:Gam) (σ:St) (H:Hp) (ρ:Tk) (st:Q2) (Q:VK),Rel H ρ st->EnvR H ρ Γ σ->Acc X.mg E H ρ (QV Q) (m Γ st)->WE X e σ H Q
structure SimT (X:Cx) (E:XK) (e:aD) (m:Gam->Q2->Res Bool):Prop where
 run:∀ (Γ:Gam) (σ:St) (H:Hp) (ρ:Tk) (st:Q2) (Q:Bool->Hp->Prop),Rel H ρ st->EnvR H ρ Γ σ->Acc X.mg E H ρ (QB Q) (m Γ st)->WT X e σ H Q
structure SimW (X:Cx) (E:XK) (e:aD) (m:Gam->Q2->Res Bool):Prop where
 run:∀ (Γ:Gam) (σ:St) (H:Hp) (ρ:Tk) (st:Q2) (Q:Bool->Hp->Prop),Rel H ρ st->EnvR H ρ Γ σ->Acc X.mg E H ρ (QB Q) (m Γ st)->WW X e σ H Q
structure SimA (X:Cx) (E:XK) (es:List aD) (m:Gam->Q2->Res (List PV)):Prop where
 run:∀ (Γ:Gam) (σ:St) (H:Hp) (ρ:Tk) (st:Q2) (Q:List V->Hp->Prop),Rel H ρ st->EnvR H ρ Γ σ->Acc X.mg E H ρ (QL Q) (m Γ st)->WA X es σ H Q
abbrev OP:=Q2->PV->PV->Res PV
structure OpS (X:Cx) (E:XK) (f:aB->aB->Sem aB) (o:OP):Prop where
 run:∀ (H:Hp) (ρ:Tk) (st:Q2) (p q:PV) (x y:V) (Q:VK),Rel H ρ st->Rep H ρ p x->Rep H ρ q y->Acc X.mg E H ρ (QV Q) (o st p q)->WO X f x y H Q
abbrev CF:=Q2->List PV->Res PV
structure CallS (X:Cx) (E:XK) (f:aB) (o:CF):Prop where
 run:∀ (H:Hp) (ρ:Tk) (st:Q2) (ps:List PV) (xs:List V) (Q:VK),Rel H ρ st->RepL H ρ ps xs->Acc X.mg E H ρ (QV Q) (o st ps)->WC X f xs H Q
section
variable {X:Cx} {E:XK} {Γ:Gam} {σ:St} {H:Hp} {ρ:Tk} {st:Q2}
theorem SimE.use {e:aD} {m:ME} (s:SimE X E e m) {P:PV->Q2->Hp->Tk->Prop} {Q:VK} (R:Rel H ρ st) (G:EnvR H ρ Γ σ) (h:Acc X.mg E H ρ P (m Γ st))
  (k:∀ p j H1 ρ1 v,Ext H ρ H1 ρ1->Rel H1 ρ1 j->EnvR H1 ρ1 Γ σ->Rep H1 ρ1 p v->P p j H1 ρ1->Q v H1):WE X e σ H Q:=by
 refine s.run Γ σ H ρ st Q R G ?_;cases r:m Γ st with
 | ok p j=>rw [r] at h; exact fun H' ρ' q z v B=>k p j H' ρ' v q z (G.ext q) B (h H' ρ' q z)
 | exc e st=>rw [r] at h; exact h
 | stuck=>rw [r] at h; exact h
theorem SimE.use' {e:aD} {m:ME} (s:SimE X E e m) {P:PV->Q2->Hp->Tk->Prop} {Q:VK} (R:Rel H ρ st) (G:EnvR H ρ Γ σ) (h:Acc X.mg E H ρ P (m Γ st))
  (k:∀ p j H1 ρ1 v,m Γ st=.ok p j->Ext H ρ H1 ρ1->Rel H1 ρ1 j->EnvR H1 ρ1 Γ σ->Rep H1 ρ1 p v->P p j H1 ρ1->Q v H1):WE X e σ H Q:=by
 refine s.run Γ σ H ρ st Q R G ?_;cases r:m Γ st with
 | ok p j=>rw [r] at h; exact fun H' ρ' q z v B=>k p j H' ρ' v r q z (G.ext q) B (h H' ρ' q z)
 | exc e st=>rw [r] at h; exact h
 | stuck=>rw [r] at h; exact h
theorem SimA.use' {es:List aD} {m:Gam->Q2->Res (List PV)} (s:SimA X E es m) {P:List PV->Q2->Hp->Tk->Prop} {Q:List V->Hp->Prop} (R:Rel H ρ st) (G:EnvR H ρ Γ σ) (h:Acc X.mg E H ρ P (m Γ st))
  (k:∀ ps j H1 ρ1 vs,m Γ st=.ok ps j->Ext H ρ H1 ρ1->Rel H1 ρ1 j->EnvR H1 ρ1 Γ σ->RepL H1 ρ1 ps vs->P ps j H1 ρ1->Q vs H1):WA X es σ H Q:=by
 refine s.run Γ σ H ρ st Q R G ?_;cases r:m Γ st with
 | ok p j=>rw [r] at h; exact fun H' ρ' q z v B=>k p j H' ρ' v r q z (G.ext q) B (h H' ρ' q z)
 | exc e st=>rw [r] at h; exact h
 | stuck=>rw [r] at h; exact h
theorem SimT.use {e:aD} {m:Gam->Q2->Res Bool} (s:SimT X E e m) {P:Bool->Q2->Hp->Tk->Prop} {Q:Bool->Hp->Prop} (R:Rel H ρ st) (G:EnvR H ρ Γ σ) (h:Acc X.mg E H ρ P (m Γ st))
  (k:∀ p j H1 ρ1,Ext H ρ H1 ρ1->Rel H1 ρ1 j->EnvR H1 ρ1 Γ σ->P p j H1 ρ1->Q p H1):WT X e σ H Q:=by
 refine s.run Γ σ H ρ st Q R G ?_;cases r:m Γ st with
 | ok p j=>rw [r] at h; exact fun H' ρ' q z=>k p j H' ρ' q z (G.ext q) (h H' ρ' q z)
 | exc e st=>rw [r] at h; exact h
 | stuck=>rw [r] at h; exact h
theorem SimT.use' {e:aD} {m:Gam->Q2->Res Bool} (s:SimT X E e m) {P:Bool->Q2->Hp->Tk->Prop} {Q:Bool->Hp->Prop} (R:Rel H ρ st) (G:EnvR H ρ Γ σ) (h:Acc X.mg E H ρ P (m Γ st))
  (k:∀ p j H1 ρ1,m Γ st=.ok p j->Ext H ρ H1 ρ1->Rel H1 ρ1 j->EnvR H1 ρ1 Γ σ->P p j H1 ρ1->Q p H1):WT X e σ H Q:=by
 refine s.run Γ σ H ρ st Q R G ?_;cases r:m Γ st with
 | ok p j=>rw [r] at h; exact fun H' ρ' q z=>k p j H' ρ' r q z (G.ext q) (h H' ρ' q z)
 | exc e st=>rw [r] at h; exact h
 | stuck=>rw [r] at h; exact h
theorem SimW.use {e:aD} {m:Gam->Q2->Res Bool} (s:SimW X E e m) {P:Bool->Q2->Hp->Tk->Prop} {Q:Bool->Hp->Prop} (R:Rel H ρ st) (G:EnvR H ρ Γ σ) (h:Acc X.mg E H ρ P (m Γ st))
  (k:∀ p j H1 ρ1,Ext H ρ H1 ρ1->Rel H1 ρ1 j->EnvR H1 ρ1 Γ σ->P p j H1 ρ1->Q p H1):WW X e σ H Q:=by
 refine s.run Γ σ H ρ st Q R G ?_;cases r:m Γ st with
 | ok p j=>rw [r] at h; exact fun H' ρ' q z=>k p j H' ρ' q z (G.ext q) (h H' ρ' q z)
 | exc e st=>rw [r] at h; exact h
 | stuck=>rw [r] at h; exact h
theorem SimA.use {es:List aD} {m:Gam->Q2->Res (List PV)} (s:SimA X E es m) {P:List PV->Q2->Hp->Tk->Prop} {Q:List V->Hp->Prop} (R:Rel H ρ st) (G:EnvR H ρ Γ σ) (h:Acc X.mg E H ρ P (m Γ st))
  (k:∀ ps j H1 ρ1 vs,Ext H ρ H1 ρ1->Rel H1 ρ1 j->EnvR H1 ρ1 Γ σ->RepL H1 ρ1 ps vs->P ps j H1 ρ1->Q vs H1):WA X es σ H Q:=by
 refine s.run Γ σ H ρ st Q R G ?_;cases r:m Γ st with
 | ok p j=>rw [r] at h; exact fun H' ρ' q z v B=>k p j H' ρ' v q z (G.ext q) B (h H' ρ' q z)
 | exc e st=>rw [r] at h; exact h
 | stuck=>rw [r] at h; exact h
theorem OpS.use {f:aB->aB->Sem aB} {o:OP} (s:OpS X E f o) {P:PV->Q2->Hp->Tk->Prop} {Q:VK} {p q:PV} {x y:V} (R:Rel H ρ st) (G:Rep H ρ p x) (J:Rep H ρ q y) (h:Acc X.mg E H ρ P (o st p q))
  (k:∀ p j H1 ρ1 v,Ext H ρ H1 ρ1->Rel H1 ρ1 j->Rep H1 ρ1 p v->P p j H1 ρ1->Q v H1):WO X f x y H Q:=by
 refine s.run H ρ st p q x y Q R G J ?_;cases r:o st p q with
 | ok p j=>rw [r] at h; exact fun H' ρ' B z v I=>k p j H' ρ' v B z I (h H' ρ' B z)
 | exc e st=>rw [r] at h; exact h
 | stuck=>rw [r] at h; exact h
end
end Sm
namespace Sm
open PySem PySem.Spec L2 SeqAt
mutual
def peq:PV->PV->Bool
 | .non,.non=>true
 | .bl a,.bl b=>a == b
 | .bl a,.int b=>(if a then 1 else 0) == b
 | .int a,.bl b=>a == (if b then 1 else 0)
 | .int a,.int b=>a == b
 | .str a,.str b=>a == b
 | .tup xs,.tup ys=>j6 xs ys
 | .lst xs,.lst ys=>j6 xs ys
 | .lst xs,.fro ys=>j6 xs ys
 | .fro xs,.lst ys=>j6 xs ys
 | .fro xs,.fro ys=>j6 xs ys
 | _,_=>false
def j6:List PV->List PV->Bool
 | [],[]=>true
 | x :: xs,y :: ys=>peq x y && j6 xs ys
 | _,_=>false
end
def Zv:Nat->PV->Bool
 | _,.ref _=>false
 | _,.dic=>false
 | 0,.tup _=>false
 | 0,.lst _=>false
 | 0,.fro _=>false
 | n + 1,.tup xs=>xs.all (Zv n)
 | n + 1,.lst xs=>xs.all (Zv n)
 | n + 1,.fro xs=>xs.all (Zv n)
 | _,_=>true
theorem Q7e:∀ {xs ys:List PV},xs.length≠ys.length->j6 xs ys=false
 | [],[],h=>absurd rfl h
 | [],_ :: _,_=>by simp [j6]
 | _ :: _,[],_=>by simp [j6]
 | x :: xs,y :: ys,h=>by
  rw [j6,Q7e (xs:=xs) (ys:=ys) fun e=>h (by simp [e]),dX]
theorem Q7f:∀ {xs ys:List PV},xs.length=ys.length->j6 xs ys=(bU xs.length).all fun j=>peq (xs.getD j .non) (ys.getD j .non)
 | [],[],_=>by simp [j6]
 | [],_ :: _,h=>by simp at h
 | _ :: _,[],h=>by simp at h
 | x :: xs,y :: ys,h=>by
  rw [j6,Q7f (xs:=xs) (ys:=ys) (by simpa using h),E3,fE,cX,fF];rfl
section
variable {X:Cx} {pins:List (aA × Obj)} {σ:St} {H:Hp} {s:aC} {ρ:Tk}
mutual
theorem Qd2:∀ {p q:PV} {x:V} {n:Nat},Zv n p=true->Zv n q=true->Rep H ρ p x->Rep H ρ q x->peq p q=true
 | .non,q,x,n,_,B,h1,h2=>by
  cases h1;cases q <;> first | rfl | (cases n <;> cases B; done) | (cases h2; done) | (obtain ⟨_,_,e,_⟩:=h2; cases e) | (obtain ⟨_,_,e⟩:=h2; cases e)
 | .bl b,q,x,n,_,B,h1,h2=>by
  cases h1;cases q <;> first | (cases n <;> cases B; done) | (cases h2; simp [peq]; done) | (obtain ⟨_,_,e,_⟩:=h2; done) | (obtain ⟨_,_,e,_⟩:=h2; cases e; done) | (obtain ⟨_,_,e⟩:=h2; cases e)
 | .int b,q,x,n,_,B,h1,h2=>by
  cases h1;cases q <;> first | (cases n <;> cases B; done) | (cases h2; simp [peq]; done) | (obtain ⟨_,_,e,_⟩:=h2; done) | (obtain ⟨_,_,e,_⟩:=h2; cases e; done) | (obtain ⟨_,_,e⟩:=h2; cases e)
 | .str b,q,x,n,_,B,h1,h2=>by
  cases h1;cases q <;> first | (cases n <;> cases B; done) | (cases h2; simp [peq]; done) | (obtain ⟨_,_,e,_⟩:=h2; done) | (obtain ⟨_,_,e,_⟩:=h2; cases e; done) | (obtain ⟨_,_,e⟩:=h2; cases e)
 | .tup ps,q,x,0,G,_,_,_=>by cases G
 | .tup ps,q,x,n + 1,G,B,⟨a,vs,e,z,_,r⟩,h2=>by
  subst e;cases q with
  | tup J=>
   obtain ⟨b,us,e,j,_,I⟩:=h2;cases e;rw [z] at j; cases j;rw [peq];exact Ke G B r I
  | lst J=>obtain ⟨b,us,e,j,_⟩:=h2; cases e; rw [z] at j; cases j
  | fro J=>obtain ⟨b,us,e,j,_⟩:=h2; cases e; rcases j with j | ⟨o,j⟩ <;> (rw [z] at j; cases j)
  | ref i=>cases B
  | dic=>cases B
  | _=>cases h2
 | .lst ps,q,x,0,G,_,_,_=>by cases G
 | .lst ps,q,x,n + 1,G,B,⟨a,vs,e,z,_,r⟩,h2=>by
  subst e;cases q with
  | lst J=>
   obtain ⟨b,us,e,j,_,I⟩:=h2;cases e;rw [z] at j; cases j;rw [peq];exact Ke G B r I
  | tup J=>obtain ⟨b,us,e,j,_⟩:=h2; cases e; rw [z] at j; cases j
  | fro J=>
   obtain ⟨b,us,e,j,_,I⟩:=h2;cases e;rcases j with j | ⟨o,j⟩
   ·rw [z] at j; cases j;rw [peq];exact Ke G B r I
   ·rw [z] at j; cases j
  | ref i=>cases B
  | dic=>cases B
  | _=>cases h2
 | .fro ps,q,x,0,G,_,_,_=>by cases G
 | .fro ps,q,x,n + 1,G,B,⟨a,vs,e,z,_,r⟩,h2=>by
  subst e;cases q with
  | lst J=>
   obtain ⟨b,us,e,j,_,I⟩:=h2;cases e;rcases z with z | ⟨o,z⟩
   ·rw [z] at j; cases j;rw [peq];exact Ke G B r I
   ·rw [z] at j; cases j
  | tup J=>obtain ⟨b,us,e,j,_⟩:=h2; cases e; rcases z with z | ⟨o,z⟩ <;> (rw [z] at j; cases j)
  | fro J=>
   obtain ⟨b,us,e,j,_,I⟩:=h2;cases e;have:vs=us:=by
    rcases z with z | ⟨o,z⟩ <;> rcases j with j | ⟨o',j⟩ <;> (rw [z] at j; cases j) <;> rfl
   subst this;rw [peq];exact Ke G B r I
  | ref i=>cases B
  | dic=>cases B
  | _=>cases h2
 | .ref i,_,_,n,G,_,_,_=>by cases n <;> cases G
 | .dic,_,_,n,G,_,_,_=>by cases n <;> cases G
theorem Ke:∀ {ps j:List PV} {vs:List V} {n:Nat},ps.all (Zv n)=true->j.all (Zv n)=true->RepL H ρ ps vs->RepL H ρ j vs->j6 ps j=true
 | [],j,vs,n,_,_,h1,h2=>by
  cases h1;cases j with
  | nil=>rfl
  | cons q j=>obtain ⟨_,_,e,_⟩:=h2; cases e
 | p :: ps,j,vs,n,G,g2,⟨v,r,e,h1,B⟩,h2=>by
  subst e;cases j with
  | nil=>cases h2
  | cons q j=>
   obtain ⟨_,_,e,h2,z⟩:=h2;cases e;rw [cX,G8] at G g2;rw [j6,Qd2 G.1 g2.1 h1 h2,Ke G.2 g2.2 B z]; rfl
end
inductive Kd (H:Hp) (ρ:Tk) (s:aC):PV->aB->Prop where
 | non:Kd H ρ s .non .none
 | bl (b):Kd H ρ s (.bl b) (.bool b)
 | int (i t):Kd H ρ s (.int i) (.int i t)
 | str (x t):Kd H ρ s (.str x) (.str x t)
 | tup (ps a) (vs:List V) (its:List aB):H a=some (.tup vs)->RepL H ρ ps vs->Vals vs its->s.heap.IsTuple a its.toArray->Kd H ρ s (.tup ps) (.ref a)
 | lst (p ps a) (vs:List V) (its:List aB):(p=.lst ps\/p=.fro ps)->RepL H ρ ps vs->Vals vs its->s.heap.IsList a its.toArray->Kd H ρ s p (.ref a)
theorem Qgb {p:PV} {x:V} {u:aB} {n:Nat} (I:Inv X pins σ H s) (g:Zv n p=true) (r:Rep H ρ p x) (j:RelV x u):Kd H ρ s p u:=by
 cases p with
 | non=>cases r; cases j; exact .non
 | bl b=>cases r; cases j; exact .bl b
 | int i=>cases r; obtain ⟨t,rfl⟩:=j; exact .int i t
 | str i=>cases r; obtain ⟨t,rfl⟩:=j; exact .str i t
 | tup ps=>
  obtain ⟨a,vs,rfl,q,_,G⟩:=r;cases j;obtain ⟨its,z,B,_⟩:=I.tuple (SqT.of (K:=X.K) q);exact .tup ps a vs its q G z B
 | lst ps=>
  obtain ⟨a,vs,rfl,q,_,G⟩:=r;cases j;obtain ⟨its,z,B,_⟩:=I.list (SqL.of (K:=X.K) q);exact .lst _ ps a vs its (.inl rfl) G z B.isList
 | fro ps=>
  obtain ⟨a,vs,rfl,q,_,G⟩:=r;cases j;obtain ⟨its,z,B,_⟩:=I.list (show SqL X.K H a vs from .inl q);exact .lst _ ps a vs its (.inr rfl) G z B.isList
 | ref i=>cases n <;> cases g
 | dic=>cases n <;> cases g
theorem Q6e {ps:List PV} {vs:List V} {its:List aB} (r:RepL H ρ ps vs) (v:Vals vs its) {j:Nat} (h:j < its.length):∃ x,Rep H ρ (ps.getD j .non) x/\RelV x its[j]:=by
 have G:=r.length;have B:=v.length;have q:j < ps.length:=by omega
 obtain ⟨x,e1,e2⟩:=r.get (O7 q);obtain ⟨u,e3,z⟩:=v.get e1;rw [O7 h] at e3; cases e3;refine ⟨x,?_,z⟩;rw [bb,O7 q];exact e2
theorem Q24 {ps:List PV} {n:Nat} (g:ps.all (Zv n)=true) (j:Nat) (q:j < ps.length):Zv n (ps.getD j .non)=true:=by
 rw [bb,O7 q];exact (L5.mp g) _ (db q)
theorem Qex {ps q:List PV}:((bU (min ps.length q.length)).all (fun j=>peq (ps.getD j .non) (q.getD j .non)) && ps.length == q.length)=j6 ps q:=by
 by_cases e:ps.length=q.length
 ·rw [Q7f e,<- e,fK,beq_self_eq_true,Bool.and_true]
 ·rw [Q7e e,beq_eq_false_iff_ne.mpr e,dX]
theorem Qgg:∀ (n:Nat) {A:aR} {p q:PV} {x y:V} {u v:aB},Inv X pins σ H s->Zv n p=true->Zv n q=true->A.units + n < ae->Rep H ρ p x->RelV x u->Rep H ρ q y->RelV y v ->
  EqAt A s u v (peq p q)/\RcAt A s u v (peq p q)/\RcNeAt A s u v (!peq p q):=by
 intro n
 induction n with
 | zero=>
  intro A p q x y u v I Y J hu rp ru rq rv;have k1:=Qgb I Y rp ru;have k2:=Qgb I J rq rv;have hu:A.units < ae:=by omega
  cases k1 with
  | tup=>cases Y
  | lst p ps a vs its h=>rcases h with rfl | rfl <;> cases Y
  | non=>cases k2 with
   | tup=>cases J
   | lst p ps a vs its h=>rcases h with rfl | rfl <;> cases J
   | non=>exact ⟨EqAt.same _,RcAt.none_none,RcNeAt.none_none⟩
   | bl b=>exact ⟨EqAt.none_bool _,RcAt.none_bool _,RcNeAt.none_bool _⟩
   | int i t=>exact ⟨EqAt.none_int _ _,RcAt.none_int _ _,RcNeAt.none_int _ _⟩
   | str i t=>exact ⟨EqAt.none_str _ _,RcAt.none_str _ _,RcNeAt.none_str _ _⟩
  | bl a=>cases k2 with
   | tup=>cases J
   | lst p ps a vs its h=>rcases h with rfl | rfl <;> cases J
   | non=>exact ⟨EqAt.bool_none _,RcAt.bool_none _,RcNeAt.bool_none _⟩
   | bl b=>exact ⟨EqAt.bool_bool _ _,RcAt.bool_bool _ _,RcNeAt.bool_bool _ _⟩
   | int i t=>exact ⟨EqAt.bool_int _ _ _,RcAt.bool_int _ _ _,RcNeAt.bool_int _ _ _⟩
   | str i t=>exact ⟨EqAt.bool_str _ _ _,RcAt.bool_str _ _ _,RcNeAt.bool_str _ _ _⟩
  | int a a3=>cases k2 with
   | tup=>cases J
   | lst p ps a vs its h=>rcases h with rfl | rfl <;> cases J
   | non=>exact ⟨EqAt.int_none _ _,RcAt.int_none _ _,RcNeAt.int_none _ _⟩
   | bl b=>exact ⟨EqAt.int_bool _ _ _,RcAt.int_bool _ _ _,RcNeAt.int_bool _ _ _⟩
   | int i t=>exact ⟨EqAt.int_int _ _ _ _,RcAt.int_int _ _ _ _,RcNeAt.int_int _ _ _ _⟩
   | str i t=>exact ⟨EqAt.int_str _ _ _ _,RcAt.int_str _ _ _ _,RcNeAt.int_str _ _ _ _⟩
  | str a a3=>cases k2 with
   | tup=>cases J
   | lst p ps a vs its h=>rcases h with rfl | rfl <;> cases J
   | non=>exact ⟨EqAt.str_none _ _,RcAt.str_none _ _,RcNeAt.str_none _ _⟩
   | bl b=>exact ⟨EqAt.str_bool _ _ _,RcAt.str_bool _ _ _,RcNeAt.str_bool _ _ _⟩
   | int i t=>exact ⟨EqAt.str_int _ _ _ _,RcAt.str_int _ _ _ _,RcNeAt.str_int _ _ _ _⟩
   | str i t=>exact ⟨EqAt.str_str _ _ _ _,RcAt.str_str _ _ _ _,RcNeAt.str_str _ _ _ _⟩
 | succ n ih=>
  intro A p q x y u v I Y J hu rp ru rq rv;have k1:=Qgb I Y rp ru;have k2:=Qgb I J rq rv;have z:A.units < ae:=by omega
  have a5:A.in1.units + n < ae:=by show A.units + 1 + n < ae; omega
  cases k1 with
  | non=>cases k2 with
   | non=>exact ⟨EqAt.same _,RcAt.none_none,RcNeAt.none_none⟩
   | bl b=>exact ⟨EqAt.none_bool _,RcAt.none_bool _,RcNeAt.none_bool _⟩
   | int i t=>exact ⟨EqAt.none_int _ _,RcAt.none_int _ _,RcNeAt.none_int _ _⟩
   | str i t=>exact ⟨EqAt.none_str _ _,RcAt.none_str _ _,RcNeAt.none_str _ _⟩
   | tup ps a vs its ha r U B=>exact ⟨EqAt.none_tuple B z,RcAt.none_tuple B z,RcNeAt.none_tuple B z⟩
   | lst p ps a vs its h r U B=>rcases h with rfl | rfl <;> exact ⟨EqAt.none_list B z,RcAt.none_list B z,RcNeAt.none_list B z⟩
  | bl a=>cases k2 with
   | non=>exact ⟨EqAt.bool_none _,RcAt.bool_none _,RcNeAt.bool_none _⟩
   | bl b=>exact ⟨EqAt.bool_bool _ _,RcAt.bool_bool _ _,RcNeAt.bool_bool _ _⟩
   | int i t=>exact ⟨EqAt.bool_int _ _ _,RcAt.bool_int _ _ _,RcNeAt.bool_int _ _ _⟩
   | str i t=>exact ⟨EqAt.bool_str _ _ _,RcAt.bool_str _ _ _,RcNeAt.bool_str _ _ _⟩
   | tup ps a vs its ha r U B=>exact ⟨EqAt.bool_tuple _ B z,RcAt.bool_tuple _ B z,RcNeAt.bool_tuple _ B z⟩
   | lst p ps a vs its h r U B=>rcases h with rfl | rfl <;> exact ⟨EqAt.bool_list _ B z,RcAt.bool_list _ B z,RcNeAt.bool_list _ B z⟩
  | int a a3=>cases k2 with
   | non=>exact ⟨EqAt.int_none _ _,RcAt.int_none _ _,RcNeAt.int_none _ _⟩
   | bl b=>exact ⟨EqAt.int_bool _ _ _,RcAt.int_bool _ _ _,RcNeAt.int_bool _ _ _⟩
   | int i t=>exact ⟨EqAt.int_int _ _ _ _,RcAt.int_int _ _ _ _,RcNeAt.int_int _ _ _ _⟩
   | str i t=>exact ⟨EqAt.int_str _ _ _ _,RcAt.int_str _ _ _ _,RcNeAt.int_str _ _ _ _⟩
   | tup ps a vs its ha r U B=>exact ⟨EqAt.int_tuple _ _ B z,RcAt.int_tuple _ _ B z,RcNeAt.int_tuple _ _ B z⟩
   | lst p ps a vs its h r U B=>rcases h with rfl | rfl <;> exact ⟨EqAt.int_list _ _ B z,RcAt.int_list _ _ B z,RcNeAt.int_list _ _ B z⟩
  | str a a3=>cases k2 with
   | non=>exact ⟨EqAt.str_none _ _,RcAt.str_none _ _,RcNeAt.str_none _ _⟩
   | bl b=>exact ⟨EqAt.str_bool _ _ _,RcAt.str_bool _ _ _,RcNeAt.str_bool _ _ _⟩
   | int i t=>exact ⟨EqAt.str_int _ _ _ _,RcAt.str_int _ _ _ _,RcNeAt.str_int _ _ _ _⟩
   | str i t=>exact ⟨EqAt.str_str _ _ _ _,RcAt.str_str _ _ _ _,RcNeAt.str_str _ _ _ _⟩
   | tup ps a vs its ha r U B=>exact ⟨EqAt.str_tuple _ _ B z,RcAt.str_tuple _ _ B z,RcNeAt.str_tuple _ _ B z⟩
   | lst p ps a vs its h r U B=>rcases h with rfl | rfl <;> exact ⟨EqAt.str_list _ _ B z,RcAt.str_list _ _ B z,RcNeAt.str_list _ _ B z⟩
  | tup ps a vs its ha r U B=>cases k2 with
   | non=>exact ⟨EqAt.tuple_none B z,RcAt.tuple_none B z,RcNeAt.tuple_none B z⟩
   | bl b=>exact ⟨EqAt.tuple_bool _ B z,RcAt.tuple_bool _ B z,RcNeAt.tuple_bool _ B z⟩
   | int i t=>exact ⟨EqAt.tuple_int _ _ B z,RcAt.tuple_int _ _ B z,RcNeAt.tuple_int _ _ B z⟩
   | str i t=>exact ⟨EqAt.tuple_str _ _ B z,RcAt.tuple_str _ _ B z,RcNeAt.tuple_str _ _ B z⟩
   | tup O b us G hb Z v2 p2=>
    have l1:its.toArray.size=ps.length:=by rw [O4,<- U.length,r.length]
    have l2:G.toArray.size=O.length:=by rw [O4,<- v2.length,Z.length]
    have he:∀ j (h1:j < its.toArray.size) (h2:j < G.toArray.size),EqAt A.in1 s its.toArray[j] G.toArray[j] (peq (ps.getD j .non) (O.getD j .non)):=fun j h1 h2=>by
     obtain ⟨x1,a1,b1⟩:=Q6e r U (j:=j) (by simpa using h1);obtain ⟨x2,a2,b2⟩:=Q6e Z v2 (j:=j) (by simpa using h2);exact (ih I (Q24 Y j (by omega)) (Q24 J j (by omega)) a5 a1 b1 a2 b2).1
    have rc:=RcAt.tuples B p2 z he;have rn:=RcNeAt.tuples B p2 z he;rw [l1,l2,Qex] at rc rn;refine ⟨?_,rc,rn⟩
    by_cases e:a=b
    ·subst e;have:j6 ps O=true:=by
      rw [ha] at hb; cases hb;exact Ke Y J r Z
     show EqAt A s _ _ (j6 ps O);rw [this];exact EqAt.same _
    ·exact EqAt.of_refs e rc
   | lst q O b us G h Z v2 p2=>rcases h with rfl | rfl <;> exact ⟨EqAt.tuple_list B p2 z,RcAt.tuple_list B p2 z,RcNeAt.tuple_list B p2 z⟩
  | lst p ps a vs its h r U B=>cases k2 with
   | non=>rcases h with rfl | rfl <;> exact ⟨EqAt.list_none B z,RcAt.list_none B z,RcNeAt.list_none B z⟩
   | bl b=>rcases h with rfl | rfl <;> exact ⟨EqAt.list_bool _ B z,RcAt.list_bool _ B z,RcNeAt.list_bool _ B z⟩
   | int i t=>rcases h with rfl | rfl <;> exact ⟨EqAt.list_int _ _ B z,RcAt.list_int _ _ B z,RcNeAt.list_int _ _ B z⟩
   | str i t=>rcases h with rfl | rfl <;> exact ⟨EqAt.list_str _ _ B z,RcAt.list_str _ _ B z,RcNeAt.list_str _ _ B z⟩
   | tup O b us G hb Z v2 p2=>rcases h with rfl | rfl <;> exact ⟨EqAt.list_tuple B p2 z,RcAt.list_tuple B p2 z,RcNeAt.list_tuple B p2 z⟩
   | lst q O b us G h2 Z v2 p2=>
    have l1:its.toArray.size=ps.length:=by rw [O4,<- U.length,r.length]
    have l2:G.toArray.size=O.length:=by rw [O4,<- v2.length,Z.length]
    have a8:ps.all (Zv n)=true:=by rcases h with rfl | rfl <;> exact Y
    have a7:O.all (Zv n)=true:=by rcases h2 with rfl | rfl <;> exact J
    have ep:peq p q=j6 ps O:=by rcases h with rfl | rfl <;> rcases h2 with rfl | rfl <;> rfl
    have he:∀ j (h1:j < its.toArray.size) (h2:j < G.toArray.size),EqAt A.in1 s its.toArray[j] G.toArray[j] (peq (ps.getD j .non) (O.getD j .non)):=fun j h1 h2=>by
     obtain ⟨x1,a1,b1⟩:=Q6e r U (j:=j) (by simpa using h1);obtain ⟨x2,a2,b2⟩:=Q6e Z v2 (j:=j) (by simpa using h2);exact (ih I (Q24 a8 j (by omega)) (Q24 a7 j (by omega)) a5 a1 b1 a2 b2).1
    rw [ep];have a4:RcAt A s (.ref a) (.ref b) (j6 ps O)/\RcNeAt A s (.ref a) (.ref b) (!j6 ps O):=by
     by_cases e:ps.length=O.length
     ·have rc:=RcAt.lists B p2 (by rw [l1,l2,e]) z he;have rn:=RcNeAt.lists B p2 (by rw [l1,l2,e]) z he;rw [l1,<- Q7f e] at rc rn;exact ⟨rc,rn⟩
     ·have e':(its.toArray.size != G.toArray.size)=true:=by rw [l1,l2]; simpa using e
      rw [Q7e e];exact ⟨RcAt.lists_lengths B p2 e' z,RcNeAt.lists_lengths B p2 e' z⟩
    refine ⟨?_,a4.1,a4.2⟩
    by_cases e:a=b
    ·subst e;have a6:peq p q=true:=by
      have a9:=rp;have b0:=rq;have xa:x=.ref a:=by
       rcases h with rfl | rfl <;> (obtain ⟨b',_,rfl,_⟩:=rp; cases ru; rfl)
      have ya:y=.ref a:=by
       rcases h2 with rfl | rfl <;> (obtain ⟨b',_,rfl,_⟩:=rq; cases rv; rfl)
      subst xa; subst ya;exact Qd2 Y J rp rq
     rw [<- ep,a6];exact EqAt.same _
    ·exact EqAt.of_refs e a4.1
end
end Sm
namespace Sm
open PySem PySem.Spec L2
def lim:Nat:=1000000
theorem Qfc:lim<=sizeLine:=by decide
theorem Kj {n:Nat} (h:n<=lim):n<=sizeLine:=F3 h Qfc
def Xs (st:Q2):PV->Option (List PV)
 | .lst xs=>some xs
 | .ref i=>match st[i]? with
  | some (.lst xs)=>some xs
  | _=>none
 | _=>none
def yx (st:Q2):PV->Option (List PV)
 | .fro xs=>some xs
 | p=>Xs st p
def Uj (st:Q2):PV->Option (List PV)
 | .tup xs=>some xs
 | p=>yx st p
def der (st:Q2):PV->PV
 | .ref i=>match st[i]? with
  | some (.lst xs)=>.lst xs
  | _=>.ref i
 | p=>p
section
variable {H:Hp} {ρ:Tk} {st:Q2} {p:PV} {v:V} {xs:List PV}
theorem Q86 (R:Rel H ρ st) (r:Rep H ρ p v) (e:Xs st p=some xs):∃ a vs,v=.ref a/\H a=some (.lst vs)/\RepL H ρ xs vs:=by
 cases p with
 | lst ys=>
  obtain ⟨a,vs,e1,e2,_,e3⟩:=r;cases e;exact ⟨a,vs,e1,e2,e3⟩
 | ref i=>
  obtain ⟨a,e1,e2⟩:=r;simp only [Xs] at e
  split at e
  ·rename_i ys hs;cases e;obtain ⟨b,vs,j,z,q⟩:=R.lst hs;rw [e1] at j; cases j;exact ⟨a,vs,e2,z,q⟩
  ·cases e
 | _=>cases e
theorem Q6b (R:Rel H ρ st) (r:Rep H ρ p v) (e:yx st p=some xs):∃ a vs,v=.ref a/\Rd H a (.lst vs)/\RepL H ρ xs vs:=by
 cases p with
 | fro ys=>
  obtain ⟨a,vs,e1,e2,_,e3⟩:=r;cases e;exact ⟨a,vs,e1,e2,e3⟩
 | _=>
  obtain ⟨a,vs,e1,e2,e3⟩:=Q86 R r e;exact ⟨a,vs,e1,.inl e2,e3⟩
theorem Q4b {K:bS} (R:Rel H ρ st) (r:Rep H ρ p v) (e:Uj st p=some xs):∃ (t:Bool) (a:aA) (vs:List V),v=.ref a/\SqK K t H a vs/\RepL H ρ xs vs:=by
 cases p with
 | tup ys=>
  obtain ⟨a,vs,e1,e2,_,e3⟩:=r;cases e;exact ⟨true,a,vs,e1,show SqT K H a vs from SqT.of e2,e3⟩
 | _=>
  obtain ⟨a,vs,e1,e2,e3⟩:=Q6b R r e;exact ⟨false,a,vs,e1,show SqL K H a vs from .inl e2,e3⟩
theorem Qjf {K:bS} {t:Bool} {a:aA} {vs:List V} (h:SqK K t H a vs):SqL K H a vs\/SqT K H a vs:=by
 cases t with
 | true=>exact .inr h
 | false=>exact .inl h
mutual
theorem Qfv:∀ {n:Nat} {q:PV} {u:V},Zv n q=true->Rep H ρ q u->Rep H Tk.nil q u
 | _,.non,_,_,r=>r
 | _,.bl _,_,_,r=>r
 | _,.int _,_,_,r=>r
 | _,.str _,_,_,r=>r
 | 0,.tup _,_,g,_=>by cases g
 | 0,.lst _,_,g,_=>by cases g
 | 0,.fro _,_,g,_=>by cases g
 | n + 1,.tup _,_,g,⟨a,vs,e,h,_,r⟩=>⟨a,vs,e,h,Tk.not_nil _,z8 g r⟩
 | n + 1,.lst _,_,g,⟨a,vs,e,h,_,r⟩=>⟨a,vs,e,h,Tk.not_nil _,z8 g r⟩
 | n + 1,.fro _,_,g,⟨a,vs,e,h,_,r⟩=>⟨a,vs,e,h,Tk.not_nil _,z8 g r⟩
 | 0,.ref _,_,g,_=>by cases g
 | _ + 1,.ref _,_,g,_=>by cases g
 | 0,.dic,_,g,_=>by cases g
 | _ + 1,.dic,_,g,_=>by cases g
theorem z8:∀ {n:Nat} {j:List PV} {us:List V},j.all (Zv n)=true->RepL H ρ j us->RepL H Tk.nil j us
 | _,[],_,_,r=>r
 | n,q :: j,_,g,⟨v,r,e,h1,h2⟩=>by
  rw [cX,G8] at g;exact ⟨v,r,e,Qfv g.1 h1,z8 g.2 h2⟩
end
theorem Q25 (R:Rel H ρ st) {n:Nat} (g:Zv n (der st p)=true) (r:Rep H ρ p v):Rep H Tk.nil (der st p) v:=by
 cases p with
 | ref i=>
  obtain ⟨a,e1,e2⟩:=r;simp only [der] at g ⊢
  split at g
  ·rename_i ys hs;obtain ⟨b,vs,j,z,q⟩:=R.lst hs;rw [e1] at j; cases j;cases n with
   | zero=>cases g
   | succ n=>exact ⟨a,vs,e2,z,Tk.not_nil _,z8 g q⟩
  ·cases n <;> cases g
 | _=>exact Qfv g r
theorem Q3u {mg:Str->Option aB} {E:XK} {Q:VK} {ps:List PV} {vs:List V} (R:Rel H ρ st) (h:Acc mg E H ρ (QV Q) (.ok (.tup ps) st)) (r:RepL H ρ ps vs):∀ p,H p=none->Q (.ref p) (upd H p (.tup vs)):=
 fun p hp=>h _ ρ (Ext.add hp) (R.add hp) _ ⟨p,vs,rfl,Je,R.fresh hp,r.ext (Ext.add hp)⟩
theorem Q6a {mg:Str->Option aB} {E:XK} {Q:VK} {ps:List PV} {vs:List V} (R:Rel H ρ st) (h:Acc mg E H ρ (QV Q) (.ok (.lst ps) st)) (r:RepL H ρ ps vs):∀ p,H p=none->Q (.ref p) (upd H p (.lst vs)):=
 fun p hp=>h _ ρ (Ext.add hp) (R.add hp) _ ⟨p,vs,rfl,Je,R.fresh hp,r.ext (Ext.add hp)⟩
theorem now {mg:Str->Option aB} {E:XK} {Q:VK} {p:PV} (R:Rel H ρ st) (h:Acc mg E H ρ (QV Q) (.ok p st)) (r:Rep H ρ p v):Q v H:=h H ρ (Ext.refl _ _) R v r
end
section
variable {X:Cx} {E:XK} {pos:Pos}
def Q3 (i:Nat):ME:=fun Γ st=>match Γ[i]? with
 | some (some p)=>.ok p st
 | _=>.stuck
def mC (p:PV):ME:=fun _ st=>.ok p st
theorem Q0 (i:Nat) {x:Str} (q:X.N[i]?=some x:=by rfl) (z:Vis X.env.scope x:=by first | exact Or.inl rfl | exact Or.inr (Or.inl rfl) | exact Or.inr (Or.inr rfl)) (hd:(x == ("__debug__" : Str))=false:=by decide)
  (j:(x == ("__classdict__" : Str))=false:=by decide):SimE X E (.Name x pos) (Q3 i):=⟨fun Γ σ H ρ st Q R G h=>WE.of (Qk5 q z hd j) (by
 unfold Q3 at h
 split at h
 ·rename_i p e;obtain ⟨v,e1,r⟩:=G.2 i p e;exact ⟨v,e1,now R h r⟩
 ·exact h.elim)⟩
theorem Qe {i:Int} {j:Nat}:SimE X E (.Constant (.int i) j pos) (mC (.int i)):=⟨fun Γ σ H ρ st Q R G h=>WE.of Qt3 (now R h rfl)⟩
theorem Q5d {b:Bool} {j:Nat}:SimE X E (.Constant (.bool b) j pos) (mC (.bl b)):=⟨fun Γ σ H ρ st Q R G h=>WE.of Qw1 (now R h rfl)⟩
theorem Qz {x:Str} {j:Nat}:SimE X E (.Constant (.str x) j pos) (mC (.str x)):=⟨fun Γ σ H ρ st Q R G h=>WE.of Q1a (now R h rfl)⟩
theorem Qnx {x:Str} {i:Int} {t:Tok} (j:Gl X x) (q:X.mg x=some (.int i t)) (hd:(x == ("__debug__" : Str))=false:=by decide):SimE X E (.Name x pos) (mC (.int i)):=
 ⟨fun Γ σ H ρ st Q R G h=>WE.of (Qpn j q (v:=.int i) ⟨t,rfl⟩ hd) (now R h rfl)⟩
variable {a b c:aD} {ma mb mc:ME}
def mOp (o:OP) (ma mb:ME):ME:=fun Γ st=>(ma Γ st).bind fun x st1=>(mb Γ st1).bind fun y st2=>o st2 x y
theorem Qcf {f:aB->aB->Sem aB} {o:OP} {Γ:Gam} {σ:St} {H:Hp} {ρ:Tk} {st:Q2} {P:PV->Q2->Hp->Tk->Prop} {Q:VK} (ho:OpS X E f o) (ha:SimE X E a ma) (hb:SimE X E b mb) (R:Rel H ρ st) (G:EnvR H ρ Γ σ) (h:Acc X.mg E H ρ P (mOp o ma mb Γ st))
  (k:∀ p j H1 ρ1 v,Ext H ρ H1 ρ1->Rel H1 ρ1 j->Rep H1 ρ1 p v->P p j H1 ρ1->Q v H1):tOp (WO X f) (WE X a) (WE X b) σ H Q:=by
 refine ha.use R G h.bind fun p j H1 ρ1 v Z R1 Y r1 h1=>?_
 refine hb.use R1 Y h1.bind fun q a3 H2 a2 u J R2 G2 r2 h2=>?_
 exact ho.use R2 (r1.ext J) r2 h2 fun w I U B z x3 O r3 p3=>k w I U B z (Z.trans (J.trans x3)) O r3 p3
theorem J5 {op:Operator} {o:OP} (z:OpS X E (aY op) o) (B:SimE X E a ma) (j:SimE X E b mb):SimE X E (.BinOp a op b pos) (mOp o ma mb):=
 ⟨fun Γ σ H ρ st Q R G h=>WE.of (Qvy Qey Yv Yv) (Qcf z B j R G h fun _ _ _ _ v _ _ r q=>q v r)⟩
theorem js {op:CmpOp} {o:OP} (B:OpS X E (aX op) o) (I:SimE X E a ma) (j:SimE X E b mb) (z:bF op b=false:=by first | exact Qkm _ | rfl):SimE X E (.Compare a [op] [b] pos) (mOp o ma mb):=
 ⟨fun Γ σ H ρ st Q R G h=>WE.of (Qpp Qey Yv Yv z) (Qcf B I j R G h fun _ _ _ _ v _ _ r q=>q v r)⟩
def asB (p:PV) (st:Q2):Res Bool:=match p with
 | .bl k=>.ok k st
 | _=>.stuck
def toB (m:ME):Gam->Q2->Res Bool:=fun Γ st=>(m Γ st).bind asB
theorem Qn9 {mg:Str->Option aB} {H:Hp} {ρ:Tk} {st:Q2} {p:PV} {v:V} {P:Bool->Q2->Hp->Tk->Prop} (R:Rel H ρ st) (r:Rep H ρ p v) (h:Acc mg E H ρ P (asB p st)):∃ k,v=.bl k/\P k st H ρ:=by
 cases p with
 | bl k=>exact ⟨k,r,h H ρ (Ext.refl _ _) R⟩
 | _=>exact h.elim
theorem Ja {op:CmpOp} {o:OP} (O:OpS X E (aX op) o) (U:SimE X E a ma) (B:SimE X E b mb) (I:bF op b=false:=by first | exact Qkm _ | rfl):SimT X E (.Compare a [op] [b] pos) (toB (mOp o ma mb)):=
 ⟨fun Γ σ H ρ st Q R G h=>WT.of (Qp9 Qey Yv Yv I) (Qcf O U B R G h.bind fun _ J _ _ v _ j r q=>by
  obtain ⟨k,e,z⟩:=Qn9 j r q;exact ⟨k,e,z⟩)⟩
theorem V7 {e:aD} {m:ME} (h:SimE X E e m) (J:∀ j,isTrue e X.env j=(do let v <- j; standAt e.pos; ak [v] (truthy v)):=by intro _; rfl):SimT X E e (toB m):=
 ⟨fun Γ σ H ρ st Q R G q=>WT.of (Qsp Yv J) (h.use R G q.bind fun p O H1 ρ1 v Y B U I h1=>by
  obtain ⟨k,e,z⟩:=Qn9 B I h1;exact ⟨k,e,z⟩)⟩
def Q1h (o o':OP) (ma mb mc:ME):ME:=fun Γ st=>(ma Γ st).bind fun x st1=>(mb Γ st1).bind fun y st2=>(o st2 x y).bind fun k st3=>match k with
 | .bl true=>(mc Γ st3).bind fun z st4=>o' st4 y z
 | .bl false=>.ok (.bl false) st3
 | _=>.stuck
theorem Qb4 {op I:CmpOp} {o o':OP} {Γ:Gam} {σ:St} {H:Hp} {ρ:Tk} {st:Q2} {P:PV->Q2->Hp->Tk->Prop} {Q:VK} (ho:OpS X E (aX op) o) (Z:OpS X E (aX I) o') (ha:SimE X E a ma) (hb:SimE X E b mb) (hc:SimE X E c mc) (R:Rel H ρ st) (G:EnvR H ρ Γ σ) (h:Acc X.mg E H ρ P (Q1h o o' ma mb mc Γ st))
  (k:∀ p j H1 ρ1 v,Ext H ρ H1 ρ1->Rel H1 ρ1 j->Rep H1 ρ1 p v->P p j H1 ρ1->Q v H1):Qek (WO X (aX op)) (WO X (aX I)) (WE X a) (WE X b) (WE X c) σ H Q:=by
 refine ha.use R G h.bind fun p j H1 ρ1 v x1 R1 G1 r1 h1=>?_
 refine hb.use R1 G1 h1.bind fun q a4 H2 a3 u x2 R2 G2 r2 h2=>?_
 refine ho.use R2 (r1.ext x2) r2 h2.bind fun w a5 H3 B z J O r3 h3=>?_
 cases w with
 | bl b=>
  refine ⟨b,r3,?_⟩;cases b with
  | true=>
   rw [bN rfl];refine hc.use O (G2.ext J) h3.bind fun y a2 H4 a6 yv x4 R4 G4 r4 h4=>?_
   exact Z.use R4 (r2.ext (J.trans x4)) r4 h4 fun w U H5 Y z x5 R5 r5 p5=>k w U H5 Y z (x1.trans (x2.trans (J.trans (x4.trans x5)))) R5 r5 p5
  | false=>
   rw [bO E2];exact k (.bl false) _ H3 B _ (x1.trans (x2.trans J)) O rfl (h3 H3 B (Ext.refl _ _) O)
 | _=>exact h3.elim
theorem Qjj {op j:CmpOp} {o o':OP} (O:OpS X E (aX op) o) (z:OpS X E (aX j) o') (U:SimE X E a ma) (I:SimE X E b mb) (J:SimE X E c mc) (B:lastMarks [op,j] [b,c]=false:=by with_unfolding_all rfl):SimE X E (.Compare a [op,j] [b,c] pos) (Q1h o o' ma mb mc):=
 ⟨fun Γ σ H ρ st Q R G h=>WE.of (Qka Qey Qey Yv Yv Yv B) (Qb4 O z U I J R G h fun _ _ _ _ v _ _ r q=>q v r)⟩
theorem Qcu {op j:CmpOp} {o o':OP} (Z:OpS X E (aX op) o) (B:OpS X E (aX j) o') (ha:SimE X E a ma) (O:SimE X E b mb) (Y:SimE X E c mc) (J:lastMarks [op,j] [b,c]=false:=by with_unfolding_all rfl):SimT X E (.Compare a [op,j] [b,c] pos) (toB (Q1h o o' ma mb mc)):=
 ⟨fun Γ σ H ρ st Q R G h=>WT.of (Qjv Qey Qey Yv Yv Yv J) (Qb4 Z B ha O Y R G h.bind fun _ U _ _ v _ I r q=>by
  obtain ⟨k,e,z⟩:=Qn9 I r q;exact ⟨k,e,z⟩)⟩
variable {rest:List aD}
def Qa0 (ma mb:ME):ME:=fun Γ st=>(ma Γ st).bind fun x st1=>match x with
 | .bl true=>mb Γ st1
 | .bl false=>.ok (.bl false) st1
 | _=>.stuck
def mOr (ma mb:ME):ME:=fun Γ st=>(ma Γ st).bind fun x st1=>match x with
 | .bl true=>.ok (.bl true) st1
 | .bl false=>mb Γ st1
 | _=>.stuck
def Qts (ma:ME):ME:=fun Γ st=>(ma Γ st).bind fun x st1=>match x with
 | .bl k=>.ok (.bl (!k)) st1
 | _=>.stuck
theorem Q2q {op:BoolOp} (j:SimE X E a ma):SimE X E (.BoolOp op [a] pos) ma:=⟨fun Γ σ H ρ st Q R G h=>WE.of (Qt1 Yv) (j.use R G h fun _ _ _ _ v _ _ _ r q=>q v r)⟩
theorem Q2s (O:SimE X E a ma) (z:SimE X E (.BoolOp .And (b :: rest) pos) mb):SimE X E (.BoolOp .And (a :: b :: rest) pos) (Qa0 ma mb):=
 ⟨fun Γ σ H ρ st Q R G h=>WE.of (Qt5 Yv Yv) (O.use R G h.bind fun p J H1 ρ1 v U j I B h1=>by
  cases p with
  | bl k=>
   refine ⟨k,B,?_⟩;cases k with
   | true=>rw [bN rfl]; exact z.use j I h1 fun _ _ _ _ v _ _ _ r q=>q v r
   | false=>rw [bO E2]; exact now j h1 rfl
  | _=>exact h1.elim)⟩
theorem Qvg (O:SimE X E a ma) (z:SimE X E (.BoolOp .Or (b :: rest) pos) mb):SimE X E (.BoolOp .Or (a :: b :: rest) pos) (mOr ma mb):=
 ⟨fun Γ σ H ρ st Q R G h=>WE.of (Qvx Yv Yv) (O.use R G h.bind fun p J H1 ρ1 v U j I B h1=>by
  cases p with
  | bl k=>
   refine ⟨k,B,?_⟩;cases k with
   | true=>rw [bN rfl]; exact now j h1 rfl
   | false=>rw [bO E2]; exact z.use j I h1 fun _ _ _ _ v _ _ _ r q=>q v r
  | _=>exact h1.elim)⟩
theorem Qsd (B:SimE X E a ma):SimE X E (.UnaryOp .Not a pos) (Qts ma):=
 ⟨fun Γ σ H ρ st Q R G h=>WE.of (Qt2 Yv) (B.use R G h.bind fun p z H1 ρ1 v J j I q h1=>by
  cases p with
  | bl k=>exact ⟨k,q,now j h1 rfl⟩
  | _=>exact h1.elim)⟩
def Q62 (ma:ME):ME:=fun Γ st=>(ma Γ st).bind fun x st1=>match x with
 | .int k=>.ok (.int (-k)) st1
 | _=>.stuck
theorem Q2r (B:SimE X E a ma):SimE X E (.UnaryOp .USub a pos) (Q62 ma):=
 ⟨fun Γ σ H ρ st Q R G h=>WE.of (Qvw Qs1 Yv) (B.use R G h.bind fun p z H1 ρ1 v J j I q h1=>by
  cases p with
  | int k=>exact ⟨k,q,now j h1 rfl⟩
  | _=>exact h1.elim)⟩
abbrev MT:=Gam->Q2->Res Bool
variable {ta tb:MT}
def Q0y (ta tb:MT):MT:=fun Γ st=>(ta Γ st).bind fun k st1=>if k=true then tb Γ st1 else .ok false st1
def Q5m (ta tb:MT):MT:=fun Γ st=>(ta Γ st).bind fun k st1=>if k=true then .ok true st1 else tb Γ st1
def Ku (ta:MT):MT:=fun Γ st=>(ta Γ st).bind fun k st1=>.ok (!k) st1
theorem SimW.t {e:aD} (h:SimW X E e ta):SimT X E e ta:=⟨fun Γ σ H ρ st Q R G q pins s I=>h.run Γ σ H ρ st Q R G q _ pins s I⟩
theorem Q3d (j:SimT X E a ta):SimW X E (.BoolOp .And [a] pos) ta:=⟨fun Γ σ H ρ st Q R G h=>WW.of (Qp5 Qd6) (j.use R G h fun _ _ _ _ _ _ _ q=>q)⟩
theorem Q6u (j:SimT X E a ta):SimW X E (.BoolOp .Or [a] pos) ta:=⟨fun Γ σ H ρ st Q R G h=>WW.of (Qsm Qd6) (j.use R G h fun _ _ _ _ _ _ _ q=>q)⟩
theorem Q6v (J:SimT X E a ta) (z:SimW X E (.BoolOp .And (b :: rest) pos) tb):SimW X E (.BoolOp .And (a :: b :: rest) pos) (Q0y ta tb):=
 ⟨fun Γ σ H ρ st Q R G h=>WW.of (Qsn Qd6 Qvq) (J.use R G h.bind fun k I H1 ρ1 O j B h1=>by
  cases k with
  | true=>rw [bN rfl] at h1 ⊢; exact z.use j B h1 fun _ _ _ _ _ _ _ q=>q
  | false=>rw [bO E2] at h1 ⊢; exact h1 H1 ρ1 (Ext.refl _ _) j)⟩
theorem Qa8 (J:SimT X E a ta) (z:SimW X E (.BoolOp .Or (b :: rest) pos) tb):SimW X E (.BoolOp .Or (a :: b :: rest) pos) (Q5m ta tb):=
 ⟨fun Γ σ H ρ st Q R G h=>WW.of (Qvr Qd6 Qvq) (J.use R G h.bind fun k I H1 ρ1 O j B h1=>by
  cases k with
  | true=>rw [bN rfl] at h1 ⊢; exact h1 H1 ρ1 (Ext.refl _ _) j
  | false=>rw [bO E2] at h1 ⊢; exact z.use j B h1 fun _ _ _ _ _ _ _ q=>q)⟩
theorem Xi (z:SimT X E a ta):SimT X E (.UnaryOp .Not a pos) (Ku ta):=
 ⟨fun Γ σ H ρ st Q R G h=>WT.of (Qsq Qd6) (z.use R G h.bind fun k q H1 ρ1 I j B h1=>h1 H1 ρ1 (Ext.refl _ _) j)⟩
variable {e:aD} {es:List aD} {m:ME} {mr:Gam->Q2->Res (List PV)}
def Qa:Gam->Q2->Res (List PV):=fun _ st=>.ok [] st
def Q4 (m:ME) (mr:Gam->Q2->Res (List PV)):Gam->Q2->Res (List PV):=fun Γ st=>(m Γ st).bind fun p st1=>(mr Γ st1).bind fun ps st2=>.ok (p :: ps) st2
theorem Q6:SimA X E [] Qa:=⟨fun Γ σ H ρ st Q R G h=>WA.of Q4p (h H ρ (Ext.refl _ _) R [] rfl)⟩
theorem Q1 (Y:SimE X E e m) (q:SimA X E es mr) (hs:aP (e :: es) X.env=(false,aN e X.env) :: aP es X.env:=by rfl):SimA X E (e :: es) (Q4 m mr):=
 ⟨fun Γ σ H ρ st Q R G h=>WA.of (zw Yv Q3m hs) (Y.use R G h.bind fun p U H1 ρ1 v x1 B J I h1=>q.use B J h1.bind fun ps Z H2 j vs z R2 G2 O h2=>
  h2 H2 j (Ext.refl _ _) R2 (v :: vs) ⟨v,vs,rfl,I.ext z,O⟩)⟩
def Uf (mr:Gam->Q2->Res (List PV)):ME:=fun Γ st=>(mr Γ st).bind fun ps st1=>if ps.length<=lim then .ok (.tup ps) st1 else .stuck
def Q51 (mr:Gam->Q2->Res (List PV)):ME:=fun Γ st=>(mr Γ st).bind fun ps st1=>if ps.length<=lim then .ok (.lst ps) st1 else .stuck
theorem Wd {k:Nat} (h:SimA X E es mr):SimE X E (.Tuple es k pos) (Uf mr):=
 ⟨fun Γ σ H ρ st Q R G z=>WE.of (Qt0 Q3m) (h.use R G z.bind fun ps I H1 ρ1 vs O B J q h1=>by
  by_cases j:ps.length<=lim
  ·rw [bN j] at h1;exact ⟨by rw [<- q.length]; exact Kj j,Q3u B h1 q⟩
  ·rw [bO j] at h1; exact h1.elim)⟩
theorem Q4c (h:SimA X E es mr):SimE X E (.List es pos) (Q51 mr):=
 ⟨fun Γ σ H ρ st Q R G z=>WE.of (Qk8 Q3m) (h.use R G z.bind fun ps I H1 ρ1 vs O B J q h1=>by
  by_cases j:ps.length<=lim
  ·rw [bN j] at h1;exact ⟨by rw [<- q.length]; exact Kj j,Q6a B h1 q⟩
  ·rw [bO j] at h1; exact h1.elim)⟩
end
end Sm
namespace HT
open PySem PySem.Spec PyProof.Rows
section
variable {prog:aO} {w:aM} {A:aR} {E:aB->aC->Prop} {s:aC}
theorem getItem_tuple_whole {t sl:aA} {j:Array aB} {O J:aB} {lo hi:Option Int} {Q:aB->aC->Prop} (q:IsTup s.heap t j) (hs:s.heap.IsSliceOf sl O J .none) (pl:IsPart O lo) (Y:IsPart J hi)
  (U:sIx j.size 0 lo=0/\sIx j.size j.size hi=j.size)
  (h:Q (.ref t) s):aI (aJ prog w) A (getItem (.ref t) (.ref sl)) Q E s:=by
 obtain ⟨os,G,I,Z⟩:=id hs;have B:s.TypeIs (.ref sl) "slice" := ⟨os,G,I⟩;unfold getItem
 try with_reducible refine az ?_
 first | refine aF (aU ?_) | skip
 refine aF (wpAny_sequenceKey q.typeIs (by decide) ?_);refine aF (wpAny_callSpecial?_slot (name:=bR "__getitem__") q.typeIs dU
  (bH dU q.typeIs entry_tuple_getitem ?_ (args_tuple_getitem _ _)))
 show aI _ _ (Builtin.Tuple.tupleItemsOf (.ref t) >>= _) _ _ s;refine aF (tupleItemsOf_ q ?_);refine aF (bJ B ?_);rw [bN (by decide)];refine aF (xb hs pl Y ?_);have z:(((sIx j.size 0 lo:Nat):Int) == 0 && (1:Int) == 1 && (sIx j.size j.size hi - sIx j.size 0 lo) == j.size)=true:=by
  rw [U.1,U.2]; simp
 show aI _ _ (if (((sIx j.size 0 lo:Nat):Int) == 0 && (1:Int) == 1 && (sIx j.size j.size hi - sIx j.size 0 lo) == j.size)=true then _ else _) _ _ s;rw [bN z];refine aF (aF (bJ q.typeIs (aU ?_)));rw [bN (by rfl)];exact aF (bK (aU ⟨_,rfl,aU h⟩))
end
end HT
namespace L2
open PySem PySem.Spec PyProof.Rows
def Qyu (K:bS):V->Option Int->Option Int->Hp->VK->Prop:=fun x lo hi H Q=>∃ a xs,x=.ref a/\SqT K H a xs /\
 (HT.sIx xs.length 0 lo=0/\HT.sIx xs.length xs.length hi=xs.length)/\Q (.ref a) H
theorem sl_whole {X:Cx}:SlR X (Qyu X.K):=by
 intro pins s σ H x v Y U lo hi sl Q I B hs pl G h;obtain ⟨a,xs,rfl,O,J,q⟩:=h;cases B;obtain ⟨its,r,z,hz⟩:=I.tuple O;have j:its.toArray.size=xs.length:=by rw [O4]; exact r.length.symm
 refine ⟨"tuple",_,PyProof.Rows.slot_tuple_getitem.lookup,z.typeIs,?_⟩;exact HT.getItem_tuple_whole z hs pl G (by rw [j]; exact J) ⟨.ref a,H,I,rfl,q⟩
end L2
namespace Sm
open PySem PySem.Spec L2
section
variable {X:Cx} {E:XK} {pos:Pos}
def oI (g:Int->Int->PV):OP:=fun st p q=>match p,q with
 | .int a,.int b=>.ok (g a b) st
 | _,_=>.stuck
def Y5:OP:=fun st p q=>match p,q with
 | .int a,.int b=>.ok (.int (a + b)) st
 | .str a,.str b=>if a.length + b.length<=lim then .ok (.str (a ++ b)) st else .stuck
 | .tup xs,.tup ys=>if xs.length + ys.length<=lim then .ok (.tup (xs ++ ys)) st else .stuck
 | p,q=>match Xs st p,Xs st q with
  | some xs,some ys=>if xs.length + ys.length<=lim then .ok (.lst (xs ++ ys)) st else .stuck
  | _,_=>.stuck
theorem Jf:OpS X E (aY .Add) Y5:=⟨fun H ρ st p q x y Q R J O h=>by
 unfold Y5 at h
 split at h
 ·cases J; cases O;exact WO.of Qtg ⟨_,_,rfl,rfl,now R h rfl⟩
 ·cases J; cases O
  split at h
  ·rename_i I;exact WO.of Qez ⟨_,_,rfl,rfl,Kj I,now R h rfl⟩
  ·exact h.elim
 ·split at h
  ·rename_i xs ys I;obtain ⟨a,vs,rfl,G,U,j⟩:=J;obtain ⟨b,us,rfl,B,Y,rb⟩:=O;refine WO.of Qpy ?_
   by_cases e:xs=[]
   ·subst e;cases j;exact .inr ⟨a,b,us,rfl,rfl,SqT.of G,SqT.of B,now R h ⟨b,us,rfl,B,Y,rb⟩⟩
   ·refine .inl ⟨a,b,vs,us,rfl,rfl,SqT.of G,SqT.of B,fun z=>e ?_,by rw [<- j.length,<- rb.length]; exact Kj I,fun z=>?_,fun z=>Q3u R h (j.append rb)⟩
    ·subst z;cases xs with
     | nil=>rfl
     | cons _ _=>have:=j.length; simp at this
    ·subst z;have:ys=[]:=by
      cases ys with
      | nil=>rfl
      | cons _ _=>have:=rb.length; simp at this
     subst this;rw [bv] at h;exact now R h ⟨a,vs,rfl,G,U,j⟩
  ·exact h.elim
 ·split at h
  ·rename_i xs ys e1 e2
   split at h
   ·rename_i I;obtain ⟨a,vs,rfl,G,j⟩:=Q86 R J e1;obtain ⟨b,us,rfl,B,rb⟩:=Q86 R O e2;exact WO.of Qtf ⟨a,b,vs,us,rfl,rfl,G,B,by rw [<- j.length,<- rb.length]; exact Kj I,Q6a R h (j.append rb)⟩
   ·exact h.elim
  ·exact h.elim⟩
theorem Q0c:OpS X E (aY .Sub) (oI fun a b=>.int (a - b)):=⟨fun H ρ st p q x y Q R j z h=>by
 unfold oI at h
 split at h
 ·cases j; cases z;exact WO.of Qt9 ⟨_,_,rfl,rfl,now R h rfl⟩
 ·exact h.elim⟩
def Q60:OP:=fun st p q=>match p,q with
 | .int a,.int b=>if (-(2 ^ 64) < a/\a < 2 ^ 64)\/(-(2 ^ 64) < b/\b < 2 ^ 64) then .ok (.int (a * b)) st else .stuck
 | .tup xs,.int b=>if xs≠[]/\1<=b/\xs.length * b.toNat<=4096 then .ok (.tup (bT b.toNat xs).flatten) st else .stuck
 | p,.int b=>match Xs st p with
  | some xs=>if -(2 ^ 63)<=b/\b < 2 ^ 63/\xs.length * b.toNat<=lim then .ok (.lst (bT b.toNat xs).flatten) st else .stuck
  | none=>.stuck
 | _,_=>.stuck
theorem Q4q:OpS X E (aY .Mult) Q60:=⟨fun H ρ st p q x y Q R I J h=>by
 unfold Q60 at h
 split at h
 ·cases I; cases J
  split at h
  ·rename_i j;exact WO.of Qtc ⟨_,_,rfl,rfl,j,now R h rfl⟩
  ·exact h.elim
 ·cases J
  split at h
  ·rename_i xs b j;obtain ⟨a,vs,rfl,G,O,B⟩:=I;refine WO.of Qpw ⟨a,b,vs,rfl,rfl,SqT.of G,fun z=>j.1 ?_,j.2.1,by rw [<- B.length]; exact j.2.2,fun z=>?_,fun z=>Q3u R h (B.rep _)⟩
   ·subst z;cases xs with
    | nil=>rfl
    | cons _ _=>have:=B.length; simp at this
   ·subst z;have e1:(bT (Int.toNat 1) xs).flatten=xs:=by simp
    rw [e1] at h;exact now R h ⟨a,vs,rfl,G,O,B⟩
  ·exact h.elim
 ·cases J
  split at h
  ·rename_i xs e1
   split at h
   ·rename_i j;obtain ⟨a,vs,rfl,G,B⟩:=Q86 R I e1;exact WO.of Qta ⟨a,_,vs,rfl,rfl,G,j.1,j.2.1,by rw [<- B.length]; exact Kj j.2.2,Q6a R h (B.rep _)⟩
   ·exact h.elim
  ·exact h.elim
 ·exact h.elim⟩
def Q3s:OP:=fun st p q=>match p,q with
 | .int a,.int b=>if 0 < b then .ok (.int (a % b)) st else .stuck
 | _,_=>.stuck
theorem Q1c:OpS X E (aY .Mod) Q3s:=⟨fun H ρ st p q x y Q R j z h=>by
 unfold Q3s at h
 split at h
 ·cases j; cases z
  split at h
  ·rename_i B;exact WO.of Qtd ⟨_,_,rfl,rfl,B,now R h rfl⟩
  ·exact h.elim
 ·exact h.elim⟩
def Qq3:OP:=fun st p q=>match p,q with
 | .int a,.int b=>if 0 < b/\b < 1073741824 then .ok (.int (a / b)) st else .stuck
 | _,_=>.stuck
theorem Qt8:OpS X E (aY .FloorDiv) Qq3:=⟨fun H ρ st p q x y Q R j z h=>by
 unfold Qq3 at h
 split at h
 ·cases j; cases z
  split at h
  ·rename_i B;exact WO.of Qpx ⟨_,_,rfl,rfl,B,now R h rfl⟩
  ·exact h.elim
 ·exact h.elim⟩
def Qki:OP:=fun st p q=>match p,q with
 | .int a,.int b=>if 0<=b/\b<=1000000/\a.natAbs < 2 ^ 64 then .ok (.int (a ^ b.toNat)) st else .stuck
 | _,_=>.stuck
theorem Qt7:OpS X E (aY .Pow) Qki:=⟨fun H ρ st p q x y Q R j z h=>by
 unfold Qki at h
 split at h
 ·cases j; cases z
  split at h
  ·rename_i B;exact WO.of Qtb ⟨_,_,rfl,rfl,B,now R h rfl⟩
  ·exact h.elim
 ·exact h.elim⟩
theorem Qf1 {op:CmpOp} {g:Int->Int->Bool} (B:OpR X (aX op) (rI0 fun i j=>.bl (g i j))):OpS X E (aX op) (oI fun a b=>.bl (g a b)):=⟨fun H ρ st p q x y Q R z G h=>by
 unfold oI at h
 split at h
 ·cases z; cases G;exact WO.of B ⟨_,_,rfl,rfl,now R h rfl⟩
 ·exact h.elim⟩
theorem Qan:OpS X E (aX .LtE) (oI fun a b=>.bl (decide (a<=b))):=Qf1 Qw5
theorem Q7g:OpS X E (aX .Gt) (oI fun a b=>.bl (decide (b < a))):=Qf1 Qw6
theorem Qrm:OpS X E (aX .GtE) (oI fun a b=>.bl (decide (b<=a))):=Qf1 Qw7
def yy:List PV->Option (List Int)
 | []=>some []
 | .int i :: ps=>(yy ps).map (i :: ·)
 | _ :: _=>none
def Q5k:List PV->Option (List Bool)
 | []=>some []
 | .bl i :: ps=>(Q5k ps).map (i :: ·)
 | _ :: _=>none
theorem Qe1 (ns:List Int):yy (ns.map .int)=some ns:=by
 induction ns with
 | nil=>rfl
 | cons n ns j=>rw [F5,yy,j]; rfl
theorem Qr9 (ns:List Bool):Q5k (ns.map .bl)=some ns:=by
 induction ns with
 | nil=>rfl
 | cons n ns j=>rw [F5,Q5k,j]; rfl
theorem Q6c:∀ {ps:List PV} {ns:List Int},yy ps=some ns->ps=ns.map .int
 | [],ns,h=>by cases h; rfl
 | .int i :: ps,ns,h=>by
  rw [yy] at h;cases e:yy ps with
  | none=>rw [e] at h; cases h
  | some ms=>rw [e] at h; cases h; rw [Q6c e]; rfl
 | .non :: _,_,h | .bl _ :: _,_,h | .str _ :: _,_,h | .tup _ :: _,_,h | .lst _ :: _,_,h | .fro _ :: _,_,h | .ref _ :: _,_,h | .dic :: _,_,h=>by cases h
theorem Qn3:∀ {ps:List PV} {ns:List Bool},Q5k ps=some ns->ps=ns.map .bl
 | [],ns,h=>by cases h; rfl
 | .bl i :: ps,ns,h=>by
  rw [Q5k] at h;cases e:Q5k ps with
  | none=>rw [e] at h; cases h
  | some ms=>rw [e] at h; cases h; rw [Qn3 e]; rfl
 | .non :: _,_,h | .int _ :: _,_,h | .str _ :: _,_,h | .tup _ :: _,_,h | .lst _ :: _,_,h | .fro _ :: _,_,h | .ref _ :: _,_,h | .dic :: _,_,h=>by cases h
def oLt:OP:=fun st p q=>match p,q with
 | .int a,.int b=>.ok (.bl (decide (a < b))) st
 | .tup xs,.tup ys=>match yy xs,yy ys with
  | some ns,some ms=>.ok (.bl (HT.lexLt ns ms)) st
  | _,_=>.stuck
 | _,_=>.stuck
theorem Q3p (J:X.A.units + 64 < ae):OpS X E (aX .Lt) oLt:=⟨fun H ρ st p q x y Q R z I h=>by
 unfold oLt at h
 split at h
 ·cases z; cases I;exact WO.of Qw4 ⟨_,_,rfl,rfl,now R h rfl⟩
 ·split at h
  ·rename_i ns ms e1 e2;obtain ⟨a,vs,rfl,G,O,B⟩:=z;obtain ⟨b,us,rfl,j,U,rb⟩:=I;rw [Q6c e1] at B;rw [Q6c e2] at rb;rw [B.toInts] at G;rw [rb.toInts] at j;exact WO.of (Qte (by omega)) ⟨a,b,ns,ms,rfl,rfl,SqT.of G,SqT.of j,now R h rfl⟩
  ·exact h.elim
 ·exact h.elim⟩
def dep:Nat:=12
def oEq:OP:=fun st p q=>if Zv dep (der st p)=true/\Zv dep (der st q)=true then .ok (.bl (peq (der st p) (der st q))) st else .stuck
def oNe:OP:=fun st p q=>if Zv dep (der st p)=true/\Zv dep (der st q)=true then .ok (.bl (!peq (der st p) (der st q))) st else .stuck
theorem V6 (J:X.A.units + 64 < ae):OpS X E (aX .Eq) oEq:=⟨fun H ρ st p q x y Q R z G h=>by
 unfold oEq at h
 split at h
 ·rename_i g;intro pins s σ v u I B j;exact (Qgg dep I g.1 g.2 (by unfold dep; omega) (Q25 R g.1 z) B (Q25 R g.2 G) j).2.1 _ _ _ _ ⟨.bl _,H,I,rfl,now R h rfl⟩
 ·exact h.elim⟩
theorem Q3n (J:X.A.units + 64 < ae):OpS X E (aX .NotEq) oNe:=⟨fun H ρ st p q x y Q R z G h=>by
 unfold oNe at h
 split at h
 ·rename_i g;intro pins s σ v u I B j;exact (Qgg dep I g.1 g.2 (by unfold dep; omega) (Q25 R g.1 z) B (Q25 R g.2 G) j).2.2 _ _ _ _ ⟨.bl _,H,I,rfl,now R h rfl⟩
 ·exact h.elim⟩
def oIn (neg:Bool):OP:=fun st p q=>match Uj st q with
 | some xs=>if Zv dep (der st p)=true/\xs.all (Zv dep)=true then .ok (.bl ((xs.any fun y=>peq y (der st p)) != neg)) st else .stuck
 | none=>.stuck
open Classical in
theorem Qe2 {pins:List (aA × Obj)} {σ:St} {H:Hp} {ρ:Tk} {s:aC} {A:aR} {st:Q2} {p:PV} {xs:List PV} {x:V} {v:aB} {vs:List V} {its:List aB} (I:Inv X pins σ H s) (Z:A.units + dep < ae) (R:Rel H ρ st)
  (gp:Zv dep (der st p)=true) (gx:xs.all (Zv dep)=true) (rp:Rep H ρ p x) (rv:RelV x v) (Y:RepL H ρ xs vs) (U:Vals vs its):∃ e:aB->Bool,(∀ u,u∈its.toArray->SeqAt.EqAt A s u v (e u))/\its.toArray.any e=xs.any fun y=>peq y (der st p):=by
 have a2:∀ u∈its,∃ q∈xs,∃ y,Rep H Tk.nil q y/\RelV y u:=fun u Z=>by
  obtain ⟨j,hj,rfl⟩:=dg Z;have l1:=U.length;have l2:=Y.length;obtain ⟨y,e1,e2⟩:=(z8 gx Y).get (O7 (show j < xs.length by omega));obtain ⟨w,e3,e4⟩:=U.get e1;rw [O7 hj] at e3; cases e3;exact ⟨_,db _,y,e2,e4⟩
 refine ⟨fun u=>decide (∃ q∈xs,∃ y,Rep H Tk.nil q y/\RelV y u/\peq q (der st p)=true),fun u hm=>?_,?_⟩
 ·have a3:u∈its:=by simpa using hm
  by_cases z:∃ q∈xs,∃ y,Rep H Tk.nil q y/\RelV y u/\peq q (der st p)=true
  ·show SeqAt.EqAt A s u v (decide _);rw [bQ z];obtain ⟨q,B,y,O,G,e⟩:=z;have:=(Qgg dep I ((L5.mp gx) q B) gp Z O G (Q25 R gp rp) rv).1;rw [e] at this;exact this
  ·show SeqAt.EqAt A s u v (decide _);rw [bP z];obtain ⟨q,B,y,O,G⟩:=a2 u a3;have:=(Qgg dep I ((L5.mp gx) q B) gp Z O G (Q25 R gp rp) rv).1;cases e:peq q (der st p) with
   | true=>exact absurd ⟨q,B,y,O,G,e⟩ z
   | false=>rw [e] at this; exact this
 ·rw [dI,Array.any_eq_true,dJ];constructor
  ·rintro ⟨j,hj,e⟩;obtain ⟨q,B,y,O,G,e⟩:=of_decide_eq_true e;exact ⟨q,B,e⟩
  ·rintro ⟨q,B,e⟩;obtain ⟨j,hj,rfl⟩:=dg B;have l1:=U.length;have l2:=Y.length;have J:j < its.length:=by omega
   obtain ⟨y,e1,e2⟩:=(z8 gx Y).get (O7 hj);obtain ⟨w,e3,e4⟩:=U.get e1;refine ⟨j,by simpa using J,bQ ⟨_,B,y,e2,?_,e⟩⟩;rw [O7 J] at e3; cases e3;simpa using e4
theorem Q1b (Z:X.A.units + 64 < ae):OpS X E (aX .NotIn) (oIn true):=⟨fun H ρ st p q x y Q R G Y h=>by
 unfold oIn at h
 split at h
 ·rename_i xs es
  split at h
  ·rename_i g;obtain ⟨t,a,vs,rfl,B,J⟩:=Q4b (K:=X.K) R Y es;intro pins s σ v u I O U;cases U;rw [Bool.bne_true] at h;cases t with
   | true=>
    obtain ⟨its,r,pl,hz⟩:=I.tuple B;obtain ⟨e,z,j⟩:=Qe2 (A:=X.A.in1) I (by show X.A.units + 1 + dep < ae; unfold dep; omega) R g.1 g.2 G O J r;refine SeqAt.notIn_tupleAt e pl z ⟨.bl _,H,I,rfl,?_⟩;rw [j];exact now R h rfl
   | false=>
    obtain ⟨its,r,pl,hz⟩:=I.list B;obtain ⟨e,z,j⟩:=Qe2 (A:=X.A.in1) I (by show X.A.units + 1 + dep < ae; unfold dep; omega) R g.1 g.2 G O J r;refine SeqAt.notIn_listAt e pl.isList z ⟨.bl _,H,I,rfl,?_⟩;rw [j];exact now R h rfl
  ·exact h.elim
 ·exact h.elim⟩
end
section
variable {H:Hp} {ρ:Tk}
theorem RepL.atI {ps:List PV} {vs:List V} {i:Int} {p:PV} (r:RepL H ρ ps vs) (e:atI ps i=some p):∃ v,L2.atI vs i=some v/\Rep H ρ p v:=by
 unfold L2.atI at e ⊢;rw [<- r.length];cases q:ixN ps.length i with
 | none=>rw [q] at e; cases e
 | some j=>
  rw [q] at e;exact r.get e
def cut {α:Type} (xs:List α) (lo hi:Option Int):List α:=(xs.drop (HT.sIx xs.length 0 lo)).take (HT.sIx xs.length xs.length hi - HT.sIx xs.length 0 lo)
theorem RepL.cut {ps:List PV} {vs:List V} (r:RepL H ρ ps vs) (lo hi:Option Int):RepL H ρ (Sm.cut ps lo hi) (Qe7 vs lo hi):=by
 unfold Sm.cut Qe7;rw [<- r.length];exact (r.drop _).take _
end
section
variable {X:Cx} {E:XK} {pos:Pos} {a b:aD} {ma mb:ME}
def oIx:OP:=fun st p q=>match Uj st p,q with
 | some xs,.int i=>okO st (atI xs i)
 | _,_=>.stuck
theorem Qw (ha:SimE X E a ma) (hb:SimE X E b mb) (hs:Qh0 b:=by exact fun _ _=>rfl):SimE X E (.Subscript a b pos) (mOp oIx ma mb):=
 ⟨fun Γ σ H ρ st Q R G h=>WE.of (Qvz Qu3 Yv Yv hs) (ha.use R G h.bind fun p a2 H1 ρ1 v x1 Y O r1 h1=>hb.use Y O h1.bind fun q a3 H2 Z u x2 R2 G2 U h2=>by
  unfold oIx at h2
  split at h2
  ·rename_i xs i e;cases U;cases j:atI xs i with
   | none=>rw [j] at h2; exact h2.elim
   | some w=>
    rw [j] at h2;obtain ⟨t,b,vs,rfl,B,ra⟩:=Q4b (K:=X.K) R2 (r1.ext x2) e;obtain ⟨z,I,J⟩:=ra.atI j;cases t with
    | true=>exact .inr (.inl ⟨b,vs,i,z,rfl,rfl,B,I,now R2 h2 J⟩)
    | false=>exact .inl ⟨b,vs,i,z,rfl,rfl,B,I,now R2 h2 J⟩
  ·exact h2.elim)⟩
structure SimO (X:Cx) (E:XK) (o:Option aD) (m:Gam->Q2->Res (Option Int)):Prop where
 run:∀ (Γ:Gam) (σ:St) (H:Hp) (ρ:Tk) (st:Q2) (P:Option Int->Q2->Hp->Tk->Prop) (Q:Option Int->Hp->Prop),Rel H ρ st->EnvR H ρ Γ σ->Acc X.mg E H ρ P (m Γ st) ->
  (∀ i st1 H1 ρ1,Ext H ρ H1 ρ1->Rel H1 ρ1 st1->EnvR H1 ρ1 Γ σ->P i st1 H1 ρ1->Q i H1)->∃ t,PO X o t/\t σ H Q
def W9:Gam->Q2->Res (Option Int):=fun _ st=>.ok none st
def Ut (m:ME):Gam->Q2->Res (Option Int):=fun Γ st=>(m Γ st).bind fun p st1=>match p with
 | .int i=>.ok (some i) st1
 | _=>.stuck
theorem X0:SimO X E none W9:=⟨fun Γ σ H ρ st P Q R G h k=>⟨_,Qpe,k none st H ρ (Ext.refl _ _) R G (h H ρ (Ext.refl _ _) R)⟩⟩
theorem Vx (J:SimE X E a ma):SimO X E (some a) (Ut ma):=⟨fun Γ σ H ρ st P Q R G h k=>⟨_,Qpd Yv,J.use R G h.bind fun p j H1 ρ1 v I q B z h1=>by
 cases p with
 | int i=>exact ⟨i,z,k (some i) j H1 ρ1 I q B (h1 H1 ρ1 (Ext.refl _ _) q)⟩
 | _=>exact h1.elim⟩⟩
def oSl (st:Q2) (p:PV) (lo hi:Option Int):Res PV:=match p with
 | .tup xs=>.ok (.tup (cut xs lo hi)) st
 | p=>match yx st p with
  | some xs=>.ok (.lst (cut xs lo hi)) st
  | none=>.stuck
def mSl (ma:ME) (ml mh:Gam->Q2->Res (Option Int)):ME:=fun Γ st=>(ma Γ st).bind fun p st1=>(ml Γ st1).bind fun lo st2=>(mh Γ st2).bind fun hi st3=>oSl st3 p lo hi
def TO.w (X:Cx) (o:Option aD):TO:=fun σ H Q=>∃ t,PO X o t/\t σ H Q
theorem Qvu {o:Option aD}:PO X o (TO.w X o):=fun pins s σ H Q I ⟨t,h,q⟩=>h pins s σ H Q I q
theorem Wx {lo hi:Option aD} {Y Z:Gam->Q2->Res (Option Int)} {p2:Pos} (q:SimE X E a ma) (hl:SimO X E lo Y) (hh:SimO X E hi Z):SimE X E (.Subscript a (.Slice lo hi none p2) pos) (mSl ma Y Z):=
 ⟨fun Γ σ H ρ st Q R G h=>WE.of (Qk6 (sl_tup.or (sl_whole.or Qnt)) Yv Qvu Qvu) (q.use R G h.bind fun p O H1 ρ1 v x1 R1 G1 r1 h1=>by
  refine hl.run Γ σ H1 ρ1 O _ _ R1 G1 h1.bind fun l U H2 J x2 R2 G2 h2=>?_
  refine hh.run Γ σ H2 J U _ _ R2 G2 h2.bind fun u a3 H3 a2 x3 B G3 j=>?_
  have r3:=r1.ext (x2.trans x3);unfold oSl at j
  split at j
  ·rename_i xs;obtain ⟨a,vs,rfl,q,na,z⟩:=r3
   by_cases I:HT.sIx vs.length 0 l=0/\HT.sIx vs.length vs.length u=vs.length
   ·refine .inr (.inl ⟨a,vs,rfl,SqT.of q,I,?_⟩);have e:cut xs l u=xs:=by
     unfold cut;rw [z.length,I.1,I.2,dj,gW,<- z.length,fD]
    rw [e] at j;exact now B j ⟨a,vs,rfl,q,na,z⟩
   ·exact .inl ⟨a,vs,rfl,SqT.of q,I,Q3u B j (z.cut l u)⟩
  ·split at j
   ·rename_i xs e;obtain ⟨a,vs,rfl,q,z⟩:=Q6b B r3 e;exact .inr (.inr ⟨a,vs,rfl,.inl q,Q6a B j (z.cut l u)⟩)
   ·exact j.elim)⟩
variable {es:List aD} {e:aD} {mr:Gam->Q2->Res (List PV)}
def Jc (o:CF) (mr:Gam->Q2->Res (List PV)):ME:=fun Γ st=>(mr Γ st).bind fun ps st1=>o st1 ps
theorem CallS.use {f:aB} {o:CF} (s:CallS X E f o) {P:PV->Q2->Hp->Tk->Prop} {Q:VK} {H:Hp} {ρ:Tk} {st:Q2} {ps:List PV} {xs:List V} (R:Rel H ρ st) (B:RepL H ρ ps xs) (h:Acc X.mg E H ρ P (o st ps))
  (k:∀ p j H1 ρ1 v,Ext H ρ H1 ρ1->Rel H1 ρ1 j->Rep H1 ρ1 p v->P p j H1 ρ1->Q v H1):WC X f xs H Q:=by
 refine s.run H ρ st ps xs Q R B ?_;cases r:o st ps with
 | ok p j=>rw [r] at h; exact fun H' ρ' z q v G=>k p j H' ρ' v z q G (h H' ρ' z q)
 | exc e st=>rw [r] at h; exact h
 | stuck=>rw [r] at h; exact h
theorem Qt {id:String} {x:Str} {p:Pos} {o:CF} (hc:CallS X E (.builtin id) o) (B:Gl X x) (J:X.mg x=none) (U:ac x=some (.builtin id)) (ha:SimA X E (e :: es) mr) (O:x≠"__name__" := by decide) (j:(x == ("__debug__" : Str))=false:=by decide)
  (Z:aP (e :: es) X.env=(false,aN e X.env) :: aP es X.env:=by rfl) (z:(aW pos (aP es X.env)).any (·.1)=false:=by rfl):SimE X E (.Call (.Name x p) (e :: es) [] pos) (Jc o mr):=
 ⟨fun Γ σ H ρ st Q R G h=>WE.of (Qda Qmq B J U Q3m O j Z z) (ha.use R G h.bind fun ps a2 H1 ρ1 vs x1 I G1 Y h1=>hc.use I Y h1 fun _ _ _ _ v _ _ r q=>q v r)⟩
theorem ju {T:String} {x:Str} {p:Pos} {o:CF} (hc:CallS X E (.type T) o) (B:Gl X x) (J:X.mg x=none) (U:ac x=some (.type T)) (ha:SimA X E (e :: es) mr) (O:x≠"__name__" := by decide) (j:(x == ("__debug__" : Str))=false:=by decide)
  (Z:aP (e :: es) X.env=(false,aN e X.env) :: aP es X.env:=by rfl) (z:(aW pos (aP es X.env)).any (·.1)=false:=by rfl):SimE X E (.Call (.Name x p) (e :: es) [] pos) (Jc o mr):=
 ⟨fun Γ σ H ρ st Q R G h=>WE.of (Qak Qmq B J U Q3m O j Z z) (ha.use R G h.bind fun ps a2 H1 ρ1 vs x1 I G1 Y h1=>hc.use I Y h1 fun _ _ _ _ v _ _ r q=>q v r)⟩
theorem V0 {H:Hp} {ρ:Tk} {p:PV} {xs:List V} (r:RepL H ρ [p] xs):∃ v,xs=[v]/\Rep H ρ p v:=by
 obtain ⟨v,t,rfl,h1,h2⟩:=r;cases h2;exact ⟨v,rfl,h1⟩
theorem Q3i {H:Hp} {ρ:Tk} {p q:PV} {xs:List V} (r:RepL H ρ [p,q] xs):∃ v u,xs=[v,u]/\Rep H ρ p v/\Rep H ρ q u:=by
 obtain ⟨v,t,rfl,h1,h2⟩:=r;obtain ⟨u,rfl,j⟩:=V0 h2;exact ⟨v,u,rfl,h1,j⟩
def Yr:CF:=fun st ps=>match ps with
 | [p]=>match Uj st p with
  | some xs=>.ok (.int xs.length) st
  | none=>match p with
   | .str x=>if x.length<=lim then .ok (.int x.length) st else .stuck
   | _=>.stuck
 | _=>.stuck
theorem Yi:CallS X E (.builtin "len") Yr:=⟨fun H ρ st ps xs Q R j h=>by
 unfold Yr at h
 split at h
 ·rename_i p;obtain ⟨v,rfl,r⟩:=V0 j
  split at h
  ·rename_i ys e;obtain ⟨t,a,vs,rfl,z,q⟩:=Q4b (K:=X.K) R r e;rw [q.length] at h;exact WC.of Qce ⟨a,vs,rfl,Qjf z,now R h rfl⟩
  ·split at h
   ·cases r
    split at h
    ·rename_i B;exact WC.of Qcd ⟨_,rfl,Kj B,now R h rfl⟩
    ·exact h.elim
   ·exact h.elim
 ·exact h.elim⟩
def K2 (g:List Int->Option PV):CF:=fun st ps=>match ps with
 | [p]=>match (Uj st p).bind yy with
  | some ns=>okO st (g ns)
  | none=>.stuck
 | _=>.stuck
def Q2i (g:List Bool->PV):CF:=fun st ps=>match ps with
 | [p]=>match (Uj st p).bind Q5k with
  | some ns=>.ok (g ns) st
  | none=>.stuck
 | _=>.stuck
theorem Q8e {K:bS} {H:Hp} {ρ:Tk} {st:Q2} {p:PV} {v:V} {ns:List Int} (R:Rel H ρ st) (r:Rep H ρ p v) (e:(Uj st p).bind yy=some ns):∃ (t:Bool) (a:aA),v=.ref a/\SqK K t H a (ns.map V.int):=by
 cases q:Uj st p with
 | none=>rw [q] at e; cases e
 | some xs=>
  rw [q] at e;obtain ⟨t,a,vs,rfl,z,j⟩:=Q4b (K:=K) R r q;rw [Q6c e] at j;rw [j.toInts] at z;exact ⟨t,a,rfl,z⟩
theorem Qgs {K:bS} {H:Hp} {ρ:Tk} {st:Q2} {p:PV} {v:V} {ns:List Bool} (R:Rel H ρ st) (r:Rep H ρ p v) (e:(Uj st p).bind Q5k=some ns):∃ (t:Bool) (a:aA),v=.ref a/\SqK K t H a (ns.map V.bl):=by
 cases q:Uj st p with
 | none=>rw [q] at e; cases e
 | some xs=>
  rw [q] at e;obtain ⟨t,a,vs,rfl,z,j⟩:=Q4b (K:=K) R r q;rw [Qn3 e] at j;rw [j.toBls] at z;exact ⟨t,a,rfl,z⟩
theorem Q8r (z:X.calm=true):CallS X E (.builtin "sum") (K2 fun ns=>some (.int ns.sum)):=⟨fun H ρ st ps xs Q R j h=>by
 unfold K2 at h
 split at h
 ·obtain ⟨v,rfl,r⟩:=V0 j
  split at h
  ·rename_i ns e;obtain ⟨t,a,rfl,q⟩:=Q8e (K:=X.K) R r e;exact WC.of (Qmr t z) ⟨a,ns,rfl,q,now R h rfl⟩
  ·exact h.elim
 ·exact h.elim⟩
theorem Q8s (z:X.calm=true):CallS X E (.builtin "all") (Q2i fun ns=>.bl (ns.all id)):=⟨fun H ρ st ps xs Q R j h=>by
 unfold Q2i at h
 split at h
 ·obtain ⟨v,rfl,r⟩:=V0 j
  split at h
  ·rename_i ns e;obtain ⟨t,a,rfl,q⟩:=Qgs (K:=X.K) R r e;exact WC.of (Qmt t z) ⟨a,ns,rfl,q,now R h rfl⟩
  ·exact h.elim
 ·exact h.elim⟩
theorem Qmk (z:X.calm=true):CallS X E (.builtin "any") (Q2i fun ns=>.bl (ns.any id)):=⟨fun H ρ st ps xs Q R j h=>by
 unfold Q2i at h
 split at h
 ·obtain ⟨v,rfl,r⟩:=V0 j
  split at h
  ·rename_i ns e;obtain ⟨t,a,rfl,q⟩:=Qgs (K:=X.K) R r e;exact WC.of (Qms t z) ⟨a,ns,rfl,q,now R h rfl⟩
  ·exact h.elim
 ·exact h.elim⟩
def maxI:List Int->Option Int
 | []=>none
 | n :: ns=>some (ns.foldl (fun a b=>if b > a then b else a) n)
def Qz6:List Int->Option Int
 | []=>none
 | n :: ns=>some (ns.foldl (fun a b=>if b < a then b else a) n)
theorem Qb1:∀ (ns:List Int) (n:Int),(ns.foldl (fun a b=>if b > a then b else a) n=n\/ns.foldl (fun a b=>if b > a then b else a) n∈ns)/\n<=ns.foldl (fun a b=>if b > a then b else a) n/\∀ k∈ns,k<=ns.foldl (fun a b=>if b > a then b else a) n
 | [],n=>⟨.inl rfl,bg _,fun k h=>by cases h⟩
 | m :: ns,n=>by
  obtain ⟨h1,h2,z⟩:=Qb1 ns (if m > n then m else n);rw [cu];refine ⟨?_,?_,fun k q=>?_⟩
  ·rcases h1 with e | e
   ·by_cases j:m > n
    ·rw [bN j] at e ⊢; exact .inr (by rw [e]; exact D3)
    ·rw [bO j] at e ⊢; exact .inl e
   ·exact .inr (D0 _ e)
  ·by_cases j:m > n
   ·rw [bN j] at h2 ⊢; omega
   ·rw [bO j] at h2 ⊢; exact h2
  ·rcases D8.mp q with rfl | q
   ·by_cases j:k > n
    ·rw [bN j] at h2 ⊢; exact h2
    ·rw [bO j] at h2 ⊢; omega
   ·exact z k q
theorem Qb0:∀ (ns:List Int) (n:Int),(ns.foldl (fun a b=>if b < a then b else a) n=n\/ns.foldl (fun a b=>if b < a then b else a) n∈ns)/\ns.foldl (fun a b=>if b < a then b else a) n<=n/\∀ k∈ns,ns.foldl (fun a b=>if b < a then b else a) n<=k
 | [],n=>⟨.inl rfl,bg _,fun k h=>by cases h⟩
 | m :: ns,n=>by
  obtain ⟨h1,h2,z⟩:=Qb0 ns (if m < n then m else n);rw [cu];refine ⟨?_,?_,fun k q=>?_⟩
  ·rcases h1 with e | e
   ·by_cases j:m < n
    ·rw [bN j] at e ⊢; exact .inr (by rw [e]; exact D3)
    ·rw [bO j] at e ⊢; exact .inl e
   ·exact .inr (D0 _ e)
  ·by_cases j:m < n
   ·rw [bN j] at h2 ⊢; omega
   ·rw [bO j] at h2 ⊢; exact h2
  ·rcases D8.mp q with rfl | q
   ·by_cases j:k < n
    ·rw [bN j] at h2 ⊢; exact h2
    ·rw [bO j] at h2 ⊢; omega
   ·exact z k q
def Qa5:CF:=fun st ps=>match ps with
 | [.int a,.int b]=>.ok (.int (if b > a then b else a)) st
 | ps=>K2 (fun ns=>(maxI ns).map .int) st ps
def Qmx:CF:=fun st ps=>match ps with
 | [.int a,.int b]=>.ok (.int (if b < a then b else a)) st
 | ps=>K2 (fun ns=>(Qz6 ns).map .int) st ps
theorem Qcb (B:X.calm=true):CallS X E (.builtin "max") Qa5:=⟨fun H ρ st ps xs Q R z h=>by
 unfold Qa5 at h
 split at h
 ·obtain ⟨v,u,rfl,O,U⟩:=Q3i z;cases O; cases U;exact WC.of (Qim B) ⟨_,_,rfl,now R h rfl⟩
 ·unfold K2 at h
  split at h
  ·obtain ⟨v,rfl,r⟩:=V0 z
   split at h
   ·rename_i ns e;cases ns with
    | nil=>exact h.elim
    | cons n ns=>
     obtain ⟨t,a,rfl,G⟩:=Q8e (K:=X.K) R r e;refine WC.of (Qik t B) ⟨a,_,rfl,G,by simp,fun m j q=>?_⟩;have J:m=ns.foldl (fun a b=>if b > a then b else a) n:=by
      obtain ⟨h1,h2,I⟩:=Qb1 ns n;have Y:ns.foldl (fun a b=>if b > a then b else a) n<=m:=by
       rcases h1 with e | e
       ·rw [e]; exact q _ D3
       ·exact q _ (D0 _ e)
      have g2:m<=ns.foldl (fun a b=>if b > a then b else a) n:=by
       rcases D8.mp j with rfl | j
       ·exact h2
       ·exact I m j
      omega
     subst J;exact now R h rfl
   ·exact h.elim
  ·exact h.elim⟩
theorem Qu9 (B:X.calm=true):CallS X E (.builtin "min") Qmx:=⟨fun H ρ st ps xs Q R z h=>by
 unfold Qmx at h
 split at h
 ·obtain ⟨v,u,rfl,O,U⟩:=Q3i z;cases O; cases U;exact WC.of (Qij B) ⟨_,_,rfl,now R h rfl⟩
 ·unfold K2 at h
  split at h
  ·obtain ⟨v,rfl,r⟩:=V0 z
   split at h
   ·rename_i ns e;cases ns with
    | nil=>exact h.elim
    | cons n ns=>
     obtain ⟨t,a,rfl,G⟩:=Q8e (K:=X.K) R r e;refine WC.of (Qii t B) ⟨a,_,rfl,G,by simp,fun m j q=>?_⟩;have J:m=ns.foldl (fun a b=>if b < a then b else a) n:=by
      obtain ⟨h1,h2,I⟩:=Qb0 ns n;have Y:m<=ns.foldl (fun a b=>if b < a then b else a) n:=by
       rcases h1 with e | e
       ·rw [e]; exact q _ D3
       ·exact q _ (D0 _ e)
      have g2:ns.foldl (fun a b=>if b < a then b else a) n<=m:=by
       rcases D8.mp j with rfl | j
       ·exact h2
       ·exact I m j
      omega
     subst J;exact now R h rfl
   ·exact h.elim
  ·exact h.elim⟩
def X8:CF:=fun st ps=>match ps with
 | [p]=>match Uj st p with
  | some xs=>.ok (.tup xs) st
  | none=>.stuck
 | _=>.stuck
theorem xt:CallS X E (.type "tuple") X8:=⟨fun H ρ st ps xs Q R z h=>by
 unfold X8 at h
 split at h
 ·rename_i p;obtain ⟨v,rfl,r⟩:=V0 z
  split at h
  ·rename_i ys e;cases p with
   | tup zs=>
    cases e;obtain ⟨a,vs,rfl,j,B,q⟩:=r;exact WC.of Q2p ⟨a,vs,rfl,.inr ⟨SqT.of j,now R h ⟨a,vs,rfl,j,B,q⟩⟩⟩
   | _=>
    obtain ⟨a,vs,rfl,j,q⟩:=Q6b R r e;exact WC.of Q2p ⟨a,vs,rfl,.inl ⟨.inl j,Q3u R h q⟩⟩
  ·exact h.elim
 ·exact h.elim⟩
def tyN:PV->String
 | .non => "NoneType"
 | .bl _ => "bool"
 | .int _ => "int"
 | .str _ => "str"
 | .tup _ => "tuple"
 | .lst _ => "list"
 | .fro _ => "list"
 | .ref _ => "list"
 | .dic => "dict"
def dpv (st:Q2):PV->PV
 | .ref i=>match st[i]? with
  | some (.dic _)=>.dic
  | some (.dtp _)=>.dic
  | _=>.ref i
 | p=>p
def isI (T:String) (p:PV):Bool:=tyN p == T || (T == "int" && tyN p == "bool")
def Q36 (st:Q2):PV->Bool
 | .ref i=>match st[i]? with
  | some (.frd _)=>true
  | some (.obj _ _)=>true
  | _=>false
 | _=>false
theorem Qv2 {K:bS} {H:Hp} {ρ:Tk} {st:Q2} {p:PV} {v:V} (z:Q36 st p=false) (R:Rel H ρ st) (r:Rep H ρ p v):TyOf K H v (.type (tyN (dpv st p))):=by
 cases p with
 | non=>cases r; exact .non
 | bl b=>cases r; exact .bl b
 | int i=>cases r; exact .int i
 | str x=>cases r; exact .str x
 | tup ps=>obtain ⟨a,vs,rfl,h,_⟩:=r; exact .tup h
 | lst ps=>obtain ⟨a,vs,rfl,h,_⟩:=r; exact .lst h
 | fro ps=>
  obtain ⟨a,vs,rfl,h,_⟩:=r;rcases h with h | ⟨o,h⟩
  ·exact .lst h
  ·exact .frz h
 | ref i=>
  obtain ⟨a,e,rfl⟩:=r;have B:i < st.length:=by rw [<- R.len]; exact (O0.mp e).1
  have hs:=O7 B;have q:=R.cell i a st[i] e hs;cases j:st[i] with
  | lst xs=>rw [j] at q hs; simp only [dpv,hs]; obtain ⟨vs,h,_⟩:=q; exact .lst h
  | dic xs=>rw [j] at q hs; simp only [dpv,hs]; obtain ⟨vs,h,_⟩:=q; exact .dK h
  | dtp xs=>rw [j] at q hs; simp only [dpv,hs]; obtain ⟨vs,h,_⟩:=q; exact .dT h
  | frd xs=>rw [j] at hs; simp only [Q36,hs] at z; cases z
  | obj C xs=>rw [j] at hs; simp only [Q36,hs] at z; cases z
 | dic=>obtain ⟨a,rfl,h,_⟩:=r; exact .dK h
def Q8b:List String:=["int", "bool", "str", "tuple", "list", "dict"]
theorem Qtx (K:bS) {T:String} (j:T∈Q8b) (p:PV):eQ K (.type (tyN p)) (.type T)=some (isI T p):=by
 have j:T = "int" \/ T = "bool" \/ T = "str" \/ T = "tuple" \/ T = "list" \/ T = "dict" := by simpa [Q8b] using j
 rcases j with rfl | rfl | rfl | rfl | rfl | rfl <;> cases p <;> first | rfl | kernel_rfl
def Qds (T:String) (m:ME):ME:=fun Γ st=>(m Γ st).bind fun p st1=>if Q36 st1 p=true then .stuck else .ok (.bl (isI T (dpv st1 p))) st1
theorem Q4d {T:String} {tx:Str} {a:aD} {ma:ME} {p tp:Pos} (hT:T∈Q8b) (ha:SimE X E a ma) (hg:Gl X "isinstance") (hm:X.mg "isinstance" = none) (J:Gl X tx) (B:X.mg tx=none) (I:ac tx=some (.type T))
  (hn:tx≠"__name__" := by decide) (hd:(tx == ("__debug__" : Str))=false:=by decide)
  (Y:aP [a,.Name tx tp] X.env=(false,aN a X.env) :: aP [.Name tx tp] X.env:=by rfl) (z:aP [.Name tx tp] X.env=(false,aN (.Name tx tp) X.env) :: aP [] X.env:=by rfl) (O:(aW pos (aP [.Name tx tp] X.env)).any (·.1)=false:=by rfl) :
  SimE X E (.Call (.Name "isinstance" p) [a,.Name tx tp] [] pos) (Qds T ma):=
 ⟨fun Γ σ H ρ st Q R G h=>WE.of (Qda Qea hg hm Q64 (zw Yv (zw (Qpr J B I (v:=.ty T) rfl hn hd) Q4p z) Y) (by decide) (by decide) Y O)
  (ha.use R G h.bind fun q j H1 ρ1 v x1 Z G1 r1 h1=>by
   by_cases U:Q36 j q=true
   ·rw [bN U] at h1; exact h1.elim
   ·rw [bO U] at h1;exact ⟨v,.ty T,.type T,_,_,rfl,rfl,Qv2 (by simpa using U) Z r1,Qtx X.K hT (dpv j q),now Z h1 rfl⟩)⟩
end
abbrev GA:=PV->Gam->Option Gam
abbrev GAs:=List PV->Gam->Option Gam
structure SimG (X:Cx) (tg:aD) (ga:GA):Prop where
 run:∀ (Γ Γ':Gam) (σ:St) (H:Hp) (ρ:Tk) (p:PV) (v:V) (Q:St->Hp->Prop),EnvR H ρ Γ σ->Rep H ρ p v->ga p Γ=some Γ'->(∀ σ',EnvR H ρ Γ' σ'->Q σ' H)->∃ t,PG X tg t/\t v σ H Q
structure SimGs (X:Cx) (tgs:List aD) (n:Nat) (ga:GAs):Prop where
 run:∀ (Γ Γ':Gam) (σ:St) (H:Hp) (ρ:Tk) (ps:List PV) (vs:List V) (Q:St->Hp->Prop),EnvR H ρ Γ σ->RepL H ρ ps vs->ga ps Γ=some Γ'->(∀ σ',EnvR H ρ Γ' σ'->Q σ' H)->∃ t,PGs X tgs t/\t vs σ H Q
 len:∀ ps Γ Γ',ga ps Γ=some Γ'->ps.length=n
def Qn (i:Nat):GA:=fun p Γ=>some (Γ.set i (some p))
def y6:GAs:=fun ps Γ=>match ps with
 | []=>some Γ
 | _=>none
def W5 (g:GA) (gs:GAs):GAs:=fun ps Γ=>match ps with
 | p :: r=>(g p Γ).bind (gs r)
 | []=>none
def y4 (gs:GAs):GA:=fun p Γ=>match p with
 | .tup ps=>gs ps Γ
 | _=>none
section
variable {X:Cx} {pos:Pos}
theorem Qy {i:Nat} {x:Str} (z:X.N.Nodup) (hi:X.N[i]?=some x:=by rfl) (B:Loc X.env.scope x:=by first | exact Or.inl rfl | exact Or.inr rfl) (j:X.fn x=true\/X.env.scope.names.lookup x=some .local:=by first | exact .inl rfl | exact .inr rfl):SimG X (.Name x pos) (Qn i):=
 ⟨fun Γ q σ H ρ p v Q G r e k=>⟨_,Qpi z hi B j,by cases e; exact k _ (G.set r i)⟩⟩
theorem Q1y:SimGs X [] 0 y6:=⟨fun Γ j σ H ρ ps vs Q G r e k=>⟨_,Qpg,by
 cases ps with
 | nil=>cases e; cases r; exact ⟨rfl,k σ G⟩
 | cons _ _=>cases e⟩,fun ps Γ j e=>by
 cases ps with
 | nil=>rfl
 | cons _ _=>cases e⟩
def WGx (X:Cx) (tg:aD):TG:=fun v σ H Q=>∃ t,PG X tg t/\t v σ H Q
theorem Qph {tg:aD}:PG X tg (WGx X tg):=fun pins s σ H v u Q I r ⟨t,h,q⟩=>h pins s σ H v u Q I r q
def Qzi (X:Cx) (tgs:List aD):TGs:=fun v σ H Q=>∃ t,PGs X tgs t/\t v σ H Q
theorem Qrk {j:List aD}:PGs X j (Qzi X j):=fun pins s σ H v u Q I r ⟨t,h,q⟩=>h pins s σ H v u Q I r q
theorem Vd {e:aD} {es:List aD} {g:GA} {gs:GAs} {n:Nat} (h1:SimG X e g) (h2:SimGs X es n gs) (hs:(aq (e :: es) X.env).map (·.2)=assign e X.env :: (aq es X.env).map (·.2):=by rfl):SimGs X (e :: es) (n + 1) (W5 g gs):=
 ⟨fun Γ j σ H ρ ps vs Q G r eq k=>⟨_,Qk3 Qph Qrk hs,by
  cases ps with
  | nil=>cases eq
  | cons p ps=>
   obtain ⟨v,t,rfl,z,I⟩:=r;have eq:(g p Γ).bind (gs ps)=some j:=eq;cases e1:g p Γ with
   | none=>rw [e1] at eq; cases eq
   | some Γ1=>
    rw [e1] at eq;exact ⟨v,t,rfl,h1.run Γ Γ1 σ H ρ p v _ G z e1 fun q B=>h2.run Γ1 j q H ρ ps t _ B I eq k⟩⟩,fun ps Γ j e=>by
  cases ps with
  | nil=>cases e
  | cons p ps=>
   have e:(g p Γ).bind (gs ps)=some j:=e;cases e1:g p Γ with
   | none=>rw [e1] at e; cases e
   | some Γ1=>rw [e1] at e; rw [E3,h2.len ps Γ1 j e]⟩
theorem Q4a {es:List aD} {k n:Nat} {gs:GAs} (J:X.calm=true) (h:SimGs X es n gs) (I:(aq es X.env).length=n:=by rfl) (z:(aq es X.env).findIdx? (·.1)=none:=by rfl):SimG X (.Tuple es k pos) (y4 gs):=
 ⟨fun Γ j σ H ρ p v Q G r e q=>⟨_,Qsy J Qrk I z,by
  cases p with
  | tup ps=>
   obtain ⟨a,vs,rfl,O,U,B⟩:=r;exact ⟨a,vs,rfl,SqT.of O,by rw [<- B.length]; exact h.len ps Γ j e,h.run Γ j σ H ρ ps vs Q G B e q⟩
  | _=>cases e⟩⟩
end
abbrev Wt:=List (Nat × Cell)
def wOk (w:Wt) (st:Q2):Prop:=∀ x∈w,st[x.1]?=some x.2
theorem Q1w (st:Q2):wOk [] st:=fun x h=>by cases h
structure Src (J:It) (items:List PV) (w:Wt) (H:Hp) (ρ:Tk):Prop where
 stop:∀ H2 ρ2 st2,Ext H ρ H2 ρ2->Rel H2 ρ2 st2->wOk w st2->J.stop items.length H2
 go:∀ H2 ρ2 st2,Ext H ρ H2 ρ2->Rel H2 ρ2 st2->wOk w st2->∀ i,i < items.length->J.go i H2
 yld:∀ H2 ρ2 st2,Ext H ρ H2 ρ2->Rel H2 ρ2 st2->wOk w st2->∀ i p,items[i]?=some p->∀ x H3,J.yld i H2 x H3->Same H2 H3/\Rep H3 ρ2 p x
abbrev MI:=Gam->Q2->Res (List PV × Wt)
structure SimI (X:Cx) (E:XK) (tg iter:aD) (mi:MI):Prop where
 run:∀ (Γ:Gam) (σ:St) (H:Hp) (ρ:Tk) (st:Q2) (P:List PV × Wt->Q2->Hp->Tk->Prop) (R':It->Hp->Prop),Rel H ρ st->EnvR H ρ Γ σ->Acc X.mg E H ρ P (mi Γ st) ->
  (∀ iw st1 H1 ρ1 J,mi Γ st=.ok iw st1->Ext H ρ H1 ρ1->Rel H1 ρ1 st1->EnvR H1 ρ1 Γ σ->wOk iw.2 st1->iw.1.length<=sizeLine->Src J iw.1 iw.2 H1 ρ1->P iw st1 H1 ρ1->R' J H1)->WI X tg iter σ H R'
def Xb (st:Q2):PV->Option (List PV × Wt)
 | .tup xs=>some (xs,[])
 | .lst xs=>some (xs,[])
 | .fro xs=>some (xs,[])
 | .ref i=>match st[i]? with
  | some (.lst xs)=>some (xs,[(i,.lst xs)])
  | _=>none
 | _=>none
theorem Qbg {K:bS} {H:Hp} {ρ:Tk} {st:Q2} {p:PV} {v:V} {xs:List PV} {w:Wt} (R:Rel H ρ st) (r:Rep H ρ p v) (e:Xb st p=some (xs,w)) :
  wOk w st/\∃ (t:Bool) (a:aA),v=.ref a/\(t=true->∃ ys,p=.tup ys)/\(t=false->∀ ys,p≠.tup ys)/\∀ H2 j q,Ext H ρ H2 j->Rel H2 j q->wOk w q->∃ vs,SqK K t H2 a vs/\RepL H2 j xs vs:=by
 cases p with
 | tup ys=>
  obtain ⟨a,vs,rfl,B,G,I⟩:=r;cases e;exact ⟨Q1w _,true,a,rfl,fun _=>⟨_,rfl⟩,(fun z=>by cases z),fun H2 j q x R2 _=>⟨vs,show SqT K H2 a vs from SqT.of (x.kp B G),I.ext x⟩⟩
 | lst ys=>
  obtain ⟨a,vs,rfl,B,G,I⟩:=r;cases e;exact ⟨Q1w _,false,a,rfl,(fun z=>by cases z),(fun _ _ z=>by cases z),fun H2 j q x R2 _=>⟨vs,show SqL K H2 a vs from SqL.of (x.kp B G),I.ext x⟩⟩
 | fro ys=>
  obtain ⟨a,vs,rfl,B,G,I⟩:=r;cases e;refine ⟨Q1w _,false,a,rfl,(fun z=>by cases z),(fun _ _ z=>by cases z),fun H2 j q x R2 _=>⟨vs,show SqL K H2 a vs from ?_,I.ext x⟩⟩
  rcases B with B | ⟨o,B⟩
  ·exact .inl (.inl (x.kp B G))
  ·exact .inl (.inr ⟨o,x.kp B G⟩)
 | ref i=>
  obtain ⟨a,U,rfl⟩:=r;simp only [Xb] at e
  split at e
  ·rename_i ys hs;cases e;refine ⟨fun x hx=>?_,false,a,rfl,(fun z=>by cases z),(fun _ _ z=>by cases z),fun H2 j q x R2 ok=>?_⟩
   ·have:x=(i,.lst xs):=by simpa using hx
    subst this; exact hs
   ·have J:=ok (i,.lst xs) (by simp);obtain ⟨b,vs,O,f2,Y⟩:=R2.lst J;obtain ⟨t,Z⟩:=x.pre;rw [<- Z,O5 (O0.mp U).1,U] at O;cases O;exact ⟨vs,show SqL K H2 a vs from SqL.of f2,Y⟩
  ·cases e
 | _=>cases e
section
variable {X:Cx} {E:XK} {pos:Pos} {tg:aD} {e:aD} {m:ME}
def Q0n (m:ME):MI:=fun Γ st=>(m Γ st).bind fun p st1=>match Xb st1 p with
 | some (xs,w)=>if xs.length<=lim then .ok (xs,w) st1 else .stuck
 | none=>.stuck
theorem RepL.i {H:Hp} {ρ:Tk} {ps:List PV} {vs:List V} {i:Nat} {p:PV} {x:V} (r:RepL H ρ ps vs) (h:ps[i]?=some p) (h':vs[i]?=some x):Rep H ρ p x:=by
 obtain ⟨v,e,q⟩:=r.get h;rw [h'] at e; cases e;exact q
theorem Qft {K:bS} {H:Hp} {ρ:Tk} {t:Bool} {a:aA} {xs:List PV} {w:Wt} (h:∀ H2 j q,Ext H ρ H2 j->Rel H2 j q->wOk w q->∃ vs,SqK K t H2 a vs/\RepL H2 j xs vs):Src (if t=true then Itt K a else Itl K a) xs w H ρ:=by
 cases t with
 | true=>
  rw [bN rfl];refine ⟨fun H2 j q x R ok=>?_,fun H2 j q x R ok i hi=>?_,fun H2 j q x R ok i p hp y I B=>?_⟩
  ·obtain ⟨vs,s,r⟩:=h H2 j q x R ok;exact ⟨vs,s,by rw [r.length]; exact O8 _⟩
  ·obtain ⟨vs,s,r⟩:=h H2 j q x R ok;have z:i < vs.length:=by rw [<- r.length]; exact hi
   exact ⟨vs,vs[i],s,O7 z⟩
  ·obtain ⟨vs,s,r⟩:=h H2 j q x R ok;obtain ⟨rfl,G⟩:=B;exact ⟨Same.refl _,r.i hp (G vs s)⟩
 | false=>
  rw [bO E2];refine ⟨fun H2 j q x R ok=>?_,fun H2 j q x R ok i hi=>?_,fun H2 j q x R ok i p hp y I B=>?_⟩
  ·obtain ⟨vs,s,r⟩:=h H2 j q x R ok;exact ⟨vs,s,by rw [r.length]; exact O8 _⟩
  ·obtain ⟨vs,s,r⟩:=h H2 j q x R ok;have z:i < vs.length:=by rw [<- r.length]; exact hi
   exact ⟨vs,vs[i],s,O7 z⟩
  ·obtain ⟨vs,s,r⟩:=h H2 j q x R ok;obtain ⟨rfl,G⟩:=B;exact ⟨Same.refl _,r.i hp (G vs s)⟩
theorem Qg7 {mg:Str->Option aB} {H:Hp} {ρ:Tk} {st:Q2} {p:PV} {P:List PV × Wt->Q2->Hp->Tk->Prop} (R:Rel H ρ st) (h:Acc mg E H ρ P (match Xb st p with | some (xs,w)=>if xs.length<=lim then .ok (xs,w) st else .stuck | none=>.stuck)) :
  ∃ xs w,Xb st p=some (xs,w)/\xs.length<=lim/\P (xs,w) st H ρ:=by
 split at h
 ·rename_i xs w e
  split at h
  ·rename_i j;exact ⟨xs,w,e,j,h H ρ (Ext.refl _ _) R⟩
  ·exact h.elim
 ·exact h.elim
theorem Xj (ha:SimE X E e m):SimI X E tg e (Q0n m):=⟨fun Γ σ H ρ st P R' R G h k=>by
 have Y:Acc X.mg E H ρ _ (m Γ st):=Acc.bind h
 by_cases Z:∃ ys j,m Γ st=.ok (.tup ys) j
 ·obtain ⟨ys,a2,e0⟩:=Z;refine WI.of (Qsx Yv) (ha.use' R G Y fun p j H1 ρ1 v eq U q O J h1=>?_);obtain ⟨xs,w,e,B,I⟩:=Qg7 q h1;obtain ⟨ok,t,a,rfl,t1,t2,z⟩:=Qbg (K:=X.K) q J e;have ep:p=.tup ys:=by rw [eq] at e0; injection e0
  cases t with
  | false=>exact absurd ep (t2 rfl ys)
  | true=>
   obtain ⟨vs,s,_⟩:=z H1 ρ1 j (Ext.refl _ _) q ok;exact ⟨a,rfl,⟨vs,s⟩,k (xs,w) j H1 ρ1 _ (by simp only [Q0n,eq,Res.bind,e,bN B]) U q O ok (Kj B) (Qft z) I⟩
 ·refine WI.of (Qpf Yv) (ha.use' R G Y fun p j H1 ρ1 v eq U q O J h1=>?_);obtain ⟨xs,w,e,B,I⟩:=Qg7 q h1;obtain ⟨ok,t,a,rfl,t1,t2,z⟩:=Qbg (K:=X.K) q J e;cases t with
  | true=>
   obtain ⟨ys,rfl⟩:=t1 rfl;exact absurd ⟨ys,j,eq⟩ Z
  | false=>
   obtain ⟨vs,s,_⟩:=z H1 ρ1 j (Ext.refl _ _) q ok;exact ⟨a,rfl,⟨vs,s⟩,k (xs,w) j H1 ρ1 _ (by simp only [Q0n,eq,Res.bind,e,bN B]) U q O ok (Kj B) (Qft z) I⟩⟩
def Zb (lo:Int) (n:Nat):List PV:=(bU n).map fun (k:Nat)=>PV.int (lo + (k:Int))
theorem Qab {H:Hp} {ρ:Tk} {lo:Int} {n:Nat}:Src (Itr lo n) (Zb lo n) [] H ρ:=by
 have B:(Zb lo n).length=n:=by unfold Zb; rw [O2,F4]
 refine ⟨fun H2 j q x R ok=>?_,fun H2 j q x R ok i hi=>?_,fun H2 j q x R ok i p hp y G z=>?_⟩
 ·show n<=(Zb lo n).length;omega
 ·show i < n;omega
 ·obtain ⟨rfl,rfl⟩:=z;have hi:i < n:=by rw [<- B]; exact (O0.mp hp).1
  unfold Zb at hp;rw [E8,F1 hi] at hp;cases hp;exact ⟨Same.refl _,rfl⟩
def Z9 (mr:Gam->Q2->Res (List PV)):MI:=fun Γ st=>(mr Γ st).bind fun ps st1=>match ps with
 | [.int j]=>if -(lim:Int)<=j/\j<=lim then .ok (Zb 0 j.toNat,[]) st1 else .stuck
 | _=>.stuck
def Q0p (mr:Gam->Q2->Res (List PV)):MI:=fun Γ st=>(mr Γ st).bind fun ps st1=>match ps with
 | [.int i,.int j]=>if -(lim:Int)<=i/\i<=lim/\-(lim:Int)<=j/\j<=lim then .ok (Zb i (j - i).toNat,[]) st1 else .stuck
 | _=>.stuck
variable {a b:aD} {mr:Gam->Q2->Res (List PV)} {p:Pos}
theorem Q7b (lo:Int) (n:Nat):(Zb lo n).length=n:=by unfold Zb; rw [O2,F4]
theorem Jj (B:Gl X "range") (I:X.mg "range" = none) (Z:SimA X E [a] mr) (hs:aP [a] X.env=[(false,aN a X.env)]:=by rfl):SimI X E tg (.Call (.Name "range" p) [a] [] pos) (Z9 mr):=⟨fun Γ σ H ρ st P R' R G h k=>by
 refine WI.of (Qhk B I Q3m hs) (Z.use' R G h.bind fun ps q H1 ρ1 vs eq U z O J h1=>?_)
 split at h1
 ·rename_i j
  split at h1
  ·rename_i Y;obtain ⟨v,rfl,rv⟩:=V0 J;cases rv;have hl:(lim:Int)=1000000:=rfl;refine ⟨j,rfl,by omega,by omega,k (Zb 0 j.toNat,[]) q H1 ρ1 _ (by simp only [Z9,eq,Res.bind,bN Y]) U z O (Q1w _) ?_ Qab (h1 H1 ρ1 (Ext.refl _ _) z)⟩;show (Zb 0 j.toNat).length<=sizeLine;rw [Q7b];exact Kj (by omega)
  ·exact h1.elim
 ·exact h1.elim⟩
theorem Qac (I:Gl X "range") (O:X.mg "range" = none) (ha:SimA X E [a,b] mr) (hs:aP [a,b] X.env=[(false,aN a X.env),(false,aN b X.env)]:=by rfl) (z:aP [b] X.env=[(false,aN b X.env)]:=by rfl):SimI X E tg (.Call (.Name "range" p) [a,b] [] pos) (Q0p mr):=⟨fun Γ σ H ρ st P R' R G h k=>by
 refine WI.of (Qhj I O Q3m hs z) (ha.use' R G h.bind fun ps q H1 ρ1 vs eq Z B Y U h1=>?_)
 split at h1
 ·rename_i i j
  split at h1
  ·rename_i hj;obtain ⟨v,u,rfl,rv,J⟩:=Q3i U;cases rv; cases J;have hl:(lim:Int)=1000000:=rfl;refine ⟨i,j,rfl,⟨by omega,by omega,by omega,by omega⟩,k (Zb i (j - i).toNat,[]) q H1 ρ1 _ (by simp only [Q0p,eq,Res.bind,bN hj]) Z B Y (Q1w _) ?_ Qab (h1 H1 ρ1 (Ext.refl _ _) B)⟩;show (Zb i (j - i).toNat).length<=sizeLine;rw [Q7b];exact F3 (show (j - i).toNat<=2000000 by omega) (by decide)
  ·exact h1.elim
 ·exact h1.elim⟩
def Q6n:List PV->List PV->List PV
 | x :: xs,y :: ys=>.tup [x,y] :: Q6n xs ys
 | _,_=>[]
theorem Qbc (xs ys:List PV):Q6n xs ys=(xs.zip ys).map fun z=>.tup [z.1,z.2]:=by
 induction xs generalizing ys with
 | nil=>rfl
 | cons x xs j=>
  cases ys with
  | nil=>rfl
  | cons y ys=>rw [Q6n,j]; rfl
theorem Q6m (xs ys:List PV):(Q6n xs ys).length=min xs.length ys.length:=by rw [Qbc,O2,dk]
theorem Qj2 {xs ys:List PV} {i:Nat} {p:PV} (h:(Q6n xs ys)[i]?=some p):∃ x y,p=.tup [x,y]/\xs[i]?=some x/\ys[i]?=some y:=by
 rw [Qbc,E8] at h;cases e:(xs.zip ys)[i]? with
 | none=>rw [e] at h; cases h
 | some z=>
  rw [e] at h; cases h;rw [dl] at e;exact ⟨z.1,z.2,rfl,e.1,e.2⟩
def Q9z (mr:Gam->Q2->Res (List PV)):MI:=fun Γ st=>(mr Γ st).bind fun ps st1=>match ps with
 | [p,q]=>match Xb st1 p,Xb st1 q with
  | some (xs,w),some (ys,w')=>if xs.length<=lim then .ok (Q6n xs ys,w ++ w') st1 else .stuck
  | _,_=>.stuck
 | _=>.stuck
theorem Q1x {w q:Wt} {st:Q2} (h:wOk (w ++ q) st):wOk w st/\wOk q st:=⟨fun x j=>h x (G6 _ j),fun x j=>h x (E5 _ j)⟩
theorem Qnq {K:bS} {H:Hp} {ρ:Tk} {t1 t2:Bool} {a b:aA} {xs ys:List PV} {w J:Wt} (h:∀ H2 j z,Ext H ρ H2 j->Rel H2 j z->wOk w z->∃ vs,SqK K t1 H2 a vs/\RepL H2 j xs vs)
  (h':∀ H2 j z,Ext H ρ H2 j->Rel H2 j z->wOk J z->∃ vs,SqK K t2 H2 b vs/\RepL H2 j ys vs):Src (Itz K t1 t2 a b) (Q6n xs ys) (w ++ J) H ρ:=by
 refine ⟨fun H2 j z x R ok=>?_,fun H2 j z x R ok i hi=>?_,fun H2 j z x R ok i p hp y Z O=>?_⟩
 ·obtain ⟨vs,s,r⟩:=h H2 j z x R (Q1x ok).1;obtain ⟨us,s',B⟩:=h' H2 j z x R (Q1x ok).2;refine ⟨vs,us,s,s',?_⟩;rw [Q6m,<- r.length,<- B.length];omega
 ·obtain ⟨vs,s,r⟩:=h H2 j z x R (Q1x ok).1;obtain ⟨us,s',B⟩:=h' H2 j z x R (Q1x ok).2;rw [Q6m,r.length,B.length] at hi;have h1:i < vs.length:=by omega
  have h2:i < us.length:=by omega
  exact ⟨vs,us,vs[i],us[i],s,s',O7 h1,O7 h2⟩
 ·obtain ⟨vs,s,r⟩:=h H2 j z x R (Q1x ok).1;obtain ⟨us,s',B⟩:=h' H2 j z x R (Q1x ok).2;obtain ⟨q,u,v,I,rfl,rfl,U⟩:=O;obtain ⟨e1,e2⟩:=U vs us s s';obtain ⟨xp,yp,rfl,Y,p2⟩:=Qj2 hp;have G:Same H2 (upd H2 q (.tup [u,v])):=Qjn I;exact ⟨G,q,[u,v],rfl,Je,R.fresh I,RepL.cons ((r.i Y e1).ext (Ext.same G)) (RepL.cons ((B.i p2 e2).ext (Ext.same G)) RepL.nil)⟩
theorem Q72 {elts:List aD} {kt:Nat} {tp:Pos} (hg:Gl X "zip") (hm:X.mg "zip" = none) (ha:SimA X E [a,b] mr) (hs:aP [a,b] X.env=[(false,aN a X.env),(false,aN b X.env)]:=by rfl) (a8:aP [b] X.env=[(false,aN b X.env)]:=by rfl) :
  SimI X E (.Tuple elts kt tp) (.Call (.Name "zip" p) [a,b] [] pos) (Q9z mr):=⟨fun Γ σ H ρ st P R' R G h k=>by
 have hb:Acc X.mg E H ρ _ (mr Γ st):=Acc.bind h;have B:∀ t1 t2:Bool,(∀ p q j,mr Γ st=.ok [p,q] j->(t1=true <-> ∃ ys,p=.tup ys)/\(t2=true <-> ∃ ys,q=.tup ys))->WI X (.Tuple elts kt tp) (.Call (.Name "zip" p) [a,b] [] pos) σ H R':=fun t1 t2 ht=>by
  refine WI.of (Qsv t1 t2 hg hm Q3m hs a8) (ha.use' R G hb fun ps j H1 ρ1 vs eq x1 I G1 r1 h1=>?_)
  split at h1
  ·rename_i p' q'
   split at h1
   ·rename_i xs w ys w' e1 e2
    split at h1
    ·rename_i hl;obtain ⟨v,u,rfl,rv,ru⟩:=Q3i r1;obtain ⟨J,b1,a1,rfl,z1,a3,U⟩:=Qbg (K:=X.K) I rv e1;obtain ⟨Y,b2,a2,rfl,z2,a7,O⟩:=Qbg (K:=X.K) I ru e2;obtain ⟨g1,g2⟩:=ht _ _ _ eq;have a9:b1=t1:=by
      cases b1 with
      | true=>exact (g1.mpr (z1 rfl)).symm
      | false=>
       cases t1 with
       | false=>rfl
       | true=>obtain ⟨ys,e⟩:=g1.mp rfl; exact absurd e (a3 rfl ys)
     have a4:b2=t2:=by
      cases b2 with
      | true=>exact (g2.mpr (z2 rfl)).symm
      | false=>
       cases t2 with
       | false=>rfl
       | true=>obtain ⟨ys,e⟩:=g2.mp rfl; exact absurd e (a7 rfl ys)
     subst a9; subst a4;obtain ⟨a6,s1,_⟩:=U H1 ρ1 j (Ext.refl _ _) I J;obtain ⟨a5,s2,_⟩:=O H1 ρ1 j (Ext.refl _ _) I Y;refine ⟨a1,a2,a6,a5,rfl,s1,s2,k (Q6n xs ys,w ++ w') j H1 ρ1 _ (by simp only [Q9z,eq,Res.bind,e1,e2,bN hl]) x1 I G1 (fun x Z=>?_) ?_ (Qnq U O) (h1 H1 ρ1 (Ext.refl _ _) I)⟩
     ·rcases E9.mp Z with Z | Z
      ·exact J x Z
      ·exact Y x Z
     ·show (Q6n xs ys).length<=sizeLine;rw [Q6m];exact Kj (F3 (dm _ _) hl)
    ·exact h1.elim
   ·exact h1.elim
  ·exact h1.elim
 have tt:∀ p:PV,∃ t:Bool,t=true <-> ∃ ys,p=.tup ys:=fun p=>by
  cases p with
  | tup ys=>exact ⟨true,fun _=>⟨ys,rfl⟩,fun _=>rfl⟩
  | _=>exact ⟨false,⟨fun z=>(by cases z),fun ⟨_,z⟩=>(by cases z)⟩⟩
 by_cases hz:∃ p q j,mr Γ st=.ok [p,q] j
 ·obtain ⟨p0,q0,b0,e0⟩:=hz;obtain ⟨t1,g1⟩:=tt p0;obtain ⟨t2,g2⟩:=tt q0;refine B t1 t2 fun p q j e=>?_
  rw [e0] at e; cases e;exact ⟨g1,g2⟩
 ·exact B true true fun p q j e=>absurd ⟨p,q,j,e⟩ hz⟩
end
section
abbrev ML:=Gam->Q2->Res (List PV)
structure SimN (X:Cx) (E:XK) (e:aD) (m:ML):Prop where
 run:∀ (Γ:Gam) (σ:St) (H:Hp) (ρ:Tk) (st:Q2) (P:List PV->Q2->Hp->Tk->Prop) (Q:VK),Rel H ρ st->EnvR H ρ Γ σ->Acc X.mg E H ρ P (m Γ st) ->
  (∀ ps st1 H1 ρ1 a vs,m Γ st=.ok ps st1->Ext H ρ H1 ρ1->Rel H1 ρ1 st1->a∈ρ1.hid->H a=none->H1 a=some (.lst vs)->RepL H1 ρ1 ps vs->Q (.ref a) H1)->WE X e σ H Q
def Xe (m:ML):ME:=fun Γ st=>(m Γ st).bind fun ps st1=>.ok (.lst ps) st1
def xi (m:ML):ME:=fun Γ st=>(m Γ st).bind fun ps st1=>.ok (.ref st1.length) (st1 ++ [.lst ps])
section
variable {H0 H:Hp} {ρ0 ρ:Tk} {st:Q2} {a:aA} {ps:List PV} {vs:List V}
theorem Qg1 (G:Rel H0 ρ0 st) (x:Ext H0 ρ0 H ρ) {j:Q2} (R:Rel H ρ j) (q:a∈ρ.hid) (B:H0 a=none) (I:H a=some (.lst vs)) (r:RepL H ρ ps vs) :
  Ext H0 ρ0 H ⟨ρ.tr,ρ0.hid⟩/\Rel H ⟨ρ.tr,ρ0.hid⟩ j/\Rep H ⟨ρ.tr,ρ0.hid⟩ (.lst ps) (.ref a):=
 ⟨x.unhide,R.unhide x.hidM,a,vs,rfl,I,(fun z=>by
  rcases z with z | z
  ·exact R.ap a q z
  ·obtain ⟨o,e,_⟩:=G.hd a z;rw [B] at e; cases e),r.unhide x.hidM⟩
mutual
theorem Rep.trk {b:aA} {hs:List aA} (j:b∈ρ.hid) (q:∀ c,c∈hs->c∈ρ.hid):∀ {p:PV} {v:V},Rep H ρ p v->Rep H ⟨ρ.tr ++ [b],hs⟩ p v
 | .non,_,r=>r
 | .bl _,_,r=>r
 | .int _,_,r=>r
 | .str _,_,r=>r
 | .tup ps,v,⟨c,vs,e,s,n,r⟩=>⟨c,vs,e,s,fun z=>by
   rcases z with z | z
   ·rcases E9.mp z with z | z
    ·exact n (.inl z)
    ·have:c=b:=by simpa using z
     subst this; exact n (.inr j)
   ·exact n (.inr (q _ z)),RepL.trk j q r⟩
 | .lst ps,v,⟨c,vs,e,s,n,r⟩=>⟨c,vs,e,s,fun z=>by
   rcases z with z | z
   ·rcases E9.mp z with z | z
    ·exact n (.inl z)
    ·have:c=b:=by simpa using z
     subst this; exact n (.inr j)
   ·exact n (.inr (q _ z)),RepL.trk j q r⟩
 | .fro ps,v,⟨c,vs,e,s,n,r⟩=>⟨c,vs,e,s,fun z=>by
   rcases z with z | z
   ·rcases E9.mp z with z | z
    ·exact n (.inl z)
    ·have:c=b:=by simpa using z
     subst this; exact n (.inr j)
   ·exact n (.inr (q _ z)),RepL.trk j q r⟩
 | .ref i,v,⟨c,e,e2⟩=>⟨c,by show (ρ.tr ++ [b])[i]?=some c; rw [O5 (O0.mp e).1]; exact e,e2⟩
 | .dic,v,⟨c,e,s,n⟩=>⟨c,e,s,fun z=>by
   rcases z with z | z
   ·rcases E9.mp z with z | z
    ·exact n (.inl z)
    ·have:c=b:=by simpa using z
     subst this; exact n (.inr j)
   ·exact n (.inr (q _ z))⟩
theorem RepL.trk {b:aA} {hs:List aA} (j:b∈ρ.hid) (q:∀ c,c∈hs->c∈ρ.hid):∀ {ps:List PV} {vs:List V},RepL H ρ ps vs->RepL H ⟨ρ.tr ++ [b],hs⟩ ps vs
 | [],_,r=>r
 | p :: ps,_,⟨v,t,e,B,z⟩=>⟨v,t,e,Rep.trk j q B,RepL.trk j q z⟩
end
theorem Qpt (Y:Rel H0 ρ0 st) (x:Ext H0 ρ0 H ρ) {j:Q2} (R:Rel H ρ j) (G:a∈ρ.hid) (O:H0 a=none) (ha:H a=some (.lst vs)) (r:RepL H ρ ps vs) :
  Ext H0 ρ0 H ⟨ρ.tr ++ [a],ρ0.hid⟩/\Rel H ⟨ρ.tr ++ [a],ρ0.hid⟩ (j ++ [.lst ps])/\Rep H ⟨ρ.tr ++ [a],ρ0.hid⟩ (.ref j.length) (.ref a):=by
 have J:a∉ρ0.hid:=fun z=>by
  obtain ⟨o,e,_⟩:=Y.hd a z;rw [O] at e; cases e
 refine ⟨⟨x.pre.trans (dH _ _),fun _ h=>h,fun _ h=>.inl h,x.keep,fun b B=>?_,x.old,x.frz⟩,⟨?_,?_,fun b B=>R.hd b (x.hidM b B),fun b B z=>?_,fun i b c h1 h2=>?_⟩,a,?_,rfl⟩
 ·rcases E9.mp B with z | z
  ·exact x.new b z
  ·have:b=a:=by simpa using z
   subst this; exact .inr O
 ·show (ρ.tr ++ [a]).length=_;rw [O3,O3,R.len]; rfl
 ·show (ρ.tr ++ [a]).Nodup;refine dh.mpr ⟨R.nd,by simp,fun b B c Z e=>?_⟩;have:c=a:=by simpa using Z
  subst this; subst e;exact R.ap b G B
 ·rcases E9.mp z with z | z
  ·exact R.ap b (x.hidM b B) z
  ·have:b=a:=by simpa using z
   subst this; exact J B
 ·have h1:(ρ.tr ++ [a])[i]?=some b:=h1
  by_cases hi:i < j.length
  ·rw [O5 (by rw [R.len]; exact hi)] at h1;rw [O5 hi] at h2;have q:=R.cell i b c h1 h2;cases c with
   | lst I=>
    obtain ⟨us,e1,e2⟩:=q;exact ⟨us,e1,e2.trk G x.hidM⟩
   | dic I=>
    obtain ⟨us,e1,e2⟩:=q;exact ⟨us,e1,e2.1,e2.2.trk G x.hidM⟩
   | dtp I=>
    obtain ⟨us,e1,e2⟩:=q;exact ⟨us,e1,e2.1,e2.2.trk G x.hidM⟩
   | frd I=>
    obtain ⟨us,e1,e2⟩:=q;exact ⟨us,e1,e2.1,e2.2.trk G x.hidM⟩
   | obj C I=>
    obtain ⟨us,e1,e2⟩:=q;exact ⟨us,e1,e2.1,e2.2.trk G x.hidM⟩
  ·rw [O9 (by rw [R.len]; omega)] at h1;rw [O9 (by omega)] at h2;have U:i - j.length=0:=by
    rcases fJ (i - j.length) with z | z
    ·exact z
    ·rw [F6 (by simp; omega)] at h2; cases h2
   rw [R.len,U] at h1;rw [U] at h2;simp at h1 h2;subst h1; subst h2;exact ⟨vs,ha,r.trk G x.hidM⟩
 ·show (ρ.tr ++ [a])[j.length]?=some a;rw [<- R.len,O9 (O8 _),cy]; rfl
end
section
variable {X:Cx} {E:XK} {pos:Pos} {e:aD} {m:ML}
theorem Wc (h:SimN X E e m):SimE X E e (Xe m):=⟨fun Γ σ H ρ st Q R G j=>h.run Γ σ H ρ st _ Q R G j.bind fun ps O H1 ρ1 a vs eq x z B I U r=>by
 obtain ⟨q,R2,J⟩:=Qg1 R x z B I U r;unfold Xe at j;rw [eq] at j;exact j _ _ q R2 _ J⟩
theorem X3 (h:SimN X E e m):SimE X E e (xi m):=⟨fun Γ σ H ρ st Q R G j=>h.run Γ σ H ρ st _ Q R G j.bind fun ps O H1 ρ1 a vs eq x z B I U r=>by
 obtain ⟨q,R2,J⟩:=Qpt R x z B I U r;unfold xi at j;rw [eq] at j;exact j _ _ q R2 _ J⟩
variable {es:List aD} {mr:Gam->Q2->Res (List PV)} {a b:aD} {ma mb:ME}
theorem Qkn {H1:Hp} {ρ1:Tk} {j:Q2} {H:Hp} {ρ:Tk} {Q:VK} {ps:List PV} {vs:List V} (x:Ext H ρ H1 ρ1) (z:Rel H1 ρ1 j) (r:RepL H1 ρ1 ps vs)
  (k:∀ H1 ρ1 a vs,Ext H ρ H1 ρ1->Rel H1 ρ1 j->a∈ρ1.hid->H a=none->H1 a=some (.lst vs)->RepL H1 ρ1 ps vs->Q (.ref a) H1):∀ p,H1 p=none->Q (.ref p) (upd H1 p (.lst vs)):=fun p hp=>by
 refine k _ (ρ1.hide p) p vs (x.trans (Ext.hide hp)) (z.hide hp) D3 ?_ Je (r.hide hp);cases e:H p with
 | none=>rfl
 | some o=>
  obtain ⟨o',q⟩:=x.old p o e;rw [hp] at q; cases q
def zg (mr:Gam->Q2->Res (List PV)):ML:=fun Γ st=>(mr Γ st).bind fun ps st1=>if ps.length<=lim then .ok ps st1 else .stuck
theorem jq (h:SimA X E es mr):SimN X E (.List es pos) (zg mr):=
 ⟨fun Γ σ H ρ st P Q R G I k=>WE.of (Qk8 Q3m) (h.use' R G I.bind fun ps q H1 ρ1 vs eq O J U B h1=>by
  by_cases z:ps.length<=lim
  ·refine ⟨by rw [<- B.length]; exact Kj z,Qkn O J B fun H2 j a us=>k ps q H2 j a us ?_⟩;unfold zg;rw [eq];exact bN z
  ·rw [bO z] at h1; exact h1.elim)⟩
def Qbx (ma:ME):ML:=fun Γ st=>(ma Γ st).bind fun p st1=>match Uj st1 p with
 | some xs=>.ok xs st1
 | none=>.stuck
theorem Qns {p:Pos} (ha:SimE X E a ma) (O:Gl X "list") (Y:X.mg "list" = none) (J:aP [a] X.env=(false,aN a X.env) :: aP [] X.env:=by rfl):SimN X E (.Call (.Name "list" p) [a] [] pos) (Qbx ma):=
 ⟨fun Γ σ H ρ st P Q R G U k=>WE.of (Qak Qcc O Y Qit (zw Yv Q4p J) (by decide) (by decide) J rfl) (ha.use' R G U.bind fun q j H1 ρ1 v eq x1 I G1 Z h1=>by
  split at h1
  ·rename_i xs e;obtain ⟨t,b,vs,rfl,B,ra⟩:=Q4b (K:=X.K) I Z e;refine ⟨b,vs,rfl,Qjf B,Qkn x1 I ra fun H2 z a us=>k xs j H2 z a us ?_⟩;unfold Qbx;rw [eq];show (match Uj j q with | some xs=>Res.ok xs j | none=>.stuck)=_;rw [e]
  ·exact h1.elim)⟩
end
end
def Jv (cap:List (Option Nat)) (Γ:Gam):Gam:=cap.map fun c=>c.bind fun j=>(Γ[j]?).join
theorem EnvR.cap {H:Hp} {ρ:Tk} {Γ:Gam} {σ:St} (h:EnvR H ρ Γ σ) (cap:List (Option Nat)):EnvR H ρ (Jv cap Γ) (Q43 cap σ):=by
 refine ⟨by unfold Jv Q43; rw [O2,O2],fun i p e=>?_⟩;unfold Jv at e;unfold Q43;rw [E8] at e ⊢;cases q:cap[i]? with
 | none=>rw [q] at e; cases e
 | some c=>
  rw [q] at e;cases c with
  | none=>cases e
  | some j=>
   have z:(Γ[j]?).join=some p:=bj e;cases r:Γ[j]? with
   | none=>rw [r] at z; cases z
   | some o=>
    rw [r] at z;have:o=some p:=z;subst this;obtain ⟨v,e1,e2⟩:=h.2 j p r;exact ⟨v,by show some ((σ[j]?).join)=some (some v); rw [e1]; rfl,e2⟩
def Qbb (cap:List (Option Nat)) (ga:GA):Prop:=∀ Γ p Γ1,ga p (Jv cap Γ)=some Γ1->Γ1.length=(Jv cap Γ).length/\∀ (i:Nat) (q:PV),(Jv cap Γ)[i]?=some (some q)->Γ1[i]?=some (some q)
theorem Qb5 {cap:List (Option Nat)} {i:Nat} (h:cap[i]?=some none) (Γ:Gam):(Jv cap Γ)[i]?=some none:=by
 unfold Jv;rw [E8,h]; rfl
theorem J7 {cap:List (Option Nat)} {i:Nat} (h:cap[i]?=some none:=by rfl):Qbb cap (Qn i):=fun Γ p Γ1 e=>by
 cases e;refine ⟨D4 ..,fun j q B=>?_⟩;rw [O6 fun z=>?_]
 ·exact B
 ·subst z; rw [Qb5 h] at B; cases B
def Qh1 (cap:List (Option Nat)) (ga:GAs):Prop:=∀ Γ ps Γ0 Γ1,(∀ (i:Nat) (q:PV),(Jv cap Γ)[i]?=some (some q)->Γ0[i]?=some (some q))->ga ps Γ0=some Γ1->Γ1.length=Γ0.length/\∀ (i:Nat) (q:PV),(Jv cap Γ)[i]?=some (some q)->Γ1[i]?=some (some q)
theorem Q40 {cap:List (Option Nat)}:Qh1 cap y6:=fun Γ ps Γ0 Γ1 h e=>by
 cases ps with
 | nil=>cases e; exact ⟨rfl,h⟩
 | cons _ _=>cases e
theorem Xd {cap:List (Option Nat)} {i:Nat} {gs:GAs} (hs:Qh1 cap gs) (h:cap[i]?=some none:=by rfl):Qh1 cap (W5 (Qn i) gs):=fun Γ ps Γ0 Γ1 h0 e=>by
 cases ps with
 | nil=>cases e
 | cons p ps=>
  obtain ⟨a,b⟩:=hs Γ ps (Γ0.set i (some p)) Γ1 (fun k r j=>by
   rw [O6 fun z=>?_]
   ·exact h0 k r j
   ·subst z; rw [Qb5 h] at j; cases j) e
  exact ⟨by rw [a,D4],b⟩
theorem Q3z {cap:List (Option Nat)} {gs:GAs} (hs:Qh1 cap gs):Qbb cap (y4 gs):=fun Γ p Γ1 e=>by
 cases p with
 | tup ps=>exact hs Γ ps _ Γ1 (fun _ _ h=>h) e
 | _=>cases e
open Classical in
def Jt (ga:GA) (mt:MT) (me:ME) (w:Wt) (Γ0:Gam):List PV->Q2->Res (List PV)
 | [],st=>if wOk w st then .ok [] st else .stuck
 | x :: xs,st=>if wOk w st then (match ga x Γ0 with
  | none=>.stuck
  | some Γ1=>(mt Γ1 st).bind fun b st1=>if b=true then (me Γ1 st1).bind fun y st2=>(Jt ga mt me w Γ0 xs st2).bind fun ys st3=>.ok (y :: ys) st3 else Jt ga mt me w Γ0 xs st1) else .stuck
def noX {α:Type}:Res α->Res α
 | .exc _ _=>.stuck
 | r=>r
def Y3 (cap:List (Option Nat)) (ga:GA) (mi:MI) (mt:MT) (me:ME):ML:=fun Γ st=>(mi Γ st).bind fun iw st1=>noX (Jt ga mt me iw.2 (Jv cap Γ) iw.1 st1)
structure SimTs (X:Cx) (ifs:List aD) (m:MT):Prop where
 run:∀ (Γ:Gam) (σ:St) (H:Hp) (ρ:Tk) (st:Q2) (P:Bool->Q2->Hp->Tk->Prop) (Q:Bool->Hp->Prop),Rel H ρ st->EnvR H ρ Γ σ->Acc X.mg E0 H ρ P (m Γ st) ->
  (∀ b st1 H1 ρ1,m Γ st=.ok b st1->Ext H ρ H1 ρ1->Rel H1 ρ1 st1->EnvR H1 ρ1 Γ σ->Q b H1)->∃ t,PTs X ifs t/\t σ H Q
def Ju:MT:=fun _ st=>.ok true st
theorem Ym {X:Cx}:SimTs X [] Ju:=⟨fun Γ σ H ρ st P Q R G h k=>⟨_,Qp8,k true st H ρ rfl (Ext.refl _ _) R G⟩⟩
theorem xz {X:Cx} {c:aD} {m:MT} (I:SimT X E0 c m):SimTs X [c] m:=⟨fun Γ σ H ρ st P Q R G h k=>⟨_,Qp7 Qd6,I.use' R G h fun b j H1 ρ1 e B q z p=>k b j H1 ρ1 e B q z⟩⟩
theorem Qrb {α:Type} {mg:Str->Option aB} {E E':XK} {H:Hp} {ρ:Tk} {P:α->Q2->Hp->Tk->Prop} {r:Res α} (h:Acc mg E H ρ P (noX r)):Acc mg E' H ρ P r:=by
 cases r with
 | ok a st=>exact h
 | exc x st=>exact h.elim
 | stuck=>exact h
theorem Res.assoc {α β j:Type} (r:Res α) (f:α->Q2->Res β) (g:β->Q2->Res j):(r.bind f).bind g=r.bind fun a st=>(f a st).bind g:=by cases r <;> rfl
theorem Acc.assoc {α β j:Type} {mg:Str->Option aB} {E:XK} {H:Hp} {ρ:Tk} {P:j->Q2->Hp->Tk->Prop} {r:Res α} {f:α->Q2->Res β} {g:β->Q2->Res j} (h:Acc mg E H ρ P ((r.bind f).bind g)):Acc mg E H ρ P (r.bind fun a st=>(f a st).bind g):=by
 rw [<- Res.assoc]; exact h
theorem EnvR.le {H:Hp} {ρ:Tk} {Γ j:Gam} {σ:St} (h:EnvR H ρ j σ) (z:Γ.length=σ.length) (k:∀ (i:Nat) (q:PV),Γ[i]?=some (some q)->j[i]?=some (some q)):EnvR H ρ Γ σ:=⟨z,fun i p e=>h.2 i p (k i p e)⟩
section
variable {X:Cx} {E:XK} {pos:Pos} {tg iter elt:aD} {ifs:List aD} {N N':List Str} {sc scE:Scope} {cap:List (Option Nat)} {ga:GA} {mi:MI} {mt:MT} {me:ME}
def aE (X:Cx) (N':List Str) (sc:Scope) (e:aD):TE:=fun σ H Q=>∀ cl C s0 H0 ex,WE (Xa X N' sc cl C s0 H0 ex) e σ H Q
def aG (X:Cx) (N':List Str) (sc:Scope) (tg:aD):TG:=fun v σ H Q=>∀ cl C s0 H0 ex,WGx (Xa X N' sc cl C s0 H0 ex) tg v σ H Q
def aT (X:Cx) (N':List Str) (sc:Scope) (ifs:List aD):TT:=fun σ H Q=>∀ cl C s0 H0 ex,∃ t,PTs (Xa X N' sc cl C s0 H0 ex) ifs t/\t σ H Q
theorem Qie {Γ:Gam} {σ:St} {H1:Hp} {ρ1:Tk} {O:Q2} {J:It} {j:List PV} {w:Wt} {Q:VK} {P:List PV->Q2->Hp->Tk->Prop} (hg:∀ cl C s0 H0 ex,SimG (Xa X N' sc cl C s0 H0 ex) tg ga) (he:∀ cl C s0 H0 ex,SimE (Xa X N' sc cl C s0 H0 ex) E0 elt me) (ht:∀ cl C s0 H0 ex,SimTs (Xa X N' sc cl C s0 H0 ex) ifs mt)
  (hf:Qbb cap ga) (R1:Rel H1 ρ1 O) (G1:EnvR H1 ρ1 Γ σ) (src:Src J j w H1 ρ1) (c3:j.length<=sizeLine) (h:Acc X.mg E0 H1 ρ1 P (Jt ga mt me w (Jv cap Γ) j O))
  (k:∀ ys b6 H2 a3 q vs,Jt ga mt me w (Jv cap Γ) j O=.ok ys b6->Ext H1 ρ1 H2 a3->Rel H2 a3 b6->q∈a3.hid->H1 q=none->H2 q=some (.lst vs)->RepL H2 a3 ys vs->Q (.ref q) H2):Qb3 J cap (aG X N' sc tg) (aT X N' sc ifs) (aE X N' sc elt) σ H1 Q:=by
 intro q B;let W:Nat->Nat->List V->St->Hp->Prop:=fun i m vs a8 H'=>m=j.length - i/\i<=j.length/\vs.length<=i/\∃ ρ' st' ys,Ext H1 ρ1 H' ρ'/\q∈ρ'.hid/\Rel H' ρ' st'/\EnvR H' ρ' (Jv cap Γ) a8/\H' q=some (.lst vs)/\RepL H' ρ' ys vs /\
  Jt ga mt me w (Jv cap Γ) j O=(Jt ga mt me w (Jv cap Γ) (j.drop i) st').bind fun zs Y=>.ok (ys ++ zs) Y
 refine ⟨W,⟨_,rfl,dB _,O8 _,ρ1.hide q,O,[],Ext.hide B,D3,R1.hide B,(G1.cap cap).hide B,Je,rfl,?_⟩,?_⟩
 ·rw [dj];cases r:Jt ga mt me w (Jv cap Γ) j O with
  | ok zs Y=>rfl
  | exc x Y=>rfl
  | stuck=>rfl
 rintro i m vs a8 H' ⟨hm,hi,c4,ρ',st',ys,x,U,R',G',ha,ry,I⟩;have G:Acc X.mg E0 H1 ρ1 P ((Jt ga mt me w (Jv cap Γ) (j.drop i) st').bind fun zs Y=>.ok (ys ++ zs) Y):=by rw [<- I]; exact h
 refine ⟨ha,?_⟩
 by_cases a2:i < j.length
 ·right
  have hd:j.drop i=j[i] :: j.drop (i + 1):=gX a2;rw [hd,Jt] at G I
  by_cases hw:wOk w st'
  ·rw [bN hw] at G I;refine ⟨src.go H' _ st' x R' hw i a2,by omega,fun y H2 hy=>?_⟩;obtain ⟨sm,c1⟩:=src.yld H' _ st' x R' hw i _ (O7 a2) y H2 hy;cases eg:ga j[i] (Jv cap Γ) with
   | none=>rw [eg] at G; exact G.elim
   | some Γ1=>
    rw [eg] at G I;have x2:Ext H' ρ' H2 ρ':=Ext.same sm;have R2:=R'.same sm;intro cl C s0 H0 ex;refine (hg cl C s0 H0 ex).run (Jv cap Γ) Γ1 a8 H2 ρ' _ y _ (G'.ext x2) c1 eg fun b2 G3=>?_
    intro cl C s0 H0 ex;have c0:=Acc.later G (x.trans x2);refine (ht cl C s0 H0 ex).run Γ1 b2 H2 ρ' st' _ _ R2 G3 (Acc.bind (Acc.assoc c0)) fun b b8 H4 a5 e4 x4 R4 G4=>?_
    simp only [e4,Res.bind] at G I;have G0:∀ {a9:Hp} {Z:Tk},EnvR a9 Z Γ1 b2->EnvR a9 Z (Jv cap Γ) b2:=fun {a9 Z} g=>g.le (by
     rw [<- G3.1];exact (hf Γ _ Γ1 eg).1.symm) (hf Γ _ Γ1 eg).2
    have a7:Ext H1 ρ1 H4 a5:=x.trans (x2.trans x4);have b0:q∈a5.hid:=x4.hidM q U;have na:q∉ρ'.tr:=R'.ap q U;have b5:H4 q=some (.lst vs):=x4.keep q _ (sm q _ ha) na;have b4:RepL H4 a5 ys vs:=ry.ext (x2.trans x4);cases b with
    | false=>
     rw [bO E2] at G I ⊢;exact ⟨_,show j.length - (i + 1) < m by omega,rfl,a2,by omega,a5,b8,ys,a7,b0,R4,G0 G4,b5,b4,I⟩
    | true=>
     rw [bN rfl] at G I ⊢;intro cl C s0 H0 ex;have b9:=Acc.later G a7;refine (he cl C s0 H0 ex).use' R4 G4 (Acc.bind (Acc.assoc b9)) fun z b3 H5 a6 zv e5 x5 R5 G5 r5 h5=>?_
     simp only [e5,Res.bind] at G I;have a4:q∈a6.hid:=x5.hidM q b0;have c2:H5 q=some (.lst vs):=x5.keep q _ b5 (R4.ap q b0);have b7:Ext H1 ρ1 H5 a6:=a7.trans x5;refine ⟨c2,_,show j.length - (i + 1) < m by omega,rfl,a2,by rw [O3]; simp; omega,a6,b3,ys ++ [z],b7.put0 B,a4,R5.rehide a4,(G0 G5).rehide a4,Je,((b4.ext x5).append (RepL.cons r5 RepL.nil)).rehide a4,?_⟩;refine I.trans ?_;cases rr:Jt ga mt me w (Jv cap Γ) (j.drop (i + 1)) b3 with
     | ok zs b1=>
      show Res.ok (ys ++ z :: zs) b1=Res.ok ((ys ++ [z]) ++ zs) b1;rw [F8]; rfl
     | exc x6 b1=>rfl
     | stuck=>rfl
  ·rw [bO hw] at G; exact G.elim
 ·left
  have ei:i=j.length:=by omega
  subst ei;rw [fL,Jt] at G I
  by_cases hw:wOk w st'
  ·rw [bN hw] at G I;refine ⟨src.stop H' _ st' x R' hw,?_⟩;have I:Jt ga mt me w (Jv cap Γ) j O=.ok (ys ++ []) st':=I;rw [bv] at I;exact k ys st' H' ρ' q vs I x R' U B ha ry
  ·rw [bO hw] at G; exact G.elim
theorem Qe8 {Γ:Gam} {σ:St} {H:Hp} {ρ:Tk} {st:Q2} {Q:VK} {P:List PV->Q2->Hp->Tk->Prop} (hi:SimI X E tg iter mi) (hg:∀ cl C s0 H0 ex,SimG (Xa X N' sc cl C s0 H0 ex) tg ga) (Z:∀ cl C s0 H0 ex,SimE (Xa X N' sc cl C s0 H0 ex) E0 elt me) (Y:∀ cl C s0 H0 ex,SimTs (Xa X N' sc cl C s0 H0 ex) ifs mt)
  (hf:Qbb cap ga) (R:Rel H ρ st) (G:EnvR H ρ Γ σ) (h:Acc X.mg E H ρ P (Y3 cap ga mi mt me Γ st)) (k:∀ ps q H2 j a vs,Y3 cap ga mi mt me Γ st=.ok ps q->Ext H ρ H2 j->Rel H2 j q->a∈j.hid->H a=none->H2 a=some (.lst vs)->RepL H2 j ps vs->Q (.ref a) H2):Qbe cap (WI X tg iter) (aG X N' sc tg) (aT X N' sc ifs) (aE X N' sc elt) σ H Q:=by
 refine hi.run Γ σ H ρ st _ _ R G h.bind fun iw a2 H1 ρ1 J eq I R1 G1 ok hl src h1=>?_
 refine Qie hg Z Y hf R1 G1 src hl (Qrb (E':=E0) h1) fun ys q H2 j z vs B x2 R2 U hn ha ry=>?_
 refine k ys q H2 j z vs ?_ (I.trans x2) R2 U ?_ ha ry
 ·unfold Y3;rw [eq];show noX _=_;rw [B]; rfl
 cases e:H z with
 | none=>rfl
 | some o=>
  obtain ⟨o',O⟩:=I.old z o e;rw [hn] at O; cases O
theorem Qvv {N':List Str} {sc:Scope} {tg:aD}:∀ cl C s0 H0 ex,PG (Xa X N' sc cl C s0 H0 ex) tg (aG X N' sc tg):=fun cl C s0 H0 ex pins s σ H v u Q I r h=>Qph pins s σ H v u Q I r (h cl C s0 H0 ex)
theorem Qw2 {N':List Str} {sc:Scope} {e:aD}:∀ cl C s0 H0 ex,PE (Xa X N' sc cl C s0 H0 ex) e (aE X N' sc e):=fun cl C s0 H0 ex pins s σ H Q I h=>h cl C s0 H0 ex pins s I
theorem Qrj {N':List Str} {sc:Scope} {ifs:List aD}:∀ cl C s0 H0 ex,PTs (Xa X N' sc cl C s0 H0 ex) ifs (aT X N' sc ifs):=fun cl C s0 H0 ex pins s σ H Q I h=>by
 obtain ⟨t,a,b⟩:=h cl C s0 H0 ex;exact a pins s σ H Q I b
theorem Y4 (cap:List (Option Nat)) (N':List Str) (j:X.calm=true) (hi:SimI X E tg iter mi) (q:∀ cl C s0 H0 ex,SimG (Xa X N' sc cl C s0 H0 ex) tg ga) (I:∀ cl C s0 H0 ex,SimE (Xa X N' sc cl C s0 H0 ex) E0 elt me) (B:∀ cl C s0 H0 ex,SimTs (Xa X N' sc cl C s0 H0 ex) ifs mt)
  (z:Qbb cap ga) (J:X.N=N:=by rfl) (U:X.env.scope=scE:=by rfl) (O:compOkC N N' sc scE cap=true:=by kernel_rfl) (hs:∀ x,bC iter X.env x=pure x:=by intro _; rfl) :
  SimN X E (.ListComp elt [⟨tg,iter,ifs,0⟩] sc pos) (Y3 cap ga mi mt me):=
 ⟨fun Γ σ H ρ st P Q R G h k=>WE.of (Qk9 j Qsw Qvv Qw2 Qrj J U O hs) (Qe8 hi q I B z R G h k)⟩
end
inductive SR where
 | nx (Γ:Gam) (st:Q2) | rt (v:PV) (st:Q2) | bk (Γ:Gam) (st:Q2) | ct (Γ:Gam) (st:Q2) | exc (x:Exc) (st:Q2) | stuck
abbrev MS:=Gam->Q2->SR
def Res.sbind {α:Type} (r:Res α) (f:α->Q2->SR):SR:=match r with
 | .ok a st=>f a st
 | .exc x st=>.exc x st
 | .stuck=>.stuck
def AccS (mg:Str->Option aB) (E:XK) (D:Ends) (H:Hp) (ρ:Tk):SR->Prop
 | .nx Γ st=>∀ σ' H' ρ',Ext H ρ H' ρ'->Rel H' ρ' st->EnvR H' ρ' Γ σ'->D.nx σ' H'
 | .bk Γ st=>∀ σ' H' ρ',Ext H ρ H' ρ'->Rel H' ρ' st->EnvR H' ρ' Γ σ'->D.bk σ' H'
 | .ct Γ st=>∀ σ' H' ρ',Ext H ρ H' ρ'->Rel H' ρ' st->EnvR H' ρ' Γ σ'->D.ct σ' H'
 | .rt p st=>∀ v H' ρ',Ext H ρ H' ρ'->Rel H' ρ' st->Rep H' ρ' p v->D.rt v H'
 | .exc x st=>∀ C dv H' ρ',mg x.cls=some (.ref C)->Ext H ρ H' ρ'->Rel H' ρ' st->XFs H' ρ' x.fs dv->E (.ref C) dv H'
 | .stuck=>False
section
variable {α:Type} {mg:Str->Option aB} {E:XK} {D:Ends} {H H1:Hp} {ρ ρ1:Tk}
theorem AccS.later {r:SR} (h:AccS mg E D H ρ r) (x:Ext H ρ H1 ρ1):AccS mg E D H1 ρ1 r:=by
 cases r with
 | nx Γ st=>exact fun j H' ρ' q=>h j H' ρ' (x.trans q)
 | bk Γ st=>exact fun j H' ρ' q=>h j H' ρ' (x.trans q)
 | ct Γ st=>exact fun j H' ρ' q=>h j H' ρ' (x.trans q)
 | rt p st=>exact fun v H' ρ' q=>h v H' ρ' (x.trans q)
 | exc y st=>exact fun C z H' ρ' m q=>h C z H' ρ' m (x.trans q)
 | stuck=>exact h
theorem AccS.bind {r:Res α} {f:α->Q2->SR} (h:AccS mg E D H ρ (r.sbind f)):Acc mg E H ρ (fun a j H1 ρ1=>AccS mg E D H1 ρ1 (f a j)) r:=by
 cases r with
 | ok a st=>exact fun H' ρ' q z=>AccS.later (show AccS mg E D H ρ (f a st) from h) q
 | exc e st=>exact h
 | stuck=>exact h
end
theorem Res.sassoc {α β:Type} (r:Res α) (f:α->Q2->Res β) (g:β->Q2->SR):(r.bind f).sbind g=r.sbind fun a st=>(f a st).sbind g:=by cases r <;> rfl
theorem AccS.assoc {α β:Type} {mg:Str->Option aB} {E:XK} {D:Ends} {H:Hp} {ρ:Tk} {r:Res α} {f:α->Q2->Res β} {g:β->Q2->SR} (h:AccS mg E D H ρ ((r.bind f).sbind g)):AccS mg E D H ρ (r.sbind fun a st=>(f a st).sbind g):=by
 rw [<- Res.sassoc]; exact h
structure SimS (X:Cx) (E:XK) (s:aL) (m:MS):Prop where
 run:∀ (Γ:Gam) (σ:St) (H:Hp) (ρ:Tk) (st:Q2) (D:Ends),Rel H ρ st->EnvR H ρ Γ σ->AccS X.mg E D H ρ (m Γ st)->WS X s D σ H
structure SimB (X:Cx) (E:XK) (ss:List aL) (m:MS):Prop where
 run:∀ (Γ:Gam) (σ:St) (H:Hp) (ρ:Tk) (st:Q2) (D:Ends),Rel H ρ st->EnvR H ρ Γ σ->AccS X.mg E D H ρ (m Γ st)->WB X ss D σ H
section
variable {X:Cx} {E:XK} {pos:Pos} {e:aD} {m:ME}
def Yb:MS:=fun Γ st=>.nx Γ st
def Qp (m1 m2:MS):MS:=fun Γ st=>match m1 Γ st with
 | .nx Γ1 st1=>m2 Γ1 st1
 | r=>r
theorem Zw:SimB X E [] Yb:=⟨fun Γ σ H ρ st D R G h=>WB.of Qpa (h σ H ρ (Ext.refl _ _) R G)⟩
theorem Q9 {s:aL} {rest:List aL} {m1 m2:MS} (h1:SimS X E s m1) (h2:SimB X E rest m2):SimB X E (s :: rest) (Qp m1 m2):=
 ⟨fun Γ σ H ρ st D R G h=>WB.of (Qd7 Qvs Q7c) (h1.run Γ σ H ρ st _ R G (by
  unfold Qp at h;cases r:m1 Γ st with
  | nx Γ1 j=>rw [r] at h; exact fun q H' ρ' I z B=>h2.run Γ1 q H' ρ' j D z B (AccS.later h I)
  | bk Γ1 j=>rw [r] at h; exact h
  | ct Γ1 j=>rw [r] at h; exact h
  | rt p j=>rw [r] at h; exact h
  | exc x j=>rw [r] at h; exact h
  | stuck=>rw [r] at h; exact h))⟩
theorem Qc {s:aL} {m1:MS} (h1:SimS X E s m1):SimB X E [s] m1:=⟨fun Γ σ H ρ st D R G h=>WB.of (Qbp Qvs) (h1.run Γ σ H ρ st D R G h)⟩
theorem Qnp:SimS X E (.Pass pos) Yb:=⟨fun Γ σ H ρ st D R G h=>WS.of Qpc (h σ H ρ (Ext.refl _ _) R G)⟩
def Wh (m:ME):MS:=fun Γ st=>(m Γ st).sbind fun _ st1=>.nx Γ st1
theorem Y8 (z:SimE X E e m) (hs:swapsWith e none pos.line X.env=pure false:=by rfl):SimS X E (.Expr e pos) (Wh m):=
 ⟨fun Γ σ H ρ st D R G h=>WS.of (Qfw Yv hs) (z.use R G h.bind fun p B H1 ρ1 v J j q I h1=>h1 σ H1 ρ1 (Ext.refl _ _) j q)⟩
def Zt (m:ME):MS:=fun Γ st=>(m Γ st).sbind fun p st1=>.rt p st1
theorem Qx (z:SimE X E e m):SimS X E (.Return (some e) pos) (Zt m):=
 ⟨fun Γ σ H ρ st D R G h=>WS.of (Qjy Yv) (z.use R G h.bind fun p B H1 ρ1 v J j I q h1=>h1 v H1 ρ1 (Ext.refl _ _) j q)⟩
def J9 (i:Nat) (m:ME):MS:=fun Γ st=>(m Γ st).sbind fun p st1=>.nx (Γ.set i (some p)) st1
theorem Qs (i:Nat) {x:Str} {pos':Pos} (O:X.N.Nodup) (I:SimE X E e m) (hi:X.N[i]?=some x:=by rfl) (U:Loc X.env.scope x:=by first | exact Or.inl rfl | exact Or.inr rfl) (hs:swapsWith e (some (.Name x pos')) pos.line X.env=pure false:=by rfl) (j:X.fn x=true\/X.env.scope.names.lookup x=some .local:=by first | exact .inl rfl | exact .inr rfl) :
  SimS X E (.Assign [.Name x pos'] e pos) (J9 i m):=
 ⟨fun Γ σ H ρ st D R G h=>WS.of (Qsr O hi U Yv hs j) (I.use R G h.bind fun p J H1 ρ1 v Y q B z h1=>h1 _ H1 ρ1 (Ext.refl _ _) q (B.set z i))⟩
section
variable {tg iter elt:aD} {ifs:List aD} {N N':List Str} {sc scE:Scope} {ga:GA} {mi:MI} {mt:MT} {me:ME}
theorem Q14 (cap:List (Option Nat)) (N':List Str) (i:Nat) {x:Str} {J cpos:Pos} (I:X.N.Nodup) (j:X.calm=true) (hi:SimI X E tg iter mi) (hg:∀ cl C s0 H0 ex,SimG (Xa X N' sc cl C s0 H0 ex) tg ga) (Z:∀ cl C s0 H0 ex,SimE (Xa X N' sc cl C s0 H0 ex) E0 elt me) (Y:∀ cl C s0 H0 ex,SimTs (Xa X N' sc cl C s0 H0 ex) ifs mt)
  (hf:Qbb cap ga) (B:X.N[i]?=some x:=by rfl) (hx:Loc X.env.scope x:=by first | exact Or.inl rfl | exact Or.inr rfl) (q:swapsWith (.ListComp elt [⟨tg,iter,ifs,0⟩] sc cpos) (some (.Name x J)) pos.line X.env=pure true:=by rfl)
  (hN:X.N=N:=by rfl) (hE:X.env.scope=scE:=by rfl) (hc:compOkC N N' sc scE cap=true:=by kernel_rfl) (hs:∀ x,bC iter X.env x=pure x:=by intro _; rfl) (z:X.fn x=true\/X.env.scope.names.lookup x=some .local:=by first | exact .inl rfl | exact .inr rfl) :
  SimS X E (.Assign [.Name x J] (.ListComp elt [⟨tg,iter,ifs,0⟩] sc cpos) pos) (J9 i (Xe (Y3 cap ga mi mt me))):=
 ⟨fun Γ σ H ρ st D R G h=>WS.of (Qjz I B hx j Qsw Qvv Qw2 Qrj q hN hE hc hs z) (Qe8 hi hg Z Y hf R G (AccS.bind (by unfold J9 Xe at h; exact AccS.assoc h)) fun ps a2 H1 ρ1 a vs eq x R1 U hn ha r=>by
  obtain ⟨O,R2,r2⟩:=Qg1 R x R1 U hn ha r;simp only [J9,Xe,eq,Res.bind,Res.sbind] at h;exact h _ _ _ O R2 ((G.ext O).set r2 i))⟩
end
def Qqf (ga:GA) (m:ME):MS:=fun Γ st=>(m Γ st).sbind fun p st1=>match ga p Γ with
 | some Γ1=>.nx Γ1 st1
 | none=>.stuck
theorem Qsc {tg:aD} {ga:GA} (U:SimE X E e m) (z:SimG X tg ga) (hs:swapsWithSole [tg] e pos.line X.env=pure false:=by rfl) (Z:swappedStores [tg] e X.env=pure none:=by rfl) (h1:(aq [tg] X.env).map (·.2)=[assign tg X.env]:=by rfl):SimS X E (.Assign [tg] e pos) (Qqf ga m):=
 ⟨fun Γ σ H ρ st D R G h=>WS.of (Qk0 Yv Qph hs Z h1) (U.use R G h.bind fun p Y H1 ρ1 v x1 B O I h1=>by
  cases q:ga p Γ with
  | none=>rw [q] at h1; exact h1.elim
  | some Γ1=>
   rw [q] at h1;exact z.run Γ Γ1 σ H1 ρ1 p v _ O I q fun j J=>h1 j H1 ρ1 (Ext.refl _ _) B J)⟩
def Q15 (st:Q2) (o i p:PV):Option Q2:=match o,i with
 | .ref k,.int j=>match st[k]? with
  | some (.lst xs)=>(ixN xs.length j).map fun n=>st.set k (.lst (xs.set n p))
  | _=>none
 | _,_=>none
def Q0m (mo mi m:ME):MS:=fun Γ st=>(m Γ st).sbind fun p st1=>(mo Γ st1).sbind fun o st2=>(mi Γ st2).sbind fun i st3=>match Q15 st3 o i p with
 | some st4=>.nx Γ st4
 | none=>.stuck
theorem Qnu {H:Hp} {ρ:Tk} {st st':Q2} {o i p:PV} {x y z:V} (R:Rel H ρ st) (U:Rep H ρ o x) (ri:Rep H ρ i y) (O:Rep H ρ p z) (e:Q15 st o i p=some st') :
  ∃ a vs k j,x=.ref a/\y=.int k/\H a=some (.lst vs)/\ixN vs.length k=some j/\Ext H ρ (upd H a (.lst (vs.set j z))) ρ/\Rel (upd H a (.lst (vs.set j z))) ρ st':=by
 unfold Q15 at e
 split at e
 ·rename_i k j
  split at e
  ·rename_i xs hs;cases q:ixN xs.length j with
   | none=>rw [q] at e; cases e
   | some n=>
    rw [q] at e;have e:st.set k (.lst (xs.set n p))=st':=bj e;subst e;obtain ⟨a,B,rfl⟩:=U;cases ri;obtain ⟨b,vs,J,G,I⟩:=R.lst hs;rw [B] at J; cases J;exact ⟨a,vs,j,n,rfl,rfl,G,by rw [<- I.length]; exact q,Ext.put (D2 B) G,R.put B G (I.set O n)⟩
  ·cases e
 ·cases e
theorem Q6y {o i:aD} {mo mi:ME} {tpos:Pos} (he:SimE X E e m) (ho:SimE X E o mo) (hi:SimE X E i mi)
  (ha:∀ v,assign (.Subscript o i tpos) X.env v=(do
   let q <- ak [v] (aN o X.env)
   let B <- ak [v,q] (aN i X.env)
   standAt tpos
   ak [v,q,B] (setItem q B v)
   release [v,q,B] []):=by intro _; rfl)
  (hs:swapsWithSole [.Subscript o i tpos] e pos.line X.env=pure false:=by rfl) (hw:swappedStores [.Subscript o i tpos] e X.env=pure none:=by rfl) (h1:(aq [.Subscript o i tpos] X.env).map (·.2)=[assign (.Subscript o i tpos) X.env]:=by rfl) :
  SimS X E (.Assign [.Subscript o i tpos] e pos) (Q0m mo mi m):=
 ⟨fun Γ σ H ρ st D R G h=>WS.of (Qk0 Yv (Qsz Yv Yv Qjg ha) hs hw h1) (he.use R G h.bind fun p a4 H1 ρ1 z x1 R1 G1 r1 h1=>ho.use R1 G1 h1.bind fun q a5 H2 a3 x x2 R2 Z r2 h2=>hi.use R2 Z h2.bind fun B O H3 J y U R3 G3 r3 I=>by
  cases es:Q15 O q B p with
  | none=>rw [es] at I; exact I.elim
  | some a2=>
   rw [es] at I;obtain ⟨a,vs,k,j,rfl,rfl,f1,f2,Y,R4⟩:=Qnu R3 (r2.ext U) r3 (r1.ext (x2.trans U)) es;exact ⟨a,vs,k,j,rfl,rfl,f1,f2,I σ _ J Y R4 (G3.ext Y)⟩)⟩
def Yt (mt:MT) (ma mb:MS):MS:=fun Γ st=>(mt Γ st).sbind fun b st1=>if b=true then ma Γ st1 else mb Γ st1
theorem Za {c:aD} {a b:List aL} {mt:MT} {ma mb:MS} (I:SimT X E c mt) (J:SimB X E a ma) (B:SimB X E b mb):SimS X E (.If c a b pos) (Yt mt ma mb):=
 ⟨fun Γ σ H ρ st D R G h=>WS.of (Qvt Qd6 Q7c Q7c) (I.use R G h.bind fun k j H1 ρ1 O q z h1=>by
  cases k with
  | true=>rw [bN rfl] at h1 ⊢; exact J.run Γ σ H1 ρ1 j D q z h1
  | false=>rw [bO E2] at h1 ⊢; exact B.run Γ σ H1 ρ1 j D q z h1)⟩
open Classical in
def xn (ga:GA) (body:MS) (w:Wt):List PV->Gam->Q2->SR
 | [],Γ,st=>if wOk w st then .nx Γ st else .stuck
 | x :: xs,Γ,st=>if wOk w st then (match ga x Γ with
  | none=>.stuck
  | some Γ1=>match body Γ1 st with
   | .nx Γ2 st2=>xn ga body w xs Γ2 st2
   | .ct Γ2 st2=>xn ga body w xs Γ2 st2
   | .bk Γ2 st2=>.nx Γ2 st2
   | .rt v st2=>.rt v st2
   | .exc x st2=>.exc x st2
   | .stuck=>.stuck) else .stuck
def Q2h (ga:GA) (mi:MI) (body:MS):MS:=fun Γ st=>(mi Γ st).sbind fun iw st1=>xn ga body iw.2 iw.1 Γ st1
theorem Kc {tg iter:aD} {bd:List aL} {ga:GA} {mi:MI} {body:MS} (hp:PassesOwn (aJ X.prog X.w) X.A X.env X.xe) (hc:X.calm=true) (hi:SimI X E tg iter mi) (hg:SimG X tg ga) (hb:SimB X E bd body)
  (hs:∀ x,bC iter X.env x=pure x:=by intro _; rfl):SimS X E (.For tg iter bd [] pos) (Q2h ga mi body):=
 ⟨fun Γ σ H ρ st D R G h=>WS.of (Qss hp hc Qsw Qph Q7c hs) (hi.run Γ σ H ρ st _ _ R G h.bind fun B a5 H1 ρ1 J eq x1 R1 G1 ok hl src h1=>by
  let W:Nat->Nat->St->Hp->Prop:=fun i m I H'=>m=B.1.length - i/\i<=B.1.length/\∃ Y ρ' st',Ext H1 ρ1 H' ρ'/\Rel H' ρ' st'/\EnvR H' ρ' Y I/\AccS X.mg E D H' ρ' (xn ga body B.2 (B.1.drop i) Y st')
  refine ⟨W,⟨_,rfl,dB _,Γ,ρ1,a5,Ext.refl _ _,R1,G1,by rw [dj]; exact h1⟩,?_⟩;rintro i m I H' ⟨hm,a7,Y,ρ',st',x,R',G',U⟩
  by_cases a3:i < B.1.length
  ·right
   have hd:B.1.drop i=B.1[i] :: B.1.drop (i + 1):=gX a3;rw [hd,xn] at U
   by_cases hw:wOk B.2 st'
   ·rw [bN hw] at U;refine ⟨src.go H' ρ' st' x R' hw i a3,fun a4 H2=>W (i + 1) (B.1.length - (i + 1)) a4 H2,fun a4 H2 z=>⟨_,by omega,z⟩,fun y H2 hy=>?_⟩
    obtain ⟨sm,ry⟩:=src.yld H' ρ' st' x R' hw i _ (O7 a3) y H2 hy;have x2:Ext H' ρ' H2 ρ':=Ext.same sm;cases eg:ga B.1[i] Y with
    | none=>rw [eg] at U; exact U.elim
    | some Γ1=>
     rw [eg] at U;refine hg.run Y Γ1 I H2 ρ' _ y _ (G'.ext x2) ry eg fun a6 G3=>?_
     have j:=AccS.later U x2;simp only at j;refine hb.run Γ1 a6 H2 ρ' st' _ (R'.same sm) G3 ?_;have again:∀ {O:Gam} {q:Q2},AccS X.mg E D H2 ρ' (xn ga body B.2 (B.1.drop (i + 1)) O q)->∀ I a2 Z,Ext H2 ρ' a2 Z->Rel a2 Z q->EnvR a2 Z O I->W (i + 1) (B.1.length - (i + 1)) I a2:=fun {O q} a σ4 H4 ρ4 x4 R4 G4=>
      ⟨rfl,a3,O,ρ4,q,x.trans (x2.trans x4),R4,G4,AccS.later a x4⟩
     cases rb:body Γ1 st' with
     | nx O q=>rw [rb] at j; exact again j
     | ct O q=>rw [rb] at j; exact again j
     | bk O q=>rw [rb] at j; exact j
     | rt v q=>rw [rb] at j; exact j
     | exc y q=>rw [rb] at j; exact j
     | stuck=>rw [rb] at j; exact j.elim
   ·rw [bO hw] at U; exact U.elim
  ·left
   have ei:i=B.1.length:=by omega
   subst ei;rw [fL,xn] at U
   by_cases hw:wOk B.2 st'
   ·rw [bN hw] at U;exact ⟨src.stop H' ρ' st' x R' hw,U I H' ρ' (Ext.refl _ _) R' G'⟩
   ·rw [bO hw] at U; exact U.elim)⟩
def U0 (mt:MT) (body:MS):Nat->Gam->Q2->SR
 | 0,_,_=>.stuck
 | n + 1, Γ, st => (mt Γ st).sbind fun b st1 => if b = true then (match body Γ st1 with
   | .nx Γ2 st2=>U0 mt body n Γ2 st2
   | .ct Γ2 st2=>U0 mt body n Γ2 st2
   | .bk Γ2 st2=>.nx Γ2 st2
   | .rt v st2=>.rt v st2
   | .exc x st2=>.exc x st2
   | .stuck=>.stuck) else .nx Γ st1
theorem Q6x (n:Nat) {c:aD} {bd:List aL} {mt:MT} {body:MS} (hp:PassesOwn (aJ X.prog X.w) X.A X.env X.xe) (hc:SimT X E c mt) (hb:SimB X E bd body):SimS X E (.While c bd [] pos) (U0 mt body n):=
 ⟨fun Γ σ H ρ st D R G h=>WS.of (Qjw hp Qd6 Q7c) (by
  let W:Nat->St->Hp->Prop:=fun m q H'=>∃ I ρ' st',Rel H' ρ' st'/\EnvR H' ρ' I q/\AccS X.mg E D H' ρ' (U0 mt body m I st')
  refine ⟨W,⟨n,Γ,ρ,st,R,G,h⟩,?_⟩;rintro m q H' ⟨I,ρ',st',R',G',Z⟩;cases m with
  | zero=>exact Z.elim
  | succ m=>
   rw [U0] at Z;refine hc.use R' G' Z.bind fun b U H1 ρ1 x1 R1 G1 h1=>?_
   cases b with
   | false=>rw [bO E2] at h1 ⊢; exact h1 q H1 ρ1 (Ext.refl _ _) R1 G1
   | true=>
    rw [bN rfl] at h1 ⊢;refine ⟨fun Y H2=>W m Y H2,fun Y H2 z=>⟨m,cg _,z⟩,hb.run I q H1 ρ1 U _ R1 G1 ?_⟩
    have again:∀ {B:Gam} {j:Q2},AccS X.mg E D H1 ρ1 (U0 mt body m B j)->∀ q O J,Ext H1 ρ1 O J->Rel O J j->EnvR O J B q->W m q O:=fun {B j} a σ4 H4 ρ4 x4 R4 G4=>⟨B,ρ4,j,R4,G4,AccS.later a x4⟩
    cases rb:body I U with
    | nx B j=>rw [rb] at h1; exact again h1
    | ct B j=>rw [rb] at h1; exact again h1
    | bk B j=>rw [rb] at h1; exact h1
    | rt v j=>rw [rb] at h1; exact h1
    | exc y j=>rw [rb] at h1; exact h1
    | stuck=>rw [rb] at h1; exact h1.elim)⟩
def Ki (x:Str) (m:ME):MS:=fun Γ st=>(m Γ st).sbind fun _ st1=>.exc ⟨x,none⟩ st1
theorem U2 {x:Str} {C:aA} {np cpos:Pos} (j:X.calm=true) (Z:Q91 X E) (J:Gl X x) (I:X.mg x=some (.ref C)) (q:bc X.K C X9 "ValueError.__new__" = true) (U:SimE X E e m)
  (B:(x == ("__debug__" : Str))=false:=by decide) (z:aP [e] X.env=[(false,aN e X.env)]:=by rfl):SimS X E (.Raise (some (.Call (.Name x np) [e] [] cpos)) none pos) (Ki x m):=
 ⟨fun Γ σ H ρ st D R G h=>WS.of (Qhg j Z J I q (zw Yv Q4p (by rw [z]; rfl)) B z) (U.use R G h.bind fun p Y H1 ρ1 v x1 O G1 r1 h1=>⟨F3 (show 1<=lim by decide) Qfc,h1 C none H1 ρ1 I (Ext.refl _ _) O rfl⟩)⟩
end
def WM (X:Cx) (id:String):V->List V->Hp->VK->Prop:=fun x xs H Q=>∀ (pins:List (aA × Obj)) (s:aC) (σ:St) (v:aB) (us:List aB),Inv X pins σ H s->RelV x v->Vals xs us->aI (aJ X.prog X.w) X.A (call (.builtin id) (v :: us)) (EP X pins σ Q) X.xe s
theorem Qz4 {X:Cx} {id:String}:MtR X id (WM X id):=fun pins s σ _ _ _ v us _ I r j h=>h pins s σ v us I r j
theorem WM.of {X:Cx} {id:String} {r:V->List V->Hp->VK->Prop} {x:V} {xs:List V} {H:Hp} {Q:VK} (h:MtR X id r) (q:r x xs H Q):WM X id x xs H Q:=fun pins s σ v us I z j=>h pins s σ H x xs v us Q I z j q
abbrev MF:=Q2->PV->List PV->Res PV
structure MtS (X:Cx) (E:XK) (id:String) (o:MF):Prop where
 run:∀ (H:Hp) (ρ:Tk) (st:Q2) (p:PV) (ps:List PV) (x:V) (xs:List V) (Q:VK),Rel H ρ st->Rep H ρ p x->RepL H ρ ps xs->Acc X.mg E H ρ (QV Q) (o st p ps)->WM X id x xs H Q
section
variable {X:Cx} {E:XK} {o e:aD} {es:List aD} {mo:ME} {mr:Gam->Q2->Res (List PV)} {name:Str} {apos cpos:Pos} {T id:String} {f:MF}
def mBM (f:MF) (mo:ME) (mr:Gam->Q2->Res (List PV)):ME:=fun Γ st=>(mo Γ st).bind fun p st1=>match yx st1 p with
 | some _=>(mr Γ st1).bind fun ps st2=>f st2 p ps
 | none=>.stuck
theorem Qjk (pa:PlainAttrs "list") (slot:Slot "list" name id) (I:typeOf (.builtin id)=pure (.type "method_descriptor")) (hm:MtS X E id f) (ho:SimE X E o mo) (ha:SimA X E (e :: es) mr)
  (q:am o name X.env (aN o X.env)=aN o X.env:=by rfl)
  (B:((aW cpos (aP (e :: es) X.env)).all (fun x=>!x.1) && (backToKw cpos (keywordEach [] X.env)).all (fun x=>x.1.isSome)
   && decide ((e :: es).length + ([]:List Keyword).length + (if ([]:List Keyword).isEmpty then 0 else 1) < 30))=true:=by rfl)
  (z:(apos.endLine == cpos.line)=true:=by rfl) (hs:aP (e :: es) X.env=(false,aN e X.env) :: aP es X.env:=by rfl) (j:(aW cpos (aP es X.env)).any (·.1)=false:=by rfl) :
  SimE X E (.Call (.Attribute o name apos) (e :: es) [] cpos) (mBM f mo mr):=
 ⟨fun Γ σ H ρ st Q R G h=>WE.of (Qw0 pa slot I Qz4 Yv Q3m q B z hs j) (ho.use R G h.bind fun p a2 H1 ρ1 v x1 U G1 Y h1=>by
  split at h1
  ·rename_i ys el;obtain ⟨a,vs,rfl,Z,_⟩:=Q6b U Y el;exact ⟨.inl ⟨rfl,vs,.inl Z⟩,ha.use U G1 h1.bind fun ps O H2 J us x2 R2 G2 r2 h2=>hm.run H2 J O p ps _ us Q R2 (Y.ext x2) r2 h2⟩
  ·exact h1.elim)⟩
def chg (st:Q2) (p:PV) (g:List PV->Option (PV × List PV)):Res PV:=match p with
 | .ref i=>match st[i]? with
  | some (.lst xs)=>match g xs with
   | some (r,ys)=>.ok r (st.set i (.lst ys))
   | none=>.stuck
  | _=>.stuck
 | _=>.stuck
theorem Q6k {mg:Str->Option aB} {H:Hp} {ρ:Tk} {st:Q2} {p:PV} {x:V} {g:List PV->Option (PV × List PV)} {Q:VK} (R:Rel H ρ st) (J:Rep H ρ p x) (h:Acc mg E H ρ (QV Q) (chg st p g)) :
  ∃ a xs vs r ys,x=.ref a/\H a=some (.lst vs)/\RepL H ρ xs vs/\g xs=some (r,ys)/\∀ us v,RepL H ρ ys us->Rep H ρ r v->Q v (upd H a (.lst us)):=by
 unfold chg at h
 split at h
 ·rename_i i
  split at h
  ·rename_i xs hs
   split at h
   ·rename_i r ys B;obtain ⟨a,j,rfl⟩:=J;obtain ⟨b,vs,z,q,I⟩:=R.lst hs;rw [j] at z; cases z;refine ⟨a,xs,vs,r,ys,rfl,q,I,B,fun us v G O=>?_⟩;have x:=Ext.put (o':=.lst us) (D2 j) q;exact h _ ρ x (R.put j q G) v (O.ext x)
   ·exact h.elim
  ·exact h.elim
 ·exact h.elim
def Vg:MF:=fun st p ps=>match ps with
 | [y]=>chg st p fun xs=>if xs.length < lim then some (.non,xs ++ [y]) else none
 | _=>.stuck
theorem Qhy:MtS X E "list.append" Vg:=⟨fun H ρ st p ps x xs Q R G z h=>by
 unfold Vg at h
 split at h
 ·obtain ⟨v,rfl,r⟩:=V0 z;obtain ⟨a,ys,vs,J,zs,rfl,B,q,j,k⟩:=Q6k R G h
  split at j
  ·rename_i I;cases j;exact WM.of Qhw ⟨a,vs,v,rfl,rfl,B,by rw [<- q.length]; exact D6 I Qfc,k _ _ (q.append (RepL.cons r RepL.nil)) rfl⟩
  ·cases j
 ·exact h.elim⟩
def Kv:MF:=fun st p ps=>match ps with
 | [q]=>match Xs st q with
  | some ys=>chg st p fun xs=>if xs.length + ys.length<=lim then some (.non,xs ++ ys) else none
  | none=>.stuck
 | _=>.stuck
theorem Qhx:MtS X E "list.extend" Kv:=⟨fun H ρ st p ps x xs Q R J z h=>by
 unfold Kv at h
 split at h
 ·obtain ⟨v,rfl,r⟩:=V0 z
  split at h
  ·rename_i Y B;obtain ⟨b,us,rfl,G,rb⟩:=Q86 R r B;obtain ⟨a,ys,vs,U,zs,rfl,I,q,j,k⟩:=Q6k R J h
   split at j
   ·rename_i O;cases j;exact WM.of Qhv ⟨a,b,vs,us,rfl,rfl,I,G,by rw [<- q.length,<- rb.length]; exact Kj O,k _ _ (q.append rb) rfl⟩
   ·cases j
  ·exact h.elim
 ·exact h.elim⟩
def Qwi:MF:=fun st p ps=>match ps with
 | [.int i,y]=>chg st p fun xs=>if 0<=i/\i<=xs.length/\xs.length<=1000 then some (.non,xs.take i.toNat ++ y :: xs.drop i.toNat) else none
 | _=>.stuck
def Qdj:MF:=fun st p ps=>match ps with
 | []=>chg st p fun xs=>(xs[xs.length - 1]?).map fun y=>(y,xs.dropLast)
 | [.int i]=>if -(2 ^ 63)<=i/\i < 2 ^ 63 then chg st p fun xs=>(ixN xs.length i).bind fun k=>(xs[k]?).map fun y=>(y,xs.eraseIdx k) else .stuck
 | _=>.stuck
theorem RepL.dropLast {H:Hp} {ρ:Tk} {ps:List PV} {vs:List V} (r:RepL H ρ ps vs):RepL H ρ ps.dropLast vs.dropLast:=by
 rw [gY,gY,r.length];exact r.take _
theorem RepL.eraseIdx {H:Hp} {ρ:Tk} {ps:List PV} {vs:List V} (r:RepL H ρ ps vs) (k:Nat):RepL H ρ (ps.eraseIdx k) (vs.eraseIdx k):=by
 rw [dn,dn];exact (r.take _).append (r.drop _)
theorem Qtm:MtS X E "list.pop" Qdj:=⟨fun H ρ st p ps x xs Q R I G h=>by
 unfold Qdj at h
 split at h
 ·cases G;obtain ⟨a,ys,vs,J,zs,rfl,B,z,q,k⟩:=Q6k R I h;cases e:ys[ys.length - 1]? with
  | none=>rw [e] at q; cases q
  | some y=>
   rw [e] at q;cases q;obtain ⟨v,e1,e2⟩:=z.get e;rw [z.length] at e1;exact WM.of Qtk ⟨a,vs,v,rfl,rfl,B,e1,k _ _ z.dropLast e2⟩
 ·rename_i i
  split at h
  ·rename_i hi;obtain ⟨v,rfl,r⟩:=V0 G;cases r;obtain ⟨a,ys,vs,J,zs,rfl,B,z,q,k⟩:=Q6k R I h;cases e:ixN ys.length i with
   | none=>rw [e] at q; cases q
   | some j=>
    rw [e] at q;have q:(ys[j]?).map (fun y=>(y,ys.eraseIdx j))=some (J,zs):=q
    cases e2:ys[j]? with
    | none=>rw [e2] at q; cases q
    | some y=>
     rw [e2] at q;cases q;obtain ⟨v,e3,O⟩:=z.get e2;exact WM.of Qkp ⟨a,vs,i,j,v,rfl,rfl,B,hi.1,hi.2,by rw [<- z.length]; exact (Qc4 e).1,e3,k _ _ (z.eraseIdx j) O⟩
  ·exact h.elim
 ·exact h.elim⟩
theorem jk (B:SimE X E o mo) (G:SimA X E [e] mr) (j:am o "append" X.env (aN o X.env)=aN o X.env:=by rfl)
  (z:((aW cpos (aP [e] X.env)).all (fun x=>!x.1) && (backToKw cpos (keywordEach [] X.env)).all (fun x=>x.1.isSome) && decide ([e].length + ([]:List Keyword).length + (if ([]:List Keyword).isEmpty then 0 else 1) < 30))=true:=by rfl)
  (q:(apos.endLine == cpos.line)=true:=by rfl) (hs:aP [e] X.env=(false,aN e X.env) :: aP [] X.env:=by rfl):SimE X E (.Call (.Attribute o "append" apos) [e] [] cpos) (mBM Vg mo mr):=
 Qjk fM PySem.F.slot_list_append PySem.F.type_list_append Qhy B G j z q hs
theorem Q4e (B:SimE X E o mo) (G:SimA X E [e] mr) (j:am o "extend" X.env (aN o X.env)=aN o X.env:=by rfl)
  (z:((aW cpos (aP [e] X.env)).all (fun x=>!x.1) && (backToKw cpos (keywordEach [] X.env)).all (fun x=>x.1.isSome) && decide ([e].length + ([]:List Keyword).length + (if ([]:List Keyword).isEmpty then 0 else 1) < 30))=true:=by rfl)
  (q:(apos.endLine == cpos.line)=true:=by rfl) (hs:aP [e] X.env=(false,aN e X.env) :: aP [] X.env:=by rfl):SimE X E (.Call (.Attribute o "extend" apos) [e] [] cpos) (mBM Kv mo mr):=
 Qjk fM PySem.F.slot_list_extend PySem.F.type_list_extend Qhx B G j z q hs
end
section
mutual
def fz (n:Nat) (st:Q2):Nat->PV->Option PV
 | 0,_=>none
 | _ + 1,.non=>some .non
 | _ + 1,.bl b=>some (.bl b)
 | _ + 1,.int i=>some (.int i)
 | _ + 1,.str x=>some (.str x)
 | k + 1,.tup xs=>(fzL n st k xs).map .tup
 | k + 1,.lst xs=>(fzL n st k xs).map .lst
 | k + 1,.fro xs=>(fzL n st k xs).map .fro
 | _ + 1,.dic=>some .dic
 | k + 1,.ref i=>if i < n then some (.ref i) else match st[i]? with
  | some (.lst xs)=>(fzL n st k xs).map .lst
  | _=>none
def fzL (n:Nat) (st:Q2):Nat->List PV->Option (List PV)
 | _,[]=>some []
 | k,x :: xs=>(fz n st k x).bind fun y=>(fzL n st k xs).map (y :: ·)
end
theorem Q6f {n:Nat} {st:Q2}:∀ {m k:Nat} {p:PV},Zv m p=true->m < k->fz n st k p=some p:=by
 intro m
 induction m with
 | zero=>
  intro k p g B;obtain ⟨k,rfl⟩:∃ j,k=j + 1:=⟨k - 1,by omega⟩;cases p with
  | tup _=>cases g
  | lst _=>cases g
  | fro _=>cases g
  | ref _=>cases g
  | dic=>cases g
  | _=>rw [fz]
 | succ m G=>
  intro k p g B;obtain ⟨k,rfl⟩:∃ j,k=j + 1:=⟨k - 1,by omega⟩;have z:∀ xs:List PV,xs.all (Zv m)=true->fzL n st k xs=some xs:=by
   intro xs
   induction xs with
   | nil=>intro _; rw [fzL]
   | cons x xs q=>
    intro g;rw [cX,G8] at g;rw [fzL,G g.1 (by omega),q g.2]; rfl
  cases p with
  | tup xs=>rw [fz,z xs g]; rfl
  | lst xs=>rw [fz,z xs g]; rfl
  | fro xs=>rw [fz,z xs g]; rfl
  | ref _=>cases g
  | dic=>cases g
  | _=>rw [fz]
section
variable {H:Hp} {ρ:Tk} {st:Q2} {tr0 rest hs:List aA}
theorem Qm9 (R:Rel H ρ st) (Z:ρ.tr=tr0 ++ rest) (hh:∀ a,a∈hs->a∈ρ.hid):∀ (k:Nat) {p p':PV} {v:V},Rep H ρ p v->fz tr0.length st k p=some p'->Rep H ⟨tr0,hs⟩ p' v:=by
 have B:∀ a,a∉ρ->a∉(⟨tr0,hs⟩:Tk):=fun a n z=>by
  rcases z with z | z
  ·exact n (.inl (by rw [Z]; exact G6 _ z))
  ·exact n (.inr (hh a z))
 intro k
 induction k with
 | zero=>intro p p' v r e; rw [fz] at e; cases e
 | succ k ih=>
  have U:∀ {ps q:List PV} {vs:List V},RepL H ρ ps vs->fzL tr0.length st k ps=some q->RepL H ⟨tr0,hs⟩ q vs:=by
   intro ps
   induction ps with
   | nil=>intro q vs r e; rw [fzL] at e; cases e; exact r
   | cons x xs a2=>
    intro q vs r e;obtain ⟨v,t,rfl,r1,r2⟩:=r;rw [fzL] at e;cases e1:fz tr0.length st k x with
    | none=>rw [e1] at e; cases e
    | some y=>
     rw [e1] at e;have e:(fzL tr0.length st k xs).map (y :: ·)=some q:=e;cases e2:fzL tr0.length st k xs with
     | none=>rw [e2] at e; cases e
     | some ys=>
      rw [e2] at e;cases e;exact ⟨v,t,rfl,ih r1 e1,a2 r2 e2⟩
  intro p p' v r e;cases p with
  | non=>rw [fz] at e; cases e; exact r
  | bl b=>rw [fz] at e; cases e; exact r
  | int i=>rw [fz] at e; cases e; exact r
  | str x=>rw [fz] at e; cases e; exact r
  | tup xs=>
   rw [fz] at e;obtain ⟨a,vs,e1,I,G,J⟩:=r;cases e2:fzL tr0.length st k xs with
   | none=>rw [e2] at e; cases e
   | some ys=>rw [e2] at e; cases e; exact ⟨a,vs,e1,I,B a G,U J e2⟩
  | lst xs=>
   rw [fz] at e;obtain ⟨a,vs,e1,I,G,J⟩:=r;cases e2:fzL tr0.length st k xs with
   | none=>rw [e2] at e; cases e
   | some ys=>rw [e2] at e; cases e; exact ⟨a,vs,e1,I,B a G,U J e2⟩
  | fro xs=>
   rw [fz] at e;obtain ⟨a,vs,e1,I,G,J⟩:=r;cases e2:fzL tr0.length st k xs with
   | none=>rw [e2] at e; cases e
   | some ys=>rw [e2] at e; cases e; exact ⟨a,vs,e1,I,B a G,U J e2⟩
  | dic=>
   rw [fz] at e;cases e;obtain ⟨a,e1,I,G⟩:=r;exact ⟨a,e1,I,B a G⟩
  | ref i=>
   rw [fz] at e;obtain ⟨a,O,rfl⟩:=r
   by_cases hi:i < tr0.length
   ·rw [bN hi] at e;cases e;rw [Z,O5 hi] at O;exact ⟨a,O,rfl⟩
   ·rw [bO hi] at e
    split at e
    ·rename_i xs Y;obtain ⟨b,vs,f1,f2,f3⟩:=R.lst Y;rw [O] at f1; cases f1;cases e2:fzL tr0.length st k xs with
     | none=>rw [e2] at e; cases e
     | some ys=>
      rw [e2] at e; cases e;refine ⟨a,vs,rfl,f2,fun z=>?_,U f3 e2⟩;rcases z with z | z
      ·have z:a∈tr0:=z;obtain ⟨j,hj,ej⟩:=dg z;have g1:ρ.tr[j]?=some a:=by rw [Z,O5 hj,O7 hj,ej]
       have l1:=O0.mp g1;have l2:=O0.mp O;have:=Qaq R.nd l1.1 l2.1 (l1.2.trans l2.2.symm);omega
      ·exact R.ap a (hh a z) (D2 O)
    ·cases e
mutual
def bel (n:Nat):PV->Prop
 | .tup xs=>Qch n xs
 | .lst xs=>Qch n xs
 | .fro xs=>Qch n xs
 | .ref i=>i < n
 | _=>True
def Qch (n:Nat):List PV->Prop
 | []=>True
 | x :: xs=>bel n x/\Qch n xs
end
mutual
theorem Rep.bel:∀ {p:PV} {v:V},Rep H ρ p v->bel ρ.tr.length p
 | .non,_,_=>by simp [Sm.bel]
 | .bl _,_,_=>by simp [Sm.bel]
 | .int _,_,_=>by simp [Sm.bel]
 | .str _,_,_=>by simp [Sm.bel]
 | .tup ps,_,⟨_,_,_,_,_,r⟩=>by rw [Sm.bel]; exact RepL.bel r
 | .lst ps,_,⟨_,_,_,_,_,r⟩=>by rw [Sm.bel]; exact RepL.bel r
 | .fro ps,_,⟨_,_,_,_,_,r⟩=>by rw [Sm.bel]; exact RepL.bel r
 | .ref i,_,⟨_,e,_⟩=>by rw [Sm.bel]; exact (O0.mp e).1
 | .dic,_,_=>by simp [Sm.bel]
theorem RepL.bel:∀ {ps:List PV} {vs:List V},RepL H ρ ps vs->Qch ρ.tr.length ps
 | [],_,_=>by simp [Qch]
 | p :: ps,_,⟨_,_,_,q,j⟩=>by rw [Qch]; exact ⟨Rep.bel q,RepL.bel j⟩
end
mutual
theorem Rep.less (j:ρ.tr=tr0 ++ rest) (q:∀ a,a∈hs->a∈ρ.hid):∀ {p:PV} {v:V},Sm.bel tr0.length p->Rep H ρ p v->Rep H ⟨tr0,hs⟩ p v
 | .non,_,_,r=>r
 | .bl _,_,_,r=>r
 | .int _,_,_,r=>r
 | .str _,_,_,r=>r
 | .tup ps,_,b,⟨a,vs,e,G,B,r⟩=>⟨a,vs,e,G,fun z=>B (z.imp (fun z=>by rw [j]; exact G6 _ z) (q a)),RepL.less j q (by rw [Sm.bel] at b; exact b) r⟩
 | .lst ps,_,b,⟨a,vs,e,G,B,r⟩=>⟨a,vs,e,G,fun z=>B (z.imp (fun z=>by rw [j]; exact G6 _ z) (q a)),RepL.less j q (by rw [Sm.bel] at b; exact b) r⟩
 | .fro ps,_,b,⟨a,vs,e,G,B,r⟩=>⟨a,vs,e,G,fun z=>B (z.imp (fun z=>by rw [j]; exact G6 _ z) (q a)),RepL.less j q (by rw [Sm.bel] at b; exact b) r⟩
 | .ref i,_,b,⟨a,e,e2⟩=>⟨a,by rw [Sm.bel] at b; rw [j,O5 b] at e; exact e,e2⟩
 | .dic,_,_,⟨a,e,G,B⟩=>⟨a,e,G,fun z=>B (z.imp (fun z=>by rw [j]; exact G6 _ z) (q a))⟩
theorem RepL.less (j:ρ.tr=tr0 ++ rest) (q:∀ a,a∈hs->a∈ρ.hid):∀ {ps:List PV} {vs:List V},Qch tr0.length ps->RepL H ρ ps vs->RepL H ⟨tr0,hs⟩ ps vs
 | [],_,_,r=>r
 | p :: ps,_,b,⟨v,t,e,B,z⟩=>by
  rw [Qch] at b;exact ⟨v,t,e,Rep.less j q b.1 B,RepL.less j q b.2 z⟩
end
end
theorem Qd4 {H H':Hp} {ρ ρ':Tk} {st st':Q2} (R:Rel H ρ st) (x:Ext H ρ H' ρ') (I:Rel H' ρ' st') (hp:st <+: st'):Ext H ρ H' ρ/\Rel H' ρ st:=by
 obtain ⟨rest,z⟩:=x.pre;obtain ⟨more,J⟩:=hp;refine ⟨⟨cY _,fun _ h=>h,fun _ h=>.inl h,x.keep,fun _ h=>.inl h,x.old,x.frz⟩,R.len,R.nd,fun a G=>let ⟨o,e,n⟩:=R.hd a G; ⟨o,x.keep a o e (R.ap a G),n⟩,R.ap,fun i a c h1 h2=>?_⟩
 have hi:i < st.length:=(O0.mp h2).1;have q:=I.cell i a c (by rw [<- z,O5 (O0.mp h1).1]; exact h1) (by rw [<- J,O5 hi]; exact h2);have B:=R.cell i a c h1 h2;cases c with
 | lst ps=>
  obtain ⟨vs,e1,e2⟩:=q;obtain ⟨us,_,j⟩:=B;exact ⟨vs,e1,RepL.less (ρ:=ρ') (tr0:=ρ.tr) (hs:=ρ.hid) z.symm x.hidM j.bel e2⟩
 | dic ps=>
  obtain ⟨vs,e1,e2⟩:=q;obtain ⟨us,_,j⟩:=B;exact ⟨vs,e1,e2.1,RepL.less (ρ:=ρ') (tr0:=ρ.tr) (hs:=ρ.hid) z.symm x.hidM j.2.bel e2.2⟩
 | dtp ps=>
  obtain ⟨vs,e1,e2⟩:=q;obtain ⟨us,_,j⟩:=B;exact ⟨vs,e1,e2.1,RepL.less (ρ:=ρ') (tr0:=ρ.tr) (hs:=ρ.hid) z.symm x.hidM j.2.bel e2.2⟩
 | frd ps=>
  obtain ⟨vs,e1,e2⟩:=q;obtain ⟨us,_,j⟩:=B;exact ⟨vs,e1,e2.1,RepL.less (ρ:=ρ') (tr0:=ρ.tr) (hs:=ρ.hid) z.symm x.hidM j.2.bel e2.2⟩
 | obj C ps=>
  obtain ⟨vs,e1,e2⟩:=q;obtain ⟨us,_,j⟩:=B;exact ⟨vs,e1,e2.1,RepL.less (ρ:=ρ') (tr0:=ρ.tr) (hs:=ρ.hid) z.symm x.hidM j.2.bel e2.2⟩
abbrev FN:=List PV->Q2->Res PV
open Classical in
def fin (st:Q2) (v:PV) (st':Q2):Res PV:=if st <+: st' then okO st (fz st.length st' 16 v) else .ok v st'
open Classical in
def Qmb (st:Q2) (x:Exc) (st':Q2):Res PV:=if st <+: st' then (match x.fs with
 | none=>.exc x st
 | some (n,p)=>match fz st.length st' 16 p with
  | some q=>.exc ⟨x.cls,some (n,q)⟩ st
  | none=>.stuck) else .exc x st'
def Qr (body:MS) (nl:Nat):FN:=fun ps st=>match body (ps.map some ++ bT (nl - ps.length) none) st with
 | .rt v st'=>fin st v st'
 | .nx _ st'=>fin st .non st'
 | .exc x st'=>Qmb st x st'
 | _=>.stuck
theorem Qge {mg:Str->Option aB} {E:XK} {H:Hp} {ρ:Tk} {st st':Q2} {Q:VK} {p:PV} (R:Rel H ρ st) (h:Acc mg E H ρ (QV Q) (fin st p st')):∀ v H' ρ',Ext H ρ H' ρ'->Rel H' ρ' st'->Rep H' ρ' p v->Q v H':=fun v H' ρ' x j r=>by
 unfold fin at h
 by_cases hp:st <+: st'
 ·rw [bN hp] at h;cases e:fz st.length st' 16 p with
  | none=>rw [e] at h; exact h.elim
  | some q=>
   rw [e] at h;obtain ⟨B,R2⟩:=Qd4 R x j hp;obtain ⟨rest,z⟩:=x.pre;rw [<- R.len] at e;exact h H' ρ B R2 v (Qm9 (tr0:=ρ.tr) (hs:=ρ.hid) j z.symm x.hidM 16 r e)
 ·rw [bO hp] at h;exact h H' ρ' x j v r
def spF (mg:Str->Option aB) (n:Nat) (F:FN):Sp:=fun vs H Q E=>vs.length=n/\∃ ρ st ps,Rel H ρ st/\RepL H ρ ps vs/\Acc mg E H ρ (QV Q) (F ps st)
theorem Qaa {H:Hp} {ρ:Tk} {N:List Str} {ps:List PV} {vs:List V} (r:RepL H ρ ps vs):EnvR H ρ (ps.map some ++ bT (N.length - ps.length) none) (L2.start N vs):=by
 have j:=r.length;unfold L2.start;refine ⟨by simp [j],fun i p e=>?_⟩
 by_cases hi:i < ps.length
 ·rw [O5 (by simpa using hi),E8] at e;rw [O5 (by simp; omega),E8];cases q:ps[i]? with
  | none=>rw [q] at e; cases e
  | some p'=>
   rw [q] at e;cases e;obtain ⟨v,e1,e2⟩:=r.get q;exact ⟨v,by rw [e1]; rfl,e2⟩
 ·rw [O9 (by simpa using hi),G7] at e
  split at e <;> cases e
section
variable {P:aO} {w:aM} {K:bS} {mg:Str->Option aB} {base:Heap}
theorem Qu6 {x qual:Str} {st:aL} {f:aA} {fd:aQ} {N ps:List Str} {k:Nat} {m:MS} (F:Fun K x qual st f fd) (S:FnScope N ps (Q8 st))
  (hb:∀ (I:aB) (A:aR) (outer:List dq) (s:aC) (H:Hp) (E:XK),Room k (A.deeper (du qual (Q8 st) s.heap.objs.size f I))->SimB (cxD P w K mg base N qual (Q8 st) f I A outer s H E) E (Jx st) m) :
  FnOk P w K mg base (CXD P w) (k + 1) f fd ps (spF mg ps.length (Qr m N.length)):=by
 refine Fun.okD F S (fun vs H Q E h=>h.1) fun I A outer s H vs Q E hr a2=>⟨_,Q7c,?_⟩
 obtain ⟨hl,ρ,G,U,R,rl,j⟩:=a2;refine (hb I A outer s H E hr).run _ (L2.start N vs) H ρ G _ R (Qaa rl) ?_;unfold Qr at j;cases O:m (U.map some ++ bT (N.length - U.length) none) G with
 | rt v B=>rw [O] at j; exact Qge R j
 | nx Γ B=>rw [O] at j; exact fun a3 H' ρ' J Y G'=>Qge R j .non H' ρ' J Y rfl
 | bk Γ B=>rw [O] at j; exact j.elim
 | ct Γ B=>rw [O] at j; exact j.elim
 | stuck=>rw [O] at j; exact j.elim
 | exc y B=>
  rw [O] at j;have j:Acc mg E H ρ (QV Q) (Qmb G y B):=j;intro C dv H' ρ' Z J Y hf;unfold Qmb at j
  by_cases hp:G <+: B
  ·rw [bN hp] at j;obtain ⟨x2,R2⟩:=Qd4 R J Y hp;obtain ⟨cls,fs⟩:=y;cases fs with
   | none=>exact j C dv H' ρ Z x2 R2 hf
   | some np=>
    obtain ⟨nm,p⟩:=np;simp only at j;cases e:fz G.length B 16 p with
    | none=>rw [e] at j; exact j.elim
    | some q=>
     rw [e] at j;obtain ⟨rest,ht⟩:=J.pre;rw [<- R.len] at e;obtain ⟨dx,v,e1,e2,e3,e4⟩:=hf;refine j C dv H' ρ Z x2 R2 ⟨dx,v,e1,e2,fun z=>e3 (z.imp (fun z=>by rw [<- ht]; exact G6 _ z) (J.hidM dx)),Qm9 (tr0:=ρ.tr) (hs:=ρ.hid) Y ht.symm J.hidM 16 e4 e⟩
  ·rw [bO hp] at j;exact j C dv H' ρ' Z J Y hf
end
theorem J3 {P:aO} {w:aM} {K:bS} {mg:Str->Option aB} {base:Heap} {x qual:Str} {st:aL} {f:aA} {fd:aQ} {N ps:List Str} {k n nl:Nat} {m:MS} {z:FN} (F:Fun K x qual st f fd) (S:FnScope N ps (Q8 st)) (B:ps.length=n) (q:N.length=nl) (I:z=Qr m nl)
  (G:∀ (j:aB) (A:aR) (outer:List dq) (s:aC) (H:Hp) (E:XK),Room k (A.deeper (du qual (Q8 st) s.heap.objs.size f j))->SimB (cxD P w K mg base N qual (Q8 st) f j A outer s H E) E (Jx st) m) :
  FnOk P w K mg base (CXD P w) (k + 1) f fd ps (spF mg n z):=by
 subst B; subst q; subst I;exact Qu6 F S G
structure DefS (P:aO) (w:aM) (K:bS) (mg:Str->Option aB) (base:Heap) (k:Nat) (x:Str) (n:Nat) (F:FN):Prop where
 ex:∃ (f:aA) (fd:aQ) (ps:List Str),FnOk P w K mg base (CXD P w) k f fd ps (spF mg n F)/\mg x=some (.ref f)/\bZ K (.ref f)=true/\Binds K fd ps []/\ps.length=n
def Qj (n:Nat) (F:FN) (mr:Gam->Q2->Res (List PV)):ME:=fun Γ st=>(mr Γ st).bind fun ps st1=>if ps.length=n then F ps st1 else .stuck
section
variable {X:Cx} {E:XK} {k n:Nat} {x:Str} {F:FN} {p pos:Pos} {e:aD} {es:List aD} {mr:Gam->Q2->Res (List PV)}
theorem Qh (D:DefS X.prog X.w X.K X.mg X.base k x n F) (O:Room k X.A) (hx:qw (CXD X.prog X.w) X E) (hg:Gl X x) (ha:SimA X E (e :: es) mr) (B:(x == ("__debug__" : Str))=false:=by decide)
  (Y:aP (e :: es) X.env=(false,aN e X.env) :: aP es X.env:=by rfl) (z:(aW pos (aP es X.env)).any (·.1)=false:=by rfl):SimE X E (.Call (.Name x p) (e :: es) [] pos) (Qj n F mr):=by
 obtain ⟨f,fd,ps,Z,U,hk,hb,hl⟩:=D.ex;exact ⟨fun Γ σ H ρ st Q R G h=>WE.of (Qpq Z O hg U hk hb .nil hx Q3m B Y z) (ha.use R G h.bind fun I q H1 ρ1 vs x1 R1 G1 J h1=>by
  by_cases j:I.length=n
  ·rw [bN j] at h1;show spF X.mg n F (vs ++ []) H1 Q E;rw [bv];exact ⟨by rw [<- J.length]; exact j,ρ1,q,I,R1,J,h1⟩
  ·rw [bO j] at h1; exact h1.elim)⟩
end
end
@[simp] theorem J2 {α β:Type} (a:α) (st:Q2) (f:α->Q2->Res β):(Res.ok a st).bind f=f a st:=rfl
@[simp] theorem Qud {α β:Type} (f:α->Q2->Res β):(Res.stuck:Res α).bind f=.stuck:=rfl
@[simp] theorem Qxf {α β:Type} (x:Exc) (st:Q2) (f:α->Q2->Res β):(Res.exc x st:Res α).bind f=.exc x st:=rfl
@[simp] theorem Ve {α:Type} (a:α) (st:Q2) (f:α->Q2->SR):(Res.ok a st).sbind f=f a st:=rfl
@[simp] theorem Qrg {α:Type} (f:α->Q2->SR):(Res.stuck:Res α).sbind f=.stuck:=rfl
@[simp] theorem Qup {α:Type} (x:Exc) (st:Q2) (f:α->Q2->SR):(Res.exc x st:Res α).sbind f=.exc x st:=rfl
@[simp] theorem Qxy (i:Nat) (Γ:Gam) (st:Q2):Q3 i Γ st=(match Γ[i]? with | some (some p)=>.ok p st | _=>.stuck):=rfl
@[simp] theorem Qzn (p:PV) (Γ:Gam) (st:Q2):mC p Γ st=.ok p st:=rfl
@[simp] theorem Qtr (o:OP) (a b:ME) (Γ:Gam) (st:Q2):mOp o a b Γ st=(a Γ st).bind fun x j=>(b Γ j).bind fun y q=>o q x y:=rfl
@[simp] theorem Qzg (b:Bool) (st:Q2):asB (.bl b) st=.ok b st:=rfl
@[simp] theorem Qs5 (m:ME) (Γ:Gam) (st:Q2):toB m Γ st=(m Γ st).bind asB:=rfl
def Qnw {α:Type} (x:PV) (A B:Res α):Res α:=match x with
 | .bl true=>A
 | .bl false=>B
 | _=>.stuck
@[simp] theorem Qxm {α:Type} (b:Bool) (A B:Res α):Qnw (.bl b) A B=if b=true then A else B:=by cases b <;> rfl
@[simp] theorem Quu (o o':OP) (a b c:ME) (Γ:Gam) (st:Q2):Q1h o o' a b c Γ st=(a Γ st).bind fun x q=>(b Γ q).bind fun y B=>(o B x y).bind fun k j=>Qnw k ((c Γ j).bind fun z G=>o' G y z) (.ok (.bl false) j):=by
 unfold Q1h;refine congrArg _ (funext fun x=>funext fun q=>congrArg _ (funext fun y=>funext fun B=>congrArg _ (funext fun k=>funext fun j=>?_)))
 cases k with
 | bl b=>cases b <;> rfl
 | _=>rfl
@[simp] theorem Qy4 (a b:ME) (Γ:Gam) (st:Q2):Qa0 a b Γ st=(a Γ st).bind fun x j=>Qnw x (b Γ j) (.ok (.bl false) j):=by
 unfold Qa0;refine congrArg _ (funext fun x=>funext fun j=>?_);cases x with
 | bl b=>cases b <;> rfl
 | _=>rfl
@[simp] theorem Qz7 (a b:ME) (Γ:Gam) (st:Q2):mOr a b Γ st=(a Γ st).bind fun x j=>Qnw x (.ok (.bl true) j) (b Γ j):=by
 unfold mOr;refine congrArg _ (funext fun x=>funext fun j=>?_);cases x with
 | bl b=>cases b <;> rfl
 | _=>rfl
@[simp] theorem Qxz (a:ME) (Γ:Gam) (st:Q2):Qts a Γ st=(a Γ st).bind fun x j=>(match x with | .bl k=>.ok (.bl (!k)) j | _=>.stuck):=rfl
@[simp] theorem Qy1 (a:ME) (Γ:Gam) (st:Q2):Q62 a Γ st=(a Γ st).bind fun x j=>(match x with | .int k=>.ok (.int (-k)) j | _=>.stuck):=rfl
@[simp] theorem Qcs (a b:MT) (Γ:Gam) (st:Q2):Q0y a b Γ st=(a Γ st).bind fun k j=>if k=true then b Γ j else .ok false j:=rfl
@[simp] theorem Qfs (a b:MT) (Γ:Gam) (st:Q2):Q5m a b Γ st=(a Γ st).bind fun k j=>if k=true then .ok true j else b Γ j:=rfl
@[simp] theorem Qjd (a:MT) (Γ:Gam) (st:Q2):Ku a Γ st=(a Γ st).bind fun k j=>.ok (!k) j:=rfl
@[simp] theorem Qy0 (Γ:Gam) (st:Q2):Qa Γ st=.ok [] st:=rfl
@[simp] theorem Qkw (m:ME) (mr:ML) (Γ:Gam) (st:Q2):Q4 m mr Γ st=(m Γ st).bind fun p j=>(mr Γ j).bind fun ps q=>.ok (p :: ps) q:=rfl
@[simp] theorem Qq8 (mr:ML) (Γ:Gam) (st:Q2):Uf mr Γ st=(mr Γ st).bind fun ps j=>if ps.length<=lim then .ok (.tup ps) j else .stuck:=rfl
@[simp] theorem Qy2 (mr:ML) (Γ:Gam) (st:Q2):Q51 mr Γ st=(mr Γ st).bind fun ps j=>if ps.length<=lim then .ok (.lst ps) j else .stuck:=rfl
@[simp] theorem Qwn (mr:ML) (Γ:Gam) (st:Q2):zg mr Γ st=(mr Γ st).bind fun ps j=>if ps.length<=lim then .ok ps j else .stuck:=rfl
@[simp] theorem Qkt (m:ME) (l h:Gam->Q2->Res (Option Int)) (Γ:Gam) (st:Q2):mSl m l h Γ st=(m Γ st).bind fun p j=>(l Γ j).bind fun lo q=>(h Γ q).bind fun hi z=>oSl z p lo hi:=rfl
@[simp] theorem Qtt (Γ:Gam) (st:Q2):W9 Γ st=.ok none st:=rfl
@[simp] theorem Qwk (m:ME) (Γ:Gam) (st:Q2):Ut m Γ st=(m Γ st).bind fun p j=>(match p with | .int i=>.ok (some i) j | _=>.stuck):=rfl
@[simp] theorem Qkx (o:CF) (mr:ML) (Γ:Gam) (st:Q2):Jc o mr Γ st=(mr Γ st).bind fun ps j=>o j ps:=rfl
@[simp] theorem Qy3 (T:String) (m:ME) (Γ:Gam) (st:Q2):Qds T m Γ st=(m Γ st).bind fun p j=>if Q36 j p=true then .stuck else .ok (.bl (isI T (dpv j p))) j:=rfl
@[simp] theorem Qx1 (st:Q2):Q36 st .non=false:=rfl
@[simp] theorem Qy6 (st:Q2) (b:Bool):Q36 st (.bl b)=false:=rfl
@[simp] theorem Qx3 (st:Q2) (b:Int):Q36 st (.int b)=false:=rfl
@[simp] theorem Qwz (st:Q2) (b:Str):Q36 st (.str b)=false:=rfl
@[simp] theorem Qwy (st:Q2) (b:List PV):Q36 st (.tup b)=false:=rfl
@[simp] theorem Qx2 (st:Q2) (b:List PV):Q36 st (.lst b)=false:=rfl
@[simp] theorem Qx4 (st:Q2) (b:List PV):Q36 st (.fro b)=false:=rfl
@[simp] theorem Qx5 (st:Q2):Q36 st .dic=false:=rfl
@[simp] theorem Qx0 (st:Q2) (i:Nat):Q36 st (.ref i)=(match st[i]? with | some (.frd _)=>true | some (.obj _ _)=>true | _=>false):=rfl
@[simp] theorem Qyb (st:Q2):dpv st .non=.non:=rfl
@[simp] theorem Qzf (st:Q2) (b:Bool):dpv st (.bl b)=(.bl b):=rfl
@[simp] theorem Qyd (st:Q2) (b:Int):dpv st (.int b)=(.int b):=rfl
@[simp] theorem Qya (st:Q2) (b:Str):dpv st (.str b)=(.str b):=rfl
@[simp] theorem Qy9 (st:Q2) (b:List PV):dpv st (.tup b)=(.tup b):=rfl
@[simp] theorem Qyc (st:Q2) (b:List PV):dpv st (.lst b)=(.lst b):=rfl
@[simp] theorem Qye (st:Q2) (b:List PV):dpv st (.fro b)=(.fro b):=rfl
@[simp] theorem Qze (st:Q2):dpv st .dic=.dic:=rfl
@[simp] theorem Qzp (st:Q2) (i:Nat):dpv st (.ref i)=(match st[i]? with | some (.dic _)=>.dic | some (.dtp _)=>.dic | _=>.ref i):=rfl
@[simp] theorem Qq7 (m:ML) (Γ:Gam) (st:Q2):Xe m Γ st=(m Γ st).bind fun ps j=>.ok (.lst ps) j:=rfl
@[simp] theorem Qq9 (m:ML) (Γ:Gam) (st:Q2):xi m Γ st=(m Γ st).bind fun ps j=>.ok (.ref j.length) (j ++ [.lst ps]):=rfl
@[simp] theorem Qi1 (cap:List (Option Nat)) (ga:GA) (mi:MI) (mt:MT) (me:ME) (Γ:Gam) (st:Q2):Y3 cap ga mi mt me Γ st=(mi Γ st).bind fun q j=>noX (Jt ga mt me q.2 (Jv cap Γ) q.1 j):=rfl
@[simp] theorem Qwj (Γ:Gam) (st:Q2):Ju Γ st=.ok true st:=rfl
@[simp] theorem Qas (n:Nat) (F:FN) (mr:ML) (Γ:Gam) (st:Q2):Qj n F mr Γ st=(mr Γ st).bind fun ps j=>if ps.length=n then F ps j else .stuck:=rfl
@[simp] theorem Qwm (Γ:Gam) (st:Q2):Yb Γ st=.nx Γ st:=rfl
@[simp] theorem Qdq (a b:MS) (Γ:Gam) (st:Q2):Qp a b Γ st=(match a Γ st with | .nx Γ1 j=>b Γ1 j | r=>r):=rfl
@[simp] theorem Q84 (m:ME) (Γ:Gam) (st:Q2):Wh m Γ st=(m Γ st).sbind fun _ j=>.nx Γ j:=rfl
@[simp] theorem Q3w (m:ME) (Γ:Gam) (st:Q2):Zt m Γ st=(m Γ st).sbind fun p j=>.rt p j:=rfl
@[simp] theorem Qqa (i:Nat) (m:ME) (Γ:Gam) (st:Q2):J9 i m Γ st=(m Γ st).sbind fun p j=>.nx (Γ.set i (some p)) j:=rfl
@[simp] theorem Qg8 (c:MT) (a b:MS) (Γ:Gam) (st:Q2):Yt c a b Γ st=(c Γ st).sbind fun k j=>if k=true then a Γ j else b Γ j:=rfl
@[simp] theorem Qqc (ga:GA) (mi:MI) (b:MS) (Γ:Gam) (st:Q2):Q2h ga mi b Γ st=(mi Γ st).sbind fun q j=>xn ga b q.2 q.1 Γ j:=rfl
@[simp] theorem Qqb (m:ME) (Γ:Gam) (st:Q2):Q0n m Γ st=(m Γ st).bind fun p j=>(match Xb j p with | some (xs,w)=>if xs.length<=lim then .ok (xs,w) j else .stuck | none=>.stuck):=rfl
@[simp] theorem Kh (mr:ML) (Γ:Gam) (st:Q2):Z9 mr Γ st=(mr Γ st).bind fun ps q=>(match ps with | [.int j]=>if -(lim:Int)<=j/\j<=lim then .ok (Zb 0 j.toNat,[]) q else .stuck | _=>.stuck):=rfl
@[simp] theorem Q83 (mr:ML) (Γ:Gam) (st:Q2):Q0p mr Γ st=(mr Γ st).bind fun ps q=>(match ps with | [.int i,.int j]=>if -(lim:Int)<=i/\i<=lim/\-(lim:Int)<=j/\j<=lim then .ok (Zb i (j - i).toNat,[]) q else .stuck | _=>.stuck):=rfl
@[simp] theorem Qxx (mr:ML) (Γ:Gam) (st:Q2):Q9z mr Γ st=(mr Γ st).bind fun ps j=>(match ps with | [p,q]=>(match Xb j p,Xb j q with | some (xs,w),some (ys,z)=>if xs.length<=lim then .ok (Q6n xs ys,w ++ z) j else .stuck | _,_=>.stuck) | _=>.stuck):=rfl
@[simp] theorem Qky (f:MF) (mo:ME) (mr:ML) (Γ:Gam) (st:Q2):mBM f mo mr Γ st=(mo Γ st).bind fun p j=>(match yx j p with | some _=>(mr Γ j).bind fun ps q=>f q p ps | none=>.stuck):=rfl
@[simp] theorem Qqe (ga:GA) (m:ME) (Γ:Gam) (st:Q2):Qqf ga m Γ st=(m Γ st).sbind fun p j=>(match ga p Γ with | some Γ1=>.nx Γ1 j | none=>.stuck):=rfl
@[simp] theorem Qhz (mo mi m:ME) (Γ:Gam) (st:Q2):Q0m mo mi m Γ st=(m Γ st).sbind fun p j=>(mo Γ j).sbind fun o z=>(mi Γ z).sbind fun i B=>(match Q15 B o i p with | some q=>.nx Γ q | none=>.stuck):=rfl
@[simp] theorem Qur (x:Str) (m:ME) (Γ:Gam) (st:Q2):Ki x m Γ st=(m Γ st).sbind fun _ j=>.exc ⟨x,none⟩ j:=rfl
@[simp] theorem Quw (i:Nat) (p:PV) (Γ:Gam):Qn i p Γ=some (Γ.set i (some p)):=rfl
@[simp] theorem Qwv (Γ:Gam):y6 [] Γ=some Γ:=rfl
@[simp] theorem Qux (g:GA) (gs:GAs) (p:PV) (r:List PV) (Γ:Gam):W5 g gs (p :: r) Γ=(g p Γ).bind (gs r):=rfl
@[simp] theorem Qwu (gs:GAs) (ps:List PV) (Γ:Gam):y4 gs (.tup ps) Γ=gs ps Γ:=rfl
@[simp] theorem Qz3 {α:Type} (a:α) (st:Q2):noX (Res.ok a st)=.ok a st:=rfl
@[simp] theorem Quq {α:Type}:noX (Res.stuck:Res α)=.stuck:=rfl
@[simp] theorem Qdg {α:Type} (st:Q2) (a:α):okO st (some a)=.ok a st:=rfl
@[simp] theorem Qw9 {α:Type} (st:Q2):okO st (none:Option α)=.stuck:=rfl
@[simp] theorem Qzm (g:Int->Int->PV) (st:Q2) (a b:Int):oI g st (.int a) (.int b)=.ok (g a b) st:=rfl
@[simp] theorem Qwg (st:Q2) (a b:Int):Y5 st (.int a) (.int b)=.ok (.int (a + b)) st:=rfl
@[simp] theorem Qwf (st:Q2) (a b:List PV):Y5 st (.tup a) (.tup b)=if a.length + b.length<=lim then .ok (.tup (a ++ b)) st else .stuck:=rfl
@[simp] theorem Qwb (st:Q2) (a b:Int):Q60 st (.int a) (.int b)=if (-(2 ^ 64) < a/\a < 2 ^ 64)\/(-(2 ^ 64) < b/\b < 2 ^ 64) then .ok (.int (a * b)) st else .stuck:=rfl
@[simp] theorem Qwa (st:Q2) (xs:List PV) (b:Int):Q60 st (.tup xs) (.int b)=if xs≠[]/\1<=b/\xs.length * b.toNat<=4096 then .ok (.tup (bT b.toNat xs).flatten) st else .stuck:=rfl
@[simp] theorem Qwc (st:Q2) (a b:Int):Q3s st (.int a) (.int b)=if 0 < b then .ok (.int (a % b)) st else .stuck:=rfl
@[simp] theorem Qwe (st:Q2) (a b:Int):Qq3 st (.int a) (.int b)=if 0 < b/\b < 1073741824 then .ok (.int (a / b)) st else .stuck:=rfl
@[simp] theorem Qkh (st:Q2) (a b:Int):Qki st (.int a) (.int b)=if 0<=b/\b<=1000000/\a.natAbs < 2 ^ 64 then .ok (.int (a ^ b.toNat)) st else .stuck:=rfl
@[simp] theorem Qxs (st:Q2) (a b:Int):oLt st (.int a) (.int b)=.ok (.bl (decide (a < b))) st:=rfl
@[simp] theorem Qxw (st:Q2) (a b:Int):oEq st (.int a) (.int b)=.ok (.bl (a == b)) st:=rfl
@[simp] theorem Qxr (st:Q2) (a b:Int):oNe st (.int a) (.int b)=.ok (.bl (!(a == b))) st:=rfl
@[simp] theorem Qz2 (st:Q2) (a b:Bool):oEq st (.bl a) (.bl b)=.ok (.bl (a == b)) st:=rfl
@[simp] theorem Qz1 (st:Q2) (a b:Bool):oNe st (.bl a) (.bl b)=.ok (.bl (!(a == b))) st:=rfl
@[simp] theorem Qxv (st:Q2) (a b:Str):oEq st (.str a) (.str b)=.ok (.bl (a == b)) st:=rfl
@[simp] theorem Qxq (st:Q2) (a b:Str):oNe st (.str a) (.str b)=.ok (.bl (!(a == b))) st:=rfl
@[simp] theorem Quv (st:Q2) (xs:List PV):Xs st (.lst xs)=some xs:=rfl
@[simp] theorem Qtu (st:Q2) (xs:List PV):yx st (.lst xs)=some xs:=rfl
@[simp] theorem Qtv (st:Q2) (xs:List PV):yx st (.fro xs)=some xs:=rfl
@[simp] theorem Qad (st:Q2) (xs:List PV):Uj st (.lst xs)=some xs:=rfl
@[simp] theorem Qun (st:Q2) (xs:List PV):Uj st (.fro xs)=some xs:=rfl
@[simp] theorem Qh7 (st:Q2) (xs:List PV):Uj st (.tup xs)=some xs:=rfl
@[simp] theorem Quk (st:Q2) (xs:List PV):Xb st (.lst xs)=some (xs,[]):=rfl
@[simp] theorem Qum (st:Q2) (xs:List PV):Xb st (.fro xs)=some (xs,[]):=rfl
@[simp] theorem Quj (st:Q2) (xs:List PV):Xb st (.tup xs)=some (xs,[]):=rfl
theorem W1 {st:Q2} {i:Nat} {xs:List PV} (h:st[i]?=some (.lst xs)):Xs st (.ref i)=some xs:=by simp only [Xs,h]
@[simp] theorem Qg3 (st:Q2) (xs:List PV) (i:Int):oIx st (.tup xs) (.int i)=okO st (atI xs i):=rfl
@[simp] theorem Qxt (st:Q2) (xs:List PV) (i:Int):oIx st (.lst xs) (.int i)=okO st (atI xs i):=rfl
@[simp] theorem Qxu (st:Q2) (xs:List PV) (i:Int):oIx st (.fro xs) (.int i)=okO st (atI xs i):=rfl
@[simp] theorem zy (st:Q2) (xs:List PV) (l h:Option Int):oSl st (.tup xs) l h=.ok (.tup (cut xs l h)) st:=rfl
@[simp] theorem Qxn (st:Q2) (xs:List PV) (l h:Option Int):oSl st (.lst xs) l h=.ok (.lst (cut xs l h)) st:=rfl
@[simp] theorem Qxp (st:Q2) (xs:List PV) (l h:Option Int):oSl st (.fro xs) l h=.ok (.lst (cut xs l h)) st:=rfl
@[simp] theorem Qx9 (st:Q2) (xs:List PV):Yr st [.tup xs]=.ok (.int xs.length) st:=rfl
@[simp] theorem Qxa (st:Q2) (xs:List PV):Yr st [.lst xs]=.ok (.int xs.length) st:=rfl
@[simp] theorem Qxb (st:Q2) (xs:List PV):Yr st [.fro xs]=.ok (.int xs.length) st:=rfl
@[simp] theorem Qub (st:Q2) (xs:List PV):X8 st [.tup xs]=.ok (.tup xs) st:=rfl
@[simp] theorem Quc (st:Q2) (xs:List PV):X8 st [.lst xs]=.ok (.tup xs) st:=rfl
@[simp] theorem Q8x (g:List Bool->PV) (st:Q2) (bs:List Bool):Q2i g st [.lst (bs.map .bl)]=.ok (g bs) st:=by
 simp only [Q2i,Qad,dw,Qr9]
@[simp] theorem Qis (g:List Int->Option PV) (st:Q2) (ns:List Int):K2 g st [.lst (ns.map .int)]=okO st (g ns):=by
 simp only [K2,Qad,dw,Qe1]
@[simp] theorem Qiq (g:List Int->Option PV) (st:Q2) (ns:List Int):K2 g st [.tup (ns.map .int)]=okO st (g ns):=by
 simp only [K2,Qh7,dw,Qe1]
@[simp] theorem Qeb (st:Q2) (a b:Int):Qa5 st [.int a,.int b]=.ok (.int (if b > a then b else a)) st:=rfl
@[simp] theorem Qmw (st:Q2) (a b:Int):Qmx st [.int a,.int b]=.ok (.int (if b < a then b else a)) st:=rfl
@[simp] theorem Quz (st:Q2):wOk [] st=True:=by simp [wOk]
@[simp] theorem Qu7 (st:Q2) (b:Bool):fin st (.bl b) st=.ok (.bl b) st:=by simp [fin,fz]
@[simp] theorem Qgd (st:Q2) (b:Int):fin st (.int b) st=.ok (.int b) st:=by simp [fin,fz]
@[simp] theorem Qy8 (st:Q2):fin st .non st=.ok .non st:=by simp [fin,fz]
@[simp] theorem Qy7 (st:Q2) (b:Str):fin st (.str b) st=.ok (.str b) st:=by simp [fin,fz]
theorem U5 {st:Q2} {v:PV} (g:Zv 12 v=true):fin st v st=.ok v st:=by
 simp only [fin,List.prefix_rfl,if_true,Q6f g (by decide:12 < 16),Qdg]
theorem Q5a {st more:Q2} {v:PV} (g:Zv 12 v=true):fin st v (st ++ more)=.ok v st:=by
 simp only [fin,dH,if_true,Q6f g (by decide:12 < 16),Qdg]
theorem Z7:lim=1000000:=rfl
theorem Yk {α:Type} (g f:α->PV) {ga:GA} {me:ME} {w:Wt} {Γ0:Gam} {st:Q2} (q:wOk w st) {ys:List α} (h:∀ y∈ys,∃ Γ1,ga (g y) Γ0=some Γ1/\me Γ1 st=.ok (f y) st):Jt ga Ju me w Γ0 (ys.map g) st=.ok (ys.map f) st:=by
 induction ys with
 | nil=>simp [Jt,q]
 | cons y ys j=>
  obtain ⟨Γ1,h1,h2⟩:=h y D3;have j:=j fun z hz=>h z (D0 _ hz)
  rw [F5,Jt,bN q,h1];simp [h2,j]
theorem Q27 {α:Type} (g f:α->PV) (t:α->Bool) {ga:GA} {mt:MT} {me:ME} {w:Wt} {Γ0:Gam} {st:Q2} (q:wOk w st) {ys:List α} (h:∀ y∈ys,∃ Γ1,ga (g y) Γ0=some Γ1/\mt Γ1 st=.ok (t y) st/\(t y=true->me Γ1 st=.ok (f y) st)):Jt ga mt me w Γ0 (ys.map g) st=.ok ((ys.filter t).map f) st:=by
 induction ys with
 | nil=>simp [Jt,q]
 | cons y ys j=>
  obtain ⟨Γ1,h1,h2,B⟩:=h y D3;have j:=j fun z hz=>h z (D0 _ hz)
  rw [F5,Jt,bN q,h1];simp only [h2,J2,j];cases tx:t y with
  | true=>simp [B tx,tx,j]
  | false=>simp [tx]
@[simp] theorem Qxd {α:Type} (g:List Bool->PV) (st:Q2) (ys:List α) (b:α->Bool):Q2i g st [.lst (ys.map fun y=>.bl (b y))]=.ok (g (ys.map b)) st:=by
 rw [show (ys.map fun y=>PV.bl (b y))=(ys.map b).map .bl by rw [G9]; rfl,Q8x]
@[simp] theorem Qir {α:Type} (g:List Int->Option PV) (st:Q2) (ys:List α) (b:α->Int):K2 g st [.lst (ys.map fun y=>.int (b y))]=okO st (g (ys.map b)):=by
 rw [show (ys.map fun y=>PV.int (b y))=(ys.map b).map .int by rw [G9]; rfl,Qis]
theorem Uu {α:Type} (g:α->PV) {xs:List α} (I:Nat->Gam->Q2->Prop) {ga:GA} {body:MS} {w:Wt} (G:∀ i Γ st,I i Γ st->wOk w st)
  (h:∀ (i:Nat) x Γ st,xs[i]?=some x->I i Γ st->∃ Γ1,ga (g x) Γ=some Γ1/\∃ B q,body Γ1 st=.nx B q/\I (i + 1) B q) {Γ:Gam} {st:Q2} (h0:I 0 Γ st):∃ j st',xn ga body w (xs.map g) Γ st=.nx j st'/\I xs.length j st':=by
 induction xs generalizing I Γ st with
 | nil=>exact ⟨Γ,st,by simp [xn,G 0 Γ st h0],h0⟩
 | cons x xs Y=>
  obtain ⟨Γ1,h1,B,q,e2,J⟩:=h 0 x Γ st rfl h0;obtain ⟨j,st',e3,U⟩:=Y (fun i=>I (i + 1)) (fun i Γ st z=>G (i + 1) Γ st z) (fun i y Γ st O z=>h (i + 1) y Γ st (by simpa using O) z) J
  refine ⟨j,st',?_,U⟩;rw [F5,xn,bN (G 0 Γ st h0),h1];simp only [e2];exact e3
theorem Qaz {α:Type} (g:α->PV) {xs:List α} (I:List α->Gam->Q2->Prop) {ga:GA} {body:MS} {w:Wt} (J:∀ pre Γ st,I pre Γ st->wOk w st)
  (h:∀ pre x j Γ st,xs=pre ++ x :: j->I pre Γ st->∃ Γ1,ga (g x) Γ=some Γ1/\∃ B z,body Γ1 st=.nx B z/\I (pre ++ [x]) B z) {Γ:Gam} {st:Q2} (h0:I [] Γ st):∃ q st',xn ga body w (xs.map g) Γ st=.nx q st'/\I xs q st':=by
 have G:∀ (j pre:List α) (Γ:Gam) (st:Q2),xs=pre ++ j->I pre Γ st->∃ q st',xn ga body w (j.map g) Γ st=.nx q st'/\I xs q st':=by
  intro j
  induction j with
  | nil=>intro pre Γ st e i; exact ⟨Γ,st,by simp [xn,J pre Γ st i],by rw [e,bv]; exact i⟩
  | cons x j Y=>
   intro pre Γ st e i;obtain ⟨Γ1,h1,B,z,e2,O⟩:=h pre x j Γ st e i;obtain ⟨q,st',e3,U⟩:=Y (pre ++ [x]) B z (by rw [e]; simp) O;refine ⟨q,st',?_,U⟩;rw [F5,xn,bN (J pre Γ st i),h1];simp only [e2];exact e3
 exact G xs [] Γ st rfl h0
theorem Q13 {α β:Type} (f:α->PV) (g:β->PV) (xs:List α) (ys:List β):Q6n (xs.map f) (ys.map g)=(xs.zip ys).map fun z=>.tup [f z.1,g z.2]:=by
 rw [Qbc,List.zip_map,G9]; rfl
theorem Kq {α:Type} (f:α->PV) (xs:List α) (i:Int):atI (xs.map f) i=(atI xs i).map f:=by
 unfold atI;rw [O2];cases ixN xs.length i with
 | none=>rfl
 | some j=>simp [E8]
theorem atI_get {α:Type} {xs:List α} {i:Nat} {x:α} (h:xs[i]?=some x):atI xs (i:Int)=some x:=by
 have j:=(O0.mp h).1;unfold atI ixN;rw [bN (by omega),bN (by omega)];simpa using h
theorem y8 {α:Type} (f:α->PV) (xs:List α) (l h:Option Int):cut (xs.map f) l h=(cut xs l h).map f:=by
 unfold cut;rw [O2,<- gZ,<- dy]
theorem W8 (n:Nat):Zb 0 n=(bU n).map fun (k:Nat)=>PV.int (k:Int):=by
 unfold Zb;refine eu fun k _=>?_
 rw [Int.zero_add]
@[simp] theorem Qyh {α:Type} (st l:List α) (c:α):(st ++ c :: l)[st.length]?=some c:=by
 rw [O9 (O8 _),cy]; rfl
@[simp] theorem Qxj {α:Type} (st l:List α) (c d:α):(st ++ c :: d :: l)[st.length + 1]?=some d:=by
 rw [O9 (by omega)];rw [show st.length + 1 - st.length=1 by omega]; rfl
@[simp] theorem Qyg {α:Type} (st l:List α) (c d:α):(st ++ c :: l).set st.length d=st ++ d :: l:=by
 rw [gc _ _ (O8 _),cy]; rfl
@[simp] theorem Qxi {α:Type} (st l:List α) (c j d:α):(st ++ c :: j :: l).set (st.length + 1) d=st ++ c :: d :: l:=by
 rw [gc _ _ (by omega),show st.length + 1 - st.length=1 by omega]; rfl
@[simp] theorem Qyf (st:Q2) (i:Nat) (g:List PV->Option (PV × List PV)):chg st (.ref i) g=(match st[i]? with | some (.lst xs)=>(match g xs with | some (r,ys)=>.ok r (st.set i (.lst ys)) | none=>.stuck) | _=>.stuck):=rfl
@[simp] theorem Qy5 (st:Q2) (i:Nat):Xs st (.ref i)=(match st[i]? with | some (.lst xs)=>some xs | _=>none):=rfl
@[simp] theorem Qkz (st:Q2) (i:Nat):yx st (.ref i)=(match st[i]? with | some (.lst xs)=>some xs | _=>none):=rfl
@[simp] theorem Q67 (st:Q2) (i:Nat):Uj st (.ref i)=(match st[i]? with | some (.lst xs)=>some xs | _=>none):=rfl
@[simp] theorem Qnr (st:Q2) (i:Nat):Xb st (.ref i)=(match st[i]? with | some (.lst xs)=>some (xs,[(i,.lst xs)]) | _=>none):=rfl
@[simp] theorem Qrp (st:Q2) (p y:PV):Vg st p [y]=chg st p fun xs=>if xs.length < lim then some (.non,xs ++ [y]) else none:=rfl
@[simp] theorem Qx8 (st:Q2) (i:Nat):X8 st [.ref i]=(match st[i]? with | some (.lst xs)=>.ok (.tup xs) st | _=>.stuck):=by
 unfold X8; simp only [Q67];cases st[i]? with
 | none=>rfl
 | some c=>cases c <;> rfl
@[simp] theorem Qmy (st:Q2) (i:Nat):Yr st [.ref i]=(match st[i]? with | some (.lst xs)=>.ok (.int xs.length) st | _=>.stuck):=by
 unfold Yr; simp only [Q67];cases st[i]? with
 | none=>rfl
 | some c=>cases c <;> rfl
@[simp] theorem Qwd (st:Q2) (i:Nat) (j:Int):oIx st (.ref i) (.int j)=(match st[i]? with | some (.lst xs)=>okO st (atI xs j) | _=>.stuck):=by
 unfold oIx; simp only [Q67];cases st[i]? with
 | none=>rfl
 | some c=>cases c <;> rfl
@[simp] theorem Qxk (st:Q2) (k:Nat) (j:Int) (p:PV):Q15 st (.ref k) (.int j) p=(match st[k]? with | some (.lst xs)=>(ixN xs.length j).map fun n=>st.set k (.lst (xs.set n p)) | _=>none):=rfl
theorem jm {α:Type} (xs:List α) (k:Nat):cut xs none (some (k:Int))=xs.take k:=by
 unfold cut;rw [HT.sIx_none,HT.sIx_nat,dj,gW];rcases gf k xs.length with h | h
 ·rw [gg h]
 ·rw [gh h,fD,gk h]
theorem Q1n {α:Type} (xs:List α) (k:Nat):cut xs (some (k:Int)) none=xs.drop k:=by
 unfold cut;rw [HT.sIx_none,HT.sIx_nat];rcases gf k xs.length with h | h
 ·rw [gg h,gk (by rw [cV]; omega)]
 ·rw [gh h,fL,List.drop_of_length_le h]; simp
theorem getD_some {α:Type} {l:List α} {j:Nat} (h:j < l.length) (d:α):l[j]?=some (l.getD j d):=by
 rw [bb,O7 h]; rfl
def ListAt (st:Q2) (V:PV) (xs:List PV):Prop:=V=.lst xs\/V=.fro xs\/∃ i,V=.ref i/\st[i]?=some (.lst xs)
theorem ListAt.ix {st:Q2} {V:PV} {xs:List PV} (h:ListAt st V xs) (j:Int):oIx st V (.int j)=okO st (atI xs j):=by
 rcases h with rfl | rfl | ⟨i,rfl,e⟩
 ·rfl
 ·rfl
 ·rw [Qwd,e]
theorem ListAt.len {st:Q2} {V:PV} {xs:List PV} (h:ListAt st V xs):Yr st [V]=.ok (.int xs.length) st:=by
 rcases h with rfl | rfl | ⟨i,rfl,e⟩
 ·rfl
 ·rfl
 ·rw [Qmy,e]
theorem ListAt.src {st:Q2} {V:PV} {xs:List PV} (h:ListAt st V xs):∃ w,Xb st V=some (xs,w)/\wOk w st:=by
 rcases h with rfl | rfl | ⟨i,rfl,e⟩
 ·exact ⟨[],rfl,by simp⟩
 ·exact ⟨[],rfl,by simp⟩
 ·exact ⟨[(i,.lst xs)],by rw [Qnr,e],by simp [wOk,e]⟩
theorem Qif {α:Type} (g:α->PV) {xs:List α} (I:Nat->List PV->Q2->Prop) {ga:GA} {me:ME} {w:Wt} {Γ0:Gam} (B:∀ i j st,I i j st->wOk w st)
  (h:∀ (i:Nat) x j st,xs[i]?=some x->I i j st->∃ Γ1,ga (g x) Γ0=some Γ1/\∃ v q,me Γ1 st=.ok v q/\I (i + 1) (j ++ [v]) q) {st:Q2} (h0:I 0 [] st):∃ j st',Jt ga Ju me w Γ0 (xs.map g) st=.ok j st'/\I xs.length j st':=by
 have z:∀ (ys:List α) (k:Nat) (pre:List PV) (st:Q2),(∀ i,ys[i]?=xs[k + i]?)->k + ys.length=xs.length->I k pre st->∃ j st',Jt ga Ju me w Γ0 (ys.map g) st=.ok j st'/\I xs.length (pre ++ j) st':=by
  intro ys
  induction ys with
  | nil=>
   intro k pre st e e2 i;refine ⟨[],st,by simp [Jt,B k pre st i],?_⟩;rw [bv,<- e2]; exact i
  | cons y ys Y=>
   intro k pre st e e2 i;have U:xs[k]?=some y:=by have:=e 0; simpa using this.symm
   obtain ⟨Γ1,h1,v,q,h2,G⟩:=h k y pre st U i;obtain ⟨j,st',J,O⟩:=Y (k + 1) (pre ++ [v]) q (fun i=>by
    have:=e (i + 1);rw [List.getElem?_cons_succ] at this;rw [this]; congr 1; omega) (by rw [<- e2,E3]; omega) G
   refine ⟨v :: j,st',?_,by simpa using O⟩;rw [F5,Jt,bN (B k pre st i),h1];simp [Ju,h2,J]
 obtain ⟨j,st',h1,h2⟩:=z xs 0 [] st (fun i=>by simp) (by simp) h0;exact ⟨j,st',h1,by simpa using h2⟩
@[simp] theorem Qut (ma:ME) (Γ:Gam) (st:Q2):Qbx ma Γ st=(ma Γ st).bind fun p j=>match Uj j p with | some xs=>.ok xs j | none=>.stuck:=rfl
theorem Q20:∀ {xs:List PV},(∀ x∈xs,peq x x=true)->j6 xs xs=true
 | [],_=>rfl
 | x :: xs,h=>by
  rw [j6,h x D3,Q20 fun y j=>h y (D0 _ j)]; rfl
theorem Q3k:∀ {n:Nat} {p:PV},Zv n p=true->peq p p=true
 | n,.non,_=>rfl
 | n,.bl b,_=>by simp [peq]
 | n,.int b,_=>by simp [peq]
 | n,.str b,_=>by simp [peq]
 | n,.ref _,g=>by cases n <;> simp [Zv] at g
 | n,.dic,g=>by cases n <;> simp [Zv] at g
 | 0,.tup _,g=>by simp [Zv] at g
 | 0,.lst _,g=>by simp [Zv] at g
 | 0,.fro _,g=>by simp [Zv] at g
 | n + 1,.tup xs,g=>by
  rw [peq]; refine Q20 fun x j=>Q3k (n:=n) ?_
  simp [Zv] at g; exact g x j
 | n + 1,.lst xs,g=>by
  rw [peq]; refine Q20 fun x j=>Q3k (n:=n) ?_
  simp [Zv] at g; exact g x j
 | n + 1,.fro xs,g=>by
  rw [peq]; refine Q20 fun x j=>Q3k (n:=n) ?_
  simp [Zv] at g; exact g x j
theorem ListAt.eqs {st:Q2} {V:PV} {xs:List PV} (h:ListAt st V xs) (g:Zv dep (.lst xs)=true):oNe st (.lst xs) V=.ok (.bl false) st/\oNe st V (.lst xs)=.ok (.bl false) st/\oEq st (.lst xs) V=.ok (.bl true) st/\oEq st V (.lst xs)=.ok (.bl true) st:=by
 have hp:j6 xs xs=true:=by have:=Q3k g; rwa [peq] at this
 have g2:Zv dep (.fro xs)=true:=g;rcases h with rfl | rfl | ⟨i,rfl,e⟩
 ·simp [oNe,oEq,der,g,peq,hp]
 ·simp [oNe,oEq,der,g,g2,peq,hp]
 ·simp [oNe,oEq,der,g,g2,peq,hp,e]
section
variable {X:Cx} {E:XK} {a b:aD} {ma mb:ME} {pos:Pos}
end
def Yq (body:MS) (nl:Nat):FN:=fun ps st=>match body (ps.map some ++ bT (nl - ps.length) none) st with
 | .rt v st'=>.ok v st'
 | .nx _ st'=>.ok .non st'
 | .exc x st'=>.exc x st'
 | _=>.stuck
section
variable {P:aO} {w:aM} {K:bS} {mg:Str->Option aB} {base:Heap}
theorem Qqw {x qual:Str} {st:aL} {f:aA} {fd:aQ} {N ps:List Str} {k:Nat} {m:MS} (F:Fun K x qual st f fd) (S:FnScope N ps (Q8 st))
  (Z:∀ (q:aB) (A:aR) (outer:List dq) (s:aC) (H:Hp) (E:XK),Room k (A.deeper (du qual (Q8 st) s.heap.objs.size f q))->SimB (cxD P w K mg base N qual (Q8 st) f q A outer s H E) E (Jx st) m) :
  FnOk P w K mg base (CXD P w) (k + 1) f fd ps (spF mg ps.length (Yq m N.length)):=by
 refine Fun.okD F S (fun vs H Q E h=>h.1) fun q A outer s H vs Q E U O=>⟨_,Q7c,?_⟩
 obtain ⟨hl,ρ,G,I,R,rl,j⟩:=O;refine (Z q A outer s H E U).run _ (L2.start N vs) H ρ G _ R (Qaa rl) ?_;unfold Yq at j;cases B:m (I.map some ++ bT (N.length - I.length) none) G with
 | rt v z=>rw [B] at j; exact fun v H' ρ' x J r=>j H' ρ' x J v r
 | nx Γ z=>rw [B] at j; exact fun Y H' ρ' x' J G'=>j H' ρ' x' J .non rfl
 | bk Γ z=>rw [B] at j; exact j.elim
 | ct Γ z=>rw [B] at j; exact j.elim
 | stuck=>rw [B] at j; exact j.elim
 | exc y z=>rw [B] at j; exact j
end
theorem We {P:aO} {w:aM} {K:bS} {mg:Str->Option aB} {base:Heap} {x qual:Str} {st:aL} {f:aA} {fd:aQ} {N ps:List Str} {k n nl:Nat} {m:MS} {z:FN} (F:Fun K x qual st f fd) (S:FnScope N ps (Q8 st)) (B:ps.length=n) (q:N.length=nl) (I:z=Yq m nl)
  (G:∀ (j:aB) (A:aR) (outer:List dq) (s:aC) (H:Hp) (E:XK),Room k (A.deeper (du qual (Q8 st) s.heap.objs.size f j))->SimB (cxD P w K mg base N qual (Q8 st) f j A outer s H E) E (Jx st) m) :
  FnOk P w K mg base (CXD P w) (k + 1) f fd ps (spF mg n z):=by
 subst B; subst q; subst I;exact Qqw F S G
end Sm
namespace Sm
open PySem PySem.Spec PyProof.Rows L2
section
variable {X:Cx} {E:XK} {pos:Pos} {a b:aD} {ma mb:ME}
end
end Sm
namespace Sm
open PySem PySem.Spec L2
def Q2z (w:Str):V:=if w = "make" then .int 3 else if w = "lend" then .int 4 else if w = "use" then .int 3 else .non
structure PartsOk (P:aO) (w:aM) (K:bS) (mg:Str->Option aB):Prop where
 ex:∃ (a:aA) (o:Obj) (es:Array DictEntry) (ep:Nat),mg "PARTS_OF_DEED" = some (.ref a)/\K.lookup a=some o/\o.cls=.type "dict" /\ o.ExactDict/\o.data=.dict es ep/\KeysOf (J4 P w) es/\(a == aj)=false/\∀ x,RelV (Q2z x) ((findBy (J4 P w).is es (.inr x)).getD .none)
def Qfa (m:ME):ME:=fun Γ st=>(m Γ st).bind fun p st1=>match p with
 | .str x=>if x = "make" then .ok (.int 3) st1 else if x = "lend" then .ok (.int 4) st1 else if x = "use" then .ok (.int 3) st1 else .ok .non st1
 | _=>.stuck
section
variable {X:Cx} {E:XK} {pos:Pos} {e:aD} {m:ME}
theorem Qjh {p apos cpos:Pos} (PO:PartsOk X.prog X.w X.K X.mg) (O:Gl X "PARTS_OF_DEED") (he:SimE X E e m)
  (base:am (.Name "PARTS_OF_DEED" p) "get" X.env (aN (.Name "PARTS_OF_DEED" p) X.env)=aN (.Name "PARTS_OF_DEED" p) X.env:=by rfl)
  (few:((aW cpos (aP [e] X.env)).all (fun x=>!x.1) && (backToKw cpos (keywordEach [] X.env)).all (fun x=>x.1.isSome)
   && decide (([e]:List aD).length + ([]:List Keyword).length + (if ([]:List Keyword).isEmpty then 0 else 1) < 30))=true:=by rfl)
  (line:(apos.endLine == cpos.line)=true:=by rfl) (trees:aW cpos (aP [e] X.env)=[(false,aN e X.env)]:=by rfl) :
  SimE X E (.Call (.Attribute (.Name "PARTS_OF_DEED" p) "get" apos) [e] [] cpos) (Qfa m):=by
 obtain ⟨a,o,es,ep,pm,pl,Y,pe,pd,U,ps,J⟩:=PO.ex;refine ⟨fun Γ σ H ρ st Q R G h=>WE.of (Qd9 (val:=Q2z) O pm pl Y pe pd U ps J Yv (by decide) base few line trees) (he.use R G h.bind fun q j H1 ρ1 v x1 B G1 Z h1=>?_)⟩;cases q with
 | str x=>
  cases Z;have h1:Acc X.mg E H1 ρ1 (QV Q) (if x = "make" then .ok (.int 3) j else if x = "lend" then .ok (.int 4) j else if x = "use" then .ok (.int 3) j else .ok .non j):=h1
  by_cases a1:x = "make"
  ·rw [bN a1] at h1;exact ⟨x,rfl,by unfold Q2z; rw [bN a1]; exact now B h1 rfl⟩
  ·rw [bO a1] at h1
   by_cases z:x = "lend"
   ·rw [bN z] at h1;exact ⟨x,rfl,by unfold Q2z; rw [bO a1,bN z]; exact now B h1 rfl⟩
   ·rw [bO z] at h1
    by_cases I:x = "use"
    ·rw [bN I] at h1;exact ⟨x,rfl,by unfold Q2z; rw [bO a1,bO z,bN I]; exact now B h1 rfl⟩
    ·rw [bO I] at h1;exact ⟨x,rfl,by unfold Q2z; rw [bO a1,bO z,bO I]; exact now B h1 rfl⟩
 | _=>exact h1.elim
end
section
theorem Qkb {P:aO} {w:aM} {K:bS} {mg:Str->Option aB} {G:aA} {t1 t2 t3 B q j:Tok} {Z:Nat} (Y:mg "PARTS_OF_DEED" = some (.ref G))
  (lk:K.lookup G=some ⟨.type "dict",none,.dict #[⟨PyData.keyHash w.params "make",.str "make" t1,.int 3 B⟩,⟨PyData.keyHash w.params "lend",.str "lend" t2,.int 4 q⟩,⟨PyData.keyHash w.params "use",.str "use" t3,.int 3 j⟩] Z,#[]⟩) (hp:(G == aj)=false):PartsOk P w K mg:=by
 refine ⟨G,_,_,_,Y,lk,rfl,⟨rfl,rfl,rfl⟩,rfl,fun e U=>?_,hp,fun x=>?_⟩
 ·simp only [gm,D8,cQ,or_false] at U;rcases U with rfl | rfl | rfl
  ·exact ⟨.inr "make",by simp [J4,qx,br],rfl⟩
  ·exact ⟨.inr "lend",by simp [J4,qx,br],rfl⟩
  ·exact ⟨.inr "use",by simp [J4,qx,br],rfl⟩
 ·unfold Q2z
  by_cases e1:x = "make"
  ·rw [bN e1]; subst e1;have:findBy (J4 P w).is #[⟨PyData.keyHash w.params "make",.str "make" t1,.int 3 B⟩,⟨PyData.keyHash w.params "lend",.str "lend" t2,.int 4 q⟩,⟨PyData.keyHash w.params "use",.str "use" t3,.int 3 j⟩] (.inr "make")=some (.int 3 B):=by first | rfl | decide +kernel
   rw [this]; exact ⟨_,rfl⟩
  ·rw [bO e1]
   by_cases e2:x = "lend"
   ·rw [bN e2]; subst e2;have:findBy (J4 P w).is #[⟨PyData.keyHash w.params "make",.str "make" t1,.int 3 B⟩,⟨PyData.keyHash w.params "lend",.str "lend" t2,.int 4 q⟩,⟨PyData.keyHash w.params "use",.str "use" t3,.int 3 j⟩] (.inr "lend")=some (.int 4 q):=by first | rfl | decide +kernel
    rw [this]; exact ⟨_,rfl⟩
   ·rw [bO e2]
    by_cases e3:x = "use"
    ·rw [bN e3]; subst e3;have:findBy (J4 P w).is #[⟨PyData.keyHash w.params "make",.str "make" t1,.int 3 B⟩,⟨PyData.keyHash w.params "lend",.str "lend" t2,.int 4 q⟩,⟨PyData.keyHash w.params "use",.str "use" t3,.int 3 j⟩] (.inr "use")=some (.int 3 j):=by first | rfl | decide +kernel
     rw [this]; exact ⟨_,rfl⟩
    ·rw [bO e3];have J:¬ (bR "make" = x):=fun z=>e1 z.symm
     have I:¬ (bR "lend" = x):=fun z=>e2 z.symm
     have O:¬ (bR "use" = x):=fun z=>e3 z.symm
     have:findBy (J4 P w).is #[⟨PyData.keyHash w.params "make",.str "make" t1,.int 3 B⟩,⟨PyData.keyHash w.params "lend",.str "lend" t2,.int 4 q⟩,⟨PyData.keyHash w.params "use",.str "use" t3,.int 3 j⟩] (.inr x)=none:=by
      simp [findBy,J4,qx,br,J,I,O]
     rw [this]; rfl
end
def Q5e (k1 k2 k3:Str) (p1 p2 p3:PV) (st4:Q2):PV->Res PV
 | .str x=>if x=k1 then .ok p1 st4 else if x=k2 then .ok p2 st4 else if x=k3 then .ok p3 st4 else .stuck
 | _=>.stuck
def Qdt (k1 k2 k3:Str) (m1 m2 m3 mi:ME):ME:=fun Γ st=>(m1 Γ st).bind fun p1 st1=>(m2 Γ st1).bind fun p2 st2=>(m3 Γ st2).bind fun p3 st3=>(mi Γ st3).bind fun q st4=>Q5e k1 k2 k3 p1 p2 p3 st4 q
section
variable {X:Cx} {E:XK} {pos dpos:Pos} {e1 e2 e3 i:aD} {m1 m2 m3 mi:ME} {k1 k2 k3:Str} {j1 j2 j3:Nat} {q1 q2 q3:Pos}
theorem Qny (hu:X.A.units + 1 < ae) (h1:SimE X E e1 m1) (h2:SimE X E e2 m2) (h3:SimE X E e3 m3) (hi:SimE X E i mi) (hs:Qrc i) (a9:k1≠k2:=by decide) (a7:k1≠k3:=by decide) (a6:k2≠k3:=by decide) :
  SimE X E (.Subscript (.Dict [some (.Constant (.str k1) j1 q1),some (.Constant (.str k2) j2 q2),some (.Constant (.str k3) j3 q3)] [e1,e2,e3] dpos) i pos) (Qdt k1 k2 k3 m1 m2 m3 mi):=by
 refine ⟨fun Γ σ H ρ st Q R G h=>WE.of (Qfz hu (Qfy (xh Q1a Yv (xh Q1a Yv (xh Q1a Yv Qfx))) rfl rfl (by simp) (by simp)) Yv hs) ?_⟩;intro p hp;have x0:Ext H ρ (upd H p (.dK [])) (ρ.hide p):=Ext.hide hp;refine h1.use' (R.hide hp) (G.hide hp) (h.bind.later x0) fun a1 b5 H1 ρ1 J f1 x1 R1 G1 r1 _=>?_
 have h:=h;unfold Qdt at h;rw [f1] at h;have h:Acc X.mg E H ρ (QV Q) ((m2 Γ b5).bind fun p2 a5=>(m3 Γ a5).bind fun p3 I=>(mi Γ I).bind fun q j=>Q5e k1 k2 k3 a1 p2 p3 j q):=h
 refine h2.use' R1 G1 (h.bind.later (x0.trans x1)) fun a2 a5 H2 b6 U f2 x2 R2 G2 r2 _=>?_
 rw [f2] at h;have h:Acc X.mg E H ρ (QV Q) ((m3 Γ a5).bind fun p3 I=>(mi Γ I).bind fun q j=>Q5e k1 k2 k3 a1 a2 p3 j q):=h
 refine h3.use' R2 G2 (h.bind.later ((x0.trans x1).trans x2)) fun a3 I H3 Z O f3 x3 R3 G3 r3 _=>?_
 rw [f3] at h;have h:Acc X.mg E H ρ (QV Q) ((mi Γ I).bind fun q j=>Q5e k1 k2 k3 a1 a2 a3 j q):=h
 have a8:Ext H ρ H3 Z:=((x0.trans x1).trans x2).trans x3;have xe:Ext (upd H p (.dK [])) (ρ.hide p) H3 Z:=(x1.trans x2).trans x3;have b4:p∉(ρ.hide p).tr:=fun z=>R.fresh hp (.inl z)
 have b0:H3 p=some (.dK []):=xe.keep p _ Je b4;have B:p∈Z.hid:=xe.hidM p D3;refine ⟨b0,[(.inr k1,J),(.inr k2,U),(.inr k3,O)],rfl,by simp,?_⟩;have hm:Q0g [] [((.inr k1:Key),J),(.inr k2,U),(.inr k3,O)]=[(.inr k1,J),(.inr k2,U),(.inr k3,O)]:=by
  simp [Q0g,Q9i,a9,a7,a6]
 rw [hm];obtain ⟨o,ho⟩:∃ o:HO,o=.dK [(.inr k1,J),(.inr k2,U),(.inr k3,O)]:=⟨_,rfl⟩;rw [<- ho];have y:Ext H ρ (upd H3 p o) Z:=a8.put0 hp;refine hi.use' (R3.rehide B (by intro _ z; rw [ho] at z; cases z)) (G3.rehide B) (h.bind.later y) fun q j H4 a4 v4 f4 x4 R4 G4 r4 _=>?_
 rw [f4] at h;have h:Acc X.mg E H ρ (QV Q) (Q5e k1 k2 k3 a1 a2 a3 j q):=h;have yz:Ext H ρ H4 a4:=y.trans x4;have Y:H4 p=some o:=x4.keep p _ Je fun z=>R3.ap p B z
 have g1:Rep H4 a4 a1 J:=(((r1.ext x2).ext x3).rehide B).ext x4;have g2:Rep H4 a4 a2 U:=((r2.ext x3).rehide B).ext x4;have g3:Rep H4 a4 a3 O:=(r3.rehide B).ext x4;cases q with
 | str x=>
  cases r4;have h:Acc X.mg E H ρ (QV Q) (if x=k1 then .ok a1 j else if x=k2 then .ok a2 j else if x=k3 then .ok a3 j else .stuck):=h;rw [ho] at Y
  by_cases b1:x=k1
  ·rw [bN b1] at h;refine ⟨p,J,rfl,?_,h _ _ yz.unhide (R4.unhide yz.hidM) _ (g1.unhide yz.hidM)⟩;have:=DGet.k (k:=.inr x) Y
   rwa [show jp [((.inr k1:Key),J),(.inr k2,U),(.inr k3,O)] (.inr x)=some J by rw [b1]; simp [jp]] at this
  ·rw [bO b1] at h
   by_cases b2:x=k2
   ·rw [bN b2] at h;refine ⟨p,U,rfl,?_,h _ _ yz.unhide (R4.unhide yz.hidM) _ (g2.unhide yz.hidM)⟩;have:=DGet.k (k:=.inr x) Y
    rwa [show jp [((.inr k1:Key),J),(.inr k2,U),(.inr k3,O)] (.inr x)=some U by rw [b2]; simp [jp,a9]] at this
   ·rw [bO b2] at h
    by_cases b3:x=k3
    ·rw [bN b3] at h;refine ⟨p,O,rfl,?_,h _ _ yz.unhide (R4.unhide yz.hidM) _ (g3.unhide yz.hidM)⟩;have:=DGet.k (k:=.inr x) Y
     rwa [show jp [((.inr k1:Key),J),(.inr k2,U),(.inr k3,O)] (.inr x)=some O by rw [b3]; simp [jp,a7,a6]] at this
    ·rw [bO b3] at h; exact h.elim
 | _=>exact h.elim
end
def Qbw (x name:Str) (m:ME):MS:=fun Γ st=>(m Γ st).sbind fun p st1=>.exc ⟨x,some (name,p)⟩ st1
section
variable {X:Cx} {E:XK} {pos:Pos} {e:aD} {m:ME}
theorem Qh6 {x name:Str} {C W f:aA} {fd:aQ} {k:Nat} {ps:List Str} {np cpos:Pos} (j:X.calm=true) (RO:Q91 X E) (M:XMade X.K C W f) (Y:FnOk X.prog X.w X.K X.mg X.base CX0 k f fd ps (Q6z C name)) (U:Room (k + 1) X.A)
  (Z:Binds X.K fd ps []) (O:Gl X x) (J:X.mg x=some (.ref C)) (he:SimE X E e m) (B:(x == ("__debug__" : Str))=false:=by decide) (q:aP [e] X.env=[(false,aN e X.env)]:=by rfl) :
  SimS X E (.Raise (some (.Call (.Name x np) [e] [] cpos)) none pos) (Qbw x name m):=
 ⟨fun Γ σ H ρ st D R G h=>WS.of (Qhf j RO M Y U Z O J (zw Yv Q4p (by rw [q]; rfl)) B q) (he.use R G h.bind fun p a2 H1 ρ1 v x1 I G1 r1 h1=>
  ⟨v,rfl,fun dx z=>h1 C (some dx) _ ρ1 J (Ext.add z) (I.add z) ⟨dx,v,rfl,Je,I.fresh z,r1.ext (Ext.add z)⟩⟩)⟩
end
@[simp] theorem Qus (m:ME) (Γ:Gam) (st:Q2):Qfa m Γ st=(m Γ st).bind fun p j=>(match p with
 | .str x=>if x = "make" then .ok (.int 3) j else if x = "lend" then .ok (.int 4) j else if x = "use" then .ok (.int 3) j else .ok .non j
 | _=>.stuck):=rfl
@[simp] theorem Qkv (k1 k2 k3:Str) (m1 m2 m3 mi:ME) (Γ:Gam) (st:Q2):Qdt k1 k2 k3 m1 m2 m3 mi Γ st=(m1 Γ st).bind fun I B=>(m2 Γ B).bind fun p2 G=>(m3 Γ G).bind fun J j=>(mi Γ j).bind fun q z=>Q5e k1 k2 k3 I p2 J z q:=rfl
@[simp] theorem Q4n (k1 k2 k3:Str) (q p2 z:PV) (j:Q2) (x:Str):Q5e k1 k2 k3 q p2 z j (.str x)=if x=k1 then .ok q j else if x=k2 then .ok p2 j else if x=k3 then .ok z j else .stuck:=rfl
@[simp] theorem Qtq (x name:Str) (m:ME) (Γ:Gam) (st:Q2):Qbw x name m Γ st=(m Γ st).sbind fun p j=>.exc ⟨x,some (name,p)⟩ j:=rfl
theorem V8 {k:Nat} {A:aR} (r:Room k A):A.units + 1 < ae:=by have:=r.un; omega
section
variable {X:Cx} {E:XK}
end
section
variable {H0 H:Hp} {ρ0 ρ:Tk} {st:Q2} {a:aA} {ps:List (Key × PV)} {vs:List (Key × V)}
theorem Qkc (Y:Rel H0 ρ0 st) (x:Ext H0 ρ0 H ρ) {j:Q2} (R:Rel H ρ j) (G:a∈ρ.hid) (O:H0 a=none) (ha:H a=some (.dK vs)) (r:RepD H ρ ps vs) :
  Ext H0 ρ0 H ⟨ρ.tr ++ [a],ρ0.hid⟩/\Rel H ⟨ρ.tr ++ [a],ρ0.hid⟩ (j ++ [.dic ps])/\Rep H ⟨ρ.tr ++ [a],ρ0.hid⟩ (.ref j.length) (.ref a):=by
 have J:a∉ρ0.hid:=fun z=>by
  obtain ⟨o,e,_⟩:=Y.hd a z;rw [O] at e; cases e
 refine ⟨⟨x.pre.trans (dH _ _),fun _ h=>h,fun _ h=>.inl h,x.keep,fun b B=>?_,x.old,x.frz⟩,⟨?_,?_,fun b B=>R.hd b (x.hidM b B),fun b B z=>?_,fun i b c h1 h2=>?_⟩,a,?_,rfl⟩
 ·rcases E9.mp B with z | z
  ·exact x.new b z
  ·have:b=a:=by simpa using z
   subst this; exact .inr O
 ·show (ρ.tr ++ [a]).length=_;rw [O3,O3,R.len]; rfl
 ·show (ρ.tr ++ [a]).Nodup;refine dh.mpr ⟨R.nd,by simp,fun b B c Z e=>?_⟩;have:c=a:=by simpa using Z
  subst this; subst e;exact R.ap b G B
 ·rcases E9.mp z with z | z
  ·exact R.ap b (x.hidM b B) z
  ·have:b=a:=by simpa using z
   subst this; exact J B
 ·have h1:(ρ.tr ++ [a])[i]?=some b:=h1
  by_cases hi:i < j.length
  ·rw [O5 (by rw [R.len]; exact hi)] at h1;rw [O5 hi] at h2;have q:=R.cell i b c h1 h2;cases c with
   | lst I=>
    obtain ⟨us,e1,e2⟩:=q;exact ⟨us,e1,e2.trk G x.hidM⟩
   | dic I=>
    obtain ⟨us,e1,e2⟩:=q;exact ⟨us,e1,e2.1,e2.2.trk G x.hidM⟩
   | dtp I=>
    obtain ⟨us,e1,e2⟩:=q;exact ⟨us,e1,e2.1,e2.2.trk G x.hidM⟩
   | frd I=>
    obtain ⟨us,e1,e2⟩:=q;exact ⟨us,e1,e2.1,e2.2.trk G x.hidM⟩
   | obj C I=>
    obtain ⟨us,e1,e2⟩:=q;exact ⟨us,e1,e2.1,e2.2.trk G x.hidM⟩
  ·rw [O9 (by rw [R.len]; omega)] at h1;rw [O9 (by omega)] at h2;have U:i - j.length=0:=by
    rcases fJ (i - j.length) with z | z
    ·exact z
    ·rw [F6 (by simp; omega)] at h2; cases h2
   rw [R.len,U] at h1;rw [U] at h2;simp at h1 h2;subst h1; subst h2;exact ⟨vs,ha,r.1,r.2.trk G x.hidM⟩
 ·show (ρ.tr ++ [a])[j.length]?=some a;rw [<- R.len,O9 (O8 _),cy]; rfl
end
def Q2a (kvs:List (Key × PV)) (k:Key):Option PV:=(kvs.find? fun kv=>decide (kv.1=k)).map (·.2)
def Qm3:PV->Option Key
 | .int i=>some (.inl i)
 | .str x=>some (.inr x)
 | _=>none
theorem Qp1 {H:Hp} {ρ:Tk} {p:PV} {v:V} {k:Key} (e:Qm3 p=some k) (r:Rep H ρ p v):v=kV k:=by
 cases p with
 | int i=>cases e; exact r
 | str x=>cases e; exact r
 | _=>cases e
theorem Qd3 {H:Hp} {ρ:Tk}:∀ {kvs:List (Key × PV)} {vs:List (Key × V)},RepD H ρ kvs vs->∀ k:Key,(Q2a kvs k=none/\jp vs k=none)\/∃ p v,Q2a kvs k=some p/\jp vs k=some v/\Rep H ρ p v
 | [],[],_,k=>.inl ⟨rfl,rfl⟩
 | [],_ :: _,r,_=>by have:=r.length; cases this
 | _ :: _,[],r,_=>by have:=r.length; cases this
 | (k1,z) :: kvs,(k2,j) :: vs,r,k=>by
  obtain ⟨G,v,t,e,I,B⟩:=r;have e1:k2=k1/\vs.map cP=kvs.map cP:=by
   have:k2 :: vs.map cP=k1 :: kvs.map cP:=G;exact List.cons.inj this
  have e2:j :: vs.map fH=v :: t:=e;cases e2;obtain ⟨rfl,e3⟩:=e1
  by_cases q:k2=k
  ·exact .inr ⟨z,j,by simp [Q2a,q],by simp [jp,q],I⟩
  ·have O:=Qd3 (kvs:=kvs) (vs:=vs) ⟨e3,B⟩ k;have a1:Q2a ((k2,z) :: kvs) k=Q2a kvs k:=by simp [Q2a,cO,q]
   have J:jp ((k2,j) :: vs) k=jp vs k:=by simp [jp,cO,q]
   rw [a1,J]; exact O
section
variable {X:Cx} {E:XK} {pos dpos apos cpos:Pos} {e e1 e2 e3 i o f:aD} {m m1 m2 m3 mi mo mf:ME} {k1 k2 k3:Str} {j1 j2 j3:Nat} {q1 q2 q3:Pos}
def Qby (k1 k2 k3:Str) (m1 m2 m3:ME):ME:=fun Γ st=>(m1 Γ st).bind fun p1 st1=>(m2 Γ st1).bind fun p2 st2=>(m3 Γ st2).bind fun p3 st3=>.ok (.ref st3.length) (st3 ++ [.dic [(.inr k1,p1),(.inr k2,p2),(.inr k3,p3)]])
theorem Qji (h1:SimE X E e1 m1) (h2:SimE X E e2 m2) (h3:SimE X E e3 m3) (a9:k1≠k2:=by decide) (a6:k1≠k3:=by decide) (a5:k2≠k3:=by decide) :
  SimE X E (.Dict [some (.Constant (.str k1) j1 q1),some (.Constant (.str k2) j2 q2),some (.Constant (.str k3) j3 q3)] [e1,e2,e3] dpos) (Qby k1 k2 k3 m1 m2 m3):=by
 refine ⟨fun Γ σ H ρ st Q R G h=>WE.of (Qfy (xh Q1a Yv (xh Q1a Yv (xh Q1a Yv Qfx))) rfl rfl (by simp) (by simp)) ?_⟩;intro p hp;have x0:Ext H ρ (upd H p (.dK [])) (ρ.hide p):=Ext.hide hp;refine h1.use' (R.hide hp) (G.hide hp) (h.bind.later x0) fun a1 a8 H1 ρ1 I f1 x1 R1 G1 r1 _=>?_
 have h:=h;unfold Qby at h;rw [f1] at h;have h:Acc X.mg E H ρ (QV Q) ((m2 Γ a8).bind fun p2 O=>(m3 Γ O).bind fun p3 j=>.ok (.ref j.length) (j ++ [.dic [(.inr k1,a1),(.inr k2,p2),(.inr k3,p3)]])):=h
 refine h2.use' R1 G1 (h.bind.later (x0.trans x1)) fun a2 O H2 b0 U f2 x2 R2 G2 r2 _=>?_
 rw [f2] at h;have h:Acc X.mg E H ρ (QV Q) ((m3 Γ O).bind fun p3 j=>.ok (.ref j.length) (j ++ [.dic [(.inr k1,a1),(.inr k2,a2),(.inr k3,p3)]])):=h
 refine h3.use' R2 G2 (h.bind.later ((x0.trans x1).trans x2)) fun a3 j Z B J f3 x3 R3 G3 r3 _=>?_
 rw [f3] at h;have h:Acc X.mg E H ρ (QV Q) (.ok (.ref j.length) (j ++ [.dic [(.inr k1,a1),(.inr k2,a2),(.inr k3,a3)]])):=h;have Y:Ext H ρ Z B:=((x0.trans x1).trans x2).trans x3;have xe:Ext (upd H p (.dK [])) (ρ.hide p) Z B:=(x1.trans x2).trans x3;have a7:p∉(ρ.hide p).tr:=fun z=>R.fresh hp (.inl z)
 have a4:Z p=some (.dK []):=xe.keep p _ Je a7;have q:p∈B.hid:=xe.hidM p D3;refine ⟨a4,[(.inr k1,I),(.inr k2,U),(.inr k3,J)],rfl,by simp,?_⟩;have hm:Q0g [] [((.inr k1:Key),I),(.inr k2,U),(.inr k3,J)]=[(.inr k1,I),(.inr k2,U),(.inr k3,J)]:=by
  simp [Q0g,Q9i,a9,a6,a5]
 rw [hm];have y:Ext H ρ (upd Z p (.dK [(.inr k1,I),(.inr k2,U),(.inr k3,J)])) B:=Y.put0 hp;have g1:=((r1.ext x2).ext x3).rehide (o:=.dK [(.inr k1,I),(.inr k2,U),(.inr k3,J)]) q;have g2:=(r2.ext x3).rehide (o:=.dK [(.inr k1,I),(.inr k2,U),(.inr k3,J)]) q;have g3:=r3.rehide (o:=.dK [(.inr k1,I),(.inr k2,U),(.inr k3,J)]) q;obtain ⟨x5,R5,r5⟩:=Qkc (ps:=[(.inr k1,a1),(.inr k2,a2),(.inr k3,a3)]) R y (R3.rehide q) q hp Je ⟨rfl,RepL.cons g1 (RepL.cons g2 (RepL.cons g3 RepL.nil))⟩;exact h _ _ x5 R5 _ r5
@[simp] theorem Qi0 (Γ:Gam) (st:Q2):Qby k1 k2 k3 m1 m2 m3 Γ st=(m1 Γ st).bind fun B q=>(m2 Γ q).bind fun p2 z=>(m3 Γ z).bind fun G j=>.ok (.ref j.length) (j ++ [.dic [(.inr k1,B),(.inr k2,p2),(.inr k3,G)]]):=rfl
end
def Qb2 (st:Q2):PV->Option (List (Key × PV))
 | .ref i=>match st[i]? with
  | some (.dic kvs)=>some kvs
  | some (.frd kvs)=>some kvs
  | _=>none
 | _=>none
theorem Qmh {H:Hp} {ρ:Tk} {st:Q2} {p:PV} {v:V} {kvs:List (Key × PV)} (R:Rel H ρ st) (r:Rep H ρ p v) (e:Qb2 st p=some kvs):∃ i a vs,p=.ref i/\v=.ref a/\ρ.tr[i]?=some a/\Rd H a (.dK vs)/\RepD H ρ kvs vs:=by
 cases p with
 | ref i=>
  obtain ⟨a,B,rfl⟩:=r;unfold Qb2 at e;cases z:st[i]? with
  | none=>simp only [z] at e; cases e
  | some c=>
   simp only [z] at e;cases c with
   | dic q=>
    cases e;obtain ⟨b,vs,j,G,rd⟩:=R.dic z;rw [B] at j;cases j;exact ⟨i,a,vs,rfl,rfl,B,.inl G,rd⟩
   | frd q=>
    cases e;obtain ⟨b,vs,o,j,G,rd⟩:=R.frd z;rw [B] at j;cases j;exact ⟨i,a,vs,rfl,rfl,B,.inr ⟨o,G⟩,rd⟩
   | lst xs=>cases e
   | dtp xs=>cases e
   | obj C xs=>cases e
 | _=>cases e
theorem DGet.kr {H:Hp} {a:aA} {kvs:List (Key × V)} {k:Key} (e:Rd H a (.dK kvs)):DGet H a (kV k) (jp kvs k):=.inl ⟨kvs,k,e,rfl,rfl⟩
section
variable {X:Cx} {E:XK} {pos dpos tpos:Pos} {e i o k:aD} {m mi mo mk:ME}
def Qzq (neg:Bool):OP:=fun st p q=>match Qb2 st q,Qm3 p with
 | some kvs,some k=>.ok (.bl ((Q2a kvs k).isSome != neg)) st
 | _,_=>.stuck
def Q5i (st:Q2) (p q:PV):Res PV:=match Qb2 st p,Qm3 q with
 | some kvs,some k=>match Q2a kvs k with
  | some v=>.ok v st
  | none=>.stuck
 | _,_=>.stuck
def Ws (mo mi:ME):ME:=fun Γ st=>(mo Γ st).bind fun p st1=>(mi Γ st1).bind fun q st2=>Q5i st2 p q
theorem Wk (U:X.A.units + 1 < ae) (Z:SimE X E o mo) (hi:SimE X E i mi) (hs:Qrc i):SimE X E (.Subscript o i pos) (Ws mo mi):=
 ⟨fun Γ σ H ρ st Q R G h=>WE.of (Qfz U Yv Yv hs) (Z.use R G h.bind fun p O H1 ρ1 v1 x1 I z r1 h1=>hi.use I z h1.bind fun q a4 H2 J v2 x2 R2 G2 B h2=>by
  unfold Q5i at h2
  split at h2
  ·rename_i kvs k e1 e2
   split at h2
   ·rename_i w e3;obtain ⟨n,a,vs,rfl,rfl,_,hb,rd⟩:=Qmh R2 (r1.ext x2) e1;have j:=Qp1 e2 B;subst j;rcases Qd3 rd k with ⟨a1,_⟩ | ⟨p,v,a1,Y,a3⟩
    ·rw [a1] at e3; cases e3
    ·rw [a1] at e3;cases e3;exact ⟨a,v,rfl,by have:=DGet.kr (k:=k) hb; rwa [Y] at this,now R2 h2 a3⟩
   ·exact h2.elim
  ·exact h2.elim)⟩
end
section
variable {X:Cx} {E:XK} {pos dpos tpos:Pos} {e i o k:aD} {m mi mo mk:ME} {tg:aD}
end
section
variable {X:Cx} {E:XK}
end
end Sm
namespace Sm
open PySem PySem.Spec PyProof.Rows L2
section
variable {X:Cx} {E:XK}
end
end Sm
namespace Sm
open PySem PySem.Spec L2
section
variable {X:Cx} {E:XK} {pos apos tp:Pos} {e:aD} {m:ME} {elts:List aD} {kt:Nat}
end
section
variable {X:Cx} {E:XK} {pos dpos tpos:Pos} {e i o k:aD} {m mi mo mk:ME}
end
section
variable {X:Cx} {E:XK}
end
section
variable {X:Cx} {E:XK} {a:aD} {ma:ME} {pos:Pos}
end
end Sm
namespace Sm
open PySem PySem.Spec L2 SeqAt
section
variable {X:Cx} {E:XK}
variable {o:aD} {mo:ME} {apos cpos:Pos}
end
end Sm
namespace Sm
open PySem PySem.Spec L2 SeqAt
section
variable {X:Cx} {E:XK}
variable {e o i:aD} {m mo mi:ME} {pos tpos:Pos}
end
end Sm
namespace L2
open PySem PySem.Spec PyProof.Rows
end L2
namespace Sm
open PySem PySem.Spec PyProof.Rows L2
section
variable {X:Cx} {E:XK} {pos:Pos} {e:aD} {m:ME}
end
end Sm
namespace Sm
open PySem PySem.Spec PyProof.Rows L2
section
variable {X:Cx} {E:XK} {tg:aD} {a b c:aD} {mr:ML} {p pos:Pos}
end
end Sm
namespace Sm
open PySem PySem.Spec L2
section
variable {X:Cx} {E:XK} {o:aD} {mo:ME} {apos cpos:Pos} {to:TE}
end
section
variable {X:Cx}
end
def xg (f:Str) (p:PV):List (Str × PV)->List (Str × PV)
 | []=>[(f,p)]
 | (g,x) :: r=>if g=f then (g,p) :: r else (g,x) :: xg f p r
section
variable {H:Hp} {ρ:Tk}
theorem Qaj {κ:Type} {fs:List (κ × PV)} {vs:List (κ × V)} {g:κ} {x:PV}:RepD H ρ ((g,x) :: fs) vs->∃ v r,vs=(g,v) :: r/\Rep H ρ x v/\RepD H ρ fs r:=fun ⟨h1,h2⟩=>by
 cases vs with
 | nil=>cases h1
 | cons a r=>
  obtain ⟨k,v⟩:=a;simp only [F5,List.cons.injEq] at h1;obtain ⟨u,t,e,q,j⟩:=h2;cases e;exact ⟨v,r,by rw [h1.1],q,h1.2,j⟩
theorem Q4m {κ:Type} {fs:List (κ × PV)} {vs:List (κ × V)} {g:κ} {x:PV} {v:V} (h:Rep H ρ x v) (r:RepD H ρ fs vs):RepD H ρ ((g,x) :: fs) ((g,v) :: vs):=
 ⟨by simp only [F5,r.1],v,_,rfl,h,r.2⟩
theorem Qai {f:Str} {p:PV} {v:V} (h:Rep H ρ p v):∀ {fs:List (Str × PV)} {vs:List (Str × V)},RepD H ρ fs vs->RepD H ρ (xg f p fs) (Q0b f v vs)
 | [],vs,r=>by
  have:vs=[]:=by have:=r.1; simpa using this
  subst this;exact Q4m h ⟨rfl,rfl⟩
 | (g,x) :: fs,vs,r=>by
  obtain ⟨u,t,rfl,z,j⟩:=Qaj r;rw [xg,Q0b]
  by_cases q:g=f
  ·rw [bN q,bN q]; exact Q4m h j
  ·rw [bO q,bO q]; exact Q4m z (Qai h j)
theorem Q1z {f:Str}:∀ {fs:List (Str × PV)} {vs:List (Str × V)},RepD H ρ fs vs->(∀ p,fs.lookup f=some p->∃ v,vs.lookup f=some v/\Rep H ρ p v)/\(fs.lookup f=none->vs.lookup f=none)
 | [],vs,r=>by
  have:vs=[]:=by have:=r.1; simpa using this
  subst this;exact ⟨fun p e=>(by cases e),fun _=>rfl⟩
 | (g,x) :: fs,vs,r=>by
  obtain ⟨u,t,rfl,B,G⟩:=Qaj r;obtain ⟨z,j⟩:=Q1z (f:=f) G;rw [E6,E6];cases q:f == g with
  | true=>exact ⟨fun p e=>by cases e; exact ⟨u,rfl,B⟩,fun e=>(by cases e)⟩
  | false=>exact ⟨z,j⟩
end
def Q2k (C:aA) (st:Q2) (p:PV):Option (Nat × List (Str × PV)):=match p with
 | .ref i=>match st[i]? with
  | some (.obj C' fs)=>if C'=C then some (i,fs) else none
  | _=>none
 | _=>none
theorem Q3r {C:aA} {H:Hp} {ρ:Tk} {st:Q2} {p:PV} {v:V} {i:Nat} {fs:List (Str × PV)} (R:Rel H ρ st) (r:Rep H ρ p v) (e:Q2k C st p=some (i,fs)):∃ a vs dx,p=.ref i/\v=.ref a/\ρ.tr[i]?=some a/\H a=some (.ins C dx vs)/\RepD H ρ fs vs:=by
 unfold Q2k at e
 split at e
 ·rename_i j
  split at e
  ·rename_i J fs' z
   split at e
   ·rename_i I;cases e;subst I;obtain ⟨a,B,rfl⟩:=r;obtain ⟨b,vs,dx,q,G,rd⟩:=R.obj z;rw [B] at q;cases q;exact ⟨a,vs,dx,rfl,rfl,B,G,rd⟩
   ·cases e
  ·cases e
 ·cases e
section
variable {X:Cx} {E:XK} {o e:aD} {es:List aD} {mo m:ME} {mr:Gam->Q2->Res (List PV)} {C:aA} {f:Str} {pos pos' apos p:Pos}
def Ug (C:aA) (f:Str) (mo:ME):ME:=fun Γ st=>(mo Γ st).bind fun p st1=>match Q2k C st1 p with
 | some (_,fs)=>match fs.lookup f with
  | some q=>.ok q st1
  | none=>.stuck
 | none=>.stuck
theorem U3 (cl:Cls X.K C) (n:NoAttr X.K C f) (Y:SimE X E o mo) (I:am o f X.env (aN o X.env)=aN o X.env:=by rfl):SimE X E (.Attribute o f pos) (Ug C f mo):=
 ⟨fun Γ σ H ρ st Q R G h=>WE.of (Qt4 Yv I) (Y.use R G h.bind fun p U H1 ρ1 v x1 j G1 O h1=>by
  split at h1
  ·rename_i i fs Z
   split at h1
   ·rename_i q B;obtain ⟨a,vs,dx,rfl,rfl,ea,ha,rd⟩:=Q3r j O Z;obtain ⟨u,J,z⟩:=(Q1z rd).1 q B;exact ⟨a,C,dx,vs,u,rfl,ha,cl,n,J,now j h1 z⟩
   ·exact h1.elim
  ·exact h1.elim)⟩
def xj (C:aA) (f:Str) (mo m:ME):MS:=fun Γ st=>(m Γ st).sbind fun p st1=>(mo Γ st1).sbind fun q st2=>match Q2k C st2 q with
 | some (i,fs)=>if fs.length < 1000 then .nx Γ (st2.set i (.obj C (xg f p fs))) else .stuck
 | none=>.stuck
theorem Q00 (cl:Cls X.K C) (n:NoAttr X.K C f) (Y:SimE X E e m) (ho:SimE X E o mo) (hs:swapsWith e (some (.Attribute o f pos')) pos.line X.env=pure false:=by rfl):SimS X E (.Assign [.Attribute o f pos'] e pos) (xj C f mo m):=
 ⟨fun Γ σ H ρ st D R G h=>WS.of (Qst Yv Yv hs) (Y.use R G h.bind fun p a2 H1 ρ1 z x1 R1 U r1 h1=>ho.use R1 U h1.bind fun ov a3 H2 j x x2 R2 J Z h2=>by
  split at h2
  ·rename_i i fs eo
   split at h2
   ·rename_i hl;obtain ⟨a,vs,dx,rfl,rfl,I,B,rd⟩:=Q3r R2 Z eo;have O:=D2 I;have q:Ext H2 j (upd H2 a (.ins C dx (Q0b f z vs))) j:=Ext.put O B;refine ⟨a,C,dx,vs,rfl,B,cl,n,by rw [<- rd.length]; exact hl,h2 σ _ j q (R2.putC I B ⟨_,⟨dx,Je⟩,?_⟩) (J.ext q)⟩;exact (Qai (r1.ext x2) rd).ext q
   ·exact h2.elim
  ·exact h2.elim)⟩
structure MethS (P:aO) (w:aM) (K:bS) (mg:Str->Option aB) (base:Heap) (k:Nat) (C:aA) (x:Str) (n:Nat) (F:FN):Prop where
 ex:∃ (f:aA) (fd:aQ) (ps:List Str),FnOk P w K mg base (CXD P w) k f fd ps (spF mg n F)/\Meth K C x f/\Binds K fd ps []/\ps.length=n
def xk (C:aA) (x:Str) (n:Nat) (F:FN) (mo:ME) (mr:ML):ME:=fun Γ st=>(mo Γ st).bind fun p st1=>match Q2k C st1 p with
 | some (_,fs)=>if fs.lookup x=none then (mr Γ st1).bind fun ps st2=>if ps.length + 1=n then F (p :: ps) st2 else .stuck else .stuck
 | none=>.stuck
theorem Q68 {pl:Sem Bool} {k n:Nat} {x:Str} {F:FN} (cl:Cls X.K C) (D:MethS X.prog X.w X.K X.mg X.base k C x n F) (Z:Room k X.A) (hx:qw (CXD X.prog X.w) X E) (ho:SimE X E o mo) (ha:SimA X E (e :: es) mr)
  (B:aP (e :: es) X.env=(false,aN e X.env) :: aP es X.env:=by rfl) (I:(aW pos (aP es X.env)).any (·.1)=false:=by rfl)
  (ht:aN (.Call (.Attribute o x apos) (e :: es) [] pos) X.env=(do
   let ov <- aN o X.env
   standAt apos.atName
   let (f,first) <- ak [ov] (getMethod ov x pl)
   callWith pos f first (aW pos (aP (e :: es) X.env)) (backToKw pos (keywordEach [] X.env))):=by rfl):SimE X E (.Call (.Attribute o x apos) (e :: es) [] pos) (xk C x n F mo mr):=by
 obtain ⟨f,fd,ps,hF,hm,hb,hl⟩:=D.ex;exact ⟨fun Γ σ H ρ st Q R G h=>WE.of (Qpk Yv cl hm hF Z hb .nil hx Q3m B I ht) (ho.use R G h.bind fun p a2 H1 ρ1 v x1 U G1 Y h1=>by
  split at h1
  ·rename_i i fs eo
   split at h1
   ·rename_i el;obtain ⟨a,vs,dx,rfl,rfl,ea,q,rd⟩:=Q3r U Y eo;refine ⟨a,dx,vs,rfl,q,(Q1z rd).2 el,?_⟩;refine ha.use U G1 h1.bind fun qs J H2 z us x2 R2 G2 O h2=>?_
    by_cases j:qs.length + 1=n
    ·rw [bN j] at h2;show spF X.mg n F (.ref a :: (us ++ [])) H2 Q E;rw [bv];exact ⟨by rw [E3,<- O.length]; exact j,z,J,_,R2,RepL.cons (Y.ext x2) O,h2⟩
    ·rw [bO j] at h2; exact h2.elim
   ·exact h1.elim
  ·exact h1.elim)⟩
theorem Q3e {pl:Sem Bool} {k n:Nat} {x:Str} {F:FN} (cl:Cls X.K C) (D:MethS X.prog X.w X.K X.mg X.base k C x n F) (J:Room k X.A) (hx:qw (CXD X.prog X.w) X E) (ho:SimE X E o mo)
  (U:aN (.Call (.Attribute o x apos) [] [] pos) X.env=(do
   let ov <- aN o X.env
   standAt apos.atName
   let (f,first) <- ak [ov] (getMethod ov x pl)
   callWith pos f first (aW pos (aP [] X.env)) (backToKw pos (keywordEach [] X.env))):=by rfl):SimE X E (.Call (.Attribute o x apos) [] [] pos) (xk C x n F mo Qa):=by
 obtain ⟨f,fd,ps,Y,O,hb,hl⟩:=D.ex;exact ⟨fun Γ σ H ρ st Q R G h=>WE.of (Qk7 Yv cl O Y J hb .nil hx U) (ho.use R G h.bind fun p j H1 ρ1 v x1 B G1 I h1=>by
  split at h1
  ·rename_i i fs eo
   split at h1
   ·rename_i Z;obtain ⟨a,vs,dx,rfl,rfl,ea,z,rd⟩:=Q3r B I eo;refine ⟨a,dx,vs,rfl,z,(Q1z rd).2 Z,?_⟩;have h1:Acc X.mg E H1 ρ1 (QV Q) (if ([]:List PV).length + 1=n then F [.ref i] j else .stuck):=h1
    by_cases q:([]:List PV).length + 1=n
    ·rw [bN q] at h1;show spF X.mg n F (.ref a :: ([] ++ [])) H1 Q E;exact ⟨q,ρ1,j,_,B,RepL.cons I RepL.nil,h1⟩
    ·rw [bO q] at h1; exact h1.elim
   ·exact h1.elim
  ·exact h1.elim)⟩
structure MakeS (P:aO) (w:aM) (K:bS) (mg:Str->Option aB) (base:Heap) (k:Nat) (C:aA) (x:Str) (n:Nat) (F:FN):Prop where
 ex:∃ (f:aA) (fd:aQ) (ps:List Str),FnOk P w K mg base (CXD P w) k f fd ps (spF mg n F)/\Mk K C f/\mg x=some (.ref C)/\Binds K fd ps []/\ps.length=n
def Qrq (C : aA) (n : Nat) (F : FN) (mr : ML) : ME := fun Γ st => (mr Γ st).bind fun ps st1 => if ps.length + 1 = n then (F (.ref st1.length :: ps) (st1 ++ [.obj C []])).bind fun v st2 => match v with
  | .non=>.ok (.ref st1.length) st2
  | _=>.stuck
 else .stuck
theorem Qfu {k n:Nat} {x:Str} {F:FN} (D:MakeS X.prog X.w X.K X.mg X.base k C x n F) (hr:Room (k + 1) X.A) (hx:qw (CXD X.prog X.w) X E) (hg:Gl X x) (ha:SimA X E (e :: es) mr) (a5:(x == ("__debug__" : Str))=false:=by decide)
  (he:aP (e :: es) X.env=(false,aN e X.env) :: aP es X.env:=by rfl) (a4:(aW pos (aP es X.env)).any (·.1)=false:=by rfl):SimE X E (.Call (.Name x p) (e :: es) [] pos) (Qrq C n F mr):=by
 obtain ⟨f,fd,ps,hF,hm,hc,hb,hl⟩:=D.ex;exact ⟨fun Γ σ H ρ st Q R G h=>WE.of (Qpm hm hF hr hg hc hb .nil hx Q3m a5 he a4) (ha.use R G h.bind fun O j H1 ρ1 us x1 R1 G1 r1 h1=>by
  intro y dx hy hd a3
  by_cases J:O.length + 1=n
  ·rw [bN J] at h1;have Y:Ext H1 ρ1 (upd H1 dx (.own y)) ρ1:=Ext.add hd;have B:(upd H1 dx (.own y)) y=none:=by rw [Qi (fun z=>a3 z.symm)]; exact hy
   have Z:Ext (upd H1 dx (.own y)) ρ1 (upd (upd H1 dx (.own y)) y (.ins C dx [])) (ρ1.add y):=Ext.addT B;have R2:Rel (upd (upd H1 dx (.own y)) y (.ins C dx [])) (ρ1.add y) (j ++ [.obj C []]):=(R1.add hd).addC B ⟨[],⟨dx,Je⟩,rfl,rfl⟩;have q:(ρ1.add y).tr[j.length]?=some y:=by
    show (ρ1.tr ++ [y])[j.length]?=some y;rw [<- R1.len,O9 (O8 _),cy]; rfl
   show spF X.mg n F (.ref y :: (us ++ [])) _ _ E;rw [bv];refine ⟨by rw [E3,<- r1.length]; exact J,ρ1.add y,j ++ [.obj C []],.ref j.length :: O,R2,RepL.cons ⟨y,q,rfl⟩ (r1.ext (Y.trans Z)),?_⟩;cases er:F (.ref j.length :: O) (j ++ [.obj C []]) with
   | stuck=>rw [er] at h1; exact h1.elim
   | exc z st'=>
    rw [er] at h1;exact fun C' dv H' ρ' m I U xf=>h1 C' dv H' ρ' m ((Y.trans Z).trans I) U xf
   | ok v a6=>
    rw [er] at h1;intro H' ρ' I U w a2;rw [J2] at h1;cases v with
    | non=>
     refine ⟨a2,h1 H' ρ' ((Y.trans Z).trans I) U _ ⟨y,?_,rfl⟩⟩;obtain ⟨t,et⟩:=I.pre;rw [<- et,O5 (O0.mp q).1];exact q
    | _=>exact h1.elim
  ·rw [bO J] at h1; exact h1.elim)⟩
end
@[simp] theorem Qqd (C:aA) (f:Str) (mo:ME) (Γ:Gam) (st:Q2):Ug C f mo Γ st=(mo Γ st).bind fun p j=>match Q2k C j p with
 | some (_,fs)=>match fs.lookup f with
  | some q=>.ok q j
  | none=>.stuck
 | none=>.stuck:=rfl
@[simp] theorem Qdr (C:aA) (f:Str) (mo m:ME) (Γ:Gam) (st:Q2):xj C f mo m Γ st=(m Γ st).sbind fun p z=>(mo Γ z).sbind fun q j=>match Q2k C j q with
 | some (i,fs)=>if fs.length < 1000 then .nx Γ (j.set i (.obj C (xg f p fs))) else .stuck
 | none=>.stuck:=rfl
@[simp] theorem Qku (C:aA) (x:Str) (n:Nat) (F:FN) (mo:ME) (mr:ML) (Γ:Gam) (st:Q2):xk C x n F mo mr Γ st=(mo Γ st).bind fun p j=>match Q2k C j p with
 | some (_,fs)=>if fs.lookup x=none then (mr Γ j).bind fun ps q=>if ps.length + 1=n then F (p :: ps) q else .stuck else .stuck
 | none=>.stuck:=rfl
section
variable {X:Cx} {E:XK}
theorem Qin:qd X (.type "int") (fun xs H Q=>∃ b:Bool,xs=[.bl b]/\Q (.int (if b then 1 else 0)) H):=by
 intro pins s σ H xs us Q I r h;obtain ⟨b,rfl,q⟩:=h;obtain ⟨u,rfl,j⟩:=Q2j r;cases j;exact call_int_bool ⟨.int (if b then 1 else 0),H,I.tok _,⟨_,rfl⟩,q⟩
def Qgr:CF:=fun st ps=>match ps with
 | [.bl b]=>.ok (.int (if b then 1 else 0)) st
 | _=>.stuck
theorem Qr2:CallS X E (.type "int") Qgr:=⟨fun H ρ st ps xs Q R j h=>by
 unfold Qgr at h
 split at h
 ·obtain ⟨v,rfl,r⟩:=V0 j;cases r;exact WC.of Qin ⟨_,rfl,now R h rfl⟩
 ·exact h.elim⟩
@[simp] theorem Qxc (st:Q2) (b:Bool):Qgr st [.bl b]=.ok (.int (if b then 1 else 0)) st:=rfl
end
def Qbq (x:Str):V:=if x = "keep" then .int 2 else if x = "fall" then .int 2 else if x = "send" then .int 2 else if x = "come" then .int 3 else .non
structure PartsO (P:aO) (w:aM) (K:bS) (mg:Str->Option aB):Prop where
 ex:∃ (a:aA) (o:Obj) (es:Array DictEntry) (ep:Nat),mg "PARTS_OF_OTHER_DEED" = some (.ref a)/\K.lookup a=some o/\o.cls=.type "dict" /\ o.ExactDict/\o.data=.dict es ep/\KeysOf (J4 P w) es/\(a == aj)=false/\∀ x,RelV (Qbq x) ((findBy (J4 P w).is es (.inr x)).getD .none)
def jf (m:ME):ME:=fun Γ st=>(m Γ st).bind fun p st1=>match p with
 | .str x=>if x = "keep" then .ok (.int 2) st1 else if x = "fall" then .ok (.int 2) st1 else if x = "send" then .ok (.int 2) st1 else if x = "come" then .ok (.int 3) st1 else .ok .non st1
 | _=>.stuck
section
variable {X:Cx} {E:XK} {pos:Pos} {e:aD} {m:ME}
theorem Qh8 {p apos cpos:Pos} (PO:PartsO X.prog X.w X.K X.mg) (Z:Gl X "PARTS_OF_OTHER_DEED") (Y:SimE X E e m)
  (base:am (.Name "PARTS_OF_OTHER_DEED" p) "get" X.env (aN (.Name "PARTS_OF_OTHER_DEED" p) X.env)=aN (.Name "PARTS_OF_OTHER_DEED" p) X.env:=by rfl)
  (few:((aW cpos (aP [e] X.env)).all (fun x=>!x.1) && (backToKw cpos (keywordEach [] X.env)).all (fun x=>x.1.isSome)
   && decide (([e]:List aD).length + ([]:List Keyword).length + (if ([]:List Keyword).isEmpty then 0 else 1) < 30))=true:=by rfl)
  (line:(apos.endLine == cpos.line)=true:=by rfl) (trees:aW cpos (aP [e] X.env)=[(false,aN e X.env)]:=by rfl) :
  SimE X E (.Call (.Attribute (.Name "PARTS_OF_OTHER_DEED" p) "get" apos) [e] [] cpos) (jf m):=by
 obtain ⟨a,o,es,ep,pm,pl,U,pe,pd,pk,ps,B⟩:=PO.ex;refine ⟨fun Γ σ H ρ st Q R G h=>WE.of (Qd9 (val:=Qbq) Z pm pl U pe pd pk ps B Yv (by decide) base few line trees) (Y.use R G h.bind fun q j H1 ρ1 v x1 z G1 r1 h1=>?_)⟩;cases q with
 | str x=>
  cases r1;have h1:Acc X.mg E H1 ρ1 (QV Q) (if x = "keep" then .ok (.int 2) j else if x = "fall" then .ok (.int 2) j else if x = "send" then .ok (.int 2) j else if x = "come" then .ok (.int 3) j else .ok .non j):=h1;refine ⟨x,rfl,?_⟩;unfold Qbq
  by_cases a1:x = "keep"
  ·rw [bN a1] at h1 ⊢; exact now z h1 rfl
  ·rw [bO a1] at h1 ⊢
   by_cases J:x = "fall"
   ·rw [bN J] at h1 ⊢; exact now z h1 rfl
   ·rw [bO J] at h1 ⊢
    by_cases O:x = "send"
    ·rw [bN O] at h1 ⊢; exact now z h1 rfl
    ·rw [bO O] at h1 ⊢
     by_cases I:x = "come"
     ·rw [bN I] at h1 ⊢; exact now z h1 rfl
     ·rw [bO I] at h1 ⊢;exact now z h1 rfl
 | _=>exact h1.elim
end
section
theorem Qhm {P:aO} {w:aM} {K:bS} {mg:Str->Option aB} {O:aA} {t1 t2 t3 I B q j G:Tok} {ep:Nat} (hm:mg "PARTS_OF_OTHER_DEED" = some (.ref O))
  (lk:K.lookup O=some ⟨.type "dict",none,.dict #[⟨PyData.keyHash w.params "keep",.str "keep" t1,.int 2 B⟩,⟨PyData.keyHash w.params "fall",.str "fall" t2,.int 2 q⟩,⟨PyData.keyHash w.params "send",.str "send" t3,.int 2 j⟩,⟨PyData.keyHash w.params "come",.str "come" I,.int 3 G⟩] ep,#[]⟩) (hp:(O == aj)=false):PartsO P w K mg:=by
 refine ⟨O,_,_,_,hm,lk,rfl,⟨rfl,rfl,rfl⟩,rfl,fun e he=>?_,hp,fun x=>?_⟩
 ·simp only [gm,D8,cQ,or_false] at he;rcases he with rfl | rfl | rfl | rfl
  ·exact ⟨.inr "keep",by simp [J4,qx,br],rfl⟩
  ·exact ⟨.inr "fall",by simp [J4,qx,br],rfl⟩
  ·exact ⟨.inr "send",by simp [J4,qx,br],rfl⟩
  ·exact ⟨.inr "come",by simp [J4,qx,br],rfl⟩
 ·unfold Qbq
  by_cases e1:x = "keep"
  ·rw [bN e1]; subst e1;have:findBy (J4 P w).is #[⟨PyData.keyHash w.params "keep",.str "keep" t1,.int 2 B⟩,⟨PyData.keyHash w.params "fall",.str "fall" t2,.int 2 q⟩,⟨PyData.keyHash w.params "send",.str "send" t3,.int 2 j⟩,⟨PyData.keyHash w.params "come",.str "come" I,.int 3 G⟩] (.inr "keep")=some (.int 2 B):=by first | rfl | decide +kernel
   rw [this]; exact ⟨_,rfl⟩
  ·rw [bO e1]
   by_cases e2:x = "fall"
   ·rw [bN e2]; subst e2;have:findBy (J4 P w).is #[⟨PyData.keyHash w.params "keep",.str "keep" t1,.int 2 B⟩,⟨PyData.keyHash w.params "fall",.str "fall" t2,.int 2 q⟩,⟨PyData.keyHash w.params "send",.str "send" t3,.int 2 j⟩,⟨PyData.keyHash w.params "come",.str "come" I,.int 3 G⟩] (.inr "fall")=some (.int 2 q):=by first | rfl | decide +kernel
    rw [this]; exact ⟨_,rfl⟩
   ·rw [bO e2]
    by_cases e3:x = "send"
    ·rw [bN e3]; subst e3;have:findBy (J4 P w).is #[⟨PyData.keyHash w.params "keep",.str "keep" t1,.int 2 B⟩,⟨PyData.keyHash w.params "fall",.str "fall" t2,.int 2 q⟩,⟨PyData.keyHash w.params "send",.str "send" t3,.int 2 j⟩,⟨PyData.keyHash w.params "come",.str "come" I,.int 3 G⟩] (.inr "send")=some (.int 2 j):=by first | rfl | decide +kernel
     rw [this]; exact ⟨_,rfl⟩
    ·rw [bO e3]
     by_cases J:x = "come"
     ·rw [bN J]; subst J;have:findBy (J4 P w).is #[⟨PyData.keyHash w.params "keep",.str "keep" t1,.int 2 B⟩,⟨PyData.keyHash w.params "fall",.str "fall" t2,.int 2 q⟩,⟨PyData.keyHash w.params "send",.str "send" t3,.int 2 j⟩,⟨PyData.keyHash w.params "come",.str "come" I,.int 3 G⟩] (.inr "come")=some (.int 3 G):=by first | rfl | decide +kernel
      rw [this]; exact ⟨_,rfl⟩
     ·rw [bO J];have Y:¬ (bR "keep" = x):=fun z=>e1 z.symm
      have U:¬ (bR "fall" = x):=fun z=>e2 z.symm
      have Z:¬ (bR "send" = x):=fun z=>e3 z.symm
      have a2:¬ (bR "come" = x):=fun z=>J z.symm
      have:findBy (J4 P w).is #[⟨PyData.keyHash w.params "keep",.str "keep" t1,.int 2 B⟩,⟨PyData.keyHash w.params "fall",.str "fall" t2,.int 2 q⟩,⟨PyData.keyHash w.params "send",.str "send" t3,.int 2 j⟩,⟨PyData.keyHash w.params "come",.str "come" I,.int 3 G⟩] (.inr x)=none:=by
       simp [findBy,J4,qx,br,Y,U,Z,a2]
      rw [this]; rfl
end
def Qdp (cn fld : Str) (i n : Nat) (F : FN) (mr : ML) : MS := fun Γ st => (mr Γ st).sbind fun ps st1 => if ps.length = n /\ i < Γ.length then (match F ps st1 with
  | .ok _ st2=>.nx Γ st2
  | .exc x st2=>if x.cls=cn then (match x.fs with | some (f,.int z)=>if f=fld then .rt (.int z) st2 else .stuck | _=>.stuck) else .stuck
  | .stuck=>.stuck) else .stuck
section
variable {X:Cx} {E:XK}
theorem Qnn {k n i:Nat} {g cn nm fld:Str} {F:FN} {CC:aA} {p cpos B np a4 apos q hpos pos:Pos} {e:aD} {es:List aD} {mr:ML} (D:DefS X.prog X.w X.K X.mg X.base k g n F) (hr:Room k X.A) (ha:SimA X.nox E (e :: es) mr)
  (hN:X.N.Nodup) (O:X.mg cn=some (.ref CC)) (b0:dG X.K (.ref CC) (.ref CC)=some true) (a7:XGet X.K CC fld) (hi:X.N[i]?=some nm:=by rfl) (hk:X.env.scope.names.lookup nm=some .local:=by rfl)
  (j:∀ a,PSs (xy X a) [.Return (some (.Attribute (.Name nm a4) fld apos)) q] (Qv5 (tXF X.K fld (Qs7 i))):=by exact fun _=>Qbp (Qjy (Qpj _ (pv _))))
  (hg:Gl X g:=by rfl) (b3:Gl X cn:=by rfl) (a5:∀ b,b∉X.ex:=by intro b z; exact absurd (show b∈([]:List aA) from z) (by simp)) (b1:X.stack=X.env :: X.outer:=by rfl) (a8:X.env.frame=some X.env.locals:=by rfl)
  (b4:(g == ("__debug__" : Str))=false:=by decide) (a2:(cn == ("__debug__" : Str))=false:=by decide) (he:aP (e :: es) X.env=(false,aN e X.env) :: aP es X.env:=by rfl) (b2:(aW cpos (aP es X.env)).any (·.1)=false:=by rfl)
  (a6:swapsWith (.Call (.Name g p) (e :: es) [] cpos) none B.line X.env=pure false:=by rfl) :
  SimS X E (.Try [.Expr (.Call (.Name g p) (e :: es) [] cpos) B] [.ExceptHandler (some (.Name cn np)) (some nm) [.Return (some (.Attribute (.Name nm a4) fld apos)) q] hpos] [] [] pos) (Qdp cn fld i n F mr):=by
 obtain ⟨f,fd,ps,hF,hm,a9,hb,hl⟩:=D.ex;exact ⟨fun Γ σ H ρ st D R G h=>WS.of (Qjx hF hr hm a9 hb Q3m hN hi hk j O hg b3 a5 b1 a8 b4 a2 he b2 a6) (ha.use R G h.bind fun qs Z H1 ρ1 us x1 R1 G1 r1 h1=>by
  by_cases hq:qs.length=n/\i < Γ.length
  ·rw [bN hq] at h1;refine ⟨by rw [<- r1.length]; exact hq.1,ρ1,Z,qs,R1,r1,?_⟩;cases er:F qs Z with
   | stuck=>rw [er] at h1; exact h1.elim
   | ok v a3=>
    rw [er] at h1;exact fun H' ρ' x' R' w _=>h1 σ H' ρ' x' R' (G1.ext x')
   | exc x a3=>
    rw [er] at h1;have h2:AccS X.mg E D H1 ρ1 (if x.cls=cn then (match x.fs with | some (f,.int z)=>if f=fld then .rt (.int z) a3 else .stuck | _=>.stuck) else .stuck):=h1
    clear h1
    by_cases hc:x.cls=cn
    ·rw [bN hc] at h2
     split at h2
     ·rename_i f' z ef
      split at h2
      ·rename_i hf;subst hf;intro C dv H' ρ' Y x' R' xf;rw [hc,O] at Y;cases Y;rw [ef] at xf;obtain ⟨dx,v,rfl,J,_,rv⟩:=xf;have rv:v=.int z:=rv;subst rv;refine ⟨CC,rfl,b0,fun a I=>?_⟩;have U:i < σ.length:=by rw [<- G1.1]; exact hq.2
       refine ⟨.ref a,by rw [D7 U],a,CC,dx,z,[(f',.int z)],rfl,Je,by rw [Qi (Qm J I)]; exact J,by simp [cB],a7,?_⟩;exact h2 _ _ ρ' (x'.trans (Ext.add I)) (R'.add I) rfl
      ·exact h2.elim
     ·exact h2.elim
    ·rw [bO hc] at h2; exact h2.elim
  ·rw [bO hq] at h1; exact h1.elim)⟩
@[simp] theorem Qks (cn fld:Str) (i n:Nat) (F:FN) (mr:ML) (Γ:Gam) (st:Q2):Qdp cn fld i n F mr Γ st=(mr Γ st).sbind fun ps q=>if ps.length=n/\i < Γ.length then (match F ps q with
  | .ok _ j=>.nx Γ j
  | .exc x j=>if x.cls=cn then (match x.fs with | some (f,.int z)=>if f=fld then .rt (.int z) j else .stuck | _=>.stuck) else .stuck
  | .stuck=>.stuck) else .stuck:=rfl
end
section
variable {X:Cx} {pins pins':List (aA × Obj)} {E:XK} {σ:St} {H:Hp} {s:aC}
end
section
variable {X:Cx} {body:List aL} {mb:MS} {cn n:Str} {i:Nat} {CC:aA} {np hpos pos:Pos} {b₀:aL} {suite:List aL} {ts:aA->TS} {Γ:Gam} {σ:St} {H:Hp} {ρ:Tk} {st:Q2} {D:Ends}
end
section
variable {X:Cx} {E:XK}
end
end Sm
namespace Sm
open PySem PySem.Spec PyProof.Rows L2
section
variable {X:Cx} {E:XK}
theorem Qke:OpR X (aY .FloorDiv) (rI (fun _ j=>0 < j/\j.natAbs.log2 < 8000) fun i j=>.int (i / j)):=opI fun i j _ _ _ _ _ z q=>by
 have h1:(0:Int) < j:=z.1;have h2:=z.2;refine floordiv_int (by omega) (by rw [fh i (by omega)]; exact q) (.inl (PyProof.noPylong_of_log2 ?_));omega
def Qg4:OP:=fun st p q=>match p,q with
 | .int a,.int b=>if 0 < b/\b.natAbs.log2 < 8000 then .ok (.int (a / b)) st else .stuck
 | _,_=>.stuck
theorem Qpu:OpS X E (aY .FloorDiv) Qg4:=⟨fun H ρ st p q x y Q R j z h=>by
 unfold Qg4 at h
 split at h
 ·cases j; cases z
  split at h
  ·rename_i B;exact WO.of Qke ⟨_,_,rfl,rfl,B,now R h rfl⟩
  ·exact h.elim
 ·exact h.elim⟩
theorem Qht (st:Q2) (a:Int) (m:Nat) (h1:0 < m) (h2:m < 2 ^ 8000):Qg4 st (.int a) (.int m)=.ok (.int (a / m)) st:=by
 show (if 0 < (m:Int)/\(m:Int).natAbs.log2 < 8000 then _ else _)=_;rw [bN ⟨by omega,by
  rw [Int.natAbs_natCast];exact (Nat.log2_lt (by omega)).mpr h2⟩]
end
end Sm
namespace Sm
open PySem PySem.Spec L2
structure AtS (K:bS) (mg:Str->Option aB) (name:Str) (st:aL) (ps:List Str) (f:aA) (fd:aQ):Prop where
 F:Fun K name name st f fd
 m:mg name=some (.ref f)
 b:Binds K fd ps []
theorem Quf {K:bS} {mg:Str->Option aB} {h:Heap} {name:Str} {st:aL} {ps:List Str} {f:aA} {J:aB} {I an:Option aA} {B:Array (Option aB)} {kV q z j ct:aB} (X:K.In h) (G:h.Ns aV mg)
  (a:bY K aV name=some (some (.ref f))) (l:K.lookup f=some ⟨J,I,.func (ba name name (Yn st) (Jx st) (Q8 st) .none kV q z an j ct),B⟩) (c:bh K j name=true) (k:bZ K (.ref f)=true)
  (b:∀ (kV q z:aB) (an:Option aA) (j ct:aB) (us:List aB),us.length=ps.length->bindArgs (ba name name (Yn st) (Jx st) (Q8 st) .none kV q z an j ct) ⟨us,[]⟩=pure (ps.zip us)) :
  AtS K mg name st ps f (ba name name (Yn st) (Jx st) (Q8 st) .none kV q z an j ct):=
 have F:=Xw (st:=st) l c k
 ⟨F,bp X G a,F.binds b⟩
theorem AtS.def {P:aO} {w:aM} {K:bS} {mg:Str->Option aB} {base:Heap} {name:Str} {st:aL} {ps:List Str} {f:aA} {fd:aQ} {k n:Nat} {F:FN} (a:AtS K mg name st ps f fd) (j:ps.length=n) (G:FnOk P w K mg base (CXD P w) k f fd ps (spF mg n F)):DefS P w K mg base k name n F:=
 ⟨f,fd,ps,G,a.m,a.F.kp,a.b,j⟩
def FL (K:bS) (x ql:Str) (s:aL) (f:aA):Prop:=∃ (oc:aB) (od:Option aA) (kV dc pm:aB) (an:Option aA) (cd ct:aB) (sl:Array (Option aB)),K.lookup f=some ⟨oc,od,.func (ba x ql (Yn s) (Jx s) (Q8 s) .none kV dc pm an cd ct),sl⟩/\bh K cd ql=true/\bZ K (.ref f)=true
theorem FL.fn {K:bS} {x j:Str} {s:aL} {f:aA} (h:FL K x j s f):∃ fd,Fun K x j s f fd:=let ⟨_,_,_,_,_,_,_,_,_,l,c,k⟩:=h; ⟨_,Xw l c k⟩
def FA (K:bS) (x:Str) (s:aL) (f:aA):Prop:=bY K aV x=some (some (.ref f))/\FL K x x s f
theorem FA.mk {K:bS} {x:Str} {s:aL} {f:aA} {z:aB} {j an:Option aA} {sl:Array (Option aB)} {kV q B cd ct:aB} (a:bY K aV x=some (some (.ref f))) (l:K.lookup f=some ⟨z,j,.func (ba x x (Yn s) (Jx s) (Q8 s) .none kV q B an cd ct),sl⟩) (c:bh K cd x=true) (k:bZ K (.ref f)=true):FA K x s f:=⟨a,_,_,_,_,_,_,_,_,_,l,c,k⟩
theorem Wf {K:bS} {mg:Str->Option aB} {h:Heap} {name:Str} {st:aL} {ps:List Str} {f:aA} (X:K.In h) (G:h.Ns aV mg) (a:FA K name st f)
  (b:∀ (kV q z:aB) (an:Option aA) (j ct:aB) (us:List aB),us.length=ps.length->bindArgs (ba name name (Yn st) (Jx st) (Q8 st) .none kV q z an j ct) ⟨us,[]⟩=pure (ps.zip us)):∃ fd,AtS K mg name st ps f fd:=
 let ⟨a,l⟩:=a
 let ⟨_,F⟩:=l.fn
 ⟨_,F,bp X G a,F.binds b⟩
theorem AtS.d {K:bS} {mg:Str->Option aB} {name:Str} {st:aL} {ps:List Str} {f:aA} {fd:aQ} {k n:Nat} {F:FN} (a:AtS K mg name st ps f fd) (P:aO) (w:aM) (base:Heap) (j:ps.length=n) (G:FnOk P w K mg base (CXD P w) k f fd ps (spF mg n F)):DefS P w K mg base k name n F:=a.def j G
def noL (K:bS):Bool:=K.all fun p=>match p.2.data with
 | .seq _ _=>(match p.2.cls with
  | .type n=>!(n == ("list" : Str))
  | _=>true)
 | _=>true
theorem Qfb {K:bS} {a:aA} {o:Obj} (h:K.lookup a=some o):(a,o)∈K:=by
 induction K with
 | nil=>cases h
 | cons p K j=>
  obtain ⟨b,u⟩:=p;rw [E6] at h;cases e:a == b with
  | true=>
   rw [e] at h;have:a=b:=by simpa using e
   subst this;cases h;exact D3
  | false=>
   rw [e] at h;exact D0 _ (j h)
theorem Qti {K:bS} {a:aA} {o:Obj} {its:Array aB} {n:Nat} (j:noL K=true) (h:K.lookup a=some o) (q:o.cls=.type "list") (hd:o.data=.seq its n):False:=by
 have:=L5.mp j _ (Qfb h);simp [q,hd] at this
theorem Qah {H:Hp} {ρ:Tk}:∀ ns:List Int,RepL H ρ (ns.map .int) (ns.map V.int)
 | []=>rfl
 | n :: ns=>⟨_,_,rfl,rfl,Qah ns⟩
theorem Qp2 (H:Hp):Rel H Tk.nil []:=⟨rfl,gq,fun a h=>(by cases h),fun a h=>(by cases h),fun i a c h=>(by simp [Tk.nil] at h)⟩
def Qbh (K:bS):Sp:=fun vs H Q _=>∃ (a:aA) (ns:List Int),vs=[.ref a]/\SqL K H a (ns.map V.int)/\ns.length<=63/\∀ H',Q (.bl true) H'
theorem Qqj {P:aO} {w:aM} {K:bS} {mg:Str->Option aB} {base:Heap} {CX:CXT} {k:Nat} {f:aA} {fd:aQ} {ps:List Str} {FL:FN} (I:noL K=true) (F:FnOk P w K mg base CX k f fd ps (spF mg 1 FL)) (j:∀ ns:List Int,ns.length<=63->∃ st',FL [.fro (ns.map .int)] []=.ok (.bl true) st'):FnOk P w K mg base CX k f fd ps (Qbh K):=F.imp fun vs H Q E ⟨a,ns,e,B,O,G⟩=>by
 subst e;obtain ⟨st',z⟩:=j ns O;have q:Rd H a (.lst (ns.map V.int)):=by
  rcases B with h | ⟨o,its,n,h1,h2,U,J,_⟩
  ·exact h
  ·exact (Qti I h1 h2 J).elim
 refine ⟨rfl,Tk.nil,[],[.fro (ns.map .int)],Qp2 H,⟨_,_,rfl,⟨a,_,rfl,q,Tk.not_nil a,Qah ns⟩,rfl⟩,?_⟩;rw [z];intro H' ρ' x R v r;have e:v=.bl true:=r;subst e;exact G H'
theorem Qmj {P:aO} {w:aM} {H:Hp} {s:aC} {e:aB} {s':aC} (h:CXD P w [] H s (fun _ _ _=>False) e s'):False:=by
 obtain ⟨_,_,_,_,_,_,_,_,_,z⟩:=h;exact z
theorem walkS {l:ek} {k:Nat} {q:aO} {j:List Str} {U:(Str->Option aB)->Heap->Prop} {I:aM->Heap->Prop} {d:DefRec} {K:Params->bS} (O:l.most=some 63) (J:Room k callerA) (B:d.params.defaults=[])
  (Z:∀ (w:aM) (h:Heap),I w h->(K w.params).In h)
  (F:∀ (w:aM) (mg:Str->Option aB) (G:aA) (h:Heap),(K w.params).In h->h.Ns aV mg->mg d.name=some (.ref G) ->
   ∃ fd:aQ,(∀ (s:aC) (u:aB),BindsTo s fd ⟨[u],[]⟩ [("script",u)])/\∀ base:Heap,(K w.params).In base->base.Ns aV mg->FnOk l.prog w (K w.params) mg base (CXD l.prog w) k G fd ["script"] (Qbh (K w.params))) :
  gG q j U I l.row.toRowW d [] (fun f vs=>ee f vs):=
 L2.walk_of (n:=63) (k:=k) (x := "script") (CX:=fun w=>CXD l.prog w) (sp:=fun w=>Qbh (K w.params)) O (by decide) B J Z F (fun _ _ a ns hl _ Y=>⟨a,ns,rfl,Y,hl,fun _=>rfl⟩) fun _ _ _ _ _ z=>Qmj z
end Sm
namespace Lw
open PySem PySem.Spec L2 Sm
def top (i:Nat):aL:=PySem.Challenge.pw_lendwharf_k20_whole_letters_late_and_aga.main.body.getD i (.Pass ⟨0,0,0,0⟩)
abbrev Qbm:aL:=top 0
abbrev Q2u:aL:=top 9
abbrev Q04:aL:=top 10
abbrev Q79:aL:=top 13
abbrev Q2v:aL:=top 14
abbrev Q2w:aL:=top 15
abbrev Q75:aL:=top 16
abbrev Vr:aL:=top 18
abbrev qi:aL:=top 19
abbrev Q03:aL:=top 20
abbrev Q78:aL:=top 21
abbrev Vs:aL:=top 24
abbrev Q4i:aL:=top 25
abbrev Vq:aL:=top 26
abbrev jv:aL:=top 27
abbrev Q76:aL:=top 28
abbrev Qet:aL:=top 29
abbrev Q16:aL:=top 31
abbrev Uk:aL:=top 32
abbrev qf:aL:=top 33
abbrev Q2x:aL:=top 34
abbrev qg:aL:=top 35
abbrev Xk:aL:=top 36
abbrev ye:aL:=top 37
abbrev Xm:aL:=top 38
abbrev X5:aL:=top 39
abbrev Wa:aL:=Xv (top 41) 0
abbrev U9:aL:=Xv (top 41) 1
abbrev Ua:aL:=Xv (top 41) 2
abbrev Xc:aL:=Xv (top 41) 3
abbrev Ub:aL:=Xv (top 41) 4
abbrev Uc:aL:=Xv (top 41) 5
abbrev Wz:aL:=Xv (top 41) 6
abbrev Ud:aL:=Xv (top 41) 7
abbrev Vn:aL:=Xv (top 41) 8
abbrev Wy:aL:=Xv (top 41) 9
abbrev U8:aL:=Xv (top 41) 10
abbrev qj:aL:=top 44
abbrev X4:aL:=top 45
abbrev yd:aL:=top 46
abbrev qk:aL:=top 47
abbrev Q17:aL:=top 48
abbrev Q77:aL:=top 49
abbrev Q08:aL:=top 51
abbrev Q05:aL:=top 52
abbrev yj:aL:=top 53
abbrev jx:aL:=top 54
abbrev Q09:aL:=top 55
abbrev jy:aL:=top 56
abbrev jz:aL:=top 57
abbrev Q07:aL:=top 58
abbrev yf:aL:=top 59
abbrev yg:aL:=top 60
abbrev Q06:aL:=top 61
abbrev yi:aL:=top 62
abbrev yk:aL:=top 63
abbrev yh:aL:=top 64
abbrev jw:aL:=top 65
abbrev Q3g:aL:=top 66
structure Txt (mg:Str->Option aB):Prop where
 b_all:mg "all" = none
 b_any:mg "any" = none
 b_bool:mg "bool" = none
 b_int:mg "int" = none
 b_isinstance:mg "isinstance" = none
 b_len:mg "len" = none
 b_list:mg "list" = none
 b_max:mg "max" = none
 b_min:mg "min" = none
 b_range:mg "range" = none
 b_str:mg "str" = none
 b_sum:mg "sum" = none
 b_tuple:mg "tuple" = none
 b_zip:mg "zip" = none
 c_MOST_HOUSES:∃ t,mg "MOST_HOUSES" = some (.int 8 t)
structure ClsT (K:bS) (C:aA):Prop where
 cl:Cls K C
 n_number:NoAttr K C "number"
 n_now:NoAttr K C "now"
 n_kept:NoAttr K C "kept"
def Qr5:aL->List aL
 | .ClassDef _ _ _ b _ _ _ _ _ _ _=>b
 | _=>[]
abbrev Qaf:aL:=(Qr5 (top 7)).getD 0 (.Pass ⟨0,0,0,0⟩)
structure ShortOk (K:bS) (mg:Str->Option aB) (c0 cs fI:aA):Prop where
 m0:mg "WharfError" = some (.ref c0)
 ms:mg "Short" = some (.ref cs)
 M:XMade K cs c0 fI
 L:XCall K c0
 S:XSet K cs c0 "had"
structure ShortS (P:aO) (w:aM) (K:bS) (mg:Str->Option aB) (base:Heap):Prop where
 ex:∃ (C W f:aA) (fd:aQ),XMade K C W f/\FnOk P w K mg base CX0 1 f fd ["self", "had"] (Q6z C "had")/\Binds K fd ["self", "had"] []/\mg "Short" = some (.ref C)
section
variable {P:aO} {w:aM} {K:bS} {mg:Str->Option aB} {base:Heap}
theorem Qse:FnScope ["self", "had"] ["self", "had"] (Q8 Qaf):=⟨rfl,rfl,rfl,by decide +kernel,rfl,by decide +kernel,by decide +kernel⟩
theorem Qq0 {f G j:aA} {fd:aQ} (F:Fun K "__init__" "Short.__init__" Qaf f fd) (O:ShortOk K mg G j f):FnOk P w K mg base CX0 1 f fd ["self", "had"] (Q6z j "had"):=by
 refine F.ok Qse (fun vs H Q E h=>?_) (fun B A outer s H vs Q E J h=>?_)
 ·obtain ⟨x,v,rfl,_⟩:=h;rfl
 ·obtain ⟨x,v,rfl,q,I⟩:=h;refine ⟨_,Qd7 (Qfw (Qk4 O.M O.L (by rfl) O.m0 (zw (pv 0) (zw Q1a Q4p))))
   (Qbp (Qpb (fun b z=>absurd (show b∈([]:List aA) from z) (by simp)) O.S (pv 0) (pv 1))),?_⟩
  exact ⟨_,rfl,x,_,rfl,q,_,rfl,_,rfl,x,rfl,q,I⟩
end
section
variable {P:aO} {w:aM} {K:bS} {mg:Str->Option aB} {base:Heap}
def Qiv:MS:=Yb
def Qh3:MT:=(toB (mC (.bl true)))
def Qg6:MS:=(U0 Qh3 Qiv 100000)
def Qck:FN:=Qr Qg6 1
theorem Qjm:FnScope ["k"] ["k"] (Q8 Qbm):=⟨rfl,rfl,rfl,by decide +kernel,rfl,by decide +kernel,by decide +kernel⟩
theorem Qkg {f:aA} {fd:aQ} (F:Fun K "_wall" "_wall" Qbm f fd) (T:Txt mg)   : FnOk P w K mg base (CXD P w) 1 f fd ["k"] (spF mg 1 Qck):=by
 refine J3 (k:=0) (m:=Qg6) F Qjm rfl rfl rfl fun j A outer s H E q=>?_
 exact (Qc (Q6x 100000 PassesOwn.leaving (V7 Q5d) (Qc Qnp)))
def Q32:MS:=(Zt (Qa0 (Qds "int" (Q3 0)) (Qts (Qds "bool" (Q3 0)))))
def Vb:FN:=Qr Q32 1
theorem Qcw:FnScope ["thing"] ["thing"] (Q8 Q2u):=⟨rfl,rfl,rfl,by decide +kernel,rfl,by decide +kernel,by decide +kernel⟩
theorem Qdc {f:aA} {fd:aQ} (F:Fun K "is_whole" "is_whole" Q2u f fd) (T:Txt mg)   : FnOk P w K mg base (CXD P w) 1 f fd ["thing"] (spF mg 1 Vb):=by
 refine J3 (k:=0) (m:=Q32) F Qcw rfl rfl rfl fun j A outer s H E q=>?_
 exact (Qc (Qx (Q2s (Q4d (T := "int") (by decide) (Q0 0) rfl T.b_isinstance rfl T.b_int Qec) (Q2q (Qsd (Q4d (T := "bool") (by decide) (Q0 0) rfl T.b_isinstance rfl T.b_bool Qiu))))))
def Q0i:MS:=(Zt (Qa0 (Qj 1 Vb (Q4 (Q3 0) Qa)) (Q1h (oI fun a b=>.bl (decide (a<=b))) (oI fun a b=>.bl (decide (a<=b))) (Q3 1) (Q3 0) (Q3 2))))
def K4:FN:=Qr Q0i 3
theorem Q97:FnScope ["thing", "least", "most"] ["thing", "least", "most"] (Q8 Q04):=⟨rfl,rfl,rfl,by decide +kernel,rfl,by decide +kernel,by decide +kernel⟩
theorem Q9k {f:aA} {fd:aQ} (F:Fun K "is_between" "is_between" Q04 f fd) (T:Txt mg)  (j:DefS P w K mg base 1 "is_whole" 1 Vb):FnOk P w K mg base (CXD P w) 2 f fd ["thing", "least", "most"] (spF mg 3 K4):=by
 refine J3 (k:=1) (m:=Q0i) F Q97 rfl rfl rfl fun q A outer s H E z=>?_
 exact (Qc (Qx (Q2s (Qh j (z.mono (by decide)) Qd rfl (Q1 (Q0 0) Q6)) (Q2q (Qjj Qan Qan (Q0 1) (Q0 0) (Q0 2))))))
def Q39:ME:=(Qa0 (Qj 1 Vb (Q4 (Q3 0) Qa)) (mOp (oI fun a b=>.bl (decide (b<=a))) (Q3 0) (mC (.int 0))))
def Q81 : MS := (Qp (Yt (Q5m (Ku (toB (Qds "tuple" (Q3 0)))) (toB (mOp oNe (Jc Yr (Q4 (Q3 0) Qa)) (mOp Y5 (Q3 1) (mC (.int 1)))))) (Zt (mC (.bl false))) Yb)
  (Zt (Jc (Q2i fun ns=>.bl (ns.all id)) (Q4 (Xe (Y3 [none] (Qn 0) (Q0n (Q3 0)) Ju Q39)) Qa))))
def Q1u:FN:=Qr Q81 2
theorem Qhb:FnScope ["thing", "n"] ["thing", "n"] (Q8 Q79):=⟨rfl,rfl,rfl,by decide +kernel,rfl,by decide +kernel,by decide +kernel⟩
theorem Qhr {f:aA} {fd:aQ} (F:Fun K "is_row" "is_row" Q79 f fd) (T:Txt mg)  (j:DefS P w K mg base 1 "is_whole" 1 Vb):FnOk P w K mg base (CXD P w) 2 f fd ["thing", "n"] (spF mg 2 Q1u):=by
 refine J3 (k:=1) (m:=Q81) F Qhb rfl rfl rfl fun z A outer s H E q=>?_
 exact (Q9 (Za (SimW.t (Qa8 (Xi (V7 (Q4d (T := "tuple") (by decide) (Q0 0) rfl T.b_isinstance rfl T.b_tuple Va))) (Q6u (Ja (Q3n q.units) (Qt Yi rfl T.b_len bX (Q1 (Q0 0) Q6)) (J5 Jf (Q0 1) Qe))))) (Qc (Qx Q5d)) Zw)
  (Qc (Qx (Qt (Q8s rfl) rfl T.b_all Q1r (Q1 (Wc (Y4 [none] ["part"] rfl (Xj (Q0 0)) (fun _ _ _ _ _=>(Qy (i:=0) (show (["part"]:List Str).Nodup by decide +kernel))) (fun _ _ _ _ _=>(Q2s (Qh j (q.mono (by decide)) Xp rfl (Q1 (Q0 0) Q6)) (Q2q (js Qrm (Q0 0) Qe)))) (fun _ _ _ _ _=>Ym) J7)) Q6)))))
def Q0v:ME:=(Qj 2 Q1u (Q4 (Q3 0) (Q4 (Jc Yr (Q4 (Q3 1) Qa)) Qa)))
def Q33 : MS := (Qp (Yt (Q5m (Ku (toB (Qds "tuple" (Q3 0)))) (Ku (toB (Q1h (oI fun a b => .bl (decide (a <= b))) (oI fun a b => .bl (decide (a <= b))) (mC (.int 1)) (Jc Yr (Q4 (Q3 0) Qa)) (mC (.int 8)))))) (Zt (mC (.bl false))) Yb)
  (Zt (Jc (Q2i fun ns=>.bl (ns.all id)) (Q4 (Xe (Y3 [none,some 0] (Qn 0) (Q0n (Q3 0)) Ju Q0v)) Qa))))
def zr:FN:=Qr Q33 1
theorem Qcx:FnScope ["thing"] ["thing"] (Q8 Q2v):=⟨rfl,rfl,rfl,by decide +kernel,rfl,by decide +kernel,by decide +kernel⟩
theorem Qdd {f:aA} {fd:aQ} (F:Fun K "is_table" "is_table" Q2v f fd) (T:Txt mg)  (j:DefS P w K mg base 2 "is_row" 2 Q1u):FnOk P w K mg base (CXD P w) 3 f fd ["thing"] (spF mg 1 zr):=by
 refine J3 (k:=2) (m:=Q33) F Qcx rfl rfl rfl fun q A outer s H E z=>?_
 exact (Q9 (Za (SimW.t (Qa8 (Xi (V7 (Q4d (T := "tuple") (by decide) (Q0 0) rfl T.b_isinstance rfl T.b_tuple Va))) (Q6u (Xi (Qcu Qan Qan Qe (Qt Yi rfl T.b_len bX (Q1 (Q0 0) Q6)) (Qnx rfl T.c_MOST_HOUSES.choose_spec)))))) (Qc (Qx Q5d)) Zw)
  (Qc (Qx (Qt (Q8s rfl) rfl T.b_all Q1r (Q1 (Wc (Y4 [none,some 0] ["row", "thing"] rfl (Xj (Q0 0)) (fun _ _ _ _ _=>(Qy (i:=0) (show (["row", "thing"]:List Str).Nodup by decide +kernel))) (fun _ _ _ _ _=>(Qh j (z.mono (by decide)) Xp rfl (Q1 (Q0 0) (Q1 (Qt Yi rfl T.b_len bX (Q1 (Q0 1) Q6)) Q6)))) (fun _ _ _ _ _=>Ym) J7)) Q6)))))
def Q34:MS:=(Zt (Qj 3 K4 (Q4 (Q3 1) (Q4 (mC (.int 0)) (Q4 (mOp (oI fun a b=>.int (a - b)) (Jc Yr (Q4 (Q3 0) Qa)) (mC (.int 1))) Qa)))))
def Yp:FN:=Qr Q34 2
theorem Qcy:FnScope ["table", "thing"] ["table", "thing"] (Q8 Q2w):=⟨rfl,rfl,rfl,by decide +kernel,rfl,by decide +kernel,by decide +kernel⟩
theorem Qde {f:aA} {fd:aQ} (F:Fun K "is_house" "is_house" Q2w f fd) (T:Txt mg)  (j:DefS P w K mg base 2 "is_between" 3 K4):FnOk P w K mg base (CXD P w) 3 f fd ["table", "thing"] (spF mg 2 Yp):=by
 refine J3 (k:=2) (m:=Q34) F Qcy rfl rfl rfl fun q A outer s H E z=>?_
 exact (Qc (Qx (Qh j (z.mono (by decide)) Qd rfl (Q1 (Q0 1) (Q1 Qe (Q1 (J5 Q0c (Qt Yi rfl T.b_len bX (Q1 (Q0 0) Q6)) Qe) Q6))))))
def Q37:ME:=(mOp oIx (Q3 0) (Q3 1))
def Q7x : MS := (Qp (Yt (Ku (toB (Qj 2 Yp (Q4 (Q3 0) (Q4 (Q3 1) Qa))))) (Ki "NoHouse" (mC (.str "no house of this table"))) Yb)
  (Qp (J9 2 (Jc (K2 fun ns=>some (.int ns.sum)) (Q4 (Xe (Y3 [none,some 1] (Qn 0) (Q0n (Q3 0)) Ju Q37)) Qa)))
  (Qp (J9 3 (mOp oIx (Q3 0) (Q3 1)))
  (Qp (J9 4 (mOp (oI fun a b=>.int (a - b)) (Jc (K2 fun ns=>some (.int ns.sum)) (Q4 (Q3 3) Qa)) (mOp oIx (Q3 3) (Q3 1))))
  (Zt (mOp (oI fun a b=>.int (a - b)) (Q3 2) (Q3 4)))))))
def Vk:FN:=Qr Q7x 5
theorem sc_rights:FnScope ["table", "house", "gained", "own", "spent"] ["table", "house"] (Q8 Q75):=⟨rfl,rfl,rfl,by decide +kernel,rfl,by decide +kernel,by decide +kernel⟩
theorem Qap {f:aA} {fd:aQ} (F:Fun K "rights" "rights" Q75 f fd) (T:Txt mg) (j:∃ C,mg "NoHouse" = some (.ref C)/\bc K C X9 "ValueError.__new__" = true) (q:DefS P w K mg base 3 "is_house" 2 Yp):FnOk P w K mg base (CXD P w) 4 f fd ["table", "house"] (spF mg 2 Vk):=by
 refine J3 (k:=3) (m:=Q7x) F sc_rights rfl rfl rfl fun z A outer s H E B=>?_
 exact (Q9 (Za (Xi (V7 (Qh q (B.mono (by decide)) Qd rfl (Q1 (Q0 0) (Q1 (Q0 1) Q6))))) (Qc (U2 rfl Vf rfl j.choose_spec.1 j.choose_spec.2 Qz)) Zw)
  (Q9 (Qs 2 sc_rights.nd (Qt (Q8r rfl) rfl T.b_sum Q1q (Q1 (Wc (Y4 [none,some 1] ["row", "house"] rfl (Xj (Q0 0)) (fun _ _ _ _ _=>(Qy (i:=0) (show (["row", "house"]:List Str).Nodup by decide +kernel))) (fun _ _ _ _ _=>(Qw (Q0 0) (Q0 1))) (fun _ _ _ _ _=>Ym) J7)) Q6)))
  (Q9 (Qs 3 sc_rights.nd (Qw (Q0 0) (Q0 1)))
  (Q9 (Qs 4 sc_rights.nd (J5 Q0c (Qt (Q8r rfl) rfl T.b_sum Q1q (Q1 (Q0 3) Q6)) (Qw (Q0 3) (Q0 1))))
  (Qc (Qx (J5 Q0c (Q0 2) (Q0 4))))))))
def Vt:MS:=(Yt (toB (mOp oNe (Jc Yr (Q4 (Q3 0) Qa)) (Jc Yr (Q4 (Q3 1) Qa)))) (Ki "NoTable" (mC (.str "the tables have unlike numbers of houses"))) Yb)
def Z8:FN:=Qr Vt 2
theorem Q01:FnScope ["one", "other"] ["one", "other"] (Q8 Vr):=⟨rfl,rfl,rfl,by decide +kernel,rfl,by decide +kernel,by decide +kernel⟩
theorem Q0e {f:aA} {fd:aQ} (F:Fun K "need_as_many_houses" "need_as_many_houses" Vr f fd) (T:Txt mg) (j:∃ C,mg "NoTable" = some (.ref C)/\bc K C X9 "ValueError.__new__" = true)  : FnOk P w K mg base (CXD P w) 1 f fd ["one", "other"] (spF mg 2 Z8):=by
 refine J3 (k:=0) (m:=Vt) F Q01 rfl rfl rfl fun q A outer s H E z=>?_
 exact (Qc (Za (Ja (Q3n z.units) (Qt Yi rfl T.b_len bX (Q1 (Q0 0) Q6)) (Qt Yi rfl T.b_len bX (Q1 (Q0 1) Q6))) (Qc (U2 rfl Vf rfl j.choose_spec.1 j.choose_spec.2 Qz)) Zw))
def K0:ME:=(mOp (oI fun a b=>.bl (decide (a<=b))) (Q3 0) (Q3 1))
def qp:MS:=(Zt (Jc (Q2i fun ns=>.bl (ns.all id)) (Q4 (Xe (Y3 [none,none] (y4 (W5 (Qn 0) (W5 (Qn 1) y6))) (Q9z (Q4 (Q3 0) (Q4 (Q3 1) Qa))) Ju K0)) Qa)))
def Vm:FN:=Qr qp 2
theorem Q4g:FnScope ["one", "other"] ["one", "other"] (Q8 qi):=⟨rfl,rfl,rfl,by decide +kernel,rfl,by decide +kernel,by decide +kernel⟩
theorem Q4t {f:aA} {fd:aQ} (F:Fun K "is_row_within" "is_row_within" qi f fd) (T:Txt mg)   : FnOk P w K mg base (CXD P w) 1 f fd ["one", "other"] (spF mg 2 Vm):=by
 refine J3 (k:=0) (m:=qp) F Q4g rfl rfl rfl fun j A outer s H E q=>?_
 exact (Qc (Qx (Qt (Q8s rfl) rfl T.b_all Q1r (Q1 (Wc (Y4 [none,none] ["mine", "its"] rfl (Q72 rfl T.b_zip (Q1 (Q0 0) (Q1 (Q0 1) Q6))) (fun _ _ _ _ _=>(Q4a rfl (Vd (Qy (i:=0) (show (["mine", "its"]:List Str).Nodup by decide +kernel)) (Vd (Qy (i:=1) (show (["mine", "its"]:List Str).Nodup by decide +kernel)) Q1y)))) (fun _ _ _ _ _=>(js Qan (Q0 0) (Q0 1))) (fun _ _ _ _ _=>Ym) (Q3z (Xd (Xd Q40))))) Q6))))
def zk:ME:=(Jc Qa5 (Q4 (Q3 0) (Q4 (Q3 1) Qa)))
def Q0h:MS:=(Zt (Jc X8 (Q4 (Xe (Y3 [none,none] (y4 (W5 (Qn 0) (W5 (Qn 1) y6))) (Q9z (Q4 (Q3 0) (Q4 (Q3 1) Qa))) Ju zk)) Qa)))
def K3:FN:=Qr Q0h 2
theorem Q96:FnScope ["one", "other"] ["one", "other"] (Q8 Q03):=⟨rfl,rfl,rfl,by decide +kernel,rfl,by decide +kernel,by decide +kernel⟩
theorem Q9j {f:aA} {fd:aQ} (F:Fun K "joined_row" "joined_row" Q03 f fd) (T:Txt mg)   : FnOk P w K mg base (CXD P w) 1 f fd ["one", "other"] (spF mg 2 K3):=by
 refine J3 (k:=0) (m:=Q0h) F Q96 rfl rfl rfl fun j A outer s H E q=>?_
 exact (Qc (Qx (ju xt rfl T.b_tuple Va (Q1 (Wc (Y4 [none,none] ["mine", "its"] rfl (Q72 rfl T.b_zip (Q1 (Q0 0) (Q1 (Q0 1) Q6))) (fun _ _ _ _ _=>(Q4a rfl (Vd (Qy (i:=0) (show (["mine", "its"]:List Str).Nodup by decide +kernel)) (Vd (Qy (i:=1) (show (["mine", "its"]:List Str).Nodup by decide +kernel)) Q1y)))) (fun _ _ _ _ _=>(Qt (Qcb rfl) rfl T.b_max Q44 (Q1 (Q0 0) (Q1 (Q0 1) Q6)))) (fun _ _ _ _ _=>Ym) (Q3z (Xd (Xd Q40))))) Q6))))
def Q38:ME:=(Qj 2 K3 (Q4 (Q3 0) (Q4 (Q3 1) Qa)))
def Q80 : MS := (Qp (Wh (Qj 2 Z8 (Q4 (Q3 0) (Q4 (Q3 1) Qa))))
  (Zt (Jc X8 (Q4 (Xe (Y3 [none,none] (y4 (W5 (Qn 0) (W5 (Qn 1) y6))) (Q9z (Q4 (Q3 0) (Q4 (Q3 1) Qa))) Ju Q38)) Qa))))
def zq:FN:=Qr Q80 2
theorem Qha:FnScope ["one", "other"] ["one", "other"] (Q8 Q78):=⟨rfl,rfl,rfl,by decide +kernel,rfl,by decide +kernel,by decide +kernel⟩
theorem Qhq {f:aA} {fd:aQ} (F:Fun K "joined" "joined" Q78 f fd) (T:Txt mg)  (j:DefS P w K mg base 1 "need_as_many_houses" 2 Z8) (q:DefS P w K mg base 1 "joined_row" 2 K3):FnOk P w K mg base (CXD P w) 2 f fd ["one", "other"] (spF mg 2 zq):=by
 refine J3 (k:=1) (m:=Q80) F Qha rfl rfl rfl fun B A outer s H E z=>?_
 exact (Q9 (Y8 (Qh j (z.mono (by decide)) Qd rfl (Q1 (Q0 0) (Q1 (Q0 1) Q6))))
  (Qc (Qx (ju xt rfl T.b_tuple Va (Q1 (Wc (Y4 [none,none] ["mine", "its"] rfl (Q72 rfl T.b_zip (Q1 (Q0 0) (Q1 (Q0 1) Q6))) (fun _ _ _ _ _=>(Q4a rfl (Vd (Qy (i:=0) (show (["mine", "its"]:List Str).Nodup by decide +kernel)) (Vd (Qy (i:=1) (show (["mine", "its"]:List Str).Nodup by decide +kernel)) Q1y)))) (fun _ _ _ _ _=>(Qh q (z.mono (by decide)) Xp rfl (Q1 (Q0 0) (Q1 (Q0 1) Q6)))) (fun _ _ _ _ _=>Ym) (Q3z (Xd (Xd Q40))))) Q6)))))
def V4:ME:=(Qj 1 Vb (Q4 (Q3 0) Qa))
def Vu : MS := (Qp (Yt (Q5m (Ku (toB (Qds "tuple" (Q3 0)))) (Q5m (toB (mOp oEq (Jc Yr (Q4 (Q3 0) Qa)) (mC (.int 0)))) (Ku (toB (Qds "str" (mOp oIx (Q3 0) (mC (.int 0)))))))) (Zt (mC (.bl false))) Yb)
  (Zt (Jc (Q2i fun ns=>.bl (ns.all id)) (Q4 (Xe (Y3 [none] (Qn 0) (Q0n (mSl (Q3 0) (Ut (mC (.int 1))) W9)) Ju V4)) Qa))))
def Qk:FN:=Qr Vu 1
theorem Q02:FnScope ["thing"] ["thing"] (Q8 Vs):=⟨rfl,rfl,rfl,by decide +kernel,rfl,by decide +kernel,by decide +kernel⟩
theorem Q0f {f:aA} {fd:aQ} (F:Fun K "is_text_and_numbers" "is_text_and_numbers" Vs f fd) (T:Txt mg)  (j:DefS P w K mg base 1 "is_whole" 1 Vb):FnOk P w K mg base (CXD P w) 2 f fd ["thing"] (spF mg 1 Qk):=by
 refine J3 (k:=1) (m:=Vu) F Q02 rfl rfl rfl fun z A outer s H E q=>?_
 exact (Q9 (Za (SimW.t (Qa8 (Xi (V7 (Q4d (T := "tuple") (by decide) (Q0 0) rfl T.b_isinstance rfl T.b_tuple Va))) (Qa8 (Ja (V6 q.units) (Qt Yi rfl T.b_len bX (Q1 (Q0 0) Q6)) Qe) (Q6u (Xi (V7 (Q4d (T := "str") (by decide) (Qw (Q0 0) Qe) rfl T.b_isinstance rfl T.b_str Qn1))))))) (Qc (Qx Q5d)) Zw)
  (Qc (Qx (Qt (Q8s rfl) rfl T.b_all Q1r (Q1 (Wc (Y4 [none] ["part"] rfl (Xj (Wx (Q0 0) (Vx Qe) X0)) (fun _ _ _ _ _=>(Qy (i:=0) (show (["part"]:List Str).Nodup by decide +kernel))) (fun _ _ _ _ _=>(Qh j (q.mono (by decide)) Xp rfl (Q1 (Q0 0) Q6))) (fun _ _ _ _ _=>Ym) J7)) Q6)))))
def Ue:MS:=(Zt (Qa0 (Qj 1 Qk (Q4 (Q3 0) Qa)) (Qa0 (mOp oEq (Jc Yr (Q4 (Q3 0) Qa)) (Qfa (mOp oIx (Q3 0) (mC (.int 0))))) (mOp (oI fun a b=>.bl (decide (b<=a))) (mOp oIx (Q3 0) (Q62 (mC (.int 1)))) (mC (.int 1))))))
def W4:FN:=Qr Ue 1
theorem Qes:FnScope ["thing"] ["thing"] (Q8 Q4i):=⟨rfl,rfl,rfl,by decide +kernel,rfl,by decide +kernel,by decide +kernel⟩
theorem Qf0 {f:aA} {fd:aQ} (F:Fun K "is_deed" "is_deed" Q4i f fd) (T:Txt mg) (PK:PartsOk P w K mg)  (j:DefS P w K mg base 2 "is_text_and_numbers" 1 Qk):FnOk P w K mg base (CXD P w) 3 f fd ["thing"] (spF mg 1 W4):=by
 refine J3 (k:=2) (m:=Ue) F Qes rfl rfl rfl fun z A outer s H E q=>?_
 exact (Qc (Qx (Q2s (Qh j (q.mono (by decide)) Qd rfl (Q1 (Q0 0) Q6)) (Q2s (js (V6 q.units) (Qt Yi rfl T.b_len bX (Q1 (Q0 0) Q6)) (Qjh PK rfl (Qw (Q0 0) Qe))) (Q2q (js Qrm (Qw (Q0 0) (Q2r Qe)) Qe))))))
def W2:ME:=(Qj 2 Yp (Q4 (Q3 1) (Q4 (Q3 0) Qa)))
def Ys : MS := (Qp (J9 2 (mSl (Q3 1) (Ut (mC (.int 1))) (Ut (Q62 (mC (.int 1))))))
  (Qp (Yt (Ku (toB (Jc (Q2i fun ns=>.bl (ns.all id)) (Q4 (Xe (Y3 [none,some 0] (Qn 0) (Q0n (Q3 2)) Ju W2)) Qa)))) (Ki "NoHouse" (mC (.str "no house of this table"))) Yb)
  (Yt (Q0y (toB (mOp oEq (mOp oIx (Q3 1) (mC (.int 0))) (mC (.str "lend")))) (toB (mOp oEq (mOp oIx (Q3 2) (mC (.int 0))) (mOp oIx (Q3 2) (mC (.int 1)))))) (Ki "NoHouse" (mC (.str "a house lends nothing to itself"))) Yb)))
def Jb:FN:=Qr Ys 3
theorem sc_need_houses_of_deed:FnScope ["table", "deed", "houses"] ["table", "deed"] (Q8 Vq):=⟨rfl,rfl,rfl,by decide +kernel,rfl,by decide +kernel,by decide +kernel⟩
theorem Q0d {f:aA} {fd:aQ} (F:Fun K "need_houses_of_deed" "need_houses_of_deed" Vq f fd) (T:Txt mg) (j:∃ C,mg "NoHouse" = some (.ref C)/\bc K C X9 "ValueError.__new__" = true) (q:DefS P w K mg base 3 "is_house" 2 Yp):FnOk P w K mg base (CXD P w) 4 f fd ["table", "deed"] (spF mg 2 Jb):=by
 refine J3 (k:=3) (m:=Ys) F sc_need_houses_of_deed rfl rfl rfl fun B A outer s H E z=>?_
 exact (Q9 (Qs 2 sc_need_houses_of_deed.nd (Wx (Q0 1) (Vx Qe) (Vx (Q2r Qe))))
  (Q9 (Za (Xi (V7 (Qt (Q8s rfl) rfl T.b_all Q1r (Q1 (Wc (Y4 [none,some 0] ["house", "table"] rfl (Xj (Q0 2)) (fun _ _ _ _ _=>(Qy (i:=0) (show (["house", "table"]:List Str).Nodup by decide +kernel))) (fun _ _ _ _ _=>(Qh q (z.mono (by decide)) Xp rfl (Q1 (Q0 1) (Q1 (Q0 0) Q6)))) (fun _ _ _ _ _=>Ym) J7)) Q6)))) (Qc (U2 rfl Vf rfl j.choose_spec.1 j.choose_spec.2 Qz)) Zw)
  (Qc (Za (SimW.t (Q6v (Ja (V6 z.units) (Qw (Q0 1) Qe) Qz) (Q3d (Ja (V6 z.units) (Qw (Q0 2) Qe) (Qw (Q0 2) Qe))))) (Qc (U2 rfl Vf rfl j.choose_spec.1 j.choose_spec.2 Qz)) Zw))))
def U4 : MS := (Qp (Yt (toB (mOp oEq (mOp oIx (Q3 1) (mC (.int 0))) (mC (.str "make")))) (Zt (mOp oIx (Q3 1) (mC (.int 1)))) Yb)
  (Qp (Yt (toB (mOp oEq (mOp oIx (Q3 1) (mC (.int 0))) (mC (.str "lend")))) (Zt (mOp oIx (Q3 1) (mC (.int 2)))) Yb)
  (Zt (Jc Yr (Q4 (Q3 0) Qa)))))
def Wg:FN:=Qr U4 2
theorem Q5n:FnScope ["table", "deed"] ["table", "deed"] (Q8 jv):=⟨rfl,rfl,rfl,by decide +kernel,rfl,by decide +kernel,by decide +kernel⟩
theorem Q5t {f:aA} {fd:aQ} (F:Fun K "place_in_row" "place_in_row" jv f fd) (T:Txt mg)   : FnOk P w K mg base (CXD P w) 1 f fd ["table", "deed"] (spF mg 2 Wg):=by
 refine J3 (k:=0) (m:=U4) F Q5n rfl rfl rfl fun q A outer s H E j=>?_
 exact (Q9 (Za (Ja (V6 j.units) (Qw (Q0 1) Qe) Qz) (Qc (Qx (Qw (Q0 1) Qe))) Zw)
  (Q9 (Za (Ja (V6 j.units) (Qw (Q0 1) Qe) Qz) (Qc (Qx (Qw (Q0 1) Qe))) Zw)
  (Qc (Qx (Qt Yi rfl T.b_len bX (Q1 (Q0 0) Q6))))))
def Q7y : MS := (Qp (J9 4 (mOp oIx (Q3 0) (Q3 1)))
  (Qp (J9 5 (mOp Y5 (mOp Y5 (mSl (Q3 4) W9 (Ut (Q3 2))) (Uf (Q4 (mOp Y5 (mOp oIx (Q3 4) (Q3 2)) (Q3 3)) Qa))) (mSl (Q3 4) (Ut (mOp Y5 (Q3 2) (mC (.int 1)))) W9)))
  (Zt (mOp Y5 (mOp Y5 (mSl (Q3 0) W9 (Ut (Q3 1))) (Uf (Q4 (Q3 5) Qa))) (mSl (Q3 0) (Ut (mOp Y5 (Q3 1) (mC (.int 1)))) W9)))))
def Q1t:FN:=Qr Q7y 6
theorem sc_raised:FnScope ["table", "house", "place", "k", "row", "higher"] ["table", "house", "place", "k"] (Q8 Q76):=⟨rfl,rfl,rfl,by decide +kernel,rfl,by decide +kernel,by decide +kernel⟩
theorem Qhn {f:aA} {fd:aQ} (F:Fun K "raised" "raised" Q76 f fd) (T:Txt mg)   : FnOk P w K mg base (CXD P w) 1 f fd ["table", "house", "place", "k"] (spF mg 4 Q1t):=by
 refine J3 (k:=0) (m:=Q7y) F sc_raised rfl rfl rfl fun j A outer s H E q=>?_
 exact (Q9 (Qs 4 sc_raised.nd (Qw (Q0 0) (Q0 1)))
  (Q9 (Qs 5 sc_raised.nd (J5 Jf (J5 Jf (Wx (Q0 4) X0 (Vx (Q0 2))) (Wd (Q1 (J5 Jf (Qw (Q0 4) (Q0 2)) (Q0 3)) Q6))) (Wx (Q0 4) (Vx (J5 Jf (Q0 2) Qe)) X0)))
  (Qc (Qx (J5 Jf (J5 Jf (Wx (Q0 0) X0 (Vx (Q0 1))) (Wd (Q1 (Q0 5) Q6))) (Wx (Q0 0) (Vx (J5 Jf (Q0 1) Qe)) X0))))))
def Q82 : MS := (Qp (Yt (Ku (toB (Qj 1 W4 (Q4 (Q3 1) Qa)))) (Ki "NoDeed" (mC (.str "neither a making nor a lending nor a using of one right or more"))) Yb)
  (Qp (Wh (Qj 2 Jb (Q4 (Q3 0) (Q4 (Q3 1) Qa))))
  (Qp (J9 2 (mOp oIx (Q3 1) (mC (.int 1))))
  (Qp (J9 3 (mOp oIx (Q3 1) (Q62 (mC (.int 1)))))
  (Qp (Yt (toB (mOp oNe (mOp oIx (Q3 1) (mC (.int 0))) (mC (.str "make")))) (Qp (J9 4 (Qj 2 Vk (Q4 (Q3 0) (Q4 (Q3 2) Qa))))
  (Yt (toB (mOp oLt (Q3 4) (Q3 3))) (Qbw "Short" "had" (Q3 4)) Yb)) Yb)
  (Zt (Qj 4 Q1t (Q4 (Q3 0) (Q4 (Q3 2) (Q4 (Qj 2 Wg (Q4 (Q3 0) (Q4 (Q3 1) Qa))) (Q4 (Q3 3) Qa)))))))))))
def zt:FN:=Qr Q82 5
theorem sc_done:FnScope ["table", "deed", "house", "k", "had"] ["table", "deed"] (Q8 Qet):=⟨rfl,rfl,rfl,by decide +kernel,rfl,by decide +kernel,by decide +kernel⟩
theorem Qq1 {f:aA} {fd:aQ} (F:Fun K "done" "done" Qet f fd) (T:Txt mg) (J:ShortS P w K mg base) (B:∃ C,mg "NoDeed" = some (.ref C)/\bc K C X9 "ValueError.__new__" = true) (G:DefS P w K mg base 3 "is_deed" 1 W4) (j:DefS P w K mg base 4 "need_houses_of_deed" 2 Jb) (q:DefS P w K mg base 4 "rights_tables" 2 Vk) (I:DefS P w K mg base 1 "raised" 4 Q1t) (z:DefS P w K mg base 1 "place_in_row" 2 Wg):FnOk P w K mg base (CXD P w) 5 f fd ["table", "deed"] (spF mg 2 zt):=by
 obtain ⟨a4,a5,a3,a2,O,Y,Z,U⟩:=J.ex;refine J3 (k:=4) (m:=Q82) F sc_done rfl rfl rfl fun a6 A outer s H E hr=>?_
 exact (Q9 (Za (Xi (V7 (Qh G (hr.mono (by decide)) Qd rfl (Q1 (Q0 1) Q6)))) (Qc (U2 rfl Vf rfl B.choose_spec.1 B.choose_spec.2 Qz)) Zw)
  (Q9 (Y8 (Qh j (hr.mono (by decide)) Qd rfl (Q1 (Q0 0) (Q1 (Q0 1) Q6))))
  (Q9 (Qs 2 sc_done.nd (Qw (Q0 1) Qe))
  (Q9 (Qs 3 sc_done.nd (Qw (Q0 1) (Q2r Qe)))
  (Q9 (Za (Ja (Q3n hr.units) (Qw (Q0 1) Qe) Qz) (Q9 (Qs 4 sc_done.nd (Qh q (hr.mono (by decide)) Qd rfl (Q1 (Q0 0) (Q1 (Q0 2) Q6))))
  (Qc (Za (Ja (Q3p hr.units) (Q0 4) (Q0 3)) (Qc (Qh6 rfl Vf O Y (hr.mono (by decide)) Z rfl U (Q0 4))) Zw))) Zw)
  (Qc (Qx (Qh I (hr.mono (by decide)) Qd rfl (Q1 (Q0 0) (Q1 (Q0 2) (Q1 (Qh z (hr.mono (by decide)) Qd rfl (Q1 (Q0 0) (Q1 (Q0 1) Q6))) (Q1 (Q0 3) Q6))))))))))))
def Q1f:MS:=(Zt (mOp (oI fun a b=>.bl (decide (b < a))) (mOp oIx (mOp oIx (Q3 0) (Q3 1)) (Q3 1)) (mC (.int 0))))
def Kz:FN:=Qr Q1f 2
theorem Qbj:FnScope ["table", "house"] ["table", "house"] (Q8 Q16):=⟨rfl,rfl,rfl,by decide +kernel,rfl,by decide +kernel,by decide +kernel⟩
theorem Qbs {f:aA} {fd:aQ} (F:Fun K "made_some" "made_some" Q16 f fd) (T:Txt mg)   : FnOk P w K mg base (CXD P w) 1 f fd ["table", "house"] (spF mg 2 Kz):=by
 refine J3 (k:=0) (m:=Q1f) F Qbj rfl rfl rfl fun j A outer s H E q=>?_
 exact (Qc (Qx (js Q7g (Qw (Qw (Q0 0) (Q0 1)) (Q0 1)) Qe)))
def Um : MS := (Qp (J9 2 (mOp oIx (Q3 0) (Q3 1)))
  (Zt (mOp (oI fun a b=>.bl (decide (b < a))) (Jc (K2 fun ns=>some (.int ns.sum)) (Q4 (Q3 2) Qa)) (mOp oIx (Q3 2) (Q3 1)))))
def W7:FN:=Qr Um 3
theorem sc_lent_or_used_some:FnScope ["table", "house", "row"] ["table", "house"] (Q8 Uk):=⟨rfl,rfl,rfl,by decide +kernel,rfl,by decide +kernel,by decide +kernel⟩
theorem Q1d {f:aA} {fd:aQ} (F:Fun K "lent_or_used_some" "lent_or_used_some" Uk f fd) (T:Txt mg)   : FnOk P w K mg base (CXD P w) 1 f fd ["table", "house"] (spF mg 2 W7):=by
 refine J3 (k:=0) (m:=Um) F sc_lent_or_used_some rfl rfl rfl fun j A outer s H E q=>?_
 exact (Q9 (Qs 2 sc_lent_or_used_some.nd (Qw (Q0 0) (Q0 1)))
  (Qc (Qx (js Q7g (Qt (Q8r rfl) rfl T.b_sum Q1q (Q1 (Q0 2) Q6)) (Qw (Q0 2) (Q0 1))))))
def Xx:ME:=(mOp (oI fun a b=>.bl (decide (b < a))) (mOp oIx (mOp oIx (Q3 2) (Q3 0)) (Q3 1)) (mC (.int 0)))
def Xg:MT:=(toB (mOp oNe (Q3 0) (Q3 1)))
def qm:MS:=(Zt (Jc (Q2i fun ns=>.bl (ns.any id)) (Q4 (Xe (Y3 [none,some 1,some 0] (Qn 0) (Q0n (Q3 2)) Xg Xx)) Qa)))
def Vj:FN:=Qr qm 3
theorem Q4f:FnScope ["table", "house", "lenders"] ["table", "house", "lenders"] (Q8 qf):=⟨rfl,rfl,rfl,by decide +kernel,rfl,by decide +kernel,by decide +kernel⟩
theorem Q4r {f:aA} {fd:aQ} (F:Fun K "was_lent_some" "was_lent_some" qf f fd) (T:Txt mg)   : FnOk P w K mg base (CXD P w) 1 f fd ["table", "house", "lenders"] (spF mg 3 Vj):=by
 refine J3 (k:=0) (m:=qm) F Q4f rfl rfl rfl fun j A outer s H E q=>?_
 exact (Qc (Qx (Qt (Qmk rfl) rfl T.b_any Qed (Q1 (Wc (Y4 [none,some 1,some 0] ["lender", "house", "table"] rfl (Xj (Q0 2)) (fun _ _ _ _ _=>(Qy (i:=0) (show (["lender", "house", "table"]:List Str).Nodup by decide +kernel))) (fun _ _ _ _ _=>(js Q7g (Qw (Qw (Q0 2) (Q0 0)) (Q0 1)) Qe)) (fun _ _ _ _ _=>(xz (Ja (Q3n q.units) (Q0 0) (Q0 1)))) J7)) Q6))))
def Q0j:MS:=(Zt (mOr (Qj 2 Kz (Q4 (Q3 0) (Q4 (Q3 1) Qa))) (Qj 3 Vj (Q4 (Q3 0) (Q4 (Q3 1) (Q4 (Q3 2) Qa))))))
def Km:FN:=Qr Q0j 3
theorem Qcz:FnScope ["table", "house", "ahead"] ["table", "house", "ahead"] (Q8 Q2x):=⟨rfl,rfl,rfl,by decide +kernel,rfl,by decide +kernel,by decide +kernel⟩
theorem Qdf {f:aA} {fd:aQ} (F:Fun K "has_root" "has_root" Q2x f fd) (T:Txt mg)  (q:DefS P w K mg base 1 "made_some" 2 Kz) (j:DefS P w K mg base 1 "was_lent_some" 3 Vj):FnOk P w K mg base (CXD P w) 2 f fd ["table", "house", "ahead"] (spF mg 3 Km):=by
 refine J3 (k:=1) (m:=Q0j) F Qcz rfl rfl rfl fun B A outer s H E z=>?_
 exact (Qc (Qx (Qvg (Qh q (z.mono (by decide)) Qd rfl (Q1 (Q0 0) (Q1 (Q0 1) Q6))) (Q2q (Qh j (z.mono (by decide)) Qd rfl (Q1 (Q0 0) (Q1 (Q0 1) (Q1 (Q0 2) Q6))))))))
def Xz:ME:=(Q3 0)
def Vw:MT:=(toB (mOp (oIn true) (Q3 0) (Q3 1)))
def Xy:ME:=(Q3 0)
def Xh:MT:=(toB (Qj 3 Km (Q4 (Q3 1) (Q4 (Q3 0) (Q4 (Q3 2) Qa)))))
def Vz : MS := (Qp (J9 3 (Xe (Y3 [none, some 1] (Qn 0) (Z9 (Q4 (Jc Yr (Q4 (Q3 0) Qa)) Qa)) Vw Xz)))
  (Qp (J9 4 (Xe (Y3 [none,some 0,some 1] (Qn 0) (Q0n (Q3 3)) Xh Xy)))
  (Qp (Wh (mBM Kv (Q3 1) (Q4 (Q3 4) Qa)))
  (J9 2 (mOp (oI fun a b=>.bl (decide (b < a))) (Jc Yr (Q4 (Q3 4) Qa)) (mC (.int 0)))))))
def W0:MT:=(toB (Q3 2))
def Vh : MS := (Qp (J9 1 (xi (zg Qa)))
  (Qp (J9 2 (mC (.bl true)))
  (Qp (U0 W0 Vz 100000)
  (Zt (Q3 1)))))
def Wj:FN:=Qr Vh 5
theorem sc_rooted_houses:FnScope ["table", "roots", "grows", "others", "found"] ["table"] (Q8 qg):=⟨rfl,rfl,rfl,by decide +kernel,rfl,by decide +kernel,by decide +kernel⟩
theorem Q4s {f:aA} {fd:aQ} (F:Fun K "rooted_houses" "rooted_houses" qg f fd) (T:Txt mg)  (j:DefS P w K mg base 2 "has_root" 3 Km):FnOk P w K mg base (CXD P w) 3 f fd ["table"] (spF mg 1 Wj):=by
 refine J3 (k:=2) (m:=Vh) F sc_rooted_houses rfl rfl rfl fun z A outer s H E q=>?_
 exact (Q9 (Qs 1 sc_rooted_houses.nd (X3 (jq Q6)))
  (Q9 (Qs 2 sc_rooted_houses.nd Q5d)
  (Q9 (Q6x 100000 PassesOwn.leaving (V7 (Q0 2)) (Q9 (by first | exact Q14 [none,some 1] ["house", "roots"] 3 sc_rooted_houses.nd rfl (Jj rfl T.b_range (Q1 (Qt Yi rfl T.b_len bX (Q1 (Q0 0) Q6)) Q6)) (fun _ _ _ _ _=>(Qy (i:=0) (show (["house", "roots"]:List Str).Nodup by decide +kernel))) (fun _ _ _ _ _=>(Q0 0)) (fun _ _ _ _ _=>(xz (Ja (Q1b q.units) (Q0 0) (Q0 1)))) J7 | exact Qs 3 sc_rooted_houses.nd (Wc (Y4 [none,some 1] ["house", "roots"] rfl (Jj rfl T.b_range (Q1 (Qt Yi rfl T.b_len bX (Q1 (Q0 0) Q6)) Q6)) (fun _ _ _ _ _=>(Qy (i:=0) (show (["house", "roots"]:List Str).Nodup by decide +kernel))) (fun _ _ _ _ _=>(Q0 0)) (fun _ _ _ _ _=>(xz (Ja (Q1b q.units) (Q0 0) (Q0 1)))) J7)))
  (Q9 (by first | exact Q14 [none,some 0,some 1] ["house", "table", "roots"] 4 sc_rooted_houses.nd rfl (Xj (Q0 3)) (fun _ _ _ _ _=>(Qy (i:=0) (show (["house", "table", "roots"]:List Str).Nodup by decide +kernel))) (fun _ _ _ _ _=>(Q0 0)) (fun _ _ _ _ _=>(xz (V7 (Qh j (q.mono (by decide)) Xp rfl (Q1 (Q0 1) (Q1 (Q0 0) (Q1 (Q0 2) Q6))))))) J7 | exact Qs 4 sc_rooted_houses.nd (Wc (Y4 [none,some 0,some 1] ["house", "table", "roots"] rfl (Xj (Q0 3)) (fun _ _ _ _ _=>(Qy (i:=0) (show (["house", "table", "roots"]:List Str).Nodup by decide +kernel))) (fun _ _ _ _ _=>(Q0 0)) (fun _ _ _ _ _=>(xz (V7 (Qh j (q.mono (by decide)) Xp rfl (Q1 (Q0 1) (Q1 (Q0 0) (Q1 (Q0 2) Q6))))))) J7)))
  (Q9 (Y8 (Q4e (Q0 1) (Q1 (Q0 4) Q6)))
  (Qc (Qs 2 sc_rooted_houses.nd (js Q7g (Qt Yi rfl T.b_len bX (Q1 (Q0 4) Q6)) Qe)))))))
  (Qc (Qx (Q0 1))))))
def Uq:ME:=(Q3 0)
def Ww:MT:=(toB (mOp (oIn true) (Q3 0) (Q3 1)))
def Up:ME:=(Qj 2 W7 (Q4 (Q3 1) (Q4 (Q3 0) Qa)))
def Vy : MS := (Qp (J9 1 (Qj 1 Wj (Q4 (Q3 0) Qa)))
  (Qp (J9 2 (Xe (Y3 [none,some 1] (Qn 0) (Z9 (Q4 (Jc Yr (Q4 (Q3 0) Qa)) Qa)) Ww Uq)))
  (Qp (Yt (toB (Jc (Q2i fun ns=>.bl (ns.any id)) (Q4 (Xe (Y3 [none,some 0] (Qn 0) (Q0n (Q3 2)) Ju Up)) Qa))) (Zt (Q3 2)) Yb)
  (Zt (Q51 Qa)))))
def W3:FN:=Qr Vy 3
theorem sc_rootless_houses:FnScope ["table", "roots", "others"] ["table"] (Q8 Xk):=⟨rfl,rfl,rfl,by decide +kernel,rfl,by decide +kernel,by decide +kernel⟩
theorem Q30 {f:aA} {fd:aQ} (F:Fun K "rootless_houses" "rootless_houses" Xk f fd) (T:Txt mg)  (q:DefS P w K mg base 3 "rooted_houses" 1 Wj) (j:DefS P w K mg base 1 "lent_or_used_some" 2 W7):FnOk P w K mg base (CXD P w) 4 f fd ["table"] (spF mg 1 W3):=by
 refine J3 (k:=3) (m:=Vy) F sc_rootless_houses rfl rfl rfl fun B A outer s H E z=>?_
 exact (Q9 (Qs 1 sc_rootless_houses.nd (Qh q (z.mono (by decide)) Qd rfl (Q1 (Q0 0) Q6)))
  (Q9 (by first | exact Q14 [none,some 1] ["house", "roots"] 2 sc_rootless_houses.nd rfl (Jj rfl T.b_range (Q1 (Qt Yi rfl T.b_len bX (Q1 (Q0 0) Q6)) Q6)) (fun _ _ _ _ _=>(Qy (i:=0) (show (["house", "roots"]:List Str).Nodup by decide +kernel))) (fun _ _ _ _ _=>(Q0 0)) (fun _ _ _ _ _=>(xz (Ja (Q1b z.units) (Q0 0) (Q0 1)))) J7 | exact Qs 2 sc_rootless_houses.nd (Wc (Y4 [none,some 1] ["house", "roots"] rfl (Jj rfl T.b_range (Q1 (Qt Yi rfl T.b_len bX (Q1 (Q0 0) Q6)) Q6)) (fun _ _ _ _ _=>(Qy (i:=0) (show (["house", "roots"]:List Str).Nodup by decide +kernel))) (fun _ _ _ _ _=>(Q0 0)) (fun _ _ _ _ _=>(xz (Ja (Q1b z.units) (Q0 0) (Q0 1)))) J7)))
  (Q9 (Za (V7 (Qt (Qmk rfl) rfl T.b_any Qed (Q1 (Wc (Y4 [none,some 0] ["house", "table"] rfl (Xj (Q0 2)) (fun _ _ _ _ _=>(Qy (i:=0) (show (["house", "table"]:List Str).Nodup by decide +kernel))) (fun _ _ _ _ _=>(Qh j (z.mono (by decide)) Xp rfl (Q1 (Q0 1) (Q1 (Q0 0) Q6)))) (fun _ _ _ _ _=>Ym) J7)) Q6))) (Qc (Qx (Q0 2))) Zw)
  (Qc (Qx (Q4c Q6))))))
def X1:MS:=(Yt (toB (mOp oLt (Qj 2 Vk (Q4 (Q3 0) (Q4 (Q3 1) Qa))) (mC (.int 0)))) (Zt (Uf (Q4 (mC (.str "short")) (Q4 (Q3 1) Qa)))) Yb)
def Us : MS := (Qp (Q2h (Qn 1) (Z9 (Q4 (Jc Yr (Q4 (Q3 0) Qa)) Qa)) X1)
  (Qp (J9 2 (Qj 1 W3 (Q4 (Q3 0) Qa)))
  (Qp (Yt (toB (mOp (oI fun a b=>.bl (decide (b < a))) (Jc Yr (Q4 (Q3 2) Qa)) (mC (.int 0)))) (Zt (Uf (Q4 (mC (.str "rootless")) (Q4 (Q3 2) Qa)))) Yb)
  (Zt (Uf (Q4 (mC (.str "comes")) (Q4 (Qj 1 Wj (Q4 (Q3 0) Qa)) Qa)))))))
def Wv:FN:=Qr Us 3
theorem sc_comes_about:FnScope ["table", "house", "rootless"] ["table"] (Q8 ye):=⟨rfl,rfl,rfl,by decide +kernel,rfl,by decide +kernel,by decide +kernel⟩
theorem Q7i {f:aA} {fd:aQ} (F:Fun K "comes_about" "comes_about" ye f fd) (T:Txt mg)  (z:DefS P w K mg base 4 "rights_tables" 2 Vk) (j:DefS P w K mg base 4 "rootless_houses" 1 W3) (q:DefS P w K mg base 3 "rooted_houses" 1 Wj):FnOk P w K mg base (CXD P w) 5 f fd ["table"] (spF mg 1 Wv):=by
 refine J3 (k:=4) (m:=Us) F sc_comes_about rfl rfl rfl fun G A outer s H E B=>?_
 exact (Q9 (Kc PassesOwn.leaving rfl (Jj rfl T.b_range (Q1 (Qt Yi rfl T.b_len bX (Q1 (Q0 0) Q6)) Q6)) (Qy (i:=1) sc_comes_about.nd) (Qc (Za (Ja (Q3p B.units) (Qh z (B.mono (by decide)) Qd rfl (Q1 (Q0 0) (Q1 (Q0 1) Q6))) Qe) (Qc (Qx (Wd (Q1 Qz (Q1 (Q0 1) Q6))))) Zw)))
  (Q9 (Qs 2 sc_comes_about.nd (Qh j (B.mono (by decide)) Qd rfl (Q1 (Q0 0) Q6)))
  (Q9 (Za (Ja Q7g (Qt Yi rfl T.b_len bX (Q1 (Q0 2) Q6)) Qe) (Qc (Qx (Wd (Q1 Qz (Q1 (Q0 2) Q6))))) Zw)
  (Qc (Qx (Wd (Q1 Qz (Q1 (Qh q (B.mono (by decide)) Qd rfl (Q1 (Q0 0) Q6)) Q6))))))))
def Xq:MS:=(Zt (Qa0 (Qj 1 zr (Q4 (Q3 0) Qa)) (mOp oEq (mOp oIx (Qj 1 Wv (Q4 (Q3 0) Qa)) (mC (.int 0))) (mC (.str "comes")))))
def Wq:FN:=Qr Xq 1
theorem Q2t:FnScope ["thing"] ["thing"] (Q8 Xm):=⟨rfl,rfl,rfl,by decide +kernel,rfl,by decide +kernel,by decide +kernel⟩
theorem Q31 {f:aA} {fd:aQ} (F:Fun K "does_come_about" "does_come_about" Xm f fd) (T:Txt mg)  (q:DefS P w K mg base 3 "is_table" 1 zr) (j:DefS P w K mg base 5 "comes_about" 1 Wv):FnOk P w K mg base (CXD P w) 6 f fd ["thing"] (spF mg 1 Wq):=by
 refine J3 (k:=5) (m:=Xq) F Q2t rfl rfl rfl fun B A outer s H E z=>?_
 exact (Qc (Qx (Q2s (Qh q (z.mono (by decide)) Qd rfl (Q1 (Q0 0) Q6)) (Q2q (js (V6 z.units) (Qw (Qh j (z.mono (by decide)) Qd rfl (Q1 (Q0 0) Q6)) Qe) Qz)))))
def X7:MS:=(Yt (Ku (toB (Qj 1 Wq (Q4 (Q3 0) Qa)))) (Ki "NoTable" (mC (.str "no table that comes about"))) Yb)
def Yj:FN:=Qr X7 1
theorem Q2c:FnScope ["thing"] ["thing"] (Q8 X5):=⟨rfl,rfl,rfl,by decide +kernel,rfl,by decide +kernel,by decide +kernel⟩
theorem Q2g {f:aA} {fd:aQ} (F:Fun K "need_comes_about" "need_comes_about" X5 f fd) (T:Txt mg) (q:∃ C,mg "NoTable" = some (.ref C)/\bc K C X9 "ValueError.__new__" = true) (j:DefS P w K mg base 6 "does_come_about" 1 Wq):FnOk P w K mg base (CXD P w) 7 f fd ["thing"] (spF mg 1 Yj):=by
 refine J3 (k:=6) (m:=X7) F Q2c rfl rfl rfl fun z A outer s H E B=>?_
 exact (Qc (Za (Xi (V7 (Qh j (B.mono (by decide)) Qd rfl (Q1 (Q0 0) Q6)))) (Qc (U2 rfl Vf rfl q.choose_spec.1 q.choose_spec.2 Qz)) Zw))
def Kg (C : aA) : MS := (Qp (Wh (Qj 1 Yj (Q4 (Q3 2) Qa)))
  (Qp (Yt (Ku (toB (Qj 2 Yp (Q4 (Q3 2) (Q4 (Q3 1) Qa))))) (Ki "NoHouse" (mC (.str "no house of this table"))) Yb)
  (Qp (xj C "number" (Q3 0) (Q3 1))
  (Qp (xj C "now" (Q3 0) (Q3 2))
  (xj C "kept" (Q3 0) (Q3 2))))))
def Wb (C:aA):FN:=Yq (Kg C) 3
theorem Q3f:FnScope ["self", "number", "table"] ["self", "number", "table"] (Q8 Wa):=⟨rfl,rfl,rfl,by decide +kernel,rfl,by decide +kernel,by decide +kernel⟩
theorem Q3q {f:aA} {fd:aQ} {C:aA} (F:Fun K "__init__" "House.__init__" Wa f fd) (T:Txt mg) (B:ClsT K C) (q:∃ C,mg "NoHouse" = some (.ref C)/\bc K C X9 "ValueError.__new__" = true) (j:DefS P w K mg base 7 "need_comes_about" 1 Yj) (z:DefS P w K mg base 3 "is_house" 2 Yp):FnOk P w K mg base (CXD P w) 8 f fd ["self", "number", "table"] (spF mg 3 (Wb C)):=by
 refine We (k:=7) (m:=(Kg C)) F Q3f rfl rfl rfl fun I A outer s H E G=>?_
 exact (Q9 (Y8 (Qh j (G.mono (by decide)) Qd rfl (Q1 (Q0 2) Q6)))
  (Q9 (Za (Xi (V7 (Qh z (G.mono (by decide)) Qd rfl (Q1 (Q0 2) (Q1 (Q0 1) Q6))))) (Qc (U2 rfl Vf rfl q.choose_spec.1 q.choose_spec.2 Qz)) Zw)
  (Q9 (Q00 B.cl B.n_number (Q0 1) (Q0 0))
  (Q9 (Q00 B.cl B.n_now (Q0 2) (Q0 0))
  (Qc (Q00 B.cl B.n_kept (Q0 2) (Q0 0)))))))
def ja (C:aA):MS:=(xj C "now" (Q3 0) (Qj 2 zt (Q4 (Ug C "now" (Q3 0)) (Q4 (Uf (Q4 (mC (.str "make")) (Q4 (Ug C "number" (Q3 0)) (Q4 (Q3 1) Qa)))) Qa))))
def K6 (C:aA):FN:=Yq (ja C) 2
theorem Q9b:FnScope ["self", "k"] ["self", "k"] (Q8 U9):=⟨rfl,rfl,rfl,by decide +kernel,rfl,by decide +kernel,by decide +kernel⟩
theorem Q9t {f:aA} {fd:aQ} {C:aA} (F:Fun K "make" "House.make" U9 f fd) (T:Txt mg) (q:ClsT K C)  (j:DefS P w K mg base 5 "done" 2 zt):FnOk P w K mg base (CXD P w) 6 f fd ["self", "k"] (spF mg 2 (K6 C)):=by
 refine We (k:=5) (m:=(ja C)) F Q9b rfl rfl rfl fun z A outer s H E B=>?_
 exact (Qc (Q00 q.cl q.n_now (Qh j (B.mono (by decide)) Qd rfl (Q1 (U3 q.cl q.n_now (Q0 0)) (Q1 (Wd (Q1 Qz (Q1 (U3 q.cl q.n_number (Q0 0)) (Q1 (Q0 1) Q6)))) Q6))) (Q0 0)))
def jb (C:aA):MS:=(xj C "now" (Q3 0) (Qj 2 zt (Q4 (Ug C "now" (Q3 0)) (Q4 (Uf (Q4 (mC (.str "lend")) (Q4 (Ug C "number" (Q3 0)) (Q4 (Q3 1) (Q4 (Q3 2) Qa))))) Qa))))
def K7 (C:aA):FN:=Yq (jb C) 3
theorem Q9c:FnScope ["self", "to", "k"] ["self", "to", "k"] (Q8 Ua):=⟨rfl,rfl,rfl,by decide +kernel,rfl,by decide +kernel,by decide +kernel⟩
theorem Q9u {f:aA} {fd:aQ} {C:aA} (F:Fun K "lend" "House.lend" Ua f fd) (T:Txt mg) (q:ClsT K C)  (j:DefS P w K mg base 5 "done" 2 zt):FnOk P w K mg base (CXD P w) 6 f fd ["self", "to", "k"] (spF mg 3 (K7 C)):=by
 refine We (k:=5) (m:=(jb C)) F Q9c rfl rfl rfl fun z A outer s H E B=>?_
 exact (Qc (Q00 q.cl q.n_now (Qh j (B.mono (by decide)) Qd rfl (Q1 (U3 q.cl q.n_now (Q0 0)) (Q1 (Wd (Q1 Qz (Q1 (U3 q.cl q.n_number (Q0 0)) (Q1 (Q0 1) (Q1 (Q0 2) Q6))))) Q6))) (Q0 0)))
def y0 (C:aA):MS:=(xj C "now" (Q3 0) (Qj 2 zt (Q4 (Ug C "now" (Q3 0)) (Q4 (Uf (Q4 (mC (.str "use")) (Q4 (Ug C "number" (Q3 0)) (Q4 (Q3 1) Qa)))) Qa))))
def qc (C:aA):FN:=Yq (y0 C) 2
theorem Qbk:FnScope ["self", "k"] ["self", "k"] (Q8 Xc):=⟨rfl,rfl,rfl,by decide +kernel,rfl,by decide +kernel,by decide +kernel⟩
theorem Qbu {f:aA} {fd:aQ} {C:aA} (F:Fun K "use" "House.use" Xc f fd) (T:Txt mg) (q:ClsT K C)  (j:DefS P w K mg base 5 "done" 2 zt):FnOk P w K mg base (CXD P w) 6 f fd ["self", "k"] (spF mg 2 (qc C)):=by
 refine We (k:=5) (m:=(y0 C)) F Qbk rfl rfl rfl fun z A outer s H E B=>?_
 exact (Qc (Q00 q.cl q.n_now (Qh j (B.mono (by decide)) Qd rfl (Q1 (U3 q.cl q.n_now (Q0 0)) (Q1 (Wd (Q1 Qz (Q1 (U3 q.cl q.n_number (Q0 0)) (Q1 (Q0 1) Q6)))) Q6))) (Q0 0)))
def jc (C:aA):MS:=(xj C "kept" (Q3 0) (Ug C "now" (Q3 0)))
def K8 (C:aA):FN:=Yq (jc C) 1
theorem Q9d:FnScope ["self"] ["self"] (Q8 Ub):=⟨rfl,rfl,rfl,by decide +kernel,rfl,by decide +kernel,by decide +kernel⟩
theorem Q9v {f:aA} {fd:aQ} {C:aA} (F:Fun K "keep" "House.keep" Ub f fd) (T:Txt mg) (j:ClsT K C)   : FnOk P w K mg base (CXD P w) 1 f fd ["self"] (spF mg 1 (K8 C)):=by
 refine We (k:=0) (m:=(jc C)) F Q9d rfl rfl rfl fun q A outer s H E z=>?_
 exact (Qc (Q00 j.cl j.n_kept (U3 j.cl j.n_now (Q0 0)) (Q0 0)))
def jd (C:aA):MS:=(xj C "now" (Q3 0) (Ug C "kept" (Q3 0)))
def K9 (C:aA):FN:=Yq (jd C) 1
theorem Q9e:FnScope ["self"] ["self"] (Q8 Uc):=⟨rfl,rfl,rfl,by decide +kernel,rfl,by decide +kernel,by decide +kernel⟩
theorem Q9w {f:aA} {fd:aQ} {C:aA} (F:Fun K "fall" "House.fall" Uc f fd) (T:Txt mg) (j:ClsT K C)   : FnOk P w K mg base (CXD P w) 1 f fd ["self"] (spF mg 1 (K9 C)):=by
 refine We (k:=0) (m:=(jd C)) F Q9e rfl rfl rfl fun q A outer s H E z=>?_
 exact (Qc (Q00 j.cl j.n_now (U3 j.cl j.n_kept (Q0 0)) (Q0 0)))
def Xr (C:aA):MS:=(Zt (Ug C "kept" (Q3 0)))
def V5 (C:aA):FN:=Qr (Xr C) 1
theorem Q5q:FnScope ["self"] ["self"] (Q8 Wz):=⟨rfl,rfl,rfl,by decide +kernel,rfl,by decide +kernel,by decide +kernel⟩
theorem Q5z {f:aA} {fd:aQ} {C:aA} (F:Fun K "letter" "House.letter" Wz f fd) (T:Txt mg) (j:ClsT K C)   : FnOk P w K mg base (CXD P w) 1 f fd ["self"] (spF mg 1 (V5 C)):=by
 refine J3 (k:=0) (m:=(Xr C)) F Q5q rfl rfl rfl fun q A outer s H E z=>?_
 exact (Qc (Qx (U3 j.cl j.n_kept (Q0 0))))
def je (C : aA) : MS := (Qp (Wh (Qj 2 Z8 (Q4 (Ug C "now" (Q3 0)) (Q4 (Q3 1) Qa))))
  (Qp (Yt (Ku (toB (Qj 2 Vm (Q4 (mOp oIx (Q3 1) (Ug C "number" (Q3 0))) (Q4 (mOp oIx (Ug C "now" (Q3 0)) (Ug C "number" (Q3 0))) Qa))))) (Ki "NoLetter" (mC (.str "it tells more of this house than the house did"))) Yb)
  (xj C "now" (Q3 0) (Qj 2 zq (Q4 (Ug C "now" (Q3 0)) (Q4 (Q3 1) Qa))))))
def Ka (C:aA):FN:=Yq (je C) 2
theorem Q9f:FnScope ["self", "table"] ["self", "table"] (Q8 Ud):=⟨rfl,rfl,rfl,by decide +kernel,rfl,by decide +kernel,by decide +kernel⟩
theorem Q9x {f:aA} {fd:aQ} {C:aA} (F:Fun K "come" "House.come" Ud f fd) (T:Txt mg) (G:ClsT K C) (z:∃ C,mg "NoLetter" = some (.ref C)/\bc K C X9 "ValueError.__new__" = true) (j:DefS P w K mg base 1 "need_as_many_houses" 2 Z8) (q:DefS P w K mg base 1 "is_row_within" 2 Vm) (B:DefS P w K mg base 2 "joined" 2 zq):FnOk P w K mg base (CXD P w) 3 f fd ["self", "table"] (spF mg 2 (Ka C)):=by
 refine We (k:=2) (m:=(je C)) F Q9f rfl rfl rfl fun J A outer s H E I=>?_
 exact (Q9 (Y8 (Qh j (I.mono (by decide)) Qd rfl (Q1 (U3 G.cl G.n_now (Q0 0)) (Q1 (Q0 1) Q6))))
  (Q9 (Za (Xi (V7 (Qh q (I.mono (by decide)) Qd rfl (Q1 (Qw (Q0 1) (U3 G.cl G.n_number (Q0 0))) (Q1 (Qw (U3 G.cl G.n_now (Q0 0)) (U3 G.cl G.n_number (Q0 0))) Q6))))) (Qc (U2 rfl Vf rfl z.choose_spec.1 z.choose_spec.2 Qz)) Zw)
  (Qc (Q00 G.cl G.n_now (Qh B (I.mono (by decide)) Qd rfl (Q1 (U3 G.cl G.n_now (Q0 0)) (Q1 (Q0 1) Q6))) (Q0 0)))))
def Kn (C:aA):MS:=(Zt (Ug C "now" (Q3 0)))
def Uz (C:aA):FN:=Qr (Kn C) 1
theorem Q74:FnScope ["self"] ["self"] (Q8 Vn):=⟨rfl,rfl,rfl,by decide +kernel,rfl,by decide +kernel,by decide +kernel⟩
theorem Q7r {f:aA} {fd:aQ} {C:aA} (F:Fun K "table" "House.table" Vn f fd) (T:Txt mg) (j:ClsT K C)   : FnOk P w K mg base (CXD P w) 1 f fd ["self"] (spF mg 1 (Uz C)):=by
 refine J3 (k:=0) (m:=(Kn C)) F Q74 rfl rfl rfl fun q A outer s H E z=>?_
 exact (Qc (Qx (U3 j.cl j.n_now (Q0 0))))
def Q1g (C:aA):MS:=(Zt (Qj 2 Vk (Q4 (Ug C "now" (Q3 0)) (Q4 (Ug C "number" (Q3 0)) Qa))))
def Q1v (C:aA):FN:=Qr (Q1g C) 1
theorem Q5p:FnScope ["self"] ["self"] (Q8 Wy):=⟨rfl,rfl,rfl,by decide +kernel,rfl,by decide +kernel,by decide +kernel⟩
theorem Q5y {f:aA} {fd:aQ} {C:aA} (F:Fun K "rights" "House.rights" Wy f fd) (T:Txt mg) (q:ClsT K C)  (j:DefS P w K mg base 4 "rights_tables" 2 Vk):FnOk P w K mg base (CXD P w) 5 f fd ["self"] (spF mg 1 (Q1v C)):=by
 refine J3 (k:=4) (m:=(Q1g C)) F Q5p rfl rfl rfl fun z A outer s H E B=>?_
 exact (Qc (Qx (Qh j (B.mono (by decide)) Qd rfl (Q1 (U3 q.cl q.n_now (Q0 0)) (Q1 (U3 q.cl q.n_number (Q0 0)) Q6)))))
def Q3v (C:aA):MS:=(Wh (Qj 1 Qck (Q4 (mC (.int 0)) Qa)))
def Q48 (C:aA):FN:=Qr (Q3v C) 1
theorem Q9a:FnScope ["self"] ["self"] (Q8 U8):=⟨rfl,rfl,rfl,by decide +kernel,rfl,by decide +kernel,by decide +kernel⟩
theorem Q9s {f:aA} {fd:aQ} {C:aA} (F:Fun K "used" "House.used" U8 f fd) (T:Txt mg) (B:ClsT K C)  (j:DefS P w K mg base 1 "_wall" 1 Qck):FnOk P w K mg base (CXD P w) 2 f fd ["self"] (spF mg 1 (Q48 C)):=by
 refine J3 (k:=1) (m:=(Q3v C)) F Q9a rfl rfl rfl fun q A outer s H E z=>?_
 exact (Qc (Y8 (Qh j (z.mono (by decide)) Qd rfl (Q1 Qe Q6))))
def Y9:MS:=(Zt (Qa0 (Qj 1 Qk (Q4 (Q3 0) Qa)) (mOp oEq (Jc Yr (Q4 (Q3 0) Qa)) (jf (mOp oIx (Q3 0) (mC (.int 0)))))))
def J8:FN:=Qr Y9 1
theorem Q4h:FnScope ["thing"] ["thing"] (Q8 qj):=⟨rfl,rfl,rfl,by decide +kernel,rfl,by decide +kernel,by decide +kernel⟩
theorem Q4u {f:aA} {fd:aQ} (F:Fun K "is_other_deed" "is_other_deed" qj f fd) (T:Txt mg) (PO:PartsO P w K mg)  (j:DefS P w K mg base 2 "is_text_and_numbers" 1 Qk):FnOk P w K mg base (CXD P w) 3 f fd ["thing"] (spF mg 1 J8):=by
 refine J3 (k:=2) (m:=Y9) F Q4h rfl rfl rfl fun z A outer s H E q=>?_
 exact (Qc (Qx (Q2s (Qh j (q.mono (by decide)) Qd rfl (Q1 (Q0 0) Q6)) (Q2q (js (V6 q.units) (Qt Yi rfl T.b_len bX (Q1 (Q0 0) Q6)) (Qh8 PO rfl (Qw (Q0 0) Qe)))))))
def Yh:MS:=(Yt (toB (Qj 1 W4 (Q4 (Q3 2) Qa))) (Wh (Qj 2 Jb (Q4 (Q3 0) (Q4 (Q3 2) Qa)))) (Yt (Ku (toB (Qj 1 J8 (Q4 (Q3 2) Qa)))) (Ki "NoDeed" (mC (.str "a deed of no kind that runs have"))) (Yt (Ku (toB (Qj 2 Yp (Q4 (Q3 0) (Q4 (mOp oIx (Q3 2) (Q62 (mC (.int 1)))) Qa))))) (Ki "NoHouse" (mC (.str "no house of this run"))) (Yt (Q0y (toB (mOp oEq (mOp oIx (Q3 2) (mC (.int 0))) (mC (.str "come")))) (Ku (toB (Q1h (oI fun a b=>.bl (decide (a<=b))) oLt (mC (.int 0)) (mOp oIx (Q3 2) (mC (.int 1))) (Jc Yr (Q4 (Q3 1) Qa)))))) (Ki "NoLetter" (mC (.str "no letter of this number is put by so far"))) Yb))))
def Jg:FN:=Qr Yh 3
theorem Q2b:FnScope ["table", "letters", "deed"] ["table", "letters", "deed"] (Q8 X4):=⟨rfl,rfl,rfl,by decide +kernel,rfl,by decide +kernel,by decide +kernel⟩
theorem Q2f {f:aA} {fd:aQ} (F:Fun K "need_deed_of_run" "need_deed_of_run" X4 f fd) (T:Txt mg) (G:∃ C,mg "NoDeed" = some (.ref C)/\bc K C X9 "ValueError.__new__" = true) (B:∃ C,mg "NoHouse" = some (.ref C)/\bc K C X9 "ValueError.__new__" = true) (z:∃ C,mg "NoLetter" = some (.ref C)/\bc K C X9 "ValueError.__new__" = true) (J:DefS P w K mg base 3 "is_deed" 1 W4) (j:DefS P w K mg base 4 "need_houses_of_deed" 2 Jb) (q:DefS P w K mg base 3 "is_other_deed" 1 J8) (I:DefS P w K mg base 3 "is_house" 2 Yp):FnOk P w K mg base (CXD P w) 5 f fd ["table", "letters", "deed"] (spF mg 3 Jg):=by
 refine J3 (k:=4) (m:=Yh) F Q2b rfl rfl rfl fun U A outer s H E O=>?_
 exact (Qc (Za (V7 (Qh J (O.mono (by decide)) Qd rfl (Q1 (Q0 2) Q6))) (Qc (Y8 (Qh j (O.mono (by decide)) Qd rfl (Q1 (Q0 0) (Q1 (Q0 2) Q6))))) (Qc (Za (Xi (V7 (Qh q (O.mono (by decide)) Qd rfl (Q1 (Q0 2) Q6)))) (Qc (U2 rfl Vf rfl G.choose_spec.1 G.choose_spec.2 Qz)) (Qc (Za (Xi (V7 (Qh I (O.mono (by decide)) Qd rfl (Q1 (Q0 0) (Q1 (Qw (Q0 2) (Q2r Qe)) Q6))))) (Qc (U2 rfl Vf rfl B.choose_spec.1 B.choose_spec.2 Qz)) (Qc (Za (SimW.t (Q6v (Ja (V6 O.units) (Qw (Q0 2) Qe) Qz) (Q3d (Xi (Qcu Qan (Q3p O.units) Qe (Qw (Q0 2) Qe) (Qt Yi rfl T.b_len bX (Q1 (Q0 1) Q6))))))) (Qc (U2 rfl Vf rfl z.choose_spec.1 z.choose_spec.2 Qz)) Zw))))))))
def ym (C : aA) : MS := (Qp (J9 2 (mOp oIx (Q3 0) (mOp oIx (Q3 1) (mC (.int 1)))))
  (Yt (toB (mOp oEq (mOp oIx (Q3 1) (mC (.int 0))) (mC (.str "make")))) (Wh (xk C "make" 2 (K6 C) (Q3 2) (Q4 (mOp oIx (Q3 1) (mC (.int 2))) Qa))) (Yt (toB (mOp oEq (mOp oIx (Q3 1) (mC (.int 0))) (mC (.str "lend")))) (Wh (xk C "lend" 3 (K7 C) (Q3 2) (Q4 (mOp oIx (Q3 1) (mC (.int 2))) (Q4 (mOp oIx (Q3 1) (mC (.int 3))) Qa)))) (Wh (xk C "use" 2 (qc C) (Q3 2) (Q4 (mOp oIx (Q3 1) (mC (.int 2))) Qa))))))
def Wu (C:aA):FN:=Yq (ym C) 3
theorem sc_do_own_deed:FnScope ["houses", "deed", "house"] ["houses", "deed"] (Q8 yd):=⟨rfl,rfl,rfl,by decide +kernel,rfl,by decide +kernel,by decide +kernel⟩
theorem Q7h {f:aA} {fd:aQ} {C:aA} (F:Fun K "do_own_deed" "do_own_deed" yd f fd) (T:Txt mg) (G:ClsT K C)   (j:MethS P w K mg base 6 C "make" 2 (K6 C)) (q:MethS P w K mg base 6 C "lend" 3 (K7 C)) (z:MethS P w K mg base 6 C "use" 2 (qc C)):FnOk P w K mg base (CXD P w) 7 f fd ["houses", "deed"] (spF mg 2 (Wu C)):=by
 refine We (k:=6) (m:=(ym C)) F sc_do_own_deed rfl rfl rfl fun I A outer s H E B=>?_
 exact (Q9 (Qs 2 sc_do_own_deed.nd (Qw (Q0 0) (Qw (Q0 1) Qe)))
  (Qc (Za (Ja (V6 B.units) (Qw (Q0 1) Qe) Qz) (Qc (Y8 (Q68 G.cl j (B.mono (by decide)) Qd (Q0 2) (Q1 (Qw (Q0 1) Qe) Q6)))) (Qc (Za (Ja (V6 B.units) (Qw (Q0 1) Qe) Qz) (Qc (Y8 (Q68 G.cl q (B.mono (by decide)) Qd (Q0 2) (Q1 (Qw (Q0 1) Qe) (Q1 (Qw (Q0 1) Qe) Q6))))) (Qc (Y8 (Q68 G.cl z (B.mono (by decide)) Qd (Q0 2) (Q1 (Qw (Q0 1) Qe) Q6)))))))))
def Wi (C : aA) : MS := (Qp (J9 3 (mOp oIx (Q3 0) (mOp oIx (Q3 2) (Q62 (mC (.int 1))))))
  (Yt (toB (mOp oEq (mOp oIx (Q3 2) (mC (.int 0))) (mC (.str "keep")))) (Wh (xk C "keep" 1 (K8 C) (Q3 3) Qa)) (Yt (toB (mOp oEq (mOp oIx (Q3 2) (mC (.int 0))) (mC (.str "fall")))) (Wh (xk C "fall" 1 (K9 C) (Q3 3) Qa)) (Yt (toB (mOp oEq (mOp oIx (Q3 2) (mC (.int 0))) (mC (.str "send")))) (Wh (mBM Vg (Q3 1) (Q4 (xk C "letter" 1 (V5 C) (Q3 3) Qa) Qa))) (Wh (xk C "come" 2 (Ka C) (Q3 3) (Q4 (mOp oIx (Q3 1) (mOp oIx (Q3 2) (mC (.int 1)))) Qa)))))))
def X2 (C:aA):FN:=Yq (Wi C) 4
theorem sc_do_other_deed:FnScope ["houses", "letters", "deed", "house"] ["houses", "letters", "deed"] (Q8 qk):=⟨rfl,rfl,rfl,by decide +kernel,rfl,by decide +kernel,by decide +kernel⟩
theorem Q4v {f:aA} {fd:aQ} {C:aA} (F:Fun K "do_other_deed" "do_other_deed" qk f fd) (T:Txt mg) (I:ClsT K C)   (q:MethS P w K mg base 1 C "keep" 1 (K8 C)) (B:MethS P w K mg base 1 C "fall" 1 (K9 C)) (j:MethS P w K mg base 1 C "letter" 1 (V5 C)) (z:MethS P w K mg base 3 C "come" 2 (Ka C)):FnOk P w K mg base (CXD P w) 4 f fd ["houses", "letters", "deed"] (spF mg 3 (X2 C)):=by
 refine We (k:=3) (m:=(Wi C)) F sc_do_other_deed rfl rfl rfl fun J A outer s H E G=>?_
 exact (Q9 (Qs 3 sc_do_other_deed.nd (Qw (Q0 0) (Qw (Q0 2) (Q2r Qe))))
  (Qc (Za (Ja (V6 G.units) (Qw (Q0 2) Qe) Qz) (Qc (Y8 (Q3e I.cl q (G.mono (by decide)) Qd (Q0 3)))) (Qc (Za (Ja (V6 G.units) (Qw (Q0 2) Qe) Qz) (Qc (Y8 (Q3e I.cl B (G.mono (by decide)) Qd (Q0 3)))) (Qc (Za (Ja (V6 G.units) (Qw (Q0 2) Qe) Qz) (Qc (Y8 (jk (Q0 1) (Q1 (Q3e I.cl j (G.mono (by decide)) Qd (Q0 3)) Q6)))) (Qc (Y8 (Q68 I.cl z (G.mono (by decide)) Qd (Q0 3) (Q1 (Qw (Q0 1) (Qw (Q0 2) Qe)) Q6)))))))))))
def Kw (C : aA) : MS := (Qp (Yt (toB (Qj 1 J8 (Q4 (Q3 2) Qa))) (Qp (Wh (Qj 3 (X2 C) (Q4 (Q3 0) (Q4 (Q3 1) (Q4 (Q3 2) Qa)))))
  (Zt (mC (.str "done")))) Yb)
  (Qp (Qdp "Short" "had" 3 2 (Wu C) (Q4 (Q3 0) (Q4 (Q3 2) Qa)))
  (Zt (mC (.str "done")))))
def y9 (C:aA):FN:=Yq (Kw C) 4
theorem sc_answer_to:FnScope ["houses", "letters", "deed", "refusal"] ["houses", "letters", "deed"] (Q8 Q17):=⟨rfl,rfl,rfl,by decide +kernel,rfl,by decide +kernel,by decide +kernel⟩
theorem Qbt {f:aA} {fd:aQ} {C:aA} (F:Fun K "answer_to" "answer_to" Q17 f fd) (T:Txt mg) (Y:ClsT K C) (U:∃ C,mg "Short" = some (.ref C)/\dG K (.ref C) (.ref C)=some true/\XGet K C "had")  (j:DefS P w K mg base 3 "is_other_deed" 1 J8) (q:DefS P w K mg base 4 "do_other_deed" 3 (X2 C)) (z:DefS P w K mg base 7 "do_own_deed" 2 (Wu C)):FnOk P w K mg base (CXD P w) 8 f fd ["houses", "letters", "deed"] (spF mg 3 (y9 C)):=by
 obtain ⟨Z,O,J,I⟩:=U;refine We (k:=7) (m:=(Kw C)) F sc_answer_to rfl rfl rfl fun G A outer s H E B=>?_
 exact (Q9 (Za (V7 (Qh j (B.mono (by decide)) Qd rfl (Q1 (Q0 2) Q6))) (Q9 (Y8 (Qh q (B.mono (by decide)) Qd rfl (Q1 (Q0 0) (Q1 (Q0 1) (Q1 (Q0 2) Q6)))))
  (Qc (Qx Qz))) Zw)
  (Q9 (Qnn z (B.mono (by decide)) (Q1 (Q0 0) (Q1 (Q0 2) Q6)) sc_answer_to.nd O J I)
  (Qc (Qx Qz))))
def Q0u (C:aA):ME:=(Qrq C 3 (Wb C) (Q4 (Q3 0) (Q4 (Q3 1) Qa)))
def Q3a (C : aA) : MS := (Qp (Wh (Qj 3 Jg (Q4 (Q3 0) (Q4 (Q3 3) (Q4 (Q3 5) Qa)))))
  (Wh (mBM Vg (Q3 4) (Q4 (Qj 3 (y9 C) (Q4 (Q3 2) (Q4 (Q3 3) (Q4 (Q3 5) Qa)))) Qa))))
def Q8q (C:aA):ME:=(xk C "table" 1 (Uz C) (Q3 0) Qa)
def Q7z (C : aA) : MS := (Qp (Wh (Qj 1 Yj (Q4 (Q3 0) Qa)))
  (Qp (J9 2 (Xe (Y3 [none,some 0] (Qn 0) (Z9 (Q4 (Jc Yr (Q4 (Q3 0) Qa)) Qa)) Ju (Q0u C))))
  (Qp (J9 3 (xi (zg Qa)))
  (Qp (J9 4 (xi (zg Qa)))
  (Qp (Q2h (Qn 5) (Q0n (Q3 1)) (Q3a C))
  (Zt (Uf (Q4 (Q3 4) (Q4 (xi (Y3 [none] (Qn 0) (Q0n (Q3 2)) Ju (Q8q C))) Qa)))))))))
def Q47 (C:aA):FN:=Yq (Q7z C) 6
theorem sc_played:FnScope ["table", "deeds", "houses", "letters", "answers", "deed"] ["table", "deeds"] (Q8 Q77):=⟨rfl,rfl,rfl,by decide +kernel,rfl,by decide +kernel,by decide +kernel⟩
theorem Qhp {f:aA} {fd:aQ} {C:aA} (F:Fun K "played" "played" Q77 f fd) (T:Txt mg) (O:ClsT K C)  (q:DefS P w K mg base 7 "need_comes_about" 1 Yj) (j:DefS P w K mg base 5 "need_deed_of_run" 3 Jg) (B:DefS P w K mg base 8 "answer_to" 3 (y9 C)) (G:MakeS P w K mg base 8 C "House" 3 (Wb C)) (z:MethS P w K mg base 1 C "table" 1 (Uz C)):FnOk P w K mg base (CXD P w) 10 f fd ["table", "deeds"] (spF mg 2 (Q47 C)):=by
 refine We (k:=9) (m:=(Q7z C)) F sc_played rfl rfl rfl fun J A outer s H E I=>?_
 exact (Q9 (Y8 (Qh q (I.mono (by decide)) Qd rfl (Q1 (Q0 0) Q6)))
  (Q9 (by first | exact Q14 [none,some 0] ["number", "table"] 2 sc_played.nd rfl (Jj rfl T.b_range (Q1 (Qt Yi rfl T.b_len bX (Q1 (Q0 0) Q6)) Q6)) (fun _ _ _ _ _=>(Qy (i:=0) (show (["number", "table"]:List Str).Nodup by decide +kernel))) (fun _ _ _ _ _=>(Qfu G (I.mono (by decide)) Xp rfl (Q1 (Q0 0) (Q1 (Q0 1) Q6)))) (fun _ _ _ _ _=>Ym) J7 | exact Qs 2 sc_played.nd (Wc (Y4 [none,some 0] ["number", "table"] rfl (Jj rfl T.b_range (Q1 (Qt Yi rfl T.b_len bX (Q1 (Q0 0) Q6)) Q6)) (fun _ _ _ _ _=>(Qy (i:=0) (show (["number", "table"]:List Str).Nodup by decide +kernel))) (fun _ _ _ _ _=>(Qfu G (I.mono (by decide)) Xp rfl (Q1 (Q0 0) (Q1 (Q0 1) Q6)))) (fun _ _ _ _ _=>Ym) J7)))
  (Q9 (Qs 3 sc_played.nd (X3 (jq Q6)))
  (Q9 (Qs 4 sc_played.nd (X3 (jq Q6)))
  (Q9 (Kc PassesOwn.leaving rfl (Xj (Q0 1)) (Qy (i:=5) sc_played.nd) (Q9 (Y8 (Qh j (I.mono (by decide)) Qd rfl (Q1 (Q0 0) (Q1 (Q0 3) (Q1 (Q0 5) Q6)))))
  (Qc (Y8 (jk (Q0 4) (Q1 (Qh B (I.mono (by decide)) Qd rfl (Q1 (Q0 2) (Q1 (Q0 3) (Q1 (Q0 5) Q6)))) Q6))))))
  (Qc (Qx (Wd (Q1 (Q0 4) (Q1 (X3 (Y4 [none] ["house"] rfl (Xj (Q0 2)) (fun _ _ _ _ _=>(Qy (i:=0) (show (["house"]:List Str).Nodup by decide +kernel))) (fun _ _ _ _ _=>(Q3e O.cl z (I.mono (by decide)) Xp (Q0 0))) (fun _ _ _ _ _=>Ym) J7)) Q6))))))))))
def j9 : MS := (Qp (Yt (toB (mOp oLt (Q3 1) (Jc Yr (Q4 (Q3 0) Qa)))) (Zt (mOp oIx (Q3 0) (Q3 1))) Yb)
  (Zt (mC (.int 0))))
def Ui:FN:=Qr j9 2
theorem Q98:FnScope ["script", "k"] ["script", "k"] (Q8 Q08):=⟨rfl,rfl,rfl,by decide +kernel,rfl,by decide +kernel,by decide +kernel⟩
theorem Q9q {f:aA} {fd:aQ} (F:Fun K "_law_acell" "_law_acell" Q08 f fd) (T:Txt mg)   : FnOk P w K mg base (CXD P w) 1 f fd ["script", "k"] (spF mg 2 Ui):=by
 refine J3 (k:=0) (m:=j9) F Q98 rfl rfl rfl fun j A outer s H E q=>?_
 exact (Q9 (Za (Ja (Q3p q.units) (Q0 1) (Qt Yi rfl T.b_len bX (Q1 (Q0 0) Q6))) (Qc (Qx (Qw (Q0 0) (Q0 1)))) Zw)
  (Qc (Qx Qe)))
def zp : MS := (Qp (J9 4 (mOp Y5 (mOp Q60 (Q3 4) (Q3 3)) (Q3 5)))
  (J9 5 (mOp Q3s (mOp Y5 (mOp Y5 (mOp Q60 (Q3 5) (Q3 5)) (mOp Q60 (mC (.int 40692)) (Q3 1))) (Q3 6)) (Q3 3))))
def j7 : MS := (Qp (J9 2 (Qj 2 Ui (Q4 (Q3 0) (Q4 (Q3 1) Qa))))
  (Qp (Yt (toB (mOp oEq (mOp Q3s (Q3 2) (mC (.int 2))) (mC (.int 0)))) (Zt (xi (zg (Q4 (mOp Qq3 (Q3 2) (mC (.int 2))) Qa)))) Yb)
  (Qp (J9 3 (mC (.int 2305843009213693951)))
  (Qp (J9 4 (mC (.int 0)))
  (Qp (J9 5 (mOp Q3s (mOp Y5 (mOp Y5 (mOp Q60 (mOp Q3s (Q3 2) (Q3 3)) (mC (.int 48271))) (mOp Q60 (mC (.int 69621)) (Q3 1))) (mC (.int 11))) (Q3 3)))
  (Qp (Q2h (Qn 6) (Z9 (Q4 (mC (.int 5)) Qa)) zp)
  (Zt (xi (zg (Q4 (Q3 4) Qa))))))))))
def Ya:FN:=Yq j7 7
theorem sc__law_atape:FnScope ["script", "k", "cell", "p", "number", "last", "turn"] ["script", "k"] (Q8 Q05):=⟨rfl,rfl,rfl,by decide +kernel,rfl,by decide +kernel,by decide +kernel⟩
theorem Q9m {f:aA} {fd:aQ} (F:Fun K "_law_atape" "_law_atape" Q05 f fd) (T:Txt mg)  (j:DefS P w K mg base 1 "_law_acell" 2 Ui):FnOk P w K mg base (CXD P w) 2 f fd ["script", "k"] (spF mg 2 Ya):=by
 refine We (k:=1) (m:=j7) F sc__law_atape rfl rfl rfl fun z A outer s H E q=>?_
 exact (Q9 (Qs 2 sc__law_atape.nd (Qh j (q.mono (by decide)) Qd rfl (Q1 (Q0 0) (Q1 (Q0 1) Q6))))
  (Q9 (Za (Ja (V6 q.units) (J5 Q1c (Q0 2) Qe) Qe) (Qc (Qx (X3 (jq (Q1 (J5 Qt8 (Q0 2) Qe) Q6))))) Zw)
  (Q9 (Qs 3 sc__law_atape.nd Qe)
  (Q9 (Qs 4 sc__law_atape.nd Qe)
  (Q9 (Qs 5 sc__law_atape.nd (J5 Q1c (J5 Jf (J5 Jf (J5 Q4q (J5 Q1c (Q0 2) (Q0 3)) Qe) (J5 Q4q Qe (Q0 1))) Qe) (Q0 3)))
  (Q9 (Kc PassesOwn.leaving rfl (Jj rfl T.b_range (Q1 Qe Q6)) (Qy (i:=6) sc__law_atape.nd) (Q9 (Qs 4 sc__law_atape.nd (J5 Jf (J5 Q4q (Q0 4) (Q0 3)) (Q0 5)))
  (Qc (Qs 5 sc__law_atape.nd (J5 Q1c (J5 Jf (J5 Jf (J5 Q4q (Q0 5) (Q0 5)) (J5 Q4q Qe (Q0 1))) (Q0 6)) (Q0 3))))))
  (Qc (Qx (X3 (jq (Q1 (Q0 4) Q6)))))))))))
def yu : MS := (Qp (J9 2 (mOp Q3s (mOp oIx (Q3 0) (mC (.int 0))) (Q3 1)))
  (Qp (Q0m (Q3 0) (mC (.int 0)) (mOp Qg4 (mOp oIx (Q3 0) (mC (.int 0))) (Q3 1)))
  (Zt (Q3 2))))
def Qf:FN:=Qr yu 3
theorem sc__law_adigit:FnScope ["tape", "many", "found"] ["tape", "many"] (Q8 yj):=⟨rfl,rfl,rfl,by decide +kernel,rfl,by decide +kernel,by decide +kernel⟩
theorem Q7p {f:aA} {fd:aQ} (F:Fun K "_law_adigit" "_law_adigit" yj f fd) (T:Txt mg)   : FnOk P w K mg base (CXD P w) 1 f fd ["tape", "many"] (spF mg 2 Qf):=by
 refine J3 (k:=0) (m:=yu) F sc__law_adigit rfl rfl rfl fun j A outer s H E q=>?_
 exact (Q9 (Qs 2 sc__law_adigit.nd (J5 Q1c (Qw (Q0 0) Qe) (Q0 1)))
  (Q9 (Q6y (J5 Qpu (Qw (Q0 0) Qe) (Q0 1)) (Q0 0) Qe)
  (Qc (Qx (Q0 2)))))
def xr:ME:=(mOp oIx (mOp oIx (Q3 2) (Q3 0)) (Q3 1))
def xq:ME:=(Q3 0)
def zc : MS := (Qp (J9 2 (Jc (K2 fun ns => some (.int ns.sum)) (Q4 (Xe (Y3 [none, some 1, some 0] (Qn 0) (Z9 (Q4 (Jc Yr (Q4 (Q3 0) Qa)) Qa)) Ju xr)) Qa)))
  (Zt (mOp Y5 (mOp (oI fun a b=>.int (a - b)) (Q3 2) (Jc (K2 fun ns=>some (.int ns.sum)) (Q4 (Xe (Y3 [none] (Qn 0) (Q0n (mOp oIx (Q3 0) (Q3 1))) Ju xq)) Qa))) (mOp oIx (mOp oIx (Q3 0) (Q3 1)) (Q3 1)))))
def Jk:FN:=Qr zc 3
theorem sc__law_arights:FnScope ["table", "i", "lent"] ["table", "i"] (Q8 jx):=⟨rfl,rfl,rfl,by decide +kernel,rfl,by decide +kernel,by decide +kernel⟩
theorem Q5v {f:aA} {fd:aQ} (F:Fun K "_law_arights" "_law_arights" jx f fd) (T:Txt mg)   : FnOk P w K mg base (CXD P w) 1 f fd ["table", "i"] (spF mg 2 Jk):=by
 refine J3 (k:=0) (m:=zc) F sc__law_arights rfl rfl rfl fun j A outer s H E q=>?_
 exact (Q9 (Qs 2 sc__law_arights.nd (Qt (Q8r rfl) rfl T.b_sum Q1q (Q1 (Wc (Y4 [none,some 1,some 0] ["j", "i", "table"] rfl (Jj rfl T.b_range (Q1 (Qt Yi rfl T.b_len bX (Q1 (Q0 0) Q6)) Q6)) (fun _ _ _ _ _=>(Qy (i:=0) (show (["j", "i", "table"]:List Str).Nodup by decide +kernel))) (fun _ _ _ _ _=>(Qw (Qw (Q0 2) (Q0 0)) (Q0 1))) (fun _ _ _ _ _=>Ym) J7)) Q6)))
  (Qc (Qx (J5 Jf (J5 Q0c (Q0 2) (Qt (Q8r rfl) rfl T.b_sum Q1q (Q1 (Wc (Y4 [none] ["number"] rfl (Xj (Qw (Q0 0) (Q0 1))) (fun _ _ _ _ _=>(Qy (i:=0) (show (["number"]:List Str).Nodup by decide +kernel))) (fun _ _ _ _ _=>(Q0 0)) (fun _ _ _ _ _=>Ym) J7)) Q6))) (Qw (Qw (Q0 0) (Q0 1)) (Q0 1))))))
def zm:ME:=(Jc X8 (Q4 (mOp Q60 (Q51 (Q4 (mC (.int 0)) Qa)) (mOp Y5 (Q3 1) (mC (.int 1)))) Qa))
def Q0k:MS:=(Zt (Jc X8 (Q4 (Xe (Y3 [none,some 0] (Qn 0) (Z9 (Q4 (Q3 0) Qa)) Ju zm)) Qa)))
def jj:FN:=Qr Q0k 1
theorem Q99:FnScope ["size"] ["size"] (Q8 Q09):=⟨rfl,rfl,rfl,by decide +kernel,rfl,by decide +kernel,by decide +kernel⟩
theorem Q9r {f:aA} {fd:aQ} (F:Fun K "_law_abare" "_law_abare" Q09 f fd) (T:Txt mg)   : FnOk P w K mg base (CXD P w) 1 f fd ["size"] (spF mg 1 jj):=by
 refine J3 (k:=0) (m:=Q0k) F Q99 rfl rfl rfl fun j A outer s H E q=>?_
 exact (Qc (Qx (ju xt rfl T.b_tuple Va (Q1 (Wc (Y4 [none,some 0] ["i", "size"] rfl (Jj rfl T.b_range (Q1 (Q0 0) Q6)) (fun _ _ _ _ _=>(Qy (i:=0) (show (["i", "size"]:List Str).Nodup by decide +kernel))) (fun _ _ _ _ _=>(ju xt rfl T.b_tuple Va (Q1 (J5 Q4q (Q4c (Q1 Qe Q6)) (J5 Jf (Q0 1) Qe)) Q6))) (fun _ _ _ _ _=>Ym) J7)) Q6))))
def ze : MS := (Qp (J9 4 (mOp Y5 (mOp Y5 (mSl (mOp oIx (Q3 0) (Q3 1)) W9 (Ut (Q3 2))) (Uf (Q4 (mOp Y5 (mOp oIx (mOp oIx (Q3 0) (Q3 1)) (Q3 2)) (Q3 3)) Qa))) (mSl (mOp oIx (Q3 0) (Q3 1)) (Ut (mOp Y5 (Q3 2) (mC (.int 1)))) W9)))
  (Zt (mOp Y5 (mOp Y5 (mSl (Q3 0) W9 (Ut (Q3 1))) (Uf (Q4 (Q3 4) Qa))) (mSl (Q3 0) (Ut (mOp Y5 (Q3 1) (mC (.int 1)))) W9))))
def Y7:FN:=Qr ze 5
theorem sc__law_araised:FnScope ["table", "i", "at", "k", "row"] ["table", "i", "at", "k"] (Q8 jy):=⟨rfl,rfl,rfl,by decide +kernel,rfl,by decide +kernel,by decide +kernel⟩
theorem Q5w {f:aA} {fd:aQ} (F:Fun K "_law_araised" "_law_araised" jy f fd) (T:Txt mg)   : FnOk P w K mg base (CXD P w) 1 f fd ["table", "i", "at", "k"] (spF mg 4 Y7):=by
 refine J3 (k:=0) (m:=ze) F sc__law_araised rfl rfl rfl fun j A outer s H E q=>?_
 exact (Q9 (Qs 4 sc__law_araised.nd (J5 Jf (J5 Jf (Wx (Qw (Q0 0) (Q0 1)) X0 (Vx (Q0 2))) (Wd (Q1 (J5 Jf (Qw (Qw (Q0 0) (Q0 1)) (Q0 2)) (Q0 3)) Q6))) (Wx (Qw (Q0 0) (Q0 1)) (Vx (J5 Jf (Q0 2) Qe)) X0)))
  (Qc (Qx (J5 Jf (J5 Jf (Wx (Q0 0) X0 (Vx (Q0 1))) (Wd (Q1 (Q0 4) Q6))) (Wx (Q0 0) (Vx (J5 Jf (Q0 1) Qe)) X0)))))
def Kk:ME:=(Jc Qa5 (Q4 (Q3 0) (Q4 (Q3 1) Qa)))
def xu:MS:=(Wh (mBM Vg (Q3 2) (Q4 (Jc X8 (Q4 (Xe (Y3 [none,none] (y4 (W5 (Qn 0) (W5 (Qn 1) y6))) (Q9z (Q4 (Q3 3) (Q4 (Q3 4) Qa))) Ju Kk)) Qa)) Qa)))
def zf : MS := (Qp (J9 2 (xi (zg Qa)))
  (Qp (Q2h (y4 (W5 (Qn 3) (W5 (Qn 4) y6))) (Q9z (Q4 (Q3 0) (Q4 (Q3 1) Qa))) xu)
  (Zt (Jc X8 (Q4 (Q3 2) Qa)))))
def K5:FN:=Qr zf 5
theorem sc__law_ajoined:FnScope ["one", "other", "rows", "row", "told"] ["one", "other"] (Q8 jz):=⟨rfl,rfl,rfl,by decide +kernel,rfl,by decide +kernel,by decide +kernel⟩
theorem Q5x {f:aA} {fd:aQ} (F:Fun K "_law_ajoined" "_law_ajoined" jz f fd) (T:Txt mg)   : FnOk P w K mg base (CXD P w) 1 f fd ["one", "other"] (spF mg 2 K5):=by
 refine J3 (k:=0) (m:=zf) F sc__law_ajoined rfl rfl rfl fun j A outer s H E q=>?_
 exact (Q9 (Qs 2 sc__law_ajoined.nd (X3 (jq Q6)))
  (Q9 (Kc PassesOwn.leaving rfl (Q72 rfl T.b_zip (Q1 (Q0 0) (Q1 (Q0 1) Q6))) (Q4a rfl (Vd (Qy (i:=3) sc__law_ajoined.nd) (Vd (Qy (i:=4) sc__law_ajoined.nd) Q1y))) (Qc (Y8 (jk (Q0 2) (Q1 (ju xt rfl T.b_tuple Va (Q1 (Wc (Y4 [none,none] ["number", "more"] rfl (Q72 rfl T.b_zip (Q1 (Q0 3) (Q1 (Q0 4) Q6))) (fun _ _ _ _ _=>(Q4a rfl (Vd (Qy (i:=0) (show (["number", "more"]:List Str).Nodup by decide +kernel)) (Vd (Qy (i:=1) (show (["number", "more"]:List Str).Nodup by decide +kernel)) Q1y)))) (fun _ _ _ _ _=>(Qt (Qcb rfl) rfl T.b_max Q44 (Q1 (Q0 0) (Q1 (Q0 1) Q6)))) (fun _ _ _ _ _=>Ym) (Q3z (Xd (Xd Q40))))) Q6)) Q6)))))
  (Qc (Qx (ju xt rfl T.b_tuple Va (Q1 (Q0 2) Q6))))))
def j8 : MS := (Qp (J9 1 (Qj 2 Qf (Q4 (Q3 0) (Q4 (mC (.int 12)) Qa))))
  (Qp (Yt (toB (mOp oEq (Q3 1) (mC (.int 11)))) (Zt (mOp (oI fun a b=>.int (a - b)) (mOp Qki (mC (.int 10)) (mC (.int 20))) (Qj 2 Qf (Q4 (Q3 0) (Q4 (mC (.int 3)) Qa))))) Yb)
  (Zt (mOp Y5 (mC (.int 1)) (mOp Q3s (Q3 1) (mC (.int 7)))))))
def Vc:FN:=Qr j8 2
theorem sc__law_amuch:FnScope ["tape", "way"] ["tape"] (Q8 Q07):=⟨rfl,rfl,rfl,by decide +kernel,rfl,by decide +kernel,by decide +kernel⟩
theorem Q9p {f:aA} {fd:aQ} (F:Fun K "_law_amuch" "_law_amuch" Q07 f fd) (T:Txt mg)  (j:DefS P w K mg base 1 "_law_adigit" 2 Qf):FnOk P w K mg base (CXD P w) 2 f fd ["tape"] (spF mg 1 Vc):=by
 refine J3 (k:=1) (m:=j8) F sc__law_amuch rfl rfl rfl fun z A outer s H E q=>?_
 exact (Q9 (Qs 1 sc__law_amuch.nd (Qh j (q.mono (by decide)) Qd rfl (Q1 (Q0 0) (Q1 Qe Q6))))
  (Q9 (Za (Ja (V6 q.units) (Q0 1) Qe) (Qc (Qx (J5 Q0c (J5 Qt7 Qe Qe) (Qh j (q.mono (by decide)) Qd rfl (Q1 (Q0 0) (Q1 Qe Q6)))))) Zw)
  (Qc (Qx (J5 Jf Qe (J5 Q1c (Q0 1) Qe))))))
def qr : MS := (Qp (J9 5 (Qj 2 Qf (Q4 (Q3 0) (Q4 (Q3 1) Qa))))
  (Qp (J9 6 (Qj 2 Qf (Q4 (Q3 0) (Q4 (mC (.int 4)) Qa))))
  (Qp (J9 7 (Qj 2 Jk (Q4 (Q3 3) (Q4 (Q3 5) Qa))))
  (Yt (Q5m (toB (mOp oLt (Q3 6) (mC (.int 2)))) (toB (mOp oEq (Q3 7) (mC (.int 0))))) (J9 3 (Qj 4 Y7 (Q4 (Q3 3) (Q4 (Q3 5) (Q4 (Q3 5) (Q4 (Qj 1 Vc (Q4 (Q3 0) Qa)) Qa)))))) (Yt (Q0y (toB (mOp oEq (Q3 6) (mC (.int 2)))) (toB (mOp (oI fun a b=>.bl (decide (b < a))) (Q3 1) (mC (.int 1))))) (Qp (J9 8 (mOp Q3s (mOp Y5 (mOp Y5 (Q3 5) (mC (.int 1))) (Qj 2 Qf (Q4 (Q3 0) (Q4 (mOp (oI fun a b=>.int (a - b)) (Q3 1) (mC (.int 1))) Qa)))) (Q3 1)))
  (J9 3 (Qj 4 Y7 (Q4 (Q3 3) (Q4 (Q3 5) (Q4 (Q3 8) (Q4 (mOp Y5 (mC (.int 1)) (Qj 2 Qf (Q4 (Q3 0) (Q4 (Q3 7) Qa)))) Qa))))))) (J9 3 (Qj 4 Y7 (Q4 (Q3 3) (Q4 (Q3 5) (Q4 (Q3 1) (Q4 (mOp Y5 (mC (.int 1)) (Qj 2 Qf (Q4 (Q3 0) (Q4 (Q3 7) Qa)))) Qa)))))))))))
def yn : MS := (Qp (J9 3 (Qj 1 jj (Q4 (Q3 1) Qa)))
  (Qp (Q2h (Qn 4) (Z9 (Q4 (Q3 2) Qa)) qr)
  (Zt (Q3 3))))
def Ux:FN:=Qr yn 9
theorem sc__law_atable:FnScope ["tape", "size", "many", "table", "turn", "i", "way", "have", "j"] ["tape", "size", "many"] (Q8 yf):=⟨rfl,rfl,rfl,by decide +kernel,rfl,by decide +kernel,by decide +kernel⟩
theorem Q7j {f:aA} {fd:aQ} (F:Fun K "_law_atable" "_law_atable" yf f fd) (T:Txt mg)  (B:DefS P w K mg base 1 "_law_abare" 1 jj) (j:DefS P w K mg base 1 "_law_adigit" 2 Qf) (z:DefS P w K mg base 1 "_law_arights" 2 Jk) (q:DefS P w K mg base 1 "_law_araised" 4 Y7) (G:DefS P w K mg base 2 "_law_amuch" 1 Vc):FnOk P w K mg base (CXD P w) 3 f fd ["tape", "size", "many"] (spF mg 3 Ux):=by
 refine J3 (k:=2) (m:=yn) F sc__law_atable rfl rfl rfl fun J A outer s H E I=>?_
 exact (Q9 (Qs 3 sc__law_atable.nd (Qh B (I.mono (by decide)) Qd rfl (Q1 (Q0 1) Q6)))
  (Q9 (Kc PassesOwn.leaving rfl (Jj rfl T.b_range (Q1 (Q0 2) Q6)) (Qy (i:=4) sc__law_atable.nd) (Q9 (Qs 5 sc__law_atable.nd (Qh j (I.mono (by decide)) Qd rfl (Q1 (Q0 0) (Q1 (Q0 1) Q6))))
  (Q9 (Qs 6 sc__law_atable.nd (Qh j (I.mono (by decide)) Qd rfl (Q1 (Q0 0) (Q1 Qe Q6))))
  (Q9 (Qs 7 sc__law_atable.nd (Qh z (I.mono (by decide)) Qd rfl (Q1 (Q0 3) (Q1 (Q0 5) Q6))))
  (Qc (Za (SimW.t (Qa8 (Ja (Q3p I.units) (Q0 6) Qe) (Q6u (Ja (V6 I.units) (Q0 7) Qe)))) (Qc (Qs 3 sc__law_atable.nd (Qh q (I.mono (by decide)) Qd rfl (Q1 (Q0 3) (Q1 (Q0 5) (Q1 (Q0 5) (Q1 (Qh G (I.mono (by decide)) Qd rfl (Q1 (Q0 0) Q6)) Q6))))))) (Qc (Za (SimW.t (Q6v (Ja (V6 I.units) (Q0 6) Qe) (Q3d (Ja Q7g (Q0 1) Qe)))) (Q9 (Qs 8 sc__law_atable.nd (J5 Q1c (J5 Jf (J5 Jf (Q0 5) Qe) (Qh j (I.mono (by decide)) Qd rfl (Q1 (Q0 0) (Q1 (J5 Q0c (Q0 1) Qe) Q6)))) (Q0 1)))
  (Qc (Qs 3 sc__law_atable.nd (Qh q (I.mono (by decide)) Qd rfl (Q1 (Q0 3) (Q1 (Q0 5) (Q1 (Q0 8) (Q1 (J5 Jf Qe (Qh j (I.mono (by decide)) Qd rfl (Q1 (Q0 0) (Q1 (Q0 7) Q6)))) Q6)))))))) (Qc (Qs 3 sc__law_atable.nd (Qh q (I.mono (by decide)) Qd rfl (Q1 (Q0 3) (Q1 (Q0 5) (Q1 (Q0 1) (Q1 (J5 Jf Qe (Qh j (I.mono (by decide)) Qd rfl (Q1 (Q0 0) (Q1 (Q0 7) Q6)))) Q6)))))))))))))))
  (Qc (Qx (Q0 3)))))
def Q11:ME:=(Q3 1)
def Q10:ME:=(Q3 1)
def yq:MS:=(Zt (Qby "now" "last" "letters" (xi (Y3 [none,some 0] (Qn 0) (Z9 (Q4 (Jc Yr (Q4 (Q3 0) Qa)) Qa)) Ju Q11)) (xi (Y3 [none,some 0] (Qn 0) (Z9 (Q4 (Jc Yr (Q4 (Q3 0) Qa)) Qa)) Ju Q10)) (xi (zg Qa))))
def Uy:FN:=Yq yq 1
theorem Q73:FnScope ["table"] ["table"] (Q8 yg):=⟨rfl,rfl,rfl,by decide +kernel,rfl,by decide +kernel,by decide +kernel⟩
theorem Q7k {f:aA} {fd:aQ} (F:Fun K "_law_astart" "_law_astart" yg f fd) (T:Txt mg)   : FnOk P w K mg base (CXD P w) 1 f fd ["table"] (spF mg 1 Uy):=by
 refine We (k:=0) (m:=yq) F Q73 rfl rfl rfl fun j A outer s H E q=>?_
 exact (Qc (Qx (Qji (X3 (Y4 [none,some 0] ["i", "table"] rfl (Jj rfl T.b_range (Q1 (Qt Yi rfl T.b_len bX (Q1 (Q0 0) Q6)) Q6)) (fun _ _ _ _ _=>(Qy (i:=0) (show (["i", "table"]:List Str).Nodup by decide +kernel))) (fun _ _ _ _ _=>(Q0 1)) (fun _ _ _ _ _=>Ym) J7)) (X3 (Y4 [none,some 0] ["i", "table"] rfl (Jj rfl T.b_range (Q1 (Qt Yi rfl T.b_len bX (Q1 (Q0 0) Q6)) Q6)) (fun _ _ _ _ _=>(Qy (i:=0) (show (["i", "table"]:List Str).Nodup by decide +kernel))) (fun _ _ _ _ _=>(Q0 1)) (fun _ _ _ _ _=>Ym) J7)) (X3 (jq Q6)))))
def Wm : MS := (Qp (J9 2 (Ws (Q3 0) (mC (.str "now"))))
  (Qp (Yt (toB (mOp oEq (mOp oIx (Q3 1) (mC (.int 0))) (mC (.str "keep")))) (Q0m (Ws (Q3 0) (mC (.str "last"))) (mOp oIx (Q3 1) (mC (.int 1))) (mOp oIx (Q3 2) (mOp oIx (Q3 1) (mC (.int 1))))) (Yt (toB (mOp oEq (mOp oIx (Q3 1) (mC (.int 0))) (mC (.str "fall")))) (Q0m (Q3 2) (mOp oIx (Q3 1) (mC (.int 1))) (mOp oIx (Ws (Q3 0) (mC (.str "last"))) (mOp oIx (Q3 1) (mC (.int 1))))) (Yt (toB (mOp oEq (mOp oIx (Q3 1) (mC (.int 0))) (mC (.str "send")))) (Wh (mBM Vg (Ws (Q3 0) (mC (.str "letters"))) (Q4 (mOp oIx (Ws (Q3 0) (mC (.str "last"))) (mOp oIx (Q3 1) (mC (.int 1)))) Qa))) (Yt (toB (mOp oEq (mOp oIx (Q3 1) (mC (.int 0))) (mC (.str "come")))) (Q0m (Q3 2) (mOp oIx (Q3 1) (mC (.int 2))) (Qj 2 K5 (Q4 (mOp oIx (Q3 2) (mOp oIx (Q3 1) (mC (.int 2)))) (Q4 (mOp oIx (Ws (Q3 0) (mC (.str "letters"))) (mOp oIx (Q3 1) (mC (.int 1)))) Qa)))) (Qp (J9 3 (mOp oIx (Q3 1) (mC (.int 1))))
  (Qp (J9 4 (Qj 2 Jk (Q4 (mOp oIx (Q3 2) (Q3 3)) (Q4 (Q3 3) Qa))))
  (Qp (Yt (Q0y (toB (mOp oNe (mOp oIx (Q3 1) (mC (.int 0))) (mC (.str "make")))) (toB (mOp oLt (Q3 4) (mOp oIx (Q3 1) (Q62 (mC (.int 1))))))) (Zt (Q3 4)) Yb)
  (Qp (J9 5 (Qdt "make" "use" "lend" (Q3 3) (Jc Yr (Q4 (Q3 2) Qa)) (mOp oIx (Q3 1) (mC (.int 2))) (mOp oIx (Q3 1) (mC (.int 0)))))
  (Q0m (Q3 2) (Q3 3) (Qj 4 Y7 (Q4 (mOp oIx (Q3 2) (Q3 3)) (Q4 (Q3 3) (Q4 (Q3 5) (Q4 (mOp oIx (Q3 1) (Q62 (mC (.int 1)))) Qa))))))))))))))
  (Zt (mC (.str "done")))))
def ji:FN:=Qr Wm 6
theorem sc__law_astep:FnScope ["state", "deed", "now", "i", "have", "at"] ["state", "deed"] (Q8 Q06):=⟨rfl,rfl,rfl,by decide +kernel,rfl,by decide +kernel,by decide +kernel⟩
theorem Q9n {f:aA} {fd:aQ} (F:Fun K "_law_astep" "_law_astep" Q06 f fd) (T:Txt mg)  (q:DefS P w K mg base 1 "_law_ajoined" 2 K5) (z:DefS P w K mg base 1 "_law_arights" 2 Jk) (j:DefS P w K mg base 1 "_law_araised" 4 Y7):FnOk P w K mg base (CXD P w) 2 f fd ["state", "deed"] (spF mg 2 ji):=by
 refine J3 (k:=1) (m:=Wm) F sc__law_astep rfl rfl rfl fun G A outer s H E B=>?_
 exact (Q9 (Qs 2 sc__law_astep.nd (Wk (V8 B) (Q0 0) Qz (fun _ _=>rfl)))
  (Q9 (Za (Ja (V6 B.units) (Qw (Q0 1) Qe) Qz) (Qc (Q6y (Qw (Q0 2) (Qw (Q0 1) Qe)) (Wk (V8 B) (Q0 0) Qz (fun _ _=>rfl)) (Qw (Q0 1) Qe))) (Qc (Za (Ja (V6 B.units) (Qw (Q0 1) Qe) Qz) (Qc (Q6y (Qw (Wk (V8 B) (Q0 0) Qz (fun _ _=>rfl)) (Qw (Q0 1) Qe)) (Q0 2) (Qw (Q0 1) Qe))) (Qc (Za (Ja (V6 B.units) (Qw (Q0 1) Qe) Qz) (Qc (Y8 (jk (Wk (V8 B) (Q0 0) Qz (fun _ _=>rfl)) (Q1 (Qw (Wk (V8 B) (Q0 0) Qz (fun _ _=>rfl)) (Qw (Q0 1) Qe)) Q6)))) (Qc (Za (Ja (V6 B.units) (Qw (Q0 1) Qe) Qz) (Qc (Q6y (Qh q (B.mono (by decide)) Qd rfl (Q1 (Qw (Q0 2) (Qw (Q0 1) Qe)) (Q1 (Qw (Wk (V8 B) (Q0 0) Qz (fun _ _=>rfl)) (Qw (Q0 1) Qe)) Q6))) (Q0 2) (Qw (Q0 1) Qe))) (Q9 (Qs 3 sc__law_astep.nd (Qw (Q0 1) Qe))
  (Q9 (Qs 4 sc__law_astep.nd (Qh z (B.mono (by decide)) Qd rfl (Q1 (Qw (Q0 2) (Q0 3)) (Q1 (Q0 3) Q6))))
  (Q9 (Za (SimW.t (Q6v (Ja (Q3n B.units) (Qw (Q0 1) Qe) Qz) (Q3d (Ja (Q3p B.units) (Q0 4) (Qw (Q0 1) (Q2r Qe)))))) (Qc (Qx (Q0 4))) Zw)
  (Q9 (Qs 5 sc__law_astep.nd (Qny (V8 B) (Q0 3) (Qt Yi rfl T.b_len bX (Q1 (Q0 2) Q6)) (Qw (Q0 1) Qe) (Qw (Q0 1) Qe) (fun _ _=>rfl)))
  (Qc (Q6y (Qh j (B.mono (by decide)) Qd rfl (Q1 (Qw (Q0 2) (Q0 3)) (Q1 (Q0 3) (Q1 (Q0 5) (Q1 (Qw (Q0 1) (Q2r Qe)) Q6))))) (Q0 2) (Q0 3))))))))))))))
  (Qc (Qx Qz))))
def yt : MS := (Qp (J9 2 (Jc Yr (Q4 (Ws (Q3 1) (mC (.str "now"))) Qa)))
  (Qp (J9 3 (Qj 2 Qf (Q4 (Q3 0) (Q4 (Q3 2) Qa))))
  (Qp (J9 4 (Qj 2 Qf (Q4 (Q3 0) (Q4 (mC (.int 12)) Qa))))
  (Qp (J9 5 (Jc Qa5 (Q4 (mC (.int 0)) (Q4 (Qj 2 Jk (Q4 (mOp oIx (Ws (Q3 1) (mC (.str "now"))) (Q3 3)) (Q4 (Q3 3) Qa))) Qa))))
  (Qp (J9 6 (mOp Y5 (mC (.int 1)) (Qj 2 Qf (Q4 (Q3 0) (Q4 (mOp Y5 (Q3 5) (mC (.int 2))) Qa)))))
  (Qp (Yt (toB (mOp oEq (Q3 4) (mC (.int 0)))) (Zt (Uf (Q4 (mC (.str "make")) (Q4 (Q3 3) (Q4 (Qj 1 Vc (Q4 (Q3 0) Qa)) Qa))))) Yb)
  (Qp (Yt (Q0y (toB (mOp oLt (Q3 4) (mC (.int 4)))) (toB (mOp (oI fun a b=>.bl (decide (b < a))) (Q3 2) (mC (.int 1))))) (Zt (Uf (Q4 (mC (.str "lend")) (Q4 (Q3 3) (Q4 (mOp Q3s (mOp Y5 (mOp Y5 (Q3 3) (mC (.int 1))) (Qj 2 Qf (Q4 (Q3 0) (Q4 (mOp (oI fun a b=>.int (a - b)) (Q3 2) (mC (.int 1))) Qa)))) (Q3 2)) (Q4 (Q3 6) Qa)))))) Yb)
  (Qp (Yt (toB (mOp oLt (Q3 4) (mC (.int 6)))) (Zt (Uf (Q4 (mC (.str "use")) (Q4 (Q3 3) (Q4 (Q3 6) Qa))))) Yb)
  (Qp (Yt (toB (mOp oLt (Q3 4) (mC (.int 8)))) (Zt (Uf (Q4 (mOp oIx (Q51 (Q4 (mC (.str "keep")) (Q4 (mC (.str "fall")) Qa))) (Jc Qgr (Q4 (mOp oEq (Qj 2 Qf (Q4 (Q3 0) (Q4 (mC (.int 3)) Qa))) (mC (.int 0))) Qa))) (Q4 (Q3 3) Qa)))) Yb)
  (Qp (Yt (Q5m (toB (mOp oEq (Q3 4) (mC (.int 8)))) (toB (mOp oEq (Ws (Q3 1) (mC (.str "letters"))) (Q51 Qa)))) (Zt (Uf (Q4 (mC (.str "send")) (Q4 (Q3 3) Qa)))) Yb)
  (Zt (Uf (Q4 (mC (.str "come")) (Q4 (Qj 2 Qf (Q4 (Q3 0) (Q4 (Jc Yr (Q4 (Ws (Q3 1) (mC (.str "letters"))) Qa)) Qa))) (Q4 (Q3 3) Qa)))))))))))))))
def Vp:FN:=Qr yt 7
theorem sc__law_adrawn:FnScope ["tape", "state", "size", "i", "way", "have", "much"] ["tape", "state"] (Q8 yi):=⟨rfl,rfl,rfl,by decide +kernel,rfl,by decide +kernel,by decide +kernel⟩
theorem Q7n {f:aA} {fd:aQ} (F:Fun K "_law_adrawn" "_law_adrawn" yi f fd) (T:Txt mg)  (j:DefS P w K mg base 1 "_law_adigit" 2 Qf) (q:DefS P w K mg base 1 "_law_arights" 2 Jk) (z:DefS P w K mg base 2 "_law_amuch" 1 Vc):FnOk P w K mg base (CXD P w) 3 f fd ["tape", "state"] (spF mg 2 Vp):=by
 refine J3 (k:=2) (m:=yt) F sc__law_adrawn rfl rfl rfl fun G A outer s H E B=>?_
 exact (Q9 (Qs 2 sc__law_adrawn.nd (Qt Yi rfl T.b_len bX (Q1 (Wk (V8 B) (Q0 1) Qz (fun _ _=>rfl)) Q6)))
  (Q9 (Qs 3 sc__law_adrawn.nd (Qh j (B.mono (by decide)) Qd rfl (Q1 (Q0 0) (Q1 (Q0 2) Q6))))
  (Q9 (Qs 4 sc__law_adrawn.nd (Qh j (B.mono (by decide)) Qd rfl (Q1 (Q0 0) (Q1 Qe Q6))))
  (Q9 (Qs 5 sc__law_adrawn.nd (Qt (Qcb rfl) rfl T.b_max Q44 (Q1 Qe (Q1 (Qh q (B.mono (by decide)) Qd rfl (Q1 (Qw (Wk (V8 B) (Q0 1) Qz (fun _ _=>rfl)) (Q0 3)) (Q1 (Q0 3) Q6))) Q6))))
  (Q9 (Qs 6 sc__law_adrawn.nd (J5 Jf Qe (Qh j (B.mono (by decide)) Qd rfl (Q1 (Q0 0) (Q1 (J5 Jf (Q0 5) Qe) Q6)))))
  (Q9 (Za (Ja (V6 B.units) (Q0 4) Qe) (Qc (Qx (Wd (Q1 Qz (Q1 (Q0 3) (Q1 (Qh z (B.mono (by decide)) Qd rfl (Q1 (Q0 0) Q6)) Q6)))))) Zw)
  (Q9 (Za (SimW.t (Q6v (Ja (Q3p B.units) (Q0 4) Qe) (Q3d (Ja Q7g (Q0 2) Qe)))) (Qc (Qx (Wd (Q1 Qz (Q1 (Q0 3) (Q1 (J5 Q1c (J5 Jf (J5 Jf (Q0 3) Qe) (Qh j (B.mono (by decide)) Qd rfl (Q1 (Q0 0) (Q1 (J5 Q0c (Q0 2) Qe) Q6)))) (Q0 2)) (Q1 (Q0 6) Q6))))))) Zw)
  (Q9 (Za (Ja (Q3p B.units) (Q0 4) Qe) (Qc (Qx (Wd (Q1 Qz (Q1 (Q0 3) (Q1 (Q0 6) Q6)))))) Zw)
  (Q9 (Za (Ja (Q3p B.units) (Q0 4) Qe) (Qc (Qx (Wd (Q1 (Qw (Q4c (Q1 Qz (Q1 Qz Q6))) (ju Qr2 rfl T.b_int Qec (Q1 (js (V6 B.units) (Qh j (B.mono (by decide)) Qd rfl (Q1 (Q0 0) (Q1 Qe Q6))) Qe) Q6))) (Q1 (Q0 3) Q6))))) Zw)
  (Q9 (Za (SimW.t (Qa8 (Ja (V6 B.units) (Q0 4) Qe) (Q6u (Ja (V6 B.units) (Wk (V8 B) (Q0 1) Qz (fun _ _=>rfl)) (Q4c Q6))))) (Qc (Qx (Wd (Q1 Qz (Q1 (Q0 3) Q6))))) Zw)
  (Qc (Qx (Wd (Q1 Qz (Q1 (Qh j (B.mono (by decide)) Qd rfl (Q1 (Q0 0) (Q1 (Qt Yi rfl T.b_len bX (Q1 (Wk (V8 B) (Q0 1) Qz (fun _ _=>rfl)) Q6)) Q6))) (Q1 (Q0 3) Q6))))))))))))))))
def yw : MS := (Qp (J9 1 (Qj 2 Ya (Q4 (Q3 0) (Q4 (mC (.int 0)) Qa))))
  (Qp (J9 2 (mOp Y5 (mC (.int 1)) (Qj 2 Qf (Q4 (Q3 1) (Q4 (mC (.int 8)) Qa)))))
  (Zt (Qj 3 Ux (Q4 (Q3 1) (Q4 (Q3 2) (Q4 (Qj 2 Qf (Q4 (Q3 1) (Q4 (mC (.int 9)) Qa))) Qa)))))))
def Ks:FN:=Qr yw 3
theorem sc__law_abegun:FnScope ["script", "tape", "size"] ["script"] (Q8 yk):=⟨rfl,rfl,rfl,by decide +kernel,rfl,by decide +kernel,by decide +kernel⟩
theorem Q7q {f:aA} {fd:aQ} (F:Fun K "_law_abegun" "_law_abegun" yk f fd) (T:Txt mg)  (z:DefS P w K mg base 2 "_law_atape" 2 Ya) (j:DefS P w K mg base 1 "_law_adigit" 2 Qf) (q:DefS P w K mg base 3 "_law_atable" 3 Ux):FnOk P w K mg base (CXD P w) 4 f fd ["script"] (spF mg 1 Ks):=by
 refine J3 (k:=3) (m:=yw) F sc__law_abegun rfl rfl rfl fun G A outer s H E B=>?_
 exact (Q9 (Qs 1 sc__law_abegun.nd (Qh z (B.mono (by decide)) Qd rfl (Q1 (Q0 0) (Q1 Qe Q6))))
  (Q9 (Qs 2 sc__law_abegun.nd (J5 Jf Qe (Qh j (B.mono (by decide)) Qd rfl (Q1 (Q0 1) (Q1 Qe Q6)))))
  (Qc (Qx (Qh q (B.mono (by decide)) Qd rfl (Q1 (Q0 1) (Q1 (Q0 2) (Q1 (Qh j (B.mono (by decide)) Qd rfl (Q1 (Q0 1) (Q1 Qe Q6))) Q6))))))))
def qt : MS := (Qp (J9 9 (Qj 2 Vp (Q4 (Q3 7) (Q4 (Q3 4) Qa))))
  (Yt (toB (mOp (oIn true) (mOp oIx (Q3 9) (mC (.int 0))) (Uf (Q4 (mC (.str "come")) (Q4 (mC (.str "fall")) Qa))))) (Qp (Wh (mBM Vg (Q3 5) (Q4 (Q3 9) Qa)))
  (Wh (Qj 2 ji (Q4 (Q3 4) (Q4 (Q3 9) Qa))))) Yb))
def qv : MS := (Qp (J9 7 (Qj 2 Ya (Q4 (Q3 0) (Q4 (Q3 6) Qa))))
  (Q2h (Qn 8) (Z9 (Q4 (mC (.int 3)) Qa)) qt))
def yr : MS := (Qp (J9 4 (Qj 1 Uy (Q4 (Q3 3) Qa)))
  (Qp (J9 5 (xi (zg Qa)))
  (Qp (Q2h (Qn 6) (Q0p (Q4 (Q3 1) (Q4 (mOp Y5 (Q3 1) (Q3 2)) Qa))) qv)
  (Zt (Uf (Q4 (Q3 5) (Q4 (Q3 4) Qa)))))))
def Kr:FN:=Yq yr 10
theorem sc__law_aquiet:FnScope ["script", "start", "many", "table", "state", "deeds", "k", "tape", "turn", "deed"] ["script", "start", "many", "table"] (Q8 yh):=⟨rfl,rfl,rfl,by decide +kernel,rfl,by decide +kernel,by decide +kernel⟩
theorem Q7m {f:aA} {fd:aQ} (F:Fun K "_law_aquiet" "_law_aquiet" yh f fd) (T:Txt mg)  (q:DefS P w K mg base 1 "_law_astart" 1 Uy) (z:DefS P w K mg base 2 "_law_atape" 2 Ya) (j:DefS P w K mg base 3 "_law_adrawn" 2 Vp) (B:DefS P w K mg base 2 "_law_astep" 2 ji):FnOk P w K mg base (CXD P w) 4 f fd ["script", "start", "many", "table"] (spF mg 4 Kr):=by
 refine We (k:=3) (m:=yr) F sc__law_aquiet rfl rfl rfl fun I A outer s H E G=>?_
 exact (Q9 (Qs 4 sc__law_aquiet.nd (Qh q (G.mono (by decide)) Qd rfl (Q1 (Q0 3) Q6)))
  (Q9 (Qs 5 sc__law_aquiet.nd (X3 (jq Q6)))
  (Q9 (Kc PassesOwn.leaving rfl (Qac rfl T.b_range (Q1 (Q0 1) (Q1 (J5 Jf (Q0 1) (Q0 2)) Q6))) (Qy (i:=6) sc__law_aquiet.nd) (Q9 (Qs 7 sc__law_aquiet.nd (Qh z (G.mono (by decide)) Qd rfl (Q1 (Q0 0) (Q1 (Q0 6) Q6))))
  (Qc (Kc PassesOwn.leaving rfl (Jj rfl T.b_range (Q1 Qe Q6)) (Qy (i:=8) sc__law_aquiet.nd) (Q9 (Qs 9 sc__law_aquiet.nd (Qh j (G.mono (by decide)) Qd rfl (Q1 (Q0 7) (Q1 (Q0 4) Q6))))
  (Qc (Za (Ja (Q1b G.units) (Qw (Q0 9) Qe) (Wd (Q1 Qz (Q1 Qz Q6)))) (Q9 (Y8 (jk (Q0 5) (Q1 (Q0 9) Q6)))
  (Qc (Y8 (Qh B (G.mono (by decide)) Qd rfl (Q1 (Q0 4) (Q1 (Q0 9) Q6)))))) Zw)))))))
  (Qc (Qx (Wd (Q1 (Q0 5) (Q1 (Q0 4) Q6))))))))
def Yw:MS:=(Wh (mBM Vg (Q3 3) (Q4 (mBM Qdj (Q3 2) (Q4 (Qj 2 Qf (Q4 (Q3 0) (Q4 (Jc Yr (Q4 (Q3 2) Qa)) Qa))) Qa)) Qa)))
def Yu:MT:=(toB (mOp oNe (Q3 2) (Q51 Qa)))
def z9 : MS := (Qp (J9 2 (xi (Qbx (Q3 1))))
  (Qp (J9 3 (xi (zg Qa)))
  (Qp (U0 Yu Yw 100000)
  (Zt (Q3 3)))))
def U7:FN:=Yq z9 4
theorem sc__law_aturned:FnScope ["tape", "some", "left", "found"] ["tape", "some"] (Q8 jw):=⟨rfl,rfl,rfl,by decide +kernel,rfl,by decide +kernel,by decide +kernel⟩
theorem Q5u {f:aA} {fd:aQ} (F:Fun K "_law_aturned" "_law_aturned" jw f fd) (T:Txt mg)  (j:DefS P w K mg base 1 "_law_adigit" 2 Qf):FnOk P w K mg base (CXD P w) 2 f fd ["tape", "some"] (spF mg 2 U7):=by
 refine We (k:=1) (m:=z9) F sc__law_aturned rfl rfl rfl fun z A outer s H E q=>?_
 exact (Q9 (Qs 2 sc__law_aturned.nd (X3 (Qns (Q0 1) rfl T.b_list)))
  (Q9 (Qs 3 sc__law_aturned.nd (X3 (jq Q6)))
  (Q9 (Q6x 100000 PassesOwn.leaving (Ja (Q3n q.units) (Q0 2) (Q4c Q6)) (Qc (Y8 (jk (Q0 3) (Q1 (Qjk fM PySem.F.slot_list_pop PySem.F.type_list_pop Qtm (Q0 2) (Q1 (Qh j (q.mono (by decide)) Qd rfl (Q1 (Q0 0) (Q1 (Qt Yi rfl T.b_len bX (Q1 (Q0 2) Q6)) Q6))) Q6)) Q6)))))
  (Qc (Qx (Q0 3))))))
def Qgm (C:aA):ME:=(Uf (Q4 (mC (.str "keep")) (Q4 (Q3 0) Qa)))
def Qgk (C:aA):ME:=(Uf (Q4 (mC (.str "send")) (Q4 (Q3 0) Qa)))
def Qgj (C:aA):ME:=(Uf (Q4 (mC (.str "come")) (Q4 (Q3 1) (Q4 (Q3 0) Qa))))
def Qcj (C:aA):MS:=(Wh (mBM Kv (Q3 6) (Q4 (Xe (Y3 [none,some 7] (Qn 0) (Z9 (Q4 (Q3 2) Qa)) Ju (Qgj C))) Qa)))
def Qgi (C:aA):ME:=(Uf (Q4 (mC (.str "come")) (Q4 (Q3 1) (Q4 (Q3 0) Qa))))
def Qci (C:aA):MS:=(Wh (mBM Kv (Q3 11) (Q4 (Xe (Y3 [none,some 7] (Qn 0) (Z9 (Q4 (Q3 2) Qa)) Ju (Qgi C))) Qa)))
def Qgw (C:aA):MS:=(J9 12 (Qj 2 zq (Q4 (Q3 12) (Q4 (Q3 13) Qa))))
def Qgh (C:aA):ME:=(Q3 1)
def Qgv (C:aA):MS:=(Yt (toB (mOp oNe (mOp oIx (Qj 2 (Q47 C) (Q4 (Q3 1) (Q4 (mOp Y5 (Q3 3) (Q3 15)) Qa))) (mC (.int 1))) (Q3 14))) (Zt (mC (.bl false))) Yb)
def Qgt (C : aA) : MS := (Yt (toB (mOp oNe (Q3 17) (Q3 19))) (Qp (J9 18 (mOp Y5 (Q3 18) (mOp oIx (mOp oIx (mOp oIx (Q3 16) (Q3 19)) (Q3 19)) (Q3 17))))
  (J9 18 (mOp (oI fun a b=>.int (a - b)) (Q3 18) (mOp oIx (mOp oIx (mOp oIx (Q3 16) (Q3 17)) (Q3 19)) (Q3 17))))) Yb)
def Qgu (C : aA) : MS := (Qp (J9 18 (Qj 2 Jk (Q4 (mOp oIx (Q3 16) (Q3 17)) (Q4 (Q3 17) Qa))))
  (Qp (Q2h (Qn 19) (Z9 (Q4 (Q3 2) Qa)) (Qgt C))
  (Yt (toB (mOp oNe (Qj 2 Vk (Q4 (Q3 12) (Q4 (Q3 17) Qa))) (Q3 18))) (Zt (mC (.bl false))) Yb)))
def Qkr (C : aA) : MS := (Qp (J9 1 (Qj 1 Ks (Q4 (Q3 0) Qa)))
  (Qp (J9 2 (Jc Yr (Q4 (Q3 1) Qa)))
  (Qp (Qqf (y4 (W5 (Qn 3) (W5 (Qn 4) y6))) (Qj 4 Kr (Q4 (Q3 0) (Q4 (mC (.int 1)) (Q4 (Jc Qa5 (Q4 (mC (.int 4)) (Q4 (Jc Qmx (Q4 (mC (.int 8)) (Q4 (mOp (oI fun a b=>.int (a - b)) (Jc Yr (Q4 (Q3 0) Qa)) (mC (.int 1))) Qa))) Qa))) (Q4 (Q3 1) Qa))))))
  (Qp (J9 5 (Jc Yr (Q4 (Ws (Q3 4) (mC (.str "letters"))) Qa)))
  (Qp (J9 3 (mOp Y5 (Q3 3) (Xe (Y3 [none] (Qn 0) (Z9 (Q4 (Q3 2) Qa)) Ju (Qgm C)))))
  (Qp (J9 3 (mOp Y5 (Q3 3) (Xe (Y3 [none] (Qn 0) (Z9 (Q4 (Q3 2) Qa)) Ju (Qgk C)))))
  (Qp (J9 6 (xi (zg Qa)))
  (Qp (Q2h (Qn 7) (Z9 (Q4 (mOp Y5 (Q3 5) (Q3 2)) Qa)) (Qcj C))
  (Qp (J9 8 (Qj 2 Ya (Q4 (Q3 0) (Q4 (mC (.int 9)) Qa))))
  (Qp (J9 9 (Qj 2 U7 (Q4 (Q3 8) (Q4 (mSl (Q3 6) W9 (Ut (mC (.int 60)))) Qa))))
  (Qp (J9 10 (Qj 2 U7 (Q4 (Qj 2 Ya (Q4 (Q3 0) (Q4 (mC (.int 10)) Qa))) (Q4 (mSl (Q3 6) W9 (Ut (mC (.int 60)))) Qa))))
  (Qp (J9 11 (xi (zg Qa)))
  (Qp (Q2h (Qn 7) (Q0p (Q4 (Q3 5) (Q4 (mOp Y5 (Q3 5) (Q3 2)) Qa))) (Qci C))
  (Qp (J9 12 (mOp oIx (Ws (Q3 4) (mC (.str "now"))) (mC (.int 0))))
  (Qp (Q2h (Qn 13) (Q0n (Ws (Q3 4) (mC (.str "now")))) (Qgw C))
  (Qp (J9 14 (Xe (Y3 [none,some 12] (Qn 0) (Z9 (Q4 (Q3 2) Qa)) Ju (Qgh C))))
  (Qp (Q2h (Qn 15) (Q0n (Q51 (Q4 (mOp Y5 (Q3 9) (Q3 11)) (Q4 (mOp Y5 (mOp Y5 (Q3 10) (mSl (Q3 9) W9 (Ut (mC (.int 7))))) (Q3 11)) (Q4 (Q3 11) (Q4 (mOp Y5 (Q3 11) (Q3 9)) Qa)))))) (Qgv C))
  (Qp (J9 16 (Ws (Q3 4) (mC (.str "now"))))
  (Qp (Q2h (Qn 17) (Z9 (Q4 (Q3 2) Qa)) (Qgu C))
  (Zt (mC (.bl true))))))))))))))))))))))
def Qrx (C:aA):FN:=Qr (Qkr C) 20
theorem sc_law:FnScope ["script", "start", "size", "deeds", "state", "last", "comes", "number", "tape", "one", "two", "finals", "joint", "table", "due", "row", "now", "i", "have", "j"] ["script"] (Q8 Q3g):=⟨rfl,rfl,rfl,by decide +kernel,rfl,by decide +kernel,by decide +kernel⟩
theorem Qth {f:aA} {fd:aQ} {C:aA} (F:Fun K "law" "law" Q3g f fd) (T:Txt mg) (Z:ClsT K C)  (G:DefS P w K mg base 4 "_law_abegun" 1 Ks) (I:DefS P w K mg base 4 "_law_aquiet" 4 Kr) (q:DefS P w K mg base 2 "_law_atape" 2 Ya) (j:DefS P w K mg base 2 "_law_aturned" 2 U7) (U:DefS P w K mg base 2 "joined" 2 zq) (O:DefS P w K mg base 10 "played" 2 (Q47 C)) (B:DefS P w K mg base 1 "_law_arights" 2 Jk) (z:DefS P w K mg base 4 "rights_tables" 2 Vk):FnOk P w K mg base (CXD P w) 11 f fd ["script"] (spF mg 1 (Qrx C)):=by
 refine J3 (k:=10) (m:=(Qkr C)) F sc_law rfl rfl rfl fun Y A outer s H E J=>?_
 exact (Q9 (Qs 1 sc_law.nd (Qh G (J.mono (by decide)) Qd rfl (Q1 (Q0 0) Q6)))
  (Q9 (Qs 2 sc_law.nd (Qt Yi rfl T.b_len bX (Q1 (Q0 1) Q6)))
  (Q9 (Qsc (Qh I (J.mono (by decide)) Qd rfl (Q1 (Q0 0) (Q1 Qe (Q1 (Qt (Qcb rfl) rfl T.b_max Q44 (Q1 Qe (Q1 (Qt (Qu9 rfl) rfl T.b_min Qn2 (Q1 Qe (Q1 (J5 Q0c (Qt Yi rfl T.b_len bX (Q1 (Q0 0) Q6)) Qe) Q6))) Q6))) (Q1 (Q0 1) Q6))))) (Q4a rfl (Vd (Qy (i:=3) sc_law.nd) (Vd (Qy (i:=4) sc_law.nd) Q1y))))
  (Q9 (Qs 5 sc_law.nd (Qt Yi rfl T.b_len bX (Q1 (Wk (V8 J) (Q0 4) Qz (fun _ _=>rfl)) Q6)))
  (Q9 (Qs 3 sc_law.nd (J5 Jf (Q0 3) (Wc (Y4 [none] ["i"] rfl (Jj rfl T.b_range (Q1 (Q0 2) Q6)) (fun _ _ _ _ _=>(Qy (i:=0) (show (["i"]:List Str).Nodup by decide +kernel))) (fun _ _ _ _ _=>(Wd (Q1 Qz (Q1 (Q0 0) Q6)))) (fun _ _ _ _ _=>Ym) J7))))
  (Q9 (Qs 3 sc_law.nd (J5 Jf (Q0 3) (Wc (Y4 [none] ["i"] rfl (Jj rfl T.b_range (Q1 (Q0 2) Q6)) (fun _ _ _ _ _=>(Qy (i:=0) (show (["i"]:List Str).Nodup by decide +kernel))) (fun _ _ _ _ _=>(Wd (Q1 Qz (Q1 (Q0 0) Q6)))) (fun _ _ _ _ _=>Ym) J7))))
  (Q9 (Qs 6 sc_law.nd (X3 (jq Q6)))
  (Q9 (Kc PassesOwn.leaving rfl (Jj rfl T.b_range (Q1 (J5 Jf (Q0 5) (Q0 2)) Q6)) (Qy (i:=7) sc_law.nd) (Qc (Y8 (Q4e (Q0 6) (Q1 (Wc (Y4 [none,some 7] ["i", "number"] rfl (Jj rfl T.b_range (Q1 (Q0 2) Q6)) (fun _ _ _ _ _=>(Qy (i:=0) (show (["i", "number"]:List Str).Nodup by decide +kernel))) (fun _ _ _ _ _=>(Wd (Q1 Qz (Q1 (Q0 1) (Q1 (Q0 0) Q6))))) (fun _ _ _ _ _=>Ym) J7)) Q6)))))
  (Q9 (Qs 8 sc_law.nd (Qh q (J.mono (by decide)) Qd rfl (Q1 (Q0 0) (Q1 Qe Q6))))
  (Q9 (Qs 9 sc_law.nd (Qh j (J.mono (by decide)) Qd rfl (Q1 (Q0 8) (Q1 (Wx (Q0 6) X0 (Vx Qe)) Q6))))
  (Q9 (Qs 10 sc_law.nd (Qh j (J.mono (by decide)) Qd rfl (Q1 (Qh q (J.mono (by decide)) Qd rfl (Q1 (Q0 0) (Q1 Qe Q6))) (Q1 (Wx (Q0 6) X0 (Vx Qe)) Q6))))
  (Q9 (Qs 11 sc_law.nd (X3 (jq Q6)))
  (Q9 (Kc PassesOwn.leaving rfl (Qac rfl T.b_range (Q1 (Q0 5) (Q1 (J5 Jf (Q0 5) (Q0 2)) Q6))) (Qy (i:=7) sc_law.nd) (Qc (Y8 (Q4e (Q0 11) (Q1 (Wc (Y4 [none,some 7] ["i", "number"] rfl (Jj rfl T.b_range (Q1 (Q0 2) Q6)) (fun _ _ _ _ _=>(Qy (i:=0) (show (["i", "number"]:List Str).Nodup by decide +kernel))) (fun _ _ _ _ _=>(Wd (Q1 Qz (Q1 (Q0 1) (Q1 (Q0 0) Q6))))) (fun _ _ _ _ _=>Ym) J7)) Q6)))))
  (Q9 (Qs 12 sc_law.nd (Qw (Wk (V8 J) (Q0 4) Qz (fun _ _=>rfl)) Qe))
  (Q9 (Kc PassesOwn.leaving rfl (Xj (Wk (V8 J) (Q0 4) Qz (fun _ _=>rfl))) (Qy (i:=13) sc_law.nd) (Qc (Qs 12 sc_law.nd (Qh U (J.mono (by decide)) Qd rfl (Q1 (Q0 12) (Q1 (Q0 13) Q6))))))
  (Q9 (by first | exact Q14 [none,some 12] ["i", "joint"] 14 sc_law.nd rfl (Jj rfl T.b_range (Q1 (Q0 2) Q6)) (fun _ _ _ _ _=>(Qy (i:=0) (show (["i", "joint"]:List Str).Nodup by decide +kernel))) (fun _ _ _ _ _=>(Q0 1)) (fun _ _ _ _ _=>Ym) J7 | exact Qs 14 sc_law.nd (Wc (Y4 [none,some 12] ["i", "joint"] rfl (Jj rfl T.b_range (Q1 (Q0 2) Q6)) (fun _ _ _ _ _=>(Qy (i:=0) (show (["i", "joint"]:List Str).Nodup by decide +kernel))) (fun _ _ _ _ _=>(Q0 1)) (fun _ _ _ _ _=>Ym) J7)))
  (Q9 (Kc PassesOwn.leaving rfl (Xj (Q4c (Q1 (J5 Jf (Q0 9) (Q0 11)) (Q1 (J5 Jf (J5 Jf (Q0 10) (Wx (Q0 9) X0 (Vx Qe))) (Q0 11)) (Q1 (Q0 11) (Q1 (J5 Jf (Q0 11) (Q0 9)) Q6)))))) (Qy (i:=15) sc_law.nd) (Qc (Za (Ja (Q3n J.units) (Qw (Qh O (J.mono (by decide)) Qd rfl (Q1 (Q0 1) (Q1 (J5 Jf (Q0 3) (Q0 15)) Q6))) Qe) (Q0 14)) (Qc (Qx Q5d)) Zw)))
  (Q9 (Qs 16 sc_law.nd (Wk (V8 J) (Q0 4) Qz (fun _ _=>rfl)))
  (Q9 (Kc PassesOwn.leaving rfl (Jj rfl T.b_range (Q1 (Q0 2) Q6)) (Qy (i:=17) sc_law.nd) (Q9 (Qs 18 sc_law.nd (Qh B (J.mono (by decide)) Qd rfl (Q1 (Qw (Q0 16) (Q0 17)) (Q1 (Q0 17) Q6))))
  (Q9 (Kc PassesOwn.leaving rfl (Jj rfl T.b_range (Q1 (Q0 2) Q6)) (Qy (i:=19) sc_law.nd) (Qc (Za (Ja (Q3n J.units) (Q0 17) (Q0 19)) (Q9 (Qs 18 sc_law.nd (J5 Jf (Q0 18) (Qw (Qw (Qw (Q0 16) (Q0 19)) (Q0 19)) (Q0 17))))
  (Qc (Qs 18 sc_law.nd (J5 Q0c (Q0 18) (Qw (Qw (Qw (Q0 16) (Q0 17)) (Q0 19)) (Q0 17)))))) Zw)))
  (Qc (Za (Ja (Q3n J.units) (Qh z (J.mono (by decide)) Qd rfl (Q1 (Q0 12) (Q1 (Q0 17) Q6))) (Q0 18)) (Qc (Qx Q5d)) Zw)))))
  (Qc (Qx Q5d)))))))))))))))))))))
end
end Lw
namespace Lw
open PySem PySem.Spec L2 Sm
theorem Q6h (a:Int) {b:Int} (h:0 < b):0<=a % b/\a % b < b:=⟨Int.emod_nonneg a (by omega),Int.emod_lt_of_pos a h⟩
def J1 (r:List Int):PV:=.tup (r.map .int)
def Q7 (tb:List (List Int)):PV:=.tup (tb.map J1)
theorem Qfn {α:Type} (xs:List α) (p:α->Bool):(xs.map p).all id=xs.all p:=by
 rw [fF]; rfl
structure Wt' (n:Nat) (tb:List (List Int)):Prop where
 len:tb.length=n
 row:∀ r∈tb,r.length=n + 1
 nn:∀ r∈tb,∀ x∈r,(0:Int)<=x
 n1:1<=n
 n8:n<=8
def Yy (n:Nat) (f:Nat->Int):Int:=((bU n).map f).sum
theorem Jh (n:Nat) (f:Nat->Int):Yy (n + 1) f=Yy n f + f n:=by
 unfold Yy;rw [cZ,D5,gK];simp
theorem Wr {n:Nat} {f g:Nat->Int} (h:∀ i,i < n->f i=g i):Yy n f=Yy n g:=by
 induction n with
 | zero=>rfl
 | succ n j=>rw [Jh,Jh,j fun i hi=>h i (by omega),h n (by omega)]
theorem Qcq (n:Nat) (f g:Nat->Int):Yy n (fun i=>f i + g i)=Yy n f + Yy n g:=by
 induction n with
 | zero=>rfl
 | succ n j=>rw [Jh,Jh,Jh,j]; omega
theorem Qcp (n:Nat) (f g:Nat->Int):Yy n (fun i=>f i - g i)=Yy n f - Yy n g:=by
 induction n with
 | zero=>rfl
 | succ n j=>rw [Jh,Jh,Jh,j]; omega
theorem Q49 (n:Nat):Yy n (fun _=>0)=0:=by
 induction n with
 | zero=>rfl
 | succ n j=>rw [Jh,j]; rfl
theorem Q5b {n:Nat} {f:Nat->Int} (h:∀ i,i < n->0<=f i):0<=Yy n f:=by
 induction n with
 | zero=>exact bg _
 | succ n j=>rw [Jh]; have:=j fun i hi=>h i (by omega); have:=h n (by omega); omega
theorem Qdn {α β:Type} (l:List α) (d:α) (f:α->β):l.map f=(bU l.length).map fun i=>f (l.getD i d):=by
 refine dL fun i=>?_
 rw [E8,E8]
 by_cases hi:i < l.length
 ·rw [F1 hi,getD_some hi d]; rfl
 ·rw [F6 (by omega),F6 (by rw [F4]; omega)]; rfl
theorem Qct (r:List Int):r.sum=Yy r.length fun j=>r.getD j 0:=by
 have:=Qdn r 0 id;rw [List.map_id] at this;rw [Yy]
 conv=>lhs; rw [this]
 rfl
def ent (tb:List (List Int)) (i j:Nat):Int:=(tb.getD i []).getD j 0
def Sz (n:Nat) (tb:List (List Int)):Prop:=tb.length=n/\∀ r∈tb,r.length=n + 1
theorem Wt'.sz {n:Nat} {tb:List (List Int)} (w:Wt' n tb):Sz n tb:=⟨w.len,w.row⟩
theorem Sz.row {n i:Nat} {tb:List (List Int)} (z:Sz n tb) (hi:i < n):tb[i]?=some (tb.getD i [])/\(tb.getD i []).length=n + 1:=by
 have e:=getD_some (show i < tb.length by rw [z.1]; exact hi) [];exact ⟨e,z.2 _ (D2 e)⟩
theorem Sz.cell {n i j:Nat} {tb:List (List Int)} (z:Sz n tb) (hi:i < n) (q:j<=n):(tb.getD i [])[j]?=some (ent tb i j):=getD_some (by rw [(z.row hi).2]; omega) 0
theorem Qfr {n:Nat} {t1 t2:List (List Int)} (q:Sz n t1) (z:Sz n t2) (h:∀ i j,i < n->j<=n->ent t1 i j=ent t2 i j):t1=t2:=by
 refine dL fun i=>?_
 by_cases hi:i < n
 ·rw [(q.row hi).1,(z.row hi).1];congr 1;refine dL fun j=>?_
  by_cases B:j<=n
  ·rw [q.cell hi B,z.cell hi B,h i j hi B]
  ·rw [F6 (by rw [(q.row hi).2]; omega),F6 (by rw [(z.row hi).2]; omega)]
 ·rw [F6 (by rw [q.1]; omega),F6 (by rw [z.1]; omega)]
theorem Wt'.ent_nn {n i j:Nat} {tb:List (List Int)} (w:Wt' n tb) (hi:i < n) (q:j<=n):0<=ent tb i j:=w.nn _ (D2 (w.sz.row hi).1) _ (D2 (w.sz.cell hi q))
theorem Wt'.of_ent {n:Nat} {tb:List (List Int)} (z:Sz n tb) (h1:1<=n) (I:n<=8) (h:∀ i j,i < n->j<=n->0<=ent tb i j):Wt' n tb:=by
 refine ⟨z.1,z.2,fun r q x J=>?_,h1,I⟩;obtain ⟨i,hi,e⟩:=df.mp q;obtain ⟨j,G,e2⟩:=df.mp J;have O:=z.2 r q;have:=h i j (by rw [<- z.1]; exact hi) (by omega);have e3:tb.getD i []=r:=by rw [bb,O7 hi,e]; rfl
 have B:r.getD j 0=x:=by rw [bb,O7 G,e2]; rfl
 unfold ent at this;rw [e3,B] at this;exact this
theorem Q0r (i:Int) (st:Q2):Vb [.int i] st=.ok (.bl true) st:=by
 simp [Vb,Qr,Q32,isI,tyN]
theorem Qa3 (a b c:Int) (st:Q2):K4 [.int a,.int b,.int c] st=.ok (.bl (decide (b<=a) && decide (a<=c))) st:=by
 by_cases h:b<=a <;> simp [K4,Qr,Q0i,Q0r,h]
theorem Q1i {V:PV} {n:Nat} {st:Q2} (j:Yr st [V]=.ok (.int n) st) (i:Int):Yp [V,.int i] st=.ok (.bl (decide (0<=i) && decide (i < n))) st:=by
 have e:decide (i<=(n:Int) - 1)=decide (i < (n:Int)):=by
  rw [decide_eq_decide]; omega
 simp [Yp,Qr,Q34,j,Qa3,e]
theorem Qc5 {V:PV} {n i:Nat} {st:Q2} (j:Yr st [V]=.ok (.int n) st) (hi:i < n):Yp [V,.int i] st=.ok (.bl true) st:=by
 rw [Q1i j];simp; omega
def Y6 (k:Nat):PV:=.int (k:Int)
theorem Qqv {n r:Nat} {S:Q2} {hs:List Int} (q:n<=r) (h:S[r]?=some (.lst (hs.map .int))):fz n S 16 (.ref r)=some (.lst (hs.map .int)):=by
 have j:Zv 12 (.lst (hs.map .int))=true:=by simp [Zv]
 have:=Q6f (n:=n) (st:=S) (k:=16) j (by decide);rw [fz,bO (by omega),h];simpa [fz] using this
def Qq (tb:List (List Int)) (h:Nat):Int:=Yy tb.length (fun o=>ent tb o h) - ((tb.getD h []).sum - ent tb h h)
theorem V9 {n h:Nat} {tb:List (List Int)} (z:Sz n tb) (q:h < n):Qq tb h=Yy n (fun o=>ent tb o h) - (Yy n (fun j=>ent tb h j) + ent tb h n - ent tb h h):=by
 unfold Qq;rw [z.1,Qct (tb.getD h []),(z.row q).2,Jh];rfl
theorem Q4j {n h:Nat} {tb:List (List Int)} (z:Sz n tb) (Z:n<=100) (j:h < n) (st:Q2):Vk [Q7 tb,.int h] st=.ok (.int (Qq tb h)) st:=by
 have J:=Qc5 (V:=Q7 tb) (n:=n) (i:=h) (st:=st) (by simp [Q7,z.1]) j;have I:Jt (Qn 0) Ju Q37 [] (Jv [none,some 1] [some (Q7 tb),some (.int h),none,none,none]) (tb.map J1) st=.ok (tb.map fun r=>.int (r.getD h 0)) st:=by
  refine Yk _ _ (by simp) fun r B=>⟨_,rfl,?_⟩
  have e:=atI_get (getD_some (show h < r.length by rw [z.2 r B]; omega) 0);simp [Jv,Q37,J1,Kq,e]
 have e1:=atI_get (z.row j).1;have e2:=atI_get (z.cell j (E7 j));have hs:(tb.map fun r=>r.getD h 0).sum=Yy n fun o=>ent tb o h:=by
  rw [Qdn tb [] fun r=>r.getD h 0,z.1]; rfl
 have Y:tb.length<=1000000:=by rw [z.1]; omega
 unfold Qq;rw [z.1,<- hs];obtain ⟨r,B⟩:∃ r,tb.getD h []=r:=⟨_,rfl⟩;obtain ⟨x,U⟩:∃ x,ent tb h h=x:=⟨_,rfl⟩;rw [B] at e1 e2 ⊢;rw [U] at e2 ⊢;obtain ⟨q,O⟩:∃ q,(tb.map fun r=>r.getD h 0)=q:=⟨_,rfl⟩;have G:(tb.map fun r=>PV.int (r.getD h 0))=q.map .int:=by rw [<- O,G9]; rfl
 rw [G] at I;rw [O];unfold Q7 at J I ⊢;simp [Vk,Qr,Q7x,J,I,Y,Z7,Kq,e1,J1,e2]
theorem jh {n i j:Nat} {tb:List (List Int)} (z:Sz n tb) (hi:i < n) (q:j<=n) (st:Q2):oIx st (Q7 tb) (.int i)=.ok (J1 (tb.getD i [])) st/\oIx st (J1 (tb.getD i [])) (.int j)=.ok (.int (ent tb i j)) st:=by
 constructor
 ·unfold Q7; rw [Qg3,Kq,atI_get (z.row hi).1]; rfl
 ·unfold J1; rw [Qg3,Kq,atI_get (z.cell hi q)]; rfl
def Q0z (tb:List (List Int)) (h:Nat):Bool:=decide (0 < ent tb h h)
theorem Qq6 {n h:Nat} {tb:List (List Int)} (z:Sz n tb) (j:h < n) (st:Q2):Kz [Q7 tb,.int h] st=.ok (.bl (Q0z tb h)) st:=by
 obtain ⟨B,q⟩:=jh z j (E7 j) st;unfold Q0z;generalize ent tb h h=x at *;generalize tb.getD h []=r at *;simp [Kz,Qr,Q1f,B,q]
def U6 (tb:List (List Int)) (h:Nat):Bool:=decide (ent tb h h < (tb.getD h []).sum)
theorem Qr7 {n h:Nat} {tb:List (List Int)} (z:Sz n tb) (j:h < n) (st:Q2):W7 [Q7 tb,.int h] st=.ok (.bl (U6 tb h)) st:=by
 obtain ⟨G,B⟩:=jh z j (E7 j) st;unfold U6;generalize ent tb h h=x at *;generalize tb.getD h []=r at *;have q:K2 (fun ns=>some (.int ns.sum)) st [J1 r]=.ok (.int r.sum) st:=by unfold J1; rw [Qiq]; rfl
 simp [W7,Qr,Um,G,B,q]
def Qdu (tb:List (List Int)) (h:Nat) (ls:List Nat):Bool:=ls.any fun o=>decide (o≠h) && decide (0 < ent tb o h)
theorem Qn6 {α:Type} (xs:List α) (p:α->Bool):(xs.map p).any id=xs.any p:=by
 rw [da]; rfl
theorem Qqg {n h:Nat} {tb:List (List Int)} (z:Sz n tb) (G:h < n) {ls:List Nat} (hl:∀ o∈ls,o < n) (I:ls.length<=1000) {V:PV} {st:Q2} (J:ListAt st V (ls.map Y6)):Vj [Q7 tb,.int h,V] st=.ok (.bl (Qdu tb h ls)) st:=by
 obtain ⟨w,q,Z⟩:=J.src;have O:Jt (Qn 0) Xg Xx w (Jv [none,some 1,some 0] [some (Q7 tb),some (.int h),some V]) (ls.map Y6) st=.ok ((ls.filter fun o=>decide (o≠h)).map fun o=>.bl (decide (0 < ent tb o h))) st:=by
  refine Q27 _ _ _ Z fun o U=>⟨_,rfl,?_,fun ht=>?_⟩
  ·simp [Jv,Xg,Y6]
   by_cases e:o=h
   ·simp [e]
   ·have:¬ ((o:Int)=h):=by omega
    simp [e,this]
  ·obtain ⟨c1,Y⟩:=jh z (hl o U) (E7 G) st;generalize ent tb o h=x at *;generalize tb.getD o []=r at *;simp [Jv,Xx,Y6,c1,Y]
 have j:(ls.map Y6).length<=1000000:=by rw [O2]; omega
 have B:Qdu tb h ls=((ls.filter fun o=>decide (o≠h)).map fun o=>decide (0 < ent tb o h)).any id:=by
  rw [Qn6,gr]; rfl
 rw [B];generalize ls.map Y6=ov at *;generalize ls.filter (fun o=>decide (o≠h))=fs at *
 simp [Vj,Qr,qm,q,j,Z7,O,-da]
def Q0a (tb:List (List Int)) (h:Nat) (ls:List Nat):Bool:=Q0z tb h || Qdu tb h ls
theorem Qp0 {n h:Nat} {tb:List (List Int)} (z:Sz n tb) (B:h < n) {ls:List Nat} (I:∀ o∈ls,o < n) (j:ls.length<=1000) {V:PV} {st:Q2} (G:ListAt st V (ls.map Y6)):Km [Q7 tb,.int h,V] st=.ok (.bl (Q0a tb h ls)) st:=by
 have h1:=Qq6 z B st;have h2:=Qqg z B I j G;unfold Q0a;cases q:Q0z tb h with
 | true=>rw [q] at h1; simp [Km,Qr,Q0j,h1]
 | false=>rw [q] at h1; simp [Km,Qr,Q0j,h1,h2]
theorem Qqq (hs:List Int) (x:Int):((hs.map PV.int).any fun y=>peq y (.int x))=decide (x∈hs):=by
 rw [da,dI,dJ,decide_eq_true_iff];constructor
 ·rintro ⟨y,j,e⟩;have:y=x:=by simpa [peq] using e
  rw [<- this]; exact j
 ·intro h;exact ⟨x,h,by simp [peq]⟩
theorem Qrr {hs:List Int} {V:PV} {st:Q2} (j:ListAt st V (hs.map .int)) (x:Int) (b:Bool):oIn b st (.int x) V=.ok (.bl (decide (x∈hs) != b)) st:=by
 have q:Uj st V=some (hs.map .int):=by
  rcases j with rfl | rfl | ⟨i,rfl,e⟩
  ·rfl
  ·rfl
  ·rw [Q67,e]
 have hd:der st (.int x)=.int x:=rfl;have z:Zv dep (.int x)=true:=rfl;have g2:(hs.map PV.int).all (Zv dep)=true:=by simp [Zv,dep]
 unfold oIn;rw [q,hd];simp only [z,g2,and_self,if_true,Qqq]
theorem ListAt.sl {st:Q2} {V:PV} {xs:List PV} (h:ListAt st V xs) (l u:Option Int):oSl st V l u=.ok (.lst (cut xs l u)) st:=by
 rcases h with rfl | rfl | ⟨i,rfl,e⟩
 ·rfl
 ·rfl
 ·unfold oSl; simp only [Qkz,e]
def Qmz (n:Nat) (tb:List (List Int)) (h:Nat):Bool:=(bU (n + 1)).any fun j=>decide (j≠h) && decide (0 < ent tb h j)
theorem Qbd {n j:Nat} {f:Nat->Int} (q:∀ i,i < n->0<=f i) (z:j < n):f j<=Yy n f:=by
 induction n with
 | zero=>exact absurd z (cb _)
 | succ n G=>
  rw [Jh];have B:=q n (cg n)
  by_cases e:j=n
  ·subst e;have:=Q5b (f:=f) (n:=j) fun i hi=>q i (cv hi)
   omega
  ·have:=G (fun i hi=>q i (cv hi)) (by omega)
   omega
theorem Qja {n h:Nat} (f:Nat->Int) (z:h < n):Yy n f=f h + Yy n fun j=>if j≠h then f j else 0:=by
 induction n with
 | zero=>exact absurd z (cb _)
 | succ n q=>
  rw [Jh,Jh]
  by_cases e:n=h
  ·subst e;rw [bO (by simp),Wr (f:=f) (g:=fun j=>if j≠n then f j else 0) fun i hi=>by rw [bN (by omega)]]
   omega
  ·rw [bN e,q (by omega)];omega
theorem Qj8 {n h:Nat} {f:Nat->Int} (I:∀ i,i < n->0<=f i) (O:h < n):f h < Yy n f <-> ∃ j,j < n/\j≠h/\0 < f j:=by
 have e:=Qja f O;have J:∀ i,i < n->0<=(fun j=>if j≠h then f j else 0) i:=fun i hi=>by
  show 0<=if i≠h then f i else 0
  split
  ·exact I i hi
  ·exact bg _
 constructor
 ·intro q;refine Classical.byContradiction fun G=>?_
  have:Yy n (fun j=>if j≠h then f j else 0)=Yy n fun _=>0:=Wr fun i hi=>by
   by_cases z:i=h
   ·rw [bO (by simp [z])]
   ·rw [bN z];have h1:=I i hi;have h2:¬ 0 < f i:=fun q=>G ⟨i,hi,z,q⟩
    omega
  rw [Q49] at this;omega
 ·rintro ⟨j,U,B,hp⟩;have:=Qbd J U;simp only [bN B] at this;omega
theorem Qr8 {n h:Nat} {tb:List (List Int)} (w:Wt' n tb) (B:h < n):Qmz n tb h=U6 tb h:=by
 have hs:(tb.getD h []).sum=Yy (n + 1) fun j=>ent tb h j:=by
  rw [Qct,(w.sz.row B).2]; rfl
 have hp:=(Qj8 (n:=n + 1) (h:=h) (f:=fun j=>ent tb h j) (fun i hi=>w.ent_nn B (by omega)) (by omega))
 unfold Qmz U6;rw [hs,dI,dJ,decide_eq_true_iff,hp];constructor
 ·rintro ⟨j,z,q⟩;simp at q;exact ⟨j,E4.mp z,q.1,q.2⟩
 ·rintro ⟨j,z,a,b⟩;exact ⟨j,E4.mpr z,by simp [a,b]⟩
theorem Qz5 (x:Int) {n:Nat} (h:1<=n):∃ k:Nat,k < n/\x % (n:Int)=(k:Int):=by
 have:=Q6h x (b:=(n:Int)) (by omega);exact ⟨(x % (n:Int)).toNat,by omega,by omega⟩
def kn3 (tb:List (List Int)) (i:Nat) (bs:List Bool) (j:Nat):List Bool:=if bs.getD i false=true/\i≠j/\0 < ent tb i j then bs.set j true else bs
def kn2 (n:Nat) (tb:List (List Int)) (bs:List Bool) (i:Nat):List Bool:=(bU n).foldl (kn3 tb i) bs
def kn1 (n:Nat) (tb:List (List Int)) (bs:List Bool) (_:Nat):List Bool:=(bU n).foldl (kn2 n tb) bs
def Qc2 (n:Nat) (tb:List (List Int)):List Bool:=(bU n).map (Q0z tb)
def Q54 (n:Nat) (tb:List (List Int)):List Bool:=(bU n).foldl (kn1 n tb) (Qc2 n tb)
theorem Q8j {α β:Type} {f:List α->β->List α} (h:∀ bs x,(f bs x).length=bs.length):∀ (xs:List β) (bs:List α),(xs.foldl f bs).length=bs.length
 | [],_=>rfl
 | x :: xs,bs=>by rw [cu,Q8j h xs,h]
theorem Qg9 (tb:List (List Int)) (i:Nat) (bs:List Bool) (j:Nat):(kn3 tb i bs j).length=bs.length:=by
 unfold kn3; split <;> simp
theorem Qga (n:Nat) (tb:List (List Int)) (bs:List Bool) (i:Nat):(kn2 n tb bs i).length=bs.length:=Q8j (Qg9 tb i) _ _
theorem Qqm (n:Nat) (tb:List (List Int)) (bs:List Bool) (t:Nat):(kn1 n tb bs t).length=bs.length:=Q8j (Qga n tb) _ _
inductive Rc (n:Nat) (tb:List (List Int)):Nat->Prop
 | made {h:Nat}:h < n->Q0z tb h=true->Rc n tb h
 | lent {o h:Nat}:Rc n tb o->h < n->0 < ent tb o h->Rc n tb h
theorem Rc.lt {n h:Nat} {tb:List (List Int)} (r:Rc n tb h):h < n:=by cases r <;> assumption
theorem Uv {α β:Type} {f:β->α->β} {P:β->Prop}:∀ {xs:List α} {b:β},(∀ b x,x∈xs->P b->P (f b x))->P b->P (xs.foldl f b)
 | [],_,_,h=>h
 | x :: xs,b,hs,h=>Uv (xs:=xs) (fun b y j=>hs b y (D0 _ j)) (hs b x D3 h)
theorem Q8k {α β:Type} {f:β->α->β} {P Q:β->Prop} (q:∀ b y,P b->P (f b y)) (B:∀ b y,Q b->Q (f b y)) {x:α} (G:∀ b,P b->Q (f b x)):∀ {xs:List α} {b:β},x∈xs->P b->Q (xs.foldl f b)
 | [],_,j,_=>by cases j
 | y :: ys,b,j,z=>by
  rw [cu];rcases D8.mp j with rfl | j
  ·exact Uv (fun b y _=>B b y) (G b z)
  ·exact Q8k q B G j (q b y z)
def Cl (n:Nat) (tb:List (List Int)) (mem:Nat->Bool):Prop:=∀ o h,o < n->h < n->o≠h->0 < ent tb o h->mem o=true->mem h=true
def cnt (n:Nat) (mem:Nat->Bool):Int:=Yy n fun h=>if mem h=true then 1 else 0
theorem Qua (n:Nat) (mem:Nat->Bool):cnt n mem<=n:=by
 unfold cnt
 induction n with
 | zero=>exact bg _
 | succ n j=>rw [Jh]; split <;> omega
theorem Qmm {n:Nat} {m1 m2:Nat->Bool} (q:∀ h,h < n->m1 h=true->m2 h=true) {h:Nat} (z:h < n) (h1:m1 h=false) (h2:m2 h=true):cnt n m1 + 1<=cnt n m2:=by
 have e:=Qcp n (fun h=>if m2 h=true then (1:Int) else 0) (fun h=>if m1 h=true then 1 else 0)
 have l:=Qbd (n:=n) (j:=h) (f:=fun h=>(if m2 h=true then (1:Int) else 0) - (if m1 h=true then 1 else 0)) (fun i hi=>by
  have:=q i hi;cases a:m1 i <;> cases b:m2 i <;> simp_all) z
 simp only [h1,h2] at l;unfold cnt;simp at l;omega
theorem Qcr {X:Type} (n:Nat) (tb:List (List Int)) (mem:X->Nat->Bool) (f:X->Nat->X) (Inv:X->Prop) (hi:∀ x t,Inv x->Inv (f x t))
  (mono:∀ x t h,Inv x->h < n->mem x h=true->mem (f x t) h=true)
  (Y:∀ x t o h,Inv x->o < n->h < n->o≠h->0 < ent tb o h->mem x o=true->mem (f x t) h=true)
  (stay:∀ x t,Inv x->Cl n tb (mem x)->∀ h,h < n->mem (f x t) h=true->mem x h=true) (B:X) (h0:Inv B):Cl n tb (mem ((bU n).foldl f B)):=by
 have Z:∀ t:Nat,Inv ((bU t).foldl f B)/\(Cl n tb (mem ((bU t).foldl f B))\/(t:Int)<=cnt n (mem ((bU t).foldl f B))):=by
  intro t
  induction t with
  | zero=>
   refine ⟨h0,.inr ?_⟩;exact Q5b fun i _=>by split <;> omega
  | succ t U=>
   rw [cZ,List.foldl_append,cu,List.foldl_nil];obtain ⟨J,U⟩:=U;generalize (bU t).foldl f B=x at *;refine ⟨hi x t J,?_⟩;rcases Classical.em (Cl n tb (mem x)) with c | c
   ·refine .inl fun o h G z j O I=>?_
    exact mono x t h J z (c o h G z j O (stay x t J c o G I))
   ·rcases U with U | U
    ·exact absurd U c
    ·refine .inr ?_;have:∃ o h,o < n/\h < n/\o≠h/\0 < ent tb o h/\mem x o=true/\mem x h=false:=by
      refine Classical.byContradiction fun q=>c fun o h G z j O I=>?_
      cases e:mem x h with
      | true=>rfl
      | false=>exact absurd ⟨o,h,G,z,j,O,I,e⟩ q
     obtain ⟨o,h,G,z,j,O,I,hf⟩:=this;have:=Qmm (fun h z=>mono x t h J z) z hf (Y x t o h J G z j O I)
     push_cast
     omega
 obtain ⟨J,h | h⟩:=Z n
 ·exact h
 ·intro o k G hk j O I;generalize (bU n).foldl f B=x at *;cases e:mem x k with
  | true=>rfl
  | false=>
   have:=Qmm (m1:=mem x) (m2:=fun _=>true) (fun _ _ _=>rfl) hk e rfl;have h2:=Qua n fun _=>true
   omega
theorem set_get {bs:List Bool} {j h:Nat}:((bs.set j true).getD h false=true) <-> (h=j/\j < bs.length)\/bs.getD h false=true:=by
 rw [bb,di]
 by_cases e:j=h
 ·subst e
  by_cases l:j < bs.length
  ·simp [l]
  ·simp [l,bb]
 ·rw [bO e];constructor
  ·intro q; exact .inr q
  ·rintro (⟨q,_⟩ | q)
   ·exact absurd q.symm e
   ·exact q
theorem Q89 {tb:List (List Int)} {i j h:Nat} {bs:List Bool} (q:bs.getD h false=true):(kn3 tb i bs j).getD h false=true:=by
 unfold kn3
 split
 ·exact set_get.mpr (.inr q)
 ·exact q
theorem Q8a {n:Nat} {tb:List (List Int)} {i h:Nat} {bs:List Bool} (q:bs.getD h false=true):(kn2 n tb bs i).getD h false=true:=Uv (P:=fun bs:List Bool=>bs.getD h false=true) (fun _ _ _ q=>Q89 q) q
theorem Qdz {n:Nat} {tb:List (List Int)} {t h:Nat} {bs:List Bool} (q:bs.getD h false=true):(kn1 n tb bs t).getD h false=true:=Uv (P:=fun bs:List Bool=>bs.getD h false=true) (fun _ _ _ q=>Q8a q) q
theorem Qc1 (n:Nat) (tb:List (List Int)):Cl n tb fun h=>(Q54 n tb).getD h false:=by
 refine Qcr n tb (fun (bs:List Bool) h=>bs.getD h false) (kn1 n tb) (fun bs=>bs.length=n) (fun x t G=>by rw [Qqm]; exact G) (fun x t h _ _ q=>Qdz q) (fun x t o h G Z B O Y J=>?_) (fun x t G c h B J=>?_) _ (by simp [Qc2])
 ·show (kn1 n tb x t).getD h false=true;refine Q8k (P:=fun bs:List Bool=>bs.length=n/\bs.getD o false=true) (Q:=fun bs:List Bool=>bs.getD h false=true) (fun bs y q=>⟨by rw [Qga]; exact q.1,Q8a q.2⟩) (fun bs y q=>Q8a q) (x:=o) (fun bs q=>?_) (E4.mpr Z) ⟨G,J⟩;refine Q8k (P:=fun bs:List Bool=>bs.length=n/\bs.getD o false=true) (Q:=fun bs:List Bool=>bs.getD h false=true) (fun bs y q=>⟨by rw [Qg9]; exact q.1,Q89 q.2⟩) (fun bs y q=>Q89 q) (x:=h) (fun bs q=>?_) (E4.mpr B) q;unfold kn3;rw [bN ⟨q.2,O,Y⟩];exact set_get.mpr (.inl ⟨rfl,by rw [q.1]; exact B⟩)
 ·have:∀ g,g < n->(kn1 n tb x t).getD g false=true->x.getD g false=true:=by
   refine Uv (P:=fun bs:List Bool=>∀ g,g < n->bs.getD g false=true->x.getD g false=true) (fun bs i hi z=>?_) fun g _ q=>q
   refine Uv (P:=fun bs:List Bool=>∀ g,g < n->bs.getD g false=true->x.getD g false=true) (fun bs j hj z g I q=>?_) z;unfold kn3 at q
   split at q
   ·rename_i U;rcases set_get.mp q with ⟨rfl,_⟩ | q
    ·exact c i g (E4.mp hi) I U.2.1 U.2.2 (z i (E4.mp hi) U.1)
    ·exact z g I q
   ·exact z g I q
  exact this h B J
theorem Qdy (n:Nat) (tb:List (List Int)) {h:Nat} (U:h < n):(Q54 n tb).getD h false=true <-> Rc n tb h:=by
 constructor
 ·have:∀ g,g < n->(Q54 n tb).getD g false=true->Rc n tb g:=by
   refine Uv (P:=fun bs:List Bool=>∀ g,g < n->bs.getD g false=true->Rc n tb g) (fun bs t _ z=>?_) fun g B q=>?_
   ·refine Uv (P:=fun bs:List Bool=>∀ g,g < n->bs.getD g false=true->Rc n tb g) (fun bs i hi z=>?_) z;refine Uv (P:=fun bs:List Bool=>∀ g,g < n->bs.getD g false=true->Rc n tb g) (fun bs j Z z g B q=>?_) z;unfold kn3 at q
    split at q
    ·rename_i I;rcases set_get.mp q with ⟨rfl,_⟩ | q
     ·exact .lent (z i (E4.mp hi) I.1) B I.2.2
     ·exact z g B q
    ·exact z g B q
   ·unfold Qc2 at q;rw [bb,E8,F1 B] at q;exact .made B (by simpa using q)
  exact this h U
 ·intro r
  induction r with
  | made G O=>
   refine Uv (P:=fun bs:List Bool=>bs.getD _ false=true) (fun bs t _ q=>Qdz q) ?_;unfold Qc2;rw [bb,E8,F1 G];simpa using O
  | @lent o g r G Y J=>
   by_cases e:o=g
   ·subst e; exact J r.lt
   ·exact Qc1 n tb o g r.lt G e Y (J r.lt)
def RdOk (n:Nat) (fs:List Nat):Prop:=(∀ x∈fs,x < n)/\fs.Nodup
theorem Q4x:∀ {n:Nat} {fs:List Nat},(∀ x∈fs,x < n)->fs.Nodup->fs.length<=n
 | 0,[],_,_=>O8 _
 | 0,x :: _,h,_=>absurd (h x D3) (cb _)
 | n + 1,fs,h,d=>by
  by_cases q:n∈fs
  ·have h1:(fs.erase n).length<=n:=Q4x (fun x j=>by
    have h2:=(d.mem_erase_iff).mp j;have:=h x h2.2;omega) (d.erase n)
   rw [List.length_erase_of_mem q] at h1;omega
  ·have:=Q4x (n:=n) (fs:=fs) (fun x j=>by
    have:=h x j;have:x≠n:=fun e=>q (e ▸ j)
    omega) d
   omega
theorem RdOk.len {n:Nat} {fs:List Nat} (h:RdOk n fs):fs.length<=n:=Q4x h.1 h.2
def AhN (tb:List (List Int)) (fs:List Nat):Prop:=∀ k,k < fs.length->Q0z tb (fs.getD k 0)=true\/∃ o∈fs.take k,0 < ent tb o (fs.getD k 0)
theorem AhN.snoc {tb:List (List Int)} {fs:List Nat} {h:Nat} (a:AhN tb fs) (q:Q0z tb h=true\/∃ o∈fs,0 < ent tb o h):AhN tb (fs ++ [h]):=by
 intro k j;rw [O3,eZ] at j
 by_cases e:k < fs.length
 ·have:=a k e;rw [List.take_append_of_le_length (by omega)];rw [show (fs ++ [h]).getD k 0=fs.getD k 0 by rw [bb,bb,O5 e]];exact this
 ·have:k=fs.length:=by omega
  subst this;rw [show (fs ++ [h]).getD fs.length 0=h by simp [bb]];rw [List.take_left];exact q
def Q1k (fs:List Nat):List Int:=fs.map fun k:Nat=>(k:Int)
def rdS (st:Q2) (fs:List Nat):Q2:=st ++ [Cell.lst (fs.map Y6)]
theorem Qjq (st:Q2) (fs:List Nat):(rdS st fs)[st.length]?=some (.lst (fs.map Y6)):=by unfold rdS; simp
theorem Q22 (fs:List Nat):(Q1k fs).map PV.int=fs.map Y6:=by unfold Q1k; rw [G9]; rfl
theorem intsN_mem {fs:List Nat} {h:Nat}:(h:Int)∈Q1k fs <-> h∈fs:=by
 unfold Q1k;rw [cG];constructor
 ·rintro ⟨k,j,e⟩;have:k=h:=by omega
  rw [<- this]; exact j
 ·intro q; exact ⟨h,q,rfl⟩
def Ur (n:Nat) (fs:List Nat):List Nat:=(bU n).filter fun h=>!decide (h∈fs)
def Xf (n:Nat) (tb:List (List Int)) (fs:List Nat):List Nat:=(Ur n fs).filter fun h=>Q0a tb h fs
structure GdR (n:Nat) (tb:List (List Int)) (fs:List Nat):Prop where
 rd:RdOk n fs
 ah:AhN tb fs
 rc:∀ h∈fs,Rc n tb h
theorem AhN.more {tb:List (List Int)}:∀ {ds fs:List Nat},AhN tb fs->(∀ h∈ds,Q0z tb h=true\/∃ o∈fs,0 < ent tb o h)->AhN tb (fs ++ ds)
 | [],fs,a,_=>by rw [bv]; exact a
 | d :: ds,fs,a,h=>by
  rw [show fs ++ d :: ds=(fs ++ [d]) ++ ds by simp];refine AhN.more (a.snoc (h d D3)) fun g j=>?_
  rcases h g (D0 _ j) with q | ⟨o,z,q⟩
  ·exact .inl q
  ·exact .inr ⟨o,G6 _ z,q⟩
theorem Q6g {n:Nat} {tb:List (List Int)} {fs:List Nat} {h:Nat} (q:h∈Xf n tb fs):h < n/\h∉fs/\(Q0z tb h=true\/∃ o∈fs,0 < ent tb o h):=by
 obtain ⟨q1,q2⟩:=cJ.mp q;obtain ⟨q3,j⟩:=cJ.mp q1;refine ⟨E4.mp q3,by simpa using j,?_⟩;unfold Q0a Qdu at q2;rw [gS] at q2;rcases q2 with q2 | q2
 ·exact .inl q2
 ·obtain ⟨o,z,e⟩:=dJ.mp q2;rw [G8] at e;exact .inr ⟨o,z,by simpa using e.2⟩
theorem GdR.step {n:Nat} {tb:List (List Int)} {fs:List Nat} (g:GdR n tb fs):GdR n tb (fs ++ Xf n tb fs):=by
 refine ⟨⟨fun x j=>?_,?_⟩,g.ah.more fun h q=>(Q6g q).2.2,fun h j=>?_⟩
 ·rcases E9.mp j with j | j
  ·exact g.rd.1 x j
  ·exact (Q6g j).1
 ·refine dh.mpr ⟨g.rd.2,(List.nodup_range.filter _).filter _,fun a I b B e=>?_⟩;subst e;exact (Q6g B).2.1 I
 ·rcases E9.mp j with j | j
  ·exact g.rc h j
  ·obtain ⟨h1,_,h2 | ⟨o,z,G⟩⟩:=Q6g j
   ·exact .made h1 h2
   ·exact .lent (g.rc o z) h1 G
theorem GdR.closed {n:Nat} {tb:List (List Int)} {fs:List Nat} (g:GdR n tb fs) (U:Xf n tb fs=[]) {h:Nat} (Z:h < n):h∈fs <-> Rc n tb h:=by
 refine ⟨g.rc h,fun r=>?_⟩;have j:∀ k,k < n->k∉fs->Q0a tb k fs=false:=fun k J z=>by
  cases e:Q0a tb k fs with
  | false=>rfl
  | true=>
   have:k∈Xf n tb fs:=cJ.mpr ⟨cJ.mpr ⟨E4.mpr J,by simp [z]⟩,e⟩;rw [U] at this;cases this
 induction r with
 | @made k G z=>
  refine Classical.byContradiction fun q=>?_
  have:=j k G q;unfold Q0a at this;rw [z] at this;cases this
 | @lent o k r G O Y=>
  refine Classical.byContradiction fun q=>?_
  have:=j k G q;unfold Q0a Qdu at this;rw [Bool.or_eq_false_iff,fj] at this;have I:=Y r.lt;have B:o≠k:=fun e=>q (e ▸ I)
  exact this.2 o I (by simp [B,O])
theorem Qnz {n:Nat} {tb:List (List Int)} (z:Sz n tb) (hn:n<=100) (st:Q2) (fs:List Nat) (r:RdOk n fs) (b a c:Option PV):Vz [some (Q7 tb),some (.ref st.length),b,a,c] (rdS st fs)=.nx [some (Q7 tb),some (.ref st.length),some (.bl (decide (0 < (Xf n tb fs).length))),some (.lst ((Ur n fs).map Y6)),some (.lst ((Xf n tb fs).map Y6))] (rdS st (fs ++ Xf n tb fs)):=by
 have U:-1000000<=(n:Int)/\(n:Int)<=1000000:=by omega
 have a5:=r.len;have Z:=Qjq st fs;have J:ListAt (rdS st fs) (.ref st.length) ((Q1k fs).map .int):=.inr (.inr ⟨_,rfl,by rw [Q22]; exact Z⟩);have B:ListAt (rdS st fs) (.ref st.length) (fs.map Y6):=.inr (.inr ⟨_,rfl,Z⟩);have O:Yr (rdS st fs) [Q7 tb]=.ok (.int n) (rdS st fs):=by simp [Q7,z.1]
 have Y:Jt (Qn 0) Vw Xz [] (Jv [none,some 1] [some (Q7 tb),some (.ref st.length),b,a,c]) (Zb 0 n) (rdS st fs)=.ok ((Ur n fs).map Y6) (rdS st fs):=by
  rw [W8];refine Q27 _ _ _ (by simp) fun j hj=>⟨_,rfl,?_,fun ht=>?_⟩
  ·have I:=Qrr J (j:Int) true
   by_cases q:j∈fs
   ·have q':(j:Int)∈Q1k fs:=intsN_mem.mpr q;generalize rdS st fs=S at *;simp -implicitDefEqProofs [Jv,Vw,I,q,q']
   ·have q':¬ (j:Int)∈Q1k fs:=fun z=>q (intsN_mem.mp z)
    generalize rdS st fs=S at *;simp -implicitDefEqProofs [Jv,Vw,I,q,q']
  ·simp [Jv,Xz,Y6]
 have a4:(Ur n fs).length<=n:=by
  have:=fN (fun h=>!decide (h∈fs)) (bU n)
  rw [F4] at this;exact this
 have a3:∀ h∈Ur n fs,h < n:=fun h hh=>E4.mp (cJ.mp hh).1
 have a2:Jt (Qn 0) Xh Xy [] (Jv [none,some 0,some 1] [some (Q7 tb),some (.ref st.length),b,some (.lst ((Ur n fs).map Y6)),c]) ((Ur n fs).map Y6) (rdS st fs)=.ok ((Xf n tb fs).map Y6) (rdS st fs):=by
  unfold Xf;refine Q27 _ _ _ (by simp) fun j hj=>⟨_,rfl,?_,fun ht=>?_⟩
  ·have hr:=Qp0 z (h:=j) (a3 j hj) r.1 (by omega) B;generalize Q0a tb j fs=rb at *;generalize rdS st fs=S at *;generalize (Ur n fs).map Y6=ov at *;simp -implicitDefEqProofs [Jv,Xh,Y6,hr]
  ·simp [Jv,Xy,Y6]
 have a6:(Xf n tb fs).length<=n:=F3 (fN _ _) a4;have G:(rdS st fs).set st.length (.lst (fs.map Y6 ++ (Xf n tb fs).map Y6))=rdS st (fs ++ Xf n tb fs):=by
  unfold rdS;rw [D5];simp
 have l1:((Ur n fs).map Y6).length<=1000000:=by rw [O2]; omega
 have l2:(fs.map Y6).length + ((Xf n tb fs).map Y6).length<=1000000:=by rw [O2,O2]; omega
 have l3:((Xf n tb fs).map Y6).length=(Xf n tb fs).length:=O2 _;generalize rdS st (fs ++ Xf n tb fs)=S2 at *;generalize rdS st fs=S at *;generalize (Ur n fs).map Y6=ov at *;generalize (Xf n tb fs).length=fl at *;generalize (Xf n tb fs).map Y6=fv at *;generalize fs.map Y6=xv at *;rw [l3] at l2;simp -implicitDefEqProofs [Vz,O,U,Z7,Y,l1,a2,Z,Kv,chg,l2,l3,G]
theorem Qd0 {n:Nat} {tb:List (List Int)} (z:Sz n tb) (U:n<=100) (st:Q2):∀ (m j:Nat) (fs:List Nat) (a c:Option PV),GdR n tb fs->n<=fs.length + m->m + 2<=j->∃ fs' q J G,GdR n tb fs'/\Xf n tb fs'=[]/\U0 W0 Vz j [some (Q7 tb),some (.ref st.length),some (.bl true),a,c] (rdS st fs)=.nx [some (Q7 tb),some (.ref st.length),q,J,G] (rdS st fs')
 | m,0,_,_,_,_,_,h=>absurd h (by omega)
 | m,1,_,_,_,_,_,h=>absurd h (by omega)
 | m,k + 2,fs,a,c,g,hm,hf=>by
  have B:=Qnz z U st fs g.rd (some (.bl true)) a c;have O:∀ S,W0 [some (Q7 tb),some (.ref st.length),some (.bl true),a,c] S=.ok true S:=fun S=>by simp [W0]
  by_cases e:Xf n tb fs=[]
  ·refine ⟨fs,some (.bl false),some (.lst ((Ur n fs).map Y6)),some (.lst ((Xf n tb fs).map Y6)),g,e,?_⟩;rw [U0,O];simp only [Ve,if_true,B];rw [U0];have Y:∀ S,W0 [some (Q7 tb),some (.ref st.length),some (.bl (decide (0 < (Xf n tb fs).length))),some (.lst ((Ur n fs).map Y6)),some (.lst ((Xf n tb fs).map Y6))] S=.ok false S:=fun S=>by simp [W0,e]
   rw [Y];simp [e]
  ·have hp:0 < (Xf n tb fs).length:=dE.mpr e;have g':=g.step;have I:=g'.rd.len;rw [O3] at I;cases m with
   | zero=>omega
   | succ m=>
    obtain ⟨fs',q,J,G,h1,h2,Z⟩:=Qd0 z U st m (k + 1) (fs ++ Xf n tb fs) (some (.lst ((Ur n fs).map Y6))) (some (.lst ((Xf n tb fs).map Y6))) g' (by rw [O3]; omega) (by omega);refine ⟨fs',q,J,G,h1,h2,?_⟩;rw [U0,O];rw [bQ hp] at B;simp only [Ve,if_true,B];exact Z
theorem Qev {n:Nat} {tb:List (List Int)} (z:Sz n tb) (B:n<=100) (st:Q2):∃ fs,GdR n tb fs/\Xf n tb fs=[]/\Vh [some (Q7 tb),none,none,none,none] st=.rt (.ref st.length) (rdS st fs):=by
 obtain ⟨fs,I,U,O,g,e,h⟩:=Qd0 z B st n 100000 [] none none ⟨⟨fun x j=>(by cases j),gq⟩,fun k q=>absurd q (cb _),fun x j=>(by cases j)⟩ (by simp) (by omega)
 refine ⟨fs,g,e,?_⟩;have G:st ++ [Cell.lst []]=rdS st []:=rfl;generalize rdS st fs=J at *;generalize rdS st []=S1 at *;simp -implicitDefEqProofs [Vh,Z7,G,h]
theorem Qag {n:Nat} {tb:List (List Int)} (z:Sz n tb) (G:n<=100) (st:Q2):∃ fs,GdR n tb fs/\Xf n tb fs=[]/\Wj [Q7 tb] st=.ok (.lst (fs.map Y6)) st:=by
 obtain ⟨fs,g,e,h⟩:=Qev z G st;refine ⟨fs,g,e,?_⟩;have q:=Qqv (n:=st.length) (r:=st.length) (S:=rdS st fs) (hs:=Q1k fs) (O8 _) (by rw [Q22]; exact Qjq _ _);rw [Q22] at q;have j:st <+: rdS st fs:=dH _ _;generalize rdS st fs=B at *;show Qr Vh 5 [Q7 tb] st=_;unfold Qr;rw [show (([Q7 tb]:List PV).map some ++ bT (5 - [Q7 tb].length) none)=[some (Q7 tb),none,none,none,none] from rfl,h];show Sm.fin st (.ref st.length) B=_;unfold Sm.fin;rw [bN j,q];rfl
theorem Qsg {n:Nat} {tb:List (List Int)} {fs:List Nat} (g:GdR n tb fs) (I:Xf n tb fs=[]):((bU n).all fun h=>(Q54 n tb).getD h false || !U6 tb h)=(bU n).all fun h=>decide (h∈fs) || !U6 tb h:=by
 rw [dI,L5,L5];have B:∀ h,h∈bU n->(decide (h∈fs) || !U6 tb h)=((Q54 n tb).getD h false || !U6 tb h):=fun h G=>by
  have j:=E4.mp G;congr 1;rw [dI,decide_eq_true_iff,g.closed I j,Qdy n tb j]
 constructor <;> intro q x z
 ·rw [B x z]; exact q x z
 ·rw [<- B x z]; exact q x z
def Q2y (n:Nat) (tb:List (List Int)):Bool:=(bU n).all fun h=>(Q54 n tb).getD h false || !U6 tb h
theorem Qkd {n:Nat} {tb:List (List Int)} {fs:List Nat} (g:GdR n tb fs) (j:Xf n tb fs=[]):(Ur n fs).any (U6 tb)=!Q2y n tb:=by
 unfold Q2y;rw [Qsg g j];unfold Ur;rw [gr,List.any_eq_not_all_not];congr 2;funext h;rw [Bool.not_and,Bool.not_not]
theorem Q8i {α:Type} (g:α->PV) (J:Gam->Prop) (B:α->Bool) (v:α->PV) {ga:GA} {body:MS} {w:Wt} {st:Q2} (Y:wOk w st):∀ {xs:List α},(∀ x∈xs,∀ Γ,J Γ->∃ Γ1,ga (g x) Γ=some Γ1/\(B x=true->∃ j,J j/\body Γ1 st=.nx j st)/\(B x=false->body Γ1 st=.rt (v x) st)) ->
  ∀ Γ,J Γ->(xs.all B=true->∃ I,J I/\xn ga body w (xs.map g) Γ st=.nx I st)/\(xs.all B=false->∃ x∈xs,B x=false/\xn ga body w (xs.map g) Γ st=.rt (v x) st)
 | [],_,Γ,U=>⟨fun _=>⟨Γ,U,by simp [xn,Y]⟩,fun h=>by simp at h⟩
 | x :: xs,h,Γ,U=>by
  obtain ⟨Γ1,h1,h2,h3⟩:=h x D3 Γ U;rw [F5,xn,bN Y,h1];cases G:B x with
  | false=>
   refine ⟨fun z=>by simp [G] at z,fun _=>⟨x,D3,G,?_⟩⟩
   simp only [h3 G]
  | true=>
   obtain ⟨j,j2,e2⟩:=h2 G;have Z:=Q8i g J B v (ga:=ga) (body:=body) Y (xs:=xs) (fun y O=>h y (D0 _ O)) j j2
   simp only [e2,cX,G,fO];exact ⟨Z.1,fun q=>by
    obtain ⟨y,O,p,e⟩:=Z.2 q;exact ⟨y,D0 _ O,p,e⟩⟩
def Q8u (n:Nat) (tb:List (List Int)):Bool:=((bU n).all fun h=>decide (0<=Qq tb h)) && Q2y n tb
theorem Q2d {n:Nat} {tb:List (List Int)} (z:Sz n tb) (hn:n<=100) (st:Q2):∃ us:List Nat,us.length<=n/\(us=[] <-> Q2y n tb=true)/\W3 [Q7 tb] st=.ok (.lst (us.map Y6)) st:=by
 obtain ⟨fs,g,hc,e⟩:=Qag z hn st;have I:-1000000<=(n:Int)/\(n:Int)<=1000000:=by omega
 have G:Yr st [Q7 tb]=.ok (.int n) st:=by simp [Q7,z.1]
 have Z:ListAt st (.lst (fs.map Y6)) ((Q1k fs).map .int):=.inl (by rw [Q22]);have J:Jt (Qn 0) Ww Uq [] (Jv [none,some 1] [some (Q7 tb),some (.lst (fs.map Y6)),none]) (Zb 0 n) st=.ok ((Ur n fs).map Y6) st:=by
  rw [W8];refine Q27 _ _ _ (by simp) fun j hj=>⟨_,rfl,?_,fun ht=>?_⟩
  ·have U:=Qrr Z (j:Int) true
   by_cases q:j∈fs
   ·have q':(j:Int)∈Q1k fs:=intsN_mem.mpr q;generalize fs.map Y6=fv at *;simp -implicitDefEqProofs [Jv,Ww,U,q,q']
   ·have q':¬ (j:Int)∈Q1k fs:=fun z=>q (intsN_mem.mp z)
    generalize fs.map Y6=fv at *;simp -implicitDefEqProofs [Jv,Ww,U,q,q']
  ·simp [Jv,Uq,Y6]
 have a3:(Ur n fs).length<=n:=by
  have:=fN (fun h=>!decide (h∈fs)) (bU n)
  rw [F4] at this;exact this
 have a2:∀ h∈Ur n fs,h < n:=fun h hh=>E4.mp (cJ.mp hh).1
 have B:=Qkd g hc;have O:Jt (Qn 0) Ju Up [] (Jv [none,some 0] [some (Q7 tb),some (.lst (fs.map Y6)),some (.lst ((Ur n fs).map Y6))]) ((Ur n fs).map Y6) st=.ok (((Ur n fs).map (U6 tb)).map .bl) st:=by
  rw [G9];refine Yk _ _ (by simp) fun j hj=>⟨_,rfl,?_⟩
  have hb:=Qr7 z (a2 j hj) st;show _=Res.ok (PV.bl (U6 tb j)) st;generalize U6 tb j=rb at *;simp -implicitDefEqProofs [Jv,Up,Y6,hb]
 have ha:(Ur n fs).any (U6 tb)=((Ur n fs).map (U6 tb)).any id:=(Qn6 _ _).symm;have l1:((Ur n fs).map Y6).length<=1000000:=by rw [O2]; omega
 have Y:fin st (.lst ((Ur n fs).map Y6)) st=.ok (.lst ((Ur n fs).map Y6)) st:=U5 (by simp [Zv,Y6]);have a4:fin st (.lst []) st=.ok (.lst []) st:=U5 (by simp [Zv]);cases hr:Q2y n tb with
 | true=>
  refine ⟨[],by simp,by simp,?_⟩;rw [hr,ha] at B;rw [cp];generalize (Ur n fs).map (U6 tb)=bs at *;generalize (Ur n fs).map Y6=ov at *;have B:bs.any id=false:=B;simp -implicitDefEqProofs [W3,Qr,Vy,e,G,I,Z7,J,l1,O,B,a4]
 | false=>
  rw [hr] at B;refine ⟨Ur n fs,a3,⟨fun q=>?_,fun q=>by cases q⟩,?_⟩
  ·rw [q] at B; cases B
  ·rw [ha] at B;have B:((Ur n fs).map (U6 tb)).any id=true:=B;generalize (Ur n fs).map (U6 tb)=bs at *;generalize (Ur n fs).map Y6=ov at *;simp -implicitDefEqProofs [W3,Qr,Vy,e,G,I,Z7,J,l1,O,B,Y]
theorem Qig {n:Nat} {tb:List (List Int)} (z:Sz n tb) (U:n<=100) (st:Q2):∃ (s:Str) (v:PV),Wv [Q7 tb] st=.ok (.tup [.str s,v]) st/\(s == (bR "comes"))=Q8u n tb:=by
 have j:-1000000<=(n:Int)/\(n:Int)<=1000000:=by omega
 have B:∀ S,Yr S [Q7 tb]=.ok (.int n) S:=fun S=>by simp [Q7,z.1]
 have L:=Q8i (fun k:Nat=>PV.int (k:Int)) (fun Γ=>∃ a,Γ=[some (Q7 tb),a,none]) (fun h=>decide (0<=Qq tb h)) (fun h=>.tup [.str "short",.int h]) (ga:=Qn 1) (body:=X1) (w:=[]) (st:=st) (by simp) (xs:=bU n) (fun h Z Γ ⟨a,e⟩=>by
  subst e;have G:=Q4j z U (E4.mp Z) st;refine ⟨_,rfl,fun hp=>⟨[some (Q7 tb),some (.int h),none],⟨_,rfl⟩,?_⟩,fun hp=>?_⟩
  ·have Y:0<=Qq tb h:=by simpa using hp
   have:¬ (Qq tb h < 0):=by omega
   generalize Qq tb h=x at *;simp -implicitDefEqProofs [X1,G,this]
  ·have Y:¬ 0<=Qq tb h:=by simpa using hp
   have:Qq tb h < 0:=by omega
   generalize Qq tb h=x at *;simp -implicitDefEqProofs [X1,G,this,Z7])
 have L:=L [some (Q7 tb),none,none] ⟨_,rfl⟩;rw [<- W8] at L;unfold Q8u;cases ha:(bU n).all fun h=>decide (0<=Qq tb h) with
 | false=>
  obtain ⟨h,Z,hp,e⟩:=L.2 ha;refine ⟨"short",.int h,?_,by rw [fe]; decide +kernel⟩;have I:fin st (.tup [.str "short",.int h]) st=.ok (.tup [.str "short",.int h]) st:=U5 (by simp [Zv]);simp -implicitDefEqProofs [Wv,Qr,Us,B,j,Z7,e,I]
 | true=>
  obtain ⟨a2,⟨a,rfl⟩,e⟩:=L.1 ha;obtain ⟨us,hl,J,e1⟩:=Q2d z U st;cases G:Q2y n tb with
  | true=>
   have O:=J.mpr G;subst O;obtain ⟨fs,g,hc,e2⟩:=Qag z U st;refine ⟨"comes",.lst (fs.map Y6),?_,by rw [fO]; decide +kernel⟩;have I:fin st (.tup [.str "comes",.lst (fs.map Y6)]) st=.ok (.tup [.str "comes",.lst (fs.map Y6)]) st:=U5 (by simp [Zv,Y6]);rw [cp] at e1;generalize fs.map Y6=fv at *;simp -implicitDefEqProofs [Wv,Qr,Us,B,j,Z7,e,e1,e2,I]
  | false=>
   have O:us≠[]:=fun q=>by rw [J.mp q] at G; cases G
   refine ⟨"rootless",.lst (us.map Y6),?_,by rw [fO]; decide +kernel⟩;have hp:0 < (us.map Y6).length:=by rw [O2]; exact dE.mpr O
   have I:fin st (.tup [.str "rootless",.lst (us.map Y6)]) st=.ok (.tup [.str "rootless",.lst (us.map Y6)]) st:=U5 (by simp [Zv,Y6]);generalize us.map Y6=uv at *;simp -implicitDefEqProofs [Wv,Qr,Us,B,j,Z7,e,e1,hp,I]
theorem Qg5 {a b:List (List Int)} (h:a.length=b.length) (st:Q2):Z8 [Q7 a,Q7 b] st=.ok .non st:=by
 simp [Z8,Qr,Vt,Q7,h]
def Qd1 (r1 r2:List Int):Bool:=(r1.zip r2).all fun z=>decide (z.1<=z.2)
theorem Q9g (j q:List Int) (st:Q2) (G:j.length<=lim):Vm [J1 j,J1 q] st=.ok (.bl (Qd1 j q)) st:=by
 have B:Jt (y4 (W5 (Qn 0) (W5 (Qn 1) y6))) Ju K0 [] (Jv [none,none] [some (J1 j),some (J1 q)]) ((j.zip q).map fun z=>.tup [.int z.1,.int z.2]) st=.ok ((j.zip q).map fun z=>.bl (decide (z.1<=z.2))) st:=by
  refine Yk _ _ (by simp) fun z hz=>⟨_,rfl,?_⟩
  simp [Jv,K0]
 unfold J1 at B ⊢;simp [Vm,Qr,qp,G,Q13,B,Qfn,Qd1]
theorem Qi8 (r:List Int) (n:Int) (st:Q2) (q:r.length<=lim):Q1u [J1 r,.int n] st=.ok (.bl (decide ((r.length:Int)=n + 1) && r.all fun i=>decide (0<=i))) st:=by
 have j:Jt (Qn 0) Ju Q39 [] (Jv [none] [some (J1 r),some (.int n)]) (r.map .int) st=.ok (r.map fun i=>.bl (decide (0<=i))) st:=by
  refine Yk _ _ (by simp) fun i hi=>⟨_,rfl,?_⟩
  simp [Jv,Q39,Q0r]
 unfold J1 at j ⊢
 by_cases h:(r.length:Int)=n + 1 <;> simp [Q1u,Qr,Q81,isI,tyN,j,h,q,Qfn]
theorem Qe0 {n:Nat} {tb:List (List Int)} (w:Wt' n tb) (st:Q2):zr [Q7 tb] st=.ok (.bl true) st:=by
 have h1:=w.n1;have I:=w.n8;have B:Jt (Qn 0) Ju Q0v [] (Jv [none,some 0] [some (Q7 tb)]) (tb.map J1) st=.ok (tb.map fun _=>.bl true) st:=by
  refine Yk _ _ (by simp) fun r z=>⟨_,rfl,?_⟩
  have e:=w.row r z;have e2:=Qi8 r tb.length st (by rw [e,Z7]; omega);simp [Jv,Q0v,Q7,e2];rw [w.len,e];exact ⟨by omega,w.nn r z⟩
 unfold Q7 at B ⊢;have q:(1:Int)<=n:=by omega
 have j:(n:Int)<=8:=by omega
 have G:n<=1000000:=by omega
 simp [zr,Qr,Q33,isI,tyN,B,w.len,Qfn,q,j,Z7,G]
def maxI (x y:Int):Int:=if y > x then y else x
theorem Q50 (x y:Int):x<=maxI x y:=by unfold maxI; split <;> omega
theorem Qf6 (x y:Int):y<=maxI x y:=by unfold maxI; split <;> omega
theorem Qbv (x y:Int):maxI x y=x\/maxI x y=y:=by unfold maxI; split <;> simp
theorem Qar {x y:Int} (h:y<=x):maxI x y=x:=by unfold maxI; rw [bO (by omega)]
theorem Qf5 {x y:Int} (h:x<=y):maxI x y=y:=by unfold maxI; split <;> omega
def Vi (a b:List Int):List Int:=(a.zip b).map fun z=>maxI z.1 z.2
def Zu (a b:List (List Int)):List (List Int):=(a.zip b).map fun z=>Vi z.1 z.2
theorem Qa2 (a b:List Int) (G:a.length<=lim) (st:Q2):K3 [J1 a,J1 b] st=.ok (J1 (Vi a b)) st:=by
 have j:Jt (y4 (W5 (Qn 0) (W5 (Qn 1) y6))) Ju zk [] (Jv [none,none] [some (J1 a),some (J1 b)]) ((a.zip b).map fun z=>.tup [.int z.1,.int z.2]) st=.ok ((a.zip b).map fun z=>.int (maxI z.1 z.2)) st:=by
  refine Yk _ _ (by simp) fun z hz=>⟨_,rfl,?_⟩
  simp [Jv,zk,maxI]
 have e:((a.zip b).map fun z=>PV.int (maxI z.1 z.2))=(Vi a b).map .int:=by unfold Vi; rw [G9]; rfl
 rw [e] at j;have B:Zv 12 (.tup ((Vi a b).map .int))=true:=by simp [Zv]
 generalize Vi a b=q at *;unfold J1 at j ⊢;simp [K3,Qr,Q0h,G,Q13,j,U5 B]
theorem Qax {a b:List (List Int)} (h:a.length=b.length) (J:a.length<=lim) (I:∀ r∈a,r.length<=lim) (st:Q2):zq [Q7 a,Q7 b] st=.ok (Q7 (Zu a b)) st:=by
 have j:Jt (y4 (W5 (Qn 0) (W5 (Qn 1) y6))) Ju Q38 [] (Jv [none,none] [some (Q7 a),some (Q7 b)]) ((a.zip b).map fun z=>.tup [J1 z.1,J1 z.2]) st=.ok ((a.zip b).map fun z=>J1 (Vi z.1 z.2)) st:=by
  refine Yk _ _ (by simp) fun z hz=>⟨_,rfl,?_⟩
  have:=Qa2 z.1 z.2 (I _ (cj hz).1) st;simp [Jv,Q38,this]
 have e:((a.zip b).map fun z=>J1 (Vi z.1 z.2))=(Zu a b).map J1:=by unfold Zu; rw [G9]; rfl
 rw [e] at j;have B:=Qg5 h st;have G:Zv 12 (.tup ((Zu a b).map J1))=true:=by simp [Zv,J1]
 generalize Zu a b=q at *;unfold Q7 at j B ⊢;simp [zq,Qr,Q80,J,Q13,j,B,U5 G]
theorem Qi6 {a b:List Int} (h:a.length=b.length):(Vi a b).length=a.length:=by unfold Vi; simp [h]
theorem Qnk {n:Nat} {a b:List (List Int)} (j:Sz n a) (q:Sz n b):Sz n (Zu a b):=by
 refine ⟨by unfold Zu; simp [j.1,q.1],fun r B=>?_⟩;obtain ⟨z,hz,rfl⟩:=cG.mp B;have:=cj hz;rw [Qi6 (by rw [j.2 _ this.1,q.2 _ this.2]),j.2 _ this.1]
theorem Wp {n i j:Nat} {a b:List (List Int)} (q:Sz n a) (G:Sz n b) (hi:i < n) (B:j<=n):ent (Zu a b) i j=maxI (ent a i j) (ent b i j):=by
 have I:=q.row hi;have rb:=G.row hi;have ca:=q.cell hi B;have J:=G.cell hi B;have e1:(Zu a b).getD i []=Vi (a.getD i []) (b.getD i []):=by
  unfold Zu;rw [bb,E8,(dl (z:=(a.getD i [],b.getD i []))).mpr ⟨I.1,rb.1⟩];rfl
 have e2:(Vi (a.getD i []) (b.getD i []))[j]?=some (maxI (ent a i j) (ent b i j)):=by
  unfold Vi;rw [E8,(dl (z:=(ent a i j,ent b i j))).mpr ⟨ca,J⟩];rfl
 unfold ent;rw [e1,bb,e2];rfl
def Kt (n:Nat):List Int:=bT (n + 1) 0
theorem Qnb {n:Nat} (h1:1<=n) (z:n<=8):Wt' n (bT n (Kt n)):=by
 refine ⟨by simp,fun r j=>?_,fun r j x q=>?_,h1,z⟩
 ·rw [fP j]; simp [Kt]
 ·rw [fP j] at q;rw [fP q];exact bg _
def Kb (tb:List (List Int)) (i j:Nat) (x:Int):List (List Int):=tb.set i ((tb.getD i []).set j x)
theorem Q0t {n i j:Nat} {tb:List (List Int)} (z:Sz n tb) (hi:i < n) (I:j<=n) (x:Int) (a b:Nat):ent (Kb tb i j x) a b=if a=i/\b=j then x else ent tb a b:=by
 unfold ent Kb;have J:=(z.row hi).2
 by_cases G:a=i
 ·subst G;rw [show (tb.set a ((tb.getD a []).set j x)).getD a []=(tb.getD a []).set j x by rw [bb,D7 (by rw [z.1]; exact hi)]; rfl]
  by_cases B:b=j
  ·subst B;rw [bN ⟨rfl,rfl⟩,bb,D7 (by omega)]; rfl
  ·rw [bO (fun q=>B q.2),bb,O6 (fun q=>B q.symm)]; rfl
 ·rw [bO (fun q=>G q.1)];rw [show (tb.set i ((tb.getD i []).set j x)).getD a []=tb.getD a [] by rw [bb,O6 (fun q=>G q.symm)]; rfl]
theorem Q6q (n i:Nat) (k:Int):Yy n (fun o=>if o=i then k else 0)=if i < n then k else 0:=by
 induction n with
 | zero=>rfl
 | succ n j=>
  rw [Jh,j]
  by_cases e:n=i
  ·subst e; simp
  ·rw [bO e]
   by_cases h:i < n
   ·rw [bN h,bN (by omega)]; omega
   ·rw [bO h,bO (by omega)]; omega
theorem Qp6 {n i j:Nat} {tb:List (List Int)} (z:Sz n tb) (hi:i < n) (x:Int):Sz n (Kb tb i j x):=by
 unfold Kb;refine ⟨by rw [D4]; exact z.1,fun r q=>?_⟩;rcases dz q with q | rfl
 ·exact z.2 r q
 ·rw [D4]; exact (z.row hi).2
theorem Q7a {n i j:Nat} {tb:List (List Int)} (z:Sz n tb) (hi:i < n) (I:j<=n) (k:Int) {h:Nat} (G:h < n) :
  Qq (Kb tb i j (ent tb i j + k)) h=Qq tb h + (if h=j then k else 0) - (if h=i then k else 0) + (if h=i/\j=i then k else 0):=by
 have O:=Qp6 (j:=j) z hi (ent tb i j + k);have B:∀ a b,ent (Kb tb i j (ent tb i j + k)) a b=ent tb a b + if a=i/\b=j then k else 0:=fun a b=>by
  rw [Q0t z hi I]
  split
  ·rename_i q; rw [q.1,q.2]
  ·omega
 rw [V9 O G,V9 z G];have U:Yy n (fun o=>ent (Kb tb i j (ent tb i j + k)) o h)=Yy n (fun o=>ent tb o h) + if h=j then k else 0:=by
  rw [Wr (g:=fun o=>ent tb o h + if o=i then (if h=j then k else 0) else 0) fun o _=>by
   rw [B]
   by_cases q1:o=i <;> by_cases q2:h=j <;> simp [q1,q2],Qcq,Q6q,bN hi]
 have J:Yy n (fun b=>ent (Kb tb i j (ent tb i j + k)) h b) + ent (Kb tb i j (ent tb i j + k)) h n=Yy n (fun b=>ent tb h b) + ent tb h n + if h=i then k else 0:=by
  rw [<- Jh,<- Jh,Wr (g:=fun b=>ent tb h b + if b=j then (if h=i then k else 0) else 0) fun b _=>by
   rw [B]
   by_cases q1:h=i <;> by_cases q2:b=j <;> simp [q1,q2],Qcq,Q6q,bN (by omega)]
 rw [U,J,B]
 by_cases q1:h=i <;> by_cases q2:j=i <;> by_cases q3:h=j <;> simp [q1,q2,q3] <;> omega
structure Ca (n:Nat) (tb:List (List Int)):Prop where
 nn:∀ h,h < n->0<=Qq tb h
 bz:∀ h,h < n->U6 tb h=true->Rc n tb h
theorem Ca.comes {n:Nat} {tb:List (List Int)} (c:Ca n tb):Q8u n tb=true:=by
 unfold Q8u Q2y;rw [G8,L5,L5];refine ⟨fun h j=>by simp [c.nn h (E4.mp j)],fun h j=>?_⟩;have j:=E4.mp j;cases q:U6 tb h with
 | false=>simp
 | true=>rw [(Qdy n tb j).mpr (c.bz h j q)]; rfl
theorem Rc.mono {n:Nat} {t1 t2:List (List Int)} (h:∀ a b,a < n->b < n->ent t1 a b<=ent t2 a b) {g:Nat} (r:Rc n t1 g):Rc n t2 g:=by
 induction r with
 | @made k j q=>
  refine .made j ?_;unfold Q0z at *;have:=h k k j j;simp at q;simp; omega
 | @lent o k r j B z=>
  have:=h o k r.lt j;exact .lent z j (by omega)
theorem Ky {n:Nat} {tb:List (List Int)} (w:Wt' n tb) {h:Nat} (B:h < n):U6 tb h=true <-> ∃ j,j<=n/\j≠h/\0 < ent tb h j:=by
 rw [<- Qr8 w B];unfold Qmz;rw [dJ];constructor
 ·rintro ⟨j,z,q⟩;simp at q;exact ⟨j,by have:=E4.mp z; omega,q.1,q.2⟩
 ·rintro ⟨j,z,q1,q2⟩;exact ⟨j,E4.mpr (by omega),by simp [q1,q2]⟩
theorem Ca.rc_of {n:Nat} {tb:List (List Int)} (w:Wt' n tb) (c:Ca n tb) {i:Nat} (hi:i < n) (J:1<=Qq tb i):Rc n tb i:=by
 rw [V9 w.sz hi] at J;have I:ent tb i i<=Yy n (fun j=>ent tb i j):=Qbd (fun j O=>w.ent_nn hi (E7 O)) hi
 have U:=w.ent_nn hi (O8 n);have:∃ o,o < n/\0 < ent tb o i:=by
  refine Classical.byContradiction fun q=>?_
  have:Yy n (fun o=>ent tb o i)=Yy n fun _=>0:=Wr fun o B=>by
   have h1:=w.ent_nn B (E7 hi);have h2:¬ 0 < ent tb o i:=fun z=>q ⟨o,B,z⟩
   omega
  rw [Q49] at this;omega
 obtain ⟨o,B,G⟩:=this
 by_cases e:o=i
 ·subst e;exact .made hi (by unfold Q0z; simp [G])
 ·exact .lent (c.bz o B ((Ky w B).mpr ⟨i,E7 hi,fun z=>e z.symm,G⟩)) hi G
theorem Ca.make {n i:Nat} {tb:List (List Int)} (w:Wt' n tb) (c:Ca n tb) (hi:i < n) {k:Int} (O:0<=k) (J:Wt' n (Kb tb i i (ent tb i i + k))):Ca n (Kb tb i i (ent tb i i + k)):=by
 have B:∀ a b,ent tb a b<=ent (Kb tb i i (ent tb i i + k)) a b:=fun a b=>by
  rw [Q0t w.sz hi (E7 hi)]
  split
  ·rename_i q; rw [q.1,q.2]; omega
  ·omega
 refine ⟨fun h z=>?_,fun h z G=>?_⟩
 ·rw [Q7a w.sz hi (E7 hi) k z];have:=c.nn h z
  by_cases q:h=i <;> simp [q] at * <;> omega
 ·obtain ⟨j,I,q1,q2⟩:=(Ky J z).mp G;rw [Q0t w.sz hi (E7 hi)] at q2;rw [bO (fun q=>q1 (by omega))] at q2
  exact (c.bz h z ((Ky w z).mpr ⟨j,I,q1,q2⟩)).mono fun a b _ _=>B a b
theorem Ca.give {n i j:Nat} {tb:List (List Int)} (w:Wt' n tb) (c:Ca n tb) (hi:i < n) (U:j<=n) (G:j≠i) {k:Int} (hk:0<=k) (hr:k<=Qq tb i) (J:1<=Qq tb i) (Z:Wt' n (Kb tb i j (ent tb i j + k))):Ca n (Kb tb i j (ent tb i j + k)):=by
 have I:∀ a b,ent tb a b<=ent (Kb tb i j (ent tb i j + k)) a b:=fun a b=>by
  rw [Q0t w.sz hi U]
  split
  ·rename_i q; rw [q.1,q.2]; omega
  ·omega
 refine ⟨fun h B=>?_,fun h B Y=>?_⟩
 ·rw [Q7a w.sz hi U k B];have:=c.nn h B
  by_cases q:h=i
  ·subst q;rw [bO (fun z=>G z.symm),bN rfl,bO (fun z=>G z.2)];omega
  ·by_cases q2:h=j
   ·rw [bN q2,bO q,bO (fun z=>q z.1)]; omega
   ·rw [bO q2,bO q,bO (fun z=>q z.1)]; omega
 ·by_cases q:h=i
  ·subst q;exact (c.rc_of w hi J).mono fun a b _ _=>I a b
  ·obtain ⟨b,O,q1,q2⟩:=(Ky Z B).mp Y;rw [Q0t w.sz hi U,bO (fun z=>q z.1)] at q2;exact (c.bz h B ((Ky w B).mpr ⟨b,O,q1,q2⟩)).mono fun a b _ _=>I a b
theorem Ca.zero {n:Nat} (h1:1<=n) (U:n<=8) (w:Wt' n (bT n (Kt n))):Ca n (bT n (Kt n)):=by
 have B:∀ a b,a < n->b<=n->ent (bT n (Kt n)) a b=0:=fun a b O I=>by
  unfold ent Kt;rw [show (bT n (bT (n + 1) (0:Int))).getD a []=bT (n + 1) 0 by rw [bb,G7,bN O]; rfl];rw [bb,G7,bN (by omega)]; rfl
 refine ⟨fun h z=>?_,fun h z I=>?_⟩
 ·rw [V9 w.sz z,Wr (g:=fun _=>0) fun o G=>B o h G (E7 z),Wr (f:=fun j=>ent (bT n (Kt n)) h j) (g:=fun _=>0) fun o G=>B h o z (E7 G),Q49,B h n z (O8 n),B h h z (E7 z)]
  omega
 ·obtain ⟨j,J,_,q⟩:=(Ky w z).mp I;rw [B h j z J] at q;omega
theorem Qr0 {n:Nat} {tb:List (List Int)} (w:Wt' n tb) (st:Q2):Wq [Q7 tb] st=.ok (.bl (Q8u n tb)) st:=by
 have q:=w.n8;obtain ⟨s,v,e,hs⟩:=Qig w.sz (by omega) st;have j:=Qe0 w st;rw [<- hs];generalize Q7 tb=T at *;simp -implicitDefEqProofs [Wq,Qr,Xq,j,e,atI,ixN]
theorem Wt'.set0 {n i j:Nat} {tb:List (List Int)} (w:Wt' n tb) (hi:i < n) {x:Int} (J:0<=x):Wt' n (tb.set i ((tb.getD i []).set j x)):=by
 have I:=(w.sz.row hi).1;have G:=D2 I;generalize tb.getD i []=r at *;refine ⟨by rw [D4]; exact w.len,fun q z=>?_,fun q z y B=>?_,w.n1,w.n8⟩
 ·rcases dz z with z | rfl
  ·exact w.row q z
  ·rw [D4]; exact w.row r G
 ·rcases dz z with z | rfl
  ·exact w.nn q z y B
  ·rcases dz B with B | rfl
   ·exact w.nn r G y B
   ·exact J
theorem Q66 {α:Type} (xs:List α) (i:Nat) (x:α) (h:i < xs.length):xs.take i ++ [x] ++ xs.drop (i + 1)=xs.set i x:=by
 rw [List.set_eq_take_append_cons_drop,bN h,F8]; rfl
theorem Qhe {n i j:Nat} {tb:List (List Int)} (z:Sz n tb) (hn:n<=100) (hi:i < n) (hj:j<=n) (k:Int) (st:Q2):Q1t [Q7 tb,.int i,.int j,.int k] st=.ok (Q7 (Kb tb i j (ent tb i j + k))) st:=by
 have I:=jh z hi hj st;have q:=(z.row hi).2;have g1:J1 ((tb.getD i []).set j (ent tb i j + k))=.tup (((tb.getD i []).take j).map .int ++ [.int (ent tb i j + k)] ++ ((tb.getD i []).drop (j + 1)).map .int):=by
  unfold J1;rw [<- Q66 _ _ _ (by omega),D5,D5]; rfl
 have g2:Q7 (Kb tb i j (ent tb i j + k))=.tup ((tb.take i).map J1 ++ [J1 ((tb.getD i []).set j (ent tb i j + k))] ++ (tb.drop (i + 1)).map J1):=by
  unfold Q7 Kb;rw [<- Q66 _ _ _ (by rw [z.1]; exact hi),D5,D5]; rfl
 have c3:cut ((tb.getD i []).map PV.int) none (some (j:Int))=((tb.getD i []).take j).map .int:=by rw [y8,jm]
 have U:cut ((tb.getD i []).map PV.int) (some ((j:Int) + 1)) none=((tb.getD i []).drop (j + 1)).map .int:=by rw [y8]; exact congrArg _ (Q1n _ (j + 1))
 have c5:cut (tb.map J1) none (some (i:Int))=(tb.take i).map J1:=by rw [y8,jm]
 have c6:cut (tb.map J1) (some ((i:Int) + 1)) none=(tb.drop (i + 1)).map J1:=by rw [y8]; exact congrArg _ (Q1n _ (i + 1))
 have l3:(((tb.getD i []).take j).map PV.int).length=j:=by rw [O2,cC,q]; omega
 have O:(((tb.getD i []).drop (j + 1)).map PV.int).length=n - j:=by rw [O2,cV,q]; omega
 have l5:((tb.take i).map J1).length=i:=by rw [O2,cC,z.1]; omega
 have J:((tb.drop (i + 1)).map J1).length=n - (i + 1):=by rw [O2,cV,z.1]
 have b1:j + 1<=1000000:=by omega
 have b2:j + 1 + (n - j)<=1000000:=by omega
 have Z:i + 1<=1000000:=by omega
 have b4:i + 1 + (n - (i + 1))<=1000000:=by omega
 have B:fin st (Q7 (Kb tb i j (ent tb i j + k))) st=.ok (Q7 (Kb tb i j (ent tb i j + k))) st:=U5 (by simp [Zv,Q7,J1]);obtain ⟨Y,c2⟩:=I;have q1:oSl st (J1 (tb.getD i [])) none (some (j:Int))=.ok (.tup (((tb.getD i []).take j).map .int)) st:=by unfold J1; rw [zy,c3]
 have q2:oSl st (J1 (tb.getD i [])) (some ((j:Int) + 1)) none=.ok (.tup (((tb.getD i []).drop (j + 1)).map .int)) st:=by unfold J1; rw [zy,U]
 have q3:oSl st (Q7 tb) none (some (i:Int))=.ok (.tup ((tb.take i).map J1)) st:=by unfold Q7; rw [zy,c5]
 have G:oSl st (Q7 tb) (some ((i:Int) + 1)) none=.ok (.tup ((tb.drop (i + 1)).map J1)) st:=by unfold Q7; rw [zy,c6]
 rw [g2] at B ⊢;rw [g1] at B ⊢;generalize ent tb i j=x at *;generalize ((tb.getD i []).take j).map PV.int=v3 at *;generalize ((tb.getD i []).drop (j + 1)).map PV.int=v4 at *;generalize (tb.take i).map J1=v5 at *;generalize (tb.drop (i + 1)).map J1=v6 at *;generalize J1 (tb.getD i [])=rv at *;generalize Q7 tb=T at *;simp -implicitDefEqProofs at B;simp -implicitDefEqProofs [Q1t,Qr,Q7y,Y,c2,q1,q2,q3,G,Z7,l3,O,l5,J,b1,b2,Z,b4,B]
inductive Dd where
 | mk (h:Nat) (k:Int)
 | ld (h q:Nat) (k:Int)
 | us (h:Nat) (k:Int)
def Dd.h:Dd->Nat
 | .mk h _=>h
 | .ld h _ _=>h
 | .us h _=>h
def Dd.k:Dd->Int
 | .mk _ k=>k
 | .ld _ _ k=>k
 | .us _ k=>k
def Dd.pl (n:Nat):Dd->Nat
 | .mk h _=>h
 | .ld _ q _=>q
 | .us _ _=>n
def Dd.isM:Dd->Bool
 | .mk _ _=>true
 | _=>false
def Dd.V:Dd->PV
 | .mk h k=>.tup [.str "make",.int h,.int k]
 | .ld h q k=>.tup [.str "lend",.int h,.int q,.int k]
 | .us h k=>.tup [.str "use",.int h,.int k]
def Dd.ok (n:Nat):Dd->Prop
 | .mk h k=>h < n/\1<=k
 | .ld h q k=>h < n/\q < n/\q≠h/\1<=k
 | .us h k=>h < n/\1<=k
theorem Dd.ok_h {n:Nat} {d:Dd} (o:d.ok n):d.h < n:=by cases d <;> exact o.1
theorem Dd.ok_k {n:Nat} {d:Dd} (o:d.ok n):1<=d.k:=by
 cases d with
 | mk h k=>exact o.2
 | ld h q k=>exact o.2.2.2
 | us h k=>exact o.2
theorem Dd.ok_pl {n:Nat} {d:Dd} (o:d.ok n):d.pl n<=n:=by
 cases d with
 | mk h k=>exact E7 o.1
 | ld h q k=>exact E7 o.2.1
 | us h k=>exact O8 n
theorem Vv (x:Str) (ns:List Int) (O:ns.length<=100) (st:Q2):Qk [.tup (.str x :: ns.map .int)] st=.ok (.bl true) st:=by
 have I:cut (PV.str x :: ns.map .int) (some 1) none=ns.map .int:=Q1n _ 1;have q:Jt (Qn 0) Ju V4 [] (Jv [none] [some (.tup (.str x :: ns.map .int))]) (ns.map .int) st=.ok (ns.map fun _=>.bl true) st:=by
  refine Yk _ _ (by simp) fun i _=>⟨_,rfl,?_⟩
  simp [Jv,V4,Q0r]
 have e:(ns.map fun _=>PV.bl true)=(ns.map fun _=>true).map PV.bl:=by rw [G9]; rfl
 have G:(ns.map fun _=>true).all id=true:=by simp
 have a0:atI (PV.str x :: ns.map .int) 0=some (.str x):=Sm.atI_get (show (PV.str x :: ns.map .int)[0]?=some (.str x) from rfl);have j:(ns.map PV.int).length<=1000000:=by rw [O2]; omega
 rw [e] at q;have B:isI "tuple" (.tup (.str x :: ns.map .int))=true:=rfl;have z:isI "str" (.str x)=true:=rfl;have hz:¬ (((ns.map PV.int).length:Int) + 1=0):=by omega
 generalize (ns.map fun _=>true)=bs at *;generalize ns.map PV.int=J at *;simp -implicitDefEqProofs [Qk,Qr,Vu,B,z,a0,I,q,G,Z7,j,hz,-G8]
theorem Qsb:¬ (bR "make" = bR "lend"):=by decide
theorem Qep:¬ (bR "lend" = bR "make"):=by decide
theorem Qem:¬ (bR "use" = bR "make"):=by decide
theorem Qen:¬ (bR "use" = bR "lend"):=by decide
theorem Q8d {n:Nat} {d:Dd} (o:d.ok n) (st:Q2):W4 [d.V] st=.ok (.bl true) st:=by
 have j:=Dd.ok_k o;cases d with
 | mk h k=>
  have t:=Vv "make" [h,k] (by simp) st;have a0:atI [PV.str "make",.int h,.int k] 0=some (.str "make"):=rfl;have a1:atI [PV.str "make",.int h,.int k] (-1)=some (.int k):=rfl;have j:(1:Int)<=k:=j;have t:Qk [.tup [.str "make",.int h,.int k]] st=.ok (.bl true) st:=t;unfold Dd.V;simp -implicitDefEqProofs [W4,Qr,Ue,t,a0,a1,j]
 | ld h q k=>
  have t:=Vv "lend" [h,q,k] (by simp) st;have a0:atI [PV.str "lend",.int h,.int q,.int k] 0=some (.str "lend"):=rfl;have a1:atI [PV.str "lend",.int h,.int q,.int k] (-1)=some (.int k):=rfl;have j:(1:Int)<=k:=j;have t:Qk [.tup [.str "lend",.int h,.int q,.int k]] st=.ok (.bl true) st:=t;unfold Dd.V;simp -implicitDefEqProofs [W4,Qr,Ue,t,a0,a1,j,Qep]
 | us h k=>
  have t:=Vv "use" [h,k] (by simp) st;have a0:atI [PV.str "use",.int h,.int k] 0=some (.str "use"):=rfl;have a1:atI [PV.str "use",.int h,.int k] (-1)=some (.int k):=rfl;have j:(1:Int)<=k:=j;have t:Qk [.tup [.str "use",.int h,.int k]] st=.ok (.bl true) st:=t;unfold Dd.V;simp -implicitDefEqProofs [W4,Qr,Ue,t,a0,a1,j,Qem,Qen]
theorem Qdi {n:Nat} {tb:List (List Int)} (J:tb.length=n) {d:Dd} (o:d.ok n) (st:Q2):Jb [Q7 tb,d.V] st=.ok .non st:=by
 have I:Q2i (fun ns=>.bl (ns.all id)) st [.lst [.bl true]]=.ok (.bl true) st:=Q8x _ st [true]
 have B:Q2i (fun ns=>.bl (ns.all id)) st [.lst [.bl true,.bl true]]=.ok (.bl true) st:=Q8x _ st [true,true]
 have z:∀ i:Nat,i < n->Yp [Q7 tb,.int i] st=.ok (.bl true) st:=fun i hi=>by
  have:=Q1i (V:=Q7 tb) (n:=n) (st:=st) (by simp [Q7,J]) (i:Int);rw [show (decide ((0:Int)<=(i:Int)) && decide ((i:Int) < (n:Int)))=true by simp; omega] at this;exact this
 cases d with
 | mk h k=>
  have e:=z h o.1;have s1:cut [PV.str "make",.int h,.int k] (some 1) (some (-1))=[.int h]:=rfl;have a0:atI [PV.str "make",.int h,.int k] 0=some (.str "make"):=rfl;unfold Dd.V;generalize Q7 tb=T at *;simp -implicitDefEqProofs [Jb,Qr,Ys,s1,a0,Jt,Qn,Ju,Jv,W2,I,B,e,Z7,Qsb]
 | ld h q k=>
  have e:=z h o.1;have e2:=z q o.2.1;have s1:cut [PV.str "lend",.int h,.int q,.int k] (some 1) (some (-1))=[.int h,.int q]:=rfl;have a0:atI [PV.str "lend",.int h,.int q,.int k] 0=some (.str "lend"):=rfl;have a1:atI [PV.int (h:Int),.int q] 0=some (.int h):=rfl;have O:atI [PV.int (h:Int),.int q] 1=some (.int q):=rfl;have G:((h:Int) == (q:Int))=false:=by rw [beq_eq_false_iff_ne]; have:=o.2.2.1; omega
  have j:¬ ((h:Int)=(q:Int)):=by have:=o.2.2.1; omega
  unfold Dd.V;generalize Q7 tb=T at *;simp -implicitDefEqProofs [Jb,Qr,Ys,s1,a0,a1,O,Jt,Qn,Ju,Jv,W2,I,B,e,e2,Z7,G,j]
 | us h k=>
  have e:=z h o.1;have s1:cut [PV.str "use",.int h,.int k] (some 1) (some (-1))=[.int h]:=rfl;have a0:atI [PV.str "use",.int h,.int k] 0=some (.str "use"):=rfl;unfold Dd.V;generalize Q7 tb=T at *;simp -implicitDefEqProofs [Jb,Qr,Ys,s1,a0,Jt,Qn,Ju,Jv,W2,I,B,e,Z7,Qen]
theorem Qk1 {n:Nat} {tb:List (List Int)} (j:tb.length=n) {d:Dd} (o:d.ok n) (st:Q2):Wg [Q7 tb,d.V] st=.ok (.int (d.pl n)) st:=by
 cases d with
 | mk h k=>
  have a0:atI [PV.str "make",.int h,.int k] 0=some (.str "make"):=rfl;have a1:atI [PV.str "make",.int h,.int k] 1=some (.int h):=rfl;unfold Dd.V Dd.pl;generalize Q7 tb=T at *;simp -implicitDefEqProofs [Wg,Qr,U4,a0,a1]
 | ld h q k=>
  have a0:atI [PV.str "lend",.int h,.int q,.int k] 0=some (.str "lend"):=rfl;have a1:atI [PV.str "lend",.int h,.int q,.int k] 2=some (.int q):=rfl;unfold Dd.V Dd.pl;generalize Q7 tb=T at *;simp -implicitDefEqProofs [Wg,Qr,U4,a0,a1,Qep]
 | us h k=>
  have a0:atI [PV.str "use",.int h,.int k] 0=some (.str "use"):=rfl;have z:(tb.map J1).length=n:=by rw [O2]; exact j
  unfold Dd.V Dd.pl Q7;generalize tb.map J1=T at *;simp -implicitDefEqProofs [Wg,Qr,U4,a0,z,Qem,Qen]
def Dd.fits (tb:List (List Int)) (d:Dd):Bool:=d.isM || decide (d.k<=Qq tb d.h)
def Dd.put (n:Nat) (tb:List (List Int)) (d:Dd):List (List Int):=Kb tb d.h (d.pl n) (ent tb d.h (d.pl n) + d.k)
theorem Dd.a0 (d:Dd) (st:Q2):∃ w:Str,oIx st d.V (.int 0)=.ok (.str w) st/\(w = "make" <-> d.isM=true):=by
 cases d with
 | mk h k=>exact ⟨"make",rfl,by simp [Dd.isM]⟩
 | ld h q k=>exact ⟨"lend",rfl,by simp [Dd.isM,Qep]⟩
 | us h k=>exact ⟨"use",rfl,by simp [Dd.isM,Qem]⟩
theorem Dd.a1 (d:Dd) (st:Q2):oIx st d.V (.int 1)=.ok (.int d.h) st:=by cases d <;> rfl
theorem Dd.al (d:Dd) (st:Q2):oIx st d.V (.int (-1))=.ok (.int d.k) st:=by cases d <;> rfl
theorem Qc9 {n:Nat} {tb:List (List Int)} (w:Wt' n tb) {d:Dd} (o:d.ok n) (st:Q2):zt [Q7 tb,d.V] st=if d.fits tb=true then .ok (Q7 (d.put n tb)) st else .exc ⟨"Short",some ("had",.int (Qq tb d.h))⟩ st:=by
 have h8:=w.n8;have e1:=Q8d o st;have e2:=Qdi w.len o st;have e3:=Q4j w.sz (by omega) (Dd.ok_h o) st;have e4:=Qk1 w.len o st;have e5:=Qhe w.sz (by omega) (Dd.ok_h o) (Dd.ok_pl o) d.k st;obtain ⟨x,J,B⟩:=d.a0 st;have U:=d.a1 st;have O:=d.al st;have a2:st <+: st:=cY _;have Y:fin st (Q7 (d.put n tb)) st=.ok (Q7 (d.put n tb)) st:=U5 (by simp [Zv,Q7,J1]);have G:Qmb st ⟨"Short",some ("had",.int (Qq tb d.h))⟩ st=.exc ⟨"Short",some ("had",.int (Qq tb d.h))⟩ st:=by simp [Qmb,fz]
 unfold Dd.put Dd.fits at *;generalize Q7 (Kb tb d.h (d.pl n) (ent tb d.h (d.pl n) + d.k))=V2 at *;generalize Qq tb d.h=r at *;generalize Q7 tb=T at *;generalize d.V=DV at *;generalize (d.pl n:Int)=pl at *;generalize d.k=k at *;cases I:d.isM with
 | true=>
  have B:x = "make" := B.mpr I;subst B;simp -implicitDefEqProofs [zt,Qr,Q82,e1,e2,e4,e5,J,U,O,Y]
 | false=>
  have q:¬ x = "make" := fun z=>by rw [B.mp z] at I; cases I
  by_cases Z:k<=r
  ·have j:¬ r < k:=by omega
   simp -implicitDefEqProofs [zt,Qr,Q82,e1,e2,e3,e4,e5,J,U,O,Y,q,Z,j]
  ·have j:r < k:=by omega
   simp -implicitDefEqProofs [zt,Qr,Q82,e1,e2,e3,J,U,O,G,q,Z,j]
theorem Qg {a b:MS} {Γ Γ1:Gam} {S S1:Q2} {r:SR} (h1:a Γ S=.nx Γ1 S1) (h2:b Γ1 S1=r):Qp a b Γ S=r:=by rw [Qdq,h1]; exact h2
theorem J0 {i:Nat} {m:ME} {Γ:Gam} {S S1:Q2} {v:PV} (h:m Γ S=.ok v S1):J9 i m Γ S=.nx (Γ.set i (some v)) S1:=by rw [Qqa,h]; rfl
theorem Qu {n:Nat} {F:FN} {mr:ML} {Γ:Gam} {S S1 j:Q2} {ps:List PV} {v:PV} (h1:mr Γ S=.ok ps S1) (h2:ps.length=n) (q:F ps S1=.ok v j):Qj n F mr Γ S=.ok v j:=by rw [Qas,h1,J2,bN h2,q]
theorem Qb {o:OP} {a b:ME} {Γ:Gam} {S S1 j q:Q2} {x y v:PV} (h1:a Γ S=.ok x S1) (h2:b Γ S1=.ok y j) (z:o j x y=.ok v q):mOp o a b Γ S=.ok v q:=by rw [Qtr,h1,J2,h2,J2,z]
theorem Q5 {m:ME} {mr:ML} {Γ:Gam} {S S1 j:Q2} {p:PV} {ps:List PV} (h1:m Γ S=.ok p S1) (h2:mr Γ S1=.ok ps j):Q4 m mr Γ S=.ok (p :: ps) j:=by rw [Qkw,h1,J2,h2,J2]
theorem Uw {o:CF} {mr:ML} {Γ:Gam} {S S1 j:Q2} {ps:List PV} {v:PV} (h1:mr Γ S=.ok ps S1) (h2:o S1 ps=.ok v j):Jc o mr Γ S=.ok v j:=by rw [Qkx,h1,J2,h2]
theorem zh {ga:GA} {mi:MI} {b:MS} {Γ:Gam} {S S1:Q2} {xs:List PV} {w:Wt} {r:SR} (h1:mi Γ S=.ok (xs,w) S1) (h2:xn ga b w xs Γ S1=r):Q2h ga mi b Γ S=r:=by rw [Qqc,h1]; exact h2
theorem zu {c:MT} {a b:MS} {Γ:Gam} {S S1:Q2} {r:SR} (h1:c Γ S=.ok true S1) (h2:a Γ S1=r):Yt c a b Γ S=r:=by rw [Qg8,h1]; exact h2
theorem V3 {c:MT} {a b:MS} {Γ:Gam} {S S1:Q2} {r:SR} (h1:c Γ S=.ok false S1) (h2:b Γ S1=r):Yt c a b Γ S=r:=by rw [Qg8,h1]; exact h2
theorem Qug {ga:GA} {m:ME} {Γ Γ1:Gam} {S S1:Q2} {p:PV} (h1:m Γ S=.ok p S1) (h2:ga p Γ=some Γ1):Qqf ga m Γ S=.nx Γ1 S1:=by rw [Qqe,h1]; show (match ga p Γ with | some Γ1=>SR.nx Γ1 S1 | none=>.stuck)=_; rw [h2]
theorem Qcv {m:ME} {Γ:Gam} {S S1:Q2} {p:PV} {xs:List PV} {w:Wt} (h1:m Γ S=.ok p S1) (h2:Xb S1 p=some (xs,w)) (j:xs.length<=1000000):Q0n m Γ S=.ok (xs,w) S1:=by rw [Qqb,h1,J2,h2]; exact bN j
theorem yc {m:ML} {Γ:Gam} {S S1:Q2} {ps:List PV} (h:m Γ S=.ok ps S1):Xe m Γ S=.ok (.lst ps) S1:=by rw [Qq7,h,J2]
theorem Uh {cap:List (Option Nat)} {ga:GA} {mi:MI} {mt:MT} {me:ME} {Γ:Gam} {S S1 j:Q2} {xs ys:List PV} {w:Wt} (h1:mi Γ S=.ok (xs,w) S1) (h2:Jt ga mt me w (Jv cap Γ) xs S1=.ok ys j):Y3 cap ga mi mt me Γ S=.ok ys j:=by rw [Qi1,h1,J2,h2]; rfl
theorem qe {m:ML} {Γ:Gam} {S S1:Q2} {ps:List PV} (h:m Γ S=.ok ps S1):xi m Γ S=.ok (.ref S1.length) (S1 ++ [.lst ps]):=by rw [Qq9,h,J2]
theorem Qkk {t:MT} {Γ:Gam} {S S1:Q2} {b:Bool} (h:t Γ S=.ok b S1):Ku t Γ S=.ok (!b) S1:=by rw [Qjd,h,J2]
theorem J6 {m:ME} {Γ:Gam} {S S1:Q2} {b:Bool} (h:m Γ S=.ok (.bl b) S1):toB m Γ S=.ok b S1:=by rw [Qs5,h]; rfl
theorem Q71 {mo mi m:ME} {Γ:Gam} {S S1 j q z:Q2} {p o i:PV} (h1:m Γ S=.ok p S1) (h2:mo Γ S1=.ok o j) (B:mi Γ j=.ok i q) (G:Q15 q o i p=some z):Q0m mo mi m Γ S=.nx Γ z:=by
 rw [Qhz,h1,Ve,h2,Ve,B,Ve,G]
theorem Q1s {f:MF} {mo:ME} {mr:ML} {Γ:Gam} {S S1 j q:Q2} {p v:PV} {xs ps:List PV} (h1:mo Γ S=.ok p S1) (h2:yx S1 p=some xs) (z:mr Γ S1=.ok ps j) (B:f j p ps=.ok v q):Wh (mBM f mo mr) Γ S=.nx Γ q:=by
 rw [Q84,Qky,h1,J2];simp only [h2];rw [z,J2,B,Ve]
theorem Q0s {m:ME} {Γ:Gam} {S S1:Q2} {v:PV} (h:m Γ S=.ok v S1):Wh m Γ S=.nx Γ S1:=by rw [Q84,h]; rfl
theorem Qw3 {a b:MT} {Γ:Gam} {S S1:Q2} (h:a Γ S=.ok true S1):Q5m a b Γ S=.ok true S1:=by rw [Qfs,h]; rfl
theorem Qpv {a b:MT} {Γ:Gam} {S S1:Q2} {r:Res Bool} (h:a Γ S=.ok false S1) (h2:b Γ S1=r):Q5m a b Γ S=r:=by rw [Qfs,h]; exact h2
theorem jr {a b:MS} {Γ:Gam} {S S1:Q2} {v:PV} (h:a Γ S=.rt v S1):Qp a b Γ S=.rt v S1:=by rw [Qdq,h]
theorem U1 {mr:ML} {Γ:Gam} {S S1:Q2} {ps:List PV} (h1:mr Γ S=.ok ps S1) (h2:ps.length<=1000000):Uf mr Γ S=.ok (.tup ps) S1:=by rw [Qq8,h1,J2]; exact bN h2
theorem Qmp {n:Nat} {F:FN} {mr:ML} {Γ:Gam} {S S1 j:Q2} {ps:List PV} {x:Exc} (h1:mr Γ S=.ok ps S1) (h2:ps.length=n) (q:F ps S1=.exc x j):Qj n F mr Γ S=.exc x j:=by rw [Qas,h1,J2,bN h2,q]
theorem Q4w {C:aA} {S:Q2} {i:Nat} {fs:List (Str × PV)} (h:S[i]?=some (.obj C fs)):Q2k C S (.ref i)=some (i,fs):=by
 unfold Q2k;simp only [h,if_true]
theorem qq {C:aA} {f:Str} {mo:ME} {Γ:Gam} {S:Q2} {i:Nat} {fs:List (Str × PV)} {q:PV} (h1:mo Γ S=.ok (.ref i) S) (h2:S[i]?=some (.obj C fs)) (j:fs.lookup f=some q):Ug C f mo Γ S=.ok q S:=by
 rw [Qqd,h1,J2,Q4w h2];simp only [j]
theorem qz {C:aA} {f:Str} {mo m:ME} {Γ:Gam} {S S1:Q2} {i:Nat} {fs:List (Str × PV)} {p:PV} (h1:m Γ S=.ok p S1) (h2:mo Γ S1=.ok (.ref i) S1) (j:S1[i]?=some (.obj C fs)) (q:fs.length < 1000):xj C f mo m Γ S=.nx Γ (S1.set i (.obj C (xg f p fs))):=by
 rw [Qdr,h1,Ve,h2,Ve,Q4w j];exact bN q
theorem Qeq {C:aA} {f:Str} {mo m:ME} {Γ:Gam} {S S1:Q2} {x:Exc} (h1:m Γ S=.exc x S1):xj C f mo m Γ S=.exc x S1:=by
 rw [Qdr,h1]; rfl
theorem zz {C:aA} {x:Str} {n:Nat} {F:FN} {mo:ME} {mr:ML} {Γ:Gam} {S S1:Q2} {i:Nat} {fs:List (Str × PV)} {ps:List PV} (h1:mo Γ S=.ok (.ref i) S) (h2:S[i]?=some (.obj C fs)) (j:fs.lookup x=none) (q:mr Γ S=.ok ps S1) (z:ps.length + 1=n):xk C x n F mo mr Γ S=F (.ref i :: ps) S1:=by
 rw [Qku,h1,J2,Q4w h2];simp only [j,if_true];rw [q,J2,bN z]
def hsF (h:Nat) (now last:List (List Int)):List (Str × PV):=[("number",.int h),("now",Q7 now),("kept",Q7 last)]
theorem s1:((bR "now") == (bR "number"))=false:=by decide +kernel
theorem s2:((bR "kept") == (bR "number"))=false:=by decide +kernel
theorem s3:((bR "kept") == (bR "now"))=false:=by decide +kernel
theorem s1':¬ (bR "number" = bR "now"):=by decide +kernel
theorem s2':¬ (bR "number" = bR "kept"):=by decide +kernel
theorem s3':¬ (bR "now" = bR "kept"):=by decide +kernel
theorem Q23 (h:Nat) (a b:List (List Int)):(hsF h a b).lookup (bR "number")=some (.int h):=by unfold hsF; rw [E6,beq_self_eq_true]
theorem Q56 (h:Nat) (a b:List (List Int)):(hsF h a b).lookup (bR "now")=some (Q7 a):=by unfold hsF; rw [E6,s1,E6,beq_self_eq_true]
theorem Qgc (h:Nat) (a b:List (List Int)):(hsF h a b).lookup (bR "kept")=some (Q7 b):=by unfold hsF; rw [E6,s2,E6,s3,E6,beq_self_eq_true]
theorem Q3j (h:Nat) (a b c:List (List Int)):xg "now" (Q7 c) (hsF h a b)=hsF h c b:=by
 unfold hsF;rw [xg,bO s1',xg,bN rfl]
theorem Qju (h:Nat) (a b c:List (List Int)):xg "kept" (Q7 c) (hsF h a b)=hsF h a c:=by
 unfold hsF;rw [xg,bO s2',xg,bO s3',xg,bN rfl]
theorem Q57 (h:Nat) (a b:List (List Int)):(hsF h a b).length < 1000:=by unfold hsF; simp
theorem y3 {x:Str} (h1:(x == (bR "number"))=false) (h2:(x == (bR "now"))=false) (j:(x == (bR "kept"))=false) (h:Nat) (a b:List (List Int)):(hsF h a b).lookup x=none:=by
 unfold hsF;rw [E6,h1,E6,h2,E6,j]; rfl
section
variable {C:aA} {S:Q2} {i h n:Nat} {now last:List (List Int)}
def Q5s (C:aA) (S:Q2) (i n:Nat) (now last:List (List Int)) (d:Dd):Res PV:=if d.fits now=true then .ok .non (S.set i (.obj C (hsF d.h (d.put n now) last))) else .exc ⟨"Short",some ("had",.int (Qq now d.h))⟩ S
theorem Qq5 (j:S[i]?=some (.obj C (hsF h now last))) (w:Wt' n now) {k:Int} (o:(Dd.mk h k).ok n):K6 C [.ref i,.int k] S=Q5s C S i n now last (.mk h k):=by
 have e:=Qc9 w o S;have B:(Ug C "now" (Q3 0)) [some (.ref i),some (.int k)] S=.ok (Q7 now) S:=qq rfl j (Q56 _ _ _);have G:(Ug C "number" (Q3 0)) [some (.ref i),some (.int k)] S=.ok (.int h) S:=qq rfl j (Q23 _ _ _);have z:(Q4 (Ug C "now" (Q3 0)) (Q4 (Uf (Q4 (mC (.str "make")) (Q4 (Ug C "number" (Q3 0)) (Q4 (Q3 1) Qa)))) Qa)) [some (.ref i),some (.int k)] S=.ok [Q7 now,(Dd.mk h k).V] S:=Q5 B (Q5 (U1 (Q5 rfl (Q5 G rfl)) (by simp)) rfl);unfold Q5s;show Yq (ja C) 2 _ S=_;unfold Yq;rw [show (([.ref i,.int k]:List PV).map some ++ bT (2 - [PV.ref i,.int k].length) none)=[some (.ref i),some (.int k)] from rfl];unfold ja
 by_cases q:(Dd.mk h k).fits now=true
 ·rw [bN q] at e ⊢;rw [qz (Qu (n:=2) z rfl e) rfl j (Q57 _ _ _),Q3j]; rfl
 ·rw [bO q] at e ⊢;rw [Qeq (Qmp (n:=2) z rfl e)]
theorem Qqh (j:S[i]?=some (.obj C (hsF h now last))) (w:Wt' n now) {t:Nat} {k:Int} (o:(Dd.ld h t k).ok n):K7 C [.ref i,.int t,.int k] S=Q5s C S i n now last (.ld h t k):=by
 have e:=Qc9 w o S;have B:(Ug C "now" (Q3 0)) [some (.ref i),some (.int t),some (.int k)] S=.ok (Q7 now) S:=qq rfl j (Q56 _ _ _);have G:(Ug C "number" (Q3 0)) [some (.ref i),some (.int t),some (.int k)] S=.ok (.int h) S:=qq rfl j (Q23 _ _ _);have z:(Q4 (Ug C "now" (Q3 0)) (Q4 (Uf (Q4 (mC (.str "lend")) (Q4 (Ug C "number" (Q3 0)) (Q4 (Q3 1) (Q4 (Q3 2) Qa))))) Qa)) [some (.ref i),some (.int t),some (.int k)] S=.ok [Q7 now,(Dd.ld h t k).V] S:=Q5 B (Q5 (U1 (Q5 rfl (Q5 G rfl)) (by simp)) rfl);unfold Q5s;show Yq (jb C) 3 _ S=_;unfold Yq;rw [show (([.ref i,.int t,.int k]:List PV).map some ++ bT (3 - [PV.ref i,.int t,.int k].length) none)=[some (.ref i),some (.int t),some (.int k)] from rfl];unfold jb
 by_cases q:(Dd.ld h t k).fits now=true
 ·rw [bN q] at e ⊢;rw [qz (Qu (n:=2) z rfl e) rfl j (Q57 _ _ _),Q3j]; rfl
 ·rw [bO q] at e ⊢;rw [Qeq (Qmp (n:=2) z rfl e)]
theorem Qs0 (j:S[i]?=some (.obj C (hsF h now last))) (w:Wt' n now) {k:Int} (o:(Dd.us h k).ok n):qc C [.ref i,.int k] S=Q5s C S i n now last (.us h k):=by
 have e:=Qc9 w o S;have B:(Ug C "now" (Q3 0)) [some (.ref i),some (.int k)] S=.ok (Q7 now) S:=qq rfl j (Q56 _ _ _);have G:(Ug C "number" (Q3 0)) [some (.ref i),some (.int k)] S=.ok (.int h) S:=qq rfl j (Q23 _ _ _);have z:(Q4 (Ug C "now" (Q3 0)) (Q4 (Uf (Q4 (mC (.str "use")) (Q4 (Ug C "number" (Q3 0)) (Q4 (Q3 1) Qa)))) Qa)) [some (.ref i),some (.int k)] S=.ok [Q7 now,(Dd.us h k).V] S:=Q5 B (Q5 (U1 (Q5 rfl (Q5 G rfl)) (by simp)) rfl);unfold Q5s;show Yq (y0 C) 2 _ S=_;unfold Yq;rw [show (([.ref i,.int k]:List PV).map some ++ bT (2 - [PV.ref i,.int k].length) none)=[some (.ref i),some (.int k)] from rfl];unfold y0
 by_cases q:(Dd.us h k).fits now=true
 ·rw [bN q] at e ⊢;rw [qz (Qu (n:=2) z rfl e) rfl j (Q57 _ _ _),Q3j]; rfl
 ·rw [bO q] at e ⊢;rw [Qeq (Qmp (n:=2) z rfl e)]
theorem Qqn (j:S[i]?=some (.obj C (hsF h now last))):K8 C [.ref i] S=.ok .non (S.set i (.obj C (hsF h now now))):=by
 show Yq (jc C) 1 _ S=_;unfold Yq jc;rw [show (([.ref i]:List PV).map some ++ bT (1 - [PV.ref i].length) none)=[some (.ref i)] from rfl,qz (qq rfl j (Q56 _ _ _)) rfl j (Q57 _ _ _),Qju]
theorem Qqx (j:S[i]?=some (.obj C (hsF h now last))):K9 C [.ref i] S=.ok .non (S.set i (.obj C (hsF h last last))):=by
 show Yq (jd C) 1 _ S=_;unfold Yq jd;rw [show (([.ref i]:List PV).map some ++ bT (1 - [PV.ref i].length) none)=[some (.ref i)] from rfl,qz (qq rfl j (Qgc _ _ _)) rfl j (Q57 _ _ _),Q3j]
theorem Qc7 (S:Q2) (a:List (List Int)):fin S (Q7 a) S=.ok (Q7 a) S:=U5 (by simp [Zv,Q7,J1])
theorem Qi3 (j:S[i]?=some (.obj C (hsF h now last))):V5 C [.ref i] S=.ok (Q7 last) S:=by
 show Qr (Xr C) 1 _ S=_;unfold Qr Xr;rw [show (([.ref i]:List PV).map some ++ bT (1 - [PV.ref i].length) none)=[some (.ref i)] from rfl,Q3w,qq rfl j (Qgc _ _ _)];exact Qc7 S last
theorem Qjc (j:S[i]?=some (.obj C (hsF h now last))):Uz C [.ref i] S=.ok (Q7 now) S:=by
 show Qr (Kn C) 1 _ S=_;unfold Qr Kn;rw [show (([.ref i]:List PV).map some ++ bT (1 - [PV.ref i].length) none)=[some (.ref i)] from rfl,Q3w,qq rfl j (Q56 _ _ _)];exact Qc7 S now
end
theorem Qr3 {C:aA} {S:Q2} {i h n:Nat} {now last L:List (List Int)} (G:S[i]?=some (.obj C (hsF h now last))) (w:Wt' n now) (q:Wt' n L) (O:h < n) (z:Qd1 (L.getD h []) (now.getD h [])=true):Ka C [.ref i,Q7 L] S=.ok .non (S.set i (.obj C (hsF h (Zu now L) last))):=by
 have h8:=w.n8;have j:lim=1000000:=rfl;have B:(Ug C "now" (Q3 0)) [some (.ref i),some (Q7 L)] S=.ok (Q7 now) S:=qq rfl G (Q56 _ _ _);have J:(Ug C "number" (Q3 0)) [some (.ref i),some (Q7 L)] S=.ok (.int h) S:=qq rfl G (Q23 _ _ _);have e1:=Qg5 (a:=now) (b:=L) (by rw [w.len,q.len]) S;have I:L[h]?=some (L.getD h []):=getD_some (by rw [q.len]; exact O) [];have gN:now[h]?=some (now.getD h []):=getD_some (by rw [w.len]; exact O) [];have Y:oIx S (Q7 L) (.int h)=.ok (J1 (L.getD h [])) S:=by
  have:oIx S (Q7 L) (.int h)=okO S (atI (L.map J1) (h:Int)):=rfl;rw [this,Kq,Sm.atI_get I]; rfl
 have U:oIx S (Q7 now) (.int h)=.ok (J1 (now.getD h [])) S:=by
  have:oIx S (Q7 now) (.int h)=okO S (atI (now.map J1) (h:Int)):=rfl;rw [this,Kq,Sm.atI_get gN]; rfl
 have Z:∀ r∈now,r.length<=lim:=fun r z=>by rw [w.sz.2 r z,j]; omega
 have e2:=Q9g (L.getD h []) (now.getD h []) S (by rw [q.sz.2 _ (D2 I),j]; omega);rw [z] at e2;have e3:=Qax (a:=now) (b:=L) (by rw [w.len,q.len]) (by rw [w.len,j]; omega) Z S;have step:je C [some (.ref i),some (Q7 L)] S=.nx [some (.ref i),some (Q7 L)] (S.set i (.obj C (xg "now" (Q7 (Zu now L)) (hsF h now last)))):=
  Qg (Q0s (Qu (n:=2) (Q5 B rfl) rfl e1)) (Qg (V3 (Qkk (J6 (Qu (n:=2) (Q5 (Qb rfl J Y) (Q5 (Qb B J U) rfl)) rfl e2))) rfl) (qz (Qu (n:=2) (Q5 B rfl) rfl e3) rfl G (Q57 _ _ _)))
 rw [Q3j] at step;show Yq (je C) 2 _ S=_;unfold Yq;rw [show (([.ref i,Q7 L]:List PV).map some ++ bT (2 - [PV.ref i,Q7 L].length) none)=[some (.ref i),some (Q7 L)] from rfl,step]
abbrev Tab:=List (List Int)
inductive Dx where
 | own (d:Dd)
 | kp (i:Nat)
 | fl (i:Nat)
 | sd (i:Nat)
 | cm (l i:Nat)
def Dx.V:Dx->PV
 | .own d=>d.V
 | .kp i=>.tup [.str "keep",.int i]
 | .fl i=>.tup [.str "fall",.int i]
 | .sd i=>.tup [.str "send",.int i]
 | .cm l i=>.tup [.str "come",.int l,.int i]
structure RS where
 now:List Tab
 last:List Tab
 le:List Tab
def Dx.ok (n:Nat) (s:RS):Dx->Prop
 | .own d=>d.ok n
 | .kp i=>i < n
 | .fl i=>i < n
 | .sd i=>i < n
 | .cm l i=>l < s.le.length/\i < n
def Jw (n:Nat) (s:RS):Dx->RS
 | .own d=>if d.fits (s.now.getD d.h [])=true then ⟨s.now.set d.h (d.put n (s.now.getD d.h [])),s.last,s.le⟩ else s
 | .kp i=>⟨s.now,s.last.set i (s.now.getD i []),s.le⟩
 | .fl i=>⟨s.now.set i (s.last.getD i []),s.last,s.le⟩
 | .sd i=>⟨s.now,s.last,s.le ++ [s.last.getD i []]⟩
 | .cm l i=>⟨s.now.set i (Zu (s.now.getD i []) (s.le.getD l [])),s.last,s.le⟩
def Qa6 (s:RS):Dx->PV
 | .own d=>if d.fits (s.now.getD d.h [])=true then .str "done" else .int (Qq (s.now.getD d.h []) d.h)
 | _=>.str "done"
structure RI (n:Nat) (s:RS):Prop where
 ln:s.now.length=n
 ll:s.last.length=n
 wn:∀ i,i < n->Wt' n (s.now.getD i [])
 wl:∀ i,i < n->Wt' n (s.last.getD i [])
 we:∀ L∈s.le,Wt' n L
 up:∀ i j,i < n->j<=n->ent (s.last.getD i []) i j<=ent (s.now.getD i []) i j
 bn:∀ a i j,a < n->i < n->a≠i->j<=n->ent (s.now.getD a []) i j<=ent (s.last.getD i []) i j
 bl:∀ a i j,a < n->i < n->j<=n->ent (s.last.getD a []) i j<=ent (s.last.getD i []) i j
 be:∀ L∈s.le,∀ i j,i < n->j<=n->ent L i j<=ent (s.last.getD i []) i j
theorem Jd {α:Type} {xs:List α} {i:Nat} (hi:i < xs.length) (v d:α) (j:Nat):(xs.set i v).getD j d=if j=i then v else xs.getD j d:=by
 rw [F7,di,F7]
 by_cases q:i=j
 ·subst q; rw [bN rfl,bN hi,bN rfl]; rfl
 ·rw [bO q,bO (fun z=>q z.symm)]
theorem Qjt {n:Nat} {tb:Tab} (w:Wt' n tb) {d:Dd} (o:d.ok n):Wt' n (d.put n tb):=by
 unfold Dd.put Kb;refine Wt'.set0 w (Dd.ok_h o) ?_;have h1:=w.ent_nn (Dd.ok_h o) (Dd.ok_pl o);have h2:=Dd.ok_k o;omega
theorem Q69 {n:Nat} {tb:Tab} (w:Wt' n tb) {d:Dd} (o:d.ok n) (a b:Nat):ent tb a b<=ent (d.put n tb) a b/\(a≠d.h->ent (d.put n tb) a b=ent tb a b):=by
 unfold Dd.put;rw [Q0t w.sz (Dd.ok_h o) (Dd.ok_pl o)];have h2:=Dd.ok_k o;refine ⟨?_,fun h=>bO fun z=>h z.1⟩
 split
 ·rename_i z; rw [z.1,z.2]; omega
 ·exact bg _
theorem Qc3 {n:Nat} {a b:Tab} (q:Wt' n a) (z:Wt' n b):Wt' n (Zu a b):=by
 refine Wt'.of_ent (Qnk q.sz z.sz) q.n1 q.n8 fun i j hi B=>?_
 rw [Wp q.sz z.sz hi B];exact bi (q.ent_nn hi B) (Q50 _ _)
theorem RI.step {n:Nat} {s:RS} (r:RI n s) {x:Dx} (o:x.ok n s):RI n (Jw n s x):=by
 cases x with
 | own d=>
  have O:=Dd.ok_h o;unfold Jw
  by_cases q:d.fits (s.now.getD d.h [])=true
  ·simp only [bN q];have w:=r.wn d.h O;have I:d.h < s.now.length:=by rw [r.ln]; exact O
   refine ⟨by simp only [D4]; exact r.ln,r.ll,fun i hi=>?_,r.wl,r.we,fun i j hi B=>?_,fun a i j U hi G B=>?_,r.bl,r.be⟩
   ·simp only [Jd I]
    split
    ·exact Qjt w o
    ·exact r.wn i hi
   ·simp only [Jd I]
    split
    ·rename_i z; subst z;exact bi (r.up _ j hi B) (Q69 w o _ _).1
    ·exact r.up i j hi B
   ·simp only [Jd I]
    split
    ·rename_i z; subst z;rw [(Q69 w o i j).2 (fun z=>G z.symm)];exact r.bn _ i j U hi G B
    ·exact r.bn a i j U hi G B
  ·simp only [bO q]; exact r
 | kp J=>
  have O:J < n:=o;have I:J < s.last.length:=by rw [r.ll]; exact O
  refine ⟨r.ln,by simp only [Jw,D4]; exact r.ll,r.wn,fun i hi=>?_,r.we,fun i j hi B=>?_,fun a i j U hi G B=>?_,fun a i j U hi B=>?_,fun L Y i j hi B=>?_⟩
  ·simp only [Jw,Jd I]
   split
   ·exact r.wn J O
   ·exact r.wl i hi
  ·simp only [Jw,Jd I]
   split
   ·rename_i z; subst z; exact bg _
   ·exact r.up i j hi B
  ·simp only [Jw,Jd I]
   split
   ·rename_i z; subst z;exact bi (r.bn a i j U hi G B) (r.up i j hi B)
   ·exact r.bn a i j U hi G B
  ·simp only [Jw,Jd I];have Z:ent (s.last.getD a []) i j<=ent (s.last.getD i []) i j:=r.bl a i j U hi B
   split
   ·rename_i z; subst z
    split
    ·rename_i z2; subst z2; exact bg _
    ·rename_i z2;exact r.bn _ i j U hi (fun z=>z2 z.symm) B
   ·split
    ·rename_i z2; subst z2;exact bi Z (r.up _ j hi B)
    ·exact Z
  ·simp only [Jw,Jd I];have Z:=r.be L Y i j hi B
   split
   ·rename_i z; subst z;exact bi Z (r.up _ j hi B)
   ·exact Z
 | fl J=>
  have O:J < n:=o;have I:J < s.now.length:=by rw [r.ln]; exact O
  refine ⟨by simp only [Jw,D4]; exact r.ln,r.ll,fun i hi=>?_,r.wl,r.we,fun i j hi B=>?_,fun a i j U hi G B=>?_,r.bl,r.be⟩
  ·simp only [Jw,Jd I]
   split
   ·exact r.wl J O
   ·exact r.wn i hi
  ·simp only [Jw,Jd I]
   split
   ·rename_i z; subst z; exact bg _
   ·exact r.up i j hi B
  ·simp only [Jw,Jd I]
   split
   ·rename_i z; subst z; exact r.bl _ i j U hi B
   ·exact r.bn a i j U hi G B
 | sd J=>
  have O:J < n:=o;refine ⟨r.ln,r.ll,r.wn,r.wl,fun L Y=>?_,r.up,r.bn,r.bl,fun L Y i j hi B=>?_⟩
  ·rcases E9.mp Y with h | h
   ·exact r.we L h
   ·rw [cc.mp h]; exact r.wl J O
  ·rcases E9.mp Y with h | h
   ·exact r.be L h i j hi B
   ·rw [cc.mp h]; exact r.bl J i j O hi B
 | cm l J=>
  obtain ⟨a2,O⟩:=o;have I:J < s.now.length:=by rw [r.ln]; exact O
  have Y:s.le.getD l []∈s.le:=D2 (getD_some a2 []);have wL:=r.we _ Y;have wN:=r.wn J O;refine ⟨by simp only [Jw,D4]; exact r.ln,r.ll,fun i hi=>?_,r.wl,r.we,fun i j hi B=>?_,fun a i j U hi G B=>?_,r.bl,r.be⟩
  ·simp only [Jw,Jd I]
   split
   ·exact Qc3 wN wL
   ·exact r.wn i hi
  ·simp only [Jw,Jd I]
   split
   ·rename_i z; subst z;rw [Wp wN.sz wL.sz hi B];exact bi (r.up _ j hi B) (Q50 _ _)
   ·exact r.up i j hi B
  ·simp only [Jw,Jd I]
   split
   ·rename_i z; subst z;rw [Wp wN.sz wL.sz hi B];have Z:=r.bn _ i j U hi G B;have b2:=r.be _ Y i j hi B;rcases Qbv (ent (s.now.getD a []) i j) (ent (s.le.getD l []) i j) with e | e
    ·rw [e]; exact Z
    ·rw [e]; exact b2
   ·exact r.bn a i j U hi G B
theorem RI.row {n:Nat} {s:RS} (r:RI n s) {L:Tab} (J:L∈s.le) {i:Nat} (hi:i < n):Qd1 (L.getD i []) ((s.now.getD i []).getD i [])=true:=by
 unfold Qd1;rw [L5];intro z hz;obtain ⟨j,B⟩:=List.mem_iff_getElem?.mp hz;rw [dl] at B;have I:=r.we L J;have U:=r.wn i hi;have O:L[i]?=some (L.getD i []):=getD_some (by rw [I.len]; exact hi) [];have Y:=I.row _ (D2 O);have q:j<=n:=by have:=(O0.mp B.1).1; omega
 have G:=bi (r.be L J i j hi q) (r.up i j hi q);unfold ent at G;rw [F7,B.1,F7,B.2] at G;simpa using G
theorem Q41 (S:Q2) (a:Str):oEq S (.str a) (.str a)=.ok (.bl true) S:=by simp
theorem qy {a b:Str} (S:Q2) (h:¬ a=b):oEq S (.str a) (.str b)=.ok (.bl false) S:=by simp [h]
theorem Zf:¬ (bR "make" = bR "lend"):=by decide +kernel
theorem Yd:¬ (bR "make" = bR "use"):=by decide +kernel
theorem Jz:¬ (bR "make" = bR "keep"):=by decide +kernel
theorem Z0:¬ (bR "make" = bR "fall"):=by decide +kernel
theorem Jy:¬ (bR "make" = bR "send"):=by decide +kernel
theorem Z1:¬ (bR "make" = bR "come"):=by decide +kernel
theorem Ji:¬ (bR "lend" = bR "make"):=by decide +kernel
theorem Y2:¬ (bR "lend" = bR "use"):=by decide +kernel
theorem Z3:¬ (bR "lend" = bR "keep"):=by decide +kernel
theorem Z4:¬ (bR "lend" = bR "fall"):=by decide +kernel
theorem Z2:¬ (bR "lend" = bR "send"):=by decide +kernel
theorem Z5:¬ (bR "lend" = bR "come"):=by decide +kernel
theorem Z6:¬ (bR "use" = bR "make"):=by decide +kernel
theorem Zy:¬ (bR "use" = bR "lend"):=by decide +kernel
theorem Zz:¬ (bR "use" = bR "keep"):=by decide +kernel
theorem Y0:¬ (bR "use" = bR "fall"):=by decide +kernel
theorem Zx:¬ (bR "use" = bR "send"):=by decide +kernel
theorem Y1:¬ (bR "use" = bR "come"):=by decide +kernel
theorem Zh:¬ (bR "keep" = bR "make"):=by decide +kernel
theorem Zi:¬ (bR "keep" = bR "lend"):=by decide +kernel
theorem Ye:¬ (bR "keep" = bR "use"):=by decide +kernel
theorem Zj:¬ (bR "keep" = bR "fall"):=by decide +kernel
theorem Zg:¬ (bR "keep" = bR "send"):=by decide +kernel
theorem Zk:¬ (bR "keep" = bR "come"):=by decide +kernel
theorem Zn:¬ (bR "fall" = bR "make"):=by decide +kernel
theorem Zp:¬ (bR "fall" = bR "lend"):=by decide +kernel
theorem Yf:¬ (bR "fall" = bR "use"):=by decide +kernel
theorem Jp:¬ (bR "fall" = bR "keep"):=by decide +kernel
theorem Zm:¬ (bR "fall" = bR "send"):=by decide +kernel
theorem Zq:¬ (bR "fall" = bR "come"):=by decide +kernel
theorem Zc:¬ (bR "send" = bR "make"):=by decide +kernel
theorem Zd:¬ (bR "send" = bR "lend"):=by decide +kernel
theorem Yc:¬ (bR "send" = bR "use"):=by decide +kernel
theorem Jm:¬ (bR "send" = bR "keep"):=by decide +kernel
theorem Jn:¬ (bR "send" = bR "fall"):=by decide +kernel
theorem Ze:¬ (bR "send" = bR "come"):=by decide +kernel
theorem Zr:¬ (bR "come" = bR "make"):=by decide +kernel
theorem Zs:¬ (bR "come" = bR "lend"):=by decide +kernel
theorem Yg:¬ (bR "come" = bR "use"):=by decide +kernel
theorem Jr:¬ (bR "come" = bR "keep"):=by decide +kernel
theorem Js:¬ (bR "come" = bR "fall"):=by decide +kernel
theorem Jq:¬ (bR "come" = bR "send"):=by decide +kernel
theorem zi (S:Q2) (k:Int):oEq S (.int k) .non=.ok (.bl false) S:=rfl
def Dx.oth:Dx->Bool
 | .own _=>false
 | _=>true
theorem Qdb (x:Dx) (S:Q2):J8 [x.V] S=.ok (.bl x.oth) S:=by
 cases x with
 | own d=>
  cases d with
  | mk h k=>
   have t:Qk [.tup [.str "make",.int h,.int k]] S=.ok (.bl true) S:=Vv "make" [h,k] (by simp) S;have a0:atI [PV.str "make",.int h,.int k] 0=some (.str "make"):=rfl;unfold Dx.V Dd.V Dx.oth;simp -implicitDefEqProofs [J8,Qr,Y9,jf,zi,t,a0,Zf,Yd,Jz,Z0,Jy,Z1,Ji,Y2,Z3,Z4,Z2,Z5,Z6,Zy,Zz,Y0,Zx,Y1,Zh,Zi,Ye,Zj,Zg,Zk,Zn,Zp,Yf,Jp,Zm,Zq,Zc,Zd,Yc,Jm,Jn,Ze,Zr,Zs,Yg,Jr,Js,Jq]
  | ld h q k=>
   have t:Qk [.tup [.str "lend",.int h,.int q,.int k]] S=.ok (.bl true) S:=Vv "lend" [h,q,k] (by simp) S;have a0:atI [PV.str "lend",.int h,.int q,.int k] 0=some (.str "lend"):=rfl;unfold Dx.V Dd.V Dx.oth;simp -implicitDefEqProofs [J8,Qr,Y9,jf,zi,t,a0,Zf,Yd,Jz,Z0,Jy,Z1,Ji,Y2,Z3,Z4,Z2,Z5,Z6,Zy,Zz,Y0,Zx,Y1,Zh,Zi,Ye,Zj,Zg,Zk,Zn,Zp,Yf,Jp,Zm,Zq,Zc,Zd,Yc,Jm,Jn,Ze,Zr,Zs,Yg,Jr,Js,Jq]
  | us h k=>
   have t:Qk [.tup [.str "use",.int h,.int k]] S=.ok (.bl true) S:=Vv "use" [h,k] (by simp) S;have a0:atI [PV.str "use",.int h,.int k] 0=some (.str "use"):=rfl;unfold Dx.V Dd.V Dx.oth;simp -implicitDefEqProofs [J8,Qr,Y9,jf,zi,t,a0,Zf,Yd,Jz,Z0,Jy,Z1,Ji,Y2,Z3,Z4,Z2,Z5,Z6,Zy,Zz,Y0,Zx,Y1,Zh,Zi,Ye,Zj,Zg,Zk,Zn,Zp,Yf,Jp,Zm,Zq,Zc,Zd,Yc,Jm,Jn,Ze,Zr,Zs,Yg,Jr,Js,Jq]
 | kp i=>
  have t:Qk [.tup [.str "keep",.int i]] S=.ok (.bl true) S:=Vv "keep" [i] (by simp) S;have a0:atI [PV.str "keep",.int i] 0=some (.str "keep"):=rfl;unfold Dx.V Dx.oth;simp -implicitDefEqProofs [J8,Qr,Y9,jf,zi,t,a0,Zf,Yd,Jz,Z0,Jy,Z1,Ji,Y2,Z3,Z4,Z2,Z5,Z6,Zy,Zz,Y0,Zx,Y1,Zh,Zi,Ye,Zj,Zg,Zk,Zn,Zp,Yf,Jp,Zm,Zq,Zc,Zd,Yc,Jm,Jn,Ze,Zr,Zs,Yg,Jr,Js,Jq]
 | fl i=>
  have t:Qk [.tup [.str "fall",.int i]] S=.ok (.bl true) S:=Vv "fall" [i] (by simp) S;have a0:atI [PV.str "fall",.int i] 0=some (.str "fall"):=rfl;unfold Dx.V Dx.oth;simp -implicitDefEqProofs [J8,Qr,Y9,jf,zi,t,a0,Zf,Yd,Jz,Z0,Jy,Z1,Ji,Y2,Z3,Z4,Z2,Z5,Z6,Zy,Zz,Y0,Zx,Y1,Zh,Zi,Ye,Zj,Zg,Zk,Zn,Zp,Yf,Jp,Zm,Zq,Zc,Zd,Yc,Jm,Jn,Ze,Zr,Zs,Yg,Jr,Js,Jq]
 | sd i=>
  have t:Qk [.tup [.str "send",.int i]] S=.ok (.bl true) S:=Vv "send" [i] (by simp) S;have a0:atI [PV.str "send",.int i] 0=some (.str "send"):=rfl;unfold Dx.V Dx.oth;simp -implicitDefEqProofs [J8,Qr,Y9,jf,zi,t,a0,Zf,Yd,Jz,Z0,Jy,Z1,Ji,Y2,Z3,Z4,Z2,Z5,Z6,Zy,Zz,Y0,Zx,Y1,Zh,Zi,Ye,Zj,Zg,Zk,Zn,Zp,Yf,Jp,Zm,Zq,Zc,Zd,Yc,Jm,Jn,Ze,Zr,Zs,Yg,Jr,Js,Jq]
 | cm l i=>
  have t:Qk [.tup [.str "come",.int l,.int i]] S=.ok (.bl true) S:=Vv "come" [l,i] (by simp) S;have a0:atI [PV.str "come",.int l,.int i] 0=some (.str "come"):=rfl;unfold Dx.V Dx.oth;simp -implicitDefEqProofs [J8,Qr,Y9,jf,zi,t,a0,Zf,Yd,Jz,Z0,Jy,Z1,Ji,Y2,Z3,Z4,Z2,Z5,Z6,Zy,Zz,Y0,Zx,Y1,Zh,Zi,Ye,Zj,Zg,Zk,Zn,Zp,Yf,Jp,Zm,Zq,Zc,Zd,Yc,Jm,Jn,Ze,Zr,Zs,Yg,Jr,Js,Jq]
theorem Q42 {x:Dx} (h:x.oth=true) (S:Q2):W4 [x.V] S=.ok (.bl false) S:=by
 cases x with
 | own d=>cases h
 | kp i=>
  have t:Qk [.tup [.str "keep",.int i]] S=.ok (.bl true) S:=Vv "keep" [i] (by simp) S;have a0:atI [PV.str "keep",.int i] 0=some (.str "keep"):=rfl;unfold Dx.V;simp -implicitDefEqProofs [W4,Qr,Ue,zi,t,a0,Zf,Yd,Jz,Z0,Jy,Z1,Ji,Y2,Z3,Z4,Z2,Z5,Z6,Zy,Zz,Y0,Zx,Y1,Zh,Zi,Ye,Zj,Zg,Zk,Zn,Zp,Yf,Jp,Zm,Zq,Zc,Zd,Yc,Jm,Jn,Ze,Zr,Zs,Yg,Jr,Js,Jq]
 | fl i=>
  have t:Qk [.tup [.str "fall",.int i]] S=.ok (.bl true) S:=Vv "fall" [i] (by simp) S;have a0:atI [PV.str "fall",.int i] 0=some (.str "fall"):=rfl;unfold Dx.V;simp -implicitDefEqProofs [W4,Qr,Ue,zi,t,a0,Zf,Yd,Jz,Z0,Jy,Z1,Ji,Y2,Z3,Z4,Z2,Z5,Z6,Zy,Zz,Y0,Zx,Y1,Zh,Zi,Ye,Zj,Zg,Zk,Zn,Zp,Yf,Jp,Zm,Zq,Zc,Zd,Yc,Jm,Jn,Ze,Zr,Zs,Yg,Jr,Js,Jq]
 | sd i=>
  have t:Qk [.tup [.str "send",.int i]] S=.ok (.bl true) S:=Vv "send" [i] (by simp) S;have a0:atI [PV.str "send",.int i] 0=some (.str "send"):=rfl;unfold Dx.V;simp -implicitDefEqProofs [W4,Qr,Ue,zi,t,a0,Zf,Yd,Jz,Z0,Jy,Z1,Ji,Y2,Z3,Z4,Z2,Z5,Z6,Zy,Zz,Y0,Zx,Y1,Zh,Zi,Ye,Zj,Zg,Zk,Zn,Zp,Yf,Jp,Zm,Zq,Zc,Zd,Yc,Jm,Jn,Ze,Zr,Zs,Yg,Jr,Js,Jq]
 | cm l i=>
  have t:Qk [.tup [.str "come",.int l,.int i]] S=.ok (.bl true) S:=Vv "come" [l,i] (by simp) S;have a0:atI [PV.str "come",.int l,.int i] 0=some (.str "come"):=rfl;unfold Dx.V;simp -implicitDefEqProofs [W4,Qr,Ue,zi,t,a0,Zf,Yd,Jz,Z0,Jy,Z1,Ji,Y2,Z3,Z4,Z2,Z5,Z6,Zy,Zz,Y0,Zx,Y1,Zh,Zi,Ye,Zj,Zg,Zk,Zn,Zp,Yf,Jp,Zm,Zq,Zc,Zd,Yc,Jm,Jn,Ze,Zr,Zs,Yg,Jr,Js,Jq]
theorem Q1m {n i:Nat} {tb:Tab} (j:tb.length=n) (hi:i < n) (S:Q2):Yp [Q7 tb,.int i] S=.ok (.bl true) S:=by
 have:=Q1i (V:=Q7 tb) (n:=n) (st:=S) (by simp [Q7,j]) (i:Int);rw [show (decide ((0:Int)<=(i:Int)) && decide ((i:Int) < (n:Int)))=true by simp; omega] at this;exact this
theorem Qf2 {n:Nat} {s:RS} {tb:Tab} (q:tb.length=n) {x:Dx} (o:x.ok n s) {S:Q2} {j:Nat} (G:S[j]?=some (.lst (s.le.map Q7))):Jg [Q7 tb,.ref j,x.V] S=.ok .non S:=by
 have ll:Yr S [.ref j]=.ok (.int s.le.length) S:=by
  have z:ListAt S (.ref j) (s.le.map Q7):=.inr (.inr ⟨j,rfl,G⟩);rw [z.len,O2]
 have e2:=Qdb x S;cases x with
 | own d=>
  have e1:=Q8d o S;have e3:=Qdi q o S;clear e2;show Jg [Q7 tb,.ref j,d.V] S=_;generalize Q7 tb=T at *;generalize d.V=V at *;simp -implicitDefEqProofs [Jg,Qr,Yh,e1,e3]
 | kp i=>
  have e1:=Q42 (x:=.kp i) rfl S;have e3:=Q1m q o S;have a0:atI [PV.str "keep",.int i] 0=some (.str "keep"):=rfl;have a1:atI [PV.str "keep",.int i] (-1)=some (.int i):=rfl;unfold Dx.V Dx.oth at *;generalize Q7 tb=T at *;simp -implicitDefEqProofs [Jg,Qr,Yh,e1,e2,e3,a0,a1,Zf,Yd,Jz,Z0,Jy,Z1,Ji,Y2,Z3,Z4,Z2,Z5,Z6,Zy,Zz,Y0,Zx,Y1,Zh,Zi,Ye,Zj,Zg,Zk,Zn,Zp,Yf,Jp,Zm,Zq,Zc,Zd,Yc,Jm,Jn,Ze,Zr,Zs,Yg,Jr,Js,Jq]
 | fl i=>
  have e1:=Q42 (x:=.fl i) rfl S;have e3:=Q1m q o S;have a0:atI [PV.str "fall",.int i] 0=some (.str "fall"):=rfl;have a1:atI [PV.str "fall",.int i] (-1)=some (.int i):=rfl;unfold Dx.V Dx.oth at *;generalize Q7 tb=T at *;simp -implicitDefEqProofs [Jg,Qr,Yh,e1,e2,e3,a0,a1,Zf,Yd,Jz,Z0,Jy,Z1,Ji,Y2,Z3,Z4,Z2,Z5,Z6,Zy,Zz,Y0,Zx,Y1,Zh,Zi,Ye,Zj,Zg,Zk,Zn,Zp,Yf,Jp,Zm,Zq,Zc,Zd,Yc,Jm,Jn,Ze,Zr,Zs,Yg,Jr,Js,Jq]
 | sd i=>
  have e1:=Q42 (x:=.sd i) rfl S;have e3:=Q1m q o S;have a0:atI [PV.str "send",.int i] 0=some (.str "send"):=rfl;have a1:atI [PV.str "send",.int i] (-1)=some (.int i):=rfl;unfold Dx.V Dx.oth at *;generalize Q7 tb=T at *;simp -implicitDefEqProofs [Jg,Qr,Yh,e1,e2,e3,a0,a1,Zf,Yd,Jz,Z0,Jy,Z1,Ji,Y2,Z3,Z4,Z2,Z5,Z6,Zy,Zz,Y0,Zx,Y1,Zh,Zi,Ye,Zj,Zg,Zk,Zn,Zp,Yf,Jp,Zm,Zq,Zc,Zd,Yc,Jm,Jn,Ze,Zr,Zs,Yg,Jr,Js,Jq]
 | cm l i=>
  have e1:=Q42 (x:=.cm l i) rfl S;have e3:=Q1m q o.2 S;have a0:atI [PV.str "come",.int l,.int i] 0=some (.str "come"):=rfl;have a1:atI [PV.str "come",.int l,.int i] (-1)=some (.int i):=rfl;have B:atI [PV.str "come",.int l,.int i] 1=some (.int l):=rfl;have I:l < s.le.length:=o.1;unfold Dx.V Dx.oth at *;generalize Q7 tb=T at *;generalize s.le.length=nl at *;simp -implicitDefEqProofs [Jg,Qr,Yh,e1,e2,e3,a0,a1,B,ll,I,-Qmy,Zf,Yd,Jz,Z0,Jy,Z1,Ji,Y2,Z3,Z4,Z2,Z5,Z6,Zy,Zz,Y0,Zx,Y1,Zh,Zi,Ye,Zj,Zg,Zk,Zn,Zp,Yf,Jp,Zm,Zq,Zc,Zd,Yc,Jm,Jn,Ze,Zr,Zs,Yg,Jr,Js,Jq]
theorem Q1p {m:MS} {nl:Nat} {ps:List PV} {S q:Q2} {j:Gam} (h:m (ps.map some ++ bT (nl - ps.length) none) S=.nx j q):Yq m nl ps S=.ok .non q:=by unfold Yq; rw [h]
theorem zn {m:MS} {nl:Nat} {ps:List PV} {S j:Q2} {v:PV} (h:m (ps.map some ++ bT (nl - ps.length) none) S=.rt v j):Yq m nl ps S=.ok v j:=by unfold Yq; rw [h]
theorem W6 {m:MS} {nl:Nat} {ps:List PV} {S j:Q2} {v:PV} (h:m (ps.map some ++ bT (nl - ps.length) none) S=.rt v j):Qr m nl ps S=fin S v j:=by unfold Qr; rw [h]
def hsV (B n:Nat):PV:=.lst ((bU n).map fun i=>.ref (B + i))
structure HsAt (C:aA) (B n:Nat) (s:RS) (S:Q2):Prop where
 at_:∀ i,i < n->S[B + i]?=some (.obj C (hsF i (s.now.getD i []) (s.last.getD i [])))
theorem Qe3 {B n i:Nat} (hi:i < n) (S:Q2):oIx S (hsV B n) (.int i)=.ok (.ref (B + i)) S:=by
 have:oIx S (hsV B n) (.int i)=okO S (atI ((bU n).map fun i=>PV.ref (B + i)) (i:Int)):=rfl
 rw [this,Kq,Sm.atI_get (show (bU n)[i]?=some i by rw [F1 hi])]; rfl
def Qps (C:aA) (S:Q2) (i n:Nat) (now last:Tab) (d:Dd) (Γ:Gam):SR:=if d.fits now=true then .nx Γ (S.set i (.obj C (hsF d.h (d.put n now) last))) else .exc ⟨"Short",some ("had",.int (Qq now d.h))⟩ S
theorem Qc8 {C:aA} {S:Q2} {i n:Nat} {now last:Tab} {d:Dd} {m:ME} {Γ:Gam} (h:m Γ S=Q5s C S i n now last d):Wh m Γ S=Qps C S i n now last d Γ:=by
 rw [Q84,h];unfold Q5s Qps
 split <;> rfl
theorem Qip {C:aA} {S:Q2} {i n nl:Nat} {now last:Tab} {d:Dd} {m:MS} {ps:List PV} {Γ:Gam} (h:m (ps.map some ++ bT (nl - ps.length) none) S=Qps C S i n now last d Γ):Yq m nl ps S=Q5s C S i n now last d:=by
 unfold Yq;rw [h];unfold Q5s Qps
 by_cases q:d.fits now=true
 ·rw [bN q,bN q]
 ·rw [bO q,bO q]
theorem Qme {C:aA} {B n:Nat} {s:RS} {S:Q2} (A:HsAt C B n s S) (r:RI n s) {d:Dd} (o:d.ok n):Wu C [hsV B n,d.V] S=Q5s C S (B + d.h) n (s.now.getD d.h []) (s.last.getD d.h []) d:=by
 have q:=Dd.ok_h o;have w:=r.wn d.h q;have j:=A.at_ d.h q;have ix:=Qe3 (B:=B) q S;refine Qip (Γ:=[some (hsV B n),some d.V,some (.ref (B + d.h))]) ?_;show ym C [some (hsV B n),some d.V,none] S=_;refine Qg (Γ1:=[some (hsV B n),some d.V,some (.ref (B + d.h))]) (J0 (Qb rfl (Qb rfl rfl (Dd.a1 d S)) ix)) ?_;cases d with
 | mk h k=>
  refine zu (J6 (Qb (Qb rfl rfl rfl) rfl (Q41 S _))) (Qc8 ?_);exact (zz (i:=B + h) rfl j (y3 (by decide +kernel) (by decide +kernel) (by decide +kernel) _ _ _) (ps:=[.int k]) (S1:=S) (Q5 (Qb rfl rfl rfl) rfl) rfl).trans (Qq5 j w o)
 | ld h t k=>
  refine V3 (J6 (Qb (Qb rfl rfl rfl) rfl (qy S Ji))) (zu (J6 (Qb (Qb rfl rfl rfl) rfl (Q41 S _))) (Qc8 ?_));exact (zz (i:=B + h) rfl j (y3 (by decide +kernel) (by decide +kernel) (by decide +kernel) _ _ _) (ps:=[.int t,.int k]) (S1:=S) (Q5 (Qb rfl rfl rfl) (Q5 (Qb rfl rfl rfl) rfl)) rfl).trans (Qqh j w o)
 | us h k=>
  refine V3 (J6 (Qb (Qb rfl rfl rfl) rfl (qy S Z6))) (V3 (J6 (Qb (Qb rfl rfl rfl) rfl (qy S Zy))) (Qc8 ?_));exact (zz (i:=B + h) rfl j (y3 (by decide +kernel) (by decide +kernel) (by decide +kernel) _ _ _) (ps:=[.int k]) (S1:=S) (Q5 (Qb rfl rfl rfl) rfl) rfl).trans (Qs0 j w o)
def Q2e (C:aA) (B Lr n:Nat) (s:RS) (S:Q2):Dx->Q2
 | .own d=>if d.fits (s.now.getD d.h [])=true then S.set (B + d.h) (.obj C (hsF d.h (d.put n (s.now.getD d.h [])) (s.last.getD d.h []))) else S
 | .kp i=>S.set (B + i) (.obj C (hsF i (s.now.getD i []) (s.now.getD i [])))
 | .fl i=>S.set (B + i) (.obj C (hsF i (s.last.getD i []) (s.last.getD i [])))
 | .sd i=>S.set Lr (.lst (s.le.map Q7 ++ [Q7 (s.last.getD i [])]))
 | .cm l i=>S.set (B + i) (.obj C (hsF i (Zu (s.now.getD i []) (s.le.getD l [])) (s.last.getD i [])))
theorem Q28 {S:Q2} {L:Nat} {xs:List PV} (h:S[L]?=some (.lst xs)) (j:xs.length < 1000000) (y:PV):Vg S (.ref L) [y]=.ok .non (S.set L (.lst (xs ++ [y]))):=by
 simp only [Vg,chg,h];rw [bN (show xs.length < lim from j)]
theorem Qfh {C:aA} {B j n:Nat} {s:RS} {S:Q2} (A:HsAt C B n s S) (G:S[j]?=some (.lst (s.le.map Q7))) (Y:s.le.length < 100000) (r:RI n s) {x:Dx} (o:x.ok n s) (O:x.oth=true):X2 C [hsV B n,.ref j,x.V] S=.ok .non (Q2e C B j n s S x):=by
 have J:ListAt S (.ref j) (s.le.map Q7):=.inr (.inr ⟨j,rfl,G⟩);cases x with
 | own d=>cases O
 | kp i=>
  have hi:i < n:=o;have q:=A.at_ i hi;have st:Wi C [some (hsV B n),some (.ref j),some (Dx.kp i).V,none] S=.nx [some (hsV B n),some (.ref j),some (Dx.kp i).V,some (.ref (B + i))] (Q2e C B j n s S (.kp i)):=
   Qg (J0 (Qb rfl (Qb rfl rfl rfl) (Qe3 hi S))) (zu (J6 (Qb (Qb rfl rfl rfl) rfl (Q41 S _))) (Q0s ((zz (i:=B + i) rfl q (y3 (by decide +kernel) (by decide +kernel) (by decide +kernel) _ _ _) (ps:=[]) (S1:=S) rfl rfl).trans (Qqn q))))
  exact Q1p st
 | fl i=>
  have hi:i < n:=o;have q:=A.at_ i hi;have st:Wi C [some (hsV B n),some (.ref j),some (Dx.fl i).V,none] S=.nx [some (hsV B n),some (.ref j),some (Dx.fl i).V,some (.ref (B + i))] (Q2e C B j n s S (.fl i)):=
   Qg (J0 (Qb rfl (Qb rfl rfl rfl) (Qe3 hi S))) (V3 (J6 (Qb (Qb rfl rfl rfl) rfl (qy S Jp))) (zu (J6 (Qb (Qb rfl rfl rfl) rfl (Q41 S _))) (Q0s ((zz (i:=B + i) rfl q (y3 (by decide +kernel) (by decide +kernel) (by decide +kernel) _ _ _) (ps:=[]) (S1:=S) rfl rfl).trans (Qqx q)))))
  exact Q1p st
 | sd i=>
  have hi:i < n:=o;have q:=A.at_ i hi;have lt:xk C "letter" 1 (V5 C) (Q3 3) Qa [some (hsV B n),some (.ref j),some (Dx.sd i).V,some (.ref (B + i))] S=.ok (Q7 (s.last.getD i [])) S:=(zz (i:=B + i) rfl q (y3 (by decide +kernel) (by decide +kernel) (by decide +kernel) _ _ _) (ps:=[]) (S1:=S) rfl rfl).trans (Qi3 q);have st:Wi C [some (hsV B n),some (.ref j),some (Dx.sd i).V,none] S=.nx [some (hsV B n),some (.ref j),some (Dx.sd i).V,some (.ref (B + i))] (Q2e C B j n s S (.sd i)):=
   Qg (J0 (Qb rfl (Qb rfl rfl rfl) (Qe3 hi S))) (V3 (J6 (Qb (Qb rfl rfl rfl) rfl (qy S Jm))) (V3 (J6 (Qb (Qb rfl rfl rfl) rfl (qy S Jn))) (zu (J6 (Qb (Qb rfl rfl rfl) rfl (Q41 S _)))
    (Q1s (p:=.ref j) rfl (W1 G) (Q5 lt rfl) (Q28 G (by rw [O2]; omega) _)))))
  exact Q1p st
 | cm l i=>
  obtain ⟨z,hi⟩:=o;have q:=A.at_ i hi;have I:s.le.getD l []∈s.le:=D2 (getD_some z []);have U:oIx S (.ref j) (.int l)=.ok (Q7 (s.le.getD l [])) S:=by
   rw [J.ix,Kq,Sm.atI_get (getD_some z [])]; rfl
  have st:Wi C [some (hsV B n),some (.ref j),some (Dx.cm l i).V,none] S=.nx [some (hsV B n),some (.ref j),some (Dx.cm l i).V,some (.ref (B + i))] (Q2e C B j n s S (.cm l i)):=
   Qg (J0 (Qb rfl (Qb rfl rfl rfl) (Qe3 hi S))) (V3 (J6 (Qb (Qb rfl rfl rfl) rfl (qy S Jr))) (V3 (J6 (Qb (Qb rfl rfl rfl) rfl (qy S Js))) (V3 (J6 (Qb (Qb rfl rfl rfl) rfl (qy S Jq)))
    (Q0s ((zz (i:=B + i) rfl q (y3 (by decide +kernel) (by decide +kernel) (by decide +kernel) _ _ _) (ps:=[Q7 (s.le.getD l [])]) (S1:=S) (Q5 (Qb rfl (Qb rfl rfl rfl) U) rfl) rfl).trans (Qr3 q (r.wn i hi) (r.we _ I) hi (r.row I hi)))))))
  exact Q1p st
theorem Qiz {C:aA} {B j n:Nat} {s:RS} {S:Q2} (A:HsAt C B n s S) (J:S[j]?=some (.lst (s.le.map Q7))) (O:s.le.length < 100000) (r:RI n s) {x:Dx} (o:x.ok n s):y9 C [hsV B n,.ref j,x.V] S=.ok (Qa6 s x) (Q2e C B j n s S x):=by
 have e1:(toB (Qj 1 J8 (Q4 (Q3 2) Qa))) [some (hsV B n),some (.ref j),some x.V,none] S=.ok x.oth S:=J6 (Qu (n:=1) (Q5 rfl rfl) rfl (Qdb x S));cases G:x.oth with
 | true=>
  rw [G] at e1;have st:Kw C [some (hsV B n),some (.ref j),some x.V,none] S=.rt (.str "done") (Q2e C B j n s S x):=jr (zu e1 (Qg (Q0s (Qu (n:=3) (Q5 rfl (Q5 rfl (Q5 rfl rfl))) rfl (Qfh A J O r o G))) rfl));refine (zn st).trans ?_;cases x with
  | own d=>cases G
  | _=>rfl
 | false=>
  rw [G] at e1;cases x with
  | own d=>
   have e2:=Qme A r (d:=d) o;have e3:Qdp "Short" "had" 3 2 (Wu C) (Q4 (Q3 0) (Q4 (Q3 2) Qa)) [some (hsV B n),some (.ref j),some d.V,none] S=(match Wu C [hsV B n,d.V] S with
    | .ok _ I=>SR.nx [some (hsV B n),some (.ref j),some d.V,none] I
    | .exc x I=>if x.cls = "Short" then (match x.fs with | some (f,.int z)=>if f = "had" then .rt (.int z) I else .stuck | _=>.stuck) else .stuck
    | .stuck=>.stuck):=by
    rw [Qks,Q5 (m:=Q3 0) (p:=hsV B n) (S1:=S) rfl (Q5 (m:=Q3 2) (p:=d.V) (S1:=S) rfl (show Qa _ S=.ok [] S from rfl)),Ve];exact bN ⟨rfl,show 3 < 4 by decide⟩
   rw [e2] at e3;unfold Q5s at e3
   by_cases q:d.fits (s.now.getD d.h [])=true
   ·rw [bN q] at e3;have st:Kw C [some (hsV B n),some (.ref j),some (Dx.own d).V,none] S=.rt (.str "done") (S.set (B + d.h) (.obj C (hsF d.h (d.put n (s.now.getD d.h [])) (s.last.getD d.h [])))):=Qg (V3 e1 rfl) (Qg e3 rfl);refine (zn st).trans ?_;unfold Q2e Qa6;simp only [bN q]
   ·rw [bO q] at e3;have e3:Qdp "Short" "had" 3 2 (Wu C) (Q4 (Q3 0) (Q4 (Q3 2) Qa)) [some (hsV B n),some (.ref j),some d.V,none] S=.rt (.int (Qq (s.now.getD d.h []) d.h)) S:=e3.trans (by simp);have st:Kw C [some (hsV B n),some (.ref j),some (Dx.own d).V,none] S=.rt (.int (Qq (s.now.getD d.h []) d.h)) S:=Qg (V3 e1 rfl) (jr e3);refine (zn st).trans ?_;unfold Q2e Qa6;simp only [bO q]
  | kp i=>cases G
  | fl i=>cases G
  | sd i=>cases G
  | cm l i=>cases G
theorem Qt6 {C:aA} {B j n:Nat} {s:RS} {S:Q2} (A:HsAt C B n s S) (U:S[j]?=some (.lst (s.le.map Q7))) (Z:B + n<=j) (r:RI n s) {x:Dx} (o:x.ok n s):HsAt C B n (Jw n s x) (Q2e C B j n s S x)/\(Q2e C B j n s S x)[j]?=some (.lst ((Jw n s x).le.map Q7))/\(∀ t,(t < B\/j < t)->(Q2e C B j n s S x)[t]?=S[t]?)/\(Q2e C B j n s S x).length=S.length:=by
 have I:∀ (h:Nat) (a b:Tab),h < n->∀ s':RS,s'.le=s.le->(∀ i,i < n->s'.now.getD i []=if i=h then a else s.now.getD i [])->(∀ i,i < n->s'.last.getD i []=if i=h then b else s.last.getD i []) ->
   HsAt C B n s' (S.set (B + h) (.obj C (hsF h a b)))/\(S.set (B + h) (.obj C (hsF h a b)))[j]?=some (.lst (s'.le.map Q7))/\(∀ t,(t < B\/j < t)->(S.set (B + h) (.obj C (hsF h a b)))[t]?=S[t]?)/\(S.set (B + h) (.obj C (hsF h a b))).length=S.length:=by
  intro h a b G s' e1 e2 e3;have J:=(O0.mp (A.at_ h G)).1;refine ⟨⟨fun i hi=>?_⟩,?_,fun t ht=>?_,D4⟩
  ·by_cases q:i=h
   ·subst q;rw [D7 J,e2 i hi,e3 i hi,bN rfl,bN rfl]
   ·rw [O6 (by omega),A.at_ i hi,e2 i hi,e3 i hi,bO q,bO q]
  ·rw [O6 (by omega),U,e1]
  ·rw [O6 (by omega)]
 cases x with
 | own d=>
  have G:=Dd.ok_h o
  by_cases q:d.fits (s.now.getD d.h [])=true
  ·have O:Q2e C B j n s S (.own d)=S.set (B + d.h) (.obj C (hsF d.h (d.put n (s.now.getD d.h [])) (s.last.getD d.h []))):=bN q;have Y:Jw n s (.own d)=⟨s.now.set d.h (d.put n (s.now.getD d.h [])),s.last,s.le⟩:=bN q;rw [O,Y];refine I d.h _ _ G _ rfl (fun i hi=>?_) (fun i hi=>?_)
   ·exact Jd (by rw [r.ln]; exact G) _ _ _
   ·split
    ·rename_i z; rw [z]
    ·rfl
  ·have O:Q2e C B j n s S (.own d)=S:=bO q;have Y:Jw n s (.own d)=s:=bO q;rw [O,Y];exact ⟨A,U,fun _ _=>rfl,rfl⟩
 | kp h=>
  have G:h < n:=o;refine I h _ _ G _ rfl (fun i hi=>?_) (fun i hi=>?_)
  ·split
   ·rename_i z; rw [z]; rfl
   ·rfl
  ·exact Jd (by rw [r.ll]; exact G) _ _ _
 | fl h=>
  have G:h < n:=o;refine I h _ _ G _ rfl (fun i hi=>?_) (fun i hi=>?_)
  ·exact Jd (by rw [r.ln]; exact G) _ _ _
  ·split
   ·rename_i z; rw [z]; rfl
   ·rfl
 | sd h=>
  have G:h < n:=o;have J:=(O0.mp U).1;refine ⟨⟨fun i hi=>?_⟩,?_,fun t ht=>?_,D4⟩
  ·show (S.set j _)[B + i]?=_;rw [O6 (by omega)];exact A.at_ i hi
  ·show (S.set j _)[j]?=some (.lst ((s.le ++ [s.last.getD h []]).map Q7));rw [D7 J,D5]; rfl
  ·show (S.set j _)[t]?=_;rw [O6 (by omega)]
 | cm l h=>
  obtain ⟨a2,G⟩:=o;refine I h _ _ G _ rfl (fun i hi=>?_) (fun i hi=>?_)
  ·exact Jd (by rw [r.ln]; exact G) _ _ _
  ·split
   ·rename_i z; rw [z]; rfl
   ·rfl
theorem Q2m {n:Nat} {tb:List (List Int)} (w:Wt' n tb) (c:Ca n tb) (st:Q2):Yj [Q7 tb] st=.ok .non st:=by
 have e:=Qr0 w st;rw [c.comes] at e;generalize Q7 tb=T at *;simp -implicitDefEqProofs [Yj,Qr,X7,e]
def Yz (n:Nat):RS->List Dx->RS
 | s,[]=>s
 | s,x :: xs=>Yz n (Jw n s x) xs
def Q90 (n:Nat):RS->List Dx->List PV
 | _,[]=>[]
 | s,x :: xs=>Qa6 s x :: Q90 n (Jw n s x) xs
def OkL (n:Nat):RS->List Dx->Prop
 | _,[]=>True
 | s,x :: xs=>x.ok n s/\OkL n (Jw n s x) xs
theorem j4 (n:Nat):∀ (xs ys:List Dx) (s:RS),Yz n s (xs ++ ys)=Yz n (Yz n s xs) ys
 | [],_,_=>rfl
 | x :: xs,ys,s=>j4 n xs ys (Jw n s x)
theorem Qgz (n:Nat):∀ (xs ys:List Dx) (s:RS),Q90 n s (xs ++ ys)=Q90 n s xs ++ Q90 n (Yz n s xs) ys
 | [],_,_=>rfl
 | x :: xs,ys,s=>congrArg (Qa6 s x :: ·) (Qgz n xs ys (Jw n s x))
theorem zx (n:Nat):∀ (xs ys:List Dx) (s:RS),OkL n s (xs ++ ys) <-> OkL n s xs/\OkL n (Yz n s xs) ys
 | [],_,_=>⟨fun h=>⟨trivial,h⟩,fun h=>h.2⟩
 | x :: xs,ys,s=>by
  have j:=zx n xs ys (Jw n s x);exact ⟨fun h=>⟨⟨h.1,(j.mp h.2).1⟩,(j.mp h.2).2⟩,fun h=>⟨h.1.1,j.mpr ⟨h.1.2,h.2⟩⟩⟩
theorem RI.run {n:Nat}:∀ {xs:List Dx} {s:RS},RI n s->OkL n s xs->RI n (Yz n s xs)
 | [],_,r,_=>r
 | x :: xs,s,r,o=>RI.run (xs:=xs) (r.step o.1) o.2
theorem Qqi (n:Nat) (s:RS) (x:Dx):(Jw n s x).le.length<=s.le.length + 1:=by
 cases x with
 | own d=>
  show (if d.fits (s.now.getD d.h [])=true then (⟨s.now.set d.h (d.put n (s.now.getD d.h [])),s.last,s.le⟩:RS) else s).le.length<=_
  split <;> simp
 | sd i=>simp [Jw]
 | _=>simp [Jw]
theorem Qc0 (n:Nat):∀ (xs:List Dx) (s:RS),(Yz n s xs).le.length<=s.le.length + xs.length
 | [],s=>O8 _
 | x :: xs,s=>by
  have h1:=Qc0 n xs (Jw n s x);have h2:=Qqi n s x;simp only [Yz,E3];omega
theorem Qgy (n:Nat):∀ (xs:List Dx) (s:RS),(Q90 n s xs).length=xs.length
 | [],_=>rfl
 | x :: xs,s=>by simp only [Q90,E3,Qgy n xs]
def s0 (n:Nat) (tb:Tab):RS:=⟨bT n tb,bT n tb,[]⟩
theorem Q18 {n i:Nat} {tb:Tab} (hi:i < n):(bT n tb).getD i []=tb:=by
 rw [F7,G7,bN hi]; rfl
theorem RI.start {n:Nat} {tb:Tab} (w:Wt' n tb):RI n (s0 n tb):=by
 have e:∀ i,i < n->(bT n tb).getD i []=tb:=fun i hi=>Q18 hi
 refine ⟨eU,eU,fun i hi=>?_,fun i hi=>?_,fun L z=>absurd z cQ,fun i j hi B=>?_,fun a i j q hi G B=>?_,fun a i j q hi B=>?_,fun L z=>absurd z cQ⟩
 ·show Wt' n ((bT n tb).getD i []); rw [e i hi]; exact w
 ·show Wt' n ((bT n tb).getD i []); rw [e i hi]; exact w
 ·exact bg _
 ·show ent ((bT n tb).getD a []) i j<=ent ((bT n tb).getD i []) i j; rw [e i hi,e a q]; exact bg _
 ·show ent ((bT n tb).getD a []) i j<=ent ((bT n tb).getD i []) i j; rw [e i hi,e a q]; exact bg _
theorem Qqp {C:aA} {n:Nat} {tb:Tab} (w:Wt' n tb) (c:Ca n tb) {h:Nat} (q:h < n) (S:Q2):Wb C [.ref S.length,.int h,Q7 tb] (S ++ [.obj C []])=.ok .non (S ++ [.obj C (hsF h tb tb)]):=by
 have e1:=Q2m w c (S ++ [.obj C []]);have e2:=Q1m w.len q (S ++ [.obj C []]);have gt:∀ fs:List (Str × PV),(S ++ [Cell.obj C fs])[S.length]?=some (.obj C fs):=fun fs=>by simp
 have st:∀ fs gs:List (Str × PV),(S ++ [Cell.obj C fs]).set S.length (.obj C gs)=S ++ [.obj C gs]:=fun fs gs=>by simp
 have j:xg "number" (.int h) []=[(bR "number",PV.int h)]:=rfl;have p2:xg "now" (Q7 tb) [(bR "number",PV.int h)]=[(bR "number",.int h),(bR "now",Q7 tb)]:=by
  rw [xg,bO s1']; rfl
 have z:xg "kept" (Q7 tb) [(bR "number",PV.int h),(bR "now",Q7 tb)]=hsF h tb tb:=by
  rw [xg,bO s2',xg,bO s3']; rfl
 have k3:Kg C [some (.ref S.length),some (.int h),some (Q7 tb)] (S ++ [.obj C []])=.nx [some (.ref S.length),some (.int h),some (Q7 tb)] (S ++ [.obj C (hsF h tb tb)]):=by
  refine Qg (Q0s (Qu (n:=1) (Q5 rfl rfl) rfl e1)) (Qg (V3 (Qkk (J6 (Qu (n:=2) (Q5 rfl (Q5 rfl rfl)) rfl e2))) rfl) ?_);refine Qg ((qz (p:=.int h) rfl rfl (gt _) (by simp)).trans (by rw [j,st])) ?_;refine Qg ((qz (p:=Q7 tb) rfl rfl (gt _) (by simp)).trans (by rw [p2,st])) ?_;exact (qz (p:=Q7 tb) rfl rfl (gt _) (by simp)).trans (by rw [z,st])
 exact Q1p k3
theorem Qtp {C:aA} {n:Nat} {tb:Tab} (w:Wt' n tb) (c:Ca n tb) {h:Nat} (j:h < n) (S:Q2):Q0u C [some (.int h),some (Q7 tb)] S=.ok (.ref S.length) (S ++ [.obj C (hsF h tb tb)]):=by
 have q:(Q4 (Q3 0) (Q4 (Q3 1) Qa)) [some (.int h),some (Q7 tb)] S=.ok [.int h,Q7 tb] S:=Q5 rfl (Q5 rfl rfl);show ((Wb C [PV.ref S.length,PV.int h,Q7 tb] (S ++ [Cell.obj C []])).bind _)=_;rw [Qqp w c j S]; rfl
def h0 (C:aA) (n:Nat) (tb:Tab):Q2:=(bU n).map fun i=>.obj C (hsF i tb tb)
theorem Qia {C:aA} {n:Nat} {tb:Tab} (w:Wt' n tb) (c:Ca n tb) (S:Q2) (Γ:Gam) (z:Γ[0]?=some (some (Q7 tb))):Jt (Qn 0) Ju (Q0u C) [] (Jv [none,some 0] Γ) (Zb 0 n) S=.ok ((bU n).map fun i=>.ref (S.length + i)) (S ++ h0 C n tb):=by
 have G:Jv [none,some 0] Γ=[none,some (Q7 tb)]:=by
  simp [Jv,z]
 obtain ⟨j,I,e,e1,e2⟩:=Qif (g:=fun k:Nat=>PV.int (k:Int)) (xs:=bU n) (ga:=Qn 0) (me:=Q0u C) (w:=[]) (Γ0:=[none,some (Q7 tb)]) (st:=S)
  (fun i j st=>j=((bU i).map fun i=>PV.ref (S.length + i))/\st=S ++ h0 C i tb) (fun _ _ _ _=>by simp)
  (fun i x j st B ⟨e1,e2⟩=>by
   subst e1; subst e2;have q:i < n:=by simpa using (O0.mp B).1
   rw [F1 q] at B;cases B;refine ⟨_,rfl,_,_,Qtp w c q _,?_,?_⟩
   ·rw [cZ,D5,O3];simp [h0]
   ·rw [h0,h0,cZ,D5,F8]; rfl)
  ⟨rfl,by simp [h0]⟩
 rw [F4] at e1 e2;rw [G,W8,e,e1,e2]
theorem Q7w {α β:Type} (l:List α) (d:α) (f:α->β):l.map f=(bU l.length).map fun i=>f (l.getD i d):=by
 refine dL fun i=>?_
 rw [E8,E8]
 by_cases h:i < l.length
 ·rw [F1 h,O7 h];simp [bb,O7 h]
 ·rw [F6 (by omega),F6 (by rw [F4]; omega)]; rfl
theorem Qu5 (C:aA) (n:Nat) (tb:Tab):(h0 C n tb).length=n:=by simp [h0]
theorem Qwt (C:aA) {n i:Nat} (tb:Tab) (hi:i < n):(h0 C n tb)[i]?=some (.obj C (hsF i tb tb)):=by
 simp [h0,F1 hi]
abbrev plG (tb:Tab) (DV:PV) (B n:Nat) (d:Option PV):Gam:=[some (Q7 tb),some DV,some (hsV B n),some (.ref (B + n)),some (.ref (B + n + 1)),d]
structure PI (C:aA) (n:Nat) (tb:Tab) (S:Q2) (pre:List Dx) (st:Q2):Prop where
 hs:HsAt C S.length n (Yz n (s0 n tb) pre) st
 le:st[S.length + n]?=some (.lst ((Yz n (s0 n tb) pre).le.map Q7))
 an:st[S.length + n + 1]?=some (.lst (Q90 n (s0 n tb) pre))
 old:∀ t,t < S.length->st[t]?=S[t]?
 len:st.length=S.length + n + 2
theorem Qs4 {C:aA} {n:Nat} {tb:Tab} (w:Wt' n tb) {S st:Q2} {pre:List Dx} {x:Dx} {j:List Dx} (hl:(pre ++ x :: j).length<=1000) (ok:OkL n (s0 n tb) (pre ++ x :: j)) (P:PI C n tb S pre st) (DV:PV):∃ B,Q3a C (plG tb DV S.length n (some x.V)) st=.nx (plG tb DV S.length n (some x.V)) B/\PI C n tb S (pre ++ [x]) B:=by
 have o1:=(zx n pre (x :: j) _).mp ok;have r:RI n (Yz n (s0 n tb) pre):=(RI.start w).run o1.1;have U:=o1.2.1;have a5:pre.length<=1000:=by rw [O3] at hl; omega
 have a6:=Qc0 n pre (s0 n tb);have I:(Yz n (s0 n tb) pre).le.length < 100000:=by
  have:(s0 n tb).le.length=0:=rfl;omega
 have e1:=Qf2 w.len U P.le;have e2:=Qiz P.hs P.le I r U;obtain ⟨a1,a2,O,Y⟩:=Qt6 P.hs P.le (O8 _) r U;obtain ⟨J,q⟩:∃ z,Q2e C S.length (S.length + n) n (Yz n (s0 n tb) pre) st x=z:=⟨_,rfl⟩;rw [q] at e2 a1 a2 O Y;have G:J[S.length + n + 1]?=some (.lst (Q90 n (s0 n tb) pre)):=by rw [O _ (.inr (by omega))]; exact P.an
 have hb:=(O0.mp G).1;have ap:=Q28 G (by rw [Qgy]; omega) (Qa6 (Yz n (s0 n tb) pre) x);refine ⟨_,Qg (Q0s (Qu (n:=3) (Q5 rfl (Q5 rfl (Q5 rfl rfl))) rfl e1)) (Q1s (p:=.ref (S.length + n + 1)) rfl (W1 P.an) (Q5 (Qu (n:=3) (Q5 rfl (Q5 rfl (Q5 rfl rfl))) rfl e2) rfl) ap),?_⟩;have er:Yz n (s0 n tb) (pre ++ [x])=Jw n (Yz n (s0 n tb) pre) x:=by rw [j4]; rfl
 have ea:Q90 n (s0 n tb) (pre ++ [x])=Q90 n (s0 n tb) pre ++ [Qa6 (Yz n (s0 n tb) pre) x]:=by rw [Qgz]; rfl
 refine ⟨⟨fun i hi=>?_⟩,?_,?_,fun t Z=>?_,?_⟩
 ·rw [er,O6 (by omega)]; exact a1.at_ i hi
 ·rw [er,O6 (by omega)]; exact a2
 ·rw [ea,D7 hb]
 ·rw [O6 (by omega),O t (.inl Z)]; exact P.old t Z
 ·rw [D4,Y]; exact P.len
theorem Qhi {C:aA} {n:Nat} {tb:Tab} (w:Wt' n tb) (c:Ca n tb) {S:Q2} {DV:PV} {xs:List Dx} {wt:Wt} (hs:∀ st:Q2,(∀ t,t < S.length->st[t]?=S[t]?)->Xb st DV=some (xs.map Dx.V,wt)/\wOk wt st) (hl:xs.length<=1000) (ok:OkL n (s0 n tb) xs) :
  ∃ U,Q47 C [Q7 tb,DV] S=.ok (.tup [.ref (S.length + n + 1),.ref (S.length + n + 2)]) U/\U.length=S.length + n + 3/\(∀ t,t < S.length->U[t]?=S[t]?)/\U[S.length + n + 1]?=some (.lst (Q90 n (s0 n tb) xs))/\U[S.length + n + 2]?=some (.lst ((Yz n (s0 n tb) xs).now.map Q7)):=by
 have h8:=w.n8;have O:lim=1000000:=rfl;have e1:=Q2m w c S;have eh:=Qia (C:=C) w c S [some (Q7 tb),some DV,none,none,none,none] rfl;have J:Yr S [Q7 tb]=.ok (.int n) S:=by simp [Q7,w.len]
 have a2:Z9 (Q4 (Jc Yr (Q4 (Q3 0) Qa)) Qa) [some (Q7 tb),some DV,none,none,none,none] S=.ok (Zb 0 n,[]) S:=by
  rw [Kh,Q5 (Uw (Q5 (m:=Q3 0) (p:=Q7 tb) (S1:=S) rfl (show Qa _ S=.ok [] S from rfl)) J) (show Qa _ S=.ok [] S from rfl),J2];show (if -(lim:Int)<=(n:Int)/\(n:Int)<=lim then _ else _)=_;rw [bN (by rw [O]; omega),cE]
 obtain ⟨S1,q⟩:∃ S1,S ++ h0 C n tb=S1:=⟨_,rfl⟩;rw [q] at eh;have l1:S1.length=S.length + n:=by rw [<- q,O3,Qu5]
 obtain ⟨z,j⟩:∃ z,S1 ++ [Cell.lst []] ++ [Cell.lst []]=z:=⟨_,rfl⟩;have l2:z.length=S.length + n + 2:=by rw [<- j,O3,O3,l1]; rfl
 have P0:PI C n tb S [] z:=by
  refine ⟨⟨fun i hi=>?_⟩,?_,?_,fun t Z=>?_,l2⟩
  ·rw [<- j,F8,O5 (by omega),<- q,O9 (by omega),fQ,Qwt C tb hi];show _=some (Cell.obj C (hsF i ((bT n tb).getD i []) ((bT n tb).getD i [])));rw [Q18 hi]
  ·rw [<- j,F8,O9 (by omega),show S.length + n - S1.length=0 by omega]; rfl
  ·rw [<- j,F8,O9 (by omega),show S.length + n + 1 - S1.length=1 by omega]; rfl
  ·rw [<- j,F8,O5 (by omega),<- q,O5 Z]
 obtain ⟨Y,_⟩:=hs z P0.old;obtain ⟨a5,B,ef,⟨d',rfl⟩,P⟩:=Qaz (g:=Dx.V) (xs:=xs) (fun pre Γ st=>(∃ d,Γ=plG tb DV S.length n d)/\PI C n tb S pre st) (ga:=Qn 5) (body:=Q3a C) (w:=wt)
  (fun pre Γ st ⟨_,P⟩=>(hs st P.old).2)
  (fun pre x a4 Γ st hx ⟨⟨d,a3⟩,P⟩=>by
   subst a3;obtain ⟨a6,e,P2⟩:=Qs4 w (by rw [<- hx]; exact hl) (by rw [<- hx]; exact ok) P DV;exact ⟨_,rfl,_,_,e,⟨_,rfl⟩,P2⟩)
  (Γ:=plG tb DV S.length n none) (st:=z) ⟨⟨_,rfl⟩,P0⟩
 have r:=(RI.start w).run ok;obtain ⟨s,G⟩:∃ s,Yz n (s0 n tb) xs=s:=⟨_,rfl⟩;rw [G] at r ⊢;have I:=P.hs;rw [G] at I;have et:Jt (Qn 0) Ju (Q8q C) [] (Jv [none] (plG tb DV S.length n d')) ((bU n).map fun i=>PV.ref (S.length + i)) B=.ok ((bU n).map fun i=>Q7 (s.now.getD i [])) B:=by
  refine Yk _ _ (by simp) fun i hi=>⟨_,rfl,?_⟩
  have hi:i < n:=E4.mp hi;have hS:=I.at_ i hi;exact (zz (i:=S.length + i) rfl hS (y3 (by decide +kernel) (by decide +kernel) (by decide +kernel) _ _ _) (ps:=[]) (S1:=B) rfl rfl).trans (Qjc hS)
 have em:(bU n).map (fun i=>Q7 (s.now.getD i []))=s.now.map Q7:=by
  have:=Q7w s.now [] Q7;rw [this,r.ln]
 rw [em] at et;have l3:=P.len;have k:Q7z C [some (Q7 tb),some DV,none,none,none,none] S=.rt (.tup [.ref (S.length + n + 1),.ref (S.length + n + 2)]) (B ++ [.lst (s.now.map Q7)]):=by
  refine Qg (Q0s (Qu (n:=1) (Q5 rfl rfl) rfl e1)) ?_;refine Qg (Γ1:=[some (Q7 tb),some DV,some (hsV S.length n),none,none,none]) (J0 (yc (Uh a2 eh))) ?_;refine Qg (Γ1:=[some (Q7 tb),some DV,some (hsV S.length n),some (.ref (S.length + n)),none,none]) (S1:=S1 ++ [.lst []]) ((J0 (qe (ps:=[]) (S1:=S1) rfl)).trans (by rw [l1]; rfl)) ?_;refine Qg (Γ1:=plG tb DV S.length n none) (S1:=z) ((J0 (qe (ps:=[]) (S1:=S1 ++ [.lst []]) rfl)).trans (by rw [O3,l1,j]; rfl)) ?_;refine Qg (zh (Qcv (p:=DV) rfl Y (by rw [O2]; omega)) ef) ?_;have a:Q0n (Q3 2) (plG tb DV S.length n d') B=.ok ((bU n).map fun i=>PV.ref (S.length + i),[]) B:=Qcv (p:=hsV S.length n) rfl rfl (by rw [O2,F4]; omega)
  rw [Q3w,U1 (Q5 (m:=Q3 4) (p:=.ref (S.length + n + 1)) rfl (Q5 (qe (Uh a et)) rfl)) (by simp),Ve,l3]
 refine ⟨_,zn k,by rw [O3,l3]; rfl,fun t Z=>?_,?_,?_⟩
 ·rw [O5 (by omega)]; exact P.old t Z
 ·rw [O5 (by omega)]; exact P.an
 ·rw [O9 (by omega),show S.length + n + 2 - B.length=0 by omega]; rfl
theorem Qff {st st':Q2} (h:st'.length=st.length) (d:Int):fin st (.int d) st'=.ok (.int d) st':=by
 unfold fin
 by_cases q:st <+: st'
 ·rw [bN q];have:st=st':=q.eq_of_length h.symm;rw [<- this,fz]; rfl
 ·rw [bO q]
structure Mv (L:Nat) (S S':Q2):Prop where
 len:S'.length=S.length
 keep:∀ t,t≠L->S'[t]?=S[t]?
theorem Mv.refl (L:Nat) (S:Q2):Mv L S S:=⟨rfl,fun _ _=>rfl⟩
theorem Mv.trans {L:Nat} {S S1 q:Q2} (a:Mv L S S1) (b:Mv L S1 q):Mv L S q:=⟨b.len.trans a.len,fun t j=>(b.keep t j).trans (a.keep t j)⟩
theorem Q59 {st st':Q2} (h:st'.length=st.length) {v:PV} (g:Zv 12 v=true):fin st v st'=.ok v st':=by
 unfold fin
 by_cases q:st <+: st'
 ·rw [bN q];have:st=st':=q.eq_of_length h.symm;rw [<- this,Q6f g (by decide)]; rfl
 ·rw [bO q]
def Tp (S:Q2) (L:Nat):Prop:=∃ c:Int,S[L]?=some (.lst [.int c])
theorem Tp.lt {S:Q2} {L:Nat} (h:Tp S L):L < S.length:=let ⟨_,e⟩:=h; (O0.mp e).1
theorem Q29 {S:Q2} {L:Nat} (T:Tp S L) (m:Nat) (h1:1<=m) (O:m < 2 ^ 8000):∃ (d:Nat) (B:Q2),d < m/\Tp B L/\Mv L S B/\Qf [.ref L,.int m] S=.ok (.int d) B:=by
 obtain ⟨c,q⟩:=T;have Z:=(O0.mp q).1;have U:ListAt S (.ref L) [.int c]:=.inr (.inr ⟨L,rfl,q⟩);have G:oIx S (.ref L) (.int 0)=.ok (.int c) S:=by rw [U.ix]; rfl
 obtain ⟨d,hd,ed⟩:=Qz5 c h1;have I:Q15 S (.ref L) (.int 0) (.int (c / (m:Int)))=some (S.set L (.lst [.int (c / (m:Int))])):=by
  unfold Q15;simp only [q];rfl
 obtain ⟨S1,j⟩:∃ S1,S.set L (.lst [.int (c / (m:Int))])=S1:=⟨_,rfl⟩;rw [j] at I;have M:Mv L S S1:=⟨by rw [<- j,D4],fun t Y=>by rw [<- j,O6 (fun u=>Y u.symm)]⟩;refine ⟨d,S1,hd,⟨_,by rw [<- j,D7 Z]⟩,M,?_⟩;have J:Q3s S (.int c) (.int m)=.ok (.int d) S:=by
  show (if 0 < (m:Int) then _ else _)=_;rw [bN (by omega),ed]
 have z:=Qht S c m h1 O;have step:yu [some (.ref L),some (.int m),none] S=.rt (.int d) S1:=
  Qg (Γ1:=[some (.ref L),some (.int m),some (.int d)]) (J0 (Qb (Qb rfl rfl G) rfl J)) (Qg (Q71 (Qb (Qb rfl rfl G) rfl z) rfl rfl I) rfl)
 exact (W6 step).trans (Qff M.len d)
theorem Qfm {m:Nat} (h:m < 10 ^ 100):m < 2 ^ 8000:=D6 h (F3 (Nat.pow_le_pow_left (show 10<=2 ^ 4 by decide) 100) (by rw [<- Nat.pow_mul]; exact gu (by decide) (by decide)))
theorem Yx {S:Q2} {L:Nat} (T:Tp S L) (m:Nat) (h1:1<=m) (q:m < 100):∃ (d:Nat) (j:Q2),d < m/\Tp j L/\Mv L S j/\Qf [.ref L,.int m] S=.ok (.int d) j:=Q29 T m h1 (Qfm (D6 q (by decide)))
theorem Q46 (ns:List Int) (k:Nat) (S:Q2):∃ c:Int,Ya [.fro (ns.map .int),.int k] S=.ok (.ref S.length) (S ++ [.lst [.int c]]):=by
 obtain ⟨c,U⟩:∃ c:Int,Ui [.fro (ns.map .int),.int k] S=.ok (.int c) S:=by
  by_cases q:k < ns.length
  ·have e:atI (ns.map PV.int) (k:Int)=some (.int (ns.getD k 0)):=by rw [Kq,Sm.atI_get (getD_some q 0)]; rfl
   have O:(ns.map PV.int).length=ns.length:=O2 _;refine ⟨ns.getD k 0,?_⟩;generalize ns.getD k 0=x at *;generalize ns.length=nl at *;generalize ns.map PV.int=B at *;simp -implicitDefEqProofs [Ui,Qr,j9,O,q,e]
  ·have O:(ns.map PV.int).length=ns.length:=O2 _;have q':¬ (k:Int) < (ns.length:Int):=by omega
   refine ⟨0,?_⟩;generalize ns.length=nl at *;generalize ns.map PV.int=B at *;simp -implicitDefEqProofs [Ui,Qr,j9,O,q,q']
 by_cases q:c % 2=0
 ·refine ⟨c / 2,?_⟩;generalize ns.map PV.int=B at *;simp -implicitDefEqProofs [Ya,Yq,j7,U,q,Z7]
 ·obtain ⟨J,j⟩:∃ J:Int,(c % 2305843009213693951 * 48271 + 69621 * k + 11) % 2305843009213693951=J:=⟨_,rfl⟩;have I:=Q6h (c % 2305843009213693951 * 48271 + 69621 * k + 11) (b:=2305843009213693951) (by decide);rw [j] at I;obtain ⟨a2,S1,e,x,y,z,rfl,rfl,_⟩:=Uu (g:=fun k:Nat=>PV.int (k:Int)) (xs:=bU 5) (ga:=Qn 6) (body:=zp) (w:=[]) (Γ:=[some (.fro (ns.map .int)),some (.int k),some (.int c),some (.int 2305843009213693951),some (.int 0),some (.int J),none]) (st:=S)
   (fun _ Γ st'=>∃ (x y:Int) (z:Option PV),Γ=[some (.fro (ns.map .int)),some (.int k),some (.int c),some (.int 2305843009213693951),some (.int x),some (.int y),z]/\st'=S/\0<=y/\y < 2305843009213693951)
   (fun _ _ _ _=>by simp)
   (fun i t Γ st' hx ⟨x,y,z,e1,e2,y1,y2⟩=>by
    subst e1; subst e2;obtain ⟨w,Y⟩:∃ w:Int,(y * y + 40692 * k + t) % 2305843009213693951=w:=⟨_,rfl⟩;have G:=Q6h (y * y + 40692 * k + t) (b:=2305843009213693951) (by decide);rw [Y] at G;have Z:-18446744073709551616 < y/\y < 18446744073709551616:=by omega
    refine ⟨_,rfl,[some (.fro (ns.map .int)),some (.int k),some (.int c),some (.int 2305843009213693951),some (.int (x * 2305843009213693951 + y)),some (.int w),some (.int t)],st',?_,_,_,_,rfl,rfl,G.1,G.2⟩;generalize ns.map PV.int=B at *;simp -implicitDefEqProofs [zp,Z,Y])
   ⟨_,_,_,rfl,rfl,I.1,I.2⟩
  rw [<- W8] at e;refine ⟨x,?_⟩;generalize ns.map PV.int=B at *;simp -implicitDefEqProofs [Ya,Yq,j7,U,q,Z7,j,e]
theorem Q0w {n h:Nat} {tb:Tab} (z:Sz n tb) (hn:n<=100) (B:h < n) (st:Q2):Jk [Q7 tb,.int h] st=.ok (.int (Qq tb h)) st:=by
 have O:Jt (Qn 0) Ju xr [] (Jv [none,some 1,some 0] [some (Q7 tb),some (.int h),none]) (Zb 0 n) st=.ok ((bU n).map fun j=>.int (ent tb j h)) st:=by
  rw [W8];refine Yk _ _ (by simp) fun j G=>⟨_,rfl,?_⟩
  have G:=E4.mp G;have c:=jh z G (E7 B) st;exact Qb (Qb rfl rfl c.1) rfl c.2
 obtain ⟨U,Z⟩:=jh z B (E7 B) st;have J:Jt (Qn 0) Ju xq [] (Jv [none] [some (Q7 tb),some (.int h),some (.int (Yy n fun j=>ent tb j h))]) ((tb.getD h []).map .int) st=.ok ((tb.getD h []).map .int) st:=Yk _ _ (by simp) fun j G=>⟨_,rfl,rfl⟩
 have q:Yr st [Q7 tb]=.ok (.int n) st:=by simp [Q7,z.1]
 have I:Z9 (Q4 (Jc Yr (Q4 (Q3 0) Qa)) Qa) [some (Q7 tb),some (.int h),none] st=.ok (Zb 0 n,[]) st:=by
  rw [Kh,Q5 (Uw (Q5 (m:=Q3 0) (p:=Q7 tb) (S1:=st) rfl (show Qa _ st=.ok [] st from rfl)) q) (show Qa _ st=.ok [] st from rfl),J2];show (if -(lim:Int)<=(n:Int)/\(n:Int)<=lim then _ else _)=_;rw [bN (by rw [Z7]; omega),cE]
 have s1:K2 (fun ns=>some (.int ns.sum)) st [.lst ((bU n).map fun j=>.int (ent tb j h))]=.ok (.int (Yy n fun j=>ent tb j h)) st:=by
  rw [Qir]; rfl
 have s2:K2 (fun ns=>some (.int ns.sum)) st [.lst ((tb.getD h []).map .int)]=.ok (.int (tb.getD h []).sum) st:=by simp
 have Y:Xb st (J1 (tb.getD h []))=some ((tb.getD h []).map .int,[]):=rfl;have hl:((tb.getD h []).map PV.int).length<=1000000:=by rw [O2,(z.row B).2]; omega
 have step:zc [some (Q7 tb),some (.int h),none] st=.rt (.int (Qq tb h)) st:=by
  refine Qg (Γ1:=[some (Q7 tb),some (.int h),some (.int (Yy n fun j=>ent tb j h))]) (J0 (Uw (Q5 (yc (Uh I O)) rfl) s1)) ?_;rw [Q3w,Qb (Qb rfl (Uw (Q5 (yc (Uh (Qcv (Qb rfl rfl U) Y hl) J)) rfl) s2) rfl) (Qb (Qb rfl rfl U) rfl Z) rfl,Ve];unfold Qq;rw [z.1];congr 2;omega
 exact (W6 step).trans (Qgd st _)
theorem Kx {a b:ME} {Γ:Gam} {S S1 j:Q2} {x y:PV} {r:Res PV} (h1:a Γ S=.ok x S1) (h2:b Γ S1=.ok y j) (q:Q5i j x y=r):Ws a b Γ S=r:=by unfold Ws; rw [h1,J2,h2,J2,q]
theorem Qef {a b:MT} {Γ:Gam} {S S1:Q2} {r:Res Bool} (h:a Γ S=.ok true S1) (h2:b Γ S1=r):Q0y a b Γ S=r:=by rw [Qcs,h]; exact h2
theorem Qn7 {a b:MT} {Γ:Gam} {S S1:Q2} (h:a Γ S=.ok false S1):Q0y a b Γ S=.ok false S1:=by rw [Qcs,h]; rfl
theorem Xn {m:ME} {Γ:Gam} {S S1:Q2} {v:PV} (h:m Γ S=.ok v S1):Zt m Γ S=.rt v S1:=by rw [Q3w,h]; rfl
theorem Q8m (S:Q2) {a b:Int} (h:a=b):oEq S (.int a) (.int b)=.ok (.bl true) S:=by simp [h]
theorem Q8n (S:Q2) {a b:Int} (h:¬ a=b):oEq S (.int a) (.int b)=.ok (.bl false) S:=by simp [h]
theorem Q85 (S:Q2) {a b:Int} (h:a < b):oLt S (.int a) (.int b)=.ok (.bl true) S:=by simp [h]
theorem Qat (S:Q2) {a b:Int} (h:¬ a < b):oLt S (.int a) (.int b)=.ok (.bl false) S:=by
 have:oLt S (.int a) (.int b)=.ok (.bl (decide (a < b))) S:=by simp
 rw [this,bP h]
theorem Qrs (S:Q2) {a b:Int} (h:b < a):(oI fun a b=>.bl (decide (b < a))) S (.int a) (.int b)=.ok (.bl true) S:=by
 show Res.ok (PV.bl (decide (b < a))) S=_; rw [bQ h]
theorem Qrt (S:Q2) {a b:Int} (h:¬ b < a):(oI fun a b=>.bl (decide (b < a))) S (.int a) (.int b)=.ok (.bl false) S:=by
 show Res.ok (PV.bl (decide (b < a))) S=_; rw [bP h]
theorem Qtn (S:Q2) {a b:Int} (h:0 < b):Q3s S (.int a) (.int b)=.ok (.int (a % b)) S:=by
 show (if 0 < b then _ else _)=_; rw [bN h]
theorem Q3b (S:Q2) (a b:Int):Y5 S (.int a) (.int b)=.ok (.int (a + b)) S:=by simp
theorem Qje (S:Q2) (a b:Int):(oI fun a b=>.int (a - b)) S (.int a) (.int b)=.ok (.int (a - b)) S:=rfl
theorem Q0x {n i j:Nat} {tb:List (List Int)} (z:Sz n tb) (hn:n<=100) (hi:i < n) (hj:j<=n) (k:Int) (st:Q2):Y7 [Q7 tb,.int i,.int j,.int k] st=.ok (Q7 (Kb tb i j (ent tb i j + k))) st:=by
 have I:=jh z hi hj st;have q:=(z.row hi).2;have g1:J1 ((tb.getD i []).set j (ent tb i j + k))=.tup (((tb.getD i []).take j).map .int ++ [.int (ent tb i j + k)] ++ ((tb.getD i []).drop (j + 1)).map .int):=by
  unfold J1;rw [<- Q66 _ _ _ (by omega),D5,D5]; rfl
 have g2:Q7 (Kb tb i j (ent tb i j + k))=.tup ((tb.take i).map J1 ++ [J1 ((tb.getD i []).set j (ent tb i j + k))] ++ (tb.drop (i + 1)).map J1):=by
  unfold Q7 Kb;rw [<- Q66 _ _ _ (by rw [z.1]; exact hi),D5,D5]; rfl
 have c3:cut ((tb.getD i []).map PV.int) none (some (j:Int))=((tb.getD i []).take j).map .int:=by rw [y8,jm]
 have U:cut ((tb.getD i []).map PV.int) (some ((j:Int) + 1)) none=((tb.getD i []).drop (j + 1)).map .int:=by rw [y8]; exact congrArg _ (Q1n _ (j + 1))
 have c5:cut (tb.map J1) none (some (i:Int))=(tb.take i).map J1:=by rw [y8,jm]
 have c6:cut (tb.map J1) (some ((i:Int) + 1)) none=(tb.drop (i + 1)).map J1:=by rw [y8]; exact congrArg _ (Q1n _ (i + 1))
 have l3:(((tb.getD i []).take j).map PV.int).length=j:=by rw [O2,cC,q]; omega
 have O:(((tb.getD i []).drop (j + 1)).map PV.int).length=n - j:=by rw [O2,cV,q]; omega
 have l5:((tb.take i).map J1).length=i:=by rw [O2,cC,z.1]; omega
 have J:((tb.drop (i + 1)).map J1).length=n - (i + 1):=by rw [O2,cV,z.1]
 have b1:j + 1<=1000000:=by omega
 have b2:j + 1 + (n - j)<=1000000:=by omega
 have Z:i + 1<=1000000:=by omega
 have b4:i + 1 + (n - (i + 1))<=1000000:=by omega
 have B:fin st (Q7 (Kb tb i j (ent tb i j + k))) st=.ok (Q7 (Kb tb i j (ent tb i j + k))) st:=U5 (by simp [Zv,Q7,J1]);obtain ⟨Y,c2⟩:=I;have q1:oSl st (J1 (tb.getD i [])) none (some (j:Int))=.ok (.tup (((tb.getD i []).take j).map .int)) st:=by unfold J1; rw [zy,c3]
 have q2:oSl st (J1 (tb.getD i [])) (some ((j:Int) + 1)) none=.ok (.tup (((tb.getD i []).drop (j + 1)).map .int)) st:=by unfold J1; rw [zy,U]
 have q3:oSl st (Q7 tb) none (some (i:Int))=.ok (.tup ((tb.take i).map J1)) st:=by unfold Q7; rw [zy,c5]
 have G:oSl st (Q7 tb) (some ((i:Int) + 1)) none=.ok (.tup ((tb.drop (i + 1)).map J1)) st:=by unfold Q7; rw [zy,c6]
 rw [g2] at B ⊢;rw [g1] at B ⊢;generalize ent tb i j=x at *;generalize ((tb.getD i []).take j).map PV.int=v3 at *;generalize ((tb.getD i []).drop (j + 1)).map PV.int=v4 at *;generalize (tb.take i).map J1=v5 at *;generalize (tb.drop (i + 1)).map J1=v6 at *;generalize J1 (tb.getD i [])=rv at *;generalize Q7 tb=T at *;simp -implicitDefEqProofs at B;simp -implicitDefEqProofs [Y7,Qr,ze,Y,c2,q1,q2,q3,G,Z7,l3,O,l5,J,b1,b2,Z,b4,B]
theorem Qkj (st:Q2) (xs:List PV) (b:Int):Q60 st (.lst xs) (.int b)=if -(2 ^ 63)<=b/\b < 2 ^ 63/\xs.length * b.toNat<=lim then .ok (.lst (bT b.toNat xs).flatten) st else .stuck:=rfl
theorem Qvh {α:Type} (x:α):∀ n,(bT n [x]).flatten=bT n x
 | 0=>rfl
 | n + 1=>by rw [cM,cW,Qvh x n]; rfl
theorem Qcg {mr:ML} {Γ:Gam} {S S1:Q2} {ps:List PV} (h:mr Γ S=.ok ps S1) (j:ps.length<=1000000:=by decide):Q51 mr Γ S=.ok (.lst ps) S1:=by
 unfold Q51;rw [h,J2];exact bN j
theorem Qna {n:Nat} (Z:n<=8) (S:Q2):jj [.int n] S=.ok (Q7 (bT n (Kt n))) S:=by
 have G:((n:Int) + 1).toNat=n + 1:=by omega
 have U:zm [some (.int 0),some (.int n)] S=.ok (J1 (Kt n)) S:=by
  have:J1 (Kt n)=.tup (bT (n + 1) (.int 0)):=by simp [J1,Kt]
  rw [this];have I:Q60 S (.lst [.int 0]) (.int ((n:Int) + 1))=.ok (.lst (bT (n + 1) (.int 0))) S:=by
   rw [Qkj,bN ⟨by omega,by omega,by rw [Z7,G]; simp; omega⟩,G,Qvh]
  exact Uw (Q5 (Qb (Qcg rfl) (Qb rfl rfl (Q3b S _ _)) I) rfl) rfl
 have B:Jt (Qn 0) Ju zm [] (Jv [none,some 0] [some (.int n)]) (Zb 0 n) S=.ok ((bU n).map fun _=>J1 (Kt n)) S:=by
  rw [W8];refine Yk _ _ (by simp) fun j hj=>⟨_,rfl,?_⟩
  exact U
 have J:((bU n).map fun _=>J1 (Kt n))=(bT n (Kt n)).map J1:=by
  rw [fR];exact fS.mpr ⟨by simp,fun b O=>by obtain ⟨_,_,rfl⟩:=cG.mp O; rfl⟩
 rw [J] at B;have z:Z9 (Q4 (Q3 0) Qa) [some (.int n)] S=.ok (Zb 0 n,[]) S:=by
  rw [Kh,Q5 (m:=Q3 0) (p:=.int n) (S1:=S) rfl (show Qa _ S=.ok [] S from rfl),J2];show (if -(lim:Int)<=(n:Int)/\(n:Int)<=lim then _ else _)=_;rw [bN (by rw [Z7]; omega),cE]
 have ct:X8 S [.lst ((bT n (Kt n)).map J1)]=.ok (Q7 (bT n (Kt n))) S:=by
  have Y:((bT n (Kt n)).map J1).length<=1000000:=by simp; omega
  unfold Q7;generalize (bT n (Kt n)).map J1=q at *;simp [Z7,Y]
 have step:Q0k [some (.int n)] S=.rt (Q7 (bT n (Kt n))) S:=Xn (Uw (Q5 (yc (Uh z B)) rfl) ct);exact (W6 step).trans (Qc7 S _)
theorem Qfp {a b:Tab} (h:a.length=b.length) (hl:a.length<=1000) (hr:∀ r∈a,r.length<=1000) (S:Q2):K5 [Q7 a,Q7 b] S=.ok (Q7 (Zu a b)) S:=by
 obtain ⟨a4,S',e,⟨Z,U,rfl⟩,rfl⟩:=Qaz (g:=fun z:List Int × List Int=>PV.tup [J1 z.1,J1 z.2]) (xs:=a.zip b)
  (fun pre Γ st=>(∃ Z U,Γ=[some (Q7 a),some (Q7 b),some (.ref S.length),Z,U])/\st=S ++ [.lst (pre.map fun z=>J1 (Vi z.1 z.2))])
  (ga:=y4 (W5 (Qn 3) (W5 (Qn 4) y6))) (body:=xu) (w:=[]) (fun _ _ _ _=>by simp)
  (fun pre z a3 Γ st hx ⟨⟨Z,U,a2⟩,j⟩=>by
   subst a2; subst j;have hz:z∈a.zip b:=by rw [hx]; simp
   have a5:pre.length<=1000:=by
    have:=congrArg eT hx;rw [dk,O3,E3,<- h,fK] at this;omega
   have I:z.1.length<=lim:=by have:=hr _ (cj hz).1; rw [Z7]; omega
   obtain ⟨st,j⟩:∃ st,S ++ [Cell.lst (pre.map fun z=>J1 (Vi z.1 z.2))]=st:=⟨_,rfl⟩
   have gt:st[S.length]?=some (.lst (pre.map fun z=>J1 (Vi z.1 z.2))):=by rw [<- j]; simp
   rw [j];have hc:Jt (y4 (W5 (Qn 0) (W5 (Qn 1) y6))) Ju Kk [] (Jv [none,none] [some (Q7 a),some (Q7 b),some (.ref S.length),some (J1 z.1),some (J1 z.2)]) ((z.1.zip z.2).map fun z=>.tup [.int z.1,.int z.2]) st=.ok ((z.1.zip z.2).map fun z=>.int (Lw.maxI z.1 z.2)) st:=by
    refine Yk _ _ (by simp) fun u hu=>⟨_,rfl,?_⟩
    simp [Jv,Kk,Lw.maxI]
   have O:((z.1.zip z.2).map fun z=>PV.int (Lw.maxI z.1 z.2))=(Vi z.1 z.2).map .int:=by unfold Vi; rw [G9]; rfl
   rw [O] at hc;have B:Q9z (Q4 (Q3 3) (Q4 (Q3 4) Qa)) [some (Q7 a),some (Q7 b),some (.ref S.length),some (J1 z.1),some (J1 z.2)] st=.ok ((z.1.zip z.2).map fun z=>.tup [.int z.1,.int z.2],[]) st:=by
    have G:=I;rw [Z7] at G;unfold J1;simp [Q13,I,G,Z7]
   have J:((Vi z.1 z.2).map PV.int).length<=1000000:=by
    unfold Vi;rw [O2,O2,dk];have:=dm z.1.length z.2.length;rw [Z7] at I;omega
   have ct:X8 st [.lst ((Vi z.1 z.2).map .int)]=.ok (J1 (Vi z.1 z.2)) st:=by
    unfold J1;generalize (Vi z.1 z.2).map PV.int=q at *;simp [Z7,J]
   have ap:=Q28 gt (by rw [O2]; omega) (J1 (Vi z.1 z.2));refine ⟨_,rfl,_,_,Q1s (p:=.ref S.length) rfl (W1 gt) (Q5 (Uw (Q5 (yc (Uh B hc)) rfl) ct) rfl) ap,⟨_,_,rfl⟩,?_⟩;rw [<- j,D5];simp)
  (Γ:=[some (Q7 a),some (Q7 b),some (.ref S.length),none,none]) (st:=S ++ [.lst []]) ⟨⟨_,_,rfl⟩,rfl⟩
 have O:((a.zip b).map fun z=>J1 (Vi z.1 z.2))=(Zu a b).map J1:=by unfold Zu; rw [G9]; rfl
 rw [O] at e;have J:((Zu a b).map J1).length<=1000000:=by
  unfold Zu;rw [O2,O2,dk,<- h,fK];omega
 obtain ⟨st,j⟩:∃ st,S ++ [Cell.lst ((Zu a b).map J1)]=st:=⟨_,rfl⟩;have gt:ListAt st (.ref S.length) ((Zu a b).map J1):=.inr (.inr ⟨_,rfl,by rw [<- j]; simp⟩);have B:Q9z (Q4 (Q3 0) (Q4 (Q3 1) Qa)) [some (Q7 a),some (Q7 b),some (.ref S.length),none,none] (S ++ [.lst []])=.ok ((a.zip b).map fun z=>.tup [J1 z.1,J1 z.2],[]) (S ++ [.lst []]):=by
  have Y:a.length<=1000000:=by omega
  unfold Q7;simp [Q13,Y,Z7]
 have ct:X8 st [.ref S.length]=.ok (Q7 (Zu a b)) st:=by
  have z:st[S.length]?=some (.lst ((Zu a b).map J1)):=by rw [<- j]; simp
  show (match Uj st (.ref S.length) with | some xs=>Res.ok (PV.tup xs) st | none=>.stuck)=_
  rw [show Uj st (.ref S.length)=some ((Zu a b).map J1) from W1 z]; rfl
 rw [j] at e;have step:zf [some (Q7 a),some (Q7 b),none,none,none] S=.rt (Q7 (Zu a b)) st:=
  Qg (Γ1:=[some (Q7 a),some (Q7 b),some (.ref S.length),none,none]) (S1:=S ++ [.lst []]) (J0 (qe (ps:=[]) rfl)) (Qg (zh B e) (Xn (Uw (Q5 rfl rfl) ct)))
 refine (W6 step).trans ?_;rw [<- j];exact Q5a (by simp [Zv,Q7,J1])
def bM (t:Nat):Int:=10 ^ (21 + t)
theorem Q45 (t:Nat):bM (t + 1)=10 * bM t:=by
 unfold bM;rw [show 21 + (t + 1)=(21 + t) + 1 by omega,Int.pow_succ];omega
theorem Q8y:∀ t,1000000000000000000000<=bM t
 | 0=>by decide
 | t + 1=>by have:=Q8y t; rw [Q45]; omega
theorem Qrw {t:Nat} (h:t<=60):8 * bM t + 2 < 10 ^ 100:=by
 have h1:bM t<=10 ^ 90:=by
  unfold bM
  exact_mod_cast gu (n:=10) (by decide) (show 21 + t<=90 by omega)
 have h2:(8:Int) * 10 ^ 90 + 2 < 10 ^ 100:=by decide +kernel
 omega
structure Bd (n:Nat) (M:Int) (tb:Tab):Prop where
 le:∀ i j,i < n->j<=n->ent tb i j<=M
theorem Qnh {n:Nat} {f:Nat->Int} {M:Int} (h:∀ o,o < n->f o<=M):Yy n f<=n * M:=by
 induction n with
 | zero=>simp [Yy]
 | succ n j=>
  rw [Jh];have h1:=j fun o q=>h o (by omega)
  have h2:=h n (by omega);have:((n + 1:Nat):Int) * M=n * M + M:=by push_cast; rw [Int.add_mul,Int.one_mul]
  omega
theorem Qng {n:Nat} {f:Nat->Int} (h:∀ o,o < n->0<=f o):0<=Yy n f:=by
 induction n with
 | zero=>simp [Yy]
 | succ n j=>
  rw [Jh];have h1:=j fun o q=>h o (by omega)
  have h2:=h n (by omega);omega
theorem Qj9 {n:Nat} {f:Nat->Int} (h:∀ o,o < n->0<=f o) {k:Nat} (B:k < n):f k<=Yy n f:=by
 induction n with
 | zero=>omega
 | succ n z=>
  rw [Jh];have h2:=h n (by omega);have G:=Qng (n:=n) fun o j=>h o (by omega)
  by_cases q:k=n
  ·subst q; omega
  ·have h1:=z (fun o j=>h o (by omega)) (by omega)
   omega
theorem Q4k {n h:Nat} {tb:Tab} (w:Wt' n tb) {M:Int} (b:Bd n M tb) (B:0<=M) (q:h < n):Qq tb h<=8 * M:=by
 rw [V9 w.sz q];have h1:=Qnh (n:=n) (f:=fun o=>ent tb o h) fun o z=>b.le o h z (E7 q)
 have h2:=Qj9 (n:=n) (f:=fun j=>ent tb h j) (fun o z=>w.ent_nn q (E7 z)) q
 have G:=w.ent_nn q (O8 n);have I:(n:Int) * M<=8 * M:=Int.mul_le_mul_of_nonneg_right (by have:=w.n8; omega) B;have h2:ent tb h h<=Yy n fun j=>ent tb h j:=h2
 omega
theorem Bd.put {n:Nat} {tb:Tab} (w:Wt' n tb) {M:Int} (b:Bd n M tb) {d:Dd} (o:d.ok n) {K:Int} (B:M + d.k<=K):Bd n K (d.put n tb):=by
 refine ⟨fun i j hi q=>?_⟩;unfold Dd.put;rw [Q0t w.sz (Dd.ok_h o) (Dd.ok_pl o)];have h1:=b.le i j hi q;have h2:=Dd.ok_k o;have z:=b.le d.h (d.pl n) (Dd.ok_h o) (Dd.ok_pl o)
 split <;> omega
theorem Bd.up {n:Nat} {tb:Tab} {M K:Int} (b:Bd n M tb) (h:M<=K):Bd n K tb:=⟨fun i j hi q=>bi (b.le i j hi q) h⟩
theorem Qmv {n:Nat} {tb:Tab} (w:Wt' n tb) (c:Ca n tb) {d:Dd} (o:d.ok n) (G:d.isM=false->d.k<=Qq tb d.h):Wt' n (d.put n tb)/\Ca n (d.put n tb):=by
 have z:=Dd.ok_h o;have j:=Dd.ok_k o;have B:Wt' n (d.put n tb):=Qjt w o;refine ⟨B,?_⟩;cases d with
 | mk h k=>exact Ca.make w c z (by have:(1:Int)<=k:=j; omega) B
 | ld h q k=>
  have h1:k<=Qq tb h:=G rfl;have j:(1:Int)<=k:=j;exact Ca.give w c z (E7 o.2.1) o.2.2.1 (by omega) h1 (bi j h1) B
 | us h k=>
  have h1:k<=Qq tb h:=G rfl;have j:(1:Int)<=k:=j;have z:h < n:=z;exact Ca.give w c z (O8 n) (by omega) (by omega) h1 (bi j h1) B
theorem Qeg {S:Q2} {L:Nat} (T:Tp S L):∃ (k:Int) (z:Q2),(1<=k/\k<=100000000000000000000)/\Tp z L/\Mv L S z/\Vc [.ref L] S=.ok (.int k) z:=by
 obtain ⟨d,S1,hd,B,M1,e1⟩:=Yx T 12 (by decide) (by decide);have e1:Qf [.ref L,.int 12] S=.ok (.int d) S1:=e1
 by_cases q:d=11
 ·obtain ⟨x,j,I,G,M2,e2⟩:=Yx B 3 (by decide) (by decide);have e2:Qf [.ref L,.int 3] S1=.ok (.int x) j:=e2;have M:=M1.trans M2;have hp:Qki S1 (.int 10) (.int 20)=.ok (.int 100000000000000000000) S1:=by
   rw [Qkh,bN (by decide)]; rfl
  have step:j8 [some (.ref L),none] S=.rt (.int (100000000000000000000 - (x:Int))) j:=
   Qg (Γ1:=[some (.ref L),some (.int d)]) (J0 (Qu (n:=2) (Q5 rfl (Q5 rfl rfl)) rfl e1)) (jr (zu (J6 (Qb rfl rfl (Q8m S1 (by omega)))) (Xn (Qb (Qb rfl rfl hp) (Qu (n:=2) (Q5 rfl (Q5 rfl rfl)) rfl e2) (Qje j _ _)))))
  exact ⟨_,j,by omega,G,M,(W6 step).trans (Qff M.len _)⟩
 ·have b:=Q6h (d:Int) (b:=7) (by decide);have step:j8 [some (.ref L),none] S=.rt (.int (1 + (d:Int) % 7)) S1:=
   Qg (Γ1:=[some (.ref L),some (.int d)]) (J0 (Qu (n:=2) (Q5 rfl (Q5 rfl rfl)) rfl e1)) (Qg (V3 (J6 (Qb rfl rfl (Q8n S1 (by omega)))) rfl) (Xn (Qb rfl (Qb rfl rfl (Qtn S1 (by decide))) (Q3b S1 _ _))))
  exact ⟨_,S1,by omega,B,M1,(W6 step).trans (Qff M1.len _)⟩
theorem Qg2 {n i y:Nat} (hi:i < n) (j:y < n - 1):∃ q:Nat,((i:Int) + 1 + (y:Int)) % (n:Int)=(q:Int)/\q < n/\q≠i:=by
 by_cases h:i + 1 + y < n
 ·exact ⟨i + 1 + y,by rw [gv (by omega) (by omega)]; omega,h,by omega⟩
 ·refine ⟨i + 1 + y - n,?_,by omega,by omega⟩;have e:((i:Int) + 1 + (y:Int))=((i + 1 + y - n:Nat):Int) + (n:Int):=by omega
  rw [e,Int.add_emod_right,gv (by omega) (by omega)]
abbrev tbG (L n m:Nat) (tb:Tab) (c4 c5 c6 c7 c8:Option PV):Gam:=[some (.ref L),some (.int n),some (.int m),some (Q7 tb),c4,c5,c6,c7,c8]
structure TbI (n:Nat) (t:Nat) (tb:Tab):Prop where
 w:Wt' n tb
 c:Ca n tb
 b:Bd n (bM t) tb
theorem TbI.put {n t:Nat} {tb:Tab} (I:TbI n t tb) {d:Dd} (o:d.ok n) (j:d.isM=false->d.k<=Qq tb d.h) (z:d.isM=true->d.k<=100000000000000000000):TbI n (t + 1) (d.put n tb):=by
 have h:=Qmv I.w I.c o j;refine ⟨h.1,h.2,I.b.put I.w o ?_⟩;have g:=Q8y t;rw [Q45];cases q:d.isM with
 | true=>have:=z q; omega
 | false=>
  have h1:=j q;have h2:=Q4k I.w I.b (by omega) (Dd.ok_h o);omega
theorem Qee {S:Q2} {L n m t:Nat} {tb:Tab} (T:Tp S L) (I:TbI n t tb) (ht:t<=20) (G c5 c6 Z J:Option PV):∃ (a4:Tab) (S':Q2) (d5 d6 d7 d8:Option PV),TbI n (t + 1) a4/\Tp S' L/\Mv L S S'/\qr (tbG L n m tb G c5 c6 Z J) S=.nx (tbG L n m a4 G d5 d6 d7 d8) S':=by
 have w:=I.w;have h1:=w.n1;have h8:=w.n8;obtain ⟨i,S1,hi,T1,M1,e1⟩:=Yx T n h1 (by omega);obtain ⟨y,B,hy,T2,M2,e2⟩:=Yx T1 4 (by decide) (by decide);have e2:Qf [.ref L,.int 4] S1=.ok (.int y) B:=e2;have e3:=Q0w w.sz (by omega) hi B;obtain ⟨r,hr⟩:∃ r:Nat,Qq tb i=(r:Int):=⟨(Qq tb i).toNat,by have:=I.c.nn i hi; omega⟩;rw [hr] at e3;have O:=M1.trans M2;have k1:J9 5 (Qj 2 Qf (Q4 (Q3 0) (Q4 (Q3 1) Qa))) (tbG L n m tb G c5 c6 Z J) S=.nx (tbG L n m tb G (some (.int i)) c6 Z J) S1:=J0 (Qu (n:=2) (Q5 rfl (Q5 rfl rfl)) rfl e1);have k2:J9 6 (Qj 2 Qf (Q4 (Q3 0) (Q4 (mC (.int 4)) Qa))) (tbG L n m tb G (some (.int i)) c6 Z J) S1=.nx (tbG L n m tb G (some (.int i)) (some (.int y)) Z J) B:=J0 (Qu (n:=2) (Q5 rfl (Q5 rfl rfl)) rfl e2);have k3:J9 7 (Qj 2 Jk (Q4 (Q3 3) (Q4 (Q3 5) Qa))) (tbG L n m tb G (some (.int i)) (some (.int y)) Z J) B=.nx (tbG L n m tb G (some (.int i)) (some (.int y)) (some (.int r)) J) B:=J0 (Qu (n:=2) (Q5 rfl (Q5 rfl rfl)) rfl e3)
 have a7:=Q4k w I.b (by have:=Q8y t; omega) hi;have a6:=Qrw (t:=t) (by omega);have a3:r < 2 ^ 8000:=Qfm (by
  have:(r:Int) < 10 ^ 100:=by omega
  exact_mod_cast this)
 by_cases q:y < 2\/r=0
 ·obtain ⟨k,U,hk,T3,M3,e4⟩:=Qeg T2;have o:(Dd.mk i k).ok n:=⟨hi,hk.1⟩;have e5:=Q0x w.sz (by omega) hi (E7 hi) k U;refine ⟨_,U,_,_,_,_,I.put o (fun z=>by cases z) (fun _=>hk.2),T3,O.trans M3,Qg k1 (Qg k2 (Qg k3 (zu ?_ (J0 (Qu (n:=4) (Q5 rfl (Q5 rfl (Q5 rfl (Q5 (Qu (n:=1) (Q5 rfl rfl) rfl e4) rfl)))) rfl e5)))))⟩
  by_cases q1:y < 2
  ·exact Qw3 (J6 (Qb rfl rfl (Q85 B (by omega))))
  ·exact Qpv (J6 (Qb rfl rfl (Qat B (by omega)))) (J6 (Qb rfl rfl (Q8m B (by omega))))
 ·have a2:1<=r:=by omega
  have t1:Q5m (toB (mOp oLt (Q3 6) (mC (.int 2)))) (toB (mOp oEq (Q3 7) (mC (.int 0)))) (tbG L n m tb G (some (.int i)) (some (.int y)) (some (.int r)) J) B=.ok false B:=Qpv (J6 (Qb rfl rfl (Qat B (by omega)))) (J6 (Qb rfl rfl (Q8n B (by omega))))
  by_cases q2:y=2/\1 < n
  ·obtain ⟨z,U,hz,T3,M3,e4⟩:=Yx T2 (n - 1) (by omega) (by omega);have e4:Qf [.ref L,.int ((n:Int) - 1)] B=.ok (.int z) U:=by rw [show ((n:Int) - 1)=((n - 1:Nat):Int) by omega]; exact e4
   obtain ⟨j,ej,hj,a5⟩:=Qg2 hi hz;obtain ⟨x,Y,hx,T4,M4,e5⟩:=Q29 T3 r a2 a3;have o:(Dd.ld i j (1 + (x:Int))).ok n:=⟨hi,hj,a5,by omega⟩;have e6:=Q0x w.sz (by omega) hi (E7 hj) (1 + (x:Int)) Y;refine ⟨_,Y,_,_,_,_,I.put o (fun _=>?_) (fun z=>by cases z),T4,(O.trans M3).trans M4,Qg k1 (Qg k2 (Qg k3 (V3 t1 (zu (Qef (J6 (Qb rfl rfl (Q8m B (by omega)))) (J6 (Qb rfl rfl (Qrs B (by omega))))) (Qg (Γ1:=tbG L n m tb G (some (.int i)) (some (.int y)) (some (.int r)) (some (.int j))) (S1:=U) (J0 (Qb (Qb (Qb rfl rfl (Q3b B _ _)) (Qu (n:=2) (Q5 rfl (Q5 (Qb rfl rfl (Qje B _ _)) rfl)) rfl e4) (Q3b U _ _)) rfl ?_)) (J0 (Qu (n:=4) (Q5 rfl (Q5 rfl (Q5 rfl (Q5 (Qb rfl (Qu (n:=2) (Q5 rfl (Q5 rfl rfl)) rfl e5) (Q3b Y _ _)) rfl)))) rfl e6)))))))⟩
   ·show 1 + (x:Int)<=Qq tb i;rw [hr]; omega
   ·rw [Qtn U (by omega),ej]
  ·obtain ⟨x,Y,hx,T4,M4,e5⟩:=Q29 T2 r a2 a3;have o:(Dd.us i (1 + (x:Int))).ok n:=⟨hi,by omega⟩;have e6:=Q0x w.sz (by omega) hi (O8 n) (1 + (x:Int)) Y;have t2:Q0y (toB (mOp oEq (Q3 6) (mC (.int 2)))) (toB (mOp (oI fun a b=>.bl (decide (b < a))) (Q3 1) (mC (.int 1)))) (tbG L n m tb G (some (.int i)) (some (.int y)) (some (.int r)) J) B=.ok false B:=by
    by_cases q3:y=2
    ·exact Qef (J6 (Qb rfl rfl (Q8m B (by omega)))) (J6 (Qb rfl rfl (Qrt B (by omega))))
    ·exact Qn7 (J6 (Qb rfl rfl (Q8n B (by omega))))
   refine ⟨_,Y,_,_,_,_,I.put o (fun _=>?_) (fun z=>by cases z),T4,O.trans M4,Qg k1 (Qg k2 (Qg k3 (V3 t1 (V3 t2 (J0 (Qu (n:=4) (Q5 rfl (Q5 rfl (Q5 rfl (Q5 (Qb rfl (Qu (n:=2) (Q5 rfl (Q5 rfl rfl)) rfl e5) (Q3b Y _ _)) rfl)))) rfl e6))))))⟩;show 1 + (x:Int)<=Qq tb i;rw [hr]; omega
theorem Qmd {n i j:Nat} (hi:i < n) (q:j<=n):ent (bT n (Kt n)) i j=0:=by
 unfold ent;rw [F7 (l:=bT n (Kt n)),G7,bN hi,Option.getD_some,Kt,F7,G7,bN (by omega)]; rfl
theorem Qiw {S:Q2} {L n m:Nat} (T:Tp S L) (h1:1<=n) (O:n<=8) (hm:m<=9):∃ (tb:Tab) (q:Q2),TbI n m tb/\Tp q L/\Mv L S q/\Ux [.ref L,.int n,.int m] S=.ok (Q7 tb) q:=by
 have w0:=Qnb h1 O;have I0:TbI n 0 (bT n (Kt n)):=⟨w0,Ca.zero h1 O w0,⟨fun i j hi hj=>by rw [Qmd hi hj]; have:=Q8y 0; omega⟩⟩;obtain ⟨a3,q,e,tb,U,G,z,B,J,rfl,I,Z,M⟩:=Uu (g:=fun k:Nat=>PV.int (k:Int)) (xs:=bU m) (ga:=Qn 4) (body:=qr) (w:=[]) (Γ:=tbG L n m (bT n (Kt n)) none none none none none) (st:=S)
  (fun t Γ st=>∃ tb U G z B J,Γ=tbG L n m tb U G z B J/\TbI n t tb/\Tp st L/\Mv L S st) (fun _ _ _ _=>by simp)
  (fun t x Γ st hx ⟨tb,U,G,z,B,J,a2,I,T,M⟩=>by
   subst a2;have a5:t < m:=by simpa using (O0.mp hx).1
   obtain ⟨a4,q,d5,d6,d7,d8,I',Z,M',e⟩:=Qee (m:=m) T I (by omega) (some (.int x)) G z B J;exact ⟨_,rfl,_,_,e,_,_,_,_,_,_,rfl,I',Z,M.trans M'⟩)
  ⟨_,_,_,_,_,_,rfl,I0,T,Mv.refl L S⟩
 rw [F4] at I;rw [<- W8] at e;have Y:Z9 (Q4 (Q3 2) Qa) (tbG L n m (bT n (Kt n)) none none none none none) S=.ok (Zb 0 m,[]) S:=by
  rw [Kh,Q5 (m:=Q3 2) (p:=.int m) (S1:=S) rfl (show Qa _ S=.ok [] S from rfl),J2];show (if -(lim:Int)<=(m:Int)/\(m:Int)<=lim then _ else _)=_;rw [bN (by rw [Z7]; omega),cE]
 have step:yn [some (.ref L),some (.int n),some (.int m),none,none,none,none,none,none] S=.rt (Q7 tb) q:=
  Qg (Γ1:=tbG L n m (bT n (Kt n)) none none none none none) (J0 (Qu (n:=1) (Q5 rfl rfl) rfl (Qna O S))) (Qg (zh Y e) rfl)
 exact ⟨tb,q,I,Z,M,(W6 step).trans (Q59 M.len (by simp [Zv,Q7,J1]))⟩
theorem Qj1 (ns:List Int):∃ (n:Nat) (tb:Tab),(1<=n/\n<=8)/\TbI n 8 tb/\Ks [.fro (ns.map .int)] []=.ok (Q7 tb) []:=by
 obtain ⟨c,j⟩:=Q46 ns 0 [];have j:Ya [.fro (ns.map .int),.int 0] []=.ok (.ref 0) [.lst [.int c]]:=j;have J:Tp [.lst [.int c]] 0:=⟨c,rfl⟩;obtain ⟨a,S1,ha,G,M1,e1⟩:=Yx J 8 (by decide) (by decide);have e1:Qf [.ref 0,.int 8] [.lst [.int c]]=.ok (.int a) S1:=e1;obtain ⟨m,z,Y,B,M2,e2⟩:=Yx G 9 (by decide) (by decide);have e2:Qf [.ref 0,.int 9] S1=.ok (.int m) z:=e2;obtain ⟨tb,q,I,U,O,e3⟩:=Qiw (n:=1 + a) (m:=m) B (by omega) (by omega) (by omega);have e3:Ux [.ref 0,.int (1 + (a:Int)),.int m] z=.ok (Q7 tb) q:=by rw [show (1 + (a:Int))=((1 + a:Nat):Int) by omega]; exact e3
 have up:∀ t k,bM t<=bM (t + k):=fun t k=>by
  induction k with
  | zero=>exact bg _
  | succ k Z=>have:=Q45 (t + k); have:=Q8y (t + k); rw [show t + (k + 1)=t + k + 1 by omega]; omega
 refine ⟨1 + a,tb,by omega,⟨I.w,I.c,I.b.up ?_⟩,?_⟩
 ·have:=up m (8 - m); rwa [show m + (8 - m)=8 by omega] at this
 have step:yw [some (.fro (ns.map .int)),none,none] []=.rt (Q7 tb) q:=
  Qg (Γ1:=[some (.fro (ns.map .int)),some (.ref 0),none]) (J0 (Qu (n:=2) (Q5 rfl (Q5 rfl rfl)) rfl j)) (Qg (Γ1:=[some (.fro (ns.map .int)),some (.ref 0),some (.int (1 + (a:Int)))]) (J0 (Qb rfl (Qu (n:=2) (Q5 rfl (Q5 rfl rfl)) rfl e1) (Q3b S1 _ _))) (Xn (Qu (n:=3) (Q5 rfl (Q5 rfl (Q5 (Qu (n:=2) (Q5 rfl (Q5 rfl rfl)) rfl e2) rfl))) rfl e3)))
 refine (W6 step).trans ?_;exact Q5a (st:=[]) (more:=q) (by simp [Zv,Q7,J1])
def stD:List (Key × PV):=[(.inr "now",.ref 0),(.inr "last",.ref 1),(.inr "letters",.ref 2)]
structure LS (s:RS) (S:Q2):Prop where
 now:S[0]?=some (.lst (s.now.map Q7))
 last:S[1]?=some (.lst (s.last.map Q7))
 le:S[2]?=some (.lst (s.le.map Q7))
 st:S[3]?=some (.dic stD)
theorem LS.of {s:RS} {S j:Q2} (h:LS s S) (e:∀ t,t < 4->j[t]?=S[t]?):LS s j:=
 ⟨by rw [e 0 (by decide)]; exact h.now,by rw [e 1 (by decide)]; exact h.last,by rw [e 2 (by decide)]; exact h.le,by rw [e 3 (by decide)]; exact h.st⟩
theorem LS.mv {s:RS} {S j:Q2} {L:Nat} (h:LS s S) (M:Mv L S j) (q:4<=L):LS s j:=h.of fun t z=>M.keep t (by omega)
theorem Qf3:¬ ((.inr (bR "now"):Key)=.inr (bR "last")):=by decide +kernel
theorem Qhu:¬ ((.inr (bR "now"):Key)=.inr (bR "letters")):=by decide +kernel
theorem Qf4:¬ ((.inr (bR "last"):Key)=.inr (bR "letters")):=by decide +kernel
theorem Qv0:Q2a stD (.inr "now")=some (.ref 0):=by simp [Q2a,stD]
theorem Qrz:Q2a stD (.inr "last")=some (.ref 1):=by
 unfold Q2a stD;rw [fT (by simpa using Qf3)];simp
theorem Qv1:Q2a stD (.inr "letters")=some (.ref 2):=by
 unfold Q2a stD;rw [fT (by simpa using Qhu),fT (by simpa using Qf4)];simp
theorem Qmi {S:Q2} {i:Nat} {kvs:List (Key × PV)} (h:S[i]?=some (.dic kvs)) {x:Str} {v:PV} (e:Q2a kvs (.inr x)=some v):Q5i S (.ref i) (.str x)=.ok v S:=by
 have h1:Qb2 S (.ref i)=some kvs:=by unfold Qb2; simp only [h]
 unfold Q5i;rw [h1];show (match Q2a kvs (.inr x) with | some v=>Res.ok v S | none=>.stuck)=_
 rw [e]
section
variable {s:RS} {S:Q2}
theorem LS.gn (h:LS s S):Q5i S (.ref 3) (.str "now")=.ok (.ref 0) S:=Qmi h.st Qv0
theorem LS.gl (h:LS s S):Q5i S (.ref 3) (.str "last")=.ok (.ref 1) S:=Qmi h.st Qrz
theorem LS.ge (h:LS s S):Q5i S (.ref 3) (.str "letters")=.ok (.ref 2) S:=Qmi h.st Qv1
theorem xx {k i:Nat} {xs:List Tab} (h:S[k]?=some (.lst (xs.map Q7))) (hi:i < xs.length):oIx S (.ref k) (.int i)=.ok (Q7 (xs.getD i [])) S:=by
 have j:ListAt S (.ref k) (xs.map Q7):=.inr (.inr ⟨k,rfl,h⟩);rw [j.ix,Kq,Sm.atI_get (getD_some hi [])]; rfl
theorem Q65 {k i:Nat} {xs:List Tab} (h:S[k]?=some (.lst (xs.map Q7))) (hi:i < xs.length) (t:Tab):Q15 S (.ref k) (.int i) (Q7 t)=some (S.set k (.lst ((xs.set i t).map Q7))):=by
 have e:ixN (xs.map Q7).length (i:Int)=some i:=by
  rw [O2];unfold ixN;rw [bN (by omega),bN (by omega)]; simp
 unfold Q15;simp only [h,e];rw [List.map_set]; rfl
end
theorem Qn5 {n:Nat} {s:RS} {S:Q2} (h:LS s S) (r:RI n s) {x:Dx} (o:x.ok n s) (hl:s.le.length < 100000):∃ S',ji [.ref 3,x.V] S=.ok (Qa6 s x) S'/\LS (Jw n s x) S'/\S'.length=S.length/\∀ t,3<=t->S'[t]?=S[t]?:=by
 have b0:=(O0.mp h.now).1;have b1:=(O0.mp h.last).1;have b2:=(O0.mp h.le).1;have G:∀ xs:List Tab,LS ⟨xs,s.last,s.le⟩ (S.set 0 (.lst (xs.map Q7))):=fun xs=>⟨D7 b0,by rw [O6 (by decide)]; exact h.last,by rw [O6 (by decide)]; exact h.le,by rw [O6 (by decide)]; exact h.st⟩
 have ext:∀ (k:Nat) (c:Cell),k < 3->∀ t,3<=t->(S.set k c)[t]?=S[t]?:=fun k c hk t ht=>O6 (by omega)
 have fg:∀ (k:Nat) (c:Cell),fin S (.str "done") (S.set k c)=.ok (.str "done") (S.set k c):=fun k c=>Q59 D4 rfl
 cases x with
 | own d=>
  have J:=Dd.ok_h o;have hi:d.h < s.now.length:=by rw [r.ln]; exact J
  have w:=r.wn d.h J;have h8:=w.n8;have ix:=xx h.now hi;have er:=Q0w w.sz (by omega) J S;have en:Yr S [.ref 0]=.ok (.int n) S:=by
   have hV:ListAt S (.ref 0) (s.now.map Q7):=.inr (.inr ⟨0,rfl,h.now⟩);rw [hV.len,O2,r.ln]
  have ea:=Q0x w.sz (by omega) J (Dd.ok_pl o) d.k S;have es:=Q65 h.now hi (d.put n (s.now.getD d.h []));have O:∀ (B:Str) (pl:PV),oIx S d.V (.int 0)=.ok (.str B) S->¬ B = "keep" -> ¬ B = "fall" -> ¬ B = "send" -> ¬ B = "come" -> (B = "make" <-> d.isM=true)->oIx S d.V (.int 2)=.ok pl S->Q5e "make" "use" "lend" (.int d.h) (.int n) pl S (.str B)=.ok (.int (d.pl n)) S ->
    Wm [some (.ref 3),some d.V,none,none,none,none] S=(if d.fits (s.now.getD d.h [])=true then .rt (.str "done") (S.set 0 (.lst ((s.now.set d.h (d.put n (s.now.getD d.h []))).map Q7))) else .rt (.int (Qq (s.now.getD d.h []) d.h)) S):=by
   intro B pl a0 k1 k2 k3 k4 km a2 pk;refine Qg (Γ1:=[some (.ref 3),some d.V,some (.ref 0),none,none,none]) (J0 (Kx rfl rfl h.gn)) ?_;have I:∀ Z a3:Option PV,∀ u:Str,¬ B=u->toB (mOp oEq (mOp oIx (Q3 1) (mC (.int 0))) (mC (.str u))) [some (.ref 3),some d.V,some (.ref 0),none,Z,a3] S=.ok false S:=fun Z a3 u hu=>J6 (Qb (Qb rfl rfl a0) rfl (qy S hu))
   have c1:J9 3 (mOp oIx (Q3 1) (mC (.int 1))) [some (.ref 3),some d.V,some (.ref 0),none,none,none] S=.nx [some (.ref 3),some d.V,some (.ref 0),some (.int d.h),none,none] S:=J0 (Qb rfl rfl (Dd.a1 d S));have c2:J9 4 (Qj 2 Jk (Q4 (mOp oIx (Q3 2) (Q3 3)) (Q4 (Q3 3) Qa))) [some (.ref 3),some d.V,some (.ref 0),some (.int d.h),none,none] S=.nx [some (.ref 3),some d.V,some (.ref 0),some (.int d.h),some (.int (Qq (s.now.getD d.h []) d.h)),none] S:=J0 (Qu (n:=2) (Q5 (Qb rfl rfl ix) (Q5 rfl rfl)) rfl er);have al:mOp oIx (Q3 1) (Q62 (mC (.int 1))) [some (.ref 3),some d.V,some (.ref 0),some (.int d.h),some (.int (Qq (s.now.getD d.h []) d.h)),none] S=.ok (.int d.k) S:=Qb rfl rfl (Dd.al d S);have cond:Q0y (toB (mOp oNe (mOp oIx (Q3 1) (mC (.int 0))) (mC (.str "make")))) (toB (mOp oLt (Q3 4) (mOp oIx (Q3 1) (Q62 (mC (.int 1)))))) [some (.ref 3),some d.V,some (.ref 0),some (.int d.h),some (.int (Qq (s.now.getD d.h []) d.h)),none] S=.ok (!d.fits (s.now.getD d.h [])) S:=by
    unfold Dd.fits;cases U:d.isM with
    | true=>
     have hw:=km.mpr U;rw [Bool.true_or,gM];exact Qn7 (J6 (Qb (Qb rfl rfl a0) rfl (show oNe S (.str B) (.str "make")=.ok (.bl false) S by rw [hw]; simp)))
    | false=>
     have hw:¬ B = "make" := fun z=>by rw [km.mp z] at U; cases U
     refine (Qef (J6 (Qb (Qb rfl rfl a0) rfl (show oNe S (.str B) (.str "make")=.ok (.bl true) S by simp [hw]))) ?_)
     by_cases q:d.k<=Qq (s.now.getD d.h []) d.h
     ·rw [bQ q];exact J6 (Qb rfl al (Qat S (by omega)))
     ·rw [bP q];exact J6 (Qb rfl al (Q85 S (by omega)))
   by_cases q:d.fits (s.now.getD d.h [])=true
   ·rw [bN q];rw [q] at cond;have c3:J9 5 (Qdt "make" "use" "lend" (Q3 3) (Jc Yr (Q4 (Q3 2) Qa)) (mOp oIx (Q3 1) (mC (.int 2))) (mOp oIx (Q3 1) (mC (.int 0)))) [some (.ref 3),some d.V,some (.ref 0),some (.int d.h),some (.int (Qq (s.now.getD d.h []) d.h)),none] S=.nx [some (.ref 3),some d.V,some (.ref 0),some (.int d.h),some (.int (Qq (s.now.getD d.h []) d.h)),some (.int (d.pl n))] S:=by
     refine J0 ?_;rw [Qkv,show Q3 3 [some (PV.ref 3),some d.V,some (.ref 0),some (.int d.h),some (.int (Qq (s.now.getD d.h []) d.h)),none] S=.ok (.int d.h) S from rfl,J2,Uw (Q5 (m:=Q3 2) (p:=.ref 0) rfl rfl) en,J2,Qb rfl rfl a2,J2,Qb rfl rfl a0,J2,pk]
    have c4:Q0m (Q3 2) (Q3 3) (Qj 4 Y7 (Q4 (mOp oIx (Q3 2) (Q3 3)) (Q4 (Q3 3) (Q4 (Q3 5) (Q4 (mOp oIx (Q3 1) (Q62 (mC (.int 1)))) Qa))))) [some (.ref 3),some d.V,some (.ref 0),some (.int d.h),some (.int (Qq (s.now.getD d.h []) d.h)),some (.int (d.pl n))] S=.nx [some (.ref 3),some d.V,some (.ref 0),some (.int d.h),some (.int (Qq (s.now.getD d.h []) d.h)),some (.int (d.pl n))] (S.set 0 (.lst ((s.now.set d.h (d.put n (s.now.getD d.h []))).map Q7))):=
     Q71 (Qu (n:=4) (Q5 (Qb rfl rfl ix) (Q5 rfl (Q5 rfl (Q5 (Qb rfl rfl (Dd.al d S)) rfl)))) rfl ea) rfl rfl es
    exact Qg (V3 (I none none _ k1) (V3 (I none none _ k2) (V3 (I none none _ k3) (V3 (I none none _ k4) (Qg c1 (Qg c2 (Qg (V3 cond rfl) (Qg c3 c4)))))))) rfl
   ·rw [bO q];rw [Bool.not_eq_true] at q;rw [q] at cond;exact jr (V3 (I none none _ k1) (V3 (I none none _ k2) (V3 (I none none _ k3) (V3 (I none none _ k4) (Qg c1 (Qg c2 (jr (zu cond rfl))))))))
  have j:Wm [some (.ref 3),some d.V,none,none,none,none] S=(if d.fits (s.now.getD d.h [])=true then .rt (.str "done") (S.set 0 (.lst ((s.now.set d.h (d.put n (s.now.getD d.h []))).map Q7))) else .rt (.int (Qq (s.now.getD d.h []) d.h)) S):=by
   cases d with
   | mk J k=>exact O "make" (.int k) rfl Jz Z0 Jy Z1 ⟨fun _=>rfl,fun _=>rfl⟩ rfl (by rw [Q4n,bN rfl]; rfl)
   | ld J q k=>exact O "lend" (.int q) rfl Z3 Z4 Z2 Z5 ⟨fun z=>absurd z Ji,fun z=>by cases z⟩ rfl (by rw [Q4n,bO Ji,bO Y2,bN rfl]; rfl)
   | us J k=>exact O "use" (.int k) rfl Zz Y0 Zx Y1 ⟨fun z=>absurd z Z6,fun z=>by cases z⟩ rfl (by rw [Q4n,bO Z6,bN rfl]; rfl)
  by_cases q:d.fits (s.now.getD d.h [])=true
  ·rw [bN q] at j;have z1:Qa6 s (.own d)=.str "done" := bN q;have z2:Jw n s (.own d)=⟨s.now.set d.h (d.put n (s.now.getD d.h [])),s.last,s.le⟩:=bN q;rw [z1,z2];exact ⟨_,(W6 j).trans (fg _ _),G _,D4,ext 0 _ (by decide)⟩
  ·rw [bO q] at j;have z1:Qa6 s (.own d)=.int (Qq (s.now.getD d.h []) d.h):=bO q;have z2:Jw n s (.own d)=s:=bO q;rw [z1,z2];exact ⟨S,(W6 j).trans (Qgd S _),h,rfl,fun _ _=>rfl⟩
 | kp i=>
  have hi:i < n:=o;have k:Wm [some (.ref 3),some (Dx.kp i).V,none,none,none,none] S=.rt (.str "done") (S.set 1 (.lst ((s.last.set i (s.now.getD i [])).map Q7))):=
   Qg (Γ1:=[some (.ref 3),some (Dx.kp i).V,some (.ref 0),none,none,none]) (J0 (Kx rfl rfl h.gn)) (Qg (zu (J6 (Qb (Qb rfl rfl rfl) rfl (Q41 S _))) (Q71 (Qb rfl (Qb rfl rfl rfl) (xx h.now (by rw [r.ln]; exact hi))) (Kx rfl rfl h.gl) (Qb rfl rfl rfl) (Q65 h.last (by rw [r.ll]; exact hi) _))) rfl)
  exact ⟨_,(W6 k).trans (fg _ _),⟨by rw [O6 (by decide)]; exact h.now,D7 b1,by rw [O6 (by decide)]; exact h.le,by rw [O6 (by decide)]; exact h.st⟩,D4,ext 1 _ (by decide)⟩
 | fl i=>
  have hi:i < n:=o;have k:Wm [some (.ref 3),some (Dx.fl i).V,none,none,none,none] S=.rt (.str "done") (S.set 0 (.lst ((s.now.set i (s.last.getD i [])).map Q7))):=
   Qg (Γ1:=[some (.ref 3),some (Dx.fl i).V,some (.ref 0),none,none,none]) (J0 (Kx rfl rfl h.gn)) (Qg (V3 (J6 (Qb (Qb rfl rfl rfl) rfl (qy S Jp))) (zu (J6 (Qb (Qb rfl rfl rfl) rfl (Q41 S _))) (Q71 (Qb (Kx rfl rfl h.gl) (Qb rfl rfl rfl) (xx h.last (by rw [r.ll]; exact hi))) rfl (Qb rfl rfl rfl) (Q65 h.now (by rw [r.ln]; exact hi) _)))) rfl)
  exact ⟨_,(W6 k).trans (fg _ _),G _,D4,ext 0 _ (by decide)⟩
 | sd i=>
  have hi:i < n:=o;have k:Wm [some (.ref 3),some (Dx.sd i).V,none,none,none,none] S=.rt (.str "done") (S.set 2 (.lst (s.le.map Q7 ++ [Q7 (s.last.getD i [])]))):=
   Qg (Γ1:=[some (.ref 3),some (Dx.sd i).V,some (.ref 0),none,none,none]) (J0 (Kx rfl rfl h.gn)) (Qg (V3 (J6 (Qb (Qb rfl rfl rfl) rfl (qy S Jm))) (V3 (J6 (Qb (Qb rfl rfl rfl) rfl (qy S Jn))) (zu (J6 (Qb (Qb rfl rfl rfl) rfl (Q41 S _)))
    (Q1s (Kx rfl rfl h.ge) (W1 h.le) (Q5 (Qb (Kx rfl rfl h.gl) (Qb rfl rfl rfl) (xx h.last (by rw [r.ll]; exact hi))) rfl) (Q28 h.le (by rw [O2]; omega) _))))) rfl)
  refine ⟨_,(W6 k).trans (fg _ _),⟨by rw [O6 (by decide)]; exact h.now,by rw [O6 (by decide)]; exact h.last,?_,by rw [O6 (by decide)]; exact h.st⟩,D4,ext 2 _ (by decide)⟩;rw [D7 b2];show _=some (Cell.lst ((s.le ++ [s.last.getD i []]).map Q7));rw [D5]; rfl
 | cm l i=>
  obtain ⟨Y,hi⟩:=o;have wN:=r.wn i hi;have U:s.le.getD l []∈s.le:=D2 (getD_some Y []);have wL:=r.we _ U;have h8:=wN.n8;have ej:=Qfp (a:=s.now.getD i []) (b:=s.le.getD l []) (by rw [wN.len,wL.len]) (by rw [wN.len]; omega) (fun q hq=>by rw [wN.row q hq]; omega) S;have k:Wm [some (.ref 3),some (Dx.cm l i).V,none,none,none,none] S=.rt (.str "done") (S.set 0 (.lst ((s.now.set i (Zu (s.now.getD i []) (s.le.getD l []))).map Q7))):=
   Qg (Γ1:=[some (.ref 3),some (Dx.cm l i).V,some (.ref 0),none,none,none]) (J0 (Kx rfl rfl h.gn)) (Qg (V3 (J6 (Qb (Qb rfl rfl rfl) rfl (qy S Jr))) (V3 (J6 (Qb (Qb rfl rfl rfl) rfl (qy S Js))) (V3 (J6 (Qb (Qb rfl rfl rfl) rfl (qy S Jq))) (zu (J6 (Qb (Qb rfl rfl rfl) rfl (Q41 S _)))
    (Q71 (Qu (n:=2) (Q5 (Qb rfl (Qb rfl rfl rfl) (xx h.now (by rw [r.ln]; exact hi))) (Q5 (Qb (Kx rfl rfl h.ge) (Qb rfl rfl rfl) (xx h.le Y)) rfl)) rfl ej) rfl (Qb rfl rfl rfl) (Q65 h.now (by rw [r.ln]; exact hi) _)))))) rfl)
  exact ⟨_,(W6 k).trans (fg _ _),G _,D4,ext 0 _ (by decide)⟩
structure RB (n:Nat) (M:Int) (s:RS):Prop where
 now:∀ i,i < n->Bd n M (s.now.getD i [])
 last:∀ i,i < n->Bd n M (s.last.getD i [])
 le:∀ L∈s.le,Bd n M L
def Dx.kb (M:Int):Dx->Prop
 | .own d=>d.k<=9 * M
 | _=>True
theorem RB.up {n:Nat} {M K:Int} {s:RS} (b:RB n M s) (h:M<=K):RB n K s:=⟨fun i hi=>(b.now i hi).up h,fun i hi=>(b.last i hi).up h,fun L j=>(b.le L j).up h⟩
theorem RB.step {n t:Nat} {s:RS} (b:RB n (bM t) s) (r:RI n s) {x:Dx} (o:x.ok n s) (k:x.kb (bM t)):RB n (bM (t + 1)) (Jw n s x):=by
 have g:=Q8y t;have U:bM t<=bM (t + 1):=by rw [Q45]; omega
 have u:=b.up U;have one:∀ {xs:List Tab} {h:Nat} {v:Tab},xs.length=n->h < n->(∀ i,i < n->Bd n (bM (t + 1)) (xs.getD i []))->Bd n (bM (t + 1)) v->∀ i,i < n->Bd n (bM (t + 1)) ((xs.set h v).getD i []):=fun {xs h v} hl z B hv i hi=>by
  rw [Jd (by omega)]
  split
  ·exact hv
  ·exact B i hi
 cases x with
 | own d=>
  have z:=Dd.ok_h o
  by_cases q:d.fits (s.now.getD d.h [])=true
  ·have J:Jw n s (.own d)=⟨s.now.set d.h (d.put n (s.now.getD d.h [])),s.last,s.le⟩:=bN q;rw [J];have k:d.k<=9 * bM t:=k;exact ⟨one r.ln z u.now ((b.now _ z).put (r.wn _ z) o (by rw [Q45]; omega)),u.last,u.le⟩
  ·have J:Jw n s (.own d)=s:=bO q;rw [J]; exact u
 | kp i=>exact ⟨u.now,one r.ll o u.last (u.now i o),u.le⟩
 | fl i=>exact ⟨one r.ln o u.now (u.last i o),u.last,u.le⟩
 | sd i=>
  refine ⟨u.now,u.last,fun L Y=>?_⟩;rcases E9.mp Y with h | h
  ·exact u.le L h
  ·rw [cc.mp h]; exact u.last i o
 | cm l i=>
  obtain ⟨I,z⟩:=o;have O:s.le.getD l []∈s.le:=D2 (getD_some I []);refine ⟨one r.ln z u.now ⟨fun a j B G=>?_⟩,u.last,u.le⟩;rw [Wp (r.wn i z).sz (r.we _ O).sz B G];have h1:=(u.now i z).le a j B G;have h2:=(u.le _ O).le a j B G;rcases Qbv (ent (s.now.getD i []) a j) (ent (s.le.getD l []) a j) with e | e
  ·rw [e]; exact h1
  ·rw [e]; exact h2
theorem Qwp {S:Q2} {k:Nat} {xs:List Tab} (h:S[k]?=some (.lst (xs.map Q7))) (j:xs≠[]):oEq S (.ref k) (.lst [])=.ok (.bl false) S:=by
 have g:Zv dep (.lst (xs.map Q7))=true:=by
  simp [dep,Zv,Q7,J1]
 cases xs with
 | nil=>exact absurd rfl j
 | cons a xs=>
  have g2:Zv dep (.lst [])=true:=rfl;have hp:peq (.lst (Q7 a :: xs.map Q7)) (.lst [])=false:=by rw [peq]; rfl
  simp only [F5] at h g;simp [oEq,der,h,g,g2,hp]
abbrev drG (L:Nat) (c2 c3 c4 c5 c6:Option PV):Gam:=[some (.ref L),some (.ref 3),c2,c3,c4,c5,c6]
theorem Qj0 {n t L:Nat} {s:RS} {S:Q2} (h:LS s S) (r:RI n s) (b:RB n (bM t) s) (ht:t<=60) (T:Tp S L) (hL:4<=L) (a9:s.le.length < 90) (h1:1<=n) (h8:n<=8) :
  ∃ (x:Dx) (Y:Q2),x.ok n s/\x.kb (bM t)/\Tp Y L/\Mv L S Y/\Vp [.ref L,.ref 3] S=.ok x.V Y:=by
 have en:Yr S [.ref 0]=.ok (.int n) S:=by
  have hV:ListAt S (.ref 0) (s.now.map Q7):=.inr (.inr ⟨0,rfl,h.now⟩);rw [hV.len,O2,r.ln]
 obtain ⟨i,S1,hi,T1,M1,e1⟩:=Yx T n h1 (by omega);obtain ⟨y,S2,hy,T2,M2,e2⟩:=Yx T1 12 (by decide) (by decide);have e2:Qf [.ref L,.int 12] S1=.ok (.int y) S2:=e2;have a4:=M1.trans M2;have l2:=h.mv a4 hL;have w:=r.wn i hi;have e3:=Q0w w.sz (by omega) hi S2;have ix:=xx l2.now (show i < s.now.length by rw [r.ln]; exact hi);obtain ⟨v,hv⟩:∃ v:Nat,(if Qq (s.now.getD i []) i > 0 then Qq (s.now.getD i []) i else 0)=(v:Int):=⟨(if Qq (s.now.getD i []) i > 0 then Qq (s.now.getD i []) i else 0).toNat,by split <;> omega⟩;have g:=Q8y t;have b0:(v:Int)<=8 * bM t:=by
  have:=Q4k w (b.now i hi) (by omega) hi;rw [<- hv]; split <;> omega
 have a8:=Qrw (t:=t) ht;have a7:v + 2 < 2 ^ 8000:=Qfm (by
  have:((v + 2:Nat):Int) < 10 ^ 100:=by omega
  exact_mod_cast this)
 obtain ⟨z,B,hz,T3,M3,e4⟩:=Q29 T2 (v + 2) (by omega) a7;have e4:Qf [.ref L,.int ((v:Int) + 2)] S2=.ok (.int z) B:=e4;have I:=a4.trans M3;have l3:=h.mv I hL;have em:Qa5 S2 [.int 0,.int (Qq (s.now.getD i []) i)]=.ok (.int v) S2:=by rw [Qeb,hv]
 have k1:J9 2 (Jc Yr (Q4 (Ws (Q3 1) (mC (.str "now"))) Qa)) (drG L none none none none none) S=.nx (drG L (some (.int n)) none none none none) S:=J0 (Uw (Q5 (Kx rfl rfl h.gn) rfl) en);have k2:J9 3 (Qj 2 Qf (Q4 (Q3 0) (Q4 (Q3 2) Qa))) (drG L (some (.int n)) none none none none) S=.nx (drG L (some (.int n)) (some (.int i)) none none none) S1:=J0 (Qu (n:=2) (Q5 rfl (Q5 rfl rfl)) rfl e1);have k3:J9 4 (Qj 2 Qf (Q4 (Q3 0) (Q4 (mC (.int 12)) Qa))) (drG L (some (.int n)) (some (.int i)) none none none) S1=.nx (drG L (some (.int n)) (some (.int i)) (some (.int y)) none none) S2:=J0 (Qu (n:=2) (Q5 rfl (Q5 rfl rfl)) rfl e2);have k4:J9 5 (Jc Qa5 (Q4 (mC (.int 0)) (Q4 (Qj 2 Jk (Q4 (mOp oIx (Ws (Q3 1) (mC (.str "now"))) (Q3 3)) (Q4 (Q3 3) Qa))) Qa))) (drG L (some (.int n)) (some (.int i)) (some (.int y)) none none) S2=.nx (drG L (some (.int n)) (some (.int i)) (some (.int y)) (some (.int v)) none) S2:=J0 (Uw (Q5 rfl (Q5 (Qu (n:=2) (Q5 (Qb (Kx rfl rfl l2.gn) rfl ix) (Q5 rfl rfl)) rfl e3) rfl)) em)
 obtain ⟨G,hG⟩:∃ G,drG L (some (.int n)) (some (.int i)) (some (.int y)) (some (.int v)) (some (.int (1 + (z:Int))))=G:=⟨_,rfl⟩;have k5:J9 6 (mOp Y5 (mC (.int 1)) (Qj 2 Qf (Q4 (Q3 0) (Q4 (mOp Y5 (Q3 5) (mC (.int 2))) Qa)))) (drG L (some (.int n)) (some (.int i)) (some (.int y)) (some (.int v)) none) S2=.nx G B:=by
  rw [<- hG];exact J0 (Qb rfl (Qu (n:=2) (Q5 rfl (Q5 (Qb rfl rfl (Q3b S2 _ _)) rfl)) rfl e4) (Q3b B _ _))
 have v0:Q3 0 G B=.ok (.ref L) B:=by rw [<- hG]; rfl
 have v1:Q3 1 G B=.ok (.ref 3) B:=by rw [<- hG]; rfl
 have v2:∀ S,Q3 2 G S=.ok (.int n) S:=fun S=>by rw [<- hG]; rfl
 have v3:∀ S,Q3 3 G S=.ok (.int i) S:=fun S=>by rw [<- hG]; rfl
 have Z:Q3 4 G B=.ok (.int y) B:=by rw [<- hG]; rfl
 have v6:∀ S,Q3 6 G S=.ok (.int (1 + (z:Int))) S:=fun S=>by rw [<- hG]; rfl
 have fg:∀ {Y:Q2} (x:Dx),Mv L S Y->fin S x.V Y=.ok x.V Y:=fun {Y} x M=>Q59 M.len (by cases x with | own d=>cases d <;> rfl | _=>rfl)
 have J:∀ (x:Dx) (Y:Q2),Mv L S Y->_->Vp [.ref L,.ref 3] S=.ok x.V Y:=fun x Y M (q:_=SR.rt x.V Y)=>(W6 (m:=yt) (nl:=7) (ps:=[.ref L,.ref 3]) (Qg k1 (Qg k2 (Qg k3 (Qg k4 (Qg k5 q)))))).trans (fg x M)
 by_cases q0:y=0
 ·obtain ⟨k,O,hk,T4,U,e5⟩:=Qeg T3;refine ⟨.own (.mk i k),O,⟨hi,hk.1⟩,?_,T4,I.trans U,J _ _ (I.trans U) (jr (zu (J6 (Qb Z rfl (Q8m B (by omega)))) (Xn (U1 (Q5 rfl (Q5 (v3 B) (Q5 (Qu (n:=1) (Q5 v0 rfl) rfl e5) rfl))) (by simp)))))⟩;show k<=9 * bM t;omega
 have t0:Yt (toB (mOp oEq (Q3 4) (mC (.int 0)))) (Zt (Uf (Q4 (mC (.str "make")) (Q4 (Q3 3) (Q4 (Qj 1 Vc (Q4 (Q3 0) Qa)) Qa))))) Yb G B=.nx G B:=V3 (J6 (Qb Z rfl (Q8n B (by omega)))) rfl
 by_cases q1:y < 4/\1 < n
 ·obtain ⟨u,O,hu,T4,U,e5⟩:=Yx T3 (n - 1) (by omega) (by omega);have e5:Qf [.ref L,.int ((n:Int) - 1)] B=.ok (.int u) O:=by rw [show ((n:Int) - 1)=((n - 1:Nat):Int) by omega]; exact e5
  obtain ⟨j,ej,hj,a2⟩:=Qg2 hi hu;refine ⟨.own (.ld i j (1 + (z:Int))),O,⟨hi,hj,a2,by omega⟩,?_,T4,I.trans U,J _ _ (I.trans U) (Qg t0 (jr (zu (Qef (J6 (Qb Z rfl (Q85 B (by omega)))) (J6 (Qb (v2 B) rfl (Qrs B (by omega))))) (Xn (U1 (Q5 rfl (Q5 (v3 B) (Q5 (Qb (Qb (Qb (v3 B) rfl (Q3b B _ _)) (Qu (n:=2) (Q5 v0 (Q5 (Qb (v2 B) rfl (Qje B _ _)) rfl)) rfl e5) (Q3b O _ _)) (v2 O) (by rw [Qtn O (by omega),ej])) (Q5 (v6 O) rfl)))) (by simp))))))⟩;show 1 + (z:Int)<=9 * bM t;omega
 have t1:Yt (Q0y (toB (mOp oLt (Q3 4) (mC (.int 4)))) (toB (mOp (oI fun a b=>.bl (decide (b < a))) (Q3 2) (mC (.int 1))))) (Zt (Uf (Q4 (mC (.str "lend")) (Q4 (Q3 3) (Q4 (mOp Q3s (mOp Y5 (mOp Y5 (Q3 3) (mC (.int 1))) (Qj 2 Qf (Q4 (Q3 0) (Q4 (mOp (oI fun a b=>.int (a - b)) (Q3 2) (mC (.int 1))) Qa)))) (Q3 2)) (Q4 (Q3 6) Qa)))))) Yb G B=.nx G B:=by
  refine V3 ?_ rfl
  by_cases q2:y < 4
  ·exact Qef (J6 (Qb Z rfl (Q85 B (by omega)))) (J6 (Qb (v2 B) rfl (Qrt B (by omega))))
  ·exact Qn7 (J6 (Qb Z rfl (Qat B (by omega))))
 by_cases q2:y < 6
 ·refine ⟨.own (.us i (1 + (z:Int))),B,⟨hi,by omega⟩,?_,T3,I,J _ _ I (Qg t0 (Qg t1 (jr (zu (J6 (Qb Z rfl (Q85 B (by omega)))) (Xn (U1 (Q5 rfl (Q5 (v3 B) (Q5 (v6 B) rfl))) (by simp)))))))⟩;show 1 + (z:Int)<=9 * bM t;omega
 have t2:Yt (toB (mOp oLt (Q3 4) (mC (.int 6)))) (Zt (Uf (Q4 (mC (.str "use")) (Q4 (Q3 3) (Q4 (Q3 6) Qa))))) Yb G B=.nx G B:=V3 (J6 (Qb Z rfl (Qat B (by omega)))) rfl
 by_cases q3:y < 8
 ·obtain ⟨u,O,hu,T4,U,e5⟩:=Yx T3 3 (by decide) (by decide);have e5:Qf [.ref L,.int 3] B=.ok (.int u) O:=e5;have a3:Q51 (Q4 (mC (.str "keep")) (Q4 (mC (.str "fall")) Qa)) G B=.ok (.lst [.str "keep",.str "fall"]) B:=Qcg rfl;have a5:Qj 2 Qf (Q4 (Q3 0) (Q4 (mC (.int 3)) Qa)) G B=.ok (.int u) O:=Qu (n:=2) (Q5 v0 (Q5 rfl rfl)) rfl e5
  by_cases qu:u=0
  ·refine ⟨.fl i,O,hi,trivial,T4,I.trans U,J _ _ (I.trans U) (Qg t0 (Qg t1 (Qg t2 (jr (zu (J6 (Qb Z rfl (Q85 B (by omega)))) (Xn (U1 (Q5 (Qb a3 (Uw (Q5 (Qb a5 rfl (Q8m O (by omega))) rfl) rfl) rfl) (Q5 (v3 O) rfl)) (by simp))))))))⟩
  ·refine ⟨.kp i,O,hi,trivial,T4,I.trans U,J _ _ (I.trans U) (Qg t0 (Qg t1 (Qg t2 (jr (zu (J6 (Qb Z rfl (Q85 B (by omega)))) (Xn (U1 (Q5 (Qb a3 (Uw (Q5 (Qb a5 rfl (Q8n O (by omega))) rfl) rfl) rfl) (Q5 (v3 O) rfl)) (by simp))))))))⟩
 have t3:∀ X,Yt (toB (mOp oLt (Q3 4) (mC (.int 8)))) X Yb G B=.nx G B:=fun X=>V3 (J6 (Qb Z rfl (Qat B (by omega)))) rfl
 have ed:Ws (Q3 1) (mC (.str "letters")) G B=.ok (.ref 2) B:=Kx v1 rfl l3.ge
 by_cases q4:y=8\/s.le=[]
 ·refine ⟨.sd i,B,hi,trivial,T3,I,J _ _ I (Qg t0 (Qg t1 (Qg t2 (Qg (t3 _) (jr (zu ?_ (Xn (U1 (Q5 rfl (Q5 (v3 B) rfl)) (by simp)))))))))⟩
  by_cases q5:y=8
  ·exact Qw3 (J6 (Qb Z rfl (Q8m B (by omega))))
  ·have hz:s.le=[]:=q4.resolve_left q5;have hV:ListAt B (.ref 2) []:=.inr (.inr ⟨2,rfl,by rw [l3.le,hz]; rfl⟩);exact Qpv (J6 (Qb Z rfl (Q8n B (by omega)))) (J6 (Qb ed rfl (hV.eqs rfl).2.2.2))
 ·have a2:s.le≠[]:=fun z=>q4 (.inr z)
  have a6:1<=s.le.length:=by cases hs:s.le with | nil=>exact absurd hs a2 | cons a b=>simp
  obtain ⟨u,O,hu,T4,U,e5⟩:=Yx T3 s.le.length a6 (by omega);have hV:ListAt B (.ref 2) (s.le.map Q7):=.inr (.inr ⟨2,rfl,l3.le⟩);have el:Yr B [.ref 2]=.ok (.int s.le.length) B:=by rw [hV.len,O2]
  have ne:oEq B (.ref 2) (.lst [])=.ok (.bl false) B:=Qwp l3.le a2;have t4:Yt (Q5m (toB (mOp oEq (Q3 4) (mC (.int 8)))) (toB (mOp oEq (Ws (Q3 1) (mC (.str "letters"))) (Q51 Qa)))) (Zt (Uf (Q4 (mC (.str "send")) (Q4 (Q3 3) Qa)))) Yb G B=.nx G B:=V3 (Qpv (J6 (Qb Z rfl (Q8n B (by omega)))) (J6 (Qb ed rfl ne))) rfl;exact ⟨.cm u i,O,⟨hu,hi⟩,trivial,T4,I.trans U,J _ _ (I.trans U) (Qg t0 (Qg t1 (Qg t2 (Qg (t3 _) (Qg t4 (Xn (U1 (Q5 rfl (Q5 (Qu (n:=2) (Q5 v0 (Q5 (Uw (Q5 ed rfl) el) rfl)) rfl e5) (Q5 (v3 O) rfl))) (by simp))))))))⟩
theorem Qwh (S:Q2) {a b:Nat} (h:a≠b):oNe S (.int a) (.int b)=.ok (.bl true) S:=by
 have:¬ ((a:Int)=(b:Int)):=by omega
 simp [this]
theorem Qrn (S:Q2) (a:Int):oNe S (.int a) (.int a)=.ok (.bl false) S:=by simp
theorem Q3h {n:Nat} (j:n<=1000) {m:ME} {Γ:Gam} {S:Q2} (h:m Γ S=.ok (.int n) S):Z9 (Q4 m Qa) Γ S=.ok (Zb 0 n,[]) S:=by
 rw [Kh,Q5 h (show Qa Γ S=.ok [] S from rfl),J2];show (if -(lim:Int)<=(n:Int)/\(n:Int)<=lim then _ else _)=_;rw [bN (by rw [Z7]; omega),cE]
theorem Qix {n:Nat} {tb:Tab} (w:Wt' n tb):Uy [Q7 tb] []=.ok (.ref 3) [.lst ((bT n tb).map Q7),.lst ((bT n tb).map Q7),.lst [],.dic stD]:=by
 have U:=w.n8;have I:((bU n).map fun _=>Q7 tb)=(bT n tb).map Q7:=by
  rw [fR];exact fS.mpr ⟨by simp,fun b J=>by obtain ⟨_,_,rfl⟩:=cG.mp J; rfl⟩
 have z:∀ S:Q2,Z9 (Q4 (Jc Yr (Q4 (Q3 0) Qa)) Qa) [some (Q7 tb)] S=.ok (Zb 0 n,[]) S:=fun S=>by
  have q:Yr S [Q7 tb]=.ok (.int n) S:=by simp [Q7,w.len]
  rw [Kh,Q5 (Uw (Q5 (m:=Q3 0) (p:=Q7 tb) (S1:=S) rfl (show Qa _ S=.ok [] S from rfl)) q) (show Qa _ S=.ok [] S from rfl),J2];show (if -(lim:Int)<=(n:Int)/\(n:Int)<=lim then _ else _)=_;rw [bN (by rw [Z7]; omega),cE]
 have B:∀ S:Q2,Jt (Qn 0) Ju Q11 [] (Jv [none,some 0] [some (Q7 tb)]) (Zb 0 n) S=.ok ((bT n tb).map Q7) S:=fun S=>by
  rw [W8,<- I];exact Yk _ _ (by simp) fun j O=>⟨_,rfl,rfl⟩
 have G:∀ S:Q2,Jt (Qn 0) Ju Q10 [] (Jv [none,some 0] [some (Q7 tb)]) (Zb 0 n) S=.ok ((bT n tb).map Q7) S:=fun S=>by
  rw [W8,<- I];exact Yk _ _ (by simp) fun j O=>⟨_,rfl,rfl⟩
 have step:yq [some (Q7 tb)] []=.rt (.ref 3) [.lst ((bT n tb).map Q7),.lst ((bT n tb).map Q7),.lst [],.dic stD]:=by
  refine Xn ?_;rw [Qi0,qe (Uh (z _) (B _)),J2,qe (Uh (z _) (G _)),J2,qe (ps:=[]) rfl,J2];rfl
 exact zn step
inductive InS (n:Nat) (s:RS):Tab->Prop
 | now {i:Nat}:i < n->InS n s (s.now.getD i [])
 | last {i:Nat}:i < n->InS n s (s.last.getD i [])
 | le {L:Tab}:L∈s.le->InS n s L
def rle (n h:Nat) (A B:Tab):Prop:=∀ j,j<=n->ent A h j<=ent B h j
structure SI17 (n:Nat) (s:RS):Prop where
 ri:RI n s
 ca:∀ A,InS n s A->Ca n A
 ch:∀ A B,InS n s A->InS n s B->∀ h,h < n->rle n h A B\/rle n h B A
theorem RI.top {n:Nat} {s:RS} (r:RI n s) {A:Tab} (k:InS n s A) {h:Nat} (z:h < n):rle n h A (s.now.getD h []):=fun j B=>by
 cases k with
 | @now i hi=>
  by_cases q:i=h
  ·subst q; exact bg _
  ·exact bi (r.bn i h j hi z q B) (r.up h j z B)
 | last hi=>exact bi (r.bl _ h j hi z B) (r.up h j z B)
 | le G=>exact bi (r.be _ G h j z B) (r.up h j z B)
theorem Qh4 {n:Nat} {f g:Nat->Int} (h:∀ o,o < n->f o<=g o):Yy n f<=Yy n g:=by
 induction n with
 | zero=>exact bg _
 | succ n j=>
  rw [Jh,Jh];have h1:=j fun o q=>h o (by omega)
  have h2:=h n (by omega);omega
theorem Qmu {n:Nat} {A J:Tab} (B:Wt' n A) (G:Wt' n J) (c:Ca n A) (le:∀ a b,a < n->b<=n->ent A a b<=ent J a b) {h:Nat} (q:h < n) (e:∀ j,j<=n->ent J h j=ent A h j):0<=Qq J h/\(U6 J h=true->Rc n J h):=by
 refine ⟨?_,fun b=>?_⟩
 ·have h1:=c.nn h q;rw [V9 B.sz q] at h1;rw [V9 G.sz q,e n (O8 n),e h (E7 q),Wr (g:=fun j=>ent A h j) fun j z=>e j (E7 z)]
  have h2:=Qh4 (n:=n) (f:=fun o=>ent A o h) (g:=fun o=>ent J o h) fun o O=>le o h O (E7 q)
  omega
 ·obtain ⟨j,z,q1,q2⟩:=(Ky G q).mp b;rw [e j z] at q2;exact (c.bz h q ((Ky B q).mpr ⟨j,z,q1,q2⟩)).mono fun a b U I=>le a b U (E7 I)
theorem Q8c {n:Nat} {A B:Tab} (z:Sz n A) (I:Sz n B) {h:Nat} (G:h < n) (c:rle n h A B\/rle n h B A):(∀ j,j<=n->ent (Zu A B) h j=ent A h j)\/∀ j,j<=n->ent (Zu A B) h j=ent B h j:=by
 rcases c with c | c
 ·exact .inr fun j q=>by rw [Wp z I G q,Qf5 (c j q)]
 ·exact .inl fun j q=>by rw [Wp z I G q,Qar (c j q)]
theorem Qgq {n:Nat} {A B:Tab} (G:Wt' n A) (q:Wt' n B) (cA:Ca n A) (Z:Ca n B) (ch:∀ h,h < n->rle n h A B\/rle n h B A):Ca n (Zu A B):=by
 have O:=Qc3 G q;have U:∀ a b,a < n->b<=n->ent A a b<=ent (Zu A B) a b:=fun a b J I=>by rw [Wp G.sz q.sz J I]; exact Q50 _ _
 have Y:∀ a b,a < n->b<=n->ent B a b<=ent (Zu A B) a b:=fun a b J I=>by rw [Wp G.sz q.sz J I]; exact Qf6 _ _
 have z:∀ h,h < n->0<=Qq (Zu A B) h/\(U6 (Zu A B) h=true->Rc n (Zu A B) h):=fun h j=>by
  rcases Q8c G.sz q.sz j (ch h j) with e | e
  ·exact Qmu G O cA U j e
  ·exact Qmu q O Z Y j e
 exact ⟨fun h j=>(z h j).1,fun h j=>(z h j).2⟩
theorem SI17.step {n:Nat} {s:RS} (I:SI17 n s) {x:Dx} (o:x.ok n s):SI17 n (Jw n s x):=by
 have r:=I.ri;have r':=r.step o;have a3:∀ T:Tab,Ca n T->(∀ A,InS n s A->∀ h,h < n->rle n h A T\/rle n h T A)->(∀ A,InS n (Jw n s x) A->InS n s A\/A=T)->SI17 n (Jw n s x):=fun T cT a2 sub=>by
  refine ⟨r',fun A G=>?_,fun A B G hB h J=>?_⟩
  ·rcases sub A G with q | q
   ·exact I.ca A q
   ·rw [q]; exact cT
  ·rcases sub A G with qa | qa <;> rcases sub B hB with qb | qb
   ·exact I.ch A B qa qb h J
   ·rw [qb]; exact a2 A qa h J
   ·rw [qa]; exact (a2 B qb h J).symm
   ·rw [qa,qb]; exact .inl fun j _=>bg _
 have old:(∀ A,InS n (Jw n s x) A->InS n s A)->SI17 n (Jw n s x):=fun sub=>⟨r',fun A G=>I.ca A (sub A G),fun A B G hB=>I.ch A B (sub A G) (sub B hB)⟩
 cases x with
 | own d=>
  have J:=Dd.ok_h o
  by_cases q:d.fits (s.now.getD d.h [])=true
  ·have z2:Jw n s (.own d)=⟨s.now.set d.h (d.put n (s.now.getD d.h [])),s.last,s.le⟩:=bN q;have w:=r.wn d.h J;have cN:=I.ca _ (.now J);have hf:d.isM=false->d.k<=Qq (s.now.getD d.h []) d.h:=fun hm=>by
    unfold Dd.fits at q;rw [hm,Bool.false_or,decide_eq_true_eq] at q;exact q
   have hl:d.h < s.now.length:=by rw [r.ln]; exact J
   refine a3 _ (Qmv w cN o hf).2 (fun A G h Y=>?_) (fun A G=>?_)
   ·by_cases qh:h=d.h
    ·subst qh;exact .inl fun j O=>bi (r.top G Y j O) (Q69 w o _ j).1
    ·have e:∀ j,ent (d.put n (s.now.getD d.h [])) h j=ent (s.now.getD d.h []) h j:=fun j=>(Q69 w o h j).2 qh
     rcases I.ch A _ G (.now J) h Y with z | z
     ·exact .inl fun j O=>by rw [e j]; exact z j O
     ·exact .inr fun j O=>by rw [e j]; exact z j O
   ·rw [z2] at G;cases G with
    | @now i hi=>
     show InS n s ((s.now.set d.h (d.put n (s.now.getD d.h []))).getD i [])\/(s.now.set d.h (d.put n (s.now.getD d.h []))).getD i []=_;rw [Jd hl]
     split
     ·exact .inr rfl
     ·exact .inl (.now hi)
    | last hi=>exact .inl (.last hi)
    | le Z=>exact .inl (.le Z)
  ·have z2:Jw n s (.own d)=s:=bO q;rw [z2]; exact I
 | kp U=>
  have J:U < n:=o;refine old fun A G=>?_
  cases G with
  | now hi=>exact .now hi
  | @last i hi=>
   show InS n s ((s.last.set U (s.now.getD U [])).getD i []);rw [Jd (by rw [r.ll]; exact J)]
   split
   ·exact .now J
   ·exact .last hi
  | le Z=>exact .le Z
 | fl U=>
  have J:U < n:=o;refine old fun A G=>?_
  cases G with
  | @now i hi=>
   show InS n s ((s.now.set U (s.last.getD U [])).getD i []);rw [Jd (by rw [r.ln]; exact J)]
   split
   ·exact .last J
   ·exact .now hi
  | last hi=>exact .last hi
  | le Z=>exact .le Z
 | sd U=>
  have J:U < n:=o;refine old fun A G=>?_
  cases G with
  | now hi=>exact .now hi
  | last hi=>exact .last hi
  | le Z=>
   rcases E9.mp Z with h | h
   ·exact .le h
   ·rw [cc.mp h]; exact .last J
 | cm l U=>
  obtain ⟨a5,J⟩:=o;have hm:s.le.getD l []∈s.le:=D2 (getD_some a5 []);have wN:=r.wn U J;have wL:=r.we _ hm;have a4:=I.ch _ _ (.now J) (.le hm);refine a3 (Zu (s.now.getD U []) (s.le.getD l [])) (Qgq wN wL (I.ca _ (.now J)) (I.ca _ (.le hm)) a4) (fun A G h Y=>?_) (fun A G=>?_)
  ·rcases Q8c wN.sz wL.sz Y (a4 h Y) with e | e
   ·rcases I.ch A _ G (.now J) h Y with z | z
    ·exact .inl fun j O=>by rw [e j O]; exact z j O
    ·exact .inr fun j O=>by rw [e j O]; exact z j O
   ·rcases I.ch A _ G (.le hm) h Y with z | z
    ·exact .inl fun j O=>by rw [e j O]; exact z j O
    ·exact .inr fun j O=>by rw [e j O]; exact z j O
  ·cases G with
   | @now i hi=>
    show InS n s ((s.now.set U (Zu (s.now.getD U []) (s.le.getD l []))).getD i [])\/(s.now.set U (Zu (s.now.getD U []) (s.le.getD l []))).getD i []=_;rw [Jd (by rw [r.ln]; exact J)]
    split
    ·exact .inr rfl
    ·exact .inl (.now hi)
   | last hi=>exact .inl (.last hi)
   | le Z=>exact .inl (.le Z)
theorem SI17.start {n:Nat} {tb:Tab} (w:Wt' n tb) (c:Ca n tb):SI17 n (s0 n tb):=by
 have e:∀ A,InS n (s0 n tb) A->A=tb:=fun A q=>by
  cases q with
  | now hi=>exact Q18 hi
  | last hi=>exact Q18 hi
  | le G=>exact absurd G cQ
 exact ⟨RI.start w,fun A q=>by rw [e A q]; exact c,fun A B q z h I=>by rw [e A q,e B z]; exact .inl fun j _=>bg _⟩
theorem SI17.run {n:Nat}:∀ {xs:List Dx} {s:RS},SI17 n s->OkL n s xs->SI17 n (Yz n s xs)
 | [],_,r,_=>r
 | x :: xs,s,r,o=>SI17.run (xs:=xs) (r.step o.1) o.2
def jnt (n:Nat) (s:RS):Nat->Tab
 | 0=>s.now.getD 0 []
 | m + 1=>Zu (jnt n s m) (s.now.getD m [])
def Q5r (n:Nat) (s:RS):Tab:=(bU n).map fun i=>(s.now.getD i []).getD i []
structure JI (n:Nat) (s:RS) (m:Nat):Prop where
 w:Wt' n (jnt n s m)
 c:Ca n (jnt n s m)
 ch:∀ A,InS n s A->∀ h,h < n->rle n h A (jnt n s m)\/rle n h (jnt n s m) A
 top:∀ h,h < n->rle n h (jnt n s m) (s.now.getD h [])
 up:∀ i,i < m->∀ h,h < n->rle n h (s.now.getD i []) (jnt n s m)
theorem SI17.jn {n:Nat} {s:RS} (I:SI17 n s) (h1:1<=n):∀ m,m<=n->JI n s m
 | 0,_=>⟨I.ri.wn 0 h1,I.ca _ (.now h1),fun A Z=>I.ch A _ Z (.now h1),fun h G=>I.ri.top (.now h1) G,fun i hi=>absurd hi (cb i)⟩
 | m + 1,hm=>by
  have J:=I.jn h1 m (by omega);have O:m < n:=hm;have U:=I.ri.wn m O;have Y:∀ h,h < n->rle n h (jnt n s m) (s.now.getD m [])\/rle n h (s.now.getD m []) (jnt n s m):=fun h G=>(J.ch _ (.now O) h G).symm
  refine ⟨Qc3 J.w U,Qgq J.w U J.c (I.ca _ (.now O)) Y,fun A Z h G=>?_,fun h G j B=>?_,fun i hi h G j B=>?_⟩
  ·rcases Q8c J.w.sz U.sz G (Y h G) with e | e
   ·rcases J.ch A Z h G with z | z
    ·exact .inl fun j B=>by show _<=ent (Zu _ _) h j; rw [e j B]; exact z j B
    ·exact .inr fun j B=>by show ent (Zu _ _) h j<=_; rw [e j B]; exact z j B
   ·rcases I.ch A _ Z (.now O) h G with z | z
    ·exact .inl fun j B=>by show _<=ent (Zu _ _) h j; rw [e j B]; exact z j B
    ·exact .inr fun j B=>by show ent (Zu _ _) h j<=_; rw [e j B]; exact z j B
  ·show ent (Zu _ _) h j<=_;rw [Wp J.w.sz U.sz G B];rcases Qbv (ent (jnt n s m) h j) (ent (s.now.getD m []) h j) with e | e
   ·rw [e]; exact J.top h G j B
   ·rw [e]; exact I.ri.top (.now O) G j B
  ·show _<=ent (Zu _ _) h j;rw [Wp J.w.sz U.sz G B]
   by_cases q:i=m
   ·subst q; exact Qf6 _ _
   ·exact bi (J.up i (by omega) h G j B) (Q50 _ _)
theorem Qbr {n:Nat} {s:RS} (r:RI n s):Sz n (Q5r n s):=by
 refine ⟨by simp [Q5r],fun q j=>?_⟩;obtain ⟨i,hi,rfl⟩:=cG.mp j;exact ((r.wn i (E4.mp hi)).sz.row (E4.mp hi)).2
theorem Q21 {n:Nat} {s:RS} {i:Nat} (hi:i < n) (j:Nat):ent (Q5r n s) i j=ent (s.now.getD i []) i j:=by
 have:(Q5r n s).getD i []=(s.now.getD i []).getD i []:=by
  unfold Q5r;rw [F7,E8,F1 hi]; rfl
 unfold ent;rw [this]
theorem JI.own {n:Nat} {s:RS} (r:RI n s) (J:JI n s n):jnt n s n=Q5r n s:=
 Qfr J.w.sz (Qbr r) fun i j hi q=>by
  rw [Q21 hi];exact gw (J.top i hi j q) (J.up i hi i hi j q)
inductive Cms (n k:Nat):List Dx->Prop
 | nil:Cms n k []
 | cons {l i:Nat} {xs:List Dx}:l < k->i < n->Cms n k xs->Cms n k (.cm l i :: xs)
def IsC (n k:Nat) (x:Dx):Prop:=∃ l i,l < k/\i < n/\x=.cm l i
theorem Cms.of {n k:Nat}:∀ {xs:List Dx},(∀ x∈xs,IsC n k x)->Cms n k xs
 | [],_=>.nil
 | x :: xs,h=>by
  obtain ⟨l,i,h1,h2,rfl⟩:=h x D3;exact .cons h1 h2 (Cms.of fun y j=>h y (D0 _ j))
structure CI (n:Nat) (J:Tab) (s s':RS):Prop where
 ri:RI n s'
 le:s'.le=s.le
 own:∀ h j,h < n->j<=n->ent (s'.now.getD h []) h j=ent J h j
 up:∀ i,i < n->∀ h j,h < n->j<=n->ent (s.now.getD i []) h j<=ent (s'.now.getD i []) h j
theorem CI.step {n:Nat} {J:Tab} {s s':RS} (I:CI n J s s') {l i:Nat} (hl:l < s'.le.length) (hi:i < n):CI n J s (Jw n s' (.cm l i))/\∀ h j,h < n->j<=n->ent (s'.le.getD l []) h j<=ent ((Jw n s' (.cm l i)).now.getD i []) h j:=by
 have r:=I.ri;have r':=r.step (x:=.cm l i) ⟨hl,hi⟩;have Y:s'.le.getD l []∈s'.le:=D2 (getD_some hl []);have G:=r.wn i hi;have U:=r.we _ Y;have O:i < s'.now.length:=by rw [r.ln]; exact hi
 have e:∀ a,(Jw n s' (.cm l i)).now.getD a []=if a=i then Zu (s'.now.getD i []) (s'.le.getD l []) else s'.now.getD a []:=fun a=>Jd O _ _ _
 refine ⟨⟨r',I.le,fun h j q B=>?_,fun a Z h j q B=>?_⟩,fun h j q B=>?_⟩
 ·rw [e h]
  split
  ·rename_i z; subst z;rw [Wp G.sz U.sz q B,Qar (r.top (.le Y) q j B)];exact I.own h j q B
  ·exact I.own h j q B
 ·rw [e a]
  split
  ·rename_i z; subst z;rw [Wp G.sz U.sz q B];exact bi (I.up a Z h j q B) (Q50 _ _)
  ·exact I.up a Z h j q B
 ·rw [e i,bN rfl,Wp G.sz U.sz q B];exact Qf6 _ _
theorem CI.run {n:Nat} {J:Tab} {s:RS} {k:Nat} (hk:k=s.le.length):∀ {xs:List Dx},Cms n k xs->∀ {s':RS},CI n J s s'->OkL n s' xs/\CI n J s (Yz n s' xs)/\(∀ i,i < n->∀ h j,h < n->j<=n->ent (s'.now.getD i []) h j<=ent ((Yz n s' xs).now.getD i []) h j)/\∀ l i,Dx.cm l i∈xs->∀ h j,h < n->j<=n->ent (s.le.getD l []) h j<=ent ((Yz n s' xs).now.getD i []) h j:=by
 intro xs c
 induction c with
 | nil=>exact fun {s'} I=>⟨trivial,I,fun i hi h j _ _=>bg _,fun l i h=>absurd h cQ⟩
 | @cons l i xs h1 h2 _ ih=>
  intro s' I;have U:l < s'.le.length:=by rw [I.le,<- hk]; exact h1
  obtain ⟨I1,u1⟩:=I.step U h2;obtain ⟨o2,I2,Y,w2⟩:=ih I1;have r:=I.ri;have hm:s'.le.getD l []∈s'.le:=D2 (getD_some U []);have e:∀ a,(Jw n s' (.cm l i)).now.getD a []=if a=i then Zu (s'.now.getD i []) (s'.le.getD l []) else s'.now.getD a []:=fun a=>Jd (by rw [r.ln]; exact h2) _ _ _
  refine ⟨⟨⟨U,h2⟩,o2⟩,I2,fun a Z h j B G=>?_,fun l' i' O h j B G=>?_⟩
  ·refine bi ?_ (Y a Z h j B G);rw [e a]
   split
   ·rename_i z; subst z;rw [Wp (r.wn a Z).sz (r.we _ hm).sz B G];exact Q50 _ _
   ·exact bg _
  ·rcases D8.mp O with q | q
   ·cases q;refine bi ?_ (Y i h2 h j B G);have:=u1 h j B G;rw [I.le] at this;exact this
   ·exact w2 l' i' q h j B G
theorem Qn8 {n:Nat} {s s1:RS} {J:Tab} (Z:Sz n J) (I:CI n J s1 s1) (O:∀ a,a < n->s1.le.getD (s.le.length + a) []=s1.now.getD a []) {xs:List Dx} (c:Cms n s1.le.length xs) (fin:∀ a i,a < n->i < n->Dx.cm (s.le.length + a) i∈xs):OkL n s1 xs/\(Yz n s1 xs).now=bT n J:=by
 obtain ⟨o,U,u2,Y⟩:=CI.run rfl c I;refine ⟨o,?_⟩;have z:=U.ri;have G:∀ i,i < n->(Yz n s1 xs).now.getD i []=J:=fun i hi=>Qfr (z.wn i hi).sz Z fun h j q B=>by
  refine gw ?_ ?_
  ·rw [<- U.own h j q B];exact z.top (.now hi) q j B
  ·have:=Y _ i (fin h i q hi) h j q B;rw [O h q,I.own h j q B] at this;exact this
 refine dL fun i=>?_
 rw [G7]
 by_cases hi:i < n
 ·rw [bN hi,getD_some (show i < (Yz n s1 xs).now.length by rw [z.ln]; exact hi) [],G i hi]
 ·rw [bO hi,F6 (by rw [z.ln]; omega)]
theorem Qaw {n:Nat} {s:RS} (r:RI n s):∀ m,m<=n->OkL n s ((bU m).map Dx.kp)/\(Yz n s ((bU m).map Dx.kp)).now=s.now/\(Yz n s ((bU m).map Dx.kp)).le=s.le/\(Yz n s ((bU m).map Dx.kp)).last.length=n/\∀ i,i < m->(Yz n s ((bU m).map Dx.kp)).last.getD i []=s.now.getD i []
 | 0,_=>⟨trivial,rfl,rfl,r.ll,fun i hi=>absurd hi (cb i)⟩
 | m + 1,B=>by
  obtain ⟨o,e1,e2,e3,G⟩:=Qaw r m (by omega);have j:m < n:=B;rw [cZ,D5];have q:Yz n s ((bU m).map Dx.kp ++ [m].map Dx.kp)=Jw n (Yz n s ((bU m).map Dx.kp)) (.kp m):=by rw [j4]; rfl
  rw [q];refine ⟨(zx n _ _ _).mpr ⟨o,j,trivial⟩,e1,e2,?_,fun i hi=>?_⟩
  ·show (gy _ _ _).length=n;rw [D4]; exact e3
  ·show (gy _ _ _).getD i []=_;rw [Jd (by rw [e3]; exact j),e1]
   split
   ·rename_i z; rw [z]
   ·exact G i (by omega)
theorem Qae {n:Nat} {s:RS} (h:∀ i,i < n->s.last.getD i []=s.now.getD i []):∀ m,m<=n->OkL n s ((bU m).map Dx.sd)/\Yz n s ((bU m).map Dx.sd)=⟨s.now,s.last,s.le ++ (bU m).map fun i=>s.now.getD i []⟩
 | 0,_=>⟨trivial,by simp [Yz]⟩
 | m + 1,z=>by
  obtain ⟨o,e⟩:=Qae h m (by omega);have j:m < n:=z;rw [cZ,D5];have q:Yz n s ((bU m).map Dx.sd ++ [m].map Dx.sd)=Jw n (Yz n s ((bU m).map Dx.sd)) (.sd m):=by rw [j4]; rfl
  rw [q,e];refine ⟨(zx n _ _ _).mpr ⟨o,j,trivial⟩,?_⟩;show RS.mk s.now s.last (_ ++ [s.last.getD m []])=_;rw [h m j,F8,D5]; rfl
def ksL (n:Nat):List Dx:=(bU n).map Dx.kp ++ (bU n).map Dx.sd
theorem Qtw {n:Nat} {s:RS} (r:RI n s):OkL n s (ksL n)/\(Yz n s (ksL n)).now=s.now/\(Yz n s (ksL n)).le=s.le ++ (bU n).map fun i=>s.now.getD i []:=by
 obtain ⟨o,e1,e2,e3,q⟩:=Qaw r n (O8 n);obtain ⟨j,f⟩:=Qae (n:=n) (s:=Yz n s ((bU n).map Dx.kp)) (fun i hi=>by rw [q i hi,e1]) n (O8 n);unfold ksL;rw [j4,f,e1,e2];exact ⟨(zx n _ _ _).mpr ⟨o,j⟩,rfl,rfl⟩
theorem Qm1 {n:Nat} {tb:Tab} (w:Wt' n tb) (c:Ca n tb) {xs row:List Dx} (ok:OkL n (s0 n tb) xs) (cm:Cms n ((Yz n (s0 n tb) xs).le.length + n) row) (fin:∀ a i,a < n->i < n->Dx.cm ((Yz n (s0 n tb) xs).le.length + a) i∈row):OkL n (s0 n tb) (xs ++ ksL n ++ row)/\(Yz n (s0 n tb) (xs ++ ksL n ++ row)).now=bT n (Q5r n (Yz n (s0 n tb) xs)):=by
 have r:=(RI.start w).run ok;obtain ⟨s,hs⟩:∃ s,Yz n (s0 n tb) xs=s:=⟨_,rfl⟩;rw [hs] at r cm fin ⊢;obtain ⟨G,e1,e2⟩:=Qtw r;have B:=r.run G;obtain ⟨s1,q⟩:∃ s1,Yz n s (ksL n)=s1:=⟨_,rfl⟩;rw [q] at e1 e2 B;have I:CI n (Q5r n s) s1 s1:=⟨B,rfl,fun h j J Z=>by rw [e1,Q21 J],fun i hi h j _ _=>bg _⟩;have z:∀ a,a < n->s1.le.getD (s.le.length + a) []=s1.now.getD a []:=fun a O=>by
  rw [e1,e2,F7,O9 (by omega),fQ,E8,F1 O]; rfl
 have Y:s1.le.length=s.le.length + n:=by rw [e2,O3,O2,F4]
 obtain ⟨U,e3⟩:=Qn8 (s:=s) (Qbr r) I z (xs:=row) (by rw [Y]; exact cm) fin;rw [j4,j4,hs,q];refine ⟨(zx n _ _ _).mpr ⟨(zx n _ _ _).mpr ⟨ok,by rw [hs]; exact G⟩,by rw [j4,hs,q]; exact U⟩,e3⟩
theorem Qqr {n:Nat} {s:RS} (r:RI n s) {i:Nat} (hi:i < n):Qq (Q5r n s) i=Qq (s.now.getD i []) i + Yy n (fun j=>ent (s.now.getD j []) j i - ent (s.now.getD i []) j i):=by
 rw [V9 (Qbr r) hi,V9 (r.wn i hi).sz hi,Qcp,Q21 hi,Q21 hi,Wr (f:=fun j=>ent (Q5r n s) i j) (g:=fun j=>ent (s.now.getD i []) i j) fun j _=>Q21 hi j,Wr (f:=fun o=>ent (Q5r n s) o i) (g:=fun o=>ent (s.now.getD o []) o i) fun o q=>Q21 q i]
 omega
structure AQ (n:Nat) (tb:Tab) (xs:List Dx) (S:Q2):Prop where
 ok:OkL n (s0 n tb) xs
 ls:LS (Yz n (s0 n tb) xs) S
 de:S[4]?=some (.lst (xs.map Dx.V))
 rb:RB n (bM (8 + xs.length)) (Yz n (s0 n tb) xs)
 len:5<=S.length
abbrev aqG (ns:List Int) (m:Nat) (tb:Tab) (c6 c7 c8 c9:Option PV):Gam:=[some (.fro (ns.map .int)),some (.int 1),some (.int m),some (Q7 tb),some (.ref 3),some (.ref 4),c6,c7,c8,c9]
theorem Qqz (x:Dx) (S:Q2):∃ j:Str,oIx S x.V (.int 0)=.ok (.str j) S:=by
 cases x with
 | own d=>cases d <;> exact ⟨_,rfl⟩
 | _=>exact ⟨_,rfl⟩
theorem Qu4 (S:Q2) (j:Str):∃ b:Bool,(oIn true) S (.str j) (.tup [.str "come",.str "fall"])=.ok (.bl b) S:=by
 refine ⟨(([PV.str "come",.str "fall"].any fun y=>peq y (.str j)) != true),?_⟩;unfold oIn;rw [show Uj S (.tup [.str "come",.str "fall"])=some [PV.str "come",.str "fall"] from rfl];exact bN ⟨rfl,rfl⟩
theorem Qsj {n:Nat} {tb:Tab} (w:Wt' n tb) {xs:List Dx} {S:Q2} {L:Nat} (I:AQ n tb xs S) (T:Tp S L) (hL:5<=L) (hx:xs.length<=45) (ns:List Int) (m:Nat) (G J c9:Option PV):∃ (ys:List Dx) (Z:Q2) (d9:Option PV),ys.length<=xs.length + 1/\qt (aqG ns m tb G (some (.ref L)) J c9) S=.nx (aqG ns m tb G (some (.ref L)) J d9) Z/\AQ n tb ys Z/\Tp Z L:=by
 have r:=(RI.start w).run I.ok;have a3:=Qc0 n xs (s0 n tb);have a2:(s0 n tb).le.length=0:=rfl;obtain ⟨x,S1,Y,kx,T1,M1,e1⟩:=Qj0 I.ls r I.rb (by omega) T (by omega) (by omega) w.n1 w.n8;have l1:=I.ls.mv M1 (by omega);have U:S1[4]?=some (.lst (xs.map Dx.V)):=by rw [M1.keep 4 (by omega)]; exact I.de
 obtain ⟨wd,ew⟩:=Qqz x S1;obtain ⟨b,eb⟩:=Qu4 S1 wd;have s9:J9 9 (Qj 2 Vp (Q4 (Q3 7) (Q4 (Q3 4) Qa))) (aqG ns m tb G (some (.ref L)) J c9) S=.nx (aqG ns m tb G (some (.ref L)) J (some x.V)) S1:=J0 (Qu (n:=2) (Q5 rfl (Q5 rfl rfl)) rfl e1);have O:toB (mOp (oIn true) (mOp oIx (Q3 9) (mC (.int 0))) (Uf (Q4 (mC (.str "come")) (Q4 (mC (.str "fall")) Qa)))) (aqG ns m tb G (some (.ref L)) J (some x.V)) S1=.ok b S1:=J6 (Qb (Qb rfl rfl ew) (U1 (Q5 rfl (Q5 rfl rfl)) (by simp)) eb);cases b with
 | false=>
  exact ⟨xs,S1,_,by omega,Qg s9 (V3 O rfl),⟨I.ok,l1,U,I.rb,by rw [M1.len]; exact I.len⟩,T1⟩
 | true=>
  have b4:=(O0.mp U).1;have z:=Q28 U (by rw [O2]; omega) x.V;obtain ⟨q,j⟩:∃ q,S1.set 4 (.lst (xs.map Dx.V ++ [x.V]))=q:=⟨_,rfl⟩;rw [j] at z;have d2:q[4]?=some (.lst (xs.map Dx.V ++ [x.V])):=by rw [<- j]; exact D7 b4
  have k2:∀ t,t≠4->q[t]?=S1[t]?:=fun t ht=>by rw [<- j]; exact O6 (by omega)
  have l2:LS (Yz n (s0 n tb) xs) q:=l1.of fun t ht=>k2 t (by omega)
  obtain ⟨S3,e2,l3,B,k3⟩:=Qn5 l2 r Y (by omega);have er:Yz n (s0 n tb) (xs ++ [x])=Jw n (Yz n (s0 n tb) xs) x:=by rw [j4]; rfl
  refine ⟨xs ++ [x],S3,_,by rw [O3]; exact O8 _,Qg s9 (zu O (Qg (Q1s (p:=.ref 4) rfl (W1 U) (Q5 rfl rfl) z) (Q0s (Qu (n:=2) (Q5 rfl (Q5 rfl rfl)) rfl e2)))),⟨?_,?_,?_,?_,?_⟩,?_⟩
  ·exact (zx n xs [x] _).mpr ⟨I.ok,Y,trivial⟩
  ·rw [er]; exact l3
  ·rw [k3 4 (by decide),d2,D5]; rfl
  ·rw [er,O3]; exact I.rb.step r Y kx
  ·rw [B,<- j,D4,M1.len]; exact I.len
  ·obtain ⟨c,hc⟩:=T1;exact ⟨c,by rw [k3 L (by omega),k2 L (by omega)]; exact hc⟩
theorem Qsk {n:Nat} {tb:Tab} (w:Wt' n tb) {xs:List Dx} {S:Q2} (I:AQ n tb xs S) (hx:xs.length<=40) (ns:List Int) (m k:Nat) (c7 c8 U:Option PV):∃ (ys:List Dx) (G:Q2) (d7 d8 d9:Option PV),ys.length<=xs.length + 3/\qv (aqG ns m tb (some (.int (1 + (k:Int)))) c7 c8 U) S=.nx (aqG ns m tb (some (.int (1 + (k:Int)))) d7 d8 d9) G/\AQ n tb ys G:=by
 obtain ⟨c,Y⟩:=Q46 ns (1 + k) S;rw [show ((1 + k:Nat):Int)=1 + (k:Int) by omega] at Y;obtain ⟨S1,q⟩:∃ S1,S ++ [Cell.lst [.int c]]=S1:=⟨_,rfl⟩;rw [q] at Y;have T1:Tp S1 S.length:=⟨c,by rw [<- q]; simp⟩;have hl:=I.len;have k1:∀ t,t < 5->S1[t]?=S[t]?:=fun t ht=>by rw [<- q,O5 (by omega)]
 have I1:AQ n tb xs S1:=⟨I.ok,I.ls.of fun t ht=>k1 t (by omega),by rw [k1 4 (by decide)]; exact I.de,I.rb,by rw [<- q,O3]; omega⟩;obtain ⟨a4,G,e,ys,B,z,J,rfl,O,_⟩:=Uu (g:=fun k:Nat=>PV.int (k:Int)) (xs:=bU 3) (ga:=Qn 8) (body:=qt) (w:=[]) (Γ:=aqG ns m tb (some (.int (1 + (k:Int)))) (some (.ref S.length)) c8 U) (st:=S1)
  (fun j Γ st=>∃ ys B z,ys.length<=xs.length + j/\Γ=aqG ns m tb (some (.int (1 + (k:Int)))) (some (.ref S.length)) B z/\AQ n tb ys st/\Tp st S.length) (fun _ _ _ _=>by simp)
  (fun j x Γ st hj ⟨ys,B,z,J,Z,I,T⟩=>by
   subst Z;have a2:j < 3:=by simpa using (O0.mp hj).1
   obtain ⟨zs,G,d9,a3,e,O,T'⟩:=Qsj w I T hl (by omega) ns m (some (.int (1 + (k:Int)))) (some (.int x)) z;exact ⟨_,rfl,_,_,e,zs,_,_,by omega,rfl,O,T'⟩)
  ⟨xs,_,_,O8 _,rfl,I1,T1⟩
 rw [<- W8] at e;exact ⟨ys,G,_,_,_,J,Qg (Γ1:=aqG ns m tb (some (.int (1 + (k:Int)))) (some (.ref S.length)) c8 U) (J0 (Qu (n:=2) (Q5 rfl (Q5 rfl rfl)) rfl Y)) (zh (Q3h (n:=3) (by decide) rfl) e),O⟩
theorem Qiy {n:Nat} {tb:Tab} (O:TbI n 8 tb) (ns:List Int) (m:Nat) (hm:m<=13):∃ (xs:List Dx) (z:Q2),xs.length<=3 * m/\AQ n tb xs z/\Kr [.fro (ns.map .int),.int 1,.int m,Q7 tb] []=.ok (.tup [.ref 4,.ref 3]) z:=by
 have w:=O.w;have e0:=Qix w;obtain ⟨A,Y⟩:∃ A,[Cell.lst ((bT n tb).map Q7),.lst ((bT n tb).map Q7),.lst [],.dic stD]=A:=⟨_,rfl⟩;have A6:A ++ [Cell.lst []]=[Cell.lst ((bT n tb).map Q7),.lst ((bT n tb).map Q7),.lst [],.dic stD,.lst []]:=by rw [<- Y]; rfl
 have IA:AQ n tb [] (A ++ [Cell.lst []]):=by
  rw [A6];refine ⟨trivial,⟨rfl,rfl,rfl,rfl⟩,rfl,?_,O8 5⟩;have e:∀ i,i < n->(bT n tb).getD i []=tb:=fun i hi=>Q18 hi
  refine ⟨fun i hi=>?_,fun i hi=>?_,fun L hL=>absurd hL cQ⟩
  ·show Bd n (bM 8) ((bT n tb).getD i []); rw [e i hi]; exact O.b
  ·show Bd n (bM 8) ((bT n tb).getD i []); rw [e i hi]; exact O.b
 rw [Y] at e0;have lA:A.length=4:=by rw [<- Y]; rfl
 obtain ⟨a3,z,e,xs,U,G,J,B,q,rfl,I⟩:=Uu (g:=fun k:Nat=>PV.int (1 + (k:Int))) (xs:=bU m) (ga:=Qn 6) (body:=qv) (w:=[]) (Γ:=aqG ns m tb none none none none) (st:=A ++ [Cell.lst []])
  (fun j Γ st=>∃ xs U G J B,xs.length<=3 * j/\Γ=aqG ns m tb U G J B/\AQ n tb xs st) (fun _ _ _ _=>by simp)
  (fun j x Γ st hj ⟨xs,U,G,J,B,q,a2,I⟩=>by
   subst a2;have a4:j < m:=by simpa using (O0.mp hj).1
   obtain ⟨ys,z,d7,d8,d9,a5,e,I'⟩:=Qsk w I (by omega) ns m x G J B;exact ⟨_,rfl,_,_,e,ys,_,_,_,_,by omega,rfl,I'⟩)
  ⟨[],_,_,_,_,O8 _,rfl,IA⟩
 rw [F4] at q;have Z:Q0p (Q4 (Q3 1) (Q4 (mOp Y5 (Q3 1) (Q3 2)) Qa)) (aqG ns m tb none none none none) (A ++ [Cell.lst []])=.ok ((bU m).map fun k:Nat=>PV.int (1 + (k:Int)),[]) (A ++ [Cell.lst []]):=by
  rw [Q83,Q5 (m:=Q3 1) (p:=.int 1) rfl (Q5 (Qb (a:=Q3 1) (b:=Q3 2) (x:=.int 1) (y:=.int m) rfl rfl (Q3b _ _ _)) (show Qa _ _=.ok [] _ from rfl)),J2];show (if -(lim:Int)<=1/\1<=(lim:Int)/\-(lim:Int)<=1 + (m:Int)/\1 + (m:Int)<=lim then _ else _)=_;rw [bN (by rw [Z7]; omega),show (1 + (m:Int) - 1).toNat=m by omega]; rfl
 refine ⟨xs,z,q,I,?_⟩;have s1:J9 4 (Qj 1 Uy (Q4 (Q3 3) Qa)) [some (.fro (ns.map .int)),some (.int 1),some (.int m),some (Q7 tb),none,none,none,none,none,none] []=.nx [some (.fro (ns.map .int)),some (.int 1),some (.int m),some (Q7 tb),some (.ref 3),none,none,none,none,none] A:=J0 (Qu (n:=1) (Q5 rfl rfl) rfl e0);have s2:J9 5 (xi (zg Qa)) [some (.fro (ns.map .int)),some (.int 1),some (.int m),some (Q7 tb),some (.ref 3),none,none,none,none,none] A=.nx (aqG ns m tb none none none none) (A ++ [.lst []]):=(J0 (qe (ps:=[]) (S1:=A) rfl)).trans (by rw [lA]; rfl);exact zn (m:=yr) (nl:=10) (Qg s1 (Qg s2 (Qg (zh Z e) (Xn (U1 (Q5 rfl (Q5 rfl rfl)) (by simp))))))
theorem Qqt (xs:List Dx):Zv dep (.lst (xs.map Dx.V))=true:=by
 show (xs.map Dx.V).all _=true;rw [L5];intro v j;obtain ⟨x,_,rfl⟩:=cG.mp j;cases x with
 | own d=>cases d <;> rfl
 | _=>rfl
theorem Qtj {S:Q2} {k:Nat} {xs:List Dx} (h:S[k]?=some (.lst (xs.map Dx.V))):oNe S (.ref k) (.lst [])=.ok (.bl (decide (xs≠[]))) S:=by
 have g:=Qqt xs;have g2:Zv dep (.lst [])=true:=rfl;cases xs with
 | nil=>
  have j:ListAt S (.ref k) []:=.inr (.inr ⟨k,rfl,h⟩);rw [(j.eqs rfl).2.1]; rfl
 | cons a xs=>
  have hp:peq (.lst (a.V :: xs.map Dx.V)) (.lst [])=false:=by rw [peq]; rfl
  simp only [F5] at h g;simp [oNe,der,h,g,g2,hp]
theorem Qxe {f:MF} {mo:ME} {mr:ML} {Γ:Gam} {S S1 j q:Q2} {p v:PV} {xs ps:List PV} (h1:mo Γ S=.ok p S1) (h2:yx S1 p=some xs) (z:mr Γ S1=.ok ps j) (B:f j p ps=.ok v q):mBM f mo mr Γ S=.ok v q:=by
 rw [Qky,h1,J2];simp only [h2];rw [z,J2,B]
theorem Qq4 (S:Q2) (p:PV) (i:Int):Qdj S p [.int i]=if -(2 ^ 63)<=i/\i < 2 ^ 63 then chg S p fun xs=>(ixN xs.length i).bind fun k=>(xs[k]?).map fun y=>(y,xs.eraseIdx k) else .stuck:=rfl
theorem Qsu {S:Q2} {k d:Nat} {xs:List Dx} (h:S[k]?=some (.lst (xs.map Dx.V))) (hd:d < xs.length) (q:d < 1000000) {x:Dx} (j:xs[d]?=some x):Qdj S (.ref k) [.int d]=.ok x.V (S.set k (.lst ((xs.eraseIdx d).map Dx.V))):=by
 have e:ixN (xs.map Dx.V).length (d:Int)=some d:=by
  rw [O2];unfold ixN;rw [bN (by omega),bN (by omega)]; simp
 have e2:(xs.map Dx.V)[d]?=some x.V:=by rw [E8,j]; rfl
 rw [Qq4,bN (by omega)];unfold chg;simp only [h,e,dw,e2,Option.map_some];rw [dn,dn,D5,dy,gZ]
abbrev tnG (L:Nat) (V:PV) (F:Nat):Gam:=[some (.ref L),some V,some (.ref F),some (.ref (F + 1))]
theorem Q5c {L F:Nat} (hL:L < F) (V:PV) (P:Dx->Prop):∀ (m j:Nat) (zs us:List Dx) (S:Q2),m < j->zs.length=m->m < 100->us.length + m < 1000->(∀ x∈zs,P x)->(∀ x∈us,P x)->Tp S L->S[F]?=some (.lst (zs.map Dx.V))->S[F + 1]?=some (.lst (us.map Dx.V)) ->
  ∃ (vs:List Dx) (U:Q2),U0 Yu Yw j (tnG L V F) S=.nx (tnG L V F) U/\(∀ x∈vs,P x)/\vs.length=us.length + m/\U[F + 1]?=some (.lst (vs.map Dx.V))/\U.length=S.length/\∀ t,t≠L->t≠F->t≠F + 1->U[t]?=S[t]?
 | m,0,_,_,_,hf,_,_,_,_,_,_,_,_=>absurd hf (cb m)
 | m,j + 1,zs,us,S,hf,hz,a8,hu,pz,pu,T,e1,e2=>by
  have a7:Yu (tnG L V F) S=.ok (decide (zs≠[])) S:=J6 (Qb rfl (Qcg (ps:=[]) rfl) (Qtj e1));have a5:U0 Yu Yw (j + 1) (tnG L V F) S=(Yu (tnG L V F) S).sbind fun b a3=>if b=true then (match Yw (tnG L V F) a3 with
   | .nx J B=>U0 Yu Yw j J B
   | .ct J B=>U0 Yu Yw j J B
   | .bk J B=>.nx J B
   | .rt v B=>.rt v B
   | .exc x B=>.exc x B
   | .stuck=>.stuck) else .nx (tnG L V F) a3:=rfl
  rw [a5,a7];cases m with
  | zero=>
   have:zs=[]:=List.eq_nil_of_length_eq_zero hz;subst this;exact ⟨us,S,rfl,pu,rfl,e2,rfl,fun _ _ _ _=>rfl⟩
  | succ m=>
   have a4:zs≠[]:=fun h=>by rw [h] at hz; cases hz
   obtain ⟨d,S1,hd,T1,M1,ed⟩:=Yx T zs.length (by omega) (by omega);have a2:S1[F]?=some (.lst (zs.map Dx.V)):=by rw [M1.keep F (by omega)]; exact e1
   have a6:S1[F + 1]?=some (.lst (us.map Dx.V)):=by rw [M1.keep (F + 1) (by omega)]; exact e2
   have b1:=(O0.mp a2).1;have hV:ListAt S (.ref F) (zs.map Dx.V):=.inr (.inr ⟨F,rfl,e1⟩);have el:Yr S [.ref F]=.ok (.int zs.length) S:=by rw [hV.len,O2]
   obtain ⟨x,hx⟩:∃ x,zs[d]?=some x:=⟨zs[d],O7 hd⟩;have pp:=Qsu a2 hd (by omega) hx;obtain ⟨Y,I⟩:∃ Y,S1.set F (.lst ((zs.eraseIdx d).map Dx.V))=Y:=⟨_,rfl⟩;rw [I] at pp;have f1:Y[F]?=some (.lst ((zs.eraseIdx d).map Dx.V)):=by rw [<- I]; exact D7 b1
   have f2:Y[F + 1]?=some (.lst (us.map Dx.V)):=by rw [<- I,O6 (by omega)]; exact a6
   have b2:=(O0.mp f2).1;have ap:=Q28 f2 (by rw [O2]; omega) x.V;obtain ⟨O,G⟩:∃ O,Y.set (F + 1) (.lst (us.map Dx.V ++ [x.V]))=O:=⟨_,rfl⟩;rw [G] at ap;have bd:Yw (tnG L V F) S=.nx (tnG L V F) O:=Q1s (p:=.ref (F + 1)) rfl (W1 e2) (Q5 (Qxe (p:=.ref F) rfl (W1 e1) (Q5 (Qu (n:=2) (Q5 rfl (Q5 (Uw (Q5 rfl rfl) el) rfl)) rfl ed) rfl) pp) rfl) ap;have g1:O[F]?=some (.lst ((zs.eraseIdx d).map Dx.V)):=by rw [<- G,O6 (by omega)]; exact f1
   have g2:O[F + 1]?=some (.lst ((us ++ [x]).map Dx.V)):=by rw [<- G,D7 b2,D5]; rfl
   have T3:Tp O L:=by
    obtain ⟨c,hc⟩:=T1;exact ⟨c,by rw [<- G,O6 (by omega),<- I,O6 (by omega)]; exact hc⟩
   obtain ⟨vs,U,ew,pv,lv,ev,Z,k'⟩:=Q5c hL V P m j (zs.eraseIdx d) (us ++ [x]) O (by omega) (by rw [List.length_eraseIdx,bN hd]; omega) (by omega) (by rw [O3]; show us.length + 1 + m < 1000; omega) (fun y hy=>pz y (List.mem_of_mem_eraseIdx hy)) (fun y hy=>by
    rcases E9.mp hy with q | q
    ·exact pu y q
    ·rw [cc.mp q]; exact pz x (D2 hx)) T3 g1 g2
   refine ⟨vs,U,?_,pv,by rw [lv,O3]; show us.length + 1 + m=_; omega,ev,?_,fun t h1 h2 h3=>?_⟩
   ·rw [Ve,bQ a4,bN rfl,bd];exact ew
   ·rw [Z,<- G,D4,<- I,D4,M1.len]
   ·rw [k' t h1 h2 h3,<- G,O6 (fun z=>h3 z.symm),<- I,O6 (fun z=>h2 z.symm),M1.keep t h1]
theorem Q8z {S:Q2} {L:Nat} (T:Tp S L) {ys:List Dx} (O:ys.length < 100) (P:Dx->Prop) (hp:∀ x∈ys,P x):∃ (vs:List Dx) (z:Q2),U7 [.ref L,.lst (ys.map Dx.V)] S=.ok (.ref (S.length + 1)) z/\(∀ x∈vs,P x)/\vs.length=ys.length/\z[S.length + 1]?=some (.lst (vs.map Dx.V))/\z.length=S.length + 2/\∀ t,t < S.length->t≠L->z[t]?=S[t]?:=by
 have I:=T.lt;obtain ⟨q,j⟩:∃ q,S ++ [Cell.lst (ys.map Dx.V)] ++ [Cell.lst []]=q:=⟨_,rfl⟩;have U:q.length=S.length + 2:=by rw [<- j,O3,O3]; rfl
 have Z:q[S.length]?=some (.lst (ys.map Dx.V)):=by rw [<- j,F8,O9 (by omega),cy]; rfl
 have g2:q[S.length + 1]?=some (.lst (([]:List Dx).map Dx.V)):=by rw [<- j,F8,O9 (by omega),fQ]; rfl
 have T2:Tp q L:=by
  obtain ⟨c,hc⟩:=T;exact ⟨c,by rw [<- j,F8,O5 I]; exact hc⟩
 obtain ⟨vs,z,Y,pv,lv,ev,B,J⟩:=Q5c I (.lst (ys.map Dx.V)) P ys.length 100000 ys [] q (by omega) rfl O (by show 0 + ys.length < 1000; omega) hp (fun x h=>absurd h cQ) T2 Z g2;have step:z9 [some (.ref L),some (.lst (ys.map Dx.V)),none,none] S=.rt (.ref (S.length + 1)) z:=by
  refine Qg (Γ1:=[some (.ref L),some (.lst (ys.map Dx.V)),some (.ref S.length),none]) (S1:=S ++ [.lst (ys.map Dx.V)]) (J0 (qe (S1:=S) rfl)) ?_;refine Qg (Γ1:=tnG L (.lst (ys.map Dx.V)) S.length) (S1:=q) ((J0 (qe (ps:=[]) (S1:=S ++ [.lst (ys.map Dx.V)]) rfl)).trans (by rw [O3,j]; rfl)) ?_;exact Qg Y rfl
 refine ⟨vs,z,zn step,pv,by rw [lv]; show 0 + ys.length=_; omega,ev,by rw [B,U],fun t ht G=>?_⟩;rw [J t G (by omega) (by omega),<- j,F8,O5 ht]
def LA (S:Q2) (V:PV) (xs:List PV):Prop:=V=.lst xs\/∃ i,V=.ref i/\S[i]?=some (.lst xs)
theorem LA.at_ {S:Q2} {V:PV} {xs:List PV} (h:LA S V xs):ListAt S V xs:=by
 rcases h with h | h
 ·exact .inl h
 ·exact .inr (.inr h)
theorem Q3c {S:Q2} {V W:PV} {xs ys:List PV} (h:LA S V xs) (k:LA S W ys) (q:xs.length + ys.length<=1000000):Y5 S V W=.ok (.lst (xs ++ ys)) S:=by
 have q:xs.length + ys.length<=lim:=q;rcases h with rfl | ⟨i,rfl,e⟩ <;> rcases k with rfl | ⟨j,rfl,f⟩
 ·exact bN q
 ·show (match Xs S (.lst xs),Xs S (.ref j) with | some xs,some ys=>if xs.length + ys.length<=lim then Res.ok (PV.lst (xs ++ ys)) S else .stuck | _,_=>.stuck)=_
  rw [W1 f]; exact bN q
 ·show (match Xs S (.ref i),Xs S (.lst ys) with | some xs,some ys=>if xs.length + ys.length<=lim then Res.ok (PV.lst (xs ++ ys)) S else .stuck | _,_=>.stuck)=_
  rw [W1 e]; exact bN q
 ·show (match Xs S (.ref i),Xs S (.ref j) with | some xs,some ys=>if xs.length + ys.length<=lim then Res.ok (PV.lst (xs ++ ys)) S else .stuck | _,_=>.stuck)=_
  rw [W1 e,W1 f]; exact bN q
theorem Qgf {S:Q2} {L:Nat} {xs ys:List PV} (h:S[L]?=some (.lst xs)) (j:xs.length + ys.length<=1000000):Kv S (.ref L) [.lst ys]=.ok .non (S.set L (.lst (xs ++ ys))):=by
 show (match Xs S (.lst ys) with | some ys=>chg S (.ref L) fun xs=>if xs.length + ys.length<=lim then some (PV.non,xs ++ ys) else none | none=>.stuck)=_
 rw [show Xs S (.lst ys)=some ys from rfl];simp only [chg,h];rw [bN (show xs.length + ys.length<=lim from j)]
def cmR (n l:Nat):List Dx:=(bU n).map fun i=>Dx.cm l i
def cmL (n a k:Nat):List Dx:=(bU k).flatMap fun t=>cmR n (a + t)
theorem Q8v (n a k:Nat):cmL n a (k + 1)=cmL n a k ++ cmR n (a + k):=by
 unfold cmL;rw [cZ,List.flatMap_append];simp
theorem Q6j (n a:Nat):∀ k,(cmL n a k).length=k * n
 | 0=>by simp [cmL]
 | k + 1=>by rw [Q8v,O3,Q6j n a k,Nat.add_mul]; simp [cmR]
theorem Qgn {n a k:Nat} {x:Dx} (h:x∈cmL n a k):IsC n (a + k) x:=by
 unfold cmL at h;obtain ⟨t,j,q⟩:=gz.mp h;obtain ⟨i,hi,rfl⟩:=cG.mp q;have:=E4.mp j;exact ⟨a + t,i,by omega,E4.mp hi,rfl⟩
theorem Qr4 {n a k t i:Nat} (j:t < k) (hi:i < n):Dx.cm (a + t) i∈cmL n a k:=gz.mpr ⟨t,E4.mpr j,cG.mpr ⟨i,E4.mpr hi,rfl⟩⟩
abbrev kG (ns:List Int) (tb:Tab) (n:Nat) (c3 c4 c5 c6 c7 c8 c9 c10 c11 c12 c13 c14 c15 c16 c17 c18 c19:Option PV):Gam:=[some (.fro (ns.map .int)),some (Q7 tb),some (.int n),c3,c4,c5,c6,c7,c8,c9,c10,c11,c12,c13,c14,c15,c16,c17,c18,c19]
theorem Qzd {C:aA} {n:Nat} (J:n<=8) {Γ:Gam} {S:Q2} {L l:Nat} {ys:List Dx} (h2:Γ[2]?=some (some (.int n))) (z:Γ[6]?=some (some (.ref L))) (I:Γ[7]?=some (some (.int l))) (j:S[L]?=some (.lst (ys.map Dx.V))) (O:ys.length<=1000):Qcj C Γ S=.nx Γ (S.set L (.lst ((ys ++ cmR n l).map Dx.V))):=by
 have B:Q3 2 Γ S=.ok (.int n) S:=by unfold Q3; rw [h2]
 have q:Q3 6 Γ S=.ok (.ref L) S:=by unfold Q3; rw [z]
 have G:Jt (Qn 0) Ju (Qgj C) [] (Jv [none,some 7] Γ) (Zb 0 n) S=.ok ((cmR n l).map Dx.V) S:=by
  rw [W8,show Jv [none,some 7] Γ=[none,some (.int l)] by simp [Jv,I]];unfold cmR;rw [G9];refine Yk _ _ (by simp) fun i hi=>⟨_,rfl,?_⟩
  exact U1 (Q5 rfl (Q5 rfl (Q5 rfl rfl))) (by simp)
 rw [D5];exact Q1s q (W1 j) (Q5 (yc (Uh (Q3h (by omega) B) G)) rfl) (Qgf j (by rw [O2,O2]; simp [cmR]; omega))
theorem Qzc {C:aA} {n:Nat} (J:n<=8) {Γ:Gam} {S:Q2} {L l:Nat} {ys:List Dx} (h2:Γ[2]?=some (some (.int n))) (z:Γ[11]?=some (some (.ref L))) (I:Γ[7]?=some (some (.int l))) (j:S[L]?=some (.lst (ys.map Dx.V))) (O:ys.length<=1000):Qci C Γ S=.nx Γ (S.set L (.lst ((ys ++ cmR n l).map Dx.V))):=by
 have B:Q3 2 Γ S=.ok (.int n) S:=by unfold Q3; rw [h2]
 have q:Q3 11 Γ S=.ok (.ref L) S:=by unfold Q3; rw [z]
 have G:Jt (Qn 0) Ju (Qgi C) [] (Jv [none,some 7] Γ) (Zb 0 n) S=.ok ((cmR n l).map Dx.V) S:=by
  rw [W8,show Jv [none,some 7] Γ=[none,some (.int l)] by simp [Jv,I]];unfold cmR;rw [G9];refine Yk _ _ (by simp) fun i hi=>⟨_,rfl,?_⟩
  exact U1 (Q5 rfl (Q5 rfl (Q5 rfl rfl))) (by simp)
 rw [D5];exact Q1s q (W1 j) (Q5 (yc (Uh (Q3h (by omega) B) G)) rfl) (Qgf j (by rw [O2,O2]; simp [cmR]; omega))
theorem Qqk (C:aA):∀ ns:List Int,ns.length<=63->∃ st',Qrx C [.fro (ns.map .int)] []=.ok (.bl true) st':=by
 intro ns l8;obtain ⟨n,tb,⟨h1,h8⟩,I0,e1⟩:=Qj1 ns;have w:=I0.w;have c:=I0.c;obtain ⟨m,hm,em⟩:∃ m:Nat,m<=8/\(if (if (ns.length:Int) - 1 < 8 then (ns.length:Int) - 1 else 8) > 4 then (if (ns.length:Int) - 1 < 8 then (ns.length:Int) - 1 else 8) else 4)=(m:Int):=by
  refine ⟨(if (if (ns.length:Int) - 1 < 8 then (ns.length:Int) - 1 else 8) > 4 then (if (ns.length:Int) - 1 < 8 then (ns.length:Int) - 1 else 8) else 4).toNat,?_,?_⟩ <;> split <;> split <;> omega
 obtain ⟨xs,S1,n2,A,e2⟩:=Qiy I0 ns m (by omega);have l5:=A.len;have I:=(SI17.start w c).run A.ok;have g1:=Qc0 n xs (s0 n tb);have l3:(s0 n tb).le.length=0:=rfl;have b5:=fun (row:List Dx)=>Qm1 (row:=row) w c A.ok
 have d0:=A.ls;obtain ⟨s,hs⟩:∃ s,Yz n (s0 n tb) xs=s:=⟨_,rfl⟩;rw [hs] at I g1 b5 d0;have r:=I.ri;obtain ⟨G,d8⟩:∃ G,s.le.length=G:=⟨_,rfl⟩;rw [d8] at g1 b5;have i9:Yr S1 [.ref 2]=.ok (.int G) S1:=by
  have hV:ListAt S1 (.ref 2) (s.le.map Q7):=.inr (.inr ⟨2,rfl,d0.le⟩);rw [hV.len,O2,d8]
 obtain ⟨z,c4⟩:∃ z,S1.length=z:=⟨_,rfl⟩;rw [c4] at l5;have n6:∀ (f:Nat->Dx) (x:Str),(∀ i,(f i).V=.tup [.str x,.int i])->((bU n).map fun i:Nat=>PV.tup [.str x,.int i])=((bU n).map f).map Dx.V:=fun f x hf=>by
  rw [G9]; exact eu fun i _=>(hf i).symm
 have l0:Jt (Qn 0) Ju (Qgm C) [] (Jv [none] (kG ns tb n (some (.ref 4)) (some (.ref 3)) (some (.int G)) none none none none none none none none none none none none none none)) (Zb 0 n) S1=.ok (((bU n).map Dx.kp).map Dx.V) S1:=by
  rw [W8,G9];exact Yk _ _ (by simp) fun i hi=>⟨_,rfl,U1 (Q5 rfl (Q5 rfl rfl)) (by simp)⟩
 have aK:Y5 S1 (.ref 4) (.lst (((bU n).map Dx.kp).map Dx.V))=.ok (.lst ((xs ++ (bU n).map Dx.kp).map Dx.V)) S1:=by
  rw [D5];exact Q3c (.inr ⟨4,rfl,A.de⟩) (.inl rfl) (by simp; omega)
 have i4:Jt (Qn 0) Ju (Qgk C) [] (Jv [none] (kG ns tb n (some (.lst ((xs ++ (bU n).map Dx.kp).map Dx.V))) (some (.ref 3)) (some (.int G)) none none none none none none none none none none none none none none)) (Zb 0 n) S1=.ok (((bU n).map Dx.sd).map Dx.V) S1:=by
  rw [W8,G9];exact Yk _ _ (by simp) fun i hi=>⟨_,rfl,U1 (Q5 rfl (Q5 rfl rfl)) (by simp)⟩
 obtain ⟨D,hD⟩:∃ D,(xs ++ ksL n)=D:=⟨_,rfl⟩;have lD:D.length<=100:=by rw [<- hD]; simp [ksL]; omega
 have aS:Y5 S1 (.lst ((xs ++ (bU n).map Dx.kp).map Dx.V)) (.lst (((bU n).map Dx.sd).map Dx.V))=.ok (.lst (D.map Dx.V)) S1:=by
  rw [<- hD]; unfold ksL;rw [<- F8,D5 (l₁:=xs ++ _)];exact Q3c (.inl rfl) (.inl rfl) (by simp; omega)
 have i5:(S1 ++ [Cell.lst []])[z]?=some (.lst ((cmL n 0 0).map Dx.V)):=by rw [<- c4]; simp [cmL]
 obtain ⟨n0,S2,f2,⟨c7,rfl⟩,cm2,c3,b9⟩:=Uu (g:=fun k:Nat=>PV.int (k:Int)) (xs:=bU (G + n)) (ga:=Qn 7) (body:=Qcj C) (w:=[]) (Γ:=kG ns tb n (some (.lst (D.map Dx.V))) (some (.ref 3)) (some (.int G)) (some (.ref z)) none none none none none none none none none none none none none) (st:=S1 ++ [Cell.lst []])
  (fun j Γ st=>(∃ c7,Γ=kG ns tb n (some (.lst (D.map Dx.V))) (some (.ref 3)) (some (.int G)) (some (.ref z)) c7 none none none none none none none none none none none none)/\st[z]?=some (.lst ((cmL n 0 j).map Dx.V))/\st.length=z + 1/\∀ t,t < z->st[t]?=S1[t]?) (fun _ _ _ _=>by simp)
  (fun j x Γ st U ⟨⟨c7,a5⟩,hcm,hlen,hold⟩=>by
   subst a5;have hj:j < G + n:=by simpa using (O0.mp U).1
   rw [F1 hj] at U;cases U;have:=Q6j n 0 j;have h4:j * n<=32 * 8:=fU (by omega) h8;refine ⟨_,rfl,_,_,Qzd (l:=j) h8 rfl rfl rfl hcm (by omega),⟨_,rfl⟩,?_,by rw [D4]; exact hlen,fun t ht=>by rw [O6 (by omega)]; exact hold t ht⟩
   rw [D7 (by omega),Q8v,hJ])
  ⟨⟨_,rfl⟩,i5,by rw [O3,c4]; rfl,fun t ht=>O5 (by omega)⟩
 rw [<- W8] at f2;rw [F4] at cm2;obtain ⟨ct,e3⟩:=Q46 ns 9 S2;rw [c3] at e3;obtain ⟨S3,d1⟩:∃ S3,S2 ++ [Cell.lst [.int ct]]=S3:=⟨_,rfl⟩;rw [d1] at e3;have g0:S3.length=z + 2:=by rw [<- d1,O3,c3]; rfl
 have d3:∀ t,t < z + 1->S3[t]?=S2[t]?:=fun t ht=>by rw [<- d1,O5 (by omega)]
 have T3:Tp S3 (z + 1):=⟨ct,by rw [<- d1,O9 (by omega),show z + 1 - S2.length=0 by omega]; rfl⟩;obtain ⟨Y,hY⟩:∃ Y,(cmL n 0 (G + n)).take 60=Y:=⟨_,rfl⟩;have lY:Y.length < 100:=by rw [<- hY,cC]; have:=dm 60 (cmL n 0 (G + n)).length; omega
 have pY:∀ x∈Y,IsC n (G + n) x:=fun x U=>by
  rw [<- hY] at U;have:=Qgn (hR U)
  rwa [hJ] at this
 have f0:∀ {S:Q2} {Γ:Gam},Q3 6 Γ S=.ok (.ref z) S->S[z]?=some (.lst ((cmL n 0 (G + n)).map Dx.V))->mSl (Q3 6) W9 (Ut (mC (.int 60))) Γ S=.ok (.lst (Y.map Dx.V)) S:=fun {S Γ} hv hS=>by
  rw [Qkt,hv,J2,show W9 Γ S=.ok none S from rfl,J2,show Ut (mC (.int 60)) Γ S=.ok (some ((60:Nat):Int)) S from rfl,J2,Lw.ListAt.sl (show ListAt S (.ref z) ((cmL n 0 (G + n)).map Dx.V) from .inr (.inr ⟨z,rfl,hS⟩)),jm,<- dy,hY]
 obtain ⟨V1,S4,e4,p4,n4,a4,b7,b4⟩:=Q8z T3 lY _ pY;rw [g0] at e4 a4 b7 b4;have f5:S3[z]?=some (.lst ((cmL n 0 (G + n)).map Dx.V)):=by rw [d3 z (by omega)]; exact cm2
 have k4:S4[z]?=some (.lst ((cmL n 0 (G + n)).map Dx.V)):=by rw [b4 z (by omega) (by omega)]; exact f5
 obtain ⟨g4,e5⟩:=Q46 ns 10 S4;rw [b7] at e5;obtain ⟨S5,c6⟩:∃ S5,S4 ++ [Cell.lst [.int g4]]=S5:=⟨_,rfl⟩;rw [c6] at e5;have e7:S5.length=z + 5:=by rw [<- c6,O3,b7]; rfl
 have b8:∀ t,t < z + 4->S5[t]?=S4[t]?:=fun t ht=>by rw [<- c6,O5 (by omega)]
 have T5:Tp S5 (z + 4):=⟨g4,by rw [<- c6,O9 (by omega),show z + 4 - S4.length=0 by omega]; rfl⟩;have i2:S5[z]?=some (.lst ((cmL n 0 (G + n)).map Dx.V)):=by rw [b8 z (by omega)]; exact k4
 obtain ⟨V2,S6,e6,p6,m7,a6,b6,b3⟩:=Q8z T5 lY _ pY;rw [e7] at e6 a6 b6 b3;have f3:S6[z + 3]?=some (.lst (V1.map Dx.V)):=by rw [b3 (z + 3) (by omega) (by omega),b8 (z + 3) (by omega)]; exact a4
 have h6:(S6 ++ [Cell.lst []])[z + 7]?=some (.lst ((cmL n G 0).map Dx.V)):=by rw [O9 (by omega),show z + 7 - S6.length=0 by omega]; rfl
 obtain ⟨n5,S7,f7,⟨d7,rfl⟩,fin7,len7,old7⟩:=Uu (g:=fun k:Nat=>PV.int ((G:Int) + (k:Int))) (xs:=bU n) (ga:=Qn 7) (body:=Qci C) (w:=[]) (Γ:=kG ns tb n (some (.lst (D.map Dx.V))) (some (.ref 3)) (some (.int G)) (some (.ref z)) c7 (some (.ref (z + 1))) (some (.ref (z + 3))) (some (.ref (z + 6))) (some (.ref (z + 7))) none none none none none none none none) (st:=S6 ++ [Cell.lst []])
  (fun j Γ st=>(∃ c7,Γ=kG ns tb n (some (.lst (D.map Dx.V))) (some (.ref 3)) (some (.int G)) (some (.ref z)) c7 (some (.ref (z + 1))) (some (.ref (z + 3))) (some (.ref (z + 6))) (some (.ref (z + 7))) none none none none none none none none)/\st[z + 7]?=some (.lst ((cmL n G j).map Dx.V))/\st.length=z + 8/\∀ t,t < z + 7->st[t]?=S6[t]?) (fun _ _ _ _=>by simp)
  (fun j x Γ st U ⟨⟨c7,a5⟩,hcm,hlen,hold⟩=>by
   subst a5;have hj:j < n:=by simpa using (O0.mp U).1
   rw [F1 hj] at U;cases U;have:=Q6j n G j;have h4:j * n<=8 * 8:=fU (by omega) h8;rw [show PV.int ((G:Int) + (j:Int))=PV.int ((G + j:Nat):Int) by rw [hU]];refine ⟨_,rfl,_,_,Qzc (l:=G + j) h8 rfl rfl rfl hcm (by omega),⟨_,rfl⟩,?_,by rw [D4]; exact hlen,fun t ht=>by rw [O6 (by omega)]; exact hold t ht⟩
   rw [D7 (by omega),Q8v])
  ⟨⟨_,rfl⟩,h6,by rw [O3,b6]; rfl,fun t ht=>O5 (by omega)⟩
 rw [F4] at fin7;obtain ⟨F,hF⟩:∃ F,cmL n G n=F:=⟨_,rfl⟩;rw [hF] at fin7;have lF:F.length<=64:=by rw [<- hF,Q6j]; exact fU h8 h8
 have e8:S7[z + 3]?=some (.lst (V1.map Dx.V)):=by rw [old7 _ (by omega)]; exact f3
 have d9:S7[z + 6]?=some (.lst (V2.map Dx.V)):=by rw [old7 _ (by omega)]; exact a6
 have e9:∀ t,t < 5->S7[t]?=S1[t]?:=fun t ht=>by rw [old7 t (by omega),b3 t (by omega) (by omega),b8 t (by omega),b4 t (by omega) (by omega),d3 t (by omega),b9 t (by omega)]
 have b2:LS s S7:=d0.of fun t ht=>e9 t (by omega)
 have J:=I.jn h1;have g8:oIx S7 (.ref 0) (.int 0)=.ok (Q7 (s.now.getD 0 [])) S7:=xx b2.now (by rw [r.ln]; exact h1);have h5:s.now.map Q7=(bU n).map fun i=>Q7 (s.now.getD i []):=by rw [Q7w s.now [] Q7,r.ln]
 have src:Xb S7 (.ref 0)=some ((bU n).map fun i=>Q7 (s.now.getD i []),[(0,.lst (s.now.map Q7))]):=by
  rw [<- h5]; unfold Xb; simp only [b2.now]
 obtain ⟨K,hK⟩:∃ K:Option PV->Option PV->Option PV->Option PV->Option PV->Option PV->Option PV->Option PV->Gam,K=fun k5 a7 h7 B i7 b1 a9 Z=>kG ns tb n (some (.lst (D.map Dx.V))) (some (.ref 3)) (some (.int G)) (some (.ref z)) d7 (some (.ref (z + 1))) (some (.ref (z + 3))) (some (.ref (z + 6))) (some (.ref (z + 7))) k5 a7 h7 B i7 b1 a9 Z:=⟨_,rfl⟩
 obtain ⟨l6,S8,f8,⟨a7,rfl⟩,rfl⟩:=Uu (g:=fun i=>Q7 (s.now.getD i [])) (xs:=bU n) (ga:=Qn 13) (body:=Qgw C) (w:=[(0,.lst (s.now.map Q7))]) (Γ:=K (some (Q7 (s.now.getD 0 []))) none none none none none none none) (st:=S7)
  (fun i Γ st=>(∃ a7,Γ=K (some (Q7 (jnt n s i))) a7 none none none none none none)/\st=S7) (fun _ _ st ⟨_,h⟩=>by rw [h]; exact fun x U=>by rw [cc.mp U]; exact b2.now)
  (fun i x Γ st U ⟨⟨a7,a5⟩,hst⟩=>by
   subst a5; subst hst;have f4:i < n:=by simpa using (O0.mp U).1
   rw [F1 f4] at U;cases U;have wJ:=(J i (by omega)).w;have wN:=r.wn i f4;have ej:=Qax (a:=jnt n s i) (b:=s.now.getD i []) (by rw [wJ.len,wN.len]) (by rw [wJ.len,Z7]; omega) (fun q hq=>by rw [wJ.row q hq,Z7]; omega) st;refine ⟨K (some (Q7 (jnt n s i))) (some (Q7 (s.now.getD i []))) none none none none none none,by rw [hK]; rfl,K (some (Q7 (jnt n s (i + 1)))) (some (Q7 (s.now.getD i []))) none none none none none none,_,?_,⟨_,rfl⟩,rfl⟩;rw [hK];exact J0 (Qu (n:=2) (Q5 rfl (Q5 rfl rfl)) rfl ej))
  ⟨⟨_,rfl⟩,rfl⟩
 rw [F4] at f8;have JN:=J n (O8 n);have eo:=JN.own r;rw [eo] at f8;obtain ⟨jt,c8⟩:∃ jt,Q5r n s=jt:=⟨_,rfl⟩;rw [c8] at f8;have zj:Sz n jt:=by rw [<- c8]; exact Qbr r
 have i1:Jt (Qn 0) Ju (Qgh C) [] (Jv [none,some 12] (K (some (Q7 jt)) a7 none none none none none none)) (Zb 0 n) S8=.ok ((bT n jt).map Q7) S8:=by
  have h9:((bU n).map fun _=>Q7 jt)=(bT n jt).map Q7:=by
   rw [fR];exact fS.mpr ⟨by simp,fun b hb=>by obtain ⟨_,_,rfl⟩:=cG.mp hb; rfl⟩
  rw [W8,<- h9,hK];exact Yk _ _ (by simp) fun j hj=>⟨_,rfl,rfl⟩
 have pF:∀ x∈F,IsC n (G + n) x:=fun x U=>by rw [<- hF] at U; exact Qgn U
 have b0:∀ a i,a < n->i < n->Dx.cm (G + a) i∈F:=fun a i ha hi=>by rw [<- hF]; exact Qr4 ha hi
 have d6:LA S8 (.ref (z + 3)) (V1.map Dx.V):=.inr ⟨_,rfl,e8⟩;have i0:LA S8 (.ref (z + 6)) (V2.map Dx.V):=.inr ⟨_,rfl,d9⟩;have d5:LA S8 (.ref (z + 7)) (F.map Dx.V):=.inr ⟨_,rfl,fin7⟩;have a1:Y5 S8 (.ref (z + 3)) (.ref (z + 7))=.ok (.lst ((V1 ++ F).map Dx.V)) S8:=by rw [D5]; exact Q3c d6 d5 (by simp; omega)
 have a2:Y5 S8 (.ref (z + 6)) (.lst ((V1.take 7).map Dx.V))=.ok (.lst ((V2 ++ V1.take 7).map Dx.V)) S8:=by rw [D5]; exact Q3c i0 (.inl rfl) (by simp; omega)
 have a3:Y5 S8 (.lst ((V2 ++ V1.take 7).map Dx.V)) (.ref (z + 7))=.ok (.lst ((V2 ++ V1.take 7 ++ F).map Dx.V)) S8:=by rw [D5 (l₂:=F)]; exact Q3c (.inl rfl) d5 (by simp; omega)
 have i3:Y5 S8 (.ref (z + 7)) (.ref (z + 3))=.ok (.lst ((F ++ V1).map Dx.V)) S8:=by rw [D5]; exact Q3c d5 d6 (by simp; omega)
 obtain ⟨KD,h3⟩:∃ KD:Option PV->Gam,KD=fun B=>K (some (Q7 jt)) a7 (some (.lst ((bT n jt).map Q7))) B none none none none:=⟨_,rfl⟩
 have O:∀ B,KD B=kG ns tb n (some (.lst (D.map Dx.V))) (some (.ref 3)) (some (.int G)) (some (.ref z)) d7 (some (.ref (z + 1))) (some (.ref (z + 3))) (some (.ref (z + 6))) (some (.ref (z + 7))) (some (Q7 jt)) a7 (some (.lst ((bT n jt).map Q7))) B none none none none:=fun B=>by rw [h3,hK]
 have v1:∀ S B,Q3 1 (KD B) S=.ok (Q7 tb) S:=fun S B=>by rw [O]; rfl
 have v3:∀ S B,Q3 3 (KD B) S=.ok (.lst (D.map Dx.V)) S:=fun S B=>by rw [O]; rfl
 have v9:∀ S B,Q3 9 (KD B) S=.ok (.ref (z + 3)) S:=fun S B=>by rw [O]; rfl
 have k8:∀ S B,Q3 10 (KD B) S=.ok (.ref (z + 6)) S:=fun S B=>by rw [O]; rfl
 have c5:∀ S B,Q3 11 (KD B) S=.ok (.ref (z + 7)) S:=fun S B=>by rw [O]; rfl
 have l2:∀ S B,Q3 14 (KD B) S=.ok (.lst ((bT n jt).map Q7)) S:=fun S B=>by rw [O]; rfl
 have i8:∀ S v,Q3 15 (KD (some v)) S=.ok v S:=fun S B=>by rw [O]; rfl
 have k6:mSl (Q3 9) W9 (Ut (mC (.int 7))) (KD none) S8=.ok (.lst ((V1.take 7).map Dx.V)) S8:=by
  rw [Qkt,v9,J2,show W9 (KD none) S8=.ok none S8 from rfl,J2,show Ut (mC (.int 7)) (KD none) S8=.ok (some ((7:Nat):Int)) S8 from rfl,J2,Lw.ListAt.sl d6.at_,jm,<- dy]
 have d4:Q51 (Q4 (mOp Y5 (Q3 9) (Q3 11)) (Q4 (mOp Y5 (mOp Y5 (Q3 10) (mSl (Q3 9) W9 (Ut (mC (.int 7))))) (Q3 11)) (Q4 (Q3 11) (Q4 (mOp Y5 (Q3 11) (Q3 9)) Qa)))) (KD none) S8=.ok (.lst [.lst ((V1 ++ F).map Dx.V),.lst ((V2 ++ V1.take 7 ++ F).map Dx.V),.ref (z + 7),.lst ((F ++ V1).map Dx.V)]) S8:=
  Qcg (Q5 (Qb (v9 _ _) (c5 _ _) a1) (Q5 (Qb (Qb (k8 _ _) k6 a2) (c5 _ _) a3) (Q5 (c5 _ _) (Q5 (Qb (c5 _ _) (v9 _ _) i3) rfl)))) (by simp)
 obtain ⟨RW,g3⟩:∃ RW:List (PV × List Dx),RW=[(.lst ((V1 ++ F).map Dx.V),V1 ++ F),(.lst ((V2 ++ V1.take 7 ++ F).map Dx.V),V2 ++ V1.take 7 ++ F),(.ref (z + 7),F),(.lst ((F ++ V1).map Dx.V),F ++ V1)]:=⟨_,rfl⟩;have i6:RW.map cP=[.lst ((V1 ++ F).map Dx.V),.lst ((V2 ++ V1.take 7 ++ F).map Dx.V),.ref (z + 7),.lst ((F ++ V1).map Dx.V)]:=by rw [g3]; rfl
 have p7:∀ x∈V1.take 7,IsC n (G + n) x:=fun x U=>p4 x (hR U)
 have c9:∀ {a b:List Dx},(∀ x∈a,IsC n (G + n) x)->(∀ x∈b,IsC n (G + n) x)->∀ x∈a ++ b,IsC n (G + n) x:=fun ha hb x U=>(E9.mp U).elim (ha x) (hb x)
 have k9:∀ p∈RW,(∀ st:Q2,st[z + 7]?=some (.lst (F.map Dx.V))->LA st p.1 (p.2.map Dx.V))/\Cms n (G + n) p.2/\(∀ a i,a < n->i < n->Dx.cm (G + a) i∈p.2)/\p.2.length<=400:=fun p hp=>by
  have l7:(V1.take 7).length<=7:=by rw [cC]; exact dm _ _
  rw [g3] at hp;rcases D8.mp hp with rfl | hp
  ·exact ⟨fun st _=>.inl rfl,Cms.of (c9 p4 pF),fun a i ha hi=>E5 _ (b0 a i ha hi),by rw [O3]; omega⟩
  rcases D8.mp hp with rfl | hp
  ·exact ⟨fun st _=>.inl rfl,Cms.of (c9 (c9 p6 p7) pF),fun a i ha hi=>E5 _ (b0 a i ha hi),by rw [O3,O3]; omega⟩
  rcases D8.mp hp with rfl | hp
  ·exact ⟨fun st h=>.inr ⟨_,rfl,h⟩,Cms.of pF,b0,show F.length<=400 by omega⟩
  rw [cc.mp hp];exact ⟨fun st _=>.inl rfl,Cms.of (c9 pF p4),fun a i ha hi=>G6 _ (b0 a i ha hi),by rw [O3]; omega⟩
 obtain ⟨m5,S9,f9,⟨B,rfl⟩,old9⟩:=Uu (g:=cP) (xs:=RW) (ga:=Qn 15) (body:=Qgv C) (w:=[]) (Γ:=KD none) (st:=S8)
  (fun _ Γ st=>(∃ B,Γ=KD B)/\∀ t,t < z + 8->st[t]?=S8[t]?) (fun _ _ _ _=>by simp)
  (fun j p Γ st hp ⟨⟨B,a5⟩,hold⟩=>by
   subst a5;obtain ⟨q1,q2,q3,q4⟩:=k9 p (D2 hp);have g5:st[z + 7]?=some (.lst (F.map Dx.V)):=by rw [hold _ (by omega)]; exact fin7
   have m8:z + 7 < st.length:=(O0.mp g5).1;have ad:Y5 st (.lst (D.map Dx.V)) p.1=.ok (.lst ((D ++ p.2).map Dx.V)) st:=by rw [D5]; exact Q3c (.inl rfl) (q1 st g5) (by simp; omega)
   obtain ⟨ok,en⟩:=b5 p.2 q2 q3;rw [hD] at ok en;rw [c8] at en;obtain ⟨d2,e3,c3,b9,m9,f1⟩:=Qhi (C:=C) (S:=st) (DV:=.lst ((D ++ p.2).map Dx.V)) (xs:=D ++ p.2) (wt:=[]) w c (fun st _=>⟨rfl,Q1w st⟩) (by rw [O3]; omega) ok;rw [en] at f1;have gd:Zv dep (.lst ((bT n jt).map Q7))=true:=by simp [dep,Zv,Q7,J1]
   have ne:=(ListAt.eqs (st:=d2) (V:=.ref (st.length + n + 2)) (.inr (.inr ⟨_,rfl,f1⟩)) gd).2.1;refine ⟨KD (some p.1),by rw [O,O]; rfl,_,d2,V3 (J6 (Qb (Qb (Qu (n:=2) (Q5 (v1 _ _) (Q5 (Qb (v3 _ _) (i8 _ _) ad) rfl)) rfl e3) rfl (show oIx d2 (.tup [.ref (st.length + n + 1),.ref (st.length + n + 2)]) (.int 1)=.ok (.ref (st.length + n + 2)) d2 from rfl)) (l2 _ _) ne)) rfl,⟨_,rfl⟩,fun t ht=>by rw [b9 t (by omega)]; exact hold t ht⟩)
  ⟨⟨_,rfl⟩,fun _ _=>rfl⟩
 rw [i6] at f9;have g7:LS s S9:=b2.of fun t ht=>old9 t (by omega)
 obtain ⟨KE,a8⟩:∃ KE:Option PV->Option PV->Option PV->Gam,KE=fun b1 a9 Z=>kG ns tb n (some (.lst (D.map Dx.V))) (some (.ref 3)) (some (.int G)) (some (.ref z)) d7 (some (.ref (z + 1))) (some (.ref (z + 3))) (some (.ref (z + 6))) (some (.ref (z + 7))) (some (Q7 jt)) a7 (some (.lst ((bT n jt).map Q7))) B (some (.ref 0)) b1 a9 Z:=⟨_,rfl⟩
 have ix:∀ i,i < n->oIx S9 (.ref 0) (.int i)=.ok (Q7 (s.now.getD i [])) S9:=fun i hi=>xx g7.now (by rw [r.ln]; exact hi)
 obtain ⟨l4,SA,fA,⟨m4,n3,l9,rfl⟩,rfl⟩:=Uu (g:=fun k:Nat=>PV.int (k:Int)) (xs:=bU n) (ga:=Qn 17) (body:=Qgu C) (w:=[]) (Γ:=KE none none none) (st:=S9)
  (fun i Γ st=>(∃ b1 a9 Z,Γ=KE b1 a9 Z)/\st=S9) (fun _ _ _ _=>by simp)
  (fun i x Γ st U ⟨⟨b1,a9,Z,a5⟩,hst⟩=>by
   subst a5; subst hst;have hi:i < n:=by simpa using (O0.mp U).1
   rw [F1 hi] at U;cases U;have er:=Q0w (r.wn i hi).sz (by omega) hi st;have k7:=Q4j zj (by omega) hi st;have f6:Qq jt i=Qq (s.now.getD i []) i + Yy n (fun j=>ent (s.now.getD j []) j i - ent (s.now.getD i []) j i):=by rw [<- c8]; exact Qqr r hi
   obtain ⟨g,hg⟩:∃ g:Nat->Int,g=fun j=>ent (s.now.getD j []) j i - ent (s.now.getD i []) j i:=⟨_,rfl⟩
   rw [<- hg] at f6;have gi:g i=0:=by rw [hg]; show ent _ i i - ent _ i i=0; omega
   obtain ⟨m6,SB,fB,⟨l1,rfl⟩,rfl⟩:=Uu (g:=fun k:Nat=>PV.int (k:Int)) (xs:=bU n) (ga:=Qn 19) (body:=Qgt C) (w:=[]) (Γ:=KE (some (.int i)) (some (.int (Qq (s.now.getD i []) i))) Z) (st:=st)
    (fun j Γ st'=>(∃ Z,Γ=KE (some (.int i)) (some (.int (Qq (s.now.getD i []) i + Yy j g))) Z)/\st'=st) (fun _ _ _ _=>by simp)
    (fun j x Γ st' U ⟨⟨Z,a5⟩,hst⟩=>by
     subst a5; subst hst;have hj:j < n:=by simpa using (O0.mp U).1
     rw [F1 hj] at U;cases U;refine ⟨KE (some (.int i)) (some (.int (Qq (s.now.getD i []) i + Yy j g))) (some (.int j)),by rw [a8]; rfl,KE (some (.int i)) (some (.int (Qq (s.now.getD i []) i + Yy (j + 1) g))) (some (.int j)),_,?_,⟨_,rfl⟩,rfl⟩;rw [a8,Jh]
     by_cases q:i=j
     ·subst q;rw [gi,hW];exact V3 (J6 (Qb rfl rfl (Qrn st' _))) rfl
     ·have c1:=jh (r.wn j hj).sz hj (E7 hi) st';have c2:=jh (r.wn i hi).sz hj (E7 hi) st';have gj:Qq (s.now.getD i []) i + Yy j g + ent (s.now.getD j []) j i - ent (s.now.getD i []) j i=Qq (s.now.getD i []) i + (Yy j g + g j):=by
       have:g j=ent (s.now.getD j []) j i - ent (s.now.getD i []) j i:=by rw [hg]
       omega
      rw [<- gj];exact zu (J6 (Qb rfl rfl (Qwh st' q))) (Qg (J0 (Qb rfl (Qb (Qb (Qb rfl rfl (ix j hj)) rfl c1.1) rfl c1.2) (Q3b st' _ _))) (J0 (Qb rfl (Qb (Qb (Qb rfl rfl (ix i hi)) rfl c2.1) rfl c2.2) (Qje st' _ _)))))
    ⟨⟨_,by rw [show Yy 0 g=0 from rfl,hW]⟩,rfl⟩
   rw [<- W8,F4,<- f6] at fB;refine ⟨KE (some (.int i)) a9 Z,by rw [a8]; rfl,KE (some (.int i)) (some (.int (Qq jt i))) l1,_,?_,⟨_,_,_,rfl⟩,rfl⟩;refine Qg (Γ1:=KE (some (.int i)) (some (.int (Qq (s.now.getD i []) i))) Z) ?_ (Qg (zh (Q3h (n:=n) (by omega) (by rw [a8]; rfl)) fB) ?_)
   ·rw [a8];exact J0 (Qu (n:=2) (Q5 (Qb rfl rfl (ix i hi)) (Q5 rfl rfl)) rfl er)
   ·rw [a8];exact V3 (J6 (Qb (Qu (n:=2) (Q5 rfl (Q5 rfl rfl)) rfl k7) rfl (Qrn SB _))) rfl)
  ⟨⟨_,_,_,rfl⟩,rfl⟩
 rw [<- W8] at fA;have e0:Qmx [] [.int 8,.int ((ns.length:Int) - 1)]=.ok (.int (if (ns.length:Int) - 1 < 8 then (ns.length:Int) - 1 else 8)) []:=Qmw _ _ _;have g6:Qa5 [] [.int 4,.int (if (ns.length:Int) - 1 < 8 then (ns.length:Int) - 1 else 8)]=.ok (.int m) []:=by rw [Qeb,em]
 have ln:Yr [] [.fro (ns.map .int)]=.ok (.int ns.length) []:=by simp
 have g9:Yr [] [Q7 tb]=.ok (.int n) []:=by simp [Q7,w.len]
 have step:Qkr C [some (.fro (ns.map .int)),none,none,none,none,none,none,none,none,none,none,none,none,none,none,none,none,none,none,none] []=.rt (.bl true) SA:=by
  refine Qg (Γ1:=[some (.fro (ns.map .int)),some (Q7 tb),none,none,none,none,none,none,none,none,none,none,none,none,none,none,none,none,none,none]) (J0 (Qu (n:=1) (Q5 rfl rfl) rfl e1)) ?_;refine Qg (Γ1:=kG ns tb n none none none none none none none none none none none none none none none none none) (J0 (Uw (Q5 rfl rfl) g9)) ?_;refine Qg (Γ1:=kG ns tb n (some (.ref 4)) (some (.ref 3)) none none none none none none none none none none none none none none none) (Qug (Qu (n:=4) (Q5 rfl (Q5 rfl (Q5 (Uw (Q5 rfl (Q5 (Uw (Q5 rfl (Q5 (Qb (Uw (Q5 rfl rfl) ln) rfl (Qje [] _ _)) rfl)) e0) rfl)) g6) (Q5 rfl rfl)))) rfl e2) rfl) ?_;refine Qg (Γ1:=kG ns tb n (some (.ref 4)) (some (.ref 3)) (some (.int G)) none none none none none none none none none none none none none none) (J0 (Uw (Q5 (Kx rfl rfl d0.ge) rfl) i9)) ?_;refine Qg (Γ1:=kG ns tb n (some (.lst ((xs ++ (bU n).map Dx.kp).map Dx.V))) (some (.ref 3)) (some (.int G)) none none none none none none none none none none none none none none) (J0 (Qb rfl (yc (Uh (Q3h (n:=n) (by omega) rfl) l0)) aK)) ?_
  refine Qg (Γ1:=kG ns tb n (some (.lst (D.map Dx.V))) (some (.ref 3)) (some (.int G)) none none none none none none none none none none none none none none) (J0 (Qb rfl (yc (Uh (Q3h (n:=n) (by omega) rfl) i4)) aS)) ?_;refine Qg (Γ1:=kG ns tb n (some (.lst (D.map Dx.V))) (some (.ref 3)) (some (.int G)) (some (.ref z)) none none none none none none none none none none none none none) (S1:=S1 ++ [.lst []]) ((J0 (qe (ps:=[]) (S1:=S1) rfl)).trans (by rw [c4]; rfl)) ?_;refine Qg (zh (Q3h (n:=G + n) (by omega) ((Qb rfl rfl (Q3b _ _ _)).trans (by rw [hU]))) f2) ?_;refine Qg (Γ1:=kG ns tb n (some (.lst (D.map Dx.V))) (some (.ref 3)) (some (.int G)) (some (.ref z)) c7 (some (.ref (z + 1))) none none none none none none none none none none none) (J0 (Qu (n:=2) (Q5 rfl (Q5 rfl rfl)) rfl e3)) ?_;refine Qg (Γ1:=kG ns tb n (some (.lst (D.map Dx.V))) (some (.ref 3)) (some (.int G)) (some (.ref z)) c7 (some (.ref (z + 1))) (some (.ref (z + 3))) none none none none none none none none none none) (J0 (Qu (n:=2) (Q5 rfl (Q5 (f0 rfl f5) rfl)) rfl e4)) ?_
  refine Qg (Γ1:=kG ns tb n (some (.lst (D.map Dx.V))) (some (.ref 3)) (some (.int G)) (some (.ref z)) c7 (some (.ref (z + 1))) (some (.ref (z + 3))) (some (.ref (z + 6))) none none none none none none none none none) (J0 (Qu (n:=2) (Q5 (Qu (n:=2) (Q5 rfl (Q5 rfl rfl)) rfl e5) (Q5 (f0 rfl i2) rfl)) rfl e6)) ?_;refine Qg (Γ1:=kG ns tb n (some (.lst (D.map Dx.V))) (some (.ref 3)) (some (.int G)) (some (.ref z)) c7 (some (.ref (z + 1))) (some (.ref (z + 3))) (some (.ref (z + 6))) (some (.ref (z + 7))) none none none none none none none none) (S1:=S6 ++ [.lst []]) ((J0 (qe (ps:=[]) (S1:=S6) rfl)).trans (by rw [b6]; rfl)) ?_;have k0:Q0p (Q4 (Q3 5) (Q4 (mOp Y5 (Q3 5) (Q3 2)) Qa)) (kG ns tb n (some (.lst (D.map Dx.V))) (some (.ref 3)) (some (.int G)) (some (.ref z)) c7 (some (.ref (z + 1))) (some (.ref (z + 3))) (some (.ref (z + 6))) (some (.ref (z + 7))) none none none none none none none none) (S6 ++ [Cell.lst []])=.ok ((bU n).map fun k:Nat=>PV.int ((G:Int) + (k:Int)),[]) (S6 ++ [Cell.lst []]):=by
   rw [Q83,Q5 (m:=Q3 5) (p:=.int G) rfl (Q5 (Qb (a:=Q3 5) (b:=Q3 2) (x:=.int G) (y:=.int n) rfl rfl (Q3b _ _ _)) (show Qa _ _=.ok [] _ from rfl)),J2];show (if -(lim:Int)<=(G:Int)/\(G:Int)<=(lim:Int)/\-(lim:Int)<=(G:Int) + (n:Int)/\(G:Int) + (n:Int)<=lim then _ else _)=_;rw [bN (by rw [Z7]; omega),show ((G:Int) + (n:Int) - G).toNat=n by omega]; rfl
  refine Qg (zh k0 f7) ?_;refine Qg (Γ1:=K (some (Q7 (s.now.getD 0 []))) none none none none none none none) (S1:=S8) ?_ ?_
  ·rw [hK]; exact J0 (Qb (Kx rfl rfl b2.gn) rfl g8)
  refine Qg (zh (Qcv (p:=.ref 0) (by rw [hK]; exact Kx rfl rfl b2.gn) src (by rw [O2,F4]; omega)) f8) ?_;refine Qg (Γ1:=KD none) (S1:=S8) ?_ ?_
  ·rw [O];refine (J0 (yc (Uh (Q3h (n:=n) (by omega) (by rw [hK]; rfl)) i1))).trans ?_;rw [hK]; rfl
  refine Qg (zh (Qcv d4 rfl (by simp)) f9) ?_;refine Qg (Γ1:=KE none none none) (S1:=SA) ?_ ?_
  ·rw [O,a8]; exact J0 (Kx rfl rfl g7.gn)
  exact Qg (zh (Q3h (n:=n) (by omega) (by rw [a8]; rfl)) fA) rfl
 exact ⟨[],(W6 step).trans (Q5a (st:=[]) (more:=SA) rfl)⟩
end Lw
namespace Lw
open PySem PySem.Spec L2 Sm
theorem all_mk {l:ek} {w:aM} {K:bS} {h:Heap} {mg:Str->Option aB} {fa f1 f2 f3 f4 f5 f6 f7 f8 f9 f10 f11 f12 f13 f14 f15 f16 f17 f18 f19 f20 f21 f22 f23 f24 f25 f26 m5 l4 m6 m4 m7 l6 m9 l9 l3 n0 l8 f38 S1 f40 f41 T0 f43 f44 f45 f46 f47 f48 f49 f50 f51 f52 f53 f54 S2 f56 f57 f58 q5:aA} (X:K.In h) (G:h.Ns aV mg) (hfa:mg "law" = some (.ref fa))
  {B6 o5:Option aA} {t2:Array (Option aB)} {I5 n4 n7 o7 k6 n3:aB}
  {g1 c8 b6 d5:aA}
  {eH:aA}
  {B9 L2:Option aA} {N0:Array (Option aB)} {u4 B1 v3 u9 o1 P2:aB}
  {H6 P3:Option aA} {r8:Array (Option aB)} {L0 z5 M5 C3 o4 M0:aB}
  {u7 w1:Option aA} {z2:Array (Option aB)} {z0 x5 t4 B8 o8 I6:aB}
  {x1 t8:Option aA} {G1:Array (Option aB)} {v2 G5 t1 v7 n9 G4:aB}
  {z7 w2:Option aA} {N6:Array (Option aB)} {s4 z4 I4 w4 n5 L3:aB}
  {s5 r6:Option aA} {u0:Array (Option aB)} {t5 M4 y2 u6 o3 M6:aB}
  {v6 B2:Option aA} {C0:Array (Option aB)} {G3 v4 I0 L1 o0 s9:aB}
  {r9 N8:Option aA} {C8:Array (Option aB)} {M7 L9 B5 N7 o6 z3:aB}
  {y1 M3:Option aA} {C7:Array (Option aB)} {L8 u5 H9 N2 o2 y5:aB}
  {x7 L7:Option aA} {u3:Array (Option aB)} {x6 v1 s8 N1 n6 A0:aB}
  {z6 B3:Option aA} {C2:Array (Option aB)} {B0 t7 x2 N3 n2 G0:aB}
  {c9:Tok}
  {eW eS fI pd xN:aA} {xnm xqn:Str} {xbs w6:List aB} {xsn:List Str} {xab:Bool} {H3:Option Bool} {V1 odI anI:Option aA} {xk0 T9 xk2 R4 xk5:Option aB} {slI:Array (Option aB)} {kVI dcI pmI w8 V2:aB} {pt1 pt2 R5 pu1 pu2 T1:Tok} {pep:Nat} {cdx:ClassData} {p9:aA} {qt1 R0 qt3 qt4 S6 qu2 T5 qu4:Tok} {s7:Nat}
  (aH:bY K aV "House" = some (some (.ref eH)))
  (Hpg:dA K eH fo=true)
  (Hhd:dR K eH=true)
  (Hpo:eK K eH=true)
  (Hsa:bW K (.ref eH) "__setattr__" = some (some (.builtin "object.__setattr__")))
  (S8:eM K eH=true)
  (Hkc:bZ K (.ref eH)=true)
  (i5:bW K (.ref eH) "number" = some none)
  (l7:bW K (.ref eH) "now" = some none)
  (l1:bW K (.ref eH) "kept" = some none)
  (a27:bW K (.ref eH) "__init__" = some (some (.ref m5)))
  (i27:bo K (.ref m5)=true)
  (l27:K.lookup m5=some ⟨u4,B9,.func (ba "__init__" "House.__init__" (Yn Wa) (Jx Wa) (Q8 Wa) .none B1 v3 u9 L2 o1 P2),N0⟩)
  (c27:bh K o1 "House.__init__" = true)
  (k27:bZ K (.ref m5)=true)
  (a28:bW K (.ref eH) "make" = some (some (.ref l4)))
  (i28:bo K (.ref l4)=true)
  (l28:K.lookup l4=some ⟨L0,H6,.func (ba "make" "House.make" (Yn U9) (Jx U9) (Q8 U9) .none z5 M5 C3 P3 o4 M0),r8⟩)
  (P7:bh K o4 "House.make" = true)
  (k28:bZ K (.ref l4)=true)
  (a29:bW K (.ref eH) "lend" = some (some (.ref m6)))
  (R9:bo K (.ref m6)=true)
  (l29:K.lookup m6=some ⟨z0,u7,.func (ba "lend" "House.lend" (Yn Ua) (Jx Ua) (Q8 Ua) .none x5 t4 B8 w1 o8 I6),z2⟩)
  (c29:bh K o8 "House.lend" = true)
  (S5:bZ K (.ref m6)=true)
  (a30:bW K (.ref eH) "use" = some (some (.ref m4)))
  (i30:bo K (.ref m4)=true)
  (l30:K.lookup m4=some ⟨v2,x1,.func (ba "use" "House.use" (Yn Xc) (Jx Xc) (Q8 Xc) .none G5 t1 v7 t8 n9 G4),G1⟩)
  (c30:bh K n9 "House.use" = true)
  (k30:bZ K (.ref m4)=true)
  (P9:bW K (.ref eH) "keep" = some (some (.ref m7)))
  (i31:bo K (.ref m7)=true)
  (l31:K.lookup m7=some ⟨s4,z7,.func (ba "keep" "House.keep" (Yn Ub) (Jx Ub) (Q8 Ub) .none z4 I4 w4 w2 n5 L3),N6⟩)
  (c31:bh K n5 "House.keep" = true)
  (k31:bZ K (.ref m7)=true)
  (a32:bW K (.ref eH) "fall" = some (some (.ref l6)))
  (i32:bo K (.ref l6)=true)
  (T8:K.lookup l6=some ⟨t5,s5,.func (ba "fall" "House.fall" (Yn Uc) (Jx Uc) (Q8 Uc) .none M4 y2 u6 r6 o3 M6),u0⟩)
  (c32:bh K o3 "House.fall" = true)
  (k32:bZ K (.ref l6)=true)
  (a33:bW K (.ref eH) "letter" = some (some (.ref m9)))
  (i33:bo K (.ref m9)=true)
  (l33:K.lookup m9=some ⟨G3,v6,.func (ba "letter" "House.letter" (Yn Wz) (Jx Wz) (Q8 Wz) .none v4 I0 L1 B2 o0 s9),C0⟩)
  (c33:bh K o0 "House.letter" = true)
  (k33:bZ K (.ref m9)=true)
  (a34:bW K (.ref eH) "come" = some (some (.ref l9)))
  (i34:bo K (.ref l9)=true)
  (l34:K.lookup l9=some ⟨M7,r9,.func (ba "come" "House.come" (Yn Ud) (Jx Ud) (Q8 Ud) .none L9 B5 N7 N8 o6 z3),C8⟩)
  (c34:bh K o6 "House.come" = true)
  (R6:bZ K (.ref l9)=true)
  (a35:bW K (.ref eH) "table" = some (some (.ref l3)))
  (i35:bo K (.ref l3)=true)
  (l35:K.lookup l3=some ⟨L8,y1,.func (ba "table" "House.table" (Yn Vn) (Jx Vn) (Q8 Vn) .none u5 H9 N2 M3 o2 y5),C7⟩)
  (c35:bh K o2 "House.table" = true)
  (k35:bZ K (.ref l3)=true)
  (R8:bW K (.ref eH) "rights" = some (some (.ref n0)))
  (i36:bo K (.ref n0)=true)
  (l36:K.lookup n0=some ⟨x6,x7,.func (ba "rights" "House.rights" (Yn Wy) (Jx Wy) (Q8 Wy) .none v1 s8 N1 L7 n6 A0),u3⟩)
  (c36:bh K n6 "House.rights" = true)
  (R1:bZ K (.ref n0)=true)
  (a37:bW K (.ref eH) "used" = some (some (.ref l8)))
  (i37:bo K (.ref l8)=true)
  (l37:K.lookup l8=some ⟨B0,z6,.func (ba "used" "House.used" (Yn U8) (Jx U8) (Q8 U8) .none t7 x2 N3 B3 n2 G0),C2⟩)
  (P8:bh K n2 "House.used" = true)
  (R3:bZ K (.ref l8)=true)
  (x3:bY K aV "law" = some (some (.ref q5)))
  (l59:K.lookup q5=some ⟨I5,B6,.func (ba "law" "law" (Yn Q3g) (Jx Q3g) (Q8 Q3g) .none n4 n7 o7 o5 k6 n3),t2⟩)
  (T7:bh K k6 "law" = true)
  (k59:bZ K (.ref q5)=true)
  (b2:bY K aV "rights_tables" = some (some (.ref f7)))
  (r0:bY K aV "all" = some none)
  (o9:bY K aV "any" = some none)
  (l5:bY K aV "bool" = some none)
  (p4:bY K aV "int" = some none)
  (e8:bY K aV "isinstance" = some none)
  (p8:bY K aV "len" = some none)
  (m8:bY K aV "list" = some none)
  (q0:bY K aV "max" = some none)
  (q9:bY K aV "min" = some none)
  (k8:bY K aV "range" = some none)
  (q6:bY K aV "str" = some none)
  (p3:bY K aV "sum" = some none)
  (k7:bY K aV "tuple" = some none)
  (q4:bY K aV "zip" = some none)
  (c2:bY K aV "MOST_HOUSES" = some (some (.int 8 c9)))
  (i8:bY K aV "NoDeed" = some (some (.ref g1)))
  (i2:bY K aV "NoHouse" = some (some (.ref c8)))
  (g8:bY K aV "NoLetter" = some (some (.ref b6)))
  (i1:bY K aV "NoTable" = some (some (.ref d5)))
  (nW:bY K aV "WharfError" = some (some (.ref eW)))
  (nS:bY K aV "Short" = some (some (.ref eS)))
  (y7:K.lookup eS=some (excClassObj xnm xqn eS xN xbs (.ref eW :: X9) true xsn w6 xab H3 V1 xk0 T9 xk2 R4 xk5 "ValueError.__new__"))
  (S0:bW K (.ref eS) "__init__" = some (some (.ref fI)))
  (li:K.lookup fI=some ⟨.type "function",odI,.func (ba "__init__" "Short.__init__" (Yn Qaf) (Jx Qaf) (Q8 Qaf) .none kVI dcI pmI anI w8 V2),slI⟩)
  (ci:bh K w8 "Short.__init__" = true)
  (ki:bZ K (.ref fI)=true)
  (xkp:bZ K (.ref eS)=true)
  (H4:eO K (.ref eW) "__getattribute__" = some (some (.builtin "type.__getattribute__")))
  (w9:PySem.W.readsIn K eW (.type "type")=true)
  (u1:PySem.W.findCls K (.ref eW) (.type "type") "__init__" = some (.val (.builtin "ValueError.__init__")))
  (xsa:bW K (.ref eS) "__setattr__" = some (some (.builtin "object.__setattr__")))
  (t0:bW K (.ref eS) "had" = some none)
  (x4:eP K eS (.type "object")=some true)
  (T2:bY K aV "PARTS_OF_DEED" = some (some (.ref pd)))
  (plk:K.lookup pd=some ⟨.type "dict",none,.dict #[⟨PyData.keyHash w.params "make",.str "make" pt1,.int 3 pu1⟩,⟨PyData.keyHash w.params "lend",.str "lend" pt2,.int 4 pu2⟩,⟨PyData.keyHash w.params "use",.str "use" R5,.int 3 T1⟩] pep,#[]⟩)
  (x0:eA K eS=some cdx)
  (xga:bW K (.ref eS) "__getattribute__" = some (some (.builtin "BaseException.__getattribute__")))
  (xgt:bW K (.ref eS) "__getattr__" = some none)
  (xcl:bW K (.ref eS) "__class__" = some (some (.builtin "object.__class__")))
  (xgs:eO K (.builtin "object.__class__") "__get__" = some (some (.builtin "getset_descriptor.__get__")))
  (xtk:fq K (.builtin "object.__class__")=some true)
  (xbe:eP K eS (.type "BaseException")=some true)
  (C1:bY K aV "PARTS_OF_OTHER_DEED" = some (some (.ref p9)))
  (P1:K.lookup p9=some ⟨.type "dict",none,.dict #[⟨PyData.keyHash w.params "keep",.str "keep" qt1,.int 2 S6⟩,⟨PyData.keyHash w.params "fall",.str "fall" R0,.int 2 qu2⟩,⟨PyData.keyHash w.params "send",.str "send" qt3,.int 2 T5⟩,⟨PyData.keyHash w.params "come",.str "come" qt4,.int 3 qu4⟩] s7,#[]⟩)
  (h1:FA K "_wall" Qbm f1)
  (h2:FA K "is_whole" Q2u f2)
  (h3:FA K "is_between" Q04 f3)
  (h4:FA K "is_row" Q79 f4)
  (h5:FA K "is_table" Q2v f5)
  (h6:FA K "is_house" Q2w f6)
  (h7:FA K "rights" Q75 f7)
  (h8:FA K "need_as_many_houses" Vr f8)
  (h9:FA K "is_row_within" qi f9)
  (h10:FA K "joined_row" Q03 f10)
  (h11:FA K "joined" Q78 f11)
  (h12:FA K "is_text_and_numbers" Vs f12)
  (h13:FA K "is_deed" Q4i f13)
  (h14:FA K "need_houses_of_deed" Vq f14)
  (h15:FA K "place_in_row" jv f15)
  (h16:FA K "raised" Q76 f16)
  (T6:FA K "done" Qet f17)
  (S7:FA K "made_some" Q16 f18)
  (h19:FA K "lent_or_used_some" Uk f19)
  (h20:FA K "was_lent_some" qf f20)
  (S3:FA K "has_root" Q2x f21)
  (h22:FA K "rooted_houses" qg f22)
  (P5:FA K "rootless_houses" Xk f23)
  (h24:FA K "comes_about" ye f24)
  (S4:FA K "does_come_about" Xm f25)
  (h26:FA K "need_comes_about" X5 f26)
  (h38:FA K "is_other_deed" qj f38)
  (P4:FA K "need_deed_of_run" X4 S1)
  (h40:FA K "do_own_deed" yd f40)
  (h41:FA K "do_other_deed" qk f41)
  (h42:FA K "answer_to" Q17 T0)
  (h43:FA K "played" Q77 f43)
  (P6:FA K "_law_acell" Q08 f44)
  (h45:FA K "_law_atape" Q05 f45)
  (h46:FA K "_law_adigit" yj f46)
  (h47:FA K "_law_arights" jx f47)
  (h48:FA K "_law_abare" Q09 f48)
  (h49:FA K "_law_araised" jy f49)
  (h50:FA K "_law_ajoined" jz f50)
  (T4:FA K "_law_amuch" Q07 f51)
  (h52:FA K "_law_atable" yf f52)
  (h53:FA K "_law_astart" yg f53)
  (h54:FA K "_law_astep" Q06 f54)
  (h55:FA K "_law_adrawn" yi S2)
  (h56:FA K "_law_abegun" yk f56)
  (h57:FA K "_law_aquiet" yh f57)
  (R7:FA K "_law_aturned" jw f58)
  (i9:bc K g1 X9 "ValueError.__new__" = true)
  (i4:bc K c8 X9 "ValueError.__new__" = true)
  (g7:bc K b6 X9 "ValueError.__new__" = true)
  (i3:bc K d5 X9 "ValueError.__new__" = true)
  (xw:bc K eW X9 "ValueError.__new__" = true)
  (psm:(pd == aj)=false)
  (C9:(p9 == aj)=false)
  (xes:dG K (.ref eS) (.ref eS)=some true)
  (hL:noL K=true) :
  ∃ fd:aQ,(∀ (s:aC) (v:aB),BindsTo s fd ⟨[v],[]⟩ [("script",v)])/\∀ base:Heap,K.In base->base.Ns aV mg->FnOk l.prog w K mg base (CXD l.prog w) 11 fa fd ["script"] (Qbh K):=by
 have e:=hfa.symm.trans (bp X G x3);cases e;have T:Txt mg:=⟨bq X G r0,bq X G o9,bq X G l5,bq X G p4,bq X G e8,bq X G p8,bq X G m8,bq X G q0,bq X G q9,bq X G k8,bq X G q6,bq X G p3,bq X G k7,bq X G q4,⟨_,bp X G c2⟩⟩;have f0:∃ C,mg "NoDeed" = some (.ref C)/\bc K C X9 "ValueError.__new__" = true:=⟨_,bp X G i8,i9⟩;have Z:∃ C,mg "NoHouse" = some (.ref C)/\bc K C X9 "ValueError.__new__" = true:=⟨_,bp X G i2,i4⟩;have b7:∃ C,mg "NoLetter" = some (.ref C)/\bc K C X9 "ValueError.__new__" = true:=⟨_,bp X G g8,g7⟩
 have c6:∃ C,mg "NoTable" = some (.ref C)/\bc K C X9 "ValueError.__new__" = true:=⟨_,bp X G i1,i3⟩;have CD:∃ cd,eA K eS=some cd/\cd.mro=.ref eS :: .ref eW :: X9/\cd.hasDict=true:=⟨_,by unfold eA; rw [y7],rfl,rfl⟩;have OS:ShortOk K mg eW eS fI:=⟨bp X G nW,bp X G nS,⟨⟨_,_,_,_,_,_,_,_,_,_,_,_,_,_,y7⟩,xw,S0,⟨_,li,rfl⟩,xkp⟩,⟨H4,w9,u1⟩,⟨xsa,x4,CD,t0⟩⟩;have FI:=Xw (x := "__init__") (qual := "Short.__init__") (st:=Qaf) li ci ki;have BI:=FI.binds (ps:=["self", "had"]) fun _ _ _ _ _ _ us j=>match us,j with | [_,_],_=>rfl
 have PK:PartsOk l.prog w K mg:=Qkb (bp X G T2) plk psm;have PO:PartsO l.prog w K mg:=Qhm (bp X G C1) P1 C9;have XC:XCls K eS:=⟨show (eA K eS).isSome=true by rw [x0]; rfl,xga,xgt,xcl,xgs,xtk,x4,xbe⟩;have Sx:∃ C,mg "Short" = some (.ref C)/\dG K (.ref C) (.ref C)=some true/\XGet K C "had" := ⟨_,OS.ms,xes,XC,(let ⟨cd,a,_,b⟩:=CD; ⟨cd,a,b⟩),t0⟩;have TC:ClsT K eH:=⟨⟨Hpg,Hhd,Hpo,Hsa⟩,i5,l7,l1⟩;obtain ⟨_,A1⟩:=Wf (ps:=["k"]) X G h1 fun _ _ _ _ _ _ us j=>match us,j with | [_],_=>rfl
 obtain ⟨_,A2⟩:=Wf (ps:=["thing"]) X G h2 fun _ _ _ _ _ _ us j=>match us,j with | [_],_=>rfl
 obtain ⟨_,A3⟩:=Wf (ps:=["thing", "least", "most"]) X G h3 fun _ _ _ _ _ _ us j=>match us,j with | [_,_,_],_=>rfl
 obtain ⟨_,A4⟩:=Wf (ps:=["thing", "n"]) X G h4 fun _ _ _ _ _ _ us j=>match us,j with | [_,_],_=>rfl
 obtain ⟨_,A5⟩:=Wf (ps:=["thing"]) X G h5 fun _ _ _ _ _ _ us j=>match us,j with | [_],_=>rfl
 obtain ⟨_,A6⟩:=Wf (ps:=["table", "thing"]) X G h6 fun _ _ _ _ _ _ us j=>match us,j with | [_,_],_=>rfl
 obtain ⟨_,A7⟩:=Wf (ps:=["table", "house"]) X G h7 fun _ _ _ _ _ _ us j=>match us,j with | [_,_],_=>rfl
 obtain ⟨_,A8⟩:=Wf (ps:=["one", "other"]) X G h8 fun _ _ _ _ _ _ us j=>match us,j with | [_,_],_=>rfl
 obtain ⟨_,A9⟩:=Wf (ps:=["one", "other"]) X G h9 fun _ _ _ _ _ _ us j=>match us,j with | [_,_],_=>rfl
 obtain ⟨_,v9⟩:=Wf (ps:=["one", "other"]) X G h10 fun _ _ _ _ _ _ us j=>match us,j with | [_,_],_=>rfl
 obtain ⟨_,C6⟩:=Wf (ps:=["one", "other"]) X G h11 fun _ _ _ _ _ _ us j=>match us,j with | [_,_],_=>rfl
 obtain ⟨_,M9⟩:=Wf (ps:=["thing"]) X G h12 fun _ _ _ _ _ _ us j=>match us,j with | [_],_=>rfl
 obtain ⟨_,I2⟩:=Wf (ps:=["thing"]) X G h13 fun _ _ _ _ _ _ us j=>match us,j with | [_],_=>rfl
 obtain ⟨_,v5⟩:=Wf (ps:=["table", "deed"]) X G h14 fun _ _ _ _ _ _ us j=>match us,j with | [_,_],_=>rfl
 obtain ⟨_,I7⟩:=Wf (ps:=["table", "deed"]) X G h15 fun _ _ _ _ _ _ us j=>match us,j with | [_,_],_=>rfl
 obtain ⟨_,v0⟩:=Wf (ps:=["table", "house", "place", "k"]) X G h16 fun _ _ _ _ _ _ us j=>match us,j with | [_,_,_,_],_=>rfl
 obtain ⟨_,s6⟩:=Wf (ps:=["table", "deed"]) X G T6 fun _ _ _ _ _ _ us j=>match us,j with | [_,_],_=>rfl
 obtain ⟨_,r5⟩:=Wf (ps:=["table", "house"]) X G S7 fun _ _ _ _ _ _ us j=>match us,j with | [_,_],_=>rfl
 obtain ⟨_,w0⟩:=Wf (ps:=["table", "house"]) X G h19 fun _ _ _ _ _ _ us j=>match us,j with | [_,_],_=>rfl
 obtain ⟨_,w5⟩:=Wf (ps:=["table", "house", "lenders"]) X G h20 fun _ _ _ _ _ _ us j=>match us,j with | [_,_,_],_=>rfl
 obtain ⟨_,I3⟩:=Wf (ps:=["table", "house", "ahead"]) X G S3 fun _ _ _ _ _ _ us j=>match us,j with | [_,_,_],_=>rfl
 obtain ⟨_,I9⟩:=Wf (ps:=["table"]) X G h22 fun _ _ _ _ _ _ us j=>match us,j with | [_],_=>rfl
 obtain ⟨_,B4⟩:=Wf (ps:=["table"]) X G P5 fun _ _ _ _ _ _ us j=>match us,j with | [_],_=>rfl
 obtain ⟨_,H8⟩:=Wf (ps:=["table"]) X G h24 fun _ _ _ _ _ _ us j=>match us,j with | [_],_=>rfl
 obtain ⟨_,L4⟩:=Wf (ps:=["thing"]) X G S4 fun _ _ _ _ _ _ us j=>match us,j with | [_],_=>rfl
 obtain ⟨_,H5⟩:=Wf (ps:=["thing"]) X G h26 fun _ _ _ _ _ _ us j=>match us,j with | [_],_=>rfl
 have I8:=Xw (st:=Wa) l27 c27 k27;have B27:=I8.binds (ps:=["self", "number", "table"]) fun _ _ _ _ _ _ us j=>match us,j with | [_,_,_],_=>rfl
 have p5:=Xw (st:=U9) l28 P7 k28;have B28:=p5.binds (ps:=["self", "k"]) fun _ _ _ _ _ _ us j=>match us,j with | [_,_],_=>rfl
 have r3:=Xw (st:=Ua) l29 c29 S5;have B29:=r3.binds (ps:=["self", "to", "k"]) fun _ _ _ _ _ _ us j=>match us,j with | [_,_,_],_=>rfl
 have r1:=Xw (st:=Xc) l30 c30 k30;have B30:=r1.binds (ps:=["self", "k"]) fun _ _ _ _ _ _ us j=>match us,j with | [_,_],_=>rfl
 have p1:=Xw (st:=Ub) l31 c31 k31;have S9:=p1.binds (ps:=["self"]) fun _ _ _ _ _ _ us j=>match us,j with | [_],_=>rfl
 have r2:=Xw (st:=Uc) T8 c32 k32;have B32:=r2.binds (ps:=["self"]) fun _ _ _ _ _ _ us j=>match us,j with | [_],_=>rfl
 have q7:=Xw (st:=Wz) l33 c33 k33;have B33:=q7.binds (ps:=["self"]) fun _ _ _ _ _ _ us j=>match us,j with | [_],_=>rfl
 have q8:=Xw (st:=Ud) l34 c34 R6;have B34:=q8.binds (ps:=["self", "table"]) fun _ _ _ _ _ _ us j=>match us,j with | [_,_],_=>rfl
 have p6:=Xw (st:=Vn) l35 c35 k35;have B35:=p6.binds (ps:=["self"]) fun _ _ _ _ _ _ us j=>match us,j with | [_],_=>rfl
 have p0:=Xw (st:=Wy) l36 c36 R1;have B36:=p0.binds (ps:=["self"]) fun _ _ _ _ _ _ us j=>match us,j with | [_],_=>rfl
 have p7:=Xw (st:=U8) l37 P8 R3;have T3:=p7.binds (ps:=["self"]) fun _ _ _ _ _ _ us j=>match us,j with | [_],_=>rfl
 obtain ⟨_,u2⟩:=Wf (ps:=["thing"]) X G h38 fun _ _ _ _ _ _ us j=>match us,j with | [_],_=>rfl
 obtain ⟨_,C4⟩:=Wf (ps:=["table", "letters", "deed"]) X G P4 fun _ _ _ _ _ _ us j=>match us,j with | [_,_,_],_=>rfl
 obtain ⟨_,N9⟩:=Wf (ps:=["houses", "deed"]) X G h40 fun _ _ _ _ _ _ us j=>match us,j with | [_,_],_=>rfl
 obtain ⟨_,E1⟩:=Wf (ps:=["houses", "letters", "deed"]) X G h41 fun _ _ _ _ _ _ us j=>match us,j with | [_,_,_],_=>rfl
 obtain ⟨_,I1⟩:=Wf (ps:=["houses", "letters", "deed"]) X G h42 fun _ _ _ _ _ _ us j=>match us,j with | [_,_,_],_=>rfl
 obtain ⟨_,G2⟩:=Wf (ps:=["table", "deeds"]) X G h43 fun _ _ _ _ _ _ us j=>match us,j with | [_,_],_=>rfl
 obtain ⟨_,C5⟩:=Wf (ps:=["script", "k"]) X G P6 fun _ _ _ _ _ _ us j=>match us,j with | [_,_],_=>rfl
 obtain ⟨_,H7⟩:=Wf (ps:=["script", "k"]) X G h45 fun _ _ _ _ _ _ us j=>match us,j with | [_,_],_=>rfl
 obtain ⟨_,N4⟩:=Wf (ps:=["tape", "many"]) X G h46 fun _ _ _ _ _ _ us j=>match us,j with | [_,_],_=>rfl
 obtain ⟨_,w7⟩:=Wf (ps:=["table", "i"]) X G h47 fun _ _ _ _ _ _ us j=>match us,j with | [_,_],_=>rfl
 obtain ⟨_,u8⟩:=Wf (ps:=["size"]) X G h48 fun _ _ _ _ _ _ us j=>match us,j with | [_],_=>rfl
 obtain ⟨_,z1⟩:=Wf (ps:=["table", "i", "at", "k"]) X G h49 fun _ _ _ _ _ _ us j=>match us,j with | [_,_,_,_],_=>rfl
 obtain ⟨_,M8⟩:=Wf (ps:=["one", "other"]) X G h50 fun _ _ _ _ _ _ us j=>match us,j with | [_,_],_=>rfl
 obtain ⟨_,t6⟩:=Wf (ps:=["tape"]) X G T4 fun _ _ _ _ _ _ us j=>match us,j with | [_],_=>rfl
 obtain ⟨_,v8⟩:=Wf (ps:=["tape", "size", "many"]) X G h52 fun _ _ _ _ _ _ us j=>match us,j with | [_,_,_],_=>rfl
 obtain ⟨_,P0⟩:=Wf (ps:=["table"]) X G h53 fun _ _ _ _ _ _ us j=>match us,j with | [_],_=>rfl
 obtain ⟨_,B7⟩:=Wf (ps:=["state", "deed"]) X G h54 fun _ _ _ _ _ _ us j=>match us,j with | [_,_],_=>rfl
 obtain ⟨_,N5⟩:=Wf (ps:=["tape", "state"]) X G h55 fun _ _ _ _ _ _ us j=>match us,j with | [_,_],_=>rfl
 obtain ⟨_,t9⟩:=Wf (ps:=["script"]) X G h56 fun _ _ _ _ _ _ us j=>match us,j with | [_],_=>rfl
 obtain ⟨_,r7⟩:=Wf (ps:=["script", "start", "many", "table"]) X G h57 fun _ _ _ _ _ _ us j=>match us,j with | [_,_,_,_],_=>rfl
 obtain ⟨_,w3⟩:=Wf (ps:=["tape", "some"]) X G R7 fun _ _ _ _ _ _ us j=>match us,j with | [_,_],_=>rfl
 have A59:=Quf (st:=Q3g) (ps:=["script"]) X G x3 l59 T7 k59 fun _ _ _ _ _ _ us j=>match us,j with | [_],_=>rfl
 refine ⟨ba "law" "law" (Yn Q3g) (Jx Q3g) (Q8 Q3g) .none n4 n7 o7 o5 k6 n3,fun s v=>.of_eq rfl,fun base kb nb=>?_⟩;have l0:ShortS l.prog w K mg base:=⟨_,_,_,_,OS.M,Qq0 FI OS,BI,OS.ms⟩;have k9:=A1.d l.prog w base rfl (Qkg A1.F T    );have a6:=A2.d l.prog w base rfl (Qdc A2.F T    );have e5:=A3.d l.prog w base rfl (Q9k A3.F T   a6 );have k0:=A4.d l.prog w base rfl (Qhr A4.F T   a6 );have g9:=A5.d l.prog w base rfl (Qdd A5.F T   k0 );have U:=A6.d l.prog w base rfl (Qde A6.F T   e5 );have r4:=A7.d l.prog w base rfl (Qap A7.F T  Z U );have z:DefS l.prog w K mg base 4 "rights_tables" 2 Vk:=⟨_,_,_,Qap A7.F T  Z U ,bp X G b2,A7.F.kp,A7.b,rfl⟩;have O:=A8.d l.prog w base rfl (Q0e A8.F T  c6  )
 have b4:=A9.d l.prog w base rfl (Q4t A9.F T    );have e4:=v9.d l.prog w base rfl (Q9j v9.F T    );have g0:=C6.d l.prog w base rfl (Qhq C6.F T   O e4 );have I:=M9.d l.prog w base rfl (Q0f M9.F T   a6 );have d3:=I2.d l.prog w base rfl (Qf0 I2.F T PK   I );have J:=v5.d l.prog w base rfl (Q0d v5.F T  Z U );have b8:=I7.d l.prog w base rfl (Q5t I7.F T    );have i6:=v0.d l.prog w base rfl (Qhn v0.F T    );have g5:=s6.d l.prog w base rfl (Qq1 s6.F T l0  f0 d3 J z i6 b8 );have g3:=r5.d l.prog w base rfl (Qbs r5.F T    );have a7:=w0.d l.prog w base rfl (Q1d w0.F T    );have b3:=w5.d l.prog w base rfl (Q4r w5.F T    )
 have i0:=I3.d l.prog w base rfl (Qdf I3.F T   g3 b3 );have a3:=I9.d l.prog w base rfl (Q4s I9.F T   i0 );have b1:=B4.d l.prog w base rfl (Q30 B4.F T   a3 a7 );have c5:=H8.d l.prog w base rfl (Q7i H8.F T   z b1 a3 );have b0:=L4.d l.prog w base rfl (Q31 L4.F T   g9 c5 );have Y:=H5.d l.prog w base rfl (Q2g H5.F T  c6 b0 );have k5:MakeS l.prog w K mg base 8 eH "House" 3 (Wb eH):=⟨_,_,_,Q3q I8 T TC  Z Y U ,⟨S8,a27,i27,Hkc⟩,bp X G aH,B27,rfl⟩;have d8:MethS l.prog w K mg base 6 eH "make" 2 (K6 eH):=⟨_,_,_,Q9t p5 T TC   g5 ,⟨a28,i28,p5.kp⟩,B28,rfl⟩;have d9:MethS l.prog w K mg base 6 eH "lend" 3 (K7 eH):=⟨_,_,_,Q9u r3 T TC   g5 ,⟨a29,R9,r3.kp⟩,B29,rfl⟩
 have g6:MethS l.prog w K mg base 6 eH "use" 2 (qc eH):=⟨_,_,_,Qbu r1 T TC   g5 ,⟨a30,i30,r1.kp⟩,B30,rfl⟩;have e6:MethS l.prog w K mg base 1 eH "keep" 1 (K8 eH):=⟨_,_,_,Q9v p1 T TC    ,⟨P9,i31,p1.kp⟩,S9,rfl⟩;have e0:MethS l.prog w K mg base 1 eH "fall" 1 (K9 eH):=⟨_,_,_,Q9w r2 T TC    ,⟨a32,i32,r2.kp⟩,B32,rfl⟩;have c0:MethS l.prog w K mg base 1 eH "letter" 1 (V5 eH):=⟨_,_,_,Q5z q7 T TC    ,⟨a33,i33,q7.kp⟩,B33,rfl⟩;have d7:MethS l.prog w K mg base 3 eH "come" 2 (Ka eH):=⟨_,_,_,Q9x q8 T TC  b7 O b4 g0 ,⟨a34,i34,q8.kp⟩,B34,rfl⟩;have d2:MethS l.prog w K mg base 1 eH "table" 1 (Uz eH):=⟨_,_,_,Q7r p6 T TC    ,⟨a35,i35,p6.kp⟩,B35,rfl⟩;have k4:MethS l.prog w K mg base 5 eH "rights" 1 (Q1v eH):=⟨_,_,_,Q5y p0 T TC   z ,⟨R8,i36,p0.kp⟩,B36,rfl⟩;have l2:MethS l.prog w K mg base 2 eH "used" 1 (Q48 eH):=⟨_,_,_,Q9s p7 T TC   k9 ,⟨a37,i37,p7.kp⟩,T3,rfl⟩
 have a4:=u2.d l.prog w base rfl (Q4u u2.F T PO   I );have a8:=C4.d l.prog w base rfl (Q2f C4.F T  f0 Z b7 d3 J a4 U );have c3:=N9.d l.prog w base rfl (Q7h N9.F T TC    d8 d9 g6);have b5:=E1.d l.prog w base rfl (Q4v E1.F T TC    e6 e0 c0 d7);have g4:=I1.d l.prog w base rfl (Qbt I1.F T TC Sx   a4 b5 c3 );have i7:=G2.d l.prog w base rfl (Qhp G2.F T TC   Y a8 g4 k5 d2);have e7:=C5.d l.prog w base rfl (Q9q C5.F T    );have a2:=H7.d l.prog w base rfl (Q9m H7.F T   e7 );have q:=N4.d l.prog w base rfl (Q7p N4.F T    )
 have B:=w7.d l.prog w base rfl (Q5v w7.F T    );have e9:=u8.d l.prog w base rfl (Q9r u8.F T    );have a5:=z1.d l.prog w base rfl (Q5w z1.F T    );have b9:=M8.d l.prog w base rfl (Q5x M8.F T    );have a9:=t6.d l.prog w base rfl (Q9p t6.F T   q );have d4:=v8.d l.prog w base rfl (Q7j v8.F T   e9 q B a5 a9 );have d1:=P0.d l.prog w base rfl (Q7k P0.F T    );have d6:=B7.d l.prog w base rfl (Q9n B7.F T   b9 B a5 );have c7:=N5.d l.prog w base rfl (Q7n N5.F T   q B a9 );have d0:=t9.d l.prog w base rfl (Q7q t9.F T   a2 q d4 );have c4:=r7.d l.prog w base rfl (Q7m r7.F T   d1 a2 c7 d6 )
 have c1:=w3.d l.prog w base rfl (Q5u w3.F T   q );exact Qqj hL (Qth A59.F T TC   d0 c4 a2 c1 g0 i7 B z ) (Qqk _)
end Lw
theorem PySem.W.Fast.tw4915756258164420582 : True := trivial
theorem PySem.W.Fast.tw319866270551921918 : True := trivial
theorem PySem.W.Fast.tw6844902582960729042 : True := trivial
theorem PySem.W.Fast.tw16272403350808142601 : True := trivial
theorem PySem.W.Fast.tw8244861859297444232 : True := trivial
theorem PySem.W.Fast.tw17680338200995536732 : True := trivial
theorem PySem.W.Fast.tw6246254562498271798 : True := trivial
theorem PySem.W.Fast.tw17834969048989398873 : True := trivial
theorem PySem.W.Fast.tw14699848230691317522 : True := trivial
theorem PySem.W.Fast.tw15921225701030297738 : True := trivial
theorem PySem.W.Fast.tw1291334177853715575 : True := trivial
theorem PySem.W.Fast.tw9324545770670956216 : True := trivial
theorem PySem.W.Fast.tw4728588025104050178 : True := trivial
theorem PySem.W.Fast.te8494484666936679117 : True := trivial
open PySem PySem.W PyProof.Rows Sm
set_option maxRecDepth 100000 in
set_option maxHeartbeats 0 in
theorem PySem.Challenge.cw_lendwharf_k20_whole_letters_late_and_aga_holds : PySem.Challenge.rw_lendwharf_k20_whole_letters_late_and_aga.Holds := by
 w_on; o_law; k_head; (case hw=>w_witness2)
 k_fill
 refine Sm.walkS (l:=PySem.Challenge.rw_lendwharf_k20_whole_letters_late_and_aga) (k:=11) rfl ⟨rfl,by decide,by decide⟩ rfl (fun w h Y=>PySem.W.kIn_of Y) ?F
 case F=>
  intro w mg fa h KX G hmg;refine' Lw.all_mk KX G hmg ?_ ?_ ?_ ?_ ?_ ?_ ?_ ?_ ?_ ?_ ?_ ?_ ?_ ?_ ?_ ?_ ?_ ?_ ?_ ?_ ?_ ?_ ?_ ?_ ?_ ?_ ?_ ?_ ?_ ?_ ?_ ?_ ?_ ?_ ?_ ?_ ?_ ?_ ?_ ?_ ?_ ?_ ?_ ?_ ?_ ?_ ?_ ?_ ?_ ?_ ?_ ?_ ?_ ?_ ?_ ?_ ?_ ?_ ?_ ?_ ?_ ?_ ?_ ?_ ?_ ?_ ?_ ?_ ?_ ?_ ?_ ?_ ?_ ?_ ?_ ?_ ?_ ?_ ?_ ?_ ?_ ?_ ?_ ?_ ?_ ?_ ?_ ?_ ?_ ?_ ?_ ?_ ?_ ?_ ?_ ?_ ?_ ?_ ?_ ?_ ?_ ?_ ?_ ?_ ?_ ?_ ?_ ?_ ?_ ?_ ?_ ?_ ?_ ?_ ?_ ?_ ?_ ?_ ?_ ?_ ?_ ?_ ?_ ?_ ?_ ?_ ?_ ?_ ?_ ?_ ?_ ?_ ?_ ?_ ?_ ?_ ?_ ?_ ?_ ?_ ?_ ?_ ?_ ?_ ?_ ?_ ?_ ?_ ?_ ?_ ?_ ?_ ?_ ?_ ?_ ?_ ?_ ?_ ?_ ?_ ?_ ?_ ?_ ?_ ?_ ?_ ?_ ?_ ?_ ?_
  any_goals k_is
  any_goals exact FA.mk (by k_is) (by k_is) (by k_is) (by k_is)
  any_goals k_exc
  all_goals first | kts_exm | rfl | decide
