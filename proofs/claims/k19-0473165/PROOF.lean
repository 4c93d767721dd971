import PyProof.Rows.All
import Wide.All
import OpenK.AllK
import Wide.FinOn
import Lean
import PyProof.EqAt
import PyProof.EqKinds
import PyProof.TupleCall
import PyProof.ZipIter
import PyProof.Draws
import PyProof.SumAny
import PyProof.EnumMake
import PyProof.WalkInts
import PyProof.ExcArgsOwn
import PyProof.ExcAttrAll.ValueError
import PyProof.NsDelKeeps
import KE.KTryMore
import OpenK.KOwn
import PyProof.ListMulRoad
import PyProof.FactsAll.tuple_2
import PyProof.NeKinds
import PyProof.Rows.RuleIs
import PyProof.ExcInit
import PyProof.ExcClass3
import OpenK.KCls
import PyProof.InstStoreFacts
import OpenK.KMake
import PyProof.DictRoads
import PyProof.Rows.CountFlat
import PyProof.ListRange
import PyProof.Rows.SetFrom
import PyProof.CollectStr
import PyProof.Rows.TupMore
import PyProof.AttrMissHeap
import KE.KDictOf
import PyProof.DictWalks
import KE.KSortTup
import PyProof.DictItemsLoops
import KE.KDictList
import PyProof.CallStr
import PyProof.Conv_int_bool
import PySem.Challenge.RW_lendwharf_k19_whole_nothing_lost_or_twic
set_option Elab.async false
set_option linter.all false
set_option maxRecDepth 100000
set_option maxHeartbeats 4000000
open List renaming getElem?_eq_some_iff -> O0, length_map -> O2, size_toArray -> O3, getElem?_eq_getElem -> O4, getElem?_append_left -> O5, getElem?_set_ne -> O6, length_append -> O9, mem_cons_of_mem -> D0, getElem?_append_right -> D2, mem_cons_self -> D3, length_cons -> D4, mem_of_getElem? -> D5, length_set -> D7, lookup_cons -> E2, getElem?_set_self -> E3, getElem?_map -> E4, mem_range -> E6, mem_cons -> E7, mem_append_right -> E8, mem_append -> F1, getElem?_eq_none -> F2, getElem?_range -> F3, map_cons -> F4, length_range -> F6, map_append -> F7, getD_eq_getElem?_getD -> F8, mem_append_left -> F9
open PySem.Heap renaming get?_push_of_some -> O1, lt_size -> O7, get?_push_size -> D6, get?_update_other -> E9, size_push -> F5, get?_update_self -> G7
open Nat renaming le_refl -> O8, lt_of_lt_of_le -> D1, le_of_lt -> D9, ne_of_lt -> E5, le_trans -> F0
open Bool renaming false_ne_true -> D8, and_eq_true -> G6
open PySem renaming Addr -> aA, Value -> aB, Shared -> aC, Expr -> aD, wpAny_bind -> aF, wpAny -> aI, model -> aJ, World -> aK, eval -> aL, Stmt -> aM, Program -> aN, starEach -> aO, FuncData -> aP, mainGlobals -> aQ, Around -> aR, wpAny_pure -> aS, backTo -> aU, compareOp -> aV, binaryOp -> aW, wpAny_field -> aX, IsPair -> aY, rawInt -> aZ, bootBuiltins -> aa, cLine -> ac, wpAny_mono -> ad, cellsFrom -> ae, sysModules -> af, holding -> ag, attributeBase -> ai, NameKind -> aj, assignEach -> ak, wpAny_truthy_bool -> am, wpAny_newObj_type -> ao, Paired -> aq, pyNext -> ar, call_meets -> au, wpAny_seqItems -> av, wpAny_holding -> aw, wpAny_passesOwn -> ay, foldedSetIterable -> az, wpAny_call_entry -> bA, sliceBounds -> bB, valueAt -> bC, behindInMarks -> bD, codeAny_mono -> bE, wpAny_setField_rec -> bF, wpAny_pyIter_tuple -> bG, wpAny_typeOf -> bH, wpAny_rule -> bI, wpAny_isInstance -> bJ
open PySem.Str renaming ofString -> bP, empty -> fW
open PySem.W renaming Frag -> bQ, nsIn -> bS, keepIn -> bT, fnOf -> bU, codeIn -> bW, findIn -> bY, excIn -> bb, isFn -> bi, mg_none_of -> bj, mg_of -> bo, kia_one -> bt, emptyDict -> cB, instObj -> cH, plainGet -> dA, callWith_K -> dB, exmOne -> dF, hideAll -> dQ, hideAll_get -> dR, lookIn -> dU, hasDictIn -> dW, clsIn -> dz, methodObj -> eC, plainGet_of -> eG, plainOver -> eI, takerIn -> eJ, makesIn -> eK, specialIn -> eM, mroIn -> eN, kitOne -> eO, cellsFrom_some -> eP, OpenLaw -> ec, of_hideAll -> fN, hideAll_none -> fO, handedIn -> fU, looks_findIn -> fV, takesIn -> fX, kitx_list -> fY, kitx_dict -> fZ, methodCall_KW -> fb, WalkO -> ft
open List renaming replicate -> bR, range -> bV, getD -> ba, map_map -> br, append_nil -> bu, all_eq_true -> bx, lookup -> cC, mem_filter -> cI, length_take -> cJ, length_nil -> cK, replicate_succ -> cL, append_assoc -> cM, find?_cons -> cO, getElem?_replicate -> cU, length_drop -> cV, flatten_cons -> cW, all_cons -> cY, prefix_refl -> cZ, of_mem_zip -> ce, map_nil -> cg, foldl_cons -> cr, not_mem_nil -> cx, length_pos_iff -> dD, prefix_append -> dG, any_eq_true -> dI, ext_getElem? -> dL, mem_map -> dN, mem_singleton -> dO, filterMap_cons -> dS, nodup_cons -> dX, foldl -> dZ, forIn_cons -> db, any_cons -> dc, any_map -> df, getElem_mem -> dg, mem_iff_getElem -> dh, getElem_of_mem -> di, nodup_append -> dj, getElem?_set -> dk, drop_zero -> dl, length_zip -> dm, getElem?_zip_eq_some -> dn, range_succ -> dw, mem_or_eq_of_mem_set -> dy, mem_filterMap -> eF, length -> eQ, length_replicate -> eR, length_singleton -> eX, forIn_nil -> ek, take_length -> eu, range_succ_eq_map -> ew, all_map -> ez, drop_length -> fE, length_filter_le -> fG, eq_of_mem_replicate -> fJ, find?_cons_of_neg -> fK, any_eq_false -> fT, zip_cons_cons -> fh, nil_append -> fq, map_congr_left -> fw, zipIdx_cons -> fx, zipIdx_nil -> fy, sum_append -> gA, isEmpty_toArray -> gF, isEmpty_iff -> gG, pairwise_iff_getElem -> gJ, getElem?_cons_succ -> gM, drop_eq_getElem_cons -> gN, map_take -> gP, set_append_right -> gQ, take_of_length_le -> gU, mem_toArray -> gW, nodup_nil -> gX, any_filter -> gY, map_replicate -> gc, eq_replicate_iff -> gd
open PySem.Value renaming ref -> bX, none -> bc, isStrOf -> bp, bool -> cG, int -> cb, builtin -> cv, str -> cy, type -> dP, float -> eA, isInt -> fL, bytes -> fM, notImplemented -> fj
open PySem renaming boot_len -> bZ, mem_of_lookup -> cD, Env -> dq, Within -> eB, call -> eZ, list_append -> fo, seqSlot_of -> gD
open Int renaming le_refl -> bf, le_trans -> bh, toNat_natCast -> cE, fdiv_eq_ediv_of_nonneg -> fS, emod_eq_of_lt -> gf, add_zero -> gg, add_assoc -> gh
open Option.some renaming inj -> bg
open Nat renaming lt_irrefl -> bq, ne_of_gt -> bw, lt_succ_self -> cR, le_succ -> cS, lt_succ_of_lt -> cX, zero_le -> cc, sub_self -> dJ, not_lt_zero -> dM, le_of_eq -> eL, mul_comm -> eY, eq_zero_or_pos -> fC, min_self -> fD, min_le_right -> fk, lt_of_le_of_lt -> gB, sub_zero -> gK, min_le_left -> gL, le_total -> gR, min_eq_left -> gS, min_eq_right -> gT, pow_le_pow_right -> gZ
open PySem.Obj renaming mapFields -> bv, data_mapFields -> cF, mapSeq -> cp, isFreed_of_fields -> dC, cls_mapFields -> ee
open Sum renaming inl -> cP, inr -> cQ
open Array renaming getElem?_eq_some_iff -> cu, length_toList -> eE, getElem?_setIfInBounds_ne -> fA, append_assoc -> fP, toList -> fQ
open Prod renaming fst -> cw, snd -> fB
open PyProof.Rows renaming callWith_type1 -> cz, slot_tuple_getitem -> dY, envOfC -> du, callWith_builtin1 -> gi, lt_int -> gj
open PySem.F renaming excBase_ValueError -> dE, slot_tuple_add -> eT, entry_tuple_add -> eU, args_tuple_add_2 -> eV, slot_dict_get -> gI, plainAttrs_list -> gO
open Bool renaming eq_iff_iff -> dH, and_false -> da, true_and -> fH, false_and -> fR, false_eq_true -> fu, not_true -> gC, or_eq_true_iff -> gE, or_eq_true -> gH
open Option renaming bind_some -> fF, isSome_iff_exists -> fe, getD_none -> fm
noncomputable section
theorem bK {c:Prop}{h:Decidable c}(j:c){α:Sort _}{t e:α}:ite c t e=t:=if_pos j
theorem bL {c:Prop}{h:Decidable c}(j:¬c){α:Sort _}{t e:α}:ite c t e=e:=if_neg j
theorem bN {p:Prop}[i:Decidable p](h:¬p):decide p=false:=decide_eq_false h
theorem bO {p:Prop}[i:Decidable p](h:p):decide p=true:=decide_eq_true h
namespace L2
open PySem PySem.Spec PyProof.Rows
abbrev Key:=Sum Int Str
def js:Key->aB->Bool
 | .inl k,v=>fL k v
 | .inr x,v=>bp x v
def Qyv (w:aK):Key->Int
 | .inl k=>hashInt k
 | .inr x=>hashStr w x
theorem Wx:∀ {k:Key} {v:aB},js k v=true->(∃ i t,k=cP i/\v=cb i t)\/(∃ x t,k=cQ x/\v=cy x t)
 | .inl i,v,h=>by
  obtain ⟨t,e⟩:=Value.isInt_shape (k:=i) (v:=v) h;exact .inl ⟨i,t,rfl,e⟩
 | .inr x,v,h=>by
  obtain ⟨t,e⟩:=Value.isStrOf_shape (x:=x) (v:=v) h;exact .inr ⟨x,t,rfl,e⟩
theorem Qi5 (i:Int) (t:Tok):js (.inl i) (.int i t)=true:=by simp [js,fL]
theorem Qi4 (x:Str) (t:Tok):js (.inr x) (.str x t)=true:=by simp [js,bp]
theorem Qtp (a b:Int):decide ((cP a:Key)=cP b)=(a == b):=by
 by_cases e:a=b
 ·subst e; simp
 ·have h:¬ (cP a:Key)=cP b:=fun q=>e (Sum.inl.inj q)
  rw [bN h];exact (beq_eq_false_iff_ne.mpr e).symm
theorem Qtk (a b:Str):decide ((cQ a:Key)=cQ b)=decide (a=b):=by
 by_cases e:a=b
 ·subst e; simp
 ·have h:¬ (cQ a:Key)=cQ b:=fun q=>e (Sum.inr.inj q)
  rw [bN h,bN e]
theorem Qtn (a:Int) (b:Str):decide ((cP a:Key)=cQ b)=false:=bN (fun q=>nomatch q)
theorem Qtm (a:Str) (b:Int):decide ((cQ a:Key)=cP b)=false:=bN (fun q=>nomatch q)
def J7 (prog:aN) (w:aK):PySem.KeyKind prog w Key where
 is:=js
 hash:=Qyv w
 inj:=fun v a b ha hb=>by
  rcases Wx ha with ⟨i,t,rfl,rfl⟩ | ⟨x,t,rfl,rfl⟩
  ·rcases Wx hb with ⟨j,u,rfl,e⟩ | ⟨y,u,rfl,e⟩
   ·injection e with e1 _; rw [e1]
   ·exact nomatch e
  ·rcases Wx hb with ⟨j,u,rfl,e⟩ | ⟨y,u,rfl,e⟩
   ·exact nomatch e
   ·injection e with e1 _; rw [e1]
 byValue:=fun k v h=>by
  rcases Wx h with ⟨i,t,rfl,rfl⟩ | ⟨x,t,rfl,rfl⟩ <;> rfl
 pyHash:=fun hv h=>by
  rcases Wx hv with ⟨i,t,rfl,rfl⟩ | ⟨x,t,rfl,rfl⟩
  ·exact wpAny_pyHash_int h
  ·exact wpAny_pyHash_str h
 eqBool:=fun hu hv h=>by
  rcases Wx hu with ⟨i,t,rfl,rfl⟩ | ⟨x,t,rfl,rfl⟩
  ·rcases Wx hv with ⟨j,u,rfl,rfl⟩ | ⟨y,u,rfl,rfl⟩
   ·rw [Qtp] at h; exact wpAny_eqBool_int h
   ·rw [Qtn] at h; exact SeqAt.EqAt.int_str i t y u _ _ _ _ h
  ·rcases Wx hv with ⟨j,u,rfl,rfl⟩ | ⟨y,u,rfl,rfl⟩
   ·rw [Qtm] at h; exact SeqAt.EqAt.str_int x t j u _ _ _ _ h
   ·rw [Qtk] at h; exact wpAny_eqBool_str h
 «strs»:=fun k x t v h=>by
  rcases Wx h with ⟨i,u,rfl,e⟩ | ⟨y,u,rfl,e⟩
  ·exact nomatch e
  ·injection e with e1 _
   subst e1;cases v <;> rfl
theorem Qdi (prog:aN) (w:aK) (i:Int) (t:Tok):(J7 prog w).is (.inl i) (.int i t)=true:=Qi5 i t
theorem Qdh (prog:aN) (w:aK) (x:Str) (t:Tok):(J7 prog w).is (.inr x) (.str x t)=true:=Qi4 x t
inductive V where
 | non | bl (b:Bool) | int (i:Int) | str (x:Str) | byt (b:Array UInt8) | flt (b:UInt64) | ref (a:aA) | ty (n:String)
 deriving DecidableEq
def RelV:V->aB->Prop
 | .non,u=>u=bc
 | .bl b,u=>u=cG b
 | .int i,u=>∃ t,u=cb i t
 | .str x,u=>∃ t,u=cy x t
 | .byt b,u=>∃ t,u=fM b t
 | .flt b,u=>∃ t,u=eA b t
 | .ref a,u=>u=bX a
 | .ty n,u=>u=dP n
abbrev Vals:List V->List aB->Prop:=aq RelV
theorem Vals.length {xs:List V} {us:List aB} (r:Vals xs us):xs.length=us.length:=Paired.length r
theorem Vals.get:∀ {xs:List V} {us:List aB} {i:Nat} {x:V},Vals xs us->xs[i]?=some x->∃ u,us[i]?=some u/\RelV x u
 | _,_,_,_,.nil,e=>by simp at e
 | _,_,0,_,.cons r _,e=>by simp at e; subst e; exact ⟨_,rfl,r⟩
 | _,_,i + 1,x,.cons _ t,e=>by
  obtain ⟨u,h1,h2⟩:=Vals.get (i:=i) (x:=x) t (by simpa using e);exact ⟨u,by simpa using h1,h2⟩
theorem Vals.set {x:V} {u:aB} (r:RelV x u):∀ {xs:List V} {us:List aB} (i:Nat),Vals xs us->Vals (xs.set i x) (us.set i u)
 | _,_,_,.nil=>.nil
 | _,_,0,.cons _ t=>.cons r t
 | _,_,i + 1,.cons q t=>.cons q (Vals.set r i t)
theorem Vals.append:∀ {xs ys:List V} {us j:List aB},Vals xs us->Vals ys j->Vals (xs ++ ys) (us ++ j)
 | _,_,_,_,.nil,s=>s
 | _,_,_,_,.cons r t,s=>.cons r (Vals.append t s)
theorem Vals.take:∀ {xs:List V} {us:List aB} (n:Nat),Vals xs us->Vals (xs.take n) (us.take n)
 | _,_,0,_=>.nil
 | _,_,_ + 1,.nil=>.nil
 | _,_,n + 1,.cons r t=>.cons r (Vals.take n t)
theorem Vals.drop:∀ {xs:List V} {us:List aB} (n:Nat),Vals xs us->Vals (xs.drop n) (us.drop n)
 | _,_,0,r=>r
 | _,_,_ + 1,.nil=>.nil
 | _,_,n + 1,.cons _ t=>Vals.drop n t
def RelO:Option V->Option aB->Prop
 | some v,some u=>RelV v u
 | none,none=>True
 | _,_=>False
def KV {κ:Type}:List (κ × V)->List (κ × aB)->Prop:=aq fun (p:κ × V) (q:κ × aB)=>p.1=q.1/\RelV p.2 q.2
def kV:Key->V
 | .inl i=>.int i
 | .inr x=>.str x
inductive HO where
 | lst (xs:List V)
 | tup (xs:List V)
 | dK (kvs:List (Key × V)) | dT (kvs:List (List Key × V))
 | set (S:Int->Bool) (n:Nat)
 | ins (C dx:aA) (fs:List (Str × V))
 | own (x:aA)
 | xd (fs:List (Str × V))
 | met (f x:aA)
 | rng (lo hi:Int)
 | frz (o:Obj) (u:HO)
 | tbl (ps:Array aB)
 | ext (φ:Heap->Prop)
abbrev Hp:=aA->Option HO
def upd (H:Hp) (a:aA) (o:HO):Hp:=fun b=>if b=a then some o else H b
theorem Je {H:Hp} {a:aA} {o:HO}:upd H a o a=some o:=by unfold upd; rw [bK rfl]
theorem Qf {H:Hp} {a b:aA} {o:HO} (h:b≠a):upd H a o b=H b:=by unfold upd; rw [bL h]
theorem Qh {H:Hp} {a b:aA} {o:HO} (h:H a=some o) (h':H b=none):a≠b:=by
 intro e; subst e; rw [h] at h'; cases h'
section
variable (P:aN) (w:aK)
def ObjOk (H:Hp) (h:Heap) (a:aA):HO->Prop
 | .lst xs=>xs.length<=sizeLine/\∃ (its:List aB) (n:Nat),Vals xs its/\h.get? a=some { cls:=.type "list",data:=.seq its.toArray n }
 | .tup xs=>xs.length<=sizeLine/\∃ its:List aB,Vals xs its/\IsTup h a its.toArray
 | .dK kvs=>kvs.length<=sizeLine/\(a == af)=false/\∃ vs,KV kvs vs/\h.DictOf (J7 P w) a vs
 | .dT kvs=>kvs.length<=sizeLine/\(a == af)=false/\∃ xs:List (List Key × aA × aB),
   aq (fun (p:List Key × V) (q:List Key × aA × aB)=>p.1=q.1/\H q.2.1=some (.tup (p.1.map kV))/\RelV p.2 q.2.2) kvs xs /\
   ∃ o es ep,h.get? a=some o/\o.ExactDict/\o.data=.dict es ep/\es.toList=xs.map (entryOfKey (tupleKind (J7 P w)))/\(xs.map (·.1)).Nodup
 | .set S n=>h.SetOf (intKind P w) a S n
 | .ins C dx fs=>H dx=some (.own a)/\fs.length<=1000/\dx≠a/\h.get? a=some (cH C dx) /\
   ∃ mA,h.Ns1 dx mA/\(∀ f,RelO (fs.lookup f) (mA f))/\eB mA (fs.map (·.1))
 | .own _=>∃ o,h.get? a=some o
 | .xd fs=>∃ mA,h.Ns1 a mA/\∀ f,RelO (fs.lookup f) (mA f)
 | .rng lo hi=>∃ t u v,h.get? a=some { cls:=.type "range",data:=.fields #[.int lo t,.int hi u,.int 1 v] }
 | .frz o u=>h.get? a=some o/\ObjOk H h a u
 | .tbl ps=>h.get? a=some { cls:=.none,data:=.fields ps }
 | .met f x=>h.get? a=some (eC (.ref f) (.ref x))
 | .ext φ=>φ h/\(∃ o,h.get? a=some o)/\∀ h1 h2:Heap,φ h1->(∀ o,h1.get? a=some o->h2.get? a=some o)->φ h2
def HOk (H:Hp) (h:Heap):Prop:=∀ a o,H a=some o->ObjOk P w H h a o
end
section
variable {P:aN} {w:aK} {H H':Hp} {h h':Heap} {a:aA} {o:HO}
theorem ObjOk.lt (x:ObjOk P w H h a o):a < h.objs.size:=by
 cases o with
 | lst xs=>obtain ⟨_,_,_,_,e⟩:=x; exact O7 e
 | tup xs=>obtain ⟨_,_,_,p⟩:=x; exact p.lt
 | dK kvs=>obtain ⟨_,_,_,_,o,_,_,e,_⟩:=x; exact O7 e
 | dT kvs=>obtain ⟨_,_,_,_,o,_,_,e,_⟩:=x; exact O7 e
 | set S n=>obtain ⟨o,_,_,_,e,_⟩:=x; exact O7 e
 | ins C dx fs=>obtain ⟨_,_,_,e,_⟩:=x; exact O7 e
 | own y=>obtain ⟨_,e⟩:=x; exact O7 e
 | xd fs=>obtain ⟨_,⟨_,_,_,e,_⟩,_⟩:=x; exact O7 e
 | rng lo hi=>obtain ⟨_,_,_,e⟩:=x; exact O7 e
 | frz ob u=>obtain ⟨e,_⟩:=x; exact O7 e
 | tbl ps=>exact O7 (show h.get? a=some _ from x)
 | met f y=>exact O7 (show h.get? a=some _ from x)
 | ext j=>obtain ⟨_,⟨_,e⟩,_⟩:=x; exact O7 e
theorem Paired.mapP {α β:Type} {F G:α->β->Prop}:∀ {q:List α} {j:List β},aq F q j->(∀ a b,F a b->G a b)->aq G q j
 | _,_,.nil,_=>.nil
 | _,_,.cons r t,f=>.cons (f _ _ r) (Paired.mapP t f)
theorem ObjOk.stay (x:ObjOk P w H h a o) (k:∀ b u,(b=a\/H b=some (.own a))->h.get? b=some u->h'.get? b=some u)
  (G:∀ b,H b=some (.own a)->H' b=some (.own a)) (I:∀ b xs,H b=some (.tup xs)->H' b=some (.tup xs)):ObjOk P w H' h' a o:=by
 induction o with
 | lst xs=>obtain ⟨z,its,n,r,e⟩:=x; exact ⟨z,its,n,r,k _ _ (.inl rfl) e⟩
 | tup xs=>obtain ⟨z,its,r,ob,e,c⟩:=x; exact ⟨z,its,r,ob,k _ _ (.inl rfl) e,c⟩
 | dK kvs=>obtain ⟨z,y,vs,r,ob,es,j,e,c⟩:=x; exact ⟨z,y,vs,r,ob,es,j,k _ _ (.inl rfl) e,c⟩
 | dT kvs=>
  obtain ⟨z,y,xs,r,ob,es,j,e,c⟩:=x;exact ⟨z,y,xs,Paired.mapP r fun p q z=>⟨z.1,I _ _ z.2.1,z.2.2⟩,ob,es,j,k _ _ (.inl rfl) e,c⟩
 | set S n=>obtain ⟨ob,es,j,t,e,c⟩:=x; exact ⟨ob,es,j,t,k _ _ (.inl rfl) e,c⟩
 | ins C dx fs=>
  obtain ⟨d,z,ne,e,mA,⟨B,es,j,e2,c⟩,r⟩:=x;exact ⟨G _ d,z,ne,k _ _ (.inl rfl) e,mA,⟨B,es,j,k _ _ (.inr d) e2,c⟩,r⟩
 | own y=>obtain ⟨ob,e⟩:=x; exact ⟨ob,k _ _ (.inl rfl) e⟩
 | xd fs=>obtain ⟨mA,⟨B,es,j,e,c⟩,r⟩:=x; exact ⟨mA,⟨B,es,j,k _ _ (.inl rfl) e,c⟩,r⟩
 | rng lo hi=>obtain ⟨t,u,v,e⟩:=x; exact ⟨t,u,v,k _ _ (.inl rfl) e⟩
 | frz ob u J=>obtain ⟨e,q⟩:=x; exact ⟨k _ _ (.inl rfl) e,J q⟩
 | tbl ps=>
  have e:h.get? a=some { cls:=.none,data:=.fields ps }:=x;show h'.get? a=some { cls:=.none,data:=.fields ps };exact k a _ (.inl rfl) e
 | met f y=>
  have e:h.get? a=some (eC (.ref f) (.ref y)):=x;show h'.get? a=some (eC (.ref f) (.ref y));exact k a _ (.inl rfl) e
 | ext O=>obtain ⟨p,⟨o,e⟩,st⟩:=x; exact ⟨st _ _ p fun o q=>k _ _ (.inl rfl) q,⟨o,k _ _ (.inl rfl) e⟩,st⟩
theorem HOk.lt (x:HOk P w H h) (e:H a=some o):a < h.objs.size:=(x a o e).lt
theorem HOk.fresh (x:HOk P w H h) (e:h.objs.size<=a):H a=none:=by
 cases q:H a with
 | none=>rfl
 | some u=>exact absurd (D1 (x.lt q) e) (bq _)
theorem HOk.kept (x:HOk P w H h) (k:∀ b u,h.get? b=some u->h'.get? b=some u):HOk P w H h':=fun a o e=>
 (x a o e).stay (fun b u _ q=>k b u q) (fun _ q=>q) fun _ _ q=>q
theorem HOk.laid (x:HOk P w H h) (k:∀ b u,h.get? b=some u->h'.get? b=some u) (hp:h.objs.size<=a) (new:ObjOk P w (upd H a o) h' a o):HOk P w (upd H a o) h':=fun b u e=>by
 have z:=x.fresh hp
 by_cases j:b=a
 ·subst j; rw [Je] at e; cases e; exact new
 ·rw [Qf j] at e;exact (x b u e).stay (fun c v _ q=>k c v q) (fun c q=>by rw [Qf (Qh q z)]; exact q) fun c xs q=>by rw [Qf (Qh q z)]; exact q
end
def Rd (H:Hp) (a:aA) (u:HO):Prop:=H a=some u\/∃ o,H a=some (.frz o u)
theorem Rd.ok {P:aN} {w:aK} {H:Hp} {h:Heap} {a:aA} {u:HO} (r:Rd H a u) (x:HOk P w H h):ObjOk P w H h a u:=by
 rcases r with r | ⟨o,r⟩
 ·exact x a u r
 ·obtain ⟨_,q⟩:=x a _ r;exact q
def Mut:Option HO->Prop
 | some (.lst _)=>True
 | some (.dK _)=>True
 | some (.dT _)=>True
 | some (.set _ _)=>True
 | some (.ins _ _ _)=>True
 | some (.ext _)=>True
 | _=>False
section
variable {P:aN} {w:aK} {H:Hp} {h h':Heap} {x e:aA} {o':HO}
theorem HOk.write (ok:HOk P w H h) (I:Mut (H x)) (Y:e=x\/H e=some (.own x)) (k:∀ b u,b≠e->h.get? b=some u->h'.get? b=some u) (U:∃ u,h'.get? e=some u)
  (new:ObjOk P w (upd H x o') h' x o'):HOk P w (upd H x o') h':=fun b u q=>by
 have B:∀ c y,H c=some (.own y)->c≠x:=fun c y r z=>by subst z; rw [r] at I; exact I
 have G:∀ c xs,H c=some (.tup xs)->c≠x:=fun c xs r z=>by subst z; rw [r] at I; exact I
 by_cases J:b=x
 ·subst J; rw [Je] at q; cases q; exact new
 ·rw [Qf J] at q
  by_cases j:b=e
  ·have Z:H b=some (.own x):=by
    rcases Y with z | z
    ·exact absurd (j.trans z) J
    ·rw [j]; exact z
   rw [q] at Z; cases Z;obtain ⟨v,hv⟩:=U;exact ⟨v,by rw [j]; exact hv⟩
  ·refine (ok b u q).stay (fun c v O r=>k c v ?_ r) (fun c r=>by rw [Qf (B c b r)]; exact r) fun c xs r=>by rw [Qf (G c xs r)]; exact r
   rcases O with rfl | O
   ·exact j
   ·rintro rfl;rcases Y with z | z
    ·exact B c b O z
    ·rw [O] at z; cases z; exact J rfl
end
structure Un (fs ex:List aA) (H H':Hp) (h h':Heap):Prop where
 keep:∀ b o,h.get? b=some o->H b=none->b∉fs->b∉ex->h'.get? b=some o
 slot:∀ b o,h.get? b=some o->H b=none->b∈fs->b∉ex->∃ sl,h'.get? b=some { o with slots:=sl }
 free:∀ b o,h.get? b=some o->H b=none->b∉ex->H' b=none
 there:∀ b o,h.get? b=some o->b∉ex->∃ o',h'.get? b=some o'
 tups:∀ b xs,H b=some (.tup xs)->H' b=some (.tup xs)
 frzs:∀ b o u,H b=some (.frz o u)->H' b=some (.frz o u)
 tbls:∀ b ps,H b=some (.tbl ps)->∃ more,H' b=some (.tbl (ps ++ more))
section
variable {fs fs' ex ex':List aA} {H H1 H2:Hp} {h h1 h2 h':Heap} {a x e:aA} {o:HO}
theorem Un.any (u:Un fs ex H H1 h h1) {b:aA} {ob:Obj} (q:h.get? b=some ob) (n:H b=none) (z:b∉ex):∃ sl,h1.get? b=some { ob with slots:=sl }:=by
 by_cases j:b∈fs
 ·exact u.slot b ob q n j z
 ·exact ⟨ob.slots,u.keep b ob q n j z⟩
theorem Un.kept (k:∀ b u,h.get? b=some u->h'.get? b=some u):Un fs ex H H h h':=
 ⟨fun b ob q _ _ _=>k b ob q,fun b ob q _ _ _=>⟨ob.slots,k b ob q⟩,fun _ _ _ n _=>n,fun b ob q _=>⟨ob,k b ob q⟩,fun _ _ q=>q,fun _ _ _ q=>q,fun _ ps q=>⟨#[],by rw [q]; simp⟩⟩
theorem Un.refl:Un fs ex H H h h:=Un.kept fun _ _ q=>q
theorem Un.laid (k:∀ b u,h.get? b=some u->h'.get? b=some u) (hp:h.objs.size<=a) (j:H a=none):Un fs ex H (upd H a o) h h' where
 keep:=fun b u q _ _ _=>k b u q
 slot:=fun b u q _ _ _=>⟨u.slots,k b u q⟩
 free:=fun b u q n _=>by rw [Qf (E5 (D1 (O7 q) hp))]; exact n
 there:=fun b u q _=>⟨u,k b u q⟩
 tups:=fun b xs q=>by rw [Qf (Qh q j)]; exact q
 frzs:=fun b u xs q=>by rw [Qf (Qh q j)]; exact q
 tbls:=fun b ps q=>⟨#[],by rw [Qf (Qh q j),q]; simp⟩
theorem Un.write (B:Mut (H x)) (U:e=x\/H e=some (.own x)) (k:∀ b u,b≠e->h.get? b=some u->h'.get? b=some u) (I:∃ u,h'.get? e=some u):Un fs ex H (upd H x o) h h':=by
 have J:∀ b,H b=none->b≠x:=fun b n z=>by subst z; rw [n] at B; exact B
 have O:∀ b,H b=none->b≠e:=fun b n z=>by
  subst z;rcases U with r | r
  ·exact J b n r
  ·rw [n] at r; cases r
 have G:∀ b u,H b=some u->¬ Mut (some u)->b≠x:=fun b u q nm z=>by subst z; rw [q] at B; exact nm B
 refine ⟨fun b u q n _ _=>k b u (O b n) q,fun b u q n _ _=>⟨u.slots,k b u (O b n) q⟩,fun b u q n _=>by rw [Qf (J b n)]; exact n,fun b u q _=>?_,
  fun b xs q=>by rw [Qf (G b _ q fun z=>z)]; exact q,fun b u xs q=>by rw [Qf (G b _ q fun z=>z)]; exact q,fun b ps q=>⟨#[],by rw [Qf (G b _ q fun z=>z),q]; simp⟩⟩
 by_cases j:b=e
 ·subst j; exact I
 ·exact ⟨u,k b u j q⟩
end
def trk (h:Heap) (H:Hp):List aA:=(bV h.objs.size).filter fun a=>(H a).isSome
def Qc8 (h:Heap) (H:Hp):Heap:=dQ h (trk h H)
theorem Qib (h:Heap) (H:Hp):(Qc8 h H).objs.size=h.objs.size:=PySem.W.hideAll_size _ _
theorem Qky {h:Heap} {H:Hp} {b:aA} {o:Obj} (e:h.get? b=some o) (n:H b=none):(Qc8 h H).get? b=some o:=
 dR _ e fun j=>by
  have q:(H b).isSome=true:=(cI.mp j).2;rw [n] at q; simp at q
theorem Qpu {h:Heap} {H:Hp} {b:aA} {o:Obj} (e:(Qc8 h H).get? b=some o):h.get? b=some o/\H b=none:=by
 have j:h.get? b=some o:=fN (trk h H) e;refine ⟨j,?_⟩;cases q:H b with
 | none=>rfl
 | some x=>
  have B:b∈trk h H:=cI.mpr ⟨E6.mpr (O7 j),by simp [q]⟩;have z:(Qc8 h H).get? b=none:=fO (trk h H) B;rw [z] at e; cases e
def Qqy (g h:Heap) (L:aA):List (aA × Obj):=(bV h.objs.size).filterMap fun a=>if a=L\/(g.get? a).isSome=true then none else (h.get? a).map fun o=>(a,o)
def rest (g h:Heap) (L d:aA):List (aA × Obj):=(Qqy g h L).filter fun p=>decide (p.1≠d)
structure Mod (K:bQ) (mg:Str->Option aB) (base:Heap):Prop where
 kin:K.In base
 glob:base.Ns aQ mg
 blt:∃ mb,base.Ns builtinsNs mb/\∀ x:Str,x≠"__name__" -> mb x=aa x
 nolimit:base.NoLimit
structure Cx where
 prog:aN
 w:aK
 K:bQ
 mg:Str->Option aB
 base:Heap
 A:aR
 N:List Str
 s₀:aC
 H₀:Hp
 env:Env
 outer:List Env
 stack:List Env
 ex:List aA
 fn:Str->Bool
 calm:Bool
 pn:List (aA × Obj)
 xe:aB->aC->Prop
def frs (l:List Env):List aA:=l.filterMap (·.frame)
abbrev Cx.fs (X:Cx):List aA:=frs X.outer
def Vis (sc:Scope) (x:Str):Prop:=sc.names.lookup x=some .local\/sc.names.lookup x=some .cell\/sc.names.lookup x=some .free
def Loc (sc:Scope) (x:Str):Prop:=sc.names.lookup x=some .local\/sc.names.lookup x=some .cell
def Qx6 (env:Env) (h:Heap) (m:Str->Option aB) (x:Str) (u:aB):Prop:=
 (env.kindOf x=some .local/\m x=some u)\/((env.kindOf x=some .cell\/env.kindOf x=some .free)/\∃ c,env.cells.lookup x=some c/\h.IsCell c (some u))
structure Cx.Ok (X:Cx):Prop where
 mod:Mod X.K X.mg X.base
 kind:X.env.scope.kind=.function
 glob:X.env.globals=aQ
 blt:X.env.builtins=builtinsNs
 above:X.s₀.heap.objs.size<=X.env.locals
 inj:∀ x y c,X.env.cells.lookup x=some c->X.env.cells.lookup y=some c->x=y
 has:∀ x,(X.env.kindOf x=some .cell\/X.env.kindOf x=some .free)->∃ c,X.env.cells.lookup x=some c
 cab:∀ x c,X.fn x=true->X.env.cells.lookup x=some c->X.s₀.heap.objs.size<=c
 hd:X.calm=true->X.A.handled=none
 frames:X.A.frames=some X.stack
 stk:X.stack=X.outer\/(X.stack=X.env :: X.outer/\X.env.frame=some X.env.locals)
 exf:∀ b∈X.ex,b≠X.env.locals/\∀ x c,X.env.cells.lookup x=some c->c≠b
 bs:∀ b o,X.base.get? b=some o->X.s₀.heap.get? b=some o/\X.H₀ b=none
 bsz:X.base.objs.size<=X.s₀.heap.objs.size
 noex:∀ b o,X.base.get? b=some o->b∉X.ex
 exfs:∀ b∈X.ex,b∉X.fs
 funs:X.s₀.heap.FunFrames X.base X.outer
 frf:∀ b∈X.fs,X.H₀ b=none
structure Inv (X:Cx) (pins:List (aA × Obj)) (σ:List (Option V)) (H:Hp) (s:aC):Prop where
 ok:X.Ok
 os:s.os=X.s₀.os
 bare:AllBare s.gens
 base:Un X.fs X.ex X.H₀ H X.s₀.heap s.heap
 loc:∃ m,s.heap.Ns X.env.locals m/\∀ (i:Nat) (x:Str) (v:V),X.N[i]?=some x->σ[i]?=some (some v)->Vis X.env.scope x->∃ u,RelV v u/\Qx6 X.env s.heap m x u
 cell:∀ x c,X.env.cells.lookup x=some c->∃ v,s.heap.IsCell c v
 free:H X.env.locals=none
 freeC:∀ x c,X.env.cells.lookup x=some c->H c=none
 pin:∀ p∈X.pn ++ pins,s.heap.get? p.1=some p.2/\H p.1=none/\p.1≠X.env.locals/\p.1∉X.fs/\∀ v,p.2.data≠.cell v
 hok:HOk X.prog X.w H s.heap
 len:σ.length=X.N.length
section
variable {X:Cx} {pins:List (aA × Obj)} {σ:List (Option V)} {H H':Hp} {s:aC} {h':Heap}
theorem Cx.Ok.nofr (ok:X.Ok) {b:aA} {o:Obj} (e:X.base.get? b=some o):b∉X.fs:=fun j=>by
 have:=(ok.funs.mem j).1;rw [e] at this; cases this
theorem Inv.bs (I:Inv X pins σ H s):∀ b o,X.base.get? b=some o->s.heap.get? b=some o/\H b=none:=fun b o e=>
 ⟨I.base.keep b o (I.ok.bs b o e).1 (I.ok.bs b o e).2 (I.ok.nofr e) (I.ok.noex b o e),I.base.free b o (I.ok.bs b o e).1 (I.ok.bs b o e).2 (I.ok.noex b o e)⟩
theorem Inv.bk (I:Inv X pins σ H s):∀ b o,X.base.get? b=some o->s.heap.get? b=some o:=fun b o e=>(I.bs b o e).1
theorem Inv.mod (I:Inv X pins σ H s):Mod X.K X.mg X.base:=I.ok.mod
theorem Inv.kIn (I:Inv X pins σ H s):X.K.In s.heap:=I.ok.mod.kin.keeps I.bk
theorem Inv.lt (I:Inv X pins σ H s):X.env.locals < s.heap.objs.size:=let ⟨_,j,_⟩:=I.loc; j.lt
theorem Inv.sz (I:Inv X pins σ H s):X.s₀.heap.objs.size<=s.heap.objs.size:=F0 I.ok.above (D9 I.lt)
theorem Inv.nofs (I:Inv X pins σ H s) {a:aA} (h:s.heap.objs.size<=a):a∉X.fs:=fun j=>by
 obtain ⟨_,o,q,_⟩:=I.ok.funs.mem j;exact absurd (D1 (O7 q) (F0 I.sz h)) (bq _)
theorem Inv.cne (I:Inv X pins σ H s):∀ x c,X.env.cells.lookup x=some c->c≠X.env.locals:=fun x c e z=>by
 obtain ⟨v,o,B,hd⟩:=I.cell x c e;obtain ⟨m,⟨o',es,G,q,j,_⟩,_⟩:=I.loc;rw [z,q] at B; cases B; rw [j] at hd; cases hd
theorem Inv.funs (I:Inv X pins σ H s):s.heap.FunFrames X.base X.outer:=by
 have all:∀ (l:List Env),(∀ b∈frs l,b∈X.fs)->X.s₀.heap.FunFrames X.base l->s.heap.FunFrames X.base l:=by
  intro l
  induction l with
  | nil=>intro _ _; trivial
  | cons env r Y=>
   intro hs G;obtain ⟨U,⟨L,o,j,O,J,hd⟩,hr⟩:=G;have q:L∈X.fs:=hs L (by unfold frs; rw [dS,j]; exact D3);obtain ⟨sl,e⟩:=I.base.slot L o J (I.ok.frf L q) q fun z=>I.ok.exfs L z q
   exact ⟨U,⟨L,_,j,O,e,hd⟩,Y (fun b B=>hs b (by unfold frs; rw [dS,j]; exact D0 _ B)) hr⟩
 exact all X.outer (fun _ B=>B) I.ok.funs
theorem Inv.stack (I:Inv X pins σ H s):s.heap.FunFrames X.base X.stack:=by
 rcases I.ok.stk with e | ⟨e,j⟩
 ·rw [e]; exact I.funs
 ·rw [e];obtain ⟨m,q,_⟩:=I.loc;refine .cons (by rw [I.ok.kind]; decide) j q ?_ I.funs;exact Heap.get?_none_of_le (F0 I.ok.bsz I.ok.above)
theorem Inv.stkSub (I:Inv X pins σ H s):∀ b∈frs X.stack,b∈X.env.locals :: X.fs:=fun b j=>by
 rcases I.ok.stk with e | ⟨e,q⟩
 ·rw [e] at j; exact D0 _ j
 ·rw [e] at j;unfold frs at j;rw [dS,q] at j;exact j
theorem Inv.stkFree (I:Inv X pins σ H s):∀ b∈frs X.stack,H b=none:=fun b j=>by
 rcases E7.mp (I.stkSub b j) with e | j
 ·rw [e]; exact I.free
 ·obtain ⟨_,o,q,_⟩:=I.ok.funs.mem j;exact I.base.free b o q (I.ok.frf b j) fun z=>I.ok.exfs b z j
theorem Inv.step {g':Array GenState} {t':Nat} {d':Drawn} {ch:List aA} (I:Inv X pins σ H s)
  (B:∀ b∈ch,(b∈X.ex\/X.s₀.heap.objs.size<=b)/\b≠X.env.locals/\(∀ x c,X.env.cells.lookup x=some c->c≠b)/\∀ p∈X.pn ++ pins,p.1≠b)
  (keep:∀ b o,b≠X.env.locals->b∉X.fs->b∉ch->s.heap.get? b=some o->H b=none->h'.get? b=some o)
  (slot:∀ b o,b≠X.env.locals->b∈X.fs->b∉ch->s.heap.get? b=some o->H b=none->∃ sl,h'.get? b=some { o with slots:=sl }) (free:∀ b o,b∉ch->s.heap.get? b=some o->H b=none->H' b=none)
  (there:∀ b o,b∉ch->s.heap.get? b=some o->∃ o',h'.get? b=some o')
  (tups:∀ b xs,H b=some (.tup xs)->H' b=some (.tup xs)) (frzs:∀ b o u,H b=some (.frz o u)->H' b=some (.frz o u)) (tbls:∀ b ps,H b=some (.tbl ps)->∃ more,H' b=some (.tbl (ps ++ more)))
  (ns:∀ m,s.heap.Ns X.env.locals m->h'.Ns X.env.locals m) (hok:HOk X.prog X.w H' h') (hg:AllBare g') :
  Inv X pins σ H' { s with heap:=h',gens:=g',drawn:=d',toks:=t' }:=by
 have Z:∀ b o,X.s₀.heap.get? b=some o->b≠X.env.locals:=fun b o e=>E5 (D1 (O7 e) I.ok.above)
 have O:∀ b o,X.s₀.heap.get? b=some o->b∉X.ex->b∉ch:=fun b o e j U=>by
  rcases (B b U).1 with z | z
  ·exact j z
  ·exact absurd (D1 (O7 e) z) (bq _)
 have J:∀ x c,X.env.cells.lookup x=some c->∀ v,s.heap.IsCell c v->h'.IsCell c v:=fun x c e v ⟨o,Y,hd⟩=>by
  have G:c∉ch:=fun z=>(B c z).2.2.1 x c e rfl
  by_cases hc:c∈X.fs
  ·obtain ⟨sl,q⟩:=slot c o (I.cne x c e) hc G Y (I.freeC x c e);exact ⟨_,q,hd⟩
  ·exact ⟨o,keep c o (I.cne x c e) hc G Y (I.freeC x c e),hd⟩
 refine ⟨I.ok,I.os,hg,⟨fun b o e n U j=>?_,fun b o e n U j=>?_,fun b o e n j=>?_,fun b o e j=>?_,fun b xs e=>tups b xs (I.base.tups b xs e),fun b o xs e=>frzs b o xs (I.base.frzs b o xs e),fun b ps e=>?_⟩,?_,fun x c e=>?_,?_,fun x c e=>?_,fun p hp=>?_,hok,I.len⟩
 ·exact keep b o (Z b o e) U (O b o e j) (I.base.keep b o e n U j) (I.base.free b o e n j)
 ·obtain ⟨sl,e1⟩:=I.base.slot b o e n U j;obtain ⟨a2,e2⟩:=slot b _ (Z b o e) U (O b o e j) e1 (I.base.free b o e n j);exact ⟨a2,e2⟩
 ·obtain ⟨o',e1⟩:=I.base.there b o e j;exact free b o' (O b o e j) e1 (I.base.free b o e n j)
 ·obtain ⟨o',e1⟩:=I.base.there b o e j;exact there b o' (O b o e j) e1
 ·obtain ⟨m1,e1⟩:=I.base.tbls b ps e;obtain ⟨m2,e2⟩:=tbls b _ e1;exact ⟨m1 ++ m2,by rw [e2,fP]⟩
 ·obtain ⟨m,hn,hl⟩:=I.loc;refine ⟨m,ns m hn,fun i x v e1 e2 e3=>?_⟩;obtain ⟨u,r,l⟩:=hl i x v e1 e2 e3;refine ⟨u,r,?_⟩;rcases l with l | ⟨k,c,e,z⟩
  ·exact .inl l
  ·exact .inr ⟨k,c,e,J x c e _ z⟩
 ·obtain ⟨v,z⟩:=I.cell x c e;exact ⟨v,J x c e v z⟩
 ·obtain ⟨m,⟨o,_,_,Y,_⟩,_⟩:=I.loc;exact free _ o (fun z=>(B _ z).2.1 rfl) Y I.free
 ·obtain ⟨v,o,Y,hd⟩:=I.cell x c e;exact free c o (fun z=>(B c z).2.2.1 x c e rfl) Y (I.freeC x c e)
 ·obtain ⟨e,n,ne,nf,d⟩:=I.pin p hp;have G:p.1∉ch:=fun z=>(B p.1 z).2.2.2 p hp rfl
  exact ⟨keep p.1 p.2 ne nf G e n,free p.1 p.2 G e n,ne,nf,d⟩
theorem Inv.un {t':Nat} (I:Inv X pins σ H s) (u:Un X.fs [] H H' s.heap h') (hok:HOk X.prog X.w H' h'):Inv X pins σ H' { s with heap:=h',toks:=t' }:=by
 obtain ⟨m,⟨o,es,ep,J,r⟩,_⟩:=id I.loc;obtain ⟨sl,U⟩:=u.any J I.free (by simp);exact I.step (g':=s.gens) (d':=s.drawn) (ch:=[]) (fun _ z=>nomatch z) (fun b o _ q _ e n=>u.keep b o e n q (by simp)) (fun b o _ q _ e n=>u.slot b o e n q (by simp)) (fun b o _ e n=>u.free b o e n (by simp)) (fun b o _ e=>u.there b o e (by simp)) u.tups u.frzs u.tbls (fun Z O=>by
  obtain ⟨o',B,G,j,Y⟩:=O;rw [J] at j; cases j;exact ⟨_,B,G,U,Y⟩) hok I.bare
theorem Inv.call {g':Array GenState} {t':Nat} {d':Drawn} {ch:List aA} (I:Inv X pins σ H s) (u:Un (frs X.stack) ch H H' s.heap h') (hok:HOk X.prog X.w H' h') (Z:AllBare g')
  (q:∀ b∈ch,(b∈X.ex\/X.s₀.heap.objs.size<=b)/\b≠X.env.locals/\(∀ x c,X.env.cells.lookup x=some c->c≠b)/\∀ p∈X.pn ++ pins,p.1≠b) :
  Inv X pins σ H' { s with heap:=h',gens:=g',drawn:=d',toks:=t' }:=by
 obtain ⟨m,⟨o,es,ep,U,r⟩,_⟩:=id I.loc;obtain ⟨sl,G⟩:=u.any U I.free fun z=>(q _ z).2.1 rfl
 exact I.step (ch:=ch) q (fun b o G hb j e n=>u.keep b o e n (fun z=>(E7.mp (I.stkSub b z)).elim G hb) j) (fun b o _ _ j e n=>u.any e n j) (fun b o j e n=>u.free b o e n j) (fun b o j e=>u.there b o e j) u.tups u.frzs u.tbls (fun m' Y=>by
  obtain ⟨o',J,O,B,r'⟩:=Y;rw [U] at B; cases B;exact ⟨_,J,O,G,r'⟩) hok Z
theorem Inv.turned {t':Nat} {j:aA} (I:Inv X pins σ H s) (k:∀ b o,b≠j->s.heap.get? b=some o->h'.get? b=some o) (Z:H j=none) (J:j≠X.env.locals)
  (h1:j∈X.ex\/X.s₀.heap.objs.size<=j) (h2:∀ x c,X.env.cells.lookup x=some c->c≠j) (h3:∀ p∈X.pn ++ pins,p.1≠j):Inv X pins σ H { s with heap:=h',toks:=t' }:=by
 have G:∀ b u,H b=some u->b≠j:=fun b u e z=>by rw [z,Z] at e; cases e
 refine I.step (g':=s.gens) (d':=s.drawn) (ch:=[j]) (fun b Y=>?_) (fun b o _ _ B e _=>k b o (fun z=>B (by simp [z])) e) (fun b o _ _ B e _=>⟨o.slots,k b o (fun z=>B (by simp [z])) e⟩) (fun _ _ _ _ n=>n)
  (fun b o B e=>⟨o,k b o (fun z=>B (by simp [z])) e⟩) (fun _ _ e=>e) (fun _ _ _ e=>e) (fun b ps e=>⟨#[],by rw [e]; simp⟩) (fun m O=>?_) (fun b u e=>?_) I.bare
 ·have e:b=j:=by simpa using Y
  subst e;exact ⟨h1,J,h2,h3⟩
 ·obtain ⟨o,es,ep,U,r⟩:=O;exact ⟨o,es,ep,k _ o (Ne.symm J) U,r⟩
 ·refine (I.hok b u e).stay (fun c v B q=>k c v ?_ q) (fun _ q=>q) fun _ _ q=>q
  rcases B with z | z
  ·rw [z]; exact G b u e
  ·exact G c _ z
theorem Inv.tok (I:Inv X pins σ H s) (t:Nat):Inv X pins σ H { s with toks:=t }:=I.un (h':=s.heap) (t':=t) Un.refl I.hok
theorem Inv.kept {t':Nat} (I:Inv X pins σ H s) (k:∀ b u,s.heap.get? b=some u->h'.get? b=some u):Inv X pins σ H { s with heap:=h',toks:=t' }:=I.un (Un.kept k) (I.hok.kept k)
theorem Inv.laid {a:aA} {o:HO} {t':Nat} (I:Inv X pins σ H s) (k:∀ b u,s.heap.get? b=some u->h'.get? b=some u) (hp:s.heap.objs.size<=a) (new:ObjOk X.prog X.w (upd H a o) h' a o) :
  Inv X pins σ (upd H a o) { s with heap:=h',toks:=t' }:=I.un (Un.laid k hp (I.hok.fresh hp)) (I.hok.laid k hp new)
theorem Inv.write {x e:aA} {o:HO} {t':Nat} (I:Inv X pins σ H s) (z:Mut (H x)) (q:e=x\/H e=some (.own x)) (k:∀ b u,b≠e->s.heap.get? b=some u->h'.get? b=some u) (j:∃ u,h'.get? e=some u)
  (new:ObjOk X.prog X.w (upd H x o) h' x o):Inv X pins σ (upd H x o) { s with heap:=h',toks:=t' }:=I.un (Un.write z q k j) (I.hok.write z q k j new)
theorem Inv.pins_of {j:List (aA × Obj)} (I:Inv X pins σ H s) (h:∀ p∈j,s.heap.get? p.1=some p.2/\H p.1=none/\p.1≠X.env.locals/\p.1∉X.fs/\∀ v,p.2.data≠.cell v):Inv X j σ H s:=
 ⟨I.ok,I.os,I.bare,I.base,I.loc,I.cell,I.free,I.freeC,fun p hp=>(F1.mp hp).elim (fun z=>I.pin p (F9 _ z)) (h p),I.hok,I.len⟩
theorem Q83 {N:List Str} (q:N.Nodup) {i j:Nat} {x:Str} (a:N[i]?=some x) (b:N[j]?=some x):i=j:=by
 obtain ⟨h1,e1⟩:=O0.mp a;obtain ⟨h2,e2⟩:=O0.mp b;exact (List.getElem_inj q).mp (e1.trans e2.symm)
theorem Qad {M:Model} {A:aR} {E:aB->aC->Prop} {i:Nat} {x:Str} {v:V} {u:aB} {Q:Unit->aC->Prop} (I:Inv X pins σ H s) (hN:X.N.Nodup) (hi:X.N[i]?=some x) (J:Loc X.env.scope x) (r:RelV v u)
  (h:∀ s',Inv X pins (σ.set i (some v)) H s'->(∃ a,Heap.SameBut a s.heap s'.heap/\(a=X.env.locals\/X.env.cells.lookup x=some a))->Q () s') (hf:X.fn x=true\/X.env.scope.names.lookup x=some .local:=by first | exact .inl rfl | exact .inr rfl | assumption):aI M A (storeName X.env x u) Q E s:=by
 obtain ⟨m,hn,hl⟩:=id I.loc;have a3:(X.env.scope.kind == .class || (X.env.scope.kind == .module && X.env.locals != X.env.globals))=false:=by rw [I.ok.kind]; rfl
 have Y:i < σ.length:=by rw [I.len]; exact (O0.mp hi).1
 have cne:=I.cne;have B:∀ {a:aA} {h':Heap},(∃ o,s.heap.get? a=some o/\H a=none)->Heap.SameBut a s.heap h'->HOk X.prog X.w H h':=fun {a h'} ha hs b ob e=>by
  obtain ⟨_,_,O⟩:=ha;refine (I.hok b ob e).stay (fun c w' G q=>(hs.2 c ?_).trans q) (fun _ q=>q) fun _ _ q=>q
  rintro rfl;rcases G with rfl | G
  ·rw [O] at e; cases e
  ·rw [O] at G; cases G
 rcases J with U | U
 ·refine wpAny_storeName_local U hn (fun h' a9 hs=>?_) a3;obtain ⟨oL,_,_,a8,_⟩:=id hn;refine h _ ⟨I.ok,I.os,I.bare,⟨fun b o e n hb J=>?_,fun b o e n hb J=>?_,I.base.free,fun b o e J=>?_,I.base.tups,I.base.frzs,I.base.tbls⟩,⟨_,a9,fun j y v' e1 e2 e3=>?_⟩,fun y c e=>?_,I.free,I.freeC,fun p hp=>?_,B ⟨oL,a8,I.free⟩ hs,by simpa using I.len⟩ ⟨_,hs,.inl rfl⟩
  ·exact (hs.2 b (E5 (D1 (O7 e) I.ok.above))).trans (I.base.keep b o e n hb J)
  ·obtain ⟨sl,e1⟩:=I.base.slot b o e n hb J;exact ⟨sl,(hs.2 b (E5 (D1 (O7 e) I.ok.above))).trans e1⟩
  ·obtain ⟨o',e1⟩:=I.base.there b o e J;exact ⟨o',(hs.2 b (E5 (D1 (O7 e) I.ok.above))).trans e1⟩
  ·by_cases Z:j=i
   ·subst Z;rw [hi] at e1; cases e1;rw [E3 Y] at e2;cases e2;exact ⟨u,r,.inl ⟨U,by simp⟩⟩
   ·rw [O6 (Ne.symm Z)] at e2;obtain ⟨u',r',q⟩:=hl j y v' e1 e2 e3;refine ⟨u',r',?_⟩;rcases q with ⟨k,e⟩ | ⟨k,c,e,z⟩
    ·refine .inl ⟨k,?_⟩;have:y≠x:=fun e=>Z (Q83 hN e1 (e ▸ hi))
     simp [this,e]
    ·exact .inr ⟨k,c,e,z.sameBut hs (cne y c e)⟩
  ·obtain ⟨w',z⟩:=I.cell y c e;exact ⟨w',z.sameBut hs (cne y c e)⟩
  ·obtain ⟨e,n,ne,nf,d⟩:=I.pin p hp;exact ⟨(hs.2 p.1 ne).trans e,n,ne,nf,d⟩
 ·have a2:X.fn x=true:=by
   rcases hf with z | z
   ·exact z
   ·rw [z] at U; cases U
  obtain ⟨c,G⟩:=I.ok.has x (.inl U);obtain ⟨w',z⟩:=I.cell x c G;refine wpAny_storeName_cell I.ok.kind U G z (fun h' a5 hs=>?_);obtain ⟨oc,a6,a7⟩:=id z;refine h { s with heap:=h' } ⟨I.ok,I.os,I.bare,⟨fun b o e n hb J=>?_,fun b o e n hb J=>?_,I.base.free,fun b o e J=>?_,I.base.tups,I.base.frzs,I.base.tbls⟩,⟨m,hn.sameBut hs (Ne.symm (cne x c G)),fun j y v' e1 e2 e3=>?_⟩,fun y c' e=>?_,I.free,I.freeC,fun p hp=>?_,B ⟨oc,a6,I.freeC x c G⟩ hs,by simpa using I.len⟩ ⟨c,hs,.inr G⟩
  ·exact (hs.2 b (E5 (D1 (O7 e) (I.ok.cab x c a2 G)))).trans (I.base.keep b o e n hb J)
  ·obtain ⟨sl,e1⟩:=I.base.slot b o e n hb J;exact ⟨sl,(hs.2 b (E5 (D1 (O7 e) (I.ok.cab x c a2 G)))).trans e1⟩
  ·obtain ⟨o',e1⟩:=I.base.there b o e J;exact ⟨o',(hs.2 b (E5 (D1 (O7 e) (I.ok.cab x c a2 G)))).trans e1⟩
  ·by_cases Z:j=i
   ·subst Z;rw [hi] at e1; cases e1;rw [E3 Y] at e2;cases e2;exact ⟨u,r,.inr ⟨.inl U,c,G,a5⟩⟩
   ·rw [O6 (Ne.symm Z)] at e2;obtain ⟨u',r',q⟩:=hl j y v' e1 e2 e3;refine ⟨u',r',?_⟩;rcases q with q | ⟨k,c',e,z'⟩
    ·exact .inl q
    ·refine .inr ⟨k,c',e,z'.sameBut hs ?_⟩;rintro rfl;exact Z (Q83 hN e1 (I.ok.inj _ _ _ e G ▸ hi))
  ·by_cases a4:c'=c
   ·subst a4; exact ⟨_,a5⟩
   ·obtain ⟨w2,z2⟩:=I.cell y c' e;exact ⟨w2,z2.sameBut hs a4⟩
  ·obtain ⟨e,n,ne,nf,d⟩:=I.pin p hp;refine ⟨(hs.2 p.1 ?_).trans e,n,ne,nf,d⟩;intro q;rw [q,a6] at e;have q':oc=p.2:=bg e;exact d w' (by rw [<- q']; exact a7)
theorem Q7a {M:Model} {A:aR} {E:aB->aC->Prop} {i:Nat} {x:Str} {v:V} {u:aB} {Q:Unit->aC->Prop} (I:Inv X pins σ H s) (z:X.N.Nodup) (hi:X.N[i]?=some x) (q:Loc X.env.scope x) (r:RelV v u)
  (h:∀ s',Inv X pins (σ.set i (some v)) H s'->Q () s') (j:X.fn x=true\/X.env.scope.names.lookup x=some .local:=by first | exact .inl rfl | exact .inr rfl | assumption):aI M A (storeName X.env x u) Q E s:=
 Qad I z hi q r (fun s' B _=>h s' B) j
theorem Inv.call' {s':aC} {ch:List aA} (I:Inv X pins σ H s) (z:s'.os=s.os) (u:Un (frs X.stack) ch H H' s.heap s'.heap) (hok:HOk X.prog X.w H' s'.heap) (q:AllBare s'.gens)
  (j:∀ b∈ch,(b∈X.ex\/X.s₀.heap.objs.size<=b)/\b≠X.env.locals/\(∀ x c,X.env.cells.lookup x=some c->c≠b)/\∀ p∈X.pn ++ pins,p.1≠b):Inv X pins σ H' s':=by
 obtain ⟨h',g',d',t',o'⟩:=s';have e:o'=s.os:=z;subst e;exact I.call (g':=g') (t':=t') (d':=d') u hok q j
end
abbrev XK:=aB->Option aA->Hp->Prop
abbrev St:=List (Option V)
abbrev VK:=V->Hp->Prop
abbrev TE:=St->Hp->VK->Prop
abbrev TT:=St->Hp->(Bool->Hp->Prop)->Prop
abbrev TA:=St->Hp->(List V->Hp->Prop)->Prop
structure Ends where
 nx:St->Hp->Prop
 rt:VK
 bk:St->Hp->Prop:=fun _ _=>False
 ct:St->Hp->Prop:=fun _ _=>False
abbrev TS:=Ends->St->Hp->Prop
def EP (X:Cx) (pins:List (aA × Obj)) (σ:St) (Q:VK) (u:aB) (s':aC):Prop:=∃ v H',Inv X pins σ H' s'/\RelV v u/\Q v H'
def TP (X:Cx) (pins:List (aA × Obj)) (σ:St) (Q:Bool->Hp->Prop) (b:Bool) (s':aC):Prop:=∃ H',Inv X pins σ H' s'/\Q b H'
def AP (X:Cx) (pins:List (aA × Obj)) (σ:St) (Q:List V->Hp->Prop) (us:List aB) (s':aC):Prop:=∃ vs H',Inv X pins σ H' s'/\Vals vs us/\Q vs H'
def SP (X:Cx) (pins:List (aA × Obj)) (D:Ends) (f:Flow) (s':aC):Prop:=
 match f with
 | .next=>∃ σ' H',Inv X pins σ' H' s'/\D.nx σ' H'
 | .brk=>∃ σ' H',Inv X pins σ' H' s'/\D.bk σ' H'
 | .cont=>∃ σ' H',Inv X pins σ' H' s'/\D.ct σ' H'
 | .ret u=>∃ v σ' H',Inv X pins σ' H' s'/\RelV v u/\D.rt v H'
def PE (X:Cx) (e:aD) (t:TE):Prop:=
 ∀ (pins:List (aA × Obj)) (s:aC) (σ:St) (H:Hp) (Q:VK),Inv X pins σ H s->t σ H Q->aI (aJ X.prog X.w) X.A (aL e X.env) (EP X pins σ Q) X.xe s
def PT (X:Cx) (e:aD) (t:TT):Prop:=
 ∀ (pins:List (aA × Obj)) (s:aC) (σ:St) (H:Hp) (Q:Bool->Hp->Prop),Inv X pins σ H s->t σ H Q->aI (aJ X.prog X.w) X.A (isTrue e X.env (aL e X.env)) (TP X pins σ Q) X.xe s
def PW (X:Cx) (e:aD) (t:TT):Prop:=
 ∀ (whole:Sem aB) (pins:List (aA × Obj)) (s:aC) (σ:St) (H:Hp) (Q:Bool->Hp->Prop),Inv X pins σ H s->t σ H Q->aI (aJ X.prog X.w) X.A (isTrue e X.env whole) (TP X pins σ Q) X.xe s
def PA (X:Cx) (es:List aD) (t:TA):Prop:=
 ∀ (pos:Pos) (pins:List (aA × Obj)) (s:aC) (σ:St) (H:Hp) (Q:List V->Hp->Prop),Inv X pins σ H s->t σ H Q->aI (aJ X.prog X.w) X.A (spliced (aU pos (aO es X.env))) (AP X pins σ Q) X.xe s
def PS (X:Cx) (st:aM) (t:TS):Prop:=
 ∀ (pins:List (aA × Obj)) (s:aC) (σ:St) (H:Hp) (D:Ends),Inv X pins σ H s->t D σ H->aI (aJ X.prog X.w) X.A (exec st X.env) (SP X pins D) X.xe s
def PSs (X:Cx) (st:List aM) (t:TS):Prop:=
 ∀ (pins:List (aA × Obj)) (s:aC) (σ:St) (H:Hp) (D:Ends),Inv X pins σ H s->t D σ H->aI (aJ X.prog X.w) X.A (execs st X.env) (SP X pins D) X.xe s
theorem thn {α:Type} {t:Sem α} {Q j:α->aC->Prop} {M:Model} {A:aR} {E:aB->aC->Prop} {s:aC} (h:aI M A t Q E s) (q:∀ a s,Q a s->j a s):aI M A t j E s:=ad h q fun _ _ x=>x
section
variable {X:Cx}
def Qrx (i:Nat):TE:=fun σ H Q=>∃ v,σ[i]?=some (some v)/\Q v H
def tC (v:V):TE:=fun _ H Q=>Q v H
theorem Qk1 {i:Nat} {x:Str} {pos:Pos} (U:X.N[i]?=some x) (G:Vis X.env.scope x) (hd:(x == ("__debug__" : Str))=false:=by decide) (z:(x == ("__classdict__" : Str))=false:=by decide):PE X (.Name x pos) (Qrx i):=by
 intro pins s σ H Q I h;obtain ⟨v,e,h⟩:=h;obtain ⟨m,Y,J⟩:=I.loc;obtain ⟨u,r,l⟩:=J i x v U e G;have fin:EP X pins σ Q u s:=⟨v,H,I,r,h⟩;rcases l with ⟨q,O⟩ | ⟨q,c,B,j⟩
 ·exact wpAny_Name (wpAny_loadName_local I.ok.kind q Y O fin) hd
 ·rcases q with q | q
  ·exact wpAny_Name (wpAny_loadName_cell I.ok.kind q B j fin) hd
  ·exact wpAny_Name (wpAny_loadName_free I.ok.kind q B j fin z) hd
theorem Qsq {i j pos}:PE X (.Constant (.int i) j pos) (tC (.int i)):=fun _ _ _ H _ I h=>wpAny_Constant_int ⟨.int i,H,I.tok _,⟨_,rfl⟩,h⟩
theorem Qvs {b j pos}:PE X (.Constant (.bool b) j pos) (tC (.bl b)):=fun _ _ _ H _ I h=>Constant_bool ⟨.bl b,H,I,rfl,h⟩
theorem Q1u {x j pos}:PE X (.Constant (.str x) j pos) (tC (.str x)):=fun _ _ _ H _ I h=>Calls.Constant_str ⟨.str x,H,I.tok _,⟨_,rfl⟩,h⟩
def Gl (X:Cx) (x:Str):Prop:=X.env.kindOf x=some .globalImplicit
theorem zi {E:aB->aC->Prop} {pins:List (aA × Obj)} {s:aC} {σ:St} {H:Hp} {x:Str} {u:aB} {pos:Pos} {Q:aB->aC->Prop} (I:Inv X pins σ H s) (q:Gl X x) (j:X.mg x=some u) (h:Q u s)
  (hd:(x == ("__debug__" : Str))=false:=by decide):aI (aJ X.prog X.w) X.A (aL (.Name x pos) X.env) Q E s:=
 Calls.Name_function_global I.ok.kind q (Calls.loadGlobal_global (by rw [I.ok.glob]; exact I.mod.glob.keeps I.bk) j h) hd
theorem Q3v {E:aB->aC->Prop} {pins:List (aA × Obj)} {s:aC} {σ:St} {H:Hp} {x:Str} {u:aB} {pos:Pos} {Q:aB->aC->Prop} (I:Inv X pins σ H s) (z:Gl X x) (q:X.mg x=none) (j:aa x=some u) (h:Q u s)
  (B:x≠"__name__" := by decide) (hd:(x == ("__debug__" : Str))=false:=by decide):aI (aJ X.prog X.w) X.A (aL (.Name x pos) X.env) Q E s:=by
 obtain ⟨mb,h1,h2⟩:=I.mod.blt;exact Calls.Name_function_global I.ok.kind z (Calls.loadGlobal_builtin (by rw [I.ok.glob]; exact I.mod.glob.keeps I.bk) q (by rw [I.ok.blt]; exact h1.keeps I.bk) ((h2 x B).trans j) h) hd
theorem Qpf {x:Str} {v:V} {u:aB} {pos:Pos} (q:Gl X x) (j:X.mg x=some u) (r:RelV v u) (hd:(x == ("__debug__" : Str))=false:=by decide):PE X (.Name x pos) (tC v):=
 fun _ _ _ H _ I h=>zi I q j ⟨v,H,I,r,h⟩ hd
theorem Qpi {x:Str} {v:V} {u:aB} {pos:Pos} (z:Gl X x) (q:X.mg x=none) (j:aa x=some u) (r:RelV v u) (B:x≠"__name__" := by decide) (hd:(x == ("__debug__" : Str))=false:=by decide):PE X (.Name x pos) (tC v):=
 fun _ _ _ H _ I h=>Q3v I z q j ⟨v,H,I,r,h⟩ B hd
variable {a b:aD} {ta tb:TE} {pos:Pos}
def tB (t:TE):TT:=fun σ H Q=>t σ H fun x H1=>∃ c,x=.bl c/\Q c H1
theorem Qsb {e:aD} {t:TE} (h:PE X e t) (z:∀ j,isTrue e X.env j=(do let v <- j; standAt e.pos; ag [v] (truthy v)):=by intro _; rfl):PT X e (tB t):=by
 intro pins s σ H Q I B;refine isTrue_plain (thn (h pins s σ H _ I B) fun v s1 ⟨x,H1,J,G,q1⟩=>?_) (z _)
 obtain ⟨d,rfl,q⟩:=q1;cases G;exact am ⟨H1,J,q⟩
variable {tA tB':TT} {rest:List aD}
def Qye (t u:TT):TT:=fun σ H Q=>t σ H fun c H1=>if c=true then u σ H1 Q else Q false H1
def tOr (t u:TT):TT:=fun σ H Q=>t σ H fun c H1=>if c=true then Q true H1 else u σ H1 Q
def Qy9 (t:TT):TT:=fun σ H Q=>t σ H fun c H1=>Q (!c) H1
theorem Qny (j:PT X a tA):PW X (.BoolOp .And [a] pos) tA:=by
 intro q pins s σ H Q I h;refine isTrue_and (thn (j pins s σ H Q I h) fun c s1 e=>?_)
 cases c with
 | true=>exact isTrue_and_nil e
 | false=>exact e
theorem Qs9 (j:PT X a tA):PW X (.BoolOp .Or [a] pos) tA:=by
 intro q pins s σ H Q I h;refine isTrue_or (thn (j pins s σ H Q I h) fun c s1 e=>?_)
 cases c with
 | false=>exact isTrue_or_nil e
 | true=>exact e
theorem Qsa (B:PT X a tA) (q:PW X (.BoolOp .And (b :: rest) pos) tB'):PW X (.BoolOp .And (a :: b :: rest) pos) (Qye tA tB'):=by
 intro z pins s σ H Q I h;refine isTrue_and (thn (B pins s σ H _ I h) fun c s1 ⟨H1,j,q1⟩=>?_)
 cases c with
 | true=>exact q z pins s1 σ H1 Q j q1
 | false=>exact ⟨H1,j,q1⟩
theorem Qvg (B:PT X a tA) (q:PW X (.BoolOp .Or (b :: rest) pos) tB'):PW X (.BoolOp .Or (a :: b :: rest) pos) (tOr tA tB'):=by
 intro z pins s σ H Q I h;refine isTrue_or (thn (B pins s σ H _ I h) fun c s1 ⟨H1,j,q1⟩=>?_)
 cases c with
 | true=>exact ⟨H1,j,q1⟩
 | false=>exact q z pins s1 σ H1 Q j q1
theorem Qsc (j:PT X a tA):PT X (.UnaryOp .Not a pos) (Qy9 tA):=by
 intro pins s σ H Q I h;exact isTrue_not (j pins s σ H (fun c H1=>Q (!c) H1) I h)
def Qv5 (ta tb:TE):TE:=fun σ H Q=>ta σ H fun x H1=>∃ c,x=.bl c/\if c=true then tb σ H1 Q else Q (.bl false) H1
def Qy8 (ta tb:TE):TE:=fun σ H Q=>ta σ H fun x H1=>∃ c,x=.bl c/\if c=true then Q (.bl true) H1 else tb σ H1 Q
def Quw (ta:TE):TE:=fun σ H Q=>ta σ H fun x H1=>∃ c,x=.bl c/\Q (.bl (!c)) H1
theorem Qsn {op} {t:TE} (h:PE X a t):PE X (.BoolOp op [a] pos) t:=fun pins s σ H Q I j=>BoolOp_one (h pins s σ H Q I j)
theorem Qss (z:PE X a ta) (q:PE X (.BoolOp .And (b :: rest) pos) tb):PE X (.BoolOp .And (a :: b :: rest) pos) (Qv5 ta tb):=by
 intro pins s σ H Q I h;refine BoolOp_and (thn (z pins s σ H _ I h) fun v s1 ⟨x,H1,j,B,q1⟩=>?_)
 obtain ⟨c,rfl,q1⟩:=q1;cases B;refine am ?_;cases c with
 | true=>exact q pins s1 σ H1 Q j q1
 | false=>exact ⟨.bl false,H1,j,rfl,q1⟩
theorem Qvn (z:PE X a ta) (q:PE X (.BoolOp .Or (b :: rest) pos) tb):PE X (.BoolOp .Or (a :: b :: rest) pos) (Qy8 ta tb):=by
 intro pins s σ H Q I h;refine BoolOp_or (thn (z pins s σ H _ I h) fun v s1 ⟨x,H1,j,B,q1⟩=>?_)
 obtain ⟨c,rfl,q1⟩:=q1;cases B;refine am ?_;cases c with
 | false=>exact q pins s1 σ H1 Q j q1
 | true=>exact ⟨.bl true,H1,j,rfl,q1⟩
theorem Qsp (q:PE X a ta):PE X (.UnaryOp .Not a pos) (Quw ta):=by
 intro pins s σ H Q I h;refine UnaryOp_ (thn (q pins s σ H _ I h) fun v s1 ⟨x,H1,j,z,q1⟩=>?_)
 obtain ⟨c,rfl,q1⟩:=q1;cases z;exact not_of (am ⟨.bl (!c),H1,j,rfl,q1⟩)
end
def SqL (K:bQ) (H:Hp) (a:aA) (xs:List V):Prop:=
 Rd H a (.lst xs) \/
  ∃ (o:Obj) (its:Array aB) (n:Nat),K.lookup a=some o/\o.cls=.type "list" /\ o.dict=none/\o.data=.seq its n/\its.size<=sizeLine/\Vals xs its.toList
def SqT (K:bQ) (H:Hp) (a:aA) (xs:List V):Prop:=
 Rd H a (.tup xs) \/
  ∃ (o:Obj) (its:Array aB) (n:Nat),K.lookup a=some o/\o.cls=.type "tuple" /\ o.data=.seq its n/\its.size<=sizeLine/\Vals xs its.toList
def Qz4:aB->Option V
 | .none=>some .non
 | .bool b=>some (.bl b)
 | .int i _=>some (.int i)
 | .str x _=>some (.str x)
 | .bytes b _=>some (.byt b)
 | .float b _=>some (.flt b)
 | .ref a=>some (.ref a)
 | .type n=>some (.ty n)
 | _=>none
theorem RelV.abs {x:V} {u:aB} (r:RelV x u):Qz4 u=some x:=by
 cases x with
 | non=>cases r; rfl
 | bl _=>cases r; rfl
 | int _=>obtain ⟨t,rfl⟩:=r; rfl
 | str _=>obtain ⟨t,rfl⟩:=r; rfl
 | byt _=>obtain ⟨t,rfl⟩:=r; rfl
 | flt _=>obtain ⟨t,rfl⟩:=r; rfl
 | ref _=>cases r; rfl
 | ty _=>cases r; rfl
theorem RelV.inj {x y:V} {u:aB} (r:RelV x u) (q:RelV y u):x=y:=bg (r.abs.symm.trans q.abs)
theorem Vals.inj:∀ {xs ys:List V} {us:List aB},Vals xs us->Vals ys us->xs=ys
 | _,_,_,.nil,.nil=>rfl
 | _,_,_,.cons r t,.cons j t'=>by rw [r.inj j,Vals.inj t t']
section
variable {X:Cx} {pins:List (aA × Obj)} {σ:St} {H:Hp} {s:aC} {a:aA} {xs ys:List V}
theorem SqL.of {K:bQ} (h:H a=some (.lst xs)):SqL K H a xs:=.inl (.inl h)
theorem SqT.of {K:bQ} (h:H a=some (.tup xs)):SqT K H a xs:=.inl (.inl h)
theorem Inv.list (I:Inv X pins σ H s) (h:SqL X.K H a xs):∃ its:List aB,Vals xs its/\PlainL s.heap a its.toArray/\xs.length<=sizeLine:=by
 rcases h with h | ⟨o,its,n,j,q,hd,hs,hz,r⟩
 ·obtain ⟨z,its,n,r,e⟩:=h.ok I.hok;exact ⟨its,r,⟨_,n,e,rfl,rfl,rfl⟩,z⟩
 ·refine ⟨its.toList,r,⟨o,n,I.kIn a o j,q,hd,by simpa using hs⟩,?_⟩;have e:=r.length;simp only [eE] at e;omega
theorem Inv.tuple (I:Inv X pins σ H s) (h:SqT X.K H a xs):∃ its:List aB,Vals xs its/\IsTup s.heap a its.toArray/\xs.length<=sizeLine:=by
 rcases h with h | ⟨o,its,n,j,q,hs,hz,r⟩
 ·obtain ⟨z,its,r,p⟩:=h.ok I.hok;exact ⟨its,r,p,z⟩
 ·refine ⟨its.toList,r,⟨o,I.kIn a o j,q,n,by simpa using hs⟩,?_⟩;have e:=r.length;simp only [eE] at e;omega
theorem Inv.list_inj (I:Inv X pins σ H s) (h:SqL X.K H a xs) (h':SqL X.K H a ys):xs=ys:=by
 obtain ⟨its,r,⟨o,n,e,_,_,d⟩,_⟩:=I.list h;obtain ⟨its',z,⟨o',B,j,_,_,d'⟩,_⟩:=I.list h';rw [e] at j; cases j;rw [d] at d';injection d' with q _
 have:its=its':=by simpa using congrArg fQ q
 subst this;exact r.inj z
theorem Inv.tuple_inj (I:Inv X pins σ H s) (h:SqT X.K H a xs) (h':SqT X.K H a ys):xs=ys:=by
 obtain ⟨its,r,⟨o,e,_,n,d⟩,_⟩:=I.tuple h;obtain ⟨its',z,⟨o',j,_,B,d'⟩,_⟩:=I.tuple h';rw [e] at j; cases j;rw [d] at d';injection d' with q _
 have:its=its':=by simpa using congrArg fQ q
 subst this;exact r.inj z
end
abbrev Cx.wish (X:Cx) (E:aB->aC->Prop):Cx:={ X with xe:=E }
abbrev Cx.nox (X:Cx):Cx:=X.wish fun _ _=>False
theorem Cx.Ok.wish {X:Cx} (ok:X.Ok) (E:aB->aC->Prop):(X.wish E).Ok:=
 ⟨ok.mod,ok.kind,ok.glob,ok.blt,ok.above,ok.inj,ok.has,ok.cab,ok.hd,ok.frames,ok.stk,ok.exf,ok.bs,ok.bsz,ok.noex,ok.exfs,ok.funs,ok.frf⟩
theorem Cx.Ok.unwish {X:Cx} {E:aB->aC->Prop} (ok:(X.wish E).Ok):X.Ok:=
 ⟨ok.mod,ok.kind,ok.glob,ok.blt,ok.above,ok.inj,ok.has,ok.cab,ok.hd,ok.frames,ok.stk,ok.exf,ok.bs,ok.bsz,ok.noex,ok.exfs,ok.funs,ok.frf⟩
section
variable {X:Cx} {pins:List (aA × Obj)} {σ:St} {H:Hp} {s:aC} {E:aB->aC->Prop}
theorem Inv.wish (I:Inv X pins σ H s) (E:aB->aC->Prop):Inv (X.wish E) pins σ H s:=⟨I.ok.wish E,I.os,I.bare,I.base,I.loc,I.cell,I.free,I.freeC,I.pin,I.hok,I.len⟩
theorem Inv.unwish (I:Inv (X.wish E) pins σ H s):Inv X pins σ H s:=⟨I.ok.unwish,I.os,I.bare,I.base,I.loc,I.cell,I.free,I.freeC,I.pin,I.hok,I.len⟩
theorem SP.unwish {D:Ends} {f:Flow} {s':aC} (h:SP (X.wish E) pins D f s'):SP X pins D f s':=by
 cases f with
 | next=>obtain ⟨j,H',I,q⟩:=h; exact ⟨j,H',I.unwish,q⟩
 | brk=>obtain ⟨j,H',I,q⟩:=h; exact ⟨j,H',I.unwish,q⟩
 | cont=>obtain ⟨j,H',I,q⟩:=h; exact ⟨j,H',I.unwish,q⟩
 | ret u=>obtain ⟨v,j,H',I,r,q⟩:=h; exact ⟨v,j,H',I.unwish,r,q⟩
theorem PSs.nox {st:List aM} {t:TS} (h:PSs X.nox st t):PSs X st t:=fun pins s σ H D I j=>
 ad (h pins s σ H D (I.wish _) j) (fun _ _ q=>q.unwish) fun _ _ z=>False.elim z
end
section
variable {X:Cx} {st:aM} {rest:List aM} {t u:TS} {e:aD} {te:TE} {pos:Pos}
def Quy:TS:=fun D σ H=>D.nx σ H
def Qy7 (t u:TS):TS:=fun D σ H=>t { D with nx:=u D } σ H
theorem Qp3:PSs X [] Quy:=fun _ _ σ H _ I h=>wpAny_execs_nil ⟨σ,H,I,h⟩
theorem Qd5 (h1:PS X st t) (h2:PSs X rest u):PSs X (st :: rest) (Qy7 t u):=by
 intro pins s σ H D I h;refine wpAny_execs_cons (thn (h1 pins s σ H { D with nx:=u D } I h) fun f s1 q=>?_)
 cases f with
 | next=>
  obtain ⟨j,H',z,q⟩:=q;exact h2 pins s1 j H' D z q
 | ret v=>exact q
 | brk=>exact q
 | cont=>exact q
theorem Qbs (h1:PS X st t):PSs X [st] t:=by
 intro pins s σ H D I h;refine wpAny_execs_cons (thn (h1 pins s σ H D I h) fun f s1 q=>?_)
 cases f with
 | next=>exact wpAny_execs_nil q
 | ret v=>exact q
 | brk=>exact q
 | cont=>exact q
theorem Inv.quiet {pins:List (aA × Obj)} {σ:St} {H:Hp} {s:aC} (I:Inv X pins σ H s):interactive X.env=false:=by simp [interactive,I.ok.kind]
def Qv0 (te:TE):TS:=fun D σ H=>te σ H fun _ H1=>D.nx σ H1
theorem Qfy (j:PE X e te) (hs:swapsWith e none pos.line X.env=pure false:=by rfl):PS X (.Expr e pos) (Qv0 te):=by
 intro pins s σ H D I h;exact wpAny_Expr_any (thn (j pins s σ H _ I h) fun v s1 ⟨x,H1,q,z,q1⟩=>⟨σ,H1,q,q1⟩) I.quiet hs
def Quu (te:TE):TS:=fun D σ H=>te σ H D.rt
theorem Qju (j:PE X e te):PS X (.Return (some e) pos) (Quu te):=by
 intro pins s σ H D I h;exact wpAny_Return_some (thn (j pins s σ H _ I h) fun v s1 ⟨x,H1,z,q,q1⟩=>⟨x,σ,H1,z,q,q1⟩)
def Qyb (c:TT) (t u:TS):TS:=fun D σ H=>c σ H fun b H1=>if b=true then t D σ H1 else u D σ H1
theorem Qvi {c:aD} {a b:List aM} {tc:TT} (B:PT X c tc) (z:PSs X a t) (q:PSs X b u):PS X (.If c a b pos) (Qyb tc t u):=by
 intro pins s σ H D I h;refine wpAny_If (thn (B pins s σ H _ I h) fun d s1 ⟨H1,j,q1⟩=>?_)
 cases d with
 | true=>exact z pins s1 σ H1 D j q1
 | false=>exact q pins s1 σ H1 D j q1
end
abbrev TG:=V->St->Hp->(St->Hp->Prop)->Prop
abbrev TGs:=List V->St->Hp->(St->Hp->Prop)->Prop
def PG (X:Cx) (target:aD) (t:TG):Prop:=
 ∀ (pins:List (aA × Obj)) (s:aC) (σ:St) (H:Hp) (v:V) (u:aB) (Q:St->Hp->Prop),Inv X pins σ H s->RelV v u->t v σ H Q ->
  aI (aJ X.prog X.w) X.A (assign target X.env u) (fun _ s'=>∃ σ' H',Inv X pins σ' H' s'/\Q σ' H') X.xe s
def PGs (X:Cx) (ts:List aD) (t:TGs):Prop:=
 ∀ (pins:List (aA × Obj)) (s:aC) (σ:St) (H:Hp) (vs:List V) (us:List aB) (Q:St->Hp->Prop),Inv X pins σ H s->Vals vs us->t vs σ H Q ->
  aI (aJ X.prog X.w) X.A (assignInOrder ((ak ts X.env).map (·.2)) us) (fun _ s'=>∃ σ' H',Inv X pins σ' H' s'/\Q σ' H') X.xe s
abbrev Qu7:=V->V->V->Hp->(Hp->Prop)->Prop
def Qx5 (X:Cx) (t:Qu7):Prop:=
 ∀ (pins:List (aA × Obj)) (s:aC) (σ:St) (H:Hp) (o i v:V) (ov iv u:aB) (Q:Hp->Prop),Inv X pins σ H s->RelV o ov->RelV i iv->RelV v u->t o i v H Q ->
  aI (aJ X.prog X.w) X.A (setItem ov iv u) (fun _ s'=>∃ H',Inv X pins σ H' s'/\Q H') X.xe s
section
variable {X:Cx} {pos:Pos}
def Qe1 (i:Nat):TG:=fun v σ H Q=>Q (σ.set i (some v)) H
theorem Qpb {i:Nat} {x:Str} (z:X.N.Nodup) (hi:X.N[i]?=some x) (q:Loc X.env.scope x) (j:X.fn x=true\/X.env.scope.names.lookup x=some .local:=by first | exact .inl rfl | exact .inr rfl | assumption):PG X (.Name x pos) (Qe1 i):=by
 intro pins s σ H v u Q I r h;exact wpAny_assign_Name (Q7a I z hi q r (fun s' B=>⟨_,H,B,h⟩) j)
def Qwm:TGs:=fun vs σ H Q=>vs=[]/\Q σ H
def Qm1 (t:TG) (u:TGs):TGs:=fun vs σ H Q=>∃ v r,vs=v :: r/\t v σ H fun σ' H'=>u r σ' H' Q
theorem Qp9:PGs X [] Qwm:=by
 intro pins s σ H vs us Q I r h;obtain ⟨e,h⟩:=h;subst e;cases r;exact assignInOrder_nil ⟨σ,H,I,h⟩
theorem Qjz {e:aD} {es:List aD} {t:TG} {u:TGs} (h1:PG X e t) (h2:PGs X es u)
  (hs:(ak (e :: es) X.env).map (·.2)=assign e X.env :: (ak es X.env).map (·.2):=by rfl):PGs X (e :: es) (Qm1 t u):=by
 intro pins s σ H vs us Q I r h;obtain ⟨v,B,e1,h⟩:=h;subst e1;cases r with
 | cons r q=>
  rw [hs];refine assignInOrder_cons (thn (h1 pins s σ H _ _ _ I r h) fun _ s1 ⟨j,H1,z,q1⟩=>?_)
  exact h2 pins s1 j H1 _ _ Q z q q1
def Qwk (K:bQ) (n:Nat) (t:TGs):TG:=fun v σ H Q=>∃ a xs,v=.ref a/\SqT K H a xs/\xs.length=n/\t xs σ H Q
theorem Qsj {es:List aD} {k:Nat} {t:TGs} {n:Nat} (Z:X.calm=true) (h:PGs X es t)
  (J:(ak es X.env).length=n:=by rfl) (j:(ak es X.env).findIdx? (·.1)=none:=by rfl):PG X (.Tuple es k pos) (Qwk X.K n t):=by
 intro pins s σ H v u Q I r q;obtain ⟨a,xs,e1,O,B,q⟩:=q;subst e1;cases r;obtain ⟨its,z,U,hz⟩:=I.tuple O;refine assign_Tuple_tuple (I.ok.hd Z) U (by simp [J,<- B,z.length]) j fun h' G=>?_
 have Y:Inv X pins σ H { s with heap:=h' }:=I.kept (t':=s.toks) fun b o e=>G b o (E5 (O7 e)) e
 exact h pins _ σ H xs _ Q Y (by simpa using z) q
def Qyz (to ti:TE) (t:Qu7):TG:=fun v σ H Q=>to σ H fun o H1=>ti σ H1 fun i H2=>t o i v H2 fun H3=>Q σ H3
theorem Qsk {o i:aD} {to z:TE} {t:Qu7} (B:PE X o to) (hi:PE X i z) (hs:Qx5 X t)
  (O:∀ v,assign (.Subscript o i pos) X.env v=(do
   let j <- ag [v] (aL o X.env)
   let q <- ag [v,j] (aL i X.env)
   standAt pos
   ag [v,j,q] (setItem j q v)
   release [v,j,q] []):=by intro _; rfl):PG X (.Subscript o i pos) (Qyz to z t):=by
 intro pins s σ H v u Q I r h;rw [O];refine aF (aw (thn (B pins s σ H _ I h) fun j s1 ⟨x,H1,I1,U,q1⟩=>?_))
 refine aF (aw (thn (hi pins s1 σ H1 _ I1 q1) fun q s2 ⟨y,H2,J,Z,q2⟩=>?_))
 refine aF (wpAny_standAt (aF (aw (thn (hs pins s2 σ H2 x y v j q u _ J U Z r q2) fun _ s3 ⟨G,Y,q3⟩=>?_))))
 exact wpAny_release ⟨σ,G,Y,q3⟩
def Qs0 (te:TE) (g:TG):TS:=fun D σ H=>te σ H fun x H1=>g x σ H1 D.nx
theorem Qjw {tg e:aD} {te:TE} {g:TG} (j:PE X e te) (z:PG X tg g) (hs:swapsWithSole [tg] e pos.line X.env=pure false:=by rfl) (B:swappedStores [tg] e X.env=pure none:=by rfl)
  (h1:(ak [tg] X.env).map (·.2)=[assign tg X.env]:=by rfl):PS X (.Assign [tg] e pos) (Qs0 te g):=by
 intro pins s σ H D I h;refine wpAny_Assign_stores (thn (j pins s σ H _ I h) fun v s1 ⟨x,H1,J,G,q1⟩=>?_) hs B
 rw [h1];exact thn (z pins s1 σ H1 x v _ J G q1) fun _ s2 q=>q
theorem Qsd {i:Nat} {x:Str} {e:aD} {te:TE} {pos':Pos} (B:X.N.Nodup) (hi:X.N[i]?=some x) (z:Loc X.env.scope x) (j:PE X e te) (hs:swapsWith e (some (.Name x pos')) pos.line X.env=pure false:=by rfl) (q:X.fn x=true\/X.env.scope.names.lookup x=some .local:=by first | exact .inl rfl | exact .inr rfl | assumption) :
  PS X (.Assign [.Name x pos'] e pos) (Qs0 te (Qe1 i)):=by
 intro pins s σ H D I h;refine wpAny_Assign_Name (thn (j pins s σ H _ I h) fun v s1 ⟨y,H1,O,J,q1⟩=>?_) hs
 exact Q7a O B hi z J (fun s2 G=>⟨_,H1,G,q1⟩) q
end
section
variable {X:Cx} {pos:Pos}
def Qrw (c:TT) (tb:TS):TS:=fun D σ H=>∃ W:Nat->St->Hp->Prop,(∃ m,W m σ H)/\∀ m σ H,W m σ H ->
 c σ H fun b H1=>if b=true then ∃ N:St->Hp->Prop,(∀ σ' H',N σ' H'->∃ m',m' < m/\W m' σ' H')/\tb { D with nx:=N,ct:=N,bk:=D.nx } σ H1 else D.nx σ H1
theorem Qjs {c:aD} {body:List aM} {tc:TT} {tb:TS} (hp:PassesOwn (aJ X.prog X.w) X.A X.env X.xe) (hc:PT X c tc) (hb:PSs X body tb):PS X (.While c body [] pos) (Qrw tc tb):=by
 intro pins s σ H D I h;obtain ⟨W,⟨m0,w0⟩,turn⟩:=h;refine wpAny_While (codeAny_whileLoop (fun n s'=>∃ z H',Inv X pins z H' s'/\W n z H') ?_ m0 ⟨σ,H,I,w0⟩);rintro n s1 ⟨q,H1,I1,w1⟩;refine ay hp (thn (hc pins s1 q H1 _ I1 (turn n q H1 w1)) fun b s2 ⟨H2,I2,q2⟩=>?_)
 cases b with
 | true=>
  obtain ⟨N,Z,q2⟩:=q2;rw [bK rfl];refine ay hp (thn (hb pins s2 q H2 _ I2 q2) fun f s3 q3=>?_)
  cases f with
  | next=>
   obtain ⟨j,B,Y,O⟩:=q3;obtain ⟨J,G,U⟩:=Z j B O;exact ⟨J,G,j,B,Y,U⟩
  | cont=>
   obtain ⟨j,B,Y,O⟩:=q3;obtain ⟨J,G,U⟩:=Z j B O;exact ⟨J,G,j,B,Y,U⟩
  | brk=>exact q3
  | ret v=>exact q3
 | false=>
  rw [bL D8];exact wpAny_execs_nil ⟨q,H2,I2,q2⟩
end
structure It where
 go:Nat->Hp->Prop
 yld:Nat->Hp->V->Hp->Prop
 stop:Nat->Hp->Prop
def Q98 (X:Cx) (pins:List (aA × Obj)) (H:Hp) (b:aA):Prop:=
 H b=none/\b≠X.env.locals/\b∉X.fs/\(b∈X.ex\/X.s₀.heap.objs.size<=b)/\(∀ x c,X.env.cells.lookup x=some c->c≠b)/\∀ p∈X.pn ++ pins,p.1≠b
theorem Inv.fpOk {X:Cx} {pins:List (aA × Obj)} {σ:St} {H H':Hp} {s:aC} {b:aA} (I:Inv X pins σ H s) (j:s.heap.objs.size<=b) (B:H' b=none):Q98 X pins H' b:=by
 refine ⟨B,bw (D1 I.lt j),I.nofs j,.inr (F0 I.sz j),fun x c e z=>?_,fun p hp z=>?_⟩
 ·obtain ⟨v,q⟩:=I.cell x c e;exact absurd (D1 q.lt (by rw [z]; exact j)) (bq _)
 ·exact absurd (D1 (O7 (I.pin p hp).1) (by rw [z]; exact j)) (bq _)
structure Turn (P:aN) (w:aK) (K:bQ) (tg:aD) (J:It) (fp:List aA) (it:aA) (tn:Nat->Heap->Prop):Prop where
 mem:it∈fp
 obj:∀ i h,tn i h->∀ b∈fp,∃ o,h.get? b=some o/\∀ v,o.data≠.cell v
 keep:∀ i h h',tn i h->(∀ b∈fp,∀ o,h.get? b=some o->h'.get? b=some o)->tn i h'
 item:∀ (X:Cx),X.prog=P->X.w=w->X.K=K->X.calm=true->∀ (i:Nat) (pins:List (aA × Obj)) (s:aC) (σ:St) (H:Hp) (E:aB->aC->Prop),Inv X pins σ H s->(∀ b∈fp,Q98 X pins H b)->tn i s.heap->J.go i H ->
  aI (aJ P w) X.A (ar (.ref it)) (fun r s1=>∃ u,r=some u /\
   aI (aJ P w) X.A (letOwnedTupleGo tg (.ref it) u) (fun _ s2=>∃ x H',Inv X pins σ H' s2/\RelV x u/\J.yld i H x H'/\tn (i + 1) s2.heap/\∀ b∈fp,H' b=none) E s1) E s
 done:∀ (X:Cx),X.prog=P->X.w=w->X.K=K->X.calm=true->∀ (i:Nat) (pins:List (aA × Obj)) (s:aC) (σ:St) (H:Hp) (E:aB->aC->Prop),Inv X pins σ H s->(∀ b∈fp,Q98 X pins H b)->tn i s.heap->J.stop i H ->
  aI (aJ P w) X.A (ar (.ref it)) (fun r s1=>r=none/\Inv X pins σ H s1) E s
 self:∀ (A:aR) (i:Nat) (s:aC) (Q:aB->aC->Prop) (E:aB->aC->Prop),tn i s.heap->Q (.ref it) s->aI (aJ P w) A (pyIter (.ref it)) Q E s
abbrev TI:=St->Hp->(It->Hp->Prop)->Prop
def PIE (X:Cx) (pins:List (aA × Obj)) (σ:St) (tg:aD) (R:It->Hp->Prop) (itv:aB) (s2:aC):Prop:=
 ∃ (it:aA) (fp:List aA) (tn:Nat->Heap->Prop) (J:It) (H':Hp),itv=.ref it/\Inv X pins σ H' s2/\Turn X.prog X.w X.K tg J fp it tn/\tn 0 s2.heap/\(∀ b∈fp,Q98 X pins H' b)/\R J H'
def PI (X:Cx) (tg iter:aD) (wi:TI):Prop:=
 ∀ (pins:List (aA × Obj)) (s:aC) (σ:St) (H:Hp) (R:It->Hp->Prop),Inv X pins σ H s->wi σ H R ->
  aI (aJ X.prog X.w) X.A (aL iter X.env) (fun v s1=>aI (aJ X.prog X.w) X.A (pyIter v) (PIE X pins σ tg R) X.xe s1) X.xe s
theorem Qkz {M:Model} {A:aR} {E:aB->aC->Prop} {s:aC} {tg:aD} {q:aA} {u:aB} {o:Obj} {n:String} {vs:Array aB} {Q:Unit->aC->Prop} (z:s.heap.get? q=some o) (G:o.cls=.type n) (hd:o.data=.fields vs)
  (B:["enumerate", "zip", "dict_itemiterator", "dict_reverseitemiterator", "odict_iterator", "itertools.zip_longest", "itertools.pairwise"].contains n=false) (j:Q () s):aI M A (letOwnedTupleGo tg (.ref q) u) Q E s:=by
 unfold letOwnedTupleGo;cases tg <;> first
  | exact aS j
  | (cases u <;> first
    | exact aS j
    | (refine aF (wpAny_load z ?_)
       rw [G,hd];show aI M A (if (["enumerate", "zip", "dict_itemiterator", "dict_reverseitemiterator", "odict_iterator", "itertools.zip_longest", "itertools.pairwise"].contains n && vs[0]? == some (aZ _))=true then _ else _) Q E s;rw [bL (by intro h; rw [B,fR] at h; cases h)];exact aS j))
def Itl (K:bQ) (a:aA):It:=
 ⟨fun i H=>∃ xs x,SqL K H a xs/\xs[i]?=some x,fun i H x H'=>H'=H/\∀ xs,SqL K H a xs->xs[i]?=some x,fun i H=>∃ xs,SqL K H a xs/\xs.length<=i⟩
def Itt (K:bQ) (a:aA):It:=
 ⟨fun i H=>∃ xs x,SqT K H a xs/\xs[i]?=some x,fun i H x H'=>H'=H/\∀ xs,SqT K H a xs->xs[i]?=some x,fun i H=>∃ xs,SqT K H a xs/\xs.length<=i⟩
def Itr (lo:Int) (n:Nat):It:=⟨fun i _=>i < n,fun i H x H'=>H'=H/\x=.int (lo + i),fun i _=>n<=i⟩
theorem Qgz {P:aN} {w:aK} {K:bQ} {tg:aD} (a j:aA):Turn P w K tg (Itl K a) [j] j (fun i h=>h.IsListIter j a i) where
 mem:=by simp
 obj:=fun i h st b q=>by
  have e:b=j:=by simpa using q
  subst e;obtain ⟨o,e,c,d⟩:=st;exact ⟨o,e,fun v z=>by rw [d] at z; cases z⟩
 keep:=fun i h h' st k=>st.at fun o e=>k j (by simp) o e
 item:=by
  intro X hP J hK hc i pins s σ H E I B st U;subst hP J hK;obtain ⟨xs,x,G,hx⟩:=U;obtain ⟨its,rv,p,hz⟩:=I.list G;obtain ⟨u,hu,ru⟩:=rv.get hx;obtain ⟨f0,f1,f2,Z,O,Y⟩:=B j (by simp);refine wpAny_pyNext_list_item st p.isList (x:=u) (by simpa using hu) fun h' st' sb=>?_
  have I1:Inv X pins σ H { s with heap:=h' }:=I.turned (t':=s.toks) (fun b o q e=>(sb.2 b q).trans e) f0 f1 Z O Y
  obtain ⟨o,e,c,d⟩:=id st';exact ⟨u,rfl,Qkz (s:={ s with heap:=h' }) e c d (by decide) ⟨x,H,I1,ru,⟨rfl,fun ys hy=>by rw [I.list_inj hy G]; exact hx⟩,st',fun b q=>(B b q).1⟩⟩
 done:=by
  intro X hP J hK hc i pins s σ H E I B st U;subst hP J hK;obtain ⟨xs,G,hx⟩:=U;obtain ⟨its,rv,p,hz⟩:=I.list G;obtain ⟨f0,f1,f2,Z,O,Y⟩:=B j (by simp);have hl:=rv.length;exact wpAny_pyNext_list_end (I.ok.hd hc) st p.isList (by simp; omega) fun h' eb=>⟨rfl,I.turned (t':=s.toks) (fun b o q e=>eb b o q e) f0 f1 Z O Y⟩
 self:=fun _ _ _ _ _ st h=>wpAny_pyIter_listiter st h
theorem Qeg {P:aN} {w:aK} {K:bQ} {tg:aD} (a j:aA):Turn P w K tg (Itt K a) [j] j (fun i h=>h.IsTupleIter j a i) where
 mem:=by simp
 obj:=fun i h st b q=>by
  have e:b=j:=by simpa using q
  subst e;obtain ⟨o,e,c,d⟩:=st;exact ⟨o,e,fun v z=>by rw [d] at z; cases z⟩
 keep:=fun i h h' st k=>st.at fun o e=>k j (by simp) o e
 item:=by
  intro X hP J hK hc i pins s σ H E I B st U;subst hP J hK;obtain ⟨xs,x,G,hx⟩:=U;obtain ⟨its,rv,p,hz⟩:=I.tuple G;obtain ⟨u,hu,ru⟩:=rv.get hx;obtain ⟨f0,f1,f2,Z,O,Y⟩:=B j (by simp);refine wpAny_pyNext_tuple_item st (show s.heap.IsTuple a its.toArray from p) (x:=u) (by simpa using hu) fun h' st' sb=>?_
  have I1:Inv X pins σ H { s with heap:=h' }:=I.turned (t':=s.toks) (fun b o q e=>(sb.2 b q).trans e) f0 f1 Z O Y
  obtain ⟨o,e,c,d⟩:=id st';exact ⟨u,rfl,Qkz (s:={ s with heap:=h' }) e c d (by decide) ⟨x,H,I1,ru,⟨rfl,fun ys hy=>by rw [I.tuple_inj hy G]; exact hx⟩,st',fun b q=>(B b q).1⟩⟩
 done:=by
  intro X hP J hK hc i pins s σ H E I B st U;subst hP J hK;obtain ⟨xs,G,hx⟩:=U;obtain ⟨its,rv,p,hz⟩:=I.tuple G;obtain ⟨f0,f1,f2,Z,O,Y⟩:=B j (by simp);have hl:=rv.length;exact wpAny_pyNext_tuple_end (I.ok.hd hc) st (show s.heap.IsTuple a its.toArray from p) (by simp; omega) fun h' eb=>⟨rfl,I.turned (t':=s.toks) (fun b o q e=>eb b o q e) f0 f1 Z O Y⟩
 self:=fun _ _ _ _ _ st h=>wpAny_pyIter_tupleiter st h
theorem Qeh {P:aN} {w:aK} {K:bQ} {tg:aD} (j:aA) (lo:Int) (n:Nat):Turn P w K tg (Itr lo n) [j] j (fun i h=>IsRangeIter h j (lo + (i:Nat) * 1) ((n:Int) - (i:Nat)) 1) where
 mem:=by simp
 obj:=fun i h st b q=>by
  have e:b=j:=by simpa using q
  subst e;exact ⟨_,st,fun v z=>by
   have z':Data.fields _=Data.cell v:=z;cases z'⟩
 keep:=fun i h h' st k=>k j (by simp) _ st
 item:=by
  intro X hP G hK hc i pins s σ H E I B st O;subst hP G hK;obtain ⟨Z,f1,f2,Y,J,U⟩:=B j (by simp);have W:=Walks.range (prog:=X.prog) (w:=X.w) (I.ok.hd hc) j lo 1 n;refine W.item i s _ _ O st fun v h' tk hv st' kk=>?_
  obtain ⟨t,rfl⟩:=hv;have I1:Inv X pins σ H { s with heap:=h',toks:=tk }:=I.turned (fun b o q e=>kk b o (by simpa using q) e) Z f1 Y J U
  refine ⟨_,rfl,Qkz (s:={ s with heap:=h',toks:=tk }) (n := "range_iterator") st' rfl rfl (by decide) ⟨.int (lo + i),H,I1,⟨t,?_⟩,⟨rfl,rfl⟩,st',fun b q=>(B b q).1⟩⟩
  rw [Int.mul_one]
 done:=by
  intro X hP G hK hc i pins s σ H E I B st O;subst hP G hK;obtain ⟨Z,f1,f2,Y,J,U⟩:=B j (by simp);exact wpAny_pyNext_range_end (I.ok.hd hc) st (by have:n<=i:=O; omega) fun h' eb=>⟨rfl,I.turned (t':=s.toks) (fun b o q e=>eb b o q e) Z f1 Y J U⟩
 self:=fun _ _ _ _ _ st h=>wpAny_pyIter_rangeiter st h
section
variable {X:Cx} {tg:aD}
def Qwf (K:bQ) (tl:TE):TI:=fun σ H R=>tl σ H fun x H1=>∃ a,x=.ref a/\(∃ xs,SqL K H1 a xs)/\R (Itl K a) H1
def Qyy (K:bQ) (tl:TE):TI:=fun σ H R=>tl σ H fun x H1=>∃ a,x=.ref a/\(∃ xs,SqT K H1 a xs)/\R (Itt K a) H1
theorem Qp7 {l:aD} {tl:TE} (z:PE X l tl):PI X tg l (Qwf X.K tl):=by
 intro pins s σ H R I h;refine thn (z pins s σ H _ I h) fun v s1 ⟨x,H1,j,J,q1⟩=>?_
 obtain ⟨a,e,⟨xs,G⟩,q⟩:=q1;subst e;cases J;obtain ⟨its,O,p,hz⟩:=j.list G;refine wpAny_pyIter_list p.isList ?_;refine ⟨s1.heap.objs.size,[s1.heap.objs.size],_,_,H1,rfl,j.kept (t':=s1.toks) fun b o e=>O1 _ e,Qgz a _,⟨_,D6 _ rfl,rfl,rfl⟩,fun b B=>?_,q⟩
 have e:b=s1.heap.objs.size:=by simpa using B
 subst e;exact j.fpOk (O8 _) (j.hok.fresh (O8 _))
theorem Qsi {l:aD} {tl:TE} (z:PE X l tl):PI X tg l (Qyy X.K tl):=by
 intro pins s σ H R I h;refine thn (z pins s σ H _ I h) fun v s1 ⟨x,H1,j,J,q1⟩=>?_
 obtain ⟨a,e,⟨xs,G⟩,q⟩:=q1;subst e;cases J;obtain ⟨its,O,p,hz⟩:=j.tuple G;refine bG (show s1.heap.IsTuple a its.toArray from p) ?_;refine ⟨s1.heap.objs.size,[s1.heap.objs.size],_,_,H1,rfl,j.kept (t':=s1.toks) fun b o e=>O1 _ e,Qeg a _,⟨_,D6 _ rfl,rfl,rfl⟩,fun b B=>?_,q⟩
 have e:b=s1.heap.objs.size:=by simpa using B
 subst e;exact j.fpOk (O8 _) (j.hok.fresh (O8 _))
theorem Qd3 {pins:List (aA × Obj)} {σ:St} {H:Hp} {s:aC} {R:It->Hp->Prop} {E:aB->aC->Prop} {lo hi:Int} {t u v:Tok} {tk:Nat} (I:Inv X pins σ H s) (h1:-(2 ^ 62)<=lo) (h2:lo < 2 ^ 62) (B:-(2 ^ 62)<=hi) (G:hi < 2 ^ 62)
  (q:R (Itr lo (hi - lo).toNat) H):aI (aJ X.prog X.w) X.A (pyIter (.ref s.heap.objs.size)) (PIE X pins σ tg R) E { s with heap:=s.heap.push { cls:=.type "range",data:=.fields #[.int lo t,.int hi u,.int 1 v] },toks:=tk }:=by
 refine wpAny_pyIter_range (IsRange.new ..) (small_one h1 h2 B G) ?_;have j:Inv X pins σ H { s with heap:=s.heap.push { cls:=.type "range",data:=.fields #[.int lo t,.int hi u,.int 1 v] },toks:=tk }:=I.kept fun b o e=>O1 _ e
 refine ⟨(s.heap.push { cls:=.type "range",data:=.fields #[.int lo t,.int hi u,.int 1 v] }).objs.size,[(s.heap.push { cls:=.type "range",data:=.fields #[.int lo t,.int hi u,.int 1 v] }).objs.size],_,_,H,rfl,
  j.kept (t':=tk) fun b o e=>O1 _ e,Qeh _ lo (hi - lo).toNat,?_,fun b z=>?_,q⟩
 ·have e1:lo + ((0:Nat):Int) * 1=lo:=by simp
  have e2:(((hi - lo).toNat:Nat):Int) - ((0:Nat):Int)=Builtin.Range.rangeSize lo hi 1:=by rw [rangeSize_one]; split <;> omega
  show IsRangeIter _ _ (lo + ((0:Nat):Int) * 1) ((((hi - lo).toNat:Nat):Int) - ((0:Nat):Int)) 1;rw [e1,e2];exact D6 _ rfl
 ·have e:b=(s.heap.push { cls:=.type "range",data:=.fields #[.int lo t,.int hi u,.int 1 v] }).objs.size:=by simpa using z
  subst e;exact j.fpOk (O8 _) (j.hok.fresh (O8 _))
def Qwe (ta:TA):TI:=fun σ H R=>ta σ H fun vs H1=>∃ j:Int,vs=[.int j]/\-(2 ^ 62)<=j/\j < 2 ^ 62/\R (Itr 0 j.toNat) H1
def Qwd (ta:TA):TI:=fun σ H R=>ta σ H fun vs H1=>∃ i j:Int,vs=[.int i,.int j]/\(-(2 ^ 62)<=i/\i < 2 ^ 62/\-(2 ^ 62)<=j/\j < 2 ^ 62)/\R (Itr i (j - i).toNat) H1
theorem Qhi {a:aD} {ta:TA} {p pos:Pos} (B:Gl X "range") (z:X.mg "range" = none) (G:PA X [a] ta) (hs:aO [a] X.env=[(false,aL a X.env)]:=by rfl):PI X tg (.Call (.Name "range" p) [a] [] pos) (Qwe ta):=by
 intro pins s σ H R I h;refine Call_ (Q3v I B z boot_range (cz (thn (G pos pins s σ H _ I h) fun us s1 ⟨vs,H1,U,J,q1⟩=>?_) hs rfl))
 obtain ⟨j,e,q1,q2,q⟩:=q1;subst e;cases J with
 | cons r O=>
  cases O;obtain ⟨t,rfl⟩:=r;exact call_range_1 (Qd3 U (by omega) (by omega) q1 q2 (by simpa using q))
theorem Qhh {a b:aD} {ta:TA} {p pos:Pos} (J:Gl X "range") (G:X.mg "range" = none) (O:PA X [a,b] ta) (hs:aO [a,b] X.env=[(false,aL a X.env),(false,aL b X.env)]:=by rfl) (z:aO [b] X.env=[(false,aL b X.env)]:=by rfl) :
  PI X tg (.Call (.Name "range" p) [a,b] [] pos) (Qwd ta):=by
 intro pins s σ H R I h;refine Call_ (Q3v I J G boot_range (cz (thn (O pos pins s σ H _ I h) fun us s1 ⟨vs,H1,I1,U,q1⟩=>?_) (by rw [hs,z]) (by rw [z]; rfl)))
 obtain ⟨i,j,e,⟨q1,q2,q3,Y⟩,q⟩:=q1;subst e;cases U with
 | cons r B=>
  cases B with
  | cons Z B=>
   cases B;obtain ⟨t,rfl⟩:=r;obtain ⟨t',rfl⟩:=Z;exact call_range_2 (Qd3 I1 q1 q2 q3 Y q)
def Qyc (wi:TI) (g:TG) (tb:TS):TS:=fun D σ H=>wi σ H fun J H1=>∃ W:Nat->Nat->St->Hp->Prop,(∃ m,W 0 m σ H1)/\∀ i m σ H,W i m σ H ->
 (J.stop i H/\D.nx σ H)\/(J.go i H/\∃ N:St->Hp->Prop,(∀ σ' H',N σ' H'->∃ m',m' < m/\W (i + 1) m' σ' H')/\∀ x H',J.yld i H x H'->g x σ H' fun σ2 H2=>tb { D with nx:=N,ct:=N,bk:=D.nx } σ2 H2)
def Q7p (fp:List aA) (h:Heap):List (aA × Obj):=fp.filterMap fun b=>(h.get? b).map fun o=>(b,o)
theorem qp {j:List aA} {h:Heap} {b:aA} {o:Obj} (q:b∈j) (e:h.get? b=some o):(b,o)∈Q7p j h:=eF.mpr ⟨b,q,by rw [e]; rfl⟩
theorem Qhr {j:List aA} {h:Heap} {p:aA × Obj} (hp:p∈Q7p j h):p.1∈j/\h.get? p.1=some p.2:=by
 obtain ⟨b,B,e⟩:=eF.mp hp;cases q:h.get? b with
 | none=>rw [q] at e; cases e
 | some o=>
  rw [q] at e;have z:(b,o)=p:=bg e;subst z;exact ⟨B,q⟩
theorem Inv.pinned {pins:List (aA × Obj)} {σ:St} {H:Hp} {s:aC} {j:List aA} (I:Inv X pins σ H s) (J:∀ b∈j,Q98 X pins H b) (O:∀ b∈j,∃ o,s.heap.get? b=some o/\∀ v,o.data≠.cell v):Inv X (pins ++ Q7p j s.heap) σ H s:=
 I.pins_of fun p hp=>(F1.mp hp).elim (fun z=>I.pin p (E8 _ z)) fun z=>by
  obtain ⟨B,e⟩:=Qhr z;obtain ⟨Y,U,G,_⟩:=J p.1 B;obtain ⟨o,q,d⟩:=O p.1 B;rw [e] at q; cases q;exact ⟨e,Y,U,G,d⟩
theorem Inv.unpinned {pins pl:List (aA × Obj)} {σ:St} {H:Hp} {s:aC} (I:Inv X (pins ++ pl) σ H s):Inv X pins σ H s:=I.pins_of fun p hp=>I.pin p (E8 _ (F9 _ hp))
theorem Qse {iter:aD} {body:List aM} {wi:TI} {g:TG} {tb:TS} {pos:Pos} (hp:PassesOwn (aJ X.prog X.w) X.A X.env X.xe) (hc:X.calm=true) (hi:PI X tg iter wi) (hg:PG X tg g) (O:PSs X body tb)
  (hs:∀ x,az iter X.env x=pure x:=by intro _; rfl):PS X (.For tg iter body [] pos) (Qyc wi g tb):=by
 intro pins s σ H D I h;refine wpAny_For (thn (hi pins s σ H _ I h) fun v s1 h1=>thn h1 fun a8 s2 h2=>?_) hs
 obtain ⟨it,fp,tn,J,H2,e,I2,T,a7,f2,W,⟨m0,w0⟩,turn⟩:=h2;subst e;have U:∀ {H':Hp},(∀ b∈fp,H' b=none)->∀ b∈fp,Q98 X pins H' b:=fun hn b O=>⟨hn b O,(f2 b O).2⟩
 refine codeAny_forLoop_any (fun n s'=>∃ i q H',Inv X pins q H' s'/\tn i s'.heap/\(∀ b∈fp,H' b=none)/\W i n q H') ?_ m0 ⟨0,σ,H2,I2,a7,fun b O=>(f2 b O).1,w0⟩
 rintro n s3 ⟨i,B,H3,I3,a3,a2,w3⟩;rcases turn i n B H3 w3 with ⟨stop,qn⟩ | ⟨go,N,hN,step⟩
 ·refine ay hp (thn (T.done X rfl rfl rfl hc i pins s3 B H3 X.xe I3 (U a2) a3 stop) fun r s4 ⟨hr,I4⟩=>?_)
  subst hr;exact wpAny_execs_nil ⟨B,H3,I4,qn⟩
 ·refine ay hp (thn (T.item X rfl rfl rfl hc i pins s3 B H3 X.xe I3 (U a2) a3 go) fun r s4 ⟨u,hr,h4⟩=>?_)
  subst hr;refine ay hp (thn h4 fun _ s5 ⟨x,H5,I5,r5,y5,Z,a4⟩=>?_);have a5:=I5.pinned (U a4) (T.obj _ _ Z);refine ay hp (thn (hg _ s5 B H5 x u _ a5 r5 (step x H5 y5)) fun _ s6 ⟨a6,H6,I6,q6⟩=>?_)
  refine ay hp (thn (O _ s6 a6 H6 _ I6 q6) fun f s7 Y=>?_)
  have again:∀ {j:St} {z:Hp},Inv X (pins ++ Q7p fp s5.heap) j z s7->N j z->∃ m,m < n/\∃ i q H',Inv X pins q H' s7/\tn i s7.heap/\(∀ b∈fp,H' b=none)/\W i m q H':=fun {j z} G n7=>by
   obtain ⟨m',hm,w7⟩:=hN j z n7;refine ⟨m',hm,i + 1,j,z,G.unpinned,T.keep _ _ _ Z fun b O o e=>(G.pin (b,o) (E8 _ (E8 _ (qp O e)))).1,fun b O=>?_,w7⟩;obtain ⟨o,e,d⟩:=T.obj _ _ Z b O;exact (G.pin (b,o) (E8 _ (E8 _ (qp O e)))).2.1
  cases f with
  | next=>obtain ⟨j,z,G,n7⟩:=Y; exact again G n7
  | cont=>obtain ⟨j,z,G,n7⟩:=Y; exact again G n7
  | brk=>obtain ⟨j,z,G,Y⟩:=Y; exact ⟨j,z,G.unpinned,Y⟩
  | ret v=>obtain ⟨x7,j,z,G,r7,Y⟩:=Y; exact ⟨x7,j,z,G.unpinned,r7,Y⟩
end
abbrev R2:=V->V->Hp->VK->Prop
def OpR (X:Cx) (f:aB->aB->Sem aB) (r:R2):Prop:=
 ∀ (pins:List (aA × Obj)) (s:aC) (σ:St) (H:Hp) (x y:V) (v u:aB) (Q:VK),Inv X pins σ H s->RelV x v->RelV y u->r x y H Q ->
  aI (aJ X.prog X.w) X.A (f v u) (EP X pins σ Q) X.xe s
def UnR (X:Cx) (f:aB->Sem aB) (r:V->Hp->VK->Prop):Prop:=
 ∀ (pins:List (aA × Obj)) (s:aC) (σ:St) (H:Hp) (x:V) (v:aB) (Q:VK),Inv X pins σ H s->RelV x v->r x H Q ->
  aI (aJ X.prog X.w) X.A (f v) (EP X pins σ Q) X.xe s
def jv (X:Cx) (f:aB) (r:List V->Hp->VK->Prop):Prop:=
 ∀ (pins:List (aA × Obj)) (s:aC) (σ:St) (H:Hp) (xs:List V) (us:List aB) (Q:VK),Inv X pins σ H s->Vals xs us->r xs H Q ->
  aI (aJ X.prog X.w) X.A (call f us) (EP X pins σ Q) X.xe s
def tOp (r:R2) (ta tb:TE):TE:=fun σ H Q=>ta σ H fun x H1=>tb σ H1 fun y H2=>r x y H2 Q
def tUn (r:V->Hp->VK->Prop) (ta:TE):TE:=fun σ H Q=>ta σ H fun x H1=>r x H1 Q
def rI (C:Int->Int->Prop) (g:Int->Int->V):R2:=fun x y H Q=>∃ i j,x=.int i/\y=.int j/\C i j/\Q (g i j) H
def rI0 (g:Int->Int->V):R2:=fun x y H Q=>∃ i j,x=.int i/\y=.int j/\Q (g i j) H
def rU (g:Int->V):V->Hp->VK->Prop:=fun x H Q=>∃ i,x=.int i/\Q (g i) H
section
variable {X:Cx} {a b c:aD} {ta tb tc:TE} {pos:Pos}
theorem Qu2 (J:PE X a ta) (B:PE X b tb) {pins:List (aA × Obj)} {s:aC} {σ:St} {H:Hp} {R:V->V->Hp->Prop} (I:Inv X pins σ H s)
  (h:ta σ H fun x H1=>tb σ H1 fun y H2=>R x y H2) {Q:aB->aC->Prop} {f:aB->aB->Sem aB}
  (z:∀ v u s2 x y H2,Inv X pins σ H2 s2->RelV x v->RelV y u->R x y H2->aI (aJ X.prog X.w) X.A (f v u) Q X.xe s2) :
  aI (aJ X.prog X.w) X.A (aL a X.env) (fun v j=>aI (aJ X.prog X.w) X.A (aL b X.env) (fun u q=>aI (aJ X.prog X.w) X.A (f v u) Q X.xe q) X.xe j) X.xe s:=by
 refine thn (J pins s σ H _ I h) fun v s1 ⟨x,H1,Y,O,q1⟩=>?_
 refine thn (B pins s1 σ H1 _ Y q1) fun u s2 ⟨y,H2,G,U,q2⟩=>?_
 exact z v u s2 x y H2 G O U q2
theorem Qvp {op:Operator} {r:R2} (j:OpR X (aW op) r) (G:PE X a ta) (z:PE X b tb):PE X (.BinOp a op b pos) (tOp r ta tb):=by
 intro pins s σ H Q I h;exact wpAny_BinOp (Qu2 G z I h fun v u s2 x y H2 B J O q=>j pins s2 σ H2 x y v u Q B J O q)
theorem Qvm {op:UnaryOp} {r:V->Hp->VK->Prop} (j:UnR X (unaryOp op) r) (q:PE X a ta):PE X (.UnaryOp op a pos) (tUn r ta):=by
 intro pins s σ H Q I h;exact UnaryOp_ (thn (q pins s σ H _ I h) fun v s1 ⟨x,H1,B,z,q1⟩=>j pins s1 σ H1 x v Q B z q1)
theorem opI {f:aB->aB->Sem aB} {C:Int->Int->Prop} {g:Int->Int->Int}
  (rule:∀ (i j:Int) (t u:Tok) (s:aC) (Q:aB->aC->Prop) (E:aB->aC->Prop),C i j->Q (.int (g i j) s.toks) { s with toks:=s.toks + 1 }->aI (aJ X.prog X.w) X.A (f (.int i t) (.int j u)) Q E s) :
  OpR X f (rI C fun i j=>.int (g i j)):=by
 intro pins s σ H x y v u Q I z B h;obtain ⟨i,j,rfl,rfl,G,q⟩:=h;obtain ⟨t,rfl⟩:=z;obtain ⟨t',rfl⟩:=B;exact rule i j t t' s _ _ G ⟨.int (g i j),H,I.tok _,⟨_,rfl⟩,q⟩
theorem Qvy {f:aB->aB->Sem aB} {g:Int->Int->Int}
  (rule:∀ (i j:Int) (t u:Tok) (s:aC) (Q:aB->aC->Prop) (E:aB->aC->Prop),Q (.int (g i j) s.toks) { s with toks:=s.toks + 1 }->aI (aJ X.prog X.w) X.A (f (.int i t) (.int j u)) Q E s) :
  OpR X f (rI0 fun i j=>.int (g i j)):=by
 intro pins s σ H x y v u Q I z B h;obtain ⟨i,j,rfl,rfl,q⟩:=h;obtain ⟨t,rfl⟩:=z;obtain ⟨t',rfl⟩:=B;exact rule i j t t' s _ _ ⟨.int (g i j),H,I.tok _,⟨_,rfl⟩,q⟩
theorem Qpr {f:aB->aB->Sem aB} {g:Int->Int->Bool}
  (rule:∀ (i j:Int) (t u:Tok) (s:aC) (Q:aB->aC->Prop) (E:aB->aC->Prop),Q (.bool (g i j)) s->aI (aJ X.prog X.w) X.A (f (.int i t) (.int j u)) Q E s) :
  OpR X f (rI0 fun i j=>.bl (g i j)):=by
 intro pins s σ H x y v u Q I z B h;obtain ⟨i,j,rfl,rfl,q⟩:=h;obtain ⟨t,rfl⟩:=z;obtain ⟨t',rfl⟩:=B;exact rule i j t t' s _ _ ⟨.bl (g i j),H,I,rfl,q⟩
def Qz7 (i j:Int):Prop:=0 < j/\j < 1073741824
def Qz6 (i j:Int):Prop:=0<=j/\j<=1000000/\i.natAbs < 2 ^ 64
def CMul (i j:Int):Prop:=(-(2 ^ 64) < i/\i < 2 ^ 64)\/(-(2 ^ 64) < j/\j < 2 ^ 64)
theorem CMul.ok {i j:Int} (h:CMul i j):IntMulOk i j:=by
 rcases h with ⟨h1,h2⟩ | ⟨h1,h2⟩
 ·exact .of_left (intBits_le_64 h1 h2)
 ·exact .of_right (intBits_le_64 h1 h2)
theorem Qt5:OpR X (aW .Add) (rI0 fun i j=>.int (i + j)):=Qvy fun _ _ _ _ _ _ _ q=>add_int q
theorem Qsy:OpR X (aW .Sub) (rI0 fun i j=>.int (i - j)):=Qvy fun _ _ _ _ _ _ _ q=>sub_int q
theorem Qt1:OpR X (aW .Mult) (rI CMul fun i j=>.int (i * j)):=opI fun _ _ _ _ _ _ _ z q=>mul_int q z.ok
theorem Qpp:OpR X (aW .FloorDiv) (rI Qz7 fun i j=>.int (i / j)):=opI fun i j _ _ _ _ _ z q=>by
 have h1:(0:Int) < j:=z.1;have h2:j < 1073741824:=z.2;exact floordiv_int (by omega) (by rw [fS i (by omega)]; exact q) (.inl (PyProof.noPylong_small (by omega)))
theorem Qt2:OpR X (aW .Mod) (rI (fun _ j=>0 < j) fun i j=>.int (i % j)):=opI fun i j _ _ _ _ _ z q=>by
 have h1:(0:Int) < j:=z;exact mod_int' (by omega) (by rw [Int.fmod_eq_emod_of_nonneg i (by omega)]; exact q)
theorem Qt0:OpR X (aW .Pow) (rI Qz6 fun i j=>.int (i ^ j.toNat)):=opI fun _ _ _ _ _ _ _ z q=>pow_int_small z.1 z.2.1 z.2.2 q
theorem unI {f:aB->Sem aB} {g:Int->Int}
  (rule:∀ (i:Int) (t:Tok) (s:aC) (Q:aB->aC->Prop) (E:aB->aC->Prop),Q (.int (g i) s.toks) { s with toks:=s.toks + 1 }->aI (aJ X.prog X.w) X.A (f (.int i t)) Q E s) :
  UnR X f (rU fun i=>.int (g i)):=by
 intro pins s σ H x v Q I j h;obtain ⟨i,rfl,q⟩:=h;obtain ⟨t,rfl⟩:=j;exact rule i t s _ _ ⟨.int (g i),H,I.tok _,⟨_,rfl⟩,q⟩
theorem Qrr:UnR X (unaryOp .USub) (rU fun i=>.int (-i)):=unI fun _ _ _ _ _ q=>neg_int q
end
section
variable {X:Cx} {a b c:aD} {ta tb tc:TE} {pos:Pos}
theorem Qm4 {pins:List (aA × Obj)} {σ:St} {H:Hp} {s:aC} {Q:VK} {k j:Bool} (I:Inv X pins σ H s) (q:Q (.bl k) H) (e:k=j):EP X pins σ Q (.bool j) s:=by
 subst e;exact ⟨.bl k,H,I,rfl,q⟩
theorem Qvu:OpR X (aV .Lt) (rI0 fun i j=>.bl (decide (i < j))):=Qpr fun _ _ _ _ _ _ _ q=>lt_int q
theorem Qvv:OpR X (aV .LtE) (rI0 fun i j=>.bl (decide (i<=j))):=Qpr fun _ _ _ _ _ _ _ q=>le_int q
theorem Qvw:OpR X (aV .Gt) (rI0 fun i j=>.bl (decide (j < i))):=Qpr fun _ _ _ _ _ _ _ q=>gt_int q
theorem Qvx:OpR X (aV .GtE) (rI0 fun i j=>.bl (decide (j<=i))):=Qpr fun _ _ _ _ _ _ _ q=>ge_int q
theorem OpR.or {f:aB->aB->Sem aB} {r B:R2} (h:OpR X f r) (h':OpR X f B):OpR X f (fun x y H Q=>r x y H Q\/B x y H Q):=by
 intro pins s σ H x y v u Q I z j q;rcases q with q | q
 ·exact h pins s σ H x y v u Q I z j q
 ·exact h' pins s σ H x y v u Q I z j q
theorem Qkh (b:aD) {op:CmpOp} (h:op≠.In:=by decide) (h2:op≠.NotIn:=by decide):bD op b=false:=by
 have e1:(op == CmpOp.In)=false:=by cases op <;> first | rfl | exact absurd rfl h
 have e2:(op == CmpOp.NotIn)=false:=by cases op <;> first | rfl | exact absurd rfl h2
 cases b <;> simp [bD,e1,e2]
theorem Qpg {op:CmpOp} {r:R2} (z:OpR X (aV op) r) (J:PE X a ta) (B:PE X b tb) (j:bD op b=false):PE X (.Compare a [op] [b] pos) (tOp r ta tb):=by
 intro pins s σ H Q I h;exact wpAny_Compare1 (Qu2 J B I h fun v u s2 x y H2 G O U q=>z pins s2 σ H2 x y v u Q G O U q) j
def Qr1 (t:TE):TT:=fun σ H Q=>t σ H fun x H'=>∃ k,x=.bl k/\Q k H'
theorem Qp2 {op:CmpOp} {r:R2} (q:OpR X (aV op) r) (O:PE X a ta) (G:PE X b tb) (j:bD op b=false):PT X (.Compare a [op] [b] pos) (Qr1 (tOp r ta tb)):=by
 intro pins s σ H Q I h;refine wpAny_isTrue_Compare1 (thn (O pins s σ H _ I h) fun v s1 ⟨x,H1,I1,U,q1⟩=>thn (G pins s1 σ H1 _ I1 q1) fun u s2 ⟨y,H2,J,Z,q2⟩=>
  thn (q pins s2 σ H2 x y v u _ J U Z q2) fun c s3 ⟨z,B,Y,r3,k,e,q3⟩=>?_) j
 subst e;cases r3;exact am ⟨B,Y,q3⟩
def Qej (r r':R2) (ta tb tc:TE):TE:=fun σ H Q=>ta σ H fun x H1=>tb σ H1 fun y H2=>r x y H2 fun z H3=>∃ k,z=.bl k /\
 (if k=true then tc σ H3 fun w' H4=>r' y w' H4 Q else Q (.bl false) H3)
theorem Qk6 {op j:CmpOp} {r G:R2} (ho:OpR X (aV op) r) (q:OpR X (aV j) G) (ha:PE X a ta) (hb:PE X b tb) (hc:PE X c tc)
  (hm:lastMarks [op,j] [b,c]=false:=by with_unfolding_all rfl):PE X (.Compare a [op,j] [b,c] pos) (Qej r G ta tb tc):=by
 intro pins s σ H Q I h;refine Compare_chain (thn (ha pins s σ H _ I h) fun v s1 ⟨x,H1,I1,r1,q1⟩=>chain_link (thn (hb pins s1 σ H1 _ I1 q1) fun u s2 ⟨y,H2,Y,J,q2⟩=>
  thn (ho pins s2 σ H2 x y v u _ Y r1 J q2) fun d s3 ⟨z,O,B,r3,k,e,q3⟩=>?_)) hm
 subst e;cases r3;refine am ?_;cases k with
 | false=>exact ite_ff ⟨.bl false,O,B,rfl,q3⟩
 | true=>exact ite_tt (chain_last (thn (hc pins s3 σ O _ B q3) fun U s4 ⟨Z,H4,I4,r4,q4⟩=>q pins s4 σ H4 y Z u U Q I4 J r4 q4))
theorem Qjr {op j:CmpOp} {r G:R2} (ho:OpR X (aV op) r) (q:OpR X (aV j) G) (ha:PE X a ta) (hb:PE X b tb) (hc:PE X c tc)
  (hm:lastMarks [op,j] [b,c]=false:=by with_unfolding_all rfl):PT X (.Compare a [op,j] [b,c] pos) (Qr1 (Qej r G ta tb tc)):=by
 intro pins s σ H Q I h;refine isTrue_chain (thn (ha pins s σ H _ I h) fun v s1 ⟨x,H1,I1,r1,q1⟩=>test_link (thn (hb pins s1 σ H1 _ I1 q1) fun u s2 ⟨y,H2,Y,J,q2⟩=>
  thn (ho pins s2 σ H2 x y v u _ Y r1 J q2) fun d s3 ⟨z,O,B,r3,k,e,q3⟩=>?_)) hm
 subst e;cases r3;refine am ?_;cases k with
 | false=>
  obtain ⟨k',e',q'⟩:=q3;cases e';exact ite_ff ⟨O,B,q'⟩
 | true=>
  refine ite_tt (test_last (thn (hc pins s3 σ O _ B q3) fun U s4 ⟨Z,H4,I4,r4,q4⟩=>thn (q pins s4 σ H4 y Z u U _ I4 J r4 q4) fun d' s5 ⟨z2,H5,I5,r5,k2,e2,q5⟩=>?_))
  subst e2;cases r5;exact am ⟨H5,I5,q5⟩
theorem Q5g:(sizeLine:Nat) < 2 ^ 63:=by rw [sizeLine_eq]; decide
theorem Qey:OpR X (aW .Add) (fun x y H Q=>∃ i j,x=.str i/\y=.str j/\i.length + j.length<=sizeLine/\Q (.str (i ++ j)) H):=by
 intro pins s σ H x y v u Q I z B h;obtain ⟨i,j,rfl,rfl,hz,q⟩:=h;obtain ⟨t,rfl⟩:=z;obtain ⟨t',rfl⟩:=B;exact add_str (fun t' tk=>⟨.str (i ++ j),H,I.tok _,⟨_,rfl⟩,q⟩) hz
theorem Q3a {x:V} {us:List aB} (r:Vals [x] us):∃ u,us=[u]/\RelV x u:=by
 cases r with
 | cons q j=>cases j; exact ⟨_,rfl,q⟩
theorem Qj4 {x y:V} {us:List aB} (r:Vals [x,y] us):∃ u j,us=[u,j]/\RelV x u/\RelV y j:=by
 cases r with
 | cons z B=>
  cases B with
  | cons G q=>cases q; exact ⟨_,_,rfl,z,G⟩
theorem Qik (B:X.calm=true):jv X (.builtin "max") (fun xs H Q=>∃ i j,xs=[.int i,.int j]/\Q (.int (if j > i then j else i)) H):=by
 intro pins s σ H xs us Q I r h;obtain ⟨i,j,rfl,q⟩:=h;obtain ⟨u,G,rfl,⟨t,rfl⟩,⟨t',rfl⟩⟩:=Qj4 r;refine max_two_ints (I.ok.hd B) fun h' tk k=>⟨_,H,I.kept k,?_,q⟩
 by_cases z:j > i
 ·rw [bK z,bK z]; exact ⟨_,rfl⟩
 ·rw [bL z,bL z]; exact ⟨_,rfl⟩
theorem Qii (B:X.calm=true):jv X (.builtin "min") (fun xs H Q=>∃ i j,xs=[.int i,.int j]/\Q (.int (if j < i then j else i)) H):=by
 intro pins s σ H xs us Q I r h;obtain ⟨i,j,rfl,q⟩:=h;obtain ⟨u,G,rfl,⟨t,rfl⟩,⟨t',rfl⟩⟩:=Qj4 r;refine min_two_ints (I.ok.hd B) fun h' tk k=>⟨_,H,I.kept k,?_,q⟩
 by_cases z:j < i
 ·rw [bK z,bK z]; exact ⟨_,rfl⟩
 ·rw [bL z,bL z]; exact ⟨_,rfl⟩
end
structure ObjM (h:Heap) (x dx C:aA) (mA:Str->Option aB):Prop where
 obj:h.get? x=some (cH C dx)
 ns:h.Ns1 dx mA
 ne:dx≠x
theorem Qav {h:Heap} {dx:aA} {mA:Str->Option aB} (n:h.Ns1 dx mA):∃ B,h.get? dx=some B/\∀ name,dU name B=some (mA name):=by
 obtain ⟨o,es,Y,J,hd,U,_,G⟩:=n;refine ⟨o,J,fun name=>?_⟩;have e:=G name;unfold nsFind findBy at e;rw [<- Array.find?_toList] at e;unfold dU;rw [hd];dsimp only
 split
 ·rename_i y q;rw [q] at e;exact congrArg some e
 ·rename_i q;rw [q] at e;have a:es.toList.any (·.refKey)=false:=by
   rw [fT];intro y O;obtain ⟨z,t,j⟩:=U y (Array.mem_toList_iff.mp O);simp [DictEntry.refKey,j]
  have I:¬ es.toList.any (·.refKey)=true:=by rw [a]; exact D8
  rw [bL I];exact congrArg some e
theorem ObjM.look {h:Heap} {x dx C:aA} {mA:Str->Option aB} (I:ObjM h x dx C mA):∃ j,PySem.W.InstAt h x (cH C dx) C (some j)/\∀ name,dU name j=some (mA name):=
 let ⟨j,z,q⟩:=Qav I.ns
 ⟨j,⟨I.obj,rfl,rfl,z⟩,q⟩
section
variable {prog:aN} {w:aK} {A:aR} {E:aB->aC->Prop} {s:aC} {K:bQ} {x dx C f:aA} {mA:Str->Option aB} {name:Str} {v:aB}
theorem Qqi {j:Bool} {Q:aB->aC->Prop} (X:K.In s.heap) (I:ObjM s.heap x dx C mA) (G:dA K C name=true) (O:dW K C=true)
  (U:bY K (.ref C) name=some none) (z:mA name=some v) (q:fU v=true) (h:Q v { s with toks:=s.toks + 1 }) :
  aI (aJ prog w) A (getAttr (.ref x) name j) Q E s:=by
 obtain ⟨Y,J,B⟩:=I.look;exact PySem.W.get_value X J (eG G).1 (PySem.W.findObj_own O U rfl (by rw [B,z])) q h
theorem Qm0 {pl:Sem Bool} {Q:aB × List aB->aC->Prop} (X:K.In s.heap) (I:ObjM s.heap x dx C mA) (j:dA K C name=true)
  (B:bY K (.ref C) name=some (some (.ref f))) (G:bi K (.ref f)=true) (q:mA name=none) (h:Q (.ref f,[.ref x]) s) :
  aI (aJ prog w) A (getMethod (.ref x) name pl) Q E s:=by
 obtain ⟨O,J,z⟩:=I.look;exact PySem.W.method_fn X J (eG j).1 (eG j).2 B (beq_iff_eq.mp G) (by show (dU name O).map (·.isSome)=some false; rw [z,q]; rfl) h
theorem Qnm {ns:List Str} {Q:Unit->aC->Prop} (X:K.In s.heap) (I:ObjM s.heap x dx C mA)
  (hs:bY K (.ref C) "__setattr__" = some (some (.builtin "object.__setattr__"))) (hp:eI K C=true) (ht:eJ K C name=some none) (hh:dW K C=true)
  (U:eB mA ns) (a2:ns.length<=sizeLine)
  (h:∀ h',ObjM h' x dx C (fun y=>if y=name then some v else mA y)->Heap.SameBut dx s.heap h'->Q () { s with heap:=h',toks:=s.toks + 2 }) :
  aI (aJ prog w) A (setAttr (.ref x) name v) Q E s:=by
 obtain ⟨od,J,hl⟩:=I.look;refine PySem.W.set_plain X J hs (PySem.W.osa_open (s:={ s with toks:=s.toks + 1 }) (r:=none) X J hp ht fun b=>?_)
 obtain ⟨cd,hc,G⟩:=PySem.W.any_some hh;have hx:s.heap.get? x=some ⟨.ref C,some dx,.plain,#[]⟩:=I.obj;refine aF (aS (aF (aF (wpAny_loadPart hx (aF (PySem.W.Looks.here (s:={ s with toks:=s.toks + 1 }) (PySem.W.looks_clsIn X hc) ?_))))));rw [G];refine aS (a:=some dx) (aF (aS (aF ?_)));refine wpAny_nsSet1 (s:={ s with toks:=s.toks + 1 }) I.ns fun h' q j=>?_
 obtain ⟨oD,Z,Y,B,z,O⟩:=q.count (PySem.Within.cons name v U);refine aF (wpAny_lookBehind B (by rw [z]; exact pastItsLine_dict (F0 O (by rw [D4]; omega))) ?_);exact aS (h _ ⟨(j.2 _ (Ne.symm I.ne)).trans I.obj,q,I.ne⟩ j)
theorem Qkj {R:Result->aC->Prop} {vs:List aB} {j:List (Str × aB)} (X:K.In s.heap) (z:eK K C=true)
  (hi:bY K (.ref C) "__init__" = some (some (.ref f))) (q:PySem.W.typeIn K (.ref f)=some (.type "function"))
  (h:codeAny (aJ prog w) (A.under (.builtin "type.__call__" ⟨.ref C :: vs,j⟩)) (.call (.ref f) ⟨.ref (s.heap.objs.size + 1) :: vs,j⟩) (PySem.W.InitBack (s.heap.objs.size + 1) R)
   { s with heap:=(s.heap.push cB).push (cH C s.heap.objs.size) }) :
  codeAny (aJ prog w) A (.call (.ref C) ⟨vs,j⟩) R s:=by
 obtain ⟨B,g,d,t,os⟩:=s;exact PySem.W.make_core (PySem.W.makes_of X z) (fV X hi) (fun self=>PySem.W.bind_fn X self q) (.inl rfl) h
end
def Q0i (f:Str) (v:V):List (Str × V)->List (Str × V)
 | []=>[(f,v)]
 | (g,x) :: r=>if g=f then (g,v) :: r else (g,x) :: Q0i f v r
theorem Q5y (f g:Str) (v:V):∀ fs:List (Str × V),(Q0i f v fs).lookup g=if g=f then some v else fs.lookup g
 | []=>by
  show cC g [(f,v)]=_
  by_cases h:g=f
  ·have j:(g == f)=true:=beq_iff_eq.mpr h;simp only [cC,j,bK h]
  ·have j:(g == f)=false:=beq_eq_false_iff_ne.mpr h;simp only [cC,j,bL h]
 | (k,x) :: r=>by
  have z:=Q5y f g v r;rw [show Q0i f v ((k,x) :: r)=(if k=f then (k,v) :: r else (k,x) :: Q0i f v r) from rfl]
  by_cases q:k=f
  ·rw [bK q]
   by_cases h:g=k
   ·have j:(g == k)=true:=beq_iff_eq.mpr h;simp only [cC,j,bK (h.trans q)]
   ·have j:(g == k)=false:=beq_eq_false_iff_ne.mpr h;simp only [cC,j,bL (fun e:g=f=>h (e.trans q.symm))]
  ·rw [bL q]
   by_cases h:g=k
   ·have j:(g == k)=true:=beq_iff_eq.mpr h;simp only [cC,j,bL (fun e:g=f=>q (h.symm.trans e))]
   ·have j:(g == k)=false:=beq_eq_false_iff_ne.mpr h;simp only [cC,j];exact z
theorem Q5i (f:Str) (v:V):∀ fs:List (Str × V),f∈(Q0i f v fs).map (·.1)/\∀ g,g∈fs.map (·.1)->g∈(Q0i f v fs).map (·.1)
 | []=>⟨by simp [Q0i],fun g h=>by simp at h⟩
 | (k,x) :: r=>by
  obtain ⟨q,z⟩:=Q5i f v r;rw [show Q0i f v ((k,x) :: r)=(if k=f then (k,v) :: r else (k,x) :: Q0i f v r) from rfl]
  by_cases j:k=f
  ·rw [bK j];subst j;exact ⟨by simp,fun g h=>by simpa using h⟩
  ·rw [bL j];refine ⟨?_,fun g h=>?_⟩
   ·rw [F4];exact D0 _ q
   ·rw [F4] at h ⊢;rcases E7.mp h with e | e
    ·exact E7.mpr (.inl e)
    ·exact D0 _ (z g e)
theorem Q5z (f:Str) (v:V):∀ fs:List (Str × V),(Q0i f v fs).length<=fs.length + 1
 | []=>by simp [Q0i]
 | (k,x) :: r=>by
  have q:=Q5z f v r;rw [show Q0i f v ((k,x) :: r)=(if k=f then (k,v) :: r else (k,x) :: Q0i f v r) from rfl]
  by_cases j:k=f
  ·rw [bK j,D4,D4]; omega
  ·rw [bL j,D4,D4]; omega
theorem RelO.some_of {v:V} {o:Option aB} (r:RelO (some v) o):∃ u,o=some u/\RelV v u:=by
 cases o with
 | none=>exact (show False from r).elim
 | some u=>exact ⟨u,rfl,r⟩
theorem RelO.none_of {o:Option aB} (r:RelO none o):o=none:=by
 cases o with
 | none=>rfl
 | some u=>exact (show False from r).elim
theorem Qic {v:V} {u:aB} (r:RelV v u):fU u=true:=by
 cases v with
 | non=>cases (show u=bc from r); rfl
 | bl b=>cases (show u=cG b from r); rfl
 | int i=>obtain ⟨t,e⟩:=(show ∃ t,u=cb i t from r); cases e; rfl
 | str x=>obtain ⟨t,e⟩:=(show ∃ t,u=cy x t from r); cases e; rfl
 | byt b=>obtain ⟨t,e⟩:=(show ∃ t,u=fM b t from r); cases e; rfl
 | flt b=>obtain ⟨t,e⟩:=(show ∃ t,u=eA b t from r); cases e; rfl
 | ref a=>cases (show u=bX a from r); rfl
 | ty n=>cases (show u=dP n from r); rfl
section
variable {P:aN} {w:aK} {H H':Hp} {h h':Heap} {a C dx:aA} {fs fs':List (Str × V)}
theorem Q6w (hok:HOk P w H h) (e:H a=some (.ins C dx fs)):∃ mA,ObjM h a dx C mA/\(∀ f,RelO (fs.lookup f) (mA f))/\eB mA (fs.map (·.1))/\fs.length<=1000/\H dx=some (.own a):=by
 obtain ⟨d,z,ne,ob,mA,n,r,q⟩:=(show ObjOk P w H h a (.ins C dx fs) from hok a _ e);exact ⟨mA,⟨ob,n,ne⟩,r,q,z,d⟩
end
structure Cls (K:bQ) (C:aA):Prop where
 pg:dA K C fW=true
 hd:dW K C=true
 po:eI K C=true
 sa:bY K (.ref C) "__setattr__" = some (some (.builtin "object.__setattr__"))
theorem Cls.get {K:bQ} {C:aA} (c:Cls K C) (f:Str):dA K C f=true:=c.pg
def NoAttr (K:bQ) (C:aA) (f:Str):Prop:=bY K (.ref C) f=some none
theorem NoAttr.taker {K:bQ} {C:aA} {f:Str} (n:NoAttr K C f):eJ K C f=some none:=by
 unfold eJ;rw [show bY K (.ref C) f=some none from n];rfl
structure Meth (K:bQ) (C:aA) (m:Str) (f:aA):Prop where
 at_:bY K (.ref C) m=some (some (.ref f))
 fn:bi K (.ref f)=true
 kp:bT K (.ref f)=true
section
variable {X:Cx} {pins:List (aA × Obj)} {σ:St} {H:Hp} {s:aC} {a C dx:aA} {fs:List (Str × V)} {f:Str} {v:V} {A:aR} {E:aB->aC->Prop}
theorem Qfe {b:Bool} {Q:aB->aC->Prop} (I:Inv X pins σ H s) (e:H a=some (.ins C dx fs)) (c:Cls X.K C) (n:NoAttr X.K C f) (l:fs.lookup f=some v)
  (h:∀ u s',Inv X pins σ H s'->RelV v u->Q u s'):aI (aJ X.prog X.w) A (getAttr (.ref a) f b) Q E s:=by
 obtain ⟨mA,O,r,_,_,_⟩:=Q6w I.hok e;obtain ⟨u,q,j⟩:=RelO.some_of (v:=v) (o:=mA f) (by rw [<- l]; exact r f);exact Qqi I.kIn O (c.get f) c.hd n q (Qic j) (h u _ (I.tok _) j)
theorem Q8t {m:Str} {g:aA} {pl:Sem Bool} {Q:aB × List aB->aC->Prop} (I:Inv X pins σ H s) (e:H a=some (.ins C dx fs)) (c:Cls X.K C) (k:Meth X.K C m g) (l:fs.lookup m=none)
  (h:Q (.ref g,[.ref a]) s):aI (aJ X.prog X.w) A (getMethod (.ref a) m pl) Q E s:=by
 obtain ⟨mA,O,r,_,_,_⟩:=Q6w I.hok e;have j:mA m=none:=RelO.none_of (by rw [<- l]; exact r m);exact Qm0 I.kIn O (c.get m) k.at_ k.fn j h
theorem Qeq {y:V} {u:aB} {Q:Unit->aC->Prop} (I:Inv X pins σ H s) (e:H a=some (.ins C dx fs)) (c:Cls X.K C) (n:NoAttr X.K C f) (hl:fs.length < 1000) (ry:RelV y u)
  (h:∀ s',Inv X pins σ (upd H a (.ins C dx (Q0i f y fs))) s'->Q () s'):aI (aJ X.prog X.w) A (setAttr (.ref a) f u) Q E s:=by
 obtain ⟨mA,O,r,G,_,B⟩:=Q6w I.hok e;have hz:(fs.map (·.1)).length<=sizeLine:=by rw [O2,sizeLine_eq]; omega
 refine Qnm I.kIn O c.sa c.po n.taker c.hd G hz fun h' j Y=>h _ ?_
 have hd:∃ o,h'.get? dx=some o:=let ⟨o,_,_,U,_⟩:=j.ns; ⟨o,U⟩;refine I.write (x:=a) (e:=dx) (by rw [e]; exact True.intro) (.inr B) (fun b q Z z=>(Y.2 b Z).trans z) hd ?_
 refine ⟨by rw [Qf O.ne]; exact B,?_,O.ne,j.obj,_,j.ns,fun g=>?_,fun g J=>?_⟩
 ·have:=Q5z f y fs; omega
 ·show RelO ((Q0i f y fs).lookup g) (if g=f then some u else mA g);rw [Q5y]
  by_cases q:g=f
  ·rw [bK q,bK q]; exact ry
  ·rw [bL q,bL q]; exact r g
 ·by_cases q:g=f
  ·rw [q]; exact (Q5i f y fs).1
  ·refine (Q5i f y fs).2 g (G g fun z=>J ?_);show (if g=f then some u else mA g)=none;rw [bL q]; exact z
theorem Inv.made (I:Inv X pins σ H s):Inv X pins σ (upd (upd H s.heap.objs.size (.own (s.heap.objs.size + 1))) (s.heap.objs.size + 1) (.ins C s.heap.objs.size []))
  { s with heap:=(s.heap.push cB).push (cH C s.heap.objs.size) }:=by
 have e1:(s.heap.push cB).get? s.heap.objs.size=some cB:=D6 s.heap rfl;have e2:((s.heap.push cB).push (cH C s.heap.objs.size)).get? (s.heap.objs.size + 1)=some (cH C s.heap.objs.size):=by
  have:=D6 (s.heap.push cB) (o:=cH C s.heap.objs.size) rfl
  rwa [F5] at this
 have e3:(s.heap.push cB).Ns s.heap.objs.size (fun _=>none):=⟨cB,#[],_,e1,rfl,(fun e j=>absurd j (by simp)),fun _=>rfl⟩;have B:=I.laid (a:=s.heap.objs.size) (o:=.own (s.heap.objs.size + 1)) (h':=s.heap.push cB) (t':=s.toks) (fun b u q=>O1 _ q) (O8 _) ⟨_,e1⟩;refine B.laid (a:=s.heap.objs.size + 1) (o:=.ins C s.heap.objs.size []) (t':=s.toks) (fun b u q=>O1 _ q) (eL (F5 _ _)) ?_;have ne:s.heap.objs.size≠s.heap.objs.size + 1:=E5 (cR _);refine ⟨by rw [Qf ne,Je],cc _,ne,e2,fun _=>none,(Heap.Ns1.of_empty e3).at fun o q=>O1 _ q,fun _=>True.intro,fun y z=>absurd rfl z⟩
theorem Qgs {prog:aN} {w:aK} {env:Env} {e:aD} {f:Str} {pos:Pos} {s:aC} {Q:aB->aC->Prop} (q:ai e f env (aL e env)=aL e env)
  (h:aI (aJ prog w) A (aL e env) (fun o j=>aI (aJ prog w) A (getAttr o f true) Q E j) E s):aI (aJ prog w) A (aL (.Attribute e f pos) env) Q E s:=
 Attribute_any_ h (by rw [arm_eval_Attribute,q])
end
def Qyd (K:bQ) (ta:TE) (f:Str):TE:=fun σ H Q=>ta σ H fun x H1=>∃ a C dx fs v,x=.ref a/\H1 a=some (.ins C dx fs)/\Cls K C/\NoAttr K C f/\fs.lookup f=some v/\Q v H1
def Qyf (K:bQ) (ta tv:TE) (f:Str):TS:=fun D σ H=>tv σ H fun y H1=>ta σ H1 fun x H2=>∃ a C dx fs,x=.ref a/\H2 a=some (.ins C dx fs)/\Cls K C/\NoAttr K C f/\fs.length < 1000 /\
 D.nx σ (upd H2 a (.ins C dx (Q0i f y fs)))
section
variable {X:Cx} {o e value:aD} {f:Str} {pos pos' tpos:Pos} {ta tv:TE}
theorem Qsr (j:PE X e ta) (B:ai e f X.env (aL e X.env)=aL e X.env):PE X (.Attribute e f pos) (Qyd X.K ta f):=by
 intro pins s σ H Q I h;refine Qgs B (thn (j pins s σ H _ I h) fun u s1 ⟨x,H1,U,J,a,C,dx,fs,v,ex,z,c,n,l,q⟩=>?_)
 subst ex;obtain rfl:u=bX a:=J;exact Qfe U z c n l fun Y s2 G O=>⟨v,H1,G,O,q⟩
theorem Qsf (G:PE X o ta) (j:PE X value tv) (hs:swapsWith value (some (.Attribute o f pos')) pos.line X.env=pure false):PS X (.Assign [.Attribute o f pos'] value pos) (Qyf X.K ta tv f):=by
 intro pins s σ H D I h;refine plainObj_wpAny_Assign_Attribute (thn (j pins s σ H _ I h) fun u s1 ⟨y,H1,Z,Y,q⟩=>thn (G pins s1 σ H1 _ Z q) fun J s2 ⟨x,H2,B,O,a,C,dx,fs,ex,z,c,n,l,q2⟩=>?_) hs
 subst ex;obtain rfl:J=bX a:=O;exact Qeq B z c n l Y fun s3 U=>⟨σ,_,U,q2⟩
end
section
variable {X:Cx} {pins:List (aA × Obj)} {σ:St} {H:Hp} {s:aC} {A:aR} {E:aB->aC->Prop} {Q:aB->aC->Prop} {c:aB} {b:Bool}
inductive TyOf (K:bQ) (H:Hp):V->aB->Prop where
 | non:TyOf K H .non (.type "NoneType")
 | bl (x:Bool):TyOf K H (.bl x) (.type "bool")
 | int (i:Int):TyOf K H (.int i) (.type "int")
 | str (x:Str):TyOf K H (.str x) (.type "str")
 | flt (x:UInt64):TyOf K H (.flt x) (.type "float")
 | lst {a:aA} {xs:List V} (e:H a=some (.lst xs)):TyOf K H (.ref a) (.type "list")
 | frz {a:aA} {o:Obj} {xs:List V} (e:H a=some (.frz o (.lst xs))):TyOf K H (.ref a) (.type "list")
 | tup {a:aA} {xs:List V} (e:H a=some (.tup xs)):TyOf K H (.ref a) (.type "tuple")
 | dK {a:aA} {kvs:List (Key × V)} (e:H a=some (.dK kvs)):TyOf K H (.ref a) (.type "dict")
 | dT {a:aA} {kvs:List (List Key × V)} (e:H a=some (.dT kvs)):TyOf K H (.ref a) (.type "dict")
 | ins {a C dx:aA} {fs:List (Str × V)} (e:H a=some (.ins C dx fs)) (cl:Cls K C) (ha:bY K (.ref C) "__class__" = some (some (.builtin "object.__class__")))
   (hn:eM K (.builtin "object.__class__") "__get__" = some (some (.builtin "getset_descriptor.__get__"))) (htk:fX K (.builtin "object.__class__")=some true)
   (hm:eN K C (.type "object")=some true):TyOf K H (.ref a) (.ref C)
theorem Qi7 {x:V} {u t:aB} (I:Inv X pins σ H s) (B:RelV x u) (ty:TyOf X.K H x t) (e:eO X.K t c=some b) (h:∀ tk,Q (.bool b) { s with toks:=tk }) :
  aI (aJ X.prog X.w) A (call (.builtin "isinstance") [u,c]) Q E s:=by
 cases ty with
 | non=>cases (show u=bc from B); exact bt PySem.W.kitx_none I.kIn True.intro e (fun z=>nomatch z) h
 | bl y=>cases (show u=cG y from B); exact bt PySem.W.kitx_bool I.kIn True.intro e (fun z=>nomatch z) h
 | int i=>obtain ⟨t,q⟩:=(show ∃ t,u=cb i t from B); cases q; exact bt PySem.W.kitx_int I.kIn True.intro e (fun z=>nomatch z) h
 | str y=>obtain ⟨t,q⟩:=(show ∃ t,u=cy y t from B); cases q; exact bt PySem.W.kitx_str I.kIn True.intro e (fun z=>nomatch z) h
 | flt y=>obtain ⟨t,q⟩:=(show ∃ t,u=eA y t from B); cases q; exact bt PySem.W.kitx_float I.kIn True.intro e (fun z=>nomatch z) h
 | @lst a xs j=>
  cases (show u=bX a from B);obtain ⟨_,_,n,_,h1⟩:=(show ObjOk X.prog X.w H s.heap a (.lst xs) from I.hok a _ j);exact bt fY I.kIn ⟨_,h1,rfl⟩ e (fun z=>nomatch z) h
 | @frz a ob xs j=>
  cases (show u=bX a from B);obtain ⟨_,_,_,n,_,h1⟩:=(show ObjOk X.prog X.w H s.heap a (.frz ob (.lst xs)) from I.hok a _ j);exact bt fY I.kIn ⟨_,h1,rfl⟩ e (fun z=>nomatch z) h
 | @tup a xs j=>
  cases (show u=bX a from B);obtain ⟨_,_,_,p⟩:=(show ObjOk X.prog X.w H s.heap a (.tup xs) from I.hok a _ j);obtain ⟨o,h1,h2,_⟩:=p;exact bt PySem.W.kitx_tuple I.kIn ⟨o,h1,h2⟩ e (fun z=>nomatch z) h
 | @dK a kvs j=>
  cases (show u=bX a from B);obtain ⟨_,_,vs,_,p⟩:=(show ObjOk X.prog X.w H s.heap a (.dK kvs) from I.hok a _ j);obtain ⟨o,es,ep,h1,h2,_⟩:=p;exact bt fZ I.kIn ⟨o,h1,h2.1⟩ e (fun z=>nomatch z) h
 | @dT a kvs j=>
  cases (show u=bX a from B);obtain ⟨_,_,xs,_,o,es,ep,h1,h2,_⟩:=(show ObjOk X.prog X.w H s.heap a (.dT kvs) from I.hok a _ j);exact bt fZ I.kIn ⟨o,h1,h2.1⟩ e (fun z=>nomatch z) h
 | @ins a C dx fs j cl Z Y G U=>
  cases (show u=bX a from B);obtain ⟨mA,O,_⟩:=Q6w I.hok j;obtain ⟨od,J,_⟩:=O.look;exact bt (PySem.W.kitx_own (cl.get _) cl.hd Z Y G U) I.kIn J e (fun z=>nomatch z) h
end
structure Room (k:Nat) (A:aR):Prop where
 hd:A.handled=none
 dp:A.depth + 3 * k + 5 < recursionLimit
 un:A.units + 16 * k + 200 < ac
theorem Room.mono {j k:Nat} {A:aR} (r:Room k A) (h:j<=k):Room j A:=⟨r.hd,by have:=r.dp; omega,by have:=r.un; omega⟩
theorem Room.deeper {k:Nat} {A:aR} (r:Room (k + 1) A) (env:Env):Room k (A.deeper env):=
 ⟨r.hd,by have:=r.dp; show A.depth + 1 + 3 * k + 5 < _; omega,by have:=r.un; show A.units + 3 + 16 * k + 200 < _; omega⟩
theorem Qf8 {A:aR} {C:aA} {us:List aB} {j:List (Str × aB)}:(A.under (.builtin "type.__call__" ⟨.ref C :: us,j⟩)).depth=A.depth + 1:=by
 first | rfl | simp [Around.under,Code.weight,Code.isCreation,Code.isGuard,Code.isCaller,Code.frames,Code.isFrame,guardIds]
theorem Qf7 {A:aR} {C:aA} {us:List aB} {j:List (Str × aB)}:(A.under (.builtin "type.__call__" ⟨.ref C :: us,j⟩)).units=A.units + 1:=by
 first | rfl | simp [Around.under,Code.cUnits,Code.frames,Code.isFrame]
theorem Room.make {k:Nat} {A:aR} (r:Room (k + 1) A) (C:aA) (us:List aB) (j:List (Str × aB)):Room k (A.under (.builtin "type.__call__" ⟨.ref C :: us,j⟩)):=
 ⟨r.hd,by have:=r.dp; rw [Qf8]; omega,by have:=r.un; rw [Qf7]; omega⟩
theorem Room.depth {k:Nat} {A:aR} (r:Room k A):A.depth < recursionLimit:=by have:=r.dp; omega
theorem Room.units {k:Nat} {A:aR} (r:Room k A):A.units + 64 < ac:=by have:=r.un; omega
def Qux:TA:=fun _ H Q=>Q [] H
def Qv3 (ta:TE) (tr:TA):TA:=fun σ H Q=>ta σ H fun x H1=>tr σ H1 fun xs H2=>Q (x :: xs) H2
section
variable {X:Cx} {e:aD} {es:List aD} {te:TE} {t:TA} {pos:Pos}
theorem Q7s:PA X [] Qux:=fun _ _ _ _ H Q I h=>Calls.spliced_nil ⟨[],H,I,.nil,h⟩
theorem Q0j (z:PE X e te) (q:PA X es t) (hs:aO (e :: es) X.env=(false,aL e X.env) :: aO es X.env:=by rfl):PA X (e :: es) (Qv3 te t):=by
 intro pos pins s σ H Q I h;rw [hs];show aI _ _ (spliced ((false,aL e X.env) :: aU pos (aO es X.env))) _ _ s;refine Calls.spliced_cons (thn (z pins s σ H _ I h) fun u s1 ⟨x,H1,J,B,q1⟩=>?_)
 exact thn (q pos pins s1 σ H1 _ J q1) fun us s2 ⟨xs,H2,j,G,q2⟩=>⟨x :: xs,H2,j,.cons B G,q2⟩
def Qy6 (t:TA):TE:=fun σ H Q=>t σ H fun xs H1=>xs.length<=sizeLine/\∀ p,H1 p=none->Q (.ref p) (upd H1 p (.tup xs))
def Qya (t:TA):TE:=fun σ H Q=>t σ H fun xs H1=>xs.length<=sizeLine/\∀ p,H1 p=none->Q (.ref p) (upd H1 p (.lst xs))
theorem Qsm {x1} (h:PA X es t):PE X (.Tuple es x1 pos) (Qy6 t):=by
 intro pins s σ H Q I G;refine wpAny_Tuple_spliced (thn (h pos pins s σ H _ I G) fun us s1 ⟨xs,H1,j,r,z,q⟩=>⟨by rw [<- r.length]; exact z,?_⟩)
 have B:H1 s1.heap.objs.size=none:=j.hok.fresh (O8 _);refine ⟨.ref s1.heap.objs.size,upd H1 s1.heap.objs.size (.tup xs),j.laid (t':=s1.toks) (fun b u e=>O1 _ e) (O8 _) ?_,rfl,q _ B⟩;exact ⟨z,us,r,⟨_,D6 _ rfl,rfl,_,rfl⟩⟩
theorem Qk4 (h:PA X es t):PE X (.List es pos) (Qya t):=by
 intro pins s σ H Q I G;refine wpAny_List_spliced (thn (h pos pins s σ H _ I G) fun us s1 ⟨xs,H1,j,r,z,q⟩=>⟨by rw [<- r.length]; exact z,?_⟩)
 have B:H1 s1.heap.objs.size=none:=j.hok.fresh (O8 _);refine ⟨.ref s1.heap.objs.size,upd H1 s1.heap.objs.size (.lst xs),j.laid (t':=s1.toks) (fun b u e=>O1 _ e) (O8 _) ?_,rfl,q _ B⟩;exact ⟨z,us,0,r,D6 _ rfl⟩
end
abbrev Sp:=List V->Hp->VK->XK->Prop
abbrev CXT:=List Env->Hp->aC->XK->aB->aC->Prop
structure Env0 (P:aN) (w:aK) (K:bQ) (mg:Str->Option aB) (base:Heap) (A:aR) (outer:List Env) (s:aC) (H:Hp):Prop where
 frames:A.frames=some outer
 mod:Mod K mg base
 bs:∀ b o,base.get? b=some o->s.heap.get? b=some o/\H b=none
 bsz:base.objs.size<=s.heap.objs.size
 funs:s.heap.FunFrames base outer
 frf:∀ b∈frs outer,H b=none
 hok:HOk P w H s.heap
 bare:AllBare s.gens
def CE (outer:List Env) (P:aN) (w:aK) (H:Hp) (s:aC) (Q:VK) (u:aB) (s':aC):Prop:=
 ∃ v H',s'.os=s.os/\AllBare s'.gens/\Un (frs outer) [] H H' s.heap s'.heap/\HOk P w H' s'.heap/\RelV v u/\Q v H'
def CR (CX:CXT) (outer:List Env) (P:aN) (w:aK) (H:Hp) (s:aC) (Q:VK) (E:XK) (r:Result) (s':aC):Prop:=
 match r with
 | .ok (.ret u)=>CE outer P w H s Q u s'
 | .ok _=>False
 | .error e=>CX outer H s E e s'
structure FnOk (P:aN) (w:aK) (K:bQ) (mg:Str->Option aB) (base:Heap) (CX:CXT) (k:Nat) (f:aA) (fd:aP) (ps:List Str) (sp:Sp):Prop where
 len:∀ vs H Q E,sp vs H Q E->vs.length=ps.length
 run:∀ (A:aR) (outer:List Env) (s:aC) (H:Hp) (args:Args) (us:List aB) (vs:List V) (Q:VK) (E:XK),Room k A->Env0 P w K mg base A outer s H->BindsTo s fd args (ps.zip us)->Vals vs us->sp vs H Q E ->
  codeAny (aJ P w) A (.call (.ref f) args) (CR CX outer P w H s Q E) s
theorem FnOk.imp {P:aN} {w:aK} {K:bQ} {mg:Str->Option aB} {base:Heap} {CX:CXT} {k:Nat} {f:aA} {fd:aP} {ps:List Str} {sp j:Sp} (F:FnOk P w K mg base CX k f fd ps sp)
  (h:∀ vs H Q E,j vs H Q E->sp vs H Q E):FnOk P w K mg base CX k f fd ps j:=
 ⟨fun vs H Q E q=>F.len vs H Q E (h _ _ _ _ q),fun A outer s H args us vs Q E I z G B hs=>F.run A outer s H args us vs Q E I z G B (h _ _ _ _ hs)⟩
theorem Env0.make {P:aN} {w:aK} {K:bQ} {mg:Str->Option aB} {base:Heap} {A:aR} {outer:List Env} {s:aC} {H:Hp} (e:Env0 P w K mg base A outer s H) (C:aA) (us:List aB) (j:List (Str × aB)) :
  Env0 P w K mg base (A.under (.builtin "type.__call__" ⟨.ref C :: us,j⟩)) outer s H:=⟨by first | exact e.frames | (simpa [Around.under,Code.envs,Code.isFrame,pushEnvs] using e.frames),e.mod,e.bs,e.bsz,e.funs,e.frf,e.hok,e.bare⟩
section
variable {X:Cx} {pins:List (aA × Obj)} {σ:St} {H:Hp} {s s':aC}
theorem Inv.env0 (I:Inv X pins σ H s):Env0 X.prog X.w X.K X.mg X.base X.A X.stack s H:=
 ⟨I.ok.frames,I.ok.mod,I.bs,F0 I.ok.bsz I.sz,I.stack,I.stkFree,I.hok,I.bare⟩
theorem Inv.after {Q:VK} {u:aB} (I:Inv X pins σ H s) (h:CE X.stack X.prog X.w H s Q u s'):EP X pins σ Q u s':=by
 obtain ⟨v,H',os,bare,un,hok,r,q⟩:=h;obtain ⟨B,g,d,t,j⟩:=s';obtain rfl:j=s.os:=os;exact ⟨v,H',I.call (h':=B) (g':=g) (d':=d) (t':=t) (ch:=[]) un hok bare (fun b z=>absurd z (by simp)),r,q⟩
end
def Qv4 (sp:Sp) (dvs:List V) (E:XK) (t:TA):TE:=fun σ H Q=>t σ H fun vs H1=>sp (vs ++ dvs) H1 Q E
def Qr2 (C:aA) (m:Str) (sp:Sp) (dvs:List V) (E:XK) (ta:TE) (t:TA):TE:=fun σ H Q=>ta σ H fun x H1=>∃ a dx fs,x=.ref a/\H1 a=some (.ins C dx fs)/\fs.lookup m=none /\
 t σ H1 fun vs H2=>sp (x :: (vs ++ dvs)) H2 Q E
def Quz (C:aA) (sp:Sp) (dvs:List V) (E:XK) (t:TA):TE:=fun σ H Q=>t σ H fun vs H1=>∀ x dx,H1 x=none->H1 dx=none->dx≠x ->
 sp (.ref x :: (vs ++ dvs)) (upd (upd H1 dx (.own x)) x (.ins C dx [])) (fun v H2=>v=.non/\Q (.ref x) H2) E
def Binds (K:bQ) (fd:aP) (ps:List Str) (ds:List aB):Prop:=
 ∀ (s:aC) (us:List aB),K.In s.heap->(us ++ ds).length=ps.length->BindsTo s fd ⟨us,[]⟩ (ps.zip (us ++ ds))
theorem Binds.all {K:bQ} {fd:aP} {ps:List Str} (h:∀ us:List aB,us.length=ps.length->bindArgs fd ⟨us,[]⟩=pure (ps.zip us)):Binds K fd ps []:=fun s us _ j=>by
 rw [bu] at j ⊢;exact .of_eq (h us j)
def jr (CX:CXT) (X:Cx) (E:XK):Prop:=∀ (pins:List (aA × Obj)) (σ:St) (H:Hp) (s:aC) (e:aB) (s':aC),Inv X pins σ H s->CX X.stack H s E e s'->X.xe e s'
section
variable {X:Cx} {CX:CXT} {k:Nat} {f C:aA} {fd:aP} {ps:List Str} {sp:Sp} {dvs:List V} {ds:List aB} {E:XK} {x m:Str} {p pos apos:Pos} {e o:aD} {es:List aD} {ta:TE} {t:TA}
theorem Qes {pins:List (aA × Obj)} {σ:St} {H:Hp} {s:aC} {Q:VK} {us:List aB} {vs:List V} (F:FnOk X.prog X.w X.K X.mg X.base CX k f fd ps sp) (J:Room k X.A) (G:Binds X.K fd ps ds) (hd:Vals dvs ds) (B:jr CX X E)
  (I:Inv X pins σ H s) (r:Vals vs us) (h:sp (vs ++ dvs) H Q E):aI (aJ X.prog X.w) X.A (call (.ref f) us) (EP X pins σ Q) X.xe s:=by
 have q:Vals (vs ++ dvs) (us ++ ds):=r.append hd;have z:(us ++ ds).length=ps.length:=by rw [<- q.length]; exact F.len _ _ _ _ h
 refine wpAny_call (bE (F.run X.A X.stack s H ⟨us,[]⟩ (us ++ ds) (vs ++ dvs) Q E J I.env0 (G s us I.kIn z) q h) fun r s' j=>?_)
 cases r with
 | error e=>exact B pins σ H s e s' I j
 | ok fl=>
  cases fl with
  | ret u=>exact I.after j
  | next=>exact False.elim j
  | brk=>exact False.elim j
  | cont=>exact False.elim j
theorem Qph (F:FnOk X.prog X.w X.K X.mg X.base CX k f fd ps sp) (hr:Room k X.A) (O:Gl X x) (J:X.mg x=some (.ref f)) (hk:bT X.K (.ref f)=true) (Y:Binds X.K fd ps ds) (hd:Vals dvs ds) (U:jr CX X E)
  (Z:PA X (e :: es) t) (z:(x == ("__debug__" : Str))=false:=by decide) (G:aO (e :: es) X.env=(false,aL e X.env) :: aO es X.env:=by rfl) (j:(aU pos (aO es X.env)).any (·.1)=false:=by rfl) :
  PE X (.Call (.Name x p) (e :: es) [] pos) (Qv4 sp dvs E t):=by
 intro pins s σ H Q I h;refine wpAny_Call_Name_kw (zi I O J ?_ z);refine dB (h₀:=X.base) I.ok.mod.kin hk (thn (Z pos pins s σ H _ I h) fun us s1 ⟨vs,H1,B,r,q⟩=>⟨B.kIn,?_⟩) G j
 exact Qes F hr Y hd U B r q
theorem Qpd {pl:Sem Bool} (O:PE X o ta) (c:Cls X.K C) (B:Meth X.K C m f) (F:FnOk X.prog X.w X.K X.mg X.base CX k f fd ps sp) (hr:Room k X.A) (Z:Binds X.K fd ps ds) (hd:Vals dvs ds) (U:jr CX X E) (ha:PA X (e :: es) t)
  (j:aO (e :: es) X.env=(false,aL e X.env) :: aO es X.env:=by rfl) (z:(aU pos (aO es X.env)).any (·.1)=false:=by rfl)
  (ht:aL (.Call (.Attribute o m apos) (e :: es) [] pos) X.env=(do
   let ov <- aL o X.env
   standAt apos.atName
   let (f,first) <- ag [ov] (getMethod ov m pl)
   callWith pos f first (aU pos (aO (e :: es) X.env)) (backToKw pos (keywordEach [] X.env))):=by rfl) :
  PE X (.Call (.Attribute o m apos) (e :: es) [] pos) (Qr2 C m sp dvs E ta t):=by
 intro pins s σ H Q I h;refine fb (pl:=pl) (thn (O pins s σ H _ I h) fun u s1 ⟨x,H1,J,rx,a,dx,fs,ex,Y,l,q⟩=>?_) ht
 subst ex;obtain rfl:u=bX a:=rx;refine Q8t J Y c B l ?_;refine dB (first:=[.ref a]) (h₀:=X.base) I.ok.mod.kin B.kp (thn (ha pos pins s1 σ H1 _ J q) fun us s2 ⟨vs,H2,G,r,q2⟩=>⟨G.kIn,?_⟩) j z
 exact Qes (us:=.ref a :: us) (vs:=.ref a :: vs) F hr Z hd U G (.cons rfl r) q2
theorem Qk3 {pl:Sem Bool} (B:PE X o ta) (c:Cls X.K C) (z:Meth X.K C m f) (F:FnOk X.prog X.w X.K X.mg X.base CX k f fd ps sp) (Z:Room k X.A) (O:Binds X.K fd ps ds) (hd:Vals dvs ds) (G:jr CX X E)
  (Y:aL (.Call (.Attribute o m apos) [] [] pos) X.env=(do
   let ov <- aL o X.env
   standAt apos.atName
   let (f,first) <- ag [ov] (getMethod ov m pl)
   callWith pos f first (aU pos (aO [] X.env)) (backToKw pos (keywordEach [] X.env))):=by rfl) :
  PE X (.Call (.Attribute o m apos) [] [] pos) (Qr2 C m sp dvs E ta Qux):=by
 intro pins s σ H Q I h;refine fb (pl:=pl) (thn (B pins s σ H _ I h) fun u s1 ⟨x,H1,j,U,a,dx,fs,ex,J,l,q⟩=>?_) Y
 subst ex;obtain rfl:u=bX a:=U;refine Q8t j J c z l ?_;exact PySem.W.callWith_K0 (first:=[.ref a]) j.kIn z.kp (Qes (us:=[.ref a]) (vs:=[.ref a]) F Z O hd G j (.cons rfl .nil) q)
structure Mk (K:bQ) (C f:aA):Prop where
 makes:eK K C=true
 init:bY K (.ref C) "__init__" = some (some (.ref f))
 fn:bi K (.ref f)=true
 kp:bT K (.ref C)=true
theorem Qjj {pins:List (aA × Obj)} {σ:St} {H:Hp} {s:aC} {Q:VK} {us:List aB} {vs:List V} (M:Mk X.K C f) (F:FnOk X.prog X.w X.K X.mg X.base CX k f fd ps sp) (hr:Room (k + 1) X.A) (U:Binds X.K fd ps ds) (hd:Vals dvs ds)
  (J:jr CX X E) (I:Inv X pins σ H s) (r:Vals vs us)
  (h:∀ x dx,H x=none->H dx=none->dx≠x->sp (.ref x :: (vs ++ dvs)) (upd (upd H dx (.own x)) x (.ins C dx [])) (fun v H2=>v=.non/\Q (.ref x) H2) E) :
  aI (aJ X.prog X.w) X.A (call (.ref C) us) (EP X pins σ Q) X.xe s:=by
 have z:=h (s.heap.objs.size + 1) s.heap.objs.size (I.hok.fresh (cS _)) (I.hok.fresh (O8 _)) (E5 (cR _));have q:=Inv.made (C:=C) I;have B:Vals (V.ref (s.heap.objs.size + 1) :: (vs ++ dvs)) (bX (s.heap.objs.size + 1) :: (us ++ ds)):=.cons rfl (r.append hd);have G:(bX (s.heap.objs.size + 1) :: us ++ ds).length=ps.length:=by
  have e:=B.length;rw [F.len _ _ _ _ z] at e;exact e.symm
 refine wpAny_call (Qkj (f:=f) I.kIn M.makes M.init (beq_iff_eq.mp M.fn) (bE (F.run _ X.stack _ _ ⟨bX (s.heap.objs.size + 1) :: us,[]⟩ (bX (s.heap.objs.size + 1) :: (us ++ ds)) _ _ E (hr.make C us [])
  (q.env0.make C us []) (U _ (bX (s.heap.objs.size + 1) :: us) q.kIn G) B z) fun r s' j=>?_))
 cases r with
 | error e=>exact J pins σ _ _ e s' q j
 | ok fl=>
  cases fl with
  | ret u=>
   obtain ⟨v,H',Z,O,Y,q3⟩:=q.after j;subst Y;exact ⟨O,⟨V.ref (s.heap.objs.size + 1),H',Z,rfl,q3⟩⟩
  | next=>exact False.elim j
  | brk=>exact False.elim j
  | cont=>exact False.elim j
theorem Qpe (M:Mk X.K C f) (F:FnOk X.prog X.w X.K X.mg X.base CX k f fd ps sp) (hr:Room (k + 1) X.A) (O:Gl X x) (J:X.mg x=some (.ref C)) (Y:Binds X.K fd ps ds) (hd:Vals dvs ds) (U:jr CX X E)
  (Z:PA X (e :: es) t) (z:(x == ("__debug__" : Str))=false:=by decide) (G:aO (e :: es) X.env=(false,aL e X.env) :: aO es X.env:=by rfl) (j:(aU pos (aO es X.env)).any (·.1)=false:=by rfl) :
  PE X (.Call (.Name x p) (e :: es) [] pos) (Quz C sp dvs E t):=by
 intro pins s σ H Q I h;refine wpAny_Call_Name_kw (zi I O J ?_ z);refine dB (h₀:=X.base) I.ok.mod.kin M.kp (thn (Z pos pins s σ H _ I h) fun us s1 ⟨vs,H1,B,r,q⟩=>⟨B.kIn,?_⟩) G j
 exact Qjj M F hr Y hd U B r q
end
def PK (X:Cx) (kws:List Keyword) (t:TA):Prop:=
 ∀ (pos:Pos) (pins:List (aA × Obj)) (s:aC) (σ:St) (H:Hp) (Q:List V->Hp->Prop),Inv X pins σ H s->t σ H Q->aI (aJ X.prog X.w) X.A (evalAll ((backToKw pos (keywordEach kws X.env)).map (·.2))) (AP X pins σ Q) X.xe s
section
variable {X:Cx} {CX:CXT} {k:Nat} {f C:aA} {fd:aP} {ps ks:List Str} {sp:Sp} {E:XK} {x m:Str} {p pos apos kpos:Pos} {e o:aD} {es:List aD} {kws:List Keyword} {te ta:TE} {t tk:TA} {nm:Option Str}
variable {g:List aB->List aB->List aB} {gV:List V->List V->List V}
end
structure FnScope (N P:List Str) (sc:Scope):Prop where
 kind:sc.kind=.function
 co:sc.isCoroutine=false
 gen:sc.isGenerator=false
 nd:N.Nodup
 pre:N.take P.length=P
 par:∀ x∈P,sc.names.lookup x=some .local\/sc.names.lookup x=some .cell
 nofree:∀ y∈sc.names,y.2≠.free
theorem Qb9 {kindOf:Str->Option aj} {x:Str}:∀ {binds:List (Str × aB)} {m:Str->Option aB},(∀ v,(x,v)∉binds)->bindL kindOf binds m x=m x
 | [],_,_=>rfl
 | (n,v) :: r,m,h=>by
  unfold bindL;rw [Qb9 fun w j=>h w (D0 _ j)]
  split
  ·have:x≠n:=by rintro rfl; exact h v D3
   simp [this]
  ·rfl
theorem Qbb {kindOf:Str->Option aj} {x:Str}:∀ {binds:List (Str × aB)} {m:Str->Option aB},(∀ v,(x,v)∉binds)->bindC kindOf binds m x=m x
 | [],_,_=>rfl
 | (n,v) :: r,m,h=>by
  unfold bindC;rw [Qbb fun w j=>h w (D0 _ j)]
  split
  ·rfl
  ·have:x≠n:=by rintro rfl; exact h v D3
   simp [this]
theorem Qba {kindOf:Str->Option aj} {x:Str} {v:aB}:∀ {P:List Str} {vs:List aB} {i:Nat} {m:Str->Option aB},P.Nodup->P[i]?=some x->vs[i]?=some v->kindOf x=some .local ->
  bindL kindOf (P.zip vs) m x=some v
 | [],_,_,_,_,h,_,_=>by simp at h
 | _ :: _,[],_,_,_,_,h,_=>by simp at h
 | p :: P,w :: vs,0,m,nd,h1,h2,j=>by
  simp at h1 h2; subst h1; subst h2;show bindL kindOf ((p,w) :: P.zip vs) m p=_;unfold bindL;rw [Qb9 fun v q=>(dX.mp nd).1 (ce q).1,bK j]
  simp
 | p :: P,w :: vs,i + 1,m,nd,h1,h2,j=>by
  show bindL kindOf ((p,w) :: P.zip vs) m x=_;unfold bindL;exact Qba (i:=i) (dX.mp nd).2 (by simpa using h1) (by simpa using h2) j
theorem Qbc {kindOf:Str->Option aj} {x:Str} {v:aB}:∀ {P:List Str} {vs:List aB} {i:Nat} {m:Str->Option aB},P.Nodup->P[i]?=some x->vs[i]?=some v->kindOf x≠some .local ->
  bindC kindOf (P.zip vs) m x=some v
 | [],_,_,_,_,h,_,_=>by simp at h
 | _ :: _,[],_,_,_,_,h,_=>by simp at h
 | p :: P,w :: vs,0,m,nd,h1,h2,j=>by
  simp at h1 h2; subst h1; subst h2;show bindC kindOf ((p,w) :: P.zip vs) m p=_;unfold bindC;rw [Qbb fun v q=>(dX.mp nd).1 (ce q).1,bL j]
  simp
 | p :: P,w :: vs,i + 1,m,nd,h1,h2,j=>by
  show bindC kindOf ((p,w) :: P.zip vs) m x=_;unfold bindC;exact Qbc (i:=i) (dX.mp nd).2 (by simpa using h1) (by simpa using h2) j
def start (N:List Str) (vs:List V):St:=vs.map some ++ bR (N.length - vs.length) none
def Qfh (CX:CXT) (P:aN) (w:aK) (K:bQ) (mg:Str->Option aB) (base:Heap) (N:List Str) (qual:Str) (scope:Scope) (f:aA) (cd:aB) (A:aR) (outer:List Env) (s:aC) (H:Hp) (E:XK):Cx where
 prog:=P
 w:=w
 K:=K
 mg:=mg
 base:=base
 A:=A.deeper (envOfC qual scope s.heap.objs.size f cd)
 N:=N
 s₀:=s
 H₀:=H
 env:=envOfC qual scope s.heap.objs.size f cd
 outer:=outer
 stack:=envOfC qual scope s.heap.objs.size f cd :: outer
 ex:=[]
 calm:=true
 fn:=fun _=>true
 pn:=[]
 xe:=fun e s'=>aI (aJ P w) (A.deeper (envOfC qual scope s.heap.objs.size f cd)) (leaving (envOfC qual scope s.heap.objs.size f cd) e) (fun _ s''=>CX outer H s E e s'') (fun e' s''=>CX outer H s E e' s'') s'
theorem Qe6 {sc:Scope} {n:Nat} {x:Str} (h:sc.names.lookup x=some .cell):∃ c,(ae n sc.names []).lookup x=some c:=by
 have q:=eP sc.names n [] (.inl h);exact fe.mp q
theorem Qi9 {CX:CXT} {P:aN} {w:aK} {K:bQ} {mg:Str->Option aB} {base:Heap} {N ps:List Str} {qual:Str} {scope:Scope} {f:aA} {cd:aB} {A:aR} {outer:List Env} {s s1:aC} {H:Hp} {E:XK} {us:List aB} {vs:List V}
  (S:FnScope N ps scope) (hd:A.handled=none) (j:Env0 P w K mg base A outer s H) (hl:vs.length=ps.length) (r:Vals vs us)
  (x:InCallC s s.heap.objs.size (bindL (envOfC qual scope s.heap.objs.size f cd).kindOf (ps.zip us) fun _=>none) (ae (s.heap.objs.size + 1) scope.names []) (bindC (envOfC qual scope s.heap.objs.size f cd).kindOf (ps.zip us) fun _=>none) s1) :
  Inv (Qfh CX P w K mg base N qual scope f cd A outer s H E) [] (start N vs) H s1:=by
 have Y:ps.length<=N.length:=by have:=congrArg eQ S.pre; rw [cJ] at this; omega
 obtain ⟨h1,tk,rfl,J⟩:=x.done;have B:∀ b:aA,b∉(Qfh CX P w K mg base N qual scope f cd A outer s H E).ex:=fun b z=>absurd (show b∈([]:List aA) from z) (by simp)
 refine ⟨⟨j.mod,S.kind,rfl,rfl,O8 _,fun y z c h1 h2=>?_,fun y G=>?_,fun y c _ h=>?_,fun _=>hd,Around.frames_deeper j.frames,.inr ⟨rfl,rfl⟩,fun b z=>absurd z (B b),j.bs,j.bsz,fun b _ _=>B b,fun b z=>absurd z (B b),j.funs,j.frf⟩,
  rfl,j.bare,Un.kept J,⟨_,x.toInCall.ns,fun i y v h1 h2 h3=>?_⟩,fun y c h=>⟨_,x.cell y c h⟩,j.hok.fresh (O8 _),fun y c h=>?_,fun p hp=>absurd (show p∈([]:List (aA × Obj)) from hp) (by simp),j.hok.kept J,?_⟩
 ·exact name_of_addr x.apart (cD h1) (cD h2)
 ·have G:scope.names.lookup y=some .cell\/scope.names.lookup y=some .free:=G;rcases G with G | G
  ·exact Qe6 G
  ·exact absurd rfl (S.nofree _ (cD G))
 ·exact D9 (x.above y c (cD h))
 ·have hi:i < vs.length:=by
   unfold start at h2
   by_cases hi:i < vs.length
   ·exact hi
   ·rw [D2 (by simpa using hi)] at h2;rw [cU] at h2
    split at h2 <;> cases h2
  have Z:vs[i]?=some v:=by
   unfold start at h2;rw [O5 (by simpa using hi),E4] at h2;cases e:vs[i]? with
   | none=>rw [e] at h2; cases h2
   | some a=>rw [e] at h2; cases h2; rfl
  obtain ⟨u,O,U⟩:=r.get Z;have hp:ps[i]?=some y:=by
   rw [<- S.pre,List.getElem?_take_of_lt (by omega)]; exact h1
  have I:ps.Nodup:=by rw [<- S.pre]; exact S.nd.sublist (List.take_sublist _ _)
  refine ⟨u,U,?_⟩;rcases S.par y (D5 hp) with k | k
  ·exact .inl ⟨k,Qba I hp O k⟩
  ·obtain ⟨c,e⟩:=Qe6 (n:=s.heap.objs.size + 1) k;refine .inr ⟨.inl k,c,e,?_⟩;have q:=x.cell y c e;rw [Qbc I hp O (by show scope.names.lookup y≠_; rw [k]; decide)] at q;exact q
 ·exact j.hok.fresh (D9 (x.above y c (cD h)))
 ·unfold start;show _=N.length;rw [O9,O2,eR];omega
theorem Qrh {CX:CXT} {P:aN} {w:aK} {K:bQ} {mg:Str->Option aB} {base:Heap} {k:Nat} {f:aA} {name qual:Str} {z:Arguments} {body:List aM} {scope:Scope} {dV kV U pm j ct oc:aB} {an od:Option aA}
  {a3:Array (Option aB)} {N ps:List Str} {sp:Sp} (lk:K.lookup f=some ⟨oc,od,.func (bU name qual z body scope dV kV U pm an j ct),a3⟩) (a2:bW K j qual=true) (S:FnScope N ps scope)
  (len:∀ vs H Q E,sp vs H Q E->vs.length=ps.length)
  (G:∀ (A:aR) (outer:List Env) (s:aC) (H:Hp) (vs:List V) (Q:VK) (E:XK),Room k (A.deeper (envOfC qual scope s.heap.objs.size f j))->sp vs H Q E ->
   ∃ t,PSs (Qfh CX P w K mg base N qual scope f j A outer s H E) body t/\t { nx:=fun _ H'=>Q .non H',rt:=Q } (start N vs) H) :
  FnOk P w K mg base CX (k + 1) f (bU name qual z body scope dV kV U pm an j ct) ps sp:=by
 refine ⟨len,fun A outer s H args us vs Q E hr Y hb r Z=>?_⟩;have hl:=len _ _ _ _ Z;have KX:K.In s.heap:=Y.mod.kin.keeps fun b o e=>(Y.bs b o e).1
 have lim:s.heap.NoLimit:=Y.mod.nolimit.keeps fun b o e=>(Y.bs b o e).1
 have O:∀ y∈ps.zip us,scope.names.lookup y.1=some .local\/(scope.names.lookup y.1=some .cell/\((ae (s.heap.objs.size + 1) scope.names []).lookup y.1).isSome=true):=fun ⟨n,v⟩ hy=>by
  rcases S.par n (ce hy).1 with q | q
  ·exact .inl q
  ·exact .inr ⟨q,eP _ _ _ (.inl q)⟩
 refine codeAny_call_function hr.depth (KX _ _ lk) rfl S.co S.gen rfl (PySem.W.codeRec_of KX a2) (hb _ _ _ _ ?_);refine wpAny_newFunctionEnv_cells S.kind O fun env he s1 x=>?_
 subst he;refine ⟨lim.keeps x.toInCall.keep,codeAny_func ?_⟩;obtain ⟨t,ht,hq⟩:=G A outer s H vs Q E (hr.deeper _) Z;have I:Inv (Qfh CX P w K mg base N qual scope f j A outer s H E) [] (start N vs) H s1:=Qi9 S hr.hd Y hl r x;refine ad (ht [] s1 (start N vs) H _ I hq) (fun fl s' hs=>?_) fun e s' hs=>hs
 have fin:∀ {B:St} {H':Hp} {v:V} {u:aB},Inv (Qfh CX P w K mg base N qual scope f j A outer s H E) [] B H' s'->RelV v u->Q v H'->CE outer P w H s Q u s':=
  fun {B H' v u} J rv q=>⟨v,H',J.os,J.bare,J.base,J.hok,rv,q⟩
 cases fl with
 | ret u=>
  obtain ⟨v,B,H',J,rv,q⟩:=hs;exact fin J rv q
 | next=>
  obtain ⟨B,H',J,q⟩:=hs;exact fin (v:=V.non) (u:=bc) J rfl q
 | brk=>
  obtain ⟨_,_,_,q⟩:=hs;exact False.elim q
 | cont=>
  obtain ⟨_,_,_,q⟩:=hs;exact False.elim q
section
variable {X:Cx} {x:Str} {p pos:Pos} {e:aD} {es:List aD} {t:TA} {id T:String} {r:List V->Hp->VK->Prop}
def tCB (r:List V->Hp->VK->Prop) (t:TA):TE:=fun σ H Q=>t σ H fun vs H1=>r vs H1 Q
theorem Qd8 (hc:jv X (.builtin id) r) (J:Gl X x) (G:X.mg x=none) (B:aa x=some (.builtin id)) (U:PA X (e :: es) t) (O:x≠"__name__" := by decide) (q:(x == ("__debug__" : Str))=false:=by decide)
  (z:aO (e :: es) X.env=(false,aL e X.env) :: aO es X.env:=by rfl) (j:(aU pos (aO es X.env)).any (·.1)=false:=by rfl):PE X (.Call (.Name x p) (e :: es) [] pos) (tCB r t):=by
 intro pins s σ H Q I h;refine wpAny_Call_Name_kw (Q3v I J G B ?_ O q);exact gi (thn (U pos pins s σ H _ I h) fun us s1 ⟨vs,H1,Z,Y,q1⟩=>hc pins s1 σ H1 vs us Q Z Y q1) z j
theorem Qhj (hc:jv X (.type T) r) (J:Gl X x) (G:X.mg x=none) (B:aa x=some (.type T)) (U:PA X (e :: es) t) (O:x≠"__name__" := by decide) (q:(x == ("__debug__" : Str))=false:=by decide)
  (z:aO (e :: es) X.env=(false,aL e X.env) :: aO es X.env:=by rfl) (j:(aU pos (aO es X.env)).any (·.1)=false:=by rfl):PE X (.Call (.Name x p) (e :: es) [] pos) (tCB r t):=by
 intro pins s σ H Q I h;refine wpAny_Call_Name_kw (Q3v I J G B ?_ O q);exact cz (thn (U pos pins s σ H _ I h) fun us s1 ⟨vs,H1,Z,Y,q1⟩=>hc pins s1 σ H1 vs us Q Z Y q1) z j
end
end L2
namespace HT
open PySem PyProof.Rows
def lexLt:List Int->List Int->Bool
 | [],[]=>false
 | [],_ :: _=>true
 | _ :: _,[]=>false
 | x :: xs,y :: ys=>if x=y then lexLt xs ys else decide (x < y)
theorem Qfc (x y:Int) (xs ys:List Int):lexLt (x :: xs) (y :: ys)=if x=y then lexLt xs ys else decide (x < y):=rfl
theorem Qa8:lexLt [] []=false:=rfl
theorem Q8h (y:Int) (ys:List Int):lexLt [] (y :: ys)=true:=rfl
theorem Q8i (x:Int) (xs:List Int):lexLt (x :: xs) []=false:=rfl
theorem Qm6 (A:aR) (s:aC) (a:Int) (t:Tok) (c:Int) (u:Tok):∃ e,SeqAt.EqAt A s (.int a t) (.int c u) e/\(e=true <-> a=c):=
 ⟨(a == c),SeqAt.EqAt.int_int a t c u,by simp⟩
theorem Qjm (A:aR) (s:aC) (a:Int) (t:Tok) (c:Int) (u:Tok) (prog:aN) (w:aK) (E:aB->aC->Prop) (Q:aB->aC->Prop) (h:Q (.bool (decide (a < c))) s) :
  aI (aJ prog w) A (richCompare .Lt (.int a t) (.int c u)) Q E s:=
 (gj h:aI (aJ prog w) A (aV .Lt (.int a t) (.int c u)) Q E s)
section
open PySem.SeqAt
open PySem.AutoSeq1 (wpAny_loadPart')
open PySem.MeetsSeq PySem.MeetsSeq2 PySem.MeetsSeq3
theorem Q9a (l b:aA) (z j:Array aB) (n n2:Nat) (dd a5:Option aA) (sl a7:Array (Option aB)) (ns ms:List Int) (hi:IntsAre z.toList ns) (hj:IntsAre j.toList ms) :
  Meets (Builtin.«tuple.__lt__» ⟨[.ref l,.ref b],[]⟩)
   (fun _ R s=>s.heap.get? l=some { cls:=.type "tuple",dict:=dd,data:=.seq z n,slots:=sl }/\s.heap.get? b=some { cls:=.type "tuple",dict:=a5,data:=.seq j n2,slots:=a7 } /\
    R (.ok (.ret (.bool (lexLt ns ms)))) s):=
 .of_wp fun prog w A R s h=>by
  obtain ⟨hp,g,d,tk,os⟩:=s; obtain ⟨hl,hb,h⟩:=h;have f2:=AutoSeq1.sub_tuple_tuple;have z1:z.size=ns.length:=by rw [<- hi.length]; simp
  have z2:j.size=ms.length:=by rw [<- hj.length]; simp
  wp_walk using wpAny_loadPart' hl,wpAny_loadPart' hb,wpAny_forIn_list _ (fun rest b s'=>b.1=none/\s'=⟨hp,g,d,tk,os⟩/\∃ (vs ws:List aB) (I G:List Int),rest=vs.zip ws /\
   IntsAre vs I/\IntsAre ws G/\I.length + j.size=G.length + z.size/\R (.ok (.ret (.bool (lexLt I G)))) ⟨hp,g,d,tk,os⟩) _
  case turn=>
   rintro ⟨y,x⟩ rest b s' ⟨a2,rfl,vs,ws,I,G,hz,Z,J,B,O⟩;cases Z with
   | nil=>rw [List.zip_nil_left] at hz; cases hz
   | cons a t a3=>
    cases J with
    | nil=>rw [List.zip_nil_right] at hz; cases hz
    | cons c u a4=>
     rw [fh] at hz;injection hz with a8 Y
     injection a8 with hy hx
     subst hy hx;rw [Qfc] at O;simp only [D4] at B;obtain ⟨e,he,U⟩:=Qm6 A.in1 ⟨hp,g,d,tk,os⟩ a t c u;refine aF (he prog w _ _ ?_);cases e with
     | true=>
      rw [bK (U.mp rfl)] at O
      wp_walk
      exact ⟨rfl,rfl,_,_,_,_,Y,a3,a4,by omega,O⟩
     | false=>
      rw [bL (fun q=>absurd (U.mpr q) D8)] at O
      have a6:=Qjm A.in1 ⟨hp,g,d,tk,os⟩ a t c u prog w
      wp_walk using a6
      exact ⟨_,rfl,by simpa using O⟩
  case fin=>
   rintro ⟨b1,b2⟩ s' ⟨a2,rfl,vs,ws,I,G,hz,Z,J,B,O⟩;simp only at a2;subst a2;have hv:lexLt I G=decide (z.size < j.size):=by
    cases Z with
    | nil=>
     cases J with
     | nil=>
      simp only [cK] at B;rw [Qa8];exact (bN (by omega)).symm
     | cons c u hw=>
      simp only [cK,D4] at B;rw [Q8h];exact (bO (by omega)).symm
    | cons a t hv=>
     cases J with
     | nil=>
      simp only [cK,D4] at B;rw [Q8i];exact (bN (by omega)).symm
     | cons c u hw=>
      rw [fh] at hz;cases hz
   rw [hv] at O
   wp_walk
   exact ⟨_,rfl,by simpa [Builtin.Tuple.tupleCompareSizes] using O⟩
  case h=>
   exact ⟨rfl,rfl,z.toList,j.toList,ns,ms,rfl,hi,hj,by omega,h⟩
end
section
variable {prog:aN} {w:aK} {A:aR} {E:aB->aC->Prop} {s:aC}
theorem lt_tupInts {l b:aA} {q j:Array aB} {ns ms:List Int} {Q:aB->aC->Prop} (I:IsTup s.heap l q) (J:IsTup s.heap b j) (hi:IntsAre q.toList ns) (O:IntsAre j.toList ms)
  (U:A.units < ac) (h:Q (.bool (lexLt ns ms)) s):aI (aJ prog w) A (aV .Lt (.ref l) (.ref b)) Q E s:=by
 obtain ⟨⟨cls,dd,data,sl⟩,ho,hc,n,hd⟩:=id I;obtain ⟨⟨G,B,data2,z⟩,ho2,hc2,n2,hd2⟩:=id J;simp only at hc hd hc2 hd2;subst hc hd hc2 hd2;exact richCompare_meets_room (op:=.Lt) ⟨_,ho,rfl⟩ ⟨_,ho2,rfl⟩ PySem.F.slot_tuple_lt PySem.F.entry_tuple_lt (PySem.F.args_tuple_lt_2 _ _) (Q9a l b q j n n2 dd B sl z ns ms hi O)
  ⟨ho,ho2,show cG (lexLt ns ms)≠fj/\Q (.bool (lexLt ns ms)) s from ⟨(fun x=>nomatch x),h⟩⟩ U
theorem cat_tup {t b:aA} {vs j:List aB} {Q:aB->aC->Prop} (U:IsTup s.heap t vs.toArray) (O:IsTup s.heap b j.toArray) (I:vs≠[])
  (h1:j=[]->Q (.ref t) s) (h2:j≠[]->Q (.ref s.heap.objs.size) { s with heap:=s.heap.push { cls:=.type "tuple",data:=.seq (vs ++ j).toArray } })
  (G:vs.length + j.length<=sizeLine):aI (aJ prog w) A (aW .Add (.ref t) (.ref b)) Q E s:=by
 obtain ⟨⟨cls,dd,data,sl⟩,ho,hc,n,hd⟩:=id U;obtain ⟨⟨J,z,data2,q⟩,ho2,hc2,n2,hd2⟩:=id O;simp only at hc hd hc2 hd2;subst hc hd hc2 hd2;have e:vs.toArray ++ j.toArray=(vs ++ j).toArray:=by simp
 by_cases B:j=[]
 ·exact concat_meets ⟨_,ho,rfl⟩ ⟨_,ho2,rfl⟩ noFill_tuple_add seq_tuple_add eT eU (eV _ _)
   (tuple_addW1 t b vs.toArray j.toArray n n2 dd z sl q (by simpa using I) (by simp [B])) ⟨ho,ho2,h1 B⟩
 ·refine concat_meets ⟨_,ho,rfl⟩ ⟨_,ho2,rfl⟩ noFill_tuple_add seq_tuple_add eT eU (eV _ _)
   (tuple_addW2 t b vs.toArray j.toArray n n2 dd z sl q (by simpa using I) (by simpa using B) (by rw [O3,O3]; exact G)) ⟨ho,ho2,?_⟩
  rw [e];exact h2 B
def sIx (n d:Nat):Option Int->Nat
 | none=>d
 | some v=>if v < 0 then (v + (n:Int)).toNat else min v.toNat n
theorem sIx_none (n d:Nat):sIx n d none=d:=rfl
theorem sIx_nat (n d k:Nat):sIx n d (some (k:Int))=min k n:=by
 show (if (k:Int) < 0 then ((k:Int) + (n:Int)).toNat else min (k:Int).toNat n)=min k n;rw [bL (by omega),cE]
theorem Qs6 (n d:Nat) (hd:d<=n) (o:Option Int):sIx n d o<=n:=by
 cases o with
 | none=>exact hd
 | some v=>
  show (if v < 0 then (v + (n:Int)).toNat else min v.toNat n)<=n
  by_cases j:v < 0
  ·rw [bK j]; omega
  ·rw [bL j]; exact fk _ _
theorem Qgk (v:Int) (n d:Nat):(if v < 0 then max (v + (n:Int)) 0 else min v (n:Int))=((sIx n d (some v):Nat):Int):=by
 show (if v < 0 then max (v + (n:Int)) 0 else min v (n:Int))=(((if v < 0 then (v + (n:Int)).toNat else min v.toNat n):Nat):Int)
 by_cases j:v < 0
 ·simp only [bK j]; omega
 ·simp only [bL j]; omega
theorem Qfs (lo hi:Option Int) (n:Nat):Builtin.Slice.sliceAdjust lo hi 1 (n:Int)=(((sIx n 0 lo:Nat):Int),((sIx n n hi:Nat):Int)):=by
 have h1:¬ ((1:Int) < 0):=by omega
 unfold Builtin.Slice.sliceAdjust;simp only [h1,if_false];refine Prod.ext ?_ ?_
 ·cases lo with
  | none=>rfl
  | some v=>exact Qgk v n 0
 ·cases hi with
  | none=>rfl
  | some v=>exact Qgk v n n
theorem Qeu (i j:Nat):Builtin.Slice.slicePlaces (i:Int) (j:Int) 1=j - i:=by
 unfold Builtin.Slice.slicePlaces;have h1:(1:Int) > 0:=by omega
 simp only [h1,if_true,Int.ediv_one]
 split <;> omega
theorem Q7e {v:aB} {o:Option Int} {Q:Option Int->aC->Prop} (p:IsPart v o) (h:Q o s):aI (aJ prog w) A (Builtin.Slice.slicePartIndex v) Q E s:=by
 cases p with
 | none=>exact slicePart_none h
 | int i t=>exact slicePart_int h
theorem xk {sl:aA} {B z:aB} {lo hi:Option Int} {n:Nat} {Q:Int × Int × Nat->aC->Prop} (hs:s.heap.IsSliceOf sl B z .none) (pl:IsPart B lo) (G:IsPart z hi)
  (h:Q (((sIx n 0 lo:Nat):Int),1,sIx n n hi - sIx n 0 lo) s):aI (aJ prog w) A (Builtin.Slice.sliceApplied (.ref sl) (pure (n:Int))) Q E s:=by
 obtain ⟨os,j,I,q⟩:=id hs;unfold Builtin.Slice.sliceApplied Builtin.Slice.sliceFields;refine aF (aF (aX j q (x:=B) rfl (aF (aX j q (x:=z) rfl (aF (aX j q (x:=.none) rfl (aS ?_)))))));refine aF (slicePart_none ?_);show aI _ _ (if ((1:Int) == 0)=true then _ else _) _ _ s;rw [bL (by decide)];refine aF (Q7e pl (aF (Q7e G (aF (aS ?_)))));show aI _ _ (match Builtin.Slice.sliceAdjust lo hi 1 (n:Int) with | (lo,hi)=>pure (lo,(1:Int),Builtin.Slice.slicePlaces lo hi 1)) _ _ s
 rw [Qfs lo hi n];show aI _ _ (pure (((sIx n 0 lo:Nat):Int),(1:Int),Builtin.Slice.slicePlaces ((sIx n 0 lo:Nat):Int) ((sIx n n hi:Nat):Int) 1)) _ _ s;rw [Qeu];exact aS h
theorem Qjy (xs:Array aB) (i k:Nat):((bV k).filterMap fun (m:Nat)=>xs[((i:Int) + (m:Int) * 1).toNat]?).toArray=((xs.toList.drop i).take k).toArray:=by
 have e:(fun (m:Nat)=>xs[((i:Int) + (m:Int) * 1).toNat]?)=fun m=>xs[i + m]?:=by
  funext m;have:((i:Int) + (m:Int) * 1).toNat=i + m:=by omega
  rw [this]
 rw [e];have:=pick_run xs i k;rw [List.filterMap_map] at this;have e2:((fun x=>xs[x]?) ∘ fun x=>i + x)=fun m=>xs[i + m]?:=rfl
 rw [e2] at this;rw [this]
theorem getItem_tuple_cut {t sl:aA} {j:Array aB} {U Y:aB} {lo hi:Option Int} {Q:aB->aC->Prop} (B:IsTup s.heap t j) (hs:s.heap.IsSliceOf sl U Y .none) (pl:IsPart U lo) (pu:IsPart Y hi)
  (Z:¬ (sIx j.size 0 lo=0/\sIx j.size j.size hi=j.size))
  (h:Q (.ref s.heap.objs.size) { s with heap:=s.heap.push { cls:=.type "tuple",data:=.seq ((j.toList.drop (sIx j.size 0 lo)).take (sIx j.size j.size hi - sIx j.size 0 lo)).toArray } })
  (a3:j.size<=sizeLine):aI (aJ prog w) A (getItem (.ref t) (.ref sl)) Q E s:=by
 have z:sizeOk (.seq ((j.toList.drop (sIx j.size 0 lo)).take (sIx j.size j.size hi - sIx j.size 0 lo)).toArray):=by
  show ((j.toList.drop (sIx j.size 0 lo)).take (sIx j.size j.size hi - sIx j.size 0 lo)).toArray.size<=sizeLine;rw [O3,cJ,cV,eE];omega
 have hj:sIx j.size j.size hi<=j.size:=Qs6 _ _ (O8 _) hi;obtain ⟨os,J,O,a2⟩:=id hs;have G:s.TypeIs (.ref sl) "slice" := ⟨os,J,O⟩;unfold getItem
 try with_reducible refine aw ?_
 first | refine aF (aS ?_) | skip
 refine aF (wpAny_sequenceKey B.typeIs (by decide) ?_);refine aF (wpAny_callSpecial?_slot (name:=bP "__getitem__") B.typeIs dY
  (bA dY B.typeIs entry_tuple_getitem ?_ (args_tuple_getitem _ _)))
 show aI _ _ (Builtin.Tuple.tupleItemsOf (.ref t) >>= _) _ _ s;refine aF (tupleItemsOf_ B ?_);refine aF (bH G ?_);rw [bK (by decide)];refine aF (xk hs pl pu ?_);have I:¬ ((((sIx j.size 0 lo:Nat):Int) == 0 && (1:Int) == 1 && (sIx j.size j.size hi - sIx j.size 0 lo) == j.size)=true):=by
  intro q;rw [G6,G6] at q;have q1:((sIx j.size 0 lo:Nat):Int)=0:=eq_of_beq q.1.1;have q2:sIx j.size j.size hi - sIx j.size 0 lo=j.size:=eq_of_beq q.2;exact Z ⟨by omega,by omega⟩
 show aI _ _ (if (((sIx j.size 0 lo:Nat):Int) == 0 && (1:Int) == 1 && (sIx j.size j.size hi - sIx j.size 0 lo) == j.size)=true then _ else _) _ _ s;rw [bL I,Qjy]
 first
  | exact aF (m:=Builtin.Tuple.tupleExact _) (ao (aS ⟨_,rfl,aS h⟩) z)
  | exact aF (m:=Builtin.Tuple.tupleExact _) (ao (aF (aS (aS ⟨_,rfl,aS h⟩))) z)
  | exact aF (aF (m:=Builtin.Tuple.tupleExact _) (ao (aS (aS ⟨_,rfl,aS h⟩)) z))
  | exact aF (aF (m:=Builtin.Tuple.tupleExact _) (ao (aS ⟨_,rfl,aS h⟩) z))
end
end HT
namespace L2
open PySem PySem.Spec PyProof.Rows
abbrev TO:=St->Hp->(Option Int->Hp->Prop)->Prop
def PO (X:Cx) (e:Option aD) (t:TO):Prop:=
 ∀ (pins:List (aA × Obj)) (s:aC) (σ:St) (H:Hp) (Q:Option Int->Hp->Prop),Inv X pins σ H s->t σ H Q ->
  aI (aJ X.prog X.w) X.A (evalPart e X.env) (fun u s'=>∃ o H',Inv X pins σ H' s'/\IsPart u o/\Q o H') X.xe s
def Qnc:TO:=fun _ H Q=>Q none H
def Quv (t:TE):TO:=fun σ H Q=>t σ H fun x H1=>∃ i,x=.int i/\Q (some i) H1
theorem Q8r {ns:List Int}:∀ {us:List aB},Vals (ns.map V.int) us->IntsAre us ns:=by
 induction ns with
 | nil=>intro us r; rw [cg] at r; cases r; exact .nil
 | cons n ns z=>
  intro us r;rw [F4] at r;cases r with
  | cons q j=>
   obtain ⟨t,e⟩:=q;subst e;exact .cons n t (z j)
section
variable {X:Cx} {e:aD} {te:TE} {lo hi:Option aD} {tl th:TO} {pos p2:Pos}
theorem Qp6:PO X none Qnc:=by
 intro pins s σ H Q I h;rw [evalPart_none];exact aS ⟨none,H,I,.none,h⟩
theorem Qp5 (h:PE X e te):PO X (some e) (Quv te):=by
 intro pins s σ H Q I j;rw [evalPart_some];refine thn (h pins s σ H _ I j) fun u s1 ⟨x,H1,B,z,q1⟩=>?_
 obtain ⟨i,rfl,q⟩:=q1;obtain ⟨t,rfl⟩:=z;exact ⟨some i,H1,B,.int i t,q⟩
def SlR (X:Cx) (r:V->Option Int->Option Int->Hp->VK->Prop):Prop:=
 ∀ (pins:List (aA × Obj)) (s:aC) (σ:St) (H:Hp) (x:V) (v vl vu:aB) (lo hi:Option Int) (sl:aA) (Q:VK),Inv X pins σ H s->RelV x v->s.heap.IsSliceOf sl vl vu .none->IsPart vl lo->IsPart vu hi->r x lo hi H Q ->
  ∃ T id,typeLookup (.type T) "__getitem__" = pure (some (.builtin id))/\s.TypeIs v T/\aI (aJ X.prog X.w) X.A (getItem v (.ref sl)) (EP X pins σ Q) X.xe s
theorem SlR.or {r G:V->Option Int->Option Int->Hp->VK->Prop} (h:SlR X r) (h':SlR X G):SlR X (fun x lo hi H Q=>r x lo hi H Q\/G x lo hi H Q):=by
 intro pins s σ H x v J j lo hi sl Q I B hs pl z q;rcases q with q | q
 ·exact h pins s σ H x v J j lo hi sl Q I B hs pl z q
 ·exact h' pins s σ H x v J j lo hi sl Q I B hs pl z q
def tSl (r:V->Option Int->Option Int->Hp->VK->Prop) (te:TE) (tl th:TO):TE:=fun σ H Q=>te σ H fun x H1=>tl σ H1 fun l H2=>th σ H2 fun u H3=>r x l u H3 Q
theorem Qk2 {r:V->Option Int->Option Int->Hp->VK->Prop} (hr:SlR X r) (G:PE X e te) (hl:PO X lo tl) (Y:PO X hi th):PE X (.Subscript e (.Slice lo hi none p2) pos) (tSl r te tl th):=by
 intro pins s σ H Q I h;refine Subscript_ (thn (G pins s σ H _ I h) fun v s1 ⟨x,H1,I1,O,q1⟩=>?_)
 refine wpAny_Slice (thn (hl pins s1 σ H1 _ I1 q1) fun j s2 ⟨l,H2,J,pl,q2⟩=>thn (Y pins s2 σ H2 _ J q2) fun z s3 ⟨u,B,Z,U,q3⟩=>?_)
 rw [evalPart_none];refine aS ?_;have I4:Inv X pins σ B { s3 with heap:=s3.heap.push { cls:=.type "slice",data:=.fields #[j,z,.none] } }:=Z.kept (t':=s3.toks) fun b ob q=>O1 _ q
 obtain ⟨T,id,hT,ht,hg⟩:=hr pins { s3 with heap:=s3.heap.push { cls:=.type "slice",data:=.fields #[j,z,.none] } } σ B x v j z l u s3.heap.objs.size Q I4 O (Heap.IsSliceOf.new ..) pl U q3;show aI (aJ X.prog X.w) X.A (subscriptTail e (.Slice lo hi none p2) v (.ref s3.heap.objs.size)) (EP X pins σ Q) X.xe { s3 with heap:=s3.heap.push { cls:=.type "slice",data:=.fields #[j,z,.none] } };exact tail_any (ops:=[.ref s3.heap.objs.size,v]) ht hT hg (by with_unfolding_all rfl)
def Qe4 (xs:List V) (lo hi:Option Int):List V:=(xs.drop (HT.sIx xs.length 0 lo)).take (HT.sIx xs.length xs.length hi - HT.sIx xs.length 0 lo)
theorem Q62 (xs:List V) (lo hi:Option Int):(Qe4 xs lo hi).length<=xs.length:=by
 unfold Qe4;rw [cJ,cV];omega
def Qyh (K:bQ):V->Option Int->Option Int->Hp->VK->Prop:=fun x lo hi H Q=>∃ a xs,x=.ref a/\SqT K H a xs /\
 ¬ (HT.sIx xs.length 0 lo=0/\HT.sIx xs.length xs.length hi=xs.length)/\∀ p,H p=none->Q (.ref p) (upd H p (.tup (Qe4 xs lo hi)))
theorem sl_tup:SlR X (Qyh X.K):=by
 intro pins s σ H x v Y U lo hi sl Q I O hs pl J h;obtain ⟨a,xs,rfl,B,G,q⟩:=h;cases O;obtain ⟨its,r,z,hz⟩:=I.tuple B;have j:its.toArray.size=xs.length:=by rw [O3]; exact r.length.symm
 refine ⟨"tuple",_,PyProof.Rows.slot_tuple_getitem.lookup,z.typeIs,?_⟩;refine HT.getItem_tuple_cut z hs pl J (by rw [j]; exact G) ?_ (by rw [j]; exact hz);rw [j];refine ⟨.ref s.heap.objs.size,_,I.laid (t':=s.toks) (o:=.tup (Qe4 xs lo hi)) (fun b ob q=>O1 _ q) (O8 _) ?_,rfl,q _ (I.hok.fresh (O8 _))⟩;exact ⟨F0 (Q62 xs lo hi) hz,_,(r.drop (HT.sIx xs.length 0 lo)).take (HT.sIx xs.length xs.length hi - HT.sIx xs.length 0 lo),IsTup.new _ _⟩
def Qyk (K:bQ):R2:=fun x y H Q=>∃ a b ns ms,x=.ref a/\y=.ref b/\SqT K H a (ns.map V.int)/\SqT K H b (ms.map V.int)/\Q (.bl (HT.lexLt ns ms)) H
theorem Qt3 (Z:X.A.units < ac):OpR X (aV .Lt) (Qyk X.K):=by
 intro pins s σ H x y v u Q I Y ry h;obtain ⟨a,b,ns,ms,rfl,rfl,O,G,q⟩:=h;cases Y;cases ry;obtain ⟨its,U,B,_⟩:=I.tuple O;obtain ⟨j,r2,p2,_⟩:=I.tuple G;have J:IntsAre its.toArray.toList ns:=Q8r U;have z:IntsAre j.toArray.toList ms:=Q8r r2;exact HT.lt_tupInts B p2 J z Z ⟨.bl (HT.lexLt ns ms),H,I,rfl,q⟩
def Qr6 (K:bQ):R2:=fun x y H Q=>∃ a b xs ys,x=.ref a/\y=.ref b/\SqT K H a xs/\SqT K H b ys/\xs≠[]/\xs.length + ys.length<=sizeLine /\
 (ys=[]->Q (.ref a) H)/\(ys≠[]->∀ p,H p=none->Q (.ref p) (upd H p (.tup (xs ++ ys))))
theorem Vals.nil_iff {xs:List V} {us:List aB} (r:Vals xs us):us=[] <-> xs=[]:=by
 cases r with
 | nil=>simp
 | cons _ _=>simp
theorem op_catT:OpR X (aW .Add) (Qr6 X.K):=by
 intro pins s σ H x y v u Q I Z ry h;obtain ⟨a,b,xs,ys,rfl,rfl,Y,U,J,hz,q1,q2⟩:=h;cases Z;cases ry;obtain ⟨its,B,O,_⟩:=I.tuple Y;obtain ⟨G,j,p2,_⟩:=I.tuple U;refine HT.cat_tup O p2 (fun z=>J (B.nil_iff.mp z)) (fun z=>⟨.ref a,H,I,rfl,q1 (j.nil_iff.mp z)⟩) (fun z=>?_) (by rw [<- B.length,<- j.length]; exact hz)
 refine ⟨.ref s.heap.objs.size,_,I.laid (t':=s.toks) (o:=.tup (xs ++ ys)) (fun b ob q=>O1 _ q) (O8 _) ?_,rfl,q2 (fun w=>z (j.nil_iff.mpr w)) _ (I.hok.fresh (O8 _))⟩;exact ⟨by rw [O9]; exact hz,_,B.append j,IsTup.new _ _⟩
end
def ixN (n:Nat) (i:Int):Option Nat:=if 0<=i then (if i < n then some i.toNat else none) else if -(n:Int)<=i then some (i + n).toNat else none
def atI {α:Type} (xs:List α) (i:Int):Option α:=(ixN xs.length i).bind fun j=>xs[j]?
theorem Qge {n:Nat} {i:Int} {j:Nat} (h:ixN n i=some j):seqIndex? i n=some j/\j < n/\-(n:Int)<=i/\i < n:=by
 unfold ixN at h
 by_cases h0:0<=i
 ·rw [bK h0] at h
  by_cases h1:i < n
  ·rw [bK h1] at h;have e:i.toNat=j:=bg h;exact ⟨by rw [seqIndex_of h0 h1,e],by omega,by omega,h1⟩
  ·rw [bL h1] at h; cases h
 ·rw [bL h0] at h
  by_cases h1:-(n:Int)<=i
  ·rw [bK h1] at h;have e:(i + n).toNat=j:=bg h;exact ⟨by rw [seqIndex_neg (by omega) h1,e],by omega,h1,by omega⟩
  ·rw [bL h1] at h; cases h
theorem atI_get {α:Type} {xs:List α} {i:Int} {v:α} (h:atI xs i=some v):∃ j,seqIndex? i xs.length=some j/\xs[j]?=some v/\j < xs.length/\-(xs.length:Int)<=i/\i < xs.length:=by
 unfold atI at h;cases e:ixN xs.length i with
 | none=>rw [e] at h; cases h
 | some j=>
  rw [e] at h;obtain ⟨h1,h2,q,z⟩:=Qge e;exact ⟨j,h1,h,h2,q,z⟩
theorem Qed {α:Type} (xs:List α) (v:α):atI (xs ++ [v]) (-1)=some v:=by
 have j:(xs ++ [v]).length=xs.length + 1:=by simp
 have e:ixN (xs ++ [v]).length (-1)=some xs.length:=by
  unfold ixN;rw [j,bL (by decide),bK (by omega)];congr 1;omega
 unfold atI;rw [e];show (xs ++ [v])[xs.length]?=some v;simp
def Qgu (b:aD):Prop:=∀ o i,subscripted b false o i=operate [o,i] (getItem o i)
def IxR (X:Cx) (r:R2):Prop:=
 ∀ (value slice:aD) (pins:List (aA × Obj)) (s:aC) (σ:St) (H:Hp) (x y:V) (v u:aB) (Q:VK),Inv X pins σ H s->RelV x v->RelV y u->r x y H Q ->
  subscripted slice false v u=operate [v,u] (getItem v u)->aI (aJ X.prog X.w) X.A (subscriptTail value slice v u) (EP X pins σ Q) X.xe s
def MtR (X:Cx) (id:String) (r:V->List V->Hp->VK->Prop):Prop:=
 ∀ (pins:List (aA × Obj)) (s:aC) (σ:St) (H:Hp) (x:V) (xs:List V) (v:aB) (us:List aB) (Q:VK),Inv X pins σ H s->RelV x v->Vals xs us->r x xs H Q ->
  aI (aJ X.prog X.w) X.A (call (.builtin id) (v :: us)) (EP X pins σ Q) X.xe s
section
variable {X:Cx} {a b:aD} {ta tb:TE} {pos:Pos}
theorem IxR.or {r z:R2} (h:IxR X r) (h':IxR X z):IxR X (fun x y H Q=>r x y H Q\/z x y H Q):=by
 intro value j pins s σ H x y v u Q I B G q hs;rcases q with q | q
 ·exact h value j pins s σ H x y v u Q I B G q hs
 ·exact h' value j pins s σ H x y v u Q I B G q hs
theorem Qvq {r:R2} (O:IxR X r) (B:PE X a ta) (j:PE X b tb) (hs:Qgu b):PE X (.Subscript a b pos) (tOp r ta tb):=by
 intro pins s σ H Q I h;exact Subscript_ (Qu2 B j I h fun v u s2 x y H2 z G J q=>O a b pins s2 σ H2 x y v u Q z G J q (hs _ _))
def Qvd (K:bQ):R2:=fun x y H Q=>∃ p xs i v,x=.ref p/\y=.int i/\SqL K H p xs/\atI xs i=some v/\Q v H
def Qvb (K:bQ):R2:=fun x y H Q=>∃ p xs i v,x=.ref p/\y=.int i/\SqT K H p xs/\atI xs i=some v/\Q v H
def Qvc:R2:=fun x y H Q=>∃ z i c,x=.str z/\y=.int i/\z.length<=sizeLine/\atI z.cps.toList i=some c/\Q (.str ⟨#[c]⟩) H
theorem ix_list:IxR X (Qvd X.K):=by
 intro value G pins s σ H x y v u Q I rx ry h hs;obtain ⟨p,xs,i,z,rfl,rfl,hq,U,q⟩:=h;cases rx;obtain ⟨t,rfl⟩:=ry;obtain ⟨its,r,pl,hz⟩:=I.list hq;obtain ⟨j,h1,h2,h3,Y,Z⟩:=atI_get U;obtain ⟨w,O,J⟩:=r.get h2;have hl:=r.length;have hn:=Q5g;have fin:EP X pins σ Q w s:=⟨z,H,I,J,q⟩
 by_cases h0:0<=i
 ·have B:i.toNat=j:=by
   rw [seqIndex_of h0 Z] at h1;exact bg h1
  exact item_listR pl.isList h0 (by omega) (by rw [B]; simpa using O) fin hs
 ·have B:(i + (its.toArray.size:Int)).toNat=j:=by
   rw [seqIndex_neg (by omega) Y] at h1;rw [O3,<- hl];exact bg h1
  exact subscriptTail_builtinR (x:=w) pl.isList.typeIs slot_list_getitem.lookup
   (wpAny_getItem_list_neg (Q:=fun r s'=>r=w/\EP X pins σ Q r s') pl.isList (by omega) (by rw [O3] <;> omega) (by omega) (by rw [B]; simpa using O) ⟨rfl,fin⟩) hs
theorem ix_tup:IxR X (Qvb X.K):=by
 intro value G pins s σ H x y v u Q I Z ry h hs;obtain ⟨p,xs,i,z,rfl,rfl,Y,J,q⟩:=h;cases Z;obtain ⟨t,rfl⟩:=ry;obtain ⟨its,r,pl,hz⟩:=I.tuple Y;obtain ⟨j,h1,h2,h3,h4,h5⟩:=atI_get J;obtain ⟨w,O,B⟩:=r.get h2;have U:=r.length;have hn:=Q5g;have fin:EP X pins σ Q w s:=⟨z,H,I,B,q⟩;exact subscriptTail_builtinR (x:=w) pl.typeIs slot_tuple_getitem.lookup
  (getItem_tuple (j:=j) (Q:=fun r s'=>r=w/\EP X pins σ Q r s') pl (by omega) (by omega) (by rw [O3,<- U]; exact h1) (by simpa using O) ⟨rfl,fin⟩) hs
theorem Qtq:IxR X Qvc:=by
 intro value B pins s σ H x y v u Q I O Z h hs;obtain ⟨z,i,c,rfl,rfl,hz,G,q⟩:=h;obtain ⟨t,rfl⟩:=O;obtain ⟨t',rfl⟩:=Z;obtain ⟨j,h1,h2,h3,Y,U⟩:=atI_get G;have J:z.cps.toList.length=z.length:=by simp [Str.length]
 rw [J] at h1 Y U;have hn:=Q5g;exact tail_any (typeIs_str s z t) slot_str_getitem.lookup (getItem_str (c:=c) (by
  have e1:decide (i < -(2 ^ 63:Int))=false:=bN (by omega);have e2:decide (i>=2 ^ 63)=false:=bN (by omega);rw [e1,e2,Bool.or_false]) (by rw [h1]; simpa using h2) ⟨.str ⟨#[c]⟩,H,I.tok _,⟨_,rfl⟩,q⟩) hs
def rIx (K:bQ):R2:=fun x y H Q=>Qvd K x y H Q\/Qvb K x y H Q\/Qvc x y H Q
theorem Qtr:IxR X (rIx X.K):=ix_list.or (ix_tup.or Qtq)
theorem Qf6 (its:List aB) (n j:Nat) (u:aB):cp (·.setIfInBounds j u) { cls:=.type "list",data:=.seq its.toArray n }={ cls:=.type "list",data:=.seq (its.set j u).toArray n }:=by
 simp [cp]
theorem Inv.lst {pins:List (aA × Obj)} {σ:St} {H:Hp} {s:aC} {p:aA} {xs:List V} (I:Inv X pins σ H s) (h:H p=some (.lst xs)) :
  ∃ (its:List aB) (n:Nat),Vals xs its/\s.heap.get? p=some { cls:=.type "list",data:=.seq its.toArray n }/\xs.length<=sizeLine:=by
 obtain ⟨z,its,n,r,e⟩:=I.hok p _ h;exact ⟨its,n,r,e,z⟩
theorem Inv.lstUpd {pins:List (aA × Obj)} {σ:St} {H:Hp} {s:aC} {p:aA} {xs ys:List V} {its its':List aB} {n j:Nat} {f:Obj->Obj} (I:Inv X pins σ H s) (h:H p=some (.lst xs))
  (B:s.heap.get? p=some { cls:=.type "list",data:=.seq its.toArray n }) (z:f { cls:=.type "list",data:=.seq its.toArray n }={ cls:=.type "list",data:=.seq its'.toArray j }) (r:Vals ys its') (hz:ys.length<=sizeLine) (t:Nat) :
  Inv X pins σ (upd H p (.lst ys)) { s with heap:=s.heap.update p f,toks:=t }:=by
 have e:(s.heap.update p f).get? p=some { cls:=.type "list",data:=.seq its'.toArray j }:=by
  rw [G7 f B (by rw [z] <;> rfl),z]
 refine I.write (x:=p) (e:=p) (by rw [h]; trivial) (.inl rfl) (fun b u G q=>(E9 _ _ (Ne.symm G)).trans q) ⟨_,e⟩ ?_
 exact ⟨hz,its',j,r,e⟩
def Qv9:V->V->V->Hp->(Hp->Prop)->Prop:=fun o i v H Q=>∃ p xs k j,o=.ref p/\i=.int k/\H p=some (.lst xs)/\ixN xs.length k=some j/\Q (upd H p (.lst (xs.set j v)))
theorem Qjf:Qx5 X Qv9:=by
 intro pins s σ H o i v ov iv u Q I Y ri rv h;obtain ⟨p,xs,k,j,rfl,rfl,hp,Z,q⟩:=h;cases Y;obtain ⟨t,rfl⟩:=ri;obtain ⟨its,n,r,B,hz⟩:=I.lst hp;obtain ⟨h1,h2,O,J⟩:=Qge Z;have G:=r.length;have hn:=Q5g;have U:Inv X pins σ (upd H p (.lst (xs.set j v))) { s with heap:=s.heap.update p (cp (·.setIfInBounds j u)) }:=
  I.lstUpd hp B (Qf6 its n j u) (r.set rv j) (by rw [D7]; exact hz) s.toks
 by_cases h0:0<=k
 ·have z:k.toNat=j:=by
   rw [seqIndex_of h0 J] at h1;exact bg h1
  exact PySem.W.ki_setAt B h0 (by omega) (by rw [O3,<- G]; exact J) (by rw [z]; exact ⟨_,U,q⟩)
 ·have z:(k + (its.toArray.size:Int)).toNat=j:=by
   rw [seqIndex_neg (by omega) O] at h1;rw [O3,<- G];exact bg h1
  exact PySem.W.ki_setBack B (by omega) (by rw [O3,<- G]; exact O) (by omega) (by rw [z]; exact ⟨_,U,q⟩)
theorem Qbk (lo hi:Option Int) (n:Nat):(bB lo hi none n).1=((HT.sIx n 0 lo:Nat):Int)/\(bB lo hi none n).2.1=((HT.sIx n n hi:Nat):Int)/\(bB lo hi none n).2.2=1:=by
 refine ⟨?_,?_,rfl⟩
 ·cases lo with
  | none=>simp [bB,HT.sIx]
  | some i=>
   simp only [bB,HT.sIx,fm,show (1:Int) > 0 by decide,if_true]
   by_cases h:i < 0
   ·simp only [h,if_true] <;> omega
   ·simp only [h,if_false] <;> omega
 ·cases hi with
  | none=>simp [bB,HT.sIx]
  | some i=>
   simp only [bB,HT.sIx,fm,show (1:Int) > 0 by decide,if_true]
   by_cases h:i < 0
   ·simp only [h,if_true] <;> omega
   ·simp only [h,if_false] <;> omega
theorem Q9b (its:List aB) (lo hi:Option Int):slicePick its.toArray lo hi none=((its.drop (HT.sIx its.length 0 lo)).take (HT.sIx its.length its.length hi - HT.sIx its.length 0 lo)).toArray:=by
 obtain ⟨h1,h2,j⟩:=Qbk lo hi its.toArray.size;unfold slicePick;rw [h1,h2,j];simp only [sliceRange_one,pick_run,O3] <;> rfl
def Qyi (K:bQ):V->Option Int->Option Int->Hp->VK->Prop:=fun x lo hi H Q=>∃ a xs,x=.ref a/\SqL K H a xs/\∀ p,H p=none->Q (.ref p) (upd H p (.lst (Qe4 xs lo hi)))
theorem Qni:SlR X (Qyi X.K):=by
 intro pins s σ H x v U O lo hi sl Q I J hs pl G h;obtain ⟨a,xs,rfl,B,q⟩:=h;cases J;obtain ⟨its,r,z,hz⟩:=I.list B;have j:=r.length;refine ⟨"list",_,slot_list_getitem.lookup,z.isList.typeIs,?_⟩;refine wpAny_getItem_list_slice z.isList hs pl G .none (by simp) ?_ (by rw [O3] <;> omega);rw [Q9b,<- j];refine ⟨.ref s.heap.objs.size,_,I.laid (t':=s.toks) (o:=.lst (Qe4 xs lo hi)) (fun b ob q=>O1 _ q) (O8 _) ?_,rfl,q _ (I.hok.fresh (O8 _))⟩;exact ⟨F0 (Q62 xs lo hi) hz,_,0,(r.drop (HT.sIx xs.length 0 lo)).take (HT.sIx xs.length xs.length hi - HT.sIx xs.length 0 lo),D6 _ rfl⟩
theorem Qcf:jv X (.builtin "len") (fun xs H Q=>∃ p ys,xs=[.ref p]/\(SqL X.K H p ys\/SqT X.K H p ys)/\Q (.int ys.length) H):=by
 intro pins s σ H xs us Q I r h;obtain ⟨p,ys,rfl,z,q⟩:=h;obtain ⟨u,rfl,G⟩:=Q3a r;cases G;have J:=Q5g;rcases z with z | z
 ·obtain ⟨its,B,pl,hz⟩:=I.list z;have j:=B.length;exact Calls.call_len_list pl.isList (by simp only [O3] <;> omega) ⟨.int ys.length,H,I.tok _,⟨s.toks + 1,by rw [O3,j]⟩,q⟩
 ·obtain ⟨its,B,pl,hz⟩:=I.tuple z;have j:=B.length;exact len_tuple pl (by simp only [O3] <;> omega) ⟨.int ys.length,H,I.tok _,⟨s.toks + 1,by rw [O3,j]⟩,q⟩
theorem Qce:jv X (.builtin "len") (fun xs H Q=>∃ z,xs=[.str z]/\z.length<=sizeLine/\Q (.int z.length) H):=by
 intro pins s σ H xs us Q I r h;obtain ⟨z,rfl,hz,q⟩:=h;obtain ⟨u,rfl,t,rfl⟩:=Q3a r;have j:=Q5g;exact len_str (by omega) ⟨.int z.length,H,I.tok _,⟨_,rfl⟩,q⟩
theorem Q3h:jv X (.type "tuple") (fun xs H Q=>∃ p ys,xs=[.ref p]/\((SqL X.K H p ys/\∀ l,H l=none->Q (.ref l) (upd H l (.tup ys)))\/(SqT X.K H p ys/\Q (.ref p) H))):=by
 intro pins s σ H xs us Q I r h;obtain ⟨p,ys,rfl,h⟩:=h;obtain ⟨u,rfl,O⟩:=Q3a r;cases O;rcases h with ⟨j,q⟩ | ⟨j,q⟩
 ·obtain ⟨its,z,pl,hz⟩:=I.list j;have B:=z.length;refine call_tuple_list pl.isList (fun h' kp=>?_) (by simp only [O3] <;> omega);have G:Inv X pins σ H { s with heap:=h' }:=I.kept (t':=s.toks) kp;have J:Inv X pins σ (upd H h'.objs.size (.tup ys)) { s with heap:=h'.push { cls:=.type "tuple",data:=.seq its.toArray } }:=
   G.laid (t':=s.toks) (fun b o e=>O1 _ e) (O8 _) (show ObjOk X.prog X.w _ _ _ (.tup ys) from ⟨hz,its,z,IsTup.new _ _⟩)
  exact ⟨.ref h'.objs.size,_,J,rfl,q _ (G.hok.fresh (O8 _))⟩
 ·obtain ⟨its,z,pl,hz⟩:=I.tuple j;exact call_tuple_same pl ⟨.ref p,H,I,rfl,q⟩
def tyV (K:bQ) (T:String) (x:V) (H:Hp):Prop:=match x with
 | .str _=>T = "str"
 | .int _=>T = "int"
 | .ref p=>(T = "list" /\ ∃ xs,SqL K H p xs)\/(T = "tuple" /\ ∃ o,K.lookup p=some o/\o.cls=.type "tuple" /\ o.dict=none) \/
   (T = "dict" /\ ((∃ kvs,H p=some (.dK kvs))\/∃ kvs,H p=some (.dT kvs)))\/(T = "set" /\ ∃ S n,H p=some (.set S n))
 | _=>False
theorem Qrs {pins:List (aA × Obj)} {σ:St} {H:Hp} {s:aC} {T:String} {x:V} {v:aB} (I:Inv X pins σ H s) (r:RelV x v) (ty:tyV X.K T x H) :
  s.TypeIs v T/\∀ a,v=.ref a->∃ ob,s.heap.get? a=some ob/\ob.dict=none:=by
 cases x with
 | str z=>
  obtain ⟨t,rfl⟩:=r;cases (show T = "str" from ty);exact ⟨typeIs_str s z t,fun _ e=>nomatch e⟩
 | int i=>
  obtain ⟨t,rfl⟩:=r;cases (show T = "int" from ty);exact ⟨typeIs_int s i t,fun _ e=>nomatch e⟩
 | ref p=>
  cases r;rcases ty with ⟨rfl,xs,q⟩ | ⟨rfl,o,j,B,hd⟩ | ⟨rfl,j⟩ | ⟨rfl,S,n,j⟩
  ·obtain ⟨its,_,pl,_⟩:=I.list q;refine ⟨pl.isList.typeIs,fun a e=>?_⟩;cases e;obtain ⟨o,n,e,c,hd,_⟩:=pl;exact ⟨o,e,hd⟩
  ·refine ⟨⟨o,I.kIn p o j,B⟩,fun a e=>?_⟩
   cases e;exact ⟨o,I.kIn _ o j,hd⟩
  ·have z:∃ o,s.heap.get? p=some o/\o.ExactDict:=by
    rcases j with ⟨kvs,j⟩ | ⟨kvs,j⟩
    ·obtain ⟨_,_,_,_,o,_,_,e,ex,_⟩:=I.hok p _ j;exact ⟨o,e,ex⟩
    ·obtain ⟨_,_,_,_,o,_,_,e,ex,_⟩:=I.hok p _ j;exact ⟨o,e,ex⟩
   obtain ⟨o,e,ex⟩:=z;refine ⟨⟨o,e,ex.1⟩,fun a e2=>?_⟩
   cases e2;exact ⟨o,e,ex.2.1⟩
  ·obtain ⟨o,_,_,_,e,ex,_⟩:=I.hok p _ j;refine ⟨⟨o,e,ex.1⟩,fun a e2=>?_⟩
   cases e2;exact ⟨o,e,ex.2.1⟩
 | _=>exact False.elim ty
def tBM (K:bQ) (T:String) (r:V->List V->Hp->VK->Prop) (to:TE) (t:TA):TE:=fun σ H Q=>to σ H fun x H1=>tyV K T x H1/\t σ H1 fun xs H2=>r x xs H2 Q
variable {o e:aD} {es:List aD} {to:TE} {t:TA} {name:Str} {apos cpos:Pos} {T id:String} {r:V->List V->Hp->VK->Prop}
theorem Qvr (pa:PlainAttrs T) (slot:Slot T name id) (G:typeOf (.builtin id)=pure (.type "method_descriptor")) (Y:MtR X id r) (ho:PE X o to) (ha:PA X (e :: es) t)
  (q:ai o name X.env (aL o X.env)=aL o X.env:=by rfl)
  (B:((aU cpos (aO (e :: es) X.env)).all (fun x=>!x.1) && (backToKw cpos (keywordEach [] X.env)).all (fun x=>x.1.isSome)
   && decide ((e :: es).length + ([]:List Keyword).length + (if ([]:List Keyword).isEmpty then 0 else 1) < 30))=true:=by rfl)
  (z:(apos.endLine == cpos.line)=true:=by rfl) (hs:aO (e :: es) X.env=(false,aL e X.env) :: aO es X.env:=by rfl) (j:(aU cpos (aO es X.env)).any (·.1)=false:=by rfl) :
  PE X (.Call (.Attribute o name apos) (e :: es) [] cpos) (tBM X.K T r to t):=by
 intro pins s σ H Q I h;refine wpAny_Call_method_late q B z rfl (thn (ho pins s σ H _ I h) fun v s1 ⟨x,H1,U,O,ty,q1⟩=>?_)
 obtain ⟨h1,h2⟩:=Qrs U O ty;refine ⟨T,id,pa,slot,G,h1,h2,?_⟩;have J:=ha cpos pins s1 σ H1 _ U q1;rw [hs] at J ⊢;refine Calls.callWith_builtin (by show (false || (aU cpos (aO es X.env)).any (·.1))=false; rw [j] <;> rfl) (Calls.evalArgs_plain ?_);exact thn J fun us s2 ⟨vs,H2,I2,Z,q2⟩=>Y pins s2 σ H2 x vs v us Q I2 O Z q2
end
def MtM (X:Cx) (id:String) (r:V->List V->Hp->VK->Prop):Prop:=
 ∀ (pins:List (aA × Obj)) (s:aC) (σ:St) (H:Hp) (x:V) (xs:List V) (v:aB) (us:List aB) (Q:VK),Inv X pins σ H s->RelV x v->Vals xs us->r x xs H Q ->
  aI (aJ X.prog X.w) X.A (call (.builtin id) (v :: us)) (EP X pins σ Q) X.xe s
theorem Vals.one:∀ {x:V} {us:List aB},Vals [x] us->∃ u,us=[u]/\RelV x u
 | _,_,.cons r .nil=>⟨_,rfl,r⟩
theorem Vals.rep {xs:List V} {us:List aB} (h:Vals xs us):∀ k:Nat,Vals (bR k xs).flatten (bR k us).flatten
 | 0=>.nil
 | k + 1=>by
  rw [cL,cL,cW,cW];exact Vals.append h (Vals.rep h k)
theorem Q5m (its:List aB):∀ (k:Nat) (j:List aB),
  dZ (fun z q=>z ++ q) j.toArray (bR k its.toArray)=(j ++ (bR k its).flatten).toArray
 | 0,j=>by simp
 | k + 1,j=>by
  have e:j.toArray ++ its.toArray=(j ++ its).toArray:=by simp
  have e2:(j ++ its) ++ (bR k its).flatten=j ++ (bR (k + 1) its).flatten:=by
   rw [cL,cW,cM]
  rw [<- e2,<- Q5m its k (j ++ its),<- e,cL,cr]
section
variable {X:Cx} {pins:List (aA × Obj)} {σ:St} {H:Hp} {s:aC} {l b:aA} {xs ys zs:List V}
theorem Inv.lset {its its':List aB} {n:Nat} {f:Array aB->Array aB} {t':Nat} (I:Inv X pins σ H s) (G:H l=some (.lst xs))
  (e:s.heap.get? l=some { cls:=.type "list",data:=.seq its.toArray n }) (z:f its.toArray=its'.toArray) (j:Vals ys its') (hz:ys.length<=sizeLine) :
  Inv X pins σ (upd H l (.lst ys)) { s with heap:=s.heap.update l (cp f),toks:=t' }:=by
 have q:=PySem.IsL.update e f;rw [z] at q;refine I.write (x:=l) (e:=l) (by rw [G]; exact trivial) (.inl rfl) (fun O u B J=>(E9 s.heap (cp f) (Ne.symm B)).trans J) ⟨_,q⟩ ?_
 exact ⟨hz,its',_,j,q⟩
theorem Inv.lnew {its:List aB} {t':Nat} (I:Inv X pins σ H s) (j:Vals ys its) (hz:ys.length<=sizeLine) :
  Inv X pins σ (upd H s.heap.objs.size (.lst ys)) { s with heap:=s.heap.push { cls:=.type "list",data:=.seq its.toArray },toks:=t' }:=
 I.laid (fun _ _ q=>O1 _ q) (O8 _) ⟨hz,its,0,j,D6 _ rfl⟩
theorem Inv.fresh (I:Inv X pins σ H s):H s.heap.objs.size=none:=I.hok.fresh (O8 _)
theorem Inv.lstM (I:Inv X pins σ H s) (j:H l=some (.lst xs)):xs.length<=sizeLine/\∃ (its:List aB) (n:Nat),Vals xs its/\xs.length=its.length/\s.heap.get? l=some { cls:=.type "list",data:=.seq its.toArray n }:=by
 obtain ⟨z,its,n,r,e⟩:=I.hok l _ j;exact ⟨z,its,n,r,r.length,e⟩
theorem Qdf {n:Nat} (h:n<=sizeLine):Builtin.List.listTooLong n=false:=by
 unfold Builtin.List.listTooLong;exact bN (by omega)
end
section
variable {X:Cx}
def Qnx:V->List V->Hp->VK->Prop:=fun x vs H Q=>∃ l xs y,x=.ref l/\vs=[y]/\H l=some (.lst xs)/\xs.length < sizeLine/\Q .non (upd H l (.lst (xs ++ [y])))
theorem Qhv:MtM X "list.append" Qnx:=by
 intro pins s σ H x vs v us Q I G B h;obtain ⟨l,xs,y,rfl,rfl,j,hz,q⟩:=h;cases G;obtain ⟨u,rfl,J⟩:=B.one;obtain ⟨z,its,n,r,O,e⟩:=I.lstM j;refine au F.slot_list_append ⟨_,e,rfl⟩ F.entry_list_append (F.args_list_append_2 _ _) (fo l its.toArray n u (by rw [O3]; omega)) ⟨e,?_⟩;refine ⟨.non,_,I.lset (its':=its ++ [u]) j e (by simp) (r.append (.cons J .nil)) ?_,rfl,q⟩;rw [O9,eX];omega
def Qnw:V->List V->Hp->VK->Prop:=fun x vs H Q=>∃ l b xs zs,x=.ref l/\vs=[.ref b]/\H l=some (.lst xs)/\H b=some (.lst zs)/\xs.length + zs.length<=sizeLine/\Q .non (upd H l (.lst (xs ++ zs)))
theorem Qhu:MtM X "list.extend" Qnw:=by
 intro pins s σ H x vs v us Q I rx U h;obtain ⟨l,b,xs,zs,rfl,rfl,J,hB,hz,q⟩:=h;cases rx;obtain ⟨u,rfl,Z⟩:=U.one;cases Z;obtain ⟨z,its,n,r,hl,e⟩:=I.lstM J;obtain ⟨z2,j,Y,r2,O,e2⟩:=I.lstM hB;have G:its.toArray.size + j.toArray.size<=sizeLine:=by rw [O3,O3]; omega
 have B:¬ (!its.toArray.isEmpty && Builtin.List.listTooLong (its.toArray.size + j.toArray.size))=true:=by
  rw [Qdf G,da];exact D8
 refine au F.slot_list_extend ⟨_,e,rfl⟩ F.entry_list_extend (F.args_list_extend_2 _ _)
  (AutoSeq1.list_extend_list_list_0 l its.toArray n b j.toArray Y B (by rw [O3]; omega) (by omega)) ⟨e,e2,?_⟩
 refine ⟨.non,_,I.lset (its':=its ++ j) J e (by simp) (r.append r2) ?_,rfl,q⟩;rw [O9];omega
def Qym:R2:=fun x y H Q=>∃ l b xs zs,x=.ref l/\y=.ref b/\H l=some (.lst xs)/\H b=some (.lst zs)/\xs.length + zs.length<=sizeLine/\∀ p,H p=none->Q (.ref p) (upd H p (.lst (xs ++ zs)))
theorem Qt4:OpR X (aW .Add) Qym:=by
 intro pins s σ H x y v u Q I O Z h;obtain ⟨l,b,xs,zs,rfl,rfl,J,U,hz,q⟩:=h;cases O;cases Z;obtain ⟨z,its,n,r,hl,e⟩:=I.lstM J;obtain ⟨z2,j,n2,Y,B,e2⟩:=I.lstM U;refine PySem.P.add_list e e2 ?_ (by rw [O3,O3]; omega);have G:its.toArray ++ j.toArray=(its ++ j).toArray:=by simp
 rw [G];exact ⟨.ref _,_,I.lnew (t':=s.toks) (r.append Y) (by rw [O9]; omega),rfl,q _ I.fresh⟩
def Qyj:R2:=fun x y H Q=>∃ l k xs,x=.ref l/\y=.int k/\H l=some (.lst xs)/\-(2 ^ 63)<=k/\k < 2 ^ 63/\xs.length * k.toNat<=sizeLine /\
 ∀ p,H p=none->Q (.ref p) (upd H p (.lst (bR k.toNat xs).flatten))
theorem Qc3 {α:Type} (xs:List α) (k:Nat):(bR k xs).flatten.length=k * xs.length:=by
 induction k with
 | zero=>simp
 | succ k j=>rw [cL,cW,O9,j,Nat.succ_mul,Nat.add_comm]
theorem Qsz:OpR X (aW .Mult) Qyj:=by
 intro pins s σ H x y v u Q I rx ry h;obtain ⟨l,k,xs,rfl,rfl,hH,h1,h2,hz,q⟩:=h;cases rx;obtain ⟨t,rfl⟩:=ry;obtain ⟨z,its,n,r,hl,e⟩:=I.lstM hH;have G:its.toArray.size * k.toNat<=sizeLine:=by rw [O3,<- hl]; exact hz
 have O:¬ its.toArray.size * k.toNat > (2 ^ 63 - 1) / 8:=by
  have:(sizeLine:Nat)<=(2 ^ 63 - 1) / 8:=by decide
  omega
 have J:¬ (!Builtin.List.listFitsIndex k)=true:=by
  rw [fitsIndex_both h1 h2];exact D8
 have j:¬ Builtin.List.listTooLong (its.toArray.size * k.toNat)=true:=by
  rw [Qdf G];exact D8
 have B:dZ (fun Y Z=>Y ++ Z) #[] (bR (if its.toArray.isEmpty=true then 0 else k.toNat) its.toArray)=(bR k.toNat its).flatten.toArray:=by
  have f0:∀ m:Nat,dZ (fun Y Z=>Y ++ Z) #[] (bR m its.toArray)=(bR m its).flatten.toArray:=fun m=>by
   have:=Q5m its m [];rw [fq] at this;exact this
  rw [f0];cases its with
  | nil=>simp
  | cons a r'=>rw [bL (by simp)]
 refine wpAny_binaryOp_repeat_ref (T := "list") (U := "int") (by decide) ⟨_,e,rfl⟩ (fun s'=>typeIs_int s' k t) noFill_list_mul F.fills_int_mul F.slot_int_rmul repeat_list F.slot_int_index.lookup
  (au F.slot_int_rmul (typeIs_int s k t) F.entry_int_rmul (F.args_int_rmul_2 _ _) (int___rmul___int_list k t l its.toArray n)
   ⟨e,rfl,⟨_,e,rfl⟩,au F.slot_list_mul ⟨_,e,rfl⟩ F.entry_list_mul (F.args_list_mul_2 _ _) (AutoListH.list___mul___list_int_3 l its.toArray n k t J O j) ⟨e,?_⟩⟩)
 rw [B];exact ⟨.ref _,_,I.lnew (t':=s.toks) (r.rep k.toNat) (by rw [Qc3,eY]; exact hz),rfl,q _ I.fresh⟩
end
section
variable {prog:aN} {w:aK} {A:aR} {E:aB->aC->Prop} {s:aC}
end
section
variable {X:Cx}
end
end L2
namespace Att
open PySem PySem.W PySem.Calls PyProof.Rows
theorem Q6i {P:Params} {h:Heap}:∀ (ns:List Int) (vs:List aB),WellAll P h vs (ns.map WData.int)->IntsAre vs ns:=by
 intro ns
 induction ns with
 | nil=>
  intro vs w;rw [cg] at w;cases w;exact .nil
 | cons n ns j=>
  intro vs w;rw [F4] at w;cases w with
  | cons a b=>
   cases a;exact .cons _ _ (j _ b)
theorem Qh7 {l:OpenLaw} {n:Nat} (hn:l.most=some n) {P:Params} {h:Heap} {args:List WData} {j:List aB}
  (z:l.row.toRowW.claim.pre args=true) (O:WellAll P h j args) :
  ∃ a vs ns,j=[bX a]/\args=[WData.list (ns.map WData.int)]/\h.get? a=some { cls:=.type "list",data:=.seq vs.toArray }/\IntsAre vs ns/\ns.length<=n:=by
 have U:WShape.hasAll [] args [.list .int]=true:=(pre_splitW z).1;have Y:l.pre.holds [] { args:=args }=true:=(pre_splitW z).2;obtain ⟨d,r,rfl,h1,h2⟩:=hasAllW_cons U;obtain rfl:=hasAllW_nil h2;obtain ⟨xs,rfl,h3⟩:=hasW_list h1;obtain ⟨ns,rfl⟩:=items_int h3;have B:ns.length<=n:=by
  unfold OpenLaw.pre at Y;have J:(WTm.not (.lt (.lit (.int (n:Int))) (.len (.arg 0)))).holds [] { args:=[.list (ns.map .int)] }=true:=by
   have J:=(holds_andW Y).1;rw [hn] at J;exact J
  have I:=condW_of J (w_not (w_lt w_lit (w_len_list (w_arg rfl))));rw [O2] at I;refine Nat.le_of_not_lt fun q=>?_
  have q':(n:Int) < ((ns.length:Nat):Int):=by omega
  first
   | (rw [bO q'] at I; exact absurd I (by decide))
   | (simp at I; omega)
 cases O with
 | cons w1 Z=>
  cases Z;cases w1 with
  | list ho G=>exact ⟨_,_,ns,rfl,rfl,ho,Q6i ns _ G,B⟩
theorem Qhf (l:OpenLaw) (args:List WData):l.row.toRowW.claim.post args (.bool true) args=true:=
 postW_of (r:=l.row.toRowW) (X:=(true == true))
  (show WShape.has [] (.bool true) .bool=true by first | rfl | decide | simp [WShape.has,WShape.arms,WShape.armsAll])
  (show (WTm.eq .res (.lit (.bool true))).value [] { args:=args,res:=some (.bool true),after:=args }=some (.bool (true == true)) from w_eq_bool (w_res rfl) w_lit) rfl
theorem attach_call {l:OpenLaw} {n:Nat} {q:aN} {z:List Str} {XP:(Str->Option aB)->Heap->Prop} {YP:aK->Heap->Prop} {d:DefRec}
  (hn:l.most=some n) (a2:d.params.defaults=[])
  (call:∀ (w:aK) (s₀ j:aC) (mg mb:Str->Option aB) (U:aA) (o:Obj) (pm cd B:aB) (a:aA) (vs:List aB) (ns:List Int),
   Ground q z [] XP w s₀ mg mb j.heap->YP w j.heap ->
   j.heap.get? U=some o->o.data=.func (docDef d.name d.params d.body d.scope pm cd B)->j.heap.CodeRec cd d.name->mg d.name=some (.ref U) ->
   j.heap.get? a=some { cls:=.type "list",data:=.seq vs.toArray }->IntsAre vs ns->ns.length<=n->j.gens=#[] ->
   codeAny (aJ l.prog w) callerA (.call (.ref U) ⟨[.ref a],[]⟩) (fun r s'=>r=.ok (.ret (.bool true))/\OldK j.heap s'.heap/\s'.os=j.os/\AllBare s'.gens) j) :
  WalkO q z XP YP l.row.toRowW d [] (fun f vs=>eZ f vs):=by
 intro w s₀ j mg mb G Y U o pm cd B dV kV ho hd a5 hD a4 hg args a6 as J a7 a9 a3 a8;obtain rfl:dV=.none:=Dflts.none hD a2;obtain rfl:kV=.none:=Dflts.noKw hD;obtain ⟨a,vs,ns,rfl,rfl,O,I,Z⟩:=Qh7 hn J a3;refine enter_call (bE (call w s₀ j mg mb U o pm cd B a vs ns G Y ho (fd_plain hd) a5 a4 O I Z hg) fun r s' hq=>?_)
 obtain ⟨rfl,h2,h3,h4⟩:=hq;exact ⟨.inl ⟨.bool true,.bool true,[],rfl,fun _=>rfl,.bool true,Qhf l _,fun _=>⟨List.Pairwise.nil,fun _ hm=>(nomatch hm)⟩⟩,h2,h3,h4⟩
section
variable {prog:aN} {w:aK} {A:aR} {E:aB->aC->Prop} {s:aC} {K:Frag}
end
end Att
namespace L2
open PySem PySem.Spec PyProof.Rows
theorem Qac:∀ {vs:List aB} {ns:List Int},IntsAre vs ns->Vals (ns.map V.int) vs
 | _,_,.nil=>.nil
 | _,_,.cons n t h=>.cons ⟨t,rfl⟩ (Qac h)
def Qu8 (H:Hp):Prop:=∀ b,H b=none\/∃ o xs,H b=some (.frz o (.lst xs))
theorem Qku {P:aN} {w:aK} {K:bQ} {mg mb:Str->Option aB} {CX:CXT} {k:Nat} {fa a:aA} {fd:aP} {x:Str} {sp:Sp} {j:aC} {vs:List aB} {ns:List Int}
  (KX:K.In j.heap) (Z:j.heap.Ns aQ mg) (G:j.heap.Ns builtinsNs mb) (a7:∀ x:Str,x≠"__name__" -> mb x=aa x) (a2:j.heap.NoLimit) (hg:j.gens=#[])
  (ha:j.heap.get? a=some { cls:=.type "list",data:=.seq vs.toArray }) (hi:IntsAre vs ns) (hl:ns.length<=sizeLine) (hr:Room k callerA)
  (F:∀ base:Heap,K.In base->base.Ns aQ mg->FnOk P w K mg base CX k fa fd [x] sp) (O:∀ (s:aC) (u:aB),BindsTo s fd ⟨[u],[]⟩ [(x,u)])
  (a8:∀ H:Hp,Qu8 H->SqL K H a (ns.map V.int)->sp [.ref a] H (fun v _=>v=.bl true) fun _ _ _=>False)
  (a6:∀ H e s',CX [] H j (fun _ _ _=>False) e s'->False) :
  codeAny (aJ P w) callerA (.call (.ref fa) ⟨[.ref a],[]⟩) (fun r s'=>r=.ok (.ret (.bool true))/\OldK j.heap s'.heap/\s'.os=j.os/\AllBare s'.gens) j:=by
 have rv:=Qac hi;have a3:=hi.length;have J:∀ H:Hp,Qu8 H->SqL K H a (ns.map V.int)->HOk P w H j.heap->(∀ b,H b≠none->b=a)->(H a≠none->K.lookup a=none) ->
   codeAny (aJ P w) callerA (.call (.ref fa) ⟨[.ref a],[]⟩) (fun r s'=>r=.ok (.ret (.bool true))/\OldK j.heap s'.heap/\s'.os=j.os/\AllBare s'.gens) j:=by
  intro H hO hS hok hA hK;have B:∀ {b:aA} {o:Obj},j.heap.get? b=some o->H b=none->(Qc8 j.heap H).get? b=some o:=fun e n=>Qky e n
  have a5:∀ {b:aA} {o:Obj} {es:Array DictEntry} {ep:Nat},j.heap.get? b=some o->o.data=.dict es ep->H b=none:=fun {b o es ep} e d=>by
   cases q:H b with
   | none=>rfl
   | some u=>
    have e':b=a:=hA b (by rw [q]; simp);subst e';rw [ha] at e; cases e;have d':Data.seq vs.toArray _=Data.dict es ep:=d;cases d'
  have I:∀ {b:aA} {m:Str->Option aB},j.heap.Ns b m->(Qc8 j.heap H).Ns b m:=fun {b m} ⟨o,es,ep,e,d,r⟩=>⟨o,es,ep,B e (a5 e d),d,r⟩
  have a4:K.In (Qc8 j.heap H):=fun b o e=>B (KX b o e) (by
   cases q:H b with
   | none=>rfl
   | some u=>
    have e':b=a:=hA b (by rw [q]; simp);subst e';rw [hK (by rw [q]; simp)] at e; cases e)
  have hM:Mod K mg (Qc8 j.heap H):=⟨a4,I Z,⟨mb,I G,a7⟩,let ⟨mc,h1,h2⟩:=a2; ⟨mc,I h1,h2⟩⟩;have e0:Env0 P w K mg (Qc8 j.heap H) callerA [] j H:=⟨rfl,hM,fun b o e=>Qpu e,eL (Qib _ _),trivial,fun b G=>absurd (show b∈([]:List aA) from G) (by simp),hok,.of_eq hg⟩;refine bE ((F _ a4 (I Z)).run callerA [] j H ⟨[.ref a],[]⟩ [.ref a] [.ref a] _ _ hr e0 (O j (.ref a)) (.cons rfl .nil) (a8 H hO hS)) fun r s' h=>?_
  cases r with
  | error e=>exact (a6 H e s' h).elim
  | ok fl=>
   cases fl with
   | next=>exact False.elim h
   | brk=>exact False.elim h
   | cont=>exact False.elim h
   | ret u=>
    obtain ⟨v,H',os,bare,un,Y,r',q⟩:=h;have q':v=.bl true:=q;subst q';obtain rfl:u=cG true:=r';refine ⟨rfl,OldK.of_keep fun b o e=>?_,os,bare⟩;cases q:H b with
    | none=>exact un.keep b o e q (by intro z; exact absurd (show b∈([]:List aA) from z) (by simp)) (by simp)
    | some u=>
     rcases hO b with z | ⟨ob,xs,z⟩
     ·rw [q] at z; cases z
     ·have z2:=un.frzs b ob _ z;obtain ⟨e1,_⟩:=hok b _ z;obtain ⟨e2,_⟩:=Y b _ z2;rw [e] at e1; cases e1;exact e2
 cases hk:K.lookup a with
 | some o=>
  have e:=KX a o hk;rw [ha] at e;cases e;refine J (fun _=>none) (fun _=>.inl rfl) (.inr ⟨_,vs.toArray,_,hk,rfl,rfl,rfl,by rw [O3,a3]; exact hl,by simpa using rv⟩) (fun b u z=>by have U:(none:Option HO)=some u:=z; cases U) (fun b z=>absurd rfl z) fun z=>absurd rfl z
 | none=>
  refine J (fun b=>if b=a then some (.frz { cls:=.type "list",data:=.seq vs.toArray } (.lst (ns.map V.int))) else none) (fun b=>?_) (.inl (.inr ⟨{ cls:=.type "list",data:=.seq vs.toArray },bK rfl⟩)) (fun b u z=>?_) (fun b z=>?_) fun _=>hk
  ·by_cases G:b=a
   ·exact .inr ⟨_,_,bK G⟩
   ·exact .inl (bL G)
  ·by_cases G:b=a
   ·have U:=(bK G).symm.trans z;cases U;subst G;exact ⟨ha,by rw [O2]; exact hl,vs,_,rv,ha⟩
   ·have U:=(bL G).symm.trans z;cases U
  ·by_cases G:b=a
   ·exact G
   ·exact absurd (bL G) z
theorem walk_of {l:ec} {n k:Nat} {q:aN} {z:List Str} {XP:(Str->Option aB)->Heap->Prop} {YP:aK->Heap->Prop} {d:DefRec} {K:Params->bQ} {CX:aK->CXT} {sp:aK->Sp} {x:Str}
  (hn:l.most=some n) (a3:n<=sizeLine) (U:d.params.defaults=[]) (hr:Room k callerA)
  (hY:∀ (w:aK) (h:Heap),YP w h->(K w.params).In h)
  (F:∀ (w:aK) (mg:Str->Option aB) (O:aA) (h:Heap),(K w.params).In h->h.Ns aQ mg->mg d.name=some (.ref O) ->
   ∃ fd:aP,(∀ (s:aC) (u:aB),BindsTo s fd ⟨[u],[]⟩ [(x,u)]) /\
    ∀ base:Heap,(K w.params).In base->base.Ns aQ mg->FnOk l.prog w (K w.params) mg base (CX w) k O fd [x] (sp w))
  (a2:∀ (w:aK) (H:Hp) (a:aA) (ns:List Int),ns.length<=n->Qu8 H->SqL (K w.params) H a (ns.map V.int)->sp w [.ref a] H (fun v _=>v=.bl true) fun _ _ _=>False)
  (Z:∀ (w:aK) (H:Hp) (s:aC) (e:aB) (s':aC),CX w [] H s (fun _ _ _=>False) e s'->False) :
  ft q z XP YP l.row.toRowW d [] (fun f vs=>eZ f vs):=by
 refine Att.attach_call hn U fun w s₀ J mg mb O o pm cd a5 a vs ns G Y ho hd a6 a4 I B j hg=>?_
 have KX:=hY w _ Y;obtain ⟨fd,hb,hF⟩:=F w mg O _ KX G.T.g a4;exact Qku KX G.T.g G.T.b G.T.builtins G.T.nolimit hg I B (F0 j a3) hr hF hb (fun H hO hS=>a2 w H a ns j hO hS) fun H e s'=>Z w H J e s'
def Kh (s:aM) (j:Nat):aM:=match s with
 | .ClassDef _ _ _ body _ _ _ _ _ _ _=>body.getD j (.Pass ⟨0,0,0,0⟩)
 | _=>.Pass ⟨0,0,0,0⟩
def Qr (s:aM):Arguments:=match s with
 | .FunctionDef _ a _ _ _ _ _ _ _ _=>a
 | _=>{ posonlyargs:=[],args:=[],vararg:=none,kwonlyargs:=[],kw_defaults:=[],kwarg:=none,defaults:=[] }
def Qp (s:aM):List aM:=match s with
 | .FunctionDef _ _ b _ _ _ _ _ _ _=>b
 | _=>[]
def Q7 (s:aM):Scope:=match s with
 | .FunctionDef _ _ _ _ _ _ sc _ _ _=>sc
 | _=>{ kind:=.function,names:=[],isGenerator:=false,isCoroutine:=false }
abbrev CX0:CXT:=fun _ _ _ _ _ _=>False
abbrev E0:XK:=fun _ _ _=>False
structure Fun (K:bQ) (x qual:Str) (st:aM) (f:aA) (fd:aP):Prop where
 ex:∃ (oc:aB) (od:Option aA) (kV doc pm:aB) (an:Option aA) (cdv ct:aB) (osl:Array (Option aB)),
  fd=bU x qual (Qr st) (Qp st) (Q7 st) .none kV doc pm an cdv ct/\K.lookup f=some ⟨oc,od,.func fd,osl⟩/\bW K cdv qual=true
 kp:bT K (.ref f)=true
section
variable {P:aN} {w:aK} {K:bQ} {mg:Str->Option aB} {base:Heap}
theorem Fun.ok {x qual:Str} {st:aM} {f:aA} {fd:aP} {N ps:List Str} {k:Nat} {sp:Sp} (F:Fun K x qual st f fd) (S:FnScope N ps (Q7 st)) (len:∀ vs H Q E,sp vs H Q E->vs.length=ps.length)
  (z:∀ (j:aB) (A:aR) (outer:List Env) (s:aC) (H:Hp) (vs:List V) (Q:VK) (E:XK),Room k (A.deeper (envOfC qual (Q7 st) s.heap.objs.size f j))->sp vs H Q E ->
   ∃ t,PSs (Qfh CX0 P w K mg base N qual (Q7 st) f j A outer s H E).nox (Qp st) t/\t { nx:=fun _ H'=>Q .non H',rt:=Q } (start N vs) H):FnOk P w K mg base CX0 (k + 1) f fd ps sp:=by
 obtain ⟨Y,Z,kV,I,U,an,j,ct,O,rfl,lk,G⟩:=F.ex;refine Qrh lk G S len fun A outer s H vs Q E J B=>?_
 obtain ⟨t,h,q⟩:=z j A outer s H vs Q E J B;exact ⟨t,h.nox,q⟩
theorem Fun.binds {x qual:Str} {st:aM} {f:aA} {fd:aP} {ps:List Str} (F:Fun K x qual st f fd)
  (h:∀ (kV j z:aB) (an:Option aA) (q ct:aB) (us:List aB),us.length=ps.length->bindArgs (bU x qual (Qr st) (Qp st) (Q7 st) .none kV j z an q ct) ⟨us,[]⟩=pure (ps.zip us)):Binds K fd ps []:=by
 obtain ⟨I,J,kV,j,z,an,q,ct,G,rfl,lk,B⟩:=F.ex;exact .all (h kV j z an q ct)
theorem qv {x qual:Str} {st:aM} {f:aA} {G:aB} {I an:Option aA} {z:Array (Option aB)} {kV q B j ct:aB} (l:K.lookup f=some ⟨G,I,.func (bU x qual (Qr st) (Qp st) (Q7 st) .none kV q B an j ct),z⟩)
  (c:bW K j qual=true) (k:bT K (.ref f)=true):Fun K x qual st f (bU x qual (Qr st) (Qp st) (Q7 st) .none kV q B an j ct):=⟨⟨G,I,kV,q,B,an,j,ct,z,rfl,l,c⟩,k⟩
end
section
variable {X:Cx}
theorem pv (i:Nat) {x:Str} {pos:Pos} (z:X.N[i]?=some x:=by rfl) (q:Vis X.env.scope x:=by first | exact Or.inl rfl | exact Or.inr (Or.inl rfl) | exact Or.inr (Or.inr rfl)) (hd:(x == ("__debug__" : Str))=false:=by decide)
  (j:(x == ("__classdict__" : Str))=false:=by decide):PE X (.Name x pos) (Qrx i):=Qk1 z q hd j
end
def Same (H H':Hp):Prop:=∀ b o,H b=some o->H' b=some o
theorem Same.refl (H:Hp):Same H H:=fun _ _ h=>h
section
variable {X:Cx} {tg:aD}
end
theorem Qfi {scope:Scope} {env:Env} (h:∀ x∈scope.names,x.2=.free->∃ c,env.cells.lookup x.1=some c) :
  ∃ cl,closureFor scope env=pure cl/\(∀ x c,cl.lookup x=some c->env.cells.lookup x=some c)/\(∀ x∈scope.names,x.2=.free->∃ c,cl.lookup x.1=some c):=by
 have Z:∀ (l:List (Str × aj)) (j:List (Str × aA)),(∀ x∈l,x.2=.free->∃ c,env.cells.lookup x.1=some c)->(∀ x c,j.lookup x=some c->env.cells.lookup x=some c) ->
   ∃ cl,(forIn l j fun (x:Str × aj) (r:List (Str × aA))=>(match x with
    | (name,kind)=>if (kind == NameKind.free)=true then (do let c <- cellOf env name; pure (ForInStep.yield ((name,c) :: r))) else (do pure PUnit.unit; pure (ForInStep.yield r)):Sem (ForInStep (List (Str × aA)))))=pure cl /\
    (∀ x c,cl.lookup x=some c->env.cells.lookup x=some c)/\(∀ x∈l,x.2=.free->∃ c,cl.lookup x.1=some c)/\(∀ x c,j.lookup x=some c->∃ B,cl.lookup x=some B):=by
  intro l
  induction l with
  | nil=>intro j _ U; exact ⟨j,rfl,U,fun x O=>(by simp at O),fun x c e=>⟨c,e⟩⟩
  | cons x r ih=>
   intro j Y U;obtain ⟨n,k⟩:=x
   by_cases hk:k=.free
   ·subst hk;obtain ⟨c,hc⟩:=Y (n,.free) D3 rfl;have a2:∀ x B,((n,c) :: j).lookup x=some B->env.cells.lookup x=some B:=fun x B e=>by
     rw [E2] at e
     by_cases O:x=n
     ·subst O; simp at e; rw [<- e]; exact hc
     ·have:(x == n)=false:=by simpa using O
      rw [this] at e; exact U x B e
    obtain ⟨cl,e1,e2,e3,I⟩:=ih ((n,c) :: j) (fun y q=>Y y (D0 _ q)) a2
    refine ⟨cl,?_,e2,fun y q J=>?_,fun y B e=>?_⟩
    ·rw [db];have G:cellOf env n=pure c:=by unfold cellOf; rw [hc]
     simp only [beq_self_eq_true,if_true,G];exact e1
    ·rcases E7.mp q with e | q
     ·subst e;exact I n c (by simp)
     ·exact e3 y q J
    ·by_cases q:y=n
     ·subst q; exact I y c (by simp)
     ·have:(y == n)=false:=by simpa using q
      exact I y B (by rw [E2,this]; exact e)
   ·obtain ⟨cl,e1,e2,e3,I⟩:=ih j (fun y q=>Y y (D0 _ q)) U
    refine ⟨cl,?_,e2,fun y q J=>?_,I⟩
    ·rw [db];have:(k == NameKind.free)=false:=by simpa using hk
     simp only [this,fu,if_false];exact e1
    ·rcases E7.mp q with e | q
     ·subst e; exact absurd J hk
     ·exact e3 y q J
 obtain ⟨cl,e1,e2,e3,_⟩:=Z scope.names [] h (fun x c e=>by simp at e);refine ⟨cl,?_,e2,e3⟩;unfold closureFor;exact (congrArg (fun z=>z >>= pure) e1).trans rfl
theorem Q4m (f:Str->aj->aj) (x:Str):∀ l:List (Str × aj),(l.map fun y=>(y.1,f y.1 y.2)).lookup x=(l.lookup x).map (f x)
 | []=>rfl
 | (n,k) :: r=>by
  have z:=Q4m f x r;rw [F4,E2,E2]
  by_cases j:x=n
  ·subst j; simp
  ·have q:(x == n)=false:=by simpa using j
   rw [q]; exact z
theorem Q1s {scope:Scope} {env:Env} {x:Str}:(relabel scope env).names.lookup x =
  (scope.names.lookup x).map fun k=>if (k == .free && env.scope.kind == .function && env.kindOf x == some .cell) then .cell else k:=by
 rw [<- Q4m (fun n k=>if (k == .free && env.scope.kind == .function && env.kindOf n == some .cell) then .cell else k)]
 unfold relabel;refine congrArg (cC x) (fw fun y _=>?_);obtain ⟨n,k⟩:=y;show (if (k == NameKind.free && env.scope.kind == .function && env.kindOf n == some .cell)=true then (n,NameKind.cell) else (n,k))=_
 split <;> rfl
def Qz2 (N N':List Str) (sc scE:Scope) (cap:List (Option Nat)):Bool:=
 sc.kind == .function && sc.names.all (fun x=>x.2 != .cell) && sc.names.all (fun x=>x.2 != .local || sc.names.lookup x.1 == some .local) &&
 sc.names.all (fun x=>x.2 != .free || scE.names.lookup x.1 == some .cell || scE.names.lookup x.1 == some .free) && cap.length == N'.length &&
 (bV cap.length).all (fun i=>match cap[i]? with
  | some (some j)=>(match N'[i]?,N[j]? with | some a,some b=>a == b && sc.names.lookup a == some .free | _,_=>false)
  | _=>true)
def Q4r (cap:List (Option Nat)) (σ:St):St:=cap.map fun c=>c.bind fun j=>(σ[j]?).join
section
variable {prog:aN} {w:aK} {A:aR} {R:Result->aC->Prop} {s:aC}
end
section
variable {X:Cx}
theorem HOk.same {P:aN} {w:aK} {H:Hp} {h h':Heap} {a:aA} (ok:HOk P w H h) (z:H a=none) (hs:Heap.SameBut a h h'):HOk P w H h':=fun b ob e=>by
 refine (ok b ob e).stay (fun c B j q=>(hs.2 c ?_).trans q) (fun _ q=>q) fun _ _ q=>q
 rintro rfl;rcases j with rfl | j
 ·rw [z] at e; cases e
 ·rw [z] at j; cases j
end
def HasItems (t:Bool) (h:Heap) (a:aA) (items:Array aB):Prop:=if t=true then h.IsTuple a items else h.IsList a items
def IterAt (t:Bool) (h:Heap) (it a:aA) (i:Nat):Prop:=if t=true then h.IsTupleIter it a i else h.IsListIter it a i
theorem HasItems.at {t:Bool} {h h':Heap} {a:aA} {j:Array aB} (x:HasItems t h a j) (k:∀ o,h.get? a=some o->h'.get? a=some o):HasItems t h' a j:=by
 cases t
 ·exact Heap.IsList.at x k
 ·obtain ⟨o,e,r⟩:=x;exact ⟨o,k o e,r⟩
theorem HasItems.there {t:Bool} {h:Heap} {a:aA} {j:Array aB} (x:HasItems t h a j):∃ o,h.get? a=some o:=by
 cases t
 ·obtain ⟨o,e,_⟩:=x; exact ⟨o,e⟩
 ·obtain ⟨o,e,_⟩:=x; exact ⟨o,e⟩
theorem IterAt.at {t:Bool} {h h':Heap} {j a:aA} {i:Nat} (x:IterAt t h j a i) (k:∀ o,h.get? j=some o->h'.get? j=some o):IterAt t h' j a i:=by
 cases t
 ·exact Heap.IsListIter.at x k
 ·obtain ⟨o,e,r⟩:=x;exact ⟨o,k o e,r⟩
theorem IterAt.there {t:Bool} {h:Heap} {j a:aA} {i:Nat} (x:IterAt t h j a i):∃ o,h.get? j=some o/\∀ v,o.data≠.cell v:=by
 cases t
 ·obtain ⟨o,e,_,d⟩:=x; exact ⟨o,e,fun v z=>by rw [d] at z; cases z⟩
 ·obtain ⟨o,e,_,d⟩:=x; exact ⟨o,e,fun v z=>by rw [d] at z; cases z⟩
section
variable {prog:aN} {w:aK} {A:aR} {E:aB->aC->Prop} {s:aC}
theorem Q4f {q l:aA} {i:Nat} {items} {x:aB} {Q:aB->aC->Prop} (j:s.heap.IsTupleIter q l i)
  (I:s.heap.IsTuple l items) (O:items[i]?=some x)
  (J:∀ h',h'.IsTupleIter q l (i + 1)->Heap.SameBut q s.heap h'->Q x { s with heap:=h' }) :
  aI (aJ prog w) A (Builtin.SmallTypes.nextOf (.ref q)) Q E s:=by
 obtain ⟨o,z,U,hd⟩:=id j;obtain ⟨Y,B,_,nl,G⟩:=I;unfold Builtin.SmallTypes.nextOf;refine aF (wpAny_callSpecial?_slot (name:=bP "__next__") j.typeIs F.slot_tuple_iterator_next
  (bA F.slot_tuple_iterator_next j.typeIs F.entry_tuple_iterator_next ?_ (F.args_tuple_iterator_next_1 _)))
 show aI _ _ (field (.ref q) 0 >>= _) _ _ s;refine aF (aX z hd (x:=.ref l) rfl ?_);show aI _ _ (if (bX l == bc)=true then _ else _) _ _ s;rw [bL (show ¬ ((bX l == bc)=true) from D8)];show aI _ _ (field (.ref q) 1 >>= _) _ _ s;refine aF (aX z hd (x:=.int i 0) rfl ?_);show aI _ _ (seqItems? (.ref l) >>= _) _ _ s;refine aF (av B G ?_);simp only [cE,O];refine aF (wpAny_setField z hd (by simp) (aS ⟨x,rfl,aS (J _ ?_ (Heap.SameBut.update ..))⟩));exact ⟨_,G7 _ z (dC (cF hd _)),(ee ..).trans U,by
  rw [cF hd]; simp [aZ]⟩
theorem Q5f {q l:aA} {i:Nat} {items} {Q:aB->aC->Prop} (I:A.handled=none)
  (j:s.heap.IsTupleIter q l i) (J:s.heap.IsTuple l items) (O:items[i]?=none)
  (U:∀ h' e,Heap.ExtBut q s.heap h'->(∃ o,h'.get? e=some o/\o.cls=.type "StopIteration")->E (.ref e) { s with heap:=h' }) :
  aI (aJ prog w) A (Builtin.SmallTypes.nextOf (.ref q)) Q E s:=by
 obtain ⟨o,z,Z,hd⟩:=id j;obtain ⟨Y,B,_,nl,G⟩:=J;unfold Builtin.SmallTypes.nextOf;refine aF (wpAny_callSpecial?_slot (name:=bP "__next__") j.typeIs F.slot_tuple_iterator_next
  (bA F.slot_tuple_iterator_next j.typeIs F.entry_tuple_iterator_next ?_ (F.args_tuple_iterator_next_1 _)))
 show aI _ _ (field (.ref q) 0 >>= _) _ _ s;refine aF (aX z hd (x:=.ref l) rfl ?_);show aI _ _ (if (bX l == bc)=true then _ else _) _ _ s;rw [bL (show ¬ ((bX l == bc)=true) from D8)];show aI _ _ (field (.ref q) 1 >>= _) _ _ s;refine aF (aX z hd (x:=.int i 0) rfl ?_);show aI _ _ (seqItems? (.ref l) >>= _) _ _ s;refine aF (av B G ?_);simp only [cE,O];refine aF (bI (aF (wpAny_setField z hd (by simp) ?_)));show aI _ _ (newExc (.type "StopIteration") [] >>= _) _ _ _;refine aF ?_;simp only [newExc,newTuple];refine aF (ao ?_ (by size_fits));refine aF (m:=firstArgMember _ _) (wpAny_of_eq (a:=bc) (by first | rfl | (simp only [firstArgMember]; rfl)) ?_);refine ao ?_ (by size_fits);simp only [raiseNew]
 refine aF (wpAny_handled ?_)
 first | rw [show A.in1.handled=none from I] | rw [I]
 refine aF (aS (wpAny_throw ?_));exact U _ _ (((Heap.SameBut.update ..).extBut.push _).push _) ⟨_,D6 _ rfl,rfl⟩
theorem yh {t:Bool} {z l:aA} {i:Nat} {j:Array aB} {x:aB} {Q:aB->aC->Prop} (q:IterAt t s.heap z l i)
  (B:HasItems t s.heap l j) (I:j[i]?=some x)
  (G:∀ h',IterAt t h' z l (i + 1)->Heap.SameBut z s.heap h'->Q x { s with heap:=h' }) :
  aI (aJ prog w) A (Builtin.SmallTypes.nextOf (.ref z)) Q E s:=by
 cases t
 ·exact wpAny_nextOf_list_item q B I G
 ·exact Q4f q B I G
theorem Q0q {t:Bool} {z l:aA} {i:Nat} {j:Array aB} {Q:aB->aC->Prop} (J:A.handled=none)
  (q:IterAt t s.heap z l i) (B:HasItems t s.heap l j) (G:j[i]?=none)
  (I:∀ h' e,Heap.ExtBut z s.heap h'->(∃ o,h'.get? e=some o/\o.cls=.type "StopIteration")->E (.ref e) { s with heap:=h' }) :
  aI (aJ prog w) A (Builtin.SmallTypes.nextOf (.ref z)) Q E s:=by
 cases t
 ·exact wpAny_nextOf_list_end J q B G I
 ·exact Q5f J q B G I
def Kg (t:Bool) (l:aA):Obj:=if t=true then { cls:=.type "tuple_iterator",data:=.fields #[.ref l,.int 0 0] } else { cls:=.type "list_iterator",data:=.fields #[.ref l,.int 0 0] }
theorem Xu {t:Bool} {l:aA} {j:Array aB} {Q:aB->aC->Prop} (q:HasItems t s.heap l j)
  (z:Q (.ref s.heap.objs.size) { s with heap:=s.heap.push (Kg t l) }):aI (aJ prog w) A (pyIter (.ref l)) Q E s:=by
 cases t
 ·exact wpAny_pyIter_list q z
 ·exact bG q z
theorem Q3w {t:Bool} {h:Heap} {j l:aA} (e:h.get? j=some (Kg t l)):IterAt t h j l 0:=by
 cases t
 ·exact ⟨_,e,rfl,rfl⟩
 ·exact ⟨_,e,rfl,rfl⟩
theorem Q0z (t:Bool) (l:aA):(Kg t l).isFreed=false:=by cases t <;> rfl
theorem Qgw {t1 t2:Bool} {z TI TO i1 i2 l1 l2:aA} {k1 k2:Nat} {xs ys:Array aB} {x y a b:aB} {Q:aB->aC->Prop} (D:ZipApart z TI TO i1 i2 l1 l2)
  (hz:IsZip s.heap z TI TO .none) (c9:aY s.heap TI (.ref i1) (.ref i2)) (d0:aY s.heap TO a b)
  (h1:IterAt t1 s.heap i1 l1 k1) (h2:IterAt t2 s.heap i2 l2 k2) (c8:HasItems t1 s.heap l1 xs) (d1:HasItems t2 s.heap l2 ys) (hx:xs[k1]?=some x) (hy:ys[k2]?=some y)
  (hQ:∀ h',IsZip h' z TI TO (aZ s.heap.objs.size)->aY h' TO x y->IterAt t1 h' i1 l1 (k1 + 1)->IterAt t2 h' i2 l2 (k2 + 1)->aY h' s.heap.objs.size x y->h'.objs.size=s.heap.objs.size + 1 ->
   (∀ c o,c≠z->c≠TO->c≠i1->c≠i2->s.heap.get? c=some o->h'.get? c=some o)->Q (.ref s.heap.objs.size) { s with heap:=h' }) :
  aI (aJ prog w) A (Builtin.«zip.__next__» ⟨[.ref z],[]⟩) (fun fin s'=>∃ v,fin=.done (.ret v)/\Q v s') E s:=by
 show aI _ _ (field (.ref z) 2 >>= _) _ _ _;refine aF (aX hz rfl (x:=.bool false) rfl ?_);show aI _ _ (field (.ref z) 3 >>= _) _ _ _;refine aF (aX hz rfl (x:=.ref TI) rfl ?_);refine aF (av c9 rfl ?_);show aI _ _ (Builtin.SmallTypes.ownedTupleIsFree (.ref z) >>= _) _ _ _;refine aF ?_;unfold Builtin.SmallTypes.ownedTupleIsFree;refine aF (aX hz rfl (x:=.none) rfl (aS ?_));simp only [if_true];refine aF (bI ?_);refine aF (aX hz rfl (x:=.ref TO) rfl ?_);refine aF (bF hz (by simp) fun c6 a3 q=>?_)
 replace a3:IsZip c6 z TI TO .ellipsis:=a3;refine aF ?_;simp only [fx,fy,db,ek];refine aF (aF (wpAny_onRaise ?_));show aI _ _ (Builtin.SmallTypes.nextOf (.ref i1) >>= _) _ _ _;refine aF (yh (h1.at fun o e=>q.extBut _ _ D.i1z e) (c8.at fun o e=>q.extBut _ _ D.l1z e) hx fun b7 b2 G=>aS ?_)
 have a7:aY b7 TO a b:=G.extBut _ _ D.TOi1 (q.extBut _ _ D.TOz d0);refine aF (av a7 rfl ?_);refine aF (wpAny_updateSeq_pair a7 fun c7 U B=>?_);replace U:aY c7 TO x b:=U;refine aF (wpAny_letGo (aS ?_));refine aF (aF (wpAny_onRaise ?_));show aI _ _ (Builtin.SmallTypes.nextOf (.ref i2) >>= _) _ _ _;refine aF (yh (h2.at fun o e=>B.extBut _ _ D.TOi2.symm (G.extBut _ _ D.i12.symm (q.extBut _ _ D.i2z e)))
  (d1.at fun o e=>B.extBut _ _ D.l2TO (G.extBut _ _ D.l2i1 (q.extBut _ _ D.l2z e))) hy fun b9 b5 O=>aS ?_)
 have a6:aY b9 TO x b:=O.extBut _ _ D.TOi2 U;refine aF (av a6 rfl ?_);refine aF (wpAny_updateSeq_pair a6 fun j I J=>?_);replace I:aY j TO x y:=I;refine aF (wpAny_letGo (aS (aS ?_)));refine aF (av I rfl ?_);refine aF (wpAny_newTuple ?_);have c0:j.objs.size=s.heap.objs.size:=by rw [J.1,O.1,B.1,G.1,q.1]
 have a9:IsZip j z TI TO .ellipsis:=J.extBut _ _ D.TOz.symm (O.extBut _ _ D.i2z.symm (B.extBut _ _ D.TOz.symm (G.extBut _ _ D.i1z.symm a3)));have b1:∀ c o,c≠z->c≠TO->c≠i1->c≠i2->s.heap.get? c=some o->j.get? c=some o:=fun c o c1 c2 c3 c4 e=>
  J.extBut _ _ c2 (O.extBut _ _ c4 (B.extBut _ _ c2 (G.extBut _ _ c3 (q.extBut _ _ c1 e))))
 have b3:IterAt t1 j i1 l1 (k1 + 1):=b2.at fun o e=>J.extBut _ _ D.TOi1.symm (O.extBut _ _ D.i12 (B.extBut _ _ D.TOi1.symm e))
 have b4:IterAt t2 j i2 l2 (k2 + 1):=b5.at fun o e=>J.extBut _ _ D.TOi2.symm e
 have b0:z < j.objs.size:=O7 a9;show aI _ _ (Builtin.SmallTypes.ownedTupleHandOut (.ref z) (.ref j.objs.size) >>= _) _ _ _;refine aF ?_;unfold Builtin.SmallTypes.ownedTupleHandOut;have b6:IsZip (j.push { cls:=.type "tuple",data:=.seq #[x,y] }) z TI TO .ellipsis:=O1 _ a9;refine aF (bF b6 (by simp) fun c5 a5 a2=>?_)
 replace a5:IsZip c5 z TI TO (aZ j.objs.size):=a5;refine bF a5 (by simp) fun Z Y a4=>?_
 replace Y:IsZip Z z TI TO (aZ j.objs.size):=Y;have up:∀ c o,c≠z->j.get? c=some o->Z.get? c=some o:=fun c o c1 e=>a4.extBut _ _ c1 (a2.extBut _ _ c1 (O1 _ e))
 have a8:aY Z j.objs.size x y:=a4.extBut _ _ (bw b0) (a2.extBut _ _ (bw b0) (D6 _ rfl));have b8:Z.objs.size=j.objs.size + 1:=by rw [a4.1,a2.1,F5]
 rw [c0] at Y a8 b8;refine aS ⟨_,rfl,?_⟩;show Q (.ref j.objs.size) _;rw [c0];exact hQ Z Y (up _ _ D.TOz I) (b3.at fun o e=>up _ o D.i1z e) (b4.at fun o e=>up _ o D.i2z e) a8 b8 fun c o c1 c2 c3 c4 e=>up c o c1 (b1 c o c1 c2 c3 c4 e)
theorem Qj0 {t1 t2:Bool} {z TI TO i1 i2 l1 l2:aA} {k1 k2:Nat} {xs ys:Array aB} {a b:aB} {Q:Fin->aC->Prop} (hh:A.handled=none) (D:ZipApart z TI TO i1 i2 l1 l2)
  (hz:IsZip s.heap z TI TO .none) (b3:aY s.heap TI (.ref i1) (.ref i2)) (b4:aY s.heap TO a b)
  (h1:IterAt t1 s.heap i1 l1 k1) (h2:IterAt t2 s.heap i2 l2 k2) (a6:HasItems t1 s.heap l1 xs) (b5:HasItems t2 s.heap l2 ys) (a7:xs[k1]?=none\/ys[k2]?=none)
  (hE:∀ h' e,(∀ c o,c≠z->c≠TO->c≠i1->c≠i2->s.heap.get? c=some o->h'.get? c=some o)->(∃ o,h'.get? e=some o/\o.cls=.type "StopIteration")->E (.ref e) { s with heap:=h' }) :
  aI (aJ prog w) A (Builtin.«zip.__next__» ⟨[.ref z],[]⟩) Q E s:=by
 show aI _ _ (field (.ref z) 2 >>= _) _ _ _;refine aF (aX hz rfl (x:=.bool false) rfl ?_);show aI _ _ (field (.ref z) 3 >>= _) _ _ _;refine aF (aX hz rfl (x:=.ref TI) rfl ?_);refine aF (av b3 rfl ?_);show aI _ _ (Builtin.SmallTypes.ownedTupleIsFree (.ref z) >>= _) _ _ _;refine aF ?_;unfold Builtin.SmallTypes.ownedTupleIsFree;refine aF (aX hz rfl (x:=.none) rfl (aS ?_));simp only [if_true];refine aF (bI ?_);refine aF (aX hz rfl (x:=.ref TO) rfl ?_);refine aF (bF hz (by simp) fun b0 G j=>?_)
 replace G:IsZip b0 z TI TO .ellipsis:=G;refine aF ?_;simp only [fx,fy,db,ek];refine aF (aF (wpAny_onRaise ?_));show aI _ _ (Builtin.SmallTypes.nextOf (.ref i1) >>= _) _ _ _;cases hx:xs[k1]? with
 | none=>
  refine aF (Q0q hh (h1.at fun o e=>j.extBut _ _ D.i1z e) (a6.at fun o e=>j.extBut _ _ D.l1z e) hx fun O e q he=>?_)
  obtain ⟨oe,I,a3⟩:=he;have a2:IsZip O z TI TO .ellipsis:=q _ _ D.i1z.symm G;have a5:e≠z:=fun x=>by subst x; rw [a2] at I; cases I; simp at a3
  refine bF a2 (by simp) fun a4 _ B=>hE a4 e (fun c o c1 _ c3 _ x=>B.extBut _ _ c1 (q _ _ c3 (j.extBut _ _ c1 x))) ⟨oe,B.extBut _ _ a5 I,a3⟩
 | some x=>
  have hy:ys[k2]?=none:=by rcases a7 with h | h; rw [hx] at h; cases h; exact h
  refine aF (yh (h1.at fun o e=>j.extBut _ _ D.i1z e) (a6.at fun o e=>j.extBut _ _ D.l1z e) hx fun O b2 q=>aS ?_)
  have J:aY O TO a b:=q.extBut _ _ D.TOi1 (j.extBut _ _ D.TOz b4);refine aF (av J rfl ?_);refine aF (wpAny_updateSeq_pair J fun a4 b1 B=>?_);refine aF (wpAny_letGo (aS ?_));refine aF (aF (wpAny_onRaise ?_));show aI _ _ (Builtin.SmallTypes.nextOf (.ref i2) >>= _) _ _ _;refine aF (Q0q hh (h2.at fun o e=>B.extBut _ _ D.TOi2.symm (q.extBut _ _ D.i12.symm (j.extBut _ _ D.i2z e)))
   (b5.at fun o e=>B.extBut _ _ D.l2TO (q.extBut _ _ D.l2i1 (j.extBut _ _ D.l2z e))) hy fun a8 e Y he=>?_)
  obtain ⟨oe,I,a3⟩:=he;have Z:IsZip a8 z TI TO .ellipsis:=Y _ _ D.i2z.symm (B.extBut _ _ D.TOz.symm (q.extBut _ _ D.i1z.symm G));have a5:e≠z:=fun x=>by subst x; rw [Z] at I; cases I; simp at a3
  refine bF Z (by simp) fun a9 _ U=>hE a9 e (fun c o c1 c2 c3 c4 x=>U.extBut _ _ c1 (Y _ _ c4 (B.extBut _ _ c2 (q.extBut _ _ c3 (j.extBut _ _ c1 x))))) ⟨oe,U.extBut _ _ a5 I,a3⟩
theorem Q84 {t1 t2:Bool} {z TI TO q j B G:aA} {k1 k2:Nat} {xs ys:Array aB} {x y a b:aB} {Q:Option aB->aC->Prop} (D:ZipApart z TI TO q j B G)
  (hz:IsZip s.heap z TI TO .none) (J:aY s.heap TI (.ref q) (.ref j)) (O:aY s.heap TO a b)
  (h1:IterAt t1 s.heap q B k1) (h2:IterAt t2 s.heap j G k2) (I:HasItems t1 s.heap B xs) (U:HasItems t2 s.heap G ys) (hx:xs[k1]?=some x) (hy:ys[k2]?=some y)
  (hQ:∀ h',IsZip h' z TI TO (aZ s.heap.objs.size)->aY h' TO x y->IterAt t1 h' q B (k1 + 1)->IterAt t2 h' j G (k2 + 1)->aY h' s.heap.objs.size x y->h'.objs.size=s.heap.objs.size + 1 ->
   (∀ c o,c≠z->c≠TO->c≠q->c≠j->s.heap.get? c=some o->h'.get? c=some o)->Q (some (.ref s.heap.objs.size)) { s with heap:=h' }) :
  aI (aJ prog w) A (ar (.ref z)) Q E s:=by
 have Y:s.TypeIs (.ref z) "zip" := ⟨_,hz,rfl⟩;unfold ar;exact aF (wpAny_attempt (wpAny_callSpecial?_slot (name:=bP "__next__") Y F.slot_zip_next
  (bA F.slot_zip_next Y F.entry_zip_next
   (Qgw D hz J O h1 h2 I U hx hy fun h' a1 a2 a3 Z a5 a6 a7=>aS (hQ h' a1 a2 a3 Z a5 a6 a7)) (F.args_zip_next_1 _))))
theorem Qa5 {t1 t2:Bool} {z TI TO B q G O:aA} {k1 k2:Nat} {xs ys:Array aB} {a b:aB} {Q:Option aB->aC->Prop} (hh:A.handled=none) (D:ZipApart z TI TO B q G O)
  (hz:IsZip s.heap z TI TO .none) (J:aY s.heap TI (.ref B) (.ref q)) (U:aY s.heap TO a b)
  (h1:IterAt t1 s.heap B G k1) (h2:IterAt t2 s.heap q O k2) (I:HasItems t1 s.heap G xs) (Y:HasItems t2 s.heap O ys) (j:xs[k1]?=none\/ys[k2]?=none)
  (hQ:∀ h',(∀ c o,c≠z->c≠TO->c≠B->c≠q->s.heap.get? c=some o->h'.get? c=some o)->Q none { s with heap:=h' }):aI (aJ prog w) A (ar (.ref z)) Q E s:=by
 have Z:s.TypeIs (.ref z) "zip" := ⟨_,hz,rfl⟩;unfold ar;refine aF (wpAny_attempt (wpAny_callSpecial?_slot (name:=bP "__next__") Z F.slot_zip_next
  (bA F.slot_zip_next Z F.entry_zip_next (Qj0 hh D hz J U h1 h2 I Y j fun h' e hk he=>?_) (F.args_zip_next_1 _))))
 obtain ⟨o,ho,hc⟩:=he;refine aF (bJ (T := "StopIteration") (b:=true) ⟨o,ho,hc⟩ isSubtype_stop ?_);exact aS (hQ _ hk)
end
def zH1 (t1:Bool) (h:Heap) (l1:aA):Heap:=h.push (Kg t1 l1)
def zH2 (t1 t2:Bool) (h:Heap) (l1 l2:aA):Heap:=(zH1 t1 h l1).push (Kg t2 l2)
def zH3 (t1 t2:Bool) (h:Heap) (l1 l2:aA):Heap:=(zH2 t1 t2 h l1 l2).push { cls:=.type "tuple",data:=.seq #[.ref h.objs.size,.ref (zH1 t1 h l1).objs.size] }
def zH4 (t1 t2:Bool) (h:Heap) (l1 l2:aA):Heap:=(zH3 t1 t2 h l1 l2).push { cls:=.type "tuple",data:=.seq #[.none,.none] }
def zH5 (t1 t2:Bool) (h:Heap) (l1 l2:aA):Heap:=(zH4 t1 t2 h l1 l2).push { cls:=.type "zip",data:=.fields #[.none,.bool false,.bool false,.ref (zH2 t1 t2 h l1 l2).objs.size,.ref (zH3 t1 t2 h l1 l2).objs.size] }
theorem Q85 (t1 t2:Bool) (j q:aA) (xs ys:Array aB) :
  Meets (Builtin.«zip.__new__» ⟨[.type "zip",.ref j,.ref q],[]⟩) (fun _ R s=>HasItems t1 s.heap j xs/\HasItems t2 s.heap q ys /\
   R (.ok (.ret (.ref (zH4 t1 t2 s.heap j q).objs.size))) { s with heap:=zH5 t1 t2 s.heap j q }):=
 .of_wp fun prog w A R s h=>by
  obtain ⟨hp,g,d,tk,os⟩:=s; obtain ⟨z,B,h⟩:=h;have J:=sub_zip;have I:HasItems t1 (Shared.heap ⟨hp,g,d,tk,os⟩) j xs:=z;have G:HasItems t2 (Shared.heap ⟨hp.push (Kg t1 j),g,d,tk,os⟩) q ys:=B.at fun o e=>O1 _ e
  wp_walk using Xu I,Xu G
  exact ⟨_,rfl,h⟩
section
variable {prog:aN} {w:aK} {A:aR} {E:aB->aC->Prop} {s:aC}
theorem Qig {t1 t2:Bool} {j q:aA} {xs ys:Array aB} {Q:aB->aC->Prop} (B:HasItems t1 s.heap j xs) (I:HasItems t2 s.heap q ys)
  (h:∀ h',IsZip h' (s.heap.objs.size + 4) (s.heap.objs.size + 2) (s.heap.objs.size + 3) .none->aY h' (s.heap.objs.size + 2) (.ref s.heap.objs.size) (.ref (s.heap.objs.size + 1)) ->
   aY h' (s.heap.objs.size + 3) .none .none->IterAt t1 h' s.heap.objs.size j 0->IterAt t2 h' (s.heap.objs.size + 1) q 0->h'.objs.size=s.heap.objs.size + 5 ->
   (∀ c o,s.heap.get? c=some o->h'.get? c=some o)->Q (.ref (s.heap.objs.size + 4)) { s with heap:=h' }) :
  aI (aJ prog w) A (call (.type "zip") [.ref j,.ref q]) Q E s:=by
 refine callType_new F.called_zip (by decide) (F.typeCall_zip_2 _ _) (F.newCall_zip_2 _ _) (fun obj=>F.args_object_init_3 obj _ _) F.entry_zip_new
  (Q85 t1 t2 j q xs ys) ⟨B,I,?_⟩
 have U:(zH1 t1 s.heap j).objs.size=s.heap.objs.size + 1:=F5 ..;have G:(zH2 t1 t2 s.heap j q).objs.size=s.heap.objs.size + 2:=by unfold zH2; rw [F5,U]
 have O:(zH3 t1 t2 s.heap j q).objs.size=s.heap.objs.size + 3:=by unfold zH3; rw [F5,G]
 have z:(zH4 t1 t2 s.heap j q).objs.size=s.heap.objs.size + 4:=by unfold zH4; rw [F5,O]
 have z5:(zH5 t1 t2 s.heap j q).objs.size=s.heap.objs.size + 5:=by unfold zH5; rw [F5,z]
 have J:(zH5 t1 t2 s.heap j q).get? (zH4 t1 t2 s.heap j q).objs.size=some { cls:=.type "zip",data:=.fields #[.none,.bool false,.bool false,.ref (zH2 t1 t2 s.heap j q).objs.size,.ref (zH3 t1 t2 s.heap j q).objs.size] }:=D6 _ rfl;have Z:(zH5 t1 t2 s.heap j q).get? (zH3 t1 t2 s.heap j q).objs.size=some { cls:=.type "tuple",data:=.seq #[.none,.none] }:=O1 _ (D6 _ rfl);have Y:(zH5 t1 t2 s.heap j q).get? (zH2 t1 t2 s.heap j q).objs.size=some { cls:=.type "tuple",data:=.seq #[.ref s.heap.objs.size,.ref (zH1 t1 s.heap j).objs.size] }:=O1 _ (O1 _ (D6 _ rfl));have g2:(zH5 t1 t2 s.heap j q).get? (zH1 t1 s.heap j).objs.size=some (Kg t2 q):=O1 _ (O1 _ (O1 _ (D6 _ (Q0z _ _))));have g1:(zH5 t1 t2 s.heap j q).get? s.heap.objs.size=some (Kg t1 j):=O1 _ (O1 _ (O1 _ (O1 _ (D6 _ (Q0z _ _)))));show _/\_;rw [G,O,z] at J;rw [U,G] at Y;rw [O] at Z;rw [U] at g2;rw [z];exact ⟨⟨_,J,rfl⟩,h _ J Y Z (Q3w g1) (Q3w g2) z5 fun c o x=>
  O1 _ (O1 _ (O1 _ (O1 _ (O1 _ x))))⟩
end
def SqK (K:bQ) (t:Bool) (H:Hp) (a:aA) (xs:List V):Prop:=if t=true then SqT K H a xs else SqL K H a xs
section
variable {X:Cx} {pins:List (aA × Obj)} {σ:St} {H:Hp} {s:aC}
theorem Inv.seqK {t:Bool} {a:aA} {xs:List V} (I:Inv X pins σ H s) (h:SqK X.K t H a xs):∃ its:List aB,Vals xs its/\HasItems t s.heap a its.toArray/\xs.length<=sizeLine:=by
 cases t
 ·obtain ⟨its,r,p,z⟩:=I.list h;exact ⟨its,r,p.isList,z⟩
 ·obtain ⟨its,r,p,z⟩:=I.tuple h;exact ⟨its,r,p,z⟩
theorem Inv.seqK_inj {t:Bool} {a:aA} {xs ys:List V} (I:Inv X pins σ H s) (h:SqK X.K t H a xs) (h':SqK X.K t H a ys):xs=ys:=by
 cases t
 ·exact I.list_inj h h'
 ·exact I.tuple_inj h h'
theorem Inv.turnedL {t':Nat} {its:List aA} {h':Heap} (I:Inv X pins σ H s) (k:∀ b o,b∉its->s.heap.get? b=some o->h'.get? b=some o) (G:∀ b∈its,Q98 X pins H b):Inv X pins σ H { s with heap:=h',toks:=t' }:=by
 have B:∀ b u,H b=some u->b∉its:=fun b u e z=>by rw [(G b z).1] at e; cases e
 refine I.step (g':=s.gens) (d':=s.drawn) (ch:=its) (fun b Z=>?_) (fun b o _ _ j e _=>k b o j e) (fun b o _ _ j e _=>⟨o.slots,k b o j e⟩) (fun _ _ _ _ n=>n)
  (fun b o j e=>⟨o,k b o j e⟩) (fun _ _ e=>e) (fun _ _ _ e=>e) (fun b ps e=>⟨#[],by rw [e]; simp⟩) (fun m J=>?_) (fun b u e=>?_) I.bare
 ·obtain ⟨f0,f1,f2,f3,O,Y⟩:=G b Z;exact ⟨f3,f1,O,Y⟩
 ·obtain ⟨o,es,ep,U,r⟩:=J;exact ⟨o,es,ep,k _ o (fun z=>(G _ z).2.1 rfl) U,r⟩
 ·refine (I.hok b u e).stay (fun c v j q=>k c v ?_ q) (fun _ q=>q) fun _ _ q=>q
  rcases j with z | z
  ·rw [z]; exact B b u e
  ·exact B c _ z
end
def Itz (K:bQ) (t1 t2:Bool) (a b:aA):It:=
 ⟨fun i H=>∃ xs ys x y,SqK K t1 H a xs/\SqK K t2 H b ys/\xs[i]?=some x/\ys[i]?=some y,
  fun i H v H'=>∃ p x y,H p=none/\v=.ref p/\H'=upd H p (.tup [x,y])/\∀ xs ys,SqK K t1 H a xs->SqK K t2 H b ys->xs[i]?=some x/\ys[i]?=some y,
  fun i H=>∃ xs ys,SqK K t1 H a xs/\SqK K t2 H b ys/\(xs.length<=i\/ys.length<=i)⟩
def Qum (t1 t2:Bool) (z TI TO i1 i2 a b:aA) (i:Nat) (h:Heap):Prop:=
 IsZip h z TI TO .none/\aY h TI (.ref i1) (.ref i2)/\(∃ u v,aY h TO u v)/\IterAt t1 h i1 a i/\IterAt t2 h i2 b i
theorem Qaq {a b:aB}:∀ v,({ cls:=.type "tuple",data:=.seq #[a,b] }:Obj).data≠.cell v:=fun v z=>by cases z
theorem Qj8 {P:aN} {w:aK} {K:bQ} {elts:List aD} {k:Nat} {pos:Pos} {t1 t2:Bool} {z TI TO i1 Z a b:aA} (D:ZipApart z TI TO i1 Z a b) :
  Turn P w K (.Tuple elts k pos) (Itz K t1 t2 a b) [z,TI,TO,i1,Z] z (Qum t1 t2 z TI TO i1 Z a b) where
 mem:=by simp
 obj:=fun i h st c j=>by
  obtain ⟨hz,B,⟨u,v,G⟩,h1,h2⟩:=st;simp at j;rcases j with rfl | rfl | rfl | rfl | rfl
  ·exact ⟨_,hz,fun v q=>by cases q⟩
  ·exact ⟨_,B,Qaq⟩
  ·exact ⟨_,G,Qaq⟩
  ·exact h1.there
  ·exact h2.there
 keep:=fun i h h' st kk=>by
  obtain ⟨hz,B,⟨u,v,G⟩,h1,h2⟩:=st;exact ⟨kk z (by simp) _ hz,kk TI (by simp) _ B,⟨u,v,kk TO (by simp) _ G⟩,h1.at fun o e=>kk i1 (by simp) o e,h2.at fun o e=>kk Z (by simp) o e⟩
 item:=by
  intro X hP hw hK j i pins s σ H E I hf st hg;subst hP hw hK;obtain ⟨xs,ys,x,y,Y,O,hx,hy⟩:=hg;obtain ⟨hz,B,⟨u,v,G⟩,h1,h2⟩:=st;obtain ⟨its,rv,p,_⟩:=I.seqK Y;obtain ⟨b3,b0,p2,_⟩:=I.seqK O;obtain ⟨ux,c3,c2⟩:=rv.get hx;obtain ⟨uy,b8,c0⟩:=b0.get hy;refine Q84 D hz B G h1 h2 p p2 (x:=ux) (y:=uy) (by simpa using c3) (by simpa using b8) fun h' a1 a2 a3 a4 a5 a6 a7=>⟨_,rfl,?_⟩
  refine wpAny_letOwnedTupleGo_zip (s:={ s with heap:=h' }) a1 fun a9 b1 b2=>?_
  have b7:H s.heap.objs.size=none:=I.fresh;have b9:z < s.heap.objs.size:=O7 hz;have c7:TI < s.heap.objs.size:=O7 B;have c4:TO < s.heap.objs.size:=O7 G;have c5:i1 < s.heap.objs.size:=by obtain ⟨o,e,_⟩:=h1.there; exact O7 e
  have c6:Z < s.heap.objs.size:=by obtain ⟨o,e,_⟩:=h2.there; exact O7 e
  have U:Inv X pins σ H { s with heap:=a9 }:=I.turnedL (t':=s.toks) (its:=[z,TO,i1,Z]) (fun c o j e=>(b2.2 c (fun q=>j (by simp [q]))).trans (a7 c o (fun q=>j (by simp [q])) (fun q=>j (by simp [q])) (fun q=>j (by simp [q])) (fun q=>j (by simp [q])) e))
   fun c j=>hf c (by simp at j ⊢; rcases j with rfl | rfl | rfl | rfl <;> simp)
  have a8:aY a9 s.heap.objs.size ux uy:=(b2.2 _ (bw b9)).trans a5;have J:H s.heap.objs.size=none:=b7;have I2:Inv X pins σ (upd H s.heap.objs.size (.tup [x,y])) { s with heap:=a9 }:=by
   refine ⟨U.ok,U.os,U.bare,?_,U.loc,U.cell,?_,?_,?_,?_,U.len⟩
   ·have u0:=U.base;have old:∀ c o,X.s₀.heap.get? c=some o->c≠s.heap.objs.size:=fun c o e=>E5 (D1 (O7 e) I.sz)
    exact ⟨u0.keep,u0.slot,fun c o e n hx=>by rw [Qf (old c o e)]; exact u0.free c o e n hx,u0.there,
     fun c ts e=>by have:=u0.tups c ts e; rw [Qf (Qh this J)]; exact this,
     fun c o ts e=>by have:=u0.frzs c o ts e; rw [Qf (Qh this J)]; exact this,
     fun c ps e=>by obtain ⟨more,q⟩:=u0.tbls c ps e; exact ⟨more,by rw [Qf (Qh q J)]; exact q⟩⟩
   ·rw [Qf (E5 I.lt)]; exact I.free
   ·intro x' c e;obtain ⟨v',q⟩:=I.cell x' c e;rw [Qf (E5 q.lt)]; exact I.freeC x' c e
   ·intro p' b6;obtain ⟨e,n,ne,nf,d⟩:=U.pin p' b6;have e0:=(I.pin p' b6).1;exact ⟨e,by rw [Qf (E5 (O7 e0))]; exact n,ne,nf,d⟩
   ·intro c o q
    by_cases b4:c=s.heap.objs.size
    ·subst b4;rw [Je] at q; cases q;exact ⟨by simp only [D4,cK]; rw [sizeLine_eq]; decide,[ux,uy],.cons c2 (.cons c0 .nil),⟨_,a8,rfl,0,rfl⟩⟩
    ·rw [Qf b4] at q;exact (U.hok c o q).stay (fun _ _ _ r=>r) (fun c' r=>by rw [Qf (Qh r J)]; exact r) fun c' ts r=>by rw [Qf (Qh r J)]; exact r
  refine ⟨.ref s.heap.objs.size,_,I2,rfl,⟨s.heap.objs.size,x,y,J,rfl,rfl,fun c8 c9 q1 q2=>?_⟩,?_,fun c j=>?_⟩
  ·rw [I.seqK_inj q1 Y,I.seqK_inj q2 O]; exact ⟨hx,hy⟩
  ·exact ⟨b1,b2.extBut _ _ D.TIz (a7 _ _ D.TIz D.TITO D.TIi1 D.TIi2 B),⟨_,_,b2.extBut _ _ D.TOz a2⟩,a3.at fun o e=>b2.extBut _ _ D.i1z e,a4.at fun o e=>b2.extBut _ _ D.i2z e⟩
  ·have:=(hf c j).1;have c1:c < s.heap.objs.size:=by simp at j; rcases j with rfl | rfl | rfl | rfl | rfl <;> assumption
   rw [Qf (E5 c1)]; exact this
 done:=by
  intro X hP hw hK j i pins s σ H E I hf st hg;subst hP hw hK;obtain ⟨xs,ys,Y,O,b5⟩:=hg;obtain ⟨hz,B,⟨u,v,G⟩,h1,h2⟩:=st;obtain ⟨its,rv,p,_⟩:=I.seqK Y;obtain ⟨b3,b0,p2,_⟩:=I.seqK O;have l1:=rv.length;have l2:=b0.length;refine Qa5 (I.ok.hd j) D hz B G h1 h2 p p2 (b5.elim (fun h=>.inl (by simp; omega)) fun h=>.inr (by simp; omega)) fun h' kk=>⟨rfl,?_⟩
  exact I.turnedL (t':=s.toks) (its:=[z,TO,i1,Z]) (fun c o j e=>kk c o (fun q=>j (by simp [q])) (fun q=>j (by simp [q])) (fun q=>j (by simp [q])) (fun q=>j (by simp [q])) e)
   fun c j=>hf c (by simp at j ⊢; rcases j with rfl | rfl | rfl | rfl <;> simp)
 self:=fun _ _ _ _ _ st h=>wpAny_pyIter_zip st.1 h
section
variable {X:Cx}
def Qyx (K:bQ) (t1 t2:Bool) (ta:TA):TI:=fun σ H R=>ta σ H fun vs H1=>∃ a b xs ys,vs=[.ref a,.ref b]/\SqK K t1 H1 a xs/\SqK K t2 H1 b ys/\R (Itz K t1 t2 a b) H1
theorem Qmt:aa "zip" = some (.type "zip"):=by decide +kernel
theorem Qsg (t1 t2:Bool) {a b:aD} {ta:TA} {p pos:Pos} {elts:List aD} {k:Nat} {tp:Pos} (hg:Gl X "zip") (hm:X.mg "zip" = none) (ha:PA X [a,b] ta) (hs:aO [a,b] X.env=[(false,aL a X.env),(false,aL b X.env)]:=by rfl) (B:aO [b] X.env=[(false,aL b X.env)]:=by rfl) :
  PI X (.Tuple elts k tp) (.Call (.Name "zip" p) [a,b] [] pos) (Qyx X.K t1 t2 ta):=by
 intro pins s σ H R I h;refine Call_ (Q3v I hg hm Qmt (cz (thn (ha pos pins s σ H _ I h) fun us s1 ⟨vs,H1,j,r1,q1⟩=>?_) (by rw [hs,B]) (by rw [B]; rfl)))
 obtain ⟨Y,b',xs,ys,e,q1,q2,q⟩:=q1;subst e;cases r1 with
 | cons r J=>
  cases J with
  | cons r' J=>
   cases J;cases r;cases r';obtain ⟨its,rv,O,_⟩:=j.seqK q1;obtain ⟨U,a3,p2,_⟩:=j.seqK q2;refine Qig O p2 fun h' Z z2 z3 z4 z5 z6 z7=>?_
   refine wpAny_pyIter_zip (s:={ s1 with heap:=h' }) Z ?_;have a2:Y < s1.heap.objs.size:=by obtain ⟨o,e⟩:=O.there; exact O7 e
   have a4:b' < s1.heap.objs.size:=by obtain ⟨o,e⟩:=p2.there; exact O7 e
   have D:ZipApart (s1.heap.objs.size + 4) (s1.heap.objs.size + 2) (s1.heap.objs.size + 3) s1.heap.objs.size (s1.heap.objs.size + 1) Y b':=by
    constructor <;> (intro z; unfold aA at *; omega)
   refine ⟨_,[s1.heap.objs.size + 4,s1.heap.objs.size + 2,s1.heap.objs.size + 3,s1.heap.objs.size,s1.heap.objs.size + 1],_,_,H1,rfl,j.kept (t':=s1.toks) z7,Qj8 (t1:=t1) (t2:=t2) D,⟨Z,z2,⟨_,_,z3⟩,z4,z5⟩,fun c hc=>?_,q⟩
   have G:s1.heap.objs.size<=c:=by simp at hc; unfold aA at *; omega
   exact j.fpOk G (j.hok.fresh G)
end
theorem Q74 {prog:aN} {w:aK} {A:aR} (B:A.handled=none) (t:Bool) (I q:aA) (z:q≠I) (j:Array aB) :
  Walks prog w A I [I,q] [I] j.size (fun i v=>j[i]?=some v) (fun i h=>IterAt t h I q i/\HasItems t h q j):=by
 cases t
 ·exact Walks.list B I q z j
 ·exact Walks.tuple B I q z j
theorem Q4n {α:Type} (l:List α) (d:α) {n:Nat} (h:n < l.length):l.getD n d=l[n]:=by simp [ba,h]
theorem Qd6 (ns:List Int):preSum (fun j=>ns.getD j 0) ns.length=ns.sum:=by
 have z:∀ (k:Nat),k<=ns.length->preSum (fun j=>ns.getD j 0) k=(ns.take k).sum:=by
  intro k
  induction k with
  | zero=>intro _; rfl
  | succ k B=>
   intro G;show preSum _ k + ns.getD k 0=_;have q:k < ns.length:=by omega
   rw [B (by omega),List.take_succ,gA,Q4n _ _ q,O4 q];simp
 rw [z ns.length (O8 _),eu]
section
variable {X:Cx} {pins:List (aA × Obj)} {σ:St} {H:Hp} {s:aC}
theorem Inv.movedNew {s':aC} (I:Inv X pins σ H s) {o:Obj} (m:Moved [s.heap.objs.size] (fun a b=>b=a) { s with heap:=s.heap.push o } s'):Inv X pins σ H s':=by
 obtain ⟨m1,m2,m3,j,q⟩:=m;obtain ⟨h',g',d',t',o'⟩:=s';have e1:g'=s.gens:=m2;have e2:d'=s.drawn:=m3;have e3:o'=s.os:=j;subst e1 e2 e3;refine I.kept (t':=t') fun b u e=>m1 b u (fun z=>?_) (O1 _ e)
 have:b=s.heap.objs.size:=by simpa using z
 exact absurd (O7 e) (by rw [this]; exact bq _)
theorem Q24 {ns:List Int} {its:List aB} (r:Vals (ns.map V.int) its):∀ (i:Nat) (v:aB),its.toArray[i]?=some v->∃ t,v=cb (ns.getD i 0) t:=fun i v e=>by
 have j:its[i]?=some v:=by simpa using e
 have hi:i < its.length:=(O0.mp j).1;have z:=r.length;rw [O2] at z;have B:(ns.map V.int)[i]?=some (V.int (ns.getD i 0)):=by
  have:i < ns.length:=by omega
  simp [ba,this]
 obtain ⟨u,q,t,G⟩:=r.get B;rw [j] at q;cases q;exact ⟨t,G⟩
theorem Qb8 {bs:List Bool} {its:List aB} (r:Vals (bs.map V.bl) its):∀ (i:Nat) (v:aB),its.toArray[i]?=some v->v=cG (bs.getD i false):=fun i v e=>by
 have j:its[i]?=some v:=by simpa using e
 have hi:i < its.length:=(O0.mp j).1;have z:=r.length;rw [O2] at z;have B:(bs.map V.bl)[i]?=some (V.bl (bs.getD i false)):=by
  have:i < bs.length:=by omega
  simp [ba,this]
 obtain ⟨u,q,G⟩:=r.get B;rw [j] at q;cases q;exact G
theorem Kf {t:Bool} {l:aA} {j:Array aB} (z:HasItems t s.heap l j):l≠s.heap.objs.size /\
  (IterAt t (s.heap.push (Kg t l)) s.heap.objs.size l 0/\HasItems t (s.heap.push (Kg t l)) l j)/\∀ b∈[s.heap.objs.size,l],b < (s.heap.push (Kg t l)).objs.size:=by
 obtain ⟨o,e⟩:=z.there;have q:=O7 e;refine ⟨E5 q,⟨Q3w (D6 _ (Q0z _ _)),z.at fun o e=>O1 _ e⟩,fun b B=>?_⟩
 rw [F5];simp at B;rcases B with rfl | rfl
 ·exact cR _
 ·exact cX q
end
section
variable {X:Cx}
theorem Qmj (t:Bool) (Y:X.calm=true):jv X (.builtin "sum") (fun xs H Q=>∃ (a:aA) (ns:List Int),xs=[.ref a]/\SqK X.K t H a (ns.map V.int)/\Q (.int ns.sum) H):=by
 intro pins s σ H xs us Q I r h;obtain ⟨a,ns,rfl,J,q⟩:=h;obtain ⟨u,rfl,O⟩:=Q3a r;cases O;obtain ⟨its,B,p,_⟩:=I.seqK J;obtain ⟨U,G,Z⟩:=Kf p;have z:=B.length;rw [O2] at z;refine call_sum_walkAnyS (Xu p ⟨_,_,_,_,_,_,_,fun j=>ns.getD j 0,rfl,(Q74 (A:=X.A.in1) (I.ok.hd Y) t _ a U its.toArray).toS,G,Z,Q24 B,fun s' t' m=>?_⟩);refine ⟨.int ns.sum,H,I.movedNew m,⟨t',?_⟩,q⟩;rw [O3,<- z,Qd6]
theorem Qhb (bs:List Bool):(bV bs.length).all (fun i=>bs.getD i false)=bs.all id:=by
 induction bs with
 | nil=>rfl
 | cons b r j=>
  rw [D4,ew,cY,ez,cY,<- j];rfl
theorem Qha (bs:List Bool):(bV bs.length).any (fun i=>bs.getD i false)=bs.any id:=by
 induction bs with
 | nil=>rfl
 | cons b r j=>
  rw [D4,ew,dc,df,dc,<- j];rfl
theorem Qmm (t:Bool) (hc:X.calm=true):jv X (.builtin "all") (fun xs H Q=>∃ (a:aA) (bs:List Bool),xs=[.ref a]/\SqK X.K t H a (bs.map V.bl)/\Q (.bl (bs.all id)) H):=by
 intro pins s σ H xs us Q I r h;obtain ⟨a,bs,rfl,U,q⟩:=h;obtain ⟨u,rfl,Y⟩:=Q3a r;cases Y;obtain ⟨its,B,p,_⟩:=I.seqK U;obtain ⟨Z,G,w3⟩:=Kf p;have z:=B.length;rw [O2] at z;refine call_all_walkS (Xu p ⟨_,_,_,_,_,_,_,fun j=>bs.getD j false,rfl,(Q74 (A:=X.A.in1) (I.ok.hd hc) t _ a Z its.toArray).toS,G,fun i v s' Q' E' J O=>?_,fun s' m=>?_⟩)
 ·rw [Qb8 B i v J];exact am O
 ·refine ⟨.bl (bs.all id),H,I.movedNew m,?_,q⟩;show cG _=_;rw [O3,<- z,Qhb]
theorem Qmk (t:Bool) (hc:X.calm=true):jv X (.builtin "any") (fun xs H Q=>∃ (a:aA) (bs:List Bool),xs=[.ref a]/\SqK X.K t H a (bs.map V.bl)/\Q (.bl (bs.any id)) H):=by
 intro pins s σ H xs us Q I r h;obtain ⟨a,bs,rfl,U,q⟩:=h;obtain ⟨u,rfl,Y⟩:=Q3a r;cases Y;obtain ⟨its,B,p,_⟩:=I.seqK U;obtain ⟨Z,G,w3⟩:=Kf p;have z:=B.length;rw [O2] at z;refine call_any_walkS (Xu p ⟨_,_,_,_,_,_,_,fun j=>bs.getD j false,rfl,(Q74 (A:=X.A.in1) (I.ok.hd hc) t _ a Z its.toArray).toS,G,fun i v s' Q' E' J O=>?_,fun s' m=>?_⟩)
 ·rw [Qb8 B i v J];exact am O
 ·refine ⟨.bl (bs.any id),H,I.movedNew m,?_,q⟩;show cG _=_;rw [O3,<- z,Qha]
theorem Qij (t:Bool) (hc:X.calm=true):jv X (.builtin "max") (fun xs H Q=>∃ (a:aA) (ns:List Int),xs=[.ref a]/\SqK X.K t H a (ns.map V.int)/\ns≠[]/\∀ m,m∈ns->(∀ k,k∈ns->k<=m)->Q (.int m) H):=by
 intro pins s σ H xs us Q I r h;obtain ⟨a,ns,rfl,hq,z,q⟩:=h;obtain ⟨u,rfl,Y⟩:=Q3a r;cases Y;obtain ⟨its,G,p,_⟩:=I.seqK hq;obtain ⟨w1,w2,w3⟩:=Kf p;have hl:=G.length;rw [O2] at hl;have J:0 < ns.length:=dD.mpr z;refine call_max_walkS (Xu p ⟨_,_,_,_,_,_,_,_,rfl,(Q74 (A:=X.A.in1) (I.ok.hd hc) t _ a w1 its.toArray).toS,w2,w3,by rw [O3]; omega,CmpOf.ints_gt (fun j=>ns.getD j 0) (fun i v B=>Q24 G i v B),fun v s' B m=>?_⟩);obtain ⟨t',rfl⟩:=Q24 G _ _ B;obtain ⟨h1,h2⟩:=argBest_gt (fun j=>ns.getD j 0) (its.toArray.size - 1);have O:argBest (fun i j=>decide (ns.getD i 0 > ns.getD j 0)) (its.toArray.size - 1) < ns.length:=by
  have e':its.toArray.size=ns.length:=by rw [O3]; omega
  rw [e'] at h1 ⊢;exact gB h1 (by omega)
 refine ⟨.int (ns.getD (argBest (fun i j=>decide (ns.getD i 0 > ns.getD j 0)) (its.toArray.size - 1)) 0),H,I.movedNew m,⟨t',rfl⟩,q _ ?_ fun k Z=>?_⟩
 ·rw [Q4n _ _ O];exact dg O
 ·obtain ⟨j,U,rfl⟩:=dh.mp Z;have:=h2 j (by rw [O3]; omega);rw [Q4n _ _ U] at this;exact this
theorem Qih (t:Bool) (hc:X.calm=true):jv X (.builtin "min") (fun xs H Q=>∃ (a:aA) (ns:List Int),xs=[.ref a]/\SqK X.K t H a (ns.map V.int)/\ns≠[]/\∀ m,m∈ns->(∀ k,k∈ns->m<=k)->Q (.int m) H):=by
 intro pins s σ H xs us Q I r h;obtain ⟨a,ns,rfl,hq,z,q⟩:=h;obtain ⟨u,rfl,Y⟩:=Q3a r;cases Y;obtain ⟨its,G,p,_⟩:=I.seqK hq;obtain ⟨w1,w2,w3⟩:=Kf p;have hl:=G.length;rw [O2] at hl;have J:0 < ns.length:=dD.mpr z;refine call_min_walkS (Xu p ⟨_,_,_,_,_,_,_,_,rfl,(Q74 (A:=X.A.in1) (I.ok.hd hc) t _ a w1 its.toArray).toS,w2,w3,by rw [O3]; omega,CmpOf.ints_lt (fun j=>ns.getD j 0) (fun i v B=>Q24 G i v B),fun v s' B m=>?_⟩);obtain ⟨t',rfl⟩:=Q24 G _ _ B;obtain ⟨h1,h2⟩:=argBest_lt (fun j=>ns.getD j 0) (its.toArray.size - 1);have O:argBest (fun i j=>decide (ns.getD i 0 < ns.getD j 0)) (its.toArray.size - 1) < ns.length:=by
  have e':its.toArray.size=ns.length:=by rw [O3]; omega
  rw [e'] at h1 ⊢;exact gB h1 (by omega)
 refine ⟨.int (ns.getD (argBest (fun i j=>decide (ns.getD i 0 < ns.getD j 0)) (its.toArray.size - 1)) 0),H,I.movedNew m,⟨t',rfl⟩,q _ ?_ fun k Z=>?_⟩
 ·rw [Q4n _ _ O];exact dg O
 ·obtain ⟨j,U,rfl⟩:=dh.mp Z;have:=h2 j (by rw [O3]; omega);rw [Q4n _ _ U] at this;exact this
end
theorem Qtv {prog:aN} {w:aK} {A:aR} (O:A.handled=none) (t:Bool) (q l:aA) (G:l≠q) (j:Array aB) :
  Draws prog w A q [q,l] j.size (fun i v=>j[i]?=some v) (fun i h=>IterAt t h q l i/\HasItems t h l j) where
 live:=fun _ _ st=>let ⟨o,e,_⟩:=st.1.there; ⟨o,e⟩
 frame:=fun _ _ _ st I=>⟨st.1.at fun o e=>I q (by simp) o e,st.2.at fun o e=>I l (by simp) o e⟩
 item:=fun i s Q E hi st J=>by
  refine yh st.1 st.2 (x:=j[i]) (by simp [hi]) fun h' z B=>?_
  exact J _ h' s.toks (by simp [hi]) ⟨z,st.2.at fun o e=>B.extBut _ _ G e⟩ B
 done:=fun s Q E st U=>Q0q O st.1 st.2 (by simp) U
theorem Qdj (l:aA) (j:Array aB) (n:Nat) (B:Option aA) (sl:Array (Option aB)) :
  Meets (Builtin.«enumerate.__new__» ⟨[.type "enumerate",.ref l],[]⟩) (fun _ R s=>s.heap.get? l=some { cls:=.type "tuple",dict:=B,data:=.seq j n,slots:=sl } /\
   R (.ok (.ret (.ref (s.heap.push { cls:=.type "tuple_iterator",data:=.fields #[.ref l,.int 0 0] }).objs.size)))
    { s with heap:=(s.heap.push { cls:=.type "tuple_iterator",data:=.fields #[.ref l,.int 0 0] }).push { cls:=.type "enumerate",data:=.fields #[.none,.bool false,.ref s.heap.objs.size,aZ 0,.none,.none] } }):=
 .of_wp fun prog w A R s h=>by
  obtain ⟨hp,g,d,tk,os⟩:=s; obtain ⟨q,h⟩:=h;have G:=sub_enumerate;have z:Heap.IsTuple (Shared.heap ⟨hp,g,d,tk,os⟩) l j:=⟨_,q,rfl,n,rfl⟩
  wp_walk using AutoSeq1.wpAny_loadPart' q
  refine wpAny_stack_any fun st=>aS ?_
  split
  ·rename_i c _ _ _ _ _;cases (c == dP "enumerate")
   ·wp_walk using AutoSeq1.wpAny_loadPart' q,bG z
    exact ⟨_,rfl,h⟩
   ·wp_walk using AutoSeq1.wpAny_loadPart' q,bG z
    exact ⟨_,rfl,h⟩
  ·wp_walk using AutoSeq1.wpAny_loadPart' q,bG z
   exact ⟨_,rfl,h⟩
section
variable {prog:aN} {w:aK} {A:aR} {E:aB->aC->Prop} {s:aC}
theorem Qfk {l:aA} {j:Array aB} {Q:aB->aC->Prop} (B:s.heap.IsTuple l j)
  (h:∀ h',IsEnum h' (s.heap.objs.size + 1) s.heap.objs.size 0 .none->h'.IsTupleIter s.heap.objs.size l 0->h'.objs.size=s.heap.objs.size + 2 ->
   (∀ b o,s.heap.get? b=some o->h'.get? b=some o)->Q (.ref (s.heap.objs.size + 1)) { s with heap:=h' }) :
  aI (aJ prog w) A (call (.type "enumerate") [.ref l]) Q E s:=by
 obtain ⟨⟨c,q,G,sl⟩,hl,hc,n,hd⟩:=B;replace hc:c=.type "tuple" := hc;replace hd:G=.seq j n:=hd;subst hc hd;refine callType_new F.called_enumerate (by decide) (F.typeCall_enumerate_1 _) (F.newCall_enumerate_1 _) (fun obj=>F.args_object_init_2 obj _) F.entry_enumerate_new
  (Qdj l j n q sl) ⟨hl,?_⟩
 have hz:(s.heap.push { cls:=.type "tuple_iterator",data:=.fields #[.ref l,.int 0 0] }).objs.size=s.heap.objs.size + 1:=F5 ..;show _/\_;rw [hz];have z:IsEnum ((s.heap.push { cls:=.type "tuple_iterator",data:=.fields #[.ref l,.int 0 0] }).push
   { cls:=.type "enumerate",data:=.fields #[.none,.bool false,.ref s.heap.objs.size,aZ 0,.none,.none] }) (s.heap.objs.size + 1) s.heap.objs.size 0 .none:=by
  have:=D6 (s.heap.push { cls:=.type "tuple_iterator",data:=.fields #[.ref l,.int 0 0] })
   (o:={ cls:=.type "enumerate",data:=.fields #[.none,.bool false,.ref s.heap.objs.size,aZ 0,.none,.none] }) rfl
  rw [hz] at this; exact this
 refine ⟨⟨_,z,rfl⟩,h _ z ⟨_,O1 _ (D6 _ rfl),rfl,rfl⟩ (by rw [F5,hz]) fun b o x=>O1 _ (O1 _ x)⟩
theorem Qfm {t:Bool} {l:aA} {j:Array aB} {Q:aB->aC->Prop} (q:HasItems t s.heap l j)
  (h:∀ h',IsEnum h' (s.heap.objs.size + 1) s.heap.objs.size 0 .none->IterAt t h' s.heap.objs.size l 0->h'.objs.size=s.heap.objs.size + 2 ->
   (∀ b o,s.heap.get? b=some o->h'.get? b=some o)->Q (.ref (s.heap.objs.size + 1)) { s with heap:=h' }) :
  aI (aJ prog w) A (call (.type "enumerate") [.ref l]) Q E s:=by
 cases t
 ·exact call_enumerate_list q h
 ·exact Qfk q h
end
def Ite (K:bQ) (t:Bool) (a:aA):It:=
 ⟨fun i H=>∃ xs x,SqK K t H a xs/\xs[i]?=some x,
  fun i H v H'=>∃ p x,H p=none/\v=.ref p/\H'=upd H p (.tup [.int i,x])/\∀ xs,SqK K t H a xs->xs[i]?=some x,
  fun i H=>∃ xs,SqK K t H a xs/\xs.length<=i⟩
theorem Inv.tracks {X:Cx} {pins:List (aA × Obj)} {σ:St} {H:Hp} {s s1:aC} {p:aA} {xs:List V} {its:List aB} (I:Inv X pins σ H s) (j:Inv X pins σ H s1) (hp:s.heap.objs.size<=p) (G:H p=none) (rv:Vals xs its) (hz:xs.length<=sizeLine)
  (ht:IsTup s1.heap p its.toArray):Inv X pins σ (upd H p (.tup xs)) s1:=by
 refine ⟨j.ok,j.os,j.bare,?_,j.loc,j.cell,?_,?_,?_,?_,j.len⟩
 ·have z:=j.base;have old:∀ c o,X.s₀.heap.get? c=some o->c≠p:=fun c o e=>E5 (D1 (O7 e) (F0 I.sz hp))
  exact ⟨z.keep,z.slot,fun c o e n Z=>by rw [Qf (old c o e)]; exact z.free c o e n Z,z.there,
   fun c O e=>by have:=z.tups c O e; rw [Qf (Qh this G)]; exact this,
   fun c o O e=>by have:=z.frzs c o O e; rw [Qf (Qh this G)]; exact this,
   fun c ps e=>by obtain ⟨more,q⟩:=z.tbls c ps e; exact ⟨more,by rw [Qf (Qh q G)]; exact q⟩⟩
 ·rw [Qf (E5 (D1 I.lt hp))]; exact I.free
 ·intro U c e;obtain ⟨v',q⟩:=I.cell U c e;rw [Qf (E5 (D1 q.lt hp))]; exact I.freeC U c e
 ·intro p' B;obtain ⟨e,n,ne,Y,d⟩:=j.pin p' B;have e0:=(I.pin p' B).1;exact ⟨e,by rw [Qf (E5 (D1 (O7 e0) hp))]; exact n,ne,Y,d⟩
 ·intro c o q
  by_cases J:c=p
  ·subst J;rw [Je] at q; cases q;exact ⟨hz,its,rv,ht⟩
  ·rw [Qf J] at q;exact (j.hok c o q).stay (fun _ _ _ r=>r) (fun c' r=>by rw [Qf (Qh r G)]; exact r) fun c' O r=>by rw [Qf (Qh r G)]; exact r
def Qtu (t:Bool) (e it a:aA) (i:Nat) (h:Heap):Prop:=(∃ old,IsEnum h e it i old)/\IterAt t h it a i
theorem Qh0 {P:aN} {w:aK} {K:bQ} {elts:List aD} {k:Nat} {pos:Pos} {t:Bool} {e J a:aA} (a2:e≠J) (a9:a≠e) (a7:a≠J) :
  Turn P w K (.Tuple elts k pos) (Ite K t a) [e,J] e (Qtu t e J a) where
 mem:=by simp
 obj:=fun i h st c hc=>by
  obtain ⟨⟨old,B⟩,h1⟩:=st;simp at hc;rcases hc with rfl | rfl
  ·exact ⟨_,B,fun v q=>by cases q⟩
  ·exact h1.there
 keep:=fun i h h' st kk=>by
  obtain ⟨⟨old,B⟩,h1⟩:=st;exact ⟨⟨old,kk e (by simp) _ B⟩,h1.at fun o q=>kk J (by simp) o q⟩
 item:=by
  intro X hP hw hK hc i pins s σ H E I hf st hg;subst hP hw hK;obtain ⟨xs,x,O,hx⟩:=hg;obtain ⟨⟨old,B⟩,h1⟩:=st;obtain ⟨its,rv,p,_⟩:=I.seqK O;obtain ⟨ux,a6,b2⟩:=rv.get hx;have b1:i < its.toArray.size:=by rw [O3]; exact (O0.mp a6).1
  refine wpAny_pyNext_enum_itemD (Qtv (A:=X.A.in1) (I.ok.hd hc) t J a a7 its.toArray) B ⟨h1,p⟩ b1 a2 (by simp; exact ⟨a2,fun z=>a9 z.symm⟩) fun x' h' tk Y ho a8 hT b6 hk=>⟨_,rfl,?_⟩
  have:x'=ux:=by
   have e1:its[i]?=some x':=by simpa using Y
   rw [a6] at e1; exact (bg e1).symm
  subst this;refine wpAny_letOwnedTupleGo_enum (s:={ s with heap:=h',toks:=tk + 1 }) ho fun a4 a3 G=>?_
  have elt:e < s.heap.objs.size:=O7 B;have b5:J < s.heap.objs.size:=by obtain ⟨o,q,_⟩:=h1.there; exact O7 q
  have a5:H s.heap.objs.size=none:=I.fresh;have I1:Inv X pins σ H { s with heap:=a4,toks:=tk + 1 }:=I.turnedL (its:=[e,J]) (fun c o j q=>(G.2 c (fun z=>j (by simp [z]))).trans (hk c o (fun z=>j (by simp [z])) (fun z=>j (by simp [z])) q)) fun c j=>hf c j
  have Z:a4.get? s.heap.objs.size=some { cls:=.type "tuple",data:=.seq #[.int i tk,x'] }:=(G.2 _ (bw elt)).trans hT;have I2:=I.tracks (xs:=[.int i,x]) (its:=[.int i tk,x']) I1 (O8 _) a5 (.cons ⟨tk,rfl⟩ (.cons b2 .nil)) (by simp only [D4,cK]; rw [sizeLine_eq]; decide) ⟨_,Z,rfl,0,rfl⟩;refine ⟨.ref s.heap.objs.size,_,I2,rfl,⟨s.heap.objs.size,x,a5,rfl,rfl,fun b4 q1=>?_⟩,?_,fun c j=>?_⟩
  ·rw [I.seqK_inj q1 O]; exact hx
  ·exact ⟨⟨x',by simpa using a3⟩,a8.1.at fun o q=>G.extBut _ _ (Ne.symm a2) q⟩
  ·have:=(hf c j).1;have b0:c < s.heap.objs.size:=by simp at j; rcases j with rfl | rfl <;> assumption
   rw [Qf (E5 b0)]; exact this
 done:=by
  intro X hP hw hK hc i pins s σ H E I hf st hg;subst hP hw hK;obtain ⟨xs,O,b3⟩:=hg;obtain ⟨⟨old,B⟩,h1⟩:=st;obtain ⟨its,rv,p,_⟩:=I.seqK O;have hl:=rv.length;have hT:s.TypeIs (.ref e) "enumerate" := ⟨_,B,rfl⟩;unfold ar;refine aF (wpAny_attempt (wpAny_callSpecial?_slot (name:=bP "__next__") hT F.slot_enumerate_next
   (bA F.slot_enumerate_next hT F.entry_enumerate_next ?_ (F.args_enumerate_next_1 _))))
  show aI _ _ (field (.ref e) 2 >>= _) _ _ _;refine aF (aX B rfl (x:=.ref J) rfl ?_);refine aF (Q0q (I.ok.hd hc) h1 p (by simp; omega) fun h' x a3 Y=>?_)
  obtain ⟨o,ho,j⟩:=Y;refine aF (bJ (T := "StopIteration") (b:=true) ⟨o,ho,j⟩ isSubtype_stop ?_);exact aS ⟨rfl,I.turnedL (t':=s.toks) (its:=[J]) (fun c o U q=>a3 c o (fun z=>U (by simp [z])) q) fun c U=>hf c (by simp at U; simp [U])⟩
 self:=fun _ _ _ _ _ st h=>by
  obtain ⟨⟨old,B⟩,_⟩:=st;exact wpAny_pyIter_enum B h
section
variable {X:Cx}
def Qwg (K:bQ) (t:Bool) (ta:TA):TI:=fun σ H R=>ta σ H fun vs H1=>∃ a xs,vs=[.ref a]/\SqK K t H1 a xs/\R (Ite K t a) H1
theorem Q95:aa "enumerate" = some (.type "enumerate"):=by decide +kernel
theorem Qp8 (t:Bool) {a:aD} {ta:TA} {p pos:Pos} {elts:List aD} {k:Nat} {tp:Pos} (Y:Gl X "enumerate") (U:X.mg "enumerate" = none) (ha:PA X [a] ta) (hs:aO [a] X.env=[(false,aL a X.env)]:=by rfl) :
  PI X (.Tuple elts k tp) (.Call (.Name "enumerate" p) [a] [] pos) (Qwg X.K t ta):=by
 intro pins s σ H R I h;refine Call_ (Q3v I Y U Q95 (cz (thn (ha pos pins s σ H _ I h) fun us s1 ⟨vs,H1,B,r1,q1⟩=>?_) hs rfl))
 obtain ⟨Z,xs,e,q1,q⟩:=q1;subst e;obtain ⟨u,rfl,r⟩:=Q3a r1;cases r;obtain ⟨its,rv,G,_⟩:=B.seqK q1;refine Qfm G fun h' J z2 z3 O=>?_
 refine wpAny_pyIter_enum (s:={ s1 with heap:=h' }) J ?_;have z:Z < s1.heap.objs.size:=by obtain ⟨o,e⟩:=G.there; exact O7 e
 refine ⟨_,[s1.heap.objs.size + 1,s1.heap.objs.size],_,_,H1,rfl,B.kept (t':=s1.toks) O,Qh0 (t:=t) (bw (cR _)) (E5 (cX z)) (E5 z),⟨⟨_,J⟩,z2⟩,fun c hc=>?_,q⟩
 have j:s1.heap.objs.size<=c:=by simp at hc; unfold aA at *; omega
 exact B.fpOk j (B.hok.fresh j)
end
theorem Qcx {H:Hp} {a:aA} {o:HO} (h:H a=none):Same H (upd H a o):=fun b u e=>by rw [Qf (Qh e h)]; exact e
section
variable {K:bQ} {cap:List (Option Nat)} {te:TE} {σ:St} {H1:Hp} {Q:VK}
abbrev g2 (K:bQ):TG:=Qwk K 2 (Qm1 (Qe1 0) (Qm1 (Qe1 1) Qwm))
end
def Qwx:V->Option aB
 | .ty n=>some (.type n)
 | .ref a=>some (.ref a)
 | _=>none
theorem Qmg {c:V} {j u:aB} (e:Qwx c=some j) (r:RelV c u):u=j:=by
 cases c with
 | ty n=>cases e; exact r
 | ref a=>cases e; exact r
 | _=>cases e
section
variable {X:Cx}
theorem Qe7:jv X (.builtin "isinstance") (fun xs H Q=>∃ x c j t b,xs=[x,c]/\Qwx c=some j/\TyOf X.K H x t/\eO X.K t j=some b/\Q (.bl b) H):=by
 intro pins s σ H xs us Q I r h;obtain ⟨x,c,j,t,b,rfl,G,ty,e,q⟩:=h;obtain ⟨u,J,rfl,B,z⟩:=Qj4 r;rw [Qmg G z];exact Qi7 I B ty e fun tk=>⟨.bl b,H,I.tok tk,rfl,q⟩
theorem Q6j:aa "isinstance" = some (.builtin "isinstance"):=by decide +kernel
theorem Kr:aa "sum" = some (.builtin "sum"):=by decide +kernel
theorem Q2d:aa "all" = some (.builtin "all"):=by decide +kernel
theorem Qea:aa "any" = some (.builtin "any"):=by decide +kernel
theorem Q4s:aa "max" = some (.builtin "max"):=by decide +kernel
theorem Qmv:aa "min" = some (.builtin "min"):=by decide +kernel
theorem V1:aa "tuple" = some (.type "tuple"):=by decide +kernel
theorem Qe9:aa "int" = some (.type "int"):=by decide +kernel
theorem Qis:aa "bool" = some (.type "bool"):=by decide +kernel
theorem Qmu:aa "str" = some (.type "str"):=by decide +kernel
end
section
variable {X:Cx} (K:bQ)
end
def Tab (H:Hp) (a:aA) (tb:List (List Int)):Prop:=∃ rs:List aA,H a=some (.tup (rs.map V.ref))/\aq (fun r row=>H r=some (.tup (List.map V.int row))) rs tb
def Sz (n:Nat) (tb:List (List Int)):Prop:=tb.length=n/\∀ row∈tb,row.length=n + 1
end L2
namespace L2
open PySem PySem.Spec PyProof.Rows PySem.W PySem.Builtin.Getset_descriptor
structure XCls (K:Frag) (C:aA):Prop where
 cls:(clsIn K C).isSome=true
 ga:findIn K (.ref C) "__getattribute__" = some (some (.builtin "BaseException.__getattribute__"))
 gt:findIn K (.ref C) "__getattr__" = some none
 cl:findIn K (.ref C) "__class__" = some (some (.builtin "object.__class__"))
 gs:specialIn K (.builtin "object.__class__") "__get__" = some (some (.builtin "getset_descriptor.__get__"))
 tk:takesIn K (.builtin "object.__class__")=some true
 ob:mroIn K C (.type "object")=some true
 be:mroIn K C (.type "BaseException")=some true
def IsX (x C:aA) (h:Heap):Prop:=∃ ox,h.get? x=some ox/\ox.cls=.ref C
theorem IsX.type {M:Model} {h:Heap} {x C:aA} (I:IsX x C h):Looks M h (typeOf (.ref x)) (.ref C):=by
 obtain ⟨j,h1,h2⟩:=I;exact h2 ▸ (Looks.ld h1).andThen .now
section
variable {prog:aN} {w:aK} {A:aR} {E:aB->aC->Prop} {h:Heap} {g:Array GenState} {d:Drawn} {t:Nat} {os:OsState} {K:Frag} {x C:aA}
theorem Qj3 {M:Model} {j:aB} {Q:Unit->aC->Prop} (X:K.In h) (F:XCls K C) (I:IsX x C h) (G:Q () ⟨h,g,d,t,os⟩):aI M A (checkBuiltinCall "BaseException.__getattribute__" ⟨[.ref x,j],[]⟩) Q E ⟨h,g,d,t,os⟩:=by
 have J:builtinKind "BaseException.__getattribute__" = some .slot:=by decide +kernel
 have q:splitId "BaseException.__getattribute__" = some ("BaseException", "__getattribute__"):=by decide +kernel
 have z:Looks M h (isInstance (.ref x) (.type "BaseException")) true:=(I.type).andThen (looks_mroIn X F.be);have B:=PySem.F.args_bexc_ga (.ref x) j;simp only [checkBuiltinCall,J,q];refine aF (z.at ?_);simp only [gC,fu,if_false];exact wpAny_of_eq B G
end
end L2
namespace L2
open PySem PySem.Spec PyProof.Rows
theorem ObjOk.there {P:aN} {w:aK} {H:Hp} {h:Heap} {a:aA} {o:HO} (x:ObjOk P w H h a o):∃ u,h.get? a=some u:=by
 cases o with
 | lst xs=>obtain ⟨_,_,_,_,e⟩:=x; exact ⟨_,e⟩
 | tup xs=>obtain ⟨_,_,_,o,e,_⟩:=x; exact ⟨o,e⟩
 | dK kvs=>obtain ⟨_,_,_,_,o,_,_,e,_⟩:=x; exact ⟨o,e⟩
 | dT kvs=>obtain ⟨_,_,_,_,o,_,_,e,_⟩:=x; exact ⟨o,e⟩
 | set S n=>obtain ⟨o,_,_,_,e,_⟩:=x; exact ⟨o,e⟩
 | ins C dx fs=>obtain ⟨_,_,_,e,_⟩:=x; exact ⟨_,e⟩
 | own y=>exact x
 | xd fs=>obtain ⟨_,⟨o,_,_,e,_⟩,_⟩:=x; exact ⟨o,e⟩
 | rng lo hi=>obtain ⟨_,_,_,e⟩:=x; exact ⟨_,e⟩
 | frz ob u=>obtain ⟨e,_⟩:=x; exact ⟨_,e⟩
 | tbl ps=>exact ⟨_,x⟩
 | met f y=>exact ⟨_,x⟩
 | ext j=>exact x.2.1
theorem HOk.none_of {P:aN} {w:aK} {H:Hp} {h:Heap} {a:aA} (x:HOk P w H h) (e:h.get? a=none):H a=none:=by
 cases q:H a with
 | none=>rfl
 | some o=>
  obtain ⟨u,z⟩:=(x a o q).there;rw [e] at z;cases z
structure Fly (P:aN) (w:aK) (outer:List Env) (H H':Hp) (s s':aC) (a:aA) (cls a0:aB) (B:Heap):Prop where
 os:s'.os=s.os
 bare:AllBare s'.gens
 fl:Heap.FlyingW B outer a cls a0 s'.heap
 hokB:HOk P w H' B
 keep:∀ b o,s.heap.get? b=some o->H b=none->b∉frs outer->B.get? b=some o
 there:∀ b o,s.heap.get? b=some o->b∉frs outer->∃ o',B.get? b=some o'
 slot:∀ b o,s.heap.get? b=some o->b∈frs outer->∃ sl,s'.heap.get? b=some { o with slots:=sl }
 free:∀ b o,s.heap.get? b=some o->H b=none->H' b=none
 tups:∀ b xs,H b=some (.tup xs)->H' b=some (.tup xs)
 frzs:∀ b o u,H b=some (.frz o u)->H' b=some (.frz o u)
 tbls:∀ b ps,H b=some (.tbl ps)->∃ more,H' b=some (.tbl (ps ++ more))
section
variable {P:aN} {w:aK} {K:bQ} {mg:Str->Option aB} {base:Heap} {N:List Str} {qual:Str} {scope:Scope} {f:aA} {cd:aB} {A:aR} {outer:List Env} {s:aC} {H:Hp} {E:XK}
end
abbrev Xx:List aB:=[.type "ValueError",.type "Exception",.type "BaseException",.type "object"]
theorem Qg2 {K:bQ} {h:Heap} {C:aA} {z:List aB} {j:String} {x:Str} {mg:Str->Option aB} (X:K.In h) (m:mg x=some (.ref C)) (q:bb K C z j=true):OwnCls x C z j mg h:=by
 refine ⟨m,?_⟩;unfold bb at q
 split at q
 ·rename_i dd cd sl J
  split at q
  ·rename_i Y bm k0 k1 k2 k3 n k5 G hs;simp only [G6,beq_iff_eq,Bool.not_eq_true'] at q;obtain ⟨⟨⟨⟨⟨rfl,rfl⟩,hdel⟩,ht⟩,hok⟩,hni⟩:=q;obtain ⟨nm,bs,O,ns,I,hd,sn,sub,ab,col,U⟩:=cd;dsimp only at G hdel hok hni;subst G hdel;have B:sl=#[k0,k1,k2,k3,some (.builtin n),k5]:=by
    obtain ⟨l⟩:=sl;simp only at hs;rw [hs]
   subst B;exact ⟨bm,ns,nm,I,bs,hd,sn,sub,ab,col,dd,k0,k1,k2,k3,k5,_,X _ _ J,.of_isNs (PySem.W.isNs_of_in X hok),PySem.W.nsMap_none_of_in X hok hni,PySem.W.tail_of_in X ht⟩
  ·cases q
 ·cases q
section
variable {X:Cx}
def Qry (C:aA) (E:XK) (t:TA):TS:=fun _ σ H=>t σ H fun vs H1=>vs.length<=sizeLine/\E (.ref C) none H1
end
def Q0a (X:Cx) (a:aA):Cx:={ X with A:=X.A.mark (some (.ref a)),calm:=false,xe:=fun _ _=>False }
section
variable {X:Cx} {pins:List (aA × Obj)} {σ:St} {H H':Hp} {s s':aC} {a C:aA}
theorem Inv.suite (I:Inv X pins σ H s) (a:aA):Inv (Q0a X a) pins σ H s:=
 ⟨⟨I.ok.mod,I.ok.kind,I.ok.glob,I.ok.blt,I.ok.above,I.ok.inj,I.ok.has,I.ok.cab,fun h=>(by cases h),I.ok.frames,I.ok.stk,I.ok.exf,I.ok.bs,I.ok.bsz,I.ok.noex,I.ok.exfs,I.ok.funs,I.ok.frf⟩,I.os,I.bare,I.base,I.loc,I.cell,I.free,I.freeC,I.pin,I.hok,I.len⟩
theorem Inv.unsuite (ok:X.Ok) (I:Inv (Q0a X a) pins σ H s):Inv X pins σ H s:=⟨ok,I.os,I.bare,I.base,I.loc,I.cell,I.free,I.freeC,I.pin,I.hok,I.len⟩
theorem Fly.inv {cls a0:aB} {B G:Heap} (I:Inv X pins σ H s) (F:Fly X.prog X.w X.stack H H' s s' a cls a0 B) (O:B.StaysIn G) (sm:s'.heap.UpToSlots G):Inv X pins σ H' { s' with heap:=G }:=by
 have sl:∀ b o,s.heap.get? b=some o->b∈frs X.stack->∃ sl,G.get? b=some { o with slots:=sl }:=fun b o q j=>by
  obtain ⟨sl,z⟩:=F.slot b o q j;obtain ⟨_,o',J,U⟩:=I.stack.mem j;rw [q] at J;cases J;obtain ⟨Y,Z⟩:=sm b _ z U;exact ⟨Y,Z⟩
 refine I.call' (s':={ s' with heap:=G }) (ch:=[]) F.os ⟨fun b o q n j _=>O _ _ (F.keep b o q n j),fun b o q n j _=>sl b o q j,fun b o q n _=>F.free b o q n,fun b o q _=>?_,F.tups,F.frzs,F.tbls⟩ (F.hokB.kept O) F.bare fun b z=>absurd z (by simp)
 by_cases j:b∈frs X.stack
 ·obtain ⟨sl,z⟩:=sl b o q j;exact ⟨_,z⟩
 ·obtain ⟨o',z⟩:=F.there b o q j;exact ⟨o',O _ _ z⟩
theorem Fly.new {cls a0:aB} {B:Heap} (F:Fly X.prog X.w X.stack H H' s s' a cls a0 B):s.heap.get? a=none/\H' a=none:=by
 have O:B.get? a=none:=F.fl.2.1;refine ⟨?_,F.hokB.none_of O⟩;cases q:s.heap.get? a with
 | none=>rfl
 | some o=>
  by_cases J:a∈frs X.stack
  ·obtain ⟨_,o',G,j⟩:=F.fl.2.2.1.mem J;obtain ⟨U,vs,I,_,hd,_⟩:=F.fl.first;rw [G] at I;cases I;exact absurd hd (j vs)
  ·obtain ⟨o',z⟩:=F.there a o q J;rw [O] at z;cases z
theorem Inv.track {s1:aC} {Y:Heap->Prop} (O:Inv X pins σ H s) (U:∀ b,b∉X.ex) (h0:s.heap.get? a=none) (I:Inv X pins σ H' s1) (G:H' a=none) (o:ObjOk X.prog X.w (upd H' a (.ext Y)) s1.heap a (.ext Y)):Inv X pins σ (upd H' a (.ext Y)) s1:=by
 have j:∀ b u,s.heap.get? b=some u->b≠a:=fun b u e z=>by rw [z,h0] at e; cases e
 have Z:∀ b u,X.s₀.heap.get? b=some u->b≠a:=fun b u e=>by
  obtain ⟨u',e'⟩:=O.base.there b u e (U b);exact j b u' e'
 refine ⟨I.ok,I.os,I.bare,?_,I.loc,I.cell,?_,?_,?_,?_,I.len⟩
 ·have B:=I.base;exact ⟨B.keep,B.slot,fun c o e n hx=>by rw [Qf (Z c o e)]; exact B.free c o e n hx,B.there,
   fun c J e=>by have:=B.tups c J e; rw [Qf (Qh this G)]; exact this,
   fun c o J e=>by have:=B.frzs c o J e; rw [Qf (Qh this G)]; exact this,
   fun c ps e=>by obtain ⟨more,q⟩:=B.tbls c ps e; exact ⟨more,by rw [Qf (Qh q G)]; exact q⟩⟩
 ·obtain ⟨m,⟨o,_,_,e,_⟩,_⟩:=O.loc;rw [Qf (j _ _ e)]; exact I.free
 ·intro x c e;obtain ⟨v,o,z,_⟩:=O.cell x c e;rw [Qf (j _ _ z)]; exact I.freeC x c e
 ·intro p hp;obtain ⟨e,n,ne,nf,d⟩:=I.pin p hp;exact ⟨e,by rw [Qf (j _ _ (O.pin p hp).1)]; exact n,ne,nf,d⟩
 ·intro c u q
  by_cases hc:c=a
  ·subst hc;rw [Je] at q; cases q;exact o
  ·rw [Qf hc] at q;exact (I.hok c u q).stay (fun _ _ _ r=>r) (fun c' r=>by rw [Qf (Qh r G)]; exact r) fun c' J r=>by rw [Qf (Qh r G)]; exact r
theorem Inv.forget {i:Nat} {n:Str} {m:Str->Option aB} {h':Heap} {v:Option aB} {tk:Nat} (I:Inv X pins σ H s) (hN:X.N.Nodup) (hi:X.N[i]?=some n) (hl:∀ (i:Nat) (x:Str) (v:V),X.N[i]?=some x->σ[i]?=some (some v)->Vis X.env.scope x->∃ u,RelV v u/\Qx6 X.env s.heap m x u)
  (O:h'.Ns X.env.locals (fun x=>if x=n then v else m x)) (hs:Heap.SameBut X.env.locals s.heap h'):Inv X pins (σ.set i none) H { s with heap:=h',toks:=tk }:=by
 have cne:=I.cne;have B:HOk X.prog X.w H h':=I.hok.same I.free hs;have G:∀ b o,X.s₀.heap.get? b=some o->b≠X.env.locals:=fun b o e=>E5 (D1 (O7 e) I.ok.above)
 refine ⟨I.ok,I.os,I.bare,⟨fun b o e n U J=>(hs.2 b (G b o e)).trans (I.base.keep b o e n U J),fun b o e n U J=>?_,I.base.free,fun b o e J=>?_,I.base.tups,I.base.frzs,I.base.tbls⟩,⟨_,O,fun j y v' e1 e2 e3=>?_⟩,fun y c e=>?_,I.free,I.freeC,fun p hp=>?_,B,by simpa using I.len⟩
 ·obtain ⟨sl,z⟩:=I.base.slot b o e n U J;exact ⟨sl,(hs.2 b (G b o e)).trans z⟩
 ·obtain ⟨o',z⟩:=I.base.there b o e J;exact ⟨o',(hs.2 b (G b o e)).trans z⟩
 ·by_cases Y:j=i
  ·subst Y;rw [hi] at e1; cases e1;have:j < σ.length:=by have:=(O0.mp e2).1; simpa using this
   rw [E3 this] at e2;cases e2
  ·rw [O6 (Ne.symm Y)] at e2;obtain ⟨u,r,q⟩:=hl j y v' e1 e2 e3;refine ⟨u,r,?_⟩;rcases q with ⟨k,e⟩ | ⟨k,c,e,z⟩
   ·refine .inl ⟨k,?_⟩;have:y≠n:=fun e=>Y (Q83 hN e1 (e ▸ hi))
    simp [this,e]
   ·exact .inr ⟨k,c,e,z.sameBut hs (cne y c e)⟩
 ·obtain ⟨w',z⟩:=I.cell y c e;exact ⟨w',z.sameBut hs (cne y c e)⟩
 ·obtain ⟨e,n,ne,Z,d⟩:=I.pin p hp;exact ⟨(hs.2 p.1 ne).trans e,n,ne,Z,d⟩
end
section
variable {X:Cx}
end
section
variable {X:Cx}
end
theorem Q77 (l:aA) (j:Array aB) (n:Nat) (dd:Option aA) (sl:Array (Option aB)) (t:Tok) :
  Meets (Builtin.«tuple.__mul__» ⟨[.ref l,.int 1 t],[]⟩) (fun _ R s=>s.heap.get? l=some { cls:=.type "tuple",dict:=dd,data:=.seq j n,slots:=sl }/\R (.ok (.ret (.ref l))) s):=
 .of_wp fun prog w A R s h=>by
  obtain ⟨hp,g,d,tk,os⟩:=s; obtain ⟨q,h⟩:=h
  wp_walk using wpAny_loadPart' q
  exact ⟨_,rfl,h⟩
theorem Q78 (l:aA) (j:Array aB) (n:Nat) (dd:Option aA) (sl:Array (Option aB)) (x:Int) (t:Tok) (h1:¬ (decide (x < -(2 ^ 63)) || decide (x>=2 ^ 63))=true) (h2:¬ (j.isEmpty || x == 1)=true) (O:¬ (decide (x<=0) || j.isEmpty)=true) (J:¬ (j.size:Int) * x > (2 ^ 63 - 1) / 8) (I:¬ Builtin.Tuple.tupleTooMany ((j.size:Int) * x)=true)
  (G:((bR x.toNat j).foldl (fun z B=>z ++ B) #[]).size<=sizeLine) :
  Meets (Builtin.«tuple.__mul__» ⟨[.ref l,.int x t],[]⟩) (fun _ R s=>s.heap.get? l=some { cls:=.type "tuple",dict:=dd,data:=.seq j n,slots:=sl } /\
   R (.ok (.ret (bX s.heap.objs.size))) { s with heap:=s.heap.push { cls:=dP "tuple",data:=Data.seq ((bR x.toNat j).foldl (fun z B=>z ++ B) #[]) } }):=
 .of_wp fun prog w A R s h=>by
  obtain ⟨hp,g,d,tk,os⟩:=s; obtain ⟨q,h⟩:=h
  wp_walk using wpAny_loadPart' q
  refine wpAny_ite_false (bN h1) ?_
  wp_walk using wpAny_loadPart' q
  refine wpAny_ite_false (bN J) ?_
  wp_walk using wpAny_loadPart' q
  all_goals first | exact ⟨_,rfl,h⟩ | (refine wpAny_ite_false (bN I) ?_; wp_walk) | skip
  all_goals first | exact ⟨_,rfl,h⟩ | (refine wpAny_ite_false (bN (Nat.not_lt.mpr G)) ?_; wp_walk; exact ⟨_,rfl,h⟩)
theorem Q8s (a:Int) (t:Tok) (l:aA) (j:Array aB) (n:Nat) (dd:Option aA) (sl:Array (Option aB)) :
  Meets (Builtin.«int.__rmul__» ⟨[.int a t,.ref l],[]⟩) (fun _ R s=>s.heap.get? l=some { cls:=.type "tuple",dict:=dd,data:=.seq j n,slots:=sl }/\R (.ok (.ret fj)) s):=
 .of_wp fun prog w A R s h=>by obtain ⟨hp,g,d,tk,os⟩:=s; obtain ⟨q,h⟩:=h; wp_walk using wpAny_loadPart' q; exact ⟨_,rfl,h⟩
theorem Q5e:fillsNumberSlot (.type "tuple") "mul" = pure false:=
 PySem.fillsNumberSlot_seq (id := "tuple.__mul__") (r:=some (.builtin "tuple.__rmul__")) F.slot_tuple_mul.lookup (by decide +kernel) F.slot_tuple_rmul.lookup (by decide +kernel)
theorem Qbr:seqRepeat? (.type "tuple")=pure (some (.builtin "tuple.__mul__")):=by
 unfold seqRepeat?;rw [gD (T := "tuple") (name := "__mul__") (id := "tuple.__mul__") F.slot_tuple_mul.lookup (by decide +kernel),gD (T := "tuple") (name := "__rmul__") (id := "tuple.__rmul__") F.slot_tuple_rmul.lookup (by decide +kernel)];rfl
section
variable {X:Cx}
def Qva (K:bQ):R2:=fun x y H Q=>∃ a k xs,x=.ref a/\y=.int k/\SqT K H a xs/\xs≠[]/\1<=k/\xs.length * k.toNat<=4096 /\
 (k=1->Q (.ref a) H)/\(k≠1->∀ p,H p=none->Q (.ref p) (upd H p (.tup (bR k.toNat xs).flatten)))
theorem Qpn:OpR X (aW .Mult) (Qva X.K):=by
 intro pins s σ H x y v u Q I rx ry h;obtain ⟨a,k,xs,rfl,rfl,ha,J,hk,hz,q1,q2⟩:=h;cases rx;obtain ⟨t,rfl⟩:=ry;obtain ⟨its,r,p1,hs⟩:=I.tuple ha;obtain ⟨⟨cls,dd,data,sl⟩,ho,hc,n,hd⟩:=id p1;simp only at hc hd;subst hc hd;have O:its.length=xs.length:=r.length.symm;have j:0 < its.length:=by rw [O]; exact dD.mpr J
 have a2:k.toNat<=4096:=by
  have:1 * k.toNat<=xs.length * k.toNat:=Nat.mul_le_mul_right _ (by omega);omega
 refine wpAny_binaryOp_repeat_ref (T := "tuple") (U := "int") (by decide) ⟨_,ho,rfl⟩ (fun s'=>typeIs_int s' k t) Q5e F.fills_int_mul F.slot_int_rmul Qbr F.slot_int_index.lookup
  (au F.slot_int_rmul (typeIs_int s k t) F.entry_int_rmul (F.args_int_rmul_2 _ _) (Q8s k t a its.toArray n dd sl)
   ⟨ho,rfl,⟨_,ho,rfl⟩,?_⟩)
 by_cases h1:k=1
 ·subst h1;exact au F.slot_tuple_mul ⟨_,ho,rfl⟩ F.entry_tuple_mul (F.args_tuple_mul_2 _ _) (Q77 a its.toArray n dd sl t) ⟨ho,⟨.ref a,H,I,rfl,q1 rfl⟩⟩
 ·have Y:dZ (fun Z x2=>Z ++ x2) #[] (bR k.toNat its.toArray)=(bR k.toNat its).flatten.toArray:=by
   have:=Q5m its k.toNat [];rw [fq] at this;exact this
  have B:(its.toArray.size:Int) * k=((its.length * k.toNat:Nat):Int):=by
   rw [O3,Int.natCast_mul,Int.toNat_of_nonneg (by omega)]
  have G:(bR k.toNat its).flatten.length<=4096:=by rw [Qc3,O,eY]; exact hz
  have hb:its.length * k.toNat<=4096:=by rw [O]; exact hz
  refine au F.slot_tuple_mul ⟨_,ho,rfl⟩ F.entry_tuple_mul (F.args_tuple_mul_2 _ _) (Q78 a its.toArray n dd sl k t ?_ ?_ ?_ ?_ ?_ ?_) ⟨ho,?_⟩
  ·rw [bN (by omega),bN (by omega)]; exact D8
  ·intro z;rcases gE.mp z with z | z
   ·rw [gF,gG] at z; rw [z] at j; simp at j
   ·exact h1 (eq_of_beq z)
  ·intro z;rcases gE.mp z with z | z
   ·have:=of_decide_eq_true z; omega
   ·rw [gF,gG] at z; rw [z] at j; simp at j
  ·rw [B]; omega
  ·rw [B];have:(4096:Int)<=sizeLine:=by decide
   show ¬ decide (((its.length * k.toNat:Nat):Int) > (sizeLine:Int))=true;rw [bN (by omega)]; exact D8
  ·rw [Y,O3]; exact F0 G (by decide)
  ·rw [Y];refine ⟨.ref s.heap.objs.size,_,I.laid (t':=s.toks) (o:=.tup (bR k.toNat xs).flatten) (fun b ob q=>O1 _ q) (O8 _) ?_,rfl,q2 h1 _ (I.hok.fresh (O8 _))⟩;exact ⟨by rw [Qc3,eY]; exact F0 hz (by decide),_,r.rep k.toNat,IsTup.new _ _⟩
end
section
variable {X:Cx} {pins:List (aA × Obj)} {s:aC} {σ:St} {H:Hp}
open PySem.SeqAt
end
section
variable {K:bQ} {cap:List (Option Nat)} {te:TE} {σ:St} {H1:Hp} {Q:VK}
end
section
variable {X:Cx} {pos:Pos}
end
theorem Kp:∀ (names:List (Str × aj)) (h:Heap) (j:List (Str × aA)) (x:Str) (c:aA),(ae h.objs.size names j).lookup x=some c ->
  j.lookup x=some c\/((x,NameKind.cell)∈names/\h.objs.size<=c/\(pushCells h names).IsCell c none)
 | [],_,_,_,_,e=>.inl e
 | (name,kind) :: r,h,j,x,c,e=>by
  unfold ae at e;unfold pushCells
  by_cases J:(kind == NameKind.cell)=true
  ·rw [bK J] at e ⊢;have B:kind=.cell:=by simpa using J
   have U:=Kp r (h.push { cls:=.type "cell",data:=.cell none }) ((name,h.objs.size) :: j) x c (by rw [F5]; exact e);rw [F5] at U;rcases U with z | ⟨G,O,I⟩
   ·rw [E2] at z;cases q:x == name with
    | true=>
     rw [q] at z; cases z;exact .inr ⟨by rw [beq_iff_eq.mp q,B]; exact D3,O8 _,⟨_,pushCells_keeps _ _ _ _ (D6 _ rfl),rfl⟩⟩
    | false=>rw [q] at z; exact .inl z
   ·exact .inr ⟨D0 _ G,by omega,I⟩
  ·rw [bL J] at e ⊢;rcases Kp r h j x c e with z | ⟨G,O,I⟩
   ·exact .inl z
   ·exact .inr ⟨D0 _ G,O,I⟩
theorem j7 {x:Str}:∀ (names:List (Str × aj)) (n:Nat) (j:List (Str × aA)),(x,NameKind.cell)∉names->(ae n names j).lookup x=j.lookup x
 | [],_,_,_=>rfl
 | (name,kind) :: r,n,j,h=>by
  unfold ae;have B:(x,NameKind.cell)∉r:=fun z=>h (D0 _ z)
  by_cases q:(kind == NameKind.cell)=true
  ·rw [bK q,j7 r _ _ B,E2];cases G:x == name with
   | true=>exact absurd (by rw [beq_iff_eq.mp G,show kind=.cell by simpa using q]; exact D3) h
   | false=>rfl
  ·rw [bL q,j7 r _ _ B]
theorem xh {x:Str} {c:aA}:∀ (names:List (Str × aj)) (n:Nat) (j:List (Str × aA)),(x,NameKind.cell)∈names->(ae n names j).lookup x=some c->n<=c
 | [],_,_,h,_=>by cases h
 | (name,kind) :: r,n,j,h,e=>by
  unfold ae at e
  by_cases z:(x,NameKind.cell)∈r
  ·by_cases B:(kind == NameKind.cell)=true
   ·rw [bK B] at e;exact Nat.le_of_succ_le (xh r _ _ z e)
   ·rw [bL B] at e;exact xh r _ _ z e
  ·rcases E7.mp h with q | q
   ·cases q;rw [bK (by decide),j7 r _ _ z,E2] at e;simp at e;exact eL e
   ·exact absurd q z
theorem xi:∀ (names:List (Str × aj)) (n:Nat) (j:List (Str × aA)),(∀ x c,j.lookup x=some c->c < n)->(∀ x y c,j.lookup x=some c->j.lookup y=some c->x=y) ->
  ∀ x y c,(ae n names j).lookup x=some c->(ae n names j).lookup y=some c->x=y
 | [],_,_,_,h=>h
 | (name,kind) :: r,n,j,h1,h2=>by
  unfold ae
  by_cases G:(kind == NameKind.cell)=true
  ·rw [bK G];refine xi r (n + 1) _ (fun x c e=>?_) (fun x y c e z=>?_)
   ·rw [E2] at e;cases B:x == name with
    | true=>rw [B] at e; cases e; exact cR _
    | false=>rw [B] at e; exact cX (h1 x c e)
   ·rw [E2] at e z;cases B:x == name with
    | true=>
     rw [B] at e; cases e;cases q:y == name with
     | true=>rw [beq_iff_eq.mp B,beq_iff_eq.mp q]
     | false=>rw [q] at z; exact absurd (h1 y _ z) (bq _)
    | false=>
     rw [B] at e;cases q:y == name with
     | true=>rw [q] at z; cases z; exact absurd (h1 x _ e) (bq _)
     | false=>rw [q] at z; exact h2 x y c e z
  ·rw [bL G];exact xi r n j h1 h2
theorem Q99 {M:Model} {A:aR} {E:aB->aC->Prop} {s:aC} {scope:Scope} {q:aA} {cl:List (Str × aA)} {qual:Str} {z:Option aA} {code:aB} {env:Env} {j:aA} {Q:Env->aC->Prop}
  (I:Q (newEnv scope s.heap.objs.size q (ae (s.heap.objs.size + 1) scope.names cl) qual z code (some env) j) { s with heap:=pushCells (s.heap.push { cls:=.type "dict",data:=.dict #[] }) scope.names }) :
  aI M A (newFunctionEnv scope q cl [] qual z code (some env) j) Q E s:=by
 simp only [newFunctionEnv,Option.isSome_some,if_true];refine aF (wpAny_alloc ?_);refine aF (wpAny_layCells _ (fun name kind B=>by cases G:kind == NameKind.cell <;> simp [G]) _ _ _ _ ?_);rw [show ({ s with heap:=s.heap.push { cls:=.type "dict",data:=.dict #[] } }:aC).heap.objs.size=s.heap.objs.size + 1 from F5 ..];refine aF ?_;rw [ek];exact aS (aS I)
def compOkC (N N':List Str) (sc scE:Scope) (cap:List (Option Nat)):Bool:=
 sc.kind == .function && sc.names.all (fun x=>x.2 != .cell || sc.names.lookup x.1 == some .cell) && sc.names.all (fun x=>x.2 != .local || sc.names.lookup x.1 == some .local) &&
 sc.names.all (fun x=>x.2 != .free || scE.names.lookup x.1 == some .cell || scE.names.lookup x.1 == some .free) && cap.length == N'.length &&
 (bV cap.length).all (fun i=>match cap[i]? with
  | some (some j)=>(match N'[i]?,N[j]? with | some a,some b=>a == b && sc.names.lookup a == some .free | _,_=>false)
  | _=>true)
structure CompOkC (N N':List Str) (sc scE:Scope) (cap:List (Option Nat)):Prop where
 kind:sc.kind=.function
 cel:∀ x∈sc.names,x.2=.cell->sc.names.lookup x.1=some .cell
 loc:∀ x∈sc.names,x.2=.local->sc.names.lookup x.1=some .local
 fre:∀ x∈sc.names,x.2=.free->scE.names.lookup x.1=some .cell\/scE.names.lookup x.1=some .free
 len:cap.length=N'.length
 at_:∀ (i j:Nat),cap[i]?=some (some j)->∃ x,N'[i]?=some x/\N[j]?=some x/\sc.names.lookup x=some .free
theorem compOkC.of {N N':List Str} {sc scE:Scope} {cap:List (Option Nat)} (h:compOkC N N' sc scE cap=true):CompOkC N N' sc scE cap:=by
 unfold compOkC at h;simp only [G6,bx,beq_iff_eq,gH,bne_iff_ne] at h;obtain ⟨⟨⟨⟨⟨h1,h2⟩,h3⟩,h4⟩,h5⟩,h6⟩:=h;refine ⟨h1,fun x q e=>?_,fun x q e=>?_,fun x q e=>?_,h5,fun i j e=>?_⟩
 ·rcases h2 x q with z | z
  ·exact absurd e z
  ·exact z
 ·rcases h3 x q with z | z
  ·exact absurd e z
  ·exact z
 ·rcases h4 x q with (z | z) | z
  ·exact absurd e z
  ·exact .inl z
  ·exact .inr z
 ·have hi:i < cap.length:=(O0.mp e).1;have:=h6 i (E6.mpr hi);rw [e] at this;simp only at this;cases e1:N'[i]? with
  | none=>rw [e1] at this; cases this
  | some a=>
   cases e2:N[j]? with
   | none=>rw [e1,e2] at this; cases this
   | some b=>
    rw [e1,e2] at this;simp only [G6,beq_iff_eq] at this;obtain ⟨rfl,z⟩:=this;exact ⟨a,rfl,rfl,z⟩
def Xy (X:Cx) (N':List Str) (sc:Scope) (cl:List (Str × aA)) (C:aA) (s0:aC) (H0:Hp) (ex:List aA):Cx:=
 { X with N:=N',s₀:=s0,H₀:=H0,env:=compEnvC sc cl C X.env,outer:=X.stack,ex:=ex,fn:=fun x=>sc.names.lookup x == some .cell,pn:=[],xe:=fun _ _=>False }
section
variable {X:Cx}
theorem Qmx {pins:List (aA × Obj)} {σ:St} {H:Hp} {s:aC} {N N':List Str} {sc scE:Scope} {cap:List (Option Nat)} {cl:List (Str × aA)} {fp:List aA}
  (I:Inv X pins σ H s) (hN:X.N=N) (hE:X.env.scope=scE) (ck:CompOkC N N' sc scE cap) (c1:∀ x c,cl.lookup x=some c->X.env.cells.lookup x=some c) (c2:∀ x∈sc.names,x.2=.free->∃ c,cl.lookup x.1=some c)
  (hf:∀ b∈fp,Q98 X pins H b) (a4:∀ b∈fp,b < s.heap.objs.size) :
  Inv (Xy X N' sc (ae (s.heap.objs.size + 1) sc.names cl) s.heap.objs.size s H fp) [] (Q4r cap σ) H { s with heap:=pushCells (s.heap.push { cls:=.type "dict",data:=.dict #[] }) sc.names }:=by
 obtain ⟨J,O⟩:∃ J,pushCells (s.heap.push { cls:=.type "dict",data:=.dict #[] }) sc.names=J:=⟨_,rfl⟩;obtain ⟨B,G⟩:∃ B,ae (s.heap.objs.size + 1) sc.names cl=B:=⟨_,rfl⟩;rw [O,G];have keep:∀ b o,s.heap.get? b=some o->J.get? b=some o:=fun b o e=>by rw [<- O]; exact pushCells_keeps _ _ b o (O1 _ e)
 have a8:J.Ns s.heap.objs.size (fun _=>none):=by rw [<- O]; exact (Heap.Ns.new s.heap (.type "dict")).keeps (pushCells_keeps _ _)
 have look:∀ x c,B.lookup x=some c->cl.lookup x=some c\/(s.heap.objs.size + 1<=c/\J.IsCell c none):=fun x c e=>by
  rw [<- G] at e;have:=Kp (sc.names) (s.heap.push { cls:=.type "dict",data:=.dict #[] }) cl x c (by rw [F5]; exact e);rw [F5,O] at this;rcases this with z | ⟨_,z,z'⟩
  ·exact .inl z
  ·exact .inr ⟨z,z'⟩
 have Y:∀ x c,cl.lookup x=some c->c < s.heap.objs.size:=fun x c e=>by
  obtain ⟨v,o,ho,_⟩:=I.cell x c (c1 x c e);exact O7 ho
 have inj:∀ x y c,B.lookup x=some c->B.lookup y=some c->x=y:=by
  rw [<- G];exact xi _ _ _ (fun x c e=>cX (Y x c e)) fun x y c a b=>I.ok.inj x y c (c1 x c a) (c1 y c b)
 have a9:∀ x,sc.names.lookup x=some .cell->∃ c,B.lookup x=some c:=fun x e=>by
  rw [<- G];exact fe.mp (eP _ _ _ (.inl e))
 have a6:∀ x,sc.names.lookup x=some .free->B.lookup x=cl.lookup x:=fun x e=>by
  rw [<- G];refine j7 _ _ _ fun z=>?_
  have:=ck.cel _ z rfl;rw [e] at this; cases this
 have kindOf:∀ x k,(compEnvC sc B s.heap.objs.size X.env).kindOf x=some k->k=.cell\/k=.free->sc.names.lookup x=some .free\/sc.names.lookup x=some .cell:=fun x k e hk=>by
  have e':(relabel sc X.env).names.lookup x=some k:=e;rw [Q1s] at e';cases q:sc.names.lookup x with
  | none=>rw [q] at e'; cases e'
  | some k'=>
   rw [q] at e';have a7:(if (k' == NameKind.free && X.env.scope.kind == .function && X.env.kindOf x == some .cell)=true then NameKind.cell else k')=k:=bg e'
   by_cases U:(k' == NameKind.free && X.env.scope.kind == .function && X.env.kindOf x == some .cell)=true
   ·simp only [G6,beq_iff_eq] at U;rw [U.1.1]; exact .inl rfl
   ·rw [bL U] at a7;subst a7;rcases hk with z | z
    ·rw [z]; exact .inr rfl
    ·rw [z]; exact .inl rfl
 have cellAt:∀ x c,X.env.cells.lookup x=some c->∀ v,s.heap.IsCell c v->J.IsCell c v:=fun x c e v ⟨o,ho,hd⟩=>⟨o,keep c o ho,hd⟩
 have a2:∀ c,s.heap.objs.size<=c->H c=none:=fun c U=>I.hok.fresh U
 refine ⟨⟨I.ok.mod,ck.kind,I.ok.glob,I.ok.blt,O8 _,inj,fun x hx=>?_,fun x c h1 h2=>?_,I.ok.hd,I.ok.frames,.inl rfl,fun b hb=>?_,I.bs,
  F0 I.ok.bsz I.sz,fun b o e hb=>?_,fun b hb hz=>?_,I.stack,I.stkFree⟩,rfl,I.bare,Un.kept keep,⟨_,a8,fun i x v e1 e2 e3=>?_⟩,fun x c e=>?_,a2 _ (O8 _),fun x c e=>?_,fun p hp=>(by cases hp),I.hok.kept keep,?_⟩
 ·have hx:(compEnvC sc B s.heap.objs.size X.env).kindOf x=some .cell\/(compEnvC sc B s.heap.objs.size X.env).kindOf x=some .free:=hx;have q:sc.names.lookup x=some .free\/sc.names.lookup x=some .cell:=by
   rcases hx with z | z
   ·exact kindOf x _ z (.inl rfl)
   ·exact kindOf x _ z (.inr rfl)
  rcases q with q | q
  ·obtain ⟨c,U⟩:=c2 _ (cD q) rfl;exact ⟨c,(a6 x q).trans U⟩
  ·exact a9 x q
 ·have h1:sc.names.lookup x=some .cell:=by simpa [Xy] using h1
  have h2:B.lookup x=some c:=h2;rw [<- G] at h2;exact F0 (cS _) (xh _ _ _ (cD h1) h2)
 ·refine ⟨E5 (a4 b hb),fun x c e=>?_⟩;rcases look x c e with z | ⟨z,_⟩
  ·exact (hf b hb).2.2.2.2.1 x c (c1 x c z)
  ·exact fun q=>absurd (D1 (a4 b hb) (F0 (cS _) (q ▸ z))) (bq _)
 ·rcases (hf b hb).2.2.2.1 with z | z
  ·exact I.ok.noex b o e z
  ·exact absurd (D1 (O7 e) (F0 I.ok.bsz z)) (bq _)
 ·rcases E7.mp (I.stkSub b hz) with e | z
  ·exact (hf b hb).2.1 e
  ·exact (hf b hb).2.2.1 z
 ·have e1:N'[i]?=some x:=e1;have e2:(Q4r cap σ)[i]?=some (some v):=e2;unfold Q4r at e2;rw [E4] at e2;cases q:cap[i]? with
  | none=>rw [q] at e2; cases e2
  | some oj=>
   rw [q] at e2;cases oj with
   | none=>cases e2
   | some j=>
    obtain ⟨y,z1,z2,z3⟩:=ck.at_ i j q;rw [e1] at z1; cases z1;have ev:σ[j]?=some (some v):=by
     have Z:(σ[j]?).join=some v:=bg e2;cases r:σ[j]? with
     | none=>rw [r] at Z; cases Z
     | some o=>rw [r] at Z; exact congrArg some Z
    obtain ⟨m',b0,hl⟩:=I.loc;have sK:X.env.scope.names.lookup x=some .cell\/X.env.scope.names.lookup x=some .free:=by rw [hE]; exact ck.fre _ (cD z3) rfl
    obtain ⟨u,ru,l⟩:=hl j x v (by rw [hN]; exact z2) ev (sK.elim (fun z=>.inr (.inl z)) fun z=>.inr (.inr z))
    refine ⟨u,ru,?_⟩;obtain ⟨c,U⟩:=c2 _ (cD z3) rfl;rcases l with ⟨k,_⟩ | ⟨k,c',a5,a3⟩
    ·have k:X.env.scope.names.lookup x=some .local:=k;rcases sK with z | z <;> (rw [k] at z; cases z)
    ·have:c=c':=by
      have q1:=c1 x c U;rw [a5] at q1;exact (bg q1).symm
     subst this;refine .inr ⟨?_,c,(a6 x z3).trans U,cellAt x c a5 _ a3⟩;show (relabel sc X.env).names.lookup x=some .cell\/(relabel sc X.env).names.lookup x=some .free;rw [Q1s,z3];show some (if _ then NameKind.cell else NameKind.free)=_\/some (if _ then NameKind.cell else NameKind.free)=_
     split
     ·exact .inl rfl
     ·exact .inr rfl
 ·rcases look x c e with z | ⟨_,z⟩
  ·obtain ⟨v,q⟩:=I.cell x c (c1 x c z);exact ⟨v,cellAt x c (c1 x c z) v q⟩
  ·exact ⟨_,z⟩
 ·rcases look x c e with z | ⟨z,_⟩
  ·exact I.freeC x c (c1 x c z)
  ·exact a2 c (by omega)
 ·unfold Q4r;show _=N'.length;rw [O2];exact ck.len
end
section
variable {X:Cx}
theorem Qrt {x y:V} {us:List aB} (r:Vals [x,y] us):∃ u w,us=[u,w]/\RelV x u/\RelV y w:=by
 cases r with
 | cons a r=>
  cases r with
  | cons b r=>
   cases r with
   | nil=>exact ⟨_,_,rfl,a,b⟩
end
end L2
namespace PySem
open Sem (wp)
section
variable {prog:aN} {w:aK} {A:aR} {E:aB->aC->Prop} {hp:Heap} {gs:Array GenState} {dr:Drawn} {tk:Nat} {sy:OsState}
variable {cn cq:Str} {kC kN:aA} {bas tl tB:List aB} {hd:Bool} {sns:List Str} {subs:List aB} {abb:Bool} {coll:Option Bool} {dic:Option aA} {j0 j1 j2 j3 j5:Option aB} {BB Bn newI nI initI inN:String} {tN:List aB}
theorem Q76 (I:ExcBaseFacts Bn newI inN tN) (j:tB.contains (.type Bn)=true) (F:ExcBaseFacts BB nI initI tB) (T:OwnTail hp tB tl) {rest:List aB} {J:aA} {U:Obj} {Q:Fin->aC->Prop}
  (B:hp.get? kC=some (excClassObj cn cq kC kN bas tl hd sns subs abb coll dic j0 j1 j2 j3 j5 newI)) {K:bQ} (X:K.In hp) (Y:bY K (.ref kC) "__init__" = some (some (.ref J))) (of:hp.get? J=some U) (Z:U.cls=.type "function")
  (hq:∀ h',(∀ b o,hp.get? b=some o->h'.get? b=some o)->h'.get? (hp.objs.size + 1)=some { cls:=.ref kC,data:=.fields #[.ref hp.objs.size,.none,.none,.none,.bool false,.none] }->aI (aJ prog w) A (call (.ref J) (.ref (hp.objs.size + 1) :: rest)) (fun r s'=>r=.none/\Q (.done (.ret (.ref (hp.objs.size + 1)))) s') E ⟨h',gs,dr,tk,sy⟩) (hz:rest.length<=sizeLine) :
  aI (aJ prog w) A (Builtin.«type.__call__» ⟨.ref kC :: rest,[]⟩) Q E ⟨hp,gs,dr,tk,sy⟩:=by
 repeat (first | with_reducible refine wpAny_loadPart_at B ?_ | with_reducible refine wpAny_madeBy_exc B ?_ | wp_step)
 refine codeAny_call_builtin_code (Code.quiet_builtin _ I.quiet) (wpAny_check_new_subU I j T B ?_);refine codeAny_exc_new_subU I j F T B ?_ hz;show aI _ _ _ _ _ _;obtain ⟨h2,e2⟩:∃ h2,(hp.push { cls:=.type "tuple",data:=.seq rest.toArray }).push { cls:=.ref kC,data:=.fields #[.ref hp.objs.size,.none,.none,.none,.bool false,.none] }=h2:=⟨_,rfl⟩;have kp:∀ b o,hp.get? b=some o->h2.get? b=some o:=fun b o q=>by rw [<- e2]; exact O1 _ (O1 _ q)
 have O:h2.get? (hp.objs.size + 1)=some { cls:=.ref kC,data:=.fields #[.ref hp.objs.size,.none,.none,.none,.bool false,.none] }:=by rw [<- e2]; heap_get
 have ot:h2.get? hp.objs.size=some { cls:=.type "tuple",data:=.seq rest.toArray }:=by rw [<- e2]; exact O1 _ (Heap.get?_push_at rfl rfl)
 rw [e2];have G:=kp _ _ B;have self:(bX kC :: tl).contains (.ref kC)=true:=by simp
 unfold isInstance
 repeat (first | with_reducible refine wpAny_loadPart_at O ?_ | (with_reducible refine wpAny_isSubtype_exc G ?_; rw [self]) | wp_step)
 show aI _ _ (typeLookup (.ref kC) _) _ _ _;refine (fV (X.keeps kp) Y).at ?_;refine aw (aF ?_);unfold bindSpecial;refine aF (bH (T := "function") ⟨_,kp _ _ of,Z⟩ ?_);rw [bK (by decide)];refine aS (aF (ad (hq h2 kp O) (fun r s' z=>?_) fun _ _ z=>z))
 obtain ⟨rfl,z⟩:=z
 wp_walk
 exact z
theorem Qfj (O:ExcBaseFacts Bn newI inN tN) (z:tB.contains (.type Bn)=true) (F:ExcBaseFacts BB nI initI tB) (T:OwnTail hp tB tl) {rest:List aB} {q:aA} {B:Obj} {Q:aB->aC->Prop}
  (j:hp.get? kC=some (excClassObj cn cq kC kN bas tl hd sns subs abb coll dic j0 j1 j2 j3 j5 newI)) {K:bQ} (X:K.In hp) (G:bY K (.ref kC) "__init__" = some (some (.ref q))) (of:hp.get? q=some B) (I:B.cls=.type "function")
  (J:∀ h',(∀ b o,hp.get? b=some o->h'.get? b=some o)->h'.get? (hp.objs.size + 1)=some { cls:=.ref kC,data:=.fields #[.ref hp.objs.size,.none,.none,.none,.bool false,.none] }->aI (aJ prog w) (A.under (.builtin "type.__call__" ⟨.ref kC :: rest,[]⟩)) (call (.ref q) (.ref (hp.objs.size + 1) :: rest)) (fun r s'=>r=.none/\Q (.ref (hp.objs.size + 1)) s') E ⟨h',gs,dr,tk,sy⟩) (hz:rest.length<=sizeLine) :
  aI (aJ prog w) A (call (.ref kC) rest) Q E ⟨hp,gs,dr,tk,sy⟩:=by
 have U:=tc_lookup;have Y:=tc_bind (.ref kC);have ty:(⟨hp,gs,dr,tk,sy⟩:aC).TypeIs (.ref kC) "type" := ⟨_,j,rfl⟩;refine wpAny_call (codeAny_of_tree ?_);show aI _ _ (callAny (.ref kC) _) _ _ _
 repeat (any_goals (first | assumption | with_reducible refine wpAny_loadPart_at j ?_ | wp_step))
 refine ⟨rfl,?_⟩;exact codeAny_call_builtin_at (Code.quiet_builtin _ (by decide +kernel)) entry_typeCall (wpAny_check_type_call_sub j (Q76 (hz:=hz) O z F T j X G of I fun h' k m=>J h' k m))
end
section
variable {M:Model} {A:aR} {E:aB->aC->Prop} {env:Env}
variable {cn cq:Str} {kC kN:aA} {bas tl:List aB} {hd:Bool} {sns:List Str} {subs:List aB} {abb:Bool} {coll:Option Bool} {dic:Option aA} {j0 j1 j2 j3 j5:Option aB} {newI:String}
theorem Q9p {s:aC} {x:Sem aB} {Q:Flow->aC->Prop} (B:tl.contains (.type "BaseException")=true) (I:A.handled=none)
  (h:aI M A x (fun v s1=>∃ e t j,v=.ref e/\s1.heap.get? kC=some (excClassObj cn cq kC kN bas tl hd sns subs abb coll dic j0 j1 j2 j3 j5 newI) /\
   s1.heap.get? e=some { cls:=.ref kC,dict:=j,data:=.fields #[.ref t,.none,.none,.none,.bool false,.none] }/\E (.ref e) s1) E s):aI M A (raiseStmt env (some x) none) Q E s:=by
 have J:(bX kC :: tl).contains (.type "BaseException")=true:=by rw [List.contains_cons,B,Bool.or_true]
 unfold raiseStmt;refine aF (ad h (fun v s1 z=>?_) fun _ _ z=>z)
 obtain ⟨e,t,j,rfl,q,G,z⟩:=z;obtain ⟨hp,gs,dr,tk,sy⟩:=s1
 repeat (first | with_reducible refine wpAny_loadPart_at G ?_ | with_reducible refine wpAny_loadPart_at q ?_ | (with_reducible refine wpAny_isSubtype_exc q ?_; rw [J]) | wp_step)
 exact wpAny_raiseNew_none I z
end
end PySem
namespace L2
open PySem PySem.Spec PyProof.Rows PySem.W PySem.Builtin.ObjectAttr
structure XSet (K:Frag) (C W:aA) (name:Str):Prop where
 sa:findIn K (.ref C) "__setattr__" = some (some (.builtin "object.__setattr__"))
 ob:mroIn K C (.type "object")=some true
 cls:∃ cd,clsIn K C=some cd/\cd.mro=.ref C :: .ref W :: Xx/\cd.hasDict=true
 no:findIn K (.ref C) name=some none
section
variable {prog:aN} {w:aK} {A:aR} {E:aB->aC->Prop} {s:aC} {K:Frag} {x C W:aA} {name:Str} {v:aB}
theorem Qn7 {vs:Array aB} {Q:Unit->aC->Prop} (X:K.In s.heap) (S:XSet K C W name) (z:s.heap.get? x=some { cls:=.ref C,data:=.fields vs })
  (hq:∀ h' tk,h'.get? x=some { cls:=.ref C,dict:=some s.heap.objs.size,data:=.fields vs }->h'.Ns1 s.heap.objs.size (fun y=>if y=name then some v else none) ->
   (∀ b o,b≠x->s.heap.get? b=some o->h'.get? b=some o)->Q () { s with heap:=h',toks:=tk }):aI (aJ prog w) A (setAttr (.ref x) name v) Q E s:=by
 have J:InstAt s.heap x { cls:=.ref C,data:=.fields vs } C none:=⟨z,rfl,rfl,True.intro⟩;obtain ⟨cd,Y,hm,hd⟩:=S.cls;refine set_plain X J S.sa ?_;have j:=PySem.F.store_ValueError;have sub:Looks (aJ prog w) s.heap (isInstance (.ref x) (.type "object")) true:=J.type.andThen (looks_mroIn X S.ob);refine codeAny_call_builtin j.slot.plain j.entry (@check_slot (aJ prog w) _ _ { s with toks:=s.toks + 1 } "object.__setattr__" "object" "__setattr__" (.ref x) [.str name s.toks,v] [] _ j.kind j.split sub (j.args (.ref x) (.str name s.toks) v) ?_);have lm:Looks (aJ prog w) s.heap (mroOf (.ref C)) cd.mro:=(looks_clsIn X Y).andThen .now;rw [osa_eq,refuse_eq];refine aF (aF (Looks.here (s:={ s with toks:=s.toks + 1 }) J.type (aF (Looks.here (s:={ s with toks:=s.toks + 1 }) lm ?_))));rw [hm,refuseLoop_ref,refuseLoop_ref,j.passes];refine aS (aF (Looks.here (s:={ s with toks:=s.toks + 1 }) J.type (aF (Looks.here (s:={ s with toks:=s.toks + 1 }) (looks_findIn X S.no) (aF (aS ?_))))))
 dsimp only;unfold storeInOwnDict;refine aF (aS (aF ?_));unfold ownDictForStores instanceDict;refine aF (wpAny_loadPart z (aF (Looks.here (s:={ s with toks:=s.toks + 1 }) (looks_clsIn X Y) ?_)));rw [hd];have Z:(s.heap.push { cls:=.type "dict",data:=.dict #[] }).get? x=some { cls:=.ref C,data:=.fields vs }:=O1 _ z;have xs:x≠s.heap.objs.size:=E5 (O7 z);have th:typeHasDict (.ref C)=true:=rfl;dsimp only;rw [bL (by decide),bL (by rw [th]; decide)];refine aF (wpAny_alloc' ?_);refine aF (wpAny_update' Z ?_);refine aS ?_;obtain ⟨h2,e2⟩:∃ h2,((s.heap.push { cls:=.type "dict",data:=.dict #[] }).update x fun o=>{ cls:=o.cls,dict:=some s.heap.objs.size,data:=o.data,slots:=o.slots })=h2:=⟨_,rfl⟩
 have g2:h2.get? s.heap.objs.size=some { cls:=.type "dict",data:=.dict #[] }:=by rw [<- e2]; exact (Heap.get?_update_ne _ _ _ _ xs.symm).trans (Heap.get?_push_at rfl rfl)
 have x2:h2.get? x=some { cls:=.ref C,dict:=some s.heap.objs.size,data:=.fields vs }:=by rw [<- e2]; exact G7 _ Z rfl
 have k2:∀ b o,b≠x->s.heap.get? b=some o->h2.get? b=some o:=fun b o n q=>by rw [<- e2]; exact (Heap.get?_update_ne _ _ _ _ n).trans (O1 _ q)
 have n2:h2.Ns s.heap.objs.size (fun _=>none):=⟨_,#[],_,g2,rfl,fun e he=>absurd he (by simp),fun _=>rfl⟩;show aI _ _ (storeInDict s.heap.objs.size (.str name s.toks) name v) _ _ _;rw [e2];unfold storeInDict newKeyGuard;refine aF (aS (aF (wpAny_nsSet1 (Heap.Ns1.of_empty n2) fun h' O U=>?_)))
 obtain ⟨oD,a3,a2,G,B,I⟩:=O.count (Within.cons name v Within.nil);refine aF (wpAny_lookBehind G (by rw [B]; exact pastItsLine_dict (F0 I (by rw [D4,cK,sizeLine_eq]; omega))) ?_);exact aS (hq h' _ ((U.2 x xs).trans x2) O fun b o n q=>(U.2 b (E5 (O7 q))).trans (k2 b o n q))
end
end L2
namespace L2
open PySem PySem.Spec PyProof.Rows PySem.W
def XO (x C:aA) (dv:Option aA) (h:Heap):Prop:=∃ t,h.get? x=some { cls:=.ref C,dict:=dv,data:=.fields #[.ref t,.none,.none,.none,.bool false,.none] }
theorem Qj1 {P:aN} {w:aK} {H:Hp} {h:Heap} {x C:aA} {j:Option aA} (o:XO x C j h):ObjOk P w H h x (.ext (XO x C j)):=
 ⟨o,o.elim fun t e=>⟨_,e⟩,fun h1 h2 ⟨t,e⟩ k=>⟨t,k _ e⟩⟩
structure XMade (K:Frag) (C W f:aA):Prop where
 lk:∃ nm q N bs sn sub ab col dd k0 k1 k2 k3 k5,K.lookup C=some (excClassObj nm q C N bs (.ref W :: Xx) true sn sub ab col dd k0 k1 k2 k3 k5 "ValueError.__new__")
 xw:excIn K W Xx "ValueError.__new__" = true
 fi:findIn K (.ref C) "__init__" = some (some (.ref f))
 ff:∃ o,K.lookup f=some o/\o.cls=.type "function"
 kp:keepIn K (.ref C)=true
theorem XMade.tail {K:Frag} {C W f:aA} {h:Heap} (M:XMade K C W f) (X:K.In h):OwnTail h Xx (.ref W :: Xx):=by
 obtain ⟨tl,N,nm,B,bs,hdct,sn,sub,ab,col,dd,k0,k1,k2,k3,k5,mN,z,q,j,T⟩:=(Qg2 (mg:=fun _=>some (.ref W)) (x := "W") X rfl M.xw).obj
 exact .own z q j .base
section
variable {prog:aN} {w:aK} {A:aR} {E:aB->aC->Prop} {s:aC} {K:Frag} {x C W f:aA}
theorem Qrm {u:aB} {Q:aB->aC->Prop} (X:K.In s.heap) (M:XMade K C W f) (o:XO x C none s.heap)
  (z:∀ h',(∀ b o,b≠x->s.heap.get? b=some o->h'.get? b=some o)->XO x C none h'->Q .none { s with heap:=h' }):aI (aJ prog w) A (call (.builtin "ValueError.__init__") [.ref x,u]) Q E s:=by
 obtain ⟨t,j⟩:=o;obtain ⟨nm,q,N,bs,sn,sub,ab,col,dd,k0,k1,k2,k3,k5,lk⟩:=M.lk;obtain ⟨hp,gs,dr,tk,sy⟩:=s;refine wpAny_call (codeAny_call_builtin PySem.F.excBase_ValueError.init.plain PySem.F.excBase_ValueError.initEntry (wpAny_check_init_subU dE (M.tail X) (X _ _ lk) j rfl ?_))
 wp_walk
 refine z _ (fun b o n e=>?_) ⟨hp.objs.size,?_⟩
 ·rw [E9 _ _ (Ne.symm n)];exact O1 _ e
 ·rw [G7 _ (O1 _ j) rfl];rfl
end
section
variable {X:Cx} {x C W f:aA}
structure XCall (K:Frag) (W:aA):Prop where
 ga:specialIn K (.ref W) "__getattribute__" = some (some (.builtin "type.__getattribute__"))
 rd:readsIn K W (.type "type")=true
 fc:findCls K (.ref W) (.type "type") "__init__" = some (.val (.builtin "ValueError.__init__"))
def tXI (K:Frag) (C W f:aA) (t:TA):TE:=fun σ H Q=>t σ H fun vs H1=>∃ x y,vs=[.ref x,y]/\H1 x=some (.ext (XO x C none))/\Q .non H1
theorem Qk0 {n:Str} {p apos pos:Pos} {a b:aD} {t:TA} {pl:Sem Bool} (M:XMade X.K C W f) (L:XCall X.K W) (hg:Gl X n) (hm:X.mg n=some (.ref W)) (U:PA X [a,b] t) (B:(n == ("__debug__" : Str))=false:=by decide)
  (G:aO [a,b] X.env=[(false,aL a X.env),(false,aL b X.env)]:=by rfl)
  (ht:aL (.Call (.Attribute (.Name n p) "__init__" apos) [a,b] [] pos) X.env=(do
   let ov <- aL (.Name n p) X.env
   standAt apos.atName
   let (g,first) <- ag [ov] (getMethod ov "__init__" pl)
   callWith pos g first (aU pos (aO [a,b] X.env)) (backToKw pos (keywordEach [] X.env))):=by rfl) :
  PE X (.Call (.Attribute (.Name n p) "__init__" apos) [a,b] [] pos) (tXI X.K C W f t):=by
 intro pins s σ H Q I h;refine methodCall_KW (pl:=pl) (zi I hg hm ?_ B) ht;refine method_cls I.kIn L.ga (cls_value I.kIn L.rd L.fc (by first | rfl | kernel_rfl) ?_);have Z:Inv X pins σ H { s with toks:=s.toks + 1 }:=I.tok _;have O:=U pos pins _ σ H _ Z h;rw [G] at O ⊢;refine Calls.callWith_builtin rfl (Calls.evalArgs_plain ?_);refine thn O fun us s2 ⟨vs,H2,j,r2,x,y,e,J,q⟩=>?_
 subst e;obtain ⟨u1,u2,rfl,Y,r3⟩:=Qrt r2;cases Y;refine Qrm j.kIn M (j.hok x _ J).1 fun h' kk o=>?_
 refine ⟨.non,H2,?_,rfl,q⟩;have:=j.write (x:=x) (e:=x) (o:=.ext (XO x C none)) (t':=s2.toks) (h':=h') (by rw [J]; exact trivial) (.inl rfl) kk (o.elim fun t e=>⟨_,e⟩) (Qj1 o);have eq:upd H2 x (.ext (XO x C none))=H2:=by
  funext b
  by_cases z:b=x
  ·subst z; rw [Je,J]
  ·rw [Qf z]
 rw [eq] at this;exact this
theorem Inv.trackO {pins:List (aA × Obj)} {σ:St} {H H':Hp} {s s1:aC} {a:aA} {Y:HO} (O:Inv X pins σ H s) (U:∀ b,b∉X.ex) (h0:s.heap.get? a=none) (I:Inv X pins σ H' s1) (G:H' a=none) (o:ObjOk X.prog X.w (upd H' a Y) s1.heap a Y):Inv X pins σ (upd H' a Y) s1:=by
 have j:∀ b u,s.heap.get? b=some u->b≠a:=fun b u e z=>by rw [z,h0] at e; cases e
 have Z:∀ b u,X.s₀.heap.get? b=some u->b≠a:=fun b u e=>by
  obtain ⟨u',e'⟩:=O.base.there b u e (U b);exact j b u' e'
 refine ⟨I.ok,I.os,I.bare,?_,I.loc,I.cell,?_,?_,?_,?_,I.len⟩
 ·have B:=I.base;exact ⟨B.keep,B.slot,fun c o e n hx=>by rw [Qf (Z c o e)]; exact B.free c o e n hx,B.there,
   fun c J e=>by have:=B.tups c J e; rw [Qf (Qh this G)]; exact this,
   fun c o J e=>by have:=B.frzs c o J e; rw [Qf (Qh this G)]; exact this,
   fun c ps e=>by obtain ⟨more,q⟩:=B.tbls c ps e; exact ⟨more,by rw [Qf (Qh q G)]; exact q⟩⟩
 ·obtain ⟨m,⟨o,_,_,e,_⟩,_⟩:=O.loc;rw [Qf (j _ _ e)]; exact I.free
 ·intro x c e;obtain ⟨v,o,z,_⟩:=O.cell x c e;rw [Qf (j _ _ z)]; exact I.freeC x c e
 ·intro p hp;obtain ⟨e,n,ne,nf,d⟩:=I.pin p hp;exact ⟨e,by rw [Qf (j _ _ (O.pin p hp).1)]; exact n,ne,nf,d⟩
 ·intro c u q
  by_cases hc:c=a
  ·subst hc;rw [Je] at q; cases q;exact o
  ·rw [Qf hc] at q;exact (I.hok c u q).stay (fun _ _ _ r=>r) (fun c' r=>by rw [Qf (Qh r G)]; exact r) fun c' J r=>by rw [Qf (Qh r G)]; exact r
def tXS (C:aA) (name:Str) (ta tv:TE):TS:=fun D σ H=>tv σ H fun y H1=>ta σ H1 fun v H2=>∃ x,v=.ref x/\H2 x=some (.ext (XO x C none)) /\
 ∀ dx,H2 dx=none->dx≠x->D.nx σ (upd (upd H2 x (.ext (XO x C (some dx)))) dx (.xd [(name,y)]))
theorem Qp4 {o value:aD} {name:Str} {ta tv:TE} {pos pos':Pos} (B:∀ b,b∉X.ex) (S:XSet X.K C W name) (Z:PE X o ta) (O:PE X value tv) (hs:swapsWith value (some (.Attribute o name pos')) pos.line X.env=pure false:=by rfl) :
  PS X (.Assign [.Attribute o name pos'] value pos) (tXS C name ta tv):=by
 intro pins s σ H D I h;refine plainObj_wpAny_Assign_Attribute (thn (O pins s σ H _ I h) fun u s1 ⟨y,H1,I1,ry,q⟩=>thn (Z pins s1 σ H1 _ I1 q) fun ov s2 ⟨v,H2,j,rx,x,ex,G,q2⟩=>?_) hs
 subst ex;obtain rfl:ov=bX x:=rx;obtain ⟨t,J⟩:=(j.hok x _ G).1;refine Qn7 j.kIn S J fun h' tk o' U Y=>?_
 have xs:s2.heap.objs.size≠x:=bw (O7 J);have I3:=j.write (x:=x) (e:=x) (o:=.ext (XO x C (some s2.heap.objs.size))) (t':=tk) (h':=h') (by rw [G]; exact trivial) (.inl rfl) Y ⟨_,o'⟩ (Qj1 ⟨t,o'⟩);refine ⟨σ,_,?_,q2 s2.heap.objs.size j.fresh xs⟩;refine Inv.trackO j B (Heap.get?_none_of_le (O8 _)) I3 (by rw [Qf xs]; exact j.fresh) ⟨_,U,fun g=>?_⟩;show RelO ([(name,y)].lookup g) (if g=name then some u else none)
 by_cases z:g=name
 ·subst z;rw [bK rfl,E2,show (g == g)=true by simp];exact ry
 ·have:(g == name)=false:=by simpa using z
  rw [bL z,E2,this];exact trivial
end
end L2
namespace PySem
open Sem (wp)
def Q1i (o:Obj):Option aB:=match o.data with | .fields vs=>vs[2]? | _=>none
theorem Qe2 {o:Obj} {vs:Array aB} {x:aB} (j:o.data=.fields vs):Q1i (bv (·.setIfInBounds 1 x) o)=Q1i o:=by
 have d:=cF j (·.setIfInBounds 1 x);unfold Q1i;rw [d,j];exact fA (by decide)
section
variable {M:Model} {A:aR} {E:aB->aC->Prop} {s:aC} {bs:Heap} {en:Env} {ou:List Env} {L e:aA} {ob:Obj} {vs:Array aB} {a0:aB} {Q:Unit->aC->Prop}
theorem Q8x {B:aB} {nx:Bool} (fr:A.frames=some (en :: ou)) (ff:s.heap.FunFrames bs (en :: ou)) (ef:en.frame=some L) (oe:s.heap.get? e=some ob) (kb:bs.StaysIn s.heap) (ne:bs.get? e=none)
  (I:ob.data=.fields vs) (z1:1 < vs.size) (z0:vs[0]?=some a0)
  (h:∀ h',Heap.LeftW bs (en :: ou) e ob.cls a0 s.heap h'->(∃ o',h'.get? e=some o'/\o'.dict=ob.dict/\Q1i o'=Q1i ob)->Q () { s with heap:=h' }) :
  aI M A (do
   let a <- frameOf en
   let pl <- entryPlaceOf L nx
   let b <- EntryCells.newEntry B a .none (aZ L) .none pl
   setField (.ref e) 1 b) (fun _ s'=>aI M A (setFlight (.ref e) none) Q E s') E s:=by
 have nf:e∉(en :: ou).filterMap (·.frame):=fun m=>by
  obtain ⟨_,o,q,n⟩:=ff.mem m;rw [oe] at q;cases q;exact n vs I
 refine aF (wpAny_frameOf_fun fr ff ef fun g gs=>?_);refine aF (wpAny_entryPlaceOf fun pl hp=>?_);unfold EntryCells.newEntry newFields;refine aF (ao ?_ (hp.sizeOk5 _ _ _ _ _));have ge:g.get? e=some ob:=(gs.2.1 e nf).trans oe;have gb:bs.StaysIn g:=fun b o q=>(gs.2.1 b fun m=>by
  rw [(ff.mem m).1] at q;cases q).trans (kb b o q)
 obtain ⟨tb,J⟩:∃ tb:List aB,[B,.ref L,.none,aZ L,.none] ++ (if pl.isEmpty then bR 6 bc else pl)=tb:=⟨_,rfl⟩;have l5:3 < tb.length/\tb[3]?=some (aZ L):=by
  rw [<- J];exact ⟨by simp,by simp⟩
 rw [J];have O:=O1 (h:=g) { cls:=.type "traceback",dict:=none,data:=.fields tb.toArray } ge;refine wpAny_setField O I z1 ?_;have te:g.objs.size≠e:=bw (O7 ge);have Z:=cF I (·.setIfInBounds 1 (bX g.objs.size));have j:=G7 (bv (·.setIfInBounds 1 (bX g.objs.size))) O (dC Z);have G:=(E9 (g.push { cls:=.type "traceback",dict:=none,data:=.fields tb.toArray })
  (bv (·.setIfInBounds 1 (bX g.objs.size))) te.symm).trans
  (D6 g rfl)
 unfold setFlight;refine aF (aX j Z (x:=.ref g.objs.size) (by simp [z1]) ?_);rw [bK (show (bX g.objs.size != bc)=true by simp)];refine wpAny_setField G rfl (by simpa using l5.1) (h _ ?_ ?_)
 all_goals
  obtain ⟨Y,U⟩:∃ Y,((g.push { cls:=.type "traceback",dict:=none,data:=.fields tb.toArray }).update e (bv (·.setIfInBounds 1 (bX g.objs.size))))=Y:=⟨_,rfl⟩;rw [U] at j G ⊢
 ·have kp:∀ b o,b≠e->g.get? b=some o->(Y.update g.objs.size (bv (·.setIfInBounds 3 ((none:Option aA).elim bc fun f=>aZ f)))).get? b=some o:=fun b o n q=>by
   rw [E9 _ _ (bw (O7 q)),<- U,E9 _ _ n.symm];exact O1 _ q
  have nr:∀ b o,s.heap.get? b=some o->(∀ ws,o.data≠.fields ws)->b≠e:=fun b o q n z=>by
   rw [z,oe] at q;cases q;exact n vs I
  refine ⟨fun b o q=>kp b o (fun z=>by rw [z,ne] at q; cases q) (gb b o q),ff.of_keeps fun b o q n=>?_,?_,fun b o q n=>?_⟩
  ·obtain ⟨sl,z⟩:=gs.2.2 b o q;exact ⟨_,kp b _ (nr b o q n) z,rfl⟩
  ·refine ⟨_,_,g.objs.size,_,_,?_,⟨ee _ _,?_⟩,Z,by simp [z1],gb.fresh,te,G7 _ G (dC (cF rfl _)),cF rfl _,?_⟩
   ·rw [E9 _ _ te];exact j
   ·rw [fA (by decide)];exact z0
   ·have:=l5.1;simp [this]
  ·obtain ⟨sl,z⟩:=gs.2.2 b o q;exact ⟨sl,kp b _ (nr b o q n) z⟩
 ·refine ⟨_,(E9 _ _ te).trans j,?_,Qe2 I⟩;cases ob with
  | mk c d dt sl=>cases dt <;> first | rfl | cases I
theorem Qdu (G:A.frames=some (en :: ou)) (ff:s.heap.FunFrames bs (en :: ou)) (j:en.frame=some L) (q:s.heap.get? e=some ob) (kb:bs.StaysIn s.heap) (ne:bs.get? e=none)
  (B:ob.data=.fields vs) (z:vs[1]?=some .none) (I:vs[0]?=some a0)
  (h:∀ h',Heap.LeftW bs (en :: ou) e ob.cls a0 s.heap h'->(∃ o',h'.get? e=some o'/\o'.dict=ob.dict/\Q1i o'=Q1i ob)->Q () { s with heap:=h' }):aI M A (leaving en (.ref e)) Q E s:=by
 unfold leaving noteFrame;simp only [j];refine aF (aF (aX q B z ?_));rw [bL (by decide)];exact Q8x G ff j q kb ne B (cu.mp z).1 I h
theorem Qdt {cls:aB} {O:Option aA} (fr:A.frames=some (en :: ou)) (Z:en.frame=some L) (fl:Heap.FlyingW bs (en :: ou) e cls a0 s.heap) (dd:∃ o',s.heap.get? e=some o'/\o'.dict=O/\Q1i o'=some .none)
  (h:∀ h',Heap.FlyingW bs ou e cls a0 h'->(∃ o',h'.get? e=some o'/\o'.dict=O/\Q1i o'=some .none)->s.heap.UpToSlots h'->Q () { s with heap:=h' }):aI M A (leaving en (.ref e)) Q E s:=by
 obtain ⟨kb,ne,ff,oe,U,T,oT,ts,G,⟨hc,z0⟩,od,z1,nT,Te,hT,dT,z3⟩:=fl;obtain ⟨o',j,J,I⟩:=dd;rw [G] at j;cases j;unfold leaving noteFrame;simp only [Z];refine aF (aF (aX G od z1 ?_));rw [bK (show (bX T != bc)=true by simp)];refine aF (aX hT dT z3 ?_);rw [bL (show ¬ ((bc == aZ L)=true) by simp [aZ])];refine aF (wpAny_setField hT dT (cu.mp z3).1 ?_);have B:∀ b,b≠T->(s.heap.update T (bv (·.setIfInBounds 3 bc))).get? b=s.heap.get? b:=fun b n=>E9 _ _ n.symm
 have Y:∀ b o,s.heap.get? b=some o->(∀ U,o.data≠.fields U)->b≠T:=fun b o q n z=>by
  rw [z,hT] at q;cases q;exact n ts dT
 refine Q8x fr (ff.of_keeps fun b o q n=>⟨o,(B b (Y b o q n)).trans q,rfl⟩) Z ((B e Te.symm).trans G) (fun b o q=>(B b fun z=>by rw [z,nT] at q; cases q).trans (kb b o q)) ne od (cu.mp z1).1 z0 fun h' lf d'=>?_
 obtain ⟨k1,⟨_,_,k2⟩,k3,k4⟩:=lf;rw [hc] at k3;exact h h' ⟨k1,ne,k2,k3⟩ (d'.imp fun o q=>⟨q.1,q.2.1.trans J,q.2.2.trans I⟩) fun b o q n=>k4 b o ((B b (Y b o q n)).trans q) n
theorem Q6g {j:aB} {nx:Bool} (fr:A.frames=some (en :: ou)) (ff:s.heap.FunFrames bs (en :: ou)) (ef:en.frame=some L) (U:s.heap.get? e=some ob) (kb:bs.StaysIn s.heap) (ne:bs.get? e=none)
  (B:ob.data=.fields vs) (z1:1 < vs.size) (z0:vs[0]?=some a0)
  (h:∀ h',Heap.NotedW bs (en :: ou) e ob.cls a0 (aZ L) s.heap h'->(∃ o',h'.get? e=some o'/\o'.dict=ob.dict/\Q1i o'=Q1i ob)->Q () { s with heap:=h' }) :
  aI M A (do
   let a <- frameOf en
   let pl <- entryPlaceOf L nx
   let b <- EntryCells.newEntry j a .none (aZ L) .none pl
   setField (.ref e) 1 b) Q E s:=by
 have nf:e∉(en :: ou).filterMap (·.frame):=fun m=>by
  obtain ⟨_,o,q,n⟩:=ff.mem m;rw [U] at q;cases q;exact n vs B
 refine aF (wpAny_frameOf_fun fr ff ef fun g gs=>?_);refine aF (wpAny_entryPlaceOf fun pl hp=>?_);unfold EntryCells.newEntry newFields;refine aF (ao ?_ (hp.sizeOk5 _ _ _ _ _));have ge:g.get? e=some ob:=(gs.2.1 e nf).trans U;have gb:bs.StaysIn g:=fun b o q=>(gs.2.1 b fun m=>by
  rw [(ff.mem m).1] at q;cases q).trans (kb b o q)
 obtain ⟨tb,I⟩:∃ tb:List aB,[j,.ref L,.none,aZ L,.none] ++ (if pl.isEmpty then bR 6 bc else pl)=tb:=⟨_,rfl⟩;have l5:3 < tb.length/\tb[3]?=some (aZ L):=by
  rw [<- I];exact ⟨by simp,by simp⟩
 rw [I];have J:=O1 (h:=g) { cls:=.type "traceback",dict:=none,data:=.fields tb.toArray } ge;have te:g.objs.size≠e:=bw (O7 ge);have Y:=cF B (·.setIfInBounds 1 (bX g.objs.size));have G:=G7 (bv (·.setIfInBounds 1 (bX g.objs.size))) J (dC Y);have O:=(E9 (g.push { cls:=.type "traceback",dict:=none,data:=.fields tb.toArray })
  (bv (·.setIfInBounds 1 (bX g.objs.size))) te.symm).trans
  (D6 g rfl)
 refine wpAny_setField J B z1 (h _ ?_ ?_)
 ·have kp:∀ b o,b≠e->g.get? b=some o->((g.push { cls:=.type "traceback",dict:=none,data:=.fields tb.toArray }).update e (bv (·.setIfInBounds 1 (bX g.objs.size)))).get? b=some o:=fun b o n q=>by
   rw [E9 _ _ n.symm];exact O1 _ q
  have Z:∀ b o,s.heap.get? b=some o->(∀ ws,o.data≠.fields ws)->b≠e:=fun b o q n z=>by
   rw [z,U] at q;cases q;exact n vs B
  refine ⟨fun b o q=>kp b o (fun z=>by rw [z,ne] at q; cases q) (gb b o q),ff.of_keeps fun b o q n=>?_,?_,fun b o q n=>?_⟩
  ·obtain ⟨sl,z⟩:=gs.2.2 b o q;exact ⟨_,kp b _ (Z b o q n) z,rfl⟩
  ·refine ⟨_,_,g.objs.size,_,_,G,⟨ee _ _,?_⟩,Y,by simp [z1],gb.fresh,te,O,rfl,by simpa using l5.2⟩;rw [fA (by decide)];exact z0
  ·obtain ⟨sl,z⟩:=gs.2.2 b o q;exact ⟨sl,kp b _ (Z b o q n) z⟩
 ·refine ⟨_,G,?_,Qe2 B⟩;cases ob with
  | mk c d dt sl=>cases dt <;> first | rfl | cases B
theorem Qi2 {cls:aB} {O:Option aA} (fr:A.frames=some (en :: ou)) (Z:en.frame=some L) (fl:Heap.FlyingW bs (en :: ou) e cls a0 s.heap) (dd:∃ o',s.heap.get? e=some o'/\o'.dict=O/\Q1i o'=some .none)
  (h:∀ h',Heap.HeldW bs (en :: ou) e cls a0 L h'->(∃ o',h'.get? e=some o'/\o'.dict=O/\Q1i o'=some .none)->s.heap.UpToSlots h'->Q () { s with heap:=h' }):aI M A (noteFrame (.ref e) en) Q E s:=by
 obtain ⟨kb,ne,ff,oe,U,T,oT,ts,G,⟨hc,z0⟩,od,z1,nT,Te,hT,dT,z3⟩:=fl;obtain ⟨o',j,J,I⟩:=dd;rw [G] at j;cases j;unfold noteFrame;simp only [Z];refine aF (aX G od z1 ?_);rw [bK (show (bX T != bc)=true by simp)];refine aF (aX hT dT z3 ?_);rw [bL (show ¬ ((bc == aZ L)=true) by simp [aZ])];refine aF (wpAny_setField hT dT (cu.mp z3).1 ?_);have B:∀ b,b≠T->(s.heap.update T (bv (·.setIfInBounds 3 bc))).get? b=s.heap.get? b:=fun b n=>E9 _ _ n.symm
 have Y:∀ b o,s.heap.get? b=some o->(∀ U,o.data≠.fields U)->b≠T:=fun b o q n z=>by
  rw [z,hT] at q;cases q;exact n ts dT
 refine Q6g fr (ff.of_keeps fun b o q n=>⟨o,(B b (Y b o q n)).trans q,rfl⟩) Z ((B e Te.symm).trans G) (fun b o q=>(B b fun z=>by rw [z,nT] at q; cases q).trans (kb b o q)) ne od (cu.mp z1).1 z0 fun h' nt d'=>?_
 obtain ⟨k1,k2,k3,k4⟩:=nt;rw [hc] at k3;exact h h' ⟨k1,ne,k2,k3⟩ (d'.imp fun o q=>⟨q.1,q.2.1.trans J,q.2.2.trans I⟩) fun b o q n=>k4 b o ((B b (Y b o q n)).trans q) n
theorem Q60 {l:List Env} {cls fv:aB} {Z:Option aA} (kb:bs.StaysIn s.heap) (ne:bs.get? e=none) (ff:s.heap.FunFrames bs l) (tr:s.heap.TracedAtW bs e cls a0 fv) (dd:∃ o',s.heap.get? e=some o'/\o'.dict=Z/\Q1i o'=some .none)
  (h:∀ h',Heap.FlyingW bs l e cls a0 h'->(∃ o',h'.get? e=some o'/\o'.dict=Z/\Q1i o'=some .none)->s.heap.UpToSlots h'->Q () { s with heap:=h' }):aI M A (setFlight (.ref e) none) Q E s:=by
 obtain ⟨oe,G,T,oT,ts,Y,hc,od,z1,nT,J,U,dT,z3⟩:=tr;obtain ⟨o',O,I,B⟩:=dd;have s3:=(cu.mp z3).1;have j:∀ b,b≠T->(s.heap.update T (bv (·.setIfInBounds 3 ((none:Option aA).elim bc fun f=>aZ f)))).get? b=s.heap.get? b:=fun b n=>E9 _ _ n.symm
 have nr:∀ b o,s.heap.get? b=some o->(∀ G,o.data≠.fields G)->b≠T:=fun b o q n z=>by
  rw [z,U] at q;cases q;exact n ts dT
 unfold setFlight;refine aF (aX Y od z1 ?_);rw [bK (show (bX T != bc)=true by simp)];refine wpAny_setField U dT s3 (h _ ⟨fun b o q=>(j b fun z=>by rw [z,nT] at q; cases q).trans (kb b o q),ne,ff.of_keeps fun b o q n=>⟨o,(j b (nr b o q n)).trans q,rfl⟩,?_⟩ ⟨o',(j e J.symm).trans O,I,B⟩ fun b o q n=>⟨o.slots,(j b (nr b o q n)).trans q⟩)
 exact ⟨oe,G,T,_,_,(j e J.symm).trans Y,hc,od,z1,nT,J,G7 _ U (dC (cF dT _)),cF dT _,by simp [s3]⟩
end
end PySem
namespace L2
open PySem PySem.Spec PyProof.Rows
def CXD (P:aN) (w:aK):CXT:=fun outer H s E e s'=>∃ a cls a0 dv H' B,e=bX a/\Fly P w outer H H' s s' a cls a0 B/\(∃ o',s'.heap.get? a=some o'/\o'.dict=dv/\Q1i o'=some .none)/\E cls dv H'
theorem K8 {P:aN} {w:aK} {X:Cx}:jr (CXD P w) X E0:=fun _ _ _ _ _ _ _ h=>by
 obtain ⟨_,_,_,_,_,_,_,_,_,z⟩:=h;exact z.elim
def Qcc (H:Hp) (a:aA):Hp:=fun b=>if b=a then none else H b
theorem Q71 {H:Hp} {a b:aA} (h:b≠a):Qcc H a b=H b:=by unfold Qcc; rw [bL h]
theorem Q2x {H:Hp} {a:aA}:Qcc H a a=none:=by unfold Qcc; rw [bK rfl]
theorem Inv.drop {X:Cx} {pins:List (aA × Obj)} {σ:St} {H:Hp} {s:aC} {a:aA} {B:Heap->Prop} (I:Inv X pins σ H s) (h:H a=some (.ext B)):Inv X pins σ (Qcc H a) s:=by
 have nn:∀ b,H b=none->Qcc H a b=none:=fun b e=>by
  by_cases z:b=a
  ·subst z; exact Q2x
  ·rw [Q71 z]; exact e
 have j:∀ b o,H b=some o->o≠.ext B->Qcc H a b=some o:=fun b o e n=>by
  rw [Q71 fun z=>?_]
  ·exact e
  ·subst z; rw [h] at e; exact n (bg e).symm
 refine ⟨I.ok,I.os,I.bare,?_,I.loc,I.cell,nn _ I.free,fun x c e=>nn _ (I.freeC x c e),fun p hp=>?_,fun b u q=>?_,I.len⟩
 ·have u:=I.base;exact ⟨u.keep,u.slot,fun b o e n J=>nn _ (u.free b o e n J),u.there,fun b xs e=>j _ _ (u.tups b xs e) (by simp),fun b o v e=>j _ _ (u.frzs b o v e) (by simp),fun b ps e=>by
   obtain ⟨more,q⟩:=u.tbls b ps e;exact ⟨more,j _ _ q (by simp)⟩⟩
 ·obtain ⟨e,n,ne,G,d⟩:=I.pin p hp;exact ⟨e,nn _ n,ne,G,d⟩
 ·by_cases z:b=a
  ·subst z; rw [Q2x] at q; cases q
  ·rw [Q71 z] at q;exact (I.hok b u q).stay (fun _ _ _ r=>r) (fun c r=>j _ _ r (by simp)) fun c O r=>j _ _ r (by simp)
section
variable {P:aN} {w:aK} {K:bQ} {mg:Str->Option aB} {base:Heap} {N:List Str} {qual:Str} {scope:Scope} {f:aA} {cd:aB} {A:aR} {outer:List Env} {s:aC} {H:Hp} {E:XK}
abbrev cxD (P:aN) (w:aK) (K:bQ) (mg:Str->Option aB) (base:Heap) (N:List Str) (qual:Str) (scope:Scope) (f:aA) (cd:aB) (A:aR) (outer:List Env) (s:aC) (H:Hp) (E:XK):Cx:=Qfh (CXD P w) P w K mg base N qual scope f cd A outer s H E
theorem Qbi {pins:List (aA × Obj)} {σ:St} {H1:Hp} {s1:aC} (I:Inv (cxD P w K mg base N qual scope f cd A outer s H E) pins σ H1 s1) {b:aA} {o:Obj} (e:s.heap.get? b=some o) (n:b∉frs outer):b∉frs (cxD P w K mg base N qual scope f cd A outer s H E).stack:=fun j=>by
 rcases E7.mp (I.stkSub b j) with z | z
 ·have h1:b < s.heap.objs.size:=O7 e;have h2:s.heap.objs.size<=(cxD P w K mg base N qual scope f cd A outer s H E).env.locals:=I.ok.above;rw [<- z] at h2;exact absurd (D1 h1 h2) (bq _)
 ·exact n z
theorem Qm3 {b:aA} (h:b∈frs outer):b∈frs (cxD P w K mg base N qual scope f cd A outer s H E).stack:=by
 show b∈frs (_ :: outer);unfold frs at h ⊢;rw [dS]
 split
 ·exact h
 ·exact D0 _ h
theorem Qs8 {pins:List (aA × Obj)} {σ:St} {H1:Hp} {s1:aC} {J:Heap} {e C t:aA} {Y:Option aA} (I:Inv (cxD P w K mg base N qual scope f cd A outer s H E) pins σ H1 s1)
  (Z:∀ b o,b≠e->s1.heap.get? b=some o->J.get? b=some o) (a6:∀ o,s1.heap.get? e=some o->∃ vs,o.data=.fields vs) (new:s.heap.get? e=none) (hH:H1 e=none)
  (oe:J.get? e=some { cls:=.ref C,dict:=Y,data:=.fields #[.ref t,.none,.none,.none,.bool false,.none] }) (hE:E (.ref C) Y H1) :
  (cxD P w K mg base N qual scope f cd A outer s H E).xe (.ref e) { s1 with heap:=J }:=by
 have a2:∀ en∈(cxD P w K mg base N qual scope f cd A outer s H E).stack,∀ b,en.frame=some b->b∈e :: frs (cxD P w K mg base N qual scope f cd A outer s H E).stack:=fun en he b j=>D0 _ (eF.mpr ⟨en,he,j⟩)
 have ff:=PySem.W.funFrames_hide I.stack a2;have a3:∀ b o,s1.heap.get? b=some o->(∀ vs,o.data≠.fields vs)->b≠e:=fun b o q n z=>by
  subst z;obtain ⟨vs,d⟩:=a6 o q;exact n vs d
 have hid:(dQ s1.heap (e :: frs (cxD P w K mg base N qual scope f cd A outer s H E).stack)).get? e=none:=fO _ D3;have kb:(dQ s1.heap (e :: frs (cxD P w K mg base N qual scope f cd A outer s H E).stack)).StaysIn J:=fun b o q=>Z b o (fun z=>by rw [z,hid] at q; cases q) (fN _ q)
 show aI (aJ P w) _ (leaving _ (.ref e)) _ _ _;refine Qdu (bs:=dQ s1.heap (e :: frs (cxD P w K mg base N qual scope f cd A outer s H E).stack)) (a0:=.ref t) (s:={ s1 with heap:=J }) I.ok.frames (ff.of_keeps fun b o q n=>⟨o,Z b o (a3 b o q n) q,rfl⟩) rfl oe kb hid rfl rfl rfl fun h2 lf dd=>?_
 obtain ⟨k1,⟨_,_,k2⟩,k3,k4⟩:=lf;have noex:∀ b:aA,b∉(cxD P w K mg base N qual scope f cd A outer s H E).ex:=fun b z=>absurd (show b∈([]:List aA) from z) (by simp)
 have B:∀ b o,s.heap.get? b=some o->b≠e:=fun b o q z=>by rw [z,new] at q; cases q
 have G:∀ b o,s.heap.get? b=some o->b∉frs outer->b∉e :: frs (cxD P w K mg base N qual scope f cd A outer s H E).stack:=fun b o q n m=>by
  rcases E7.mp m with z | z
  ·exact B b o q z
  ·exact Qbi I q n z
 refine ⟨e,.ref C,.ref t,Y,H1,_,rfl,⟨I.os,I.bare,⟨k1,hid,k2,k3⟩,fun b u q=>?_,fun b o q n j=>?_,fun b o q j=>?_,fun b o q j=>?_,fun b o q n=>I.base.free b o q n (noex b),I.base.tups,I.base.frzs,I.base.tbls⟩,dd,hE⟩
 ·have ne:∀ c v,H1 c=some v->c∉e :: frs (cxD P w K mg base N qual scope f cd A outer s H E).stack:=fun c v z m=>by
   rcases E7.mp m with m | m
   ·rw [m,hH] at z; cases z
   ·rw [I.stkFree c m] at z; cases z
  refine (I.hok b u q).stay (fun c v hc r=>dR _ r ?_) (fun _ r=>r) fun _ _ r=>r
  rcases hc with rfl | hc
  ·exact ne c u q
  ·exact ne c _ hc
 ·exact dR _ (I.base.keep b o q n j (noex b)) (G b o q j)
 ·obtain ⟨o',z⟩:=I.base.there b o q (noex b);exact ⟨o',dR _ z (G b o q j)⟩
 ·obtain ⟨sl,z⟩:=I.base.slot b o q (I.ok.frf b j) j (noex b);obtain ⟨_,o',a4,U⟩:=I.ok.funs.mem j;have O:s.heap.get? b=some o':=a4;rw [q] at O;cases O;obtain ⟨a5,z'⟩:=k4 b _ (Z b _ (B b o q) z) U;exact ⟨a5,z'⟩
theorem Qe:jr (CXD P w) (cxD P w K mg base N qual scope f cd A outer s H E) E:=by
 intro pins σ H1 s1 e s' I h;obtain ⟨a,cls,a0,dv,H',B,rfl,F,dd,hE⟩:=h;show aI (aJ P w) _ (leaving _ (.ref a)) _ _ _;have noex:∀ b:aA,b∉(cxD P w K mg base N qual scope f cd A outer s H E).ex:=fun b z=>absurd (show b∈([]:List aA) from z) (by simp)
 refine Qdt I.ok.frames rfl F.fl dd fun h2 Z Y x2=>?_
 refine ⟨a,cls,a0,dv,H',B,rfl,⟨F.os.trans I.os,F.bare,Z,F.hokB,fun b o q n j=>?_,fun b o q j=>?_,fun b o q j=>?_,fun b o q n=>?_,fun b xs q=>F.tups b xs (I.base.tups b xs q),fun b o u q=>F.frzs b o u (I.base.frzs b o u q),fun b ps q=>?_⟩,Y,hE⟩
 ·exact F.keep b o (I.base.keep b o q n j (noex b)) (I.base.free b o q n (noex b)) (Qbi I q j)
 ·obtain ⟨o',z⟩:=I.base.there b o q (noex b);exact F.there b o' z (Qbi I q j)
 ·obtain ⟨sl,z⟩:=I.base.slot b o q (I.ok.frf b j) j (noex b);obtain ⟨_,o',U,J⟩:=I.ok.funs.mem j;have G:s.heap.get? b=some o':=U;rw [q] at G;cases G;obtain ⟨a2,z'⟩:=F.slot b _ z (Qm3 j);obtain ⟨O,z2⟩:=x2 b _ z' J;exact ⟨O,z2⟩
 ·obtain ⟨o',z⟩:=I.base.there b o q (noex b);exact F.free b o' z (I.base.free b o q n (noex b))
 ·obtain ⟨m1,e1⟩:=I.base.tbls b ps q;obtain ⟨m2,e2⟩:=F.tbls b _ e1;exact ⟨m1 ++ m2,by rw [e2,fP]⟩
end
section
variable {X:Cx}
def Q97 (X:Cx) (E:XK):Prop:=∀ (pins:List (aA × Obj)) (σ:St) (H0 H1:Hp) (s0 s1:aC) (hx:Heap) (e C t:aA) (dv:Option aA),Inv X pins σ H0 s0->s0.heap.get? e=none->Inv X pins σ H1 s1->(∀ b o,b≠e->s1.heap.get? b=some o->hx.get? b=some o) ->
 (∀ o,s1.heap.get? e=some o->∃ vs,o.data=.fields vs)->H1 e=none->hx.get? e=some { cls:=.ref C,dict:=dv,data:=.fields #[.ref t,.none,.none,.none,.bool false,.none] }->E (.ref C) dv H1->X.xe (.ref e) { s1 with heap:=hx }
theorem Qhe {x:Str} {C:aA} {e:aD} {t:TA} {E:XK} {np cpos pos:Pos} (j:X.calm=true) (RO:Q97 X E) (hg:Gl X x) (Z:X.mg x=some (.ref C)) (q:bb X.K C Xx "ValueError.__new__" = true) (ha:PA X [e] t)
  (U:(x == ("__debug__" : Str))=false:=by decide) (Y:aO [e] X.env=[(false,aL e X.env)]:=by rfl):PS X (.Raise (some (.Call (.Name x np) [e] [] cpos)) none pos) (Qry C E t):=by
 intro pins s σ H D I h;obtain ⟨tl,N,nm,qn,bs,hdct,sn,sub,ab,col,dd,k0,k1,k2,k3,k5,mN,hC,hN,O,T⟩:=(Qg2 I.mod.kin Z q).obj;refine wpAny_Raise_call_subU (C:=C) (nm:=nm) (q:=qn) (N:=N) (bs:=bs) (bm:=tl) (hdct:=hdct) (sn:=sn) (sub:=sub) (ab:=ab) (col:=col) (dd:=dd) (k0:=k0) (k1:=k1) (k2:=k2) (k3:=k3) (k5:=k5)
  dE (by decide +kernel) dE (mN:=mN) (T.hasType (by decide +kernel)) (I.ok.hd j) (by rw [Y]; rfl) O (zi I hg Z ⟨rfl,?_⟩ U)
 have G:=ha cpos pins s σ H _ I h;rw [Y] at G ⊢;refine Calls.evalArgs_plain (ad G (fun us s1 ⟨vs,H1,B,r,z,hE⟩=>?_) fun _ _ y=>y)
 refine ⟨rfl,by rw [<- r.length]; exact z,B.bk _ _ hC,hN.keeps B.bk,T.keeps B.bk,fun h' e' J=>?_⟩;obtain ⟨t,oe,_,_⟩:=J.there;exact RO pins σ H1 H1 s1 s1 h' e' C t none B J.new B (fun b o _ k=>J.keeps b o k) (fun o k=>by rw [J.new] at k; cases k) (B.hok.none_of J.new) oe hE
def Q7d (C:aA) (name:Str):Sp:=fun vs H Q _=>∃ (x:aA) (v:V),vs=[.ref x,v]/\H x=some (.ext (XO x C none))/\∀ dx,H dx=none->dx≠x->Q .non (upd (upd H x (.ext (XO x C (some dx)))) dx (.xd [(name,v)]))
def Qnb (C:aA) (name:Str) (E:XK) (t:TA):TS:=fun _ σ H=>t σ H fun vs H1=>∃ v,vs=[v]/\∀ dx,H1 dx=none->E (.ref C) (some dx) (upd H1 dx (.xd [(name,v)]))
theorem Qhd {x name:Str} {C W f:aA} {fd:aP} {k:Nat} {ps:List Str} {e:aD} {t:TA} {E:XK} {np cpos pos:Pos} (O:X.calm=true) (RO:Q97 X E) (M:XMade X.K C W f) (G:FnOk X.prog X.w X.K X.mg X.base CX0 k f fd ps (Q7d C name)) (hr:Room (k + 1) X.A)
  (hb:Binds X.K fd ps []) (hg:Gl X x) (hm:X.mg x=some (.ref C)) (ha:PA X [e] t)
  (a2:(x == ("__debug__" : Str))=false:=by decide) (he:aO [e] X.env=[(false,aL e X.env)]:=by rfl):PS X (.Raise (some (.Call (.Name x np) [e] [] cpos)) none pos) (Qnb C name E t):=by
 intro pins s σ H D I h;obtain ⟨nm,q,N,bs,sn,sub,ab,col,dd,k0,k1,k2,k3,k5,lk⟩:=M.lk;obtain ⟨of,lf,cf⟩:=M.ff;have oC:∀ {H':Hp} {s':aC},Inv X pins σ H' s'->s'.heap.get? C=some (excClassObj nm q C N bs (.ref W :: Xx) true sn sub ab col dd k0 k1 k2 k3 k5 "ValueError.__new__"):=fun J=>J.kIn _ _ lk
 rw [arm_exec_Raise];refine aF (wpAny_standAt (Q9p (kC:=C) (cn:=nm) (cq:=q) (kN:=N) (bas:=bs) (tl:=.ref W :: Xx) (hd:=true) (sns:=sn) (subs:=sub) (abb:=ab) (coll:=col) (dic:=dd) (j0:=k0) (j1:=k1) (j2:=k2) (j3:=k3) (j5:=k5) (newI := "ValueError.__new__") (by simp) (I.ok.hd O) ?_));refine aF (ad (wpAny_Call_Name_kw (zi I hg hm (dB (h₀:=X.base) (Q:=fun v s1=>∃ e t dv,v=.ref e/\s1.heap.get? C=some (excClassObj nm q C N bs (.ref W :: Xx) true sn sub ab col dd k0 k1 k2 k3 k5 "ValueError.__new__")/\s1.heap.get? e=some { cls:=.ref C,dict:=dv,data:=.fields #[.ref t,.none,.none,.none,.bool false,.none] }/\X.xe (.ref e) s1) I.ok.mod.kin M.kp (thn (ha cpos pins s σ H _ I h) fun us s1 ⟨vs,H1,B,r,v,ev,hE⟩=>⟨B.kIn,?_⟩) (by rw [he]; rfl) rfl) a2)) (fun v s3 z=>aF (wpAny_standAt (aS z))) fun _ _ z=>z)
 subst ev;obtain ⟨u,rfl,ru⟩:=r.one;obtain ⟨hp,gs,dr,tk,sy⟩:=s1;refine Qfj (rest:=[u]) dE (by decide +kernel) dE (M.tail B.kIn) (oC B) B.kIn M.fi (B.kIn _ _ lf) cf (fun h' kp oe=>?_) (show 1<=sizeLine by decide);obtain ⟨a,ea⟩:∃ a,hp.objs.size + 1=a:=⟨_,rfl⟩;rw [ea] at oe ⊢;have la:hp.objs.size<=a:=by rw [<- ea]; exact cS _
 have na:H1 a=none:=B.hok.fresh la;have ga:hp.get? a=none:=Heap.get?_none_of_le la;have Z:Inv X pins σ (upd H1 a (.ext (XO a C none))) ⟨h',gs,dr,tk,sy⟩:=B.laid (t':=tk) (h':=h') kp la (Qj1 ⟨_,oe⟩);have sp:Q7d C name [.ref a,v] (upd H1 a (.ext (XO a C none))) (fun v' H'=>v'=.non/\∃ dx,H1 dx=none/\dx≠a/\H'=upd (upd (upd H1 a (.ext (XO a C none))) a (.ext (XO a C (some dx)))) dx (.xd [(name,v)])) E0:=
  ⟨a,v,rfl,Je,fun dx hn j=>⟨rfl,dx,by rwa [Qf j] at hn,j,rfl⟩⟩
 have r2:Vals [V.ref a,v] [bX a,u]:=.cons rfl (.cons ru .nil);have hl:([bX a,u] ++ []).length=ps.length:=by
  have:=G.len _ _ _ _ sp;simpa using this
 refine wpAny_call (bE (G.run _ X.stack _ _ ⟨[bX a,u],[]⟩ [bX a,u] _ _ E0 (hr.make C [u] []) (Z.env0.make C [u] []) (hb _ [bX a,u] Z.kIn hl) r2 sp) fun r s' z=>?_)
 cases r with
 | error e=>exact False.elim z
 | ok fl=>
  cases fl with
  | ret u'=>
   obtain ⟨v',H',I3,rv,ev,dx,hn,j,eH⟩:=Z.after z;subst ev;obtain rfl:u'=bc:=rv;have U:H' a=some (.ext (XO a C (some dx))):=by rw [eH,Qf (Ne.symm j),Je]
   obtain ⟨t2,o2⟩:=(I3.hok a _ U).1;have eD:Qcc H' a=upd H1 dx (.xd [(name,v)]):=by
    funext b
    by_cases Y:b=a
    ·rw [Y,Q2x,Qf (Ne.symm j),na]
    ·rw [Q71 Y,eH]
     by_cases zd:b=dx
     ·rw [zd,Je,Je]
     ·rw [Qf zd,Qf zd,Qf Y,Qf Y]
   refine ⟨rfl,a,t2,some dx,rfl,oC I3,o2,?_⟩;have:=RO pins σ H1 (Qcc H' a) _ s' s'.heap a C t2 (some dx) B ga (I3.drop U) (fun b o _ k=>k) (fun o k=>by rw [o2] at k; cases k; exact ⟨_,rfl⟩) Q2x o2 (by rw [eD]; exact hE dx hn);exact this
  | next=>exact False.elim z
  | brk=>exact False.elim z
  | cont=>exact False.elim z
end
theorem Vn {P:aN} {w:aK} {K:bQ} {mg:Str->Option aB} {base:Heap} {N:List Str} {qual:Str} {scope:Scope} {f:aA} {cd:aB} {A:aR} {outer:List Env} {s:aC} {H:Hp} {E:XK} :
  Q97 (cxD P w K mg base N qual scope f cd A outer s H E) E:=fun pins σ H0 H1 s0 s1 Z e C t dv U Y I O j G J B=>by
 refine Qs8 I O j ?_ G J B;cases q:s.heap.get? e with
 | none=>rfl
 | some o=>
  obtain ⟨o',z⟩:=U.base.there e o q (fun z=>absurd (show e∈([]:List aA) from z) (by simp))
  rw [Y] at z; cases z
theorem Fun.okD {P:aN} {w:aK} {K:bQ} {mg:Str->Option aB} {base:Heap} {x qual:Str} {st:aM} {f:aA} {fd:aP} {N ps:List Str} {k:Nat} {sp:Sp} (F:Fun K x qual st f fd) (S:FnScope N ps (Q7 st)) (len:∀ vs H Q E,sp vs H Q E->vs.length=ps.length)
  (q:∀ (j:aB) (A:aR) (outer:List Env) (s:aC) (H:Hp) (vs:List V) (Q:VK) (E:XK),Room k (A.deeper (envOfC qual (Q7 st) s.heap.objs.size f j))->sp vs H Q E ->
   ∃ t,PSs (cxD P w K mg base N qual (Q7 st) f j A outer s H E) (Qp st) t/\t { nx:=fun _ H'=>Q .non H',rt:=Q } (start N vs) H):FnOk P w K mg base (CXD P w) (k + 1) f fd ps sp:=by
 obtain ⟨U,Y,kV,G,O,an,j,ct,J,rfl,lk,B⟩:=F.ex;exact Qrh lk B S len fun A outer s H vs Q E I z=>q j A outer s H vs Q E I z
end L2
namespace L2
open PySem PySem.Spec PyProof.Rows PySem.W PySem.Builtin.Getset_descriptor
def IsXD (x C:aA) (dv:Option aA) (h:Heap):Prop:=∃ ox vs,h.get? x=some ox/\ox.cls=.ref C/\ox.dict=dv/\ox.data=.fields vs/\vs[2]?=some .none
theorem IsXD.x {x C:aA} {q:Option aA} {h:Heap} (I:IsXD x C q h):IsX x C h:=let ⟨j,_,a,b,_⟩:=I; ⟨j,a,b⟩
theorem Qqn {P:aN} {w:aK} {H:Hp} {h:Heap} {a C:aA} {j:Option aA} (I:IsXD a C j h):ObjOk P w H h a (.ext (IsXD a C j)):=
 ⟨I,(let ⟨o,_,e,_⟩:=I; ⟨o,e⟩),fun h1 h2 ⟨o,vs,e,c⟩ k=>⟨o,vs,k o e,c⟩⟩
structure XGet (K:Frag) (C:aA) (name:Str):Prop where
 xc:XCls K C
 hd:∃ cd,clsIn K C=some cd/\cd.hasDict=true
 no:findIn K (.ref C) name=some none
section
variable {prog:aN} {w:aK} {A:aR} {E:aB->aC->Prop} {h:Heap} {g:Array GenState} {d:Drawn} {t:Nat} {os:OsState} {K:Frag} {x C dx:aA} {name:Str} {v:aB} {m:Str->Option aB}
theorem Qn4 {M:Model} (X:K.In h) (F:XGet K C name) (I:IsXD x C (some dx) h) (n:h.Ns1 dx m) (q:m name=some v):Looks M h (Builtin.ObjectAttr.find (.ref x) (.ref C) name) (.value v):=by
 obtain ⟨z,vs,e1,e2,e3,U,_⟩:=I;obtain ⟨j,G,B⟩:=Qav n;obtain ⟨cd,hc,hd⟩:=F.hd;have J:InstAt h x z C (some j):=⟨e1,e2,by unfold notCls; rw [U],by rw [e3]; exact G⟩;have L1:=looks_findIn (M:=M) X F.no;have O:Looks M h (Builtin.ObjectAttr.getOf none) none:=.now;have Y:Looks M h (Builtin.ObjectAttr.dataDescriptor? none none) none:=.now;have Z:Looks M h (Builtin.ObjectAttr.inOwnDict name (.ref x)) (some v):=looks_own X J hc (by unfold PySem.W.ownOf; rw [hd,bK rfl]; show lookIn name j=_; rw [B,q]);exact L1.andThen (O.andThen (Y.andThen (Z.andThen (Looks.tag .now))))
theorem Qj2 {tk:Tok} {Q:Fin->aC->Prop} (X:K.In h) (F:XGet K C name) (I:IsXD x C (some dx) h) (n:h.Ns1 dx m) (j:m name=some v) (z:Q (.done (.ret v)) ⟨h,g,d,t,os⟩) :
  aI (aJ prog w) A (Builtin.«object.__getattribute__» ⟨[.ref x,.str name tk],[]⟩) Q E ⟨h,g,d,t,os⟩:=by
 have q:=I.x.type (M:=aJ prog w);have B:=Qn4 (M:=aJ prog w) X F I n j;unfold Builtin.«object.__getattribute__»;refine aF (aS ?_);refine aF (aS ?_);refine aF (q.at (aF (B.at ?_)));exact aS z
theorem Qn5 {tk:Tok} {R:Result->aC->Prop} (X:K.In h) (F:XGet K C name) (I:IsXD x C (some dx) h) (n:h.Ns1 dx m) (j:m name=some v) (q:R (.ok (.ret v)) ⟨h,g,d,t,os⟩) :
  codeAny (aJ prog w) A (.call (.builtin "BaseException.__getattribute__") ⟨[.ref x,.str name tk],[]⟩) R ⟨h,g,d,t,os⟩:=
 codeAny_call_builtin PySem.F.attr_ValueError.ga.plain PySem.F.entry_bexc_ga (Qj3 X F.xc I.x (Qj2 X F I n j q))
theorem Qn6 {j:Bool} {Q:aB->aC->Prop} (X:K.In h) (F:XGet K C name) (I:IsXD x C (some dx) h) (n:h.Ns1 dx m) (z:m name=some v) (B:handedIn v=true) (Z:Q v ⟨h,g,d,t + 1,os⟩):aI (aJ prog w) A (getAttr (.ref x) name j) Q E ⟨h,g,d,t,os⟩:=by
 have J:=I.x.type (M:=aJ prog w);have L1:=looks_findIn (M:=aJ prog w) X F.xc.ga;have Y:=looks_findIn (M:=aJ prog w) X F.xc.gt;have q:(cv "BaseException.__getattribute__" == cv "object.__getattribute__")=false:=by decide +kernel
 have U:(onTheHeap (bX C) && cv "BaseException.__getattribute__" == cv "object.__getattribute__")=false:=by rw [q]; rfl
 have O:(j && onTheHeap (cv "BaseException.__getattribute__"))=false:=by rw [show onTheHeap (cv "BaseException.__getattribute__")=false from rfl,da]
 have f3:=PySem.F.attr_ValueError.ga.bind (.ref x);have G:=handedOut_of B;unfold getAttr getAttrBy;refine aF (wpAny_mkText (aw (aF (J.at (aF (L1.at ?_))))))
 repeat (any_goals (first | assumption | with_reducible refine Y.at ?_ | wp_step))
 refine Qn5 X F I n z ?_;dsimp only;rw [G];exact aS Z
end
section
variable {X:Cx}
def tXF (K:Frag) (name:Str) (ta:TE):TE:=fun σ H Q=>ta σ H fun v H1=>∃ (a C dx:aA) (i:Int) (fs:List (Str × V)),v=.ref a/\H1 a=some (.ext (IsXD a C (some dx)))/\H1 dx=some (.xd fs)/\fs.lookup name=some (.int i)/\XGet K C name/\Q (.int i) H1
theorem Qpc {e:aD} {name:Str} {ta:TE} {pos:Pos} (K:Frag) (J:PE X e ta) (Y:ai e name X.env (aL e X.env)=aL e X.env:=by rfl) (U:X.K=K:=by rfl):PE X (.Attribute e name pos) (tXF K name ta):=by
 subst U;intro pins s σ H Q I h;refine Qgs Y (thn (J pins s σ H _ I h) fun u s1 ⟨v,H1,z,rx,a,C,dx,i,fs,ev,ha,hd,O,G,q⟩=>?_)
 subst ev;obtain rfl:u=bX a:=rx;obtain ⟨mA,n,r⟩:=z.hok dx _ hd;have j:=r name;rw [O] at j;cases B:mA name with
 | none=>rw [B] at j; exact False.elim j
 | some y=>
  rw [B] at j;obtain ⟨tk,rfl⟩:∃ tk,y=.int i tk:=j;obtain ⟨hp,gs,dr,Z,sy⟩:=s1;exact Qn6 z.kIn G (z.hok a _ ha).1 n B rfl ⟨.int i,H1,z.tok _,⟨_,rfl⟩,q⟩
end
section
variable {X:Cx} {pins:List (aA × Obj)} {σ:St} {H H':Hp} {s s':aC} {a C:aA}
end
end L2
namespace L2
open PySem PySem.Spec PyProof.Rows
section
variable {X:Cx}
theorem Qqu {CX:CXT} {f:aA} {fd:aP} {k:Nat} {ps:List Str} {sp:Sp} {g:Str} {p cpos:Pos} {e:aD} {es:List aD} {ta:TA} {pins:List (aA × Obj)} {σ:St} {H:Hp} {s:aC} {E1:aB->aC->Prop} {Z:VK} {O:XK}
  (F:FnOk X.prog X.w X.K X.mg X.base CX k f fd ps sp) (hr:Room k X.A) (hm:X.mg g=some (.ref f)) (Y:bT X.K (.ref f)=true) (hb:Binds X.K fd ps []) (ha:PA X.nox (e :: es) ta) (hg:Gl X g)
  (I:Inv X pins σ H s) (h:ta σ H fun vs H1=>sp vs H1 Z O) (hE:∀ H1 s1 v s',Inv X pins σ H1 s1->CX X.stack H1 s1 O v s'->E1 v s')
  (U:(g == ("__debug__" : Str))=false) (he:aO (e :: es) X.env=(false,aL e X.env) :: aO es X.env) (J:(aU cpos (aO es X.env)).any (·.1)=false) :
  aI (aJ X.prog X.w) X.A (aL (.Call (.Name g p) (e :: es) [] cpos) X.env) (EP X pins σ Z) E1 s:=by
 refine wpAny_Call_Name_kw (zi I hg hm ?_ U);refine dB (h₀:=X.base) I.ok.mod.kin Y (ad (ha cpos pins s σ H _ (I.wish _) h) (fun us s1 ⟨vs,H1,I1,r,q⟩=>⟨I1.unwish.kIn,?_⟩) fun _ _ z=>z.elim) he J
 have j:=I1.unwish;have hl:us.length=ps.length:=by rw [<- r.length]; exact F.len _ _ _ _ q
 have G:=hb s1 us j.kIn (by rw [bu]; exact hl);rw [bu] at G;refine wpAny_call (bE (F.run X.A X.stack s1 H1 ⟨us,[]⟩ us vs Z O hr j.env0 G r q) fun rr s' B=>?_)
 cases rr with
 | error v=>exact hE H1 s1 v s' j B
 | ok fl=>
  cases fl with
  | ret u=>exact j.after B
  | next=>exact False.elim B
  | brk=>exact False.elim B
  | cont=>exact False.elim B
end
section
variable {X:Cx}
end
end L2
namespace L2
open PySem PySem.Spec PyProof.Rows PySem.W PySem.Builtin.Getset_descriptor
section
variable {X:Cx} {pins:List (aA × Obj)} {σ:St} {H H':Hp} {s s':aC} {a C:aA}
theorem Qqh {cn n:Str} {i:Nat} {CC:aA} {a0:aB} {B:Heap} {dv:Option aA} {np b2:Pos} {Z:aM} {suite:List aM} {ts:TS} {D:Ends} (hN:X.N.Nodup) (hi:X.N[i]?=some n) (hk:X.env.scope.names.lookup n=some .local) (c5:∀ b,b∉X.ex)
  (b4:X.stack=X.env :: X.outer) (c0:X.env.frame=some X.env.locals) (hg:Gl X cn) (hm:X.mg cn=some (.ref CC)) (hx:exmOne X.K (.ref C) (.ref CC)=some true) (I:Inv X pins σ H s) (F:Fly X.prog X.w X.stack H H' s s' a (.ref C) a0 B) (dd:∃ o',s'.heap.get? a=some o'/\o'.dict=dv/\Q1i o'=some .none)
  (O:PSs (Q0a X a) (Z :: suite) ts) (q:ts { nx:=fun c6 H2=>D.nx (c6.set i none) H2,rt:=D.rt } (σ.set i (some (.ref a))) (upd H' a (.ext (IsXD a C dv)))) (c3:(cn == ("__debug__" : Str))=false:=by decide) :
  aI (aJ X.prog X.w) X.A (noteFrame (.ref a) X.env) (fun _ a8=>aI (aJ X.prog X.w) X.A (setFlight (.ref a) none) (fun _ b5=>aI (aJ X.prog X.w) X.A (handleBy (.ref a) X.env [.ExceptHandler (some (.Name cn np)) (some n) (Z :: suite) b2]) (SP X pins D) X.xe b5) X.xe a8) X.xe s':=by
 have Y:(X.env.scope.kind == .class || (X.env.scope.kind == .module && X.env.locals != X.env.globals))=false:=by rw [I.ok.kind]; rfl
 have a7:=F.fl;rw [b4] at a7;refine Qi2 (by rw [<- b4]; exact I.ok.frames) c0 a7 dd fun h4 j d4 b1=>?_
 refine Q60 (s:={ s' with heap:=h4 }) j.1 j.2.1 j.2.2.1 j.2.2.2 d4 fun h5 G d5 b0=>?_
 obtain ⟨n1,n2⟩:=F.new;have I5:Inv X pins σ H' { s' with heap:=h5 }:=F.inv I G.1 (b1.trans b0);obtain ⟨ob,b8,a9⟩:=G.there;have LT:Looks (aJ X.prog X.w) h5 (typeOf (.ref a)) (.ref C):=IsX.type ⟨ob,b8,a9⟩;refine wpAny_handleBy_cons (codeAny_handlers_test (zi (X:=Q0a X a) (I5.suite a) hg hm ?_ c3)) (by intro z; cases z);refine (exm_one (h:=h5) I5.kIn LT hx).at ?_;refine codeAny_handlers_suite_as ?_;refine Q60 (s:={ s' with heap:=h5 }) G.1 G.2.1 G.2.2.1 G.2.2.2.at d5 fun h6 b6 d6 c1=>?_
 have I6:Inv X pins σ H' { s' with heap:=h6 }:=F.inv I b6.1 ((b1.trans b0).trans c1);obtain ⟨b9,c2,U,a4,a2,_⟩:=b6.first;obtain ⟨o',b3,c7,a3⟩:=d6;rw [U] at b3;cases b3;have I7:Inv X pins σ (upd H' a (.ext (IsXD a C dv))) { s' with heap:=h6 }:=Inv.track I c5 n1 I6 n2 (Qqn ⟨b9,c2,U,a4,c7,a2,by unfold Q1i at a3; rw [a2] at a3; exact a3⟩);refine Q7a (X:=Q0a X a) (v:=.ref a) (I7.suite a) hN hi (.inl hk) rfl (fun s8 I8=>?_) (.inr hk);refine ad (O pins s8 _ _ _ I8 q) (fun f s9 h9=>?_) fun _ _ z=>z.elim
 cases f with
 | next=>
  obtain ⟨b7,H9,I9,q9⟩:=h9;have J:=I9.unsuite I.ok;obtain ⟨m,hn,hl⟩:=id J.loc;exact wpAny_nameGoes_keeps hk hn Y fun c4 v a6 a5=>⟨_,_,J.forget hN hi hl a6 a5,q9⟩
 | brk=>obtain ⟨_,_,_,z⟩:=h9; exact z.elim
 | cont=>obtain ⟨_,_,_,z⟩:=h9; exact z.elim
 | ret u=>
  obtain ⟨v9,b7,H9,I9,r9,q9⟩:=h9;have J:=I9.unsuite I.ok;obtain ⟨m,hn,hl⟩:=id J.loc;exact wpAny_nameGoes_keeps hk hn Y fun c4 v a6 a5=>⟨v9,_,_,J.forget hN hi hl a6 a5,r9,q9⟩
def Qus (sp:Sp) (ta:TA) (i:Nat) (ok:aB->aA->Prop) (ts:TS) (set:V->St->St):TS:=fun D σ H=>ta σ H fun vs H1=>sp vs H1 (fun v H2=>D.nx (set v σ) H2)
 (fun c dv H2=>∃ C,c=.ref C/\ok c C/\∀ a,H2 a=none->ts { nx:=fun σ3 H3=>D.nx (σ3.set i none) H3,rt:=D.rt } (σ.set i (some (.ref a))) (upd H2 a (.ext (IsXD a C dv))))
theorem Qjt {f:aA} {fd:aP} {k:Nat} {ps:List Str} {sp:Sp} {g cn n:Str} {i:Nat} {CC:aA} {p cpos G np O pos:Pos} {e:aD} {es:List aD} {ta:TA} {J:aM} {suite:List aM} {ts:TS}
  (F:FnOk X.prog X.w X.K X.mg X.base (CXD X.prog X.w) k f fd ps sp) (hr:Room k X.A) (hm:X.mg g=some (.ref f)) (a8:bT X.K (.ref f)=true) (hb:Binds X.K fd ps []) (ha:PA X.nox (e :: es) ta)
  (hN:X.N.Nodup) (hi:X.N[i]?=some n) (hk:X.env.scope.names.lookup n=some .local) (j:∀ a,PSs (Q0a X a) (J :: suite) ts) (a5:X.mg cn=some (.ref CC))
  (hg:Gl X g:=by rfl) (a9:Gl X cn:=by rfl) (a6:∀ b,b∉X.ex:=by intro b z; exact absurd (show b∈([]:List aA) from z) (by simp)) (a7:X.stack=X.env :: X.outer:=by rfl) (Z:X.env.frame=some X.env.locals:=by rfl)
  (a4:(g == ("__debug__" : Str))=false:=by decide) (U:(cn == ("__debug__" : Str))=false:=by decide) (he:aO (e :: es) X.env=(false,aL e X.env) :: aO es X.env:=by rfl) (a3:(aU cpos (aO es X.env)).any (·.1)=false:=by rfl)
  (a2:swapsWith (.Call (.Name g p) (e :: es) [] cpos) none G.line X.env=pure false:=by rfl) :
  PS X (.Try [.Expr (.Call (.Name g p) (e :: es) [] cpos) G] [.ExceptHandler (some (.Name cn np)) (some n) (J :: suite) O] [] [] pos) (Qus sp ta i (fun c _=>dF X.K c (.ref CC)=some true) ts (fun _ σ=>σ)):=by
 intro pins s σ H D I h;refine wpAny_Try_except (wpAny_execs_cons (wpAny_Expr_any (thn (Qqu F hr hm a8 hb ha hg I h ?_ a4 he a3) fun v s1 ⟨x,H1,Y,r1,q1⟩=>wpAny_execs_nil (wpAny_execs_nil ⟨σ,H1,Y,q1⟩)) I.quiet a2))
 intro H1 s1 v s' Y hx;obtain ⟨a,cls,a0,dv,H',B,rfl,Fl,dd,C,rfl,hok,q⟩:=hx;exact Qqh hN hi hk a6 a7 Z a9 a5 hok Y Fl dd (j a) (q a Fl.new.2) U
end
end L2
namespace L2
open PySem PySem.Spec PyProof.Rows
section
variable {X:Cx}
end
end L2
namespace L2
open PySem PySem.Spec PyProof.Rows PySem.W PySem.Builtin.Getset_descriptor
section
variable {X:Cx} {pins:List (aA × Obj)} {σ:St} {H H':Hp} {s s':aC} {a C:aA}
end
section
variable {X:Cx}
end
end L2
namespace L2
open PySem PySem.Spec PyProof.Rows PySem.SeqAt
section
variable {prog:aN} {w:aK} {A:aR} {E:aB->aC->Prop} {s:aC}
end
section
variable {X:Cx}
end
end L2
namespace L2
open PySem PySem.Spec PyProof.Rows PySem.SeqAt
section
variable {X:Cx}
def Qrz (val:Str->V) (te:TE):TE:=fun σ H Q=>te σ H fun y H1=>∃ w,y=.str w/\Q (val w) H1
theorem Qd7 {n:Str} {a:aA} {o:Obj} {es:Array DictEntry} {O:Nat} {val:Str->V} {e:aD} {te:TE} {p apos cpos:Pos} (hg:Gl X n) (hm:X.mg n=some (.ref a)) (lk:X.K.lookup a=some o) (ty:o.cls=.type "dict") (U:o.ExactDict) (od:o.data=.dict es O) (ks:KeysOf (J7 X.prog X.w) es) (hs:(a == af)=false)
  (Z:∀ w,RelV (val w) ((findBy (J7 X.prog X.w).is es (.inr w)).getD .none)) (Y:PE X e te) (G:(n == ("__debug__" : Str))=false:=by decide)
  (base:ai (.Name n p) "get" X.env (aL (.Name n p) X.env)=aL (.Name n p) X.env:=by rfl)
  (few:((aU cpos (aO [e] X.env)).all (fun x=>!x.1) && (backToKw cpos (keywordEach [] X.env)).all (fun x=>x.1.isSome)
   && decide (([e]:List aD).length + ([]:List Keyword).length + (if ([]:List Keyword).isEmpty then 0 else 1) < 30))=true:=by rfl)
  (line:(apos.endLine == cpos.line)=true:=by rfl) (trees:aU cpos (aO [e] X.env)=[(false,aL e X.env)]:=by rfl) :
  PE X (.Call (.Attribute (.Name n p) "get" apos) [e] [] cpos) (Qrz val te):=by
 intro pins s σ H Q I h;have j:∀ {H':Hp} {s':aC},Inv X pins σ H' s'->s'.heap.get? a=some o:=fun J=>J.kIn _ _ lk
 refine wpAny_Call_method base few line PySem.F.plainAttrs_dict gI PySem.F.type_dict_get (zi I hg hm ?_ G);refine ⟨⟨o,j I,ty⟩,fun b z=>⟨o,?_,?_⟩,?_⟩
 ·cases z; exact j I
 ·exact U.2.1
 ·rw [trees];refine Calls.callWith_builtin rfl (Calls.evalArgs_plain (Calls.spliced_cons (thn (Y pins s σ H _ I h) fun iv s2 ⟨y,H2,B,ry,w,ey,q⟩=>Calls.spliced_nil ?_)))
  subst ey;obtain ⟨tk,rfl⟩:∃ tk,iv=.str w tk:=ry;have mo:s2.heap.MapOf (J7 X.prog X.w) a (fun k=>findBy (J7 X.prog X.w).is es k):=⟨o,es,O,j B,U,od,ks,fun _=>rfl⟩
  refine call_meetsIn gI ⟨o,j B,ty⟩ PySem.F.entry_dict_get (PySem.F.args_dict_get_2 _ _) (meets_dict_get (J7 X.prog X.w) a (k:=.inr w) (by simp [J7,js,bp]) hs) ⟨_,mo,⟨val w,H2,B.tok _,Z w,q⟩⟩
end
end L2
namespace L2
open PySem PySem.Spec PyProof.Rows
section
variable {X:Cx}
def Qjn (K:bQ):R2:=fun x y H Q=>∃ a b ys,x=.ref a/\y=.ref b/\SqT K H a []/\SqT K H b ys/\Q (.ref b) H
theorem Qkb:OpR X (aW .Add) (Qjn X.K):=by
 intro pins s σ H x y v u Q I Z ry h;obtain ⟨a,b,ys,rfl,rfl,U,O,q⟩:=h;cases Z;cases ry;obtain ⟨its,Y,J,_⟩:=I.tuple U;obtain ⟨j,r2,p2,_⟩:=I.tuple O;have e1:its=[]:=Y.nil_iff.mpr rfl;subst e1;obtain ⟨⟨cls,dd,data,sl⟩,ho,hc,n,hd⟩:=id J;obtain ⟨⟨G,B,data2,z⟩,ho2,hc2,n2,hd2⟩:=id p2;simp only at hc hd hc2 hd2;subst hc hd hc2 hd2;exact concat_meets ⟨_,ho,rfl⟩ ⟨_,ho2,rfl⟩ noFill_tuple_add seq_tuple_add eT eU (eV _ _)
  (tuple_addW0 a b ([]:List aB).toArray j.toArray n n2 dd B sl z (by simp)) ⟨ho,ho2,⟨.ref b,H,I,rfl,q⟩⟩
abbrev Qve (K:bQ):R2:=fun x y H Q=>Qr6 K x y H Q\/Qjn K x y H Q
theorem Qpq:OpR X (aW .Add) (Qve X.K):=op_catT.or Qkb
end
def PTs (X:Cx) (ifs:List aD) (t:TT):Prop:=
 ∀ (pins:List (aA × Obj)) (s:aC) (σ:St) (H:Hp) (Q:Bool->Hp->Prop),Inv X pins σ H s->t σ H Q ->
  aI (aJ X.prog X.w) X.A (forIn ifs true fun c r=>if r=true then do let ok <- isTrue c X.env (aL c X.env); pure (ForInStep.yield ok) else pure (ForInStep.yield r)) (TP X pins σ Q) X.xe s
def Qut:TT:=fun _ H Q=>Q true H
theorem Qp1 {X:Cx}:PTs X [] Qut:=fun _ _ _ H _ I h=>wpAny_tests_nil ⟨H,I,h⟩
theorem Qp0 {X:Cx} {c:aD} {t:TT} (h:PT X c t):PTs X [c] t:=fun pins s σ H Q I q=>wpAny_tests_one (h pins s σ H Q I q)
def Qb4 (J:It) (cap:List (Option Nat)) (g:TG) (tt:TT) (te:TE) (σ:St) (H1:Hp) (Q:VK):Prop:=∀ acc,H1 acc=none ->
 ∃ W:Nat->Nat->List V->St->Hp->Prop,(∃ m,W 0 m [] (Q4r cap σ) (upd H1 acc (.lst [])))/\∀ i m ys σ' H',W i m ys σ' H'->H' acc=some (.lst ys) /\
  ((J.stop i H'/\Q (.ref acc) H')\/(J.go i H'/\ys.length < sizeLine/\∀ x H2,J.yld i H' x H2->g x σ' H2 fun σ3 H3=>tt σ3 H3 fun b H4=>
    if b=true then te σ3 H4 fun y H5=>H5 acc=some (.lst ys)/\∃ m',m' < m/\W (i + 1) m' (ys ++ [y]) σ3 (upd H5 acc (.lst (ys ++ [y])))
    else ∃ m',m' < m/\W (i + 1) m' ys σ3 H4))
def Qbh (cap:List (Option Nat)) (wi:TI) (g:TG) (tt:TT) (te:TE):TE:=fun σ H Q=>wi σ H fun J H1=>Qb4 J cap g tt te σ H1 Q
section
variable {prog:aN} {w:aK} {A:aR} {R:Result->aC->Prop} {s:aC}
theorem Qab {elt j iter:aD} {ifs:List aD} {scope:Scope} {pos:Pos} {it Z:aB} {env:Env} (I:Nat->aC->Prop)
  (a5:∀ n s,I n s->aI (aJ prog w) A (ar it) (fun r z=>match r with
   | none=>R (.ok .next) z
   | some v=>aI (aJ prog w) A (letOwnedTupleGo j it v) (fun _ B=>aI (aJ prog w) A (assign j env v) (fun _ J=>
     aI (aJ prog w) A (forIn ifs true fun c r=>if r=true then do let ok <- isTrue c env (aL c env); pure (ForInStep.yield ok) else pure (ForInStep.yield r)) (fun ok G=>
      if ok=true then aI (aJ prog w) A (aL elt env) (fun x Y=>
       aI (aJ prog w) A (call (.builtin "list.append") [Z,x]) (fun _ O=>∃ m,m < n/\I m O) (fun _ _=>False) Y) (fun _ _=>False) G
      else ∃ m,m < n/\I m G) (fun _ _=>False) J)
     (fun _ _=>False) B) (fun _ _=>False) z) (fun _ _=>False) s)
  (n:Nat) (h:I n s):codeAny (aJ prog w) A (.compLoop (.ListComp elt [⟨j,iter,ifs,0⟩] scope pos) 0 it Z env) R s:=by
 refine codeAny_loop rfl I (fun n s hI=>?_) n h;show aI _ A ((compTurn (.ListComp elt [⟨j,iter,ifs,0⟩] scope pos) 0 it Z env).onRaise (fun x=>do noteFrame x env; theTreesLotGoes x)) _ _ s;refine wpAny_noted ?_;rw [compTurn_list];refine aF (wpAny_standAt (aF (ad (a5 n s hI) (fun r z U=>?_) fun _ _ h'=>h'.elim)))
 cases r with
 | none=>exact aS U
 | some v=>
  refine aF (ad U (fun _ B a2=>?_) fun _ _ h'=>h'.elim)
  refine aF (ad a2 (fun _ J a3=>aF (ad a3 (fun ok G q=>?_) fun _ _ h'=>h'.elim)) fun _ _ h'=>h'.elim)
  cases ok with
  | true=>
   rw [bK rfl] at q;exact aF (aF (ad q (fun x Y a6=>aF (ad a6 (fun _ O a4=>aS (aS ⟨rfl,a4⟩)) fun _ _ h'=>h'.elim)) fun _ _ h'=>h'.elim))
  | false=>
   rw [bL D8] at q;exact aF (aS (aS ⟨rfl,q⟩))
end
section
variable {X:Cx}
theorem Q90 {elt tg iter:aD} {ifs:List aD} {tt:TT} {pos:Pos} {N N':List Str} {sc scE:Scope} {cap:List (Option Nat)} {wi:TI} {g:TG} {te:TE} {use:Option (aB->Sem Unit)} {QQ:aB->aC->Prop} (c4:X.calm=true) (hi:PI X tg iter wi)
  (hg:∀ cl C s0 H0 ex,PG (Xy X N' sc cl C s0 H0 ex) tg g) (he:∀ cl C s0 H0 ex,PE (Xy X N' sc cl C s0 H0 ex) elt te) (f0:∀ cl C s0 H0 ex,PTs (Xy X N' sc cl C s0 H0 ex) ifs tt)
  (hN:X.N=N) (hE:X.env.scope=scE) (hc:compOkC N N' sc scE cap=true) (hs:∀ x,az iter X.env x=pure x)
  {pins:List (aA × Obj)} {s:aC} {σ:St} {H:Hp} {Q:VK} (I:Inv X pins σ H s) (h:Qbh cap wi g tt te σ H Q)
  (fin:∀ d0 C H' s' m,Inv X pins σ H' s'->s'.heap.Ns C m->Q98 X pins H' C->Q (.ref d0) H'->compPost (aJ X.prog X.w) X.A X.xe use QQ (.ref d0) C (.ok .next) s') {pos':Pos} :
  aI (aJ X.prog X.w) X.A (comprehension (.ListComp elt [⟨tg,iter,ifs,0⟩] sc pos) sc X.env pos' (newList []) false (aL iter X.env) use) QQ X.xe s:=by
 have ck:=compOkC.of hc;obtain ⟨cl,e0,c1,c2⟩:=Qfi (scope:=sc) (env:=X.env) fun x hx hf=>I.ok.has x.1 (by
  have:=ck.fre x hx hf;rw [<- hE] at this;exact this)
 refine wpAny_comprehension_free (use:=use) rfl hs e0 ck.kind ck.loc (thn (hi pins s σ H _ I h) fun v s1 h1=>thn h1 fun f6 s2 h2=>?_)
 obtain ⟨it,fp,tn,J,H2,e,I2,T,d7,f2,hw⟩:=h2;subst e;have b6:∀ b∈fp,b < s2.heap.objs.size:=fun b B=>by
  obtain ⟨o,e,_⟩:=T.obj _ _ d7 b B;exact O7 e
 obtain ⟨W,⟨m0,w0⟩,turn⟩:=hw s2.heap.objs.size I2.fresh;refine ao (Q99 ?_);dsimp only;have I3:Inv X pins σ (upd H2 s2.heap.objs.size (.lst [])) { s2 with heap:=s2.heap.push { cls:=.type "list",data:=.seq ([]:List aB).toArray } }:=
  I2.lnew (its:=[]) (ys:=[]) (t':=s2.toks) .nil (cc _)
 generalize d2:({ s2 with heap:=s2.heap.push { cls:=.type "list",data:=.seq ([]:List aB).toArray } }:aC)=s3 at I3;have d5:s3.heap=s2.heap.push { cls:=.type "list",data:=.seq ([]:List aB).toArray }:=by rw [<- d2]
 have c3:s3.heap.objs.size=s2.heap.objs.size + 1:=by rw [d5,F5]
 have f3:∀ b∈fp,Q98 X pins (upd H2 s2.heap.objs.size (.lst [])) b:=fun b B=>by
  obtain ⟨g0,g1⟩:=f2 b B;exact ⟨by rw [Qf (E5 (b6 b B))]; exact g0,g1⟩
 have k3:∀ b o,s2.heap.get? b=some o->s3.heap.get? b=some o:=fun b o e=>by rw [d5]; exact O1 _ e
 obtain ⟨a2,a5⟩:∃ a2,ae (s3.heap.objs.size + 1) sc.names cl=a2:=⟨_,rfl⟩;obtain ⟨O,Y⟩:∃ O,pushCells (s3.heap.push { cls:=.type "dict",data:=.dict #[] }) sc.names=O:=⟨_,rfl⟩;have k1:∀ b o,s3.heap.get? b=some o->O.get? b=some o:=fun b o e=>by rw [<- Y]; exact pushCells_keeps _ _ b o (O1 _ e)
 have e6:∀ x c,a2.lookup x=some c->cl.lookup x=some c\/s3.heap.objs.size + 1<=c:=fun x c e=>by
  rw [<- a5] at e;have:=Kp (sc.names) (s3.heap.push { cls:=.type "dict",data:=.dict #[] }) cl x c (by rw [F5]; exact e);rcases this with z | ⟨_,z,_⟩
  ·exact .inl z
  ·rw [F5] at z; exact .inr z
 have I4:Inv (Xy X N' sc a2 s3.heap.objs.size s3 (upd H2 s2.heap.objs.size (.lst [])) fp) [] (Q4r cap σ) (upd H2 s2.heap.objs.size (.lst [])) { s3 with heap:=O }:=by
  rw [<- a5,<- Y];exact Qmx I3 hN hE ck c1 c2 f3 (fun b B=>D1 (b6 b B) (by rw [c3]; exact cS _))
 have c7:tn 0 O:=T.keep _ _ _ d7 fun b B o e=>k1 b o (k3 b o e)
 generalize j:Xy X N' sc a2 s3.heap.objs.size s3 (upd H2 s2.heap.objs.size (.lst [])) fp=U at I4;have b8:U.xe=fun _ _=>False:=by rw [<- j]; rfl
 have G:U.prog=X.prog:=by rw [<- j]; rfl
 have Z:U.w=X.w:=by rw [<- j]; rfl
 have d3:U.K=X.K:=by rw [<- j]; rfl
 have b1:U.A=X.A:=by rw [<- j]; rfl
 have c8:U.calm=true:=by rw [<- j]; exact c4
 have a7:U.env=compEnvC sc a2 s3.heap.objs.size X.env:=by rw [<- j]; rfl
 have a6:U.env.locals=s3.heap.objs.size:=by rw [a7]; rfl
 have e5:PG U tg g:=by rw [<- j]; exact hg _ _ _ _ _
 have f1:PE U elt te:=by rw [<- j]; exact he _ _ _ _ _
 have d6:PTs U ifs tt:=by rw [<- j]; exact f0 _ _ _ _ _
 have b0:∀ {H':Hp},(∀ b∈fp,H' b=none)->∀ b∈fp,Q98 U [] H' b:=fun {H'} hn b B=>by
  obtain ⟨_,g1,g2,g3,g4,g5⟩:=f3 b B;refine ⟨hn b B,by rw [a6,c3]; exact E5 (cX (b6 b B)),?_,?_,?_,fun p hp=>?_⟩
  ·rw [<- j];intro z;rcases E7.mp (I3.stkSub b z) with e | z
   ·exact g1 e
   ·exact g2 z
  ·left
   rw [<- j];exact B
  ·intro x c e;rw [a7] at e;rcases e6 x c e with z | z
   ·exact g4 x c (c1 x c z)
   ·exact fun q=>absurd (D1 (b6 b B) (F0 (F0 (cS _) (c3 ▸ cS _)) (q ▸ z))) (bq _)
  ·rw [<- j] at hp;cases hp
 have c9:∀ {a3:St} {H':Hp} {s':aC},Inv U [] a3 H' s'->Q (.ref s2.heap.objs.size) H'->compPost (aJ X.prog X.w) X.A X.xe use QQ (.ref s2.heap.objs.size) s3.heap.objs.size (.ok .next) s':=fun {a3 H' s'} J q=>by
  obtain ⟨mm,d4,_⟩:=J.loc;rw [a6] at d4;have c5:H' s3.heap.objs.size=none:=by have:=J.free; rw [a6] at this; exact this
  have hok:=J.hok;rw [G,Z] at hok;have u1:Un (frs X.stack) fp (upd H2 s2.heap.objs.size (.lst [])) H' s3.heap s'.heap:=by
   have:=J.base;rw [<- j] at this;exact this
  have d9:s'.os=s3.os:=by have:=J.os; rw [<- j] at this; exact this
  refine fin _ _ H' s' mm (I3.call' (s':=s') d9 u1 hok J.bare fun b B=>?_) d4 (I3.fpOk (O8 _) c5) q
  obtain ⟨_,g1,g2,g3,g4,g5⟩:=f3 b B;exact ⟨g3,g1,g4,g5⟩
 have a4:codeAny (aJ X.prog X.w) X.A (.compLoop (.ListComp elt [⟨tg,iter,ifs,0⟩] sc pos) 0 (.ref it) (.ref s2.heap.objs.size) U.env)
   (compPost (aJ X.prog X.w) X.A X.xe use QQ (.ref s2.heap.objs.size) s3.heap.objs.size) { s3 with heap:=O }:=by
  refine Qab (fun n s'=>∃ i ys a3 H',Inv U [] a3 H' s'/\tn i s'.heap/\(∀ b∈fp,H' b=none)/\W i n ys a3 H') ?_ m0 ⟨0,[],_,_,I4,c7,fun b B=>(f3 b B).1,w0⟩
  rintro n s5 ⟨i,ys,b5,H5,I5,d1,c6,w5⟩;obtain ⟨f5,q⟩:=turn i n ys b5 H5 w5;rcases q with ⟨stop,q⟩ | ⟨go,f4,step⟩
  ·refine thn (b1 ▸ T.done U G Z d3 c8 i [] s5 b5 H5 _ I5 (b0 c6) d1 stop) fun r s6 ⟨hr,I6⟩=>?_
   subst hr;exact c9 I6 q
  ·refine thn (b1 ▸ T.item U G Z d3 c8 i [] s5 b5 H5 _ I5 (b0 c6) d1 go) fun r s6 ⟨u,hr,h6⟩=>?_
   subst hr;refine thn h6 fun _ s7 ⟨x,H7,I7,r7,y7,b2,e7⟩=>?_
   have d8:=I7.pinned (b0 e7) (T.obj _ _ b2);have g7:=e5 _ s7 b5 H7 x u _ d8 r7 (step x H7 y7);rw [G,Z,b1,b8] at g7;refine thn g7 fun _ s8 ⟨a8,H8,I8,q8⟩=>?_
   have t8:=d6 _ s8 a8 H8 _ I8 q8;rw [G,Z,b1,b8] at t8;refine thn t8 fun e4 e8 ⟨e9,b4,b3⟩=>?_
   cases e4 with
   | false=>
    rw [bL D8] at b3 ⊢;obtain ⟨m',b9,w9⟩:=b3;refine ⟨m',b9,i + 1,_,a8,_,b4.unpinned,T.keep _ _ _ b2 fun b B o eo=>(b4.pin (b,o) (E8 _ (E8 _ (qp B eo)))).1,fun b B=>?_,w9⟩;obtain ⟨o,eo,d⟩:=T.obj _ _ b2 b B;exact (b4.pin (b,o) (E8 _ (E8 _ (qp B eo)))).2.1
   | true=>
   rw [bK rfl] at b3 ⊢;have g8:=f1 _ e8 a8 e9 _ b4 b3;rw [G,Z,b1,b8] at g8;refine thn g8 fun y s9 ⟨yv,H9,I9,r9,a9,m',b9,w9⟩=>?_
   obtain ⟨z,its,nn,rr,hl,e⟩:=I9.lstM a9;refine au F.slot_list_append ⟨_,e,rfl⟩ F.entry_list_append (F.args_list_append_2 _ _) (fo _ its.toArray nn y (by rw [O3]; omega)) ⟨e,?_⟩;have c0:Inv U ([] ++ Q7p fp s7.heap) a8 (upd H9 s2.heap.objs.size (.lst (ys ++ [yv]))) { s9 with heap:=s9.heap.update s2.heap.objs.size (cp fun a=>a.push y) }:=
    I9.lset (t':=s9.toks) (its':=its ++ [y]) a9 e (by simp) (rr.append (.cons r9 .nil)) (by rw [O9,eX]; omega)
   refine ⟨m',b9,i + 1,_,a8,_,c0.unpinned,T.keep _ _ _ b2 fun b B o eo=>(c0.pin (b,o) (E8 _ (E8 _ (qp B eo)))).1,fun b B=>?_,w9⟩;obtain ⟨o,eo,d⟩:=T.obj _ _ b2 b B;exact (c0.pin (b,o) (E8 _ (E8 _ (qp B eo)))).2.1
 rw [a7] at a4;have b7:=codeAny_compStart_list (rest:=[]) (ifs:=ifs) a4 (T.self X.A 0 _ _ _ c7 a4);subst d2;rw [<- a5,<- Y] at b7;exact b7
theorem Qk5 {elt tg iter:aD} {ifs:List aD} {O:TT} {pos:Pos} {N N':List Str} {sc scE:Scope} {cap:List (Option Nat)} {J:TI} {g:TG} {te:TE} (j:X.calm=true) (hi:PI X tg iter J)
  (hg:∀ cl C s0 H0 ex,PG (Xy X N' sc cl C s0 H0 ex) tg g) (U:∀ cl C s0 H0 ex,PE (Xy X N' sc cl C s0 H0 ex) elt te) (G:∀ cl C s0 H0 ex,PTs (Xy X N' sc cl C s0 H0 ex) ifs O)
  (Y:X.N=N:=by rfl) (hE:X.env.scope=scE:=by rfl) (hc:compOkC N N' sc scE cap=true:=by decide +kernel) (hs:∀ x,az iter X.env x=pure x:=by intro _; rfl) :
  PE X (.ListComp elt [⟨tg,iter,ifs,0⟩] sc pos) (Qbh cap J g O te):=by
 intro pins s σ H Q I h;rw [eval_ListComp];refine Q90 (use:=none) j hi hg U G Y hE hc hs I h fun z C H' s' m I' hm hf q=>⟨m,hm,fun h' B=>?_⟩
 obtain ⟨f0,f1,f2,f3,Z,f5⟩:=hf;exact ⟨.ref z,H',I'.turned (t':=s'.toks) (fun b o hb e=>(B.2 b hb).trans e) f0 f1 f3 Z f5,rfl,q⟩
theorem Qjv {ifs:List aD} {tt:TT} {i:Nat} {x:Str} {O j:Pos} {elt tg iter:aD} {pos:Pos} {N N':List Str} {sc scE:Scope} {cap:List (Option Nat)} {wi:TI} {g:TG} {te:TE} (a3:X.N.Nodup) (U:X.N[i]?=some x) (hx:Loc X.env.scope x) (B:X.calm=true) (hi:PI X tg iter wi)
  (hg:∀ cl C s0 H0 ex,PG (Xy X N' sc cl C s0 H0 ex) tg g) (he:∀ cl C s0 H0 ex,PE (Xy X N' sc cl C s0 H0 ex) elt te) (a4:∀ cl C s0 H0 ex,PTs (Xy X N' sc cl C s0 H0 ex) ifs tt)
  (Y:swapsWith (.ListComp elt [⟨tg,iter,ifs,0⟩] sc pos) (some (.Name x O)) j.line X.env=pure true:=by rfl)
  (hN:X.N=N:=by rfl) (hE:X.env.scope=scE:=by rfl) (hc:compOkC N N' sc scE cap=true:=by decide +kernel) (hs:∀ x,az iter X.env x=pure x:=by intro _; rfl)
  (hf:X.fn x=true\/X.env.scope.names.lookup x=some .local:=by first | exact .inl rfl | exact .inr rfl | assumption) :
  PS X (.Assign [.Name x O] (.ListComp elt [⟨tg,iter,ifs,0⟩] sc pos) j) (Qs0 (Qbh cap wi g tt te) (Qe1 i)):=by
 intro pins s σ H D I h;rw [exec_Assign_Name_used _ _ _ _ Y];refine aF (wpAny_standAt (aF ?_));show aI _ _ (do let _ <- comprehension (.ListComp elt [⟨tg,iter,ifs,0⟩] sc pos) sc X.env _ (newList []) false (aL iter X.env) (some (assign (.Name x O) X.env))) _ _ s;refine aF (ad (Q90 (use:=some (assign (.Name x O) X.env)) (QQ:=fun _ s'=>SP X pins D .next s') B hi hg he a4 hN hE hc hs I h ?_) (fun _ s' hq=>aS (aS hq)) fun _ _ e=>e)
 intro J C H' s' m I' hm Z q;obtain ⟨f0,f1,f2,f3,f4,f5⟩:=Z;show aI _ _ (assign (.Name x O) X.env (.ref J)) _ _ _;refine wpAny_assign_Name (Qad I' a3 U hx (v:=.ref J) rfl (fun s2 I2 ⟨a,sb,G⟩=>⟨m,?_,fun h' a2=>?_⟩) hf)
 ·refine hm.sameBut sb fun z=>?_
  rcases G with G | G
  ·exact f1 (z.trans G)
  ·exact f4 x a G z.symm
 ·exact ⟨_,H',I2.turned (t':=s2.toks) (fun b o hb e=>(a2.2 b hb).trans e) f0 f1 f3 f4 f5,q⟩
end
section
variable {X:Cx} {e e3:aD} {te t3:TE} {pos p2:Pos}
end
section
variable {X:Cx} {a:aD} {ta:TA} {p p' pos pos':Pos}
end
section
variable {X:Cx}
end
section
variable {κ:Type} [DecidableEq κ]
def zq (kvs:List (κ × V)) (k:κ):Option V:=(kvs.find? fun kv=>decide (kv.1=k)).map (·.2)
def Q9q (kvs:List (κ × V)) (k:κ) (v:V):List (κ × V):=
 if (kvs.any fun kv=>decide (kv.1=k))=true then kvs.map (fun kv=>if kv.1=k then (kv.1,v) else kv) else kvs ++ [(k,v)]
theorem Qck {p:κ × V} {r:List (κ × V)} {k:κ} (e:p.1=k):zq (p :: r) k=some p.2:=by simp [zq,cO,e]
theorem Qcm {p:κ × V} {r:List (κ × V)} {k:κ} (e:¬ p.1=k):zq (p :: r) k=zq r k:=by simp [zq,cO,e]
theorem Qds (kvs:List (κ × V)) (k:κ) (v:V):(Q9q kvs k v).length<=kvs.length + 1:=by
 unfold Q9q
 split
 ·rw [O2]; omega
 ·rw [O9,D4,cK]; omega
theorem KV.val {kvs:List (κ × V)} {vs:List (κ × aB)} (r:KV kvs vs) (k:κ):RelO (zq kvs k) (bC vs k):=by
 unfold KV at r
 induction r with
 | nil=>exact True.intro
 | @cons p q ps B h t G=>
  obtain ⟨h1,h2⟩:=h
  by_cases e:p.1=k
  ·have j:q.1=k:=h1.symm.trans e;have b:bC (q :: B) k=some q.2:=by simp [bC,cO,j]
   rw [Qck e,b]; exact h2
  ·have j:¬ q.1=k:=fun z=>e (h1.trans z)
   have b:bC (q :: B) k=bC B k:=by simp [bC,cO,j]
   rw [Qcm e,b]; exact G
theorem KV.any {kvs:List (κ × V)} {vs:List (κ × aB)} (r:KV kvs vs) (k:κ):(kvs.any fun j=>decide (j.1=k))=vs.any fun j=>decide (j.1=k):=by
 unfold KV at r
 induction r with
 | nil=>rfl
 | cons h t q=>rw [dc,dc,q,h.1]
theorem KV.repl {kvs:List (κ × V)} {vs:List (κ × aB)} (r:KV kvs vs) (k:κ) {y:V} {u:aB} (B:RelV y u) :
  KV (kvs.map fun j=>if j.1=k then (j.1,y) else j) (vs.map fun j=>if j.1=k then (j.1,u) else j):=by
 unfold KV at r ⊢
 induction r with
 | nil=>exact .nil
 | @cons p q ps I h t G=>
  rw [F4,F4];refine .cons ?_ G;obtain ⟨h1,h2⟩:=h
  by_cases e:p.1=k
  ·rw [bK e,bK (h1.symm.trans e)]; exact ⟨h1,B⟩
  ·rw [bL e,bL (fun z=>e (h1.trans z))]; exact ⟨h1,h2⟩
theorem KV.put {kvs:List (κ × V)} {vs:List (κ × aB)} (r:KV kvs vs) (k:κ) {y:V} {u:aB} (j:RelV y u):KV (Q9q kvs k y) (stored vs k u):=by
 unfold Q9q stored;rw [r.any k]
 by_cases e:(vs.any fun q=>decide (q.1=k))=true
 ·rw [bK e,bK e]; exact r.repl k j
 ·rw [bL e,bL e]; exact Paired.snoc r ⟨rfl,j⟩
end
theorem Qkx {P:aN} {w:aK} {k:Key} {u:aB} (r:RelV (kV k) u):(J7 P w).is k u=true:=by
 cases k with
 | inl i=>obtain ⟨t,e⟩:=(show ∃ t,u=cb i t from r); subst e; exact Qdi P w i t
 | inr x=>obtain ⟨t,e⟩:=(show ∃ t,u=cy x t from r); subst e; exact Qdh P w x t
theorem Qax {P:aN} {w:aK}:∀ {ks:List Key} {us:List aB},Vals (ks.map kV) us->ItemsAre (J7 P w) ks us
 | [],_,r=>by rw [cg] at r; cases r; exact .nil
 | k :: ks,_,r=>by
  rw [F4] at r;cases r with
  | cons h t=>exact .cons (Qkx h) (Qax t)
abbrev KT (H:Hp):List (List Key × V)->List (List Key × aA × aB)->Prop:=aq fun p q=>p.1=q.1/\H q.2.1=some (.tup (p.1.map kV))/\RelV p.2 q.2.2
theorem KT.val {H:Hp} {kvs:List (List Key × V)} {xs:List (List Key × aA × aB)} (r:KT H kvs xs) (k:List Key):RelO (zq kvs k) ((atKey xs k).map (·.2)):=by
 induction r with
 | nil=>exact True.intro
 | @cons p q ps B h t G=>
  obtain ⟨h1,_,h2⟩:=h
  by_cases e:p.1=k
  ·have j:q.1=k:=h1.symm.trans e;have b:atKey (q :: B) k=some q.2:=by simp [atKey,cO,j]
   rw [Qck e,b]; exact h2
  ·have j:¬ q.1=k:=fun z=>e (h1.trans z)
   have b:atKey (q :: B) k=atKey B k:=by simp [atKey,cO,j]
   rw [Qcm e,b]; exact G
section
variable {P:aN} {w:aK} {H:Hp} {h:Heap} {a:aA}
theorem Qr5 {u:HO} (ok:HOk P w H h) (e:Rd H a u):ObjOk P w H h a u:=e.ok ok
theorem Qm9 {kvs:List (Key × V)} (ok:HOk P w H h) (e:Rd H a (.dK kvs)):kvs.length<=sizeLine/\(a == af)=false/\∃ vs,KV kvs vs/\h.DictOf (J7 P w) a vs:=
 show ObjOk P w H h a (.dK kvs) from Qr5 ok e
theorem Qww {kvs:List (Key × V)} (ok:HOk P w H h) (e:H a=some (.dK kvs)):kvs.length<=sizeLine/\(a == af)=false/\∃ vs,KV kvs vs/\h.DictOf (J7 P w) a vs:=Qm9 ok (.inl e)
theorem Qkv {ks:List Key} (ok:HOk P w H h) (e:H a=some (.tup (ks.map kV))):(tupleKind (J7 P w)).is h ks a:=by
 obtain ⟨_,its,r,o,h1,h2,n,j⟩:=(show ObjOk P w H h a (.tup (ks.map kV)) from ok a _ e);exact ⟨o,its.toArray,n,h1,h2,j,by simpa using Qax r⟩
theorem Qri {kvs:List (List Key × V)} (ok:HOk P w H h) (e:Rd H a (.dT kvs)):kvs.length<=sizeLine/\(a == af)=false /\
  ∃ xs,KT H kvs xs/\h.DictOfH (tupleKind (J7 P w)) a xs:=by
 obtain ⟨z,y,xs,r,o,es,U,h1,h2,G,J,I⟩:=(show ObjOk P w H h a (.dT kvs) from Qr5 ok e);refine ⟨z,y,xs,r,o,es,U,h1,h2,G,J,fun x j=>?_,I⟩;have all:∀ {l:List (List Key × V)} {m:List (List Key × aA × aB)},KT H l m->∀ x∈m,(tupleKind (J7 P w)).is h x.1 x.2.1:=by
  intro l m q
  induction q with
  | nil=>intro x j; exact nomatch j
  | @cons p q ps Y B t O=>
   intro x j;rcases E7.mp j with e | j
   ·subst e;exact Qkv ok (by rw [<- B.1]; exact B.2.1)
   ·exact O x j
 exact all r x j
end
def DGet (H:Hp) (a:aA) (y:V) (r:Option V):Prop:=
 (∃ kvs k,Rd H a (.dK kvs)/\y=kV k/\r=zq kvs k)\/∃ kvs k b,Rd H a (.dT kvs)/\y=.ref b/\H b=some (.tup (k.map kV))/\r=zq kvs k
theorem DGet.k {H:Hp} {a:aA} {kvs:List (Key × V)} {k:Key} (e:H a=some (.dK kvs)):DGet H a (kV k) (zq kvs k):=.inl ⟨kvs,k,.inl e,rfl,rfl⟩
section
variable {X:Cx} {pins:List (aA × Obj)} {σ:St} {H:Hp} {s:aC} {a:aA} {y v:V} {u r:aB} {o:Option V} {A:aR} {E:aB->aC->Prop}
theorem Inv.big (I:Inv X pins σ H s):af < s.heap.objs.size:=by
 have h:aQ < s.heap.objs.size:=(I.mod.glob.keeps I.bk).lt;exact Nat.lt_trans (by decide) h
theorem Qid {Q:aB->aC->Prop} (Z:A.units + 1 < ac) (I:Inv X pins σ H s) (g:DGet H a y (some v)) (U:RelV y u) (h:∀ B s',Inv X pins σ H s'->RelV v B->Q B s') :
  aI (aJ X.prog X.w) A (getItem (.ref a) u) Q E s:=by
 rcases g with ⟨kvs,k,e,O,l⟩ | ⟨kvs,k,b,e,O,Y,l⟩
 ·subst O;obtain ⟨z,hd,vs,q,dd⟩:=Qm9 I.hok e;obtain ⟨B,J,j⟩:=RelO.some_of (v:=v) (o:=bC vs k) (by rw [l]; exact q.val k);exact wpAny_getItem_of (Qkx U) dd.mapOf J (h B _ (I.tok _) j)
 ·subst O;cases (show u=bX b from U);obtain ⟨z,hd,xs,q,dd⟩:=Qri I.hok e;obtain ⟨B,J,j⟩:=RelO.some_of (v:=v) (o:=(atKey xs k).map (·.2)) (by rw [l]; exact q.val k);obtain ⟨p,hp,G⟩:=Option.map_eq_some_iff.mp J;refine wpAny_getItem_heap (tupleKind_room_in1 Z) (Qkv I.hok Y) dd hp ?_;rw [G];exact h B _ (I.tok _) j
theorem Qqq {h':Heap} {t':Nat} {ob:HO} (I:Inv X pins σ H s) (B:Mut (H a)) (hs:Heap.SameBut a s.heap h') (j:∃ q,h'.get? a=some q) (new:ObjOk X.prog X.w (upd H a ob) h' a ob) :
  Inv X pins σ (upd H a ob) { s with heap:=h',toks:=t' }:=
 I.write (x:=a) (e:=a) B (.inl rfl) (fun b q G z=>(hs.2 b G).trans z) j new
theorem Qtw {P:aN} {w:aK} {H':Hp} {h':Heap} {kvs:List (Key × V)} {vs:List (Key × aB)} (z:kvs.length<=sizeLine) (hd:(a == af)=false) (j:KV kvs vs) (dd:h'.DictOf (J7 P w) a vs) :
  ObjOk P w H' h' a (.dK kvs):=⟨z,hd,vs,j,dd⟩
end
section
variable {X:Cx} {pins:List (aA × Obj)} {σ:St} {H:Hp} {s:aC} {a:aA} {kvs:List (Key × V)} {k:Key} {u:aB} {A:aR} {E:aB->aC->Prop}
end
def Qr0 (i:aD):Prop:=∀ ov iv,subscripted i false ov iv=operate [ov,iv] (getItem ov iv)
theorem Qne {prog:aN} {w:aK} {A:aR} {E:aB->aC->Prop} {s:aC} {env:Env} {value j:aD} {pos:Pos} {T id:String} {Q:aB->aC->Prop}
  (U:typeLookup (.type T) "__getitem__" = pure (some (.builtin id))) (hs:Qr0 j)
  (h:aI (aJ prog w) A (aL value env) (fun o B=>aI (aJ prog w) A (aL j env) (fun i q=>q.TypeIs o T/\aI (aJ prog w) A (getItem o i) Q E q) E B) E s) :
  aI (aJ prog w) A (aL (.Subscript value j pos) env) Q E s:=by
 refine Subscript_ (ad h (fun o B I=>ad I (fun i q z=>?_) fun _ _ x=>x) fun _ _ x=>x)
 obtain ⟨O,z⟩:=z;unfold subscriptTail;refine aF ?_;rw [getitemInPython_of_ne O.not_modules];refine aF (wpAny_specialOf O U ?_);have fin:aI (aJ prog w) A (subscripted j false o i) (fun r G=>aI (aJ prog w) A (letTemporaryGo value o r >>= fun _=>pure r) Q E G) E q:=by
  rw [hs o i];exact wpAny_operating (ad z (fun r G J=>aF (wpAny_letTemporaryGo (aS J))) fun _ _ x=>x)
 first
  | exact aS (aF fin)
  | exact aF (aS (aF fin))
  | exact aF fin
theorem Qe3 {X:Cx} {pins:List (aA × Obj)} {σ:St} {H:Hp} {s:aC} {a:aA} {y:V} {o:Option V} (I:Inv X pins σ H s) (g:DGet H a y o):s.TypeIs (.ref a) "dict" := by
 rcases g with ⟨kvs,k,e,_,_⟩ | ⟨kvs,k,b,e,_,_,_⟩
 ·obtain ⟨_,_,vs,_,dd⟩:=Qm9 I.hok e;exact dd.typeIs
 ·obtain ⟨_,_,xs,_,dd⟩:=Qri I.hok e;exact dd.typeIs
def Qv2 (td ty:TE):TE:=fun σ H Q=>td σ H fun x H1=>ty σ H1 fun y H2=>∃ a v,x=.ref a/\DGet H2 a y (some v)/\Q v H2
section
variable {X:Cx} {o i e value:aD} {pos pos' tpos:Pos} {td ty tv:TE}
theorem Qg1 (G:X.A.units + 1 < ac) (z:PE X o td) (hi:PE X i ty) (hs:Qr0 i):PE X (.Subscript o i pos) (Qv2 td ty):=by
 intro pins s σ H Q I h;refine Qne PySem.F.slot_dict_getitem.lookup hs (thn (z pins s σ H _ I h) fun u s1 ⟨x,H1,U,B,q1⟩=>thn (hi pins s1 σ H1 _ U q1) fun Z s2 ⟨y,H2,q,O,a,v,ex,g,q2⟩=>?_)
 subst ex;obtain rfl:u=bX a:=B;exact ⟨Qe3 q g,Qid G q g O fun Y s3 J j=>⟨v,H2,J,j,q2⟩⟩
end
theorem Qma {P:aN} {w:aK} {H:Hp} (h:Heap) (j:af < h.objs.size):ObjOk P w H (h.push { cls:=.type "dict",data:=.dict #[] }) h.objs.size (.dK []):=
 ⟨cc _,beq_eq_false_iff_ne.mpr (Ne.symm (E5 j)),[],.nil,Heap.DictOf.new h⟩
section
variable {X:Cx} {pos:Pos}
end
def Qei:List (TE × TE)->St->Hp->(List (V × V)->Hp->Prop)->Prop
 | [],_,H,Q=>Q [] H
 | (tk,tv) :: r,σ,H,Q=>tk σ H fun x H1=>tv σ H1 fun y H2=>Qei r σ H2 fun ps H3=>Q ((x,y) :: ps) H3
abbrev VV:List (V × V)->List (aB × aB)->Prop:=aq fun p q=>RelV p.1 q.1/\RelV p.2 q.2
def PPs (X:Cx) (pos:Pos) (keys:List (Option aD)) (values:List aD) (trs:List (TE × TE)):Prop:=
 ∀ (pins:List (aA × Obj)) (s:aC) (σ:St) (H:Hp) (Q:List (V × V)->Hp->Prop),Inv X pins σ H s->Qei trs σ H Q ->
  aI (aJ X.prog X.w) X.A (evalPairs (pairTrees keys values X.env pos)) (fun vs s'=>∃ ps H',Inv X pins σ H' s'/\VV ps vs/\Q ps H') X.xe s
theorem Qfz {X:Cx} {pos:Pos}:PPs X pos [] [] []:=fun pins s σ H Q I h=>pairTrees_nil_walk ⟨[],H,I,.nil,h⟩
theorem xx {X:Cx} {pos:Pos} {k v:aD} {ks:List (Option aD)} {vs:List aD} {tk tv:TE} {j:List (TE × TE)} (O:PE X k tk) (z:PE X v tv) (J:PPs X pos ks vs j) :
  PPs X pos (some k :: ks) (v :: vs) ((tk,tv) :: j):=fun pins s σ H Q I h=>
 pairTrees_cons_walk (thn (O pins s σ H _ I h) fun u s1 ⟨x,H1,I1,U,q1⟩=>thn (z pins s1 σ H1 _ I1 q1) fun w2 s2 ⟨y,H2,G,Z,q2⟩=>
  thn (J pins s2 σ H2 _ G q2) fun ws s3 ⟨ps,B,Y,q,q3⟩=>⟨(x,y) :: ps,B,Y,.cons ⟨U,Z⟩ q,q3⟩)
def Q0r (kvs more:List (Key × V)):List (Key × V):=more.foldl (fun acc kv=>Q9q acc kv.1 kv.2) kvs
theorem KV.merge:∀ {more:List (Key × V)} {j:List (Key × aB)} {kvs:List (Key × V)} {vs:List (Key × aB)},KV more j->KV kvs vs->KV (Q0r kvs more) (merged vs j):=by
 intro more j kvs vs r;unfold KV at r
 induction r generalizing kvs vs with
 | nil=>intro q; exact q
 | @cons p q ps G h t B=>
  intro z;have e:KV (Q9q kvs p.1 p.2) (stored vs q.1 q.2):=by
   have:=z.put p.1 h.2;rw [<- h.1]; exact this
  exact B e
theorem Q3f:∀ (more kvs:List (Key × V)),(Q0r kvs more).length<=kvs.length + more.length
 | [],kvs=>by show kvs.length<=kvs.length + 0; omega
 | p :: r,kvs=>by
  have h1:=Q3f r (Q9q kvs p.1 p.2);have h2:=Qds kvs p.1 p.2;show (Q0r (Q9q kvs p.1 p.2) r).length<=_;rw [D4]; omega
theorem Q92 {P:aN} {w:aK}:∀ {kvs:List (Key × V)} {B:List (aB × aB)},VV (kvs.map fun z=>(kV z.1,z.2)) B->∃ j,Carries (J7 P w) B j/\KV kvs j
 | [],_,r=>by rw [cg] at r; cases r; exact ⟨[],True.intro,.nil⟩
 | p :: kvs,_,r=>by
  rw [F4] at r;cases r with
  | @cons a b I bs h t=>
   obtain ⟨j,c,q⟩:=Q92 (P:=P) (w:=w) t;obtain ⟨J,G⟩:=b;exact ⟨(p.1,G) :: j,⟨Qkx h.1,rfl,c⟩,.cons ⟨rfl,h.2⟩ q⟩
def Qv1 (trs:List (TE × TE)):TE:=fun σ H Q=>∀ p,H p=none->Qei trs σ (upd H p (.dK [])) fun ps H2=>H2 p=some (.dK [])/\∃ kvs:List (Key × V),ps=kvs.map (fun kv=>(kV kv.1,kv.2))/\kvs.length<=15/\Q (.ref p) (upd H2 p (.dK (Q0r [] kvs)))
theorem Qg0 {X:Cx} {pos:Pos} {j:List (Option aD)} {B:List aD} {G:List (TE × TE)} (h:PPs X pos j B G) (O:j.all (·.isSome)=true) (hl:j.length=B.length) (h0:j≠[])
  (U:j.length<=15):PE X (.Dict j B pos) (Qv1 G):=by
 intro pins s σ H Q I q;have hn:=I.hok.fresh (O8 s.heap.objs.size);have I1:=I.laid (a:=s.heap.objs.size) (o:=.dK []) (h':=s.heap.push { cls:=.type "dict",data:=.dict #[] }) (t':=s.toks) (fun _ _ q=>O1 _ q) (O8 _) (Qma s.heap I.big);refine wpAny_Dict_walk (knd:=J7 X.prog X.w) O hl h0 U (thn (h pins _ σ _ _ I1 (q _ hn)) fun ws s2 ⟨ps,H2,Z,Y,e,kvs,ep,lk,q2⟩=>?_)
 subst ep;obtain ⟨rs,c,rk⟩:=Q92 (P:=X.prog) (w:=X.w) Y;obtain ⟨z,hd,a2,r0,dd⟩:=Qww Z.hok e;cases r0;refine ⟨rs,c,dd,fun h' J hs=>⟨.ref s.heap.objs.size,_,?_,rfl,q2⟩⟩
 have hz:(Q0r [] kvs).length<=sizeLine:=by
  have h1:=Q3f kvs [];rw [cK] at h1;rw [sizeLine_eq]; omega
 have he:∃ q,h'.get? s.heap.objs.size=some q:=let ⟨q,_,_,hq,_⟩:=J; ⟨q,hq⟩;exact Qqq Z (by rw [e]; exact True.intro) hs he (Qtw hz hd (rk.merge .nil) J)
structure M1 (X:Cx) (o:aD) (m:Str) (apos:Pos) (e:aD) (cpos:Pos):Prop where
 base:ai o m X.env (aL o X.env)=aL o X.env
 few:((aU cpos (aO [e] X.env)).all (fun x=>!x.1) && (backToKw cpos (keywordEach [] X.env)).all (fun x=>x.1.isSome)
  && decide (([e]:List aD).length + ([]:List Keyword).length + (if ([]:List Keyword).isEmpty then 0 else 1) < 30))=true
 line:(apos.endLine == cpos.line)=true
 trees:aU cpos (aO [e] X.env)=[(false,aL e X.env)]
structure M2 (X:Cx) (o:aD) (m:Str) (apos:Pos) (e f:aD) (cpos:Pos):Prop where
 base:ai o m X.env (aL o X.env)=aL o X.env
 few:((aU cpos (aO [e,f] X.env)).all (fun x=>!x.1) && (backToKw cpos (keywordEach [] X.env)).all (fun x=>x.1.isSome)
  && decide (([e,f]:List aD).length + ([]:List Keyword).length + (if ([]:List Keyword).isEmpty then 0 else 1) < 30))=true
 line:(apos.endLine == cpos.line)=true
 trees:aU cpos (aO [e,f] X.env)=[(false,aL e X.env),(false,aL f X.env)]
section
variable {X:Cx} {pins:List (aA × Obj)} {σ:St} {H:Hp} {s:aC} {a:aA} {y d:V} {u r:aB} {o:Option V} {A:aR} {E:aB->aC->Prop}
end
section
variable {X:Cx} {o e f:aD} {apos cpos:Pos} {td ty tx:TE}
end
section
variable {X:Cx} {pins:List (aA × Obj)} {σ:St} {H:Hp} {s:aC} {a:aA} {kvs:List (Key × V)} {A:aR} {E:aB->aC->Prop}
end
section
variable {X:Cx} {pins:List (aA × Obj)} {σ:St} {H:Hp} {s:aC} {a:aA} {y:V} {u:aB} {A:aR} {E:aB->aC->Prop}
end
section
variable {X:Cx}
end
section
open AutoSeq1 (wpAny_loadPart')
section
variable {prog:aN} {w:aK} {A:aR} {E:aB->aC->Prop} {s:aC}
end
section
variable {prog:aN} {w:aK} {A:aR} {E:aB->aC->Prop} {s:aC}
end
section
variable {X:Cx} {a:aD} {ta:TA} {p p' pos pos':Pos}
end
end
section
variable {prog:aN} {w:aK} {A:aR} {E:aB->aC->Prop} {s:aC}
end
section
variable {X:Cx} {e e3:aD} {te t3:TE} {pos p2:Pos}
end
section
variable {prog:aN} {w:aK} {K:Type} [DecidableEq K] {knd:KeyKind prog w K} {A:aR} {R:Result->aC->Prop}
end
section
variable {X:Cx} {pins:List (aA × Obj)} {σ:St} {H:Hp} {s:aC} {a:aA} {tg:aD}
end
end L2
namespace L2
open PySem PySem.Spec PyProof.Rows PySem.W
section
variable (r:Nat->Nat)
def rk (p:Array Nat) (i:Nat):Nat:=r (p.getD i 0)
variable {r}
end
end L2
namespace L2
open PySem PySem.Spec PyProof.Rows PySem.W
section
variable {prog:aN} {w:aK} {A:aR} {E:aB->aC->Prop} {s:aC}
end
end L2
namespace L2
open PySem PySem.Spec PyProof.Rows
end L2
namespace L2
open PySem PySem.Spec PyProof.Rows PySem.W
section
variable {prog:aN} {w:aK} {A:aR} {E:aB->aC->Prop} {s:aC}
end
end L2
namespace L2
open PySem PySem.Spec PyProof.Rows
section
variable {X:Cx}
end
section
variable {prog:aN} {w:aK} {A:aR} {E:aB->aC->Prop} {s:aC}
end
end L2
namespace L2
open PySem PySem.Spec PyProof.Rows PySem.W
section
variable {prog:aN} {w:aK} {A:aR} {E:aB->aC->Prop} {s:aC}
end
section
variable {X:Cx}
end
end L2
namespace L2
open PySem PySem.Spec PyProof.Rows
section
variable {prog:aN} {w:aK} {K:Type} [DecidableEq K]
variable {knd:KeyKind prog w K} {L:Bool} {A:aR} {E:aB->aC->Prop} {s:aC} {a:aA}
end
section
variable {prog:aN} {w:aK} {A:aR} {E:aB->aC->Prop} {s:aC}
end
section
variable {prog:aN} {w:aK} {A:aR} {E:aB->aC->Prop} {s:aC}
end
section
variable {prog:aN} {w:aK} {K:Type} [DecidableEq K] {knd:KeyKind prog w K} {A:aR} {R:Result->aC->Prop}
end
section
variable {prog:aN} {w:aK} {A:aR} {E:aB->aC->Prop} {s:aC}
end
section
variable {prog:aN} {w:aK} {A:aR} {E:aB->aC->Prop} {s:aC}
end
section
variable {prog:aN} {w:aK} {A:aR} {E:aB->aC->Prop} {s:aC}
end
def Qyw (a:Int):List Int->List Int
 | []=>[a]
 | b :: r=>if a<=b then a :: b :: r else b :: Qyw a r
section
variable {X:Cx}
end
end L2
namespace L2
open PySem PySem.Spec PyProof.Rows SeqAt
section
variable {prog:aN} {w:aK} {K:Type} [DecidableEq K] {knd:KeyKind prog w K} {A:aR} {E:aB->aC->Prop} {s:aC}
end
section
variable {prog:aN} {w:aK} {K:Type} [DecidableEq K] {knd:KeyKind prog w K} {A:aR} {E:aB->aC->Prop} {s:aC}
end
section
variable {X:Cx}
end
end L2
namespace L2
open PySem PySem.Spec PyProof.Rows SeqAt
section
variable {X:Cx}
end
end L2
namespace Sm
open PySem PySem.Spec L2
section
inductive PV where
 | non | bl (b:Bool) | int (i:Int) | str (x:Str) | tup (xs:List PV) | lst (xs:List PV) | fro (xs:List PV) | ref (i:Nat) | dic
inductive Cell where
 | lst (xs:List PV) | dic (kvs:List (Key × PV)) | dtp (kvs:List (List Key × PV)) | frd (kvs:List (Key × PV))
 | obj (C:aA) (fs:List (Str × PV))
abbrev Q2:=List Cell
structure Exc where
 cls:Str
 fs:Option (Str × PV):=none
inductive Res (α:Type) where
 | ok (a:α) (st:Q2) | exc (x:Exc) (st:Q2) | stuck
abbrev Gam:=List (Option PV)
abbrev ME:=Gam->Q2->Res PV
structure Tk where
 tr:List aA
 hid:List aA
instance:Membership aA Tk:=⟨fun t a=>a∈t.tr\/a∈t.hid⟩
def Tk.nil:Tk:=⟨[],[]⟩
theorem Tk.not_nil (a:aA):a∉Tk.nil:=fun z=>by rcases z with z | z <;> cases z
def Tk.add (t:Tk) (p:aA):Tk:=⟨t.tr ++ [p],t.hid⟩
def Tk.hide (t:Tk) (p:aA):Tk:=⟨t.tr,p :: t.hid⟩
mutual
def Rep (H:Hp) (ρ:Tk):PV->V->Prop
 | .non,v=>v=.non
 | .bl b,v=>v=.bl b
 | .int i,v=>v=.int i
 | .str x,v=>v=.str x
 | .tup ps,v=>∃ a vs,v=.ref a/\H a=some (.tup vs)/\a∉ρ/\RepL H ρ ps vs
 | .lst ps,v=>∃ a vs,v=.ref a/\H a=some (.lst vs)/\a∉ρ/\RepL H ρ ps vs
 | .fro ps,v=>∃ a vs,v=.ref a/\Rd H a (.lst vs)/\a∉ρ/\RepL H ρ ps vs
 | .ref i,v=>∃ a,ρ.tr[i]?=some a/\v=.ref a
 | .dic,v=>∃ a,v=.ref a/\H a=some (.dK [])/\a∉ρ
def RepL (H:Hp) (ρ:Tk):List PV->List V->Prop
 | [],vs=>vs=[]
 | p :: ps,vs=>∃ v r,vs=v :: r/\Rep H ρ p v/\RepL H ρ ps r
end
structure Ext (H:Hp) (ρ:Tk) (H':Hp) (ρ':Tk):Prop where
 pre:ρ.tr <+: ρ'.tr
 hidM:∀ a,a∈ρ.hid->a∈ρ'.hid
 hidN:∀ a,a∈ρ'.hid->a∈ρ.hid\/H a=none
 keep:∀ a o,H a=some o->a∉ρ.tr->H' a=some o
 new:∀ a,a∈ρ'.tr->a∈ρ.tr\/H a=none
 old:∀ a o,H a=some o->∃ o',H' a=some o'
 frz:∀ a o u,H a=some (.frz o u)->H' a=some (.frz o u)
theorem Ext.refl (H:Hp) (ρ:Tk):Ext H ρ H ρ:=⟨cZ _,fun _ h=>h,fun _ h=>.inl h,fun _ _ h _=>h,fun _ h=>.inl h,fun _ o h=>⟨o,h⟩,fun _ _ _ h=>h⟩
theorem Ext.trans {H H1 H2:Hp} {ρ ρ1 j:Tk} (a:Ext H ρ H1 ρ1) (b:Ext H1 ρ1 H2 j):Ext H ρ H2 j where
 pre:=a.pre.trans b.pre
 hidM:=fun x h=>b.hidM x (a.hidM x h)
 hidN:=fun x h=>by
  rcases b.hidN x h with z | z
  ·exact a.hidN x z
  ·right
   cases q:H x with
   | none=>rfl
   | some o=>
    obtain ⟨o',e⟩:=a.old x o q;rw [e] at z; cases z
 keep:=fun x o h n=>b.keep x o (a.keep x o h n) fun z=>by
  rcases a.new x z with z | z
  ·exact n z
  ·rw [h] at z; cases z
 new:=fun x h=>by
  rcases b.new x h with z | z
  ·exact a.new x z
  ·right
   cases q:H x with
   | none=>rfl
   | some o=>
    obtain ⟨o',e⟩:=a.old x o q;rw [e] at z; cases z
 old:=fun x o h=>by
  obtain ⟨o',e⟩:=a.old x o h;exact b.old x o' e
 frz:=fun x o u h=>b.frz x o u (a.frz x o u h)
theorem Ext.add {H:Hp} {ρ:Tk} {p:aA} {o:HO} (h:H p=none):Ext H ρ (upd H p o) ρ where
 pre:=cZ _
 hidM:=fun _ h=>h
 hidN:=fun _ h=>.inl h
 keep:=fun a u e _=>by rw [Qf (Qh e h)]; exact e
 new:=fun a e=>.inl e
 old:=fun a u e=>⟨u,by rw [Qf (Qh e h)]; exact e⟩
 frz:=fun a o u e=>by rw [Qf (Qh e h)]; exact e
theorem Ext.addT {H:Hp} {ρ:Tk} {p:aA} {o:HO} (h:H p=none):Ext H ρ (upd H p o) (ρ.add p) where
 pre:=dG _ _
 hidM:=fun _ h=>h
 hidN:=fun _ h=>.inl h
 keep:=fun a u e _=>by rw [Qf (Qh e h)]; exact e
 new:=fun a e=>by
  rcases F1.mp e with z | z
  ·exact .inl z
  ·right
   have:a=p:=by simpa using z
   rw [this]; exact h
 old:=fun a u e=>⟨u,by rw [Qf (Qh e h)]; exact e⟩
 frz:=fun a o u e=>by rw [Qf (Qh e h)]; exact e
theorem Ext.same {H H':Hp} {ρ:Tk} (h:Same H H'):Ext H ρ H' ρ:=⟨cZ _,fun _ h=>h,fun _ h=>.inl h,fun a o e _=>h a o e,fun _ e=>.inl e,fun a o e=>⟨o,h a o e⟩,fun a o u e=>h a _ e⟩
section
variable {H H':Hp} {ρ ρ':Tk}
theorem Q01 {a:aA} {o:HO} (x:Ext H ρ H' ρ') (h:H a=some o) (n:a∉ρ):a∉ρ':=fun z=>by
 rcases z with z | z
 ·rcases x.new a z with z | z
  ·exact n (.inl z)
  ·rw [h] at z; cases z
 ·rcases x.hidN a z with z | z
  ·exact n (.inr z)
  ·rw [h] at z; cases z
theorem Ext.kp {a:aA} {o:HO} (x:Ext H ρ H' ρ') (h:H a=some o) (n:a∉ρ):H' a=some o:=x.keep a o h fun z=>n (.inl z)
mutual
theorem Rep.ext (x:Ext H ρ H' ρ'):∀ {p:PV} {v:V},Rep H ρ p v->Rep H' ρ' p v
 | .non,_,h=>h
 | .bl _,_,h=>h
 | .int _,_,h=>h
 | .str _,_,h=>h
 | .tup ps,v,h=>by
  obtain ⟨a,vs,e,s,n,r⟩:=h;exact ⟨a,vs,e,x.kp s n,Q01 x s n,RepL.ext x r⟩
 | .lst ps,v,h=>by
  obtain ⟨a,vs,e,s,n,r⟩:=h;exact ⟨a,vs,e,x.kp s n,Q01 x s n,RepL.ext x r⟩
 | .fro ps,v,h=>by
  obtain ⟨a,vs,e,s,n,r⟩:=h;rcases s with s | ⟨o,s⟩
  ·exact ⟨a,vs,e,.inl (x.kp s n),Q01 x s n,RepL.ext x r⟩
  ·exact ⟨a,vs,e,.inr ⟨o,x.kp s n⟩,Q01 x s n,RepL.ext x r⟩
 | .ref i,v,h=>by
  obtain ⟨a,e,rfl⟩:=h;obtain ⟨t,j⟩:=x.pre;refine ⟨a,?_,rfl⟩;rw [<- j,O5 (O0.mp e).1];exact e
 | .dic,v,h=>by
  obtain ⟨a,e,s,n⟩:=h;exact ⟨a,e,x.kp s n,Q01 x s n⟩
theorem RepL.ext (x:Ext H ρ H' ρ'):∀ {ps:List PV} {vs:List V},RepL H ρ ps vs->RepL H' ρ' ps vs
 | [],_,h=>h
 | p :: ps,vs,h=>by
  obtain ⟨v,r,e,h1,h2⟩:=h;exact ⟨v,r,e,Rep.ext x h1,RepL.ext x h2⟩
end
mutual
theorem Rep.hide {a:aA} {o:HO} (h:H a=none):∀ {p:PV} {v:V},Rep H ρ p v->Rep (upd H a o) (ρ.hide a) p v
 | .non,_,r=>r
 | .bl _,_,r=>r
 | .int _,_,r=>r
 | .str _,_,r=>r
 | .tup ps,v,⟨b,vs,e,s,n,r⟩=>⟨b,vs,e,by rw [Qf (Qh s h)]; exact s,fun z=>by
   rcases z with z | z
   ·exact n (.inl z)
   ·rcases E7.mp z with z | z
    ·exact Qh s h z
    ·exact n (.inr z),RepL.hide h r⟩
 | .lst ps,v,⟨b,vs,e,s,n,r⟩=>⟨b,vs,e,by rw [Qf (Qh s h)]; exact s,fun z=>by
   rcases z with z | z
   ·exact n (.inl z)
   ·rcases E7.mp z with z | z
    ·exact Qh s h z
    ·exact n (.inr z),RepL.hide h r⟩
 | .fro ps,v,⟨b,vs,e,s,n,r⟩=>by
   have ne:b≠a:=by
    rcases s with s | ⟨_,s⟩
    ·exact Qh s h
    ·exact Qh s h
   refine ⟨b,vs,e,?_,fun z=>?_,RepL.hide h r⟩
   ·rcases s with s | ⟨u,s⟩
    ·exact .inl (by rw [Qf ne]; exact s)
    ·exact .inr ⟨u,by rw [Qf ne]; exact s⟩
   ·rcases z with z | z
    ·exact n (.inl z)
    ·rcases E7.mp z with z | z
     ·exact ne z
     ·exact n (.inr z)
 | .ref i,v,r=>r
 | .dic,v,⟨b,e,s,n⟩=>⟨b,e,by rw [Qf (Qh s h)]; exact s,fun z=>by
   rcases z with z | z
   ·exact n (.inl z)
   ·rcases E7.mp z with z | z
    ·exact Qh s h z
    ·exact n (.inr z)⟩
theorem RepL.hide {a:aA} {o:HO} (h:H a=none):∀ {ps:List PV} {vs:List V},RepL H ρ ps vs->RepL (upd H a o) (ρ.hide a) ps vs
 | [],_,r=>r
 | p :: ps,_,⟨v,t,e,q,j⟩=>⟨v,t,e,Rep.hide h q,RepL.hide h j⟩
end
mutual
theorem Rep.rehide {a:aA} {o:HO} (h:a∈ρ.hid):∀ {p:PV} {v:V},Rep H ρ p v->Rep (upd H a o) ρ p v
 | .non,_,r=>r
 | .bl _,_,r=>r
 | .int _,_,r=>r
 | .str _,_,r=>r
 | .tup ps,v,⟨b,vs,e,s,n,r⟩=>⟨b,vs,e,by rw [Qf (show b≠a from fun z=>n (.inr (by rw [z]; exact h)))]; exact s,n,RepL.rehide h r⟩
 | .lst ps,v,⟨b,vs,e,s,n,r⟩=>⟨b,vs,e,by rw [Qf (show b≠a from fun z=>n (.inr (by rw [z]; exact h)))]; exact s,n,RepL.rehide h r⟩
 | .fro ps,v,⟨b,vs,e,s,n,r⟩=>by
   have ne:b≠a:=fun z=>n (.inr (by rw [z]; exact h))
   refine ⟨b,vs,e,?_,n,RepL.rehide h r⟩;rcases s with s | ⟨u,s⟩
   ·exact .inl (by rw [Qf ne]; exact s)
   ·exact .inr ⟨u,by rw [Qf ne]; exact s⟩
 | .ref i,v,r=>r
 | .dic,v,⟨b,e,s,n⟩=>⟨b,e,by rw [Qf (show b≠a from fun z=>n (.inr (by rw [z]; exact h)))]; exact s,n⟩
theorem RepL.rehide {a:aA} {o:HO} (h:a∈ρ.hid):∀ {ps:List PV} {vs:List V},RepL H ρ ps vs->RepL (upd H a o) ρ ps vs
 | [],_,r=>r
 | p :: ps,_,⟨v,t,e,q,j⟩=>⟨v,t,e,Rep.rehide h q,RepL.rehide h j⟩
end
mutual
theorem Rep.retr {a:aA} {o:HO} (h:a∈ρ.tr):∀ {p:PV} {v:V},Rep H ρ p v->Rep (upd H a o) ρ p v
 | .non,_,r=>r
 | .bl _,_,r=>r
 | .int _,_,r=>r
 | .str _,_,r=>r
 | .tup ps,v,⟨b,vs,e,s,n,r⟩=>⟨b,vs,e,by rw [Qf (show b≠a from fun z=>n (.inl (by rw [z]; exact h)))]; exact s,n,RepL.retr h r⟩
 | .lst ps,v,⟨b,vs,e,s,n,r⟩=>⟨b,vs,e,by rw [Qf (show b≠a from fun z=>n (.inl (by rw [z]; exact h)))]; exact s,n,RepL.retr h r⟩
 | .fro ps,v,⟨b,vs,e,s,n,r⟩=>by
   have ne:b≠a:=fun z=>n (.inl (by rw [z]; exact h))
   refine ⟨b,vs,e,?_,n,RepL.retr h r⟩;rcases s with s | ⟨u,s⟩
   ·exact .inl (by rw [Qf ne]; exact s)
   ·exact .inr ⟨u,by rw [Qf ne]; exact s⟩
 | .ref i,v,r=>r
 | .dic,v,⟨b,e,s,n⟩=>⟨b,e,by rw [Qf (show b≠a from fun z=>n (.inl (by rw [z]; exact h)))]; exact s,n⟩
theorem RepL.retr {a:aA} {o:HO} (h:a∈ρ.tr):∀ {ps:List PV} {vs:List V},RepL H ρ ps vs->RepL (upd H a o) ρ ps vs
 | [],_,r=>r
 | p :: ps,_,⟨v,t,e,q,j⟩=>⟨v,t,e,Rep.retr h q,RepL.retr h j⟩
end
mutual
theorem Rep.unhide {hs:List aA} (j:∀ a,a∈hs->a∈ρ.hid):∀ {p:PV} {v:V},Rep H ρ p v->Rep H ⟨ρ.tr,hs⟩ p v
 | .non,_,r=>r
 | .bl _,_,r=>r
 | .int _,_,r=>r
 | .str _,_,r=>r
 | .tup ps,v,⟨b,vs,e,s,n,r⟩=>⟨b,vs,e,s,fun z=>n (z.imp id (j _)),RepL.unhide j r⟩
 | .lst ps,v,⟨b,vs,e,s,n,r⟩=>⟨b,vs,e,s,fun z=>n (z.imp id (j _)),RepL.unhide j r⟩
 | .fro ps,v,⟨b,vs,e,s,n,r⟩=>⟨b,vs,e,s,fun z=>n (z.imp id (j _)),RepL.unhide j r⟩
 | .ref i,v,r=>r
 | .dic,v,⟨b,e,s,n⟩=>⟨b,e,s,fun z=>n (z.imp id (j _))⟩
theorem RepL.unhide {hs:List aA} (j:∀ a,a∈hs->a∈ρ.hid):∀ {ps:List PV} {vs:List V},RepL H ρ ps vs->RepL H ⟨ρ.tr,hs⟩ ps vs
 | [],_,r=>r
 | p :: ps,_,⟨v,t,e,z,q⟩=>⟨v,t,e,Rep.unhide j z,RepL.unhide j q⟩
end
theorem RepL.length:∀ {ps:List PV} {vs:List V},RepL H ρ ps vs->ps.length=vs.length
 | [],_,h=>by cases h; rfl
 | p :: ps,_,⟨v,r,rfl,_,h2⟩=>by rw [D4,D4,RepL.length h2]
theorem RepL.get:∀ {ps:List PV} {vs:List V} {i:Nat} {p:PV},RepL H ρ ps vs->ps[i]?=some p->∃ v,vs[i]?=some v/\Rep H ρ p v
 | [],_,_,_,_,e=>by simp at e
 | p :: ps,_,0,q,⟨v,r,rfl,h1,h2⟩,e=>by simp at e; subst e; exact ⟨v,rfl,h1⟩
 | p :: ps,_,i + 1,q,⟨v,r,rfl,h1,h2⟩,e=>by
  obtain ⟨u,e1,e2⟩:=RepL.get (i:=i) h2 (by simpa using e);exact ⟨u,by simpa using e1,e2⟩
theorem RepL.cons {p:PV} {v:V} {ps:List PV} {vs:List V} (h:Rep H ρ p v) (r:RepL H ρ ps vs):RepL H ρ (p :: ps) (v :: vs):=⟨v,vs,rfl,h,r⟩
theorem RepL.nil:RepL H ρ [] []:=rfl
theorem RepL.append:∀ {ps j:List PV} {vs us:List V},RepL H ρ ps vs->RepL H ρ j us->RepL H ρ (ps ++ j) (vs ++ us)
 | [],_,_,_,h,g=>by cases h; exact g
 | p :: ps,_,_,_,⟨v,r,rfl,h1,h2⟩,g=>⟨v,_,rfl,h1,RepL.append h2 g⟩
theorem RepL.take:∀ {ps:List PV} {vs:List V} (n:Nat),RepL H ρ ps vs->RepL H ρ (ps.take n) (vs.take n)
 | _,_,0,_=>rfl
 | [],_,n + 1,h=>by cases h; rfl
 | p :: ps,_,n + 1,⟨v,r,rfl,h1,h2⟩=>⟨v,_,rfl,h1,RepL.take n h2⟩
theorem RepL.drop:∀ {ps:List PV} {vs:List V} (n:Nat),RepL H ρ ps vs->RepL H ρ (ps.drop n) (vs.drop n)
 | _,_,0,h=>h
 | [],_,n + 1,h=>by cases h; rfl
 | p :: ps,_,n + 1,⟨v,r,rfl,h1,h2⟩=>RepL.drop n h2
theorem RepL.set {p:PV} {v:V} (h:Rep H ρ p v):∀ {ps:List PV} {vs:List V} (i:Nat),RepL H ρ ps vs->RepL H ρ (ps.set i p) (vs.set i v)
 | [],_,_,g=>by cases g; rfl
 | q :: ps,_,0,⟨u,r,rfl,h1,h2⟩=>⟨v,r,rfl,h,h2⟩
 | q :: ps,_,i + 1,⟨u,r,rfl,h1,h2⟩=>⟨u,_,rfl,h1,RepL.set h i h2⟩
theorem RepL.rep {ps:List PV} {vs:List V} (h:RepL H ρ ps vs):∀ n,RepL H ρ (bR n ps).flatten (bR n vs).flatten
 | 0=>rfl
 | n + 1=>by rw [cL,cL,cW,cW]; exact h.append (RepL.rep h n)
theorem RepL.toInts:∀ {ns:List Int} {vs:List V},RepL H ρ (ns.map .int) vs->vs=ns.map V.int
 | [],_,h=>h
 | n :: ns,_,⟨v,r,rfl,h1,h2⟩=>by
  have e:v=V.int n:=h1;rw [RepL.toInts h2,e]; rfl
theorem RepL.toBls:∀ {ns:List Bool} {vs:List V},RepL H ρ (ns.map .bl) vs->vs=ns.map V.bl
 | [],_,h=>h
 | n :: ns,_,⟨v,r,rfl,h1,h2⟩=>by
  have e:v=V.bl n:=h1;rw [RepL.toBls h2,e]; rfl
end
def RepD {κ:Type} (H:Hp) (ρ:Tk) (kvs:List (κ × PV)) (vs:List (κ × V)):Prop:=vs.map cw=kvs.map cw/\RepL H ρ (kvs.map fB) (vs.map fB)
theorem RepD.ext {κ:Type} {H H':Hp} {ρ ρ':Tk} {kvs:List (κ × PV)} {vs:List (κ × V)} (x:Ext H ρ H' ρ') (r:RepD H ρ kvs vs):RepD H' ρ' kvs vs:=⟨r.1,r.2.ext x⟩
theorem RepD.length {κ:Type} {H:Hp} {ρ:Tk} {kvs:List (κ × PV)} {vs:List (κ × V)} (r:RepD H ρ kvs vs):kvs.length=vs.length:=by
 have:=congrArg eQ r.1;rw [O2,O2] at this;exact this.symm
def CellR (H:Hp) (ρ:Tk) (a:aA):Cell->Prop
 | .lst ps=>∃ vs,H a=some (.lst vs)/\RepL H ρ ps vs
 | .dic kvs=>∃ vs,H a=some (.dK vs)/\RepD H ρ kvs vs
 | .dtp kvs=>∃ vs,H a=some (.dT vs)/\RepD H ρ kvs vs
 | .frd kvs=>∃ vs,(∃ o,H a=some (.frz o (.dK vs)))/\RepD H ρ kvs vs
 | .obj C fs=>∃ vs,(∃ dx,H a=some (.ins C dx vs))/\RepD H ρ fs vs
theorem CellR.dom {H:Hp} {ρ:Tk} {a:aA}:∀ {c:Cell},CellR H ρ a c->∃ o,H a=some o
 | .lst _,⟨_,e,_⟩=>⟨_,e⟩
 | .dic _,⟨_,e,_⟩=>⟨_,e⟩
 | .dtp _,⟨_,e,_⟩=>⟨_,e⟩
 | .frd _,⟨_,⟨_,e⟩,_⟩=>⟨_,e⟩
 | .obj _ _,⟨_,⟨_,e⟩,_⟩=>⟨_,e⟩
theorem CellR.ext {H H':Hp} {ρ ρ':Tk} {a:aA} (x:Ext H ρ H' ρ') (k:∀ o,H a=some o->H' a=some o):∀ {c:Cell},CellR H ρ a c->CellR H' ρ' a c
 | .lst _,⟨vs,e,r⟩=>⟨vs,k _ e,r.ext x⟩
 | .dic _,⟨vs,e,r⟩=>⟨vs,k _ e,r.ext x⟩
 | .dtp _,⟨vs,e,r⟩=>⟨vs,k _ e,r.ext x⟩
 | .frd _,⟨vs,⟨o,e⟩,r⟩=>⟨vs,⟨o,k _ e⟩,r.ext x⟩
 | .obj _ _,⟨vs,⟨o,e⟩,r⟩=>⟨vs,⟨o,k _ e⟩,r.ext x⟩
structure Rel (H:Hp) (ρ:Tk) (st:Q2):Prop where
 len:ρ.tr.length=st.length
 nd:ρ.tr.Nodup
 hd:∀ a∈ρ.hid,∃ o,H a=some o/\∀ xs,o≠.tup xs
 ap:∀ a∈ρ.hid,a∉ρ.tr
 cell:∀ (i:Nat) (a:aA) (c:Cell),ρ.tr[i]?=some a->st[i]?=some c->CellR H ρ a c
section
variable {H H':Hp} {ρ ρ':Tk} {st st':Q2}
theorem Rel.lst (R:Rel H ρ st) {i:Nat} {ps:List PV} (h:st[i]?=some (.lst ps)):∃ a vs,ρ.tr[i]?=some a/\H a=some (.lst vs)/\RepL H ρ ps vs:=by
 have hi:i < ρ.tr.length:=by rw [R.len]; exact (O0.mp h).1
 have e:ρ.tr[i]?=some ρ.tr[i]:=O4 hi;obtain ⟨vs,e1,e2⟩:=R.cell i _ _ e h;exact ⟨_,vs,e,e1,e2⟩
theorem Rel.dic (R:Rel H ρ st) {i:Nat} {kvs:List (Key × PV)} (h:st[i]?=some (.dic kvs)):∃ a vs,ρ.tr[i]?=some a/\H a=some (.dK vs)/\RepD H ρ kvs vs:=by
 have hi:i < ρ.tr.length:=by rw [R.len]; exact (O0.mp h).1
 have e:ρ.tr[i]?=some ρ.tr[i]:=O4 hi;obtain ⟨vs,e1,e2⟩:=R.cell i _ _ e h;exact ⟨_,vs,e,e1,e2⟩
theorem Rel.frd (R:Rel H ρ st) {i:Nat} {kvs:List (Key × PV)} (h:st[i]?=some (.frd kvs)):∃ a vs o,ρ.tr[i]?=some a/\H a=some (.frz o (.dK vs))/\RepD H ρ kvs vs:=by
 have hi:i < ρ.tr.length:=by rw [R.len]; exact (O0.mp h).1
 have e:ρ.tr[i]?=some ρ.tr[i]:=O4 hi;obtain ⟨vs,⟨o,e1⟩,e2⟩:=R.cell i _ _ e h;exact ⟨_,vs,o,e,e1,e2⟩
theorem Rel.obj (R:Rel H ρ st) {i:Nat} {C:aA} {fs:List (Str × PV)} (h:st[i]?=some (.obj C fs)):∃ a vs dx,ρ.tr[i]?=some a/\H a=some (.ins C dx vs)/\RepD H ρ fs vs:=by
 have hi:i < ρ.tr.length:=by rw [R.len]; exact (O0.mp h).1
 have e:ρ.tr[i]?=some ρ.tr[i]:=O4 hi;obtain ⟨vs,⟨o,e1⟩,e2⟩:=R.cell i _ _ e h;exact ⟨_,vs,o,e,e1,e2⟩
theorem Rel.dom (R:Rel H ρ st) {a:aA} (h:a∈ρ.tr):∃ o,H a=some o:=by
 obtain ⟨i,hi,e⟩:=di h;have hs:i < st.length:=by rw [<- R.len]; exact hi
 have q:=R.cell i a st[i] (by rw [O4 hi,e]) (O4 hs);exact q.dom
theorem Rel.fresh (R:Rel H ρ st) {p:aA} (h:H p=none):p∉ρ:=fun z=>by
 rcases z with z | z
 ·obtain ⟨vs,q⟩:=R.dom z;rw [h] at q; cases q
 ·obtain ⟨o,q,_⟩:=R.hd p z;rw [h] at q; cases q
theorem Rel.later (R:Rel H ρ st) (x:Ext H ρ H' ρ) (k:∀ a o,a∈ρ.tr->H a=some o->H' a=some o):Rel H' ρ st where
 len:=R.len
 nd:=R.nd
 hd:=fun a j=>let ⟨o,e,n⟩:=R.hd a j; ⟨o,x.keep a o e (R.ap a j),n⟩
 ap:=R.ap
 cell:=fun i a c h1 h2=>by
  exact (R.cell i a c h1 h2).ext x fun o e=>k a o (D5 h1) e
end
theorem Rel.add {H:Hp} {ρ:Tk} {st:Q2} (R:Rel H ρ st) {p:aA} {o:HO} (h:H p=none):Rel (upd H p o) ρ st:=
 R.later (Ext.add h) fun a u j e=>by rw [Qf (Qh e h)]; exact e
theorem Rel.same {H H':Hp} {ρ:Tk} {st:Q2} (R:Rel H ρ st) (h:Same H H'):Rel H' ρ st:=R.later (Ext.same h) fun a u _ e=>h a u e
theorem Rel.addC {H:Hp} {ρ:Tk} {st:Q2} (R:Rel H ρ st) {p:aA} {cl:Cell} {o:HO} (h:H p=none) (r:CellR (upd H p o) (ρ.add p) p cl):Rel (upd H p o) (ρ.add p) (st ++ [cl]) where
 len:=by show (ρ.tr ++ [p]).length=_; rw [O9,O9,R.len]; rfl
 nd:=dj.mpr ⟨R.nd,by simp,fun a j b B e=>by
  have:b=p:=by simpa using B
  subst this; subst e;exact R.fresh h (.inl j)⟩
 hd:=fun a j=>let ⟨o,e,n⟩:=R.hd a j; ⟨o,by rw [Qf (Qh e h)]; exact e,n⟩
 ap:=fun a j z=>by
  rcases F1.mp z with z | z
  ·exact R.ap a j z
  ·have:a=p:=by simpa using z
   subst this;exact R.fresh h (.inr j)
 cell:=fun i a c h1 h2=>by
  have h1:(ρ.tr ++ [p])[i]?=some a:=h1
  by_cases hi:i < st.length
  ·rw [O5 (by rw [R.len]; exact hi)] at h1;rw [O5 hi] at h2;exact (R.cell i a c h1 h2).ext (Ext.addT h) fun u e=>by rw [Qf (Qh e h)]; exact e
  ·rw [D2 (by rw [R.len]; omega)] at h1;rw [D2 (by omega)] at h2;have q:i - st.length=0:=by
    rcases fC (i - st.length) with z | z
    ·exact z
    ·rw [F2 (by simp; omega)] at h2; cases h2
   rw [R.len,q] at h1;rw [q] at h2;simp at h1 h2;subst h1; subst h2;exact r
theorem Qat {α:Type} {l:List α} (h:l.Nodup) {i j:Nat} (hi:i < l.length) (q:j < l.length) (e:l[i]=l[j]):i=j:=by
 rcases Nat.lt_trichotomy i j with z | z | z
 ·exact absurd e ((gJ.mp h) i j hi q z)
 ·exact z
 ·exact absurd e.symm ((gJ.mp h) j i q hi z)
theorem Ext.put {H:Hp} {ρ:Tk} {a:aA} {o o':HO} (h:a∈ρ.tr) (e:H a=some o) (j:∀ q u,o≠.frz q u:=by intro _ _ z; cases z):Ext H ρ (upd H a o') ρ where
 pre:=cZ _
 hidM:=fun _ h=>h
 hidN:=fun _ h=>.inl h
 keep:=fun b u q n=>by rw [Qf (show b≠a from fun z=>n (by rw [z]; exact h))]; exact q
 new:=fun b q=>.inl q
 old:=fun b u q=>by
  by_cases z:b=a
  ·exact ⟨o',by rw [z]; exact Je⟩
  ·exact ⟨u,by rw [Qf z]; exact q⟩
 frz:=fun b q u k=>by
  by_cases z:b=a
  ·rw [z,e] at k; cases k; exact absurd rfl (j _ _)
  ·rw [Qf z]; exact k
theorem Rel.putC {H:Hp} {ρ:Tk} {st:Q2} (R:Rel H ρ st) {i:Nat} {a:aA} {cl:Cell} {o o':HO} (hi:ρ.tr[i]?=some a) (e:H a=some o) (r:CellR (upd H a o') ρ a cl):Rel (upd H a o') ρ (st.set i cl) where
 len:=by rw [D7]; exact R.len
 nd:=R.nd
 hd:=fun b B=>let ⟨u,q,n⟩:=R.hd b B; ⟨u,by rw [Qf (show b≠a from fun z=>R.ap b B (by rw [z]; exact D5 hi))]; exact q,n⟩
 ap:=R.ap
 cell:=fun j b c h1 h2=>by
  by_cases I:i=j
  ·subst I;rw [hi] at h1; cases h1;rw [E3 (by rw [<- R.len]; exact (O0.mp hi).1)] at h2;cases h2;exact r
  ·rw [O6 I] at h2;have q:=R.cell j b c h1 h2;have B:b≠a:=fun z=>by
    subst z;have O:=(O0.mp hi);have U:=(O0.mp h1);exact I (Qat R.nd O.1 U.1 (O.2.trans U.2.symm))
   have G:=D5 hi;cases c with
   | lst ps=>
    obtain ⟨vs,e1,e2⟩:=q;exact ⟨vs,by rw [Qf B]; exact e1,e2.retr G⟩
   | dic ps=>
    obtain ⟨vs,e1,e2⟩:=q;exact ⟨vs,by rw [Qf B]; exact e1,e2.1,e2.2.retr G⟩
   | dtp ps=>
    obtain ⟨vs,e1,e2⟩:=q;exact ⟨vs,by rw [Qf B]; exact e1,e2.1,e2.2.retr G⟩
   | frd ps=>
    obtain ⟨vs,⟨J,e1⟩,e2⟩:=q;exact ⟨vs,⟨J,by rw [Qf B]; exact e1⟩,e2.1,e2.2.retr G⟩
   | obj C ps=>
    obtain ⟨vs,⟨J,e1⟩,e2⟩:=q;exact ⟨vs,⟨J,by rw [Qf B]; exact e1⟩,e2.1,e2.2.retr G⟩
theorem Rel.put {H:Hp} {ρ:Tk} {st:Q2} (R:Rel H ρ st) {i:Nat} {a:aA} {ps:List PV} {vs:List V} {o:HO} (hi:ρ.tr[i]?=some a) (e:H a=some o) (r:RepL H ρ ps vs):Rel (upd H a (.lst vs)) ρ (st.set i (.lst ps)):=
 R.putC hi e ⟨vs,Je,r.retr (D5 hi)⟩
theorem Rel.hide {H:Hp} {ρ:Tk} {st:Q2} (R:Rel H ρ st) {p:aA} {o:HO} (h:H p=none) (I:∀ xs,o≠.tup xs:=by intro _ z; cases z):Rel (upd H p o) (ρ.hide p) st:=by
 have x:Ext H ρ (upd H p o) ρ:=Ext.add h;have B:=R.add (p:=p) (o:=o) h;refine ⟨B.len,B.nd,fun a j=>?_,fun a j z=>?_,fun i a c h1 h2=>?_⟩
 ·rcases E7.mp j with rfl | j
  ·exact ⟨o,Je,I⟩
  ·exact B.hd a j
 ·rcases E7.mp j with rfl | j
  ·exact R.fresh h (.inl z)
  ·exact R.ap a j z
 ·have q:=R.cell i a c h1 h2;cases c with
  | lst ps=>
   obtain ⟨vs,e1,e2⟩:=q;exact ⟨vs,by rw [Qf (Qh e1 h)]; exact e1,e2.hide h⟩
  | dic ps=>
   obtain ⟨vs,e1,e2⟩:=q;exact ⟨vs,by rw [Qf (Qh e1 h)]; exact e1,e2.1,e2.2.hide h⟩
  | dtp ps=>
   obtain ⟨vs,e1,e2⟩:=q;exact ⟨vs,by rw [Qf (Qh e1 h)]; exact e1,e2.1,e2.2.hide h⟩
  | frd ps=>
   obtain ⟨vs,⟨G,e1⟩,e2⟩:=q;exact ⟨vs,⟨G,by rw [Qf (Qh e1 h)]; exact e1⟩,e2.1,e2.2.hide h⟩
  | obj C ps=>
   obtain ⟨vs,⟨G,e1⟩,e2⟩:=q;exact ⟨vs,⟨G,by rw [Qf (Qh e1 h)]; exact e1⟩,e2.1,e2.2.hide h⟩
theorem Rel.rehide {H:Hp} {ρ:Tk} {st:Q2} (R:Rel H ρ st) {p:aA} {o:HO} (h:p∈ρ.hid) (B:∀ xs,o≠.tup xs:=by intro _ z; cases z):Rel (upd H p o) ρ st:=by
 refine ⟨R.len,R.nd,fun a G=>?_,R.ap,fun i a c h1 h2=>?_⟩
 ·by_cases e:a=p
  ·exact ⟨o,by rw [e]; exact Je,B⟩
  ·obtain ⟨u,q,n⟩:=R.hd a G;exact ⟨u,by rw [Qf e]; exact q,n⟩
 ·have q:=R.cell i a c h1 h2;have ne:a≠p:=fun z=>R.ap p h (by rw [<- z]; exact D5 h1)
  cases c with
  | lst ps=>
   obtain ⟨vs,e1,e2⟩:=q;exact ⟨vs,by rw [Qf ne]; exact e1,e2.rehide h⟩
  | dic ps=>
   obtain ⟨vs,e1,e2⟩:=q;exact ⟨vs,by rw [Qf ne]; exact e1,e2.1,e2.2.rehide h⟩
  | dtp ps=>
   obtain ⟨vs,e1,e2⟩:=q;exact ⟨vs,by rw [Qf ne]; exact e1,e2.1,e2.2.rehide h⟩
  | frd ps=>
   obtain ⟨vs,⟨j,e1⟩,e2⟩:=q;exact ⟨vs,⟨j,by rw [Qf ne]; exact e1⟩,e2.1,e2.2.rehide h⟩
  | obj C ps=>
   obtain ⟨vs,⟨j,e1⟩,e2⟩:=q;exact ⟨vs,⟨j,by rw [Qf ne]; exact e1⟩,e2.1,e2.2.rehide h⟩
theorem Rel.unhide {H:Hp} {ρ:Tk} {st:Q2} {hs:List aA} (j:∀ a,a∈hs->a∈ρ.hid) (R:Rel H ρ st):Rel H ⟨ρ.tr,hs⟩ st:=by
 refine ⟨R.len,R.nd,fun a z=>R.hd a (j a z),fun a z=>R.ap a (j a z),fun i a c h1 h2=>?_⟩;have q:=R.cell i a c h1 h2;cases c with
 | lst ps=>
  obtain ⟨vs,e1,e2⟩:=q;exact ⟨vs,e1,RepL.unhide j e2⟩
 | dic ps=>
  obtain ⟨vs,e1,e2⟩:=q;exact ⟨vs,e1,e2.1,RepL.unhide j e2.2⟩
 | dtp ps=>
  obtain ⟨vs,e1,e2⟩:=q;exact ⟨vs,e1,e2.1,RepL.unhide j e2.2⟩
 | frd ps=>
  obtain ⟨vs,e1,e2⟩:=q;exact ⟨vs,e1,e2.1,RepL.unhide j e2.2⟩
 | obj C ps=>
  obtain ⟨vs,e1,e2⟩:=q;exact ⟨vs,e1,e2.1,RepL.unhide j e2.2⟩
theorem Ext.hide {H:Hp} {ρ:Tk} {p:aA} {o:HO} (h:H p=none):Ext H ρ (upd H p o) (ρ.hide p) where
 pre:=cZ _
 hidM:=fun _ h=>D0 _ h
 hidN:=fun a j=>by
  rcases E7.mp j with rfl | j
  ·exact .inr h
  ·exact .inl j
 keep:=fun a u e _=>by rw [Qf (Qh e h)]; exact e
 new:=fun a e=>.inl e
 old:=fun a u e=>⟨u,by rw [Qf (Qh e h)]; exact e⟩
 frz:=fun a o u e=>by rw [Qf (Qh e h)]; exact e
theorem Ext.put0 {H H1:Hp} {ρ ρ1:Tk} {p:aA} {o:HO} (x:Ext H ρ H1 ρ1) (h:H p=none):Ext H ρ (upd H1 p o) ρ1 where
 pre:=x.pre
 hidM:=x.hidM
 hidN:=x.hidN
 keep:=fun a u e n=>by rw [Qf (Qh e h)]; exact x.keep a u e n
 new:=x.new
 old:=fun a u e=>by rw [Qf (Qh e h)]; exact x.old a u e
 frz:=fun a o u e=>by rw [Qf (Qh e h)]; exact x.frz a o u e
theorem Ext.unhide {H H1:Hp} {ρ ρ1:Tk} (x:Ext H ρ H1 ρ1):Ext H ρ H1 ⟨ρ1.tr,ρ.hid⟩ where
 pre:=x.pre
 hidM:=fun _ h=>h
 hidN:=fun _ h=>.inl h
 keep:=x.keep
 new:=x.new
 old:=x.old
 frz:=x.frz
def EnvR (H:Hp) (ρ:Tk) (Γ:Gam) (σ:St):Prop:=Γ.length=σ.length/\∀ (i:Nat) (p:PV),Γ[i]?=some (some p)->∃ v,σ[i]?=some (some v)/\Rep H ρ p v
theorem EnvR.ext {H H':Hp} {ρ ρ':Tk} {Γ:Gam} {σ:St} (x:Ext H ρ H' ρ') (h:EnvR H ρ Γ σ):EnvR H' ρ' Γ σ:=
 ⟨h.1,fun i p e=>let ⟨v,a,b⟩:=h.2 i p e; ⟨v,a,b.ext x⟩⟩
theorem EnvR.hide {H:Hp} {ρ:Tk} {Γ:Gam} {σ:St} {a:aA} {o:HO} (n:H a=none) (h:EnvR H ρ Γ σ):EnvR (upd H a o) (ρ.hide a) Γ σ:=⟨h.1,fun i p e=>let ⟨v,a,b⟩:=h.2 i p e; ⟨v,a,b.hide n⟩⟩
theorem EnvR.rehide {H:Hp} {ρ:Tk} {Γ:Gam} {σ:St} {a:aA} {o:HO} (n:a∈ρ.hid) (h:EnvR H ρ Γ σ):EnvR (upd H a o) ρ Γ σ:=⟨h.1,fun i p e=>let ⟨v,a,b⟩:=h.2 i p e; ⟨v,a,b.rehide n⟩⟩
theorem EnvR.set {H:Hp} {ρ:Tk} {Γ:Gam} {σ:St} {p:PV} {v:V} (h:EnvR H ρ Γ σ) (r:Rep H ρ p v) (i:Nat):EnvR H ρ (Γ.set i (some p)) (σ.set i (some v)):=by
 refine ⟨by rw [D7,D7]; exact h.1,fun j q e=>?_⟩;rw [dk] at e;rw [dk]
 by_cases B:i=j
 ·subst B;simp only [if_true] at e ⊢
  by_cases z:i < Γ.length
  ·rw [bK z] at e; cases e;rw [bK (by rw [<- h.1]; exact z)];exact ⟨v,rfl,r⟩
  ·rw [bL z] at e; cases e
 ·rw [bL B] at e ⊢;exact h.2 j q e
end
def Res.bind {α β:Type} (r:Res α) (f:α->Q2->Res β):Res β:=match r with
 | .ok a st=>f a st
 | .exc x st=>.exc x st
 | .stuck=>.stuck
def okO {α:Type} (st:Q2):Option α->Res α
 | some a=>.ok a st
 | none=>.stuck
section
variable (X:Cx)
def WE (e:aD):TE:=fun σ H Q=>∀ (pins:List (aA × Obj)) (s:aC),Inv X pins σ H s->aI (aJ X.prog X.w) X.A (aL e X.env) (EP X pins σ Q) X.xe s
def WT (e:aD):TT:=fun σ H Q=>∀ (pins:List (aA × Obj)) (s:aC),Inv X pins σ H s->aI (aJ X.prog X.w) X.A (isTrue e X.env (aL e X.env)) (TP X pins σ Q) X.xe s
def WW (e:aD):TT:=fun σ H Q=>∀ (wh:Sem aB) (pins:List (aA × Obj)) (s:aC),Inv X pins σ H s->aI (aJ X.prog X.w) X.A (isTrue e X.env wh) (TP X pins σ Q) X.xe s
def WA (es:List aD):TA:=fun σ H Q=>∀ (pos:Pos) (pins:List (aA × Obj)) (s:aC),Inv X pins σ H s->aI (aJ X.prog X.w) X.A (spliced (aU pos (aO es X.env))) (AP X pins σ Q) X.xe s
def WS (st:aM):TS:=fun D σ H=>∀ (pins:List (aA × Obj)) (s:aC),Inv X pins σ H s->aI (aJ X.prog X.w) X.A (exec st X.env) (SP X pins D) X.xe s
def WB (st:List aM):TS:=fun D σ H=>∀ (pins:List (aA × Obj)) (s:aC),Inv X pins σ H s->aI (aJ X.prog X.w) X.A (execs st X.env) (SP X pins D) X.xe s
def WI (tg iter : aD) : TI := fun σ H R => ∀ (pins : List (aA × Obj)) (s : aC), Inv X pins σ H s ->
  aI (aJ X.prog X.w) X.A (aL iter X.env) (fun v s1=>aI (aJ X.prog X.w) X.A (pyIter v) (PIE X pins σ tg R) X.xe s1) X.xe s
def WO (f:aB->aB->Sem aB):R2:=fun x y H Q=>∀ (pins:List (aA × Obj)) (s:aC) (σ:St) (v u:aB),Inv X pins σ H s->RelV x v->RelV y u->aI (aJ X.prog X.w) X.A (f v u) (EP X pins σ Q) X.xe s
def WC (f:aB):List V->Hp->VK->Prop:=fun xs H Q=>∀ (pins:List (aA × Obj)) (s:aC) (σ:St) (us:List aB),Inv X pins σ H s->Vals xs us->aI (aJ X.prog X.w) X.A (call f us) (EP X pins σ Q) X.xe s
end
section
variable {X:Cx}
theorem W2 {e:aD}:PE X e (WE X e):=fun pins s _ _ _ I h=>h pins s I
theorem Qd4 {e:aD}:PT X e (WT X e):=fun pins s _ _ _ I h=>h pins s I
theorem Qvf {e:aD}:PW X e (WW X e):=fun j pins s _ _ _ I h=>h j pins s I
theorem Q3p {es:List aD}:PA X es (WA X es):=fun pos pins s _ _ _ I h=>h pos pins s I
theorem Qvh {st:aM}:PS X st (WS X st):=fun pins s _ _ _ I h=>h pins s I
theorem Q7n {st:List aM}:PSs X st (WB X st):=fun pins s _ _ _ I h=>h pins s I
theorem Qsh {tg iter:aD}:PI X tg iter (WI X tg iter):=fun pins s _ _ _ I h=>h pins s I
theorem Qex {f:aB->aB->Sem aB}:OpR X f (WO X f):=fun pins s σ _ _ _ v u _ I q j h=>h pins s σ v u I q j
theorem Qmi {f:aB}:jv X f (WC X f):=fun pins s σ _ _ us _ I r h=>h pins s σ us I r
theorem WE.of {e:aD} {t:TE} {σ:St} {H:Hp} {Q:VK} (h:PE X e t) (q:t σ H Q):WE X e σ H Q:=fun pins s I=>h pins s σ H Q I q
theorem WT.of {e:aD} {t:TT} {σ:St} {H:Hp} {Q:Bool->Hp->Prop} (h:PT X e t) (q:t σ H Q):WT X e σ H Q:=fun pins s I=>h pins s σ H Q I q
theorem WW.of {e:aD} {t:TT} {σ:St} {H:Hp} {Q:Bool->Hp->Prop} (h:PW X e t) (q:t σ H Q):WW X e σ H Q:=fun j pins s I=>h j pins s σ H Q I q
theorem WA.of {es:List aD} {t:TA} {σ:St} {H:Hp} {Q:List V->Hp->Prop} (h:PA X es t) (q:t σ H Q):WA X es σ H Q:=fun pos pins s I=>h pos pins s σ H Q I q
theorem WS.of {st:aM} {t:TS} {σ:St} {H:Hp} {D:Ends} (h:PS X st t) (q:t D σ H):WS X st D σ H:=fun pins s I=>h pins s σ H D I q
theorem WB.of {st:List aM} {t:TS} {σ:St} {H:Hp} {D:Ends} (h:PSs X st t) (q:t D σ H):WB X st D σ H:=fun pins s I=>h pins s σ H D I q
theorem WI.of {tg iter:aD} {t:TI} {σ:St} {H:Hp} {R:It->Hp->Prop} (h:PI X tg iter t) (q:t σ H R):WI X tg iter σ H R:=fun pins s I=>h pins s σ H R I q
theorem WO.of {f:aB->aB->Sem aB} {r:R2} {x y:V} {H:Hp} {Q:VK} (h:OpR X f r) (q:r x y H Q):WO X f x y H Q:=fun pins s σ v u I z j=>h pins s σ H x y v u Q I z j q
theorem WC.of {f:aB} {r:List V->Hp->VK->Prop} {xs:List V} {H:Hp} {Q:VK} (h:jv X f r) (q:r xs H Q):WC X f xs H Q:=fun pins s σ us I j=>h pins s σ H xs us Q I j q
end
def XFs (H:Hp) (ρ:Tk):Option (Str × PV)->Option aA->Prop
 | none,dv=>dv=none
 | some (n,p),dv=>∃ dx v,dv=some dx/\H dx=some (.xd [(n,v)])/\dx∉ρ/\Rep H ρ p v
def Acc {α:Type} (mg:Str->Option aB) (E:XK) (H:Hp) (ρ:Tk) (P:α->Q2->Hp->Tk->Prop):Res α->Prop
 | .ok a st=>∀ H' ρ',Ext H ρ H' ρ'->Rel H' ρ' st->P a st H' ρ'
 | .exc x st=>∀ C dv H' ρ',mg x.cls=some (.ref C)->Ext H ρ H' ρ'->Rel H' ρ' st->XFs H' ρ' x.fs dv->E (.ref C) dv H'
 | .stuck=>False
section
variable {α β:Type} {mg:Str->Option aB} {E:XK} {H H1:Hp} {ρ ρ1:Tk}
theorem Acc.mono {P z:α->Q2->Hp->Tk->Prop} {r:Res α} (h:Acc mg E H ρ P r) (x:Ext H ρ H1 ρ1) (k:∀ a st H' ρ',P a st H' ρ'->z a st H' ρ'):Acc mg E H1 ρ1 z r:=by
 cases r with
 | ok a st=>exact fun H' ρ' q j=>k _ _ _ _ (h H' ρ' (x.trans q) j)
 | exc e st=>exact fun C B H' ρ' m q j f=>h C B H' ρ' m (x.trans q) j f
 | stuck=>exact h
theorem Acc.later {P:α->Q2->Hp->Tk->Prop} {r:Res α} (h:Acc mg E H ρ P r) (x:Ext H ρ H1 ρ1):Acc mg E H1 ρ1 P r:=h.mono x fun _ _ _ _ p=>p
theorem Acc.bind {P:β->Q2->Hp->Tk->Prop} {r:Res α} {f:α->Q2->Res β} (h:Acc mg E H ρ P (r.bind f)):Acc mg E H ρ (fun a j H1 ρ1=>Acc mg E H1 ρ1 P (f a j)) r:=by
 cases r with
 | ok a st=>exact fun H' ρ' q z=>Acc.later (show Acc mg E H ρ P (f a st) from h) q
 | exc e st=>exact h
 | stuck=>exact h
end
abbrev QV (Q:VK):PV->Q2->Hp->Tk->Prop:=fun p _ H' ρ'=>∀ v,Rep H' ρ' p v->Q v H'
abbrev QL (Q:List V->Hp->Prop):List PV->Q2->Hp->Tk->Prop:=fun ps _ H' ρ'=>∀ vs,RepL H' ρ' ps vs->Q vs H'
abbrev QB (Q:Bool->Hp->Prop):Bool->Q2->Hp->Tk->Prop:=fun b _ H' _=>Q b H'
structure SimE (X:Cx) (E:XK) (e:aD) (m:ME):Prop where
 run:∀ (Γ:Gam) (σ:St) (H:Hp) (ρ:Tk) (st:Q2) (Q:VK),Rel H ρ st->EnvR H ρ Γ σ->Acc X.mg E H ρ (QV Q) (m Γ st)->WE X e σ H Q
structure SimT (X:Cx) (E:XK) (e:aD) (m:Gam->Q2->Res Bool):Prop where
 run:∀ (Γ:Gam) (σ:St) (H:Hp) (ρ:Tk) (st:Q2) (Q:Bool->Hp->Prop),Rel H ρ st->EnvR H ρ Γ σ->Acc X.mg E H ρ (QB Q) (m Γ st)->WT X e σ H Q
structure SimW (X:Cx) (E:XK) (e:aD) (m:Gam->Q2->Res Bool):Prop where
 run:∀ (Γ:Gam) (σ:St) (H:Hp) (ρ:Tk) (st:Q2) (Q:Bool->Hp->Prop),Rel H ρ st->EnvR H ρ Γ σ->Acc X.mg E H ρ (QB Q) (m Γ st)->WW X e σ H Q
structure SimA (X:Cx) (E:XK) (es:List aD) (m:Gam->Q2->Res (List PV)):Prop where
 run:∀ (Γ:Gam) (σ:St) (H:Hp) (ρ:Tk) (st:Q2) (Q:List V->Hp->Prop),Rel H ρ st->EnvR H ρ Γ σ->Acc X.mg E H ρ (QL Q) (m Γ st)->WA X es σ H Q
abbrev OP:=Q2->PV->PV->Res PV
structure OpS (X:Cx) (E:XK) (f:aB->aB->Sem aB) (o:OP):Prop where
 run:∀ (H:Hp) (ρ:Tk) (st:Q2) (p q:PV) (x y:V) (Q:VK),Rel H ρ st->Rep H ρ p x->Rep H ρ q y->Acc X.mg E H ρ (QV Q) (o st p q)->WO X f x y H Q
abbrev CF:=Q2->List PV->Res PV
structure CallS (X:Cx) (E:XK) (f:aB) (o:CF):Prop where
 run:∀ (H:Hp) (ρ:Tk) (st:Q2) (ps:List PV) (xs:List V) (Q:VK),Rel H ρ st->RepL H ρ ps xs->Acc X.mg E H ρ (QV Q) (o st ps)->WC X f xs H Q
section
variable {X:Cx} {E:XK} {Γ:Gam} {σ:St} {H:Hp} {ρ:Tk} {st:Q2}
theorem SimE.use {e:aD} {m:ME} (s:SimE X E e m) {P:PV->Q2->Hp->Tk->Prop} {Q:VK} (R:Rel H ρ st) (G:EnvR H ρ Γ σ) (h:Acc X.mg E H ρ P (m Γ st))
  (k:∀ p j H1 ρ1 v,Ext H ρ H1 ρ1->Rel H1 ρ1 j->EnvR H1 ρ1 Γ σ->Rep H1 ρ1 p v->P p j H1 ρ1->Q v H1):WE X e σ H Q:=by
 refine s.run Γ σ H ρ st Q R G ?_;cases r:m Γ st with
 | ok p j=>rw [r] at h; exact fun H' ρ' q z v B=>k p j H' ρ' v q z (G.ext q) B (h H' ρ' q z)
 | exc e st=>rw [r] at h; exact h
 | stuck=>rw [r] at h; exact h
theorem SimE.use' {e:aD} {m:ME} (s:SimE X E e m) {P:PV->Q2->Hp->Tk->Prop} {Q:VK} (R:Rel H ρ st) (G:EnvR H ρ Γ σ) (h:Acc X.mg E H ρ P (m Γ st))
  (k:∀ p j H1 ρ1 v,m Γ st=.ok p j->Ext H ρ H1 ρ1->Rel H1 ρ1 j->EnvR H1 ρ1 Γ σ->Rep H1 ρ1 p v->P p j H1 ρ1->Q v H1):WE X e σ H Q:=by
 refine s.run Γ σ H ρ st Q R G ?_;cases r:m Γ st with
 | ok p j=>rw [r] at h; exact fun H' ρ' q z v B=>k p j H' ρ' v r q z (G.ext q) B (h H' ρ' q z)
 | exc e st=>rw [r] at h; exact h
 | stuck=>rw [r] at h; exact h
theorem SimA.use' {es:List aD} {m:Gam->Q2->Res (List PV)} (s:SimA X E es m) {P:List PV->Q2->Hp->Tk->Prop} {Q:List V->Hp->Prop} (R:Rel H ρ st) (G:EnvR H ρ Γ σ) (h:Acc X.mg E H ρ P (m Γ st))
  (k:∀ ps j H1 ρ1 vs,m Γ st=.ok ps j->Ext H ρ H1 ρ1->Rel H1 ρ1 j->EnvR H1 ρ1 Γ σ->RepL H1 ρ1 ps vs->P ps j H1 ρ1->Q vs H1):WA X es σ H Q:=by
 refine s.run Γ σ H ρ st Q R G ?_;cases r:m Γ st with
 | ok p j=>rw [r] at h; exact fun H' ρ' q z v B=>k p j H' ρ' v r q z (G.ext q) B (h H' ρ' q z)
 | exc e st=>rw [r] at h; exact h
 | stuck=>rw [r] at h; exact h
theorem SimT.use {e:aD} {m:Gam->Q2->Res Bool} (s:SimT X E e m) {P:Bool->Q2->Hp->Tk->Prop} {Q:Bool->Hp->Prop} (R:Rel H ρ st) (G:EnvR H ρ Γ σ) (h:Acc X.mg E H ρ P (m Γ st))
  (k:∀ p j H1 ρ1,Ext H ρ H1 ρ1->Rel H1 ρ1 j->EnvR H1 ρ1 Γ σ->P p j H1 ρ1->Q p H1):WT X e σ H Q:=by
 refine s.run Γ σ H ρ st Q R G ?_;cases r:m Γ st with
 | ok p j=>rw [r] at h; exact fun H' ρ' q z=>k p j H' ρ' q z (G.ext q) (h H' ρ' q z)
 | exc e st=>rw [r] at h; exact h
 | stuck=>rw [r] at h; exact h
theorem SimT.use' {e:aD} {m:Gam->Q2->Res Bool} (s:SimT X E e m) {P:Bool->Q2->Hp->Tk->Prop} {Q:Bool->Hp->Prop} (R:Rel H ρ st) (G:EnvR H ρ Γ σ) (h:Acc X.mg E H ρ P (m Γ st))
  (k:∀ p j H1 ρ1,m Γ st=.ok p j->Ext H ρ H1 ρ1->Rel H1 ρ1 j->EnvR H1 ρ1 Γ σ->P p j H1 ρ1->Q p H1):WT X e σ H Q:=by
 refine s.run Γ σ H ρ st Q R G ?_;cases r:m Γ st with
 | ok p j=>rw [r] at h; exact fun H' ρ' q z=>k p j H' ρ' r q z (G.ext q) (h H' ρ' q z)
 | exc e st=>rw [r] at h; exact h
 | stuck=>rw [r] at h; exact h
theorem SimW.use {e:aD} {m:Gam->Q2->Res Bool} (s:SimW X E e m) {P:Bool->Q2->Hp->Tk->Prop} {Q:Bool->Hp->Prop} (R:Rel H ρ st) (G:EnvR H ρ Γ σ) (h:Acc X.mg E H ρ P (m Γ st))
  (k:∀ p j H1 ρ1,Ext H ρ H1 ρ1->Rel H1 ρ1 j->EnvR H1 ρ1 Γ σ->P p j H1 ρ1->Q p H1):WW X e σ H Q:=by
 refine s.run Γ σ H ρ st Q R G ?_;cases r:m Γ st with
 | ok p j=>rw [r] at h; exact fun H' ρ' q z=>k p j H' ρ' q z (G.ext q) (h H' ρ' q z)
 | exc e st=>rw [r] at h; exact h
 | stuck=>rw [r] at h; exact h
theorem SimA.use {es:List aD} {m:Gam->Q2->Res (List PV)} (s:SimA X E es m) {P:List PV->Q2->Hp->Tk->Prop} {Q:List V->Hp->Prop} (R:Rel H ρ st) (G:EnvR H ρ Γ σ) (h:Acc X.mg E H ρ P (m Γ st))
  (k:∀ ps j H1 ρ1 vs,Ext H ρ H1 ρ1->Rel H1 ρ1 j->EnvR H1 ρ1 Γ σ->RepL H1 ρ1 ps vs->P ps j H1 ρ1->Q vs H1):WA X es σ H Q:=by
 refine s.run Γ σ H ρ st Q R G ?_;cases r:m Γ st with
 | ok p j=>rw [r] at h; exact fun H' ρ' q z v B=>k p j H' ρ' v q z (G.ext q) B (h H' ρ' q z)
 | exc e st=>rw [r] at h; exact h
 | stuck=>rw [r] at h; exact h
theorem OpS.use {f:aB->aB->Sem aB} {o:OP} (s:OpS X E f o) {P:PV->Q2->Hp->Tk->Prop} {Q:VK} {p q:PV} {x y:V} (R:Rel H ρ st) (I:Rep H ρ p x) (J:Rep H ρ q y) (h:Acc X.mg E H ρ P (o st p q))
  (k:∀ p j H1 ρ1 v,Ext H ρ H1 ρ1->Rel H1 ρ1 j->Rep H1 ρ1 p v->P p j H1 ρ1->Q v H1):WO X f x y H Q:=by
 refine s.run H ρ st p q x y Q R I J ?_;cases r:o st p q with
 | ok p j=>rw [r] at h; exact fun H' ρ' B z v G=>k p j H' ρ' v B z G (h H' ρ' B z)
 | exc e st=>rw [r] at h; exact h
 | stuck=>rw [r] at h; exact h
end
end Sm
namespace Sm
open PySem PySem.Spec L2 SeqAt
mutual
def peq:PV->PV->Bool
 | .non,.non=>true
 | .bl a,.bl b=>a == b
 | .bl a,.int b=>(if a then 1 else 0) == b
 | .int a,.bl b=>a == (if b then 1 else 0)
 | .int a,.int b=>a == b
 | .str a,.str b=>a == b
 | .tup xs,.tup ys=>jx xs ys
 | .lst xs,.lst ys=>jx xs ys
 | .lst xs,.fro ys=>jx xs ys
 | .fro xs,.lst ys=>jx xs ys
 | .fro xs,.fro ys=>jx xs ys
 | _,_=>false
def jx:List PV->List PV->Bool
 | [],[]=>true
 | x :: xs,y :: ys=>peq x y && jx xs ys
 | _,_=>false
end
def Y4:Nat->PV->Bool
 | _,.ref _=>false
 | _,.dic=>false
 | 0,.tup _=>false
 | 0,.lst _=>false
 | 0,.fro _=>false
 | n + 1,.tup xs=>xs.all (Y4 n)
 | n + 1,.lst xs=>xs.all (Y4 n)
 | n + 1,.fro xs=>xs.all (Y4 n)
 | _,_=>true
theorem Q7q:∀ {xs ys:List PV},xs.length≠ys.length->jx xs ys=false
 | [],[],h=>absurd rfl h
 | [],_ :: _,_=>by simp [jx]
 | _ :: _,[],_=>by simp [jx]
 | x :: xs,y :: ys,h=>by
  rw [jx,Q7q (xs:=xs) (ys:=ys) fun e=>h (by simp [e]),da]
theorem Q7r:∀ {xs ys:List PV},xs.length=ys.length->jx xs ys=(bV xs.length).all fun j=>peq (xs.getD j .non) (ys.getD j .non)
 | [],[],_=>by simp [jx]
 | [],_ :: _,h=>by simp at h
 | _ :: _,[],h=>by simp at h
 | x :: xs,y :: ys,h=>by
  rw [jx,Q7r (xs:=xs) (ys:=ys) (by simpa using h),D4,ew,cY,ez];rfl
section
variable {X:Cx} {pins:List (aA × Obj)} {σ:St} {H:Hp} {s:aC} {ρ:Tk}
mutual
theorem Qd0:∀ {p q:PV} {x:V} {n:Nat},Y4 n p=true->Y4 n q=true->Rep H ρ p x->Rep H ρ q x->peq p q=true
 | .non,q,x,n,_,B,h1,h2=>by
  cases h1;cases q <;> first | rfl | (cases n <;> cases B; done) | (cases h2; done) | (obtain ⟨_,_,e,_⟩:=h2; cases e) | (obtain ⟨_,_,e⟩:=h2; cases e)
 | .bl b,q,x,n,_,B,h1,h2=>by
  cases h1;cases q <;> first | (cases n <;> cases B; done) | (cases h2; simp [peq]; done) | (obtain ⟨_,_,e,_⟩:=h2; done) | (obtain ⟨_,_,e,_⟩:=h2; cases e; done) | (obtain ⟨_,_,e⟩:=h2; cases e)
 | .int b,q,x,n,_,B,h1,h2=>by
  cases h1;cases q <;> first | (cases n <;> cases B; done) | (cases h2; simp [peq]; done) | (obtain ⟨_,_,e,_⟩:=h2; done) | (obtain ⟨_,_,e,_⟩:=h2; cases e; done) | (obtain ⟨_,_,e⟩:=h2; cases e)
 | .str b,q,x,n,_,B,h1,h2=>by
  cases h1;cases q <;> first | (cases n <;> cases B; done) | (cases h2; simp [peq]; done) | (obtain ⟨_,_,e,_⟩:=h2; done) | (obtain ⟨_,_,e,_⟩:=h2; cases e; done) | (obtain ⟨_,_,e⟩:=h2; cases e)
 | .tup ps,q,x,0,G,_,_,_=>by cases G
 | .tup ps,q,x,n + 1,G,B,⟨a,vs,e,z,_,r⟩,h2=>by
  subst e;cases q with
  | tup J=>
   obtain ⟨b,us,e,j,_,I⟩:=h2;cases e;rw [z] at j; cases j;rw [peq];exact qm G B r I
  | lst J=>obtain ⟨b,us,e,j,_⟩:=h2; cases e; rw [z] at j; cases j
  | fro J=>obtain ⟨b,us,e,j,_⟩:=h2; cases e; rcases j with j | ⟨o,j⟩ <;> (rw [z] at j; cases j)
  | ref i=>cases B
  | dic=>cases B
  | _=>cases h2
 | .lst ps,q,x,0,G,_,_,_=>by cases G
 | .lst ps,q,x,n + 1,G,B,⟨a,vs,e,z,_,r⟩,h2=>by
  subst e;cases q with
  | lst J=>
   obtain ⟨b,us,e,j,_,I⟩:=h2;cases e;rw [z] at j; cases j;rw [peq];exact qm G B r I
  | tup J=>obtain ⟨b,us,e,j,_⟩:=h2; cases e; rw [z] at j; cases j
  | fro J=>
   obtain ⟨b,us,e,j,_,I⟩:=h2;cases e;rcases j with j | ⟨o,j⟩
   ·rw [z] at j; cases j;rw [peq];exact qm G B r I
   ·rw [z] at j; cases j
  | ref i=>cases B
  | dic=>cases B
  | _=>cases h2
 | .fro ps,q,x,0,G,_,_,_=>by cases G
 | .fro ps,q,x,n + 1,G,B,⟨a,vs,e,z,_,r⟩,h2=>by
  subst e;cases q with
  | lst J=>
   obtain ⟨b,us,e,j,_,I⟩:=h2;cases e;rcases z with z | ⟨o,z⟩
   ·rw [z] at j; cases j;rw [peq];exact qm G B r I
   ·rw [z] at j; cases j
  | tup J=>obtain ⟨b,us,e,j,_⟩:=h2; cases e; rcases z with z | ⟨o,z⟩ <;> (rw [z] at j; cases j)
  | fro J=>
   obtain ⟨b,us,e,j,_,I⟩:=h2;cases e;have:vs=us:=by
    rcases z with z | ⟨o,z⟩ <;> rcases j with j | ⟨o',j⟩ <;> (rw [z] at j; cases j) <;> rfl
   subst this;rw [peq];exact qm G B r I
  | ref i=>cases B
  | dic=>cases B
  | _=>cases h2
 | .ref i,_,_,n,G,_,_,_=>by cases n <;> cases G
 | .dic,_,_,n,G,_,_,_=>by cases n <;> cases G
theorem qm:∀ {ps j:List PV} {vs:List V} {n:Nat},ps.all (Y4 n)=true->j.all (Y4 n)=true->RepL H ρ ps vs->RepL H ρ j vs->jx ps j=true
 | [],j,vs,n,_,_,h1,h2=>by
  cases h1;cases j with
  | nil=>rfl
  | cons q j=>obtain ⟨_,_,e,_⟩:=h2; cases e
 | p :: ps,j,vs,n,B,g2,⟨v,r,e,h1,z⟩,h2=>by
  subst e;cases j with
  | nil=>cases h2
  | cons q j=>
   obtain ⟨_,_,e,h2,G⟩:=h2;cases e;rw [cY,G6] at B g2;rw [jx,Qd0 B.1 g2.1 h1 h2,qm B.2 g2.2 z G]; rfl
end
inductive Kd (H:Hp) (ρ:Tk) (s:aC):PV->aB->Prop where
 | non:Kd H ρ s .non .none
 | bl (b):Kd H ρ s (.bl b) (.bool b)
 | int (i t):Kd H ρ s (.int i) (.int i t)
 | str (x t):Kd H ρ s (.str x) (.str x t)
 | tup (ps a) (vs:List V) (its:List aB):H a=some (.tup vs)->RepL H ρ ps vs->Vals vs its->s.heap.IsTuple a its.toArray->Kd H ρ s (.tup ps) (.ref a)
 | lst (p ps a) (vs:List V) (its:List aB):(p=.lst ps\/p=.fro ps)->RepL H ρ ps vs->Vals vs its->s.heap.IsList a its.toArray->Kd H ρ s p (.ref a)
theorem Qgd {p:PV} {x:V} {u:aB} {n:Nat} (I:Inv X pins σ H s) (g:Y4 n p=true) (r:Rep H ρ p x) (j:RelV x u):Kd H ρ s p u:=by
 cases p with
 | non=>cases r; cases j; exact .non
 | bl b=>cases r; cases j; exact .bl b
 | int i=>cases r; obtain ⟨t,rfl⟩:=j; exact .int i t
 | str i=>cases r; obtain ⟨t,rfl⟩:=j; exact .str i t
 | tup ps=>
  obtain ⟨a,vs,rfl,q,_,B⟩:=r;cases j;obtain ⟨its,G,z,_⟩:=I.tuple (SqT.of (K:=X.K) q);exact .tup ps a vs its q B G z
 | lst ps=>
  obtain ⟨a,vs,rfl,q,_,B⟩:=r;cases j;obtain ⟨its,G,z,_⟩:=I.list (SqL.of (K:=X.K) q);exact .lst _ ps a vs its (.inl rfl) B G z.isList
 | fro ps=>
  obtain ⟨a,vs,rfl,q,_,B⟩:=r;cases j;obtain ⟨its,G,z,_⟩:=I.list (show SqL X.K H a vs from .inl q);exact .lst _ ps a vs its (.inr rfl) B G z.isList
 | ref i=>cases n <;> cases g
 | dic=>cases n <;> cases g
theorem Q6x {ps:List PV} {vs:List V} {its:List aB} (r:RepL H ρ ps vs) (v:Vals vs its) {j:Nat} (h:j < its.length):∃ x,Rep H ρ (ps.getD j .non) x/\RelV x its[j]:=by
 have B:=r.length;have G:=v.length;have q:j < ps.length:=by omega
 obtain ⟨x,e1,e2⟩:=r.get (O4 q);obtain ⟨u,e3,z⟩:=v.get e1;rw [O4 h] at e3; cases e3;refine ⟨x,?_,z⟩;rw [ba,O4 q];exact e2
theorem Q2u {ps:List PV} {n:Nat} (g:ps.all (Y4 n)=true) (j:Nat) (q:j < ps.length):Y4 n (ps.getD j .non)=true:=by
 rw [ba,O4 q];exact (bx.mp g) _ (dg q)
theorem Qev {ps q:List PV}:((bV (min ps.length q.length)).all (fun j=>peq (ps.getD j .non) (q.getD j .non)) && ps.length == q.length)=jx ps q:=by
 by_cases e:ps.length=q.length
 ·rw [Q7r e,<- e,fD,beq_self_eq_true,Bool.and_true]
 ·rw [Q7q e,beq_eq_false_iff_ne.mpr e,da]
theorem Qgi:∀ (n:Nat) {A:aR} {p q:PV} {x y:V} {u v:aB},Inv X pins σ H s->Y4 n p=true->Y4 n q=true->A.units + n < ac->Rep H ρ p x->RelV x u->Rep H ρ q y->RelV y v ->
  EqAt A s u v (peq p q)/\RcAt A s u v (peq p q)/\RcNeAt A s u v (!peq p q):=by
 intro n
 induction n with
 | zero=>
  intro A p q x y u v I Y J hu rp ru rq rv;have k1:=Qgd I Y rp ru;have k2:=Qgd I J rq rv;have hu:A.units < ac:=by omega
  cases k1 with
  | tup=>cases Y
  | lst p ps a vs its h=>rcases h with rfl | rfl <;> cases Y
  | non=>cases k2 with
   | tup=>cases J
   | lst p ps a vs its h=>rcases h with rfl | rfl <;> cases J
   | non=>exact ⟨EqAt.same _,RcAt.none_none,RcNeAt.none_none⟩
   | bl b=>exact ⟨EqAt.none_bool _,RcAt.none_bool _,RcNeAt.none_bool _⟩
   | int i t=>exact ⟨EqAt.none_int _ _,RcAt.none_int _ _,RcNeAt.none_int _ _⟩
   | str i t=>exact ⟨EqAt.none_str _ _,RcAt.none_str _ _,RcNeAt.none_str _ _⟩
  | bl a=>cases k2 with
   | tup=>cases J
   | lst p ps a vs its h=>rcases h with rfl | rfl <;> cases J
   | non=>exact ⟨EqAt.bool_none _,RcAt.bool_none _,RcNeAt.bool_none _⟩
   | bl b=>exact ⟨EqAt.bool_bool _ _,RcAt.bool_bool _ _,RcNeAt.bool_bool _ _⟩
   | int i t=>exact ⟨EqAt.bool_int _ _ _,RcAt.bool_int _ _ _,RcNeAt.bool_int _ _ _⟩
   | str i t=>exact ⟨EqAt.bool_str _ _ _,RcAt.bool_str _ _ _,RcNeAt.bool_str _ _ _⟩
  | int a a3=>cases k2 with
   | tup=>cases J
   | lst p ps a vs its h=>rcases h with rfl | rfl <;> cases J
   | non=>exact ⟨EqAt.int_none _ _,RcAt.int_none _ _,RcNeAt.int_none _ _⟩
   | bl b=>exact ⟨EqAt.int_bool _ _ _,RcAt.int_bool _ _ _,RcNeAt.int_bool _ _ _⟩
   | int i t=>exact ⟨EqAt.int_int _ _ _ _,RcAt.int_int _ _ _ _,RcNeAt.int_int _ _ _ _⟩
   | str i t=>exact ⟨EqAt.int_str _ _ _ _,RcAt.int_str _ _ _ _,RcNeAt.int_str _ _ _ _⟩
  | str a a3=>cases k2 with
   | tup=>cases J
   | lst p ps a vs its h=>rcases h with rfl | rfl <;> cases J
   | non=>exact ⟨EqAt.str_none _ _,RcAt.str_none _ _,RcNeAt.str_none _ _⟩
   | bl b=>exact ⟨EqAt.str_bool _ _ _,RcAt.str_bool _ _ _,RcNeAt.str_bool _ _ _⟩
   | int i t=>exact ⟨EqAt.str_int _ _ _ _,RcAt.str_int _ _ _ _,RcNeAt.str_int _ _ _ _⟩
   | str i t=>exact ⟨EqAt.str_str _ _ _ _,RcAt.str_str _ _ _ _,RcNeAt.str_str _ _ _ _⟩
 | succ n ih=>
  intro A p q x y u v I Y J hu rp ru rq rv;have k1:=Qgd I Y rp ru;have k2:=Qgd I J rq rv;have z:A.units < ac:=by omega
  have a5:A.in1.units + n < ac:=by show A.units + 1 + n < ac; omega
  cases k1 with
  | non=>cases k2 with
   | non=>exact ⟨EqAt.same _,RcAt.none_none,RcNeAt.none_none⟩
   | bl b=>exact ⟨EqAt.none_bool _,RcAt.none_bool _,RcNeAt.none_bool _⟩
   | int i t=>exact ⟨EqAt.none_int _ _,RcAt.none_int _ _,RcNeAt.none_int _ _⟩
   | str i t=>exact ⟨EqAt.none_str _ _,RcAt.none_str _ _,RcNeAt.none_str _ _⟩
   | tup ps a vs its ha r U B=>exact ⟨EqAt.none_tuple B z,RcAt.none_tuple B z,RcNeAt.none_tuple B z⟩
   | lst p ps a vs its h r U B=>rcases h with rfl | rfl <;> exact ⟨EqAt.none_list B z,RcAt.none_list B z,RcNeAt.none_list B z⟩
  | bl a=>cases k2 with
   | non=>exact ⟨EqAt.bool_none _,RcAt.bool_none _,RcNeAt.bool_none _⟩
   | bl b=>exact ⟨EqAt.bool_bool _ _,RcAt.bool_bool _ _,RcNeAt.bool_bool _ _⟩
   | int i t=>exact ⟨EqAt.bool_int _ _ _,RcAt.bool_int _ _ _,RcNeAt.bool_int _ _ _⟩
   | str i t=>exact ⟨EqAt.bool_str _ _ _,RcAt.bool_str _ _ _,RcNeAt.bool_str _ _ _⟩
   | tup ps a vs its ha r U B=>exact ⟨EqAt.bool_tuple _ B z,RcAt.bool_tuple _ B z,RcNeAt.bool_tuple _ B z⟩
   | lst p ps a vs its h r U B=>rcases h with rfl | rfl <;> exact ⟨EqAt.bool_list _ B z,RcAt.bool_list _ B z,RcNeAt.bool_list _ B z⟩
  | int a a3=>cases k2 with
   | non=>exact ⟨EqAt.int_none _ _,RcAt.int_none _ _,RcNeAt.int_none _ _⟩
   | bl b=>exact ⟨EqAt.int_bool _ _ _,RcAt.int_bool _ _ _,RcNeAt.int_bool _ _ _⟩
   | int i t=>exact ⟨EqAt.int_int _ _ _ _,RcAt.int_int _ _ _ _,RcNeAt.int_int _ _ _ _⟩
   | str i t=>exact ⟨EqAt.int_str _ _ _ _,RcAt.int_str _ _ _ _,RcNeAt.int_str _ _ _ _⟩
   | tup ps a vs its ha r U B=>exact ⟨EqAt.int_tuple _ _ B z,RcAt.int_tuple _ _ B z,RcNeAt.int_tuple _ _ B z⟩
   | lst p ps a vs its h r U B=>rcases h with rfl | rfl <;> exact ⟨EqAt.int_list _ _ B z,RcAt.int_list _ _ B z,RcNeAt.int_list _ _ B z⟩
  | str a a3=>cases k2 with
   | non=>exact ⟨EqAt.str_none _ _,RcAt.str_none _ _,RcNeAt.str_none _ _⟩
   | bl b=>exact ⟨EqAt.str_bool _ _ _,RcAt.str_bool _ _ _,RcNeAt.str_bool _ _ _⟩
   | int i t=>exact ⟨EqAt.str_int _ _ _ _,RcAt.str_int _ _ _ _,RcNeAt.str_int _ _ _ _⟩
   | str i t=>exact ⟨EqAt.str_str _ _ _ _,RcAt.str_str _ _ _ _,RcNeAt.str_str _ _ _ _⟩
   | tup ps a vs its ha r U B=>exact ⟨EqAt.str_tuple _ _ B z,RcAt.str_tuple _ _ B z,RcNeAt.str_tuple _ _ B z⟩
   | lst p ps a vs its h r U B=>rcases h with rfl | rfl <;> exact ⟨EqAt.str_list _ _ B z,RcAt.str_list _ _ B z,RcNeAt.str_list _ _ B z⟩
  | tup ps a vs its ha r U B=>cases k2 with
   | non=>exact ⟨EqAt.tuple_none B z,RcAt.tuple_none B z,RcNeAt.tuple_none B z⟩
   | bl b=>exact ⟨EqAt.tuple_bool _ B z,RcAt.tuple_bool _ B z,RcNeAt.tuple_bool _ B z⟩
   | int i t=>exact ⟨EqAt.tuple_int _ _ B z,RcAt.tuple_int _ _ B z,RcNeAt.tuple_int _ _ B z⟩
   | str i t=>exact ⟨EqAt.tuple_str _ _ B z,RcAt.tuple_str _ _ B z,RcNeAt.tuple_str _ _ B z⟩
   | tup O b us G hb Z v2 p2=>
    have l1:its.toArray.size=ps.length:=by rw [O3,<- U.length,r.length]
    have l2:G.toArray.size=O.length:=by rw [O3,<- v2.length,Z.length]
    have he:∀ j (h1:j < its.toArray.size) (h2:j < G.toArray.size),EqAt A.in1 s its.toArray[j] G.toArray[j] (peq (ps.getD j .non) (O.getD j .non)):=fun j h1 h2=>by
     obtain ⟨x1,a1,b1⟩:=Q6x r U (j:=j) (by simpa using h1);obtain ⟨x2,a2,b2⟩:=Q6x Z v2 (j:=j) (by simpa using h2);exact (ih I (Q2u Y j (by omega)) (Q2u J j (by omega)) a5 a1 b1 a2 b2).1
    have rc:=RcAt.tuples B p2 z he;have rn:=RcNeAt.tuples B p2 z he;rw [l1,l2,Qev] at rc rn;refine ⟨?_,rc,rn⟩
    by_cases e:a=b
    ·subst e;have:jx ps O=true:=by
      rw [ha] at hb; cases hb;exact qm Y J r Z
     show EqAt A s _ _ (jx ps O);rw [this];exact EqAt.same _
    ·exact EqAt.of_refs e rc
   | lst q O b us G h Z v2 p2=>rcases h with rfl | rfl <;> exact ⟨EqAt.tuple_list B p2 z,RcAt.tuple_list B p2 z,RcNeAt.tuple_list B p2 z⟩
  | lst p ps a vs its h r U B=>cases k2 with
   | non=>rcases h with rfl | rfl <;> exact ⟨EqAt.list_none B z,RcAt.list_none B z,RcNeAt.list_none B z⟩
   | bl b=>rcases h with rfl | rfl <;> exact ⟨EqAt.list_bool _ B z,RcAt.list_bool _ B z,RcNeAt.list_bool _ B z⟩
   | int i t=>rcases h with rfl | rfl <;> exact ⟨EqAt.list_int _ _ B z,RcAt.list_int _ _ B z,RcNeAt.list_int _ _ B z⟩
   | str i t=>rcases h with rfl | rfl <;> exact ⟨EqAt.list_str _ _ B z,RcAt.list_str _ _ B z,RcNeAt.list_str _ _ B z⟩
   | tup O b us G hb Z v2 p2=>rcases h with rfl | rfl <;> exact ⟨EqAt.list_tuple B p2 z,RcAt.list_tuple B p2 z,RcNeAt.list_tuple B p2 z⟩
   | lst q O b us G h2 Z v2 p2=>
    have l1:its.toArray.size=ps.length:=by rw [O3,<- U.length,r.length]
    have l2:G.toArray.size=O.length:=by rw [O3,<- v2.length,Z.length]
    have a6:ps.all (Y4 n)=true:=by rcases h with rfl | rfl <;> exact Y
    have a8:O.all (Y4 n)=true:=by rcases h2 with rfl | rfl <;> exact J
    have ep:peq p q=jx ps O:=by rcases h with rfl | rfl <;> rcases h2 with rfl | rfl <;> rfl
    have he:∀ j (h1:j < its.toArray.size) (h2:j < G.toArray.size),EqAt A.in1 s its.toArray[j] G.toArray[j] (peq (ps.getD j .non) (O.getD j .non)):=fun j h1 h2=>by
     obtain ⟨x1,a1,b1⟩:=Q6x r U (j:=j) (by simpa using h1);obtain ⟨x2,a2,b2⟩:=Q6x Z v2 (j:=j) (by simpa using h2);exact (ih I (Q2u a6 j (by omega)) (Q2u a8 j (by omega)) a5 a1 b1 a2 b2).1
    rw [ep];have a4:RcAt A s (.ref a) (.ref b) (jx ps O)/\RcNeAt A s (.ref a) (.ref b) (!jx ps O):=by
     by_cases e:ps.length=O.length
     ·have rc:=RcAt.lists B p2 (by rw [l1,l2,e]) z he;have rn:=RcNeAt.lists B p2 (by rw [l1,l2,e]) z he;rw [l1,<- Q7r e] at rc rn;exact ⟨rc,rn⟩
     ·have e':(its.toArray.size != G.toArray.size)=true:=by rw [l1,l2]; simpa using e
      rw [Q7q e];exact ⟨RcAt.lists_lengths B p2 e' z,RcNeAt.lists_lengths B p2 e' z⟩
    refine ⟨?_,a4.1,a4.2⟩
    by_cases e:a=b
    ·subst e;have a7:peq p q=true:=by
      have b0:=rp;have a9:=rq;have xa:x=.ref a:=by
       rcases h with rfl | rfl <;> (obtain ⟨b',_,rfl,_⟩:=rp; cases ru; rfl)
      have ya:y=.ref a:=by
       rcases h2 with rfl | rfl <;> (obtain ⟨b',_,rfl,_⟩:=rq; cases rv; rfl)
      subst xa; subst ya;exact Qd0 Y J rp rq
     rw [<- ep,a7];exact EqAt.same _
    ·exact EqAt.of_refs e a4.1
end
end Sm
namespace Sm
open PySem PySem.Spec L2
def lim:Nat:=1000000
theorem Qfb:lim<=sizeLine:=by decide
theorem Ke {n:Nat} (h:n<=lim):n<=sizeLine:=F0 h Qfb
def Q22 (st:Q2):PV->Option (List PV)
 | .lst xs=>some xs
 | .ref i=>match st[i]? with
  | some (.lst xs)=>some xs
  | _=>none
 | _=>none
def Q0y (st:Q2):PV->Option (List PV)
 | .fro xs=>some xs
 | p=>Q22 st p
def qe (st:Q2):PV->Option (List PV)
 | .tup xs=>some xs
 | p=>Q0y st p
def der (st:Q2):PV->PV
 | .ref i=>match st[i]? with
  | some (.lst xs)=>.lst xs
  | _=>.ref i
 | p=>p
section
variable {H:Hp} {ρ:Tk} {st:Q2} {p:PV} {v:V} {xs:List PV}
theorem Q8g (R:Rel H ρ st) (r:Rep H ρ p v) (e:Q22 st p=some xs):∃ a vs,v=.ref a/\H a=some (.lst vs)/\RepL H ρ xs vs:=by
 cases p with
 | lst ys=>
  obtain ⟨a,vs,e1,e2,_,e3⟩:=r;cases e;exact ⟨a,vs,e1,e2,e3⟩
 | ref i=>
  obtain ⟨a,e1,e2⟩:=r;simp only [Q22] at e
  split at e
  ·rename_i ys hs;cases e;obtain ⟨b,vs,j,q,z⟩:=R.lst hs;rw [e1] at j; cases j;exact ⟨a,vs,e2,q,z⟩
  ·cases e
 | _=>cases e
theorem Q6u (R:Rel H ρ st) (r:Rep H ρ p v) (e:Q0y st p=some xs):∃ a vs,v=.ref a/\Rd H a (.lst vs)/\RepL H ρ xs vs:=by
 cases p with
 | fro ys=>
  obtain ⟨a,vs,e1,e2,_,e3⟩:=r;cases e;exact ⟨a,vs,e1,e2,e3⟩
 | _=>
  obtain ⟨a,vs,e1,e2,e3⟩:=Q8g R r e;exact ⟨a,vs,e1,.inl e2,e3⟩
theorem Q7h {K:bQ} (R:Rel H ρ st) (r:Rep H ρ p v) (e:qe st p=some xs):∃ (t:Bool) (a:aA) (vs:List V),v=.ref a/\SqK K t H a vs/\RepL H ρ xs vs:=by
 cases p with
 | tup ys=>
  obtain ⟨a,vs,e1,e2,_,e3⟩:=r;cases e;exact ⟨true,a,vs,e1,show SqT K H a vs from SqT.of e2,e3⟩
 | _=>
  obtain ⟨a,vs,e1,e2,e3⟩:=Q6u R r e;exact ⟨false,a,vs,e1,show SqL K H a vs from .inl e2,e3⟩
theorem Qs3 {K:bQ} {t:Bool} {a:aA} {vs:List V} (h:SqK K t H a vs):SqL K H a vs\/SqT K H a vs:=by
 cases t with
 | true=>exact .inr h
 | false=>exact .inl h
mutual
theorem Qfx:∀ {n:Nat} {q:PV} {u:V},Y4 n q=true->Rep H ρ q u->Rep H Tk.nil q u
 | _,.non,_,_,r=>r
 | _,.bl _,_,_,r=>r
 | _,.int _,_,_,r=>r
 | _,.str _,_,_,r=>r
 | 0,.tup _,_,g,_=>by cases g
 | 0,.lst _,_,g,_=>by cases g
 | 0,.fro _,_,g,_=>by cases g
 | n + 1,.tup _,_,g,⟨a,vs,e,h,_,r⟩=>⟨a,vs,e,h,Tk.not_nil _,zu g r⟩
 | n + 1,.lst _,_,g,⟨a,vs,e,h,_,r⟩=>⟨a,vs,e,h,Tk.not_nil _,zu g r⟩
 | n + 1,.fro _,_,g,⟨a,vs,e,h,_,r⟩=>⟨a,vs,e,h,Tk.not_nil _,zu g r⟩
 | 0,.ref _,_,g,_=>by cases g
 | _ + 1,.ref _,_,g,_=>by cases g
 | 0,.dic,_,g,_=>by cases g
 | _ + 1,.dic,_,g,_=>by cases g
theorem zu:∀ {n:Nat} {j:List PV} {us:List V},j.all (Y4 n)=true->RepL H ρ j us->RepL H Tk.nil j us
 | _,[],_,_,r=>r
 | n,q :: j,_,g,⟨v,r,e,h1,h2⟩=>by
  rw [cY,G6] at g;exact ⟨v,r,e,Qfx g.1 h1,zu g.2 h2⟩
end
theorem Q2w (R:Rel H ρ st) {n:Nat} (g:Y4 n (der st p)=true) (r:Rep H ρ p v):Rep H Tk.nil (der st p) v:=by
 cases p with
 | ref i=>
  obtain ⟨a,e1,e2⟩:=r;simp only [der] at g ⊢
  split at g
  ·rename_i ys hs;obtain ⟨b,vs,j,q,z⟩:=R.lst hs;rw [e1] at j; cases j;cases n with
   | zero=>cases g
   | succ n=>exact ⟨a,vs,e2,q,Tk.not_nil _,zu g z⟩
  ·cases n <;> cases g
 | _=>exact Qfx g r
theorem Q4g {mg:Str->Option aB} {E:XK} {Q:VK} {ps:List PV} {vs:List V} (R:Rel H ρ st) (h:Acc mg E H ρ (QV Q) (.ok (.tup ps) st)) (r:RepL H ρ ps vs):∀ p,H p=none->Q (.ref p) (upd H p (.tup vs)):=
 fun p hp=>h _ ρ (Ext.add hp) (R.add hp) _ ⟨p,vs,rfl,Je,R.fresh hp,r.ext (Ext.add hp)⟩
theorem Q6t {mg:Str->Option aB} {E:XK} {Q:VK} {ps:List PV} {vs:List V} (R:Rel H ρ st) (h:Acc mg E H ρ (QV Q) (.ok (.lst ps) st)) (r:RepL H ρ ps vs):∀ p,H p=none->Q (.ref p) (upd H p (.lst vs)):=
 fun p hp=>h _ ρ (Ext.add hp) (R.add hp) _ ⟨p,vs,rfl,Je,R.fresh hp,r.ext (Ext.add hp)⟩
theorem now {mg:Str->Option aB} {E:XK} {Q:VK} {p:PV} (R:Rel H ρ st) (h:Acc mg E H ρ (QV Q) (.ok p st)) (r:Rep H ρ p v):Q v H:=h H ρ (Ext.refl _ _) R v r
end
section
variable {X:Cx} {E:XK} {pos:Pos}
def Q3 (i:Nat):ME:=fun Γ st=>match Γ[i]? with
 | some (some p)=>.ok p st
 | _=>.stuck
def mC (p:PV):ME:=fun _ st=>.ok p st
theorem Q0 (i:Nat) {x:Str} (z:X.N[i]?=some x:=by rfl) (q:Vis X.env.scope x:=by first | exact Or.inl rfl | exact Or.inr (Or.inl rfl) | exact Or.inr (Or.inr rfl)) (hd:(x == ("__debug__" : Str))=false:=by decide)
  (j:(x == ("__classdict__" : Str))=false:=by decide):SimE X E (.Name x pos) (Q3 i):=⟨fun Γ σ H ρ st Q R G h=>WE.of (Qk1 z q hd j) (by
 unfold Q3 at h
 split at h
 ·rename_i p e;obtain ⟨v,e1,r⟩:=G.2 i p e;exact ⟨v,e1,now R h r⟩
 ·exact h.elim)⟩
theorem Qc {i:Int} {j:Nat}:SimE X E (.Constant (.int i) j pos) (mC (.int i)):=⟨fun Γ σ H ρ st Q R G h=>WE.of Qsq (now R h rfl)⟩
theorem Q3b {b:Bool} {j:Nat}:SimE X E (.Constant (.bool b) j pos) (mC (.bl b)):=⟨fun Γ σ H ρ st Q R G h=>WE.of Qvs (now R h rfl)⟩
theorem J4 {x:Str} {j:Nat}:SimE X E (.Constant (.str x) j pos) (mC (.str x)):=⟨fun Γ σ H ρ st Q R G h=>WE.of Q1u (now R h rfl)⟩
theorem Qnp {x:Str} {i:Int} {t:Tok} (q:Gl X x) (j:X.mg x=some (.int i t)) (hd:(x == ("__debug__" : Str))=false:=by decide):SimE X E (.Name x pos) (mC (.int i)):=
 ⟨fun Γ σ H ρ st Q R G h=>WE.of (Qpf q j (v:=.int i) ⟨t,rfl⟩ hd) (now R h rfl)⟩
variable {a b c:aD} {ma mb mc:ME}
def mOp (o:OP) (ma mb:ME):ME:=fun Γ st=>(ma Γ st).bind fun x st1=>(mb Γ st1).bind fun y st2=>o st2 x y
theorem Qcg {f:aB->aB->Sem aB} {o:OP} {Γ:Gam} {σ:St} {H:Hp} {ρ:Tk} {st:Q2} {P:PV->Q2->Hp->Tk->Prop} {Q:VK} (Z:OpS X E f o) (U:SimE X E a ma) (hb:SimE X E b mb) (R:Rel H ρ st) (G:EnvR H ρ Γ σ) (h:Acc X.mg E H ρ P (mOp o ma mb Γ st))
  (k:∀ p j H1 ρ1 v,Ext H ρ H1 ρ1->Rel H1 ρ1 j->Rep H1 ρ1 p v->P p j H1 ρ1->Q v H1):tOp (WO X f) (WE X a) (WE X b) σ H Q:=by
 refine U.use R G h.bind fun p j H1 ρ1 v O R1 G1 Y h1=>?_
 refine hb.use R1 G1 h1.bind fun q a2 H2 a3 u J R2 G2 r2 h2=>?_
 exact Z.use R2 (Y.ext J) r2 h2 fun w B H3 I z x3 R3 r3 p3=>k w B H3 I z (O.trans (J.trans x3)) R3 r3 p3
theorem Jb {op:Operator} {o:OP} (j:OpS X E (aW op) o) (B:SimE X E a ma) (z:SimE X E b mb):SimE X E (.BinOp a op b pos) (mOp o ma mb):=
 ⟨fun Γ σ H ρ st Q R G h=>WE.of (Qvp Qex W2 W2) (Qcg j B z R G h fun _ _ _ _ v _ _ r q=>q v r)⟩
theorem qf {op:CmpOp} {o:OP} (z:OpS X E (aV op) o) (I:SimE X E a ma) (B:SimE X E b mb) (j:bD op b=false:=by first | exact Qkh _ | rfl):SimE X E (.Compare a [op] [b] pos) (mOp o ma mb):=
 ⟨fun Γ σ H ρ st Q R G h=>WE.of (Qpg Qex W2 W2 j) (Qcg z I B R G h fun _ _ _ _ v _ _ r q=>q v r)⟩
def asB (p:PV) (st:Q2):Res Bool:=match p with
 | .bl k=>.ok k st
 | _=>.stuck
def toB (m:ME):Gam->Q2->Res Bool:=fun Γ st=>(m Γ st).bind asB
theorem Qn1 {mg:Str->Option aB} {H:Hp} {ρ:Tk} {st:Q2} {p:PV} {v:V} {P:Bool->Q2->Hp->Tk->Prop} (R:Rel H ρ st) (r:Rep H ρ p v) (h:Acc mg E H ρ P (asB p st)):∃ k,v=.bl k/\P k st H ρ:=by
 cases p with
 | bl k=>exact ⟨k,r,h H ρ (Ext.refl _ _) R⟩
 | _=>exact h.elim
theorem J8 {op:CmpOp} {o:OP} (B:OpS X E (aV op) o) (J:SimE X E a ma) (I:SimE X E b mb) (j:bD op b=false:=by first | exact Qkh _ | rfl):SimT X E (.Compare a [op] [b] pos) (toB (mOp o ma mb)):=
 ⟨fun Γ σ H ρ st Q R G h=>WT.of (Qp2 Qex W2 W2 j) (Qcg B J I R G h.bind fun _ O _ _ v _ U r q=>by
  obtain ⟨k,e,z⟩:=Qn1 U r q;exact ⟨k,e,z⟩)⟩
theorem Vi {e:aD} {m:ME} (h:SimE X E e m) (q:∀ j,isTrue e X.env j=(do let v <- j; standAt e.pos; ag [v] (truthy v)):=by intro _; rfl):SimT X E e (toB m):=
 ⟨fun Γ σ H ρ st Q R G B=>WT.of (Qsb W2 q) (h.use R G B.bind fun p J H1 ρ1 v U O Y I h1=>by
  obtain ⟨k,e,z⟩:=Qn1 O I h1;exact ⟨k,e,z⟩)⟩
def Q21 (o o':OP) (ma mb mc:ME):ME:=fun Γ st=>(ma Γ st).bind fun x st1=>(mb Γ st1).bind fun y st2=>(o st2 x y).bind fun k st3=>match k with
 | .bl true=>(mc Γ st3).bind fun z st4=>o' st4 y z
 | .bl false=>.ok (.bl false) st3
 | _=>.stuck
theorem Qb6 {op B:CmpOp} {o o':OP} {Γ:Gam} {σ:St} {H:Hp} {ρ:Tk} {st:Q2} {P:PV->Q2->Hp->Tk->Prop} {Q:VK} (ho:OpS X E (aV op) o) (Y:OpS X E (aV B) o') (ha:SimE X E a ma) (hb:SimE X E b mb) (hc:SimE X E c mc) (R:Rel H ρ st) (G:EnvR H ρ Γ σ) (h:Acc X.mg E H ρ P (Q21 o o' ma mb mc Γ st))
  (k:∀ p j H1 ρ1 v,Ext H ρ H1 ρ1->Rel H1 ρ1 j->Rep H1 ρ1 p v->P p j H1 ρ1->Q v H1):Qej (WO X (aV op)) (WO X (aV B)) (WE X a) (WE X b) (WE X c) σ H Q:=by
 refine ha.use R G h.bind fun p j H1 ρ1 v x1 R1 G1 r1 h1=>?_
 refine hb.use R1 G1 h1.bind fun q a5 H2 a6 u O R2 G2 r2 h2=>?_
 refine ho.use R2 (r1.ext O) r2 h2.bind fun w a3 H3 I z J R3 r3 h3=>?_
 cases w with
 | bl b=>
  refine ⟨b,r3,?_⟩;cases b with
  | true=>
   rw [bK rfl];refine hc.use R3 (G2.ext J) h3.bind fun y a4 H4 a2 yv x4 R4 G4 r4 h4=>?_
   exact Y.use R4 (r2.ext (J.trans x4)) r4 h4 fun w Z H5 U z x5 R5 r5 p5=>k w Z H5 U z (x1.trans (O.trans (J.trans (x4.trans x5)))) R5 r5 p5
  | false=>
   rw [bL D8];exact k (.bl false) _ H3 I _ (x1.trans (O.trans J)) R3 rfl (h3 H3 I (Ext.refl _ _) R3)
 | _=>exact h3.elim
theorem Qji {op j:CmpOp} {o o':OP} (I:OpS X E (aV op) o) (z:OpS X E (aV j) o') (O:SimE X E a ma) (J:SimE X E b mb) (U:SimE X E c mc) (B:lastMarks [op,j] [b,c]=false:=by with_unfolding_all rfl):SimE X E (.Compare a [op,j] [b,c] pos) (Q21 o o' ma mb mc):=
 ⟨fun Γ σ H ρ st Q R G h=>WE.of (Qk6 Qex Qex W2 W2 W2 B) (Qb6 I z O J U R G h fun _ _ _ _ v _ _ r q=>q v r)⟩
theorem Qcr {op j:CmpOp} {o o':OP} (J:OpS X E (aV op) o) (B:OpS X E (aV j) o') (Y:SimE X E a ma) (O:SimE X E b mb) (U:SimE X E c mc) (I:lastMarks [op,j] [b,c]=false:=by with_unfolding_all rfl):SimT X E (.Compare a [op,j] [b,c] pos) (toB (Q21 o o' ma mb mc)):=
 ⟨fun Γ σ H ρ st Q R G h=>WT.of (Qjr Qex Qex W2 W2 W2 I) (Qb6 J B Y O U R G h.bind fun _ Z _ _ v _ R1 r q=>by
  obtain ⟨k,e,z⟩:=Qn1 R1 r q;exact ⟨k,e,z⟩)⟩
variable {rest:List aD}
def Q6h (ma mb:ME):ME:=fun Γ st=>(ma Γ st).bind fun x st1=>match x with
 | .bl true=>mb Γ st1
 | .bl false=>.ok (.bl false) st1
 | _=>.stuck
def mOr (ma mb:ME):ME:=fun Γ st=>(ma Γ st).bind fun x st1=>match x with
 | .bl true=>.ok (.bl true) st1
 | .bl false=>mb Γ st1
 | _=>.stuck
def Qte (ma:ME):ME:=fun Γ st=>(ma Γ st).bind fun x st1=>match x with
 | .bl k=>.ok (.bl (!k)) st1
 | _=>.stuck
theorem Q1p {op:BoolOp} (j:SimE X E a ma):SimE X E (.BoolOp op [a] pos) ma:=⟨fun Γ σ H ρ st Q R G h=>WE.of (Qsn W2) (j.use R G h fun _ _ _ _ v _ _ _ r q=>q v r)⟩
theorem Q1q (J:SimE X E a ma) (z:SimE X E (.BoolOp .And (b :: rest) pos) mb):SimE X E (.BoolOp .And (a :: b :: rest) pos) (Q6h ma mb):=
 ⟨fun Γ σ H ρ st Q R G h=>WE.of (Qss W2 W2) (J.use R G h.bind fun p O H1 ρ1 v U j B I h1=>by
  cases p with
  | bl k=>
   refine ⟨k,I,?_⟩;cases k with
   | true=>rw [bK rfl]; exact z.use j B h1 fun _ _ _ _ v _ _ _ r q=>q v r
   | false=>rw [bL D8]; exact now j h1 rfl
  | _=>exact h1.elim)⟩
theorem Qv7 (J:SimE X E a ma) (z:SimE X E (.BoolOp .Or (b :: rest) pos) mb):SimE X E (.BoolOp .Or (a :: b :: rest) pos) (mOr ma mb):=
 ⟨fun Γ σ H ρ st Q R G h=>WE.of (Qvn W2 W2) (J.use R G h.bind fun p O H1 ρ1 v U j B I h1=>by
  cases p with
  | bl k=>
   refine ⟨k,I,?_⟩;cases k with
   | true=>rw [bK rfl]; exact now j h1 rfl
   | false=>rw [bL D8]; exact z.use j B h1 fun _ _ _ _ v _ _ _ r q=>q v r
  | _=>exact h1.elim)⟩
theorem Qs4 (q:SimE X E a ma):SimE X E (.UnaryOp .Not a pos) (Qte ma):=
 ⟨fun Γ σ H ρ st Q R G h=>WE.of (Qsp W2) (q.use R G h.bind fun p z H1 ρ1 v I B J j h1=>by
  cases p with
  | bl k=>exact ⟨k,j,now B h1 rfl⟩
  | _=>exact h1.elim)⟩
def Q20 (ma:ME):ME:=fun Γ st=>(ma Γ st).bind fun x st1=>match x with
 | .int k=>.ok (.int (-k)) st1
 | _=>.stuck
theorem jj (q:SimE X E a ma):SimE X E (.UnaryOp .USub a pos) (Q20 ma):=
 ⟨fun Γ σ H ρ st Q R G h=>WE.of (Qvm Qrr W2) (q.use R G h.bind fun p z H1 ρ1 v I B J j h1=>by
  cases p with
  | int k=>exact ⟨k,j,now B h1 rfl⟩
  | _=>exact h1.elim)⟩
abbrev MT:=Gam->Q2->Res Bool
variable {ta tb:MT}
def xj (ta tb:MT):MT:=fun Γ st=>(ta Γ st).bind fun k st1=>if k=true then tb Γ st1 else .ok false st1
def Q45 (ta tb:MT):MT:=fun Γ st=>(ta Γ st).bind fun k st1=>if k=true then .ok true st1 else tb Γ st1
def K6 (ta:MT):MT:=fun Γ st=>(ta Γ st).bind fun k st1=>.ok (!k) st1
theorem SimW.t {e:aD} (h:SimW X E e ta):SimT X E e ta:=⟨fun Γ σ H ρ st Q R G q pins s I=>h.run Γ σ H ρ st Q R G q _ pins s I⟩
theorem Q2n (j:SimT X E a ta):SimW X E (.BoolOp .And [a] pos) ta:=⟨fun Γ σ H ρ st Q R G h=>WW.of (Qny Qd4) (j.use R G h fun _ _ _ _ _ _ _ q=>q)⟩
theorem Q3i (j:SimT X E a ta):SimW X E (.BoolOp .Or [a] pos) ta:=⟨fun Γ σ H ρ st Q R G h=>WW.of (Qs9 Qd4) (j.use R G h fun _ _ _ _ _ _ _ q=>q)⟩
theorem Q4x (I:SimT X E a ta) (z:SimW X E (.BoolOp .And (b :: rest) pos) tb):SimW X E (.BoolOp .And (a :: b :: rest) pos) (xj ta tb):=
 ⟨fun Γ σ H ρ st Q R G h=>WW.of (Qsa Qd4 Qvf) (I.use R G h.bind fun k J H1 ρ1 O j B h1=>by
  cases k with
  | true=>rw [bK rfl] at h1 ⊢; exact z.use j B h1 fun _ _ _ _ _ _ _ q=>q
  | false=>rw [bL D8] at h1 ⊢; exact h1 H1 ρ1 (Ext.refl _ _) j)⟩
theorem Q5v (I:SimT X E a ta) (z:SimW X E (.BoolOp .Or (b :: rest) pos) tb):SimW X E (.BoolOp .Or (a :: b :: rest) pos) (Q45 ta tb):=
 ⟨fun Γ σ H ρ st Q R G h=>WW.of (Qvg Qd4 Qvf) (I.use R G h.bind fun k J H1 ρ1 O j B h1=>by
  cases k with
  | true=>rw [bK rfl] at h1 ⊢; exact h1 H1 ρ1 (Ext.refl _ _) j
  | false=>rw [bL D8] at h1 ⊢; exact z.use j B h1 fun _ _ _ _ _ _ _ q=>q)⟩
theorem Xr (j:SimT X E a ta):SimT X E (.UnaryOp .Not a pos) (K6 ta):=
 ⟨fun Γ σ H ρ st Q R G h=>WT.of (Qsc Qd4) (j.use R G h.bind fun k q H1 ρ1 B z I h1=>h1 H1 ρ1 (Ext.refl _ _) z)⟩
variable {e:aD} {es:List aD} {m:ME} {mr:Gam->Q2->Res (List PV)}
def Qa:Gam->Q2->Res (List PV):=fun _ st=>.ok [] st
def Q4 (m:ME) (mr:Gam->Q2->Res (List PV)):Gam->Q2->Res (List PV):=fun Γ st=>(m Γ st).bind fun p st1=>(mr Γ st1).bind fun ps st2=>.ok (p :: ps) st2
theorem Q6:SimA X E [] Qa:=⟨fun Γ σ H ρ st Q R G h=>WA.of Q7s (h H ρ (Ext.refl _ _) R [] rfl)⟩
theorem Q1 (I:SimE X E e m) (Y:SimA X E es mr) (hs:aO (e :: es) X.env=(false,aL e X.env) :: aO es X.env:=by rfl):SimA X E (e :: es) (Q4 m mr):=
 ⟨fun Γ σ H ρ st Q R G h=>WA.of (Q0j W2 Q3p hs) (I.use R G h.bind fun p O H1 ρ1 v x1 Z z B h1=>Y.use Z z h1.bind fun ps q H2 j vs J R2 G2 U h2=>
  h2 H2 j (Ext.refl _ _) R2 (v :: vs) ⟨v,vs,rfl,B.ext J,U⟩)⟩
def Kb (mr:Gam->Q2->Res (List PV)):ME:=fun Γ st=>(mr Γ st).bind fun ps st1=>if ps.length<=lim then .ok (.tup ps) st1 else .stuck
def Qa7 (mr:Gam->Q2->Res (List PV)):ME:=fun Γ st=>(mr Γ st).bind fun ps st1=>if ps.length<=lim then .ok (.lst ps) st1 else .stuck
theorem Vj {k:Nat} (h:SimA X E es mr):SimE X E (.Tuple es k pos) (Kb mr):=
 ⟨fun Γ σ H ρ st Q R G z=>WE.of (Qsm Q3p) (h.use R G z.bind fun ps B H1 ρ1 vs J I O q h1=>by
  by_cases j:ps.length<=lim
  ·rw [bK j] at h1;exact ⟨by rw [<- q.length]; exact Ke j,Q4g I h1 q⟩
  ·rw [bL j] at h1; exact h1.elim)⟩
theorem Qbm (h:SimA X E es mr):SimE X E (.List es pos) (Qa7 mr):=
 ⟨fun Γ σ H ρ st Q R G z=>WE.of (Qk4 Q3p) (h.use R G z.bind fun ps B H1 ρ1 vs J I O q h1=>by
  by_cases j:ps.length<=lim
  ·rw [bK j] at h1;exact ⟨by rw [<- q.length]; exact Ke j,Q6t I h1 q⟩
  ·rw [bL j] at h1; exact h1.elim)⟩
end
end Sm
namespace HT
open PySem PySem.Spec PyProof.Rows
section
variable {prog:aN} {w:aK} {A:aR} {E:aB->aC->Prop} {s:aC}
theorem getItem_tuple_whole {t sl:aA} {j:Array aB} {U J:aB} {lo hi:Option Int} {Q:aB->aC->Prop} (z:IsTup s.heap t j) (hs:s.heap.IsSliceOf sl U J .none) (pl:IsPart U lo) (Y:IsPart J hi)
  (O:sIx j.size 0 lo=0/\sIx j.size j.size hi=j.size)
  (h:Q (.ref t) s):aI (aJ prog w) A (getItem (.ref t) (.ref sl)) Q E s:=by
 obtain ⟨os,G,I,Z⟩:=id hs;have B:s.TypeIs (.ref sl) "slice" := ⟨os,G,I⟩;unfold getItem
 try with_reducible refine aw ?_
 first | refine aF (aS ?_) | skip
 refine aF (wpAny_sequenceKey z.typeIs (by decide) ?_);refine aF (wpAny_callSpecial?_slot (name:=bP "__getitem__") z.typeIs dY
  (bA dY z.typeIs entry_tuple_getitem ?_ (args_tuple_getitem _ _)))
 show aI _ _ (Builtin.Tuple.tupleItemsOf (.ref t) >>= _) _ _ s;refine aF (tupleItemsOf_ z ?_);refine aF (bH B ?_);rw [bK (by decide)];refine aF (xk hs pl Y ?_);have q:(((sIx j.size 0 lo:Nat):Int) == 0 && (1:Int) == 1 && (sIx j.size j.size hi - sIx j.size 0 lo) == j.size)=true:=by
  rw [O.1,O.2]; simp
 show aI _ _ (if (((sIx j.size 0 lo:Nat):Int) == 0 && (1:Int) == 1 && (sIx j.size j.size hi - sIx j.size 0 lo) == j.size)=true then _ else _) _ _ s;rw [bK q];refine aF (aF (bH z.typeIs (aS ?_)));rw [bK (by rfl)];exact aF (bI (aS ⟨_,rfl,aS h⟩))
end
end HT
namespace L2
open PySem PySem.Spec PyProof.Rows
def Qyg (K:bQ):V->Option Int->Option Int->Hp->VK->Prop:=fun x lo hi H Q=>∃ a xs,x=.ref a/\SqT K H a xs /\
 (HT.sIx xs.length 0 lo=0/\HT.sIx xs.length xs.length hi=xs.length)/\Q (.ref a) H
theorem sl_whole {X:Cx}:SlR X (Qyg X.K):=by
 intro pins s σ H x v Y U lo hi sl Q I O hs pl J h;obtain ⟨a,xs,rfl,B,G,q⟩:=h;cases O;obtain ⟨its,r,z,hz⟩:=I.tuple B;have j:its.toArray.size=xs.length:=by rw [O3]; exact r.length.symm
 refine ⟨"tuple",_,PyProof.Rows.slot_tuple_getitem.lookup,z.typeIs,?_⟩;exact HT.getItem_tuple_whole z hs pl J (by rw [j]; exact G) ⟨.ref a,H,I,rfl,q⟩
end L2
namespace Sm
open PySem PySem.Spec L2
section
variable {X:Cx} {E:XK} {pos:Pos}
def oI (g:Int->Int->PV):OP:=fun st p q=>match p,q with
 | .int a,.int b=>.ok (g a b) st
 | _,_=>.stuck
def Wi:OP:=fun st p q=>match p,q with
 | .int a,.int b=>.ok (.int (a + b)) st
 | .str a,.str b=>if a.length + b.length<=lim then .ok (.str (a ++ b)) st else .stuck
 | .tup xs,.tup ys=>if xs.length + ys.length<=lim then .ok (.tup (xs ++ ys)) st else .stuck
 | p,q=>match Q22 st p,Q22 st q with
  | some xs,some ys=>if xs.length + ys.length<=lim then .ok (.lst (xs ++ ys)) st else .stuck
  | _,_=>.stuck
theorem Zb:OpS X E (aW .Add) Wi:=⟨fun H ρ st p q x y Q R J O h=>by
 unfold Wi at h
 split at h
 ·cases J; cases O;exact WO.of Qt5 ⟨_,_,rfl,rfl,now R h rfl⟩
 ·cases J; cases O
  split at h
  ·rename_i B;exact WO.of Qey ⟨_,_,rfl,rfl,Ke B,now R h rfl⟩
  ·exact h.elim
 ·split at h
  ·rename_i xs ys B;obtain ⟨a,vs,rfl,I,U,j⟩:=J;obtain ⟨b,us,rfl,G,Y,rb⟩:=O;refine WO.of Qpq ?_
   by_cases e:xs=[]
   ·subst e;cases j;exact .inr ⟨a,b,us,rfl,rfl,SqT.of I,SqT.of G,now R h ⟨b,us,rfl,G,Y,rb⟩⟩
   ·refine .inl ⟨a,b,vs,us,rfl,rfl,SqT.of I,SqT.of G,fun z=>e ?_,by rw [<- j.length,<- rb.length]; exact Ke B,fun z=>?_,fun z=>Q4g R h (j.append rb)⟩
    ·subst z;cases xs with
     | nil=>rfl
     | cons _ _=>have:=j.length; simp at this
    ·subst z;have:ys=[]:=by
      cases ys with
      | nil=>rfl
      | cons _ _=>have:=rb.length; simp at this
     subst this;rw [bu] at h;exact now R h ⟨a,vs,rfl,I,U,j⟩
  ·exact h.elim
 ·split at h
  ·rename_i xs ys e1 e2
   split at h
   ·rename_i B;obtain ⟨a,vs,rfl,I,j⟩:=Q8g R J e1;obtain ⟨b,us,rfl,G,rb⟩:=Q8g R O e2;exact WO.of Qt4 ⟨a,b,vs,us,rfl,rfl,I,G,by rw [<- j.length,<- rb.length]; exact Ke B,Q6t R h (j.append rb)⟩
   ·exact h.elim
  ·exact h.elim⟩
theorem zw:OpS X E (aW .Sub) (oI fun a b=>.int (a - b)):=⟨fun H ρ st p q x y Q R j z h=>by
 unfold oI at h
 split at h
 ·cases j; cases z;exact WO.of Qsy ⟨_,_,rfl,rfl,now R h rfl⟩
 ·exact h.elim⟩
def Q6f:OP:=fun st p q=>match p,q with
 | .int a,.int b=>if (-(2 ^ 64) < a/\a < 2 ^ 64)\/(-(2 ^ 64) < b/\b < 2 ^ 64) then .ok (.int (a * b)) st else .stuck
 | .tup xs,.int b=>if xs≠[]/\1<=b/\xs.length * b.toNat<=4096 then .ok (.tup (bR b.toNat xs).flatten) st else .stuck
 | p,.int b=>match Q22 st p with
  | some xs=>if -(2 ^ 63)<=b/\b < 2 ^ 63/\xs.length * b.toNat<=lim then .ok (.lst (bR b.toNat xs).flatten) st else .stuck
  | none=>.stuck
 | _,_=>.stuck
theorem Q56:OpS X E (aW .Mult) Q6f:=⟨fun H ρ st p q x y Q R I J h=>by
 unfold Q6f at h
 split at h
 ·cases I; cases J
  split at h
  ·rename_i j;exact WO.of Qt1 ⟨_,_,rfl,rfl,j,now R h rfl⟩
  ·exact h.elim
 ·cases J
  split at h
  ·rename_i xs b j;obtain ⟨a,vs,rfl,G,O,B⟩:=I;refine WO.of Qpn ⟨a,b,vs,rfl,rfl,SqT.of G,fun z=>j.1 ?_,j.2.1,by rw [<- B.length]; exact j.2.2,fun z=>?_,fun z=>Q4g R h (B.rep _)⟩
   ·subst z;cases xs with
    | nil=>rfl
    | cons _ _=>have:=B.length; simp at this
   ·subst z;have e1:(bR (Int.toNat 1) xs).flatten=xs:=by simp
    rw [e1] at h;exact now R h ⟨a,vs,rfl,G,O,B⟩
  ·exact h.elim
 ·cases J
  split at h
  ·rename_i xs e1
   split at h
   ·rename_i j;obtain ⟨a,vs,rfl,G,B⟩:=Q8g R I e1;exact WO.of Qsz ⟨a,_,vs,rfl,rfl,G,j.1,j.2.1,by rw [<- B.length]; exact Ke j.2.2,Q6t R h (B.rep _)⟩
   ·exact h.elim
  ·exact h.elim
 ·exact h.elim⟩
def Q38:OP:=fun st p q=>match p,q with
 | .int a,.int b=>if 0 < b then .ok (.int (a % b)) st else .stuck
 | _,_=>.stuck
theorem Q0k:OpS X E (aW .Mod) Q38:=⟨fun H ρ st p q x y Q R j z h=>by
 unfold Q38 at h
 split at h
 ·cases j; cases z
  split at h
  ·rename_i B;exact WO.of Qt2 ⟨_,_,rfl,rfl,B,now R h rfl⟩
  ·exact h.elim
 ·exact h.elim⟩
def Qpv:OP:=fun st p q=>match p,q with
 | .int a,.int b=>if 0 < b/\b < 1073741824 then .ok (.int (a / b)) st else .stuck
 | _,_=>.stuck
theorem Qsw:OpS X E (aW .FloorDiv) Qpv:=⟨fun H ρ st p q x y Q R j z h=>by
 unfold Qpv at h
 split at h
 ·cases j; cases z
  split at h
  ·rename_i B;exact WO.of Qpp ⟨_,_,rfl,rfl,B,now R h rfl⟩
  ·exact h.elim
 ·exact h.elim⟩
def Qkf:OP:=fun st p q=>match p,q with
 | .int a,.int b=>if 0<=b/\b<=1000000/\a.natAbs < 2 ^ 64 then .ok (.int (a ^ b.toNat)) st else .stuck
 | _,_=>.stuck
theorem Qsv:OpS X E (aW .Pow) Qkf:=⟨fun H ρ st p q x y Q R j z h=>by
 unfold Qkf at h
 split at h
 ·cases j; cases z
  split at h
  ·rename_i B;exact WO.of Qt0 ⟨_,_,rfl,rfl,B,now R h rfl⟩
  ·exact h.elim
 ·exact h.elim⟩
theorem Qf0 {op:CmpOp} {g:Int->Int->Bool} (z:OpR X (aV op) (rI0 fun i j=>.bl (g i j))):OpS X E (aV op) (oI fun a b=>.bl (g a b)):=⟨fun H ρ st p q x y Q R B G h=>by
 unfold oI at h
 split at h
 ·cases B; cases G;exact WO.of z ⟨_,_,rfl,rfl,now R h rfl⟩
 ·exact h.elim⟩
theorem Qar:OpS X E (aV .LtE) (oI fun a b=>.bl (decide (a<=b))):=Qf0 Qvv
theorem Q7t:OpS X E (aV .Gt) (oI fun a b=>.bl (decide (b < a))):=Qf0 Qvw
theorem Qr9:OpS X E (aV .GtE) (oI fun a b=>.bl (decide (b<=a))):=Qf0 Qvx
def xg:List PV->Option (List Int)
 | []=>some []
 | .int i :: ps=>(xg ps).map (i :: ·)
 | _ :: _=>none
def Q63:List PV->Option (List Bool)
 | []=>some []
 | .bl i :: ps=>(Q63 ps).map (i :: ·)
 | _ :: _=>none
theorem Qdy (ns:List Int):xg (ns.map .int)=some ns:=by
 induction ns with
 | nil=>rfl
 | cons n ns j=>rw [F4,xg,j]; rfl
theorem Qqx (ns:List Bool):Q63 (ns.map .bl)=some ns:=by
 induction ns with
 | nil=>rfl
 | cons n ns j=>rw [F4,Q63,j]; rfl
theorem Q6v:∀ {ps:List PV} {ns:List Int},xg ps=some ns->ps=ns.map .int
 | [],ns,h=>by cases h; rfl
 | .int i :: ps,ns,h=>by
  rw [xg] at h;cases e:xg ps with
  | none=>rw [e] at h; cases h
  | some ms=>rw [e] at h; cases h; rw [Q6v e]; rfl
 | .non :: _,_,h | .bl _ :: _,_,h | .str _ :: _,_,h | .tup _ :: _,_,h | .lst _ :: _,_,h | .fro _ :: _,_,h | .ref _ :: _,_,h | .dic :: _,_,h=>by cases h
theorem Qmw:∀ {ps:List PV} {ns:List Bool},Q63 ps=some ns->ps=ns.map .bl
 | [],ns,h=>by cases h; rfl
 | .bl i :: ps,ns,h=>by
  rw [Q63] at h;cases e:Q63 ps with
  | none=>rw [e] at h; cases h
  | some ms=>rw [e] at h; cases h; rw [Qmw e]; rfl
 | .non :: _,_,h | .int _ :: _,_,h | .str _ :: _,_,h | .tup _ :: _,_,h | .lst _ :: _,_,h | .fro _ :: _,_,h | .ref _ :: _,_,h | .dic :: _,_,h=>by cases h
def oLt:OP:=fun st p q=>match p,q with
 | .int a,.int b=>.ok (.bl (decide (a < b))) st
 | .tup xs,.tup ys=>match xg xs,xg ys with
  | some ns,some ms=>.ok (.bl (HT.lexLt ns ms)) st
  | _,_=>.stuck
 | _,_=>.stuck
theorem Q1v (J:X.A.units + 64 < ac):OpS X E (aV .Lt) oLt:=⟨fun H ρ st p q x y Q R B I h=>by
 unfold oLt at h
 split at h
 ·cases B; cases I;exact WO.of Qvu ⟨_,_,rfl,rfl,now R h rfl⟩
 ·split at h
  ·rename_i ns ms e1 e2;obtain ⟨a,vs,rfl,G,O,z⟩:=B;obtain ⟨b,us,rfl,j,U,rb⟩:=I;rw [Q6v e1] at z;rw [Q6v e2] at rb;rw [z.toInts] at G;rw [rb.toInts] at j;exact WO.of (Qt3 (by omega)) ⟨a,b,ns,ms,rfl,rfl,SqT.of G,SqT.of j,now R h rfl⟩
  ·exact h.elim
 ·exact h.elim⟩
def dep:Nat:=12
def oEq:OP:=fun st p q=>if Y4 dep (der st p)=true/\Y4 dep (der st q)=true then .ok (.bl (peq (der st p) (der st q))) st else .stuck
def oNe:OP:=fun st p q=>if Y4 dep (der st p)=true/\Y4 dep (der st q)=true then .ok (.bl (!peq (der st p) (der st q))) st else .stuck
theorem Wk (J:X.A.units + 64 < ac):OpS X E (aV .Eq) oEq:=⟨fun H ρ st p q x y Q R z G h=>by
 unfold oEq at h
 split at h
 ·rename_i g;intro pins s σ v u I j B;exact (Qgi dep I g.1 g.2 (by unfold dep; omega) (Q2w R g.1 z) j (Q2w R g.2 G) B).2.1 _ _ _ _ ⟨.bl _,H,I,rfl,now R h rfl⟩
 ·exact h.elim⟩
theorem Q3c (J:X.A.units + 64 < ac):OpS X E (aV .NotEq) oNe:=⟨fun H ρ st p q x y Q R z G h=>by
 unfold oNe at h
 split at h
 ·rename_i g;intro pins s σ v u I j B;exact (Qgi dep I g.1 g.2 (by unfold dep; omega) (Q2w R g.1 z) j (Q2w R g.2 G) B).2.2 _ _ _ _ ⟨.bl _,H,I,rfl,now R h rfl⟩
 ·exact h.elim⟩
def Qza:PV->Bool
 | .non=>true
 | _=>false
def oIn (neg:Bool):OP:=fun st p q=>match qe st q with
 | some xs=>if Y4 dep (der st p)=true/\xs.all (Y4 dep)=true then .ok (.bl ((xs.any fun y=>peq y (der st p)) != neg)) st else .stuck
 | none=>.stuck
open Classical in
theorem Qdz {pins:List (aA × Obj)} {σ:St} {H:Hp} {ρ:Tk} {s:aC} {A:aR} {st:Q2} {p:PV} {xs:List PV} {x:V} {v:aB} {vs:List V} {its:List aB} (I:Inv X pins σ H s) (Z:A.units + dep < ac) (R:Rel H ρ st)
  (gp:Y4 dep (der st p)=true) (gx:xs.all (Y4 dep)=true) (rp:Rep H ρ p x) (rv:RelV x v) (ra:RepL H ρ xs vs) (U:Vals vs its):∃ e:aB->Bool,(∀ u,u∈its.toArray->SeqAt.EqAt A s u v (e u))/\its.toArray.any e=xs.any fun y=>peq y (der st p):=by
 have a2:∀ u∈its,∃ q∈xs,∃ y,Rep H Tk.nil q y/\RelV y u:=fun u Z=>by
  obtain ⟨j,Y,rfl⟩:=di Z;have l1:=U.length;have l2:=ra.length;obtain ⟨y,e1,e2⟩:=(zu gx ra).get (O4 (show j < xs.length by omega));obtain ⟨w,e3,e4⟩:=U.get e1;rw [O4 Y] at e3; cases e3;exact ⟨_,dg _,y,e2,e4⟩
 refine ⟨fun u=>decide (∃ q∈xs,∃ y,Rep H Tk.nil q y/\RelV y u/\peq q (der st p)=true),fun u hm=>?_,?_⟩
 ·have a3:u∈its:=by simpa using hm
  by_cases z:∃ q∈xs,∃ y,Rep H Tk.nil q y/\RelV y u/\peq q (der st p)=true
  ·show SeqAt.EqAt A s u v (decide _);rw [bO z];obtain ⟨q,B,y,J,O,e⟩:=z;have:=(Qgi dep I ((bx.mp gx) q B) gp Z J O (Q2w R gp rp) rv).1;rw [e] at this;exact this
  ·show SeqAt.EqAt A s u v (decide _);rw [bN z];obtain ⟨q,B,y,J,O⟩:=a2 u a3;have:=(Qgi dep I ((bx.mp gx) q B) gp Z J O (Q2w R gp rp) rv).1;cases e:peq q (der st p) with
   | true=>exact absurd ⟨q,B,y,J,O,e⟩ z
   | false=>rw [e] at this; exact this
 ·rw [dH,Array.any_eq_true,dI];constructor
  ·rintro ⟨j,Y,e⟩;obtain ⟨q,B,y,J,O,e⟩:=of_decide_eq_true e;exact ⟨q,B,e⟩
  ·rintro ⟨q,B,e⟩;obtain ⟨j,Y,rfl⟩:=di B;have l1:=U.length;have l2:=ra.length;have G:j < its.length:=by omega
   obtain ⟨y,e1,e2⟩:=(zu gx ra).get (O4 Y);obtain ⟨w,e3,e4⟩:=U.get e1;refine ⟨j,by simpa using G,bO ⟨_,B,y,e2,?_,e⟩⟩;rw [O4 G] at e3; cases e3;simpa using e4
theorem Q4c (Z:X.A.units + 64 < ac):OpS X E (aV .NotIn) (oIn true):=⟨fun H ρ st p q x y Q R J Y h=>by
 unfold oIn at h
 split at h
 ·rename_i xs es
  split at h
  ·rename_i g;obtain ⟨t,a,vs,rfl,O,G⟩:=Q7h (K:=X.K) R Y es;intro pins s σ v u I B U;cases U;rw [Bool.bne_true] at h;cases t with
   | true=>
    obtain ⟨its,r,pl,hz⟩:=I.tuple O;obtain ⟨e,j,z⟩:=Qdz (A:=X.A.in1) I (by show X.A.units + 1 + dep < ac; unfold dep; omega) R g.1 g.2 J B G r;refine SeqAt.notIn_tupleAt e pl j ⟨.bl _,H,I,rfl,?_⟩;rw [z];exact now R h rfl
   | false=>
    obtain ⟨its,r,pl,hz⟩:=I.list O;obtain ⟨e,j,z⟩:=Qdz (A:=X.A.in1) I (by show X.A.units + 1 + dep < ac; unfold dep; omega) R g.1 g.2 J B G r;refine SeqAt.notIn_listAt e pl.isList j ⟨.bl _,H,I,rfl,?_⟩;rw [z];exact now R h rfl
  ·exact h.elim
 ·exact h.elim⟩
end
section
variable {H:Hp} {ρ:Tk}
theorem RepL.atI {ps:List PV} {vs:List V} {i:Int} {p:PV} (r:RepL H ρ ps vs) (e:atI ps i=some p):∃ v,L2.atI vs i=some v/\Rep H ρ p v:=by
 unfold L2.atI at e ⊢;rw [<- r.length];cases q:ixN ps.length i with
 | none=>rw [q] at e; cases e
 | some j=>
  rw [q] at e;exact r.get e
def cut {α:Type} (xs:List α) (lo hi:Option Int):List α:=(xs.drop (HT.sIx xs.length 0 lo)).take (HT.sIx xs.length xs.length hi - HT.sIx xs.length 0 lo)
theorem RepL.cut {ps:List PV} {vs:List V} (r:RepL H ρ ps vs) (lo hi:Option Int):RepL H ρ (Sm.cut ps lo hi) (Qe4 vs lo hi):=by
 unfold Sm.cut Qe4;rw [<- r.length];exact (r.drop _).take _
end
section
variable {X:Cx} {E:XK} {pos:Pos} {a b:aD} {ma mb:ME}
def oIx:OP:=fun st p q=>match qe st p,q with
 | some xs,.int i=>okO st (atI xs i)
 | _,_=>.stuck
theorem Qu (O:SimE X E a ma) (hb:SimE X E b mb) (hs:Qgu b:=by exact fun _ _=>rfl):SimE X E (.Subscript a b pos) (mOp oIx ma mb):=
 ⟨fun Γ σ H ρ st Q R G h=>WE.of (Qvq Qtr W2 W2 hs) (O.use R G h.bind fun p a2 H1 ρ1 v x1 R1 G1 U h1=>hb.use R1 G1 h1.bind fun q a3 H2 a4 u Y R2 G2 r2 h2=>by
  unfold oIx at h2
  split at h2
  ·rename_i xs i e;cases r2;cases j:atI xs i with
   | none=>rw [j] at h2; exact h2.elim
   | some w=>
    rw [j] at h2;obtain ⟨t,b,vs,rfl,J,Z⟩:=Q7h (K:=X.K) R2 (U.ext Y) e;obtain ⟨z,B,I⟩:=Z.atI j;cases t with
    | true=>exact .inr (.inl ⟨b,vs,i,z,rfl,rfl,J,B,now R2 h2 I⟩)
    | false=>exact .inl ⟨b,vs,i,z,rfl,rfl,J,B,now R2 h2 I⟩
  ·exact h2.elim)⟩
structure SimO (X:Cx) (E:XK) (o:Option aD) (m:Gam->Q2->Res (Option Int)):Prop where
 run:∀ (Γ:Gam) (σ:St) (H:Hp) (ρ:Tk) (st:Q2) (P:Option Int->Q2->Hp->Tk->Prop) (Q:Option Int->Hp->Prop),Rel H ρ st->EnvR H ρ Γ σ->Acc X.mg E H ρ P (m Γ st) ->
  (∀ i st1 H1 ρ1,Ext H ρ H1 ρ1->Rel H1 ρ1 st1->EnvR H1 ρ1 Γ σ->P i st1 H1 ρ1->Q i H1)->∃ t,PO X o t/\t σ H Q
def V6:Gam->Q2->Res (Option Int):=fun _ st=>.ok none st
def Kc (m:ME):Gam->Q2->Res (Option Int):=fun Γ st=>(m Γ st).bind fun p st1=>match p with
 | .int i=>.ok (some i) st1
 | _=>.stuck
theorem j4:SimO X E none V6:=⟨fun Γ σ H ρ st P Q R G h k=>⟨_,Qp6,k none st H ρ (Ext.refl _ _) R G (h H ρ (Ext.refl _ _) R)⟩⟩
theorem Xm (J:SimE X E a ma):SimO X E (some a) (Kc ma):=⟨fun Γ σ H ρ st P Q R G h k=>⟨_,Qp5 W2,J.use R G h.bind fun p j H1 ρ1 v z q B I h1=>by
 cases p with
 | int i=>exact ⟨i,I,k (some i) j H1 ρ1 z q B (h1 H1 ρ1 (Ext.refl _ _) q)⟩
 | _=>exact h1.elim⟩⟩
def oSl (st:Q2) (p:PV) (lo hi:Option Int):Res PV:=match p with
 | .tup xs=>.ok (.tup (cut xs lo hi)) st
 | p=>match Q0y st p with
  | some xs=>.ok (.lst (cut xs lo hi)) st
  | none=>.stuck
def mSl (ma:ME) (ml mh:Gam->Q2->Res (Option Int)):ME:=fun Γ st=>(ma Γ st).bind fun p st1=>(ml Γ st1).bind fun lo st2=>(mh Γ st2).bind fun hi st3=>oSl st3 p lo hi
def TO.w (X:Cx) (o:Option aD):TO:=fun σ H Q=>∃ t,PO X o t/\t σ H Q
theorem Qvj {o:Option aD}:PO X o (TO.w X o):=fun pins s σ H Q I ⟨t,h,q⟩=>h pins s σ H Q I q
theorem Ud {lo hi:Option aD} {Y Z:Gam->Q2->Res (Option Int)} {p2:Pos} (q:SimE X E a ma) (hl:SimO X E lo Y) (hh:SimO X E hi Z):SimE X E (.Subscript a (.Slice lo hi none p2) pos) (mSl ma Y Z):=
 ⟨fun Γ σ H ρ st Q R G h=>WE.of (Qk2 (sl_tup.or (sl_whole.or Qni)) W2 Qvj Qvj) (q.use R G h.bind fun p J H1 ρ1 v x1 R1 G1 r1 h1=>by
  refine hl.run Γ σ H1 ρ1 J _ _ R1 G1 h1.bind fun l O H2 U x2 R2 G2 h2=>?_
  refine hh.run Γ σ H2 U O _ _ R2 G2 h2.bind fun u a2 H3 a3 x3 I G3 j=>?_
  have r3:=r1.ext (x2.trans x3);unfold oSl at j
  split at j
  ·rename_i xs;obtain ⟨a,vs,rfl,q,na,z⟩:=r3
   by_cases B:HT.sIx vs.length 0 l=0/\HT.sIx vs.length vs.length u=vs.length
   ·refine .inr (.inl ⟨a,vs,rfl,SqT.of q,B,?_⟩);have e:cut xs l u=xs:=by
     unfold cut;rw [z.length,B.1,B.2,dl,gK,<- z.length,eu]
    rw [e] at j;exact now I j ⟨a,vs,rfl,q,na,z⟩
   ·exact .inl ⟨a,vs,rfl,SqT.of q,B,Q4g I j (z.cut l u)⟩
  ·split at j
   ·rename_i xs e;obtain ⟨a,vs,rfl,q,z⟩:=Q6u I r3 e;exact .inr (.inr ⟨a,vs,rfl,.inl q,Q6t I j (z.cut l u)⟩)
   ·exact j.elim)⟩
variable {es:List aD} {e:aD} {mr:Gam->Q2->Res (List PV)}
def J6 (o:CF) (mr:Gam->Q2->Res (List PV)):ME:=fun Γ st=>(mr Γ st).bind fun ps st1=>o st1 ps
theorem CallS.use {f:aB} {o:CF} (s:CallS X E f o) {P:PV->Q2->Hp->Tk->Prop} {Q:VK} {H:Hp} {ρ:Tk} {st:Q2} {ps:List PV} {xs:List V} (R:Rel H ρ st) (G:RepL H ρ ps xs) (h:Acc X.mg E H ρ P (o st ps))
  (k:∀ p j H1 ρ1 v,Ext H ρ H1 ρ1->Rel H1 ρ1 j->Rep H1 ρ1 p v->P p j H1 ρ1->Q v H1):WC X f xs H Q:=by
 refine s.run H ρ st ps xs Q R G ?_;cases r:o st ps with
 | ok p j=>rw [r] at h; exact fun H' ρ' z q v B=>k p j H' ρ' v z q B (h H' ρ' z q)
 | exc e st=>rw [r] at h; exact h
 | stuck=>rw [r] at h; exact h
theorem Qw {id:String} {x:Str} {p:Pos} {o:CF} (hc:CallS X E (.builtin id) o) (O:Gl X x) (J:X.mg x=none) (I:aa x=some (.builtin id)) (Y:SimA X E (e :: es) mr) (U:x≠"__name__" := by decide) (z:(x == ("__debug__" : Str))=false:=by decide)
  (B:aO (e :: es) X.env=(false,aL e X.env) :: aO es X.env:=by rfl) (j:(aU pos (aO es X.env)).any (·.1)=false:=by rfl):SimE X E (.Call (.Name x p) (e :: es) [] pos) (J6 o mr):=
 ⟨fun Γ σ H ρ st Q R G h=>WE.of (Qd8 Qmi O J I Q3p U z B j) (Y.use R G h.bind fun ps a2 H1 ρ1 vs x1 R1 G1 Z h1=>hc.use R1 Z h1 fun _ _ _ _ v _ _ r q=>q v r)⟩
theorem j9 {T:String} {x:Str} {p:Pos} {o:CF} (hc:CallS X E (.type T) o) (O:Gl X x) (J:X.mg x=none) (I:aa x=some (.type T)) (Y:SimA X E (e :: es) mr) (U:x≠"__name__" := by decide) (z:(x == ("__debug__" : Str))=false:=by decide)
  (B:aO (e :: es) X.env=(false,aL e X.env) :: aO es X.env:=by rfl) (j:(aU pos (aO es X.env)).any (·.1)=false:=by rfl):SimE X E (.Call (.Name x p) (e :: es) [] pos) (J6 o mr):=
 ⟨fun Γ σ H ρ st Q R G h=>WE.of (Qhj Qmi O J I Q3p U z B j) (Y.use R G h.bind fun ps a2 H1 ρ1 vs x1 R1 G1 Z h1=>hc.use R1 Z h1 fun _ _ _ _ v _ _ r q=>q v r)⟩
theorem Ve {H:Hp} {ρ:Tk} {p:PV} {xs:List V} (r:RepL H ρ [p] xs):∃ v,xs=[v]/\Rep H ρ p v:=by
 obtain ⟨v,t,rfl,h1,h2⟩:=r;cases h2;exact ⟨v,rfl,h1⟩
theorem Q4a {H:Hp} {ρ:Tk} {p q:PV} {xs:List V} (r:RepL H ρ [p,q] xs):∃ v u,xs=[v,u]/\Rep H ρ p v/\Rep H ρ q u:=by
 obtain ⟨v,t,rfl,h1,h2⟩:=r;obtain ⟨u,rfl,j⟩:=Ve h2;exact ⟨v,u,rfl,h1,j⟩
def Yw:CF:=fun st ps=>match ps with
 | [p]=>match qe st p with
  | some xs=>.ok (.int xs.length) st
  | none=>match p with
   | .str x=>if x.length<=lim then .ok (.int x.length) st else .stuck
   | _=>.stuck
 | _=>.stuck
theorem Yp:CallS X E (.builtin "len") Yw:=⟨fun H ρ st ps xs Q R j h=>by
 unfold Yw at h
 split at h
 ·rename_i p;obtain ⟨v,rfl,r⟩:=Ve j
  split at h
  ·rename_i ys e;obtain ⟨t,a,vs,rfl,z,B⟩:=Q7h (K:=X.K) R r e;rw [B.length] at h;exact WC.of Qcf ⟨a,vs,rfl,Qs3 z,now R h rfl⟩
  ·split at h
   ·cases r
    split at h
    ·rename_i q;exact WC.of Qce ⟨_,rfl,Ke q,now R h rfl⟩
    ·exact h.elim
   ·exact h.elim
 ·exact h.elim⟩
def Vt (g:List Int->Option PV):CF:=fun st ps=>match ps with
 | [p]=>match (qe st p).bind xg with
  | some ns=>okO st (g ns)
  | none=>.stuck
 | _=>.stuck
def Q39 (g:List Bool->PV):CF:=fun st ps=>match ps with
 | [p]=>match (qe st p).bind Q63 with
  | some ns=>.ok (g ns) st
  | none=>.stuck
 | _=>.stuck
theorem Q8q {K:bQ} {H:Hp} {ρ:Tk} {st:Q2} {p:PV} {v:V} {ns:List Int} (R:Rel H ρ st) (r:Rep H ρ p v) (e:(qe st p).bind xg=some ns):∃ (t:Bool) (a:aA),v=.ref a/\SqK K t H a (ns.map V.int):=by
 cases q:qe st p with
 | none=>rw [q] at e; cases e
 | some xs=>
  rw [q] at e;obtain ⟨t,a,vs,rfl,j,z⟩:=Q7h (K:=K) R r q;rw [Q6v e] at z;rw [z.toInts] at j;exact ⟨t,a,rfl,j⟩
theorem Qgq {K:bQ} {H:Hp} {ρ:Tk} {st:Q2} {p:PV} {v:V} {ns:List Bool} (R:Rel H ρ st) (r:Rep H ρ p v) (e:(qe st p).bind Q63=some ns):∃ (t:Bool) (a:aA),v=.ref a/\SqK K t H a (ns.map V.bl):=by
 cases q:qe st p with
 | none=>rw [q] at e; cases e
 | some xs=>
  rw [q] at e;obtain ⟨t,a,vs,rfl,j,z⟩:=Q7h (K:=K) R r q;rw [Qmw e] at z;rw [z.toBls] at j;exact ⟨t,a,rfl,j⟩
theorem Q15 (z:X.calm=true):CallS X E (.builtin "sum") (Vt fun ns=>some (.int ns.sum)):=⟨fun H ρ st ps xs Q R j h=>by
 unfold Vt at h
 split at h
 ·obtain ⟨v,rfl,r⟩:=Ve j
  split at h
  ·rename_i ns e;obtain ⟨t,a,rfl,q⟩:=Q8q (K:=X.K) R r e;exact WC.of (Qmj t z) ⟨a,ns,rfl,q,now R h rfl⟩
  ·exact h.elim
 ·exact h.elim⟩
theorem Q8z (z:X.calm=true):CallS X E (.builtin "all") (Q39 fun ns=>.bl (ns.all id)):=⟨fun H ρ st ps xs Q R j h=>by
 unfold Q39 at h
 split at h
 ·obtain ⟨v,rfl,r⟩:=Ve j
  split at h
  ·rename_i ns e;obtain ⟨t,a,rfl,q⟩:=Qgq (K:=X.K) R r e;exact WC.of (Qmm t z) ⟨a,ns,rfl,q,now R h rfl⟩
  ·exact h.elim
 ·exact h.elim⟩
theorem Qme (z:X.calm=true):CallS X E (.builtin "any") (Q39 fun ns=>.bl (ns.any id)):=⟨fun H ρ st ps xs Q R j h=>by
 unfold Q39 at h
 split at h
 ·obtain ⟨v,rfl,r⟩:=Ve j
  split at h
  ·rename_i ns e;obtain ⟨t,a,rfl,q⟩:=Qgq (K:=X.K) R r e;exact WC.of (Qmk t z) ⟨a,ns,rfl,q,now R h rfl⟩
  ·exact h.elim
 ·exact h.elim⟩
def maxI:List Int->Option Int
 | []=>none
 | n :: ns=>some (ns.foldl (fun a b=>if b > a then b else a) n)
def Qyt:List Int->Option Int
 | []=>none
 | n :: ns=>some (ns.foldl (fun a b=>if b < a then b else a) n)
theorem Qb0:∀ (ns:List Int) (n:Int),(ns.foldl (fun a b=>if b > a then b else a) n=n\/ns.foldl (fun a b=>if b > a then b else a) n∈ns)/\n<=ns.foldl (fun a b=>if b > a then b else a) n/\∀ k∈ns,k<=ns.foldl (fun a b=>if b > a then b else a) n
 | [],n=>⟨.inl rfl,bf _,fun k h=>by cases h⟩
 | m :: ns,n=>by
  obtain ⟨h1,h2,z⟩:=Qb0 ns (if m > n then m else n);rw [cr];refine ⟨?_,?_,fun k q=>?_⟩
  ·rcases h1 with e | e
   ·by_cases j:m > n
    ·rw [bK j] at e ⊢; exact .inr (by rw [e]; exact D3)
    ·rw [bL j] at e ⊢; exact .inl e
   ·exact .inr (D0 _ e)
  ·by_cases j:m > n
   ·rw [bK j] at h2 ⊢; omega
   ·rw [bL j] at h2 ⊢; exact h2
  ·rcases E7.mp q with rfl | q
   ·by_cases j:k > n
    ·rw [bK j] at h2 ⊢; exact h2
    ·rw [bL j] at h2 ⊢; omega
   ·exact z k q
theorem Qaz:∀ (ns:List Int) (n:Int),(ns.foldl (fun a b=>if b < a then b else a) n=n\/ns.foldl (fun a b=>if b < a then b else a) n∈ns)/\ns.foldl (fun a b=>if b < a then b else a) n<=n/\∀ k∈ns,ns.foldl (fun a b=>if b < a then b else a) n<=k
 | [],n=>⟨.inl rfl,bf _,fun k h=>by cases h⟩
 | m :: ns,n=>by
  obtain ⟨h1,h2,z⟩:=Qaz ns (if m < n then m else n);rw [cr];refine ⟨?_,?_,fun k q=>?_⟩
  ·rcases h1 with e | e
   ·by_cases j:m < n
    ·rw [bK j] at e ⊢; exact .inr (by rw [e]; exact D3)
    ·rw [bL j] at e ⊢; exact .inl e
   ·exact .inr (D0 _ e)
  ·by_cases j:m < n
   ·rw [bK j] at h2 ⊢; omega
   ·rw [bL j] at h2 ⊢; exact h2
  ·rcases E7.mp q with rfl | q
   ·by_cases j:k < n
    ·rw [bK j] at h2 ⊢; exact h2
    ·rw [bL j] at h2 ⊢; omega
   ·exact z k q
def Q93:CF:=fun st ps=>match ps with
 | [.int a,.int b]=>.ok (.int (if b > a then b else a)) st
 | ps=>Vt (fun ns=>(maxI ns).map .int) st ps
def Qip:CF:=fun st ps=>match ps with
 | [.int a,.int b]=>.ok (.int (if b < a then b else a)) st
 | ps=>Vt (fun ns=>(Qyt ns).map .int) st ps
theorem Qcd (B:X.calm=true):CallS X E (.builtin "max") Q93:=⟨fun H ρ st ps xs Q R q h=>by
 unfold Q93 at h
 split at h
 ·obtain ⟨v,u,rfl,J,U⟩:=Q4a q;cases J; cases U;exact WC.of (Qik B) ⟨_,_,rfl,now R h rfl⟩
 ·unfold Vt at h
  split at h
  ·obtain ⟨v,rfl,r⟩:=Ve q
   split at h
   ·rename_i ns e;cases ns with
    | nil=>exact h.elim
    | cons n ns=>
     obtain ⟨t,a,rfl,O⟩:=Q8q (K:=X.K) R r e;refine WC.of (Qij t B) ⟨a,_,rfl,O,by simp,fun m j z=>?_⟩;have G:m=ns.foldl (fun a b=>if b > a then b else a) n:=by
      obtain ⟨h1,h2,I⟩:=Qb0 ns n;have Y:ns.foldl (fun a b=>if b > a then b else a) n<=m:=by
       rcases h1 with e | e
       ·rw [e]; exact z _ D3
       ·exact z _ (D0 _ e)
      have g2:m<=ns.foldl (fun a b=>if b > a then b else a) n:=by
       rcases E7.mp j with rfl | j
       ·exact h2
       ·exact I m j
      omega
     subst G;exact now R h rfl
   ·exact h.elim
  ·exact h.elim⟩
theorem Qtx (B:X.calm=true):CallS X E (.builtin "min") Qip:=⟨fun H ρ st ps xs Q R q h=>by
 unfold Qip at h
 split at h
 ·obtain ⟨v,u,rfl,J,U⟩:=Q4a q;cases J; cases U;exact WC.of (Qii B) ⟨_,_,rfl,now R h rfl⟩
 ·unfold Vt at h
  split at h
  ·obtain ⟨v,rfl,r⟩:=Ve q
   split at h
   ·rename_i ns e;cases ns with
    | nil=>exact h.elim
    | cons n ns=>
     obtain ⟨t,a,rfl,O⟩:=Q8q (K:=X.K) R r e;refine WC.of (Qih t B) ⟨a,_,rfl,O,by simp,fun m j z=>?_⟩;have G:m=ns.foldl (fun a b=>if b < a then b else a) n:=by
      obtain ⟨h1,h2,I⟩:=Qaz ns n;have Y:m<=ns.foldl (fun a b=>if b < a then b else a) n:=by
       rcases h1 with e | e
       ·rw [e]; exact z _ D3
       ·exact z _ (D0 _ e)
      have g2:ns.foldl (fun a b=>if b < a then b else a) n<=m:=by
       rcases E7.mp j with rfl | j
       ·exact h2
       ·exact I m j
      omega
     subst G;exact now R h rfl
   ·exact h.elim
  ·exact h.elim⟩
def Uj:CF:=fun st ps=>match ps with
 | [p]=>match qe st p with
  | some xs=>.ok (.tup xs) st
  | none=>.stuck
 | _=>.stuck
theorem y9:CallS X E (.type "tuple") Uj:=⟨fun H ρ st ps xs Q R z h=>by
 unfold Uj at h
 split at h
 ·rename_i p;obtain ⟨v,rfl,r⟩:=Ve z
  split at h
  ·rename_i ys e;cases p with
   | tup zs=>
    cases e;obtain ⟨a,vs,rfl,j,B,q⟩:=r;exact WC.of Q3h ⟨a,vs,rfl,.inr ⟨SqT.of j,now R h ⟨a,vs,rfl,j,B,q⟩⟩⟩
   | _=>
    obtain ⟨a,vs,rfl,j,q⟩:=Q6u R r e;exact WC.of Q3h ⟨a,vs,rfl,.inl ⟨.inl j,Q4g R h q⟩⟩
  ·exact h.elim
 ·exact h.elim⟩
def Qzd:CF:=fun st ps=>match ps with
 | [.int a]=>.ok (.int (if a < 0 then -a else a)) st
 | _=>.stuck
def tyN:PV->String
 | .non => "NoneType"
 | .bl _ => "bool"
 | .int _ => "int"
 | .str _ => "str"
 | .tup _ => "tuple"
 | .lst _ => "list"
 | .fro _ => "list"
 | .ref _ => "list"
 | .dic => "dict"
def dpv (st:Q2):PV->PV
 | .ref i=>match st[i]? with
  | some (.dic _)=>.dic
  | some (.dtp _)=>.dic
  | _=>.ref i
 | p=>p
def isI (T:String) (p:PV):Bool:=tyN p == T || (T == "int" && tyN p == "bool")
def Q3x (st:Q2):PV->Bool
 | .ref i=>match st[i]? with
  | some (.frd _)=>true
  | some (.obj _ _)=>true
  | _=>false
 | _=>false
theorem Qur {K:bQ} {H:Hp} {ρ:Tk} {st:Q2} {p:PV} {v:V} (z:Q3x st p=false) (R:Rel H ρ st) (r:Rep H ρ p v):TyOf K H v (.type (tyN (dpv st p))):=by
 cases p with
 | non=>cases r; exact .non
 | bl b=>cases r; exact .bl b
 | int i=>cases r; exact .int i
 | str x=>cases r; exact .str x
 | tup ps=>obtain ⟨a,vs,rfl,h,_⟩:=r; exact .tup h
 | lst ps=>obtain ⟨a,vs,rfl,h,_⟩:=r; exact .lst h
 | fro ps=>
  obtain ⟨a,vs,rfl,h,_⟩:=r;rcases h with h | ⟨o,h⟩
  ·exact .lst h
  ·exact .frz h
 | ref i=>
  obtain ⟨a,e,rfl⟩:=r;have B:i < st.length:=by rw [<- R.len]; exact (O0.mp e).1
  have hs:=O4 B;have q:=R.cell i a st[i] e hs;cases j:st[i] with
  | lst xs=>rw [j] at q hs; simp only [dpv,hs]; obtain ⟨vs,h,_⟩:=q; exact .lst h
  | dic xs=>rw [j] at q hs; simp only [dpv,hs]; obtain ⟨vs,h,_⟩:=q; exact .dK h
  | dtp xs=>rw [j] at q hs; simp only [dpv,hs]; obtain ⟨vs,h,_⟩:=q; exact .dT h
  | frd xs=>rw [j] at hs; simp only [Q3x,hs] at z; cases z
  | obj C xs=>rw [j] at hs; simp only [Q3x,hs] at z; cases z
 | dic=>obtain ⟨a,rfl,h,_⟩:=r; exact .dK h
def Q8m:List String:=["int", "bool", "str", "tuple", "list", "dict"]
theorem Qtj (K:bQ) {T:String} (j:T∈Q8m) (p:PV):eO K (.type (tyN p)) (.type T)=some (isI T p):=by
 have j:T = "int" \/ T = "bool" \/ T = "str" \/ T = "tuple" \/ T = "list" \/ T = "dict" := by simpa [Q8m] using j
 rcases j with rfl | rfl | rfl | rfl | rfl | rfl <;> cases p <;> first | rfl | kernel_rfl
def Qdp (T:String) (m:ME):ME:=fun Γ st=>(m Γ st).bind fun p st1=>if Q3x st1 p=true then .stuck else .ok (.bl (isI T (dpv st1 p))) st1
theorem Q4y {T:String} {tx:Str} {a:aD} {ma:ME} {p tp:Pos} (hT:T∈Q8m) (ha:SimE X E a ma) (hg:Gl X "isinstance") (hm:X.mg "isinstance" = none) (J:Gl X tx) (B:X.mg tx=none) (U:aa tx=some (.type T))
  (hn:tx≠"__name__" := by decide) (hd:(tx == ("__debug__" : Str))=false:=by decide)
  (Y:aO [a,.Name tx tp] X.env=(false,aL a X.env) :: aO [.Name tx tp] X.env:=by rfl) (O:aO [.Name tx tp] X.env=(false,aL (.Name tx tp) X.env) :: aO [] X.env:=by rfl) (I:(aU pos (aO [.Name tx tp] X.env)).any (·.1)=false:=by rfl) :
  SimE X E (.Call (.Name "isinstance" p) [a,.Name tx tp] [] pos) (Qdp T ma):=
 ⟨fun Γ σ H ρ st Q R G h=>WE.of (Qd8 Qe7 hg hm Q6j (Q0j W2 (Q0j (Qpi J B U (v:=.ty T) rfl hn hd) Q7s O) Y) (by decide) (by decide) Y I)
  (ha.use R G h.bind fun q j H1 ρ1 v x1 Z G1 r1 h1=>by
   by_cases z:Q3x j q=true
   ·rw [bK z] at h1; exact h1.elim
   ·rw [bL z] at h1;exact ⟨v,.ty T,.type T,_,_,rfl,rfl,Qur (by simpa using z) Z r1,Qtj X.K hT (dpv j q),now Z h1 rfl⟩)⟩
end
abbrev GA:=PV->Gam->Option Gam
abbrev GAs:=List PV->Gam->Option Gam
structure SimG (X:Cx) (tg:aD) (ga:GA):Prop where
 run:∀ (Γ Γ':Gam) (σ:St) (H:Hp) (ρ:Tk) (p:PV) (v:V) (Q:St->Hp->Prop),EnvR H ρ Γ σ->Rep H ρ p v->ga p Γ=some Γ'->(∀ σ',EnvR H ρ Γ' σ'->Q σ' H)->∃ t,PG X tg t/\t v σ H Q
structure SimGs (X:Cx) (tgs:List aD) (n:Nat) (ga:GAs):Prop where
 run:∀ (Γ Γ':Gam) (σ:St) (H:Hp) (ρ:Tk) (ps:List PV) (vs:List V) (Q:St->Hp->Prop),EnvR H ρ Γ σ->RepL H ρ ps vs->ga ps Γ=some Γ'->(∀ σ',EnvR H ρ Γ' σ'->Q σ' H)->∃ t,PGs X tgs t/\t vs σ H Q
 len:∀ ps Γ Γ',ga ps Γ=some Γ'->ps.length=n
def Qn (i:Nat):GA:=fun p Γ=>some (Γ.set i (some p))
def jc:GAs:=fun ps Γ=>match ps with
 | []=>some Γ
 | _=>none
def Y5 (g:GA) (gs:GAs):GAs:=fun ps Γ=>match ps with
 | p :: r=>(g p Γ).bind (gs r)
 | []=>none
def jb (gs:GAs):GA:=fun p Γ=>match p with
 | .tup ps=>gs ps Γ
 | _=>none
section
variable {X:Cx} {pos:Pos}
theorem J0 {i:Nat} {x:Str} (z:X.N.Nodup) (hi:X.N[i]?=some x:=by rfl) (q:Loc X.env.scope x:=by first | exact Or.inl rfl | exact Or.inr rfl) (j:X.fn x=true\/X.env.scope.names.lookup x=some .local:=by first | exact .inl rfl | exact .inr rfl):SimG X (.Name x pos) (Qn i):=
 ⟨fun Γ B σ H ρ p v Q G r e k=>⟨_,Qpb z hi q j,by cases e; exact k _ (G.set r i)⟩⟩
theorem Q0e:SimGs X [] 0 jc:=⟨fun Γ j σ H ρ ps vs Q G r e k=>⟨_,Qp9,by
 cases ps with
 | nil=>cases e; cases r; exact ⟨rfl,k σ G⟩
 | cons _ _=>cases e⟩,fun ps Γ j e=>by
 cases ps with
 | nil=>rfl
 | cons _ _=>cases e⟩
def WGx (X:Cx) (tg:aD):TG:=fun v σ H Q=>∃ t,PG X tg t/\t v σ H Q
theorem Qpa {tg:aD}:PG X tg (WGx X tg):=fun pins s σ H v u Q I r ⟨t,h,q⟩=>h pins s σ H v u Q I r q
def Qz5 (X:Cx) (tgs:List aD):TGs:=fun v σ H Q=>∃ t,PGs X tgs t/\t v σ H Q
theorem Qr8 {j:List aD}:PGs X j (Qz5 X j):=fun pins s σ H v u Q I r ⟨t,h,q⟩=>h pins s σ H v u Q I r q
theorem Wg {e:aD} {es:List aD} {g:GA} {gs:GAs} {n:Nat} (h1:SimG X e g) (h2:SimGs X es n gs) (hs:(ak (e :: es) X.env).map (·.2)=assign e X.env :: (ak es X.env).map (·.2):=by rfl):SimGs X (e :: es) (n + 1) (Y5 g gs):=
 ⟨fun Γ j σ H ρ ps vs Q G r eq k=>⟨_,Qjz Qpa Qr8 hs,by
  cases ps with
  | nil=>cases eq
  | cons p ps=>
   obtain ⟨v,t,rfl,B,I⟩:=r;have eq:(g p Γ).bind (gs ps)=some j:=eq;cases e1:g p Γ with
   | none=>rw [e1] at eq; cases eq
   | some Γ1=>
    rw [e1] at eq;exact ⟨v,t,rfl,h1.run Γ Γ1 σ H ρ p v _ G B e1 fun q z=>h2.run Γ1 j q H ρ ps t _ z I eq k⟩⟩,fun ps Γ j e=>by
  cases ps with
  | nil=>cases e
  | cons p ps=>
   have e:(g p Γ).bind (gs ps)=some j:=e;cases e1:g p Γ with
   | none=>rw [e1] at e; cases e
   | some Γ1=>rw [e1] at e; rw [D4,h2.len ps Γ1 j e]⟩
theorem Q3j {es:List aD} {k n:Nat} {gs:GAs} (O:X.calm=true) (h:SimGs X es n gs) (I:(ak es X.env).length=n:=by rfl) (z:(ak es X.env).findIdx? (·.1)=none:=by rfl):SimG X (.Tuple es k pos) (jb gs):=
 ⟨fun Γ j σ H ρ p v Q G r e q=>⟨_,Qsj O Qr8 I z,by
  cases p with
  | tup ps=>
   obtain ⟨a,vs,rfl,J,U,B⟩:=r;exact ⟨a,vs,rfl,SqT.of J,by rw [<- B.length]; exact h.len ps Γ j e,h.run Γ j σ H ρ ps vs Q G B e q⟩
  | _=>cases e⟩⟩
end
abbrev Wt:=List (Nat × Cell)
def wOk (w:Wt) (st:Q2):Prop:=∀ x∈w,st[x.1]?=some x.2
theorem Q2j (st:Q2):wOk [] st:=fun x h=>by cases h
structure Src (J:It) (items:List PV) (w:Wt) (H:Hp) (ρ:Tk):Prop where
 stop:∀ H2 ρ2 st2,Ext H ρ H2 ρ2->Rel H2 ρ2 st2->wOk w st2->J.stop items.length H2
 go:∀ H2 ρ2 st2,Ext H ρ H2 ρ2->Rel H2 ρ2 st2->wOk w st2->∀ i,i < items.length->J.go i H2
 yld:∀ H2 ρ2 st2,Ext H ρ H2 ρ2->Rel H2 ρ2 st2->wOk w st2->∀ i p,items[i]?=some p->∀ x H3,J.yld i H2 x H3->Same H2 H3/\Rep H3 ρ2 p x
abbrev MI:=Gam->Q2->Res (List PV × Wt)
structure SimI (X:Cx) (E:XK) (tg iter:aD) (mi:MI):Prop where
 run:∀ (Γ:Gam) (σ:St) (H:Hp) (ρ:Tk) (st:Q2) (P:List PV × Wt->Q2->Hp->Tk->Prop) (R':It->Hp->Prop),Rel H ρ st->EnvR H ρ Γ σ->Acc X.mg E H ρ P (mi Γ st) ->
  (∀ iw st1 H1 ρ1 J,mi Γ st=.ok iw st1->Ext H ρ H1 ρ1->Rel H1 ρ1 st1->EnvR H1 ρ1 Γ σ->wOk iw.2 st1->iw.1.length<=sizeLine->Src J iw.1 iw.2 H1 ρ1->P iw st1 H1 ρ1->R' J H1)->WI X tg iter σ H R'
def X5 (st:Q2):PV->Option (List PV × Wt)
 | .tup xs=>some (xs,[])
 | .lst xs=>some (xs,[])
 | .fro xs=>some (xs,[])
 | .ref i=>match st[i]? with
  | some (.lst xs)=>some (xs,[(i,.lst xs)])
  | _=>none
 | _=>none
theorem Q7c {K:bQ} {H:Hp} {ρ:Tk} {st:Q2} {p:PV} {v:V} {xs:List PV} {w:Wt} (R:Rel H ρ st) (r:Rep H ρ p v) (e:X5 st p=some (xs,w)) :
  wOk w st/\∃ (t:Bool) (a:aA),v=.ref a/\(t=true->∃ ys,p=.tup ys)/\(t=false->∀ ys,p≠.tup ys)/\∀ H2 j q,Ext H ρ H2 j->Rel H2 j q->wOk w q->∃ vs,SqK K t H2 a vs/\RepL H2 j xs vs:=by
 cases p with
 | tup ys=>
  obtain ⟨a,vs,rfl,B,G,I⟩:=r;cases e;exact ⟨Q2j _,true,a,rfl,fun _=>⟨_,rfl⟩,(fun z=>by cases z),fun H2 j q x R2 _=>⟨vs,show SqT K H2 a vs from SqT.of (x.kp B G),I.ext x⟩⟩
 | lst ys=>
  obtain ⟨a,vs,rfl,B,G,I⟩:=r;cases e;exact ⟨Q2j _,false,a,rfl,(fun z=>by cases z),(fun _ _ z=>by cases z),fun H2 j q x R2 _=>⟨vs,show SqL K H2 a vs from SqL.of (x.kp B G),I.ext x⟩⟩
 | fro ys=>
  obtain ⟨a,vs,rfl,B,G,I⟩:=r;cases e;refine ⟨Q2j _,false,a,rfl,(fun z=>by cases z),(fun _ _ z=>by cases z),fun H2 j q x R2 _=>⟨vs,show SqL K H2 a vs from ?_,I.ext x⟩⟩
  rcases B with B | ⟨o,B⟩
  ·exact .inl (.inl (x.kp B G))
  ·exact .inl (.inr ⟨o,x.kp B G⟩)
 | ref i=>
  obtain ⟨a,O,rfl⟩:=r;simp only [X5] at e
  split at e
  ·rename_i ys hs;cases e;refine ⟨fun x hx=>?_,false,a,rfl,(fun z=>by cases z),(fun _ _ z=>by cases z),fun H2 j q x R2 ok=>?_⟩
   ·have:x=(i,.lst xs):=by simpa using hx
    subst this; exact hs
   ·have J:=ok (i,.lst xs) (by simp);obtain ⟨b,vs,U,Z,f3⟩:=R2.lst J;obtain ⟨t,Y⟩:=x.pre;rw [<- Y,O5 (O0.mp O).1,O] at U;cases U;exact ⟨vs,show SqL K H2 a vs from SqL.of Z,f3⟩
  ·cases e
 | _=>cases e
section
variable {X:Cx} {E:XK} {pos:Pos} {tg:aD} {e:aD} {m:ME}
def xy (m:ME):MI:=fun Γ st=>(m Γ st).bind fun p st1=>match X5 st1 p with
 | some (xs,w)=>if xs.length<=lim then .ok (xs,w) st1 else .stuck
 | none=>.stuck
theorem RepL.i {H:Hp} {ρ:Tk} {ps:List PV} {vs:List V} {i:Nat} {p:PV} {x:V} (r:RepL H ρ ps vs) (h:ps[i]?=some p) (h':vs[i]?=some x):Rep H ρ p x:=by
 obtain ⟨v,e,q⟩:=r.get h;rw [h'] at e; cases e;exact q
theorem Qfu {K:bQ} {H:Hp} {ρ:Tk} {t:Bool} {a:aA} {xs:List PV} {w:Wt} (h:∀ H2 j q,Ext H ρ H2 j->Rel H2 j q->wOk w q->∃ vs,SqK K t H2 a vs/\RepL H2 j xs vs):Src (if t=true then Itt K a else Itl K a) xs w H ρ:=by
 cases t with
 | true=>
  rw [bK rfl];refine ⟨fun H2 j q x R ok=>?_,fun H2 j q x R ok i hi=>?_,fun H2 j q x R ok i p hp y I G=>?_⟩
  ·obtain ⟨vs,s,r⟩:=h H2 j q x R ok;exact ⟨vs,s,by rw [r.length]; exact O8 _⟩
  ·obtain ⟨vs,s,r⟩:=h H2 j q x R ok;have z:i < vs.length:=by rw [<- r.length]; exact hi
   exact ⟨vs,vs[i],s,O4 z⟩
  ·obtain ⟨vs,s,r⟩:=h H2 j q x R ok;obtain ⟨rfl,B⟩:=G;exact ⟨Same.refl _,r.i hp (B vs s)⟩
 | false=>
  rw [bL D8];refine ⟨fun H2 j q x R ok=>?_,fun H2 j q x R ok i hi=>?_,fun H2 j q x R ok i p hp y I G=>?_⟩
  ·obtain ⟨vs,s,r⟩:=h H2 j q x R ok;exact ⟨vs,s,by rw [r.length]; exact O8 _⟩
  ·obtain ⟨vs,s,r⟩:=h H2 j q x R ok;have z:i < vs.length:=by rw [<- r.length]; exact hi
   exact ⟨vs,vs[i],s,O4 z⟩
  ·obtain ⟨vs,s,r⟩:=h H2 j q x R ok;obtain ⟨rfl,B⟩:=G;exact ⟨Same.refl _,r.i hp (B vs s)⟩
theorem Qg8 {mg:Str->Option aB} {H:Hp} {ρ:Tk} {st:Q2} {p:PV} {P:List PV × Wt->Q2->Hp->Tk->Prop} (R:Rel H ρ st) (h:Acc mg E H ρ P (match X5 st p with | some (xs,w)=>if xs.length<=lim then .ok (xs,w) st else .stuck | none=>.stuck)) :
  ∃ xs w,X5 st p=some (xs,w)/\xs.length<=lim/\P (xs,w) st H ρ:=by
 split at h
 ·rename_i xs w e
  split at h
  ·rename_i j;exact ⟨xs,w,e,j,h H ρ (Ext.refl _ _) R⟩
  ·exact h.elim
 ·exact h.elim
theorem Xs (Z:SimE X E e m):SimI X E tg e (xy m):=⟨fun Γ σ H ρ st P R' R G h k=>by
 have Y:Acc X.mg E H ρ _ (m Γ st):=Acc.bind h
 by_cases ht:∃ ys j,m Γ st=.ok (.tup ys) j
 ·obtain ⟨ys,a2,e0⟩:=ht;refine WI.of (Qsi W2) (Z.use' R G Y fun p j H1 ρ1 v eq I q J O h1=>?_);obtain ⟨xs,w,e,z,U⟩:=Qg8 q h1;obtain ⟨ok,t,a,rfl,t1,t2,B⟩:=Q7c (K:=X.K) q O e;have ep:p=.tup ys:=by rw [eq] at e0; injection e0
  cases t with
  | false=>exact absurd ep (t2 rfl ys)
  | true=>
   obtain ⟨vs,s,_⟩:=B H1 ρ1 j (Ext.refl _ _) q ok;exact ⟨a,rfl,⟨vs,s⟩,k (xs,w) j H1 ρ1 _ (by simp only [xy,eq,Res.bind,e,bK z]) I q J ok (Ke z) (Qfu B) U⟩
 ·refine WI.of (Qp7 W2) (Z.use' R G Y fun p j H1 ρ1 v eq I q J O h1=>?_);obtain ⟨xs,w,e,z,U⟩:=Qg8 q h1;obtain ⟨ok,t,a,rfl,t1,t2,B⟩:=Q7c (K:=X.K) q O e;cases t with
  | true=>
   obtain ⟨ys,rfl⟩:=t1 rfl;exact absurd ⟨ys,j,eq⟩ ht
  | false=>
   obtain ⟨vs,s,_⟩:=B H1 ρ1 j (Ext.refl _ _) q ok;exact ⟨a,rfl,⟨vs,s⟩,k (xs,w) j H1 ρ1 _ (by simp only [xy,eq,Res.bind,e,bK z]) I q J ok (Ke z) (Qfu B) U⟩⟩
def Zu (lo:Int) (n:Nat):List PV:=(bV n).map fun (k:Nat)=>PV.int (lo + (k:Int))
theorem Qaf {H:Hp} {ρ:Tk} {lo:Int} {n:Nat}:Src (Itr lo n) (Zu lo n) [] H ρ:=by
 have z:(Zu lo n).length=n:=by unfold Zu; rw [O2,F6]
 refine ⟨fun H2 q j x R ok=>?_,fun H2 q j x R ok i hi=>?_,fun H2 q j x R ok i p hp y G B=>?_⟩
 ·show n<=(Zu lo n).length;omega
 ·show i < n;omega
 ·obtain ⟨rfl,rfl⟩:=B;have hi:i < n:=by rw [<- z]; exact (O0.mp hp).1
  unfold Zu at hp;rw [E4,F3 hi] at hp;cases hp;exact ⟨Same.refl _,rfl⟩
def Yg (mr:Gam->Q2->Res (List PV)):MI:=fun Γ st=>(mr Γ st).bind fun ps st1=>match ps with
 | [.int j]=>if -(lim:Int)<=j/\j<=lim then .ok (Zu 0 j.toNat,[]) st1 else .stuck
 | _=>.stuck
def Q0x (mr:Gam->Q2->Res (List PV)):MI:=fun Γ st=>(mr Γ st).bind fun ps st1=>match ps with
 | [.int i,.int j]=>if -(lim:Int)<=i/\i<=lim/\-(lim:Int)<=j/\j<=lim then .ok (Zu i (j - i).toNat,[]) st1 else .stuck
 | _=>.stuck
variable {a b:aD} {mr:Gam->Q2->Res (List PV)} {p:Pos}
theorem Q7m (lo:Int) (n:Nat):(Zu lo n).length=n:=by unfold Zu; rw [O2,F6]
theorem Y8 (I:Gl X "range") (B:X.mg "range" = none) (Z:SimA X E [a] mr) (hs:aO [a] X.env=[(false,aL a X.env)]:=by rfl):SimI X E tg (.Call (.Name "range" p) [a] [] pos) (Yg mr):=⟨fun Γ σ H ρ st P R' R G h k=>by
 refine WI.of (Qhi I B Q3p hs) (Z.use' R G h.bind fun ps q H1 ρ1 vs eq J z U r1 h1=>?_)
 split at h1
 ·rename_i j
  split at h1
  ·rename_i Y;obtain ⟨v,rfl,O⟩:=Ve r1;cases O;have hl:(lim:Int)=1000000:=rfl;refine ⟨j,rfl,by omega,by omega,k (Zu 0 j.toNat,[]) q H1 ρ1 _ (by simp only [Yg,eq,Res.bind,bK Y]) J z U (Q2j _) ?_ Qaf (h1 H1 ρ1 (Ext.refl _ _) z)⟩;show (Zu 0 j.toNat).length<=sizeLine;rw [Q7m];exact Ke (by omega)
  ·exact h1.elim
 ·exact h1.elim⟩
theorem Qag (J:Gl X "range") (I:X.mg "range" = none) (ha:SimA X E [a,b] mr) (hs:aO [a,b] X.env=[(false,aL a X.env),(false,aL b X.env)]:=by rfl) (z:aO [b] X.env=[(false,aL b X.env)]:=by rfl):SimI X E tg (.Call (.Name "range" p) [a,b] [] pos) (Q0x mr):=⟨fun Γ σ H ρ st P R' R G h k=>by
 refine WI.of (Qhh J I Q3p hs z) (ha.use' R G h.bind fun ps q H1 ρ1 vs eq O B Y r1 h1=>?_)
 split at h1
 ·rename_i i j
  split at h1
  ·rename_i Z;obtain ⟨v,u,rfl,U,ru⟩:=Q4a r1;cases U; cases ru;have hl:(lim:Int)=1000000:=rfl;refine ⟨i,j,rfl,⟨by omega,by omega,by omega,by omega⟩,k (Zu i (j - i).toNat,[]) q H1 ρ1 _ (by simp only [Q0x,eq,Res.bind,bK Z]) O B Y (Q2j _) ?_ Qaf (h1 H1 ρ1 (Ext.refl _ _) B)⟩;show (Zu i (j - i).toNat).length<=sizeLine;rw [Q7m];exact F0 (show (j - i).toNat<=2000000 by omega) (by decide)
  ·exact h1.elim
 ·exact h1.elim⟩
def Q73:List PV->List PV->List PV
 | x :: xs,y :: ys=>.tup [x,y] :: Q73 xs ys
 | _,_=>[]
theorem Qbf (xs ys:List PV):Q73 xs ys=(xs.zip ys).map fun z=>.tup [z.1,z.2]:=by
 induction xs generalizing ys with
 | nil=>rfl
 | cons x xs j=>
  cases ys with
  | nil=>rfl
  | cons y ys=>rw [Q73,j]; rfl
theorem Q72 (xs ys:List PV):(Q73 xs ys).length=min xs.length ys.length:=by rw [Qbf,O2,dm]
theorem Qiz {xs ys:List PV} {i:Nat} {p:PV} (h:(Q73 xs ys)[i]?=some p):∃ x y,p=.tup [x,y]/\xs[i]?=some x/\ys[i]?=some y:=by
 rw [Qbf,E4] at h;cases e:(xs.zip ys)[i]? with
 | none=>rw [e] at h; cases h
 | some z=>
  rw [e] at h; cases h;rw [dn] at e;exact ⟨z.1,z.2,rfl,e.1,e.2⟩
def Qa6 (mr:Gam->Q2->Res (List PV)):MI:=fun Γ st=>(mr Γ st).bind fun ps st1=>match ps with
 | [p,q]=>match X5 st1 p,X5 st1 q with
  | some (xs,w),some (ys,w')=>if xs.length<=lim then .ok (Q73 xs ys,w ++ w') st1 else .stuck
  | _,_=>.stuck
 | _=>.stuck
theorem Q2k {w q:Wt} {st:Q2} (h:wOk (w ++ q) st):wOk w st/\wOk q st:=⟨fun x j=>h x (F9 _ j),fun x j=>h x (E8 _ j)⟩
theorem Qng {K:bQ} {H:Hp} {ρ:Tk} {t1 t2:Bool} {a b:aA} {xs ys:List PV} {w I:Wt} (h:∀ H2 j z,Ext H ρ H2 j->Rel H2 j z->wOk w z->∃ vs,SqK K t1 H2 a vs/\RepL H2 j xs vs)
  (h':∀ H2 j z,Ext H ρ H2 j->Rel H2 j z->wOk I z->∃ vs,SqK K t2 H2 b vs/\RepL H2 j ys vs):Src (Itz K t1 t2 a b) (Q73 xs ys) (w ++ I) H ρ:=by
 refine ⟨fun H2 j z x R ok=>?_,fun H2 j z x R ok i hi=>?_,fun H2 j z x R ok i p hp y Z Y=>?_⟩
 ·obtain ⟨vs,s,r⟩:=h H2 j z x R (Q2k ok).1;obtain ⟨us,s',B⟩:=h' H2 j z x R (Q2k ok).2;refine ⟨vs,us,s,s',?_⟩;rw [Q72,<- r.length,<- B.length];omega
 ·obtain ⟨vs,s,r⟩:=h H2 j z x R (Q2k ok).1;obtain ⟨us,s',B⟩:=h' H2 j z x R (Q2k ok).2;rw [Q72,r.length,B.length] at hi;have h1:i < vs.length:=by omega
  have h2:i < us.length:=by omega
  exact ⟨vs,us,vs[i],us[i],s,s',O4 h1,O4 h2⟩
 ·obtain ⟨vs,s,r⟩:=h H2 j z x R (Q2k ok).1;obtain ⟨us,s',B⟩:=h' H2 j z x R (Q2k ok).2;obtain ⟨q,u,v,J,rfl,rfl,O⟩:=Y;obtain ⟨e1,e2⟩:=O vs us s s';obtain ⟨xp,yp,rfl,U,p2⟩:=Qiz hp;have G:Same H2 (upd H2 q (.tup [u,v])):=Qcx J;exact ⟨G,q,[u,v],rfl,Je,R.fresh J,RepL.cons ((r.i U e1).ext (Ext.same G)) (RepL.cons ((B.i p2 e2).ext (Ext.same G)) RepL.nil)⟩
theorem Q7g {elts:List aD} {kt:Nat} {tp:Pos} (hg:Gl X "zip") (hm:X.mg "zip" = none) (ha:SimA X E [a,b] mr) (hs:aO [a,b] X.env=[(false,aL a X.env),(false,aL b X.env)]:=by rfl) (a5:aO [b] X.env=[(false,aL b X.env)]:=by rfl) :
  SimI X E (.Tuple elts kt tp) (.Call (.Name "zip" p) [a,b] [] pos) (Qa6 mr):=⟨fun Γ σ H ρ st P R' R G h k=>by
 have hb:Acc X.mg E H ρ _ (mr Γ st):=Acc.bind h;have B:∀ t1 t2:Bool,(∀ p q j,mr Γ st=.ok [p,q] j->(t1=true <-> ∃ ys,p=.tup ys)/\(t2=true <-> ∃ ys,q=.tup ys))->WI X (.Tuple elts kt tp) (.Call (.Name "zip" p) [a,b] [] pos) σ H R':=fun t1 t2 ht=>by
  refine WI.of (Qsg t1 t2 hg hm Q3p hs a5) (ha.use' R G hb fun ps j H1 ρ1 vs eq x1 I G1 r1 h1=>?_)
  split at h1
  ·rename_i p' q'
   split at h1
   ·rename_i xs w ys w' e1 e2
    split at h1
    ·rename_i hl;obtain ⟨v,u,rfl,rv,ru⟩:=Q4a r1;obtain ⟨Z,b1,a1,rfl,z1,a9,J⟩:=Q7c (K:=X.K) I rv e1;obtain ⟨U,b2,a2,rfl,z2,a8,O⟩:=Q7c (K:=X.K) I ru e2;obtain ⟨g1,g2⟩:=ht _ _ _ eq;have a6:b1=t1:=by
      cases b1 with
      | true=>exact (g1.mpr (z1 rfl)).symm
      | false=>
       cases t1 with
       | false=>rfl
       | true=>obtain ⟨ys,e⟩:=g1.mp rfl; exact absurd e (a9 rfl ys)
     have a7:b2=t2:=by
      cases b2 with
      | true=>exact (g2.mpr (z2 rfl)).symm
      | false=>
       cases t2 with
       | false=>rfl
       | true=>obtain ⟨ys,e⟩:=g2.mp rfl; exact absurd e (a8 rfl ys)
     subst a6; subst a7;obtain ⟨a4,s1,_⟩:=J H1 ρ1 j (Ext.refl _ _) I Z;obtain ⟨a3,s2,_⟩:=O H1 ρ1 j (Ext.refl _ _) I U;refine ⟨a1,a2,a4,a3,rfl,s1,s2,k (Q73 xs ys,w ++ w') j H1 ρ1 _ (by simp only [Qa6,eq,Res.bind,e1,e2,bK hl]) x1 I G1 (fun x Y=>?_) ?_ (Qng J O) (h1 H1 ρ1 (Ext.refl _ _) I)⟩
     ·rcases F1.mp Y with Y | Y
      ·exact Z x Y
      ·exact U x Y
     ·show (Q73 xs ys).length<=sizeLine;rw [Q72];exact Ke (F0 (gL _ _) hl)
    ·exact h1.elim
   ·exact h1.elim
  ·exact h1.elim
 have tt:∀ p:PV,∃ t:Bool,t=true <-> ∃ ys,p=.tup ys:=fun p=>by
  cases p with
  | tup ys=>exact ⟨true,fun _=>⟨ys,rfl⟩,fun _=>rfl⟩
  | _=>exact ⟨false,⟨fun z=>(by cases z),fun ⟨_,z⟩=>(by cases z)⟩⟩
 by_cases hz:∃ p q j,mr Γ st=.ok [p,q] j
 ·obtain ⟨p0,q0,b0,e0⟩:=hz;obtain ⟨t1,g1⟩:=tt p0;obtain ⟨t2,g2⟩:=tt q0;refine B t1 t2 fun p q j e=>?_
  rw [e0] at e; cases e;exact ⟨g1,g2⟩
 ·exact B true true fun p q j e=>absurd ⟨p,q,j,e⟩ hz⟩
def yn:Nat->List PV->List PV
 | _,[]=>[]
 | n,x :: xs=>.tup [.int n,x] :: yn (n + 1) xs
theorem Q2v:∀ (n:Nat) (xs:List PV),(yn n xs).length=xs.length
 | _,[]=>rfl
 | n,x :: xs=>by rw [yn,D4,Q2v (n + 1) xs,D4]
theorem Qb2:∀ {n:Nat} {xs:List PV} {i:Nat} {p:PV},(yn n xs)[i]?=some p->∃ x,p=.tup [.int (n + i:Nat),x]/\xs[i]?=some x
 | n,[],i,p,h=>by simp [yn] at h
 | n,x :: xs,0,p,h=>by
  simp [yn] at h;exact ⟨x,h.symm,rfl⟩
 | n,x :: xs,i + 1,p,h=>by
  rw [yn,gM] at h;obtain ⟨y,e1,e2⟩:=Qb2 h;exact ⟨y,by rw [e1,show n + 1 + i=n + (i + 1) by omega],by simpa using e2⟩
def Qga (mr:Gam->Q2->Res (List PV)):MI:=fun Γ st=>(mr Γ st).bind fun ps st1=>match ps with
 | [p]=>match X5 st1 p with
  | some (xs,w)=>if xs.length<=lim then .ok (yn 0 xs,w) st1 else .stuck
  | none=>.stuck
 | _=>.stuck
theorem Qje {K:bQ} {H:Hp} {ρ:Tk} {t:Bool} {a:aA} {xs:List PV} {w:Wt} (h:∀ H2 j z,Ext H ρ H2 j->Rel H2 j z->wOk w z->∃ vs,SqK K t H2 a vs/\RepL H2 j xs vs):Src (Ite K t a) (yn 0 xs) w H ρ:=by
 refine ⟨fun H2 j z x R ok=>?_,fun H2 j z x R ok i hi=>?_,fun H2 j z x R ok i p hp y U O=>?_⟩
 ·obtain ⟨vs,s,r⟩:=h H2 j z x R ok;exact ⟨vs,s,by rw [Q2v,r.length]; exact O8 _⟩
 ·obtain ⟨vs,s,r⟩:=h H2 j z x R ok;rw [Q2v,r.length] at hi;exact ⟨vs,vs[i],s,O4 hi⟩
 ·obtain ⟨vs,s,r⟩:=h H2 j z x R ok;obtain ⟨q,u,B,rfl,rfl,I⟩:=O;have e1:=I vs s;obtain ⟨Y,rfl,J⟩:=Qb2 hp;have G:Same H2 (upd H2 q (.tup [.int i,u])):=Qcx B;exact ⟨G,q,[.int i,u],rfl,Je,R.fresh B,RepL.cons (by rw [Nat.zero_add]; rfl) (RepL.cons ((r.i J e1).ext (Ext.same G)) RepL.nil)⟩
theorem Qnj {elts:List aD} {kt:Nat} {tp:Pos} (hg:Gl X "enumerate") (hm:X.mg "enumerate" = none) (ha:SimA X E [a] mr) (hs:aO [a] X.env=[(false,aL a X.env)]:=by rfl) :
  SimI X E (.Tuple elts kt tp) (.Call (.Name "enumerate" p) [a] [] pos) (Qga mr):=⟨fun Γ σ H ρ st P R' R G h k=>by
 have hb:Acc X.mg E H ρ _ (mr Γ st):=Acc.bind h;have q:∀ t1:Bool,(∀ p j,mr Γ st=.ok [p] j->(t1=true <-> ∃ ys,p=.tup ys))->WI X (.Tuple elts kt tp) (.Call (.Name "enumerate" p) [a] [] pos) σ H R':=fun t1 ht=>by
  refine WI.of (Qp8 t1 hg hm Q3p hs) (ha.use' R G hb fun ps j H1 ρ1 vs eq x1 O G1 r1 h1=>?_)
  split at h1
  ·rename_i p'
   split at h1
   ·rename_i xs w e1
    split at h1
    ·rename_i hl;obtain ⟨v,rfl,rv⟩:=Ve r1;obtain ⟨I,b1,a1,rfl,z1,Z,B⟩:=Q7c (K:=X.K) O rv e1;have J:=ht _ _ eq;have Y:b1=t1:=by
      cases b1 with
      | true=>exact (J.mpr (z1 rfl)).symm
      | false=>
       cases t1 with
       | false=>rfl
       | true=>obtain ⟨ys,e⟩:=J.mp rfl; exact absurd e (Z rfl ys)
     subst Y;obtain ⟨U,s1,_⟩:=B H1 ρ1 j (Ext.refl _ _) O I;refine ⟨a1,U,rfl,s1,k (yn 0 xs,w) j H1 ρ1 _ (by simp only [Qga,eq,Res.bind,e1,bK hl]) x1 O G1 I ?_ (Qje B) (h1 H1 ρ1 (Ext.refl _ _) O)⟩;show (yn 0 xs).length<=sizeLine;rw [Q2v];exact Ke hl
    ·exact h1.elim
   ·exact h1.elim
  ·exact h1.elim
 have tt:∀ p:PV,∃ t:Bool,t=true <-> ∃ ys,p=.tup ys:=fun p=>by
  cases p with
  | tup ys=>exact ⟨true,fun _=>⟨ys,rfl⟩,fun _=>rfl⟩
  | _=>exact ⟨false,⟨fun z=>(by cases z),fun ⟨_,z⟩=>(by cases z)⟩⟩
 by_cases hz:∃ p j,mr Γ st=.ok [p] j
 ·obtain ⟨p0,a2,e0⟩:=hz;obtain ⟨t1,J⟩:=tt p0;refine q t1 fun p j e=>?_
  rw [e0] at e; cases e;exact J
 ·exact q true fun p j e=>absurd ⟨p,j,e⟩ hz⟩
end
section
abbrev ML:=Gam->Q2->Res (List PV)
structure SimN (X:Cx) (E:XK) (e:aD) (m:ML):Prop where
 run:∀ (Γ:Gam) (σ:St) (H:Hp) (ρ:Tk) (st:Q2) (P:List PV->Q2->Hp->Tk->Prop) (Q:VK),Rel H ρ st->EnvR H ρ Γ σ->Acc X.mg E H ρ P (m Γ st) ->
  (∀ ps st1 H1 ρ1 a vs,m Γ st=.ok ps st1->Ext H ρ H1 ρ1->Rel H1 ρ1 st1->a∈ρ1.hid->H a=none->H1 a=some (.lst vs)->RepL H1 ρ1 ps vs->Q (.ref a) H1)->WE X e σ H Q
def K2 (m:ML):ME:=fun Γ st=>(m Γ st).bind fun ps st1=>.ok (.lst ps) st1
def Q1h (m:ML):ME:=fun Γ st=>(m Γ st).bind fun ps st1=>.ok (.ref st1.length) (st1 ++ [.lst ps])
section
variable {H0 H:Hp} {ρ0 ρ:Tk} {st:Q2} {a:aA} {ps:List PV} {vs:List V}
theorem Qg3 (G:Rel H0 ρ0 st) (x:Ext H0 ρ0 H ρ) {j:Q2} (R:Rel H ρ j) (q:a∈ρ.hid) (B:H0 a=none) (I:H a=some (.lst vs)) (r:RepL H ρ ps vs) :
  Ext H0 ρ0 H ⟨ρ.tr,ρ0.hid⟩/\Rel H ⟨ρ.tr,ρ0.hid⟩ j/\Rep H ⟨ρ.tr,ρ0.hid⟩ (.lst ps) (.ref a):=
 ⟨x.unhide,R.unhide x.hidM,a,vs,rfl,I,(fun z=>by
  rcases z with z | z
  ·exact R.ap a q z
  ·obtain ⟨o,e,_⟩:=G.hd a z;rw [B] at e; cases e),r.unhide x.hidM⟩
mutual
theorem Rep.trk {b:aA} {hs:List aA} (q:b∈ρ.hid) (j:∀ c,c∈hs->c∈ρ.hid):∀ {p:PV} {v:V},Rep H ρ p v->Rep H ⟨ρ.tr ++ [b],hs⟩ p v
 | .non,_,r=>r
 | .bl _,_,r=>r
 | .int _,_,r=>r
 | .str _,_,r=>r
 | .tup ps,v,⟨c,vs,e,s,n,r⟩=>⟨c,vs,e,s,fun z=>by
   rcases z with z | z
   ·rcases F1.mp z with z | z
    ·exact n (.inl z)
    ·have:c=b:=by simpa using z
     subst this; exact n (.inr q)
   ·exact n (.inr (j _ z)),RepL.trk q j r⟩
 | .lst ps,v,⟨c,vs,e,s,n,r⟩=>⟨c,vs,e,s,fun z=>by
   rcases z with z | z
   ·rcases F1.mp z with z | z
    ·exact n (.inl z)
    ·have:c=b:=by simpa using z
     subst this; exact n (.inr q)
   ·exact n (.inr (j _ z)),RepL.trk q j r⟩
 | .fro ps,v,⟨c,vs,e,s,n,r⟩=>⟨c,vs,e,s,fun z=>by
   rcases z with z | z
   ·rcases F1.mp z with z | z
    ·exact n (.inl z)
    ·have:c=b:=by simpa using z
     subst this; exact n (.inr q)
   ·exact n (.inr (j _ z)),RepL.trk q j r⟩
 | .ref i,v,⟨c,e,e2⟩=>⟨c,by show (ρ.tr ++ [b])[i]?=some c; rw [O5 (O0.mp e).1]; exact e,e2⟩
 | .dic,v,⟨c,e,s,n⟩=>⟨c,e,s,fun z=>by
   rcases z with z | z
   ·rcases F1.mp z with z | z
    ·exact n (.inl z)
    ·have:c=b:=by simpa using z
     subst this; exact n (.inr q)
   ·exact n (.inr (j _ z))⟩
theorem RepL.trk {b:aA} {hs:List aA} (q:b∈ρ.hid) (j:∀ c,c∈hs->c∈ρ.hid):∀ {ps:List PV} {vs:List V},RepL H ρ ps vs->RepL H ⟨ρ.tr ++ [b],hs⟩ ps vs
 | [],_,r=>r
 | p :: ps,_,⟨v,t,e,B,z⟩=>⟨v,t,e,Rep.trk q j B,RepL.trk q j z⟩
end
theorem Qpk (Y:Rel H0 ρ0 st) (x:Ext H0 ρ0 H ρ) {j:Q2} (R:Rel H ρ j) (G:a∈ρ.hid) (O:H0 a=none) (Z:H a=some (.lst vs)) (r:RepL H ρ ps vs) :
  Ext H0 ρ0 H ⟨ρ.tr ++ [a],ρ0.hid⟩/\Rel H ⟨ρ.tr ++ [a],ρ0.hid⟩ (j ++ [.lst ps])/\Rep H ⟨ρ.tr ++ [a],ρ0.hid⟩ (.ref j.length) (.ref a):=by
 have J:a∉ρ0.hid:=fun z=>by
  obtain ⟨o,e,_⟩:=Y.hd a z;rw [O] at e; cases e
 refine ⟨⟨x.pre.trans (dG _ _),fun _ h=>h,fun _ h=>.inl h,x.keep,fun b B=>?_,x.old,x.frz⟩,⟨?_,?_,fun b B=>R.hd b (x.hidM b B),fun b B z=>?_,fun i b c h1 h2=>?_⟩,a,?_,rfl⟩
 ·rcases F1.mp B with z | z
  ·exact x.new b z
  ·have:b=a:=by simpa using z
   subst this; exact .inr O
 ·show (ρ.tr ++ [a]).length=_;rw [O9,O9,R.len]; rfl
 ·show (ρ.tr ++ [a]).Nodup;refine dj.mpr ⟨R.nd,by simp,fun b B c hc e=>?_⟩;have:c=a:=by simpa using hc
  subst this; subst e;exact R.ap b G B
 ·rcases F1.mp z with z | z
  ·exact R.ap b (x.hidM b B) z
  ·have:b=a:=by simpa using z
   subst this; exact J B
 ·have h1:(ρ.tr ++ [a])[i]?=some b:=h1
  by_cases hi:i < j.length
  ·rw [O5 (by rw [R.len]; exact hi)] at h1;rw [O5 hi] at h2;have q:=R.cell i b c h1 h2;cases c with
   | lst I=>
    obtain ⟨us,e1,e2⟩:=q;exact ⟨us,e1,e2.trk G x.hidM⟩
   | dic I=>
    obtain ⟨us,e1,e2⟩:=q;exact ⟨us,e1,e2.1,e2.2.trk G x.hidM⟩
   | dtp I=>
    obtain ⟨us,e1,e2⟩:=q;exact ⟨us,e1,e2.1,e2.2.trk G x.hidM⟩
   | frd I=>
    obtain ⟨us,e1,e2⟩:=q;exact ⟨us,e1,e2.1,e2.2.trk G x.hidM⟩
   | obj C I=>
    obtain ⟨us,e1,e2⟩:=q;exact ⟨us,e1,e2.1,e2.2.trk G x.hidM⟩
  ·rw [D2 (by rw [R.len]; omega)] at h1;rw [D2 (by omega)] at h2;have U:i - j.length=0:=by
    rcases fC (i - j.length) with z | z
    ·exact z
    ·rw [F2 (by simp; omega)] at h2; cases h2
   rw [R.len,U] at h1;rw [U] at h2;simp at h1 h2;subst h1; subst h2;exact ⟨vs,Z,r.trk G x.hidM⟩
 ·show (ρ.tr ++ [a])[j.length]?=some a;rw [<- R.len,D2 (O8 _),dJ]; rfl
end
section
variable {X:Cx} {E:XK} {pos:Pos} {e:aD} {m:ML}
theorem Wh (h:SimN X E e m):SimE X E e (K2 m):=⟨fun Γ σ H ρ st Q R G j=>h.run Γ σ H ρ st _ Q R G j.bind fun ps J H1 ρ1 a vs eq x U q z B r=>by
 obtain ⟨I,R2,O⟩:=Qg3 R x U q z B r;unfold K2 at j;rw [eq] at j;exact j _ _ I R2 _ O⟩
theorem ji (h:SimN X E e m):SimE X E e (Q1h m):=⟨fun Γ σ H ρ st Q R G j=>h.run Γ σ H ρ st _ Q R G j.bind fun ps J H1 ρ1 a vs eq x U q z B r=>by
 obtain ⟨I,R2,O⟩:=Qpk R x U q z B r;unfold Q1h at j;rw [eq] at j;exact j _ _ I R2 _ O⟩
variable {es:List aD} {mr:Gam->Q2->Res (List PV)} {a b:aD} {ma mb:ME}
theorem Qt8 {H1:Hp} {ρ1:Tk} {j:Q2} {H:Hp} {ρ:Tk} {Q:VK} {ps:List PV} {vs:List V} (x:Ext H ρ H1 ρ1) (z:Rel H1 ρ1 j) (r:RepL H1 ρ1 ps vs)
  (k:∀ H1 ρ1 a vs,Ext H ρ H1 ρ1->Rel H1 ρ1 j->a∈ρ1.hid->H a=none->H1 a=some (.lst vs)->RepL H1 ρ1 ps vs->Q (.ref a) H1):∀ p,H1 p=none->Q (.ref p) (upd H1 p (.lst vs)):=fun p hp=>by
 refine k _ (ρ1.hide p) p vs (x.trans (Ext.hide hp)) (z.hide hp) D3 ?_ Je (r.hide hp);cases e:H p with
 | none=>rfl
 | some o=>
  obtain ⟨o',q⟩:=x.old p o e;rw [hp] at q; cases q
def yk (mr:Gam->Q2->Res (List PV)):ML:=fun Γ st=>(mr Γ st).bind fun ps st1=>if ps.length<=lim then .ok ps st1 else .stuck
theorem Q0d (h:SimA X E es mr):SimN X E (.List es pos) (yk mr):=
 ⟨fun Γ σ H ρ st P Q R G J k=>WE.of (Qk4 Q3p) (h.use' R G J.bind fun ps z H1 ρ1 vs eq I O U B h1=>by
  by_cases j:ps.length<=lim
  ·refine ⟨by rw [<- B.length]; exact Ke j,Qt8 I O B fun H2 q a us=>k ps z H2 q a us ?_⟩;unfold yk;rw [eq];exact bK j
  ·rw [bL j] at h1; exact h1.elim)⟩
end
end
def Jy (cap:List (Option Nat)) (Γ:Gam):Gam:=cap.map fun c=>c.bind fun j=>(Γ[j]?).join
theorem EnvR.cap {H:Hp} {ρ:Tk} {Γ:Gam} {σ:St} (h:EnvR H ρ Γ σ) (cap:List (Option Nat)):EnvR H ρ (Jy cap Γ) (Q4r cap σ):=by
 refine ⟨by unfold Jy Q4r; rw [O2,O2],fun i p e=>?_⟩;unfold Jy at e;unfold Q4r;rw [E4] at e ⊢;cases q:cap[i]? with
 | none=>rw [q] at e; cases e
 | some c=>
  rw [q] at e;cases c with
  | none=>cases e
  | some j=>
   have z:(Γ[j]?).join=some p:=bg e;cases r:Γ[j]? with
   | none=>rw [r] at z; cases z
   | some o=>
    rw [r] at z;have:o=some p:=z;subst this;obtain ⟨v,e1,e2⟩:=h.2 j p r;exact ⟨v,by show some ((σ[j]?).join)=some (some v); rw [e1]; rfl,e2⟩
def Qbe (cap:List (Option Nat)) (ga:GA):Prop:=∀ Γ p Γ1,ga p (Jy cap Γ)=some Γ1->Γ1.length=(Jy cap Γ).length/\∀ (i:Nat) (q:PV),(Jy cap Γ)[i]?=some (some q)->Γ1[i]?=some (some q)
theorem Qb7 {cap:List (Option Nat)} {i:Nat} (h:cap[i]?=some none) (Γ:Gam):(Jy cap Γ)[i]?=some none:=by
 unfold Jy;rw [E4,h]; rfl
theorem Jh {cap:List (Option Nat)} {i:Nat} (h:cap[i]?=some none:=by rfl):Qbe cap (Qn i):=fun Γ p Γ1 e=>by
 cases e;refine ⟨D7 ..,fun j q B=>?_⟩;rw [O6 fun z=>?_]
 ·exact B
 ·subst z; rw [Qb7 h] at B; cases B
def Qgv (cap:List (Option Nat)) (ga:GAs):Prop:=∀ Γ ps Γ0 Γ1,(∀ (i:Nat) (q:PV),(Jy cap Γ)[i]?=some (some q)->Γ0[i]?=some (some q))->ga ps Γ0=some Γ1->Γ1.length=Γ0.length/\∀ (i:Nat) (q:PV),(Jy cap Γ)[i]?=some (some q)->Γ1[i]?=some (some q)
theorem Q28 {cap:List (Option Nat)}:Qgv cap jc:=fun Γ ps Γ0 Γ1 h e=>by
 cases ps with
 | nil=>cases e; exact ⟨rfl,h⟩
 | cons _ _=>cases e
theorem U5 {cap:List (Option Nat)} {i:Nat} {gs:GAs} (hs:Qgv cap gs) (h:cap[i]?=some none:=by rfl):Qgv cap (Y5 (Qn i) gs):=fun Γ ps Γ0 Γ1 h0 e=>by
 cases ps with
 | nil=>cases e
 | cons p ps=>
  obtain ⟨a,b⟩:=hs Γ ps (Γ0.set i (some p)) Γ1 (fun k r j=>by
   rw [O6 fun z=>?_]
   ·exact h0 k r j
   ·subst z; rw [Qb7 h] at j; cases j) e
  exact ⟨by rw [a,D7],b⟩
theorem Q27 {cap:List (Option Nat)} {gs:GAs} (hs:Qgv cap gs):Qbe cap (jb gs):=fun Γ p Γ1 e=>by
 cases p with
 | tup ps=>exact hs Γ ps _ Γ1 (fun _ _ h=>h) e
 | _=>cases e
open Classical in
def Ju (ga:GA) (mt:MT) (me:ME) (w:Wt) (Γ0:Gam):List PV->Q2->Res (List PV)
 | [],st=>if wOk w st then .ok [] st else .stuck
 | x :: xs,st=>if wOk w st then (match ga x Γ0 with
  | none=>.stuck
  | some Γ1=>(mt Γ1 st).bind fun b st1=>if b=true then (me Γ1 st1).bind fun y st2=>(Ju ga mt me w Γ0 xs st2).bind fun ys st3=>.ok (y :: ys) st3 else Ju ga mt me w Γ0 xs st1) else .stuck
def noX {α:Type}:Res α->Res α
 | .exc _ _=>.stuck
 | r=>r
def Y3 (cap:List (Option Nat)) (ga:GA) (mi:MI) (mt:MT) (me:ME):ML:=fun Γ st=>(mi Γ st).bind fun iw st1=>noX (Ju ga mt me iw.2 (Jy cap Γ) iw.1 st1)
structure SimTs (X:Cx) (ifs:List aD) (m:MT):Prop where
 run:∀ (Γ:Gam) (σ:St) (H:Hp) (ρ:Tk) (st:Q2) (P:Bool->Q2->Hp->Tk->Prop) (Q:Bool->Hp->Prop),Rel H ρ st->EnvR H ρ Γ σ->Acc X.mg E0 H ρ P (m Γ st) ->
  (∀ b st1 H1 ρ1,m Γ st=.ok b st1->Ext H ρ H1 ρ1->Rel H1 ρ1 st1->EnvR H1 ρ1 Γ σ->Q b H1)->∃ t,PTs X ifs t/\t σ H Q
def Jw:MT:=fun _ st=>.ok true st
theorem Yt {X:Cx}:SimTs X [] Jw:=⟨fun Γ σ H ρ st P Q R G h k=>⟨_,Qp1,k true st H ρ rfl (Ext.refl _ _) R G⟩⟩
theorem Q0b {X:Cx} {c:aD} {m:MT} (I:SimT X E0 c m):SimTs X [c] m:=⟨fun Γ σ H ρ st P Q R G h k=>⟨_,Qp0 Qd4,I.use' R G h fun b j H1 ρ1 e q B z p=>k b j H1 ρ1 e q B z⟩⟩
theorem Qqz {α:Type} {mg:Str->Option aB} {E E':XK} {H:Hp} {ρ:Tk} {P:α->Q2->Hp->Tk->Prop} {r:Res α} (h:Acc mg E H ρ P (noX r)):Acc mg E' H ρ P r:=by
 cases r with
 | ok a st=>exact h
 | exc x st=>exact h.elim
 | stuck=>exact h
theorem Res.assoc {α β j:Type} (r:Res α) (f:α->Q2->Res β) (g:β->Q2->Res j):(r.bind f).bind g=r.bind fun a st=>(f a st).bind g:=by cases r <;> rfl
theorem Acc.assoc {α β j:Type} {mg:Str->Option aB} {E:XK} {H:Hp} {ρ:Tk} {P:j->Q2->Hp->Tk->Prop} {r:Res α} {f:α->Q2->Res β} {g:β->Q2->Res j} (h:Acc mg E H ρ P ((r.bind f).bind g)):Acc mg E H ρ P (r.bind fun a st=>(f a st).bind g):=by
 rw [<- Res.assoc]; exact h
theorem EnvR.le {H:Hp} {ρ:Tk} {Γ j:Gam} {σ:St} (h:EnvR H ρ j σ) (z:Γ.length=σ.length) (k:∀ (i:Nat) (q:PV),Γ[i]?=some (some q)->j[i]?=some (some q)):EnvR H ρ Γ σ:=⟨z,fun i p e=>h.2 i p (k i p e)⟩
section
variable {X:Cx} {E:XK} {pos:Pos} {tg iter elt:aD} {ifs:List aD} {N N':List Str} {sc scE:Scope} {cap:List (Option Nat)} {ga:GA} {mi:MI} {mt:MT} {me:ME}
def aE (X:Cx) (N':List Str) (sc:Scope) (e:aD):TE:=fun σ H Q=>∀ cl C s0 H0 ex,WE (Xy X N' sc cl C s0 H0 ex) e σ H Q
def aG (X:Cx) (N':List Str) (sc:Scope) (tg:aD):TG:=fun v σ H Q=>∀ cl C s0 H0 ex,WGx (Xy X N' sc cl C s0 H0 ex) tg v σ H Q
def aT (X:Cx) (N':List Str) (sc:Scope) (ifs:List aD):TT:=fun σ H Q=>∀ cl C s0 H0 ex,∃ t,PTs (Xy X N' sc cl C s0 H0 ex) ifs t/\t σ H Q
theorem Qie {Γ:Gam} {σ:St} {H1:Hp} {ρ1:Tk} {O:Q2} {J:It} {j:List PV} {w:Wt} {Q:VK} {P:List PV->Q2->Hp->Tk->Prop} (hg:∀ cl C s0 H0 ex,SimG (Xy X N' sc cl C s0 H0 ex) tg ga) (he:∀ cl C s0 H0 ex,SimE (Xy X N' sc cl C s0 H0 ex) E0 elt me) (ht:∀ cl C s0 H0 ex,SimTs (Xy X N' sc cl C s0 H0 ex) ifs mt)
  (hf:Qbe cap ga) (R1:Rel H1 ρ1 O) (G1:EnvR H1 ρ1 Γ σ) (src:Src J j w H1 ρ1) (c3:j.length<=sizeLine) (h:Acc X.mg E0 H1 ρ1 P (Ju ga mt me w (Jy cap Γ) j O))
  (k:∀ ys b5 H2 a5 q vs,Ju ga mt me w (Jy cap Γ) j O=.ok ys b5->Ext H1 ρ1 H2 a5->Rel H2 a5 b5->q∈a5.hid->H1 q=none->H2 q=some (.lst vs)->RepL H2 a5 ys vs->Q (.ref q) H2):Qb4 J cap (aG X N' sc tg) (aT X N' sc ifs) (aE X N' sc elt) σ H1 Q:=by
 intro q B;let W:Nat->Nat->List V->St->Hp->Prop:=fun i m vs a6 H'=>m=j.length - i/\i<=j.length/\vs.length<=i/\∃ ρ' st' ys,Ext H1 ρ1 H' ρ'/\q∈ρ'.hid/\Rel H' ρ' st'/\EnvR H' ρ' (Jy cap Γ) a6/\H' q=some (.lst vs)/\RepL H' ρ' ys vs /\
  Ju ga mt me w (Jy cap Γ) j O=(Ju ga mt me w (Jy cap Γ) (j.drop i) st').bind fun zs U=>.ok (ys ++ zs) U
 refine ⟨W,⟨_,rfl,cc _,O8 _,ρ1.hide q,O,[],Ext.hide B,D3,R1.hide B,(G1.cap cap).hide B,Je,rfl,?_⟩,?_⟩
 ·rw [dl];cases r:Ju ga mt me w (Jy cap Γ) j O with
  | ok zs U=>rfl
  | exc x U=>rfl
  | stuck=>rfl
 rintro i m vs a6 H' ⟨hm,hi,c4,ρ',st',ys,x,Z,R',G',ha,ry,I⟩;have G:Acc X.mg E0 H1 ρ1 P ((Ju ga mt me w (Jy cap Γ) (j.drop i) st').bind fun zs U=>.ok (ys ++ zs) U):=by rw [<- I]; exact h
 refine ⟨ha,?_⟩
 by_cases a2:i < j.length
 ·right
  have hd:j.drop i=j[i] :: j.drop (i + 1):=gN a2;rw [hd,Ju] at G I
  by_cases hw:wOk w st'
  ·rw [bK hw] at G I;refine ⟨src.go H' _ st' x R' hw i a2,by omega,fun y H2 hy=>?_⟩;obtain ⟨sm,b7⟩:=src.yld H' _ st' x R' hw i _ (O4 a2) y H2 hy;cases eg:ga j[i] (Jy cap Γ) with
   | none=>rw [eg] at G; exact G.elim
   | some Γ1=>
    rw [eg] at G I;have x2:Ext H' ρ' H2 ρ':=Ext.same sm;have R2:=R'.same sm;intro cl C s0 H0 ex;refine (hg cl C s0 H0 ex).run (Jy cap Γ) Γ1 a6 H2 ρ' _ y _ (G'.ext x2) b7 eg fun a8 G3=>?_
    intro cl C s0 H0 ex;have c2:=Acc.later G (x.trans x2);refine (ht cl C s0 H0 ex).run Γ1 a8 H2 ρ' st' _ _ R2 G3 (Acc.bind (Acc.assoc c2)) fun b b8 H4 a3 e4 x4 R4 G4=>?_
    simp only [e4,Res.bind] at G I;have G0:∀ {a7:Hp} {Y:Tk},EnvR a7 Y Γ1 a8->EnvR a7 Y (Jy cap Γ) a8:=fun {a7 Y} g=>g.le (by
     rw [<- G3.1];exact (hf Γ _ Γ1 eg).1.symm) (hf Γ _ Γ1 eg).2
    have b2:Ext H1 ρ1 H4 a3:=x.trans (x2.trans x4);have a9:q∈a3.hid:=x4.hidM q Z;have na:q∉ρ'.tr:=R'.ap q Z;have b6:H4 q=some (.lst vs):=x4.keep q _ (sm q _ ha) na;have b3:RepL H4 a3 ys vs:=ry.ext (x2.trans x4);cases b with
    | false=>
     rw [bL D8] at G I ⊢;exact ⟨_,show j.length - (i + 1) < m by omega,rfl,a2,by omega,a3,b8,ys,b2,a9,R4,G0 G4,b6,b3,I⟩
    | true=>
     rw [bK rfl] at G I ⊢;intro cl C s0 H0 ex;have b9:=Acc.later G b2;refine (he cl C s0 H0 ex).use' R4 G4 (Acc.bind (Acc.assoc b9)) fun z b4 H5 b0 zv e5 x5 R5 G5 r5 h5=>?_
     simp only [e5,Res.bind] at G I;have a4:q∈b0.hid:=x5.hidM q a9;have c0:H5 q=some (.lst vs):=x5.keep q _ b6 (R4.ap q a9);have c1:Ext H1 ρ1 H5 b0:=b2.trans x5;refine ⟨c0,_,show j.length - (i + 1) < m by omega,rfl,a2,by rw [O9]; simp; omega,b0,b4,ys ++ [z],c1.put0 B,a4,R5.rehide a4,(G0 G5).rehide a4,Je,((b3.ext x5).append (RepL.cons r5 RepL.nil)).rehide a4,?_⟩;refine I.trans ?_;cases rr:Ju ga mt me w (Jy cap Γ) (j.drop (i + 1)) b4 with
     | ok zs b1=>
      show Res.ok (ys ++ z :: zs) b1=Res.ok ((ys ++ [z]) ++ zs) b1;rw [cM]; rfl
     | exc x6 b1=>rfl
     | stuck=>rfl
  ·rw [bL hw] at G; exact G.elim
 ·left
  have ei:i=j.length:=by omega
  subst ei;rw [fE,Ju] at G I
  by_cases hw:wOk w st'
  ·rw [bK hw] at G I;refine ⟨src.stop H' _ st' x R' hw,?_⟩;have I:Ju ga mt me w (Jy cap Γ) j O=.ok (ys ++ []) st':=I;rw [bu] at I;exact k ys st' H' ρ' q vs I x R' Z B ha ry
  ·rw [bL hw] at G; exact G.elim
theorem Qe5 {Γ:Gam} {σ:St} {H:Hp} {ρ:Tk} {st:Q2} {Q:VK} {P:List PV->Q2->Hp->Tk->Prop} (hi:SimI X E tg iter mi) (hg:∀ cl C s0 H0 ex,SimG (Xy X N' sc cl C s0 H0 ex) tg ga) (U:∀ cl C s0 H0 ex,SimE (Xy X N' sc cl C s0 H0 ex) E0 elt me) (ht:∀ cl C s0 H0 ex,SimTs (Xy X N' sc cl C s0 H0 ex) ifs mt)
  (hf:Qbe cap ga) (R:Rel H ρ st) (G:EnvR H ρ Γ σ) (h:Acc X.mg E H ρ P (Y3 cap ga mi mt me Γ st)) (k:∀ ps q H2 j a vs,Y3 cap ga mi mt me Γ st=.ok ps q->Ext H ρ H2 j->Rel H2 j q->a∈j.hid->H a=none->H2 a=some (.lst vs)->RepL H2 j ps vs->Q (.ref a) H2):Qbh cap (WI X tg iter) (aG X N' sc tg) (aT X N' sc ifs) (aE X N' sc elt) σ H Q:=by
 refine hi.run Γ σ H ρ st _ _ R G h.bind fun iw a2 H1 ρ1 J eq I R1 G1 ok hl src h1=>?_
 refine Qie hg U ht hf R1 G1 src hl (Qqz (E':=E0) h1) fun ys q H2 j z vs B Z R2 hm hn Y ry=>?_
 refine k ys q H2 j z vs ?_ (I.trans Z) R2 hm ?_ Y ry
 ·unfold Y3;rw [eq];show noX _=_;rw [B]; rfl
 cases e:H z with
 | none=>rfl
 | some o=>
  obtain ⟨o',O⟩:=I.old z o e;rw [hn] at O; cases O
theorem Qvk {N':List Str} {sc:Scope} {tg:aD}:∀ cl C s0 H0 ex,PG (Xy X N' sc cl C s0 H0 ex) tg (aG X N' sc tg):=fun cl C s0 H0 ex pins s σ H v u Q I r h=>Qpa pins s σ H v u Q I r (h cl C s0 H0 ex)
theorem Qvt {N':List Str} {sc:Scope} {e:aD}:∀ cl C s0 H0 ex,PE (Xy X N' sc cl C s0 H0 ex) e (aE X N' sc e):=fun cl C s0 H0 ex pins s σ H Q I h=>h cl C s0 H0 ex pins s I
theorem Qr7 {N':List Str} {sc:Scope} {ifs:List aD}:∀ cl C s0 H0 ex,PTs (Xy X N' sc cl C s0 H0 ex) ifs (aT X N' sc ifs):=fun cl C s0 H0 ex pins s σ H Q I h=>by
 obtain ⟨t,a,b⟩:=h cl C s0 H0 ex;exact a pins s σ H Q I b
theorem Y6 (cap:List (Option Nat)) (N':List Str) (j:X.calm=true) (hi:SimI X E tg iter mi) (B:∀ cl C s0 H0 ex,SimG (Xy X N' sc cl C s0 H0 ex) tg ga) (q:∀ cl C s0 H0 ex,SimE (Xy X N' sc cl C s0 H0 ex) E0 elt me) (O:∀ cl C s0 H0 ex,SimTs (Xy X N' sc cl C s0 H0 ex) ifs mt)
  (z:Qbe cap ga) (I:X.N=N:=by rfl) (J:X.env.scope=scE:=by rfl) (U:compOkC N N' sc scE cap=true:=by kernel_rfl) (hs:∀ x,az iter X.env x=pure x:=by intro _; rfl) :
  SimN X E (.ListComp elt [⟨tg,iter,ifs,0⟩] sc pos) (Y3 cap ga mi mt me):=
 ⟨fun Γ σ H ρ st P Q R G h k=>WE.of (Qk5 j Qsh Qvk Qvt Qr7 I J U hs) (Qe5 hi B q O z R G h k)⟩
end
inductive SR where
 | nx (Γ:Gam) (st:Q2) | rt (v:PV) (st:Q2) | bk (Γ:Gam) (st:Q2) | ct (Γ:Gam) (st:Q2) | exc (x:Exc) (st:Q2) | stuck
abbrev MS:=Gam->Q2->SR
def Res.sbind {α:Type} (r:Res α) (f:α->Q2->SR):SR:=match r with
 | .ok a st=>f a st
 | .exc x st=>.exc x st
 | .stuck=>.stuck
def AccS (mg:Str->Option aB) (E:XK) (D:Ends) (H:Hp) (ρ:Tk):SR->Prop
 | .nx Γ st=>∀ σ' H' ρ',Ext H ρ H' ρ'->Rel H' ρ' st->EnvR H' ρ' Γ σ'->D.nx σ' H'
 | .bk Γ st=>∀ σ' H' ρ',Ext H ρ H' ρ'->Rel H' ρ' st->EnvR H' ρ' Γ σ'->D.bk σ' H'
 | .ct Γ st=>∀ σ' H' ρ',Ext H ρ H' ρ'->Rel H' ρ' st->EnvR H' ρ' Γ σ'->D.ct σ' H'
 | .rt p st=>∀ v H' ρ',Ext H ρ H' ρ'->Rel H' ρ' st->Rep H' ρ' p v->D.rt v H'
 | .exc x st=>∀ C dv H' ρ',mg x.cls=some (.ref C)->Ext H ρ H' ρ'->Rel H' ρ' st->XFs H' ρ' x.fs dv->E (.ref C) dv H'
 | .stuck=>False
section
variable {α:Type} {mg:Str->Option aB} {E:XK} {D:Ends} {H H1:Hp} {ρ ρ1:Tk}
theorem AccS.later {r:SR} (h:AccS mg E D H ρ r) (x:Ext H ρ H1 ρ1):AccS mg E D H1 ρ1 r:=by
 cases r with
 | nx Γ st=>exact fun j H' ρ' q=>h j H' ρ' (x.trans q)
 | bk Γ st=>exact fun j H' ρ' q=>h j H' ρ' (x.trans q)
 | ct Γ st=>exact fun j H' ρ' q=>h j H' ρ' (x.trans q)
 | rt p st=>exact fun v H' ρ' q=>h v H' ρ' (x.trans q)
 | exc y st=>exact fun C z H' ρ' m q=>h C z H' ρ' m (x.trans q)
 | stuck=>exact h
theorem AccS.bind {r:Res α} {f:α->Q2->SR} (h:AccS mg E D H ρ (r.sbind f)):Acc mg E H ρ (fun a j H1 ρ1=>AccS mg E D H1 ρ1 (f a j)) r:=by
 cases r with
 | ok a st=>exact fun H' ρ' q z=>AccS.later (show AccS mg E D H ρ (f a st) from h) q
 | exc e st=>exact h
 | stuck=>exact h
end
theorem Res.sassoc {α β:Type} (r:Res α) (f:α->Q2->Res β) (g:β->Q2->SR):(r.bind f).sbind g=r.sbind fun a st=>(f a st).sbind g:=by cases r <;> rfl
theorem AccS.assoc {α β:Type} {mg:Str->Option aB} {E:XK} {D:Ends} {H:Hp} {ρ:Tk} {r:Res α} {f:α->Q2->Res β} {g:β->Q2->SR} (h:AccS mg E D H ρ ((r.bind f).sbind g)):AccS mg E D H ρ (r.sbind fun a st=>(f a st).sbind g):=by
 rw [<- Res.sassoc]; exact h
structure SimS (X:Cx) (E:XK) (s:aM) (m:MS):Prop where
 run:∀ (Γ:Gam) (σ:St) (H:Hp) (ρ:Tk) (st:Q2) (D:Ends),Rel H ρ st->EnvR H ρ Γ σ->AccS X.mg E D H ρ (m Γ st)->WS X s D σ H
structure SimB (X:Cx) (E:XK) (ss:List aM) (m:MS):Prop where
 run:∀ (Γ:Gam) (σ:St) (H:Hp) (ρ:Tk) (st:Q2) (D:Ends),Rel H ρ st->EnvR H ρ Γ σ->AccS X.mg E D H ρ (m Γ st)->WB X ss D σ H
section
variable {X:Cx} {E:XK} {pos:Pos} {e:aD} {m:ME}
def Y7:MS:=fun Γ st=>.nx Γ st
def Qq (m1 m2:MS):MS:=fun Γ st=>match m1 Γ st with
 | .nx Γ1 st1=>m2 Γ1 st1
 | r=>r
theorem Za:SimB X E [] Y7:=⟨fun Γ σ H ρ st D R G h=>WB.of Qp3 (h σ H ρ (Ext.refl _ _) R G)⟩
theorem Qb {s:aM} {rest:List aM} {m1 m2:MS} (h1:SimS X E s m1) (h2:SimB X E rest m2):SimB X E (s :: rest) (Qq m1 m2):=
 ⟨fun Γ σ H ρ st D R G h=>WB.of (Qd5 Qvh Q7n) (h1.run Γ σ H ρ st _ R G (by
  unfold Qq at h;cases r:m1 Γ st with
  | nx Γ1 j=>rw [r] at h; exact fun q H' ρ' I B z=>h2.run Γ1 q H' ρ' j D B z (AccS.later h I)
  | bk Γ1 j=>rw [r] at h; exact h
  | ct Γ1 j=>rw [r] at h; exact h
  | rt p j=>rw [r] at h; exact h
  | exc x j=>rw [r] at h; exact h
  | stuck=>rw [r] at h; exact h))⟩
theorem Qd {s:aM} {m1:MS} (h1:SimS X E s m1):SimB X E [s] m1:=⟨fun Γ σ H ρ st D R G h=>WB.of (Qbs Qvh) (h1.run Γ σ H ρ st D R G h)⟩
def Vh (m:ME):MS:=fun Γ st=>(m Γ st).sbind fun _ st1=>.nx Γ st1
theorem W1 (j:SimE X E e m) (hs:swapsWith e none pos.line X.env=pure false:=by rfl):SimS X E (.Expr e pos) (Vh m):=
 ⟨fun Γ σ H ρ st D R G h=>WS.of (Qfy W2 hs) (j.use R G h.bind fun p z H1 ρ1 v I B q J h1=>h1 σ H1 ρ1 (Ext.refl _ _) B q)⟩
def Jx (m:ME):MS:=fun Γ st=>(m Γ st).sbind fun p st1=>.rt p st1
theorem Qy (j:SimE X E e m):SimS X E (.Return (some e) pos) (Jx m):=
 ⟨fun Γ σ H ρ st D R G h=>WS.of (Qju W2) (j.use R G h.bind fun p z H1 ρ1 v I B J q h1=>h1 v H1 ρ1 (Ext.refl _ _) B q)⟩
def Jg (i:Nat) (m:ME):MS:=fun Γ st=>(m Γ st).sbind fun p st1=>.nx (Γ.set i (some p)) st1
theorem Qx (i:Nat) {x:Str} {pos':Pos} (B:X.N.Nodup) (j:SimE X E e m) (hi:X.N[i]?=some x:=by rfl) (z:Loc X.env.scope x:=by first | exact Or.inl rfl | exact Or.inr rfl) (hs:swapsWith e (some (.Name x pos')) pos.line X.env=pure false:=by rfl) (q:X.fn x=true\/X.env.scope.names.lookup x=some .local:=by first | exact .inl rfl | exact .inr rfl) :
  SimS X E (.Assign [.Name x pos'] e pos) (Jg i m):=
 ⟨fun Γ σ H ρ st D R G h=>WS.of (Qsd B hi z W2 hs q) (j.use R G h.bind fun p O H1 ρ1 v Y U I J h1=>h1 _ H1 ρ1 (Ext.refl _ _) U (I.set J i))⟩
section
variable {tg iter elt:aD} {ifs:List aD} {N N':List Str} {sc scE:Scope} {ga:GA} {mi:MI} {mt:MT} {me:ME}
theorem Q46 (cap:List (Option Nat)) (N':List Str) (i:Nat) {x:Str} {O cpos:Pos} (I:X.N.Nodup) (j:X.calm=true) (hi:SimI X E tg iter mi) (hg:∀ cl C s0 H0 ex,SimG (Xy X N' sc cl C s0 H0 ex) tg ga) (U:∀ cl C s0 H0 ex,SimE (Xy X N' sc cl C s0 H0 ex) E0 elt me) (ht:∀ cl C s0 H0 ex,SimTs (Xy X N' sc cl C s0 H0 ex) ifs mt)
  (hf:Qbe cap ga) (q:X.N[i]?=some x:=by rfl) (hx:Loc X.env.scope x:=by first | exact Or.inl rfl | exact Or.inr rfl) (z:swapsWith (.ListComp elt [⟨tg,iter,ifs,0⟩] sc cpos) (some (.Name x O)) pos.line X.env=pure true:=by rfl)
  (Y:X.N=N:=by rfl) (hE:X.env.scope=scE:=by rfl) (hc:compOkC N N' sc scE cap=true:=by kernel_rfl) (hs:∀ x,az iter X.env x=pure x:=by intro _; rfl) (B:X.fn x=true\/X.env.scope.names.lookup x=some .local:=by first | exact .inl rfl | exact .inr rfl) :
  SimS X E (.Assign [.Name x O] (.ListComp elt [⟨tg,iter,ifs,0⟩] sc cpos) pos) (Jg i (K2 (Y3 cap ga mi mt me))):=
 ⟨fun Γ σ H ρ st D R G h=>WS.of (Qjv I q hx j Qsh Qvk Qvt Qr7 z Y hE hc hs B) (Qe5 hi hg U ht hf R G (AccS.bind (by unfold Jg K2 at h; exact AccS.assoc h)) fun ps a2 H1 ρ1 a vs eq x R1 hm hn Z r=>by
  obtain ⟨J,R2,r2⟩:=Qg3 R x R1 hm hn Z r;simp only [Jg,K2,eq,Res.bind,Res.sbind] at h;exact h _ _ _ J R2 ((G.ext J).set r2 i))⟩
end
def Qks (ga:GA) (m:ME):MS:=fun Γ st=>(m Γ st).sbind fun p st1=>match ga p Γ with
 | some Γ1=>.nx Γ1 st1
 | none=>.stuck
theorem Qs2 {tg:aD} {ga:GA} (z:SimE X E e m) (I:SimG X tg ga) (hs:swapsWithSole [tg] e pos.line X.env=pure false:=by rfl) (O:swappedStores [tg] e X.env=pure none:=by rfl) (h1:(ak [tg] X.env).map (·.2)=[assign tg X.env]:=by rfl):SimS X E (.Assign [tg] e pos) (Qks ga m):=
 ⟨fun Γ σ H ρ st D R G h=>WS.of (Qjw W2 Qpa hs O h1) (z.use R G h.bind fun p Y H1 ρ1 v x1 Z J U h1=>by
  cases q:ga p Γ with
  | none=>rw [q] at h1; exact h1.elim
  | some Γ1=>
   rw [q] at h1;exact I.run Γ Γ1 σ H1 ρ1 p v _ J U q fun j B=>h1 j H1 ρ1 (Ext.refl _ _) Z B)⟩
def Q1n (st:Q2) (o i p:PV):Option Q2:=match o,i with
 | .ref k,.int j=>match st[k]? with
  | some (.lst xs)=>(ixN xs.length j).map fun n=>st.set k (.lst (xs.set n p))
  | _=>none
 | _,_=>none
def Q0w (mo mi m:ME):MS:=fun Γ st=>(m Γ st).sbind fun p st1=>(mo Γ st1).sbind fun o st2=>(mi Γ st2).sbind fun i st3=>match Q1n st3 o i p with
 | some st4=>.nx Γ st4
 | none=>.stuck
theorem Qnk {H:Hp} {ρ:Tk} {st st':Q2} {o i p:PV} {x y z:V} (R:Rel H ρ st) (O:Rep H ρ o x) (ri:Rep H ρ i y) (U:Rep H ρ p z) (e:Q1n st o i p=some st') :
  ∃ a vs k j,x=.ref a/\y=.int k/\H a=some (.lst vs)/\ixN vs.length k=some j/\Ext H ρ (upd H a (.lst (vs.set j z))) ρ/\Rel (upd H a (.lst (vs.set j z))) ρ st':=by
 unfold Q1n at e
 split at e
 ·rename_i k j
  split at e
  ·rename_i xs hs;cases G:ixN xs.length j with
   | none=>rw [G] at e; cases e
   | some n=>
    rw [G] at e;have e:st.set k (.lst (xs.set n p))=st':=bg e;subst e;obtain ⟨a,B,rfl⟩:=O;cases ri;obtain ⟨b,vs,J,q,I⟩:=R.lst hs;rw [B] at J; cases J;exact ⟨a,vs,j,n,rfl,rfl,q,by rw [<- I.length]; exact G,Ext.put (D5 B) q,R.put B q (I.set U n)⟩
  ·cases e
 ·cases e
theorem Q7b {o i:aD} {mo mi:ME} {tpos:Pos} (Z:SimE X E e m) (ho:SimE X E o mo) (hi:SimE X E i mi)
  (ha:∀ v,assign (.Subscript o i tpos) X.env v=(do
   let q <- ag [v] (aL o X.env)
   let B <- ag [v,q] (aL i X.env)
   standAt tpos
   ag [v,q,B] (setItem q B v)
   release [v,q,B] []):=by intro _; rfl)
  (hs:swapsWithSole [.Subscript o i tpos] e pos.line X.env=pure false:=by rfl) (hw:swappedStores [.Subscript o i tpos] e X.env=pure none:=by rfl) (h1:(ak [.Subscript o i tpos] X.env).map (·.2)=[assign (.Subscript o i tpos) X.env]:=by rfl) :
  SimS X E (.Assign [.Subscript o i tpos] e pos) (Q0w mo mi m):=
 ⟨fun Γ σ H ρ st D R G h=>WS.of (Qjw W2 (Qsk W2 W2 Qjf ha) hs hw h1) (Z.use R G h.bind fun p a3 H1 ρ1 z x1 R1 G1 r1 h1=>ho.use R1 G1 h1.bind fun q a4 H2 a5 x x2 R2 G2 r2 h2=>hi.use R2 G2 h2.bind fun B J H3 O y Y R3 G3 r3 I=>by
  cases es:Q1n J q B p with
  | none=>rw [es] at I; exact I.elim
  | some a2=>
   rw [es] at I;obtain ⟨a,vs,k,j,rfl,rfl,f1,f2,U,R4⟩:=Qnk R3 (r2.ext Y) r3 (r1.ext (x2.trans Y)) es;exact ⟨a,vs,k,j,rfl,rfl,f1,f2,I σ _ O U R4 (G3.ext U)⟩)⟩
def Ys (mt:MT) (ma mb:MS):MS:=fun Γ st=>(mt Γ st).sbind fun b st1=>if b=true then ma Γ st1 else mb Γ st1
theorem Jz {c:aD} {a b:List aM} {mt:MT} {ma mb:MS} (J:SimT X E c mt) (I:SimB X E a ma) (B:SimB X E b mb):SimS X E (.If c a b pos) (Ys mt ma mb):=
 ⟨fun Γ σ H ρ st D R G h=>WS.of (Qvi Qd4 Q7n Q7n) (J.use R G h.bind fun k j H1 ρ1 O z q h1=>by
  cases k with
  | true=>rw [bK rfl] at h1 ⊢; exact I.run Γ σ H1 ρ1 j D z q h1
  | false=>rw [bL D8] at h1 ⊢; exact B.run Γ σ H1 ρ1 j D z q h1)⟩
open Classical in
def Q02 (ga:GA) (body:MS) (w:Wt):List PV->Gam->Q2->SR
 | [],Γ,st=>if wOk w st then .nx Γ st else .stuck
 | x :: xs,Γ,st=>if wOk w st then (match ga x Γ with
  | none=>.stuck
  | some Γ1=>match body Γ1 st with
   | .nx Γ2 st2=>Q02 ga body w xs Γ2 st2
   | .ct Γ2 st2=>Q02 ga body w xs Γ2 st2
   | .bk Γ2 st2=>.nx Γ2 st2
   | .rt v st2=>.rt v st2
   | .exc x st2=>.exc x st2
   | .stuck=>.stuck) else .stuck
def Q4k (ga:GA) (mi:MI) (body:MS):MS:=fun Γ st=>(mi Γ st).sbind fun iw st1=>Q02 ga body iw.2 iw.1 Γ st1
theorem zr {tg iter:aD} {bd:List aM} {ga:GA} {mi:MI} {body:MS} (hp:PassesOwn (aJ X.prog X.w) X.A X.env X.xe) (hc:X.calm=true) (hi:SimI X E tg iter mi) (hg:SimG X tg ga) (hb:SimB X E bd body)
  (hs:∀ x,az iter X.env x=pure x:=by intro _; rfl):SimS X E (.For tg iter bd [] pos) (Q4k ga mi body):=
 ⟨fun Γ σ H ρ st D R G h=>WS.of (Qse hp hc Qsh Qpa Q7n hs) (hi.run Γ σ H ρ st _ _ R G h.bind fun B a6 H1 ρ1 J eq x1 R1 G1 ok hl src h1=>by
  let W:Nat->Nat->St->Hp->Prop:=fun i m I H'=>m=B.1.length - i/\i<=B.1.length/\∃ Y ρ' st',Ext H1 ρ1 H' ρ'/\Rel H' ρ' st'/\EnvR H' ρ' Y I/\AccS X.mg E D H' ρ' (Q02 ga body B.2 (B.1.drop i) Y st')
  refine ⟨W,⟨_,rfl,cc _,Γ,ρ1,a6,Ext.refl _ _,R1,G1,by rw [dl]; exact h1⟩,?_⟩;rintro i m I H' ⟨hm,a7,Y,ρ',st',x,R',G',U⟩
  by_cases a3:i < B.1.length
  ·right
   have hd:B.1.drop i=B.1[i] :: B.1.drop (i + 1):=gN a3;rw [hd,Q02] at U
   by_cases hw:wOk B.2 st'
   ·rw [bK hw] at U;refine ⟨src.go H' ρ' st' x R' hw i a3,fun a4 H2=>W (i + 1) (B.1.length - (i + 1)) a4 H2,fun a4 H2 z=>⟨_,by omega,z⟩,fun y H2 hy=>?_⟩
    obtain ⟨sm,ry⟩:=src.yld H' ρ' st' x R' hw i _ (O4 a3) y H2 hy;have x2:Ext H' ρ' H2 ρ':=Ext.same sm;cases eg:ga B.1[i] Y with
    | none=>rw [eg] at U; exact U.elim
    | some Γ1=>
     rw [eg] at U;refine hg.run Y Γ1 I H2 ρ' _ y _ (G'.ext x2) ry eg fun a5 G3=>?_
     have j:=AccS.later U x2;simp only at j;refine hb.run Γ1 a5 H2 ρ' st' _ (R'.same sm) G3 ?_;have again:∀ {O:Gam} {q:Q2},AccS X.mg E D H2 ρ' (Q02 ga body B.2 (B.1.drop (i + 1)) O q)->∀ I a2 Z,Ext H2 ρ' a2 Z->Rel a2 Z q->EnvR a2 Z O I->W (i + 1) (B.1.length - (i + 1)) I a2:=fun {O q} a σ4 H4 ρ4 x4 R4 G4=>
      ⟨rfl,a3,O,ρ4,q,x.trans (x2.trans x4),R4,G4,AccS.later a x4⟩
     cases rb:body Γ1 st' with
     | nx O q=>rw [rb] at j; exact again j
     | ct O q=>rw [rb] at j; exact again j
     | bk O q=>rw [rb] at j; exact j
     | rt v q=>rw [rb] at j; exact j
     | exc y q=>rw [rb] at j; exact j
     | stuck=>rw [rb] at j; exact j.elim
   ·rw [bL hw] at U; exact U.elim
  ·left
   have ei:i=B.1.length:=by omega
   subst ei;rw [fE,Q02] at U
   by_cases hw:wOk B.2 st'
   ·rw [bK hw] at U;exact ⟨src.stop H' ρ' st' x R' hw,U I H' ρ' (Ext.refl _ _) R' G'⟩
   ·rw [bL hw] at U; exact U.elim)⟩
def zp (mt:MT) (body:MS):Nat->Gam->Q2->SR
 | 0,_,_=>.stuck
 | n + 1, Γ, st => (mt Γ st).sbind fun b st1 => if b = true then (match body Γ st1 with
   | .nx Γ2 st2=>zp mt body n Γ2 st2
   | .ct Γ2 st2=>zp mt body n Γ2 st2
   | .bk Γ2 st2=>.nx Γ2 st2
   | .rt v st2=>.rt v st2
   | .exc x st2=>.exc x st2
   | .stuck=>.stuck) else .nx Γ st1
theorem Qjd (n:Nat) {c:aD} {bd:List aM} {mt:MT} {body:MS} (hp:PassesOwn (aJ X.prog X.w) X.A X.env X.xe) (hc:SimT X E c mt) (hb:SimB X E bd body):SimS X E (.While c bd [] pos) (zp mt body n):=
 ⟨fun Γ σ H ρ st D R G h=>WS.of (Qjs hp Qd4 Q7n) (by
  let W:Nat->St->Hp->Prop:=fun m q H'=>∃ I ρ' st',Rel H' ρ' st'/\EnvR H' ρ' I q/\AccS X.mg E D H' ρ' (zp mt body m I st')
  refine ⟨W,⟨n,Γ,ρ,st,R,G,h⟩,?_⟩;rintro m q H' ⟨I,ρ',st',R',G',Z⟩;cases m with
  | zero=>exact Z.elim
  | succ m=>
   rw [zp] at Z;refine hc.use R' G' Z.bind fun b Y H1 ρ1 x1 R1 G1 h1=>?_
   cases b with
   | false=>rw [bL D8] at h1 ⊢; exact h1 q H1 ρ1 (Ext.refl _ _) R1 G1
   | true=>
    rw [bK rfl] at h1 ⊢;refine ⟨fun U H2=>W m U H2,fun U H2 z=>⟨m,cR _,z⟩,hb.run I q H1 ρ1 Y _ R1 G1 ?_⟩
    have again:∀ {B:Gam} {j:Q2},AccS X.mg E D H1 ρ1 (zp mt body m B j)->∀ q O J,Ext H1 ρ1 O J->Rel O J j->EnvR O J B q->W m q O:=fun {B j} a σ4 H4 ρ4 x4 R4 G4=>⟨B,ρ4,j,R4,G4,AccS.later a x4⟩
    cases rb:body I Y with
    | nx B j=>rw [rb] at h1; exact again h1
    | ct B j=>rw [rb] at h1; exact again h1
    | bk B j=>rw [rb] at h1; exact h1
    | rt v j=>rw [rb] at h1; exact h1
    | exc y j=>rw [rb] at h1; exact h1
    | stuck=>rw [rb] at h1; exact h1.elim)⟩
def qr (x:Str) (m:ME):MS:=fun Γ st=>(m Γ st).sbind fun _ st1=>.exc ⟨x,none⟩ st1
theorem Uc {x:Str} {C:aA} {U cpos:Pos} (j:X.calm=true) (RO:Q97 X E) (O:Gl X x) (I:X.mg x=some (.ref C)) (q:bb X.K C Xx "ValueError.__new__" = true) (J:SimE X E e m)
  (B:(x == ("__debug__" : Str))=false:=by decide) (z:aO [e] X.env=[(false,aL e X.env)]:=by rfl):SimS X E (.Raise (some (.Call (.Name x U) [e] [] cpos)) none pos) (qr x m):=
 ⟨fun Γ σ H ρ st D R G h=>WS.of (Qhe j RO O I q (Q0j W2 Q7s (by rw [z]; rfl)) B z) (J.use R G h.bind fun p Y H1 ρ1 v x1 Z G1 r1 h1=>⟨F0 (show 1<=lim by decide) Qfb,h1 C none H1 ρ1 I (Ext.refl _ _) Z rfl⟩)⟩
end
def WM (X:Cx) (id:String):V->List V->Hp->VK->Prop:=fun x xs H Q=>∀ (pins:List (aA × Obj)) (s:aC) (σ:St) (v:aB) (us:List aB),Inv X pins σ H s->RelV x v->Vals xs us->aI (aJ X.prog X.w) X.A (call (.builtin id) (v :: us)) (EP X pins σ Q) X.xe s
theorem Qyr {X:Cx} {id:String}:MtR X id (WM X id):=fun pins s σ _ _ _ v us _ I r j h=>h pins s σ v us I r j
theorem WM.of {X:Cx} {id:String} {r:V->List V->Hp->VK->Prop} {x:V} {xs:List V} {H:Hp} {Q:VK} (h:MtR X id r) (q:r x xs H Q):WM X id x xs H Q:=fun pins s σ v us I z j=>h pins s σ H x xs v us Q I z j q
abbrev MF:=Q2->PV->List PV->Res PV
structure MtS (X:Cx) (E:XK) (id:String) (o:MF):Prop where
 run:∀ (H:Hp) (ρ:Tk) (st:Q2) (p:PV) (ps:List PV) (x:V) (xs:List V) (Q:VK),Rel H ρ st->Rep H ρ p x->RepL H ρ ps xs->Acc X.mg E H ρ (QV Q) (o st p ps)->WM X id x xs H Q
section
variable {X:Cx} {E:XK} {o e:aD} {es:List aD} {mo:ME} {mr:Gam->Q2->Res (List PV)} {name:Str} {apos cpos:Pos} {T id:String} {f:MF}
def mBM (f:MF) (mo:ME) (mr:Gam->Q2->Res (List PV)):ME:=fun Γ st=>(mo Γ st).bind fun p st1=>match Q0y st1 p with
 | some _=>(mr Γ st1).bind fun ps st2=>f st2 p ps
 | none=>.stuck
theorem Qr3 (pa:PlainAttrs "list") (slot:Slot "list" name id) (J:typeOf (.builtin id)=pure (.type "method_descriptor")) (hm:MtS X E id f) (ho:SimE X E o mo) (Z:SimA X E (e :: es) mr)
  (z:ai o name X.env (aL o X.env)=aL o X.env:=by rfl)
  (B:((aU cpos (aO (e :: es) X.env)).all (fun x=>!x.1) && (backToKw cpos (keywordEach [] X.env)).all (fun x=>x.1.isSome)
   && decide ((e :: es).length + ([]:List Keyword).length + (if ([]:List Keyword).isEmpty then 0 else 1) < 30))=true:=by rfl)
  (q:(apos.endLine == cpos.line)=true:=by rfl) (hs:aO (e :: es) X.env=(false,aL e X.env) :: aO es X.env:=by rfl) (j:(aU cpos (aO es X.env)).any (·.1)=false:=by rfl) :
  SimE X E (.Call (.Attribute o name apos) (e :: es) [] cpos) (mBM f mo mr):=
 ⟨fun Γ σ H ρ st Q R G h=>WE.of (Qvr pa slot J Qyr W2 Q3p z B q hs j) (ho.use R G h.bind fun p a2 H1 ρ1 v x1 Y G1 U h1=>by
  split at h1
  ·rename_i ys el;obtain ⟨a,vs,rfl,hr,_⟩:=Q6u Y U el;exact ⟨.inl ⟨rfl,vs,.inl hr⟩,Z.use Y G1 h1.bind fun ps I H2 O us x2 R2 G2 r2 h2=>hm.run H2 O I p ps _ us Q R2 (U.ext x2) r2 h2⟩
  ·exact h1.elim)⟩
def chg (st:Q2) (p:PV) (g:List PV->Option (PV × List PV)):Res PV:=match p with
 | .ref i=>match st[i]? with
  | some (.lst xs)=>match g xs with
   | some (r,ys)=>.ok r (st.set i (.lst ys))
   | none=>.stuck
  | _=>.stuck
 | _=>.stuck
theorem Qgm {mg:Str->Option aB} {H:Hp} {ρ:Tk} {st:Q2} {p:PV} {x:V} {g:List PV->Option (PV × List PV)} {Q:VK} (R:Rel H ρ st) (J:Rep H ρ p x) (h:Acc mg E H ρ (QV Q) (chg st p g)) :
  ∃ a xs vs r ys,x=.ref a/\H a=some (.lst vs)/\RepL H ρ xs vs/\g xs=some (r,ys)/\∀ us v,RepL H ρ ys us->Rep H ρ r v->Q v (upd H a (.lst us)):=by
 unfold chg at h
 split at h
 ·rename_i i
  split at h
  ·rename_i xs hs
   split at h
   ·rename_i r ys B;obtain ⟨a,q,rfl⟩:=J;obtain ⟨b,vs,z,j,I⟩:=R.lst hs;rw [q] at z; cases z;refine ⟨a,xs,vs,r,ys,rfl,j,I,B,fun us v O G=>?_⟩;have x:=Ext.put (o':=.lst us) (D5 q) j;exact h _ ρ x (R.put q j O) v (G.ext x)
   ·exact h.elim
  ·exact h.elim
 ·exact h.elim
def Vp:MF:=fun st p ps=>match ps with
 | [y]=>chg st p fun xs=>if xs.length < lim then some (.non,xs ++ [y]) else none
 | _=>.stuck
theorem Qhx:MtS X E "list.append" Vp:=⟨fun H ρ st p ps x xs Q R G I h=>by
 unfold Vp at h
 split at h
 ·obtain ⟨v,rfl,r⟩:=Ve I;obtain ⟨a,ys,vs,J,zs,rfl,B,q,j,k⟩:=Qgm R G h
  split at j
  ·rename_i z;cases j;exact WM.of Qhv ⟨a,vs,v,rfl,rfl,B,by rw [<- q.length]; exact D1 z Qfb,k _ _ (q.append (RepL.cons r RepL.nil)) rfl⟩
  ·cases j
 ·exact h.elim⟩
def Q1x:MF:=fun st p ps=>match ps with
 | [q]=>match Q22 st q with
  | some ys=>chg st p fun xs=>if xs.length + ys.length<=lim then some (.non,xs ++ ys) else none
  | none=>.stuck
 | _=>.stuck
theorem Qhw:MtS X E "list.extend" Q1x:=⟨fun H ρ st p ps x xs Q R J O h=>by
 unfold Q1x at h
 split at h
 ·obtain ⟨v,rfl,r⟩:=Ve O
  split at h
  ·rename_i Y z;obtain ⟨b,us,rfl,G,rb⟩:=Q8g R r z;obtain ⟨a,ys,vs,U,zs,rfl,I,q,j,k⟩:=Qgm R J h
   split at j
   ·rename_i B;cases j;exact WM.of Qhu ⟨a,b,vs,us,rfl,rfl,I,G,by rw [<- q.length,<- rb.length]; exact Ke B,k _ _ (q.append rb) rfl⟩
   ·cases j
  ·exact h.elim
 ·exact h.elim⟩
theorem zm (B:SimE X E o mo) (G:SimA X E [e] mr) (j:ai o "append" X.env (aL o X.env)=aL o X.env:=by rfl)
  (z:((aU cpos (aO [e] X.env)).all (fun x=>!x.1) && (backToKw cpos (keywordEach [] X.env)).all (fun x=>x.1.isSome) && decide ([e].length + ([]:List Keyword).length + (if ([]:List Keyword).isEmpty then 0 else 1) < 30))=true:=by rfl)
  (q:(apos.endLine == cpos.line)=true:=by rfl) (hs:aO [e] X.env=(false,aL e X.env) :: aO [] X.env:=by rfl):SimE X E (.Call (.Attribute o "append" apos) [e] [] cpos) (mBM Vp mo mr):=
 Qr3 gO PySem.F.slot_list_append PySem.F.type_list_append Qhx B G j z q hs
theorem Qh6 (B:SimE X E o mo) (G:SimA X E [e] mr) (j:ai o "extend" X.env (aL o X.env)=aL o X.env:=by rfl)
  (z:((aU cpos (aO [e] X.env)).all (fun x=>!x.1) && (backToKw cpos (keywordEach [] X.env)).all (fun x=>x.1.isSome) && decide ([e].length + ([]:List Keyword).length + (if ([]:List Keyword).isEmpty then 0 else 1) < 30))=true:=by rfl)
  (q:(apos.endLine == cpos.line)=true:=by rfl) (hs:aO [e] X.env=(false,aL e X.env) :: aO [] X.env:=by rfl):SimE X E (.Call (.Attribute o "extend" apos) [e] [] cpos) (mBM Q1x mo mr):=
 Qr3 gO PySem.F.slot_list_extend PySem.F.type_list_extend Qhw B G j z q hs
end
section
mutual
def fz (n:Nat) (st:Q2):Nat->PV->Option PV
 | 0,_=>none
 | _ + 1,.non=>some .non
 | _ + 1,.bl b=>some (.bl b)
 | _ + 1,.int i=>some (.int i)
 | _ + 1,.str x=>some (.str x)
 | k + 1,.tup xs=>(fzL n st k xs).map .tup
 | k + 1,.lst xs=>(fzL n st k xs).map .lst
 | k + 1,.fro xs=>(fzL n st k xs).map .fro
 | _ + 1,.dic=>some .dic
 | k + 1,.ref i=>if i < n then some (.ref i) else match st[i]? with
  | some (.lst xs)=>(fzL n st k xs).map .lst
  | _=>none
def fzL (n:Nat) (st:Q2):Nat->List PV->Option (List PV)
 | _,[]=>some []
 | k,x :: xs=>(fz n st k x).bind fun y=>(fzL n st k xs).map (y :: ·)
end
theorem Q6y {n:Nat} {st:Q2}:∀ {m k:Nat} {p:PV},Y4 m p=true->m < k->fz n st k p=some p:=by
 intro m
 induction m with
 | zero=>
  intro k p g B;obtain ⟨k,rfl⟩:∃ j,k=j + 1:=⟨k - 1,by omega⟩;cases p with
  | tup _=>cases g
  | lst _=>cases g
  | fro _=>cases g
  | ref _=>cases g
  | dic=>cases g
  | _=>rw [fz]
 | succ m G=>
  intro k p g B;obtain ⟨k,rfl⟩:∃ j,k=j + 1:=⟨k - 1,by omega⟩;have q:∀ xs:List PV,xs.all (Y4 m)=true->fzL n st k xs=some xs:=by
   intro xs
   induction xs with
   | nil=>intro _; rw [fzL]
   | cons x xs z=>
    intro g;rw [cY,G6] at g;rw [fzL,G g.1 (by omega),z g.2]; rfl
  cases p with
  | tup xs=>rw [fz,q xs g]; rfl
  | lst xs=>rw [fz,q xs g]; rfl
  | fro xs=>rw [fz,q xs g]; rfl
  | ref _=>cases g
  | dic=>cases g
  | _=>rw [fz]
section
variable {H:Hp} {ρ:Tk} {st:Q2} {tr0 rest hs:List aA}
theorem Qm2 (R:Rel H ρ st) (ht:ρ.tr=tr0 ++ rest) (hh:∀ a,a∈hs->a∈ρ.hid):∀ (k:Nat) {p p':PV} {v:V},Rep H ρ p v->fz tr0.length st k p=some p'->Rep H ⟨tr0,hs⟩ p' v:=by
 have B:∀ a,a∉ρ->a∉(⟨tr0,hs⟩:Tk):=fun a n z=>by
  rcases z with z | z
  ·exact n (.inl (by rw [ht]; exact F9 _ z))
  ·exact n (.inr (hh a z))
 intro k
 induction k with
 | zero=>intro p p' v r e; rw [fz] at e; cases e
 | succ k ih=>
  have U:∀ {ps q:List PV} {vs:List V},RepL H ρ ps vs->fzL tr0.length st k ps=some q->RepL H ⟨tr0,hs⟩ q vs:=by
   intro ps
   induction ps with
   | nil=>intro q vs r e; rw [fzL] at e; cases e; exact r
   | cons x xs Y=>
    intro q vs r e;obtain ⟨v,t,rfl,r1,r2⟩:=r;rw [fzL] at e;cases e1:fz tr0.length st k x with
    | none=>rw [e1] at e; cases e
    | some y=>
     rw [e1] at e;have e:(fzL tr0.length st k xs).map (y :: ·)=some q:=e;cases e2:fzL tr0.length st k xs with
     | none=>rw [e2] at e; cases e
     | some ys=>
      rw [e2] at e;cases e;exact ⟨v,t,rfl,ih r1 e1,Y r2 e2⟩
  intro p p' v r e;cases p with
  | non=>rw [fz] at e; cases e; exact r
  | bl b=>rw [fz] at e; cases e; exact r
  | int i=>rw [fz] at e; cases e; exact r
  | str x=>rw [fz] at e; cases e; exact r
  | tup xs=>
   rw [fz] at e;obtain ⟨a,vs,e1,G,I,O⟩:=r;cases e2:fzL tr0.length st k xs with
   | none=>rw [e2] at e; cases e
   | some ys=>rw [e2] at e; cases e; exact ⟨a,vs,e1,G,B a I,U O e2⟩
  | lst xs=>
   rw [fz] at e;obtain ⟨a,vs,e1,G,I,O⟩:=r;cases e2:fzL tr0.length st k xs with
   | none=>rw [e2] at e; cases e
   | some ys=>rw [e2] at e; cases e; exact ⟨a,vs,e1,G,B a I,U O e2⟩
  | fro xs=>
   rw [fz] at e;obtain ⟨a,vs,e1,G,I,O⟩:=r;cases e2:fzL tr0.length st k xs with
   | none=>rw [e2] at e; cases e
   | some ys=>rw [e2] at e; cases e; exact ⟨a,vs,e1,G,B a I,U O e2⟩
  | dic=>
   rw [fz] at e;cases e;obtain ⟨a,e1,G,I⟩:=r;exact ⟨a,e1,G,B a I⟩
  | ref i=>
   rw [fz] at e;obtain ⟨a,J,rfl⟩:=r
   by_cases hi:i < tr0.length
   ·rw [bK hi] at e;cases e;rw [ht,O5 hi] at J;exact ⟨a,J,rfl⟩
   ·rw [bL hi] at e
    split at e
    ·rename_i xs Z;obtain ⟨b,vs,f1,f2,f3⟩:=R.lst Z;rw [J] at f1; cases f1;cases e2:fzL tr0.length st k xs with
     | none=>rw [e2] at e; cases e
     | some ys=>
      rw [e2] at e; cases e;refine ⟨a,vs,rfl,f2,fun z=>?_,U f3 e2⟩;rcases z with z | z
      ·have z:a∈tr0:=z;obtain ⟨j,hj,ej⟩:=di z;have g1:ρ.tr[j]?=some a:=by rw [ht,O5 hj,O4 hj,ej]
       have l1:=O0.mp g1;have l2:=O0.mp J;have:=Qat R.nd l1.1 l2.1 (l1.2.trans l2.2.symm);omega
      ·exact R.ap a (hh a z) (D5 J)
    ·cases e
mutual
def bel (n:Nat):PV->Prop
 | .tup xs=>Qch n xs
 | .lst xs=>Qch n xs
 | .fro xs=>Qch n xs
 | .ref i=>i < n
 | _=>True
def Qch (n:Nat):List PV->Prop
 | []=>True
 | x :: xs=>bel n x/\Qch n xs
end
mutual
theorem Rep.bel:∀ {p:PV} {v:V},Rep H ρ p v->bel ρ.tr.length p
 | .non,_,_=>by simp [Sm.bel]
 | .bl _,_,_=>by simp [Sm.bel]
 | .int _,_,_=>by simp [Sm.bel]
 | .str _,_,_=>by simp [Sm.bel]
 | .tup ps,_,⟨_,_,_,_,_,r⟩=>by rw [Sm.bel]; exact RepL.bel r
 | .lst ps,_,⟨_,_,_,_,_,r⟩=>by rw [Sm.bel]; exact RepL.bel r
 | .fro ps,_,⟨_,_,_,_,_,r⟩=>by rw [Sm.bel]; exact RepL.bel r
 | .ref i,_,⟨_,e,_⟩=>by rw [Sm.bel]; exact (O0.mp e).1
 | .dic,_,_=>by simp [Sm.bel]
theorem RepL.bel:∀ {ps:List PV} {vs:List V},RepL H ρ ps vs->Qch ρ.tr.length ps
 | [],_,_=>by simp [Qch]
 | p :: ps,_,⟨_,_,_,q,j⟩=>by rw [Qch]; exact ⟨Rep.bel q,RepL.bel j⟩
end
mutual
theorem Rep.less (j:ρ.tr=tr0 ++ rest) (B:∀ a,a∈hs->a∈ρ.hid):∀ {p:PV} {v:V},Sm.bel tr0.length p->Rep H ρ p v->Rep H ⟨tr0,hs⟩ p v
 | .non,_,_,r=>r
 | .bl _,_,_,r=>r
 | .int _,_,_,r=>r
 | .str _,_,_,r=>r
 | .tup ps,_,b,⟨a,vs,e,q,G,r⟩=>⟨a,vs,e,q,fun z=>G (z.imp (fun z=>by rw [j]; exact F9 _ z) (B a)),RepL.less j B (by rw [Sm.bel] at b; exact b) r⟩
 | .lst ps,_,b,⟨a,vs,e,q,G,r⟩=>⟨a,vs,e,q,fun z=>G (z.imp (fun z=>by rw [j]; exact F9 _ z) (B a)),RepL.less j B (by rw [Sm.bel] at b; exact b) r⟩
 | .fro ps,_,b,⟨a,vs,e,q,G,r⟩=>⟨a,vs,e,q,fun z=>G (z.imp (fun z=>by rw [j]; exact F9 _ z) (B a)),RepL.less j B (by rw [Sm.bel] at b; exact b) r⟩
 | .ref i,_,b,⟨a,e,e2⟩=>⟨a,by rw [Sm.bel] at b; rw [j,O5 b] at e; exact e,e2⟩
 | .dic,_,_,⟨a,e,q,G⟩=>⟨a,e,q,fun z=>G (z.imp (fun z=>by rw [j]; exact F9 _ z) (B a))⟩
theorem RepL.less (q:ρ.tr=tr0 ++ rest) (j:∀ a,a∈hs->a∈ρ.hid):∀ {ps:List PV} {vs:List V},Qch tr0.length ps->RepL H ρ ps vs->RepL H ⟨tr0,hs⟩ ps vs
 | [],_,_,r=>r
 | p :: ps,_,b,⟨v,t,e,B,z⟩=>by
  rw [Qch] at b;exact ⟨v,t,e,Rep.less q j b.1 B,RepL.less q j b.2 z⟩
end
end
theorem Qd2 {H H':Hp} {ρ ρ':Tk} {st st':Q2} (R:Rel H ρ st) (x:Ext H ρ H' ρ') (J:Rel H' ρ' st') (hp:st <+: st'):Ext H ρ H' ρ/\Rel H' ρ st:=by
 obtain ⟨rest,z⟩:=x.pre;obtain ⟨more,I⟩:=hp;refine ⟨⟨cZ _,fun _ h=>h,fun _ h=>.inl h,x.keep,fun _ h=>.inl h,x.old,x.frz⟩,R.len,R.nd,fun a G=>let ⟨o,e,n⟩:=R.hd a G; ⟨o,x.keep a o e (R.ap a G),n⟩,R.ap,fun i a c h1 h2=>?_⟩
 have hi:i < st.length:=(O0.mp h2).1;have q:=J.cell i a c (by rw [<- z,O5 (O0.mp h1).1]; exact h1) (by rw [<- I,O5 hi]; exact h2);have B:=R.cell i a c h1 h2;cases c with
 | lst ps=>
  obtain ⟨vs,e1,e2⟩:=q;obtain ⟨us,_,j⟩:=B;exact ⟨vs,e1,RepL.less (ρ:=ρ') (tr0:=ρ.tr) (hs:=ρ.hid) z.symm x.hidM j.bel e2⟩
 | dic ps=>
  obtain ⟨vs,e1,e2⟩:=q;obtain ⟨us,_,j⟩:=B;exact ⟨vs,e1,e2.1,RepL.less (ρ:=ρ') (tr0:=ρ.tr) (hs:=ρ.hid) z.symm x.hidM j.2.bel e2.2⟩
 | dtp ps=>
  obtain ⟨vs,e1,e2⟩:=q;obtain ⟨us,_,j⟩:=B;exact ⟨vs,e1,e2.1,RepL.less (ρ:=ρ') (tr0:=ρ.tr) (hs:=ρ.hid) z.symm x.hidM j.2.bel e2.2⟩
 | frd ps=>
  obtain ⟨vs,e1,e2⟩:=q;obtain ⟨us,_,j⟩:=B;exact ⟨vs,e1,e2.1,RepL.less (ρ:=ρ') (tr0:=ρ.tr) (hs:=ρ.hid) z.symm x.hidM j.2.bel e2.2⟩
 | obj C ps=>
  obtain ⟨vs,e1,e2⟩:=q;obtain ⟨us,_,j⟩:=B;exact ⟨vs,e1,e2.1,RepL.less (ρ:=ρ') (tr0:=ρ.tr) (hs:=ρ.hid) z.symm x.hidM j.2.bel e2.2⟩
abbrev FN:=List PV->Q2->Res PV
open Classical in
def fin (st:Q2) (v:PV) (st':Q2):Res PV:=if st <+: st' then okO st (fz st.length st' 16 v) else .ok v st'
open Classical in
def Qm5 (st:Q2) (x:Exc) (st':Q2):Res PV:=if st <+: st' then (match x.fs with
 | none=>.exc x st
 | some (n,p)=>match fz st.length st' 16 p with
  | some q=>.exc ⟨x.cls,some (n,q)⟩ st
  | none=>.stuck) else .exc x st'
def Qt (body:MS) (nl:Nat):FN:=fun ps st=>match body (ps.map some ++ bR (nl - ps.length) none) st with
 | .rt v st'=>fin st v st'
 | .nx _ st'=>fin st .non st'
 | .exc x st'=>Qm5 st x st'
 | _=>.stuck
theorem Qgh {mg:Str->Option aB} {E:XK} {H:Hp} {ρ:Tk} {st st':Q2} {Q:VK} {p:PV} (R:Rel H ρ st) (h:Acc mg E H ρ (QV Q) (fin st p st')):∀ v H' ρ',Ext H ρ H' ρ'->Rel H' ρ' st'->Rep H' ρ' p v->Q v H':=fun v H' ρ' x j r=>by
 unfold fin at h
 by_cases hp:st <+: st'
 ·rw [bK hp] at h;cases e:fz st.length st' 16 p with
  | none=>rw [e] at h; exact h.elim
  | some q=>
   rw [e] at h;obtain ⟨z,R2⟩:=Qd2 R x j hp;obtain ⟨rest,B⟩:=x.pre;rw [<- R.len] at e;exact h H' ρ z R2 v (Qm2 (tr0:=ρ.tr) (hs:=ρ.hid) j B.symm x.hidM 16 r e)
 ·rw [bL hp] at h;exact h H' ρ' x j v r
def spF (mg:Str->Option aB) (n:Nat) (F:FN):Sp:=fun vs H Q E=>vs.length=n/\∃ ρ st ps,Rel H ρ st/\RepL H ρ ps vs/\Acc mg E H ρ (QV Q) (F ps st)
theorem Qae {H:Hp} {ρ:Tk} {N:List Str} {ps:List PV} {vs:List V} (r:RepL H ρ ps vs):EnvR H ρ (ps.map some ++ bR (N.length - ps.length) none) (L2.start N vs):=by
 have j:=r.length;unfold L2.start;refine ⟨by simp [j],fun i p e=>?_⟩
 by_cases hi:i < ps.length
 ·rw [O5 (by simpa using hi),E4] at e;rw [O5 (by simp; omega),E4];cases q:ps[i]? with
  | none=>rw [q] at e; cases e
  | some p'=>
   rw [q] at e;cases e;obtain ⟨v,e1,e2⟩:=r.get q;exact ⟨v,by rw [e1]; rfl,e2⟩
 ·rw [D2 (by simpa using hi),cU] at e
  split at e <;> cases e
section
variable {P:aN} {w:aK} {K:bQ} {mg:Str->Option aB} {base:Heap}
theorem Qtt {x qual:Str} {st:aM} {f:aA} {fd:aP} {N ps:List Str} {k:Nat} {m:MS} (F:Fun K x qual st f fd) (S:FnScope N ps (Q7 st))
  (hb:∀ (I:aB) (A:aR) (outer:List dq) (s:aC) (H:Hp) (E:XK),Room k (A.deeper (du qual (Q7 st) s.heap.objs.size f I))->SimB (cxD P w K mg base N qual (Q7 st) f I A outer s H E) E (Qp st) m) :
  FnOk P w K mg base (CXD P w) (k + 1) f fd ps (spF mg ps.length (Qt m N.length)):=by
 refine Fun.okD F S (fun vs H Q E h=>h.1) fun I A outer s H vs Q E hr a2=>⟨_,Q7n,?_⟩
 obtain ⟨hl,ρ,G,Y,R,rl,j⟩:=a2;refine (hb I A outer s H E hr).run _ (L2.start N vs) H ρ G _ R (Qae rl) ?_;unfold Qt at j;cases O:m (Y.map some ++ bR (N.length - Y.length) none) G with
 | rt v B=>rw [O] at j; exact Qgh R j
 | nx Γ B=>rw [O] at j; exact fun a3 H' ρ' J U G'=>Qgh R j .non H' ρ' J U rfl
 | bk Γ B=>rw [O] at j; exact j.elim
 | ct Γ B=>rw [O] at j; exact j.elim
 | stuck=>rw [O] at j; exact j.elim
 | exc y B=>
  rw [O] at j;have j:Acc mg E H ρ (QV Q) (Qm5 G y B):=j;intro C Z H' ρ' hm J U hf;unfold Qm5 at j
  by_cases hp:G <+: B
  ·rw [bK hp] at j;obtain ⟨x2,R2⟩:=Qd2 R J U hp;obtain ⟨cls,fs⟩:=y;cases fs with
   | none=>exact j C Z H' ρ hm x2 R2 hf
   | some np=>
    obtain ⟨nm,p⟩:=np;simp only at j;cases e:fz G.length B 16 p with
    | none=>rw [e] at j; exact j.elim
    | some q=>
     rw [e] at j;obtain ⟨rest,ht⟩:=J.pre;rw [<- R.len] at e;obtain ⟨dx,v,e1,e2,e3,e4⟩:=hf;refine j C Z H' ρ hm x2 R2 ⟨dx,v,e1,e2,fun z=>e3 (z.imp (fun z=>by rw [<- ht]; exact F9 _ z) (J.hidM dx)),Qm2 (tr0:=ρ.tr) (hs:=ρ.hid) U ht.symm J.hidM 16 e4 e⟩
  ·rw [bL hp] at j;exact j C Z H' ρ' hm J U hf
end
theorem J2 {P:aN} {w:aK} {K:bQ} {mg:Str->Option aB} {base:Heap} {x qual:Str} {st:aM} {f:aA} {fd:aP} {N ps:List Str} {k n nl:Nat} {m:MS} {z:FN} (F:Fun K x qual st f fd) (S:FnScope N ps (Q7 st)) (G:ps.length=n) (q:N.length=nl) (I:z=Qt m nl)
  (B:∀ (j:aB) (A:aR) (outer:List dq) (s:aC) (H:Hp) (E:XK),Room k (A.deeper (du qual (Q7 st) s.heap.objs.size f j))->SimB (cxD P w K mg base N qual (Q7 st) f j A outer s H E) E (Qp st) m) :
  FnOk P w K mg base (CXD P w) (k + 1) f fd ps (spF mg n z):=by
 subst G; subst q; subst I;exact Qtt F S B
structure DefS (P:aN) (w:aK) (K:bQ) (mg:Str->Option aB) (base:Heap) (k:Nat) (x:Str) (n:Nat) (F:FN):Prop where
 ex:∃ (f:aA) (fd:aP) (ps:List Str),FnOk P w K mg base (CXD P w) k f fd ps (spF mg n F)/\mg x=some (.ref f)/\bT K (.ref f)=true/\Binds K fd ps []/\ps.length=n
def Qi (n:Nat) (F:FN) (mr:Gam->Q2->Res (List PV)):ME:=fun Γ st=>(mr Γ st).bind fun ps st1=>if ps.length=n then F ps st1 else .stuck
section
variable {X:Cx} {E:XK} {k n:Nat} {x:Str} {F:FN} {p pos:Pos} {e:aD} {es:List aD} {mr:Gam->Q2->Res (List PV)}
theorem Qg (D:DefS X.prog X.w X.K X.mg X.base k x n F) (hr:Room k X.A) (hx:jr (CXD X.prog X.w) X E) (Z:Gl X x) (U:SimA X E (e :: es) mr) (q:(x == ("__debug__" : Str))=false:=by decide)
  (O:aO (e :: es) X.env=(false,aL e X.env) :: aO es X.env:=by rfl) (j:(aU pos (aO es X.env)).any (·.1)=false:=by rfl):SimE X E (.Call (.Name x p) (e :: es) [] pos) (Qi n F mr):=by
 obtain ⟨f,fd,ps,hF,hm,Y,hb,hl⟩:=D.ex;exact ⟨fun Γ σ H ρ st Q R G h=>WE.of (Qph hF hr Z hm Y hb .nil hx Q3p q O j) (U.use R G h.bind fun J B H1 ρ1 vs x1 R1 G1 I h1=>by
  by_cases z:J.length=n
  ·rw [bK z] at h1;show spF X.mg n F (vs ++ []) H1 Q E;rw [bu];exact ⟨by rw [<- I.length]; exact z,ρ1,B,J,R1,I,h1⟩
  ·rw [bL z] at h1; exact h1.elim)⟩
end
end
@[simp] theorem J5 {α β:Type} (a:α) (st:Q2) (f:α->Q2->Res β):(Res.ok a st).bind f=f a st:=rfl
@[simp] theorem Qu1 {α β:Type} (f:α->Q2->Res β):(Res.stuck:Res α).bind f=.stuck:=rfl
@[simp] theorem Qx4 {α β:Type} (x:Exc) (st:Q2) (f:α->Q2->Res β):(Res.exc x st:Res α).bind f=.exc x st:=rfl
@[simp] theorem Ue {α:Type} (a:α) (st:Q2) (f:α->Q2->SR):(Res.ok a st).sbind f=f a st:=rfl
@[simp] theorem Qr4 {α:Type} (f:α->Q2->SR):(Res.stuck:Res α).sbind f=.stuck:=rfl
@[simp] theorem Qud {α:Type} (x:Exc) (st:Q2) (f:α->Q2->SR):(Res.exc x st:Res α).sbind f=.exc x st:=rfl
@[simp] theorem Qxm (i:Nat) (Γ:Gam) (st:Q2):Q3 i Γ st=(match Γ[i]? with | some (some p)=>.ok p st | _=>.stuck):=rfl
@[simp] theorem Qz9 (p:PV) (Γ:Gam) (st:Q2):mC p Γ st=.ok p st:=rfl
@[simp] theorem Qtd (o:OP) (a b:ME) (Γ:Gam) (st:Q2):mOp o a b Γ st=(a Γ st).bind fun x j=>(b Γ j).bind fun y q=>o q x y:=rfl
@[simp] theorem Qz3 (b:Bool) (st:Q2):asB (.bl b) st=.ok b st:=rfl
@[simp] theorem Qrv (m:ME) (Γ:Gam) (st:Q2):toB m Γ st=(m Γ st).bind asB:=rfl
def Qnn {α:Type} (x:PV) (A B:Res α):Res α:=match x with
 | .bl true=>A
 | .bl false=>B
 | _=>.stuck
@[simp] theorem Qxa {α:Type} (b:Bool) (A B:Res α):Qnn (.bl b) A B=if b=true then A else B:=by cases b <;> rfl
@[simp] theorem Quh (o o':OP) (a b c:ME) (Γ:Gam) (st:Q2):Q21 o o' a b c Γ st=(a Γ st).bind fun x B=>(b Γ B).bind fun y q=>(o q x y).bind fun k j=>Qnn k ((c Γ j).bind fun z G=>o' G y z) (.ok (.bl false) j):=by
 unfold Q21;refine congrArg _ (funext fun x=>funext fun B=>congrArg _ (funext fun y=>funext fun q=>congrArg _ (funext fun k=>funext fun j=>?_)))
 cases k with
 | bl b=>cases b <;> rfl
 | _=>rfl
@[simp] theorem Qq7 (a b:ME) (Γ:Gam) (st:Q2):Q6h a b Γ st=(a Γ st).bind fun x j=>Qnn x (b Γ j) (.ok (.bl false) j):=by
 unfold Q6h;refine congrArg _ (funext fun x=>funext fun j=>?_);cases x with
 | bl b=>cases b <;> rfl
 | _=>rfl
@[simp] theorem Qyu (a b:ME) (Γ:Gam) (st:Q2):mOr a b Γ st=(a Γ st).bind fun x j=>Qnn x (.ok (.bl true) j) (b Γ j):=by
 unfold mOr;refine congrArg _ (funext fun x=>funext fun j=>?_);cases x with
 | bl b=>cases b <;> rfl
 | _=>rfl
@[simp] theorem Qxn (a:ME) (Γ:Gam) (st:Q2):Qte a Γ st=(a Γ st).bind fun x j=>(match x with | .bl k=>.ok (.bl (!k)) j | _=>.stuck):=rfl
@[simp] theorem Qxq (a:ME) (Γ:Gam) (st:Q2):Q20 a Γ st=(a Γ st).bind fun x j=>(match x with | .int k=>.ok (.int (-k)) j | _=>.stuck):=rfl
@[simp] theorem Qcp (a b:MT) (Γ:Gam) (st:Q2):xj a b Γ st=(a Γ st).bind fun k j=>if k=true then b Γ j else .ok false j:=rfl
@[simp] theorem Qft (a b:MT) (Γ:Gam) (st:Q2):Q45 a b Γ st=(a Γ st).bind fun k j=>if k=true then .ok true j else b Γ j:=rfl
@[simp] theorem Qjb (a:MT) (Γ:Gam) (st:Q2):K6 a Γ st=(a Γ st).bind fun k j=>.ok (!k) j:=rfl
@[simp] theorem Qxp (Γ:Gam) (st:Q2):Qa Γ st=.ok [] st:=rfl
@[simp] theorem Qkq (m:ME) (mr:ML) (Γ:Gam) (st:Q2):Q4 m mr Γ st=(m Γ st).bind fun p j=>(mr Γ j).bind fun ps q=>.ok (p :: ps) q:=rfl
@[simp] theorem Qq0 (mr:ML) (Γ:Gam) (st:Q2):Kb mr Γ st=(mr Γ st).bind fun ps j=>if ps.length<=lim then .ok (.tup ps) j else .stuck:=rfl
@[simp] theorem Qxr (mr:ML) (Γ:Gam) (st:Q2):Qa7 mr Γ st=(mr Γ st).bind fun ps j=>if ps.length<=lim then .ok (.lst ps) j else .stuck:=rfl
@[simp] theorem Qwa (mr:ML) (Γ:Gam) (st:Q2):yk mr Γ st=(mr Γ st).bind fun ps j=>if ps.length<=lim then .ok ps j else .stuck:=rfl
@[simp] theorem Qtb (m:ME) (l h:Gam->Q2->Res (Option Int)) (Γ:Gam) (st:Q2):mSl m l h Γ st=(m Γ st).bind fun p q=>(l Γ q).bind fun lo z=>(h Γ z).bind fun hi j=>oSl j p lo hi:=rfl
@[simp] theorem Qtf (Γ:Gam) (st:Q2):V6 Γ st=.ok none st:=rfl
@[simp] theorem Qw8 (m:ME) (Γ:Gam) (st:Q2):Kc m Γ st=(m Γ st).bind fun p j=>(match p with | .int i=>.ok (some i) j | _=>.stuck):=rfl
@[simp] theorem Qkr (o:CF) (mr:ML) (Γ:Gam) (st:Q2):J6 o mr Γ st=(mr Γ st).bind fun ps j=>o j ps:=rfl
@[simp] theorem Qxs (T:String) (m:ME) (Γ:Gam) (st:Q2):Qdp T m Γ st=(m Γ st).bind fun p j=>if Q3x j p=true then .stuck else .ok (.bl (isI T (dpv j p))) j:=rfl
@[simp] theorem Qwr (st:Q2):Q3x st .non=false:=rfl
@[simp] theorem Qxu (st:Q2) (b:Bool):Q3x st (.bl b)=false:=rfl
@[simp] theorem Qwt (st:Q2) (b:Int):Q3x st (.int b)=false:=rfl
@[simp] theorem Qwp (st:Q2) (b:Str):Q3x st (.str b)=false:=rfl
@[simp] theorem Qwn (st:Q2) (b:List PV):Q3x st (.tup b)=false:=rfl
@[simp] theorem Qws (st:Q2) (b:List PV):Q3x st (.lst b)=false:=rfl
@[simp] theorem Qwu (st:Q2) (b:List PV):Q3x st (.fro b)=false:=rfl
@[simp] theorem Qwv (st:Q2):Q3x st .dic=false:=rfl
@[simp] theorem Qwq (st:Q2) (i:Nat):Q3x st (.ref i)=(match st[i]? with | some (.frd _)=>true | some (.obj _ _)=>true | _=>false):=rfl
@[simp] theorem Qxz (st:Q2):dpv st .non=.non:=rfl
@[simp] theorem Qz1 (st:Q2) (b:Bool):dpv st (.bl b)=(.bl b):=rfl
@[simp] theorem Qy1 (st:Q2) (b:Int):dpv st (.int b)=(.int b):=rfl
@[simp] theorem Qxy (st:Q2) (b:Str):dpv st (.str b)=(.str b):=rfl
@[simp] theorem Qxx (st:Q2) (b:List PV):dpv st (.tup b)=(.tup b):=rfl
@[simp] theorem Qy0 (st:Q2) (b:List PV):dpv st (.lst b)=(.lst b):=rfl
@[simp] theorem Qy2 (st:Q2) (b:List PV):dpv st (.fro b)=(.fro b):=rfl
@[simp] theorem Qz0 (st:Q2):dpv st .dic=.dic:=rfl
@[simp] theorem Qzb (st:Q2) (i:Nat):dpv st (.ref i)=(match st[i]? with | some (.dic _)=>.dic | some (.dtp _)=>.dic | _=>.ref i):=rfl
@[simp] theorem Qpz (m:ML) (Γ:Gam) (st:Q2):K2 m Γ st=(m Γ st).bind fun ps j=>.ok (.lst ps) j:=rfl
@[simp] theorem Qq1 (m:ML) (Γ:Gam) (st:Q2):Q1h m Γ st=(m Γ st).bind fun ps j=>.ok (.ref j.length) (j ++ [.lst ps]):=rfl
@[simp] theorem Qi1 (cap:List (Option Nat)) (ga:GA) (mi:MI) (mt:MT) (me:ME) (Γ:Gam) (st:Q2):Y3 cap ga mi mt me Γ st=(mi Γ st).bind fun q j=>noX (Ju ga mt me q.2 (Jy cap Γ) q.1 j):=rfl
@[simp] theorem Qw7 (Γ:Gam) (st:Q2):Jw Γ st=.ok true st:=rfl
@[simp] theorem Qau (n:Nat) (F:FN) (mr:ML) (Γ:Gam) (st:Q2):Qi n F mr Γ st=(mr Γ st).bind fun ps j=>if ps.length=n then F ps j else .stuck:=rfl
@[simp] theorem Qw9 (Γ:Gam) (st:Q2):Y7 Γ st=.nx Γ st:=rfl
@[simp] theorem Qdm (a b:MS) (Γ:Gam) (st:Q2):Qq a b Γ st=(match a Γ st with | .nx Γ1 j=>b Γ1 j | r=>r):=rfl
@[simp] theorem Q8e (m:ME) (Γ:Gam) (st:Q2):Vh m Γ st=(m Γ st).sbind fun _ j=>.nx Γ j:=rfl
@[simp] theorem Q4j (m:ME) (Γ:Gam) (st:Q2):Jx m Γ st=(m Γ st).sbind fun p j=>.rt p j:=rfl
@[simp] theorem Qq2 (i:Nat) (m:ME) (Γ:Gam) (st:Q2):Jg i m Γ st=(m Γ st).sbind fun p j=>.nx (Γ.set i (some p)) j:=rfl
@[simp] theorem Qg9 (c:MT) (a b:MS) (Γ:Gam) (st:Q2):Ys c a b Γ st=(c Γ st).sbind fun k j=>if k=true then a Γ j else b Γ j:=rfl
@[simp] theorem Qq4 (ga:GA) (mi:MI) (b:MS) (Γ:Gam) (st:Q2):Q4k ga mi b Γ st=(mi Γ st).sbind fun q j=>Q02 ga b q.2 q.1 Γ j:=rfl
@[simp] theorem Qq3 (m:ME) (Γ:Gam) (st:Q2):xy m Γ st=(m Γ st).bind fun p j=>(match X5 j p with | some (xs,w)=>if xs.length<=lim then .ok (xs,w) j else .stuck | none=>.stuck):=rfl
@[simp] theorem Xw (mr:ML) (Γ:Gam) (st:Q2):Yg mr Γ st=(mr Γ st).bind fun ps q=>(match ps with | [.int j]=>if -(lim:Int)<=j/\j<=lim then .ok (Zu 0 j.toNat,[]) q else .stuck | _=>.stuck):=rfl
@[simp] theorem Q8d (mr:ML) (Γ:Gam) (st:Q2):Q0x mr Γ st=(mr Γ st).bind fun ps q=>(match ps with | [.int i,.int j]=>if -(lim:Int)<=i/\i<=lim/\-(lim:Int)<=j/\j<=lim then .ok (Zu i (j - i).toNat,[]) q else .stuck | _=>.stuck):=rfl
@[simp] theorem Qxk (mr:ML) (Γ:Gam) (st:Q2):Qa6 mr Γ st=(mr Γ st).bind fun ps j=>(match ps with | [p,q]=>(match X5 j p,X5 j q with | some (xs,w),some (ys,z)=>if xs.length<=lim then .ok (Q73 xs ys,w ++ z) j else .stuck | _,_=>.stuck) | _=>.stuck):=rfl
@[simp] theorem Qwb (mr:ML) (Γ:Gam) (st:Q2):Qga mr Γ st=(mr Γ st).bind fun ps j=>(match ps with | [p]=>(match X5 j p with | some (xs,w)=>if xs.length<=lim then .ok (yn 0 xs,w) j else .stuck | none=>.stuck) | _=>.stuck):=rfl
@[simp] theorem Qtg (f:MF) (mo:ME) (mr:ML) (Γ:Gam) (st:Q2):mBM f mo mr Γ st=(mo Γ st).bind fun p j=>(match Q0y j p with | some _=>(mr Γ j).bind fun ps q=>f q p ps | none=>.stuck):=rfl
@[simp] theorem Qq6 (ga:GA) (m:ME) (Γ:Gam) (st:Q2):Qks ga m Γ st=(m Γ st).sbind fun p j=>(match ga p Γ with | some Γ1=>.nx Γ1 j | none=>.stuck):=rfl
@[simp] theorem Qhz (mo mi m:ME) (Γ:Gam) (st:Q2):Q0w mo mi m Γ st=(m Γ st).sbind fun p z=>(mo Γ z).sbind fun o B=>(mi Γ B).sbind fun i q=>(match Q1n q o i p with | some j=>.nx Γ j | none=>.stuck):=rfl
@[simp] theorem Quf (x:Str) (m:ME) (Γ:Gam) (st:Q2):qr x m Γ st=(m Γ st).sbind fun _ j=>.exc ⟨x,none⟩ j:=rfl
@[simp] theorem Quj (i:Nat) (p:PV) (Γ:Gam):Qn i p Γ=some (Γ.set i (some p)):=rfl
@[simp] theorem Qwj (Γ:Gam):jc [] Γ=some Γ:=rfl
@[simp] theorem Quk (g:GA) (gs:GAs) (p:PV) (r:List PV) (Γ:Gam):Y5 g gs (p :: r) Γ=(g p Γ).bind (gs r):=rfl
@[simp] theorem Qwi (gs:GAs) (ps:List PV) (Γ:Gam):jb gs (.tup ps) Γ=gs ps Γ:=rfl
@[simp] theorem Qyq {α:Type} (a:α) (st:Q2):noX (Res.ok a st)=.ok a st:=rfl
@[simp] theorem Que {α:Type}:noX (Res.stuck:Res α)=.stuck:=rfl
@[simp] theorem Qde {α:Type} (st:Q2) (a:α):okO st (some a)=.ok a st:=rfl
@[simp] theorem Qvz {α:Type} (st:Q2):okO st (none:Option α)=.stuck:=rfl
@[simp] theorem Qz8 (g:Int->Int->PV) (st:Q2) (a b:Int):oI g st (.int a) (.int b)=.ok (g a b) st:=rfl
@[simp] theorem Qw6 (st:Q2) (a b:Int):Wi st (.int a) (.int b)=.ok (.int (a + b)) st:=rfl
@[simp] theorem Qw5 (st:Q2) (a b:List PV):Wi st (.tup a) (.tup b)=if a.length + b.length<=lim then .ok (.tup (a ++ b)) st else .stuck:=rfl
@[simp] theorem Qw1 (st:Q2) (a b:Int):Q6f st (.int a) (.int b)=if (-(2 ^ 64) < a/\a < 2 ^ 64)\/(-(2 ^ 64) < b/\b < 2 ^ 64) then .ok (.int (a * b)) st else .stuck:=rfl
@[simp] theorem Qw0 (st:Q2) (xs:List PV) (b:Int):Q6f st (.tup xs) (.int b)=if xs≠[]/\1<=b/\xs.length * b.toNat<=4096 then .ok (.tup (bR b.toNat xs).flatten) st else .stuck:=rfl
@[simp] theorem Qw2 (st:Q2) (a b:Int):Q38 st (.int a) (.int b)=if 0 < b then .ok (.int (a % b)) st else .stuck:=rfl
@[simp] theorem Qw4 (st:Q2) (a b:Int):Qpv st (.int a) (.int b)=if 0 < b/\b < 1073741824 then .ok (.int (a / b)) st else .stuck:=rfl
@[simp] theorem Qke (st:Q2) (a b:Int):Qkf st (.int a) (.int b)=if 0<=b/\b<=1000000/\a.natAbs < 2 ^ 64 then .ok (.int (a ^ b.toNat)) st else .stuck:=rfl
@[simp] theorem Qxf (st:Q2) (a b:Int):oLt st (.int a) (.int b)=.ok (.bl (decide (a < b))) st:=rfl
@[simp] theorem Qxj (st:Q2) (a b:Int):oEq st (.int a) (.int b)=.ok (.bl (a == b)) st:=rfl
@[simp] theorem Qxe (st:Q2) (a b:Int):oNe st (.int a) (.int b)=.ok (.bl (!(a == b))) st:=rfl
@[simp] theorem Qyp (st:Q2) (a b:Bool):oEq st (.bl a) (.bl b)=.ok (.bl (a == b)) st:=rfl
@[simp] theorem Qyn (st:Q2) (a b:Bool):oNe st (.bl a) (.bl b)=.ok (.bl (!(a == b))) st:=rfl
@[simp] theorem Qxi (st:Q2) (a b:Str):oEq st (.str a) (.str b)=.ok (.bl (a == b)) st:=rfl
@[simp] theorem Qxd (st:Q2) (a b:Str):oNe st (.str a) (.str b)=.ok (.bl (!(a == b))) st:=rfl
@[simp] theorem Qui (st:Q2) (xs:List PV):Q22 st (.lst xs)=some xs:=rfl
@[simp] theorem Qth (st:Q2) (xs:List PV):Q0y st (.lst xs)=some xs:=rfl
@[simp] theorem Qti (st:Q2) (xs:List PV):Q0y st (.fro xs)=some xs:=rfl
@[simp] theorem Qah (st:Q2) (xs:List PV):qe st (.lst xs)=some xs:=rfl
@[simp] theorem Quc (st:Q2) (xs:List PV):qe st (.fro xs)=some xs:=rfl
@[simp] theorem Qh4 (st:Q2) (xs:List PV):qe st (.tup xs)=some xs:=rfl
@[simp] theorem Qua (st:Q2) (xs:List PV):X5 st (.lst xs)=some (xs,[]):=rfl
@[simp] theorem Qub (st:Q2) (xs:List PV):X5 st (.fro xs)=some (xs,[]):=rfl
@[simp] theorem Qu9 (st:Q2) (xs:List PV):X5 st (.tup xs)=some (xs,[]):=rfl
theorem qt {st:Q2} {i:Nat} {xs:List PV} (h:st[i]?=some (.lst xs)):Q22 st (.ref i)=some xs:=by simp only [Q22,h]
@[simp] theorem Qg5 (st:Q2) (xs:List PV) (i:Int):oIx st (.tup xs) (.int i)=okO st (atI xs i):=rfl
@[simp] theorem Qxg (st:Q2) (xs:List PV) (i:Int):oIx st (.lst xs) (.int i)=okO st (atI xs i):=rfl
@[simp] theorem Qxh (st:Q2) (xs:List PV) (i:Int):oIx st (.fro xs) (.int i)=okO st (atI xs i):=rfl
@[simp] theorem yg (st:Q2) (xs:List PV) (l h:Option Int):oSl st (.tup xs) l h=.ok (.tup (cut xs l h)) st:=rfl
@[simp] theorem Qxb (st:Q2) (xs:List PV) (l h:Option Int):oSl st (.lst xs) l h=.ok (.lst (cut xs l h)) st:=rfl
@[simp] theorem Qxc (st:Q2) (xs:List PV) (l h:Option Int):oSl st (.fro xs) l h=.ok (.lst (cut xs l h)) st:=rfl
@[simp] theorem Qwz (st:Q2) (xs:List PV):Yw st [.tup xs]=.ok (.int xs.length) st:=rfl
@[simp] theorem Qx0 (st:Q2) (xs:List PV):Yw st [.lst xs]=.ok (.int xs.length) st:=rfl
@[simp] theorem Qx1 (st:Q2) (xs:List PV):Yw st [.fro xs]=.ok (.int xs.length) st:=rfl
@[simp] theorem Qtz (st:Q2) (xs:List PV):Uj st [.tup xs]=.ok (.tup xs) st:=rfl
@[simp] theorem Qu0 (st:Q2) (xs:List PV):Uj st [.lst xs]=.ok (.tup xs) st:=rfl
@[simp] theorem Q94 (g:List Bool->PV) (st:Q2) (bs:List Bool):Q39 g st [.lst (bs.map .bl)]=.ok (g bs) st:=by
 simp only [Q39,Qah,fF,Qqx]
@[simp] theorem Qir (g:List Int->Option PV) (st:Q2) (ns:List Int):Vt g st [.lst (ns.map .int)]=okO st (g ns):=by
 simp only [Vt,Qah,fF,Qdy]
@[simp] theorem Qiq (g:List Int->Option PV) (st:Q2) (ns:List Int):Vt g st [.tup (ns.map .int)]=okO st (g ns):=by
 simp only [Vt,Qh4,fF,Qdy]
@[simp] theorem Qe8 (st:Q2) (a b:Int):Q93 st [.int a,.int b]=.ok (.int (if b > a then b else a)) st:=rfl
@[simp] theorem Qmq (st:Q2) (a b:Int):Qip st [.int a,.int b]=.ok (.int (if b < a then b else a)) st:=rfl
@[simp] theorem Qun (st:Q2):wOk [] st=True:=by simp [wOk]
@[simp] theorem Qm4 (st:Q2) (b:Bool):fin st (.bl b) st=.ok (.bl b) st:=by simp [fin,fz]
@[simp] theorem Qgg (st:Q2) (b:Int):fin st (.int b) st=.ok (.int b) st:=by simp [fin,fz]
@[simp] theorem Qxw (st:Q2):fin st .non st=.ok .non st:=by simp [fin,fz]
@[simp] theorem Qxv (st:Q2) (b:Str):fin st (.str b) st=.ok (.str b) st:=by simp [fin,fz]
theorem Ui {st:Q2} {v:PV} (g:Y4 12 v=true):fin st v st=.ok v st:=by
 simp only [fin,List.prefix_rfl,if_true,Q6y g (by decide:12 < 16),Qde]
theorem Q5p {st more:Q2} {v:PV} (g:Y4 12 v=true):fin st v (st ++ more)=.ok v st:=by
 simp only [fin,dG,if_true,Q6y g (by decide:12 < 16),Qde]
theorem Jv:lim=1000000:=rfl
theorem Yr {α:Type} (g f:α->PV) {ga:GA} {me:ME} {w:Wt} {Γ0:Gam} {st:Q2} (q:wOk w st) {ys:List α} (h:∀ y∈ys,∃ Γ1,ga (g y) Γ0=some Γ1/\me Γ1 st=.ok (f y) st):Ju ga Jw me w Γ0 (ys.map g) st=.ok (ys.map f) st:=by
 induction ys with
 | nil=>simp [Ju,q]
 | cons y ys j=>
  obtain ⟨Γ1,h1,h2⟩:=h y D3;have j:=j fun z hz=>h z (D0 _ hz)
  rw [F4,Ju,bK q,h1];simp [h2,j]
theorem Q2y {α:Type} (g f:α->PV) (t:α->Bool) {ga:GA} {mt:MT} {me:ME} {w:Wt} {Γ0:Gam} {st:Q2} (q:wOk w st) {ys:List α} (h:∀ y∈ys,∃ Γ1,ga (g y) Γ0=some Γ1/\mt Γ1 st=.ok (t y) st/\(t y=true->me Γ1 st=.ok (f y) st)):Ju ga mt me w Γ0 (ys.map g) st=.ok ((ys.filter t).map f) st:=by
 induction ys with
 | nil=>simp [Ju,q]
 | cons y ys j=>
  obtain ⟨Γ1,h1,h2,B⟩:=h y D3;have j:=j fun z hz=>h z (D0 _ hz)
  rw [F4,Ju,bK q,h1];simp only [h2,J5,j];cases tx:t y with
  | true=>simp [B tx,tx,j]
  | false=>simp [tx]
@[simp] theorem Qx3 {α:Type} (g:List Bool->PV) (st:Q2) (ys:List α) (b:α->Bool):Q39 g st [.lst (ys.map fun y=>.bl (b y))]=.ok (g (ys.map b)) st:=by
 rw [show (ys.map fun y=>PV.bl (b y))=(ys.map b).map .bl by rw [br]; rfl,Q94]
@[simp] theorem Q5s {α:Type} (g:List Int->Option PV) (st:Q2) (ys:List α) (b:α->Int):Vt g st [.lst (ys.map fun y=>.int (b y))]=okO st (g (ys.map b)):=by
 rw [show (ys.map fun y=>PV.int (b y))=(ys.map b).map .int by rw [br]; rfl,Qir]
theorem jd {α:Type} (g:α->PV) {xs:List α} (I:Nat->Gam->Q2->Prop) {ga:GA} {body:MS} {w:Wt} (G:∀ i Γ st,I i Γ st->wOk w st)
  (h:∀ (i:Nat) x Γ st,xs[i]?=some x->I i Γ st->∃ Γ1,ga (g x) Γ=some Γ1/\∃ B q,body Γ1 st=.nx B q/\I (i + 1) B q) {Γ:Gam} {st:Q2} (h0:I 0 Γ st):∃ j st',Q02 ga body w (xs.map g) Γ st=.nx j st'/\I xs.length j st':=by
 induction xs generalizing I Γ st with
 | nil=>exact ⟨Γ,st,by simp [Q02,G 0 Γ st h0],h0⟩
 | cons x xs Y=>
  obtain ⟨Γ1,h1,B,q,e2,J⟩:=h 0 x Γ st rfl h0;obtain ⟨j,st',e3,U⟩:=Y (fun i=>I (i + 1)) (fun i Γ st z=>G (i + 1) Γ st z) (fun i y Γ st O z=>h (i + 1) y Γ st (by simpa using O) z) J
  refine ⟨j,st',?_,U⟩;rw [F4,Q02,bK (G 0 Γ st h0),h1];simp only [e2];exact e3
theorem Qay {α:Type} (g:α->PV) {xs:List α} (I:List α->Gam->Q2->Prop) {ga:GA} {body:MS} {w:Wt} (J:∀ pre Γ st,I pre Γ st->wOk w st)
  (h:∀ pre x j Γ st,xs=pre ++ x :: j->I pre Γ st->∃ Γ1,ga (g x) Γ=some Γ1/\∃ B z,body Γ1 st=.nx B z/\I (pre ++ [x]) B z) {Γ:Gam} {st:Q2} (h0:I [] Γ st):∃ q st',Q02 ga body w (xs.map g) Γ st=.nx q st'/\I xs q st':=by
 have G:∀ (j pre:List α) (Γ:Gam) (st:Q2),xs=pre ++ j->I pre Γ st->∃ q st',Q02 ga body w (j.map g) Γ st=.nx q st'/\I xs q st':=by
  intro j
  induction j with
  | nil=>intro pre Γ st e i; exact ⟨Γ,st,by simp [Q02,J pre Γ st i],by rw [e,bu]; exact i⟩
  | cons x j Y=>
   intro pre Γ st e i;obtain ⟨Γ1,h1,B,z,e2,O⟩:=h pre x j Γ st e i;obtain ⟨q,st',e3,U⟩:=Y (pre ++ [x]) B z (by rw [e]; simp) O;refine ⟨q,st',?_,U⟩;rw [F4,Q02,bK (J pre Γ st i),h1];simp only [e2];exact e3
 exact G xs [] Γ st rfl h0
theorem Q1j {α β:Type} (f:α->PV) (g:β->PV) (xs:List α) (ys:List β):Q73 (xs.map f) (ys.map g)=(xs.zip ys).map fun z=>.tup [f z.1,g z.2]:=by
 rw [Qbf,List.zip_map,br]; rfl
theorem Qb1 {α:Type} (f:α->PV):∀ (n:Nat) (xs:List α),yn n (xs.map f)=(xs.zipIdx n).map fun z=>.tup [.int (z.2:Nat),f z.1]
 | n,[]=>rfl
 | n,x :: xs=>by rw [F4,yn,Qb1 f (n + 1) xs]; rfl
theorem Xp {α:Type} (f:α->PV) (xs:List α) (i:Int):atI (xs.map f) i=(atI xs i).map f:=by
 unfold atI;rw [O2];cases ixN xs.length i with
 | none=>rfl
 | some j=>simp [E4]
theorem atI_get {α:Type} {xs:List α} {i:Nat} {x:α} (h:xs[i]?=some x):atI xs (i:Int)=some x:=by
 have j:=(O0.mp h).1;unfold atI ixN;rw [bK (by omega),bK (by omega)];simpa using h
theorem yq {α:Type} (f:α->PV) (xs:List α) (l h:Option Int):cut (xs.map f) l h=(cut xs l h).map f:=by
 unfold cut;rw [O2,<- List.map_drop,<- gP]
theorem V5 (n:Nat):Zu 0 n=(bV n).map fun (k:Nat)=>PV.int (k:Int):=by
 unfold Zu;refine fw fun k _=>?_
 rw [Int.zero_add]
@[simp] theorem Qy5 {α:Type} (st l:List α) (c:α):(st ++ c :: l)[st.length]?=some c:=by
 rw [D2 (O8 _),dJ]; rfl
@[simp] theorem Qx8 {α:Type} (st l:List α) (c d:α):(st ++ c :: d :: l)[st.length + 1]?=some d:=by
 rw [D2 (by omega)];rw [show st.length + 1 - st.length=1 by omega]; rfl
@[simp] theorem Qy4 {α:Type} (st l:List α) (c d:α):(st ++ c :: l).set st.length d=st ++ d :: l:=by
 rw [gQ _ _ (O8 _),dJ]; rfl
@[simp] theorem Qx7 {α:Type} (st l:List α) (c j d:α):(st ++ c :: j :: l).set (st.length + 1) d=st ++ c :: d :: l:=by
 rw [gQ _ _ (by omega),show st.length + 1 - st.length=1 by omega]; rfl
@[simp] theorem Qy3 (st:Q2) (i:Nat) (g:List PV->Option (PV × List PV)):chg st (.ref i) g=(match st[i]? with | some (.lst xs)=>(match g xs with | some (r,ys)=>.ok r (st.set i (.lst ys)) | none=>.stuck) | _=>.stuck):=rfl
@[simp] theorem Qxt (st:Q2) (i:Nat):Q22 st (.ref i)=(match st[i]? with | some (.lst xs)=>some xs | _=>none):=rfl
@[simp] theorem Qkt (st:Q2) (i:Nat):Q0y st (.ref i)=(match st[i]? with | some (.lst xs)=>some xs | _=>none):=rfl
@[simp] theorem Q6p (st:Q2) (i:Nat):qe st (.ref i)=(match st[i]? with | some (.lst xs)=>some xs | _=>none):=rfl
@[simp] theorem Qnh (st:Q2) (i:Nat):X5 st (.ref i)=(match st[i]? with | some (.lst xs)=>some (xs,[(i,.lst xs)]) | _=>none):=rfl
@[simp] theorem Qrc (st:Q2) (p y:PV):Vp st p [y]=chg st p fun xs=>if xs.length < lim then some (.non,xs ++ [y]) else none:=rfl
@[simp] theorem Qwy (st:Q2) (i:Nat):Uj st [.ref i]=(match st[i]? with | some (.lst xs)=>.ok (.tup xs) st | _=>.stuck):=by
 unfold Uj; simp only [Q6p];cases st[i]? with
 | none=>rfl
 | some c=>cases c <;> rfl
@[simp] theorem Qmr (st:Q2) (i:Nat):Yw st [.ref i]=(match st[i]? with | some (.lst xs)=>.ok (.int xs.length) st | _=>.stuck):=by
 unfold Yw; simp only [Q6p];cases st[i]? with
 | none=>rfl
 | some c=>cases c <;> rfl
@[simp] theorem Qw3 (st:Q2) (i:Nat) (j:Int):oIx st (.ref i) (.int j)=(match st[i]? with | some (.lst xs)=>okO st (atI xs j) | _=>.stuck):=by
 unfold oIx; simp only [Q6p];cases st[i]? with
 | none=>rfl
 | some c=>cases c <;> rfl
@[simp] theorem Qx9 (st:Q2) (k:Nat) (j:Int) (p:PV):Q1n st (.ref k) (.int j) p=(match st[k]? with | some (.lst xs)=>(ixN xs.length j).map fun n=>st.set k (.lst (xs.set n p)) | _=>none):=rfl
theorem Q06 {α:Type} (xs:List α) (k:Nat):cut xs none (some (k:Int))=xs.take k:=by
 unfold cut;rw [HT.sIx_none,HT.sIx_nat,dl,gK];rcases gR k xs.length with h | h
 ·rw [gS h]
 ·rw [gT h,eu,gU h]
theorem Q2b {α:Type} (xs:List α) (k:Nat):cut xs (some (k:Int)) none=xs.drop k:=by
 unfold cut;rw [HT.sIx_none,HT.sIx_nat];rcases gR k xs.length with h | h
 ·rw [gS h,gU (by rw [cV]; omega)]
 ·rw [gT h,fE,List.drop_of_length_le h]; simp
theorem getD_some {α:Type} {l:List α} {j:Nat} (h:j < l.length) (d:α):l[j]?=some (l.getD j d):=by
 rw [ba,O4 h]; rfl
def ListAt (st:Q2) (V:PV) (xs:List PV):Prop:=V=.lst xs\/V=.fro xs\/∃ i,V=.ref i/\st[i]?=some (.lst xs)
theorem ListAt.ix {st:Q2} {V:PV} {xs:List PV} (h:ListAt st V xs) (j:Int):oIx st V (.int j)=okO st (atI xs j):=by
 rcases h with rfl | rfl | ⟨i,rfl,e⟩
 ·rfl
 ·rfl
 ·rw [Qw3,e]
theorem ListAt.len {st:Q2} {V:PV} {xs:List PV} (h:ListAt st V xs):Yw st [V]=.ok (.int xs.length) st:=by
 rcases h with rfl | rfl | ⟨i,rfl,e⟩
 ·rfl
 ·rfl
 ·rw [Qmr,e]
theorem ListAt.src {st:Q2} {V:PV} {xs:List PV} (h:ListAt st V xs):∃ w,X5 st V=some (xs,w)/\wOk w st:=by
 rcases h with rfl | rfl | ⟨i,rfl,e⟩
 ·exact ⟨[],rfl,by simp⟩
 ·exact ⟨[],rfl,by simp⟩
 ·exact ⟨[(i,.lst xs)],by rw [Qnh,e],by simp [wOk,e]⟩
theorem Qif {α:Type} (g:α->PV) {xs:List α} (I:Nat->List PV->Q2->Prop) {ga:GA} {me:ME} {w:Wt} {Γ0:Gam} (B:∀ i j st,I i j st->wOk w st)
  (h:∀ (i:Nat) x j st,xs[i]?=some x->I i j st->∃ Γ1,ga (g x) Γ0=some Γ1/\∃ v q,me Γ1 st=.ok v q/\I (i + 1) (j ++ [v]) q) {st:Q2} (h0:I 0 [] st):∃ j st',Ju ga Jw me w Γ0 (xs.map g) st=.ok j st'/\I xs.length j st':=by
 have z:∀ (ys:List α) (k:Nat) (pre:List PV) (st:Q2),(∀ i,ys[i]?=xs[k + i]?)->k + ys.length=xs.length->I k pre st->∃ j st',Ju ga Jw me w Γ0 (ys.map g) st=.ok j st'/\I xs.length (pre ++ j) st':=by
  intro ys
  induction ys with
  | nil=>
   intro k pre st e e2 i;refine ⟨[],st,by simp [Ju,B k pre st i],?_⟩;rw [bu,<- e2]; exact i
  | cons y ys U=>
   intro k pre st e e2 i;have Y:xs[k]?=some y:=by have:=e 0; simpa using this.symm
   obtain ⟨Γ1,h1,v,q,h2,G⟩:=h k y pre st Y i;obtain ⟨j,st',J,O⟩:=U (k + 1) (pre ++ [v]) q (fun i=>by
    have:=e (i + 1);rw [gM] at this;rw [this]; congr 1; omega) (by rw [<- e2,D4]; omega) G
   refine ⟨v :: j,st',?_,by simpa using O⟩;rw [F4,Ju,bK (B k pre st i),h1];simp [Jw,h2,J]
 obtain ⟨j,st',h1,h2⟩:=z xs 0 [] st (fun i=>by simp) (by simp) h0;exact ⟨j,st',h1,by simpa using h2⟩
theorem Q2r:∀ {xs:List PV},(∀ x∈xs,peq x x=true)->jx xs xs=true
 | [],_=>rfl
 | x :: xs,h=>by
  rw [jx,h x D3,Q2r fun y j=>h y (D0 _ j)]; rfl
theorem Q1t:∀ {n:Nat} {p:PV},Y4 n p=true->peq p p=true
 | n,.non,_=>rfl
 | n,.bl b,_=>by simp [peq]
 | n,.int b,_=>by simp [peq]
 | n,.str b,_=>by simp [peq]
 | n,.ref _,g=>by cases n <;> simp [Y4] at g
 | n,.dic,g=>by cases n <;> simp [Y4] at g
 | 0,.tup _,g=>by simp [Y4] at g
 | 0,.lst _,g=>by simp [Y4] at g
 | 0,.fro _,g=>by simp [Y4] at g
 | n + 1,.tup xs,g=>by
  rw [peq]; refine Q2r fun x j=>Q1t (n:=n) ?_
  simp [Y4] at g; exact g x j
 | n + 1,.lst xs,g=>by
  rw [peq]; refine Q2r fun x j=>Q1t (n:=n) ?_
  simp [Y4] at g; exact g x j
 | n + 1,.fro xs,g=>by
  rw [peq]; refine Q2r fun x j=>Q1t (n:=n) ?_
  simp [Y4] at g; exact g x j
theorem ListAt.eqs {st:Q2} {V:PV} {xs:List PV} (h:ListAt st V xs) (g:Y4 dep (.lst xs)=true):oNe st (.lst xs) V=.ok (.bl false) st/\oNe st V (.lst xs)=.ok (.bl false) st/\oEq st (.lst xs) V=.ok (.bl true) st/\oEq st V (.lst xs)=.ok (.bl true) st:=by
 have hp:jx xs xs=true:=by have:=Q1t g; rwa [peq] at this
 have g2:Y4 dep (.fro xs)=true:=g;rcases h with rfl | rfl | ⟨i,rfl,e⟩
 ·simp [oNe,oEq,der,g,peq,hp]
 ·simp [oNe,oEq,der,g,g2,peq,hp]
 ·simp [oNe,oEq,der,g,g2,peq,hp,e]
section
variable {X:Cx} {E:XK} {a b:aD} {ma mb:ME} {pos:Pos}
end
def Yy (body:MS) (nl:Nat):FN:=fun ps st=>match body (ps.map some ++ bR (nl - ps.length) none) st with
 | .rt v st'=>.ok v st'
 | .nx _ st'=>.ok .non st'
 | .exc x st'=>.exc x st'
 | _=>.stuck
section
variable {P:aN} {w:aK} {K:bQ} {mg:Str->Option aB} {base:Heap}
theorem Qqk {x qual:Str} {st:aM} {f:aA} {fd:aP} {N ps:List Str} {k:Nat} {m:MS} (F:Fun K x qual st f fd) (S:FnScope N ps (Q7 st))
  (Y:∀ (z:aB) (A:aR) (outer:List dq) (s:aC) (H:Hp) (E:XK),Room k (A.deeper (du qual (Q7 st) s.heap.objs.size f z))->SimB (cxD P w K mg base N qual (Q7 st) f z A outer s H E) E (Qp st) m) :
  FnOk P w K mg base (CXD P w) (k + 1) f fd ps (spF mg ps.length (Yy m N.length)):=by
 refine Fun.okD F S (fun vs H Q E h=>h.1) fun z A outer s H vs Q E hr O=>⟨_,Q7n,?_⟩
 obtain ⟨hl,ρ,I,G,R,Z,j⟩:=O;refine (Y z A outer s H E hr).run _ (L2.start N vs) H ρ I _ R (Qae Z) ?_;unfold Yy at j;cases B:m (G.map some ++ bR (N.length - G.length) none) I with
 | rt v q=>rw [B] at j; exact fun v H' ρ' x J r=>j H' ρ' x J v r
 | nx Γ q=>rw [B] at j; exact fun U H' ρ' x' J G'=>j H' ρ' x' J .non rfl
 | bk Γ q=>rw [B] at j; exact j.elim
 | ct Γ q=>rw [B] at j; exact j.elim
 | stuck=>rw [B] at j; exact j.elim
 | exc y q=>rw [B] at j; exact j
end
theorem Wy {P:aN} {w:aK} {K:bQ} {mg:Str->Option aB} {base:Heap} {x qual:Str} {st:aM} {f:aA} {fd:aP} {N ps:List Str} {k n nl:Nat} {m:MS} {z:FN} (F:Fun K x qual st f fd) (S:FnScope N ps (Q7 st)) (G:ps.length=n) (q:N.length=nl) (I:z=Yy m nl)
  (B:∀ (j:aB) (A:aR) (outer:List dq) (s:aC) (H:Hp) (E:XK),Room k (A.deeper (du qual (Q7 st) s.heap.objs.size f j))->SimB (cxD P w K mg base N qual (Q7 st) f j A outer s H E) E (Qp st) m) :
  FnOk P w K mg base (CXD P w) (k + 1) f fd ps (spF mg n z):=by
 subst G; subst q; subst I;exact Qqk F S B
end Sm
namespace Sm
open PySem PySem.Spec PyProof.Rows L2
section
variable {X:Cx} {E:XK} {pos:Pos} {a b:aD} {ma mb:ME}
end
end Sm
namespace Sm
open PySem PySem.Spec L2
def Q3n (w:Str):V:=if w = "make" then .int 3 else if w = "lend" then .int 4 else if w = "use" then .int 3 else .non
structure PartsOk (P:aN) (w:aK) (K:bQ) (mg:Str->Option aB):Prop where
 ex:∃ (a:aA) (o:Obj) (es:Array DictEntry) (ep:Nat),mg "PARTS_OF_DEED" = some (.ref a)/\K.lookup a=some o/\o.cls=.type "dict" /\ o.ExactDict/\o.data=.dict es ep/\KeysOf (J7 P w) es/\(a == af)=false/\∀ x,RelV (Q3n x) ((findBy (J7 P w).is es (.inr x)).getD .none)
def Qf9 (m:ME):ME:=fun Γ st=>(m Γ st).bind fun p st1=>match p with
 | .str x=>if x = "make" then .ok (.int 3) st1 else if x = "lend" then .ok (.int 4) st1 else if x = "use" then .ok (.int 3) st1 else .ok .non st1
 | _=>.stuck
section
variable {X:Cx} {E:XK} {pos:Pos} {e:aD} {m:ME}
theorem Qjg {p apos cpos:Pos} (PO:PartsOk X.prog X.w X.K X.mg) (U:Gl X "PARTS_OF_DEED") (O:SimE X E e m)
  (base:ai (.Name "PARTS_OF_DEED" p) "get" X.env (aL (.Name "PARTS_OF_DEED" p) X.env)=aL (.Name "PARTS_OF_DEED" p) X.env:=by rfl)
  (few:((aU cpos (aO [e] X.env)).all (fun x=>!x.1) && (backToKw cpos (keywordEach [] X.env)).all (fun x=>x.1.isSome)
   && decide (([e]:List aD).length + ([]:List Keyword).length + (if ([]:List Keyword).isEmpty then 0 else 1) < 30))=true:=by rfl)
  (line:(apos.endLine == cpos.line)=true:=by rfl) (trees:aU cpos (aO [e] X.env)=[(false,aL e X.env)]:=by rfl) :
  SimE X E (.Call (.Attribute (.Name "PARTS_OF_DEED" p) "get" apos) [e] [] cpos) (Qf9 m):=by
 obtain ⟨a,o,es,ep,Z,pl,pt,pe,Y,pk,ps,J⟩:=PO.ex;refine ⟨fun Γ σ H ρ st Q R G h=>WE.of (Qd7 (val:=Q3n) U Z pl pt pe Y pk ps J W2 (by decide) base few line trees) (O.use R G h.bind fun q j H1 ρ1 v x1 I G1 r1 h1=>?_)⟩;cases q with
 | str x=>
  cases r1;have h1:Acc X.mg E H1 ρ1 (QV Q) (if x = "make" then .ok (.int 3) j else if x = "lend" then .ok (.int 4) j else if x = "use" then .ok (.int 3) j else .ok .non j):=h1
  by_cases a1:x = "make"
  ·rw [bK a1] at h1;exact ⟨x,rfl,by unfold Q3n; rw [bK a1]; exact now I h1 rfl⟩
  ·rw [bL a1] at h1
   by_cases z:x = "lend"
   ·rw [bK z] at h1;exact ⟨x,rfl,by unfold Q3n; rw [bL a1,bK z]; exact now I h1 rfl⟩
   ·rw [bL z] at h1
    by_cases B:x = "use"
    ·rw [bK B] at h1;exact ⟨x,rfl,by unfold Q3n; rw [bL a1,bL z,bK B]; exact now I h1 rfl⟩
    ·rw [bL B] at h1;exact ⟨x,rfl,by unfold Q3n; rw [bL a1,bL z,bL B]; exact now I h1 rfl⟩
 | _=>exact h1.elim
end
section
theorem Qk7 {P:aN} {w:aK} {K:bQ} {mg:Str->Option aB} {G:aA} {t1 t2 t3 j q B:Tok} {Z:Nat} (Y:mg "PARTS_OF_DEED" = some (.ref G))
  (lk:K.lookup G=some ⟨.type "dict",none,.dict #[⟨PyData.keyHash w.params "make",.str "make" t1,.int 3 j⟩,⟨PyData.keyHash w.params "lend",.str "lend" t2,.int 4 q⟩,⟨PyData.keyHash w.params "use",.str "use" t3,.int 3 B⟩] Z,#[]⟩) (hp:(G == af)=false):PartsOk P w K mg:=by
 refine ⟨G,_,_,_,Y,lk,rfl,⟨rfl,rfl,rfl⟩,rfl,fun e U=>?_,hp,fun x=>?_⟩
 ·simp only [gW,E7,cx,or_false] at U;rcases U with rfl | rfl | rfl
  ·exact ⟨.inr "make",by simp [J7,js,bp],rfl⟩
  ·exact ⟨.inr "lend",by simp [J7,js,bp],rfl⟩
  ·exact ⟨.inr "use",by simp [J7,js,bp],rfl⟩
 ·unfold Q3n
  by_cases e1:x = "make"
  ·rw [bK e1]; subst e1;have:findBy (J7 P w).is #[⟨PyData.keyHash w.params "make",.str "make" t1,.int 3 j⟩,⟨PyData.keyHash w.params "lend",.str "lend" t2,.int 4 q⟩,⟨PyData.keyHash w.params "use",.str "use" t3,.int 3 B⟩] (.inr "make")=some (.int 3 j):=by first | rfl | decide +kernel
   rw [this]; exact ⟨_,rfl⟩
  ·rw [bL e1]
   by_cases e2:x = "lend"
   ·rw [bK e2]; subst e2;have:findBy (J7 P w).is #[⟨PyData.keyHash w.params "make",.str "make" t1,.int 3 j⟩,⟨PyData.keyHash w.params "lend",.str "lend" t2,.int 4 q⟩,⟨PyData.keyHash w.params "use",.str "use" t3,.int 3 B⟩] (.inr "lend")=some (.int 4 q):=by first | rfl | decide +kernel
    rw [this]; exact ⟨_,rfl⟩
   ·rw [bL e2]
    by_cases e3:x = "use"
    ·rw [bK e3]; subst e3;have:findBy (J7 P w).is #[⟨PyData.keyHash w.params "make",.str "make" t1,.int 3 j⟩,⟨PyData.keyHash w.params "lend",.str "lend" t2,.int 4 q⟩,⟨PyData.keyHash w.params "use",.str "use" t3,.int 3 B⟩] (.inr "use")=some (.int 3 B):=by first | rfl | decide +kernel
     rw [this]; exact ⟨_,rfl⟩
    ·rw [bL e3];have J:¬ (bP "make" = x):=fun z=>e1 z.symm
     have I:¬ (bP "lend" = x):=fun z=>e2 z.symm
     have O:¬ (bP "use" = x):=fun z=>e3 z.symm
     have:findBy (J7 P w).is #[⟨PyData.keyHash w.params "make",.str "make" t1,.int 3 j⟩,⟨PyData.keyHash w.params "lend",.str "lend" t2,.int 4 q⟩,⟨PyData.keyHash w.params "use",.str "use" t3,.int 3 B⟩] (.inr x)=none:=by
      simp [findBy,J7,js,bp,J,I,O]
     rw [this]; rfl
end
def Q5w (k1 k2 k3:Str) (p1 p2 p3:PV) (st4:Q2):PV->Res PV
 | .str x=>if x=k1 then .ok p1 st4 else if x=k2 then .ok p2 st4 else if x=k3 then .ok p3 st4 else .stuck
 | _=>.stuck
def Qdq (k1 k2 k3:Str) (m1 m2 m3 mi:ME):ME:=fun Γ st=>(m1 Γ st).bind fun p1 st1=>(m2 Γ st1).bind fun p2 st2=>(m3 Γ st2).bind fun p3 st3=>(mi Γ st3).bind fun q st4=>Q5w k1 k2 k3 p1 p2 p3 st4 q
section
variable {X:Cx} {E:XK} {pos dpos:Pos} {e1 e2 e3 i:aD} {m1 m2 m3 mi:ME} {k1 k2 k3:Str} {j1 j2 j3:Nat} {q1 q2 q3:Pos}
theorem Qnq (hu:X.A.units + 1 < ac) (h1:SimE X E e1 m1) (h2:SimE X E e2 m2) (h3:SimE X E e3 m3) (hi:SimE X E i mi) (hs:Qr0 i) (a7:k1≠k2:=by decide) (a8:k1≠k3:=by decide) (b0:k2≠k3:=by decide) :
  SimE X E (.Subscript (.Dict [some (.Constant (.str k1) j1 q1),some (.Constant (.str k2) j2 q2),some (.Constant (.str k3) j3 q3)] [e1,e2,e3] dpos) i pos) (Qdq k1 k2 k3 m1 m2 m3 mi):=by
 refine ⟨fun Γ σ H ρ st Q R G h=>WE.of (Qg1 hu (Qg0 (xx Q1u W2 (xx Q1u W2 (xx Q1u W2 Qfz))) rfl rfl (by simp) (by simp)) W2 hs) ?_⟩;intro p hp;have x0:Ext H ρ (upd H p (.dK [])) (ρ.hide p):=Ext.hide hp;refine h1.use' (R.hide hp) (G.hide hp) (h.bind.later x0) fun a1 b6 H1 ρ1 U f1 x1 R1 G1 r1 _=>?_
 have h:=h;unfold Qdq at h;rw [f1] at h;have h:Acc X.mg E H ρ (QV Q) ((m2 Γ b6).bind fun p2 a6=>(m3 Γ a6).bind fun p3 I=>(mi Γ I).bind fun q j=>Q5w k1 k2 k3 a1 p2 p3 j q):=h
 refine h2.use' R1 G1 (h.bind.later (x0.trans x1)) fun a2 a6 H2 b7 O f2 x2 R2 G2 r2 _=>?_
 rw [f2] at h;have h:Acc X.mg E H ρ (QV Q) ((m3 Γ a6).bind fun p3 I=>(mi Γ I).bind fun q j=>Q5w k1 k2 k3 a1 a2 p3 j q):=h
 refine h3.use' R2 G2 (h.bind.later ((x0.trans x1).trans x2)) fun a3 I H3 a5 J f3 x3 R3 G3 r3 _=>?_
 rw [f3] at h;have h:Acc X.mg E H ρ (QV Q) ((mi Γ I).bind fun q j=>Q5w k1 k2 k3 a1 a2 a3 j q):=h
 have a9:Ext H ρ H3 a5:=((x0.trans x1).trans x2).trans x3;have xe:Ext (upd H p (.dK [])) (ρ.hide p) H3 a5:=(x1.trans x2).trans x3;have b5:p∉(ρ.hide p).tr:=fun z=>R.fresh hp (.inl z)
 have b4:H3 p=some (.dK []):=xe.keep p _ Je b5;have B:p∈a5.hid:=xe.hidM p D3;refine ⟨b4,[(.inr k1,U),(.inr k2,O),(.inr k3,J)],rfl,by simp,?_⟩;have hm:Q0r [] [((.inr k1:Key),U),(.inr k2,O),(.inr k3,J)]=[(.inr k1,U),(.inr k2,O),(.inr k3,J)]:=by
  simp [Q0r,Q9q,a7,a8,b0]
 rw [hm];obtain ⟨o,ho⟩:∃ o:HO,o=.dK [(.inr k1,U),(.inr k2,O),(.inr k3,J)]:=⟨_,rfl⟩;rw [<- ho];have y:Ext H ρ (upd H3 p o) a5:=a9.put0 hp;refine hi.use' (R3.rehide B (by intro _ z; rw [ho] at z; cases z)) (G3.rehide B) (h.bind.later y) fun q j H4 Z v4 f4 x4 R4 G4 r4 _=>?_
 rw [f4] at h;have h:Acc X.mg E H ρ (QV Q) (Q5w k1 k2 k3 a1 a2 a3 j q):=h;have Y:Ext H ρ H4 Z:=y.trans x4;have a4:H4 p=some o:=x4.keep p _ Je fun z=>R3.ap p B z
 have g1:Rep H4 Z a1 U:=(((r1.ext x2).ext x3).rehide B).ext x4;have g2:Rep H4 Z a2 O:=((r2.ext x3).rehide B).ext x4;have g3:Rep H4 Z a3 J:=(r3.rehide B).ext x4;cases q with
 | str x=>
  cases r4;have h:Acc X.mg E H ρ (QV Q) (if x=k1 then .ok a1 j else if x=k2 then .ok a2 j else if x=k3 then .ok a3 j else .stuck):=h;rw [ho] at a4
  by_cases b1:x=k1
  ·rw [bK b1] at h;refine ⟨p,U,rfl,?_,h _ _ Y.unhide (R4.unhide Y.hidM) _ (g1.unhide Y.hidM)⟩;have:=DGet.k (k:=.inr x) a4
   rwa [show zq [((.inr k1:Key),U),(.inr k2,O),(.inr k3,J)] (.inr x)=some U by rw [b1]; simp [zq]] at this
  ·rw [bL b1] at h
   by_cases b2:x=k2
   ·rw [bK b2] at h;refine ⟨p,O,rfl,?_,h _ _ Y.unhide (R4.unhide Y.hidM) _ (g2.unhide Y.hidM)⟩;have:=DGet.k (k:=.inr x) a4
    rwa [show zq [((.inr k1:Key),U),(.inr k2,O),(.inr k3,J)] (.inr x)=some O by rw [b2]; simp [zq,a7]] at this
   ·rw [bL b2] at h
    by_cases b3:x=k3
    ·rw [bK b3] at h;refine ⟨p,J,rfl,?_,h _ _ Y.unhide (R4.unhide Y.hidM) _ (g3.unhide Y.hidM)⟩;have:=DGet.k (k:=.inr x) a4
     rwa [show zq [((.inr k1:Key),U),(.inr k2,O),(.inr k3,J)] (.inr x)=some J by rw [b3]; simp [zq,a8,b0]] at this
    ·rw [bL b3] at h; exact h.elim
 | _=>exact h.elim
end
def Qc1 (x name:Str) (m:ME):MS:=fun Γ st=>(m Γ st).sbind fun p st1=>.exc ⟨x,some (name,p)⟩ st1
section
variable {X:Cx} {E:XK} {pos:Pos} {e:aD} {m:ME}
theorem Qh3 {x name:Str} {C W f:aA} {fd:aP} {k:Nat} {ps:List Str} {Z cpos:Pos} (j:X.calm=true) (RO:Q97 X E) (M:XMade X.K C W f) (GI:FnOk X.prog X.w X.K X.mg X.base CX0 k f fd ps (Q7d C name)) (hr:Room (k + 1) X.A)
  (Y:Binds X.K fd ps []) (U:Gl X x) (I:X.mg x=some (.ref C)) (O:SimE X E e m) (B:(x == ("__debug__" : Str))=false:=by decide) (q:aO [e] X.env=[(false,aL e X.env)]:=by rfl) :
  SimS X E (.Raise (some (.Call (.Name x Z) [e] [] cpos)) none pos) (Qc1 x name m):=
 ⟨fun Γ σ H ρ st D R G h=>WS.of (Qhd j RO M GI hr Y U I (Q0j W2 Q7s (by rw [q]; rfl)) B q) (O.use R G h.bind fun p a2 H1 ρ1 v x1 J G1 r1 h1=>
  ⟨v,rfl,fun dx z=>h1 C (some dx) _ ρ1 I (Ext.add z) (J.add z) ⟨dx,v,rfl,Je,J.fresh z,r1.ext (Ext.add z)⟩⟩)⟩
end
@[simp] theorem Qug (m:ME) (Γ:Gam) (st:Q2):Qf9 m Γ st=(m Γ st).bind fun p j=>(match p with
 | .str x=>if x = "make" then .ok (.int 3) j else if x = "lend" then .ok (.int 4) j else if x = "use" then .ok (.int 3) j else .ok .non j
 | _=>.stuck):=rfl
@[simp] theorem Qkp (k1 k2 k3:Str) (m1 m2 m3 mi:ME) (Γ:Gam) (st:Q2):Qdq k1 k2 k3 m1 m2 m3 mi Γ st=(m1 Γ st).bind fun I G=>(m2 Γ G).bind fun p2 z=>(m3 Γ z).bind fun J j=>(mi Γ j).bind fun q B=>Q5w k1 k2 k3 I p2 J B q:=rfl
@[simp] theorem Q55 (k1 k2 k3:Str) (q p2 z:PV) (j:Q2) (x:Str):Q5w k1 k2 k3 q p2 z j (.str x)=if x=k1 then .ok q j else if x=k2 then .ok p2 j else if x=k3 then .ok z j else .stuck:=rfl
@[simp] theorem Qtc (x name:Str) (m:ME) (Γ:Gam) (st:Q2):Qc1 x name m Γ st=(m Γ st).sbind fun p j=>.exc ⟨x,some (name,p)⟩ j:=rfl
theorem K7 {k:Nat} {A:aR} (r:Room k A):A.units + 1 < ac:=by have:=r.un; omega
section
variable {X:Cx} {E:XK}
end
section
variable {H0 H:Hp} {ρ0 ρ:Tk} {st:Q2} {a:aA} {ps:List (Key × PV)} {vs:List (Key × V)}
theorem Qk8 (Y:Rel H0 ρ0 st) (x:Ext H0 ρ0 H ρ) {j:Q2} (R:Rel H ρ j) (G:a∈ρ.hid) (O:H0 a=none) (Z:H a=some (.dK vs)) (r:RepD H ρ ps vs) :
  Ext H0 ρ0 H ⟨ρ.tr ++ [a],ρ0.hid⟩/\Rel H ⟨ρ.tr ++ [a],ρ0.hid⟩ (j ++ [.dic ps])/\Rep H ⟨ρ.tr ++ [a],ρ0.hid⟩ (.ref j.length) (.ref a):=by
 have J:a∉ρ0.hid:=fun z=>by
  obtain ⟨o,e,_⟩:=Y.hd a z;rw [O] at e; cases e
 refine ⟨⟨x.pre.trans (dG _ _),fun _ h=>h,fun _ h=>.inl h,x.keep,fun b B=>?_,x.old,x.frz⟩,⟨?_,?_,fun b B=>R.hd b (x.hidM b B),fun b B z=>?_,fun i b c h1 h2=>?_⟩,a,?_,rfl⟩
 ·rcases F1.mp B with z | z
  ·exact x.new b z
  ·have:b=a:=by simpa using z
   subst this; exact .inr O
 ·show (ρ.tr ++ [a]).length=_;rw [O9,O9,R.len]; rfl
 ·show (ρ.tr ++ [a]).Nodup;refine dj.mpr ⟨R.nd,by simp,fun b B c hc e=>?_⟩;have:c=a:=by simpa using hc
  subst this; subst e;exact R.ap b G B
 ·rcases F1.mp z with z | z
  ·exact R.ap b (x.hidM b B) z
  ·have:b=a:=by simpa using z
   subst this; exact J B
 ·have h1:(ρ.tr ++ [a])[i]?=some b:=h1
  by_cases hi:i < j.length
  ·rw [O5 (by rw [R.len]; exact hi)] at h1;rw [O5 hi] at h2;have q:=R.cell i b c h1 h2;cases c with
   | lst I=>
    obtain ⟨us,e1,e2⟩:=q;exact ⟨us,e1,e2.trk G x.hidM⟩
   | dic I=>
    obtain ⟨us,e1,e2⟩:=q;exact ⟨us,e1,e2.1,e2.2.trk G x.hidM⟩
   | dtp I=>
    obtain ⟨us,e1,e2⟩:=q;exact ⟨us,e1,e2.1,e2.2.trk G x.hidM⟩
   | frd I=>
    obtain ⟨us,e1,e2⟩:=q;exact ⟨us,e1,e2.1,e2.2.trk G x.hidM⟩
   | obj C I=>
    obtain ⟨us,e1,e2⟩:=q;exact ⟨us,e1,e2.1,e2.2.trk G x.hidM⟩
  ·rw [D2 (by rw [R.len]; omega)] at h1;rw [D2 (by omega)] at h2;have U:i - j.length=0:=by
    rcases fC (i - j.length) with z | z
    ·exact z
    ·rw [F2 (by simp; omega)] at h2; cases h2
   rw [R.len,U] at h1;rw [U] at h2;simp at h1 h2;subst h1; subst h2;exact ⟨vs,Z,r.1,r.2.trk G x.hidM⟩
 ·show (ρ.tr ++ [a])[j.length]?=some a;rw [<- R.len,D2 (O8 _),dJ]; rfl
end
def Q31 (kvs:List (Key × PV)) (k:Key):Option PV:=(kvs.find? fun kv=>decide (kv.1=k)).map (·.2)
def Qkw:PV->Option Key
 | .int i=>some (.inl i)
 | .str x=>some (.inr x)
 | _=>none
theorem Qnu {H:Hp} {ρ:Tk} {p:PV} {v:V} {k:Key} (e:Qkw p=some k) (r:Rep H ρ p v):v=kV k:=by
 cases p with
 | int i=>cases e; exact r
 | str x=>cases e; exact r
 | _=>cases e
theorem Qd1 {H:Hp} {ρ:Tk}:∀ {kvs:List (Key × PV)} {vs:List (Key × V)},RepD H ρ kvs vs->∀ k:Key,(Q31 kvs k=none/\zq vs k=none)\/∃ p v,Q31 kvs k=some p/\zq vs k=some v/\Rep H ρ p v
 | [],[],_,k=>.inl ⟨rfl,rfl⟩
 | [],_ :: _,r,_=>by have:=r.length; cases this
 | _ :: _,[],r,_=>by have:=r.length; cases this
 | (k1,z) :: kvs,(k2,j) :: vs,r,k=>by
  obtain ⟨B,v,t,e,I,O⟩:=r;have e1:k2=k1/\vs.map cw=kvs.map cw:=by
   have:k2 :: vs.map cw=k1 :: kvs.map cw:=B;exact List.cons.inj this
  have e2:j :: vs.map fB=v :: t:=e;cases e2;obtain ⟨rfl,e3⟩:=e1
  by_cases q:k2=k
  ·exact .inr ⟨z,j,by simp [Q31,q],by simp [zq,q],I⟩
  ·have J:=Qd1 (kvs:=kvs) (vs:=vs) ⟨e3,O⟩ k;have a1:Q31 ((k2,z) :: kvs) k=Q31 kvs k:=by simp [Q31,cO,q]
   have G:zq ((k2,j) :: vs) k=zq vs k:=by simp [zq,cO,q]
   rw [a1,G]; exact J
section
variable {X:Cx} {E:XK} {pos dpos apos cpos:Pos} {e e1 e2 e3 i o f:aD} {m m1 m2 m3 mi mo mf:ME} {k1 k2 k3:Str} {j1 j2 j3:Nat} {q1 q2 q3:Pos}
def Qc2 (k1 k2 k3:Str) (m1 m2 m3:ME):ME:=fun Γ st=>(m1 Γ st).bind fun p1 st1=>(m2 Γ st1).bind fun p2 st2=>(m3 Γ st2).bind fun p3 st3=>.ok (.ref st3.length) (st3 ++ [.dic [(.inr k1,p1),(.inr k2,p2),(.inr k3,p3)]])
theorem Qjh (h1:SimE X E e1 m1) (h2:SimE X E e2 m2) (h3:SimE X E e3 m3) (a4:k1≠k2:=by decide) (a6:k1≠k3:=by decide) (a8:k2≠k3:=by decide) :
  SimE X E (.Dict [some (.Constant (.str k1) j1 q1),some (.Constant (.str k2) j2 q2),some (.Constant (.str k3) j3 q3)] [e1,e2,e3] dpos) (Qc2 k1 k2 k3 m1 m2 m3):=by
 refine ⟨fun Γ σ H ρ st Q R G h=>WE.of (Qg0 (xx Q1u W2 (xx Q1u W2 (xx Q1u W2 Qfz))) rfl rfl (by simp) (by simp)) ?_⟩;intro p hp;have x0:Ext H ρ (upd H p (.dK [])) (ρ.hide p):=Ext.hide hp;refine h1.use' (R.hide hp) (G.hide hp) (h.bind.later x0) fun a1 a9 H1 ρ1 U f1 Z R1 G1 r1 _=>?_
 have h:=h;unfold Qc2 at h;rw [f1] at h;have h:Acc X.mg E H ρ (QV Q) ((m2 Γ a9).bind fun p2 J=>(m3 Γ J).bind fun p3 j=>.ok (.ref j.length) (j ++ [.dic [(.inr k1,a1),(.inr k2,p2),(.inr k3,p3)]])):=h
 refine h2.use' R1 G1 (h.bind.later (x0.trans Z)) fun a2 J H2 b0 O f2 x2 R2 G2 r2 _=>?_
 rw [f2] at h;have h:Acc X.mg E H ρ (QV Q) ((m3 Γ J).bind fun p3 j=>.ok (.ref j.length) (j ++ [.dic [(.inr k1,a1),(.inr k2,a2),(.inr k3,p3)]])):=h
 refine h3.use' R2 G2 (h.bind.later ((x0.trans Z).trans x2)) fun a3 j H3 B I f3 x3 R3 G3 r3 _=>?_
 rw [f3] at h;have h:Acc X.mg E H ρ (QV Q) (.ok (.ref j.length) (j ++ [.dic [(.inr k1,a1),(.inr k2,a2),(.inr k3,a3)]])):=h;have Y:Ext H ρ H3 B:=((x0.trans Z).trans x2).trans x3;have xe:Ext (upd H p (.dK [])) (ρ.hide p) H3 B:=(Z.trans x2).trans x3;have a7:p∉(ρ.hide p).tr:=fun z=>R.fresh hp (.inl z)
 have a5:H3 p=some (.dK []):=xe.keep p _ Je a7;have q:p∈B.hid:=xe.hidM p D3;refine ⟨a5,[(.inr k1,U),(.inr k2,O),(.inr k3,I)],rfl,by simp,?_⟩;have hm:Q0r [] [((.inr k1:Key),U),(.inr k2,O),(.inr k3,I)]=[(.inr k1,U),(.inr k2,O),(.inr k3,I)]:=by
  simp [Q0r,Q9q,a4,a6,a8]
 rw [hm];have y:Ext H ρ (upd H3 p (.dK [(.inr k1,U),(.inr k2,O),(.inr k3,I)])) B:=Y.put0 hp;have g1:=((r1.ext x2).ext x3).rehide (o:=.dK [(.inr k1,U),(.inr k2,O),(.inr k3,I)]) q;have g2:=(r2.ext x3).rehide (o:=.dK [(.inr k1,U),(.inr k2,O),(.inr k3,I)]) q;have g3:=r3.rehide (o:=.dK [(.inr k1,U),(.inr k2,O),(.inr k3,I)]) q;obtain ⟨x5,R5,r5⟩:=Qk8 (ps:=[(.inr k1,a1),(.inr k2,a2),(.inr k3,a3)]) R y (R3.rehide q) q hp Je ⟨rfl,RepL.cons g1 (RepL.cons g2 (RepL.cons g3 RepL.nil))⟩;exact h _ _ x5 R5 _ r5
@[simp] theorem Qi0 (Γ:Gam) (st:Q2):Qc2 k1 k2 k3 m1 m2 m3 Γ st=(m1 Γ st).bind fun B z=>(m2 Γ z).bind fun p2 q=>(m3 Γ q).bind fun G j=>.ok (.ref j.length) (j ++ [.dic [(.inr k1,B),(.inr k2,p2),(.inr k3,G)]]):=rfl
end
def Qb3 (st:Q2):PV->Option (List (Key × PV))
 | .ref i=>match st[i]? with
  | some (.dic kvs)=>some kvs
  | some (.frd kvs)=>some kvs
  | _=>none
 | _=>none
theorem Qmb {H:Hp} {ρ:Tk} {st:Q2} {p:PV} {v:V} {kvs:List (Key × PV)} (R:Rel H ρ st) (r:Rep H ρ p v) (e:Qb3 st p=some kvs):∃ i a vs,p=.ref i/\v=.ref a/\ρ.tr[i]?=some a/\Rd H a (.dK vs)/\RepD H ρ kvs vs:=by
 cases p with
 | ref i=>
  obtain ⟨a,B,rfl⟩:=r;unfold Qb3 at e;cases z:st[i]? with
  | none=>simp only [z] at e; cases e
  | some c=>
   simp only [z] at e;cases c with
   | dic j=>
    cases e;obtain ⟨b,vs,q,G,rd⟩:=R.dic z;rw [B] at q;cases q;exact ⟨i,a,vs,rfl,rfl,B,.inl G,rd⟩
   | frd j=>
    cases e;obtain ⟨b,vs,o,q,G,rd⟩:=R.frd z;rw [B] at q;cases q;exact ⟨i,a,vs,rfl,rfl,B,.inr ⟨o,G⟩,rd⟩
   | lst xs=>cases e
   | dtp xs=>cases e
   | obj C xs=>cases e
 | _=>cases e
theorem DGet.kr {H:Hp} {a:aA} {kvs:List (Key × V)} {k:Key} (e:Rd H a (.dK kvs)):DGet H a (kV k) (zq kvs k):=.inl ⟨kvs,k,e,rfl,rfl⟩
section
variable {X:Cx} {E:XK} {pos dpos tpos:Pos} {e i o k:aD} {m mi mo mk:ME}
def Qzc (neg:Bool):OP:=fun st p q=>match Qb3 st q,Qkw p with
 | some kvs,some k=>.ok (.bl ((Q31 kvs k).isSome != neg)) st
 | _,_=>.stuck
def Q61 (st:Q2) (p q:PV):Res PV:=match Qb3 st p,Qkw q with
 | some kvs,some k=>match Q31 kvs k with
  | some v=>.ok v st
  | none=>.stuck
 | _,_=>.stuck
def Uh (mo mi:ME):ME:=fun Γ st=>(mo Γ st).bind fun p st1=>(mi Γ st1).bind fun q st2=>Q61 st2 p q
theorem X9 (I:X.A.units + 1 < ac) (O:SimE X E o mo) (hi:SimE X E i mi) (hs:Qr0 i):SimE X E (.Subscript o i pos) (Uh mo mi):=
 ⟨fun Γ σ H ρ st Q R G h=>WE.of (Qg1 I W2 W2 hs) (O.use R G h.bind fun p Y H1 ρ1 v1 x1 R1 G1 z h1=>hi.use R1 G1 h1.bind fun q a4 H2 a5 v2 B R2 G2 Z h2=>by
  unfold Q61 at h2
  split at h2
  ·rename_i kvs k e1 e2
   split at h2
   ·rename_i w e3;obtain ⟨n,a,vs,rfl,rfl,_,hb,rd⟩:=Qmb R2 (z.ext B) e1;have j:=Qnu e2 Z;subst j;rcases Qd1 rd k with ⟨a1,_⟩ | ⟨p,v,a1,U,J⟩
    ·rw [a1] at e3; cases e3
    ·rw [a1] at e3;cases e3;exact ⟨a,v,rfl,by have:=DGet.kr (k:=k) hb; rwa [U] at this,now R2 h2 J⟩
   ·exact h2.elim
  ·exact h2.elim)⟩
end
section
variable {X:Cx} {E:XK} {pos dpos tpos:Pos} {e i o k:aD} {m mi mo mk:ME} {tg:aD}
def Qj9 (st st':Q2):Nat->Q2
 | 0=>st'
 | n + 1=>match st[n]?,(Qj9 st st' n)[n]? with
  | some (.dic _),some (.frd kvs)=>(Qj9 st st' n).set n (.dic kvs)
  | _,_=>Qj9 st st' n
end
section
variable {X:Cx} {E:XK}
end
end Sm
namespace Sm
open PySem PySem.Spec PyProof.Rows L2
section
variable {X:Cx} {E:XK}
end
end Sm
namespace Sm
open PySem PySem.Spec L2
section
variable {X:Cx} {E:XK} {pos apos tp:Pos} {e:aD} {m:ME} {elts:List aD} {kt:Nat}
end
section
variable {X:Cx} {E:XK} {pos dpos tpos:Pos} {e i o k:aD} {m mi mo mk:ME}
end
section
variable {X:Cx} {E:XK}
end
section
variable {X:Cx} {E:XK} {a:aD} {ma:ME} {pos:Pos}
end
end Sm
namespace Sm
open PySem PySem.Spec L2 SeqAt
section
variable {X:Cx} {E:XK}
variable {o:aD} {mo:ME} {apos cpos:Pos}
end
end Sm
namespace Sm
open PySem PySem.Spec L2 SeqAt
section
variable {X:Cx} {E:XK}
variable {e o i:aD} {m mo mi:ME} {pos tpos:Pos}
end
end Sm
namespace L2
open PySem PySem.Spec PyProof.Rows
end L2
namespace Sm
open PySem PySem.Spec PyProof.Rows L2
section
variable {X:Cx} {E:XK} {pos:Pos} {e:aD} {m:ME}
end
end Sm
namespace Sm
open PySem PySem.Spec PyProof.Rows L2
section
variable {X:Cx} {E:XK} {tg:aD} {a b c:aD} {mr:ML} {p pos:Pos}
end
end Sm
namespace Sm
open PySem PySem.Spec L2
section
variable {X:Cx} {E:XK} {o:aD} {mo:ME} {apos cpos:Pos} {to:TE}
end
section
variable {X:Cx}
end
def xu (f:Str) (p:PV):List (Str × PV)->List (Str × PV)
 | []=>[(f,p)]
 | (g,x) :: r=>if g=f then (g,p) :: r else (g,x) :: xu f p r
section
variable {H:Hp} {ρ:Tk}
theorem Qap {κ:Type} {fs:List (κ × PV)} {vs:List (κ × V)} {g:κ} {x:PV}:RepD H ρ ((g,x) :: fs) vs->∃ v r,vs=(g,v) :: r/\Rep H ρ x v/\RepD H ρ fs r:=fun ⟨h1,h2⟩=>by
 cases vs with
 | nil=>cases h1
 | cons a r=>
  obtain ⟨k,v⟩:=a;simp only [F4,List.cons.injEq] at h1;obtain ⟨u,t,e,q,j⟩:=h2;cases e;exact ⟨v,r,by rw [h1.1],q,h1.2,j⟩
theorem Q54 {κ:Type} {fs:List (κ × PV)} {vs:List (κ × V)} {g:κ} {x:PV} {v:V} (h:Rep H ρ x v) (r:RepD H ρ fs vs):RepD H ρ ((g,x) :: fs) ((g,v) :: vs):=
 ⟨by simp only [F4,r.1],v,_,rfl,h,r.2⟩
theorem Qan {f:Str} {p:PV} {v:V} (h:Rep H ρ p v):∀ {fs:List (Str × PV)} {vs:List (Str × V)},RepD H ρ fs vs->RepD H ρ (xu f p fs) (Q0i f v vs)
 | [],vs,r=>by
  have:vs=[]:=by have:=r.1; simpa using this
  subst this;exact Q54 h ⟨rfl,rfl⟩
 | (g,x) :: fs,vs,r=>by
  obtain ⟨u,t,rfl,z,j⟩:=Qap r;rw [xu,Q0i]
  by_cases q:g=f
  ·rw [bK q,bK q]; exact Q54 h j
  ·rw [bL q,bL q]; exact Q54 z (Qan h j)
theorem Q2q {f:Str}:∀ {fs:List (Str × PV)} {vs:List (Str × V)},RepD H ρ fs vs->(∀ p,fs.lookup f=some p->∃ v,vs.lookup f=some v/\Rep H ρ p v)/\(fs.lookup f=none->vs.lookup f=none)
 | [],vs,r=>by
  have:vs=[]:=by have:=r.1; simpa using this
  subst this;exact ⟨fun p e=>(by cases e),fun _=>rfl⟩
 | (g,x) :: fs,vs,r=>by
  obtain ⟨u,t,rfl,B,G⟩:=Qap r;obtain ⟨z,j⟩:=Q2q (f:=f) G;rw [E2,E2];cases q:f == g with
  | true=>exact ⟨fun p e=>by cases e; exact ⟨u,rfl,B⟩,fun e=>(by cases e)⟩
  | false=>exact ⟨z,j⟩
end
def Q3d (C:aA) (st:Q2) (p:PV):Option (Nat × List (Str × PV)):=match p with
 | .ref i=>match st[i]? with
  | some (.obj C' fs)=>if C'=C then some (i,fs) else none
  | _=>none
 | _=>none
theorem Q4e {C:aA} {H:Hp} {ρ:Tk} {st:Q2} {p:PV} {v:V} {i:Nat} {fs:List (Str × PV)} (R:Rel H ρ st) (r:Rep H ρ p v) (e:Q3d C st p=some (i,fs)):∃ a vs dx,p=.ref i/\v=.ref a/\ρ.tr[i]?=some a/\H a=some (.ins C dx vs)/\RepD H ρ fs vs:=by
 unfold Q3d at e
 split at e
 ·rename_i j
  split at e
  ·rename_i J fs' z
   split at e
   ·rename_i I;cases e;subst I;obtain ⟨a,q,rfl⟩:=r;obtain ⟨b,vs,dx,B,G,rd⟩:=R.obj z;rw [q] at B;cases B;exact ⟨a,vs,dx,rfl,rfl,q,G,rd⟩
   ·cases e
  ·cases e
 ·cases e
section
variable {X:Cx} {E:XK} {o e:aD} {es:List aD} {mo m:ME} {mr:Gam->Q2->Res (List PV)} {C:aA} {f:Str} {pos pos' apos p:Pos}
def Vr (C:aA) (f:Str) (mo:ME):ME:=fun Γ st=>(mo Γ st).bind fun p st1=>match Q3d C st1 p with
 | some (_,fs)=>match fs.lookup f with
  | some q=>.ok q st1
  | none=>.stuck
 | none=>.stuck
theorem V0 (cl:Cls X.K C) (n:NoAttr X.K C f) (z:SimE X E o mo) (B:ai o f X.env (aL o X.env)=aL o X.env:=by rfl):SimE X E (.Attribute o f pos) (Vr C f mo):=
 ⟨fun Γ σ H ρ st Q R G h=>WE.of (Qsr W2 B) (z.use R G h.bind fun p U H1 ρ1 v x1 j G1 J h1=>by
  split at h1
  ·rename_i i fs eo
   split at h1
   ·rename_i q Y;obtain ⟨a,vs,dx,rfl,rfl,ea,I,rd⟩:=Q4e j J eo;obtain ⟨u,Z,O⟩:=(Q2q rd).1 q Y;exact ⟨a,C,dx,vs,u,rfl,I,cl,n,Z,now j h1 O⟩
   ·exact h1.elim
  ·exact h1.elim)⟩
def xz (C:aA) (f:Str) (mo m:ME):MS:=fun Γ st=>(m Γ st).sbind fun p st1=>(mo Γ st1).sbind fun q st2=>match Q3d C st2 q with
 | some (i,fs)=>if fs.length < 1000 then .nx Γ (st2.set i (.obj C (xu f p fs))) else .stuck
 | none=>.stuck
theorem Q0c (cl:Cls X.K C) (n:NoAttr X.K C f) (J:SimE X E e m) (Y:SimE X E o mo) (hs:swapsWith e (some (.Attribute o f pos')) pos.line X.env=pure false:=by rfl):SimS X E (.Assign [.Attribute o f pos'] e pos) (xz C f mo m):=
 ⟨fun Γ σ H ρ st D R G h=>WS.of (Qsf W2 W2 hs) (J.use R G h.bind fun p a2 H1 ρ1 z x1 R1 G1 O h1=>Y.use R1 G1 h1.bind fun ov a3 H2 j x U R2 Z r2 h2=>by
  split at h2
  ·rename_i i fs eo
   split at h2
   ·rename_i hl;obtain ⟨a,vs,dx,rfl,rfl,I,q,rd⟩:=Q4e R2 r2 eo;have hm:=D5 I;have B:Ext H2 j (upd H2 a (.ins C dx (Q0i f z vs))) j:=Ext.put hm q;refine ⟨a,C,dx,vs,rfl,q,cl,n,by rw [<- rd.length]; exact hl,h2 σ _ j B (R2.putC I q ⟨_,⟨dx,Je⟩,?_⟩) (Z.ext B)⟩;exact (Qan (O.ext U) rd).ext B
   ·exact h2.elim
  ·exact h2.elim)⟩
structure MethS (P:aN) (w:aK) (K:bQ) (mg:Str->Option aB) (base:Heap) (k:Nat) (C:aA) (x:Str) (n:Nat) (F:FN):Prop where
 ex:∃ (f:aA) (fd:aP) (ps:List Str),FnOk P w K mg base (CXD P w) k f fd ps (spF mg n F)/\Meth K C x f/\Binds K fd ps []/\ps.length=n
def Q00 (C:aA) (x:Str) (n:Nat) (F:FN) (mo:ME) (mr:ML):ME:=fun Γ st=>(mo Γ st).bind fun p st1=>match Q3d C st1 p with
 | some (_,fs)=>if fs.lookup x=none then (mr Γ st1).bind fun ps st2=>if ps.length + 1=n then F (p :: ps) st2 else .stuck else .stuck
 | none=>.stuck
theorem Q6q {pl:Sem Bool} {k n:Nat} {x:Str} {F:FN} (cl:Cls X.K C) (D:MethS X.prog X.w X.K X.mg X.base k C x n F) (hr:Room k X.A) (hx:jr (CXD X.prog X.w) X E) (ho:SimE X E o mo) (Z:SimA X E (e :: es) mr)
  (z:aO (e :: es) X.env=(false,aL e X.env) :: aO es X.env:=by rfl) (q:(aU pos (aO es X.env)).any (·.1)=false:=by rfl)
  (ht:aL (.Call (.Attribute o x apos) (e :: es) [] pos) X.env=(do
   let ov <- aL o X.env
   standAt apos.atName
   let (f,first) <- ag [ov] (getMethod ov x pl)
   callWith pos f first (aU pos (aO (e :: es) X.env)) (backToKw pos (keywordEach [] X.env))):=by rfl):SimE X E (.Call (.Attribute o x apos) (e :: es) [] pos) (Q00 C x n F mo mr):=by
 obtain ⟨f,fd,ps,hF,hm,hb,hl⟩:=D.ex;exact ⟨fun Γ σ H ρ st Q R G h=>WE.of (Qpd W2 cl hm hF hr hb .nil hx Q3p z q ht) (ho.use R G h.bind fun p a2 H1 ρ1 v x1 Y G1 O h1=>by
  split at h1
  ·rename_i i fs eo
   split at h1
   ·rename_i el;obtain ⟨a,vs,dx,rfl,rfl,ea,j,rd⟩:=Q4e Y O eo;refine ⟨a,dx,vs,rfl,j,(Q2q rd).2 el,?_⟩;refine Z.use Y G1 h1.bind fun qs I H2 J us x2 R2 G2 U h2=>?_
    by_cases B:qs.length + 1=n
    ·rw [bK B] at h2;show spF X.mg n F (.ref a :: (us ++ [])) H2 Q E;rw [bu];exact ⟨by rw [D4,<- U.length]; exact B,J,I,_,R2,RepL.cons (O.ext x2) U,h2⟩
    ·rw [bL B] at h2; exact h2.elim
   ·exact h1.elim
  ·exact h1.elim)⟩
theorem Q47 {pl:Sem Bool} {k n:Nat} {x:Str} {F:FN} (cl:Cls X.K C) (D:MethS X.prog X.w X.K X.mg X.base k C x n F) (hr:Room k X.A) (hx:jr (CXD X.prog X.w) X E) (J:SimE X E o mo)
  (ht:aL (.Call (.Attribute o x apos) [] [] pos) X.env=(do
   let ov <- aL o X.env
   standAt apos.atName
   let (f,first) <- ag [ov] (getMethod ov x pl)
   callWith pos f first (aU pos (aO [] X.env)) (backToKw pos (keywordEach [] X.env))):=by rfl):SimE X E (.Call (.Attribute o x apos) [] [] pos) (Q00 C x n F mo Qa):=by
 obtain ⟨f,fd,ps,Z,Y,hb,hl⟩:=D.ex;exact ⟨fun Γ σ H ρ st Q R G h=>WE.of (Qk3 W2 cl Y Z hr hb .nil hx ht) (J.use R G h.bind fun p j H1 ρ1 v x1 I G1 B h1=>by
  split at h1
  ·rename_i i fs U
   split at h1
   ·rename_i O;obtain ⟨a,vs,dx,rfl,rfl,ea,q,rd⟩:=Q4e I B U;refine ⟨a,dx,vs,rfl,q,(Q2q rd).2 O,?_⟩;have h1:Acc X.mg E H1 ρ1 (QV Q) (if ([]:List PV).length + 1=n then F [.ref i] j else .stuck):=h1
    by_cases z:([]:List PV).length + 1=n
    ·rw [bK z] at h1;show spF X.mg n F (.ref a :: ([] ++ [])) H1 Q E;exact ⟨z,ρ1,j,_,I,RepL.cons B RepL.nil,h1⟩
    ·rw [bL z] at h1; exact h1.elim
   ·exact h1.elim
  ·exact h1.elim)⟩
structure MakeS (P:aN) (w:aK) (K:bQ) (mg:Str->Option aB) (base:Heap) (k:Nat) (C:aA) (x:Str) (n:Nat) (F:FN):Prop where
 ex:∃ (f:aA) (fd:aP) (ps:List Str),FnOk P w K mg base (CXD P w) k f fd ps (spF mg n F)/\Mk K C f/\mg x=some (.ref C)/\Binds K fd ps []/\ps.length=n
def Qrd (C : aA) (n : Nat) (F : FN) (mr : ML) : ME := fun Γ st => (mr Γ st).bind fun ps st1 => if ps.length + 1 = n then (F (.ref st1.length :: ps) (st1 ++ [.obj C []])).bind fun v st2 => match v with
  | .non=>.ok (.ref st1.length) st2
  | _=>.stuck
 else .stuck
theorem Qfv {k n:Nat} {x:Str} {F:FN} (D:MakeS X.prog X.w X.K X.mg X.base k C x n F) (hr:Room (k + 1) X.A) (hx:jr (CXD X.prog X.w) X E) (hg:Gl X x) (ha:SimA X E (e :: es) mr) (a2:(x == ("__debug__" : Str))=false:=by decide)
  (he:aO (e :: es) X.env=(false,aL e X.env) :: aO es X.env:=by rfl) (Y:(aU pos (aO es X.env)).any (·.1)=false:=by rfl):SimE X E (.Call (.Name x p) (e :: es) [] pos) (Qrd C n F mr):=by
 obtain ⟨f,fd,ps,hF,hm,hc,hb,hl⟩:=D.ex;exact ⟨fun Γ σ H ρ st Q R G h=>WE.of (Qpe hm hF hr hg hc hb .nil hx Q3p a2 he Y) (ha.use R G h.bind fun qs j H1 ρ1 us x1 R1 G1 r1 h1=>by
  intro y dx hy hd U
  by_cases hq:qs.length + 1=n
  ·rw [bK hq] at h1;have y1:Ext H1 ρ1 (upd H1 dx (.own y)) ρ1:=Ext.add hd;have B:(upd H1 dx (.own y)) y=none:=by rw [Qf (fun z=>U z.symm)]; exact hy
   have Z:Ext (upd H1 dx (.own y)) ρ1 (upd (upd H1 dx (.own y)) y (.ins C dx [])) (ρ1.add y):=Ext.addT B;have R2:Rel (upd (upd H1 dx (.own y)) y (.ins C dx [])) (ρ1.add y) (j ++ [.obj C []]):=(R1.add hd).addC B ⟨[],⟨dx,Je⟩,rfl,rfl⟩;have q:(ρ1.add y).tr[j.length]?=some y:=by
    show (ρ1.tr ++ [y])[j.length]?=some y;rw [<- R1.len,D2 (O8 _),dJ]; rfl
   show spF X.mg n F (.ref y :: (us ++ [])) _ _ E;rw [bu];refine ⟨by rw [D4,<- r1.length]; exact hq,ρ1.add y,j ++ [.obj C []],.ref j.length :: qs,R2,RepL.cons ⟨y,q,rfl⟩ (r1.ext (y1.trans Z)),?_⟩;cases J:F (.ref j.length :: qs) (j ++ [.obj C []]) with
   | stuck=>rw [J] at h1; exact h1.elim
   | exc z st'=>
    rw [J] at h1;exact fun C' dv H' ρ' m I O xf=>h1 C' dv H' ρ' m ((y1.trans Z).trans I) O xf
   | ok v a4=>
    rw [J] at h1;intro H' ρ' I O w a3;rw [J5] at h1;cases v with
    | non=>
     refine ⟨a3,h1 H' ρ' ((y1.trans Z).trans I) O _ ⟨y,?_,rfl⟩⟩;obtain ⟨t,et⟩:=I.pre;rw [<- et,O5 (O0.mp q).1];exact q
    | _=>exact h1.elim
  ·rw [bL hq] at h1; exact h1.elim)⟩
end
@[simp] theorem Qq5 (C:aA) (f:Str) (mo:ME) (Γ:Gam) (st:Q2):Vr C f mo Γ st=(mo Γ st).bind fun p j=>match Q3d C j p with
 | some (_,fs)=>match fs.lookup f with
  | some q=>.ok q j
  | none=>.stuck
 | none=>.stuck:=rfl
@[simp] theorem Qdn (C:aA) (f:Str) (mo m:ME) (Γ:Gam) (st:Q2):xz C f mo m Γ st=(m Γ st).sbind fun p z=>(mo Γ z).sbind fun q j=>match Q3d C j q with
 | some (i,fs)=>if fs.length < 1000 then .nx Γ (j.set i (.obj C (xu f p fs))) else .stuck
 | none=>.stuck:=rfl
@[simp] theorem Qkn (C:aA) (x:Str) (n:Nat) (F:FN) (mo:ME) (mr:ML) (Γ:Gam) (st:Q2):Q00 C x n F mo mr Γ st=(mo Γ st).bind fun p j=>match Q3d C j p with
 | some (_,fs)=>if fs.lookup x=none then (mr Γ j).bind fun ps q=>if ps.length + 1=n then F (p :: ps) q else .stuck else .stuck
 | none=>.stuck:=rfl
section
variable {X:Cx} {E:XK}
theorem Qim:jv X (.type "int") (fun xs H Q=>∃ b:Bool,xs=[.bl b]/\Q (.int (if b then 1 else 0)) H):=by
 intro pins s σ H xs us Q I r h;obtain ⟨b,rfl,q⟩:=h;obtain ⟨u,rfl,j⟩:=Q3a r;cases j;exact call_int_bool ⟨.int (if b then 1 else 0),H,I.tok _,⟨_,rfl⟩,q⟩
def Qgp:CF:=fun st ps=>match ps with
 | [.bl b]=>.ok (.int (if b then 1 else 0)) st
 | _=>.stuck
theorem Qqr:CallS X E (.type "int") Qgp:=⟨fun H ρ st ps xs Q R j h=>by
 unfold Qgp at h
 split at h
 ·obtain ⟨v,rfl,r⟩:=Ve j;cases r;exact WC.of Qim ⟨_,rfl,now R h rfl⟩
 ·exact h.elim⟩
@[simp] theorem Qx2 (st:Q2) (b:Bool):Qgp st [.bl b]=.ok (.int (if b then 1 else 0)) st:=rfl
end
def Qbt (x:Str):V:=if x = "keep" then .int 2 else if x = "fall" then .int 2 else if x = "send" then .int 2 else if x = "come" then .int 3 else .non
structure PartsO (P:aN) (w:aK) (K:bQ) (mg:Str->Option aB):Prop where
 ex:∃ (a:aA) (o:Obj) (es:Array DictEntry) (ep:Nat),mg "PARTS_OF_OTHER_DEED" = some (.ref a)/\K.lookup a=some o/\o.cls=.type "dict" /\ o.ExactDict/\o.data=.dict es ep/\KeysOf (J7 P w) es/\(a == af)=false/\∀ x,RelV (Qbt x) ((findBy (J7 P w).is es (.inr x)).getD .none)
def zh (m:ME):ME:=fun Γ st=>(m Γ st).bind fun p st1=>match p with
 | .str x=>if x = "keep" then .ok (.int 2) st1 else if x = "fall" then .ok (.int 2) st1 else if x = "send" then .ok (.int 2) st1 else if x = "come" then .ok (.int 3) st1 else .ok .non st1
 | _=>.stuck
section
variable {X:Cx} {E:XK} {pos:Pos} {e:aD} {m:ME}
theorem Qh5 {p apos cpos:Pos} (PO:PartsO X.prog X.w X.K X.mg) (Z:Gl X "PARTS_OF_OTHER_DEED") (U:SimE X E e m)
  (base:ai (.Name "PARTS_OF_OTHER_DEED" p) "get" X.env (aL (.Name "PARTS_OF_OTHER_DEED" p) X.env)=aL (.Name "PARTS_OF_OTHER_DEED" p) X.env:=by rfl)
  (few:((aU cpos (aO [e] X.env)).all (fun x=>!x.1) && (backToKw cpos (keywordEach [] X.env)).all (fun x=>x.1.isSome)
   && decide (([e]:List aD).length + ([]:List Keyword).length + (if ([]:List Keyword).isEmpty then 0 else 1) < 30))=true:=by rfl)
  (line:(apos.endLine == cpos.line)=true:=by rfl) (trees:aU cpos (aO [e] X.env)=[(false,aL e X.env)]:=by rfl) :
  SimE X E (.Call (.Attribute (.Name "PARTS_OF_OTHER_DEED" p) "get" apos) [e] [] cpos) (zh m):=by
 obtain ⟨a,o,es,ep,pm,pl,pt,pe,pd,pk,ps,B⟩:=PO.ex;refine ⟨fun Γ σ H ρ st Q R G h=>WE.of (Qd7 (val:=Qbt) Z pm pl pt pe pd pk ps B W2 (by decide) base few line trees) (U.use R G h.bind fun q j H1 ρ1 v x1 z G1 Y h1=>?_)⟩;cases q with
 | str x=>
  cases Y;have h1:Acc X.mg E H1 ρ1 (QV Q) (if x = "keep" then .ok (.int 2) j else if x = "fall" then .ok (.int 2) j else if x = "send" then .ok (.int 2) j else if x = "come" then .ok (.int 3) j else .ok .non j):=h1;refine ⟨x,rfl,?_⟩;unfold Qbt
  by_cases a1:x = "keep"
  ·rw [bK a1] at h1 ⊢; exact now z h1 rfl
  ·rw [bL a1] at h1 ⊢
   by_cases O:x = "fall"
   ·rw [bK O] at h1 ⊢; exact now z h1 rfl
   ·rw [bL O] at h1 ⊢
    by_cases J:x = "send"
    ·rw [bK J] at h1 ⊢; exact now z h1 rfl
    ·rw [bL J] at h1 ⊢
     by_cases I:x = "come"
     ·rw [bK I] at h1 ⊢; exact now z h1 rfl
     ·rw [bL I] at h1 ⊢;exact now z h1 rfl
 | _=>exact h1.elim
end
section
theorem Qhk {P:aN} {w:aK} {K:bQ} {mg:Str->Option aB} {J:aA} {t1 t2 t3 I j B G q:Tok} {ep:Nat} (hm:mg "PARTS_OF_OTHER_DEED" = some (.ref J))
  (lk:K.lookup J=some ⟨.type "dict",none,.dict #[⟨PyData.keyHash w.params "keep",.str "keep" t1,.int 2 j⟩,⟨PyData.keyHash w.params "fall",.str "fall" t2,.int 2 B⟩,⟨PyData.keyHash w.params "send",.str "send" t3,.int 2 G⟩,⟨PyData.keyHash w.params "come",.str "come" I,.int 3 q⟩] ep,#[]⟩) (hp:(J == af)=false):PartsO P w K mg:=by
 refine ⟨J,_,_,_,hm,lk,rfl,⟨rfl,rfl,rfl⟩,rfl,fun e he=>?_,hp,fun x=>?_⟩
 ·simp only [gW,E7,cx,or_false] at he;rcases he with rfl | rfl | rfl | rfl
  ·exact ⟨.inr "keep",by simp [J7,js,bp],rfl⟩
  ·exact ⟨.inr "fall",by simp [J7,js,bp],rfl⟩
  ·exact ⟨.inr "send",by simp [J7,js,bp],rfl⟩
  ·exact ⟨.inr "come",by simp [J7,js,bp],rfl⟩
 ·unfold Qbt
  by_cases e1:x = "keep"
  ·rw [bK e1]; subst e1;have:findBy (J7 P w).is #[⟨PyData.keyHash w.params "keep",.str "keep" t1,.int 2 j⟩,⟨PyData.keyHash w.params "fall",.str "fall" t2,.int 2 B⟩,⟨PyData.keyHash w.params "send",.str "send" t3,.int 2 G⟩,⟨PyData.keyHash w.params "come",.str "come" I,.int 3 q⟩] (.inr "keep")=some (.int 2 j):=by first | rfl | decide +kernel
   rw [this]; exact ⟨_,rfl⟩
  ·rw [bL e1]
   by_cases e2:x = "fall"
   ·rw [bK e2]; subst e2;have:findBy (J7 P w).is #[⟨PyData.keyHash w.params "keep",.str "keep" t1,.int 2 j⟩,⟨PyData.keyHash w.params "fall",.str "fall" t2,.int 2 B⟩,⟨PyData.keyHash w.params "send",.str "send" t3,.int 2 G⟩,⟨PyData.keyHash w.params "come",.str "come" I,.int 3 q⟩] (.inr "fall")=some (.int 2 B):=by first | rfl | decide +kernel
    rw [this]; exact ⟨_,rfl⟩
   ·rw [bL e2]
    by_cases e3:x = "send"
    ·rw [bK e3]; subst e3;have:findBy (J7 P w).is #[⟨PyData.keyHash w.params "keep",.str "keep" t1,.int 2 j⟩,⟨PyData.keyHash w.params "fall",.str "fall" t2,.int 2 B⟩,⟨PyData.keyHash w.params "send",.str "send" t3,.int 2 G⟩,⟨PyData.keyHash w.params "come",.str "come" I,.int 3 q⟩] (.inr "send")=some (.int 2 G):=by first | rfl | decide +kernel
     rw [this]; exact ⟨_,rfl⟩
    ·rw [bL e3]
     by_cases O:x = "come"
     ·rw [bK O]; subst O;have:findBy (J7 P w).is #[⟨PyData.keyHash w.params "keep",.str "keep" t1,.int 2 j⟩,⟨PyData.keyHash w.params "fall",.str "fall" t2,.int 2 B⟩,⟨PyData.keyHash w.params "send",.str "send" t3,.int 2 G⟩,⟨PyData.keyHash w.params "come",.str "come" I,.int 3 q⟩] (.inr "come")=some (.int 3 q):=by first | rfl | decide +kernel
      rw [this]; exact ⟨_,rfl⟩
     ·rw [bL O];have Z:¬ (bP "keep" = x):=fun z=>e1 z.symm
      have Y:¬ (bP "fall" = x):=fun z=>e2 z.symm
      have a2:¬ (bP "send" = x):=fun z=>e3 z.symm
      have U:¬ (bP "come" = x):=fun z=>O z.symm
      have:findBy (J7 P w).is #[⟨PyData.keyHash w.params "keep",.str "keep" t1,.int 2 j⟩,⟨PyData.keyHash w.params "fall",.str "fall" t2,.int 2 B⟩,⟨PyData.keyHash w.params "send",.str "send" t3,.int 2 G⟩,⟨PyData.keyHash w.params "come",.str "come" I,.int 3 q⟩] (.inr x)=none:=by
       simp [findBy,J7,js,bp,Z,Y,a2,U]
      rw [this]; rfl
end
def Qdk (cn fld : Str) (i n : Nat) (F : FN) (mr : ML) : MS := fun Γ st => (mr Γ st).sbind fun ps st1 => if ps.length = n /\ i < Γ.length then (match F ps st1 with
  | .ok _ st2=>.nx Γ st2
  | .exc x st2=>if x.cls=cn then (match x.fs with | some (f,.int z)=>if f=fld then .rt (.int z) st2 else .stuck | _=>.stuck) else .stuck
  | .stuck=>.stuck) else .stuck
section
variable {X:Cx} {E:XK}
theorem Qnf {k n i:Nat} {g cn nm fld:Str} {F:FN} {J:aA} {p cpos q np Z apos B U pos:Pos} {e:aD} {es:List aD} {mr:ML} (D:DefS X.prog X.w X.K X.mg X.base k g n F) (hr:Room k X.A) (ha:SimA X.nox E (e :: es) mr)
  (hN:X.N.Nodup) (Y:X.mg cn=some (.ref J)) (a7:dF X.K (.ref J) (.ref J)=some true) (b6:XGet X.K J fld) (hi:X.N[i]?=some nm:=by rfl) (hk:X.env.scope.names.lookup nm=some .local:=by rfl)
  (j:∀ a,PSs (Q0a X a) [.Return (some (.Attribute (.Name nm Z) fld apos)) B] (Quu (tXF X.K fld (Qrx i))):=by exact fun _=>Qbs (Qju (Qpc _ (pv _))))
  (hg:Gl X g:=by rfl) (b5:Gl X cn:=by rfl) (b2:∀ b,b∉X.ex:=by intro b z; exact absurd (show b∈([]:List aA) from z) (by simp)) (b3:X.stack=X.env :: X.outer:=by rfl) (a8:X.env.frame=some X.env.locals:=by rfl)
  (b1:(g == ("__debug__" : Str))=false:=by decide) (a3:(cn == ("__debug__" : Str))=false:=by decide) (he:aO (e :: es) X.env=(false,aL e X.env) :: aO es X.env:=by rfl) (b0:(aU cpos (aO es X.env)).any (·.1)=false:=by rfl)
  (a9:swapsWith (.Call (.Name g p) (e :: es) [] cpos) none q.line X.env=pure false:=by rfl) :
  SimS X E (.Try [.Expr (.Call (.Name g p) (e :: es) [] cpos) q] [.ExceptHandler (some (.Name cn np)) (some nm) [.Return (some (.Attribute (.Name nm Z) fld apos)) B] U] [] [] pos) (Qdk cn fld i n F mr):=by
 obtain ⟨f,fd,ps,hF,hm,b4,hb,hl⟩:=D.ex;exact ⟨fun Γ σ H ρ st D R G h=>WS.of (Qjt hF hr hm b4 hb Q3p hN hi hk j Y hg b5 b2 b3 a8 b1 a3 he b0 a9) (ha.use R G h.bind fun qs a2 H1 ρ1 us x1 R1 G1 r1 h1=>by
  by_cases hq:qs.length=n/\i < Γ.length
  ·rw [bK hq] at h1;refine ⟨by rw [<- r1.length]; exact hq.1,ρ1,a2,qs,R1,r1,?_⟩;cases er:F qs a2 with
   | stuck=>rw [er] at h1; exact h1.elim
   | ok v a4=>
    rw [er] at h1;exact fun H' ρ' x' R' w _=>h1 σ H' ρ' x' R' (G1.ext x')
   | exc x a4=>
    rw [er] at h1;have h2:AccS X.mg E D H1 ρ1 (if x.cls=cn then (match x.fs with | some (f,.int z)=>if f=fld then .rt (.int z) a4 else .stuck | _=>.stuck) else .stuck):=h1
    clear h1
    by_cases hc:x.cls=cn
    ·rw [bK hc] at h2
     split at h2
     ·rename_i f' z ef
      split at h2
      ·rename_i hf;subst hf;intro C dv H' ρ' a6 x' R' xf;rw [hc,Y] at a6;cases a6;rw [ef] at xf;obtain ⟨dx,v,rfl,O,_,rv⟩:=xf;have rv:v=.int z:=rv;subst rv;refine ⟨J,rfl,a7,fun a I=>?_⟩;have a5:i < σ.length:=by rw [<- G1.1]; exact hq.2
       refine ⟨.ref a,by rw [E3 a5],a,J,dx,z,[(f',.int z)],rfl,Je,by rw [Qf (Qh O I)]; exact O,by simp [cC],b6,?_⟩;exact h2 _ _ ρ' (x'.trans (Ext.add I)) (R'.add I) rfl
      ·exact h2.elim
     ·exact h2.elim
    ·rw [bL hc] at h2; exact h2.elim
  ·rw [bL hq] at h1; exact h1.elim)⟩
@[simp] theorem Qkm (cn fld:Str) (i n:Nat) (F:FN) (mr:ML) (Γ:Gam) (st:Q2):Qdk cn fld i n F mr Γ st=(mr Γ st).sbind fun ps q=>if ps.length=n/\i < Γ.length then (match F ps q with
  | .ok _ j=>.nx Γ j
  | .exc x j=>if x.cls=cn then (match x.fs with | some (f,.int z)=>if f=fld then .rt (.int z) j else .stuck | _=>.stuck) else .stuck
  | .stuck=>.stuck) else .stuck:=rfl
end
end Sm
namespace Sm
open PySem PySem.Spec PyProof.Rows L2
section
variable {X:Cx} {E:XK}
theorem Qka:OpR X (aW .FloorDiv) (rI (fun _ j=>0 < j/\j.natAbs.log2 < 8000) fun i j=>.int (i / j)):=opI fun i j _ _ _ _ _ z q=>by
 have h1:(0:Int) < j:=z.1;have h2:=z.2;refine floordiv_int (by omega) (by rw [fS i (by omega)]; exact q) (.inl (PyProof.noPylong_of_log2 ?_));omega
def Qg6:OP:=fun st p q=>match p,q with
 | .int a,.int b=>if 0 < b/\b.natAbs.log2 < 8000 then .ok (.int (a / b)) st else .stuck
 | _,_=>.stuck
theorem Qpm:OpS X E (aW .FloorDiv) Qg6:=⟨fun H ρ st p q x y Q R j z h=>by
 unfold Qg6 at h
 split at h
 ·cases j; cases z
  split at h
  ·rename_i B;exact WO.of Qka ⟨_,_,rfl,rfl,B,now R h rfl⟩
  ·exact h.elim
 ·exact h.elim⟩
theorem Qhs (st:Q2) (a:Int) (m:Nat) (h1:0 < m) (h2:m < 2 ^ 8000):Qg6 st (.int a) (.int m)=.ok (.int (a / m)) st:=by
 show (if 0 < (m:Int)/\(m:Int).natAbs.log2 < 8000 then _ else _)=_;rw [bK ⟨by omega,by
  rw [Int.natAbs_natCast];exact (Nat.log2_lt (by omega)).mpr h2⟩]
end
end Sm
namespace Sm
open PySem PySem.Spec L2
structure AtS (K:bQ) (mg:Str->Option aB) (name:Str) (st:aM) (ps:List Str) (f:aA) (fd:aP):Prop where
 F:Fun K name name st f fd
 m:mg name=some (.ref f)
 b:Binds K fd ps []
theorem Jc {K:bQ} {mg:Str->Option aB} {h:Heap} {name:Str} {st:aM} {ps:List Str} {f:aA} {I:aB} {J an:Option aA} {B:Array (Option aB)} {kV q z j ct:aB} (X:K.In h) (G:h.Ns aQ mg)
  (a:bS K aQ name=some (some (.ref f))) (l:K.lookup f=some ⟨I,J,.func (bU name name (Qr st) (Qp st) (Q7 st) .none kV q z an j ct),B⟩) (c:bW K j name=true) (k:bT K (.ref f)=true)
  (b:∀ (kV q z:aB) (an:Option aA) (j ct:aB) (us:List aB),us.length=ps.length->bindArgs (bU name name (Qr st) (Qp st) (Q7 st) .none kV q z an j ct) ⟨us,[]⟩=pure (ps.zip us)) :
  AtS K mg name st ps f (bU name name (Qr st) (Qp st) (Q7 st) .none kV q z an j ct):=
 have F:=qv (st:=st) l c k
 ⟨F,bo X G a,F.binds b⟩
theorem AtS.def {P:aN} {w:aK} {K:bQ} {mg:Str->Option aB} {base:Heap} {name:Str} {st:aM} {ps:List Str} {f:aA} {fd:aP} {k n:Nat} {F:FN} (a:AtS K mg name st ps f fd) (j:ps.length=n) (G:FnOk P w K mg base (CXD P w) k f fd ps (spF mg n F)):DefS P w K mg base k name n F:=
 ⟨f,fd,ps,G,a.m,a.F.kp,a.b,j⟩
def noL (K:bQ):Bool:=K.all fun p=>match p.2.data with
 | .seq _ _=>(match p.2.cls with
  | .type n=>!(n == ("list" : Str))
  | _=>true)
 | _=>true
theorem Qfa {K:bQ} {a:aA} {o:Obj} (h:K.lookup a=some o):(a,o)∈K:=by
 induction K with
 | nil=>cases h
 | cons p K j=>
  obtain ⟨b,u⟩:=p;rw [E2] at h;cases e:a == b with
  | true=>
   rw [e] at h;have:a=b:=by simpa using e
   subst this;cases h;exact D3
  | false=>
   rw [e] at h;exact D0 _ (j h)
theorem Qt7 {K:bQ} {a:aA} {o:Obj} {its:Array aB} {n:Nat} (q:noL K=true) (h:K.lookup a=some o) (j:o.cls=.type "list") (hd:o.data=.seq its n):False:=by
 have:=bx.mp q _ (Qfa h);simp [j,hd] at this
theorem Qam {H:Hp} {ρ:Tk}:∀ ns:List Int,RepL H ρ (ns.map .int) (ns.map V.int)
 | []=>rfl
 | n :: ns=>⟨_,_,rfl,rfl,Qam ns⟩
theorem Qnv (H:Hp):Rel H Tk.nil []:=⟨rfl,gX,fun a h=>(by cases h),fun a h=>(by cases h),fun i a c h=>(by simp [Tk.nil] at h)⟩
def Qbj (K:bQ):Sp:=fun vs H Q _=>∃ (a:aA) (ns:List Int),vs=[.ref a]/\SqL K H a (ns.map V.int)/\ns.length<=63/\∀ H',Q (.bl true) H'
theorem Qqb {P:aN} {w:aK} {K:bQ} {mg:Str->Option aB} {base:Heap} {CX:CXT} {k:Nat} {f:aA} {fd:aP} {ps:List Str} {q:FN} (I:noL K=true) (F:FnOk P w K mg base CX k f fd ps (spF mg 1 q)) (j:∀ ns:List Int,ns.length<=63->∃ st',q [.fro (ns.map .int)] []=.ok (.bl true) st'):FnOk P w K mg base CX k f fd ps (Qbj K):=F.imp fun vs H Q E ⟨a,ns,e,B,z,G⟩=>by
 subst e;obtain ⟨st',O⟩:=j ns z;have J:Rd H a (.lst (ns.map V.int)):=by
  rcases B with h | ⟨o,its,n,h1,h2,Y,U,_⟩
  ·exact h
  ·exact (Qt7 I h1 h2 U).elim
 refine ⟨rfl,Tk.nil,[],[.fro (ns.map .int)],Qnv H,⟨_,_,rfl,⟨a,_,rfl,J,Tk.not_nil a,Qam ns⟩,rfl⟩,?_⟩;rw [O];intro H' ρ' x R v r;have e:v=.bl true:=r;subst e;exact G H'
theorem Qmd {P:aN} {w:aK} {H:Hp} {s:aC} {e:aB} {s':aC} (h:CXD P w [] H s (fun _ _ _=>False) e s'):False:=by
 obtain ⟨_,_,_,_,_,_,_,_,_,z⟩:=h;exact z
theorem walkS {l:ec} {k:Nat} {q:aN} {j:List Str} {Z:(Str->Option aB)->Heap->Prop} {G:aK->Heap->Prop} {d:DefRec} {K:Params->bQ} (Y:l.most=some 63) (hr:Room k callerA) (B:d.params.defaults=[])
  (U:∀ (w:aK) (h:Heap),G w h->(K w.params).In h)
  (F:∀ (w:aK) (mg:Str->Option aB) (I:aA) (h:Heap),(K w.params).In h->h.Ns aQ mg->mg d.name=some (.ref I) ->
   ∃ fd:aP,(∀ (s:aC) (u:aB),BindsTo s fd ⟨[u],[]⟩ [("script",u)])/\∀ base:Heap,(K w.params).In base->base.Ns aQ mg->FnOk l.prog w (K w.params) mg base (CXD l.prog w) k I fd ["script"] (Qbj (K w.params))) :
  ft q j Z G l.row.toRowW d [] (fun f vs=>eZ f vs):=
 L2.walk_of (n:=63) (k:=k) (x := "script") (CX:=fun w=>CXD l.prog w) (sp:=fun w=>Qbj (K w.params)) Y (by decide) B hr U F (fun _ _ a ns J _ O=>⟨a,ns,rfl,O,J,fun _=>rfl⟩) fun _ _ _ _ _ z=>Qmd z
end Sm
namespace Lw
open PySem PySem.Spec L2 Sm
def top (i:Nat):aM:=PySem.Challenge.pw_lendwharf_k19_whole_nothing_lost_or_twic.main.body.getD i (.Pass ⟨0,0,0,0⟩)
abbrev qg:aM:=top 8
abbrev Ur:aM:=top 9
abbrev xt:aM:=top 12
abbrev qi:aM:=top 13
abbrev qj:aM:=top 14
abbrev xm:aM:=top 15
abbrev Q2p:aM:=top 17
abbrev Ya:aM:=top 18
abbrev Wq:aM:=top 19
abbrev Uq:aM:=top 20
abbrev xr:aM:=top 21
abbrev Yb:aM:=top 24
abbrev zn:aM:=top 25
abbrev Y9:aM:=top 26
abbrev V7:aM:=top 27
abbrev xn:aM:=top 28
abbrev Q52:aM:=top 29
abbrev Xz:aM:=top 31
abbrev Yv:aM:=top 32
abbrev Wn:aM:=top 33
abbrev qk:aM:=top 34
abbrev Wp:aM:=top 35
abbrev W5:aM:=top 36
abbrev Vx:aM:=top 37
abbrev W6:aM:=top 38
abbrev W0:aM:=top 39
abbrev We:aM:=Kh (top 41) 0
abbrev Uy:aM:=Kh (top 41) 1
abbrev Uz:aM:=Kh (top 41) 2
abbrev K1:aM:=Kh (top 41) 3
abbrev X0:aM:=Kh (top 41) 4
abbrev X1:aM:=Kh (top 41) 5
abbrev Vd:aM:=Kh (top 41) 6
abbrev X2:aM:=Kh (top 41) 7
abbrev U4:aM:=Kh (top 41) 8
abbrev Vc:aM:=Kh (top 41) 9
abbrev Ux:aM:=Kh (top 41) 10
abbrev Wr:aM:=top 44
abbrev Yz:aM:=top 45
abbrev Vw:aM:=top 46
abbrev Ws:aM:=top 47
abbrev K0:aM:=top 48
abbrev xq:aM:=top 49
abbrev Uv:aM:=top 51
abbrev Us:aM:=top 52
abbrev U2:aM:=top 53
abbrev V8:aM:=top 54
abbrev Uw:aM:=top 55
abbrev V9:aM:=top 56
abbrev Vb:aM:=top 57
abbrev Uu:aM:=top 58
abbrev Vy:aM:=top 59
abbrev Vz:aM:=top 60
abbrev Ut:aM:=top 61
abbrev U1:aM:=top 62
abbrev Va:aM:=top 63
abbrev U3:aM:=top 64
abbrev U0:aM:=top 65
abbrev Q49:aM:=top 66
structure Txt (mg:Str->Option aB):Prop where
 b_all:mg "all" = none
 b_any:mg "any" = none
 b_bool:mg "bool" = none
 b_enumerate:mg "enumerate" = none
 b_int:mg "int" = none
 b_isinstance:mg "isinstance" = none
 b_len:mg "len" = none
 b_max:mg "max" = none
 b_min:mg "min" = none
 b_range:mg "range" = none
 b_str:mg "str" = none
 b_sum:mg "sum" = none
 b_tuple:mg "tuple" = none
 b_zip:mg "zip" = none
 c_MOST_HOUSES:∃ t,mg "MOST_HOUSES" = some (.int 8 t)
structure ClsT (K:bQ) (C:aA):Prop where
 cl:Cls K C
 n_number:NoAttr K C "number"
 n_now:NoAttr K C "now"
 n_kept:NoAttr K C "kept"
def Qqt:aM->List aM
 | .ClassDef _ _ _ b _ _ _ _ _ _ _=>b
 | _=>[]
abbrev Qai:aM:=(Qqt (top 6)).getD 0 (.Pass ⟨0,0,0,0⟩)
structure ShortOk (K:bQ) (mg:Str->Option aB) (c0 cs fI:aA):Prop where
 m0:mg "WharfError" = some (.ref c0)
 ms:mg "Short" = some (.ref cs)
 M:XMade K cs c0 fI
 L:XCall K c0
 S:XSet K cs c0 "had"
structure ShortS (P:aN) (w:aK) (K:bQ) (mg:Str->Option aB) (base:Heap):Prop where
 ex:∃ (C W f:aA) (fd:aP),XMade K C W f/\FnOk P w K mg base CX0 1 f fd ["self", "had"] (Q7d C "had")/\Binds K fd ["self", "had"] []/\mg "Short" = some (.ref C)
section
variable {P:aN} {w:aK} {K:bQ} {mg:Str->Option aB} {base:Heap}
theorem Qs5:FnScope ["self", "had"] ["self", "had"] (Q7 Qai):=⟨rfl,rfl,rfl,by decide +kernel,rfl,by decide +kernel,by decide +kernel⟩
theorem Qps {f B q:aA} {fd:aP} (F:Fun K "__init__" "Short.__init__" Qai f fd) (O:ShortOk K mg B q f):FnOk P w K mg base CX0 1 f fd ["self", "had"] (Q7d q "had"):=by
 refine F.ok Qs5 (fun vs H Q E h=>?_) (fun I A outer s H vs Q E J h=>?_)
 ·obtain ⟨x,v,rfl,_⟩:=h;rfl
 ·obtain ⟨x,v,rfl,j,G⟩:=h;refine ⟨_,Qd5 (Qfy (Qk0 O.M O.L (by rfl) O.m0 (Q0j (pv 0) (Q0j Q1u Q7s))))
   (Qbs (Qp4 (fun b z=>absurd (show b∈([]:List aA) from z) (by simp)) O.S (pv 0) (pv 1))),?_⟩
  exact ⟨_,rfl,x,_,rfl,j,_,rfl,_,rfl,x,rfl,j,G⟩
end
section
variable {P:aN} {w:aK} {K:bQ} {mg:Str->Option aB} {base:Heap}
def Q3s:MS:=(Jx (Q6h (Qdp "int" (Q3 0)) (Qte (Qdp "bool" (Q3 0)))))
def Vk:FN:=Qt Q3s 1
theorem Qct:FnScope ["thing"] ["thing"] (Q7 qg):=⟨rfl,rfl,rfl,by decide +kernel,rfl,by decide +kernel,by decide +kernel⟩
theorem Qda {f:aA} {fd:aP} (F:Fun K "is_whole" "is_whole" qg f fd) (T:Txt mg)   : FnOk P w K mg base (CXD P w) 1 f fd ["thing"] (spF mg 1 Vk):=by
 refine J2 (k:=0) (m:=Q3s) F Qct rfl rfl rfl fun j A outer s H E q=>?_
 exact (Qd (Qy (Q1q (Q4y (T := "int") (by decide) (Q0 0) rfl T.b_isinstance rfl T.b_int Qe9) (Q1p (Qs4 (Q4y (T := "bool") (by decide) (Q0 0) rfl T.b_isinstance rfl T.b_bool Qis))))))
def Q0t:MS:=(Jx (Q6h (Qi 1 Vk (Q4 (Q3 0) Qa)) (Q21 (oI fun a b=>.bl (decide (a<=b))) (oI fun a b=>.bl (decide (a<=b))) (Q3 1) (Q3 0) (Q3 2))))
def Kt:FN:=Qt Q0t 3
theorem Q9d:FnScope ["thing", "least", "most"] ["thing", "least", "most"] (Q7 Ur):=⟨rfl,rfl,rfl,by decide +kernel,rfl,by decide +kernel,by decide +kernel⟩
theorem Q9t {f:aA} {fd:aP} (F:Fun K "is_between" "is_between" Ur f fd) (T:Txt mg)  (j:DefS P w K mg base 1 "is_whole" 1 Vk):FnOk P w K mg base (CXD P w) 2 f fd ["thing", "least", "most"] (spF mg 3 Kt):=by
 refine J2 (k:=1) (m:=Q0t) F Q9d rfl rfl rfl fun z A outer s H E q=>?_
 exact (Qd (Qy (Q1q (Qg j (q.mono (by decide)) Qe rfl (Q1 (Q0 0) Q6)) (Q1p (Qji Qar Qar (Q0 1) (Q0 0) (Q0 2))))))
def Q40:ME:=(Q6h (Qi 1 Vk (Q4 (Q3 0) Qa)) (mOp (oI fun a b=>.bl (decide (b<=a))) (Q3 0) (mC (.int 0))))
def Q8b : MS := (Qq (Ys (Q45 (K6 (toB (Qdp "tuple" (Q3 0)))) (toB (mOp oNe (J6 Yw (Q4 (Q3 0) Qa)) (mOp Wi (Q3 1) (mC (.int 1)))))) (Jx (mC (.bl false))) Y7)
  (Jx (J6 (Q39 fun ns=>.bl (ns.all id)) (Q4 (K2 (Y3 [none] (Qn 0) (xy (Q3 0)) Jw Q40)) Qa))))
def Q2h:FN:=Qt Q8b 2
theorem Qh9:FnScope ["thing", "n"] ["thing", "n"] (Q7 xt):=⟨rfl,rfl,rfl,by decide +kernel,rfl,by decide +kernel,by decide +kernel⟩
theorem Qhq {f:aA} {fd:aP} (F:Fun K "is_row" "is_row" xt f fd) (T:Txt mg)  (j:DefS P w K mg base 1 "is_whole" 1 Vk):FnOk P w K mg base (CXD P w) 2 f fd ["thing", "n"] (spF mg 2 Q2h):=by
 refine J2 (k:=1) (m:=Q8b) F Qh9 rfl rfl rfl fun z A outer s H E q=>?_
 exact (Qb (Jz (SimW.t (Q5v (Xr (Vi (Q4y (T := "tuple") (by decide) (Q0 0) rfl T.b_isinstance rfl T.b_tuple V1))) (Q3i (J8 (Q3c q.units) (Qw Yp rfl T.b_len bZ (Q1 (Q0 0) Q6)) (Jb Zb (Q0 1) Qc))))) (Qd (Qy Q3b)) Za)
  (Qd (Qy (Qw (Q8z rfl) rfl T.b_all Q2d (Q1 (Wh (Y6 [none] ["part"] rfl (Xs (Q0 0)) (fun _ _ _ _ _=>(J0 (i:=0) (show (["part"]:List Str).Nodup by decide +kernel))) (fun _ _ _ _ _=>(Q1q (Qg j (q.mono (by decide)) K8 rfl (Q1 (Q0 0) Q6)) (Q1p (qf Qr9 (Q0 0) Qc)))) (fun _ _ _ _ _=>Yt) Jh)) Q6)))))
def Q14:ME:=(Qi 2 Q2h (Q4 (Q3 0) (Q4 (J6 Yw (Q4 (Q3 1) Qa)) Qa)))
def Q3t : MS := (Qq (Ys (Q45 (K6 (toB (Qdp "tuple" (Q3 0)))) (K6 (toB (Q21 (oI fun a b => .bl (decide (a <= b))) (oI fun a b => .bl (decide (a <= b))) (mC (.int 1)) (J6 Yw (Q4 (Q3 0) Qa)) (mC (.int 8)))))) (Jx (mC (.bl false))) Y7)
  (Jx (J6 (Q39 fun ns=>.bl (ns.all id)) (Q4 (K2 (Y3 [none,some 0] (Qn 0) (xy (Q3 0)) Jw Q14)) Qa))))
def ye:FN:=Qt Q3t 1
theorem Qcu:FnScope ["thing"] ["thing"] (Q7 qi):=⟨rfl,rfl,rfl,by decide +kernel,rfl,by decide +kernel,by decide +kernel⟩
theorem Qdb {f:aA} {fd:aP} (F:Fun K "is_table" "is_table" qi f fd) (T:Txt mg)  (j:DefS P w K mg base 2 "is_row" 2 Q2h):FnOk P w K mg base (CXD P w) 3 f fd ["thing"] (spF mg 1 ye):=by
 refine J2 (k:=2) (m:=Q3t) F Qcu rfl rfl rfl fun z A outer s H E q=>?_
 exact (Qb (Jz (SimW.t (Q5v (Xr (Vi (Q4y (T := "tuple") (by decide) (Q0 0) rfl T.b_isinstance rfl T.b_tuple V1))) (Q3i (Xr (Qcr Qar Qar Qc (Qw Yp rfl T.b_len bZ (Q1 (Q0 0) Q6)) (Qnp rfl T.c_MOST_HOUSES.choose_spec)))))) (Qd (Qy Q3b)) Za)
  (Qd (Qy (Qw (Q8z rfl) rfl T.b_all Q2d (Q1 (Wh (Y6 [none,some 0] ["row", "thing"] rfl (Xs (Q0 0)) (fun _ _ _ _ _=>(J0 (i:=0) (show (["row", "thing"]:List Str).Nodup by decide +kernel))) (fun _ _ _ _ _=>(Qg j (q.mono (by decide)) K8 rfl (Q1 (Q0 0) (Q1 (Qw Yp rfl T.b_len bZ (Q1 (Q0 1) Q6)) Q6)))) (fun _ _ _ _ _=>Yt) Jh)) Q6)))))
def Q3u:MS:=(Jx (Qi 3 Kt (Q4 (Q3 1) (Q4 (mC (.int 0)) (Q4 (mOp (oI fun a b=>.int (a - b)) (J6 Yw (Q4 (Q3 0) Qa)) (mC (.int 1))) Qa)))))
def Yu:FN:=Qt Q3u 2
theorem Qcv:FnScope ["table", "thing"] ["table", "thing"] (Q7 qj):=⟨rfl,rfl,rfl,by decide +kernel,rfl,by decide +kernel,by decide +kernel⟩
theorem Qdc {f:aA} {fd:aP} (F:Fun K "is_house" "is_house" qj f fd) (T:Txt mg)  (j:DefS P w K mg base 2 "is_between" 3 Kt):FnOk P w K mg base (CXD P w) 3 f fd ["table", "thing"] (spF mg 2 Yu):=by
 refine J2 (k:=2) (m:=Q3u) F Qcv rfl rfl rfl fun z A outer s H E q=>?_
 exact (Qd (Qy (Qg j (q.mono (by decide)) Qe rfl (Q1 (Q0 1) (Q1 Qc (Q1 (Jb zw (Qw Yp rfl T.b_len bZ (Q1 (Q0 0) Q6)) Qc) Q6))))))
def Q3y:ME:=(mOp oIx (Q3 0) (Q3 1))
def Q87 : MS := (Qq (Ys (K6 (toB (Qi 2 Yu (Q4 (Q3 0) (Q4 (Q3 1) Qa))))) (qr "NoHouse" (mC (.str "no house of this table"))) Y7)
  (Qq (Jg 2 (J6 (Vt fun ns=>some (.int ns.sum)) (Q4 (K2 (Y3 [none,some 1] (Qn 0) (xy (Q3 0)) Jw Q3y)) Qa)))
  (Qq (Jg 3 (mOp oIx (Q3 0) (Q3 1)))
  (Qq (Jg 4 (mOp (oI fun a b=>.int (a - b)) (J6 (Vt fun ns=>some (.int ns.sum)) (Q4 (Q3 3) Qa)) (mOp oIx (Q3 3) (Q3 1))))
  (Jx (mOp (oI fun a b=>.int (a - b)) (Q3 2) (Q3 4)))))))
def Xe:FN:=Qt Q87 5
theorem sc_rights:FnScope ["table", "house", "gained", "own", "spent"] ["table", "house"] (Q7 xm):=⟨rfl,rfl,rfl,by decide +kernel,rfl,by decide +kernel,by decide +kernel⟩
theorem Qas {f:aA} {fd:aP} (F:Fun K "rights" "rights" xm f fd) (T:Txt mg) (j:∃ C,mg "NoHouse" = some (.ref C)/\bb K C Xx "ValueError.__new__" = true) (q:DefS P w K mg base 3 "is_house" 2 Yu):FnOk P w K mg base (CXD P w) 4 f fd ["table", "house"] (spF mg 2 Xe):=by
 refine J2 (k:=3) (m:=Q87) F sc_rights rfl rfl rfl fun B A outer s H E z=>?_
 exact (Qb (Jz (Xr (Vi (Qg q (z.mono (by decide)) Qe rfl (Q1 (Q0 0) (Q1 (Q0 1) Q6))))) (Qd (Uc rfl Vn rfl j.choose_spec.1 j.choose_spec.2 J4)) Za)
  (Qb (Qx 2 sc_rights.nd (Qw (Q15 rfl) rfl T.b_sum Kr (Q1 (Wh (Y6 [none,some 1] ["row", "house"] rfl (Xs (Q0 0)) (fun _ _ _ _ _=>(J0 (i:=0) (show (["row", "house"]:List Str).Nodup by decide +kernel))) (fun _ _ _ _ _=>(Qu (Q0 0) (Q0 1))) (fun _ _ _ _ _=>Yt) Jh)) Q6)))
  (Qb (Qx 3 sc_rights.nd (Qu (Q0 0) (Q0 1)))
  (Qb (Qx 4 sc_rights.nd (Jb zw (Qw (Q15 rfl) rfl T.b_sum Kr (Q1 (Q0 3) Q6)) (Qu (Q0 3) (Q0 1))))
  (Qd (Qy (Jb zw (Q0 2) (Q0 4))))))))
def Q5r:ME:=(mOp oIx (Q3 1) (Q3 0))
def Q5q:ME:=(mOp oIx (Q3 0) (Q20 (mC (.int 1))))
def Qc0 : MS := (Qq (Jg 1 (J6 (Vt fun ns => some (.int ns.sum)) (Q4 (K2 (Y3 [none, none] (jb (Y5 (Qn 0) (Y5 (Qn 1) jc))) (Qga (Q4 (Q3 0) Qa)) Jw Q5r)) Qa)))
  (Qq (Jg 2 (J6 (Vt fun ns=>some (.int ns.sum)) (Q4 (K2 (Y3 [none] (Qn 0) (xy (Q3 0)) Jw Q5q)) Qa)))
  (Jx (mOp (oI fun a b=>.int (a - b)) (Q3 1) (Q3 2)))))
def Q4u:FN:=Qt Qc0 3
theorem sc_stock:FnScope ["table", "made", "used"] ["table"] (Q7 Q2p):=⟨rfl,rfl,rfl,by decide +kernel,rfl,by decide +kernel,by decide +kernel⟩
theorem Qkd {f:aA} {fd:aP} (F:Fun K "stock" "stock" Q2p f fd) (T:Txt mg)   : FnOk P w K mg base (CXD P w) 1 f fd ["table"] (spF mg 1 Q4u):=by
 refine J2 (k:=0) (m:=Qc0) F sc_stock rfl rfl rfl fun j A outer s H E q=>?_
 exact (Qb (Qx 1 sc_stock.nd (Qw (Q15 rfl) rfl T.b_sum Kr (Q1 (Wh (Y6 [none,none] ["house", "row"] rfl (Qnj rfl T.b_enumerate (Q1 (Q0 0) Q6)) (fun _ _ _ _ _=>(Q3j rfl (Wg (J0 (i:=0) (show (["house", "row"]:List Str).Nodup by decide +kernel)) (Wg (J0 (i:=1) (show (["house", "row"]:List Str).Nodup by decide +kernel)) Q0e)))) (fun _ _ _ _ _=>(Qu (Q0 1) (Q0 0))) (fun _ _ _ _ _=>Yt) (Q27 (U5 (U5 Q28))))) Q6)))
  (Qb (Qx 2 sc_stock.nd (Qw (Q15 rfl) rfl T.b_sum Kr (Q1 (Wh (Y6 [none] ["row"] rfl (Xs (Q0 0)) (fun _ _ _ _ _=>(J0 (i:=0) (show (["row"]:List Str).Nodup by decide +kernel))) (fun _ _ _ _ _=>(Qu (Q0 0) (jj Qc))) (fun _ _ _ _ _=>Yt) Jh)) Q6)))
  (Qd (Qy (Jb zw (Q0 1) (Q0 2))))))
def U6:MS:=(Ys (toB (mOp oNe (J6 Yw (Q4 (Q3 0) Qa)) (J6 Yw (Q4 (Q3 1) Qa)))) (qr "NoTable" (mC (.str "the tables have unlike numbers of houses"))) Y7)
def Z9:FN:=Qt U6 2
theorem Q0f:FnScope ["one", "other"] ["one", "other"] (Q7 Ya):=⟨rfl,rfl,rfl,by decide +kernel,rfl,by decide +kernel,by decide +kernel⟩
theorem Q0n {f:aA} {fd:aP} (F:Fun K "need_as_many_houses" "need_as_many_houses" Ya f fd) (T:Txt mg) (j:∃ C,mg "NoTable" = some (.ref C)/\bb K C Xx "ValueError.__new__" = true)  : FnOk P w K mg base (CXD P w) 1 f fd ["one", "other"] (spF mg 2 Z9):=by
 refine J2 (k:=0) (m:=U6) F Q0f rfl rfl rfl fun z A outer s H E q=>?_
 exact (Qd (Jz (J8 (Q3c q.units) (Qw Yp rfl T.b_len bZ (Q1 (Q0 0) Q6)) (Qw Yp rfl T.b_len bZ (Q1 (Q0 1) Q6))) (Qd (Uc rfl Vn rfl j.choose_spec.1 j.choose_spec.2 J4)) Za))
def Km:ME:=(mOp (oI fun a b=>.bl (decide (a<=b))) (Q3 0) (Q3 1))
def jm:MS:=(Jx (J6 (Q39 fun ns=>.bl (ns.all id)) (Q4 (K2 (Y3 [none,none] (jb (Y5 (Qn 0) (Y5 (Qn 1) jc))) (Qa6 (Q4 (Q3 0) (Q4 (Q3 1) Qa))) Jw Km)) Qa)))
def Vv:FN:=Qt jm 2
theorem Q50:FnScope ["one", "other"] ["one", "other"] (Q7 Wq):=⟨rfl,rfl,rfl,by decide +kernel,rfl,by decide +kernel,by decide +kernel⟩
theorem Q59 {f:aA} {fd:aP} (F:Fun K "is_row_within" "is_row_within" Wq f fd) (T:Txt mg)   : FnOk P w K mg base (CXD P w) 1 f fd ["one", "other"] (spF mg 2 Vv):=by
 refine J2 (k:=0) (m:=jm) F Q50 rfl rfl rfl fun j A outer s H E q=>?_
 exact (Qd (Qy (Qw (Q8z rfl) rfl T.b_all Q2d (Q1 (Wh (Y6 [none,none] ["mine", "its"] rfl (Q7g rfl T.b_zip (Q1 (Q0 0) (Q1 (Q0 1) Q6))) (fun _ _ _ _ _=>(Q3j rfl (Wg (J0 (i:=0) (show (["mine", "its"]:List Str).Nodup by decide +kernel)) (Wg (J0 (i:=1) (show (["mine", "its"]:List Str).Nodup by decide +kernel)) Q0e)))) (fun _ _ _ _ _=>(qf Qar (Q0 0) (Q0 1))) (fun _ _ _ _ _=>Yt) (Q27 (U5 (U5 Q28))))) Q6))))
def y6:ME:=(J6 Q93 (Q4 (Q3 0) (Q4 (Q3 1) Qa)))
def Q0s:MS:=(Jx (J6 Uj (Q4 (K2 (Y3 [none,none] (jb (Y5 (Qn 0) (Y5 (Qn 1) jc))) (Qa6 (Q4 (Q3 0) (Q4 (Q3 1) Qa))) Jw y6)) Qa)))
def Ks:FN:=Qt Q0s 2
theorem Q9c:FnScope ["one", "other"] ["one", "other"] (Q7 Uq):=⟨rfl,rfl,rfl,by decide +kernel,rfl,by decide +kernel,by decide +kernel⟩
theorem Q9s {f:aA} {fd:aP} (F:Fun K "joined_row" "joined_row" Uq f fd) (T:Txt mg)   : FnOk P w K mg base (CXD P w) 1 f fd ["one", "other"] (spF mg 2 Ks):=by
 refine J2 (k:=0) (m:=Q0s) F Q9c rfl rfl rfl fun j A outer s H E q=>?_
 exact (Qd (Qy (j9 y9 rfl T.b_tuple V1 (Q1 (Wh (Y6 [none,none] ["mine", "its"] rfl (Q7g rfl T.b_zip (Q1 (Q0 0) (Q1 (Q0 1) Q6))) (fun _ _ _ _ _=>(Q3j rfl (Wg (J0 (i:=0) (show (["mine", "its"]:List Str).Nodup by decide +kernel)) (Wg (J0 (i:=1) (show (["mine", "its"]:List Str).Nodup by decide +kernel)) Q0e)))) (fun _ _ _ _ _=>(Qw (Qcd rfl) rfl T.b_max Q4s (Q1 (Q0 0) (Q1 (Q0 1) Q6)))) (fun _ _ _ _ _=>Yt) (Q27 (U5 (U5 Q28))))) Q6))))
def Q3z:ME:=(Qi 2 Ks (Q4 (Q3 0) (Q4 (Q3 1) Qa)))
def Q8a : MS := (Qq (Vh (Qi 2 Z9 (Q4 (Q3 0) (Q4 (Q3 1) Qa))))
  (Jx (J6 Uj (Q4 (K2 (Y3 [none,none] (jb (Y5 (Qn 0) (Y5 (Qn 1) jc))) (Qa6 (Q4 (Q3 0) (Q4 (Q3 1) Qa))) Jw Q3z)) Qa))))
def yd:FN:=Qt Q8a 2
theorem Qh8:FnScope ["one", "other"] ["one", "other"] (Q7 xr):=⟨rfl,rfl,rfl,by decide +kernel,rfl,by decide +kernel,by decide +kernel⟩
theorem Qhp {f:aA} {fd:aP} (F:Fun K "joined" "joined" xr f fd) (T:Txt mg)  (j:DefS P w K mg base 1 "need_as_many_houses" 2 Z9) (q:DefS P w K mg base 1 "joined_row" 2 Ks):FnOk P w K mg base (CXD P w) 2 f fd ["one", "other"] (spF mg 2 yd):=by
 refine J2 (k:=1) (m:=Q8a) F Qh8 rfl rfl rfl fun B A outer s H E z=>?_
 exact (Qb (W1 (Qg j (z.mono (by decide)) Qe rfl (Q1 (Q0 0) (Q1 (Q0 1) Q6))))
  (Qd (Qy (j9 y9 rfl T.b_tuple V1 (Q1 (Wh (Y6 [none,none] ["mine", "its"] rfl (Q7g rfl T.b_zip (Q1 (Q0 0) (Q1 (Q0 1) Q6))) (fun _ _ _ _ _=>(Q3j rfl (Wg (J0 (i:=0) (show (["mine", "its"]:List Str).Nodup by decide +kernel)) (Wg (J0 (i:=1) (show (["mine", "its"]:List Str).Nodup by decide +kernel)) Q0e)))) (fun _ _ _ _ _=>(Qg q (z.mono (by decide)) K8 rfl (Q1 (Q0 0) (Q1 (Q0 1) Q6)))) (fun _ _ _ _ _=>Yt) (Q27 (U5 (U5 Q28))))) Q6)))))
def Vf:ME:=(Qi 1 Vk (Q4 (Q3 0) Qa))
def U7 : MS := (Qq (Ys (Q45 (K6 (toB (Qdp "tuple" (Q3 0)))) (Q45 (toB (mOp oEq (J6 Yw (Q4 (Q3 0) Qa)) (mC (.int 0)))) (K6 (toB (Qdp "str" (mOp oIx (Q3 0) (mC (.int 0)))))))) (Jx (mC (.bl false))) Y7)
  (Jx (J6 (Q39 fun ns=>.bl (ns.all id)) (Q4 (K2 (Y3 [none] (Qn 0) (xy (mSl (Q3 0) (Kc (mC (.int 1))) V6)) Jw Vf)) Qa))))
def Qm:FN:=Qt U7 1
theorem Q0g:FnScope ["thing"] ["thing"] (Q7 Yb):=⟨rfl,rfl,rfl,by decide +kernel,rfl,by decide +kernel,by decide +kernel⟩
theorem Q0p {f:aA} {fd:aP} (F:Fun K "is_text_and_numbers" "is_text_and_numbers" Yb f fd) (T:Txt mg)  (j:DefS P w K mg base 1 "is_whole" 1 Vk):FnOk P w K mg base (CXD P w) 2 f fd ["thing"] (spF mg 1 Qm):=by
 refine J2 (k:=1) (m:=U7) F Q0g rfl rfl rfl fun z A outer s H E q=>?_
 exact (Qb (Jz (SimW.t (Q5v (Xr (Vi (Q4y (T := "tuple") (by decide) (Q0 0) rfl T.b_isinstance rfl T.b_tuple V1))) (Q5v (J8 (Wk q.units) (Qw Yp rfl T.b_len bZ (Q1 (Q0 0) Q6)) Qc) (Q3i (Xr (Vi (Q4y (T := "str") (by decide) (Qu (Q0 0) Qc) rfl T.b_isinstance rfl T.b_str Qmu))))))) (Qd (Qy Q3b)) Za)
  (Qd (Qy (Qw (Q8z rfl) rfl T.b_all Q2d (Q1 (Wh (Y6 [none] ["part"] rfl (Xs (Ud (Q0 0) (Xm Qc) j4)) (fun _ _ _ _ _=>(J0 (i:=0) (show (["part"]:List Str).Nodup by decide +kernel))) (fun _ _ _ _ _=>(Qg j (q.mono (by decide)) K8 rfl (Q1 (Q0 0) Q6))) (fun _ _ _ _ _=>Yt) Jh)) Q6)))))
def X3:MS:=(Jx (Q6h (Qi 1 Qm (Q4 (Q3 0) Qa)) (Q6h (mOp oEq (J6 Yw (Q4 (Q3 0) Qa)) (Qf9 (mOp oIx (Q3 0) (mC (.int 0))))) (mOp (oI fun a b=>.bl (decide (b<=a))) (mOp oIx (Q3 0) (Q20 (mC (.int 1)))) (mC (.int 1))))))
def W9:FN:=Qt X3 1
theorem Qer:FnScope ["thing"] ["thing"] (Q7 zn):=⟨rfl,rfl,rfl,by decide +kernel,rfl,by decide +kernel,by decide +kernel⟩
theorem Qez {f:aA} {fd:aP} (F:Fun K "is_deed" "is_deed" zn f fd) (T:Txt mg) (PK:PartsOk P w K mg)  (j:DefS P w K mg base 2 "is_text_and_numbers" 1 Qm):FnOk P w K mg base (CXD P w) 3 f fd ["thing"] (spF mg 1 W9):=by
 refine J2 (k:=2) (m:=X3) F Qer rfl rfl rfl fun z A outer s H E q=>?_
 exact (Qd (Qy (Q1q (Qg j (q.mono (by decide)) Qe rfl (Q1 (Q0 0) Q6)) (Q1q (qf (Wk q.units) (Qw Yp rfl T.b_len bZ (Q1 (Q0 0) Q6)) (Qjg PK rfl (Qu (Q0 0) Qc))) (Q1p (qf Qr9 (Qu (Q0 0) (jj Qc)) Qc))))))
def W7:ME:=(Qi 2 Yu (Q4 (Q3 1) (Q4 (Q3 0) Qa)))
def Yx : MS := (Qq (Jg 2 (mSl (Q3 1) (Kc (mC (.int 1))) (Kc (Q20 (mC (.int 1))))))
  (Qq (Ys (K6 (toB (J6 (Q39 fun ns=>.bl (ns.all id)) (Q4 (K2 (Y3 [none,some 0] (Qn 0) (xy (Q3 2)) Jw W7)) Qa)))) (qr "NoHouse" (mC (.str "no house of this table"))) Y7)
  (Ys (xj (toB (mOp oEq (mOp oIx (Q3 1) (mC (.int 0))) (mC (.str "lend")))) (toB (mOp oEq (mOp oIx (Q3 2) (mC (.int 0))) (mOp oIx (Q3 2) (mC (.int 1)))))) (qr "NoHouse" (mC (.str "a house lends nothing to itself"))) Y7)))
def Jf:FN:=Qt Yx 3
theorem sc_need_houses_of_deed:FnScope ["table", "deed", "houses"] ["table", "deed"] (Q7 Y9):=⟨rfl,rfl,rfl,by decide +kernel,rfl,by decide +kernel,by decide +kernel⟩
theorem Q0m {f:aA} {fd:aP} (F:Fun K "need_houses_of_deed" "need_houses_of_deed" Y9 f fd) (T:Txt mg) (j:∃ C,mg "NoHouse" = some (.ref C)/\bb K C Xx "ValueError.__new__" = true) (q:DefS P w K mg base 3 "is_house" 2 Yu):FnOk P w K mg base (CXD P w) 4 f fd ["table", "deed"] (spF mg 2 Jf):=by
 refine J2 (k:=3) (m:=Yx) F sc_need_houses_of_deed rfl rfl rfl fun B A outer s H E z=>?_
 exact (Qb (Qx 2 sc_need_houses_of_deed.nd (Ud (Q0 1) (Xm Qc) (Xm (jj Qc))))
  (Qb (Jz (Xr (Vi (Qw (Q8z rfl) rfl T.b_all Q2d (Q1 (Wh (Y6 [none,some 0] ["house", "table"] rfl (Xs (Q0 2)) (fun _ _ _ _ _=>(J0 (i:=0) (show (["house", "table"]:List Str).Nodup by decide +kernel))) (fun _ _ _ _ _=>(Qg q (z.mono (by decide)) K8 rfl (Q1 (Q0 1) (Q1 (Q0 0) Q6)))) (fun _ _ _ _ _=>Yt) Jh)) Q6)))) (Qd (Uc rfl Vn rfl j.choose_spec.1 j.choose_spec.2 J4)) Za)
  (Qd (Jz (SimW.t (Q4x (J8 (Wk z.units) (Qu (Q0 1) Qc) J4) (Q2n (J8 (Wk z.units) (Qu (Q0 2) Qc) (Qu (Q0 2) Qc))))) (Qd (Uc rfl Vn rfl j.choose_spec.1 j.choose_spec.2 J4)) Za))))
def Ug : MS := (Qq (Ys (toB (mOp oEq (mOp oIx (Q3 1) (mC (.int 0))) (mC (.str "make")))) (Jx (mOp oIx (Q3 1) (mC (.int 1)))) Y7)
  (Qq (Ys (toB (mOp oEq (mOp oIx (Q3 1) (mC (.int 0))) (mC (.str "lend")))) (Jx (mOp oIx (Q3 1) (mC (.int 2)))) Y7)
  (Jx (J6 Yw (Q4 (Q3 0) Qa)))))
def Wj:FN:=Qt Ug 2
theorem Q64:FnScope ["table", "deed"] ["table", "deed"] (Q7 V7):=⟨rfl,rfl,rfl,by decide +kernel,rfl,by decide +kernel,by decide +kernel⟩
theorem Q68 {f:aA} {fd:aP} (F:Fun K "place_in_row" "place_in_row" V7 f fd) (T:Txt mg)   : FnOk P w K mg base (CXD P w) 1 f fd ["table", "deed"] (spF mg 2 Wj):=by
 refine J2 (k:=0) (m:=Ug) F Q64 rfl rfl rfl fun q A outer s H E j=>?_
 exact (Qb (Jz (J8 (Wk j.units) (Qu (Q0 1) Qc) J4) (Qd (Qy (Qu (Q0 1) Qc))) Za)
  (Qb (Jz (J8 (Wk j.units) (Qu (Q0 1) Qc) J4) (Qd (Qy (Qu (Q0 1) Qc))) Za)
  (Qd (Qy (Qw Yp rfl T.b_len bZ (Q1 (Q0 0) Q6))))))
def Q88 : MS := (Qq (Jg 4 (mOp oIx (Q3 0) (Q3 1)))
  (Qq (Jg 5 (mOp Wi (mOp Wi (mSl (Q3 4) V6 (Kc (Q3 2))) (Kb (Q4 (mOp Wi (mOp oIx (Q3 4) (Q3 2)) (Q3 3)) Qa))) (mSl (Q3 4) (Kc (mOp Wi (Q3 2) (mC (.int 1)))) V6)))
  (Jx (mOp Wi (mOp Wi (mSl (Q3 0) V6 (Kc (Q3 1))) (Kb (Q4 (Q3 5) Qa))) (mSl (Q3 0) (Kc (mOp Wi (Q3 1) (mC (.int 1)))) V6)))))
def Q2f:FN:=Qt Q88 6
theorem sc_raised:FnScope ["table", "house", "place", "k", "row", "higher"] ["table", "house", "place", "k"] (Q7 xn):=⟨rfl,rfl,rfl,by decide +kernel,rfl,by decide +kernel,by decide +kernel⟩
theorem Qhm {f:aA} {fd:aP} (F:Fun K "raised" "raised" xn f fd) (T:Txt mg)   : FnOk P w K mg base (CXD P w) 1 f fd ["table", "house", "place", "k"] (spF mg 4 Q2f):=by
 refine J2 (k:=0) (m:=Q88) F sc_raised rfl rfl rfl fun j A outer s H E q=>?_
 exact (Qb (Qx 4 sc_raised.nd (Qu (Q0 0) (Q0 1)))
  (Qb (Qx 5 sc_raised.nd (Jb Zb (Jb Zb (Ud (Q0 4) j4 (Xm (Q0 2))) (Vj (Q1 (Jb Zb (Qu (Q0 4) (Q0 2)) (Q0 3)) Q6))) (Ud (Q0 4) (Xm (Jb Zb (Q0 2) Qc)) j4)))
  (Qd (Qy (Jb Zb (Jb Zb (Ud (Q0 0) j4 (Xm (Q0 1))) (Vj (Q1 (Q0 5) Q6))) (Ud (Q0 0) (Xm (Jb Zb (Q0 1) Qc)) j4))))))
def Q8c : MS := (Qq (Ys (K6 (toB (Qi 1 W9 (Q4 (Q3 1) Qa)))) (qr "NoDeed" (mC (.str "neither a making nor a lending nor a using of one right or more"))) Y7)
  (Qq (Vh (Qi 2 Jf (Q4 (Q3 0) (Q4 (Q3 1) Qa))))
  (Qq (Jg 2 (mOp oIx (Q3 1) (mC (.int 1))))
  (Qq (Jg 3 (mOp oIx (Q3 1) (Q20 (mC (.int 1)))))
  (Qq (Ys (toB (mOp oNe (mOp oIx (Q3 1) (mC (.int 0))) (mC (.str "make")))) (Qq (Jg 4 (Qi 2 Xe (Q4 (Q3 0) (Q4 (Q3 2) Qa))))
  (Ys (toB (mOp oLt (Q3 4) (Q3 3))) (Qc1 "Short" "had" (Q3 4)) Y7)) Y7)
  (Jx (Qi 4 Q2f (Q4 (Q3 0) (Q4 (Q3 2) (Q4 (Qi 2 Wj (Q4 (Q3 0) (Q4 (Q3 1) Qa))) (Q4 (Q3 3) Qa)))))))))))
def yf:FN:=Qt Q8c 5
theorem sc_done:FnScope ["table", "deed", "house", "k", "had"] ["table", "deed"] (Q7 Q52):=⟨rfl,rfl,rfl,by decide +kernel,rfl,by decide +kernel,by decide +kernel⟩
theorem Qpt {f:aA} {fd:aP} (F:Fun K "done" "done" Q52 f fd) (T:Txt mg) (J:ShortS P w K mg base) (B:∃ C,mg "NoDeed" = some (.ref C)/\bb K C Xx "ValueError.__new__" = true) (G:DefS P w K mg base 3 "is_deed" 1 W9) (j:DefS P w K mg base 4 "need_houses_of_deed" 2 Jf) (q:DefS P w K mg base 4 "rights_tables" 2 Xe) (I:DefS P w K mg base 1 "raised" 4 Q2f) (z:DefS P w K mg base 1 "place_in_row" 2 Wj):FnOk P w K mg base (CXD P w) 5 f fd ["table", "deed"] (spF mg 2 yf):=by
 obtain ⟨a4,a5,a3,a2,Y,U,O,Z⟩:=J.ex;refine J2 (k:=4) (m:=Q8c) F sc_done rfl rfl rfl fun a6 A outer s H E hr=>?_
 exact (Qb (Jz (Xr (Vi (Qg G (hr.mono (by decide)) Qe rfl (Q1 (Q0 1) Q6)))) (Qd (Uc rfl Vn rfl B.choose_spec.1 B.choose_spec.2 J4)) Za)
  (Qb (W1 (Qg j (hr.mono (by decide)) Qe rfl (Q1 (Q0 0) (Q1 (Q0 1) Q6))))
  (Qb (Qx 2 sc_done.nd (Qu (Q0 1) Qc))
  (Qb (Qx 3 sc_done.nd (Qu (Q0 1) (jj Qc)))
  (Qb (Jz (J8 (Q3c hr.units) (Qu (Q0 1) Qc) J4) (Qb (Qx 4 sc_done.nd (Qg q (hr.mono (by decide)) Qe rfl (Q1 (Q0 0) (Q1 (Q0 2) Q6))))
  (Qd (Jz (J8 (Q1v hr.units) (Q0 4) (Q0 3)) (Qd (Qh3 rfl Vn Y U (hr.mono (by decide)) O rfl Z (Q0 4))) Za))) Za)
  (Qd (Qy (Qg I (hr.mono (by decide)) Qe rfl (Q1 (Q0 0) (Q1 (Q0 2) (Q1 (Qg z (hr.mono (by decide)) Qe rfl (Q1 (Q0 0) (Q1 (Q0 1) Q6))) (Q1 (Q0 3) Q6))))))))))))
def Q1y:MS:=(Jx (mOp (oI fun a b=>.bl (decide (b < a))) (mOp oIx (mOp oIx (Q3 0) (Q3 1)) (Q3 1)) (mC (.int 0))))
def jf:FN:=Qt Q1y 2
theorem Qbn:FnScope ["table", "house"] ["table", "house"] (Q7 Xz):=⟨rfl,rfl,rfl,by decide +kernel,rfl,by decide +kernel,by decide +kernel⟩
theorem Qbv {f:aA} {fd:aP} (F:Fun K "made_some" "made_some" Xz f fd) (T:Txt mg)   : FnOk P w K mg base (CXD P w) 1 f fd ["table", "house"] (spF mg 2 jf):=by
 refine J2 (k:=0) (m:=Q1y) F Qbn rfl rfl rfl fun j A outer s H E q=>?_
 exact (Qd (Qy (qf Q7t (Qu (Qu (Q0 0) (Q0 1)) (Q0 1)) Qc)))
def X6 : MS := (Qq (Jg 2 (mOp oIx (Q3 0) (Q3 1)))
  (Jx (mOp (oI fun a b=>.bl (decide (b < a))) (J6 (Vt fun ns=>some (.int ns.sum)) (Q4 (Q3 2) Qa)) (mOp oIx (Q3 2) (Q3 1)))))
def Wc:FN:=Qt X6 3
theorem sc_lent_or_used_some:FnScope ["table", "house", "row"] ["table", "house"] (Q7 Yv):=⟨rfl,rfl,rfl,by decide +kernel,rfl,by decide +kernel,by decide +kernel⟩
theorem Q1w {f:aA} {fd:aP} (F:Fun K "lent_or_used_some" "lent_or_used_some" Yv f fd) (T:Txt mg)   : FnOk P w K mg base (CXD P w) 1 f fd ["table", "house"] (spF mg 2 Wc):=by
 refine J2 (k:=0) (m:=X6) F sc_lent_or_used_some rfl rfl rfl fun j A outer s H E q=>?_
 exact (Qb (Qx 2 sc_lent_or_used_some.nd (Qu (Q0 0) (Q0 1)))
  (Qd (Qy (qf Q7t (Qw (Q15 rfl) rfl T.b_sum Kr (Q1 (Q0 2) Q6)) (Qu (Q0 2) (Q0 1))))))
def Ki:ME:=(mOp (oI fun a b=>.bl (decide (b < a))) (mOp oIx (mOp oIx (Q3 2) (Q3 0)) (Q3 1)) (mC (.int 0)))
def K4:MT:=(toB (mOp oNe (Q3 0) (Q3 1)))
def jk:MS:=(Jx (J6 (Q39 fun ns=>.bl (ns.any id)) (Q4 (K2 (Y3 [none,some 1,some 0] (Qn 0) (xy (Q3 2)) K4 Ki)) Qa)))
def Vu:FN:=Qt jk 3
theorem Q4z:FnScope ["table", "house", "lenders"] ["table", "house", "lenders"] (Q7 Wn):=⟨rfl,rfl,rfl,by decide +kernel,rfl,by decide +kernel,by decide +kernel⟩
theorem Q57 {f:aA} {fd:aP} (F:Fun K "was_lent_some" "was_lent_some" Wn f fd) (T:Txt mg)   : FnOk P w K mg base (CXD P w) 1 f fd ["table", "house", "lenders"] (spF mg 3 Vu):=by
 refine J2 (k:=0) (m:=jk) F Q4z rfl rfl rfl fun q A outer s H E j=>?_
 exact (Qd (Qy (Qw (Qme rfl) rfl T.b_any Qea (Q1 (Wh (Y6 [none,some 1,some 0] ["lender", "house", "table"] rfl (Xs (Q0 2)) (fun _ _ _ _ _=>(J0 (i:=0) (show (["lender", "house", "table"]:List Str).Nodup by decide +kernel))) (fun _ _ _ _ _=>(qf Q7t (Qu (Qu (Q0 2) (Q0 0)) (Q0 1)) Qc)) (fun _ _ _ _ _=>(Q0b (J8 (Q3c j.units) (Q0 0) (Q0 1)))) Jh)) Q6))))
def Q0u:MS:=(Jx (mOr (Qi 2 jf (Q4 (Q3 0) (Q4 (Q3 1) Qa))) (Qi 3 Vu (Q4 (Q3 0) (Q4 (Q3 1) (Q4 (Q3 2) Qa))))))
def qz:FN:=Qt Q0u 3
theorem Qcw:FnScope ["table", "house", "ahead"] ["table", "house", "ahead"] (Q7 qk):=⟨rfl,rfl,rfl,by decide +kernel,rfl,by decide +kernel,by decide +kernel⟩
theorem Qdd {f:aA} {fd:aP} (F:Fun K "has_root" "has_root" qk f fd) (T:Txt mg)  (q:DefS P w K mg base 1 "made_some" 2 jf) (j:DefS P w K mg base 1 "was_lent_some" 3 Vu):FnOk P w K mg base (CXD P w) 2 f fd ["table", "house", "ahead"] (spF mg 3 qz):=by
 refine J2 (k:=1) (m:=Q0u) F Qcw rfl rfl rfl fun B A outer s H E z=>?_
 exact (Qd (Qy (Qv7 (Qg q (z.mono (by decide)) Qe rfl (Q1 (Q0 0) (Q1 (Q0 1) Q6))) (Q1p (Qg j (z.mono (by decide)) Qe rfl (Q1 (Q0 0) (Q1 (Q0 1) (Q1 (Q0 2) Q6))))))))
def Kk:ME:=(Q3 0)
def U9:MT:=(toB (mOp (oIn true) (Q3 0) (Q3 1)))
def Kj:ME:=(Q3 0)
def K5:MT:=(toB (Qi 3 qz (Q4 (Q3 1) (Q4 (Q3 0) (Q4 (Q3 2) Qa)))))
def Ub : MS := (Qq (Jg 3 (K2 (Y3 [none, some 1] (Qn 0) (Yg (Q4 (J6 Yw (Q4 (Q3 0) Qa)) Qa)) U9 Kk)))
  (Qq (Jg 4 (K2 (Y3 [none,some 0,some 1] (Qn 0) (xy (Q3 3)) K5 Kj)))
  (Qq (Vh (mBM Q1x (Q3 1) (Q4 (Q3 4) Qa)))
  (Jg 2 (mOp (oI fun a b=>.bl (decide (b < a))) (J6 Yw (Q4 (Q3 4) Qa)) (mC (.int 0)))))))
def W4:MT:=(toB (Q3 2))
def Vq : MS := (Qq (Jg 1 (Q1h (yk Qa)))
  (Qq (Jg 2 (mC (.bl true)))
  (Qq (zp W4 Ub 100000)
  (Jx (Q3 1)))))
def Wv:FN:=Qt Vq 5
theorem sc_rooted_houses:FnScope ["table", "roots", "grows", "others", "found"] ["table"] (Q7 Wp):=⟨rfl,rfl,rfl,by decide +kernel,rfl,by decide +kernel,by decide +kernel⟩
theorem Q58 {f:aA} {fd:aP} (F:Fun K "rooted_houses" "rooted_houses" Wp f fd) (T:Txt mg)  (j:DefS P w K mg base 2 "has_root" 3 qz):FnOk P w K mg base (CXD P w) 3 f fd ["table"] (spF mg 1 Wv):=by
 refine J2 (k:=2) (m:=Vq) F sc_rooted_houses rfl rfl rfl fun z A outer s H E q=>?_
 exact (Qb (Qx 1 sc_rooted_houses.nd (ji (Q0d Q6)))
  (Qb (Qx 2 sc_rooted_houses.nd Q3b)
  (Qb (Qjd 100000 PassesOwn.leaving (Vi (Q0 2)) (Qb (by first | exact Q46 [none,some 1] ["house", "roots"] 3 sc_rooted_houses.nd rfl (Y8 rfl T.b_range (Q1 (Qw Yp rfl T.b_len bZ (Q1 (Q0 0) Q6)) Q6)) (fun _ _ _ _ _=>(J0 (i:=0) (show (["house", "roots"]:List Str).Nodup by decide +kernel))) (fun _ _ _ _ _=>(Q0 0)) (fun _ _ _ _ _=>(Q0b (J8 (Q4c q.units) (Q0 0) (Q0 1)))) Jh | exact Qx 3 sc_rooted_houses.nd (Wh (Y6 [none,some 1] ["house", "roots"] rfl (Y8 rfl T.b_range (Q1 (Qw Yp rfl T.b_len bZ (Q1 (Q0 0) Q6)) Q6)) (fun _ _ _ _ _=>(J0 (i:=0) (show (["house", "roots"]:List Str).Nodup by decide +kernel))) (fun _ _ _ _ _=>(Q0 0)) (fun _ _ _ _ _=>(Q0b (J8 (Q4c q.units) (Q0 0) (Q0 1)))) Jh)))
  (Qb (by first | exact Q46 [none,some 0,some 1] ["house", "table", "roots"] 4 sc_rooted_houses.nd rfl (Xs (Q0 3)) (fun _ _ _ _ _=>(J0 (i:=0) (show (["house", "table", "roots"]:List Str).Nodup by decide +kernel))) (fun _ _ _ _ _=>(Q0 0)) (fun _ _ _ _ _=>(Q0b (Vi (Qg j (q.mono (by decide)) K8 rfl (Q1 (Q0 1) (Q1 (Q0 0) (Q1 (Q0 2) Q6))))))) Jh | exact Qx 4 sc_rooted_houses.nd (Wh (Y6 [none,some 0,some 1] ["house", "table", "roots"] rfl (Xs (Q0 3)) (fun _ _ _ _ _=>(J0 (i:=0) (show (["house", "table", "roots"]:List Str).Nodup by decide +kernel))) (fun _ _ _ _ _=>(Q0 0)) (fun _ _ _ _ _=>(Q0b (Vi (Qg j (q.mono (by decide)) K8 rfl (Q1 (Q0 1) (Q1 (Q0 0) (Q1 (Q0 2) Q6))))))) Jh)))
  (Qb (W1 (Qh6 (Q0 1) (Q1 (Q0 4) Q6)))
  (Qd (Qx 2 sc_rooted_houses.nd (qf Q7t (Qw Yp rfl T.b_len bZ (Q1 (Q0 4) Q6)) Qc)))))))
  (Qd (Qy (Q0 1))))))
def X8:ME:=(Q3 0)
def V4:MT:=(toB (mOp (oIn true) (Q3 0) (Q3 1)))
def X7:ME:=(Qi 2 Wc (Q4 (Q3 1) (Q4 (Q3 0) Qa)))
def Ua : MS := (Qq (Jg 1 (Qi 1 Wv (Q4 (Q3 0) Qa)))
  (Qq (Jg 2 (K2 (Y3 [none,some 1] (Qn 0) (Yg (Q4 (J6 Yw (Q4 (Q3 0) Qa)) Qa)) V4 X8)))
  (Qq (Ys (toB (J6 (Q39 fun ns=>.bl (ns.any id)) (Q4 (K2 (Y3 [none,some 0] (Qn 0) (xy (Q3 2)) Jw X7)) Qa))) (Jx (Q3 2)) Y7)
  (Jx (Qa7 Qa)))))
def W8:FN:=Qt Ua 3
theorem sc_rootless_houses:FnScope ["table", "roots", "others"] ["table"] (Q7 W5):=⟨rfl,rfl,rfl,by decide +kernel,rfl,by decide +kernel,by decide +kernel⟩
theorem Q3q {f:aA} {fd:aP} (F:Fun K "rootless_houses" "rootless_houses" W5 f fd) (T:Txt mg)  (q:DefS P w K mg base 3 "rooted_houses" 1 Wv) (j:DefS P w K mg base 1 "lent_or_used_some" 2 Wc):FnOk P w K mg base (CXD P w) 4 f fd ["table"] (spF mg 1 W8):=by
 refine J2 (k:=3) (m:=Ua) F sc_rootless_houses rfl rfl rfl fun B A outer s H E z=>?_
 exact (Qb (Qx 1 sc_rootless_houses.nd (Qg q (z.mono (by decide)) Qe rfl (Q1 (Q0 0) Q6)))
  (Qb (by first | exact Q46 [none,some 1] ["house", "roots"] 2 sc_rootless_houses.nd rfl (Y8 rfl T.b_range (Q1 (Qw Yp rfl T.b_len bZ (Q1 (Q0 0) Q6)) Q6)) (fun _ _ _ _ _=>(J0 (i:=0) (show (["house", "roots"]:List Str).Nodup by decide +kernel))) (fun _ _ _ _ _=>(Q0 0)) (fun _ _ _ _ _=>(Q0b (J8 (Q4c z.units) (Q0 0) (Q0 1)))) Jh | exact Qx 2 sc_rootless_houses.nd (Wh (Y6 [none,some 1] ["house", "roots"] rfl (Y8 rfl T.b_range (Q1 (Qw Yp rfl T.b_len bZ (Q1 (Q0 0) Q6)) Q6)) (fun _ _ _ _ _=>(J0 (i:=0) (show (["house", "roots"]:List Str).Nodup by decide +kernel))) (fun _ _ _ _ _=>(Q0 0)) (fun _ _ _ _ _=>(Q0b (J8 (Q4c z.units) (Q0 0) (Q0 1)))) Jh)))
  (Qb (Jz (Vi (Qw (Qme rfl) rfl T.b_any Qea (Q1 (Wh (Y6 [none,some 0] ["house", "table"] rfl (Xs (Q0 2)) (fun _ _ _ _ _=>(J0 (i:=0) (show (["house", "table"]:List Str).Nodup by decide +kernel))) (fun _ _ _ _ _=>(Qg j (z.mono (by decide)) K8 rfl (Q1 (Q0 1) (Q1 (Q0 0) Q6)))) (fun _ _ _ _ _=>Yt) Jh)) Q6))) (Qd (Qy (Q0 2))) Za)
  (Qd (Qy (Qbm Q6))))))
def Xn:MS:=(Ys (toB (mOp oLt (Qi 2 Xe (Q4 (Q3 0) (Q4 (Q3 1) Qa))) (mC (.int 0)))) (Jx (Kb (Q4 (mC (.str "short")) (Q4 (Q3 1) Qa)))) Y7)
def Xb : MS := (Qq (Q4k (Qn 1) (Yg (Q4 (J6 Yw (Q4 (Q3 0) Qa)) Qa)) Xn)
  (Qq (Jg 2 (Qi 1 W8 (Q4 (Q3 0) Qa)))
  (Qq (Ys (toB (mOp (oI fun a b=>.bl (decide (b < a))) (J6 Yw (Q4 (Q3 2) Qa)) (mC (.int 0)))) (Jx (Kb (Q4 (mC (.str "rootless")) (Q4 (Q3 2) Qa)))) Y7)
  (Jx (Kb (Q4 (mC (.str "comes")) (Q4 (Qi 1 Wv (Q4 (Q3 0) Qa)) Qa)))))))
def Yd:FN:=Qt Xb 3
theorem sc_comes_about:FnScope ["table", "house", "rootless"] ["table"] (Q7 Vx):=⟨rfl,rfl,rfl,by decide +kernel,rfl,by decide +kernel,by decide +kernel⟩
theorem Q7v {f:aA} {fd:aP} (F:Fun K "comes_about" "comes_about" Vx f fd) (T:Txt mg)  (z:DefS P w K mg base 4 "rights_tables" 2 Xe) (j:DefS P w K mg base 4 "rootless_houses" 1 W8) (q:DefS P w K mg base 3 "rooted_houses" 1 Wv):FnOk P w K mg base (CXD P w) 5 f fd ["table"] (spF mg 1 Yd):=by
 refine J2 (k:=4) (m:=Xb) F sc_comes_about rfl rfl rfl fun G A outer s H E B=>?_
 exact (Qb (zr PassesOwn.leaving rfl (Y8 rfl T.b_range (Q1 (Qw Yp rfl T.b_len bZ (Q1 (Q0 0) Q6)) Q6)) (J0 (i:=1) sc_comes_about.nd) (Qd (Jz (J8 (Q1v B.units) (Qg z (B.mono (by decide)) Qe rfl (Q1 (Q0 0) (Q1 (Q0 1) Q6))) Qc) (Qd (Qy (Vj (Q1 J4 (Q1 (Q0 1) Q6))))) Za)))
  (Qb (Qx 2 sc_comes_about.nd (Qg j (B.mono (by decide)) Qe rfl (Q1 (Q0 0) Q6)))
  (Qb (Jz (J8 Q7t (Qw Yp rfl T.b_len bZ (Q1 (Q0 2) Q6)) Qc) (Qd (Qy (Vj (Q1 J4 (Q1 (Q0 2) Q6))))) Za)
  (Qd (Qy (Vj (Q1 J4 (Q1 (Qg q (B.mono (by decide)) Qe rfl (Q1 (Q0 0) Q6)) Q6))))))))
def K9:MS:=(Jx (Q6h (Qi 1 ye (Q4 (Q3 0) Qa)) (mOp oEq (mOp oIx (Qi 1 Yd (Q4 (Q3 0) Qa)) (mC (.int 0))) (mC (.str "comes")))))
def Wz:FN:=Qt K9 1
theorem Q3k:FnScope ["thing"] ["thing"] (Q7 W6):=⟨rfl,rfl,rfl,by decide +kernel,rfl,by decide +kernel,by decide +kernel⟩
theorem Q3r {f:aA} {fd:aP} (F:Fun K "does_come_about" "does_come_about" W6 f fd) (T:Txt mg)  (q:DefS P w K mg base 3 "is_table" 1 ye) (j:DefS P w K mg base 5 "comes_about" 1 Yd):FnOk P w K mg base (CXD P w) 6 f fd ["thing"] (spF mg 1 Wz):=by
 refine J2 (k:=5) (m:=K9) F Q3k rfl rfl rfl fun B A outer s H E z=>?_
 exact (Qd (Qy (Q1q (Qg q (z.mono (by decide)) Qe rfl (Q1 (Q0 0) Q6)) (Q1p (qf (Wk z.units) (Qu (Qg j (z.mono (by decide)) Qe rfl (Q1 (Q0 0) Q6)) Qc) J4)))))
def Xv:MS:=(Ys (K6 (toB (Qi 1 Wz (Q4 (Q3 0) Qa)))) (qr "NoTable" (mC (.str "no table that comes about"))) Y7)
def Yq:FN:=Qt Xv 1
theorem Q33:FnScope ["thing"] ["thing"] (Q7 W0):=⟨rfl,rfl,rfl,by decide +kernel,rfl,by decide +kernel,by decide +kernel⟩
theorem Q37 {f:aA} {fd:aP} (F:Fun K "need_comes_about" "need_comes_about" W0 f fd) (T:Txt mg) (q:∃ C,mg "NoTable" = some (.ref C)/\bb K C Xx "ValueError.__new__" = true) (j:DefS P w K mg base 6 "does_come_about" 1 Wz):FnOk P w K mg base (CXD P w) 7 f fd ["thing"] (spF mg 1 Yq):=by
 refine J2 (k:=6) (m:=Xv) F Q33 rfl rfl rfl fun B A outer s H E z=>?_
 exact (Qd (Jz (Xr (Vi (Qg j (z.mono (by decide)) Qe rfl (Q1 (Q0 0) Q6)))) (Qd (Uc rfl Vn rfl q.choose_spec.1 q.choose_spec.2 J4)) Za))
def qq (C : aA) : MS := (Qq (Vh (Qi 1 Yq (Q4 (Q3 2) Qa)))
  (Qq (Ys (K6 (toB (Qi 2 Yu (Q4 (Q3 2) (Q4 (Q3 1) Qa))))) (qr "NoHouse" (mC (.str "no house of this table"))) Y7)
  (Qq (xz C "number" (Q3 0) (Q3 1))
  (Qq (xz C "now" (Q3 0) (Q3 2))
  (xz C "kept" (Q3 0) (Q3 2))))))
def Wf (C:aA):FN:=Yy (qq C) 3
theorem Q48:FnScope ["self", "number", "table"] ["self", "number", "table"] (Q7 We):=⟨rfl,rfl,rfl,by decide +kernel,rfl,by decide +kernel,by decide +kernel⟩
theorem Q4d {f:aA} {fd:aP} {C:aA} (F:Fun K "__init__" "House.__init__" We f fd) (T:Txt mg) (B:ClsT K C) (q:∃ C,mg "NoHouse" = some (.ref C)/\bb K C Xx "ValueError.__new__" = true) (j:DefS P w K mg base 7 "need_comes_about" 1 Yq) (z:DefS P w K mg base 3 "is_house" 2 Yu):FnOk P w K mg base (CXD P w) 8 f fd ["self", "number", "table"] (spF mg 3 (Wf C)):=by
 refine Wy (k:=7) (m:=(qq C)) F Q48 rfl rfl rfl fun I A outer s H E G=>?_
 exact (Qb (W1 (Qg j (G.mono (by decide)) Qe rfl (Q1 (Q0 2) Q6)))
  (Qb (Jz (Xr (Vi (Qg z (G.mono (by decide)) Qe rfl (Q1 (Q0 2) (Q1 (Q0 1) Q6))))) (Qd (Uc rfl Vn rfl q.choose_spec.1 q.choose_spec.2 J4)) Za)
  (Qb (Q0c B.cl B.n_number (Q0 1) (Q0 0))
  (Qb (Q0c B.cl B.n_now (Q0 2) (Q0 0))
  (Qd (Q0c B.cl B.n_kept (Q0 2) (Q0 0)))))))
def z9 (C:aA):MS:=(xz C "now" (Q3 0) (Qi 2 yf (Q4 (Vr C "now" (Q3 0)) (Q4 (Kb (Q4 (mC (.str "make")) (Q4 (Vr C "number" (Q3 0)) (Q4 (Q3 1) Qa)))) Qa))))
def Kv (C:aA):FN:=Yy (z9 C) 2
theorem Q9h:FnScope ["self", "k"] ["self", "k"] (Q7 Uy):=⟨rfl,rfl,rfl,by decide +kernel,rfl,by decide +kernel,by decide +kernel⟩
theorem Qa0 {f:aA} {fd:aP} {C:aA} (F:Fun K "make" "House.make" Uy f fd) (T:Txt mg) (q:ClsT K C)  (j:DefS P w K mg base 5 "done" 2 yf):FnOk P w K mg base (CXD P w) 6 f fd ["self", "k"] (spF mg 2 (Kv C)):=by
 refine Wy (k:=5) (m:=(z9 C)) F Q9h rfl rfl rfl fun B A outer s H E z=>?_
 exact (Qd (Q0c q.cl q.n_now (Qg j (z.mono (by decide)) Qe rfl (Q1 (V0 q.cl q.n_now (Q0 0)) (Q1 (Vj (Q1 J4 (Q1 (V0 q.cl q.n_number (Q0 0)) (Q1 (Q0 1) Q6)))) Q6))) (Q0 0)))
def zc (C:aA):MS:=(xz C "now" (Q3 0) (Qi 2 yf (Q4 (Vr C "now" (Q3 0)) (Q4 (Kb (Q4 (mC (.str "lend")) (Q4 (Vr C "number" (Q3 0)) (Q4 (Q3 1) (Q4 (Q3 2) Qa))))) Qa))))
def Kw (C:aA):FN:=Yy (zc C) 3
theorem Q9i:FnScope ["self", "to", "k"] ["self", "to", "k"] (Q7 Uz):=⟨rfl,rfl,rfl,by decide +kernel,rfl,by decide +kernel,by decide +kernel⟩
theorem Qa1 {f:aA} {fd:aP} {C:aA} (F:Fun K "lend" "House.lend" Uz f fd) (T:Txt mg) (q:ClsT K C)  (j:DefS P w K mg base 5 "done" 2 yf):FnOk P w K mg base (CXD P w) 6 f fd ["self", "to", "k"] (spF mg 3 (Kw C)):=by
 refine Wy (k:=5) (m:=(zc C)) F Q9i rfl rfl rfl fun B A outer s H E z=>?_
 exact (Qd (Q0c q.cl q.n_now (Qg j (z.mono (by decide)) Qe rfl (Q1 (V0 q.cl q.n_now (Q0 0)) (Q1 (Vj (Q1 J4 (Q1 (V0 q.cl q.n_number (Q0 0)) (Q1 (Q0 1) (Q1 (Q0 2) Q6))))) Q6))) (Q0 0)))
def yj (C:aA):MS:=(xz C "now" (Q3 0) (Qi 2 yf (Q4 (Vr C "now" (Q3 0)) (Q4 (Kb (Q4 (mC (.str "use")) (Q4 (Vr C "number" (Q3 0)) (Q4 (Q3 1) Qa)))) Qa))))
def jg (C:aA):FN:=Yy (yj C) 2
theorem Qbp:FnScope ["self", "k"] ["self", "k"] (Q7 K1):=⟨rfl,rfl,rfl,by decide +kernel,rfl,by decide +kernel,by decide +kernel⟩
theorem Qbx {f:aA} {fd:aP} {C:aA} (F:Fun K "use" "House.use" K1 f fd) (T:Txt mg) (q:ClsT K C)  (j:DefS P w K mg base 5 "done" 2 yf):FnOk P w K mg base (CXD P w) 6 f fd ["self", "k"] (spF mg 2 (jg C)):=by
 refine Wy (k:=5) (m:=(yj C)) F Qbp rfl rfl rfl fun B A outer s H E z=>?_
 exact (Qd (Q0c q.cl q.n_now (Qg j (z.mono (by decide)) Qe rfl (Q1 (V0 q.cl q.n_now (Q0 0)) (Q1 (Vj (Q1 J4 (Q1 (V0 q.cl q.n_number (Q0 0)) (Q1 (Q0 1) Q6)))) Q6))) (Q0 0)))
def ze (C:aA):MS:=(xz C "kept" (Q3 0) (Vr C "now" (Q3 0)))
def Kx (C:aA):FN:=Yy (ze C) 1
theorem Q9j:FnScope ["self"] ["self"] (Q7 X0):=⟨rfl,rfl,rfl,by decide +kernel,rfl,by decide +kernel,by decide +kernel⟩
theorem Qa2 {f:aA} {fd:aP} {C:aA} (F:Fun K "keep" "House.keep" X0 f fd) (T:Txt mg) (j:ClsT K C)   : FnOk P w K mg base (CXD P w) 1 f fd ["self"] (spF mg 1 (Kx C)):=by
 refine Wy (k:=0) (m:=(ze C)) F Q9j rfl rfl rfl fun q A outer s H E z=>?_
 exact (Qd (Q0c j.cl j.n_kept (V0 j.cl j.n_now (Q0 0)) (Q0 0)))
def zf (C:aA):MS:=(xz C "now" (Q3 0) (Vr C "kept" (Q3 0)))
def Ky (C:aA):FN:=Yy (zf C) 1
theorem Q9k:FnScope ["self"] ["self"] (Q7 X1):=⟨rfl,rfl,rfl,by decide +kernel,rfl,by decide +kernel,by decide +kernel⟩
theorem Qa3 {f:aA} {fd:aP} {C:aA} (F:Fun K "fall" "House.fall" X1 f fd) (T:Txt mg) (j:ClsT K C)   : FnOk P w K mg base (CXD P w) 1 f fd ["self"] (spF mg 1 (Ky C)):=by
 refine Wy (k:=0) (m:=(zf C)) F Q9k rfl rfl rfl fun q A outer s H E z=>?_
 exact (Qd (Q0c j.cl j.n_now (V0 j.cl j.n_kept (Q0 0)) (Q0 0)))
def Ka (C:aA):MS:=(Jx (Vr C "kept" (Q3 0)))
def Vg (C:aA):FN:=Qt (Ka C) 1
theorem Q66:FnScope ["self"] ["self"] (Q7 Vd):=⟨rfl,rfl,rfl,by decide +kernel,rfl,by decide +kernel,by decide +kernel⟩
theorem Q6e {f:aA} {fd:aP} {C:aA} (F:Fun K "letter" "House.letter" Vd f fd) (T:Txt mg) (j:ClsT K C)   : FnOk P w K mg base (CXD P w) 1 f fd ["self"] (spF mg 1 (Vg C)):=by
 refine J2 (k:=0) (m:=(Ka C)) F Q66 rfl rfl rfl fun q A outer s H E z=>?_
 exact (Qd (Qy (V0 j.cl j.n_kept (Q0 0))))
def zg (C : aA) : MS := (Qq (Vh (Qi 2 Z9 (Q4 (Vr C "now" (Q3 0)) (Q4 (Q3 1) Qa))))
  (Qq (Ys (K6 (toB (Qi 2 Vv (Q4 (mOp oIx (Q3 1) (Vr C "number" (Q3 0))) (Q4 (mOp oIx (Vr C "now" (Q3 0)) (Vr C "number" (Q3 0))) Qa))))) (qr "NoLetter" (mC (.str "it tells more of this house than the house did"))) Y7)
  (xz C "now" (Q3 0) (Qi 2 yd (Q4 (Vr C "now" (Q3 0)) (Q4 (Q3 1) Qa))))))
def Kz (C:aA):FN:=Yy (zg C) 2
theorem Q9m:FnScope ["self", "table"] ["self", "table"] (Q7 X2):=⟨rfl,rfl,rfl,by decide +kernel,rfl,by decide +kernel,by decide +kernel⟩
theorem Qa4 {f:aA} {fd:aP} {C:aA} (F:Fun K "come" "House.come" X2 f fd) (T:Txt mg) (G:ClsT K C) (z:∃ C,mg "NoLetter" = some (.ref C)/\bb K C Xx "ValueError.__new__" = true) (j:DefS P w K mg base 1 "need_as_many_houses" 2 Z9) (q:DefS P w K mg base 1 "is_row_within" 2 Vv) (B:DefS P w K mg base 2 "joined" 2 yd):FnOk P w K mg base (CXD P w) 3 f fd ["self", "table"] (spF mg 2 (Kz C)):=by
 refine Wy (k:=2) (m:=(zg C)) F Q9m rfl rfl rfl fun J A outer s H E I=>?_
 exact (Qb (W1 (Qg j (I.mono (by decide)) Qe rfl (Q1 (V0 G.cl G.n_now (Q0 0)) (Q1 (Q0 1) Q6))))
  (Qb (Jz (Xr (Vi (Qg q (I.mono (by decide)) Qe rfl (Q1 (Qu (Q0 1) (V0 G.cl G.n_number (Q0 0))) (Q1 (Qu (V0 G.cl G.n_now (Q0 0)) (V0 G.cl G.n_number (Q0 0))) Q6))))) (Qd (Uc rfl Vn rfl z.choose_spec.1 z.choose_spec.2 J4)) Za)
  (Qd (Q0c G.cl G.n_now (Qg B (I.mono (by decide)) Qe rfl (Q1 (V0 G.cl G.n_now (Q0 0)) (Q1 (Q0 1) Q6))) (Q0 0)))))
def j6 (C:aA):MS:=(Jx (Vr C "now" (Q3 0)))
def Xk (C:aA):FN:=Qt (j6 C) 1
theorem Q7j:FnScope ["self"] ["self"] (Q7 U4):=⟨rfl,rfl,rfl,by decide +kernel,rfl,by decide +kernel,by decide +kernel⟩
theorem Q82 {f:aA} {fd:aP} {C:aA} (F:Fun K "table" "House.table" U4 f fd) (T:Txt mg) (j:ClsT K C)   : FnOk P w K mg base (CXD P w) 1 f fd ["self"] (spF mg 1 (Xk C)):=by
 refine J2 (k:=0) (m:=(j6 C)) F Q7j rfl rfl rfl fun q A outer s H E z=>?_
 exact (Qd (Qy (V0 j.cl j.n_now (Q0 0))))
def Q1z (C:aA):MS:=(Jx (Qi 2 Xe (Q4 (Vr C "now" (Q3 0)) (Q4 (Vr C "number" (Q3 0)) Qa))))
def Q2i (C:aA):FN:=Qt (Q1z C) 1
theorem Q65:FnScope ["self"] ["self"] (Q7 Vc):=⟨rfl,rfl,rfl,by decide +kernel,rfl,by decide +kernel,by decide +kernel⟩
theorem Q6d {f:aA} {fd:aP} {C:aA} (F:Fun K "rights" "House.rights" Vc f fd) (T:Txt mg) (q:ClsT K C)  (j:DefS P w K mg base 4 "rights_tables" 2 Xe):FnOk P w K mg base (CXD P w) 5 f fd ["self"] (spF mg 1 (Q2i C)):=by
 refine J2 (k:=4) (m:=(Q1z C)) F Q65 rfl rfl rfl fun B A outer s H E z=>?_
 exact (Qd (Qy (Qg j (z.mono (by decide)) Qe rfl (Q1 (V0 q.cl q.n_now (Q0 0)) (Q1 (V0 q.cl q.n_number (Q0 0)) Q6)))))
def Q4i (C:aA):MS:=(Jx (Kb (Q4 (mOp oIx (mOp oIx (Vr C "kept" (Q3 0)) (Vr C "number" (Q3 0))) (Q20 (mC (.int 1)))) (Q4 (mOp oIx (mOp oIx (Vr C "now" (Q3 0)) (Vr C "number" (Q3 0))) (Q20 (mC (.int 1)))) Qa))))
def Q4v (C:aA):FN:=Qt (Q4i C) 1
theorem Q9g:FnScope ["self"] ["self"] (Q7 Ux):=⟨rfl,rfl,rfl,by decide +kernel,rfl,by decide +kernel,by decide +kernel⟩
theorem Q9z {f:aA} {fd:aP} {C:aA} (F:Fun K "used" "House.used" Ux f fd) (T:Txt mg) (j:ClsT K C)   : FnOk P w K mg base (CXD P w) 1 f fd ["self"] (spF mg 1 (Q4v C)):=by
 refine J2 (k:=0) (m:=(Q4i C)) F Q9g rfl rfl rfl fun q A outer s H E z=>?_
 exact (Qd (Qy (Vj (Q1 (Qu (Qu (V0 j.cl j.n_kept (Q0 0)) (V0 j.cl j.n_number (Q0 0))) (jj Qc)) (Q1 (Qu (Qu (V0 j.cl j.n_now (Q0 0)) (V0 j.cl j.n_number (Q0 0))) (jj Qc)) Q6)))))
def Yf:MS:=(Jx (Q6h (Qi 1 Qm (Q4 (Q3 0) Qa)) (mOp oEq (J6 Yw (Q4 (Q3 0) Qa)) (zh (mOp oIx (Q3 0) (mC (.int 0)))))))
def Jd:FN:=Qt Yf 1
theorem Q51:FnScope ["thing"] ["thing"] (Q7 Wr):=⟨rfl,rfl,rfl,by decide +kernel,rfl,by decide +kernel,by decide +kernel⟩
theorem Q5a {f:aA} {fd:aP} (F:Fun K "is_other_deed" "is_other_deed" Wr f fd) (T:Txt mg) (PO:PartsO P w K mg)  (j:DefS P w K mg base 2 "is_text_and_numbers" 1 Qm):FnOk P w K mg base (CXD P w) 3 f fd ["thing"] (spF mg 1 Jd):=by
 refine J2 (k:=2) (m:=Yf) F Q51 rfl rfl rfl fun z A outer s H E q=>?_
 exact (Qd (Qy (Q1q (Qg j (q.mono (by decide)) Qe rfl (Q1 (Q0 0) Q6)) (Q1p (qf (Wk q.units) (Qw Yp rfl T.b_len bZ (Q1 (Q0 0) Q6)) (Qh5 PO rfl (Qu (Q0 0) Qc)))))))
def Yn:MS:=(Ys (toB (Qi 1 W9 (Q4 (Q3 2) Qa))) (Vh (Qi 2 Jf (Q4 (Q3 0) (Q4 (Q3 2) Qa)))) (Ys (K6 (toB (Qi 1 Jd (Q4 (Q3 2) Qa)))) (qr "NoDeed" (mC (.str "a deed of no kind that runs have"))) (Ys (K6 (toB (Qi 2 Yu (Q4 (Q3 0) (Q4 (mOp oIx (Q3 2) (Q20 (mC (.int 1)))) Qa))))) (qr "NoHouse" (mC (.str "no house of this run"))) (Ys (xj (toB (mOp oEq (mOp oIx (Q3 2) (mC (.int 0))) (mC (.str "come")))) (K6 (toB (Q21 (oI fun a b=>.bl (decide (a<=b))) oLt (mC (.int 0)) (mOp oIx (Q3 2) (mC (.int 1))) (J6 Yw (Q4 (Q3 1) Qa)))))) (qr "NoLetter" (mC (.str "no letter of this number is put by so far"))) Y7))))
def Jj:FN:=Qt Yn 3
theorem Q32:FnScope ["table", "letters", "deed"] ["table", "letters", "deed"] (Q7 Yz):=⟨rfl,rfl,rfl,by decide +kernel,rfl,by decide +kernel,by decide +kernel⟩
theorem Q36 {f:aA} {fd:aP} (F:Fun K "need_deed_of_run" "need_deed_of_run" Yz f fd) (T:Txt mg) (G:∃ C,mg "NoDeed" = some (.ref C)/\bb K C Xx "ValueError.__new__" = true) (B:∃ C,mg "NoHouse" = some (.ref C)/\bb K C Xx "ValueError.__new__" = true) (z:∃ C,mg "NoLetter" = some (.ref C)/\bb K C Xx "ValueError.__new__" = true) (J:DefS P w K mg base 3 "is_deed" 1 W9) (j:DefS P w K mg base 4 "need_houses_of_deed" 2 Jf) (q:DefS P w K mg base 3 "is_other_deed" 1 Jd) (I:DefS P w K mg base 3 "is_house" 2 Yu):FnOk P w K mg base (CXD P w) 5 f fd ["table", "letters", "deed"] (spF mg 3 Jj):=by
 refine J2 (k:=4) (m:=Yn) F Q32 rfl rfl rfl fun U A outer s H E O=>?_
 exact (Qd (Jz (Vi (Qg J (O.mono (by decide)) Qe rfl (Q1 (Q0 2) Q6))) (Qd (W1 (Qg j (O.mono (by decide)) Qe rfl (Q1 (Q0 0) (Q1 (Q0 2) Q6))))) (Qd (Jz (Xr (Vi (Qg q (O.mono (by decide)) Qe rfl (Q1 (Q0 2) Q6)))) (Qd (Uc rfl Vn rfl G.choose_spec.1 G.choose_spec.2 J4)) (Qd (Jz (Xr (Vi (Qg I (O.mono (by decide)) Qe rfl (Q1 (Q0 0) (Q1 (Qu (Q0 2) (jj Qc)) Q6))))) (Qd (Uc rfl Vn rfl B.choose_spec.1 B.choose_spec.2 J4)) (Qd (Jz (SimW.t (Q4x (J8 (Wk O.units) (Qu (Q0 2) Qc) J4) (Q2n (Xr (Qcr Qar (Q1v O.units) Qc (Qu (Q0 2) Qc) (Qw Yp rfl T.b_len bZ (Q1 (Q0 1) Q6))))))) (Qd (Uc rfl Vn rfl z.choose_spec.1 z.choose_spec.2 J4)) Za))))))))
def yu (C : aA) : MS := (Qq (Jg 2 (mOp oIx (Q3 0) (mOp oIx (Q3 1) (mC (.int 1)))))
  (Ys (toB (mOp oEq (mOp oIx (Q3 1) (mC (.int 0))) (mC (.str "make")))) (Vh (Q00 C "make" 2 (Kv C) (Q3 2) (Q4 (mOp oIx (Q3 1) (mC (.int 2))) Qa))) (Ys (toB (mOp oEq (mOp oIx (Q3 1) (mC (.int 0))) (mC (.str "lend")))) (Vh (Q00 C "lend" 3 (Kw C) (Q3 2) (Q4 (mOp oIx (Q3 1) (mC (.int 2))) (Q4 (mOp oIx (Q3 1) (mC (.int 3))) Qa)))) (Vh (Q00 C "use" 2 (jg C) (Q3 2) (Q4 (mOp oIx (Q3 1) (mC (.int 2))) Qa))))))
def V3 (C:aA):FN:=Yy (yu C) 3
theorem sc_do_own_deed:FnScope ["houses", "deed", "house"] ["houses", "deed"] (Q7 Vw):=⟨rfl,rfl,rfl,by decide +kernel,rfl,by decide +kernel,by decide +kernel⟩
theorem Q7u {f:aA} {fd:aP} {C:aA} (F:Fun K "do_own_deed" "do_own_deed" Vw f fd) (T:Txt mg) (G:ClsT K C)   (j:MethS P w K mg base 6 C "make" 2 (Kv C)) (q:MethS P w K mg base 6 C "lend" 3 (Kw C)) (z:MethS P w K mg base 6 C "use" 2 (jg C)):FnOk P w K mg base (CXD P w) 7 f fd ["houses", "deed"] (spF mg 2 (V3 C)):=by
 refine Wy (k:=6) (m:=(yu C)) F sc_do_own_deed rfl rfl rfl fun I A outer s H E B=>?_
 exact (Qb (Qx 2 sc_do_own_deed.nd (Qu (Q0 0) (Qu (Q0 1) Qc)))
  (Qd (Jz (J8 (Wk B.units) (Qu (Q0 1) Qc) J4) (Qd (W1 (Q6q G.cl j (B.mono (by decide)) Qe (Q0 2) (Q1 (Qu (Q0 1) Qc) Q6)))) (Qd (Jz (J8 (Wk B.units) (Qu (Q0 1) Qc) J4) (Qd (W1 (Q6q G.cl q (B.mono (by decide)) Qe (Q0 2) (Q1 (Qu (Q0 1) Qc) (Q1 (Qu (Q0 1) Qc) Q6))))) (Qd (W1 (Q6q G.cl z (B.mono (by decide)) Qe (Q0 2) (Q1 (Qu (Q0 1) Qc) Q6)))))))))
def Wu (C : aA) : MS := (Qq (Jg 3 (mOp oIx (Q3 0) (mOp oIx (Q3 2) (Q20 (mC (.int 1))))))
  (Ys (toB (mOp oEq (mOp oIx (Q3 2) (mC (.int 0))) (mC (.str "keep")))) (Vh (Q00 C "keep" 1 (Kx C) (Q3 3) Qa)) (Ys (toB (mOp oEq (mOp oIx (Q3 2) (mC (.int 0))) (mC (.str "fall")))) (Vh (Q00 C "fall" 1 (Ky C) (Q3 3) Qa)) (Ys (toB (mOp oEq (mOp oIx (Q3 2) (mC (.int 0))) (mC (.str "send")))) (Vh (mBM Vp (Q3 1) (Q4 (Q00 C "letter" 1 (Vg C) (Q3 3) Qa) Qa))) (Vh (Q00 C "come" 2 (Kz C) (Q3 3) (Q4 (mOp oIx (Q3 1) (mOp oIx (Q3 2) (mC (.int 1)))) Qa)))))))
def Xq (C:aA):FN:=Yy (Wu C) 4
theorem sc_do_other_deed:FnScope ["houses", "letters", "deed", "house"] ["houses", "letters", "deed"] (Q7 Ws):=⟨rfl,rfl,rfl,by decide +kernel,rfl,by decide +kernel,by decide +kernel⟩
theorem Q5b {f:aA} {fd:aP} {C:aA} (F:Fun K "do_other_deed" "do_other_deed" Ws f fd) (T:Txt mg) (I:ClsT K C)   (B:MethS P w K mg base 1 C "keep" 1 (Kx C)) (z:MethS P w K mg base 1 C "fall" 1 (Ky C)) (j:MethS P w K mg base 1 C "letter" 1 (Vg C)) (q:MethS P w K mg base 3 C "come" 2 (Kz C)):FnOk P w K mg base (CXD P w) 4 f fd ["houses", "letters", "deed"] (spF mg 3 (Xq C)):=by
 refine Wy (k:=3) (m:=(Wu C)) F sc_do_other_deed rfl rfl rfl fun J A outer s H E G=>?_
 exact (Qb (Qx 3 sc_do_other_deed.nd (Qu (Q0 0) (Qu (Q0 2) (jj Qc))))
  (Qd (Jz (J8 (Wk G.units) (Qu (Q0 2) Qc) J4) (Qd (W1 (Q47 I.cl B (G.mono (by decide)) Qe (Q0 3)))) (Qd (Jz (J8 (Wk G.units) (Qu (Q0 2) Qc) J4) (Qd (W1 (Q47 I.cl z (G.mono (by decide)) Qe (Q0 3)))) (Qd (Jz (J8 (Wk G.units) (Qu (Q0 2) Qc) J4) (Qd (W1 (zm (Q0 1) (Q1 (Q47 I.cl j (G.mono (by decide)) Qe (Q0 3)) Q6)))) (Qd (W1 (Q6q I.cl q (G.mono (by decide)) Qe (Q0 3) (Q1 (Qu (Q0 1) (Qu (Q0 2) Qc)) Q6)))))))))))
def ja (C : aA) : MS := (Qq (Ys (toB (Qi 1 Jd (Q4 (Q3 2) Qa))) (Qq (Vh (Qi 3 (Xq C) (Q4 (Q3 0) (Q4 (Q3 1) (Q4 (Q3 2) Qa)))))
  (Jx (mC (.str "done")))) Y7)
  (Qq (Qdk "Short" "had" 3 2 (V3 C) (Q4 (Q3 0) (Q4 (Q3 2) Qa)))
  (Jx (mC (.str "done")))))
def yr (C:aA):FN:=Yy (ja C) 4
theorem sc_answer_to:FnScope ["houses", "letters", "deed", "refusal"] ["houses", "letters", "deed"] (Q7 K0):=⟨rfl,rfl,rfl,by decide +kernel,rfl,by decide +kernel,by decide +kernel⟩
theorem Qbw {f:aA} {fd:aP} {C:aA} (F:Fun K "answer_to" "answer_to" K0 f fd) (T:Txt mg) (Y:ClsT K C) (G:∃ C,mg "Short" = some (.ref C)/\dF K (.ref C) (.ref C)=some true/\XGet K C "had")  (j:DefS P w K mg base 3 "is_other_deed" 1 Jd) (q:DefS P w K mg base 4 "do_other_deed" 3 (Xq C)) (z:DefS P w K mg base 7 "do_own_deed" 2 (V3 C)):FnOk P w K mg base (CXD P w) 8 f fd ["houses", "letters", "deed"] (spF mg 3 (yr C)):=by
 obtain ⟨Z,J,I,O⟩:=G;refine Wy (k:=7) (m:=(ja C)) F sc_answer_to rfl rfl rfl fun U A outer s H E B=>?_
 exact (Qb (Jz (Vi (Qg j (B.mono (by decide)) Qe rfl (Q1 (Q0 2) Q6))) (Qb (W1 (Qg q (B.mono (by decide)) Qe rfl (Q1 (Q0 0) (Q1 (Q0 1) (Q1 (Q0 2) Q6)))))
  (Qd (Qy J4))) Za)
  (Qb (Qnf z (B.mono (by decide)) (Q1 (Q0 0) (Q1 (Q0 2) Q6)) sc_answer_to.nd J I O)
  (Qd (Qy J4))))
def Q13 (C:aA):ME:=(Qrd C 3 (Wf C) (Q4 (Q3 0) (Q4 (Q3 1) Qa)))
def Q41 (C : aA) : MS := (Qq (Vh (Qi 3 Jj (Q4 (Q3 0) (Q4 (Q3 3) (Q4 (Q3 5) Qa)))))
  (Vh (mBM Vp (Q3 4) (Q4 (Qi 3 (yr C) (Q4 (Q3 2) (Q4 (Q3 3) (Q4 (Q3 5) Qa)))) Qa))))
def Q8y (C:aA):ME:=(Q00 C "table" 1 (Xk C) (Q3 0) Qa)
def Q89 (C : aA) : MS := (Qq (Vh (Qi 1 Yq (Q4 (Q3 0) Qa)))
  (Qq (Jg 2 (K2 (Y3 [none,some 0] (Qn 0) (Yg (Q4 (J6 Yw (Q4 (Q3 0) Qa)) Qa)) Jw (Q13 C))))
  (Qq (Jg 3 (Q1h (yk Qa)))
  (Qq (Jg 4 (Q1h (yk Qa)))
  (Qq (Q4k (Qn 5) (xy (Q3 1)) (Q41 C))
  (Jx (Kb (Q4 (Q3 4) (Q4 (Q1h (Y3 [none] (Qn 0) (xy (Q3 2)) Jw (Q8y C))) Qa)))))))))
def Q2g (C:aA):FN:=Yy (Q89 C) 6
theorem sc_played:FnScope ["table", "deeds", "houses", "letters", "answers", "deed"] ["table", "deeds"] (Q7 xq):=⟨rfl,rfl,rfl,by decide +kernel,rfl,by decide +kernel,by decide +kernel⟩
theorem Qhn {f:aA} {fd:aP} {C:aA} (F:Fun K "played" "played" xq f fd) (T:Txt mg) (J:ClsT K C)  (j:DefS P w K mg base 7 "need_comes_about" 1 Yq) (q:DefS P w K mg base 5 "need_deed_of_run" 3 Jj) (B:DefS P w K mg base 8 "answer_to" 3 (yr C)) (G:MakeS P w K mg base 8 C "House" 3 (Wf C)) (z:MethS P w K mg base 1 C "table" 1 (Xk C)):FnOk P w K mg base (CXD P w) 10 f fd ["table", "deeds"] (spF mg 2 (Q2g C)):=by
 refine Wy (k:=9) (m:=(Q89 C)) F sc_played rfl rfl rfl fun O A outer s H E I=>?_
 exact (Qb (W1 (Qg j (I.mono (by decide)) Qe rfl (Q1 (Q0 0) Q6)))
  (Qb (by first | exact Q46 [none,some 0] ["number", "table"] 2 sc_played.nd rfl (Y8 rfl T.b_range (Q1 (Qw Yp rfl T.b_len bZ (Q1 (Q0 0) Q6)) Q6)) (fun _ _ _ _ _=>(J0 (i:=0) (show (["number", "table"]:List Str).Nodup by decide +kernel))) (fun _ _ _ _ _=>(Qfv G (I.mono (by decide)) K8 rfl (Q1 (Q0 0) (Q1 (Q0 1) Q6)))) (fun _ _ _ _ _=>Yt) Jh | exact Qx 2 sc_played.nd (Wh (Y6 [none,some 0] ["number", "table"] rfl (Y8 rfl T.b_range (Q1 (Qw Yp rfl T.b_len bZ (Q1 (Q0 0) Q6)) Q6)) (fun _ _ _ _ _=>(J0 (i:=0) (show (["number", "table"]:List Str).Nodup by decide +kernel))) (fun _ _ _ _ _=>(Qfv G (I.mono (by decide)) K8 rfl (Q1 (Q0 0) (Q1 (Q0 1) Q6)))) (fun _ _ _ _ _=>Yt) Jh)))
  (Qb (Qx 3 sc_played.nd (ji (Q0d Q6)))
  (Qb (Qx 4 sc_played.nd (ji (Q0d Q6)))
  (Qb (zr PassesOwn.leaving rfl (Xs (Q0 1)) (J0 (i:=5) sc_played.nd) (Qb (W1 (Qg q (I.mono (by decide)) Qe rfl (Q1 (Q0 0) (Q1 (Q0 3) (Q1 (Q0 5) Q6)))))
  (Qd (W1 (zm (Q0 4) (Q1 (Qg B (I.mono (by decide)) Qe rfl (Q1 (Q0 2) (Q1 (Q0 3) (Q1 (Q0 5) Q6)))) Q6))))))
  (Qd (Qy (Vj (Q1 (Q0 4) (Q1 (ji (Y6 [none] ["house"] rfl (Xs (Q0 2)) (fun _ _ _ _ _=>(J0 (i:=0) (show (["house"]:List Str).Nodup by decide +kernel))) (fun _ _ _ _ _=>(Q47 J.cl z (I.mono (by decide)) K8 (Q0 0))) (fun _ _ _ _ _=>Yt) Jh)) Q6))))))))))
def z8 : MS := (Qq (Ys (toB (mOp oLt (Q3 1) (J6 Yw (Q4 (Q3 0) Qa)))) (Jx (mOp oIx (Q3 0) (Q3 1))) Y7)
  (Jx (mC (.int 0))))
def X4:FN:=Qt z8 2
theorem Q9e:FnScope ["script", "k"] ["script", "k"] (Q7 Uv):=⟨rfl,rfl,rfl,by decide +kernel,rfl,by decide +kernel,by decide +kernel⟩
theorem Q9x {f:aA} {fd:aP} (F:Fun K "_law_acell" "_law_acell" Uv f fd) (T:Txt mg)   : FnOk P w K mg base (CXD P w) 1 f fd ["script", "k"] (spF mg 2 X4):=by
 refine J2 (k:=0) (m:=z8) F Q9e rfl rfl rfl fun q A outer s H E j=>?_
 exact (Qb (Jz (J8 (Q1v j.units) (Q0 1) (Qw Yp rfl T.b_len bZ (Q1 (Q0 0) Q6))) (Qd (Qy (Qu (Q0 0) (Q0 1)))) Za)
  (Qd (Qy Qc)))
def yc : MS := (Qq (Jg 4 (mOp Wi (mOp Q6f (Q3 4) (Q3 3)) (Q3 5)))
  (Jg 5 (mOp Q38 (mOp Wi (mOp Wi (mOp Q6f (Q3 5) (Q3 5)) (mOp Q6f (mC (.int 40692)) (Q3 1))) (Q3 6)) (Q3 3))))
def jy : MS := (Qq (Jg 2 (Qi 2 X4 (Q4 (Q3 0) (Q4 (Q3 1) Qa))))
  (Qq (Ys (toB (mOp oEq (mOp Q38 (Q3 2) (mC (.int 2))) (mC (.int 0)))) (Jx (Q1h (yk (Q4 (mOp Qpv (Q3 2) (mC (.int 2))) Qa)))) Y7)
  (Qq (Jg 3 (mC (.int 2305843009213693951)))
  (Qq (Jg 4 (mC (.int 0)))
  (Qq (Jg 5 (mOp Q38 (mOp Wi (mOp Wi (mOp Q6f (mOp Q38 (Q3 2) (Q3 3)) (mC (.int 48271))) (mOp Q6f (mC (.int 69621)) (Q3 1))) (mC (.int 11))) (Q3 3)))
  (Qq (Q4k (Qn 6) (Yg (Q4 (mC (.int 5)) Qa)) yc)
  (Jx (Q1h (yk (Q4 (Q3 4) Qa))))))))))
def Wd:FN:=Yy jy 7
theorem sc__law_atape:FnScope ["script", "k", "cell", "p", "number", "last", "turn"] ["script", "k"] (Q7 Us):=⟨rfl,rfl,rfl,by decide +kernel,rfl,by decide +kernel,by decide +kernel⟩
theorem Q9u {f:aA} {fd:aP} (F:Fun K "_law_atape" "_law_atape" Us f fd) (T:Txt mg)  (j:DefS P w K mg base 1 "_law_acell" 2 X4):FnOk P w K mg base (CXD P w) 2 f fd ["script", "k"] (spF mg 2 Wd):=by
 refine Wy (k:=1) (m:=jy) F sc__law_atape rfl rfl rfl fun z A outer s H E q=>?_
 exact (Qb (Qx 2 sc__law_atape.nd (Qg j (q.mono (by decide)) Qe rfl (Q1 (Q0 0) (Q1 (Q0 1) Q6))))
  (Qb (Jz (J8 (Wk q.units) (Jb Q0k (Q0 2) Qc) Qc) (Qd (Qy (ji (Q0d (Q1 (Jb Qsw (Q0 2) Qc) Q6))))) Za)
  (Qb (Qx 3 sc__law_atape.nd Qc)
  (Qb (Qx 4 sc__law_atape.nd Qc)
  (Qb (Qx 5 sc__law_atape.nd (Jb Q0k (Jb Zb (Jb Zb (Jb Q56 (Jb Q0k (Q0 2) (Q0 3)) Qc) (Jb Q56 Qc (Q0 1))) Qc) (Q0 3)))
  (Qb (zr PassesOwn.leaving rfl (Y8 rfl T.b_range (Q1 Qc Q6)) (J0 (i:=6) sc__law_atape.nd) (Qb (Qx 4 sc__law_atape.nd (Jb Zb (Jb Q56 (Q0 4) (Q0 3)) (Q0 5)))
  (Qd (Qx 5 sc__law_atape.nd (Jb Q0k (Jb Zb (Jb Zb (Jb Q56 (Q0 5) (Q0 5)) (Jb Q56 Qc (Q0 1))) (Q0 6)) (Q0 3))))))
  (Qd (Qy (ji (Q0d (Q1 (Q0 4) Q6)))))))))))
def x9 : MS := (Qq (Jg 2 (mOp Q38 (mOp oIx (Q3 0) (mC (.int 0))) (Q3 1)))
  (Qq (Q0w (Q3 0) (mC (.int 0)) (mOp Qg6 (mOp oIx (Q3 0) (mC (.int 0))) (Q3 1)))
  (Jx (Q3 2))))
def Qj:FN:=Qt x9 3
theorem sc__law_adigit:FnScope ["tape", "many", "found"] ["tape", "many"] (Q7 U2):=⟨rfl,rfl,rfl,by decide +kernel,rfl,by decide +kernel,by decide +kernel⟩
theorem Q80 {f:aA} {fd:aP} (F:Fun K "_law_adigit" "_law_adigit" U2 f fd) (T:Txt mg)   : FnOk P w K mg base (CXD P w) 1 f fd ["tape", "many"] (spF mg 2 Qj):=by
 refine J2 (k:=0) (m:=x9) F sc__law_adigit rfl rfl rfl fun j A outer s H E q=>?_
 exact (Qb (Qx 2 sc__law_adigit.nd (Jb Q0k (Qu (Q0 0) Qc) (Q0 1)))
  (Qb (Q7b (Jb Qpm (Qu (Q0 0) Qc) (Q0 1)) (Q0 0) Qc)
  (Qd (Qy (Q0 2)))))
def Q04:ME:=(mOp oIx (mOp oIx (Q3 2) (Q3 0)) (Q3 1))
def Q03:ME:=(Q3 0)
def zx : MS := (Qq (Jg 2 (J6 (Vt fun ns => some (.int ns.sum)) (Q4 (K2 (Y3 [none, some 1, some 0] (Qn 0) (Yg (Q4 (J6 Yw (Q4 (Q3 0) Qa)) Qa)) Jw Q04)) Qa)))
  (Jx (mOp Wi (mOp (oI fun a b=>.int (a - b)) (Q3 2) (J6 (Vt fun ns=>some (.int ns.sum)) (Q4 (K2 (Y3 [none] (Qn 0) (xy (mOp oIx (Q3 0) (Q3 1))) Jw Q03)) Qa))) (mOp oIx (mOp oIx (Q3 0) (Q3 1)) (Q3 1)))))
def Ji:FN:=Qt zx 3
theorem sc__law_arights:FnScope ["table", "i", "lent"] ["table", "i"] (Q7 V8):=⟨rfl,rfl,rfl,by decide +kernel,rfl,by decide +kernel,by decide +kernel⟩
theorem Q69 {f:aA} {fd:aP} (F:Fun K "_law_arights" "_law_arights" V8 f fd) (T:Txt mg)   : FnOk P w K mg base (CXD P w) 1 f fd ["table", "i"] (spF mg 2 Ji):=by
 refine J2 (k:=0) (m:=zx) F sc__law_arights rfl rfl rfl fun j A outer s H E q=>?_
 exact (Qb (Qx 2 sc__law_arights.nd (Qw (Q15 rfl) rfl T.b_sum Kr (Q1 (Wh (Y6 [none,some 1,some 0] ["j", "i", "table"] rfl (Y8 rfl T.b_range (Q1 (Qw Yp rfl T.b_len bZ (Q1 (Q0 0) Q6)) Q6)) (fun _ _ _ _ _=>(J0 (i:=0) (show (["j", "i", "table"]:List Str).Nodup by decide +kernel))) (fun _ _ _ _ _=>(Qu (Qu (Q0 2) (Q0 0)) (Q0 1))) (fun _ _ _ _ _=>Yt) Jh)) Q6)))
  (Qd (Qy (Jb Zb (Jb zw (Q0 2) (Qw (Q15 rfl) rfl T.b_sum Kr (Q1 (Wh (Y6 [none] ["number"] rfl (Xs (Qu (Q0 0) (Q0 1))) (fun _ _ _ _ _=>(J0 (i:=0) (show (["number"]:List Str).Nodup by decide +kernel))) (fun _ _ _ _ _=>(Q0 0)) (fun _ _ _ _ _=>Yt) Jh)) Q6))) (Qu (Qu (Q0 0) (Q0 1)) (Q0 1))))))
def y8:ME:=(J6 Uj (Q4 (mOp Q6f (Qa7 (Q4 (mC (.int 0)) Qa)) (mOp Wi (Q3 1) (mC (.int 1)))) Qa))
def Q0v:MS:=(Jx (J6 Uj (Q4 (K2 (Y3 [none,some 0] (Qn 0) (Yg (Q4 (Q3 0) Qa)) Jw y8)) Qa)))
def zk:FN:=Qt Q0v 1
theorem Q9f:FnScope ["size"] ["size"] (Q7 Uw):=⟨rfl,rfl,rfl,by decide +kernel,rfl,by decide +kernel,by decide +kernel⟩
theorem Q9y {f:aA} {fd:aP} (F:Fun K "_law_abare" "_law_abare" Uw f fd) (T:Txt mg)   : FnOk P w K mg base (CXD P w) 1 f fd ["size"] (spF mg 1 zk):=by
 refine J2 (k:=0) (m:=Q0v) F Q9f rfl rfl rfl fun j A outer s H E q=>?_
 exact (Qd (Qy (j9 y9 rfl T.b_tuple V1 (Q1 (Wh (Y6 [none,some 0] ["i", "size"] rfl (Y8 rfl T.b_range (Q1 (Q0 0) Q6)) (fun _ _ _ _ _=>(J0 (i:=0) (show (["i", "size"]:List Str).Nodup by decide +kernel))) (fun _ _ _ _ _=>(j9 y9 rfl T.b_tuple V1 (Q1 (Jb Q56 (Qbm (Q1 Qc Q6)) (Jb Zb (Q0 1) Qc)) Q6))) (fun _ _ _ _ _=>Yt) Jh)) Q6))))
def zy : MS := (Qq (Jg 4 (mOp Wi (mOp Wi (mSl (mOp oIx (Q3 0) (Q3 1)) V6 (Kc (Q3 2))) (Kb (Q4 (mOp Wi (mOp oIx (mOp oIx (Q3 0) (Q3 1)) (Q3 2)) (Q3 3)) Qa))) (mSl (mOp oIx (Q3 0) (Q3 1)) (Kc (mOp Wi (Q3 2) (mC (.int 1)))) V6)))
  (Jx (mOp Wi (mOp Wi (mSl (Q3 0) V6 (Kc (Q3 1))) (Kb (Q4 (Q3 4) Qa))) (mSl (Q3 0) (Kc (mOp Wi (Q3 1) (mC (.int 1)))) V6))))
def Ye:FN:=Qt zy 5
theorem sc__law_araised:FnScope ["table", "i", "at", "k", "row"] ["table", "i", "at", "k"] (Q7 V9):=⟨rfl,rfl,rfl,by decide +kernel,rfl,by decide +kernel,by decide +kernel⟩
theorem Q6a {f:aA} {fd:aP} (F:Fun K "_law_araised" "_law_araised" V9 f fd) (T:Txt mg)   : FnOk P w K mg base (CXD P w) 1 f fd ["table", "i", "at", "k"] (spF mg 4 Ye):=by
 refine J2 (k:=0) (m:=zy) F sc__law_araised rfl rfl rfl fun j A outer s H E q=>?_
 exact (Qb (Qx 4 sc__law_araised.nd (Jb Zb (Jb Zb (Ud (Qu (Q0 0) (Q0 1)) j4 (Xm (Q0 2))) (Vj (Q1 (Jb Zb (Qu (Qu (Q0 0) (Q0 1)) (Q0 2)) (Q0 3)) Q6))) (Ud (Qu (Q0 0) (Q0 1)) (Xm (Jb Zb (Q0 2) Qc)) j4)))
  (Qd (Qy (Jb Zb (Jb Zb (Ud (Q0 0) j4 (Xm (Q0 1))) (Vj (Q1 (Q0 4) Q6))) (Ud (Q0 0) (Xm (Jb Zb (Q0 1) Qc)) j4)))))
def qw:ME:=(J6 Q93 (Q4 (Q3 0) (Q4 (Q3 1) Qa)))
def Q08:MS:=(Vh (mBM Vp (Q3 2) (Q4 (J6 Uj (Q4 (K2 (Y3 [none,none] (jb (Y5 (Qn 0) (Y5 (Qn 1) jc))) (Qa6 (Q4 (Q3 3) (Q4 (Q3 4) Qa))) Jw qw)) Qa)) Qa)))
def y0 : MS := (Qq (Jg 2 (Q1h (yk Qa)))
  (Qq (Q4k (jb (Y5 (Qn 3) (Y5 (Qn 4) jc))) (Qa6 (Q4 (Q3 0) (Q4 (Q3 1) Qa))) Q08)
  (Jx (J6 Uj (Q4 (Q3 2) Qa)))))
def Ku:FN:=Qt y0 5
theorem sc__law_ajoined:FnScope ["one", "other", "rows", "row", "told"] ["one", "other"] (Q7 Vb):=⟨rfl,rfl,rfl,by decide +kernel,rfl,by decide +kernel,by decide +kernel⟩
theorem Q6c {f:aA} {fd:aP} (F:Fun K "_law_ajoined" "_law_ajoined" Vb f fd) (T:Txt mg)   : FnOk P w K mg base (CXD P w) 1 f fd ["one", "other"] (spF mg 2 Ku):=by
 refine J2 (k:=0) (m:=y0) F sc__law_ajoined rfl rfl rfl fun j A outer s H E q=>?_
 exact (Qb (Qx 2 sc__law_ajoined.nd (ji (Q0d Q6)))
  (Qb (zr PassesOwn.leaving rfl (Q7g rfl T.b_zip (Q1 (Q0 0) (Q1 (Q0 1) Q6))) (Q3j rfl (Wg (J0 (i:=3) sc__law_ajoined.nd) (Wg (J0 (i:=4) sc__law_ajoined.nd) Q0e))) (Qd (W1 (zm (Q0 2) (Q1 (j9 y9 rfl T.b_tuple V1 (Q1 (Wh (Y6 [none,none] ["number", "more"] rfl (Q7g rfl T.b_zip (Q1 (Q0 3) (Q1 (Q0 4) Q6))) (fun _ _ _ _ _=>(Q3j rfl (Wg (J0 (i:=0) (show (["number", "more"]:List Str).Nodup by decide +kernel)) (Wg (J0 (i:=1) (show (["number", "more"]:List Str).Nodup by decide +kernel)) Q0e)))) (fun _ _ _ _ _=>(Qw (Qcd rfl) rfl T.b_max Q4s (Q1 (Q0 0) (Q1 (Q0 1) Q6)))) (fun _ _ _ _ _=>Yt) (Q27 (U5 (U5 Q28))))) Q6)) Q6)))))
  (Qd (Qy (j9 y9 rfl T.b_tuple V1 (Q1 (Q0 2) Q6))))))
def jz : MS := (Qq (Jg 1 (Qi 2 Qj (Q4 (Q3 0) (Q4 (mC (.int 12)) Qa))))
  (Qq (Ys (toB (mOp oEq (Q3 1) (mC (.int 11)))) (Jx (mOp (oI fun a b=>.int (a - b)) (mOp Qkf (mC (.int 10)) (mC (.int 20))) (Qi 2 Qj (Q4 (Q3 0) (Q4 (mC (.int 3)) Qa))))) Y7)
  (Jx (mOp Wi (mC (.int 1)) (mOp Q38 (Q3 1) (mC (.int 7)))))))
def Vm:FN:=Qt jz 2
theorem sc__law_amuch:FnScope ["tape", "way"] ["tape"] (Q7 Uu):=⟨rfl,rfl,rfl,by decide +kernel,rfl,by decide +kernel,by decide +kernel⟩
theorem Q9w {f:aA} {fd:aP} (F:Fun K "_law_amuch" "_law_amuch" Uu f fd) (T:Txt mg)  (j:DefS P w K mg base 1 "_law_adigit" 2 Qj):FnOk P w K mg base (CXD P w) 2 f fd ["tape"] (spF mg 1 Vm):=by
 refine J2 (k:=1) (m:=jz) F sc__law_amuch rfl rfl rfl fun z A outer s H E q=>?_
 exact (Qb (Qx 1 sc__law_amuch.nd (Qg j (q.mono (by decide)) Qe rfl (Q1 (Q0 0) (Q1 Qc Q6))))
  (Qb (Jz (J8 (Wk q.units) (Q0 1) Qc) (Qd (Qy (Jb zw (Jb Qsv Qc Qc) (Qg j (q.mono (by decide)) Qe rfl (Q1 (Q0 0) (Q1 Qc Q6)))))) Za)
  (Qd (Qy (Jb Zb Qc (Jb Q0k (Q0 1) Qc))))))
def jq : MS := (Qq (Jg 5 (Qi 2 Qj (Q4 (Q3 0) (Q4 (Q3 1) Qa))))
  (Qq (Jg 6 (Qi 2 Qj (Q4 (Q3 0) (Q4 (mC (.int 4)) Qa))))
  (Qq (Jg 7 (Qi 2 Ji (Q4 (Q3 3) (Q4 (Q3 5) Qa))))
  (Ys (Q45 (toB (mOp oLt (Q3 6) (mC (.int 2)))) (toB (mOp oEq (Q3 7) (mC (.int 0))))) (Jg 3 (Qi 4 Ye (Q4 (Q3 3) (Q4 (Q3 5) (Q4 (Q3 5) (Q4 (Qi 1 Vm (Q4 (Q3 0) Qa)) Qa)))))) (Ys (xj (toB (mOp oEq (Q3 6) (mC (.int 2)))) (toB (mOp (oI fun a b=>.bl (decide (b < a))) (Q3 1) (mC (.int 1))))) (Qq (Jg 8 (mOp Q38 (mOp Wi (mOp Wi (Q3 5) (mC (.int 1))) (Qi 2 Qj (Q4 (Q3 0) (Q4 (mOp (oI fun a b=>.int (a - b)) (Q3 1) (mC (.int 1))) Qa)))) (Q3 1)))
  (Jg 3 (Qi 4 Ye (Q4 (Q3 3) (Q4 (Q3 5) (Q4 (Q3 8) (Q4 (mOp Wi (mC (.int 1)) (Qi 2 Qj (Q4 (Q3 0) (Q4 (Q3 7) Qa)))) Qa))))))) (Jg 3 (Qi 4 Ye (Q4 (Q3 3) (Q4 (Q3 5) (Q4 (Q3 1) (Q4 (mOp Wi (mC (.int 1)) (Qi 2 Qj (Q4 (Q3 0) (Q4 (Q3 7) Qa)))) Qa)))))))))))
def yw : MS := (Qq (Jg 3 (Qi 1 zk (Q4 (Q3 1) Qa)))
  (Qq (Q4k (Qn 4) (Yg (Q4 (Q3 2) Qa)) jq)
  (Jx (Q3 3))))
def Xf:FN:=Qt yw 9
theorem sc__law_atable:FnScope ["tape", "size", "many", "table", "turn", "i", "way", "have", "j"] ["tape", "size", "many"] (Q7 Vy):=⟨rfl,rfl,rfl,by decide +kernel,rfl,by decide +kernel,by decide +kernel⟩
theorem Q7w {f:aA} {fd:aP} (F:Fun K "_law_atable" "_law_atable" Vy f fd) (T:Txt mg)  (G:DefS P w K mg base 1 "_law_abare" 1 zk) (j:DefS P w K mg base 1 "_law_adigit" 2 Qj) (z:DefS P w K mg base 1 "_law_arights" 2 Ji) (q:DefS P w K mg base 1 "_law_araised" 4 Ye) (B:DefS P w K mg base 2 "_law_amuch" 1 Vm):FnOk P w K mg base (CXD P w) 3 f fd ["tape", "size", "many"] (spF mg 3 Xf):=by
 refine J2 (k:=2) (m:=yw) F sc__law_atable rfl rfl rfl fun J A outer s H E I=>?_
 exact (Qb (Qx 3 sc__law_atable.nd (Qg G (I.mono (by decide)) Qe rfl (Q1 (Q0 1) Q6)))
  (Qb (zr PassesOwn.leaving rfl (Y8 rfl T.b_range (Q1 (Q0 2) Q6)) (J0 (i:=4) sc__law_atable.nd) (Qb (Qx 5 sc__law_atable.nd (Qg j (I.mono (by decide)) Qe rfl (Q1 (Q0 0) (Q1 (Q0 1) Q6))))
  (Qb (Qx 6 sc__law_atable.nd (Qg j (I.mono (by decide)) Qe rfl (Q1 (Q0 0) (Q1 Qc Q6))))
  (Qb (Qx 7 sc__law_atable.nd (Qg z (I.mono (by decide)) Qe rfl (Q1 (Q0 3) (Q1 (Q0 5) Q6))))
  (Qd (Jz (SimW.t (Q5v (J8 (Q1v I.units) (Q0 6) Qc) (Q3i (J8 (Wk I.units) (Q0 7) Qc)))) (Qd (Qx 3 sc__law_atable.nd (Qg q (I.mono (by decide)) Qe rfl (Q1 (Q0 3) (Q1 (Q0 5) (Q1 (Q0 5) (Q1 (Qg B (I.mono (by decide)) Qe rfl (Q1 (Q0 0) Q6)) Q6))))))) (Qd (Jz (SimW.t (Q4x (J8 (Wk I.units) (Q0 6) Qc) (Q2n (J8 Q7t (Q0 1) Qc)))) (Qb (Qx 8 sc__law_atable.nd (Jb Q0k (Jb Zb (Jb Zb (Q0 5) Qc) (Qg j (I.mono (by decide)) Qe rfl (Q1 (Q0 0) (Q1 (Jb zw (Q0 1) Qc) Q6)))) (Q0 1)))
  (Qd (Qx 3 sc__law_atable.nd (Qg q (I.mono (by decide)) Qe rfl (Q1 (Q0 3) (Q1 (Q0 5) (Q1 (Q0 8) (Q1 (Jb Zb Qc (Qg j (I.mono (by decide)) Qe rfl (Q1 (Q0 0) (Q1 (Q0 7) Q6)))) Q6)))))))) (Qd (Qx 3 sc__law_atable.nd (Qg q (I.mono (by decide)) Qe rfl (Q1 (Q0 3) (Q1 (Q0 5) (Q1 (Q0 1) (Q1 (Jb Zb Qc (Qg j (I.mono (by decide)) Qe rfl (Q1 (Q0 0) (Q1 (Q0 7) Q6)))) Q6)))))))))))))))
  (Qd (Qy (Q0 3)))))
def Q1a:ME:=(Q3 1)
def Q19:ME:=(Q3 1)
def yx:MS:=(Jx (Qc2 "now" "last" "letters" (Q1h (Y3 [none,some 0] (Qn 0) (Yg (Q4 (J6 Yw (Q4 (Q3 0) Qa)) Qa)) Jw Q1a)) (Q1h (Y3 [none,some 0] (Qn 0) (Yg (Q4 (J6 Yw (Q4 (Q3 0) Qa)) Qa)) Jw Q19)) (Q1h (yk Qa))))
def Xg:FN:=Yy yx 1
theorem Q7i:FnScope ["table"] ["table"] (Q7 Vz):=⟨rfl,rfl,rfl,by decide +kernel,rfl,by decide +kernel,by decide +kernel⟩
theorem Q7x {f:aA} {fd:aP} (F:Fun K "_law_astart" "_law_astart" Vz f fd) (T:Txt mg)   : FnOk P w K mg base (CXD P w) 1 f fd ["table"] (spF mg 1 Xg):=by
 refine Wy (k:=0) (m:=yx) F Q7i rfl rfl rfl fun j A outer s H E q=>?_
 exact (Qd (Qy (Qjh (ji (Y6 [none,some 0] ["i", "table"] rfl (Y8 rfl T.b_range (Q1 (Qw Yp rfl T.b_len bZ (Q1 (Q0 0) Q6)) Q6)) (fun _ _ _ _ _=>(J0 (i:=0) (show (["i", "table"]:List Str).Nodup by decide +kernel))) (fun _ _ _ _ _=>(Q0 1)) (fun _ _ _ _ _=>Yt) Jh)) (ji (Y6 [none,some 0] ["i", "table"] rfl (Y8 rfl T.b_range (Q1 (Qw Yp rfl T.b_len bZ (Q1 (Q0 0) Q6)) Q6)) (fun _ _ _ _ _=>(J0 (i:=0) (show (["i", "table"]:List Str).Nodup by decide +kernel))) (fun _ _ _ _ _=>(Q0 1)) (fun _ _ _ _ _=>Yt) Jh)) (ji (Q0d Q6)))))
def Ww : MS := (Qq (Jg 2 (Uh (Q3 0) (mC (.str "now"))))
  (Qq (Ys (toB (mOp oEq (mOp oIx (Q3 1) (mC (.int 0))) (mC (.str "keep")))) (Q0w (Uh (Q3 0) (mC (.str "last"))) (mOp oIx (Q3 1) (mC (.int 1))) (mOp oIx (Q3 2) (mOp oIx (Q3 1) (mC (.int 1))))) (Ys (toB (mOp oEq (mOp oIx (Q3 1) (mC (.int 0))) (mC (.str "fall")))) (Q0w (Q3 2) (mOp oIx (Q3 1) (mC (.int 1))) (mOp oIx (Uh (Q3 0) (mC (.str "last"))) (mOp oIx (Q3 1) (mC (.int 1))))) (Ys (toB (mOp oEq (mOp oIx (Q3 1) (mC (.int 0))) (mC (.str "send")))) (Vh (mBM Vp (Uh (Q3 0) (mC (.str "letters"))) (Q4 (mOp oIx (Uh (Q3 0) (mC (.str "last"))) (mOp oIx (Q3 1) (mC (.int 1)))) Qa))) (Ys (toB (mOp oEq (mOp oIx (Q3 1) (mC (.int 0))) (mC (.str "come")))) (Q0w (Q3 2) (mOp oIx (Q3 1) (mC (.int 2))) (Qi 2 Ku (Q4 (mOp oIx (Q3 2) (mOp oIx (Q3 1) (mC (.int 2)))) (Q4 (mOp oIx (Uh (Q3 0) (mC (.str "letters"))) (mOp oIx (Q3 1) (mC (.int 1)))) Qa)))) (Qq (Jg 3 (mOp oIx (Q3 1) (mC (.int 1))))
  (Qq (Jg 4 (Qi 2 Ji (Q4 (mOp oIx (Q3 2) (Q3 3)) (Q4 (Q3 3) Qa))))
  (Qq (Ys (xj (toB (mOp oNe (mOp oIx (Q3 1) (mC (.int 0))) (mC (.str "make")))) (toB (mOp oLt (Q3 4) (mOp oIx (Q3 1) (Q20 (mC (.int 1))))))) (Jx (Q3 4)) Y7)
  (Qq (Jg 5 (Qdq "make" "use" "lend" (Q3 3) (J6 Yw (Q4 (Q3 2) Qa)) (mOp oIx (Q3 1) (mC (.int 2))) (mOp oIx (Q3 1) (mC (.int 0)))))
  (Q0w (Q3 2) (Q3 3) (Qi 4 Ye (Q4 (mOp oIx (Q3 2) (Q3 3)) (Q4 (Q3 3) (Q4 (Q3 5) (Q4 (mOp oIx (Q3 1) (Q20 (mC (.int 1)))) Qa))))))))))))))
  (Jx (mC (.str "done")))))
def zj:FN:=Qt Ww 6
theorem sc__law_astep:FnScope ["state", "deed", "now", "i", "have", "at"] ["state", "deed"] (Q7 Ut):=⟨rfl,rfl,rfl,by decide +kernel,rfl,by decide +kernel,by decide +kernel⟩
theorem Q9v {f:aA} {fd:aP} (F:Fun K "_law_astep" "_law_astep" Ut f fd) (T:Txt mg)  (q:DefS P w K mg base 1 "_law_ajoined" 2 Ku) (z:DefS P w K mg base 1 "_law_arights" 2 Ji) (j:DefS P w K mg base 1 "_law_araised" 4 Ye):FnOk P w K mg base (CXD P w) 2 f fd ["state", "deed"] (spF mg 2 zj):=by
 refine J2 (k:=1) (m:=Ww) F sc__law_astep rfl rfl rfl fun G A outer s H E B=>?_
 exact (Qb (Qx 2 sc__law_astep.nd (X9 (K7 B) (Q0 0) J4 (fun _ _=>rfl)))
  (Qb (Jz (J8 (Wk B.units) (Qu (Q0 1) Qc) J4) (Qd (Q7b (Qu (Q0 2) (Qu (Q0 1) Qc)) (X9 (K7 B) (Q0 0) J4 (fun _ _=>rfl)) (Qu (Q0 1) Qc))) (Qd (Jz (J8 (Wk B.units) (Qu (Q0 1) Qc) J4) (Qd (Q7b (Qu (X9 (K7 B) (Q0 0) J4 (fun _ _=>rfl)) (Qu (Q0 1) Qc)) (Q0 2) (Qu (Q0 1) Qc))) (Qd (Jz (J8 (Wk B.units) (Qu (Q0 1) Qc) J4) (Qd (W1 (zm (X9 (K7 B) (Q0 0) J4 (fun _ _=>rfl)) (Q1 (Qu (X9 (K7 B) (Q0 0) J4 (fun _ _=>rfl)) (Qu (Q0 1) Qc)) Q6)))) (Qd (Jz (J8 (Wk B.units) (Qu (Q0 1) Qc) J4) (Qd (Q7b (Qg q (B.mono (by decide)) Qe rfl (Q1 (Qu (Q0 2) (Qu (Q0 1) Qc)) (Q1 (Qu (X9 (K7 B) (Q0 0) J4 (fun _ _=>rfl)) (Qu (Q0 1) Qc)) Q6))) (Q0 2) (Qu (Q0 1) Qc))) (Qb (Qx 3 sc__law_astep.nd (Qu (Q0 1) Qc))
  (Qb (Qx 4 sc__law_astep.nd (Qg z (B.mono (by decide)) Qe rfl (Q1 (Qu (Q0 2) (Q0 3)) (Q1 (Q0 3) Q6))))
  (Qb (Jz (SimW.t (Q4x (J8 (Q3c B.units) (Qu (Q0 1) Qc) J4) (Q2n (J8 (Q1v B.units) (Q0 4) (Qu (Q0 1) (jj Qc)))))) (Qd (Qy (Q0 4))) Za)
  (Qb (Qx 5 sc__law_astep.nd (Qnq (K7 B) (Q0 3) (Qw Yp rfl T.b_len bZ (Q1 (Q0 2) Q6)) (Qu (Q0 1) Qc) (Qu (Q0 1) Qc) (fun _ _=>rfl)))
  (Qd (Q7b (Qg j (B.mono (by decide)) Qe rfl (Q1 (Qu (Q0 2) (Q0 3)) (Q1 (Q0 3) (Q1 (Q0 5) (Q1 (Qu (Q0 1) (jj Qc)) Q6))))) (Q0 2) (Q0 3))))))))))))))
  (Qd (Qy J4))))
def x8 : MS := (Qq (Jg 2 (J6 Yw (Q4 (Uh (Q3 1) (mC (.str "now"))) Qa)))
  (Qq (Jg 3 (Qi 2 Qj (Q4 (Q3 0) (Q4 (Q3 2) Qa))))
  (Qq (Jg 4 (Qi 2 Qj (Q4 (Q3 0) (Q4 (mC (.int 12)) Qa))))
  (Qq (Jg 5 (J6 Q93 (Q4 (mC (.int 0)) (Q4 (Qi 2 Ji (Q4 (mOp oIx (Uh (Q3 1) (mC (.str "now"))) (Q3 3)) (Q4 (Q3 3) Qa))) Qa))))
  (Qq (Jg 6 (mOp Wi (mC (.int 1)) (Qi 2 Qj (Q4 (Q3 0) (Q4 (mOp Wi (Q3 5) (mC (.int 2))) Qa)))))
  (Qq (Ys (toB (mOp oEq (Q3 4) (mC (.int 0)))) (Jx (Kb (Q4 (mC (.str "make")) (Q4 (Q3 3) (Q4 (Qi 1 Vm (Q4 (Q3 0) Qa)) Qa))))) Y7)
  (Qq (Ys (xj (toB (mOp oLt (Q3 4) (mC (.int 4)))) (toB (mOp (oI fun a b=>.bl (decide (b < a))) (Q3 2) (mC (.int 1))))) (Jx (Kb (Q4 (mC (.str "lend")) (Q4 (Q3 3) (Q4 (mOp Q38 (mOp Wi (mOp Wi (Q3 3) (mC (.int 1))) (Qi 2 Qj (Q4 (Q3 0) (Q4 (mOp (oI fun a b=>.int (a - b)) (Q3 2) (mC (.int 1))) Qa)))) (Q3 2)) (Q4 (Q3 6) Qa)))))) Y7)
  (Qq (Ys (toB (mOp oLt (Q3 4) (mC (.int 6)))) (Jx (Kb (Q4 (mC (.str "use")) (Q4 (Q3 3) (Q4 (Q3 6) Qa))))) Y7)
  (Qq (Ys (toB (mOp oLt (Q3 4) (mC (.int 8)))) (Jx (Kb (Q4 (mOp oIx (Qa7 (Q4 (mC (.str "keep")) (Q4 (mC (.str "fall")) Qa))) (J6 Qgp (Q4 (mOp oEq (Qi 2 Qj (Q4 (Q3 0) (Q4 (mC (.int 3)) Qa))) (mC (.int 0))) Qa))) (Q4 (Q3 3) Qa)))) Y7)
  (Qq (Ys (Q45 (toB (mOp oEq (Q3 4) (mC (.int 8)))) (toB (mOp oEq (Uh (Q3 1) (mC (.str "letters"))) (Qa7 Qa)))) (Jx (Kb (Q4 (mC (.str "send")) (Q4 (Q3 3) Qa)))) Y7)
  (Jx (Kb (Q4 (mC (.str "come")) (Q4 (Qi 2 Qj (Q4 (Q3 0) (Q4 (J6 Yw (Q4 (Uh (Q3 1) (mC (.str "letters"))) Qa)) Qa))) (Q4 (Q3 3) Qa)))))))))))))))
def Xi:FN:=Qt x8 7
theorem sc__law_adrawn:FnScope ["tape", "state", "size", "i", "way", "have", "much"] ["tape", "state"] (Q7 U1):=⟨rfl,rfl,rfl,by decide +kernel,rfl,by decide +kernel,by decide +kernel⟩
theorem Q7z {f:aA} {fd:aP} (F:Fun K "_law_adrawn" "_law_adrawn" U1 f fd) (T:Txt mg)  (j:DefS P w K mg base 1 "_law_adigit" 2 Qj) (q:DefS P w K mg base 1 "_law_arights" 2 Ji) (z:DefS P w K mg base 2 "_law_amuch" 1 Vm):FnOk P w K mg base (CXD P w) 3 f fd ["tape", "state"] (spF mg 2 Xi):=by
 refine J2 (k:=2) (m:=x8) F sc__law_adrawn rfl rfl rfl fun G A outer s H E B=>?_
 exact (Qb (Qx 2 sc__law_adrawn.nd (Qw Yp rfl T.b_len bZ (Q1 (X9 (K7 B) (Q0 1) J4 (fun _ _=>rfl)) Q6)))
  (Qb (Qx 3 sc__law_adrawn.nd (Qg j (B.mono (by decide)) Qe rfl (Q1 (Q0 0) (Q1 (Q0 2) Q6))))
  (Qb (Qx 4 sc__law_adrawn.nd (Qg j (B.mono (by decide)) Qe rfl (Q1 (Q0 0) (Q1 Qc Q6))))
  (Qb (Qx 5 sc__law_adrawn.nd (Qw (Qcd rfl) rfl T.b_max Q4s (Q1 Qc (Q1 (Qg q (B.mono (by decide)) Qe rfl (Q1 (Qu (X9 (K7 B) (Q0 1) J4 (fun _ _=>rfl)) (Q0 3)) (Q1 (Q0 3) Q6))) Q6))))
  (Qb (Qx 6 sc__law_adrawn.nd (Jb Zb Qc (Qg j (B.mono (by decide)) Qe rfl (Q1 (Q0 0) (Q1 (Jb Zb (Q0 5) Qc) Q6)))))
  (Qb (Jz (J8 (Wk B.units) (Q0 4) Qc) (Qd (Qy (Vj (Q1 J4 (Q1 (Q0 3) (Q1 (Qg z (B.mono (by decide)) Qe rfl (Q1 (Q0 0) Q6)) Q6)))))) Za)
  (Qb (Jz (SimW.t (Q4x (J8 (Q1v B.units) (Q0 4) Qc) (Q2n (J8 Q7t (Q0 2) Qc)))) (Qd (Qy (Vj (Q1 J4 (Q1 (Q0 3) (Q1 (Jb Q0k (Jb Zb (Jb Zb (Q0 3) Qc) (Qg j (B.mono (by decide)) Qe rfl (Q1 (Q0 0) (Q1 (Jb zw (Q0 2) Qc) Q6)))) (Q0 2)) (Q1 (Q0 6) Q6))))))) Za)
  (Qb (Jz (J8 (Q1v B.units) (Q0 4) Qc) (Qd (Qy (Vj (Q1 J4 (Q1 (Q0 3) (Q1 (Q0 6) Q6)))))) Za)
  (Qb (Jz (J8 (Q1v B.units) (Q0 4) Qc) (Qd (Qy (Vj (Q1 (Qu (Qbm (Q1 J4 (Q1 J4 Q6))) (j9 Qqr rfl T.b_int Qe9 (Q1 (qf (Wk B.units) (Qg j (B.mono (by decide)) Qe rfl (Q1 (Q0 0) (Q1 Qc Q6))) Qc) Q6))) (Q1 (Q0 3) Q6))))) Za)
  (Qb (Jz (SimW.t (Q5v (J8 (Wk B.units) (Q0 4) Qc) (Q3i (J8 (Wk B.units) (X9 (K7 B) (Q0 1) J4 (fun _ _=>rfl)) (Qbm Q6))))) (Qd (Qy (Vj (Q1 J4 (Q1 (Q0 3) Q6))))) Za)
  (Qd (Qy (Vj (Q1 J4 (Q1 (Qg j (B.mono (by decide)) Qe rfl (Q1 (Q0 0) (Q1 (Qw Yp rfl T.b_len bZ (Q1 (X9 (K7 B) (Q0 1) J4 (fun _ _=>rfl)) Q6)) Q6))) (Q1 (Q0 3) Q6))))))))))))))))
def qx : MS := (Qq (Vh (mBM Vp (Q3 5) (Q4 (Qi 2 Xi (Q4 (Q3 8) (Q4 (Q3 4) Qa))) Qa)))
  (Vh (mBM Vp (Q3 6) (Q4 (Qi 2 zj (Q4 (Q3 4) (Q4 (mOp oIx (Q3 5) (Q20 (mC (.int 1)))) Qa))) Qa))))
def qy : MS := (Qq (Jg 8 (Qi 2 Wd (Q4 (Q3 0) (Q4 (Q3 7) Qa))))
  (Q4k (Qn 9) (Yg (Q4 (mC (.int 3)) Qa)) qx))
def zz : MS := (Qq (Jg 4 (Qi 1 Xg (Q4 (Q3 3) Qa)))
  (Qq (Jg 5 (Q1h (yk Qa)))
  (Qq (Jg 6 (Q1h (yk Qa)))
  (Qq (Q4k (Qn 7) (Q0x (Q4 (Q3 1) (Q4 (mOp Wi (Q3 1) (Q3 2)) Qa))) qy)
  (Jx (Kb (Q4 (Q3 5) (Q4 (Q3 6) (Q4 (Q3 4) Qa)))))))))
def Up:FN:=Yy zz 10
theorem sc__law_aplayed:FnScope ["script", "start", "many", "table", "state", "deeds", "answers", "k", "tape", "turn"] ["script", "start", "many", "table"] (Q7 Va):=⟨rfl,rfl,rfl,by decide +kernel,rfl,by decide +kernel,by decide +kernel⟩
theorem Q6b {f:aA} {fd:aP} (F:Fun K "_law_aplayed" "_law_aplayed" Va f fd) (T:Txt mg)  (q:DefS P w K mg base 1 "_law_astart" 1 Xg) (z:DefS P w K mg base 2 "_law_atape" 2 Wd) (j:DefS P w K mg base 3 "_law_adrawn" 2 Xi) (B:DefS P w K mg base 2 "_law_astep" 2 zj):FnOk P w K mg base (CXD P w) 4 f fd ["script", "start", "many", "table"] (spF mg 4 Up):=by
 refine Wy (k:=3) (m:=zz) F sc__law_aplayed rfl rfl rfl fun I A outer s H E G=>?_
 exact (Qb (Qx 4 sc__law_aplayed.nd (Qg q (G.mono (by decide)) Qe rfl (Q1 (Q0 3) Q6)))
  (Qb (Qx 5 sc__law_aplayed.nd (ji (Q0d Q6)))
  (Qb (Qx 6 sc__law_aplayed.nd (ji (Q0d Q6)))
  (Qb (zr PassesOwn.leaving rfl (Qag rfl T.b_range (Q1 (Q0 1) (Q1 (Jb Zb (Q0 1) (Q0 2)) Q6))) (J0 (i:=7) sc__law_aplayed.nd) (Qb (Qx 8 sc__law_aplayed.nd (Qg z (G.mono (by decide)) Qe rfl (Q1 (Q0 0) (Q1 (Q0 7) Q6))))
  (Qd (zr PassesOwn.leaving rfl (Y8 rfl T.b_range (Q1 Qc Q6)) (J0 (i:=9) sc__law_aplayed.nd) (Qb (W1 (zm (Q0 5) (Q1 (Qg j (G.mono (by decide)) Qe rfl (Q1 (Q0 8) (Q1 (Q0 4) Q6))) Q6)))
  (Qd (W1 (zm (Q0 6) (Q1 (Qg B (G.mono (by decide)) Qe rfl (Q1 (Q0 4) (Q1 (Qu (Q0 5) (jj Qc)) Q6))) Q6)))))))))
  (Qd (Qy (Vj (Q1 (Q0 5) (Q1 (Q0 6) (Q1 (Q0 4) Q6))))))))))
def xb : MS := (Qq (Jg 1 (Qi 2 Wd (Q4 (Q3 0) (Q4 (mC (.int 0)) Qa))))
  (Qq (Jg 2 (mOp Wi (mC (.int 1)) (Qi 2 Qj (Q4 (Q3 1) (Q4 (mC (.int 8)) Qa)))))
  (Jx (Qi 3 Xf (Q4 (Q3 1) (Q4 (Q3 2) (Q4 (Qi 2 Qj (Q4 (Q3 1) (Q4 (mC (.int 9)) Qa))) Qa)))))))
def Xj:FN:=Qt xb 3
theorem sc__law_abegun:FnScope ["script", "tape", "size"] ["script"] (Q7 U3):=⟨rfl,rfl,rfl,by decide +kernel,rfl,by decide +kernel,by decide +kernel⟩
theorem Q81 {f:aA} {fd:aP} (F:Fun K "_law_abegun" "_law_abegun" U3 f fd) (T:Txt mg)  (z:DefS P w K mg base 2 "_law_atape" 2 Wd) (j:DefS P w K mg base 1 "_law_adigit" 2 Qj) (q:DefS P w K mg base 3 "_law_atable" 3 Xf):FnOk P w K mg base (CXD P w) 4 f fd ["script"] (spF mg 1 Xj):=by
 refine J2 (k:=3) (m:=xb) F sc__law_abegun rfl rfl rfl fun G A outer s H E B=>?_
 exact (Qb (Qx 1 sc__law_abegun.nd (Qg z (B.mono (by decide)) Qe rfl (Q1 (Q0 0) (Q1 Qc Q6))))
  (Qb (Qx 2 sc__law_abegun.nd (Jb Zb Qc (Qg j (B.mono (by decide)) Qe rfl (Q1 (Q0 1) (Q1 Qc Q6)))))
  (Qd (Qy (Qg q (B.mono (by decide)) Qe rfl (Q1 (Q0 1) (Q1 (Q0 2) (Q1 (Qg j (B.mono (by decide)) Qe rfl (Q1 (Q0 1) (Q1 Qc Q6))) Q6))))))))
def Q1g : MS := (Qq (Jg 2 (Qi 2 yd (Q4 (Q3 2) (Q4 (Q3 3) Qa))))
  (Ys (toB (mOp oNe (mOp oIx (Qi 1 Yd (Q4 (Q3 3) Qa)) (mC (.int 0))) (mC (.str "comes")))) (Jx (mC (.bl false))) Y7))
def Q1d:ME:=(mOp oIx (mOp oIx (Q3 1) (Q3 0)) (Q3 0))
def Q1e : MS := (Qq (Jg 8 (mOp (oI fun a b => .int (a - b)) (mOp oIx (mOp oIx (mOp oIx (Q3 0) (Q3 6)) (Q3 6)) (Q3 7)) (mOp oIx (mOp oIx (mOp oIx (Q3 0) (Q3 7)) (Q3 6)) (Q3 7))))
  (Qq (Ys (xj (toB (mOp oNe (Q3 6) (Q3 7))) (toB (mOp oLt (Q3 8) (mC (.int 0))))) (Jx (mC (.bl false))) Y7)
  (Ys (toB (mOp oNe (Q3 6) (Q3 7))) (Jg 5 (mOp Wi (Q3 5) (Q3 8))) Y7)))
def Q1f : MS := (Qq (Jg 5 (mOp Wi (Q3 5) (Qi 2 Ji (Q4 (mOp oIx (Q3 0) (Q3 6)) (Q4 (Q3 6) Qa)))))
  (Qq (Ys (toB (mOp oLt (Qi 2 Ji (Q4 (mOp oIx (Q3 0) (Q3 6)) (Q4 (Q3 6) Qa))) (mC (.int 0)))) (Jx (mC (.bl false))) Y7)
  (Q4k (Qn 7) (Yg (Q4 (Q3 1) Qa)) Q1e)))
def Q1c:ME:=(mOp oIx (mOp oIx (Q3 1) (Q3 0)) (Q3 0))
def Q1b:ME:=(mOp oIx (Q3 0) (Q20 (mC (.int 1))))
def yy : MS := (Qq (Jg 1 (J6 Yw (Q4 (Q3 0) Qa)))
  (Qq (Jg 2 (mOp oIx (Q3 0) (mC (.int 0))))
  (Qq (Q4k (Qn 3) (xy (Q3 0)) Q1g)
  (Qq (Jg 4 (J6 Uj (Q4 (K2 (Y3 [none,some 0] (Qn 0) (Yg (Q4 (Q3 1) Qa)) Jw Q1d)) Qa)))
  (Qq (Ys (Q45 (toB (mOp oNe (mOp oIx (Qi 1 Yd (Q4 (Q3 2) Qa)) (mC (.int 0))) (mC (.str "comes")))) (toB (mOp oNe (Q3 2) (Q3 4)))) (Jx (mC (.bl false))) Y7)
  (Qq (Jg 5 (mC (.int 0)))
  (Qq (Q4k (Qn 6) (Yg (Q4 (Q3 1) Qa)) Q1f)
  (Qq (Jg 9 (J6 (Vt fun ns=>some (.int ns.sum)) (Q4 (K2 (Y3 [none,some 2] (Qn 0) (Yg (Q4 (Q3 1) Qa)) Jw Q1c)) Qa)))
  (Jx (Q6h (mOp oEq (Q3 5) (Qi 1 Q4u (Q4 (Q3 2) Qa))) (mOp oEq (Q3 5) (mOp (oI fun a b=>.int (a - b)) (Q3 9) (J6 (Vt fun ns=>some (.int ns.sum)) (Q4 (K2 (Y3 [none] (Qn 0) (xy (Q3 2)) Jw Q1b)) Qa))))))))))))))
def Xh:FN:=Qt yy 10
theorem sc__law_asound:FnScope ["tables", "size", "joint", "table", "own", "total", "i", "j", "way", "made"] ["tables"] (Q7 U0):=⟨rfl,rfl,rfl,by decide +kernel,rfl,by decide +kernel,by decide +kernel⟩
theorem Q7y {f:aA} {fd:aP} (F:Fun K "_law_asound" "_law_asound" U0 f fd) (T:Txt mg)  (B:DefS P w K mg base 2 "joined" 2 yd) (q:DefS P w K mg base 5 "comes_about" 1 Yd) (j:DefS P w K mg base 1 "_law_arights" 2 Ji) (G:DefS P w K mg base 1 "stock" 1 Q4u):FnOk P w K mg base (CXD P w) 6 f fd ["tables"] (spF mg 1 Xh):=by
 refine J2 (k:=5) (m:=yy) F sc__law_asound rfl rfl rfl fun I A outer s H E z=>?_
 exact (Qb (Qx 1 sc__law_asound.nd (Qw Yp rfl T.b_len bZ (Q1 (Q0 0) Q6)))
  (Qb (Qx 2 sc__law_asound.nd (Qu (Q0 0) Qc))
  (Qb (zr PassesOwn.leaving rfl (Xs (Q0 0)) (J0 (i:=3) sc__law_asound.nd) (Qb (Qx 2 sc__law_asound.nd (Qg B (z.mono (by decide)) Qe rfl (Q1 (Q0 2) (Q1 (Q0 3) Q6))))
  (Qd (Jz (J8 (Q3c z.units) (Qu (Qg q (z.mono (by decide)) Qe rfl (Q1 (Q0 3) Q6)) Qc) J4) (Qd (Qy Q3b)) Za))))
  (Qb (Qx 4 sc__law_asound.nd (j9 y9 rfl T.b_tuple V1 (Q1 (Wh (Y6 [none,some 0] ["i", "tables"] rfl (Y8 rfl T.b_range (Q1 (Q0 1) Q6)) (fun _ _ _ _ _=>(J0 (i:=0) (show (["i", "tables"]:List Str).Nodup by decide +kernel))) (fun _ _ _ _ _=>(Qu (Qu (Q0 1) (Q0 0)) (Q0 0))) (fun _ _ _ _ _=>Yt) Jh)) Q6)))
  (Qb (Jz (SimW.t (Q5v (J8 (Q3c z.units) (Qu (Qg q (z.mono (by decide)) Qe rfl (Q1 (Q0 2) Q6)) Qc) J4) (Q3i (J8 (Q3c z.units) (Q0 2) (Q0 4))))) (Qd (Qy Q3b)) Za)
  (Qb (Qx 5 sc__law_asound.nd Qc)
  (Qb (zr PassesOwn.leaving rfl (Y8 rfl T.b_range (Q1 (Q0 1) Q6)) (J0 (i:=6) sc__law_asound.nd) (Qb (Qx 5 sc__law_asound.nd (Jb Zb (Q0 5) (Qg j (z.mono (by decide)) Qe rfl (Q1 (Qu (Q0 0) (Q0 6)) (Q1 (Q0 6) Q6)))))
  (Qb (Jz (J8 (Q1v z.units) (Qg j (z.mono (by decide)) Qe rfl (Q1 (Qu (Q0 0) (Q0 6)) (Q1 (Q0 6) Q6))) Qc) (Qd (Qy Q3b)) Za)
  (Qd (zr PassesOwn.leaving rfl (Y8 rfl T.b_range (Q1 (Q0 1) Q6)) (J0 (i:=7) sc__law_asound.nd) (Qb (Qx 8 sc__law_asound.nd (Jb zw (Qu (Qu (Qu (Q0 0) (Q0 6)) (Q0 6)) (Q0 7)) (Qu (Qu (Qu (Q0 0) (Q0 7)) (Q0 6)) (Q0 7))))
  (Qb (Jz (SimW.t (Q4x (J8 (Q3c z.units) (Q0 6) (Q0 7)) (Q2n (J8 (Q1v z.units) (Q0 8) Qc)))) (Qd (Qy Q3b)) Za)
  (Qd (Jz (J8 (Q3c z.units) (Q0 6) (Q0 7)) (Qd (Qx 5 sc__law_asound.nd (Jb Zb (Q0 5) (Q0 8)))) Za)))))))))
  (Qb (Qx 9 sc__law_asound.nd (Qw (Q15 rfl) rfl T.b_sum Kr (Q1 (Wh (Y6 [none,some 2] ["i", "joint"] rfl (Y8 rfl T.b_range (Q1 (Q0 1) Q6)) (fun _ _ _ _ _=>(J0 (i:=0) (show (["i", "joint"]:List Str).Nodup by decide +kernel))) (fun _ _ _ _ _=>(Qu (Qu (Q0 1) (Q0 0)) (Q0 0))) (fun _ _ _ _ _=>Yt) Jh)) Q6)))
  (Qd (Qy (Q1q (qf (Wk z.units) (Q0 5) (Qg G (z.mono (by decide)) Qe rfl (Q1 (Q0 2) Q6))) (Q1p (qf (Wk z.units) (Q0 5) (Jb zw (Q0 9) (Qw (Q15 rfl) rfl T.b_sum Kr (Q1 (Wh (Y6 [none] ["row"] rfl (Xs (Q0 2)) (fun _ _ _ _ _=>(J0 (i:=0) (show (["row"]:List Str).Nodup by decide +kernel))) (fun _ _ _ _ _=>(Qu (Q0 0) (jj Qc))) (fun _ _ _ _ _=>Yt) Jh)) Q6))))))))))))))))
def Qgr (C:aA):MS:=(Ys (Q45 (toB (mOp oEq (mOp Q38 (Q3 5) (mC (.int 2))) (mC (.int 0)))) (toB (mOp oEq (Q3 5) (J6 Yw (Q4 (Q3 2) Qa))))) (Ys (K6 (toB (Qi 1 Xh (Q4 (mOp oIx (Qi 2 (Q2g C) (Q4 (Q3 1) (Q4 (mSl (Q3 2) V6 (Kc (Q3 5))) Qa))) (mC (.int 1))) Qa)))) (Jx (mC (.bl false))) Y7) Y7)
def Qkk (C : aA) : MS := (Qq (Jg 1 (Qi 1 Xj (Q4 (Q3 0) Qa)))
  (Qq (Qks (jb (Y5 (Qn 2) (Y5 (Qn 3) (Y5 (Qn 4) jc)))) (Qi 4 Up (Q4 (Q3 0) (Q4 (mC (.int 1)) (Q4 (J6 Q93 (Q4 (mC (.int 4)) (Q4 (J6 Qip (Q4 (mC (.int 10)) (Q4 (mOp (oI fun a b=>.int (a - b)) (J6 Yw (Q4 (Q3 0) Qa)) (mC (.int 1))) Qa))) Qa))) (Q4 (Q3 1) Qa))))))
  (Qq (Q4k (Qn 5) (Q0x (Q4 (mC (.int 0)) (Q4 (mOp Wi (J6 Yw (Q4 (Q3 2) Qa)) (mC (.int 1))) Qa))) (Qgr C))
  (Jx (mC (.bl true))))))
def Qrk (C:aA):FN:=Qt (Qkk C) 6
theorem sc_law:FnScope ["script", "start", "deeds", "answers", "state", "many"] ["script"] (Q7 Q49):=⟨rfl,rfl,rfl,by decide +kernel,rfl,by decide +kernel,by decide +kernel⟩
theorem Qt6 {f:aA} {fd:aP} {C:aA} (F:Fun K "law" "law" Q49 f fd) (T:Txt mg) (J:ClsT K C)  (q:DefS P w K mg base 4 "_law_abegun" 1 Xj) (j:DefS P w K mg base 4 "_law_aplayed" 4 Up) (z:DefS P w K mg base 6 "_law_asound" 1 Xh) (B:DefS P w K mg base 10 "played" 2 (Q2g C)):FnOk P w K mg base (CXD P w) 11 f fd ["script"] (spF mg 1 (Qrk C)):=by
 refine J2 (k:=10) (m:=(Qkk C)) F sc_law rfl rfl rfl fun I A outer s H E G=>?_
 exact (Qb (Qx 1 sc_law.nd (Qg q (G.mono (by decide)) Qe rfl (Q1 (Q0 0) Q6)))
  (Qb (Qs2 (Qg j (G.mono (by decide)) Qe rfl (Q1 (Q0 0) (Q1 Qc (Q1 (Qw (Qcd rfl) rfl T.b_max Q4s (Q1 Qc (Q1 (Qw (Qtx rfl) rfl T.b_min Qmv (Q1 Qc (Q1 (Jb zw (Qw Yp rfl T.b_len bZ (Q1 (Q0 0) Q6)) Qc) Q6))) Q6))) (Q1 (Q0 1) Q6))))) (Q3j rfl (Wg (J0 (i:=2) sc_law.nd) (Wg (J0 (i:=3) sc_law.nd) (Wg (J0 (i:=4) sc_law.nd) Q0e)))))
  (Qb (zr PassesOwn.leaving rfl (Qag rfl T.b_range (Q1 Qc (Q1 (Jb Zb (Qw Yp rfl T.b_len bZ (Q1 (Q0 2) Q6)) Qc) Q6))) (J0 (i:=5) sc_law.nd) (Qd (Jz (SimW.t (Q5v (J8 (Wk G.units) (Jb Q0k (Q0 5) Qc) Qc) (Q3i (J8 (Wk G.units) (Q0 5) (Qw Yp rfl T.b_len bZ (Q1 (Q0 2) Q6)))))) (Qd (Jz (Xr (Vi (Qg z (G.mono (by decide)) Qe rfl (Q1 (Qu (Qg B (G.mono (by decide)) Qe rfl (Q1 (Q0 1) (Q1 (Ud (Q0 2) j4 (Xm (Q0 5))) Q6))) Qc) Q6)))) (Qd (Qy Q3b)) Za)) Za)))
  (Qd (Qy Q3b)))))
end
end Lw
namespace Lw
open PySem PySem.Spec L2 Sm
theorem Q70 (a:Int) {b:Int} (h:0 < b):0<=a % b/\a % b < b:=⟨Int.emod_nonneg a (by omega),Int.emod_lt_of_pos a h⟩
def J1 (r:List Int):PV:=.tup (r.map .int)
def Q8 (tb:List (List Int)):PV:=.tup (tb.map J1)
theorem Qfq {α:Type} (xs:List α) (p:α->Bool):(xs.map p).all id=xs.all p:=by
 rw [ez]; rfl
structure Wt' (n:Nat) (tb:List (List Int)):Prop where
 len:tb.length=n
 row:∀ r∈tb,r.length=n + 1
 nn:∀ r∈tb,∀ x∈r,(0:Int)<=x
 n1:1<=n
 n8:n<=8
def Zc (n:Nat) (f:Nat->Int):Int:=((bV n).map f).sum
theorem Ja (n:Nat) (f:Nat->Int):Zc (n + 1) f=Zc n f + f n:=by
 unfold Zc;rw [dw,F7,gA];simp
theorem Wa {n:Nat} {f g:Nat->Int} (h:∀ i,i < n->f i=g i):Zc n f=Zc n g:=by
 induction n with
 | zero=>rfl
 | succ n j=>rw [Ja,Ja,j fun i hi=>h i (by omega),h n (by omega)]
theorem Q44 (n:Nat) (f g:Nat->Int):Zc n (fun i=>f i + g i)=Zc n f + Zc n g:=by
 induction n with
 | zero=>rfl
 | succ n j=>rw [Ja,Ja,Ja,j]; omega
theorem Q43 (n:Nat) (f g:Nat->Int):Zc n (fun i=>f i - g i)=Zc n f - Zc n g:=by
 induction n with
 | zero=>rfl
 | succ n j=>rw [Ja,Ja,Ja,j]; omega
theorem Q2m (n:Nat):Zc n (fun _=>0)=0:=by
 induction n with
 | zero=>rfl
 | succ n j=>rw [Ja,j]; rfl
theorem Qgx (n m:Nat) (f:Nat->Nat->Int):Zc n (fun i=>Zc m (f i))=Zc m (fun j=>Zc n fun i=>f i j):=by
 induction n with
 | zero=>exact (Q2m m).symm
 | succ n q=>
  rw [Ja,q,<- Q44];exact Wa fun i _=>(Ja _ _).symm
theorem Q5u {n:Nat} {f:Nat->Int} (h:∀ i,i < n->0<=f i):0<=Zc n f:=by
 induction n with
 | zero=>exact bf _
 | succ n j=>rw [Ja]; have:=j fun i hi=>h i (by omega); have:=h n (by omega); omega
theorem Q4h {α β:Type} (l:List α) (d:α) (f:α->β):l.map f=(bV l.length).map fun i=>f (l.getD i d):=by
 refine dL fun i=>?_
 rw [E4,E4]
 by_cases hi:i < l.length
 ·rw [F3 hi,getD_some hi d]; rfl
 ·rw [F2 (by omega),F2 (by rw [F6]; omega)]; rfl
theorem Qef {α β:Type} (l:List α) (d:α) (f:α × Nat->β):l.zipIdx.map f=(bV l.length).map fun i=>f (l.getD i d,i):=by
 refine dL fun i=>?_
 rw [E4,E4,List.getElem?_zipIdx]
 by_cases hi:i < l.length
 ·rw [F3 hi,getD_some hi d]; simp
 ·rw [F2 (by omega),F2 (by rw [F6]; omega)]; rfl
theorem Qcq (r:List Int):r.sum=Zc r.length fun j=>r.getD j 0:=by
 have:=Q4h r 0 id;rw [List.map_id] at this;rw [Zc]
 conv=>lhs; rw [this]
 rfl
def ent (tb:List (List Int)) (i j:Nat):Int:=(tb.getD i []).getD j 0
def Sz (n:Nat) (tb:List (List Int)):Prop:=tb.length=n/\∀ r∈tb,r.length=n + 1
theorem Wt'.sz {n:Nat} {tb:List (List Int)} (w:Wt' n tb):Sz n tb:=⟨w.len,w.row⟩
theorem Sz.row {n i:Nat} {tb:List (List Int)} (z:Sz n tb) (hi:i < n):tb[i]?=some (tb.getD i [])/\(tb.getD i []).length=n + 1:=by
 have e:=getD_some (show i < tb.length by rw [z.1]; exact hi) [];exact ⟨e,z.2 _ (D5 e)⟩
theorem Sz.cell {n i j:Nat} {tb:List (List Int)} (z:Sz n tb) (hi:i < n) (q:j<=n):(tb.getD i [])[j]?=some (ent tb i j):=getD_some (by rw [(z.row hi).2]; omega) 0
theorem Qna {n:Nat} {t1 t2:List (List Int)} (z:Sz n t1) (q:Sz n t2) (h:∀ i j,i < n->j<=n->ent t1 i j=ent t2 i j):t1=t2:=by
 refine dL fun i=>?_
 by_cases hi:i < n
 ·rw [(z.row hi).1,(q.row hi).1];congr 1;refine dL fun j=>?_
  by_cases B:j<=n
  ·rw [z.cell hi B,q.cell hi B,h i j hi B]
  ·rw [F2 (by rw [(z.row hi).2]; omega),F2 (by rw [(q.row hi).2]; omega)]
 ·rw [F2 (by rw [z.1]; omega),F2 (by rw [q.1]; omega)]
theorem Wt'.ent_nn {n i j:Nat} {tb:List (List Int)} (w:Wt' n tb) (hi:i < n) (q:j<=n):0<=ent tb i j:=w.nn _ (D5 (w.sz.row hi).1) _ (D5 (w.sz.cell hi q))
theorem Wt'.of_ent {n:Nat} {tb:List (List Int)} (z:Sz n tb) (h1:1<=n) (G:n<=8) (h:∀ i j,i < n->j<=n->0<=ent tb i j):Wt' n tb:=by
 refine ⟨z.1,z.2,fun r q x B=>?_,h1,G⟩;obtain ⟨i,hi,e⟩:=dh.mp q;obtain ⟨j,I,e2⟩:=dh.mp B;have O:=z.2 r q;have:=h i j (by rw [<- z.1]; exact hi) (by omega);have e3:tb.getD i []=r:=by rw [ba,O4 hi,e]; rfl
 have J:r.getD j 0=x:=by rw [ba,O4 I,e2]; rfl
 unfold ent at this;rw [e3,J] at this;exact this
theorem Q10 (i:Int) (st:Q2):Vk [.int i] st=.ok (.bl true) st:=by
 simp [Vk,Qt,Q3s,isI,tyN]
theorem Qaa (a b c:Int) (st:Q2):Kt [.int a,.int b,.int c] st=.ok (.bl (decide (b<=a) && decide (a<=c))) st:=by
 by_cases h:b<=a <;> simp [Kt,Qt,Q0t,Q10,h]
theorem Q23 {V:PV} {n:Nat} {st:Q2} (j:Yw st [V]=.ok (.int n) st) (i:Int):Yu [V,.int i] st=.ok (.bl (decide (0<=i) && decide (i < n))) st:=by
 have e:decide (i<=(n:Int) - 1)=decide (i < (n:Int)):=by
  rw [decide_eq_decide]; omega
 simp [Yu,Qt,Q3u,j,Qaa,e]
theorem Qc7 {V:PV} {n i:Nat} {st:Q2} (j:Yw st [V]=.ok (.int n) st) (hi:i < n):Yu [V,.int i] st=.ok (.bl true) st:=by
 rw [Q23 j];simp; omega
def Yc (k:Nat):PV:=.int (k:Int)
theorem Qqj {n r:Nat} {S:Q2} {hs:List Int} (q:n<=r) (h:S[r]?=some (.lst (hs.map .int))):fz n S 16 (.ref r)=some (.lst (hs.map .int)):=by
 have j:Y4 12 (.lst (hs.map .int))=true:=by simp [Y4]
 have:=Q6y (n:=n) (st:=S) (k:=16) j (by decide);rw [fz,bL (by omega),h];simpa [fz] using this
def Qs (tb:List (List Int)) (h:Nat):Int:=Zc tb.length (fun o=>ent tb o h) - ((tb.getD h []).sum - ent tb h h)
theorem Uf {n h:Nat} {tb:List (List Int)} (z:Sz n tb) (q:h < n):Qs tb h=Zc n (fun o=>ent tb o h) - (Zc n (fun j=>ent tb h j) + ent tb h n - ent tb h h):=by
 unfold Qs;rw [z.1,Qcq (tb.getD h []),(z.row q).2,Ja];rfl
theorem Qak {n h:Nat} {tb:List (List Int)} (z:Sz n tb) (Z:n<=100) (j:h < n) (st:Q2):Xe [Q8 tb,.int h] st=.ok (.int (Qs tb h)) st:=by
 have J:=Qc7 (V:=Q8 tb) (n:=n) (i:=h) (st:=st) (by simp [Q8,z.1]) j;have I:Ju (Qn 0) Jw Q3y [] (Jy [none,some 1] [some (Q8 tb),some (.int h),none,none,none]) (tb.map J1) st=.ok (tb.map fun r=>.int (r.getD h 0)) st:=by
  refine Yr _ _ (by simp) fun r G=>⟨_,rfl,?_⟩
  have e:=atI_get (getD_some (show h < r.length by rw [z.2 r G]; omega) 0);simp [Jy,Q3y,J1,Xp,e]
 have e1:=atI_get (z.row j).1;have e2:=atI_get (z.cell j (D9 j));have hs:(tb.map fun r=>r.getD h 0).sum=Zc n fun o=>ent tb o h:=by
  rw [Q4h tb [] fun r=>r.getD h 0,z.1]; rfl
 have U:tb.length<=1000000:=by rw [z.1]; omega
 unfold Qs;rw [z.1,<- hs];obtain ⟨r,G⟩:∃ r,tb.getD h []=r:=⟨_,rfl⟩;obtain ⟨x,Y⟩:∃ x,ent tb h h=x:=⟨_,rfl⟩;rw [G] at e1 e2 ⊢;rw [Y] at e2 ⊢;obtain ⟨q,O⟩:∃ q,(tb.map fun r=>r.getD h 0)=q:=⟨_,rfl⟩;have B:(tb.map fun r=>PV.int (r.getD h 0))=q.map .int:=by rw [<- O,br]; rfl
 rw [B] at I;rw [O];unfold Q8 at J I ⊢;simp [Xe,Qt,Q87,J,I,U,Jv,Xp,e1,J1,e2]
theorem Kq {n i j:Nat} {tb:List (List Int)} (z:Sz n tb) (hi:i < n) (q:j<=n) (st:Q2):oIx st (Q8 tb) (.int i)=.ok (J1 (tb.getD i [])) st/\oIx st (J1 (tb.getD i [])) (.int j)=.ok (.int (ent tb i j)) st:=by
 constructor
 ·unfold Q8; rw [Qg5,Xp,atI_get (z.row hi).1]; rfl
 ·unfold J1; rw [Qg5,Xp,atI_get (z.cell hi q)]; rfl
def Q18 (tb:List (List Int)) (h:Nat):Bool:=decide (0 < ent tb h h)
theorem Qpy {n h:Nat} {tb:List (List Int)} (z:Sz n tb) (j:h < n) (st:Q2):jf [Q8 tb,.int h] st=.ok (.bl (Q18 tb h)) st:=by
 obtain ⟨q,B⟩:=Kq z j (D9 j) st;unfold Q18;generalize ent tb h h=x at *;generalize tb.getD h []=r at *;simp [jf,Qt,Q1y,q,B]
def Uk (tb:List (List Int)) (h:Nat):Bool:=decide (ent tb h h < (tb.getD h []).sum)
theorem Qqv {n h:Nat} {tb:List (List Int)} (z:Sz n tb) (j:h < n) (st:Q2):Wc [Q8 tb,.int h] st=.ok (.bl (Uk tb h)) st:=by
 obtain ⟨B,q⟩:=Kq z j (D9 j) st;unfold Uk;generalize ent tb h h=x at *;generalize tb.getD h []=r at *;have G:Vt (fun ns=>some (.int ns.sum)) st [J1 r]=.ok (.int r.sum) st:=by unfold J1; rw [Qiq]; rfl
 simp [Wc,Qt,X6,B,q,G]
def Qdr (tb:List (List Int)) (h:Nat) (ls:List Nat):Bool:=ls.any fun o=>decide (o≠h) && decide (0 < ent tb o h)
theorem Qn0 {α:Type} (xs:List α) (p:α->Bool):(xs.map p).any id=xs.any p:=by
 rw [df]; rfl
theorem Qq8 {n h:Nat} {tb:List (List Int)} (z:Sz n tb) (hh:h < n) {ls:List Nat} (G:∀ o∈ls,o < n) (Y:ls.length<=1000) {V:PV} {st:Q2} (O:ListAt st V (ls.map Yc)):Vu [Q8 tb,.int h,V] st=.ok (.bl (Qdr tb h ls)) st:=by
 obtain ⟨w,j,U⟩:=O.src;have hc:Ju (Qn 0) K4 Ki w (Jy [none,some 1,some 0] [some (Q8 tb),some (.int h),some V]) (ls.map Yc) st=.ok ((ls.filter fun o=>decide (o≠h)).map fun o=>.bl (decide (0 < ent tb o h))) st:=by
  refine Q2y _ _ _ U fun o J=>⟨_,rfl,?_,fun ht=>?_⟩
  ·simp [Jy,K4,Yc]
   by_cases e:o=h
   ·simp [e]
   ·have:¬ ((o:Int)=h):=by omega
    simp [e,this]
  ·obtain ⟨Z,I⟩:=Kq z (G o J) (D9 hh) st;generalize ent tb o h=x at *;generalize tb.getD o []=r at *;simp [Jy,Ki,Yc,Z,I]
 have q:(ls.map Yc).length<=1000000:=by rw [O2]; omega
 have B:Qdr tb h ls=((ls.filter fun o=>decide (o≠h)).map fun o=>decide (0 < ent tb o h)).any id:=by
  rw [Qn0,gY]; rfl
 rw [B];generalize ls.map Yc=ov at *;generalize ls.filter (fun o=>decide (o≠h))=fs at *
 simp [Vu,Qt,jk,j,q,Jv,hc,-df]
def Q0h (tb:List (List Int)) (h:Nat) (ls:List Nat):Bool:=Q18 tb h || Qdr tb h ls
theorem Qns {n h:Nat} {tb:List (List Int)} (z:Sz n tb) (B:h < n) {ls:List Nat} (G:∀ o∈ls,o < n) (j:ls.length<=1000) {V:PV} {st:Q2} (I:ListAt st V (ls.map Yc)):qz [Q8 tb,.int h,V] st=.ok (.bl (Q0h tb h ls)) st:=by
 have h1:=Qpy z B st;have h2:=Qq8 z B G j I;unfold Q0h;cases q:Q18 tb h with
 | true=>rw [q] at h1; simp [qz,Qt,Q0u,h1]
 | false=>rw [q] at h1; simp [qz,Qt,Q0u,h1,h2]
theorem Qqg (hs:List Int) (x:Int):((hs.map PV.int).any fun y=>peq y (.int x))=decide (x∈hs):=by
 rw [df,dH,dI,decide_eq_true_iff];constructor
 ·rintro ⟨y,j,e⟩;have:y=x:=by simpa [peq] using e
  rw [<- this]; exact j
 ·intro h;exact ⟨x,h,by simp [peq]⟩
theorem Qre {hs:List Int} {V:PV} {st:Q2} (q:ListAt st V (hs.map .int)) (x:Int) (b:Bool):oIn b st (.int x) V=.ok (.bl (decide (x∈hs) != b)) st:=by
 have j:qe st V=some (hs.map .int):=by
  rcases q with rfl | rfl | ⟨i,rfl,e⟩
  ·rfl
  ·rfl
  ·rw [Q6p,e]
 have hd:der st (.int x)=.int x:=rfl;have z:Y4 dep (.int x)=true:=rfl;have g2:(hs.map PV.int).all (Y4 dep)=true:=by simp [Y4,dep]
 unfold oIn;rw [j,hd];simp only [z,g2,and_self,if_true,Qqg]
theorem ListAt.sl {st:Q2} {V:PV} {xs:List PV} (h:ListAt st V xs) (l u:Option Int):oSl st V l u=.ok (.lst (cut xs l u)) st:=by
 rcases h with rfl | rfl | ⟨i,rfl,e⟩
 ·rfl
 ·rfl
 ·unfold oSl; simp only [Qkt,e]
def Qms (n:Nat) (tb:List (List Int)) (h:Nat):Bool:=(bV (n + 1)).any fun j=>decide (j≠h) && decide (0 < ent tb h j)
theorem Qbg {n j:Nat} {f:Nat->Int} (q:∀ i,i < n->0<=f i) (z:j < n):f j<=Zc n f:=by
 induction n with
 | zero=>exact absurd z (dM _)
 | succ n G=>
  rw [Ja];have B:=q n (cR n)
  by_cases e:j=n
  ·subst e;have:=Q5u (f:=f) (n:=j) fun i hi=>q i (cX hi)
   omega
  ·have:=G (fun i hi=>q i (cX hi)) (by omega)
   omega
theorem Qj7 {n h:Nat} (f:Nat->Int) (q:h < n):Zc n f=f h + Zc n fun j=>if j≠h then f j else 0:=by
 induction n with
 | zero=>exact absurd q (dM _)
 | succ n z=>
  rw [Ja,Ja]
  by_cases e:n=h
  ·subst e;rw [bL (by simp),Wa (f:=f) (g:=fun j=>if j≠n then f j else 0) fun i hi=>by rw [bK (by omega)]]
   omega
  ·rw [bK e,z (by omega)];omega
theorem Qj5 {n h:Nat} {f:Nat->Int} (I:∀ i,i < n->0<=f i) (U:h < n):f h < Zc n f <-> ∃ j,j < n/\j≠h/\0 < f j:=by
 have e:=Qj7 f U;have J:∀ i,i < n->0<=(fun j=>if j≠h then f j else 0) i:=fun i hi=>by
  show 0<=if i≠h then f i else 0
  split
  ·exact I i hi
  ·exact bf _
 constructor
 ·intro q;refine Classical.byContradiction fun z=>?_
  have:Zc n (fun j=>if j≠h then f j else 0)=Zc n fun _=>0:=Wa fun i hi=>by
   by_cases B:i=h
   ·rw [bL (by simp [B])]
   ·rw [bK B];have h1:=I i hi;have h2:¬ 0 < f i:=fun q=>z ⟨i,hi,B,q⟩
    omega
  rw [Q2m] at this;omega
 ·rintro ⟨j,O,G,hp⟩;have:=Qbg J O;simp only [bK G] at this;omega
theorem Qqw {n h:Nat} {tb:List (List Int)} (w:Wt' n tb) (B:h < n):Qms n tb h=Uk tb h:=by
 have hs:(tb.getD h []).sum=Zc (n + 1) fun j=>ent tb h j:=by
  rw [Qcq,(w.sz.row B).2]; rfl
 have hp:=(Qj5 (n:=n + 1) (h:=h) (f:=fun j=>ent tb h j) (fun i hi=>w.ent_nn B (by omega)) (by omega))
 unfold Qms Uk;rw [hs,dH,dI,decide_eq_true_iff,hp];constructor
 ·rintro ⟨j,z,q⟩;simp at q;exact ⟨j,E6.mp z,q.1,q.2⟩
 ·rintro ⟨j,z,a,b⟩;exact ⟨j,E6.mpr z,by simp [a,b]⟩
theorem Qys (x:Int) {n:Nat} (h:1<=n):∃ k:Nat,k < n/\x % (n:Int)=(k:Int):=by
 have:=Q70 x (b:=(n:Int)) (by omega);exact ⟨(x % (n:Int)).toNat,by omega,by omega⟩
def kn3 (tb:List (List Int)) (i:Nat) (bs:List Bool) (j:Nat):List Bool:=if bs.getD i false=true/\i≠j/\0 < ent tb i j then bs.set j true else bs
def kn2 (n:Nat) (tb:List (List Int)) (bs:List Bool) (i:Nat):List Bool:=(bV n).foldl (kn3 tb i) bs
def kn1 (n:Nat) (tb:List (List Int)) (bs:List Bool) (_:Nat):List Bool:=(bV n).foldl (kn2 n tb) bs
def Qc5 (n:Nat) (tb:List (List Int)):List Bool:=(bV n).map (Q18 tb)
def Q5h (n:Nat) (tb:List (List Int)):List Bool:=(bV n).foldl (kn1 n tb) (Qc5 n tb)
theorem Q8v {α β:Type} {f:List α->β->List α} (h:∀ bs x,(f bs x).length=bs.length):∀ (xs:List β) (bs:List α),(xs.foldl f bs).length=bs.length
 | [],_=>rfl
 | x :: xs,bs=>by rw [cr,Q8v h xs,h]
theorem Qgb (tb:List (List Int)) (i:Nat) (bs:List Bool) (j:Nat):(kn3 tb i bs j).length=bs.length:=by
 unfold kn3; split <;> simp
theorem Qgc (n:Nat) (tb:List (List Int)) (bs:List Bool) (i:Nat):(kn2 n tb bs i).length=bs.length:=Q8v (Qgb tb i) _ _
theorem Qqd (n:Nat) (tb:List (List Int)) (bs:List Bool) (t:Nat):(kn1 n tb bs t).length=bs.length:=Q8v (Qgc n tb) _ _
inductive Rc (n:Nat) (tb:List (List Int)):Nat->Prop
 | made {h:Nat}:h < n->Q18 tb h=true->Rc n tb h
 | lent {o h:Nat}:Rc n tb o->h < n->0 < ent tb o h->Rc n tb h
theorem Rc.lt {n h:Nat} {tb:List (List Int)} (r:Rc n tb h):h < n:=by cases r <;> assumption
theorem Xc {α β:Type} {f:β->α->β} {P:β->Prop}:∀ {xs:List α} {b:β},(∀ b x,x∈xs->P b->P (f b x))->P b->P (xs.foldl f b)
 | [],_,_,h=>h
 | x :: xs,b,hs,h=>Xc (xs:=xs) (fun b y j=>hs b y (D0 _ j)) (hs b x D3 h)
theorem Q8w {α β:Type} {f:β->α->β} {P Q:β->Prop} (G:∀ b y,P b->P (f b y)) (q:∀ b y,Q b->Q (f b y)) {x:α} (z:∀ b,P b->Q (f b x)):∀ {xs:List α} {b:β},x∈xs->P b->Q (xs.foldl f b)
 | [],_,j,_=>by cases j
 | y :: ys,b,j,B=>by
  rw [cr];rcases E7.mp j with rfl | j
  ·exact Xc (fun b y _=>q b y) (z b B)
  ·exact Q8w G q z j (G b y B)
def Cl (n:Nat) (tb:List (List Int)) (mem:Nat->Bool):Prop:=∀ o h,o < n->h < n->o≠h->0 < ent tb o h->mem o=true->mem h=true
def cnt (n:Nat) (mem:Nat->Bool):Int:=Zc n fun h=>if mem h=true then 1 else 0
theorem Qty (n:Nat) (mem:Nat->Bool):cnt n mem<=n:=by
 unfold cnt
 induction n with
 | zero=>exact bf _
 | succ n j=>rw [Ja]; split <;> omega
theorem Qmf {n:Nat} {m1 m2:Nat->Bool} (z:∀ h,h < n->m1 h=true->m2 h=true) {h:Nat} (q:h < n) (h1:m1 h=false) (h2:m2 h=true):cnt n m1 + 1<=cnt n m2:=by
 have e:=Q43 n (fun h=>if m2 h=true then (1:Int) else 0) (fun h=>if m1 h=true then 1 else 0)
 have l:=Qbg (n:=n) (j:=h) (f:=fun h=>(if m2 h=true then (1:Int) else 0) - (if m1 h=true then 1 else 0)) (fun i hi=>by
  have:=z i hi;cases a:m1 i <;> cases b:m2 i <;> simp_all) q
 simp only [h1,h2] at l;unfold cnt;simp at l;omega
theorem Qcn {X:Type} (n:Nat) (tb:List (List Int)) (mem:X->Nat->Bool) (f:X->Nat->X) (Inv:X->Prop) (hi:∀ x t,Inv x->Inv (f x t))
  (mono:∀ x t h,Inv x->h < n->mem x h=true->mem (f x t) h=true)
  (Y:∀ x t o h,Inv x->o < n->h < n->o≠h->0 < ent tb o h->mem x o=true->mem (f x t) h=true)
  (stay:∀ x t,Inv x->Cl n tb (mem x)->∀ h,h < n->mem (f x t) h=true->mem x h=true) (G:X) (h0:Inv G):Cl n tb (mem ((bV n).foldl f G)):=by
 have Z:∀ t:Nat,Inv ((bV t).foldl f G)/\(Cl n tb (mem ((bV t).foldl f G))\/(t:Int)<=cnt n (mem ((bV t).foldl f G))):=by
  intro t
  induction t with
  | zero=>
   refine ⟨h0,.inr ?_⟩;exact Q5u fun i _=>by split <;> omega
  | succ t U=>
   rw [dw,List.foldl_append,cr,List.foldl_nil];obtain ⟨O,U⟩:=U;generalize (bV t).foldl f G=x at *;refine ⟨hi x t O,?_⟩;rcases Classical.em (Cl n tb (mem x)) with c | c
   ·refine .inl fun o h B z j I J=>?_
    exact mono x t h O z (c o h B z j I (stay x t O c o B J))
   ·rcases U with U | U
    ·exact absurd U c
    ·refine .inr ?_;have:∃ o h,o < n/\h < n/\o≠h/\0 < ent tb o h/\mem x o=true/\mem x h=false:=by
      refine Classical.byContradiction fun q=>c fun o h B z j I J=>?_
      cases e:mem x h with
      | true=>rfl
      | false=>exact absurd ⟨o,h,B,z,j,I,J,e⟩ q
     obtain ⟨o,h,B,z,j,I,J,hf⟩:=this;have:=Qmf (fun h z=>mono x t h O z) z hf (Y x t o h O B z j I J)
     push_cast
     omega
 obtain ⟨O,h | h⟩:=Z n
 ·exact h
 ·intro o k B hk j I J;generalize (bV n).foldl f G=x at *;cases e:mem x k with
  | true=>rfl
  | false=>
   have:=Qmf (m1:=mem x) (m2:=fun _=>true) (fun _ _ _=>rfl) hk e rfl;have h2:=Qty n fun _=>true
   omega
theorem set_get {bs:List Bool} {j h:Nat}:((bs.set j true).getD h false=true) <-> (h=j/\j < bs.length)\/bs.getD h false=true:=by
 rw [ba,dk]
 by_cases e:j=h
 ·subst e
  by_cases l:j < bs.length
  ·simp [l]
  ·simp [l,ba]
 ·rw [bL e];constructor
  ·intro q; exact .inr q
  ·rintro (⟨q,_⟩ | q)
   ·exact absurd q.symm e
   ·exact q
theorem Q8j {tb:List (List Int)} {i j h:Nat} {bs:List Bool} (q:bs.getD h false=true):(kn3 tb i bs j).getD h false=true:=by
 unfold kn3
 split
 ·exact set_get.mpr (.inr q)
 ·exact q
theorem Q8k {n:Nat} {tb:List (List Int)} {i h:Nat} {bs:List Bool} (q:bs.getD h false=true):(kn2 n tb bs i).getD h false=true:=Xc (P:=fun bs:List Bool=>bs.getD h false=true) (fun _ _ _ q=>Q8j q) q
theorem Qdw {n:Nat} {tb:List (List Int)} {t h:Nat} {bs:List Bool} (q:bs.getD h false=true):(kn1 n tb bs t).getD h false=true:=Xc (P:=fun bs:List Bool=>bs.getD h false=true) (fun _ _ _ q=>Q8k q) q
theorem Qc4 (n:Nat) (tb:List (List Int)):Cl n tb fun h=>(Q5h n tb).getD h false:=by
 refine Qcn n tb (fun (bs:List Bool) h=>bs.getD h false) (kn1 n tb) (fun bs=>bs.length=n) (fun x t B=>by rw [Qqd]; exact B) (fun x t h _ _ q=>Qdw q) (fun x t o h B Z G O Y I=>?_) (fun x t B c h G I=>?_) _ (by simp [Qc5])
 ·show (kn1 n tb x t).getD h false=true;refine Q8w (P:=fun bs:List Bool=>bs.length=n/\bs.getD o false=true) (Q:=fun bs:List Bool=>bs.getD h false=true) (fun bs y q=>⟨by rw [Qgc]; exact q.1,Q8k q.2⟩) (fun bs y q=>Q8k q) (x:=o) (fun bs q=>?_) (E6.mpr Z) ⟨B,I⟩;refine Q8w (P:=fun bs:List Bool=>bs.length=n/\bs.getD o false=true) (Q:=fun bs:List Bool=>bs.getD h false=true) (fun bs y q=>⟨by rw [Qgb]; exact q.1,Q8j q.2⟩) (fun bs y q=>Q8j q) (x:=h) (fun bs q=>?_) (E6.mpr G) q;unfold kn3;rw [bK ⟨q.2,O,Y⟩];exact set_get.mpr (.inl ⟨rfl,by rw [q.1]; exact G⟩)
 ·have:∀ g,g < n->(kn1 n tb x t).getD g false=true->x.getD g false=true:=by
   refine Xc (P:=fun bs:List Bool=>∀ g,g < n->bs.getD g false=true->x.getD g false=true) (fun bs i hi z=>?_) fun g _ q=>q
   refine Xc (P:=fun bs:List Bool=>∀ g,g < n->bs.getD g false=true->x.getD g false=true) (fun bs j hj z g J q=>?_) z;unfold kn3 at q
   split at q
   ·rename_i U;rcases set_get.mp q with ⟨rfl,_⟩ | q
    ·exact c i g (E6.mp hi) J U.2.1 U.2.2 (z i (E6.mp hi) U.1)
    ·exact z g J q
   ·exact z g J q
  exact this h G I
theorem Qdv (n:Nat) (tb:List (List Int)) {h:Nat} (Y:h < n):(Q5h n tb).getD h false=true <-> Rc n tb h:=by
 constructor
 ·have:∀ g,g < n->(Q5h n tb).getD g false=true->Rc n tb g:=by
   refine Xc (P:=fun bs:List Bool=>∀ g,g < n->bs.getD g false=true->Rc n tb g) (fun bs t _ z=>?_) fun g B q=>?_
   ·refine Xc (P:=fun bs:List Bool=>∀ g,g < n->bs.getD g false=true->Rc n tb g) (fun bs i hi z=>?_) z;refine Xc (P:=fun bs:List Bool=>∀ g,g < n->bs.getD g false=true->Rc n tb g) (fun bs j Z z g B q=>?_) z;unfold kn3 at q
    split at q
    ·rename_i J;rcases set_get.mp q with ⟨rfl,_⟩ | q
     ·exact .lent (z i (E6.mp hi) J.1) B J.2.2
     ·exact z g B q
    ·exact z g B q
   ·unfold Qc5 at q;rw [ba,E4,F3 B] at q;exact .made B (by simpa using q)
  exact this h Y
 ·intro r
  induction r with
  | made G U=>
   refine Xc (P:=fun bs:List Bool=>bs.getD _ false=true) (fun bs t _ q=>Qdw q) ?_;unfold Qc5;rw [ba,E4,F3 G];simpa using U
  | @lent o g r G O I=>
   by_cases e:o=g
   ·subst e; exact I r.lt
   ·exact Qc4 n tb o g r.lt G e O (I r.lt)
def RdOk (n:Nat) (fs:List Nat):Prop:=(∀ x∈fs,x < n)/\fs.Nodup
theorem Q5d:∀ {n:Nat} {fs:List Nat},(∀ x∈fs,x < n)->fs.Nodup->fs.length<=n
 | 0,[],_,_=>O8 _
 | 0,x :: _,h,_=>absurd (h x D3) (dM _)
 | n + 1,fs,h,d=>by
  by_cases q:n∈fs
  ·have h1:(fs.erase n).length<=n:=Q5d (fun x j=>by
    have h2:=(d.mem_erase_iff).mp j;have:=h x h2.2;omega) (d.erase n)
   rw [List.length_erase_of_mem q] at h1;omega
  ·have:=Q5d (n:=n) (fs:=fs) (fun x j=>by
    have:=h x j;have:x≠n:=fun e=>q (e ▸ j)
    omega) d
   omega
theorem RdOk.len {n:Nat} {fs:List Nat} (h:RdOk n fs):fs.length<=n:=Q5d h.1 h.2
def AhN (tb:List (List Int)) (fs:List Nat):Prop:=∀ k,k < fs.length->Q18 tb (fs.getD k 0)=true\/∃ o∈fs.take k,0 < ent tb o (fs.getD k 0)
theorem AhN.snoc {tb:List (List Int)} {fs:List Nat} {h:Nat} (a:AhN tb fs) (j:Q18 tb h=true\/∃ o∈fs,0 < ent tb o h):AhN tb (fs ++ [h]):=by
 intro k q;rw [O9,eX] at q
 by_cases e:k < fs.length
 ·have:=a k e;rw [List.take_append_of_le_length (by omega)];rw [show (fs ++ [h]).getD k 0=fs.getD k 0 by rw [ba,ba,O5 e]];exact this
 ·have:k=fs.length:=by omega
  subst this;rw [show (fs ++ [h]).getD fs.length 0=h by simp [ba]];rw [List.take_left];exact j
def Q25 (fs:List Nat):List Int:=fs.map fun k:Nat=>(k:Int)
def rdS (st:Q2) (fs:List Nat):Q2:=st ++ [Cell.lst (fs.map Yc)]
theorem Qjk (st:Q2) (fs:List Nat):(rdS st fs)[st.length]?=some (.lst (fs.map Yc)):=by unfold rdS; simp
theorem Q2s (fs:List Nat):(Q25 fs).map PV.int=fs.map Yc:=by unfold Q25; rw [br]; rfl
theorem intsN_mem {fs:List Nat} {h:Nat}:(h:Int)∈Q25 fs <-> h∈fs:=by
 unfold Q25;rw [dN];constructor
 ·rintro ⟨k,j,e⟩;have:k=h:=by omega
  rw [<- this]; exact j
 ·intro q; exact ⟨h,q,rfl⟩
def Xa (n:Nat) (fs:List Nat):List Nat:=(bV n).filter fun h=>!decide (h∈fs)
def K3 (n:Nat) (tb:List (List Int)) (fs:List Nat):List Nat:=(Xa n fs).filter fun h=>Q0h tb h fs
structure GdR (n:Nat) (tb:List (List Int)) (fs:List Nat):Prop where
 rd:RdOk n fs
 ah:AhN tb fs
 rc:∀ h∈fs,Rc n tb h
theorem AhN.more {tb:List (List Int)}:∀ {ds fs:List Nat},AhN tb fs->(∀ h∈ds,Q18 tb h=true\/∃ o∈fs,0 < ent tb o h)->AhN tb (fs ++ ds)
 | [],fs,a,_=>by rw [bu]; exact a
 | d :: ds,fs,a,h=>by
  rw [show fs ++ d :: ds=(fs ++ [d]) ++ ds by simp];refine AhN.more (a.snoc (h d D3)) fun g j=>?_
  rcases h g (D0 _ j) with q | ⟨o,z,q⟩
  ·exact .inl q
  ·exact .inr ⟨o,F9 _ z,q⟩
theorem Q6z {n:Nat} {tb:List (List Int)} {fs:List Nat} {h:Nat} (q:h∈K3 n tb fs):h < n/\h∉fs/\(Q18 tb h=true\/∃ o∈fs,0 < ent tb o h):=by
 obtain ⟨q1,q2⟩:=cI.mp q;obtain ⟨q3,j⟩:=cI.mp q1;refine ⟨E6.mp q3,by simpa using j,?_⟩;unfold Q0h Qdr at q2;rw [gH] at q2;rcases q2 with q2 | q2
 ·exact .inl q2
 ·obtain ⟨o,z,e⟩:=dI.mp q2;rw [G6] at e;exact .inr ⟨o,z,by simpa using e.2⟩
theorem GdR.step {n:Nat} {tb:List (List Int)} {fs:List Nat} (g:GdR n tb fs):GdR n tb (fs ++ K3 n tb fs):=by
 refine ⟨⟨fun x j=>?_,?_⟩,g.ah.more fun h q=>(Q6z q).2.2,fun h j=>?_⟩
 ·rcases F1.mp j with j | j
  ·exact g.rd.1 x j
  ·exact (Q6z j).1
 ·refine dj.mpr ⟨g.rd.2,(List.nodup_range.filter _).filter _,fun a I b G e=>?_⟩;subst e;exact (Q6z G).2.1 I
 ·rcases F1.mp j with j | j
  ·exact g.rc h j
  ·obtain ⟨h1,_,h2 | ⟨o,B,z⟩⟩:=Q6z j
   ·exact .made h1 h2
   ·exact .lent (g.rc o B) h1 z
theorem GdR.closed {n:Nat} {tb:List (List Int)} {fs:List Nat} (g:GdR n tb fs) (Y:K3 n tb fs=[]) {h:Nat} (Z:h < n):h∈fs <-> Rc n tb h:=by
 refine ⟨g.rc h,fun r=>?_⟩;have j:∀ k,k < n->k∉fs->Q0h tb k fs=false:=fun k O z=>by
  cases e:Q0h tb k fs with
  | false=>rfl
  | true=>
   have:k∈K3 n tb fs:=cI.mpr ⟨cI.mpr ⟨E6.mpr O,by simp [z]⟩,e⟩;rw [Y] at this;cases this
 induction r with
 | @made k B z=>
  refine Classical.byContradiction fun q=>?_
  have:=j k B q;unfold Q0h at this;rw [z] at this;cases this
 | @lent o k r B J U=>
  refine Classical.byContradiction fun q=>?_
  have:=j k B q;unfold Q0h Qdr at this;rw [Bool.or_eq_false_iff,fT] at this;have I:=U r.lt;have G:o≠k:=fun e=>q (e ▸ I)
  exact this.2 o I (by simp [G,J])
theorem Qnr {n:Nat} {tb:List (List Int)} (z:Sz n tb) (hn:n<=100) (st:Q2) (fs:List Nat) (r:RdOk n fs) (b a c:Option PV):Ub [some (Q8 tb),some (.ref st.length),b,a,c] (rdS st fs)=.nx [some (Q8 tb),some (.ref st.length),some (.bl (decide (0 < (K3 n tb fs).length))),some (.lst ((Xa n fs).map Yc)),some (.lst ((K3 n tb fs).map Yc))] (rdS st (fs ++ K3 n tb fs)):=by
 have U:-1000000<=(n:Int)/\(n:Int)<=1000000:=by omega
 have a5:=r.len;have hS:=Qjk st fs;have Z:ListAt (rdS st fs) (.ref st.length) ((Q25 fs).map .int):=.inr (.inr ⟨_,rfl,by rw [Q2s]; exact hS⟩);have B:ListAt (rdS st fs) (.ref st.length) (fs.map Yc):=.inr (.inr ⟨_,rfl,hS⟩);have J:Yw (rdS st fs) [Q8 tb]=.ok (.int n) (rdS st fs):=by simp [Q8,z.1]
 have Y:Ju (Qn 0) U9 Kk [] (Jy [none,some 1] [some (Q8 tb),some (.ref st.length),b,a,c]) (Zu 0 n) (rdS st fs)=.ok ((Xa n fs).map Yc) (rdS st fs):=by
  rw [V5];refine Q2y _ _ _ (by simp) fun j hj=>⟨_,rfl,?_,fun ht=>?_⟩
  ·have I:=Qre Z (j:Int) true
   by_cases q:j∈fs
   ·have q':(j:Int)∈Q25 fs:=intsN_mem.mpr q;generalize rdS st fs=S at *;simp -implicitDefEqProofs [Jy,U9,I,q,q']
   ·have q':¬ (j:Int)∈Q25 fs:=fun z=>q (intsN_mem.mp z)
    generalize rdS st fs=S at *;simp -implicitDefEqProofs [Jy,U9,I,q,q']
  ·simp [Jy,Kk,Yc]
 have O:(Xa n fs).length<=n:=by
  have:=fG (fun h=>!decide (h∈fs)) (bV n)
  rw [F6] at this;exact this
 have a2:∀ h∈Xa n fs,h < n:=fun h hh=>E6.mp (cI.mp hh).1
 have a3:Ju (Qn 0) K5 Kj [] (Jy [none,some 0,some 1] [some (Q8 tb),some (.ref st.length),b,some (.lst ((Xa n fs).map Yc)),c]) ((Xa n fs).map Yc) (rdS st fs)=.ok ((K3 n tb fs).map Yc) (rdS st fs):=by
  unfold K3;refine Q2y _ _ _ (by simp) fun j hj=>⟨_,rfl,?_,fun ht=>?_⟩
  ·have hr:=Qns z (h:=j) (a2 j hj) r.1 (by omega) B;generalize Q0h tb j fs=rb at *;generalize rdS st fs=S at *;generalize (Xa n fs).map Yc=ov at *;simp -implicitDefEqProofs [Jy,K5,Yc,hr]
  ·simp [Jy,Kj,Yc]
 have a4:(K3 n tb fs).length<=n:=F0 (fG _ _) O;have G:(rdS st fs).set st.length (.lst (fs.map Yc ++ (K3 n tb fs).map Yc))=rdS st (fs ++ K3 n tb fs):=by
  unfold rdS;rw [F7];simp
 have l1:((Xa n fs).map Yc).length<=1000000:=by rw [O2]; omega
 have l2:(fs.map Yc).length + ((K3 n tb fs).map Yc).length<=1000000:=by rw [O2,O2]; omega
 have l3:((K3 n tb fs).map Yc).length=(K3 n tb fs).length:=O2 _;generalize rdS st (fs ++ K3 n tb fs)=S2 at *;generalize rdS st fs=S at *;generalize (Xa n fs).map Yc=ov at *;generalize (K3 n tb fs).length=fl at *;generalize (K3 n tb fs).map Yc=fv at *;generalize fs.map Yc=xv at *;rw [l3] at l2;simp -implicitDefEqProofs [Ub,J,U,Jv,Y,l1,a3,hS,Q1x,chg,l2,l3,G]
theorem Qcy {n:Nat} {tb:List (List Int)} (z:Sz n tb) (O:n<=100) (st:Q2):∀ (m j:Nat) (fs:List Nat) (a c:Option PV),GdR n tb fs->n<=fs.length + m->m + 2<=j->∃ fs' G B I,GdR n tb fs'/\K3 n tb fs'=[]/\zp W4 Ub j [some (Q8 tb),some (.ref st.length),some (.bl true),a,c] (rdS st fs)=.nx [some (Q8 tb),some (.ref st.length),G,B,I] (rdS st fs')
 | m,0,_,_,_,_,_,h=>absurd h (by omega)
 | m,1,_,_,_,_,_,h=>absurd h (by omega)
 | m,k + 2,fs,a,c,g,hm,hf=>by
  have J:=Qnr z O st fs g.rd (some (.bl true)) a c;have U:∀ S,W4 [some (Q8 tb),some (.ref st.length),some (.bl true),a,c] S=.ok true S:=fun S=>by simp [W4]
  by_cases e:K3 n tb fs=[]
  ·refine ⟨fs,some (.bl false),some (.lst ((Xa n fs).map Yc)),some (.lst ((K3 n tb fs).map Yc)),g,e,?_⟩;rw [zp,U];simp only [Ue,if_true,J];rw [zp];have Y:∀ S,W4 [some (Q8 tb),some (.ref st.length),some (.bl (decide (0 < (K3 n tb fs).length))),some (.lst ((Xa n fs).map Yc)),some (.lst ((K3 n tb fs).map Yc))] S=.ok false S:=fun S=>by simp [W4,e]
   rw [Y];simp [e]
  ·have hp:0 < (K3 n tb fs).length:=dD.mpr e;have g':=g.step;have q:=g'.rd.len;rw [O9] at q;cases m with
   | zero=>omega
   | succ m=>
    obtain ⟨fs',G,B,I,h1,h2,Z⟩:=Qcy z O st m (k + 1) (fs ++ K3 n tb fs) (some (.lst ((Xa n fs).map Yc))) (some (.lst ((K3 n tb fs).map Yc))) g' (by rw [O9]; omega) (by omega);refine ⟨fs',G,B,I,h1,h2,?_⟩;rw [zp,U];rw [bO hp] at J;simp only [Ue,if_true,J];exact Z
theorem Qet {n:Nat} {tb:List (List Int)} (z:Sz n tb) (B:n<=100) (st:Q2):∃ fs,GdR n tb fs/\K3 n tb fs=[]/\Vq [some (Q8 tb),none,none,none,none] st=.rt (.ref st.length) (rdS st fs):=by
 obtain ⟨fs,J,I,U,g,e,h⟩:=Qcy z B st n 100000 [] none none ⟨⟨fun x j=>(by cases j),gX⟩,fun k G=>absurd G (dM _),fun x j=>(by cases j)⟩ (by simp) (by omega)
 refine ⟨fs,g,e,?_⟩;have q:st ++ [Cell.lst []]=rdS st []:=rfl;generalize rdS st fs=O at *;generalize rdS st []=S1 at *;simp -implicitDefEqProofs [Vq,Jv,q,h]
theorem Qaj {n:Nat} {tb:List (List Int)} (z:Sz n tb) (B:n<=100) (st:Q2):∃ fs,GdR n tb fs/\K3 n tb fs=[]/\Wv [Q8 tb] st=.ok (.lst (fs.map Yc)) st:=by
 obtain ⟨fs,g,e,h⟩:=Qet z B st;refine ⟨fs,g,e,?_⟩;have q:=Qqj (n:=st.length) (r:=st.length) (S:=rdS st fs) (hs:=Q25 fs) (O8 _) (by rw [Q2s]; exact Qjk _ _);rw [Q2s] at q;have j:st <+: rdS st fs:=dG _ _;generalize rdS st fs=G at *;show Qt Vq 5 [Q8 tb] st=_;unfold Qt;rw [show (([Q8 tb]:List PV).map some ++ bR (5 - [Q8 tb].length) none)=[some (Q8 tb),none,none,none,none] from rfl,h];show Sm.fin st (.ref st.length) G=_;unfold Sm.fin;rw [bK j,q];rfl
theorem Qs7 {n:Nat} {tb:List (List Int)} {fs:List Nat} (g:GdR n tb fs) (I:K3 n tb fs=[]):((bV n).all fun h=>(Q5h n tb).getD h false || !Uk tb h)=(bV n).all fun h=>decide (h∈fs) || !Uk tb h:=by
 rw [dH,bx,bx];have B:∀ h,h∈bV n->(decide (h∈fs) || !Uk tb h)=((Q5h n tb).getD h false || !Uk tb h):=fun h G=>by
  have j:=E6.mp G;congr 1;rw [dH,decide_eq_true_iff,g.closed I j,Qdv n tb j]
 constructor <;> intro q x z
 ·rw [B x z]; exact q x z
 ·rw [<- B x z]; exact q x z
def Q3m (n:Nat) (tb:List (List Int)):Bool:=(bV n).all fun h=>(Q5h n tb).getD h false || !Uk tb h
theorem Qk9 {n:Nat} {tb:List (List Int)} {fs:List Nat} (g:GdR n tb fs) (j:K3 n tb fs=[]):(Xa n fs).any (Uk tb)=!Q3m n tb:=by
 unfold Q3m;rw [Qs7 g j];unfold Xa;rw [gY,List.any_eq_not_all_not];congr 2;funext h;rw [Bool.not_and,Bool.not_not]
theorem Q8u {α:Type} (g:α->PV) (J:Gam->Prop) (B:α->Bool) (v:α->PV) {ga:GA} {body:MS} {w:Wt} {st:Q2} (U:wOk w st):∀ {xs:List α},(∀ x∈xs,∀ Γ,J Γ->∃ Γ1,ga (g x) Γ=some Γ1/\(B x=true->∃ j,J j/\body Γ1 st=.nx j st)/\(B x=false->body Γ1 st=.rt (v x) st)) ->
  ∀ Γ,J Γ->(xs.all B=true->∃ I,J I/\Q02 ga body w (xs.map g) Γ st=.nx I st)/\(xs.all B=false->∃ x∈xs,B x=false/\Q02 ga body w (xs.map g) Γ st=.rt (v x) st)
 | [],_,Γ,O=>⟨fun _=>⟨Γ,O,by simp [Q02,U]⟩,fun h=>by simp at h⟩
 | x :: xs,h,Γ,O=>by
  obtain ⟨Γ1,h1,h2,h3⟩:=h x D3 Γ O;rw [F4,Q02,bK U,h1];cases G:B x with
  | false=>
   refine ⟨fun z=>by simp [G] at z,fun _=>⟨x,D3,G,?_⟩⟩
   simp only [h3 G]
  | true=>
   obtain ⟨j,j2,e2⟩:=h2 G;have Z:=Q8u g J B v (ga:=ga) (body:=body) U (xs:=xs) (fun y Y=>h y (D0 _ Y)) j j2
   simp only [e2,cY,G,fH];exact ⟨Z.1,fun q=>by
    obtain ⟨y,Y,p,e⟩:=Z.2 q;exact ⟨y,D0 _ Y,p,e⟩⟩
def Q91 (n:Nat) (tb:List (List Int)):Bool:=((bV n).all fun h=>decide (0<=Qs tb h)) && Q3m n tb
theorem Q34 {n:Nat} {tb:List (List Int)} (z:Sz n tb) (hn:n<=100) (st:Q2):∃ us:List Nat,us.length<=n/\(us=[] <-> Q3m n tb=true)/\W8 [Q8 tb] st=.ok (.lst (us.map Yc)) st:=by
 obtain ⟨fs,g,hc,e⟩:=Qaj z hn st;have I:-1000000<=(n:Int)/\(n:Int)<=1000000:=by omega
 have G:Yw st [Q8 tb]=.ok (.int n) st:=by simp [Q8,z.1]
 have Z:ListAt st (.lst (fs.map Yc)) ((Q25 fs).map .int):=.inl (by rw [Q2s]);have O:Ju (Qn 0) V4 X8 [] (Jy [none,some 1] [some (Q8 tb),some (.lst (fs.map Yc)),none]) (Zu 0 n) st=.ok ((Xa n fs).map Yc) st:=by
  rw [V5];refine Q2y _ _ _ (by simp) fun j hj=>⟨_,rfl,?_,fun ht=>?_⟩
  ·have J:=Qre Z (j:Int) true
   by_cases q:j∈fs
   ·have q':(j:Int)∈Q25 fs:=intsN_mem.mpr q;generalize fs.map Yc=fv at *;simp -implicitDefEqProofs [Jy,V4,J,q,q']
   ·have q':¬ (j:Int)∈Q25 fs:=fun z=>q (intsN_mem.mp z)
    generalize fs.map Yc=fv at *;simp -implicitDefEqProofs [Jy,V4,J,q,q']
  ·simp [Jy,X8,Yc]
 have Y:(Xa n fs).length<=n:=by
  have:=fG (fun h=>!decide (h∈fs)) (bV n)
  rw [F6] at this;exact this
 have a2:∀ h∈Xa n fs,h < n:=fun h hh=>E6.mp (cI.mp hh).1
 have B:=Qk9 g hc;have U:Ju (Qn 0) Jw X7 [] (Jy [none,some 0] [some (Q8 tb),some (.lst (fs.map Yc)),some (.lst ((Xa n fs).map Yc))]) ((Xa n fs).map Yc) st=.ok (((Xa n fs).map (Uk tb)).map .bl) st:=by
  rw [br];refine Yr _ _ (by simp) fun j hj=>⟨_,rfl,?_⟩
  have hb:=Qqv z (a2 j hj) st;show _=Res.ok (PV.bl (Uk tb j)) st;generalize Uk tb j=rb at *;simp -implicitDefEqProofs [Jy,X7,Yc,hb]
 have ha:(Xa n fs).any (Uk tb)=((Xa n fs).map (Uk tb)).any id:=(Qn0 _ _).symm;have l1:((Xa n fs).map Yc).length<=1000000:=by rw [O2]; omega
 have a4:fin st (.lst ((Xa n fs).map Yc)) st=.ok (.lst ((Xa n fs).map Yc)) st:=Ui (by simp [Y4,Yc]);have a3:fin st (.lst []) st=.ok (.lst []) st:=Ui (by simp [Y4]);cases hr:Q3m n tb with
 | true=>
  refine ⟨[],by simp,by simp,?_⟩;rw [hr,ha] at B;rw [cg];generalize (Xa n fs).map (Uk tb)=bs at *;generalize (Xa n fs).map Yc=ov at *;have B:bs.any id=false:=B;simp -implicitDefEqProofs [W8,Qt,Ua,e,G,I,Jv,O,l1,U,B,a3]
 | false=>
  rw [hr] at B;refine ⟨Xa n fs,Y,⟨fun q=>?_,fun q=>by cases q⟩,?_⟩
  ·rw [q] at B; cases B
  ·rw [ha] at B;have B:((Xa n fs).map (Uk tb)).any id=true:=B;generalize (Xa n fs).map (Uk tb)=bs at *;generalize (Xa n fs).map Yc=ov at *;simp -implicitDefEqProofs [W8,Qt,Ua,e,G,I,Jv,O,l1,U,B,a4]
theorem Qb5 {n:Nat} {tb:List (List Int)} (z:Sz n tb) (O:n<=100) (st:Q2):∃ (s:Str) (v:PV),Yd [Q8 tb] st=.ok (.tup [.str s,v]) st/\(s == (bP "comes"))=Q91 n tb:=by
 have B:-1000000<=(n:Int)/\(n:Int)<=1000000:=by omega
 have j:∀ S,Yw S [Q8 tb]=.ok (.int n) S:=fun S=>by simp [Q8,z.1]
 have L:=Q8u (fun k:Nat=>PV.int (k:Int)) (fun Γ=>∃ a,Γ=[some (Q8 tb),a,none]) (fun h=>decide (0<=Qs tb h)) (fun h=>.tup [.str "short",.int h]) (ga:=Qn 1) (body:=Xn) (w:=[]) (st:=st) (by simp) (xs:=bV n) (fun h Z Γ ⟨a,e⟩=>by
  subst e;have G:=Qak z O (E6.mp Z) st;refine ⟨_,rfl,fun hp=>⟨[some (Q8 tb),some (.int h),none],⟨_,rfl⟩,?_⟩,fun hp=>?_⟩
  ·have U:0<=Qs tb h:=by simpa using hp
   have:¬ (Qs tb h < 0):=by omega
   generalize Qs tb h=x at *;simp -implicitDefEqProofs [Xn,G,this]
  ·have U:¬ 0<=Qs tb h:=by simpa using hp
   have:Qs tb h < 0:=by omega
   generalize Qs tb h=x at *;simp -implicitDefEqProofs [Xn,G,this,Jv])
 have L:=L [some (Q8 tb),none,none] ⟨_,rfl⟩;rw [<- V5] at L;unfold Q91;cases ha:(bV n).all fun h=>decide (0<=Qs tb h) with
 | false=>
  obtain ⟨h,Z,hp,e⟩:=L.2 ha;refine ⟨"short",.int h,?_,by rw [fR]; decide +kernel⟩;have I:fin st (.tup [.str "short",.int h]) st=.ok (.tup [.str "short",.int h]) st:=Ui (by simp [Y4]);simp -implicitDefEqProofs [Yd,Qt,Xb,j,B,Jv,e,I]
 | true=>
  obtain ⟨a2,⟨a,rfl⟩,e⟩:=L.1 ha;obtain ⟨us,hl,J,e1⟩:=Q34 z O st;cases G:Q3m n tb with
  | true=>
   have Y:=J.mpr G;subst Y;obtain ⟨fs,g,hc,e2⟩:=Qaj z O st;refine ⟨"comes",.lst (fs.map Yc),?_,by rw [fH]; decide +kernel⟩;have I:fin st (.tup [.str "comes",.lst (fs.map Yc)]) st=.ok (.tup [.str "comes",.lst (fs.map Yc)]) st:=Ui (by simp [Y4,Yc]);rw [cg] at e1;generalize fs.map Yc=fv at *;simp -implicitDefEqProofs [Yd,Qt,Xb,j,B,Jv,e,e1,e2,I]
  | false=>
   have Y:us≠[]:=fun q=>by rw [J.mp q] at G; cases G
   refine ⟨"rootless",.lst (us.map Yc),?_,by rw [fH]; decide +kernel⟩;have hp:0 < (us.map Yc).length:=by rw [O2]; exact dD.mpr Y
   have I:fin st (.tup [.str "rootless",.lst (us.map Yc)]) st=.ok (.tup [.str "rootless",.lst (us.map Yc)]) st:=Ui (by simp [Y4,Yc]);generalize us.map Yc=uv at *;simp -implicitDefEqProofs [Yd,Qt,Xb,j,B,Jv,e,e1,hp,I]
theorem Qg7 {a b:List (List Int)} (h:a.length=b.length) (st:Q2):Z9 [Q8 a,Q8 b] st=.ok .non st:=by
 simp [Z9,Qt,U6,Q8,h]
def Qcz (r1 r2:List Int):Bool:=(r1.zip r2).all fun z=>decide (z.1<=z.2)
theorem Q9n (j q:List Int) (st:Q2) (G:j.length<=lim):Vv [J1 j,J1 q] st=.ok (.bl (Qcz j q)) st:=by
 have B:Ju (jb (Y5 (Qn 0) (Y5 (Qn 1) jc))) Jw Km [] (Jy [none,none] [some (J1 j),some (J1 q)]) ((j.zip q).map fun z=>.tup [.int z.1,.int z.2]) st=.ok ((j.zip q).map fun z=>.bl (decide (z.1<=z.2))) st:=by
  refine Yr _ _ (by simp) fun z hz=>⟨_,rfl,?_⟩
  simp [Jy,Km]
 unfold J1 at B ⊢;simp [Vv,Qt,jm,G,Q1j,B,Qfq,Qcz]
theorem Qi8 (r:List Int) (n:Int) (st:Q2) (q:r.length<=lim):Q2h [J1 r,.int n] st=.ok (.bl (decide ((r.length:Int)=n + 1) && r.all fun i=>decide (0<=i))) st:=by
 have j:Ju (Qn 0) Jw Q40 [] (Jy [none] [some (J1 r),some (.int n)]) (r.map .int) st=.ok (r.map fun i=>.bl (decide (0<=i))) st:=by
  refine Yr _ _ (by simp) fun i hi=>⟨_,rfl,?_⟩
  simp [Jy,Q40,Q10]
 unfold J1 at j ⊢
 by_cases h:(r.length:Int)=n + 1 <;> simp [Q2h,Qt,Q8b,isI,tyN,j,h,q,Qfq]
theorem Qdx {n:Nat} {tb:List (List Int)} (w:Wt' n tb) (st:Q2):ye [Q8 tb] st=.ok (.bl true) st:=by
 have h1:=w.n1;have I:=w.n8;have B:Ju (Qn 0) Jw Q14 [] (Jy [none,some 0] [some (Q8 tb)]) (tb.map J1) st=.ok (tb.map fun _=>.bl true) st:=by
  refine Yr _ _ (by simp) fun r z=>⟨_,rfl,?_⟩
  have e:=w.row r z;have e2:=Qi8 r tb.length st (by rw [e,Jv]; omega);simp [Jy,Q14,Q8,e2];rw [w.len,e];exact ⟨by omega,w.nn r z⟩
 unfold Q8 at B ⊢;have q:(1:Int)<=n:=by omega
 have j:(n:Int)<=8:=by omega
 have G:n<=1000000:=by omega
 simp [ye,Qt,Q3t,isI,tyN,B,w.len,Qfq,q,j,Jv,G]
def maxI (x y:Int):Int:=if y > x then y else x
theorem Qbz (x y:Int):x<=maxI x y:=by unfold maxI; split <;> omega
theorem Qki (x y:Int):y<=maxI x y:=by unfold maxI; split <;> omega
theorem Qby (x y:Int):maxI x y=x\/maxI x y=y:=by unfold maxI; split <;> simp
theorem Qhy {x y:Int} (h:y<=x):maxI x y=x:=by unfold maxI; rw [bL (by omega)]
theorem Qf5 {x y:Int} (h:x<=y):maxI x y=y:=by unfold maxI; split <;> omega
def Vs (a b:List Int):List Int:=(a.zip b).map fun z=>maxI z.1 z.2
def Zw (a b:List (List Int)):List (List Int):=(a.zip b).map fun z=>Vs z.1 z.2
theorem Qa9 (a b:List Int) (B:a.length<=lim) (st:Q2):Ks [J1 a,J1 b] st=.ok (J1 (Vs a b)) st:=by
 have j:Ju (jb (Y5 (Qn 0) (Y5 (Qn 1) jc))) Jw y6 [] (Jy [none,none] [some (J1 a),some (J1 b)]) ((a.zip b).map fun z=>.tup [.int z.1,.int z.2]) st=.ok ((a.zip b).map fun z=>.int (maxI z.1 z.2)) st:=by
  refine Yr _ _ (by simp) fun z hz=>⟨_,rfl,?_⟩
  simp [Jy,y6,maxI]
 have e:((a.zip b).map fun z=>PV.int (maxI z.1 z.2))=(Vs a b).map .int:=by unfold Vs; rw [br]; rfl
 rw [e] at j;have G:Y4 12 (.tup ((Vs a b).map .int))=true:=by simp [Y4]
 generalize Vs a b=q at *;unfold J1 at j ⊢;simp [Ks,Qt,Q0s,B,Q1j,j,Ui G]
theorem Qaw {a b:List (List Int)} (h:a.length=b.length) (G:a.length<=lim) (J:∀ r∈a,r.length<=lim) (st:Q2):yd [Q8 a,Q8 b] st=.ok (Q8 (Zw a b)) st:=by
 have j:Ju (jb (Y5 (Qn 0) (Y5 (Qn 1) jc))) Jw Q3z [] (Jy [none,none] [some (Q8 a),some (Q8 b)]) ((a.zip b).map fun z=>.tup [J1 z.1,J1 z.2]) st=.ok ((a.zip b).map fun z=>J1 (Vs z.1 z.2)) st:=by
  refine Yr _ _ (by simp) fun z hz=>⟨_,rfl,?_⟩
  have:=Qa9 z.1 z.2 (J _ (ce hz).1) st;simp [Jy,Q3z,this]
 have e:((a.zip b).map fun z=>J1 (Vs z.1 z.2))=(Zw a b).map J1:=by unfold Zw; rw [br]; rfl
 rw [e] at j;have B:=Qg7 h st;have I:Y4 12 (.tup ((Zw a b).map J1))=true:=by simp [Y4,J1]
 generalize Zw a b=q at *;unfold Q8 at j B ⊢;simp [yd,Qt,Q8a,G,Q1j,j,B,Ui I]
theorem Qi6 {a b:List Int} (h:a.length=b.length):(Vs a b).length=a.length:=by unfold Vs; simp [h]
theorem Qnd {n:Nat} {a b:List (List Int)} (j:Sz n a) (q:Sz n b):Sz n (Zw a b):=by
 refine ⟨by unfold Zw; simp [j.1,q.1],fun r B=>?_⟩;obtain ⟨z,hz,rfl⟩:=dN.mp B;have:=ce hz;rw [Qi6 (by rw [j.2 _ this.1,q.2 _ this.2]),j.2 _ this.1]
theorem Xd {n i j:Nat} {a b:List (List Int)} (B:Sz n a) (q:Sz n b) (hi:i < n) (G:j<=n):ent (Zw a b) i j=maxI (ent a i j) (ent b i j):=by
 have I:=B.row hi;have rb:=q.row hi;have ca:=B.cell hi G;have J:=q.cell hi G;have e1:(Zw a b).getD i []=Vs (a.getD i []) (b.getD i []):=by
  unfold Zw;rw [ba,E4,(dn (z:=(a.getD i [],b.getD i []))).mpr ⟨I.1,rb.1⟩];rfl
 have e2:(Vs (a.getD i []) (b.getD i []))[j]?=some (maxI (ent a i j) (ent b i j)):=by
  unfold Vs;rw [E4,(dn (z:=(ent a i j,ent b i j))).mpr ⟨ca,J⟩];rfl
 unfold ent;rw [e1,ba,e2];rfl
def yt (n:Nat) (tb:List (List Int)):Int:=Zc n (fun o=>ent tb o o) - Zc n (fun o=>ent tb o n)
def j8 (n:Nat):List Int:=bR (n + 1) 0
theorem Qn3 {n:Nat} (h1:1<=n) (z:n<=8):Wt' n (bR n (j8 n)):=by
 refine ⟨by simp,fun r j=>?_,fun r j x q=>?_,h1,z⟩
 ·rw [fJ j]; simp [j8]
 ·rw [fJ j] at q;rw [fJ q];exact bf _
def qd (tb:List (List Int)) (i j:Nat) (x:Int):List (List Int):=tb.set i ((tb.getD i []).set j x)
theorem Q12 {n i j:Nat} {tb:List (List Int)} (z:Sz n tb) (hi:i < n) (J:j<=n) (x:Int) (a b:Nat):ent (qd tb i j x) a b=if a=i/\b=j then x else ent tb a b:=by
 unfold ent qd;have I:=(z.row hi).2
 by_cases G:a=i
 ·subst G;rw [show (tb.set a ((tb.getD a []).set j x)).getD a []=(tb.getD a []).set j x by rw [ba,E3 (by rw [z.1]; exact hi)]; rfl]
  by_cases B:b=j
  ·subst B;rw [bK ⟨rfl,rfl⟩,ba,E3 (by omega)]; rfl
  ·rw [bL (fun q=>B q.2),ba,O6 (fun q=>B q.symm)]; rfl
 ·rw [bL (fun q=>G q.1)];rw [show (tb.set i ((tb.getD i []).set j x)).getD a []=tb.getD a [] by rw [ba,O6 (fun q=>G q.symm)]; rfl]
theorem Q75 (n i:Nat) (k:Int):Zc n (fun o=>if o=i then k else 0)=if i < n then k else 0:=by
 induction n with
 | zero=>rfl
 | succ n j=>
  rw [Ja,j]
  by_cases e:n=i
  ·subst e; simp
  ·rw [bL e]
   by_cases h:i < n
   ·rw [bK h,bK (by omega)]; omega
   ·rw [bL h,bL (by omega)]; omega
theorem Qnz {n i j:Nat} {tb:List (List Int)} (z:Sz n tb) (hi:i < n) (x:Int):Sz n (qd tb i j x):=by
 unfold qd;refine ⟨by rw [D7]; exact z.1,fun r q=>?_⟩;rcases dy q with q | rfl
 ·exact z.2 r q
 ·rw [D7]; exact (z.row hi).2
theorem Q7k {n i j:Nat} {tb:List (List Int)} (z:Sz n tb) (hi:i < n) (J:j<=n) (k:Int) {h:Nat} (G:h < n) :
  Qs (qd tb i j (ent tb i j + k)) h=Qs tb h + (if h=j then k else 0) - (if h=i then k else 0) + (if h=i/\j=i then k else 0):=by
 have O:=Qnz (j:=j) z hi (ent tb i j + k);have B:∀ a b,ent (qd tb i j (ent tb i j + k)) a b=ent tb a b + if a=i/\b=j then k else 0:=fun a b=>by
  rw [Q12 z hi J]
  split
  ·rename_i q; rw [q.1,q.2]
  ·omega
 rw [Uf O G,Uf z G];have U:Zc n (fun o=>ent (qd tb i j (ent tb i j + k)) o h)=Zc n (fun o=>ent tb o h) + if h=j then k else 0:=by
  rw [Wa (g:=fun o=>ent tb o h + if o=i then (if h=j then k else 0) else 0) fun o _=>by
   rw [B]
   by_cases q1:o=i <;> by_cases q2:h=j <;> simp [q1,q2],Q44,Q75,bK hi]
 have I:Zc n (fun b=>ent (qd tb i j (ent tb i j + k)) h b) + ent (qd tb i j (ent tb i j + k)) h n=Zc n (fun b=>ent tb h b) + ent tb h n + if h=i then k else 0:=by
  rw [<- Ja,<- Ja,Wa (g:=fun b=>ent tb h b + if b=j then (if h=i then k else 0) else 0) fun b _=>by
   rw [B]
   by_cases q1:h=i <;> by_cases q2:b=j <;> simp [q1,q2],Q44,Q75,bK (by omega)]
 rw [U,I,B]
 by_cases q1:h=i <;> by_cases q2:j=i <;> by_cases q3:h=j <;> simp [q1,q2,q3] <;> omega
structure Ca (n:Nat) (tb:List (List Int)):Prop where
 nn:∀ h,h < n->0<=Qs tb h
 bz:∀ h,h < n->Uk tb h=true->Rc n tb h
theorem Ca.comes {n:Nat} {tb:List (List Int)} (c:Ca n tb):Q91 n tb=true:=by
 unfold Q91 Q3m;rw [G6,bx,bx];refine ⟨fun h j=>by simp [c.nn h (E6.mp j)],fun h j=>?_⟩;have j:=E6.mp j;cases q:Uk tb h with
 | false=>simp
 | true=>rw [(Qdv n tb j).mpr (c.bz h j q)]; rfl
theorem Rc.mono {n:Nat} {t1 t2:List (List Int)} (h:∀ a b,a < n->b < n->ent t1 a b<=ent t2 a b) {g:Nat} (r:Rc n t1 g):Rc n t2 g:=by
 induction r with
 | @made k j q=>
  refine .made j ?_;unfold Q18 at *;have:=h k k j j;simp at q;simp; omega
 | @lent o k r j B z=>
  have:=h o k r.lt j;exact .lent z j (by omega)
theorem je {n:Nat} {tb:List (List Int)} (w:Wt' n tb) {h:Nat} (B:h < n):Uk tb h=true <-> ∃ j,j<=n/\j≠h/\0 < ent tb h j:=by
 rw [<- Qqw w B];unfold Qms;rw [dI];constructor
 ·rintro ⟨j,z,q⟩;simp at q;exact ⟨j,by have:=E6.mp z; omega,q.1,q.2⟩
 ·rintro ⟨j,z,q1,q2⟩;exact ⟨j,E6.mpr (by omega),by simp [q1,q2]⟩
theorem Ca.rc_of {n:Nat} {tb:List (List Int)} (w:Wt' n tb) (c:Ca n tb) {i:Nat} (hi:i < n) (U:1<=Qs tb i):Rc n tb i:=by
 rw [Uf w.sz hi] at U;have I:ent tb i i<=Zc n (fun j=>ent tb i j):=Qbg (fun j J=>w.ent_nn hi (D9 J)) hi
 have O:=w.ent_nn hi (O8 n);have:∃ o,o < n/\0 < ent tb o i:=by
  refine Classical.byContradiction fun q=>?_
  have:Zc n (fun o=>ent tb o i)=Zc n fun _=>0:=Wa fun o B=>by
   have h1:=w.ent_nn B (D9 hi);have h2:¬ 0 < ent tb o i:=fun z=>q ⟨o,B,z⟩
   omega
  rw [Q2m] at this;omega
 obtain ⟨o,B,G⟩:=this
 by_cases e:o=i
 ·subst e;exact .made hi (by unfold Q18; simp [G])
 ·exact .lent (c.bz o B ((je w B).mpr ⟨i,D9 hi,fun z=>e z.symm,G⟩)) hi G
theorem Ca.make {n i:Nat} {tb:List (List Int)} (w:Wt' n tb) (c:Ca n tb) (hi:i < n) {k:Int} (O:0<=k) (G:Wt' n (qd tb i i (ent tb i i + k))):Ca n (qd tb i i (ent tb i i + k)):=by
 have B:∀ a b,ent tb a b<=ent (qd tb i i (ent tb i i + k)) a b:=fun a b=>by
  rw [Q12 w.sz hi (D9 hi)]
  split
  ·rename_i q; rw [q.1,q.2]; omega
  ·omega
 refine ⟨fun h z=>?_,fun h z I=>?_⟩
 ·rw [Q7k w.sz hi (D9 hi) k z];have:=c.nn h z
  by_cases q:h=i <;> simp [q] at * <;> omega
 ·obtain ⟨j,J,q1,q2⟩:=(je G z).mp I;rw [Q12 w.sz hi (D9 hi)] at q2;rw [bL (fun q=>q1 (by omega))] at q2
  exact (c.bz h z ((je w z).mpr ⟨j,J,q1,q2⟩)).mono fun a b _ _=>B a b
theorem Ca.give {n i j:Nat} {tb:List (List Int)} (w:Wt' n tb) (c:Ca n tb) (hi:i < n) (O:j<=n) (I:j≠i) {k:Int} (hk:0<=k) (hr:k<=Qs tb i) (J:1<=Qs tb i) (Y:Wt' n (qd tb i j (ent tb i j + k))):Ca n (qd tb i j (ent tb i j + k)):=by
 have G:∀ a b,ent tb a b<=ent (qd tb i j (ent tb i j + k)) a b:=fun a b=>by
  rw [Q12 w.sz hi O]
  split
  ·rename_i q; rw [q.1,q.2]; omega
  ·omega
 refine ⟨fun h B=>?_,fun h B Z=>?_⟩
 ·rw [Q7k w.sz hi O k B];have:=c.nn h B
  by_cases q:h=i
  ·subst q;rw [bL (fun z=>I z.symm),bK rfl,bL (fun z=>I z.2)];omega
  ·by_cases q2:h=j
   ·rw [bK q2,bL q,bL (fun z=>q z.1)]; omega
   ·rw [bL q2,bL q,bL (fun z=>q z.1)]; omega
 ·by_cases q:h=i
  ·subst q;exact (c.rc_of w hi J).mono fun a b _ _=>G a b
  ·obtain ⟨b,U,q1,q2⟩:=(je Y B).mp Z;rw [Q12 w.sz hi O,bL (fun z=>q z.1)] at q2;exact (c.bz h B ((je w B).mpr ⟨b,U,q1,q2⟩)).mono fun a b _ _=>G a b
theorem Ca.zero {n:Nat} (h1:1<=n) (U:n<=8) (w:Wt' n (bR n (j8 n))):Ca n (bR n (j8 n)):=by
 have B:∀ a b,a < n->b<=n->ent (bR n (j8 n)) a b=0:=fun a b O I=>by
  unfold ent j8;rw [show (bR n (bR (n + 1) (0:Int))).getD a []=bR (n + 1) 0 by rw [ba,cU,bK O]; rfl];rw [ba,cU,bK (by omega)]; rfl
 refine ⟨fun h z=>?_,fun h z I=>?_⟩
 ·rw [Uf w.sz z,Wa (g:=fun _=>0) fun o G=>B o h G (D9 z),Wa (f:=fun j=>ent (bR n (j8 n)) h j) (g:=fun _=>0) fun o G=>B h o z (D9 G),Q2m,B h n z (O8 n),B h h z (D9 z)]
  omega
 ·obtain ⟨j,J,_,q⟩:=(je w z).mp I;rw [B h j z J] at q;omega
theorem Qqp {n:Nat} {tb:List (List Int)} (w:Wt' n tb) (st:Q2):Wz [Q8 tb] st=.ok (.bl (Q91 n tb)) st:=by
 have q:=w.n8;obtain ⟨s,v,e,hs⟩:=Qb5 w.sz (by omega) st;have j:=Qdx w st;rw [<- hs];generalize Q8 tb=T at *;simp -implicitDefEqProofs [Wz,Qt,K9,j,e,atI,ixN]
theorem Wt'.set0 {n i j:Nat} {tb:List (List Int)} (w:Wt' n tb) (hi:i < n) {x:Int} (I:0<=x):Wt' n (tb.set i ((tb.getD i []).set j x)):=by
 have J:=(w.sz.row hi).1;have G:=D5 J;generalize tb.getD i []=r at *;refine ⟨by rw [D7]; exact w.len,fun q z=>?_,fun q z y B=>?_,w.n1,w.n8⟩
 ·rcases dy z with z | rfl
  ·exact w.row q z
  ·rw [D7]; exact w.row r G
 ·rcases dy z with z | rfl
  ·exact w.nn q z y B
  ·rcases dy B with B | rfl
   ·exact w.nn r G y B
   ·exact I
theorem Q6n {α:Type} (xs:List α) (i:Nat) (x:α) (h:i < xs.length):xs.take i ++ [x] ++ xs.drop (i + 1)=xs.set i x:=by
 rw [List.set_eq_take_append_cons_drop,bK h,cM]; rfl
theorem Qhc {n i j:Nat} {tb:List (List Int)} (z:Sz n tb) (hn:n<=100) (hi:i < n) (J:j<=n) (k:Int) (st:Q2):Q2f [Q8 tb,.int i,.int j,.int k] st=.ok (Q8 (qd tb i j (ent tb i j + k))) st:=by
 have c0:=Kq z hi J st;have q:=(z.row hi).2;have g1:J1 ((tb.getD i []).set j (ent tb i j + k))=.tup (((tb.getD i []).take j).map .int ++ [.int (ent tb i j + k)] ++ ((tb.getD i []).drop (j + 1)).map .int):=by
  unfold J1;rw [<- Q6n _ _ _ (by omega),F7,F7]; rfl
 have g2:Q8 (qd tb i j (ent tb i j + k))=.tup ((tb.take i).map J1 ++ [J1 ((tb.getD i []).set j (ent tb i j + k))] ++ (tb.drop (i + 1)).map J1):=by
  unfold Q8 qd;rw [<- Q6n _ _ _ (by rw [z.1]; exact hi),F7,F7]; rfl
 have U:cut ((tb.getD i []).map PV.int) none (some (j:Int))=((tb.getD i []).take j).map .int:=by rw [yq,Q06]
 have c4:cut ((tb.getD i []).map PV.int) (some ((j:Int) + 1)) none=((tb.getD i []).drop (j + 1)).map .int:=by rw [yq]; exact congrArg _ (Q2b _ (j + 1))
 have c5:cut (tb.map J1) none (some (i:Int))=(tb.take i).map J1:=by rw [yq,Q06]
 have c6:cut (tb.map J1) (some ((i:Int) + 1)) none=(tb.drop (i + 1)).map J1:=by rw [yq]; exact congrArg _ (Q2b _ (i + 1))
 have l3:(((tb.getD i []).take j).map PV.int).length=j:=by rw [O2,cJ,q]; omega
 have I:(((tb.getD i []).drop (j + 1)).map PV.int).length=n - j:=by rw [O2,cV,q]; omega
 have Z:((tb.take i).map J1).length=i:=by rw [O2,cJ,z.1]; omega
 have l6:((tb.drop (i + 1)).map J1).length=n - (i + 1):=by rw [O2,cV,z.1]
 have Y:j + 1<=1000000:=by omega
 have b2:j + 1 + (n - j)<=1000000:=by omega
 have G:i + 1<=1000000:=by omega
 have b4:i + 1 + (n - (i + 1))<=1000000:=by omega
 have B:fin st (Q8 (qd tb i j (ent tb i j + k))) st=.ok (Q8 (qd tb i j (ent tb i j + k))) st:=Ui (by simp [Y4,Q8,J1]);obtain ⟨O,c2⟩:=c0;have q1:oSl st (J1 (tb.getD i [])) none (some (j:Int))=.ok (.tup (((tb.getD i []).take j).map .int)) st:=by unfold J1; rw [yg,U]
 have q2:oSl st (J1 (tb.getD i [])) (some ((j:Int) + 1)) none=.ok (.tup (((tb.getD i []).drop (j + 1)).map .int)) st:=by unfold J1; rw [yg,c4]
 have q3:oSl st (Q8 tb) none (some (i:Int))=.ok (.tup ((tb.take i).map J1)) st:=by unfold Q8; rw [yg,c5]
 have q4:oSl st (Q8 tb) (some ((i:Int) + 1)) none=.ok (.tup ((tb.drop (i + 1)).map J1)) st:=by unfold Q8; rw [yg,c6]
 rw [g2] at B ⊢;rw [g1] at B ⊢;generalize ent tb i j=x at *;generalize ((tb.getD i []).take j).map PV.int=v3 at *;generalize ((tb.getD i []).drop (j + 1)).map PV.int=v4 at *;generalize (tb.take i).map J1=v5 at *;generalize (tb.drop (i + 1)).map J1=v6 at *;generalize J1 (tb.getD i [])=rv at *;generalize Q8 tb=T at *;simp -implicitDefEqProofs at B;simp -implicitDefEqProofs [Q2f,Qt,Q88,O,c2,q1,q2,q3,q4,Jv,l3,I,Z,l6,Y,b2,G,b4,B]
inductive Dd where
 | mk (h:Nat) (k:Int)
 | ld (h q:Nat) (k:Int)
 | us (h:Nat) (k:Int)
def Dd.h:Dd->Nat
 | .mk h _=>h
 | .ld h _ _=>h
 | .us h _=>h
def Dd.k:Dd->Int
 | .mk _ k=>k
 | .ld _ _ k=>k
 | .us _ k=>k
def Dd.pl (n:Nat):Dd->Nat
 | .mk h _=>h
 | .ld _ q _=>q
 | .us _ _=>n
def Dd.isM:Dd->Bool
 | .mk _ _=>true
 | _=>false
def Dd.V:Dd->PV
 | .mk h k=>.tup [.str "make",.int h,.int k]
 | .ld h q k=>.tup [.str "lend",.int h,.int q,.int k]
 | .us h k=>.tup [.str "use",.int h,.int k]
def Dd.ok (n:Nat):Dd->Prop
 | .mk h k=>h < n/\1<=k
 | .ld h q k=>h < n/\q < n/\q≠h/\1<=k
 | .us h k=>h < n/\1<=k
theorem Dd.ok_h {n:Nat} {d:Dd} (o:d.ok n):d.h < n:=by cases d <;> exact o.1
theorem Dd.ok_k {n:Nat} {d:Dd} (o:d.ok n):1<=d.k:=by
 cases d with
 | mk h k=>exact o.2
 | ld h q k=>exact o.2.2.2
 | us h k=>exact o.2
theorem Dd.ok_pl {n:Nat} {d:Dd} (o:d.ok n):d.pl n<=n:=by
 cases d with
 | mk h k=>exact D9 o.1
 | ld h q k=>exact D9 o.2.1
 | us h k=>exact O8 n
theorem U8 (x:Str) (ns:List Int) (J:ns.length<=100) (st:Q2):Qm [.tup (.str x :: ns.map .int)] st=.ok (.bl true) st:=by
 have G:cut (PV.str x :: ns.map .int) (some 1) none=ns.map .int:=Q2b _ 1;have q:Ju (Qn 0) Jw Vf [] (Jy [none] [some (.tup (.str x :: ns.map .int))]) (ns.map .int) st=.ok (ns.map fun _=>.bl true) st:=by
  refine Yr _ _ (by simp) fun i _=>⟨_,rfl,?_⟩
  simp [Jy,Vf,Q10]
 have e:(ns.map fun _=>PV.bl true)=(ns.map fun _=>true).map PV.bl:=by rw [br]; rfl
 have I:(ns.map fun _=>true).all id=true:=by simp
 have a0:atI (PV.str x :: ns.map .int) 0=some (.str x):=Sm.atI_get (show (PV.str x :: ns.map .int)[0]?=some (.str x) from rfl);have j:(ns.map PV.int).length<=1000000:=by rw [O2]; omega
 rw [e] at q;have B:isI "tuple" (.tup (.str x :: ns.map .int))=true:=rfl;have z:isI "str" (.str x)=true:=rfl;have hz:¬ (((ns.map PV.int).length:Int) + 1=0):=by omega
 generalize (ns.map fun _=>true)=bs at *;generalize ns.map PV.int=O at *;simp -implicitDefEqProofs [Qm,Qt,U7,B,z,a0,G,q,I,Jv,j,hz,-G6]
theorem Qs1:¬ (bP "make" = bP "lend"):=by decide
theorem Qen:¬ (bP "lend" = bP "make"):=by decide
theorem Qek:¬ (bP "use" = bP "make"):=by decide
theorem Qem:¬ (bP "use" = bP "lend"):=by decide
theorem Q8p {n:Nat} {d:Dd} (o:d.ok n) (st:Q2):W9 [d.V] st=.ok (.bl true) st:=by
 have j:=Dd.ok_k o;cases d with
 | mk h k=>
  have t:=U8 "make" [h,k] (by simp) st;have a0:atI [PV.str "make",.int h,.int k] 0=some (.str "make"):=rfl;have a1:atI [PV.str "make",.int h,.int k] (-1)=some (.int k):=rfl;have j:(1:Int)<=k:=j;have t:Qm [.tup [.str "make",.int h,.int k]] st=.ok (.bl true) st:=t;unfold Dd.V;simp -implicitDefEqProofs [W9,Qt,X3,t,a0,a1,j]
 | ld h q k=>
  have t:=U8 "lend" [h,q,k] (by simp) st;have a0:atI [PV.str "lend",.int h,.int q,.int k] 0=some (.str "lend"):=rfl;have a1:atI [PV.str "lend",.int h,.int q,.int k] (-1)=some (.int k):=rfl;have j:(1:Int)<=k:=j;have t:Qm [.tup [.str "lend",.int h,.int q,.int k]] st=.ok (.bl true) st:=t;unfold Dd.V;simp -implicitDefEqProofs [W9,Qt,X3,t,a0,a1,j,Qen]
 | us h k=>
  have t:=U8 "use" [h,k] (by simp) st;have a0:atI [PV.str "use",.int h,.int k] 0=some (.str "use"):=rfl;have a1:atI [PV.str "use",.int h,.int k] (-1)=some (.int k):=rfl;have j:(1:Int)<=k:=j;have t:Qm [.tup [.str "use",.int h,.int k]] st=.ok (.bl true) st:=t;unfold Dd.V;simp -implicitDefEqProofs [W9,Qt,X3,t,a0,a1,j,Qek,Qem]
theorem Qdg {n:Nat} {tb:List (List Int)} (J:tb.length=n) {d:Dd} (o:d.ok n) (st:Q2):Jf [Q8 tb,d.V] st=.ok .non st:=by
 have I:Q39 (fun ns=>.bl (ns.all id)) st [.lst [.bl true]]=.ok (.bl true) st:=Q94 _ st [true]
 have G:Q39 (fun ns=>.bl (ns.all id)) st [.lst [.bl true,.bl true]]=.ok (.bl true) st:=Q94 _ st [true,true]
 have z:∀ i:Nat,i < n->Yu [Q8 tb,.int i] st=.ok (.bl true) st:=fun i hi=>by
  have:=Q23 (V:=Q8 tb) (n:=n) (st:=st) (by simp [Q8,J]) (i:Int);rw [show (decide ((0:Int)<=(i:Int)) && decide ((i:Int) < (n:Int)))=true by simp; omega] at this;exact this
 cases d with
 | mk h k=>
  have e:=z h o.1;have s1:cut [PV.str "make",.int h,.int k] (some 1) (some (-1))=[.int h]:=rfl;have a0:atI [PV.str "make",.int h,.int k] 0=some (.str "make"):=rfl;unfold Dd.V;generalize Q8 tb=T at *;simp -implicitDefEqProofs [Jf,Qt,Yx,s1,a0,Ju,Qn,Jw,Jy,W7,I,G,e,Jv,Qs1]
 | ld h q k=>
  have e:=z h o.1;have e2:=z q o.2.1;have s1:cut [PV.str "lend",.int h,.int q,.int k] (some 1) (some (-1))=[.int h,.int q]:=rfl;have a0:atI [PV.str "lend",.int h,.int q,.int k] 0=some (.str "lend"):=rfl;have a1:atI [PV.int (h:Int),.int q] 0=some (.int h):=rfl;have O:atI [PV.int (h:Int),.int q] 1=some (.int q):=rfl;have B:((h:Int) == (q:Int))=false:=by rw [beq_eq_false_iff_ne]; have:=o.2.2.1; omega
  have j:¬ ((h:Int)=(q:Int)):=by have:=o.2.2.1; omega
  unfold Dd.V;generalize Q8 tb=T at *;simp -implicitDefEqProofs [Jf,Qt,Yx,s1,a0,a1,O,Ju,Qn,Jw,Jy,W7,I,G,e,e2,Jv,B,j]
 | us h k=>
  have e:=z h o.1;have s1:cut [PV.str "use",.int h,.int k] (some 1) (some (-1))=[.int h]:=rfl;have a0:atI [PV.str "use",.int h,.int k] 0=some (.str "use"):=rfl;unfold Dd.V;generalize Q8 tb=T at *;simp -implicitDefEqProofs [Jf,Qt,Yx,s1,a0,Ju,Qn,Jw,Jy,W7,I,G,e,Jv,Qem]
theorem Qjx {n:Nat} {tb:List (List Int)} (z:tb.length=n) {d:Dd} (o:d.ok n) (st:Q2):Wj [Q8 tb,d.V] st=.ok (.int (d.pl n)) st:=by
 cases d with
 | mk h k=>
  have a0:atI [PV.str "make",.int h,.int k] 0=some (.str "make"):=rfl;have a1:atI [PV.str "make",.int h,.int k] 1=some (.int h):=rfl;unfold Dd.V Dd.pl;generalize Q8 tb=T at *;simp -implicitDefEqProofs [Wj,Qt,Ug,a0,a1]
 | ld h q k=>
  have a0:atI [PV.str "lend",.int h,.int q,.int k] 0=some (.str "lend"):=rfl;have a1:atI [PV.str "lend",.int h,.int q,.int k] 2=some (.int q):=rfl;unfold Dd.V Dd.pl;generalize Q8 tb=T at *;simp -implicitDefEqProofs [Wj,Qt,Ug,a0,a1,Qen]
 | us h k=>
  have a0:atI [PV.str "use",.int h,.int k] 0=some (.str "use"):=rfl;have j:(tb.map J1).length=n:=by rw [O2]; exact z
  unfold Dd.V Dd.pl Q8;generalize tb.map J1=T at *;simp -implicitDefEqProofs [Wj,Qt,Ug,a0,j,Qek,Qem]
def Dd.fits (tb:List (List Int)) (d:Dd):Bool:=d.isM || decide (d.k<=Qs tb d.h)
def Dd.put (n:Nat) (tb:List (List Int)) (d:Dd):List (List Int):=qd tb d.h (d.pl n) (ent tb d.h (d.pl n) + d.k)
theorem Dd.a0 (d:Dd) (st:Q2):∃ w:Str,oIx st d.V (.int 0)=.ok (.str w) st/\(w = "make" <-> d.isM=true):=by
 cases d with
 | mk h k=>exact ⟨"make",rfl,by simp [Dd.isM]⟩
 | ld h q k=>exact ⟨"lend",rfl,by simp [Dd.isM,Qen]⟩
 | us h k=>exact ⟨"use",rfl,by simp [Dd.isM,Qek]⟩
theorem Dd.a1 (d:Dd) (st:Q2):oIx st d.V (.int 1)=.ok (.int d.h) st:=by cases d <;> rfl
theorem Dd.al (d:Dd) (st:Q2):oIx st d.V (.int (-1))=.ok (.int d.k) st:=by cases d <;> rfl
theorem Qcb {n:Nat} {tb:List (List Int)} (w:Wt' n tb) {d:Dd} (o:d.ok n) (st:Q2):yf [Q8 tb,d.V] st=if d.fits tb=true then .ok (Q8 (d.put n tb)) st else .exc ⟨"Short",some ("had",.int (Qs tb d.h))⟩ st:=by
 have h8:=w.n8;have e1:=Q8p o st;have e2:=Qdg w.len o st;have e3:=Qak w.sz (by omega) (Dd.ok_h o) st;have e4:=Qjx w.len o st;have e5:=Qhc w.sz (by omega) (Dd.ok_h o) (Dd.ok_pl o) d.k st;obtain ⟨x,J,B⟩:=d.a0 st;have O:=d.a1 st;have U:=d.al st;have Z:st <+: st:=cZ _;have Y:fin st (Q8 (d.put n tb)) st=.ok (Q8 (d.put n tb)) st:=Ui (by simp [Y4,Q8,J1]);have G:Qm5 st ⟨"Short",some ("had",.int (Qs tb d.h))⟩ st=.exc ⟨"Short",some ("had",.int (Qs tb d.h))⟩ st:=by simp [Qm5,fz]
 unfold Dd.put Dd.fits at *;generalize Q8 (qd tb d.h (d.pl n) (ent tb d.h (d.pl n) + d.k))=V2 at *;generalize Qs tb d.h=r at *;generalize Q8 tb=T at *;generalize d.V=DV at *;generalize (d.pl n:Int)=pl at *;generalize d.k=k at *;cases I:d.isM with
 | true=>
  have B:x = "make" := B.mpr I;subst B;simp -implicitDefEqProofs [yf,Qt,Q8c,e1,e2,e4,e5,J,O,U,Y]
 | false=>
  have q:¬ x = "make" := fun z=>by rw [B.mp z] at I; cases I
  by_cases hk:k<=r
  ·have j:¬ r < k:=by omega
   simp -implicitDefEqProofs [yf,Qt,Q8c,e1,e2,e3,e4,e5,J,O,U,Y,q,hk,j]
  ·have j:r < k:=by omega
   simp -implicitDefEqProofs [yf,Qt,Q8c,e1,e2,e3,J,O,U,G,q,hk,j]
theorem Qk {a b:MS} {Γ Γ1:Gam} {S S1:Q2} {r:SR} (h1:a Γ S=.nx Γ1 S1) (h2:b Γ1 S1=r):Qq a b Γ S=r:=by rw [Qdm,h1]; exact h2
theorem J9 {i:Nat} {m:ME} {Γ:Gam} {S S1:Q2} {v:PV} (h:m Γ S=.ok v S1):Jg i m Γ S=.nx (Γ.set i (some v)) S1:=by rw [Qq2,h]; rfl
theorem Qz {n:Nat} {F:FN} {mr:ML} {Γ:Gam} {S S1 j:Q2} {ps:List PV} {v:PV} (h1:mr Γ S=.ok ps S1) (h2:ps.length=n) (q:F ps S1=.ok v j):Qi n F mr Γ S=.ok v j:=by rw [Qau,h1,J5,bK h2,q]
theorem Q9 {o:OP} {a b:ME} {Γ:Gam} {S S1 q j:Q2} {x y v:PV} (h1:a Γ S=.ok x S1) (h2:b Γ S1=.ok y q) (z:o q x y=.ok v j):mOp o a b Γ S=.ok v j:=by rw [Qtd,h1,J5,h2,J5,z]
theorem Q5 {m:ME} {mr:ML} {Γ:Gam} {S S1 j:Q2} {p:PV} {ps:List PV} (h1:m Γ S=.ok p S1) (h2:mr Γ S1=.ok ps j):Q4 m mr Γ S=.ok (p :: ps) j:=by rw [Qkq,h1,J5,h2,J5]
theorem Um {o:CF} {mr:ML} {Γ:Gam} {S S1 j:Q2} {ps:List PV} {v:PV} (h1:mr Γ S=.ok ps S1) (h2:o S1 ps=.ok v j):J6 o mr Γ S=.ok v j:=by rw [Qkr,h1,J5,h2]
theorem Q11 {ga:GA} {mi:MI} {b:MS} {Γ:Gam} {S S1:Q2} {xs:List PV} {w:Wt} {r:SR} (h1:mi Γ S=.ok (xs,w) S1) (h2:Q02 ga b w xs Γ S1=r):Q4k ga mi b Γ S=r:=by rw [Qq4,h1]; exact h2
theorem y3 {c:MT} {a b:MS} {Γ:Gam} {S S1:Q2} {r:SR} (h1:c Γ S=.ok true S1) (h2:a Γ S1=r):Ys c a b Γ S=r:=by rw [Qg9,h1]; exact h2
theorem Wm {c:MT} {a b:MS} {Γ:Gam} {S S1:Q2} {r:SR} (h1:c Γ S=.ok false S1) (h2:b Γ S1=r):Ys c a b Γ S=r:=by rw [Qg9,h1]; exact h2
theorem Qu6 {ga:GA} {m:ME} {Γ Γ1:Gam} {S S1:Q2} {p:PV} (h1:m Γ S=.ok p S1) (h2:ga p Γ=some Γ1):Qks ga m Γ S=.nx Γ1 S1:=by rw [Qq6,h1]; show (match ga p Γ with | some Γ1=>SR.nx Γ1 S1 | none=>.stuck)=_; rw [h2]
theorem Qcs {m:ME} {Γ:Gam} {S S1:Q2} {p:PV} {xs:List PV} {w:Wt} (h1:m Γ S=.ok p S1) (h2:X5 S1 p=some (xs,w)) (j:xs.length<=1000000):xy m Γ S=.ok (xs,w) S1:=by rw [Qq3,h1,J5,h2]; exact bK j
theorem Q1k {m:ML} {Γ:Gam} {S S1:Q2} {ps:List PV} (h:m Γ S=.ok ps S1):K2 m Γ S=.ok (.lst ps) S1:=by rw [Qpz,h,J5]
theorem Kn {cap:List (Option Nat)} {ga:GA} {mi:MI} {mt:MT} {me:ME} {Γ:Gam} {S S1 j:Q2} {xs ys:List PV} {w:Wt} (h1:mi Γ S=.ok (xs,w) S1) (h2:Ju ga mt me w (Jy cap Γ) xs S1=.ok ys j):Y3 cap ga mi mt me Γ S=.ok ys j:=by rw [Qi1,h1,J5,h2]; rfl
theorem Q09 {m:ML} {Γ:Gam} {S S1:Q2} {ps:List PV} (h:m Γ S=.ok ps S1):Q1h m Γ S=.ok (.ref S1.length) (S1 ++ [.lst ps]):=by rw [Qq1,h,J5]
theorem Qf1 {t:MT} {Γ:Gam} {S S1:Q2} {b:Bool} (h:t Γ S=.ok b S1):K6 t Γ S=.ok (!b) S1:=by rw [Qjb,h,J5]
theorem J3 {m:ME} {Γ:Gam} {S S1:Q2} {b:Bool} (h:m Γ S=.ok (.bl b) S1):toB m Γ S=.ok b S1:=by rw [Qrv,h]; rfl
theorem Q7f {mo mi m:ME} {Γ:Gam} {S S1 j q z:Q2} {p o i:PV} (h1:m Γ S=.ok p S1) (h2:mo Γ S1=.ok o j) (B:mi Γ j=.ok i q) (G:Q1n q o i p=some z):Q0w mo mi m Γ S=.nx Γ z:=by
 rw [Qhz,h1,Ue,h2,Ue,B,Ue,G]
theorem Q5t {f:MF} {mo:ME} {mr:ML} {Γ:Gam} {S S1 j q:Q2} {p v:PV} {xs ps:List PV} (h1:mo Γ S=.ok p S1) (h2:Q0y S1 p=some xs) (z:mr Γ S1=.ok ps j) (B:f j p ps=.ok v q):Vh (mBM f mo mr) Γ S=.nx Γ q:=by
 rw [Q8e,Qtg,h1,J5];simp only [h2];rw [z,J5,B,Ue]
theorem Q29 {m:ME} {Γ:Gam} {S S1:Q2} {v:PV} (h:m Γ S=.ok v S1):Vh m Γ S=.nx Γ S1:=by rw [Q8e,h]; rfl
theorem Qsx {a b:MT} {Γ:Gam} {S S1:Q2} (h:a Γ S=.ok true S1):Q45 a b Γ S=.ok true S1:=by rw [Qft,h]; rfl
theorem Qew {a b:MT} {Γ:Gam} {S S1:Q2} {r:Res Bool} (h:a Γ S=.ok false S1) (h2:b Γ S1=r):Q45 a b Γ S=r:=by rw [Qft,h]; exact h2
theorem zt {a b:MS} {Γ:Gam} {S S1:Q2} {v:PV} (h:a Γ S=.rt v S1):Qq a b Γ S=.rt v S1:=by rw [Qdm,h]
theorem jh {mr:ML} {Γ:Gam} {S S1:Q2} {ps:List PV} (h1:mr Γ S=.ok ps S1) (h2:ps.length<=1000000):Kb mr Γ S=.ok (.tup ps) S1:=by rw [Qq0,h1,J5]; exact bK h2
theorem Qmh {n:Nat} {F:FN} {mr:ML} {Γ:Gam} {S S1 j:Q2} {ps:List PV} {x:Exc} (h1:mr Γ S=.ok ps S1) (h2:ps.length=n) (q:F ps S1=.exc x j):Qi n F mr Γ S=.exc x j:=by rw [Qau,h1,J5,bK h2,q]
theorem Q5c {C:aA} {S:Q2} {i:Nat} {fs:List (Str × PV)} (h:S[i]?=some (.obj C fs)):Q3d C S (.ref i)=some (i,fs):=by
 unfold Q3d;simp only [h,if_true]
theorem jp {C:aA} {f:Str} {mo:ME} {Γ:Gam} {S:Q2} {i:Nat} {fs:List (Str × PV)} {q:PV} (h1:mo Γ S=.ok (.ref i) S) (h2:S[i]?=some (.obj C fs)) (j:fs.lookup f=some q):Vr C f mo Γ S=.ok q S:=by
 rw [Qq5,h1,J5,Q5c h2];simp only [j]
theorem jw {C:aA} {f:Str} {mo m:ME} {Γ:Gam} {S S1:Q2} {i:Nat} {fs:List (Str × PV)} {p:PV} (h1:m Γ S=.ok p S1) (h2:mo Γ S1=.ok (.ref i) S1) (j:S1[i]?=some (.obj C fs)) (q:fs.length < 1000):xz C f mo m Γ S=.nx Γ (S1.set i (.obj C (xu f p fs))):=by
 rw [Qdn,h1,Ue,h2,Ue,Q5c j];exact bK q
theorem Qep {C:aA} {f:Str} {mo m:ME} {Γ:Gam} {S S1:Q2} {x:Exc} (h1:m Γ S=.exc x S1):xz C f mo m Γ S=.exc x S1:=by
 rw [Qdn,h1]; rfl
theorem yi {C:aA} {x:Str} {n:Nat} {F:FN} {mo:ME} {mr:ML} {Γ:Gam} {S S1:Q2} {i:Nat} {fs:List (Str × PV)} {ps:List PV} (h1:mo Γ S=.ok (.ref i) S) (h2:S[i]?=some (.obj C fs)) (j:fs.lookup x=none) (q:mr Γ S=.ok ps S1) (z:ps.length + 1=n):Q00 C x n F mo mr Γ S=F (.ref i :: ps) S1:=by
 rw [Qkn,h1,J5,Q5c h2];simp only [j,if_true];rw [q,J5,bK z]
def hsF (h:Nat) (now last:List (List Int)):List (Str × PV):=[("number",.int h),("now",Q8 now),("kept",Q8 last)]
theorem s1:((bP "now") == (bP "number"))=false:=by decide +kernel
theorem s2:((bP "kept") == (bP "number"))=false:=by decide +kernel
theorem s3:((bP "kept") == (bP "now"))=false:=by decide +kernel
theorem s1':¬ (bP "number" = bP "now"):=by decide +kernel
theorem s2':¬ (bP "number" = bP "kept"):=by decide +kernel
theorem s3':¬ (bP "now" = bP "kept"):=by decide +kernel
theorem Q2t (h:Nat) (a b:List (List Int)):(hsF h a b).lookup (bP "number")=some (.int h):=by unfold hsF; rw [E2,beq_self_eq_true]
theorem Q5j (h:Nat) (a b:List (List Int)):(hsF h a b).lookup (bP "now")=some (Q8 a):=by unfold hsF; rw [E2,s1,E2,beq_self_eq_true]
theorem Qgf (h:Nat) (a b:List (List Int)):(hsF h a b).lookup (bP "kept")=some (Q8 b):=by unfold hsF; rw [E2,s2,E2,s3,E2,beq_self_eq_true]
theorem Q4b (h:Nat) (a b c:List (List Int)):xu "now" (Q8 c) (hsF h a b)=hsF h c b:=by
 unfold hsF;rw [xu,bL s1',xu,bK rfl]
theorem Qjq (h:Nat) (a b c:List (List Int)):xu "kept" (Q8 c) (hsF h a b)=hsF h a c:=by
 unfold hsF;rw [xu,bL s2',xu,bL s3',xu,bK rfl]
theorem Q5k (h:Nat) (a b:List (List Int)):(hsF h a b).length < 1000:=by unfold hsF; simp
theorem ym {x:Str} (h1:(x == (bP "number"))=false) (h2:(x == (bP "now"))=false) (j:(x == (bP "kept"))=false) (h:Nat) (a b:List (List Int)):(hsF h a b).lookup x=none:=by
 unfold hsF;rw [E2,h1,E2,h2,E2,j]; rfl
section
variable {C:aA} {S:Q2} {i h n:Nat} {now last:List (List Int)}
def Q67 (C:aA) (S:Q2) (i n:Nat) (now last:List (List Int)) (d:Dd):Res PV:=if d.fits now=true then .ok .non (S.set i (.obj C (hsF d.h (d.put n now) last))) else .exc ⟨"Short",some ("had",.int (Qs now d.h))⟩ S
theorem Qpx (j:S[i]?=some (.obj C (hsF h now last))) (w:Wt' n now) {k:Int} (o:(Dd.mk h k).ok n):Kv C [.ref i,.int k] S=Q67 C S i n now last (.mk h k):=by
 have e:=Qcb w o S;have B:(Vr C "now" (Q3 0)) [some (.ref i),some (.int k)] S=.ok (Q8 now) S:=jp rfl j (Q5j _ _ _);have G:(Vr C "number" (Q3 0)) [some (.ref i),some (.int k)] S=.ok (.int h) S:=jp rfl j (Q2t _ _ _);have z:(Q4 (Vr C "now" (Q3 0)) (Q4 (Kb (Q4 (mC (.str "make")) (Q4 (Vr C "number" (Q3 0)) (Q4 (Q3 1) Qa)))) Qa)) [some (.ref i),some (.int k)] S=.ok [Q8 now,(Dd.mk h k).V] S:=Q5 B (Q5 (jh (Q5 rfl (Q5 G rfl)) (by simp)) rfl);unfold Q67;show Yy (z9 C) 2 _ S=_;unfold Yy;rw [show (([.ref i,.int k]:List PV).map some ++ bR (2 - [PV.ref i,.int k].length) none)=[some (.ref i),some (.int k)] from rfl];unfold z9
 by_cases q:(Dd.mk h k).fits now=true
 ·rw [bK q] at e ⊢;rw [jw (Qz (n:=2) z rfl e) rfl j (Q5k _ _ _),Q4b]; rfl
 ·rw [bL q] at e ⊢;rw [Qep (Qmh (n:=2) z rfl e)]
theorem Qq9 (j:S[i]?=some (.obj C (hsF h now last))) (w:Wt' n now) {t:Nat} {k:Int} (o:(Dd.ld h t k).ok n):Kw C [.ref i,.int t,.int k] S=Q67 C S i n now last (.ld h t k):=by
 have e:=Qcb w o S;have B:(Vr C "now" (Q3 0)) [some (.ref i),some (.int t),some (.int k)] S=.ok (Q8 now) S:=jp rfl j (Q5j _ _ _);have G:(Vr C "number" (Q3 0)) [some (.ref i),some (.int t),some (.int k)] S=.ok (.int h) S:=jp rfl j (Q2t _ _ _);have z:(Q4 (Vr C "now" (Q3 0)) (Q4 (Kb (Q4 (mC (.str "lend")) (Q4 (Vr C "number" (Q3 0)) (Q4 (Q3 1) (Q4 (Q3 2) Qa))))) Qa)) [some (.ref i),some (.int t),some (.int k)] S=.ok [Q8 now,(Dd.ld h t k).V] S:=Q5 B (Q5 (jh (Q5 rfl (Q5 G rfl)) (by simp)) rfl);unfold Q67;show Yy (zc C) 3 _ S=_;unfold Yy;rw [show (([.ref i,.int t,.int k]:List PV).map some ++ bR (3 - [PV.ref i,.int t,.int k].length) none)=[some (.ref i),some (.int t),some (.int k)] from rfl];unfold zc
 by_cases q:(Dd.ld h t k).fits now=true
 ·rw [bK q] at e ⊢;rw [jw (Qz (n:=2) z rfl e) rfl j (Q5k _ _ _),Q4b]; rfl
 ·rw [bL q] at e ⊢;rw [Qep (Qmh (n:=2) z rfl e)]
theorem Qrq (j:S[i]?=some (.obj C (hsF h now last))) (w:Wt' n now) {k:Int} (o:(Dd.us h k).ok n):jg C [.ref i,.int k] S=Q67 C S i n now last (.us h k):=by
 have e:=Qcb w o S;have B:(Vr C "now" (Q3 0)) [some (.ref i),some (.int k)] S=.ok (Q8 now) S:=jp rfl j (Q5j _ _ _);have G:(Vr C "number" (Q3 0)) [some (.ref i),some (.int k)] S=.ok (.int h) S:=jp rfl j (Q2t _ _ _);have z:(Q4 (Vr C "now" (Q3 0)) (Q4 (Kb (Q4 (mC (.str "use")) (Q4 (Vr C "number" (Q3 0)) (Q4 (Q3 1) Qa)))) Qa)) [some (.ref i),some (.int k)] S=.ok [Q8 now,(Dd.us h k).V] S:=Q5 B (Q5 (jh (Q5 rfl (Q5 G rfl)) (by simp)) rfl);unfold Q67;show Yy (yj C) 2 _ S=_;unfold Yy;rw [show (([.ref i,.int k]:List PV).map some ++ bR (2 - [PV.ref i,.int k].length) none)=[some (.ref i),some (.int k)] from rfl];unfold yj
 by_cases q:(Dd.us h k).fits now=true
 ·rw [bK q] at e ⊢;rw [jw (Qz (n:=2) z rfl e) rfl j (Q5k _ _ _),Q4b]; rfl
 ·rw [bL q] at e ⊢;rw [Qep (Qmh (n:=2) z rfl e)]
theorem Qqe (j:S[i]?=some (.obj C (hsF h now last))):Kx C [.ref i] S=.ok .non (S.set i (.obj C (hsF h now now))):=by
 show Yy (ze C) 1 _ S=_;unfold Yy ze;rw [show (([.ref i]:List PV).map some ++ bR (1 - [PV.ref i].length) none)=[some (.ref i)] from rfl,jw (jp rfl j (Q5j _ _ _)) rfl j (Q5k _ _ _),Qjq]
theorem Qqm (j:S[i]?=some (.obj C (hsF h now last))):Ky C [.ref i] S=.ok .non (S.set i (.obj C (hsF h last last))):=by
 show Yy (zf C) 1 _ S=_;unfold Yy zf;rw [show (([.ref i]:List PV).map some ++ bR (1 - [PV.ref i].length) none)=[some (.ref i)] from rfl,jw (jp rfl j (Qgf _ _ _)) rfl j (Q5k _ _ _),Q4b]
theorem Qc9 (S:Q2) (a:List (List Int)):fin S (Q8 a) S=.ok (Q8 a) S:=Ui (by simp [Y4,Q8,J1])
theorem Qi3 (j:S[i]?=some (.obj C (hsF h now last))):Vg C [.ref i] S=.ok (Q8 last) S:=by
 show Qt (Ka C) 1 _ S=_;unfold Qt Ka;rw [show (([.ref i]:List PV).map some ++ bR (1 - [PV.ref i].length) none)=[some (.ref i)] from rfl,Q4j,jp rfl j (Qgf _ _ _)];exact Qc9 S last
theorem Qja (j:S[i]?=some (.obj C (hsF h now last))):Xk C [.ref i] S=.ok (Q8 now) S:=by
 show Qt (j6 C) 1 _ S=_;unfold Qt j6;rw [show (([.ref i]:List PV).map some ++ bR (1 - [PV.ref i].length) none)=[some (.ref i)] from rfl,Q4j,jp rfl j (Q5j _ _ _)];exact Qc9 S now
end
theorem Qqs {C:aA} {S:Q2} {i h n:Nat} {now last L:List (List Int)} (z:S[i]?=some (.obj C (hsF h now last))) (w:Wt' n now) (q:Wt' n L) (J:h < n) (G:Qcz (L.getD h []) (now.getD h [])=true):Kz C [.ref i,Q8 L] S=.ok .non (S.set i (.obj C (hsF h (Zw now L) last))):=by
 have h8:=w.n8;have j:lim=1000000:=rfl;have B:(Vr C "now" (Q3 0)) [some (.ref i),some (Q8 L)] S=.ok (Q8 now) S:=jp rfl z (Q5j _ _ _);have I:(Vr C "number" (Q3 0)) [some (.ref i),some (Q8 L)] S=.ok (.int h) S:=jp rfl z (Q2t _ _ _);have e1:=Qg7 (a:=now) (b:=L) (by rw [w.len,q.len]) S;have O:L[h]?=some (L.getD h []):=getD_some (by rw [q.len]; exact J) [];have Y:now[h]?=some (now.getD h []):=getD_some (by rw [w.len]; exact J) [];have i1:oIx S (Q8 L) (.int h)=.ok (J1 (L.getD h [])) S:=by
  have:oIx S (Q8 L) (.int h)=okO S (atI (L.map J1) (h:Int)):=rfl;rw [this,Xp,Sm.atI_get O]; rfl
 have U:oIx S (Q8 now) (.int h)=.ok (J1 (now.getD h [])) S:=by
  have:oIx S (Q8 now) (.int h)=okO S (atI (now.map J1) (h:Int)):=rfl;rw [this,Xp,Sm.atI_get Y]; rfl
 have Z:∀ r∈now,r.length<=lim:=fun r G=>by rw [w.sz.2 r G,j]; omega
 have e2:=Q9n (L.getD h []) (now.getD h []) S (by rw [q.sz.2 _ (D5 O),j]; omega);rw [G] at e2;have e3:=Qaw (a:=now) (b:=L) (by rw [w.len,q.len]) (by rw [w.len,j]; omega) Z S;have step:zg C [some (.ref i),some (Q8 L)] S=.nx [some (.ref i),some (Q8 L)] (S.set i (.obj C (xu "now" (Q8 (Zw now L)) (hsF h now last)))):=
  Qk (Q29 (Qz (n:=2) (Q5 B rfl) rfl e1)) (Qk (Wm (Qf1 (J3 (Qz (n:=2) (Q5 (Q9 rfl I i1) (Q5 (Q9 B I U) rfl)) rfl e2))) rfl) (jw (Qz (n:=2) (Q5 B rfl) rfl e3) rfl z (Q5k _ _ _)))
 rw [Q4b] at step;show Yy (zg C) 2 _ S=_;unfold Yy;rw [show (([.ref i,Q8 L]:List PV).map some ++ bR (2 - [PV.ref i,Q8 L].length) none)=[some (.ref i),some (Q8 L)] from rfl,step]
abbrev Tab:=List (List Int)
inductive Dx where
 | own (d:Dd)
 | kp (i:Nat)
 | fl (i:Nat)
 | sd (i:Nat)
 | cm (l i:Nat)
def Dx.V:Dx->PV
 | .own d=>d.V
 | .kp i=>.tup [.str "keep",.int i]
 | .fl i=>.tup [.str "fall",.int i]
 | .sd i=>.tup [.str "send",.int i]
 | .cm l i=>.tup [.str "come",.int l,.int i]
structure RS where
 now:List Tab
 last:List Tab
 le:List Tab
def Dx.ok (n:Nat) (s:RS):Dx->Prop
 | .own d=>d.ok n
 | .kp i=>i < n
 | .fl i=>i < n
 | .sd i=>i < n
 | .cm l i=>l < s.le.length/\i < n
def Zv (n:Nat) (s:RS):Dx->RS
 | .own d=>if d.fits (s.now.getD d.h [])=true then ⟨s.now.set d.h (d.put n (s.now.getD d.h [])),s.last,s.le⟩ else s
 | .kp i=>⟨s.now,s.last.set i (s.now.getD i []),s.le⟩
 | .fl i=>⟨s.now.set i (s.last.getD i []),s.last,s.le⟩
 | .sd i=>⟨s.now,s.last,s.le ++ [s.last.getD i []]⟩
 | .cm l i=>⟨s.now.set i (Zw (s.now.getD i []) (s.le.getD l [])),s.last,s.le⟩
def Q6k (s:RS):Dx->PV
 | .own d=>if d.fits (s.now.getD d.h [])=true then .str "done" else .int (Qs (s.now.getD d.h []) d.h)
 | _=>.str "done"
structure RI (n:Nat) (s:RS):Prop where
 ln:s.now.length=n
 ll:s.last.length=n
 wn:∀ i,i < n->Wt' n (s.now.getD i [])
 wl:∀ i,i < n->Wt' n (s.last.getD i [])
 we:∀ L∈s.le,Wt' n L
 up:∀ i j,i < n->j<=n->ent (s.last.getD i []) i j<=ent (s.now.getD i []) i j
 bn:∀ a i j,a < n->i < n->a≠i->j<=n->ent (s.now.getD a []) i j<=ent (s.last.getD i []) i j
 bl:∀ a i j,a < n->i < n->j<=n->ent (s.last.getD a []) i j<=ent (s.last.getD i []) i j
 be:∀ L∈s.le,∀ i j,i < n->j<=n->ent L i j<=ent (s.last.getD i []) i j
theorem Jm {α:Type} {xs:List α} {i:Nat} (hi:i < xs.length) (v d:α) (j:Nat):(xs.set i v).getD j d=if j=i then v else xs.getD j d:=by
 rw [F8,dk,F8]
 by_cases q:i=j
 ·subst q; rw [bK rfl,bK hi,bK rfl]; rfl
 ·rw [bL q,bL (fun z=>q z.symm)]
theorem Qjp {n:Nat} {tb:Tab} (w:Wt' n tb) {d:Dd} (o:d.ok n):Wt' n (d.put n tb):=by
 unfold Dd.put qd;refine Wt'.set0 w (Dd.ok_h o) ?_;have h1:=w.ent_nn (Dd.ok_h o) (Dd.ok_pl o);have h2:=Dd.ok_k o;omega
theorem Q6r {n:Nat} {tb:Tab} (w:Wt' n tb) {d:Dd} (o:d.ok n) (a b:Nat):ent tb a b<=ent (d.put n tb) a b/\(a≠d.h->ent (d.put n tb) a b=ent tb a b):=by
 unfold Dd.put;rw [Q12 w.sz (Dd.ok_h o) (Dd.ok_pl o)];have h2:=Dd.ok_k o;refine ⟨?_,fun h=>bL fun z=>h z.1⟩
 split
 ·rename_i z; rw [z.1,z.2]; omega
 ·exact bf _
theorem Qc6 {n:Nat} {a b:Tab} (q:Wt' n a) (B:Wt' n b):Wt' n (Zw a b):=by
 refine Wt'.of_ent (Qnd q.sz B.sz) q.n1 q.n8 fun i j hi z=>?_
 rw [Xd q.sz B.sz hi z];exact bh (q.ent_nn hi z) (Qbz _ _)
theorem RI.step {n:Nat} {s:RS} (r:RI n s) {x:Dx} (o:x.ok n s):RI n (Zv n s x):=by
 cases x with
 | own d=>
  have O:=Dd.ok_h o;unfold Zv
  by_cases q:d.fits (s.now.getD d.h [])=true
  ·simp only [bK q];have w:=r.wn d.h O;have I:d.h < s.now.length:=by rw [r.ln]; exact O
   refine ⟨by simp only [D7]; exact r.ln,r.ll,fun i hi=>?_,r.wl,r.we,fun i j hi B=>?_,fun a i j J hi G B=>?_,r.bl,r.be⟩
   ·simp only [Jm I]
    split
    ·exact Qjp w o
    ·exact r.wn i hi
   ·simp only [Jm I]
    split
    ·rename_i z; subst z;exact bh (r.up _ j hi B) (Q6r w o _ _).1
    ·exact r.up i j hi B
   ·simp only [Jm I]
    split
    ·rename_i z; subst z;rw [(Q6r w o i j).2 (fun z=>G z.symm)];exact r.bn _ i j J hi G B
    ·exact r.bn a i j J hi G B
  ·simp only [bL q]; exact r
 | kp U=>
  have O:U < n:=o;have I:U < s.last.length:=by rw [r.ll]; exact O
  refine ⟨r.ln,by simp only [Zv,D7]; exact r.ll,r.wn,fun i hi=>?_,r.we,fun i j hi B=>?_,fun a i j J hi G B=>?_,fun a i j J hi B=>?_,fun L Y i j hi B=>?_⟩
  ·simp only [Zv,Jm I]
   split
   ·exact r.wn U O
   ·exact r.wl i hi
  ·simp only [Zv,Jm I]
   split
   ·rename_i z; subst z; exact bf _
   ·exact r.up i j hi B
  ·simp only [Zv,Jm I]
   split
   ·rename_i z; subst z;exact bh (r.bn a i j J hi G B) (r.up i j hi B)
   ·exact r.bn a i j J hi G B
  ·simp only [Zv,Jm I];have Z:ent (s.last.getD a []) i j<=ent (s.last.getD i []) i j:=r.bl a i j J hi B
   split
   ·rename_i z; subst z
    split
    ·rename_i z2; subst z2; exact bf _
    ·rename_i z2;exact r.bn _ i j J hi (fun z=>z2 z.symm) B
   ·split
    ·rename_i z2; subst z2;exact bh Z (r.up _ j hi B)
    ·exact Z
  ·simp only [Zv,Jm I];have Z:=r.be L Y i j hi B
   split
   ·rename_i z; subst z;exact bh Z (r.up _ j hi B)
   ·exact Z
 | fl U=>
  have O:U < n:=o;have I:U < s.now.length:=by rw [r.ln]; exact O
  refine ⟨by simp only [Zv,D7]; exact r.ln,r.ll,fun i hi=>?_,r.wl,r.we,fun i j hi B=>?_,fun a i j J hi G B=>?_,r.bl,r.be⟩
  ·simp only [Zv,Jm I]
   split
   ·exact r.wl U O
   ·exact r.wn i hi
  ·simp only [Zv,Jm I]
   split
   ·rename_i z; subst z; exact bf _
   ·exact r.up i j hi B
  ·simp only [Zv,Jm I]
   split
   ·rename_i z; subst z; exact r.bl _ i j J hi B
   ·exact r.bn a i j J hi G B
 | sd U=>
  have O:U < n:=o;refine ⟨r.ln,r.ll,r.wn,r.wl,fun L Y=>?_,r.up,r.bn,r.bl,fun L Y i j hi B=>?_⟩
  ·rcases F1.mp Y with h | h
   ·exact r.we L h
   ·rw [dO.mp h]; exact r.wl U O
  ·rcases F1.mp Y with h | h
   ·exact r.be L h i j hi B
   ·rw [dO.mp h]; exact r.bl U i j O hi B
 | cm l U=>
  obtain ⟨a2,O⟩:=o;have I:U < s.now.length:=by rw [r.ln]; exact O
  have Y:s.le.getD l []∈s.le:=D5 (getD_some a2 []);have wL:=r.we _ Y;have wN:=r.wn U O;refine ⟨by simp only [Zv,D7]; exact r.ln,r.ll,fun i hi=>?_,r.wl,r.we,fun i j hi B=>?_,fun a i j J hi G B=>?_,r.bl,r.be⟩
  ·simp only [Zv,Jm I]
   split
   ·exact Qc6 wN wL
   ·exact r.wn i hi
  ·simp only [Zv,Jm I]
   split
   ·rename_i z; subst z;rw [Xd wN.sz wL.sz hi B];exact bh (r.up _ j hi B) (Qbz _ _)
   ·exact r.up i j hi B
  ·simp only [Zv,Jm I]
   split
   ·rename_i z; subst z;rw [Xd wN.sz wL.sz hi B];have Z:=r.bn _ i j J hi G B;have b2:=r.be _ Y i j hi B;rcases Qby (ent (s.now.getD a []) i j) (ent (s.le.getD l []) i j) with e | e
    ·rw [e]; exact Z
    ·rw [e]; exact b2
   ·exact r.bn a i j J hi G B
theorem RI.row {n:Nat} {s:RS} (r:RI n s) {L:Tab} (J:L∈s.le) {i:Nat} (hi:i < n):Qcz (L.getD i []) ((s.now.getD i []).getD i [])=true:=by
 unfold Qcz;rw [bx];intro z hz;obtain ⟨j,B⟩:=List.mem_iff_getElem?.mp hz;rw [dn] at B;have I:=r.we L J;have Y:=r.wn i hi;have O:L[i]?=some (L.getD i []):=getD_some (by rw [I.len]; exact hi) [];have U:=I.row _ (D5 O);have q:j<=n:=by have:=(O0.mp B.1).1; omega
 have G:=bh (r.be L J i j hi q) (r.up i j hi q);unfold ent at G;rw [F8,B.1,F8,B.2] at G;simpa using G
theorem Q4p (S:Q2) (a:Str):oEq S (.str a) (.str a)=.ok (.bl true) S:=by simp
theorem ju {a b:Str} (S:Q2) (h:¬ a=b):oEq S (.str a) (.str b)=.ok (.bl false) S:=by simp [h]
theorem Zg:¬ (bP "make" = bP "lend"):=by decide +kernel
theorem Yi:¬ (bP "make" = bP "use"):=by decide +kernel
theorem Z1:¬ (bP "make" = bP "keep"):=by decide +kernel
theorem Z2:¬ (bP "make" = bP "fall"):=by decide +kernel
theorem Z0:¬ (bP "make" = bP "send"):=by decide +kernel
theorem Z3:¬ (bP "make" = bP "come"):=by decide +kernel
theorem Jk:¬ (bP "lend" = bP "make"):=by decide +kernel
theorem Y2:¬ (bP "lend" = bP "use"):=by decide +kernel
theorem Z5:¬ (bP "lend" = bP "keep"):=by decide +kernel
theorem Z6:¬ (bP "lend" = bP "fall"):=by decide +kernel
theorem Z4:¬ (bP "lend" = bP "send"):=by decide +kernel
theorem Z7:¬ (bP "lend" = bP "come"):=by decide +kernel
theorem Z8:¬ (bP "use" = bP "make"):=by decide +kernel
theorem Zy:¬ (bP "use" = bP "lend"):=by decide +kernel
theorem Zz:¬ (bP "use" = bP "keep"):=by decide +kernel
theorem Y0:¬ (bP "use" = bP "fall"):=by decide +kernel
theorem Zx:¬ (bP "use" = bP "send"):=by decide +kernel
theorem Y1:¬ (bP "use" = bP "come"):=by decide +kernel
theorem Zi:¬ (bP "keep" = bP "make"):=by decide +kernel
theorem Zj:¬ (bP "keep" = bP "lend"):=by decide +kernel
theorem Yj:¬ (bP "keep" = bP "use"):=by decide +kernel
theorem Zk:¬ (bP "keep" = bP "fall"):=by decide +kernel
theorem Zh:¬ (bP "keep" = bP "send"):=by decide +kernel
theorem Zm:¬ (bP "keep" = bP "come"):=by decide +kernel
theorem Zp:¬ (bP "fall" = bP "make"):=by decide +kernel
theorem Zq:¬ (bP "fall" = bP "lend"):=by decide +kernel
theorem Yk:¬ (bP "fall" = bP "use"):=by decide +kernel
theorem Jq:¬ (bP "fall" = bP "keep"):=by decide +kernel
theorem Zn:¬ (bP "fall" = bP "send"):=by decide +kernel
theorem Zr:¬ (bP "fall" = bP "come"):=by decide +kernel
theorem Zd:¬ (bP "send" = bP "make"):=by decide +kernel
theorem Ze:¬ (bP "send" = bP "lend"):=by decide +kernel
theorem Yh:¬ (bP "send" = bP "use"):=by decide +kernel
theorem Jn:¬ (bP "send" = bP "keep"):=by decide +kernel
theorem Jp:¬ (bP "send" = bP "fall"):=by decide +kernel
theorem Zf:¬ (bP "send" = bP "come"):=by decide +kernel
theorem Zs:¬ (bP "come" = bP "make"):=by decide +kernel
theorem Zt:¬ (bP "come" = bP "lend"):=by decide +kernel
theorem Ym:¬ (bP "come" = bP "use"):=by decide +kernel
theorem Js:¬ (bP "come" = bP "keep"):=by decide +kernel
theorem Jt:¬ (bP "come" = bP "fall"):=by decide +kernel
theorem Jr:¬ (bP "come" = bP "send"):=by decide +kernel
theorem y4 (S:Q2) (k:Int):oEq S (.int k) .non=.ok (.bl false) S:=rfl
def Dx.oth:Dx->Bool
 | .own _=>false
 | _=>true
theorem Qd9 (x:Dx) (S:Q2):Jd [x.V] S=.ok (.bl x.oth) S:=by
 cases x with
 | own d=>
  cases d with
  | mk h k=>
   have t:Qm [.tup [.str "make",.int h,.int k]] S=.ok (.bl true) S:=U8 "make" [h,k] (by simp) S;have a0:atI [PV.str "make",.int h,.int k] 0=some (.str "make"):=rfl;unfold Dx.V Dd.V Dx.oth;simp -implicitDefEqProofs [Jd,Qt,Yf,zh,y4,t,a0,Zg,Yi,Z1,Z2,Z0,Z3,Jk,Y2,Z5,Z6,Z4,Z7,Z8,Zy,Zz,Y0,Zx,Y1,Zi,Zj,Yj,Zk,Zh,Zm,Zp,Zq,Yk,Jq,Zn,Zr,Zd,Ze,Yh,Jn,Jp,Zf,Zs,Zt,Ym,Js,Jt,Jr]
  | ld h q k=>
   have t:Qm [.tup [.str "lend",.int h,.int q,.int k]] S=.ok (.bl true) S:=U8 "lend" [h,q,k] (by simp) S;have a0:atI [PV.str "lend",.int h,.int q,.int k] 0=some (.str "lend"):=rfl;unfold Dx.V Dd.V Dx.oth;simp -implicitDefEqProofs [Jd,Qt,Yf,zh,y4,t,a0,Zg,Yi,Z1,Z2,Z0,Z3,Jk,Y2,Z5,Z6,Z4,Z7,Z8,Zy,Zz,Y0,Zx,Y1,Zi,Zj,Yj,Zk,Zh,Zm,Zp,Zq,Yk,Jq,Zn,Zr,Zd,Ze,Yh,Jn,Jp,Zf,Zs,Zt,Ym,Js,Jt,Jr]
  | us h k=>
   have t:Qm [.tup [.str "use",.int h,.int k]] S=.ok (.bl true) S:=U8 "use" [h,k] (by simp) S;have a0:atI [PV.str "use",.int h,.int k] 0=some (.str "use"):=rfl;unfold Dx.V Dd.V Dx.oth;simp -implicitDefEqProofs [Jd,Qt,Yf,zh,y4,t,a0,Zg,Yi,Z1,Z2,Z0,Z3,Jk,Y2,Z5,Z6,Z4,Z7,Z8,Zy,Zz,Y0,Zx,Y1,Zi,Zj,Yj,Zk,Zh,Zm,Zp,Zq,Yk,Jq,Zn,Zr,Zd,Ze,Yh,Jn,Jp,Zf,Zs,Zt,Ym,Js,Jt,Jr]
 | kp i=>
  have t:Qm [.tup [.str "keep",.int i]] S=.ok (.bl true) S:=U8 "keep" [i] (by simp) S;have a0:atI [PV.str "keep",.int i] 0=some (.str "keep"):=rfl;unfold Dx.V Dx.oth;simp -implicitDefEqProofs [Jd,Qt,Yf,zh,y4,t,a0,Zg,Yi,Z1,Z2,Z0,Z3,Jk,Y2,Z5,Z6,Z4,Z7,Z8,Zy,Zz,Y0,Zx,Y1,Zi,Zj,Yj,Zk,Zh,Zm,Zp,Zq,Yk,Jq,Zn,Zr,Zd,Ze,Yh,Jn,Jp,Zf,Zs,Zt,Ym,Js,Jt,Jr]
 | fl i=>
  have t:Qm [.tup [.str "fall",.int i]] S=.ok (.bl true) S:=U8 "fall" [i] (by simp) S;have a0:atI [PV.str "fall",.int i] 0=some (.str "fall"):=rfl;unfold Dx.V Dx.oth;simp -implicitDefEqProofs [Jd,Qt,Yf,zh,y4,t,a0,Zg,Yi,Z1,Z2,Z0,Z3,Jk,Y2,Z5,Z6,Z4,Z7,Z8,Zy,Zz,Y0,Zx,Y1,Zi,Zj,Yj,Zk,Zh,Zm,Zp,Zq,Yk,Jq,Zn,Zr,Zd,Ze,Yh,Jn,Jp,Zf,Zs,Zt,Ym,Js,Jt,Jr]
 | sd i=>
  have t:Qm [.tup [.str "send",.int i]] S=.ok (.bl true) S:=U8 "send" [i] (by simp) S;have a0:atI [PV.str "send",.int i] 0=some (.str "send"):=rfl;unfold Dx.V Dx.oth;simp -implicitDefEqProofs [Jd,Qt,Yf,zh,y4,t,a0,Zg,Yi,Z1,Z2,Z0,Z3,Jk,Y2,Z5,Z6,Z4,Z7,Z8,Zy,Zz,Y0,Zx,Y1,Zi,Zj,Yj,Zk,Zh,Zm,Zp,Zq,Yk,Jq,Zn,Zr,Zd,Ze,Yh,Jn,Jp,Zf,Zs,Zt,Ym,Js,Jt,Jr]
 | cm l i=>
  have t:Qm [.tup [.str "come",.int l,.int i]] S=.ok (.bl true) S:=U8 "come" [l,i] (by simp) S;have a0:atI [PV.str "come",.int l,.int i] 0=some (.str "come"):=rfl;unfold Dx.V Dx.oth;simp -implicitDefEqProofs [Jd,Qt,Yf,zh,y4,t,a0,Zg,Yi,Z1,Z2,Z0,Z3,Jk,Y2,Z5,Z6,Z4,Z7,Z8,Zy,Zz,Y0,Zx,Y1,Zi,Zj,Yj,Zk,Zh,Zm,Zp,Zq,Yk,Jq,Zn,Zr,Zd,Ze,Yh,Jn,Jp,Zf,Zs,Zt,Ym,Js,Jt,Jr]
theorem Q4q {x:Dx} (h:x.oth=true) (S:Q2):W9 [x.V] S=.ok (.bl false) S:=by
 cases x with
 | own d=>cases h
 | kp i=>
  have t:Qm [.tup [.str "keep",.int i]] S=.ok (.bl true) S:=U8 "keep" [i] (by simp) S;have a0:atI [PV.str "keep",.int i] 0=some (.str "keep"):=rfl;unfold Dx.V;simp -implicitDefEqProofs [W9,Qt,X3,y4,t,a0,Zg,Yi,Z1,Z2,Z0,Z3,Jk,Y2,Z5,Z6,Z4,Z7,Z8,Zy,Zz,Y0,Zx,Y1,Zi,Zj,Yj,Zk,Zh,Zm,Zp,Zq,Yk,Jq,Zn,Zr,Zd,Ze,Yh,Jn,Jp,Zf,Zs,Zt,Ym,Js,Jt,Jr]
 | fl i=>
  have t:Qm [.tup [.str "fall",.int i]] S=.ok (.bl true) S:=U8 "fall" [i] (by simp) S;have a0:atI [PV.str "fall",.int i] 0=some (.str "fall"):=rfl;unfold Dx.V;simp -implicitDefEqProofs [W9,Qt,X3,y4,t,a0,Zg,Yi,Z1,Z2,Z0,Z3,Jk,Y2,Z5,Z6,Z4,Z7,Z8,Zy,Zz,Y0,Zx,Y1,Zi,Zj,Yj,Zk,Zh,Zm,Zp,Zq,Yk,Jq,Zn,Zr,Zd,Ze,Yh,Jn,Jp,Zf,Zs,Zt,Ym,Js,Jt,Jr]
 | sd i=>
  have t:Qm [.tup [.str "send",.int i]] S=.ok (.bl true) S:=U8 "send" [i] (by simp) S;have a0:atI [PV.str "send",.int i] 0=some (.str "send"):=rfl;unfold Dx.V;simp -implicitDefEqProofs [W9,Qt,X3,y4,t,a0,Zg,Yi,Z1,Z2,Z0,Z3,Jk,Y2,Z5,Z6,Z4,Z7,Z8,Zy,Zz,Y0,Zx,Y1,Zi,Zj,Yj,Zk,Zh,Zm,Zp,Zq,Yk,Jq,Zn,Zr,Zd,Ze,Yh,Jn,Jp,Zf,Zs,Zt,Ym,Js,Jt,Jr]
 | cm l i=>
  have t:Qm [.tup [.str "come",.int l,.int i]] S=.ok (.bl true) S:=U8 "come" [l,i] (by simp) S;have a0:atI [PV.str "come",.int l,.int i] 0=some (.str "come"):=rfl;unfold Dx.V;simp -implicitDefEqProofs [W9,Qt,X3,y4,t,a0,Zg,Yi,Z1,Z2,Z0,Z3,Jk,Y2,Z5,Z6,Z4,Z7,Z8,Zy,Zz,Y0,Zx,Y1,Zi,Zj,Yj,Zk,Zh,Zm,Zp,Zq,Yk,Jq,Zn,Zr,Zd,Ze,Yh,Jn,Jp,Zf,Zs,Zt,Ym,Js,Jt,Jr]
theorem Q26 {n i:Nat} {tb:Tab} (j:tb.length=n) (hi:i < n) (S:Q2):Yu [Q8 tb,.int i] S=.ok (.bl true) S:=by
 have:=Q23 (V:=Q8 tb) (n:=n) (st:=S) (by simp [Q8,j]) (i:Int);rw [show (decide ((0:Int)<=(i:Int)) && decide ((i:Int) < (n:Int)))=true by simp; omega] at this;exact this
theorem Qf2 {n:Nat} {s:RS} {tb:Tab} (q:tb.length=n) {x:Dx} (o:x.ok n s) {S:Q2} {j:Nat} (B:S[j]?=some (.lst (s.le.map Q8))):Jj [Q8 tb,.ref j,x.V] S=.ok .non S:=by
 have ll:Yw S [.ref j]=.ok (.int s.le.length) S:=by
  have G:ListAt S (.ref j) (s.le.map Q8):=.inr (.inr ⟨j,rfl,B⟩);rw [G.len,O2]
 have e2:=Qd9 x S;cases x with
 | own d=>
  have e1:=Q8p o S;have e3:=Qdg q o S;clear e2;show Jj [Q8 tb,.ref j,d.V] S=_;generalize Q8 tb=T at *;generalize d.V=V at *;simp -implicitDefEqProofs [Jj,Qt,Yn,e1,e3]
 | kp i=>
  have e1:=Q4q (x:=.kp i) rfl S;have e3:=Q26 q o S;have a0:atI [PV.str "keep",.int i] 0=some (.str "keep"):=rfl;have a1:atI [PV.str "keep",.int i] (-1)=some (.int i):=rfl;unfold Dx.V Dx.oth at *;generalize Q8 tb=T at *;simp -implicitDefEqProofs [Jj,Qt,Yn,e1,e2,e3,a0,a1,Zg,Yi,Z1,Z2,Z0,Z3,Jk,Y2,Z5,Z6,Z4,Z7,Z8,Zy,Zz,Y0,Zx,Y1,Zi,Zj,Yj,Zk,Zh,Zm,Zp,Zq,Yk,Jq,Zn,Zr,Zd,Ze,Yh,Jn,Jp,Zf,Zs,Zt,Ym,Js,Jt,Jr]
 | fl i=>
  have e1:=Q4q (x:=.fl i) rfl S;have e3:=Q26 q o S;have a0:atI [PV.str "fall",.int i] 0=some (.str "fall"):=rfl;have a1:atI [PV.str "fall",.int i] (-1)=some (.int i):=rfl;unfold Dx.V Dx.oth at *;generalize Q8 tb=T at *;simp -implicitDefEqProofs [Jj,Qt,Yn,e1,e2,e3,a0,a1,Zg,Yi,Z1,Z2,Z0,Z3,Jk,Y2,Z5,Z6,Z4,Z7,Z8,Zy,Zz,Y0,Zx,Y1,Zi,Zj,Yj,Zk,Zh,Zm,Zp,Zq,Yk,Jq,Zn,Zr,Zd,Ze,Yh,Jn,Jp,Zf,Zs,Zt,Ym,Js,Jt,Jr]
 | sd i=>
  have e1:=Q4q (x:=.sd i) rfl S;have e3:=Q26 q o S;have a0:atI [PV.str "send",.int i] 0=some (.str "send"):=rfl;have a1:atI [PV.str "send",.int i] (-1)=some (.int i):=rfl;unfold Dx.V Dx.oth at *;generalize Q8 tb=T at *;simp -implicitDefEqProofs [Jj,Qt,Yn,e1,e2,e3,a0,a1,Zg,Yi,Z1,Z2,Z0,Z3,Jk,Y2,Z5,Z6,Z4,Z7,Z8,Zy,Zz,Y0,Zx,Y1,Zi,Zj,Yj,Zk,Zh,Zm,Zp,Zq,Yk,Jq,Zn,Zr,Zd,Ze,Yh,Jn,Jp,Zf,Zs,Zt,Ym,Js,Jt,Jr]
 | cm l i=>
  have e1:=Q4q (x:=.cm l i) rfl S;have e3:=Q26 q o.2 S;have a0:atI [PV.str "come",.int l,.int i] 0=some (.str "come"):=rfl;have a1:atI [PV.str "come",.int l,.int i] (-1)=some (.int i):=rfl;have I:atI [PV.str "come",.int l,.int i] 1=some (.int l):=rfl;have z:l < s.le.length:=o.1;unfold Dx.V Dx.oth at *;generalize Q8 tb=T at *;generalize s.le.length=nl at *;simp -implicitDefEqProofs [Jj,Qt,Yn,e1,e2,e3,a0,a1,I,ll,z,-Qmr,Zg,Yi,Z1,Z2,Z0,Z3,Jk,Y2,Z5,Z6,Z4,Z7,Z8,Zy,Zz,Y0,Zx,Y1,Zi,Zj,Yj,Zk,Zh,Zm,Zp,Zq,Yk,Jq,Zn,Zr,Zd,Ze,Yh,Jn,Jp,Zf,Zs,Zt,Ym,Js,Jt,Jr]
theorem Q2c {m:MS} {nl:Nat} {ps:List PV} {S q:Q2} {j:Gam} (h:m (ps.map some ++ bR (nl - ps.length) none) S=.nx j q):Yy m nl ps S=.ok .non q:=by unfold Yy; rw [h]
theorem Q07 {m:MS} {nl:Nat} {ps:List PV} {S j:Q2} {v:PV} (h:m (ps.map some ++ bR (nl - ps.length) none) S=.rt v j):Yy m nl ps S=.ok v j:=by unfold Yy; rw [h]
theorem W3 {m:MS} {nl:Nat} {ps:List PV} {S j:Q2} {v:PV} (h:m (ps.map some ++ bR (nl - ps.length) none) S=.rt v j):Qt m nl ps S=fin S v j:=by unfold Qt; rw [h]
def hsV (B n:Nat):PV:=.lst ((bV n).map fun i=>.ref (B + i))
structure HsAt (C:aA) (B n:Nat) (s:RS) (S:Q2):Prop where
 at_:∀ i,i < n->S[B + i]?=some (.obj C (hsF i (s.now.getD i []) (s.last.getD i [])))
theorem Qe0 {B n i:Nat} (hi:i < n) (S:Q2):oIx S (hsV B n) (.int i)=.ok (.ref (B + i)) S:=by
 have:oIx S (hsV B n) (.int i)=okO S (atI ((bV n).map fun i=>PV.ref (B + i)) (i:Int)):=rfl
 rw [this,Xp,Sm.atI_get (show (bV n)[i]?=some i by rw [F3 hi])]; rfl
def Qpj (C:aA) (S:Q2) (i n:Nat) (now last:Tab) (d:Dd) (Γ:Gam):SR:=if d.fits now=true then .nx Γ (S.set i (.obj C (hsF d.h (d.put n now) last))) else .exc ⟨"Short",some ("had",.int (Qs now d.h))⟩ S
theorem Qca {C:aA} {S:Q2} {i n:Nat} {now last:Tab} {d:Dd} {m:ME} {Γ:Gam} (h:m Γ S=Q67 C S i n now last d):Vh m Γ S=Qpj C S i n now last d Γ:=by
 rw [Q8e,h];unfold Q67 Qpj
 split <;> rfl
theorem Qin {C:aA} {S:Q2} {i n nl:Nat} {now last:Tab} {d:Dd} {m:MS} {ps:List PV} {Γ:Gam} (h:m (ps.map some ++ bR (nl - ps.length) none) S=Qpj C S i n now last d Γ):Yy m nl ps S=Q67 C S i n now last d:=by
 unfold Yy;rw [h];unfold Q67 Qpj
 by_cases q:d.fits now=true
 ·rw [bK q,bK q]
 ·rw [bL q,bL q]
theorem Qm8 {C:aA} {B n:Nat} {s:RS} {S:Q2} (A:HsAt C B n s S) (r:RI n s) {d:Dd} (o:d.ok n):V3 C [hsV B n,d.V] S=Q67 C S (B + d.h) n (s.now.getD d.h []) (s.last.getD d.h []) d:=by
 have q:=Dd.ok_h o;have w:=r.wn d.h q;have j:=A.at_ d.h q;have ix:=Qe0 (B:=B) q S;refine Qin (Γ:=[some (hsV B n),some d.V,some (.ref (B + d.h))]) ?_;show yu C [some (hsV B n),some d.V,none] S=_;refine Qk (Γ1:=[some (hsV B n),some d.V,some (.ref (B + d.h))]) (J9 (Q9 rfl (Q9 rfl rfl (Dd.a1 d S)) ix)) ?_;cases d with
 | mk h k=>
  refine y3 (J3 (Q9 (Q9 rfl rfl rfl) rfl (Q4p S _))) (Qca ?_);exact (yi (i:=B + h) rfl j (ym (by decide +kernel) (by decide +kernel) (by decide +kernel) _ _ _) (ps:=[.int k]) (S1:=S) (Q5 (Q9 rfl rfl rfl) rfl) rfl).trans (Qpx j w o)
 | ld h t k=>
  refine Wm (J3 (Q9 (Q9 rfl rfl rfl) rfl (ju S Jk))) (y3 (J3 (Q9 (Q9 rfl rfl rfl) rfl (Q4p S _))) (Qca ?_));exact (yi (i:=B + h) rfl j (ym (by decide +kernel) (by decide +kernel) (by decide +kernel) _ _ _) (ps:=[.int t,.int k]) (S1:=S) (Q5 (Q9 rfl rfl rfl) (Q5 (Q9 rfl rfl rfl) rfl)) rfl).trans (Qq9 j w o)
 | us h k=>
  refine Wm (J3 (Q9 (Q9 rfl rfl rfl) rfl (ju S Z8))) (Wm (J3 (Q9 (Q9 rfl rfl rfl) rfl (ju S Zy))) (Qca ?_));exact (yi (i:=B + h) rfl j (ym (by decide +kernel) (by decide +kernel) (by decide +kernel) _ _ _) (ps:=[.int k]) (S1:=S) (Q5 (Q9 rfl rfl rfl) rfl) rfl).trans (Qrq j w o)
def Q35 (C:aA) (B Lr n:Nat) (s:RS) (S:Q2):Dx->Q2
 | .own d=>if d.fits (s.now.getD d.h [])=true then S.set (B + d.h) (.obj C (hsF d.h (d.put n (s.now.getD d.h [])) (s.last.getD d.h []))) else S
 | .kp i=>S.set (B + i) (.obj C (hsF i (s.now.getD i []) (s.now.getD i [])))
 | .fl i=>S.set (B + i) (.obj C (hsF i (s.last.getD i []) (s.last.getD i [])))
 | .sd i=>S.set Lr (.lst (s.le.map Q8 ++ [Q8 (s.last.getD i [])]))
 | .cm l i=>S.set (B + i) (.obj C (hsF i (Zw (s.now.getD i []) (s.le.getD l [])) (s.last.getD i [])))
theorem Q2z {S:Q2} {L:Nat} {xs:List PV} (h:S[L]?=some (.lst xs)) (j:xs.length < 1000000) (y:PV):Vp S (.ref L) [y]=.ok .non (S.set L (.lst (xs ++ [y]))):=by
 simp only [Vp,chg,h];rw [bK (show xs.length < lim from j)]
theorem Qfg {C:aA} {B j n:Nat} {s:RS} {S:Q2} (A:HsAt C B n s S) (G:S[j]?=some (.lst (s.le.map Q8))) (Y:s.le.length < 100000) (r:RI n s) {x:Dx} (o:x.ok n s) (J:x.oth=true):Xq C [hsV B n,.ref j,x.V] S=.ok .non (Q35 C B j n s S x):=by
 have O:ListAt S (.ref j) (s.le.map Q8):=.inr (.inr ⟨j,rfl,G⟩);cases x with
 | own d=>cases J
 | kp i=>
  have hi:i < n:=o;have q:=A.at_ i hi;have st:Wu C [some (hsV B n),some (.ref j),some (Dx.kp i).V,none] S=.nx [some (hsV B n),some (.ref j),some (Dx.kp i).V,some (.ref (B + i))] (Q35 C B j n s S (.kp i)):=
   Qk (J9 (Q9 rfl (Q9 rfl rfl rfl) (Qe0 hi S))) (y3 (J3 (Q9 (Q9 rfl rfl rfl) rfl (Q4p S _))) (Q29 ((yi (i:=B + i) rfl q (ym (by decide +kernel) (by decide +kernel) (by decide +kernel) _ _ _) (ps:=[]) (S1:=S) rfl rfl).trans (Qqe q))))
  exact Q2c st
 | fl i=>
  have hi:i < n:=o;have q:=A.at_ i hi;have st:Wu C [some (hsV B n),some (.ref j),some (Dx.fl i).V,none] S=.nx [some (hsV B n),some (.ref j),some (Dx.fl i).V,some (.ref (B + i))] (Q35 C B j n s S (.fl i)):=
   Qk (J9 (Q9 rfl (Q9 rfl rfl rfl) (Qe0 hi S))) (Wm (J3 (Q9 (Q9 rfl rfl rfl) rfl (ju S Jq))) (y3 (J3 (Q9 (Q9 rfl rfl rfl) rfl (Q4p S _))) (Q29 ((yi (i:=B + i) rfl q (ym (by decide +kernel) (by decide +kernel) (by decide +kernel) _ _ _) (ps:=[]) (S1:=S) rfl rfl).trans (Qqm q)))))
  exact Q2c st
 | sd i=>
  have hi:i < n:=o;have q:=A.at_ i hi;have lt:Q00 C "letter" 1 (Vg C) (Q3 3) Qa [some (hsV B n),some (.ref j),some (Dx.sd i).V,some (.ref (B + i))] S=.ok (Q8 (s.last.getD i [])) S:=(yi (i:=B + i) rfl q (ym (by decide +kernel) (by decide +kernel) (by decide +kernel) _ _ _) (ps:=[]) (S1:=S) rfl rfl).trans (Qi3 q);have st:Wu C [some (hsV B n),some (.ref j),some (Dx.sd i).V,none] S=.nx [some (hsV B n),some (.ref j),some (Dx.sd i).V,some (.ref (B + i))] (Q35 C B j n s S (.sd i)):=
   Qk (J9 (Q9 rfl (Q9 rfl rfl rfl) (Qe0 hi S))) (Wm (J3 (Q9 (Q9 rfl rfl rfl) rfl (ju S Jn))) (Wm (J3 (Q9 (Q9 rfl rfl rfl) rfl (ju S Jp))) (y3 (J3 (Q9 (Q9 rfl rfl rfl) rfl (Q4p S _)))
    (Q5t (p:=.ref j) rfl (qt G) (Q5 lt rfl) (Q2z G (by rw [O2]; omega) _)))))
  exact Q2c st
 | cm l i=>
  obtain ⟨z,hi⟩:=o;have q:=A.at_ i hi;have I:s.le.getD l []∈s.le:=D5 (getD_some z []);have U:oIx S (.ref j) (.int l)=.ok (Q8 (s.le.getD l [])) S:=by
   rw [O.ix,Xp,Sm.atI_get (getD_some z [])]; rfl
  have st:Wu C [some (hsV B n),some (.ref j),some (Dx.cm l i).V,none] S=.nx [some (hsV B n),some (.ref j),some (Dx.cm l i).V,some (.ref (B + i))] (Q35 C B j n s S (.cm l i)):=
   Qk (J9 (Q9 rfl (Q9 rfl rfl rfl) (Qe0 hi S))) (Wm (J3 (Q9 (Q9 rfl rfl rfl) rfl (ju S Js))) (Wm (J3 (Q9 (Q9 rfl rfl rfl) rfl (ju S Jt))) (Wm (J3 (Q9 (Q9 rfl rfl rfl) rfl (ju S Jr)))
    (Q29 ((yi (i:=B + i) rfl q (ym (by decide +kernel) (by decide +kernel) (by decide +kernel) _ _ _) (ps:=[Q8 (s.le.getD l [])]) (S1:=S) (Q5 (Q9 rfl (Q9 rfl rfl rfl) U) rfl) rfl).trans (Qqs q (r.wn i hi) (r.we _ I) hi (r.row I hi)))))))
  exact Q2c st
theorem Qiw {C:aA} {B j n:Nat} {s:RS} {S:Q2} (A:HsAt C B n s S) (O:S[j]?=some (.lst (s.le.map Q8))) (J:s.le.length < 100000) (r:RI n s) {x:Dx} (o:x.ok n s):yr C [hsV B n,.ref j,x.V] S=.ok (Q6k s x) (Q35 C B j n s S x):=by
 have e1:(toB (Qi 1 Jd (Q4 (Q3 2) Qa))) [some (hsV B n),some (.ref j),some x.V,none] S=.ok x.oth S:=J3 (Qz (n:=1) (Q5 rfl rfl) rfl (Qd9 x S));cases G:x.oth with
 | true=>
  rw [G] at e1;have st:ja C [some (hsV B n),some (.ref j),some x.V,none] S=.rt (.str "done") (Q35 C B j n s S x):=zt (y3 e1 (Qk (Q29 (Qz (n:=3) (Q5 rfl (Q5 rfl (Q5 rfl rfl))) rfl (Qfg A O J r o G))) rfl));refine (Q07 st).trans ?_;cases x with
  | own d=>cases G
  | _=>rfl
 | false=>
  rw [G] at e1;cases x with
  | own d=>
   have e2:=Qm8 A r (d:=d) o;have e3:Qdk "Short" "had" 3 2 (V3 C) (Q4 (Q3 0) (Q4 (Q3 2) Qa)) [some (hsV B n),some (.ref j),some d.V,none] S=(match V3 C [hsV B n,d.V] S with
    | .ok _ I=>SR.nx [some (hsV B n),some (.ref j),some d.V,none] I
    | .exc x I=>if x.cls = "Short" then (match x.fs with | some (f,.int z)=>if f = "had" then .rt (.int z) I else .stuck | _=>.stuck) else .stuck
    | .stuck=>.stuck):=by
    rw [Qkm,Q5 (m:=Q3 0) (p:=hsV B n) (S1:=S) rfl (Q5 (m:=Q3 2) (p:=d.V) (S1:=S) rfl (show Qa _ S=.ok [] S from rfl)),Ue];exact bK ⟨rfl,show 3 < 4 by decide⟩
   rw [e2] at e3;unfold Q67 at e3
   by_cases q:d.fits (s.now.getD d.h [])=true
   ·rw [bK q] at e3;have st:ja C [some (hsV B n),some (.ref j),some (Dx.own d).V,none] S=.rt (.str "done") (S.set (B + d.h) (.obj C (hsF d.h (d.put n (s.now.getD d.h [])) (s.last.getD d.h [])))):=Qk (Wm e1 rfl) (Qk e3 rfl);refine (Q07 st).trans ?_;unfold Q35 Q6k;simp only [bK q]
   ·rw [bL q] at e3;have e3:Qdk "Short" "had" 3 2 (V3 C) (Q4 (Q3 0) (Q4 (Q3 2) Qa)) [some (hsV B n),some (.ref j),some d.V,none] S=.rt (.int (Qs (s.now.getD d.h []) d.h)) S:=e3.trans (by simp);have st:ja C [some (hsV B n),some (.ref j),some (Dx.own d).V,none] S=.rt (.int (Qs (s.now.getD d.h []) d.h)) S:=Qk (Wm e1 rfl) (zt e3);refine (Q07 st).trans ?_;unfold Q35 Q6k;simp only [bL q]
  | kp i=>cases G
  | fl i=>cases G
  | sd i=>cases G
  | cm l i=>cases G
theorem Qsu {C:aA} {B j n:Nat} {s:RS} {S:Q2} (A:HsAt C B n s S) (J:S[j]?=some (.lst (s.le.map Q8))) (Z:B + n<=j) (r:RI n s) {x:Dx} (o:x.ok n s):HsAt C B n (Zv n s x) (Q35 C B j n s S x)/\(Q35 C B j n s S x)[j]?=some (.lst ((Zv n s x).le.map Q8))/\(∀ t,(t < B\/j < t)->(Q35 C B j n s S x)[t]?=S[t]?)/\(Q35 C B j n s S x).length=S.length:=by
 have I:∀ (h:Nat) (a b:Tab),h < n->∀ s':RS,s'.le=s.le->(∀ i,i < n->s'.now.getD i []=if i=h then a else s.now.getD i [])->(∀ i,i < n->s'.last.getD i []=if i=h then b else s.last.getD i []) ->
   HsAt C B n s' (S.set (B + h) (.obj C (hsF h a b)))/\(S.set (B + h) (.obj C (hsF h a b)))[j]?=some (.lst (s'.le.map Q8))/\(∀ t,(t < B\/j < t)->(S.set (B + h) (.obj C (hsF h a b)))[t]?=S[t]?)/\(S.set (B + h) (.obj C (hsF h a b))).length=S.length:=by
  intro h a b G s' e1 e2 e3;have Y:=(O0.mp (A.at_ h G)).1;refine ⟨⟨fun i hi=>?_⟩,?_,fun t ht=>?_,D7⟩
  ·by_cases q:i=h
   ·subst q;rw [E3 Y,e2 i hi,e3 i hi,bK rfl,bK rfl]
   ·rw [O6 (by omega),A.at_ i hi,e2 i hi,e3 i hi,bL q,bL q]
  ·rw [O6 (by omega),J,e1]
  ·rw [O6 (by omega)]
 cases x with
 | own d=>
  have G:=Dd.ok_h o
  by_cases q:d.fits (s.now.getD d.h [])=true
  ·have U:Q35 C B j n s S (.own d)=S.set (B + d.h) (.obj C (hsF d.h (d.put n (s.now.getD d.h [])) (s.last.getD d.h []))):=bK q;have O:Zv n s (.own d)=⟨s.now.set d.h (d.put n (s.now.getD d.h [])),s.last,s.le⟩:=bK q;rw [U,O];refine I d.h _ _ G _ rfl (fun i hi=>?_) (fun i hi=>?_)
   ·exact Jm (by rw [r.ln]; exact G) _ _ _
   ·split
    ·rename_i z; rw [z]
    ·rfl
  ·have U:Q35 C B j n s S (.own d)=S:=bL q;have O:Zv n s (.own d)=s:=bL q;rw [U,O];exact ⟨A,J,fun _ _=>rfl,rfl⟩
 | kp h=>
  have G:h < n:=o;refine I h _ _ G _ rfl (fun i hi=>?_) (fun i hi=>?_)
  ·split
   ·rename_i z; rw [z]; rfl
   ·rfl
  ·exact Jm (by rw [r.ll]; exact G) _ _ _
 | fl h=>
  have G:h < n:=o;refine I h _ _ G _ rfl (fun i hi=>?_) (fun i hi=>?_)
  ·exact Jm (by rw [r.ln]; exact G) _ _ _
  ·split
   ·rename_i z; rw [z]; rfl
   ·rfl
 | sd h=>
  have G:h < n:=o;have Y:=(O0.mp J).1;refine ⟨⟨fun i hi=>?_⟩,?_,fun t ht=>?_,D7⟩
  ·show (S.set j _)[B + i]?=_;rw [O6 (by omega)];exact A.at_ i hi
  ·show (S.set j _)[j]?=some (.lst ((s.le ++ [s.last.getD h []]).map Q8));rw [E3 Y,F7]; rfl
  ·show (S.set j _)[t]?=_;rw [O6 (by omega)]
 | cm l h=>
  obtain ⟨a2,G⟩:=o;refine I h _ _ G _ rfl (fun i hi=>?_) (fun i hi=>?_)
  ·exact Jm (by rw [r.ln]; exact G) _ _ _
  ·split
   ·rename_i z; rw [z]; rfl
   ·rfl
theorem Q3e {n:Nat} {tb:List (List Int)} (w:Wt' n tb) (c:Ca n tb) (st:Q2):Yq [Q8 tb] st=.ok .non st:=by
 have e:=Qqp w st;rw [c.comes] at e;generalize Q8 tb=T at *;simp -implicitDefEqProofs [Yq,Qt,Xv,e]
def qc (n:Nat):RS->List Dx->RS
 | s,[]=>s
 | s,x :: xs=>qc n (Zv n s x) xs
def Q2e (n:Nat):RS->List Dx->List PV
 | _,[]=>[]
 | s,x :: xs=>Q6k s x :: Q2e n (Zv n s x) xs
def OkL (n:Nat):RS->List Dx->Prop
 | _,[]=>True
 | s,x :: xs=>x.ok n s/\OkL n (Zv n s x) xs
theorem Qbq (n:Nat):∀ (xs ys:List Dx) (s:RS),qc n s (xs ++ ys)=qc n (qc n s xs) ys
 | [],_,_=>rfl
 | x :: xs,ys,s=>Qbq n xs ys (Zv n s x)
theorem Qcj (n:Nat):∀ (xs ys:List Dx) (s:RS),Q2e n s (xs ++ ys)=Q2e n s xs ++ Q2e n (qc n s xs) ys
 | [],_,_=>rfl
 | x :: xs,ys,s=>congrArg (Q6k s x :: ·) (Qcj n xs ys (Zv n s x))
theorem Q6s (n:Nat):∀ (xs ys:List Dx) (s:RS),OkL n s (xs ++ ys) <-> OkL n s xs/\OkL n (qc n s xs) ys
 | [],_,_=>⟨fun h=>⟨trivial,h⟩,fun h=>h.2⟩
 | x :: xs,ys,s=>by
  have j:=Q6s n xs ys (Zv n s x);exact ⟨fun h=>⟨⟨h.1,(j.mp h.2).1⟩,(j.mp h.2).2⟩,fun h=>⟨h.1.1,j.mpr ⟨h.1.2,h.2⟩⟩⟩
theorem RI.run {n:Nat}:∀ {xs:List Dx} {s:RS},RI n s->OkL n s xs->RI n (qc n s xs)
 | [],_,r,_=>r
 | x :: xs,s,r,o=>RI.run (xs:=xs) (r.step o.1) o.2
theorem Qqa (n:Nat) (s:RS) (x:Dx):(Zv n s x).le.length<=s.le.length + 1:=by
 cases x with
 | own d=>
  show (if d.fits (s.now.getD d.h [])=true then (⟨s.now.set d.h (d.put n (s.now.getD d.h [])),s.last,s.le⟩:RS) else s).le.length<=_
  split <;> simp
 | sd i=>simp [Zv]
 | _=>simp [Zv]
theorem Qfd (n:Nat):∀ (xs:List Dx) (s:RS),(qc n s xs).le.length<=s.le.length + xs.length
 | [],s=>O8 _
 | x :: xs,s=>by
  have h1:=Qfd n xs (Zv n s x);have h2:=Qqa n s x;simp only [qc,D4];omega
theorem Qci (n:Nat):∀ (xs:List Dx) (s:RS),(Q2e n s xs).length=xs.length
 | [],_=>rfl
 | x :: xs,s=>by simp only [Q2e,D4,Qci n xs]
def s0 (n:Nat) (tb:Tab):RS:=⟨bR n tb,bR n tb,[]⟩
theorem Q1r {n i:Nat} {tb:Tab} (hi:i < n):(bR n tb).getD i []=tb:=by
 rw [F8,cU,bK hi]; rfl
theorem RI.start {n:Nat} {tb:Tab} (w:Wt' n tb):RI n (s0 n tb):=by
 have e:∀ i,i < n->(bR n tb).getD i []=tb:=fun i hi=>Q1r hi
 refine ⟨eR,eR,fun i hi=>?_,fun i hi=>?_,fun L q=>absurd q cx,fun i j hi B=>?_,fun a i j z hi G B=>?_,fun a i j z hi B=>?_,fun L q=>absurd q cx⟩
 ·show Wt' n ((bR n tb).getD i []); rw [e i hi]; exact w
 ·show Wt' n ((bR n tb).getD i []); rw [e i hi]; exact w
 ·exact bf _
 ·show ent ((bR n tb).getD a []) i j<=ent ((bR n tb).getD i []) i j; rw [e i hi,e a z]; exact bf _
 ·show ent ((bR n tb).getD a []) i j<=ent ((bR n tb).getD i []) i j; rw [e i hi,e a z]; exact bf _
theorem Qqf {C:aA} {n:Nat} {tb:Tab} (w:Wt' n tb) (c:Ca n tb) {h:Nat} (q:h < n) (S:Q2):Wf C [.ref S.length,.int h,Q8 tb] (S ++ [.obj C []])=.ok .non (S ++ [.obj C (hsF h tb tb)]):=by
 have e1:=Q3e w c (S ++ [.obj C []]);have e2:=Q26 w.len q (S ++ [.obj C []]);have gt:∀ fs:List (Str × PV),(S ++ [Cell.obj C fs])[S.length]?=some (.obj C fs):=fun fs=>by simp
 have st:∀ fs gs:List (Str × PV),(S ++ [Cell.obj C fs]).set S.length (.obj C gs)=S ++ [.obj C gs]:=fun fs gs=>by simp
 have j:xu "number" (.int h) []=[(bP "number",PV.int h)]:=rfl;have p2:xu "now" (Q8 tb) [(bP "number",PV.int h)]=[(bP "number",.int h),(bP "now",Q8 tb)]:=by
  rw [xu,bL s1']; rfl
 have z:xu "kept" (Q8 tb) [(bP "number",PV.int h),(bP "now",Q8 tb)]=hsF h tb tb:=by
  rw [xu,bL s2',xu,bL s3']; rfl
 have k3:qq C [some (.ref S.length),some (.int h),some (Q8 tb)] (S ++ [.obj C []])=.nx [some (.ref S.length),some (.int h),some (Q8 tb)] (S ++ [.obj C (hsF h tb tb)]):=by
  refine Qk (Q29 (Qz (n:=1) (Q5 rfl rfl) rfl e1)) (Qk (Wm (Qf1 (J3 (Qz (n:=2) (Q5 rfl (Q5 rfl rfl)) rfl e2))) rfl) ?_);refine Qk ((jw (p:=.int h) rfl rfl (gt _) (by simp)).trans (by rw [j,st])) ?_;refine Qk ((jw (p:=Q8 tb) rfl rfl (gt _) (by simp)).trans (by rw [p2,st])) ?_;exact (jw (p:=Q8 tb) rfl rfl (gt _) (by simp)).trans (by rw [z,st])
 exact Q2c k3
theorem Qta {C:aA} {n:Nat} {tb:Tab} (w:Wt' n tb) (c:Ca n tb) {h:Nat} (j:h < n) (S:Q2):Q13 C [some (.int h),some (Q8 tb)] S=.ok (.ref S.length) (S ++ [.obj C (hsF h tb tb)]):=by
 have q:(Q4 (Q3 0) (Q4 (Q3 1) Qa)) [some (.int h),some (Q8 tb)] S=.ok [.int h,Q8 tb] S:=Q5 rfl (Q5 rfl rfl);show ((Wf C [PV.ref S.length,PV.int h,Q8 tb] (S ++ [Cell.obj C []])).bind _)=_;rw [Qqf w c j S]; rfl
def h0 (C:aA) (n:Nat) (tb:Tab):Q2:=(bV n).map fun i=>.obj C (hsF i tb tb)
theorem Qia {C:aA} {n:Nat} {tb:Tab} (w:Wt' n tb) (c:Ca n tb) (S:Q2) (Γ:Gam) (B:Γ[0]?=some (some (Q8 tb))):Ju (Qn 0) Jw (Q13 C) [] (Jy [none,some 0] Γ) (Zu 0 n) S=.ok ((bV n).map fun i=>.ref (S.length + i)) (S ++ h0 C n tb):=by
 have G:Jy [none,some 0] Γ=[none,some (Q8 tb)]:=by
  simp [Jy,B]
 obtain ⟨j,I,e,e1,e2⟩:=Qif (g:=fun k:Nat=>PV.int (k:Int)) (xs:=bV n) (ga:=Qn 0) (me:=Q13 C) (w:=[]) (Γ0:=[none,some (Q8 tb)]) (st:=S)
  (fun i j st=>j=((bV i).map fun i=>PV.ref (S.length + i))/\st=S ++ h0 C i tb) (fun _ _ _ _=>by simp)
  (fun i x j st z ⟨e1,e2⟩=>by
   subst e1; subst e2;have q:i < n:=by simpa using (O0.mp z).1
   rw [F3 q] at z;cases z;refine ⟨_,rfl,_,_,Qta w c q _,?_,?_⟩
   ·rw [dw,F7,O9];simp [h0]
   ·rw [h0,h0,dw,F7,cM]; rfl)
  ⟨rfl,by simp [h0]⟩
 rw [F6] at e1 e2;rw [G,V5,e,e1,e2]
theorem Q86 {α β:Type} (l:List α) (d:α) (f:α->β):l.map f=(bV l.length).map fun i=>f (l.getD i d):=by
 refine dL fun i=>?_
 rw [E4,E4]
 by_cases h:i < l.length
 ·rw [F3 h,O4 h];simp [ba,O4 h]
 ·rw [F2 (by omega),F2 (by rw [F6]; omega)]; rfl
theorem Qts (C:aA) (n:Nat) (tb:Tab):(h0 C n tb).length=n:=by simp [h0]
theorem Qwh (C:aA) {n i:Nat} (tb:Tab) (hi:i < n):(h0 C n tb)[i]?=some (.obj C (hsF i tb tb)):=by
 simp [h0,F3 hi]
abbrev plG (tb:Tab) (DV:PV) (B n:Nat) (d:Option PV):Gam:=[some (Q8 tb),some DV,some (hsV B n),some (.ref (B + n)),some (.ref (B + n + 1)),d]
structure PI (C:aA) (n:Nat) (tb:Tab) (S:Q2) (pre:List Dx) (st:Q2):Prop where
 hs:HsAt C S.length n (qc n (s0 n tb) pre) st
 le:st[S.length + n]?=some (.lst ((qc n (s0 n tb) pre).le.map Q8))
 an:st[S.length + n + 1]?=some (.lst (Q2e n (s0 n tb) pre))
 old:∀ t,t < S.length->st[t]?=S[t]?
 len:st.length=S.length + n + 2
theorem Qru {C:aA} {n:Nat} {tb:Tab} (w:Wt' n tb) {S st:Q2} {pre:List Dx} {x:Dx} {j:List Dx} (hl:(pre ++ x :: j).length<=1000) (ok:OkL n (s0 n tb) (pre ++ x :: j)) (P:PI C n tb S pre st) (DV:PV):∃ I,Q41 C (plG tb DV S.length n (some x.V)) st=.nx (plG tb DV S.length n (some x.V)) I/\PI C n tb S (pre ++ [x]) I:=by
 have o1:=(Q6s n pre (x :: j) _).mp ok;have r:RI n (qc n (s0 n tb) pre):=(RI.start w).run o1.1;have J:=o1.2.1;have a5:pre.length<=1000:=by rw [O9] at hl; omega
 have a6:=Qfd n pre (s0 n tb);have q:(qc n (s0 n tb) pre).le.length < 100000:=by
  have:(s0 n tb).le.length=0:=rfl;omega
 have e1:=Qf2 w.len J P.le;have e2:=Qiw P.hs P.le q r J;obtain ⟨a1,a2,O,Y⟩:=Qsu P.hs P.le (O8 _) r J;obtain ⟨U,G⟩:∃ z,Q35 C S.length (S.length + n) n (qc n (s0 n tb) pre) st x=z:=⟨_,rfl⟩;rw [G] at e2 a1 a2 O Y;have B:U[S.length + n + 1]?=some (.lst (Q2e n (s0 n tb) pre)):=by rw [O _ (.inr (by omega))]; exact P.an
 have hb:=(O0.mp B).1;have ap:=Q2z B (by rw [Qci]; omega) (Q6k (qc n (s0 n tb) pre) x);refine ⟨_,Qk (Q29 (Qz (n:=3) (Q5 rfl (Q5 rfl (Q5 rfl rfl))) rfl e1)) (Q5t (p:=.ref (S.length + n + 1)) rfl (qt P.an) (Q5 (Qz (n:=3) (Q5 rfl (Q5 rfl (Q5 rfl rfl))) rfl e2) rfl) ap),?_⟩;have Z:qc n (s0 n tb) (pre ++ [x])=Zv n (qc n (s0 n tb) pre) x:=by rw [Qbq]; rfl
 have ea:Q2e n (s0 n tb) (pre ++ [x])=Q2e n (s0 n tb) pre ++ [Q6k (qc n (s0 n tb) pre) x]:=by rw [Qcj]; rfl
 refine ⟨⟨fun i hi=>?_⟩,?_,?_,fun t ht=>?_,?_⟩
 ·rw [Z,O6 (by omega)]; exact a1.at_ i hi
 ·rw [Z,O6 (by omega)]; exact a2
 ·rw [ea,E3 hb]
 ·rw [O6 (by omega),O t (.inl ht)]; exact P.old t ht
 ·rw [D7,Y]; exact P.len
theorem Qhg {C:aA} {n:Nat} {tb:Tab} (w:Wt' n tb) (c:Ca n tb) {S:Q2} {DV:PV} {xs:List Dx} {wt:Wt} (hs:∀ st:Q2,(∀ t,t < S.length->st[t]?=S[t]?)->X5 st DV=some (xs.map Dx.V,wt)/\wOk wt st) (hl:xs.length<=1000) (ok:OkL n (s0 n tb) xs) :
  ∃ G,Q2g C [Q8 tb,DV] S=.ok (.tup [.ref (S.length + n + 1),.ref (S.length + n + 2)]) G/\G.length=S.length + n + 3/\(∀ t,t < S.length->G[t]?=S[t]?)/\G[S.length + n + 1]?=some (.lst (Q2e n (s0 n tb) xs))/\G[S.length + n + 2]?=some (.lst ((qc n (s0 n tb) xs).now.map Q8)):=by
 have h8:=w.n8;have I:lim=1000000:=rfl;have e1:=Q3e w c S;have eh:=Qia (C:=C) w c S [some (Q8 tb),some DV,none,none,none,none] rfl;have U:Yw S [Q8 tb]=.ok (.int n) S:=by simp [Q8,w.len]
 have a2:Yg (Q4 (J6 Yw (Q4 (Q3 0) Qa)) Qa) [some (Q8 tb),some DV,none,none,none,none] S=.ok (Zu 0 n,[]) S:=by
  rw [Xw,Q5 (Um (Q5 (m:=Q3 0) (p:=Q8 tb) (S1:=S) rfl (show Qa _ S=.ok [] S from rfl)) U) (show Qa _ S=.ok [] S from rfl),J5];show (if -(lim:Int)<=(n:Int)/\(n:Int)<=lim then _ else _)=_;rw [bK (by rw [I]; omega),cE]
 obtain ⟨S1,q⟩:∃ S1,S ++ h0 C n tb=S1:=⟨_,rfl⟩;rw [q] at eh;have Z:S1.length=S.length + n:=by rw [<- q,O9,Qts]
 obtain ⟨z,j⟩:∃ z,S1 ++ [Cell.lst []] ++ [Cell.lst []]=z:=⟨_,rfl⟩;have l2:z.length=S.length + n + 2:=by rw [<- j,O9,O9,Z]; rfl
 have P0:PI C n tb S [] z:=by
  refine ⟨⟨fun i hi=>?_⟩,?_,?_,fun t ht=>?_,l2⟩
  ·rw [<- j,cM,O5 (by omega),<- q,D2 (by omega),Nat.add_sub_cancel_left,Qwh C tb hi];show _=some (Cell.obj C (hsF i ((bR n tb).getD i []) ((bR n tb).getD i [])));rw [Q1r hi]
  ·rw [<- j,cM,D2 (by omega),show S.length + n - S1.length=0 by omega]; rfl
  ·rw [<- j,cM,D2 (by omega),show S.length + n + 1 - S1.length=1 by omega]; rfl
  ·rw [<- j,cM,O5 (by omega),<- q,O5 ht]
 obtain ⟨J,_⟩:=hs z P0.old;obtain ⟨a5,B,ef,⟨d',rfl⟩,P⟩:=Qay (g:=Dx.V) (xs:=xs) (fun pre Γ st=>(∃ d,Γ=plG tb DV S.length n d)/\PI C n tb S pre st) (ga:=Qn 5) (body:=Q41 C) (w:=wt)
  (fun pre Γ st ⟨_,P⟩=>(hs st P.old).2)
  (fun pre x a4 Γ st hx ⟨⟨d,a3⟩,P⟩=>by
   subst a3;obtain ⟨a6,e,P2⟩:=Qru w (by rw [<- hx]; exact hl) (by rw [<- hx]; exact ok) P DV;exact ⟨_,rfl,_,_,e,⟨_,rfl⟩,P2⟩)
  (Γ:=plG tb DV S.length n none) (st:=z) ⟨⟨_,rfl⟩,P0⟩
 have r:=(RI.start w).run ok;obtain ⟨s,O⟩:∃ s,qc n (s0 n tb) xs=s:=⟨_,rfl⟩;rw [O] at r ⊢;have Y:=P.hs;rw [O] at Y;have et:Ju (Qn 0) Jw (Q8y C) [] (Jy [none] (plG tb DV S.length n d')) ((bV n).map fun i=>PV.ref (S.length + i)) B=.ok ((bV n).map fun i=>Q8 (s.now.getD i [])) B:=by
  refine Yr _ _ (by simp) fun i hi=>⟨_,rfl,?_⟩
  have hi:i < n:=E6.mp hi;have hS:=Y.at_ i hi;exact (yi (i:=S.length + i) rfl hS (ym (by decide +kernel) (by decide +kernel) (by decide +kernel) _ _ _) (ps:=[]) (S1:=B) rfl rfl).trans (Qja hS)
 have em:(bV n).map (fun i=>Q8 (s.now.getD i []))=s.now.map Q8:=by
  have:=Q86 s.now [] Q8;rw [this,r.ln]
 rw [em] at et;have l3:=P.len;have k:Q89 C [some (Q8 tb),some DV,none,none,none,none] S=.rt (.tup [.ref (S.length + n + 1),.ref (S.length + n + 2)]) (B ++ [.lst (s.now.map Q8)]):=by
  refine Qk (Q29 (Qz (n:=1) (Q5 rfl rfl) rfl e1)) ?_;refine Qk (Γ1:=[some (Q8 tb),some DV,some (hsV S.length n),none,none,none]) (J9 (Q1k (Kn a2 eh))) ?_;refine Qk (Γ1:=[some (Q8 tb),some DV,some (hsV S.length n),some (.ref (S.length + n)),none,none]) (S1:=S1 ++ [.lst []]) ((J9 (Q09 (ps:=[]) (S1:=S1) rfl)).trans (by rw [Z]; rfl)) ?_;refine Qk (Γ1:=plG tb DV S.length n none) (S1:=z) ((J9 (Q09 (ps:=[]) (S1:=S1 ++ [.lst []]) rfl)).trans (by rw [O9,Z,j]; rfl)) ?_;refine Qk (Q11 (Qcs (p:=DV) rfl J (by rw [O2]; omega)) ef) ?_;have a:xy (Q3 2) (plG tb DV S.length n d') B=.ok ((bV n).map fun i=>PV.ref (S.length + i),[]) B:=Qcs (p:=hsV S.length n) rfl rfl (by rw [O2,F6]; omega)
  rw [Q4j,jh (Q5 (m:=Q3 4) (p:=.ref (S.length + n + 1)) rfl (Q5 (Q09 (Kn a et)) rfl)) (by simp),Ue,l3]
 refine ⟨_,Q07 k,by rw [O9,l3]; rfl,fun t ht=>?_,?_,?_⟩
 ·rw [O5 (by omega)]; exact P.old t ht
 ·rw [O5 (by omega)]; exact P.an
 ·rw [D2 (by omega),show S.length + n + 2 - B.length=0 by omega]; rfl
theorem Qff {st st':Q2} (h:st'.length=st.length) (d:Int):fin st (.int d) st'=.ok (.int d) st':=by
 unfold fin
 by_cases q:st <+: st'
 ·rw [bK q];have:st=st':=q.eq_of_length h.symm;rw [<- this,fz]; rfl
 ·rw [bL q]
structure Mv (L:Nat) (S S':Q2):Prop where
 len:S'.length=S.length
 keep:∀ t,t≠L->S'[t]?=S[t]?
theorem Mv.refl (L:Nat) (S:Q2):Mv L S S:=⟨rfl,fun _ _=>rfl⟩
theorem Mv.trans {L:Nat} {S S1 q:Q2} (a:Mv L S S1) (b:Mv L S1 q):Mv L S q:=⟨b.len.trans a.len,fun t j=>(b.keep t j).trans (a.keep t j)⟩
theorem Q5n {st st':Q2} (h:st'.length=st.length) {v:PV} (g:Y4 12 v=true):fin st v st'=.ok v st':=by
 unfold fin
 by_cases q:st <+: st'
 ·rw [bK q];have:st=st':=q.eq_of_length h.symm;rw [<- this,Q6y g (by decide)]; rfl
 ·rw [bL q]
def Tp (S:Q2) (L:Nat):Prop:=∃ c:Int,S[L]?=some (.lst [.int c])
theorem Q30 {S:Q2} {L:Nat} (T:Tp S L) (m:Nat) (h1:1<=m) (J:m < 2 ^ 8000):∃ (d:Nat) (B:Q2),d < m/\Tp B L/\Mv L S B/\Qj [.ref L,.int m] S=.ok (.int d) B:=by
 obtain ⟨c,q⟩:=T;have O:=(O0.mp q).1;have U:ListAt S (.ref L) [.int c]:=.inr (.inr ⟨L,rfl,q⟩);have G:oIx S (.ref L) (.int 0)=.ok (.int c) S:=by rw [U.ix]; rfl
 obtain ⟨d,hd,ed⟩:=Qys c h1;have I:Q1n S (.ref L) (.int 0) (.int (c / (m:Int)))=some (S.set L (.lst [.int (c / (m:Int))])):=by
  unfold Q1n;simp only [q];rfl
 obtain ⟨S1,j⟩:∃ S1,S.set L (.lst [.int (c / (m:Int))])=S1:=⟨_,rfl⟩;rw [j] at I;have M:Mv L S S1:=⟨by rw [<- j,D7],fun t Y=>by rw [<- j,O6 (fun u=>Y u.symm)]⟩;refine ⟨d,S1,hd,⟨_,by rw [<- j,E3 O]⟩,M,?_⟩;have Z:Q38 S (.int c) (.int m)=.ok (.int d) S:=by
  show (if 0 < (m:Int) then _ else _)=_;rw [bK (by omega),ed]
 have z:=Qhs S c m h1 J;have step:x9 [some (.ref L),some (.int m),none] S=.rt (.int d) S1:=
  Qk (Γ1:=[some (.ref L),some (.int m),some (.int d)]) (J9 (Q9 (Q9 rfl rfl G) rfl Z)) (Qk (Q7f (Q9 (Q9 rfl rfl G) rfl z) rfl rfl I) rfl)
 exact (W3 step).trans (Qff M.len d)
theorem Qfn {m:Nat} (h:m < 10 ^ 100):m < 2 ^ 8000:=D1 h (F0 (Nat.pow_le_pow_left (show 10<=2 ^ 4 by decide) 100) (by rw [<- Nat.pow_mul]; exact gZ (by decide) (by decide)))
theorem Wb {S:Q2} {L:Nat} (T:Tp S L) (m:Nat) (h1:1<=m) (q:m < 100):∃ (d:Nat) (j:Q2),d < m/\Tp j L/\Mv L S j/\Qj [.ref L,.int m] S=.ok (.int d) j:=Q30 T m h1 (Qfn (D1 q (by decide)))
theorem Qeb (ns:List Int) (k:Nat) (S:Q2):∃ c:Int,Wd [.fro (ns.map .int),.int k] S=.ok (.ref S.length) (S ++ [.lst [.int c]]):=by
 obtain ⟨c,Y⟩:∃ c:Int,X4 [.fro (ns.map .int),.int k] S=.ok (.int c) S:=by
  by_cases q:k < ns.length
  ·have e:atI (ns.map PV.int) (k:Int)=some (.int (ns.getD k 0)):=by rw [Xp,Sm.atI_get (getD_some q 0)]; rfl
   have G:(ns.map PV.int).length=ns.length:=O2 _;refine ⟨ns.getD k 0,?_⟩;generalize ns.getD k 0=x at *;generalize ns.length=nl at *;generalize ns.map PV.int=B at *;simp -implicitDefEqProofs [X4,Qt,z8,G,q,e]
  ·have G:(ns.map PV.int).length=ns.length:=O2 _;have Z:¬ (k:Int) < (ns.length:Int):=by omega
   refine ⟨0,?_⟩;generalize ns.length=nl at *;generalize ns.map PV.int=B at *;simp -implicitDefEqProofs [X4,Qt,z8,G,q,Z]
 by_cases q:c % 2=0
 ·refine ⟨c / 2,?_⟩;generalize ns.map PV.int=B at *;simp -implicitDefEqProofs [Wd,Yy,jy,Y,q,Jv]
 ·obtain ⟨O,j⟩:∃ O:Int,(c % 2305843009213693951 * 48271 + 69621 * k + 11) % 2305843009213693951=O:=⟨_,rfl⟩;have I:=Q70 (c % 2305843009213693951 * 48271 + 69621 * k + 11) (b:=2305843009213693951) (by decide);rw [j] at I;obtain ⟨a2,S1,e,x,y,z,rfl,rfl,_⟩:=jd (g:=fun k:Nat=>PV.int (k:Int)) (xs:=bV 5) (ga:=Qn 6) (body:=yc) (w:=[]) (Γ:=[some (.fro (ns.map .int)),some (.int k),some (.int c),some (.int 2305843009213693951),some (.int 0),some (.int O),none]) (st:=S)
   (fun _ Γ st'=>∃ (x y:Int) (z:Option PV),Γ=[some (.fro (ns.map .int)),some (.int k),some (.int c),some (.int 2305843009213693951),some (.int x),some (.int y),z]/\st'=S/\0<=y/\y < 2305843009213693951)
   (fun _ _ _ _=>by simp)
   (fun i t Γ st' hx ⟨x,y,z,e1,e2,y1,y2⟩=>by
    subst e1; subst e2;obtain ⟨w,U⟩:∃ w:Int,(y * y + 40692 * k + t) % 2305843009213693951=w:=⟨_,rfl⟩;have J:=Q70 (y * y + 40692 * k + t) (b:=2305843009213693951) (by decide);rw [U] at J;have yb:-18446744073709551616 < y/\y < 18446744073709551616:=by omega
    refine ⟨_,rfl,[some (.fro (ns.map .int)),some (.int k),some (.int c),some (.int 2305843009213693951),some (.int (x * 2305843009213693951 + y)),some (.int w),some (.int t)],st',?_,_,_,_,rfl,rfl,J.1,J.2⟩;generalize ns.map PV.int=B at *;simp -implicitDefEqProofs [yc,yb,U])
   ⟨_,_,_,rfl,rfl,I.1,I.2⟩
  rw [<- V5] at e;refine ⟨x,?_⟩;generalize ns.map PV.int=B at *;simp -implicitDefEqProofs [Wd,Yy,jy,Y,q,Jv,j,e]
theorem Q16 {n h:Nat} {tb:Tab} (z:Sz n tb) (hn:n<=100) (G:h < n) (st:Q2):Ji [Q8 tb,.int h] st=.ok (.int (Qs tb h)) st:=by
 have O:Ju (Qn 0) Jw Q04 [] (Jy [none,some 1,some 0] [some (Q8 tb),some (.int h),none]) (Zu 0 n) st=.ok ((bV n).map fun j=>.int (ent tb j h)) st:=by
  rw [V5];refine Yr _ _ (by simp) fun j B=>⟨_,rfl,?_⟩
  have B:=E6.mp B;have c:=Kq z B (D9 G) st;exact Q9 (Q9 rfl rfl c.1) rfl c.2
 obtain ⟨U,Z⟩:=Kq z G (D9 G) st;have I:Ju (Qn 0) Jw Q03 [] (Jy [none] [some (Q8 tb),some (.int h),some (.int (Zc n fun j=>ent tb j h))]) ((tb.getD h []).map .int) st=.ok ((tb.getD h []).map .int) st:=Yr _ _ (by simp) fun j B=>⟨_,rfl,rfl⟩
 have q:Yw st [Q8 tb]=.ok (.int n) st:=by simp [Q8,z.1]
 have J:Yg (Q4 (J6 Yw (Q4 (Q3 0) Qa)) Qa) [some (Q8 tb),some (.int h),none] st=.ok (Zu 0 n,[]) st:=by
  rw [Xw,Q5 (Um (Q5 (m:=Q3 0) (p:=Q8 tb) (S1:=st) rfl (show Qa _ st=.ok [] st from rfl)) q) (show Qa _ st=.ok [] st from rfl),J5];show (if -(lim:Int)<=(n:Int)/\(n:Int)<=lim then _ else _)=_;rw [bK (by rw [Jv]; omega),cE]
 have s1:Vt (fun ns=>some (.int ns.sum)) st [.lst ((bV n).map fun j=>.int (ent tb j h))]=.ok (.int (Zc n fun j=>ent tb j h)) st:=by
  rw [Q5s]; rfl
 have s2:Vt (fun ns=>some (.int ns.sum)) st [.lst ((tb.getD h []).map .int)]=.ok (.int (tb.getD h []).sum) st:=by simp
 have sr:X5 st (J1 (tb.getD h []))=some ((tb.getD h []).map .int,[]):=rfl;have Y:((tb.getD h []).map PV.int).length<=1000000:=by rw [O2,(z.row G).2]; omega
 have step:zx [some (Q8 tb),some (.int h),none] st=.rt (.int (Qs tb h)) st:=by
  refine Qk (Γ1:=[some (Q8 tb),some (.int h),some (.int (Zc n fun j=>ent tb j h))]) (J9 (Um (Q5 (Q1k (Kn J O)) rfl) s1)) ?_;rw [Q4j,Q9 (Q9 rfl (Um (Q5 (Q1k (Kn (Qcs (Q9 rfl rfl U) sr Y) I)) rfl) s2) rfl) (Q9 (Q9 rfl rfl U) rfl Z) rfl,Ue];unfold Qs;rw [z.1];congr 2;omega
 exact (W3 step).trans (Qgg st _)
theorem Q05 {a b:ME} {Γ:Gam} {S S1 j:Q2} {x y:PV} {r:Res PV} (h1:a Γ S=.ok x S1) (h2:b Γ S1=.ok y j) (q:Q61 j x y=r):Uh a b Γ S=r:=by unfold Uh; rw [h1,J5,h2,J5,q]
theorem Qbd {a b:MT} {Γ:Gam} {S S1:Q2} {r:Res Bool} (h:a Γ S=.ok true S1) (h2:b Γ S1=r):xj a b Γ S=r:=by rw [Qcp,h]; exact h2
theorem Qgt {a b:MT} {Γ:Gam} {S S1:Q2} (h:a Γ S=.ok false S1):xj a b Γ S=.ok false S1:=by rw [Qcp,h]; rfl
theorem Xt {m:ME} {Γ:Gam} {S S1:Q2} {v:PV} (h:m Γ S=.ok v S1):Jx m Γ S=.rt v S1:=by rw [Q4j,h]; rfl
theorem Q2a (S:Q2) {a b:Int} (h:a=b):oEq S (.int a) (.int b)=.ok (.bl true) S:=by simp [h]
theorem Q3g (S:Q2) {a b:Int} (h:¬ a=b):oEq S (.int a) (.int b)=.ok (.bl false) S:=by simp [h]
theorem Q8f (S:Q2) {a b:Int} (h:a < b):oLt S (.int a) (.int b)=.ok (.bl true) S:=by simp [h]
theorem Q5x (S:Q2) {a b:Int} (h:¬ a < b):oLt S (.int a) (.int b)=.ok (.bl false) S:=by
 have:oLt S (.int a) (.int b)=.ok (.bl (decide (a < b))) S:=by simp
 rw [this,bN h]
theorem Qrf (S:Q2) {a b:Int} (h:b < a):(oI fun a b=>.bl (decide (b < a))) S (.int a) (.int b)=.ok (.bl true) S:=by
 show Res.ok (PV.bl (decide (b < a))) S=_; rw [bO h]
theorem Qrg (S:Q2) {a b:Int} (h:¬ b < a):(oI fun a b=>.bl (decide (b < a))) S (.int a) (.int b)=.ok (.bl false) S:=by
 show Res.ok (PV.bl (decide (b < a))) S=_; rw [bN h]
theorem Qpw (S:Q2) {a b:Int} (h:0 < b):Q38 S (.int a) (.int b)=.ok (.int (a % b)) S:=by
 show (if 0 < b then _ else _)=_; rw [bK h]
theorem Q42 (S:Q2) (a b:Int):Wi S (.int a) (.int b)=.ok (.int (a + b)) S:=by simp
theorem Qh2 (S:Q2) (a b:Int):(oI fun a b=>.int (a - b)) S (.int a) (.int b)=.ok (.int (a - b)) S:=rfl
theorem Q17 {n i j:Nat} {tb:List (List Int)} (z:Sz n tb) (hn:n<=100) (hi:i < n) (J:j<=n) (k:Int) (st:Q2):Ye [Q8 tb,.int i,.int j,.int k] st=.ok (Q8 (qd tb i j (ent tb i j + k))) st:=by
 have c0:=Kq z hi J st;have q:=(z.row hi).2;have g1:J1 ((tb.getD i []).set j (ent tb i j + k))=.tup (((tb.getD i []).take j).map .int ++ [.int (ent tb i j + k)] ++ ((tb.getD i []).drop (j + 1)).map .int):=by
  unfold J1;rw [<- Q6n _ _ _ (by omega),F7,F7]; rfl
 have g2:Q8 (qd tb i j (ent tb i j + k))=.tup ((tb.take i).map J1 ++ [J1 ((tb.getD i []).set j (ent tb i j + k))] ++ (tb.drop (i + 1)).map J1):=by
  unfold Q8 qd;rw [<- Q6n _ _ _ (by rw [z.1]; exact hi),F7,F7]; rfl
 have U:cut ((tb.getD i []).map PV.int) none (some (j:Int))=((tb.getD i []).take j).map .int:=by rw [yq,Q06]
 have c4:cut ((tb.getD i []).map PV.int) (some ((j:Int) + 1)) none=((tb.getD i []).drop (j + 1)).map .int:=by rw [yq]; exact congrArg _ (Q2b _ (j + 1))
 have c5:cut (tb.map J1) none (some (i:Int))=(tb.take i).map J1:=by rw [yq,Q06]
 have c6:cut (tb.map J1) (some ((i:Int) + 1)) none=(tb.drop (i + 1)).map J1:=by rw [yq]; exact congrArg _ (Q2b _ (i + 1))
 have l3:(((tb.getD i []).take j).map PV.int).length=j:=by rw [O2,cJ,q]; omega
 have I:(((tb.getD i []).drop (j + 1)).map PV.int).length=n - j:=by rw [O2,cV,q]; omega
 have Z:((tb.take i).map J1).length=i:=by rw [O2,cJ,z.1]; omega
 have l6:((tb.drop (i + 1)).map J1).length=n - (i + 1):=by rw [O2,cV,z.1]
 have Y:j + 1<=1000000:=by omega
 have b2:j + 1 + (n - j)<=1000000:=by omega
 have G:i + 1<=1000000:=by omega
 have b4:i + 1 + (n - (i + 1))<=1000000:=by omega
 have B:fin st (Q8 (qd tb i j (ent tb i j + k))) st=.ok (Q8 (qd tb i j (ent tb i j + k))) st:=Ui (by simp [Y4,Q8,J1]);obtain ⟨O,c2⟩:=c0;have q1:oSl st (J1 (tb.getD i [])) none (some (j:Int))=.ok (.tup (((tb.getD i []).take j).map .int)) st:=by unfold J1; rw [yg,U]
 have q2:oSl st (J1 (tb.getD i [])) (some ((j:Int) + 1)) none=.ok (.tup (((tb.getD i []).drop (j + 1)).map .int)) st:=by unfold J1; rw [yg,c4]
 have q3:oSl st (Q8 tb) none (some (i:Int))=.ok (.tup ((tb.take i).map J1)) st:=by unfold Q8; rw [yg,c5]
 have q4:oSl st (Q8 tb) (some ((i:Int) + 1)) none=.ok (.tup ((tb.drop (i + 1)).map J1)) st:=by unfold Q8; rw [yg,c6]
 rw [g2] at B ⊢;rw [g1] at B ⊢;generalize ent tb i j=x at *;generalize ((tb.getD i []).take j).map PV.int=v3 at *;generalize ((tb.getD i []).drop (j + 1)).map PV.int=v4 at *;generalize (tb.take i).map J1=v5 at *;generalize (tb.drop (i + 1)).map J1=v6 at *;generalize J1 (tb.getD i [])=rv at *;generalize Q8 tb=T at *;simp -implicitDefEqProofs at B;simp -implicitDefEqProofs [Ye,Qt,zy,O,c2,q1,q2,q3,q4,Jv,l3,I,Z,l6,Y,b2,G,b4,B]
theorem Qkg (st:Q2) (xs:List PV) (b:Int):Q6f st (.lst xs) (.int b)=if -(2 ^ 63)<=b/\b < 2 ^ 63/\xs.length * b.toNat<=lim then .ok (.lst (bR b.toNat xs).flatten) st else .stuck:=rfl
theorem Qv8 {α:Type} (x:α):∀ n,(bR n [x]).flatten=bR n x
 | 0=>rfl
 | n + 1=>by rw [cL,cW,Qv8 x n]; rfl
theorem Qmy {mr:ML} {Γ:Gam} {S S1:Q2} {ps:List PV} (h:mr Γ S=.ok ps S1) (j:ps.length<=1000000:=by decide):Qa7 mr Γ S=.ok (.lst ps) S1:=by
 unfold Qa7;rw [h,J5];exact bK j
theorem Qn2 {n:Nat} (Z:n<=8) (S:Q2):zk [.int n] S=.ok (Q8 (bR n (j8 n))) S:=by
 have B:((n:Int) + 1).toNat=n + 1:=by omega
 have U:y8 [some (.int 0),some (.int n)] S=.ok (J1 (j8 n)) S:=by
  have:J1 (j8 n)=.tup (bR (n + 1) (.int 0)):=by simp [J1,j8]
  rw [this];have Y:Q6f S (.lst [.int 0]) (.int ((n:Int) + 1))=.ok (.lst (bR (n + 1) (.int 0))) S:=by
   rw [Qkg,bK ⟨by omega,by omega,by rw [Jv,B]; simp; omega⟩,B,Qv8]
  exact Um (Q5 (Q9 (Qmy rfl) (Q9 rfl rfl (Q42 S _ _)) Y) rfl) rfl
 have G:Ju (Qn 0) Jw y8 [] (Jy [none,some 0] [some (.int n)]) (Zu 0 n) S=.ok ((bV n).map fun _=>J1 (j8 n)) S:=by
  rw [V5];refine Yr _ _ (by simp) fun j hj=>⟨_,rfl,?_⟩
  exact U
 have J:((bV n).map fun _=>J1 (j8 n))=(bR n (j8 n)).map J1:=by
  rw [gc];exact gd.mpr ⟨by simp,fun b O=>by obtain ⟨_,_,rfl⟩:=dN.mp O; rfl⟩
 rw [J] at G;have z:Yg (Q4 (Q3 0) Qa) [some (.int n)] S=.ok (Zu 0 n,[]) S:=by
  rw [Xw,Q5 (m:=Q3 0) (p:=.int n) (S1:=S) rfl (show Qa _ S=.ok [] S from rfl),J5];show (if -(lim:Int)<=(n:Int)/\(n:Int)<=lim then _ else _)=_;rw [bK (by rw [Jv]; omega),cE]
 have ct:Uj S [.lst ((bR n (j8 n)).map J1)]=.ok (Q8 (bR n (j8 n))) S:=by
  have I:((bR n (j8 n)).map J1).length<=1000000:=by simp; omega
  unfold Q8;generalize (bR n (j8 n)).map J1=q at *;simp [Jv,I]
 have step:Q0v [some (.int n)] S=.rt (Q8 (bR n (j8 n))) S:=Xt (Um (Q5 (Q1k (Kn z G)) rfl) ct);exact (W3 step).trans (Qc9 S _)
theorem Qfr {a b:Tab} (h:a.length=b.length) (hl:a.length<=1000) (hr:∀ r∈a,r.length<=1000) (S:Q2):Ku [Q8 a,Q8 b] S=.ok (Q8 (Zw a b)) S:=by
 obtain ⟨a3,S',e,⟨U,c4,rfl⟩,rfl⟩:=Qay (g:=fun z:List Int × List Int=>PV.tup [J1 z.1,J1 z.2]) (xs:=a.zip b)
  (fun pre Γ st=>(∃ U c4,Γ=[some (Q8 a),some (Q8 b),some (.ref S.length),U,c4])/\st=S ++ [.lst (pre.map fun z=>J1 (Vs z.1 z.2))])
  (ga:=jb (Y5 (Qn 3) (Y5 (Qn 4) jc))) (body:=Q08) (w:=[]) (fun _ _ _ _=>by simp)
  (fun pre z a2 Γ st hx ⟨⟨U,c4,Y⟩,j⟩=>by
   subst Y; subst j;have hz:z∈a.zip b:=by rw [hx]; simp
   have a4:pre.length<=1000:=by
    have:=congrArg eQ hx;rw [dm,O9,D4,<- h,fD] at this;omega
   have I:z.1.length<=lim:=by have:=hr _ (ce hz).1; rw [Jv]; omega
   obtain ⟨st,j⟩:∃ st,S ++ [Cell.lst (pre.map fun z=>J1 (Vs z.1 z.2))]=st:=⟨_,rfl⟩
   have gt:st[S.length]?=some (.lst (pre.map fun z=>J1 (Vs z.1 z.2))):=by rw [<- j]; simp
   rw [j];have hc:Ju (jb (Y5 (Qn 0) (Y5 (Qn 1) jc))) Jw qw [] (Jy [none,none] [some (Q8 a),some (Q8 b),some (.ref S.length),some (J1 z.1),some (J1 z.2)]) ((z.1.zip z.2).map fun z=>.tup [.int z.1,.int z.2]) st=.ok ((z.1.zip z.2).map fun z=>.int (Lw.maxI z.1 z.2)) st:=by
    refine Yr _ _ (by simp) fun u hu=>⟨_,rfl,?_⟩
    simp [Jy,qw,Lw.maxI]
   have O:((z.1.zip z.2).map fun z=>PV.int (Lw.maxI z.1 z.2))=(Vs z.1 z.2).map .int:=by unfold Vs; rw [br]; rfl
   rw [O] at hc;have B:Qa6 (Q4 (Q3 3) (Q4 (Q3 4) Qa)) [some (Q8 a),some (Q8 b),some (.ref S.length),some (J1 z.1),some (J1 z.2)] st=.ok ((z.1.zip z.2).map fun z=>.tup [.int z.1,.int z.2],[]) st:=by
    have G:=I;rw [Jv] at G;unfold J1;simp [Q1j,I,G,Jv]
   have J:((Vs z.1 z.2).map PV.int).length<=1000000:=by
    unfold Vs;rw [O2,O2,dm];have:=gL z.1.length z.2.length;rw [Jv] at I;omega
   have ct:Uj st [.lst ((Vs z.1 z.2).map .int)]=.ok (J1 (Vs z.1 z.2)) st:=by
    unfold J1;generalize (Vs z.1 z.2).map PV.int=q at *;simp [Jv,J]
   have ap:=Q2z gt (by rw [O2]; omega) (J1 (Vs z.1 z.2));refine ⟨_,rfl,_,_,Q5t (p:=.ref S.length) rfl (qt gt) (Q5 (Um (Q5 (Q1k (Kn B hc)) rfl) ct) rfl) ap,⟨_,_,rfl⟩,?_⟩;rw [<- j,F7];simp)
  (Γ:=[some (Q8 a),some (Q8 b),some (.ref S.length),none,none]) (st:=S ++ [.lst []]) ⟨⟨_,_,rfl⟩,rfl⟩
 have O:((a.zip b).map fun z=>J1 (Vs z.1 z.2))=(Zw a b).map J1:=by unfold Zw; rw [br]; rfl
 rw [O] at e;have J:((Zw a b).map J1).length<=1000000:=by
  unfold Zw;rw [O2,O2,dm,<- h,fD];omega
 obtain ⟨st,j⟩:∃ st,S ++ [Cell.lst ((Zw a b).map J1)]=st:=⟨_,rfl⟩;have gt:ListAt st (.ref S.length) ((Zw a b).map J1):=.inr (.inr ⟨_,rfl,by rw [<- j]; simp⟩);have B:Qa6 (Q4 (Q3 0) (Q4 (Q3 1) Qa)) [some (Q8 a),some (Q8 b),some (.ref S.length),none,none] (S ++ [.lst []])=.ok ((a.zip b).map fun z=>.tup [J1 z.1,J1 z.2],[]) (S ++ [.lst []]):=by
  have Z:a.length<=1000000:=by omega
  unfold Q8;simp [Q1j,Z,Jv]
 have ct:Uj st [.ref S.length]=.ok (Q8 (Zw a b)) st:=by
  have z:st[S.length]?=some (.lst ((Zw a b).map J1)):=by rw [<- j]; simp
  show (match qe st (.ref S.length) with | some xs=>Res.ok (PV.tup xs) st | none=>.stuck)=_
  rw [show qe st (.ref S.length)=some ((Zw a b).map J1) from qt z]; rfl
 rw [j] at e;have step:y0 [some (Q8 a),some (Q8 b),none,none,none] S=.rt (Q8 (Zw a b)) st:=
  Qk (Γ1:=[some (Q8 a),some (Q8 b),some (.ref S.length),none,none]) (S1:=S ++ [.lst []]) (J9 (Q09 (ps:=[]) rfl)) (Qk (Q11 B e) (Xt (Um (Q5 rfl rfl) ct)))
 refine (W3 step).trans ?_;rw [<- j];exact Q5p (by simp [Y4,Q8,J1])
def bM (t:Nat):Int:=10 ^ (21 + t)
theorem Q4t (t:Nat):bM (t + 1)=10 * bM t:=by
 unfold bM;rw [show 21 + (t + 1)=(21 + t) + 1 by omega,Int.pow_succ];omega
theorem Q96:∀ t,1000000000000000000000<=bM t
 | 0=>by decide
 | t + 1=>by have:=Q96 t; rw [Q4t]; omega
theorem Qrj {t:Nat} (h:t<=60):8 * bM t + 2 < 10 ^ 100:=by
 have h1:bM t<=10 ^ 90:=by
  unfold bM
  exact_mod_cast gZ (n:=10) (by decide) (show 21 + t<=90 by omega)
 have h2:(8:Int) * 10 ^ 90 + 2 < 10 ^ 100:=by decide +kernel
 omega
structure Bd (n:Nat) (M:Int) (tb:Tab):Prop where
 le:∀ i j,i < n->j<=n->ent tb i j<=M
theorem Qn9 {n:Nat} {f:Nat->Int} {M:Int} (h:∀ o,o < n->f o<=M):Zc n f<=n * M:=by
 induction n with
 | zero=>simp [Zc]
 | succ n j=>
  rw [Ja];have h1:=j fun o q=>h o (by omega)
  have h2:=h n (by omega);have:((n + 1:Nat):Int) * M=n * M + M:=by push_cast; rw [Int.add_mul,Int.one_mul]
  omega
theorem Qn8 {n:Nat} {f:Nat->Int} (h:∀ o,o < n->0<=f o):0<=Zc n f:=by
 induction n with
 | zero=>simp [Zc]
 | succ n j=>
  rw [Ja];have h1:=j fun o q=>h o (by omega)
  have h2:=h n (by omega);omega
theorem Qj6 {n:Nat} {f:Nat->Int} (h:∀ o,o < n->0<=f o) {k:Nat} (G:k < n):f k<=Zc n f:=by
 induction n with
 | zero=>omega
 | succ n z=>
  rw [Ja];have h2:=h n (by omega);have B:=Qn8 (n:=n) fun o j=>h o (by omega)
  by_cases q:k=n
  ·subst q; omega
  ·have h1:=z (fun o j=>h o (by omega)) (by omega)
   omega
theorem Q53 {n h:Nat} {tb:Tab} (w:Wt' n tb) {M:Int} (b:Bd n M tb) (B:0<=M) (q:h < n):Qs tb h<=8 * M:=by
 rw [Uf w.sz q];have h1:=Qn9 (n:=n) (f:=fun o=>ent tb o h) fun o z=>b.le o h z (D9 q)
 have h2:=Qj6 (n:=n) (f:=fun j=>ent tb h j) (fun o z=>w.ent_nn q (D9 z)) q
 have G:=w.ent_nn q (O8 n);have I:(n:Int) * M<=8 * M:=Int.mul_le_mul_of_nonneg_right (by have:=w.n8; omega) B;have h2:ent tb h h<=Zc n fun j=>ent tb h j:=h2
 omega
theorem Bd.put {n:Nat} {tb:Tab} (w:Wt' n tb) {M:Int} (b:Bd n M tb) {d:Dd} (o:d.ok n) {K:Int} (B:M + d.k<=K):Bd n K (d.put n tb):=by
 refine ⟨fun i j hi q=>?_⟩;unfold Dd.put;rw [Q12 w.sz (Dd.ok_h o) (Dd.ok_pl o)];have h1:=b.le i j hi q;have h2:=Dd.ok_k o;have z:=b.le d.h (d.pl n) (Dd.ok_h o) (Dd.ok_pl o)
 split <;> omega
theorem Bd.up {n:Nat} {tb:Tab} {M K:Int} (b:Bd n M tb) (h:M<=K):Bd n K tb:=⟨fun i j hi q=>bh (b.le i j hi q) h⟩
theorem Qmp {n:Nat} {tb:Tab} (w:Wt' n tb) (c:Ca n tb) {d:Dd} (o:d.ok n) (G:d.isM=false->d.k<=Qs tb d.h):Wt' n (d.put n tb)/\Ca n (d.put n tb):=by
 have z:=Dd.ok_h o;have j:=Dd.ok_k o;have B:Wt' n (d.put n tb):=Qjp w o;refine ⟨B,?_⟩;cases d with
 | mk h k=>exact Ca.make w c z (by have:(1:Int)<=k:=j; omega) B
 | ld h q k=>
  have h1:k<=Qs tb h:=G rfl;have j:(1:Int)<=k:=j;exact Ca.give w c z (D9 o.2.1) o.2.2.1 (by omega) h1 (bh j h1) B
 | us h k=>
  have h1:k<=Qs tb h:=G rfl;have j:(1:Int)<=k:=j;have z:h < n:=z;exact Ca.give w c z (O8 n) (by omega) (by omega) h1 (bh j h1) B
theorem Qee {S:Q2} {L:Nat} (T:Tp S L):∃ (k:Int) (z:Q2),(1<=k/\k<=100000000000000000000)/\Tp z L/\Mv L S z/\Vm [.ref L] S=.ok (.int k) z:=by
 obtain ⟨d,S1,hd,B,M1,e1⟩:=Wb T 12 (by decide) (by decide);have e1:Qj [.ref L,.int 12] S=.ok (.int d) S1:=e1
 by_cases q:d=11
 ·obtain ⟨x,j,I,G,M2,e2⟩:=Wb B 3 (by decide) (by decide);have e2:Qj [.ref L,.int 3] S1=.ok (.int x) j:=e2;have M:=M1.trans M2;have hp:Qkf S1 (.int 10) (.int 20)=.ok (.int 100000000000000000000) S1:=by
   rw [Qke,bK (by decide)]; rfl
  have step:jz [some (.ref L),none] S=.rt (.int (100000000000000000000 - (x:Int))) j:=
   Qk (Γ1:=[some (.ref L),some (.int d)]) (J9 (Qz (n:=2) (Q5 rfl (Q5 rfl rfl)) rfl e1)) (zt (y3 (J3 (Q9 rfl rfl (Q2a S1 (by omega)))) (Xt (Q9 (Q9 rfl rfl hp) (Qz (n:=2) (Q5 rfl (Q5 rfl rfl)) rfl e2) (Qh2 j _ _)))))
  exact ⟨_,j,by omega,G,M,(W3 step).trans (Qff M.len _)⟩
 ·have b:=Q70 (d:Int) (b:=7) (by decide);have step:jz [some (.ref L),none] S=.rt (.int (1 + (d:Int) % 7)) S1:=
   Qk (Γ1:=[some (.ref L),some (.int d)]) (J9 (Qz (n:=2) (Q5 rfl (Q5 rfl rfl)) rfl e1)) (Qk (Wm (J3 (Q9 rfl rfl (Q3g S1 (by omega)))) rfl) (Xt (Q9 rfl (Q9 rfl rfl (Qpw S1 (by decide))) (Q42 S1 _ _))))
  exact ⟨_,S1,by omega,B,M1,(W3 step).trans (Qff M1.len _)⟩
theorem Qg4 {n i y:Nat} (hi:i < n) (j:y < n - 1):∃ q:Nat,((i:Int) + 1 + (y:Int)) % (n:Int)=(q:Int)/\q < n/\q≠i:=by
 by_cases h:i + 1 + y < n
 ·exact ⟨i + 1 + y,by rw [gf (by omega) (by omega)]; omega,h,by omega⟩
 ·refine ⟨i + 1 + y - n,?_,by omega,by omega⟩;have e:((i:Int) + 1 + (y:Int))=((i + 1 + y - n:Nat):Int) + (n:Int):=by omega
  rw [e,Int.add_emod_right,gf (by omega) (by omega)]
abbrev tbG (L n m:Nat) (tb:Tab) (c4 c5 c6 c7 c8:Option PV):Gam:=[some (.ref L),some (.int n),some (.int m),some (Q8 tb),c4,c5,c6,c7,c8]
structure TbI (n:Nat) (t:Nat) (tb:Tab):Prop where
 w:Wt' n tb
 c:Ca n tb
 b:Bd n (bM t) tb
theorem TbI.put {n t:Nat} {tb:Tab} (I:TbI n t tb) {d:Dd} (o:d.ok n) (j:d.isM=false->d.k<=Qs tb d.h) (z:d.isM=true->d.k<=100000000000000000000):TbI n (t + 1) (d.put n tb):=by
 have h:=Qmp I.w I.c o j;refine ⟨h.1,h.2,I.b.put I.w o ?_⟩;have g:=Q96 t;rw [Q4t];cases q:d.isM with
 | true=>have:=z q; omega
 | false=>
  have h1:=j q;have h2:=Q53 I.w I.b (by omega) (Dd.ok_h o);omega
theorem Qec {S:Q2} {L n m t:Nat} {tb:Tab} (T:Tp S L) (I:TbI n t tb) (ht:t<=20) (G c5 c6 Z J:Option PV):∃ (a2:Tab) (S':Q2) (d5 d6 d7 d8:Option PV),TbI n (t + 1) a2/\Tp S' L/\Mv L S S'/\jq (tbG L n m tb G c5 c6 Z J) S=.nx (tbG L n m a2 G d5 d6 d7 d8) S':=by
 have w:=I.w;have h1:=w.n1;have h8:=w.n8;obtain ⟨i,S1,hi,T1,M1,e1⟩:=Wb T n h1 (by omega);obtain ⟨y,B,hy,T2,M2,e2⟩:=Wb T1 4 (by decide) (by decide);have e2:Qj [.ref L,.int 4] S1=.ok (.int y) B:=e2;have e3:=Q16 w.sz (by omega) hi B;obtain ⟨r,hr⟩:∃ r:Nat,Qs tb i=(r:Int):=⟨(Qs tb i).toNat,by have:=I.c.nn i hi; omega⟩;rw [hr] at e3;have Y:=M1.trans M2;have k1:Jg 5 (Qi 2 Qj (Q4 (Q3 0) (Q4 (Q3 1) Qa))) (tbG L n m tb G c5 c6 Z J) S=.nx (tbG L n m tb G (some (.int i)) c6 Z J) S1:=J9 (Qz (n:=2) (Q5 rfl (Q5 rfl rfl)) rfl e1);have k2:Jg 6 (Qi 2 Qj (Q4 (Q3 0) (Q4 (mC (.int 4)) Qa))) (tbG L n m tb G (some (.int i)) c6 Z J) S1=.nx (tbG L n m tb G (some (.int i)) (some (.int y)) Z J) B:=J9 (Qz (n:=2) (Q5 rfl (Q5 rfl rfl)) rfl e2);have k3:Jg 7 (Qi 2 Ji (Q4 (Q3 3) (Q4 (Q3 5) Qa))) (tbG L n m tb G (some (.int i)) (some (.int y)) Z J) B=.nx (tbG L n m tb G (some (.int i)) (some (.int y)) (some (.int r)) J) B:=J9 (Qz (n:=2) (Q5 rfl (Q5 rfl rfl)) rfl e3)
 have a6:=Q53 w I.b (by have:=Q96 t; omega) hi;have a7:=Qrj (t:=t) (by omega);have a3:r < 2 ^ 8000:=Qfn (by
  have:(r:Int) < 10 ^ 100:=by omega
  exact_mod_cast this)
 by_cases q:y < 2\/r=0
 ·obtain ⟨k,U,hk,T3,M3,e4⟩:=Qee T2;have o:(Dd.mk i k).ok n:=⟨hi,hk.1⟩;have e5:=Q17 w.sz (by omega) hi (D9 hi) k U;refine ⟨_,U,_,_,_,_,I.put o (fun z=>by cases z) (fun _=>hk.2),T3,Y.trans M3,Qk k1 (Qk k2 (Qk k3 (y3 ?_ (J9 (Qz (n:=4) (Q5 rfl (Q5 rfl (Q5 rfl (Q5 (Qz (n:=1) (Q5 rfl rfl) rfl e4) rfl)))) rfl e5)))))⟩
  by_cases q1:y < 2
  ·exact Qsx (J3 (Q9 rfl rfl (Q8f B (by omega))))
  ·exact Qew (J3 (Q9 rfl rfl (Q5x B (by omega)))) (J3 (Q9 rfl rfl (Q2a B (by omega))))
 ·have a4:1<=r:=by omega
  have t1:Q45 (toB (mOp oLt (Q3 6) (mC (.int 2)))) (toB (mOp oEq (Q3 7) (mC (.int 0)))) (tbG L n m tb G (some (.int i)) (some (.int y)) (some (.int r)) J) B=.ok false B:=Qew (J3 (Q9 rfl rfl (Q5x B (by omega)))) (J3 (Q9 rfl rfl (Q3g B (by omega))))
  by_cases q2:y=2/\1 < n
  ·obtain ⟨z,U,hz,T3,M3,e4⟩:=Wb T2 (n - 1) (by omega) (by omega);have e4:Qj [.ref L,.int ((n:Int) - 1)] B=.ok (.int z) U:=by rw [show ((n:Int) - 1)=((n - 1:Nat):Int) by omega]; exact e4
   obtain ⟨j,ej,hj,a5⟩:=Qg4 hi hz;obtain ⟨x,O,hx,T4,M4,e5⟩:=Q30 T3 r a4 a3;have o:(Dd.ld i j (1 + (x:Int))).ok n:=⟨hi,hj,a5,by omega⟩;have e6:=Q17 w.sz (by omega) hi (D9 hj) (1 + (x:Int)) O;refine ⟨_,O,_,_,_,_,I.put o (fun _=>?_) (fun z=>by cases z),T4,(Y.trans M3).trans M4,Qk k1 (Qk k2 (Qk k3 (Wm t1 (y3 (Qbd (J3 (Q9 rfl rfl (Q2a B (by omega)))) (J3 (Q9 rfl rfl (Qrf B (by omega))))) (Qk (Γ1:=tbG L n m tb G (some (.int i)) (some (.int y)) (some (.int r)) (some (.int j))) (S1:=U) (J9 (Q9 (Q9 (Q9 rfl rfl (Q42 B _ _)) (Qz (n:=2) (Q5 rfl (Q5 (Q9 rfl rfl (Qh2 B _ _)) rfl)) rfl e4) (Q42 U _ _)) rfl ?_)) (J9 (Qz (n:=4) (Q5 rfl (Q5 rfl (Q5 rfl (Q5 (Q9 rfl (Qz (n:=2) (Q5 rfl (Q5 rfl rfl)) rfl e5) (Q42 O _ _)) rfl)))) rfl e6)))))))⟩
   ·show 1 + (x:Int)<=Qs tb i;rw [hr]; omega
   ·rw [Qpw U (by omega),ej]
  ·obtain ⟨x,O,hx,T4,M4,e5⟩:=Q30 T2 r a4 a3;have o:(Dd.us i (1 + (x:Int))).ok n:=⟨hi,by omega⟩;have e6:=Q17 w.sz (by omega) hi (O8 n) (1 + (x:Int)) O;have t2:xj (toB (mOp oEq (Q3 6) (mC (.int 2)))) (toB (mOp (oI fun a b=>.bl (decide (b < a))) (Q3 1) (mC (.int 1)))) (tbG L n m tb G (some (.int i)) (some (.int y)) (some (.int r)) J) B=.ok false B:=by
    by_cases q3:y=2
    ·exact Qbd (J3 (Q9 rfl rfl (Q2a B (by omega)))) (J3 (Q9 rfl rfl (Qrg B (by omega))))
    ·exact Qgt (J3 (Q9 rfl rfl (Q3g B (by omega))))
   refine ⟨_,O,_,_,_,_,I.put o (fun _=>?_) (fun z=>by cases z),T4,Y.trans M4,Qk k1 (Qk k2 (Qk k3 (Wm t1 (Wm t2 (J9 (Qz (n:=4) (Q5 rfl (Q5 rfl (Q5 rfl (Q5 (Q9 rfl (Qz (n:=2) (Q5 rfl (Q5 rfl rfl)) rfl e5) (Q42 O _ _)) rfl)))) rfl e6))))))⟩;show 1 + (x:Int)<=Qs tb i;rw [hr]; omega
theorem Qm7 {n i j:Nat} (hi:i < n) (q:j<=n):ent (bR n (j8 n)) i j=0:=by
 unfold ent;rw [F8 (l:=bR n (j8 n)),cU,bK hi,Option.getD_some,j8,F8,cU,bK (by omega)]; rfl
theorem Qit {S:Q2} {L n m:Nat} (T:Tp S L) (h1:1<=n) (Y:n<=8) (hm:m<=9):∃ (tb:Tab) (q:Q2),TbI n m tb/\Tp q L/\Mv L S q/\Xf [.ref L,.int n,.int m] S=.ok (Q8 tb) q:=by
 have w0:=Qn3 h1 Y;have I0:TbI n 0 (bR n (j8 n)):=⟨w0,Ca.zero h1 Y w0,⟨fun i j hi hj=>by rw [Qm7 hi hj]; have:=Q96 0; omega⟩⟩;obtain ⟨a3,q,e,tb,Z,G,J,z,B,rfl,I,T',M⟩:=jd (g:=fun k:Nat=>PV.int (k:Int)) (xs:=bV m) (ga:=Qn 4) (body:=jq) (w:=[]) (Γ:=tbG L n m (bR n (j8 n)) none none none none none) (st:=S)
  (fun t Γ st=>∃ tb Z G J z B,Γ=tbG L n m tb Z G J z B/\TbI n t tb/\Tp st L/\Mv L S st) (fun _ _ _ _=>by simp)
  (fun t x Γ st hx ⟨tb,Z,G,J,z,B,U,I,T,M⟩=>by
   subst U;have a2:t < m:=by simpa using (O0.mp hx).1
   obtain ⟨a4,q,d5,d6,d7,d8,I',T',M',e⟩:=Qec (m:=m) T I (by omega) (some (.int x)) G J z B;exact ⟨_,rfl,_,_,e,_,_,_,_,_,_,rfl,I',T',M.trans M'⟩)
  ⟨_,_,_,_,_,_,rfl,I0,T,Mv.refl L S⟩
 rw [F6] at I;rw [<- V5] at e;have O:Yg (Q4 (Q3 2) Qa) (tbG L n m (bR n (j8 n)) none none none none none) S=.ok (Zu 0 m,[]) S:=by
  rw [Xw,Q5 (m:=Q3 2) (p:=.int m) (S1:=S) rfl (show Qa _ S=.ok [] S from rfl),J5];show (if -(lim:Int)<=(m:Int)/\(m:Int)<=lim then _ else _)=_;rw [bK (by rw [Jv]; omega),cE]
 have step:yw [some (.ref L),some (.int n),some (.int m),none,none,none,none,none,none] S=.rt (Q8 tb) q:=
  Qk (Γ1:=tbG L n m (bR n (j8 n)) none none none none none) (J9 (Qz (n:=1) (Q5 rfl rfl) rfl (Qn2 Y S))) (Qk (Q11 O e) rfl)
 exact ⟨tb,q,I,T',M,(W3 step).trans (Q5n M.len (by simp [Y4,Q8,J1]))⟩
theorem Qiy (ns:List Int):∃ (n:Nat) (tb:Tab),(1<=n/\n<=8)/\TbI n 8 tb/\Xj [.fro (ns.map .int)] []=.ok (Q8 tb) []:=by
 obtain ⟨c,q⟩:=Qeb ns 0 [];have q:Wd [.fro (ns.map .int),.int 0] []=.ok (.ref 0) [.lst [.int c]]:=q;have G:Tp [.lst [.int c]] 0:=⟨c,rfl⟩;obtain ⟨a,S1,Y,B,M1,e1⟩:=Wb G 8 (by decide) (by decide);have e1:Qj [.ref 0,.int 8] [.lst [.int c]]=.ok (.int a) S1:=e1;obtain ⟨m,z,O,J,M2,e2⟩:=Wb B 9 (by decide) (by decide);have e2:Qj [.ref 0,.int 9] S1=.ok (.int m) z:=e2;obtain ⟨tb,j,I,Z,U,e3⟩:=Qit (n:=1 + a) (m:=m) J (by omega) (by omega) (by omega);have e3:Xf [.ref 0,.int (1 + (a:Int)),.int m] z=.ok (Q8 tb) j:=by rw [show (1 + (a:Int))=((1 + a:Nat):Int) by omega]; exact e3
 have up:∀ t k,bM t<=bM (t + k):=fun t k=>by
  induction k with
  | zero=>exact bf _
  | succ k ih=>have:=Q4t (t + k); have:=Q96 (t + k); rw [show t + (k + 1)=t + k + 1 by omega]; omega
 refine ⟨1 + a,tb,by omega,⟨I.w,I.c,I.b.up ?_⟩,?_⟩
 ·have:=up m (8 - m); rwa [show m + (8 - m)=8 by omega] at this
 have step:xb [some (.fro (ns.map .int)),none,none] []=.rt (Q8 tb) j:=
  Qk (Γ1:=[some (.fro (ns.map .int)),some (.ref 0),none]) (J9 (Qz (n:=2) (Q5 rfl (Q5 rfl rfl)) rfl q)) (Qk (Γ1:=[some (.fro (ns.map .int)),some (.ref 0),some (.int (1 + (a:Int)))]) (J9 (Q9 rfl (Qz (n:=2) (Q5 rfl (Q5 rfl rfl)) rfl e1) (Q42 S1 _ _))) (Xt (Qz (n:=3) (Q5 rfl (Q5 rfl (Q5 (Qz (n:=2) (Q5 rfl (Q5 rfl rfl)) rfl e2) rfl))) rfl e3)))
 refine (W3 step).trans ?_;exact Q5p (st:=[]) (more:=j) (by simp [Y4,Q8,J1])
def stD:List (Key × PV):=[(.inr "now",.ref 0),(.inr "last",.ref 1),(.inr "letters",.ref 2)]
structure LS (s:RS) (S:Q2):Prop where
 now:S[0]?=some (.lst (s.now.map Q8))
 last:S[1]?=some (.lst (s.last.map Q8))
 le:S[2]?=some (.lst (s.le.map Q8))
 st:S[3]?=some (.dic stD)
theorem LS.of {s:RS} {S j:Q2} (h:LS s S) (e:∀ t,t < 4->j[t]?=S[t]?):LS s j:=
 ⟨by rw [e 0 (by decide)]; exact h.now,by rw [e 1 (by decide)]; exact h.last,by rw [e 2 (by decide)]; exact h.le,by rw [e 3 (by decide)]; exact h.st⟩
theorem LS.mv {s:RS} {S j:Q2} {L:Nat} (h:LS s S) (M:Mv L S j) (z:4<=L):LS s j:=h.of fun t q=>M.keep t (by omega)
theorem Qf3:¬ ((.inr (bP "now"):Key)=.inr (bP "last")):=by decide +kernel
theorem Qht:¬ ((.inr (bP "now"):Key)=.inr (bP "letters")):=by decide +kernel
theorem Qf4:¬ ((.inr (bP "last"):Key)=.inr (bP "letters")):=by decide +kernel
theorem Qup:Q31 stD (.inr "now")=some (.ref 0):=by simp [Q31,stD]
theorem Qrp:Q31 stD (.inr "last")=some (.ref 1):=by
 unfold Q31 stD;rw [fK (by simpa using Qf3)];simp
theorem Quq:Q31 stD (.inr "letters")=some (.ref 2):=by
 unfold Q31 stD;rw [fK (by simpa using Qht),fK (by simpa using Qf4)];simp
theorem Qmc {S:Q2} {i:Nat} {kvs:List (Key × PV)} (h:S[i]?=some (.dic kvs)) {x:Str} {v:PV} (e:Q31 kvs (.inr x)=some v):Q61 S (.ref i) (.str x)=.ok v S:=by
 have h1:Qb3 S (.ref i)=some kvs:=by unfold Qb3; simp only [h]
 unfold Q61;rw [h1];show (match Q31 kvs (.inr x) with | some v=>Res.ok v S | none=>.stuck)=_
 rw [e]
section
variable {s:RS} {S:Q2}
theorem LS.gn (h:LS s S):Q61 S (.ref 3) (.str "now")=.ok (.ref 0) S:=Qmc h.st Qup
theorem LS.gl (h:LS s S):Q61 S (.ref 3) (.str "last")=.ok (.ref 1) S:=Qmc h.st Qrp
theorem LS.ge (h:LS s S):Q61 S (.ref 3) (.str "letters")=.ok (.ref 2) S:=Qmc h.st Quq
theorem Q1m {k i:Nat} {xs:List Tab} (h:S[k]?=some (.lst (xs.map Q8))) (hi:i < xs.length):oIx S (.ref k) (.int i)=.ok (Q8 (xs.getD i [])) S:=by
 have j:ListAt S (.ref k) (xs.map Q8):=.inr (.inr ⟨k,rfl,h⟩);rw [j.ix,Xp,Sm.atI_get (getD_some hi [])]; rfl
theorem Q6m {k i:Nat} {xs:List Tab} (h:S[k]?=some (.lst (xs.map Q8))) (hi:i < xs.length) (t:Tab):Q1n S (.ref k) (.int i) (Q8 t)=some (S.set k (.lst ((xs.set i t).map Q8))):=by
 have e:ixN (xs.map Q8).length (i:Int)=some i:=by
  rw [O2];unfold ixN;rw [bK (by omega),bK (by omega)]; simp
 unfold Q1n;simp only [h,e];rw [List.map_set]; rfl
end
theorem Qmz {n:Nat} {s:RS} {S:Q2} (h:LS s S) (r:RI n s) {x:Dx} (o:x.ok n s) (hl:s.le.length < 100000):∃ S',zj [.ref 3,x.V] S=.ok (Q6k s x) S'/\LS (Zv n s x) S'/\S'.length=S.length/\∀ t,3<=t->S'[t]?=S[t]?:=by
 have b0:=(O0.mp h.now).1;have b1:=(O0.mp h.last).1;have b2:=(O0.mp h.le).1;have G:∀ xs:List Tab,LS ⟨xs,s.last,s.le⟩ (S.set 0 (.lst (xs.map Q8))):=fun xs=>⟨E3 b0,by rw [O6 (by decide)]; exact h.last,by rw [O6 (by decide)]; exact h.le,by rw [O6 (by decide)]; exact h.st⟩
 have ext:∀ (k:Nat) (c:Cell),k < 3->∀ t,3<=t->(S.set k c)[t]?=S[t]?:=fun k c hk t ht=>O6 (by omega)
 have fg:∀ (k:Nat) (c:Cell),fin S (.str "done") (S.set k c)=.ok (.str "done") (S.set k c):=fun k c=>Q5n D7 rfl
 cases x with
 | own d=>
  have J:=Dd.ok_h o;have hi:d.h < s.now.length:=by rw [r.ln]; exact J
  have w:=r.wn d.h J;have h8:=w.n8;have ix:=Q1m h.now hi;have er:=Q16 w.sz (by omega) J S;have en:Yw S [.ref 0]=.ok (.int n) S:=by
   have hV:ListAt S (.ref 0) (s.now.map Q8):=.inr (.inr ⟨0,rfl,h.now⟩);rw [hV.len,O2,r.ln]
  have ea:=Q17 w.sz (by omega) J (Dd.ok_pl o) d.k S;have es:=Q6m h.now hi (d.put n (s.now.getD d.h []));have O:∀ (B:Str) (pl:PV),oIx S d.V (.int 0)=.ok (.str B) S->¬ B = "keep" -> ¬ B = "fall" -> ¬ B = "send" -> ¬ B = "come" -> (B = "make" <-> d.isM=true)->oIx S d.V (.int 2)=.ok pl S->Q5w "make" "use" "lend" (.int d.h) (.int n) pl S (.str B)=.ok (.int (d.pl n)) S ->
    Ww [some (.ref 3),some d.V,none,none,none,none] S=(if d.fits (s.now.getD d.h [])=true then .rt (.str "done") (S.set 0 (.lst ((s.now.set d.h (d.put n (s.now.getD d.h []))).map Q8))) else .rt (.int (Qs (s.now.getD d.h []) d.h)) S):=by
   intro B pl a0 k1 k2 k3 k4 km a2 pk;refine Qk (Γ1:=[some (.ref 3),some d.V,some (.ref 0),none,none,none]) (J9 (Q05 rfl rfl h.gn)) ?_;have I:∀ Y U:Option PV,∀ u:Str,¬ B=u->toB (mOp oEq (mOp oIx (Q3 1) (mC (.int 0))) (mC (.str u))) [some (.ref 3),some d.V,some (.ref 0),none,Y,U] S=.ok false S:=fun Y U u hu=>J3 (Q9 (Q9 rfl rfl a0) rfl (ju S hu))
   have c1:Jg 3 (mOp oIx (Q3 1) (mC (.int 1))) [some (.ref 3),some d.V,some (.ref 0),none,none,none] S=.nx [some (.ref 3),some d.V,some (.ref 0),some (.int d.h),none,none] S:=J9 (Q9 rfl rfl (Dd.a1 d S));have c2:Jg 4 (Qi 2 Ji (Q4 (mOp oIx (Q3 2) (Q3 3)) (Q4 (Q3 3) Qa))) [some (.ref 3),some d.V,some (.ref 0),some (.int d.h),none,none] S=.nx [some (.ref 3),some d.V,some (.ref 0),some (.int d.h),some (.int (Qs (s.now.getD d.h []) d.h)),none] S:=J9 (Qz (n:=2) (Q5 (Q9 rfl rfl ix) (Q5 rfl rfl)) rfl er);have al:mOp oIx (Q3 1) (Q20 (mC (.int 1))) [some (.ref 3),some d.V,some (.ref 0),some (.int d.h),some (.int (Qs (s.now.getD d.h []) d.h)),none] S=.ok (.int d.k) S:=Q9 rfl rfl (Dd.al d S);have cond:xj (toB (mOp oNe (mOp oIx (Q3 1) (mC (.int 0))) (mC (.str "make")))) (toB (mOp oLt (Q3 4) (mOp oIx (Q3 1) (Q20 (mC (.int 1)))))) [some (.ref 3),some d.V,some (.ref 0),some (.int d.h),some (.int (Qs (s.now.getD d.h []) d.h)),none] S=.ok (!d.fits (s.now.getD d.h [])) S:=by
    unfold Dd.fits;cases Z:d.isM with
    | true=>
     have hw:=km.mpr Z;rw [Bool.true_or,gC];exact Qgt (J3 (Q9 (Q9 rfl rfl a0) rfl (show oNe S (.str B) (.str "make")=.ok (.bl false) S by rw [hw]; simp)))
    | false=>
     have hw:¬ B = "make" := fun z=>by rw [km.mp z] at Z; cases Z
     refine (Qbd (J3 (Q9 (Q9 rfl rfl a0) rfl (show oNe S (.str B) (.str "make")=.ok (.bl true) S by simp [hw]))) ?_)
     by_cases q:d.k<=Qs (s.now.getD d.h []) d.h
     ·rw [bO q];exact J3 (Q9 rfl al (Q5x S (by omega)))
     ·rw [bN q];exact J3 (Q9 rfl al (Q8f S (by omega)))
   by_cases q:d.fits (s.now.getD d.h [])=true
   ·rw [bK q];rw [q] at cond;have c3:Jg 5 (Qdq "make" "use" "lend" (Q3 3) (J6 Yw (Q4 (Q3 2) Qa)) (mOp oIx (Q3 1) (mC (.int 2))) (mOp oIx (Q3 1) (mC (.int 0)))) [some (.ref 3),some d.V,some (.ref 0),some (.int d.h),some (.int (Qs (s.now.getD d.h []) d.h)),none] S=.nx [some (.ref 3),some d.V,some (.ref 0),some (.int d.h),some (.int (Qs (s.now.getD d.h []) d.h)),some (.int (d.pl n))] S:=by
     refine J9 ?_;rw [Qkp,show Q3 3 [some (PV.ref 3),some d.V,some (.ref 0),some (.int d.h),some (.int (Qs (s.now.getD d.h []) d.h)),none] S=.ok (.int d.h) S from rfl,J5,Um (Q5 (m:=Q3 2) (p:=.ref 0) rfl rfl) en,J5,Q9 rfl rfl a2,J5,Q9 rfl rfl a0,J5,pk]
    have c4:Q0w (Q3 2) (Q3 3) (Qi 4 Ye (Q4 (mOp oIx (Q3 2) (Q3 3)) (Q4 (Q3 3) (Q4 (Q3 5) (Q4 (mOp oIx (Q3 1) (Q20 (mC (.int 1)))) Qa))))) [some (.ref 3),some d.V,some (.ref 0),some (.int d.h),some (.int (Qs (s.now.getD d.h []) d.h)),some (.int (d.pl n))] S=.nx [some (.ref 3),some d.V,some (.ref 0),some (.int d.h),some (.int (Qs (s.now.getD d.h []) d.h)),some (.int (d.pl n))] (S.set 0 (.lst ((s.now.set d.h (d.put n (s.now.getD d.h []))).map Q8))):=
     Q7f (Qz (n:=4) (Q5 (Q9 rfl rfl ix) (Q5 rfl (Q5 rfl (Q5 (Q9 rfl rfl (Dd.al d S)) rfl)))) rfl ea) rfl rfl es
    exact Qk (Wm (I none none _ k1) (Wm (I none none _ k2) (Wm (I none none _ k3) (Wm (I none none _ k4) (Qk c1 (Qk c2 (Qk (Wm cond rfl) (Qk c3 c4)))))))) rfl
   ·rw [bL q];rw [Bool.not_eq_true] at q;rw [q] at cond;exact zt (Wm (I none none _ k1) (Wm (I none none _ k2) (Wm (I none none _ k3) (Wm (I none none _ k4) (Qk c1 (Qk c2 (zt (y3 cond rfl))))))))
  have j:Ww [some (.ref 3),some d.V,none,none,none,none] S=(if d.fits (s.now.getD d.h [])=true then .rt (.str "done") (S.set 0 (.lst ((s.now.set d.h (d.put n (s.now.getD d.h []))).map Q8))) else .rt (.int (Qs (s.now.getD d.h []) d.h)) S):=by
   cases d with
   | mk J k=>exact O "make" (.int k) rfl Z1 Z2 Z0 Z3 ⟨fun _=>rfl,fun _=>rfl⟩ rfl (by rw [Q55,bK rfl]; rfl)
   | ld J q k=>exact O "lend" (.int q) rfl Z5 Z6 Z4 Z7 ⟨fun z=>absurd z Jk,fun z=>by cases z⟩ rfl (by rw [Q55,bL Jk,bL Y2,bK rfl]; rfl)
   | us J k=>exact O "use" (.int k) rfl Zz Y0 Zx Y1 ⟨fun z=>absurd z Z8,fun z=>by cases z⟩ rfl (by rw [Q55,bL Z8,bK rfl]; rfl)
  by_cases q:d.fits (s.now.getD d.h [])=true
  ·rw [bK q] at j;have z1:Q6k s (.own d)=.str "done" := bK q;have z2:Zv n s (.own d)=⟨s.now.set d.h (d.put n (s.now.getD d.h [])),s.last,s.le⟩:=bK q;rw [z1,z2];exact ⟨_,(W3 j).trans (fg _ _),G _,D7,ext 0 _ (by decide)⟩
  ·rw [bL q] at j;have z1:Q6k s (.own d)=.int (Qs (s.now.getD d.h []) d.h):=bL q;have z2:Zv n s (.own d)=s:=bL q;rw [z1,z2];exact ⟨S,(W3 j).trans (Qgg S _),h,rfl,fun _ _=>rfl⟩
 | kp i=>
  have hi:i < n:=o;have k:Ww [some (.ref 3),some (Dx.kp i).V,none,none,none,none] S=.rt (.str "done") (S.set 1 (.lst ((s.last.set i (s.now.getD i [])).map Q8))):=
   Qk (Γ1:=[some (.ref 3),some (Dx.kp i).V,some (.ref 0),none,none,none]) (J9 (Q05 rfl rfl h.gn)) (Qk (y3 (J3 (Q9 (Q9 rfl rfl rfl) rfl (Q4p S _))) (Q7f (Q9 rfl (Q9 rfl rfl rfl) (Q1m h.now (by rw [r.ln]; exact hi))) (Q05 rfl rfl h.gl) (Q9 rfl rfl rfl) (Q6m h.last (by rw [r.ll]; exact hi) _))) rfl)
  exact ⟨_,(W3 k).trans (fg _ _),⟨by rw [O6 (by decide)]; exact h.now,E3 b1,by rw [O6 (by decide)]; exact h.le,by rw [O6 (by decide)]; exact h.st⟩,D7,ext 1 _ (by decide)⟩
 | fl i=>
  have hi:i < n:=o;have k:Ww [some (.ref 3),some (Dx.fl i).V,none,none,none,none] S=.rt (.str "done") (S.set 0 (.lst ((s.now.set i (s.last.getD i [])).map Q8))):=
   Qk (Γ1:=[some (.ref 3),some (Dx.fl i).V,some (.ref 0),none,none,none]) (J9 (Q05 rfl rfl h.gn)) (Qk (Wm (J3 (Q9 (Q9 rfl rfl rfl) rfl (ju S Jq))) (y3 (J3 (Q9 (Q9 rfl rfl rfl) rfl (Q4p S _))) (Q7f (Q9 (Q05 rfl rfl h.gl) (Q9 rfl rfl rfl) (Q1m h.last (by rw [r.ll]; exact hi))) rfl (Q9 rfl rfl rfl) (Q6m h.now (by rw [r.ln]; exact hi) _)))) rfl)
  exact ⟨_,(W3 k).trans (fg _ _),G _,D7,ext 0 _ (by decide)⟩
 | sd i=>
  have hi:i < n:=o;have k:Ww [some (.ref 3),some (Dx.sd i).V,none,none,none,none] S=.rt (.str "done") (S.set 2 (.lst (s.le.map Q8 ++ [Q8 (s.last.getD i [])]))):=
   Qk (Γ1:=[some (.ref 3),some (Dx.sd i).V,some (.ref 0),none,none,none]) (J9 (Q05 rfl rfl h.gn)) (Qk (Wm (J3 (Q9 (Q9 rfl rfl rfl) rfl (ju S Jn))) (Wm (J3 (Q9 (Q9 rfl rfl rfl) rfl (ju S Jp))) (y3 (J3 (Q9 (Q9 rfl rfl rfl) rfl (Q4p S _)))
    (Q5t (Q05 rfl rfl h.ge) (qt h.le) (Q5 (Q9 (Q05 rfl rfl h.gl) (Q9 rfl rfl rfl) (Q1m h.last (by rw [r.ll]; exact hi))) rfl) (Q2z h.le (by rw [O2]; omega) _))))) rfl)
  refine ⟨_,(W3 k).trans (fg _ _),⟨by rw [O6 (by decide)]; exact h.now,by rw [O6 (by decide)]; exact h.last,?_,by rw [O6 (by decide)]; exact h.st⟩,D7,ext 2 _ (by decide)⟩;rw [E3 b2];show _=some (Cell.lst ((s.le ++ [s.last.getD i []]).map Q8));rw [F7]; rfl
 | cm l i=>
  obtain ⟨a3,hi⟩:=o;have wN:=r.wn i hi;have Z:s.le.getD l []∈s.le:=D5 (getD_some a3 []);have wL:=r.we _ Z;have h8:=wN.n8;have ej:=Qfr (a:=s.now.getD i []) (b:=s.le.getD l []) (by rw [wN.len,wL.len]) (by rw [wN.len]; omega) (fun q hq=>by rw [wN.row q hq]; omega) S;have k:Ww [some (.ref 3),some (Dx.cm l i).V,none,none,none,none] S=.rt (.str "done") (S.set 0 (.lst ((s.now.set i (Zw (s.now.getD i []) (s.le.getD l []))).map Q8))):=
   Qk (Γ1:=[some (.ref 3),some (Dx.cm l i).V,some (.ref 0),none,none,none]) (J9 (Q05 rfl rfl h.gn)) (Qk (Wm (J3 (Q9 (Q9 rfl rfl rfl) rfl (ju S Js))) (Wm (J3 (Q9 (Q9 rfl rfl rfl) rfl (ju S Jt))) (Wm (J3 (Q9 (Q9 rfl rfl rfl) rfl (ju S Jr))) (y3 (J3 (Q9 (Q9 rfl rfl rfl) rfl (Q4p S _)))
    (Q7f (Qz (n:=2) (Q5 (Q9 rfl (Q9 rfl rfl rfl) (Q1m h.now (by rw [r.ln]; exact hi))) (Q5 (Q9 (Q05 rfl rfl h.ge) (Q9 rfl rfl rfl) (Q1m h.le a3)) rfl)) rfl ej) rfl (Q9 rfl rfl rfl) (Q6m h.now (by rw [r.ln]; exact hi) _)))))) rfl)
  exact ⟨_,(W3 k).trans (fg _ _),G _,D7,ext 0 _ (by decide)⟩
structure RB (n:Nat) (M:Int) (s:RS):Prop where
 now:∀ i,i < n->Bd n M (s.now.getD i [])
 last:∀ i,i < n->Bd n M (s.last.getD i [])
 le:∀ L∈s.le,Bd n M L
def Dx.kb (M:Int):Dx->Prop
 | .own d=>d.k<=9 * M
 | _=>True
theorem RB.up {n:Nat} {M K:Int} {s:RS} (b:RB n M s) (h:M<=K):RB n K s:=⟨fun i hi=>(b.now i hi).up h,fun i hi=>(b.last i hi).up h,fun L j=>(b.le L j).up h⟩
theorem RB.step {n t:Nat} {s:RS} (b:RB n (bM t) s) (r:RI n s) {x:Dx} (o:x.ok n s) (k:x.kb (bM t)):RB n (bM (t + 1)) (Zv n s x):=by
 have g:=Q96 t;have U:bM t<=bM (t + 1):=by rw [Q4t]; omega
 have u:=b.up U;have one:∀ {xs:List Tab} {h:Nat} {v:Tab},xs.length=n->h < n->(∀ i,i < n->Bd n (bM (t + 1)) (xs.getD i []))->Bd n (bM (t + 1)) v->∀ i,i < n->Bd n (bM (t + 1)) ((xs.set h v).getD i []):=fun {xs h v} hl z B hv i hi=>by
  rw [Jm (by omega)]
  split
  ·exact hv
  ·exact B i hi
 cases x with
 | own d=>
  have z:=Dd.ok_h o
  by_cases q:d.fits (s.now.getD d.h [])=true
  ·have G:Zv n s (.own d)=⟨s.now.set d.h (d.put n (s.now.getD d.h [])),s.last,s.le⟩:=bK q;rw [G];have k:d.k<=9 * bM t:=k;exact ⟨one r.ln z u.now ((b.now _ z).put (r.wn _ z) o (by rw [Q4t]; omega)),u.last,u.le⟩
  ·have G:Zv n s (.own d)=s:=bL q;rw [G]; exact u
 | kp i=>exact ⟨u.now,one r.ll o u.last (u.now i o),u.le⟩
 | fl i=>exact ⟨one r.ln o u.now (u.last i o),u.last,u.le⟩
 | sd i=>
  refine ⟨u.now,u.last,fun L Y=>?_⟩;rcases F1.mp Y with h | h
  ·exact u.le L h
  ·rw [dO.mp h]; exact u.last i o
 | cm l i=>
  obtain ⟨J,z⟩:=o;have O:s.le.getD l []∈s.le:=D5 (getD_some J []);refine ⟨one r.ln z u.now ⟨fun a j B I=>?_⟩,u.last,u.le⟩;rw [Xd (r.wn i z).sz (r.we _ O).sz B I];have h1:=(u.now i z).le a j B I;have h2:=(u.le _ O).le a j B I;rcases Qby (ent (s.now.getD i []) a j) (ent (s.le.getD l []) a j) with e | e
  ·rw [e]; exact h1
  ·rw [e]; exact h2
theorem Qwc {S:Q2} {k:Nat} {xs:List Tab} (h:S[k]?=some (.lst (xs.map Q8))) (j:xs≠[]):oEq S (.ref k) (.lst [])=.ok (.bl false) S:=by
 have g:Y4 dep (.lst (xs.map Q8))=true:=by
  simp [dep,Y4,Q8,J1]
 cases xs with
 | nil=>exact absurd rfl j
 | cons a xs=>
  have g2:Y4 dep (.lst [])=true:=rfl;have hp:peq (.lst (Q8 a :: xs.map Q8)) (.lst [])=false:=by rw [peq]; rfl
  simp only [F4] at h g;simp [oEq,der,h,g,g2,hp]
abbrev drG (L:Nat) (c2 c3 c4 c5 c6:Option PV):Gam:=[some (.ref L),some (.ref 3),c2,c3,c4,c5,c6]
theorem Qix {n t L:Nat} {s:RS} {S:Q2} (h:LS s S) (r:RI n s) (b:RB n (bM t) s) (ht:t<=60) (T:Tp S L) (hL:4<=L) (a9:s.le.length < 90) (h1:1<=n) (h8:n<=8) :
  ∃ (x:Dx) (U:Q2),x.ok n s/\x.kb (bM t)/\Tp U L/\Mv L S U/\Xi [.ref L,.ref 3] S=.ok x.V U:=by
 have en:Yw S [.ref 0]=.ok (.int n) S:=by
  have hV:ListAt S (.ref 0) (s.now.map Q8):=.inr (.inr ⟨0,rfl,h.now⟩);rw [hV.len,O2,r.ln]
 obtain ⟨i,S1,hi,T1,M1,e1⟩:=Wb T n h1 (by omega);obtain ⟨y,S2,hy,T2,M2,e2⟩:=Wb T1 12 (by decide) (by decide);have e2:Qj [.ref L,.int 12] S1=.ok (.int y) S2:=e2;have a5:=M1.trans M2;have l2:=h.mv a5 hL;have w:=r.wn i hi;have e3:=Q16 w.sz (by omega) hi S2;have ix:=Q1m l2.now (show i < s.now.length by rw [r.ln]; exact hi);obtain ⟨v,hv⟩:∃ v:Nat,(if Qs (s.now.getD i []) i > 0 then Qs (s.now.getD i []) i else 0)=(v:Int):=⟨(if Qs (s.now.getD i []) i > 0 then Qs (s.now.getD i []) i else 0).toNat,by split <;> omega⟩;have g:=Q96 t;have a8:(v:Int)<=8 * bM t:=by
  have:=Q53 w (b.now i hi) (by omega) hi;rw [<- hv]; split <;> omega
 have b0:=Qrj (t:=t) ht;have a7:v + 2 < 2 ^ 8000:=Qfn (by
  have:((v + 2:Nat):Int) < 10 ^ 100:=by omega
  exact_mod_cast this)
 obtain ⟨z,B,hz,T3,M3,e4⟩:=Q30 T2 (v + 2) (by omega) a7;have e4:Qj [.ref L,.int ((v:Int) + 2)] S2=.ok (.int z) B:=e4;have I:=a5.trans M3;have l3:=h.mv I hL;have em:Q93 S2 [.int 0,.int (Qs (s.now.getD i []) i)]=.ok (.int v) S2:=by rw [Qe8,hv]
 have k1:Jg 2 (J6 Yw (Q4 (Uh (Q3 1) (mC (.str "now"))) Qa)) (drG L none none none none none) S=.nx (drG L (some (.int n)) none none none none) S:=J9 (Um (Q5 (Q05 rfl rfl h.gn) rfl) en);have k2:Jg 3 (Qi 2 Qj (Q4 (Q3 0) (Q4 (Q3 2) Qa))) (drG L (some (.int n)) none none none none) S=.nx (drG L (some (.int n)) (some (.int i)) none none none) S1:=J9 (Qz (n:=2) (Q5 rfl (Q5 rfl rfl)) rfl e1);have k3:Jg 4 (Qi 2 Qj (Q4 (Q3 0) (Q4 (mC (.int 12)) Qa))) (drG L (some (.int n)) (some (.int i)) none none none) S1=.nx (drG L (some (.int n)) (some (.int i)) (some (.int y)) none none) S2:=J9 (Qz (n:=2) (Q5 rfl (Q5 rfl rfl)) rfl e2);have k4:Jg 5 (J6 Q93 (Q4 (mC (.int 0)) (Q4 (Qi 2 Ji (Q4 (mOp oIx (Uh (Q3 1) (mC (.str "now"))) (Q3 3)) (Q4 (Q3 3) Qa))) Qa))) (drG L (some (.int n)) (some (.int i)) (some (.int y)) none none) S2=.nx (drG L (some (.int n)) (some (.int i)) (some (.int y)) (some (.int v)) none) S2:=J9 (Um (Q5 rfl (Q5 (Qz (n:=2) (Q5 (Q9 (Q05 rfl rfl l2.gn) rfl ix) (Q5 rfl rfl)) rfl e3) rfl)) em)
 obtain ⟨G,hG⟩:∃ G,drG L (some (.int n)) (some (.int i)) (some (.int y)) (some (.int v)) (some (.int (1 + (z:Int))))=G:=⟨_,rfl⟩;have k5:Jg 6 (mOp Wi (mC (.int 1)) (Qi 2 Qj (Q4 (Q3 0) (Q4 (mOp Wi (Q3 5) (mC (.int 2))) Qa)))) (drG L (some (.int n)) (some (.int i)) (some (.int y)) (some (.int v)) none) S2=.nx G B:=by
  rw [<- hG];exact J9 (Q9 rfl (Qz (n:=2) (Q5 rfl (Q5 (Q9 rfl rfl (Q42 S2 _ _)) rfl)) rfl e4) (Q42 B _ _))
 have v0:Q3 0 G B=.ok (.ref L) B:=by rw [<- hG]; rfl
 have v1:Q3 1 G B=.ok (.ref 3) B:=by rw [<- hG]; rfl
 have v2:∀ S,Q3 2 G S=.ok (.int n) S:=fun S=>by rw [<- hG]; rfl
 have v3:∀ S,Q3 3 G S=.ok (.int i) S:=fun S=>by rw [<- hG]; rfl
 have Y:Q3 4 G B=.ok (.int y) B:=by rw [<- hG]; rfl
 have v6:∀ S,Q3 6 G S=.ok (.int (1 + (z:Int))) S:=fun S=>by rw [<- hG]; rfl
 have fg:∀ {U:Q2} (x:Dx),Mv L S U->fin S x.V U=.ok x.V U:=fun {U} x M=>Q5n M.len (by cases x with | own d=>cases d <;> rfl | _=>rfl)
 have J:∀ (x:Dx) (U:Q2),Mv L S U->_->Xi [.ref L,.ref 3] S=.ok x.V U:=fun x U M (q:_=SR.rt x.V U)=>(W3 (m:=x8) (nl:=7) (ps:=[.ref L,.ref 3]) (Qk k1 (Qk k2 (Qk k3 (Qk k4 (Qk k5 q)))))).trans (fg x M)
 by_cases q0:y=0
 ·obtain ⟨k,O,hk,T4,Z,e5⟩:=Qee T3;refine ⟨.own (.mk i k),O,⟨hi,hk.1⟩,?_,T4,I.trans Z,J _ _ (I.trans Z) (zt (y3 (J3 (Q9 Y rfl (Q2a B (by omega)))) (Xt (jh (Q5 rfl (Q5 (v3 B) (Q5 (Qz (n:=1) (Q5 v0 rfl) rfl e5) rfl))) (by simp)))))⟩;show k<=9 * bM t;omega
 have t0:Ys (toB (mOp oEq (Q3 4) (mC (.int 0)))) (Jx (Kb (Q4 (mC (.str "make")) (Q4 (Q3 3) (Q4 (Qi 1 Vm (Q4 (Q3 0) Qa)) Qa))))) Y7 G B=.nx G B:=Wm (J3 (Q9 Y rfl (Q3g B (by omega)))) rfl
 by_cases q1:y < 4/\1 < n
 ·obtain ⟨u,O,hu,T4,Z,e5⟩:=Wb T3 (n - 1) (by omega) (by omega);have e5:Qj [.ref L,.int ((n:Int) - 1)] B=.ok (.int u) O:=by rw [show ((n:Int) - 1)=((n - 1:Nat):Int) by omega]; exact e5
  obtain ⟨j,ej,hj,a2⟩:=Qg4 hi hu;refine ⟨.own (.ld i j (1 + (z:Int))),O,⟨hi,hj,a2,by omega⟩,?_,T4,I.trans Z,J _ _ (I.trans Z) (Qk t0 (zt (y3 (Qbd (J3 (Q9 Y rfl (Q8f B (by omega)))) (J3 (Q9 (v2 B) rfl (Qrf B (by omega))))) (Xt (jh (Q5 rfl (Q5 (v3 B) (Q5 (Q9 (Q9 (Q9 (v3 B) rfl (Q42 B _ _)) (Qz (n:=2) (Q5 v0 (Q5 (Q9 (v2 B) rfl (Qh2 B _ _)) rfl)) rfl e5) (Q42 O _ _)) (v2 O) (by rw [Qpw O (by omega),ej])) (Q5 (v6 O) rfl)))) (by simp))))))⟩;show 1 + (z:Int)<=9 * bM t;omega
 have t1:Ys (xj (toB (mOp oLt (Q3 4) (mC (.int 4)))) (toB (mOp (oI fun a b=>.bl (decide (b < a))) (Q3 2) (mC (.int 1))))) (Jx (Kb (Q4 (mC (.str "lend")) (Q4 (Q3 3) (Q4 (mOp Q38 (mOp Wi (mOp Wi (Q3 3) (mC (.int 1))) (Qi 2 Qj (Q4 (Q3 0) (Q4 (mOp (oI fun a b=>.int (a - b)) (Q3 2) (mC (.int 1))) Qa)))) (Q3 2)) (Q4 (Q3 6) Qa)))))) Y7 G B=.nx G B:=by
  refine Wm ?_ rfl
  by_cases q2:y < 4
  ·exact Qbd (J3 (Q9 Y rfl (Q8f B (by omega)))) (J3 (Q9 (v2 B) rfl (Qrg B (by omega))))
  ·exact Qgt (J3 (Q9 Y rfl (Q5x B (by omega))))
 by_cases q2:y < 6
 ·refine ⟨.own (.us i (1 + (z:Int))),B,⟨hi,by omega⟩,?_,T3,I,J _ _ I (Qk t0 (Qk t1 (zt (y3 (J3 (Q9 Y rfl (Q8f B (by omega)))) (Xt (jh (Q5 rfl (Q5 (v3 B) (Q5 (v6 B) rfl))) (by simp)))))))⟩;show 1 + (z:Int)<=9 * bM t;omega
 have t2:Ys (toB (mOp oLt (Q3 4) (mC (.int 6)))) (Jx (Kb (Q4 (mC (.str "use")) (Q4 (Q3 3) (Q4 (Q3 6) Qa))))) Y7 G B=.nx G B:=Wm (J3 (Q9 Y rfl (Q5x B (by omega)))) rfl
 by_cases q3:y < 8
 ·obtain ⟨u,O,hu,T4,Z,e5⟩:=Wb T3 3 (by decide) (by decide);have e5:Qj [.ref L,.int 3] B=.ok (.int u) O:=e5;have a3:Qa7 (Q4 (mC (.str "keep")) (Q4 (mC (.str "fall")) Qa)) G B=.ok (.lst [.str "keep",.str "fall"]) B:=Qmy rfl;have a4:Qi 2 Qj (Q4 (Q3 0) (Q4 (mC (.int 3)) Qa)) G B=.ok (.int u) O:=Qz (n:=2) (Q5 v0 (Q5 rfl rfl)) rfl e5
  by_cases qu:u=0
  ·refine ⟨.fl i,O,hi,trivial,T4,I.trans Z,J _ _ (I.trans Z) (Qk t0 (Qk t1 (Qk t2 (zt (y3 (J3 (Q9 Y rfl (Q8f B (by omega)))) (Xt (jh (Q5 (Q9 a3 (Um (Q5 (Q9 a4 rfl (Q2a O (by omega))) rfl) rfl) rfl) (Q5 (v3 O) rfl)) (by simp))))))))⟩
  ·refine ⟨.kp i,O,hi,trivial,T4,I.trans Z,J _ _ (I.trans Z) (Qk t0 (Qk t1 (Qk t2 (zt (y3 (J3 (Q9 Y rfl (Q8f B (by omega)))) (Xt (jh (Q5 (Q9 a3 (Um (Q5 (Q9 a4 rfl (Q3g O (by omega))) rfl) rfl) rfl) (Q5 (v3 O) rfl)) (by simp))))))))⟩
 have t3:∀ X,Ys (toB (mOp oLt (Q3 4) (mC (.int 8)))) X Y7 G B=.nx G B:=fun X=>Wm (J3 (Q9 Y rfl (Q5x B (by omega)))) rfl
 have ed:Uh (Q3 1) (mC (.str "letters")) G B=.ok (.ref 2) B:=Q05 v1 rfl l3.ge
 by_cases q4:y=8\/s.le=[]
 ·refine ⟨.sd i,B,hi,trivial,T3,I,J _ _ I (Qk t0 (Qk t1 (Qk t2 (Qk (t3 _) (zt (y3 ?_ (Xt (jh (Q5 rfl (Q5 (v3 B) rfl)) (by simp)))))))))⟩
  by_cases q5:y=8
  ·exact Qsx (J3 (Q9 Y rfl (Q2a B (by omega))))
  ·have hz:s.le=[]:=q4.resolve_left q5;have hV:ListAt B (.ref 2) []:=.inr (.inr ⟨2,rfl,by rw [l3.le,hz]; rfl⟩);exact Qew (J3 (Q9 Y rfl (Q3g B (by omega)))) (J3 (Q9 ed rfl (hV.eqs rfl).2.2.2))
 ·have a2:s.le≠[]:=fun z=>q4 (.inr z)
  have a6:1<=s.le.length:=by cases hs:s.le with | nil=>exact absurd hs a2 | cons a b=>simp
  obtain ⟨u,O,hu,T4,Z,e5⟩:=Wb T3 s.le.length a6 (by omega);have hV:ListAt B (.ref 2) (s.le.map Q8):=.inr (.inr ⟨2,rfl,l3.le⟩);have el:Yw B [.ref 2]=.ok (.int s.le.length) B:=by rw [hV.len,O2]
  have ne:oEq B (.ref 2) (.lst [])=.ok (.bl false) B:=Qwc l3.le a2;have t4:Ys (Q45 (toB (mOp oEq (Q3 4) (mC (.int 8)))) (toB (mOp oEq (Uh (Q3 1) (mC (.str "letters"))) (Qa7 Qa)))) (Jx (Kb (Q4 (mC (.str "send")) (Q4 (Q3 3) Qa)))) Y7 G B=.nx G B:=Wm (Qew (J3 (Q9 Y rfl (Q3g B (by omega)))) (J3 (Q9 ed rfl ne))) rfl;exact ⟨.cm u i,O,⟨hu,hi⟩,trivial,T4,I.trans Z,J _ _ (I.trans Z) (Qk t0 (Qk t1 (Qk t2 (Qk (t3 _) (Qk t4 (Xt (jh (Q5 rfl (Q5 (Qz (n:=2) (Q5 v0 (Q5 (Um (Q5 ed rfl) el) rfl)) rfl e5) (Q5 (v3 O) rfl))) (by simp))))))))⟩
theorem Qed (xs:List PV) (v:PV):atI (xs ++ [v]) (-1)=some v:=by
 have e:ixN (xs ++ [v]).length (-1)=some xs.length:=by
  rw [O9];unfold ixN;rw [bL (by omega),bK (by simp; omega)];simp; omega
 unfold atI;rw [e];simp
structure AI (n:Nat) (tb:Tab) (xs:List Dx) (S:Q2):Prop where
 ok:OkL n (s0 n tb) xs
 ls:LS (qc n (s0 n tb) xs) S
 de:S[4]?=some (.lst (xs.map Dx.V))
 an:S[5]?=some (.lst (Q2e n (s0 n tb) xs))
 rb:RB n (bM (8 + xs.length)) (qc n (s0 n tb) xs)
 len:6<=S.length
abbrev apG (ns:List Int) (m:Nat) (tb:Tab) (c7 c8 c9:Option PV):Gam:=[some (.fro (ns.map .int)),some (.int 1),some (.int m),some (Q8 tb),some (.ref 3),some (.ref 4),some (.ref 5),c7,c8,c9]
theorem Qu3 {n:Nat} {tb:Tab} (w:Wt' n tb) {xs:List Dx} {S:Q2} {L:Nat} (I:AI n tb xs S) (T:Tp S L) (hL:6<=L) (hx:xs.length<=45) (ns:List Int) (m:Nat) (c7 c9:Option PV):∃ (x:Dx) (O:Q2),qx (apG ns m tb c7 (some (.ref L)) c9) S=.nx (apG ns m tb c7 (some (.ref L)) c9) O/\AI n tb (xs ++ [x]) O/\Tp O L:=by
 have r:=(RI.start w).run I.ok;have a5:=Qfd n xs (s0 n tb);have a4:(s0 n tb).le.length=0:=rfl;obtain ⟨x,S1,G,kx,T1,M1,e1⟩:=Qix I.ls r I.rb (by omega) T (by omega) (by omega) w.n1 w.n8;have l1:=I.ls.mv M1 (by omega);have d1:S1[4]?=some (.lst (xs.map Dx.V)):=by rw [M1.keep 4 (by omega)]; exact I.de
 have a1:S1[5]?=some (.lst (Q2e n (s0 n tb) xs)):=by rw [M1.keep 5 (by omega)]; exact I.an
 have b4:=(O0.mp d1).1;have b5:=(O0.mp a1).1;have z:=Q2z d1 (by rw [O2]; omega) x.V;obtain ⟨q,j⟩:∃ q,S1.set 4 (.lst (xs.map Dx.V ++ [x.V]))=q:=⟨_,rfl⟩;rw [j] at z;have d2:q[4]?=some (.lst (xs.map Dx.V ++ [x.V])):=by rw [<- j]; exact E3 b4
 have k2:∀ t,t≠4->q[t]?=S1[t]?:=fun t ht=>by rw [<- j]; exact O6 (by omega)
 have l2:LS (qc n (s0 n tb) xs) q:=l1.of fun t ht=>k2 t (by omega)
 have a2:q[5]?=some (.lst (Q2e n (s0 n tb) xs)):=by rw [k2 5 (by omega)]; exact a1
 obtain ⟨S3,e2,l3,B,k3⟩:=Qmz l2 r G (by omega);have Z:S3[5]?=some (.lst (Q2e n (s0 n tb) xs)):=by rw [k3 5 (by omega)]; exact a2
 have U:=(O0.mp Z).1;have hV:ListAt q (.ref 4) (xs.map Dx.V ++ [x.V]):=.inr (.inr ⟨4,rfl,d2⟩);have ix:oIx q (.ref 4) (.int (-1))=.ok x.V q:=by rw [hV.ix,Qed]; rfl
 have J:=Q2z Z (by rw [Qci]; omega) (Q6k (qc n (s0 n tb) xs) x);have Y:qc n (s0 n tb) (xs ++ [x])=Zv n (qc n (s0 n tb) xs) x:=by rw [Qbq]; rfl
 have ea:Q2e n (s0 n tb) (xs ++ [x])=Q2e n (s0 n tb) xs ++ [Q6k (qc n (s0 n tb) xs) x]:=by rw [Qcj]; rfl
 refine ⟨x,_,Qk (Q5t (p:=.ref 4) rfl (qt I.de) (Q5 (Qz (n:=2) (Q5 rfl (Q5 rfl rfl)) rfl e1) rfl) z) (Q5t (p:=.ref 5) rfl (qt a2) (Q5 (Qz (n:=2) (Q5 rfl (Q5 (Q9 rfl rfl ix) rfl)) rfl e2) rfl) J),⟨?_,?_,?_,?_,?_,?_⟩,?_⟩
 ·exact (Q6s n xs [x] _).mpr ⟨I.ok,G,trivial⟩
 ·rw [Y]; exact l3.of fun t ht=>O6 (by omega)
 ·rw [O6 (by decide),k3 4 (by decide),d2,F7]; rfl
 ·rw [ea,E3 U]
 ·rw [Y,O9]; exact I.rb.step r G kx
 ·rw [D7,B,<- j,D7,M1.len]; exact I.len
 ·obtain ⟨c,hc⟩:=T1;exact ⟨c,by rw [O6 (by omega),k3 L (by omega),k2 L (by omega)]; exact hc⟩
theorem Qu4 {n:Nat} {tb:Tab} (w:Wt' n tb) {xs:List Dx} {S:Q2} (I:AI n tb xs S) (hx:xs.length<=40) (ns:List Int) (m k:Nat) (c8 J:Option PV):∃ (ys:List Dx) (G:Q2) (d8 d9:Option PV),ys.length=xs.length + 3/\qy (apG ns m tb (some (.int (1 + (k:Int)))) c8 J) S=.nx (apG ns m tb (some (.int (1 + (k:Int)))) d8 d9) G/\AI n tb ys G:=by
 obtain ⟨c,Z⟩:=Qeb ns (1 + k) S;rw [show ((1 + k:Nat):Int)=1 + (k:Int) by omega] at Z;obtain ⟨S1,q⟩:∃ S1,S ++ [Cell.lst [.int c]]=S1:=⟨_,rfl⟩;rw [q] at Z;have T1:Tp S1 S.length:=⟨c,by rw [<- q]; simp⟩;have hl:=I.len;have k1:∀ t,t < 6->S1[t]?=S[t]?:=fun t ht=>by rw [<- q,O5 (by omega)]
 have I1:AI n tb xs S1:=⟨I.ok,I.ls.of fun t ht=>k1 t (by omega),by rw [k1 4 (by decide)]; exact I.de,by rw [k1 5 (by decide)]; exact I.an,I.rb,by rw [<- q,O9]; omega⟩;obtain ⟨a3,G,e,ys,B,z,rfl,Y,_⟩:=jd (g:=fun k:Nat=>PV.int (k:Int)) (xs:=bV 3) (ga:=Qn 9) (body:=qx) (w:=[]) (Γ:=apG ns m tb (some (.int (1 + (k:Int)))) (some (.ref S.length)) J) (st:=S1)
  (fun j Γ st=>∃ ys B,ys.length=xs.length + j/\Γ=apG ns m tb (some (.int (1 + (k:Int)))) (some (.ref S.length)) B/\AI n tb ys st/\Tp st S.length) (fun _ _ _ _=>by simp)
  (fun j x Γ st hj ⟨ys,B,z,U,I,T⟩=>by
   subst U;have a2:j < 3:=by simpa using (O0.mp hj).1
   obtain ⟨y,G,e,Y,T'⟩:=Qu3 w I T hl (by omega) ns m (some (.int (1 + (k:Int)))) (some (.int x));exact ⟨_,rfl,_,_,e,ys ++ [y],_,by rw [O9,z]; rfl,rfl,Y,T'⟩)
  ⟨xs,_,rfl,rfl,I1,T1⟩
 rw [<- V5] at e;have O:Yg (Q4 (mC (.int 3)) Qa) (apG ns m tb (some (.int (1 + (k:Int)))) (some (.ref S.length)) J) S1=.ok (Zu 0 3,[]) S1:=by
  rw [Xw,Q5 (m:=mC (.int 3)) (p:=.int 3) (S1:=S1) rfl (show Qa _ S1=.ok [] S1 from rfl),J5];exact bK (by rw [Jv]; omega)
 exact ⟨ys,G,_,_,z,Qk (Γ1:=apG ns m tb (some (.int (1 + (k:Int)))) (some (.ref S.length)) J) (J9 (Qz (n:=2) (Q5 rfl (Q5 rfl rfl)) rfl Z)) (Q11 O e),Y⟩
theorem Qiu {n:Nat} {tb:Tab} (w:Wt' n tb):Xg [Q8 tb] []=.ok (.ref 3) [.lst ((bR n tb).map Q8),.lst ((bR n tb).map Q8),.lst [],.dic stD]:=by
 have U:=w.n8;have I:((bV n).map fun _=>Q8 tb)=(bR n tb).map Q8:=by
  rw [gc];exact gd.mpr ⟨by simp,fun b J=>by obtain ⟨_,_,rfl⟩:=dN.mp J; rfl⟩
 have q:∀ S:Q2,Yg (Q4 (J6 Yw (Q4 (Q3 0) Qa)) Qa) [some (Q8 tb)] S=.ok (Zu 0 n,[]) S:=fun S=>by
  have z:Yw S [Q8 tb]=.ok (.int n) S:=by simp [Q8,w.len]
  rw [Xw,Q5 (Um (Q5 (m:=Q3 0) (p:=Q8 tb) (S1:=S) rfl (show Qa _ S=.ok [] S from rfl)) z) (show Qa _ S=.ok [] S from rfl),J5];show (if -(lim:Int)<=(n:Int)/\(n:Int)<=lim then _ else _)=_;rw [bK (by rw [Jv]; omega),cE]
 have G:∀ S:Q2,Ju (Qn 0) Jw Q1a [] (Jy [none,some 0] [some (Q8 tb)]) (Zu 0 n) S=.ok ((bR n tb).map Q8) S:=fun S=>by
  rw [V5,<- I];exact Yr _ _ (by simp) fun j O=>⟨_,rfl,rfl⟩
 have B:∀ S:Q2,Ju (Qn 0) Jw Q19 [] (Jy [none,some 0] [some (Q8 tb)]) (Zu 0 n) S=.ok ((bR n tb).map Q8) S:=fun S=>by
  rw [V5,<- I];exact Yr _ _ (by simp) fun j O=>⟨_,rfl,rfl⟩
 have step:yx [some (Q8 tb)] []=.rt (.ref 3) [.lst ((bR n tb).map Q8),.lst ((bR n tb).map Q8),.lst [],.dic stD]:=by
  refine Xt ?_;rw [Qi0,Q09 (Kn (q _) (G _)),J5,Q09 (Kn (q _) (B _)),J5,Q09 (ps:=[]) rfl,J5];rfl
 exact Q07 step
theorem Qfp {n:Nat} {tb:Tab} (Z:TbI n 8 tb) (ns:List Int) (m:Nat) (hm:m<=13):∃ (xs:List Dx) (z:Q2),xs.length=3 * m/\AI n tb xs z/\Up [.fro (ns.map .int),.int 1,.int m,Q8 tb] []=.ok (.tup [.ref 4,.ref 5,.ref 3]) z:=by
 have w:=Z.w;have e0:=Qiu w;obtain ⟨A,U⟩:∃ A,[Cell.lst ((bR n tb).map Q8),.lst ((bR n tb).map Q8),.lst [],.dic stD]=A:=⟨_,rfl⟩;have A6:A ++ [Cell.lst []] ++ [Cell.lst []]=[Cell.lst ((bR n tb).map Q8),.lst ((bR n tb).map Q8),.lst [],.dic stD,.lst [],.lst []]:=by rw [<- U]; rfl
 have IA:AI n tb [] (A ++ [Cell.lst []] ++ [Cell.lst []]):=by
  rw [A6];refine ⟨trivial,⟨rfl,rfl,rfl,rfl⟩,rfl,rfl,?_,O8 6⟩;have e:∀ i,i < n->(bR n tb).getD i []=tb:=fun i hi=>Q1r hi
  refine ⟨fun i hi=>?_,fun i hi=>?_,fun L hL=>absurd hL cx⟩
  ·show Bd n (bM 8) ((bR n tb).getD i []); rw [e i hi]; exact Z.b
  ·show Bd n (bM 8) ((bR n tb).getD i []); rw [e i hi]; exact Z.b
 rw [U] at e0;have lA:A.length=4:=by rw [<- U]; rfl
 obtain ⟨a2,z,e,xs,O,B,G,q,rfl,I⟩:=jd (g:=fun k:Nat=>PV.int (1 + (k:Int))) (xs:=bV m) (ga:=Qn 7) (body:=qy) (w:=[]) (Γ:=apG ns m tb none none none) (st:=A ++ [Cell.lst []] ++ [Cell.lst []])
  (fun j Γ st=>∃ xs O B G,xs.length=3 * j/\Γ=apG ns m tb O B G/\AI n tb xs st) (fun _ _ _ _=>by simp)
  (fun j x Γ st hj ⟨xs,O,B,G,q,Y,I⟩=>by
   subst Y;have a3:j < m:=by simpa using (O0.mp hj).1
   obtain ⟨ys,z,d8,d9,a4,e,I'⟩:=Qu4 w I (by omega) ns m x B G;exact ⟨_,rfl,_,_,e,ys,_,_,_,by omega,rfl,I'⟩)
  ⟨[],_,_,_,rfl,rfl,IA⟩
 rw [F6] at q;have J:Q0x (Q4 (Q3 1) (Q4 (mOp Wi (Q3 1) (Q3 2)) Qa)) (apG ns m tb none none none) (A ++ [Cell.lst []] ++ [Cell.lst []])=.ok ((bV m).map fun k:Nat=>PV.int (1 + (k:Int)),[]) (A ++ [Cell.lst []] ++ [Cell.lst []]):=by
  rw [Q8d,Q5 (m:=Q3 1) (p:=.int 1) rfl (Q5 (Q9 (a:=Q3 1) (b:=Q3 2) (x:=.int 1) (y:=.int m) rfl rfl (Q42 _ _ _)) (show Qa _ _=.ok [] _ from rfl)),J5];show (if -(lim:Int)<=1/\1<=(lim:Int)/\-(lim:Int)<=1 + (m:Int)/\1 + (m:Int)<=lim then _ else _)=_;rw [bK (by rw [Jv]; omega),show (1 + (m:Int) - 1).toNat=m by omega]; rfl
 refine ⟨xs,z,q,I,?_⟩;have s1:Jg 4 (Qi 1 Xg (Q4 (Q3 3) Qa)) [some (.fro (ns.map .int)),some (.int 1),some (.int m),some (Q8 tb),none,none,none,none,none,none] []=.nx [some (.fro (ns.map .int)),some (.int 1),some (.int m),some (Q8 tb),some (.ref 3),none,none,none,none,none] A:=J9 (Qz (n:=1) (Q5 rfl rfl) rfl e0);have s2:Jg 5 (Q1h (yk Qa)) [some (.fro (ns.map .int)),some (.int 1),some (.int m),some (Q8 tb),some (.ref 3),none,none,none,none,none] A=.nx [some (.fro (ns.map .int)),some (.int 1),some (.int m),some (Q8 tb),some (.ref 3),some (.ref 4),none,none,none,none] (A ++ [.lst []]):=(J9 (Q09 (ps:=[]) (S1:=A) rfl)).trans (by rw [lA]; rfl);have s3:Jg 6 (Q1h (yk Qa)) [some (.fro (ns.map .int)),some (.int 1),some (.int m),some (Q8 tb),some (.ref 3),some (.ref 4),none,none,none,none] (A ++ [.lst []])=.nx (apG ns m tb none none none) (A ++ [.lst []] ++ [.lst []]):=(J9 (Q09 (ps:=[]) (S1:=A ++ [.lst []]) rfl)).trans (by rw [O9,lA]; rfl)
 exact Q07 (m:=zz) (nl:=10) (Qk s1 (Qk s2 (Qk s3 (Qk (Q11 J e) (Xt (jh (Q5 rfl (Q5 rfl (Q5 rfl rfl))) (by simp)))))))
theorem Qjc {n:Nat} {tb:List (List Int)} (z:Sz n tb) (O:n<=100) (st:Q2):Q4u [Q8 tb] st=.ok (.int (yt n tb)) st:=by
 have q:Ju (jb (Y5 (Qn 0) (Y5 (Qn 1) jc))) Jw Q5r [] (Jy [none,none] [some (Q8 tb),none,none]) (tb.zipIdx.map fun z=>.tup [.int (z.2:Nat),J1 z.1]) st=.ok (tb.zipIdx.map fun z=>.int (z.1.getD z.2 0)) st:=by
  refine Yr _ _ (by simp) fun y G=>⟨_,rfl,?_⟩
  have h2:=List.snd_lt_of_mem_zipIdx G;have h1:=z.2 _ (List.fst_mem_of_mem_zipIdx G);have e:=atI_get (getD_some (show y.2 < y.1.length by rw [h1]; rw [z.1] at h2; omega) 0);simp [Jy,Q5r,J1,Xp,e]
 have j:∀ a,Ju (Qn 0) Jw Q5q [] (Jy [none] [some (Q8 tb),a,none]) (tb.map J1) st=.ok (tb.map fun r=>.int (r.getD n 0)) st:=fun a=>by
  refine Yr _ _ (by simp) fun r I=>⟨_,rfl,?_⟩
  have B:=z.2 r I;have J:=getD_some (show n < r.length by omega) 0;have e:atI r (-1)=some (r.getD n 0):=by
   unfold atI ixN;rw [bL (by omega),bK (by omega),B,show ((-1:Int) + ((n + 1:Nat):Int)).toNat=n by omega];exact J
  simp [Jy,Q5q,J1,Xp,e]
 have s1:(tb.zipIdx.map fun z=>z.1.getD z.2 0).sum=Zc n fun o=>ent tb o o:=by
  rw [Qef tb [] fun z=>z.1.getD z.2 0,z.1]; rfl
 have s2:(tb.map fun r=>r.getD n 0).sum=Zc n fun o=>ent tb o n:=by
  rw [Q4h tb [] fun r=>r.getD n 0,z.1]; rfl
 have B:tb.length<=1000000:=by rw [z.1]; omega
 unfold yt;rw [<- s1,<- s2];unfold Q8 at q j ⊢;simp [Q4u,Qt,Qc0,q,j,B,Jv,Qb1]
inductive InS (n:Nat) (s:RS):Tab->Prop
 | now {i:Nat}:i < n->InS n s (s.now.getD i [])
 | last {i:Nat}:i < n->InS n s (s.last.getD i [])
 | le {L:Tab}:L∈s.le->InS n s L
def rle (n h:Nat) (A B:Tab):Prop:=∀ j,j<=n->ent A h j<=ent B h j
structure SI17 (n:Nat) (s:RS):Prop where
 ri:RI n s
 ca:∀ A,InS n s A->Ca n A
 ch:∀ A B,InS n s A->InS n s B->∀ h,h < n->rle n h A B\/rle n h B A
theorem RI.top {n:Nat} {s:RS} (r:RI n s) {A:Tab} (k:InS n s A) {h:Nat} (B:h < n):rle n h A (s.now.getD h []):=fun j z=>by
 cases k with
 | @now i hi=>
  by_cases q:i=h
  ·subst q; exact bf _
  ·exact bh (r.bn i h j hi B q z) (r.up h j B z)
 | last hi=>exact bh (r.bl _ h j hi B z) (r.up h j B z)
 | le G=>exact bh (r.be _ G h j B z) (r.up h j B z)
theorem Qgy {n:Nat} {f g:Nat->Int} (h:∀ o,o < n->f o<=g o):Zc n f<=Zc n g:=by
 induction n with
 | zero=>exact bf _
 | succ n j=>
  rw [Ja,Ja];have h1:=j fun o q=>h o (by omega)
  have h2:=h n (by omega);omega
theorem Qmn {n:Nat} {A J:Tab} (G:Wt' n A) (B:Wt' n J) (c:Ca n A) (le:∀ a b,a < n->b<=n->ent A a b<=ent J a b) {h:Nat} (q:h < n) (e:∀ j,j<=n->ent J h j=ent A h j):0<=Qs J h/\(Uk J h=true->Rc n J h):=by
 refine ⟨?_,fun b=>?_⟩
 ·have h1:=c.nn h q;rw [Uf G.sz q] at h1;rw [Uf B.sz q,e n (O8 n),e h (D9 q),Wa (g:=fun j=>ent A h j) fun j z=>e j (D9 z)]
  have h2:=Qgy (n:=n) (f:=fun o=>ent A o h) (g:=fun o=>ent J o h) fun o I=>le o h I (D9 q)
  omega
 ·obtain ⟨j,z,q1,q2⟩:=(je B q).mp b;rw [e j z] at q2;exact (c.bz h q ((je G q).mpr ⟨j,z,q1,q2⟩)).mono fun a b U O=>le a b U (D9 O)
theorem Q8n {n:Nat} {A B:Tab} (I:Sz n A) (z:Sz n B) {h:Nat} (G:h < n) (c:rle n h A B\/rle n h B A):(∀ j,j<=n->ent (Zw A B) h j=ent A h j)\/∀ j,j<=n->ent (Zw A B) h j=ent B h j:=by
 rcases c with c | c
 ·exact .inr fun j q=>by rw [Xd I z G q,Qf5 (c j q)]
 ·exact .inl fun j q=>by rw [Xd I z G q,Qhy (c j q)]
theorem Qgn {n:Nat} {A B:Tab} (G:Wt' n A) (q:Wt' n B) (cA:Ca n A) (Z:Ca n B) (ch:∀ h,h < n->rle n h A B\/rle n h B A):Ca n (Zw A B):=by
 have O:=Qc6 G q;have U:∀ a b,a < n->b<=n->ent A a b<=ent (Zw A B) a b:=fun a b J I=>by rw [Xd G.sz q.sz J I]; exact Qbz _ _
 have Y:∀ a b,a < n->b<=n->ent B a b<=ent (Zw A B) a b:=fun a b J I=>by rw [Xd G.sz q.sz J I]; exact Qki _ _
 have z:∀ h,h < n->0<=Qs (Zw A B) h/\(Uk (Zw A B) h=true->Rc n (Zw A B) h):=fun h j=>by
  rcases Q8n G.sz q.sz j (ch h j) with e | e
  ·exact Qmn G O cA U j e
  ·exact Qmn q O Z Y j e
 exact ⟨fun h j=>(z h j).1,fun h j=>(z h j).2⟩
theorem SI17.step {n:Nat} {s:RS} (I:SI17 n s) {x:Dx} (o:x.ok n s):SI17 n (Zv n s x):=by
 have r:=I.ri;have r':=r.step o;have a4:∀ T:Tab,Ca n T->(∀ A,InS n s A->∀ h,h < n->rle n h A T\/rle n h T A)->(∀ A,InS n (Zv n s x) A->InS n s A\/A=T)->SI17 n (Zv n s x):=fun T cT a3 sub=>by
  refine ⟨r',fun A G=>?_,fun A B G hB h J=>?_⟩
  ·rcases sub A G with q | q
   ·exact I.ca A q
   ·rw [q]; exact cT
  ·rcases sub A G with qa | qa <;> rcases sub B hB with qb | qb
   ·exact I.ch A B qa qb h J
   ·rw [qb]; exact a3 A qa h J
   ·rw [qa]; exact (a3 B qb h J).symm
   ·rw [qa,qb]; exact .inl fun j _=>bf _
 have old:(∀ A,InS n (Zv n s x) A->InS n s A)->SI17 n (Zv n s x):=fun sub=>⟨r',fun A G=>I.ca A (sub A G),fun A B G hB=>I.ch A B (sub A G) (sub B hB)⟩
 cases x with
 | own d=>
  have J:=Dd.ok_h o
  by_cases q:d.fits (s.now.getD d.h [])=true
  ·have z2:Zv n s (.own d)=⟨s.now.set d.h (d.put n (s.now.getD d.h [])),s.last,s.le⟩:=bK q;have w:=r.wn d.h J;have cN:=I.ca _ (.now J);have hf:d.isM=false->d.k<=Qs (s.now.getD d.h []) d.h:=fun hm=>by
    unfold Dd.fits at q;rw [hm,Bool.false_or,decide_eq_true_eq] at q;exact q
   have hl:d.h < s.now.length:=by rw [r.ln]; exact J
   refine a4 _ (Qmp w cN o hf).2 (fun A G h Y=>?_) (fun A G=>?_)
   ·by_cases qh:h=d.h
    ·subst qh;exact .inl fun j O=>bh (r.top G Y j O) (Q6r w o _ j).1
    ·have e:∀ j,ent (d.put n (s.now.getD d.h [])) h j=ent (s.now.getD d.h []) h j:=fun j=>(Q6r w o h j).2 qh
     rcases I.ch A _ G (.now J) h Y with z | z
     ·exact .inl fun j O=>by rw [e j]; exact z j O
     ·exact .inr fun j O=>by rw [e j]; exact z j O
   ·rw [z2] at G;cases G with
    | @now i hi=>
     show InS n s ((s.now.set d.h (d.put n (s.now.getD d.h []))).getD i [])\/(s.now.set d.h (d.put n (s.now.getD d.h []))).getD i []=_;rw [Jm hl]
     split
     ·exact .inr rfl
     ·exact .inl (.now hi)
    | last hi=>exact .inl (.last hi)
    | le Z=>exact .inl (.le Z)
  ·have z2:Zv n s (.own d)=s:=bL q;rw [z2]; exact I
 | kp U=>
  have J:U < n:=o;refine old fun A G=>?_
  cases G with
  | now hi=>exact .now hi
  | @last i hi=>
   show InS n s ((s.last.set U (s.now.getD U [])).getD i []);rw [Jm (by rw [r.ll]; exact J)]
   split
   ·exact .now J
   ·exact .last hi
  | le Z=>exact .le Z
 | fl U=>
  have J:U < n:=o;refine old fun A G=>?_
  cases G with
  | @now i hi=>
   show InS n s ((s.now.set U (s.last.getD U [])).getD i []);rw [Jm (by rw [r.ln]; exact J)]
   split
   ·exact .last J
   ·exact .now hi
  | last hi=>exact .last hi
  | le Z=>exact .le Z
 | sd U=>
  have J:U < n:=o;refine old fun A G=>?_
  cases G with
  | now hi=>exact .now hi
  | last hi=>exact .last hi
  | le Z=>
   rcases F1.mp Z with h | h
   ·exact .le h
   ·rw [dO.mp h]; exact .last J
 | cm l U=>
  obtain ⟨a5,J⟩:=o;have hm:s.le.getD l []∈s.le:=D5 (getD_some a5 []);have wN:=r.wn U J;have wL:=r.we _ hm;have a2:=I.ch _ _ (.now J) (.le hm);refine a4 (Zw (s.now.getD U []) (s.le.getD l [])) (Qgn wN wL (I.ca _ (.now J)) (I.ca _ (.le hm)) a2) (fun A G h Y=>?_) (fun A G=>?_)
  ·rcases Q8n wN.sz wL.sz Y (a2 h Y) with e | e
   ·rcases I.ch A _ G (.now J) h Y with z | z
    ·exact .inl fun j O=>by rw [e j O]; exact z j O
    ·exact .inr fun j O=>by rw [e j O]; exact z j O
   ·rcases I.ch A _ G (.le hm) h Y with z | z
    ·exact .inl fun j O=>by rw [e j O]; exact z j O
    ·exact .inr fun j O=>by rw [e j O]; exact z j O
  ·cases G with
   | @now i hi=>
    show InS n s ((s.now.set U (Zw (s.now.getD U []) (s.le.getD l []))).getD i [])\/(s.now.set U (Zw (s.now.getD U []) (s.le.getD l []))).getD i []=_;rw [Jm (by rw [r.ln]; exact J)]
    split
    ·exact .inr rfl
    ·exact .inl (.now hi)
   | last hi=>exact .inl (.last hi)
   | le Z=>exact .inl (.le Z)
theorem SI17.start {n:Nat} {tb:Tab} (w:Wt' n tb) (c:Ca n tb):SI17 n (s0 n tb):=by
 have e:∀ A,InS n (s0 n tb) A->A=tb:=fun A q=>by
  cases q with
  | now hi=>exact Q1r hi
  | last hi=>exact Q1r hi
  | le z=>exact absurd z cx
 exact ⟨RI.start w,fun A q=>by rw [e A q]; exact c,fun A B q G h I=>by rw [e A q,e B G]; exact .inl fun j _=>bf _⟩
theorem SI17.run {n:Nat}:∀ {xs:List Dx} {s:RS},SI17 n s->OkL n s xs->SI17 n (qc n s xs)
 | [],_,r,_=>r
 | x :: xs,s,r,o=>SI17.run (xs:=xs) (r.step o.1) o.2
def jnt (n:Nat) (s:RS):Nat->Tab
 | 0=>s.now.getD 0 []
 | m + 1=>Zw (jnt n s m) (s.now.getD m [])
def Q9r (n:Nat) (s:RS):Tab:=(bV n).map fun i=>(s.now.getD i []).getD i []
structure JI (n:Nat) (s:RS) (m:Nat):Prop where
 w:Wt' n (jnt n s m)
 c:Ca n (jnt n s m)
 ch:∀ A,InS n s A->∀ h,h < n->rle n h A (jnt n s m)\/rle n h (jnt n s m) A
 top:∀ h,h < n->rle n h (jnt n s m) (s.now.getD h [])
 up:∀ i,i < m->∀ h,h < n->rle n h (s.now.getD i []) (jnt n s m)
theorem SI17.jn {n:Nat} {s:RS} (I:SI17 n s) (h1:1<=n):∀ m,m<=n->JI n s m
 | 0,_=>⟨I.ri.wn 0 h1,I.ca _ (.now h1),fun A Z=>I.ch A _ Z (.now h1),fun h G=>I.ri.top (.now h1) G,fun i hi=>absurd hi (dM i)⟩
 | m + 1,hm=>by
  have J:=I.jn h1 m (by omega);have O:m < n:=hm;have Y:=I.ri.wn m O;have U:∀ h,h < n->rle n h (jnt n s m) (s.now.getD m [])\/rle n h (s.now.getD m []) (jnt n s m):=fun h G=>(J.ch _ (.now O) h G).symm
  refine ⟨Qc6 J.w Y,Qgn J.w Y J.c (I.ca _ (.now O)) U,fun A Z h G=>?_,fun h G j B=>?_,fun i hi h G j B=>?_⟩
  ·rcases Q8n J.w.sz Y.sz G (U h G) with e | e
   ·rcases J.ch A Z h G with z | z
    ·exact .inl fun j B=>by show _<=ent (Zw _ _) h j; rw [e j B]; exact z j B
    ·exact .inr fun j B=>by show ent (Zw _ _) h j<=_; rw [e j B]; exact z j B
   ·rcases I.ch A _ Z (.now O) h G with z | z
    ·exact .inl fun j B=>by show _<=ent (Zw _ _) h j; rw [e j B]; exact z j B
    ·exact .inr fun j B=>by show ent (Zw _ _) h j<=_; rw [e j B]; exact z j B
  ·show ent (Zw _ _) h j<=_;rw [Xd J.w.sz Y.sz G B];rcases Qby (ent (jnt n s m) h j) (ent (s.now.getD m []) h j) with e | e
   ·rw [e]; exact J.top h G j B
   ·rw [e]; exact I.ri.top (.now O) G j B
  ·show _<=ent (Zw _ _) h j;rw [Xd J.w.sz Y.sz G B]
   by_cases q:i=m
   ·subst q; exact Qki _ _
   ·exact bh (J.up i (by omega) h G j B) (Qbz _ _)
theorem Qst {n:Nat} {s:RS} (r:RI n s):Sz n (Q9r n s):=by
 refine ⟨by simp [Q9r],fun q j=>?_⟩;obtain ⟨i,hi,rfl⟩:=dN.mp j;exact ((r.wn i (E6.mp hi)).sz.row (E6.mp hi)).2
theorem Qbu {n:Nat} {s:RS} {i:Nat} (hi:i < n) (j:Nat):ent (Q9r n s) i j=ent (s.now.getD i []) i j:=by
 have:(Q9r n s).getD i []=(s.now.getD i []).getD i []:=by
  unfold Q9r;rw [F8,E4,F3 hi]; rfl
 unfold ent;rw [this]
theorem JI.own {n:Nat} {s:RS} (r:RI n s) (J:JI n s n):jnt n s n=Q9r n s:=
 Qna J.w.sz (Qst r) fun i j hi q=>by
  rw [Qbu hi];exact Int.le_antisymm (J.top i hi j q) (J.up i hi i hi j q)
theorem Qnt {a b:ME} {Γ:Gam} {S:Q2} {r:Res PV} (h1:a Γ S=.ok (.bl true) S) (h2:b Γ S=r):Q6h a b Γ S=r:=by
 rw [Qq7,h1,J5,h2]; rfl
def Q4w (s:RS) (i j:Nat):Int:=ent (s.now.getD i []) i j - ent (s.now.getD j []) i j
def Q79 (n:Nat) (s:RS) (m:Nat):Int:=Zc m fun i=>Qs (s.now.getD i []) i + Zc n (Q4w s i)
theorem Qh1 {n:Nat} {s:RS} (r:RI n s):Q79 n s n=yt n (Q9r n s):=by
 have e1:Q79 n s n=Zc n (fun i=>(Zc n (fun o=>ent (s.now.getD i []) o i) - Zc n (fun j=>ent (s.now.getD j []) i j)) + (ent (s.now.getD i []) i i - ent (s.now.getD i []) i n)):=by
  unfold Q79;refine Wa fun i hi=>?_
  rw [Uf (r.wn i hi).sz hi];have:Zc n (Q4w s i)=Zc n (fun j=>ent (s.now.getD i []) i j) - Zc n (fun j=>ent (s.now.getD j []) i j):=Q43 n _ _
  omega
 rw [e1,Q44,Q43,Q43,Qgx n n fun i o=>ent (s.now.getD i []) o i]
 unfold yt;rw [Wa (f:=fun o=>ent (Q9r n s) o o) (g:=fun i=>ent (s.now.getD i []) i i) fun i hi=>Qbu hi i,Wa (f:=fun o=>ent (Q9r n s) o n) (g:=fun i=>ent (s.now.getD i []) i n) fun i hi=>Qbu hi n]
 omega
theorem Qrn {n:Nat} {s:RS} (r:RI n s) {i j:Nat} (hi:i < n) (q:j < n):0<=Q4w s i j:=by
 have:=r.top (.now q) hi j (D9 q);unfold Q4w;omega
theorem Qgj {n:Nat} {tb:Tab} (w:Wt' n tb) (c:Ca n tb) {m:ME} {Γ:Gam} {S:Q2} (q:m Γ S=.ok (Q8 tb) S):toB (mOp oNe (mOp oIx (Qi 1 Yd (Q4 m Qa)) (mC (.int 0))) (mC (.str "comes"))) Γ S=.ok false S:=by
 have z:=w.n8;obtain ⟨x,v,e,j⟩:=Qb5 w.sz (by omega) S;rw [c.comes] at j;have j:x=bP "comes" := eq_of_beq j;subst j;refine J3 (Q9 (Q9 (Qz (n:=1) (Q5 q rfl) rfl e) rfl (show oIx S (.tup [.str (bP "comes"),v]) (.int 0)=.ok (.str (bP "comes")) S from rfl)) rfl ?_);show oNe S (.str (bP "comes")) (.str (bP "comes"))=_;simp
theorem Qt9 (S:Q2) (a:Tab):oNe S (Q8 a) (Q8 a)=.ok (.bl false) S:=by
 have g:Y4 dep (Q8 a)=true:=by simp [dep,Y4,Q8,J1]
 have hp:peq (Q8 a) (Q8 a)=true:=Q1t g;unfold Q8 at *;simp [oNe,der,g,hp]
theorem Qu5 {α:Type} {xs:List α} {n:Nat} (h:xs.length=n + 1):atI xs (-1)=xs[n]?:=by
 have e:ixN xs.length (-1)=some n:=by
  rw [h];unfold ixN;rw [bL (by omega),bK (by omega)];simp; omega
 unfold atI;rw [e]; rfl
theorem Qra (S:Q2) {a b:Nat} (h:a≠b):oNe S (.int a) (.int b)=.ok (.bl true) S:=by
 have:¬ ((a:Int)=(b:Int)):=by omega
 simp [this]
theorem Qrb (S:Q2) (a:Int):oNe S (.int a) (.int a)=.ok (.bl false) S:=by simp
abbrev soG (Q n:Nat) (jt:Tab) (c3 c4 c5 c6 c7 c8 c9:Option PV):Gam:=[some (.ref Q),some (.int n),some (Q8 jt),c3,c4,c5,c6,c7,c8,c9]
theorem Qfw {n:Nat} (j:n<=1000) {m:ME} {Γ:Gam} {S:Q2} (h:m Γ S=.ok (.int n) S):Yg (Q4 m Qa) Γ S=.ok (Zu 0 n,[]) S:=by
 rw [Xw,Q5 h (show Qa Γ S=.ok [] S from rfl),J5];show (if -(lim:Int)<=(n:Int)/\(n:Int)<=lim then _ else _)=_;rw [bK (by rw [Jv]; omega),cE]
theorem Qiv {n:Nat} {s:RS} (I:SI17 n s) (h1:1<=n) (h8:n<=8) {S:Q2} {Q:Nat} (hQ:S[Q]?=some (.lst (s.now.map Q8))):Xh [.ref Q] S=.ok (.bl true) S:=by
 have r:=I.ri;have J:=I.jn h1;have hV:ListAt S (.ref Q) (s.now.map Q8):=.inr (.inr ⟨Q,rfl,hQ⟩);have el:Yw S [.ref Q]=.ok (.int n) S:=by rw [hV.len,O2,r.ln]
 have ix:∀ i,i < n->oIx S (.ref Q) (.int i)=.ok (Q8 (s.now.getD i [])) S:=fun i hi=>Q1m hQ (by rw [r.ln]; exact hi)
 have a6:oIx S (.ref Q) (.int 0)=.ok (Q8 (s.now.getD 0 [])) S:=ix 0 h1;have em:s.now.map Q8=(bV n).map fun i=>Q8 (s.now.getD i []):=by rw [Q86 s.now [] Q8,r.ln]
 have src:X5 S (.ref Q)=some ((bV n).map fun i=>Q8 (s.now.getD i []),[(Q,.lst (s.now.map Q8))]):=by
  rw [<- em]; unfold X5; simp only [hQ]
 obtain ⟨Γ1,S1,f1,⟨Y,rfl⟩,rfl⟩:=jd (g:=fun i=>Q8 (s.now.getD i [])) (xs:=bV n) (ga:=Qn 3) (body:=Q1g) (w:=[(Q,.lst (s.now.map Q8))]) (Γ:=soG Q n (s.now.getD 0 []) none none none none none none none) (st:=S)
  (fun i Γ st=>(∃ Y,Γ=soG Q n (jnt n s i) Y none none none none none none)/\st=S) (fun _ _ st ⟨_,h⟩=>by rw [h]; exact fun x hx=>by rw [dO.mp hx]; exact hQ)
  (fun i x Γ st hx ⟨⟨Y,a2⟩,Z⟩=>by
   subst a2; subst Z;have a3:i < n:=by simpa using (O0.mp hx).1
   rw [F3 a3] at hx;cases hx;have wJ:=(J i (by omega)).w;have wN:=r.wn i a3;have ej:=Qaw (a:=jnt n s i) (b:=s.now.getD i []) (by rw [wJ.len,wN.len]) (by rw [wJ.len,Jv]; omega) (fun q hq=>by rw [wJ.row q hq,Jv]; omega) st;refine ⟨_,rfl,_,_,Qk (Γ1:=soG Q n (jnt n s (i + 1)) (some (Q8 (s.now.getD i []))) none none none none none none) (J9 (Qz (n:=2) (Q5 rfl (Q5 rfl rfl)) rfl ej)) (Wm (Qgj wN (I.ca _ (.now a3)) rfl) rfl),⟨_,rfl⟩,rfl⟩)
  ⟨⟨_,rfl⟩,rfl⟩
 rw [F6] at f1;have JN:=J n (O8 n);have eo:=JN.own r;obtain ⟨B,a4⟩:∃ B,jnt n s n=B:=⟨_,rfl⟩;rw [a4] at f1 eo;have wj:Wt' n B:=by rw [<- a4]; exact JN.w
 have cj:Ca n B:=by rw [<- a4]; exact JN.c
 have a7:Ju (Qn 0) Jw Q1d [] (Jy [none,some 0] (soG Q n B Y none none none none none none)) (Zu 0 n) S1=.ok ((bV n).map fun i=>J1 ((s.now.getD i []).getD i [])) S1:=by
  rw [V5];refine Yr _ _ (by simp) fun j U=>⟨_,rfl,?_⟩
  have U:=E6.mp U;exact Q9 (Q9 rfl rfl (ix j U)) rfl (Kq (r.wn j U).sz U (cc n) S1).1
 have et:Uj S1 [.lst ((bV n).map fun i=>J1 ((s.now.getD i []).getD i []))]=.ok (Q8 B) S1:=by
  rw [eo];show Res.ok _ S1=_;unfold Q8 Q9r;rw [br]; rfl
 obtain ⟨b1,O,f2,⟨c6,c7,c8,rfl⟩,rfl⟩:=jd (g:=fun k:Nat=>PV.int (k:Int)) (xs:=bV n) (ga:=Qn 6) (body:=Q1f) (w:=[]) (Γ:=soG Q n B Y (some (Q8 B)) (some (.int 0)) none none none none) (st:=S1)
  (fun i Γ st=>(∃ c6 c7 c8,Γ=soG Q n B Y (some (Q8 B)) (some (.int (Q79 n s i))) c6 c7 c8 none)/\st=S1) (fun _ _ _ _=>by simp)
  (fun i x Γ st hx ⟨⟨c6,c7,c8,a2⟩,Z⟩=>by
   subst a2; subst Z;have hi:i < n:=by simpa using (O0.mp hx).1
   rw [F3 hi] at hx;cases hx;have er:=Q16 (r.wn i hi).sz (by omega) hi st;have nn:=(I.ca _ (.now hi)).nn i hi;obtain ⟨b0,S3,f3,⟨d7,d8,rfl⟩,rfl⟩:=jd (g:=fun k:Nat=>PV.int (k:Int)) (xs:=bV n) (ga:=Qn 7) (body:=Q1e) (w:=[]) (Γ:=soG Q n B Y (some (Q8 B)) (some (.int (Q79 n s i + Qs (s.now.getD i []) i))) (some (.int i)) c7 c8 none) (st:=st)
    (fun j Γ st'=>(∃ d7 d8,Γ=soG Q n B Y (some (Q8 B)) (some (.int (Q79 n s i + Qs (s.now.getD i []) i + Zc j (Q4w s i)))) (some (.int i)) d7 d8 none)/\st'=st) (fun _ _ _ _=>by simp)
    (fun j x Γ st' hx ⟨⟨d7,d8,a2⟩,Z⟩=>by
     subst a2; subst Z;have U:j < n:=by simpa using (O0.mp hx).1
     rw [F3 U] at hx;cases hx;have c1:=Kq (r.wn i hi).sz hi (D9 U) st';have c2:=Kq (r.wn j U).sz hi (D9 U) st';have s8:Jg 8 (mOp (oI fun a b=>.int (a - b)) (mOp oIx (mOp oIx (mOp oIx (Q3 0) (Q3 6)) (Q3 6)) (Q3 7)) (mOp oIx (mOp oIx (mOp oIx (Q3 0) (Q3 7)) (Q3 6)) (Q3 7))) (soG Q n B Y (some (Q8 B)) (some (.int (Q79 n s i + Qs (s.now.getD i []) i + Zc j (Q4w s i)))) (some (.int i)) (some (.int j)) d8 none) st'=.nx (soG Q n B Y (some (Q8 B)) (some (.int (Q79 n s i + Qs (s.now.getD i []) i + Zc j (Q4w s i)))) (some (.int i)) (some (.int j)) (some (.int (Q4w s i j))) none) st':=
      J9 (Q9 (Q9 (Q9 (Q9 rfl rfl (ix i hi)) rfl c1.1) rfl c1.2) (Q9 (Q9 (Q9 rfl rfl (ix j U)) rfl c2.1) rfl c2.2) (Qh2 st' _ _))
     by_cases q:i=j
     ·subst q;have z:Q4w s i i=0:=by unfold Q4w; omega
      refine ⟨_,rfl,_,_,Qk s8 (Qk (Wm (Qgt (J3 (Q9 rfl rfl (Qrb st' _)))) rfl) (Wm (J3 (Q9 rfl rfl (Qrb st' _))) rfl)),⟨some (.int i),some (.int (Q4w s i i)),?_⟩,rfl⟩;rw [Ja,z,gg]
     ·have nn:=Qrn r hi U;refine ⟨_,rfl,_,_,Qk s8 (Qk (Wm (Qbd (J3 (Q9 rfl rfl (Qra st' q))) (J3 (Q9 rfl rfl (Q5x st' (by omega))))) rfl) (y3 (J3 (Q9 rfl rfl (Qra st' q))) (J9 (Q9 rfl rfl (Q42 st' _ _))))),⟨some (.int j),some (.int (Q4w s i j)),?_⟩,rfl⟩;rw [Ja,<- gh]; rfl)
    ⟨⟨_,_,by rw [show Zc 0 (Q4w s i)=0 from rfl,gg]⟩,rfl⟩
   rw [<- V5,F6] at f3;refine ⟨_,rfl,_,_,Qk (Γ1:=soG Q n B Y (some (Q8 B)) (some (.int (Q79 n s i + Qs (s.now.getD i []) i))) (some (.int i)) c7 c8 none) (J9 (Q9 rfl (Qz (n:=2) (Q5 (Q9 rfl rfl (ix i hi)) (Q5 rfl rfl)) rfl er) (Q42 S3 _ _))) (Qk (Wm (J3 (Q9 (Qz (n:=2) (Q5 (Q9 rfl rfl (ix i hi)) (Q5 rfl rfl)) rfl er) rfl (Q5x S3 (by omega)))) rfl) (Q11 (Qfw (by omega) rfl) f3)),⟨some (.int i),d7,d8,?_⟩,rfl⟩;unfold Q79;rw [Ja,<- gh])
  ⟨⟨_,_,_,rfl⟩,rfl⟩
 rw [<- V5,F6] at f2;have a9:Q79 n s n=yt n B:=by rw [eo]; exact Qh1 r
 rw [a9] at f2;obtain ⟨G,hG⟩:∃ G:Option PV->Gam,G=fun c9=>soG Q n B Y (some (Q8 B)) (some (.int (yt n B))) c6 c7 c8 c9:=⟨_,rfl⟩
 have a8:Ju (Qn 0) Jw Q1c [] (Jy [none,some 2] (soG Q n B Y (some (Q8 B)) (some (.int (yt n B))) c6 c7 c8 none)) (Zu 0 n) O=.ok ((bV n).map fun i=>.int (ent B i i)) O:=by
  rw [V5];refine Yr _ _ (by simp) fun j U=>⟨_,rfl,?_⟩
  have U:=E6.mp U;have c:=Kq wj.sz U (D9 U) O;exact Q9 (Q9 rfl rfl c.1) rfl c.2
 have s1:Vt (fun ns=>some (.int ns.sum)) O [.lst ((bV n).map fun j=>.int (ent B j j))]=.ok (.int (Zc n fun j=>ent B j j)) O:=by rw [Q5s]; rfl
 have a5:Ju (Qn 0) Jw Q1b [] (Jy [none] (soG Q n B Y (some (Q8 B)) (some (.int (yt n B))) c6 c7 c8 (some (.int (Zc n fun j=>ent B j j))))) (B.map J1) O=.ok (B.map fun q=>.int (q.getD n 0)) O:=by
  refine Yr _ _ (by simp) fun q hq=>⟨_,rfl,?_⟩
  have lq:=wj.row q hq;refine Q9 rfl rfl ?_;show okO O (atI (q.map PV.int) (-1))=_;rw [Qu5 (n:=n) (by rw [O2]; exact lq),E4,getD_some (show n < q.length by omega) 0]; rfl
 have s2:Vt (fun ns=>some (.int ns.sum)) O [.lst (B.map fun q=>.int (q.getD n 0))]=.ok (.int (Zc n fun j=>ent B j n)) O:=by
  rw [Q5s,Q4h B [] fun q=>q.getD n 0,wj.len]; rfl
 have es:=Qjc wj.sz (by omega) O;have Z:(yt n B)=(Zc n fun j=>ent B j j) - (Zc n fun j=>ent B j n):=rfl;have step:yy [some (.ref Q),none,none,none,none,none,none,none,none,none] O=.rt (.bl true) O:=by
  refine Qk (Γ1:=[some (.ref Q),some (.int n),none,none,none,none,none,none,none,none]) (J9 (Um (Q5 rfl rfl) el)) ?_;refine Qk (Γ1:=soG Q n (s.now.getD 0 []) none none none none none none none) (J9 (Q9 rfl rfl a6)) ?_;refine Qk (Q11 (Qcs (p:=.ref Q) rfl src (by rw [O2,F6]; omega)) f1) ?_;refine Qk (Γ1:=soG Q n B Y (some (Q8 B)) none none none none none) (J9 (Um (Q5 (Q1k (Kn (Qfw (by omega) rfl) a7)) rfl) et)) ?_;refine Qk (Wm (Qew (Qgj wj cj rfl) (J3 (Q9 rfl rfl (Qt9 O B)))) rfl) ?_;refine Qk (Γ1:=soG Q n B Y (some (Q8 B)) (some (.int 0)) none none none none) (J9 rfl) ?_;refine Qk (Q11 (Qfw (by omega) rfl) f2) ?_;refine Qk (Γ1:=soG Q n B Y (some (Q8 B)) (some (.int (yt n B))) c6 c7 c8 (some (.int (Zc n fun j=>ent B j j)))) (J9 (Um (Q5 (Q1k (Kn (Qfw (by omega) rfl) a8)) rfl) s1)) ?_;exact Xt (Qnt (Q9 rfl (Qz (n:=1) (Q5 rfl rfl) rfl es) (Q2a O rfl)) (Q9 rfl (Q9 rfl (Um (Q5 (Q1k (Kn (Qcs (p:=Q8 B) rfl rfl (by rw [O2,wj.len]; omega)) a5)) rfl) s2) (Qh2 O _ _)) (Q2a O Z)))
 exact (W3 step).trans (Qm4 O true)
theorem Qkc {n:Nat} {s:RS} {xs:List Dx} (h:OkL n s xs) (m:Nat):OkL n s (xs.take m):=by
 rw [<- List.take_append_drop m xs] at h;exact ((Q6s n _ _ _).mp h).1
theorem Qv6 {ma:ME} {Γ:Gam} {S:Q2} {V:PV} {xs:List PV} {m:ME} {k:Nat} (h1:ma Γ S=.ok V S) (h2:ListAt S V xs) (j:m Γ S=.ok (.int k) S):mSl ma V6 (Kc m) Γ S=.ok (.lst (xs.take k)) S:=by
 rw [Qtb,h1,J5,show V6 Γ S=.ok none S from rfl,J5,show Kc m Γ S=.ok (some (k:Int)) S by unfold Kc; rw [j]; rfl,J5,Lw.ListAt.sl h2,Q06]
theorem Qqc (C:aA):∀ ns:List Int,ns.length<=63->∃ st',Qrk C [.fro (ns.map .int)] []=.ok (.bl true) st':=by
 intro ns b1;obtain ⟨n,tb,hn,I0,e1⟩:=Qiy ns;have w:=I0.w;have c:=I0.c;obtain ⟨m,hm,U⟩:∃ m:Nat,m<=13/\(if (if (ns.length:Int) - 1 < 10 then (ns.length:Int) - 1 else 10) > 4 then (if (ns.length:Int) - 1 < 10 then (ns.length:Int) - 1 else 10) else 4)=(m:Int):=by
  refine ⟨(if (if (ns.length:Int) - 1 < 10 then (ns.length:Int) - 1 else 10) > 4 then (if (ns.length:Int) - 1 < 10 then (ns.length:Int) - 1 else 10) else 4).toNat,?_,?_⟩ <;> split <;> split <;> omega
 obtain ⟨xs,S1,b0,A,e2⟩:=Qfp I0 ns m hm;have l6:=A.len;obtain ⟨G,Y⟩:∃ G:Option PV->Gam,G=fun q=>[some (PV.fro (ns.map .int)),some (Q8 tb),some (.ref 4),some (.ref 5),some (.ref 3),q]:=⟨_,rfl⟩
 have v1:∀ S q,Q3 1 (G q) S=.ok (Q8 tb) S:=fun S q=>by rw [Y]; rfl
 have v2:∀ S q,Q3 2 (G q) S=.ok (.ref 4) S:=fun S q=>by rw [Y]; rfl
 have J:∀ S v,Q3 5 (G (some v)) S=.ok v S:=fun S q=>by rw [Y]; rfl
 have j:∀ {S:Q2} q,S[4]?=some (.lst (xs.map Dx.V))->J6 Yw (Q4 (Q3 2) Qa) (G q) S=.ok (.int xs.length) S:=fun {S} q hS=>by
  have hV:ListAt S (.ref 4) (xs.map Dx.V):=.inr (.inr ⟨4,rfl,hS⟩);exact Um (Q5 (v2 S q) rfl) (by rw [hV.len,O2])
 obtain ⟨a9,S',f,⟨q,rfl⟩,_⟩:=jd (g:=fun k:Nat=>PV.int (k:Int)) (xs:=bV (xs.length + 1)) (ga:=Qn 5) (body:=Qgr C) (w:=[]) (Γ:=G none) (st:=S1)
  (fun _ Γ st=>(∃ q,Γ=G q)/\st[4]?=some (.lst (xs.map Dx.V))) (fun _ _ _ _=>by simp)
  (fun k x Γ st hx ⟨⟨q,a4⟩,hst⟩=>by
   subst a4;have hk:k < xs.length + 1:=by simpa using (O0.mp hx).1
   rw [F3 hk] at hx;cases hx;have hV:ListAt st (.ref 4) (xs.map Dx.V):=.inr (.inr ⟨4,rfl,hst⟩);have a5:4 < st.length:=(O0.mp hst).1;have ok:=Qkc A.ok k;refine ⟨G (some (.int k)),by rw [Y]; rfl,?_⟩;have U:Q38 st (.int k) (.int 2)=.ok (.int ((k:Int) % 2)) st:=Qpw st (by decide);obtain ⟨z,e3,a8,O,b2,a7⟩:=Qhg (C:=C) (S:=st) (DV:=.lst ((xs.take k).map Dx.V)) (xs:=xs.take k) (wt:=[]) w c (fun st _=>⟨rfl,Q2j st⟩) (by rw [cJ]; have:=fk k xs.length; omega) ok;have sd:=Qiv ((SI17.start w c).run ok) hn.1 hn.2 a7;have a6:mSl (Q3 2) V6 (Kc (Q3 5)) (G (some (.int k))) st=.ok (.lst ((xs.take k).map Dx.V)) st:=by
    rw [Qv6 (v2 _ _) hV (J _ _),gP]
   have B:(Ys (K6 (toB (Qi 1 Xh (Q4 (mOp oIx (Qi 2 (Q2g C) (Q4 (Q3 1) (Q4 (mSl (Q3 2) V6 (Kc (Q3 5))) Qa))) (mC (.int 1))) Qa)))) (Jx (mC (.bl false))) Y7) (G (some (.int k))) st=.nx (G (some (.int k))) z:=
    Wm (Qf1 (J3 (Qz (n:=1) (Q5 (Q9 (Qz (n:=2) (Q5 (v1 _ _) (Q5 a6 rfl)) rfl e3) rfl (show oIx z (.tup [.ref (st.length + n + 1),.ref (st.length + n + 2)]) (.int 1)=.ok (.ref (st.length + n + 2)) z from rfl)) rfl) rfl sd))) rfl
   have I:z[4]?=some (.lst (xs.map Dx.V)):=by rw [O 4 a5]; exact hst
   by_cases q1:(k:Int) % 2=0
   ·exact ⟨_,z,y3 (Qsx (J3 (Q9 (Q9 (J _ _) rfl U) rfl (Q2a st q1)))) B,⟨_,rfl⟩,I⟩
   ·by_cases q2:k=xs.length
    ·exact ⟨_,z,y3 (Qew (J3 (Q9 (Q9 (J _ _) rfl U) rfl (Q3g st q1))) (J3 (Q9 (J _ _) (j _ hst) (Q2a st (by omega))))) B,⟨_,rfl⟩,I⟩
    ·exact ⟨_,st,Wm (Qew (J3 (Q9 (Q9 (J _ _) rfl U) rfl (Q3g st q1))) (J3 (Q9 (J _ _) (j _ hst) (Q3g st (by omega))))) rfl,⟨_,rfl⟩,hst⟩)
  ⟨⟨_,rfl⟩,A.de⟩
 have Z:Qip [] [.int 10,.int ((ns.length:Int) - 1)]=.ok (.int (if (ns.length:Int) - 1 < 10 then (ns.length:Int) - 1 else 10)) []:=Qmq _ _ _;have a2:Q93 [] [.int 4,.int (if (ns.length:Int) - 1 < 10 then (ns.length:Int) - 1 else 10)]=.ok (.int m) []:=by rw [Qe8,U]
 have ln:Yw [] [.fro (ns.map .int)]=.ok (.int ns.length) []:=by simp
 have k1:Jg 1 (Qi 1 Xj (Q4 (Q3 0) Qa)) [some (.fro (ns.map .int)),none,none,none,none,none] []=.nx [some (.fro (ns.map .int)),some (Q8 tb),none,none,none,none] []:=J9 (Qz (n:=1) (Q5 rfl rfl) rfl e1);have k2:Qks (jb (Y5 (Qn 2) (Y5 (Qn 3) (Y5 (Qn 4) jc)))) (Qi 4 Up (Q4 (Q3 0) (Q4 (mC (.int 1)) (Q4 (J6 Q93 (Q4 (mC (.int 4)) (Q4 (J6 Qip (Q4 (mC (.int 10)) (Q4 (mOp (oI fun a b=>.int (a - b)) (J6 Yw (Q4 (Q3 0) Qa)) (mC (.int 1))) Qa))) Qa))) (Q4 (Q3 1) Qa))))) [some (.fro (ns.map .int)),some (Q8 tb),none,none,none,none] []=.nx (G none) S1:=by
  rw [Y];exact Qu6 (Qz (n:=4) (Q5 rfl (Q5 rfl (Q5 (Um (Q5 rfl (Q5 (Um (Q5 rfl (Q5 (Q9 (Um (Q5 rfl rfl) ln) rfl (Qh2 [] _ _)) rfl)) Z) rfl)) a2) (Q5 rfl rfl)))) rfl e2) rfl
 rw [<- V5] at f;have a3:Q0x (Q4 (mC (.int 0)) (Q4 (mOp Wi (J6 Yw (Q4 (Q3 2) Qa)) (mC (.int 1))) Qa)) (G none) S1=.ok (Zu 0 (xs.length + 1),[]) S1:=by
  rw [Q8d,Q5 (m:=mC (.int 0)) (p:=.int 0) rfl (Q5 (Q9 (j none A.de) rfl (Q42 S1 _ _)) (show Qa _ _=.ok [] _ from rfl)),J5];show (if -(lim:Int)<=0/\0<=(lim:Int)/\-(lim:Int)<=(xs.length:Int) + 1/\(xs.length:Int) + 1<=lim then _ else _)=_;rw [bK (by rw [Jv]; omega),show ((xs.length:Int) + 1 - 0).toNat=xs.length + 1 by omega]
 have step:Qkk C [some (.fro (ns.map .int)),none,none,none,none,none] []=.rt (.bl true) S':=Qk k1 (Qk k2 (Qk (Q11 a3 f) rfl));exact ⟨[],(W3 step).trans (Q5p (st:=[]) (more:=S') rfl)⟩
end Lw
namespace Lw
open PySem PySem.Spec L2 Sm
theorem all_mk {l:ec} {w:aK} {K:bQ} {h:Heap} {mg:Str->Option aB} {fa f1 f2 f3 f4 f5 f6 f7 f8 f9 C2 B3 y7 C6 B8 C7 x3 z1 C5 C3 w7 C4 w1 A0 x1 z4 w9 p8 o6 p3 o5 o8 o7 p6 p0 p4 p1 p5 B2 y5 x7 x4 B1 w6 C8 y2 x2 w2 z3 B6 B7 x6 z7 B5 z6 x5 y1 B4 B9 z5:aA} (X:K.In h) (G:h.Ns aQ mg) (hfa:mg "law" = some (.ref fa))
  {od1 an1 od2 an2 od3 an3 od4 an4 od5 an5 od6 an6 od7 an7 od8 an8 od9 an9 od10 an10 od11 an11 od12 an12 R5 an13 od14 E1 od15 an15 od16 N5 od17 an17 od18 an18 T2 an19 od20 an20 od21 an21 M6 G0 od23 an23 od24 an24 od25 an25 od26 an26 od27 T1 od28 an28 od29 an29 od30 an30 S6 an31 od32 an32 od33 an33 od34 an34 od35 an35 od36 an36 od37 N6 M8 an38 od39 an39 od40 an40 od41 an41 od42 an42 od43 an43 od44 an44 od45 M0 od46 an46 T0 an47 od48 I8 od49 an49 I9 an50 od51 P9 od52 L0 od53 an53 L2 an54 od55 an55 od56 H5 od57 R1 I3 an58 od59 q4:Option aA}
  {sl1 sl2 sl3 sl4 sl5 sl6 sl7 sl8 sl9 sl10 S5 sl12 sl13 sl14 sl15 sl16 sl17 sl18 sl19 L7 sl21 I6 sl23 N9 sl25 sl26 sl27 sl28 sl29 sl30 sl31 sl32 sl33 sl34 sl35 sl36 sl37 sl38 I0 P3 G3 sl42 sl43 sl44 sl45 sl46 sl47 sl48 sl49 sl50 sl51 T6 sl53 S7 sl55 M7 N4 sl58 H3:Array (Option aB)}
  {oc1 kV1 dc1 pm1 cd1 ct1 oc2 kV2 dc2 pm2 cd2 ct2 oc3 kV3 dc3 pm3 cd3 ct3 oc4 kV4 dc4 pm4 cd4 ct4 oc5 kV5 dc5 pm5 cd5 ct5 oc6 kV6 dc6 pm6 cd6 ct6 oc7 kV7 dc7 pm7 M5 ct7 oc8 kV8 dc8 pm8 cd8 ct8 oc9 kV9 dc9 pm9 cd9 ct9 oc10 kV10 dc10 pm10 v7 ct10 oc11 kV11 P5 T4 v9 ct11 oc12 M9 dc12 pm12 q5 ct12 oc13 G9 dc13 pm13 v8 ct13 oc14 kV14 dc14 pm14 r5 ct14 oc15 kV15 T7 pm15 v4 R8 oc16 kV16 dc16 H4 t9 ct16 oc17 kV17 M3 pm17 r8 ct17 oc18 kV18 dc18 pm18 r7 P4 oc19 kV19 dc19 pm19 t5 ct19 oc20 R7 dc20 pm20 q6 ct20 P0 kV21 dc21 pm21 u4 ct21 oc22 kV22 dc22 pm22 v0 ct22 oc23 kV23 dc23 H9 r2 ct23 oc24 kV24 dc24 G1 u6 ct24 oc25 T3 dc25 pm25 u3 ct25 oc26 kV26 dc26 pm26 t7 ct26 oc27 kV27 dc27 pm27 v3 ct27 R6 kV28 dc28 pm28 q9 R0 V2 S2 L8 pm29 u0 ct29 oc30 kV30 dc30 pm30 s6 ct30 oc31 kV31 dc31 pm31 t8 ct31 oc32 kV32 dc32 P7 s5 ct32 S1 P1 dc33 pm33 r3 ct33 L9 I5 N0 pm34 u9 I1 oc35 kV35 S9 pm35 w0 ct35 L1 L5 dc36 pm36 t6 ct36 N3 kV37 dc37 pm37 q0 ct37 oc38 I2 dc38 pm38 u5 ct38 G8 kV39 G4 pm39 t2 ct39 oc40 kV40 dc40 P6 u1 ct40 T9 kV41 N7 pm41 r4 T5 oc42 kV42 dc42 pm42 p9 ct42 oc43 kV43 H7 pm43 r0 ct43 oc44 kV44 dc44 pm44 r1 ct44 oc45 L6 dc45 pm45 s8 ct45 oc46 kV46 dc46 pm46 r6 ct46 oc47 kV47 dc47 pm47 v1 ct47 oc48 kV48 dc48 pm48 q7 ct48 oc49 kV49 dc49 pm49 v6 ct49 oc50 kV50 dc50 pm50 r9 ct50 oc51 kV51 dc51 I4 u7 P2 H8 kV52 dc52 R9 v5 ct52 oc53 kV53 dc53 pm53 t4 ct53 oc54 N1 dc54 S0 u2 ct54 oc55 kV55 dc55 pm55 s9 ct55 oc56 kV56 dc56 pm56 u8 S3 oc57 kV57 H6 pm57 v2 ct57 oc58 kV58 L3 T8 s4 R3 S4 s7 t1 t0 n7 q8:aB}
  {i2 g5 d5 g1:aA}
  {eH:aA}
  {e0:Tok}
  {eW eS fI pd xN:aA} {xnm xqn:Str} {xbs xsub:List aB} {xsn:List Str} {xab:Bool} {xcol:Option Bool} {xdd odI anI:Option aA} {xk0 xk1 xk2 xk3 xk5:Option aB} {slI:Array (Option aB)} {kVI dcI pmI R4 ctI:aB} {pt1 pt2 pt3 pu1 pu2 pu3:Tok} {pep:Nat} {cdx:ClassData} {x0:aA} {qt1 qt2 qt3 qt4 qu1 qu2 qu3 qu4:Tok} {pepO:Nat}
  (aH:bS K aQ "House" = some (some (.ref eH))) (Hpg:dA K eH fW=true) (Hhd:dW K eH=true) (Hpo:eI K eH=true) (Hsa:bY K (.ref eH) "__setattr__" = some (some (.builtin "object.__setattr__"))) (Hmk:eK K eH=true) (Hkc:bT K (.ref eH)=true)
  (m6:bY K (.ref eH) "number" = some none)
  (p7:bY K (.ref eH) "now" = some none)
  (o3:bY K (.ref eH) "kept" = some none)
  (a1:bS K aQ "is_whole" = some (some (.ref f1))) (l1:K.lookup f1=some ⟨oc1,od1,.func (bU "is_whole" "is_whole" (Qr qg) (Qp qg) (Q7 qg) .none kV1 dc1 pm1 an1 cd1 ct1),sl1⟩) (c1:bW K cd1 "is_whole" = true) (k1:bT K (.ref f1)=true)
  (a2:bS K aQ "is_between" = some (some (.ref f2))) (l2:K.lookup f2=some ⟨oc2,od2,.func (bU "is_between" "is_between" (Qr Ur) (Qp Ur) (Q7 Ur) .none kV2 dc2 pm2 an2 cd2 ct2),sl2⟩) (c2:bW K cd2 "is_between" = true) (k2:bT K (.ref f2)=true)
  (a3:bS K aQ "is_row" = some (some (.ref f3))) (l3:K.lookup f3=some ⟨oc3,od3,.func (bU "is_row" "is_row" (Qr xt) (Qp xt) (Q7 xt) .none kV3 dc3 pm3 an3 cd3 ct3),sl3⟩) (c3:bW K cd3 "is_row" = true) (k3:bT K (.ref f3)=true)
  (a4:bS K aQ "is_table" = some (some (.ref f4))) (l4:K.lookup f4=some ⟨oc4,od4,.func (bU "is_table" "is_table" (Qr qi) (Qp qi) (Q7 qi) .none kV4 dc4 pm4 an4 cd4 ct4),sl4⟩) (c4:bW K cd4 "is_table" = true) (k4:bT K (.ref f4)=true)
  (a5:bS K aQ "is_house" = some (some (.ref f5))) (l5:K.lookup f5=some ⟨oc5,od5,.func (bU "is_house" "is_house" (Qr qj) (Qp qj) (Q7 qj) .none kV5 dc5 pm5 an5 cd5 ct5),sl5⟩) (c5:bW K cd5 "is_house" = true) (k5:bT K (.ref f5)=true)
  (a6:bS K aQ "rights" = some (some (.ref f6))) (l6:K.lookup f6=some ⟨oc6,od6,.func (bU "rights" "rights" (Qr xm) (Qp xm) (Q7 xm) .none kV6 dc6 pm6 an6 cd6 ct6),sl6⟩) (c6:bW K cd6 "rights" = true) (k6:bT K (.ref f6)=true)
  (a7:bS K aQ "stock" = some (some (.ref f7))) (l7:K.lookup f7=some ⟨oc7,od7,.func (bU "stock" "stock" (Qr Q2p) (Qp Q2p) (Q7 Q2p) .none kV7 dc7 pm7 an7 M5 ct7),sl7⟩) (c7:bW K M5 "stock" = true) (k7:bT K (.ref f7)=true)
  (a8:bS K aQ "need_as_many_houses" = some (some (.ref f8))) (l8:K.lookup f8=some ⟨oc8,od8,.func (bU "need_as_many_houses" "need_as_many_houses" (Qr Ya) (Qp Ya) (Q7 Ya) .none kV8 dc8 pm8 an8 cd8 ct8),sl8⟩) (c8:bW K cd8 "need_as_many_houses" = true) (k8:bT K (.ref f8)=true)
  (a9:bS K aQ "is_row_within" = some (some (.ref f9))) (l9:K.lookup f9=some ⟨oc9,od9,.func (bU "is_row_within" "is_row_within" (Qr Wq) (Qp Wq) (Q7 Wq) .none kV9 dc9 pm9 an9 cd9 ct9),sl9⟩) (c9:bW K cd9 "is_row_within" = true) (k9:bT K (.ref f9)=true)
  (a10:bS K aQ "joined_row" = some (some (.ref C2))) (l10:K.lookup C2=some ⟨oc10,od10,.func (bU "joined_row" "joined_row" (Qr Uq) (Qp Uq) (Q7 Uq) .none kV10 dc10 pm10 an10 v7 ct10),sl10⟩) (c10:bW K v7 "joined_row" = true) (k10:bT K (.ref C2)=true)
  (a11:bS K aQ "joined" = some (some (.ref B3))) (l11:K.lookup B3=some ⟨oc11,od11,.func (bU "joined" "joined" (Qr xr) (Qp xr) (Q7 xr) .none kV11 P5 T4 an11 v9 ct11),S5⟩) (c11:bW K v9 "joined" = true) (k11:bT K (.ref B3)=true)
  (a12:bS K aQ "is_text_and_numbers" = some (some (.ref y7))) (l12:K.lookup y7=some ⟨oc12,od12,.func (bU "is_text_and_numbers" "is_text_and_numbers" (Qr Yb) (Qp Yb) (Q7 Yb) .none M9 dc12 pm12 an12 q5 ct12),sl12⟩) (c12:bW K q5 "is_text_and_numbers" = true) (k12:bT K (.ref y7)=true)
  (a13:bS K aQ "is_deed" = some (some (.ref C6))) (l13:K.lookup C6=some ⟨oc13,R5,.func (bU "is_deed" "is_deed" (Qr zn) (Qp zn) (Q7 zn) .none G9 dc13 pm13 an13 v8 ct13),sl13⟩) (c13:bW K v8 "is_deed" = true) (k13:bT K (.ref C6)=true)
  (a14:bS K aQ "need_houses_of_deed" = some (some (.ref B8))) (l14:K.lookup B8=some ⟨oc14,od14,.func (bU "need_houses_of_deed" "need_houses_of_deed" (Qr Y9) (Qp Y9) (Q7 Y9) .none kV14 dc14 pm14 E1 r5 ct14),sl14⟩) (c14:bW K r5 "need_houses_of_deed" = true) (k14:bT K (.ref B8)=true)
  (a15:bS K aQ "place_in_row" = some (some (.ref C7))) (l15:K.lookup C7=some ⟨oc15,od15,.func (bU "place_in_row" "place_in_row" (Qr V7) (Qp V7) (Q7 V7) .none kV15 T7 pm15 an15 v4 R8),sl15⟩) (c15:bW K v4 "place_in_row" = true) (k15:bT K (.ref C7)=true)
  (a16:bS K aQ "raised" = some (some (.ref x3))) (l16:K.lookup x3=some ⟨oc16,od16,.func (bU "raised" "raised" (Qr xn) (Qp xn) (Q7 xn) .none kV16 dc16 H4 N5 t9 ct16),sl16⟩) (c16:bW K t9 "raised" = true) (k16:bT K (.ref x3)=true)
  (a17:bS K aQ "done" = some (some (.ref z1))) (l17:K.lookup z1=some ⟨oc17,od17,.func (bU "done" "done" (Qr Q52) (Qp Q52) (Q7 Q52) .none kV17 M3 pm17 an17 r8 ct17),sl17⟩) (c17:bW K r8 "done" = true) (k17:bT K (.ref z1)=true)
  (a18:bS K aQ "made_some" = some (some (.ref C5))) (l18:K.lookup C5=some ⟨oc18,od18,.func (bU "made_some" "made_some" (Qr Xz) (Qp Xz) (Q7 Xz) .none kV18 dc18 pm18 an18 r7 P4),sl18⟩) (c18:bW K r7 "made_some" = true) (k18:bT K (.ref C5)=true)
  (a19:bS K aQ "lent_or_used_some" = some (some (.ref C3))) (l19:K.lookup C3=some ⟨oc19,T2,.func (bU "lent_or_used_some" "lent_or_used_some" (Qr Yv) (Qp Yv) (Q7 Yv) .none kV19 dc19 pm19 an19 t5 ct19),sl19⟩) (c19:bW K t5 "lent_or_used_some" = true) (k19:bT K (.ref C3)=true)
  (a20:bS K aQ "was_lent_some" = some (some (.ref w7))) (l20:K.lookup w7=some ⟨oc20,od20,.func (bU "was_lent_some" "was_lent_some" (Qr Wn) (Qp Wn) (Q7 Wn) .none R7 dc20 pm20 an20 q6 ct20),L7⟩) (c20:bW K q6 "was_lent_some" = true) (k20:bT K (.ref w7)=true)
  (a21:bS K aQ "has_root" = some (some (.ref C4))) (l21:K.lookup C4=some ⟨P0,od21,.func (bU "has_root" "has_root" (Qr qk) (Qp qk) (Q7 qk) .none kV21 dc21 pm21 an21 u4 ct21),sl21⟩) (c21:bW K u4 "has_root" = true) (k21:bT K (.ref C4)=true)
  (a22:bS K aQ "rooted_houses" = some (some (.ref w1))) (l22:K.lookup w1=some ⟨oc22,M6,.func (bU "rooted_houses" "rooted_houses" (Qr Wp) (Qp Wp) (Q7 Wp) .none kV22 dc22 pm22 G0 v0 ct22),I6⟩) (c22:bW K v0 "rooted_houses" = true) (k22:bT K (.ref w1)=true)
  (a23:bS K aQ "rootless_houses" = some (some (.ref A0))) (l23:K.lookup A0=some ⟨oc23,od23,.func (bU "rootless_houses" "rootless_houses" (Qr W5) (Qp W5) (Q7 W5) .none kV23 dc23 H9 an23 r2 ct23),sl23⟩) (c23:bW K r2 "rootless_houses" = true) (k23:bT K (.ref A0)=true)
  (a24:bS K aQ "comes_about" = some (some (.ref x1))) (l24:K.lookup x1=some ⟨oc24,od24,.func (bU "comes_about" "comes_about" (Qr Vx) (Qp Vx) (Q7 Vx) .none kV24 dc24 G1 an24 u6 ct24),N9⟩) (c24:bW K u6 "comes_about" = true) (k24:bT K (.ref x1)=true)
  (a25:bS K aQ "does_come_about" = some (some (.ref z4))) (l25:K.lookup z4=some ⟨oc25,od25,.func (bU "does_come_about" "does_come_about" (Qr W6) (Qp W6) (Q7 W6) .none T3 dc25 pm25 an25 u3 ct25),sl25⟩) (c25:bW K u3 "does_come_about" = true) (k25:bT K (.ref z4)=true)
  (a26:bS K aQ "need_comes_about" = some (some (.ref w9))) (l26:K.lookup w9=some ⟨oc26,od26,.func (bU "need_comes_about" "need_comes_about" (Qr W0) (Qp W0) (Q7 W0) .none kV26 dc26 pm26 an26 t7 ct26),sl26⟩) (c26:bW K t7 "need_comes_about" = true) (k26:bT K (.ref w9)=true)
  (a27:bY K (.ref eH) "__init__" = some (some (.ref p8))) (i27:bi K (.ref p8)=true) (l27:K.lookup p8=some ⟨oc27,od27,.func (bU "__init__" "House.__init__" (Qr We) (Qp We) (Q7 We) .none kV27 dc27 pm27 T1 v3 ct27),sl27⟩) (c27:bW K v3 "House.__init__" = true) (k27:bT K (.ref p8)=true)
  (a28:bY K (.ref eH) "make" = some (some (.ref o6))) (i28:bi K (.ref o6)=true) (l28:K.lookup o6=some ⟨R6,od28,.func (bU "make" "House.make" (Qr Uy) (Qp Uy) (Q7 Uy) .none kV28 dc28 pm28 an28 q9 R0),sl28⟩) (c28:bW K q9 "House.make" = true) (k28:bT K (.ref o6)=true)
  (a29:bY K (.ref eH) "lend" = some (some (.ref p3))) (i29:bi K (.ref p3)=true) (l29:K.lookup p3=some ⟨V2,od29,.func (bU "lend" "House.lend" (Qr Uz) (Qp Uz) (Q7 Uz) .none S2 L8 pm29 an29 u0 ct29),sl29⟩) (c29:bW K u0 "House.lend" = true) (k29:bT K (.ref p3)=true)
  (a30:bY K (.ref eH) "use" = some (some (.ref o5))) (i30:bi K (.ref o5)=true) (l30:K.lookup o5=some ⟨oc30,od30,.func (bU "use" "House.use" (Qr K1) (Qp K1) (Q7 K1) .none kV30 dc30 pm30 an30 s6 ct30),sl30⟩) (c30:bW K s6 "House.use" = true) (k30:bT K (.ref o5)=true)
  (a31:bY K (.ref eH) "keep" = some (some (.ref o8))) (i31:bi K (.ref o8)=true) (l31:K.lookup o8=some ⟨oc31,S6,.func (bU "keep" "House.keep" (Qr X0) (Qp X0) (Q7 X0) .none kV31 dc31 pm31 an31 t8 ct31),sl31⟩) (c31:bW K t8 "House.keep" = true) (k31:bT K (.ref o8)=true)
  (a32:bY K (.ref eH) "fall" = some (some (.ref o7))) (i32:bi K (.ref o7)=true) (l32:K.lookup o7=some ⟨oc32,od32,.func (bU "fall" "House.fall" (Qr X1) (Qp X1) (Q7 X1) .none kV32 dc32 P7 an32 s5 ct32),sl32⟩) (c32:bW K s5 "House.fall" = true) (k32:bT K (.ref o7)=true)
  (a33:bY K (.ref eH) "letter" = some (some (.ref p6))) (i33:bi K (.ref p6)=true) (l33:K.lookup p6=some ⟨S1,od33,.func (bU "letter" "House.letter" (Qr Vd) (Qp Vd) (Q7 Vd) .none P1 dc33 pm33 an33 r3 ct33),sl33⟩) (c33:bW K r3 "House.letter" = true) (k33:bT K (.ref p6)=true)
  (a34:bY K (.ref eH) "come" = some (some (.ref p0))) (i34:bi K (.ref p0)=true) (l34:K.lookup p0=some ⟨L9,od34,.func (bU "come" "House.come" (Qr X2) (Qp X2) (Q7 X2) .none I5 N0 pm34 an34 u9 I1),sl34⟩) (c34:bW K u9 "House.come" = true) (G2:bT K (.ref p0)=true)
  (a35:bY K (.ref eH) "table" = some (some (.ref p4))) (i35:bi K (.ref p4)=true) (l35:K.lookup p4=some ⟨oc35,od35,.func (bU "table" "House.table" (Qr U4) (Qp U4) (Q7 U4) .none kV35 S9 pm35 an35 w0 ct35),sl35⟩) (c35:bW K w0 "House.table" = true) (G5:bT K (.ref p4)=true)
  (a36:bY K (.ref eH) "rights" = some (some (.ref p1))) (i36:bi K (.ref p1)=true) (l36:K.lookup p1=some ⟨L1,od36,.func (bU "rights" "House.rights" (Qr Vc) (Qp Vc) (Q7 Vc) .none L5 dc36 pm36 an36 t6 ct36),sl36⟩) (c36:bW K t6 "House.rights" = true) (k36:bT K (.ref p1)=true)
  (a37:bY K (.ref eH) "used" = some (some (.ref p5))) (i37:bi K (.ref p5)=true) (l37:K.lookup p5=some ⟨N3,od37,.func (bU "used" "House.used" (Qr Ux) (Qp Ux) (Q7 Ux) .none kV37 dc37 pm37 N6 q0 ct37),sl37⟩) (c37:bW K q0 "House.used" = true) (k37:bT K (.ref p5)=true)
  (a38:bS K aQ "is_other_deed" = some (some (.ref B2))) (l38:K.lookup B2=some ⟨oc38,M8,.func (bU "is_other_deed" "is_other_deed" (Qr Wr) (Qp Wr) (Q7 Wr) .none I2 dc38 pm38 an38 u5 ct38),sl38⟩) (c38:bW K u5 "is_other_deed" = true) (k38:bT K (.ref B2)=true)
  (a39:bS K aQ "need_deed_of_run" = some (some (.ref y5))) (l39:K.lookup y5=some ⟨G8,od39,.func (bU "need_deed_of_run" "need_deed_of_run" (Qr Yz) (Qp Yz) (Q7 Yz) .none kV39 G4 pm39 an39 t2 ct39),I0⟩) (c39:bW K t2 "need_deed_of_run" = true) (k39:bT K (.ref y5)=true)
  (a40:bS K aQ "do_own_deed" = some (some (.ref x7))) (l40:K.lookup x7=some ⟨oc40,od40,.func (bU "do_own_deed" "do_own_deed" (Qr Vw) (Qp Vw) (Q7 Vw) .none kV40 dc40 P6 an40 u1 ct40),P3⟩) (c40:bW K u1 "do_own_deed" = true) (k40:bT K (.ref x7)=true)
  (a41:bS K aQ "do_other_deed" = some (some (.ref x4))) (l41:K.lookup x4=some ⟨T9,od41,.func (bU "do_other_deed" "do_other_deed" (Qr Ws) (Qp Ws) (Q7 Ws) .none kV41 N7 pm41 an41 r4 T5),G3⟩) (c41:bW K r4 "do_other_deed" = true) (k41:bT K (.ref x4)=true)
  (a42:bS K aQ "answer_to" = some (some (.ref B1))) (l42:K.lookup B1=some ⟨oc42,od42,.func (bU "answer_to" "answer_to" (Qr K0) (Qp K0) (Q7 K0) .none kV42 dc42 pm42 an42 p9 ct42),sl42⟩) (c42:bW K p9 "answer_to" = true) (k42:bT K (.ref B1)=true)
  (a43:bS K aQ "played" = some (some (.ref w6))) (l43:K.lookup w6=some ⟨oc43,od43,.func (bU "played" "played" (Qr xq) (Qp xq) (Q7 xq) .none kV43 H7 pm43 an43 r0 ct43),sl43⟩) (c43:bW K r0 "played" = true) (k43:bT K (.ref w6)=true)
  (a44:bS K aQ "_law_acell" = some (some (.ref C8))) (l44:K.lookup C8=some ⟨oc44,od44,.func (bU "_law_acell" "_law_acell" (Qr Uv) (Qp Uv) (Q7 Uv) .none kV44 dc44 pm44 an44 r1 ct44),sl44⟩) (c44:bW K r1 "_law_acell" = true) (k44:bT K (.ref C8)=true)
  (a45:bS K aQ "_law_atape" = some (some (.ref y2))) (l45:K.lookup y2=some ⟨oc45,od45,.func (bU "_law_atape" "_law_atape" (Qr Us) (Qp Us) (Q7 Us) .none L6 dc45 pm45 M0 s8 ct45),sl45⟩) (c45:bW K s8 "_law_atape" = true) (k45:bT K (.ref y2)=true)
  (a46:bS K aQ "_law_adigit" = some (some (.ref x2))) (l46:K.lookup x2=some ⟨oc46,od46,.func (bU "_law_adigit" "_law_adigit" (Qr U2) (Qp U2) (Q7 U2) .none kV46 dc46 pm46 an46 r6 ct46),sl46⟩) (c46:bW K r6 "_law_adigit" = true) (k46:bT K (.ref x2)=true)
  (a47:bS K aQ "_law_arights" = some (some (.ref w2))) (l47:K.lookup w2=some ⟨oc47,T0,.func (bU "_law_arights" "_law_arights" (Qr V8) (Qp V8) (Q7 V8) .none kV47 dc47 pm47 an47 v1 ct47),sl47⟩) (c47:bW K v1 "_law_arights" = true) (k47:bT K (.ref w2)=true)
  (a48:bS K aQ "_law_abare" = some (some (.ref z3))) (l48:K.lookup z3=some ⟨oc48,od48,.func (bU "_law_abare" "_law_abare" (Qr Uw) (Qp Uw) (Q7 Uw) .none kV48 dc48 pm48 I8 q7 ct48),sl48⟩) (c48:bW K q7 "_law_abare" = true) (k48:bT K (.ref z3)=true)
  (a49:bS K aQ "_law_araised" = some (some (.ref B6))) (l49:K.lookup B6=some ⟨oc49,od49,.func (bU "_law_araised" "_law_araised" (Qr V9) (Qp V9) (Q7 V9) .none kV49 dc49 pm49 an49 v6 ct49),sl49⟩) (c49:bW K v6 "_law_araised" = true) (k49:bT K (.ref B6)=true)
  (a50:bS K aQ "_law_ajoined" = some (some (.ref B7))) (l50:K.lookup B7=some ⟨oc50,I9,.func (bU "_law_ajoined" "_law_ajoined" (Qr Vb) (Qp Vb) (Q7 Vb) .none kV50 dc50 pm50 an50 r9 ct50),sl50⟩) (c50:bW K r9 "_law_ajoined" = true) (k50:bT K (.ref B7)=true)
  (a51:bS K aQ "_law_amuch" = some (some (.ref x6))) (l51:K.lookup x6=some ⟨oc51,od51,.func (bU "_law_amuch" "_law_amuch" (Qr Uu) (Qp Uu) (Q7 Uu) .none kV51 dc51 I4 P9 u7 P2),sl51⟩) (c51:bW K u7 "_law_amuch" = true) (k51:bT K (.ref x6)=true)
  (a52:bS K aQ "_law_atable" = some (some (.ref z7))) (l52:K.lookup z7=some ⟨H8,od52,.func (bU "_law_atable" "_law_atable" (Qr Vy) (Qp Vy) (Q7 Vy) .none kV52 dc52 R9 L0 v5 ct52),T6⟩) (c52:bW K v5 "_law_atable" = true) (k52:bT K (.ref z7)=true)
  (a53:bS K aQ "_law_astart" = some (some (.ref B5))) (l53:K.lookup B5=some ⟨oc53,od53,.func (bU "_law_astart" "_law_astart" (Qr Vz) (Qp Vz) (Q7 Vz) .none kV53 dc53 pm53 an53 t4 ct53),sl53⟩) (c53:bW K t4 "_law_astart" = true) (k53:bT K (.ref B5)=true)
  (a54:bS K aQ "_law_astep" = some (some (.ref z6))) (l54:K.lookup z6=some ⟨oc54,L2,.func (bU "_law_astep" "_law_astep" (Qr Ut) (Qp Ut) (Q7 Ut) .none N1 dc54 S0 an54 u2 ct54),S7⟩) (c54:bW K u2 "_law_astep" = true) (k54:bT K (.ref z6)=true)
  (a55:bS K aQ "_law_adrawn" = some (some (.ref x5))) (l55:K.lookup x5=some ⟨oc55,od55,.func (bU "_law_adrawn" "_law_adrawn" (Qr U1) (Qp U1) (Q7 U1) .none kV55 dc55 pm55 an55 s9 ct55),sl55⟩) (c55:bW K s9 "_law_adrawn" = true) (k55:bT K (.ref x5)=true)
  (a56:bS K aQ "_law_aplayed" = some (some (.ref y1))) (l56:K.lookup y1=some ⟨oc56,od56,.func (bU "_law_aplayed" "_law_aplayed" (Qr Va) (Qp Va) (Q7 Va) .none kV56 dc56 pm56 H5 u8 S3),M7⟩) (c56:bW K u8 "_law_aplayed" = true) (k56:bT K (.ref y1)=true)
  (a57:bS K aQ "_law_abegun" = some (some (.ref B4))) (l57:K.lookup B4=some ⟨oc57,od57,.func (bU "_law_abegun" "_law_abegun" (Qr U3) (Qp U3) (Q7 U3) .none kV57 H6 pm57 R1 v2 ct57),N4⟩) (c57:bW K v2 "_law_abegun" = true) (k57:bT K (.ref B4)=true)
  (a58:bS K aQ "_law_asound" = some (some (.ref B9))) (l58:K.lookup B9=some ⟨oc58,I3,.func (bU "_law_asound" "_law_asound" (Qr U0) (Qp U0) (Q7 U0) .none kV58 L3 T8 an58 s4 R3),sl58⟩) (c58:bW K s4 "_law_asound" = true) (k58:bT K (.ref B9)=true)
  (S8:bS K aQ "law" = some (some (.ref z5))) (l59:K.lookup z5=some ⟨S4,od59,.func (bU "law" "law" (Qr Q49) (Qp Q49) (Q7 Q49) .none s7 t1 t0 q4 n7 q8),H3⟩) (c59:bW K n7 "law" = true) (k59:bT K (.ref z5)=true)
  (d0:bS K aQ "rights_tables" = some (some (.ref f6)))
  (C1:bS K aQ "all" = some none)
  (w8:bS K aQ "any" = some none)
  (o9:bS K aQ "bool" = some none)
  (i6:bS K aQ "enumerate" = some none)
  (C0:bS K aQ "int" = some none)
  (g8:bS K aQ "isinstance" = some none)
  (w3:bS K aQ "len" = some none)
  (z0:bS K aQ "max" = some none)
  (z2:bS K aQ "min" = some none)
  (n6:bS K aQ "range" = some none)
  (B0:bS K aQ "str" = some none)
  (w5:bS K aQ "sum" = some none)
  (o0:bS K aQ "tuple" = some none)
  (w4:bS K aQ "zip" = some none)
  (e5:bS K aQ "MOST_HOUSES" = some (some (.int 8 e0)))
  (n4:bS K aQ "NoDeed" = some (some (.ref i2))) (n3:bb K i2 Xx "ValueError.__new__" = true)
  (m4:bS K aQ "NoHouse" = some (some (.ref g5))) (m5:bb K g5 Xx "ValueError.__new__" = true)
  (k0:bS K aQ "NoLetter" = some (some (.ref d5))) (i9:bb K d5 Xx "ValueError.__new__" = true)
  (m7:bS K aQ "NoTable" = some (some (.ref g1))) (m8:bb K g1 Xx "ValueError.__new__" = true)
  (nW:bS K aQ "WharfError" = some (some (.ref eW)))
  (nS:bS K aQ "Short" = some (some (.ref eS)))
  (xlk:K.lookup eS=some (excClassObj xnm xqn eS xN xbs (.ref eW :: Xx) true xsn xsub xab xcol xdd xk0 xk1 xk2 xk3 xk5 "ValueError.__new__"))
  (xw:bb K eW Xx "ValueError.__new__" = true)
  (xfi:bY K (.ref eS) "__init__" = some (some (.ref fI)))
  (li:K.lookup fI=some ⟨.type "function",odI,.func (bU "__init__" "Short.__init__" (Qr Qai) (Qp Qai) (Q7 Qai) .none kVI dcI pmI anI R4 ctI),slI⟩)
  (ci:bW K R4 "Short.__init__" = true)
  (ki:bT K (.ref fI)=true)
  (xkp:bT K (.ref eS)=true)
  (xcga:eM K (.ref eW) "__getattribute__" = some (some (.builtin "type.__getattribute__")))
  (xcrd:PySem.W.readsIn K eW (.type "type")=true)
  (xcfc:PySem.W.findCls K (.ref eW) (.type "type") "__init__" = some (.val (.builtin "ValueError.__init__")))
  (xsa:bY K (.ref eS) "__setattr__" = some (some (.builtin "object.__setattr__")))
  (N8:bY K (.ref eS) "had" = some none)
  (L4:eN K eS (.type "object")=some true)
  (xes:dF K (.ref eS) (.ref eS)=some true)
  (pns:bS K aQ "PARTS_OF_DEED" = some (some (.ref pd)))
  (plk:K.lookup pd=some ⟨.type "dict",none,.dict #[⟨PyData.keyHash w.params "make",.str "make" pt1,.int 3 pu1⟩,⟨PyData.keyHash w.params "lend",.str "lend" pt2,.int 4 pu2⟩,⟨PyData.keyHash w.params "use",.str "use" pt3,.int 3 pu3⟩] pep,#[]⟩)
  (psm:(pd == af)=false)
  (xcls:dz K eS=some cdx)
  (xga:bY K (.ref eS) "__getattribute__" = some (some (.builtin "BaseException.__getattribute__")))
  (xgt:bY K (.ref eS) "__getattr__" = some none)
  (xcl:bY K (.ref eS) "__class__" = some (some (.builtin "object.__class__")))
  (xgs:eM K (.builtin "object.__class__") "__get__" = some (some (.builtin "getset_descriptor.__get__")))
  (xtk:fX K (.builtin "object.__class__")=some true)
  (xbe:eN K eS (.type "BaseException")=some true)
  (pnsO:bS K aQ "PARTS_OF_OTHER_DEED" = some (some (.ref x0)))
  (plkO:K.lookup x0=some ⟨.type "dict",none,.dict #[⟨PyData.keyHash w.params "keep",.str "keep" qt1,.int 2 qu1⟩,⟨PyData.keyHash w.params "fall",.str "fall" qt2,.int 2 qu2⟩,⟨PyData.keyHash w.params "send",.str "send" qt3,.int 2 qu3⟩,⟨PyData.keyHash w.params "come",.str "come" qt4,.int 3 qu4⟩] pepO,#[]⟩)
  (psmO:(x0 == af)=false)
  (hL:noL K=true) :
  ∃ fd:aP,(∀ (s:aC) (v:aB),BindsTo s fd ⟨[v],[]⟩ [("script",v)])/\∀ base:Heap,K.In base->base.Ns aQ mg->FnOk l.prog w K mg base (CXD l.prog w) 11 fa fd ["script"] (Qbj K):=by
 have e:=hfa.symm.trans (bo X G S8);cases e;have T:Txt mg:=⟨bj X G C1,bj X G w8,bj X G o9,bj X G i6,bj X G C0,bj X G g8,bj X G w3,bj X G z0,bj X G z2,bj X G n6,bj X G B0,bj X G w5,bj X G o0,bj X G w4,⟨_,bo X G e5⟩⟩;have i1:∃ C,mg "NoDeed" = some (.ref C)/\bb K C Xx "ValueError.__new__" = true:=⟨_,bo X G n4,n3⟩;have Z:∃ C,mg "NoHouse" = some (.ref C)/\bb K C Xx "ValueError.__new__" = true:=⟨_,bo X G m4,m5⟩;have d4:∃ C,mg "NoLetter" = some (.ref C)/\bb K C Xx "ValueError.__new__" = true:=⟨_,bo X G k0,i9⟩
 have e4:∃ C,mg "NoTable" = some (.ref C)/\bb K C Xx "ValueError.__new__" = true:=⟨_,bo X G m7,m8⟩;have CD:∃ cd,dz K eS=some cd/\cd.mro=.ref eS :: .ref eW :: Xx/\cd.hasDict=true:=⟨_,by unfold dz; rw [xlk],rfl,rfl⟩;have OS:ShortOk K mg eW eS fI:=⟨bo X G nW,bo X G nS,⟨⟨_,_,_,_,_,_,_,_,_,_,_,_,_,_,xlk⟩,xw,xfi,⟨_,li,rfl⟩,xkp⟩,⟨xcga,xcrd,xcfc⟩,⟨xsa,L4,CD,N8⟩⟩;have FI:=qv (x := "__init__") (qual := "Short.__init__") (st:=Qai) li ci ki;have BI:=FI.binds (ps:=["self", "had"]) fun _ _ _ _ _ _ us j=>match us,j with | [_,_],_=>rfl
 have PK:PartsOk l.prog w K mg:=Qk7 (bo X G pns) plk psm;have PO:PartsO l.prog w K mg:=Qhk (bo X G pnsO) plkO psmO;have XC:XCls K eS:=⟨show (dz K eS).isSome=true by rw [xcls]; rfl,xga,xgt,xcl,xgs,xtk,L4,xbe⟩;have Sx:∃ C,mg "Short" = some (.ref C)/\dF K (.ref C) (.ref C)=some true/\XGet K C "had" := ⟨_,OS.ms,xes,XC,(let ⟨cd,a,_,b⟩:=CD; ⟨cd,a,b⟩),N8⟩;have TC:ClsT K eH:=⟨⟨Hpg,Hhd,Hpo,Hsa⟩,m6,p7,o3⟩;have A1:=Jc (st:=qg) (ps:=["thing"]) X G a1 l1 c1 k1 fun _ _ _ _ _ _ us j=>match us,j with | [_],_=>rfl
 have A2:=Jc (st:=Ur) (ps:=["thing", "least", "most"]) X G a2 l2 c2 k2 fun _ _ _ _ _ _ us j=>match us,j with | [_,_,_],_=>rfl
 have A3:=Jc (st:=xt) (ps:=["thing", "n"]) X G a3 l3 c3 k3 fun _ _ _ _ _ _ us j=>match us,j with | [_,_],_=>rfl
 have A4:=Jc (st:=qi) (ps:=["thing"]) X G a4 l4 c4 k4 fun _ _ _ _ _ _ us j=>match us,j with | [_],_=>rfl
 have A5:=Jc (st:=qj) (ps:=["table", "thing"]) X G a5 l5 c5 k5 fun _ _ _ _ _ _ us j=>match us,j with | [_,_],_=>rfl
 have A6:=Jc (st:=xm) (ps:=["table", "house"]) X G a6 l6 c6 k6 fun _ _ _ _ _ _ us j=>match us,j with | [_,_],_=>rfl
 have A7:=Jc (st:=Q2p) (ps:=["table"]) X G a7 l7 c7 k7 fun _ _ _ _ _ _ us j=>match us,j with | [_],_=>rfl
 have A8:=Jc (st:=Ya) (ps:=["one", "other"]) X G a8 l8 c8 k8 fun _ _ _ _ _ _ us j=>match us,j with | [_,_],_=>rfl
 have A9:=Jc (st:=Wq) (ps:=["one", "other"]) X G a9 l9 c9 k9 fun _ _ _ _ _ _ us j=>match us,j with | [_,_],_=>rfl
 have A10:=Jc (st:=Uq) (ps:=["one", "other"]) X G a10 l10 c10 k10 fun _ _ _ _ _ _ us j=>match us,j with | [_,_],_=>rfl
 have A11:=Jc (st:=xr) (ps:=["one", "other"]) X G a11 l11 c11 k11 fun _ _ _ _ _ _ us j=>match us,j with | [_,_],_=>rfl
 have A12:=Jc (st:=Yb) (ps:=["thing"]) X G a12 l12 c12 k12 fun _ _ _ _ _ _ us j=>match us,j with | [_],_=>rfl
 have A13:=Jc (st:=zn) (ps:=["thing"]) X G a13 l13 c13 k13 fun _ _ _ _ _ _ us j=>match us,j with | [_],_=>rfl
 have A14:=Jc (st:=Y9) (ps:=["table", "deed"]) X G a14 l14 c14 k14 fun _ _ _ _ _ _ us j=>match us,j with | [_,_],_=>rfl
 have A15:=Jc (st:=V7) (ps:=["table", "deed"]) X G a15 l15 c15 k15 fun _ _ _ _ _ _ us j=>match us,j with | [_,_],_=>rfl
 have A16:=Jc (st:=xn) (ps:=["table", "house", "place", "k"]) X G a16 l16 c16 k16 fun _ _ _ _ _ _ us j=>match us,j with | [_,_,_,_],_=>rfl
 have A17:=Jc (st:=Q52) (ps:=["table", "deed"]) X G a17 l17 c17 k17 fun _ _ _ _ _ _ us j=>match us,j with | [_,_],_=>rfl
 have A18:=Jc (st:=Xz) (ps:=["table", "house"]) X G a18 l18 c18 k18 fun _ _ _ _ _ _ us j=>match us,j with | [_,_],_=>rfl
 have A19:=Jc (st:=Yv) (ps:=["table", "house"]) X G a19 l19 c19 k19 fun _ _ _ _ _ _ us j=>match us,j with | [_,_],_=>rfl
 have A20:=Jc (st:=Wn) (ps:=["table", "house", "lenders"]) X G a20 l20 c20 k20 fun _ _ _ _ _ _ us j=>match us,j with | [_,_,_],_=>rfl
 have A21:=Jc (st:=qk) (ps:=["table", "house", "ahead"]) X G a21 l21 c21 k21 fun _ _ _ _ _ _ us j=>match us,j with | [_,_,_],_=>rfl
 have A22:=Jc (st:=Wp) (ps:=["table"]) X G a22 l22 c22 k22 fun _ _ _ _ _ _ us j=>match us,j with | [_],_=>rfl
 have A23:=Jc (st:=W5) (ps:=["table"]) X G a23 l23 c23 k23 fun _ _ _ _ _ _ us j=>match us,j with | [_],_=>rfl
 have A24:=Jc (st:=Vx) (ps:=["table"]) X G a24 l24 c24 k24 fun _ _ _ _ _ _ us j=>match us,j with | [_],_=>rfl
 have A25:=Jc (st:=W6) (ps:=["thing"]) X G a25 l25 c25 k25 fun _ _ _ _ _ _ us j=>match us,j with | [_],_=>rfl
 have I7:=Jc (st:=W0) (ps:=["thing"]) X G a26 l26 c26 k26 fun _ _ _ _ _ _ us j=>match us,j with | [_],_=>rfl
 have A27:=qv (st:=We) l27 c27 k27;have B27:=A27.binds (ps:=["self", "number", "table"]) fun _ _ _ _ _ _ us j=>match us,j with | [_,_,_],_=>rfl
 have A28:=qv (st:=Uy) l28 c28 k28;have B28:=A28.binds (ps:=["self", "k"]) fun _ _ _ _ _ _ us j=>match us,j with | [_,_],_=>rfl
 have A29:=qv (st:=Uz) l29 c29 k29;have B29:=A29.binds (ps:=["self", "to", "k"]) fun _ _ _ _ _ _ us j=>match us,j with | [_,_,_],_=>rfl
 have A30:=qv (st:=K1) l30 c30 k30;have B30:=A30.binds (ps:=["self", "k"]) fun _ _ _ _ _ _ us j=>match us,j with | [_,_],_=>rfl
 have A31:=qv (st:=X0) l31 c31 k31;have B31:=A31.binds (ps:=["self"]) fun _ _ _ _ _ _ us j=>match us,j with | [_],_=>rfl
 have A32:=qv (st:=X1) l32 c32 k32;have B32:=A32.binds (ps:=["self"]) fun _ _ _ _ _ _ us j=>match us,j with | [_],_=>rfl
 have M4:=qv (st:=Vd) l33 c33 k33;have B33:=M4.binds (ps:=["self"]) fun _ _ _ _ _ _ us j=>match us,j with | [_],_=>rfl
 have A34:=qv (st:=X2) l34 c34 G2;have B34:=A34.binds (ps:=["self", "table"]) fun _ _ _ _ _ _ us j=>match us,j with | [_,_],_=>rfl
 have A35:=qv (st:=U4) l35 c35 G5;have B35:=A35.binds (ps:=["self"]) fun _ _ _ _ _ _ us j=>match us,j with | [_],_=>rfl
 have A36:=qv (st:=Vc) l36 c36 k36;have B36:=A36.binds (ps:=["self"]) fun _ _ _ _ _ _ us j=>match us,j with | [_],_=>rfl
 have A37:=qv (st:=Ux) l37 c37 k37;have B37:=A37.binds (ps:=["self"]) fun _ _ _ _ _ _ us j=>match us,j with | [_],_=>rfl
 have A38:=Jc (st:=Wr) (ps:=["thing"]) X G a38 l38 c38 k38 fun _ _ _ _ _ _ us j=>match us,j with | [_],_=>rfl
 have A39:=Jc (st:=Yz) (ps:=["table", "letters", "deed"]) X G a39 l39 c39 k39 fun _ _ _ _ _ _ us j=>match us,j with | [_,_,_],_=>rfl
 have A40:=Jc (st:=Vw) (ps:=["houses", "deed"]) X G a40 l40 c40 k40 fun _ _ _ _ _ _ us j=>match us,j with | [_,_],_=>rfl
 have A41:=Jc (st:=Ws) (ps:=["houses", "letters", "deed"]) X G a41 l41 c41 k41 fun _ _ _ _ _ _ us j=>match us,j with | [_,_,_],_=>rfl
 have A42:=Jc (st:=K0) (ps:=["houses", "letters", "deed"]) X G a42 l42 c42 k42 fun _ _ _ _ _ _ us j=>match us,j with | [_,_,_],_=>rfl
 have A43:=Jc (st:=xq) (ps:=["table", "deeds"]) X G a43 l43 c43 k43 fun _ _ _ _ _ _ us j=>match us,j with | [_,_],_=>rfl
 have A44:=Jc (st:=Uv) (ps:=["script", "k"]) X G a44 l44 c44 k44 fun _ _ _ _ _ _ us j=>match us,j with | [_,_],_=>rfl
 have A45:=Jc (st:=Us) (ps:=["script", "k"]) X G a45 l45 c45 k45 fun _ _ _ _ _ _ us j=>match us,j with | [_,_],_=>rfl
 have A46:=Jc (st:=U2) (ps:=["tape", "many"]) X G a46 l46 c46 k46 fun _ _ _ _ _ _ us j=>match us,j with | [_,_],_=>rfl
 have A47:=Jc (st:=V8) (ps:=["table", "i"]) X G a47 l47 c47 k47 fun _ _ _ _ _ _ us j=>match us,j with | [_,_],_=>rfl
 have A48:=Jc (st:=Uw) (ps:=["size"]) X G a48 l48 c48 k48 fun _ _ _ _ _ _ us j=>match us,j with | [_],_=>rfl
 have N2:=Jc (st:=V9) (ps:=["table", "i", "at", "k"]) X G a49 l49 c49 k49 fun _ _ _ _ _ _ us j=>match us,j with | [_,_,_,_],_=>rfl
 have A50:=Jc (st:=Vb) (ps:=["one", "other"]) X G a50 l50 c50 k50 fun _ _ _ _ _ _ us j=>match us,j with | [_,_],_=>rfl
 have P8:=Jc (st:=Uu) (ps:=["tape"]) X G a51 l51 c51 k51 fun _ _ _ _ _ _ us j=>match us,j with | [_],_=>rfl
 have A52:=Jc (st:=Vy) (ps:=["tape", "size", "many"]) X G a52 l52 c52 k52 fun _ _ _ _ _ _ us j=>match us,j with | [_,_,_],_=>rfl
 have A53:=Jc (st:=Vz) (ps:=["table"]) X G a53 l53 c53 k53 fun _ _ _ _ _ _ us j=>match us,j with | [_],_=>rfl
 have A54:=Jc (st:=Ut) (ps:=["state", "deed"]) X G a54 l54 c54 k54 fun _ _ _ _ _ _ us j=>match us,j with | [_,_],_=>rfl
 have A55:=Jc (st:=U1) (ps:=["tape", "state"]) X G a55 l55 c55 k55 fun _ _ _ _ _ _ us j=>match us,j with | [_,_],_=>rfl
 have A56:=Jc (st:=Va) (ps:=["script", "start", "many", "table"]) X G a56 l56 c56 k56 fun _ _ _ _ _ _ us j=>match us,j with | [_,_,_,_],_=>rfl
 have A57:=Jc (st:=U3) (ps:=["script"]) X G a57 l57 c57 k57 fun _ _ _ _ _ _ us j=>match us,j with | [_],_=>rfl
 have A58:=Jc (st:=U0) (ps:=["tables"]) X G a58 l58 c58 k58 fun _ _ _ _ _ _ us j=>match us,j with | [_],_=>rfl
 have A59:=Jc (st:=Q49) (ps:=["script"]) X G S8 l59 c59 k59 fun _ _ _ _ _ _ us j=>match us,j with | [_],_=>rfl
 refine ⟨bU "law" "law" (Qr Q49) (Qp Q49) (Q7 Q49) .none s7 t1 t0 q4 n7 q8,fun s v=>.of_eq rfl,fun base kb nb=>?_⟩;have o2:ShortS l.prog w K mg base:=⟨_,_,_,_,OS.M,Qps FI OS,BI,OS.ms⟩;have b3:=A1.def (P:=l.prog) (w:=w) (base:=base) rfl (Qda A1.F T    );have g6:=A2.def (P:=l.prog) (w:=w) (base:=base) rfl (Q9t A2.F T   b3 );have n0:=A3.def (P:=l.prog) (w:=w) (base:=base) rfl (Qhq A3.F T   b3 );have i8:=A4.def (P:=l.prog) (w:=w) (base:=base) rfl (Qdb A4.F T   n0 );have U:=A5.def (P:=l.prog) (w:=w) (base:=base) rfl (Qdc A5.F T   g6 );have C9:=A6.def (P:=l.prog) (w:=w) (base:=base) rfl (Qas A6.F T  Z U );have O:DefS l.prog w K mg base 4 "rights_tables" 2 Xe:=⟨_,_,_,Qas A6.F T  Z U ,bo X G d0,A6.F.kp,A6.b,rfl⟩;have n9:=A7.def (P:=l.prog) (w:=w) (base:=base) rfl (Qkd A7.F T    )
 have B:=A8.def (P:=l.prog) (w:=w) (base:=base) rfl (Q0n A8.F T  e4  );have d1:=A9.def (P:=l.prog) (w:=w) (base:=base) rfl (Q59 A9.F T    );have h6:=A10.def (P:=l.prog) (w:=w) (base:=base) rfl (Q9s A10.F T    );have i0:=A11.def (P:=l.prog) (w:=w) (base:=base) rfl (Qhp A11.F T   B h6 );have z:=A12.def (P:=l.prog) (w:=w) (base:=base) rfl (Q0p A12.F T   b3 );have g0:=A13.def (P:=l.prog) (w:=w) (base:=base) rfl (Qez A13.F T PK   z );have I:=A14.def (P:=l.prog) (w:=w) (base:=base) rfl (Q0m A14.F T  Z U );have d8:=A15.def (P:=l.prog) (w:=w) (base:=base) rfl (Q68 A15.F T    );have n2:=A16.def (P:=l.prog) (w:=w) (base:=base) rfl (Qhm A16.F T    );have i7:=A17.def (P:=l.prog) (w:=w) (base:=base) rfl (Qpt A17.F T o2  i1 g0 I O n2 d8 )
 have i4:=A18.def (P:=l.prog) (w:=w) (base:=base) rfl (Qbv A18.F T    );have b4:=A19.def (P:=l.prog) (w:=w) (base:=base) rfl (Q1w A19.F T    );have d3:=A20.def (P:=l.prog) (w:=w) (base:=base) rfl (Q57 A20.F T    );have l0:=A21.def (P:=l.prog) (w:=w) (base:=base) rfl (Qdd A21.F T   i4 d3 );have b0:=A22.def (P:=l.prog) (w:=w) (base:=base) rfl (Q58 A22.F T   l0 );have b9:=A23.def (P:=l.prog) (w:=w) (base:=base) rfl (Q3q A23.F T   b0 b4 );have b5:=A24.def (P:=l.prog) (w:=w) (base:=base) rfl (Q7v A24.F T   O b9 b0 );have c0:=A25.def (P:=l.prog) (w:=w) (base:=base) rfl (Q3r A25.F T   i8 b5 );have Y:=I7.def (P:=l.prog) (w:=w) (base:=base) rfl (Q37 I7.F T  e4 c0 )
 have o1:MakeS l.prog w K mg base 8 eH "House" 3 (Wf eH):=⟨_,_,_,Q4d A27 T TC  Z Y U ,⟨Hmk,a27,i27,Hkc⟩,bo X G aH,B27,rfl⟩;have h5:MethS l.prog w K mg base 6 eH "make" 2 (Kv eH):=⟨_,_,_,Qa0 A28 T TC   i7 ,⟨a28,i28,k28⟩,B28,rfl⟩;have h8:MethS l.prog w K mg base 6 eH "lend" 3 (Kw eH):=⟨_,_,_,Qa1 A29 T TC   i7 ,⟨a29,i29,k29⟩,B29,rfl⟩;have i5:MethS l.prog w K mg base 6 eH "use" 2 (jg eH):=⟨_,_,_,Qbx A30 T TC   i7 ,⟨a30,i30,k30⟩,B30,rfl⟩;have h9:MethS l.prog w K mg base 1 eH "keep" 1 (Kx eH):=⟨_,_,_,Qa2 A31 T TC    ,⟨a31,i31,k31⟩,B31,rfl⟩;have g7:MethS l.prog w K mg base 1 eH "fall" 1 (Ky eH):=⟨_,_,_,Qa3 A32 T TC    ,⟨a32,i32,k32⟩,B32,rfl⟩;have d9:MethS l.prog w K mg base 1 eH "letter" 1 (Vg eH):=⟨_,_,_,Q6e M4 T TC    ,⟨a33,i33,k33⟩,B33,rfl⟩;have h3:MethS l.prog w K mg base 3 eH "come" 2 (Kz eH):=⟨_,_,_,Qa4 A34 T TC  d4 B d1 i0 ,⟨a34,i34,G2⟩,B34,rfl⟩
 have e7:MethS l.prog w K mg base 1 eH "table" 1 (Xk eH):=⟨_,_,_,Q82 A35 T TC    ,⟨a35,i35,G5⟩,B35,rfl⟩;have n5:MethS l.prog w K mg base 5 eH "rights" 1 (Q2i eH):=⟨_,_,_,Q6d A36 T TC   O ,⟨a36,i36,k36⟩,B36,rfl⟩;have o4:MethS l.prog w K mg base 1 eH "used" 1 (Q4v eH):=⟨_,_,_,Q9z A37 T TC    ,⟨a37,i37,k37⟩,B37,rfl⟩;have b1:=A38.def (P:=l.prog) (w:=w) (base:=base) rfl (Q5a A38.F T PO   z );have b6:=A39.def (P:=l.prog) (w:=w) (base:=base) rfl (Q36 A39.F T  i1 Z d4 g0 I b1 U );have e8:=A40.def (P:=l.prog) (w:=w) (base:=base) rfl (Q7u A40.F T TC    h5 h8 i5);have d2:=A41.def (P:=l.prog) (w:=w) (base:=base) rfl (Q5b A41.F T TC    h9 g7 d9 h3)
 have i3:=A42.def (P:=l.prog) (w:=w) (base:=base) rfl (Qbw A42.F T TC Sx   b1 d2 e8 );have m9:=A43.def (P:=l.prog) (w:=w) (base:=base) rfl (Qhn A43.F T TC   Y b6 i3 o1 e7);have g9:=A44.def (P:=l.prog) (w:=w) (base:=base) rfl (Q9x A44.F T    );have b7:=A45.def (P:=l.prog) (w:=w) (base:=base) rfl (Q9u A45.F T   g9 );have J:=A46.def (P:=l.prog) (w:=w) (base:=base) rfl (Q80 A46.F T    );have q:=A47.def (P:=l.prog) (w:=w) (base:=base) rfl (Q69 A47.F T    );have h7:=A48.def (P:=l.prog) (w:=w) (base:=base) rfl (Q9y A48.F T    );have b2:=N2.def (P:=l.prog) (w:=w) (base:=base) rfl (Q6a N2.F T    );have d7:=A50.def (P:=l.prog) (w:=w) (base:=base) rfl (Q6c A50.F T    );have b8:=P8.def (P:=l.prog) (w:=w) (base:=base) rfl (Q9w P8.F T   J )
 have g3:=A52.def (P:=l.prog) (w:=w) (base:=base) rfl (Q7w A52.F T   h7 J q b2 b8 );have g4:=A53.def (P:=l.prog) (w:=w) (base:=base) rfl (Q7x A53.F T    );have h4:=A54.def (P:=l.prog) (w:=w) (base:=base) rfl (Q9v A54.F T   d7 q b2 );have f0:=A55.def (P:=l.prog) (w:=w) (base:=base) rfl (Q7z A55.F T   J q b8 );have d6:=A56.def (P:=l.prog) (w:=w) (base:=base) rfl (Q6b A56.F T   g4 b7 f0 h4 );have e6:=A57.def (P:=l.prog) (w:=w) (base:=base) rfl (Q81 A57.F T   b7 J g3 );have e9:=A58.def (P:=l.prog) (w:=w) (base:=base) rfl (Q7y A58.F T   i0 b5 q n9 );exact Qqb hL (Qt6 A59.F T TC   e6 d6 e9 m9 ) (Qqc _)
end Lw
theorem PySem.W.Fast.tw10567059438014839449 : True := trivial
theorem PySem.W.Fast.tw16308003832202845713 : True := trivial
theorem PySem.W.Fast.tw18094415228617618069 : True := trivial
theorem PySem.W.Fast.tw7017412056941005972 : True := trivial
theorem PySem.W.Fast.tw3516569505658853983 : True := trivial
theorem PySem.W.Fast.tw7550863376546799467 : True := trivial
theorem PySem.W.Fast.tw14360199322355497398 : True := trivial
theorem PySem.W.Fast.tw17836905502243430003 : True := trivial
theorem PySem.W.Fast.tw7505131584372531488 : True := trivial
theorem PySem.W.Fast.tw5303207975421951395 : True := trivial
theorem PySem.W.Fast.tw696437170202981165 : True := trivial
theorem PySem.W.Fast.tw17755587020904709062 : True := trivial
theorem PySem.W.Fast.tw3409046834645984937 : True := trivial
theorem PySem.W.Fast.te894687028122068090 : True := trivial
open PySem PySem.W PyProof.Rows
set_option maxRecDepth 100000 in
set_option maxHeartbeats 0 in
theorem PySem.Challenge.cw_lendwharf_k19_whole_nothing_lost_or_twic_holds : PySem.Challenge.rw_lendwharf_k19_whole_nothing_lost_or_twic.Holds := by
 w_on; o_law; k_head; (case hw=>w_witness2)
 k_fill
 refine Sm.walkS (l:=PySem.Challenge.rw_lendwharf_k19_whole_nothing_lost_or_twic) (k:=11) rfl ⟨rfl,by decide,by decide⟩ rfl (fun w h Y=>PySem.W.kIn_of Y) ?F
 case F=>
  intro w mg fa h KX G hmg;refine' Lw.all_mk KX G hmg ?aH ?Hpg ?Hhd ?Hpo ?Hsa ?Hmk ?Hkc ?Hn_number ?Hn_now ?Hn_kept ?a1 ?l1 ?c1 ?k1 ?a2 ?l2 ?c2 ?k2 ?a3 ?l3 ?c3 ?k3 ?a4 ?l4 ?c4 ?k4 ?a5 ?l5 ?c5 ?k5 ?a6 ?l6 ?c6 ?k6 ?a7 ?l7 ?c7 ?k7 ?a8 ?l8 ?c8 ?k8 ?a9 ?l9 ?c9 ?k9 ?a10 ?l10 ?c10 ?k10 ?a11 ?l11 ?c11 ?k11 ?a12 ?l12 ?c12 ?k12 ?a13 ?l13 ?c13 ?k13 ?a14 ?l14 ?c14 ?k14 ?a15 ?l15 ?c15 ?k15 ?a16 ?l16 ?c16 ?k16 ?a17 ?l17 ?c17 ?k17 ?a18 ?l18 ?c18 ?k18 ?a19 ?l19 ?c19 ?k19 ?a20 ?l20 ?c20 ?k20 ?a21 ?l21 ?c21 ?k21 ?a22 ?l22 ?c22 ?k22 ?a23 ?l23 ?c23 ?k23 ?a24 ?l24 ?c24 ?k24 ?a25 ?l25 ?c25 ?k25 ?a26 ?l26 ?c26 ?k26 ?a27 ?i27 ?l27 ?c27 ?k27 ?a28 ?i28 ?l28 ?c28 ?k28 ?a29 ?i29 ?l29 ?c29 ?k29 ?a30 ?i30 ?l30 ?c30 ?k30 ?a31 ?i31 ?l31 ?c31 ?k31 ?a32 ?i32 ?l32 ?c32 ?k32 ?a33 ?i33 ?l33 ?c33 ?k33 ?a34 ?i34 ?l34 ?c34 ?k34 ?a35 ?i35 ?l35 ?c35 ?k35 ?a36 ?i36 ?l36 ?c36 ?k36 ?a37 ?i37 ?l37 ?c37 ?k37 ?a38 ?l38 ?c38 ?k38 ?a39 ?l39 ?c39 ?k39 ?a40 ?l40 ?c40 ?k40 ?a41 ?l41 ?c41 ?k41 ?a42 ?l42 ?c42 ?k42 ?a43 ?l43 ?c43 ?k43 ?a44 ?l44 ?c44 ?k44 ?a45 ?l45 ?c45 ?k45 ?a46 ?l46 ?c46 ?k46 ?a47 ?l47 ?c47 ?k47 ?a48 ?l48 ?c48 ?k48 ?a49 ?l49 ?c49 ?k49 ?a50 ?l50 ?c50 ?k50 ?a51 ?l51 ?c51 ?k51 ?a52 ?l52 ?c52 ?k52 ?a53 ?l53 ?c53 ?k53 ?a54 ?l54 ?c54 ?k54 ?a55 ?l55 ?c55 ?k55 ?a56 ?l56 ?c56 ?k56 ?a57 ?l57 ?c57 ?k57 ?a58 ?l58 ?c58 ?k58 ?a59 ?l59 ?c59 ?k59 ?al_rights_tables ?z_all ?z_any ?z_bool ?z_enumerate ?z_int ?z_isinstance ?z_len ?z_max ?z_min ?z_range ?z_str ?z_sum ?z_tuple ?z_zip ?v_MOST_HOUSES ?n_NoDeed ?x_NoDeed ?n_NoHouse ?x_NoHouse ?n_NoLetter ?x_NoLetter ?n_NoTable ?x_NoTable ?nW ?nS ?xlk ?xw ?xfi ?li ?ci ?ki ?xkp ?xcga ?xcrd ?xcfc ?xsa ?xno ?xob ?xes ?pns ?plk ?psm ?xcls ?xga ?xgt ?xcl ?xgs ?xtk ?xbe ?pnsO ?plkO ?psmO ?hL
  (case aH=>k_is)
  (case Hpg=>k_is)
  (case Hhd=>k_is)
  (case Hpo=>k_is)
  (case Hsa=>k_is)
  (case Hmk=>k_is)
  (case Hkc=>k_is)
  (case Hn_number=>k_is)
  (case Hn_now=>k_is)
  (case Hn_kept=>k_is)
  (case a1=>k_is)
  (case l1=>k_is)
  (case c1=>k_is)
  (case k1=>k_is)
  (case a2=>k_is)
  (case l2=>k_is)
  (case c2=>k_is)
  (case k2=>k_is)
  (case a3=>k_is)
  (case l3=>k_is)
  (case c3=>k_is)
  (case k3=>k_is)
  (case a4=>k_is)
  (case l4=>k_is)
  (case c4=>k_is)
  (case k4=>k_is)
  (case a5=>k_is)
  (case l5=>k_is)
  (case c5=>k_is)
  (case k5=>k_is)
  (case a6=>k_is)
  (case l6=>k_is)
  (case c6=>k_is)
  (case k6=>k_is)
  (case a7=>k_is)
  (case l7=>k_is)
  (case c7=>k_is)
  (case k7=>k_is)
  (case a8=>k_is)
  (case l8=>k_is)
  (case c8=>k_is)
  (case k8=>k_is)
  (case a9=>k_is)
  (case l9=>k_is)
  (case c9=>k_is)
  (case k9=>k_is)
  (case a10=>k_is)
  (case l10=>k_is)
  (case c10=>k_is)
  (case k10=>k_is)
  (case a11=>k_is)
  (case l11=>k_is)
  (case c11=>k_is)
  (case k11=>k_is)
  (case a12=>k_is)
  (case l12=>k_is)
  (case c12=>k_is)
  (case k12=>k_is)
  (case a13=>k_is)
  (case l13=>k_is)
  (case c13=>k_is)
  (case k13=>k_is)
  (case a14=>k_is)
  (case l14=>k_is)
  (case c14=>k_is)
  (case k14=>k_is)
  (case a15=>k_is)
  (case l15=>k_is)
  (case c15=>k_is)
  (case k15=>k_is)
  (case a16=>k_is)
  (case l16=>k_is)
  (case c16=>k_is)
  (case k16=>k_is)
  (case a17=>k_is)
  (case l17=>k_is)
  (case c17=>k_is)
  (case k17=>k_is)
  (case a18=>k_is)
  (case l18=>k_is)
  (case c18=>k_is)
  (case k18=>k_is)
  (case a19=>k_is)
  (case l19=>k_is)
  (case c19=>k_is)
  (case k19=>k_is)
  (case a20=>k_is)
  (case l20=>k_is)
  (case c20=>k_is)
  (case k20=>k_is)
  (case a21=>k_is)
  (case l21=>k_is)
  (case c21=>k_is)
  (case k21=>k_is)
  (case a22=>k_is)
  (case l22=>k_is)
  (case c22=>k_is)
  (case k22=>k_is)
  (case a23=>k_is)
  (case l23=>k_is)
  (case c23=>k_is)
  (case k23=>k_is)
  (case a24=>k_is)
  (case l24=>k_is)
  (case c24=>k_is)
  (case k24=>k_is)
  (case a25=>k_is)
  (case l25=>k_is)
  (case c25=>k_is)
  (case k25=>k_is)
  (case a26=>k_is)
  (case l26=>k_is)
  (case c26=>k_is)
  (case k26=>k_is)
  (case a27=>k_is)
  (case i27=>k_is)
  (case l27=>k_is)
  (case c27=>k_is)
  (case k27=>k_is)
  (case a28=>k_is)
  (case i28=>k_is)
  (case l28=>k_is)
  (case c28=>k_is)
  (case k28=>k_is)
  (case a29=>k_is)
  (case i29=>k_is)
  (case l29=>k_is)
  (case c29=>k_is)
  (case k29=>k_is)
  (case a30=>k_is)
  (case i30=>k_is)
  (case l30=>k_is)
  (case c30=>k_is)
  (case k30=>k_is)
  (case a31=>k_is)
  (case i31=>k_is)
  (case l31=>k_is)
  (case c31=>k_is)
  (case k31=>k_is)
  (case a32=>k_is)
  (case i32=>k_is)
  (case l32=>k_is)
  (case c32=>k_is)
  (case k32=>k_is)
  (case a33=>k_is)
  (case i33=>k_is)
  (case l33=>k_is)
  (case c33=>k_is)
  (case k33=>k_is)
  (case a34=>k_is)
  (case i34=>k_is)
  (case l34=>k_is)
  (case c34=>k_is)
  (case k34=>k_is)
  (case a35=>k_is)
  (case i35=>k_is)
  (case l35=>k_is)
  (case c35=>k_is)
  (case k35=>k_is)
  (case a36=>k_is)
  (case i36=>k_is)
  (case l36=>k_is)
  (case c36=>k_is)
  (case k36=>k_is)
  (case a37=>k_is)
  (case i37=>k_is)
  (case l37=>k_is)
  (case c37=>k_is)
  (case k37=>k_is)
  (case a38=>k_is)
  (case l38=>k_is)
  (case c38=>k_is)
  (case k38=>k_is)
  (case a39=>k_is)
  (case l39=>k_is)
  (case c39=>k_is)
  (case k39=>k_is)
  (case a40=>k_is)
  (case l40=>k_is)
  (case c40=>k_is)
  (case k40=>k_is)
  (case a41=>k_is)
  (case l41=>k_is)
  (case c41=>k_is)
  (case k41=>k_is)
  (case a42=>k_is)
  (case l42=>k_is)
  (case c42=>k_is)
  (case k42=>k_is)
  (case a43=>k_is)
  (case l43=>k_is)
  (case c43=>k_is)
  (case k43=>k_is)
  (case a44=>k_is)
  (case l44=>k_is)
  (case c44=>k_is)
  (case k44=>k_is)
  (case a45=>k_is)
  (case l45=>k_is)
  (case c45=>k_is)
  (case k45=>k_is)
  (case a46=>k_is)
  (case l46=>k_is)
  (case c46=>k_is)
  (case k46=>k_is)
  (case a47=>k_is)
  (case l47=>k_is)
  (case c47=>k_is)
  (case k47=>k_is)
  (case a48=>k_is)
  (case l48=>k_is)
  (case c48=>k_is)
  (case k48=>k_is)
  (case a49=>k_is)
  (case l49=>k_is)
  (case c49=>k_is)
  (case k49=>k_is)
  (case a50=>k_is)
  (case l50=>k_is)
  (case c50=>k_is)
  (case k50=>k_is)
  (case a51=>k_is)
  (case l51=>k_is)
  (case c51=>k_is)
  (case k51=>k_is)
  (case a52=>k_is)
  (case l52=>k_is)
  (case c52=>k_is)
  (case k52=>k_is)
  (case a53=>k_is)
  (case l53=>k_is)
  (case c53=>k_is)
  (case k53=>k_is)
  (case a54=>k_is)
  (case l54=>k_is)
  (case c54=>k_is)
  (case k54=>k_is)
  (case a55=>k_is)
  (case l55=>k_is)
  (case c55=>k_is)
  (case k55=>k_is)
  (case a56=>k_is)
  (case l56=>k_is)
  (case c56=>k_is)
  (case k56=>k_is)
  (case a57=>k_is)
  (case l57=>k_is)
  (case c57=>k_is)
  (case k57=>k_is)
  (case a58=>k_is)
  (case l58=>k_is)
  (case c58=>k_is)
  (case k58=>k_is)
  (case a59=>k_is)
  (case l59=>k_is)
  (case c59=>k_is)
  (case k59=>k_is)
  (case al_rights_tables=>k_is)
  (case z_all=>k_is)
  (case z_any=>k_is)
  (case z_bool=>k_is)
  (case z_enumerate=>k_is)
  (case z_int=>k_is)
  (case z_isinstance=>k_is)
  (case z_len=>k_is)
  (case z_max=>k_is)
  (case z_min=>k_is)
  (case z_range=>k_is)
  (case z_str=>k_is)
  (case z_sum=>k_is)
  (case z_tuple=>k_is)
  (case z_zip=>k_is)
  (case v_MOST_HOUSES=>k_is)
  (case n_NoDeed=>k_is)
  (case x_NoDeed=>k_exc)
  (case n_NoHouse=>k_is)
  (case x_NoHouse=>k_exc)
  (case n_NoLetter=>k_is)
  (case x_NoLetter=>k_exc)
  (case n_NoTable=>k_is)
  (case x_NoTable=>k_exc)
  (case nW=>k_is)
  (case nS=>k_is)
  (case xlk=>k_is)
  (case xw=>k_exc)
  (case xfi=>k_is)
  (case li=>k_is)
  (case ci=>k_is)
  (case ki=>k_is)
  (case xkp=>k_is)
  (case xcga=>k_is)
  (case xcrd=>k_is)
  (case xcfc=>k_is)
  (case xsa=>k_is)
  (case xno=>k_is)
  (case xob=>k_is)
  (case xes=>kts_exm)
  (case pns=>k_is)
  (case plk=>k_is)
  (case psm=>(first | rfl | decide))
  (case xcls=>k_is)
  (case xga=>k_is)
  (case xgt=>k_is)
  (case xcl=>k_is)
  (case xgs=>k_is)
  (case xtk=>k_is)
  (case xbe=>k_is)
  (case pnsO=>k_is)
  (case plkO=>k_is)
  (case psmO=>(first | rfl | decide))
  (case hL=>rfl)
