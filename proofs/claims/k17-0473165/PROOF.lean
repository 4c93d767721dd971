import PyProof.Rows.All
import Wide.All
import OpenK.AllK
import Wide.FinOn
import Lean
import PyProof.EqAt
import PyProof.EqKinds
import PyProof.TupleCall
import PyProof.ZipIter
import PyProof.Draws
import PyProof.SumAny
import PyProof.EnumMake
import PyProof.WalkInts
import PyProof.ExcArgsOwn
import PyProof.ExcAttrAll.ValueError
import PyProof.NsDelKeeps
import KE.KTryMore
import OpenK.KOwn
import PyProof.ListMulRoad
import PyProof.FactsAll.tuple_2
import PyProof.NeKinds
import PyProof.Rows.RuleIs
import PyProof.ExcInit
import PyProof.ExcClass3
import OpenK.KCls
import PyProof.InstStoreFacts
import OpenK.KMake
import PyProof.DictRoads
import PyProof.Rows.CountFlat
import PyProof.ListRange
import PyProof.Rows.SetFrom
import PyProof.CollectStr
import PyProof.Rows.TupMore
import PyProof.AttrMissHeap
import KE.KDictOf
import PyProof.DictWalks
import KE.KSortTup
import PyProof.DictItemsLoops
import KE.KDictList
import PyProof.CallStr
import PyProof.Conv_int_bool
import PySem.Challenge.RW_lendwharf_k17_runs_played
set_option Elab.async false
set_option linter.all false
set_option maxRecDepth 100000
set_option maxHeartbeats 4000000
open PySem.Heap renaming get?_push_of_some -> O0, lt_size -> O9, get?_push_size -> D6, get?_update_other -> E5, size_push -> F4, get?_update_self -> F9
open List renaming getElem?_eq_some_iff -> O1, length_map -> O2, size_toArray -> O3, getElem?_eq_getElem -> O4, getElem?_set_ne -> O5, getElem?_append_left -> O6, length_append -> O8, mem_cons_of_mem -> D0, getElem?_append_right -> D1, mem_of_getElem? -> D2, mem_cons_self -> D4, length_set -> D5, length_cons -> D8, lookup_cons -> D9, getElem?_set_self -> E2, mem_cons -> E3, mem_append_right -> E4, getElem?_map -> E6, mem_range -> E7, mem_append -> E9, map_cons -> F2, map_append -> F3, mem_append_left -> F5, all_eq_true -> F7, getD_eq_getElem?_getD -> F8, length_range -> G6
open Nat renaming le_refl -> O7, lt_of_lt_of_le -> D3, le_of_lt -> E8, ne_of_lt -> F0, le_trans -> F1
open Bool renaming false_ne_true -> D7, and_eq_true -> F6
open PySem renaming Addr -> aA, Value -> aB, Shared -> aC, Expr -> aD, wpAny_bind -> aF, wpAny -> aI, model -> aJ, eval -> aK, World -> aL, Stmt -> aM, Program -> aN, starEach -> aO, FuncData -> aP, mainGlobals -> aQ, Around -> aR, wpAny_pure -> aS, backTo -> aU, compareOp -> aV, binaryOp -> aW, IsPair -> aX, wpAny_field -> aY, bootBuiltins -> aZ, cLine -> aa, wpAny_mono -> ac, rawInt -> ad, cellsFrom -> ae, sysModules -> af, attributeBase -> ag, holding -> ai, NameKind -> aj, assignEach -> ak, wpAny_truthy_bool -> am, wpAny_newObj_type -> ao, call_meets -> aq, Paired -> ar, wpAny_seqItems -> au, wpAny_holding -> av, wpAny_passesOwn -> aw, pyNext -> ay, foldedSetIterable -> az, sliceBounds -> bA, valueAt -> bB, behindInMarks -> bC, codeAny_mono -> bD, wpAny_call_entry -> bE, wpAny_setField_rec -> bF, wpAny_typeOf -> bG, wpAny_rule -> bH, wpAny_pyIter_tuple -> bI
open PySem.Str renaming ofString -> bO, empty -> fT
open PySem.W renaming Frag -> bP, nsIn -> bR, keepIn -> bS, fnOf -> bT, codeIn -> bU, findIn -> bX, excIn -> ba, isFn -> bf, mg_none_of -> bh, mg_of -> bi, kia_one -> bp, emptyDict -> bv, instObj -> cC, plainGet -> cv, callWith_K -> cw, exmOne -> dA, hideAll -> dF, hideAll_get -> dG, lookIn -> dJ, hasDictIn -> dL, clsIn -> dl, methodObj -> du, plainGet_of -> dz, plainOver -> eA, takerIn -> eB, makesIn -> eC, specialIn -> eF, mroIn -> eG, kitOne -> eI, cellsFrom_some -> eJ, OpenLaw -> eT, of_hideAll -> fK, hideAll_none -> fL, handedIn -> fR, looks_findIn -> fS, takesIn -> fU, kitx_list -> fV, kitx_dict -> fW, methodCall_KW -> fX, WalkO -> fk
open List renaming replicate -> bQ, range -> bV, getD -> bZ, append_nil -> bq, map_map -> bt, lookup -> bw, mem_filter -> cD, replicate_succ -> cG, append_assoc -> cH, find?_cons -> cI, getElem?_range -> cJ, length_take -> cO, getElem?_replicate -> cP, length_nil -> cQ, length_drop -> cR, flatten_cons -> cS, all_cons -> cT, prefix_refl -> cU, getElem?_eq_none -> cV, not_mem_nil -> cW, of_mem_zip -> cZ, map_nil -> ca, foldl_cons -> cc, mem_map -> cr, length_pos_iff -> cy, prefix_append -> dB, any_eq_true -> dD, filterMap_cons -> dH, nodup_cons -> dM, foldl -> dO, forIn_cons -> dQ, any_cons -> dR, any_map -> dS, getElem_mem -> dU, mem_iff_getElem -> dW, getElem_of_mem -> dX, nodup_append -> dY, getElem?_set -> dZ, drop_zero -> da, length_zip -> db, getElem?_zip_eq_some -> dc, range_succ -> dh, mem_or_eq_of_mem_set -> dj, mem_singleton -> dk, mem_filterMap -> dy, length -> eK, length_replicate -> eL, length_singleton -> eP, forIn_nil -> eV, take_length -> eX, range_succ_eq_map -> eY, all_map -> eZ, drop_length -> ew, length_filter_le -> fB, eq_of_mem_replicate -> fD, map_replicate -> fE, eq_replicate_iff -> fF, find?_cons_of_neg -> fG, any_eq_false -> fQ, zip_cons_cons -> fZ, nil_append -> fj, map_congr_left -> fo, zipIdx_cons -> fq, zipIdx_nil -> ft, sum_append -> fu, isEmpty_toArray -> gB, isEmpty_iff -> gC, pairwise_iff_getElem -> gH, drop_eq_getElem_cons -> gK, set_append_right -> gL, take_of_length_le -> gP, mem_toArray -> gQ, nodup_nil -> gS, ext_getElem? -> gT, any_filter -> gU
open PySem.Value renaming ref -> bW, none -> bb, isStrOf -> bj, bool -> cB, int -> cX, builtin -> cj, str -> cu, float -> dm, type -> dn, isInt -> fH, bytes -> fJ, notImplemented -> fb
open PySem renaming boot_len -> bY, mem_of_lookup -> bx, Env -> df, Within -> dq, call -> eR, list_append -> fh, seqSlot_of -> fy, evalArgs_none -> gR
open Option.some renaming inj -> bc
open Int renaming le_refl -> bg, le_trans -> bu, toNat_natCast -> cF, fdiv_eq_ediv_of_nonneg -> fP, emod_eq_of_lt -> gX
open Nat renaming lt_irrefl -> bo, ne_of_gt -> cE, zero_le -> cM, le_succ -> cN, lt_succ_self -> cY, lt_succ_of_lt -> ce, sub_self -> dE, not_lt_zero -> di, le_of_eq -> eE, mul_comm -> eQ, eq_zero_or_pos -> ek, min_self -> eu, lt_of_le_of_lt -> fw, sub_zero -> gI, min_le_left -> gJ, le_total -> gM, min_eq_left -> gN, min_eq_right -> gO, pow_le_pow_right -> gW
open PySem.Obj renaming mapFields -> br, data_mapFields -> cA, mapSeq -> cb, isFreed_of_fields -> cx, cls_mapFields -> eU
open Sum renaming inl -> cK, inr -> cL
open Array renaming getElem?_eq_some_iff -> cg, length_toList -> dw, getElem?_setIfInBounds_ne -> ec, append_assoc -> fM, toList -> fN
open Prod renaming fst -> cp, snd -> ee
open PySem.F renaming excBase_ValueError -> cz, slot_tuple_add -> eM, entry_tuple_add -> eN, args_tuple_add_2 -> eO, plainAttrs_list -> ez, plainAttrs_dict -> gE, slot_dict_get -> gF, slot_dict_clear -> gG
open Bool renaming eq_iff_iff -> dC, and_false -> dP, true_and -> fC, false_and -> fO, false_eq_true -> fm, not_true -> fx, or_eq_true_iff -> gA, or_eq_true -> gD
open PyProof.Rows renaming callWith_type1 -> dI, slot_tuple_getitem -> dN, envOfC -> dg, callWith_builtin1 -> gY, lt_int -> gZ
open Option renaming bind_some -> fA, isSome_iff_exists -> fY, getD_none -> fe
noncomputable section
theorem bJ {c:Prop}{h:Decidable c}(j:c){α:Sort _}{t e:α}:ite c t e=t:=if_pos j
theorem bK {c:Prop}{h:Decidable c}(j:¬c){α:Sort _}{t e:α}:ite c t e=e:=if_neg j
theorem bL {p:Prop}[i:Decidable p](h:¬p):decide p=false:=decide_eq_false h
theorem bN {p:Prop}[i:Decidable p](h:p):decide p=true:=decide_eq_true h
namespace L2
open PySem PySem.Spec PyProof.Rows
abbrev Key:=Sum Int Str
def jh:Key->aB->Bool
 | .inl k,v=>fH k v
 | .inr x,v=>bj x v
def Qxy (w:aL):Key->Int
 | .inl k=>hashInt k
 | .inr x=>hashStr w x
theorem Ws:∀ {k:Key} {v:aB},jh k v=true->(∃ i t,k=cK i/\v=cX i t)\/(∃ x t,k=cL x/\v=cu x t)
 | .inl i,v,h=>by
  obtain ⟨t,e⟩:=Value.isInt_shape (k:=i) (v:=v) h;exact .inl ⟨i,t,rfl,e⟩
 | .inr x,v,h=>by
  obtain ⟨t,e⟩:=Value.isStrOf_shape (x:=x) (v:=v) h;exact .inr ⟨x,t,rfl,e⟩
theorem Qh9 (i:Int) (t:Tok):jh (.inl i) (.int i t)=true:=by simp [jh,fH]
theorem Qh8 (x:Str) (t:Tok):jh (.inr x) (.str x t)=true:=by simp [jh,bj]
theorem Qsw (a b:Int):decide ((cK a:Key)=cK b)=(a == b):=by
 by_cases e:a=b
 ·subst e; simp
 ·have h:¬ (cK a:Key)=cK b:=fun q=>e (Sum.inl.inj q)
  rw [bL h];exact (beq_eq_false_iff_ne.mpr e).symm
theorem Qst (a b:Str):decide ((cL a:Key)=cL b)=decide (a=b):=by
 by_cases e:a=b
 ·subst e; simp
 ·have h:¬ (cL a:Key)=cL b:=fun q=>e (Sum.inr.inj q)
  rw [bL h,bL e]
theorem Qsv (a:Int) (b:Str):decide ((cK a:Key)=cL b)=false:=bL (fun q=>nomatch q)
theorem Qsu (a:Str) (b:Int):decide ((cL a:Key)=cK b)=false:=bL (fun q=>nomatch q)
def J4 (prog:aN) (w:aL):PySem.KeyKind prog w Key where
 is:=jh
 hash:=Qxy w
 inj:=fun v a b ha hb=>by
  rcases Ws ha with ⟨i,t,rfl,rfl⟩ | ⟨x,t,rfl,rfl⟩
  ·rcases Ws hb with ⟨j,u,rfl,e⟩ | ⟨y,u,rfl,e⟩
   ·injection e with e1 _; rw [e1]
   ·exact nomatch e
  ·rcases Ws hb with ⟨j,u,rfl,e⟩ | ⟨y,u,rfl,e⟩
   ·exact nomatch e
   ·injection e with e1 _; rw [e1]
 byValue:=fun k v h=>by
  rcases Ws h with ⟨i,t,rfl,rfl⟩ | ⟨x,t,rfl,rfl⟩ <;> rfl
 pyHash:=fun hv h=>by
  rcases Ws hv with ⟨i,t,rfl,rfl⟩ | ⟨x,t,rfl,rfl⟩
  ·exact wpAny_pyHash_int h
  ·exact wpAny_pyHash_str h
 eqBool:=fun hu hv h=>by
  rcases Ws hu with ⟨i,t,rfl,rfl⟩ | ⟨x,t,rfl,rfl⟩
  ·rcases Ws hv with ⟨j,u,rfl,rfl⟩ | ⟨y,u,rfl,rfl⟩
   ·rw [Qsw] at h; exact wpAny_eqBool_int h
   ·rw [Qsv] at h; exact SeqAt.EqAt.int_str i t y u _ _ _ _ h
  ·rcases Ws hv with ⟨j,u,rfl,rfl⟩ | ⟨y,u,rfl,rfl⟩
   ·rw [Qsu] at h; exact SeqAt.EqAt.str_int x t j u _ _ _ _ h
   ·rw [Qst] at h; exact wpAny_eqBool_str h
 «strs»:=fun k x t v h=>by
  rcases Ws h with ⟨i,u,rfl,e⟩ | ⟨y,u,rfl,e⟩
  ·exact nomatch e
  ·injection e with e1 _
   subst e1;cases v <;> rfl
theorem Qcv (prog:aN) (w:aL) (i:Int) (t:Tok):(J4 prog w).is (.inl i) (.int i t)=true:=Qh9 i t
theorem Qcu (prog:aN) (w:aL) (x:Str) (t:Tok):(J4 prog w).is (.inr x) (.str x t)=true:=Qh8 x t
inductive V where
 | non | bl (b:Bool) | int (i:Int) | str (x:Str) | byt (b:Array UInt8) | flt (b:UInt64) | ref (a:aA) | ty (n:String)
 deriving DecidableEq
def RelV:V->aB->Prop
 | .non,u=>u=bb
 | .bl b,u=>u=cB b
 | .int i,u=>∃ t,u=cX i t
 | .str x,u=>∃ t,u=cu x t
 | .byt b,u=>∃ t,u=fJ b t
 | .flt b,u=>∃ t,u=dm b t
 | .ref a,u=>u=bW a
 | .ty n,u=>u=dn n
abbrev Vals:List V->List aB->Prop:=ar RelV
theorem Vals.length {xs:List V} {us:List aB} (r:Vals xs us):xs.length=us.length:=Paired.length r
theorem Vals.get:∀ {xs:List V} {us:List aB} {i:Nat} {x:V},Vals xs us->xs[i]?=some x->∃ u,us[i]?=some u/\RelV x u
 | _,_,_,_,.nil,e=>by simp at e
 | _,_,0,_,.cons r _,e=>by simp at e; subst e; exact ⟨_,rfl,r⟩
 | _,_,i + 1,x,.cons _ t,e=>by
  obtain ⟨u,h1,h2⟩:=Vals.get (i:=i) (x:=x) t (by simpa using e);exact ⟨u,by simpa using h1,h2⟩
theorem Vals.set {x:V} {u:aB} (r:RelV x u):∀ {xs:List V} {us:List aB} (i:Nat),Vals xs us->Vals (xs.set i x) (us.set i u)
 | _,_,_,.nil=>.nil
 | _,_,0,.cons _ t=>.cons r t
 | _,_,i + 1,.cons q t=>.cons q (Vals.set r i t)
theorem Vals.append:∀ {xs ys:List V} {us j:List aB},Vals xs us->Vals ys j->Vals (xs ++ ys) (us ++ j)
 | _,_,_,_,.nil,s=>s
 | _,_,_,_,.cons r t,s=>.cons r (Vals.append t s)
theorem Vals.take:∀ {xs:List V} {us:List aB} (n:Nat),Vals xs us->Vals (xs.take n) (us.take n)
 | _,_,0,_=>.nil
 | _,_,_ + 1,.nil=>.nil
 | _,_,n + 1,.cons r t=>.cons r (Vals.take n t)
theorem Vals.drop:∀ {xs:List V} {us:List aB} (n:Nat),Vals xs us->Vals (xs.drop n) (us.drop n)
 | _,_,0,r=>r
 | _,_,_ + 1,.nil=>.nil
 | _,_,n + 1,.cons _ t=>Vals.drop n t
def RelO:Option V->Option aB->Prop
 | some v,some u=>RelV v u
 | none,none=>True
 | _,_=>False
def KV {κ:Type}:List (κ × V)->List (κ × aB)->Prop:=ar fun (p:κ × V) (q:κ × aB)=>p.1=q.1/\RelV p.2 q.2
def kV:Key->V
 | .inl i=>.int i
 | .inr x=>.str x
inductive HO where
 | lst (xs:List V)
 | tup (xs:List V)
 | dK (kvs:List (Key × V)) | dT (kvs:List (List Key × V))
 | set (S:Int->Bool) (n:Nat)
 | ins (C dx:aA) (fs:List (Str × V))
 | own (x:aA)
 | xd (fs:List (Str × V))
 | met (f x:aA)
 | rng (lo hi:Int)
 | frz (o:Obj) (u:HO)
 | tbl (ps:Array aB)
 | ext (φ:Heap->Prop)
abbrev Hp:=aA->Option HO
def upd (H:Hp) (a:aA) (o:HO):Hp:=fun b=>if b=a then some o else H b
theorem Jb {H:Hp} {a:aA} {o:HO}:upd H a o a=some o:=by unfold upd; rw [bJ rfl]
theorem Qh {H:Hp} {a b:aA} {o:HO} (h:b≠a):upd H a o b=H b:=by unfold upd; rw [bK h]
theorem Qk {H:Hp} {a b:aA} {o:HO} (h:H a=some o) (h':H b=none):a≠b:=by
 intro e; subst e; rw [h] at h'; cases h'
section
variable (P:aN) (w:aL)
def ObjOk (H:Hp) (h:Heap) (a:aA):HO->Prop
 | .lst xs=>xs.length<=sizeLine/\∃ (its:List aB) (n:Nat),Vals xs its/\h.get? a=some { cls:=.type "list",data:=.seq its.toArray n }
 | .tup xs=>xs.length<=sizeLine/\∃ its:List aB,Vals xs its/\IsTup h a its.toArray
 | .dK kvs=>kvs.length<=sizeLine/\(a == af)=false/\∃ vs,KV kvs vs/\h.DictOf (J4 P w) a vs
 | .dT kvs=>kvs.length<=sizeLine/\(a == af)=false/\∃ xs:List (List Key × aA × aB),
   ar (fun (p:List Key × V) (q:List Key × aA × aB)=>p.1=q.1/\H q.2.1=some (.tup (p.1.map kV))/\RelV p.2 q.2.2) kvs xs /\
   ∃ o es ep,h.get? a=some o/\o.ExactDict/\o.data=.dict es ep/\es.toList=xs.map (entryOfKey (tupleKind (J4 P w)))/\(xs.map (·.1)).Nodup
 | .set S n=>h.SetOf (intKind P w) a S n
 | .ins C dx fs=>H dx=some (.own a)/\fs.length<=1000/\dx≠a/\h.get? a=some (cC C dx) /\
   ∃ mA,h.Ns1 dx mA/\(∀ f,RelO (fs.lookup f) (mA f))/\dq mA (fs.map (·.1))
 | .own _=>∃ o,h.get? a=some o
 | .xd fs=>∃ mA,h.Ns1 a mA/\∀ f,RelO (fs.lookup f) (mA f)
 | .rng lo hi=>∃ t u v,h.get? a=some { cls:=.type "range",data:=.fields #[.int lo t,.int hi u,.int 1 v] }
 | .frz o u=>h.get? a=some o/\ObjOk H h a u
 | .tbl ps=>h.get? a=some { cls:=.none,data:=.fields ps }
 | .met f x=>h.get? a=some (du (.ref f) (.ref x))
 | .ext φ=>φ h/\(∃ o,h.get? a=some o)/\∀ h1 h2:Heap,φ h1->(∀ o,h1.get? a=some o->h2.get? a=some o)->φ h2
def HOk (H:Hp) (h:Heap):Prop:=∀ a o,H a=some o->ObjOk P w H h a o
end
section
variable {P:aN} {w:aL} {H H':Hp} {h h':Heap} {a:aA} {o:HO}
theorem ObjOk.lt (x:ObjOk P w H h a o):a < h.objs.size:=by
 cases o with
 | lst xs=>obtain ⟨_,_,_,_,e⟩:=x; exact O9 e
 | tup xs=>obtain ⟨_,_,_,p⟩:=x; exact p.lt
 | dK kvs=>obtain ⟨_,_,_,_,o,_,_,e,_⟩:=x; exact O9 e
 | dT kvs=>obtain ⟨_,_,_,_,o,_,_,e,_⟩:=x; exact O9 e
 | set S n=>obtain ⟨o,_,_,_,e,_⟩:=x; exact O9 e
 | ins C dx fs=>obtain ⟨_,_,_,e,_⟩:=x; exact O9 e
 | own y=>obtain ⟨_,e⟩:=x; exact O9 e
 | xd fs=>obtain ⟨_,⟨_,_,_,e,_⟩,_⟩:=x; exact O9 e
 | rng lo hi=>obtain ⟨_,_,_,e⟩:=x; exact O9 e
 | frz ob u=>obtain ⟨e,_⟩:=x; exact O9 e
 | tbl ps=>exact O9 (show h.get? a=some _ from x)
 | met f y=>exact O9 (show h.get? a=some _ from x)
 | ext j=>obtain ⟨_,⟨_,e⟩,_⟩:=x; exact O9 e
theorem Paired.mapP {α β:Type} {F G:α->β->Prop}:∀ {q:List α} {j:List β},ar F q j->(∀ a b,F a b->G a b)->ar G q j
 | _,_,.nil,_=>.nil
 | _,_,.cons r t,f=>.cons (f _ _ r) (Paired.mapP t f)
theorem ObjOk.stay (x:ObjOk P w H h a o) (k:∀ b u,(b=a\/H b=some (.own a))->h.get? b=some u->h'.get? b=some u)
  (I:∀ b,H b=some (.own a)->H' b=some (.own a)) (J:∀ b xs,H b=some (.tup xs)->H' b=some (.tup xs)):ObjOk P w H' h' a o:=by
 induction o with
 | lst xs=>obtain ⟨z,its,n,r,e⟩:=x; exact ⟨z,its,n,r,k _ _ (.inl rfl) e⟩
 | tup xs=>obtain ⟨z,its,r,ob,e,c⟩:=x; exact ⟨z,its,r,ob,k _ _ (.inl rfl) e,c⟩
 | dK kvs=>obtain ⟨z,y,vs,r,ob,es,j,e,c⟩:=x; exact ⟨z,y,vs,r,ob,es,j,k _ _ (.inl rfl) e,c⟩
 | dT kvs=>
  obtain ⟨z,y,xs,r,ob,es,j,e,c⟩:=x;exact ⟨z,y,xs,Paired.mapP r fun p q z=>⟨z.1,J _ _ z.2.1,z.2.2⟩,ob,es,j,k _ _ (.inl rfl) e,c⟩
 | set S n=>obtain ⟨ob,es,j,t,e,c⟩:=x; exact ⟨ob,es,j,t,k _ _ (.inl rfl) e,c⟩
 | ins C dx fs=>
  obtain ⟨d,z,ne,e,mA,⟨B,es,j,e2,c⟩,r⟩:=x;exact ⟨I _ d,z,ne,k _ _ (.inl rfl) e,mA,⟨B,es,j,k _ _ (.inr d) e2,c⟩,r⟩
 | own y=>obtain ⟨ob,e⟩:=x; exact ⟨ob,k _ _ (.inl rfl) e⟩
 | xd fs=>obtain ⟨mA,⟨B,es,j,e,c⟩,r⟩:=x; exact ⟨mA,⟨B,es,j,k _ _ (.inl rfl) e,c⟩,r⟩
 | rng lo hi=>obtain ⟨t,u,v,e⟩:=x; exact ⟨t,u,v,k _ _ (.inl rfl) e⟩
 | frz ob u G=>obtain ⟨e,q⟩:=x; exact ⟨k _ _ (.inl rfl) e,G q⟩
 | tbl ps=>
  have e:h.get? a=some { cls:=.none,data:=.fields ps }:=x;show h'.get? a=some { cls:=.none,data:=.fields ps };exact k a _ (.inl rfl) e
 | met f y=>
  have e:h.get? a=some (du (.ref f) (.ref y)):=x;show h'.get? a=some (du (.ref f) (.ref y));exact k a _ (.inl rfl) e
 | ext O=>obtain ⟨p,⟨o,e⟩,st⟩:=x; exact ⟨st _ _ p fun o q=>k _ _ (.inl rfl) q,⟨o,k _ _ (.inl rfl) e⟩,st⟩
theorem HOk.lt (x:HOk P w H h) (e:H a=some o):a < h.objs.size:=(x a o e).lt
theorem HOk.fresh (x:HOk P w H h) (e:h.objs.size<=a):H a=none:=by
 cases q:H a with
 | none=>rfl
 | some u=>exact absurd (D3 (x.lt q) e) (bo _)
theorem HOk.kept (x:HOk P w H h) (k:∀ b u,h.get? b=some u->h'.get? b=some u):HOk P w H h':=fun a o e=>
 (x a o e).stay (fun b u _ q=>k b u q) (fun _ q=>q) fun _ _ q=>q
theorem HOk.laid (x:HOk P w H h) (k:∀ b u,h.get? b=some u->h'.get? b=some u) (hp:h.objs.size<=a) (new:ObjOk P w (upd H a o) h' a o):HOk P w (upd H a o) h':=fun b u e=>by
 have z:=x.fresh hp
 by_cases j:b=a
 ·subst j; rw [Jb] at e; cases e; exact new
 ·rw [Qh j] at e;exact (x b u e).stay (fun c v _ q=>k c v q) (fun c q=>by rw [Qh (Qk q z)]; exact q) fun c xs q=>by rw [Qh (Qk q z)]; exact q
end
def Rd (H:Hp) (a:aA) (u:HO):Prop:=H a=some u\/∃ o,H a=some (.frz o u)
theorem Rd.ok {P:aN} {w:aL} {H:Hp} {h:Heap} {a:aA} {u:HO} (r:Rd H a u) (x:HOk P w H h):ObjOk P w H h a u:=by
 rcases r with r | ⟨o,r⟩
 ·exact x a u r
 ·obtain ⟨_,q⟩:=x a _ r;exact q
def Mut:Option HO->Prop
 | some (.lst _)=>True
 | some (.dK _)=>True
 | some (.dT _)=>True
 | some (.set _ _)=>True
 | some (.ins _ _ _)=>True
 | some (.ext _)=>True
 | _=>False
section
variable {P:aN} {w:aL} {H:Hp} {h h':Heap} {x e:aA} {o':HO}
theorem HOk.write (ok:HOk P w H h) (O:Mut (H x)) (Y:e=x\/H e=some (.own x)) (k:∀ b u,b≠e->h.get? b=some u->h'.get? b=some u) (U:∃ u,h'.get? e=some u)
  (new:ObjOk P w (upd H x o') h' x o'):HOk P w (upd H x o') h':=fun b u q=>by
 have B:∀ c y,H c=some (.own y)->c≠x:=fun c y r z=>by subst z; rw [r] at O; exact O
 have G:∀ c xs,H c=some (.tup xs)->c≠x:=fun c xs r z=>by subst z; rw [r] at O; exact O
 by_cases J:b=x
 ·subst J; rw [Jb] at q; cases q; exact new
 ·rw [Qh J] at q
  by_cases j:b=e
  ·have Z:H b=some (.own x):=by
    rcases Y with z | z
    ·exact absurd (j.trans z) J
    ·rw [j]; exact z
   rw [q] at Z; cases Z;obtain ⟨v,hv⟩:=U;exact ⟨v,by rw [j]; exact hv⟩
  ·refine (ok b u q).stay (fun c v I r=>k c v ?_ r) (fun c r=>by rw [Qh (B c b r)]; exact r) fun c xs r=>by rw [Qh (G c xs r)]; exact r
   rcases I with rfl | I
   ·exact j
   ·rintro rfl;rcases Y with z | z
    ·exact B c b I z
    ·rw [I] at z; cases z; exact J rfl
end
structure Un (fs ex:List aA) (H H':Hp) (h h':Heap):Prop where
 keep:∀ b o,h.get? b=some o->H b=none->b∉fs->b∉ex->h'.get? b=some o
 slot:∀ b o,h.get? b=some o->H b=none->b∈fs->b∉ex->∃ sl,h'.get? b=some { o with slots:=sl }
 free:∀ b o,h.get? b=some o->H b=none->b∉ex->H' b=none
 there:∀ b o,h.get? b=some o->b∉ex->∃ o',h'.get? b=some o'
 tups:∀ b xs,H b=some (.tup xs)->H' b=some (.tup xs)
 frzs:∀ b o u,H b=some (.frz o u)->H' b=some (.frz o u)
 tbls:∀ b ps,H b=some (.tbl ps)->∃ more,H' b=some (.tbl (ps ++ more))
section
variable {fs fs' ex ex':List aA} {H H1 H2:Hp} {h h1 h2 h':Heap} {a x e:aA} {o:HO}
theorem Un.any (u:Un fs ex H H1 h h1) {b:aA} {ob:Obj} (q:h.get? b=some ob) (n:H b=none) (z:b∉ex):∃ B,h1.get? b=some { ob with slots:=B }:=by
 by_cases j:b∈fs
 ·exact u.slot b ob q n j z
 ·exact ⟨ob.slots,u.keep b ob q n j z⟩
theorem Un.kept (k:∀ b u,h.get? b=some u->h'.get? b=some u):Un fs ex H H h h':=
 ⟨fun b ob q _ _ _=>k b ob q,fun b ob q _ _ _=>⟨ob.slots,k b ob q⟩,fun _ _ _ n _=>n,fun b ob q _=>⟨ob,k b ob q⟩,fun _ _ q=>q,fun _ _ _ q=>q,fun _ ps q=>⟨#[],by rw [q]; simp⟩⟩
theorem Un.refl:Un fs ex H H h h:=Un.kept fun _ _ q=>q
theorem Un.laid (k:∀ b u,h.get? b=some u->h'.get? b=some u) (hp:h.objs.size<=a) (j:H a=none):Un fs ex H (upd H a o) h h' where
 keep:=fun b u q _ _ _=>k b u q
 slot:=fun b u q _ _ _=>⟨u.slots,k b u q⟩
 free:=fun b u q n _=>by rw [Qh (F0 (D3 (O9 q) hp))]; exact n
 there:=fun b u q _=>⟨u,k b u q⟩
 tups:=fun b xs q=>by rw [Qh (Qk q j)]; exact q
 frzs:=fun b u xs q=>by rw [Qh (Qk q j)]; exact q
 tbls:=fun b ps q=>⟨#[],by rw [Qh (Qk q j),q]; simp⟩
theorem Un.write (B:Mut (H x)) (U:e=x\/H e=some (.own x)) (k:∀ b u,b≠e->h.get? b=some u->h'.get? b=some u) (G:∃ u,h'.get? e=some u):Un fs ex H (upd H x o) h h':=by
 have J:∀ b,H b=none->b≠x:=fun b n z=>by subst z; rw [n] at B; exact B
 have O:∀ b,H b=none->b≠e:=fun b n z=>by
  subst z;rcases U with r | r
  ·exact J b n r
  ·rw [n] at r; cases r
 have I:∀ b u,H b=some u->¬ Mut (some u)->b≠x:=fun b u q nm z=>by subst z; rw [q] at B; exact nm B
 refine ⟨fun b u q n _ _=>k b u (O b n) q,fun b u q n _ _=>⟨u.slots,k b u (O b n) q⟩,fun b u q n _=>by rw [Qh (J b n)]; exact n,fun b u q _=>?_,
  fun b xs q=>by rw [Qh (I b _ q fun z=>z)]; exact q,fun b u xs q=>by rw [Qh (I b _ q fun z=>z)]; exact q,fun b ps q=>⟨#[],by rw [Qh (I b _ q fun z=>z),q]; simp⟩⟩
 by_cases j:b=e
 ·subst j; exact G
 ·exact ⟨u,k b u j q⟩
end
def trk (h:Heap) (H:Hp):List aA:=(bV h.objs.size).filter fun a=>(H a).isSome
def Qbf (h:Heap) (H:Hp):Heap:=dF h (trk h H)
theorem Qhg (h:Heap) (H:Hp):(Qbf h H).objs.size=h.objs.size:=PySem.W.hideAll_size _ _
theorem Qk5 {h:Heap} {H:Hp} {b:aA} {o:Obj} (e:h.get? b=some o) (n:H b=none):(Qbf h H).get? b=some o:=
 dG _ e fun j=>by
  have q:(H b).isSome=true:=(cD.mp j).2;rw [n] at q; simp at q
theorem Qp0 {h:Heap} {H:Hp} {b:aA} {o:Obj} (e:(Qbf h H).get? b=some o):h.get? b=some o/\H b=none:=by
 have j:h.get? b=some o:=fK (trk h H) e;refine ⟨j,?_⟩;cases q:H b with
 | none=>rfl
 | some x=>
  have B:b∈trk h H:=cD.mpr ⟨E7.mpr (O9 j),by simp [q]⟩;have z:(Qbf h H).get? b=none:=fL (trk h H) B;rw [z] at e; cases e
def Qq8 (g h:Heap) (L:aA):List (aA × Obj):=(bV h.objs.size).filterMap fun a=>if a=L\/(g.get? a).isSome=true then none else (h.get? a).map fun o=>(a,o)
def rest (g h:Heap) (L d:aA):List (aA × Obj):=(Qq8 g h L).filter fun p=>decide (p.1≠d)
structure Mod (K:bP) (mg:Str->Option aB) (base:Heap):Prop where
 kin:K.In base
 glob:base.Ns aQ mg
 blt:∃ mb,base.Ns builtinsNs mb/\∀ x:Str,x≠"__name__" -> mb x=aZ x
 nolimit:base.NoLimit
structure Cx where
 prog:aN
 w:aL
 K:bP
 mg:Str->Option aB
 base:Heap
 A:aR
 N:List Str
 s₀:aC
 H₀:Hp
 env:Env
 outer:List Env
 stack:List Env
 ex:List aA
 fn:Str->Bool
 calm:Bool
 pn:List (aA × Obj)
 xe:aB->aC->Prop
def frs (l:List Env):List aA:=l.filterMap (·.frame)
abbrev Cx.fs (X:Cx):List aA:=frs X.outer
def Vis (sc:Scope) (x:Str):Prop:=sc.names.lookup x=some .local\/sc.names.lookup x=some .cell\/sc.names.lookup x=some .free
def Loc (sc:Scope) (x:Str):Prop:=sc.names.lookup x=some .local\/sc.names.lookup x=some .cell
def Qwb (env:Env) (h:Heap) (m:Str->Option aB) (x:Str) (u:aB):Prop:=
 (env.kindOf x=some .local/\m x=some u)\/((env.kindOf x=some .cell\/env.kindOf x=some .free)/\∃ c,env.cells.lookup x=some c/\h.IsCell c (some u))
structure Cx.Ok (X:Cx):Prop where
 mod:Mod X.K X.mg X.base
 kind:X.env.scope.kind=.function
 glob:X.env.globals=aQ
 blt:X.env.builtins=builtinsNs
 above:X.s₀.heap.objs.size<=X.env.locals
 inj:∀ x y c,X.env.cells.lookup x=some c->X.env.cells.lookup y=some c->x=y
 has:∀ x,(X.env.kindOf x=some .cell\/X.env.kindOf x=some .free)->∃ c,X.env.cells.lookup x=some c
 cab:∀ x c,X.fn x=true->X.env.cells.lookup x=some c->X.s₀.heap.objs.size<=c
 hd:X.calm=true->X.A.handled=none
 frames:X.A.frames=some X.stack
 stk:X.stack=X.outer\/(X.stack=X.env :: X.outer/\X.env.frame=some X.env.locals)
 exf:∀ b∈X.ex,b≠X.env.locals/\∀ x c,X.env.cells.lookup x=some c->c≠b
 bs:∀ b o,X.base.get? b=some o->X.s₀.heap.get? b=some o/\X.H₀ b=none
 bsz:X.base.objs.size<=X.s₀.heap.objs.size
 noex:∀ b o,X.base.get? b=some o->b∉X.ex
 exfs:∀ b∈X.ex,b∉X.fs
 funs:X.s₀.heap.FunFrames X.base X.outer
 frf:∀ b∈X.fs,X.H₀ b=none
structure Inv (X:Cx) (pins:List (aA × Obj)) (σ:List (Option V)) (H:Hp) (s:aC):Prop where
 ok:X.Ok
 os:s.os=X.s₀.os
 bare:AllBare s.gens
 base:Un X.fs X.ex X.H₀ H X.s₀.heap s.heap
 loc:∃ m,s.heap.Ns X.env.locals m/\∀ (i:Nat) (x:Str) (v:V),X.N[i]?=some x->σ[i]?=some (some v)->Vis X.env.scope x->∃ u,RelV v u/\Qwb X.env s.heap m x u
 cell:∀ x c,X.env.cells.lookup x=some c->∃ v,s.heap.IsCell c v
 free:H X.env.locals=none
 freeC:∀ x c,X.env.cells.lookup x=some c->H c=none
 pin:∀ p∈X.pn ++ pins,s.heap.get? p.1=some p.2/\H p.1=none/\p.1≠X.env.locals/\p.1∉X.fs/\∀ v,p.2.data≠.cell v
 hok:HOk X.prog X.w H s.heap
 len:σ.length=X.N.length
section
variable {X:Cx} {pins:List (aA × Obj)} {σ:List (Option V)} {H H':Hp} {s:aC} {h':Heap}
theorem Cx.Ok.nofr (ok:X.Ok) {b:aA} {o:Obj} (e:X.base.get? b=some o):b∉X.fs:=fun j=>by
 have:=(ok.funs.mem j).1;rw [e] at this; cases this
theorem Inv.bs (I:Inv X pins σ H s):∀ b o,X.base.get? b=some o->s.heap.get? b=some o/\H b=none:=fun b o e=>
 ⟨I.base.keep b o (I.ok.bs b o e).1 (I.ok.bs b o e).2 (I.ok.nofr e) (I.ok.noex b o e),I.base.free b o (I.ok.bs b o e).1 (I.ok.bs b o e).2 (I.ok.noex b o e)⟩
theorem Inv.bk (I:Inv X pins σ H s):∀ b o,X.base.get? b=some o->s.heap.get? b=some o:=fun b o e=>(I.bs b o e).1
theorem Inv.mod (I:Inv X pins σ H s):Mod X.K X.mg X.base:=I.ok.mod
theorem Inv.kIn (I:Inv X pins σ H s):X.K.In s.heap:=I.ok.mod.kin.keeps I.bk
theorem Inv.lt (I:Inv X pins σ H s):X.env.locals < s.heap.objs.size:=let ⟨_,j,_⟩:=I.loc; j.lt
theorem Inv.sz (I:Inv X pins σ H s):X.s₀.heap.objs.size<=s.heap.objs.size:=F1 I.ok.above (E8 I.lt)
theorem Inv.nofs (I:Inv X pins σ H s) {a:aA} (h:s.heap.objs.size<=a):a∉X.fs:=fun j=>by
 obtain ⟨_,o,q,_⟩:=I.ok.funs.mem j;exact absurd (D3 (O9 q) (F1 I.sz h)) (bo _)
theorem Inv.cne (I:Inv X pins σ H s):∀ x c,X.env.cells.lookup x=some c->c≠X.env.locals:=fun x c e z=>by
 obtain ⟨v,o,B,hd⟩:=I.cell x c e;obtain ⟨m,⟨o',es,G,q,j,_⟩,_⟩:=I.loc;rw [z,q] at B; cases B; rw [j] at hd; cases hd
theorem Inv.funs (I:Inv X pins σ H s):s.heap.FunFrames X.base X.outer:=by
 have all:∀ (l:List Env),(∀ b∈frs l,b∈X.fs)->X.s₀.heap.FunFrames X.base l->s.heap.FunFrames X.base l:=by
  intro l
  induction l with
  | nil=>intro _ _; trivial
  | cons env r J=>
   intro hs G;obtain ⟨U,⟨L,o,q,O,Y,hd⟩,hr⟩:=G;have B:L∈X.fs:=hs L (by unfold frs; rw [dH,q]; exact D4);obtain ⟨Z,e⟩:=I.base.slot L o Y (I.ok.frf L B) B fun z=>I.ok.exfs L z B
   exact ⟨U,⟨L,_,q,O,e,hd⟩,J (fun b j=>hs b (by unfold frs; rw [dH,q]; exact D0 _ j)) hr⟩
 exact all X.outer (fun _ j=>j) I.ok.funs
theorem Inv.stack (I:Inv X pins σ H s):s.heap.FunFrames X.base X.stack:=by
 rcases I.ok.stk with e | ⟨e,j⟩
 ·rw [e]; exact I.funs
 ·rw [e];obtain ⟨m,q,_⟩:=I.loc;refine .cons (by rw [I.ok.kind]; decide) j q ?_ I.funs;exact Heap.get?_none_of_le (F1 I.ok.bsz I.ok.above)
theorem Inv.stkSub (I:Inv X pins σ H s):∀ b∈frs X.stack,b∈X.env.locals :: X.fs:=fun b j=>by
 rcases I.ok.stk with e | ⟨e,q⟩
 ·rw [e] at j; exact D0 _ j
 ·rw [e] at j;unfold frs at j;rw [dH,q] at j;exact j
theorem Inv.stkFree (I:Inv X pins σ H s):∀ b∈frs X.stack,H b=none:=fun b j=>by
 rcases E3.mp (I.stkSub b j) with e | j
 ·rw [e]; exact I.free
 ·obtain ⟨_,o,q,_⟩:=I.ok.funs.mem j;exact I.base.free b o q (I.ok.frf b j) fun z=>I.ok.exfs b z j
theorem Inv.step {g':Array GenState} {t':Nat} {d':Drawn} {ch:List aA} (I:Inv X pins σ H s)
  (B:∀ b∈ch,(b∈X.ex\/X.s₀.heap.objs.size<=b)/\b≠X.env.locals/\(∀ x c,X.env.cells.lookup x=some c->c≠b)/\∀ p∈X.pn ++ pins,p.1≠b)
  (keep:∀ b o,b≠X.env.locals->b∉X.fs->b∉ch->s.heap.get? b=some o->H b=none->h'.get? b=some o)
  (slot:∀ b o,b≠X.env.locals->b∈X.fs->b∉ch->s.heap.get? b=some o->H b=none->∃ sl,h'.get? b=some { o with slots:=sl }) (free:∀ b o,b∉ch->s.heap.get? b=some o->H b=none->H' b=none)
  (there:∀ b o,b∉ch->s.heap.get? b=some o->∃ o',h'.get? b=some o')
  (tups:∀ b xs,H b=some (.tup xs)->H' b=some (.tup xs)) (frzs:∀ b o u,H b=some (.frz o u)->H' b=some (.frz o u)) (tbls:∀ b ps,H b=some (.tbl ps)->∃ more,H' b=some (.tbl (ps ++ more)))
  (ns:∀ m,s.heap.Ns X.env.locals m->h'.Ns X.env.locals m) (hok:HOk X.prog X.w H' h') (hg:AllBare g') :
  Inv X pins σ H' { s with heap:=h',gens:=g',drawn:=d',toks:=t' }:=by
 have Z:∀ b o,X.s₀.heap.get? b=some o->b≠X.env.locals:=fun b o e=>F0 (D3 (O9 e) I.ok.above)
 have O:∀ b o,X.s₀.heap.get? b=some o->b∉X.ex->b∉ch:=fun b o e j U=>by
  rcases (B b U).1 with z | z
  ·exact j z
  ·exact absurd (D3 (O9 e) z) (bo _)
 have J:∀ x c,X.env.cells.lookup x=some c->∀ v,s.heap.IsCell c v->h'.IsCell c v:=fun x c e v ⟨o,Y,hd⟩=>by
  have G:c∉ch:=fun z=>(B c z).2.2.1 x c e rfl
  by_cases hc:c∈X.fs
  ·obtain ⟨sl,q⟩:=slot c o (I.cne x c e) hc G Y (I.freeC x c e);exact ⟨_,q,hd⟩
  ·exact ⟨o,keep c o (I.cne x c e) hc G Y (I.freeC x c e),hd⟩
 refine ⟨I.ok,I.os,hg,⟨fun b o e n U j=>?_,fun b o e n U j=>?_,fun b o e n j=>?_,fun b o e j=>?_,fun b xs e=>tups b xs (I.base.tups b xs e),fun b o xs e=>frzs b o xs (I.base.frzs b o xs e),fun b ps e=>?_⟩,?_,fun x c e=>?_,?_,fun x c e=>?_,fun p hp=>?_,hok,I.len⟩
 ·exact keep b o (Z b o e) U (O b o e j) (I.base.keep b o e n U j) (I.base.free b o e n j)
 ·obtain ⟨sl,e1⟩:=I.base.slot b o e n U j;obtain ⟨a2,e2⟩:=slot b _ (Z b o e) U (O b o e j) e1 (I.base.free b o e n j);exact ⟨a2,e2⟩
 ·obtain ⟨o',e1⟩:=I.base.there b o e j;exact free b o' (O b o e j) e1 (I.base.free b o e n j)
 ·obtain ⟨o',e1⟩:=I.base.there b o e j;exact there b o' (O b o e j) e1
 ·obtain ⟨m1,e1⟩:=I.base.tbls b ps e;obtain ⟨m2,e2⟩:=tbls b _ e1;exact ⟨m1 ++ m2,by rw [e2,fM]⟩
 ·obtain ⟨m,hn,hl⟩:=I.loc;refine ⟨m,ns m hn,fun i x v e1 e2 e3=>?_⟩;obtain ⟨u,r,l⟩:=hl i x v e1 e2 e3;refine ⟨u,r,?_⟩;rcases l with l | ⟨k,c,e,z⟩
  ·exact .inl l
  ·exact .inr ⟨k,c,e,J x c e _ z⟩
 ·obtain ⟨v,z⟩:=I.cell x c e;exact ⟨v,J x c e v z⟩
 ·obtain ⟨m,⟨o,_,_,Y,_⟩,_⟩:=I.loc;exact free _ o (fun z=>(B _ z).2.1 rfl) Y I.free
 ·obtain ⟨v,o,Y,hd⟩:=I.cell x c e;exact free c o (fun z=>(B c z).2.2.1 x c e rfl) Y (I.freeC x c e)
 ·obtain ⟨e,n,ne,nf,d⟩:=I.pin p hp;have G:p.1∉ch:=fun z=>(B p.1 z).2.2.2 p hp rfl
  exact ⟨keep p.1 p.2 ne nf G e n,free p.1 p.2 G e n,ne,nf,d⟩
theorem Inv.un {t':Nat} (I:Inv X pins σ H s) (u:Un X.fs [] H H' s.heap h') (hok:HOk X.prog X.w H' h'):Inv X pins σ H' { s with heap:=h',toks:=t' }:=by
 obtain ⟨m,⟨o,es,ep,J,r⟩,_⟩:=id I.loc;obtain ⟨sl,Y⟩:=u.any J I.free (by simp);exact I.step (g':=s.gens) (d':=s.drawn) (ch:=[]) (fun _ z=>nomatch z) (fun b o _ q _ e n=>u.keep b o e n q (by simp)) (fun b o _ q _ e n=>u.slot b o e n q (by simp)) (fun b o _ e n=>u.free b o e n (by simp)) (fun b o _ e=>u.there b o e (by simp)) u.tups u.frzs u.tbls (fun Z O=>by
  obtain ⟨o',G,B,j,U⟩:=O;rw [J] at j; cases j;exact ⟨_,G,B,Y,U⟩) hok I.bare
theorem Inv.call {g':Array GenState} {t':Nat} {d':Drawn} {ch:List aA} (I:Inv X pins σ H s) (u:Un (frs X.stack) ch H H' s.heap h') (hok:HOk X.prog X.w H' h') (Y:AllBare g')
  (q:∀ b∈ch,(b∈X.ex\/X.s₀.heap.objs.size<=b)/\b≠X.env.locals/\(∀ x c,X.env.cells.lookup x=some c->c≠b)/\∀ p∈X.pn ++ pins,p.1≠b) :
  Inv X pins σ H' { s with heap:=h',gens:=g',drawn:=d',toks:=t' }:=by
 obtain ⟨m,⟨o,es,ep,U,r⟩,_⟩:=id I.loc;obtain ⟨sl,O⟩:=u.any U I.free fun z=>(q _ z).2.1 rfl
 exact I.step (ch:=ch) q (fun b o O hb j e n=>u.keep b o e n (fun z=>(E3.mp (I.stkSub b z)).elim O hb) j) (fun b o _ _ j e n=>u.any e n j) (fun b o j e n=>u.free b o e n j) (fun b o j e=>u.there b o e j) u.tups u.frzs u.tbls (fun m' hm=>by
  obtain ⟨o',J,G,B,Z⟩:=hm;rw [U] at B; cases B;exact ⟨_,J,G,O,Z⟩) hok Y
theorem Inv.turned {t':Nat} {j:aA} (I:Inv X pins σ H s) (k:∀ b o,b≠j->s.heap.get? b=some o->h'.get? b=some o) (hn:H j=none) (J:j≠X.env.locals)
  (h1:j∈X.ex\/X.s₀.heap.objs.size<=j) (h2:∀ x c,X.env.cells.lookup x=some c->c≠j) (U:∀ p∈X.pn ++ pins,p.1≠j):Inv X pins σ H { s with heap:=h',toks:=t' }:=by
 have G:∀ b u,H b=some u->b≠j:=fun b u e z=>by rw [z,hn] at e; cases e
 refine I.step (g':=s.gens) (d':=s.drawn) (ch:=[j]) (fun b Y=>?_) (fun b o _ _ B e _=>k b o (fun z=>B (by simp [z])) e) (fun b o _ _ B e _=>⟨o.slots,k b o (fun z=>B (by simp [z])) e⟩) (fun _ _ _ _ n=>n)
  (fun b o B e=>⟨o,k b o (fun z=>B (by simp [z])) e⟩) (fun _ _ e=>e) (fun _ _ _ e=>e) (fun b ps e=>⟨#[],by rw [e]; simp⟩) (fun m O=>?_) (fun b u e=>?_) I.bare
 ·have e:b=j:=by simpa using Y
  subst e;exact ⟨h1,J,h2,U⟩
 ·obtain ⟨o,es,Z,ho,r⟩:=O;exact ⟨o,es,Z,k _ o (Ne.symm J) ho,r⟩
 ·refine (I.hok b u e).stay (fun c v B q=>k c v ?_ q) (fun _ q=>q) fun _ _ q=>q
  rcases B with z | z
  ·rw [z]; exact G b u e
  ·exact G c _ z
theorem Inv.tok (I:Inv X pins σ H s) (t:Nat):Inv X pins σ H { s with toks:=t }:=I.un (h':=s.heap) (t':=t) Un.refl I.hok
theorem Inv.kept {t':Nat} (I:Inv X pins σ H s) (k:∀ b u,s.heap.get? b=some u->h'.get? b=some u):Inv X pins σ H { s with heap:=h',toks:=t' }:=I.un (Un.kept k) (I.hok.kept k)
theorem Inv.laid {a:aA} {o:HO} {t':Nat} (I:Inv X pins σ H s) (k:∀ b u,s.heap.get? b=some u->h'.get? b=some u) (hp:s.heap.objs.size<=a) (new:ObjOk X.prog X.w (upd H a o) h' a o) :
  Inv X pins σ (upd H a o) { s with heap:=h',toks:=t' }:=I.un (Un.laid k hp (I.hok.fresh hp)) (I.hok.laid k hp new)
theorem Inv.write {x e:aA} {o:HO} {t':Nat} (I:Inv X pins σ H s) (q:Mut (H x)) (z:e=x\/H e=some (.own x)) (k:∀ b u,b≠e->s.heap.get? b=some u->h'.get? b=some u) (j:∃ u,h'.get? e=some u)
  (new:ObjOk X.prog X.w (upd H x o) h' x o):Inv X pins σ (upd H x o) { s with heap:=h',toks:=t' }:=I.un (Un.write q z k j) (I.hok.write q z k j new)
theorem Inv.pins_of {j:List (aA × Obj)} (I:Inv X pins σ H s) (h:∀ p∈j,s.heap.get? p.1=some p.2/\H p.1=none/\p.1≠X.env.locals/\p.1∉X.fs/\∀ v,p.2.data≠.cell v):Inv X j σ H s:=
 ⟨I.ok,I.os,I.bare,I.base,I.loc,I.cell,I.free,I.freeC,fun p hp=>(E9.mp hp).elim (fun z=>I.pin p (F5 _ z)) (h p),I.hok,I.len⟩
theorem Q7i {N:List Str} (q:N.Nodup) {i j:Nat} {x:Str} (a:N[i]?=some x) (b:N[j]?=some x):i=j:=by
 obtain ⟨h1,e1⟩:=O1.mp a;obtain ⟨h2,e2⟩:=O1.mp b;exact (List.getElem_inj q).mp (e1.trans e2.symm)
theorem Q9t {M:Model} {A:aR} {E:aB->aC->Prop} {i:Nat} {x:Str} {v:V} {u:aB} {Q:Unit->aC->Prop} (I:Inv X pins σ H s) (hN:X.N.Nodup) (hi:X.N[i]?=some x) (J:Loc X.env.scope x) (r:RelV v u)
  (h:∀ s',Inv X pins (σ.set i (some v)) H s'->(∃ a,Heap.SameBut a s.heap s'.heap/\(a=X.env.locals\/X.env.cells.lookup x=some a))->Q () s') (hf:X.fn x=true\/X.env.scope.names.lookup x=some .local:=by first | exact .inl rfl | exact .inr rfl | assumption):aI M A (storeName X.env x u) Q E s:=by
 obtain ⟨m,hn,hl⟩:=id I.loc;have a6:(X.env.scope.kind == .class || (X.env.scope.kind == .module && X.env.locals != X.env.globals))=false:=by rw [I.ok.kind]; rfl
 have Y:i < σ.length:=by rw [I.len]; exact (O1.mp hi).1
 have cne:=I.cne;have B:∀ {a:aA} {h':Heap},(∃ o,s.heap.get? a=some o/\H a=none)->Heap.SameBut a s.heap h'->HOk X.prog X.w H h':=fun {a h'} ha hs b ob e=>by
  obtain ⟨_,_,O⟩:=ha;refine (I.hok b ob e).stay (fun c w' G q=>(hs.2 c ?_).trans q) (fun _ q=>q) fun _ _ q=>q
  rintro rfl;rcases G with rfl | G
  ·rw [O] at e; cases e
  ·rw [O] at G; cases G
 rcases J with U | U
 ·refine wpAny_storeName_local U hn (fun h' a9 hs=>?_) a6;obtain ⟨oL,_,_,a8,_⟩:=id hn;refine h _ ⟨I.ok,I.os,I.bare,⟨fun b o e n hb J=>?_,fun b o e n hb J=>?_,I.base.free,fun b o e J=>?_,I.base.tups,I.base.frzs,I.base.tbls⟩,⟨_,a9,fun j y v' e1 e2 e3=>?_⟩,fun y c e=>?_,I.free,I.freeC,fun p hp=>?_,B ⟨oL,a8,I.free⟩ hs,by simpa using I.len⟩ ⟨_,hs,.inl rfl⟩
  ·exact (hs.2 b (F0 (D3 (O9 e) I.ok.above))).trans (I.base.keep b o e n hb J)
  ·obtain ⟨sl,e1⟩:=I.base.slot b o e n hb J;exact ⟨sl,(hs.2 b (F0 (D3 (O9 e) I.ok.above))).trans e1⟩
  ·obtain ⟨o',e1⟩:=I.base.there b o e J;exact ⟨o',(hs.2 b (F0 (D3 (O9 e) I.ok.above))).trans e1⟩
  ·by_cases Z:j=i
   ·subst Z;rw [hi] at e1; cases e1;rw [E2 Y] at e2;cases e2;exact ⟨u,r,.inl ⟨U,by simp⟩⟩
   ·rw [O5 (Ne.symm Z)] at e2;obtain ⟨u',r',q⟩:=hl j y v' e1 e2 e3;refine ⟨u',r',?_⟩;rcases q with ⟨k,e⟩ | ⟨k,c,e,z⟩
    ·refine .inl ⟨k,?_⟩;have:y≠x:=fun e=>Z (Q7i hN e1 (e ▸ hi))
     simp [this,e]
    ·exact .inr ⟨k,c,e,z.sameBut hs (cne y c e)⟩
  ·obtain ⟨w',z⟩:=I.cell y c e;exact ⟨w',z.sameBut hs (cne y c e)⟩
  ·obtain ⟨e,n,ne,nf,d⟩:=I.pin p hp;exact ⟨(hs.2 p.1 ne).trans e,n,ne,nf,d⟩
 ·have a2:X.fn x=true:=by
   rcases hf with z | z
   ·exact z
   ·rw [z] at U; cases U
  obtain ⟨c,G⟩:=I.ok.has x (.inl U);obtain ⟨w',z⟩:=I.cell x c G;refine wpAny_storeName_cell I.ok.kind U G z (fun h' a7 hs=>?_);obtain ⟨oc,a5,a3⟩:=id z;refine h { s with heap:=h' } ⟨I.ok,I.os,I.bare,⟨fun b o e n hb J=>?_,fun b o e n hb J=>?_,I.base.free,fun b o e J=>?_,I.base.tups,I.base.frzs,I.base.tbls⟩,⟨m,hn.sameBut hs (Ne.symm (cne x c G)),fun j y v' e1 e2 e3=>?_⟩,fun y c' e=>?_,I.free,I.freeC,fun p hp=>?_,B ⟨oc,a5,I.freeC x c G⟩ hs,by simpa using I.len⟩ ⟨c,hs,.inr G⟩
  ·exact (hs.2 b (F0 (D3 (O9 e) (I.ok.cab x c a2 G)))).trans (I.base.keep b o e n hb J)
  ·obtain ⟨sl,e1⟩:=I.base.slot b o e n hb J;exact ⟨sl,(hs.2 b (F0 (D3 (O9 e) (I.ok.cab x c a2 G)))).trans e1⟩
  ·obtain ⟨o',e1⟩:=I.base.there b o e J;exact ⟨o',(hs.2 b (F0 (D3 (O9 e) (I.ok.cab x c a2 G)))).trans e1⟩
  ·by_cases Z:j=i
   ·subst Z;rw [hi] at e1; cases e1;rw [E2 Y] at e2;cases e2;exact ⟨u,r,.inr ⟨.inl U,c,G,a7⟩⟩
   ·rw [O5 (Ne.symm Z)] at e2;obtain ⟨u',r',q⟩:=hl j y v' e1 e2 e3;refine ⟨u',r',?_⟩;rcases q with q | ⟨k,c',e,z'⟩
    ·exact .inl q
    ·refine .inr ⟨k,c',e,z'.sameBut hs ?_⟩;rintro rfl;exact Z (Q7i hN e1 (I.ok.inj _ _ _ e G ▸ hi))
  ·by_cases a4:c'=c
   ·subst a4; exact ⟨_,a7⟩
   ·obtain ⟨w2,z2⟩:=I.cell y c' e;exact ⟨w2,z2.sameBut hs a4⟩
  ·obtain ⟨e,n,ne,nf,d⟩:=I.pin p hp;refine ⟨(hs.2 p.1 ?_).trans e,n,ne,nf,d⟩;intro q;rw [q,a5] at e;have q':oc=p.2:=bc e;exact d w' (by rw [<- q']; exact a3)
theorem Q6t {M:Model} {A:aR} {E:aB->aC->Prop} {i:Nat} {x:Str} {v:V} {u:aB} {Q:Unit->aC->Prop} (I:Inv X pins σ H s) (q:X.N.Nodup) (hi:X.N[i]?=some x) (j:Loc X.env.scope x) (r:RelV v u)
  (h:∀ s',Inv X pins (σ.set i (some v)) H s'->Q () s') (B:X.fn x=true\/X.env.scope.names.lookup x=some .local:=by first | exact .inl rfl | exact .inr rfl | assumption):aI M A (storeName X.env x u) Q E s:=
 Q9t I q hi j r (fun s' z _=>h s' z) B
theorem Inv.call' {s':aC} {ch:List aA} (I:Inv X pins σ H s) (z:s'.os=s.os) (u:Un (frs X.stack) ch H H' s.heap s'.heap) (hok:HOk X.prog X.w H' s'.heap) (q:AllBare s'.gens)
  (j:∀ b∈ch,(b∈X.ex\/X.s₀.heap.objs.size<=b)/\b≠X.env.locals/\(∀ x c,X.env.cells.lookup x=some c->c≠b)/\∀ p∈X.pn ++ pins,p.1≠b):Inv X pins σ H' s':=by
 obtain ⟨h',g',d',t',o'⟩:=s';have e:o'=s.os:=z;subst e;exact I.call (g':=g') (t':=t') (d':=d') u hok q j
end
abbrev XK:=aB->Option aA->Hp->Prop
abbrev St:=List (Option V)
abbrev VK:=V->Hp->Prop
abbrev TE:=St->Hp->VK->Prop
abbrev TT:=St->Hp->(Bool->Hp->Prop)->Prop
abbrev TA:=St->Hp->(List V->Hp->Prop)->Prop
structure Ends where
 nx:St->Hp->Prop
 rt:VK
 bk:St->Hp->Prop:=fun _ _=>False
 ct:St->Hp->Prop:=fun _ _=>False
abbrev TS:=Ends->St->Hp->Prop
def EP (X:Cx) (pins:List (aA × Obj)) (σ:St) (Q:VK) (u:aB) (s':aC):Prop:=∃ v H',Inv X pins σ H' s'/\RelV v u/\Q v H'
def TP (X:Cx) (pins:List (aA × Obj)) (σ:St) (Q:Bool->Hp->Prop) (b:Bool) (s':aC):Prop:=∃ H',Inv X pins σ H' s'/\Q b H'
def AP (X:Cx) (pins:List (aA × Obj)) (σ:St) (Q:List V->Hp->Prop) (us:List aB) (s':aC):Prop:=∃ vs H',Inv X pins σ H' s'/\Vals vs us/\Q vs H'
def SP (X:Cx) (pins:List (aA × Obj)) (D:Ends) (f:Flow) (s':aC):Prop:=
 match f with
 | .next=>∃ σ' H',Inv X pins σ' H' s'/\D.nx σ' H'
 | .brk=>∃ σ' H',Inv X pins σ' H' s'/\D.bk σ' H'
 | .cont=>∃ σ' H',Inv X pins σ' H' s'/\D.ct σ' H'
 | .ret u=>∃ v σ' H',Inv X pins σ' H' s'/\RelV v u/\D.rt v H'
def PE (X:Cx) (e:aD) (t:TE):Prop:=
 ∀ (pins:List (aA × Obj)) (s:aC) (σ:St) (H:Hp) (Q:VK),Inv X pins σ H s->t σ H Q->aI (aJ X.prog X.w) X.A (aK e X.env) (EP X pins σ Q) X.xe s
def PT (X:Cx) (e:aD) (t:TT):Prop:=
 ∀ (pins:List (aA × Obj)) (s:aC) (σ:St) (H:Hp) (Q:Bool->Hp->Prop),Inv X pins σ H s->t σ H Q->aI (aJ X.prog X.w) X.A (isTrue e X.env (aK e X.env)) (TP X pins σ Q) X.xe s
def PW (X:Cx) (e:aD) (t:TT):Prop:=
 ∀ (whole:Sem aB) (pins:List (aA × Obj)) (s:aC) (σ:St) (H:Hp) (Q:Bool->Hp->Prop),Inv X pins σ H s->t σ H Q->aI (aJ X.prog X.w) X.A (isTrue e X.env whole) (TP X pins σ Q) X.xe s
def PA (X:Cx) (es:List aD) (t:TA):Prop:=
 ∀ (pos:Pos) (pins:List (aA × Obj)) (s:aC) (σ:St) (H:Hp) (Q:List V->Hp->Prop),Inv X pins σ H s->t σ H Q->aI (aJ X.prog X.w) X.A (spliced (aU pos (aO es X.env))) (AP X pins σ Q) X.xe s
def PS (X:Cx) (st:aM) (t:TS):Prop:=
 ∀ (pins:List (aA × Obj)) (s:aC) (σ:St) (H:Hp) (D:Ends),Inv X pins σ H s->t D σ H->aI (aJ X.prog X.w) X.A (exec st X.env) (SP X pins D) X.xe s
def PSs (X:Cx) (st:List aM) (t:TS):Prop:=
 ∀ (pins:List (aA × Obj)) (s:aC) (σ:St) (H:Hp) (D:Ends),Inv X pins σ H s->t D σ H->aI (aJ X.prog X.w) X.A (execs st X.env) (SP X pins D) X.xe s
theorem thn {α:Type} {t:Sem α} {Q j:α->aC->Prop} {M:Model} {A:aR} {E:aB->aC->Prop} {s:aC} (h:aI M A t Q E s) (q:∀ a s,Q a s->j a s):aI M A t j E s:=ac h q fun _ _ x=>x
section
variable {X:Cx}
def Qr5 (i:Nat):TE:=fun σ H Q=>∃ v,σ[i]?=some (some v)/\Q v H
def tC (v:V):TE:=fun _ H Q=>Q v H
theorem Qj9 {i:Nat} {x:Str} {pos:Pos} (O:X.N[i]?=some x) (Y:Vis X.env.scope x) (hd:(x == ("__debug__" : Str))=false:=by decide) (z:(x == ("__classdict__" : Str))=false:=by decide):PE X (.Name x pos) (Qr5 i):=by
 intro pins s σ H Q I h;obtain ⟨v,e,h⟩:=h;obtain ⟨m,U,G⟩:=I.loc;obtain ⟨u,r,l⟩:=G i x v O e Y;have fin:EP X pins σ Q u s:=⟨v,H,I,r,h⟩;rcases l with ⟨q,J⟩ | ⟨q,c,B,j⟩
 ·exact wpAny_Name (wpAny_loadName_local I.ok.kind q U J fin) hd
 ·rcases q with q | q
  ·exact wpAny_Name (wpAny_loadName_cell I.ok.kind q B j fin) hd
  ·exact wpAny_Name (wpAny_loadName_free I.ok.kind q B j fin z) hd
theorem Qry {i j pos}:PE X (.Constant (.int i) j pos) (tC (.int i)):=fun _ _ _ H _ I h=>wpAny_Constant_int ⟨.int i,H,I.tok _,⟨_,rfl⟩,h⟩
theorem Qux {b j pos}:PE X (.Constant (.bool b) j pos) (tC (.bl b)):=fun _ _ _ H _ I h=>Constant_bool ⟨.bl b,H,I,rfl,h⟩
theorem Q19 {x j pos}:PE X (.Constant (.str x) j pos) (tC (.str x)):=fun _ _ _ H _ I h=>Calls.Constant_str ⟨.str x,H,I.tok _,⟨_,rfl⟩,h⟩
def Gl (X:Cx) (x:Str):Prop:=X.env.kindOf x=some .globalImplicit
theorem jw {E:aB->aC->Prop} {pins:List (aA × Obj)} {s:aC} {σ:St} {H:Hp} {x:Str} {u:aB} {pos:Pos} {Q:aB->aC->Prop} (I:Inv X pins σ H s) (j:Gl X x) (q:X.mg x=some u) (h:Q u s)
  (hd:(x == ("__debug__" : Str))=false:=by decide):aI (aJ X.prog X.w) X.A (aK (.Name x pos) X.env) Q E s:=
 Calls.Name_function_global I.ok.kind j (Calls.loadGlobal_global (by rw [I.ok.glob]; exact I.mod.glob.keeps I.bk) q h) hd
theorem Q53 {E:aB->aC->Prop} {pins:List (aA × Obj)} {s:aC} {σ:St} {H:Hp} {x:Str} {u:aB} {pos:Pos} {Q:aB->aC->Prop} (I:Inv X pins σ H s) (q:Gl X x) (j:X.mg x=none) (B:aZ x=some u) (h:Q u s)
  (z:x≠"__name__" := by decide) (hd:(x == ("__debug__" : Str))=false:=by decide):aI (aJ X.prog X.w) X.A (aK (.Name x pos) X.env) Q E s:=by
 obtain ⟨mb,h1,h2⟩:=I.mod.blt;exact Calls.Name_function_global I.ok.kind q (Calls.loadGlobal_builtin (by rw [I.ok.glob]; exact I.mod.glob.keeps I.bk) j (by rw [I.ok.blt]; exact h1.keeps I.bk) ((h2 x z).trans B) h) hd
theorem Qnm {x:Str} {v:V} {u:aB} {pos:Pos} (j:Gl X x) (q:X.mg x=some u) (r:RelV v u) (hd:(x == ("__debug__" : Str))=false:=by decide):PE X (.Name x pos) (tC v):=
 fun _ _ _ H _ I h=>jw I j q ⟨v,H,I,r,h⟩ hd
theorem Qnq {x:Str} {v:V} {u:aB} {pos:Pos} (q:Gl X x) (j:X.mg x=none) (B:aZ x=some u) (r:RelV v u) (z:x≠"__name__" := by decide) (hd:(x == ("__debug__" : Str))=false:=by decide):PE X (.Name x pos) (tC v):=
 fun _ _ _ H _ I h=>Q53 I q j B ⟨v,H,I,r,h⟩ z hd
variable {a b:aD} {ta tb:TE} {pos:Pos}
def tB (t:TE):TT:=fun σ H Q=>t σ H fun x H1=>∃ c,x=.bl c/\Q c H1
theorem Qrj {e:aD} {t:TE} (h:PE X e t) (B:∀ j,isTrue e X.env j=(do let v <- j; standAt e.pos; ai [v] (truthy v)):=by intro _; rfl):PT X e (tB t):=by
 intro pins s σ H Q I G;refine isTrue_plain (thn (h pins s σ H _ I G) fun v s1 ⟨x,H1,J,z,q1⟩=>?_) (B _)
 obtain ⟨d,rfl,q⟩:=q1;cases z;exact am ⟨H1,J,q⟩
variable {tA tB':TT} {rest:List aD}
def Qxh (t u:TT):TT:=fun σ H Q=>t σ H fun c H1=>if c=true then u σ H1 Q else Q false H1
def tOr (t u:TT):TT:=fun σ H Q=>t σ H fun c H1=>if c=true then Q true H1 else u σ H1 Q
def Qxc (t:TT):TT:=fun σ H Q=>t σ H fun c H1=>Q (!c) H1
theorem Qn4 (j:PT X a tA):PW X (.BoolOp .And [a] pos) tA:=by
 intro q pins s σ H Q I h;refine isTrue_and (thn (j pins s σ H Q I h) fun c s1 e=>?_)
 cases c with
 | true=>exact isTrue_and_nil e
 | false=>exact e
theorem Qrh (j:PT X a tA):PW X (.BoolOp .Or [a] pos) tA:=by
 intro q pins s σ H Q I h;refine isTrue_or (thn (j pins s σ H Q I h) fun c s1 e=>?_)
 cases c with
 | false=>exact isTrue_or_nil e
 | true=>exact e
theorem Qri (z:PT X a tA) (q:PW X (.BoolOp .And (b :: rest) pos) tB'):PW X (.BoolOp .And (a :: b :: rest) pos) (Qxh tA tB'):=by
 intro B pins s σ H Q I h;refine isTrue_and (thn (z pins s σ H _ I h) fun c s1 ⟨H1,j,q1⟩=>?_)
 cases c with
 | true=>exact q B pins s1 σ H1 Q j q1
 | false=>exact ⟨H1,j,q1⟩
theorem Qum (z:PT X a tA) (q:PW X (.BoolOp .Or (b :: rest) pos) tB'):PW X (.BoolOp .Or (a :: b :: rest) pos) (tOr tA tB'):=by
 intro B pins s σ H Q I h;refine isTrue_or (thn (z pins s σ H _ I h) fun c s1 ⟨H1,j,q1⟩=>?_)
 cases c with
 | true=>exact ⟨H1,j,q1⟩
 | false=>exact q B pins s1 σ H1 Q j q1
theorem Qrk (j:PT X a tA):PT X (.UnaryOp .Not a pos) (Qxc tA):=by
 intro pins s σ H Q I h;exact isTrue_not (j pins s σ H (fun c H1=>Q (!c) H1) I h)
def Qub (ta tb:TE):TE:=fun σ H Q=>ta σ H fun x H1=>∃ c,x=.bl c/\if c=true then tb σ H1 Q else Q (.bl false) H1
def Qxb (ta tb:TE):TE:=fun σ H Q=>ta σ H fun x H1=>∃ c,x=.bl c/\if c=true then Q (.bl true) H1 else tb σ H1 Q
def Qu3 (ta:TE):TE:=fun σ H Q=>ta σ H fun x H1=>∃ c,x=.bl c/\Q (.bl (!c)) H1
theorem Qrw {op} {t:TE} (h:PE X a t):PE X (.BoolOp op [a] pos) t:=fun pins s σ H Q I j=>BoolOp_one (h pins s σ H Q I j)
theorem Qs1 (B:PE X a ta) (z:PE X (.BoolOp .And (b :: rest) pos) tb):PE X (.BoolOp .And (a :: b :: rest) pos) (Qub ta tb):=by
 intro pins s σ H Q I h;refine BoolOp_and (thn (B pins s σ H _ I h) fun v s1 ⟨x,H1,j,q,q1⟩=>?_)
 obtain ⟨c,rfl,q1⟩:=q1;cases q;refine am ?_;cases c with
 | true=>exact z pins s1 σ H1 Q j q1
 | false=>exact ⟨.bl false,H1,j,rfl,q1⟩
theorem Qut (B:PE X a ta) (z:PE X (.BoolOp .Or (b :: rest) pos) tb):PE X (.BoolOp .Or (a :: b :: rest) pos) (Qxb ta tb):=by
 intro pins s σ H Q I h;refine BoolOp_or (thn (B pins s σ H _ I h) fun v s1 ⟨x,H1,j,q,q1⟩=>?_)
 obtain ⟨c,rfl,q1⟩:=q1;cases q;refine am ?_;cases c with
 | false=>exact z pins s1 σ H1 Q j q1
 | true=>exact ⟨.bl true,H1,j,rfl,q1⟩
theorem Qrx (z:PE X a ta):PE X (.UnaryOp .Not a pos) (Qu3 ta):=by
 intro pins s σ H Q I h;refine UnaryOp_ (thn (z pins s σ H _ I h) fun v s1 ⟨x,H1,q,j,q1⟩=>?_)
 obtain ⟨c,rfl,q1⟩:=q1;cases j;exact not_of (am ⟨.bl (!c),H1,q,rfl,q1⟩)
end
def SqL (K:bP) (H:Hp) (a:aA) (xs:List V):Prop:=
 Rd H a (.lst xs) \/
  ∃ (o:Obj) (its:Array aB) (n:Nat),K.lookup a=some o/\o.cls=.type "list" /\ o.dict=none/\o.data=.seq its n/\its.size<=sizeLine/\Vals xs its.toList
def SqT (K:bP) (H:Hp) (a:aA) (xs:List V):Prop:=
 Rd H a (.tup xs) \/
  ∃ (o:Obj) (its:Array aB) (n:Nat),K.lookup a=some o/\o.cls=.type "tuple" /\ o.data=.seq its n/\its.size<=sizeLine/\Vals xs its.toList
def Qy7:aB->Option V
 | .none=>some .non
 | .bool b=>some (.bl b)
 | .int i _=>some (.int i)
 | .str x _=>some (.str x)
 | .bytes b _=>some (.byt b)
 | .float b _=>some (.flt b)
 | .ref a=>some (.ref a)
 | .type n=>some (.ty n)
 | _=>none
theorem RelV.abs {x:V} {u:aB} (r:RelV x u):Qy7 u=some x:=by
 cases x with
 | non=>cases r; rfl
 | bl _=>cases r; rfl
 | int _=>obtain ⟨t,rfl⟩:=r; rfl
 | str _=>obtain ⟨t,rfl⟩:=r; rfl
 | byt _=>obtain ⟨t,rfl⟩:=r; rfl
 | flt _=>obtain ⟨t,rfl⟩:=r; rfl
 | ref _=>cases r; rfl
 | ty _=>cases r; rfl
theorem RelV.inj {x y:V} {u:aB} (r:RelV x u) (q:RelV y u):x=y:=bc (r.abs.symm.trans q.abs)
theorem Vals.inj:∀ {xs ys:List V} {us:List aB},Vals xs us->Vals ys us->xs=ys
 | _,_,_,.nil,.nil=>rfl
 | _,_,_,.cons r t,.cons j t'=>by rw [r.inj j,Vals.inj t t']
section
variable {X:Cx} {pins:List (aA × Obj)} {σ:St} {H:Hp} {s:aC} {a:aA} {xs ys:List V}
theorem SqL.of {K:bP} (h:H a=some (.lst xs)):SqL K H a xs:=.inl (.inl h)
theorem SqT.of {K:bP} (h:H a=some (.tup xs)):SqT K H a xs:=.inl (.inl h)
theorem Inv.list (I:Inv X pins σ H s) (h:SqL X.K H a xs):∃ its:List aB,Vals xs its/\PlainL s.heap a its.toArray/\xs.length<=sizeLine:=by
 rcases h with h | ⟨o,its,n,q,j,hd,hs,hz,r⟩
 ·obtain ⟨z,its,n,r,e⟩:=h.ok I.hok;exact ⟨its,r,⟨_,n,e,rfl,rfl,rfl⟩,z⟩
 ·refine ⟨its.toList,r,⟨o,n,I.kIn a o q,j,hd,by simpa using hs⟩,?_⟩;have e:=r.length;simp only [dw] at e;omega
theorem Inv.tuple (I:Inv X pins σ H s) (h:SqT X.K H a xs):∃ its:List aB,Vals xs its/\IsTup s.heap a its.toArray/\xs.length<=sizeLine:=by
 rcases h with h | ⟨o,its,n,q,j,hs,hz,r⟩
 ·obtain ⟨z,its,r,p⟩:=h.ok I.hok;exact ⟨its,r,p,z⟩
 ·refine ⟨its.toList,r,⟨o,I.kIn a o q,j,n,by simpa using hs⟩,?_⟩;have e:=r.length;simp only [dw] at e;omega
theorem Inv.list_inj (I:Inv X pins σ H s) (h:SqL X.K H a xs) (h':SqL X.K H a ys):xs=ys:=by
 obtain ⟨its,r,⟨o,n,e,_,_,d⟩,_⟩:=I.list h;obtain ⟨its',q,⟨o',B,j,_,_,d'⟩,_⟩:=I.list h';rw [e] at j; cases j;rw [d] at d';injection d' with z _
 have:its=its':=by simpa using congrArg fN z
 subst this;exact r.inj q
theorem Inv.tuple_inj (I:Inv X pins σ H s) (h:SqT X.K H a xs) (h':SqT X.K H a ys):xs=ys:=by
 obtain ⟨its,r,⟨o,e,_,n,d⟩,_⟩:=I.tuple h;obtain ⟨its',q,⟨o',j,_,B,d'⟩,_⟩:=I.tuple h';rw [e] at j; cases j;rw [d] at d';injection d' with z _
 have:its=its':=by simpa using congrArg fN z
 subst this;exact r.inj q
end
abbrev Cx.wish (X:Cx) (E:aB->aC->Prop):Cx:={ X with xe:=E }
abbrev Cx.nox (X:Cx):Cx:=X.wish fun _ _=>False
theorem Cx.Ok.wish {X:Cx} (ok:X.Ok) (E:aB->aC->Prop):(X.wish E).Ok:=
 ⟨ok.mod,ok.kind,ok.glob,ok.blt,ok.above,ok.inj,ok.has,ok.cab,ok.hd,ok.frames,ok.stk,ok.exf,ok.bs,ok.bsz,ok.noex,ok.exfs,ok.funs,ok.frf⟩
theorem Cx.Ok.unwish {X:Cx} {E:aB->aC->Prop} (ok:(X.wish E).Ok):X.Ok:=
 ⟨ok.mod,ok.kind,ok.glob,ok.blt,ok.above,ok.inj,ok.has,ok.cab,ok.hd,ok.frames,ok.stk,ok.exf,ok.bs,ok.bsz,ok.noex,ok.exfs,ok.funs,ok.frf⟩
section
variable {X:Cx} {pins:List (aA × Obj)} {σ:St} {H:Hp} {s:aC} {E:aB->aC->Prop}
theorem Inv.wish (I:Inv X pins σ H s) (E:aB->aC->Prop):Inv (X.wish E) pins σ H s:=⟨I.ok.wish E,I.os,I.bare,I.base,I.loc,I.cell,I.free,I.freeC,I.pin,I.hok,I.len⟩
theorem Inv.unwish (I:Inv (X.wish E) pins σ H s):Inv X pins σ H s:=⟨I.ok.unwish,I.os,I.bare,I.base,I.loc,I.cell,I.free,I.freeC,I.pin,I.hok,I.len⟩
theorem SP.unwish {D:Ends} {f:Flow} {s':aC} (h:SP (X.wish E) pins D f s'):SP X pins D f s':=by
 cases f with
 | next=>obtain ⟨j,H',I,q⟩:=h; exact ⟨j,H',I.unwish,q⟩
 | brk=>obtain ⟨j,H',I,q⟩:=h; exact ⟨j,H',I.unwish,q⟩
 | cont=>obtain ⟨j,H',I,q⟩:=h; exact ⟨j,H',I.unwish,q⟩
 | ret u=>obtain ⟨v,j,H',I,r,q⟩:=h; exact ⟨v,j,H',I.unwish,r,q⟩
theorem PSs.nox {st:List aM} {t:TS} (h:PSs X.nox st t):PSs X st t:=fun pins s σ H D I j=>
 ac (h pins s σ H D (I.wish _) j) (fun _ _ q=>q.unwish) fun _ _ z=>False.elim z
end
section
variable {X:Cx} {st:aM} {rest:List aM} {t u:TS} {e:aD} {te:TE} {pos:Pos}
def Qqc:TS:=fun D σ H=>D.nx σ H
def Qxa (t u:TS):TS:=fun D σ H=>t { D with nx:=u D } σ H
theorem Qn9:PSs X [] Qqc:=fun _ _ σ H _ I h=>wpAny_execs_nil ⟨σ,H,I,h⟩
theorem Qcg (h1:PS X st t) (h2:PSs X rest u):PSs X (st :: rest) (Qxa t u):=by
 intro pins s σ H D I h;refine wpAny_execs_cons (thn (h1 pins s σ H { D with nx:=u D } I h) fun f s1 q=>?_)
 cases f with
 | next=>
  obtain ⟨j,H',z,q⟩:=q;exact h2 pins s1 j H' D z q
 | ret v=>exact q
 | brk=>exact q
 | cont=>exact q
theorem Qb2 (h1:PS X st t):PSs X [st] t:=by
 intro pins s σ H D I h;refine wpAny_execs_cons (thn (h1 pins s σ H D I h) fun f s1 q=>?_)
 cases f with
 | next=>exact wpAny_execs_nil q
 | ret v=>exact q
 | brk=>exact q
 | cont=>exact q
theorem Qnb:PS X (.Pass pos) Qqc:=fun _ _ σ H _ I h=>wpAny_Pass ⟨σ,H,I,h⟩
theorem Inv.quiet {pins:List (aA × Obj)} {σ:St} {H:Hp} {s:aC} (I:Inv X pins σ H s):interactive X.env=false:=by simp [interactive,I.ok.kind]
def Qu6 (te:TE):TS:=fun D σ H=>te σ H fun _ H1=>D.nx σ H1
theorem Qf9 (j:PE X e te) (hs:swapsWith e none pos.line X.env=pure false:=by rfl):PS X (.Expr e pos) (Qu6 te):=by
 intro pins s σ H D I h;exact wpAny_Expr_any (thn (j pins s σ H _ I h) fun v s1 ⟨x,H1,q,z,q1⟩=>⟨σ,H1,q,q1⟩) I.quiet hs
def Qu1 (te:TE):TS:=fun D σ H=>te σ H D.rt
theorem Qj2 (j:PE X e te):PS X (.Return (some e) pos) (Qu1 te):=by
 intro pins s σ H D I h;exact wpAny_Return_some (thn (j pins s σ H _ I h) fun v s1 ⟨x,H1,z,q,q1⟩=>⟨x,σ,H1,z,q,q1⟩)
def Qxe (c:TT) (t u:TS):TS:=fun D σ H=>c σ H fun b H1=>if b=true then t D σ H1 else u D σ H1
theorem Qup {c:aD} {a b:List aM} {tc:TT} (q:PT X c tc) (B:PSs X a t) (z:PSs X b u):PS X (.If c a b pos) (Qxe tc t u):=by
 intro pins s σ H D I h;refine wpAny_If (thn (q pins s σ H _ I h) fun d s1 ⟨H1,j,q1⟩=>?_)
 cases d with
 | true=>exact B pins s1 σ H1 D j q1
 | false=>exact z pins s1 σ H1 D j q1
end
abbrev TG:=V->St->Hp->(St->Hp->Prop)->Prop
abbrev TGs:=List V->St->Hp->(St->Hp->Prop)->Prop
def PG (X:Cx) (target:aD) (t:TG):Prop:=
 ∀ (pins:List (aA × Obj)) (s:aC) (σ:St) (H:Hp) (v:V) (u:aB) (Q:St->Hp->Prop),Inv X pins σ H s->RelV v u->t v σ H Q ->
  aI (aJ X.prog X.w) X.A (assign target X.env u) (fun _ s'=>∃ σ' H',Inv X pins σ' H' s'/\Q σ' H') X.xe s
def PGs (X:Cx) (ts:List aD) (t:TGs):Prop:=
 ∀ (pins:List (aA × Obj)) (s:aC) (σ:St) (H:Hp) (vs:List V) (us:List aB) (Q:St->Hp->Prop),Inv X pins σ H s->Vals vs us->t vs σ H Q ->
  aI (aJ X.prog X.w) X.A (assignInOrder ((ak ts X.env).map (·.2)) us) (fun _ s'=>∃ σ' H',Inv X pins σ' H' s'/\Q σ' H') X.xe s
abbrev Qtb:=V->V->V->Hp->(Hp->Prop)->Prop
def Qwa (X:Cx) (t:Qtb):Prop:=
 ∀ (pins:List (aA × Obj)) (s:aC) (σ:St) (H:Hp) (o i v:V) (ov iv u:aB) (Q:Hp->Prop),Inv X pins σ H s->RelV o ov->RelV i iv->RelV v u->t o i v H Q ->
  aI (aJ X.prog X.w) X.A (setItem ov iv u) (fun _ s'=>∃ H',Inv X pins σ H' s'/\Q H') X.xe s
section
variable {X:Cx} {pos:Pos}
def Qdb (i:Nat):TG:=fun v σ H Q=>Q (σ.set i (some v)) H
theorem Qnh {i:Nat} {x:Str} (q:X.N.Nodup) (hi:X.N[i]?=some x) (j:Loc X.env.scope x) (B:X.fn x=true\/X.env.scope.names.lookup x=some .local:=by first | exact .inl rfl | exact .inr rfl | assumption):PG X (.Name x pos) (Qdb i):=by
 intro pins s σ H v u Q I r h;exact wpAny_assign_Name (Q6t I q hi j r (fun s' z=>⟨_,H,z,h⟩) B)
def Qvs:TGs:=fun vs σ H Q=>vs=[]/\Q σ H
def Qk8 (t:TG) (u:TGs):TGs:=fun vs σ H Q=>∃ v r,vs=v :: r/\t v σ H fun σ' H'=>u r σ' H' Q
theorem Qnf:PGs X [] Qvs:=by
 intro pins s σ H vs us Q I r h;obtain ⟨e,h⟩:=h;subst e;cases r;exact assignInOrder_nil ⟨σ,H,I,h⟩
theorem Qj7 {e:aD} {es:List aD} {t:TG} {u:TGs} (h1:PG X e t) (h2:PGs X es u)
  (hs:(ak (e :: es) X.env).map (·.2)=assign e X.env :: (ak es X.env).map (·.2):=by rfl):PGs X (e :: es) (Qk8 t u):=by
 intro pins s σ H vs us Q I r h;obtain ⟨v,B,e1,h⟩:=h;subst e1;cases r with
 | cons r q=>
  rw [hs];refine assignInOrder_cons (thn (h1 pins s σ H _ _ _ I r h) fun _ s1 ⟨j,H1,z,q1⟩=>?_)
  exact h2 pins s1 j H1 _ _ Q z q q1
def Qvr (K:bP) (n:Nat) (t:TGs):TG:=fun v σ H Q=>∃ a xs,v=.ref a/\SqT K H a xs/\xs.length=n/\t xs σ H Q
theorem Qrt {es:List aD} {k:Nat} {t:TGs} {n:Nat} (O:X.calm=true) (h:PGs X es t)
  (U:(ak es X.env).length=n:=by rfl) (j:(ak es X.env).findIdx? (·.1)=none:=by rfl):PG X (.Tuple es k pos) (Qvr X.K n t):=by
 intro pins s σ H v u Q I r q;obtain ⟨a,xs,e1,Y,G,q⟩:=q;subst e1;cases r;obtain ⟨its,z,Z,hz⟩:=I.tuple Y;refine assign_Tuple_tuple (I.ok.hd O) Z (by simp [U,<- G,z.length]) j fun h' J=>?_
 have B:Inv X pins σ H { s with heap:=h' }:=I.kept (t':=s.toks) fun b o e=>J b o (F0 (O9 e)) e
 exact h pins _ σ H xs _ Q B (by simpa using z) q
def Qy2 (to ti:TE) (t:Qtb):TG:=fun v σ H Q=>to σ H fun o H1=>ti σ H1 fun i H2=>t o i v H2 fun H3=>Q σ H3
theorem Qru {o i:aD} {to z:TE} {t:Qtb} (Y:PE X o to) (hi:PE X i z) (hs:Qwa X t)
  (U:∀ v,assign (.Subscript o i pos) X.env v=(do
   let j <- ai [v] (aK o X.env)
   let q <- ai [v,j] (aK i X.env)
   standAt pos
   ai [v,j,q] (setItem j q v)
   release [v,j,q] []):=by intro _; rfl):PG X (.Subscript o i pos) (Qy2 to z t):=by
 intro pins s σ H v u Q I r h;rw [U];refine aF (av (thn (Y pins s σ H _ I h) fun j s1 ⟨x,H1,Z,G,q1⟩=>?_))
 refine aF (av (thn (hi pins s1 σ H1 _ Z q1) fun q s2 ⟨y,H2,J,r2,q2⟩=>?_))
 refine aF (wpAny_standAt (aF (av (thn (hs pins s2 σ H2 x y v j q u _ J G r2 r q2) fun _ s3 ⟨O,B,q3⟩=>?_))))
 exact wpAny_release ⟨σ,O,B,q3⟩
def Qr8 (te:TE) (g:TG):TS:=fun D σ H=>te σ H fun x H1=>g x σ H1 D.nx
theorem Qj4 {tg e:aD} {te:TE} {g:TG} (B:PE X e te) (z:PG X tg g) (hs:swapsWithSole [tg] e pos.line X.env=pure false:=by rfl) (G:swappedStores [tg] e X.env=pure none:=by rfl)
  (h1:(ak [tg] X.env).map (·.2)=[assign tg X.env]:=by rfl):PS X (.Assign [tg] e pos) (Qr8 te g):=by
 intro pins s σ H D I h;refine wpAny_Assign_stores (thn (B pins s σ H _ I h) fun v s1 ⟨x,H1,J,j,q1⟩=>?_) hs G
 rw [h1];exact thn (z pins s1 σ H1 x v _ J j q1) fun _ s2 q=>q
theorem Qrm {i:Nat} {x:Str} {e:aD} {te:TE} {pos':Pos} (z:X.N.Nodup) (hi:X.N[i]?=some x) (q:Loc X.env.scope x) (B:PE X e te) (hs:swapsWith e (some (.Name x pos')) pos.line X.env=pure false:=by rfl) (O:X.fn x=true\/X.env.scope.names.lookup x=some .local:=by first | exact .inl rfl | exact .inr rfl | assumption) :
  PS X (.Assign [.Name x pos'] e pos) (Qr8 te (Qdb i)):=by
 intro pins s σ H D I h;refine wpAny_Assign_Name (thn (B pins s σ H _ I h) fun v s1 ⟨y,H1,J,j,q1⟩=>?_) hs
 exact Q6t J z hi q j (fun s2 G=>⟨_,H1,G,q1⟩) O
end
section
variable {X:Cx} {pos:Pos}
def Qr4 (c:TT) (tb:TS):TS:=fun D σ H=>∃ W:Nat->St->Hp->Prop,(∃ m,W m σ H)/\∀ m σ H,W m σ H ->
 c σ H fun b H1=>if b=true then ∃ N:St->Hp->Prop,(∀ σ' H',N σ' H'->∃ m',m' < m/\W m' σ' H')/\tb { D with nx:=N,ct:=N,bk:=D.nx } σ H1 else D.nx σ H1
theorem Qj0 {c:aD} {body:List aM} {tc:TT} {tb:TS} (hp:PassesOwn (aJ X.prog X.w) X.A X.env X.xe) (hc:PT X c tc) (hb:PSs X body tb):PS X (.While c body [] pos) (Qr4 tc tb):=by
 intro pins s σ H D I h;obtain ⟨W,⟨m0,w0⟩,turn⟩:=h;refine wpAny_While (codeAny_whileLoop (fun n s'=>∃ B H',Inv X pins B H' s'/\W n B H') ?_ m0 ⟨σ,H,I,w0⟩);rintro n s1 ⟨q,H1,I1,w1⟩;refine aw hp (thn (hc pins s1 q H1 _ I1 (turn n q H1 w1)) fun b s2 ⟨H2,I2,q2⟩=>?_)
 cases b with
 | true=>
  obtain ⟨N,Z,q2⟩:=q2;rw [bJ rfl];refine aw hp (thn (hb pins s2 q H2 _ I2 q2) fun f s3 q3=>?_)
  cases f with
  | next=>
   obtain ⟨j,z,G,Y⟩:=q3;obtain ⟨U,O,J⟩:=Z j z Y;exact ⟨U,O,j,z,G,J⟩
  | cont=>
   obtain ⟨j,z,G,Y⟩:=q3;obtain ⟨U,O,J⟩:=Z j z Y;exact ⟨U,O,j,z,G,J⟩
  | brk=>exact q3
  | ret v=>exact q3
 | false=>
  rw [bK D7];exact wpAny_execs_nil ⟨q,H2,I2,q2⟩
end
structure It where
 go:Nat->Hp->Prop
 yld:Nat->Hp->V->Hp->Prop
 stop:Nat->Hp->Prop
def Q8r (X:Cx) (pins:List (aA × Obj)) (H:Hp) (b:aA):Prop:=
 H b=none/\b≠X.env.locals/\b∉X.fs/\(b∈X.ex\/X.s₀.heap.objs.size<=b)/\(∀ x c,X.env.cells.lookup x=some c->c≠b)/\∀ p∈X.pn ++ pins,p.1≠b
theorem Inv.fpOk {X:Cx} {pins:List (aA × Obj)} {σ:St} {H H':Hp} {s:aC} {b:aA} (I:Inv X pins σ H s) (j:s.heap.objs.size<=b) (B:H' b=none):Q8r X pins H' b:=by
 refine ⟨B,cE (D3 I.lt j),I.nofs j,.inr (F1 I.sz j),fun x c e z=>?_,fun p hp z=>?_⟩
 ·obtain ⟨v,q⟩:=I.cell x c e;exact absurd (D3 q.lt (by rw [z]; exact j)) (bo _)
 ·exact absurd (D3 (O9 (I.pin p hp).1) (by rw [z]; exact j)) (bo _)
structure Turn (P:aN) (w:aL) (K:bP) (tg:aD) (J:It) (fp:List aA) (it:aA) (tn:Nat->Heap->Prop):Prop where
 mem:it∈fp
 obj:∀ i h,tn i h->∀ b∈fp,∃ o,h.get? b=some o/\∀ v,o.data≠.cell v
 keep:∀ i h h',tn i h->(∀ b∈fp,∀ o,h.get? b=some o->h'.get? b=some o)->tn i h'
 item:∀ (X:Cx),X.prog=P->X.w=w->X.K=K->X.calm=true->∀ (i:Nat) (pins:List (aA × Obj)) (s:aC) (σ:St) (H:Hp) (E:aB->aC->Prop),Inv X pins σ H s->(∀ b∈fp,Q8r X pins H b)->tn i s.heap->J.go i H ->
  aI (aJ P w) X.A (ay (.ref it)) (fun r s1=>∃ u,r=some u /\
   aI (aJ P w) X.A (letOwnedTupleGo tg (.ref it) u) (fun _ s2=>∃ x H',Inv X pins σ H' s2/\RelV x u/\J.yld i H x H'/\tn (i + 1) s2.heap/\∀ b∈fp,H' b=none) E s1) E s
 done:∀ (X:Cx),X.prog=P->X.w=w->X.K=K->X.calm=true->∀ (i:Nat) (pins:List (aA × Obj)) (s:aC) (σ:St) (H:Hp) (E:aB->aC->Prop),Inv X pins σ H s->(∀ b∈fp,Q8r X pins H b)->tn i s.heap->J.stop i H ->
  aI (aJ P w) X.A (ay (.ref it)) (fun r s1=>r=none/\Inv X pins σ H s1) E s
 self:∀ (A:aR) (i:Nat) (s:aC) (Q:aB->aC->Prop) (E:aB->aC->Prop),tn i s.heap->Q (.ref it) s->aI (aJ P w) A (pyIter (.ref it)) Q E s
abbrev TI:=St->Hp->(It->Hp->Prop)->Prop
def PIE (X:Cx) (pins:List (aA × Obj)) (σ:St) (tg:aD) (R:It->Hp->Prop) (itv:aB) (s2:aC):Prop:=
 ∃ (it:aA) (fp:List aA) (tn:Nat->Heap->Prop) (J:It) (H':Hp),itv=.ref it/\Inv X pins σ H' s2/\Turn X.prog X.w X.K tg J fp it tn/\tn 0 s2.heap/\(∀ b∈fp,Q8r X pins H' b)/\R J H'
def PI (X:Cx) (tg iter:aD) (wi:TI):Prop:=
 ∀ (pins:List (aA × Obj)) (s:aC) (σ:St) (H:Hp) (R:It->Hp->Prop),Inv X pins σ H s->wi σ H R ->
  aI (aJ X.prog X.w) X.A (aK iter X.env) (fun v s1=>aI (aJ X.prog X.w) X.A (pyIter v) (PIE X pins σ tg R) X.xe s1) X.xe s
theorem Qk6 {M:Model} {A:aR} {E:aB->aC->Prop} {s:aC} {tg:aD} {q:aA} {u:aB} {o:Obj} {n:String} {vs:Array aB} {Q:Unit->aC->Prop} (G:s.heap.get? q=some o) (z:o.cls=.type n) (hd:o.data=.fields vs)
  (B:["enumerate", "zip", "dict_itemiterator", "dict_reverseitemiterator", "odict_iterator", "itertools.zip_longest", "itertools.pairwise"].contains n=false) (j:Q () s):aI M A (letOwnedTupleGo tg (.ref q) u) Q E s:=by
 unfold letOwnedTupleGo;cases tg <;> first
  | exact aS j
  | (cases u <;> first
    | exact aS j
    | (refine aF (wpAny_load G ?_)
       rw [z,hd];show aI M A (if (["enumerate", "zip", "dict_itemiterator", "dict_reverseitemiterator", "odict_iterator", "itertools.zip_longest", "itertools.pairwise"].contains n && vs[0]? == some (ad _))=true then _ else _) Q E s;rw [bK (by intro h; rw [B,fO] at h; cases h)];exact aS j))
def Itl (K:bP) (a:aA):It:=
 ⟨fun i H=>∃ xs x,SqL K H a xs/\xs[i]?=some x,fun i H x H'=>H'=H/\∀ xs,SqL K H a xs->xs[i]?=some x,fun i H=>∃ xs,SqL K H a xs/\xs.length<=i⟩
def Itt (K:bP) (a:aA):It:=
 ⟨fun i H=>∃ xs x,SqT K H a xs/\xs[i]?=some x,fun i H x H'=>H'=H/\∀ xs,SqT K H a xs->xs[i]?=some x,fun i H=>∃ xs,SqT K H a xs/\xs.length<=i⟩
def Itr (lo:Int) (n:Nat):It:=⟨fun i _=>i < n,fun i H x H'=>H'=H/\x=.int (lo + i),fun i _=>n<=i⟩
theorem Qg6 {P:aN} {w:aL} {K:bP} {tg:aD} (a j:aA):Turn P w K tg (Itl K a) [j] j (fun i h=>h.IsListIter j a i) where
 mem:=by simp
 obj:=fun i h st b q=>by
  have e:b=j:=by simpa using q
  subst e;obtain ⟨o,e,c,d⟩:=st;exact ⟨o,e,fun v z=>by rw [d] at z; cases z⟩
 keep:=fun i h h' st k=>st.at fun o e=>k j (by simp) o e
 item:=by
  intro X hP Z hK hc i pins s σ H E I B st J;subst hP Z hK;obtain ⟨xs,x,G,U⟩:=J;obtain ⟨its,rv,p,hz⟩:=I.list G;obtain ⟨u,hu,ru⟩:=rv.get U;obtain ⟨f0,f1,f2,f3,O,Y⟩:=B j (by simp);refine wpAny_pyNext_list_item st p.isList (x:=u) (by simpa using hu) fun h' st' sb=>?_
  have I1:Inv X pins σ H { s with heap:=h' }:=I.turned (t':=s.toks) (fun b o q e=>(sb.2 b q).trans e) f0 f1 f3 O Y
  obtain ⟨o,e,c,d⟩:=id st';exact ⟨u,rfl,Qk6 (s:={ s with heap:=h' }) e c d (by decide) ⟨x,H,I1,ru,⟨rfl,fun ys hy=>by rw [I.list_inj hy G]; exact U⟩,st',fun b q=>(B b q).1⟩⟩
 done:=by
  intro X hP Z hK hc i pins s σ H E I B st J;subst hP Z hK;obtain ⟨xs,G,U⟩:=J;obtain ⟨its,rv,p,hz⟩:=I.list G;obtain ⟨f0,f1,f2,f3,O,Y⟩:=B j (by simp);have hl:=rv.length;exact wpAny_pyNext_list_end (I.ok.hd hc) st p.isList (by simp; omega) fun h' eb=>⟨rfl,I.turned (t':=s.toks) (fun b o q e=>eb b o q e) f0 f1 f3 O Y⟩
 self:=fun _ _ _ _ _ st h=>wpAny_pyIter_listiter st h
theorem Qdt {P:aN} {w:aL} {K:bP} {tg:aD} (a j:aA):Turn P w K tg (Itt K a) [j] j (fun i h=>h.IsTupleIter j a i) where
 mem:=by simp
 obj:=fun i h st b q=>by
  have e:b=j:=by simpa using q
  subst e;obtain ⟨o,e,c,d⟩:=st;exact ⟨o,e,fun v z=>by rw [d] at z; cases z⟩
 keep:=fun i h h' st k=>st.at fun o e=>k j (by simp) o e
 item:=by
  intro X hP Z hK hc i pins s σ H E I B st J;subst hP Z hK;obtain ⟨xs,x,G,U⟩:=J;obtain ⟨its,rv,p,hz⟩:=I.tuple G;obtain ⟨u,hu,ru⟩:=rv.get U;obtain ⟨f0,f1,f2,f3,O,Y⟩:=B j (by simp);refine wpAny_pyNext_tuple_item st (show s.heap.IsTuple a its.toArray from p) (x:=u) (by simpa using hu) fun h' st' sb=>?_
  have I1:Inv X pins σ H { s with heap:=h' }:=I.turned (t':=s.toks) (fun b o q e=>(sb.2 b q).trans e) f0 f1 f3 O Y
  obtain ⟨o,e,c,d⟩:=id st';exact ⟨u,rfl,Qk6 (s:={ s with heap:=h' }) e c d (by decide) ⟨x,H,I1,ru,⟨rfl,fun ys hy=>by rw [I.tuple_inj hy G]; exact U⟩,st',fun b q=>(B b q).1⟩⟩
 done:=by
  intro X hP Z hK hc i pins s σ H E I B st J;subst hP Z hK;obtain ⟨xs,G,U⟩:=J;obtain ⟨its,rv,p,hz⟩:=I.tuple G;obtain ⟨f0,f1,f2,f3,O,Y⟩:=B j (by simp);have hl:=rv.length;exact wpAny_pyNext_tuple_end (I.ok.hd hc) st (show s.heap.IsTuple a its.toArray from p) (by simp; omega) fun h' eb=>⟨rfl,I.turned (t':=s.toks) (fun b o q e=>eb b o q e) f0 f1 f3 O Y⟩
 self:=fun _ _ _ _ _ st h=>wpAny_pyIter_tupleiter st h
theorem Qdu {P:aN} {w:aL} {K:bP} {tg:aD} (j:aA) (lo:Int) (n:Nat):Turn P w K tg (Itr lo n) [j] j (fun i h=>IsRangeIter h j (lo + (i:Nat) * 1) ((n:Int) - (i:Nat)) 1) where
 mem:=by simp
 obj:=fun i h st b q=>by
  have e:b=j:=by simpa using q
  subst e;exact ⟨_,st,fun v z=>by
   have z':Data.fields _=Data.cell v:=z;cases z'⟩
 keep:=fun i h h' st k=>k j (by simp) _ st
 item:=by
  intro X hP Y Z G i pins s σ H E I B st J;subst hP Y Z;obtain ⟨f0,f1,f2,f3,O,U⟩:=B j (by simp);have W:=Walks.range (prog:=X.prog) (w:=X.w) (I.ok.hd G) j lo 1 n;refine W.item i s _ _ J st fun v h' tk hv st' kk=>?_
  obtain ⟨t,rfl⟩:=hv;have I1:Inv X pins σ H { s with heap:=h',toks:=tk }:=I.turned (fun b o q e=>kk b o (by simpa using q) e) f0 f1 f3 O U
  refine ⟨_,rfl,Qk6 (s:={ s with heap:=h',toks:=tk }) (n := "range_iterator") st' rfl rfl (by decide) ⟨.int (lo + i),H,I1,⟨t,?_⟩,⟨rfl,rfl⟩,st',fun b q=>(B b q).1⟩⟩
  rw [Int.mul_one]
 done:=by
  intro X hP Y Z G i pins s σ H E I B st J;subst hP Y Z;obtain ⟨f0,f1,f2,f3,O,U⟩:=B j (by simp);exact wpAny_pyNext_range_end (I.ok.hd G) st (by have:n<=i:=J; omega) fun h' eb=>⟨rfl,I.turned (t':=s.toks) (fun b o q e=>eb b o q e) f0 f1 f3 O U⟩
 self:=fun _ _ _ _ _ st h=>wpAny_pyIter_rangeiter st h
section
variable {X:Cx} {tg:aD}
def Qvm (K:bP) (tl:TE):TI:=fun σ H R=>tl σ H fun x H1=>∃ a,x=.ref a/\(∃ xs,SqL K H1 a xs)/\R (Itl K a) H1
def Qy1 (K:bP) (tl:TE):TI:=fun σ H R=>tl σ H fun x H1=>∃ a,x=.ref a/\(∃ xs,SqT K H1 a xs)/\R (Itt K a) H1
theorem Qne {l:aD} {tl:TE} (B:PE X l tl):PI X tg l (Qvm X.K tl):=by
 intro pins s σ H R I h;refine thn (B pins s σ H _ I h) fun v s1 ⟨x,H1,j,z,q1⟩=>?_
 obtain ⟨a,e,⟨xs,J⟩,q⟩:=q1;subst e;cases z;obtain ⟨its,O,p,hz⟩:=j.list J;refine wpAny_pyIter_list p.isList ?_;refine ⟨s1.heap.objs.size,[s1.heap.objs.size],_,_,H1,rfl,j.kept (t':=s1.toks) fun b o e=>O0 _ e,Qg6 a _,⟨_,D6 _ rfl,rfl,rfl⟩,fun b G=>?_,q⟩
 have e:b=s1.heap.objs.size:=by simpa using G
 subst e;exact j.fpOk (O7 _) (j.hok.fresh (O7 _))
theorem Qrs {l:aD} {tl:TE} (B:PE X l tl):PI X tg l (Qy1 X.K tl):=by
 intro pins s σ H R I h;refine thn (B pins s σ H _ I h) fun v s1 ⟨x,H1,j,z,q1⟩=>?_
 obtain ⟨a,e,⟨xs,J⟩,q⟩:=q1;subst e;cases z;obtain ⟨its,O,p,hz⟩:=j.tuple J;refine bI (show s1.heap.IsTuple a its.toArray from p) ?_;refine ⟨s1.heap.objs.size,[s1.heap.objs.size],_,_,H1,rfl,j.kept (t':=s1.toks) fun b o e=>O0 _ e,Qdt a _,⟨_,D6 _ rfl,rfl,rfl⟩,fun b G=>?_,q⟩
 have e:b=s1.heap.objs.size:=by simpa using G
 subst e;exact j.fpOk (O7 _) (j.hok.fresh (O7 _))
theorem Qce {pins:List (aA × Obj)} {σ:St} {H:Hp} {s:aC} {R:It->Hp->Prop} {E:aB->aC->Prop} {lo hi:Int} {t u v:Tok} {tk:Nat} (I:Inv X pins σ H s) (h1:-(2 ^ 62)<=lo) (h2:lo < 2 ^ 62) (z:-(2 ^ 62)<=hi) (G:hi < 2 ^ 62)
  (q:R (Itr lo (hi - lo).toNat) H):aI (aJ X.prog X.w) X.A (pyIter (.ref s.heap.objs.size)) (PIE X pins σ tg R) E { s with heap:=s.heap.push { cls:=.type "range",data:=.fields #[.int lo t,.int hi u,.int 1 v] },toks:=tk }:=by
 refine wpAny_pyIter_range (IsRange.new ..) (small_one h1 h2 z G) ?_;have j:Inv X pins σ H { s with heap:=s.heap.push { cls:=.type "range",data:=.fields #[.int lo t,.int hi u,.int 1 v] },toks:=tk }:=I.kept fun b o e=>O0 _ e
 refine ⟨(s.heap.push { cls:=.type "range",data:=.fields #[.int lo t,.int hi u,.int 1 v] }).objs.size,[(s.heap.push { cls:=.type "range",data:=.fields #[.int lo t,.int hi u,.int 1 v] }).objs.size],_,_,H,rfl,
  j.kept (t':=tk) fun b o e=>O0 _ e,Qdu _ lo (hi - lo).toNat,?_,fun b B=>?_,q⟩
 ·have e1:lo + ((0:Nat):Int) * 1=lo:=by simp
  have e2:(((hi - lo).toNat:Nat):Int) - ((0:Nat):Int)=Builtin.Range.rangeSize lo hi 1:=by rw [rangeSize_one]; split <;> omega
  show IsRangeIter _ _ (lo + ((0:Nat):Int) * 1) ((((hi - lo).toNat:Nat):Int) - ((0:Nat):Int)) 1;rw [e1,e2];exact D6 _ rfl
 ·have e:b=(s.heap.push { cls:=.type "range",data:=.fields #[.int lo t,.int hi u,.int 1 v] }).objs.size:=by simpa using B
  subst e;exact j.fpOk (O7 _) (j.hok.fresh (O7 _))
def Qvk (ta:TA):TI:=fun σ H R=>ta σ H fun vs H1=>∃ j:Int,vs=[.int j]/\-(2 ^ 62)<=j/\j < 2 ^ 62/\R (Itr 0 j.toNat) H1
def Qvj (ta:TA):TI:=fun σ H R=>ta σ H fun vs H1=>∃ i j:Int,vs=[.int i,.int j]/\(-(2 ^ 62)<=i/\i < 2 ^ 62/\-(2 ^ 62)<=j/\j < 2 ^ 62)/\R (Itr i (j - i).toNat) H1
theorem Qgn {a:aD} {ta:TA} {p pos:Pos} (G:Gl X "range") (B:X.mg "range" = none) (J:PA X [a] ta) (hs:aO [a] X.env=[(false,aK a X.env)]:=by rfl):PI X tg (.Call (.Name "range" p) [a] [] pos) (Qvk ta):=by
 intro pins s σ H R I h;refine Call_ (Q53 I G B boot_range (dI (thn (J pos pins s σ H _ I h) fun us s1 ⟨vs,H1,U,z,q1⟩=>?_) hs rfl))
 obtain ⟨j,e,q1,q2,q⟩:=q1;subst e;cases z with
 | cons r O=>
  cases O;obtain ⟨t,rfl⟩:=r;exact call_range_1 (Qce U (by omega) (by omega) q1 q2 (by simpa using q))
theorem Qgm {a b:aD} {ta:TA} {p pos:Pos} (O:Gl X "range") (J:X.mg "range" = none) (U:PA X [a,b] ta) (hs:aO [a,b] X.env=[(false,aK a X.env),(false,aK b X.env)]:=by rfl) (z:aO [b] X.env=[(false,aK b X.env)]:=by rfl) :
  PI X tg (.Call (.Name "range" p) [a,b] [] pos) (Qvj ta):=by
 intro pins s σ H R I h;refine Call_ (Q53 I O J boot_range (dI (thn (U pos pins s σ H _ I h) fun us s1 ⟨vs,H1,I1,G,q1⟩=>?_) (by rw [hs,z]) (by rw [z]; rfl)))
 obtain ⟨i,j,e,⟨q1,q2,q3,Z⟩,q⟩:=q1;subst e;cases G with
 | cons r B=>
  cases B with
  | cons Y B=>
   cases B;obtain ⟨t,rfl⟩:=r;obtain ⟨t',rfl⟩:=Y;exact call_range_2 (Qce I1 q1 q2 q3 Z q)
def Qxf (wi:TI) (g:TG) (tb:TS):TS:=fun D σ H=>wi σ H fun J H1=>∃ W:Nat->Nat->St->Hp->Prop,(∃ m,W 0 m σ H1)/\∀ i m σ H,W i m σ H ->
 (J.stop i H/\D.nx σ H)\/(J.go i H/\∃ N:St->Hp->Prop,(∀ σ' H',N σ' H'->∃ m',m' < m/\W (i + 1) m' σ' H')/\∀ x H',J.yld i H x H'->g x σ H' fun σ2 H2=>tb { D with nx:=N,ct:=N,bk:=D.nx } σ2 H2)
def Q74 (fp:List aA) (h:Heap):List (aA × Obj):=fp.filterMap fun b=>(h.get? b).map fun o=>(b,o)
theorem qb {j:List aA} {h:Heap} {b:aA} {o:Obj} (q:b∈j) (e:h.get? b=some o):(b,o)∈Q74 j h:=dy.mpr ⟨b,q,by rw [e]; rfl⟩
theorem Qgv {j:List aA} {h:Heap} {p:aA × Obj} (hp:p∈Q74 j h):p.1∈j/\h.get? p.1=some p.2:=by
 obtain ⟨b,z,e⟩:=dy.mp hp;cases q:h.get? b with
 | none=>rw [q] at e; cases e
 | some o=>
  rw [q] at e;have B:(b,o)=p:=bc e;subst B;exact ⟨z,q⟩
theorem Inv.pinned {pins:List (aA × Obj)} {σ:St} {H:Hp} {s:aC} {j:List aA} (I:Inv X pins σ H s) (Y:∀ b∈j,Q8r X pins H b) (U:∀ b∈j,∃ o,s.heap.get? b=some o/\∀ v,o.data≠.cell v):Inv X (pins ++ Q74 j s.heap) σ H s:=
 I.pins_of fun p hp=>(E9.mp hp).elim (fun z=>I.pin p (E4 _ z)) fun z=>by
  obtain ⟨q,e⟩:=Qgv z;obtain ⟨O,G,J,_⟩:=Y p.1 q;obtain ⟨o,B,d⟩:=U p.1 q;rw [e] at B; cases B;exact ⟨e,O,G,J,d⟩
theorem Inv.unpinned {pins pl:List (aA × Obj)} {σ:St} {H:Hp} {s:aC} (I:Inv X (pins ++ pl) σ H s):Inv X pins σ H s:=I.pins_of fun p hp=>I.pin p (E4 _ (F5 _ hp))
theorem Qrn {iter:aD} {body:List aM} {wi:TI} {g:TG} {tb:TS} {pos:Pos} (hp:PassesOwn (aJ X.prog X.w) X.A X.env X.xe) (hc:X.calm=true) (hi:PI X tg iter wi) (hg:PG X tg g) (U:PSs X body tb)
  (hs:∀ x,az iter X.env x=pure x:=by intro _; rfl):PS X (.For tg iter body [] pos) (Qxf wi g tb):=by
 intro pins s σ H D I h;refine wpAny_For (thn (hi pins s σ H _ I h) fun v s1 h1=>thn h1 fun a8 s2 h2=>?_) hs
 obtain ⟨it,fp,tn,J,H2,e,I2,T,a6,f2,W,⟨m0,w0⟩,turn⟩:=h2;subst e;have G:∀ {H':Hp},(∀ b∈fp,H' b=none)->∀ b∈fp,Q8r X pins H' b:=fun hn b U=>⟨hn b U,(f2 b U).2⟩
 refine codeAny_forLoop_any (fun n s'=>∃ i B H',Inv X pins B H' s'/\tn i s'.heap/\(∀ b∈fp,H' b=none)/\W i n B H') ?_ m0 ⟨0,σ,H2,I2,a6,fun b U=>(f2 b U).1,w0⟩
 rintro n s3 ⟨i,z,H3,I3,a2,a3,w3⟩;rcases turn i n z H3 w3 with ⟨stop,qn⟩ | ⟨go,N,hN,step⟩
 ·refine aw hp (thn (T.done X rfl rfl rfl hc i pins s3 z H3 X.xe I3 (G a3) a2 stop) fun r s4 ⟨hr,I4⟩=>?_)
  subst hr;exact wpAny_execs_nil ⟨z,H3,I4,qn⟩
 ·refine aw hp (thn (T.item X rfl rfl rfl hc i pins s3 z H3 X.xe I3 (G a3) a2 go) fun r s4 ⟨u,hr,h4⟩=>?_)
  subst hr;refine aw hp (thn h4 fun _ s5 ⟨x,H5,I5,r5,y5,Z,a5⟩=>?_);have a4:=I5.pinned (G a5) (T.obj _ _ Z);refine aw hp (thn (hg _ s5 z H5 x u _ a4 r5 (step x H5 y5)) fun _ s6 ⟨a7,H6,I6,q6⟩=>?_)
  refine aw hp (thn (U _ s6 a7 H6 _ I6 q6) fun f s7 Y=>?_)
  have again:∀ {j:St} {O:Hp},Inv X (pins ++ Q74 fp s5.heap) j O s7->N j O->∃ m,m < n/\∃ i B H',Inv X pins B H' s7/\tn i s7.heap/\(∀ b∈fp,H' b=none)/\W i m B H':=fun {j O} q n7=>by
   obtain ⟨m',hm,w7⟩:=hN j O n7;refine ⟨m',hm,i + 1,j,O,q.unpinned,T.keep _ _ _ Z fun b U o e=>(q.pin (b,o) (E4 _ (E4 _ (qb U e)))).1,fun b U=>?_,w7⟩;obtain ⟨o,e,d⟩:=T.obj _ _ Z b U;exact (q.pin (b,o) (E4 _ (E4 _ (qb U e)))).2.1
  cases f with
  | next=>obtain ⟨j,O,q,n7⟩:=Y; exact again q n7
  | cont=>obtain ⟨j,O,q,n7⟩:=Y; exact again q n7
  | brk=>obtain ⟨j,O,q,Y⟩:=Y; exact ⟨j,O,q.unpinned,Y⟩
  | ret v=>obtain ⟨x7,j,O,q,r7,Y⟩:=Y; exact ⟨x7,j,O,q.unpinned,r7,Y⟩
end
abbrev R2:=V->V->Hp->VK->Prop
def OpR (X:Cx) (f:aB->aB->Sem aB) (r:R2):Prop:=
 ∀ (pins:List (aA × Obj)) (s:aC) (σ:St) (H:Hp) (x y:V) (v u:aB) (Q:VK),Inv X pins σ H s->RelV x v->RelV y u->r x y H Q ->
  aI (aJ X.prog X.w) X.A (f v u) (EP X pins σ Q) X.xe s
def UnR (X:Cx) (f:aB->Sem aB) (r:V->Hp->VK->Prop):Prop:=
 ∀ (pins:List (aA × Obj)) (s:aC) (σ:St) (H:Hp) (x:V) (v:aB) (Q:VK),Inv X pins σ H s->RelV x v->r x H Q ->
  aI (aJ X.prog X.w) X.A (f v) (EP X pins σ Q) X.xe s
def j6 (X:Cx) (f:aB) (r:List V->Hp->VK->Prop):Prop:=
 ∀ (pins:List (aA × Obj)) (s:aC) (σ:St) (H:Hp) (xs:List V) (us:List aB) (Q:VK),Inv X pins σ H s->Vals xs us->r xs H Q ->
  aI (aJ X.prog X.w) X.A (call f us) (EP X pins σ Q) X.xe s
def tOp (r:R2) (ta tb:TE):TE:=fun σ H Q=>ta σ H fun x H1=>tb σ H1 fun y H2=>r x y H2 Q
def tUn (r:V->Hp->VK->Prop) (ta:TE):TE:=fun σ H Q=>ta σ H fun x H1=>r x H1 Q
def rI (C:Int->Int->Prop) (g:Int->Int->V):R2:=fun x y H Q=>∃ i j,x=.int i/\y=.int j/\C i j/\Q (g i j) H
def rI0 (g:Int->Int->V):R2:=fun x y H Q=>∃ i j,x=.int i/\y=.int j/\Q (g i j) H
def rU (g:Int->V):V->Hp->VK->Prop:=fun x H Q=>∃ i,x=.int i/\Q (g i) H
section
variable {X:Cx} {a b c:aD} {ta tb tc:TE} {pos:Pos}
theorem Qt7 (G:PE X a ta) (B:PE X b tb) {pins:List (aA × Obj)} {s:aC} {σ:St} {H:Hp} {R:V->V->Hp->Prop} (I:Inv X pins σ H s)
  (h:ta σ H fun x H1=>tb σ H1 fun y H2=>R x y H2) {Q:aB->aC->Prop} {f:aB->aB->Sem aB}
  (U:∀ v u s2 x y H2,Inv X pins σ H2 s2->RelV x v->RelV y u->R x y H2->aI (aJ X.prog X.w) X.A (f v u) Q X.xe s2) :
  aI (aJ X.prog X.w) X.A (aK a X.env) (fun v j=>aI (aJ X.prog X.w) X.A (aK b X.env) (fun u q=>aI (aJ X.prog X.w) X.A (f v u) Q X.xe q) X.xe j) X.xe s:=by
 refine thn (G pins s σ H _ I h) fun v s1 ⟨x,H1,O,z,q1⟩=>?_
 refine thn (B pins s1 σ H1 _ O q1) fun u s2 ⟨y,H2,J,Y,q2⟩=>?_
 exact U v u s2 x y H2 J z Y q2
theorem Quu {op:Operator} {r:R2} (O:OpR X (aW op) r) (G:PE X a ta) (B:PE X b tb):PE X (.BinOp a op b pos) (tOp r ta tb):=by
 intro pins s σ H Q I h;exact wpAny_BinOp (Qt7 G B I h fun v u s2 x y H2 z J j q=>O pins s2 σ H2 x y v u Q z J j q)
theorem Qus {op:UnaryOp} {r:V->Hp->VK->Prop} (z:UnR X (unaryOp op) r) (q:PE X a ta):PE X (.UnaryOp op a pos) (tUn r ta):=by
 intro pins s σ H Q I h;exact UnaryOp_ (thn (q pins s σ H _ I h) fun v s1 ⟨x,H1,B,j,q1⟩=>z pins s1 σ H1 x v Q B j q1)
theorem opI {f:aB->aB->Sem aB} {C:Int->Int->Prop} {g:Int->Int->Int}
  (rule:∀ (i j:Int) (t u:Tok) (s:aC) (Q:aB->aC->Prop) (E:aB->aC->Prop),C i j->Q (.int (g i j) s.toks) { s with toks:=s.toks + 1 }->aI (aJ X.prog X.w) X.A (f (.int i t) (.int j u)) Q E s) :
  OpR X f (rI C fun i j=>.int (g i j)):=by
 intro pins s σ H x y v u Q I G z h;obtain ⟨i,j,rfl,rfl,B,q⟩:=h;obtain ⟨t,rfl⟩:=G;obtain ⟨t',rfl⟩:=z;exact rule i j t t' s _ _ B ⟨.int (g i j),H,I.tok _,⟨_,rfl⟩,q⟩
theorem Qv4 {f:aB->aB->Sem aB} {g:Int->Int->Int}
  (rule:∀ (i j:Int) (t u:Tok) (s:aC) (Q:aB->aC->Prop) (E:aB->aC->Prop),Q (.int (g i j) s.toks) { s with toks:=s.toks + 1 }->aI (aJ X.prog X.w) X.A (f (.int i t) (.int j u)) Q E s) :
  OpR X f (rI0 fun i j=>.int (g i j)):=by
 intro pins s σ H x y v u Q I B z h;obtain ⟨i,j,rfl,rfl,q⟩:=h;obtain ⟨t,rfl⟩:=B;obtain ⟨t',rfl⟩:=z;exact rule i j t t' s _ _ ⟨.int (g i j),H,I.tok _,⟨_,rfl⟩,q⟩
theorem Qnx {f:aB->aB->Sem aB} {g:Int->Int->Bool}
  (rule:∀ (i j:Int) (t u:Tok) (s:aC) (Q:aB->aC->Prop) (E:aB->aC->Prop),Q (.bool (g i j)) s->aI (aJ X.prog X.w) X.A (f (.int i t) (.int j u)) Q E s) :
  OpR X f (rI0 fun i j=>.bl (g i j)):=by
 intro pins s σ H x y v u Q I B z h;obtain ⟨i,j,rfl,rfl,q⟩:=h;obtain ⟨t,rfl⟩:=B;obtain ⟨t',rfl⟩:=z;exact rule i j t t' s _ _ ⟨.bl (g i j),H,I,rfl,q⟩
def Qya (i j:Int):Prop:=0 < j/\j < 1073741824
def Qy9 (i j:Int):Prop:=0<=j/\j<=1000000/\i.natAbs < 2 ^ 64
def CMul (i j:Int):Prop:=(-(2 ^ 64) < i/\i < 2 ^ 64)\/(-(2 ^ 64) < j/\j < 2 ^ 64)
theorem CMul.ok {i j:Int} (h:CMul i j):IntMulOk i j:=by
 rcases h with ⟨h1,h2⟩ | ⟨h1,h2⟩
 ·exact .of_left (intBits_le_64 h1 h2)
 ·exact .of_right (intBits_le_64 h1 h2)
theorem Qsc:OpR X (aW .Add) (rI0 fun i j=>.int (i + j)):=Qv4 fun _ _ _ _ _ _ _ q=>add_int q
theorem Qs5:OpR X (aW .Sub) (rI0 fun i j=>.int (i - j)):=Qv4 fun _ _ _ _ _ _ _ q=>sub_int q
theorem Qs8:OpR X (aW .Mult) (rI CMul fun i j=>.int (i * j)):=opI fun _ _ _ _ _ _ _ z q=>mul_int q z.ok
theorem Qnv:OpR X (aW .FloorDiv) (rI Qya fun i j=>.int (i / j)):=opI fun i j _ _ _ _ _ z q=>by
 have h1:(0:Int) < j:=z.1;have h2:j < 1073741824:=z.2;exact floordiv_int (by omega) (by rw [fP i (by omega)]; exact q) (.inl (PyProof.noPylong_small (by omega)))
theorem Qs9:OpR X (aW .Mod) (rI (fun _ j=>0 < j) fun i j=>.int (i % j)):=opI fun i j _ _ _ _ _ z q=>by
 have h1:(0:Int) < j:=z;exact mod_int' (by omega) (by rw [Int.fmod_eq_emod_of_nonneg i (by omega)]; exact q)
theorem Qs7:OpR X (aW .Pow) (rI Qy9 fun i j=>.int (i ^ j.toNat)):=opI fun _ _ _ _ _ _ _ z q=>pow_int_small z.1 z.2.1 z.2.2 q
theorem unI {f:aB->Sem aB} {g:Int->Int}
  (rule:∀ (i:Int) (t:Tok) (s:aC) (Q:aB->aC->Prop) (E:aB->aC->Prop),Q (.int (g i) s.toks) { s with toks:=s.toks + 1 }->aI (aJ X.prog X.w) X.A (f (.int i t)) Q E s) :
  UnR X f (rU fun i=>.int (g i)):=by
 intro pins s σ H x v Q I j h;obtain ⟨i,rfl,q⟩:=h;obtain ⟨t,rfl⟩:=j;exact rule i t s _ _ ⟨.int (g i),H,I.tok _,⟨_,rfl⟩,q⟩
theorem Qr0:UnR X (unaryOp .USub) (rU fun i=>.int (-i)):=unI fun _ _ _ _ _ q=>neg_int q
end
section
variable {X:Cx} {a b c:aD} {ta tb tc:TE} {pos:Pos}
theorem Qkb {pins:List (aA × Obj)} {σ:St} {H:Hp} {s:aC} {Q:VK} {k j:Bool} (I:Inv X pins σ H s) (q:Q (.bl k) H) (e:k=j):EP X pins σ Q (.bool j) s:=by
 subst e;exact ⟨.bl k,H,I,rfl,q⟩
theorem Qv0:OpR X (aV .Lt) (rI0 fun i j=>.bl (decide (i < j))):=Qnx fun _ _ _ _ _ _ _ q=>lt_int q
theorem Qv1:OpR X (aV .LtE) (rI0 fun i j=>.bl (decide (i<=j))):=Qnx fun _ _ _ _ _ _ _ q=>le_int q
theorem Qv2:OpR X (aV .Gt) (rI0 fun i j=>.bl (decide (j < i))):=Qnx fun _ _ _ _ _ _ _ q=>gt_int q
theorem Qv3:OpR X (aV .GtE) (rI0 fun i j=>.bl (decide (j<=i))):=Qnx fun _ _ _ _ _ _ _ q=>ge_int q
theorem OpR.or {f:aB->aB->Sem aB} {r z:R2} (h:OpR X f r) (h':OpR X f z):OpR X f (fun x y H Q=>r x y H Q\/z x y H Q):=by
 intro pins s σ H x y v u Q I B j q;rcases q with q | q
 ·exact h pins s σ H x y v u Q I B j q
 ·exact h' pins s σ H x y v u Q I B j q
theorem Qjq (b:aD) {op:CmpOp} (h:op≠.In:=by decide) (h2:op≠.NotIn:=by decide):bC op b=false:=by
 have e1:(op == CmpOp.In)=false:=by cases op <;> first | rfl | exact absurd rfl h
 have e2:(op == CmpOp.NotIn)=false:=by cases op <;> first | rfl | exact absurd rfl h2
 cases b <;> simp [bC,e1,e2]
theorem Qnn {op:CmpOp} {r:R2} (O:OpR X (aV op) r) (G:PE X a ta) (B:PE X b tb) (z:bC op b=false):PE X (.Compare a [op] [b] pos) (tOp r ta tb):=by
 intro pins s σ H Q I h;exact wpAny_Compare1 (Qt7 G B I h fun v u s2 x y H2 U J j q=>O pins s2 σ H2 x y v u Q U J j q) z
def Qqb (t:TE):TT:=fun σ H Q=>t σ H fun x H'=>∃ k,x=.bl k/\Q k H'
theorem Qn8 {op:CmpOp} {r:R2} (Y:OpR X (aV op) r) (U:PE X a ta) (G:PE X b tb) (B:bC op b=false):PT X (.Compare a [op] [b] pos) (Qqb (tOp r ta tb)):=by
 intro pins s σ H Q I h;refine wpAny_isTrue_Compare1 (thn (U pins s σ H _ I h) fun v s1 ⟨x,H1,I1,j,q1⟩=>thn (G pins s1 σ H1 _ I1 q1) fun u s2 ⟨y,H2,Z,r2,q2⟩=>
  thn (Y pins s2 σ H2 x y v u _ Z j r2 q2) fun c s3 ⟨z,O,q,J,k,e,q3⟩=>?_) B
 subst e;cases J;exact am ⟨O,q,q3⟩
def Qdw (r r':R2) (ta tb tc:TE):TE:=fun σ H Q=>ta σ H fun x H1=>tb σ H1 fun y H2=>r x y H2 fun z H3=>∃ k,z=.bl k /\
 (if k=true then tc σ H3 fun w' H4=>r' y w' H4 Q else Q (.bl false) H3)
theorem Qje {op j:CmpOp} {r B:R2} (ho:OpR X (aV op) r) (q:OpR X (aV j) B) (ha:PE X a ta) (hb:PE X b tb) (Y:PE X c tc)
  (hm:lastMarks [op,j] [b,c]=false:=by with_unfolding_all rfl):PE X (.Compare a [op,j] [b,c] pos) (Qdw r B ta tb tc):=by
 intro pins s σ H Q I h;refine Compare_chain (thn (ha pins s σ H _ I h) fun v s1 ⟨x,H1,I1,r1,q1⟩=>chain_link (thn (hb pins s1 σ H1 _ I1 q1) fun u s2 ⟨y,H2,U,O,q2⟩=>
  thn (ho pins s2 σ H2 x y v u _ U r1 O q2) fun d s3 ⟨z,J,G,r3,k,e,q3⟩=>?_)) hm
 subst e;cases r3;refine am ?_;cases k with
 | false=>exact ite_ff ⟨.bl false,J,G,rfl,q3⟩
 | true=>exact ite_tt (chain_last (thn (Y pins s3 σ J _ G q3) fun w' Z ⟨z',H4,I4,r4,q4⟩=>q pins Z σ H4 y z' u w' Q I4 O r4 q4))
theorem Qiz {op j:CmpOp} {r B:R2} (ho:OpR X (aV op) r) (q:OpR X (aV j) B) (ha:PE X a ta) (hb:PE X b tb) (Y:PE X c tc)
  (hm:lastMarks [op,j] [b,c]=false:=by with_unfolding_all rfl):PT X (.Compare a [op,j] [b,c] pos) (Qqb (Qdw r B ta tb tc)):=by
 intro pins s σ H Q I h;refine isTrue_chain (thn (ha pins s σ H _ I h) fun v s1 ⟨x,H1,I1,r1,q1⟩=>test_link (thn (hb pins s1 σ H1 _ I1 q1) fun u s2 ⟨y,H2,U,O,q2⟩=>
  thn (ho pins s2 σ H2 x y v u _ U r1 O q2) fun d s3 ⟨z,J,G,r3,k,e,q3⟩=>?_)) hm
 subst e;cases r3;refine am ?_;cases k with
 | false=>
  obtain ⟨k',e',q'⟩:=q3;cases e';exact ite_ff ⟨J,G,q'⟩
 | true=>
  refine ite_tt (test_last (thn (Y pins s3 σ J _ G q3) fun w' Z ⟨z',H4,I4,r4,q4⟩=>thn (q pins Z σ H4 y z' u w' _ I4 O r4 q4) fun d' s5 ⟨z2,H5,I5,r5,k2,e2,q5⟩=>?_))
  subst e2;cases r5;exact am ⟨H5,I5,q5⟩
theorem Q52:(sizeLine:Nat) < 2 ^ 63:=by rw [sizeLine_eq]; decide
theorem Qe8:OpR X (aW .Add) (fun x y H Q=>∃ i j,x=.str i/\y=.str j/\i.length + j.length<=sizeLine/\Q (.str (i ++ j)) H):=by
 intro pins s σ H x y v u Q I B z h;obtain ⟨i,j,rfl,rfl,hz,q⟩:=h;obtain ⟨t,rfl⟩:=B;obtain ⟨t',rfl⟩:=z;exact add_str (fun t' tk=>⟨.str (i ++ j),H,I.tok _,⟨_,rfl⟩,q⟩) hz
theorem Q2k {x:V} {us:List aB} (r:Vals [x] us):∃ u,us=[u]/\RelV x u:=by
 cases r with
 | cons j q=>cases q; exact ⟨_,rfl,j⟩
theorem Qib {x y:V} {us:List aB} (r:Vals [x,y] us):∃ u j,us=[u,j]/\RelV x u/\RelV y j:=by
 cases r with
 | cons q G=>
  cases G with
  | cons z B=>cases B; exact ⟨_,_,rfl,q,z⟩
theorem Qhs (B:X.calm=true):j6 X (.builtin "max") (fun xs H Q=>∃ i j,xs=[.int i,.int j]/\Q (.int (if j > i then j else i)) H):=by
 intro pins s σ H xs us Q I r h;obtain ⟨i,j,rfl,q⟩:=h;obtain ⟨u,G,rfl,⟨t,rfl⟩,⟨t',rfl⟩⟩:=Qib r;refine max_two_ints (I.ok.hd B) fun h' tk k=>⟨_,H,I.kept k,?_,q⟩
 by_cases z:j > i
 ·rw [bJ z,bJ z]; exact ⟨_,rfl⟩
 ·rw [bK z,bK z]; exact ⟨_,rfl⟩
theorem Qhq (B:X.calm=true):j6 X (.builtin "min") (fun xs H Q=>∃ i j,xs=[.int i,.int j]/\Q (.int (if j < i then j else i)) H):=by
 intro pins s σ H xs us Q I r h;obtain ⟨i,j,rfl,q⟩:=h;obtain ⟨u,G,rfl,⟨t,rfl⟩,⟨t',rfl⟩⟩:=Qib r;refine min_two_ints (I.ok.hd B) fun h' tk k=>⟨_,H,I.kept k,?_,q⟩
 by_cases z:j < i
 ·rw [bJ z,bJ z]; exact ⟨_,rfl⟩
 ·rw [bK z,bK z]; exact ⟨_,rfl⟩
end
structure ObjM (h:Heap) (x dx C:aA) (mA:Str->Option aB):Prop where
 obj:h.get? x=some (cC C dx)
 ns:h.Ns1 dx mA
 ne:dx≠x
theorem Qa9 {h:Heap} {dx:aA} {mA:Str->Option aB} (n:h.Ns1 dx mA):∃ B,h.get? dx=some B/\∀ name,dJ name B=some (mA name):=by
 obtain ⟨o,es,Y,J,hd,I,_,G⟩:=n;refine ⟨o,J,fun name=>?_⟩;have e:=G name;unfold nsFind findBy at e;rw [<- Array.find?_toList] at e;unfold dJ;rw [hd];dsimp only
 split
 ·rename_i y q;rw [q] at e;exact congrArg some e
 ·rename_i q;rw [q] at e;have a:es.toList.any (·.refKey)=false:=by
   rw [fQ];intro y U;obtain ⟨z,t,j⟩:=I y (Array.mem_toList_iff.mp U);simp [DictEntry.refKey,j]
  have O:¬ es.toList.any (·.refKey)=true:=by rw [a]; exact D7
  rw [bK O];exact congrArg some e
theorem ObjM.look {h:Heap} {x dx C:aA} {mA:Str->Option aB} (I:ObjM h x dx C mA):∃ j,PySem.W.InstAt h x (cC C dx) C (some j)/\∀ name,dJ name j=some (mA name):=
 let ⟨j,q,z⟩:=Qa9 I.ns
 ⟨j,⟨I.obj,rfl,rfl,q⟩,z⟩
section
variable {prog:aN} {w:aL} {A:aR} {E:aB->aC->Prop} {s:aC} {K:bP} {x dx C f:aA} {mA:Str->Option aB} {name:Str} {v:aB}
theorem Qps {j:Bool} {Q:aB->aC->Prop} (X:K.In s.heap) (I:ObjM s.heap x dx C mA) (B:cv K C name=true) (U:dL K C=true)
  (O:bX K (.ref C) name=some none) (G:mA name=some v) (q:fR v=true) (h:Q v { s with toks:=s.toks + 1 }) :
  aI (aJ prog w) A (getAttr (.ref x) name j) Q E s:=by
 obtain ⟨Y,J,z⟩:=I.look;exact PySem.W.get_value X J (dz B).1 (PySem.W.findObj_own U O rfl (by rw [z,G])) q h
theorem Qk7 {pl:Sem Bool} {Q:aB × List aB->aC->Prop} (X:K.In s.heap) (I:ObjM s.heap x dx C mA) (j:cv K C name=true)
  (G:bX K (.ref C) name=some (some (.ref f))) (O:bf K (.ref f)=true) (B:mA name=none) (h:Q (.ref f,[.ref x]) s) :
  aI (aJ prog w) A (getMethod (.ref x) name pl) Q E s:=by
 obtain ⟨z,J,q⟩:=I.look;exact PySem.W.method_fn X J (dz j).1 (dz j).2 G (beq_iff_eq.mp O) (by show (dJ name z).map (·.isSome)=some false; rw [q,B]; rfl) h
theorem Qmu {ns:List Str} {Q:Unit->aC->Prop} (X:K.In s.heap) (I:ObjM s.heap x dx C mA)
  (hs:bX K (.ref C) "__setattr__" = some (some (.builtin "object.__setattr__"))) (hp:eA K C=true) (ht:eB K C name=some none) (hh:dL K C=true)
  (hw:dq mA ns) (a2:ns.length<=sizeLine)
  (h:∀ h',ObjM h' x dx C (fun y=>if y=name then some v else mA y)->Heap.SameBut dx s.heap h'->Q () { s with heap:=h',toks:=s.toks + 2 }) :
  aI (aJ prog w) A (setAttr (.ref x) name v) Q E s:=by
 obtain ⟨od,J,hl⟩:=I.look;refine PySem.W.set_plain X J hs (PySem.W.osa_open (s:={ s with toks:=s.toks + 1 }) (r:=none) X J hp ht fun b=>?_)
 obtain ⟨cd,U,z⟩:=PySem.W.any_some hh;have hx:s.heap.get? x=some ⟨.ref C,some dx,.plain,#[]⟩:=I.obj;refine aF (aS (aF (aF (wpAny_loadPart hx (aF (PySem.W.Looks.here (s:={ s with toks:=s.toks + 1 }) (PySem.W.looks_clsIn X U) ?_))))));rw [z];refine aS (a:=some dx) (aF (aS (aF ?_)));refine wpAny_nsSet1 (s:={ s with toks:=s.toks + 1 }) I.ns fun h' q j=>?_
 obtain ⟨oD,Y,Z,B,G,O⟩:=q.count (PySem.Within.cons name v hw);refine aF (wpAny_lookBehind B (by rw [G]; exact pastItsLine_dict (F1 O (by rw [D8]; omega))) ?_);exact aS (h _ ⟨(j.2 _ (Ne.symm I.ne)).trans I.obj,q,I.ne⟩ j)
theorem Qjt {R:Result->aC->Prop} {vs:List aB} {j:List (Str × aB)} (X:K.In s.heap) (q:eC K C=true)
  (hi:bX K (.ref C) "__init__" = some (some (.ref f))) (z:PySem.W.typeIn K (.ref f)=some (.type "function"))
  (h:codeAny (aJ prog w) (A.under (.builtin "type.__call__" ⟨.ref C :: vs,j⟩)) (.call (.ref f) ⟨.ref (s.heap.objs.size + 1) :: vs,j⟩) (PySem.W.InitBack (s.heap.objs.size + 1) R)
   { s with heap:=(s.heap.push bv).push (cC C s.heap.objs.size) }) :
  codeAny (aJ prog w) A (.call (.ref C) ⟨vs,j⟩) R s:=by
 obtain ⟨B,g,d,t,os⟩:=s;exact PySem.W.make_core (PySem.W.makes_of X q) (fS X hi) (fun self=>PySem.W.bind_fn X self z) (.inl rfl) h
end
def Q07 (f:Str) (v:V):List (Str × V)->List (Str × V)
 | []=>[(f,v)]
 | (g,x) :: r=>if g=f then (g,v) :: r else (g,x) :: Q07 f v r
theorem Q5i (f g:Str) (v:V):∀ fs:List (Str × V),(Q07 f v fs).lookup g=if g=f then some v else fs.lookup g
 | []=>by
  show bw g [(f,v)]=_
  by_cases h:g=f
  ·have j:(g == f)=true:=beq_iff_eq.mpr h;simp only [bw,j,bJ h]
  ·have j:(g == f)=false:=beq_eq_false_iff_ne.mpr h;simp only [bw,j,bK h]
 | (k,x) :: r=>by
  have z:=Q5i f g v r;rw [show Q07 f v ((k,x) :: r)=(if k=f then (k,v) :: r else (k,x) :: Q07 f v r) from rfl]
  by_cases q:k=f
  ·rw [bJ q]
   by_cases h:g=k
   ·have j:(g == k)=true:=beq_iff_eq.mpr h;simp only [bw,j,bJ (h.trans q)]
   ·have j:(g == k)=false:=beq_eq_false_iff_ne.mpr h;simp only [bw,j,bK (fun e:g=f=>h (e.trans q.symm))]
  ·rw [bK q]
   by_cases h:g=k
   ·have j:(g == k)=true:=beq_iff_eq.mpr h;simp only [bw,j,bK (fun e:g=f=>q (h.symm.trans e))]
   ·have j:(g == k)=false:=beq_eq_false_iff_ne.mpr h;simp only [bw,j];exact z
theorem Q55 (f:Str) (v:V):∀ fs:List (Str × V),f∈(Q07 f v fs).map (·.1)/\∀ g,g∈fs.map (·.1)->g∈(Q07 f v fs).map (·.1)
 | []=>⟨by simp [Q07],fun g h=>by simp at h⟩
 | (k,x) :: r=>by
  obtain ⟨q,z⟩:=Q55 f v r;rw [show Q07 f v ((k,x) :: r)=(if k=f then (k,v) :: r else (k,x) :: Q07 f v r) from rfl]
  by_cases j:k=f
  ·rw [bJ j];subst j;exact ⟨by simp,fun g h=>by simpa using h⟩
  ·rw [bK j];refine ⟨?_,fun g h=>?_⟩
   ·rw [F2];exact D0 _ q
   ·rw [F2] at h ⊢;rcases E3.mp h with e | e
    ·exact E3.mpr (.inl e)
    ·exact D0 _ (z g e)
theorem Q5j (f:Str) (v:V):∀ fs:List (Str × V),(Q07 f v fs).length<=fs.length + 1
 | []=>by simp [Q07]
 | (k,x) :: r=>by
  have q:=Q5j f v r;rw [show Q07 f v ((k,x) :: r)=(if k=f then (k,v) :: r else (k,x) :: Q07 f v r) from rfl]
  by_cases j:k=f
  ·rw [bJ j,D8,D8]; omega
  ·rw [bK j,D8,D8]; omega
theorem RelO.some_of {v:V} {o:Option aB} (r:RelO (some v) o):∃ u,o=some u/\RelV v u:=by
 cases o with
 | none=>exact (show False from r).elim
 | some u=>exact ⟨u,rfl,r⟩
theorem RelO.none_of {o:Option aB} (r:RelO none o):o=none:=by
 cases o with
 | none=>rfl
 | some u=>exact (show False from r).elim
theorem Qhh {v:V} {u:aB} (r:RelV v u):fR u=true:=by
 cases v with
 | non=>cases (show u=bb from r); rfl
 | bl b=>cases (show u=cB b from r); rfl
 | int i=>obtain ⟨t,e⟩:=(show ∃ t,u=cX i t from r); cases e; rfl
 | str x=>obtain ⟨t,e⟩:=(show ∃ t,u=cu x t from r); cases e; rfl
 | byt b=>obtain ⟨t,e⟩:=(show ∃ t,u=fJ b t from r); cases e; rfl
 | flt b=>obtain ⟨t,e⟩:=(show ∃ t,u=dm b t from r); cases e; rfl
 | ref a=>cases (show u=bW a from r); rfl
 | ty n=>cases (show u=dn n from r); rfl
section
variable {P:aN} {w:aL} {H H':Hp} {h h':Heap} {a C dx:aA} {fs fs':List (Str × V)}
theorem Q6d (hok:HOk P w H h) (e:H a=some (.ins C dx fs)):∃ mA,ObjM h a dx C mA/\(∀ f,RelO (fs.lookup f) (mA f))/\dq mA (fs.map (·.1))/\fs.length<=1000/\H dx=some (.own a):=by
 obtain ⟨d,z,ne,ob,mA,n,r,q⟩:=(show ObjOk P w H h a (.ins C dx fs) from hok a _ e);exact ⟨mA,⟨ob,n,ne⟩,r,q,z,d⟩
end
structure Cls (K:bP) (C:aA):Prop where
 pg:cv K C fT=true
 hd:dL K C=true
 po:eA K C=true
 sa:bX K (.ref C) "__setattr__" = some (some (.builtin "object.__setattr__"))
theorem Cls.get {K:bP} {C:aA} (c:Cls K C) (f:Str):cv K C f=true:=c.pg
def NoAttr (K:bP) (C:aA) (f:Str):Prop:=bX K (.ref C) f=some none
theorem NoAttr.taker {K:bP} {C:aA} {f:Str} (n:NoAttr K C f):eB K C f=some none:=by
 unfold eB;rw [show bX K (.ref C) f=some none from n];rfl
structure Meth (K:bP) (C:aA) (m:Str) (f:aA):Prop where
 at_:bX K (.ref C) m=some (some (.ref f))
 fn:bf K (.ref f)=true
 kp:bS K (.ref f)=true
section
variable {X:Cx} {pins:List (aA × Obj)} {σ:St} {H:Hp} {s:aC} {a C dx:aA} {fs:List (Str × V)} {f:Str} {v:V} {A:aR} {E:aB->aC->Prop}
theorem Qer {b:Bool} {Q:aB->aC->Prop} (I:Inv X pins σ H s) (e:H a=some (.ins C dx fs)) (c:Cls X.K C) (n:NoAttr X.K C f) (l:fs.lookup f=some v)
  (h:∀ u s',Inv X pins σ H s'->RelV v u->Q u s'):aI (aJ X.prog X.w) A (getAttr (.ref a) f b) Q E s:=by
 obtain ⟨mA,O,r,_,_,_⟩:=Q6d I.hok e;obtain ⟨u,q,j⟩:=RelO.some_of (v:=v) (o:=mA f) (by rw [<- l]; exact r f);exact Qps I.kIn O (c.get f) c.hd n q (Qhh j) (h u _ (I.tok _) j)
theorem Q87 {m:Str} {g:aA} {pl:Sem Bool} {Q:aB × List aB->aC->Prop} (I:Inv X pins σ H s) (e:H a=some (.ins C dx fs)) (c:Cls X.K C) (k:Meth X.K C m g) (l:fs.lookup m=none)
  (h:Q (.ref g,[.ref a]) s):aI (aJ X.prog X.w) A (getMethod (.ref a) m pl) Q E s:=by
 obtain ⟨mA,O,r,_,_,_⟩:=Q6d I.hok e;have j:mA m=none:=RelO.none_of (by rw [<- l]; exact r m);exact Qk7 I.kIn O (c.get m) k.at_ k.fn j h
theorem Qe1 {y:V} {u:aB} {Q:Unit->aC->Prop} (I:Inv X pins σ H s) (e:H a=some (.ins C dx fs)) (c:Cls X.K C) (n:NoAttr X.K C f) (hl:fs.length < 1000) (J:RelV y u)
  (h:∀ s',Inv X pins σ (upd H a (.ins C dx (Q07 f y fs))) s'->Q () s'):aI (aJ X.prog X.w) A (setAttr (.ref a) f u) Q E s:=by
 obtain ⟨mA,O,r,B,_,G⟩:=Q6d I.hok e;have hz:(fs.map (·.1)).length<=sizeLine:=by rw [O2,sizeLine_eq]; omega
 refine Qmu I.kIn O c.sa c.po n.taker c.hd B hz fun h' j sb=>h _ ?_
 have hd:∃ o,h'.get? dx=some o:=let ⟨o,_,_,Z,_⟩:=j.ns; ⟨o,Z⟩;refine I.write (x:=a) (e:=dx) (by rw [e]; exact True.intro) (.inr G) (fun b q U z=>(sb.2 b U).trans z) hd ?_
 refine ⟨by rw [Qh O.ne]; exact G,?_,O.ne,j.obj,_,j.ns,fun g=>?_,fun g Y=>?_⟩
 ·have:=Q5j f y fs; omega
 ·show RelO ((Q07 f y fs).lookup g) (if g=f then some u else mA g);rw [Q5i]
  by_cases q:g=f
  ·rw [bJ q,bJ q]; exact J
  ·rw [bK q,bK q]; exact r g
 ·by_cases q:g=f
  ·rw [q]; exact (Q55 f y fs).1
  ·refine (Q55 f y fs).2 g (B g fun z=>Y ?_);show (if g=f then some u else mA g)=none;rw [bK q]; exact z
theorem Inv.made (I:Inv X pins σ H s):Inv X pins σ (upd (upd H s.heap.objs.size (.own (s.heap.objs.size + 1))) (s.heap.objs.size + 1) (.ins C s.heap.objs.size []))
  { s with heap:=(s.heap.push bv).push (cC C s.heap.objs.size) }:=by
 have e1:(s.heap.push bv).get? s.heap.objs.size=some bv:=D6 s.heap rfl;have e2:((s.heap.push bv).push (cC C s.heap.objs.size)).get? (s.heap.objs.size + 1)=some (cC C s.heap.objs.size):=by
  have:=D6 (s.heap.push bv) (o:=cC C s.heap.objs.size) rfl
  rwa [F4] at this
 have e3:(s.heap.push bv).Ns s.heap.objs.size (fun _=>none):=⟨bv,#[],_,e1,rfl,(fun e j=>absurd j (by simp)),fun _=>rfl⟩;have z:=I.laid (a:=s.heap.objs.size) (o:=.own (s.heap.objs.size + 1)) (h':=s.heap.push bv) (t':=s.toks) (fun b u q=>O0 _ q) (O7 _) ⟨_,e1⟩;refine z.laid (a:=s.heap.objs.size + 1) (o:=.ins C s.heap.objs.size []) (t':=s.toks) (fun b u q=>O0 _ q) (eE (F4 _ _)) ?_;have ne:s.heap.objs.size≠s.heap.objs.size + 1:=F0 (cY _);refine ⟨by rw [Qh ne,Jb],cM _,ne,e2,fun _=>none,(Heap.Ns1.of_empty e3).at fun o q=>O0 _ q,fun _=>True.intro,fun y B=>absurd rfl B⟩
theorem Qg1 {prog:aN} {w:aL} {env:Env} {e:aD} {f:Str} {pos:Pos} {s:aC} {Q:aB->aC->Prop} (q:ag e f env (aK e env)=aK e env)
  (h:aI (aJ prog w) A (aK e env) (fun o j=>aI (aJ prog w) A (getAttr o f true) Q E j) E s):aI (aJ prog w) A (aK (.Attribute e f pos) env) Q E s:=
 Attribute_any_ h (by rw [arm_eval_Attribute,q])
end
def Qxg (K:bP) (ta:TE) (f:Str):TE:=fun σ H Q=>ta σ H fun x H1=>∃ a C dx fs v,x=.ref a/\H1 a=some (.ins C dx fs)/\Cls K C/\NoAttr K C f/\fs.lookup f=some v/\Q v H1
def Qxi (K:bP) (ta tv:TE) (f:Str):TS:=fun D σ H=>tv σ H fun y H1=>ta σ H1 fun x H2=>∃ a C dx fs,x=.ref a/\H2 a=some (.ins C dx fs)/\Cls K C/\NoAttr K C f/\fs.length < 1000 /\
 D.nx σ (upd H2 a (.ins C dx (Q07 f y fs)))
section
variable {X:Cx} {o e value:aD} {f:Str} {pos pos' tpos:Pos} {ta tv:TE}
theorem Qrz (B:PE X e ta) (j:ag e f X.env (aK e X.env)=aK e X.env):PE X (.Attribute e f pos) (Qxg X.K ta f):=by
 intro pins s σ H Q I h;refine Qg1 j (thn (B pins s σ H _ I h) fun u s1 ⟨x,H1,U,J,a,C,dx,fs,v,ex,G,c,n,l,q⟩=>?_)
 subst ex;obtain rfl:u=bW a:=J;exact Qer U G c n l fun Y s2 O z=>⟨v,H1,O,z,q⟩
theorem Qrp (J:PE X o ta) (G:PE X value tv) (hs:swapsWith value (some (.Attribute o f pos')) pos.line X.env=pure false):PS X (.Assign [.Attribute o f pos'] value pos) (Qxi X.K ta tv f):=by
 intro pins s σ H D I h;refine plainObj_wpAny_Assign_Attribute (thn (G pins s σ H _ I h) fun u s1 ⟨y,H1,Z,j,q⟩=>thn (J pins s1 σ H1 _ Z q) fun B s2 ⟨x,H2,Y,U,a,C,dx,fs,ex,O,c,n,l,q2⟩=>?_) hs
 subst ex;obtain rfl:B=bW a:=U;exact Qe1 Y O c n l j fun s3 z=>⟨σ,_,z,q2⟩
end
section
variable {X:Cx} {pins:List (aA × Obj)} {σ:St} {H:Hp} {s:aC} {A:aR} {E:aB->aC->Prop} {Q:aB->aC->Prop} {c:aB} {b:Bool}
inductive TyOf (K:bP) (H:Hp):V->aB->Prop where
 | non:TyOf K H .non (.type "NoneType")
 | bl (x:Bool):TyOf K H (.bl x) (.type "bool")
 | int (i:Int):TyOf K H (.int i) (.type "int")
 | str (x:Str):TyOf K H (.str x) (.type "str")
 | flt (x:UInt64):TyOf K H (.flt x) (.type "float")
 | lst {a:aA} {xs:List V} (e:H a=some (.lst xs)):TyOf K H (.ref a) (.type "list")
 | frz {a:aA} {o:Obj} {xs:List V} (e:H a=some (.frz o (.lst xs))):TyOf K H (.ref a) (.type "list")
 | tup {a:aA} {xs:List V} (e:H a=some (.tup xs)):TyOf K H (.ref a) (.type "tuple")
 | dK {a:aA} {kvs:List (Key × V)} (e:H a=some (.dK kvs)):TyOf K H (.ref a) (.type "dict")
 | dT {a:aA} {kvs:List (List Key × V)} (e:H a=some (.dT kvs)):TyOf K H (.ref a) (.type "dict")
 | ins {a C dx:aA} {fs:List (Str × V)} (e:H a=some (.ins C dx fs)) (cl:Cls K C) (ha:bX K (.ref C) "__class__" = some (some (.builtin "object.__class__")))
   (hn:eF K (.builtin "object.__class__") "__get__" = some (some (.builtin "getset_descriptor.__get__"))) (htk:fU K (.builtin "object.__class__")=some true)
   (hm:eG K C (.type "object")=some true):TyOf K H (.ref a) (.ref C)
theorem Qhc {x:V} {u t:aB} (I:Inv X pins σ H s) (B:RelV x u) (ty:TyOf X.K H x t) (e:eI X.K t c=some b) (h:∀ tk,Q (.bool b) { s with toks:=tk }) :
  aI (aJ X.prog X.w) A (call (.builtin "isinstance") [u,c]) Q E s:=by
 cases ty with
 | non=>cases (show u=bb from B); exact bp PySem.W.kitx_none I.kIn True.intro e (fun z=>nomatch z) h
 | bl y=>cases (show u=cB y from B); exact bp PySem.W.kitx_bool I.kIn True.intro e (fun z=>nomatch z) h
 | int i=>obtain ⟨t,q⟩:=(show ∃ t,u=cX i t from B); cases q; exact bp PySem.W.kitx_int I.kIn True.intro e (fun z=>nomatch z) h
 | str y=>obtain ⟨t,q⟩:=(show ∃ t,u=cu y t from B); cases q; exact bp PySem.W.kitx_str I.kIn True.intro e (fun z=>nomatch z) h
 | flt y=>obtain ⟨t,q⟩:=(show ∃ t,u=dm y t from B); cases q; exact bp PySem.W.kitx_float I.kIn True.intro e (fun z=>nomatch z) h
 | @lst a xs j=>
  cases (show u=bW a from B);obtain ⟨_,_,n,_,h1⟩:=(show ObjOk X.prog X.w H s.heap a (.lst xs) from I.hok a _ j);exact bp fV I.kIn ⟨_,h1,rfl⟩ e (fun z=>nomatch z) h
 | @frz a ob xs j=>
  cases (show u=bW a from B);obtain ⟨_,_,_,n,_,h1⟩:=(show ObjOk X.prog X.w H s.heap a (.frz ob (.lst xs)) from I.hok a _ j);exact bp fV I.kIn ⟨_,h1,rfl⟩ e (fun z=>nomatch z) h
 | @tup a xs j=>
  cases (show u=bW a from B);obtain ⟨_,_,_,p⟩:=(show ObjOk X.prog X.w H s.heap a (.tup xs) from I.hok a _ j);obtain ⟨o,h1,h2,_⟩:=p;exact bp PySem.W.kitx_tuple I.kIn ⟨o,h1,h2⟩ e (fun z=>nomatch z) h
 | @dK a kvs j=>
  cases (show u=bW a from B);obtain ⟨_,_,vs,_,p⟩:=(show ObjOk X.prog X.w H s.heap a (.dK kvs) from I.hok a _ j);obtain ⟨o,es,ep,h1,h2,_⟩:=p;exact bp fW I.kIn ⟨o,h1,h2.1⟩ e (fun z=>nomatch z) h
 | @dT a kvs j=>
  cases (show u=bW a from B);obtain ⟨_,_,xs,_,o,es,ep,h1,h2,_⟩:=(show ObjOk X.prog X.w H s.heap a (.dT kvs) from I.hok a _ j);exact bp fW I.kIn ⟨o,h1,h2.1⟩ e (fun z=>nomatch z) h
 | @ins a C dx fs j cl Z Y G U=>
  cases (show u=bW a from B);obtain ⟨mA,O,_⟩:=Q6d I.hok j;obtain ⟨od,J,_⟩:=O.look;exact bp (PySem.W.kitx_own (cl.get _) cl.hd Z Y G U) I.kIn J e (fun z=>nomatch z) h
end
structure Room (k:Nat) (A:aR):Prop where
 hd:A.handled=none
 dp:A.depth + 3 * k + 5 < recursionLimit
 un:A.units + 16 * k + 200 < aa
theorem Room.mono {j k:Nat} {A:aR} (r:Room k A) (h:j<=k):Room j A:=⟨r.hd,by have:=r.dp; omega,by have:=r.un; omega⟩
theorem Room.deeper {k:Nat} {A:aR} (r:Room (k + 1) A) (env:Env):Room k (A.deeper env):=
 ⟨r.hd,by have:=r.dp; show A.depth + 1 + 3 * k + 5 < _; omega,by have:=r.un; show A.units + 3 + 16 * k + 200 < _; omega⟩
theorem Qeh {A:aR} {C:aA} {us:List aB} {j:List (Str × aB)}:(A.under (.builtin "type.__call__" ⟨.ref C :: us,j⟩)).depth=A.depth + 1:=by
 first | rfl | simp [Around.under,Code.weight,Code.isCreation,Code.isGuard,Code.isCaller,Code.frames,Code.isFrame,guardIds]
theorem Qeg {A:aR} {C:aA} {us:List aB} {j:List (Str × aB)}:(A.under (.builtin "type.__call__" ⟨.ref C :: us,j⟩)).units=A.units + 1:=by
 first | rfl | simp [Around.under,Code.cUnits,Code.frames,Code.isFrame]
theorem Room.make {k:Nat} {A:aR} (r:Room (k + 1) A) (C:aA) (us:List aB) (j:List (Str × aB)):Room k (A.under (.builtin "type.__call__" ⟨.ref C :: us,j⟩)):=
 ⟨r.hd,by have:=r.dp; rw [Qeh]; omega,by have:=r.un; rw [Qeg]; omega⟩
theorem Room.depth {k:Nat} {A:aR} (r:Room k A):A.depth < recursionLimit:=by have:=r.dp; omega
theorem Room.units {k:Nat} {A:aR} (r:Room k A):A.units + 64 < aa:=by have:=r.un; omega
def Qu4:TA:=fun _ H Q=>Q [] H
def Qu9 (ta:TE) (tr:TA):TA:=fun σ H Q=>ta σ H fun x H1=>tr σ H1 fun xs H2=>Q (x :: xs) H2
section
variable {X:Cx} {e:aD} {es:List aD} {te:TE} {t:TA} {pos:Pos}
theorem Q77:PA X [] Qu4:=fun _ _ _ _ H Q I h=>Calls.spliced_nil ⟨[],H,I,.nil,h⟩
theorem Q08 (q:PE X e te) (z:PA X es t) (hs:aO (e :: es) X.env=(false,aK e X.env) :: aO es X.env:=by rfl):PA X (e :: es) (Qu9 te t):=by
 intro pos pins s σ H Q I h;rw [hs];show aI _ _ (spliced ((false,aK e X.env) :: aU pos (aO es X.env))) _ _ s;refine Calls.spliced_cons (thn (q pins s σ H _ I h) fun u s1 ⟨x,H1,G,j,q1⟩=>?_)
 exact thn (z pos pins s1 σ H1 _ G q1) fun us s2 ⟨xs,H2,B,J,q2⟩=>⟨x :: xs,H2,B,.cons j J,q2⟩
def Qx9 (t:TA):TE:=fun σ H Q=>t σ H fun xs H1=>xs.length<=sizeLine/\∀ p,H1 p=none->Q (.ref p) (upd H1 p (.tup xs))
def Qxd (t:TA):TE:=fun σ H Q=>t σ H fun xs H1=>xs.length<=sizeLine/\∀ p,H1 p=none->Q (.ref p) (upd H1 p (.lst xs))
theorem Qrv {x1} (h:PA X es t):PE X (.Tuple es x1 pos) (Qx9 t):=by
 intro pins s σ H Q I B;refine wpAny_Tuple_spliced (thn (h pos pins s σ H _ I B) fun us s1 ⟨xs,H1,j,r,z,q⟩=>⟨by rw [<- r.length]; exact z,?_⟩)
 have G:H1 s1.heap.objs.size=none:=j.hok.fresh (O7 _);refine ⟨.ref s1.heap.objs.size,upd H1 s1.heap.objs.size (.tup xs),j.laid (t':=s1.toks) (fun b u e=>O0 _ e) (O7 _) ?_,rfl,q _ G⟩;exact ⟨z,us,r,⟨_,D6 _ rfl,rfl,_,rfl⟩⟩
theorem Qjc (h:PA X es t):PE X (.List es pos) (Qxd t):=by
 intro pins s σ H Q I B;refine wpAny_List_spliced (thn (h pos pins s σ H _ I B) fun us s1 ⟨xs,H1,j,r,z,q⟩=>⟨by rw [<- r.length]; exact z,?_⟩)
 have G:H1 s1.heap.objs.size=none:=j.hok.fresh (O7 _);refine ⟨.ref s1.heap.objs.size,upd H1 s1.heap.objs.size (.lst xs),j.laid (t':=s1.toks) (fun b u e=>O0 _ e) (O7 _) ?_,rfl,q _ G⟩;exact ⟨z,us,0,r,D6 _ rfl⟩
end
abbrev Sp:=List V->Hp->VK->XK->Prop
abbrev CXT:=List Env->Hp->aC->XK->aB->aC->Prop
structure Env0 (P:aN) (w:aL) (K:bP) (mg:Str->Option aB) (base:Heap) (A:aR) (outer:List Env) (s:aC) (H:Hp):Prop where
 frames:A.frames=some outer
 mod:Mod K mg base
 bs:∀ b o,base.get? b=some o->s.heap.get? b=some o/\H b=none
 bsz:base.objs.size<=s.heap.objs.size
 funs:s.heap.FunFrames base outer
 frf:∀ b∈frs outer,H b=none
 hok:HOk P w H s.heap
 bare:AllBare s.gens
def CE (outer:List Env) (P:aN) (w:aL) (H:Hp) (s:aC) (Q:VK) (u:aB) (s':aC):Prop:=
 ∃ v H',s'.os=s.os/\AllBare s'.gens/\Un (frs outer) [] H H' s.heap s'.heap/\HOk P w H' s'.heap/\RelV v u/\Q v H'
def CR (CX:CXT) (outer:List Env) (P:aN) (w:aL) (H:Hp) (s:aC) (Q:VK) (E:XK) (r:Result) (s':aC):Prop:=
 match r with
 | .ok (.ret u)=>CE outer P w H s Q u s'
 | .ok _=>False
 | .error e=>CX outer H s E e s'
structure FnOk (P:aN) (w:aL) (K:bP) (mg:Str->Option aB) (base:Heap) (CX:CXT) (k:Nat) (f:aA) (fd:aP) (ps:List Str) (sp:Sp):Prop where
 len:∀ vs H Q E,sp vs H Q E->vs.length=ps.length
 run:∀ (A:aR) (outer:List Env) (s:aC) (H:Hp) (args:Args) (us:List aB) (vs:List V) (Q:VK) (E:XK),Room k A->Env0 P w K mg base A outer s H->BindsTo s fd args (ps.zip us)->Vals vs us->sp vs H Q E ->
  codeAny (aJ P w) A (.call (.ref f) args) (CR CX outer P w H s Q E) s
theorem FnOk.imp {P:aN} {w:aL} {K:bP} {mg:Str->Option aB} {base:Heap} {CX:CXT} {k:Nat} {f:aA} {fd:aP} {ps:List Str} {sp j:Sp} (F:FnOk P w K mg base CX k f fd ps sp)
  (h:∀ vs H Q E,j vs H Q E->sp vs H Q E):FnOk P w K mg base CX k f fd ps j:=
 ⟨fun vs H Q E q=>F.len vs H Q E (h _ _ _ _ q),fun A outer s H args us vs Q E I G z B hs=>F.run A outer s H args us vs Q E I G z B (h _ _ _ _ hs)⟩
theorem Env0.make {P:aN} {w:aL} {K:bP} {mg:Str->Option aB} {base:Heap} {A:aR} {outer:List Env} {s:aC} {H:Hp} (e:Env0 P w K mg base A outer s H) (C:aA) (us:List aB) (j:List (Str × aB)) :
  Env0 P w K mg base (A.under (.builtin "type.__call__" ⟨.ref C :: us,j⟩)) outer s H:=⟨by first | exact e.frames | (simpa [Around.under,Code.envs,Code.isFrame,pushEnvs] using e.frames),e.mod,e.bs,e.bsz,e.funs,e.frf,e.hok,e.bare⟩
section
variable {X:Cx} {pins:List (aA × Obj)} {σ:St} {H:Hp} {s s':aC}
theorem Inv.env0 (I:Inv X pins σ H s):Env0 X.prog X.w X.K X.mg X.base X.A X.stack s H:=
 ⟨I.ok.frames,I.ok.mod,I.bs,F1 I.ok.bsz I.sz,I.stack,I.stkFree,I.hok,I.bare⟩
theorem Inv.after {Q:VK} {u:aB} (I:Inv X pins σ H s) (h:CE X.stack X.prog X.w H s Q u s'):EP X pins σ Q u s':=by
 obtain ⟨v,H',os,bare,un,hok,r,q⟩:=h;obtain ⟨B,g,d,t,j⟩:=s';obtain rfl:j=s.os:=os;exact ⟨v,H',I.call (h':=B) (g':=g) (d':=d) (t':=t) (ch:=[]) un hok bare (fun b z=>absurd z (by simp)),r,q⟩
end
def Qua (sp:Sp) (dvs:List V) (E:XK) (t:TA):TE:=fun σ H Q=>t σ H fun vs H1=>sp (vs ++ dvs) H1 Q E
def Qqd (C:aA) (m:Str) (sp:Sp) (dvs:List V) (E:XK) (ta:TE) (t:TA):TE:=fun σ H Q=>ta σ H fun x H1=>∃ a dx fs,x=.ref a/\H1 a=some (.ins C dx fs)/\fs.lookup m=none /\
 t σ H1 fun vs H2=>sp (x :: (vs ++ dvs)) H2 Q E
def Qu5 (C:aA) (sp:Sp) (dvs:List V) (E:XK) (t:TA):TE:=fun σ H Q=>t σ H fun vs H1=>∀ x dx,H1 x=none->H1 dx=none->dx≠x ->
 sp (.ref x :: (vs ++ dvs)) (upd (upd H1 dx (.own x)) x (.ins C dx [])) (fun v H2=>v=.non/\Q (.ref x) H2) E
def Binds (K:bP) (fd:aP) (ps:List Str) (ds:List aB):Prop:=
 ∀ (s:aC) (us:List aB),K.In s.heap->(us ++ ds).length=ps.length->BindsTo s fd ⟨us,[]⟩ (ps.zip (us ++ ds))
theorem Binds.all {K:bP} {fd:aP} {ps:List Str} (h:∀ us:List aB,us.length=ps.length->bindArgs fd ⟨us,[]⟩=pure (ps.zip us)):Binds K fd ps []:=fun s us _ j=>by
 rw [bq] at j ⊢;exact .of_eq (h us j)
def jg (CX:CXT) (X:Cx) (E:XK):Prop:=∀ (pins:List (aA × Obj)) (σ:St) (H:Hp) (s:aC) (e:aB) (s':aC),Inv X pins σ H s->CX X.stack H s E e s'->X.xe e s'
section
variable {X:Cx} {CX:CXT} {k:Nat} {f C:aA} {fd:aP} {ps:List Str} {sp:Sp} {dvs:List V} {ds:List aB} {E:XK} {x m:Str} {p pos apos:Pos} {e o:aD} {es:List aD} {ta:TE} {t:TA}
theorem Qe3 {pins:List (aA × Obj)} {σ:St} {H:Hp} {s:aC} {Q:VK} {us:List aB} {vs:List V} (F:FnOk X.prog X.w X.K X.mg X.base CX k f fd ps sp) (J:Room k X.A) (G:Binds X.K fd ps ds) (hd:Vals dvs ds) (B:jg CX X E)
  (I:Inv X pins σ H s) (r:Vals vs us) (h:sp (vs ++ dvs) H Q E):aI (aJ X.prog X.w) X.A (call (.ref f) us) (EP X pins σ Q) X.xe s:=by
 have q:Vals (vs ++ dvs) (us ++ ds):=r.append hd;have z:(us ++ ds).length=ps.length:=by rw [<- q.length]; exact F.len _ _ _ _ h
 refine wpAny_call (bD (F.run X.A X.stack s H ⟨us,[]⟩ (us ++ ds) (vs ++ dvs) Q E J I.env0 (G s us I.kIn z) q h) fun r s' j=>?_)
 cases r with
 | error e=>exact B pins σ H s e s' I j
 | ok fl=>
  cases fl with
  | ret u=>exact I.after j
  | next=>exact False.elim j
  | brk=>exact False.elim j
  | cont=>exact False.elim j
theorem Qnp (F:FnOk X.prog X.w X.K X.mg X.base CX k f fd ps sp) (hr:Room k X.A) (U:Gl X x) (J:X.mg x=some (.ref f)) (hk:bS X.K (.ref f)=true) (O:Binds X.K fd ps ds) (hd:Vals dvs ds) (G:jg CX X E)
  (Y:PA X (e :: es) t) (j:(x == ("__debug__" : Str))=false:=by decide) (Z:aO (e :: es) X.env=(false,aK e X.env) :: aO es X.env:=by rfl) (z:(aU pos (aO es X.env)).any (·.1)=false:=by rfl) :
  PE X (.Call (.Name x p) (e :: es) [] pos) (Qua sp dvs E t):=by
 intro pins s σ H Q I h;refine wpAny_Call_Name_kw (jw I U J ?_ j);refine cw (h₀:=X.base) I.ok.mod.kin hk (thn (Y pos pins s σ H _ I h) fun us s1 ⟨vs,H1,B,r,q⟩=>⟨B.kIn,?_⟩) Z z
 exact Qe3 F hr O hd G B r q
theorem Qnj {pl:Sem Bool} (Z:PE X o ta) (c:Cls X.K C) (B:Meth X.K C m f) (F:FnOk X.prog X.w X.K X.mg X.base CX k f fd ps sp) (hr:Room k X.A) (U:Binds X.K fd ps ds) (hd:Vals dvs ds) (O:jg CX X E) (Y:PA X (e :: es) t)
  (j:aO (e :: es) X.env=(false,aK e X.env) :: aO es X.env:=by rfl) (z:(aU pos (aO es X.env)).any (·.1)=false:=by rfl)
  (ht:aK (.Call (.Attribute o m apos) (e :: es) [] pos) X.env=(do
   let ov <- aK o X.env
   standAt apos.atName
   let (f,first) <- ai [ov] (getMethod ov m pl)
   callWith pos f first (aU pos (aO (e :: es) X.env)) (backToKw pos (keywordEach [] X.env))):=by rfl) :
  PE X (.Call (.Attribute o m apos) (e :: es) [] pos) (Qqd C m sp dvs E ta t):=by
 intro pins s σ H Q I h;refine fX (pl:=pl) (thn (Z pins s σ H _ I h) fun u s1 ⟨x,H1,J,rx,a,dx,fs,ex,ea,l,q⟩=>?_) ht
 subst ex;obtain rfl:u=bW a:=rx;refine Q87 J ea c B l ?_;refine cw (first:=[.ref a]) (h₀:=X.base) I.ok.mod.kin B.kp (thn (Y pos pins s1 σ H1 _ J q) fun us s2 ⟨vs,H2,G,r,q2⟩=>⟨G.kIn,?_⟩) j z
 exact Qe3 (us:=.ref a :: us) (vs:=.ref a :: vs) F hr U hd O G (.cons rfl r) q2
theorem Qjb {pl:Sem Bool} (J:PE X o ta) (c:Cls X.K C) (z:Meth X.K C m f) (F:FnOk X.prog X.w X.K X.mg X.base CX k f fd ps sp) (O:Room k X.A) (G:Binds X.K fd ps ds) (hd:Vals dvs ds) (B:jg CX X E)
  (Z:aK (.Call (.Attribute o m apos) [] [] pos) X.env=(do
   let ov <- aK o X.env
   standAt apos.atName
   let (f,first) <- ai [ov] (getMethod ov m pl)
   callWith pos f first (aU pos (aO [] X.env)) (backToKw pos (keywordEach [] X.env))):=by rfl) :
  PE X (.Call (.Attribute o m apos) [] [] pos) (Qqd C m sp dvs E ta Qu4):=by
 intro pins s σ H Q I h;refine fX (pl:=pl) (thn (J pins s σ H _ I h) fun u s1 ⟨x,H1,j,U,a,dx,fs,ex,Y,l,q⟩=>?_) Z
 subst ex;obtain rfl:u=bW a:=U;refine Q87 j Y c z l ?_;exact PySem.W.callWith_K0 (first:=[.ref a]) j.kIn z.kp (Qe3 (us:=[.ref a]) (vs:=[.ref a]) F O G hd B j (.cons rfl .nil) q)
structure Mk (K:bP) (C f:aA):Prop where
 makes:eC K C=true
 init:bX K (.ref C) "__init__" = some (some (.ref f))
 fn:bf K (.ref f)=true
 kp:bS K (.ref C)=true
theorem Qit {pins:List (aA × Obj)} {σ:St} {H:Hp} {s:aC} {Q:VK} {us:List aB} {vs:List V} (M:Mk X.K C f) (F:FnOk X.prog X.w X.K X.mg X.base CX k f fd ps sp) (Z:Room (k + 1) X.A) (U:Binds X.K fd ps ds) (hd:Vals dvs ds)
  (O:jg CX X E) (I:Inv X pins σ H s) (r:Vals vs us)
  (h:∀ x dx,H x=none->H dx=none->dx≠x->sp (.ref x :: (vs ++ dvs)) (upd (upd H dx (.own x)) x (.ins C dx [])) (fun v H2=>v=.non/\Q (.ref x) H2) E) :
  aI (aJ X.prog X.w) X.A (call (.ref C) us) (EP X pins σ Q) X.xe s:=by
 have z:=h (s.heap.objs.size + 1) s.heap.objs.size (I.hok.fresh (cN _)) (I.hok.fresh (O7 _)) (F0 (cY _));have q:=Inv.made (C:=C) I;have B:Vals (V.ref (s.heap.objs.size + 1) :: (vs ++ dvs)) (bW (s.heap.objs.size + 1) :: (us ++ ds)):=.cons rfl (r.append hd);have J:(bW (s.heap.objs.size + 1) :: us ++ ds).length=ps.length:=by
  have e:=B.length;rw [F.len _ _ _ _ z] at e;exact e.symm
 refine wpAny_call (Qjt (f:=f) I.kIn M.makes M.init (beq_iff_eq.mp M.fn) (bD (F.run _ X.stack _ _ ⟨bW (s.heap.objs.size + 1) :: us,[]⟩ (bW (s.heap.objs.size + 1) :: (us ++ ds)) _ _ E (Z.make C us [])
  (q.env0.make C us []) (U _ (bW (s.heap.objs.size + 1) :: us) q.kIn J) B z) fun r s' j=>?_))
 cases r with
 | error e=>exact O pins σ _ _ e s' q j
 | ok fl=>
  cases fl with
  | ret u=>
   obtain ⟨v,H',G,Y,ev,q3⟩:=q.after j;subst ev;exact ⟨Y,⟨V.ref (s.heap.objs.size + 1),H',G,rfl,q3⟩⟩
  | next=>exact False.elim j
  | brk=>exact False.elim j
  | cont=>exact False.elim j
theorem Qnk (M:Mk X.K C f) (F:FnOk X.prog X.w X.K X.mg X.base CX k f fd ps sp) (hr:Room (k + 1) X.A) (U:Gl X x) (J:X.mg x=some (.ref C)) (O:Binds X.K fd ps ds) (hd:Vals dvs ds) (G:jg CX X E)
  (Y:PA X (e :: es) t) (j:(x == ("__debug__" : Str))=false:=by decide) (Z:aO (e :: es) X.env=(false,aK e X.env) :: aO es X.env:=by rfl) (z:(aU pos (aO es X.env)).any (·.1)=false:=by rfl) :
  PE X (.Call (.Name x p) (e :: es) [] pos) (Qu5 C sp dvs E t):=by
 intro pins s σ H Q I h;refine wpAny_Call_Name_kw (jw I U J ?_ j);refine cw (h₀:=X.base) I.ok.mod.kin M.kp (thn (Y pos pins s σ H _ I h) fun us s1 ⟨vs,H1,B,r,q⟩=>⟨B.kIn,?_⟩) Z z
 exact Qit M F hr O hd G B r q
end
def PK (X:Cx) (kws:List Keyword) (t:TA):Prop:=
 ∀ (pos:Pos) (pins:List (aA × Obj)) (s:aC) (σ:St) (H:Hp) (Q:List V->Hp->Prop),Inv X pins σ H s->t σ H Q->aI (aJ X.prog X.w) X.A (evalAll ((backToKw pos (keywordEach kws X.env)).map (·.2))) (AP X pins σ Q) X.xe s
section
variable {X:Cx} {CX:CXT} {k:Nat} {f C:aA} {fd:aP} {ps ks:List Str} {sp:Sp} {E:XK} {x m:Str} {p pos apos kpos:Pos} {e o:aD} {es:List aD} {kws:List Keyword} {te ta:TE} {t tk:TA} {nm:Option Str}
variable {g:List aB->List aB->List aB} {gV:List V->List V->List V}
end
structure FnScope (N P:List Str) (sc:Scope):Prop where
 kind:sc.kind=.function
 co:sc.isCoroutine=false
 gen:sc.isGenerator=false
 nd:N.Nodup
 pre:N.take P.length=P
 par:∀ x∈P,sc.names.lookup x=some .local\/sc.names.lookup x=some .cell
 nofree:∀ y∈sc.names,y.2≠.free
theorem Qak {kindOf:Str->Option aj} {x:Str}:∀ {binds:List (Str × aB)} {m:Str->Option aB},(∀ v,(x,v)∉binds)->bindL kindOf binds m x=m x
 | [],_,_=>rfl
 | (n,v) :: r,m,h=>by
  unfold bindL;rw [Qak fun w j=>h w (D0 _ j)]
  split
  ·have:x≠n:=by rintro rfl; exact h v D4
   simp [this]
  ·rfl
theorem Qan {kindOf:Str->Option aj} {x:Str}:∀ {binds:List (Str × aB)} {m:Str->Option aB},(∀ v,(x,v)∉binds)->bindC kindOf binds m x=m x
 | [],_,_=>rfl
 | (n,v) :: r,m,h=>by
  unfold bindC;rw [Qan fun w j=>h w (D0 _ j)]
  split
  ·rfl
  ·have:x≠n:=by rintro rfl; exact h v D4
   simp [this]
theorem Qam {kindOf:Str->Option aj} {x:Str} {v:aB}:∀ {P:List Str} {vs:List aB} {i:Nat} {m:Str->Option aB},P.Nodup->P[i]?=some x->vs[i]?=some v->kindOf x=some .local ->
  bindL kindOf (P.zip vs) m x=some v
 | [],_,_,_,_,h,_,_=>by simp at h
 | _ :: _,[],_,_,_,_,h,_=>by simp at h
 | p :: P,w :: vs,0,m,nd,h1,h2,j=>by
  simp at h1 h2; subst h1; subst h2;show bindL kindOf ((p,w) :: P.zip vs) m p=_;unfold bindL;rw [Qak fun v q=>(dM.mp nd).1 (cZ q).1,bJ j]
  simp
 | p :: P,w :: vs,i + 1,m,nd,h1,h2,j=>by
  show bindL kindOf ((p,w) :: P.zip vs) m x=_;unfold bindL;exact Qam (i:=i) (dM.mp nd).2 (by simpa using h1) (by simpa using h2) j
theorem Qap {kindOf:Str->Option aj} {x:Str} {v:aB}:∀ {P:List Str} {vs:List aB} {i:Nat} {m:Str->Option aB},P.Nodup->P[i]?=some x->vs[i]?=some v->kindOf x≠some .local ->
  bindC kindOf (P.zip vs) m x=some v
 | [],_,_,_,_,h,_,_=>by simp at h
 | _ :: _,[],_,_,_,_,h,_=>by simp at h
 | p :: P,w :: vs,0,m,nd,h1,h2,j=>by
  simp at h1 h2; subst h1; subst h2;show bindC kindOf ((p,w) :: P.zip vs) m p=_;unfold bindC;rw [Qan fun v q=>(dM.mp nd).1 (cZ q).1,bK j]
  simp
 | p :: P,w :: vs,i + 1,m,nd,h1,h2,j=>by
  show bindC kindOf ((p,w) :: P.zip vs) m x=_;unfold bindC;exact Qap (i:=i) (dM.mp nd).2 (by simpa using h1) (by simpa using h2) j
def start (N:List Str) (vs:List V):St:=vs.map some ++ bQ (N.length - vs.length) none
def Qeu (CX:CXT) (P:aN) (w:aL) (K:bP) (mg:Str->Option aB) (base:Heap) (N:List Str) (qual:Str) (scope:Scope) (f:aA) (cd:aB) (A:aR) (outer:List Env) (s:aC) (H:Hp) (E:XK):Cx where
 prog:=P
 w:=w
 K:=K
 mg:=mg
 base:=base
 A:=A.deeper (envOfC qual scope s.heap.objs.size f cd)
 N:=N
 s₀:=s
 H₀:=H
 env:=envOfC qual scope s.heap.objs.size f cd
 outer:=outer
 stack:=envOfC qual scope s.heap.objs.size f cd :: outer
 ex:=[]
 calm:=true
 fn:=fun _=>true
 pn:=[]
 xe:=fun e s'=>aI (aJ P w) (A.deeper (envOfC qual scope s.heap.objs.size f cd)) (leaving (envOfC qual scope s.heap.objs.size f cd) e) (fun _ s''=>CX outer H s E e s'') (fun e' s''=>CX outer H s E e' s'') s'
theorem Qdg {sc:Scope} {n:Nat} {x:Str} (h:sc.names.lookup x=some .cell):∃ c,(ae n sc.names []).lookup x=some c:=by
 have q:=eJ sc.names n [] (.inl h);exact fY.mp q
theorem Qhe {CX:CXT} {P:aN} {w:aL} {K:bP} {mg:Str->Option aB} {base:Heap} {N ps:List Str} {qual:Str} {scope:Scope} {f:aA} {cd:aB} {A:aR} {outer:List Env} {s s1:aC} {H:Hp} {E:XK} {us:List aB} {vs:List V}
  (S:FnScope N ps scope) (hd:A.handled=none) (j:Env0 P w K mg base A outer s H) (hl:vs.length=ps.length) (r:Vals vs us)
  (x:InCallC s s.heap.objs.size (bindL (envOfC qual scope s.heap.objs.size f cd).kindOf (ps.zip us) fun _=>none) (ae (s.heap.objs.size + 1) scope.names []) (bindC (envOfC qual scope s.heap.objs.size f cd).kindOf (ps.zip us) fun _=>none) s1) :
  Inv (Qeu CX P w K mg base N qual scope f cd A outer s H E) [] (start N vs) H s1:=by
 have U:ps.length<=N.length:=by have:=congrArg eK S.pre; rw [cO] at this; omega
 obtain ⟨h1,tk,rfl,J⟩:=x.done;have G:∀ b:aA,b∉(Qeu CX P w K mg base N qual scope f cd A outer s H E).ex:=fun b z=>absurd (show b∈([]:List aA) from z) (by simp)
 refine ⟨⟨j.mod,S.kind,rfl,rfl,O7 _,fun y z c h1 h2=>?_,fun y B=>?_,fun y c _ h=>?_,fun _=>hd,Around.frames_deeper j.frames,.inr ⟨rfl,rfl⟩,fun b z=>absurd z (G b),j.bs,j.bsz,fun b _ _=>G b,fun b z=>absurd z (G b),j.funs,j.frf⟩,
  rfl,j.bare,Un.kept J,⟨_,x.toInCall.ns,fun i y v h1 h2 h3=>?_⟩,fun y c h=>⟨_,x.cell y c h⟩,j.hok.fresh (O7 _),fun y c h=>?_,fun p hp=>absurd (show p∈([]:List (aA × Obj)) from hp) (by simp),j.hok.kept J,?_⟩
 ·exact name_of_addr x.apart (bx h1) (bx h2)
 ·have B:scope.names.lookup y=some .cell\/scope.names.lookup y=some .free:=B;rcases B with B | B
  ·exact Qdg B
  ·exact absurd rfl (S.nofree _ (bx B))
 ·exact E8 (x.above y c (bx h))
 ·have hi:i < vs.length:=by
   unfold start at h2
   by_cases hi:i < vs.length
   ·exact hi
   ·rw [D1 (by simpa using hi)] at h2;rw [cP] at h2
    split at h2 <;> cases h2
  have Y:vs[i]?=some v:=by
   unfold start at h2;rw [O6 (by simpa using hi),E6] at h2;cases e:vs[i]? with
   | none=>rw [e] at h2; cases h2
   | some a=>rw [e] at h2; cases h2; rfl
  obtain ⟨u,O,Z⟩:=r.get Y;have hp:ps[i]?=some y:=by
   rw [<- S.pre,List.getElem?_take_of_lt (by omega)]; exact h1
  have I:ps.Nodup:=by rw [<- S.pre]; exact S.nd.sublist (List.take_sublist _ _)
  refine ⟨u,Z,?_⟩;rcases S.par y (D2 hp) with k | k
  ·exact .inl ⟨k,Qam I hp O k⟩
  ·obtain ⟨c,e⟩:=Qdg (n:=s.heap.objs.size + 1) k;refine .inr ⟨.inl k,c,e,?_⟩;have q:=x.cell y c e;rw [Qap I hp O (by show scope.names.lookup y≠_; rw [k]; decide)] at q;exact q
 ·exact j.hok.fresh (E8 (x.above y c (bx h)))
 ·unfold start;show _=N.length;rw [O8,O2,eL];omega
theorem Qqs {CX:CXT} {P:aN} {w:aL} {K:bP} {mg:Str->Option aB} {base:Heap} {k:Nat} {f:aA} {name qual:Str} {z:Arguments} {body:List aM} {scope:Scope} {dV kV Z pm j ct oc:aB} {an od:Option aA}
  {a3:Array (Option aB)} {N ps:List Str} {sp:Sp} (lk:K.lookup f=some ⟨oc,od,.func (bT name qual z body scope dV kV Z pm an j ct),a3⟩) (a2:bU K j qual=true) (S:FnScope N ps scope)
  (len:∀ vs H Q E,sp vs H Q E->vs.length=ps.length)
  (G:∀ (A:aR) (outer:List Env) (s:aC) (H:Hp) (vs:List V) (Q:VK) (E:XK),Room k (A.deeper (envOfC qual scope s.heap.objs.size f j))->sp vs H Q E ->
   ∃ t,PSs (Qeu CX P w K mg base N qual scope f j A outer s H E) body t/\t { nx:=fun _ H'=>Q .non H',rt:=Q } (start N vs) H) :
  FnOk P w K mg base CX (k + 1) f (bT name qual z body scope dV kV Z pm an j ct) ps sp:=by
 refine ⟨len,fun A outer s H args us vs Q E hr Y hb r U=>?_⟩;have hl:=len _ _ _ _ U;have KX:K.In s.heap:=Y.mod.kin.keeps fun b o e=>(Y.bs b o e).1
 have lim:s.heap.NoLimit:=Y.mod.nolimit.keeps fun b o e=>(Y.bs b o e).1
 have O:∀ y∈ps.zip us,scope.names.lookup y.1=some .local\/(scope.names.lookup y.1=some .cell/\((ae (s.heap.objs.size + 1) scope.names []).lookup y.1).isSome=true):=fun ⟨n,v⟩ hy=>by
  rcases S.par n (cZ hy).1 with q | q
  ·exact .inl q
  ·exact .inr ⟨q,eJ _ _ _ (.inl q)⟩
 refine codeAny_call_function hr.depth (KX _ _ lk) rfl S.co S.gen rfl (PySem.W.codeRec_of KX a2) (hb _ _ _ _ ?_);refine wpAny_newFunctionEnv_cells S.kind O fun env he s1 x=>?_
 subst he;refine ⟨lim.keeps x.toInCall.keep,codeAny_func ?_⟩;obtain ⟨t,ht,hq⟩:=G A outer s H vs Q E (hr.deeper _) U;have I:Inv (Qeu CX P w K mg base N qual scope f j A outer s H E) [] (start N vs) H s1:=Qhe S hr.hd Y hl r x;refine ac (ht [] s1 (start N vs) H _ I hq) (fun fl s' hs=>?_) fun e s' hs=>hs
 have fin:∀ {B:St} {H':Hp} {v:V} {u:aB},Inv (Qeu CX P w K mg base N qual scope f j A outer s H E) [] B H' s'->RelV v u->Q v H'->CE outer P w H s Q u s':=
  fun {B H' v u} J rv q=>⟨v,H',J.os,J.bare,J.base,J.hok,rv,q⟩
 cases fl with
 | ret u=>
  obtain ⟨v,B,H',J,rv,q⟩:=hs;exact fin J rv q
 | next=>
  obtain ⟨B,H',J,q⟩:=hs;exact fin (v:=V.non) (u:=bb) J rfl q
 | brk=>
  obtain ⟨_,_,_,q⟩:=hs;exact False.elim q
 | cont=>
  obtain ⟨_,_,_,q⟩:=hs;exact False.elim q
section
variable {X:Cx} {x:Str} {p pos:Pos} {e:aD} {es:List aD} {t:TA} {id T:String} {r:List V->Hp->VK->Prop}
def tCB (r:List V->Hp->VK->Prop) (t:TA):TE:=fun σ H Q=>t σ H fun vs H1=>r vs H1 Q
theorem Qcj (B:j6 X (.builtin id) r) (J:Gl X x) (G:X.mg x=none) (U:aZ x=some (.builtin id)) (Z:PA X (e :: es) t) (O:x≠"__name__" := by decide) (j:(x == ("__debug__" : Str))=false:=by decide)
  (Y:aO (e :: es) X.env=(false,aK e X.env) :: aO es X.env:=by rfl) (q:(aU pos (aO es X.env)).any (·.1)=false:=by rfl):PE X (.Call (.Name x p) (e :: es) [] pos) (tCB r t):=by
 intro pins s σ H Q I h;refine wpAny_Call_Name_kw (Q53 I J G U ?_ O j);exact gY (thn (Z pos pins s σ H _ I h) fun us s1 ⟨vs,H1,I1,z,q1⟩=>B pins s1 σ H1 vs us Q I1 z q1) Y q
theorem Qgp (B:j6 X (.type T) r) (J:Gl X x) (G:X.mg x=none) (U:aZ x=some (.type T)) (Z:PA X (e :: es) t) (O:x≠"__name__" := by decide) (j:(x == ("__debug__" : Str))=false:=by decide)
  (Y:aO (e :: es) X.env=(false,aK e X.env) :: aO es X.env:=by rfl) (q:(aU pos (aO es X.env)).any (·.1)=false:=by rfl):PE X (.Call (.Name x p) (e :: es) [] pos) (tCB r t):=by
 intro pins s σ H Q I h;refine wpAny_Call_Name_kw (Q53 I J G U ?_ O j);exact dI (thn (Z pos pins s σ H _ I h) fun us s1 ⟨vs,H1,I1,z,q1⟩=>B pins s1 σ H1 vs us Q I1 z q1) Y q
end
end L2
namespace HT
open PySem PyProof.Rows
def lexLt:List Int->List Int->Bool
 | [],[]=>false
 | [],_ :: _=>true
 | _ :: _,[]=>false
 | x :: xs,y :: ys=>if x=y then lexLt xs ys else decide (x < y)
theorem Qep (x y:Int) (xs ys:List Int):lexLt (x :: xs) (y :: ys)=if x=y then lexLt xs ys else decide (x < y):=rfl
theorem Q9n:lexLt [] []=false:=rfl
theorem Q7y (y:Int) (ys:List Int):lexLt [] (y :: ys)=true:=rfl
theorem Q7z (x:Int) (xs:List Int):lexLt (x :: xs) []=false:=rfl
theorem Qkd (A:aR) (s:aC) (a:Int) (t:Tok) (c:Int) (u:Tok):∃ e,SeqAt.EqAt A s (.int a t) (.int c u) e/\(e=true <-> a=c):=
 ⟨(a == c),SeqAt.EqAt.int_int a t c u,by simp⟩
theorem Qiv (A:aR) (s:aC) (a:Int) (t:Tok) (c:Int) (u:Tok) (prog:aN) (w:aL) (E:aB->aC->Prop) (Q:aB->aC->Prop) (h:Q (.bool (decide (a < c))) s) :
  aI (aJ prog w) A (richCompare .Lt (.int a t) (.int c u)) Q E s:=
 (gZ h:aI (aJ prog w) A (aV .Lt (.int a t) (.int c u)) Q E s)
section
open PySem.SeqAt
open PySem.AutoSeq1 (wpAny_loadPart')
open PySem.MeetsSeq PySem.MeetsSeq2 PySem.MeetsSeq3
theorem Q8t (l b:aA) (z j:Array aB) (n n2:Nat) (dd a6:Option aA) (sl a8:Array (Option aB)) (ns ms:List Int) (hi:IntsAre z.toList ns) (hj:IntsAre j.toList ms) :
  Meets (Builtin.«tuple.__lt__» ⟨[.ref l,.ref b],[]⟩)
   (fun _ R s=>s.heap.get? l=some { cls:=.type "tuple",dict:=dd,data:=.seq z n,slots:=sl }/\s.heap.get? b=some { cls:=.type "tuple",dict:=a6,data:=.seq j n2,slots:=a8 } /\
    R (.ok (.ret (.bool (lexLt ns ms)))) s):=
 .of_wp fun prog w A R s h=>by
  obtain ⟨hp,g,d,tk,os⟩:=s; obtain ⟨hl,hb,h⟩:=h;have f2:=AutoSeq1.sub_tuple_tuple;have z1:z.size=ns.length:=by rw [<- hi.length]; simp
  have z2:j.size=ms.length:=by rw [<- hj.length]; simp
  wp_walk using wpAny_loadPart' hl,wpAny_loadPart' hb,wpAny_forIn_list _ (fun rest b s'=>b.1=none/\s'=⟨hp,g,d,tk,os⟩/\∃ (vs ws:List aB) (G I:List Int),rest=vs.zip ws /\
   IntsAre vs G/\IntsAre ws I/\G.length + j.size=I.length + z.size/\R (.ok (.ret (.bool (lexLt G I)))) ⟨hp,g,d,tk,os⟩) _
  case turn=>
   rintro ⟨y,x⟩ rest b s' ⟨Z,rfl,vs,ws,G,I,hz,a2,J,B,U⟩;cases a2 with
   | nil=>rw [List.zip_nil_left] at hz; cases hz
   | cons a t a4=>
    cases J with
    | nil=>rw [List.zip_nil_right] at hz; cases hz
    | cons c u a3=>
     rw [fZ] at hz;injection hz with a5 Y
     injection a5 with hy hx
     subst hy hx;rw [Qep] at U;simp only [D8] at B;obtain ⟨e,he,O⟩:=Qkd A.in1 ⟨hp,g,d,tk,os⟩ a t c u;refine aF (he prog w _ _ ?_);cases e with
     | true=>
      rw [bJ (O.mp rfl)] at U
      wp_walk
      exact ⟨rfl,rfl,_,_,_,_,Y,a4,a3,by omega,U⟩
     | false=>
      rw [bK (fun q=>absurd (O.mpr q) D7)] at U
      have a7:=Qiv A.in1 ⟨hp,g,d,tk,os⟩ a t c u prog w
      wp_walk using a7
      exact ⟨_,rfl,by simpa using U⟩
  case fin=>
   rintro ⟨b1,b2⟩ s' ⟨Z,rfl,vs,ws,G,I,hz,a2,J,B,U⟩;simp only at Z;subst Z;have hv:lexLt G I=decide (z.size < j.size):=by
    cases a2 with
    | nil=>
     cases J with
     | nil=>
      simp only [cQ] at B;rw [Q9n];exact (bL (by omega)).symm
     | cons c u hw=>
      simp only [cQ,D8] at B;rw [Q7y];exact (bN (by omega)).symm
    | cons a t hv=>
     cases J with
     | nil=>
      simp only [cQ,D8] at B;rw [Q7z];exact (bL (by omega)).symm
     | cons c u hw=>
      rw [fZ] at hz;cases hz
   rw [hv] at U
   wp_walk
   exact ⟨_,rfl,by simpa [Builtin.Tuple.tupleCompareSizes] using U⟩
  case h=>
   exact ⟨rfl,rfl,z.toList,j.toList,ns,ms,rfl,hi,hj,by omega,h⟩
end
section
variable {prog:aN} {w:aL} {A:aR} {E:aB->aC->Prop} {s:aC}
theorem lt_tupInts {l b:aA} {q j:Array aB} {ns ms:List Int} {Q:aB->aC->Prop} (I:IsTup s.heap l q) (O:IsTup s.heap b j) (hi:IntsAre q.toList ns) (J:IntsAre j.toList ms)
  (Y:A.units < aa) (h:Q (.bool (lexLt ns ms)) s):aI (aJ prog w) A (aV .Lt (.ref l) (.ref b)) Q E s:=by
 obtain ⟨⟨cls,dd,data,U⟩,ho,hc,n,hd⟩:=id I;obtain ⟨⟨G,B,data2,z⟩,ho2,hc2,n2,hd2⟩:=id O;simp only at hc hd hc2 hd2;subst hc hd hc2 hd2;exact richCompare_meets_room (op:=.Lt) ⟨_,ho,rfl⟩ ⟨_,ho2,rfl⟩ PySem.F.slot_tuple_lt PySem.F.entry_tuple_lt (PySem.F.args_tuple_lt_2 _ _) (Q8t l b q j n n2 dd B U z ns ms hi J)
  ⟨ho,ho2,show cB (lexLt ns ms)≠fb/\Q (.bool (lexLt ns ms)) s from ⟨(fun x=>nomatch x),h⟩⟩ Y
theorem cat_tup {t b:aA} {vs j:List aB} {Q:aB->aC->Prop} (Y:IsTup s.heap t vs.toArray) (U:IsTup s.heap b j.toArray) (J:vs≠[])
  (h1:j=[]->Q (.ref t) s) (h2:j≠[]->Q (.ref s.heap.objs.size) { s with heap:=s.heap.push { cls:=.type "tuple",data:=.seq (vs ++ j).toArray } })
  (G:vs.length + j.length<=sizeLine):aI (aJ prog w) A (aW .Add (.ref t) (.ref b)) Q E s:=by
 obtain ⟨⟨cls,dd,data,O⟩,ho,hc,n,hd⟩:=id Y;obtain ⟨⟨I,z,data2,q⟩,ho2,hc2,n2,hd2⟩:=id U;simp only at hc hd hc2 hd2;subst hc hd hc2 hd2;have e:vs.toArray ++ j.toArray=(vs ++ j).toArray:=by simp
 by_cases B:j=[]
 ·exact concat_meets ⟨_,ho,rfl⟩ ⟨_,ho2,rfl⟩ noFill_tuple_add seq_tuple_add eM eN (eO _ _)
   (tuple_addW1 t b vs.toArray j.toArray n n2 dd z O q (by simpa using J) (by simp [B])) ⟨ho,ho2,h1 B⟩
 ·refine concat_meets ⟨_,ho,rfl⟩ ⟨_,ho2,rfl⟩ noFill_tuple_add seq_tuple_add eM eN (eO _ _)
   (tuple_addW2 t b vs.toArray j.toArray n n2 dd z O q (by simpa using J) (by simpa using B) (by rw [O3,O3]; exact G)) ⟨ho,ho2,?_⟩
  rw [e];exact h2 B
def sIx (n d:Nat):Option Int->Nat
 | none=>d
 | some v=>if v < 0 then (v + (n:Int)).toNat else min v.toNat n
theorem sIx_none (n d:Nat):sIx n d none=d:=rfl
theorem sIx_nat (n d k:Nat):sIx n d (some (k:Int))=min k n:=by
 show (if (k:Int) < 0 then ((k:Int) + (n:Int)).toNat else min (k:Int).toNat n)=min k n;rw [bK (by omega),cF]
theorem Qrd (n d:Nat) (hd:d<=n) (o:Option Int):sIx n d o<=n:=by
 cases o with
 | none=>exact hd
 | some v=>
  show (if v < 0 then (v + (n:Int)).toNat else min v.toNat n)<=n
  by_cases j:v < 0
  ·rw [bJ j]; omega
  ·rw [bK j]; exact Nat.min_le_right _ _
theorem Qfy (v:Int) (n d:Nat):(if v < 0 then max (v + (n:Int)) 0 else min v (n:Int))=((sIx n d (some v):Nat):Int):=by
 show (if v < 0 then max (v + (n:Int)) 0 else min v (n:Int))=(((if v < 0 then (v + (n:Int)).toNat else min v.toNat n):Nat):Int)
 by_cases j:v < 0
 ·simp only [bJ j]; omega
 ·simp only [bK j]; omega
theorem Qf1 (lo hi:Option Int) (n:Nat):Builtin.Slice.sliceAdjust lo hi 1 (n:Int)=(((sIx n 0 lo:Nat):Int),((sIx n n hi:Nat):Int)):=by
 have h1:¬ ((1:Int) < 0):=by omega
 unfold Builtin.Slice.sliceAdjust;simp only [h1,if_false];refine Prod.ext ?_ ?_
 ·cases lo with
  | none=>rfl
  | some v=>exact Qfy v n 0
 ·cases hi with
  | none=>rfl
  | some v=>exact Qfy v n n
theorem Qe5 (i j:Nat):Builtin.Slice.slicePlaces (i:Int) (j:Int) 1=j - i:=by
 unfold Builtin.Slice.slicePlaces;have h1:(1:Int) > 0:=by omega
 simp only [h1,if_true,Int.ediv_one]
 split <;> omega
theorem Q6w {v:aB} {o:Option Int} {Q:Option Int->aC->Prop} (p:IsPart v o) (h:Q o s):aI (aJ prog w) A (Builtin.Slice.slicePartIndex v) Q E s:=by
 cases p with
 | none=>exact slicePart_none h
 | int i t=>exact slicePart_int h
theorem ym {G:aA} {B z:aB} {lo hi:Option Int} {n:Nat} {Q:Int × Int × Nat->aC->Prop} (hs:s.heap.IsSliceOf G B z .none) (pl:IsPart B lo) (I:IsPart z hi)
  (h:Q (((sIx n 0 lo:Nat):Int),1,sIx n n hi - sIx n 0 lo) s):aI (aJ prog w) A (Builtin.Slice.sliceApplied (.ref G) (pure (n:Int))) Q E s:=by
 obtain ⟨os,j,J,q⟩:=id hs;unfold Builtin.Slice.sliceApplied Builtin.Slice.sliceFields;refine aF (aF (aY j q (x:=B) rfl (aF (aY j q (x:=z) rfl (aF (aY j q (x:=.none) rfl (aS ?_)))))));refine aF (slicePart_none ?_);show aI _ _ (if ((1:Int) == 0)=true then _ else _) _ _ s;rw [bK (by decide)];refine aF (Q6w pl (aF (Q6w I (aF (aS ?_)))));show aI _ _ (match Builtin.Slice.sliceAdjust lo hi 1 (n:Int) with | (lo,hi)=>pure (lo,(1:Int),Builtin.Slice.slicePlaces lo hi 1)) _ _ s
 rw [Qf1 lo hi n];show aI _ _ (pure (((sIx n 0 lo:Nat):Int),(1:Int),Builtin.Slice.slicePlaces ((sIx n 0 lo:Nat):Int) ((sIx n n hi:Nat):Int) 1)) _ _ s;rw [Qe5];exact aS h
theorem Qj6 (xs:Array aB) (i k:Nat):((bV k).filterMap fun (m:Nat)=>xs[((i:Int) + (m:Int) * 1).toNat]?).toArray=((xs.toList.drop i).take k).toArray:=by
 have e:(fun (m:Nat)=>xs[((i:Int) + (m:Int) * 1).toNat]?)=fun m=>xs[i + m]?:=by
  funext m;have:((i:Int) + (m:Int) * 1).toNat=i + m:=by omega
  rw [this]
 rw [e];have:=pick_run xs i k;rw [List.filterMap_map] at this;have e2:((fun x=>xs[x]?) ∘ fun x=>i + x)=fun m=>xs[i + m]?:=rfl
 rw [e2] at this;rw [this]
theorem getItem_tuple_cut {t U:aA} {j:Array aB} {Z Y:aB} {lo hi:Option Int} {Q:aB->aC->Prop} (B:IsTup s.heap t j) (hs:s.heap.IsSliceOf U Z Y .none) (pl:IsPart Z lo) (pu:IsPart Y hi)
  (hw:¬ (sIx j.size 0 lo=0/\sIx j.size j.size hi=j.size))
  (h:Q (.ref s.heap.objs.size) { s with heap:=s.heap.push { cls:=.type "tuple",data:=.seq ((j.toList.drop (sIx j.size 0 lo)).take (sIx j.size j.size hi - sIx j.size 0 lo)).toArray } })
  (a2:j.size<=sizeLine):aI (aJ prog w) A (getItem (.ref t) (.ref U)) Q E s:=by
 have z:sizeOk (.seq ((j.toList.drop (sIx j.size 0 lo)).take (sIx j.size j.size hi - sIx j.size 0 lo)).toArray):=by
  show ((j.toList.drop (sIx j.size 0 lo)).take (sIx j.size j.size hi - sIx j.size 0 lo)).toArray.size<=sizeLine;rw [O3,cO,cR,dw];omega
 have hj:sIx j.size j.size hi<=j.size:=Qrd _ _ (O7 _) hi;obtain ⟨os,G,O,a3⟩:=id hs;have J:s.TypeIs (.ref U) "slice" := ⟨os,G,O⟩;unfold getItem
 try with_reducible refine av ?_
 first | refine aF (aS ?_) | skip
 refine aF (wpAny_sequenceKey B.typeIs (by decide) ?_);refine aF (wpAny_callSpecial?_slot (name:=bO "__getitem__") B.typeIs dN
  (bE dN B.typeIs entry_tuple_getitem ?_ (args_tuple_getitem _ _)))
 show aI _ _ (Builtin.Tuple.tupleItemsOf (.ref t) >>= _) _ _ s;refine aF (tupleItemsOf_ B ?_);refine aF (bG J ?_);rw [bJ (by decide)];refine aF (ym hs pl pu ?_);have I:¬ ((((sIx j.size 0 lo:Nat):Int) == 0 && (1:Int) == 1 && (sIx j.size j.size hi - sIx j.size 0 lo) == j.size)=true):=by
  intro q;rw [F6,F6] at q;have q1:((sIx j.size 0 lo:Nat):Int)=0:=eq_of_beq q.1.1;have q2:sIx j.size j.size hi - sIx j.size 0 lo=j.size:=eq_of_beq q.2;exact hw ⟨by omega,by omega⟩
 show aI _ _ (if (((sIx j.size 0 lo:Nat):Int) == 0 && (1:Int) == 1 && (sIx j.size j.size hi - sIx j.size 0 lo) == j.size)=true then _ else _) _ _ s;rw [bK I,Qj6]
 first
  | exact aF (m:=Builtin.Tuple.tupleExact _) (ao (aS ⟨_,rfl,aS h⟩) z)
  | exact aF (m:=Builtin.Tuple.tupleExact _) (ao (aF (aS (aS ⟨_,rfl,aS h⟩))) z)
  | exact aF (aF (m:=Builtin.Tuple.tupleExact _) (ao (aS (aS ⟨_,rfl,aS h⟩)) z))
  | exact aF (aF (m:=Builtin.Tuple.tupleExact _) (ao (aS ⟨_,rfl,aS h⟩) z))
end
end HT
namespace L2
open PySem PySem.Spec PyProof.Rows
abbrev TO:=St->Hp->(Option Int->Hp->Prop)->Prop
def PO (X:Cx) (e:Option aD) (t:TO):Prop:=
 ∀ (pins:List (aA × Obj)) (s:aC) (σ:St) (H:Hp) (Q:Option Int->Hp->Prop),Inv X pins σ H s->t σ H Q ->
  aI (aJ X.prog X.w) X.A (evalPart e X.env) (fun u s'=>∃ o H',Inv X pins σ H' s'/\IsPart u o/\Q o H') X.xe s
def Qmi:TO:=fun _ H Q=>Q none H
def Qu2 (t:TE):TO:=fun σ H Q=>t σ H fun x H1=>∃ i,x=.int i/\Q (some i) H1
theorem Q85 {ns:List Int}:∀ {us:List aB},Vals (ns.map V.int) us->IntsAre us ns:=by
 induction ns with
 | nil=>intro us r; rw [ca] at r; cases r; exact .nil
 | cons n ns q=>
  intro us r;rw [F2] at r;cases r with
  | cons j z=>
   obtain ⟨t,e⟩:=j;subst e;exact .cons n t (q z)
section
variable {X:Cx} {e:aD} {te:TE} {lo hi:Option aD} {tl th:TO} {pos p2:Pos}
theorem Qnd:PO X none Qmi:=by
 intro pins s σ H Q I h;rw [evalPart_none];exact aS ⟨none,H,I,.none,h⟩
theorem Qnc (h:PE X e te):PO X (some e) (Qu2 te):=by
 intro pins s σ H Q I z;rw [evalPart_some];refine thn (h pins s σ H _ I z) fun u s1 ⟨x,H1,B,j,q1⟩=>?_
 obtain ⟨i,rfl,q⟩:=q1;obtain ⟨t,rfl⟩:=j;exact ⟨some i,H1,B,.int i t,q⟩
def SlR (X:Cx) (r:V->Option Int->Option Int->Hp->VK->Prop):Prop:=
 ∀ (pins:List (aA × Obj)) (s:aC) (σ:St) (H:Hp) (x:V) (v vl vu:aB) (lo hi:Option Int) (sl:aA) (Q:VK),Inv X pins σ H s->RelV x v->s.heap.IsSliceOf sl vl vu .none->IsPart vl lo->IsPart vu hi->r x lo hi H Q ->
  ∃ T id,typeLookup (.type T) "__getitem__" = pure (some (.builtin id))/\s.TypeIs v T/\aI (aJ X.prog X.w) X.A (getItem v (.ref sl)) (EP X pins σ Q) X.xe s
theorem SlR.or {r z:V->Option Int->Option Int->Hp->VK->Prop} (h:SlR X r) (h':SlR X z):SlR X (fun x lo hi H Q=>r x lo hi H Q\/z x lo hi H Q):=by
 intro pins s σ H x v O B lo hi J Q I G hs pl j q;rcases q with q | q
 ·exact h pins s σ H x v O B lo hi J Q I G hs pl j q
 ·exact h' pins s σ H x v O B lo hi J Q I G hs pl j q
def tSl (r:V->Option Int->Option Int->Hp->VK->Prop) (te:TE) (tl th:TO):TE:=fun σ H Q=>te σ H fun x H1=>tl σ H1 fun l H2=>th σ H2 fun u H3=>r x l u H3 Q
theorem Qja {r:V->Option Int->Option Int->Hp->VK->Prop} (hr:SlR X r) (Z:PE X e te) (hl:PO X lo tl) (hu:PO X hi th):PE X (.Subscript e (.Slice lo hi none p2) pos) (tSl r te tl th):=by
 intro pins s σ H Q I h;refine Subscript_ (thn (Z pins s σ H _ I h) fun v s1 ⟨x,H1,I1,r1,q1⟩=>?_)
 refine wpAny_Slice (thn (hl pins s1 σ H1 _ I1 q1) fun z s2 ⟨l,H2,I2,pl,q2⟩=>thn (hu pins s2 σ H2 _ I2 q2) fun j s3 ⟨u,B,J,Y,q3⟩=>?_)
 rw [evalPart_none];refine aS ?_;have O:Inv X pins σ B { s3 with heap:=s3.heap.push { cls:=.type "slice",data:=.fields #[z,j,.none] } }:=J.kept (t':=s3.toks) fun b ob q=>O0 _ q
 obtain ⟨T,id,hT,U,G⟩:=hr pins { s3 with heap:=s3.heap.push { cls:=.type "slice",data:=.fields #[z,j,.none] } } σ B x v z j l u s3.heap.objs.size Q O r1 (Heap.IsSliceOf.new ..) pl Y q3;show aI (aJ X.prog X.w) X.A (subscriptTail e (.Slice lo hi none p2) v (.ref s3.heap.objs.size)) (EP X pins σ Q) X.xe { s3 with heap:=s3.heap.push { cls:=.type "slice",data:=.fields #[z,j,.none] } };exact tail_any (ops:=[.ref s3.heap.objs.size,v]) U hT G (by with_unfolding_all rfl)
def Qde (xs:List V) (lo hi:Option Int):List V:=(xs.drop (HT.sIx xs.length 0 lo)).take (HT.sIx xs.length xs.length hi - HT.sIx xs.length 0 lo)
theorem Q5n (xs:List V) (lo hi:Option Int):(Qde xs lo hi).length<=xs.length:=by
 unfold Qde;rw [cO,cR];omega
def Qxk (K:bP):V->Option Int->Option Int->Hp->VK->Prop:=fun x lo hi H Q=>∃ a xs,x=.ref a/\SqT K H a xs /\
 ¬ (HT.sIx xs.length 0 lo=0/\HT.sIx xs.length xs.length hi=xs.length)/\∀ p,H p=none->Q (.ref p) (upd H p (.tup (Qde xs lo hi)))
theorem sl_tup:SlR X (Qxk X.K):=by
 intro pins s σ H x v Y U lo hi Z Q I J hs pl G h;obtain ⟨a,xs,rfl,B,O,q⟩:=h;cases J;obtain ⟨its,r,z,hz⟩:=I.tuple B;have j:its.toArray.size=xs.length:=by rw [O3]; exact r.length.symm
 refine ⟨"tuple",_,PyProof.Rows.slot_tuple_getitem.lookup,z.typeIs,?_⟩;refine HT.getItem_tuple_cut z hs pl G (by rw [j]; exact O) ?_ (by rw [j]; exact hz);rw [j];refine ⟨.ref s.heap.objs.size,_,I.laid (t':=s.toks) (o:=.tup (Qde xs lo hi)) (fun b ob q=>O0 _ q) (O7 _) ?_,rfl,q _ (I.hok.fresh (O7 _))⟩;exact ⟨F1 (Q5n xs lo hi) hz,_,(r.drop (HT.sIx xs.length 0 lo)).take (HT.sIx xs.length xs.length hi - HT.sIx xs.length 0 lo),IsTup.new _ _⟩
def Qxp (K:bP):R2:=fun x y H Q=>∃ a b ns ms,x=.ref a/\y=.ref b/\SqT K H a (ns.map V.int)/\SqT K H b (ms.map V.int)/\Q (.bl (HT.lexLt ns ms)) H
theorem Qsa (O:X.A.units < aa):OpR X (aV .Lt) (Qxp X.K):=by
 intro pins s σ H x y v u Q I Y z h;obtain ⟨a,b,ns,ms,rfl,rfl,U,J,q⟩:=h;cases Y;cases z;obtain ⟨its,B,p1,_⟩:=I.tuple U;obtain ⟨j,Z,p2,_⟩:=I.tuple J;have i1:IntsAre its.toArray.toList ns:=Q85 B;have G:IntsAre j.toArray.toList ms:=Q85 Z;exact HT.lt_tupInts p1 p2 i1 G O ⟨.bl (HT.lexLt ns ms),H,I,rfl,q⟩
def Qqh (K:bP):R2:=fun x y H Q=>∃ a b xs ys,x=.ref a/\y=.ref b/\SqT K H a xs/\SqT K H b ys/\xs≠[]/\xs.length + ys.length<=sizeLine /\
 (ys=[]->Q (.ref a) H)/\(ys≠[]->∀ p,H p=none->Q (.ref p) (upd H p (.tup (xs ++ ys))))
theorem Vals.nil_iff {xs:List V} {us:List aB} (r:Vals xs us):us=[] <-> xs=[]:=by
 cases r with
 | nil=>simp
 | cons _ _=>simp
theorem op_catT:OpR X (aW .Add) (Qqh X.K):=by
 intro pins s σ H x y v u Q I Z J h;obtain ⟨a,b,xs,ys,rfl,rfl,Y,U,O,hz,q1,q2⟩:=h;cases Z;cases J;obtain ⟨its,B,p1,_⟩:=I.tuple Y;obtain ⟨G,j,p2,_⟩:=I.tuple U;refine HT.cat_tup p1 p2 (fun z=>O (B.nil_iff.mp z)) (fun z=>⟨.ref a,H,I,rfl,q1 (j.nil_iff.mp z)⟩) (fun z=>?_) (by rw [<- B.length,<- j.length]; exact hz)
 refine ⟨.ref s.heap.objs.size,_,I.laid (t':=s.toks) (o:=.tup (xs ++ ys)) (fun b ob q=>O0 _ q) (O7 _) ?_,rfl,q2 (fun w=>z (j.nil_iff.mpr w)) _ (I.hok.fresh (O7 _))⟩;exact ⟨by rw [O8]; exact hz,_,B.append j,IsTup.new _ _⟩
end
def ixN (n:Nat) (i:Int):Option Nat:=if 0<=i then (if i < n then some i.toNat else none) else if -(n:Int)<=i then some (i + n).toNat else none
def atI {α:Type} (xs:List α) (i:Int):Option α:=(ixN xs.length i).bind fun j=>xs[j]?
theorem Qfs {n:Nat} {i:Int} {j:Nat} (h:ixN n i=some j):seqIndex? i n=some j/\j < n/\-(n:Int)<=i/\i < n:=by
 unfold ixN at h
 by_cases h0:0<=i
 ·rw [bJ h0] at h
  by_cases h1:i < n
  ·rw [bJ h1] at h;have e:i.toNat=j:=bc h;exact ⟨by rw [seqIndex_of h0 h1,e],by omega,by omega,h1⟩
  ·rw [bK h1] at h; cases h
 ·rw [bK h0] at h
  by_cases h1:-(n:Int)<=i
  ·rw [bJ h1] at h;have e:(i + n).toNat=j:=bc h;exact ⟨by rw [seqIndex_neg (by omega) h1,e],by omega,h1,by omega⟩
  ·rw [bK h1] at h; cases h
theorem atI_get {α:Type} {xs:List α} {i:Int} {v:α} (h:atI xs i=some v):∃ j,seqIndex? i xs.length=some j/\xs[j]?=some v/\j < xs.length/\-(xs.length:Int)<=i/\i < xs.length:=by
 unfold atI at h;cases e:ixN xs.length i with
 | none=>rw [e] at h; cases h
 | some j=>
  rw [e] at h;obtain ⟨h1,h2,q,z⟩:=Qfs e;exact ⟨j,h1,h,h2,q,z⟩
theorem Qdp {α:Type} (xs:List α) (v:α):atI (xs ++ [v]) (-1)=some v:=by
 have j:(xs ++ [v]).length=xs.length + 1:=by simp
 have e:ixN (xs ++ [v]).length (-1)=some xs.length:=by
  unfold ixN;rw [j,bK (by decide),bJ (by omega)];congr 1;omega
 unfold atI;rw [e];show (xs ++ [v])[xs.length]?=some v;simp
def Qg2 (b:aD):Prop:=∀ o i,subscripted b false o i=operate [o,i] (getItem o i)
def IxR (X:Cx) (r:R2):Prop:=
 ∀ (value slice:aD) (pins:List (aA × Obj)) (s:aC) (σ:St) (H:Hp) (x y:V) (v u:aB) (Q:VK),Inv X pins σ H s->RelV x v->RelV y u->r x y H Q ->
  subscripted slice false v u=operate [v,u] (getItem v u)->aI (aJ X.prog X.w) X.A (subscriptTail value slice v u) (EP X pins σ Q) X.xe s
def MtR (X:Cx) (id:String) (r:V->List V->Hp->VK->Prop):Prop:=
 ∀ (pins:List (aA × Obj)) (s:aC) (σ:St) (H:Hp) (x:V) (xs:List V) (v:aB) (us:List aB) (Q:VK),Inv X pins σ H s->RelV x v->Vals xs us->r x xs H Q ->
  aI (aJ X.prog X.w) X.A (call (.builtin id) (v :: us)) (EP X pins σ Q) X.xe s
section
variable {X:Cx} {a b:aD} {ta tb:TE} {pos:Pos}
theorem IxR.or {r B:R2} (h:IxR X r) (h':IxR X B):IxR X (fun x y H Q=>r x y H Q\/B x y H Q):=by
 intro value j pins s σ H x y v u Q I G z q hs;rcases q with q | q
 ·exact h value j pins s σ H x y v u Q I G z q hs
 ·exact h' value j pins s σ H x y v u Q I G z q hs
theorem Quv {r:R2} (G:IxR X r) (B:PE X a ta) (z:PE X b tb) (hs:Qg2 b):PE X (.Subscript a b pos) (tOp r ta tb):=by
 intro pins s σ H Q I h;exact Subscript_ (Qt7 B z I h fun v u s2 x y H2 O J j q=>G a b pins s2 σ H2 x y v u Q O J j q (hs _ _))
def Qui (K:bP):R2:=fun x y H Q=>∃ p xs i v,x=.ref p/\y=.int i/\SqL K H p xs/\atI xs i=some v/\Q v H
def Qug (K:bP):R2:=fun x y H Q=>∃ p xs i v,x=.ref p/\y=.int i/\SqT K H p xs/\atI xs i=some v/\Q v H
def Quh:R2:=fun x y H Q=>∃ z i c,x=.str z/\y=.int i/\z.length<=sizeLine/\atI z.cps.toList i=some c/\Q (.str ⟨#[c]⟩) H
theorem ix_list:IxR X (Qui X.K):=by
 intro value J pins s σ H x y v u Q I rx ry h hs;obtain ⟨p,xs,i,z,rfl,rfl,Z,Y,q⟩:=h;cases rx;obtain ⟨t,rfl⟩:=ry;obtain ⟨its,r,pl,hz⟩:=I.list Z;obtain ⟨j,h1,h2,h3,h4,U⟩:=atI_get Y;obtain ⟨w,O,G⟩:=r.get h2;have hl:=r.length;have hn:=Q52;have fin:EP X pins σ Q w s:=⟨z,H,I,G,q⟩
 by_cases h0:0<=i
 ·have B:i.toNat=j:=by
   rw [seqIndex_of h0 U] at h1;exact bc h1
  exact item_listR pl.isList h0 (by omega) (by rw [B]; simpa using O) fin hs
 ·have B:(i + (its.toArray.size:Int)).toNat=j:=by
   rw [seqIndex_neg (by omega) h4] at h1;rw [O3,<- hl];exact bc h1
  exact subscriptTail_builtinR (x:=w) pl.isList.typeIs slot_list_getitem.lookup
   (wpAny_getItem_list_neg (Q:=fun r s'=>r=w/\EP X pins σ Q r s') pl.isList (by omega) (by rw [O3] <;> omega) (by omega) (by rw [B]; simpa using O) ⟨rfl,fin⟩) hs
theorem ix_tup:IxR X (Qug X.K):=by
 intro value G pins s σ H x y v u Q I rx J h hs;obtain ⟨p,xs,i,z,rfl,rfl,Z,Y,q⟩:=h;cases rx;obtain ⟨t,rfl⟩:=J;obtain ⟨its,r,pl,hz⟩:=I.tuple Z;obtain ⟨j,h1,h2,h3,h4,h5⟩:=atI_get Y;obtain ⟨w,U,B⟩:=r.get h2;have O:=r.length;have hn:=Q52;have fin:EP X pins σ Q w s:=⟨z,H,I,B,q⟩;exact subscriptTail_builtinR (x:=w) pl.typeIs slot_tuple_getitem.lookup
  (getItem_tuple (j:=j) (Q:=fun r s'=>r=w/\EP X pins σ Q r s') pl (by omega) (by omega) (by rw [O3,<- O]; exact h1) (by simpa using U) ⟨rfl,fin⟩) hs
theorem Qsx:IxR X Quh:=by
 intro value B pins s σ H x y v u Q I Z G h hs;obtain ⟨z,i,c,rfl,rfl,hz,U,q⟩:=h;obtain ⟨t,rfl⟩:=Z;obtain ⟨t',rfl⟩:=G;obtain ⟨j,h1,h2,h3,Y,O⟩:=atI_get U;have J:z.cps.toList.length=z.length:=by simp [Str.length]
 rw [J] at h1 Y O;have hn:=Q52;exact tail_any (typeIs_str s z t) slot_str_getitem.lookup (getItem_str (c:=c) (by
  have e1:decide (i < -(2 ^ 63:Int))=false:=bL (by omega);have e2:decide (i>=2 ^ 63)=false:=bL (by omega);rw [e1,e2,Bool.or_false]) (by rw [h1]; simpa using h2) ⟨.str ⟨#[c]⟩,H,I.tok _,⟨_,rfl⟩,q⟩) hs
def rIx (K:bP):R2:=fun x y H Q=>Qui K x y H Q\/Qug K x y H Q\/Quh x y H Q
theorem Qsy:IxR X (rIx X.K):=ix_list.or (ix_tup.or Qsx)
theorem Qef (its:List aB) (n j:Nat) (u:aB):cb (·.setIfInBounds j u) { cls:=.type "list",data:=.seq its.toArray n }={ cls:=.type "list",data:=.seq (its.set j u).toArray n }:=by
 simp [cb]
theorem Inv.lst {pins:List (aA × Obj)} {σ:St} {H:Hp} {s:aC} {p:aA} {xs:List V} (I:Inv X pins σ H s) (h:H p=some (.lst xs)) :
  ∃ (its:List aB) (n:Nat),Vals xs its/\s.heap.get? p=some { cls:=.type "list",data:=.seq its.toArray n }/\xs.length<=sizeLine:=by
 obtain ⟨z,its,n,r,e⟩:=I.hok p _ h;exact ⟨its,n,r,e,z⟩
theorem Inv.lstUpd {pins:List (aA × Obj)} {σ:St} {H:Hp} {s:aC} {p:aA} {xs ys:List V} {its its':List aB} {n j:Nat} {f:Obj->Obj} (I:Inv X pins σ H s) (h:H p=some (.lst xs))
  (G:s.heap.get? p=some { cls:=.type "list",data:=.seq its.toArray n }) (z:f { cls:=.type "list",data:=.seq its.toArray n }={ cls:=.type "list",data:=.seq its'.toArray j }) (r:Vals ys its') (hz:ys.length<=sizeLine) (t:Nat) :
  Inv X pins σ (upd H p (.lst ys)) { s with heap:=s.heap.update p f,toks:=t }:=by
 have e:(s.heap.update p f).get? p=some { cls:=.type "list",data:=.seq its'.toArray j }:=by
  rw [F9 f G (by rw [z] <;> rfl),z]
 refine I.write (x:=p) (e:=p) (by rw [h]; trivial) (.inl rfl) (fun b u B q=>(E5 _ _ (Ne.symm B)).trans q) ⟨_,e⟩ ?_
 exact ⟨hz,its',j,r,e⟩
def Que:V->V->V->Hp->(Hp->Prop)->Prop:=fun o i v H Q=>∃ p xs k j,o=.ref p/\i=.int k/\H p=some (.lst xs)/\ixN xs.length k=some j/\Q (upd H p (.lst (xs.set j v)))
theorem Qik:Qwa X Que:=by
 intro pins s σ H o i v ov iv u Q I Y ri rv h;obtain ⟨p,xs,k,j,rfl,rfl,hp,Z,q⟩:=h;cases Y;obtain ⟨t,rfl⟩:=ri;obtain ⟨its,n,r,G,hz⟩:=I.lst hp;obtain ⟨h1,h2,J,O⟩:=Qfs Z;have B:=r.length;have hn:=Q52;have U:Inv X pins σ (upd H p (.lst (xs.set j v))) { s with heap:=s.heap.update p (cb (·.setIfInBounds j u)) }:=
  I.lstUpd hp G (Qef its n j u) (r.set rv j) (by rw [D5]; exact hz) s.toks
 by_cases h0:0<=k
 ·have z:k.toNat=j:=by
   rw [seqIndex_of h0 O] at h1;exact bc h1
  exact PySem.W.ki_setAt G h0 (by omega) (by rw [O3,<- B]; exact O) (by rw [z]; exact ⟨_,U,q⟩)
 ·have z:(k + (its.toArray.size:Int)).toNat=j:=by
   rw [seqIndex_neg (by omega) J] at h1;rw [O3,<- B];exact bc h1
  exact PySem.W.ki_setBack G (by omega) (by rw [O3,<- B]; exact J) (by omega) (by rw [z]; exact ⟨_,U,q⟩)
theorem Qax (lo hi:Option Int) (n:Nat):(bA lo hi none n).1=((HT.sIx n 0 lo:Nat):Int)/\(bA lo hi none n).2.1=((HT.sIx n n hi:Nat):Int)/\(bA lo hi none n).2.2=1:=by
 refine ⟨?_,?_,rfl⟩
 ·cases lo with
  | none=>simp [bA,HT.sIx]
  | some i=>
   simp only [bA,HT.sIx,fe,show (1:Int) > 0 by decide,if_true]
   by_cases h:i < 0
   ·simp only [h,if_true] <;> omega
   ·simp only [h,if_false] <;> omega
 ·cases hi with
  | none=>simp [bA,HT.sIx]
  | some i=>
   simp only [bA,HT.sIx,fe,show (1:Int) > 0 by decide,if_true]
   by_cases h:i < 0
   ·simp only [h,if_true] <;> omega
   ·simp only [h,if_false] <;> omega
theorem Q8u (its:List aB) (lo hi:Option Int):slicePick its.toArray lo hi none=((its.drop (HT.sIx its.length 0 lo)).take (HT.sIx its.length its.length hi - HT.sIx its.length 0 lo)).toArray:=by
 obtain ⟨h1,h2,j⟩:=Qax lo hi its.toArray.size;unfold slicePick;rw [h1,h2,j];simp only [sliceRange_one,pick_run,O3] <;> rfl
def Qxm (K:bP):V->Option Int->Option Int->Hp->VK->Prop:=fun x lo hi H Q=>∃ a xs,x=.ref a/\SqL K H a xs/\∀ p,H p=none->Q (.ref p) (upd H p (.lst (Qde xs lo hi)))
theorem Qms:SlR X (Qxm X.K):=by
 intro pins s σ H x v U O lo hi Y Q I J hs pl G h;obtain ⟨a,xs,rfl,B,q⟩:=h;cases J;obtain ⟨its,r,z,hz⟩:=I.list B;have j:=r.length;refine ⟨"list",_,slot_list_getitem.lookup,z.isList.typeIs,?_⟩;refine wpAny_getItem_list_slice z.isList hs pl G .none (by simp) ?_ (by rw [O3] <;> omega);rw [Q8u,<- j];refine ⟨.ref s.heap.objs.size,_,I.laid (t':=s.toks) (o:=.lst (Qde xs lo hi)) (fun b ob q=>O0 _ q) (O7 _) ?_,rfl,q _ (I.hok.fresh (O7 _))⟩;exact ⟨F1 (Q5n xs lo hi) hz,_,0,(r.drop (HT.sIx xs.length 0 lo)).take (HT.sIx xs.length xs.length hi - HT.sIx xs.length 0 lo),D6 _ rfl⟩
theorem Qbr:j6 X (.builtin "len") (fun xs H Q=>∃ p ys,xs=[.ref p]/\(SqL X.K H p ys\/SqT X.K H p ys)/\Q (.int ys.length) H):=by
 intro pins s σ H xs us Q I r h;obtain ⟨p,ys,rfl,z,q⟩:=h;obtain ⟨u,rfl,G⟩:=Q2k r;cases G;have J:=Q52;rcases z with z | z
 ·obtain ⟨its,B,pl,hz⟩:=I.list z;have j:=B.length;exact Calls.call_len_list pl.isList (by simp only [O3] <;> omega) ⟨.int ys.length,H,I.tok _,⟨s.toks + 1,by rw [O3,j]⟩,q⟩
 ·obtain ⟨its,B,pl,hz⟩:=I.tuple z;have j:=B.length;exact len_tuple pl (by simp only [O3] <;> omega) ⟨.int ys.length,H,I.tok _,⟨s.toks + 1,by rw [O3,j]⟩,q⟩
theorem Qbq:j6 X (.builtin "len") (fun xs H Q=>∃ z,xs=[.str z]/\z.length<=sizeLine/\Q (.int z.length) H):=by
 intro pins s σ H xs us Q I r h;obtain ⟨z,rfl,hz,q⟩:=h;obtain ⟨u,rfl,t,rfl⟩:=Q2k r;have j:=Q52;exact len_str (by omega) ⟨.int z.length,H,I.tok _,⟨_,rfl⟩,q⟩
theorem Qbp:j6 X (.type "list") (fun xs H Q=>∃ p ys,xs=[.ref p]/\(SqL X.K H p ys\/SqT X.K H p ys)/\∀ l,H l=none->Q (.ref l) (upd H l (.lst ys))):=by
 intro pins s σ H xs us Q I r h;obtain ⟨p,ys,rfl,G,q⟩:=h;obtain ⟨u,rfl,U⟩:=Q2k r;cases U;have fin:∀ (its:List aB),Vals ys its->ys.length<=sizeLine->∀ (h':Heap) (z:Nat),(∀ b o',s.heap.get? b=some o'->h'.get? b=some o') ->
   h'.get? s.heap.objs.size=some { cls:=.type "list",dict:=none,data:=.seq its.toArray z,slots:=#[] }->EP X pins σ Q (.ref s.heap.objs.size) { s with heap:=h' }:=fun its j hz h' z kp e=>
  ⟨.ref s.heap.objs.size,_,I.laid (t':=s.toks) kp (O7 _) (show ObjOk X.prog X.w _ h' _ (.lst ys) from ⟨hz,its,z,j,e⟩),rfl,q _ (I.hok.fresh (O7 _))⟩
 rcases G with G | G
 ·obtain ⟨its,j,pl,hz⟩:=I.list G;have B:=j.length;obtain ⟨o,O,J,n,hd⟩:=pl.isList;exact call_list_seq p (.inl rfl) O J hd (fun h' z kp e=>fin its j hz h' z kp e) (by simp only [O3] <;> omega)
 ·obtain ⟨its,j,pl,hz⟩:=I.tuple G;have B:=j.length;obtain ⟨o,O,J,n,hd⟩:=pl;exact call_list_seq p (.inr rfl) O J hd (fun h' z kp e=>fin its j hz h' z kp e) (by simp only [O3] <;> omega)
theorem Q2r:j6 X (.type "tuple") (fun xs H Q=>∃ p ys,xs=[.ref p]/\((SqL X.K H p ys/\∀ l,H l=none->Q (.ref l) (upd H l (.tup ys)))\/(SqT X.K H p ys/\Q (.ref p) H))):=by
 intro pins s σ H xs us Q I r h;obtain ⟨p,ys,rfl,h⟩:=h;obtain ⟨u,rfl,J⟩:=Q2k r;cases J;rcases h with ⟨z,q⟩ | ⟨z,q⟩
 ·obtain ⟨its,j,pl,hz⟩:=I.list z;have G:=j.length;refine call_tuple_list pl.isList (fun h' kp=>?_) (by simp only [O3] <;> omega);have B:Inv X pins σ H { s with heap:=h' }:=I.kept (t':=s.toks) kp;have O:Inv X pins σ (upd H h'.objs.size (.tup ys)) { s with heap:=h'.push { cls:=.type "tuple",data:=.seq its.toArray } }:=
   B.laid (t':=s.toks) (fun b o e=>O0 _ e) (O7 _) (show ObjOk X.prog X.w _ _ _ (.tup ys) from ⟨hz,its,j,IsTup.new _ _⟩)
  exact ⟨.ref h'.objs.size,_,O,rfl,q _ (B.hok.fresh (O7 _))⟩
 ·obtain ⟨its,j,pl,hz⟩:=I.tuple z;exact call_tuple_same pl ⟨.ref p,H,I,rfl,q⟩
def tyV (K:bP) (T:String) (x:V) (H:Hp):Prop:=match x with
 | .str _=>T = "str"
 | .int _=>T = "int"
 | .ref p=>(T = "list" /\ ∃ xs,SqL K H p xs)\/(T = "tuple" /\ ∃ o,K.lookup p=some o/\o.cls=.type "tuple" /\ o.dict=none) \/
   (T = "dict" /\ ((∃ kvs,H p=some (.dK kvs))\/∃ kvs,H p=some (.dT kvs)))\/(T = "set" /\ ∃ S n,H p=some (.set S n))
 | _=>False
theorem Qds {pins:List (aA × Obj)} {σ:St} {H:Hp} {s:aC} {T:String} {x:V} {v:aB} (I:Inv X pins σ H s) (r:RelV x v) (ty:tyV X.K T x H) :
  s.TypeIs v T/\∀ a,v=.ref a->∃ ob,s.heap.get? a=some ob/\ob.dict=none:=by
 cases x with
 | str z=>
  obtain ⟨t,rfl⟩:=r;cases (show T = "str" from ty);exact ⟨typeIs_str s z t,fun _ e=>nomatch e⟩
 | int i=>
  obtain ⟨t,rfl⟩:=r;cases (show T = "int" from ty);exact ⟨typeIs_int s i t,fun _ e=>nomatch e⟩
 | ref p=>
  cases r;rcases ty with ⟨rfl,xs,B⟩ | ⟨rfl,o,j,q,hd⟩ | ⟨rfl,j⟩ | ⟨rfl,S,n,j⟩
  ·obtain ⟨its,_,pl,_⟩:=I.list B;refine ⟨pl.isList.typeIs,fun a e=>?_⟩;cases e;obtain ⟨o,n,e,c,hd,_⟩:=pl;exact ⟨o,e,hd⟩
  ·refine ⟨⟨o,I.kIn p o j,q⟩,fun a e=>?_⟩
   cases e;exact ⟨o,I.kIn _ o j,hd⟩
  ·have z:∃ o,s.heap.get? p=some o/\o.ExactDict:=by
    rcases j with ⟨kvs,j⟩ | ⟨kvs,j⟩
    ·obtain ⟨_,_,_,_,o,_,_,e,ex,_⟩:=I.hok p _ j;exact ⟨o,e,ex⟩
    ·obtain ⟨_,_,_,_,o,_,_,e,ex,_⟩:=I.hok p _ j;exact ⟨o,e,ex⟩
   obtain ⟨o,e,ex⟩:=z;refine ⟨⟨o,e,ex.1⟩,fun a e2=>?_⟩
   cases e2;exact ⟨o,e,ex.2.1⟩
  ·obtain ⟨o,_,_,_,e,ex,_⟩:=I.hok p _ j;refine ⟨⟨o,e,ex.1⟩,fun a e2=>?_⟩
   cases e2;exact ⟨o,e,ex.2.1⟩
 | _=>exact False.elim ty
def tBM (K:bP) (T:String) (r:V->List V->Hp->VK->Prop) (to:TE) (t:TA):TE:=fun σ H Q=>to σ H fun x H1=>tyV K T x H1/\t σ H1 fun xs H2=>r x xs H2 Q
variable {o e:aD} {es:List aD} {to:TE} {t:TA} {name:Str} {apos cpos:Pos} {T id:String} {r:V->List V->Hp->VK->Prop}
theorem Quw (Z:PlainAttrs T) (slot:Slot T name id) (G:typeOf (.builtin id)=pure (.type "method_descriptor")) (Y:MtR X id r) (ho:PE X o to) (ha:PA X (e :: es) t)
  (q:ag o name X.env (aK o X.env)=aK o X.env:=by rfl)
  (B:((aU cpos (aO (e :: es) X.env)).all (fun x=>!x.1) && (backToKw cpos (keywordEach [] X.env)).all (fun x=>x.1.isSome)
   && decide ((e :: es).length + ([]:List Keyword).length + (if ([]:List Keyword).isEmpty then 0 else 1) < 30))=true:=by rfl)
  (z:(apos.endLine == cpos.line)=true:=by rfl) (hs:aO (e :: es) X.env=(false,aK e X.env) :: aO es X.env:=by rfl) (j:(aU cpos (aO es X.env)).any (·.1)=false:=by rfl) :
  PE X (.Call (.Attribute o name apos) (e :: es) [] cpos) (tBM X.K T r to t):=by
 intro pins s σ H Q I h;refine wpAny_Call_method_late q B z rfl (thn (ho pins s σ H _ I h) fun v s1 ⟨x,H1,U,J,ty,q1⟩=>?_)
 obtain ⟨h1,h2⟩:=Qds U J ty;refine ⟨T,id,Z,slot,G,h1,h2,?_⟩;have O:=ha cpos pins s1 σ H1 _ U q1;rw [hs] at O ⊢;refine Calls.callWith_builtin (by show (false || (aU cpos (aO es X.env)).any (·.1))=false; rw [j] <;> rfl) (Calls.evalArgs_plain ?_);exact thn O fun us s2 ⟨vs,H2,I2,r2,q2⟩=>Y pins s2 σ H2 x vs v us Q I2 J r2 q2
end
def MtM (X:Cx) (id:String) (r:V->List V->Hp->VK->Prop):Prop:=
 ∀ (pins:List (aA × Obj)) (s:aC) (σ:St) (H:Hp) (x:V) (xs:List V) (v:aB) (us:List aB) (Q:VK),Inv X pins σ H s->RelV x v->Vals xs us->r x xs H Q ->
  aI (aJ X.prog X.w) X.A (call (.builtin id) (v :: us)) (EP X pins σ Q) X.xe s
theorem Vals.one:∀ {x:V} {us:List aB},Vals [x] us->∃ u,us=[u]/\RelV x u
 | _,_,.cons r .nil=>⟨_,rfl,r⟩
theorem Vals.zero:∀ {us:List aB},Vals [] us->us=[]
 | _,.nil=>rfl
theorem Vals.rep {xs:List V} {us:List aB} (h:Vals xs us):∀ k:Nat,Vals (bQ k xs).flatten (bQ k us).flatten
 | 0=>.nil
 | k + 1=>by
  rw [cG,cG,cS,cS];exact Vals.append h (Vals.rep h k)
theorem Q59 (its:List aB):∀ (k:Nat) (j:List aB),
  dO (fun z q=>z ++ q) j.toArray (bQ k its.toArray)=(j ++ (bQ k its).flatten).toArray
 | 0,j=>by simp
 | k + 1,j=>by
  have e:j.toArray ++ its.toArray=(j ++ its).toArray:=by simp
  have e2:(j ++ its) ++ (bQ k its).flatten=j ++ (bQ (k + 1) its).flatten:=by
   rw [cG,cS,cH]
  rw [<- e2,<- Q59 its k (j ++ its),<- e,cG,cc]
section
variable {X:Cx} {pins:List (aA × Obj)} {σ:St} {H:Hp} {s:aC} {l b:aA} {xs ys zs:List V}
theorem Inv.lset {its its':List aB} {n:Nat} {f:Array aB->Array aB} {t':Nat} (I:Inv X pins σ H s) (G:H l=some (.lst xs))
  (e:s.heap.get? l=some { cls:=.type "list",data:=.seq its.toArray n }) (J:f its.toArray=its'.toArray) (B:Vals ys its') (hz:ys.length<=sizeLine) :
  Inv X pins σ (upd H l (.lst ys)) { s with heap:=s.heap.update l (cb f),toks:=t' }:=by
 have q:=PySem.IsL.update e f;rw [J] at q;refine I.write (x:=l) (e:=l) (by rw [G]; exact trivial) (.inl rfl) (fun O u j z=>(E5 s.heap (cb f) (Ne.symm j)).trans z) ⟨_,q⟩ ?_
 exact ⟨hz,its',_,B,q⟩
theorem Inv.lnew {its:List aB} {t':Nat} (I:Inv X pins σ H s) (j:Vals ys its) (hz:ys.length<=sizeLine) :
  Inv X pins σ (upd H s.heap.objs.size (.lst ys)) { s with heap:=s.heap.push { cls:=.type "list",data:=.seq its.toArray },toks:=t' }:=
 I.laid (fun _ _ q=>O0 _ q) (O7 _) ⟨hz,its,0,j,D6 _ rfl⟩
theorem Inv.fresh (I:Inv X pins σ H s):H s.heap.objs.size=none:=I.hok.fresh (O7 _)
theorem Inv.lstM (I:Inv X pins σ H s) (j:H l=some (.lst xs)):xs.length<=sizeLine/\∃ (its:List aB) (n:Nat),Vals xs its/\xs.length=its.length/\s.heap.get? l=some { cls:=.type "list",data:=.seq its.toArray n }:=by
 obtain ⟨z,its,n,r,e⟩:=I.hok l _ j;exact ⟨z,its,n,r,r.length,e⟩
theorem Qcs {n:Nat} (h:n<=sizeLine):Builtin.List.listTooLong n=false:=by
 unfold Builtin.List.listTooLong;exact bL (by omega)
end
section
variable {X:Cx}
def Qn3:V->List V->Hp->VK->Prop:=fun x vs H Q=>∃ l xs y,x=.ref l/\vs=[y]/\H l=some (.lst xs)/\xs.length < sizeLine/\Q .non (upd H l (.lst (xs ++ [y])))
theorem Qh0:MtM X "list.append" Qn3:=by
 intro pins s σ H x vs v us Q I G B h;obtain ⟨l,xs,y,rfl,rfl,j,hz,q⟩:=h;cases G;obtain ⟨u,rfl,J⟩:=B.one;obtain ⟨z,its,n,r,O,e⟩:=I.lstM j;refine aq F.slot_list_append ⟨_,e,rfl⟩ F.entry_list_append (F.args_list_append_2 _ _) (fh l its.toArray n u (by rw [O3]; omega)) ⟨e,?_⟩;refine ⟨.non,_,I.lset (its':=its ++ [u]) j e (by simp) (r.append (.cons J .nil)) ?_,rfl,q⟩;rw [O8,eP];omega
def Qn2:V->List V->Hp->VK->Prop:=fun x vs H Q=>∃ l b xs zs,x=.ref l/\vs=[.ref b]/\H l=some (.lst xs)/\H b=some (.lst zs)/\xs.length + zs.length<=sizeLine/\Q .non (upd H l (.lst (xs ++ zs)))
theorem Qgy:MtM X "list.extend" Qn2:=by
 intro pins s σ H x vs v us Q I Y Z h;obtain ⟨l,b,xs,zs,rfl,rfl,J,hB,hz,q⟩:=h;cases Y;obtain ⟨u,rfl,ru⟩:=Z.one;cases ru;obtain ⟨z,its,n,r,hl,e⟩:=I.lstM J;obtain ⟨z2,j,O,r2,U,e2⟩:=I.lstM hB;have G:its.toArray.size + j.toArray.size<=sizeLine:=by rw [O3,O3]; omega
 have B:¬ (!its.toArray.isEmpty && Builtin.List.listTooLong (its.toArray.size + j.toArray.size))=true:=by
  rw [Qcs G,dP];exact D7
 refine aq F.slot_list_extend ⟨_,e,rfl⟩ F.entry_list_extend (F.args_list_extend_2 _ _)
  (AutoSeq1.list_extend_list_list_0 l its.toArray n b j.toArray O B (by rw [O3]; omega) (by omega)) ⟨e,e2,?_⟩
 refine ⟨.non,_,I.lset (its':=its ++ j) J e (by simp) (r.append r2) ?_,rfl,q⟩;rw [O8];omega
def Qrg:V->List V->Hp->VK->Prop:=fun x vs H Q=>∃ l xs,x=.ref l/\vs=[]/\H l=some (.lst xs)/\Q .non (upd H l (.lst []))
theorem Qjr:MtM X "list.clear" Qrg:=by
 intro pins s σ H x vs v us Q I J G h;obtain ⟨l,xs,rfl,rfl,B,q⟩:=h;cases J;have j:=G.zero;subst j;obtain ⟨z,its,n,r,O,e⟩:=I.lstM B;refine aq F.slot_list_clear ⟨_,e,rfl⟩ F.entry_list_clear (F.args_list_clear_1 _) (AutoSeq1.list_clear_list_0 l its.toArray n (by rw [O3]; omega)) ⟨e,?_⟩;exact ⟨.non,_,I.lset (its':=[]) (ys:=[]) B e rfl .nil (cM _),rfl,q⟩
def Qxq:R2:=fun x y H Q=>∃ l b xs zs,x=.ref l/\y=.ref b/\H l=some (.lst xs)/\H b=some (.lst zs)/\xs.length + zs.length<=sizeLine/\∀ p,H p=none->Q (.ref p) (upd H p (.lst (xs ++ zs)))
theorem Qsb:OpR X (aW .Add) Qxq:=by
 intro pins s σ H x y v u Q I J B h;obtain ⟨l,b,xs,zs,rfl,rfl,U,Z,hz,q⟩:=h;cases J;cases B;obtain ⟨z,its,n,r,hl,e⟩:=I.lstM U;obtain ⟨z2,j,n2,Y,G,e2⟩:=I.lstM Z;refine PySem.P.add_list e e2 ?_ (by rw [O3,O3]; omega);have O:its.toArray ++ j.toArray=(its ++ j).toArray:=by simp
 rw [O];exact ⟨.ref _,_,I.lnew (t':=s.toks) (r.append Y) (by rw [O8]; omega),rfl,q _ I.fresh⟩
def Qxn:R2:=fun x y H Q=>∃ l k xs,x=.ref l/\y=.int k/\H l=some (.lst xs)/\-(2 ^ 63)<=k/\k < 2 ^ 63/\xs.length * k.toNat<=sizeLine /\
 ∀ p,H p=none->Q (.ref p) (upd H p (.lst (bQ k.toNat xs).flatten))
theorem Qbb {α:Type} (xs:List α) (k:Nat):(bQ k xs).flatten.length=k * xs.length:=by
 induction k with
 | zero=>simp
 | succ k j=>rw [cG,cS,O8,j,Nat.succ_mul,Nat.add_comm]
theorem Qs6:OpR X (aW .Mult) Qxn:=by
 intro pins s σ H x y v u Q I rx ry h;obtain ⟨l,k,xs,rfl,rfl,hH,h1,h2,hz,q⟩:=h;cases rx;obtain ⟨t,rfl⟩:=ry;obtain ⟨z,its,n,r,hl,e⟩:=I.lstM hH;have O:its.toArray.size * k.toNat<=sizeLine:=by rw [O3,<- hl]; exact hz
 have G:¬ its.toArray.size * k.toNat > (2 ^ 63 - 1) / 8:=by
  have:(sizeLine:Nat)<=(2 ^ 63 - 1) / 8:=by decide
  omega
 have J:¬ (!Builtin.List.listFitsIndex k)=true:=by
  rw [fitsIndex_both h1 h2];exact D7
 have j:¬ Builtin.List.listTooLong (its.toArray.size * k.toNat)=true:=by
  rw [Qcs O];exact D7
 have B:dO (fun Z Y=>Z ++ Y) #[] (bQ (if its.toArray.isEmpty=true then 0 else k.toNat) its.toArray)=(bQ k.toNat its).flatten.toArray:=by
  have f0:∀ m:Nat,dO (fun Z Y=>Z ++ Y) #[] (bQ m its.toArray)=(bQ m its).flatten.toArray:=fun m=>by
   have:=Q59 its m [];rw [fj] at this;exact this
  rw [f0];cases its with
  | nil=>simp
  | cons a r'=>rw [bK (by simp)]
 refine wpAny_binaryOp_repeat_ref (T := "list") (U := "int") (by decide) ⟨_,e,rfl⟩ (fun s'=>typeIs_int s' k t) noFill_list_mul F.fills_int_mul F.slot_int_rmul repeat_list F.slot_int_index.lookup
  (aq F.slot_int_rmul (typeIs_int s k t) F.entry_int_rmul (F.args_int_rmul_2 _ _) (int___rmul___int_list k t l its.toArray n)
   ⟨e,rfl,⟨_,e,rfl⟩,aq F.slot_list_mul ⟨_,e,rfl⟩ F.entry_list_mul (F.args_list_mul_2 _ _) (AutoListH.list___mul___list_int_3 l its.toArray n k t J G j) ⟨e,?_⟩⟩)
 rw [B];exact ⟨.ref _,_,I.lnew (t':=s.toks) (r.rep k.toNat) (by rw [Qbb,eQ]; exact hz),rfl,q _ I.fresh⟩
end
section
variable {prog:aN} {w:aL} {A:aR} {E:aB->aC->Prop} {s:aC}
end
section
variable {X:Cx}
end
end L2
namespace Att
open PySem PySem.W PySem.Calls PyProof.Rows
theorem Q64 {P:Params} {h:Heap}:∀ (ns:List Int) (vs:List aB),WellAll P h vs (ns.map WData.int)->IntsAre vs ns:=by
 intro ns
 induction ns with
 | nil=>
  intro vs w;rw [ca] at w;cases w;exact .nil
 | cons n ns j=>
  intro vs w;rw [F2] at w;cases w with
  | cons a b=>
   cases a;exact .cons _ _ (j _ b)
theorem Qgc {l:OpenLaw} {n:Nat} (hn:l.most=some n) {P:Params} {h:Heap} {args:List WData} {j:List aB}
  (z:l.row.toRowW.claim.pre args=true) (O:WellAll P h j args) :
  ∃ a vs ns,j=[bW a]/\args=[WData.list (ns.map WData.int)]/\h.get? a=some { cls:=.type "list",data:=.seq vs.toArray }/\IntsAre vs ns/\ns.length<=n:=by
 have U:WShape.hasAll [] args [.list .int]=true:=(pre_splitW z).1;have Y:l.pre.holds [] { args:=args }=true:=(pre_splitW z).2;obtain ⟨d,r,rfl,h1,h2⟩:=hasAllW_cons U;obtain rfl:=hasAllW_nil h2;obtain ⟨xs,rfl,h3⟩:=hasW_list h1;obtain ⟨ns,rfl⟩:=items_int h3;have G:ns.length<=n:=by
  unfold OpenLaw.pre at Y;have J:(WTm.not (.lt (.lit (.int (n:Int))) (.len (.arg 0)))).holds [] { args:=[.list (ns.map .int)] }=true:=by
   have J:=(holds_andW Y).1;rw [hn] at J;exact J
  have I:=condW_of J (w_not (w_lt w_lit (w_len_list (w_arg rfl))));rw [O2] at I;refine Nat.le_of_not_lt fun q=>?_
  have q':(n:Int) < ((ns.length:Nat):Int):=by omega
  first
   | (rw [bN q'] at I; exact absurd I (by decide))
   | (simp at I; omega)
 cases O with
 | cons w1 Z=>
  cases Z;cases w1 with
  | list ho B=>exact ⟨_,_,ns,rfl,rfl,ho,Q64 ns _ B,G⟩
theorem Qgk (l:OpenLaw) (args:List WData):l.row.toRowW.claim.post args (.bool true) args=true:=
 postW_of (r:=l.row.toRowW) (X:=(true == true))
  (show WShape.has [] (.bool true) .bool=true by first | rfl | decide | simp [WShape.has,WShape.arms,WShape.armsAll])
  (show (WTm.eq .res (.lit (.bool true))).value [] { args:=args,res:=some (.bool true),after:=args }=some (.bool (true == true)) from w_eq_bool (w_res rfl) w_lit) rfl
theorem attach_call {l:OpenLaw} {n:Nat} {q:aN} {z:List Str} {XP:(Str->Option aB)->Heap->Prop} {YP:aL->Heap->Prop} {d:DefRec}
  (hn:l.most=some n) (a4:d.params.defaults=[])
  (call:∀ (w:aL) (s₀ j:aC) (mg mb:Str->Option aB) (U:aA) (o:Obj) (pm cd B:aB) (a:aA) (vs:List aB) (ns:List Int),
   Ground q z [] XP w s₀ mg mb j.heap->YP w j.heap ->
   j.heap.get? U=some o->o.data=.func (docDef d.name d.params d.body d.scope pm cd B)->j.heap.CodeRec cd d.name->mg d.name=some (.ref U) ->
   j.heap.get? a=some { cls:=.type "list",data:=.seq vs.toArray }->IntsAre vs ns->ns.length<=n->j.gens=#[] ->
   codeAny (aJ l.prog w) callerA (.call (.ref U) ⟨[.ref a],[]⟩) (fun r s'=>r=.ok (.ret (.bool true))/\OldK j.heap s'.heap/\s'.os=j.os/\AllBare s'.gens) j) :
  WalkO q z XP YP l.row.toRowW d [] (fun f vs=>eR f vs):=by
 intro w s₀ j mg mb G Y U o pm cd B dV kV ho hd a2 hD a5 hg args a7 as Z a6 a9 a3 a8;obtain rfl:dV=.none:=Dflts.none hD a4;obtain rfl:kV=.none:=Dflts.noKw hD;obtain ⟨a,vs,ns,rfl,rfl,O,I,J⟩:=Qgc hn Z a3;refine enter_call (bD (call w s₀ j mg mb U o pm cd B a vs ns G Y ho (fd_plain hd) a2 a5 O I J hg) fun r s' hq=>?_)
 obtain ⟨rfl,h2,h3,h4⟩:=hq;exact ⟨.inl ⟨.bool true,.bool true,[],rfl,fun _=>rfl,.bool true,Qgk l _,fun _=>⟨List.Pairwise.nil,fun _ hm=>(nomatch hm)⟩⟩,h2,h3,h4⟩
section
variable {prog:aN} {w:aL} {A:aR} {E:aB->aC->Prop} {s:aC} {K:Frag}
end
end Att
namespace L2
open PySem PySem.Spec PyProof.Rows
theorem Q9s:∀ {vs:List aB} {ns:List Int},IntsAre vs ns->Vals (ns.map V.int) vs
 | _,_,.nil=>.nil
 | _,_,.cons n t h=>.cons ⟨t,rfl⟩ (Q9s h)
def Qtc (H:Hp):Prop:=∀ b,H b=none\/∃ o xs,H b=some (.frz o (.lst xs))
theorem Qk1 {P:aN} {w:aL} {K:bP} {mg mb:Str->Option aB} {CX:CXT} {k:Nat} {fa a:aA} {fd:aP} {x:Str} {sp:Sp} {j:aC} {vs:List aB} {ns:List Int}
  (KX:K.In j.heap) (a3:j.heap.Ns aQ mg) (G:j.heap.Ns builtinsNs mb) (a7:∀ x:Str,x≠"__name__" -> mb x=aZ x) (U:j.heap.NoLimit) (hg:j.gens=#[])
  (ha:j.heap.get? a=some { cls:=.type "list",data:=.seq vs.toArray }) (hi:IntsAre vs ns) (hl:ns.length<=sizeLine) (hr:Room k callerA)
  (F:∀ base:Heap,K.In base->base.Ns aQ mg->FnOk P w K mg base CX k fa fd [x] sp) (O:∀ (s:aC) (u:aB),BindsTo s fd ⟨[u],[]⟩ [(x,u)])
  (a5:∀ H:Hp,Qtc H->SqL K H a (ns.map V.int)->sp [.ref a] H (fun v _=>v=.bl true) fun _ _ _=>False)
  (a4:∀ H e s',CX [] H j (fun _ _ _=>False) e s'->False) :
  codeAny (aJ P w) callerA (.call (.ref fa) ⟨[.ref a],[]⟩) (fun r s'=>r=.ok (.ret (.bool true))/\OldK j.heap s'.heap/\s'.os=j.os/\AllBare s'.gens) j:=by
 have rv:=Q9s hi;have Y:=hi.length;have J:∀ H:Hp,Qtc H->SqL K H a (ns.map V.int)->HOk P w H j.heap->(∀ b,H b≠none->b=a)->(H a≠none->K.lookup a=none) ->
   codeAny (aJ P w) callerA (.call (.ref fa) ⟨[.ref a],[]⟩) (fun r s'=>r=.ok (.ret (.bool true))/\OldK j.heap s'.heap/\s'.os=j.os/\AllBare s'.gens) j:=by
  intro H hO hS hok hA hK;have B:∀ {b:aA} {o:Obj},j.heap.get? b=some o->H b=none->(Qbf j.heap H).get? b=some o:=fun e n=>Qk5 e n
  have a6:∀ {b:aA} {o:Obj} {es:Array DictEntry} {ep:Nat},j.heap.get? b=some o->o.data=.dict es ep->H b=none:=fun {b o es ep} e d=>by
   cases q:H b with
   | none=>rfl
   | some u=>
    have e':b=a:=hA b (by rw [q]; simp);subst e';rw [ha] at e; cases e;have d':Data.seq vs.toArray _=Data.dict es ep:=d;cases d'
  have I:∀ {b:aA} {m:Str->Option aB},j.heap.Ns b m->(Qbf j.heap H).Ns b m:=fun {b m} ⟨o,es,ep,e,d,r⟩=>⟨o,es,ep,B e (a6 e d),d,r⟩
  have Z:K.In (Qbf j.heap H):=fun b o e=>B (KX b o e) (by
   cases q:H b with
   | none=>rfl
   | some u=>
    have e':b=a:=hA b (by rw [q]; simp);subst e';rw [hK (by rw [q]; simp)] at e; cases e)
  have hM:Mod K mg (Qbf j.heap H):=⟨Z,I a3,⟨mb,I G,a7⟩,let ⟨mc,h1,h2⟩:=U; ⟨mc,I h1,h2⟩⟩;have e0:Env0 P w K mg (Qbf j.heap H) callerA [] j H:=⟨rfl,hM,fun b o e=>Qp0 e,eE (Qhg _ _),trivial,fun b G=>absurd (show b∈([]:List aA) from G) (by simp),hok,.of_eq hg⟩;refine bD ((F _ Z (I a3)).run callerA [] j H ⟨[.ref a],[]⟩ [.ref a] [.ref a] _ _ hr e0 (O j (.ref a)) (.cons rfl .nil) (a5 H hO hS)) fun r s' h=>?_
  cases r with
  | error e=>exact (a4 H e s' h).elim
  | ok fl=>
   cases fl with
   | next=>exact False.elim h
   | brk=>exact False.elim h
   | cont=>exact False.elim h
   | ret u=>
    obtain ⟨v,H',os,bare,un,a2,r',q⟩:=h;have q':v=.bl true:=q;subst q';obtain rfl:u=cB true:=r';refine ⟨rfl,OldK.of_keep fun b o e=>?_,os,bare⟩;cases q:H b with
    | none=>exact un.keep b o e q (by intro z; exact absurd (show b∈([]:List aA) from z) (by simp)) (by simp)
    | some u=>
     rcases hO b with z | ⟨ob,xs,z⟩
     ·rw [q] at z; cases z
     ·have z2:=un.frzs b ob _ z;obtain ⟨e1,_⟩:=hok b _ z;obtain ⟨e2,_⟩:=a2 b _ z2;rw [e] at e1; cases e1;exact e2
 cases hk:K.lookup a with
 | some o=>
  have e:=KX a o hk;rw [ha] at e;cases e;refine J (fun _=>none) (fun _=>.inl rfl) (.inr ⟨_,vs.toArray,_,hk,rfl,rfl,rfl,by rw [O3,Y]; exact hl,by simpa using rv⟩) (fun b u z=>by have z':(none:Option HO)=some u:=z; cases z') (fun b z=>absurd rfl z) fun z=>absurd rfl z
 | none=>
  refine J (fun b=>if b=a then some (.frz { cls:=.type "list",data:=.seq vs.toArray } (.lst (ns.map V.int))) else none) (fun b=>?_) (.inl (.inr ⟨{ cls:=.type "list",data:=.seq vs.toArray },bJ rfl⟩)) (fun b u z=>?_) (fun b z=>?_) fun _=>hk
  ·by_cases G:b=a
   ·exact .inr ⟨_,_,bJ G⟩
   ·exact .inl (bK G)
  ·by_cases G:b=a
   ·have z':=(bJ G).symm.trans z;cases z';subst G;exact ⟨ha,by rw [O2]; exact hl,vs,_,rv,ha⟩
   ·have z':=(bK G).symm.trans z;cases z'
  ·by_cases G:b=a
   ·exact G
   ·exact absurd (bK G) z
theorem walk_of {l:eT} {n k:Nat} {q:aN} {B:List Str} {XP:(Str->Option aB)->Heap->Prop} {YP:aL->Heap->Prop} {d:DefRec} {K:Params->bP} {CX:aL->CXT} {sp:aL->Sp} {x:Str}
  (hn:l.most=some n) (a2:n<=sizeLine) (a3:d.params.defaults=[]) (hr:Room k callerA)
  (hY:∀ (w:aL) (h:Heap),YP w h->(K w.params).In h)
  (F:∀ (w:aL) (mg:Str->Option aB) (O:aA) (h:Heap),(K w.params).In h->h.Ns aQ mg->mg d.name=some (.ref O) ->
   ∃ fd:aP,(∀ (s:aC) (u:aB),BindsTo s fd ⟨[u],[]⟩ [(x,u)]) /\
    ∀ base:Heap,(K w.params).In base->base.Ns aQ mg->FnOk l.prog w (K w.params) mg base (CX w) k O fd [x] (sp w))
  (Z:∀ (w:aL) (H:Hp) (a:aA) (ns:List Int),ns.length<=n->Qtc H->SqL (K w.params) H a (ns.map V.int)->sp w [.ref a] H (fun v _=>v=.bl true) fun _ _ _=>False)
  (U:∀ (w:aL) (H:Hp) (s:aC) (e:aB) (s':aC),CX w [] H s (fun _ _ _=>False) e s'->False) :
  fk q B XP YP l.row.toRowW d [] (fun f vs=>eR f vs):=by
 refine Att.attach_call hn a3 fun w s₀ J mg mb O o pm cd a6 a vs ns G Y ho hd a5 a4 I z j hg=>?_
 have KX:=hY w _ Y;obtain ⟨fd,hb,hF⟩:=F w mg O _ KX G.T.g a4;exact Qk1 KX G.T.g G.T.b G.T.builtins G.T.nolimit hg I z (F1 j a2) hr hF hb (fun H hO hS=>Z w H a ns j hO hS) fun H e s'=>U w H J e s'
def K9 (s:aM) (j:Nat):aM:=match s with
 | .ClassDef _ _ _ body _ _ _ _ _ _ _=>body.getD j (.Pass ⟨0,0,0,0⟩)
 | _=>.Pass ⟨0,0,0,0⟩
def Qq (s:aM):Arguments:=match s with
 | .FunctionDef _ a _ _ _ _ _ _ _ _=>a
 | _=>{ posonlyargs:=[],args:=[],vararg:=none,kwonlyargs:=[],kw_defaults:=[],kwarg:=none,defaults:=[] }
def Qn (s:aM):List aM:=match s with
 | .FunctionDef _ _ b _ _ _ _ _ _ _=>b
 | _=>[]
def Q6 (s:aM):Scope:=match s with
 | .FunctionDef _ _ _ _ _ _ sc _ _ _=>sc
 | _=>{ kind:=.function,names:=[],isGenerator:=false,isCoroutine:=false }
abbrev CX0:CXT:=fun _ _ _ _ _ _=>False
abbrev E0:XK:=fun _ _ _=>False
structure Fun (K:bP) (x qual:Str) (st:aM) (f:aA) (fd:aP):Prop where
 ex:∃ (oc:aB) (od:Option aA) (kV doc pm:aB) (an:Option aA) (cdv ct:aB) (osl:Array (Option aB)),
  fd=bT x qual (Qq st) (Qn st) (Q6 st) .none kV doc pm an cdv ct/\K.lookup f=some ⟨oc,od,.func fd,osl⟩/\bU K cdv qual=true
 kp:bS K (.ref f)=true
section
variable {P:aN} {w:aL} {K:bP} {mg:Str->Option aB} {base:Heap}
theorem Fun.ok {x qual:Str} {st:aM} {f:aA} {fd:aP} {N ps:List Str} {k:Nat} {sp:Sp} (F:Fun K x qual st f fd) (S:FnScope N ps (Q6 st)) (len:∀ vs H Q E,sp vs H Q E->vs.length=ps.length)
  (z:∀ (j:aB) (A:aR) (outer:List Env) (s:aC) (H:Hp) (vs:List V) (Q:VK) (E:XK),Room k (A.deeper (envOfC qual (Q6 st) s.heap.objs.size f j))->sp vs H Q E ->
   ∃ t,PSs (Qeu CX0 P w K mg base N qual (Q6 st) f j A outer s H E).nox (Qn st) t/\t { nx:=fun _ H'=>Q .non H',rt:=Q } (start N vs) H):FnOk P w K mg base CX0 (k + 1) f fd ps sp:=by
 obtain ⟨Z,U,kV,I,Y,an,j,ct,O,rfl,lk,G⟩:=F.ex;refine Qqs lk G S len fun A outer s H vs Q E J B=>?_
 obtain ⟨t,h,q⟩:=z j A outer s H vs Q E J B;exact ⟨t,h.nox,q⟩
theorem Fun.binds {x qual:Str} {st:aM} {f:aA} {fd:aP} {ps:List Str} (F:Fun K x qual st f fd)
  (h:∀ (kV j z:aB) (an:Option aA) (q ct:aB) (us:List aB),us.length=ps.length->bindArgs (bT x qual (Qq st) (Qn st) (Q6 st) .none kV j z an q ct) ⟨us,[]⟩=pure (ps.zip us)):Binds K fd ps []:=by
 obtain ⟨J,I,kV,j,z,an,q,ct,G,rfl,lk,B⟩:=F.ex;exact .all (h kV j z an q ct)
theorem qh {x qual:Str} {st:aM} {f:aA} {I:aB} {G an:Option aA} {z:Array (Option aB)} {kV q B j ct:aB} (l:K.lookup f=some ⟨I,G,.func (bT x qual (Qq st) (Qn st) (Q6 st) .none kV q B an j ct),z⟩)
  (c:bU K j qual=true) (k:bS K (.ref f)=true):Fun K x qual st f (bT x qual (Qq st) (Qn st) (Q6 st) .none kV q B an j ct):=⟨⟨I,G,kV,q,B,an,j,ct,z,rfl,l,c⟩,k⟩
end
section
variable {X:Cx}
theorem pv (i:Nat) {x:Str} {pos:Pos} (q:X.N[i]?=some x:=by rfl) (z:Vis X.env.scope x:=by first | exact Or.inl rfl | exact Or.inr (Or.inl rfl) | exact Or.inr (Or.inr rfl)) (hd:(x == ("__debug__" : Str))=false:=by decide)
  (j:(x == ("__classdict__" : Str))=false:=by decide):PE X (.Name x pos) (Qr5 i):=Qj9 q z hd j
end
def Same (H H':Hp):Prop:=∀ b o,H b=some o->H' b=some o
theorem Same.refl (H:Hp):Same H H:=fun _ _ h=>h
theorem Qev {scope:Scope} {env:Env} (h:∀ x∈scope.names,x.2=.free->∃ c,env.cells.lookup x.1=some c) :
  ∃ cl,closureFor scope env=pure cl/\(∀ x c,cl.lookup x=some c->env.cells.lookup x=some c)/\(∀ x∈scope.names,x.2=.free->∃ c,cl.lookup x.1=some c):=by
 have Y:∀ (l:List (Str × aj)) (j:List (Str × aA)),(∀ x∈l,x.2=.free->∃ c,env.cells.lookup x.1=some c)->(∀ x c,j.lookup x=some c->env.cells.lookup x=some c) ->
   ∃ cl,(forIn l j fun (x:Str × aj) (r:List (Str × aA))=>(match x with
    | (name,kind)=>if (kind == NameKind.free)=true then (do let c <- cellOf env name; pure (ForInStep.yield ((name,c) :: r))) else (do pure PUnit.unit; pure (ForInStep.yield r)):Sem (ForInStep (List (Str × aA)))))=pure cl /\
    (∀ x c,cl.lookup x=some c->env.cells.lookup x=some c)/\(∀ x∈l,x.2=.free->∃ c,cl.lookup x.1=some c)/\(∀ x c,j.lookup x=some c->∃ B,cl.lookup x=some B):=by
  intro l
  induction l with
  | nil=>intro j _ O; exact ⟨j,rfl,O,fun x J=>(by simp at J),fun x c e=>⟨c,e⟩⟩
  | cons x r ih=>
   intro j Z O;obtain ⟨n,k⟩:=x
   by_cases hk:k=.free
   ·subst hk;obtain ⟨c,hc⟩:=Z (n,.free) D4 rfl;have a2:∀ x B,((n,c) :: j).lookup x=some B->env.cells.lookup x=some B:=fun x B e=>by
     rw [D9] at e
     by_cases J:x=n
     ·subst J; simp at e; rw [<- e]; exact hc
     ·have:(x == n)=false:=by simpa using J
      rw [this] at e; exact O x B e
    obtain ⟨cl,e1,e2,e3,I⟩:=ih ((n,c) :: j) (fun y q=>Z y (D0 _ q)) a2
    refine ⟨cl,?_,e2,fun y q U=>?_,fun y B e=>?_⟩
    ·rw [dQ];have G:cellOf env n=pure c:=by unfold cellOf; rw [hc]
     simp only [beq_self_eq_true,if_true,G];exact e1
    ·rcases E3.mp q with e | q
     ·subst e;exact I n c (by simp)
     ·exact e3 y q U
    ·by_cases q:y=n
     ·subst q; exact I y c (by simp)
     ·have:(y == n)=false:=by simpa using q
      exact I y B (by rw [D9,this]; exact e)
   ·obtain ⟨cl,e1,e2,e3,I⟩:=ih j (fun y q=>Z y (D0 _ q)) O
    refine ⟨cl,?_,e2,fun y q U=>?_,I⟩
    ·rw [dQ];have:(k == NameKind.free)=false:=by simpa using hk
     simp only [this,fm,if_false];exact e1
    ·rcases E3.mp q with e | q
     ·subst e; exact absurd U hk
     ·exact e3 y q U
 obtain ⟨cl,e1,e2,e3,_⟩:=Y scope.names [] h (fun x c e=>by simp at e);refine ⟨cl,?_,e2,e3⟩;unfold closureFor;exact (congrArg (fun z=>z >>= pure) e1).trans rfl
theorem Q3y (f:Str->aj->aj) (x:Str):∀ l:List (Str × aj),(l.map fun y=>(y.1,f y.1 y.2)).lookup x=(l.lookup x).map (f x)
 | []=>rfl
 | (n,k) :: r=>by
  have z:=Q3y f x r;rw [F2,D9,D9]
  by_cases j:x=n
  ·subst j; simp
  ·have q:(x == n)=false:=by simpa using j
   rw [q]; exact z
theorem Q17 {scope:Scope} {env:Env} {x:Str}:(relabel scope env).names.lookup x =
  (scope.names.lookup x).map fun k=>if (k == .free && env.scope.kind == .function && env.kindOf x == some .cell) then .cell else k:=by
 rw [<- Q3y (fun n k=>if (k == .free && env.scope.kind == .function && env.kindOf n == some .cell) then .cell else k)]
 unfold relabel;refine congrArg (bw x) (fo fun y _=>?_);obtain ⟨n,k⟩:=y;show (if (k == NameKind.free && env.scope.kind == .function && env.kindOf n == some .cell)=true then (n,NameKind.cell) else (n,k))=_
 split <;> rfl
def Qy5 (N N':List Str) (sc scE:Scope) (cap:List (Option Nat)):Bool:=
 sc.kind == .function && sc.names.all (fun x=>x.2 != .cell) && sc.names.all (fun x=>x.2 != .local || sc.names.lookup x.1 == some .local) &&
 sc.names.all (fun x=>x.2 != .free || scE.names.lookup x.1 == some .cell || scE.names.lookup x.1 == some .free) && cap.length == N'.length &&
 (bV cap.length).all (fun i=>match cap[i]? with
  | some (some j)=>(match N'[i]?,N[j]? with | some a,some b=>a == b && sc.names.lookup a == some .free | _,_=>false)
  | _=>true)
def Q46 (cap:List (Option Nat)) (σ:St):St:=cap.map fun c=>c.bind fun j=>(σ[j]?).join
section
variable {prog:aN} {w:aL} {A:aR} {R:Result->aC->Prop} {s:aC}
end
section
variable {X:Cx}
theorem HOk.same {P:aN} {w:aL} {H:Hp} {h h':Heap} {a:aA} (ok:HOk P w H h) (z:H a=none) (hs:Heap.SameBut a h h'):HOk P w H h':=fun b ob e=>by
 refine (ok b ob e).stay (fun c B j q=>(hs.2 c ?_).trans q) (fun _ q=>q) fun _ _ q=>q
 rintro rfl;rcases j with rfl | j
 ·rw [z] at e; cases e
 ·rw [z] at j; cases j
end
def HasItems (t:Bool) (h:Heap) (a:aA) (items:Array aB):Prop:=if t=true then h.IsTuple a items else h.IsList a items
def IterAt (t:Bool) (h:Heap) (it a:aA) (i:Nat):Prop:=if t=true then h.IsTupleIter it a i else h.IsListIter it a i
theorem HasItems.at {t:Bool} {h h':Heap} {a:aA} {j:Array aB} (x:HasItems t h a j) (k:∀ o,h.get? a=some o->h'.get? a=some o):HasItems t h' a j:=by
 cases t
 ·exact Heap.IsList.at x k
 ·obtain ⟨o,e,r⟩:=x;exact ⟨o,k o e,r⟩
theorem HasItems.there {t:Bool} {h:Heap} {a:aA} {j:Array aB} (x:HasItems t h a j):∃ o,h.get? a=some o:=by
 cases t
 ·obtain ⟨o,e,_⟩:=x; exact ⟨o,e⟩
 ·obtain ⟨o,e,_⟩:=x; exact ⟨o,e⟩
theorem IterAt.at {t:Bool} {h h':Heap} {j a:aA} {i:Nat} (x:IterAt t h j a i) (k:∀ o,h.get? j=some o->h'.get? j=some o):IterAt t h' j a i:=by
 cases t
 ·exact Heap.IsListIter.at x k
 ·obtain ⟨o,e,r⟩:=x;exact ⟨o,k o e,r⟩
theorem IterAt.there {t:Bool} {h:Heap} {j a:aA} {i:Nat} (x:IterAt t h j a i):∃ o,h.get? j=some o/\∀ v,o.data≠.cell v:=by
 cases t
 ·obtain ⟨o,e,_,d⟩:=x; exact ⟨o,e,fun v z=>by rw [d] at z; cases z⟩
 ·obtain ⟨o,e,_,d⟩:=x; exact ⟨o,e,fun v z=>by rw [d] at z; cases z⟩
section
variable {prog:aN} {w:aL} {A:aR} {E:aB->aC->Prop} {s:aC}
theorem Q3r {q l:aA} {i:Nat} {items} {x:aB} {Q:aB->aC->Prop} (j:s.heap.IsTupleIter q l i)
  (I:s.heap.IsTuple l items) (J:items[i]?=some x)
  (U:∀ h',h'.IsTupleIter q l (i + 1)->Heap.SameBut q s.heap h'->Q x { s with heap:=h' }) :
  aI (aJ prog w) A (Builtin.SmallTypes.nextOf (.ref q)) Q E s:=by
 obtain ⟨o,z,O,hd⟩:=id j;obtain ⟨Y,B,_,nl,G⟩:=I;unfold Builtin.SmallTypes.nextOf;refine aF (wpAny_callSpecial?_slot (name:=bO "__next__") j.typeIs F.slot_tuple_iterator_next
  (bE F.slot_tuple_iterator_next j.typeIs F.entry_tuple_iterator_next ?_ (F.args_tuple_iterator_next_1 _)))
 show aI _ _ (field (.ref q) 0 >>= _) _ _ s;refine aF (aY z hd (x:=.ref l) rfl ?_);show aI _ _ (if (bW l == bb)=true then _ else _) _ _ s;rw [bK (show ¬ ((bW l == bb)=true) from D7)];show aI _ _ (field (.ref q) 1 >>= _) _ _ s;refine aF (aY z hd (x:=.int i 0) rfl ?_);show aI _ _ (seqItems? (.ref l) >>= _) _ _ s;refine aF (au B G ?_);simp only [cF,J];refine aF (wpAny_setField z hd (by simp) (aS ⟨x,rfl,aS (U _ ?_ (Heap.SameBut.update ..))⟩));exact ⟨_,F9 _ z (cx (cA hd _)),(eU ..).trans O,by
  rw [cA hd]; simp [ad]⟩
theorem Q4z {q l:aA} {i:Nat} {items} {Q:aB->aC->Prop} (I:A.handled=none)
  (j:s.heap.IsTupleIter q l i) (J:s.heap.IsTuple l items) (O:items[i]?=none)
  (U:∀ h' e,Heap.ExtBut q s.heap h'->(∃ o,h'.get? e=some o/\o.cls=.type "StopIteration")->E (.ref e) { s with heap:=h' }) :
  aI (aJ prog w) A (Builtin.SmallTypes.nextOf (.ref q)) Q E s:=by
 obtain ⟨o,G,Y,hd⟩:=id j;obtain ⟨Z,z,_,nl,B⟩:=J;unfold Builtin.SmallTypes.nextOf;refine aF (wpAny_callSpecial?_slot (name:=bO "__next__") j.typeIs F.slot_tuple_iterator_next
  (bE F.slot_tuple_iterator_next j.typeIs F.entry_tuple_iterator_next ?_ (F.args_tuple_iterator_next_1 _)))
 show aI _ _ (field (.ref q) 0 >>= _) _ _ s;refine aF (aY G hd (x:=.ref l) rfl ?_);show aI _ _ (if (bW l == bb)=true then _ else _) _ _ s;rw [bK (show ¬ ((bW l == bb)=true) from D7)];show aI _ _ (field (.ref q) 1 >>= _) _ _ s;refine aF (aY G hd (x:=.int i 0) rfl ?_);show aI _ _ (seqItems? (.ref l) >>= _) _ _ s;refine aF (au z B ?_);simp only [cF,O];refine aF (bH (aF (wpAny_setField G hd (by simp) ?_)));show aI _ _ (newExc (.type "StopIteration") [] >>= _) _ _ _;refine aF ?_;simp only [newExc,newTuple];refine aF (ao ?_ (by size_fits));refine aF (m:=firstArgMember _ _) (wpAny_of_eq (a:=bb) (by first | rfl | (simp only [firstArgMember]; rfl)) ?_);refine ao ?_ (by size_fits);simp only [raiseNew]
 refine aF (wpAny_handled ?_)
 first | rw [show A.in1.handled=none from I] | rw [I]
 refine aF (aS (wpAny_throw ?_));exact U _ _ (((Heap.SameBut.update ..).extBut.push _).push _) ⟨_,D6 _ rfl,rfl⟩
theorem Q1d {t:Bool} {z l:aA} {i:Nat} {j:Array aB} {x:aB} {Q:aB->aC->Prop} (q:IterAt t s.heap z l i)
  (B:HasItems t s.heap l j) (G:j[i]?=some x)
  (I:∀ h',IterAt t h' z l (i + 1)->Heap.SameBut z s.heap h'->Q x { s with heap:=h' }) :
  aI (aJ prog w) A (Builtin.SmallTypes.nextOf (.ref z)) Q E s:=by
 cases t
 ·exact wpAny_nextOf_list_item q B G I
 ·exact Q3r q B G I
theorem Q7k {t:Bool} {z l:aA} {i:Nat} {j:Array aB} {Q:aB->aC->Prop} (J:A.handled=none)
  (q:IterAt t s.heap z l i) (B:HasItems t s.heap l j) (G:j[i]?=none)
  (I:∀ h' e,Heap.ExtBut z s.heap h'->(∃ o,h'.get? e=some o/\o.cls=.type "StopIteration")->E (.ref e) { s with heap:=h' }) :
  aI (aJ prog w) A (Builtin.SmallTypes.nextOf (.ref z)) Q E s:=by
 cases t
 ·exact wpAny_nextOf_list_end J q B G I
 ·exact Q4z J q B G I
def K8 (t:Bool) (l:aA):Obj:=if t=true then { cls:=.type "tuple_iterator",data:=.fields #[.ref l,.int 0 0] } else { cls:=.type "list_iterator",data:=.fields #[.ref l,.int 0 0] }
theorem Xj {t:Bool} {l:aA} {j:Array aB} {Q:aB->aC->Prop} (z:HasItems t s.heap l j)
  (q:Q (.ref s.heap.objs.size) { s with heap:=s.heap.push (K8 t l) }):aI (aJ prog w) A (pyIter (.ref l)) Q E s:=by
 cases t
 ·exact wpAny_pyIter_list z q
 ·exact bI z q
theorem Q33 {t:Bool} {h:Heap} {j l:aA} (e:h.get? j=some (K8 t l)):IterAt t h j l 0:=by
 cases t
 ·exact ⟨_,e,rfl,rfl⟩
 ·exact ⟨_,e,rfl,rfl⟩
theorem Q0i (t:Bool) (l:aA):(K8 t l).isFreed=false:=by cases t <;> rfl
theorem Qg4 {t1 t2:Bool} {z TI TO i1 i2 l1 l2:aA} {k1 k2:Nat} {xs ys:Array aB} {x y a b:aB} {Q:aB->aC->Prop} (D:ZipApart z TI TO i1 i2 l1 l2)
  (hz:IsZip s.heap z TI TO .none) (c8:aX s.heap TI (.ref i1) (.ref i2)) (c9:aX s.heap TO a b)
  (h1:IterAt t1 s.heap i1 l1 k1) (h2:IterAt t2 s.heap i2 l2 k2) (d0:HasItems t1 s.heap l1 xs) (d1:HasItems t2 s.heap l2 ys) (hx:xs[k1]?=some x) (hy:ys[k2]?=some y)
  (hQ:∀ h',IsZip h' z TI TO (ad s.heap.objs.size)->aX h' TO x y->IterAt t1 h' i1 l1 (k1 + 1)->IterAt t2 h' i2 l2 (k2 + 1)->aX h' s.heap.objs.size x y->h'.objs.size=s.heap.objs.size + 1 ->
   (∀ c o,c≠z->c≠TO->c≠i1->c≠i2->s.heap.get? c=some o->h'.get? c=some o)->Q (.ref s.heap.objs.size) { s with heap:=h' }) :
  aI (aJ prog w) A (Builtin.«zip.__next__» ⟨[.ref z],[]⟩) (fun fin s'=>∃ v,fin=.done (.ret v)/\Q v s') E s:=by
 show aI _ _ (field (.ref z) 2 >>= _) _ _ _;refine aF (aY hz rfl (x:=.bool false) rfl ?_);show aI _ _ (field (.ref z) 3 >>= _) _ _ _;refine aF (aY hz rfl (x:=.ref TI) rfl ?_);refine aF (au c8 rfl ?_);show aI _ _ (Builtin.SmallTypes.ownedTupleIsFree (.ref z) >>= _) _ _ _;refine aF ?_;unfold Builtin.SmallTypes.ownedTupleIsFree;refine aF (aY hz rfl (x:=.none) rfl (aS ?_));simp only [if_true];refine aF (bH ?_);refine aF (aY hz rfl (x:=.ref TO) rfl ?_);refine aF (bF hz (by simp) fun c6 a2 q=>?_)
 replace a2:IsZip c6 z TI TO .ellipsis:=a2;refine aF ?_;simp only [fq,ft,dQ,eV];refine aF (aF (wpAny_onRaise ?_));show aI _ _ (Builtin.SmallTypes.nextOf (.ref i1) >>= _) _ _ _;refine aF (Q1d (h1.at fun o e=>q.extBut _ _ D.i1z e) (d0.at fun o e=>q.extBut _ _ D.l1z e) hx fun c7 b6 G=>aS ?_)
 have a7:aX c7 TO a b:=G.extBut _ _ D.TOi1 (q.extBut _ _ D.TOz c9);refine aF (au a7 rfl ?_);refine aF (wpAny_updateSeq_pair a7 fun c5 Y B=>?_);replace Y:aX c5 TO x b:=Y;refine aF (wpAny_letGo (aS ?_));refine aF (aF (wpAny_onRaise ?_));show aI _ _ (Builtin.SmallTypes.nextOf (.ref i2) >>= _) _ _ _;refine aF (Q1d (h2.at fun o e=>B.extBut _ _ D.TOi2.symm (G.extBut _ _ D.i12.symm (q.extBut _ _ D.i2z e)))
  (d1.at fun o e=>B.extBut _ _ D.l2TO (G.extBut _ _ D.l2i1 (q.extBut _ _ D.l2z e))) hy fun b7 b5 O=>aS ?_)
 have a6:aX b7 TO x b:=O.extBut _ _ D.TOi2 Y;refine aF (au a6 rfl ?_);refine aF (wpAny_updateSeq_pair a6 fun j I J=>?_);replace I:aX j TO x y:=I;refine aF (wpAny_letGo (aS (aS ?_)));refine aF (au I rfl ?_);refine aF (wpAny_newTuple ?_);have b9:j.objs.size=s.heap.objs.size:=by rw [J.1,O.1,B.1,G.1,q.1]
 have a8:IsZip j z TI TO .ellipsis:=J.extBut _ _ D.TOz.symm (O.extBut _ _ D.i2z.symm (B.extBut _ _ D.TOz.symm (G.extBut _ _ D.i1z.symm a2)));have b4:∀ c o,c≠z->c≠TO->c≠i1->c≠i2->s.heap.get? c=some o->j.get? c=some o:=fun c o c1 c2 c3 c4 e=>
  J.extBut _ _ c2 (O.extBut _ _ c4 (B.extBut _ _ c2 (G.extBut _ _ c3 (q.extBut _ _ c1 e))))
 have b1:IterAt t1 j i1 l1 (k1 + 1):=b6.at fun o e=>J.extBut _ _ D.TOi1.symm (O.extBut _ _ D.i12 (B.extBut _ _ D.TOi1.symm e))
 have b2:IterAt t2 j i2 l2 (k2 + 1):=b5.at fun o e=>J.extBut _ _ D.TOi2.symm e
 have b0:z < j.objs.size:=O9 a8;show aI _ _ (Builtin.SmallTypes.ownedTupleHandOut (.ref z) (.ref j.objs.size) >>= _) _ _ _;refine aF ?_;unfold Builtin.SmallTypes.ownedTupleHandOut;have b3:IsZip (j.push { cls:=.type "tuple",data:=.seq #[x,y] }) z TI TO .ellipsis:=O0 _ a8;refine aF (bF b3 (by simp) fun b8 a5 a4=>?_)
 replace a5:IsZip b8 z TI TO (ad j.objs.size):=a5;refine bF a5 (by simp) fun Z U a3=>?_
 replace U:IsZip Z z TI TO (ad j.objs.size):=U;have up:∀ c o,c≠z->j.get? c=some o->Z.get? c=some o:=fun c o c1 e=>a3.extBut _ _ c1 (a4.extBut _ _ c1 (O0 _ e))
 have a9:aX Z j.objs.size x y:=a3.extBut _ _ (cE b0) (a4.extBut _ _ (cE b0) (D6 _ rfl));have c0:Z.objs.size=j.objs.size + 1:=by rw [a3.1,a4.1,F4]
 rw [b9] at U a9 c0;refine aS ⟨_,rfl,?_⟩;show Q (.ref j.objs.size) _;rw [b9];exact hQ Z U (up _ _ D.TOz I) (b1.at fun o e=>up _ o D.i1z e) (b2.at fun o e=>up _ o D.i2z e) a9 c0 fun c o c1 c2 c3 c4 e=>up c o c1 (b4 c o c1 c2 c3 c4 e)
theorem Qi7 {t1 t2:Bool} {z TI TO i1 i2 l1 l2:aA} {k1 k2:Nat} {xs ys:Array aB} {a b:aB} {Q:Fin->aC->Prop} (hh:A.handled=none) (D:ZipApart z TI TO i1 i2 l1 l2)
  (hz:IsZip s.heap z TI TO .none) (b2:aX s.heap TI (.ref i1) (.ref i2)) (b3:aX s.heap TO a b)
  (h1:IterAt t1 s.heap i1 l1 k1) (h2:IterAt t2 s.heap i2 l2 k2) (a9:HasItems t1 s.heap l1 xs) (b4:HasItems t2 s.heap l2 ys) (a8:xs[k1]?=none\/ys[k2]?=none)
  (hE:∀ h' e,(∀ c o,c≠z->c≠TO->c≠i1->c≠i2->s.heap.get? c=some o->h'.get? c=some o)->(∃ o,h'.get? e=some o/\o.cls=.type "StopIteration")->E (.ref e) { s with heap:=h' }) :
  aI (aJ prog w) A (Builtin.«zip.__next__» ⟨[.ref z],[]⟩) Q E s:=by
 show aI _ _ (field (.ref z) 2 >>= _) _ _ _;refine aF (aY hz rfl (x:=.bool false) rfl ?_);show aI _ _ (field (.ref z) 3 >>= _) _ _ _;refine aF (aY hz rfl (x:=.ref TI) rfl ?_);refine aF (au b2 rfl ?_);show aI _ _ (Builtin.SmallTypes.ownedTupleIsFree (.ref z) >>= _) _ _ _;refine aF ?_;unfold Builtin.SmallTypes.ownedTupleIsFree;refine aF (aY hz rfl (x:=.none) rfl (aS ?_));simp only [if_true];refine aF (bH ?_);refine aF (aY hz rfl (x:=.ref TO) rfl ?_);refine aF (bF hz (by simp) fun b0 G j=>?_)
 replace G:IsZip b0 z TI TO .ellipsis:=G;refine aF ?_;simp only [fq,ft,dQ,eV];refine aF (aF (wpAny_onRaise ?_));show aI _ _ (Builtin.SmallTypes.nextOf (.ref i1) >>= _) _ _ _;cases hx:xs[k1]? with
 | none=>
  refine aF (Q7k hh (h1.at fun o e=>j.extBut _ _ D.i1z e) (a9.at fun o e=>j.extBut _ _ D.l1z e) hx fun Z e q he=>?_)
  obtain ⟨oe,I,Y⟩:=he;have a3:IsZip Z z TI TO .ellipsis:=q _ _ D.i1z.symm G;have a5:e≠z:=fun x=>by subst x; rw [a3] at I; cases I; simp at Y
  refine bF a3 (by simp) fun a4 _ B=>hE a4 e (fun c o c1 _ c3 _ x=>B.extBut _ _ c1 (q _ _ c3 (j.extBut _ _ c1 x))) ⟨oe,B.extBut _ _ a5 I,Y⟩
 | some x=>
  have hy:ys[k2]?=none:=by rcases a8 with h | h; rw [hx] at h; cases h; exact h
  refine aF (Q1d (h1.at fun o e=>j.extBut _ _ D.i1z e) (a9.at fun o e=>j.extBut _ _ D.l1z e) hx fun Z b5 q=>aS ?_)
  have J:aX Z TO a b:=q.extBut _ _ D.TOi1 (j.extBut _ _ D.TOz b3);refine aF (au J rfl ?_);refine aF (wpAny_updateSeq_pair J fun a4 b1 B=>?_);refine aF (wpAny_letGo (aS ?_));refine aF (aF (wpAny_onRaise ?_));show aI _ _ (Builtin.SmallTypes.nextOf (.ref i2) >>= _) _ _ _;refine aF (Q7k hh (h2.at fun o e=>B.extBut _ _ D.TOi2.symm (q.extBut _ _ D.i12.symm (j.extBut _ _ D.i2z e)))
   (b4.at fun o e=>B.extBut _ _ D.l2TO (q.extBut _ _ D.l2i1 (j.extBut _ _ D.l2z e))) hy fun a6 e a2 he=>?_)
  obtain ⟨oe,I,Y⟩:=he;have U:IsZip a6 z TI TO .ellipsis:=a2 _ _ D.i2z.symm (B.extBut _ _ D.TOz.symm (q.extBut _ _ D.i1z.symm G));have a5:e≠z:=fun x=>by subst x; rw [U] at I; cases I; simp at Y
  refine bF U (by simp) fun a7 _ O=>hE a7 e (fun c o c1 c2 c3 c4 x=>O.extBut _ _ c1 (a2 _ _ c4 (B.extBut _ _ c2 (q.extBut _ _ c3 (j.extBut _ _ c1 x))))) ⟨oe,O.extBut _ _ a5 I,Y⟩
theorem Q7j {t1 t2:Bool} {z TI TO j q G B:aA} {k1 k2:Nat} {xs ys:Array aB} {x y a b:aB} {Q:Option aB->aC->Prop} (D:ZipApart z TI TO j q G B)
  (hz:IsZip s.heap z TI TO .none) (I:aX s.heap TI (.ref j) (.ref q)) (J:aX s.heap TO a b)
  (h1:IterAt t1 s.heap j G k1) (h2:IterAt t2 s.heap q B k2) (O:HasItems t1 s.heap G xs) (U:HasItems t2 s.heap B ys) (hx:xs[k1]?=some x) (hy:ys[k2]?=some y)
  (hQ:∀ h',IsZip h' z TI TO (ad s.heap.objs.size)->aX h' TO x y->IterAt t1 h' j G (k1 + 1)->IterAt t2 h' q B (k2 + 1)->aX h' s.heap.objs.size x y->h'.objs.size=s.heap.objs.size + 1 ->
   (∀ c o,c≠z->c≠TO->c≠j->c≠q->s.heap.get? c=some o->h'.get? c=some o)->Q (some (.ref s.heap.objs.size)) { s with heap:=h' }) :
  aI (aJ prog w) A (ay (.ref z)) Q E s:=by
 have Y:s.TypeIs (.ref z) "zip" := ⟨_,hz,rfl⟩;unfold ay;exact aF (wpAny_attempt (wpAny_callSpecial?_slot (name:=bO "__next__") Y F.slot_zip_next
  (bE F.slot_zip_next Y F.entry_zip_next
   (Qg4 D hz I J h1 h2 O U hx hy fun h' a1 Z a3 a4 a5 a6 a7=>aS (hQ h' a1 Z a3 a4 a5 a6 a7)) (F.args_zip_next_1 _))))
theorem Q9m {t1 t2:Bool} {z TI TO q B U G:aA} {k1 k2:Nat} {xs ys:Array aB} {a b:aB} {Q:Option aB->aC->Prop} (hh:A.handled=none) (D:ZipApart z TI TO q B U G)
  (hz:IsZip s.heap z TI TO .none) (I:aX s.heap TI (.ref q) (.ref B)) (J:aX s.heap TO a b)
  (h1:IterAt t1 s.heap q U k1) (h2:IterAt t2 s.heap B G k2) (O:HasItems t1 s.heap U xs) (Y:HasItems t2 s.heap G ys) (j:xs[k1]?=none\/ys[k2]?=none)
  (hQ:∀ h',(∀ c o,c≠z->c≠TO->c≠q->c≠B->s.heap.get? c=some o->h'.get? c=some o)->Q none { s with heap:=h' }):aI (aJ prog w) A (ay (.ref z)) Q E s:=by
 have Z:s.TypeIs (.ref z) "zip" := ⟨_,hz,rfl⟩;unfold ay;refine aF (wpAny_attempt (wpAny_callSpecial?_slot (name:=bO "__next__") Z F.slot_zip_next
  (bE F.slot_zip_next Z F.entry_zip_next (Qi7 hh D hz I J h1 h2 O Y j fun h' e hk he=>?_) (F.args_zip_next_1 _))))
 obtain ⟨o,ho,hc⟩:=he;refine aF (wpAny_isInstance (T := "StopIteration") (b:=true) ⟨o,ho,hc⟩ isSubtype_stop ?_);exact aS (hQ _ hk)
end
def zH1 (t1:Bool) (h:Heap) (l1:aA):Heap:=h.push (K8 t1 l1)
def zH2 (t1 t2:Bool) (h:Heap) (l1 l2:aA):Heap:=(zH1 t1 h l1).push (K8 t2 l2)
def zH3 (t1 t2:Bool) (h:Heap) (l1 l2:aA):Heap:=(zH2 t1 t2 h l1 l2).push { cls:=.type "tuple",data:=.seq #[.ref h.objs.size,.ref (zH1 t1 h l1).objs.size] }
def zH4 (t1 t2:Bool) (h:Heap) (l1 l2:aA):Heap:=(zH3 t1 t2 h l1 l2).push { cls:=.type "tuple",data:=.seq #[.none,.none] }
def zH5 (t1 t2:Bool) (h:Heap) (l1 l2:aA):Heap:=(zH4 t1 t2 h l1 l2).push { cls:=.type "zip",data:=.fields #[.none,.bool false,.bool false,.ref (zH2 t1 t2 h l1 l2).objs.size,.ref (zH3 t1 t2 h l1 l2).objs.size] }
theorem Q7m (t1 t2:Bool) (j q:aA) (xs ys:Array aB) :
  Meets (Builtin.«zip.__new__» ⟨[.type "zip",.ref j,.ref q],[]⟩) (fun _ R s=>HasItems t1 s.heap j xs/\HasItems t2 s.heap q ys /\
   R (.ok (.ret (.ref (zH4 t1 t2 s.heap j q).objs.size))) { s with heap:=zH5 t1 t2 s.heap j q }):=
 .of_wp fun prog w A R s h=>by
  obtain ⟨hp,g,d,tk,os⟩:=s; obtain ⟨I,B,h⟩:=h;have J:=sub_zip;have G:HasItems t1 (Shared.heap ⟨hp,g,d,tk,os⟩) j xs:=I;have z:HasItems t2 (Shared.heap ⟨hp.push (K8 t1 j),g,d,tk,os⟩) q ys:=B.at fun o e=>O0 _ e
  wp_walk using Xj G,Xj z
  exact ⟨_,rfl,h⟩
section
variable {prog:aN} {w:aL} {A:aR} {E:aB->aC->Prop} {s:aC}
theorem Qhn {t1 t2:Bool} {j q:aA} {xs ys:Array aB} {Q:aB->aC->Prop} (U:HasItems t1 s.heap j xs) (I:HasItems t2 s.heap q ys)
  (h:∀ h',IsZip h' (s.heap.objs.size + 4) (s.heap.objs.size + 2) (s.heap.objs.size + 3) .none->aX h' (s.heap.objs.size + 2) (.ref s.heap.objs.size) (.ref (s.heap.objs.size + 1)) ->
   aX h' (s.heap.objs.size + 3) .none .none->IterAt t1 h' s.heap.objs.size j 0->IterAt t2 h' (s.heap.objs.size + 1) q 0->h'.objs.size=s.heap.objs.size + 5 ->
   (∀ c o,s.heap.get? c=some o->h'.get? c=some o)->Q (.ref (s.heap.objs.size + 4)) { s with heap:=h' }) :
  aI (aJ prog w) A (call (.type "zip") [.ref j,.ref q]) Q E s:=by
 refine callType_new F.called_zip (by decide) (F.typeCall_zip_2 _ _) (F.newCall_zip_2 _ _) (fun obj=>F.args_object_init_3 obj _ _) F.entry_zip_new
  (Q7m t1 t2 j q xs ys) ⟨U,I,?_⟩
 have G:(zH1 t1 s.heap j).objs.size=s.heap.objs.size + 1:=F4 ..;have z:(zH2 t1 t2 s.heap j q).objs.size=s.heap.objs.size + 2:=by unfold zH2; rw [F4,G]
 have B:(zH3 t1 t2 s.heap j q).objs.size=s.heap.objs.size + 3:=by unfold zH3; rw [F4,z]
 have J:(zH4 t1 t2 s.heap j q).objs.size=s.heap.objs.size + 4:=by unfold zH4; rw [F4,B]
 have z5:(zH5 t1 t2 s.heap j q).objs.size=s.heap.objs.size + 5:=by unfold zH5; rw [F4,J]
 have O:(zH5 t1 t2 s.heap j q).get? (zH4 t1 t2 s.heap j q).objs.size=some { cls:=.type "zip",data:=.fields #[.none,.bool false,.bool false,.ref (zH2 t1 t2 s.heap j q).objs.size,.ref (zH3 t1 t2 s.heap j q).objs.size] }:=D6 _ rfl;have Y:(zH5 t1 t2 s.heap j q).get? (zH3 t1 t2 s.heap j q).objs.size=some { cls:=.type "tuple",data:=.seq #[.none,.none] }:=O0 _ (D6 _ rfl);have Z:(zH5 t1 t2 s.heap j q).get? (zH2 t1 t2 s.heap j q).objs.size=some { cls:=.type "tuple",data:=.seq #[.ref s.heap.objs.size,.ref (zH1 t1 s.heap j).objs.size] }:=O0 _ (O0 _ (D6 _ rfl));have g2:(zH5 t1 t2 s.heap j q).get? (zH1 t1 s.heap j).objs.size=some (K8 t2 q):=O0 _ (O0 _ (O0 _ (D6 _ (Q0i _ _))));have g1:(zH5 t1 t2 s.heap j q).get? s.heap.objs.size=some (K8 t1 j):=O0 _ (O0 _ (O0 _ (O0 _ (D6 _ (Q0i _ _)))));show _/\_;rw [z,B,J] at O;rw [G,z] at Z;rw [B] at Y;rw [G] at g2;rw [J];exact ⟨⟨_,O,rfl⟩,h _ O Z Y (Q33 g1) (Q33 g2) z5 fun c o x=>
  O0 _ (O0 _ (O0 _ (O0 _ (O0 _ x))))⟩
end
def SqK (K:bP) (t:Bool) (H:Hp) (a:aA) (xs:List V):Prop:=if t=true then SqT K H a xs else SqL K H a xs
section
variable {X:Cx} {pins:List (aA × Obj)} {σ:St} {H:Hp} {s:aC}
theorem Inv.seqK {t:Bool} {a:aA} {xs:List V} (I:Inv X pins σ H s) (h:SqK X.K t H a xs):∃ its:List aB,Vals xs its/\HasItems t s.heap a its.toArray/\xs.length<=sizeLine:=by
 cases t
 ·obtain ⟨its,r,p,z⟩:=I.list h;exact ⟨its,r,p.isList,z⟩
 ·obtain ⟨its,r,p,z⟩:=I.tuple h;exact ⟨its,r,p,z⟩
theorem Inv.seqK_inj {t:Bool} {a:aA} {xs ys:List V} (I:Inv X pins σ H s) (h:SqK X.K t H a xs) (h':SqK X.K t H a ys):xs=ys:=by
 cases t
 ·exact I.list_inj h h'
 ·exact I.tuple_inj h h'
theorem Inv.turnedL {t':Nat} {its:List aA} {h':Heap} (I:Inv X pins σ H s) (k:∀ b o,b∉its->s.heap.get? b=some o->h'.get? b=some o) (G:∀ b∈its,Q8r X pins H b):Inv X pins σ H { s with heap:=h',toks:=t' }:=by
 have B:∀ b u,H b=some u->b∉its:=fun b u e z=>by rw [(G b z).1] at e; cases e
 refine I.step (g':=s.gens) (d':=s.drawn) (ch:=its) (fun b Y=>?_) (fun b o _ _ j e _=>k b o j e) (fun b o _ _ j e _=>⟨o.slots,k b o j e⟩) (fun _ _ _ _ n=>n)
  (fun b o j e=>⟨o,k b o j e⟩) (fun _ _ e=>e) (fun _ _ _ e=>e) (fun b ps e=>⟨#[],by rw [e]; simp⟩) (fun m U=>?_) (fun b u e=>?_) I.bare
 ·obtain ⟨f0,Z,f2,O,J,f5⟩:=G b Y;exact ⟨O,Z,J,f5⟩
 ·obtain ⟨o,es,ep,ho,r⟩:=U;exact ⟨o,es,ep,k _ o (fun z=>(G _ z).2.1 rfl) ho,r⟩
 ·refine (I.hok b u e).stay (fun c v j q=>k c v ?_ q) (fun _ q=>q) fun _ _ q=>q
  rcases j with z | z
  ·rw [z]; exact B b u e
  ·exact B c _ z
end
def Itz (K:bP) (t1 t2:Bool) (a b:aA):It:=
 ⟨fun i H=>∃ xs ys x y,SqK K t1 H a xs/\SqK K t2 H b ys/\xs[i]?=some x/\ys[i]?=some y,
  fun i H v H'=>∃ p x y,H p=none/\v=.ref p/\H'=upd H p (.tup [x,y])/\∀ xs ys,SqK K t1 H a xs->SqK K t2 H b ys->xs[i]?=some x/\ys[i]?=some y,
  fun i H=>∃ xs ys,SqK K t1 H a xs/\SqK K t2 H b ys/\(xs.length<=i\/ys.length<=i)⟩
def Qtu (t1 t2:Bool) (z TI TO i1 i2 a b:aA) (i:Nat) (h:Heap):Prop:=
 IsZip h z TI TO .none/\aX h TI (.ref i1) (.ref i2)/\(∃ u v,aX h TO u v)/\IterAt t1 h i1 a i/\IterAt t2 h i2 b i
theorem Qa3 {a b:aB}:∀ v,({ cls:=.type "tuple",data:=.seq #[a,b] }:Obj).data≠.cell v:=fun v z=>by cases z
theorem Qig {P:aN} {w:aL} {K:bP} {elts:List aD} {k:Nat} {pos:Pos} {t1 t2:Bool} {z TI TO i1 i2 a b:aA} (D:ZipApart z TI TO i1 i2 a b) :
  Turn P w K (.Tuple elts k pos) (Itz K t1 t2 a b) [z,TI,TO,i1,i2] z (Qtu t1 t2 z TI TO i1 i2 a b) where
 mem:=by simp
 obj:=fun i h st c j=>by
  obtain ⟨hz,B,⟨u,v,G⟩,h1,h2⟩:=st;simp at j;rcases j with rfl | rfl | rfl | rfl | rfl
  ·exact ⟨_,hz,fun v q=>by cases q⟩
  ·exact ⟨_,B,Qa3⟩
  ·exact ⟨_,G,Qa3⟩
  ·exact h1.there
  ·exact h2.there
 keep:=fun i h h' st Z=>by
  obtain ⟨hz,B,⟨u,v,G⟩,h1,h2⟩:=st;exact ⟨Z z (by simp) _ hz,Z TI (by simp) _ B,⟨u,v,Z TO (by simp) _ G⟩,h1.at fun o e=>Z i1 (by simp) o e,h2.at fun o e=>Z i2 (by simp) o e⟩
 item:=by
  intro X hP hw hK j i pins s σ H E I hf st hg;subst hP hw hK;obtain ⟨xs,ys,x,y,O,Y,hx,hy⟩:=hg;obtain ⟨hz,B,⟨u,v,G⟩,h1,h2⟩:=st;obtain ⟨its,rv,p,_⟩:=I.seqK O;obtain ⟨b3,a9,p2,_⟩:=I.seqK Y;obtain ⟨ux,c0,b9⟩:=rv.get hx;obtain ⟨uy,c1,c2⟩:=a9.get hy;refine Q7j D hz B G h1 h2 p p2 (x:=ux) (y:=uy) (by simpa using c0) (by simpa using c1) fun h' a1 a2 a3 a4 a5 a6 a7=>⟨_,rfl,?_⟩
  refine wpAny_letOwnedTupleGo_zip (s:={ s with heap:=h' }) a1 fun a8 b1 b2=>?_
  have b8:H s.heap.objs.size=none:=I.fresh;have b7:z < s.heap.objs.size:=O9 hz;have c6:TI < s.heap.objs.size:=O9 B;have c7:TO < s.heap.objs.size:=O9 G;have c4:i1 < s.heap.objs.size:=by obtain ⟨o,e,_⟩:=h1.there; exact O9 e
  have c5:i2 < s.heap.objs.size:=by obtain ⟨o,e,_⟩:=h2.there; exact O9 e
  have U:Inv X pins σ H { s with heap:=a8 }:=I.turnedL (t':=s.toks) (its:=[z,TO,i1,i2]) (fun c o j e=>(b2.2 c (fun q=>j (by simp [q]))).trans (a7 c o (fun q=>j (by simp [q])) (fun q=>j (by simp [q])) (fun q=>j (by simp [q])) (fun q=>j (by simp [q])) e))
   fun c j=>hf c (by simp at j ⊢; rcases j with rfl | rfl | rfl | rfl <;> simp)
  have b0:aX a8 s.heap.objs.size ux uy:=(b2.2 _ (cE b7)).trans a5;have J:H s.heap.objs.size=none:=b8;have I2:Inv X pins σ (upd H s.heap.objs.size (.tup [x,y])) { s with heap:=a8 }:=by
   refine ⟨U.ok,U.os,U.bare,?_,U.loc,U.cell,?_,?_,?_,?_,U.len⟩
   ·have u0:=U.base;have old:∀ c o,X.s₀.heap.get? c=some o->c≠s.heap.objs.size:=fun c o e=>F0 (D3 (O9 e) I.sz)
    exact ⟨u0.keep,u0.slot,fun c o e n hx=>by rw [Qh (old c o e)]; exact u0.free c o e n hx,u0.there,
     fun c ts e=>by have:=u0.tups c ts e; rw [Qh (Qk this J)]; exact this,
     fun c o ts e=>by have:=u0.frzs c o ts e; rw [Qh (Qk this J)]; exact this,
     fun c ps e=>by obtain ⟨more,q⟩:=u0.tbls c ps e; exact ⟨more,by rw [Qh (Qk q J)]; exact q⟩⟩
   ·rw [Qh (F0 I.lt)]; exact I.free
   ·intro x' c e;obtain ⟨v',q⟩:=I.cell x' c e;rw [Qh (F0 q.lt)]; exact I.freeC x' c e
   ·intro p' b5;obtain ⟨e,n,ne,nf,d⟩:=U.pin p' b5;have e0:=(I.pin p' b5).1;exact ⟨e,by rw [Qh (F0 (O9 e0))]; exact n,ne,nf,d⟩
   ·intro c o q
    by_cases b6:c=s.heap.objs.size
    ·subst b6;rw [Jb] at q; cases q;exact ⟨by simp only [D8,cQ]; rw [sizeLine_eq]; decide,[ux,uy],.cons b9 (.cons c2 .nil),⟨_,b0,rfl,0,rfl⟩⟩
    ·rw [Qh b6] at q;exact (U.hok c o q).stay (fun _ _ _ r=>r) (fun c' r=>by rw [Qh (Qk r J)]; exact r) fun c' ts r=>by rw [Qh (Qk r J)]; exact r
  refine ⟨.ref s.heap.objs.size,_,I2,rfl,⟨s.heap.objs.size,x,y,J,rfl,rfl,fun c9 c8 q1 q2=>?_⟩,?_,fun c j=>?_⟩
  ·rw [I.seqK_inj q1 O,I.seqK_inj q2 Y]; exact ⟨hx,hy⟩
  ·exact ⟨b1,b2.extBut _ _ D.TIz (a7 _ _ D.TIz D.TITO D.TIi1 D.TIi2 B),⟨_,_,b2.extBut _ _ D.TOz a2⟩,a3.at fun o e=>b2.extBut _ _ D.i1z e,a4.at fun o e=>b2.extBut _ _ D.i2z e⟩
  ·have:=(hf c j).1;have c3:c < s.heap.objs.size:=by simp at j; rcases j with rfl | rfl | rfl | rfl | rfl <;> assumption
   rw [Qh (F0 c3)]; exact this
 done:=by
  intro X hP hw hK j i pins s σ H E I hf st hg;subst hP hw hK;obtain ⟨xs,ys,O,Y,b4⟩:=hg;obtain ⟨hz,B,⟨u,v,G⟩,h1,h2⟩:=st;obtain ⟨its,rv,p,_⟩:=I.seqK O;obtain ⟨b3,a9,p2,_⟩:=I.seqK Y;have l1:=rv.length;have l2:=a9.length;refine Q9m (I.ok.hd j) D hz B G h1 h2 p p2 (b4.elim (fun h=>.inl (by simp; omega)) fun h=>.inr (by simp; omega)) fun h' Z=>⟨rfl,?_⟩
  exact I.turnedL (t':=s.toks) (its:=[z,TO,i1,i2]) (fun c o j e=>Z c o (fun q=>j (by simp [q])) (fun q=>j (by simp [q])) (fun q=>j (by simp [q])) (fun q=>j (by simp [q])) e)
   fun c j=>hf c (by simp at j ⊢; rcases j with rfl | rfl | rfl | rfl <;> simp)
 self:=fun _ _ _ _ _ st h=>wpAny_pyIter_zip st.1 h
section
variable {X:Cx}
def Qy0 (K:bP) (t1 t2:Bool) (ta:TA):TI:=fun σ H R=>ta σ H fun vs H1=>∃ a b xs ys,vs=[.ref a,.ref b]/\SqK K t1 H1 a xs/\SqK K t2 H1 b ys/\R (Itz K t1 t2 a b) H1
theorem Qm0:aZ "zip" = some (.type "zip"):=by decide +kernel
theorem Qrq (t1 t2:Bool) {a b:aD} {ta:TA} {p pos:Pos} {elts:List aD} {k:Nat} {tp:Pos} (hg:Gl X "zip") (hm:X.mg "zip" = none) (ha:PA X [a,b] ta) (hs:aO [a,b] X.env=[(false,aK a X.env),(false,aK b X.env)]:=by rfl) (j:aO [b] X.env=[(false,aK b X.env)]:=by rfl) :
  PI X (.Tuple elts k tp) (.Call (.Name "zip" p) [a,b] [] pos) (Qy0 X.K t1 t2 ta):=by
 intro pins s σ H R I h;refine Call_ (Q53 I hg hm Qm0 (dI (thn (ha pos pins s σ H _ I h) fun us s1 ⟨vs,H1,B,r1,q1⟩=>?_) (by rw [hs,j]) (by rw [j]; rfl)))
 obtain ⟨Y,b',xs,ys,e,q1,q2,q⟩:=q1;subst e;cases r1 with
 | cons r J=>
  cases J with
  | cons r' J=>
   cases J;cases r;cases r';obtain ⟨its,rv,Z,_⟩:=B.seqK q1;obtain ⟨O,a4,p2,_⟩:=B.seqK q2;refine Qhn Z p2 fun h' U z2 z3 z4 z5 z6 z7=>?_
   refine wpAny_pyIter_zip (s:={ s1 with heap:=h' }) U ?_;have a2:Y < s1.heap.objs.size:=by obtain ⟨o,e⟩:=Z.there; exact O9 e
   have a3:b' < s1.heap.objs.size:=by obtain ⟨o,e⟩:=p2.there; exact O9 e
   have D:ZipApart (s1.heap.objs.size + 4) (s1.heap.objs.size + 2) (s1.heap.objs.size + 3) s1.heap.objs.size (s1.heap.objs.size + 1) Y b':=by
    constructor <;> (intro z; unfold aA at *; omega)
   refine ⟨_,[s1.heap.objs.size + 4,s1.heap.objs.size + 2,s1.heap.objs.size + 3,s1.heap.objs.size,s1.heap.objs.size + 1],_,_,H1,rfl,B.kept (t':=s1.toks) z7,Qig (t1:=t1) (t2:=t2) D,⟨U,z2,⟨_,_,z3⟩,z4,z5⟩,fun c hc=>?_,q⟩
   have G:s1.heap.objs.size<=c:=by simp at hc; unfold aA at *; omega
   exact B.fpOk G (B.hok.fresh G)
end
theorem Q6m {prog:aN} {w:aL} {A:aR} (B:A.handled=none) (t:Bool) (I q:aA) (z:q≠I) (j:Array aB) :
  Walks prog w A I [I,q] [I] j.size (fun i v=>j[i]?=some v) (fun i h=>IterAt t h I q i/\HasItems t h q j):=by
 cases t
 ·exact Walks.list B I q z j
 ·exact Walks.tuple B I q z j
theorem Q40 {α:Type} (l:List α) (d:α) {n:Nat} (h:n < l.length):l.getD n d=l[n]:=by simp [bZ,h]
theorem Qch (ns:List Int):preSum (fun j=>ns.getD j 0) ns.length=ns.sum:=by
 have z:∀ (k:Nat),k<=ns.length->preSum (fun j=>ns.getD j 0) k=(ns.take k).sum:=by
  intro k
  induction k with
  | zero=>intro _; rfl
  | succ k B=>
   intro G;show preSum _ k + ns.getD k 0=_;have q:k < ns.length:=by omega
   rw [B (by omega),List.take_succ,fu,Q40 _ _ q,O4 q];simp
 rw [z ns.length (O7 _),eX]
section
variable {X:Cx} {pins:List (aA × Obj)} {σ:St} {H:Hp} {s:aC}
theorem Inv.movedNew {s':aC} (I:Inv X pins σ H s) {o:Obj} (m:Moved [s.heap.objs.size] (fun a b=>b=a) { s with heap:=s.heap.push o } s'):Inv X pins σ H s':=by
 obtain ⟨m1,m2,m3,j,q⟩:=m;obtain ⟨h',g',d',t',o'⟩:=s';have e1:g'=s.gens:=m2;have e2:d'=s.drawn:=m3;have e3:o'=s.os:=j;subst e1 e2 e3;refine I.kept (t':=t') fun b u e=>m1 b u (fun z=>?_) (O0 _ e)
 have:b=s.heap.objs.size:=by simpa using z
 exact absurd (O9 e) (by rw [this]; exact bo _)
theorem Q1k {ns:List Int} {its:List aB} (r:Vals (ns.map V.int) its):∀ (i:Nat) (v:aB),its.toArray[i]?=some v->∃ t,v=cX (ns.getD i 0) t:=fun i v e=>by
 have j:its[i]?=some v:=by simpa using e
 have hi:i < its.length:=(O1.mp j).1;have z:=r.length;rw [O2] at z;have B:(ns.map V.int)[i]?=some (V.int (ns.getD i 0)):=by
  have:i < ns.length:=by omega
  simp [bZ,this]
 obtain ⟨u,q,t,G⟩:=r.get B;rw [j] at q;cases q;exact ⟨t,G⟩
theorem Qaj {bs:List Bool} {its:List aB} (r:Vals (bs.map V.bl) its):∀ (i:Nat) (v:aB),its.toArray[i]?=some v->v=cB (bs.getD i false):=fun i v e=>by
 have j:its[i]?=some v:=by simpa using e
 have hi:i < its.length:=(O1.mp j).1;have z:=r.length;rw [O2] at z;have B:(bs.map V.bl)[i]?=some (V.bl (bs.getD i false)):=by
  have:i < bs.length:=by omega
  simp [bZ,this]
 obtain ⟨u,q,G⟩:=r.get B;rw [j] at q;cases q;exact G
theorem K7 {t:Bool} {l:aA} {j:Array aB} (z:HasItems t s.heap l j):l≠s.heap.objs.size /\
  (IterAt t (s.heap.push (K8 t l)) s.heap.objs.size l 0/\HasItems t (s.heap.push (K8 t l)) l j)/\∀ b∈[s.heap.objs.size,l],b < (s.heap.push (K8 t l)).objs.size:=by
 obtain ⟨o,e⟩:=z.there;have q:=O9 e;refine ⟨F0 q,⟨Q33 (D6 _ (Q0i _ _)),z.at fun o e=>O0 _ e⟩,fun b B=>?_⟩
 rw [F4];simp at B;rcases B with rfl | rfl
 ·exact cY _
 ·exact ce q
end
section
variable {X:Cx}
theorem Qku (t:Bool) (O:X.calm=true):j6 X (.builtin "sum") (fun xs H Q=>∃ (a:aA) (ns:List Int),xs=[.ref a]/\SqK X.K t H a (ns.map V.int)/\Q (.int ns.sum) H):=by
 intro pins s σ H xs us Q I r h;obtain ⟨a,ns,rfl,Y,q⟩:=h;obtain ⟨u,rfl,G⟩:=Q2k r;cases G;obtain ⟨its,B,p,_⟩:=I.seqK Y;obtain ⟨Z,U,J⟩:=K7 p;have z:=B.length;rw [O2] at z;refine call_sum_walkAnyS (Xj p ⟨_,_,_,_,_,_,_,fun j=>ns.getD j 0,rfl,(Q6m (A:=X.A.in1) (I.ok.hd O) t _ a Z its.toArray).toS,U,J,Q1k B,fun s' t' m=>?_⟩);refine ⟨.int ns.sum,H,I.movedNew m,⟨t',?_⟩,q⟩;rw [O3,<- z,Qch]
theorem Qgg (bs:List Bool):(bV bs.length).all (fun i=>bs.getD i false)=bs.all id:=by
 induction bs with
 | nil=>rfl
 | cons b r j=>
  rw [D8,eY,cT,eZ,cT,<- j];rfl
theorem Qgf (bs:List Bool):(bV bs.length).any (fun i=>bs.getD i false)=bs.any id:=by
 induction bs with
 | nil=>rfl
 | cons b r j=>
  rw [D8,eY,dR,dS,dR,<- j];rfl
theorem Qkw (t:Bool) (J:X.calm=true):j6 X (.builtin "all") (fun xs H Q=>∃ (a:aA) (bs:List Bool),xs=[.ref a]/\SqK X.K t H a (bs.map V.bl)/\Q (.bl (bs.all id)) H):=by
 intro pins s σ H xs us Q I r h;obtain ⟨a,bs,rfl,Y,q⟩:=h;obtain ⟨u,rfl,G⟩:=Q2k r;cases G;obtain ⟨its,B,p,_⟩:=I.seqK Y;obtain ⟨Z,O,w3⟩:=K7 p;have z:=B.length;rw [O2] at z;refine call_all_walkS (Xj p ⟨_,_,_,_,_,_,_,fun j=>bs.getD j false,rfl,(Q6m (A:=X.A.in1) (I.ok.hd J) t _ a Z its.toArray).toS,O,fun i v s' Q' E' U hQ=>?_,fun s' m=>?_⟩)
 ·rw [Qaj B i v U];exact am hQ
 ·refine ⟨.bl (bs.all id),H,I.movedNew m,?_,q⟩;show cB _=_;rw [O3,<- z,Qgg]
theorem Qkv (t:Bool) (J:X.calm=true):j6 X (.builtin "any") (fun xs H Q=>∃ (a:aA) (bs:List Bool),xs=[.ref a]/\SqK X.K t H a (bs.map V.bl)/\Q (.bl (bs.any id)) H):=by
 intro pins s σ H xs us Q I r h;obtain ⟨a,bs,rfl,Y,q⟩:=h;obtain ⟨u,rfl,G⟩:=Q2k r;cases G;obtain ⟨its,B,p,_⟩:=I.seqK Y;obtain ⟨Z,O,w3⟩:=K7 p;have z:=B.length;rw [O2] at z;refine call_any_walkS (Xj p ⟨_,_,_,_,_,_,_,fun j=>bs.getD j false,rfl,(Q6m (A:=X.A.in1) (I.ok.hd J) t _ a Z its.toArray).toS,O,fun i v s' Q' E' U hQ=>?_,fun s' m=>?_⟩)
 ·rw [Qaj B i v U];exact am hQ
 ·refine ⟨.bl (bs.any id),H,I.movedNew m,?_,q⟩;show cB _=_;rw [O3,<- z,Qgf]
theorem Qhr (t:Bool) (U:X.calm=true):j6 X (.builtin "max") (fun xs H Q=>∃ (a:aA) (ns:List Int),xs=[.ref a]/\SqK X.K t H a (ns.map V.int)/\ns≠[]/\∀ m,m∈ns->(∀ k,k∈ns->k<=m)->Q (.int m) H):=by
 intro pins s σ H xs us Q I r h;obtain ⟨a,ns,rfl,hq,B,q⟩:=h;obtain ⟨u,rfl,r1⟩:=Q2k r;cases r1;obtain ⟨its,G,p,_⟩:=I.seqK hq;obtain ⟨w1,w2,w3⟩:=K7 p;have hl:=G.length;rw [O2] at hl;have J:0 < ns.length:=cy.mpr B;refine call_max_walkS (Xj p ⟨_,_,_,_,_,_,_,_,rfl,(Q6m (A:=X.A.in1) (I.ok.hd U) t _ a w1 its.toArray).toS,w2,w3,by rw [O3]; omega,CmpOf.ints_gt (fun j=>ns.getD j 0) (fun i v z=>Q1k G i v z),fun v s' z m=>?_⟩);obtain ⟨t',rfl⟩:=Q1k G _ _ z;obtain ⟨h1,h2⟩:=argBest_gt (fun j=>ns.getD j 0) (its.toArray.size - 1);have O:argBest (fun i j=>decide (ns.getD i 0 > ns.getD j 0)) (its.toArray.size - 1) < ns.length:=by
  have e':its.toArray.size=ns.length:=by rw [O3]; omega
  rw [e'] at h1 ⊢;exact fw h1 (by omega)
 refine ⟨.int (ns.getD (argBest (fun i j=>decide (ns.getD i 0 > ns.getD j 0)) (its.toArray.size - 1)) 0),H,I.movedNew m,⟨t',rfl⟩,q _ ?_ fun k Z=>?_⟩
 ·rw [Q40 _ _ O];exact dU O
 ·obtain ⟨j,Y,rfl⟩:=dW.mp Z;have:=h2 j (by rw [O3]; omega);rw [Q40 _ _ Y] at this;exact this
theorem Qhp (t:Bool) (U:X.calm=true):j6 X (.builtin "min") (fun xs H Q=>∃ (a:aA) (ns:List Int),xs=[.ref a]/\SqK X.K t H a (ns.map V.int)/\ns≠[]/\∀ m,m∈ns->(∀ k,k∈ns->m<=k)->Q (.int m) H):=by
 intro pins s σ H xs us Q I r h;obtain ⟨a,ns,rfl,hq,B,q⟩:=h;obtain ⟨u,rfl,r1⟩:=Q2k r;cases r1;obtain ⟨its,G,p,_⟩:=I.seqK hq;obtain ⟨w1,w2,w3⟩:=K7 p;have hl:=G.length;rw [O2] at hl;have J:0 < ns.length:=cy.mpr B;refine call_min_walkS (Xj p ⟨_,_,_,_,_,_,_,_,rfl,(Q6m (A:=X.A.in1) (I.ok.hd U) t _ a w1 its.toArray).toS,w2,w3,by rw [O3]; omega,CmpOf.ints_lt (fun j=>ns.getD j 0) (fun i v z=>Q1k G i v z),fun v s' z m=>?_⟩);obtain ⟨t',rfl⟩:=Q1k G _ _ z;obtain ⟨h1,h2⟩:=argBest_lt (fun j=>ns.getD j 0) (its.toArray.size - 1);have O:argBest (fun i j=>decide (ns.getD i 0 < ns.getD j 0)) (its.toArray.size - 1) < ns.length:=by
  have e':its.toArray.size=ns.length:=by rw [O3]; omega
  rw [e'] at h1 ⊢;exact fw h1 (by omega)
 refine ⟨.int (ns.getD (argBest (fun i j=>decide (ns.getD i 0 < ns.getD j 0)) (its.toArray.size - 1)) 0),H,I.movedNew m,⟨t',rfl⟩,q _ ?_ fun k Z=>?_⟩
 ·rw [Q40 _ _ O];exact dU O
 ·obtain ⟨j,Y,rfl⟩:=dW.mp Z;have:=h2 j (by rw [O3]; omega);rw [Q40 _ _ Y] at this;exact this
end
section
variable {prog:aN} {w:aL} {A:aR} {E:aB->aC->Prop} {s:aC}
end
section
variable {X:Cx}
end
theorem Qis {H:Hp} {a:aA} {o:HO} (h:H a=none):Same H (upd H a o):=fun b u e=>by rw [Qh (Qk e h)]; exact e
section
variable {K:bP} {cap:List (Option Nat)} {te:TE} {σ:St} {H1:Hp} {Q:VK}
abbrev g2 (K:bP):TG:=Qvr K 2 (Qk8 (Qdb 0) (Qk8 (Qdb 1) Qvs))
end
def Qw2:V->Option aB
 | .ty n=>some (.type n)
 | .ref a=>some (.ref a)
 | _=>none
theorem Qkq {c:V} {j u:aB} (e:Qw2 c=some j) (r:RelV c u):u=j:=by
 cases c with
 | ty n=>cases e; exact r
 | ref a=>cases e; exact r
 | _=>cases e
section
variable {X:Cx}
theorem Qdh:j6 X (.builtin "isinstance") (fun xs H Q=>∃ x c j t b,xs=[x,c]/\Qw2 c=some j/\TyOf X.K H x t/\eI X.K t j=some b/\Q (.bl b) H):=by
 intro pins s σ H xs us Q I r h;obtain ⟨x,c,j,t,b,rfl,B,ty,e,q⟩:=h;obtain ⟨u,J,rfl,z,G⟩:=Qib r;rw [Qkq B G];exact Qhc I z ty e fun tk=>⟨.bl b,H,I.tok tk,rfl,q⟩
theorem Q65:aZ "isinstance" = some (.builtin "isinstance"):=by decide +kernel
theorem Q1t:aZ "sum" = some (.builtin "sum"):=by decide +kernel
theorem Q1u:aZ "all" = some (.builtin "all"):=by decide +kernel
theorem Qdk:aZ "any" = some (.builtin "any"):=by decide +kernel
theorem Q47:aZ "max" = some (.builtin "max"):=by decide +kernel
theorem Qm1:aZ "min" = some (.builtin "min"):=by decide +kernel
theorem Wy:aZ "tuple" = some (.type "tuple"):=by decide +kernel
theorem Q5c:aZ "list" = some (.type "list"):=by decide +kernel
theorem Qdj:aZ "int" = some (.type "int"):=by decide +kernel
theorem Qai:aZ "bool" = some (.type "bool"):=by decide +kernel
theorem Q8n:aZ "str" = some (.type "str"):=by decide +kernel
end
section
variable {X:Cx} (K:bP)
end
def Tab (H:Hp) (a:aA) (tb:List (List Int)):Prop:=∃ rs:List aA,H a=some (.tup (rs.map V.ref))/\ar (fun r row=>H r=some (.tup (List.map V.int row))) rs tb
def Sz (n:Nat) (tb:List (List Int)):Prop:=tb.length=n/\∀ row∈tb,row.length=n + 1
end L2
namespace L2
open PySem PySem.Spec PyProof.Rows PySem.W PySem.Builtin.Getset_descriptor
structure XCls (K:Frag) (C:aA):Prop where
 cls:(clsIn K C).isSome=true
 ga:findIn K (.ref C) "__getattribute__" = some (some (.builtin "BaseException.__getattribute__"))
 gt:findIn K (.ref C) "__getattr__" = some none
 cl:findIn K (.ref C) "__class__" = some (some (.builtin "object.__class__"))
 gs:specialIn K (.builtin "object.__class__") "__get__" = some (some (.builtin "getset_descriptor.__get__"))
 tk:takesIn K (.builtin "object.__class__")=some true
 ob:mroIn K C (.type "object")=some true
 be:mroIn K C (.type "BaseException")=some true
def IsX (x C:aA) (h:Heap):Prop:=∃ ox,h.get? x=some ox/\ox.cls=.ref C
theorem IsX.type {M:Model} {h:Heap} {x C:aA} (I:IsX x C h):Looks M h (typeOf (.ref x)) (.ref C):=by
 obtain ⟨j,h1,h2⟩:=I;exact h2 ▸ (Looks.ld h1).andThen .now
section
variable {prog:aN} {w:aL} {A:aR} {E:aB->aC->Prop} {h:Heap} {g:Array GenState} {d:Drawn} {t:Nat} {os:OsState} {K:Frag} {x C:aA}
theorem Qia {M:Model} {j:aB} {Q:Unit->aC->Prop} (X:K.In h) (F:XCls K C) (I:IsX x C h) (J:Q () ⟨h,g,d,t,os⟩):aI M A (checkBuiltinCall "BaseException.__getattribute__" ⟨[.ref x,j],[]⟩) Q E ⟨h,g,d,t,os⟩:=by
 have G:builtinKind "BaseException.__getattribute__" = some .slot:=by decide +kernel
 have q:splitId "BaseException.__getattribute__" = some ("BaseException", "__getattribute__"):=by decide +kernel
 have z:Looks M h (isInstance (.ref x) (.type "BaseException")) true:=(I.type).andThen (looks_mroIn X F.be);have B:=PySem.F.args_bexc_ga (.ref x) j;simp only [checkBuiltinCall,G,q];refine aF (z.at ?_);simp only [fx,fm,if_false];exact wpAny_of_eq B J
end
end L2
namespace L2
open PySem PySem.Spec PyProof.Rows
theorem ObjOk.there {P:aN} {w:aL} {H:Hp} {h:Heap} {a:aA} {o:HO} (x:ObjOk P w H h a o):∃ u,h.get? a=some u:=by
 cases o with
 | lst xs=>obtain ⟨_,_,_,_,e⟩:=x; exact ⟨_,e⟩
 | tup xs=>obtain ⟨_,_,_,o,e,_⟩:=x; exact ⟨o,e⟩
 | dK kvs=>obtain ⟨_,_,_,_,o,_,_,e,_⟩:=x; exact ⟨o,e⟩
 | dT kvs=>obtain ⟨_,_,_,_,o,_,_,e,_⟩:=x; exact ⟨o,e⟩
 | set S n=>obtain ⟨o,_,_,_,e,_⟩:=x; exact ⟨o,e⟩
 | ins C dx fs=>obtain ⟨_,_,_,e,_⟩:=x; exact ⟨_,e⟩
 | own y=>exact x
 | xd fs=>obtain ⟨_,⟨o,_,_,e,_⟩,_⟩:=x; exact ⟨o,e⟩
 | rng lo hi=>obtain ⟨_,_,_,e⟩:=x; exact ⟨_,e⟩
 | frz ob u=>obtain ⟨e,_⟩:=x; exact ⟨_,e⟩
 | tbl ps=>exact ⟨_,x⟩
 | met f y=>exact ⟨_,x⟩
 | ext j=>exact x.2.1
theorem HOk.none_of {P:aN} {w:aL} {H:Hp} {h:Heap} {a:aA} (x:HOk P w H h) (e:h.get? a=none):H a=none:=by
 cases q:H a with
 | none=>rfl
 | some o=>
  obtain ⟨u,z⟩:=(x a o q).there;rw [e] at z;cases z
structure Fly (P:aN) (w:aL) (outer:List Env) (H H':Hp) (s s':aC) (a:aA) (cls a0:aB) (B:Heap):Prop where
 os:s'.os=s.os
 bare:AllBare s'.gens
 fl:Heap.FlyingW B outer a cls a0 s'.heap
 hokB:HOk P w H' B
 keep:∀ b o,s.heap.get? b=some o->H b=none->b∉frs outer->B.get? b=some o
 there:∀ b o,s.heap.get? b=some o->b∉frs outer->∃ o',B.get? b=some o'
 slot:∀ b o,s.heap.get? b=some o->b∈frs outer->∃ sl,s'.heap.get? b=some { o with slots:=sl }
 free:∀ b o,s.heap.get? b=some o->H b=none->H' b=none
 tups:∀ b xs,H b=some (.tup xs)->H' b=some (.tup xs)
 frzs:∀ b o u,H b=some (.frz o u)->H' b=some (.frz o u)
 tbls:∀ b ps,H b=some (.tbl ps)->∃ more,H' b=some (.tbl (ps ++ more))
section
variable {P:aN} {w:aL} {K:bP} {mg:Str->Option aB} {base:Heap} {N:List Str} {qual:Str} {scope:Scope} {f:aA} {cd:aB} {A:aR} {outer:List Env} {s:aC} {H:Hp} {E:XK}
end
abbrev Xn:List aB:=[.type "ValueError",.type "Exception",.type "BaseException",.type "object"]
theorem Qfd {K:bP} {h:Heap} {C:aA} {z:List aB} {j:String} {x:Str} {mg:Str->Option aB} (X:K.In h) (m:mg x=some (.ref C)) (q:ba K C z j=true):OwnCls x C z j mg h:=by
 refine ⟨m,?_⟩;unfold ba at q
 split at q
 ·rename_i dd cd I U
  split at q
  ·rename_i Z bm k0 k1 k2 k3 n k5 G hs;simp only [F6,beq_iff_eq,Bool.not_eq_true'] at q;obtain ⟨⟨⟨⟨⟨rfl,rfl⟩,hdel⟩,ht⟩,hok⟩,hni⟩:=q;obtain ⟨nm,bs,O,ns,Y,hd,sn,sub,ab,col,J⟩:=cd;dsimp only at G hdel hok hni;subst G hdel;have B:I=#[k0,k1,k2,k3,some (.builtin n),k5]:=by
    obtain ⟨l⟩:=I;simp only at hs;rw [hs]
   subst B;exact ⟨bm,ns,nm,Y,bs,hd,sn,sub,ab,col,dd,k0,k1,k2,k3,k5,_,X _ _ U,.of_isNs (PySem.W.isNs_of_in X hok),PySem.W.nsMap_none_of_in X hok hni,PySem.W.tail_of_in X ht⟩
  ·cases q
 ·cases q
section
variable {X:Cx}
def Qr6 (C:aA) (E:XK) (t:TA):TS:=fun _ σ H=>t σ H fun vs H1=>vs.length<=sizeLine/\E (.ref C) none H1
end
def xy (X:Cx) (a:aA):Cx:={ X with A:=X.A.mark (some (.ref a)),calm:=false,xe:=fun _ _=>False }
section
variable {X:Cx} {pins:List (aA × Obj)} {σ:St} {H H':Hp} {s s':aC} {a C:aA}
theorem Inv.suite (I:Inv X pins σ H s) (a:aA):Inv (xy X a) pins σ H s:=
 ⟨⟨I.ok.mod,I.ok.kind,I.ok.glob,I.ok.blt,I.ok.above,I.ok.inj,I.ok.has,I.ok.cab,fun h=>(by cases h),I.ok.frames,I.ok.stk,I.ok.exf,I.ok.bs,I.ok.bsz,I.ok.noex,I.ok.exfs,I.ok.funs,I.ok.frf⟩,I.os,I.bare,I.base,I.loc,I.cell,I.free,I.freeC,I.pin,I.hok,I.len⟩
theorem Inv.unsuite (ok:X.Ok) (I:Inv (xy X a) pins σ H s):Inv X pins σ H s:=⟨ok,I.os,I.bare,I.base,I.loc,I.cell,I.free,I.freeC,I.pin,I.hok,I.len⟩
theorem Fly.inv {cls a0:aB} {B J:Heap} (I:Inv X pins σ H s) (F:Fly X.prog X.w X.stack H H' s s' a cls a0 B) (Y:B.StaysIn J) (sm:s'.heap.UpToSlots J):Inv X pins σ H' { s' with heap:=J }:=by
 have G:∀ b o,s.heap.get? b=some o->b∈frs X.stack->∃ G,J.get? b=some { o with slots:=G }:=fun b o q j=>by
  obtain ⟨G,z⟩:=F.slot b o q j;obtain ⟨_,o',O,U⟩:=I.stack.mem j;rw [q] at O;cases O;obtain ⟨Z,z'⟩:=sm b _ z U;exact ⟨Z,z'⟩
 refine I.call' (s':={ s' with heap:=J }) (ch:=[]) F.os ⟨fun b o q n j _=>Y _ _ (F.keep b o q n j),fun b o q n j _=>G b o q j,fun b o q n _=>F.free b o q n,fun b o q _=>?_,F.tups,F.frzs,F.tbls⟩ (F.hokB.kept Y) F.bare fun b z=>absurd z (by simp)
 by_cases j:b∈frs X.stack
 ·obtain ⟨G,z⟩:=G b o q j;exact ⟨_,z⟩
 ·obtain ⟨o',z⟩:=F.there b o q j;exact ⟨o',Y _ _ z⟩
theorem Fly.new {cls a0:aB} {B:Heap} (F:Fly X.prog X.w X.stack H H' s s' a cls a0 B):s.heap.get? a=none/\H' a=none:=by
 have O:B.get? a=none:=F.fl.2.1;refine ⟨?_,F.hokB.none_of O⟩;cases q:s.heap.get? a with
 | none=>rfl
 | some o=>
  by_cases I:a∈frs X.stack
  ·obtain ⟨_,o',G,j⟩:=F.fl.2.2.1.mem I;obtain ⟨U,vs,J,_,hd,_⟩:=F.fl.first;rw [G] at J;cases J;exact absurd hd (j vs)
  ·obtain ⟨o',z⟩:=F.there a o q I;rw [O] at z;cases z
theorem Inv.track {s1:aC} {Y:Heap->Prop} (O:Inv X pins σ H s) (U:∀ b,b∉X.ex) (h0:s.heap.get? a=none) (I:Inv X pins σ H' s1) (G:H' a=none) (o:ObjOk X.prog X.w (upd H' a (.ext Y)) s1.heap a (.ext Y)):Inv X pins σ (upd H' a (.ext Y)) s1:=by
 have j:∀ b u,s.heap.get? b=some u->b≠a:=fun b u e z=>by rw [z,h0] at e; cases e
 have Z:∀ b u,X.s₀.heap.get? b=some u->b≠a:=fun b u e=>by
  obtain ⟨u',e'⟩:=O.base.there b u e (U b);exact j b u' e'
 refine ⟨I.ok,I.os,I.bare,?_,I.loc,I.cell,?_,?_,?_,?_,I.len⟩
 ·have B:=I.base;exact ⟨B.keep,B.slot,fun c o e n hx=>by rw [Qh (Z c o e)]; exact B.free c o e n hx,B.there,
   fun c J e=>by have:=B.tups c J e; rw [Qh (Qk this G)]; exact this,
   fun c o J e=>by have:=B.frzs c o J e; rw [Qh (Qk this G)]; exact this,
   fun c ps e=>by obtain ⟨more,q⟩:=B.tbls c ps e; exact ⟨more,by rw [Qh (Qk q G)]; exact q⟩⟩
 ·obtain ⟨m,⟨o,_,_,e,_⟩,_⟩:=O.loc;rw [Qh (j _ _ e)]; exact I.free
 ·intro x c e;obtain ⟨v,o,z,_⟩:=O.cell x c e;rw [Qh (j _ _ z)]; exact I.freeC x c e
 ·intro p hp;obtain ⟨e,n,ne,nf,d⟩:=I.pin p hp;exact ⟨e,by rw [Qh (j _ _ (O.pin p hp).1)]; exact n,ne,nf,d⟩
 ·intro c u q
  by_cases hc:c=a
  ·subst hc;rw [Jb] at q; cases q;exact o
  ·rw [Qh hc] at q;exact (I.hok c u q).stay (fun _ _ _ r=>r) (fun c' r=>by rw [Qh (Qk r G)]; exact r) fun c' J r=>by rw [Qh (Qk r G)]; exact r
theorem Inv.forget {i:Nat} {n:Str} {m:Str->Option aB} {h':Heap} {v:Option aB} {tk:Nat} (I:Inv X pins σ H s) (hN:X.N.Nodup) (hi:X.N[i]?=some n) (hl:∀ (i:Nat) (x:Str) (v:V),X.N[i]?=some x->σ[i]?=some (some v)->Vis X.env.scope x->∃ u,RelV v u/\Qwb X.env s.heap m x u)
  (Y:h'.Ns X.env.locals (fun x=>if x=n then v else m x)) (hs:Heap.SameBut X.env.locals s.heap h'):Inv X pins (σ.set i none) H { s with heap:=h',toks:=tk }:=by
 have cne:=I.cne;have B:HOk X.prog X.w H h':=I.hok.same I.free hs;have G:∀ b o,X.s₀.heap.get? b=some o->b≠X.env.locals:=fun b o e=>F0 (D3 (O9 e) I.ok.above)
 refine ⟨I.ok,I.os,I.bare,⟨fun b o e n U J=>(hs.2 b (G b o e)).trans (I.base.keep b o e n U J),fun b o e n U J=>?_,I.base.free,fun b o e J=>?_,I.base.tups,I.base.frzs,I.base.tbls⟩,⟨_,Y,fun j y v' e1 e2 e3=>?_⟩,fun y c e=>?_,I.free,I.freeC,fun p hp=>?_,B,by simpa using I.len⟩
 ·obtain ⟨sl,z⟩:=I.base.slot b o e n U J;exact ⟨sl,(hs.2 b (G b o e)).trans z⟩
 ·obtain ⟨o',z⟩:=I.base.there b o e J;exact ⟨o',(hs.2 b (G b o e)).trans z⟩
 ·by_cases O:j=i
  ·subst O;rw [hi] at e1; cases e1;have:j < σ.length:=by have:=(O1.mp e2).1; simpa using this
   rw [E2 this] at e2;cases e2
  ·rw [O5 (Ne.symm O)] at e2;obtain ⟨u,r,q⟩:=hl j y v' e1 e2 e3;refine ⟨u,r,?_⟩;rcases q with ⟨k,e⟩ | ⟨k,c,e,z⟩
   ·refine .inl ⟨k,?_⟩;have:y≠n:=fun e=>O (Q7i hN e1 (e ▸ hi))
    simp [this,e]
   ·exact .inr ⟨k,c,e,z.sameBut hs (cne y c e)⟩
 ·obtain ⟨w',z⟩:=I.cell y c e;exact ⟨w',z.sameBut hs (cne y c e)⟩
 ·obtain ⟨e,n,ne,Z,d⟩:=I.pin p hp;exact ⟨(hs.2 p.1 ne).trans e,n,ne,Z,d⟩
end
section
variable {X:Cx}
end
section
variable {X:Cx}
end
theorem Q6q (l:aA) (j:Array aB) (n:Nat) (dd:Option aA) (z:Array (Option aB)) (t:Tok) :
  Meets (Builtin.«tuple.__mul__» ⟨[.ref l,.int 1 t],[]⟩) (fun _ R s=>s.heap.get? l=some { cls:=.type "tuple",dict:=dd,data:=.seq j n,slots:=z }/\R (.ok (.ret (.ref l))) s):=
 .of_wp fun prog w A R s h=>by
  obtain ⟨hp,g,d,tk,os⟩:=s; obtain ⟨q,h⟩:=h
  wp_walk using wpAny_loadPart' q
  exact ⟨_,rfl,h⟩
theorem Q6r (l:aA) (j:Array aB) (n:Nat) (dd:Option aA) (O:Array (Option aB)) (x:Int) (t:Tok) (h1:¬ (decide (x < -(2 ^ 63)) || decide (x>=2 ^ 63))=true) (h2:¬ (j.isEmpty || x == 1)=true) (U:¬ (decide (x<=0) || j.isEmpty)=true) (J:¬ (j.size:Int) * x > (2 ^ 63 - 1) / 8) (G:¬ Builtin.Tuple.tupleTooMany ((j.size:Int) * x)=true)
  (I:((bQ x.toNat j).foldl (fun B z=>B ++ z) #[]).size<=sizeLine) :
  Meets (Builtin.«tuple.__mul__» ⟨[.ref l,.int x t],[]⟩) (fun _ R s=>s.heap.get? l=some { cls:=.type "tuple",dict:=dd,data:=.seq j n,slots:=O } /\
   R (.ok (.ret (bW s.heap.objs.size))) { s with heap:=s.heap.push { cls:=dn "tuple",data:=Data.seq ((bQ x.toNat j).foldl (fun B z=>B ++ z) #[]) } }):=
 .of_wp fun prog w A R s h=>by
  obtain ⟨hp,g,d,tk,os⟩:=s; obtain ⟨q,h⟩:=h
  wp_walk using wpAny_loadPart' q
  refine wpAny_ite_false (bL h1) ?_
  wp_walk using wpAny_loadPart' q
  refine wpAny_ite_false (bL J) ?_
  wp_walk using wpAny_loadPart' q
  all_goals first | exact ⟨_,rfl,h⟩ | (refine wpAny_ite_false (bL G) ?_; wp_walk) | skip
  all_goals first | exact ⟨_,rfl,h⟩ | (refine wpAny_ite_false (bL (Nat.not_lt.mpr I)) ?_; wp_walk; exact ⟨_,rfl,h⟩)
theorem Q86 (a:Int) (t:Tok) (l:aA) (j:Array aB) (n:Nat) (dd:Option aA) (z:Array (Option aB)) :
  Meets (Builtin.«int.__rmul__» ⟨[.int a t,.ref l],[]⟩) (fun _ R s=>s.heap.get? l=some { cls:=.type "tuple",dict:=dd,data:=.seq j n,slots:=z }/\R (.ok (.ret fb)) s):=
 .of_wp fun prog w A R s h=>by obtain ⟨hp,g,d,tk,os⟩:=s; obtain ⟨q,h⟩:=h; wp_walk using wpAny_loadPart' q; exact ⟨_,rfl,h⟩
theorem Q4y:fillsNumberSlot (.type "tuple") "mul" = pure false:=
 PySem.fillsNumberSlot_seq (id := "tuple.__mul__") (r:=some (.builtin "tuple.__rmul__")) F.slot_tuple_mul.lookup (by decide +kernel) F.slot_tuple_rmul.lookup (by decide +kernel)
theorem Qb1:seqRepeat? (.type "tuple")=pure (some (.builtin "tuple.__mul__")):=by
 unfold seqRepeat?;rw [fy (T := "tuple") (name := "__mul__") (id := "tuple.__mul__") F.slot_tuple_mul.lookup (by decide +kernel),fy (T := "tuple") (name := "__rmul__") (id := "tuple.__rmul__") F.slot_tuple_rmul.lookup (by decide +kernel)];rfl
section
variable {X:Cx}
def Quf (K:bP):R2:=fun x y H Q=>∃ a k xs,x=.ref a/\y=.int k/\SqT K H a xs/\xs≠[]/\1<=k/\xs.length * k.toNat<=4096 /\
 (k=1->Q (.ref a) H)/\(k≠1->∀ p,H p=none->Q (.ref p) (upd H p (.tup (bQ k.toNat xs).flatten)))
theorem Qnu:OpR X (aW .Mult) (Quf X.K):=by
 intro pins s σ H x y v u Q I rx ry h;obtain ⟨a,k,xs,rfl,rfl,ha,O,hk,hz,q1,q2⟩:=h;cases rx;obtain ⟨t,rfl⟩:=ry;obtain ⟨its,r,p1,hs⟩:=I.tuple ha;obtain ⟨⟨cls,dd,data,Y⟩,ho,hc,n,hd⟩:=id p1;simp only at hc hd;subst hc hd;have J:its.length=xs.length:=r.length.symm;have j:0 < its.length:=by rw [J]; exact cy.mpr O
 have a2:k.toNat<=4096:=by
  have:1 * k.toNat<=xs.length * k.toNat:=Nat.mul_le_mul_right _ (by omega);omega
 refine wpAny_binaryOp_repeat_ref (T := "tuple") (U := "int") (by decide) ⟨_,ho,rfl⟩ (fun s'=>typeIs_int s' k t) Q4y F.fills_int_mul F.slot_int_rmul Qb1 F.slot_int_index.lookup
  (aq F.slot_int_rmul (typeIs_int s k t) F.entry_int_rmul (F.args_int_rmul_2 _ _) (Q86 k t a its.toArray n dd Y)
   ⟨ho,rfl,⟨_,ho,rfl⟩,?_⟩)
 by_cases h1:k=1
 ·subst h1;exact aq F.slot_tuple_mul ⟨_,ho,rfl⟩ F.entry_tuple_mul (F.args_tuple_mul_2 _ _) (Q6q a its.toArray n dd Y t) ⟨ho,⟨.ref a,H,I,rfl,q1 rfl⟩⟩
 ·have Z:dO (fun x1 x2=>x1 ++ x2) #[] (bQ k.toNat its.toArray)=(bQ k.toNat its).flatten.toArray:=by
   have:=Q59 its k.toNat [];rw [fj] at this;exact this
  have B:(its.toArray.size:Int) * k=((its.length * k.toNat:Nat):Int):=by
   rw [O3,Int.natCast_mul,Int.toNat_of_nonneg (by omega)]
  have G:(bQ k.toNat its).flatten.length<=4096:=by rw [Qbb,J,eQ]; exact hz
  have hb:its.length * k.toNat<=4096:=by rw [J]; exact hz
  refine aq F.slot_tuple_mul ⟨_,ho,rfl⟩ F.entry_tuple_mul (F.args_tuple_mul_2 _ _) (Q6r a its.toArray n dd Y k t ?_ ?_ ?_ ?_ ?_ ?_) ⟨ho,?_⟩
  ·rw [bL (by omega),bL (by omega)]; exact D7
  ·intro z;rcases gA.mp z with z | z
   ·rw [gB,gC] at z; rw [z] at j; simp at j
   ·exact h1 (eq_of_beq z)
  ·intro z;rcases gA.mp z with z | z
   ·have:=of_decide_eq_true z; omega
   ·rw [gB,gC] at z; rw [z] at j; simp at j
  ·rw [B]; omega
  ·rw [B];have:(4096:Int)<=sizeLine:=by decide
   show ¬ decide (((its.length * k.toNat:Nat):Int) > (sizeLine:Int))=true;rw [bL (by omega)]; exact D7
  ·rw [Z,O3]; exact F1 G (by decide)
  ·rw [Z];refine ⟨.ref s.heap.objs.size,_,I.laid (t':=s.toks) (o:=.tup (bQ k.toNat xs).flatten) (fun b ob q=>O0 _ q) (O7 _) ?_,rfl,q2 h1 _ (I.hok.fresh (O7 _))⟩;exact ⟨by rw [Qbb,eQ]; exact F1 hz (by decide),_,r.rep k.toNat,IsTup.new _ _⟩
end
section
variable {X:Cx} {pins:List (aA × Obj)} {s:aC} {σ:St} {H:Hp}
open PySem.SeqAt
end
section
variable {K:bP} {cap:List (Option Nat)} {te:TE} {σ:St} {H1:Hp} {Q:VK}
end
section
variable {X:Cx} {pos:Pos}
end
theorem Kf:∀ (names:List (Str × aj)) (h:Heap) (j:List (Str × aA)) (x:Str) (c:aA),(ae h.objs.size names j).lookup x=some c ->
  j.lookup x=some c\/((x,NameKind.cell)∈names/\h.objs.size<=c/\(pushCells h names).IsCell c none)
 | [],_,_,_,_,e=>.inl e
 | (name,kind) :: r,h,j,x,c,e=>by
  unfold ae at e;unfold pushCells
  by_cases I:(kind == NameKind.cell)=true
  ·rw [bJ I] at e ⊢;have J:kind=.cell:=by simpa using I
   have U:=Kf r (h.push { cls:=.type "cell",data:=.cell none }) ((name,h.objs.size) :: j) x c (by rw [F4]; exact e);rw [F4] at U;rcases U with z | ⟨G,O,B⟩
   ·rw [D9] at z;cases q:x == name with
    | true=>
     rw [q] at z; cases z;exact .inr ⟨by rw [beq_iff_eq.mp q,J]; exact D4,O7 _,⟨_,pushCells_keeps _ _ _ _ (D6 _ rfl),rfl⟩⟩
    | false=>rw [q] at z; exact .inl z
   ·exact .inr ⟨D0 _ G,by omega,B⟩
  ·rw [bK I] at e ⊢;rcases Kf r h j x c e with z | ⟨G,O,B⟩
   ·exact .inl z
   ·exact .inr ⟨D0 _ G,O,B⟩
theorem qq {x:Str}:∀ (names:List (Str × aj)) (n:Nat) (j:List (Str × aA)),(x,NameKind.cell)∉names->(ae n names j).lookup x=j.lookup x
 | [],_,_,_=>rfl
 | (name,kind) :: r,n,j,h=>by
  unfold ae;have B:(x,NameKind.cell)∉r:=fun z=>h (D0 _ z)
  by_cases q:(kind == NameKind.cell)=true
  ·rw [bJ q,qq r _ _ B,D9];cases G:x == name with
   | true=>exact absurd (by rw [beq_iff_eq.mp G,show kind=.cell by simpa using q]; exact D4) h
   | false=>rfl
  ·rw [bK q,qq r _ _ B]
theorem yj {x:Str} {c:aA}:∀ (names:List (Str × aj)) (n:Nat) (j:List (Str × aA)),(x,NameKind.cell)∈names->(ae n names j).lookup x=some c->n<=c
 | [],_,_,h,_=>by cases h
 | (name,kind) :: r,n,j,h,e=>by
  unfold ae at e
  by_cases z:(x,NameKind.cell)∈r
  ·by_cases B:(kind == NameKind.cell)=true
   ·rw [bJ B] at e;exact Nat.le_of_succ_le (yj r _ _ z e)
   ·rw [bK B] at e;exact yj r _ _ z e
  ·rcases E3.mp h with q | q
   ·cases q;rw [bJ (by decide),qq r _ _ z,D9] at e;simp at e;exact eE e
   ·exact absurd q z
theorem yk:∀ (names:List (Str × aj)) (n:Nat) (j:List (Str × aA)),(∀ x c,j.lookup x=some c->c < n)->(∀ x y c,j.lookup x=some c->j.lookup y=some c->x=y) ->
  ∀ x y c,(ae n names j).lookup x=some c->(ae n names j).lookup y=some c->x=y
 | [],_,_,_,h=>h
 | (name,kind) :: r,n,j,h1,h2=>by
  unfold ae
  by_cases G:(kind == NameKind.cell)=true
  ·rw [bJ G];refine yk r (n + 1) _ (fun x c e=>?_) (fun x y c e z=>?_)
   ·rw [D9] at e;cases B:x == name with
    | true=>rw [B] at e; cases e; exact cY _
    | false=>rw [B] at e; exact ce (h1 x c e)
   ·rw [D9] at e z;cases B:x == name with
    | true=>
     rw [B] at e; cases e;cases q:y == name with
     | true=>rw [beq_iff_eq.mp B,beq_iff_eq.mp q]
     | false=>rw [q] at z; exact absurd (h1 y _ z) (bo _)
    | false=>
     rw [B] at e;cases q:y == name with
     | true=>rw [q] at z; cases z; exact absurd (h1 x _ e) (bo _)
     | false=>rw [q] at z; exact h2 x y c e z
  ·rw [bK G];exact yk r n j h1 h2
theorem Q8s {M:Model} {A:aR} {E:aB->aC->Prop} {s:aC} {scope:Scope} {q:aA} {cl:List (Str × aA)} {qual:Str} {z:Option aA} {code:aB} {env:Env} {j:aA} {Q:Env->aC->Prop}
  (I:Q (newEnv scope s.heap.objs.size q (ae (s.heap.objs.size + 1) scope.names cl) qual z code (some env) j) { s with heap:=pushCells (s.heap.push { cls:=.type "dict",data:=.dict #[] }) scope.names }) :
  aI M A (newFunctionEnv scope q cl [] qual z code (some env) j) Q E s:=by
 simp only [newFunctionEnv,Option.isSome_some,if_true];refine aF (wpAny_alloc ?_);refine aF (wpAny_layCells _ (fun name kind G=>by cases B:kind == NameKind.cell <;> simp [B]) _ _ _ _ ?_);rw [show ({ s with heap:=s.heap.push { cls:=.type "dict",data:=.dict #[] } }:aC).heap.objs.size=s.heap.objs.size + 1 from F4 ..];refine aF ?_;rw [eV];exact aS (aS I)
def compOkC (N N':List Str) (sc scE:Scope) (cap:List (Option Nat)):Bool:=
 sc.kind == .function && sc.names.all (fun x=>x.2 != .cell || sc.names.lookup x.1 == some .cell) && sc.names.all (fun x=>x.2 != .local || sc.names.lookup x.1 == some .local) &&
 sc.names.all (fun x=>x.2 != .free || scE.names.lookup x.1 == some .cell || scE.names.lookup x.1 == some .free) && cap.length == N'.length &&
 (bV cap.length).all (fun i=>match cap[i]? with
  | some (some j)=>(match N'[i]?,N[j]? with | some a,some b=>a == b && sc.names.lookup a == some .free | _,_=>false)
  | _=>true)
structure CompOkC (N N':List Str) (sc scE:Scope) (cap:List (Option Nat)):Prop where
 kind:sc.kind=.function
 cel:∀ x∈sc.names,x.2=.cell->sc.names.lookup x.1=some .cell
 loc:∀ x∈sc.names,x.2=.local->sc.names.lookup x.1=some .local
 fre:∀ x∈sc.names,x.2=.free->scE.names.lookup x.1=some .cell\/scE.names.lookup x.1=some .free
 len:cap.length=N'.length
 at_:∀ (i j:Nat),cap[i]?=some (some j)->∃ x,N'[i]?=some x/\N[j]?=some x/\sc.names.lookup x=some .free
theorem compOkC.of {N N':List Str} {sc scE:Scope} {cap:List (Option Nat)} (h:compOkC N N' sc scE cap=true):CompOkC N N' sc scE cap:=by
 unfold compOkC at h;simp only [F6,F7,beq_iff_eq,gD,bne_iff_ne] at h;obtain ⟨⟨⟨⟨⟨h1,h2⟩,h3⟩,h4⟩,h5⟩,h6⟩:=h;refine ⟨h1,fun x q e=>?_,fun x q e=>?_,fun x q e=>?_,h5,fun i j e=>?_⟩
 ·rcases h2 x q with z | z
  ·exact absurd e z
  ·exact z
 ·rcases h3 x q with z | z
  ·exact absurd e z
  ·exact z
 ·rcases h4 x q with (z | z) | z
  ·exact absurd e z
  ·exact .inl z
  ·exact .inr z
 ·have hi:i < cap.length:=(O1.mp e).1;have:=h6 i (E7.mpr hi);rw [e] at this;simp only at this;cases e1:N'[i]? with
  | none=>rw [e1] at this; cases this
  | some a=>
   cases e2:N[j]? with
   | none=>rw [e1,e2] at this; cases this
   | some b=>
    rw [e1,e2] at this;simp only [F6,beq_iff_eq] at this;obtain ⟨rfl,z⟩:=this;exact ⟨a,rfl,rfl,z⟩
def Xp (X:Cx) (N':List Str) (sc:Scope) (cl:List (Str × aA)) (C:aA) (s0:aC) (H0:Hp) (ex:List aA):Cx:=
 { X with N:=N',s₀:=s0,H₀:=H0,env:=compEnvC sc cl C X.env,outer:=X.stack,ex:=ex,fn:=fun x=>sc.names.lookup x == some .cell,pn:=[],xe:=fun _ _=>False }
section
variable {X:Cx}
theorem Qm3 {pins:List (aA × Obj)} {σ:St} {H:Hp} {s:aC} {N N':List Str} {sc scE:Scope} {cap:List (Option Nat)} {cl:List (Str × aA)} {fp:List aA}
  (I:Inv X pins σ H s) (hN:X.N=N) (hE:X.env.scope=scE) (ck:CompOkC N N' sc scE cap) (c1:∀ x c,cl.lookup x=some c->X.env.cells.lookup x=some c) (c2:∀ x∈sc.names,x.2=.free->∃ c,cl.lookup x.1=some c)
  (hf:∀ b∈fp,Q8r X pins H b) (a4:∀ b∈fp,b < s.heap.objs.size) :
  Inv (Xp X N' sc (ae (s.heap.objs.size + 1) sc.names cl) s.heap.objs.size s H fp) [] (Q46 cap σ) H { s with heap:=pushCells (s.heap.push { cls:=.type "dict",data:=.dict #[] }) sc.names }:=by
 obtain ⟨J,O⟩:∃ J,pushCells (s.heap.push { cls:=.type "dict",data:=.dict #[] }) sc.names=J:=⟨_,rfl⟩;obtain ⟨B,G⟩:∃ B,ae (s.heap.objs.size + 1) sc.names cl=B:=⟨_,rfl⟩;rw [O,G];have keep:∀ b o,s.heap.get? b=some o->J.get? b=some o:=fun b o e=>by rw [<- O]; exact pushCells_keeps _ _ b o (O0 _ e)
 have a9:J.Ns s.heap.objs.size (fun _=>none):=by rw [<- O]; exact (Heap.Ns.new s.heap (.type "dict")).keeps (pushCells_keeps _ _)
 have look:∀ x c,B.lookup x=some c->cl.lookup x=some c\/(s.heap.objs.size + 1<=c/\J.IsCell c none):=fun x c e=>by
  rw [<- G] at e;have:=Kf (sc.names) (s.heap.push { cls:=.type "dict",data:=.dict #[] }) cl x c (by rw [F4]; exact e);rw [F4,O] at this;rcases this with z | ⟨_,z,z'⟩
  ·exact .inl z
  ·exact .inr ⟨z,z'⟩
 have Z:∀ x c,cl.lookup x=some c->c < s.heap.objs.size:=fun x c e=>by
  obtain ⟨v,o,ho,_⟩:=I.cell x c (c1 x c e);exact O9 ho
 have inj:∀ x y c,B.lookup x=some c->B.lookup y=some c->x=y:=by
  rw [<- G];exact yk _ _ _ (fun x c e=>ce (Z x c e)) fun x y c a b=>I.ok.inj x y c (c1 x c a) (c1 y c b)
 have a8:∀ x,sc.names.lookup x=some .cell->∃ c,B.lookup x=some c:=fun x e=>by
  rw [<- G];exact fY.mp (eJ _ _ _ (.inl e))
 have a5:∀ x,sc.names.lookup x=some .free->B.lookup x=cl.lookup x:=fun x e=>by
  rw [<- G];refine qq _ _ _ fun z=>?_
  have:=ck.cel _ z rfl;rw [e] at this; cases this
 have kindOf:∀ x k,(compEnvC sc B s.heap.objs.size X.env).kindOf x=some k->k=.cell\/k=.free->sc.names.lookup x=some .free\/sc.names.lookup x=some .cell:=fun x k e hk=>by
  have e':(relabel sc X.env).names.lookup x=some k:=e;rw [Q17] at e';cases q:sc.names.lookup x with
  | none=>rw [q] at e'; cases e'
  | some k'=>
   rw [q] at e';have a7:(if (k' == NameKind.free && X.env.scope.kind == .function && X.env.kindOf x == some .cell)=true then NameKind.cell else k')=k:=bc e'
   by_cases U:(k' == NameKind.free && X.env.scope.kind == .function && X.env.kindOf x == some .cell)=true
   ·simp only [F6,beq_iff_eq] at U;rw [U.1.1]; exact .inl rfl
   ·rw [bK U] at a7;subst a7;rcases hk with z | z
    ·rw [z]; exact .inr rfl
    ·rw [z]; exact .inl rfl
 have cellAt:∀ x c,X.env.cells.lookup x=some c->∀ v,s.heap.IsCell c v->J.IsCell c v:=fun x c e v ⟨o,ho,hd⟩=>⟨o,keep c o ho,hd⟩
 have a2:∀ c,s.heap.objs.size<=c->H c=none:=fun c U=>I.hok.fresh U
 refine ⟨⟨I.ok.mod,ck.kind,I.ok.glob,I.ok.blt,O7 _,inj,fun x hx=>?_,fun x c h1 h2=>?_,I.ok.hd,I.ok.frames,.inl rfl,fun b hb=>?_,I.bs,
  F1 I.ok.bsz I.sz,fun b o e hb=>?_,fun b hb hz=>?_,I.stack,I.stkFree⟩,rfl,I.bare,Un.kept keep,⟨_,a9,fun i x v e1 e2 e3=>?_⟩,fun x c e=>?_,a2 _ (O7 _),fun x c e=>?_,fun p hp=>(by cases hp),I.hok.kept keep,?_⟩
 ·have hx:(compEnvC sc B s.heap.objs.size X.env).kindOf x=some .cell\/(compEnvC sc B s.heap.objs.size X.env).kindOf x=some .free:=hx;have q:sc.names.lookup x=some .free\/sc.names.lookup x=some .cell:=by
   rcases hx with z | z
   ·exact kindOf x _ z (.inl rfl)
   ·exact kindOf x _ z (.inr rfl)
  rcases q with q | q
  ·obtain ⟨c,U⟩:=c2 _ (bx q) rfl;exact ⟨c,(a5 x q).trans U⟩
  ·exact a8 x q
 ·have h1:sc.names.lookup x=some .cell:=by simpa [Xp] using h1
  have h2:B.lookup x=some c:=h2;rw [<- G] at h2;exact F1 (cN _) (yj _ _ _ (bx h1) h2)
 ·refine ⟨F0 (a4 b hb),fun x c e=>?_⟩;rcases look x c e with z | ⟨z,_⟩
  ·exact (hf b hb).2.2.2.2.1 x c (c1 x c z)
  ·exact fun q=>absurd (D3 (a4 b hb) (F1 (cN _) (q ▸ z))) (bo _)
 ·rcases (hf b hb).2.2.2.1 with z | z
  ·exact I.ok.noex b o e z
  ·exact absurd (D3 (O9 e) (F1 I.ok.bsz z)) (bo _)
 ·rcases E3.mp (I.stkSub b hz) with e | z
  ·exact (hf b hb).2.1 e
  ·exact (hf b hb).2.2.1 z
 ·have e1:N'[i]?=some x:=e1;have e2:(Q46 cap σ)[i]?=some (some v):=e2;unfold Q46 at e2;rw [E6] at e2;cases q:cap[i]? with
  | none=>rw [q] at e2; cases e2
  | some oj=>
   rw [q] at e2;cases oj with
   | none=>cases e2
   | some j=>
    obtain ⟨y,z1,z2,z3⟩:=ck.at_ i j q;rw [e1] at z1; cases z1;have ev:σ[j]?=some (some v):=by
     have Y:(σ[j]?).join=some v:=bc e2;cases r:σ[j]? with
     | none=>rw [r] at Y; cases Y
     | some o=>rw [r] at Y; exact congrArg some Y
    obtain ⟨m',b0,hl⟩:=I.loc;have sK:X.env.scope.names.lookup x=some .cell\/X.env.scope.names.lookup x=some .free:=by rw [hE]; exact ck.fre _ (bx z3) rfl
    obtain ⟨u,ru,l⟩:=hl j x v (by rw [hN]; exact z2) ev (sK.elim (fun z=>.inr (.inl z)) fun z=>.inr (.inr z))
    refine ⟨u,ru,?_⟩;obtain ⟨c,U⟩:=c2 _ (bx z3) rfl;rcases l with ⟨k,_⟩ | ⟨k,c',a6,a3⟩
    ·have k:X.env.scope.names.lookup x=some .local:=k;rcases sK with z | z <;> (rw [k] at z; cases z)
    ·have:c=c':=by
      have q1:=c1 x c U;rw [a6] at q1;exact (bc q1).symm
     subst this;refine .inr ⟨?_,c,(a5 x z3).trans U,cellAt x c a6 _ a3⟩;show (relabel sc X.env).names.lookup x=some .cell\/(relabel sc X.env).names.lookup x=some .free;rw [Q17,z3];show some (if _ then NameKind.cell else NameKind.free)=_\/some (if _ then NameKind.cell else NameKind.free)=_
     split
     ·exact .inl rfl
     ·exact .inr rfl
 ·rcases look x c e with z | ⟨_,z⟩
  ·obtain ⟨v,q⟩:=I.cell x c (c1 x c z);exact ⟨v,cellAt x c (c1 x c z) v q⟩
  ·exact ⟨_,z⟩
 ·rcases look x c e with z | ⟨z,_⟩
  ·exact I.freeC x c (c1 x c z)
  ·exact a2 c (by omega)
 ·unfold Q46;show _=N'.length;rw [O2];exact ck.len
end
section
variable {X:Cx}
theorem Qr1 {x y:V} {us:List aB} (r:Vals [x,y] us):∃ u w,us=[u,w]/\RelV x u/\RelV y w:=by
 cases r with
 | cons a r=>
  cases r with
  | cons b r=>
   cases r with
   | nil=>exact ⟨_,_,rfl,a,b⟩
end
end L2
namespace PySem
open Sem (wp)
section
variable {prog:aN} {w:aL} {A:aR} {E:aB->aC->Prop} {hp:Heap} {gs:Array GenState} {dr:Drawn} {tk:Nat} {sy:OsState}
variable {cn cq:Str} {kC kN:aA} {bas tl tB:List aB} {hd:Bool} {sns:List Str} {subs:List aB} {abb:Bool} {coll:Option Bool} {dic:Option aA} {j0 j1 j2 j3 j5:Option aB} {BB Bn newI nI initI inN:String} {tN:List aB}
theorem Q6p (G:ExcBaseFacts Bn newI inN tN) (B:tB.contains (.type Bn)=true) (F:ExcBaseFacts BB nI initI tB) (T:OwnTail hp tB tl) {rest:List aB} {J:aA} {O:Obj} {Q:Fin->aC->Prop}
  (j:hp.get? kC=some (excClassObj cn cq kC kN bas tl hd sns subs abb coll dic j0 j1 j2 j3 j5 newI)) {K:bP} (X:K.In hp) (Z:bX K (.ref kC) "__init__" = some (some (.ref J))) (of:hp.get? J=some O) (Y:O.cls=.type "function")
  (hq:∀ h',(∀ b o,hp.get? b=some o->h'.get? b=some o)->h'.get? (hp.objs.size + 1)=some { cls:=.ref kC,data:=.fields #[.ref hp.objs.size,.none,.none,.none,.bool false,.none] }->aI (aJ prog w) A (call (.ref J) (.ref (hp.objs.size + 1) :: rest)) (fun r s'=>r=.none/\Q (.done (.ret (.ref (hp.objs.size + 1)))) s') E ⟨h',gs,dr,tk,sy⟩) (hz:rest.length<=sizeLine) :
  aI (aJ prog w) A (Builtin.«type.__call__» ⟨.ref kC :: rest,[]⟩) Q E ⟨hp,gs,dr,tk,sy⟩:=by
 repeat (first | with_reducible refine wpAny_loadPart_at j ?_ | with_reducible refine wpAny_madeBy_exc j ?_ | wp_step)
 refine codeAny_call_builtin_code (Code.quiet_builtin _ G.quiet) (wpAny_check_new_subU G B T j ?_);refine codeAny_exc_new_subU G B F T j ?_ hz;show aI _ _ _ _ _ _;obtain ⟨h2,e2⟩:∃ h2,(hp.push { cls:=.type "tuple",data:=.seq rest.toArray }).push { cls:=.ref kC,data:=.fields #[.ref hp.objs.size,.none,.none,.none,.bool false,.none] }=h2:=⟨_,rfl⟩;have kp:∀ b o,hp.get? b=some o->h2.get? b=some o:=fun b o q=>by rw [<- e2]; exact O0 _ (O0 _ q)
 have U:h2.get? (hp.objs.size + 1)=some { cls:=.ref kC,data:=.fields #[.ref hp.objs.size,.none,.none,.none,.bool false,.none] }:=by rw [<- e2]; heap_get
 have ot:h2.get? hp.objs.size=some { cls:=.type "tuple",data:=.seq rest.toArray }:=by rw [<- e2]; exact O0 _ (Heap.get?_push_at rfl rfl)
 rw [e2];have I:=kp _ _ j;have self:(bW kC :: tl).contains (.ref kC)=true:=by simp
 unfold isInstance
 repeat (first | with_reducible refine wpAny_loadPart_at U ?_ | (with_reducible refine wpAny_isSubtype_exc I ?_; rw [self]) | wp_step)
 show aI _ _ (typeLookup (.ref kC) _) _ _ _;refine (fS (X.keeps kp) Z).at ?_;refine av (aF ?_);unfold bindSpecial;refine aF (bG (T := "function") ⟨_,kp _ _ of,Y⟩ ?_);rw [bJ (by decide)];refine aS (aF (ac (hq h2 kp U) (fun r s' z=>?_) fun _ _ z=>z))
 obtain ⟨rfl,z⟩:=z
 wp_walk
 exact z
theorem Qew (J:ExcBaseFacts Bn newI inN tN) (q:tB.contains (.type Bn)=true) (F:ExcBaseFacts BB nI initI tB) (T:OwnTail hp tB tl) {rest:List aB} {z:aA} {B:Obj} {Q:aB->aC->Prop}
  (j:hp.get? kC=some (excClassObj cn cq kC kN bas tl hd sns subs abb coll dic j0 j1 j2 j3 j5 newI)) {K:bP} (X:K.In hp) (I:bX K (.ref kC) "__init__" = some (some (.ref z))) (of:hp.get? z=some B) (G:B.cls=.type "function")
  (O:∀ h',(∀ b o,hp.get? b=some o->h'.get? b=some o)->h'.get? (hp.objs.size + 1)=some { cls:=.ref kC,data:=.fields #[.ref hp.objs.size,.none,.none,.none,.bool false,.none] }->aI (aJ prog w) (A.under (.builtin "type.__call__" ⟨.ref kC :: rest,[]⟩)) (call (.ref z) (.ref (hp.objs.size + 1) :: rest)) (fun r s'=>r=.none/\Q (.ref (hp.objs.size + 1)) s') E ⟨h',gs,dr,tk,sy⟩) (hz:rest.length<=sizeLine) :
  aI (aJ prog w) A (call (.ref kC) rest) Q E ⟨hp,gs,dr,tk,sy⟩:=by
 have Y:=tc_lookup;have U:=tc_bind (.ref kC);have ty:(⟨hp,gs,dr,tk,sy⟩:aC).TypeIs (.ref kC) "type" := ⟨_,j,rfl⟩;refine wpAny_call (codeAny_of_tree ?_);show aI _ _ (callAny (.ref kC) _) _ _ _
 repeat (any_goals (first | assumption | with_reducible refine wpAny_loadPart_at j ?_ | wp_step))
 refine ⟨rfl,?_⟩;exact codeAny_call_builtin_at (Code.quiet_builtin _ (by decide +kernel)) entry_typeCall (wpAny_check_type_call_sub j (Q6p (hz:=hz) J q F T j X I of G fun h' k m=>O h' k m))
end
section
variable {M:Model} {A:aR} {E:aB->aC->Prop} {env:Env}
variable {cn cq:Str} {kC kN:aA} {bas tl:List aB} {hd:Bool} {sns:List Str} {subs:List aB} {abb:Bool} {coll:Option Bool} {dic:Option aA} {j0 j1 j2 j3 j5:Option aB} {newI:String}
theorem Q96 {s:aC} {x:Sem aB} {Q:Flow->aC->Prop} (G:tl.contains (.type "BaseException")=true) (J:A.handled=none)
  (h:aI M A x (fun v s1=>∃ e t j,v=.ref e/\s1.heap.get? kC=some (excClassObj cn cq kC kN bas tl hd sns subs abb coll dic j0 j1 j2 j3 j5 newI) /\
   s1.heap.get? e=some { cls:=.ref kC,dict:=j,data:=.fields #[.ref t,.none,.none,.none,.bool false,.none] }/\E (.ref e) s1) E s):aI M A (raiseStmt env (some x) none) Q E s:=by
 have B:(bW kC :: tl).contains (.type "BaseException")=true:=by rw [List.contains_cons,G,Bool.or_true]
 unfold raiseStmt;refine aF (ac h (fun v s1 z=>?_) fun _ _ z=>z)
 obtain ⟨e,t,j,rfl,q,I,z⟩:=z;obtain ⟨hp,gs,dr,tk,sy⟩:=s1
 repeat (first | with_reducible refine wpAny_loadPart_at I ?_ | with_reducible refine wpAny_loadPart_at q ?_ | (with_reducible refine wpAny_isSubtype_exc q ?_; rw [B]) | wp_step)
 exact wpAny_raiseNew_none J z
end
end PySem
namespace L2
open PySem PySem.Spec PyProof.Rows PySem.W PySem.Builtin.ObjectAttr
structure XSet (K:Frag) (C W:aA) (name:Str):Prop where
 sa:findIn K (.ref C) "__setattr__" = some (some (.builtin "object.__setattr__"))
 ob:mroIn K C (.type "object")=some true
 cls:∃ cd,clsIn K C=some cd/\cd.mro=.ref C :: .ref W :: Xn/\cd.hasDict=true
 no:findIn K (.ref C) name=some none
section
variable {prog:aN} {w:aL} {A:aR} {E:aB->aC->Prop} {s:aC} {K:Frag} {x C W:aA} {name:Str} {v:aB}
theorem Qme {vs:Array aB} {Q:Unit->aC->Prop} (X:K.In s.heap) (S:XSet K C W name) (z:s.heap.get? x=some { cls:=.ref C,data:=.fields vs })
  (hq:∀ h' tk,h'.get? x=some { cls:=.ref C,dict:=some s.heap.objs.size,data:=.fields vs }->h'.Ns1 s.heap.objs.size (fun y=>if y=name then some v else none) ->
   (∀ b o,b≠x->s.heap.get? b=some o->h'.get? b=some o)->Q () { s with heap:=h',toks:=tk }):aI (aJ prog w) A (setAttr (.ref x) name v) Q E s:=by
 have J:InstAt s.heap x { cls:=.ref C,data:=.fields vs } C none:=⟨z,rfl,rfl,True.intro⟩;obtain ⟨cd,O,hm,hd⟩:=S.cls;refine set_plain X J S.sa ?_;have j:=PySem.F.store_ValueError;have sub:Looks (aJ prog w) s.heap (isInstance (.ref x) (.type "object")) true:=J.type.andThen (looks_mroIn X S.ob);refine codeAny_call_builtin j.slot.plain j.entry (@check_slot (aJ prog w) _ _ { s with toks:=s.toks + 1 } "object.__setattr__" "object" "__setattr__" (.ref x) [.str name s.toks,v] [] _ j.kind j.split sub (j.args (.ref x) (.str name s.toks) v) ?_);have lm:Looks (aJ prog w) s.heap (mroOf (.ref C)) cd.mro:=(looks_clsIn X O).andThen .now;rw [osa_eq,refuse_eq];refine aF (aF (Looks.here (s:={ s with toks:=s.toks + 1 }) J.type (aF (Looks.here (s:={ s with toks:=s.toks + 1 }) lm ?_))));rw [hm,refuseLoop_ref,refuseLoop_ref,j.passes];refine aS (aF (Looks.here (s:={ s with toks:=s.toks + 1 }) J.type (aF (Looks.here (s:={ s with toks:=s.toks + 1 }) (looks_findIn X S.no) (aF (aS ?_))))))
 dsimp only;unfold storeInOwnDict;refine aF (aS (aF ?_));unfold ownDictForStores instanceDict;refine aF (wpAny_loadPart z (aF (Looks.here (s:={ s with toks:=s.toks + 1 }) (looks_clsIn X O) ?_)));rw [hd];have U:(s.heap.push { cls:=.type "dict",data:=.dict #[] }).get? x=some { cls:=.ref C,data:=.fields vs }:=O0 _ z;have xs:x≠s.heap.objs.size:=F0 (O9 z);have th:typeHasDict (.ref C)=true:=rfl;dsimp only;rw [bK (by decide),bK (by rw [th]; decide)];refine aF (wpAny_alloc' ?_);refine aF (wpAny_update' U ?_);refine aS ?_;obtain ⟨h2,e2⟩:∃ h2,((s.heap.push { cls:=.type "dict",data:=.dict #[] }).update x fun o=>{ cls:=o.cls,dict:=some s.heap.objs.size,data:=o.data,slots:=o.slots })=h2:=⟨_,rfl⟩
 have g2:h2.get? s.heap.objs.size=some { cls:=.type "dict",data:=.dict #[] }:=by rw [<- e2]; exact (Heap.get?_update_ne _ _ _ _ xs.symm).trans (Heap.get?_push_at rfl rfl)
 have x2:h2.get? x=some { cls:=.ref C,dict:=some s.heap.objs.size,data:=.fields vs }:=by rw [<- e2]; exact F9 _ U rfl
 have k2:∀ b o,b≠x->s.heap.get? b=some o->h2.get? b=some o:=fun b o n q=>by rw [<- e2]; exact (Heap.get?_update_ne _ _ _ _ n).trans (O0 _ q)
 have n2:h2.Ns s.heap.objs.size (fun _=>none):=⟨_,#[],_,g2,rfl,fun e he=>absurd he (by simp),fun _=>rfl⟩;show aI _ _ (storeInDict s.heap.objs.size (.str name s.toks) name v) _ _ _;rw [e2];unfold storeInDict newKeyGuard;refine aF (aS (aF (wpAny_nsSet1 (Heap.Ns1.of_empty n2) fun h' Z Y=>?_)))
 obtain ⟨oD,a2,a3,B,G,I⟩:=Z.count (Within.cons name v Within.nil);refine aF (wpAny_lookBehind B (by rw [G]; exact pastItsLine_dict (F1 I (by rw [D8,cQ,sizeLine_eq]; omega))) ?_);exact aS (hq h' _ ((Y.2 x xs).trans x2) Z fun b o n q=>(Y.2 b (F0 (O9 q))).trans (k2 b o n q))
end
end L2
namespace L2
open PySem PySem.Spec PyProof.Rows PySem.W
def XO (x C:aA) (dv:Option aA) (h:Heap):Prop:=∃ t,h.get? x=some { cls:=.ref C,dict:=dv,data:=.fields #[.ref t,.none,.none,.none,.bool false,.none] }
theorem Qi8 {P:aN} {w:aL} {H:Hp} {h:Heap} {x C:aA} {j:Option aA} (o:XO x C j h):ObjOk P w H h x (.ext (XO x C j)):=
 ⟨o,o.elim fun t e=>⟨_,e⟩,fun h1 h2 ⟨t,e⟩ k=>⟨t,k _ e⟩⟩
structure XMade (K:Frag) (C W f:aA):Prop where
 lk:∃ nm q N bs sn sub ab col dd k0 k1 k2 k3 k5,K.lookup C=some (excClassObj nm q C N bs (.ref W :: Xn) true sn sub ab col dd k0 k1 k2 k3 k5 "ValueError.__new__")
 xw:excIn K W Xn "ValueError.__new__" = true
 fi:findIn K (.ref C) "__init__" = some (some (.ref f))
 ff:∃ o,K.lookup f=some o/\o.cls=.type "function"
 kp:keepIn K (.ref C)=true
theorem XMade.tail {K:Frag} {C W f:aA} {h:Heap} (M:XMade K C W f) (X:K.In h):OwnTail h Xn (.ref W :: Xn):=by
 obtain ⟨tl,N,nm,B,bs,hdct,sn,sub,ab,col,dd,k0,k1,k2,k3,k5,mN,z,q,j,T⟩:=(Qfd (mg:=fun _=>some (.ref W)) (x := "W") X rfl M.xw).obj
 exact .own z q j .base
section
variable {prog:aN} {w:aL} {A:aR} {E:aB->aC->Prop} {s:aC} {K:Frag} {x C W f:aA}
theorem Qqx {u:aB} {Q:aB->aC->Prop} (X:K.In s.heap) (M:XMade K C W f) (o:XO x C none s.heap)
  (z:∀ h',(∀ b o,b≠x->s.heap.get? b=some o->h'.get? b=some o)->XO x C none h'->Q .none { s with heap:=h' }):aI (aJ prog w) A (call (.builtin "ValueError.__init__") [.ref x,u]) Q E s:=by
 obtain ⟨t,j⟩:=o;obtain ⟨nm,q,N,bs,sn,sub,ab,col,dd,k0,k1,k2,k3,k5,lk⟩:=M.lk;obtain ⟨hp,gs,dr,tk,sy⟩:=s;refine wpAny_call (codeAny_call_builtin PySem.F.excBase_ValueError.init.plain PySem.F.excBase_ValueError.initEntry (wpAny_check_init_subU cz (M.tail X) (X _ _ lk) j rfl ?_))
 wp_walk
 refine z _ (fun b o n e=>?_) ⟨hp.objs.size,?_⟩
 ·rw [E5 _ _ (Ne.symm n)];exact O0 _ e
 ·rw [F9 _ (O0 _ j) rfl];rfl
end
section
variable {X:Cx} {x C W f:aA}
structure XCall (K:Frag) (W:aA):Prop where
 ga:specialIn K (.ref W) "__getattribute__" = some (some (.builtin "type.__getattribute__"))
 rd:readsIn K W (.type "type")=true
 fc:findCls K (.ref W) (.type "type") "__init__" = some (.val (.builtin "ValueError.__init__"))
def tXI (K:Frag) (C W f:aA) (t:TA):TE:=fun σ H Q=>t σ H fun vs H1=>∃ x y,vs=[.ref x,y]/\H1 x=some (.ext (XO x C none))/\Q .non H1
theorem Qj8 {n:Str} {p apos pos:Pos} {a b:aD} {t:TA} {pl:Sem Bool} (M:XMade X.K C W f) (L:XCall X.K W) (Z:Gl X n) (hm:X.mg n=some (.ref W)) (ha:PA X [a,b] t) (B:(n == ("__debug__" : Str))=false:=by decide)
  (J:aO [a,b] X.env=[(false,aK a X.env),(false,aK b X.env)]:=by rfl)
  (ht:aK (.Call (.Attribute (.Name n p) "__init__" apos) [a,b] [] pos) X.env=(do
   let ov <- aK (.Name n p) X.env
   standAt apos.atName
   let (g,first) <- ai [ov] (getMethod ov "__init__" pl)
   callWith pos g first (aU pos (aO [a,b] X.env)) (backToKw pos (keywordEach [] X.env))):=by rfl) :
  PE X (.Call (.Attribute (.Name n p) "__init__" apos) [a,b] [] pos) (tXI X.K C W f t):=by
 intro pins s σ H Q I h;refine methodCall_KW (pl:=pl) (jw I Z hm ?_ B) ht;refine method_cls I.kIn L.ga (cls_value I.kIn L.rd L.fc (by first | rfl | kernel_rfl) ?_);have I1:Inv X pins σ H { s with toks:=s.toks + 1 }:=I.tok _;have U:=ha pos pins _ σ H _ I1 h;rw [J] at U ⊢;refine Calls.callWith_builtin rfl (Calls.evalArgs_plain ?_);refine thn U fun us s2 ⟨vs,H2,O,r2,x,y,e,G,q⟩=>?_
 subst e;obtain ⟨u1,u2,rfl,r1,r3⟩:=Qr1 r2;cases r1;refine Qqx O.kIn M (O.hok x _ G).1 fun h' Y o=>?_
 refine ⟨.non,H2,?_,rfl,q⟩;have:=O.write (x:=x) (e:=x) (o:=.ext (XO x C none)) (t':=s2.toks) (h':=h') (by rw [G]; exact trivial) (.inl rfl) Y (o.elim fun t e=>⟨_,e⟩) (Qi8 o);have eq:upd H2 x (.ext (XO x C none))=H2:=by
  funext b
  j z:b=x
  ·subst z; rw [Jb,G]
  ·rw [Qh z]
 rw [eq] at this;exact this
theorem Inv.trackO {pins:List (aA × Obj)} {σ:St} {H H':Hp} {s s1:aC} {a:aA} {Y:HO} (O:Inv X pins σ H s) (U:∀ b,b∉X.ex) (h0:s.heap.get? a=none) (I:Inv X pins σ H' s1) (G:H' a=none) (o:ObjOk X.prog X.w (upd H' a Y) s1.heap a Y):Inv X pins σ (upd H' a Y) s1:=by
 have j:∀ b u,s.heap.get? b=some u->b≠a:=fun b u e z=>by rw [z,h0] at e; cases e
 have Z:∀ b u,X.s₀.heap.get? b=some u->b≠a:=fun b u e=>by
  obtain ⟨u',e'⟩:=O.base.there b u e (U b);exact j b u' e'
 refine ⟨I.ok,I.os,I.bare,?_,I.loc,I.cell,?_,?_,?_,?_,I.len⟩
 ·have B:=I.base;exact ⟨B.keep,B.slot,fun c o e n hx=>by rw [Qh (Z c o e)]; exact B.free c o e n hx,B.there,
   fun c J e=>by have:=B.tups c J e; rw [Qh (Qk this G)]; exact this,
   fun c o J e=>by have:=B.frzs c o J e; rw [Qh (Qk this G)]; exact this,
   fun c ps e=>by obtain ⟨more,q⟩:=B.tbls c ps e; exact ⟨more,by rw [Qh (Qk q G)]; exact q⟩⟩
 ·obtain ⟨m,⟨o,_,_,e,_⟩,_⟩:=O.loc;rw [Qh (j _ _ e)]; exact I.free
 ·intro x c e;obtain ⟨v,o,z,_⟩:=O.cell x c e;rw [Qh (j _ _ z)]; exact I.freeC x c e
 ·intro p hp;obtain ⟨e,n,ne,nf,d⟩:=I.pin p hp;exact ⟨e,by rw [Qh (j _ _ (O.pin p hp).1)]; exact n,ne,nf,d⟩
 ·intro c u q
  by_cases hc:c=a
  ·subst hc;rw [Jb] at q; cases q;exact o
  ·rw [Qh hc] at q;exact (I.hok c u q).stay (fun _ _ _ r=>r) (fun c' r=>by rw [Qh (Qk r G)]; exact r) fun c' J r=>by rw [Qh (Qk r G)]; exact r
def tXS (C:aA) (name:Str) (ta tv:TE):TS:=fun D σ H=>tv σ H fun y H1=>ta σ H1 fun v H2=>∃ x,v=.ref x/\H2 x=some (.ext (XO x C none)) /\
 ∀ dx,H2 dx=none->dx≠x->D.nx σ (upd (upd H2 x (.ext (XO x C (some dx)))) dx (.xd [(name,y)]))
theorem Qna {o value:aD} {name:Str} {ta tv:TE} {pos pos':Pos} (B:∀ b,b∉X.ex) (S:XSet X.K C W name) (ha:PE X o ta) (hv:PE X value tv) (hs:swapsWith value (some (.Attribute o name pos')) pos.line X.env=pure false:=by rfl) :
  PS X (.Assign [.Attribute o name pos'] value pos) (tXS C name ta tv):=by
 intro pins s σ H D I h;refine plainObj_wpAny_Assign_Attribute (thn (hv pins s σ H _ I h) fun u s1 ⟨y,H1,I1,U,q⟩=>thn (ha pins s1 σ H1 _ I1 q) fun Z s2 ⟨v,H2,j,rx,x,ex,G,q2⟩=>?_) hs
 subst ex;obtain rfl:Z=bW x:=rx;obtain ⟨t,J⟩:=(j.hok x _ G).1;refine Qme j.kIn S J fun h' tk o' n' Y=>?_
 have xs:s2.heap.objs.size≠x:=cE (O9 J);have O:=j.write (x:=x) (e:=x) (o:=.ext (XO x C (some s2.heap.objs.size))) (t':=tk) (h':=h') (by rw [G]; exact trivial) (.inl rfl) Y ⟨_,o'⟩ (Qi8 ⟨t,o'⟩);refine ⟨σ,_,?_,q2 s2.heap.objs.size j.fresh xs⟩;refine Inv.trackO j B (Heap.get?_none_of_le (O7 _)) O (by rw [Qh xs]; exact j.fresh) ⟨_,n',fun g=>?_⟩;show RelO ([(name,y)].lookup g) (if g=name then some u else none)
 by_cases z:g=name
 ·subst z;rw [bJ rfl,D9,show (g == g)=true by simp];exact U
 ·have:(g == name)=false:=by simpa using z
  rw [bK z,D9,this];exact trivial
end
end L2
namespace PySem
open Sem (wp)
def Q0z (o:Obj):Option aB:=match o.data with | .fields vs=>vs[2]? | _=>none
theorem Qdc {o:Obj} {vs:Array aB} {x:aB} (j:o.data=.fields vs):Q0z (br (·.setIfInBounds 1 x) o)=Q0z o:=by
 have d:=cA j (·.setIfInBounds 1 x);unfold Q0z;rw [d,j];exact ec (by decide)
section
variable {M:Model} {A:aR} {E:aB->aC->Prop} {s:aC} {bs:Heap} {en:Env} {ou:List Env} {L e:aA} {ob:Obj} {vs:Array aB} {a0:aB} {Q:Unit->aC->Prop}
theorem Q8d {B:aB} {nx:Bool} (fr:A.frames=some (en :: ou)) (ff:s.heap.FunFrames bs (en :: ou)) (ef:en.frame=some L) (Y:s.heap.get? e=some ob) (kb:bs.StaysIn s.heap) (ne:bs.get? e=none)
  (I:ob.data=.fields vs) (Z:1 < vs.size) (z0:vs[0]?=some a0)
  (h:∀ h',Heap.LeftW bs (en :: ou) e ob.cls a0 s.heap h'->(∃ o',h'.get? e=some o'/\o'.dict=ob.dict/\Q0z o'=Q0z ob)->Q () { s with heap:=h' }) :
  aI M A (do
   let a <- frameOf en
   let pl <- entryPlaceOf L nx
   let b <- EntryCells.newEntry B a .none (ad L) .none pl
   setField (.ref e) 1 b) (fun _ s'=>aI M A (setFlight (.ref e) none) Q E s') E s:=by
 have nf:e∉(en :: ou).filterMap (·.frame):=fun m=>by
  obtain ⟨_,o,q,n⟩:=ff.mem m;rw [Y] at q;cases q;exact n vs I
 refine aF (wpAny_frameOf_fun fr ff ef fun g gs=>?_);refine aF (wpAny_entryPlaceOf fun pl hp=>?_);unfold EntryCells.newEntry newFields;refine aF (ao ?_ (hp.sizeOk5 _ _ _ _ _));have ge:g.get? e=some ob:=(gs.2.1 e nf).trans Y;have gb:bs.StaysIn g:=fun b o q=>(gs.2.1 b fun m=>by
  rw [(ff.mem m).1] at q;cases q).trans (kb b o q)
 obtain ⟨tb,O⟩:∃ tb:List aB,[B,.ref L,.none,ad L,.none] ++ (if pl.isEmpty then bQ 6 bb else pl)=tb:=⟨_,rfl⟩;have l5:3 < tb.length/\tb[3]?=some (ad L):=by
  rw [<- O];exact ⟨by simp,by simp⟩
 rw [O];have J:=O0 (h:=g) { cls:=.type "traceback",dict:=none,data:=.fields tb.toArray } ge;refine wpAny_setField J I Z ?_;have te:g.objs.size≠e:=cE (O9 ge);have d3:=cA I (·.setIfInBounds 1 (bW g.objs.size));have j:=F9 (br (·.setIfInBounds 1 (bW g.objs.size))) J (cx d3);have G:=(E5 (g.push { cls:=.type "traceback",dict:=none,data:=.fields tb.toArray })
  (br (·.setIfInBounds 1 (bW g.objs.size))) te.symm).trans
  (D6 g rfl)
 unfold setFlight;refine aF (aY j d3 (x:=.ref g.objs.size) (by simp [Z]) ?_);rw [bJ (show (bW g.objs.size != bb)=true by simp)];refine wpAny_setField G rfl (by simpa using l5.1) (h _ ?_ ?_)
 all_goals
  obtain ⟨g3,U⟩:∃ g3,((g.push { cls:=.type "traceback",dict:=none,data:=.fields tb.toArray }).update e (br (·.setIfInBounds 1 (bW g.objs.size))))=g3:=⟨_,rfl⟩;rw [U] at j G ⊢
 ·have kp:∀ b o,b≠e->g.get? b=some o->(g3.update g.objs.size (br (·.setIfInBounds 3 ((none:Option aA).elim bb fun f=>ad f)))).get? b=some o:=fun b o n q=>by
   rw [E5 _ _ (cE (O9 q)),<- U,E5 _ _ n.symm];exact O0 _ q
  have nr:∀ b o,s.heap.get? b=some o->(∀ ws,o.data≠.fields ws)->b≠e:=fun b o q n z=>by
   rw [z,Y] at q;cases q;exact n vs I
  refine ⟨fun b o q=>kp b o (fun z=>by rw [z,ne] at q; cases q) (gb b o q),ff.of_keeps fun b o q n=>?_,?_,fun b o q n=>?_⟩
  ·obtain ⟨sl,z⟩:=gs.2.2 b o q;exact ⟨_,kp b _ (nr b o q n) z,rfl⟩
  ·refine ⟨_,_,g.objs.size,_,_,?_,⟨eU _ _,?_⟩,d3,by simp [Z],gb.fresh,te,F9 _ G (cx (cA rfl _)),cA rfl _,?_⟩
   ·rw [E5 _ _ te];exact j
   ·rw [ec (by decide)];exact z0
   ·have:=l5.1;simp [this]
  ·obtain ⟨sl,z⟩:=gs.2.2 b o q;exact ⟨sl,kp b _ (nr b o q n) z⟩
 ·refine ⟨_,(E5 _ _ te).trans j,?_,Qdc I⟩;cases ob with
  | mk c d dt sl=>cases dt <;> first | rfl | cases I
theorem Qd4 (G:A.frames=some (en :: ou)) (ff:s.heap.FunFrames bs (en :: ou)) (B:en.frame=some L) (q:s.heap.get? e=some ob) (kb:bs.StaysIn s.heap) (ne:bs.get? e=none)
  (j:ob.data=.fields vs) (z:vs[1]?=some .none) (I:vs[0]?=some a0)
  (h:∀ h',Heap.LeftW bs (en :: ou) e ob.cls a0 s.heap h'->(∃ o',h'.get? e=some o'/\o'.dict=ob.dict/\Q0z o'=Q0z ob)->Q () { s with heap:=h' }):aI M A (leaving en (.ref e)) Q E s:=by
 unfold leaving noteFrame;simp only [B];refine aF (aF (aY q j z ?_));rw [bK (by decide)];exact Q8d G ff B q kb ne j (cg.mp z).1 I h
theorem Qd3 {cls:aB} {Y:Option aA} (fr:A.frames=some (en :: ou)) (Z:en.frame=some L) (fl:Heap.FlyingW bs (en :: ou) e cls a0 s.heap) (dd:∃ o',s.heap.get? e=some o'/\o'.dict=Y/\Q0z o'=some .none)
  (h:∀ h',Heap.FlyingW bs ou e cls a0 h'->(∃ o',h'.get? e=some o'/\o'.dict=Y/\Q0z o'=some .none)->s.heap.UpToSlots h'->Q () { s with heap:=h' }):aI M A (leaving en (.ref e)) Q E s:=by
 obtain ⟨kb,ne,ff,oe,U,T,oT,ts,I,⟨hc,z0⟩,od,z1,nT,Te,hT,dT,z3⟩:=fl;obtain ⟨o',j,J,G⟩:=dd;rw [I] at j;cases j;unfold leaving noteFrame;simp only [Z];refine aF (aF (aY I od z1 ?_));rw [bJ (show (bW T != bb)=true by simp)];refine aF (aY hT dT z3 ?_);rw [bK (show ¬ ((bb == ad L)=true) by simp [ad])];refine aF (wpAny_setField hT dT (cg.mp z3).1 ?_);have B:∀ b,b≠T->(s.heap.update T (br (·.setIfInBounds 3 bb))).get? b=s.heap.get? b:=fun b n=>E5 _ _ n.symm
 have O:∀ b o,s.heap.get? b=some o->(∀ U,o.data≠.fields U)->b≠T:=fun b o q n z=>by
  rw [z,hT] at q;cases q;exact n ts dT
 refine Q8d fr (ff.of_keeps fun b o q n=>⟨o,(B b (O b o q n)).trans q,rfl⟩) Z ((B e Te.symm).trans I) (fun b o q=>(B b fun z=>by rw [z,nT] at q; cases q).trans (kb b o q)) ne od (cg.mp z1).1 z0 fun h' lf d'=>?_
 obtain ⟨k1,⟨_,_,k2⟩,k3,k4⟩:=lf;rw [hc] at k3;exact h h' ⟨k1,ne,k2,k3⟩ (d'.imp fun o q=>⟨q.1,q.2.1.trans J,q.2.2.trans G⟩) fun b o q n=>k4 b o ((B b (O b o q n)).trans q) n
theorem Q62 {j:aB} {nx:Bool} (fr:A.frames=some (en :: ou)) (ff:s.heap.FunFrames bs (en :: ou)) (ef:en.frame=some L) (U:s.heap.get? e=some ob) (kb:bs.StaysIn s.heap) (ne:bs.get? e=none)
  (B:ob.data=.fields vs) (z1:1 < vs.size) (z0:vs[0]?=some a0)
  (h:∀ h',Heap.NotedW bs (en :: ou) e ob.cls a0 (ad L) s.heap h'->(∃ o',h'.get? e=some o'/\o'.dict=ob.dict/\Q0z o'=Q0z ob)->Q () { s with heap:=h' }) :
  aI M A (do
   let a <- frameOf en
   let pl <- entryPlaceOf L nx
   let b <- EntryCells.newEntry j a .none (ad L) .none pl
   setField (.ref e) 1 b) Q E s:=by
 have nf:e∉(en :: ou).filterMap (·.frame):=fun m=>by
  obtain ⟨_,o,q,n⟩:=ff.mem m;rw [U] at q;cases q;exact n vs B
 refine aF (wpAny_frameOf_fun fr ff ef fun g gs=>?_);refine aF (wpAny_entryPlaceOf fun pl hp=>?_);unfold EntryCells.newEntry newFields;refine aF (ao ?_ (hp.sizeOk5 _ _ _ _ _));have ge:g.get? e=some ob:=(gs.2.1 e nf).trans U;have Z:bs.StaysIn g:=fun b o q=>(gs.2.1 b fun m=>by
  rw [(ff.mem m).1] at q;cases q).trans (kb b o q)
 obtain ⟨tb,J⟩:∃ tb:List aB,[j,.ref L,.none,ad L,.none] ++ (if pl.isEmpty then bQ 6 bb else pl)=tb:=⟨_,rfl⟩;have l5:3 < tb.length/\tb[3]?=some (ad L):=by
  rw [<- J];exact ⟨by simp,by simp⟩
 rw [J];have G:=O0 (h:=g) { cls:=.type "traceback",dict:=none,data:=.fields tb.toArray } ge;have te:g.objs.size≠e:=cE (O9 ge);have d3:=cA B (·.setIfInBounds 1 (bW g.objs.size));have I:=F9 (br (·.setIfInBounds 1 (bW g.objs.size))) G (cx d3);have O:=(E5 (g.push { cls:=.type "traceback",dict:=none,data:=.fields tb.toArray })
  (br (·.setIfInBounds 1 (bW g.objs.size))) te.symm).trans
  (D6 g rfl)
 refine wpAny_setField G B z1 (h _ ?_ ?_)
 ·have kp:∀ b o,b≠e->g.get? b=some o->((g.push { cls:=.type "traceback",dict:=none,data:=.fields tb.toArray }).update e (br (·.setIfInBounds 1 (bW g.objs.size)))).get? b=some o:=fun b o n q=>by
   rw [E5 _ _ n.symm];exact O0 _ q
  have nr:∀ b o,s.heap.get? b=some o->(∀ ws,o.data≠.fields ws)->b≠e:=fun b o q n z=>by
   rw [z,U] at q;cases q;exact n vs B
  refine ⟨fun b o q=>kp b o (fun z=>by rw [z,ne] at q; cases q) (Z b o q),ff.of_keeps fun b o q n=>?_,?_,fun b o q n=>?_⟩
  ·obtain ⟨Y,z⟩:=gs.2.2 b o q;exact ⟨_,kp b _ (nr b o q n) z,rfl⟩
  ·refine ⟨_,_,g.objs.size,_,_,I,⟨eU _ _,?_⟩,d3,by simp [z1],Z.fresh,te,O,rfl,by simpa using l5.2⟩;rw [ec (by decide)];exact z0
  ·obtain ⟨Y,z⟩:=gs.2.2 b o q;exact ⟨Y,kp b _ (nr b o q n) z⟩
 ·refine ⟨_,I,?_,Qdc B⟩;cases ob with
  | mk c d dt Y=>cases dt <;> first | rfl | cases B
theorem Qh6 {cls:aB} {Y:Option aA} (fr:A.frames=some (en :: ou)) (Z:en.frame=some L) (fl:Heap.FlyingW bs (en :: ou) e cls a0 s.heap) (dd:∃ o',s.heap.get? e=some o'/\o'.dict=Y/\Q0z o'=some .none)
  (h:∀ h',Heap.HeldW bs (en :: ou) e cls a0 L h'->(∃ o',h'.get? e=some o'/\o'.dict=Y/\Q0z o'=some .none)->s.heap.UpToSlots h'->Q () { s with heap:=h' }):aI M A (noteFrame (.ref e) en) Q E s:=by
 obtain ⟨kb,ne,ff,oe,U,T,oT,ts,I,⟨hc,z0⟩,od,z1,nT,Te,hT,dT,z3⟩:=fl;obtain ⟨o',j,J,G⟩:=dd;rw [I] at j;cases j;unfold noteFrame;simp only [Z];refine aF (aY I od z1 ?_);rw [bJ (show (bW T != bb)=true by simp)];refine aF (aY hT dT z3 ?_);rw [bK (show ¬ ((bb == ad L)=true) by simp [ad])];refine aF (wpAny_setField hT dT (cg.mp z3).1 ?_);have B:∀ b,b≠T->(s.heap.update T (br (·.setIfInBounds 3 bb))).get? b=s.heap.get? b:=fun b n=>E5 _ _ n.symm
 have O:∀ b o,s.heap.get? b=some o->(∀ U,o.data≠.fields U)->b≠T:=fun b o q n z=>by
  rw [z,hT] at q;cases q;exact n ts dT
 refine Q62 fr (ff.of_keeps fun b o q n=>⟨o,(B b (O b o q n)).trans q,rfl⟩) Z ((B e Te.symm).trans I) (fun b o q=>(B b fun z=>by rw [z,nT] at q; cases q).trans (kb b o q)) ne od (cg.mp z1).1 z0 fun h' nt d'=>?_
 obtain ⟨k1,k2,k3,k4⟩:=nt;rw [hc] at k3;exact h h' ⟨k1,ne,k2,k3⟩ (d'.imp fun o q=>⟨q.1,q.2.1.trans J,q.2.2.trans G⟩) fun b o q n=>k4 b o ((B b (O b o q n)).trans q) n
theorem Q5k {l:List Env} {cls fv:aB} {dv:Option aA} (kb:bs.StaysIn s.heap) (ne:bs.get? e=none) (ff:s.heap.FunFrames bs l) (tr:s.heap.TracedAtW bs e cls a0 fv) (dd:∃ o',s.heap.get? e=some o'/\o'.dict=dv/\Q0z o'=some .none)
  (h:∀ h',Heap.FlyingW bs l e cls a0 h'->(∃ o',h'.get? e=some o'/\o'.dict=dv/\Q0z o'=some .none)->s.heap.UpToSlots h'->Q () { s with heap:=h' }):aI M A (setFlight (.ref e) none) Q E s:=by
 obtain ⟨oe,G,T,oT,ts,he,hc,Y,z1,Z,O,I,dT,z3⟩:=tr;obtain ⟨o',J,U,B⟩:=dd;have s3:=(cg.mp z3).1;have j:∀ b,b≠T->(s.heap.update T (br (·.setIfInBounds 3 ((none:Option aA).elim bb fun f=>ad f)))).get? b=s.heap.get? b:=fun b n=>E5 _ _ n.symm
 have nr:∀ b o,s.heap.get? b=some o->(∀ G,o.data≠.fields G)->b≠T:=fun b o q n z=>by
  rw [z,I] at q;cases q;exact n ts dT
 unfold setFlight;refine aF (aY he Y z1 ?_);rw [bJ (show (bW T != bb)=true by simp)];refine wpAny_setField I dT s3 (h _ ⟨fun b o q=>(j b fun z=>by rw [z,Z] at q; cases q).trans (kb b o q),ne,ff.of_keeps fun b o q n=>⟨o,(j b (nr b o q n)).trans q,rfl⟩,?_⟩ ⟨o',(j e O.symm).trans J,U,B⟩ fun b o q n=>⟨o.slots,(j b (nr b o q n)).trans q⟩)
 exact ⟨oe,G,T,_,_,(j e O.symm).trans he,hc,Y,z1,Z,O,F9 _ I (cx (cA dT _)),cA dT _,by simp [s3]⟩
end
end PySem
namespace L2
open PySem PySem.Spec PyProof.Rows
def CXD (P:aN) (w:aL):CXT:=fun outer H s E e s'=>∃ a cls a0 dv H' B,e=bW a/\Fly P w outer H H' s s' a cls a0 B/\(∃ o',s'.heap.get? a=some o'/\o'.dict=dv/\Q0z o'=some .none)/\E cls dv H'
theorem K3 {P:aN} {w:aL} {X:Cx}:jg (CXD P w) X E0:=fun _ _ _ _ _ _ _ h=>by
 obtain ⟨_,_,_,_,_,_,_,_,_,z⟩:=h;exact z.elim
def Qbk (H:Hp) (a:aA):Hp:=fun b=>if b=a then none else H b
theorem Q6i {H:Hp} {a b:aA} (h:b≠a):Qbk H a b=H b:=by unfold Qbk; rw [bK h]
theorem Q27 {H:Hp} {a:aA}:Qbk H a a=none:=by unfold Qbk; rw [bJ rfl]
theorem Inv.drop {X:Cx} {pins:List (aA × Obj)} {σ:St} {H:Hp} {s:aC} {a:aA} {B:Heap->Prop} (I:Inv X pins σ H s) (h:H a=some (.ext B)):Inv X pins σ (Qbk H a) s:=by
 have nn:∀ b,H b=none->Qbk H a b=none:=fun b e=>by
  by_cases z:b=a
  ·subst z; exact Q27
  ·rw [Q6i z]; exact e
 have j:∀ b o,H b=some o->o≠.ext B->Qbk H a b=some o:=fun b o e n=>by
  rw [Q6i fun z=>?_]
  ·exact e
  ·subst z; rw [h] at e; exact n (bc e).symm
 refine ⟨I.ok,I.os,I.bare,?_,I.loc,I.cell,nn _ I.free,fun x c e=>nn _ (I.freeC x c e),fun p hp=>?_,fun b u q=>?_,I.len⟩
 ·have u:=I.base;exact ⟨u.keep,u.slot,fun b o e n J=>nn _ (u.free b o e n J),u.there,fun b xs e=>j _ _ (u.tups b xs e) (by simp),fun b o v e=>j _ _ (u.frzs b o v e) (by simp),fun b ps e=>by
   obtain ⟨more,q⟩:=u.tbls b ps e;exact ⟨more,j _ _ q (by simp)⟩⟩
 ·obtain ⟨e,n,ne,G,d⟩:=I.pin p hp;exact ⟨e,nn _ n,ne,G,d⟩
 ·by_cases z:b=a
  ·subst z; rw [Q27] at q; cases q
  ·rw [Q6i z] at q;exact (I.hok b u q).stay (fun _ _ _ r=>r) (fun c r=>j _ _ r (by simp)) fun c O r=>j _ _ r (by simp)
section
variable {P:aN} {w:aL} {K:bP} {mg:Str->Option aB} {base:Heap} {N:List Str} {qual:Str} {scope:Scope} {f:aA} {cd:aB} {A:aR} {outer:List Env} {s:aC} {H:Hp} {E:XK}
abbrev cxD (P:aN) (w:aL) (K:bP) (mg:Str->Option aB) (base:Heap) (N:List Str) (qual:Str) (scope:Scope) (f:aA) (cd:aB) (A:aR) (outer:List Env) (s:aC) (H:Hp) (E:XK):Cx:=Qeu (CXD P w) P w K mg base N qual scope f cd A outer s H E
theorem Qau {pins:List (aA × Obj)} {σ:St} {H1:Hp} {s1:aC} (I:Inv (cxD P w K mg base N qual scope f cd A outer s H E) pins σ H1 s1) {b:aA} {o:Obj} (e:s.heap.get? b=some o) (n:b∉frs outer):b∉frs (cxD P w K mg base N qual scope f cd A outer s H E).stack:=fun j=>by
 rcases E3.mp (I.stkSub b j) with z | z
 ·have h1:b < s.heap.objs.size:=O9 e;have h2:s.heap.objs.size<=(cxD P w K mg base N qual scope f cd A outer s H E).env.locals:=I.ok.above;rw [<- z] at h2;exact absurd (D3 h1 h2) (bo _)
 ·exact n z
theorem Qka {b:aA} (h:b∈frs outer):b∈frs (cxD P w K mg base N qual scope f cd A outer s H E).stack:=by
 show b∈frs (_ :: outer);unfold frs at h ⊢;rw [dH]
 split
 ·exact h
 ·exact D0 _ h
theorem Qrf {pins:List (aA × Obj)} {σ:St} {H1:Hp} {s1:aC} {G:Heap} {e C t:aA} {dv:Option aA} (I:Inv (cxD P w K mg base N qual scope f cd A outer s H E) pins σ H1 s1)
  (Z:∀ b o,b≠e->s1.heap.get? b=some o->G.get? b=some o) (a3:∀ o,s1.heap.get? e=some o->∃ vs,o.data=.fields vs) (new:s.heap.get? e=none) (hH:H1 e=none)
  (oe:G.get? e=some { cls:=.ref C,dict:=dv,data:=.fields #[.ref t,.none,.none,.none,.bool false,.none] }) (hE:E (.ref C) dv H1) :
  (cxD P w K mg base N qual scope f cd A outer s H E).xe (.ref e) { s1 with heap:=G }:=by
 have a4:∀ en∈(cxD P w K mg base N qual scope f cd A outer s H E).stack,∀ b,en.frame=some b->b∈e :: frs (cxD P w K mg base N qual scope f cd A outer s H E).stack:=fun en he b j=>D0 _ (dy.mpr ⟨en,he,j⟩)
 have ff:=PySem.W.funFrames_hide I.stack a4;have Y:∀ b o,s1.heap.get? b=some o->(∀ vs,o.data≠.fields vs)->b≠e:=fun b o q n z=>by
  subst z;obtain ⟨vs,d⟩:=a3 o q;exact n vs d
 have hid:(dF s1.heap (e :: frs (cxD P w K mg base N qual scope f cd A outer s H E).stack)).get? e=none:=fL _ D4;have kb:(dF s1.heap (e :: frs (cxD P w K mg base N qual scope f cd A outer s H E).stack)).StaysIn G:=fun b o q=>Z b o (fun z=>by rw [z,hid] at q; cases q) (fK _ q)
 show aI (aJ P w) _ (leaving _ (.ref e)) _ _ _;refine Qd4 (bs:=dF s1.heap (e :: frs (cxD P w K mg base N qual scope f cd A outer s H E).stack)) (a0:=.ref t) (s:={ s1 with heap:=G }) I.ok.frames (ff.of_keeps fun b o q n=>⟨o,Z b o (Y b o q n) q,rfl⟩) rfl oe kb hid rfl rfl rfl fun h2 lf dd=>?_
 obtain ⟨k1,⟨_,_,k2⟩,k3,k4⟩:=lf;have noex:∀ b:aA,b∉(cxD P w K mg base N qual scope f cd A outer s H E).ex:=fun b z=>absurd (show b∈([]:List aA) from z) (by simp)
 have B:∀ b o,s.heap.get? b=some o->b≠e:=fun b o q z=>by rw [z,new] at q; cases q
 have J:∀ b o,s.heap.get? b=some o->b∉frs outer->b∉e :: frs (cxD P w K mg base N qual scope f cd A outer s H E).stack:=fun b o q n m=>by
  rcases E3.mp m with z | z
  ·exact B b o q z
  ·exact Qau I q n z
 refine ⟨e,.ref C,.ref t,dv,H1,_,rfl,⟨I.os,I.bare,⟨k1,hid,k2,k3⟩,fun b u q=>?_,fun b o q n j=>?_,fun b o q j=>?_,fun b o q j=>?_,fun b o q n=>I.base.free b o q n (noex b),I.base.tups,I.base.frzs,I.base.tbls⟩,dd,hE⟩
 ·have ne:∀ c v,H1 c=some v->c∉e :: frs (cxD P w K mg base N qual scope f cd A outer s H E).stack:=fun c v z m=>by
   rcases E3.mp m with m | m
   ·rw [m,hH] at z; cases z
   ·rw [I.stkFree c m] at z; cases z
  refine (I.hok b u q).stay (fun c v U r=>dG _ r ?_) (fun _ r=>r) fun _ _ r=>r
  rcases U with rfl | U
  ·exact ne c u q
  ·exact ne c _ U
 ·exact dG _ (I.base.keep b o q n j (noex b)) (J b o q j)
 ·obtain ⟨o',z⟩:=I.base.there b o q (noex b);exact ⟨o',dG _ z (J b o q j)⟩
 ·obtain ⟨sl,z⟩:=I.base.slot b o q (I.ok.frf b j) j (noex b);obtain ⟨_,o',a5,a6⟩:=I.ok.funs.mem j;have O:s.heap.get? b=some o':=a5;rw [q] at O;cases O;obtain ⟨a2,z'⟩:=k4 b _ (Z b _ (B b o q) z) a6;exact ⟨a2,z'⟩
theorem Qc:jg (CXD P w) (cxD P w K mg base N qual scope f cd A outer s H E) E:=by
 intro pins σ H1 s1 e s' I h;obtain ⟨a,cls,a0,dv,H',B,rfl,F,dd,hE⟩:=h;show aI (aJ P w) _ (leaving _ (.ref a)) _ _ _;have noex:∀ b:aA,b∉(cxD P w K mg base N qual scope f cd A outer s H E).ex:=fun b z=>absurd (show b∈([]:List aA) from z) (by simp)
 refine Qd3 I.ok.frames rfl F.fl dd fun h2 x1 d2 x2=>?_
 refine ⟨a,cls,a0,dv,H',B,rfl,⟨F.os.trans I.os,F.bare,x1,F.hokB,fun b o q n j=>?_,fun b o q j=>?_,fun b o q j=>?_,fun b o q n=>?_,fun b xs q=>F.tups b xs (I.base.tups b xs q),fun b o u q=>F.frzs b o u (I.base.frzs b o u q),fun b ps q=>?_⟩,d2,hE⟩
 ·exact F.keep b o (I.base.keep b o q n j (noex b)) (I.base.free b o q n (noex b)) (Qau I q j)
 ·obtain ⟨o',z⟩:=I.base.there b o q (noex b);exact F.there b o' z (Qau I q j)
 ·obtain ⟨sl,z⟩:=I.base.slot b o q (I.ok.frf b j) j (noex b);obtain ⟨_,o',J,U⟩:=I.ok.funs.mem j;have G:s.heap.get? b=some o':=J;rw [q] at G;cases G;obtain ⟨Y,Z⟩:=F.slot b _ z (Qka j);obtain ⟨O,z2⟩:=x2 b _ Z U;exact ⟨O,z2⟩
 ·obtain ⟨o',z⟩:=I.base.there b o q (noex b);exact F.free b o' z (I.base.free b o q n (noex b))
 ·obtain ⟨m1,e1⟩:=I.base.tbls b ps q;obtain ⟨m2,e2⟩:=F.tbls b _ e1;exact ⟨m1 ++ m2,by rw [e2,fM]⟩
end
section
variable {X:Cx}
def Q8q (X:Cx) (E:XK):Prop:=∀ (pins:List (aA × Obj)) (σ:St) (H0 H1:Hp) (s0 s1:aC) (hx:Heap) (e C t:aA) (dv:Option aA),Inv X pins σ H0 s0->s0.heap.get? e=none->Inv X pins σ H1 s1->(∀ b o,b≠e->s1.heap.get? b=some o->hx.get? b=some o) ->
 (∀ o,s1.heap.get? e=some o->∃ vs,o.data=.fields vs)->H1 e=none->hx.get? e=some { cls:=.ref C,dict:=dv,data:=.fields #[.ref t,.none,.none,.none,.bool false,.none] }->E (.ref C) dv H1->X.xe (.ref e) { s1 with heap:=hx }
theorem Qgj {x:Str} {C:aA} {e:aD} {t:TA} {E:XK} {np cpos pos:Pos} (j:X.calm=true) (RO:Q8q X E) (hg:Gl X x) (Z:X.mg x=some (.ref C)) (q:ba X.K C Xn "ValueError.__new__" = true) (ha:PA X [e] t)
  (O:(x == ("__debug__" : Str))=false:=by decide) (Y:aO [e] X.env=[(false,aK e X.env)]:=by rfl):PS X (.Raise (some (.Call (.Name x np) [e] [] cpos)) none pos) (Qr6 C E t):=by
 intro pins s σ H D I h;obtain ⟨tl,N,nm,qn,bs,hdct,sn,sub,ab,col,dd,k0,k1,k2,k3,k5,mN,hC,hN,U,T⟩:=(Qfd I.mod.kin Z q).obj;refine wpAny_Raise_call_subU (C:=C) (nm:=nm) (q:=qn) (N:=N) (bs:=bs) (bm:=tl) (hdct:=hdct) (sn:=sn) (sub:=sub) (ab:=ab) (col:=col) (dd:=dd) (k0:=k0) (k1:=k1) (k2:=k2) (k3:=k3) (k5:=k5)
  cz (by decide +kernel) cz (mN:=mN) (T.hasType (by decide +kernel)) (I.ok.hd j) (by rw [Y]; rfl) U (jw I hg Z ⟨rfl,?_⟩ O)
 have J:=ha cpos pins s σ H _ I h;rw [Y] at J ⊢;refine Calls.evalArgs_plain (ac J (fun us s1 ⟨vs,H1,B,r,z,hE⟩=>?_) fun _ _ y=>y)
 refine ⟨rfl,by rw [<- r.length]; exact z,B.bk _ _ hC,hN.keeps B.bk,T.keeps B.bk,fun h' e' G=>?_⟩;obtain ⟨t,oe,_,_⟩:=G.there;exact RO pins σ H1 H1 s1 s1 h' e' C t none B G.new B (fun b o _ k=>G.keeps b o k) (fun o k=>by rw [G.new] at k; cases k) (B.hok.none_of G.new) oe hE
def Q6v (C:aA) (name:Str):Sp:=fun vs H Q _=>∃ (x:aA) (v:V),vs=[.ref x,v]/\H x=some (.ext (XO x C none))/\∀ dx,H dx=none->dx≠x->Q .non (upd (upd H x (.ext (XO x C (some dx)))) dx (.xd [(name,v)]))
def Qmh (C:aA) (name:Str) (E:XK) (t:TA):TS:=fun _ σ H=>t σ H fun vs H1=>∃ v,vs=[v]/\∀ dx,H1 dx=none->E (.ref C) (some dx) (upd H1 dx (.xd [(name,v)]))
theorem Qgi {x name:Str} {C W f:aA} {fd:aP} {k:Nat} {ps:List Str} {e:aD} {t:TA} {E:XK} {np cpos pos:Pos} (U:X.calm=true) (RO:Q8q X E) (M:XMade X.K C W f) (G:FnOk X.prog X.w X.K X.mg X.base CX0 k f fd ps (Q6v C name)) (hr:Room (k + 1) X.A)
  (hb:Binds X.K fd ps []) (hg:Gl X x) (hm:X.mg x=some (.ref C)) (ha:PA X [e] t)
  (a2:(x == ("__debug__" : Str))=false:=by decide) (he:aO [e] X.env=[(false,aK e X.env)]:=by rfl):PS X (.Raise (some (.Call (.Name x np) [e] [] cpos)) none pos) (Qmh C name E t):=by
 intro pins s σ H D I h;obtain ⟨nm,q,N,bs,sn,sub,ab,col,dd,k0,k1,k2,k3,k5,lk⟩:=M.lk;obtain ⟨of,lf,cf⟩:=M.ff;have oC:∀ {H':Hp} {s':aC},Inv X pins σ H' s'->s'.heap.get? C=some (excClassObj nm q C N bs (.ref W :: Xn) true sn sub ab col dd k0 k1 k2 k3 k5 "ValueError.__new__"):=fun J=>J.kIn _ _ lk
 rw [arm_exec_Raise];refine aF (wpAny_standAt (Q96 (kC:=C) (cn:=nm) (cq:=q) (kN:=N) (bas:=bs) (tl:=.ref W :: Xn) (hd:=true) (sns:=sn) (subs:=sub) (abb:=ab) (coll:=col) (dic:=dd) (j0:=k0) (j1:=k1) (j2:=k2) (j3:=k3) (j5:=k5) (newI := "ValueError.__new__") (by simp) (I.ok.hd U) ?_));refine aF (ac (wpAny_Call_Name_kw (jw I hg hm (cw (h₀:=X.base) (Q:=fun v s1=>∃ e t dv,v=.ref e/\s1.heap.get? C=some (excClassObj nm q C N bs (.ref W :: Xn) true sn sub ab col dd k0 k1 k2 k3 k5 "ValueError.__new__")/\s1.heap.get? e=some { cls:=.ref C,dict:=dv,data:=.fields #[.ref t,.none,.none,.none,.bool false,.none] }/\X.xe (.ref e) s1) I.ok.mod.kin M.kp (thn (ha cpos pins s σ H _ I h) fun us s1 ⟨vs,H1,O,r,v,ev,hE⟩=>⟨O.kIn,?_⟩) (by rw [he]; rfl) rfl) a2)) (fun v s3 z=>aF (wpAny_standAt (aS z))) fun _ _ z=>z)
 subst ev;obtain ⟨u,rfl,ru⟩:=r.one;obtain ⟨hp,gs,dr,tk,sy⟩:=s1;refine Qew (rest:=[u]) cz (by decide +kernel) cz (M.tail O.kIn) (oC O) O.kIn M.fi (O.kIn _ _ lf) cf (fun h' kp oe=>?_) (show 1<=sizeLine by decide);obtain ⟨a,ea⟩:∃ a,hp.objs.size + 1=a:=⟨_,rfl⟩;rw [ea] at oe ⊢;have la:hp.objs.size<=a:=by rw [<- ea]; exact cN _
 have na:H1 a=none:=O.hok.fresh la;have ga:hp.get? a=none:=Heap.get?_none_of_le la;have I2:Inv X pins σ (upd H1 a (.ext (XO a C none))) ⟨h',gs,dr,tk,sy⟩:=O.laid (t':=tk) (h':=h') kp la (Qi8 ⟨_,oe⟩);have sp:Q6v C name [.ref a,v] (upd H1 a (.ext (XO a C none))) (fun v' H'=>v'=.non/\∃ dx,H1 dx=none/\dx≠a/\H'=upd (upd (upd H1 a (.ext (XO a C none))) a (.ext (XO a C (some dx)))) dx (.xd [(name,v)])) E0:=
  ⟨a,v,rfl,Jb,fun dx hn B=>⟨rfl,dx,by rwa [Qh B] at hn,B,rfl⟩⟩
 have r2:Vals [V.ref a,v] [bW a,u]:=.cons rfl (.cons ru .nil);have hl:([bW a,u] ++ []).length=ps.length:=by
  have:=G.len _ _ _ _ sp;simpa using this
 refine wpAny_call (bD (G.run _ X.stack _ _ ⟨[bW a,u],[]⟩ [bW a,u] _ _ E0 (hr.make C [u] []) (I2.env0.make C [u] []) (hb _ [bW a,u] I2.kIn hl) r2 sp) fun r s' z=>?_)
 cases r with
 | error e=>exact False.elim z
 | ok fl=>
  cases fl with
  | ret u'=>
   obtain ⟨v',H',I3,rv,ev,dx,hn,B,eH⟩:=I2.after z;subst ev;obtain rfl:u'=bb:=rv;have Y:H' a=some (.ext (XO a C (some dx))):=by rw [eH,Qh (Ne.symm B),Jb]
   obtain ⟨t2,o2⟩:=(I3.hok a _ Y).1;have eD:Qbk H' a=upd H1 dx (.xd [(name,v)]):=by
    funext b
    j Z:b=a
    ·rw [Z,Q27,Qh (Ne.symm B),na]
    ·rw [Q6i Z,eH]
     j zd:b=dx
     ·rw [zd,Jb,Jb]
     ·rw [Qh zd,Qh zd,Qh Z,Qh Z]
   refine ⟨rfl,a,t2,some dx,rfl,oC I3,o2,?_⟩;have:=RO pins σ H1 (Qbk H' a) _ s' s'.heap a C t2 (some dx) O ga (I3.drop Y) (fun b o _ k=>k) (fun o k=>by rw [o2] at k; cases k; exact ⟨_,rfl⟩) Q27 o2 (by rw [eD]; exact hE dx hn);exact this
  | next=>exact False.elim z
  | brk=>exact False.elim z
  | cont=>exact False.elim z
end
theorem Vk {P:aN} {w:aL} {K:bP} {mg:Str->Option aB} {base:Heap} {N:List Str} {qual:Str} {scope:Scope} {f:aA} {cd:aB} {A:aR} {outer:List Env} {s:aC} {H:Hp} {E:XK} :
  Q8q (cxD P w K mg base N qual scope f cd A outer s H E) E:=fun pins σ H0 H1 s0 s1 hx e C t Z G O I U j Y J B=>by
 refine Qrf I U j ?_ Y J B;cases q:s.heap.get? e with
 | none=>rfl
 | some o=>
  obtain ⟨o',z⟩:=G.base.there e o q (fun z=>absurd (show e∈([]:List aA) from z) (by simp))
  rw [O] at z; cases z
theorem Fun.okD {P:aN} {w:aL} {K:bP} {mg:Str->Option aB} {base:Heap} {x qual:Str} {st:aM} {f:aA} {fd:aP} {N ps:List Str} {k:Nat} {sp:Sp} (F:Fun K x qual st f fd) (S:FnScope N ps (Q6 st)) (len:∀ vs H Q E,sp vs H Q E->vs.length=ps.length)
  (q:∀ (j:aB) (A:aR) (outer:List Env) (s:aC) (H:Hp) (vs:List V) (Q:VK) (E:XK),Room k (A.deeper (envOfC qual (Q6 st) s.heap.objs.size f j))->sp vs H Q E ->
   ∃ t,PSs (cxD P w K mg base N qual (Q6 st) f j A outer s H E) (Qn st) t/\t { nx:=fun _ H'=>Q .non H',rt:=Q } (start N vs) H):FnOk P w K mg base (CXD P w) (k + 1) f fd ps sp:=by
 obtain ⟨Y,O,kV,G,U,an,j,ct,J,rfl,lk,B⟩:=F.ex;exact Qqs lk B S len fun A outer s H vs Q E I z=>q j A outer s H vs Q E I z
end L2
namespace L2
open PySem PySem.Spec PyProof.Rows PySem.W PySem.Builtin.Getset_descriptor
def IsXD (x C:aA) (dv:Option aA) (h:Heap):Prop:=∃ ox vs,h.get? x=some ox/\ox.cls=.ref C/\ox.dict=dv/\ox.data=.fields vs/\vs[2]?=some .none
theorem IsXD.x {x C:aA} {q:Option aA} {h:Heap} (I:IsXD x C q h):IsX x C h:=let ⟨j,_,a,b,_⟩:=I; ⟨j,a,b⟩
theorem Qpw {P:aN} {w:aL} {H:Hp} {h:Heap} {a C:aA} {j:Option aA} (I:IsXD a C j h):ObjOk P w H h a (.ext (IsXD a C j)):=
 ⟨I,(let ⟨o,_,e,_⟩:=I; ⟨o,e⟩),fun h1 h2 ⟨o,vs,e,c⟩ k=>⟨o,vs,k o e,c⟩⟩
structure XGet (K:Frag) (C:aA) (name:Str):Prop where
 xc:XCls K C
 hd:∃ cd,clsIn K C=some cd/\cd.hasDict=true
 no:findIn K (.ref C) name=some none
section
variable {prog:aN} {w:aL} {A:aR} {E:aB->aC->Prop} {h:Heap} {g:Array GenState} {d:Drawn} {t:Nat} {os:OsState} {K:Frag} {x C dx:aA} {name:Str} {v:aB} {m:Str->Option aB}
theorem Qmb {M:Model} (X:K.In h) (F:XGet K C name) (I:IsXD x C (some dx) h) (n:h.Ns1 dx m) (O:m name=some v):Looks M h (Builtin.ObjectAttr.find (.ref x) (.ref C) name) (.value v):=by
 obtain ⟨G,vs,e1,e2,e3,U,_⟩:=I;obtain ⟨j,ho,q⟩:=Qa9 n;obtain ⟨cd,B,hd⟩:=F.hd;have J:InstAt h x G C (some j):=⟨e1,e2,by unfold notCls; rw [U],by rw [e3]; exact ho⟩;have Z:=looks_findIn (M:=M) X F.no;have z:Looks M h (Builtin.ObjectAttr.getOf none) none:=.now;have Y:Looks M h (Builtin.ObjectAttr.dataDescriptor? none none) none:=.now;have L4:Looks M h (Builtin.ObjectAttr.inOwnDict name (.ref x)) (some v):=looks_own X J B (by unfold PySem.W.ownOf; rw [hd,bJ rfl]; show lookIn name j=_; rw [q,O]);exact Z.andThen (z.andThen (Y.andThen (L4.andThen (Looks.tag .now))))
theorem Qi9 {tk:Tok} {Q:Fin->aC->Prop} (X:K.In h) (F:XGet K C name) (I:IsXD x C (some dx) h) (n:h.Ns1 dx m) (q:m name=some v) (z:Q (.done (.ret v)) ⟨h,g,d,t,os⟩) :
  aI (aJ prog w) A (Builtin.«object.__getattribute__» ⟨[.ref x,.str name tk],[]⟩) Q E ⟨h,g,d,t,os⟩:=by
 have j:=I.x.type (M:=aJ prog w);have B:=Qmb (M:=aJ prog w) X F I n q;unfold Builtin.«object.__getattribute__»;refine aF (aS ?_);refine aF (aS ?_);refine aF (j.at (aF (B.at ?_)));exact aS z
theorem Qmc {tk:Tok} {R:Result->aC->Prop} (X:K.In h) (F:XGet K C name) (I:IsXD x C (some dx) h) (n:h.Ns1 dx m) (q:m name=some v) (j:R (.ok (.ret v)) ⟨h,g,d,t,os⟩) :
  codeAny (aJ prog w) A (.call (.builtin "BaseException.__getattribute__") ⟨[.ref x,.str name tk],[]⟩) R ⟨h,g,d,t,os⟩:=
 codeAny_call_builtin PySem.F.attr_ValueError.ga.plain PySem.F.entry_bexc_ga (Qia X F.xc I.x (Qi9 X F I n q j))
theorem Qmd {j:Bool} {Q:aB->aC->Prop} (X:K.In h) (F:XGet K C name) (I:IsXD x C (some dx) h) (n:h.Ns1 dx m) (O:m name=some v) (Y:handedIn v=true) (U:Q v ⟨h,g,d,t + 1,os⟩):aI (aJ prog w) A (getAttr (.ref x) name j) Q E ⟨h,g,d,t,os⟩:=by
 have J:=I.x.type (M:=aJ prog w);have Z:=looks_findIn (M:=aJ prog w) X F.xc.ga;have B:=looks_findIn (M:=aJ prog w) X F.xc.gt;have q:(cj "BaseException.__getattribute__" == cj "object.__getattribute__")=false:=by decide +kernel
 have G:(onTheHeap (bW C) && cj "BaseException.__getattribute__" == cj "object.__getattribute__")=false:=by rw [q]; rfl
 have z:(j && onTheHeap (cj "BaseException.__getattribute__"))=false:=by rw [show onTheHeap (cj "BaseException.__getattribute__")=false from rfl,dP]
 have f3:=PySem.F.attr_ValueError.ga.bind (.ref x);have ho:=handedOut_of Y;unfold getAttr getAttrBy;refine aF (wpAny_mkText (av (aF (J.at (aF (Z.at ?_))))))
 repeat (any_goals (first | assumption | with_reducible refine B.at ?_ | wp_step))
 refine Qmc X F I n O ?_;dsimp only;rw [ho];exact aS U
end
section
variable {X:Cx}
def tXF (K:Frag) (name:Str) (ta:TE):TE:=fun σ H Q=>ta σ H fun v H1=>∃ (a C dx:aA) (i:Int) (fs:List (Str × V)),v=.ref a/\H1 a=some (.ext (IsXD a C (some dx)))/\H1 dx=some (.xd fs)/\fs.lookup name=some (.int i)/\XGet K C name/\Q (.int i) H1
theorem Qni {e:aD} {name:Str} {ta:TE} {pos:Pos} (K:Frag) (Y:PE X e ta) (O:ag e name X.env (aK e X.env)=aK e X.env:=by rfl) (hK:X.K=K:=by rfl):PE X (.Attribute e name pos) (tXF K name ta):=by
 subst hK;intro pins s σ H Q I h;refine Qg1 O (thn (Y pins s σ H _ I h) fun u s1 ⟨v,H1,z,rx,a,C,dx,i,fs,ev,U,hd,J,G,q⟩=>?_)
 subst ev;obtain rfl:u=bW a:=rx;obtain ⟨mA,n,r⟩:=z.hok dx _ hd;have j:=r name;rw [J] at j;cases B:mA name with
 | none=>rw [B] at j; exact False.elim j
 | some y=>
  rw [B] at j;obtain ⟨tk,rfl⟩:∃ tk,y=.int i tk:=j;obtain ⟨hp,gs,dr,Z,sy⟩:=s1;exact Qmd z.kIn G (z.hok a _ U).1 n B rfl ⟨.int i,H1,z.tok _,⟨_,rfl⟩,q⟩
end
section
variable {X:Cx} {pins:List (aA × Obj)} {σ:St} {H H':Hp} {s s':aC} {a C:aA}
end
end L2
namespace L2
open PySem PySem.Spec PyProof.Rows
section
variable {X:Cx}
theorem Qq3 {CX:CXT} {f:aA} {fd:aP} {k:Nat} {ps:List Str} {sp:Sp} {g:Str} {p cpos:Pos} {e:aD} {es:List aD} {ta:TA} {pins:List (aA × Obj)} {σ:St} {H:Hp} {s:aC} {E1:aB->aC->Prop} {Z:VK} {U:XK}
  (F:FnOk X.prog X.w X.K X.mg X.base CX k f fd ps sp) (hr:Room k X.A) (hm:X.mg g=some (.ref f)) (O:bS X.K (.ref f)=true) (hb:Binds X.K fd ps []) (ha:PA X.nox (e :: es) ta) (hg:Gl X g)
  (I:Inv X pins σ H s) (h:ta σ H fun vs H1=>sp vs H1 Z U) (hE:∀ H1 s1 v s',Inv X pins σ H1 s1->CX X.stack H1 s1 U v s'->E1 v s')
  (J:(g == ("__debug__" : Str))=false) (he:aO (e :: es) X.env=(false,aK e X.env) :: aO es X.env) (Y:(aU cpos (aO es X.env)).any (·.1)=false) :
  aI (aJ X.prog X.w) X.A (aK (.Call (.Name g p) (e :: es) [] cpos) X.env) (EP X pins σ Z) E1 s:=by
 refine wpAny_Call_Name_kw (jw I hg hm ?_ J);refine cw (h₀:=X.base) I.ok.mod.kin O (ac (ha cpos pins s σ H _ (I.wish _) h) (fun us s1 ⟨vs,H1,I1,r,q⟩=>⟨I1.unwish.kIn,?_⟩) fun _ _ z=>z.elim) he Y
 have j:=I1.unwish;have hl:us.length=ps.length:=by rw [<- r.length]; exact F.len _ _ _ _ q
 have B:=hb s1 us j.kIn (by rw [bq]; exact hl);rw [bq] at B;refine wpAny_call (bD (F.run X.A X.stack s1 H1 ⟨us,[]⟩ us vs Z U hr j.env0 B r q) fun rr s' G=>?_)
 cases rr with
 | error v=>exact hE H1 s1 v s' j G
 | ok fl=>
  cases fl with
  | ret u=>exact j.after G
  | next=>exact False.elim G
  | brk=>exact False.elim G
  | cont=>exact False.elim G
end
section
variable {X:Cx}
end
end L2
namespace L2
open PySem PySem.Spec PyProof.Rows PySem.W PySem.Builtin.Getset_descriptor
section
variable {X:Cx} {pins:List (aA × Obj)} {σ:St} {H H':Hp} {s s':aC} {a C:aA}
theorem Qpr {cn n:Str} {i:Nat} {CC:aA} {a0:aB} {B:Heap} {dv:Option aA} {np b2:Pos} {Z:aM} {suite:List aM} {ts:TS} {D:Ends} (hN:X.N.Nodup) (hi:X.N[i]?=some n) (hk:X.env.scope.names.lookup n=some .local) (c4:∀ b,b∉X.ex)
  (b5:X.stack=X.env :: X.outer) (b8:X.env.frame=some X.env.locals) (hg:Gl X cn) (hm:X.mg cn=some (.ref CC)) (hx:exmOne X.K (.ref C) (.ref CC)=some true) (I:Inv X pins σ H s) (F:Fly X.prog X.w X.stack H H' s s' a (.ref C) a0 B) (dd:∃ o',s'.heap.get? a=some o'/\o'.dict=dv/\Q0z o'=some .none)
  (O:PSs (xy X a) (Z :: suite) ts) (q:ts { nx:=fun c3 H2=>D.nx (c3.set i none) H2,rt:=D.rt } (σ.set i (some (.ref a))) (upd H' a (.ext (IsXD a C dv)))) (c0:(cn == ("__debug__" : Str))=false:=by decide) :
  aI (aJ X.prog X.w) X.A (noteFrame (.ref a) X.env) (fun _ a9=>aI (aJ X.prog X.w) X.A (setFlight (.ref a) none) (fun _ a7=>aI (aJ X.prog X.w) X.A (handleBy (.ref a) X.env [.ExceptHandler (some (.Name cn np)) (some n) (Z :: suite) b2]) (SP X pins D) X.xe a7) X.xe a9) X.xe s':=by
 have a2:(X.env.scope.kind == .class || (X.env.scope.kind == .module && X.env.locals != X.env.globals))=false:=by rw [I.ok.kind]; rfl
 have b6:=F.fl;rw [b5] at b6;refine Qh6 (by rw [<- b5]; exact I.ok.frames) b8 b6 dd fun h4 j d4 a8=>?_
 refine Q5k (s:={ s' with heap:=h4 }) j.1 j.2.1 j.2.2.1 j.2.2.2 d4 fun h5 G d5 b3=>?_
 obtain ⟨n1,n2⟩:=F.new;have I5:Inv X pins σ H' { s' with heap:=h5 }:=F.inv I G.1 (a8.trans b3);obtain ⟨ob,c6,b0⟩:=G.there;have LT:Looks (aJ X.prog X.w) h5 (typeOf (.ref a)) (.ref C):=IsX.type ⟨ob,c6,b0⟩;refine wpAny_handleBy_cons (codeAny_handlers_test (jw (X:=xy X a) (I5.suite a) hg hm ?_ c0)) (by intro z; cases z);refine (exm_one (h:=h5) I5.kIn LT hx).at ?_;refine codeAny_handlers_suite_as ?_;refine Q5k (s:={ s' with heap:=h5 }) G.1 G.2.1 G.2.2.1 G.2.2.2.at d5 fun h6 b1 d6 b9=>?_
 have I6:Inv X pins σ H' { s' with heap:=h6 }:=F.inv I b1.1 ((a8.trans b3).trans b9);obtain ⟨c1,c5,U,a3,Y,_⟩:=b1.first;obtain ⟨o',b4,b7,a5⟩:=d6;rw [U] at b4;cases b4;have I7:Inv X pins σ (upd H' a (.ext (IsXD a C dv))) { s' with heap:=h6 }:=Inv.track I c4 n1 I6 n2 (Qpw ⟨c1,c5,U,a3,b7,Y,by unfold Q0z at a5; rw [Y] at a5; exact a5⟩);refine Q6t (X:=xy X a) (v:=.ref a) (I7.suite a) hN hi (.inl hk) rfl (fun s8 I8=>?_) (.inr hk);refine ac (O pins s8 _ _ _ I8 q) (fun f s9 h9=>?_) fun _ _ z=>z.elim
 cases f with
 | next=>
  obtain ⟨c2,H9,I9,q9⟩:=h9;have J:=I9.unsuite I.ok;obtain ⟨m,hn,hl⟩:=id J.loc;exact wpAny_nameGoes_keeps hk hn a2 fun c7 v a6 a4=>⟨_,_,J.forget hN hi hl a6 a4,q9⟩
 | brk=>obtain ⟨_,_,_,z⟩:=h9; exact z.elim
 | cont=>obtain ⟨_,_,_,z⟩:=h9; exact z.elim
 | ret u=>
  obtain ⟨v9,c2,H9,I9,r9,q9⟩:=h9;have J:=I9.unsuite I.ok;obtain ⟨m,hn,hl⟩:=id J.loc;exact wpAny_nameGoes_keeps hk hn a2 fun c7 v a6 a4=>⟨v9,_,_,J.forget hN hi hl a6 a4,r9,q9⟩
def Qtz (sp:Sp) (ta:TA) (i:Nat) (ok:aB->aA->Prop) (ts:TS) (set:V->St->St):TS:=fun D σ H=>ta σ H fun vs H1=>sp vs H1 (fun v H2=>D.nx (set v σ) H2)
 (fun c dv H2=>∃ C,c=.ref C/\ok c C/\∀ a,H2 a=none->ts { nx:=fun σ3 H3=>D.nx (σ3.set i none) H3,rt:=D.rt } (σ.set i (some (.ref a))) (upd H2 a (.ext (IsXD a C dv))))
theorem Qj1 {f:aA} {fd:aP} {k:Nat} {ps:List Str} {sp:Sp} {g cn n:Str} {i:Nat} {CC:aA} {p cpos G np O pos:Pos} {e:aD} {es:List aD} {ta:TA} {J:aM} {suite:List aM} {ts:TS}
  (F:FnOk X.prog X.w X.K X.mg X.base (CXD X.prog X.w) k f fd ps sp) (hr:Room k X.A) (hm:X.mg g=some (.ref f)) (a3:bS X.K (.ref f)=true) (hb:Binds X.K fd ps []) (ha:PA X.nox (e :: es) ta)
  (hN:X.N.Nodup) (hi:X.N[i]?=some n) (hk:X.env.scope.names.lookup n=some .local) (j:∀ a,PSs (xy X a) (J :: suite) ts) (a8:X.mg cn=some (.ref CC))
  (hg:Gl X g:=by rfl) (Y:Gl X cn:=by rfl) (a6:∀ b,b∉X.ex:=by intro b z; exact absurd (show b∈([]:List aA) from z) (by simp)) (a7:X.stack=X.env :: X.outer:=by rfl) (a2:X.env.frame=some X.env.locals:=by rfl)
  (a4:(g == ("__debug__" : Str))=false:=by decide) (U:(cn == ("__debug__" : Str))=false:=by decide) (he:aO (e :: es) X.env=(false,aK e X.env) :: aO es X.env:=by rfl) (a5:(aU cpos (aO es X.env)).any (·.1)=false:=by rfl)
  (Z:swapsWith (.Call (.Name g p) (e :: es) [] cpos) none G.line X.env=pure false:=by rfl) :
  PS X (.Try [.Expr (.Call (.Name g p) (e :: es) [] cpos) G] [.ExceptHandler (some (.Name cn np)) (some n) (J :: suite) O] [] [] pos) (Qtz sp ta i (fun c _=>dA X.K c (.ref CC)=some true) ts (fun _ σ=>σ)):=by
 intro pins s σ H D I h;refine wpAny_Try_except (wpAny_execs_cons (wpAny_Expr_any (thn (Qq3 F hr hm a3 hb ha hg I h ?_ a4 he a5) fun v s1 ⟨x,H1,I1,r1,q1⟩=>wpAny_execs_nil (wpAny_execs_nil ⟨σ,H1,I1,q1⟩)) I.quiet Z))
 intro H1 s1 v s' I1 hx;obtain ⟨a,cls,a0,dv,H',B,rfl,Fl,dd,C,rfl,hok,q⟩:=hx;exact Qpr hN hi hk a6 a7 a2 Y a8 hok I1 Fl dd (j a) (q a Fl.new.2) U
end
end L2
namespace L2
open PySem PySem.Spec PyProof.Rows
section
variable {X:Cx}
end
end L2
namespace L2
open PySem PySem.Spec PyProof.Rows PySem.W PySem.Builtin.Getset_descriptor
section
variable {X:Cx} {pins:List (aA × Obj)} {σ:St} {H H':Hp} {s s':aC} {a C:aA}
end
section
variable {X:Cx}
end
end L2
namespace L2
open PySem PySem.Spec PyProof.Rows PySem.SeqAt
section
variable {prog:aN} {w:aL} {A:aR} {E:aB->aC->Prop} {s:aC}
end
section
variable {X:Cx}
end
end L2
namespace L2
open PySem PySem.Spec PyProof.Rows PySem.SeqAt
section
variable {X:Cx}
def Qr7 (val:Str->V) (te:TE):TE:=fun σ H Q=>te σ H fun y H1=>∃ w,y=.str w/\Q (val w) H1
theorem Qci {n:Str} {a:aA} {o:Obj} {es:Array DictEntry} {U:Nat} {val:Str->V} {e:aD} {te:TE} {p apos cpos:Pos} (hg:Gl X n) (hm:X.mg n=some (.ref a)) (lk:X.K.lookup a=some o) (ty:o.cls=.type "dict") (O:o.ExactDict) (od:o.data=.dict es U) (ks:KeysOf (J4 X.prog X.w) es) (hs:(a == af)=false)
  (hv:∀ w,RelV (val w) ((findBy (J4 X.prog X.w).is es (.inr w)).getD .none)) (he:PE X e te) (B:(n == ("__debug__" : Str))=false:=by decide)
  (base:ag (.Name n p) "get" X.env (aK (.Name n p) X.env)=aK (.Name n p) X.env:=by rfl)
  (few:((aU cpos (aO [e] X.env)).all (fun x=>!x.1) && (backToKw cpos (keywordEach [] X.env)).all (fun x=>x.1.isSome)
   && decide (([e]:List aD).length + ([]:List Keyword).length + (if ([]:List Keyword).isEmpty then 0 else 1) < 30))=true:=by rfl)
  (line:(apos.endLine == cpos.line)=true:=by rfl) (trees:aU cpos (aO [e] X.env)=[(false,aK e X.env)]:=by rfl) :
  PE X (.Call (.Attribute (.Name n p) "get" apos) [e] [] cpos) (Qr7 val te):=by
 intro pins s σ H Q I h;have j:∀ {H':Hp} {s':aC},Inv X pins σ H' s'->s'.heap.get? a=some o:=fun J=>J.kIn _ _ lk
 refine wpAny_Call_method base few line gE gF PySem.F.type_dict_get (jw I hg hm ?_ B);refine ⟨⟨o,j I,ty⟩,fun b z=>⟨o,?_,?_⟩,?_⟩
 ·cases z; exact j I
 ·exact O.2.1
 ·rw [trees];refine Calls.callWith_builtin rfl (Calls.evalArgs_plain (Calls.spliced_cons (thn (he pins s σ H _ I h) fun Y s2 ⟨y,H2,G,Z,w,ey,q⟩=>Calls.spliced_nil ?_)))
  subst ey;obtain ⟨tk,rfl⟩:∃ tk,Y=.str w tk:=Z;have mo:s2.heap.MapOf (J4 X.prog X.w) a (fun k=>findBy (J4 X.prog X.w).is es k):=⟨o,es,U,j G,O,od,ks,fun _=>rfl⟩
  refine call_meetsIn gF ⟨o,j G,ty⟩ PySem.F.entry_dict_get (PySem.F.args_dict_get_2 _ _) (meets_dict_get (J4 X.prog X.w) a (k:=.inr w) (by simp [J4,jh,bj]) hs) ⟨_,mo,⟨val w,H2,G.tok _,hv w,q⟩⟩
end
end L2
namespace L2
open PySem PySem.Spec PyProof.Rows
section
variable {X:Cx}
def Qiw (K:bP):R2:=fun x y H Q=>∃ a b ys,x=.ref a/\y=.ref b/\SqT K H a []/\SqT K H b ys/\Q (.ref b) H
theorem Qjj:OpR X (aW .Add) (Qiw X.K):=by
 intro pins s σ H x y v u Q I Z J h;obtain ⟨a,b,ys,rfl,rfl,Y,U,q⟩:=h;cases Z;cases J;obtain ⟨its,O,p1,_⟩:=I.tuple Y;obtain ⟨j,r2,p2,_⟩:=I.tuple U;have e1:its=[]:=O.nil_iff.mpr rfl;subst e1;obtain ⟨⟨cls,dd,data,sl⟩,ho,hc,n,hd⟩:=id p1;obtain ⟨⟨G,B,data2,z⟩,ho2,hc2,n2,hd2⟩:=id p2;simp only at hc hd hc2 hd2;subst hc hd hc2 hd2;exact concat_meets ⟨_,ho,rfl⟩ ⟨_,ho2,rfl⟩ noFill_tuple_add seq_tuple_add eM eN (eO _ _)
  (tuple_addW0 a b ([]:List aB).toArray j.toArray n n2 dd B sl z (by simp)) ⟨ho,ho2,⟨.ref b,H,I,rfl,q⟩⟩
abbrev Quj (K:bP):R2:=fun x y H Q=>Qqh K x y H Q\/Qiw K x y H Q
theorem Qnw:OpR X (aW .Add) (Quj X.K):=op_catT.or Qjj
end
def PTs (X:Cx) (ifs:List aD) (t:TT):Prop:=
 ∀ (pins:List (aA × Obj)) (s:aC) (σ:St) (H:Hp) (Q:Bool->Hp->Prop),Inv X pins σ H s->t σ H Q ->
  aI (aJ X.prog X.w) X.A (forIn ifs true fun c r=>if r=true then do let ok <- isTrue c X.env (aK c X.env); pure (ForInStep.yield ok) else pure (ForInStep.yield r)) (TP X pins σ Q) X.xe s
def Qu0:TT:=fun _ H Q=>Q true H
theorem Qn7 {X:Cx}:PTs X [] Qu0:=fun _ _ _ H _ I h=>wpAny_tests_nil ⟨H,I,h⟩
theorem Qn6 {X:Cx} {c:aD} {t:TT} (h:PT X c t):PTs X [c] t:=fun pins s σ H Q I q=>wpAny_tests_one (h pins s σ H Q I q)
def Qaf (J:It) (cap:List (Option Nat)) (g:TG) (tt:TT) (te:TE) (σ:St) (H1:Hp) (Q:VK):Prop:=∀ acc,H1 acc=none ->
 ∃ W:Nat->Nat->List V->St->Hp->Prop,(∃ m,W 0 m [] (Q46 cap σ) (upd H1 acc (.lst [])))/\∀ i m ys σ' H',W i m ys σ' H'->H' acc=some (.lst ys) /\
  ((J.stop i H'/\Q (.ref acc) H')\/(J.go i H'/\ys.length < sizeLine/\∀ x H2,J.yld i H' x H2->g x σ' H2 fun σ3 H3=>tt σ3 H3 fun b H4=>
    if b=true then te σ3 H4 fun y H5=>H5 acc=some (.lst ys)/\∃ m',m' < m/\W (i + 1) m' (ys ++ [y]) σ3 (upd H5 acc (.lst (ys ++ [y])))
    else ∃ m',m' < m/\W (i + 1) m' ys σ3 H4))
def Qat (cap:List (Option Nat)) (wi:TI) (g:TG) (tt:TT) (te:TE):TE:=fun σ H Q=>wi σ H fun J H1=>Qaf J cap g tt te σ H1 Q
section
variable {prog:aN} {w:aL} {A:aR} {R:Result->aC->Prop} {s:aC}
theorem Q9r {elt j iter:aD} {ifs:List aD} {scope:Scope} {pos:Pos} {it Z:aB} {env:Env} (I:Nat->aC->Prop)
  (a4:∀ n s,I n s->aI (aJ prog w) A (ay it) (fun r B=>match r with
   | none=>R (.ok .next) B
   | some v=>aI (aJ prog w) A (letOwnedTupleGo j it v) (fun _ G=>aI (aJ prog w) A (assign j env v) (fun _ U=>
     aI (aJ prog w) A (forIn ifs true fun c r=>if r=true then do let ok <- isTrue c env (aK c env); pure (ForInStep.yield ok) else pure (ForInStep.yield r)) (fun ok z=>
      if ok=true then aI (aJ prog w) A (aK elt env) (fun x J=>
       aI (aJ prog w) A (call (.builtin "list.append") [Z,x]) (fun _ O=>∃ m,m < n/\I m O) (fun _ _=>False) J) (fun _ _=>False) z
      else ∃ m,m < n/\I m z) (fun _ _=>False) U)
     (fun _ _=>False) G) (fun _ _=>False) B) (fun _ _=>False) s)
  (n:Nat) (h:I n s):codeAny (aJ prog w) A (.compLoop (.ListComp elt [⟨j,iter,ifs,0⟩] scope pos) 0 it Z env) R s:=by
 refine codeAny_loop rfl I (fun n s hI=>?_) n h;show aI _ A ((compTurn (.ListComp elt [⟨j,iter,ifs,0⟩] scope pos) 0 it Z env).onRaise (fun x=>do noteFrame x env; theTreesLotGoes x)) _ _ s;refine wpAny_noted ?_;rw [compTurn_list];refine aF (wpAny_standAt (aF (ac (a4 n s hI) (fun r B Y=>?_) fun _ _ h'=>h'.elim)))
 cases r with
 | none=>exact aS Y
 | some v=>
  refine aF (ac Y (fun _ G a2=>?_) fun _ _ h'=>h'.elim)
  refine aF (ac a2 (fun _ U a6=>aF (ac a6 (fun ok z q=>?_) fun _ _ h'=>h'.elim)) fun _ _ h'=>h'.elim)
  cases ok with
  | true=>
   rw [bJ rfl] at q;exact aF (aF (ac q (fun x J a5=>aF (ac a5 (fun _ O a3=>aS (aS ⟨rfl,a3⟩)) fun _ _ h'=>h'.elim)) fun _ _ h'=>h'.elim))
  | false=>
   rw [bK D7] at q;exact aF (aS (aS ⟨rfl,q⟩))
end
section
variable {X:Cx}
theorem Q8h {elt tg iter:aD} {ifs:List aD} {tt:TT} {pos:Pos} {N N':List Str} {sc scE:Scope} {cap:List (Option Nat)} {wi:TI} {g:TG} {te:TE} {use:Option (aB->Sem Unit)} {QQ:aB->aC->Prop} (c0:X.calm=true) (hi:PI X tg iter wi)
  (hg:∀ cl C s0 H0 ex,PG (Xp X N' sc cl C s0 H0 ex) tg g) (he:∀ cl C s0 H0 ex,PE (Xp X N' sc cl C s0 H0 ex) elt te) (e6:∀ cl C s0 H0 ex,PTs (Xp X N' sc cl C s0 H0 ex) ifs tt)
  (hN:X.N=N) (hE:X.env.scope=scE) (hc:compOkC N N' sc scE cap=true) (hs:∀ x,az iter X.env x=pure x)
  {pins:List (aA × Obj)} {s:aC} {σ:St} {H:Hp} {Q:VK} (I:Inv X pins σ H s) (h:Qat cap wi g tt te σ H Q)
  (fin:∀ c8 C H' s' m,Inv X pins σ H' s'->s'.heap.Ns C m->Q8r X pins H' C->Q (.ref c8) H'->compPost (aJ X.prog X.w) X.A X.xe use QQ (.ref c8) C (.ok .next) s') {pos':Pos} :
  aI (aJ X.prog X.w) X.A (comprehension (.ListComp elt [⟨tg,iter,ifs,0⟩] sc pos) sc X.env pos' (newList []) false (aK iter X.env) use) QQ X.xe s:=by
 have ck:=compOkC.of hc;obtain ⟨cl,f1,c1,c2⟩:=Qev (scope:=sc) (env:=X.env) fun x hx hf=>I.ok.has x.1 (by
  have:=ck.fre x hx hf;rw [<- hE] at this;exact this)
 refine wpAny_comprehension_free (use:=use) rfl hs f1 ck.kind ck.loc (thn (hi pins s σ H _ I h) fun v s1 h1=>thn h1 fun f6 s2 h2=>?_)
 obtain ⟨it,fp,tn,J,H2,e,I2,T,d3,f2,hw⟩:=h2;subst e;have b5:∀ b∈fp,b < s2.heap.objs.size:=fun b G=>by
  obtain ⟨o,e,_⟩:=T.obj _ _ d3 b G;exact O9 e
 obtain ⟨W,⟨m0,w0⟩,turn⟩:=hw s2.heap.objs.size I2.fresh;refine ao (Q8s ?_);dsimp only;have I3:Inv X pins σ (upd H2 s2.heap.objs.size (.lst [])) { s2 with heap:=s2.heap.push { cls:=.type "list",data:=.seq ([]:List aB).toArray } }:=
  I2.lnew (its:=[]) (ys:=[]) (t':=s2.toks) .nil (cM _)
 generalize d2:({ s2 with heap:=s2.heap.push { cls:=.type "list",data:=.seq ([]:List aB).toArray } }:aC)=s3 at I3;have c6:s3.heap=s2.heap.push { cls:=.type "list",data:=.seq ([]:List aB).toArray }:=by rw [<- d2]
 have c4:s3.heap.objs.size=s2.heap.objs.size + 1:=by rw [c6,F4]
 have f3:∀ b∈fp,Q8r X pins (upd H2 s2.heap.objs.size (.lst [])) b:=fun b G=>by
  obtain ⟨g0,g1⟩:=f2 b G;exact ⟨by rw [Qh (F0 (b5 b G))]; exact g0,g1⟩
 have k3:∀ b o,s2.heap.get? b=some o->s3.heap.get? b=some o:=fun b o e=>by rw [c6]; exact O0 _ e
 obtain ⟨Z,a4⟩:∃ Z,ae (s3.heap.objs.size + 1) sc.names cl=Z:=⟨_,rfl⟩;obtain ⟨O,Y⟩:∃ O,pushCells (s3.heap.push { cls:=.type "dict",data:=.dict #[] }) sc.names=O:=⟨_,rfl⟩;have k1:∀ b o,s3.heap.get? b=some o->O.get? b=some o:=fun b o e=>by rw [<- Y]; exact pushCells_keeps _ _ b o (O0 _ e)
 have e8:∀ x c,Z.lookup x=some c->cl.lookup x=some c\/s3.heap.objs.size + 1<=c:=fun x c e=>by
  rw [<- a4] at e;have:=Kf (sc.names) (s3.heap.push { cls:=.type "dict",data:=.dict #[] }) cl x c (by rw [F4]; exact e);rcases this with z | ⟨_,z,_⟩
  ·exact .inl z
  ·rw [F4] at z; exact .inr z
 have I4:Inv (Xp X N' sc Z s3.heap.objs.size s3 (upd H2 s2.heap.objs.size (.lst [])) fp) [] (Q46 cap σ) (upd H2 s2.heap.objs.size (.lst [])) { s3 with heap:=O }:=by
  rw [<- a4,<- Y];exact Qm3 I3 hN hE ck c1 c2 f3 (fun b G=>D3 (b5 b G) (by rw [c4]; exact cN _))
 have d6:tn 0 O:=T.keep _ _ _ d3 fun b G o e=>k1 b o (k3 b o e)
 generalize j:Xp X N' sc Z s3.heap.objs.size s3 (upd H2 s2.heap.objs.size (.lst [])) fp=U at I4;have b9:U.xe=fun _ _=>False:=by rw [<- j]; rfl
 have B:U.prog=X.prog:=by rw [<- j]; rfl
 have a2:U.w=X.w:=by rw [<- j]; rfl
 have d1:U.K=X.K:=by rw [<- j]; rfl
 have a5:U.A=X.A:=by rw [<- j]; rfl
 have c7:U.calm=true:=by rw [<- j]; exact c0
 have a7:U.env=compEnvC sc Z s3.heap.objs.size X.env:=by rw [<- j]; rfl
 have b0:U.env.locals=s3.heap.objs.size:=by rw [a7]; rfl
 have e0:PG U tg g:=by rw [<- j]; exact hg _ _ _ _ _
 have d9:PE U elt te:=by rw [<- j]; exact he _ _ _ _ _
 have d4:PTs U ifs tt:=by rw [<- j]; exact e6 _ _ _ _ _
 have a8:∀ {H':Hp},(∀ b∈fp,H' b=none)->∀ b∈fp,Q8r U [] H' b:=fun {H'} hn b G=>by
  obtain ⟨_,g1,g2,g3,g4,g5⟩:=f3 b G;refine ⟨hn b G,by rw [b0,c4]; exact F0 (ce (b5 b G)),?_,?_,?_,fun p hp=>?_⟩
  ·rw [<- j];intro z;rcases E3.mp (I3.stkSub b z) with e | z
   ·exact g1 e
   ·exact g2 z
  ·left
   rw [<- j];exact G
  ·intro x c e;rw [a7] at e;rcases e8 x c e with z | z
   ·exact g4 x c (c1 x c z)
   ·exact fun q=>absurd (D3 (b5 b G) (F1 (F1 (cN _) (c4 ▸ cN _)) (q ▸ z))) (bo _)
  ·rw [<- j] at hp;cases hp
 have d0:∀ {b1:St} {H':Hp} {s':aC},Inv U [] b1 H' s'->Q (.ref s2.heap.objs.size) H'->compPost (aJ X.prog X.w) X.A X.xe use QQ (.ref s2.heap.objs.size) s3.heap.objs.size (.ok .next) s':=fun {b1 H' s'} J q=>by
  obtain ⟨mm,d5,_⟩:=J.loc;rw [b0] at d5;have c5:H' s3.heap.objs.size=none:=by have:=J.free; rw [b0] at this; exact this
  have hok:=J.hok;rw [B,a2] at hok;have u1:Un (frs X.stack) fp (upd H2 s2.heap.objs.size (.lst [])) H' s3.heap s'.heap:=by
   have:=J.base;rw [<- j] at this;exact this
  have d8:s'.os=s3.os:=by have:=J.os; rw [<- j] at this; exact this
  refine fin _ _ H' s' mm (I3.call' (s':=s') d8 u1 hok J.bare fun b G=>?_) d5 (I3.fpOk (O7 _) c5) q
  obtain ⟨_,g1,g2,g3,g4,g5⟩:=f3 b G;exact ⟨g3,g1,g4,g5⟩
 have b2:codeAny (aJ X.prog X.w) X.A (.compLoop (.ListComp elt [⟨tg,iter,ifs,0⟩] sc pos) 0 (.ref it) (.ref s2.heap.objs.size) U.env)
   (compPost (aJ X.prog X.w) X.A X.xe use QQ (.ref s2.heap.objs.size) s3.heap.objs.size) { s3 with heap:=O }:=by
  refine Q9r (fun n s'=>∃ i ys b1 H',Inv U [] b1 H' s'/\tn i s'.heap/\(∀ b∈fp,H' b=none)/\W i n ys b1 H') ?_ m0 ⟨0,[],_,_,I4,d6,fun b G=>(f3 b G).1,w0⟩
  rintro n s5 ⟨i,ys,b3,H5,I5,d7,c9,w5⟩;obtain ⟨f4,q⟩:=turn i n ys b3 H5 w5;rcases q with ⟨stop,q⟩ | ⟨go,f5,step⟩
  ·refine thn (a5 ▸ T.done U B a2 d1 c7 i [] s5 b3 H5 _ I5 (a8 c9) d7 stop) fun r s6 ⟨hr,I6⟩=>?_
   subst hr;exact d0 I6 q
  ·refine thn (a5 ▸ T.item U B a2 d1 c7 i [] s5 b3 H5 _ I5 (a8 c9) d7 go) fun r s6 ⟨u,hr,h6⟩=>?_
   subst hr;refine thn h6 fun _ s7 ⟨x,H7,I7,r7,y7,a3,f0⟩=>?_
   have e7:=I7.pinned (a8 f0) (T.obj _ _ a3);have g7:=e0 _ s7 b3 H7 x u _ e7 r7 (step x H7 y7);rw [B,a2,a5,b9] at g7;refine thn g7 fun _ s8 ⟨a6,H8,I8,q8⟩=>?_
   have t8:=d4 _ s8 a6 H8 _ I8 q8;rw [B,a2,a5,b9] at t8;refine thn t8 fun e4 e5 ⟨e9,b4,b6⟩=>?_
   cases e4 with
   | false=>
    rw [bK D7] at b6 ⊢;obtain ⟨m',b8,w9⟩:=b6;refine ⟨m',b8,i + 1,_,a6,_,b4.unpinned,T.keep _ _ _ a3 fun b G o eo=>(b4.pin (b,o) (E4 _ (E4 _ (qb G eo)))).1,fun b G=>?_,w9⟩;obtain ⟨o,eo,d⟩:=T.obj _ _ a3 b G;exact (b4.pin (b,o) (E4 _ (E4 _ (qb G eo)))).2.1
   | true=>
   rw [bJ rfl] at b6 ⊢;have g8:=d9 _ e5 a6 e9 _ b4 b6;rw [B,a2,a5,b9] at g8;refine thn g8 fun y s9 ⟨yv,H9,I9,r9,a9,m',b8,w9⟩=>?_
   obtain ⟨z,its,nn,rr,hl,e⟩:=I9.lstM a9;refine aq F.slot_list_append ⟨_,e,rfl⟩ F.entry_list_append (F.args_list_append_2 _ _) (fh _ its.toArray nn y (by rw [O3]; omega)) ⟨e,?_⟩;have c3:Inv U ([] ++ Q74 fp s7.heap) a6 (upd H9 s2.heap.objs.size (.lst (ys ++ [yv]))) { s9 with heap:=s9.heap.update s2.heap.objs.size (cb fun a=>a.push y) }:=
    I9.lset (t':=s9.toks) (its':=its ++ [y]) a9 e (by simp) (rr.append (.cons r9 .nil)) (by rw [O8,eP]; omega)
   refine ⟨m',b8,i + 1,_,a6,_,c3.unpinned,T.keep _ _ _ a3 fun b G o eo=>(c3.pin (b,o) (E4 _ (E4 _ (qb G eo)))).1,fun b G=>?_,w9⟩;obtain ⟨o,eo,d⟩:=T.obj _ _ a3 b G;exact (c3.pin (b,o) (E4 _ (E4 _ (qb G eo)))).2.1
 rw [a7] at b2;have b7:=codeAny_compStart_list (rest:=[]) (ifs:=ifs) b2 (T.self X.A 0 _ _ _ d6 b2);subst d2;rw [<- a4,<- Y] at b7;exact b7
theorem Qjd {elt tg iter:aD} {ifs:List aD} {J:TT} {pos:Pos} {N N':List Str} {sc scE:Scope} {cap:List (Option Nat)} {O:TI} {g:TG} {te:TE} (j:X.calm=true) (hi:PI X tg iter O)
  (Z:∀ cl C s0 H0 ex,PG (Xp X N' sc cl C s0 H0 ex) tg g) (he:∀ cl C s0 H0 ex,PE (Xp X N' sc cl C s0 H0 ex) elt te) (G:∀ cl C s0 H0 ex,PTs (Xp X N' sc cl C s0 H0 ex) ifs J)
  (Y:X.N=N:=by rfl) (hE:X.env.scope=scE:=by rfl) (U:compOkC N N' sc scE cap=true:=by decide +kernel) (hs:∀ x,az iter X.env x=pure x:=by intro _; rfl) :
  PE X (.ListComp elt [⟨tg,iter,ifs,0⟩] sc pos) (Qat cap O g J te):=by
 intro pins s σ H Q I h;rw [eval_ListComp];refine Q8h (use:=none) j hi Z he G Y hE U hs I h fun z C H' s' m I' hm hf q=>⟨m,hm,fun h' B=>?_⟩
 obtain ⟨f0,f1,f2,f3,f4,f5⟩:=hf;exact ⟨.ref z,H',I'.turned (t':=s'.toks) (fun b o hb e=>(B.2 b hb).trans e) f0 f1 f3 f4 f5,rfl,q⟩
theorem Qj3 {ifs:List aD} {tt:TT} {i:Nat} {x:Str} {O j:Pos} {elt tg iter:aD} {pos:Pos} {N N':List Str} {sc scE:Scope} {cap:List (Option Nat)} {wi:TI} {g:TG} {te:TE} (a3:X.N.Nodup) (a4:X.N[i]?=some x) (hx:Loc X.env.scope x) (B:X.calm=true) (hi:PI X tg iter wi)
  (hg:∀ cl C s0 H0 ex,PG (Xp X N' sc cl C s0 H0 ex) tg g) (he:∀ cl C s0 H0 ex,PE (Xp X N' sc cl C s0 H0 ex) elt te) (a2:∀ cl C s0 H0 ex,PTs (Xp X N' sc cl C s0 H0 ex) ifs tt)
  (U:swapsWith (.ListComp elt [⟨tg,iter,ifs,0⟩] sc pos) (some (.Name x O)) j.line X.env=pure true:=by rfl)
  (hN:X.N=N:=by rfl) (hE:X.env.scope=scE:=by rfl) (hc:compOkC N N' sc scE cap=true:=by decide +kernel) (hs:∀ x,az iter X.env x=pure x:=by intro _; rfl)
  (hf:X.fn x=true\/X.env.scope.names.lookup x=some .local:=by first | exact .inl rfl | exact .inr rfl | assumption) :
  PS X (.Assign [.Name x O] (.ListComp elt [⟨tg,iter,ifs,0⟩] sc pos) j) (Qr8 (Qat cap wi g tt te) (Qdb i)):=by
 intro pins s σ H D I h;rw [exec_Assign_Name_used _ _ _ _ U];refine aF (wpAny_standAt (aF ?_));show aI _ _ (do let _ <- comprehension (.ListComp elt [⟨tg,iter,ifs,0⟩] sc pos) sc X.env _ (newList []) false (aK iter X.env) (some (assign (.Name x O) X.env))) _ _ s;refine aF (ac (Q8h (use:=some (assign (.Name x O) X.env)) (QQ:=fun _ s'=>SP X pins D .next s') B hi hg he a2 hN hE hc hs I h ?_) (fun _ s' hq=>aS (aS hq)) fun _ _ e=>e)
 intro G C H' s' m I' hm Z q;obtain ⟨f0,f1,f2,f3,f4,f5⟩:=Z;show aI _ _ (assign (.Name x O) X.env (.ref G)) _ _ _;refine wpAny_assign_Name (Q9t I' a3 a4 hx (v:=.ref G) rfl (fun s2 I2 ⟨a,sb,J⟩=>⟨m,?_,fun h' Y=>?_⟩) hf)
 ·refine hm.sameBut sb fun z=>?_
  rcases J with J | J
  ·exact f1 (z.trans J)
  ·exact f4 x a J z.symm
 ·exact ⟨_,H',I2.turned (t':=s2.toks) (fun b o hb e=>(Y.2 b hb).trans e) f0 f1 f3 f4 f5,q⟩
end
section
variable {X:Cx} {e e3:aD} {te t3:TE} {pos p2:Pos}
end
section
variable {X:Cx} {a:aD} {ta:TA} {p p' pos pos':Pos}
end
section
variable {X:Cx}
end
section
variable {κ:Type} [DecidableEq κ]
def zc (kvs:List (κ × V)) (k:κ):Option V:=(kvs.find? fun kv=>decide (kv.1=k)).map (·.2)
def Q97 (kvs:List (κ × V)) (k:κ) (v:V):List (κ × V):=
 if (kvs.any fun kv=>decide (kv.1=k))=true then kvs.map (fun kv=>if kv.1=k then (kv.1,v) else kv) else kvs ++ [(k,v)]
theorem Qbx {p:κ × V} {r:List (κ × V)} {k:κ} (e:p.1=k):zc (p :: r) k=some p.2:=by simp [zc,cI,e]
theorem Qby {p:κ × V} {r:List (κ × V)} {k:κ} (e:¬ p.1=k):zc (p :: r) k=zc r k:=by simp [zc,cI,e]
theorem Qd2 (kvs:List (κ × V)) (k:κ) (v:V):(Q97 kvs k v).length<=kvs.length + 1:=by
 unfold Q97
 split
 ·rw [O2]; omega
 ·rw [O8,D8,cQ]; omega
theorem KV.val {kvs:List (κ × V)} {vs:List (κ × aB)} (r:KV kvs vs) (k:κ):RelO (zc kvs k) (bB vs k):=by
 unfold KV at r
 induction r with
 | nil=>exact True.intro
 | @cons p q ps j h t G=>
  obtain ⟨h1,h2⟩:=h
  by_cases e:p.1=k
  ·have B:q.1=k:=h1.symm.trans e;have b:bB (q :: j) k=some q.2:=by simp [bB,cI,B]
   rw [Qbx e,b]; exact h2
  ·have B:¬ q.1=k:=fun z=>e (h1.trans z)
   have b:bB (q :: j) k=bB j k:=by simp [bB,cI,B]
   rw [Qby e,b]; exact G
theorem KV.any {kvs:List (κ × V)} {vs:List (κ × aB)} (r:KV kvs vs) (k:κ):(kvs.any fun j=>decide (j.1=k))=vs.any fun j=>decide (j.1=k):=by
 unfold KV at r
 induction r with
 | nil=>rfl
 | cons h t q=>rw [dR,dR,q,h.1]
theorem KV.repl {kvs:List (κ × V)} {vs:List (κ × aB)} (r:KV kvs vs) (k:κ) {y:V} {u:aB} (B:RelV y u) :
  KV (kvs.map fun j=>if j.1=k then (j.1,y) else j) (vs.map fun j=>if j.1=k then (j.1,u) else j):=by
 unfold KV at r ⊢
 induction r with
 | nil=>exact .nil
 | @cons p q ps I h t G=>
  rw [F2,F2];refine .cons ?_ G;obtain ⟨h1,h2⟩:=h
  by_cases e:p.1=k
  ·rw [bJ e,bJ (h1.symm.trans e)]; exact ⟨h1,B⟩
  ·rw [bK e,bK (fun z=>e (h1.trans z))]; exact ⟨h1,h2⟩
theorem KV.put {kvs:List (κ × V)} {vs:List (κ × aB)} (r:KV kvs vs) (k:κ) {y:V} {u:aB} (j:RelV y u):KV (Q97 kvs k y) (stored vs k u):=by
 unfold Q97 stored;rw [r.any k]
 by_cases e:(vs.any fun q=>decide (q.1=k))=true
 ·rw [bJ e,bJ e]; exact r.repl k j
 ·rw [bK e,bK e]; exact Paired.snoc r ⟨rfl,j⟩
theorem KV.length {kvs:List (κ × V)} {vs:List (κ × aB)} (r:KV kvs vs):kvs.length=vs.length:=Paired.length r
end
theorem Qk4 {P:aN} {w:aL} {k:Key} {u:aB} (r:RelV (kV k) u):(J4 P w).is k u=true:=by
 cases k with
 | inl i=>obtain ⟨t,e⟩:=(show ∃ t,u=cX i t from r); subst e; exact Qcv P w i t
 | inr x=>obtain ⟨t,e⟩:=(show ∃ t,u=cu x t from r); subst e; exact Qcu P w x t
theorem Qaa {P:aN} {w:aL}:∀ {ks:List Key} {us:List aB},Vals (ks.map kV) us->ItemsAre (J4 P w) ks us
 | [],_,r=>by rw [ca] at r; cases r; exact .nil
 | k :: ks,_,r=>by
  rw [F2] at r;cases r with
  | cons h t=>exact .cons (Qk4 h) (Qaa t)
abbrev KT (H:Hp):List (List Key × V)->List (List Key × aA × aB)->Prop:=ar fun p q=>p.1=q.1/\H q.2.1=some (.tup (p.1.map kV))/\RelV p.2 q.2.2
theorem KT.val {H:Hp} {kvs:List (List Key × V)} {xs:List (List Key × aA × aB)} (r:KT H kvs xs) (k:List Key):RelO (zc kvs k) ((atKey xs k).map (·.2)):=by
 induction r with
 | nil=>exact True.intro
 | @cons p q ps j h t G=>
  obtain ⟨h1,_,h2⟩:=h
  by_cases e:p.1=k
  ·have B:q.1=k:=h1.symm.trans e;have b:atKey (q :: j) k=some q.2:=by simp [atKey,cI,B]
   rw [Qbx e,b]; exact h2
  ·have B:¬ q.1=k:=fun z=>e (h1.trans z)
   have b:atKey (q :: j) k=atKey j k:=by simp [atKey,cI,B]
   rw [Qby e,b]; exact G
section
variable {P:aN} {w:aL} {H:Hp} {h:Heap} {a:aA}
theorem Qqg {u:HO} (ok:HOk P w H h) (e:Rd H a u):ObjOk P w H h a u:=e.ok ok
theorem Qkg {kvs:List (Key × V)} (ok:HOk P w H h) (e:Rd H a (.dK kvs)):kvs.length<=sizeLine/\(a == af)=false/\∃ vs,KV kvs vs/\h.DictOf (J4 P w) a vs:=
 show ObjOk P w H h a (.dK kvs) from Qqg ok e
theorem Qqu {kvs:List (Key × V)} (ok:HOk P w H h) (e:H a=some (.dK kvs)):kvs.length<=sizeLine/\(a == af)=false/\∃ vs,KV kvs vs/\h.DictOf (J4 P w) a vs:=Qkg ok (.inl e)
theorem Qk2 {ks:List Key} (ok:HOk P w H h) (e:H a=some (.tup (ks.map kV))):(tupleKind (J4 P w)).is h ks a:=by
 obtain ⟨_,its,r,o,h1,h2,n,j⟩:=(show ObjOk P w H h a (.tup (ks.map kV)) from ok a _ e);exact ⟨o,its.toArray,n,h1,h2,j,by simpa using Qaa r⟩
theorem Qqt {kvs:List (List Key × V)} (ok:HOk P w H h) (e:Rd H a (.dT kvs)):kvs.length<=sizeLine/\(a == af)=false /\
  ∃ xs,KT H kvs xs/\h.DictOfH (tupleKind (J4 P w)) a xs:=by
 obtain ⟨z,y,xs,r,o,es,U,h1,h2,G,O,I⟩:=(show ObjOk P w H h a (.dT kvs) from Qqg ok e);refine ⟨z,y,xs,r,o,es,U,h1,h2,G,O,fun x j=>?_,I⟩;have all:∀ {l:List (List Key × V)} {m:List (List Key × aA × aB)},KT H l m->∀ x∈m,(tupleKind (J4 P w)).is h x.1 x.2.1:=by
  intro l m q
  induction q with
  | nil=>intro x j; exact nomatch j
  | @cons p q ps Y B t J=>
   intro x j;rcases E3.mp j with e | j
   ·subst e;exact Qk2 ok (by rw [<- B.1]; exact B.2.1)
   ·exact J x j
 exact all r x j
end
def DGet (H:Hp) (a:aA) (y:V) (r:Option V):Prop:=
 (∃ kvs k,Rd H a (.dK kvs)/\y=kV k/\r=zc kvs k)\/∃ kvs k b,Rd H a (.dT kvs)/\y=.ref b/\H b=some (.tup (k.map kV))/\r=zc kvs k
theorem DGet.k {H:Hp} {a:aA} {kvs:List (Key × V)} {k:Key} (e:H a=some (.dK kvs)):DGet H a (kV k) (zc kvs k):=.inl ⟨kvs,k,.inl e,rfl,rfl⟩
section
variable {X:Cx} {pins:List (aA × Obj)} {σ:St} {H:Hp} {s:aC} {a:aA} {y v:V} {u r:aB} {o:Option V} {A:aR} {E:aB->aC->Prop}
theorem Inv.big (I:Inv X pins σ H s):af < s.heap.objs.size:=by
 have h:aQ < s.heap.objs.size:=(I.mod.glob.keeps I.bk).lt;exact Nat.lt_trans (by decide) h
theorem Qhi {Q:aB->aC->Prop} (Z:A.units + 1 < aa) (I:Inv X pins σ H s) (g:DGet H a y (some v)) (U:RelV y u) (h:∀ B s',Inv X pins σ H s'->RelV v B->Q B s') :
  aI (aJ X.prog X.w) A (getItem (.ref a) u) Q E s:=by
 rcases g with ⟨kvs,k,e,J,l⟩ | ⟨kvs,k,b,e,J,Y,l⟩
 ·subst J;obtain ⟨z,hd,vs,q,dd⟩:=Qkg I.hok e;obtain ⟨B,G,j⟩:=RelO.some_of (v:=v) (o:=bB vs k) (by rw [l]; exact q.val k);exact wpAny_getItem_of (Qk4 U) dd.mapOf G (h B _ (I.tok _) j)
 ·subst J;cases (show u=bW b from U);obtain ⟨z,hd,xs,q,dd⟩:=Qqt I.hok e;obtain ⟨B,G,j⟩:=RelO.some_of (v:=v) (o:=(atKey xs k).map (·.2)) (by rw [l]; exact q.val k);obtain ⟨p,hp,O⟩:=Option.map_eq_some_iff.mp G;refine wpAny_getItem_heap (tupleKind_room_in1 Z) (Qk2 I.hok Y) dd hp ?_;rw [O];exact h B _ (I.tok _) j
theorem Qfx {h':Heap} {t':Nat} {ob:HO} (I:Inv X pins σ H s) (B:Mut (H a)) (hs:Heap.SameBut a s.heap h') (G:∃ q,h'.get? a=some q) (new:ObjOk X.prog X.w (upd H a ob) h' a ob) :
  Inv X pins σ (upd H a ob) { s with heap:=h',toks:=t' }:=
 I.write (x:=a) (e:=a) B (.inl rfl) (fun b q j z=>(hs.2 b j).trans z) G new
theorem Qkh {P:aN} {w:aL} {H':Hp} {h':Heap} {kvs:List (Key × V)} {vs:List (Key × aB)} (z:kvs.length<=sizeLine) (hd:(a == af)=false) (j:KV kvs vs) (dd:h'.DictOf (J4 P w) a vs) :
  ObjOk P w H' h' a (.dK kvs):=⟨z,hd,vs,j,dd⟩
end
section
variable {X:Cx} {pins:List (aA × Obj)} {σ:St} {H:Hp} {s:aC} {a:aA} {kvs:List (Key × V)} {k:Key} {u:aB} {A:aR} {E:aB->aC->Prop}
theorem Qpy {Q:aB->aC->Prop} (I:Inv X pins σ H s) (e:H a=some (.dK kvs)) (h:∀ s',Inv X pins σ (upd H a (.dK [])) s'->Q .none s'):aI (aJ X.prog X.w) A (call (.builtin "dict.clear") [.ref a]) Q E s:=by
 obtain ⟨z,hd,vs,B,dd⟩:=Qqu I.hok e;refine call_meetsIn gG dd.typeIs PySem.F.entry_dict_clear (PySem.F.args_dict_clear_1 _) (meets_dict_clear (J4 X.prog X.w) a) ⟨vs,dd,by rw [<- B.length]; exact z,fun h' j hs=>h _ ?_⟩;have G:∃ q,h'.get? a=some q:=let ⟨q,_,_,J,_⟩:=j; ⟨q,J⟩;exact Qfx (t':=s.toks) I (by rw [e]; exact True.intro) hs G (Qkh (cM _) hd .nil j)
end
def Qqa (i:aD):Prop:=∀ ov iv,subscripted i false ov iv=operate [ov,iv] (getItem ov iv)
theorem Qmm {prog:aN} {w:aL} {A:aR} {E:aB->aC->Prop} {s:aC} {env:Env} {value j:aD} {pos:Pos} {T id:String} {Q:aB->aC->Prop}
  (U:typeLookup (.type T) "__getitem__" = pure (some (.builtin id))) (hs:Qqa j)
  (h:aI (aJ prog w) A (aK value env) (fun o G=>aI (aJ prog w) A (aK j env) (fun i q=>q.TypeIs o T/\aI (aJ prog w) A (getItem o i) Q E q) E G) E s) :
  aI (aJ prog w) A (aK (.Subscript value j pos) env) Q E s:=by
 refine Subscript_ (ac h (fun o G J=>ac J (fun i q z=>?_) fun _ _ x=>x) fun _ _ x=>x)
 obtain ⟨O,z⟩:=z;unfold subscriptTail;refine aF ?_;rw [getitemInPython_of_ne O.not_modules];refine aF (wpAny_specialOf O U ?_);have fin:aI (aJ prog w) A (subscripted j false o i) (fun r B=>aI (aJ prog w) A (letTemporaryGo value o r >>= fun _=>pure r) Q E B) E q:=by
  rw [hs o i];exact wpAny_operating (ac z (fun r B I=>aF (wpAny_letTemporaryGo (aS I))) fun _ _ x=>x)
 first
  | exact aS (aF fin)
  | exact aF (aS (aF fin))
  | exact aF fin
theorem Qdd {X:Cx} {pins:List (aA × Obj)} {σ:St} {H:Hp} {s:aC} {a:aA} {y:V} {o:Option V} (I:Inv X pins σ H s) (g:DGet H a y o):s.TypeIs (.ref a) "dict" := by
 rcases g with ⟨kvs,k,e,_,_⟩ | ⟨kvs,k,b,e,_,_,_⟩
 ·obtain ⟨_,_,vs,_,dd⟩:=Qkg I.hok e;exact dd.typeIs
 ·obtain ⟨_,_,xs,_,dd⟩:=Qqt I.hok e;exact dd.typeIs
def Qu8 (td ty:TE):TE:=fun σ H Q=>td σ H fun x H1=>ty σ H1 fun y H2=>∃ a v,x=.ref a/\DGet H2 a y (some v)/\Q v H2
section
variable {X:Cx} {o i e value:aD} {pos pos' tpos:Pos} {td ty tv:TE}
theorem Qfc (U:X.A.units + 1 < aa) (J:PE X o td) (hi:PE X i ty) (hs:Qqa i):PE X (.Subscript o i pos) (Qu8 td ty):=by
 intro pins s σ H Q I h;refine Qmm PySem.F.slot_dict_getitem.lookup hs (thn (J pins s σ H _ I h) fun u s1 ⟨x,H1,O,G,q1⟩=>thn (hi pins s1 σ H1 _ O q1) fun Y s2 ⟨y,H2,q,z,a,v,ex,g,q2⟩=>?_)
 subst ex;obtain rfl:u=bW a:=G;exact ⟨Qdd q g,Qhi U q g z fun Z s3 B j=>⟨v,H2,B,j,q2⟩⟩
end
theorem Qki {P:aN} {w:aL} {H:Hp} (h:Heap) (j:af < h.objs.size):ObjOk P w H (h.push { cls:=.type "dict",data:=.dict #[] }) h.objs.size (.dK []):=
 ⟨cM _,beq_eq_false_iff_ne.mpr (Ne.symm (F0 j)),[],.nil,Heap.DictOf.new h⟩
section
variable {X:Cx} {pos:Pos}
end
def Qdv:List (TE × TE)->St->Hp->(List (V × V)->Hp->Prop)->Prop
 | [],_,H,Q=>Q [] H
 | (tk,tv) :: r,σ,H,Q=>tk σ H fun x H1=>tv σ H1 fun y H2=>Qdv r σ H2 fun ps H3=>Q ((x,y) :: ps) H3
abbrev VV:List (V × V)->List (aB × aB)->Prop:=ar fun p q=>RelV p.1 q.1/\RelV p.2 q.2
def PPs (X:Cx) (pos:Pos) (keys:List (Option aD)) (values:List aD) (trs:List (TE × TE)):Prop:=
 ∀ (pins:List (aA × Obj)) (s:aC) (σ:St) (H:Hp) (Q:List (V × V)->Hp->Prop),Inv X pins σ H s->Qdv trs σ H Q ->
  aI (aJ X.prog X.w) X.A (evalPairs (pairTrees keys values X.env pos)) (fun vs s'=>∃ ps H',Inv X pins σ H' s'/\VV ps vs/\Q ps H') X.xe s
theorem Qfa {X:Cx} {pos:Pos}:PPs X pos [] [] []:=fun pins s σ H Q I h=>pairTrees_nil_walk ⟨[],H,I,.nil,h⟩
theorem yx {X:Cx} {pos:Pos} {k v:aD} {ks:List (Option aD)} {vs:List aD} {tk tv:TE} {j:List (TE × TE)} (O:PE X k tk) (J:PE X v tv) (U:PPs X pos ks vs j) :
  PPs X pos (some k :: ks) (v :: vs) ((tk,tv) :: j):=fun pins s σ H Q I h=>
 pairTrees_cons_walk (thn (O pins s σ H _ I h) fun u s1 ⟨x,H1,I1,Y,q1⟩=>thn (J pins s1 σ H1 _ I1 q1) fun w2 s2 ⟨y,H2,Z,B,q2⟩=>
  thn (U pins s2 σ H2 _ Z q2) fun ws s3 ⟨ps,G,z,q,q3⟩=>⟨(x,y) :: ps,G,z,.cons ⟨Y,B⟩ q,q3⟩)
def Q0c (kvs more:List (Key × V)):List (Key × V):=more.foldl (fun acc kv=>Q97 acc kv.1 kv.2) kvs
theorem KV.merge:∀ {more:List (Key × V)} {j:List (Key × aB)} {kvs:List (Key × V)} {vs:List (Key × aB)},KV more j->KV kvs vs->KV (Q0c kvs more) (merged vs j):=by
 intro more j kvs vs r;unfold KV at r
 induction r generalizing kvs vs with
 | nil=>intro q; exact q
 | @cons p q ps G h t z=>
  intro B;have e:KV (Q97 kvs p.1 p.2) (stored vs q.1 q.2):=by
   have:=B.put p.1 h.2;rw [<- h.1]; exact this
  exact z e
theorem Q2q:∀ (more kvs:List (Key × V)),(Q0c kvs more).length<=kvs.length + more.length
 | [],kvs=>by show kvs.length<=kvs.length + 0; omega
 | p :: r,kvs=>by
  have h1:=Q2q r (Q97 kvs p.1 p.2);have h2:=Qd2 kvs p.1 p.2;show (Q0c (Q97 kvs p.1 p.2) r).length<=_;rw [D8]; omega
theorem Q8j {P:aN} {w:aL}:∀ {kvs:List (Key × V)} {z:List (aB × aB)},VV (kvs.map fun B=>(kV B.1,B.2)) z->∃ j,Carries (J4 P w) z j/\KV kvs j
 | [],_,r=>by rw [ca] at r; cases r; exact ⟨[],True.intro,.nil⟩
 | p :: kvs,_,r=>by
  rw [F2] at r;cases r with
  | @cons a b I bs h t=>
   obtain ⟨j,c,q⟩:=Q8j (P:=P) (w:=w) t;obtain ⟨J,G⟩:=b;exact ⟨(p.1,G) :: j,⟨Qk4 h.1,rfl,c⟩,.cons ⟨rfl,h.2⟩ q⟩
def Qu7 (trs:List (TE × TE)):TE:=fun σ H Q=>∀ p,H p=none->Qdv trs σ (upd H p (.dK [])) fun ps H2=>H2 p=some (.dK [])/\∃ kvs:List (Key × V),ps=kvs.map (fun kv=>(kV kv.1,kv.2))/\kvs.length<=15/\Q (.ref p) (upd H2 p (.dK (Q0c [] kvs)))
theorem Qfb {X:Cx} {pos:Pos} {j:List (Option aD)} {B:List aD} {J:List (TE × TE)} (h:PPs X pos j B J) (O:j.all (·.isSome)=true) (hl:j.length=B.length) (h0:j≠[])
  (U:j.length<=15):PE X (.Dict j B pos) (Qu7 J):=by
 intro pins s σ H Q I q;have hn:=I.hok.fresh (O7 s.heap.objs.size);have I1:=I.laid (a:=s.heap.objs.size) (o:=.dK []) (h':=s.heap.push { cls:=.type "dict",data:=.dict #[] }) (t':=s.toks) (fun _ _ q=>O0 _ q) (O7 _) (Qki s.heap I.big);refine wpAny_Dict_walk (knd:=J4 X.prog X.w) O hl h0 U (thn (h pins _ σ _ _ I1 (q _ hn)) fun ws s2 ⟨ps,H2,Z,Y,e,kvs,ep,lk,q2⟩=>?_)
 subst ep;obtain ⟨rs,c,rk⟩:=Q8j (P:=X.prog) (w:=X.w) Y;obtain ⟨z,hd,a2,r0,dd⟩:=Qqu Z.hok e;cases r0;refine ⟨rs,c,dd,fun h' G hs=>⟨.ref s.heap.objs.size,_,?_,rfl,q2⟩⟩
 have hz:(Q0c [] kvs).length<=sizeLine:=by
  have h1:=Q2q kvs [];rw [cQ] at h1;rw [sizeLine_eq]; omega
 have he:∃ q,h'.get? s.heap.objs.size=some q:=let ⟨q,_,_,hq,_⟩:=G; ⟨q,hq⟩;exact Qfx Z (by rw [e]; exact True.intro) hs he (Qkh hz hd (rk.merge .nil) G)
structure M1 (X:Cx) (o:aD) (m:Str) (apos:Pos) (e:aD) (cpos:Pos):Prop where
 base:ag o m X.env (aK o X.env)=aK o X.env
 few:((aU cpos (aO [e] X.env)).all (fun x=>!x.1) && (backToKw cpos (keywordEach [] X.env)).all (fun x=>x.1.isSome)
  && decide (([e]:List aD).length + ([]:List Keyword).length + (if ([]:List Keyword).isEmpty then 0 else 1) < 30))=true
 line:(apos.endLine == cpos.line)=true
 trees:aU cpos (aO [e] X.env)=[(false,aK e X.env)]
structure M2 (X:Cx) (o:aD) (m:Str) (apos:Pos) (e f:aD) (cpos:Pos):Prop where
 base:ag o m X.env (aK o X.env)=aK o X.env
 few:((aU cpos (aO [e,f] X.env)).all (fun x=>!x.1) && (backToKw cpos (keywordEach [] X.env)).all (fun x=>x.1.isSome)
  && decide (([e,f]:List aD).length + ([]:List Keyword).length + (if ([]:List Keyword).isEmpty then 0 else 1) < 30))=true
 line:(apos.endLine == cpos.line)=true
 trees:aU cpos (aO [e,f] X.env)=[(false,aK e X.env),(false,aK f X.env)]
section
variable {X:Cx} {pins:List (aA × Obj)} {σ:St} {H:Hp} {s:aC} {a:aA} {y d:V} {u r:aB} {o:Option V} {A:aR} {E:aB->aC->Prop}
end
section
variable {X:Cx} {o e f:aD} {apos cpos:Pos} {td ty tx:TE}
end
section
variable {X:Cx} {pins:List (aA × Obj)} {σ:St} {H:Hp} {s:aC} {a:aA} {kvs:List (Key × V)} {A:aR} {E:aB->aC->Prop}
end
section
variable {X:Cx} {pins:List (aA × Obj)} {σ:St} {H:Hp} {s:aC} {a:aA} {y:V} {u:aB} {A:aR} {E:aB->aC->Prop}
end
section
variable {X:Cx}
end
section
open AutoSeq1 (wpAny_loadPart')
section
variable {prog:aN} {w:aL} {A:aR} {E:aB->aC->Prop} {s:aC}
end
section
variable {prog:aN} {w:aL} {A:aR} {E:aB->aC->Prop} {s:aC}
end
section
variable {X:Cx} {a:aD} {ta:TA} {p p' pos pos':Pos}
end
end
section
variable {prog:aN} {w:aL} {A:aR} {E:aB->aC->Prop} {s:aC}
end
section
variable {X:Cx} {e e3:aD} {te t3:TE} {pos p2:Pos}
end
section
variable {prog:aN} {w:aL} {K:Type} [DecidableEq K] {knd:KeyKind prog w K} {A:aR} {R:Result->aC->Prop}
end
section
variable {X:Cx} {pins:List (aA × Obj)} {σ:St} {H:Hp} {s:aC} {a:aA} {tg:aD}
end
end L2
namespace L2
open PySem PySem.Spec PyProof.Rows PySem.W
section
variable (r:Nat->Nat)
def rk (p:Array Nat) (i:Nat):Nat:=r (p.getD i 0)
variable {r}
end
end L2
namespace L2
open PySem PySem.Spec PyProof.Rows PySem.W
section
variable {prog:aN} {w:aL} {A:aR} {E:aB->aC->Prop} {s:aC}
end
end L2
namespace L2
open PySem PySem.Spec PyProof.Rows
end L2
namespace L2
open PySem PySem.Spec PyProof.Rows PySem.W
section
variable {prog:aN} {w:aL} {A:aR} {E:aB->aC->Prop} {s:aC}
end
end L2
namespace L2
open PySem PySem.Spec PyProof.Rows
section
variable {X:Cx}
end
section
variable {prog:aN} {w:aL} {A:aR} {E:aB->aC->Prop} {s:aC}
end
end L2
namespace L2
open PySem PySem.Spec PyProof.Rows PySem.W
section
variable {prog:aN} {w:aL} {A:aR} {E:aB->aC->Prop} {s:aC}
end
section
variable {X:Cx}
end
end L2
namespace L2
open PySem PySem.Spec PyProof.Rows
section
variable {prog:aN} {w:aL} {K:Type} [DecidableEq K]
variable {knd:KeyKind prog w K} {L:Bool} {A:aR} {E:aB->aC->Prop} {s:aC} {a:aA}
end
section
variable {prog:aN} {w:aL} {A:aR} {E:aB->aC->Prop} {s:aC}
end
section
variable {prog:aN} {w:aL} {A:aR} {E:aB->aC->Prop} {s:aC}
end
section
variable {prog:aN} {w:aL} {K:Type} [DecidableEq K] {knd:KeyKind prog w K} {A:aR} {R:Result->aC->Prop}
end
section
variable {prog:aN} {w:aL} {A:aR} {E:aB->aC->Prop} {s:aC}
end
section
variable {prog:aN} {w:aL} {A:aR} {E:aB->aC->Prop} {s:aC}
end
section
variable {prog:aN} {w:aL} {A:aR} {E:aB->aC->Prop} {s:aC}
end
def Qxz (a:Int):List Int->List Int
 | []=>[a]
 | b :: r=>if a<=b then a :: b :: r else b :: Qxz a r
section
variable {X:Cx}
end
end L2
namespace L2
open PySem PySem.Spec PyProof.Rows SeqAt
section
variable {prog:aN} {w:aL} {K:Type} [DecidableEq K] {knd:KeyKind prog w K} {A:aR} {E:aB->aC->Prop} {s:aC}
end
section
variable {prog:aN} {w:aL} {K:Type} [DecidableEq K] {knd:KeyKind prog w K} {A:aR} {E:aB->aC->Prop} {s:aC}
end
section
variable {X:Cx}
theorem Qgz:MtM X "dict.clear" (fun x xs H Q=>∃ a kvs,x=.ref a/\xs=[]/\H a=some (.dK kvs)/\Q .non (upd H a (.dK []))):=by
 intro pins s σ H x xs v us Q I B z h;obtain ⟨a,kvs,rfl,rfl,e,q⟩:=h;cases B;have j:=z.zero;subst j;exact Qpy I e fun s' G=>⟨.non,_,G,rfl,q⟩
end
end L2
namespace L2
open PySem PySem.Spec PyProof.Rows SeqAt
section
variable {X:Cx}
end
end L2
namespace Sm
open PySem PySem.Spec L2
section
inductive PV where
 | non | bl (b:Bool) | int (i:Int) | str (x:Str) | tup (xs:List PV) | lst (xs:List PV) | fro (xs:List PV) | ref (i:Nat) | dic
inductive Cell where
 | lst (xs:List PV) | dic (kvs:List (Key × PV)) | dtp (kvs:List (List Key × PV)) | frd (kvs:List (Key × PV))
 | obj (C:aA) (fs:List (Str × PV))
abbrev Q2:=List Cell
structure Exc where
 cls:Str
 fs:Option (Str × PV):=none
inductive Res (α:Type) where
 | ok (a:α) (st:Q2) | exc (x:Exc) (st:Q2) | stuck
abbrev Gam:=List (Option PV)
abbrev ME:=Gam->Q2->Res PV
structure Tk where
 tr:List aA
 hid:List aA
instance:Membership aA Tk:=⟨fun t a=>a∈t.tr\/a∈t.hid⟩
def Tk.nil:Tk:=⟨[],[]⟩
theorem Tk.not_nil (a:aA):a∉Tk.nil:=fun z=>by rcases z with z | z <;> cases z
def Tk.add (t:Tk) (p:aA):Tk:=⟨t.tr ++ [p],t.hid⟩
def Tk.hide (t:Tk) (p:aA):Tk:=⟨t.tr,p :: t.hid⟩
mutual
def Rep (H:Hp) (ρ:Tk):PV->V->Prop
 | .non,v=>v=.non
 | .bl b,v=>v=.bl b
 | .int i,v=>v=.int i
 | .str x,v=>v=.str x
 | .tup ps,v=>∃ a vs,v=.ref a/\H a=some (.tup vs)/\a∉ρ/\RepL H ρ ps vs
 | .lst ps,v=>∃ a vs,v=.ref a/\H a=some (.lst vs)/\a∉ρ/\RepL H ρ ps vs
 | .fro ps,v=>∃ a vs,v=.ref a/\Rd H a (.lst vs)/\a∉ρ/\RepL H ρ ps vs
 | .ref i,v=>∃ a,ρ.tr[i]?=some a/\v=.ref a
 | .dic,v=>∃ a,v=.ref a/\H a=some (.dK [])/\a∉ρ
def RepL (H:Hp) (ρ:Tk):List PV->List V->Prop
 | [],vs=>vs=[]
 | p :: ps,vs=>∃ v r,vs=v :: r/\Rep H ρ p v/\RepL H ρ ps r
end
structure Ext (H:Hp) (ρ:Tk) (H':Hp) (ρ':Tk):Prop where
 pre:ρ.tr <+: ρ'.tr
 hidM:∀ a,a∈ρ.hid->a∈ρ'.hid
 hidN:∀ a,a∈ρ'.hid->a∈ρ.hid\/H a=none
 keep:∀ a o,H a=some o->a∉ρ.tr->H' a=some o
 new:∀ a,a∈ρ'.tr->a∈ρ.tr\/H a=none
 old:∀ a o,H a=some o->∃ o',H' a=some o'
 frz:∀ a o u,H a=some (.frz o u)->H' a=some (.frz o u)
theorem Ext.refl (H:Hp) (ρ:Tk):Ext H ρ H ρ:=⟨cU _,fun _ h=>h,fun _ h=>.inl h,fun _ _ h _=>h,fun _ h=>.inl h,fun _ o h=>⟨o,h⟩,fun _ _ _ h=>h⟩
theorem Ext.trans {H H1 H2:Hp} {ρ ρ1 j:Tk} (a:Ext H ρ H1 ρ1) (b:Ext H1 ρ1 H2 j):Ext H ρ H2 j where
 pre:=a.pre.trans b.pre
 hidM:=fun x h=>b.hidM x (a.hidM x h)
 hidN:=fun x h=>by
  rcases b.hidN x h with z | z
  ·exact a.hidN x z
  ·right
   cases q:H x with
   | none=>rfl
   | some o=>
    obtain ⟨o',e⟩:=a.old x o q;rw [e] at z; cases z
 keep:=fun x o h n=>b.keep x o (a.keep x o h n) fun z=>by
  rcases a.new x z with z | z
  ·exact n z
  ·rw [h] at z; cases z
 new:=fun x h=>by
  rcases b.new x h with z | z
  ·exact a.new x z
  ·right
   cases q:H x with
   | none=>rfl
   | some o=>
    obtain ⟨o',e⟩:=a.old x o q;rw [e] at z; cases z
 old:=fun x o h=>by
  obtain ⟨o',e⟩:=a.old x o h;exact b.old x o' e
 frz:=fun x o u h=>b.frz x o u (a.frz x o u h)
theorem Ext.add {H:Hp} {ρ:Tk} {p:aA} {o:HO} (h:H p=none):Ext H ρ (upd H p o) ρ where
 pre:=cU _
 hidM:=fun _ h=>h
 hidN:=fun _ h=>.inl h
 keep:=fun a u e _=>by rw [Qh (Qk e h)]; exact e
 new:=fun a e=>.inl e
 old:=fun a u e=>⟨u,by rw [Qh (Qk e h)]; exact e⟩
 frz:=fun a o u e=>by rw [Qh (Qk e h)]; exact e
theorem Ext.addT {H:Hp} {ρ:Tk} {p:aA} {o:HO} (h:H p=none):Ext H ρ (upd H p o) (ρ.add p) where
 pre:=dB _ _
 hidM:=fun _ h=>h
 hidN:=fun _ h=>.inl h
 keep:=fun a u e _=>by rw [Qh (Qk e h)]; exact e
 new:=fun a e=>by
  rcases E9.mp e with z | z
  ·exact .inl z
  ·right
   have:a=p:=by simpa using z
   rw [this]; exact h
 old:=fun a u e=>⟨u,by rw [Qh (Qk e h)]; exact e⟩
 frz:=fun a o u e=>by rw [Qh (Qk e h)]; exact e
theorem Ext.same {H H':Hp} {ρ:Tk} (h:Same H H'):Ext H ρ H' ρ:=⟨cU _,fun _ h=>h,fun _ h=>.inl h,fun a o e _=>h a o e,fun _ e=>.inl e,fun a o e=>⟨o,h a o e⟩,fun a o u e=>h a _ e⟩
section
variable {H H':Hp} {ρ ρ':Tk}
theorem xi {a:aA} {o:HO} (x:Ext H ρ H' ρ') (h:H a=some o) (n:a∉ρ):a∉ρ':=fun z=>by
 rcases z with z | z
 ·rcases x.new a z with z | z
  ·exact n (.inl z)
  ·rw [h] at z; cases z
 ·rcases x.hidN a z with z | z
  ·exact n (.inr z)
  ·rw [h] at z; cases z
theorem Ext.kp {a:aA} {o:HO} (x:Ext H ρ H' ρ') (h:H a=some o) (n:a∉ρ):H' a=some o:=x.keep a o h fun z=>n (.inl z)
mutual
theorem Rep.ext (x:Ext H ρ H' ρ'):∀ {p:PV} {v:V},Rep H ρ p v->Rep H' ρ' p v
 | .non,_,h=>h
 | .bl _,_,h=>h
 | .int _,_,h=>h
 | .str _,_,h=>h
 | .tup ps,v,h=>by
  obtain ⟨a,vs,e,s,n,r⟩:=h;exact ⟨a,vs,e,x.kp s n,xi x s n,RepL.ext x r⟩
 | .lst ps,v,h=>by
  obtain ⟨a,vs,e,s,n,r⟩:=h;exact ⟨a,vs,e,x.kp s n,xi x s n,RepL.ext x r⟩
 | .fro ps,v,h=>by
  obtain ⟨a,vs,e,s,n,r⟩:=h;rcases s with s | ⟨o,s⟩
  ·exact ⟨a,vs,e,.inl (x.kp s n),xi x s n,RepL.ext x r⟩
  ·exact ⟨a,vs,e,.inr ⟨o,x.kp s n⟩,xi x s n,RepL.ext x r⟩
 | .ref i,v,h=>by
  obtain ⟨a,e,rfl⟩:=h;obtain ⟨t,j⟩:=x.pre;refine ⟨a,?_,rfl⟩;rw [<- j,O6 (O1.mp e).1];exact e
 | .dic,v,h=>by
  obtain ⟨a,e,s,n⟩:=h;exact ⟨a,e,x.kp s n,xi x s n⟩
theorem RepL.ext (x:Ext H ρ H' ρ'):∀ {ps:List PV} {vs:List V},RepL H ρ ps vs->RepL H' ρ' ps vs
 | [],_,h=>h
 | p :: ps,vs,h=>by
  obtain ⟨v,r,e,h1,h2⟩:=h;exact ⟨v,r,e,Rep.ext x h1,RepL.ext x h2⟩
end
mutual
theorem Rep.hide {a:aA} {o:HO} (h:H a=none):∀ {p:PV} {v:V},Rep H ρ p v->Rep (upd H a o) (ρ.hide a) p v
 | .non,_,r=>r
 | .bl _,_,r=>r
 | .int _,_,r=>r
 | .str _,_,r=>r
 | .tup ps,v,⟨b,vs,e,s,n,r⟩=>⟨b,vs,e,by rw [Qh (Qk s h)]; exact s,fun z=>by
   rcases z with z | z
   ·exact n (.inl z)
   ·rcases E3.mp z with z | z
    ·exact Qk s h z
    ·exact n (.inr z),RepL.hide h r⟩
 | .lst ps,v,⟨b,vs,e,s,n,r⟩=>⟨b,vs,e,by rw [Qh (Qk s h)]; exact s,fun z=>by
   rcases z with z | z
   ·exact n (.inl z)
   ·rcases E3.mp z with z | z
    ·exact Qk s h z
    ·exact n (.inr z),RepL.hide h r⟩
 | .fro ps,v,⟨b,vs,e,s,n,r⟩=>by
   have ne:b≠a:=by
    rcases s with s | ⟨_,s⟩
    ·exact Qk s h
    ·exact Qk s h
   refine ⟨b,vs,e,?_,fun z=>?_,RepL.hide h r⟩
   ·rcases s with s | ⟨u,s⟩
    ·exact .inl (by rw [Qh ne]; exact s)
    ·exact .inr ⟨u,by rw [Qh ne]; exact s⟩
   ·rcases z with z | z
    ·exact n (.inl z)
    ·rcases E3.mp z with z | z
     ·exact ne z
     ·exact n (.inr z)
 | .ref i,v,r=>r
 | .dic,v,⟨b,e,s,n⟩=>⟨b,e,by rw [Qh (Qk s h)]; exact s,fun z=>by
   rcases z with z | z
   ·exact n (.inl z)
   ·rcases E3.mp z with z | z
    ·exact Qk s h z
    ·exact n (.inr z)⟩
theorem RepL.hide {a:aA} {o:HO} (h:H a=none):∀ {ps:List PV} {vs:List V},RepL H ρ ps vs->RepL (upd H a o) (ρ.hide a) ps vs
 | [],_,r=>r
 | p :: ps,_,⟨v,t,e,j,q⟩=>⟨v,t,e,Rep.hide h j,RepL.hide h q⟩
end
mutual
theorem Rep.rehide {a:aA} {o:HO} (h:a∈ρ.hid):∀ {p:PV} {v:V},Rep H ρ p v->Rep (upd H a o) ρ p v
 | .non,_,r=>r
 | .bl _,_,r=>r
 | .int _,_,r=>r
 | .str _,_,r=>r
 | .tup ps,v,⟨b,vs,e,s,n,r⟩=>⟨b,vs,e,by rw [Qh (show b≠a from fun z=>n (.inr (by rw [z]; exact h)))]; exact s,n,RepL.rehide h r⟩
 | .lst ps,v,⟨b,vs,e,s,n,r⟩=>⟨b,vs,e,by rw [Qh (show b≠a from fun z=>n (.inr (by rw [z]; exact h)))]; exact s,n,RepL.rehide h r⟩
 | .fro ps,v,⟨b,vs,e,s,n,r⟩=>by
   have ne:b≠a:=fun z=>n (.inr (by rw [z]; exact h))
   refine ⟨b,vs,e,?_,n,RepL.rehide h r⟩;rcases s with s | ⟨u,s⟩
   ·exact .inl (by rw [Qh ne]; exact s)
   ·exact .inr ⟨u,by rw [Qh ne]; exact s⟩
 | .ref i,v,r=>r
 | .dic,v,⟨b,e,s,n⟩=>⟨b,e,by rw [Qh (show b≠a from fun z=>n (.inr (by rw [z]; exact h)))]; exact s,n⟩
theorem RepL.rehide {a:aA} {o:HO} (h:a∈ρ.hid):∀ {ps:List PV} {vs:List V},RepL H ρ ps vs->RepL (upd H a o) ρ ps vs
 | [],_,r=>r
 | p :: ps,_,⟨v,t,e,j,q⟩=>⟨v,t,e,Rep.rehide h j,RepL.rehide h q⟩
end
mutual
theorem Rep.retr {a:aA} {o:HO} (h:a∈ρ.tr):∀ {p:PV} {v:V},Rep H ρ p v->Rep (upd H a o) ρ p v
 | .non,_,r=>r
 | .bl _,_,r=>r
 | .int _,_,r=>r
 | .str _,_,r=>r
 | .tup ps,v,⟨b,vs,e,s,n,r⟩=>⟨b,vs,e,by rw [Qh (show b≠a from fun z=>n (.inl (by rw [z]; exact h)))]; exact s,n,RepL.retr h r⟩
 | .lst ps,v,⟨b,vs,e,s,n,r⟩=>⟨b,vs,e,by rw [Qh (show b≠a from fun z=>n (.inl (by rw [z]; exact h)))]; exact s,n,RepL.retr h r⟩
 | .fro ps,v,⟨b,vs,e,s,n,r⟩=>by
   have ne:b≠a:=fun z=>n (.inl (by rw [z]; exact h))
   refine ⟨b,vs,e,?_,n,RepL.retr h r⟩;rcases s with s | ⟨u,s⟩
   ·exact .inl (by rw [Qh ne]; exact s)
   ·exact .inr ⟨u,by rw [Qh ne]; exact s⟩
 | .ref i,v,r=>r
 | .dic,v,⟨b,e,s,n⟩=>⟨b,e,by rw [Qh (show b≠a from fun z=>n (.inl (by rw [z]; exact h)))]; exact s,n⟩
theorem RepL.retr {a:aA} {o:HO} (h:a∈ρ.tr):∀ {ps:List PV} {vs:List V},RepL H ρ ps vs->RepL (upd H a o) ρ ps vs
 | [],_,r=>r
 | p :: ps,_,⟨v,t,e,j,q⟩=>⟨v,t,e,Rep.retr h j,RepL.retr h q⟩
end
mutual
theorem Rep.unhide {hs:List aA} (j:∀ a,a∈hs->a∈ρ.hid):∀ {p:PV} {v:V},Rep H ρ p v->Rep H ⟨ρ.tr,hs⟩ p v
 | .non,_,r=>r
 | .bl _,_,r=>r
 | .int _,_,r=>r
 | .str _,_,r=>r
 | .tup ps,v,⟨b,vs,e,s,n,r⟩=>⟨b,vs,e,s,fun z=>n (z.imp id (j _)),RepL.unhide j r⟩
 | .lst ps,v,⟨b,vs,e,s,n,r⟩=>⟨b,vs,e,s,fun z=>n (z.imp id (j _)),RepL.unhide j r⟩
 | .fro ps,v,⟨b,vs,e,s,n,r⟩=>⟨b,vs,e,s,fun z=>n (z.imp id (j _)),RepL.unhide j r⟩
 | .ref i,v,r=>r
 | .dic,v,⟨b,e,s,n⟩=>⟨b,e,s,fun z=>n (z.imp id (j _))⟩
theorem RepL.unhide {hs:List aA} (j:∀ a,a∈hs->a∈ρ.hid):∀ {ps:List PV} {vs:List V},RepL H ρ ps vs->RepL H ⟨ρ.tr,hs⟩ ps vs
 | [],_,r=>r
 | p :: ps,_,⟨v,t,e,q,z⟩=>⟨v,t,e,Rep.unhide j q,RepL.unhide j z⟩
end
theorem RepL.length:∀ {ps:List PV} {vs:List V},RepL H ρ ps vs->ps.length=vs.length
 | [],_,h=>by cases h; rfl
 | p :: ps,_,⟨v,r,rfl,_,h2⟩=>by rw [D8,D8,RepL.length h2]
theorem RepL.get:∀ {ps:List PV} {vs:List V} {i:Nat} {p:PV},RepL H ρ ps vs->ps[i]?=some p->∃ v,vs[i]?=some v/\Rep H ρ p v
 | [],_,_,_,_,e=>by simp at e
 | p :: ps,_,0,q,⟨v,r,rfl,h1,h2⟩,e=>by simp at e; subst e; exact ⟨v,rfl,h1⟩
 | p :: ps,_,i + 1,q,⟨v,r,rfl,h1,h2⟩,e=>by
  obtain ⟨u,e1,e2⟩:=RepL.get (i:=i) h2 (by simpa using e);exact ⟨u,by simpa using e1,e2⟩
theorem RepL.cons {p:PV} {v:V} {ps:List PV} {vs:List V} (h:Rep H ρ p v) (r:RepL H ρ ps vs):RepL H ρ (p :: ps) (v :: vs):=⟨v,vs,rfl,h,r⟩
theorem RepL.nil:RepL H ρ [] []:=rfl
theorem RepL.append:∀ {ps j:List PV} {vs us:List V},RepL H ρ ps vs->RepL H ρ j us->RepL H ρ (ps ++ j) (vs ++ us)
 | [],_,_,_,h,g=>by cases h; exact g
 | p :: ps,_,_,_,⟨v,r,rfl,h1,h2⟩,g=>⟨v,_,rfl,h1,RepL.append h2 g⟩
theorem RepL.take:∀ {ps:List PV} {vs:List V} (n:Nat),RepL H ρ ps vs->RepL H ρ (ps.take n) (vs.take n)
 | _,_,0,_=>rfl
 | [],_,n + 1,h=>by cases h; rfl
 | p :: ps,_,n + 1,⟨v,r,rfl,h1,h2⟩=>⟨v,_,rfl,h1,RepL.take n h2⟩
theorem RepL.drop:∀ {ps:List PV} {vs:List V} (n:Nat),RepL H ρ ps vs->RepL H ρ (ps.drop n) (vs.drop n)
 | _,_,0,h=>h
 | [],_,n + 1,h=>by cases h; rfl
 | p :: ps,_,n + 1,⟨v,r,rfl,h1,h2⟩=>RepL.drop n h2
theorem RepL.set {p:PV} {v:V} (h:Rep H ρ p v):∀ {ps:List PV} {vs:List V} (i:Nat),RepL H ρ ps vs->RepL H ρ (ps.set i p) (vs.set i v)
 | [],_,_,g=>by cases g; rfl
 | q :: ps,_,0,⟨u,r,rfl,h1,h2⟩=>⟨v,r,rfl,h,h2⟩
 | q :: ps,_,i + 1,⟨u,r,rfl,h1,h2⟩=>⟨u,_,rfl,h1,RepL.set h i h2⟩
theorem RepL.rep {ps:List PV} {vs:List V} (h:RepL H ρ ps vs):∀ n,RepL H ρ (bQ n ps).flatten (bQ n vs).flatten
 | 0=>rfl
 | n + 1=>by rw [cG,cG,cS,cS]; exact h.append (RepL.rep h n)
theorem RepL.toInts:∀ {ns:List Int} {vs:List V},RepL H ρ (ns.map .int) vs->vs=ns.map V.int
 | [],_,h=>h
 | n :: ns,_,⟨v,r,rfl,h1,h2⟩=>by
  have e:v=V.int n:=h1;rw [RepL.toInts h2,e]; rfl
theorem RepL.toBls:∀ {ns:List Bool} {vs:List V},RepL H ρ (ns.map .bl) vs->vs=ns.map V.bl
 | [],_,h=>h
 | n :: ns,_,⟨v,r,rfl,h1,h2⟩=>by
  have e:v=V.bl n:=h1;rw [RepL.toBls h2,e]; rfl
end
def RepD {κ:Type} (H:Hp) (ρ:Tk) (kvs:List (κ × PV)) (vs:List (κ × V)):Prop:=vs.map cp=kvs.map cp/\RepL H ρ (kvs.map ee) (vs.map ee)
theorem RepD.ext {κ:Type} {H H':Hp} {ρ ρ':Tk} {kvs:List (κ × PV)} {vs:List (κ × V)} (x:Ext H ρ H' ρ') (r:RepD H ρ kvs vs):RepD H' ρ' kvs vs:=⟨r.1,r.2.ext x⟩
theorem RepD.length {κ:Type} {H:Hp} {ρ:Tk} {kvs:List (κ × PV)} {vs:List (κ × V)} (r:RepD H ρ kvs vs):kvs.length=vs.length:=by
 have:=congrArg eK r.1;rw [O2,O2] at this;exact this.symm
def CellR (H:Hp) (ρ:Tk) (a:aA):Cell->Prop
 | .lst ps=>∃ vs,H a=some (.lst vs)/\RepL H ρ ps vs
 | .dic kvs=>∃ vs,H a=some (.dK vs)/\RepD H ρ kvs vs
 | .dtp kvs=>∃ vs,H a=some (.dT vs)/\RepD H ρ kvs vs
 | .frd kvs=>∃ vs,(∃ o,H a=some (.frz o (.dK vs)))/\RepD H ρ kvs vs
 | .obj C fs=>∃ vs,(∃ dx,H a=some (.ins C dx vs))/\RepD H ρ fs vs
theorem CellR.dom {H:Hp} {ρ:Tk} {a:aA}:∀ {c:Cell},CellR H ρ a c->∃ o,H a=some o
 | .lst _,⟨_,e,_⟩=>⟨_,e⟩
 | .dic _,⟨_,e,_⟩=>⟨_,e⟩
 | .dtp _,⟨_,e,_⟩=>⟨_,e⟩
 | .frd _,⟨_,⟨_,e⟩,_⟩=>⟨_,e⟩
 | .obj _ _,⟨_,⟨_,e⟩,_⟩=>⟨_,e⟩
theorem CellR.ext {H H':Hp} {ρ ρ':Tk} {a:aA} (x:Ext H ρ H' ρ') (k:∀ o,H a=some o->H' a=some o):∀ {c:Cell},CellR H ρ a c->CellR H' ρ' a c
 | .lst _,⟨vs,e,r⟩=>⟨vs,k _ e,r.ext x⟩
 | .dic _,⟨vs,e,r⟩=>⟨vs,k _ e,r.ext x⟩
 | .dtp _,⟨vs,e,r⟩=>⟨vs,k _ e,r.ext x⟩
 | .frd _,⟨vs,⟨o,e⟩,r⟩=>⟨vs,⟨o,k _ e⟩,r.ext x⟩
 | .obj _ _,⟨vs,⟨o,e⟩,r⟩=>⟨vs,⟨o,k _ e⟩,r.ext x⟩
structure Rel (H:Hp) (ρ:Tk) (st:Q2):Prop where
 len:ρ.tr.length=st.length
 nd:ρ.tr.Nodup
 hd:∀ a∈ρ.hid,∃ o,H a=some o/\∀ xs,o≠.tup xs
 ap:∀ a∈ρ.hid,a∉ρ.tr
 cell:∀ (i:Nat) (a:aA) (c:Cell),ρ.tr[i]?=some a->st[i]?=some c->CellR H ρ a c
section
variable {H H':Hp} {ρ ρ':Tk} {st st':Q2}
theorem Rel.lst (R:Rel H ρ st) {i:Nat} {ps:List PV} (h:st[i]?=some (.lst ps)):∃ a vs,ρ.tr[i]?=some a/\H a=some (.lst vs)/\RepL H ρ ps vs:=by
 have hi:i < ρ.tr.length:=by rw [R.len]; exact (O1.mp h).1
 have e:ρ.tr[i]?=some ρ.tr[i]:=O4 hi;obtain ⟨vs,e1,e2⟩:=R.cell i _ _ e h;exact ⟨_,vs,e,e1,e2⟩
theorem Rel.dic (R:Rel H ρ st) {i:Nat} {kvs:List (Key × PV)} (h:st[i]?=some (.dic kvs)):∃ a vs,ρ.tr[i]?=some a/\H a=some (.dK vs)/\RepD H ρ kvs vs:=by
 have hi:i < ρ.tr.length:=by rw [R.len]; exact (O1.mp h).1
 have e:ρ.tr[i]?=some ρ.tr[i]:=O4 hi;obtain ⟨vs,e1,e2⟩:=R.cell i _ _ e h;exact ⟨_,vs,e,e1,e2⟩
theorem Rel.frd (R:Rel H ρ st) {i:Nat} {kvs:List (Key × PV)} (h:st[i]?=some (.frd kvs)):∃ a vs o,ρ.tr[i]?=some a/\H a=some (.frz o (.dK vs))/\RepD H ρ kvs vs:=by
 have hi:i < ρ.tr.length:=by rw [R.len]; exact (O1.mp h).1
 have e:ρ.tr[i]?=some ρ.tr[i]:=O4 hi;obtain ⟨vs,⟨o,e1⟩,e2⟩:=R.cell i _ _ e h;exact ⟨_,vs,o,e,e1,e2⟩
theorem Rel.obj (R:Rel H ρ st) {i:Nat} {C:aA} {fs:List (Str × PV)} (h:st[i]?=some (.obj C fs)):∃ a vs dx,ρ.tr[i]?=some a/\H a=some (.ins C dx vs)/\RepD H ρ fs vs:=by
 have hi:i < ρ.tr.length:=by rw [R.len]; exact (O1.mp h).1
 have e:ρ.tr[i]?=some ρ.tr[i]:=O4 hi;obtain ⟨vs,⟨o,e1⟩,e2⟩:=R.cell i _ _ e h;exact ⟨_,vs,o,e,e1,e2⟩
theorem Rel.dom (R:Rel H ρ st) {a:aA} (h:a∈ρ.tr):∃ o,H a=some o:=by
 obtain ⟨i,hi,e⟩:=dX h;have hs:i < st.length:=by rw [<- R.len]; exact hi
 have q:=R.cell i a st[i] (by rw [O4 hi,e]) (O4 hs);exact q.dom
theorem Rel.fresh (R:Rel H ρ st) {p:aA} (h:H p=none):p∉ρ:=fun z=>by
 rcases z with z | z
 ·obtain ⟨vs,q⟩:=R.dom z;rw [h] at q; cases q
 ·obtain ⟨o,q,_⟩:=R.hd p z;rw [h] at q; cases q
theorem Rel.later (R:Rel H ρ st) (x:Ext H ρ H' ρ) (k:∀ a o,a∈ρ.tr->H a=some o->H' a=some o):Rel H' ρ st where
 len:=R.len
 nd:=R.nd
 hd:=fun a j=>let ⟨o,e,n⟩:=R.hd a j; ⟨o,x.keep a o e (R.ap a j),n⟩
 ap:=R.ap
 cell:=fun i a c h1 h2=>by
  exact (R.cell i a c h1 h2).ext x fun o e=>k a o (D2 h1) e
end
theorem Rel.add {H:Hp} {ρ:Tk} {st:Q2} (R:Rel H ρ st) {p:aA} {o:HO} (h:H p=none):Rel (upd H p o) ρ st:=
 R.later (Ext.add h) fun a u j e=>by rw [Qh (Qk e h)]; exact e
theorem Rel.same {H H':Hp} {ρ:Tk} {st:Q2} (R:Rel H ρ st) (h:Same H H'):Rel H' ρ st:=R.later (Ext.same h) fun a u _ e=>h a u e
theorem Rel.addC {H:Hp} {ρ:Tk} {st:Q2} (R:Rel H ρ st) {p:aA} {cl:Cell} {o:HO} (h:H p=none) (r:CellR (upd H p o) (ρ.add p) p cl):Rel (upd H p o) (ρ.add p) (st ++ [cl]) where
 len:=by show (ρ.tr ++ [p]).length=_; rw [O8,O8,R.len]; rfl
 nd:=dY.mpr ⟨R.nd,by simp,fun a j b B e=>by
  have:b=p:=by simpa using B
  subst this; subst e;exact R.fresh h (.inl j)⟩
 hd:=fun a j=>let ⟨o,e,n⟩:=R.hd a j; ⟨o,by rw [Qh (Qk e h)]; exact e,n⟩
 ap:=fun a j z=>by
  rcases E9.mp z with z | z
  ·exact R.ap a j z
  ·have:a=p:=by simpa using z
   subst this;exact R.fresh h (.inr j)
 cell:=fun i a c h1 h2=>by
  have h1:(ρ.tr ++ [p])[i]?=some a:=h1
  by_cases hi:i < st.length
  ·rw [O6 (by rw [R.len]; exact hi)] at h1;rw [O6 hi] at h2;exact (R.cell i a c h1 h2).ext (Ext.addT h) fun u e=>by rw [Qh (Qk e h)]; exact e
  ·rw [D1 (by rw [R.len]; omega)] at h1;rw [D1 (by omega)] at h2;have q:i - st.length=0:=by
    rcases ek (i - st.length) with z | z
    ·exact z
    ·rw [cV (by simp; omega)] at h2; cases h2
   rw [R.len,q] at h1;rw [q] at h2;simp at h1 h2;subst h1; subst h2;exact r
theorem Qa6 {α:Type} {l:List α} (h:l.Nodup) {i j:Nat} (hi:i < l.length) (q:j < l.length) (e:l[i]=l[j]):i=j:=by
 rcases Nat.lt_trichotomy i j with z | z | z
 ·exact absurd e ((gH.mp h) i j hi q z)
 ·exact z
 ·exact absurd e.symm ((gH.mp h) j i q hi z)
theorem Ext.put {H:Hp} {ρ:Tk} {a:aA} {o o':HO} (h:a∈ρ.tr) (e:H a=some o) (j:∀ q u,o≠.frz q u:=by intro _ _ z; cases z):Ext H ρ (upd H a o') ρ where
 pre:=cU _
 hidM:=fun _ h=>h
 hidN:=fun _ h=>.inl h
 keep:=fun b u q n=>by rw [Qh (show b≠a from fun z=>n (by rw [z]; exact h))]; exact q
 new:=fun b q=>.inl q
 old:=fun b u q=>by
  by_cases z:b=a
  ·exact ⟨o',by rw [z]; exact Jb⟩
  ·exact ⟨u,by rw [Qh z]; exact q⟩
 frz:=fun b q u k=>by
  by_cases z:b=a
  ·rw [z,e] at k; cases k; exact absurd rfl (j _ _)
  ·rw [Qh z]; exact k
theorem Rel.putC {H:Hp} {ρ:Tk} {st:Q2} (R:Rel H ρ st) {i:Nat} {a:aA} {cl:Cell} {o o':HO} (hi:ρ.tr[i]?=some a) (e:H a=some o) (r:CellR (upd H a o') ρ a cl):Rel (upd H a o') ρ (st.set i cl) where
 len:=by rw [D5]; exact R.len
 nd:=R.nd
 hd:=fun b B=>let ⟨u,q,n⟩:=R.hd b B; ⟨u,by rw [Qh (show b≠a from fun z=>R.ap b B (by rw [z]; exact D2 hi))]; exact q,n⟩
 ap:=R.ap
 cell:=fun j b c h1 h2=>by
  by_cases I:i=j
  ·subst I;rw [hi] at h1; cases h1;rw [E2 (by rw [<- R.len]; exact (O1.mp hi).1)] at h2;cases h2;exact r
  ·rw [O5 I] at h2;have q:=R.cell j b c h1 h2;have B:b≠a:=fun z=>by
    subst z;have U:=(O1.mp hi);have O:=(O1.mp h1);exact I (Qa6 R.nd U.1 O.1 (U.2.trans O.2.symm))
   have G:=D2 hi;cases c with
   | lst ps=>
    obtain ⟨vs,e1,e2⟩:=q;exact ⟨vs,by rw [Qh B]; exact e1,e2.retr G⟩
   | dic ps=>
    obtain ⟨vs,e1,e2⟩:=q;exact ⟨vs,by rw [Qh B]; exact e1,e2.1,e2.2.retr G⟩
   | dtp ps=>
    obtain ⟨vs,e1,e2⟩:=q;exact ⟨vs,by rw [Qh B]; exact e1,e2.1,e2.2.retr G⟩
   | frd ps=>
    obtain ⟨vs,⟨J,e1⟩,e2⟩:=q;exact ⟨vs,⟨J,by rw [Qh B]; exact e1⟩,e2.1,e2.2.retr G⟩
   | obj C ps=>
    obtain ⟨vs,⟨J,e1⟩,e2⟩:=q;exact ⟨vs,⟨J,by rw [Qh B]; exact e1⟩,e2.1,e2.2.retr G⟩
theorem Rel.put {H:Hp} {ρ:Tk} {st:Q2} (R:Rel H ρ st) {i:Nat} {a:aA} {ps:List PV} {vs:List V} {o:HO} (hi:ρ.tr[i]?=some a) (e:H a=some o) (r:RepL H ρ ps vs):Rel (upd H a (.lst vs)) ρ (st.set i (.lst ps)):=
 R.putC hi e ⟨vs,Jb,r.retr (D2 hi)⟩
theorem Rel.hide {H:Hp} {ρ:Tk} {st:Q2} (R:Rel H ρ st) {p:aA} {o:HO} (h:H p=none) (I:∀ xs,o≠.tup xs:=by intro _ z; cases z):Rel (upd H p o) (ρ.hide p) st:=by
 have x:Ext H ρ (upd H p o) ρ:=Ext.add h;have B:=R.add (p:=p) (o:=o) h;refine ⟨B.len,B.nd,fun a j=>?_,fun a j z=>?_,fun i a c h1 h2=>?_⟩
 ·rcases E3.mp j with rfl | j
  ·exact ⟨o,Jb,I⟩
  ·exact B.hd a j
 ·rcases E3.mp j with rfl | j
  ·exact R.fresh h (.inl z)
  ·exact R.ap a j z
 ·have q:=R.cell i a c h1 h2;cases c with
  | lst ps=>
   obtain ⟨vs,e1,e2⟩:=q;exact ⟨vs,by rw [Qh (Qk e1 h)]; exact e1,e2.hide h⟩
  | dic ps=>
   obtain ⟨vs,e1,e2⟩:=q;exact ⟨vs,by rw [Qh (Qk e1 h)]; exact e1,e2.1,e2.2.hide h⟩
  | dtp ps=>
   obtain ⟨vs,e1,e2⟩:=q;exact ⟨vs,by rw [Qh (Qk e1 h)]; exact e1,e2.1,e2.2.hide h⟩
  | frd ps=>
   obtain ⟨vs,⟨G,e1⟩,e2⟩:=q;exact ⟨vs,⟨G,by rw [Qh (Qk e1 h)]; exact e1⟩,e2.1,e2.2.hide h⟩
  | obj C ps=>
   obtain ⟨vs,⟨G,e1⟩,e2⟩:=q;exact ⟨vs,⟨G,by rw [Qh (Qk e1 h)]; exact e1⟩,e2.1,e2.2.hide h⟩
theorem Rel.rehide {H:Hp} {ρ:Tk} {st:Q2} (R:Rel H ρ st) {p:aA} {o:HO} (h:p∈ρ.hid) (B:∀ xs,o≠.tup xs:=by intro _ z; cases z):Rel (upd H p o) ρ st:=by
 refine ⟨R.len,R.nd,fun a G=>?_,R.ap,fun i a c h1 h2=>?_⟩
 ·by_cases e:a=p
  ·exact ⟨o,by rw [e]; exact Jb,B⟩
  ·obtain ⟨u,q,n⟩:=R.hd a G;exact ⟨u,by rw [Qh e]; exact q,n⟩
 ·have q:=R.cell i a c h1 h2;have ne:a≠p:=fun z=>R.ap p h (by rw [<- z]; exact D2 h1)
  cases c with
  | lst ps=>
   obtain ⟨vs,e1,e2⟩:=q;exact ⟨vs,by rw [Qh ne]; exact e1,e2.rehide h⟩
  | dic ps=>
   obtain ⟨vs,e1,e2⟩:=q;exact ⟨vs,by rw [Qh ne]; exact e1,e2.1,e2.2.rehide h⟩
  | dtp ps=>
   obtain ⟨vs,e1,e2⟩:=q;exact ⟨vs,by rw [Qh ne]; exact e1,e2.1,e2.2.rehide h⟩
  | frd ps=>
   obtain ⟨vs,⟨j,e1⟩,e2⟩:=q;exact ⟨vs,⟨j,by rw [Qh ne]; exact e1⟩,e2.1,e2.2.rehide h⟩
  | obj C ps=>
   obtain ⟨vs,⟨j,e1⟩,e2⟩:=q;exact ⟨vs,⟨j,by rw [Qh ne]; exact e1⟩,e2.1,e2.2.rehide h⟩
theorem Rel.unhide {H:Hp} {ρ:Tk} {st:Q2} {hs:List aA} (j:∀ a,a∈hs->a∈ρ.hid) (R:Rel H ρ st):Rel H ⟨ρ.tr,hs⟩ st:=by
 refine ⟨R.len,R.nd,fun a z=>R.hd a (j a z),fun a z=>R.ap a (j a z),fun i a c h1 h2=>?_⟩;have q:=R.cell i a c h1 h2;cases c with
 | lst ps=>
  obtain ⟨vs,e1,e2⟩:=q;exact ⟨vs,e1,RepL.unhide j e2⟩
 | dic ps=>
  obtain ⟨vs,e1,e2⟩:=q;exact ⟨vs,e1,e2.1,RepL.unhide j e2.2⟩
 | dtp ps=>
  obtain ⟨vs,e1,e2⟩:=q;exact ⟨vs,e1,e2.1,RepL.unhide j e2.2⟩
 | frd ps=>
  obtain ⟨vs,e1,e2⟩:=q;exact ⟨vs,e1,e2.1,RepL.unhide j e2.2⟩
 | obj C ps=>
  obtain ⟨vs,e1,e2⟩:=q;exact ⟨vs,e1,e2.1,RepL.unhide j e2.2⟩
theorem Ext.hide {H:Hp} {ρ:Tk} {p:aA} {o:HO} (h:H p=none):Ext H ρ (upd H p o) (ρ.hide p) where
 pre:=cU _
 hidM:=fun _ h=>D0 _ h
 hidN:=fun a j=>by
  rcases E3.mp j with rfl | j
  ·exact .inr h
  ·exact .inl j
 keep:=fun a u e _=>by rw [Qh (Qk e h)]; exact e
 new:=fun a e=>.inl e
 old:=fun a u e=>⟨u,by rw [Qh (Qk e h)]; exact e⟩
 frz:=fun a o u e=>by rw [Qh (Qk e h)]; exact e
theorem Ext.put0 {H H1:Hp} {ρ ρ1:Tk} {p:aA} {o:HO} (x:Ext H ρ H1 ρ1) (h:H p=none):Ext H ρ (upd H1 p o) ρ1 where
 pre:=x.pre
 hidM:=x.hidM
 hidN:=x.hidN
 keep:=fun a u e n=>by rw [Qh (Qk e h)]; exact x.keep a u e n
 new:=x.new
 old:=fun a u e=>by rw [Qh (Qk e h)]; exact x.old a u e
 frz:=fun a o u e=>by rw [Qh (Qk e h)]; exact x.frz a o u e
theorem Ext.unhide {H H1:Hp} {ρ ρ1:Tk} (x:Ext H ρ H1 ρ1):Ext H ρ H1 ⟨ρ1.tr,ρ.hid⟩ where
 pre:=x.pre
 hidM:=fun _ h=>h
 hidN:=fun _ h=>.inl h
 keep:=x.keep
 new:=x.new
 old:=x.old
 frz:=x.frz
def EnvR (H:Hp) (ρ:Tk) (Γ:Gam) (σ:St):Prop:=Γ.length=σ.length/\∀ (i:Nat) (p:PV),Γ[i]?=some (some p)->∃ v,σ[i]?=some (some v)/\Rep H ρ p v
theorem EnvR.ext {H H':Hp} {ρ ρ':Tk} {Γ:Gam} {σ:St} (x:Ext H ρ H' ρ') (h:EnvR H ρ Γ σ):EnvR H' ρ' Γ σ:=
 ⟨h.1,fun i p e=>let ⟨v,a,b⟩:=h.2 i p e; ⟨v,a,b.ext x⟩⟩
theorem EnvR.hide {H:Hp} {ρ:Tk} {Γ:Gam} {σ:St} {a:aA} {o:HO} (n:H a=none) (h:EnvR H ρ Γ σ):EnvR (upd H a o) (ρ.hide a) Γ σ:=⟨h.1,fun i p e=>let ⟨v,a,b⟩:=h.2 i p e; ⟨v,a,b.hide n⟩⟩
theorem EnvR.rehide {H:Hp} {ρ:Tk} {Γ:Gam} {σ:St} {a:aA} {o:HO} (n:a∈ρ.hid) (h:EnvR H ρ Γ σ):EnvR (upd H a o) ρ Γ σ:=⟨h.1,fun i p e=>let ⟨v,a,b⟩:=h.2 i p e; ⟨v,a,b.rehide n⟩⟩
theorem EnvR.set {H:Hp} {ρ:Tk} {Γ:Gam} {σ:St} {p:PV} {v:V} (h:EnvR H ρ Γ σ) (r:Rep H ρ p v) (i:Nat):EnvR H ρ (Γ.set i (some p)) (σ.set i (some v)):=by
 refine ⟨by rw [D5,D5]; exact h.1,fun j q e=>?_⟩;rw [dZ] at e;rw [dZ]
 by_cases B:i=j
 ·subst B;simp only [if_true] at e ⊢
  by_cases z:i < Γ.length
  ·rw [bJ z] at e; cases e;rw [bJ (by rw [<- h.1]; exact z)];exact ⟨v,rfl,r⟩
  ·rw [bK z] at e; cases e
 ·rw [bK B] at e ⊢;exact h.2 j q e
end
def Res.bind {α β:Type} (r:Res α) (f:α->Q2->Res β):Res β:=match r with
 | .ok a st=>f a st
 | .exc x st=>.exc x st
 | .stuck=>.stuck
def okO {α:Type} (st:Q2):Option α->Res α
 | some a=>.ok a st
 | none=>.stuck
section
variable (X:Cx)
def WE (e:aD):TE:=fun σ H Q=>∀ (pins:List (aA × Obj)) (s:aC),Inv X pins σ H s->aI (aJ X.prog X.w) X.A (aK e X.env) (EP X pins σ Q) X.xe s
def WT (e:aD):TT:=fun σ H Q=>∀ (pins:List (aA × Obj)) (s:aC),Inv X pins σ H s->aI (aJ X.prog X.w) X.A (isTrue e X.env (aK e X.env)) (TP X pins σ Q) X.xe s
def WW (e:aD):TT:=fun σ H Q=>∀ (wh:Sem aB) (pins:List (aA × Obj)) (s:aC),Inv X pins σ H s->aI (aJ X.prog X.w) X.A (isTrue e X.env wh) (TP X pins σ Q) X.xe s
def WA (es:List aD):TA:=fun σ H Q=>∀ (pos:Pos) (pins:List (aA × Obj)) (s:aC),Inv X pins σ H s->aI (aJ X.prog X.w) X.A (spliced (aU pos (aO es X.env))) (AP X pins σ Q) X.xe s
def WS (st:aM):TS:=fun D σ H=>∀ (pins:List (aA × Obj)) (s:aC),Inv X pins σ H s->aI (aJ X.prog X.w) X.A (exec st X.env) (SP X pins D) X.xe s
def WB (st:List aM):TS:=fun D σ H=>∀ (pins:List (aA × Obj)) (s:aC),Inv X pins σ H s->aI (aJ X.prog X.w) X.A (execs st X.env) (SP X pins D) X.xe s
def WI (tg iter : aD) : TI := fun σ H R => ∀ (pins : List (aA × Obj)) (s : aC), Inv X pins σ H s ->
  aI (aJ X.prog X.w) X.A (aK iter X.env) (fun v s1=>aI (aJ X.prog X.w) X.A (pyIter v) (PIE X pins σ tg R) X.xe s1) X.xe s
def WO (f:aB->aB->Sem aB):R2:=fun x y H Q=>∀ (pins:List (aA × Obj)) (s:aC) (σ:St) (v u:aB),Inv X pins σ H s->RelV x v->RelV y u->aI (aJ X.prog X.w) X.A (f v u) (EP X pins σ Q) X.xe s
def WC (f:aB):List V->Hp->VK->Prop:=fun xs H Q=>∀ (pins:List (aA × Obj)) (s:aC) (σ:St) (us:List aB),Inv X pins σ H s->Vals xs us->aI (aJ X.prog X.w) X.A (call f us) (EP X pins σ Q) X.xe s
end
section
variable {X:Cx}
theorem Yu {e:aD}:PE X e (WE X e):=fun pins s _ _ _ I h=>h pins s I
theorem Qcf {e:aD}:PT X e (WT X e):=fun pins s _ _ _ I h=>h pins s I
theorem Quk {e:aD}:PW X e (WW X e):=fun j pins s _ _ _ I h=>h j pins s I
theorem Q3j {es:List aD}:PA X es (WA X es):=fun pos pins s _ _ _ I h=>h pos pins s I
theorem Qun {st:aM}:PS X st (WS X st):=fun pins s _ _ _ I h=>h pins s I
theorem Q73 {st:List aM}:PSs X st (WB X st):=fun pins s _ _ _ I h=>h pins s I
theorem Qrr {tg iter:aD}:PI X tg iter (WI X tg iter):=fun pins s _ _ _ I h=>h pins s I
theorem Qe7 {f:aB->aB->Sem aB}:OpR X f (WO X f):=fun pins s σ _ _ _ v u _ I j q h=>h pins s σ v u I j q
theorem Qkt {f:aB}:j6 X f (WC X f):=fun pins s σ _ _ us _ I r h=>h pins s σ us I r
theorem WE.of {e:aD} {t:TE} {σ:St} {H:Hp} {Q:VK} (h:PE X e t) (q:t σ H Q):WE X e σ H Q:=fun pins s I=>h pins s σ H Q I q
theorem WT.of {e:aD} {t:TT} {σ:St} {H:Hp} {Q:Bool->Hp->Prop} (h:PT X e t) (q:t σ H Q):WT X e σ H Q:=fun pins s I=>h pins s σ H Q I q
theorem WW.of {e:aD} {t:TT} {σ:St} {H:Hp} {Q:Bool->Hp->Prop} (h:PW X e t) (q:t σ H Q):WW X e σ H Q:=fun j pins s I=>h j pins s σ H Q I q
theorem WA.of {es:List aD} {t:TA} {σ:St} {H:Hp} {Q:List V->Hp->Prop} (h:PA X es t) (q:t σ H Q):WA X es σ H Q:=fun pos pins s I=>h pos pins s σ H Q I q
theorem WS.of {st:aM} {t:TS} {σ:St} {H:Hp} {D:Ends} (h:PS X st t) (q:t D σ H):WS X st D σ H:=fun pins s I=>h pins s σ H D I q
theorem WB.of {st:List aM} {t:TS} {σ:St} {H:Hp} {D:Ends} (h:PSs X st t) (q:t D σ H):WB X st D σ H:=fun pins s I=>h pins s σ H D I q
theorem WI.of {tg iter:aD} {t:TI} {σ:St} {H:Hp} {R:It->Hp->Prop} (h:PI X tg iter t) (q:t σ H R):WI X tg iter σ H R:=fun pins s I=>h pins s σ H R I q
theorem WO.of {f:aB->aB->Sem aB} {r:R2} {x y:V} {H:Hp} {Q:VK} (h:OpR X f r) (q:r x y H Q):WO X f x y H Q:=fun pins s σ v u I j z=>h pins s σ H x y v u Q I j z q
theorem WC.of {f:aB} {r:List V->Hp->VK->Prop} {xs:List V} {H:Hp} {Q:VK} (h:j6 X f r) (q:r xs H Q):WC X f xs H Q:=fun pins s σ us I j=>h pins s σ H xs us Q I j q
end
def XFs (H:Hp) (ρ:Tk):Option (Str × PV)->Option aA->Prop
 | none,dv=>dv=none
 | some (n,p),dv=>∃ dx v,dv=some dx/\H dx=some (.xd [(n,v)])/\dx∉ρ/\Rep H ρ p v
def Acc {α:Type} (mg:Str->Option aB) (E:XK) (H:Hp) (ρ:Tk) (P:α->Q2->Hp->Tk->Prop):Res α->Prop
 | .ok a st=>∀ H' ρ',Ext H ρ H' ρ'->Rel H' ρ' st->P a st H' ρ'
 | .exc x st=>∀ C dv H' ρ',mg x.cls=some (.ref C)->Ext H ρ H' ρ'->Rel H' ρ' st->XFs H' ρ' x.fs dv->E (.ref C) dv H'
 | .stuck=>False
section
variable {α β:Type} {mg:Str->Option aB} {E:XK} {H H1:Hp} {ρ ρ1:Tk}
theorem Acc.mono {P z:α->Q2->Hp->Tk->Prop} {r:Res α} (h:Acc mg E H ρ P r) (x:Ext H ρ H1 ρ1) (k:∀ a st H' ρ',P a st H' ρ'->z a st H' ρ'):Acc mg E H1 ρ1 z r:=by
 cases r with
 | ok a st=>exact fun H' ρ' j q=>k _ _ _ _ (h H' ρ' (x.trans j) q)
 | exc e st=>exact fun C B H' ρ' m j q f=>h C B H' ρ' m (x.trans j) q f
 | stuck=>exact h
theorem Acc.later {P:α->Q2->Hp->Tk->Prop} {r:Res α} (h:Acc mg E H ρ P r) (x:Ext H ρ H1 ρ1):Acc mg E H1 ρ1 P r:=h.mono x fun _ _ _ _ p=>p
theorem Acc.bind {P:β->Q2->Hp->Tk->Prop} {r:Res α} {f:α->Q2->Res β} (h:Acc mg E H ρ P (r.bind f)):Acc mg E H ρ (fun a j H1 ρ1=>Acc mg E H1 ρ1 P (f a j)) r:=by
 cases r with
 | ok a st=>exact fun H' ρ' q z=>Acc.later (show Acc mg E H ρ P (f a st) from h) q
 | exc e st=>exact h
 | stuck=>exact h
end
abbrev QV (Q:VK):PV->Q2->Hp->Tk->Prop:=fun p _ H' ρ'=>∀ v,Rep H' ρ' p v->Q v H'
abbrev QL (Q:List V->Hp->Prop):List PV->Q2->Hp->Tk->Prop:=fun ps _ H' ρ'=>∀ vs,RepL H' ρ' ps vs->Q vs H'
abbrev QB (Q:Bool->Hp->Prop):Bool->Q2->Hp->Tk->Prop:=fun b _ H' _=>Q b H'
structure SimE (X:Cx) (E:XK) (e:aD) (m:ME):Prop where
 run:∀ (Γ:Gam) (σ:St) (H:Hp) (ρ:Tk) (st:Q2) (Q:VK),Rel H ρ st->EnvR H ρ Γ σ->Acc X.mg E H ρ (QV Q) (m Γ st)->WE X e σ H Q
structure SimT (X:Cx) (E:XK) (e:aD) (m:Gam->Q2->Res Bool):Prop where
 run:∀ (Γ:Gam) (σ:St) (H:Hp) (ρ:Tk) (st:Q2) (Q:Bool->Hp->Prop),Rel H ρ st->EnvR H ρ Γ σ->Acc X.mg E H ρ (QB Q) (m Γ st)->WT X e σ H Q
structure SimW (X:Cx) (E:XK) (e:aD) (m:Gam->Q2->Res Bool):Prop where
 run:∀ (Γ:Gam) (σ:St) (H:Hp) (ρ:Tk) (st:Q2) (Q:Bool->Hp->Prop),Rel H ρ st->EnvR H ρ Γ σ->Acc X.mg E H ρ (QB Q) (m Γ st)->WW X e σ H Q
structure SimA (X:Cx) (E:XK) (es:List aD) (m:Gam->Q2->Res (List PV)):Prop where
 run:∀ (Γ:Gam) (σ:St) (H:Hp) (ρ:Tk) (st:Q2) (Q:List V->Hp->Prop),Rel H ρ st->EnvR H ρ Γ σ->Acc X.mg E H ρ (QL Q) (m Γ st)->WA X es σ H Q
abbrev OP:=Q2->PV->PV->Res PV
structure OpS (X:Cx) (E:XK) (f:aB->aB->Sem aB) (o:OP):Prop where
 run:∀ (H:Hp) (ρ:Tk) (st:Q2) (p q:PV) (x y:V) (Q:VK),Rel H ρ st->Rep H ρ p x->Rep H ρ q y->Acc X.mg E H ρ (QV Q) (o st p q)->WO X f x y H Q
abbrev CF:=Q2->List PV->Res PV
structure CallS (X:Cx) (E:XK) (f:aB) (o:CF):Prop where
 run:∀ (H:Hp) (ρ:Tk) (st:Q2) (ps:List PV) (xs:List V) (Q:VK),Rel H ρ st->RepL H ρ ps xs->Acc X.mg E H ρ (QV Q) (o st ps)->WC X f xs H Q
section
variable {X:Cx} {E:XK} {Γ:Gam} {σ:St} {H:Hp} {ρ:Tk} {st:Q2}
theorem SimE.use {e:aD} {m:ME} (s:SimE X E e m) {P:PV->Q2->Hp->Tk->Prop} {Q:VK} (R:Rel H ρ st) (G:EnvR H ρ Γ σ) (h:Acc X.mg E H ρ P (m Γ st))
  (k:∀ p j H1 ρ1 v,Ext H ρ H1 ρ1->Rel H1 ρ1 j->EnvR H1 ρ1 Γ σ->Rep H1 ρ1 p v->P p j H1 ρ1->Q v H1):WE X e σ H Q:=by
 refine s.run Γ σ H ρ st Q R G ?_;cases r:m Γ st with
 | ok p j=>rw [r] at h; exact fun H' ρ' q z v B=>k p j H' ρ' v q z (G.ext q) B (h H' ρ' q z)
 | exc e st=>rw [r] at h; exact h
 | stuck=>rw [r] at h; exact h
theorem SimE.use' {e:aD} {m:ME} (s:SimE X E e m) {P:PV->Q2->Hp->Tk->Prop} {Q:VK} (R:Rel H ρ st) (G:EnvR H ρ Γ σ) (h:Acc X.mg E H ρ P (m Γ st))
  (k:∀ p j H1 ρ1 v,m Γ st=.ok p j->Ext H ρ H1 ρ1->Rel H1 ρ1 j->EnvR H1 ρ1 Γ σ->Rep H1 ρ1 p v->P p j H1 ρ1->Q v H1):WE X e σ H Q:=by
 refine s.run Γ σ H ρ st Q R G ?_;cases r:m Γ st with
 | ok p j=>rw [r] at h; exact fun H' ρ' q z v B=>k p j H' ρ' v r q z (G.ext q) B (h H' ρ' q z)
 | exc e st=>rw [r] at h; exact h
 | stuck=>rw [r] at h; exact h
theorem SimA.use' {es:List aD} {m:Gam->Q2->Res (List PV)} (s:SimA X E es m) {P:List PV->Q2->Hp->Tk->Prop} {Q:List V->Hp->Prop} (R:Rel H ρ st) (G:EnvR H ρ Γ σ) (h:Acc X.mg E H ρ P (m Γ st))
  (k:∀ ps j H1 ρ1 vs,m Γ st=.ok ps j->Ext H ρ H1 ρ1->Rel H1 ρ1 j->EnvR H1 ρ1 Γ σ->RepL H1 ρ1 ps vs->P ps j H1 ρ1->Q vs H1):WA X es σ H Q:=by
 refine s.run Γ σ H ρ st Q R G ?_;cases r:m Γ st with
 | ok p j=>rw [r] at h; exact fun H' ρ' q z v B=>k p j H' ρ' v r q z (G.ext q) B (h H' ρ' q z)
 | exc e st=>rw [r] at h; exact h
 | stuck=>rw [r] at h; exact h
theorem SimT.use {e:aD} {m:Gam->Q2->Res Bool} (s:SimT X E e m) {P:Bool->Q2->Hp->Tk->Prop} {Q:Bool->Hp->Prop} (R:Rel H ρ st) (G:EnvR H ρ Γ σ) (h:Acc X.mg E H ρ P (m Γ st))
  (k:∀ p j H1 ρ1,Ext H ρ H1 ρ1->Rel H1 ρ1 j->EnvR H1 ρ1 Γ σ->P p j H1 ρ1->Q p H1):WT X e σ H Q:=by
 refine s.run Γ σ H ρ st Q R G ?_;cases r:m Γ st with
 | ok p j=>rw [r] at h; exact fun H' ρ' q z=>k p j H' ρ' q z (G.ext q) (h H' ρ' q z)
 | exc e st=>rw [r] at h; exact h
 | stuck=>rw [r] at h; exact h
theorem SimT.use' {e:aD} {m:Gam->Q2->Res Bool} (s:SimT X E e m) {P:Bool->Q2->Hp->Tk->Prop} {Q:Bool->Hp->Prop} (R:Rel H ρ st) (G:EnvR H ρ Γ σ) (h:Acc X.mg E H ρ P (m Γ st))
  (k:∀ p j H1 ρ1,m Γ st=.ok p j->Ext H ρ H1 ρ1->Rel H1 ρ1 j->EnvR H1 ρ1 Γ σ->P p j H1 ρ1->Q p H1):WT X e σ H Q:=by
 refine s.run Γ σ H ρ st Q R G ?_;cases r:m Γ st with
 | ok p j=>rw [r] at h; exact fun H' ρ' q z=>k p j H' ρ' r q z (G.ext q) (h H' ρ' q z)
 | exc e st=>rw [r] at h; exact h
 | stuck=>rw [r] at h; exact h
theorem SimW.use {e:aD} {m:Gam->Q2->Res Bool} (s:SimW X E e m) {P:Bool->Q2->Hp->Tk->Prop} {Q:Bool->Hp->Prop} (R:Rel H ρ st) (G:EnvR H ρ Γ σ) (h:Acc X.mg E H ρ P (m Γ st))
  (k:∀ p j H1 ρ1,Ext H ρ H1 ρ1->Rel H1 ρ1 j->EnvR H1 ρ1 Γ σ->P p j H1 ρ1->Q p H1):WW X e σ H Q:=by
 refine s.run Γ σ H ρ st Q R G ?_;cases r:m Γ st with
 | ok p j=>rw [r] at h; exact fun H' ρ' q z=>k p j H' ρ' q z (G.ext q) (h H' ρ' q z)
 | exc e st=>rw [r] at h; exact h
 | stuck=>rw [r] at h; exact h
theorem SimA.use {es:List aD} {m:Gam->Q2->Res (List PV)} (s:SimA X E es m) {P:List PV->Q2->Hp->Tk->Prop} {Q:List V->Hp->Prop} (R:Rel H ρ st) (G:EnvR H ρ Γ σ) (h:Acc X.mg E H ρ P (m Γ st))
  (k:∀ ps j H1 ρ1 vs,Ext H ρ H1 ρ1->Rel H1 ρ1 j->EnvR H1 ρ1 Γ σ->RepL H1 ρ1 ps vs->P ps j H1 ρ1->Q vs H1):WA X es σ H Q:=by
 refine s.run Γ σ H ρ st Q R G ?_;cases r:m Γ st with
 | ok p j=>rw [r] at h; exact fun H' ρ' q z v B=>k p j H' ρ' v q z (G.ext q) B (h H' ρ' q z)
 | exc e st=>rw [r] at h; exact h
 | stuck=>rw [r] at h; exact h
theorem OpS.use {f:aB->aB->Sem aB} {o:OP} (s:OpS X E f o) {P:PV->Q2->Hp->Tk->Prop} {Q:VK} {p q:PV} {x y:V} (R:Rel H ρ st) (I:Rep H ρ p x) (G:Rep H ρ q y) (h:Acc X.mg E H ρ P (o st p q))
  (k:∀ p j H1 ρ1 v,Ext H ρ H1 ρ1->Rel H1 ρ1 j->Rep H1 ρ1 p v->P p j H1 ρ1->Q v H1):WO X f x y H Q:=by
 refine s.run H ρ st p q x y Q R I G ?_;cases r:o st p q with
 | ok p j=>rw [r] at h; exact fun H' ρ' B z v J=>k p j H' ρ' v B z J (h H' ρ' B z)
 | exc e st=>rw [r] at h; exact h
 | stuck=>rw [r] at h; exact h
end
end Sm
namespace Sm
open PySem PySem.Spec L2 SeqAt
mutual
def peq:PV->PV->Bool
 | .non,.non=>true
 | .bl a,.bl b=>a == b
 | .bl a,.int b=>(if a then 1 else 0) == b
 | .int a,.bl b=>a == (if b then 1 else 0)
 | .int a,.int b=>a == b
 | .str a,.str b=>a == b
 | .tup xs,.tup ys=>jb xs ys
 | .lst xs,.lst ys=>jb xs ys
 | .lst xs,.fro ys=>jb xs ys
 | .fro xs,.lst ys=>jb xs ys
 | .fro xs,.fro ys=>jb xs ys
 | _,_=>false
def jb:List PV->List PV->Bool
 | [],[]=>true
 | x :: xs,y :: ys=>peq x y && jb xs ys
 | _,_=>false
end
def Zm:Nat->PV->Bool
 | _,.ref _=>false
 | _,.dic=>false
 | 0,.tup _=>false
 | 0,.lst _=>false
 | 0,.fro _=>false
 | n + 1,.tup xs=>xs.all (Zm n)
 | n + 1,.lst xs=>xs.all (Zm n)
 | n + 1,.fro xs=>xs.all (Zm n)
 | _,_=>true
theorem Q75:∀ {xs ys:List PV},xs.length≠ys.length->jb xs ys=false
 | [],[],h=>absurd rfl h
 | [],_ :: _,_=>by simp [jb]
 | _ :: _,[],_=>by simp [jb]
 | x :: xs,y :: ys,h=>by
  rw [jb,Q75 (xs:=xs) (ys:=ys) fun e=>h (by simp [e]),dP]
theorem Q76:∀ {xs ys:List PV},xs.length=ys.length->jb xs ys=(bV xs.length).all fun j=>peq (xs.getD j .non) (ys.getD j .non)
 | [],[],_=>by simp [jb]
 | [],_ :: _,h=>by simp at h
 | _ :: _,[],h=>by simp at h
 | x :: xs,y :: ys,h=>by
  rw [jb,Q76 (xs:=xs) (ys:=ys) (by simpa using h),D8,eY,cT,eZ];rfl
section
variable {X:Cx} {pins:List (aA × Obj)} {σ:St} {H:Hp} {s:aC} {ρ:Tk}
mutual
theorem Qcb:∀ {p q:PV} {x:V} {n:Nat},Zm n p=true->Zm n q=true->Rep H ρ p x->Rep H ρ q x->peq p q=true
 | .non,q,x,n,_,B,h1,h2=>by
  cases h1;cases q <;> first | rfl | (cases n <;> cases B; done) | (cases h2; done) | (obtain ⟨_,_,e,_⟩:=h2; cases e) | (obtain ⟨_,_,e⟩:=h2; cases e)
 | .bl b,q,x,n,_,B,h1,h2=>by
  cases h1;cases q <;> first | (cases n <;> cases B; done) | (cases h2; simp [peq]; done) | (obtain ⟨_,_,e,_⟩:=h2; done) | (obtain ⟨_,_,e,_⟩:=h2; cases e; done) | (obtain ⟨_,_,e⟩:=h2; cases e)
 | .int b,q,x,n,_,B,h1,h2=>by
  cases h1;cases q <;> first | (cases n <;> cases B; done) | (cases h2; simp [peq]; done) | (obtain ⟨_,_,e,_⟩:=h2; done) | (obtain ⟨_,_,e,_⟩:=h2; cases e; done) | (obtain ⟨_,_,e⟩:=h2; cases e)
 | .str b,q,x,n,_,B,h1,h2=>by
  cases h1;cases q <;> first | (cases n <;> cases B; done) | (cases h2; simp [peq]; done) | (obtain ⟨_,_,e,_⟩:=h2; done) | (obtain ⟨_,_,e,_⟩:=h2; cases e; done) | (obtain ⟨_,_,e⟩:=h2; cases e)
 | .tup ps,q,x,0,G,_,_,_=>by cases G
 | .tup ps,q,x,n + 1,G,B,⟨a,vs,e,z,_,r⟩,h2=>by
  subst e;cases q with
  | tup J=>
   obtain ⟨b,us,e,j,_,I⟩:=h2;cases e;rw [z] at j; cases j;rw [peq];exact qa G B r I
  | lst J=>obtain ⟨b,us,e,j,_⟩:=h2; cases e; rw [z] at j; cases j
  | fro J=>obtain ⟨b,us,e,j,_⟩:=h2; cases e; rcases j with j | ⟨o,j⟩ <;> (rw [z] at j; cases j)
  | ref i=>cases B
  | dic=>cases B
  | _=>cases h2
 | .lst ps,q,x,0,G,_,_,_=>by cases G
 | .lst ps,q,x,n + 1,G,B,⟨a,vs,e,z,_,r⟩,h2=>by
  subst e;cases q with
  | lst J=>
   obtain ⟨b,us,e,j,_,I⟩:=h2;cases e;rw [z] at j; cases j;rw [peq];exact qa G B r I
  | tup J=>obtain ⟨b,us,e,j,_⟩:=h2; cases e; rw [z] at j; cases j
  | fro J=>
   obtain ⟨b,us,e,j,_,I⟩:=h2;cases e;rcases j with j | ⟨o,j⟩
   ·rw [z] at j; cases j;rw [peq];exact qa G B r I
   ·rw [z] at j; cases j
  | ref i=>cases B
  | dic=>cases B
  | _=>cases h2
 | .fro ps,q,x,0,G,_,_,_=>by cases G
 | .fro ps,q,x,n + 1,G,B,⟨a,vs,e,z,_,r⟩,h2=>by
  subst e;cases q with
  | lst J=>
   obtain ⟨b,us,e,j,_,I⟩:=h2;cases e;rcases z with z | ⟨o,z⟩
   ·rw [z] at j; cases j;rw [peq];exact qa G B r I
   ·rw [z] at j; cases j
  | tup J=>obtain ⟨b,us,e,j,_⟩:=h2; cases e; rcases z with z | ⟨o,z⟩ <;> (rw [z] at j; cases j)
  | fro J=>
   obtain ⟨b,us,e,j,_,I⟩:=h2;cases e;have:vs=us:=by
    rcases z with z | ⟨o,z⟩ <;> rcases j with j | ⟨o',j⟩ <;> (rw [z] at j; cases j) <;> rfl
   subst this;rw [peq];exact qa G B r I
  | ref i=>cases B
  | dic=>cases B
  | _=>cases h2
 | .ref i,_,_,n,G,_,_,_=>by cases n <;> cases G
 | .dic,_,_,n,G,_,_,_=>by cases n <;> cases G
theorem qa:∀ {ps j:List PV} {vs:List V} {n:Nat},ps.all (Zm n)=true->j.all (Zm n)=true->RepL H ρ ps vs->RepL H ρ j vs->jb ps j=true
 | [],j,vs,n,_,_,h1,h2=>by
  cases h1;cases j with
  | nil=>rfl
  | cons q j=>obtain ⟨_,_,e,_⟩:=h2; cases e
 | p :: ps,j,vs,n,G,g2,⟨v,r,e,h1,z⟩,h2=>by
  subst e;cases j with
  | nil=>cases h2
  | cons q j=>
   obtain ⟨_,_,e,h2,B⟩:=h2;cases e;rw [cT,F6] at G g2;rw [jb,Qcb G.1 g2.1 h1 h2,qa G.2 g2.2 z B]; rfl
end
inductive Kd (H:Hp) (ρ:Tk) (s:aC):PV->aB->Prop where
 | non:Kd H ρ s .non .none
 | bl (b):Kd H ρ s (.bl b) (.bool b)
 | int (i t):Kd H ρ s (.int i) (.int i t)
 | str (x t):Kd H ρ s (.str x) (.str x t)
 | tup (ps a) (vs:List V) (its:List aB):H a=some (.tup vs)->RepL H ρ ps vs->Vals vs its->s.heap.IsTuple a its.toArray->Kd H ρ s (.tup ps) (.ref a)
 | lst (p ps a) (vs:List V) (its:List aB):(p=.lst ps\/p=.fro ps)->RepL H ρ ps vs->Vals vs its->s.heap.IsList a its.toArray->Kd H ρ s p (.ref a)
theorem Qfr {p:PV} {x:V} {u:aB} {n:Nat} (I:Inv X pins σ H s) (g:Zm n p=true) (r:Rep H ρ p x) (j:RelV x u):Kd H ρ s p u:=by
 cases p with
 | non=>cases r; cases j; exact .non
 | bl b=>cases r; cases j; exact .bl b
 | int i=>cases r; obtain ⟨t,rfl⟩:=j; exact .int i t
 | str i=>cases r; obtain ⟨t,rfl⟩:=j; exact .str i t
 | tup ps=>
  obtain ⟨a,vs,rfl,q,_,B⟩:=r;cases j;obtain ⟨its,z,G,_⟩:=I.tuple (SqT.of (K:=X.K) q);exact .tup ps a vs its q B z G
 | lst ps=>
  obtain ⟨a,vs,rfl,q,_,B⟩:=r;cases j;obtain ⟨its,z,G,_⟩:=I.list (SqL.of (K:=X.K) q);exact .lst _ ps a vs its (.inl rfl) B z G.isList
 | fro ps=>
  obtain ⟨a,vs,rfl,q,_,B⟩:=r;cases j;obtain ⟨its,z,G,_⟩:=I.list (show SqL X.K H a vs from .inl q);exact .lst _ ps a vs its (.inr rfl) B z G.isList
 | ref i=>cases n <;> cases g
 | dic=>cases n <;> cases g
theorem Q6e {ps:List PV} {vs:List V} {its:List aB} (r:RepL H ρ ps vs) (v:Vals vs its) {j:Nat} (h:j < its.length):∃ x,Rep H ρ (ps.getD j .non) x/\RelV x its[j]:=by
 have G:=r.length;have B:=v.length;have q:j < ps.length:=by omega
 obtain ⟨x,e1,e2⟩:=r.get (O4 q);obtain ⟨u,e3,z⟩:=v.get e1;rw [O4 h] at e3; cases e3;refine ⟨x,?_,z⟩;rw [bZ,O4 q];exact e2
theorem Q25 {ps:List PV} {n:Nat} (g:ps.all (Zm n)=true) (j:Nat) (q:j < ps.length):Zm n (ps.getD j .non)=true:=by
 rw [bZ,O4 q];exact (F7.mp g) _ (dU q)
theorem Qe6 {ps q:List PV}:((bV (min ps.length q.length)).all (fun j=>peq (ps.getD j .non) (q.getD j .non)) && ps.length == q.length)=jb ps q:=by
 by_cases e:ps.length=q.length
 ·rw [Q76 e,<- e,eu,beq_self_eq_true,Bool.and_true]
 ·rw [Q75 e,beq_eq_false_iff_ne.mpr e,dP]
theorem Qfw:∀ (n:Nat) {A:aR} {p q:PV} {x y:V} {u v:aB},Inv X pins σ H s->Zm n p=true->Zm n q=true->A.units + n < aa->Rep H ρ p x->RelV x u->Rep H ρ q y->RelV y v ->
  EqAt A s u v (peq p q)/\RcAt A s u v (peq p q)/\RcNeAt A s u v (!peq p q):=by
 intro n
 induction n with
 | zero=>
  intro A p q x y u v I Y J hu rp ru rq rv;have k1:=Qfr I Y rp ru;have k2:=Qfr I J rq rv;have hu:A.units < aa:=by omega
  cases k1 with
  | tup=>cases Y
  | lst p ps a vs its h=>rcases h with rfl | rfl <;> cases Y
  | non=>cases k2 with
   | tup=>cases J
   | lst p ps a vs its h=>rcases h with rfl | rfl <;> cases J
   | non=>exact ⟨EqAt.same _,RcAt.none_none,RcNeAt.none_none⟩
   | bl b=>exact ⟨EqAt.none_bool _,RcAt.none_bool _,RcNeAt.none_bool _⟩
   | int i t=>exact ⟨EqAt.none_int _ _,RcAt.none_int _ _,RcNeAt.none_int _ _⟩
   | str i t=>exact ⟨EqAt.none_str _ _,RcAt.none_str _ _,RcNeAt.none_str _ _⟩
  | bl a=>cases k2 with
   | tup=>cases J
   | lst p ps a vs its h=>rcases h with rfl | rfl <;> cases J
   | non=>exact ⟨EqAt.bool_none _,RcAt.bool_none _,RcNeAt.bool_none _⟩
   | bl b=>exact ⟨EqAt.bool_bool _ _,RcAt.bool_bool _ _,RcNeAt.bool_bool _ _⟩
   | int i t=>exact ⟨EqAt.bool_int _ _ _,RcAt.bool_int _ _ _,RcNeAt.bool_int _ _ _⟩
   | str i t=>exact ⟨EqAt.bool_str _ _ _,RcAt.bool_str _ _ _,RcNeAt.bool_str _ _ _⟩
  | int a a4=>cases k2 with
   | tup=>cases J
   | lst p ps a vs its h=>rcases h with rfl | rfl <;> cases J
   | non=>exact ⟨EqAt.int_none _ _,RcAt.int_none _ _,RcNeAt.int_none _ _⟩
   | bl b=>exact ⟨EqAt.int_bool _ _ _,RcAt.int_bool _ _ _,RcNeAt.int_bool _ _ _⟩
   | int i t=>exact ⟨EqAt.int_int _ _ _ _,RcAt.int_int _ _ _ _,RcNeAt.int_int _ _ _ _⟩
   | str i t=>exact ⟨EqAt.int_str _ _ _ _,RcAt.int_str _ _ _ _,RcNeAt.int_str _ _ _ _⟩
  | str a a4=>cases k2 with
   | tup=>cases J
   | lst p ps a vs its h=>rcases h with rfl | rfl <;> cases J
   | non=>exact ⟨EqAt.str_none _ _,RcAt.str_none _ _,RcNeAt.str_none _ _⟩
   | bl b=>exact ⟨EqAt.str_bool _ _ _,RcAt.str_bool _ _ _,RcNeAt.str_bool _ _ _⟩
   | int i t=>exact ⟨EqAt.str_int _ _ _ _,RcAt.str_int _ _ _ _,RcNeAt.str_int _ _ _ _⟩
   | str i t=>exact ⟨EqAt.str_str _ _ _ _,RcAt.str_str _ _ _ _,RcNeAt.str_str _ _ _ _⟩
 | succ n ih=>
  intro A p q x y u v I Y J hu rp ru rq rv;have k1:=Qfr I Y rp ru;have k2:=Qfr I J rq rv;have z:A.units < aa:=by omega
  have a5:A.in1.units + n < aa:=by show A.units + 1 + n < aa; omega
  cases k1 with
  | non=>cases k2 with
   | non=>exact ⟨EqAt.same _,RcAt.none_none,RcNeAt.none_none⟩
   | bl b=>exact ⟨EqAt.none_bool _,RcAt.none_bool _,RcNeAt.none_bool _⟩
   | int i t=>exact ⟨EqAt.none_int _ _,RcAt.none_int _ _,RcNeAt.none_int _ _⟩
   | str i t=>exact ⟨EqAt.none_str _ _,RcAt.none_str _ _,RcNeAt.none_str _ _⟩
   | tup ps a vs its ha r U B=>exact ⟨EqAt.none_tuple B z,RcAt.none_tuple B z,RcNeAt.none_tuple B z⟩
   | lst p ps a vs its h r U B=>rcases h with rfl | rfl <;> exact ⟨EqAt.none_list B z,RcAt.none_list B z,RcNeAt.none_list B z⟩
  | bl a=>cases k2 with
   | non=>exact ⟨EqAt.bool_none _,RcAt.bool_none _,RcNeAt.bool_none _⟩
   | bl b=>exact ⟨EqAt.bool_bool _ _,RcAt.bool_bool _ _,RcNeAt.bool_bool _ _⟩
   | int i t=>exact ⟨EqAt.bool_int _ _ _,RcAt.bool_int _ _ _,RcNeAt.bool_int _ _ _⟩
   | str i t=>exact ⟨EqAt.bool_str _ _ _,RcAt.bool_str _ _ _,RcNeAt.bool_str _ _ _⟩
   | tup ps a vs its ha r U B=>exact ⟨EqAt.bool_tuple _ B z,RcAt.bool_tuple _ B z,RcNeAt.bool_tuple _ B z⟩
   | lst p ps a vs its h r U B=>rcases h with rfl | rfl <;> exact ⟨EqAt.bool_list _ B z,RcAt.bool_list _ B z,RcNeAt.bool_list _ B z⟩
  | int a a4=>cases k2 with
   | non=>exact ⟨EqAt.int_none _ _,RcAt.int_none _ _,RcNeAt.int_none _ _⟩
   | bl b=>exact ⟨EqAt.int_bool _ _ _,RcAt.int_bool _ _ _,RcNeAt.int_bool _ _ _⟩
   | int i t=>exact ⟨EqAt.int_int _ _ _ _,RcAt.int_int _ _ _ _,RcNeAt.int_int _ _ _ _⟩
   | str i t=>exact ⟨EqAt.int_str _ _ _ _,RcAt.int_str _ _ _ _,RcNeAt.int_str _ _ _ _⟩
   | tup ps a vs its ha r U B=>exact ⟨EqAt.int_tuple _ _ B z,RcAt.int_tuple _ _ B z,RcNeAt.int_tuple _ _ B z⟩
   | lst p ps a vs its h r U B=>rcases h with rfl | rfl <;> exact ⟨EqAt.int_list _ _ B z,RcAt.int_list _ _ B z,RcNeAt.int_list _ _ B z⟩
  | str a a4=>cases k2 with
   | non=>exact ⟨EqAt.str_none _ _,RcAt.str_none _ _,RcNeAt.str_none _ _⟩
   | bl b=>exact ⟨EqAt.str_bool _ _ _,RcAt.str_bool _ _ _,RcNeAt.str_bool _ _ _⟩
   | int i t=>exact ⟨EqAt.str_int _ _ _ _,RcAt.str_int _ _ _ _,RcNeAt.str_int _ _ _ _⟩
   | str i t=>exact ⟨EqAt.str_str _ _ _ _,RcAt.str_str _ _ _ _,RcNeAt.str_str _ _ _ _⟩
   | tup ps a vs its ha r U B=>exact ⟨EqAt.str_tuple _ _ B z,RcAt.str_tuple _ _ B z,RcNeAt.str_tuple _ _ B z⟩
   | lst p ps a vs its h r U B=>rcases h with rfl | rfl <;> exact ⟨EqAt.str_list _ _ B z,RcAt.str_list _ _ B z,RcNeAt.str_list _ _ B z⟩
  | tup ps a vs its ha r U B=>cases k2 with
   | non=>exact ⟨EqAt.tuple_none B z,RcAt.tuple_none B z,RcNeAt.tuple_none B z⟩
   | bl b=>exact ⟨EqAt.tuple_bool _ B z,RcAt.tuple_bool _ B z,RcNeAt.tuple_bool _ B z⟩
   | int i t=>exact ⟨EqAt.tuple_int _ _ B z,RcAt.tuple_int _ _ B z,RcNeAt.tuple_int _ _ B z⟩
   | str i t=>exact ⟨EqAt.tuple_str _ _ B z,RcAt.tuple_str _ _ B z,RcNeAt.tuple_str _ _ B z⟩
   | tup O b us G hb Z v2 p2=>
    have l1:its.toArray.size=ps.length:=by rw [O3,<- U.length,r.length]
    have l2:G.toArray.size=O.length:=by rw [O3,<- v2.length,Z.length]
    have he:∀ j (h1:j < its.toArray.size) (h2:j < G.toArray.size),EqAt A.in1 s its.toArray[j] G.toArray[j] (peq (ps.getD j .non) (O.getD j .non)):=fun j h1 h2=>by
     obtain ⟨x1,a1,b1⟩:=Q6e r U (j:=j) (by simpa using h1);obtain ⟨x2,a2,b2⟩:=Q6e Z v2 (j:=j) (by simpa using h2);exact (ih I (Q25 Y j (by omega)) (Q25 J j (by omega)) a5 a1 b1 a2 b2).1
    have rc:=RcAt.tuples B p2 z he;have rn:=RcNeAt.tuples B p2 z he;rw [l1,l2,Qe6] at rc rn;refine ⟨?_,rc,rn⟩
    by_cases e:a=b
    ·subst e;have:jb ps O=true:=by
      rw [ha] at hb; cases hb;exact qa Y J r Z
     show EqAt A s _ _ (jb ps O);rw [this];exact EqAt.same _
    ·exact EqAt.of_refs e rc
   | lst q O b us G h Z v2 p2=>rcases h with rfl | rfl <;> exact ⟨EqAt.tuple_list B p2 z,RcAt.tuple_list B p2 z,RcNeAt.tuple_list B p2 z⟩
  | lst p ps a vs its h r U B=>cases k2 with
   | non=>rcases h with rfl | rfl <;> exact ⟨EqAt.list_none B z,RcAt.list_none B z,RcNeAt.list_none B z⟩
   | bl b=>rcases h with rfl | rfl <;> exact ⟨EqAt.list_bool _ B z,RcAt.list_bool _ B z,RcNeAt.list_bool _ B z⟩
   | int i t=>rcases h with rfl | rfl <;> exact ⟨EqAt.list_int _ _ B z,RcAt.list_int _ _ B z,RcNeAt.list_int _ _ B z⟩
   | str i t=>rcases h with rfl | rfl <;> exact ⟨EqAt.list_str _ _ B z,RcAt.list_str _ _ B z,RcNeAt.list_str _ _ B z⟩
   | tup O b us G hb Z v2 p2=>rcases h with rfl | rfl <;> exact ⟨EqAt.list_tuple B p2 z,RcAt.list_tuple B p2 z,RcNeAt.list_tuple B p2 z⟩
   | lst q O b us G h2 Z v2 p2=>
    have l1:its.toArray.size=ps.length:=by rw [O3,<- U.length,r.length]
    have l2:G.toArray.size=O.length:=by rw [O3,<- v2.length,Z.length]
    have a6:ps.all (Zm n)=true:=by rcases h with rfl | rfl <;> exact Y
    have a8:O.all (Zm n)=true:=by rcases h2 with rfl | rfl <;> exact J
    have ep:peq p q=jb ps O:=by rcases h with rfl | rfl <;> rcases h2 with rfl | rfl <;> rfl
    have he:∀ j (h1:j < its.toArray.size) (h2:j < G.toArray.size),EqAt A.in1 s its.toArray[j] G.toArray[j] (peq (ps.getD j .non) (O.getD j .non)):=fun j h1 h2=>by
     obtain ⟨x1,a1,b1⟩:=Q6e r U (j:=j) (by simpa using h1);obtain ⟨x2,a2,b2⟩:=Q6e Z v2 (j:=j) (by simpa using h2);exact (ih I (Q25 a6 j (by omega)) (Q25 a8 j (by omega)) a5 a1 b1 a2 b2).1
    rw [ep];have a3:RcAt A s (.ref a) (.ref b) (jb ps O)/\RcNeAt A s (.ref a) (.ref b) (!jb ps O):=by
     by_cases e:ps.length=O.length
     ·have rc:=RcAt.lists B p2 (by rw [l1,l2,e]) z he;have rn:=RcNeAt.lists B p2 (by rw [l1,l2,e]) z he;rw [l1,<- Q76 e] at rc rn;exact ⟨rc,rn⟩
     ·have e':(its.toArray.size != G.toArray.size)=true:=by rw [l1,l2]; simpa using e
      rw [Q75 e];exact ⟨RcAt.lists_lengths B p2 e' z,RcNeAt.lists_lengths B p2 e' z⟩
    refine ⟨?_,a3.1,a3.2⟩
    by_cases e:a=b
    ·subst e;have a7:peq p q=true:=by
      have b0:=rp;have a9:=rq;have xa:x=.ref a:=by
       rcases h with rfl | rfl <;> (obtain ⟨b',_,rfl,_⟩:=rp; cases ru; rfl)
      have ya:y=.ref a:=by
       rcases h2 with rfl | rfl <;> (obtain ⟨b',_,rfl,_⟩:=rq; cases rv; rfl)
      subst xa; subst ya;exact Qcb Y J rp rq
     rw [<- ep,a7];exact EqAt.same _
    ·exact EqAt.of_refs e a3.1
end
end Sm
namespace Sm
open PySem PySem.Spec L2
def lim:Nat:=1000000
theorem Qen:lim<=sizeLine:=by decide
theorem qg {n:Nat} (h:n<=lim):n<=sizeLine:=F1 h Qen
def Q1i (st:Q2):PV->Option (List PV)
 | .lst xs=>some xs
 | .ref i=>match st[i]? with
  | some (.lst xs)=>some xs
  | _=>none
 | _=>none
def yh (st:Q2):PV->Option (List PV)
 | .fro xs=>some xs
 | p=>Q1i st p
def K1 (st:Q2):PV->Option (List PV)
 | .tup xs=>some xs
 | p=>yh st p
def der (st:Q2):PV->PV
 | .ref i=>match st[i]? with
  | some (.lst xs)=>.lst xs
  | _=>.ref i
 | p=>p
section
variable {H:Hp} {ρ:Tk} {st:Q2} {p:PV} {v:V} {xs:List PV}
theorem Q7x (R:Rel H ρ st) (r:Rep H ρ p v) (e:Q1i st p=some xs):∃ a vs,v=.ref a/\H a=some (.lst vs)/\RepL H ρ xs vs:=by
 cases p with
 | lst ys=>
  obtain ⟨a,vs,e1,e2,_,e3⟩:=r;cases e;exact ⟨a,vs,e1,e2,e3⟩
 | ref i=>
  obtain ⟨a,e1,e2⟩:=r;simp only [Q1i] at e
  split at e
  ·rename_i ys hs;cases e;obtain ⟨b,vs,j,q,z⟩:=R.lst hs;rw [e1] at j; cases j;exact ⟨a,vs,e2,q,z⟩
  ·cases e
 | _=>cases e
theorem Q3z (R:Rel H ρ st) (r:Rep H ρ p v) (e:yh st p=some xs):∃ a vs,v=.ref a/\Rd H a (.lst vs)/\RepL H ρ xs vs:=by
 cases p with
 | fro ys=>
  obtain ⟨a,vs,e1,e2,_,e3⟩:=r;cases e;exact ⟨a,vs,e1,e2,e3⟩
 | _=>
  obtain ⟨a,vs,e1,e2,e3⟩:=Q7x R r e;exact ⟨a,vs,e1,.inl e2,e3⟩
theorem Q4d {K:bP} (R:Rel H ρ st) (r:Rep H ρ p v) (e:K1 st p=some xs):∃ (t:Bool) (a:aA) (vs:List V),v=.ref a/\SqK K t H a vs/\RepL H ρ xs vs:=by
 cases p with
 | tup ys=>
  obtain ⟨a,vs,e1,e2,_,e3⟩:=r;cases e;exact ⟨true,a,vs,e1,show SqT K H a vs from SqT.of e2,e3⟩
 | _=>
  obtain ⟨a,vs,e1,e2,e3⟩:=Q3z R r e;exact ⟨false,a,vs,e1,show SqL K H a vs from .inl e2,e3⟩
theorem Qij {K:bP} {t:Bool} {a:aA} {vs:List V} (h:SqK K t H a vs):SqL K H a vs\/SqT K H a vs:=by
 cases t with
 | true=>exact .inr h
 | false=>exact .inl h
mutual
theorem Qf7:∀ {n:Nat} {q:PV} {u:V},Zm n q=true->Rep H ρ q u->Rep H Tk.nil q u
 | _,.non,_,_,r=>r
 | _,.bl _,_,_,r=>r
 | _,.int _,_,_,r=>r
 | _,.str _,_,_,r=>r
 | 0,.tup _,_,g,_=>by cases g
 | 0,.lst _,_,g,_=>by cases g
 | 0,.fro _,_,g,_=>by cases g
 | n + 1,.tup _,_,g,⟨a,vs,e,h,_,r⟩=>⟨a,vs,e,h,Tk.not_nil _,zg g r⟩
 | n + 1,.lst _,_,g,⟨a,vs,e,h,_,r⟩=>⟨a,vs,e,h,Tk.not_nil _,zg g r⟩
 | n + 1,.fro _,_,g,⟨a,vs,e,h,_,r⟩=>⟨a,vs,e,h,Tk.not_nil _,zg g r⟩
 | 0,.ref _,_,g,_=>by cases g
 | _ + 1,.ref _,_,g,_=>by cases g
 | 0,.dic,_,g,_=>by cases g
 | _ + 1,.dic,_,g,_=>by cases g
theorem zg:∀ {n:Nat} {j:List PV} {us:List V},j.all (Zm n)=true->RepL H ρ j us->RepL H Tk.nil j us
 | _,[],_,_,r=>r
 | n,q :: j,_,g,⟨v,r,e,h1,h2⟩=>by
  rw [cT,F6] at g;exact ⟨v,r,e,Qf7 g.1 h1,zg g.2 h2⟩
end
theorem Q26 (R:Rel H ρ st) {n:Nat} (g:Zm n (der st p)=true) (r:Rep H ρ p v):Rep H Tk.nil (der st p) v:=by
 cases p with
 | ref i=>
  obtain ⟨a,e1,e2⟩:=r;simp only [der] at g ⊢
  split at g
  ·rename_i ys hs;obtain ⟨b,vs,j,q,z⟩:=R.lst hs;rw [e1] at j; cases j;cases n with
   | zero=>cases g
   | succ n=>exact ⟨a,vs,e2,q,Tk.not_nil _,zg g z⟩
  ·cases n <;> cases g
 | _=>exact Qf7 g r
theorem Q3s {mg:Str->Option aB} {E:XK} {Q:VK} {ps:List PV} {vs:List V} (R:Rel H ρ st) (h:Acc mg E H ρ (QV Q) (.ok (.tup ps) st)) (r:RepL H ρ ps vs):∀ p,H p=none->Q (.ref p) (upd H p (.tup vs)):=
 fun p hp=>h _ ρ (Ext.add hp) (R.add hp) _ ⟨p,vs,rfl,Jb,R.fresh hp,r.ext (Ext.add hp)⟩
theorem Q3t {mg:Str->Option aB} {E:XK} {Q:VK} {ps:List PV} {vs:List V} (R:Rel H ρ st) (h:Acc mg E H ρ (QV Q) (.ok (.lst ps) st)) (r:RepL H ρ ps vs):∀ p,H p=none->Q (.ref p) (upd H p (.lst vs)):=
 fun p hp=>h _ ρ (Ext.add hp) (R.add hp) _ ⟨p,vs,rfl,Jb,R.fresh hp,r.ext (Ext.add hp)⟩
theorem now {mg:Str->Option aB} {E:XK} {Q:VK} {p:PV} (R:Rel H ρ st) (h:Acc mg E H ρ (QV Q) (.ok p st)) (r:Rep H ρ p v):Q v H:=h H ρ (Ext.refl _ _) R v r
end
section
variable {X:Cx} {E:XK} {pos:Pos}
def Q4 (i:Nat):ME:=fun Γ st=>match Γ[i]? with
 | some (some p)=>.ok p st
 | _=>.stuck
def mC (p:PV):ME:=fun _ st=>.ok p st
theorem Q0 (i:Nat) {x:Str} (q:X.N[i]?=some x:=by rfl) (z:Vis X.env.scope x:=by first | exact Or.inl rfl | exact Or.inr (Or.inl rfl) | exact Or.inr (Or.inr rfl)) (hd:(x == ("__debug__" : Str))=false:=by decide)
  (j:(x == ("__classdict__" : Str))=false:=by decide):SimE X E (.Name x pos) (Q4 i):=⟨fun Γ σ H ρ st Q R G h=>WE.of (Qj9 q z hd j) (by
 unfold Q4 at h
 split at h
 ·rename_i p e;obtain ⟨v,e1,r⟩:=G.2 i p e;exact ⟨v,e1,now R h r⟩
 ·exact h.elim)⟩
theorem Qa {i:Int} {j:Nat}:SimE X E (.Constant (.int i) j pos) (mC (.int i)):=⟨fun Γ σ H ρ st Q R G h=>WE.of Qry (now R h rfl)⟩
theorem Q3e {b:Bool} {j:Nat}:SimE X E (.Constant (.bool b) j pos) (mC (.bl b)):=⟨fun Γ σ H ρ st Q R G h=>WE.of Qux (now R h rfl)⟩
theorem J2 {x:Str} {j:Nat}:SimE X E (.Constant (.str x) j pos) (mC (.str x)):=⟨fun Γ σ H ρ st Q R G h=>WE.of Q19 (now R h rfl)⟩
theorem Qmw {x:Str} {i:Int} {t:Tok} (j:Gl X x) (q:X.mg x=some (.int i t)) (hd:(x == ("__debug__" : Str))=false:=by decide):SimE X E (.Name x pos) (mC (.int i)):=
 ⟨fun Γ σ H ρ st Q R G h=>WE.of (Qnm j q (v:=.int i) ⟨t,rfl⟩ hd) (now R h rfl)⟩
variable {a b c:aD} {ma mb mc:ME}
def mOp (o:OP) (ma mb:ME):ME:=fun Γ st=>(ma Γ st).bind fun x st1=>(mb Γ st1).bind fun y st2=>o st2 x y
theorem Qbs {f:aB->aB->Sem aB} {o:OP} {Γ:Gam} {σ:St} {H:Hp} {ρ:Tk} {st:Q2} {P:PV->Q2->Hp->Tk->Prop} {Q:VK} (ho:OpS X E f o) (ha:SimE X E a ma) (hb:SimE X E b mb) (R:Rel H ρ st) (G:EnvR H ρ Γ σ) (h:Acc X.mg E H ρ P (mOp o ma mb Γ st))
  (k:∀ p j H1 ρ1 v,Ext H ρ H1 ρ1->Rel H1 ρ1 j->Rep H1 ρ1 p v->P p j H1 ρ1->Q v H1):tOp (WO X f) (WE X a) (WE X b) σ H Q:=by
 refine ha.use R G h.bind fun p j H1 ρ1 v x1 R1 G1 r1 h1=>?_
 refine hb.use R1 G1 h1.bind fun q a3 H2 a2 u J R2 G2 r2 h2=>?_
 exact ho.use R2 (r1.ext J) r2 h2 fun w I Y B z O Z U p3=>k w I Y B z (x1.trans (J.trans O)) Z U p3
theorem Jd {op:Operator} {o:OP} (B:OpS X E (aW op) o) (z:SimE X E a ma) (j:SimE X E b mb):SimE X E (.BinOp a op b pos) (mOp o ma mb):=
 ⟨fun Γ σ H ρ st Q R G h=>WE.of (Quu Qe7 Yu Yu) (Qbs B z j R G h fun _ _ _ _ v _ _ r q=>q v r)⟩
theorem Kv {op:CmpOp} {o:OP} (I:OpS X E (aV op) o) (B:SimE X E a ma) (z:SimE X E b mb) (j:bC op b=false:=by first | exact Qjq _ | rfl):SimE X E (.Compare a [op] [b] pos) (mOp o ma mb):=
 ⟨fun Γ σ H ρ st Q R G h=>WE.of (Qnn Qe7 Yu Yu j) (Qbs I B z R G h fun _ _ _ _ v _ _ r q=>q v r)⟩
def asB (p:PV) (st:Q2):Res Bool:=match p with
 | .bl k=>.ok k st
 | _=>.stuck
def toB (m:ME):Gam->Q2->Res Bool:=fun Γ st=>(m Γ st).bind asB
theorem Qm8 {mg:Str->Option aB} {H:Hp} {ρ:Tk} {st:Q2} {p:PV} {v:V} {P:Bool->Q2->Hp->Tk->Prop} (R:Rel H ρ st) (r:Rep H ρ p v) (h:Acc mg E H ρ P (asB p st)):∃ k,v=.bl k/\P k st H ρ:=by
 cases p with
 | bl k=>exact ⟨k,r,h H ρ (Ext.refl _ _) R⟩
 | _=>exact h.elim
theorem Jc {op:CmpOp} {o:OP} (U:OpS X E (aV op) o) (J:SimE X E a ma) (B:SimE X E b mb) (j:bC op b=false:=by first | exact Qjq _ | rfl):SimT X E (.Compare a [op] [b] pos) (toB (mOp o ma mb)):=
 ⟨fun Γ σ H ρ st Q R G h=>WT.of (Qn8 Qe7 Yu Yu j) (Qbs U J B R G h.bind fun _ I _ _ v _ O r q=>by
  obtain ⟨k,e,z⟩:=Qm8 O r q;exact ⟨k,e,z⟩)⟩
theorem Wa {e:aD} {m:ME} (h:SimE X E e m) (I:∀ j,isTrue e X.env j=(do let v <- j; standAt e.pos; ai [v] (truthy v)):=by intro _; rfl):SimT X E e (toB m):=
 ⟨fun Γ σ H ρ st Q R G O=>WT.of (Qrj Yu I) (h.use R G O.bind fun p B H1 ρ1 v Y J U q h1=>by
  obtain ⟨k,e,z⟩:=Qm8 J q h1;exact ⟨k,e,z⟩)⟩
def Q1h (o o':OP) (ma mb mc:ME):ME:=fun Γ st=>(ma Γ st).bind fun x st1=>(mb Γ st1).bind fun y st2=>(o st2 x y).bind fun k st3=>match k with
 | .bl true=>(mc Γ st3).bind fun z st4=>o' st4 y z
 | .bl false=>.ok (.bl false) st3
 | _=>.stuck
theorem Qag {op I:CmpOp} {o o':OP} {Γ:Gam} {σ:St} {H:Hp} {ρ:Tk} {st:Q2} {P:PV->Q2->Hp->Tk->Prop} {Q:VK} (ho:OpS X E (aV op) o) (a2:OpS X E (aV I) o') (ha:SimE X E a ma) (hb:SimE X E b mb) (hc:SimE X E c mc) (R:Rel H ρ st) (G:EnvR H ρ Γ σ) (h:Acc X.mg E H ρ P (Q1h o o' ma mb mc Γ st))
  (k:∀ p j H1 ρ1 v,Ext H ρ H1 ρ1->Rel H1 ρ1 j->Rep H1 ρ1 p v->P p j H1 ρ1->Q v H1):Qdw (WO X (aV op)) (WO X (aV I)) (WE X a) (WE X b) (WE X c) σ H Q:=by
 refine ha.use R G h.bind fun p j H1 ρ1 v x1 R1 G1 r1 h1=>?_
 refine hb.use R1 G1 h1.bind fun q a7 H2 a5 u Y R2 G2 r2 h2=>?_
 refine ho.use R2 (r1.ext Y) r2 h2.bind fun w a8 H3 B z J U r3 O=>?_
 cases w with
 | bl b=>
  refine ⟨b,r3,?_⟩;cases b with
  | true=>
   rw [bJ rfl];refine hc.use U (G2.ext J) O.bind fun y a4 H4 a6 yv x4 R4 G4 r4 h4=>?_
   exact a2.use R4 (r2.ext (J.trans x4)) r4 h4 fun w Z H5 a3 z x5 R5 r5 p5=>k w Z H5 a3 z (x1.trans (Y.trans (J.trans (x4.trans x5)))) R5 r5 p5
  | false=>
   rw [bK D7];exact k (.bl false) _ H3 B _ (x1.trans (Y.trans J)) U rfl (O H3 B (Ext.refl _ _) U)
 | _=>exact O.elim
theorem Qiq {op j:CmpOp} {o o':OP} (U:OpS X E (aV op) o) (z:OpS X E (aV j) o') (O:SimE X E a ma) (J:SimE X E b mb) (B:SimE X E c mc) (I:lastMarks [op,j] [b,c]=false:=by with_unfolding_all rfl):SimE X E (.Compare a [op,j] [b,c] pos) (Q1h o o' ma mb mc):=
 ⟨fun Γ σ H ρ st Q R G h=>WE.of (Qje Qe7 Qe7 Yu Yu Yu I) (Qag U z O J B R G h fun _ _ _ _ v _ _ r q=>q v r)⟩
theorem Qc3 {op j:CmpOp} {o o':OP} (ho:OpS X E (aV op) o) (B:OpS X E (aV j) o') (Y:SimE X E a ma) (O:SimE X E b mb) (I:SimE X E c mc) (J:lastMarks [op,j] [b,c]=false:=by with_unfolding_all rfl):SimT X E (.Compare a [op,j] [b,c] pos) (toB (Q1h o o' ma mb mc)):=
 ⟨fun Γ σ H ρ st Q R G h=>WT.of (Qiz Qe7 Qe7 Yu Yu Yu J) (Qag ho B Y O I R G h.bind fun _ U _ _ v _ Z r q=>by
  obtain ⟨k,e,z⟩:=Qm8 Z r q;exact ⟨k,e,z⟩)⟩
variable {rest:List aD}
def Q51 (ma mb:ME):ME:=fun Γ st=>(ma Γ st).bind fun x st1=>match x with
 | .bl true=>mb Γ st1
 | .bl false=>.ok (.bl false) st1
 | _=>.stuck
def mOr (ma mb:ME):ME:=fun Γ st=>(ma Γ st).bind fun x st1=>match x with
 | .bl true=>.ok (.bl true) st1
 | .bl false=>mb Γ st1
 | _=>.stuck
def Qsm (ma:ME):ME:=fun Γ st=>(ma Γ st).bind fun x st1=>match x with
 | .bl k=>.ok (.bl (!k)) st1
 | _=>.stuck
theorem Q15 {op:BoolOp} (j:SimE X E a ma):SimE X E (.BoolOp op [a] pos) ma:=⟨fun Γ σ H ρ st Q R G h=>WE.of (Qrw Yu) (j.use R G h fun _ _ _ _ v _ _ _ r q=>q v r)⟩
theorem Q03 (O:SimE X E a ma) (B:SimE X E (.BoolOp .And (b :: rest) pos) mb):SimE X E (.BoolOp .And (a :: b :: rest) pos) (Q51 ma mb):=
 ⟨fun Γ σ H ρ st Q R G h=>WE.of (Qs1 Yu Yu) (O.use R G h.bind fun p I H1 ρ1 v U j J z h1=>by
  cases p with
  | bl k=>
   refine ⟨k,z,?_⟩;cases k with
   | true=>rw [bJ rfl]; exact B.use j J h1 fun _ _ _ _ v _ _ _ r q=>q v r
   | false=>rw [bK D7]; exact now j h1 rfl
  | _=>exact h1.elim)⟩
theorem Quc (O:SimE X E a ma) (B:SimE X E (.BoolOp .Or (b :: rest) pos) mb):SimE X E (.BoolOp .Or (a :: b :: rest) pos) (mOr ma mb):=
 ⟨fun Γ σ H ρ st Q R G h=>WE.of (Qut Yu Yu) (O.use R G h.bind fun p I H1 ρ1 v U j J z h1=>by
  cases p with
  | bl k=>
   refine ⟨k,z,?_⟩;cases k with
   | true=>rw [bJ rfl]; exact now j h1 rfl
   | false=>rw [bK D7]; exact B.use j J h1 fun _ _ _ _ v _ _ _ r q=>q v r
  | _=>exact h1.elim)⟩
theorem Qrb (z:SimE X E a ma):SimE X E (.UnaryOp .Not a pos) (Qsm ma):=
 ⟨fun Γ σ H ρ st Q R G h=>WE.of (Qrx Yu) (z.use R G h.bind fun p q H1 ρ1 v J B I j h1=>by
  cases p with
  | bl k=>exact ⟨k,j,now B h1 rfl⟩
  | _=>exact h1.elim)⟩
def Q50 (ma:ME):ME:=fun Γ st=>(ma Γ st).bind fun x st1=>match x with
 | .int k=>.ok (.int (-k)) st1
 | _=>.stuck
theorem Q16 (z:SimE X E a ma):SimE X E (.UnaryOp .USub a pos) (Q50 ma):=
 ⟨fun Γ σ H ρ st Q R G h=>WE.of (Qus Qr0 Yu) (z.use R G h.bind fun p q H1 ρ1 v J B I j h1=>by
  cases p with
  | int k=>exact ⟨k,j,now B h1 rfl⟩
  | _=>exact h1.elim)⟩
abbrev MT:=Gam->Q2->Res Bool
variable {ta tb:MT}
def Q0t (ta tb:MT):MT:=fun Γ st=>(ta Γ st).bind fun k st1=>if k=true then tb Γ st1 else .ok false st1
def Q11 (ta tb:MT):MT:=fun Γ st=>(ta Γ st).bind fun k st1=>if k=true then .ok true st1 else tb Γ st1
def U9 (ta:MT):MT:=fun Γ st=>(ta Γ st).bind fun k st1=>.ok (!k) st1
theorem SimW.t {e:aD} (h:SimW X E e ta):SimT X E e ta:=⟨fun Γ σ H ρ st Q R G q pins s I=>h.run Γ σ H ρ st Q R G q _ pins s I⟩
theorem Q3a (j:SimT X E a ta):SimW X E (.BoolOp .And [a] pos) ta:=⟨fun Γ σ H ρ st Q R G h=>WW.of (Qn4 Qcf) (j.use R G h fun _ _ _ _ _ _ _ q=>q)⟩
theorem Q12 (j:SimT X E a ta):SimW X E (.BoolOp .Or [a] pos) ta:=⟨fun Γ σ H ρ st Q R G h=>WW.of (Qrh Qcf) (j.use R G h fun _ _ _ _ _ _ _ q=>q)⟩
theorem Q6s (J:SimT X E a ta) (z:SimW X E (.BoolOp .And (b :: rest) pos) tb):SimW X E (.BoolOp .And (a :: b :: rest) pos) (Q0t ta tb):=
 ⟨fun Γ σ H ρ st Q R G h=>WW.of (Qri Qcf Quk) (J.use R G h.bind fun k B H1 ρ1 O j I h1=>by
  cases k with
  | true=>rw [bJ rfl] at h1 ⊢; exact z.use j I h1 fun _ _ _ _ _ _ _ q=>q
  | false=>rw [bK D7] at h1 ⊢; exact h1 H1 ρ1 (Ext.refl _ _) j)⟩
theorem Q2m (J:SimT X E a ta) (z:SimW X E (.BoolOp .Or (b :: rest) pos) tb):SimW X E (.BoolOp .Or (a :: b :: rest) pos) (Q11 ta tb):=
 ⟨fun Γ σ H ρ st Q R G h=>WW.of (Qum Qcf Quk) (J.use R G h.bind fun k B H1 ρ1 O j I h1=>by
  cases k with
  | true=>rw [bJ rfl] at h1 ⊢; exact h1 H1 ρ1 (Ext.refl _ _) j
  | false=>rw [bK D7] at h1 ⊢; exact z.use j I h1 fun _ _ _ _ _ _ _ q=>q)⟩
theorem U1 (q:SimT X E a ta):SimT X E (.UnaryOp .Not a pos) (U9 ta):=
 ⟨fun Γ σ H ρ st Q R G h=>WT.of (Qrk Qcf) (q.use R G h.bind fun k j H1 ρ1 I z B h1=>h1 H1 ρ1 (Ext.refl _ _) z)⟩
variable {e:aD} {es:List aD} {m:ME} {mr:Gam->Q2->Res (List PV)}
def Q9:Gam->Q2->Res (List PV):=fun _ st=>.ok [] st
def Q3 (m:ME) (mr:Gam->Q2->Res (List PV)):Gam->Q2->Res (List PV):=fun Γ st=>(m Γ st).bind fun p st1=>(mr Γ st1).bind fun ps st2=>.ok (p :: ps) st2
theorem Q7:SimA X E [] Q9:=⟨fun Γ σ H ρ st Q R G h=>WA.of Q77 (h H ρ (Ext.refl _ _) R [] rfl)⟩
theorem Q1 (O:SimE X E e m) (Y:SimA X E es mr) (hs:aO (e :: es) X.env=(false,aK e X.env) :: aO es X.env:=by rfl):SimA X E (e :: es) (Q3 m mr):=
 ⟨fun Γ σ H ρ st Q R G h=>WA.of (Q08 Yu Q3j hs) (O.use R G h.bind fun p B H1 ρ1 v x1 U I q h1=>Y.use U I h1.bind fun ps z H2 j vs J R2 G2 Z h2=>
  h2 H2 j (Ext.refl _ _) R2 (v :: vs) ⟨v,vs,rfl,q.ext J,Z⟩)⟩
def Kt (mr:Gam->Q2->Res (List PV)):ME:=fun Γ st=>(mr Γ st).bind fun ps st1=>if ps.length<=lim then .ok (.tup ps) st1 else .stuck
def Q3x (mr:Gam->Q2->Res (List PV)):ME:=fun Γ st=>(mr Γ st).bind fun ps st1=>if ps.length<=lim then .ok (.lst ps) st1 else .stuck
theorem U2 {k:Nat} (h:SimA X E es mr):SimE X E (.Tuple es k pos) (Kt mr):=
 ⟨fun Γ σ H ρ st Q R G I=>WE.of (Qrv Q3j) (h.use R G I.bind fun ps z H1 ρ1 vs O B J q h1=>by
  by_cases j:ps.length<=lim
  ·rw [bJ j] at h1;exact ⟨by rw [<- q.length]; exact qg j,Q3s B h1 q⟩
  ·rw [bK j] at h1; exact h1.elim)⟩
theorem Q4e (h:SimA X E es mr):SimE X E (.List es pos) (Q3x mr):=
 ⟨fun Γ σ H ρ st Q R G I=>WE.of (Qjc Q3j) (h.use R G I.bind fun ps z H1 ρ1 vs O B J q h1=>by
  by_cases j:ps.length<=lim
  ·rw [bJ j] at h1;exact ⟨by rw [<- q.length]; exact qg j,Q3t B h1 q⟩
  ·rw [bK j] at h1; exact h1.elim)⟩
end
end Sm
namespace HT
open PySem PySem.Spec PyProof.Rows
section
variable {prog:aN} {w:aL} {A:aR} {E:aB->aC->Prop} {s:aC}
theorem getItem_tuple_whole {t J:aA} {j:Array aB} {Y O:aB} {lo hi:Option Int} {Q:aB->aC->Prop} (z:IsTup s.heap t j) (hs:s.heap.IsSliceOf J Y O .none) (pl:IsPart Y lo) (Z:IsPart O hi)
  (U:sIx j.size 0 lo=0/\sIx j.size j.size hi=j.size)
  (h:Q (.ref t) s):aI (aJ prog w) A (getItem (.ref t) (.ref J)) Q E s:=by
 obtain ⟨os,B,G,a2⟩:=id hs;have I:s.TypeIs (.ref J) "slice" := ⟨os,B,G⟩;unfold getItem
 try with_reducible refine av ?_
 first | refine aF (aS ?_) | skip
 refine aF (wpAny_sequenceKey z.typeIs (by decide) ?_);refine aF (wpAny_callSpecial?_slot (name:=bO "__getitem__") z.typeIs dN
  (bE dN z.typeIs entry_tuple_getitem ?_ (args_tuple_getitem _ _)))
 show aI _ _ (Builtin.Tuple.tupleItemsOf (.ref t) >>= _) _ _ s;refine aF (tupleItemsOf_ z ?_);refine aF (bG I ?_);rw [bJ (by decide)];refine aF (ym hs pl Z ?_);have q:(((sIx j.size 0 lo:Nat):Int) == 0 && (1:Int) == 1 && (sIx j.size j.size hi - sIx j.size 0 lo) == j.size)=true:=by
  rw [U.1,U.2]; simp
 show aI _ _ (if (((sIx j.size 0 lo:Nat):Int) == 0 && (1:Int) == 1 && (sIx j.size j.size hi - sIx j.size 0 lo) == j.size)=true then _ else _) _ _ s;rw [bJ q];refine aF (aF (bG z.typeIs (aS ?_)));rw [bJ (by rfl)];exact aF (bH (aS ⟨_,rfl,aS h⟩))
end
end HT
namespace L2
open PySem PySem.Spec PyProof.Rows
def Qxj (K:bP):V->Option Int->Option Int->Hp->VK->Prop:=fun x lo hi H Q=>∃ a xs,x=.ref a/\SqT K H a xs /\
 (HT.sIx xs.length 0 lo=0/\HT.sIx xs.length xs.length hi=xs.length)/\Q (.ref a) H
theorem sl_whole {X:Cx}:SlR X (Qxj X.K):=by
 intro pins s σ H x v U Y lo hi Z Q I J hs pl G h;obtain ⟨a,xs,rfl,B,O,q⟩:=h;cases J;obtain ⟨its,r,z,hz⟩:=I.tuple B;have j:its.toArray.size=xs.length:=by rw [O3]; exact r.length.symm
 refine ⟨"tuple",_,PyProof.Rows.slot_tuple_getitem.lookup,z.typeIs,?_⟩;exact HT.getItem_tuple_whole z hs pl G (by rw [j]; exact O) ⟨.ref a,H,I,rfl,q⟩
end L2
namespace Sm
open PySem PySem.Spec L2
section
variable {X:Cx} {E:XK} {pos:Pos}
def oI (g:Int->Int->PV):OP:=fun st p q=>match p,q with
 | .int a,.int b=>.ok (g a b) st
 | _,_=>.stuck
def Ww:OP:=fun st p q=>match p,q with
 | .int a,.int b=>.ok (.int (a + b)) st
 | .str a,.str b=>if a.length + b.length<=lim then .ok (.str (a ++ b)) st else .stuck
 | .tup xs,.tup ys=>if xs.length + ys.length<=lim then .ok (.tup (xs ++ ys)) st else .stuck
 | p,q=>match Q1i st p,Q1i st q with
  | some xs,some ys=>if xs.length + ys.length<=lim then .ok (.lst (xs ++ ys)) st else .stuck
  | _,_=>.stuck
theorem Zt:OpS X E (aW .Add) Ww:=⟨fun H ρ st p q x y Q R O J h=>by
 unfold Ww at h
 split at h
 ·cases O; cases J;exact WO.of Qsc ⟨_,_,rfl,rfl,now R h rfl⟩
 ·cases O; cases J
  split at h
  ·rename_i B;exact WO.of Qe8 ⟨_,_,rfl,rfl,qg B,now R h rfl⟩
  ·exact h.elim
 ·split at h
  ·rename_i xs ys B;obtain ⟨a,vs,rfl,I,Y,j⟩:=O;obtain ⟨b,us,rfl,G,U,rb⟩:=J;refine WO.of Qnw ?_
   by_cases e:xs=[]
   ·subst e;cases j;exact .inr ⟨a,b,us,rfl,rfl,SqT.of I,SqT.of G,now R h ⟨b,us,rfl,G,U,rb⟩⟩
   ·refine .inl ⟨a,b,vs,us,rfl,rfl,SqT.of I,SqT.of G,fun z=>e ?_,by rw [<- j.length,<- rb.length]; exact qg B,fun z=>?_,fun z=>Q3s R h (j.append rb)⟩
    ·subst z;cases xs with
     | nil=>rfl
     | cons _ _=>have:=j.length; simp at this
    ·subst z;have:ys=[]:=by
      cases ys with
      | nil=>rfl
      | cons _ _=>have:=rb.length; simp at this
     subst this;rw [bq] at h;exact now R h ⟨a,vs,rfl,I,Y,j⟩
  ·exact h.elim
 ·split at h
  ·rename_i xs ys e1 e2
   split at h
   ·rename_i B;obtain ⟨a,vs,rfl,I,j⟩:=Q7x R O e1;obtain ⟨b,us,rfl,G,rb⟩:=Q7x R J e2;exact WO.of Qsb ⟨a,b,vs,us,rfl,rfl,I,G,by rw [<- j.length,<- rb.length]; exact qg B,Q3t R h (j.append rb)⟩
   ·exact h.elim
  ·exact h.elim⟩
theorem Q1a:OpS X E (aW .Sub) (oI fun a b=>.int (a - b)):=⟨fun H ρ st p q x y Q R j z h=>by
 unfold oI at h
 split at h
 ·cases j; cases z;exact WO.of Qs5 ⟨_,_,rfl,rfl,now R h rfl⟩
 ·exact h.elim⟩
def Q61:OP:=fun st p q=>match p,q with
 | .int a,.int b=>if (-(2 ^ 64) < a/\a < 2 ^ 64)\/(-(2 ^ 64) < b/\b < 2 ^ 64) then .ok (.int (a * b)) st else .stuck
 | .tup xs,.int b=>if xs≠[]/\1<=b/\xs.length * b.toNat<=4096 then .ok (.tup (bQ b.toNat xs).flatten) st else .stuck
 | p,.int b=>match Q1i st p with
  | some xs=>if -(2 ^ 63)<=b/\b < 2 ^ 63/\xs.length * b.toNat<=lim then .ok (.lst (bQ b.toNat xs).flatten) st else .stuck
  | none=>.stuck
 | _,_=>.stuck
theorem Q4p:OpS X E (aW .Mult) Q61:=⟨fun H ρ st p q x y Q R J I h=>by
 unfold Q61 at h
 split at h
 ·cases J; cases I
  split at h
  ·rename_i j;exact WO.of Qs8 ⟨_,_,rfl,rfl,j,now R h rfl⟩
  ·exact h.elim
 ·cases I
  split at h
  ·rename_i xs b j;obtain ⟨a,vs,rfl,G,O,B⟩:=J;refine WO.of Qnu ⟨a,b,vs,rfl,rfl,SqT.of G,fun z=>j.1 ?_,j.2.1,by rw [<- B.length]; exact j.2.2,fun z=>?_,fun z=>Q3s R h (B.rep _)⟩
   ·subst z;cases xs with
    | nil=>rfl
    | cons _ _=>have:=B.length; simp at this
   ·subst z;have e1:(bQ (Int.toNat 1) xs).flatten=xs:=by simp
    rw [e1] at h;exact now R h ⟨a,vs,rfl,G,O,B⟩
  ·exact h.elim
 ·cases I
  split at h
  ·rename_i xs e1
   split at h
   ·rename_i j;obtain ⟨a,vs,rfl,G,B⟩:=Q7x R J e1;exact WO.of Qs6 ⟨a,_,vs,rfl,rfl,G,j.1,j.2.1,by rw [<- B.length]; exact qg j.2.2,Q3t R h (B.rep _)⟩
   ·exact h.elim
  ·exact h.elim
 ·exact h.elim⟩
def Q3q:OP:=fun st p q=>match p,q with
 | .int a,.int b=>if 0 < b then .ok (.int (a % b)) st else .stuck
 | _,_=>.stuck
theorem Q1b:OpS X E (aW .Mod) Q3q:=⟨fun H ρ st p q x y Q R j B h=>by
 unfold Q3q at h
 split at h
 ·cases j; cases B
  split at h
  ·rename_i z;exact WO.of Qs9 ⟨_,_,rfl,rfl,z,now R h rfl⟩
  ·exact h.elim
 ·exact h.elim⟩
def Qp1:OP:=fun st p q=>match p,q with
 | .int a,.int b=>if 0 < b/\b < 1073741824 then .ok (.int (a / b)) st else .stuck
 | _,_=>.stuck
theorem Qs4:OpS X E (aW .FloorDiv) Qp1:=⟨fun H ρ st p q x y Q R j B h=>by
 unfold Qp1 at h
 split at h
 ·cases j; cases B
  split at h
  ·rename_i z;exact WO.of Qnv ⟨_,_,rfl,rfl,z,now R h rfl⟩
  ·exact h.elim
 ·exact h.elim⟩
def Qjn:OP:=fun st p q=>match p,q with
 | .int a,.int b=>if 0<=b/\b<=1000000/\a.natAbs < 2 ^ 64 then .ok (.int (a ^ b.toNat)) st else .stuck
 | _,_=>.stuck
theorem Qs3:OpS X E (aW .Pow) Qjn:=⟨fun H ρ st p q x y Q R j B h=>by
 unfold Qjn at h
 split at h
 ·cases j; cases B
  split at h
  ·rename_i z;exact WO.of Qs7 ⟨_,_,rfl,rfl,z,now R h rfl⟩
  ·exact h.elim
 ·exact h.elim⟩
theorem Qea {op:CmpOp} {g:Int->Int->Bool} (G:OpR X (aV op) (rI0 fun i j=>.bl (g i j))):OpS X E (aV op) (oI fun a b=>.bl (g a b)):=⟨fun H ρ st p q x y Q R B z h=>by
 unfold oI at h
 split at h
 ·cases B; cases z;exact WO.of G ⟨_,_,rfl,rfl,now R h rfl⟩
 ·exact h.elim⟩
theorem Qa4:OpS X E (aV .LtE) (oI fun a b=>.bl (decide (a<=b))):=Qea Qv1
theorem Q78:OpS X E (aV .Gt) (oI fun a b=>.bl (decide (b < a))):=Qea Qv2
theorem Qqk:OpS X E (aV .GtE) (oI fun a b=>.bl (decide (b<=a))):=Qea Qv3
def yi:List PV->Option (List Int)
 | []=>some []
 | .int i :: ps=>(yi ps).map (i :: ·)
 | _ :: _=>none
def Q5p:List PV->Option (List Bool)
 | []=>some []
 | .bl i :: ps=>(Q5p ps).map (i :: ·)
 | _ :: _=>none
theorem Qd8 (ns:List Int):yi (ns.map .int)=some ns:=by
 induction ns with
 | nil=>rfl
 | cons n ns j=>rw [F2,yi,j]; rfl
theorem Qq7 (ns:List Bool):Q5p (ns.map .bl)=some ns:=by
 induction ns with
 | nil=>rfl
 | cons n ns j=>rw [F2,Q5p,j]; rfl
theorem Q6c:∀ {ps:List PV} {ns:List Int},yi ps=some ns->ps=ns.map .int
 | [],ns,h=>by cases h; rfl
 | .int i :: ps,ns,h=>by
  rw [yi] at h;cases e:yi ps with
  | none=>rw [e] at h; cases h
  | some ms=>rw [e] at h; cases h; rw [Q6c e]; rfl
 | .non :: _,_,h | .bl _ :: _,_,h | .str _ :: _,_,h | .tup _ :: _,_,h | .lst _ :: _,_,h | .fro _ :: _,_,h | .ref _ :: _,_,h | .dic :: _,_,h=>by cases h
theorem Qm2:∀ {ps:List PV} {ns:List Bool},Q5p ps=some ns->ps=ns.map .bl
 | [],ns,h=>by cases h; rfl
 | .bl i :: ps,ns,h=>by
  rw [Q5p] at h;cases e:Q5p ps with
  | none=>rw [e] at h; cases h
  | some ms=>rw [e] at h; cases h; rw [Qm2 e]; rfl
 | .non :: _,_,h | .int _ :: _,_,h | .str _ :: _,_,h | .tup _ :: _,_,h | .lst _ :: _,_,h | .fro _ :: _,_,h | .ref _ :: _,_,h | .dic :: _,_,h=>by cases h
def oLt:OP:=fun st p q=>match p,q with
 | .int a,.int b=>.ok (.bl (decide (a < b))) st
 | .tup xs,.tup ys=>match yi xs,yi ys with
  | some ns,some ms=>.ok (.bl (HT.lexLt ns ms)) st
  | _,_=>.stuck
 | _,_=>.stuck
theorem Q3m (U:X.A.units + 64 < aa):OpS X E (aV .Lt) oLt:=⟨fun H ρ st p q x y Q R G j h=>by
 unfold oLt at h
 split at h
 ·cases G; cases j;exact WO.of Qv0 ⟨_,_,rfl,rfl,now R h rfl⟩
 ·split at h
  ·rename_i ns ms e1 e2;obtain ⟨a,vs,rfl,B,O,I⟩:=G;obtain ⟨b,us,rfl,z,J,rb⟩:=j;rw [Q6c e1] at I;rw [Q6c e2] at rb;rw [I.toInts] at B;rw [rb.toInts] at z;exact WO.of (Qsa (by omega)) ⟨a,b,ns,ms,rfl,rfl,SqT.of B,SqT.of z,now R h rfl⟩
  ·exact h.elim
 ·exact h.elim⟩
def dep:Nat:=12
def oEq:OP:=fun st p q=>if Zm dep (der st p)=true/\Zm dep (der st q)=true then .ok (.bl (peq (der st p) (der st q))) st else .stuck
def oNe:OP:=fun st p q=>if Zm dep (der st p)=true/\Zm dep (der st q)=true then .ok (.bl (!peq (der st p) (der st q))) st else .stuck
theorem V1 (J:X.A.units + 64 < aa):OpS X E (aV .Eq) oEq:=⟨fun H ρ st p q x y Q R z j h=>by
 unfold oEq at h
 split at h
 ·rename_i g;intro pins s σ v u I B G;exact (Qfw dep I g.1 g.2 (by unfold dep; omega) (Q26 R g.1 z) B (Q26 R g.2 j) G).2.1 _ _ _ _ ⟨.bl _,H,I,rfl,now R h rfl⟩
 ·exact h.elim⟩
theorem Q5h (J:X.A.units + 64 < aa):OpS X E (aV .NotEq) oNe:=⟨fun H ρ st p q x y Q R z j h=>by
 unfold oNe at h
 split at h
 ·rename_i g;intro pins s σ v u I B G;exact (Qfw dep I g.1 g.2 (by unfold dep; omega) (Q26 R g.1 z) B (Q26 R g.2 j) G).2.2 _ _ _ _ ⟨.bl _,H,I,rfl,now R h rfl⟩
 ·exact h.elim⟩
def Qyd:PV->Bool
 | .non=>true
 | _=>false
def oIn (neg:Bool):OP:=fun st p q=>match K1 st q with
 | some xs=>if Zm dep (der st p)=true/\xs.all (Zm dep)=true then .ok (.bl ((xs.any fun y=>peq y (der st p)) != neg)) st else .stuck
 | none=>.stuck
open Classical in
theorem Qd9 {pins:List (aA × Obj)} {σ:St} {H:Hp} {ρ:Tk} {s:aC} {A:aR} {st:Q2} {p:PV} {xs:List PV} {x:V} {v:aB} {vs:List V} {its:List aB} (I:Inv X pins σ H s) (hu:A.units + dep < aa) (R:Rel H ρ st)
  (gp:Zm dep (der st p)=true) (gx:xs.all (Zm dep)=true) (rp:Rep H ρ p x) (rv:RelV x v) (Y:RepL H ρ xs vs) (Z:Vals vs its):∃ e:aB->Bool,(∀ u,u∈its.toArray->SeqAt.EqAt A s u v (e u))/\its.toArray.any e=xs.any fun y=>peq y (der st p):=by
 have a2:∀ u∈its,∃ q∈xs,∃ y,Rep H Tk.nil q y/\RelV y u:=fun u hu=>by
  obtain ⟨j,U,rfl⟩:=dX hu;have l1:=Z.length;have l2:=Y.length;obtain ⟨y,e1,e2⟩:=(zg gx Y).get (O4 (show j < xs.length by omega));obtain ⟨w,e3,e4⟩:=Z.get e1;rw [O4 U] at e3; cases e3;exact ⟨_,dU _,y,e2,e4⟩
 refine ⟨fun u=>decide (∃ q∈xs,∃ y,Rep H Tk.nil q y/\RelV y u/\peq q (der st p)=true),fun u hm=>?_,?_⟩
 ·have a3:u∈its:=by simpa using hm
  by_cases z:∃ q∈xs,∃ y,Rep H Tk.nil q y/\RelV y u/\peq q (der st p)=true
  ·show SeqAt.EqAt A s u v (decide _);rw [bN z];obtain ⟨q,B,y,G,O,e⟩:=z;have:=(Qfw dep I ((F7.mp gx) q B) gp hu G O (Q26 R gp rp) rv).1;rw [e] at this;exact this
  ·show SeqAt.EqAt A s u v (decide _);rw [bL z];obtain ⟨q,B,y,G,O⟩:=a2 u a3;have:=(Qfw dep I ((F7.mp gx) q B) gp hu G O (Q26 R gp rp) rv).1;cases e:peq q (der st p) with
   | true=>exact absurd ⟨q,B,y,G,O,e⟩ z
   | false=>rw [e] at this; exact this
 ·rw [dC,Array.any_eq_true,dD];constructor
  ·rintro ⟨j,U,e⟩;obtain ⟨q,B,y,G,O,e⟩:=of_decide_eq_true e;exact ⟨q,B,e⟩
  ·rintro ⟨q,B,e⟩;obtain ⟨j,U,rfl⟩:=dX B;have l1:=Z.length;have l2:=Y.length;have J:j < its.length:=by omega
   obtain ⟨y,e1,e2⟩:=(zg gx Y).get (O4 U);obtain ⟨w,e3,e4⟩:=Z.get e1;refine ⟨j,by simpa using J,bN ⟨_,B,y,e2,?_,e⟩⟩;rw [O4 J] at e3; cases e3;simpa using e4
theorem Q3k (Z:X.A.units + 64 < aa):OpS X E (aV .NotIn) (oIn true):=⟨fun H ρ st p q x y Q R B U h=>by
 unfold oIn at h
 split at h
 ·rename_i xs es
  split at h
  ·rename_i g;obtain ⟨t,a,vs,rfl,O,G⟩:=Q4d (K:=X.K) R U es;intro pins s σ v u I J Y;cases Y;rw [Bool.bne_true] at h;cases t with
   | true=>
    obtain ⟨its,r,pl,hz⟩:=I.tuple O;obtain ⟨e,j,z⟩:=Qd9 (A:=X.A.in1) I (by show X.A.units + 1 + dep < aa; unfold dep; omega) R g.1 g.2 B J G r;refine SeqAt.notIn_tupleAt e pl j ⟨.bl _,H,I,rfl,?_⟩;rw [z];exact now R h rfl
   | false=>
    obtain ⟨its,r,pl,hz⟩:=I.list O;obtain ⟨e,j,z⟩:=Qd9 (A:=X.A.in1) I (by show X.A.units + 1 + dep < aa; unfold dep; omega) R g.1 g.2 B J G r;refine SeqAt.notIn_listAt e pl.isList j ⟨.bl _,H,I,rfl,?_⟩;rw [z];exact now R h rfl
  ·exact h.elim
 ·exact h.elim⟩
end
section
variable {H:Hp} {ρ:Tk}
theorem RepL.atI {ps:List PV} {vs:List V} {i:Int} {p:PV} (r:RepL H ρ ps vs) (e:atI ps i=some p):∃ v,L2.atI vs i=some v/\Rep H ρ p v:=by
 unfold L2.atI at e ⊢;rw [<- r.length];cases q:ixN ps.length i with
 | none=>rw [q] at e; cases e
 | some j=>
  rw [q] at e;exact r.get e
def cut {α:Type} (xs:List α) (lo hi:Option Int):List α:=(xs.drop (HT.sIx xs.length 0 lo)).take (HT.sIx xs.length xs.length hi - HT.sIx xs.length 0 lo)
theorem RepL.cut {ps:List PV} {vs:List V} (r:RepL H ρ ps vs) (lo hi:Option Int):RepL H ρ (Sm.cut ps lo hi) (Qde vs lo hi):=by
 unfold Sm.cut Qde;rw [<- r.length];exact (r.drop _).take _
end
section
variable {X:Cx} {E:XK} {pos:Pos} {a b:aD} {ma mb:ME}
def oIx:OP:=fun st p q=>match K1 st p,q with
 | some xs,.int i=>okO st (atI xs i)
 | _,_=>.stuck
theorem Qu (Z:SimE X E a ma) (hb:SimE X E b mb) (hs:Qg2 b:=by exact fun _ _=>rfl):SimE X E (.Subscript a b pos) (mOp oIx ma mb):=
 ⟨fun Γ σ H ρ st Q R G h=>WE.of (Quv Qsy Yu Yu hs) (Z.use R G h.bind fun p U H1 ρ1 v x1 R1 G1 r1 h1=>hb.use R1 G1 h1.bind fun q a3 H2 a2 u Y R2 G2 r2 h2=>by
  unfold oIx at h2
  split at h2
  ·rename_i xs i e;cases r2;cases j:atI xs i with
   | none=>rw [j] at h2; exact h2.elim
   | some w=>
    rw [j] at h2;obtain ⟨t,b,vs,rfl,B,O⟩:=Q4d (K:=X.K) R2 (r1.ext Y) e;obtain ⟨z,J,I⟩:=O.atI j;cases t with
    | true=>exact .inr (.inl ⟨b,vs,i,z,rfl,rfl,B,J,now R2 h2 I⟩)
    | false=>exact .inl ⟨b,vs,i,z,rfl,rfl,B,J,now R2 h2 I⟩
  ·exact h2.elim)⟩
structure SimO (X:Cx) (E:XK) (o:Option aD) (m:Gam->Q2->Res (Option Int)):Prop where
 run:∀ (Γ:Gam) (σ:St) (H:Hp) (ρ:Tk) (st:Q2) (P:Option Int->Q2->Hp->Tk->Prop) (Q:Option Int->Hp->Prop),Rel H ρ st->EnvR H ρ Γ σ->Acc X.mg E H ρ P (m Γ st) ->
  (∀ i st1 H1 ρ1,Ext H ρ H1 ρ1->Rel H1 ρ1 st1->EnvR H1 ρ1 Γ σ->P i st1 H1 ρ1->Q i H1)->∃ t,PO X o t/\t σ H Q
def K6:Gam->Q2->Res (Option Int):=fun _ st=>.ok none st
def x9 (m:ME):Gam->Q2->Res (Option Int):=fun Γ st=>(m Γ st).bind fun p st1=>match p with
 | .int i=>.ok (some i) st1
 | _=>.stuck
theorem jj:SimO X E none K6:=⟨fun Γ σ H ρ st P Q R G h k=>⟨_,Qnd,k none st H ρ (Ext.refl _ _) R G (h H ρ (Ext.refl _ _) R)⟩⟩
theorem K0 (I:SimE X E a ma):SimO X E (some a) (x9 ma):=⟨fun Γ σ H ρ st P Q R G h k=>⟨_,Qnc Yu,I.use R G h.bind fun p j H1 ρ1 v J q B z h1=>by
 cases p with
 | int i=>exact ⟨i,z,k (some i) j H1 ρ1 J q B (h1 H1 ρ1 (Ext.refl _ _) q)⟩
 | _=>exact h1.elim⟩⟩
def oSl (st:Q2) (p:PV) (lo hi:Option Int):Res PV:=match p with
 | .tup xs=>.ok (.tup (cut xs lo hi)) st
 | p=>match yh st p with
  | some xs=>.ok (.lst (cut xs lo hi)) st
  | none=>.stuck
def mSl (ma:ME) (ml mh:Gam->Q2->Res (Option Int)):ME:=fun Γ st=>(ma Γ st).bind fun p st1=>(ml Γ st1).bind fun lo st2=>(mh Γ st2).bind fun hi st3=>oSl st3 p lo hi
def TO.w (X:Cx) (o:Option aD):TO:=fun σ H Q=>∃ t,PO X o t/\t σ H Q
theorem Quq {o:Option aD}:PO X o (TO.w X o):=fun pins s σ H Q I ⟨t,h,q⟩=>h pins s σ H Q I q
theorem X4 {lo hi:Option aD} {Z mh:Gam->Q2->Res (Option Int)} {p2:Pos} (q:SimE X E a ma) (hl:SimO X E lo Z) (hh:SimO X E hi mh):SimE X E (.Subscript a (.Slice lo hi none p2) pos) (mSl ma Z mh):=
 ⟨fun Γ σ H ρ st Q R G h=>WE.of (Qja (sl_tup.or (sl_whole.or Qms)) Yu Quq Quq) (q.use R G h.bind fun p J H1 ρ1 v x1 R1 G1 r1 h1=>by
  refine hl.run Γ σ H1 ρ1 J _ _ R1 G1 h1.bind fun l U H2 O x2 R2 G2 h2=>?_
  refine hh.run Γ σ H2 O U _ _ R2 G2 h2.bind fun u a3 H3 a2 x3 B G3 j=>?_
  have Y:=r1.ext (x2.trans x3);unfold oSl at j
  split at j
  ·rename_i xs;obtain ⟨a,vs,rfl,q,na,z⟩:=Y
   by_cases I:HT.sIx vs.length 0 l=0/\HT.sIx vs.length vs.length u=vs.length
   ·refine .inr (.inl ⟨a,vs,rfl,SqT.of q,I,?_⟩);have e:cut xs l u=xs:=by
     unfold cut;rw [z.length,I.1,I.2,da,gI,<- z.length,eX]
    rw [e] at j;exact now B j ⟨a,vs,rfl,q,na,z⟩
   ·exact .inl ⟨a,vs,rfl,SqT.of q,I,Q3s B j (z.cut l u)⟩
  ·split at j
   ·rename_i xs e;obtain ⟨a,vs,rfl,q,z⟩:=Q3z B Y e;exact .inr (.inr ⟨a,vs,rfl,.inl q,Q3t B j (z.cut l u)⟩)
   ·exact j.elim)⟩
variable {es:List aD} {e:aD} {mr:Gam->Q2->Res (List PV)}
def J7 (o:CF) (mr:Gam->Q2->Res (List PV)):ME:=fun Γ st=>(mr Γ st).bind fun ps st1=>o st1 ps
theorem CallS.use {f:aB} {o:CF} (s:CallS X E f o) {P:PV->Q2->Hp->Tk->Prop} {Q:VK} {H:Hp} {ρ:Tk} {st:Q2} {ps:List PV} {xs:List V} (R:Rel H ρ st) (B:RepL H ρ ps xs) (h:Acc X.mg E H ρ P (o st ps))
  (k:∀ p j H1 ρ1 v,Ext H ρ H1 ρ1->Rel H1 ρ1 j->Rep H1 ρ1 p v->P p j H1 ρ1->Q v H1):WC X f xs H Q:=by
 refine s.run H ρ st ps xs Q R B ?_;cases r:o st ps with
 | ok p j=>rw [r] at h; exact fun H' ρ' z q v G=>k p j H' ρ' v z q G (h H' ρ' z q)
 | exc e st=>rw [r] at h; exact h
 | stuck=>rw [r] at h; exact h
theorem Qw {id:String} {x:Str} {p:Pos} {o:CF} (I:CallS X E (.builtin id) o) (U:Gl X x) (J:X.mg x=none) (Z:aZ x=some (.builtin id)) (ha:SimA X E (e :: es) mr) (Y:x≠"__name__" := by decide) (j:(x == ("__debug__" : Str))=false:=by decide)
  (he:aO (e :: es) X.env=(false,aK e X.env) :: aO es X.env:=by rfl) (z:(aU pos (aO es X.env)).any (·.1)=false:=by rfl):SimE X E (.Call (.Name x p) (e :: es) [] pos) (J7 o mr):=
 ⟨fun Γ σ H ρ st Q R G h=>WE.of (Qcj Qkt U J Z Q3j Y j he z) (ha.use R G h.bind fun ps O H1 ρ1 vs x1 R1 G1 B h1=>I.use R1 B h1 fun _ _ _ _ v _ _ r q=>q v r)⟩
theorem qv {T:String} {x:Str} {p:Pos} {o:CF} (I:CallS X E (.type T) o) (U:Gl X x) (J:X.mg x=none) (Z:aZ x=some (.type T)) (ha:SimA X E (e :: es) mr) (Y:x≠"__name__" := by decide) (j:(x == ("__debug__" : Str))=false:=by decide)
  (he:aO (e :: es) X.env=(false,aK e X.env) :: aO es X.env:=by rfl) (z:(aU pos (aO es X.env)).any (·.1)=false:=by rfl):SimE X E (.Call (.Name x p) (e :: es) [] pos) (J7 o mr):=
 ⟨fun Γ σ H ρ st Q R G h=>WE.of (Qgp Qkt U J Z Q3j Y j he z) (ha.use R G h.bind fun ps O H1 ρ1 vs x1 R1 G1 B h1=>I.use R1 B h1 fun _ _ _ _ v _ _ r q=>q v r)⟩
theorem Vb {H:Hp} {ρ:Tk} {p:PV} {xs:List V} (r:RepL H ρ [p] xs):∃ v,xs=[v]/\Rep H ρ p v:=by
 obtain ⟨v,t,rfl,h1,h2⟩:=r;cases h2;exact ⟨v,rfl,h1⟩
theorem Q3h {H:Hp} {ρ:Tk} {p q:PV} {xs:List V} (r:RepL H ρ [p,q] xs):∃ v u,xs=[v,u]/\Rep H ρ p v/\Rep H ρ q u:=by
 obtain ⟨v,t,rfl,h1,h2⟩:=r;obtain ⟨u,rfl,j⟩:=Vb h2;exact ⟨v,u,rfl,h1,j⟩
def Yx:CF:=fun st ps=>match ps with
 | [p]=>match K1 st p with
  | some xs=>.ok (.int xs.length) st
  | none=>match p with
   | .str x=>if x.length<=lim then .ok (.int x.length) st else .stuck
   | _=>.stuck
 | _=>.stuck
theorem Yi:CallS X E (.builtin "len") Yx:=⟨fun H ρ st ps xs Q R j h=>by
 unfold Yx at h
 split at h
 ·rename_i p;obtain ⟨v,rfl,r⟩:=Vb j
  split at h
  ·rename_i ys e;obtain ⟨t,a,vs,rfl,B,q⟩:=Q4d (K:=X.K) R r e;rw [q.length] at h;exact WC.of Qbr ⟨a,vs,rfl,Qij B,now R h rfl⟩
  ·split at h
   ·cases r
    split at h
    ·rename_i z;exact WC.of Qbq ⟨_,rfl,qg z,now R h rfl⟩
    ·exact h.elim
   ·exact h.elim
 ·exact h.elim⟩
def Kg (g:List Int->Option PV):CF:=fun st ps=>match ps with
 | [p]=>match (K1 st p).bind yi with
  | some ns=>okO st (g ns)
  | none=>.stuck
 | _=>.stuck
def Q2j (g:List Bool->PV):CF:=fun st ps=>match ps with
 | [p]=>match (K1 st p).bind Q5p with
  | some ns=>.ok (g ns) st
  | none=>.stuck
 | _=>.stuck
theorem Q84 {K:bP} {H:Hp} {ρ:Tk} {st:Q2} {p:PV} {v:V} {ns:List Int} (R:Rel H ρ st) (r:Rep H ρ p v) (e:(K1 st p).bind yi=some ns):∃ (t:Bool) (a:aA),v=.ref a/\SqK K t H a (ns.map V.int):=by
 cases q:K1 st p with
 | none=>rw [q] at e; cases e
 | some xs=>
  rw [q] at e;obtain ⟨t,a,vs,rfl,z,j⟩:=Q4d (K:=K) R r q;rw [Q6c e] at j;rw [j.toInts] at z;exact ⟨t,a,rfl,z⟩
theorem Qg0 {K:bP} {H:Hp} {ρ:Tk} {st:Q2} {p:PV} {v:V} {ns:List Bool} (R:Rel H ρ st) (r:Rep H ρ p v) (e:(K1 st p).bind Q5p=some ns):∃ (t:Bool) (a:aA),v=.ref a/\SqK K t H a (ns.map V.bl):=by
 cases q:K1 st p with
 | none=>rw [q] at e; cases e
 | some xs=>
  rw [q] at e;obtain ⟨t,a,vs,rfl,z,j⟩:=Q4d (K:=K) R r q;rw [Qm2 e] at j;rw [j.toBls] at z;exact ⟨t,a,rfl,z⟩
theorem Q8f (z:X.calm=true):CallS X E (.builtin "sum") (Kg fun ns=>some (.int ns.sum)):=⟨fun H ρ st ps xs Q R j h=>by
 unfold Kg at h
 split at h
 ·obtain ⟨v,rfl,r⟩:=Vb j
  split at h
  ·rename_i ns e;obtain ⟨t,a,rfl,q⟩:=Q84 (K:=X.K) R r e;exact WC.of (Qku t z) ⟨a,ns,rfl,q,now R h rfl⟩
  ·exact h.elim
 ·exact h.elim⟩
theorem Q8g (z:X.calm=true):CallS X E (.builtin "all") (Q2j fun ns=>.bl (ns.all id)):=⟨fun H ρ st ps xs Q R j h=>by
 unfold Q2j at h
 split at h
 ·obtain ⟨v,rfl,r⟩:=Vb j
  split at h
  ·rename_i ns e;obtain ⟨t,a,rfl,q⟩:=Qg0 (K:=X.K) R r e;exact WC.of (Qkw t z) ⟨a,ns,rfl,q,now R h rfl⟩
  ·exact h.elim
 ·exact h.elim⟩
theorem Qkn (z:X.calm=true):CallS X E (.builtin "any") (Q2j fun ns=>.bl (ns.any id)):=⟨fun H ρ st ps xs Q R j h=>by
 unfold Q2j at h
 split at h
 ·obtain ⟨v,rfl,r⟩:=Vb j
  split at h
  ·rename_i ns e;obtain ⟨t,a,rfl,q⟩:=Qg0 (K:=X.K) R r e;exact WC.of (Qkv t z) ⟨a,ns,rfl,q,now R h rfl⟩
  ·exact h.elim
 ·exact h.elim⟩
def maxI:List Int->Option Int
 | []=>none
 | n :: ns=>some (ns.foldl (fun a b=>if b > a then b else a) n)
def Qxv:List Int->Option Int
 | []=>none
 | n :: ns=>some (ns.foldl (fun a b=>if b < a then b else a) n)
theorem Qad:∀ (ns:List Int) (n:Int),(ns.foldl (fun a b=>if b > a then b else a) n=n\/ns.foldl (fun a b=>if b > a then b else a) n∈ns)/\n<=ns.foldl (fun a b=>if b > a then b else a) n/\∀ k∈ns,k<=ns.foldl (fun a b=>if b > a then b else a) n
 | [],n=>⟨.inl rfl,bg _,fun k h=>by cases h⟩
 | m :: ns,n=>by
  obtain ⟨h1,h2,z⟩:=Qad ns (if m > n then m else n);rw [cc];refine ⟨?_,?_,fun k q=>?_⟩
  ·rcases h1 with e | e
   ·by_cases j:m > n
    ·rw [bJ j] at e ⊢; exact .inr (by rw [e]; exact D4)
    ·rw [bK j] at e ⊢; exact .inl e
   ·exact .inr (D0 _ e)
  ·by_cases j:m > n
   ·rw [bJ j] at h2 ⊢; omega
   ·rw [bK j] at h2 ⊢; exact h2
  ·rcases E3.mp q with rfl | q
   ·by_cases j:k > n
    ·rw [bJ j] at h2 ⊢; exact h2
    ·rw [bK j] at h2 ⊢; omega
   ·exact z k q
theorem Qac:∀ (ns:List Int) (n:Int),(ns.foldl (fun a b=>if b < a then b else a) n=n\/ns.foldl (fun a b=>if b < a then b else a) n∈ns)/\ns.foldl (fun a b=>if b < a then b else a) n<=n/\∀ k∈ns,ns.foldl (fun a b=>if b < a then b else a) n<=k
 | [],n=>⟨.inl rfl,bg _,fun k h=>by cases h⟩
 | m :: ns,n=>by
  obtain ⟨h1,h2,z⟩:=Qac ns (if m < n then m else n);rw [cc];refine ⟨?_,?_,fun k q=>?_⟩
  ·rcases h1 with e | e
   ·by_cases j:m < n
    ·rw [bJ j] at e ⊢; exact .inr (by rw [e]; exact D4)
    ·rw [bK j] at e ⊢; exact .inl e
   ·exact .inr (D0 _ e)
  ·by_cases j:m < n
   ·rw [bJ j] at h2 ⊢; omega
   ·rw [bK j] at h2 ⊢; exact h2
  ·rcases E3.mp q with rfl | q
   ·by_cases j:k < n
    ·rw [bJ j] at h2 ⊢; exact h2
    ·rw [bK j] at h2 ⊢; omega
   ·exact z k q
def Q8k:CF:=fun st ps=>match ps with
 | [.int a,.int b]=>.ok (.int (if b > a then b else a)) st
 | ps=>Kg (fun ns=>(maxI ns).map .int) st ps
def Qhv:CF:=fun st ps=>match ps with
 | [.int a,.int b]=>.ok (.int (if b < a then b else a)) st
 | ps=>Kg (fun ns=>(Qxv ns).map .int) st ps
theorem Qbm (q:X.calm=true):CallS X E (.builtin "max") Q8k:=⟨fun H ρ st ps xs Q R z h=>by
 unfold Q8k at h
 split at h
 ·obtain ⟨v,u,rfl,G,U⟩:=Q3h z;cases G; cases U;exact WC.of (Qhs q) ⟨_,_,rfl,now R h rfl⟩
 ·unfold Kg at h
  split at h
  ·obtain ⟨v,rfl,r⟩:=Vb z
   split at h
   ·rename_i ns e;cases ns with
    | nil=>exact h.elim
    | cons n ns=>
     obtain ⟨t,a,rfl,O⟩:=Q84 (K:=X.K) R r e;refine WC.of (Qhr t q) ⟨a,_,rfl,O,by simp,fun m j B=>?_⟩;have J:m=ns.foldl (fun a b=>if b > a then b else a) n:=by
      obtain ⟨h1,h2,I⟩:=Qad ns n;have Y:ns.foldl (fun a b=>if b > a then b else a) n<=m:=by
       rcases h1 with e | e
       ·rw [e]; exact B _ D4
       ·exact B _ (D0 _ e)
      have g2:m<=ns.foldl (fun a b=>if b > a then b else a) n:=by
       rcases E3.mp j with rfl | j
       ·exact h2
       ·exact I m j
      omega
     subst J;exact now R h rfl
   ·exact h.elim
  ·exact h.elim⟩
theorem Qt1 (q:X.calm=true):CallS X E (.builtin "min") Qhv:=⟨fun H ρ st ps xs Q R z h=>by
 unfold Qhv at h
 split at h
 ·obtain ⟨v,u,rfl,G,U⟩:=Q3h z;cases G; cases U;exact WC.of (Qhq q) ⟨_,_,rfl,now R h rfl⟩
 ·unfold Kg at h
  split at h
  ·obtain ⟨v,rfl,r⟩:=Vb z
   split at h
   ·rename_i ns e;cases ns with
    | nil=>exact h.elim
    | cons n ns=>
     obtain ⟨t,a,rfl,O⟩:=Q84 (K:=X.K) R r e;refine WC.of (Qhp t q) ⟨a,_,rfl,O,by simp,fun m j B=>?_⟩;have J:m=ns.foldl (fun a b=>if b < a then b else a) n:=by
      obtain ⟨h1,h2,I⟩:=Qac ns n;have Y:m<=ns.foldl (fun a b=>if b < a then b else a) n:=by
       rcases h1 with e | e
       ·rw [e]; exact B _ D4
       ·exact B _ (D0 _ e)
      have g2:ns.foldl (fun a b=>if b < a then b else a) n<=m:=by
       rcases E3.mp j with rfl | j
       ·exact h2
       ·exact I m j
      omega
     subst J;exact now R h rfl
   ·exact h.elim
  ·exact h.elim⟩
def Q1s:CF:=fun st ps=>match ps with
 | [p]=>match K1 st p with
  | some xs=>.ok (.lst xs) st
  | none=>.stuck
 | _=>.stuck
def Xm:CF:=fun st ps=>match ps with
 | [p]=>match K1 st p with
  | some xs=>.ok (.tup xs) st
  | none=>.stuck
 | _=>.stuck
theorem Qpz:CallS X E (.type "list") Q1s:=⟨fun H ρ st ps xs Q R j h=>by
 unfold Q1s at h
 split at h
 ·obtain ⟨v,rfl,r⟩:=Vb j
  split at h
  ·rename_i ys e;obtain ⟨t,a,vs,rfl,z,q⟩:=Q4d (K:=X.K) R r e;exact WC.of Qbp ⟨a,vs,rfl,Qij z,Q3t R h q⟩
  ·exact h.elim
 ·exact h.elim⟩
theorem xn:CallS X E (.type "tuple") Xm:=⟨fun H ρ st ps xs Q R z h=>by
 unfold Xm at h
 split at h
 ·rename_i p;obtain ⟨v,rfl,r⟩:=Vb z
  split at h
  ·rename_i ys e;cases p with
   | tup zs=>
    cases e;obtain ⟨a,vs,rfl,j,B,q⟩:=r;exact WC.of Q2r ⟨a,vs,rfl,.inr ⟨SqT.of j,now R h ⟨a,vs,rfl,j,B,q⟩⟩⟩
   | _=>
    obtain ⟨a,vs,rfl,j,q⟩:=Q3z R r e;exact WC.of Q2r ⟨a,vs,rfl,.inl ⟨.inl j,Q3s R h q⟩⟩
  ·exact h.elim
 ·exact h.elim⟩
def Qyg:CF:=fun st ps=>match ps with
 | [.int a]=>.ok (.int (if a < 0 then -a else a)) st
 | _=>.stuck
def tyN:PV->String
 | .non => "NoneType"
 | .bl _ => "bool"
 | .int _ => "int"
 | .str _ => "str"
 | .tup _ => "tuple"
 | .lst _ => "list"
 | .fro _ => "list"
 | .ref _ => "list"
 | .dic => "dict"
def dpv (st:Q2):PV->PV
 | .ref i=>match st[i]? with
  | some (.dic _)=>.dic
  | some (.dtp _)=>.dic
  | _=>.ref i
 | p=>p
def isI (T:String) (p:PV):Bool:=tyN p == T || (T == "int" && tyN p == "bool")
def xh (st:Q2):PV->Bool
 | .ref i=>match st[i]? with
  | some (.frd _)=>true
  | some (.obj _ _)=>true
  | _=>false
 | _=>false
theorem Qty {K:bP} {H:Hp} {ρ:Tk} {st:Q2} {p:PV} {v:V} (z:xh st p=false) (R:Rel H ρ st) (r:Rep H ρ p v):TyOf K H v (.type (tyN (dpv st p))):=by
 cases p with
 | non=>cases r; exact .non
 | bl b=>cases r; exact .bl b
 | int i=>cases r; exact .int i
 | str x=>cases r; exact .str x
 | tup ps=>obtain ⟨a,vs,rfl,h,_⟩:=r; exact .tup h
 | lst ps=>obtain ⟨a,vs,rfl,h,_⟩:=r; exact .lst h
 | fro ps=>
  obtain ⟨a,vs,rfl,h,_⟩:=r;rcases h with h | ⟨o,h⟩
  ·exact .lst h
  ·exact .frz h
 | ref i=>
  obtain ⟨a,e,rfl⟩:=r;have B:i < st.length:=by rw [<- R.len]; exact (O1.mp e).1
  have hs:=O4 B;have q:=R.cell i a st[i] e hs;cases j:st[i] with
  | lst xs=>rw [j] at q hs; simp only [dpv,hs]; obtain ⟨vs,h,_⟩:=q; exact .lst h
  | dic xs=>rw [j] at q hs; simp only [dpv,hs]; obtain ⟨vs,h,_⟩:=q; exact .dK h
  | dtp xs=>rw [j] at q hs; simp only [dpv,hs]; obtain ⟨vs,h,_⟩:=q; exact .dT h
  | frd xs=>rw [j] at hs; simp only [xh,hs] at z; cases z
  | obj C xs=>rw [j] at hs; simp only [xh,hs] at z; cases z
 | dic=>obtain ⟨a,rfl,h,_⟩:=r; exact .dK h
def Q82:List String:=["int", "bool", "str", "tuple", "list", "dict"]
theorem Qss (K:bP) {T:String} (j:T∈Q82) (p:PV):eI K (.type (tyN p)) (.type T)=some (isI T p):=by
 have j:T = "int" \/ T = "bool" \/ T = "str" \/ T = "tuple" \/ T = "list" \/ T = "dict" := by simpa [Q82] using j
 rcases j with rfl | rfl | rfl | rfl | rfl | rfl <;> cases p <;> first | rfl | kernel_rfl
def Q32 (T:String) (m:ME):ME:=fun Γ st=>(m Γ st).bind fun p st1=>if xh st1 p=true then .stuck else .ok (.bl (isI T (dpv st1 p))) st1
theorem ja {T:String} {tx:Str} {a:aD} {ma:ME} {p tp:Pos} (hT:T∈Q82) (ha:SimE X E a ma) (hg:Gl X "isinstance") (hm:X.mg "isinstance" = none) (U:Gl X tx) (I:X.mg tx=none) (O:aZ tx=some (.type T))
  (hn:tx≠"__name__" := by decide) (hd:(tx == ("__debug__" : Str))=false:=by decide)
  (Y:aO [a,.Name tx tp] X.env=(false,aK a X.env) :: aO [.Name tx tp] X.env:=by rfl) (z:aO [.Name tx tp] X.env=(false,aK (.Name tx tp) X.env) :: aO [] X.env:=by rfl) (J:(aU pos (aO [.Name tx tp] X.env)).any (·.1)=false:=by rfl) :
  SimE X E (.Call (.Name "isinstance" p) [a,.Name tx tp] [] pos) (Q32 T ma):=
 ⟨fun Γ σ H ρ st Q R G h=>WE.of (Qcj Qdh hg hm Q65 (Q08 Yu (Q08 (Qnq U I O (v:=.ty T) rfl hn hd) Q77 z) Y) (by decide) (by decide) Y J)
  (ha.use R G h.bind fun q j H1 ρ1 v x1 Z G1 r1 h1=>by
   by_cases B:xh j q=true
   ·rw [bJ B] at h1; exact h1.elim
   ·rw [bK B] at h1;exact ⟨v,.ty T,.type T,_,_,rfl,rfl,Qty (by simpa using B) Z r1,Qss X.K hT (dpv j q),now Z h1 rfl⟩)⟩
end
abbrev GA:=PV->Gam->Option Gam
abbrev GAs:=List PV->Gam->Option Gam
structure SimG (X:Cx) (tg:aD) (ga:GA):Prop where
 run:∀ (Γ Γ':Gam) (σ:St) (H:Hp) (ρ:Tk) (p:PV) (v:V) (Q:St->Hp->Prop),EnvR H ρ Γ σ->Rep H ρ p v->ga p Γ=some Γ'->(∀ σ',EnvR H ρ Γ' σ'->Q σ' H)->∃ t,PG X tg t/\t v σ H Q
structure SimGs (X:Cx) (tgs:List aD) (n:Nat) (ga:GAs):Prop where
 run:∀ (Γ Γ':Gam) (σ:St) (H:Hp) (ρ:Tk) (ps:List PV) (vs:List V) (Q:St->Hp->Prop),EnvR H ρ Γ σ->RepL H ρ ps vs->ga ps Γ=some Γ'->(∀ σ',EnvR H ρ Γ' σ'->Q σ' H)->∃ t,PGs X tgs t/\t vs σ H Q
 len:∀ ps Γ Γ',ga ps Γ=some Γ'->ps.length=n
def Qp (i:Nat):GA:=fun p Γ=>some (Γ.set i (some p))
def qy:GAs:=fun ps Γ=>match ps with
 | []=>some Γ
 | _=>none
def Y0 (g:GA) (gs:GAs):GAs:=fun ps Γ=>match ps with
 | p :: r=>(g p Γ).bind (gs r)
 | []=>none
def qx (gs:GAs):GA:=fun p Γ=>match p with
 | .tup ps=>gs ps Γ
 | _=>none
section
variable {X:Cx} {pos:Pos}
theorem J3 {i:Nat} {x:Str} (q:X.N.Nodup) (hi:X.N[i]?=some x:=by rfl) (j:Loc X.env.scope x:=by first | exact Or.inl rfl | exact Or.inr rfl) (B:X.fn x=true\/X.env.scope.names.lookup x=some .local:=by first | exact .inl rfl | exact .inr rfl):SimG X (.Name x pos) (Qp i):=
 ⟨fun Γ z σ H ρ p v Q G r e k=>⟨_,Qnh q hi j B,by cases e; exact k _ (G.set r i)⟩⟩
theorem Q02:SimGs X [] 0 qy:=⟨fun Γ j σ H ρ ps vs Q G r e k=>⟨_,Qnf,by
 cases ps with
 | nil=>cases e; cases r; exact ⟨rfl,k σ G⟩
 | cons _ _=>cases e⟩,fun ps Γ j e=>by
 cases ps with
 | nil=>rfl
 | cons _ _=>cases e⟩
def WGx (X:Cx) (tg:aD):TG:=fun v σ H Q=>∃ t,PG X tg t/\t v σ H Q
theorem Qng {tg:aD}:PG X tg (WGx X tg):=fun pins s σ H v u Q I r ⟨t,h,q⟩=>h pins s σ H v u Q I r q
def Qy8 (X:Cx) (tgs:List aD):TGs:=fun v σ H Q=>∃ t,PGs X tgs t/\t v σ H Q
theorem Qqj {j:List aD}:PGs X j (Qy8 X j):=fun pins s σ H v u Q I r ⟨t,h,q⟩=>h pins s σ H v u Q I r q
theorem Wf {e:aD} {es:List aD} {g:GA} {gs:GAs} {n:Nat} (h1:SimG X e g) (h2:SimGs X es n gs) (hs:(ak (e :: es) X.env).map (·.2)=assign e X.env :: (ak es X.env).map (·.2):=by rfl):SimGs X (e :: es) (n + 1) (Y0 g gs):=
 ⟨fun Γ j σ H ρ ps vs Q G r eq k=>⟨_,Qj7 Qng Qqj hs,by
  cases ps with
  | nil=>cases eq
  | cons p ps=>
   obtain ⟨v,t,rfl,z,I⟩:=r;have eq:(g p Γ).bind (gs ps)=some j:=eq;cases e1:g p Γ with
   | none=>rw [e1] at eq; cases eq
   | some Γ1=>
    rw [e1] at eq;exact ⟨v,t,rfl,h1.run Γ Γ1 σ H ρ p v _ G z e1 fun q B=>h2.run Γ1 j q H ρ ps t _ B I eq k⟩⟩,fun ps Γ j e=>by
  cases ps with
  | nil=>cases e
  | cons p ps=>
   have e:(g p Γ).bind (gs ps)=some j:=e;cases e1:g p Γ with
   | none=>rw [e1] at e; cases e
   | some Γ1=>rw [e1] at e; rw [D8,h2.len ps Γ1 j e]⟩
theorem Q2t {es:List aD} {k n:Nat} {gs:GAs} (I:X.calm=true) (h:SimGs X es n gs) (J:(ak es X.env).length=n:=by rfl) (z:(ak es X.env).findIdx? (·.1)=none:=by rfl):SimG X (.Tuple es k pos) (qx gs):=
 ⟨fun Γ j σ H ρ p v Q G r e q=>⟨_,Qrt I Qqj J z,by
  cases p with
  | tup ps=>
   obtain ⟨a,vs,rfl,O,U,B⟩:=r;exact ⟨a,vs,rfl,SqT.of O,by rw [<- B.length]; exact h.len ps Γ j e,h.run Γ j σ H ρ ps vs Q G B e q⟩
  | _=>cases e⟩⟩
end
abbrev Wt:=List (Nat × Cell)
def wOk (w:Wt) (st:Q2):Prop:=∀ x∈w,st[x.1]?=some x.2
theorem xu (st:Q2):wOk [] st:=fun x h=>by cases h
structure Src (J:It) (items:List PV) (w:Wt) (H:Hp) (ρ:Tk):Prop where
 stop:∀ H2 ρ2 st2,Ext H ρ H2 ρ2->Rel H2 ρ2 st2->wOk w st2->J.stop items.length H2
 go:∀ H2 ρ2 st2,Ext H ρ H2 ρ2->Rel H2 ρ2 st2->wOk w st2->∀ i,i < items.length->J.go i H2
 yld:∀ H2 ρ2 st2,Ext H ρ H2 ρ2->Rel H2 ρ2 st2->wOk w st2->∀ i p,items[i]?=some p->∀ x H3,J.yld i H2 x H3->Same H2 H3/\Rep H3 ρ2 p x
abbrev MI:=Gam->Q2->Res (List PV × Wt)
structure SimI (X:Cx) (E:XK) (tg iter:aD) (mi:MI):Prop where
 run:∀ (Γ:Gam) (σ:St) (H:Hp) (ρ:Tk) (st:Q2) (P:List PV × Wt->Q2->Hp->Tk->Prop) (R':It->Hp->Prop),Rel H ρ st->EnvR H ρ Γ σ->Acc X.mg E H ρ P (mi Γ st) ->
  (∀ iw st1 H1 ρ1 J,mi Γ st=.ok iw st1->Ext H ρ H1 ρ1->Rel H1 ρ1 st1->EnvR H1 ρ1 Γ σ->wOk iw.2 st1->iw.1.length<=sizeLine->Src J iw.1 iw.2 H1 ρ1->P iw st1 H1 ρ1->R' J H1)->WI X tg iter σ H R'
def Xz (st:Q2):PV->Option (List PV × Wt)
 | .tup xs=>some (xs,[])
 | .lst xs=>some (xs,[])
 | .fro xs=>some (xs,[])
 | .ref i=>match st[i]? with
  | some (.lst xs)=>some (xs,[(i,.lst xs)])
  | _=>none
 | _=>none
theorem Qav {K:bP} {H:Hp} {ρ:Tk} {st:Q2} {p:PV} {v:V} {xs:List PV} {w:Wt} (R:Rel H ρ st) (r:Rep H ρ p v) (e:Xz st p=some (xs,w)) :
  wOk w st/\∃ (t:Bool) (a:aA),v=.ref a/\(t=true->∃ ys,p=.tup ys)/\(t=false->∀ ys,p≠.tup ys)/\∀ H2 j q,Ext H ρ H2 j->Rel H2 j q->wOk w q->∃ vs,SqK K t H2 a vs/\RepL H2 j xs vs:=by
 cases p with
 | tup ys=>
  obtain ⟨a,vs,rfl,B,G,I⟩:=r;cases e;exact ⟨xu _,true,a,rfl,fun _=>⟨_,rfl⟩,(fun z=>by cases z),fun H2 j q x R2 _=>⟨vs,show SqT K H2 a vs from SqT.of (x.kp B G),I.ext x⟩⟩
 | lst ys=>
  obtain ⟨a,vs,rfl,B,G,I⟩:=r;cases e;exact ⟨xu _,false,a,rfl,(fun z=>by cases z),(fun _ _ z=>by cases z),fun H2 j q x R2 _=>⟨vs,show SqL K H2 a vs from SqL.of (x.kp B G),I.ext x⟩⟩
 | fro ys=>
  obtain ⟨a,vs,rfl,B,G,I⟩:=r;cases e;refine ⟨xu _,false,a,rfl,(fun z=>by cases z),(fun _ _ z=>by cases z),fun H2 j q x R2 _=>⟨vs,show SqL K H2 a vs from ?_,I.ext x⟩⟩
  rcases B with B | ⟨o,B⟩
  ·exact .inl (.inl (x.kp B G))
  ·exact .inl (.inr ⟨o,x.kp B G⟩)
 | ref i=>
  obtain ⟨a,U,rfl⟩:=r;simp only [Xz] at e
  split at e
  ·rename_i ys hs;cases e;refine ⟨fun x Y=>?_,false,a,rfl,(fun z=>by cases z),(fun _ _ z=>by cases z),fun H2 j q x R2 ok=>?_⟩
   ·have:x=(i,.lst xs):=by simpa using Y
    subst this; exact hs
   ·have J:=ok (i,.lst xs) (by simp);obtain ⟨b,vs,O,f2,Z⟩:=R2.lst J;obtain ⟨t,et⟩:=x.pre;rw [<- et,O6 (O1.mp U).1,U] at O;cases O;exact ⟨vs,show SqL K H2 a vs from SqL.of f2,Z⟩
  ·cases e
 | _=>cases e
section
variable {X:Cx} {E:XK} {pos:Pos} {tg:aD} {e:aD} {m:ME}
def yy (m:ME):MI:=fun Γ st=>(m Γ st).bind fun p st1=>match Xz st1 p with
 | some (xs,w)=>if xs.length<=lim then .ok (xs,w) st1 else .stuck
 | none=>.stuck
theorem RepL.i {H:Hp} {ρ:Tk} {ps:List PV} {vs:List V} {i:Nat} {p:PV} {x:V} (r:RepL H ρ ps vs) (h:ps[i]?=some p) (h':vs[i]?=some x):Rep H ρ p x:=by
 obtain ⟨v,e,q⟩:=r.get h;rw [h'] at e; cases e;exact q
theorem Qf3 {K:bP} {H:Hp} {ρ:Tk} {t:Bool} {a:aA} {xs:List PV} {w:Wt} (h:∀ H2 j q,Ext H ρ H2 j->Rel H2 j q->wOk w q->∃ vs,SqK K t H2 a vs/\RepL H2 j xs vs):Src (if t=true then Itt K a else Itl K a) xs w H ρ:=by
 cases t with
 | true=>
  rw [bJ rfl];refine ⟨fun H2 j q x R ok=>?_,fun H2 j q x R ok i hi=>?_,fun H2 j q x R ok i p hp y I G=>?_⟩
  ·obtain ⟨vs,s,r⟩:=h H2 j q x R ok;exact ⟨vs,s,by rw [r.length]; exact O7 _⟩
  ·obtain ⟨vs,s,r⟩:=h H2 j q x R ok;have z:i < vs.length:=by rw [<- r.length]; exact hi
   exact ⟨vs,vs[i],s,O4 z⟩
  ·obtain ⟨vs,s,r⟩:=h H2 j q x R ok;obtain ⟨rfl,B⟩:=G;exact ⟨Same.refl _,r.i hp (B vs s)⟩
 | false=>
  rw [bK D7];refine ⟨fun H2 j q x R ok=>?_,fun H2 j q x R ok i hi=>?_,fun H2 j q x R ok i p hp y I G=>?_⟩
  ·obtain ⟨vs,s,r⟩:=h H2 j q x R ok;exact ⟨vs,s,by rw [r.length]; exact O7 _⟩
  ·obtain ⟨vs,s,r⟩:=h H2 j q x R ok;have z:i < vs.length:=by rw [<- r.length]; exact hi
   exact ⟨vs,vs[i],s,O4 z⟩
  ·obtain ⟨vs,s,r⟩:=h H2 j q x R ok;obtain ⟨rfl,B⟩:=G;exact ⟨Same.refl _,r.i hp (B vs s)⟩
theorem Qfm {mg:Str->Option aB} {H:Hp} {ρ:Tk} {st:Q2} {p:PV} {P:List PV × Wt->Q2->Hp->Tk->Prop} (R:Rel H ρ st) (h:Acc mg E H ρ P (match Xz st p with | some (xs,w)=>if xs.length<=lim then .ok (xs,w) st else .stuck | none=>.stuck)) :
  ∃ xs w,Xz st p=some (xs,w)/\xs.length<=lim/\P (xs,w) st H ρ:=by
 split at h
 ·rename_i xs w e
  split at h
  ·rename_i j;exact ⟨xs,w,e,j,h H ρ (Ext.refl _ _) R⟩
  ·exact h.elim
 ·exact h.elim
theorem Ku (Z:SimE X E e m):SimI X E tg e (yy m):=⟨fun Γ σ H ρ st P R' R G h k=>by
 have hb:Acc X.mg E H ρ _ (m Γ st):=Acc.bind h
 by_cases ht:∃ ys j,m Γ st=.ok (.tup ys) j
 ·obtain ⟨ys,a2,Y⟩:=ht;refine WI.of (Qrs Yu) (Z.use' R G hb fun p j H1 ρ1 v eq O q J I h1=>?_);obtain ⟨xs,w,e,z,U⟩:=Qfm q h1;obtain ⟨ok,t,a,rfl,t1,t2,B⟩:=Qav (K:=X.K) q I e;have ep:p=.tup ys:=by rw [eq] at Y; injection Y
  cases t with
  | false=>exact absurd ep (t2 rfl ys)
  | true=>
   obtain ⟨vs,s,_⟩:=B H1 ρ1 j (Ext.refl _ _) q ok;exact ⟨a,rfl,⟨vs,s⟩,k (xs,w) j H1 ρ1 _ (by simp only [yy,eq,Res.bind,e,bJ z]) O q J ok (qg z) (Qf3 B) U⟩
 ·refine WI.of (Qne Yu) (Z.use' R G hb fun p j H1 ρ1 v eq O q J I h1=>?_);obtain ⟨xs,w,e,z,U⟩:=Qfm q h1;obtain ⟨ok,t,a,rfl,t1,t2,B⟩:=Qav (K:=X.K) q I e;cases t with
  | true=>
   obtain ⟨ys,rfl⟩:=t1 rfl;exact absurd ⟨ys,j,eq⟩ ht
  | false=>
   obtain ⟨vs,s,_⟩:=B H1 ρ1 j (Ext.refl _ _) q ok;exact ⟨a,rfl,⟨vs,s⟩,k (xs,w) j H1 ρ1 _ (by simp only [yy,eq,Res.bind,e,bJ z]) O q J ok (qg z) (Qf3 B) U⟩⟩
def Yg (lo:Int) (n:Nat):List PV:=(bV n).map fun (k:Nat)=>PV.int (lo + (k:Int))
theorem Q9v {H:Hp} {ρ:Tk} {lo:Int} {n:Nat}:Src (Itr lo n) (Yg lo n) [] H ρ:=by
 have z:(Yg lo n).length=n:=by unfold Yg; rw [O2,G6]
 refine ⟨fun H2 q j x R ok=>?_,fun H2 q j x R ok i hi=>?_,fun H2 q j x R ok i p hp y G B=>?_⟩
 ·show n<=(Yg lo n).length;omega
 ·show i < n;omega
 ·obtain ⟨rfl,rfl⟩:=B;have hi:i < n:=by rw [<- z]; exact (O1.mp hp).1
  unfold Yg at hp;rw [E6,cJ hi] at hp;cases hp;exact ⟨Same.refl _,rfl⟩
def W2 (mr:Gam->Q2->Res (List PV)):MI:=fun Γ st=>(mr Γ st).bind fun ps st1=>match ps with
 | [.int j]=>if -(lim:Int)<=j/\j<=lim then .ok (Yg 0 j.toNat,[]) st1 else .stuck
 | _=>.stuck
def Q3w (mr:Gam->Q2->Res (List PV)):MI:=fun Γ st=>(mr Γ st).bind fun ps st1=>match ps with
 | [.int i,.int j]=>if -(lim:Int)<=i/\i<=lim/\-(lim:Int)<=j/\j<=lim then .ok (Yg i (j - i).toNat,[]) st1 else .stuck
 | _=>.stuck
variable {a b:aD} {mr:Gam->Q2->Res (List PV)} {p:Pos}
theorem Q72 (lo:Int) (n:Nat):(Yg lo n).length=n:=by unfold Yg; rw [O2,G6]
theorem Yz (O:Gl X "range") (J:X.mg "range" = none) (Y:SimA X E [a] mr) (hs:aO [a] X.env=[(false,aK a X.env)]:=by rfl):SimI X E tg (.Call (.Name "range" p) [a] [] pos) (W2 mr):=⟨fun Γ σ H ρ st P R' R G h k=>by
 refine WI.of (Qgn O J Q3j hs) (Y.use' R G h.bind fun ps q H1 ρ1 vs eq Z z U B h1=>?_)
 split at h1
 ·rename_i j
  split at h1
  ·rename_i I;obtain ⟨v,rfl,rv⟩:=Vb B;cases rv;have hl:(lim:Int)=1000000:=rfl;refine ⟨j,rfl,by omega,by omega,k (Yg 0 j.toNat,[]) q H1 ρ1 _ (by simp only [W2,eq,Res.bind,bJ I]) Z z U (xu _) ?_ Q9v (h1 H1 ρ1 (Ext.refl _ _) z)⟩;show (Yg 0 j.toNat).length<=sizeLine;rw [Q72];exact qg (by omega)
  ·exact h1.elim
 ·exact h1.elim⟩
theorem Qg8 (U:Gl X "range") (O:X.mg "range" = none) (Z:SimA X E [a,b] mr) (hs:aO [a,b] X.env=[(false,aK a X.env),(false,aK b X.env)]:=by rfl) (z:aO [b] X.env=[(false,aK b X.env)]:=by rfl):SimI X E tg (.Call (.Name "range" p) [a,b] [] pos) (Q3w mr):=⟨fun Γ σ H ρ st P R' R G h k=>by
 refine WI.of (Qgm U O Q3j hs z) (Z.use' R G h.bind fun ps q H1 ρ1 vs eq x1 B Y I h1=>?_)
 split at h1
 ·rename_i i j
  split at h1
  ·rename_i J;obtain ⟨v,u,rfl,rv,ru⟩:=Q3h I;cases rv; cases ru;have hl:(lim:Int)=1000000:=rfl;refine ⟨i,j,rfl,⟨by omega,by omega,by omega,by omega⟩,k (Yg i (j - i).toNat,[]) q H1 ρ1 _ (by simp only [Q3w,eq,Res.bind,bJ J]) x1 B Y (xu _) ?_ Q9v (h1 H1 ρ1 (Ext.refl _ _) B)⟩;show (Yg i (j - i).toNat).length<=sizeLine;rw [Q72];exact F1 (show (j - i).toNat<=2000000 by omega) (by decide)
  ·exact h1.elim
 ·exact h1.elim⟩
def Q39:List PV->List PV->List PV
 | x :: xs,y :: ys=>.tup [x,y] :: Q39 xs ys
 | _,_=>[]
theorem Qar (xs ys:List PV):Q39 xs ys=(xs.zip ys).map fun z=>.tup [z.1,z.2]:=by
 induction xs generalizing ys with
 | nil=>rfl
 | cons x xs j=>
  cases ys with
  | nil=>rfl
  | cons y ys=>rw [Q39,j]; rfl
theorem Q6k (xs ys:List PV):(Q39 xs ys).length=min xs.length ys.length:=by rw [Qar,O2,db]
theorem Qi6 {xs ys:List PV} {i:Nat} {p:PV} (h:(Q39 xs ys)[i]?=some p):∃ x y,p=.tup [x,y]/\xs[i]?=some x/\ys[i]?=some y:=by
 rw [Qar,E6] at h;cases e:(xs.zip ys)[i]? with
 | none=>rw [e] at h; cases h
 | some z=>
  rw [e] at h; cases h;rw [dc] at e;exact ⟨z.1,z.2,rfl,e.1,e.2⟩
def Q63 (mr:Gam->Q2->Res (List PV)):MI:=fun Γ st=>(mr Γ st).bind fun ps st1=>match ps with
 | [p,q]=>match Xz st1 p,Xz st1 q with
  | some (xs,w),some (ys,w')=>if xs.length<=lim then .ok (Q39 xs ys,w ++ w') st1 else .stuck
  | _,_=>.stuck
 | _=>.stuck
theorem Q1z {w q:Wt} {st:Q2} (h:wOk (w ++ q) st):wOk w st/\wOk q st:=⟨fun x j=>h x (F5 _ j),fun x j=>h x (E4 _ j)⟩
theorem Qmq {K:bP} {H:Hp} {ρ:Tk} {t1 t2:Bool} {a b:aA} {xs ys:List PV} {w I:Wt} (h:∀ H2 j z,Ext H ρ H2 j->Rel H2 j z->wOk w z->∃ vs,SqK K t1 H2 a vs/\RepL H2 j xs vs)
  (h':∀ H2 j z,Ext H ρ H2 j->Rel H2 j z->wOk I z->∃ vs,SqK K t2 H2 b vs/\RepL H2 j ys vs):Src (Itz K t1 t2 a b) (Q39 xs ys) (w ++ I) H ρ:=by
 refine ⟨fun H2 j z x R ok=>?_,fun H2 j z x R ok i hi=>?_,fun H2 j z x R ok i p hp y Z U=>?_⟩
 ·obtain ⟨vs,s,r⟩:=h H2 j z x R (Q1z ok).1;obtain ⟨us,s',B⟩:=h' H2 j z x R (Q1z ok).2;refine ⟨vs,us,s,s',?_⟩;rw [Q6k,<- r.length,<- B.length];omega
 ·obtain ⟨vs,s,r⟩:=h H2 j z x R (Q1z ok).1;obtain ⟨us,s',B⟩:=h' H2 j z x R (Q1z ok).2;rw [Q6k,r.length,B.length] at hi;have h1:i < vs.length:=by omega
  have h2:i < us.length:=by omega
  exact ⟨vs,us,vs[i],us[i],s,s',O4 h1,O4 h2⟩
 ·obtain ⟨vs,s,r⟩:=h H2 j z x R (Q1z ok).1;obtain ⟨us,s',B⟩:=h' H2 j z x R (Q1z ok).2;obtain ⟨q,u,v,J,rfl,rfl,O⟩:=U;obtain ⟨e1,e2⟩:=O vs us s s';obtain ⟨xp,yp,rfl,Y,p2⟩:=Qi6 hp;have G:Same H2 (upd H2 q (.tup [u,v])):=Qis J;exact ⟨G,q,[u,v],rfl,Jb,R.fresh J,RepL.cons ((r.i Y e1).ext (Ext.same G)) (RepL.cons ((B.i p2 e2).ext (Ext.same G)) RepL.nil)⟩
theorem Q4c {elts:List aD} {kt:Nat} {tp:Pos} (hg:Gl X "zip") (hm:X.mg "zip" = none) (ha:SimA X E [a,b] mr) (hs:aO [a,b] X.env=[(false,aK a X.env),(false,aK b X.env)]:=by rfl) (a4:aO [b] X.env=[(false,aK b X.env)]:=by rfl) :
  SimI X E (.Tuple elts kt tp) (.Call (.Name "zip" p) [a,b] [] pos) (Q63 mr):=⟨fun Γ σ H ρ st P R' R G h k=>by
 have hb:Acc X.mg E H ρ _ (mr Γ st):=Acc.bind h;have B:∀ t1 t2:Bool,(∀ p q j,mr Γ st=.ok [p,q] j->(t1=true <-> ∃ ys,p=.tup ys)/\(t2=true <-> ∃ ys,q=.tup ys))->WI X (.Tuple elts kt tp) (.Call (.Name "zip" p) [a,b] [] pos) σ H R':=fun t1 t2 ht=>by
  refine WI.of (Qrq t1 t2 hg hm Q3j hs a4) (ha.use' R G hb fun ps j H1 ρ1 vs eq x1 I G1 r1 h1=>?_)
  split at h1
  ·rename_i p' q'
   split at h1
   ·rename_i xs w ys w' e1 e2
    split at h1
    ·rename_i hl;obtain ⟨v,u,rfl,rv,ru⟩:=Q3h r1;obtain ⟨Z,b1,a1,rfl,z1,a3,U⟩:=Qav (K:=X.K) I rv e1;obtain ⟨O,b2,a2,rfl,z2,a6,Y⟩:=Qav (K:=X.K) I ru e2;obtain ⟨g1,g2⟩:=ht _ _ _ eq;have a7:b1=t1:=by
      cases b1 with
      | true=>exact (g1.mpr (z1 rfl)).symm
      | false=>
       cases t1 with
       | false=>rfl
       | true=>obtain ⟨ys,e⟩:=g1.mp rfl; exact absurd e (a3 rfl ys)
     have a8:b2=t2:=by
      cases b2 with
      | true=>exact (g2.mpr (z2 rfl)).symm
      | false=>
       cases t2 with
       | false=>rfl
       | true=>obtain ⟨ys,e⟩:=g2.mp rfl; exact absurd e (a6 rfl ys)
     subst a7; subst a8;obtain ⟨a5,s1,_⟩:=U H1 ρ1 j (Ext.refl _ _) I Z;obtain ⟨a9,s2,_⟩:=Y H1 ρ1 j (Ext.refl _ _) I O;refine ⟨a1,a2,a5,a9,rfl,s1,s2,k (Q39 xs ys,w ++ w') j H1 ρ1 _ (by simp only [Q63,eq,Res.bind,e1,e2,bJ hl]) x1 I G1 (fun x J=>?_) ?_ (Qmq U Y) (h1 H1 ρ1 (Ext.refl _ _) I)⟩
     ·rcases E9.mp J with J | J
      ·exact Z x J
      ·exact O x J
     ·show (Q39 xs ys).length<=sizeLine;rw [Q6k];exact qg (F1 (gJ _ _) hl)
    ·exact h1.elim
   ·exact h1.elim
  ·exact h1.elim
 have tt:∀ p:PV,∃ t:Bool,t=true <-> ∃ ys,p=.tup ys:=fun p=>by
  cases p with
  | tup ys=>exact ⟨true,fun _=>⟨ys,rfl⟩,fun _=>rfl⟩
  | _=>exact ⟨false,⟨fun z=>(by cases z),fun ⟨_,z⟩=>(by cases z)⟩⟩
 by_cases hz:∃ p q j,mr Γ st=.ok [p,q] j
 ·obtain ⟨p0,q0,b0,e0⟩:=hz;obtain ⟨t1,g1⟩:=tt p0;obtain ⟨t2,g2⟩:=tt q0;refine B t1 t2 fun p q j e=>?_
  rw [e0] at e; cases e;exact ⟨g1,g2⟩
 ·exact B true true fun p q j e=>absurd ⟨p,q,j,e⟩ hz⟩
def Qw1:Nat->List PV->List PV
 | _,[]=>[]
 | n,x :: xs=>.tup [.int n,x] :: Qw1 (n + 1) xs
end
section
abbrev ML:=Gam->Q2->Res (List PV)
structure SimN (X:Cx) (E:XK) (e:aD) (m:ML):Prop where
 run:∀ (Γ:Gam) (σ:St) (H:Hp) (ρ:Tk) (st:Q2) (P:List PV->Q2->Hp->Tk->Prop) (Q:VK),Rel H ρ st->EnvR H ρ Γ σ->Acc X.mg E H ρ P (m Γ st) ->
  (∀ ps st1 H1 ρ1 a vs,m Γ st=.ok ps st1->Ext H ρ H1 ρ1->Rel H1 ρ1 st1->a∈ρ1.hid->H a=none->H1 a=some (.lst vs)->RepL H1 ρ1 ps vs->Q (.ref a) H1)->WE X e σ H Q
def qd (m:ML):ME:=fun Γ st=>(m Γ st).bind fun ps st1=>.ok (.lst ps) st1
def Q0y (m:ML):ME:=fun Γ st=>(m Γ st).bind fun ps st1=>.ok (.ref st1.length) (st1 ++ [.lst ps])
section
variable {H0 H:Hp} {ρ0 ρ:Tk} {st:Q2} {a:aA} {ps:List PV} {vs:List V}
theorem Qfe (I:Rel H0 ρ0 st) (x:Ext H0 ρ0 H ρ) {j:Q2} (R:Rel H ρ j) (q:a∈ρ.hid) (B:H0 a=none) (G:H a=some (.lst vs)) (r:RepL H ρ ps vs) :
  Ext H0 ρ0 H ⟨ρ.tr,ρ0.hid⟩/\Rel H ⟨ρ.tr,ρ0.hid⟩ j/\Rep H ⟨ρ.tr,ρ0.hid⟩ (.lst ps) (.ref a):=
 ⟨x.unhide,R.unhide x.hidM,a,vs,rfl,G,(fun z=>by
  rcases z with z | z
  ·exact R.ap a q z
  ·obtain ⟨o,e,_⟩:=I.hd a z;rw [B] at e; cases e),r.unhide x.hidM⟩
mutual
theorem Rep.trk {b:aA} {hs:List aA} (j:b∈ρ.hid) (q:∀ c,c∈hs->c∈ρ.hid):∀ {p:PV} {v:V},Rep H ρ p v->Rep H ⟨ρ.tr ++ [b],hs⟩ p v
 | .non,_,r=>r
 | .bl _,_,r=>r
 | .int _,_,r=>r
 | .str _,_,r=>r
 | .tup ps,v,⟨c,vs,e,s,n,r⟩=>⟨c,vs,e,s,fun z=>by
   rcases z with z | z
   ·rcases E9.mp z with z | z
    ·exact n (.inl z)
    ·have:c=b:=by simpa using z
     subst this; exact n (.inr j)
   ·exact n (.inr (q _ z)),RepL.trk j q r⟩
 | .lst ps,v,⟨c,vs,e,s,n,r⟩=>⟨c,vs,e,s,fun z=>by
   rcases z with z | z
   ·rcases E9.mp z with z | z
    ·exact n (.inl z)
    ·have:c=b:=by simpa using z
     subst this; exact n (.inr j)
   ·exact n (.inr (q _ z)),RepL.trk j q r⟩
 | .fro ps,v,⟨c,vs,e,s,n,r⟩=>⟨c,vs,e,s,fun z=>by
   rcases z with z | z
   ·rcases E9.mp z with z | z
    ·exact n (.inl z)
    ·have:c=b:=by simpa using z
     subst this; exact n (.inr j)
   ·exact n (.inr (q _ z)),RepL.trk j q r⟩
 | .ref i,v,⟨c,e,e2⟩=>⟨c,by show (ρ.tr ++ [b])[i]?=some c; rw [O6 (O1.mp e).1]; exact e,e2⟩
 | .dic,v,⟨c,e,s,n⟩=>⟨c,e,s,fun z=>by
   rcases z with z | z
   ·rcases E9.mp z with z | z
    ·exact n (.inl z)
    ·have:c=b:=by simpa using z
     subst this; exact n (.inr j)
   ·exact n (.inr (q _ z))⟩
theorem RepL.trk {b:aA} {hs:List aA} (j:b∈ρ.hid) (q:∀ c,c∈hs->c∈ρ.hid):∀ {ps:List PV} {vs:List V},RepL H ρ ps vs->RepL H ⟨ρ.tr ++ [b],hs⟩ ps vs
 | [],_,r=>r
 | p :: ps,_,⟨v,t,e,z,B⟩=>⟨v,t,e,Rep.trk j q z,RepL.trk j q B⟩
end
theorem Qns (R0:Rel H0 ρ0 st) (x:Ext H0 ρ0 H ρ) {j:Q2} (R:Rel H ρ j) (G:a∈ρ.hid) (U:H0 a=none) (Z:H a=some (.lst vs)) (r:RepL H ρ ps vs) :
  Ext H0 ρ0 H ⟨ρ.tr ++ [a],ρ0.hid⟩/\Rel H ⟨ρ.tr ++ [a],ρ0.hid⟩ (j ++ [.lst ps])/\Rep H ⟨ρ.tr ++ [a],ρ0.hid⟩ (.ref j.length) (.ref a):=by
 have J:a∉ρ0.hid:=fun z=>by
  obtain ⟨o,e,_⟩:=R0.hd a z;rw [U] at e; cases e
 refine ⟨⟨x.pre.trans (dB _ _),fun _ h=>h,fun _ h=>.inl h,x.keep,fun b B=>?_,x.old,x.frz⟩,⟨?_,?_,fun b B=>R.hd b (x.hidM b B),fun b B z=>?_,fun i b c h1 h2=>?_⟩,a,?_,rfl⟩
 ·rcases E9.mp B with z | z
  ·exact x.new b z
  ·have:b=a:=by simpa using z
   subst this; exact .inr U
 ·show (ρ.tr ++ [a]).length=_;rw [O8,O8,R.len]; rfl
 ·show (ρ.tr ++ [a]).Nodup;refine dY.mpr ⟨R.nd,by simp,fun b B c Y e=>?_⟩;have:c=a:=by simpa using Y
  subst this; subst e;exact R.ap b G B
 ·rcases E9.mp z with z | z
  ·exact R.ap b (x.hidM b B) z
  ·have:b=a:=by simpa using z
   subst this; exact J B
 ·have h1:(ρ.tr ++ [a])[i]?=some b:=h1
  by_cases hi:i < j.length
  ·rw [O6 (by rw [R.len]; exact hi)] at h1;rw [O6 hi] at h2;have q:=R.cell i b c h1 h2;cases c with
   | lst I=>
    obtain ⟨us,e1,e2⟩:=q;exact ⟨us,e1,e2.trk G x.hidM⟩
   | dic I=>
    obtain ⟨us,e1,e2⟩:=q;exact ⟨us,e1,e2.1,e2.2.trk G x.hidM⟩
   | dtp I=>
    obtain ⟨us,e1,e2⟩:=q;exact ⟨us,e1,e2.1,e2.2.trk G x.hidM⟩
   | frd I=>
    obtain ⟨us,e1,e2⟩:=q;exact ⟨us,e1,e2.1,e2.2.trk G x.hidM⟩
   | obj C I=>
    obtain ⟨us,e1,e2⟩:=q;exact ⟨us,e1,e2.1,e2.2.trk G x.hidM⟩
  ·rw [D1 (by rw [R.len]; omega)] at h1;rw [D1 (by omega)] at h2;have O:i - j.length=0:=by
    rcases ek (i - j.length) with z | z
    ·exact z
    ·rw [cV (by simp; omega)] at h2; cases h2
   rw [R.len,O] at h1;rw [O] at h2;simp at h1 h2;subst h1; subst h2;exact ⟨vs,Z,r.trk G x.hidM⟩
 ·show (ρ.tr ++ [a])[j.length]?=some a;rw [<- R.len,D1 (O7 _),dE]; rfl
end
section
variable {X:Cx} {E:XK} {pos:Pos} {e:aD} {m:ML}
theorem Vg (h:SimN X E e m):SimE X E e (qd m):=⟨fun Γ σ H ρ st Q R G j=>h.run Γ σ H ρ st _ Q R G j.bind fun ps z H1 ρ1 a vs eq x O q B J r=>by
 obtain ⟨I,R2,U⟩:=Qfe R x O q B J r;unfold qd at j;rw [eq] at j;exact j _ _ I R2 _ U⟩
theorem j9 (h:SimN X E e m):SimE X E e (Q0y m):=⟨fun Γ σ H ρ st Q R G j=>h.run Γ σ H ρ st _ Q R G j.bind fun ps z H1 ρ1 a vs eq x O q B J r=>by
 obtain ⟨I,R2,U⟩:=Qns R x O q B J r;unfold Q0y at j;rw [eq] at j;exact j _ _ I R2 _ U⟩
variable {es:List aD} {mr:Gam->Q2->Res (List PV)} {a b:aD} {ma mb:ME}
theorem Qsf {H1:Hp} {ρ1:Tk} {j:Q2} {H:Hp} {ρ:Tk} {Q:VK} {ps:List PV} {vs:List V} (x:Ext H ρ H1 ρ1) (z:Rel H1 ρ1 j) (r:RepL H1 ρ1 ps vs)
  (k:∀ H1 ρ1 a vs,Ext H ρ H1 ρ1->Rel H1 ρ1 j->a∈ρ1.hid->H a=none->H1 a=some (.lst vs)->RepL H1 ρ1 ps vs->Q (.ref a) H1):∀ p,H1 p=none->Q (.ref p) (upd H1 p (.lst vs)):=fun p hp=>by
 refine k _ (ρ1.hide p) p vs (x.trans (Ext.hide hp)) (z.hide hp) D4 ?_ Jb (r.hide hp);cases e:H p with
 | none=>rfl
 | some o=>
  obtain ⟨o',q⟩:=x.old p o e;rw [hp] at q; cases q
def y0 (mr:Gam->Q2->Res (List PV)):ML:=fun Γ st=>(mr Γ st).bind fun ps st1=>if ps.length<=lim then .ok ps st1 else .stuck
theorem Q01 (h:SimA X E es mr):SimN X E (.List es pos) (y0 mr):=
 ⟨fun Γ σ H ρ st P Q R G O k=>WE.of (Qjc Q3j) (h.use' R G O.bind fun ps q H1 ρ1 vs eq J I U B h1=>by
  by_cases j:ps.length<=lim
  ·refine ⟨by rw [<- B.length]; exact qg j,Qsf J I B fun H2 z a us=>k ps q H2 z a us ?_⟩;unfold y0;rw [eq];exact bJ j
  ·rw [bK j] at h1; exact h1.elim)⟩
end
end
def Zp (cap:List (Option Nat)) (Γ:Gam):Gam:=cap.map fun c=>c.bind fun j=>(Γ[j]?).join
theorem EnvR.cap {H:Hp} {ρ:Tk} {Γ:Gam} {σ:St} (h:EnvR H ρ Γ σ) (cap:List (Option Nat)):EnvR H ρ (Zp cap Γ) (Q46 cap σ):=by
 refine ⟨by unfold Zp Q46; rw [O2,O2],fun i p e=>?_⟩;unfold Zp at e;unfold Q46;rw [E6] at e ⊢;cases q:cap[i]? with
 | none=>rw [q] at e; cases e
 | some c=>
  rw [q] at e;cases c with
  | none=>cases e
  | some j=>
   have z:(Γ[j]?).join=some p:=bc e;cases r:Γ[j]? with
   | none=>rw [r] at z; cases z
   | some o=>
    rw [r] at z;have:o=some p:=z;subst this;obtain ⟨v,e1,e2⟩:=h.2 j p r;exact ⟨v,by show some ((σ[j]?).join)=some (some v); rw [e1]; rfl,e2⟩
def Qaq (cap:List (Option Nat)) (ga:GA):Prop:=∀ Γ p Γ1,ga p (Zp cap Γ)=some Γ1->Γ1.length=(Zp cap Γ).length/\∀ (i:Nat) (q:PV),(Zp cap Γ)[i]?=some (some q)->Γ1[i]?=some (some q)
theorem Qah {cap:List (Option Nat)} {i:Nat} (h:cap[i]?=some none) (Γ:Gam):(Zp cap Γ)[i]?=some none:=by
 unfold Zp;rw [E6,h]; rfl
theorem Jq {cap:List (Option Nat)} {i:Nat} (h:cap[i]?=some none:=by rfl):Qaq cap (Qp i):=fun Γ p Γ1 e=>by
 cases e;refine ⟨D5 ..,fun j q B=>?_⟩;rw [O5 fun z=>?_]
 ·exact B
 ·subst z; rw [Qah h] at B; cases B
def Qg3 (cap:List (Option Nat)) (ga:GAs):Prop:=∀ Γ ps Γ0 Γ1,(∀ (i:Nat) (q:PV),(Zp cap Γ)[i]?=some (some q)->Γ0[i]?=some (some q))->ga ps Γ0=some Γ1->Γ1.length=Γ0.length/\∀ (i:Nat) (q:PV),(Zp cap Γ)[i]?=some (some q)->Γ1[i]?=some (some q)
theorem Q42 {cap:List (Option Nat)}:Qg3 cap qy:=fun Γ ps Γ0 Γ1 h e=>by
 cases ps with
 | nil=>cases e; exact ⟨rfl,h⟩
 | cons _ _=>cases e
theorem Xu {cap:List (Option Nat)} {i:Nat} {gs:GAs} (hs:Qg3 cap gs) (h:cap[i]?=some none:=by rfl):Qg3 cap (Y0 (Qp i) gs):=fun Γ ps Γ0 Γ1 h0 e=>by
 cases ps with
 | nil=>cases e
 | cons p ps=>
  obtain ⟨a,b⟩:=hs Γ ps (Γ0.set i (some p)) Γ1 (fun k r j=>by
   rw [O5 fun z=>?_]
   ·exact h0 k r j
   ·subst z; rw [Qah h] at j; cases j) e
  exact ⟨by rw [a,D5],b⟩
theorem Q41 {cap:List (Option Nat)} {gs:GAs} (hs:Qg3 cap gs):Qaq cap (qx gs):=fun Γ p Γ1 e=>by
 cases p with
 | tup ps=>exact hs Γ ps _ Γ1 (fun _ _ h=>h) e
 | _=>cases e
open Classical in
def Z3 (ga:GA) (mt:MT) (me:ME) (w:Wt) (Γ0:Gam):List PV->Q2->Res (List PV)
 | [],st=>if wOk w st then .ok [] st else .stuck
 | x :: xs,st=>if wOk w st then (match ga x Γ0 with
  | none=>.stuck
  | some Γ1=>(mt Γ1 st).bind fun b st1=>if b=true then (me Γ1 st1).bind fun y st2=>(Z3 ga mt me w Γ0 xs st2).bind fun ys st3=>.ok (y :: ys) st3 else Z3 ga mt me w Γ0 xs st1) else .stuck
def noX {α:Type}:Res α->Res α
 | .exc _ _=>.stuck
 | r=>r
def Yh (cap:List (Option Nat)) (ga:GA) (mi:MI) (mt:MT) (me:ME):ML:=fun Γ st=>(mi Γ st).bind fun iw st1=>noX (Z3 ga mt me iw.2 (Zp cap Γ) iw.1 st1)
structure SimTs (X:Cx) (ifs:List aD) (m:MT):Prop where
 run:∀ (Γ:Gam) (σ:St) (H:Hp) (ρ:Tk) (st:Q2) (P:Bool->Q2->Hp->Tk->Prop) (Q:Bool->Hp->Prop),Rel H ρ st->EnvR H ρ Γ σ->Acc X.mg E0 H ρ P (m Γ st) ->
  (∀ b st1 H1 ρ1,m Γ st=.ok b st1->Ext H ρ H1 ρ1->Rel H1 ρ1 st1->EnvR H1 ρ1 Γ σ->Q b H1)->∃ t,PTs X ifs t/\t σ H Q
def Zr:MT:=fun _ st=>.ok true st
theorem W9 {X:Cx}:SimTs X [] Zr:=⟨fun Γ σ H ρ st P Q R G h k=>⟨_,Qn7,k true st H ρ rfl (Ext.refl _ _) R G⟩⟩
theorem xz {X:Cx} {c:aD} {m:MT} (q:SimT X E0 c m):SimTs X [c] m:=⟨fun Γ σ H ρ st P Q R G h k=>⟨_,Qn6 Qcf,q.use' R G h fun b j H1 ρ1 e I B z p=>k b j H1 ρ1 e I B z⟩⟩
theorem Qq9 {α:Type} {mg:Str->Option aB} {E E':XK} {H:Hp} {ρ:Tk} {P:α->Q2->Hp->Tk->Prop} {r:Res α} (h:Acc mg E H ρ P (noX r)):Acc mg E' H ρ P r:=by
 cases r with
 | ok a st=>exact h
 | exc x st=>exact h.elim
 | stuck=>exact h
theorem Res.assoc {α β j:Type} (r:Res α) (f:α->Q2->Res β) (g:β->Q2->Res j):(r.bind f).bind g=r.bind fun a st=>(f a st).bind g:=by cases r <;> rfl
theorem Acc.assoc {α β j:Type} {mg:Str->Option aB} {E:XK} {H:Hp} {ρ:Tk} {P:j->Q2->Hp->Tk->Prop} {r:Res α} {f:α->Q2->Res β} {g:β->Q2->Res j} (h:Acc mg E H ρ P ((r.bind f).bind g)):Acc mg E H ρ P (r.bind fun a st=>(f a st).bind g):=by
 rw [<- Res.assoc]; exact h
theorem EnvR.le {H:Hp} {ρ:Tk} {Γ j:Gam} {σ:St} (h:EnvR H ρ j σ) (z:Γ.length=σ.length) (k:∀ (i:Nat) (q:PV),Γ[i]?=some (some q)->j[i]?=some (some q)):EnvR H ρ Γ σ:=⟨z,fun i p e=>h.2 i p (k i p e)⟩
section
variable {X:Cx} {E:XK} {pos:Pos} {tg iter elt:aD} {ifs:List aD} {N N':List Str} {sc scE:Scope} {cap:List (Option Nat)} {ga:GA} {mi:MI} {mt:MT} {me:ME}
def aE (X:Cx) (N':List Str) (sc:Scope) (e:aD):TE:=fun σ H Q=>∀ cl C s0 H0 ex,WE (Xp X N' sc cl C s0 H0 ex) e σ H Q
def aG (X:Cx) (N':List Str) (sc:Scope) (tg:aD):TG:=fun v σ H Q=>∀ cl C s0 H0 ex,WGx (Xp X N' sc cl C s0 H0 ex) tg v σ H Q
def aT (X:Cx) (N':List Str) (sc:Scope) (ifs:List aD):TT:=fun σ H Q=>∀ cl C s0 H0 ex,∃ t,PTs (Xp X N' sc cl C s0 H0 ex) ifs t/\t σ H Q
theorem Qhj {Γ:Gam} {σ:St} {H1:Hp} {ρ1:Tk} {O:Q2} {J:It} {j:List PV} {w:Wt} {Q:VK} {P:List PV->Q2->Hp->Tk->Prop} (hg:∀ cl C s0 H0 ex,SimG (Xp X N' sc cl C s0 H0 ex) tg ga) (he:∀ cl C s0 H0 ex,SimE (Xp X N' sc cl C s0 H0 ex) E0 elt me) (ht:∀ cl C s0 H0 ex,SimTs (Xp X N' sc cl C s0 H0 ex) ifs mt)
  (hf:Qaq cap ga) (R1:Rel H1 ρ1 O) (G1:EnvR H1 ρ1 Γ σ) (src:Src J j w H1 ρ1) (c3:j.length<=sizeLine) (h:Acc X.mg E0 H1 ρ1 P (Z3 ga mt me w (Zp cap Γ) j O))
  (k:∀ ys b5 H2 a3 q vs,Z3 ga mt me w (Zp cap Γ) j O=.ok ys b5->Ext H1 ρ1 H2 a3->Rel H2 a3 b5->q∈a3.hid->H1 q=none->H2 q=some (.lst vs)->RepL H2 a3 ys vs->Q (.ref q) H2):Qaf J cap (aG X N' sc tg) (aT X N' sc ifs) (aE X N' sc elt) σ H1 Q:=by
 intro q G;let W:Nat->Nat->List V->St->Hp->Prop:=fun i m vs b1 H'=>m=j.length - i/\i<=j.length/\vs.length<=i/\∃ ρ' st' ys,Ext H1 ρ1 H' ρ'/\q∈ρ'.hid/\Rel H' ρ' st'/\EnvR H' ρ' (Zp cap Γ) b1/\H' q=some (.lst vs)/\RepL H' ρ' ys vs /\
  Z3 ga mt me w (Zp cap Γ) j O=(Z3 ga mt me w (Zp cap Γ) (j.drop i) st').bind fun zs Y=>.ok (ys ++ zs) Y
 refine ⟨W,⟨_,rfl,cM _,O7 _,ρ1.hide q,O,[],Ext.hide G,D4,R1.hide G,(G1.cap cap).hide G,Jb,rfl,?_⟩,?_⟩
 ·rw [da];cases r:Z3 ga mt me w (Zp cap Γ) j O with
  | ok zs Y=>rfl
  | exc x Y=>rfl
  | stuck=>rfl
 rintro i m vs b1 H' ⟨hm,hi,c4,ρ',st',ys,x,a2,R',G',ha,ry,I⟩;have B:Acc X.mg E0 H1 ρ1 P ((Z3 ga mt me w (Zp cap Γ) (j.drop i) st').bind fun zs Y=>.ok (ys ++ zs) Y):=by rw [<- I]; exact h
 refine ⟨ha,?_⟩
 by_cases Z:i < j.length
 ·right
  have hd:j.drop i=j[i] :: j.drop (i + 1):=gK Z;rw [hd,Z3] at B I
  by_cases hw:wOk w st'
  ·rw [bJ hw] at B I;refine ⟨src.go H' _ st' x R' hw i Z,by omega,fun y H2 hy=>?_⟩;obtain ⟨sm,b9⟩:=src.yld H' _ st' x R' hw i _ (O4 Z) y H2 hy;cases eg:ga j[i] (Zp cap Γ) with
   | none=>rw [eg] at B; exact B.elim
   | some Γ1=>
    rw [eg] at B I;have x2:Ext H' ρ' H2 ρ':=Ext.same sm;have R2:=R'.same sm;intro cl C s0 H0 ex;refine (hg cl C s0 H0 ex).run (Zp cap Γ) Γ1 b1 H2 ρ' _ y _ (G'.ext x2) b9 eg fun b0 G3=>?_
    intro cl C s0 H0 ex;have b8:=Acc.later B (x.trans x2);refine (ht cl C s0 H0 ex).run Γ1 b0 H2 ρ' st' _ _ R2 G3 (Acc.bind (Acc.assoc b8)) fun b b7 H4 a4 e4 x4 R4 G4=>?_
    simp only [e4,Res.bind] at B I;have G0:∀ {a6:Hp} {U:Tk},EnvR a6 U Γ1 b0->EnvR a6 U (Zp cap Γ) b0:=fun {a6 U} g=>g.le (by
     rw [<- G3.1];exact (hf Γ _ Γ1 eg).1.symm) (hf Γ _ Γ1 eg).2
    have a9:Ext H1 ρ1 H4 a4:=x.trans (x2.trans x4);have a8:q∈a4.hid:=x4.hidM q a2;have na:q∉ρ'.tr:=R'.ap q a2;have b6:H4 q=some (.lst vs):=x4.keep q _ (sm q _ ha) na;have b3:RepL H4 a4 ys vs:=ry.ext (x2.trans x4);cases b with
    | false=>
     rw [bK D7] at B I ⊢;exact ⟨_,show j.length - (i + 1) < m by omega,rfl,Z,by omega,a4,b7,ys,a9,a8,R4,G0 G4,b6,b3,I⟩
    | true=>
     rw [bJ rfl] at B I ⊢;intro cl C s0 H0 ex;have c2:=Acc.later B a9;refine (he cl C s0 H0 ex).use' R4 G4 (Acc.bind (Acc.assoc c2)) fun z b4 H5 b2 zv e5 x5 R5 G5 r5 h5=>?_
     simp only [e5,Res.bind] at B I;have a5:q∈b2.hid:=x5.hidM q a8;have c1:H5 q=some (.lst vs):=x5.keep q _ b6 (R4.ap q a8);have c0:Ext H1 ρ1 H5 b2:=a9.trans x5;refine ⟨c1,_,show j.length - (i + 1) < m by omega,rfl,Z,by rw [O8]; simp; omega,b2,b4,ys ++ [z],c0.put0 G,a5,R5.rehide a5,(G0 G5).rehide a5,Jb,((b3.ext x5).append (RepL.cons r5 RepL.nil)).rehide a5,?_⟩;refine I.trans ?_;cases rr:Z3 ga mt me w (Zp cap Γ) (j.drop (i + 1)) b4 with
     | ok zs a7=>
      show Res.ok (ys ++ z :: zs) a7=Res.ok ((ys ++ [z]) ++ zs) a7;rw [cH]; rfl
     | exc x6 a7=>rfl
     | stuck=>rfl
  ·rw [bK hw] at B; exact B.elim
 ·left
  have ei:i=j.length:=by omega
  subst ei;rw [ew,Z3] at B I
  by_cases hw:wOk w st'
  ·rw [bJ hw] at B I;refine ⟨src.stop H' _ st' x R' hw,?_⟩;have I:Z3 ga mt me w (Zp cap Γ) j O=.ok (ys ++ []) st':=I;rw [bq] at I;exact k ys st' H' ρ' q vs I x R' a2 G ha ry
  ·rw [bK hw] at B; exact B.elim
theorem Qdf {Γ:Gam} {σ:St} {H:Hp} {ρ:Tk} {st:Q2} {Q:VK} {P:List PV->Q2->Hp->Tk->Prop} (hi:SimI X E tg iter mi) (O:∀ cl C s0 H0 ex,SimG (Xp X N' sc cl C s0 H0 ex) tg ga) (he:∀ cl C s0 H0 ex,SimE (Xp X N' sc cl C s0 H0 ex) E0 elt me) (ht:∀ cl C s0 H0 ex,SimTs (Xp X N' sc cl C s0 H0 ex) ifs mt)
  (hf:Qaq cap ga) (R:Rel H ρ st) (G:EnvR H ρ Γ σ) (h:Acc X.mg E H ρ P (Yh cap ga mi mt me Γ st)) (k:∀ ps q H2 j a vs,Yh cap ga mi mt me Γ st=.ok ps q->Ext H ρ H2 j->Rel H2 j q->a∈j.hid->H a=none->H2 a=some (.lst vs)->RepL H2 j ps vs->Q (.ref a) H2):Qat cap (WI X tg iter) (aG X N' sc tg) (aT X N' sc ifs) (aE X N' sc elt) σ H Q:=by
 refine hi.run Γ σ H ρ st _ _ R G h.bind fun iw U H1 ρ1 J eq B R1 G1 ok hl src h1=>?_
 refine Qhj O he ht hf R1 G1 src hl (Qq9 (E':=E0) h1) fun ys q H2 j z vs eq2 Y R2 hm hn Z ry=>?_
 refine k ys q H2 j z vs ?_ (B.trans Y) R2 hm ?_ Z ry
 ·unfold Yh;rw [eq];show noX _=_;rw [eq2]; rfl
 cases e:H z with
 | none=>rfl
 | some o=>
  obtain ⟨o',I⟩:=B.old z o e;rw [hn] at I; cases I
theorem Qur {N':List Str} {sc:Scope} {tg:aD}:∀ cl C s0 H0 ex,PG (Xp X N' sc cl C s0 H0 ex) tg (aG X N' sc tg):=fun cl C s0 H0 ex pins s σ H v u Q I r h=>Qng pins s σ H v u Q I r (h cl C s0 H0 ex)
theorem Quy {N':List Str} {sc:Scope} {e:aD}:∀ cl C s0 H0 ex,PE (Xp X N' sc cl C s0 H0 ex) e (aE X N' sc e):=fun cl C s0 H0 ex pins s σ H Q I h=>h cl C s0 H0 ex pins s I
theorem Qqi {N':List Str} {sc:Scope} {ifs:List aD}:∀ cl C s0 H0 ex,PTs (Xp X N' sc cl C s0 H0 ex) ifs (aT X N' sc ifs):=fun cl C s0 H0 ex pins s σ H Q I h=>by
 obtain ⟨t,a,b⟩:=h cl C s0 H0 ex;exact a pins s σ H Q I b
theorem Yp (cap:List (Option Nat)) (N':List Str) (j:X.calm=true) (hi:SimI X E tg iter mi) (I:∀ cl C s0 H0 ex,SimG (Xp X N' sc cl C s0 H0 ex) tg ga) (J:∀ cl C s0 H0 ex,SimE (Xp X N' sc cl C s0 H0 ex) E0 elt me) (U:∀ cl C s0 H0 ex,SimTs (Xp X N' sc cl C s0 H0 ex) ifs mt)
  (O:Qaq cap ga) (B:X.N=N:=by rfl) (z:X.env.scope=scE:=by rfl) (q:compOkC N N' sc scE cap=true:=by kernel_rfl) (hs:∀ x,az iter X.env x=pure x:=by intro _; rfl) :
  SimN X E (.ListComp elt [⟨tg,iter,ifs,0⟩] sc pos) (Yh cap ga mi mt me):=
 ⟨fun Γ σ H ρ st P Q R G h k=>WE.of (Qjd j Qrr Qur Quy Qqi B z q hs) (Qdf hi I J U O R G h k)⟩
end
inductive SR where
 | nx (Γ:Gam) (st:Q2) | rt (v:PV) (st:Q2) | bk (Γ:Gam) (st:Q2) | ct (Γ:Gam) (st:Q2) | exc (x:Exc) (st:Q2) | stuck
abbrev MS:=Gam->Q2->SR
def Res.sbind {α:Type} (r:Res α) (f:α->Q2->SR):SR:=match r with
 | .ok a st=>f a st
 | .exc x st=>.exc x st
 | .stuck=>.stuck
def AccS (mg:Str->Option aB) (E:XK) (D:Ends) (H:Hp) (ρ:Tk):SR->Prop
 | .nx Γ st=>∀ σ' H' ρ',Ext H ρ H' ρ'->Rel H' ρ' st->EnvR H' ρ' Γ σ'->D.nx σ' H'
 | .bk Γ st=>∀ σ' H' ρ',Ext H ρ H' ρ'->Rel H' ρ' st->EnvR H' ρ' Γ σ'->D.bk σ' H'
 | .ct Γ st=>∀ σ' H' ρ',Ext H ρ H' ρ'->Rel H' ρ' st->EnvR H' ρ' Γ σ'->D.ct σ' H'
 | .rt p st=>∀ v H' ρ',Ext H ρ H' ρ'->Rel H' ρ' st->Rep H' ρ' p v->D.rt v H'
 | .exc x st=>∀ C dv H' ρ',mg x.cls=some (.ref C)->Ext H ρ H' ρ'->Rel H' ρ' st->XFs H' ρ' x.fs dv->E (.ref C) dv H'
 | .stuck=>False
section
variable {α:Type} {mg:Str->Option aB} {E:XK} {D:Ends} {H H1:Hp} {ρ ρ1:Tk}
theorem AccS.later {r:SR} (h:AccS mg E D H ρ r) (x:Ext H ρ H1 ρ1):AccS mg E D H1 ρ1 r:=by
 cases r with
 | nx Γ st=>exact fun j H' ρ' q=>h j H' ρ' (x.trans q)
 | bk Γ st=>exact fun j H' ρ' q=>h j H' ρ' (x.trans q)
 | ct Γ st=>exact fun j H' ρ' q=>h j H' ρ' (x.trans q)
 | rt p st=>exact fun v H' ρ' q=>h v H' ρ' (x.trans q)
 | exc y st=>exact fun C z H' ρ' m q=>h C z H' ρ' m (x.trans q)
 | stuck=>exact h
theorem AccS.bind {r:Res α} {f:α->Q2->SR} (h:AccS mg E D H ρ (r.sbind f)):Acc mg E H ρ (fun a j H1 ρ1=>AccS mg E D H1 ρ1 (f a j)) r:=by
 cases r with
 | ok a st=>exact fun H' ρ' q z=>AccS.later (show AccS mg E D H ρ (f a st) from h) q
 | exc e st=>exact h
 | stuck=>exact h
end
theorem Res.sassoc {α β:Type} (r:Res α) (f:α->Q2->Res β) (g:β->Q2->SR):(r.bind f).sbind g=r.sbind fun a st=>(f a st).sbind g:=by cases r <;> rfl
theorem AccS.assoc {α β:Type} {mg:Str->Option aB} {E:XK} {D:Ends} {H:Hp} {ρ:Tk} {r:Res α} {f:α->Q2->Res β} {g:β->Q2->SR} (h:AccS mg E D H ρ ((r.bind f).sbind g)):AccS mg E D H ρ (r.sbind fun a st=>(f a st).sbind g):=by
 rw [<- Res.sassoc]; exact h
structure SimS (X:Cx) (E:XK) (s:aM) (m:MS):Prop where
 run:∀ (Γ:Gam) (σ:St) (H:Hp) (ρ:Tk) (st:Q2) (D:Ends),Rel H ρ st->EnvR H ρ Γ σ->AccS X.mg E D H ρ (m Γ st)->WS X s D σ H
structure SimB (X:Cx) (E:XK) (ss:List aM) (m:MS):Prop where
 run:∀ (Γ:Gam) (σ:St) (H:Hp) (ρ:Tk) (st:Q2) (D:Ends),Rel H ρ st->EnvR H ρ Γ σ->AccS X.mg E D H ρ (m Γ st)->WB X ss D σ H
section
variable {X:Cx} {E:XK} {pos:Pos} {e:aD} {m:ME}
def Y1:MS:=fun Γ st=>.nx Γ st
def Qr (m1 m2:MS):MS:=fun Γ st=>match m1 Γ st with
 | .nx Γ1 st1=>m2 Γ1 st1
 | r=>r
theorem Zs:SimB X E [] Y1:=⟨fun Γ σ H ρ st D R G h=>WB.of Qn9 (h σ H ρ (Ext.refl _ _) R G)⟩
theorem Qb {s:aM} {rest:List aM} {m1 m2:MS} (h1:SimS X E s m1) (h2:SimB X E rest m2):SimB X E (s :: rest) (Qr m1 m2):=
 ⟨fun Γ σ H ρ st D R G h=>WB.of (Qcg Qun Q73) (h1.run Γ σ H ρ st _ R G (by
  unfold Qr at h;cases r:m1 Γ st with
  | nx Γ1 j=>rw [r] at h; exact fun q H' ρ' I z B=>h2.run Γ1 q H' ρ' j D z B (AccS.later h I)
  | bk Γ1 j=>rw [r] at h; exact h
  | ct Γ1 j=>rw [r] at h; exact h
  | rt p j=>rw [r] at h; exact h
  | exc x j=>rw [r] at h; exact h
  | stuck=>rw [r] at h; exact h))⟩
theorem Qd {s:aM} {m1:MS} (h1:SimS X E s m1):SimB X E [s] m1:=⟨fun Γ σ H ρ st D R G h=>WB.of (Qb2 Qun) (h1.run Γ σ H ρ st D R G h)⟩
theorem Qmp:SimS X E (.Pass pos) Y1:=⟨fun Γ σ H ρ st D R G h=>WS.of Qnb (h σ H ρ (Ext.refl _ _) R G)⟩
def Wc (m:ME):MS:=fun Γ st=>(m Γ st).sbind fun _ st1=>.nx Γ st1
theorem Yf (z:SimE X E e m) (hs:swapsWith e none pos.line X.env=pure false:=by rfl):SimS X E (.Expr e pos) (Wc m):=
 ⟨fun Γ σ H ρ st D R G h=>WS.of (Qf9 Yu hs) (z.use R G h.bind fun p j H1 ρ1 v J B q I h1=>h1 σ H1 ρ1 (Ext.refl _ _) B q)⟩
def Js (m:ME):MS:=fun Γ st=>(m Γ st).sbind fun p st1=>.rt p st1
theorem Qy (z:SimE X E e m):SimS X E (.Return (some e) pos) (Js m):=
 ⟨fun Γ σ H ρ st D R G h=>WS.of (Qj2 Yu) (z.use R G h.bind fun p q H1 ρ1 v J B I j h1=>h1 v H1 ρ1 (Ext.refl _ _) B j)⟩
def Jh (i:Nat) (m:ME):MS:=fun Γ st=>(m Γ st).sbind fun p st1=>.nx (Γ.set i (some p)) st1
theorem Qz (i:Nat) {x:Str} {pos':Pos} (z:X.N.Nodup) (J:SimE X E e m) (hi:X.N[i]?=some x:=by rfl) (q:Loc X.env.scope x:=by first | exact Or.inl rfl | exact Or.inr rfl) (hs:swapsWith e (some (.Name x pos')) pos.line X.env=pure false:=by rfl) (U:X.fn x=true\/X.env.scope.names.lookup x=some .local:=by first | exact .inl rfl | exact .inr rfl) :
  SimS X E (.Assign [.Name x pos'] e pos) (Jh i m):=
 ⟨fun Γ σ H ρ st D R G h=>WS.of (Qrm z hi q Yu hs U) (J.use R G h.bind fun p B H1 ρ1 v Y O I j h1=>h1 _ H1 ρ1 (Ext.refl _ _) O (I.set j i))⟩
section
variable {tg iter elt:aD} {ifs:List aD} {N N':List Str} {sc scE:Scope} {ga:GA} {mi:MI} {mt:MT} {me:ME}
theorem Q3b (cap:List (Option Nat)) (N':List Str) (i:Nat) {x:Str} {O cpos:Pos} (B:X.N.Nodup) (j:X.calm=true) (hi:SimI X E tg iter mi) (Z:∀ cl C s0 H0 ex,SimG (Xp X N' sc cl C s0 H0 ex) tg ga) (he:∀ cl C s0 H0 ex,SimE (Xp X N' sc cl C s0 H0 ex) E0 elt me) (ht:∀ cl C s0 H0 ex,SimTs (Xp X N' sc cl C s0 H0 ex) ifs mt)
  (hf:Qaq cap ga) (I:X.N[i]?=some x:=by rfl) (hx:Loc X.env.scope x:=by first | exact Or.inl rfl | exact Or.inr rfl) (q:swapsWith (.ListComp elt [⟨tg,iter,ifs,0⟩] sc cpos) (some (.Name x O)) pos.line X.env=pure true:=by rfl)
  (Y:X.N=N:=by rfl) (hE:X.env.scope=scE:=by rfl) (U:compOkC N N' sc scE cap=true:=by kernel_rfl) (hs:∀ x,az iter X.env x=pure x:=by intro _; rfl) (z:X.fn x=true\/X.env.scope.names.lookup x=some .local:=by first | exact .inl rfl | exact .inr rfl) :
  SimS X E (.Assign [.Name x O] (.ListComp elt [⟨tg,iter,ifs,0⟩] sc cpos) pos) (Jh i (qd (Yh cap ga mi mt me))):=
 ⟨fun Γ σ H ρ st D R G h=>WS.of (Qj3 B I hx j Qrr Qur Quy Qqi q Y hE U hs z) (Qdf hi Z he ht hf R G (AccS.bind (by unfold Jh qd at h; exact AccS.assoc h)) fun ps a2 H1 ρ1 a vs eq x R1 hm hn ha r=>by
  obtain ⟨J,R2,r2⟩:=Qfe R x R1 hm hn ha r;simp only [Jh,qd,eq,Res.bind,Res.sbind] at h;exact h _ _ _ J R2 ((G.ext J).set r2 i))⟩
end
def Qk0 (ga:GA) (m:ME):MS:=fun Γ st=>(m Γ st).sbind fun p st1=>match ga p Γ with
 | some Γ1=>.nx Γ1 st1
 | none=>.stuck
theorem Qra {tg:aD} {ga:GA} (U:SimE X E e m) (I:SimG X tg ga) (hs:swapsWithSole [tg] e pos.line X.env=pure false:=by rfl) (Z:swappedStores [tg] e X.env=pure none:=by rfl) (h1:(ak [tg] X.env).map (·.2)=[assign tg X.env]:=by rfl):SimS X E (.Assign [tg] e pos) (Qk0 ga m):=
 ⟨fun Γ σ H ρ st D R G h=>WS.of (Qj4 Yu Qng hs Z h1) (U.use R G h.bind fun p B H1 ρ1 v x1 Y J z h1=>by
  cases j:ga p Γ with
  | none=>rw [j] at h1; exact h1.elim
  | some Γ1=>
   rw [j] at h1;exact I.run Γ Γ1 σ H1 ρ1 p v _ J z j fun q O=>h1 q H1 ρ1 (Ext.refl _ _) Y O)⟩
def Q14 (st:Q2) (o i p:PV):Option Q2:=match o,i with
 | .ref k,.int j=>match st[k]? with
  | some (.lst xs)=>(ixN xs.length j).map fun n=>st.set k (.lst (xs.set n p))
  | _=>none
 | _,_=>none
def Q0h (mo mi m:ME):MS:=fun Γ st=>(m Γ st).sbind fun p st1=>(mo Γ st1).sbind fun o st2=>(mi Γ st2).sbind fun i st3=>match Q14 st3 o i p with
 | some st4=>.nx Γ st4
 | none=>.stuck
theorem Qmt {H:Hp} {ρ:Tk} {st st':Q2} {o i p:PV} {x y z:V} (R:Rel H ρ st) (O:Rep H ρ o x) (U:Rep H ρ i y) (Y:Rep H ρ p z) (e:Q14 st o i p=some st') :
  ∃ a vs k j,x=.ref a/\y=.int k/\H a=some (.lst vs)/\ixN vs.length k=some j/\Ext H ρ (upd H a (.lst (vs.set j z))) ρ/\Rel (upd H a (.lst (vs.set j z))) ρ st':=by
 unfold Q14 at e
 split at e
 ·rename_i k j
  split at e
  ·rename_i xs hs;cases G:ixN xs.length j with
   | none=>rw [G] at e; cases e
   | some n=>
    rw [G] at e;have e:st.set k (.lst (xs.set n p))=st':=bc e;subst e;obtain ⟨a,q,rfl⟩:=O;cases U;obtain ⟨b,vs,J,B,I⟩:=R.lst hs;rw [q] at J; cases J;exact ⟨a,vs,j,n,rfl,rfl,B,by rw [<- I.length]; exact G,Ext.put (D2 q) B,R.put q B (I.set Y n)⟩
  ·cases e
 ·cases e
theorem Q6u {o i:aD} {mo mi:ME} {tpos:Pos} (he:SimE X E e m) (ho:SimE X E o mo) (hi:SimE X E i mi)
  (ha:∀ v,assign (.Subscript o i tpos) X.env v=(do
   let q <- ai [v] (aK o X.env)
   let B <- ai [v,q] (aK i X.env)
   standAt tpos
   ai [v,q,B] (setItem q B v)
   release [v,q,B] []):=by intro _; rfl)
  (hs:swapsWithSole [.Subscript o i tpos] e pos.line X.env=pure false:=by rfl) (hw:swappedStores [.Subscript o i tpos] e X.env=pure none:=by rfl) (h1:(ak [.Subscript o i tpos] X.env).map (·.2)=[assign (.Subscript o i tpos) X.env]:=by rfl) :
  SimS X E (.Assign [.Subscript o i tpos] e pos) (Q0h mo mi m):=
 ⟨fun Γ σ H ρ st D R G h=>WS.of (Qj4 Yu (Qru Yu Yu Qik ha) hs hw h1) (he.use R G h.bind fun p a3 H1 ρ1 z x1 R1 G1 r1 h1=>ho.use R1 G1 h1.bind fun q a5 H2 a4 x x2 R2 G2 r2 h2=>hi.use R2 G2 h2.bind fun B O H3 J y U R3 G3 r3 I=>by
  cases es:Q14 O q B p with
  | none=>rw [es] at I; exact I.elim
  | some a2=>
   rw [es] at I;obtain ⟨a,vs,k,j,rfl,rfl,f1,Z,Y,R4⟩:=Qmt R3 (r2.ext U) r3 (r1.ext (x2.trans U)) es;exact ⟨a,vs,k,j,rfl,rfl,f1,Z,I σ _ J Y R4 (G3.ext Y)⟩)⟩
def Ym (mt:MT) (ma mb:MS):MS:=fun Γ st=>(mt Γ st).sbind fun b st1=>if b=true then ma Γ st1 else mb Γ st1
theorem Z4 {c:aD} {a b:List aM} {mt:MT} {ma mb:MS} (B:SimT X E c mt) (J:SimB X E a ma) (I:SimB X E b mb):SimS X E (.If c a b pos) (Ym mt ma mb):=
 ⟨fun Γ σ H ρ st D R G h=>WS.of (Qup Qcf Q73 Q73) (B.use R G h.bind fun k j H1 ρ1 O z q h1=>by
  cases k with
  | true=>rw [bJ rfl] at h1 ⊢; exact J.run Γ σ H1 ρ1 j D z q h1
  | false=>rw [bK D7] at h1 ⊢; exact I.run Γ σ H1 ρ1 j D z q h1)⟩
open Classical in
def xj (ga:GA) (body:MS) (w:Wt):List PV->Gam->Q2->SR
 | [],Γ,st=>if wOk w st then .nx Γ st else .stuck
 | x :: xs,Γ,st=>if wOk w st then (match ga x Γ with
  | none=>.stuck
  | some Γ1=>match body Γ1 st with
   | .nx Γ2 st2=>xj ga body w xs Γ2 st2
   | .ct Γ2 st2=>xj ga body w xs Γ2 st2
   | .bk Γ2 st2=>.nx Γ2 st2
   | .rt v st2=>.rt v st2
   | .exc x st2=>.exc x st2
   | .stuck=>.stuck) else .stuck
def Q7u (ga:GA) (mi:MI) (body:MS):MS:=fun Γ st=>(mi Γ st).sbind fun iw st1=>xj ga body iw.2 iw.1 Γ st1
theorem Q13 {tg iter:aD} {bd:List aM} {ga:GA} {mi:MI} {body:MS} (hp:PassesOwn (aJ X.prog X.w) X.A X.env X.xe) (hc:X.calm=true) (hi:SimI X E tg iter mi) (hg:SimG X tg ga) (hb:SimB X E bd body)
  (hs:∀ x,az iter X.env x=pure x:=by intro _; rfl):SimS X E (.For tg iter bd [] pos) (Q7u ga mi body):=
 ⟨fun Γ σ H ρ st D R G h=>WS.of (Qrn hp hc Qrr Qng Q73 hs) (hi.run Γ σ H ρ st _ _ R G h.bind fun B a5 H1 ρ1 J eq x1 R1 G1 ok hl src h1=>by
  let W:Nat->Nat->St->Hp->Prop:=fun i m I H'=>m=B.1.length - i/\i<=B.1.length/\∃ Y ρ' st',Ext H1 ρ1 H' ρ'/\Rel H' ρ' st'/\EnvR H' ρ' Y I/\AccS X.mg E D H' ρ' (xj ga body B.2 (B.1.drop i) Y st')
  refine ⟨W,⟨_,rfl,cM _,Γ,ρ1,a5,Ext.refl _ _,R1,G1,by rw [da]; exact h1⟩,?_⟩;rintro i m I H' ⟨hm,a7,Y,ρ',st',x,R',G',U⟩
  by_cases a3:i < B.1.length
  ·right
   have hd:B.1.drop i=B.1[i] :: B.1.drop (i + 1):=gK a3;rw [hd,xj] at U
   by_cases hw:wOk B.2 st'
   ·rw [bJ hw] at U;refine ⟨src.go H' ρ' st' x R' hw i a3,fun a4 H2=>W (i + 1) (B.1.length - (i + 1)) a4 H2,fun a4 H2 z=>⟨_,by omega,z⟩,fun y H2 hy=>?_⟩
    obtain ⟨sm,ry⟩:=src.yld H' ρ' st' x R' hw i _ (O4 a3) y H2 hy;have x2:Ext H' ρ' H2 ρ':=Ext.same sm;cases eg:ga B.1[i] Y with
    | none=>rw [eg] at U; exact U.elim
    | some Γ1=>
     rw [eg] at U;refine hg.run Y Γ1 I H2 ρ' _ y _ (G'.ext x2) ry eg fun a6 G3=>?_
     have j:=AccS.later U x2;simp only at j;refine hb.run Γ1 a6 H2 ρ' st' _ (R'.same sm) G3 ?_;have again:∀ {O:Gam} {q:Q2},AccS X.mg E D H2 ρ' (xj ga body B.2 (B.1.drop (i + 1)) O q)->∀ I a2 Z,Ext H2 ρ' a2 Z->Rel a2 Z q->EnvR a2 Z O I->W (i + 1) (B.1.length - (i + 1)) I a2:=fun {O q} a σ4 H4 ρ4 x4 R4 G4=>
      ⟨rfl,a3,O,ρ4,q,x.trans (x2.trans x4),R4,G4,AccS.later a x4⟩
     cases rb:body Γ1 st' with
     | nx O q=>rw [rb] at j; exact again j
     | ct O q=>rw [rb] at j; exact again j
     | bk O q=>rw [rb] at j; exact j
     | rt v q=>rw [rb] at j; exact j
     | exc y q=>rw [rb] at j; exact j
     | stuck=>rw [rb] at j; exact j.elim
   ·rw [bK hw] at U; exact U.elim
  ·left
   have ei:i=B.1.length:=by omega
   subst ei;rw [ew,xj] at U
   by_cases hw:wOk B.2 st'
   ·rw [bJ hw] at U;exact ⟨src.stop H' ρ' st' x R' hw,U I H' ρ' (Ext.refl _ _) R' G'⟩
   ·rw [bK hw] at U; exact U.elim)⟩
def j7 (mt:MT) (body:MS):Nat->Gam->Q2->SR
 | 0,_,_=>.stuck
 | n + 1, Γ, st => (mt Γ st).sbind fun b st1 => if b = true then (match body Γ st1 with
   | .nx Γ2 st2=>j7 mt body n Γ2 st2
   | .ct Γ2 st2=>j7 mt body n Γ2 st2
   | .bk Γ2 st2=>.nx Γ2 st2
   | .rt v st2=>.rt v st2
   | .exc x st2=>.exc x st2
   | .stuck=>.stuck) else .nx Γ st1
theorem Qc4 (n:Nat) {c:aD} {bd:List aM} {mt:MT} {body:MS} (hp:PassesOwn (aJ X.prog X.w) X.A X.env X.xe) (hc:SimT X E c mt) (hb:SimB X E bd body):SimS X E (.While c bd [] pos) (j7 mt body n):=
 ⟨fun Γ σ H ρ st D R G h=>WS.of (Qj0 hp Qcf Q73) (by
  let W:Nat->St->Hp->Prop:=fun m q H'=>∃ I ρ' st',Rel H' ρ' st'/\EnvR H' ρ' I q/\AccS X.mg E D H' ρ' (j7 mt body m I st')
  refine ⟨W,⟨n,Γ,ρ,st,R,G,h⟩,?_⟩;rintro m q H' ⟨I,ρ',st',R',G',Z⟩;cases m with
  | zero=>exact Z.elim
  | succ m=>
   rw [j7] at Z;refine hc.use R' G' Z.bind fun b U H1 ρ1 x1 R1 G1 h1=>?_
   cases b with
   | false=>rw [bK D7] at h1 ⊢; exact h1 q H1 ρ1 (Ext.refl _ _) R1 G1
   | true=>
    rw [bJ rfl] at h1 ⊢;refine ⟨fun Y H2=>W m Y H2,fun Y H2 z=>⟨m,cY _,z⟩,hb.run I q H1 ρ1 U _ R1 G1 ?_⟩
    have again:∀ {B:Gam} {j:Q2},AccS X.mg E D H1 ρ1 (j7 mt body m B j)->∀ q O J,Ext H1 ρ1 O J->Rel O J j->EnvR O J B q->W m q O:=fun {B j} a σ4 H4 ρ4 x4 R4 G4=>⟨B,ρ4,j,R4,G4,AccS.later a x4⟩
    cases rb:body I U with
    | nx B j=>rw [rb] at h1; exact again h1
    | ct B j=>rw [rb] at h1; exact again h1
    | bk B j=>rw [rb] at h1; exact h1
    | rt v j=>rw [rb] at h1; exact h1
    | exc y j=>rw [rb] at h1; exact h1
    | stuck=>rw [rb] at h1; exact h1.elim)⟩
def qf (x:Str) (m:ME):MS:=fun Γ st=>(m Γ st).sbind fun _ st1=>.exc ⟨x,none⟩ st1
theorem Ua {x:Str} {C:aA} {J cpos:Pos} (j:X.calm=true) (O:Q8q X E) (Y:Gl X x) (I:X.mg x=some (.ref C)) (q:ba X.K C Xn "ValueError.__new__" = true) (Z:SimE X E e m)
  (B:(x == ("__debug__" : Str))=false:=by decide) (z:aO [e] X.env=[(false,aK e X.env)]:=by rfl):SimS X E (.Raise (some (.Call (.Name x J) [e] [] cpos)) none pos) (qf x m):=
 ⟨fun Γ σ H ρ st D R G h=>WS.of (Qgj j O Y I q (Q08 Yu Q77 (by rw [z]; rfl)) B z) (Z.use R G h.bind fun p U H1 ρ1 v x1 R1 G1 r1 h1=>⟨F1 (show 1<=lim by decide) Qen,h1 C none H1 ρ1 I (Ext.refl _ _) R1 rfl⟩)⟩
end
def WM (X:Cx) (id:String):V->List V->Hp->VK->Prop:=fun x xs H Q=>∀ (pins:List (aA × Obj)) (s:aC) (σ:St) (v:aB) (us:List aB),Inv X pins σ H s->RelV x v->Vals xs us->aI (aJ X.prog X.w) X.A (call (.builtin id) (v :: us)) (EP X pins σ Q) X.xe s
theorem Qsg {X:Cx} {id:String}:MtR X id (WM X id):=fun pins s σ _ _ _ v us _ I r j h=>h pins s σ v us I r j
theorem WM.of {X:Cx} {id:String} {r:V->List V->Hp->VK->Prop} {x:V} {xs:List V} {H:Hp} {Q:VK} (h:MtR X id r) (q:r x xs H Q):WM X id x xs H Q:=fun pins s σ v us I j z=>h pins s σ H x xs v us Q I j z q
abbrev MF:=Q2->PV->List PV->Res PV
structure MtS (X:Cx) (E:XK) (id:String) (o:MF):Prop where
 run:∀ (H:Hp) (ρ:Tk) (st:Q2) (p:PV) (ps:List PV) (x:V) (xs:List V) (Q:VK),Rel H ρ st->Rep H ρ p x->RepL H ρ ps xs->Acc X.mg E H ρ (QV Q) (o st p ps)->WM X id x xs H Q
section
variable {X:Cx} {E:XK} {o e:aD} {es:List aD} {mo:ME} {mr:Gam->Q2->Res (List PV)} {name:Str} {apos cpos:Pos} {T id:String} {f:MF}
def mBM (f:MF) (mo:ME) (mr:Gam->Q2->Res (List PV)):ME:=fun Γ st=>(mo Γ st).bind fun p st1=>match yh st1 p with
 | some _=>(mr Γ st1).bind fun ps st2=>f st2 p ps
 | none=>.stuck
theorem Qqe (Z:PlainAttrs "list") (slot:Slot "list" name id) (O:typeOf (.builtin id)=pure (.type "method_descriptor")) (hm:MtS X E id f) (ho:SimE X E o mo) (ha:SimA X E (e :: es) mr)
  (z:ag o name X.env (aK o X.env)=aK o X.env:=by rfl)
  (B:((aU cpos (aO (e :: es) X.env)).all (fun x=>!x.1) && (backToKw cpos (keywordEach [] X.env)).all (fun x=>x.1.isSome)
   && decide ((e :: es).length + ([]:List Keyword).length + (if ([]:List Keyword).isEmpty then 0 else 1) < 30))=true:=by rfl)
  (q:(apos.endLine == cpos.line)=true:=by rfl) (hs:aO (e :: es) X.env=(false,aK e X.env) :: aO es X.env:=by rfl) (j:(aU cpos (aO es X.env)).any (·.1)=false:=by rfl) :
  SimE X E (.Call (.Attribute o name apos) (e :: es) [] cpos) (mBM f mo mr):=
 ⟨fun Γ σ H ρ st Q R G h=>WE.of (Quw Z slot O Qsg Yu Q3j z B q hs j) (ho.use R G h.bind fun p a2 H1 ρ1 v x1 U G1 Y h1=>by
  split at h1
  ·rename_i ys el;obtain ⟨a,vs,rfl,hr,_⟩:=Q3z U Y el;exact ⟨.inl ⟨rfl,vs,.inl hr⟩,ha.use U G1 h1.bind fun ps J H2 I us x2 R2 G2 r2 h2=>hm.run H2 I J p ps _ us Q R2 (Y.ext x2) r2 h2⟩
  ·exact h1.elim)⟩
def chg (st:Q2) (p:PV) (g:List PV->Option (PV × List PV)):Res PV:=match p with
 | .ref i=>match st[i]? with
  | some (.lst xs)=>match g xs with
   | some (r,ys)=>.ok r (st.set i (.lst ys))
   | none=>.stuck
  | _=>.stuck
 | _=>.stuck
theorem Qbn {mg:Str->Option aB} {H:Hp} {ρ:Tk} {st:Q2} {p:PV} {x:V} {g:List PV->Option (PV × List PV)} {Q:VK} (R:Rel H ρ st) (I:Rep H ρ p x) (h:Acc mg E H ρ (QV Q) (chg st p g)) :
  ∃ a xs vs r ys,x=.ref a/\H a=some (.lst vs)/\RepL H ρ xs vs/\g xs=some (r,ys)/\∀ us v,RepL H ρ ys us->Rep H ρ r v->Q v (upd H a (.lst us)):=by
 unfold chg at h
 split at h
 ·rename_i i
  split at h
  ·rename_i xs hs
   split at h
   ·rename_i r ys G;obtain ⟨a,j,rfl⟩:=I;obtain ⟨b,vs,z,q,B⟩:=R.lst hs;rw [j] at z; cases z;refine ⟨a,xs,vs,r,ys,rfl,q,B,G,fun us v O J=>?_⟩;have x:=Ext.put (o':=.lst us) (D2 j) q;exact h _ ρ x (R.put j q O) v (J.ext x)
   ·exact h.elim
  ·exact h.elim
 ·exact h.elim
def Vm:MF:=fun st p ps=>match ps with
 | [y]=>chg st p fun xs=>if xs.length < lim then some (.non,xs ++ [y]) else none
 | _=>.stuck
theorem Qh2:MtS X E "list.append" Vm:=⟨fun H ρ st p ps x xs Q R B I h=>by
 unfold Vm at h
 split at h
 ·obtain ⟨v,rfl,r⟩:=Vb I;obtain ⟨a,ys,vs,J,zs,rfl,G,q,j,k⟩:=Qbn R B h
  split at j
  ·rename_i z;cases j;exact WM.of Qh0 ⟨a,vs,v,rfl,rfl,G,by rw [<- q.length]; exact D3 z Qen,k _ _ (q.append (RepL.cons r RepL.nil)) rfl⟩
  ·cases j
 ·exact h.elim⟩
def Q1e:MF:=fun st p ps=>match ps with
 | [q]=>match Q1i st q with
  | some ys=>chg st p fun xs=>if xs.length + ys.length<=lim then some (.non,xs ++ ys) else none
  | none=>.stuck
 | _=>.stuck
theorem Qh1:MtS X E "list.extend" Q1e:=⟨fun H ρ st p ps x xs Q R I O h=>by
 unfold Q1e at h
 split at h
 ·obtain ⟨v,rfl,r⟩:=Vb O
  split at h
  ·rename_i U B;obtain ⟨b,us,rfl,G,rb⟩:=Q7x R r B;obtain ⟨a,ys,vs,Y,zs,rfl,J,q,j,k⟩:=Qbn R I h
   split at j
   ·rename_i z;cases j;exact WM.of Qgy ⟨a,b,vs,us,rfl,rfl,J,G,by rw [<- q.length,<- rb.length]; exact qg z,k _ _ (q.append rb) rfl⟩
   ·cases j
  ·exact h.elim
 ·exact h.elim⟩
def Q6b:MF:=fun st p ps=>match ps with
 | []=>chg st p fun _=>some (.non,[])
 | _=>.stuck
theorem ms_clear:MtS X E "list.clear" Q6b:=⟨fun H ρ st p ps x xs Q R q B h=>by
 unfold Q6b at h
 split at h
 ·cases B;obtain ⟨a,ys,vs,G,zs,rfl,z,I,j,k⟩:=Qbn R q h;cases j;exact WM.of Qjr ⟨a,vs,rfl,rfl,z,k _ _ rfl rfl⟩
 ·exact h.elim⟩
theorem z8 (G:SimE X E o mo) (B:SimA X E [e] mr) (j:ag o "append" X.env (aK o X.env)=aK o X.env:=by rfl)
  (z:((aU cpos (aO [e] X.env)).all (fun x=>!x.1) && (backToKw cpos (keywordEach [] X.env)).all (fun x=>x.1.isSome) && decide ([e].length + ([]:List Keyword).length + (if ([]:List Keyword).isEmpty then 0 else 1) < 30))=true:=by rfl)
  (q:(apos.endLine == cpos.line)=true:=by rfl) (hs:aO [e] X.env=(false,aK e X.env) :: aO [] X.env:=by rfl):SimE X E (.Call (.Attribute o "append" apos) [e] [] cpos) (mBM Vm mo mr):=
 Qqe ez PySem.F.slot_list_append PySem.F.type_list_append Qh2 G B j z q hs
theorem Qgb (G:SimE X E o mo) (B:SimA X E [e] mr) (j:ag o "extend" X.env (aK o X.env)=aK o X.env:=by rfl)
  (z:((aU cpos (aO [e] X.env)).all (fun x=>!x.1) && (backToKw cpos (keywordEach [] X.env)).all (fun x=>x.1.isSome) && decide ([e].length + ([]:List Keyword).length + (if ([]:List Keyword).isEmpty then 0 else 1) < 30))=true:=by rfl)
  (q:(apos.endLine == cpos.line)=true:=by rfl) (hs:aO [e] X.env=(false,aK e X.env) :: aO [] X.env:=by rfl):SimE X E (.Call (.Attribute o "extend" apos) [e] [] cpos) (mBM Q1e mo mr):=
 Qqe ez PySem.F.slot_list_extend PySem.F.type_list_extend Qh1 G B j z q hs
end
section
mutual
def fz (n:Nat) (st:Q2):Nat->PV->Option PV
 | 0,_=>none
 | _ + 1,.non=>some .non
 | _ + 1,.bl b=>some (.bl b)
 | _ + 1,.int i=>some (.int i)
 | _ + 1,.str x=>some (.str x)
 | k + 1,.tup xs=>(fzL n st k xs).map .tup
 | k + 1,.lst xs=>(fzL n st k xs).map .lst
 | k + 1,.fro xs=>(fzL n st k xs).map .fro
 | _ + 1,.dic=>some .dic
 | k + 1,.ref i=>if i < n then some (.ref i) else match st[i]? with
  | some (.lst xs)=>(fzL n st k xs).map .lst
  | _=>none
def fzL (n:Nat) (st:Q2):Nat->List PV->Option (List PV)
 | _,[]=>some []
 | k,x :: xs=>(fz n st k x).bind fun y=>(fzL n st k xs).map (y :: ·)
end
theorem Q6f {n:Nat} {st:Q2}:∀ {m k:Nat} {p:PV},Zm m p=true->m < k->fz n st k p=some p:=by
 intro m
 induction m with
 | zero=>
  intro k p g G;obtain ⟨k,rfl⟩:∃ j,k=j + 1:=⟨k - 1,by omega⟩;cases p with
  | tup _=>cases g
  | lst _=>cases g
  | fro _=>cases g
  | ref _=>cases g
  | dic=>cases g
  | _=>rw [fz]
 | succ m B=>
  intro k p g G;obtain ⟨k,rfl⟩:∃ j,k=j + 1:=⟨k - 1,by omega⟩;have z:∀ xs:List PV,xs.all (Zm m)=true->fzL n st k xs=some xs:=by
   intro xs
   induction xs with
   | nil=>intro _; rw [fzL]
   | cons x xs q=>
    intro g;rw [cT,F6] at g;rw [fzL,B g.1 (by omega),q g.2]; rfl
  cases p with
  | tup xs=>rw [fz,z xs g]; rfl
  | lst xs=>rw [fz,z xs g]; rfl
  | fro xs=>rw [fz,z xs g]; rfl
  | ref _=>cases g
  | dic=>cases g
  | _=>rw [fz]
section
variable {H:Hp} {ρ:Tk} {st:Q2} {tr0 rest hs:List aA}
theorem Qk9 (R:Rel H ρ st) (ht:ρ.tr=tr0 ++ rest) (hh:∀ a,a∈hs->a∈ρ.hid):∀ (k:Nat) {p p':PV} {v:V},Rep H ρ p v->fz tr0.length st k p=some p'->Rep H ⟨tr0,hs⟩ p' v:=by
 have B:∀ a,a∉ρ->a∉(⟨tr0,hs⟩:Tk):=fun a n z=>by
  rcases z with z | z
  ·exact n (.inl (by rw [ht]; exact F5 _ z))
  ·exact n (.inr (hh a z))
 intro k
 induction k with
 | zero=>intro p p' v r e; rw [fz] at e; cases e
 | succ k ih=>
  have U:∀ {ps q:List PV} {vs:List V},RepL H ρ ps vs->fzL tr0.length st k ps=some q->RepL H ⟨tr0,hs⟩ q vs:=by
   intro ps
   induction ps with
   | nil=>intro q vs r e; rw [fzL] at e; cases e; exact r
   | cons x xs Z=>
    intro q vs r e;obtain ⟨v,t,rfl,r1,r2⟩:=r;rw [fzL] at e;cases e1:fz tr0.length st k x with
    | none=>rw [e1] at e; cases e
    | some y=>
     rw [e1] at e;have e:(fzL tr0.length st k xs).map (y :: ·)=some q:=e;cases e2:fzL tr0.length st k xs with
     | none=>rw [e2] at e; cases e
     | some ys=>
      rw [e2] at e;cases e;exact ⟨v,t,rfl,ih r1 e1,Z r2 e2⟩
  intro p p' v r e;cases p with
  | non=>rw [fz] at e; cases e; exact r
  | bl b=>rw [fz] at e; cases e; exact r
  | int i=>rw [fz] at e; cases e; exact r
  | str x=>rw [fz] at e; cases e; exact r
  | tup xs=>
   rw [fz] at e;obtain ⟨a,vs,e1,G,I,J⟩:=r;cases e2:fzL tr0.length st k xs with
   | none=>rw [e2] at e; cases e
   | some ys=>rw [e2] at e; cases e; exact ⟨a,vs,e1,G,B a I,U J e2⟩
  | lst xs=>
   rw [fz] at e;obtain ⟨a,vs,e1,G,I,J⟩:=r;cases e2:fzL tr0.length st k xs with
   | none=>rw [e2] at e; cases e
   | some ys=>rw [e2] at e; cases e; exact ⟨a,vs,e1,G,B a I,U J e2⟩
  | fro xs=>
   rw [fz] at e;obtain ⟨a,vs,e1,G,I,J⟩:=r;cases e2:fzL tr0.length st k xs with
   | none=>rw [e2] at e; cases e
   | some ys=>rw [e2] at e; cases e; exact ⟨a,vs,e1,G,B a I,U J e2⟩
  | dic=>
   rw [fz] at e;cases e;obtain ⟨a,e1,G,I⟩:=r;exact ⟨a,e1,G,B a I⟩
  | ref i=>
   rw [fz] at e;obtain ⟨a,O,rfl⟩:=r
   by_cases hi:i < tr0.length
   ·rw [bJ hi] at e;cases e;rw [ht,O6 hi] at O;exact ⟨a,O,rfl⟩
   ·rw [bK hi] at e
    split at e
    ·rename_i xs Y;obtain ⟨b,vs,f1,f2,f3⟩:=R.lst Y;rw [O] at f1; cases f1;cases e2:fzL tr0.length st k xs with
     | none=>rw [e2] at e; cases e
     | some ys=>
      rw [e2] at e; cases e;refine ⟨a,vs,rfl,f2,fun z=>?_,U f3 e2⟩;rcases z with z | z
      ·have z:a∈tr0:=z;obtain ⟨j,hj,ej⟩:=dX z;have g1:ρ.tr[j]?=some a:=by rw [ht,O6 hj,O4 hj,ej]
       have l1:=O1.mp g1;have l2:=O1.mp O;have:=Qa6 R.nd l1.1 l2.1 (l1.2.trans l2.2.symm);omega
      ·exact R.ap a (hh a z) (D2 O)
    ·cases e
mutual
def bel (n:Nat):PV->Prop
 | .tup xs=>Qbu n xs
 | .lst xs=>Qbu n xs
 | .fro xs=>Qbu n xs
 | .ref i=>i < n
 | _=>True
def Qbu (n:Nat):List PV->Prop
 | []=>True
 | x :: xs=>bel n x/\Qbu n xs
end
mutual
theorem Rep.bel:∀ {p:PV} {v:V},Rep H ρ p v->bel ρ.tr.length p
 | .non,_,_=>by simp [Sm.bel]
 | .bl _,_,_=>by simp [Sm.bel]
 | .int _,_,_=>by simp [Sm.bel]
 | .str _,_,_=>by simp [Sm.bel]
 | .tup ps,_,⟨_,_,_,_,_,r⟩=>by rw [Sm.bel]; exact RepL.bel r
 | .lst ps,_,⟨_,_,_,_,_,r⟩=>by rw [Sm.bel]; exact RepL.bel r
 | .fro ps,_,⟨_,_,_,_,_,r⟩=>by rw [Sm.bel]; exact RepL.bel r
 | .ref i,_,⟨_,e,_⟩=>by rw [Sm.bel]; exact (O1.mp e).1
 | .dic,_,_=>by simp [Sm.bel]
theorem RepL.bel:∀ {ps:List PV} {vs:List V},RepL H ρ ps vs->Qbu ρ.tr.length ps
 | [],_,_=>by simp [Qbu]
 | p :: ps,_,⟨_,_,_,j,q⟩=>by rw [Qbu]; exact ⟨Rep.bel j,RepL.bel q⟩
end
mutual
theorem Rep.less (j:ρ.tr=tr0 ++ rest) (G:∀ a,a∈hs->a∈ρ.hid):∀ {p:PV} {v:V},Sm.bel tr0.length p->Rep H ρ p v->Rep H ⟨tr0,hs⟩ p v
 | .non,_,_,r=>r
 | .bl _,_,_,r=>r
 | .int _,_,_,r=>r
 | .str _,_,_,r=>r
 | .tup ps,_,b,⟨a,vs,e,q,B,r⟩=>⟨a,vs,e,q,fun z=>B (z.imp (fun z=>by rw [j]; exact F5 _ z) (G a)),RepL.less j G (by rw [Sm.bel] at b; exact b) r⟩
 | .lst ps,_,b,⟨a,vs,e,q,B,r⟩=>⟨a,vs,e,q,fun z=>B (z.imp (fun z=>by rw [j]; exact F5 _ z) (G a)),RepL.less j G (by rw [Sm.bel] at b; exact b) r⟩
 | .fro ps,_,b,⟨a,vs,e,q,B,r⟩=>⟨a,vs,e,q,fun z=>B (z.imp (fun z=>by rw [j]; exact F5 _ z) (G a)),RepL.less j G (by rw [Sm.bel] at b; exact b) r⟩
 | .ref i,_,b,⟨a,e,e2⟩=>⟨a,by rw [Sm.bel] at b; rw [j,O6 b] at e; exact e,e2⟩
 | .dic,_,_,⟨a,e,q,B⟩=>⟨a,e,q,fun z=>B (z.imp (fun z=>by rw [j]; exact F5 _ z) (G a))⟩
theorem RepL.less (q:ρ.tr=tr0 ++ rest) (j:∀ a,a∈hs->a∈ρ.hid):∀ {ps:List PV} {vs:List V},Qbu tr0.length ps->RepL H ρ ps vs->RepL H ⟨tr0,hs⟩ ps vs
 | [],_,_,r=>r
 | p :: ps,_,b,⟨v,t,e,z,B⟩=>by
  rw [Qbu] at b;exact ⟨v,t,e,Rep.less q j b.1 z,RepL.less q j b.2 B⟩
end
end
theorem Qcd {H H':Hp} {ρ ρ':Tk} {st st':Q2} (R:Rel H ρ st) (x:Ext H ρ H' ρ') (J:Rel H' ρ' st') (hp:st <+: st'):Ext H ρ H' ρ/\Rel H' ρ st:=by
 obtain ⟨rest,z⟩:=x.pre;obtain ⟨more,I⟩:=hp;refine ⟨⟨cU _,fun _ h=>h,fun _ h=>.inl h,x.keep,fun _ h=>.inl h,x.old,x.frz⟩,R.len,R.nd,fun a G=>let ⟨o,e,n⟩:=R.hd a G; ⟨o,x.keep a o e (R.ap a G),n⟩,R.ap,fun i a c h1 h2=>?_⟩
 have hi:i < st.length:=(O1.mp h2).1;have q:=J.cell i a c (by rw [<- z,O6 (O1.mp h1).1]; exact h1) (by rw [<- I,O6 hi]; exact h2);have B:=R.cell i a c h1 h2;cases c with
 | lst ps=>
  obtain ⟨vs,e1,e2⟩:=q;obtain ⟨us,_,j⟩:=B;exact ⟨vs,e1,RepL.less (ρ:=ρ') (tr0:=ρ.tr) (hs:=ρ.hid) z.symm x.hidM j.bel e2⟩
 | dic ps=>
  obtain ⟨vs,e1,e2⟩:=q;obtain ⟨us,_,j⟩:=B;exact ⟨vs,e1,e2.1,RepL.less (ρ:=ρ') (tr0:=ρ.tr) (hs:=ρ.hid) z.symm x.hidM j.2.bel e2.2⟩
 | dtp ps=>
  obtain ⟨vs,e1,e2⟩:=q;obtain ⟨us,_,j⟩:=B;exact ⟨vs,e1,e2.1,RepL.less (ρ:=ρ') (tr0:=ρ.tr) (hs:=ρ.hid) z.symm x.hidM j.2.bel e2.2⟩
 | frd ps=>
  obtain ⟨vs,e1,e2⟩:=q;obtain ⟨us,_,j⟩:=B;exact ⟨vs,e1,e2.1,RepL.less (ρ:=ρ') (tr0:=ρ.tr) (hs:=ρ.hid) z.symm x.hidM j.2.bel e2.2⟩
 | obj C ps=>
  obtain ⟨vs,e1,e2⟩:=q;obtain ⟨us,_,j⟩:=B;exact ⟨vs,e1,e2.1,RepL.less (ρ:=ρ') (tr0:=ρ.tr) (hs:=ρ.hid) z.symm x.hidM j.2.bel e2.2⟩
abbrev FN:=List PV->Q2->Res PV
open Classical in
def fin (st:Q2) (v:PV) (st':Q2):Res PV:=if st <+: st' then okO st (fz st.length st' 16 v) else .ok v st'
open Classical in
def Qkc (st:Q2) (x:Exc) (st':Q2):Res PV:=if st <+: st' then (match x.fs with
 | none=>.exc x st
 | some (n,p)=>match fz st.length st' 16 p with
  | some q=>.exc ⟨x.cls,some (n,q)⟩ st
  | none=>.stuck) else .exc x st'
def Qs (body:MS) (nl:Nat):FN:=fun ps st=>match body (ps.map some ++ bQ (nl - ps.length) none) st with
 | .rt v st'=>fin st v st'
 | .nx _ st'=>fin st .non st'
 | .exc x st'=>Qkc st x st'
 | _=>.stuck
theorem Qfv {mg:Str->Option aB} {E:XK} {H:Hp} {ρ:Tk} {st st':Q2} {Q:VK} {p:PV} (R:Rel H ρ st) (h:Acc mg E H ρ (QV Q) (fin st p st')):∀ v H' ρ',Ext H ρ H' ρ'->Rel H' ρ' st'->Rep H' ρ' p v->Q v H':=fun v H' ρ' x j r=>by
 unfold fin at h
 by_cases hp:st <+: st'
 ·rw [bJ hp] at h;cases e:fz st.length st' 16 p with
  | none=>rw [e] at h; exact h.elim
  | some q=>
   rw [e] at h;obtain ⟨z,R2⟩:=Qcd R x j hp;obtain ⟨rest,B⟩:=x.pre;rw [<- R.len] at e;exact h H' ρ z R2 v (Qk9 (tr0:=ρ.tr) (hs:=ρ.hid) j B.symm x.hidM 16 r e)
 ·rw [bK hp] at h;exact h H' ρ' x j v r
def spF (mg:Str->Option aB) (n:Nat) (F:FN):Sp:=fun vs H Q E=>vs.length=n/\∃ ρ st ps,Rel H ρ st/\RepL H ρ ps vs/\Acc mg E H ρ (QV Q) (F ps st)
theorem Q9u {H:Hp} {ρ:Tk} {N:List Str} {ps:List PV} {vs:List V} (r:RepL H ρ ps vs):EnvR H ρ (ps.map some ++ bQ (N.length - ps.length) none) (L2.start N vs):=by
 have j:=r.length;unfold L2.start;refine ⟨by simp [j],fun i p e=>?_⟩
 by_cases hi:i < ps.length
 ·rw [O6 (by simpa using hi),E6] at e;rw [O6 (by simp; omega),E6];cases q:ps[i]? with
  | none=>rw [q] at e; cases e
  | some p'=>
   rw [q] at e;cases e;obtain ⟨v,e1,e2⟩:=r.get q;exact ⟨v,by rw [e1]; rfl,e2⟩
 ·rw [D1 (by simpa using hi),cP] at e
  split at e <;> cases e
section
variable {P:aN} {w:aL} {K:bP} {mg:Str->Option aB} {base:Heap}
theorem Qt0 {x qual:Str} {st:aM} {f:aA} {fd:aP} {N ps:List Str} {k:Nat} {m:MS} (F:Fun K x qual st f fd) (S:FnScope N ps (Q6 st))
  (hb:∀ (I:aB) (A:aR) (outer:List df) (s:aC) (H:Hp) (E:XK),Room k (A.deeper (dg qual (Q6 st) s.heap.objs.size f I))->SimB (cxD P w K mg base N qual (Q6 st) f I A outer s H E) E (Qn st) m) :
  FnOk P w K mg base (CXD P w) (k + 1) f fd ps (spF mg ps.length (Qs m N.length)):=by
 refine Fun.okD F S (fun vs H Q E h=>h.1) fun I A outer s H vs Q E hr Z=>⟨_,Q73,?_⟩
 obtain ⟨hl,ρ,G,U,R,rl,j⟩:=Z;refine (hb I A outer s H E hr).run _ (L2.start N vs) H ρ G _ R (Q9u rl) ?_;unfold Qs at j;cases O:m (U.map some ++ bQ (N.length - U.length) none) G with
 | rt v B=>rw [O] at j; exact Qfv R j
 | nx Γ B=>rw [O] at j; exact fun a2 H' ρ' J Y G'=>Qfv R j .non H' ρ' J Y rfl
 | bk Γ B=>rw [O] at j; exact j.elim
 | ct Γ B=>rw [O] at j; exact j.elim
 | stuck=>rw [O] at j; exact j.elim
 | exc y B=>
  rw [O] at j;have j:Acc mg E H ρ (QV Q) (Qkc G y B):=j;intro C dv H' ρ' hm J Y hf;unfold Qkc at j
  by_cases hp:G <+: B
  ·rw [bJ hp] at j;obtain ⟨x2,R2⟩:=Qcd R J Y hp;obtain ⟨cls,fs⟩:=y;cases fs with
   | none=>exact j C dv H' ρ hm x2 R2 hf
   | some np=>
    obtain ⟨nm,p⟩:=np;simp only at j;cases e:fz G.length B 16 p with
    | none=>rw [e] at j; exact j.elim
    | some q=>
     rw [e] at j;obtain ⟨rest,ht⟩:=J.pre;rw [<- R.len] at e;obtain ⟨dx,v,e1,e2,e3,e4⟩:=hf;refine j C dv H' ρ hm x2 R2 ⟨dx,v,e1,e2,fun z=>e3 (z.imp (fun z=>by rw [<- ht]; exact F5 _ z) (J.hidM dx)),Qk9 (tr0:=ρ.tr) (hs:=ρ.hid) Y ht.symm J.hidM 16 e4 e⟩
  ·rw [bK hp] at j;exact j C dv H' ρ' hm J Y hf
end
theorem J1 {P:aN} {w:aL} {K:bP} {mg:Str->Option aB} {base:Heap} {x qual:Str} {st:aM} {f:aA} {fd:aP} {N ps:List Str} {k n nl:Nat} {m:MS} {z:FN} (F:Fun K x qual st f fd) (S:FnScope N ps (Q6 st)) (I:ps.length=n) (q:N.length=nl) (G:z=Qs m nl)
  (B:∀ (j:aB) (A:aR) (outer:List df) (s:aC) (H:Hp) (E:XK),Room k (A.deeper (dg qual (Q6 st) s.heap.objs.size f j))->SimB (cxD P w K mg base N qual (Q6 st) f j A outer s H E) E (Qn st) m) :
  FnOk P w K mg base (CXD P w) (k + 1) f fd ps (spF mg n z):=by
 subst I; subst q; subst G;exact Qt0 F S B
structure DefS (P:aN) (w:aL) (K:bP) (mg:Str->Option aB) (base:Heap) (k:Nat) (x:Str) (n:Nat) (F:FN):Prop where
 ex:∃ (f:aA) (fd:aP) (ps:List Str),FnOk P w K mg base (CXD P w) k f fd ps (spF mg n F)/\mg x=some (.ref f)/\bS K (.ref f)=true/\Binds K fd ps []/\ps.length=n
def Qf (n:Nat) (F:FN) (mr:Gam->Q2->Res (List PV)):ME:=fun Γ st=>(mr Γ st).bind fun ps st1=>if ps.length=n then F ps st1 else .stuck
section
variable {X:Cx} {E:XK} {k n:Nat} {x:Str} {F:FN} {p pos:Pos} {e:aD} {es:List aD} {mr:Gam->Q2->Res (List PV)}
theorem Qg (D:DefS X.prog X.w X.K X.mg X.base k x n F) (hr:Room k X.A) (Y:jg (CXD X.prog X.w) X E) (O:Gl X x) (ha:SimA X E (e :: es) mr) (j:(x == ("__debug__" : Str))=false:=by decide)
  (he:aO (e :: es) X.env=(false,aK e X.env) :: aO es X.env:=by rfl) (z:(aU pos (aO es X.env)).any (·.1)=false:=by rfl):SimE X E (.Call (.Name x p) (e :: es) [] pos) (Qf n F mr):=by
 obtain ⟨f,fd,ps,Z,hm,U,hb,hl⟩:=D.ex;exact ⟨fun Γ σ H ρ st Q R G h=>WE.of (Qnp Z hr O hm U hb .nil Y Q3j j he z) (ha.use R G h.bind fun I q H1 ρ1 vs x1 R1 G1 J h1=>by
  by_cases B:I.length=n
  ·rw [bJ B] at h1;show spF X.mg n F (vs ++ []) H1 Q E;rw [bq];exact ⟨by rw [<- J.length]; exact B,ρ1,q,I,R1,J,h1⟩
  ·rw [bK B] at h1; exact h1.elim)⟩
end
end
@[simp] theorem J6 {α β:Type} (a:α) (st:Q2) (f:α->Q2->Res β):(Res.ok a st).bind f=f a st:=rfl
@[simp] theorem Qt6 {α β:Type} (f:α->Q2->Res β):(Res.stuck:Res α).bind f=.stuck:=rfl
@[simp] theorem Qw9 {α β:Type} (x:Exc) (st:Q2) (f:α->Q2->Res β):(Res.exc x st:Res α).bind f=.exc x st:=rfl
@[simp] theorem Uc {α:Type} (a:α) (st:Q2) (f:α->Q2->SR):(Res.ok a st).sbind f=f a st:=rfl
@[simp] theorem Qqf {α:Type} (f:α->Q2->SR):(Res.stuck:Res α).sbind f=.stuck:=rfl
@[simp] theorem Qth {α:Type} (x:Exc) (st:Q2) (f:α->Q2->SR):(Res.exc x st:Res α).sbind f=.exc x st:=rfl
@[simp] theorem Qwr (i:Nat) (Γ:Gam) (st:Q2):Q4 i Γ st=(match Γ[i]? with | some (some p)=>.ok p st | _=>.stuck):=rfl
@[simp] theorem Qyc (p:PV) (Γ:Gam) (st:Q2):mC p Γ st=.ok p st:=rfl
@[simp] theorem Qsk (o:OP) (a b:ME) (Γ:Gam) (st:Q2):mOp o a b Γ st=(a Γ st).bind fun x j=>(b Γ j).bind fun y q=>o q x y:=rfl
@[simp] theorem Qy6 (b:Bool) (st:Q2):asB (.bl b) st=.ok b st:=rfl
@[simp] theorem Qr3 (m:ME) (Γ:Gam) (st:Q2):toB m Γ st=(m Γ st).bind asB:=rfl
def Qmv {α:Type} (x:PV) (A B:Res α):Res α:=match x with
 | .bl true=>A
 | .bl false=>B
 | _=>.stuck
@[simp] theorem Qwf {α:Type} (b:Bool) (A B:Res α):Qmv (.bl b) A B=if b=true then A else B:=by cases b <;> rfl
@[simp] theorem Qtm (o o':OP) (a b c:ME) (Γ:Gam) (st:Q2):Q1h o o' a b c Γ st=(a Γ st).bind fun x B=>(b Γ B).bind fun y q=>(o q x y).bind fun k j=>Qmv k ((c Γ j).bind fun z G=>o' G y z) (.ok (.bl false) j):=by
 unfold Q1h;refine congrArg _ (funext fun x=>funext fun B=>congrArg _ (funext fun y=>funext fun q=>congrArg _ (funext fun k=>funext fun j=>?_)))
 cases k with
 | bl b=>cases b <;> rfl
 | _=>rfl
@[simp] theorem Qpe (a b:ME) (Γ:Gam) (st:Q2):Q51 a b Γ st=(a Γ st).bind fun x j=>Qmv x (b Γ j) (.ok (.bl false) j):=by
 unfold Q51;refine congrArg _ (funext fun x=>funext fun j=>?_);cases x with
 | bl b=>cases b <;> rfl
 | _=>rfl
@[simp] theorem Qxx (a b:ME) (Γ:Gam) (st:Q2):mOr a b Γ st=(a Γ st).bind fun x j=>Qmv x (.ok (.bl true) j) (b Γ j):=by
 unfold mOr;refine congrArg _ (funext fun x=>funext fun j=>?_);cases x with
 | bl b=>cases b <;> rfl
 | _=>rfl
@[simp] theorem Qws (a:ME) (Γ:Gam) (st:Q2):Qsm a Γ st=(a Γ st).bind fun x j=>(match x with | .bl k=>.ok (.bl (!k)) j | _=>.stuck):=rfl
@[simp] theorem Qwu (a:ME) (Γ:Gam) (st:Q2):Q50 a Γ st=(a Γ st).bind fun x j=>(match x with | .int k=>.ok (.int (-k)) j | _=>.stuck):=rfl
@[simp] theorem Qc1 (a b:MT) (Γ:Gam) (st:Q2):Q0t a b Γ st=(a Γ st).bind fun k j=>if k=true then b Γ j else .ok false j:=rfl
@[simp] theorem Qf2 (a b:MT) (Γ:Gam) (st:Q2):Q11 a b Γ st=(a Γ st).bind fun k j=>if k=true then .ok true j else b Γ j:=rfl
@[simp] theorem Qii (a:MT) (Γ:Gam) (st:Q2):U9 a Γ st=(a Γ st).bind fun k j=>.ok (!k) j:=rfl
@[simp] theorem Qwt (Γ:Gam) (st:Q2):Q9 Γ st=.ok [] st:=rfl
@[simp] theorem Qjy (m:ME) (mr:ML) (Γ:Gam) (st:Q2):Q3 m mr Γ st=(m Γ st).bind fun p j=>(mr Γ j).bind fun ps q=>.ok (p :: ps) q:=rfl
@[simp] theorem Qp6 (mr:ML) (Γ:Gam) (st:Q2):Kt mr Γ st=(mr Γ st).bind fun ps j=>if ps.length<=lim then .ok (.tup ps) j else .stuck:=rfl
@[simp] theorem Qwv (mr:ML) (Γ:Gam) (st:Q2):Q3x mr Γ st=(mr Γ st).bind fun ps j=>if ps.length<=lim then .ok (.lst ps) j else .stuck:=rfl
@[simp] theorem Qvg (mr:ML) (Γ:Gam) (st:Q2):y0 mr Γ st=(mr Γ st).bind fun ps j=>if ps.length<=lim then .ok ps j else .stuck:=rfl
@[simp] theorem Qxw (m:ME) (l h:Gam->Q2->Res (Option Int)) (Γ:Gam) (st:Q2):mSl m l h Γ st=(m Γ st).bind fun p j=>(l Γ j).bind fun lo z=>(h Γ z).bind fun hi q=>oSl q p lo hi:=rfl
@[simp] theorem Qsn (Γ:Gam) (st:Q2):K6 Γ st=.ok none st:=rfl
@[simp] theorem Qve (m:ME) (Γ:Gam) (st:Q2):x9 m Γ st=(m Γ st).bind fun p j=>(match p with | .int i=>.ok (some i) j | _=>.stuck):=rfl
@[simp] theorem Qjz (o:CF) (mr:ML) (Γ:Gam) (st:Q2):J7 o mr Γ st=(mr Γ st).bind fun ps j=>o j ps:=rfl
@[simp] theorem Qpa (T:String) (m:ME) (Γ:Gam) (st:Q2):Q32 T m Γ st=(m Γ st).bind fun p j=>if xh j p=true then .stuck else .ok (.bl (isI T (dpv j p))) j:=rfl
@[simp] theorem Qvw (st:Q2):xh st .non=false:=rfl
@[simp] theorem Qwx (st:Q2) (b:Bool):xh st (.bl b)=false:=rfl
@[simp] theorem Qvy (st:Q2) (b:Int):xh st (.int b)=false:=rfl
@[simp] theorem Qvu (st:Q2) (b:Str):xh st (.str b)=false:=rfl
@[simp] theorem Qvt (st:Q2) (b:List PV):xh st (.tup b)=false:=rfl
@[simp] theorem Qvx (st:Q2) (b:List PV):xh st (.lst b)=false:=rfl
@[simp] theorem Qvz (st:Q2) (b:List PV):xh st (.fro b)=false:=rfl
@[simp] theorem Qw0 (st:Q2):xh st .dic=false:=rfl
@[simp] theorem Qvv (st:Q2) (i:Nat):xh st (.ref i)=(match st[i]? with | some (.frd _)=>true | some (.obj _ _)=>true | _=>false):=rfl
@[simp] theorem Qx2 (st:Q2):dpv st .non=.non:=rfl
@[simp] theorem Qy4 (st:Q2) (b:Bool):dpv st (.bl b)=(.bl b):=rfl
@[simp] theorem Qx4 (st:Q2) (b:Int):dpv st (.int b)=(.int b):=rfl
@[simp] theorem Qx1 (st:Q2) (b:Str):dpv st (.str b)=(.str b):=rfl
@[simp] theorem Qx0 (st:Q2) (b:List PV):dpv st (.tup b)=(.tup b):=rfl
@[simp] theorem Qx3 (st:Q2) (b:List PV):dpv st (.lst b)=(.lst b):=rfl
@[simp] theorem Qx5 (st:Q2) (b:List PV):dpv st (.fro b)=(.fro b):=rfl
@[simp] theorem Qy3 (st:Q2):dpv st .dic=.dic:=rfl
@[simp] theorem Qye (st:Q2) (i:Nat):dpv st (.ref i)=(match st[i]? with | some (.dic _)=>.dic | some (.dtp _)=>.dic | _=>.ref i):=rfl
@[simp] theorem Qp5 (m:ML) (Γ:Gam) (st:Q2):qd m Γ st=(m Γ st).bind fun ps j=>.ok (.lst ps) j:=rfl
@[simp] theorem Qp7 (m:ML) (Γ:Gam) (st:Q2):Q0y m Γ st=(m Γ st).bind fun ps j=>.ok (.ref j.length) (j ++ [.lst ps]):=rfl
@[simp] theorem Qh5 (cap:List (Option Nat)) (ga:GA) (mi:MI) (mt:MT) (me:ME) (Γ:Gam) (st:Q2):Yh cap ga mi mt me Γ st=(mi Γ st).bind fun q j=>noX (Z3 ga mt me q.2 (Zp cap Γ) q.1 j):=rfl
@[simp] theorem Qvd (Γ:Gam) (st:Q2):Zr Γ st=.ok true st:=rfl
@[simp] theorem Qa7 (n:Nat) (F:FN) (mr:ML) (Γ:Gam) (st:Q2):Qf n F mr Γ st=(mr Γ st).bind fun ps j=>if ps.length=n then F ps j else .stuck:=rfl
@[simp] theorem Qvf (Γ:Gam) (st:Q2):Y1 Γ st=.nx Γ st:=rfl
@[simp] theorem Qcy (a b:MS) (Γ:Gam) (st:Q2):Qr a b Γ st=(match a Γ st with | .nx Γ1 j=>b Γ1 j | r=>r):=rfl
@[simp] theorem Q7v (m:ME) (Γ:Gam) (st:Q2):Wc m Γ st=(m Γ st).sbind fun _ j=>.nx Γ j:=rfl
@[simp] theorem Q3v (m:ME) (Γ:Gam) (st:Q2):Js m Γ st=(m Γ st).sbind fun p j=>.rt p j:=rfl
@[simp] theorem Qp8 (i:Nat) (m:ME) (Γ:Gam) (st:Q2):Jh i m Γ st=(m Γ st).sbind fun p j=>.nx (Γ.set i (some p)) j:=rfl
@[simp] theorem Qfn (c:MT) (a b:MS) (Γ:Gam) (st:Q2):Ym c a b Γ st=(c Γ st).sbind fun k j=>if k=true then a Γ j else b Γ j:=rfl
@[simp] theorem Qpb (ga:GA) (mi:MI) (b:MS) (Γ:Gam) (st:Q2):Q7u ga mi b Γ st=(mi Γ st).sbind fun q j=>xj ga b q.2 q.1 Γ j:=rfl
@[simp] theorem Qp9 (m:ME) (Γ:Gam) (st:Q2):yy m Γ st=(m Γ st).bind fun p j=>(match Xz j p with | some (xs,w)=>if xs.length<=lim then .ok (xs,w) j else .stuck | none=>.stuck):=rfl
@[simp] theorem qe (mr:ML) (Γ:Gam) (st:Q2):W2 mr Γ st=(mr Γ st).bind fun ps q=>(match ps with | [.int j]=>if -(lim:Int)<=j/\j<=lim then .ok (Yg 0 j.toNat,[]) q else .stuck | _=>.stuck):=rfl
@[simp] theorem Qei (mr:ML) (Γ:Gam) (st:Q2):Q3w mr Γ st=(mr Γ st).bind fun ps q=>(match ps with | [.int i,.int j]=>if -(lim:Int)<=i/\i<=lim/\-(lim:Int)<=j/\j<=lim then .ok (Yg i (j - i).toNat,[]) q else .stuck | _=>.stuck):=rfl
@[simp] theorem Qp4 (mr:ML) (Γ:Gam) (st:Q2):Q63 mr Γ st=(mr Γ st).bind fun ps j=>(match ps with | [p,q]=>(match Xz j p,Xz j q with | some (xs,w),some (ys,z)=>if xs.length<=lim then .ok (Q39 xs ys,w ++ z) j else .stuck | _,_=>.stuck) | _=>.stuck):=rfl
@[simp] theorem Qsp (f:MF) (mo:ME) (mr:ML) (Γ:Gam) (st:Q2):mBM f mo mr Γ st=(mo Γ st).bind fun p j=>(match yh j p with | some _=>(mr Γ j).bind fun ps q=>f q p ps | none=>.stuck):=rfl
@[simp] theorem Qpd (ga:GA) (m:ME) (Γ:Gam) (st:Q2):Qk0 ga m Γ st=(m Γ st).sbind fun p j=>(match ga p Γ with | some Γ1=>.nx Γ1 j | none=>.stuck):=rfl
@[simp] theorem Qh3 (mo mi m:ME) (Γ:Gam) (st:Q2):Q0h mo mi m Γ st=(m Γ st).sbind fun p q=>(mo Γ q).sbind fun o B=>(mi Γ B).sbind fun i z=>(match Q14 z o i p with | some j=>.nx Γ j | none=>.stuck):=rfl
@[simp] theorem Qtj (x:Str) (m:ME) (Γ:Gam) (st:Q2):qf x m Γ st=(m Γ st).sbind fun _ j=>.exc ⟨x,none⟩ j:=rfl
@[simp] theorem Qtp (i:Nat) (p:PV) (Γ:Gam):Qp i p Γ=some (Γ.set i (some p)):=rfl
@[simp] theorem Qvq (Γ:Gam):qy [] Γ=some Γ:=rfl
@[simp] theorem Qtq (g:GA) (gs:GAs) (p:PV) (r:List PV) (Γ:Gam):Y0 g gs (p :: r) Γ=(g p Γ).bind (gs r):=rfl
@[simp] theorem Qvp (gs:GAs) (ps:List PV) (Γ:Gam):qx gs (.tup ps) Γ=gs ps Γ:=rfl
@[simp] theorem Qxt {α:Type} (a:α) (st:Q2):noX (Res.ok a st)=.ok a st:=rfl
@[simp] theorem Qti {α:Type}:noX (Res.stuck:Res α)=.stuck:=rfl
@[simp] theorem Qcr {α:Type} (st:Q2) (a:α):okO st (some a)=.ok a st:=rfl
@[simp] theorem Qv5 {α:Type} (st:Q2):okO st (none:Option α)=.stuck:=rfl
@[simp] theorem Qyb (g:Int->Int->PV) (st:Q2) (a b:Int):oI g st (.int a) (.int b)=.ok (g a b) st:=rfl
@[simp] theorem Qvc (st:Q2) (a b:Int):Ww st (.int a) (.int b)=.ok (.int (a + b)) st:=rfl
@[simp] theorem Qvb (st:Q2) (a b:List PV):Ww st (.tup a) (.tup b)=if a.length + b.length<=lim then .ok (.tup (a ++ b)) st else .stuck:=rfl
@[simp] theorem Qv7 (st:Q2) (a b:Int):Q61 st (.int a) (.int b)=if (-(2 ^ 64) < a/\a < 2 ^ 64)\/(-(2 ^ 64) < b/\b < 2 ^ 64) then .ok (.int (a * b)) st else .stuck:=rfl
@[simp] theorem Qv6 (st:Q2) (xs:List PV) (b:Int):Q61 st (.tup xs) (.int b)=if xs≠[]/\1<=b/\xs.length * b.toNat<=4096 then .ok (.tup (bQ b.toNat xs).flatten) st else .stuck:=rfl
@[simp] theorem Qv8 (st:Q2) (a b:Int):Q3q st (.int a) (.int b)=if 0 < b then .ok (.int (a % b)) st else .stuck:=rfl
@[simp] theorem Qva (st:Q2) (a b:Int):Qp1 st (.int a) (.int b)=if 0 < b/\b < 1073741824 then .ok (.int (a / b)) st else .stuck:=rfl
@[simp] theorem Qjm (st:Q2) (a b:Int):Qjn st (.int a) (.int b)=if 0<=b/\b<=1000000/\a.natAbs < 2 ^ 64 then .ok (.int (a ^ b.toNat)) st else .stuck:=rfl
@[simp] theorem Qwk (st:Q2) (a b:Int):oLt st (.int a) (.int b)=.ok (.bl (decide (a < b))) st:=rfl
@[simp] theorem Qwq (st:Q2) (a b:Int):oEq st (.int a) (.int b)=.ok (.bl (a == b)) st:=rfl
@[simp] theorem Qwj (st:Q2) (a b:Int):oNe st (.int a) (.int b)=.ok (.bl (!(a == b))) st:=rfl
@[simp] theorem Qxs (st:Q2) (a b:Bool):oEq st (.bl a) (.bl b)=.ok (.bl (a == b)) st:=rfl
@[simp] theorem Qxr (st:Q2) (a b:Bool):oNe st (.bl a) (.bl b)=.ok (.bl (!(a == b))) st:=rfl
@[simp] theorem Qwp (st:Q2) (a b:Str):oEq st (.str a) (.str b)=.ok (.bl (a == b)) st:=rfl
@[simp] theorem Qwi (st:Q2) (a b:Str):oNe st (.str a) (.str b)=.ok (.bl (!(a == b))) st:=rfl
@[simp] theorem Qtn (st:Q2) (xs:List PV):Q1i st (.lst xs)=some xs:=rfl
@[simp] theorem Qsq (st:Q2) (xs:List PV):yh st (.lst xs)=some xs:=rfl
@[simp] theorem Qsr (st:Q2) (xs:List PV):yh st (.fro xs)=some xs:=rfl
@[simp] theorem Q9w (st:Q2) (xs:List PV):K1 st (.lst xs)=some xs:=rfl
@[simp] theorem Qtg (st:Q2) (xs:List PV):K1 st (.fro xs)=some xs:=rfl
@[simp] theorem Qg9 (st:Q2) (xs:List PV):K1 st (.tup xs)=some xs:=rfl
@[simp] theorem Qte (st:Q2) (xs:List PV):Xz st (.lst xs)=some (xs,[]):=rfl
@[simp] theorem Qtf (st:Q2) (xs:List PV):Xz st (.fro xs)=some (xs,[]):=rfl
@[simp] theorem Qtd (st:Q2) (xs:List PV):Xz st (.tup xs)=some (xs,[]):=rfl
theorem Xt {st:Q2} {i:Nat} {xs:List PV} (h:st[i]?=some (.lst xs)):Q1i st (.ref i)=some xs:=by simp only [Q1i,h]
@[simp] theorem Qfg (st:Q2) (xs:List PV) (i:Int):oIx st (.tup xs) (.int i)=okO st (atI xs i):=rfl
@[simp] theorem Qwm (st:Q2) (xs:List PV) (i:Int):oIx st (.lst xs) (.int i)=okO st (atI xs i):=rfl
@[simp] theorem Qwn (st:Q2) (xs:List PV) (i:Int):oIx st (.fro xs) (.int i)=okO st (atI xs i):=rfl
@[simp] theorem zx (st:Q2) (xs:List PV) (l h:Option Int):oSl st (.tup xs) l h=.ok (.tup (cut xs l h)) st:=rfl
@[simp] theorem Qwg (st:Q2) (xs:List PV) (l h:Option Int):oSl st (.lst xs) l h=.ok (.lst (cut xs l h)) st:=rfl
@[simp] theorem Qwh (st:Q2) (xs:List PV) (l h:Option Int):oSl st (.fro xs) l h=.ok (.lst (cut xs l h)) st:=rfl
@[simp] theorem Qw4 (st:Q2) (xs:List PV):Yx st [.tup xs]=.ok (.int xs.length) st:=rfl
@[simp] theorem Qw5 (st:Q2) (xs:List PV):Yx st [.lst xs]=.ok (.int xs.length) st:=rfl
@[simp] theorem Qw6 (st:Q2) (xs:List PV):Yx st [.fro xs]=.ok (.int xs.length) st:=rfl
@[simp] theorem Qtr (st:Q2) (xs:List PV):Q1s st [.tup xs]=.ok (.lst xs) st:=rfl
@[simp] theorem Qts (st:Q2) (xs:List PV):Q1s st [.lst xs]=.ok (.lst xs) st:=rfl
@[simp] theorem Qtt (st:Q2) (xs:List PV):Q1s st [.fro xs]=.ok (.lst xs) st:=rfl
@[simp] theorem Qt4 (st:Q2) (xs:List PV):Xm st [.tup xs]=.ok (.tup xs) st:=rfl
@[simp] theorem Qt5 (st:Q2) (xs:List PV):Xm st [.lst xs]=.ok (.tup xs) st:=rfl
@[simp] theorem Q8m (g:List Bool->PV) (st:Q2) (bs:List Bool):Q2j g st [.lst (bs.map .bl)]=.ok (g bs) st:=by
 simp only [Q2j,Q9w,fA,Qq7]
@[simp] theorem Qhy (g:List Int->Option PV) (st:Q2) (ns:List Int):Kg g st [.lst (ns.map .int)]=okO st (g ns):=by
 simp only [Kg,Q9w,fA,Qd8]
@[simp] theorem Qhw (g:List Int->Option PV) (st:Q2) (ns:List Int):Kg g st [.tup (ns.map .int)]=okO st (g ns):=by
 simp only [Kg,Qg9,fA,Qd8]
@[simp] theorem Qdi (st:Q2) (a b:Int):Q8k st [.int a,.int b]=.ok (.int (if b > a then b else a)) st:=rfl
@[simp] theorem Qkx (st:Q2) (a b:Int):Qhv st [.int a,.int b]=.ok (.int (if b < a then b else a)) st:=rfl
@[simp] theorem Qtv (st:Q2):wOk [] st=True:=by simp [wOk]
@[simp] theorem Qkb (st:Q2) (b:Bool):fin st (.bl b) st=.ok (.bl b) st:=by simp [fin,fz]
@[simp] theorem Qfu (st:Q2) (b:Int):fin st (.int b) st=.ok (.int b) st:=by simp [fin,fz]
@[simp] theorem Qwz (st:Q2):fin st .non st=.ok .non st:=by simp [fin,fz]
@[simp] theorem Qwy (st:Q2) (b:Str):fin st (.str b) st=.ok (.str b) st:=by simp [fin,fz]
theorem Ue {st:Q2} {v:PV} (g:Zm 12 v=true):fin st v st=.ok v st:=by
 simp only [fin,List.prefix_rfl,if_true,Q6f g (by decide:12 < 16),Qcr]
theorem Q5b {st more:Q2} {v:PV} (g:Zm 12 v=true):fin st v (st ++ more)=.ok v st:=by
 simp only [fin,dB,if_true,Q6f g (by decide:12 < 16),Qcr]
theorem Zk:lim=1000000:=rfl
theorem W7 {α:Type} (g f:α->PV) {ga:GA} {me:ME} {w:Wt} {Γ0:Gam} {st:Q2} (q:wOk w st) {ys:List α} (h:∀ y∈ys,∃ Γ1,ga (g y) Γ0=some Γ1/\me Γ1 st=.ok (f y) st):Z3 ga Zr me w Γ0 (ys.map g) st=.ok (ys.map f) st:=by
 induction ys with
 | nil=>simp [Z3,q]
 | cons y ys j=>
  obtain ⟨Γ1,h1,h2⟩:=h y D4;have j:=j fun z hz=>h z (D0 _ hz)
  rw [F2,Z3,bJ q,h1];simp [h2,j]
theorem Q29 {α:Type} (g f:α->PV) (t:α->Bool) {ga:GA} {mt:MT} {me:ME} {w:Wt} {Γ0:Gam} {st:Q2} (q:wOk w st) {ys:List α} (h:∀ y∈ys,∃ Γ1,ga (g y) Γ0=some Γ1/\mt Γ1 st=.ok (t y) st/\(t y=true->me Γ1 st=.ok (f y) st)):Z3 ga mt me w Γ0 (ys.map g) st=.ok ((ys.filter t).map f) st:=by
 induction ys with
 | nil=>simp [Z3,q]
 | cons y ys j=>
  obtain ⟨Γ1,h1,h2,B⟩:=h y D4;have j:=j fun z hz=>h z (D0 _ hz)
  rw [F2,Z3,bJ q,h1];simp only [h2,J6,j];cases tx:t y with
  | true=>simp [B tx,tx,j]
  | false=>simp [tx]
@[simp] theorem Qw8 {α:Type} (g:List Bool->PV) (st:Q2) (ys:List α) (b:α->Bool):Q2j g st [.lst (ys.map fun y=>.bl (b y))]=.ok (g (ys.map b)) st:=by
 rw [show (ys.map fun y=>PV.bl (b y))=(ys.map b).map .bl by rw [bt]; rfl,Q8m]
@[simp] theorem Qhx {α:Type} (g:List Int->Option PV) (st:Q2) (ys:List α) (b:α->Int):Kg g st [.lst (ys.map fun y=>.int (b y))]=okO st (g (ys.map b)):=by
 rw [show (ys.map fun y=>PV.int (b y))=(ys.map b).map .int by rw [bt]; rfl,Qhy]
theorem Q1p {α:Type} (g:α->PV) {xs:List α} (I:Nat->Gam->Q2->Prop) {ga:GA} {body:MS} {w:Wt} (G:∀ i Γ st,I i Γ st->wOk w st)
  (h:∀ (i:Nat) x Γ st,xs[i]?=some x->I i Γ st->∃ Γ1,ga (g x) Γ=some Γ1/\∃ B q,body Γ1 st=.nx B q/\I (i + 1) B q) {Γ:Gam} {st:Q2} (h0:I 0 Γ st):∃ j st',xj ga body w (xs.map g) Γ st=.nx j st'/\I xs.length j st':=by
 induction xs generalizing I Γ st with
 | nil=>exact ⟨Γ,st,by simp [xj,G 0 Γ st h0],h0⟩
 | cons x xs O=>
  obtain ⟨Γ1,h1,B,q,e2,J⟩:=h 0 x Γ st rfl h0;obtain ⟨j,st',e3,U⟩:=O (fun i=>I (i + 1)) (fun i Γ st z=>G (i + 1) Γ st z) (fun i y Γ st Y z=>h (i + 1) y Γ st (by simpa using Y) z) J
  refine ⟨j,st',?_,U⟩;rw [F2,xj,bJ (G 0 Γ st h0),h1];simp only [e2];exact e3
theorem Qab {α:Type} (g:α->PV) {xs:List α} (I:List α->Gam->Q2->Prop) {ga:GA} {body:MS} {w:Wt} (J:∀ pre Γ st,I pre Γ st->wOk w st)
  (h:∀ pre x j Γ st,xs=pre ++ x :: j->I pre Γ st->∃ Γ1,ga (g x) Γ=some Γ1/\∃ B z,body Γ1 st=.nx B z/\I (pre ++ [x]) B z) {Γ:Gam} {st:Q2} (h0:I [] Γ st):∃ q st',xj ga body w (xs.map g) Γ st=.nx q st'/\I xs q st':=by
 have G:∀ (j pre:List α) (Γ:Gam) (st:Q2),xs=pre ++ j->I pre Γ st->∃ q st',xj ga body w (j.map g) Γ st=.nx q st'/\I xs q st':=by
  intro j
  induction j with
  | nil=>intro pre Γ st e i; exact ⟨Γ,st,by simp [xj,J pre Γ st i],by rw [e,bq]; exact i⟩
  | cons x j U=>
   intro pre Γ st e i;obtain ⟨Γ1,h1,B,z,e2,O⟩:=h pre x j Γ st e i;obtain ⟨q,st',e3,Y⟩:=U (pre ++ [x]) B z (by rw [e]; simp) O;refine ⟨q,st',?_,Y⟩;rw [F2,xj,bJ (J pre Γ st i),h1];simp only [e2];exact e3
 exact G xs [] Γ st rfl h0
theorem Q10 {α β:Type} (f:α->PV) (g:β->PV) (xs:List α) (ys:List β):Q39 (xs.map f) (ys.map g)=(xs.zip ys).map fun z=>.tup [f z.1,g z.2]:=by
 rw [Qar,List.zip_map,bt]; rfl
theorem qr {α:Type} (f:α->PV) (xs:List α) (i:Int):atI (xs.map f) i=(atI xs i).map f:=by
 unfold atI;rw [O2];cases ixN xs.length i with
 | none=>rfl
 | some j=>simp [E6]
theorem atI_get {α:Type} {xs:List α} {i:Nat} {x:α} (h:xs[i]?=some x):atI xs (i:Int)=some x:=by
 have j:=(O1.mp h).1;unfold atI ixN;rw [bJ (by omega),bJ (by omega)];simpa using h
theorem y4 {α:Type} (f:α->PV) (xs:List α) (l h:Option Int):cut (xs.map f) l h=(cut xs l h).map f:=by
 unfold cut;rw [O2,<- List.map_drop,<- List.map_take]
theorem K2 (n:Nat):Yg 0 n=(bV n).map fun (k:Nat)=>PV.int (k:Int):=by
 unfold Yg;refine fo fun k _=>?_
 rw [Int.zero_add]
@[simp] theorem Qx8 {α:Type} (st l:List α) (c:α):(st ++ c :: l)[st.length]?=some c:=by
 rw [D1 (O7 _),dE]; rfl
@[simp] theorem Qwd {α:Type} (st l:List α) (c d:α):(st ++ c :: d :: l)[st.length + 1]?=some d:=by
 rw [D1 (by omega)];rw [show st.length + 1 - st.length=1 by omega]; rfl
@[simp] theorem Qx7 {α:Type} (st l:List α) (c d:α):(st ++ c :: l).set st.length d=st ++ d :: l:=by
 rw [gL _ _ (O7 _),dE]; rfl
@[simp] theorem Qwc {α:Type} (st l:List α) (c j d:α):(st ++ c :: j :: l).set (st.length + 1) d=st ++ c :: d :: l:=by
 rw [gL _ _ (by omega),show st.length + 1 - st.length=1 by omega]; rfl
@[simp] theorem Qx6 (st:Q2) (i:Nat) (g:List PV->Option (PV × List PV)):chg st (.ref i) g=(match st[i]? with | some (.lst xs)=>(match g xs with | some (r,ys)=>.ok r (st.set i (.lst ys)) | none=>.stuck) | _=>.stuck):=rfl
@[simp] theorem Qww (st:Q2) (i:Nat):Q1i st (.ref i)=(match st[i]? with | some (.lst xs)=>some xs | _=>none):=rfl
@[simp] theorem Qvh (st:Q2) (i:Nat):yh st (.ref i)=(match st[i]? with | some (.lst xs)=>some xs | _=>none):=rfl
@[simp] theorem Q3c (st:Q2) (i:Nat):K1 st (.ref i)=(match st[i]? with | some (.lst xs)=>some xs | _=>none):=rfl
@[simp] theorem Qmr (st:Q2) (i:Nat):Xz st (.ref i)=(match st[i]? with | some (.lst xs)=>some (xs,[(i,.lst xs)]) | _=>none):=rfl
@[simp] theorem Qqm (st:Q2) (p y:PV):Vm st p [y]=chg st p fun xs=>if xs.length < lim then some (.non,xs ++ [y]) else none:=rfl
@[simp] theorem Qw3 (st:Q2) (i:Nat):Xm st [.ref i]=(match st[i]? with | some (.lst xs)=>.ok (.tup xs) st | _=>.stuck):=by
 unfold Xm; simp only [Q3c];cases st[i]? with
 | none=>rfl
 | some c=>cases c <;> rfl
@[simp] theorem Qq4 (st:Q2) (i:Nat):Q1s st [.ref i]=(match st[i]? with | some (.lst xs)=>.ok (.lst xs) st | _=>.stuck):=by
 unfold Q1s; simp only [Q3c];cases st[i]? with
 | none=>rfl
 | some c=>cases c <;> rfl
@[simp] theorem Qky (st:Q2) (i:Nat):Yx st [.ref i]=(match st[i]? with | some (.lst xs)=>.ok (.int xs.length) st | _=>.stuck):=by
 unfold Yx; simp only [Q3c];cases st[i]? with
 | none=>rfl
 | some c=>cases c <;> rfl
@[simp] theorem Qv9 (st:Q2) (i:Nat) (j:Int):oIx st (.ref i) (.int j)=(match st[i]? with | some (.lst xs)=>okO st (atI xs j) | _=>.stuck):=by
 unfold oIx; simp only [Q3c];cases st[i]? with
 | none=>rfl
 | some c=>cases c <;> rfl
@[simp] theorem Qwe (st:Q2) (k:Nat) (j:Int) (p:PV):Q14 st (.ref k) (.int j) p=(match st[k]? with | some (.lst xs)=>(ixN xs.length j).map fun n=>st.set k (.lst (xs.set n p)) | _=>none):=rfl
theorem Q28 {α:Type} (xs:List α) (k:Nat):cut xs none (some (k:Int))=xs.take k:=by
 unfold cut;rw [HT.sIx_none,HT.sIx_nat,da,gI];rcases gM k xs.length with h | h
 ·rw [gN h]
 ·rw [gO h,eX,gP h]
theorem Q1q {α:Type} (xs:List α) (k:Nat):cut xs (some (k:Int)) none=xs.drop k:=by
 unfold cut;rw [HT.sIx_none,HT.sIx_nat];rcases gM k xs.length with h | h
 ·rw [gN h,gP (by rw [cR]; omega)]
 ·rw [gO h,ew,List.drop_of_length_le h]; simp
theorem getD_some {α:Type} {l:List α} {j:Nat} (h:j < l.length) (d:α):l[j]?=some (l.getD j d):=by
 rw [bZ,O4 h]; rfl
def ListAt (st:Q2) (V:PV) (xs:List PV):Prop:=V=.lst xs\/V=.fro xs\/∃ i,V=.ref i/\st[i]?=some (.lst xs)
theorem ListAt.ix {st:Q2} {V:PV} {xs:List PV} (h:ListAt st V xs) (j:Int):oIx st V (.int j)=okO st (atI xs j):=by
 rcases h with rfl | rfl | ⟨i,rfl,e⟩
 ·rfl
 ·rfl
 ·rw [Qv9,e]
theorem ListAt.len {st:Q2} {V:PV} {xs:List PV} (h:ListAt st V xs):Yx st [V]=.ok (.int xs.length) st:=by
 rcases h with rfl | rfl | ⟨i,rfl,e⟩
 ·rfl
 ·rfl
 ·rw [Qky,e]
theorem ListAt.list {st:Q2} {V:PV} {xs:List PV} (h:ListAt st V xs):Q1s st [V]=.ok (.lst xs) st:=by
 rcases h with rfl | rfl | ⟨i,rfl,e⟩
 ·rfl
 ·rfl
 ·rw [Qq4,e]
theorem ListAt.src {st:Q2} {V:PV} {xs:List PV} (h:ListAt st V xs):∃ w,Xz st V=some (xs,w)/\wOk w st:=by
 rcases h with rfl | rfl | ⟨i,rfl,e⟩
 ·exact ⟨[],rfl,by simp⟩
 ·exact ⟨[],rfl,by simp⟩
 ·exact ⟨[(i,.lst xs)],by rw [Qmr,e],by simp [wOk,e]⟩
theorem Qhk {α:Type} (g:α->PV) {xs:List α} (I:Nat->List PV->Q2->Prop) {ga:GA} {me:ME} {w:Wt} {Γ0:Gam} (B:∀ i j st,I i j st->wOk w st)
  (h:∀ (i:Nat) x j st,xs[i]?=some x->I i j st->∃ Γ1,ga (g x) Γ0=some Γ1/\∃ v q,me Γ1 st=.ok v q/\I (i + 1) (j ++ [v]) q) {st:Q2} (h0:I 0 [] st):∃ j st',Z3 ga Zr me w Γ0 (xs.map g) st=.ok j st'/\I xs.length j st':=by
 have z:∀ (ys:List α) (k:Nat) (pre:List PV) (st:Q2),(∀ i,ys[i]?=xs[k + i]?)->k + ys.length=xs.length->I k pre st->∃ j st',Z3 ga Zr me w Γ0 (ys.map g) st=.ok j st'/\I xs.length (pre ++ j) st':=by
  intro ys
  induction ys with
  | nil=>
   intro k pre st e e2 i;refine ⟨[],st,by simp [Z3,B k pre st i],?_⟩;rw [bq,<- e2]; exact i
  | cons y ys O=>
   intro k pre st e e2 i;have U:xs[k]?=some y:=by have:=e 0; simpa using this.symm
   obtain ⟨Γ1,h1,v,q,h2,G⟩:=h k y pre st U i;obtain ⟨j,st',J,Y⟩:=O (k + 1) (pre ++ [v]) q (fun i=>by
    have:=e (i + 1);rw [List.getElem?_cons_succ] at this;rw [this]; congr 1; omega) (by rw [<- e2,D8]; omega) G
   refine ⟨v :: j,st',?_,by simpa using Y⟩;rw [F2,Z3,bJ (B k pre st i),h1];simp [Zr,h2,J]
 obtain ⟨j,st',h1,h2⟩:=z xs 0 [] st (fun i=>by simp) (by simp) h0;exact ⟨j,st',h1,by simpa using h2⟩
theorem Q22:∀ {xs:List PV},(∀ x∈xs,peq x x=true)->jb xs xs=true
 | [],_=>rfl
 | x :: xs,h=>by
  rw [jb,h x D4,Q22 fun y j=>h y (D0 _ j)]; rfl
theorem Q18:∀ {n:Nat} {p:PV},Zm n p=true->peq p p=true
 | n,.non,_=>rfl
 | n,.bl b,_=>by simp [peq]
 | n,.int b,_=>by simp [peq]
 | n,.str b,_=>by simp [peq]
 | n,.ref _,g=>by cases n <;> simp [Zm] at g
 | n,.dic,g=>by cases n <;> simp [Zm] at g
 | 0,.tup _,g=>by simp [Zm] at g
 | 0,.lst _,g=>by simp [Zm] at g
 | 0,.fro _,g=>by simp [Zm] at g
 | n + 1,.tup xs,g=>by
  rw [peq]; refine Q22 fun x j=>Q18 (n:=n) ?_
  simp [Zm] at g; exact g x j
 | n + 1,.lst xs,g=>by
  rw [peq]; refine Q22 fun x j=>Q18 (n:=n) ?_
  simp [Zm] at g; exact g x j
 | n + 1,.fro xs,g=>by
  rw [peq]; refine Q22 fun x j=>Q18 (n:=n) ?_
  simp [Zm] at g; exact g x j
theorem ListAt.eqs {st:Q2} {V:PV} {xs:List PV} (h:ListAt st V xs) (g:Zm dep (.lst xs)=true):oNe st (.lst xs) V=.ok (.bl false) st/\oNe st V (.lst xs)=.ok (.bl false) st/\oEq st (.lst xs) V=.ok (.bl true) st/\oEq st V (.lst xs)=.ok (.bl true) st:=by
 have hp:jb xs xs=true:=by have:=Q18 g; rwa [peq] at this
 have g2:Zm dep (.fro xs)=true:=g;rcases h with rfl | rfl | ⟨i,rfl,e⟩
 ·simp [oNe,oEq,der,g,peq,hp]
 ·simp [oNe,oEq,der,g,g2,peq,hp]
 ·simp [oNe,oEq,der,g,g2,peq,hp,e]
section
variable {X:Cx} {E:XK} {a b:aD} {ma mb:ME} {pos:Pos}
end
def Yr (body:MS) (nl:Nat):FN:=fun ps st=>match body (ps.map some ++ bQ (nl - ps.length) none) st with
 | .rt v st'=>.ok v st'
 | .nx _ st'=>.ok .non st'
 | .exc x st'=>.exc x st'
 | _=>.stuck
section
variable {P:aN} {w:aL} {K:bP} {mg:Str->Option aB} {base:Heap}
theorem Qpu {x qual:Str} {st:aM} {f:aA} {fd:aP} {N ps:List Str} {k:Nat} {m:MS} (F:Fun K x qual st f fd) (S:FnScope N ps (Q6 st))
  (U:∀ (q:aB) (A:aR) (outer:List df) (s:aC) (H:Hp) (E:XK),Room k (A.deeper (dg qual (Q6 st) s.heap.objs.size f q))->SimB (cxD P w K mg base N qual (Q6 st) f q A outer s H E) E (Qn st) m) :
  FnOk P w K mg base (CXD P w) (k + 1) f fd ps (spF mg ps.length (Yr m N.length)):=by
 refine Fun.okD F S (fun vs H Q E h=>h.1) fun q A outer s H vs Q E Z J=>⟨_,Q73,?_⟩
 obtain ⟨hl,ρ,I,G,R,rl,j⟩:=J;refine (U q A outer s H E Z).run _ (L2.start N vs) H ρ I _ R (Q9u rl) ?_;unfold Yr at j;cases B:m (G.map some ++ bQ (N.length - G.length) none) I with
 | rt v z=>rw [B] at j; exact fun v H' ρ' x O r=>j H' ρ' x O v r
 | nx Γ z=>rw [B] at j; exact fun a2 H' ρ' Y O G'=>j H' ρ' Y O .non rfl
 | bk Γ z=>rw [B] at j; exact j.elim
 | ct Γ z=>rw [B] at j; exact j.elim
 | stuck=>rw [B] at j; exact j.elim
 | exc y z=>rw [B] at j; exact j
end
theorem Wu {P:aN} {w:aL} {K:bP} {mg:Str->Option aB} {base:Heap} {x qual:Str} {st:aM} {f:aA} {fd:aP} {N ps:List Str} {k n nl:Nat} {m:MS} {z:FN} (F:Fun K x qual st f fd) (S:FnScope N ps (Q6 st)) (I:ps.length=n) (q:N.length=nl) (G:z=Yr m nl)
  (B:∀ (j:aB) (A:aR) (outer:List df) (s:aC) (H:Hp) (E:XK),Room k (A.deeper (dg qual (Q6 st) s.heap.objs.size f j))->SimB (cxD P w K mg base N qual (Q6 st) f j A outer s H E) E (Qn st) m) :
  FnOk P w K mg base (CXD P w) (k + 1) f fd ps (spF mg n z):=by
 subst I; subst q; subst G;exact Qpu F S B
end Sm
namespace Sm
open PySem PySem.Spec PyProof.Rows L2
section
variable {X:Cx} {E:XK} {pos:Pos} {a b:aD} {ma mb:ME}
end
end Sm
namespace Sm
open PySem PySem.Spec L2
def Q2w (w:Str):V:=if w = "make" then .int 3 else if w = "lend" then .int 4 else if w = "use" then .int 3 else .non
structure PartsOk (P:aN) (w:aL) (K:bP) (mg:Str->Option aB):Prop where
 ex:∃ (a:aA) (o:Obj) (es:Array DictEntry) (ep:Nat),mg "PARTS_OF_DEED" = some (.ref a)/\K.lookup a=some o/\o.cls=.type "dict" /\ o.ExactDict/\o.data=.dict es ep/\KeysOf (J4 P w) es/\(a == af)=false/\∀ x,RelV (Q2w x) ((findBy (J4 P w).is es (.inr x)).getD .none)
def Qej (m:ME):ME:=fun Γ st=>(m Γ st).bind fun p st1=>match p with
 | .str x=>if x = "make" then .ok (.int 3) st1 else if x = "lend" then .ok (.int 4) st1 else if x = "use" then .ok (.int 3) st1 else .ok .non st1
 | _=>.stuck
section
variable {X:Cx} {E:XK} {pos:Pos} {e:aD} {m:ME}
theorem Qim {p apos cpos:Pos} (PO:PartsOk X.prog X.w X.K X.mg) (Y:Gl X "PARTS_OF_DEED") (Z:SimE X E e m)
  (base:ag (.Name "PARTS_OF_DEED" p) "get" X.env (aK (.Name "PARTS_OF_DEED" p) X.env)=aK (.Name "PARTS_OF_DEED" p) X.env:=by rfl)
  (few:((aU cpos (aO [e] X.env)).all (fun x=>!x.1) && (backToKw cpos (keywordEach [] X.env)).all (fun x=>x.1.isSome)
   && decide (([e]:List aD).length + ([]:List Keyword).length + (if ([]:List Keyword).isEmpty then 0 else 1) < 30))=true:=by rfl)
  (line:(apos.endLine == cpos.line)=true:=by rfl) (trees:aU cpos (aO [e] X.env)=[(false,aK e X.env)]:=by rfl) :
  SimE X E (.Call (.Attribute (.Name "PARTS_OF_DEED" p) "get" apos) [e] [] cpos) (Qej m):=by
 obtain ⟨a,o,es,ep,pm,pl,pt,pe,pd,U,ps,J⟩:=PO.ex;refine ⟨fun Γ σ H ρ st Q R G h=>WE.of (Qci (val:=Q2w) Y pm pl pt pe pd U ps J Yu (by decide) base few line trees) (Z.use R G h.bind fun q j H1 ρ1 v x1 I G1 O h1=>?_)⟩;cases q with
 | str x=>
  cases O;have h1:Acc X.mg E H1 ρ1 (QV Q) (if x = "make" then .ok (.int 3) j else if x = "lend" then .ok (.int 4) j else if x = "use" then .ok (.int 3) j else .ok .non j):=h1
  by_cases a1:x = "make"
  ·rw [bJ a1] at h1;exact ⟨x,rfl,by unfold Q2w; rw [bJ a1]; exact now I h1 rfl⟩
  ·rw [bK a1] at h1
   by_cases z:x = "lend"
   ·rw [bJ z] at h1;exact ⟨x,rfl,by unfold Q2w; rw [bK a1,bJ z]; exact now I h1 rfl⟩
   ·rw [bK z] at h1
    by_cases B:x = "use"
    ·rw [bJ B] at h1;exact ⟨x,rfl,by unfold Q2w; rw [bK a1,bK z,bJ B]; exact now I h1 rfl⟩
    ·rw [bK B] at h1;exact ⟨x,rfl,by unfold Q2w; rw [bK a1,bK z,bK B]; exact now I h1 rfl⟩
 | _=>exact h1.elim
end
section
theorem Qjf {P:aN} {w:aL} {K:bP} {mg:Str->Option aB} {G:aA} {t1 t2 t3 j q B:Tok} {Z:Nat} (Y:mg "PARTS_OF_DEED" = some (.ref G))
  (lk:K.lookup G=some ⟨.type "dict",none,.dict #[⟨PyData.keyHash w.params "make",.str "make" t1,.int 3 j⟩,⟨PyData.keyHash w.params "lend",.str "lend" t2,.int 4 q⟩,⟨PyData.keyHash w.params "use",.str "use" t3,.int 3 B⟩] Z,#[]⟩) (hp:(G == af)=false):PartsOk P w K mg:=by
 refine ⟨G,_,_,_,Y,lk,rfl,⟨rfl,rfl,rfl⟩,rfl,fun e U=>?_,hp,fun x=>?_⟩
 ·simp only [gQ,E3,cW,or_false] at U;rcases U with rfl | rfl | rfl
  ·exact ⟨.inr "make",by simp [J4,jh,bj],rfl⟩
  ·exact ⟨.inr "lend",by simp [J4,jh,bj],rfl⟩
  ·exact ⟨.inr "use",by simp [J4,jh,bj],rfl⟩
 ·unfold Q2w
  by_cases e1:x = "make"
  ·rw [bJ e1]; subst e1;have:findBy (J4 P w).is #[⟨PyData.keyHash w.params "make",.str "make" t1,.int 3 j⟩,⟨PyData.keyHash w.params "lend",.str "lend" t2,.int 4 q⟩,⟨PyData.keyHash w.params "use",.str "use" t3,.int 3 B⟩] (.inr "make")=some (.int 3 j):=by first | rfl | decide +kernel
   rw [this]; exact ⟨_,rfl⟩
  ·rw [bK e1]
   by_cases e2:x = "lend"
   ·rw [bJ e2]; subst e2;have:findBy (J4 P w).is #[⟨PyData.keyHash w.params "make",.str "make" t1,.int 3 j⟩,⟨PyData.keyHash w.params "lend",.str "lend" t2,.int 4 q⟩,⟨PyData.keyHash w.params "use",.str "use" t3,.int 3 B⟩] (.inr "lend")=some (.int 4 q):=by first | rfl | decide +kernel
    rw [this]; exact ⟨_,rfl⟩
   ·rw [bK e2]
    by_cases e3:x = "use"
    ·rw [bJ e3]; subst e3;have:findBy (J4 P w).is #[⟨PyData.keyHash w.params "make",.str "make" t1,.int 3 j⟩,⟨PyData.keyHash w.params "lend",.str "lend" t2,.int 4 q⟩,⟨PyData.keyHash w.params "use",.str "use" t3,.int 3 B⟩] (.inr "use")=some (.int 3 B):=by first | rfl | decide +kernel
     rw [this]; exact ⟨_,rfl⟩
    ·rw [bK e3];have I:¬ (bO "make" = x):=fun z=>e1 z.symm
     have O:¬ (bO "lend" = x):=fun z=>e2 z.symm
     have J:¬ (bO "use" = x):=fun z=>e3 z.symm
     have:findBy (J4 P w).is #[⟨PyData.keyHash w.params "make",.str "make" t1,.int 3 j⟩,⟨PyData.keyHash w.params "lend",.str "lend" t2,.int 4 q⟩,⟨PyData.keyHash w.params "use",.str "use" t3,.int 3 B⟩] (.inr x)=none:=by
      simp [findBy,J4,jh,bj,I,O,J]
     rw [this]; rfl
end
def Q5g (k1 k2 k3:Str) (p1 p2 p3:PV) (st4:Q2):PV->Res PV
 | .str x=>if x=k1 then .ok p1 st4 else if x=k2 then .ok p2 st4 else if x=k3 then .ok p3 st4 else .stuck
 | _=>.stuck
def Qd0 (k1 k2 k3:Str) (m1 m2 m3 mi:ME):ME:=fun Γ st=>(m1 Γ st).bind fun p1 st1=>(m2 Γ st1).bind fun p2 st2=>(m3 Γ st2).bind fun p3 st3=>(mi Γ st3).bind fun q st4=>Q5g k1 k2 k3 p1 p2 p3 st4 q
section
variable {X:Cx} {E:XK} {pos dpos:Pos} {e1 e2 e3 i:aD} {m1 m2 m3 mi:ME} {k1 k2 k3:Str} {j1 j2 j3:Nat} {q1 q2 q3:Pos}
theorem Qmx (hu:X.A.units + 1 < aa) (h1:SimE X E e1 m1) (h2:SimE X E e2 m2) (h3:SimE X E e3 m3) (hi:SimE X E i mi) (hs:Qqa i) (a9:k1≠k2:=by decide) (a7:k1≠k3:=by decide) (a8:k2≠k3:=by decide) :
  SimE X E (.Subscript (.Dict [some (.Constant (.str k1) j1 q1),some (.Constant (.str k2) j2 q2),some (.Constant (.str k3) j3 q3)] [e1,e2,e3] dpos) i pos) (Qd0 k1 k2 k3 m1 m2 m3 mi):=by
 refine ⟨fun Γ σ H ρ st Q R G h=>WE.of (Qfc hu (Qfb (yx Q19 Yu (yx Q19 Yu (yx Q19 Yu Qfa))) rfl rfl (by simp) (by simp)) Yu hs) ?_⟩;intro p hp;have x0:Ext H ρ (upd H p (.dK [])) (ρ.hide p):=Ext.hide hp;refine h1.use' (R.hide hp) (G.hide hp) (h.bind.later x0) fun a1 b4 H1 ρ1 U f1 x1 R1 G1 r1 _=>?_
 have h:=h;unfold Qd0 at h;rw [f1] at h;have h:Acc X.mg E H ρ (QV Q) ((m2 Γ b4).bind fun p2 a5=>(m3 Γ a5).bind fun p3 I=>(mi Γ I).bind fun q j=>Q5g k1 k2 k3 a1 p2 p3 j q):=h
 refine h2.use' R1 G1 (h.bind.later (x0.trans x1)) fun a2 a5 H2 b6 O f2 x2 R2 G2 r2 _=>?_
 rw [f2] at h;have h:Acc X.mg E H ρ (QV Q) ((m3 Γ a5).bind fun p3 I=>(mi Γ I).bind fun q j=>Q5g k1 k2 k3 a1 a2 p3 j q):=h
 refine h3.use' R2 G2 (h.bind.later ((x0.trans x1).trans x2)) fun a3 I H3 Y J f3 x3 R3 G3 r3 _=>?_
 rw [f3] at h;have h:Acc X.mg E H ρ (QV Q) ((mi Γ I).bind fun q j=>Q5g k1 k2 k3 a1 a2 a3 j q):=h
 have a6:Ext H ρ H3 Y:=((x0.trans x1).trans x2).trans x3;have xe:Ext (upd H p (.dK [])) (ρ.hide p) H3 Y:=(x1.trans x2).trans x3;have b5:p∉(ρ.hide p).tr:=fun z=>R.fresh hp (.inl z)
 have b0:H3 p=some (.dK []):=xe.keep p _ Jb b5;have B:p∈Y.hid:=xe.hidM p D4;refine ⟨b0,[(.inr k1,U),(.inr k2,O),(.inr k3,J)],rfl,by simp,?_⟩;have hm:Q0c [] [((.inr k1:Key),U),(.inr k2,O),(.inr k3,J)]=[(.inr k1,U),(.inr k2,O),(.inr k3,J)]:=by
  simp [Q0c,Q97,a9,a7,a8]
 rw [hm];obtain ⟨o,ho⟩:∃ o:HO,o=.dK [(.inr k1,U),(.inr k2,O),(.inr k3,J)]:=⟨_,rfl⟩;rw [<- ho];have y:Ext H ρ (upd H3 p o) Y:=a6.put0 hp;refine hi.use' (R3.rehide B (by intro _ z; rw [ho] at z; cases z)) (G3.rehide B) (h.bind.later y) fun q j H4 Z v4 f4 x4 R4 G4 r4 _=>?_
 rw [f4] at h;have h:Acc X.mg E H ρ (QV Q) (Q5g k1 k2 k3 a1 a2 a3 j q):=h;have yz:Ext H ρ H4 Z:=y.trans x4;have a4:H4 p=some o:=x4.keep p _ Jb fun z=>R3.ap p B z
 have g1:Rep H4 Z a1 U:=(((r1.ext x2).ext x3).rehide B).ext x4;have g2:Rep H4 Z a2 O:=((r2.ext x3).rehide B).ext x4;have g3:Rep H4 Z a3 J:=(r3.rehide B).ext x4;cases q with
 | str x=>
  cases r4;have h:Acc X.mg E H ρ (QV Q) (if x=k1 then .ok a1 j else if x=k2 then .ok a2 j else if x=k3 then .ok a3 j else .stuck):=h;rw [ho] at a4
  by_cases b1:x=k1
  ·rw [bJ b1] at h;refine ⟨p,U,rfl,?_,h _ _ yz.unhide (R4.unhide yz.hidM) _ (g1.unhide yz.hidM)⟩;have:=DGet.k (k:=.inr x) a4
   rwa [show zc [((.inr k1:Key),U),(.inr k2,O),(.inr k3,J)] (.inr x)=some U by rw [b1]; simp [zc]] at this
  ·rw [bK b1] at h
   by_cases b2:x=k2
   ·rw [bJ b2] at h;refine ⟨p,O,rfl,?_,h _ _ yz.unhide (R4.unhide yz.hidM) _ (g2.unhide yz.hidM)⟩;have:=DGet.k (k:=.inr x) a4
    rwa [show zc [((.inr k1:Key),U),(.inr k2,O),(.inr k3,J)] (.inr x)=some O by rw [b2]; simp [zc,a9]] at this
   ·rw [bK b2] at h
    by_cases b3:x=k3
    ·rw [bJ b3] at h;refine ⟨p,J,rfl,?_,h _ _ yz.unhide (R4.unhide yz.hidM) _ (g3.unhide yz.hidM)⟩;have:=DGet.k (k:=.inr x) a4
     rwa [show zc [((.inr k1:Key),U),(.inr k2,O),(.inr k3,J)] (.inr x)=some J by rw [b3]; simp [zc,a7,a8]] at this
    ·rw [bK b3] at h; exact h.elim
 | _=>exact h.elim
end
def Qb9 (x name:Str) (m:ME):MS:=fun Γ st=>(m Γ st).sbind fun p st1=>.exc ⟨x,some (name,p)⟩ st1
section
variable {X:Cx} {E:XK} {pos:Pos} {e:aD} {m:ME}
theorem Qg7 {x name:Str} {C W f:aA} {fd:aP} {k:Nat} {ps:List Str} {U cpos:Pos} (j:X.calm=true) (Y:Q8q X E) (M:XMade X.K C W f) (GI:FnOk X.prog X.w X.K X.mg X.base CX0 k f fd ps (Q6v C name)) (hr:Room (k + 1) X.A)
  (Z:Binds X.K fd ps []) (hg:Gl X x) (I:X.mg x=some (.ref C)) (he:SimE X E e m) (B:(x == ("__debug__" : Str))=false:=by decide) (q:aO [e] X.env=[(false,aK e X.env)]:=by rfl) :
  SimS X E (.Raise (some (.Call (.Name x U) [e] [] cpos)) none pos) (Qb9 x name m):=
 ⟨fun Γ σ H ρ st D R G h=>WS.of (Qgi j Y M GI hr Z hg I (Q08 Yu Q77 (by rw [q]; rfl)) B q) (he.use R G h.bind fun p a2 H1 ρ1 v x1 J G1 O h1=>
  ⟨v,rfl,fun dx z=>h1 C (some dx) _ ρ1 I (Ext.add z) (J.add z) ⟨dx,v,rfl,Jb,J.fresh z,O.ext (Ext.add z)⟩⟩)⟩
end
@[simp] theorem Qtk (m:ME) (Γ:Gam) (st:Q2):Qej m Γ st=(m Γ st).bind fun p j=>(match p with
 | .str x=>if x = "make" then .ok (.int 3) j else if x = "lend" then .ok (.int 4) j else if x = "use" then .ok (.int 3) j else .ok .non j
 | _=>.stuck):=rfl
@[simp] theorem Qjx (k1 k2 k3:Str) (m1 m2 m3 mi:ME) (Γ:Gam) (st:Q2):Qd0 k1 k2 k3 m1 m2 m3 mi Γ st=(m1 Γ st).bind fun J B=>(m2 Γ B).bind fun p2 z=>(m3 Γ z).bind fun I G=>(mi Γ G).bind fun q j=>Q5g k1 k2 k3 J p2 I j q:=rfl
@[simp] theorem Q4n (k1 k2 k3:Str) (z p2 q:PV) (j:Q2) (x:Str):Q5g k1 k2 k3 z p2 q j (.str x)=if x=k1 then .ok z j else if x=k2 then .ok p2 j else if x=k3 then .ok q j else .stuck:=rfl
@[simp] theorem Qsj (x name:Str) (m:ME) (Γ:Gam) (st:Q2):Qb9 x name m Γ st=(m Γ st).sbind fun p j=>.exc ⟨x,some (name,p)⟩ j:=rfl
theorem Uw {k:Nat} {A:aR} (r:Room k A):A.units + 1 < aa:=by have:=r.un; omega
section
variable {X:Cx} {E:XK}
end
section
variable {H0 H:Hp} {ρ0 ρ:Tk} {st:Q2} {a:aA} {ps:List (Key × PV)} {vs:List (Key × V)}
theorem Qjg (R0:Rel H0 ρ0 st) (x:Ext H0 ρ0 H ρ) {j:Q2} (R:Rel H ρ j) (G:a∈ρ.hid) (U:H0 a=none) (Z:H a=some (.dK vs)) (r:RepD H ρ ps vs) :
  Ext H0 ρ0 H ⟨ρ.tr ++ [a],ρ0.hid⟩/\Rel H ⟨ρ.tr ++ [a],ρ0.hid⟩ (j ++ [.dic ps])/\Rep H ⟨ρ.tr ++ [a],ρ0.hid⟩ (.ref j.length) (.ref a):=by
 have J:a∉ρ0.hid:=fun z=>by
  obtain ⟨o,e,_⟩:=R0.hd a z;rw [U] at e; cases e
 refine ⟨⟨x.pre.trans (dB _ _),fun _ h=>h,fun _ h=>.inl h,x.keep,fun b B=>?_,x.old,x.frz⟩,⟨?_,?_,fun b B=>R.hd b (x.hidM b B),fun b B z=>?_,fun i b c h1 h2=>?_⟩,a,?_,rfl⟩
 ·rcases E9.mp B with z | z
  ·exact x.new b z
  ·have:b=a:=by simpa using z
   subst this; exact .inr U
 ·show (ρ.tr ++ [a]).length=_;rw [O8,O8,R.len]; rfl
 ·show (ρ.tr ++ [a]).Nodup;refine dY.mpr ⟨R.nd,by simp,fun b B c Y e=>?_⟩;have:c=a:=by simpa using Y
  subst this; subst e;exact R.ap b G B
 ·rcases E9.mp z with z | z
  ·exact R.ap b (x.hidM b B) z
  ·have:b=a:=by simpa using z
   subst this; exact J B
 ·have h1:(ρ.tr ++ [a])[i]?=some b:=h1
  by_cases hi:i < j.length
  ·rw [O6 (by rw [R.len]; exact hi)] at h1;rw [O6 hi] at h2;have q:=R.cell i b c h1 h2;cases c with
   | lst I=>
    obtain ⟨us,e1,e2⟩:=q;exact ⟨us,e1,e2.trk G x.hidM⟩
   | dic I=>
    obtain ⟨us,e1,e2⟩:=q;exact ⟨us,e1,e2.1,e2.2.trk G x.hidM⟩
   | dtp I=>
    obtain ⟨us,e1,e2⟩:=q;exact ⟨us,e1,e2.1,e2.2.trk G x.hidM⟩
   | frd I=>
    obtain ⟨us,e1,e2⟩:=q;exact ⟨us,e1,e2.1,e2.2.trk G x.hidM⟩
   | obj C I=>
    obtain ⟨us,e1,e2⟩:=q;exact ⟨us,e1,e2.1,e2.2.trk G x.hidM⟩
  ·rw [D1 (by rw [R.len]; omega)] at h1;rw [D1 (by omega)] at h2;have O:i - j.length=0:=by
    rcases ek (i - j.length) with z | z
    ·exact z
    ·rw [cV (by simp; omega)] at h2; cases h2
   rw [R.len,O] at h1;rw [O] at h2;simp at h1 h2;subst h1; subst h2;exact ⟨vs,Z,r.1,r.2.trk G x.hidM⟩
 ·show (ρ.tr ++ [a])[j.length]?=some a;rw [<- R.len,D1 (O7 _),dE]; rfl
end
def Q2c (kvs:List (Key × PV)) (k:Key):Option PV:=(kvs.find? fun kv=>decide (kv.1=k)).map (·.2)
def Qk3:PV->Option Key
 | .int i=>some (.inl i)
 | .str x=>some (.inr x)
 | _=>none
theorem Qn0 {H:Hp} {ρ:Tk} {p:PV} {v:V} {k:Key} (e:Qk3 p=some k) (r:Rep H ρ p v):v=kV k:=by
 cases p with
 | int i=>cases e; exact r
 | str x=>cases e; exact r
 | _=>cases e
theorem Qcc {H:Hp} {ρ:Tk}:∀ {kvs:List (Key × PV)} {vs:List (Key × V)},RepD H ρ kvs vs->∀ k:Key,(Q2c kvs k=none/\zc vs k=none)\/∃ p v,Q2c kvs k=some p/\zc vs k=some v/\Rep H ρ p v
 | [],[],_,k=>.inl ⟨rfl,rfl⟩
 | [],_ :: _,r,_=>by have:=r.length; cases this
 | _ :: _,[],r,_=>by have:=r.length; cases this
 | (k1,z) :: kvs,(k2,j) :: vs,r,k=>by
  obtain ⟨B,v,t,e,O,I⟩:=r;have e1:k2=k1/\vs.map cp=kvs.map cp:=by
   have:k2 :: vs.map cp=k1 :: kvs.map cp:=B;exact List.cons.inj this
  have e2:j :: vs.map ee=v :: t:=e;cases e2;obtain ⟨rfl,e3⟩:=e1
  by_cases q:k2=k
  ·exact .inr ⟨z,j,by simp [Q2c,q],by simp [zc,q],O⟩
  ·have J:=Qcc (kvs:=kvs) (vs:=vs) ⟨e3,I⟩ k;have a1:Q2c ((k2,z) :: kvs) k=Q2c kvs k:=by simp [Q2c,cI,q]
   have G:zc ((k2,j) :: vs) k=zc vs k:=by simp [zc,cI,q]
   rw [a1,G]; exact J
section
variable {X:Cx} {E:XK} {pos dpos apos cpos:Pos} {e e1 e2 e3 i o f:aD} {m m1 m2 m3 mi mo mf:ME} {k1 k2 k3:Str} {j1 j2 j3:Nat} {q1 q2 q3:Pos}
def Qba (k1 k2 k3:Str) (m1 m2 m3:ME):ME:=fun Γ st=>(m1 Γ st).bind fun p1 st1=>(m2 Γ st1).bind fun p2 st2=>(m3 Γ st2).bind fun p3 st3=>.ok (.ref st3.length) (st3 ++ [.dic [(.inr k1,p1),(.inr k2,p2),(.inr k3,p3)]])
theorem Qin (h1:SimE X E e1 m1) (h2:SimE X E e2 m2) (h3:SimE X E e3 m3) (a9:k1≠k2:=by decide) (a5:k1≠k3:=by decide) (a7:k2≠k3:=by decide) :
  SimE X E (.Dict [some (.Constant (.str k1) j1 q1),some (.Constant (.str k2) j2 q2),some (.Constant (.str k3) j3 q3)] [e1,e2,e3] dpos) (Qba k1 k2 k3 m1 m2 m3):=by
 refine ⟨fun Γ σ H ρ st Q R G h=>WE.of (Qfb (yx Q19 Yu (yx Q19 Yu (yx Q19 Yu Qfa))) rfl rfl (by simp) (by simp)) ?_⟩;intro p hp;have x0:Ext H ρ (upd H p (.dK [])) (ρ.hide p):=Ext.hide hp;refine h1.use' (R.hide hp) (G.hide hp) (h.bind.later x0) fun a1 a6 H1 ρ1 U f1 x1 R1 G1 r1 _=>?_
 have h:=h;unfold Qba at h;rw [f1] at h;have h:Acc X.mg E H ρ (QV Q) ((m2 Γ a6).bind fun p2 J=>(m3 Γ J).bind fun p3 j=>.ok (.ref j.length) (j ++ [.dic [(.inr k1,a1),(.inr k2,p2),(.inr k3,p3)]])):=h
 refine h2.use' R1 G1 (h.bind.later (x0.trans x1)) fun a2 J H2 b0 O f2 x2 R2 G2 r2 _=>?_
 rw [f2] at h;have h:Acc X.mg E H ρ (QV Q) ((m3 Γ J).bind fun p3 j=>.ok (.ref j.length) (j ++ [.dic [(.inr k1,a1),(.inr k2,a2),(.inr k3,p3)]])):=h
 refine h3.use' R2 G2 (h.bind.later ((x0.trans x1).trans x2)) fun a3 j H3 B I f3 Z R3 G3 r3 _=>?_
 rw [f3] at h;have h:Acc X.mg E H ρ (QV Q) (.ok (.ref j.length) (j ++ [.dic [(.inr k1,a1),(.inr k2,a2),(.inr k3,a3)]])):=h;have Y:Ext H ρ H3 B:=((x0.trans x1).trans x2).trans Z;have xe:Ext (upd H p (.dK [])) (ρ.hide p) H3 B:=(x1.trans x2).trans Z;have a8:p∉(ρ.hide p).tr:=fun z=>R.fresh hp (.inl z)
 have a4:H3 p=some (.dK []):=xe.keep p _ Jb a8;have q:p∈B.hid:=xe.hidM p D4;refine ⟨a4,[(.inr k1,U),(.inr k2,O),(.inr k3,I)],rfl,by simp,?_⟩;have hm:Q0c [] [((.inr k1:Key),U),(.inr k2,O),(.inr k3,I)]=[(.inr k1,U),(.inr k2,O),(.inr k3,I)]:=by
  simp [Q0c,Q97,a9,a5,a7]
 rw [hm];have y:Ext H ρ (upd H3 p (.dK [(.inr k1,U),(.inr k2,O),(.inr k3,I)])) B:=Y.put0 hp;have g1:=((r1.ext x2).ext Z).rehide (o:=.dK [(.inr k1,U),(.inr k2,O),(.inr k3,I)]) q;have g2:=(r2.ext Z).rehide (o:=.dK [(.inr k1,U),(.inr k2,O),(.inr k3,I)]) q;have g3:=r3.rehide (o:=.dK [(.inr k1,U),(.inr k2,O),(.inr k3,I)]) q;obtain ⟨x5,R5,r5⟩:=Qjg (ps:=[(.inr k1,a1),(.inr k2,a2),(.inr k3,a3)]) R y (R3.rehide q) q hp Jb ⟨rfl,RepL.cons g1 (RepL.cons g2 (RepL.cons g3 RepL.nil))⟩;exact h _ _ x5 R5 _ r5
@[simp] theorem Qh4 (Γ:Gam) (st:Q2):Qba k1 k2 k3 m1 m2 m3 Γ st=(m1 Γ st).bind fun G z=>(m2 Γ z).bind fun p2 q=>(m3 Γ q).bind fun B j=>.ok (.ref j.length) (j ++ [.dic [(.inr k1,G),(.inr k2,p2),(.inr k3,B)]]):=rfl
end
def Qae (st:Q2):PV->Option (List (Key × PV))
 | .ref i=>match st[i]? with
  | some (.dic kvs)=>some kvs
  | some (.frd kvs)=>some kvs
  | _=>none
 | _=>none
theorem Qkj {H:Hp} {ρ:Tk} {st:Q2} {p:PV} {v:V} {kvs:List (Key × PV)} (R:Rel H ρ st) (r:Rep H ρ p v) (e:Qae st p=some kvs):∃ i a vs,p=.ref i/\v=.ref a/\ρ.tr[i]?=some a/\Rd H a (.dK vs)/\RepD H ρ kvs vs:=by
 cases p with
 | ref i=>
  obtain ⟨a,B,rfl⟩:=r;unfold Qae at e;cases z:st[i]? with
  | none=>simp only [z] at e; cases e
  | some c=>
   simp only [z] at e;cases c with
   | dic q=>
    cases e;obtain ⟨b,vs,j,G,rd⟩:=R.dic z;rw [B] at j;cases j;exact ⟨i,a,vs,rfl,rfl,B,.inl G,rd⟩
   | frd q=>
    cases e;obtain ⟨b,vs,o,j,G,rd⟩:=R.frd z;rw [B] at j;cases j;exact ⟨i,a,vs,rfl,rfl,B,.inr ⟨o,G⟩,rd⟩
   | lst xs=>cases e
   | dtp xs=>cases e
   | obj C xs=>cases e
 | _=>cases e
theorem DGet.kr {H:Hp} {a:aA} {kvs:List (Key × V)} {k:Key} (e:Rd H a (.dK kvs)):DGet H a (kV k) (zc kvs k):=.inl ⟨kvs,k,e,rfl,rfl⟩
section
variable {X:Cx} {E:XK} {pos dpos tpos:Pos} {e i o k:aD} {m mi mo mk:ME}
def Qyf (neg:Bool):OP:=fun st p q=>match Qae st q,Qk3 p with
 | some kvs,some k=>.ok (.bl ((Q2c kvs k).isSome != neg)) st
 | _,_=>.stuck
def Q5m (st:Q2) (p q:PV):Res PV:=match Qae st p,Qk3 q with
 | some kvs,some k=>match Q2c kvs k with
  | some v=>.ok v st
  | none=>.stuck
 | _,_=>.stuck
def Wx (mo mi:ME):ME:=fun Γ st=>(mo Γ st).bind fun p st1=>(mi Γ st1).bind fun q st2=>Q5m st2 p q
theorem Vj (hu:X.A.units + 1 < aa) (ho:SimE X E o mo) (hi:SimE X E i mi) (hs:Qqa i):SimE X E (.Subscript o i pos) (Wx mo mi):=
 ⟨fun Γ σ H ρ st Q R G h=>WE.of (Qfc hu Yu Yu hs) (ho.use R G h.bind fun p z H1 ρ1 v1 x1 Y O Z h1=>hi.use Y O h1.bind fun q J H2 I v2 B R2 G2 r2 h2=>by
  unfold Q5m at h2
  split at h2
  ·rename_i kvs k e1 e2
   split at h2
   ·rename_i w e3;obtain ⟨n,a,vs,rfl,rfl,_,hb,rd⟩:=Qkj R2 (Z.ext B) e1;have U:=Qn0 e2 r2;subst U;rcases Qcc rd k with ⟨a1,_⟩ | ⟨p,v,a1,j,a3⟩
    ·rw [a1] at e3; cases e3
    ·rw [a1] at e3;cases e3;exact ⟨a,v,rfl,by have:=DGet.kr (k:=k) hb; rwa [j] at this,now R2 h2 a3⟩
   ·exact h2.elim
  ·exact h2.elim)⟩
end
section
variable {X:Cx} {E:XK} {pos dpos tpos:Pos} {e i o k:aD} {m mi mo mk:ME} {tg:aD}
end
section
variable {X:Cx} {E:XK}
end
end Sm
namespace Sm
open PySem PySem.Spec PyProof.Rows L2
section
variable {X:Cx} {E:XK}
end
end Sm
namespace Sm
open PySem PySem.Spec L2
section
variable {X:Cx} {E:XK} {pos apos tp:Pos} {e:aD} {m:ME} {elts:List aD} {kt:Nat}
end
section
variable {X:Cx} {E:XK} {pos dpos tpos:Pos} {e i o k:aD} {m mi mo mk:ME}
end
section
variable {X:Cx} {E:XK}
end
section
variable {X:Cx} {E:XK} {a:aD} {ma:ME} {pos:Pos}
end
end Sm
namespace Sm
open PySem PySem.Spec L2 SeqAt
section
variable {X:Cx} {E:XK}
variable {o:aD} {mo:ME} {apos cpos:Pos}
end
end Sm
namespace Sm
open PySem PySem.Spec L2 SeqAt
section
variable {X:Cx} {E:XK}
variable {e o i:aD} {m mo mi:ME} {pos tpos:Pos}
end
end Sm
namespace L2
open PySem PySem.Spec PyProof.Rows
end L2
namespace Sm
open PySem PySem.Spec PyProof.Rows L2
section
variable {X:Cx} {E:XK} {pos:Pos} {e:aD} {m:ME}
end
end Sm
namespace Sm
open PySem PySem.Spec L2
section
variable {X:Cx} {E:XK} {o:aD} {mo:ME} {apos cpos:Pos} {to:TE}
theorem Qs0 (J:PE X o to) (j:ag o "clear" X.env (aK o X.env)=aK o X.env:=by rfl) (z:(apos.endLine == cpos.line)=true:=by rfl):PE X (.Call (.Attribute o "clear" apos) [] [] cpos)
  (fun σ H Q=>to σ H fun x H1=>(tyV X.K "list" x H1/\WM X "list.clear" x [] H1 Q)\/(tyV X.K "dict" x H1/\WM X "dict.clear" x [] H1 Q)):=by
 intro pins s σ H Q I h;refine wpAny_Call_method0_late j z (thn (J pins s σ H _ I h) fun v s1 ⟨x,H1,G,B,q⟩=>?_)
 rcases q with ⟨ty,q1⟩ | ⟨ty,q1⟩
 ·obtain ⟨h1,h2⟩:=Qds G B ty;exact ⟨"list", "list.clear",ez,PySem.F.slot_list_clear,PySem.F.type_list_clear,h1,h2,Calls.callWith_builtin rfl (gR (Qsg pins s1 σ H1 x [] v [] Q G B .nil q1))⟩
 ·obtain ⟨h1,h2⟩:=Qds G B ty;exact ⟨"dict", "dict.clear",gE,gG,PySem.F.type_dict_clear,h1,h2,Calls.callWith_builtin rfl (gR (Qsg pins s1 σ H1 x [] v [] Q G B .nil q1))⟩
def Qek (mo:ME):ME:=fun Γ st=>(mo Γ st).bind fun p st1=>match p with
 | .ref i=>match st1[i]? with
  | some (.lst _)=>.ok .non (st1.set i (.lst []))
  | some (.dic _)=>.ok .non (st1.set i (.dic []))
  | _=>.stuck
 | _=>.stuck
theorem Qip (ho:SimE X E o mo) (q:ag o "clear" X.env (aK o X.env)=aK o X.env:=by rfl) (z:(apos.endLine == cpos.line)=true:=by rfl):SimE X E (.Call (.Attribute o "clear" apos) [] [] cpos) (Qek mo):=
 ⟨fun Γ σ H ρ st Q R G h=>WE.of (Qs0 Yu q z) (ho.use R G h.bind fun p j H1 ρ1 v x1 I G1 J h1=>by
  split at h1
  ·rename_i i
   split at h1
   ·rename_i xs e;have el:yh j (.ref i)=some xs:=Xt e;obtain ⟨a,vs,rfl,Z,_⟩:=Q3z I J el;refine .inl ⟨.inl ⟨rfl,vs,.inl Z⟩,ms_clear.run (E:=E) H1 ρ1 j (.ref i) [] _ [] Q I J rfl ?_⟩;have:Q6b j (.ref i) []=.ok .non (j.set i (.lst [])):=by
     simp only [Q6b,chg,e]
    rw [this]; exact h1
   ·rename_i kvs e;obtain ⟨a,O,rfl⟩:=J;obtain ⟨b,vs,U,B,rd⟩:=I.dic e;rw [O] at U;cases U;refine .inr ⟨.inr (.inr (.inl ⟨rfl,.inl ⟨vs,B⟩⟩)),WM.of Qgz ⟨a,vs,rfl,rfl,B,?_⟩⟩;have Y:Ext H1 ρ1 (upd H1 a (.dK [])) ρ1:=Ext.put (D2 O) B;exact h1 _ ρ1 Y (I.putC O B ⟨_,Jb,rfl,rfl⟩) _ rfl
   ·exact h1.elim
  ·exact h1.elim)⟩
end
section
variable {X:Cx}
end
def yw (f:Str) (p:PV):List (Str × PV)->List (Str × PV)
 | []=>[(f,p)]
 | (g,x) :: r=>if g=f then (g,p) :: r else (g,x) :: yw f p r
section
variable {H:Hp} {ρ:Tk}
theorem Qa2 {κ:Type} {fs:List (κ × PV)} {vs:List (κ × V)} {g:κ} {x:PV}:RepD H ρ ((g,x) :: fs) vs->∃ v r,vs=(g,v) :: r/\Rep H ρ x v/\RepD H ρ fs r:=fun ⟨h1,h2⟩=>by
 cases vs with
 | nil=>cases h1
 | cons a r=>
  obtain ⟨k,v⟩:=a;simp only [F2,List.cons.injEq] at h1;obtain ⟨u,t,e,j,q⟩:=h2;cases e;exact ⟨v,r,by rw [h1.1],j,h1.2,q⟩
theorem Q4k {κ:Type} {fs:List (κ × PV)} {vs:List (κ × V)} {g:κ} {x:PV} {v:V} (h:Rep H ρ x v) (r:RepD H ρ fs vs):RepD H ρ ((g,x) :: fs) ((g,v) :: vs):=
 ⟨by simp only [F2,r.1],v,_,rfl,h,r.2⟩
theorem Qa1 {f:Str} {p:PV} {v:V} (h:Rep H ρ p v):∀ {fs:List (Str × PV)} {vs:List (Str × V)},RepD H ρ fs vs->RepD H ρ (yw f p fs) (Q07 f v vs)
 | [],vs,r=>by
  have:vs=[]:=by have:=r.1; simpa using this
  subst this;exact Q4k h ⟨rfl,rfl⟩
 | (g,x) :: fs,vs,r=>by
  obtain ⟨u,t,rfl,z,j⟩:=Qa2 r;rw [yw,Q07]
  by_cases q:g=f
  ·rw [bJ q,bJ q]; exact Q4k h j
  ·rw [bK q,bK q]; exact Q4k z (Qa1 h j)
theorem Q21 {f:Str}:∀ {fs:List (Str × PV)} {vs:List (Str × V)},RepD H ρ fs vs->(∀ p,fs.lookup f=some p->∃ v,vs.lookup f=some v/\Rep H ρ p v)/\(fs.lookup f=none->vs.lookup f=none)
 | [],vs,r=>by
  have:vs=[]:=by have:=r.1; simpa using this
  subst this;exact ⟨fun p e=>(by cases e),fun _=>rfl⟩
 | (g,x) :: fs,vs,r=>by
  obtain ⟨u,t,rfl,j,G⟩:=Qa2 r;obtain ⟨B,z⟩:=Q21 (f:=f) G;rw [D9,D9];cases q:f == g with
  | true=>exact ⟨fun p e=>by cases e; exact ⟨u,rfl,j⟩,fun e=>(by cases e)⟩
  | false=>exact ⟨B,z⟩
end
def Q2n (C:aA) (st:Q2) (p:PV):Option (Nat × List (Str × PV)):=match p with
 | .ref i=>match st[i]? with
  | some (.obj C' fs)=>if C'=C then some (i,fs) else none
  | _=>none
 | _=>none
theorem Q3p {C:aA} {H:Hp} {ρ:Tk} {st:Q2} {p:PV} {v:V} {i:Nat} {fs:List (Str × PV)} (R:Rel H ρ st) (r:Rep H ρ p v) (e:Q2n C st p=some (i,fs)):∃ a vs dx,p=.ref i/\v=.ref a/\ρ.tr[i]?=some a/\H a=some (.ins C dx vs)/\RepD H ρ fs vs:=by
 unfold Q2n at e
 split at e
 ·rename_i j
  split at e
  ·rename_i J fs' z
   split at e
   ·rename_i G;cases e;subst G;obtain ⟨a,B,rfl⟩:=r;obtain ⟨b,vs,dx,q,I,rd⟩:=R.obj z;rw [B] at q;cases q;exact ⟨a,vs,dx,rfl,rfl,B,I,rd⟩
   ·cases e
  ·cases e
 ·cases e
section
variable {X:Cx} {E:XK} {o e:aD} {es:List aD} {mo m:ME} {mr:Gam->Q2->Res (List PV)} {C:aA} {f:Str} {pos pos' apos p:Pos}
def Uy (C:aA) (f:Str) (mo:ME):ME:=fun Γ st=>(mo Γ st).bind fun p st1=>match Q2n C st1 p with
 | some (_,fs)=>match fs.lookup f with
  | some q=>.ok q st1
  | none=>.stuck
 | none=>.stuck
theorem Ub (cl:Cls X.K C) (n:NoAttr X.K C f) (Y:SimE X E o mo) (B:ag o f X.env (aK o X.env)=aK o X.env:=by rfl):SimE X E (.Attribute o f pos) (Uy C f mo):=
 ⟨fun Γ σ H ρ st Q R G h=>WE.of (Qrz Yu B) (Y.use R G h.bind fun p I H1 ρ1 v x1 j G1 z h1=>by
  split at h1
  ·rename_i i fs O
   split at h1
   ·rename_i q el;obtain ⟨a,vs,dx,rfl,rfl,ea,U,rd⟩:=Q3p j z O;obtain ⟨u,J,Z⟩:=(Q21 rd).1 q el;exact ⟨a,C,dx,vs,u,rfl,U,cl,n,J,now j h1 Z⟩
   ·exact h1.elim
  ·exact h1.elim)⟩
def x8 (C:aA) (f:Str) (mo m:ME):MS:=fun Γ st=>(m Γ st).sbind fun p st1=>(mo Γ st1).sbind fun q st2=>match Q2n C st2 q with
 | some (i,fs)=>if fs.length < 1000 then .nx Γ (st2.set i (.obj C (yw f p fs))) else .stuck
 | none=>.stuck
theorem Q00 (cl:Cls X.K C) (n:NoAttr X.K C f) (he:SimE X E e m) (ho:SimE X E o mo) (hs:swapsWith e (some (.Attribute o f pos')) pos.line X.env=pure false:=by rfl):SimS X E (.Assign [.Attribute o f pos'] e pos) (x8 C f mo m):=
 ⟨fun Γ σ H ρ st D R G h=>WS.of (Qrp Yu Yu hs) (he.use R G h.bind fun p O H1 ρ1 z x1 R1 G1 r1 h1=>ho.use R1 G1 h1.bind fun ov Z H2 j x Y R2 J r2 h2=>by
  split at h2
  ·rename_i i fs U
   split at h2
   ·rename_i hl;obtain ⟨a,vs,dx,rfl,rfl,I,B,rd⟩:=Q3p R2 r2 U;have hm:=D2 I;have q:Ext H2 j (upd H2 a (.ins C dx (Q07 f z vs))) j:=Ext.put hm B;refine ⟨a,C,dx,vs,rfl,B,cl,n,by rw [<- rd.length]; exact hl,h2 σ _ j q (R2.putC I B ⟨_,⟨dx,Jb⟩,?_⟩) (J.ext q)⟩;exact (Qa1 (r1.ext Y) rd).ext q
   ·exact h2.elim
  ·exact h2.elim)⟩
structure MethS (P:aN) (w:aL) (K:bP) (mg:Str->Option aB) (base:Heap) (k:Nat) (C:aA) (x:Str) (n:Nat) (F:FN):Prop where
 ex:∃ (f:aA) (fd:aP) (ps:List Str),FnOk P w K mg base (CXD P w) k f fd ps (spF mg n F)/\Meth K C x f/\Binds K fd ps []/\ps.length=n
def xb (C:aA) (x:Str) (n:Nat) (F:FN) (mo:ME) (mr:ML):ME:=fun Γ st=>(mo Γ st).bind fun p st1=>match Q2n C st1 p with
 | some (_,fs)=>if fs.lookup x=none then (mr Γ st1).bind fun ps st2=>if ps.length + 1=n then F (p :: ps) st2 else .stuck else .stuck
 | none=>.stuck
theorem Q6a {pl:Sem Bool} {k n:Nat} {x:Str} {F:FN} (cl:Cls X.K C) (D:MethS X.prog X.w X.K X.mg X.base k C x n F) (hr:Room k X.A) (hx:jg (CXD X.prog X.w) X E) (ho:SimE X E o mo) (ha:SimA X E (e :: es) mr)
  (J:aO (e :: es) X.env=(false,aK e X.env) :: aO es X.env:=by rfl) (B:(aU pos (aO es X.env)).any (·.1)=false:=by rfl)
  (ht:aK (.Call (.Attribute o x apos) (e :: es) [] pos) X.env=(do
   let ov <- aK o X.env
   standAt apos.atName
   let (f,first) <- ai [ov] (getMethod ov x pl)
   callWith pos f first (aU pos (aO (e :: es) X.env)) (backToKw pos (keywordEach [] X.env))):=by rfl):SimE X E (.Call (.Attribute o x apos) (e :: es) [] pos) (xb C x n F mo mr):=by
 obtain ⟨f,fd,ps,hF,hm,hb,hl⟩:=D.ex;exact ⟨fun Γ σ H ρ st Q R G h=>WE.of (Qnj Yu cl hm hF hr hb .nil hx Q3j J B ht) (ho.use R G h.bind fun p a2 H1 ρ1 v x1 O G1 U h1=>by
  split at h1
  ·rename_i i fs eo
   split at h1
   ·rename_i Z;obtain ⟨a,vs,dx,rfl,rfl,ea,j,rd⟩:=Q3p O U eo;refine ⟨a,dx,vs,rfl,j,(Q21 rd).2 Z,?_⟩;refine ha.use O G1 h1.bind fun qs z H2 q us x2 R2 G2 Y h2=>?_
    by_cases I:qs.length + 1=n
    ·rw [bJ I] at h2;show spF X.mg n F (.ref a :: (us ++ [])) H2 Q E;rw [bq];exact ⟨by rw [D8,<- Y.length]; exact I,q,z,_,R2,RepL.cons (U.ext x2) Y,h2⟩
    ·rw [bK I] at h2; exact h2.elim
   ·exact h1.elim
  ·exact h1.elim)⟩
theorem Q3d {pl:Sem Bool} {k n:Nat} {x:Str} {F:FN} (cl:Cls X.K C) (D:MethS X.prog X.w X.K X.mg X.base k C x n F) (hr:Room k X.A) (O:jg (CXD X.prog X.w) X E) (ho:SimE X E o mo)
  (Z:aK (.Call (.Attribute o x apos) [] [] pos) X.env=(do
   let ov <- aK o X.env
   standAt apos.atName
   let (f,first) <- ai [ov] (getMethod ov x pl)
   callWith pos f first (aU pos (aO [] X.env)) (backToKw pos (keywordEach [] X.env))):=by rfl):SimE X E (.Call (.Attribute o x apos) [] [] pos) (xb C x n F mo Q9):=by
 obtain ⟨f,fd,ps,U,hm,hb,hl⟩:=D.ex;exact ⟨fun Γ σ H ρ st Q R G h=>WE.of (Qjb Yu cl hm U hr hb .nil O Z) (ho.use R G h.bind fun p j H1 ρ1 v x1 B G1 I h1=>by
  split at h1
  ·rename_i i fs Y
   split at h1
   ·rename_i J;obtain ⟨a,vs,dx,rfl,rfl,ea,q,rd⟩:=Q3p B I Y;refine ⟨a,dx,vs,rfl,q,(Q21 rd).2 J,?_⟩;have h1:Acc X.mg E H1 ρ1 (QV Q) (if ([]:List PV).length + 1=n then F [.ref i] j else .stuck):=h1
    by_cases z:([]:List PV).length + 1=n
    ·rw [bJ z] at h1;show spF X.mg n F (.ref a :: ([] ++ [])) H1 Q E;exact ⟨z,ρ1,j,_,B,RepL.cons I RepL.nil,h1⟩
    ·rw [bK z] at h1; exact h1.elim
   ·exact h1.elim
  ·exact h1.elim)⟩
structure MakeS (P:aN) (w:aL) (K:bP) (mg:Str->Option aB) (base:Heap) (k:Nat) (C:aA) (x:Str) (n:Nat) (F:FN):Prop where
 ex:∃ (f:aA) (fd:aP) (ps:List Str),FnOk P w K mg base (CXD P w) k f fd ps (spF mg n F)/\Mk K C f/\mg x=some (.ref C)/\Binds K fd ps []/\ps.length=n
def Qqn (C : aA) (n : Nat) (F : FN) (mr : ML) : ME := fun Γ st => (mr Γ st).bind fun ps st1 => if ps.length + 1 = n then (F (.ref st1.length :: ps) (st1 ++ [.obj C []])).bind fun v st2 => match v with
  | .non=>.ok (.ref st1.length) st2
  | _=>.stuck
 else .stuck
theorem Qf5 {k n:Nat} {x:Str} {F:FN} (D:MakeS X.prog X.w X.K X.mg X.base k C x n F) (hr:Room (k + 1) X.A) (hx:jg (CXD X.prog X.w) X E) (hg:Gl X x) (ha:SimA X E (e :: es) mr) (U:(x == ("__debug__" : Str))=false:=by decide)
  (he:aO (e :: es) X.env=(false,aK e X.env) :: aO es X.env:=by rfl) (a2:(aU pos (aO es X.env)).any (·.1)=false:=by rfl):SimE X E (.Call (.Name x p) (e :: es) [] pos) (Qqn C n F mr):=by
 obtain ⟨f,fd,ps,hF,hm,hc,hb,hl⟩:=D.ex;exact ⟨fun Γ σ H ρ st Q R G h=>WE.of (Qnk hm hF hr hg hc hb .nil hx Q3j U he a2) (ha.use R G h.bind fun O j H1 ρ1 us x1 R1 G1 r1 h1=>by
  intro y dx hy hd a3
  by_cases hq:O.length + 1=n
  ·rw [bJ hq] at h1;have y1:Ext H1 ρ1 (upd H1 dx (.own y)) ρ1:=Ext.add hd;have B:(upd H1 dx (.own y)) y=none:=by rw [Qh (fun z=>a3 z.symm)]; exact hy
   have J:Ext (upd H1 dx (.own y)) ρ1 (upd (upd H1 dx (.own y)) y (.ins C dx [])) (ρ1.add y):=Ext.addT B;have R2:Rel (upd (upd H1 dx (.own y)) y (.ins C dx [])) (ρ1.add y) (j ++ [.obj C []]):=(R1.add hd).addC B ⟨[],⟨dx,Jb⟩,rfl,rfl⟩;have q:(ρ1.add y).tr[j.length]?=some y:=by
    show (ρ1.tr ++ [y])[j.length]?=some y;rw [<- R1.len,D1 (O7 _),dE]; rfl
   show spF X.mg n F (.ref y :: (us ++ [])) _ _ E;rw [bq];refine ⟨by rw [D8,<- r1.length]; exact hq,ρ1.add y,j ++ [.obj C []],.ref j.length :: O,R2,RepL.cons ⟨y,q,rfl⟩ (r1.ext (y1.trans J)),?_⟩;cases Z:F (.ref j.length :: O) (j ++ [.obj C []]) with
   | stuck=>rw [Z] at h1; exact h1.elim
   | exc z st'=>
    rw [Z] at h1;exact fun C' dv H' ρ' m I R' xf=>h1 C' dv H' ρ' m ((y1.trans J).trans I) R' xf
   | ok v a4=>
    rw [Z] at h1;intro H' ρ' I R' w Y;rw [J6] at h1;cases v with
    | non=>
     refine ⟨Y,h1 H' ρ' ((y1.trans J).trans I) R' _ ⟨y,?_,rfl⟩⟩;obtain ⟨t,et⟩:=I.pre;rw [<- et,O6 (O1.mp q).1];exact q
    | _=>exact h1.elim
  ·rw [bK hq] at h1; exact h1.elim)⟩
end
@[simp] theorem Qpc (C:aA) (f:Str) (mo:ME) (Γ:Gam) (st:Q2):Uy C f mo Γ st=(mo Γ st).bind fun p j=>match Q2n C j p with
 | some (_,fs)=>match fs.lookup f with
  | some q=>.ok q j
  | none=>.stuck
 | none=>.stuck:=rfl
@[simp] theorem Qcz (C:aA) (f:Str) (mo m:ME) (Γ:Gam) (st:Q2):x8 C f mo m Γ st=(m Γ st).sbind fun p z=>(mo Γ z).sbind fun q j=>match Q2n C j q with
 | some (i,fs)=>if fs.length < 1000 then .nx Γ (j.set i (.obj C (yw f p fs))) else .stuck
 | none=>.stuck:=rfl
@[simp] theorem Qjw (C:aA) (x:Str) (n:Nat) (F:FN) (mo:ME) (mr:ML) (Γ:Gam) (st:Q2):xb C x n F mo mr Γ st=(mo Γ st).bind fun p j=>match Q2n C j p with
 | some (_,fs)=>if fs.lookup x=none then (mr Γ j).bind fun ps q=>if ps.length + 1=n then F (p :: ps) q else .stuck else .stuck
 | none=>.stuck:=rfl
section
variable {X:Cx} {E:XK}
theorem Qht:j6 X (.type "int") (fun xs H Q=>∃ b:Bool,xs=[.bl b]/\Q (.int (if b then 1 else 0)) H):=by
 intro pins s σ H xs us Q I r h;obtain ⟨b,rfl,q⟩:=h;obtain ⟨u,rfl,j⟩:=Q2k r;cases j;exact call_int_bool ⟨.int (if b then 1 else 0),H,I.tok _,⟨_,rfl⟩,q⟩
def Qfz:CF:=fun st ps=>match ps with
 | [.bl b]=>.ok (.int (if b then 1 else 0)) st
 | _=>.stuck
theorem Qq0:CallS X E (.type "int") Qfz:=⟨fun H ρ st ps xs Q R j h=>by
 unfold Qfz at h
 split at h
 ·obtain ⟨v,rfl,r⟩:=Vb j;cases r;exact WC.of Qht ⟨_,rfl,now R h rfl⟩
 ·exact h.elim⟩
@[simp] theorem Qw7 (st:Q2) (b:Bool):Qfz st [.bl b]=.ok (.int (if b then 1 else 0)) st:=rfl
end
def Qb3 (x:Str):V:=if x = "keep" then .int 2 else if x = "fall" then .int 2 else if x = "send" then .int 2 else if x = "come" then .int 3 else .non
structure PartsO (P:aN) (w:aL) (K:bP) (mg:Str->Option aB):Prop where
 ex:∃ (a:aA) (o:Obj) (es:Array DictEntry) (ep:Nat),mg "PARTS_OF_OTHER_DEED" = some (.ref a)/\K.lookup a=some o/\o.cls=.type "dict" /\ o.ExactDict/\o.data=.dict es ep/\KeysOf (J4 P w) es/\(a == af)=false/\∀ x,RelV (Qb3 x) ((findBy (J4 P w).is es (.inr x)).getD .none)
def jv (m:ME):ME:=fun Γ st=>(m Γ st).bind fun p st1=>match p with
 | .str x=>if x = "keep" then .ok (.int 2) st1 else if x = "fall" then .ok (.int 2) st1 else if x = "send" then .ok (.int 2) st1 else if x = "come" then .ok (.int 3) st1 else .ok .non st1
 | _=>.stuck
section
variable {X:Cx} {E:XK} {pos:Pos} {e:aD} {m:ME}
theorem Qga {p apos cpos:Pos} (PO:PartsO X.prog X.w X.K X.mg) (U:Gl X "PARTS_OF_OTHER_DEED") (he:SimE X E e m)
  (base:ag (.Name "PARTS_OF_OTHER_DEED" p) "get" X.env (aK (.Name "PARTS_OF_OTHER_DEED" p) X.env)=aK (.Name "PARTS_OF_OTHER_DEED" p) X.env:=by rfl)
  (few:((aU cpos (aO [e] X.env)).all (fun x=>!x.1) && (backToKw cpos (keywordEach [] X.env)).all (fun x=>x.1.isSome)
   && decide (([e]:List aD).length + ([]:List Keyword).length + (if ([]:List Keyword).isEmpty then 0 else 1) < 30))=true:=by rfl)
  (line:(apos.endLine == cpos.line)=true:=by rfl) (trees:aU cpos (aO [e] X.env)=[(false,aK e X.env)]:=by rfl) :
  SimE X E (.Call (.Attribute (.Name "PARTS_OF_OTHER_DEED" p) "get" apos) [e] [] cpos) (jv m):=by
 obtain ⟨a,o,es,ep,pm,pl,Y,pe,pd,Z,ps,B⟩:=PO.ex;refine ⟨fun Γ σ H ρ st Q R G h=>WE.of (Qci (val:=Qb3) U pm pl Y pe pd Z ps B Yu (by decide) base few line trees) (he.use R G h.bind fun q j H1 ρ1 v x1 z G1 r1 h1=>?_)⟩;cases q with
 | str x=>
  cases r1;have h1:Acc X.mg E H1 ρ1 (QV Q) (if x = "keep" then .ok (.int 2) j else if x = "fall" then .ok (.int 2) j else if x = "send" then .ok (.int 2) j else if x = "come" then .ok (.int 3) j else .ok .non j):=h1;refine ⟨x,rfl,?_⟩;unfold Qb3
  by_cases a1:x = "keep"
  ·rw [bJ a1] at h1 ⊢; exact now z h1 rfl
  ·rw [bK a1] at h1 ⊢
   by_cases I:x = "fall"
   ·rw [bJ I] at h1 ⊢; exact now z h1 rfl
   ·rw [bK I] at h1 ⊢
    by_cases O:x = "send"
    ·rw [bJ O] at h1 ⊢; exact now z h1 rfl
    ·rw [bK O] at h1 ⊢
     by_cases J:x = "come"
     ·rw [bJ J] at h1 ⊢; exact now z h1 rfl
     ·rw [bK J] at h1 ⊢;exact now z h1 rfl
 | _=>exact h1.elim
end
section
theorem Qgq {P:aN} {w:aL} {K:bP} {mg:Str->Option aB} {J:aA} {t1 t2 t3 I j B G q:Tok} {ep:Nat} (hm:mg "PARTS_OF_OTHER_DEED" = some (.ref J))
  (lk:K.lookup J=some ⟨.type "dict",none,.dict #[⟨PyData.keyHash w.params "keep",.str "keep" t1,.int 2 j⟩,⟨PyData.keyHash w.params "fall",.str "fall" t2,.int 2 B⟩,⟨PyData.keyHash w.params "send",.str "send" t3,.int 2 G⟩,⟨PyData.keyHash w.params "come",.str "come" I,.int 3 q⟩] ep,#[]⟩) (hp:(J == af)=false):PartsO P w K mg:=by
 refine ⟨J,_,_,_,hm,lk,rfl,⟨rfl,rfl,rfl⟩,rfl,fun e he=>?_,hp,fun x=>?_⟩
 ·simp only [gQ,E3,cW,or_false] at he;rcases he with rfl | rfl | rfl | rfl
  ·exact ⟨.inr "keep",by simp [J4,jh,bj],rfl⟩
  ·exact ⟨.inr "fall",by simp [J4,jh,bj],rfl⟩
  ·exact ⟨.inr "send",by simp [J4,jh,bj],rfl⟩
  ·exact ⟨.inr "come",by simp [J4,jh,bj],rfl⟩
 ·unfold Qb3
  by_cases e1:x = "keep"
  ·rw [bJ e1]; subst e1;have:findBy (J4 P w).is #[⟨PyData.keyHash w.params "keep",.str "keep" t1,.int 2 j⟩,⟨PyData.keyHash w.params "fall",.str "fall" t2,.int 2 B⟩,⟨PyData.keyHash w.params "send",.str "send" t3,.int 2 G⟩,⟨PyData.keyHash w.params "come",.str "come" I,.int 3 q⟩] (.inr "keep")=some (.int 2 j):=by first | rfl | decide +kernel
   rw [this]; exact ⟨_,rfl⟩
  ·rw [bK e1]
   by_cases e2:x = "fall"
   ·rw [bJ e2]; subst e2;have:findBy (J4 P w).is #[⟨PyData.keyHash w.params "keep",.str "keep" t1,.int 2 j⟩,⟨PyData.keyHash w.params "fall",.str "fall" t2,.int 2 B⟩,⟨PyData.keyHash w.params "send",.str "send" t3,.int 2 G⟩,⟨PyData.keyHash w.params "come",.str "come" I,.int 3 q⟩] (.inr "fall")=some (.int 2 B):=by first | rfl | decide +kernel
    rw [this]; exact ⟨_,rfl⟩
   ·rw [bK e2]
    by_cases e3:x = "send"
    ·rw [bJ e3]; subst e3;have:findBy (J4 P w).is #[⟨PyData.keyHash w.params "keep",.str "keep" t1,.int 2 j⟩,⟨PyData.keyHash w.params "fall",.str "fall" t2,.int 2 B⟩,⟨PyData.keyHash w.params "send",.str "send" t3,.int 2 G⟩,⟨PyData.keyHash w.params "come",.str "come" I,.int 3 q⟩] (.inr "send")=some (.int 2 G):=by first | rfl | decide +kernel
     rw [this]; exact ⟨_,rfl⟩
    ·rw [bK e3]
     by_cases O:x = "come"
     ·rw [bJ O]; subst O;have:findBy (J4 P w).is #[⟨PyData.keyHash w.params "keep",.str "keep" t1,.int 2 j⟩,⟨PyData.keyHash w.params "fall",.str "fall" t2,.int 2 B⟩,⟨PyData.keyHash w.params "send",.str "send" t3,.int 2 G⟩,⟨PyData.keyHash w.params "come",.str "come" I,.int 3 q⟩] (.inr "come")=some (.int 3 q):=by first | rfl | decide +kernel
      rw [this]; exact ⟨_,rfl⟩
     ·rw [bK O];have U:¬ (bO "keep" = x):=fun z=>e1 z.symm
      have a2:¬ (bO "fall" = x):=fun z=>e2 z.symm
      have Z:¬ (bO "send" = x):=fun z=>e3 z.symm
      have Y:¬ (bO "come" = x):=fun z=>O z.symm
      have:findBy (J4 P w).is #[⟨PyData.keyHash w.params "keep",.str "keep" t1,.int 2 j⟩,⟨PyData.keyHash w.params "fall",.str "fall" t2,.int 2 B⟩,⟨PyData.keyHash w.params "send",.str "send" t3,.int 2 G⟩,⟨PyData.keyHash w.params "come",.str "come" I,.int 3 q⟩] (.inr x)=none:=by
       simp [findBy,J4,jh,bj,U,a2,Z,Y]
      rw [this]; rfl
end
def Qcx (cn fld : Str) (i n : Nat) (F : FN) (mr : ML) : MS := fun Γ st => (mr Γ st).sbind fun ps st1 => if ps.length = n /\ i < Γ.length then (match F ps st1 with
  | .ok _ st2=>.nx Γ st2
  | .exc x st2=>if x.cls=cn then (match x.fs with | some (f,.int z)=>if f=fld then .rt (.int z) st2 else .stuck | _=>.stuck) else .stuck
  | .stuck=>.stuck) else .stuck
section
variable {X:Cx} {E:XK}
theorem Qmn {k n i:Nat} {g cn nm fld:Str} {F:FN} {J:aA} {p cpos B np a5 apos q Z pos:Pos} {e:aD} {es:List aD} {mr:ML} (D:DefS X.prog X.w X.K X.mg X.base k g n F) (hr:Room k X.A) (ha:SimA X.nox E (e :: es) mr)
  (hN:X.N.Nodup) (a6:X.mg cn=some (.ref J)) (b2:dA X.K (.ref J) (.ref J)=some true) (b3:XGet X.K J fld) (hi:X.N[i]?=some nm:=by rfl) (hk:X.env.scope.names.lookup nm=some .local:=by rfl)
  (j:∀ a,PSs (xy X a) [.Return (some (.Attribute (.Name nm a5) fld apos)) q] (Qu1 (tXF X.K fld (Qr5 i))):=by exact fun _=>Qb2 (Qj2 (Qni _ (pv _))))
  (hg:Gl X g:=by rfl) (a7:Gl X cn:=by rfl) (b5:∀ b,b∉X.ex:=by intro b z; exact absurd (show b∈([]:List aA) from z) (by simp)) (b6:X.stack=X.env :: X.outer:=by rfl) (a9:X.env.frame=some X.env.locals:=by rfl)
  (b0:(g == ("__debug__" : Str))=false:=by decide) (a2:(cn == ("__debug__" : Str))=false:=by decide) (he:aO (e :: es) X.env=(false,aK e X.env) :: aO es X.env:=by rfl) (b4:(aU cpos (aO es X.env)).any (·.1)=false:=by rfl)
  (a8:swapsWith (.Call (.Name g p) (e :: es) [] cpos) none B.line X.env=pure false:=by rfl) :
  SimS X E (.Try [.Expr (.Call (.Name g p) (e :: es) [] cpos) B] [.ExceptHandler (some (.Name cn np)) (some nm) [.Return (some (.Attribute (.Name nm a5) fld apos)) q] Z] [] [] pos) (Qcx cn fld i n F mr):=by
 obtain ⟨f,fd,ps,hF,hm,b1,hb,hl⟩:=D.ex;exact ⟨fun Γ σ H ρ st D R G h=>WS.of (Qj1 hF hr hm b1 hb Q3j hN hi hk j a6 hg a7 b5 b6 a9 b0 a2 he b4 a8) (ha.use R G h.bind fun qs O H1 ρ1 us x1 R1 G1 r1 h1=>by
  by_cases hq:qs.length=n/\i < Γ.length
  ·rw [bJ hq] at h1;refine ⟨by rw [<- r1.length]; exact hq.1,ρ1,O,qs,R1,r1,?_⟩;cases er:F qs O with
   | stuck=>rw [er] at h1; exact h1.elim
   | ok v a3=>
    rw [er] at h1;exact fun H' ρ' x' R' w _=>h1 σ H' ρ' x' R' (G1.ext x')
   | exc x a3=>
    rw [er] at h1;have h2:AccS X.mg E D H1 ρ1 (if x.cls=cn then (match x.fs with | some (f,.int z)=>if f=fld then .rt (.int z) a3 else .stuck | _=>.stuck) else .stuck):=h1
    clear h1
    by_cases hc:x.cls=cn
    ·rw [bJ hc] at h2
     split at h2
     ·rename_i f' z ef
      split at h2
      ·rename_i hf;subst hf;intro C dv H' ρ' Y x' R' xf;rw [hc,a6] at Y;cases Y;rw [ef] at xf;obtain ⟨dx,v,rfl,a4,_,rv⟩:=xf;have rv:v=.int z:=rv;subst rv;refine ⟨J,rfl,b2,fun a I=>?_⟩;have U:i < σ.length:=by rw [<- G1.1]; exact hq.2
       refine ⟨.ref a,by rw [E2 U],a,J,dx,z,[(f',.int z)],rfl,Jb,by rw [Qh (Qk a4 I)]; exact a4,by simp [bw],b3,?_⟩;exact h2 _ _ ρ' (x'.trans (Ext.add I)) (R'.add I) rfl
      ·exact h2.elim
     ·exact h2.elim
    ·rw [bK hc] at h2; exact h2.elim
  ·rw [bK hq] at h1; exact h1.elim)⟩
@[simp] theorem Qjv (cn fld:Str) (i n:Nat) (F:FN) (mr:ML) (Γ:Gam) (st:Q2):Qcx cn fld i n F mr Γ st=(mr Γ st).sbind fun ps q=>if ps.length=n/\i < Γ.length then (match F ps q with
  | .ok _ j=>.nx Γ j
  | .exc x j=>if x.cls=cn then (match x.fs with | some (f,.int z)=>if f=fld then .rt (.int z) j else .stuck | _=>.stuck) else .stuck
  | .stuck=>.stuck) else .stuck:=rfl
end
end Sm
namespace Sm
open PySem PySem.Spec PyProof.Rows L2
section
variable {X:Cx} {E:XK}
theorem Qji:OpR X (aW .FloorDiv) (rI (fun _ j=>0 < j/\j.natAbs.log2 < 8000) fun i j=>.int (i / j)):=opI fun i j _ _ _ _ _ z q=>by
 have h1:(0:Int) < j:=z.1;have h2:=z.2;refine floordiv_int (by omega) (by rw [fP i (by omega)]; exact q) (.inl (PyProof.noPylong_of_log2 ?_));omega
def Qfh:OP:=fun st p q=>match p,q with
 | .int a,.int b=>if 0 < b/\b.natAbs.log2 < 8000 then .ok (.int (a / b)) st else .stuck
 | _,_=>.stuck
theorem Qnt:OpS X E (aW .FloorDiv) Qfh:=⟨fun H ρ st p q x y Q R j B h=>by
 unfold Qfh at h
 split at h
 ·cases j; cases B
  split at h
  ·rename_i z;exact WO.of Qji ⟨_,_,rfl,rfl,z,now R h rfl⟩
  ·exact h.elim
 ·exact h.elim⟩
theorem Qgw (st:Q2) (a:Int) (m:Nat) (h1:0 < m) (h2:m < 2 ^ 8000):Qfh st (.int a) (.int m)=.ok (.int (a / m)) st:=by
 show (if 0 < (m:Int)/\(m:Int).natAbs.log2 < 8000 then _ else _)=_;rw [bJ ⟨by omega,by
  rw [Int.natAbs_natCast];exact (Nat.log2_lt (by omega)).mpr h2⟩]
end
end Sm
namespace Sm
open PySem PySem.Spec L2
structure AtS (K:bP) (mg:Str->Option aB) (name:Str) (st:aM) (ps:List Str) (f:aA) (fd:aP):Prop where
 F:Fun K name name st f fd
 m:mg name=some (.ref f)
 b:Binds K fd ps []
theorem J8 {K:bP} {mg:Str->Option aB} {h:Heap} {name:Str} {st:aM} {ps:List Str} {f:aA} {J:aB} {I an:Option aA} {B:Array (Option aB)} {kV q z j ct:aB} (X:K.In h) (G:h.Ns aQ mg)
  (a:bR K aQ name=some (some (.ref f))) (l:K.lookup f=some ⟨J,I,.func (bT name name (Qq st) (Qn st) (Q6 st) .none kV q z an j ct),B⟩) (c:bU K j name=true) (k:bS K (.ref f)=true)
  (b:∀ (kV q z:aB) (an:Option aA) (j ct:aB) (us:List aB),us.length=ps.length->bindArgs (bT name name (Qq st) (Qn st) (Q6 st) .none kV q z an j ct) ⟨us,[]⟩=pure (ps.zip us)) :
  AtS K mg name st ps f (bT name name (Qq st) (Qn st) (Q6 st) .none kV q z an j ct):=
 have F:=qh (st:=st) l c k
 ⟨F,bi X G a,F.binds b⟩
theorem AtS.def {P:aN} {w:aL} {K:bP} {mg:Str->Option aB} {base:Heap} {name:Str} {st:aM} {ps:List Str} {f:aA} {fd:aP} {k n:Nat} {F:FN} (a:AtS K mg name st ps f fd) (j:ps.length=n) (G:FnOk P w K mg base (CXD P w) k f fd ps (spF mg n F)):DefS P w K mg base k name n F:=
 ⟨f,fd,ps,G,a.m,a.F.kp,a.b,j⟩
def noL (K:bP):Bool:=K.all fun p=>match p.2.data with
 | .seq _ _=>(match p.2.cls with
  | .type n=>!(n == ("list" : Str))
  | _=>true)
 | _=>true
theorem Qem {K:bP} {a:aA} {o:Obj} (h:K.lookup a=some o):(a,o)∈K:=by
 induction K with
 | nil=>cases h
 | cons p K j=>
  obtain ⟨b,u⟩:=p;rw [D9] at h;cases e:a == b with
  | true=>
   rw [e] at h;have:a=b:=by simpa using e
   subst this;cases h;exact D4
  | false=>
   rw [e] at h;exact D0 _ (j h)
theorem Qse {K:bP} {a:aA} {o:Obj} {its:Array aB} {n:Nat} (j:noL K=true) (h:K.lookup a=some o) (q:o.cls=.type "list") (hd:o.data=.seq its n):False:=by
 have:=F7.mp j _ (Qem h);simp [q,hd] at this
theorem Qa0 {H:Hp} {ρ:Tk}:∀ ns:List Int,RepL H ρ (ns.map .int) (ns.map V.int)
 | []=>rfl
 | n :: ns=>⟨_,_,rfl,rfl,Qa0 ns⟩
theorem Qn1 (H:Hp):Rel H Tk.nil []:=⟨rfl,gS,fun a h=>(by cases h),fun a h=>(by cases h),fun i a c h=>(by simp [Tk.nil] at h)⟩
def Qaw (K:bP):Sp:=fun vs H Q _=>∃ (a:aA) (ns:List Int),vs=[.ref a]/\SqL K H a (ns.map V.int)/\ns.length<=63/\∀ H',Q (.bl true) H'
theorem Qpi {P:aN} {w:aL} {K:bP} {mg:Str->Option aB} {base:Heap} {CX:CXT} {k:Nat} {f:aA} {fd:aP} {ps:List Str} {q:FN} (U:noL K=true) (F:FnOk P w K mg base CX k f fd ps (spF mg 1 q)) (j:∀ ns:List Int,ns.length<=63->∃ st',q [.fro (ns.map .int)] []=.ok (.bl true) st'):FnOk P w K mg base CX k f fd ps (Qaw K):=F.imp fun vs H Q E ⟨a,ns,e,J,z,O⟩=>by
 subst e;obtain ⟨st',B⟩:=j ns z;have G:Rd H a (.lst (ns.map V.int)):=by
  rcases J with h | ⟨o,its,n,h1,h2,Y,I,_⟩
  ·exact h
  ·exact (Qse U h1 h2 I).elim
 refine ⟨rfl,Tk.nil,[],[.fro (ns.map .int)],Qn1 H,⟨_,_,rfl,⟨a,_,rfl,G,Tk.not_nil a,Qa0 ns⟩,rfl⟩,?_⟩;rw [B];intro H' ρ' x R v r;have e:v=.bl true:=r;subst e;exact O H'
theorem Qkm {P:aN} {w:aL} {H:Hp} {s:aC} {e:aB} {s':aC} (h:CXD P w [] H s (fun _ _ _=>False) e s'):False:=by
 obtain ⟨_,_,_,_,_,_,_,_,_,z⟩:=h;exact z
theorem walkS {l:eT} {k:Nat} {q:aN} {j:List Str} {U:(Str->Option aB)->Heap->Prop} {I:aL->Heap->Prop} {d:DefRec} {K:Params->bP} (O:l.most=some 63) (hr:Room k callerA) (B:d.params.defaults=[])
  (Y:∀ (w:aL) (h:Heap),I w h->(K w.params).In h)
  (F:∀ (w:aL) (mg:Str->Option aB) (G:aA) (h:Heap),(K w.params).In h->h.Ns aQ mg->mg d.name=some (.ref G) ->
   ∃ fd:aP,(∀ (s:aC) (u:aB),BindsTo s fd ⟨[u],[]⟩ [("script",u)])/\∀ base:Heap,(K w.params).In base->base.Ns aQ mg->FnOk l.prog w (K w.params) mg base (CXD l.prog w) k G fd ["script"] (Qaw (K w.params))) :
  fk q j U I l.row.toRowW d [] (fun f vs=>eR f vs):=
 L2.walk_of (n:=63) (k:=k) (x := "script") (CX:=fun w=>CXD l.prog w) (sp:=fun w=>Qaw (K w.params)) O (by decide) B hr Y F (fun _ _ a ns J _ Z=>⟨a,ns,rfl,Z,J,fun _=>rfl⟩) fun _ _ _ _ _ z=>Qkm z
end Sm
namespace Lw
open PySem PySem.Spec L2 Sm
def top (i:Nat):aM:=PySem.Challenge.pw_lendwharf_k17_runs_played.main.body.getD i (.Pass ⟨0,0,0,0⟩)
abbrev Q20:aM:=top 0
abbrev Kw:aM:=top 9
abbrev Uh:aM:=top 10
abbrev yu:aM:=top 13
abbrev Kx:aM:=top 14
abbrev Ky:aM:=top 15
abbrev yn:aM:=top 16
abbrev Y3:aM:=top 18
abbrev Wj:aM:=top 19
abbrev Ug:aM:=top 20
abbrev yt:aM:=top 21
abbrev Y4:aM:=top 24
abbrev z9:aM:=top 25
abbrev Y2:aM:=top 26
abbrev V4:aM:=top 27
abbrev yq:aM:=top 28
abbrev Q4i:aM:=top 29
abbrev Xq:aM:=top 31
abbrev Yk:aM:=top 32
abbrev Wh:aM:=top 33
abbrev Kz:aM:=top 34
abbrev Wi:aM:=top 35
abbrev W0:aM:=top 36
abbrev Vt:aM:=top 37
abbrev W1:aM:=top 38
abbrev Yt:aM:=top 39
abbrev Wd:aM:=K9 (top 41) 0
abbrev Ur:aM:=K9 (top 41) 1
abbrev Us:aM:=K9 (top 41) 2
abbrev Xs:aM:=K9 (top 41) 3
abbrev Ut:aM:=K9 (top 41) 4
abbrev Uu:aM:=K9 (top 41) 5
abbrev Va:aM:=K9 (top 41) 6
abbrev Uv:aM:=K9 (top 41) 7
abbrev U0:aM:=K9 (top 41) 8
abbrev V9:aM:=K9 (top 41) 9
abbrev Uq:aM:=K9 (top 41) 10
abbrev Wk:aM:=top 44
abbrev Ys:aM:=top 45
abbrev Vs:aM:=top 46
abbrev Wm:aM:=top 47
abbrev Xr:aM:=top 48
abbrev yr:aM:=top 49
abbrev Um:aM:=top 51
abbrev Ui:aM:=top 52
abbrev Vy:aM:=top 53
abbrev V5:aM:=top 54
abbrev Up:aM:=top 55
abbrev V6:aM:=top 56
abbrev V8:aM:=top 57
abbrev Uk:aM:=top 58
abbrev Vu:aM:=top 59
abbrev Vv:aM:=top 60
abbrev Uj:aM:=top 61
abbrev Vx:aM:=top 62
abbrev V7:aM:=top 63
abbrev Vz:aM:=top 64
abbrev Vw:aM:=top 65
abbrev Q3g:aM:=top 66
structure Txt (mg:Str->Option aB):Prop where
 b_all:mg "all" = none
 b_any:mg "any" = none
 b_bool:mg "bool" = none
 b_int:mg "int" = none
 b_isinstance:mg "isinstance" = none
 b_len:mg "len" = none
 b_list:mg "list" = none
 b_max:mg "max" = none
 b_min:mg "min" = none
 b_range:mg "range" = none
 b_str:mg "str" = none
 b_sum:mg "sum" = none
 b_tuple:mg "tuple" = none
 b_zip:mg "zip" = none
 c_MOST_HOUSES:∃ t,mg "MOST_HOUSES" = some (.int 8 t)
structure ClsT (K:bP) (C:aA):Prop where
 cl:Cls K C
 n_number:NoAttr K C "number"
 n_now:NoAttr K C "now"
 n_kept:NoAttr K C "kept"
def Qq2:aM->List aM
 | .ClassDef _ _ _ b _ _ _ _ _ _ _=>b
 | _=>[]
abbrev Q9x:aM:=(Qq2 (top 7)).getD 0 (.Pass ⟨0,0,0,0⟩)
structure ShortOk (K:bP) (mg:Str->Option aB) (c0 cs fI:aA):Prop where
 m0:mg "WharfError" = some (.ref c0)
 ms:mg "Short" = some (.ref cs)
 M:XMade K cs c0 fI
 L:XCall K c0
 S:XSet K cs c0 "had"
structure ShortS (P:aN) (w:aL) (K:bP) (mg:Str->Option aB) (base:Heap):Prop where
 ex:∃ (C W f:aA) (fd:aP),XMade K C W f/\FnOk P w K mg base CX0 1 f fd ["self", "had"] (Q6v C "had")/\Binds K fd ["self", "had"] []/\mg "Short" = some (.ref C)
section
variable {P:aN} {w:aL} {K:bP} {mg:Str->Option aB} {base:Heap}
theorem Qrc:FnScope ["self", "had"] ["self", "had"] (Q6 Q9x):=⟨rfl,rfl,rfl,by decide +kernel,rfl,by decide +kernel,by decide +kernel⟩
theorem Qny {f G j:aA} {fd:aP} (F:Fun K "__init__" "Short.__init__" Q9x f fd) (O:ShortOk K mg G j f):FnOk P w K mg base CX0 1 f fd ["self", "had"] (Q6v j "had"):=by
 refine F.ok Qrc (fun vs H Q E h=>?_) (fun I A outer s H vs Q E J h=>?_)
 ·obtain ⟨x,v,rfl,_⟩:=h;rfl
 ·obtain ⟨x,v,rfl,q,B⟩:=h;refine ⟨_,Qcg (Qf9 (Qj8 O.M O.L (by rfl) O.m0 (Q08 (pv 0) (Q08 Q19 Q77))))
   (Qb2 (Qna (fun b z=>absurd (show b∈([]:List aA) from z) (by simp)) O.S (pv 0) (pv 1))),?_⟩
  exact ⟨_,rfl,x,_,rfl,q,_,rfl,_,rfl,x,rfl,q,B⟩
end
section
variable {P:aN} {w:aL} {K:bP} {mg:Str->Option aB} {base:Heap}
def Qhz:MS:=Y1
def Qg5:MT:=(toB (mC (.bl true)))
def Qfk:MS:=(j7 Qg5 Qhz 100000)
def Qbw:FN:=Qs Qfk 1
theorem Qir:FnScope ["k"] ["k"] (Q6 Q20):=⟨rfl,rfl,rfl,by decide +kernel,rfl,by decide +kernel,by decide +kernel⟩
theorem Qjk {f:aA} {fd:aP} (F:Fun K "_wall" "_wall" Q20 f fd) (T:Txt mg)   : FnOk P w K mg base (CXD P w) 1 f fd ["k"] (spF mg 1 Qbw):=by
 refine J1 (k:=0) (m:=Qfk) F Qir rfl rfl rfl fun j A outer s H E q=>?_
 exact (Qd (Qc4 100000 PassesOwn.leaving (Wa Q3e) (Qd Qmp)))
def Q2z:MS:=(Js (Q51 (Q32 "int" (Q4 0)) (Qsm (Q32 "bool" (Q4 0)))))
def Vh:FN:=Qs Q2z 1
theorem Qc5:FnScope ["thing"] ["thing"] (Q6 Kw):=⟨rfl,rfl,rfl,by decide +kernel,rfl,by decide +kernel,by decide +kernel⟩
theorem Qcm {f:aA} {fd:aP} (F:Fun K "is_whole" "is_whole" Kw f fd) (T:Txt mg)   : FnOk P w K mg base (CXD P w) 1 f fd ["thing"] (spF mg 1 Vh):=by
 refine J1 (k:=0) (m:=Q2z) F Qc5 rfl rfl rfl fun j A outer s H E q=>?_
 exact (Qd (Qy (Q03 (ja (T := "int") (by decide) (Q0 0) rfl T.b_isinstance rfl T.b_int Qdj) (Q15 (Qrb (ja (T := "bool") (by decide) (Q0 0) rfl T.b_isinstance rfl T.b_bool Qai))))))
def Q0e:MS:=(Js (Q51 (Qf 1 Vh (Q3 (Q4 0) Q9)) (Q1h (oI fun a b=>.bl (decide (a<=b))) (oI fun a b=>.bl (decide (a<=b))) (Q4 1) (Q4 0) (Q4 2))))
def Kj:FN:=Qs Q0e 3
theorem Q8w:FnScope ["thing", "least", "most"] ["thing", "least", "most"] (Q6 Uh):=⟨rfl,rfl,rfl,by decide +kernel,rfl,by decide +kernel,by decide +kernel⟩
theorem Q99 {f:aA} {fd:aP} (F:Fun K "is_between" "is_between" Uh f fd) (T:Txt mg)  (j:DefS P w K mg base 1 "is_whole" 1 Vh):FnOk P w K mg base (CXD P w) 2 f fd ["thing", "least", "most"] (spF mg 3 Kj):=by
 refine J1 (k:=1) (m:=Q0e) F Q8w rfl rfl rfl fun q A outer s H E z=>?_
 exact (Qd (Qy (Q03 (Qg j (z.mono (by decide)) Qc rfl (Q1 (Q0 0) Q7)) (Q15 (Qiq Qa4 Qa4 (Q0 1) (Q0 0) (Q0 2))))))
def Q36:ME:=(Q51 (Qf 1 Vh (Q3 (Q4 0) Q9)) (mOp (oI fun a b=>.bl (decide (b<=a))) (Q4 0) (mC (.int 0))))
def Q7s : MS := (Qr (Ym (Q11 (U9 (toB (Q32 "tuple" (Q4 0)))) (toB (mOp oNe (J7 Yx (Q3 (Q4 0) Q9)) (mOp Ww (Q4 1) (mC (.int 1)))))) (Js (mC (.bl false))) Y1)
  (Js (J7 (Q2j fun ns=>.bl (ns.all id)) (Q3 (qd (Yh [none] (Qp 0) (yy (Q4 0)) Zr Q36)) Q9))))
def Q1x:FN:=Qs Q7s 2
theorem Qge:FnScope ["thing", "n"] ["thing", "n"] (Q6 yu):=⟨rfl,rfl,rfl,by decide +kernel,rfl,by decide +kernel,by decide +kernel⟩
theorem Qgu {f:aA} {fd:aP} (F:Fun K "is_row" "is_row" yu f fd) (T:Txt mg)  (j:DefS P w K mg base 1 "is_whole" 1 Vh):FnOk P w K mg base (CXD P w) 2 f fd ["thing", "n"] (spF mg 2 Q1x):=by
 refine J1 (k:=1) (m:=Q7s) F Qge rfl rfl rfl fun z A outer s H E q=>?_
 exact (Qb (Z4 (SimW.t (Q2m (U1 (Wa (ja (T := "tuple") (by decide) (Q0 0) rfl T.b_isinstance rfl T.b_tuple Wy))) (Q12 (Jc (Q5h q.units) (Qw Yi rfl T.b_len bY (Q1 (Q0 0) Q7)) (Jd Zt (Q0 1) Qa))))) (Qd (Qy Q3e)) Zs)
  (Qd (Qy (Qw (Q8g rfl) rfl T.b_all Q1u (Q1 (Vg (Yp [none] ["part"] rfl (Ku (Q0 0)) (fun _ _ _ _ _=>(J3 (i:=0) (show (["part"]:List Str).Nodup by decide +kernel))) (fun _ _ _ _ _=>(Q03 (Qg j (q.mono (by decide)) K3 rfl (Q1 (Q0 0) Q7)) (Q15 (Kv Qqk (Q0 0) Qa)))) (fun _ _ _ _ _=>W9) Jq)) Q7)))))
def Q0q:ME:=(Qf 2 Q1x (Q3 (Q4 0) (Q3 (J7 Yx (Q3 (Q4 1) Q9)) Q9)))
def Q30 : MS := (Qr (Ym (Q11 (U9 (toB (Q32 "tuple" (Q4 0)))) (U9 (toB (Q1h (oI fun a b => .bl (decide (a <= b))) (oI fun a b => .bl (decide (a <= b))) (mC (.int 1)) (J7 Yx (Q3 (Q4 0) Q9)) (mC (.int 8)))))) (Js (mC (.bl false))) Y1)
  (Js (J7 (Q2j fun ns=>.bl (ns.all id)) (Q3 (qd (Yh [none,some 0] (Qp 0) (yy (Q4 0)) Zr Q0q)) Q9))))
def zt:FN:=Qs Q30 1
theorem Qc6:FnScope ["thing"] ["thing"] (Q6 Kx):=⟨rfl,rfl,rfl,by decide +kernel,rfl,by decide +kernel,by decide +kernel⟩
theorem Qcn {f:aA} {fd:aP} (F:Fun K "is_table" "is_table" Kx f fd) (T:Txt mg)  (j:DefS P w K mg base 2 "is_row" 2 Q1x):FnOk P w K mg base (CXD P w) 3 f fd ["thing"] (spF mg 1 zt):=by
 refine J1 (k:=2) (m:=Q30) F Qc6 rfl rfl rfl fun q A outer s H E z=>?_
 exact (Qb (Z4 (SimW.t (Q2m (U1 (Wa (ja (T := "tuple") (by decide) (Q0 0) rfl T.b_isinstance rfl T.b_tuple Wy))) (Q12 (U1 (Qc3 Qa4 Qa4 Qa (Qw Yi rfl T.b_len bY (Q1 (Q0 0) Q7)) (Qmw rfl T.c_MOST_HOUSES.choose_spec)))))) (Qd (Qy Q3e)) Zs)
  (Qd (Qy (Qw (Q8g rfl) rfl T.b_all Q1u (Q1 (Vg (Yp [none,some 0] ["row", "thing"] rfl (Ku (Q0 0)) (fun _ _ _ _ _=>(J3 (i:=0) (show (["row", "thing"]:List Str).Nodup by decide +kernel))) (fun _ _ _ _ _=>(Qg j (z.mono (by decide)) K3 rfl (Q1 (Q0 0) (Q1 (Qw Yi rfl T.b_len bY (Q1 (Q0 1) Q7)) Q7)))) (fun _ _ _ _ _=>W9) Jq)) Q7)))))
def Q31:MS:=(Js (Qf 3 Kj (Q3 (Q4 1) (Q3 (mC (.int 0)) (Q3 (mOp (oI fun a b=>.int (a - b)) (J7 Yx (Q3 (Q4 0) Q9)) (mC (.int 1))) Q9)))))
def Yj:FN:=Qs Q31 2
theorem Qc7:FnScope ["table", "thing"] ["table", "thing"] (Q6 Ky):=⟨rfl,rfl,rfl,by decide +kernel,rfl,by decide +kernel,by decide +kernel⟩
theorem Qcp {f:aA} {fd:aP} (F:Fun K "is_house" "is_house" Ky f fd) (T:Txt mg)  (j:DefS P w K mg base 2 "is_between" 3 Kj):FnOk P w K mg base (CXD P w) 3 f fd ["table", "thing"] (spF mg 2 Yj):=by
 refine J1 (k:=2) (m:=Q31) F Qc7 rfl rfl rfl fun q A outer s H E z=>?_
 exact (Qd (Qy (Qg j (z.mono (by decide)) Qc rfl (Q1 (Q0 1) (Q1 Qa (Q1 (Jd Q1a (Qw Yi rfl T.b_len bY (Q1 (Q0 0) Q7)) Qa) Q7))))))
def Q34:ME:=(mOp oIx (Q4 0) (Q4 1))
def Q7n : MS := (Qr (Ym (U9 (toB (Qf 2 Yj (Q3 (Q4 0) (Q3 (Q4 1) Q9))))) (qf "NoHouse" (mC (.str "no house of this table"))) Y1)
  (Qr (Jh 2 (J7 (Kg fun ns=>some (.int ns.sum)) (Q3 (qd (Yh [none,some 1] (Qp 0) (yy (Q4 0)) Zr Q34)) Q9)))
  (Qr (Jh 3 (mOp oIx (Q4 0) (Q4 1)))
  (Qr (Jh 4 (mOp (oI fun a b=>.int (a - b)) (J7 (Kg fun ns=>some (.int ns.sum)) (Q3 (Q4 3) Q9)) (mOp oIx (Q4 3) (Q4 1))))
  (Js (mOp (oI fun a b=>.int (a - b)) (Q4 2) (Q4 4)))))))
def X9:FN:=Qs Q7n 5
theorem sc_rights:FnScope ["table", "house", "gained", "own", "spent"] ["table", "house"] (Q6 yn):=⟨rfl,rfl,rfl,by decide +kernel,rfl,by decide +kernel,by decide +kernel⟩
theorem Qa5 {f:aA} {fd:aP} (F:Fun K "rights" "rights" yn f fd) (T:Txt mg) (j:∃ C,mg "NoHouse" = some (.ref C)/\ba K C Xn "ValueError.__new__" = true) (q:DefS P w K mg base 3 "is_house" 2 Yj):FnOk P w K mg base (CXD P w) 4 f fd ["table", "house"] (spF mg 2 X9):=by
 refine J1 (k:=3) (m:=Q7n) F sc_rights rfl rfl rfl fun z A outer s H E B=>?_
 exact (Qb (Z4 (U1 (Wa (Qg q (B.mono (by decide)) Qc rfl (Q1 (Q0 0) (Q1 (Q0 1) Q7))))) (Qd (Ua rfl Vk rfl j.choose_spec.1 j.choose_spec.2 J2)) Zs)
  (Qb (Qz 2 sc_rights.nd (Qw (Q8f rfl) rfl T.b_sum Q1t (Q1 (Vg (Yp [none,some 1] ["row", "house"] rfl (Ku (Q0 0)) (fun _ _ _ _ _=>(J3 (i:=0) (show (["row", "house"]:List Str).Nodup by decide +kernel))) (fun _ _ _ _ _=>(Qu (Q0 0) (Q0 1))) (fun _ _ _ _ _=>W9) Jq)) Q7)))
  (Qb (Qz 3 sc_rights.nd (Qu (Q0 0) (Q0 1)))
  (Qb (Qz 4 sc_rights.nd (Jd Q1a (Qw (Q8f rfl) rfl T.b_sum Q1t (Q1 (Q0 3) Q7)) (Qu (Q0 3) (Q0 1))))
  (Qd (Qy (Jd Q1a (Q0 2) (Q0 4))))))))
def U3:MS:=(Ym (toB (mOp oNe (J7 Yx (Q3 (Q4 0) Q9)) (J7 Yx (Q3 (Q4 1) Q9)))) (qf "NoTable" (mC (.str "the tables have unlike numbers of houses"))) Y1)
def Z2:FN:=Qs U3 2
theorem Q04:FnScope ["one", "other"] ["one", "other"] (Q6 Y3):=⟨rfl,rfl,rfl,by decide +kernel,rfl,by decide +kernel,by decide +kernel⟩
theorem Q0a {f:aA} {fd:aP} (F:Fun K "need_as_many_houses" "need_as_many_houses" Y3 f fd) (T:Txt mg) (j:∃ C,mg "NoTable" = some (.ref C)/\ba K C Xn "ValueError.__new__" = true)  : FnOk P w K mg base (CXD P w) 1 f fd ["one", "other"] (spF mg 2 Z2):=by
 refine J1 (k:=0) (m:=U3) F Q04 rfl rfl rfl fun q A outer s H E z=>?_
 exact (Qd (Z4 (Jc (Q5h z.units) (Qw Yi rfl T.b_len bY (Q1 (Q0 0) Q7)) (Qw Yi rfl T.b_len bY (Q1 (Q0 1) Q7))) (Qd (Ua rfl Vk rfl j.choose_spec.1 j.choose_spec.2 J2)) Zs))
def Ke:ME:=(mOp (oI fun a b=>.bl (decide (a<=b))) (Q4 0) (Q4 1))
def jd:MS:=(Js (J7 (Q2j fun ns=>.bl (ns.all id)) (Q3 (qd (Yh [none,none] (qx (Y0 (Qp 0) (Y0 (Qp 1) qy))) (Q63 (Q3 (Q4 0) (Q3 (Q4 1) Q9))) Zr Ke)) Q9)))
def Vr:FN:=Qs jd 2
theorem Q4g:FnScope ["one", "other"] ["one", "other"] (Q6 Wj):=⟨rfl,rfl,rfl,by decide +kernel,rfl,by decide +kernel,by decide +kernel⟩
theorem Q4s {f:aA} {fd:aP} (F:Fun K "is_row_within" "is_row_within" Wj f fd) (T:Txt mg)   : FnOk P w K mg base (CXD P w) 1 f fd ["one", "other"] (spF mg 2 Vr):=by
 refine J1 (k:=0) (m:=jd) F Q4g rfl rfl rfl fun j A outer s H E q=>?_
 exact (Qd (Qy (Qw (Q8g rfl) rfl T.b_all Q1u (Q1 (Vg (Yp [none,none] ["mine", "its"] rfl (Q4c rfl T.b_zip (Q1 (Q0 0) (Q1 (Q0 1) Q7))) (fun _ _ _ _ _=>(Q2t rfl (Wf (J3 (i:=0) (show (["mine", "its"]:List Str).Nodup by decide +kernel)) (Wf (J3 (i:=1) (show (["mine", "its"]:List Str).Nodup by decide +kernel)) Q02)))) (fun _ _ _ _ _=>(Kv Qa4 (Q0 0) (Q0 1))) (fun _ _ _ _ _=>W9) (Q41 (Xu (Xu Q42))))) Q7))))
def zn:ME:=(J7 Q8k (Q3 (Q4 0) (Q3 (Q4 1) Q9)))
def Q0d:MS:=(Js (J7 Xm (Q3 (qd (Yh [none,none] (qx (Y0 (Qp 0) (Y0 (Qp 1) qy))) (Q63 (Q3 (Q4 0) (Q3 (Q4 1) Q9))) Zr zn)) Q9)))
def Ki:FN:=Qs Q0d 2
theorem Q8v:FnScope ["one", "other"] ["one", "other"] (Q6 Ug):=⟨rfl,rfl,rfl,by decide +kernel,rfl,by decide +kernel,by decide +kernel⟩
theorem Q98 {f:aA} {fd:aP} (F:Fun K "joined_row" "joined_row" Ug f fd) (T:Txt mg)   : FnOk P w K mg base (CXD P w) 1 f fd ["one", "other"] (spF mg 2 Ki):=by
 refine J1 (k:=0) (m:=Q0d) F Q8v rfl rfl rfl fun j A outer s H E q=>?_
 exact (Qd (Qy (qv xn rfl T.b_tuple Wy (Q1 (Vg (Yp [none,none] ["mine", "its"] rfl (Q4c rfl T.b_zip (Q1 (Q0 0) (Q1 (Q0 1) Q7))) (fun _ _ _ _ _=>(Q2t rfl (Wf (J3 (i:=0) (show (["mine", "its"]:List Str).Nodup by decide +kernel)) (Wf (J3 (i:=1) (show (["mine", "its"]:List Str).Nodup by decide +kernel)) Q02)))) (fun _ _ _ _ _=>(Qw (Qbm rfl) rfl T.b_max Q47 (Q1 (Q0 0) (Q1 (Q0 1) Q7)))) (fun _ _ _ _ _=>W9) (Q41 (Xu (Xu Q42))))) Q7))))
def Q35:ME:=(Qf 2 Ki (Q3 (Q4 0) (Q3 (Q4 1) Q9)))
def Q7r : MS := (Qr (Wc (Qf 2 Z2 (Q3 (Q4 0) (Q3 (Q4 1) Q9))))
  (Js (J7 Xm (Q3 (qd (Yh [none,none] (qx (Y0 (Qp 0) (Y0 (Qp 1) qy))) (Q63 (Q3 (Q4 0) (Q3 (Q4 1) Q9))) Zr Q35)) Q9))))
def Q1w:FN:=Qs Q7r 2
theorem Qgd:FnScope ["one", "other"] ["one", "other"] (Q6 yt):=⟨rfl,rfl,rfl,by decide +kernel,rfl,by decide +kernel,by decide +kernel⟩
theorem Qgt {f:aA} {fd:aP} (F:Fun K "joined" "joined" yt f fd) (T:Txt mg)  (j:DefS P w K mg base 1 "need_as_many_houses" 2 Z2) (q:DefS P w K mg base 1 "joined_row" 2 Ki):FnOk P w K mg base (CXD P w) 2 f fd ["one", "other"] (spF mg 2 Q1w):=by
 refine J1 (k:=1) (m:=Q7r) F Qgd rfl rfl rfl fun B A outer s H E z=>?_
 exact (Qb (Yf (Qg j (z.mono (by decide)) Qc rfl (Q1 (Q0 0) (Q1 (Q0 1) Q7))))
  (Qd (Qy (qv xn rfl T.b_tuple Wy (Q1 (Vg (Yp [none,none] ["mine", "its"] rfl (Q4c rfl T.b_zip (Q1 (Q0 0) (Q1 (Q0 1) Q7))) (fun _ _ _ _ _=>(Q2t rfl (Wf (J3 (i:=0) (show (["mine", "its"]:List Str).Nodup by decide +kernel)) (Wf (J3 (i:=1) (show (["mine", "its"]:List Str).Nodup by decide +kernel)) Q02)))) (fun _ _ _ _ _=>(Qg q (z.mono (by decide)) K3 rfl (Q1 (Q0 0) (Q1 (Q0 1) Q7)))) (fun _ _ _ _ _=>W9) (Q41 (Xu (Xu Q42))))) Q7)))))
def Ve:ME:=(Qf 1 Vh (Q3 (Q4 0) Q9))
def U4 : MS := (Qr (Ym (Q11 (U9 (toB (Q32 "tuple" (Q4 0)))) (Q11 (toB (mOp oEq (J7 Yx (Q3 (Q4 0) Q9)) (mC (.int 0)))) (U9 (toB (Q32 "str" (mOp oIx (Q4 0) (mC (.int 0)))))))) (Js (mC (.bl false))) Y1)
  (Js (J7 (Q2j fun ns=>.bl (ns.all id)) (Q3 (qd (Yh [none] (Qp 0) (yy (mSl (Q4 0) (x9 (mC (.int 1))) K6)) Zr Ve)) Q9))))
def Qj:FN:=Qs U4 1
theorem Q05:FnScope ["thing"] ["thing"] (Q6 Y4):=⟨rfl,rfl,rfl,by decide +kernel,rfl,by decide +kernel,by decide +kernel⟩
theorem Q0b {f:aA} {fd:aP} (F:Fun K "is_text_and_numbers" "is_text_and_numbers" Y4 f fd) (T:Txt mg)  (j:DefS P w K mg base 1 "is_whole" 1 Vh):FnOk P w K mg base (CXD P w) 2 f fd ["thing"] (spF mg 1 Qj):=by
 refine J1 (k:=1) (m:=U4) F Q05 rfl rfl rfl fun z A outer s H E q=>?_
 exact (Qb (Z4 (SimW.t (Q2m (U1 (Wa (ja (T := "tuple") (by decide) (Q0 0) rfl T.b_isinstance rfl T.b_tuple Wy))) (Q2m (Jc (V1 q.units) (Qw Yi rfl T.b_len bY (Q1 (Q0 0) Q7)) Qa) (Q12 (U1 (Wa (ja (T := "str") (by decide) (Qu (Q0 0) Qa) rfl T.b_isinstance rfl T.b_str Q8n))))))) (Qd (Qy Q3e)) Zs)
  (Qd (Qy (Qw (Q8g rfl) rfl T.b_all Q1u (Q1 (Vg (Yp [none] ["part"] rfl (Ku (X4 (Q0 0) (K0 Qa) jj)) (fun _ _ _ _ _=>(J3 (i:=0) (show (["part"]:List Str).Nodup by decide +kernel))) (fun _ _ _ _ _=>(Qg j (q.mono (by decide)) K3 rfl (Q1 (Q0 0) Q7))) (fun _ _ _ _ _=>W9) Jq)) Q7)))))
def Ux:MS:=(Js (Q51 (Qf 1 Qj (Q3 (Q4 0) Q9)) (Q51 (mOp oEq (J7 Yx (Q3 (Q4 0) Q9)) (Qej (mOp oIx (Q4 0) (mC (.int 0))))) (mOp (oI fun a b=>.bl (decide (b<=a))) (mOp oIx (Q4 0) (Q50 (mC (.int 1)))) (mC (.int 1))))))
def W5:FN:=Qs Ux 1
theorem Qe2:FnScope ["thing"] ["thing"] (Q6 z9):=⟨rfl,rfl,rfl,by decide +kernel,rfl,by decide +kernel,by decide +kernel⟩
theorem Qe9 {f:aA} {fd:aP} (F:Fun K "is_deed" "is_deed" z9 f fd) (T:Txt mg) (PK:PartsOk P w K mg)  (j:DefS P w K mg base 2 "is_text_and_numbers" 1 Qj):FnOk P w K mg base (CXD P w) 3 f fd ["thing"] (spF mg 1 W5):=by
 refine J1 (k:=2) (m:=Ux) F Qe2 rfl rfl rfl fun z A outer s H E q=>?_
 exact (Qd (Qy (Q03 (Qg j (q.mono (by decide)) Qc rfl (Q1 (Q0 0) Q7)) (Q03 (Kv (V1 q.units) (Qw Yi rfl T.b_len bY (Q1 (Q0 0) Q7)) (Qim PK rfl (Qu (Q0 0) Qa))) (Q15 (Kv Qqk (Qu (Q0 0) (Q16 Qa)) Qa))))))
def W3:ME:=(Qf 2 Yj (Q3 (Q4 1) (Q3 (Q4 0) Q9)))
def Yq : MS := (Qr (Jh 2 (mSl (Q4 1) (x9 (mC (.int 1))) (x9 (Q50 (mC (.int 1))))))
  (Qr (Ym (U9 (toB (J7 (Q2j fun ns=>.bl (ns.all id)) (Q3 (qd (Yh [none,some 0] (Qp 0) (yy (Q4 2)) Zr W3)) Q9)))) (qf "NoHouse" (mC (.str "no house of this table"))) Y1)
  (Ym (Q0t (toB (mOp oEq (mOp oIx (Q4 1) (mC (.int 0))) (mC (.str "lend")))) (toB (mOp oEq (mOp oIx (Q4 2) (mC (.int 0))) (mOp oIx (Q4 2) (mC (.int 1)))))) (qf "NoHouse" (mC (.str "a house lends nothing to itself"))) Y1)))
def Ja:FN:=Qs Yq 3
theorem sc_need_houses_of_deed:FnScope ["table", "deed", "houses"] ["table", "deed"] (Q6 Y2):=⟨rfl,rfl,rfl,by decide +kernel,rfl,by decide +kernel,by decide +kernel⟩
theorem Q09 {f:aA} {fd:aP} (F:Fun K "need_houses_of_deed" "need_houses_of_deed" Y2 f fd) (T:Txt mg) (j:∃ C,mg "NoHouse" = some (.ref C)/\ba K C Xn "ValueError.__new__" = true) (q:DefS P w K mg base 3 "is_house" 2 Yj):FnOk P w K mg base (CXD P w) 4 f fd ["table", "deed"] (spF mg 2 Ja):=by
 refine J1 (k:=3) (m:=Yq) F sc_need_houses_of_deed rfl rfl rfl fun B A outer s H E z=>?_
 exact (Qb (Qz 2 sc_need_houses_of_deed.nd (X4 (Q0 1) (K0 Qa) (K0 (Q16 Qa))))
  (Qb (Z4 (U1 (Wa (Qw (Q8g rfl) rfl T.b_all Q1u (Q1 (Vg (Yp [none,some 0] ["house", "table"] rfl (Ku (Q0 2)) (fun _ _ _ _ _=>(J3 (i:=0) (show (["house", "table"]:List Str).Nodup by decide +kernel))) (fun _ _ _ _ _=>(Qg q (z.mono (by decide)) K3 rfl (Q1 (Q0 1) (Q1 (Q0 0) Q7)))) (fun _ _ _ _ _=>W9) Jq)) Q7)))) (Qd (Ua rfl Vk rfl j.choose_spec.1 j.choose_spec.2 J2)) Zs)
  (Qd (Z4 (SimW.t (Q6s (Jc (V1 z.units) (Qu (Q0 1) Qa) J2) (Q3a (Jc (V1 z.units) (Qu (Q0 2) Qa) (Qu (Q0 2) Qa))))) (Qd (Ua rfl Vk rfl j.choose_spec.1 j.choose_spec.2 J2)) Zs))))
def Ud : MS := (Qr (Ym (toB (mOp oEq (mOp oIx (Q4 1) (mC (.int 0))) (mC (.str "make")))) (Js (mOp oIx (Q4 1) (mC (.int 1)))) Y1)
  (Qr (Ym (toB (mOp oEq (mOp oIx (Q4 1) (mC (.int 0))) (mC (.str "lend")))) (Js (mOp oIx (Q4 1) (mC (.int 2)))) Y1)
  (Js (J7 Yx (Q3 (Q4 0) Q9)))))
def Wg:FN:=Qs Ud 2
theorem Q5q:FnScope ["table", "deed"] ["table", "deed"] (Q6 V4):=⟨rfl,rfl,rfl,by decide +kernel,rfl,by decide +kernel,by decide +kernel⟩
theorem Q5u {f:aA} {fd:aP} (F:Fun K "place_in_row" "place_in_row" V4 f fd) (T:Txt mg)   : FnOk P w K mg base (CXD P w) 1 f fd ["table", "deed"] (spF mg 2 Wg):=by
 refine J1 (k:=0) (m:=Ud) F Q5q rfl rfl rfl fun q A outer s H E j=>?_
 exact (Qb (Z4 (Jc (V1 j.units) (Qu (Q0 1) Qa) J2) (Qd (Qy (Qu (Q0 1) Qa))) Zs)
  (Qb (Z4 (Jc (V1 j.units) (Qu (Q0 1) Qa) J2) (Qd (Qy (Qu (Q0 1) Qa))) Zs)
  (Qd (Qy (Qw Yi rfl T.b_len bY (Q1 (Q0 0) Q7))))))
def Q7p : MS := (Qr (Jh 4 (mOp oIx (Q4 0) (Q4 1)))
  (Qr (Jh 5 (mOp Ww (mOp Ww (mSl (Q4 4) K6 (x9 (Q4 2))) (Kt (Q3 (mOp Ww (mOp oIx (Q4 4) (Q4 2)) (Q4 3)) Q9))) (mSl (Q4 4) (x9 (mOp Ww (Q4 2) (mC (.int 1)))) K6)))
  (Js (mOp Ww (mOp Ww (mSl (Q4 0) K6 (x9 (Q4 1))) (Kt (Q3 (Q4 5) Q9))) (mSl (Q4 0) (x9 (mOp Ww (Q4 1) (mC (.int 1)))) K6)))))
def Q1v:FN:=Qs Q7p 6
theorem sc_raised:FnScope ["table", "house", "place", "k", "row", "higher"] ["table", "house", "place", "k"] (Q6 yq):=⟨rfl,rfl,rfl,by decide +kernel,rfl,by decide +kernel,by decide +kernel⟩
theorem Qgr {f:aA} {fd:aP} (F:Fun K "raised" "raised" yq f fd) (T:Txt mg)   : FnOk P w K mg base (CXD P w) 1 f fd ["table", "house", "place", "k"] (spF mg 4 Q1v):=by
 refine J1 (k:=0) (m:=Q7p) F sc_raised rfl rfl rfl fun j A outer s H E q=>?_
 exact (Qb (Qz 4 sc_raised.nd (Qu (Q0 0) (Q0 1)))
  (Qb (Qz 5 sc_raised.nd (Jd Zt (Jd Zt (X4 (Q0 4) jj (K0 (Q0 2))) (U2 (Q1 (Jd Zt (Qu (Q0 4) (Q0 2)) (Q0 3)) Q7))) (X4 (Q0 4) (K0 (Jd Zt (Q0 2) Qa)) jj)))
  (Qd (Qy (Jd Zt (Jd Zt (X4 (Q0 0) jj (K0 (Q0 1))) (U2 (Q1 (Q0 5) Q7))) (X4 (Q0 0) (K0 (Jd Zt (Q0 1) Qa)) jj))))))
def Q7t : MS := (Qr (Ym (U9 (toB (Qf 1 W5 (Q3 (Q4 1) Q9)))) (qf "NoDeed" (mC (.str "neither a making nor a lending nor a using of one right or more"))) Y1)
  (Qr (Wc (Qf 2 Ja (Q3 (Q4 0) (Q3 (Q4 1) Q9))))
  (Qr (Jh 2 (mOp oIx (Q4 1) (mC (.int 1))))
  (Qr (Jh 3 (mOp oIx (Q4 1) (Q50 (mC (.int 1)))))
  (Qr (Ym (toB (mOp oNe (mOp oIx (Q4 1) (mC (.int 0))) (mC (.str "make")))) (Qr (Jh 4 (Qf 2 X9 (Q3 (Q4 0) (Q3 (Q4 2) Q9))))
  (Ym (toB (mOp oLt (Q4 4) (Q4 3))) (Qb9 "Short" "had" (Q4 4)) Y1)) Y1)
  (Js (Qf 4 Q1v (Q3 (Q4 0) (Q3 (Q4 2) (Q3 (Qf 2 Wg (Q3 (Q4 0) (Q3 (Q4 1) Q9))) (Q3 (Q4 3) Q9)))))))))))
def zu:FN:=Qs Q7t 5
theorem sc_done:FnScope ["table", "deed", "house", "k", "had"] ["table", "deed"] (Q6 Q4i):=⟨rfl,rfl,rfl,by decide +kernel,rfl,by decide +kernel,by decide +kernel⟩
theorem Qnz {f:aA} {fd:aP} (F:Fun K "done" "done" Q4i f fd) (T:Txt mg) (J:ShortS P w K mg base) (B:∃ C,mg "NoDeed" = some (.ref C)/\ba K C Xn "ValueError.__new__" = true) (G:DefS P w K mg base 3 "is_deed" 1 W5) (j:DefS P w K mg base 4 "need_houses_of_deed" 2 Ja) (q:DefS P w K mg base 4 "rights_tables" 2 X9) (I:DefS P w K mg base 1 "raised" 4 Q1v) (z:DefS P w K mg base 1 "place_in_row" 2 Wg):FnOk P w K mg base (CXD P w) 5 f fd ["table", "deed"] (spF mg 2 zu):=by
 obtain ⟨a4,a5,a3,a2,Z,O,Y,U⟩:=J.ex;refine J1 (k:=4) (m:=Q7t) F sc_done rfl rfl rfl fun a6 A outer s H E hr=>?_
 exact (Qb (Z4 (U1 (Wa (Qg G (hr.mono (by decide)) Qc rfl (Q1 (Q0 1) Q7)))) (Qd (Ua rfl Vk rfl B.choose_spec.1 B.choose_spec.2 J2)) Zs)
  (Qb (Yf (Qg j (hr.mono (by decide)) Qc rfl (Q1 (Q0 0) (Q1 (Q0 1) Q7))))
  (Qb (Qz 2 sc_done.nd (Qu (Q0 1) Qa))
  (Qb (Qz 3 sc_done.nd (Qu (Q0 1) (Q16 Qa)))
  (Qb (Z4 (Jc (Q5h hr.units) (Qu (Q0 1) Qa) J2) (Qb (Qz 4 sc_done.nd (Qg q (hr.mono (by decide)) Qc rfl (Q1 (Q0 0) (Q1 (Q0 2) Q7))))
  (Qd (Z4 (Jc (Q3m hr.units) (Q0 4) (Q0 3)) (Qd (Qg7 rfl Vk Z O (hr.mono (by decide)) Y rfl U (Q0 4))) Zs))) Zs)
  (Qd (Qy (Qg I (hr.mono (by decide)) Qc rfl (Q1 (Q0 0) (Q1 (Q0 2) (Q1 (Qg z (hr.mono (by decide)) Qc rfl (Q1 (Q0 0) (Q1 (Q0 1) Q7))) (Q1 (Q0 3) Q7))))))))))))
def Q1f:MS:=(Js (mOp (oI fun a b=>.bl (decide (b < a))) (mOp oIx (mOp oIx (Q4 0) (Q4 1)) (Q4 1)) (mC (.int 0))))
def qz:FN:=Qs Q1f 2
theorem Qay:FnScope ["table", "house"] ["table", "house"] (Q6 Xq):=⟨rfl,rfl,rfl,by decide +kernel,rfl,by decide +kernel,by decide +kernel⟩
theorem Qb6 {f:aA} {fd:aP} (F:Fun K "made_some" "made_some" Xq f fd) (T:Txt mg)   : FnOk P w K mg base (CXD P w) 1 f fd ["table", "house"] (spF mg 2 qz):=by
 refine J1 (k:=0) (m:=Q1f) F Qay rfl rfl rfl fun j A outer s H E q=>?_
 exact (Qd (Qy (Kv Q78 (Qu (Qu (Q0 0) (Q0 1)) (Q0 1)) Qa)))
def X1 : MS := (Qr (Jh 2 (mOp oIx (Q4 0) (Q4 1)))
  (Js (mOp (oI fun a b=>.bl (decide (b < a))) (J7 (Kg fun ns=>some (.int ns.sum)) (Q3 (Q4 2) Q9)) (mOp oIx (Q4 2) (Q4 1)))))
def W8:FN:=Qs X1 3
theorem sc_lent_or_used_some:FnScope ["table", "house", "row"] ["table", "house"] (Q6 Yk):=⟨rfl,rfl,rfl,by decide +kernel,rfl,by decide +kernel,by decide +kernel⟩
theorem Q1c {f:aA} {fd:aP} (F:Fun K "lent_or_used_some" "lent_or_used_some" Yk f fd) (T:Txt mg)   : FnOk P w K mg base (CXD P w) 1 f fd ["table", "house"] (spF mg 2 W8):=by
 refine J1 (k:=0) (m:=X1) F sc_lent_or_used_some rfl rfl rfl fun j A outer s H E q=>?_
 exact (Qb (Qz 2 sc_lent_or_used_some.nd (Qu (Q0 0) (Q0 1)))
  (Qd (Qy (Kv Q78 (Qw (Q8f rfl) rfl T.b_sum Q1t (Q1 (Q0 2) Q7)) (Qu (Q0 2) (Q0 1))))))
def Ka:ME:=(mOp (oI fun a b=>.bl (decide (b < a))) (mOp oIx (mOp oIx (Q4 2) (Q4 0)) (Q4 1)) (mC (.int 0)))
def Xx:MT:=(toB (mOp oNe (Q4 0) (Q4 1)))
def jc:MS:=(Js (J7 (Q2j fun ns=>.bl (ns.any id)) (Q3 (qd (Yh [none,some 1,some 0] (Qp 0) (yy (Q4 2)) Xx Ka)) Q9)))
def Vq:FN:=Qs jc 3
theorem Q4f:FnScope ["table", "house", "lenders"] ["table", "house", "lenders"] (Q6 Wh):=⟨rfl,rfl,rfl,by decide +kernel,rfl,by decide +kernel,by decide +kernel⟩
theorem Q4q {f:aA} {fd:aP} (F:Fun K "was_lent_some" "was_lent_some" Wh f fd) (T:Txt mg)   : FnOk P w K mg base (CXD P w) 1 f fd ["table", "house", "lenders"] (spF mg 3 Vq):=by
 refine J1 (k:=0) (m:=jc) F Q4f rfl rfl rfl fun j A outer s H E q=>?_
 exact (Qd (Qy (Qw (Qkn rfl) rfl T.b_any Qdk (Q1 (Vg (Yp [none,some 1,some 0] ["lender", "house", "table"] rfl (Ku (Q0 2)) (fun _ _ _ _ _=>(J3 (i:=0) (show (["lender", "house", "table"]:List Str).Nodup by decide +kernel))) (fun _ _ _ _ _=>(Kv Q78 (Qu (Qu (Q0 2) (Q0 0)) (Q0 1)) Qa)) (fun _ _ _ _ _=>(xz (Jc (Q5h q.units) (Q0 0) (Q0 1)))) Jq)) Q7))))
def Q0f:MS:=(Js (mOr (Qf 2 qz (Q3 (Q4 0) (Q3 (Q4 1) Q9))) (Qf 3 Vq (Q3 (Q4 0) (Q3 (Q4 1) (Q3 (Q4 2) Q9))))))
def qm:FN:=Qs Q0f 3
theorem Qc8:FnScope ["table", "house", "ahead"] ["table", "house", "ahead"] (Q6 Kz):=⟨rfl,rfl,rfl,by decide +kernel,rfl,by decide +kernel,by decide +kernel⟩
theorem Qcq {f:aA} {fd:aP} (F:Fun K "has_root" "has_root" Kz f fd) (T:Txt mg)  (q:DefS P w K mg base 1 "made_some" 2 qz) (j:DefS P w K mg base 1 "was_lent_some" 3 Vq):FnOk P w K mg base (CXD P w) 2 f fd ["table", "house", "ahead"] (spF mg 3 qm):=by
 refine J1 (k:=1) (m:=Q0f) F Qc8 rfl rfl rfl fun B A outer s H E z=>?_
 exact (Qd (Qy (Quc (Qg q (z.mono (by decide)) Qc rfl (Q1 (Q0 0) (Q1 (Q0 1) Q7))) (Q15 (Qg j (z.mono (by decide)) Qc rfl (Q1 (Q0 0) (Q1 (Q0 1) (Q1 (Q0 2) Q7))))))))
def Kc:ME:=(Q4 0)
def U6:MT:=(toB (mOp (oIn true) (Q4 0) (Q4 1)))
def Kb:ME:=(Q4 0)
def Xy:MT:=(toB (Qf 3 qm (Q3 (Q4 1) (Q3 (Q4 0) (Q3 (Q4 2) Q9)))))
def U8 : MS := (Qr (Jh 3 (qd (Yh [none, some 1] (Qp 0) (W2 (Q3 (J7 Yx (Q3 (Q4 0) Q9)) Q9)) U6 Kc)))
  (Qr (Jh 4 (qd (Yh [none,some 0,some 1] (Qp 0) (yy (Q4 3)) Xy Kb)))
  (Qr (Wc (mBM Q1e (Q4 1) (Q3 (Q4 4) Q9)))
  (Jh 2 (mOp (oI fun a b=>.bl (decide (b < a))) (J7 Yx (Q3 (Q4 4) Q9)) (mC (.int 0)))))))
def Yy:MT:=(toB (Q4 2))
def Vn : MS := (Qr (Jh 1 (Q0y (y0 Q9)))
  (Qr (Jh 2 (mC (.bl true)))
  (Qr (j7 Yy U8 100000)
  (Js (Q4 1)))))
def Wp:FN:=Qs Vn 5
theorem sc_rooted_houses:FnScope ["table", "roots", "grows", "others", "found"] ["table"] (Q6 Wi):=⟨rfl,rfl,rfl,by decide +kernel,rfl,by decide +kernel,by decide +kernel⟩
theorem Q4r {f:aA} {fd:aP} (F:Fun K "rooted_houses" "rooted_houses" Wi f fd) (T:Txt mg)  (j:DefS P w K mg base 2 "has_root" 3 qm):FnOk P w K mg base (CXD P w) 3 f fd ["table"] (spF mg 1 Wp):=by
 refine J1 (k:=2) (m:=Vn) F sc_rooted_houses rfl rfl rfl fun z A outer s H E q=>?_
 exact (Qb (Qz 1 sc_rooted_houses.nd (j9 (Q01 Q7)))
  (Qb (Qz 2 sc_rooted_houses.nd Q3e)
  (Qb (Qc4 100000 PassesOwn.leaving (Wa (Q0 2)) (Qb (by first | exact Q3b [none,some 1] ["house", "roots"] 3 sc_rooted_houses.nd rfl (Yz rfl T.b_range (Q1 (Qw Yi rfl T.b_len bY (Q1 (Q0 0) Q7)) Q7)) (fun _ _ _ _ _=>(J3 (i:=0) (show (["house", "roots"]:List Str).Nodup by decide +kernel))) (fun _ _ _ _ _=>(Q0 0)) (fun _ _ _ _ _=>(xz (Jc (Q3k q.units) (Q0 0) (Q0 1)))) Jq | exact Qz 3 sc_rooted_houses.nd (Vg (Yp [none,some 1] ["house", "roots"] rfl (Yz rfl T.b_range (Q1 (Qw Yi rfl T.b_len bY (Q1 (Q0 0) Q7)) Q7)) (fun _ _ _ _ _=>(J3 (i:=0) (show (["house", "roots"]:List Str).Nodup by decide +kernel))) (fun _ _ _ _ _=>(Q0 0)) (fun _ _ _ _ _=>(xz (Jc (Q3k q.units) (Q0 0) (Q0 1)))) Jq)))
  (Qb (by first | exact Q3b [none,some 0,some 1] ["house", "table", "roots"] 4 sc_rooted_houses.nd rfl (Ku (Q0 3)) (fun _ _ _ _ _=>(J3 (i:=0) (show (["house", "table", "roots"]:List Str).Nodup by decide +kernel))) (fun _ _ _ _ _=>(Q0 0)) (fun _ _ _ _ _=>(xz (Wa (Qg j (q.mono (by decide)) K3 rfl (Q1 (Q0 1) (Q1 (Q0 0) (Q1 (Q0 2) Q7))))))) Jq | exact Qz 4 sc_rooted_houses.nd (Vg (Yp [none,some 0,some 1] ["house", "table", "roots"] rfl (Ku (Q0 3)) (fun _ _ _ _ _=>(J3 (i:=0) (show (["house", "table", "roots"]:List Str).Nodup by decide +kernel))) (fun _ _ _ _ _=>(Q0 0)) (fun _ _ _ _ _=>(xz (Wa (Qg j (q.mono (by decide)) K3 rfl (Q1 (Q0 1) (Q1 (Q0 0) (Q1 (Q0 2) Q7))))))) Jq)))
  (Qb (Yf (Qgb (Q0 1) (Q1 (Q0 4) Q7)))
  (Qd (Qz 2 sc_rooted_houses.nd (Kv Q78 (Qw Yi rfl T.b_len bY (Q1 (Q0 4) Q7)) Qa)))))))
  (Qd (Qy (Q0 1))))))
def X3:ME:=(Q4 0)
def V3:MT:=(toB (mOp (oIn true) (Q4 0) (Q4 1)))
def X2:ME:=(Qf 2 W8 (Q3 (Q4 1) (Q3 (Q4 0) Q9)))
def U7 : MS := (Qr (Jh 1 (Qf 1 Wp (Q3 (Q4 0) Q9)))
  (Qr (Jh 2 (qd (Yh [none,some 1] (Qp 0) (W2 (Q3 (J7 Yx (Q3 (Q4 0) Q9)) Q9)) V3 X3)))
  (Qr (Ym (toB (J7 (Q2j fun ns=>.bl (ns.any id)) (Q3 (qd (Yh [none,some 0] (Qp 0) (yy (Q4 2)) Zr X2)) Q9))) (Js (Q4 2)) Y1)
  (Js (Q3x Q9)))))
def W4:FN:=Qs U7 3
theorem sc_rootless_houses:FnScope ["table", "roots", "others"] ["table"] (Q6 W0):=⟨rfl,rfl,rfl,by decide +kernel,rfl,by decide +kernel,by decide +kernel⟩
theorem Q2x {f:aA} {fd:aP} (F:Fun K "rootless_houses" "rootless_houses" W0 f fd) (T:Txt mg)  (q:DefS P w K mg base 3 "rooted_houses" 1 Wp) (j:DefS P w K mg base 1 "lent_or_used_some" 2 W8):FnOk P w K mg base (CXD P w) 4 f fd ["table"] (spF mg 1 W4):=by
 refine J1 (k:=3) (m:=U7) F sc_rootless_houses rfl rfl rfl fun B A outer s H E z=>?_
 exact (Qb (Qz 1 sc_rootless_houses.nd (Qg q (z.mono (by decide)) Qc rfl (Q1 (Q0 0) Q7)))
  (Qb (by first | exact Q3b [none,some 1] ["house", "roots"] 2 sc_rootless_houses.nd rfl (Yz rfl T.b_range (Q1 (Qw Yi rfl T.b_len bY (Q1 (Q0 0) Q7)) Q7)) (fun _ _ _ _ _=>(J3 (i:=0) (show (["house", "roots"]:List Str).Nodup by decide +kernel))) (fun _ _ _ _ _=>(Q0 0)) (fun _ _ _ _ _=>(xz (Jc (Q3k z.units) (Q0 0) (Q0 1)))) Jq | exact Qz 2 sc_rootless_houses.nd (Vg (Yp [none,some 1] ["house", "roots"] rfl (Yz rfl T.b_range (Q1 (Qw Yi rfl T.b_len bY (Q1 (Q0 0) Q7)) Q7)) (fun _ _ _ _ _=>(J3 (i:=0) (show (["house", "roots"]:List Str).Nodup by decide +kernel))) (fun _ _ _ _ _=>(Q0 0)) (fun _ _ _ _ _=>(xz (Jc (Q3k z.units) (Q0 0) (Q0 1)))) Jq)))
  (Qb (Z4 (Wa (Qw (Qkn rfl) rfl T.b_any Qdk (Q1 (Vg (Yp [none,some 0] ["house", "table"] rfl (Ku (Q0 2)) (fun _ _ _ _ _=>(J3 (i:=0) (show (["house", "table"]:List Str).Nodup by decide +kernel))) (fun _ _ _ _ _=>(Qg j (z.mono (by decide)) K3 rfl (Q1 (Q0 1) (Q1 (Q0 0) Q7)))) (fun _ _ _ _ _=>W9) Jq)) Q7))) (Qd (Qy (Q0 2))) Zs)
  (Qd (Qy (Q4e Q7))))))
def Xf:MS:=(Ym (toB (mOp oLt (Qf 2 X9 (Q3 (Q4 0) (Q3 (Q4 1) Q9))) (mC (.int 0)))) (Js (Kt (Q3 (mC (.str "short")) (Q3 (Q4 1) Q9)))) Y1)
def X6 : MS := (Qr (Q7u (Qp 1) (W2 (Q3 (J7 Yx (Q3 (Q4 0) Q9)) Q9)) Xf)
  (Qr (Jh 2 (Qf 1 W4 (Q3 (Q4 0) Q9)))
  (Qr (Ym (toB (mOp (oI fun a b=>.bl (decide (b < a))) (J7 Yx (Q3 (Q4 2) Q9)) (mC (.int 0)))) (Js (Kt (Q3 (mC (.str "rootless")) (Q3 (Q4 2) Q9)))) Y1)
  (Js (Kt (Q3 (mC (.str "comes")) (Q3 (Qf 1 Wp (Q3 (Q4 0) Q9)) Q9)))))))
def V0:FN:=Qs X6 3
theorem sc_comes_about:FnScope ["table", "house", "rootless"] ["table"] (Q6 Vt):=⟨rfl,rfl,rfl,by decide +kernel,rfl,by decide +kernel,by decide +kernel⟩
theorem Q7a {f:aA} {fd:aP} (F:Fun K "comes_about" "comes_about" Vt f fd) (T:Txt mg)  (z:DefS P w K mg base 4 "rights_tables" 2 X9) (j:DefS P w K mg base 4 "rootless_houses" 1 W4) (q:DefS P w K mg base 3 "rooted_houses" 1 Wp):FnOk P w K mg base (CXD P w) 5 f fd ["table"] (spF mg 1 V0):=by
 refine J1 (k:=4) (m:=X6) F sc_comes_about rfl rfl rfl fun G A outer s H E B=>?_
 exact (Qb (Q13 PassesOwn.leaving rfl (Yz rfl T.b_range (Q1 (Qw Yi rfl T.b_len bY (Q1 (Q0 0) Q7)) Q7)) (J3 (i:=1) sc_comes_about.nd) (Qd (Z4 (Jc (Q3m B.units) (Qg z (B.mono (by decide)) Qc rfl (Q1 (Q0 0) (Q1 (Q0 1) Q7))) Qa) (Qd (Qy (U2 (Q1 J2 (Q1 (Q0 1) Q7))))) Zs)))
  (Qb (Qz 2 sc_comes_about.nd (Qg j (B.mono (by decide)) Qc rfl (Q1 (Q0 0) Q7)))
  (Qb (Z4 (Jc Q78 (Qw Yi rfl T.b_len bY (Q1 (Q0 2) Q7)) Qa) (Qd (Qy (U2 (Q1 J2 (Q1 (Q0 2) Q7))))) Zs)
  (Qd (Qy (U2 (Q1 J2 (Q1 (Qg q (B.mono (by decide)) Qc rfl (Q1 (Q0 0) Q7)) Q7))))))))
def K4:MS:=(Js (Q51 (Qf 1 zt (Q3 (Q4 0) Q9)) (mOp oEq (mOp oIx (Qf 1 V0 (Q3 (Q4 0) Q9)) (mC (.int 0))) (mC (.str "comes")))))
def Wv:FN:=Qs K4 1
theorem Q2u:FnScope ["thing"] ["thing"] (Q6 W1):=⟨rfl,rfl,rfl,by decide +kernel,rfl,by decide +kernel,by decide +kernel⟩
theorem Q2y {f:aA} {fd:aP} (F:Fun K "does_come_about" "does_come_about" W1 f fd) (T:Txt mg)  (q:DefS P w K mg base 3 "is_table" 1 zt) (j:DefS P w K mg base 5 "comes_about" 1 V0):FnOk P w K mg base (CXD P w) 6 f fd ["thing"] (spF mg 1 Wv):=by
 refine J1 (k:=5) (m:=K4) F Q2u rfl rfl rfl fun B A outer s H E z=>?_
 exact (Qd (Qy (Q03 (Qg q (z.mono (by decide)) Qc rfl (Q1 (Q0 0) Q7)) (Q15 (Kv (V1 z.units) (Qu (Qg j (z.mono (by decide)) Qc rfl (Q1 (Q0 0) Q7)) Qa) J2)))))
def Xk:MS:=(Ym (U9 (toB (Qf 1 Wv (Q3 (Q4 0) Q9)))) (qf "NoTable" (mC (.str "no table that comes about"))) Y1)
def Ye:FN:=Qs Xk 1
theorem Q2e:FnScope ["thing"] ["thing"] (Q6 Yt):=⟨rfl,rfl,rfl,by decide +kernel,rfl,by decide +kernel,by decide +kernel⟩
theorem Q2i {f:aA} {fd:aP} (F:Fun K "need_comes_about" "need_comes_about" Yt f fd) (T:Txt mg) (q:∃ C,mg "NoTable" = some (.ref C)/\ba K C Xn "ValueError.__new__" = true) (j:DefS P w K mg base 6 "does_come_about" 1 Wv):FnOk P w K mg base (CXD P w) 7 f fd ["thing"] (spF mg 1 Ye):=by
 refine J1 (k:=6) (m:=Xk) F Q2e rfl rfl rfl fun z A outer s H E B=>?_
 exact (Qd (Z4 (U1 (Wa (Qg j (B.mono (by decide)) Qc rfl (Q1 (Q0 0) Q7)))) (Qd (Ua rfl Vk rfl q.choose_spec.1 q.choose_spec.2 J2)) Zs))
def qc (C : aA) : MS := (Qr (Wc (Qf 1 Ye (Q3 (Q4 2) Q9)))
  (Qr (Ym (U9 (toB (Qf 2 Yj (Q3 (Q4 2) (Q3 (Q4 1) Q9))))) (qf "NoHouse" (mC (.str "no house of this table"))) Y1)
  (Qr (x8 C "number" (Q4 0) (Q4 1))
  (Qr (x8 C "now" (Q4 0) (Q4 2))
  (x8 C "kept" (Q4 0) (Q4 2))))))
def We (C:aA):FN:=Yr (qc C) 3
theorem Q3f:FnScope ["self", "number", "table"] ["self", "number", "table"] (Q6 Wd):=⟨rfl,rfl,rfl,by decide +kernel,rfl,by decide +kernel,by decide +kernel⟩
theorem Q3n {f:aA} {fd:aP} {C:aA} (F:Fun K "__init__" "House.__init__" Wd f fd) (T:Txt mg) (B:ClsT K C) (q:∃ C,mg "NoHouse" = some (.ref C)/\ba K C Xn "ValueError.__new__" = true) (j:DefS P w K mg base 7 "need_comes_about" 1 Ye) (z:DefS P w K mg base 3 "is_house" 2 Yj):FnOk P w K mg base (CXD P w) 8 f fd ["self", "number", "table"] (spF mg 3 (We C)):=by
 refine Wu (k:=7) (m:=(qc C)) F Q3f rfl rfl rfl fun I A outer s H E G=>?_
 exact (Qb (Yf (Qg j (G.mono (by decide)) Qc rfl (Q1 (Q0 2) Q7)))
  (Qb (Z4 (U1 (Wa (Qg z (G.mono (by decide)) Qc rfl (Q1 (Q0 2) (Q1 (Q0 1) Q7))))) (Qd (Ua rfl Vk rfl q.choose_spec.1 q.choose_spec.2 J2)) Zs)
  (Qb (Q00 B.cl B.n_number (Q0 1) (Q0 0))
  (Qb (Q00 B.cl B.n_now (Q0 2) (Q0 0))
  (Qd (Q00 B.cl B.n_kept (Q0 2) (Q0 0)))))))
def jq (C:aA):MS:=(x8 C "now" (Q4 0) (Qf 2 zu (Q3 (Uy C "now" (Q4 0)) (Q3 (Kt (Q3 (mC (.str "make")) (Q3 (Uy C "number" (Q4 0)) (Q3 (Q4 1) Q9)))) Q9))))
def Km (C:aA):FN:=Yr (jq C) 2
theorem Q90:FnScope ["self", "k"] ["self", "k"] (Q6 Ur):=⟨rfl,rfl,rfl,by decide +kernel,rfl,by decide +kernel,by decide +kernel⟩
theorem Q9g {f:aA} {fd:aP} {C:aA} (F:Fun K "make" "House.make" Ur f fd) (T:Txt mg) (q:ClsT K C)  (j:DefS P w K mg base 5 "done" 2 zu):FnOk P w K mg base (CXD P w) 6 f fd ["self", "k"] (spF mg 2 (Km C)):=by
 refine Wu (k:=5) (m:=(jq C)) F Q90 rfl rfl rfl fun z A outer s H E B=>?_
 exact (Qd (Q00 q.cl q.n_now (Qg j (B.mono (by decide)) Qc rfl (Q1 (Ub q.cl q.n_now (Q0 0)) (Q1 (U2 (Q1 J2 (Q1 (Ub q.cl q.n_number (Q0 0)) (Q1 (Q0 1) Q7)))) Q7))) (Q0 0)))
def jr (C:aA):MS:=(x8 C "now" (Q4 0) (Qf 2 zu (Q3 (Uy C "now" (Q4 0)) (Q3 (Kt (Q3 (mC (.str "lend")) (Q3 (Uy C "number" (Q4 0)) (Q3 (Q4 1) (Q3 (Q4 2) Q9))))) Q9))))
def Kn (C:aA):FN:=Yr (jr C) 3
theorem Q91:FnScope ["self", "to", "k"] ["self", "to", "k"] (Q6 Us):=⟨rfl,rfl,rfl,by decide +kernel,rfl,by decide +kernel,by decide +kernel⟩
theorem Q9h {f:aA} {fd:aP} {C:aA} (F:Fun K "lend" "House.lend" Us f fd) (T:Txt mg) (q:ClsT K C)  (j:DefS P w K mg base 5 "done" 2 zu):FnOk P w K mg base (CXD P w) 6 f fd ["self", "to", "k"] (spF mg 3 (Kn C)):=by
 refine Wu (k:=5) (m:=(jr C)) F Q91 rfl rfl rfl fun z A outer s H E B=>?_
 exact (Qd (Q00 q.cl q.n_now (Qg j (B.mono (by decide)) Qc rfl (Q1 (Ub q.cl q.n_now (Q0 0)) (Q1 (U2 (Q1 J2 (Q1 (Ub q.cl q.n_number (Q0 0)) (Q1 (Q0 1) (Q1 (Q0 2) Q7))))) Q7))) (Q0 0)))
def zz (C:aA):MS:=(x8 C "now" (Q4 0) (Qf 2 zu (Q3 (Uy C "now" (Q4 0)) (Q3 (Kt (Q3 (mC (.str "use")) (Q3 (Uy C "number" (Q4 0)) (Q3 (Q4 1) Q9)))) Q9))))
def j4 (C:aA):FN:=Yr (zz C) 2
theorem Qaz:FnScope ["self", "k"] ["self", "k"] (Q6 Xs):=⟨rfl,rfl,rfl,by decide +kernel,rfl,by decide +kernel,by decide +kernel⟩
theorem Qb8 {f:aA} {fd:aP} {C:aA} (F:Fun K "use" "House.use" Xs f fd) (T:Txt mg) (q:ClsT K C)  (j:DefS P w K mg base 5 "done" 2 zu):FnOk P w K mg base (CXD P w) 6 f fd ["self", "k"] (spF mg 2 (j4 C)):=by
 refine Wu (k:=5) (m:=(zz C)) F Qaz rfl rfl rfl fun z A outer s H E B=>?_
 exact (Qd (Q00 q.cl q.n_now (Qg j (B.mono (by decide)) Qc rfl (Q1 (Ub q.cl q.n_now (Q0 0)) (Q1 (U2 (Q1 J2 (Q1 (Ub q.cl q.n_number (Q0 0)) (Q1 (Q0 1) Q7)))) Q7))) (Q0 0)))
def js (C:aA):MS:=(x8 C "kept" (Q4 0) (Uy C "now" (Q4 0)))
def Kp (C:aA):FN:=Yr (js C) 1
theorem Q92:FnScope ["self"] ["self"] (Q6 Ut):=⟨rfl,rfl,rfl,by decide +kernel,rfl,by decide +kernel,by decide +kernel⟩
theorem Q9i {f:aA} {fd:aP} {C:aA} (F:Fun K "keep" "House.keep" Ut f fd) (T:Txt mg) (j:ClsT K C)   : FnOk P w K mg base (CXD P w) 1 f fd ["self"] (spF mg 1 (Kp C)):=by
 refine Wu (k:=0) (m:=(js C)) F Q92 rfl rfl rfl fun q A outer s H E z=>?_
 exact (Qd (Q00 j.cl j.n_kept (Ub j.cl j.n_now (Q0 0)) (Q0 0)))
def jt (C:aA):MS:=(x8 C "now" (Q4 0) (Uy C "kept" (Q4 0)))
def Kq (C:aA):FN:=Yr (jt C) 1
theorem Q93:FnScope ["self"] ["self"] (Q6 Uu):=⟨rfl,rfl,rfl,by decide +kernel,rfl,by decide +kernel,by decide +kernel⟩
theorem Q9j {f:aA} {fd:aP} {C:aA} (F:Fun K "fall" "House.fall" Uu f fd) (T:Txt mg) (j:ClsT K C)   : FnOk P w K mg base (CXD P w) 1 f fd ["self"] (spF mg 1 (Kq C)):=by
 refine Wu (k:=0) (m:=(jt C)) F Q93 rfl rfl rfl fun q A outer s H E z=>?_
 exact (Qd (Q00 j.cl j.n_now (Ub j.cl j.n_kept (Q0 0)) (Q0 0)))
def K5 (C:aA):MS:=(Js (Uy C "kept" (Q4 0)))
def Vf (C:aA):FN:=Qs (K5 C) 1
theorem Q5s:FnScope ["self"] ["self"] (Q6 Va):=⟨rfl,rfl,rfl,by decide +kernel,rfl,by decide +kernel,by decide +kernel⟩
theorem Q60 {f:aA} {fd:aP} {C:aA} (F:Fun K "letter" "House.letter" Va f fd) (T:Txt mg) (j:ClsT K C)   : FnOk P w K mg base (CXD P w) 1 f fd ["self"] (spF mg 1 (Vf C)):=by
 refine J1 (k:=0) (m:=(K5 C)) F Q5s rfl rfl rfl fun q A outer s H E z=>?_
 exact (Qd (Qy (Ub j.cl j.n_kept (Q0 0))))
def ju (C : aA) : MS := (Qr (Wc (Qf 2 Z2 (Q3 (Uy C "now" (Q4 0)) (Q3 (Q4 1) Q9))))
  (Qr (Ym (U9 (toB (Qf 2 Vr (Q3 (mOp oIx (Q4 1) (Uy C "number" (Q4 0))) (Q3 (mOp oIx (Uy C "now" (Q4 0)) (Uy C "number" (Q4 0))) Q9))))) (qf "NoLetter" (mC (.str "it tells more of this house than the house did"))) Y1)
  (x8 C "now" (Q4 0) (Qf 2 Q1w (Q3 (Uy C "now" (Q4 0)) (Q3 (Q4 1) Q9))))))
def Kr (C:aA):FN:=Yr (ju C) 2
theorem Q94:FnScope ["self", "table"] ["self", "table"] (Q6 Uv):=⟨rfl,rfl,rfl,by decide +kernel,rfl,by decide +kernel,by decide +kernel⟩
theorem Q9k {f:aA} {fd:aP} {C:aA} (F:Fun K "come" "House.come" Uv f fd) (T:Txt mg) (G:ClsT K C) (z:∃ C,mg "NoLetter" = some (.ref C)/\ba K C Xn "ValueError.__new__" = true) (j:DefS P w K mg base 1 "need_as_many_houses" 2 Z2) (q:DefS P w K mg base 1 "is_row_within" 2 Vr) (B:DefS P w K mg base 2 "joined" 2 Q1w):FnOk P w K mg base (CXD P w) 3 f fd ["self", "table"] (spF mg 2 (Kr C)):=by
 refine Wu (k:=2) (m:=(ju C)) F Q94 rfl rfl rfl fun J A outer s H E I=>?_
 exact (Qb (Yf (Qg j (I.mono (by decide)) Qc rfl (Q1 (Ub G.cl G.n_now (Q0 0)) (Q1 (Q0 1) Q7))))
  (Qb (Z4 (U1 (Wa (Qg q (I.mono (by decide)) Qc rfl (Q1 (Qu (Q0 1) (Ub G.cl G.n_number (Q0 0))) (Q1 (Qu (Ub G.cl G.n_now (Q0 0)) (Ub G.cl G.n_number (Q0 0))) Q7))))) (Qd (Ua rfl Vk rfl z.choose_spec.1 z.choose_spec.2 J2)) Zs)
  (Qd (Q00 G.cl G.n_now (Qg B (I.mono (by decide)) Qc rfl (Q1 (Ub G.cl G.n_now (Q0 0)) (Q1 (Q0 1) Q7))) (Q0 0)))))
def qp (C:aA):MS:=(Js (Uy C "now" (Q4 0)))
def Xe (C:aA):FN:=Qs (qp C) 1
theorem Q6z:FnScope ["self"] ["self"] (Q6 U0):=⟨rfl,rfl,rfl,by decide +kernel,rfl,by decide +kernel,by decide +kernel⟩
theorem Q7h {f:aA} {fd:aP} {C:aA} (F:Fun K "table" "House.table" U0 f fd) (T:Txt mg) (j:ClsT K C)   : FnOk P w K mg base (CXD P w) 1 f fd ["self"] (spF mg 1 (Xe C)):=by
 refine J1 (k:=0) (m:=(qp C)) F Q6z rfl rfl rfl fun q A outer s H E z=>?_
 exact (Qd (Qy (Ub j.cl j.n_now (Q0 0))))
def Q1g (C:aA):MS:=(Js (Qf 2 X9 (Q3 (Uy C "now" (Q4 0)) (Q3 (Uy C "number" (Q4 0)) Q9))))
def Q1y (C:aA):FN:=Qs (Q1g C) 1
theorem Q5r:FnScope ["self"] ["self"] (Q6 V9):=⟨rfl,rfl,rfl,by decide +kernel,rfl,by decide +kernel,by decide +kernel⟩
theorem Q5z {f:aA} {fd:aP} {C:aA} (F:Fun K "rights" "House.rights" V9 f fd) (T:Txt mg) (q:ClsT K C)  (j:DefS P w K mg base 4 "rights_tables" 2 X9):FnOk P w K mg base (CXD P w) 5 f fd ["self"] (spF mg 1 (Q1y C)):=by
 refine J1 (k:=4) (m:=(Q1g C)) F Q5r rfl rfl rfl fun z A outer s H E B=>?_
 exact (Qd (Qy (Qg j (B.mono (by decide)) Qc rfl (Q1 (Ub q.cl q.n_now (Q0 0)) (Q1 (Ub q.cl q.n_number (Q0 0)) Q7)))))
def Q3u (C:aA):MS:=(Wc (Qf 1 Qbw (Q3 (mC (.int 0)) Q9)))
def Q49 (C:aA):FN:=Qs (Q3u C) 1
theorem Q8z:FnScope ["self"] ["self"] (Q6 Uq):=⟨rfl,rfl,rfl,by decide +kernel,rfl,by decide +kernel,by decide +kernel⟩
theorem Q9f {f:aA} {fd:aP} {C:aA} (F:Fun K "used" "House.used" Uq f fd) (T:Txt mg) (B:ClsT K C)  (j:DefS P w K mg base 1 "_wall" 1 Qbw):FnOk P w K mg base (CXD P w) 2 f fd ["self"] (spF mg 1 (Q49 C)):=by
 refine J1 (k:=1) (m:=(Q3u C)) F Q8z rfl rfl rfl fun q A outer s H E z=>?_
 exact (Qd (Yf (Qg j (z.mono (by decide)) Qc rfl (Q1 Qa Q7))))
def Y7:MS:=(Js (Q51 (Qf 1 Qj (Q3 (Q4 0) Q9)) (mOp oEq (J7 Yx (Q3 (Q4 0) Q9)) (jv (mOp oIx (Q4 0) (mC (.int 0)))))))
def J9:FN:=Qs Y7 1
theorem Q4h:FnScope ["thing"] ["thing"] (Q6 Wk):=⟨rfl,rfl,rfl,by decide +kernel,rfl,by decide +kernel,by decide +kernel⟩
theorem Q4t {f:aA} {fd:aP} (F:Fun K "is_other_deed" "is_other_deed" Wk f fd) (T:Txt mg) (PO:PartsO P w K mg)  (j:DefS P w K mg base 2 "is_text_and_numbers" 1 Qj):FnOk P w K mg base (CXD P w) 3 f fd ["thing"] (spF mg 1 J9):=by
 refine J1 (k:=2) (m:=Y7) F Q4h rfl rfl rfl fun z A outer s H E q=>?_
 exact (Qd (Qy (Q03 (Qg j (q.mono (by decide)) Qc rfl (Q1 (Q0 0) Q7)) (Q15 (Kv (V1 q.units) (Qw Yi rfl T.b_len bY (Q1 (Q0 0) Q7)) (Qga PO rfl (Qu (Q0 0) Qa)))))))
def Yd:MS:=(Ym (toB (Qf 1 W5 (Q3 (Q4 2) Q9))) (Wc (Qf 2 Ja (Q3 (Q4 0) (Q3 (Q4 2) Q9)))) (Ym (U9 (toB (Qf 1 J9 (Q3 (Q4 2) Q9)))) (qf "NoDeed" (mC (.str "a deed of no kind that runs have"))) (Ym (U9 (toB (Qf 2 Yj (Q3 (Q4 0) (Q3 (mOp oIx (Q4 2) (Q50 (mC (.int 1)))) Q9))))) (qf "NoHouse" (mC (.str "no house of this run"))) (Ym (Q0t (toB (mOp oEq (mOp oIx (Q4 2) (mC (.int 0))) (mC (.str "come")))) (U9 (toB (Q1h (oI fun a b=>.bl (decide (a<=b))) oLt (mC (.int 0)) (mOp oIx (Q4 2) (mC (.int 1))) (J7 Yx (Q3 (Q4 1) Q9)))))) (qf "NoLetter" (mC (.str "no letter of this number is put by so far"))) Y1))))
def Jf:FN:=Qs Yd 3
theorem Q2d:FnScope ["table", "letters", "deed"] ["table", "letters", "deed"] (Q6 Ys):=⟨rfl,rfl,rfl,by decide +kernel,rfl,by decide +kernel,by decide +kernel⟩
theorem Q2h {f:aA} {fd:aP} (F:Fun K "need_deed_of_run" "need_deed_of_run" Ys f fd) (T:Txt mg) (G:∃ C,mg "NoDeed" = some (.ref C)/\ba K C Xn "ValueError.__new__" = true) (B:∃ C,mg "NoHouse" = some (.ref C)/\ba K C Xn "ValueError.__new__" = true) (z:∃ C,mg "NoLetter" = some (.ref C)/\ba K C Xn "ValueError.__new__" = true) (J:DefS P w K mg base 3 "is_deed" 1 W5) (j:DefS P w K mg base 4 "need_houses_of_deed" 2 Ja) (q:DefS P w K mg base 3 "is_other_deed" 1 J9) (I:DefS P w K mg base 3 "is_house" 2 Yj):FnOk P w K mg base (CXD P w) 5 f fd ["table", "letters", "deed"] (spF mg 3 Jf):=by
 refine J1 (k:=4) (m:=Yd) F Q2d rfl rfl rfl fun U A outer s H E O=>?_
 exact (Qd (Z4 (Wa (Qg J (O.mono (by decide)) Qc rfl (Q1 (Q0 2) Q7))) (Qd (Yf (Qg j (O.mono (by decide)) Qc rfl (Q1 (Q0 0) (Q1 (Q0 2) Q7))))) (Qd (Z4 (U1 (Wa (Qg q (O.mono (by decide)) Qc rfl (Q1 (Q0 2) Q7)))) (Qd (Ua rfl Vk rfl G.choose_spec.1 G.choose_spec.2 J2)) (Qd (Z4 (U1 (Wa (Qg I (O.mono (by decide)) Qc rfl (Q1 (Q0 0) (Q1 (Qu (Q0 2) (Q16 Qa)) Q7))))) (Qd (Ua rfl Vk rfl B.choose_spec.1 B.choose_spec.2 J2)) (Qd (Z4 (SimW.t (Q6s (Jc (V1 O.units) (Qu (Q0 2) Qa) J2) (Q3a (U1 (Qc3 Qa4 (Q3m O.units) Qa (Qu (Q0 2) Qa) (Qw Yi rfl T.b_len bY (Q1 (Q0 1) Q7))))))) (Qd (Ua rfl Vk rfl z.choose_spec.1 z.choose_spec.2 J2)) Zs))))))))
def y8 (C : aA) : MS := (Qr (Jh 2 (mOp oIx (Q4 0) (mOp oIx (Q4 1) (mC (.int 1)))))
  (Ym (toB (mOp oEq (mOp oIx (Q4 1) (mC (.int 0))) (mC (.str "make")))) (Wc (xb C "make" 2 (Km C) (Q4 2) (Q3 (mOp oIx (Q4 1) (mC (.int 2))) Q9))) (Ym (toB (mOp oEq (mOp oIx (Q4 1) (mC (.int 0))) (mC (.str "lend")))) (Wc (xb C "lend" 3 (Kn C) (Q4 2) (Q3 (mOp oIx (Q4 1) (mC (.int 2))) (Q3 (mOp oIx (Q4 1) (mC (.int 3))) Q9)))) (Wc (xb C "use" 2 (j4 C) (Q4 2) (Q3 (mOp oIx (Q4 1) (mC (.int 2))) Q9))))))
def Wz (C:aA):FN:=Yr (y8 C) 3
theorem sc_do_own_deed:FnScope ["houses", "deed", "house"] ["houses", "deed"] (Q6 Vs):=⟨rfl,rfl,rfl,by decide +kernel,rfl,by decide +kernel,by decide +kernel⟩
theorem Q79 {f:aA} {fd:aP} {C:aA} (F:Fun K "do_own_deed" "do_own_deed" Vs f fd) (T:Txt mg) (G:ClsT K C)   (q:MethS P w K mg base 6 C "make" 2 (Km C)) (j:MethS P w K mg base 6 C "lend" 3 (Kn C)) (z:MethS P w K mg base 6 C "use" 2 (j4 C)):FnOk P w K mg base (CXD P w) 7 f fd ["houses", "deed"] (spF mg 2 (Wz C)):=by
 refine Wu (k:=6) (m:=(y8 C)) F sc_do_own_deed rfl rfl rfl fun I A outer s H E B=>?_
 exact (Qb (Qz 2 sc_do_own_deed.nd (Qu (Q0 0) (Qu (Q0 1) Qa)))
  (Qd (Z4 (Jc (V1 B.units) (Qu (Q0 1) Qa) J2) (Qd (Yf (Q6a G.cl q (B.mono (by decide)) Qc (Q0 2) (Q1 (Qu (Q0 1) Qa) Q7)))) (Qd (Z4 (Jc (V1 B.units) (Qu (Q0 1) Qa) J2) (Qd (Yf (Q6a G.cl j (B.mono (by decide)) Qc (Q0 2) (Q1 (Qu (Q0 1) Qa) (Q1 (Qu (Q0 1) Qa) Q7))))) (Qd (Yf (Q6a G.cl z (B.mono (by decide)) Qc (Q0 2) (Q1 (Qu (Q0 1) Qa) Q7)))))))))
def Wn (C : aA) : MS := (Qr (Jh 3 (mOp oIx (Q4 0) (mOp oIx (Q4 2) (Q50 (mC (.int 1))))))
  (Ym (toB (mOp oEq (mOp oIx (Q4 2) (mC (.int 0))) (mC (.str "keep")))) (Wc (xb C "keep" 1 (Kp C) (Q4 3) Q9)) (Ym (toB (mOp oEq (mOp oIx (Q4 2) (mC (.int 0))) (mC (.str "fall")))) (Wc (xb C "fall" 1 (Kq C) (Q4 3) Q9)) (Ym (toB (mOp oEq (mOp oIx (Q4 2) (mC (.int 0))) (mC (.str "send")))) (Wc (mBM Vm (Q4 1) (Q3 (xb C "letter" 1 (Vf C) (Q4 3) Q9) Q9))) (Wc (xb C "come" 2 (Kr C) (Q4 3) (Q3 (mOp oIx (Q4 1) (mOp oIx (Q4 2) (mC (.int 1)))) Q9)))))))
def Xg (C:aA):FN:=Yr (Wn C) 4
theorem sc_do_other_deed:FnScope ["houses", "letters", "deed", "house"] ["houses", "letters", "deed"] (Q6 Wm):=⟨rfl,rfl,rfl,by decide +kernel,rfl,by decide +kernel,by decide +kernel⟩
theorem Q4u {f:aA} {fd:aP} {C:aA} (F:Fun K "do_other_deed" "do_other_deed" Wm f fd) (T:Txt mg) (I:ClsT K C)   (q:MethS P w K mg base 1 C "keep" 1 (Kp C)) (z:MethS P w K mg base 1 C "fall" 1 (Kq C)) (j:MethS P w K mg base 1 C "letter" 1 (Vf C)) (B:MethS P w K mg base 3 C "come" 2 (Kr C)):FnOk P w K mg base (CXD P w) 4 f fd ["houses", "letters", "deed"] (spF mg 3 (Xg C)):=by
 refine Wu (k:=3) (m:=(Wn C)) F sc_do_other_deed rfl rfl rfl fun J A outer s H E G=>?_
 exact (Qb (Qz 3 sc_do_other_deed.nd (Qu (Q0 0) (Qu (Q0 2) (Q16 Qa))))
  (Qd (Z4 (Jc (V1 G.units) (Qu (Q0 2) Qa) J2) (Qd (Yf (Q3d I.cl q (G.mono (by decide)) Qc (Q0 3)))) (Qd (Z4 (Jc (V1 G.units) (Qu (Q0 2) Qa) J2) (Qd (Yf (Q3d I.cl z (G.mono (by decide)) Qc (Q0 3)))) (Qd (Z4 (Jc (V1 G.units) (Qu (Q0 2) Qa) J2) (Qd (Yf (z8 (Q0 1) (Q1 (Q3d I.cl j (G.mono (by decide)) Qc (Q0 3)) Q7)))) (Qd (Yf (Q6a I.cl B (G.mono (by decide)) Qc (Q0 3) (Q1 (Qu (Q0 1) (Qu (Q0 2) Qa)) Q7)))))))))))
def qw (C : aA) : MS := (Qr (Ym (toB (Qf 1 J9 (Q3 (Q4 2) Q9))) (Qr (Wc (Qf 3 (Xg C) (Q3 (Q4 0) (Q3 (Q4 1) (Q3 (Q4 2) Q9)))))
  (Js (mC (.str "done")))) Y1)
  (Qr (Qcx "Short" "had" 3 2 (Wz C) (Q3 (Q4 0) (Q3 (Q4 2) Q9)))
  (Js (mC (.str "done")))))
def y6 (C:aA):FN:=Yr (qw C) 4
theorem sc_answer_to:FnScope ["houses", "letters", "deed", "refusal"] ["houses", "letters", "deed"] (Q6 Xr):=⟨rfl,rfl,rfl,by decide +kernel,rfl,by decide +kernel,by decide +kernel⟩
theorem Qb7 {f:aA} {fd:aP} {C:aA} (F:Fun K "answer_to" "answer_to" Xr f fd) (T:Txt mg) (Y:ClsT K C) (I:∃ C,mg "Short" = some (.ref C)/\dA K (.ref C) (.ref C)=some true/\XGet K C "had")  (j:DefS P w K mg base 3 "is_other_deed" 1 J9) (q:DefS P w K mg base 4 "do_other_deed" 3 (Xg C)) (z:DefS P w K mg base 7 "do_own_deed" 2 (Wz C)):FnOk P w K mg base (CXD P w) 8 f fd ["houses", "letters", "deed"] (spF mg 3 (y6 C)):=by
 obtain ⟨Z,O,G,J⟩:=I;refine Wu (k:=7) (m:=(qw C)) F sc_answer_to rfl rfl rfl fun U A outer s H E B=>?_
 exact (Qb (Z4 (Wa (Qg j (B.mono (by decide)) Qc rfl (Q1 (Q0 2) Q7))) (Qb (Yf (Qg q (B.mono (by decide)) Qc rfl (Q1 (Q0 0) (Q1 (Q0 1) (Q1 (Q0 2) Q7)))))
  (Qd (Qy J2))) Zs)
  (Qb (Qmn z (B.mono (by decide)) (Q1 (Q0 0) (Q1 (Q0 2) Q7)) sc_answer_to.nd O G J)
  (Qd (Qy J2))))
def Q0p (C:aA):ME:=(Qqn C 3 (We C) (Q3 (Q4 0) (Q3 (Q4 1) Q9)))
def Q37 (C : aA) : MS := (Qr (Wc (Qf 3 Jf (Q3 (Q4 0) (Q3 (Q4 3) (Q3 (Q4 5) Q9)))))
  (Wc (mBM Vm (Q4 4) (Q3 (Qf 3 (y6 C) (Q3 (Q4 2) (Q3 (Q4 3) (Q3 (Q4 5) Q9)))) Q9))))
def Q8e (C:aA):ME:=(xb C "table" 1 (Xe C) (Q4 0) Q9)
def Q7q (C : aA) : MS := (Qr (Wc (Qf 1 Ye (Q3 (Q4 0) Q9)))
  (Qr (Jh 2 (qd (Yh [none,some 0] (Qp 0) (W2 (Q3 (J7 Yx (Q3 (Q4 0) Q9)) Q9)) Zr (Q0p C))))
  (Qr (Jh 3 (Q0y (y0 Q9)))
  (Qr (Jh 4 (Q0y (y0 Q9)))
  (Qr (Q7u (Qp 5) (yy (Q4 1)) (Q37 C))
  (Js (Kt (Q3 (Q4 4) (Q3 (Q0y (Yh [none] (Qp 0) (yy (Q4 2)) Zr (Q8e C))) Q9)))))))))
def Kh (C:aA):FN:=Yr (Q7q C) 6
theorem sc_played:FnScope ["table", "deeds", "houses", "letters", "answers", "deed"] ["table", "deeds"] (Q6 yr):=⟨rfl,rfl,rfl,by decide +kernel,rfl,by decide +kernel,by decide +kernel⟩
theorem Qgs {f:aA} {fd:aP} {C:aA} (F:Fun K "played" "played" yr f fd) (T:Txt mg) (J:ClsT K C)  (q:DefS P w K mg base 7 "need_comes_about" 1 Ye) (j:DefS P w K mg base 5 "need_deed_of_run" 3 Jf) (B:DefS P w K mg base 8 "answer_to" 3 (y6 C)) (G:MakeS P w K mg base 8 C "House" 3 (We C)) (z:MethS P w K mg base 1 C "table" 1 (Xe C)):FnOk P w K mg base (CXD P w) 10 f fd ["table", "deeds"] (spF mg 2 (Kh C)):=by
 refine Wu (k:=9) (m:=(Q7q C)) F sc_played rfl rfl rfl fun O A outer s H E I=>?_
 exact (Qb (Yf (Qg q (I.mono (by decide)) Qc rfl (Q1 (Q0 0) Q7)))
  (Qb (by first | exact Q3b [none,some 0] ["number", "table"] 2 sc_played.nd rfl (Yz rfl T.b_range (Q1 (Qw Yi rfl T.b_len bY (Q1 (Q0 0) Q7)) Q7)) (fun _ _ _ _ _=>(J3 (i:=0) (show (["number", "table"]:List Str).Nodup by decide +kernel))) (fun _ _ _ _ _=>(Qf5 G (I.mono (by decide)) K3 rfl (Q1 (Q0 0) (Q1 (Q0 1) Q7)))) (fun _ _ _ _ _=>W9) Jq | exact Qz 2 sc_played.nd (Vg (Yp [none,some 0] ["number", "table"] rfl (Yz rfl T.b_range (Q1 (Qw Yi rfl T.b_len bY (Q1 (Q0 0) Q7)) Q7)) (fun _ _ _ _ _=>(J3 (i:=0) (show (["number", "table"]:List Str).Nodup by decide +kernel))) (fun _ _ _ _ _=>(Qf5 G (I.mono (by decide)) K3 rfl (Q1 (Q0 0) (Q1 (Q0 1) Q7)))) (fun _ _ _ _ _=>W9) Jq)))
  (Qb (Qz 3 sc_played.nd (j9 (Q01 Q7)))
  (Qb (Qz 4 sc_played.nd (j9 (Q01 Q7)))
  (Qb (Q13 PassesOwn.leaving rfl (Ku (Q0 1)) (J3 (i:=5) sc_played.nd) (Qb (Yf (Qg j (I.mono (by decide)) Qc rfl (Q1 (Q0 0) (Q1 (Q0 3) (Q1 (Q0 5) Q7)))))
  (Qd (Yf (z8 (Q0 4) (Q1 (Qg B (I.mono (by decide)) Qc rfl (Q1 (Q0 2) (Q1 (Q0 3) (Q1 (Q0 5) Q7)))) Q7))))))
  (Qd (Qy (U2 (Q1 (Q0 4) (Q1 (j9 (Yp [none] ["house"] rfl (Ku (Q0 2)) (fun _ _ _ _ _=>(J3 (i:=0) (show (["house"]:List Str).Nodup by decide +kernel))) (fun _ _ _ _ _=>(Q3d J.cl z (I.mono (by decide)) K3 (Q0 0))) (fun _ _ _ _ _=>W9) Jq)) Q7))))))))))
def jp : MS := (Qr (Ym (toB (mOp oLt (Q4 1) (J7 Yx (Q3 (Q4 0) Q9)))) (Js (mOp oIx (Q4 0) (Q4 1))) Y1)
  (Js (mC (.int 0))))
def Uz:FN:=Qs jp 2
theorem Q8x:FnScope ["script", "k"] ["script", "k"] (Q6 Um):=⟨rfl,rfl,rfl,by decide +kernel,rfl,by decide +kernel,by decide +kernel⟩
theorem Q9d {f:aA} {fd:aP} (F:Fun K "_law_acell" "_law_acell" Um f fd) (T:Txt mg)   : FnOk P w K mg base (CXD P w) 1 f fd ["script", "k"] (spF mg 2 Uz):=by
 refine J1 (k:=0) (m:=jp) F Q8x rfl rfl rfl fun j A outer s H E q=>?_
 exact (Qb (Z4 (Jc (Q3m q.units) (Q0 1) (Qw Yi rfl T.b_len bY (Q1 (Q0 0) Q7))) (Qd (Qy (Qu (Q0 0) (Q0 1)))) Zs)
  (Qd (Qy Qa)))
def zr : MS := (Qr (Jh 4 (mOp Ww (mOp Q61 (Q4 4) (Q4 3)) (Q4 5)))
  (Jh 5 (mOp Q3q (mOp Ww (mOp Ww (mOp Q61 (Q4 5) (Q4 5)) (mOp Q61 (mC (.int 40692)) (Q4 1))) (Q4 6)) (Q4 3))))
def jm : MS := (Qr (Jh 2 (Qf 2 Uz (Q3 (Q4 0) (Q3 (Q4 1) Q9))))
  (Qr (Ym (toB (mOp oEq (mOp Q3q (Q4 2) (mC (.int 2))) (mC (.int 0)))) (Js (Q0y (y0 (Q3 (mOp Qp1 (Q4 2) (mC (.int 2))) Q9)))) Y1)
  (Qr (Jh 3 (mC (.int 2305843009213693951)))
  (Qr (Jh 4 (mC (.int 0)))
  (Qr (Jh 5 (mOp Q3q (mOp Ww (mOp Ww (mOp Q61 (mOp Q3q (Q4 2) (Q4 3)) (mC (.int 48271))) (mOp Q61 (mC (.int 69621)) (Q4 1))) (mC (.int 11))) (Q4 3)))
  (Qr (Q7u (Qp 6) (W2 (Q3 (mC (.int 5)) Q9)) zr)
  (Js (Q0y (y0 (Q3 (Q4 4) Q9))))))))))
def Wb:FN:=Yr jm 7
theorem sc__law_atape:FnScope ["script", "k", "cell", "p", "number", "last", "turn"] ["script", "k"] (Q6 Ui):=⟨rfl,rfl,rfl,by decide +kernel,rfl,by decide +kernel,by decide +kernel⟩
theorem Q9a {f:aA} {fd:aP} (F:Fun K "_law_atape" "_law_atape" Ui f fd) (T:Txt mg)  (j:DefS P w K mg base 1 "_law_acell" 2 Uz):FnOk P w K mg base (CXD P w) 2 f fd ["script", "k"] (spF mg 2 Wb):=by
 refine Wu (k:=1) (m:=jm) F sc__law_atape rfl rfl rfl fun z A outer s H E q=>?_
 exact (Qb (Qz 2 sc__law_atape.nd (Qg j (q.mono (by decide)) Qc rfl (Q1 (Q0 0) (Q1 (Q0 1) Q7))))
  (Qb (Z4 (Jc (V1 q.units) (Jd Q1b (Q0 2) Qa) Qa) (Qd (Qy (j9 (Q01 (Q1 (Jd Qs4 (Q0 2) Qa) Q7))))) Zs)
  (Qb (Qz 3 sc__law_atape.nd Qa)
  (Qb (Qz 4 sc__law_atape.nd Qa)
  (Qb (Qz 5 sc__law_atape.nd (Jd Q1b (Jd Zt (Jd Zt (Jd Q4p (Jd Q1b (Q0 2) (Q0 3)) Qa) (Jd Q4p Qa (Q0 1))) Qa) (Q0 3)))
  (Qb (Q13 PassesOwn.leaving rfl (Yz rfl T.b_range (Q1 Qa Q7)) (J3 (i:=6) sc__law_atape.nd) (Qb (Qz 4 sc__law_atape.nd (Jd Zt (Jd Q4p (Q0 4) (Q0 3)) (Q0 5)))
  (Qd (Qz 5 sc__law_atape.nd (Jd Q1b (Jd Zt (Jd Zt (Jd Q4p (Q0 5) (Q0 5)) (Jd Q4p Qa (Q0 1))) (Q0 6)) (Q0 3))))))
  (Qd (Qy (j9 (Q01 (Q1 (Q0 4) Q7)))))))))))
def yf : MS := (Qr (Jh 2 (mOp Q3q (mOp oIx (Q4 0) (mC (.int 0))) (Q4 1)))
  (Qr (Q0h (Q4 0) (mC (.int 0)) (mOp Qfh (mOp oIx (Q4 0) (mC (.int 0))) (Q4 1)))
  (Js (Q4 2))))
def Qi:FN:=Qs yf 3
theorem sc__law_adigit:FnScope ["tape", "many", "found"] ["tape", "many"] (Q6 Vy):=⟨rfl,rfl,rfl,by decide +kernel,rfl,by decide +kernel,by decide +kernel⟩
theorem Q7f {f:aA} {fd:aP} (F:Fun K "_law_adigit" "_law_adigit" Vy f fd) (T:Txt mg)   : FnOk P w K mg base (CXD P w) 1 f fd ["tape", "many"] (spF mg 2 Qi):=by
 refine J1 (k:=0) (m:=yf) F sc__law_adigit rfl rfl rfl fun j A outer s H E q=>?_
 exact (Qb (Qz 2 sc__law_adigit.nd (Jd Q1b (Qu (Q0 0) Qa) (Q0 1)))
  (Qb (Q6u (Jd Qnt (Qu (Q0 0) Qa) (Q0 1)) (Q0 0) Qa)
  (Qd (Qy (Q0 2)))))
def xm:ME:=(mOp oIx (mOp oIx (Q4 2) (Q4 0)) (Q4 1))
def xk:ME:=(Q4 0)
def zh : MS := (Qr (Jh 2 (J7 (Kg fun ns => some (.int ns.sum)) (Q3 (qd (Yh [none, some 1, some 0] (Qp 0) (W2 (Q3 (J7 Yx (Q3 (Q4 0) Q9)) Q9)) Zr xm)) Q9)))
  (Js (mOp Ww (mOp (oI fun a b=>.int (a - b)) (Q4 2) (J7 (Kg fun ns=>some (.int ns.sum)) (Q3 (qd (Yh [none] (Qp 0) (yy (mOp oIx (Q4 0) (Q4 1))) Zr xk)) Q9))) (mOp oIx (mOp oIx (Q4 0) (Q4 1)) (Q4 1)))))
def Zn:FN:=Qs zh 3
theorem sc__law_arights:FnScope ["table", "i", "lent"] ["table", "i"] (Q6 V5):=⟨rfl,rfl,rfl,by decide +kernel,rfl,by decide +kernel,by decide +kernel⟩
theorem Q5v {f:aA} {fd:aP} (F:Fun K "_law_arights" "_law_arights" V5 f fd) (T:Txt mg)   : FnOk P w K mg base (CXD P w) 1 f fd ["table", "i"] (spF mg 2 Zn):=by
 refine J1 (k:=0) (m:=zh) F sc__law_arights rfl rfl rfl fun j A outer s H E q=>?_
 exact (Qb (Qz 2 sc__law_arights.nd (Qw (Q8f rfl) rfl T.b_sum Q1t (Q1 (Vg (Yp [none,some 1,some 0] ["j", "i", "table"] rfl (Yz rfl T.b_range (Q1 (Qw Yi rfl T.b_len bY (Q1 (Q0 0) Q7)) Q7)) (fun _ _ _ _ _=>(J3 (i:=0) (show (["j", "i", "table"]:List Str).Nodup by decide +kernel))) (fun _ _ _ _ _=>(Qu (Qu (Q0 2) (Q0 0)) (Q0 1))) (fun _ _ _ _ _=>W9) Jq)) Q7)))
  (Qd (Qy (Jd Zt (Jd Q1a (Q0 2) (Qw (Q8f rfl) rfl T.b_sum Q1t (Q1 (Vg (Yp [none] ["number"] rfl (Ku (Qu (Q0 0) (Q0 1))) (fun _ _ _ _ _=>(J3 (i:=0) (show (["number"]:List Str).Nodup by decide +kernel))) (fun _ _ _ _ _=>(Q0 0)) (fun _ _ _ _ _=>W9) Jq)) Q7))) (Qu (Qu (Q0 0) (Q0 1)) (Q0 1))))))
def zp:ME:=(J7 Xm (Q3 (mOp Q61 (Q3x (Q3 (mC (.int 0)) Q9)) (mOp Ww (Q4 1) (mC (.int 1)))) Q9))
def Q0g:MS:=(Js (J7 Xm (Q3 (qd (Yh [none,some 0] (Qp 0) (W2 (Q3 (Q4 0) Q9)) Zr zp)) Q9)))
def jz:FN:=Qs Q0g 1
theorem Q8y:FnScope ["size"] ["size"] (Q6 Up):=⟨rfl,rfl,rfl,by decide +kernel,rfl,by decide +kernel,by decide +kernel⟩
theorem Q9e {f:aA} {fd:aP} (F:Fun K "_law_abare" "_law_abare" Up f fd) (T:Txt mg)   : FnOk P w K mg base (CXD P w) 1 f fd ["size"] (spF mg 1 jz):=by
 refine J1 (k:=0) (m:=Q0g) F Q8y rfl rfl rfl fun j A outer s H E q=>?_
 exact (Qd (Qy (qv xn rfl T.b_tuple Wy (Q1 (Vg (Yp [none,some 0] ["i", "size"] rfl (Yz rfl T.b_range (Q1 (Q0 0) Q7)) (fun _ _ _ _ _=>(J3 (i:=0) (show (["i", "size"]:List Str).Nodup by decide +kernel))) (fun _ _ _ _ _=>(qv xn rfl T.b_tuple Wy (Q1 (Jd Q4p (Q4e (Q1 Qa Q7)) (Jd Zt (Q0 1) Qa)) Q7))) (fun _ _ _ _ _=>W9) Jq)) Q7))))
def zi : MS := (Qr (Jh 4 (mOp Ww (mOp Ww (mSl (mOp oIx (Q4 0) (Q4 1)) K6 (x9 (Q4 2))) (Kt (Q3 (mOp Ww (mOp oIx (mOp oIx (Q4 0) (Q4 1)) (Q4 2)) (Q4 3)) Q9))) (mSl (mOp oIx (Q4 0) (Q4 1)) (x9 (mOp Ww (Q4 2) (mC (.int 1)))) K6)))
  (Js (mOp Ww (mOp Ww (mSl (Q4 0) K6 (x9 (Q4 1))) (Kt (Q3 (Q4 4) Q9))) (mSl (Q4 0) (x9 (mOp Ww (Q4 1) (mC (.int 1)))) K6))))
def Y6:FN:=Qs zi 5
theorem sc__law_araised:FnScope ["table", "i", "at", "k", "row"] ["table", "i", "at", "k"] (Q6 V6):=⟨rfl,rfl,rfl,by decide +kernel,rfl,by decide +kernel,by decide +kernel⟩
theorem Q5w {f:aA} {fd:aP} (F:Fun K "_law_araised" "_law_araised" V6 f fd) (T:Txt mg)   : FnOk P w K mg base (CXD P w) 1 f fd ["table", "i", "at", "k"] (spF mg 4 Y6):=by
 refine J1 (k:=0) (m:=zi) F sc__law_araised rfl rfl rfl fun j A outer s H E q=>?_
 exact (Qb (Qz 4 sc__law_araised.nd (Jd Zt (Jd Zt (X4 (Qu (Q0 0) (Q0 1)) jj (K0 (Q0 2))) (U2 (Q1 (Jd Zt (Qu (Qu (Q0 0) (Q0 1)) (Q0 2)) (Q0 3)) Q7))) (X4 (Qu (Q0 0) (Q0 1)) (K0 (Jd Zt (Q0 2) Qa)) jj)))
  (Qd (Qy (Jd Zt (Jd Zt (X4 (Q0 0) jj (K0 (Q0 1))) (U2 (Q1 (Q0 4) Q7))) (X4 (Q0 0) (K0 (Jd Zt (Q0 1) Qa)) jj)))))
def qi:ME:=(J7 Q8k (Q3 (Q4 0) (Q3 (Q4 1) Q9)))
def xt:MS:=(Wc (mBM Vm (Q4 2) (Q3 (J7 Xm (Q3 (qd (Yh [none,none] (qx (Y0 (Qp 0) (Y0 (Qp 1) qy))) (Q63 (Q3 (Q4 3) (Q3 (Q4 4) Q9))) Zr qi)) Q9)) Q9)))
def zk : MS := (Qr (Jh 2 (Q0y (y0 Q9)))
  (Qr (Q7u (qx (Y0 (Qp 3) (Y0 (Qp 4) qy))) (Q63 (Q3 (Q4 0) (Q3 (Q4 1) Q9))) xt)
  (Js (J7 Xm (Q3 (Q4 2) Q9)))))
def Kk:FN:=Qs zk 5
theorem sc__law_ajoined:FnScope ["one", "other", "rows", "row", "told"] ["one", "other"] (Q6 V8):=⟨rfl,rfl,rfl,by decide +kernel,rfl,by decide +kernel,by decide +kernel⟩
theorem Q5y {f:aA} {fd:aP} (F:Fun K "_law_ajoined" "_law_ajoined" V8 f fd) (T:Txt mg)   : FnOk P w K mg base (CXD P w) 1 f fd ["one", "other"] (spF mg 2 Kk):=by
 refine J1 (k:=0) (m:=zk) F sc__law_ajoined rfl rfl rfl fun j A outer s H E q=>?_
 exact (Qb (Qz 2 sc__law_ajoined.nd (j9 (Q01 Q7)))
  (Qb (Q13 PassesOwn.leaving rfl (Q4c rfl T.b_zip (Q1 (Q0 0) (Q1 (Q0 1) Q7))) (Q2t rfl (Wf (J3 (i:=3) sc__law_ajoined.nd) (Wf (J3 (i:=4) sc__law_ajoined.nd) Q02))) (Qd (Yf (z8 (Q0 2) (Q1 (qv xn rfl T.b_tuple Wy (Q1 (Vg (Yp [none,none] ["number", "more"] rfl (Q4c rfl T.b_zip (Q1 (Q0 3) (Q1 (Q0 4) Q7))) (fun _ _ _ _ _=>(Q2t rfl (Wf (J3 (i:=0) (show (["number", "more"]:List Str).Nodup by decide +kernel)) (Wf (J3 (i:=1) (show (["number", "more"]:List Str).Nodup by decide +kernel)) Q02)))) (fun _ _ _ _ _=>(Qw (Qbm rfl) rfl T.b_max Q47 (Q1 (Q0 0) (Q1 (Q0 1) Q7)))) (fun _ _ _ _ _=>W9) (Q41 (Xu (Xu Q42))))) Q7)) Q7)))))
  (Qd (Qy (qv xn rfl T.b_tuple Wy (Q1 (Q0 2) Q7))))))
def jn : MS := (Qr (Jh 1 (Qf 2 Qi (Q3 (Q4 0) (Q3 (mC (.int 12)) Q9))))
  (Qr (Ym (toB (mOp oEq (Q4 1) (mC (.int 11)))) (Js (mOp (oI fun a b=>.int (a - b)) (mOp Qjn (mC (.int 10)) (mC (.int 20))) (Qf 2 Qi (Q3 (Q4 0) (Q3 (mC (.int 3)) Q9))))) Y1)
  (Js (mOp Ww (mC (.int 1)) (mOp Q3q (Q4 1) (mC (.int 7)))))))
def Vi:FN:=Qs jn 2
theorem sc__law_amuch:FnScope ["tape", "way"] ["tape"] (Q6 Uk):=⟨rfl,rfl,rfl,by decide +kernel,rfl,by decide +kernel,by decide +kernel⟩
theorem Q9c {f:aA} {fd:aP} (F:Fun K "_law_amuch" "_law_amuch" Uk f fd) (T:Txt mg)  (j:DefS P w K mg base 1 "_law_adigit" 2 Qi):FnOk P w K mg base (CXD P w) 2 f fd ["tape"] (spF mg 1 Vi):=by
 refine J1 (k:=1) (m:=jn) F sc__law_amuch rfl rfl rfl fun z A outer s H E q=>?_
 exact (Qb (Qz 1 sc__law_amuch.nd (Qg j (q.mono (by decide)) Qc rfl (Q1 (Q0 0) (Q1 Qa Q7))))
  (Qb (Z4 (Jc (V1 q.units) (Q0 1) Qa) (Qd (Qy (Jd Q1a (Jd Qs3 Qa Qa) (Qg j (q.mono (by decide)) Qc rfl (Q1 (Q0 0) (Q1 Qa Q7)))))) Zs)
  (Qd (Qy (Jd Zt Qa (Jd Q1b (Q0 1) Qa))))))
def jf : MS := (Qr (Jh 5 (Qf 2 Qi (Q3 (Q4 0) (Q3 (Q4 1) Q9))))
  (Qr (Jh 6 (Qf 2 Qi (Q3 (Q4 0) (Q3 (mC (.int 4)) Q9))))
  (Qr (Jh 7 (Qf 2 Zn (Q3 (Q4 3) (Q3 (Q4 5) Q9))))
  (Ym (Q11 (toB (mOp oLt (Q4 6) (mC (.int 2)))) (toB (mOp oEq (Q4 7) (mC (.int 0))))) (Jh 3 (Qf 4 Y6 (Q3 (Q4 3) (Q3 (Q4 5) (Q3 (Q4 5) (Q3 (Qf 1 Vi (Q3 (Q4 0) Q9)) Q9)))))) (Ym (Q0t (toB (mOp oEq (Q4 6) (mC (.int 2)))) (toB (mOp (oI fun a b=>.bl (decide (b < a))) (Q4 1) (mC (.int 1))))) (Qr (Jh 8 (mOp Q3q (mOp Ww (mOp Ww (Q4 5) (mC (.int 1))) (Qf 2 Qi (Q3 (Q4 0) (Q3 (mOp (oI fun a b=>.int (a - b)) (Q4 1) (mC (.int 1))) Q9)))) (Q4 1)))
  (Jh 3 (Qf 4 Y6 (Q3 (Q4 3) (Q3 (Q4 5) (Q3 (Q4 8) (Q3 (mOp Ww (mC (.int 1)) (Qf 2 Qi (Q3 (Q4 0) (Q3 (Q4 7) Q9)))) Q9))))))) (Jh 3 (Qf 4 Y6 (Q3 (Q4 3) (Q3 (Q4 5) (Q3 (Q4 1) (Q3 (mOp Ww (mC (.int 1)) (Qf 2 Qi (Q3 (Q4 0) (Q3 (Q4 7) Q9)))) Q9)))))))))))
def y9 : MS := (Qr (Jh 3 (Qf 1 jz (Q3 (Q4 1) Q9)))
  (Qr (Q7u (Qp 4) (W2 (Q3 (Q4 2) Q9)) jf)
  (Js (Q4 3))))
def Xa:FN:=Qs y9 9
theorem sc__law_atable:FnScope ["tape", "size", "many", "table", "turn", "i", "way", "have", "j"] ["tape", "size", "many"] (Q6 Vu):=⟨rfl,rfl,rfl,by decide +kernel,rfl,by decide +kernel,by decide +kernel⟩
theorem Q7b {f:aA} {fd:aP} (F:Fun K "_law_atable" "_law_atable" Vu f fd) (T:Txt mg)  (B:DefS P w K mg base 1 "_law_abare" 1 jz) (j:DefS P w K mg base 1 "_law_adigit" 2 Qi) (z:DefS P w K mg base 1 "_law_arights" 2 Zn) (q:DefS P w K mg base 1 "_law_araised" 4 Y6) (G:DefS P w K mg base 2 "_law_amuch" 1 Vi):FnOk P w K mg base (CXD P w) 3 f fd ["tape", "size", "many"] (spF mg 3 Xa):=by
 refine J1 (k:=2) (m:=y9) F sc__law_atable rfl rfl rfl fun J A outer s H E I=>?_
 exact (Qb (Qz 3 sc__law_atable.nd (Qg B (I.mono (by decide)) Qc rfl (Q1 (Q0 1) Q7)))
  (Qb (Q13 PassesOwn.leaving rfl (Yz rfl T.b_range (Q1 (Q0 2) Q7)) (J3 (i:=4) sc__law_atable.nd) (Qb (Qz 5 sc__law_atable.nd (Qg j (I.mono (by decide)) Qc rfl (Q1 (Q0 0) (Q1 (Q0 1) Q7))))
  (Qb (Qz 6 sc__law_atable.nd (Qg j (I.mono (by decide)) Qc rfl (Q1 (Q0 0) (Q1 Qa Q7))))
  (Qb (Qz 7 sc__law_atable.nd (Qg z (I.mono (by decide)) Qc rfl (Q1 (Q0 3) (Q1 (Q0 5) Q7))))
  (Qd (Z4 (SimW.t (Q2m (Jc (Q3m I.units) (Q0 6) Qa) (Q12 (Jc (V1 I.units) (Q0 7) Qa)))) (Qd (Qz 3 sc__law_atable.nd (Qg q (I.mono (by decide)) Qc rfl (Q1 (Q0 3) (Q1 (Q0 5) (Q1 (Q0 5) (Q1 (Qg G (I.mono (by decide)) Qc rfl (Q1 (Q0 0) Q7)) Q7))))))) (Qd (Z4 (SimW.t (Q6s (Jc (V1 I.units) (Q0 6) Qa) (Q3a (Jc Q78 (Q0 1) Qa)))) (Qb (Qz 8 sc__law_atable.nd (Jd Q1b (Jd Zt (Jd Zt (Q0 5) Qa) (Qg j (I.mono (by decide)) Qc rfl (Q1 (Q0 0) (Q1 (Jd Q1a (Q0 1) Qa) Q7)))) (Q0 1)))
  (Qd (Qz 3 sc__law_atable.nd (Qg q (I.mono (by decide)) Qc rfl (Q1 (Q0 3) (Q1 (Q0 5) (Q1 (Q0 8) (Q1 (Jd Zt Qa (Qg j (I.mono (by decide)) Qc rfl (Q1 (Q0 0) (Q1 (Q0 7) Q7)))) Q7)))))))) (Qd (Qz 3 sc__law_atable.nd (Qg q (I.mono (by decide)) Qc rfl (Q1 (Q0 3) (Q1 (Q0 5) (Q1 (Q0 1) (Q1 (Jd Zt Qa (Qg j (I.mono (by decide)) Qc rfl (Q1 (Q0 0) (Q1 (Q0 7) Q7)))) Q7)))))))))))))))
  (Qd (Qy (Q0 3)))))
def Q0w:ME:=(Q4 1)
def Q0v:ME:=(Q4 1)
def yc:MS:=(Js (Qba "now" "last" "letters" (Q0y (Yh [none,some 0] (Qp 0) (W2 (Q3 (J7 Yx (Q3 (Q4 0) Q9)) Q9)) Zr Q0w)) (Q0y (Yh [none,some 0] (Qp 0) (W2 (Q3 (J7 Yx (Q3 (Q4 0) Q9)) Q9)) Zr Q0v)) (Q0y (y0 Q9))))
def Xb:FN:=Yr yc 1
theorem Q6y:FnScope ["table"] ["table"] (Q6 Vv):=⟨rfl,rfl,rfl,by decide +kernel,rfl,by decide +kernel,by decide +kernel⟩
theorem Q7c {f:aA} {fd:aP} (F:Fun K "_law_astart" "_law_astart" Vv f fd) (T:Txt mg)   : FnOk P w K mg base (CXD P w) 1 f fd ["table"] (spF mg 1 Xb):=by
 refine Wu (k:=0) (m:=yc) F Q6y rfl rfl rfl fun j A outer s H E q=>?_
 exact (Qd (Qy (Qin (j9 (Yp [none,some 0] ["i", "table"] rfl (Yz rfl T.b_range (Q1 (Qw Yi rfl T.b_len bY (Q1 (Q0 0) Q7)) Q7)) (fun _ _ _ _ _=>(J3 (i:=0) (show (["i", "table"]:List Str).Nodup by decide +kernel))) (fun _ _ _ _ _=>(Q0 1)) (fun _ _ _ _ _=>W9) Jq)) (j9 (Yp [none,some 0] ["i", "table"] rfl (Yz rfl T.b_range (Q1 (Qw Yi rfl T.b_len bY (Q1 (Q0 0) Q7)) Q7)) (fun _ _ _ _ _=>(J3 (i:=0) (show (["i", "table"]:List Str).Nodup by decide +kernel))) (fun _ _ _ _ _=>(Q0 1)) (fun _ _ _ _ _=>W9) Jq)) (j9 (Q01 Q7)))))
def Wr : MS := (Qr (Jh 2 (Wx (Q4 0) (mC (.str "now"))))
  (Qr (Ym (toB (mOp oEq (mOp oIx (Q4 1) (mC (.int 0))) (mC (.str "keep")))) (Q0h (Wx (Q4 0) (mC (.str "last"))) (mOp oIx (Q4 1) (mC (.int 1))) (mOp oIx (Q4 2) (mOp oIx (Q4 1) (mC (.int 1))))) (Ym (toB (mOp oEq (mOp oIx (Q4 1) (mC (.int 0))) (mC (.str "fall")))) (Q0h (Q4 2) (mOp oIx (Q4 1) (mC (.int 1))) (mOp oIx (Wx (Q4 0) (mC (.str "last"))) (mOp oIx (Q4 1) (mC (.int 1))))) (Ym (toB (mOp oEq (mOp oIx (Q4 1) (mC (.int 0))) (mC (.str "send")))) (Wc (mBM Vm (Wx (Q4 0) (mC (.str "letters"))) (Q3 (mOp oIx (Wx (Q4 0) (mC (.str "last"))) (mOp oIx (Q4 1) (mC (.int 1)))) Q9))) (Ym (toB (mOp oEq (mOp oIx (Q4 1) (mC (.int 0))) (mC (.str "come")))) (Q0h (Q4 2) (mOp oIx (Q4 1) (mC (.int 2))) (Qf 2 Kk (Q3 (mOp oIx (Q4 2) (mOp oIx (Q4 1) (mC (.int 2)))) (Q3 (mOp oIx (Wx (Q4 0) (mC (.str "letters"))) (mOp oIx (Q4 1) (mC (.int 1)))) Q9)))) (Qr (Jh 3 (mOp oIx (Q4 1) (mC (.int 1))))
  (Qr (Jh 4 (Qf 2 Zn (Q3 (mOp oIx (Q4 2) (Q4 3)) (Q3 (Q4 3) Q9))))
  (Qr (Ym (Q0t (toB (mOp oNe (mOp oIx (Q4 1) (mC (.int 0))) (mC (.str "make")))) (toB (mOp oLt (Q4 4) (mOp oIx (Q4 1) (Q50 (mC (.int 1))))))) (Js (Q4 4)) Y1)
  (Qr (Jh 5 (Qd0 "make" "use" "lend" (Q4 3) (J7 Yx (Q3 (Q4 2) Q9)) (mOp oIx (Q4 1) (mC (.int 2))) (mOp oIx (Q4 1) (mC (.int 0)))))
  (Q0h (Q4 2) (Q4 3) (Qf 4 Y6 (Q3 (mOp oIx (Q4 2) (Q4 3)) (Q3 (Q4 3) (Q3 (Q4 5) (Q3 (mOp oIx (Q4 1) (Q50 (mC (.int 1)))) Q9))))))))))))))
  (Js (mC (.str "done")))))
def jy:FN:=Qs Wr 6
theorem sc__law_astep:FnScope ["state", "deed", "now", "i", "have", "at"] ["state", "deed"] (Q6 Uj):=⟨rfl,rfl,rfl,by decide +kernel,rfl,by decide +kernel,by decide +kernel⟩
theorem Q9b {f:aA} {fd:aP} (F:Fun K "_law_astep" "_law_astep" Uj f fd) (T:Txt mg)  (z:DefS P w K mg base 1 "_law_ajoined" 2 Kk) (q:DefS P w K mg base 1 "_law_arights" 2 Zn) (j:DefS P w K mg base 1 "_law_araised" 4 Y6):FnOk P w K mg base (CXD P w) 2 f fd ["state", "deed"] (spF mg 2 jy):=by
 refine J1 (k:=1) (m:=Wr) F sc__law_astep rfl rfl rfl fun G A outer s H E B=>?_
 exact (Qb (Qz 2 sc__law_astep.nd (Vj (Uw B) (Q0 0) J2 (fun _ _=>rfl)))
  (Qb (Z4 (Jc (V1 B.units) (Qu (Q0 1) Qa) J2) (Qd (Q6u (Qu (Q0 2) (Qu (Q0 1) Qa)) (Vj (Uw B) (Q0 0) J2 (fun _ _=>rfl)) (Qu (Q0 1) Qa))) (Qd (Z4 (Jc (V1 B.units) (Qu (Q0 1) Qa) J2) (Qd (Q6u (Qu (Vj (Uw B) (Q0 0) J2 (fun _ _=>rfl)) (Qu (Q0 1) Qa)) (Q0 2) (Qu (Q0 1) Qa))) (Qd (Z4 (Jc (V1 B.units) (Qu (Q0 1) Qa) J2) (Qd (Yf (z8 (Vj (Uw B) (Q0 0) J2 (fun _ _=>rfl)) (Q1 (Qu (Vj (Uw B) (Q0 0) J2 (fun _ _=>rfl)) (Qu (Q0 1) Qa)) Q7)))) (Qd (Z4 (Jc (V1 B.units) (Qu (Q0 1) Qa) J2) (Qd (Q6u (Qg z (B.mono (by decide)) Qc rfl (Q1 (Qu (Q0 2) (Qu (Q0 1) Qa)) (Q1 (Qu (Vj (Uw B) (Q0 0) J2 (fun _ _=>rfl)) (Qu (Q0 1) Qa)) Q7))) (Q0 2) (Qu (Q0 1) Qa))) (Qb (Qz 3 sc__law_astep.nd (Qu (Q0 1) Qa))
  (Qb (Qz 4 sc__law_astep.nd (Qg q (B.mono (by decide)) Qc rfl (Q1 (Qu (Q0 2) (Q0 3)) (Q1 (Q0 3) Q7))))
  (Qb (Z4 (SimW.t (Q6s (Jc (Q5h B.units) (Qu (Q0 1) Qa) J2) (Q3a (Jc (Q3m B.units) (Q0 4) (Qu (Q0 1) (Q16 Qa)))))) (Qd (Qy (Q0 4))) Zs)
  (Qb (Qz 5 sc__law_astep.nd (Qmx (Uw B) (Q0 3) (Qw Yi rfl T.b_len bY (Q1 (Q0 2) Q7)) (Qu (Q0 1) Qa) (Qu (Q0 1) Qa) (fun _ _=>rfl)))
  (Qd (Q6u (Qg j (B.mono (by decide)) Qc rfl (Q1 (Qu (Q0 2) (Q0 3)) (Q1 (Q0 3) (Q1 (Q0 5) (Q1 (Qu (Q0 1) (Q16 Qa)) Q7))))) (Q0 2) (Q0 3))))))))))))))
  (Qd (Qy J2))))
def ye : MS := (Qr (Jh 2 (J7 Yx (Q3 (Wx (Q4 1) (mC (.str "now"))) Q9)))
  (Qr (Jh 3 (Qf 2 Qi (Q3 (Q4 0) (Q3 (Q4 2) Q9))))
  (Qr (Jh 4 (Qf 2 Qi (Q3 (Q4 0) (Q3 (mC (.int 12)) Q9))))
  (Qr (Jh 5 (J7 Q8k (Q3 (mC (.int 0)) (Q3 (Qf 2 Zn (Q3 (mOp oIx (Wx (Q4 1) (mC (.str "now"))) (Q4 3)) (Q3 (Q4 3) Q9))) Q9))))
  (Qr (Jh 6 (mOp Ww (mC (.int 1)) (Qf 2 Qi (Q3 (Q4 0) (Q3 (mOp Ww (Q4 5) (mC (.int 2))) Q9)))))
  (Qr (Ym (toB (mOp oEq (Q4 4) (mC (.int 0)))) (Js (Kt (Q3 (mC (.str "make")) (Q3 (Q4 3) (Q3 (Qf 1 Vi (Q3 (Q4 0) Q9)) Q9))))) Y1)
  (Qr (Ym (Q0t (toB (mOp oLt (Q4 4) (mC (.int 4)))) (toB (mOp (oI fun a b=>.bl (decide (b < a))) (Q4 2) (mC (.int 1))))) (Js (Kt (Q3 (mC (.str "lend")) (Q3 (Q4 3) (Q3 (mOp Q3q (mOp Ww (mOp Ww (Q4 3) (mC (.int 1))) (Qf 2 Qi (Q3 (Q4 0) (Q3 (mOp (oI fun a b=>.int (a - b)) (Q4 2) (mC (.int 1))) Q9)))) (Q4 2)) (Q3 (Q4 6) Q9)))))) Y1)
  (Qr (Ym (toB (mOp oLt (Q4 4) (mC (.int 6)))) (Js (Kt (Q3 (mC (.str "use")) (Q3 (Q4 3) (Q3 (Q4 6) Q9))))) Y1)
  (Qr (Ym (toB (mOp oLt (Q4 4) (mC (.int 8)))) (Js (Kt (Q3 (mOp oIx (Q3x (Q3 (mC (.str "keep")) (Q3 (mC (.str "fall")) Q9))) (J7 Qfz (Q3 (mOp oEq (Qf 2 Qi (Q3 (Q4 0) (Q3 (mC (.int 3)) Q9))) (mC (.int 0))) Q9))) (Q3 (Q4 3) Q9)))) Y1)
  (Qr (Ym (Q11 (toB (mOp oEq (Q4 4) (mC (.int 8)))) (toB (mOp oEq (Wx (Q4 1) (mC (.str "letters"))) (Q3x Q9)))) (Js (Kt (Q3 (mC (.str "send")) (Q3 (Q4 3) Q9)))) Y1)
  (Js (Kt (Q3 (mC (.str "come")) (Q3 (Qf 2 Qi (Q3 (Q4 0) (Q3 (J7 Yx (Q3 (Wx (Q4 1) (mC (.str "letters"))) Q9)) Q9))) (Q3 (Q4 3) Q9)))))))))))))))
def Xc:FN:=Qs ye 7
theorem sc__law_adrawn:FnScope ["tape", "state", "size", "i", "way", "have", "much"] ["tape", "state"] (Q6 Vx):=⟨rfl,rfl,rfl,by decide +kernel,rfl,by decide +kernel,by decide +kernel⟩
theorem Q7e {f:aA} {fd:aP} (F:Fun K "_law_adrawn" "_law_adrawn" Vx f fd) (T:Txt mg)  (j:DefS P w K mg base 1 "_law_adigit" 2 Qi) (q:DefS P w K mg base 1 "_law_arights" 2 Zn) (z:DefS P w K mg base 2 "_law_amuch" 1 Vi):FnOk P w K mg base (CXD P w) 3 f fd ["tape", "state"] (spF mg 2 Xc):=by
 refine J1 (k:=2) (m:=ye) F sc__law_adrawn rfl rfl rfl fun G A outer s H E B=>?_
 exact (Qb (Qz 2 sc__law_adrawn.nd (Qw Yi rfl T.b_len bY (Q1 (Vj (Uw B) (Q0 1) J2 (fun _ _=>rfl)) Q7)))
  (Qb (Qz 3 sc__law_adrawn.nd (Qg j (B.mono (by decide)) Qc rfl (Q1 (Q0 0) (Q1 (Q0 2) Q7))))
  (Qb (Qz 4 sc__law_adrawn.nd (Qg j (B.mono (by decide)) Qc rfl (Q1 (Q0 0) (Q1 Qa Q7))))
  (Qb (Qz 5 sc__law_adrawn.nd (Qw (Qbm rfl) rfl T.b_max Q47 (Q1 Qa (Q1 (Qg q (B.mono (by decide)) Qc rfl (Q1 (Qu (Vj (Uw B) (Q0 1) J2 (fun _ _=>rfl)) (Q0 3)) (Q1 (Q0 3) Q7))) Q7))))
  (Qb (Qz 6 sc__law_adrawn.nd (Jd Zt Qa (Qg j (B.mono (by decide)) Qc rfl (Q1 (Q0 0) (Q1 (Jd Zt (Q0 5) Qa) Q7)))))
  (Qb (Z4 (Jc (V1 B.units) (Q0 4) Qa) (Qd (Qy (U2 (Q1 J2 (Q1 (Q0 3) (Q1 (Qg z (B.mono (by decide)) Qc rfl (Q1 (Q0 0) Q7)) Q7)))))) Zs)
  (Qb (Z4 (SimW.t (Q6s (Jc (Q3m B.units) (Q0 4) Qa) (Q3a (Jc Q78 (Q0 2) Qa)))) (Qd (Qy (U2 (Q1 J2 (Q1 (Q0 3) (Q1 (Jd Q1b (Jd Zt (Jd Zt (Q0 3) Qa) (Qg j (B.mono (by decide)) Qc rfl (Q1 (Q0 0) (Q1 (Jd Q1a (Q0 2) Qa) Q7)))) (Q0 2)) (Q1 (Q0 6) Q7))))))) Zs)
  (Qb (Z4 (Jc (Q3m B.units) (Q0 4) Qa) (Qd (Qy (U2 (Q1 J2 (Q1 (Q0 3) (Q1 (Q0 6) Q7)))))) Zs)
  (Qb (Z4 (Jc (Q3m B.units) (Q0 4) Qa) (Qd (Qy (U2 (Q1 (Qu (Q4e (Q1 J2 (Q1 J2 Q7))) (qv Qq0 rfl T.b_int Qdj (Q1 (Kv (V1 B.units) (Qg j (B.mono (by decide)) Qc rfl (Q1 (Q0 0) (Q1 Qa Q7))) Qa) Q7))) (Q1 (Q0 3) Q7))))) Zs)
  (Qb (Z4 (SimW.t (Q2m (Jc (V1 B.units) (Q0 4) Qa) (Q12 (Jc (V1 B.units) (Vj (Uw B) (Q0 1) J2 (fun _ _=>rfl)) (Q4e Q7))))) (Qd (Qy (U2 (Q1 J2 (Q1 (Q0 3) Q7))))) Zs)
  (Qd (Qy (U2 (Q1 J2 (Q1 (Qg j (B.mono (by decide)) Qc rfl (Q1 (Q0 0) (Q1 (Qw Yi rfl T.b_len bY (Q1 (Vj (Uw B) (Q0 1) J2 (fun _ _=>rfl)) Q7)) Q7))) (Q1 (Q0 3) Q7))))))))))))))))
def qj : MS := (Qr (Wc (mBM Vm (Q4 5) (Q3 (Qf 2 Xc (Q3 (Q4 8) (Q3 (Q4 4) Q9))) Q9)))
  (Wc (mBM Vm (Q4 6) (Q3 (Qf 2 jy (Q3 (Q4 4) (Q3 (mOp oIx (Q4 5) (Q50 (mC (.int 1)))) Q9))) Q9))))
def qk : MS := (Qr (Jh 8 (Qf 2 Wb (Q3 (Q4 0) (Q3 (Q4 7) Q9))))
  (Q7u (Qp 9) (W2 (Q3 (mC (.int 3)) Q9)) qj))
def zj : MS := (Qr (Jh 4 (Qf 1 Xb (Q3 (Q4 3) Q9)))
  (Qr (Jh 5 (Q0y (y0 Q9)))
  (Qr (Jh 6 (Q0y (y0 Q9)))
  (Qr (Q7u (Qp 7) (Q3w (Q3 (Q4 1) (Q3 (mOp Ww (Q4 1) (Q4 2)) Q9))) qk)
  (Js (Kt (Q3 (Q4 5) (Q3 (Q4 6) (Q3 (Q4 4) Q9)))))))))
def Uf:FN:=Yr zj 10
theorem sc__law_aplayed:FnScope ["script", "start", "many", "table", "state", "deeds", "answers", "k", "tape", "turn"] ["script", "start", "many", "table"] (Q6 V7):=⟨rfl,rfl,rfl,by decide +kernel,rfl,by decide +kernel,by decide +kernel⟩
theorem Q5x {f:aA} {fd:aP} (F:Fun K "_law_aplayed" "_law_aplayed" V7 f fd) (T:Txt mg)  (q:DefS P w K mg base 1 "_law_astart" 1 Xb) (z:DefS P w K mg base 2 "_law_atape" 2 Wb) (j:DefS P w K mg base 3 "_law_adrawn" 2 Xc) (B:DefS P w K mg base 2 "_law_astep" 2 jy):FnOk P w K mg base (CXD P w) 4 f fd ["script", "start", "many", "table"] (spF mg 4 Uf):=by
 refine Wu (k:=3) (m:=zj) F sc__law_aplayed rfl rfl rfl fun I A outer s H E G=>?_
 exact (Qb (Qz 4 sc__law_aplayed.nd (Qg q (G.mono (by decide)) Qc rfl (Q1 (Q0 3) Q7)))
  (Qb (Qz 5 sc__law_aplayed.nd (j9 (Q01 Q7)))
  (Qb (Qz 6 sc__law_aplayed.nd (j9 (Q01 Q7)))
  (Qb (Q13 PassesOwn.leaving rfl (Qg8 rfl T.b_range (Q1 (Q0 1) (Q1 (Jd Zt (Q0 1) (Q0 2)) Q7))) (J3 (i:=7) sc__law_aplayed.nd) (Qb (Qz 8 sc__law_aplayed.nd (Qg z (G.mono (by decide)) Qc rfl (Q1 (Q0 0) (Q1 (Q0 7) Q7))))
  (Qd (Q13 PassesOwn.leaving rfl (Yz rfl T.b_range (Q1 Qa Q7)) (J3 (i:=9) sc__law_aplayed.nd) (Qb (Yf (z8 (Q0 5) (Q1 (Qg j (G.mono (by decide)) Qc rfl (Q1 (Q0 8) (Q1 (Q0 4) Q7))) Q7)))
  (Qd (Yf (z8 (Q0 6) (Q1 (Qg B (G.mono (by decide)) Qc rfl (Q1 (Q0 4) (Q1 (Qu (Q0 5) (Q16 Qa)) Q7))) Q7)))))))))
  (Qd (Qy (U2 (Q1 (Q0 5) (Q1 (Q0 6) (Q1 (Q0 4) Q7))))))))))
def yg : MS := (Qr (Jh 1 (Qf 2 Wb (Q3 (Q4 0) (Q3 (mC (.int 0)) Q9))))
  (Qr (Jh 2 (mOp Ww (mC (.int 1)) (Qf 2 Qi (Q3 (Q4 1) (Q3 (mC (.int 8)) Q9)))))
  (Js (Qf 3 Xa (Q3 (Q4 1) (Q3 (Q4 2) (Q3 (Qf 2 Qi (Q3 (Q4 1) (Q3 (mC (.int 9)) Q9))) Q9)))))))
def Xd:FN:=Qs yg 3
theorem sc__law_abegun:FnScope ["script", "tape", "size"] ["script"] (Q6 Vz):=⟨rfl,rfl,rfl,by decide +kernel,rfl,by decide +kernel,by decide +kernel⟩
theorem Q7g {f:aA} {fd:aP} (F:Fun K "_law_abegun" "_law_abegun" Vz f fd) (T:Txt mg)  (z:DefS P w K mg base 2 "_law_atape" 2 Wb) (j:DefS P w K mg base 1 "_law_adigit" 2 Qi) (q:DefS P w K mg base 3 "_law_atable" 3 Xa):FnOk P w K mg base (CXD P w) 4 f fd ["script"] (spF mg 1 Xd):=by
 refine J1 (k:=3) (m:=yg) F sc__law_abegun rfl rfl rfl fun G A outer s H E B=>?_
 exact (Qb (Qz 1 sc__law_abegun.nd (Qg z (B.mono (by decide)) Qc rfl (Q1 (Q0 0) (Q1 Qa Q7))))
  (Qb (Qz 2 sc__law_abegun.nd (Jd Zt Qa (Qg j (B.mono (by decide)) Qc rfl (Q1 (Q0 1) (Q1 Qa Q7)))))
  (Qd (Qy (Qg q (B.mono (by decide)) Qc rfl (Q1 (Q0 1) (Q1 (Q0 2) (Q1 (Qg j (B.mono (by decide)) Qc rfl (Q1 (Q0 1) (Q1 Qa Q7))) Q7))))))))
def Q0x:MS:=(Ym (Q11 (toB (mOp oNe (Q32 "str" (Q4 4)) (Q32 "str" (Q4 3)))) (toB (Q32 "bool" (Q4 3)))) (Js (mC (.bl false))) Y1)
def yd : MS := (Qr (Ym (Q11 (U9 (toB (Q32 "tuple" (Q4 0)))) (Q11 (toB (mOp oNe (J7 Yx (Q3 (Q4 0) Q9)) (mC (.int 2)))) (U9 (toB (Q32 "list" (mOp oIx (Q4 0) (mC (.int 0)))))))) (Js (mC (.bl false))) Y1)
  (Qr (Q7u (qx (Y0 (Qp 3) (Y0 (Qp 4) qy))) (Q63 (Q3 (mOp oIx (Q4 0) (mC (.int 0))) (Q3 (Q4 1) Q9))) Q0x)
  (Js (Q51 (mOp oEq (mOp oIx (Q4 0) (mC (.int 0))) (Q4 1)) (Q51 (Q32 "list" (mOp oIx (Q4 0) (mC (.int 1)))) (mOp oEq (mOp oIx (Q4 0) (mC (.int 1))) (Q4 2)))))))
def Yv:FN:=Qs yd 5
theorem sc__law_aright:FnScope ["found", "answers", "tables", "one", "due"] ["found", "answers", "tables"] (Q6 Vw):=⟨rfl,rfl,rfl,by decide +kernel,rfl,by decide +kernel,by decide +kernel⟩
theorem Q7d {f:aA} {fd:aP} (F:Fun K "_law_aright" "_law_aright" Vw f fd) (T:Txt mg)   : FnOk P w K mg base (CXD P w) 1 f fd ["found", "answers", "tables"] (spF mg 3 Yv):=by
 refine J1 (k:=0) (m:=yd) F sc__law_aright rfl rfl rfl fun q A outer s H E j=>?_
 exact (Qb (Z4 (SimW.t (Q2m (U1 (Wa (ja (T := "tuple") (by decide) (Q0 0) rfl T.b_isinstance rfl T.b_tuple Wy))) (Q2m (Jc (Q5h j.units) (Qw Yi rfl T.b_len bY (Q1 (Q0 0) Q7)) Qa) (Q12 (U1 (Wa (ja (T := "list") (by decide) (Qu (Q0 0) Qa) rfl T.b_isinstance rfl T.b_list Q5c))))))) (Qd (Qy Q3e)) Zs)
  (Qb (Q13 PassesOwn.leaving rfl (Q4c rfl T.b_zip (Q1 (Qu (Q0 0) Qa) (Q1 (Q0 1) Q7))) (Q2t rfl (Wf (J3 (i:=3) sc__law_aright.nd) (Wf (J3 (i:=4) sc__law_aright.nd) Q02))) (Qd (Z4 (SimW.t (Q2m (Jc (Q5h j.units) (ja (T := "str") (by decide) (Q0 4) rfl T.b_isinstance rfl T.b_str Q8n) (ja (T := "str") (by decide) (Q0 3) rfl T.b_isinstance rfl T.b_str Q8n)) (Q12 (Wa (ja (T := "bool") (by decide) (Q0 3) rfl T.b_isinstance rfl T.b_bool Qai))))) (Qd (Qy Q3e)) Zs)))
  (Qd (Qy (Q03 (Kv (V1 j.units) (Qu (Q0 0) Qa) (Q0 1)) (Q03 (ja (T := "list") (by decide) (Qu (Q0 0) Qa) rfl T.b_isinstance rfl T.b_list Q5c) (Q15 (Kv (V1 j.units) (Qu (Q0 0) Qa) (Q0 2)))))))))
def Qbi (C:aA):ME:=(Q4 1)
def Qju (C : aA) : MS := (Qr (Jh 1 (Qf 1 Xd (Q3 (Q4 0) Q9)))
  (Qr (Qk0 (qx (Y0 (Qp 2) (Y0 (Qp 3) (Y0 (Qp 4) qy)))) (Qf 4 Uf (Q3 (Q4 0) (Q3 (mC (.int 1)) (Q3 (J7 Q8k (Q3 (mC (.int 4)) (Q3 (J7 Qhv (Q3 (mC (.int 13)) (Q3 (mOp (oI fun a b=>.int (a - b)) (J7 Yx (Q3 (Q4 0) Q9)) (mC (.int 1))) Q9))) Q9))) (Q3 (Q4 1) Q9))))))
  (Qr (Jh 5 (J7 Q1s (Q3 (Q4 2) Q9)))
  (Qr (Jh 6 (Qf 2 (Kh C) (Q3 (Q4 1) (Q3 (Q4 5) Q9))))
  (Qr (Ym (Q11 (U9 (toB (Qf 3 Yv (Q3 (Q4 6) (Q3 (Q4 3) (Q3 (Wx (Q4 4) (mC (.str "now"))) Q9)))))) (toB (mOp oNe (Q4 5) (Q4 2)))) (Js (mC (.bl false))) Y1)
  (Qr (Wc (Qek (mOp oIx (Q4 6) (mC (.int 0)))))
  (Qr (Wc (Qek (mOp oIx (Q4 6) (mC (.int 1)))))
  (Qr (Ym (U9 (toB (Qf 3 Yv (Q3 (Qf 2 (Kh C) (Q3 (Q4 1) (Q3 (Q4 2) Q9))) (Q3 (Q4 3) (Q3 (Wx (Q4 4) (mC (.str "now"))) Q9)))))) (Js (mC (.bl false))) Y1)
  (Js (Qf 3 Yv (Q3 (Qf 2 (Kh C) (Q3 (Q4 1) (Q3 (Q3x Q9) Q9))) (Q3 (Q3x Q9) (Q3 (qd (Yh [none,some 1] (Qp 0) (yy (Q4 1)) Zr (Qbi C))) Q9)))))))))))))
def Qqw (C:aA):FN:=Qs (Qju C) 7
theorem sc_law:FnScope ["script", "start", "deeds", "answers", "state", "handed", "found"] ["script"] (Q6 Q3g):=⟨rfl,rfl,rfl,by decide +kernel,rfl,by decide +kernel,by decide +kernel⟩
theorem Qsd {f:aA} {fd:aP} {C:aA} (F:Fun K "law" "law" Q3g f fd) (T:Txt mg) (J:ClsT K C)  (B:DefS P w K mg base 4 "_law_abegun" 1 Xd) (z:DefS P w K mg base 4 "_law_aplayed" 4 Uf) (q:DefS P w K mg base 10 "played" 2 (Kh C)) (j:DefS P w K mg base 1 "_law_aright" 3 Yv):FnOk P w K mg base (CXD P w) 11 f fd ["script"] (spF mg 1 (Qqw C)):=by
 refine J1 (k:=10) (m:=(Qju C)) F sc_law rfl rfl rfl fun I A outer s H E G=>?_
 exact (Qb (Qz 1 sc_law.nd (Qg B (G.mono (by decide)) Qc rfl (Q1 (Q0 0) Q7)))
  (Qb (Qra (Qg z (G.mono (by decide)) Qc rfl (Q1 (Q0 0) (Q1 Qa (Q1 (Qw (Qbm rfl) rfl T.b_max Q47 (Q1 Qa (Q1 (Qw (Qt1 rfl) rfl T.b_min Qm1 (Q1 Qa (Q1 (Jd Q1a (Qw Yi rfl T.b_len bY (Q1 (Q0 0) Q7)) Qa) Q7))) Q7))) (Q1 (Q0 1) Q7))))) (Q2t rfl (Wf (J3 (i:=2) sc_law.nd) (Wf (J3 (i:=3) sc_law.nd) (Wf (J3 (i:=4) sc_law.nd) Q02)))))
  (Qb (Qz 5 sc_law.nd (qv Qpz rfl T.b_list Q5c (Q1 (Q0 2) Q7)))
  (Qb (Qz 6 sc_law.nd (Qg q (G.mono (by decide)) Qc rfl (Q1 (Q0 1) (Q1 (Q0 5) Q7))))
  (Qb (Z4 (SimW.t (Q2m (U1 (Wa (Qg j (G.mono (by decide)) Qc rfl (Q1 (Q0 6) (Q1 (Q0 3) (Q1 (Vj (Uw G) (Q0 4) J2 (fun _ _=>rfl)) Q7)))))) (Q12 (Jc (Q5h G.units) (Q0 5) (Q0 2))))) (Qd (Qy Q3e)) Zs)
  (Qb (Yf (Qip (Qu (Q0 6) Qa)))
  (Qb (Yf (Qip (Qu (Q0 6) Qa)))
  (Qb (Z4 (U1 (Wa (Qg j (G.mono (by decide)) Qc rfl (Q1 (Qg q (G.mono (by decide)) Qc rfl (Q1 (Q0 1) (Q1 (Q0 2) Q7))) (Q1 (Q0 3) (Q1 (Vj (Uw G) (Q0 4) J2 (fun _ _=>rfl)) Q7)))))) (Qd (Qy Q3e)) Zs)
  (Qd (Qy (Qg j (G.mono (by decide)) Qc rfl (Q1 (Qg q (G.mono (by decide)) Qc rfl (Q1 (Q0 1) (Q1 (Q4e Q7) Q7))) (Q1 (Q4e Q7) (Q1 (Vg (Yp [none,some 1] ["row", "start"] rfl (Ku (Q0 1)) (fun _ _ _ _ _=>(J3 (i:=0) (show (["row", "start"]:List Str).Nodup by decide +kernel))) (fun _ _ _ _ _=>(Q0 1)) (fun _ _ _ _ _=>W9) Jq)) Q7))))))))))))))
end
end Lw
namespace Lw
open PySem PySem.Spec L2 Sm
theorem Q6h (a:Int) {b:Int} (h:0 < b):0<=a % b/\a % b < b:=⟨Int.emod_nonneg a (by omega),Int.emod_lt_of_pos a h⟩
def J0 (r:List Int):PV:=.tup (r.map .int)
def Q8 (tb:List (List Int)):PV:=.tup (tb.map J0)
theorem Qez {α:Type} (xs:List α) (p:α->Bool):(xs.map p).all id=xs.all p:=by
 rw [eZ]; rfl
structure Wt' (n:Nat) (tb:List (List Int)):Prop where
 len:tb.length=n
 row:∀ r∈tb,r.length=n + 1
 nn:∀ r∈tb,∀ x∈r,(0:Int)<=x
 n1:1<=n
 n8:n<=8
def Wq (n:Nat) (f:Nat->Int):Int:=((bV n).map f).sum
theorem Jr (n:Nat) (f:Nat->Int):Wq (n + 1) f=Wq n f + f n:=by
 unfold Wq;rw [dh,F3,fu];simp
theorem Xh {n:Nat} {f g:Nat->Int} (h:∀ i,i < n->f i=g i):Wq n f=Wq n g:=by
 induction n with
 | zero=>rfl
 | succ n j=>rw [Jr,Jr,j fun i hi=>h i (by omega),h n (by omega)]
theorem Qbz (n:Nat) (f g:Nat->Int):Wq n (fun i=>f i + g i)=Wq n f + Wq n g:=by
 induction n with
 | zero=>rfl
 | succ n j=>rw [Jr,Jr,Jr,j]; omega
theorem Qic (n:Nat) (f g:Nat->Int):Wq n (fun i=>f i - g i)=Wq n f - Wq n g:=by
 induction n with
 | zero=>rfl
 | succ n j=>rw [Jr,Jr,Jr,j]; omega
theorem Q4b (n:Nat):Wq n (fun _=>0)=0:=by
 induction n with
 | zero=>rfl
 | succ n j=>rw [Jr,j]; rfl
theorem Q5f {n:Nat} {f:Nat->Int} (h:∀ i,i < n->0<=f i):0<=Wq n f:=by
 induction n with
 | zero=>exact bg _
 | succ n j=>rw [Jr]; have:=j fun i hi=>h i (by omega); have:=h n (by omega); omega
theorem Qcw {α β:Type} (l:List α) (d:α) (f:α->β):l.map f=(bV l.length).map fun i=>f (l.getD i d):=by
 refine gT fun i=>?_
 rw [E6,E6]
 by_cases hi:i < l.length
 ·rw [cJ hi,getD_some hi d]; rfl
 ·rw [cV (by omega),cV (by rw [G6]; omega)]; rfl
theorem Qc2 (r:List Int):r.sum=Wq r.length fun j=>r.getD j 0:=by
 have:=Qcw r 0 id;rw [List.map_id] at this;rw [Wq]
 conv=>lhs; rw [this]
 rfl
def ent (tb:List (List Int)) (i j:Nat):Int:=(tb.getD i []).getD j 0
def Sz (n:Nat) (tb:List (List Int)):Prop:=tb.length=n/\∀ r∈tb,r.length=n + 1
theorem Wt'.sz {n:Nat} {tb:List (List Int)} (w:Wt' n tb):Sz n tb:=⟨w.len,w.row⟩
theorem Sz.row {n i:Nat} {tb:List (List Int)} (z:Sz n tb) (hi:i < n):tb[i]?=some (tb.getD i [])/\(tb.getD i []).length=n + 1:=by
 have e:=getD_some (show i < tb.length by rw [z.1]; exact hi) [];exact ⟨e,z.2 _ (D2 e)⟩
theorem Sz.cell {n i j:Nat} {tb:List (List Int)} (z:Sz n tb) (hi:i < n) (q:j<=n):(tb.getD i [])[j]?=some (ent tb i j):=getD_some (by rw [(z.row hi).2]; omega) 0
theorem Wt'.ent_nn {n i j:Nat} {tb:List (List Int)} (w:Wt' n tb) (hi:i < n) (q:j<=n):0<=ent tb i j:=w.nn _ (D2 (w.sz.row hi).1) _ (D2 (w.sz.cell hi q))
theorem Wt'.of_ent {n:Nat} {tb:List (List Int)} (z:Sz n tb) (h1:1<=n) (I:n<=8) (h:∀ i j,i < n->j<=n->0<=ent tb i j):Wt' n tb:=by
 refine ⟨z.1,z.2,fun r q x B=>?_,h1,I⟩;obtain ⟨i,hi,e⟩:=dW.mp q;obtain ⟨j,G,e2⟩:=dW.mp B;have O:=z.2 r q;have:=h i j (by rw [<- z.1]; exact hi) (by omega);have e3:tb.getD i []=r:=by rw [bZ,O4 hi,e]; rfl
 have J:r.getD j 0=x:=by rw [bZ,O4 G,e2]; rfl
 unfold ent at this;rw [e3,J] at this;exact this
theorem Q0k (i:Int) (st:Q2):Vh [.int i] st=.ok (.bl true) st:=by
 simp [Vh,Qs,Q2z,isI,tyN]
theorem Q9q (a b c:Int) (st:Q2):Kj [.int a,.int b,.int c] st=.ok (.bl (decide (b<=a) && decide (a<=c))) st:=by
 by_cases h:b<=a <;> simp [Kj,Qs,Q0e,Q0k,h]
theorem Q1j {V:PV} {n:Nat} {st:Q2} (j:Yx st [V]=.ok (.int n) st) (i:Int):Yj [V,.int i] st=.ok (.bl (decide (0<=i) && decide (i < n))) st:=by
 have e:decide (i<=(n:Int) - 1)=decide (i < (n:Int)):=by
  rw [decide_eq_decide]; omega
 simp [Yj,Qs,Q31,j,Q9q,e]
theorem Qbe {V:PV} {n i:Nat} {st:Q2} (j:Yx st [V]=.ok (.int n) st) (hi:i < n):Yj [V,.int i] st=.ok (.bl true) st:=by
 rw [Q1j j];simp; omega
def Y5 (k:Nat):PV:=.int (k:Int)
theorem Qpt {n r:Nat} {S:Q2} {hs:List Int} (q:n<=r) (h:S[r]?=some (.lst (hs.map .int))):fz n S 16 (.ref r)=some (.lst (hs.map .int)):=by
 have j:Zm 12 (.lst (hs.map .int))=true:=by simp [Zm]
 have:=Q6f (n:=n) (st:=S) (k:=16) j (by decide);rw [fz,bK (by omega),h];simpa [fz] using this
def Qt (tb:List (List Int)) (h:Nat):Int:=Wq tb.length (fun o=>ent tb o h) - ((tb.getD h []).sum - ent tb h h)
theorem zf {n h:Nat} {tb:List (List Int)} (z:Sz n tb) (q:h < n):Qt tb h=Wq n (fun o=>ent tb o h) - (Wq n (fun j=>ent tb h j) + ent tb h n - ent tb h h):=by
 unfold Qt;rw [z.1,Qc2 (tb.getD h []),(z.row q).2,Jr];rfl
theorem Q9z {n h:Nat} {tb:List (List Int)} (z:Sz n tb) (Z:n<=100) (j:h < n) (st:Q2):X9 [Q8 tb,.int h] st=.ok (.int (Qt tb h)) st:=by
 have O:=Qbe (V:=Q8 tb) (n:=n) (i:=h) (st:=st) (by simp [Q8,z.1]) j;have B:Z3 (Qp 0) Zr Q34 [] (Zp [none,some 1] [some (Q8 tb),some (.int h),none,none,none]) (tb.map J0) st=.ok (tb.map fun r=>.int (r.getD h 0)) st:=by
  refine W7 _ _ (by simp) fun r G=>⟨_,rfl,?_⟩
  have e:=atI_get (getD_some (show h < r.length by rw [z.2 r G]; omega) 0);simp [Zp,Q34,J0,qr,e]
 have e1:=atI_get (z.row j).1;have e2:=atI_get (z.cell j (E8 j));have hs:(tb.map fun r=>r.getD h 0).sum=Wq n fun o=>ent tb o h:=by
  rw [Qcw tb [] fun r=>r.getD h 0,z.1]; rfl
 have Y:tb.length<=1000000:=by rw [z.1]; omega
 unfold Qt;rw [z.1,<- hs];obtain ⟨r,G⟩:∃ r,tb.getD h []=r:=⟨_,rfl⟩;obtain ⟨x,U⟩:∃ x,ent tb h h=x:=⟨_,rfl⟩;rw [G] at e1 e2 ⊢;rw [U] at e2 ⊢;obtain ⟨q,J⟩:∃ q,(tb.map fun r=>r.getD h 0)=q:=⟨_,rfl⟩;have I:(tb.map fun r=>PV.int (r.getD h 0))=q.map .int:=by rw [<- J,bt]; rfl
 rw [I] at B;rw [J];unfold Q8 at O B ⊢;simp [X9,Qs,Q7n,O,B,Y,Zk,qr,e1,J0,e2]
theorem Q0r {n i j:Nat} {tb:List (List Int)} (z:Sz n tb) (hi:i < n) (q:j<=n) (st:Q2):oIx st (Q8 tb) (.int i)=.ok (J0 (tb.getD i [])) st/\oIx st (J0 (tb.getD i [])) (.int j)=.ok (.int (ent tb i j)) st:=by
 constructor
 ·unfold Q8; rw [Qfg,qr,atI_get (z.row hi).1]; rfl
 ·unfold J0; rw [Qfg,qr,atI_get (z.cell hi q)]; rfl
def Q0u (tb:List (List Int)) (h:Nat):Bool:=decide (0 < ent tb h h)
theorem Qp3 {n h:Nat} {tb:List (List Int)} (z:Sz n tb) (j:h < n) (st:Q2):qz [Q8 tb,.int h] st=.ok (.bl (Q0u tb h)) st:=by
 obtain ⟨B,q⟩:=Q0r z j (E8 j) st;unfold Q0u;generalize ent tb h h=x at *;generalize tb.getD h []=r at *;simp [qz,Qs,Q1f,B,q]
def X8 (tb:List (List Int)) (h:Nat):Bool:=decide (ent tb h h < (tb.getD h []).sum)
theorem Qq5 {n h:Nat} {tb:List (List Int)} (z:Sz n tb) (j:h < n) (st:Q2):W8 [Q8 tb,.int h] st=.ok (.bl (X8 tb h)) st:=by
 obtain ⟨G,B⟩:=Q0r z j (E8 j) st;unfold X8;generalize ent tb h h=x at *;generalize tb.getD h []=r at *;have q:Kg (fun ns=>some (.int ns.sum)) st [J0 r]=.ok (.int r.sum) st:=by unfold J0; rw [Qhw]; rfl
 simp [W8,Qs,X1,G,B,q]
def Qd1 (tb:List (List Int)) (h:Nat) (ls:List Nat):Bool:=ls.any fun o=>decide (o≠h) && decide (0 < ent tb o h)
theorem Qm5 {α:Type} (xs:List α) (p:α->Bool):(xs.map p).any id=xs.any p:=by
 rw [dS]; rfl
theorem Qpf {n h:Nat} {tb:List (List Int)} (z:Sz n tb) (Y:h < n) {ls:List Nat} (I:∀ o∈ls,o < n) (a2:ls.length<=1000) {V:PV} {st:Q2} (J:ListAt st V (ls.map Y5)):Vq [Q8 tb,.int h,V] st=.ok (.bl (Qd1 tb h ls)) st:=by
 obtain ⟨w,q,O⟩:=J.src;have G:Z3 (Qp 0) Xx Ka w (Zp [none,some 1,some 0] [some (Q8 tb),some (.int h),some V]) (ls.map Y5) st=.ok ((ls.filter fun o=>decide (o≠h)).map fun o=>.bl (decide (0 < ent tb o h))) st:=by
  refine Q29 _ _ _ O fun o ho=>⟨_,rfl,?_,fun ht=>?_⟩
  ·simp [Zp,Xx,Y5]
   by_cases e:o=h
   ·simp [e]
   ·have:¬ ((o:Int)=h):=by omega
    simp [e,this]
  ·obtain ⟨Z,U⟩:=Q0r z (I o ho) (E8 Y) st;generalize ent tb o h=x at *;generalize tb.getD o []=r at *;simp [Zp,Ka,Y5,Z,U]
 have j:(ls.map Y5).length<=1000000:=by rw [O2]; omega
 have B:Qd1 tb h ls=((ls.filter fun o=>decide (o≠h)).map fun o=>decide (0 < ent tb o h)).any id:=by
  rw [Qm5,gU]; rfl
 rw [B];generalize ls.map Y5=ov at *;generalize ls.filter (fun o=>decide (o≠h))=fs at *
 simp [Vq,Qs,jc,q,j,Zk,G,-dS]
def Q06 (tb:List (List Int)) (h:Nat) (ls:List Nat):Bool:=Q0u tb h || Qd1 tb h ls
theorem Qmz {n h:Nat} {tb:List (List Int)} (z:Sz n tb) (B:h < n) {ls:List Nat} (G:∀ o∈ls,o < n) (j:ls.length<=1000) {V:PV} {st:Q2} (I:ListAt st V (ls.map Y5)):qm [Q8 tb,.int h,V] st=.ok (.bl (Q06 tb h ls)) st:=by
 have h1:=Qp3 z B st;have h2:=Qpf z B G j I;unfold Q06;cases q:Q0u tb h with
 | true=>rw [q] at h1; simp [qm,Qs,Q0f,h1]
 | false=>rw [q] at h1; simp [qm,Qs,Q0f,h1,h2]
theorem Qpq (hs:List Int) (x:Int):((hs.map PV.int).any fun y=>peq y (.int x))=decide (x∈hs):=by
 rw [dS,dC,dD,decide_eq_true_iff];constructor
 ·rintro ⟨y,j,e⟩;have:y=x:=by simpa [peq] using e
  rw [<- this]; exact j
 ·intro h;exact ⟨x,h,by simp [peq]⟩
theorem Qqp {hs:List Int} {V:PV} {st:Q2} (j:ListAt st V (hs.map .int)) (x:Int) (b:Bool):oIn b st (.int x) V=.ok (.bl (decide (x∈hs) != b)) st:=by
 have z:K1 st V=some (hs.map .int):=by
  rcases j with rfl | rfl | ⟨i,rfl,e⟩
  ·rfl
  ·rfl
  ·rw [Q3c,e]
 have hd:der st (.int x)=.int x:=rfl;have q:Zm dep (.int x)=true:=rfl;have g2:(hs.map PV.int).all (Zm dep)=true:=by simp [Zm,dep]
 unfold oIn;rw [z,hd];simp only [q,g2,and_self,if_true,Qpq]
def Qkz (n:Nat) (tb:List (List Int)) (h:Nat):Bool:=(bV (n + 1)).any fun j=>decide (j≠h) && decide (0 < ent tb h j)
theorem Qas {n j:Nat} {f:Nat->Int} (q:∀ i,i < n->0<=f i) (z:j < n):f j<=Wq n f:=by
 induction n with
 | zero=>exact absurd z (di _)
 | succ n B=>
  rw [Jr];have G:=q n (cY n)
  by_cases e:j=n
  ·subst e;have:=Q5f (f:=f) (n:=j) fun i hi=>q i (ce hi)
   omega
  ·have:=B (fun i hi=>q i (ce hi)) (by omega)
   omega
theorem Qif {n h:Nat} (f:Nat->Int) (q:h < n):Wq n f=f h + Wq n fun j=>if j≠h then f j else 0:=by
 induction n with
 | zero=>exact absurd q (di _)
 | succ n z=>
  rw [Jr,Jr]
  by_cases e:n=h
  ·subst e;rw [bK (by simp),Xh (f:=f) (g:=fun j=>if j≠n then f j else 0) fun i hi=>by rw [bJ (by omega)]]
   omega
  ·rw [bJ e,z (by omega)];omega
theorem Qid {n h:Nat} {f:Nat->Int} (I:∀ i,i < n->0<=f i) (U:h < n):f h < Wq n f <-> ∃ j,j < n/\j≠h/\0 < f j:=by
 have e:=Qif f U;have O:∀ i,i < n->0<=(fun j=>if j≠h then f j else 0) i:=fun i hi=>by
  show 0<=if i≠h then f i else 0
  split
  ·exact I i hi
  ·exact bg _
 constructor
 ·intro q;refine Classical.byContradiction fun B=>?_
  have:Wq n (fun j=>if j≠h then f j else 0)=Wq n fun _=>0:=Xh fun i hi=>by
   by_cases z:i=h
   ·rw [bK (by simp [z])]
   ·rw [bJ z];have h1:=I i hi;have h2:¬ 0 < f i:=fun q=>B ⟨i,hi,z,q⟩
    omega
  rw [Q4b] at this;omega
 ·rintro ⟨j,J,G,hp⟩;have:=Qas O J;simp only [bJ G] at this;omega
theorem Qq6 {n h:Nat} {tb:List (List Int)} (w:Wt' n tb) (B:h < n):Qkz n tb h=X8 tb h:=by
 have hs:(tb.getD h []).sum=Wq (n + 1) fun j=>ent tb h j:=by
  rw [Qc2,(w.sz.row B).2]; rfl
 have hp:=(Qid (n:=n + 1) (h:=h) (f:=fun j=>ent tb h j) (fun i hi=>w.ent_nn B (by omega)) (by omega))
 unfold Qkz X8;rw [hs,dC,dD,decide_eq_true_iff,hp];constructor
 ·rintro ⟨j,z,q⟩;simp at q;exact ⟨j,E7.mp z,q.1,q.2⟩
 ·rintro ⟨j,z,a,b⟩;exact ⟨j,E7.mpr z,by simp [a,b]⟩
theorem Qxu (x:Int) {n:Nat} (h:1<=n):∃ k:Nat,k < n/\x % (n:Int)=(k:Int):=by
 have:=Q6h x (b:=(n:Int)) (by omega);exact ⟨(x % (n:Int)).toNat,by omega,by omega⟩
def kn3 (tb:List (List Int)) (i:Nat) (bs:List Bool) (j:Nat):List Bool:=if bs.getD i false=true/\i≠j/\0 < ent tb i j then bs.set j true else bs
def kn2 (n:Nat) (tb:List (List Int)) (bs:List Bool) (i:Nat):List Bool:=(bV n).foldl (kn3 tb i) bs
def kn1 (n:Nat) (tb:List (List Int)) (bs:List Bool) (_:Nat):List Bool:=(bV n).foldl (kn2 n tb) bs
def Qbd (n:Nat) (tb:List (List Int)):List Bool:=(bV n).map (Q0u tb)
def Q54 (n:Nat) (tb:List (List Int)):List Bool:=(bV n).foldl (kn1 n tb) (Qbd n tb)
theorem Q89 {α β:Type} {f:List α->β->List α} (h:∀ bs x,(f bs x).length=bs.length):∀ (xs:List β) (bs:List α),(xs.foldl f bs).length=bs.length
 | [],_=>rfl
 | x :: xs,bs=>by rw [cc,Q89 h xs,h]
theorem Qfp (tb:List (List Int)) (i:Nat) (bs:List Bool) (j:Nat):(kn3 tb i bs j).length=bs.length:=by
 unfold kn3; split <;> simp
theorem Qfq (n:Nat) (tb:List (List Int)) (bs:List Bool) (i:Nat):(kn2 n tb bs i).length=bs.length:=Q89 (Qfp tb i) _ _
theorem Qpk (n:Nat) (tb:List (List Int)) (bs:List Bool) (t:Nat):(kn1 n tb bs t).length=bs.length:=Q89 (Qfq n tb) _ _
inductive Rc (n:Nat) (tb:List (List Int)):Nat->Prop
 | made {h:Nat}:h < n->Q0u tb h=true->Rc n tb h
 | lent {o h:Nat}:Rc n tb o->h < n->0 < ent tb o h->Rc n tb h
theorem Rc.lt {n h:Nat} {tb:List (List Int)} (r:Rc n tb h):h < n:=by cases r <;> assumption
theorem X7 {α β:Type} {f:β->α->β} {P:β->Prop}:∀ {xs:List α} {b:β},(∀ b x,x∈xs->P b->P (f b x))->P b->P (xs.foldl f b)
 | [],_,_,h=>h
 | x :: xs,b,hs,h=>X7 (xs:=xs) (fun b y j=>hs b y (D0 _ j)) (hs b x D4 h)
theorem Q8a {α β:Type} {f:β->α->β} {P Q:β->Prop} (B:∀ b y,P b->P (f b y)) (G:∀ b y,Q b->Q (f b y)) {x:α} (q:∀ b,P b->Q (f b x)):∀ {xs:List α} {b:β},x∈xs->P b->Q (xs.foldl f b)
 | [],_,j,_=>by cases j
 | y :: ys,b,j,z=>by
  rw [cc];rcases E3.mp j with rfl | j
  ·exact X7 (fun b y _=>G b y) (q b z)
  ·exact Q8a B G q j (B b y z)
def Cl (n:Nat) (tb:List (List Int)) (mem:Nat->Bool):Prop:=∀ o h,o < n->h < n->o≠h->0 < ent tb o h->mem o=true->mem h=true
def cnt (n:Nat) (mem:Nat->Bool):Int:=Wq n fun h=>if mem h=true then 1 else 0
theorem Qt2 (n:Nat) (mem:Nat->Bool):cnt n mem<=n:=by
 unfold cnt
 induction n with
 | zero=>exact bg _
 | succ n j=>rw [Jr]; split <;> omega
theorem Qkp {n:Nat} {m1 m2:Nat->Bool} (z:∀ h,h < n->m1 h=true->m2 h=true) {h:Nat} (q:h < n) (h1:m1 h=false) (h2:m2 h=true):cnt n m1 + 1<=cnt n m2:=by
 have e:=Qic n (fun h=>if m2 h=true then (1:Int) else 0) (fun h=>if m1 h=true then 1 else 0)
 have l:=Qas (n:=n) (j:=h) (f:=fun h=>(if m2 h=true then (1:Int) else 0) - (if m1 h=true then 1 else 0)) (fun i hi=>by
  have:=z i hi;cases a:m1 i <;> cases b:m2 i <;> simp_all) q
 simp only [h1,h2] at l;unfold cnt;simp at l;omega
theorem Qc0 {X:Type} (n:Nat) (tb:List (List Int)) (mem:X->Nat->Bool) (f:X->Nat->X) (Inv:X->Prop) (hi:∀ x t,Inv x->Inv (f x t))
  (mono:∀ x t h,Inv x->h < n->mem x h=true->mem (f x t) h=true)
  (Y:∀ x t o h,Inv x->o < n->h < n->o≠h->0 < ent tb o h->mem x o=true->mem (f x t) h=true)
  (stay:∀ x t,Inv x->Cl n tb (mem x)->∀ h,h < n->mem (f x t) h=true->mem x h=true) (G:X) (h0:Inv G):Cl n tb (mem ((bV n).foldl f G)):=by
 have Z:∀ t:Nat,Inv ((bV t).foldl f G)/\(Cl n tb (mem ((bV t).foldl f G))\/(t:Int)<=cnt n (mem ((bV t).foldl f G))):=by
  intro t
  induction t with
  | zero=>
   refine ⟨h0,.inr ?_⟩;exact Q5f fun i _=>by split <;> omega
  | succ t O=>
   rw [dh,List.foldl_append,cc,List.foldl_nil];obtain ⟨I,O⟩:=O;generalize (bV t).foldl f G=x at *;refine ⟨hi x t I,?_⟩;rcases Classical.em (Cl n tb (mem x)) with c | c
   ·refine .inl fun o h B z j U J=>?_
    exact mono x t h I z (c o h B z j U (stay x t I c o B J))
   ·rcases O with O | O
    ·exact absurd O c
    ·refine .inr ?_;have:∃ o h,o < n/\h < n/\o≠h/\0 < ent tb o h/\mem x o=true/\mem x h=false:=by
      refine Classical.byContradiction fun q=>c fun o h B z j U J=>?_
      cases e:mem x h with
      | true=>rfl
      | false=>exact absurd ⟨o,h,B,z,j,U,J,e⟩ q
     obtain ⟨o,h,B,z,j,U,J,hf⟩:=this;have:=Qkp (fun h z=>mono x t h I z) z hf (Y x t o h I B z j U J)
     push_cast
     omega
 obtain ⟨I,h | h⟩:=Z n
 ·exact h
 ·intro o k B hk j U J;generalize (bV n).foldl f G=x at *;cases e:mem x k with
  | true=>rfl
  | false=>
   have:=Qkp (m1:=mem x) (m2:=fun _=>true) (fun _ _ _=>rfl) hk e rfl;have h2:=Qt2 n fun _=>true
   omega
theorem set_get {bs:List Bool} {j h:Nat}:((bs.set j true).getD h false=true) <-> (h=j/\j < bs.length)\/bs.getD h false=true:=by
 rw [bZ,dZ]
 by_cases e:j=h
 ·subst e
  by_cases l:j < bs.length
  ·simp [l]
  ·simp [l,bZ]
 ·rw [bK e];constructor
  ·intro q; exact .inr q
  ·rintro (⟨q,_⟩ | q)
   ·exact absurd q.symm e
   ·exact q
theorem Q80 {tb:List (List Int)} {i j h:Nat} {bs:List Bool} (q:bs.getD h false=true):(kn3 tb i bs j).getD h false=true:=by
 unfold kn3
 split
 ·exact set_get.mpr (.inr q)
 ·exact q
theorem Q81 {n:Nat} {tb:List (List Int)} {i h:Nat} {bs:List Bool} (q:bs.getD h false=true):(kn2 n tb bs i).getD h false=true:=X7 (P:=fun bs:List Bool=>bs.getD h false=true) (fun _ _ _ q=>Q80 q) q
theorem Qd6 {n:Nat} {tb:List (List Int)} {t h:Nat} {bs:List Bool} (q:bs.getD h false=true):(kn1 n tb bs t).getD h false=true:=X7 (P:=fun bs:List Bool=>bs.getD h false=true) (fun _ _ _ q=>Q81 q) q
theorem Qbc (n:Nat) (tb:List (List Int)):Cl n tb fun h=>(Q54 n tb).getD h false:=by
 refine Qc0 n tb (fun (bs:List Bool) h=>bs.getD h false) (kn1 n tb) (fun bs=>bs.length=n) (fun x t B=>by rw [Qpk]; exact B) (fun x t h _ _ q=>Qd6 q) (fun x t o h B Z G U Y J=>?_) (fun x t B c h G J=>?_) _ (by simp [Qbd])
 ·show (kn1 n tb x t).getD h false=true;refine Q8a (P:=fun bs:List Bool=>bs.length=n/\bs.getD o false=true) (Q:=fun bs:List Bool=>bs.getD h false=true) (fun bs y q=>⟨by rw [Qfq]; exact q.1,Q81 q.2⟩) (fun bs y q=>Q81 q) (x:=o) (fun bs q=>?_) (E7.mpr Z) ⟨B,J⟩;refine Q8a (P:=fun bs:List Bool=>bs.length=n/\bs.getD o false=true) (Q:=fun bs:List Bool=>bs.getD h false=true) (fun bs y q=>⟨by rw [Qfp]; exact q.1,Q80 q.2⟩) (fun bs y q=>Q80 q) (x:=h) (fun bs q=>?_) (E7.mpr G) q;unfold kn3;rw [bJ ⟨q.2,U,Y⟩];exact set_get.mpr (.inl ⟨rfl,by rw [q.1]; exact G⟩)
 ·have:∀ g,g < n->(kn1 n tb x t).getD g false=true->x.getD g false=true:=by
   refine X7 (P:=fun bs:List Bool=>∀ g,g < n->bs.getD g false=true->x.getD g false=true) (fun bs i hi z=>?_) fun g _ q=>q
   refine X7 (P:=fun bs:List Bool=>∀ g,g < n->bs.getD g false=true->x.getD g false=true) (fun bs j hj z g O q=>?_) z;unfold kn3 at q
   split at q
   ·rename_i I;rcases set_get.mp q with ⟨rfl,_⟩ | q
    ·exact c i g (E7.mp hi) O I.2.1 I.2.2 (z i (E7.mp hi) I.1)
    ·exact z g O q
   ·exact z g O q
  exact this h G J
theorem Qd5 (n:Nat) (tb:List (List Int)) {h:Nat} (Y:h < n):(Q54 n tb).getD h false=true <-> Rc n tb h:=by
 constructor
 ·have:∀ g,g < n->(Q54 n tb).getD g false=true->Rc n tb g:=by
   refine X7 (P:=fun bs:List Bool=>∀ g,g < n->bs.getD g false=true->Rc n tb g) (fun bs t _ z=>?_) fun g B q=>?_
   ·refine X7 (P:=fun bs:List Bool=>∀ g,g < n->bs.getD g false=true->Rc n tb g) (fun bs i hi z=>?_) z;refine X7 (P:=fun bs:List Bool=>∀ g,g < n->bs.getD g false=true->Rc n tb g) (fun bs j Z z g B q=>?_) z;unfold kn3 at q
    split at q
    ·rename_i I;rcases set_get.mp q with ⟨rfl,_⟩ | q
     ·exact .lent (z i (E7.mp hi) I.1) B I.2.2
     ·exact z g B q
    ·exact z g B q
   ·unfold Qbd at q;rw [bZ,E6,cJ B] at q;exact .made B (by simpa using q)
  exact this h Y
 ·intro r
  induction r with
  | made G O=>
   refine X7 (P:=fun bs:List Bool=>bs.getD _ false=true) (fun bs t _ q=>Qd6 q) ?_;unfold Qbd;rw [bZ,E6,cJ G];simpa using O
  | @lent o g r G U J=>
   by_cases e:o=g
   ·subst e; exact J r.lt
   ·exact Qbc n tb o g r.lt G e U (J r.lt)
def RdOk (n:Nat) (fs:List Nat):Prop:=(∀ x∈fs,x < n)/\fs.Nodup
theorem Q4x:∀ {n:Nat} {fs:List Nat},(∀ x∈fs,x < n)->fs.Nodup->fs.length<=n
 | 0,[],_,_=>O7 _
 | 0,x :: _,h,_=>absurd (h x D4) (di _)
 | n + 1,fs,h,d=>by
  by_cases q:n∈fs
  ·have h1:(fs.erase n).length<=n:=Q4x (fun x j=>by
    have h2:=(d.mem_erase_iff).mp j;have:=h x h2.2;omega) (d.erase n)
   rw [List.length_erase_of_mem q] at h1;omega
  ·have:=Q4x (n:=n) (fs:=fs) (fun x j=>by
    have:=h x j;have:x≠n:=fun e=>q (e ▸ j)
    omega) d
   omega
theorem RdOk.len {n:Nat} {fs:List Nat} (h:RdOk n fs):fs.length<=n:=Q4x h.1 h.2
def AhN (tb:List (List Int)) (fs:List Nat):Prop:=∀ k,k < fs.length->Q0u tb (fs.getD k 0)=true\/∃ o∈fs.take k,0 < ent tb o (fs.getD k 0)
theorem AhN.snoc {tb:List (List Int)} {fs:List Nat} {h:Nat} (a:AhN tb fs) (q:Q0u tb h=true\/∃ o∈fs,0 < ent tb o h):AhN tb (fs ++ [h]):=by
 intro k j;rw [O8,eP] at j
 by_cases e:k < fs.length
 ·have:=a k e;rw [List.take_append_of_le_length (by omega)];rw [show (fs ++ [h]).getD k 0=fs.getD k 0 by rw [bZ,bZ,O6 e]];exact this
 ·have:k=fs.length:=by omega
  subst this;rw [show (fs ++ [h]).getD fs.length 0=h by simp [bZ]];rw [List.take_left];exact q
def Q1m (fs:List Nat):List Int:=fs.map fun k:Nat=>(k:Int)
def rdS (st:Q2) (fs:List Nat):Q2:=st ++ [Cell.lst (fs.map Y5)]
theorem Qiu (st:Q2) (fs:List Nat):(rdS st fs)[st.length]?=some (.lst (fs.map Y5)):=by unfold rdS; simp
theorem Q23 (fs:List Nat):(Q1m fs).map PV.int=fs.map Y5:=by unfold Q1m; rw [bt]; rfl
theorem intsN_mem {fs:List Nat} {h:Nat}:(h:Int)∈Q1m fs <-> h∈fs:=by
 unfold Q1m;rw [cr];constructor
 ·rintro ⟨k,j,e⟩;have:k=h:=by omega
  rw [<- this]; exact j
 ·intro q; exact ⟨h,q,rfl⟩
def X5 (n:Nat) (fs:List Nat):List Nat:=(bV n).filter fun h=>!decide (h∈fs)
def Xw (n:Nat) (tb:List (List Int)) (fs:List Nat):List Nat:=(X5 n fs).filter fun h=>Q06 tb h fs
structure GdR (n:Nat) (tb:List (List Int)) (fs:List Nat):Prop where
 rd:RdOk n fs
 ah:AhN tb fs
 rc:∀ h∈fs,Rc n tb h
theorem AhN.more {tb:List (List Int)}:∀ {ds fs:List Nat},AhN tb fs->(∀ h∈ds,Q0u tb h=true\/∃ o∈fs,0 < ent tb o h)->AhN tb (fs ++ ds)
 | [],fs,a,_=>by rw [bq]; exact a
 | d :: ds,fs,a,h=>by
  rw [show fs ++ d :: ds=(fs ++ [d]) ++ ds by simp];refine AhN.more (a.snoc (h d D4)) fun g z=>?_
  rcases h g (D0 _ z) with q | ⟨o,j,q⟩
  ·exact .inl q
  ·exact .inr ⟨o,F5 _ j,q⟩
theorem Q6g {n:Nat} {tb:List (List Int)} {fs:List Nat} {h:Nat} (q:h∈Xw n tb fs):h < n/\h∉fs/\(Q0u tb h=true\/∃ o∈fs,0 < ent tb o h):=by
 obtain ⟨q1,q2⟩:=cD.mp q;obtain ⟨q3,z⟩:=cD.mp q1;refine ⟨E7.mp q3,by simpa using z,?_⟩;unfold Q06 Qd1 at q2;rw [gD] at q2;rcases q2 with q2 | q2
 ·exact .inl q2
 ·obtain ⟨o,j,e⟩:=dD.mp q2;rw [F6] at e;exact .inr ⟨o,j,by simpa using e.2⟩
theorem GdR.step {n:Nat} {tb:List (List Int)} {fs:List Nat} (g:GdR n tb fs):GdR n tb (fs ++ Xw n tb fs):=by
 refine ⟨⟨fun x j=>?_,?_⟩,g.ah.more fun h q=>(Q6g q).2.2,fun h j=>?_⟩
 ·rcases E9.mp j with j | j
  ·exact g.rd.1 x j
  ·exact (Q6g j).1
 ·refine dY.mpr ⟨g.rd.2,(List.nodup_range.filter _).filter _,fun a B b z e=>?_⟩;subst e;exact (Q6g z).2.1 B
 ·rcases E9.mp j with j | j
  ·exact g.rc h j
  ·obtain ⟨h1,_,h2 | ⟨o,I,G⟩⟩:=Q6g j
   ·exact .made h1 h2
   ·exact .lent (g.rc o I) h1 G
theorem GdR.closed {n:Nat} {tb:List (List Int)} {fs:List Nat} (g:GdR n tb fs) (J:Xw n tb fs=[]) {h:Nat} (Z:h < n):h∈fs <-> Rc n tb h:=by
 refine ⟨g.rc h,fun r=>?_⟩;have j:∀ k,k < n->k∉fs->Q06 tb k fs=false:=fun k Y B=>by
  cases e:Q06 tb k fs with
  | false=>rfl
  | true=>
   have:k∈Xw n tb fs:=cD.mpr ⟨cD.mpr ⟨E7.mpr Y,by simp [B]⟩,e⟩;rw [J] at this;cases this
 induction r with
 | @made k z B=>
  refine Classical.byContradiction fun q=>?_
  have:=j k z q;unfold Q06 at this;rw [B] at this;cases this
 | @lent o k r z U O=>
  refine Classical.byContradiction fun q=>?_
  have:=j k z q;unfold Q06 Qd1 at this;rw [Bool.or_eq_false_iff,fQ] at this;have I:=O r.lt;have G:o≠k:=fun e=>q (e ▸ I)
  exact this.2 o I (by simp [G,U])
theorem Qmy {n:Nat} {tb:List (List Int)} (z:Sz n tb) (hn:n<=100) (st:Q2) (fs:List Nat) (r:RdOk n fs) (b a c:Option PV):U8 [some (Q8 tb),some (.ref st.length),b,a,c] (rdS st fs)=.nx [some (Q8 tb),some (.ref st.length),some (.bl (decide (0 < (Xw n tb fs).length))),some (.lst ((X5 n fs).map Y5)),some (.lst ((Xw n tb fs).map Y5))] (rdS st (fs ++ Xw n tb fs)):=by
 have a4:-1000000<=(n:Int)/\(n:Int)<=1000000:=by omega
 have a6:=r.len;have U:=Qiu st fs;have a3:ListAt (rdS st fs) (.ref st.length) ((Q1m fs).map .int):=.inr (.inr ⟨_,rfl,by rw [Q23]; exact U⟩);have G:ListAt (rdS st fs) (.ref st.length) (fs.map Y5):=.inr (.inr ⟨_,rfl,U⟩);have Z:Yx (rdS st fs) [Q8 tb]=.ok (.int n) (rdS st fs):=by simp [Q8,z.1]
 have a2:Z3 (Qp 0) U6 Kc [] (Zp [none,some 1] [some (Q8 tb),some (.ref st.length),b,a,c]) (Yg 0 n) (rdS st fs)=.ok ((X5 n fs).map Y5) (rdS st fs):=by
  rw [K2];refine Q29 _ _ _ (by simp) fun j hj=>⟨_,rfl,?_,fun ht=>?_⟩
  ·have B:=Qqp a3 (j:Int) true
   by_cases q:j∈fs
   ·have q':(j:Int)∈Q1m fs:=intsN_mem.mpr q;generalize rdS st fs=S at *;simp -implicitDefEqProofs [Zp,U6,B,q,q']
   ·have q':¬ (j:Int)∈Q1m fs:=fun z=>q (intsN_mem.mp z)
    generalize rdS st fs=S at *;simp -implicitDefEqProofs [Zp,U6,B,q,q']
  ·simp [Zp,Kc,Y5]
 have J:(X5 n fs).length<=n:=by
  have:=fB (fun h=>!decide (h∈fs)) (bV n)
  rw [G6] at this;exact this
 have Y:∀ h∈X5 n fs,h < n:=fun h hh=>E7.mp (cD.mp hh).1
 have O:Z3 (Qp 0) Xy Kb [] (Zp [none,some 0,some 1] [some (Q8 tb),some (.ref st.length),b,some (.lst ((X5 n fs).map Y5)),c]) ((X5 n fs).map Y5) (rdS st fs)=.ok ((Xw n tb fs).map Y5) (rdS st fs):=by
  unfold Xw;refine Q29 _ _ _ (by simp) fun j hj=>⟨_,rfl,?_,fun ht=>?_⟩
  ·have hr:=Qmz z (h:=j) (Y j hj) r.1 (by omega) G;generalize Q06 tb j fs=rb at *;generalize rdS st fs=S at *;generalize (X5 n fs).map Y5=ov at *;simp -implicitDefEqProofs [Zp,Xy,Y5,hr]
  ·simp [Zp,Kb,Y5]
 have a5:(Xw n tb fs).length<=n:=F1 (fB _ _) J;have I:(rdS st fs).set st.length (.lst (fs.map Y5 ++ (Xw n tb fs).map Y5))=rdS st (fs ++ Xw n tb fs):=by
  unfold rdS;rw [F3];simp
 have l1:((X5 n fs).map Y5).length<=1000000:=by rw [O2]; omega
 have l2:(fs.map Y5).length + ((Xw n tb fs).map Y5).length<=1000000:=by rw [O2,O2]; omega
 have l3:((Xw n tb fs).map Y5).length=(Xw n tb fs).length:=O2 _;generalize rdS st (fs ++ Xw n tb fs)=S2 at *;generalize rdS st fs=S at *;generalize (X5 n fs).map Y5=ov at *;generalize (Xw n tb fs).length=fl at *;generalize (Xw n tb fs).map Y5=fv at *;generalize fs.map Y5=xv at *;rw [l3] at l2;simp -implicitDefEqProofs [U8,Z,a4,Zk,a2,l1,O,U,Q1e,chg,l2,l3,I]
theorem Qc9 {n:Nat} {tb:List (List Int)} (z:Sz n tb) (O:n<=100) (st:Q2):∀ (m j:Nat) (fs:List Nat) (a c:Option PV),GdR n tb fs->n<=fs.length + m->m + 2<=j->∃ fs' J I q,GdR n tb fs'/\Xw n tb fs'=[]/\j7 Yy U8 j [some (Q8 tb),some (.ref st.length),some (.bl true),a,c] (rdS st fs)=.nx [some (Q8 tb),some (.ref st.length),J,I,q] (rdS st fs')
 | m,0,_,_,_,_,_,h=>absurd h (by omega)
 | m,1,_,_,_,_,_,h=>absurd h (by omega)
 | m,k + 2,fs,a,c,g,hm,hf=>by
  have B:=Qmy z O st fs g.rd (some (.bl true)) a c;have U:∀ S,Yy [some (Q8 tb),some (.ref st.length),some (.bl true),a,c] S=.ok true S:=fun S=>by simp [Yy]
  by_cases e:Xw n tb fs=[]
  ·refine ⟨fs,some (.bl false),some (.lst ((X5 n fs).map Y5)),some (.lst ((Xw n tb fs).map Y5)),g,e,?_⟩;rw [j7,U];simp only [Uc,if_true,B];rw [j7];have Y:∀ S,Yy [some (Q8 tb),some (.ref st.length),some (.bl (decide (0 < (Xw n tb fs).length))),some (.lst ((X5 n fs).map Y5)),some (.lst ((Xw n tb fs).map Y5))] S=.ok false S:=fun S=>by simp [Yy,e]
   rw [Y];simp [e]
  ·have hp:0 < (Xw n tb fs).length:=cy.mpr e;have g':=g.step;have G:=g'.rd.len;rw [O8] at G;cases m with
   | zero=>omega
   | succ m=>
    obtain ⟨fs',J,I,q,h1,h2,Z⟩:=Qc9 z O st m (k + 1) (fs ++ Xw n tb fs) (some (.lst ((X5 n fs).map Y5))) (some (.lst ((Xw n tb fs).map Y5))) g' (by rw [O8]; omega) (by omega);refine ⟨fs',J,I,q,h1,h2,?_⟩;rw [j7,U];rw [bN hp] at B;simp only [Uc,if_true,B];exact Z
theorem Qe4 {n:Nat} {tb:List (List Int)} (z:Sz n tb) (q:n<=100) (st:Q2):∃ fs,GdR n tb fs/\Xw n tb fs=[]/\Vn [some (Q8 tb),none,none,none,none] st=.rt (.ref st.length) (rdS st fs):=by
 obtain ⟨fs,U,O,J,g,e,h⟩:=Qc9 z q st n 100000 [] none none ⟨⟨fun x j=>(by cases j),gS⟩,fun k B=>absurd B (di _),fun x j=>(by cases j)⟩ (by simp) (by omega)
 refine ⟨fs,g,e,?_⟩;have G:st ++ [Cell.lst []]=rdS st []:=rfl;generalize rdS st fs=I at *;generalize rdS st []=S1 at *;simp -implicitDefEqProofs [Vn,Zk,G,h]
theorem Q9y {n:Nat} {tb:List (List Int)} (z:Sz n tb) (B:n<=100) (st:Q2):∃ fs,GdR n tb fs/\Xw n tb fs=[]/\Wp [Q8 tb] st=.ok (.lst (fs.map Y5)) st:=by
 obtain ⟨fs,g,e,h⟩:=Qe4 z B st;refine ⟨fs,g,e,?_⟩;have j:=Qpt (n:=st.length) (r:=st.length) (S:=rdS st fs) (hs:=Q1m fs) (O7 _) (by rw [Q23]; exact Qiu _ _);rw [Q23] at j;have q:st <+: rdS st fs:=dB _ _;generalize rdS st fs=G at *;show Qs Vn 5 [Q8 tb] st=_;unfold Qs;rw [show (([Q8 tb]:List PV).map some ++ bQ (5 - [Q8 tb].length) none)=[some (Q8 tb),none,none,none,none] from rfl,h];show Sm.fin st (.ref st.length) G=_;unfold Sm.fin;rw [bJ q,j];rfl
theorem Qre {n:Nat} {tb:List (List Int)} {fs:List Nat} (g:GdR n tb fs) (G:Xw n tb fs=[]):((bV n).all fun h=>(Q54 n tb).getD h false || !X8 tb h)=(bV n).all fun h=>decide (h∈fs) || !X8 tb h:=by
 rw [dC,F7,F7];have B:∀ h,h∈bV n->(decide (h∈fs) || !X8 tb h)=((Q54 n tb).getD h false || !X8 tb h):=fun h I=>by
  have j:=E7.mp I;congr 1;rw [dC,decide_eq_true_iff,g.closed G j,Qd5 n tb j]
 constructor <;> intro q x z
 ·rw [B x z]; exact q x z
 ·rw [<- B x z]; exact q x z
def Q2v (n:Nat) (tb:List (List Int)):Bool:=(bV n).all fun h=>(Q54 n tb).getD h false || !X8 tb h
theorem Qjh {n:Nat} {tb:List (List Int)} {fs:List Nat} (g:GdR n tb fs) (j:Xw n tb fs=[]):(X5 n fs).any (X8 tb)=!Q2v n tb:=by
 unfold Q2v;rw [Qre g j];unfold X5;rw [gU,List.any_eq_not_all_not];congr 2;funext h;rw [Bool.not_and,Bool.not_not]
theorem Q88 {α:Type} (g:α->PV) (J:Gam->Prop) (B:α->Bool) (v:α->PV) {ga:GA} {body:MS} {w:Wt} {st:Q2} (U:wOk w st):∀ {xs:List α},(∀ x∈xs,∀ Γ,J Γ->∃ Γ1,ga (g x) Γ=some Γ1/\(B x=true->∃ j,J j/\body Γ1 st=.nx j st)/\(B x=false->body Γ1 st=.rt (v x) st)) ->
  ∀ Γ,J Γ->(xs.all B=true->∃ I,J I/\xj ga body w (xs.map g) Γ st=.nx I st)/\(xs.all B=false->∃ x∈xs,B x=false/\xj ga body w (xs.map g) Γ st=.rt (v x) st)
 | [],_,Γ,O=>⟨fun _=>⟨Γ,O,by simp [xj,U]⟩,fun h=>by simp at h⟩
 | x :: xs,h,Γ,O=>by
  obtain ⟨Γ1,h1,h2,h3⟩:=h x D4 Γ O;rw [F2,xj,bJ U,h1];cases G:B x with
  | false=>
   refine ⟨fun z=>by simp [G] at z,fun _=>⟨x,D4,G,?_⟩⟩
   simp only [h3 G]
  | true=>
   obtain ⟨j,j2,e2⟩:=h2 G;have Z:=Q88 g J B v (ga:=ga) (body:=body) U (xs:=xs) (fun y Y=>h y (D0 _ Y)) j j2
   simp only [e2,cT,G,fC];exact ⟨Z.1,fun q=>by
    obtain ⟨y,Y,p,e⟩:=Z.2 q;exact ⟨y,D0 _ Y,p,e⟩⟩
def Q8i (n:Nat) (tb:List (List Int)):Bool:=((bV n).all fun h=>decide (0<=Qt tb h)) && Q2v n tb
theorem Q2f {n:Nat} {tb:List (List Int)} (z:Sz n tb) (hn:n<=100) (st:Q2):∃ us:List Nat,us.length<=n/\(us=[] <-> Q2v n tb=true)/\W4 [Q8 tb] st=.ok (.lst (us.map Y5)) st:=by
 obtain ⟨fs,g,hc,e⟩:=Q9y z hn st;have U:-1000000<=(n:Int)/\(n:Int)<=1000000:=by omega
 have I:Yx st [Q8 tb]=.ok (.int n) st:=by simp [Q8,z.1]
 have a2:ListAt st (.lst (fs.map Y5)) ((Q1m fs).map .int):=.inl (by rw [Q23]);have O:Z3 (Qp 0) V3 X3 [] (Zp [none,some 1] [some (Q8 tb),some (.lst (fs.map Y5)),none]) (Yg 0 n) st=.ok ((X5 n fs).map Y5) st:=by
  rw [K2];refine Q29 _ _ _ (by simp) fun j hj=>⟨_,rfl,?_,fun ht=>?_⟩
  ·have J:=Qqp a2 (j:Int) true
   by_cases q:j∈fs
   ·have q':(j:Int)∈Q1m fs:=intsN_mem.mpr q;generalize fs.map Y5=fv at *;simp -implicitDefEqProofs [Zp,V3,J,q,q']
   ·have q':¬ (j:Int)∈Q1m fs:=fun z=>q (intsN_mem.mp z)
    generalize fs.map Y5=fv at *;simp -implicitDefEqProofs [Zp,V3,J,q,q']
  ·simp [Zp,X3,Y5]
 have Y:(X5 n fs).length<=n:=by
  have:=fB (fun h=>!decide (h∈fs)) (bV n)
  rw [G6] at this;exact this
 have Z:∀ h∈X5 n fs,h < n:=fun h hh=>E7.mp (cD.mp hh).1
 have B:=Qjh g hc;have G:Z3 (Qp 0) Zr X2 [] (Zp [none,some 0] [some (Q8 tb),some (.lst (fs.map Y5)),some (.lst ((X5 n fs).map Y5))]) ((X5 n fs).map Y5) st=.ok (((X5 n fs).map (X8 tb)).map .bl) st:=by
  rw [bt];refine W7 _ _ (by simp) fun j hj=>⟨_,rfl,?_⟩
  have hb:=Qq5 z (Z j hj) st;show _=Res.ok (PV.bl (X8 tb j)) st;generalize X8 tb j=rb at *;simp -implicitDefEqProofs [Zp,X2,Y5,hb]
 have ha:(X5 n fs).any (X8 tb)=((X5 n fs).map (X8 tb)).any id:=(Qm5 _ _).symm;have l1:((X5 n fs).map Y5).length<=1000000:=by rw [O2]; omega
 have a4:fin st (.lst ((X5 n fs).map Y5)) st=.ok (.lst ((X5 n fs).map Y5)) st:=Ue (by simp [Zm,Y5]);have a3:fin st (.lst []) st=.ok (.lst []) st:=Ue (by simp [Zm]);cases hr:Q2v n tb with
 | true=>
  refine ⟨[],by simp,by simp,?_⟩;rw [hr,ha] at B;rw [ca];generalize (X5 n fs).map (X8 tb)=bs at *;generalize (X5 n fs).map Y5=ov at *;have B:bs.any id=false:=B;simp -implicitDefEqProofs [W4,Qs,U7,e,I,U,Zk,O,l1,G,B,a3]
 | false=>
  rw [hr] at B;refine ⟨X5 n fs,Y,⟨fun q=>?_,fun q=>by cases q⟩,?_⟩
  ·rw [q] at B; cases B
  ·rw [ha] at B;have B:((X5 n fs).map (X8 tb)).any id=true:=B;generalize (X5 n fs).map (X8 tb)=bs at *;generalize (X5 n fs).map Y5=ov at *;simp -implicitDefEqProofs [W4,Qs,U7,e,I,U,Zk,O,l1,G,B,a4]
theorem Qhm {n:Nat} {tb:List (List Int)} (z:Sz n tb) (O:n<=100) (st:Q2):∃ (s:Str) (v:PV),V0 [Q8 tb] st=.ok (.tup [.str s,v]) st/\(s == (bO "comes"))=Q8i n tb:=by
 have B:-1000000<=(n:Int)/\(n:Int)<=1000000:=by omega
 have j:∀ S,Yx S [Q8 tb]=.ok (.int n) S:=fun S=>by simp [Q8,z.1]
 have L:=Q88 (fun k:Nat=>PV.int (k:Int)) (fun Γ=>∃ a,Γ=[some (Q8 tb),a,none]) (fun h=>decide (0<=Qt tb h)) (fun h=>.tup [.str "short",.int h]) (ga:=Qp 1) (body:=Xf) (w:=[]) (st:=st) (by simp) (xs:=bV n) (fun h hh Γ ⟨a,e⟩=>by
  subst e;have G:=Q9z z O (E7.mp hh) st;refine ⟨_,rfl,fun hp=>⟨[some (Q8 tb),some (.int h),none],⟨_,rfl⟩,?_⟩,fun hp=>?_⟩
  ·have U:0<=Qt tb h:=by simpa using hp
   have:¬ (Qt tb h < 0):=by omega
   generalize Qt tb h=x at *;simp -implicitDefEqProofs [Xf,G,this]
  ·have U:¬ 0<=Qt tb h:=by simpa using hp
   have:Qt tb h < 0:=by omega
   generalize Qt tb h=x at *;simp -implicitDefEqProofs [Xf,G,this,Zk])
 have L:=L [some (Q8 tb),none,none] ⟨_,rfl⟩;rw [<- K2] at L;unfold Q8i;cases Z:(bV n).all fun h=>decide (0<=Qt tb h) with
 | false=>
  obtain ⟨h,hh,hp,e⟩:=L.2 Z;refine ⟨"short",.int h,?_,by rw [fO]; decide +kernel⟩;have I:fin st (.tup [.str "short",.int h]) st=.ok (.tup [.str "short",.int h]) st:=Ue (by simp [Zm]);simp -implicitDefEqProofs [V0,Qs,X6,j,B,Zk,e,I]
 | true=>
  obtain ⟨a2,⟨a,rfl⟩,e⟩:=L.1 Z;obtain ⟨us,hl,J,e1⟩:=Q2f z O st;cases G:Q2v n tb with
  | true=>
   have Y:=J.mpr G;subst Y;obtain ⟨fs,g,hc,e2⟩:=Q9y z O st;refine ⟨"comes",.lst (fs.map Y5),?_,by rw [fC]; decide +kernel⟩;have I:fin st (.tup [.str "comes",.lst (fs.map Y5)]) st=.ok (.tup [.str "comes",.lst (fs.map Y5)]) st:=Ue (by simp [Zm,Y5]);rw [ca] at e1;generalize fs.map Y5=fv at *;simp -implicitDefEqProofs [V0,Qs,X6,j,B,Zk,e,e1,e2,I]
  | false=>
   have Y:us≠[]:=fun q=>by rw [J.mp q] at G; cases G
   refine ⟨"rootless",.lst (us.map Y5),?_,by rw [fC]; decide +kernel⟩;have hp:0 < (us.map Y5).length:=by rw [O2]; exact cy.mpr Y
   have I:fin st (.tup [.str "rootless",.lst (us.map Y5)]) st=.ok (.tup [.str "rootless",.lst (us.map Y5)]) st:=Ue (by simp [Zm,Y5]);generalize us.map Y5=uv at *;simp -implicitDefEqProofs [V0,Qs,X6,j,B,Zk,e,e1,hp,I]
theorem Qfi {a b:List (List Int)} (h:a.length=b.length) (st:Q2):Z2 [Q8 a,Q8 b] st=.ok .non st:=by
 simp [Z2,Qs,U3,Q8,h]
def Qca (r1 r2:List Int):Bool:=(r1.zip r2).all fun z=>decide (z.1<=z.2)
theorem Q95 (j q:List Int) (st:Q2) (G:j.length<=lim):Vr [J0 j,J0 q] st=.ok (.bl (Qca j q)) st:=by
 have B:Z3 (qx (Y0 (Qp 0) (Y0 (Qp 1) qy))) Zr Ke [] (Zp [none,none] [some (J0 j),some (J0 q)]) ((j.zip q).map fun z=>.tup [.int z.1,.int z.2]) st=.ok ((j.zip q).map fun z=>.bl (decide (z.1<=z.2))) st:=by
  refine W7 _ _ (by simp) fun z hz=>⟨_,rfl,?_⟩
  simp [Zp,Ke]
 unfold J0 at B ⊢;simp [Vr,Qs,jd,G,Q10,B,Qez,Qca]
theorem Qhd (r:List Int) (n:Int) (st:Q2) (q:r.length<=lim):Q1x [J0 r,.int n] st=.ok (.bl (decide ((r.length:Int)=n + 1) && r.all fun i=>decide (0<=i))) st:=by
 have j:Z3 (Qp 0) Zr Q36 [] (Zp [none] [some (J0 r),some (.int n)]) (r.map .int) st=.ok (r.map fun i=>.bl (decide (0<=i))) st:=by
  refine W7 _ _ (by simp) fun i hi=>⟨_,rfl,?_⟩
  simp [Zp,Q36,Q0k]
 unfold J0 at j ⊢
 by_cases h:(r.length:Int)=n + 1 <;> simp [Q1x,Qs,Q7s,isI,tyN,j,h,q,Qez]
theorem Qd7 {n:Nat} {tb:List (List Int)} (w:Wt' n tb) (st:Q2):zt [Q8 tb] st=.ok (.bl true) st:=by
 have h1:=w.n1;have I:=w.n8;have z:Z3 (Qp 0) Zr Q0q [] (Zp [none,some 0] [some (Q8 tb)]) (tb.map J0) st=.ok (tb.map fun _=>.bl true) st:=by
  refine W7 _ _ (by simp) fun r B=>⟨_,rfl,?_⟩
  have e:=w.row r B;have e2:=Qhd r tb.length st (by rw [e,Zk]; omega);simp [Zp,Q0q,Q8,e2];rw [w.len,e];exact ⟨by omega,w.nn r B⟩
 unfold Q8 at z ⊢;have j:(1:Int)<=n:=by omega
 have q:(n:Int)<=8:=by omega
 have G:n<=1000000:=by omega
 simp [zt,Qs,Q30,isI,tyN,z,w.len,Qez,j,q,Zk,G]
def maxI (x y:Int):Int:=if y > x then y else x
theorem Qjs (x y:Int):x<=maxI x y:=by unfold maxI; split <;> omega
theorem Qfj (x y:Int):maxI x y=x\/maxI x y=y:=by unfold maxI; split <;> simp
def Vp (a b:List Int):List Int:=(a.zip b).map fun z=>maxI z.1 z.2
def Vc (a b:List (List Int)):List (List Int):=(a.zip b).map fun z=>Vp z.1 z.2
theorem Q9p (a b:List Int) (B:a.length<=lim) (st:Q2):Ki [J0 a,J0 b] st=.ok (J0 (Vp a b)) st:=by
 have j:Z3 (qx (Y0 (Qp 0) (Y0 (Qp 1) qy))) Zr zn [] (Zp [none,none] [some (J0 a),some (J0 b)]) ((a.zip b).map fun z=>.tup [.int z.1,.int z.2]) st=.ok ((a.zip b).map fun z=>.int (maxI z.1 z.2)) st:=by
  refine W7 _ _ (by simp) fun z hz=>⟨_,rfl,?_⟩
  simp [Zp,zn,maxI]
 have e:((a.zip b).map fun z=>PV.int (maxI z.1 z.2))=(Vp a b).map .int:=by unfold Vp; rw [bt]; rfl
 rw [e] at j;have G:Zm 12 (.tup ((Vp a b).map .int))=true:=by simp [Zm]
 generalize Vp a b=q at *;unfold J0 at j ⊢;simp [Ki,Qs,Q0d,B,Q10,j,Ue G]
theorem Qha {a b:List (List Int)} (h:a.length=b.length) (G:a.length<=lim) (J:∀ r∈a,r.length<=lim) (st:Q2):Q1w [Q8 a,Q8 b] st=.ok (Q8 (Vc a b)) st:=by
 have j:Z3 (qx (Y0 (Qp 0) (Y0 (Qp 1) qy))) Zr Q35 [] (Zp [none,none] [some (Q8 a),some (Q8 b)]) ((a.zip b).map fun z=>.tup [J0 z.1,J0 z.2]) st=.ok ((a.zip b).map fun z=>J0 (Vp z.1 z.2)) st:=by
  refine W7 _ _ (by simp) fun z hz=>⟨_,rfl,?_⟩
  have:=Q9p z.1 z.2 (J _ (cZ hz).1) st;simp [Zp,Q35,this]
 have e:((a.zip b).map fun z=>J0 (Vp z.1 z.2))=(Vc a b).map J0:=by unfold Vc; rw [bt]; rfl
 rw [e] at j;have B:=Qfi h st;have I:Zm 12 (.tup ((Vc a b).map J0))=true:=by simp [Zm,J0]
 generalize Vc a b=q at *;unfold Q8 at j B ⊢;simp [Q1w,Qs,Q7r,G,Q10,j,B,Ue I]
theorem Qhb {a b:List Int} (h:a.length=b.length):(Vp a b).length=a.length:=by unfold Vp; simp [h]
theorem Qmj {n:Nat} {a b:List (List Int)} (j:Sz n a) (q:Sz n b):Sz n (Vc a b):=by
 refine ⟨by unfold Vc; simp [j.1,q.1],fun r B=>?_⟩;obtain ⟨z,hz,rfl⟩:=cr.mp B;have:=cZ hz;rw [Qhb (by rw [j.2 _ this.1,q.2 _ this.2]),j.2 _ this.1]
theorem Q44 {n i j:Nat} {a b:List (List Int)} (G:Sz n a) (B:Sz n b) (hi:i < n) (q:j<=n):ent (Vc a b) i j=maxI (ent a i j) (ent b i j):=by
 have O:=G.row hi;have rb:=B.row hi;have J:=G.cell hi q;have I:=B.cell hi q;have e1:(Vc a b).getD i []=Vp (a.getD i []) (b.getD i []):=by
  unfold Vc;rw [bZ,E6,(dc (z:=(a.getD i [],b.getD i []))).mpr ⟨O.1,rb.1⟩];rfl
 have e2:(Vp (a.getD i []) (b.getD i []))[j]?=some (maxI (ent a i j) (ent b i j)):=by
  unfold Vp;rw [E6,(dc (z:=(ent a i j,ent b i j))).mpr ⟨J,I⟩];rfl
 unfold ent;rw [e1,bZ,e2];rfl
def qt (n:Nat):List Int:=bQ (n + 1) 0
theorem Qma {n:Nat} (h1:1<=n) (z:n<=8):Wt' n (bQ n (qt n)):=by
 refine ⟨by simp,fun r j=>?_,fun r j x q=>?_,h1,z⟩
 ·rw [fD j]; simp [qt]
 ·rw [fD j] at q;rw [fD q];exact bg _
def Ks (tb:List (List Int)) (i j:Nat) (x:Int):List (List Int):=tb.set i ((tb.getD i []).set j x)
theorem Q0n {n i j:Nat} {tb:List (List Int)} (z:Sz n tb) (hi:i < n) (J:j<=n) (x:Int) (a b:Nat):ent (Ks tb i j x) a b=if a=i/\b=j then x else ent tb a b:=by
 unfold ent Ks;have I:=(z.row hi).2
 by_cases G:a=i
 ·subst G;rw [show (tb.set a ((tb.getD a []).set j x)).getD a []=(tb.getD a []).set j x by rw [bZ,E2 (by rw [z.1]; exact hi)]; rfl]
  by_cases B:b=j
  ·subst B;rw [bJ ⟨rfl,rfl⟩,bZ,E2 (by omega)]; rfl
  ·rw [bK (fun q=>B q.2),bZ,O5 (fun q=>B q.symm)]; rfl
 ·rw [bK (fun q=>G q.1)];rw [show (tb.set i ((tb.getD i []).set j x)).getD a []=tb.getD a [] by rw [bZ,O5 (fun q=>G q.symm)]; rfl]
theorem Q6n (n i:Nat) (k:Int):Wq n (fun o=>if o=i then k else 0)=if i < n then k else 0:=by
 induction n with
 | zero=>rfl
 | succ n j=>
  rw [Jr,j]
  by_cases e:n=i
  ·subst e; simp
  ·rw [bK e]
   by_cases h:i < n
   ·rw [bJ h,bJ (by omega)]; omega
   ·rw [bK h,bK (by omega)]; omega
theorem Qn5 {n i j:Nat} {tb:List (List Int)} (z:Sz n tb) (hi:i < n) (x:Int):Sz n (Ks tb i j x):=by
 unfold Ks;refine ⟨by rw [D5]; exact z.1,fun r q=>?_⟩;rcases dj q with q | rfl
 ·exact z.2 r q
 ·rw [D5]; exact (z.row hi).2
theorem Q70 {n i j:Nat} {tb:List (List Int)} (z:Sz n tb) (hi:i < n) (J:j<=n) (k:Int) {h:Nat} (G:h < n) :
  Qt (Ks tb i j (ent tb i j + k)) h=Qt tb h + (if h=j then k else 0) - (if h=i then k else 0) + (if h=i/\j=i then k else 0):=by
 have I:=Qn5 (j:=j) z hi (ent tb i j + k);have B:∀ a b,ent (Ks tb i j (ent tb i j + k)) a b=ent tb a b + if a=i/\b=j then k else 0:=fun a b=>by
  rw [Q0n z hi J]
  split
  ·rename_i q; rw [q.1,q.2]
  ·omega
 rw [zf I G,zf z G];have U:Wq n (fun o=>ent (Ks tb i j (ent tb i j + k)) o h)=Wq n (fun o=>ent tb o h) + if h=j then k else 0:=by
  rw [Xh (g:=fun o=>ent tb o h + if o=i then (if h=j then k else 0) else 0) fun o _=>by
   rw [B]
   by_cases q1:o=i <;> by_cases q2:h=j <;> simp [q1,q2],Qbz,Q6n,bJ hi]
 have O:Wq n (fun b=>ent (Ks tb i j (ent tb i j + k)) h b) + ent (Ks tb i j (ent tb i j + k)) h n=Wq n (fun b=>ent tb h b) + ent tb h n + if h=i then k else 0:=by
  rw [<- Jr,<- Jr,Xh (g:=fun b=>ent tb h b + if b=j then (if h=i then k else 0) else 0) fun b _=>by
   rw [B]
   by_cases q1:h=i <;> by_cases q2:b=j <;> simp [q1,q2],Qbz,Q6n,bJ (by omega)]
 rw [U,O,B]
 by_cases q1:h=i <;> by_cases q2:j=i <;> by_cases q3:h=j <;> simp [q1,q2,q3] <;> omega
structure Ca (n:Nat) (tb:List (List Int)):Prop where
 nn:∀ h,h < n->0<=Qt tb h
 bz:∀ h,h < n->X8 tb h=true->Rc n tb h
theorem Ca.comes {n:Nat} {tb:List (List Int)} (c:Ca n tb):Q8i n tb=true:=by
 unfold Q8i Q2v;rw [F6,F7,F7];refine ⟨fun h j=>by simp [c.nn h (E7.mp j)],fun h j=>?_⟩;have j:=E7.mp j;cases q:X8 tb h with
 | false=>simp
 | true=>rw [(Qd5 n tb j).mpr (c.bz h j q)]; rfl
theorem Rc.mono {n:Nat} {t1 t2:List (List Int)} (h:∀ a b,a < n->b < n->ent t1 a b<=ent t2 a b) {g:Nat} (r:Rc n t1 g):Rc n t2 g:=by
 induction r with
 | @made k j q=>
  refine .made j ?_;unfold Q0u at *;have:=h k k j j;simp at q;simp; omega
 | @lent o k r j B z=>
  have:=h o k r.lt j;exact .lent z j (by omega)
theorem xr {n:Nat} {tb:List (List Int)} (w:Wt' n tb) {h:Nat} (B:h < n):X8 tb h=true <-> ∃ j,j<=n/\j≠h/\0 < ent tb h j:=by
 rw [<- Qq6 w B];unfold Qkz;rw [dD];constructor
 ·rintro ⟨j,z,q⟩;simp at q;exact ⟨j,by have:=E7.mp z; omega,q.1,q.2⟩
 ·rintro ⟨j,z,q1,q2⟩;exact ⟨j,E7.mpr (by omega),by simp [q1,q2]⟩
theorem Ca.rc_of {n:Nat} {tb:List (List Int)} (w:Wt' n tb) (c:Ca n tb) {i:Nat} (hi:i < n) (U:1<=Qt tb i):Rc n tb i:=by
 rw [zf w.sz hi] at U;have I:ent tb i i<=Wq n (fun j=>ent tb i j):=Qas (fun j J=>w.ent_nn hi (E8 J)) hi
 have O:=w.ent_nn hi (O7 n);have:∃ o,o < n/\0 < ent tb o i:=by
  refine Classical.byContradiction fun q=>?_
  have:Wq n (fun o=>ent tb o i)=Wq n fun _=>0:=Xh fun o B=>by
   have h1:=w.ent_nn B (E8 hi);have h2:¬ 0 < ent tb o i:=fun z=>q ⟨o,B,z⟩
   omega
  rw [Q4b] at this;omega
 obtain ⟨o,B,G⟩:=this
 by_cases e:o=i
 ·subst e;exact .made hi (by unfold Q0u; simp [G])
 ·exact .lent (c.bz o B ((xr w B).mpr ⟨i,E8 hi,fun z=>e z.symm,G⟩)) hi G
theorem Ca.make {n i:Nat} {tb:List (List Int)} (w:Wt' n tb) (c:Ca n tb) (hi:i < n) {k:Int} (O:0<=k) (G:Wt' n (Ks tb i i (ent tb i i + k))):Ca n (Ks tb i i (ent tb i i + k)):=by
 have B:∀ a b,ent tb a b<=ent (Ks tb i i (ent tb i i + k)) a b:=fun a b=>by
  rw [Q0n w.sz hi (E8 hi)]
  split
  ·rename_i q; rw [q.1,q.2]; omega
  ·omega
 refine ⟨fun h z=>?_,fun h z J=>?_⟩
 ·rw [Q70 w.sz hi (E8 hi) k z];have:=c.nn h z
  by_cases q:h=i <;> simp [q] at * <;> omega
 ·obtain ⟨j,I,q1,q2⟩:=(xr G z).mp J;rw [Q0n w.sz hi (E8 hi)] at q2;rw [bK (fun q=>q1 (by omega))] at q2
  exact (c.bz h z ((xr w z).mpr ⟨j,I,q1,q2⟩)).mono fun a b _ _=>B a b
theorem Ca.give {n i j:Nat} {tb:List (List Int)} (w:Wt' n tb) (c:Ca n tb) (hi:i < n) (J:j<=n) (I:j≠i) {k:Int} (hk:0<=k) (hr:k<=Qt tb i) (U:1<=Qt tb i) (Y:Wt' n (Ks tb i j (ent tb i j + k))):Ca n (Ks tb i j (ent tb i j + k)):=by
 have G:∀ a b,ent tb a b<=ent (Ks tb i j (ent tb i j + k)) a b:=fun a b=>by
  rw [Q0n w.sz hi J]
  split
  ·rename_i q; rw [q.1,q.2]; omega
  ·omega
 refine ⟨fun h B=>?_,fun h B Z=>?_⟩
 ·rw [Q70 w.sz hi J k B];have:=c.nn h B
  by_cases q:h=i
  ·subst q;rw [bK (fun z=>I z.symm),bJ rfl,bK (fun z=>I z.2)];omega
  ·by_cases q2:h=j
   ·rw [bJ q2,bK q,bK (fun z=>q z.1)]; omega
   ·rw [bK q2,bK q,bK (fun z=>q z.1)]; omega
 ·by_cases q:h=i
  ·subst q;exact (c.rc_of w hi U).mono fun a b _ _=>G a b
  ·obtain ⟨b,O,q1,q2⟩:=(xr Y B).mp Z;rw [Q0n w.sz hi J,bK (fun z=>q z.1)] at q2;exact (c.bz h B ((xr w B).mpr ⟨b,O,q1,q2⟩)).mono fun a b _ _=>G a b
theorem Ca.zero {n:Nat} (h1:1<=n) (U:n<=8) (w:Wt' n (bQ n (qt n))):Ca n (bQ n (qt n)):=by
 have B:∀ a b,a < n->b<=n->ent (bQ n (qt n)) a b=0:=fun a b O I=>by
  unfold ent qt;rw [show (bQ n (bQ (n + 1) (0:Int))).getD a []=bQ (n + 1) 0 by rw [bZ,cP,bJ O]; rfl];rw [bZ,cP,bJ (by omega)]; rfl
 refine ⟨fun h z=>?_,fun h z I=>?_⟩
 ·rw [zf w.sz z,Xh (g:=fun _=>0) fun o G=>B o h G (E8 z),Xh (f:=fun j=>ent (bQ n (qt n)) h j) (g:=fun _=>0) fun o G=>B h o z (E8 G),Q4b,B h n z (O7 n),B h h z (E8 z)]
  omega
 ·obtain ⟨j,J,_,q⟩:=(xr w z).mp I;rw [B h j z J] at q;omega
theorem Wt'.set0 {n i j:Nat} {tb:List (List Int)} (w:Wt' n tb) (hi:i < n) {x:Int} (I:0<=x):Wt' n (tb.set i ((tb.getD i []).set j x)):=by
 have J:=(w.sz.row hi).1;have G:=D2 J;generalize tb.getD i []=r at *;refine ⟨by rw [D5]; exact w.len,fun q z=>?_,fun q z y B=>?_,w.n1,w.n8⟩
 ·rcases dj z with z | rfl
  ·exact w.row q z
  ·rw [D5]; exact w.row r G
 ·rcases dj z with z | rfl
  ·exact w.nn q z y B
  ·rcases dj B with B | rfl
   ·exact w.nn r G y B
   ·exact I
theorem Q69 {α:Type} (xs:List α) (i:Nat) (x:α) (h:i < xs.length):xs.take i ++ [x] ++ xs.drop (i + 1)=xs.set i x:=by
 rw [List.set_eq_take_append_cons_drop,bJ h,cH]; rfl
theorem Qgh {n i j:Nat} {tb:List (List Int)} (z:Sz n tb) (hn:n<=100) (hi:i < n) (G:j<=n) (k:Int) (st:Q2):Q1v [Q8 tb,.int i,.int j,.int k] st=.ok (Q8 (Ks tb i j (ent tb i j + k))) st:=by
 have Z:=Q0r z hi G st;have q:=(z.row hi).2;have g1:J0 ((tb.getD i []).set j (ent tb i j + k))=.tup (((tb.getD i []).take j).map .int ++ [.int (ent tb i j + k)] ++ ((tb.getD i []).drop (j + 1)).map .int):=by
  unfold J0;rw [<- Q69 _ _ _ (by omega),F3,F3]; rfl
 have g2:Q8 (Ks tb i j (ent tb i j + k))=.tup ((tb.take i).map J0 ++ [J0 ((tb.getD i []).set j (ent tb i j + k))] ++ (tb.drop (i + 1)).map J0):=by
  unfold Q8 Ks;rw [<- Q69 _ _ _ (by rw [z.1]; exact hi),F3,F3]; rfl
 have U:cut ((tb.getD i []).map PV.int) none (some (j:Int))=((tb.getD i []).take j).map .int:=by rw [y4,Q28]
 have c4:cut ((tb.getD i []).map PV.int) (some ((j:Int) + 1)) none=((tb.getD i []).drop (j + 1)).map .int:=by rw [y4]; exact congrArg _ (Q1q _ (j + 1))
 have c5:cut (tb.map J0) none (some (i:Int))=(tb.take i).map J0:=by rw [y4,Q28]
 have c6:cut (tb.map J0) (some ((i:Int) + 1)) none=(tb.drop (i + 1)).map J0:=by rw [y4]; exact congrArg _ (Q1q _ (i + 1))
 have l3:(((tb.getD i []).take j).map PV.int).length=j:=by rw [O2,cO,q]; omega
 have I:(((tb.getD i []).drop (j + 1)).map PV.int).length=n - j:=by rw [O2,cR,q]; omega
 have l5:((tb.take i).map J0).length=i:=by rw [O2,cO,z.1]; omega
 have Y:((tb.drop (i + 1)).map J0).length=n - (i + 1):=by rw [O2,cR,z.1]
 have J:j + 1<=1000000:=by omega
 have O:j + 1 + (n - j)<=1000000:=by omega
 have b3:i + 1<=1000000:=by omega
 have b4:i + 1 + (n - (i + 1))<=1000000:=by omega
 have B:fin st (Q8 (Ks tb i j (ent tb i j + k))) st=.ok (Q8 (Ks tb i j (ent tb i j + k))) st:=Ue (by simp [Zm,Q8,J0]);obtain ⟨c1,c2⟩:=Z;have q1:oSl st (J0 (tb.getD i [])) none (some (j:Int))=.ok (.tup (((tb.getD i []).take j).map .int)) st:=by unfold J0; rw [zx,U]
 have q2:oSl st (J0 (tb.getD i [])) (some ((j:Int) + 1)) none=.ok (.tup (((tb.getD i []).drop (j + 1)).map .int)) st:=by unfold J0; rw [zx,c4]
 have q3:oSl st (Q8 tb) none (some (i:Int))=.ok (.tup ((tb.take i).map J0)) st:=by unfold Q8; rw [zx,c5]
 have q4:oSl st (Q8 tb) (some ((i:Int) + 1)) none=.ok (.tup ((tb.drop (i + 1)).map J0)) st:=by unfold Q8; rw [zx,c6]
 rw [g2] at B ⊢;rw [g1] at B ⊢;generalize ent tb i j=x at *;generalize ((tb.getD i []).take j).map PV.int=v3 at *;generalize ((tb.getD i []).drop (j + 1)).map PV.int=v4 at *;generalize (tb.take i).map J0=v5 at *;generalize (tb.drop (i + 1)).map J0=v6 at *;generalize J0 (tb.getD i [])=rv at *;generalize Q8 tb=T at *;simp -implicitDefEqProofs at B;simp -implicitDefEqProofs [Q1v,Qs,Q7p,c1,c2,q1,q2,q3,q4,Zk,l3,I,l5,Y,J,O,b3,b4,B]
inductive Dd where
 | mk (h:Nat) (k:Int)
 | ld (h q:Nat) (k:Int)
 | us (h:Nat) (k:Int)
def Dd.h:Dd->Nat
 | .mk h _=>h
 | .ld h _ _=>h
 | .us h _=>h
def Dd.k:Dd->Int
 | .mk _ k=>k
 | .ld _ _ k=>k
 | .us _ k=>k
def Dd.pl (n:Nat):Dd->Nat
 | .mk h _=>h
 | .ld _ q _=>q
 | .us _ _=>n
def Dd.isM:Dd->Bool
 | .mk _ _=>true
 | _=>false
def Dd.V:Dd->PV
 | .mk h k=>.tup [.str "make",.int h,.int k]
 | .ld h q k=>.tup [.str "lend",.int h,.int q,.int k]
 | .us h k=>.tup [.str "use",.int h,.int k]
def Dd.ok (n:Nat):Dd->Prop
 | .mk h k=>h < n/\1<=k
 | .ld h q k=>h < n/\q < n/\q≠h/\1<=k
 | .us h k=>h < n/\1<=k
theorem Dd.ok_h {n:Nat} {d:Dd} (o:d.ok n):d.h < n:=by cases d <;> exact o.1
theorem Dd.ok_k {n:Nat} {d:Dd} (o:d.ok n):1<=d.k:=by
 cases d with
 | mk h k=>exact o.2
 | ld h q k=>exact o.2.2.2
 | us h k=>exact o.2
theorem Dd.ok_pl {n:Nat} {d:Dd} (o:d.ok n):d.pl n<=n:=by
 cases d with
 | mk h k=>exact E8 o.1
 | ld h q k=>exact E8 o.2.1
 | us h k=>exact O7 n
theorem U5 (x:Str) (ns:List Int) (J:ns.length<=100) (st:Q2):Qj [.tup (.str x :: ns.map .int)] st=.ok (.bl true) st:=by
 have G:cut (PV.str x :: ns.map .int) (some 1) none=ns.map .int:=Q1q _ 1;have q:Z3 (Qp 0) Zr Ve [] (Zp [none] [some (.tup (.str x :: ns.map .int))]) (ns.map .int) st=.ok (ns.map fun _=>.bl true) st:=by
  refine W7 _ _ (by simp) fun i _=>⟨_,rfl,?_⟩
  simp [Zp,Ve,Q0k]
 have e:(ns.map fun _=>PV.bl true)=(ns.map fun _=>true).map PV.bl:=by rw [bt]; rfl
 have B:(ns.map fun _=>true).all id=true:=by simp
 have a0:atI (PV.str x :: ns.map .int) 0=some (.str x):=Sm.atI_get (show (PV.str x :: ns.map .int)[0]?=some (.str x) from rfl);have j:(ns.map PV.int).length<=1000000:=by rw [O2]; omega
 rw [e] at q;have I:isI "tuple" (.tup (.str x :: ns.map .int))=true:=rfl;have z:isI "str" (.str x)=true:=rfl;have hz:¬ (((ns.map PV.int).length:Int) + 1=0):=by omega
 generalize (ns.map fun _=>true)=bs at *;generalize ns.map PV.int=O at *;simp -implicitDefEqProofs [Qj,Qs,U4,I,z,a0,G,q,B,Zk,j,hz,-F6]
theorem Qr9:¬ (bO "make" = bO "lend"):=by decide
theorem Qdz:¬ (bO "lend" = bO "make"):=by decide
theorem Qdx:¬ (bO "use" = bO "make"):=by decide
theorem Qdy:¬ (bO "use" = bO "lend"):=by decide
theorem Q83 {n:Nat} {d:Dd} (o:d.ok n) (st:Q2):W5 [d.V] st=.ok (.bl true) st:=by
 have j:=Dd.ok_k o;cases d with
 | mk h k=>
  have t:=U5 "make" [h,k] (by simp) st;have a0:atI [PV.str "make",.int h,.int k] 0=some (.str "make"):=rfl;have a1:atI [PV.str "make",.int h,.int k] (-1)=some (.int k):=rfl;have j:(1:Int)<=k:=j;have t:Qj [.tup [.str "make",.int h,.int k]] st=.ok (.bl true) st:=t;unfold Dd.V;simp -implicitDefEqProofs [W5,Qs,Ux,t,a0,a1,j]
 | ld h q k=>
  have t:=U5 "lend" [h,q,k] (by simp) st;have a0:atI [PV.str "lend",.int h,.int q,.int k] 0=some (.str "lend"):=rfl;have a1:atI [PV.str "lend",.int h,.int q,.int k] (-1)=some (.int k):=rfl;have j:(1:Int)<=k:=j;have t:Qj [.tup [.str "lend",.int h,.int q,.int k]] st=.ok (.bl true) st:=t;unfold Dd.V;simp -implicitDefEqProofs [W5,Qs,Ux,t,a0,a1,j,Qdz]
 | us h k=>
  have t:=U5 "use" [h,k] (by simp) st;have a0:atI [PV.str "use",.int h,.int k] 0=some (.str "use"):=rfl;have a1:atI [PV.str "use",.int h,.int k] (-1)=some (.int k):=rfl;have j:(1:Int)<=k:=j;have t:Qj [.tup [.str "use",.int h,.int k]] st=.ok (.bl true) st:=t;unfold Dd.V;simp -implicitDefEqProofs [W5,Qs,Ux,t,a0,a1,j,Qdx,Qdy]
theorem Qct {n:Nat} {tb:List (List Int)} (O:tb.length=n) {d:Dd} (o:d.ok n) (st:Q2):Ja [Q8 tb,d.V] st=.ok .non st:=by
 have B:Q2j (fun ns=>.bl (ns.all id)) st [.lst [.bl true]]=.ok (.bl true) st:=Q8m _ st [true]
 have I:Q2j (fun ns=>.bl (ns.all id)) st [.lst [.bl true,.bl true]]=.ok (.bl true) st:=Q8m _ st [true,true]
 have z:∀ i:Nat,i < n->Yj [Q8 tb,.int i] st=.ok (.bl true) st:=fun i hi=>by
  have:=Q1j (V:=Q8 tb) (n:=n) (st:=st) (by simp [Q8,O]) (i:Int);rw [show (decide ((0:Int)<=(i:Int)) && decide ((i:Int) < (n:Int)))=true by simp; omega] at this;exact this
 cases d with
 | mk h k=>
  have e:=z h o.1;have s1:cut [PV.str "make",.int h,.int k] (some 1) (some (-1))=[.int h]:=rfl;have a0:atI [PV.str "make",.int h,.int k] 0=some (.str "make"):=rfl;unfold Dd.V;generalize Q8 tb=T at *;simp -implicitDefEqProofs [Ja,Qs,Yq,s1,a0,Z3,Qp,Zr,Zp,W3,B,I,e,Zk,Qr9]
 | ld h q k=>
  have e:=z h o.1;have e2:=z q o.2.1;have s1:cut [PV.str "lend",.int h,.int q,.int k] (some 1) (some (-1))=[.int h,.int q]:=rfl;have a0:atI [PV.str "lend",.int h,.int q,.int k] 0=some (.str "lend"):=rfl;have a1:atI [PV.int (h:Int),.int q] 0=some (.int h):=rfl;have J:atI [PV.int (h:Int),.int q] 1=some (.int q):=rfl;have G:((h:Int) == (q:Int))=false:=by rw [beq_eq_false_iff_ne]; have:=o.2.2.1; omega
  have j:¬ ((h:Int)=(q:Int)):=by have:=o.2.2.1; omega
  unfold Dd.V;generalize Q8 tb=T at *;simp -implicitDefEqProofs [Ja,Qs,Yq,s1,a0,a1,J,Z3,Qp,Zr,Zp,W3,B,I,e,e2,Zk,G,j]
 | us h k=>
  have e:=z h o.1;have s1:cut [PV.str "use",.int h,.int k] (some 1) (some (-1))=[.int h]:=rfl;have a0:atI [PV.str "use",.int h,.int k] 0=some (.str "use"):=rfl;unfold Dd.V;generalize Q8 tb=T at *;simp -implicitDefEqProofs [Ja,Qs,Yq,s1,a0,Z3,Qp,Zr,Zp,W3,B,I,e,Zk,Qdy]
theorem Qj5 {n:Nat} {tb:List (List Int)} (z:tb.length=n) {d:Dd} (o:d.ok n) (st:Q2):Wg [Q8 tb,d.V] st=.ok (.int (d.pl n)) st:=by
 cases d with
 | mk h k=>
  have a0:atI [PV.str "make",.int h,.int k] 0=some (.str "make"):=rfl;have a1:atI [PV.str "make",.int h,.int k] 1=some (.int h):=rfl;unfold Dd.V Dd.pl;generalize Q8 tb=T at *;simp -implicitDefEqProofs [Wg,Qs,Ud,a0,a1]
 | ld h q k=>
  have a0:atI [PV.str "lend",.int h,.int q,.int k] 0=some (.str "lend"):=rfl;have a1:atI [PV.str "lend",.int h,.int q,.int k] 2=some (.int q):=rfl;unfold Dd.V Dd.pl;generalize Q8 tb=T at *;simp -implicitDefEqProofs [Wg,Qs,Ud,a0,a1,Qdz]
 | us h k=>
  have a0:atI [PV.str "use",.int h,.int k] 0=some (.str "use"):=rfl;have j:(tb.map J0).length=n:=by rw [O2]; exact z
  unfold Dd.V Dd.pl Q8;generalize tb.map J0=T at *;simp -implicitDefEqProofs [Wg,Qs,Ud,a0,j,Qdx,Qdy]
def Dd.fits (tb:List (List Int)) (d:Dd):Bool:=d.isM || decide (d.k<=Qt tb d.h)
def Dd.put (n:Nat) (tb:List (List Int)) (d:Dd):List (List Int):=Ks tb d.h (d.pl n) (ent tb d.h (d.pl n) + d.k)
theorem Dd.a0 (d:Dd) (st:Q2):∃ w:Str,oIx st d.V (.int 0)=.ok (.str w) st/\(w = "make" <-> d.isM=true):=by
 cases d with
 | mk h k=>exact ⟨"make",rfl,by simp [Dd.isM]⟩
 | ld h q k=>exact ⟨"lend",rfl,by simp [Dd.isM,Qdz]⟩
 | us h k=>exact ⟨"use",rfl,by simp [Dd.isM,Qdx]⟩
theorem Dd.a1 (d:Dd) (st:Q2):oIx st d.V (.int 1)=.ok (.int d.h) st:=by cases d <;> rfl
theorem Dd.al (d:Dd) (st:Q2):oIx st d.V (.int (-1))=.ok (.int d.k) st:=by cases d <;> rfl
theorem Qbj {n:Nat} {tb:List (List Int)} (w:Wt' n tb) {d:Dd} (o:d.ok n) (st:Q2):zu [Q8 tb,d.V] st=if d.fits tb=true then .ok (Q8 (d.put n tb)) st else .exc ⟨"Short",some ("had",.int (Qt tb d.h))⟩ st:=by
 have h8:=w.n8;have e1:=Q83 o st;have e2:=Qct w.len o st;have e3:=Q9z w.sz (by omega) (Dd.ok_h o) st;have e4:=Qj5 w.len o st;have e5:=Qgh w.sz (by omega) (Dd.ok_h o) (Dd.ok_pl o) d.k st;obtain ⟨x,G,B⟩:=d.a0 st;have U:=d.a1 st;have J:=d.al st;have Z:st <+: st:=cU _;have hf:fin st (Q8 (d.put n tb)) st=.ok (Q8 (d.put n tb)) st:=Ue (by simp [Zm,Q8,J0]);have O:Qkc st ⟨"Short",some ("had",.int (Qt tb d.h))⟩ st=.exc ⟨"Short",some ("had",.int (Qt tb d.h))⟩ st:=by simp [Qkc,fz]
 unfold Dd.put Dd.fits at *;generalize Q8 (Ks tb d.h (d.pl n) (ent tb d.h (d.pl n) + d.k))=V2 at *;generalize Qt tb d.h=r at *;generalize Q8 tb=T at *;generalize d.V=DV at *;generalize (d.pl n:Int)=pl at *;generalize d.k=k at *;cases I:d.isM with
 | true=>
  have B:x = "make" := B.mpr I;subst B;simp -implicitDefEqProofs [zu,Qs,Q7t,e1,e2,e4,e5,G,U,J,hf]
 | false=>
  have q:¬ x = "make" := fun z=>by rw [B.mp z] at I; cases I
  by_cases Y:k<=r
  ·have j:¬ r < k:=by omega
   simp -implicitDefEqProofs [zu,Qs,Q7t,e1,e2,e3,e4,e5,G,U,J,hf,q,Y,j]
  ·have j:r < k:=by omega
   simp -implicitDefEqProofs [zu,Qs,Q7t,e1,e2,e3,G,U,J,O,q,Y,j]
theorem Qm {a b:MS} {Γ Γ1:Gam} {S S1:Q2} {r:SR} (h1:a Γ S=.nx Γ1 S1) (h2:b Γ1 S1=r):Qr a b Γ S=r:=by rw [Qcy,h1]; exact h2
theorem Je {i:Nat} {m:ME} {Γ:Gam} {S S1:Q2} {v:PV} (h:m Γ S=.ok v S1):Jh i m Γ S=.nx (Γ.set i (some v)) S1:=by rw [Qp8,h]; rfl
theorem Qx {n:Nat} {F:FN} {mr:ML} {Γ:Gam} {S S1 j:Q2} {ps:List PV} {v:PV} (h1:mr Γ S=.ok ps S1) (h2:ps.length=n) (q:F ps S1=.ok v j):Qf n F mr Γ S=.ok v j:=by rw [Qa7,h1,J6,bJ h2,q]
theorem Qe {o:OP} {a b:ME} {Γ:Gam} {S S1 q j:Q2} {x y v:PV} (h1:a Γ S=.ok x S1) (h2:b Γ S1=.ok y q) (z:o q x y=.ok v j):mOp o a b Γ S=.ok v j:=by rw [Qsk,h1,J6,h2,J6,z]
theorem Q5 {m:ME} {mr:ML} {Γ:Gam} {S S1 j:Q2} {p:PV} {ps:List PV} (h1:m Γ S=.ok p S1) (h2:mr Γ S1=.ok ps j):Q3 m mr Γ S=.ok (p :: ps) j:=by rw [Qjy,h1,J6,h2,J6]
theorem Xv {o:CF} {mr:ML} {Γ:Gam} {S S1 j:Q2} {ps:List PV} {v:PV} (h1:mr Γ S=.ok ps S1) (h2:o S1 ps=.ok v j):J7 o mr Γ S=.ok v j:=by rw [Qjz,h1,J6,h2]
theorem Q58 {ga:GA} {mi:MI} {b:MS} {Γ:Gam} {S S1:Q2} {xs:List PV} {w:Wt} {r:SR} (h1:mi Γ S=.ok (xs,w) S1) (h2:xj ga b w xs Γ S1=r):Q7u ga mi b Γ S=r:=by rw [Qpb,h1]; exact h2
theorem xg {c:MT} {a b:MS} {Γ:Gam} {S S1:Q2} {r:SR} (h1:c Γ S=.ok true S1) (h2:a Γ S1=r):Ym c a b Γ S=r:=by rw [Qfn,h1]; exact h2
theorem Vd {c:MT} {a b:MS} {Γ:Gam} {S S1:Q2} {r:SR} (h1:c Γ S=.ok false S1) (h2:b Γ S1=r):Ym c a b Γ S=r:=by rw [Qfn,h1]; exact h2
theorem Qta {ga:GA} {m:ME} {Γ Γ1:Gam} {S S1:Q2} {p:PV} (h1:m Γ S=.ok p S1) (h2:ga p Γ=some Γ1):Qk0 ga m Γ S=.nx Γ1 S1:=by rw [Qpd,h1]; show (match ga p Γ with | some Γ1=>SR.nx Γ1 S1 | none=>.stuck)=_; rw [h2]
theorem Qf4 {m:ME} {Γ:Gam} {S S1:Q2} {p:PV} {xs:List PV} {w:Wt} (h1:m Γ S=.ok p S1) (h2:Xz S1 p=some (xs,w)) (j:xs.length<=1000000):yy m Γ S=.ok (xs,w) S1:=by rw [Qp9,h1,J6,h2]; exact bJ j
theorem Q4a {m:ML} {Γ:Gam} {S S1:Q2} {ps:List PV} (h:m Γ S=.ok ps S1):qd m Γ S=.ok (.lst ps) S1:=by rw [Qp5,h,J6]
theorem jx {cap:List (Option Nat)} {ga:GA} {mi:MI} {mt:MT} {me:ME} {Γ:Gam} {S S1 j:Q2} {xs ys:List PV} {w:Wt} (h1:mi Γ S=.ok (xs,w) S1) (h2:Z3 ga mt me w (Zp cap Γ) xs S1=.ok ys j):Yh cap ga mi mt me Γ S=.ok ys j:=by rw [Qh5,h1,J6,h2]; rfl
theorem xx {m:ML} {Γ:Gam} {S S1:Q2} {ps:List PV} (h:m Γ S=.ok ps S1):Q0y m Γ S=.ok (.ref S1.length) (S1 ++ [.lst ps]):=by rw [Qp7,h,J6]
theorem Q4w {t:MT} {Γ:Gam} {S S1:Q2} {b:Bool} (h:t Γ S=.ok b S1):U9 t Γ S=.ok (!b) S1:=by rw [Qii,h,J6]
theorem J5 {m:ME} {Γ:Gam} {S S1:Q2} {b:Bool} (h:m Γ S=.ok (.bl b) S1):toB m Γ S=.ok b S1:=by rw [Qr3,h]; rfl
theorem Q6x {mo mi m:ME} {Γ:Gam} {S S1 z q j:Q2} {p o i:PV} (h1:m Γ S=.ok p S1) (h2:mo Γ S1=.ok o z) (B:mi Γ z=.ok i q) (G:Q14 q o i p=some j):Q0h mo mi m Γ S=.nx Γ j:=by
 rw [Qh3,h1,Uc,h2,Uc,B,Uc,G]
theorem Q5e {f:MF} {mo:ME} {mr:ML} {Γ:Gam} {S S1 q j:Q2} {p v:PV} {xs ps:List PV} (h1:mo Γ S=.ok p S1) (h2:yh S1 p=some xs) (z:mr Γ S1=.ok ps q) (B:f q p ps=.ok v j):Wc (mBM f mo mr) Γ S=.nx Γ j:=by
 rw [Q7v,Qsp,h1,J6];simp only [h2];rw [z,J6,B,Uc]
theorem Q0m {m:ME} {Γ:Gam} {S S1:Q2} {v:PV} (h:m Γ S=.ok v S1):Wc m Γ S=.nx Γ S1:=by rw [Q7v,h]; rfl
theorem Quz {a b:MT} {Γ:Gam} {S S1:Q2} (h:a Γ S=.ok true S1):Q11 a b Γ S=.ok true S1:=by rw [Qf2,h]; rfl
theorem Qb4 {a b:MT} {Γ:Gam} {S S1:Q2} {r:Res Bool} (h:a Γ S=.ok false S1) (h2:b Γ S1=r):Q11 a b Γ S=r:=by rw [Qf2,h]; exact h2
theorem ze {a b:MS} {Γ:Gam} {S S1:Q2} {v:PV} (h:a Γ S=.rt v S1):Qr a b Γ S=.rt v S1:=by rw [Qcy,h]
theorem j8 {mr:ML} {Γ:Gam} {S S1:Q2} {ps:List PV} (h1:mr Γ S=.ok ps S1) (h2:ps.length<=1000000):Kt mr Γ S=.ok (.tup ps) S1:=by rw [Qp6,h1,J6]; exact bJ h2
theorem Qks {n:Nat} {F:FN} {mr:ML} {Γ:Gam} {S S1 j:Q2} {ps:List PV} {x:Exc} (h1:mr Γ S=.ok ps S1) (h2:ps.length=n) (q:F ps S1=.exc x j):Qf n F mr Γ S=.exc x j:=by rw [Qa7,h1,J6,bJ h2,q]
theorem Q4v {C:aA} {S:Q2} {i:Nat} {fs:List (Str × PV)} (h:S[i]?=some (.obj C fs)):Q2n C S (.ref i)=some (i,fs):=by
 unfold Q2n;simp only [h,if_true]
theorem je {C:aA} {f:Str} {mo:ME} {Γ:Gam} {S:Q2} {i:Nat} {fs:List (Str × PV)} {q:PV} (h1:mo Γ S=.ok (.ref i) S) (h2:S[i]?=some (.obj C fs)) (j:fs.lookup f=some q):Uy C f mo Γ S=.ok q S:=by
 rw [Qpc,h1,J6,Q4v h2];simp only [j]
theorem jk {C:aA} {f:Str} {mo m:ME} {Γ:Gam} {S S1:Q2} {i:Nat} {fs:List (Str × PV)} {p:PV} (h1:m Γ S=.ok p S1) (h2:mo Γ S1=.ok (.ref i) S1) (j:S1[i]?=some (.obj C fs)) (q:fs.length < 1000):x8 C f mo m Γ S=.nx Γ (S1.set i (.obj C (yw f p fs))):=by
 rw [Qcz,h1,Uc,h2,Uc,Q4v j];exact bJ q
theorem Qe0 {C:aA} {f:Str} {mo m:ME} {Γ:Gam} {S S1:Q2} {x:Exc} (h1:m Γ S=.exc x S1):x8 C f mo m Γ S=.exc x S1:=by
 rw [Qcz,h1]; rfl
theorem zy {C:aA} {x:Str} {n:Nat} {F:FN} {mo:ME} {mr:ML} {Γ:Gam} {S S1:Q2} {i:Nat} {fs:List (Str × PV)} {ps:List PV} (h1:mo Γ S=.ok (.ref i) S) (h2:S[i]?=some (.obj C fs)) (j:fs.lookup x=none) (z:mr Γ S=.ok ps S1) (q:ps.length + 1=n):xb C x n F mo mr Γ S=F (.ref i :: ps) S1:=by
 rw [Qjw,h1,J6,Q4v h2];simp only [j,if_true];rw [z,J6,bJ q]
def hsF (h:Nat) (now last:List (List Int)):List (Str × PV):=[("number",.int h),("now",Q8 now),("kept",Q8 last)]
theorem s1:((bO "now") == (bO "number"))=false:=by decide +kernel
theorem s2:((bO "kept") == (bO "number"))=false:=by decide +kernel
theorem s3:((bO "kept") == (bO "now"))=false:=by decide +kernel
theorem s1':¬ (bO "number" = bO "now"):=by decide +kernel
theorem s2':¬ (bO "number" = bO "kept"):=by decide +kernel
theorem s3':¬ (bO "now" = bO "kept"):=by decide +kernel
theorem Q24 (h:Nat) (a b:List (List Int)):(hsF h a b).lookup (bO "number")=some (.int h):=by unfold hsF; rw [D9,beq_self_eq_true]
theorem Q56 (h:Nat) (a b:List (List Int)):(hsF h a b).lookup (bO "now")=some (Q8 a):=by unfold hsF; rw [D9,s1,D9,beq_self_eq_true]
theorem Qft (h:Nat) (a b:List (List Int)):(hsF h a b).lookup (bO "kept")=some (Q8 b):=by unfold hsF; rw [D9,s2,D9,s3,D9,beq_self_eq_true]
theorem Q3i (h:Nat) (a b c:List (List Int)):yw "now" (Q8 c) (hsF h a b)=hsF h c b:=by
 unfold hsF;rw [yw,bK s1',yw,bJ rfl]
theorem Qiy (h:Nat) (a b c:List (List Int)):yw "kept" (Q8 c) (hsF h a b)=hsF h a c:=by
 unfold hsF;rw [yw,bK s2',yw,bK s3',yw,bJ rfl]
theorem Q57 (h:Nat) (a b:List (List Int)):(hsF h a b).length < 1000:=by unfold hsF; simp
theorem y3 {x:Str} (h1:(x == (bO "number"))=false) (h2:(x == (bO "now"))=false) (j:(x == (bO "kept"))=false) (h:Nat) (a b:List (List Int)):(hsF h a b).lookup x=none:=by
 unfold hsF;rw [D9,h1,D9,h2,D9,j]; rfl
section
variable {C:aA} {S:Q2} {i h n:Nat} {now last:List (List Int)}
def Q5t (C:aA) (S:Q2) (i n:Nat) (now last:List (List Int)) (d:Dd):Res PV:=if d.fits now=true then .ok .non (S.set i (.obj C (hsF d.h (d.put n now) last))) else .exc ⟨"Short",some ("had",.int (Qt now d.h))⟩ S
theorem Qp2 (j:S[i]?=some (.obj C (hsF h now last))) (w:Wt' n now) {k:Int} (o:(Dd.mk h k).ok n):Km C [.ref i,.int k] S=Q5t C S i n now last (.mk h k):=by
 have e:=Qbj w o S;have B:(Uy C "now" (Q4 0)) [some (.ref i),some (.int k)] S=.ok (Q8 now) S:=je rfl j (Q56 _ _ _);have G:(Uy C "number" (Q4 0)) [some (.ref i),some (.int k)] S=.ok (.int h) S:=je rfl j (Q24 _ _ _);have z:(Q3 (Uy C "now" (Q4 0)) (Q3 (Kt (Q3 (mC (.str "make")) (Q3 (Uy C "number" (Q4 0)) (Q3 (Q4 1) Q9)))) Q9)) [some (.ref i),some (.int k)] S=.ok [Q8 now,(Dd.mk h k).V] S:=Q5 B (Q5 (j8 (Q5 rfl (Q5 G rfl)) (by simp)) rfl);unfold Q5t;show Yr (jq C) 2 _ S=_;unfold Yr;rw [show (([.ref i,.int k]:List PV).map some ++ bQ (2 - [PV.ref i,.int k].length) none)=[some (.ref i),some (.int k)] from rfl];unfold jq
 by_cases q:(Dd.mk h k).fits now=true
 ·rw [bJ q] at e ⊢;rw [jk (Qx (n:=2) z rfl e) rfl j (Q57 _ _ _),Q3i]; rfl
 ·rw [bK q] at e ⊢;rw [Qe0 (Qks (n:=2) z rfl e)]
theorem Qpg (j:S[i]?=some (.obj C (hsF h now last))) (w:Wt' n now) {t:Nat} {k:Int} (o:(Dd.ld h t k).ok n):Kn C [.ref i,.int t,.int k] S=Q5t C S i n now last (.ld h t k):=by
 have e:=Qbj w o S;have B:(Uy C "now" (Q4 0)) [some (.ref i),some (.int t),some (.int k)] S=.ok (Q8 now) S:=je rfl j (Q56 _ _ _);have G:(Uy C "number" (Q4 0)) [some (.ref i),some (.int t),some (.int k)] S=.ok (.int h) S:=je rfl j (Q24 _ _ _);have z:(Q3 (Uy C "now" (Q4 0)) (Q3 (Kt (Q3 (mC (.str "lend")) (Q3 (Uy C "number" (Q4 0)) (Q3 (Q4 1) (Q3 (Q4 2) Q9))))) Q9)) [some (.ref i),some (.int t),some (.int k)] S=.ok [Q8 now,(Dd.ld h t k).V] S:=Q5 B (Q5 (j8 (Q5 rfl (Q5 G rfl)) (by simp)) rfl);unfold Q5t;show Yr (jr C) 3 _ S=_;unfold Yr;rw [show (([.ref i,.int t,.int k]:List PV).map some ++ bQ (3 - [PV.ref i,.int t,.int k].length) none)=[some (.ref i),some (.int t),some (.int k)] from rfl];unfold jr
 by_cases q:(Dd.ld h t k).fits now=true
 ·rw [bJ q] at e ⊢;rw [jk (Qx (n:=2) z rfl e) rfl j (Q57 _ _ _),Q3i]; rfl
 ·rw [bK q] at e ⊢;rw [Qe0 (Qks (n:=2) z rfl e)]
theorem Qqz (j:S[i]?=some (.obj C (hsF h now last))) (w:Wt' n now) {k:Int} (o:(Dd.us h k).ok n):j4 C [.ref i,.int k] S=Q5t C S i n now last (.us h k):=by
 have e:=Qbj w o S;have B:(Uy C "now" (Q4 0)) [some (.ref i),some (.int k)] S=.ok (Q8 now) S:=je rfl j (Q56 _ _ _);have G:(Uy C "number" (Q4 0)) [some (.ref i),some (.int k)] S=.ok (.int h) S:=je rfl j (Q24 _ _ _);have z:(Q3 (Uy C "now" (Q4 0)) (Q3 (Kt (Q3 (mC (.str "use")) (Q3 (Uy C "number" (Q4 0)) (Q3 (Q4 1) Q9)))) Q9)) [some (.ref i),some (.int k)] S=.ok [Q8 now,(Dd.us h k).V] S:=Q5 B (Q5 (j8 (Q5 rfl (Q5 G rfl)) (by simp)) rfl);unfold Q5t;show Yr (zz C) 2 _ S=_;unfold Yr;rw [show (([.ref i,.int k]:List PV).map some ++ bQ (2 - [PV.ref i,.int k].length) none)=[some (.ref i),some (.int k)] from rfl];unfold zz
 by_cases q:(Dd.us h k).fits now=true
 ·rw [bJ q] at e ⊢;rw [jk (Qx (n:=2) z rfl e) rfl j (Q57 _ _ _),Q3i]; rfl
 ·rw [bK q] at e ⊢;rw [Qe0 (Qks (n:=2) z rfl e)]
theorem Qpm (j:S[i]?=some (.obj C (hsF h now last))):Kp C [.ref i] S=.ok .non (S.set i (.obj C (hsF h now now))):=by
 show Yr (js C) 1 _ S=_;unfold Yr js;rw [show (([.ref i]:List PV).map some ++ bQ (1 - [PV.ref i].length) none)=[some (.ref i)] from rfl,jk (je rfl j (Q56 _ _ _)) rfl j (Q57 _ _ _),Qiy]
theorem Qpv (j:S[i]?=some (.obj C (hsF h now last))):Kq C [.ref i] S=.ok .non (S.set i (.obj C (hsF h last last))):=by
 show Yr (jt C) 1 _ S=_;unfold Yr jt;rw [show (([.ref i]:List PV).map some ++ bQ (1 - [PV.ref i].length) none)=[some (.ref i)] from rfl,jk (je rfl j (Qft _ _ _)) rfl j (Q57 _ _ _),Q3i]
theorem Qbg (S:Q2) (a:List (List Int)):fin S (Q8 a) S=.ok (Q8 a) S:=Ue (by simp [Zm,Q8,J0])
theorem Qh7 (j:S[i]?=some (.obj C (hsF h now last))):Vf C [.ref i] S=.ok (Q8 last) S:=by
 show Qs (K5 C) 1 _ S=_;unfold Qs K5;rw [show (([.ref i]:List PV).map some ++ bQ (1 - [PV.ref i].length) none)=[some (.ref i)] from rfl,Q3v,je rfl j (Qft _ _ _)];exact Qbg S last
theorem Qih (j:S[i]?=some (.obj C (hsF h now last))):Xe C [.ref i] S=.ok (Q8 now) S:=by
 show Qs (qp C) 1 _ S=_;unfold Qs qp;rw [show (([.ref i]:List PV).map some ++ bQ (1 - [PV.ref i].length) none)=[some (.ref i)] from rfl,Q3v,je rfl j (Q56 _ _ _)];exact Qbg S now
end
theorem Qq1 {C:aA} {S:Q2} {i h n:Nat} {now last L:List (List Int)} (G:S[i]?=some (.obj C (hsF h now last))) (w:Wt' n now) (q:Wt' n L) (O:h < n) (B:Qca (L.getD h []) (now.getD h [])=true):Kr C [.ref i,Q8 L] S=.ok .non (S.set i (.obj C (hsF h (Vc now L) last))):=by
 have h8:=w.n8;have j:lim=1000000:=rfl;have z:(Uy C "now" (Q4 0)) [some (.ref i),some (Q8 L)] S=.ok (Q8 now) S:=je rfl G (Q56 _ _ _);have I:(Uy C "number" (Q4 0)) [some (.ref i),some (Q8 L)] S=.ok (.int h) S:=je rfl G (Q24 _ _ _);have e1:=Qfi (a:=now) (b:=L) (by rw [w.len,q.len]) S;have J:L[h]?=some (L.getD h []):=getD_some (by rw [q.len]; exact O) [];have Y:now[h]?=some (now.getD h []):=getD_some (by rw [w.len]; exact O) [];have Z:oIx S (Q8 L) (.int h)=.ok (J0 (L.getD h [])) S:=by
  have:oIx S (Q8 L) (.int h)=okO S (atI (L.map J0) (h:Int)):=rfl;rw [this,qr,Sm.atI_get J]; rfl
 have U:oIx S (Q8 now) (.int h)=.ok (J0 (now.getD h [])) S:=by
  have:oIx S (Q8 now) (.int h)=okO S (atI (now.map J0) (h:Int)):=rfl;rw [this,qr,Sm.atI_get Y]; rfl
 have rl:∀ r∈now,r.length<=lim:=fun r B=>by rw [w.sz.2 r B,j]; omega
 have e2:=Q95 (L.getD h []) (now.getD h []) S (by rw [q.sz.2 _ (D2 J),j]; omega);rw [B] at e2;have e3:=Qha (a:=now) (b:=L) (by rw [w.len,q.len]) (by rw [w.len,j]; omega) rl S;have step:ju C [some (.ref i),some (Q8 L)] S=.nx [some (.ref i),some (Q8 L)] (S.set i (.obj C (yw "now" (Q8 (Vc now L)) (hsF h now last)))):=
  Qm (Q0m (Qx (n:=2) (Q5 z rfl) rfl e1)) (Qm (Vd (Q4w (J5 (Qx (n:=2) (Q5 (Qe rfl I Z) (Q5 (Qe z I U) rfl)) rfl e2))) rfl) (jk (Qx (n:=2) (Q5 z rfl) rfl e3) rfl G (Q57 _ _ _)))
 rw [Q3i] at step;show Yr (ju C) 2 _ S=_;unfold Yr;rw [show (([.ref i,Q8 L]:List PV).map some ++ bQ (2 - [PV.ref i,Q8 L].length) none)=[some (.ref i),some (Q8 L)] from rfl,step]
abbrev Tab:=List (List Int)
inductive Dx where
 | own (d:Dd)
 | kp (i:Nat)
 | fl (i:Nat)
 | sd (i:Nat)
 | cm (l i:Nat)
def Dx.V:Dx->PV
 | .own d=>d.V
 | .kp i=>.tup [.str "keep",.int i]
 | .fl i=>.tup [.str "fall",.int i]
 | .sd i=>.tup [.str "send",.int i]
 | .cm l i=>.tup [.str "come",.int l,.int i]
structure RS where
 now:List Tab
 last:List Tab
 le:List Tab
def Dx.ok (n:Nat) (s:RS):Dx->Prop
 | .own d=>d.ok n
 | .kp i=>i < n
 | .fl i=>i < n
 | .sd i=>i < n
 | .cm l i=>l < s.le.length/\i < n
def Yn (n:Nat) (s:RS):Dx->RS
 | .own d=>if d.fits (s.now.getD d.h [])=true then ⟨s.now.set d.h (d.put n (s.now.getD d.h [])),s.last,s.le⟩ else s
 | .kp i=>⟨s.now,s.last.set i (s.now.getD i []),s.le⟩
 | .fl i=>⟨s.now.set i (s.last.getD i []),s.last,s.le⟩
 | .sd i=>⟨s.now,s.last,s.le ++ [s.last.getD i []]⟩
 | .cm l i=>⟨s.now.set i (Vc (s.now.getD i []) (s.le.getD l [])),s.last,s.le⟩
def Q66 (s:RS):Dx->PV
 | .own d=>if d.fits (s.now.getD d.h [])=true then .str "done" else .int (Qt (s.now.getD d.h []) d.h)
 | _=>.str "done"
structure RI (n:Nat) (s:RS):Prop where
 ln:s.now.length=n
 ll:s.last.length=n
 wn:∀ i,i < n->Wt' n (s.now.getD i [])
 wl:∀ i,i < n->Wt' n (s.last.getD i [])
 we:∀ L∈s.le,Wt' n L
 up:∀ i j,i < n->j<=n->ent (s.last.getD i []) i j<=ent (s.now.getD i []) i j
 bn:∀ a i j,a < n->i < n->a≠i->j<=n->ent (s.now.getD a []) i j<=ent (s.last.getD i []) i j
 bl:∀ a i j,a < n->i < n->j<=n->ent (s.last.getD a []) i j<=ent (s.last.getD i []) i j
 be:∀ L∈s.le,∀ i j,i < n->j<=n->ent L i j<=ent (s.last.getD i []) i j
theorem Zq {α:Type} {xs:List α} {i:Nat} (hi:i < xs.length) (v d:α) (j:Nat):(xs.set i v).getD j d=if j=i then v else xs.getD j d:=by
 rw [F8,dZ,F8]
 by_cases q:i=j
 ·subst q; rw [bJ rfl,bJ hi,bJ rfl]; rfl
 ·rw [bK q,bK (fun z=>q z.symm)]
theorem Qix {n:Nat} {tb:Tab} (w:Wt' n tb) {d:Dd} (o:d.ok n):Wt' n (d.put n tb):=by
 unfold Dd.put Ks;refine Wt'.set0 w (Dd.ok_h o) ?_;have h1:=w.ent_nn (Dd.ok_h o) (Dd.ok_pl o);have h2:=Dd.ok_k o;omega
theorem Qf8 {n:Nat} {tb:Tab} (w:Wt' n tb) {d:Dd} (o:d.ok n) (a b:Nat):ent tb a b<=ent (d.put n tb) a b/\(a≠d.h->ent (d.put n tb) a b=ent tb a b):=by
 unfold Dd.put;rw [Q0n w.sz (Dd.ok_h o) (Dd.ok_pl o)];have h2:=Dd.ok_k o;refine ⟨?_,fun h=>bK fun z=>h z.1⟩
 split
 ·rename_i z; rw [z.1,z.2]; omega
 ·exact bg _
theorem Qpn {n:Nat} {a b:Tab} (q:Wt' n a) (z:Wt' n b):Wt' n (Vc a b):=by
 refine Wt'.of_ent (Qmj q.sz z.sz) q.n1 q.n8 fun i j hi B=>?_
 rw [Q44 q.sz z.sz hi B];exact bu (q.ent_nn hi B) (Qjs _ _)
theorem RI.step {n:Nat} {s:RS} (r:RI n s) {x:Dx} (o:x.ok n s):RI n (Yn n s x):=by
 cases x with
 | own d=>
  have U:=Dd.ok_h o;unfold Yn
  by_cases q:d.fits (s.now.getD d.h [])=true
  ·simp only [bJ q];have w:=r.wn d.h U;have I:d.h < s.now.length:=by rw [r.ln]; exact U
   refine ⟨by simp only [D5]; exact r.ln,r.ll,fun i hi=>?_,r.wl,r.we,fun i j hi B=>?_,fun a i j O hi G B=>?_,r.bl,r.be⟩
   ·simp only [Zq I]
    split
    ·exact Qix w o
    ·exact r.wn i hi
   ·simp only [Zq I]
    split
    ·rename_i z; subst z;exact bu (r.up _ j hi B) (Qf8 w o _ _).1
    ·exact r.up i j hi B
   ·simp only [Zq I]
    split
    ·rename_i z; subst z;rw [(Qf8 w o i j).2 (fun z=>G z.symm)];exact r.bn _ i j O hi G B
    ·exact r.bn a i j O hi G B
  ·simp only [bK q]; exact r
 | kp J=>
  have U:J < n:=o;have I:J < s.last.length:=by rw [r.ll]; exact U
  refine ⟨r.ln,by simp only [Yn,D5]; exact r.ll,r.wn,fun i hi=>?_,r.we,fun i j hi B=>?_,fun a i j O hi G B=>?_,fun a i j O hi B=>?_,fun L Y i j hi B=>?_⟩
  ·simp only [Yn,Zq I]
   split
   ·exact r.wn J U
   ·exact r.wl i hi
  ·simp only [Yn,Zq I]
   split
   ·rename_i z; subst z; exact bg _
   ·exact r.up i j hi B
  ·simp only [Yn,Zq I]
   split
   ·rename_i z; subst z;exact bu (r.bn a i j O hi G B) (r.up i j hi B)
   ·exact r.bn a i j O hi G B
  ·simp only [Yn,Zq I];have Z:ent (s.last.getD a []) i j<=ent (s.last.getD i []) i j:=r.bl a i j O hi B
   split
   ·rename_i z; subst z
    split
    ·rename_i z2; subst z2; exact bg _
    ·rename_i z2;exact r.bn _ i j O hi (fun z=>z2 z.symm) B
   ·split
    ·rename_i z2; subst z2;exact bu Z (r.up _ j hi B)
    ·exact Z
  ·simp only [Yn,Zq I];have Z:=r.be L Y i j hi B
   split
   ·rename_i z; subst z;exact bu Z (r.up _ j hi B)
   ·exact Z
 | fl J=>
  have U:J < n:=o;have I:J < s.now.length:=by rw [r.ln]; exact U
  refine ⟨by simp only [Yn,D5]; exact r.ln,r.ll,fun i hi=>?_,r.wl,r.we,fun i j hi B=>?_,fun a i j O hi G B=>?_,r.bl,r.be⟩
  ·simp only [Yn,Zq I]
   split
   ·exact r.wl J U
   ·exact r.wn i hi
  ·simp only [Yn,Zq I]
   split
   ·rename_i z; subst z; exact bg _
   ·exact r.up i j hi B
  ·simp only [Yn,Zq I]
   split
   ·rename_i z; subst z; exact r.bl _ i j O hi B
   ·exact r.bn a i j O hi G B
 | sd J=>
  have U:J < n:=o;refine ⟨r.ln,r.ll,r.wn,r.wl,fun L Y=>?_,r.up,r.bn,r.bl,fun L Y i j hi B=>?_⟩
  ·rcases E9.mp Y with h | h
   ·exact r.we L h
   ·rw [dk.mp h]; exact r.wl J U
  ·rcases E9.mp Y with h | h
   ·exact r.be L h i j hi B
   ·rw [dk.mp h]; exact r.bl J i j U hi B
 | cm l J=>
  obtain ⟨a2,U⟩:=o;have I:J < s.now.length:=by rw [r.ln]; exact U
  have Y:s.le.getD l []∈s.le:=D2 (getD_some a2 []);have wL:=r.we _ Y;have wN:=r.wn J U;refine ⟨by simp only [Yn,D5]; exact r.ln,r.ll,fun i hi=>?_,r.wl,r.we,fun i j hi B=>?_,fun a i j O hi G B=>?_,r.bl,r.be⟩
  ·simp only [Yn,Zq I]
   split
   ·exact Qpn wN wL
   ·exact r.wn i hi
  ·simp only [Yn,Zq I]
   split
   ·rename_i z; subst z;rw [Q44 wN.sz wL.sz hi B];exact bu (r.up _ j hi B) (Qjs _ _)
   ·exact r.up i j hi B
  ·simp only [Yn,Zq I]
   split
   ·rename_i z; subst z;rw [Q44 wN.sz wL.sz hi B];have Z:=r.bn _ i j O hi G B;have b2:=r.be _ Y i j hi B;rcases Qfj (ent (s.now.getD a []) i j) (ent (s.le.getD l []) i j) with e | e
    ·rw [e]; exact Z
    ·rw [e]; exact b2
   ·exact r.bn a i j O hi G B
theorem RI.row {n:Nat} {s:RS} (r:RI n s) {L:Tab} (I:L∈s.le) {i:Nat} (hi:i < n):Qca (L.getD i []) ((s.now.getD i []).getD i [])=true:=by
 unfold Qca;rw [F7];intro z hz;obtain ⟨j,B⟩:=List.mem_iff_getElem?.mp hz;rw [dc] at B;have J:=r.we L I;have U:=r.wn i hi;have O:L[i]?=some (L.getD i []):=getD_some (by rw [J.len]; exact hi) [];have Y:=J.row _ (D2 O);have q:j<=n:=by have:=(O1.mp B.1).1; omega
 have G:=bu (r.be L I i j hi q) (r.up i j hi q);unfold ent at G;rw [F8,B.1,F8,B.2] at G;simpa using G
theorem Q43 (S:Q2) (a:Str):oEq S (.str a) (.str a)=.ok (.bl true) S:=by simp
theorem ji {a b:Str} (S:Q2) (h:¬ a=b):oEq S (.str a) (.str b)=.ok (.bl false) S:=by simp [h]
theorem Z8:¬ (bO "make" = bO "lend"):=by decide +kernel
theorem Y9:¬ (bO "make" = bO "use"):=by decide +kernel
theorem Ju:¬ (bO "make" = bO "keep"):=by decide +kernel
theorem Jv:¬ (bO "make" = bO "fall"):=by decide +kernel
theorem Jt:¬ (bO "make" = bO "send"):=by decide +kernel
theorem Jw:¬ (bO "make" = bO "come"):=by decide +kernel
theorem Jg:¬ (bO "lend" = bO "make"):=by decide +kernel
theorem Zz:¬ (bO "lend" = bO "use"):=by decide +kernel
theorem Jy:¬ (bO "lend" = bO "keep"):=by decide +kernel
theorem Jz:¬ (bO "lend" = bO "fall"):=by decide +kernel
theorem Jx:¬ (bO "lend" = bO "send"):=by decide +kernel
theorem Z0:¬ (bO "lend" = bO "come"):=by decide +kernel
theorem Z1:¬ (bO "use" = bO "make"):=by decide +kernel
theorem Zv:¬ (bO "use" = bO "lend"):=by decide +kernel
theorem Zw:¬ (bO "use" = bO "keep"):=by decide +kernel
theorem Zx:¬ (bO "use" = bO "fall"):=by decide +kernel
theorem Zu:¬ (bO "use" = bO "send"):=by decide +kernel
theorem Zy:¬ (bO "use" = bO "come"):=by decide +kernel
theorem Za:¬ (bO "keep" = bO "make"):=by decide +kernel
theorem Zb:¬ (bO "keep" = bO "lend"):=by decide +kernel
theorem Ya:¬ (bO "keep" = bO "use"):=by decide +kernel
theorem Zc:¬ (bO "keep" = bO "fall"):=by decide +kernel
theorem Z9:¬ (bO "keep" = bO "send"):=by decide +kernel
theorem Zd:¬ (bO "keep" = bO "come"):=by decide +kernel
theorem Zf:¬ (bO "fall" = bO "make"):=by decide +kernel
theorem Zg:¬ (bO "fall" = bO "lend"):=by decide +kernel
theorem Yb:¬ (bO "fall" = bO "use"):=by decide +kernel
theorem Jk:¬ (bO "fall" = bO "keep"):=by decide +kernel
theorem Ze:¬ (bO "fall" = bO "send"):=by decide +kernel
theorem Zh:¬ (bO "fall" = bO "come"):=by decide +kernel
theorem Z5:¬ (bO "send" = bO "make"):=by decide +kernel
theorem Z6:¬ (bO "send" = bO "lend"):=by decide +kernel
theorem Y8:¬ (bO "send" = bO "use"):=by decide +kernel
theorem Ji:¬ (bO "send" = bO "keep"):=by decide +kernel
theorem Jj:¬ (bO "send" = bO "fall"):=by decide +kernel
theorem Z7:¬ (bO "send" = bO "come"):=by decide +kernel
theorem Zi:¬ (bO "come" = bO "make"):=by decide +kernel
theorem Zj:¬ (bO "come" = bO "lend"):=by decide +kernel
theorem Yc:¬ (bO "come" = bO "use"):=by decide +kernel
theorem Jn:¬ (bO "come" = bO "keep"):=by decide +kernel
theorem Jp:¬ (bO "come" = bO "fall"):=by decide +kernel
theorem Jm:¬ (bO "come" = bO "send"):=by decide +kernel
theorem zm (S:Q2) (k:Int):oEq S (.int k) .non=.ok (.bl false) S:=rfl
def Dx.oth:Dx->Bool
 | .own _=>false
 | _=>true
theorem Qck (x:Dx) (S:Q2):J9 [x.V] S=.ok (.bl x.oth) S:=by
 cases x with
 | own d=>
  cases d with
  | mk h k=>
   have t:Qj [.tup [.str "make",.int h,.int k]] S=.ok (.bl true) S:=U5 "make" [h,k] (by simp) S;have a0:atI [PV.str "make",.int h,.int k] 0=some (.str "make"):=rfl;unfold Dx.V Dd.V Dx.oth;simp -implicitDefEqProofs [J9,Qs,Y7,jv,zm,t,a0,Z8,Y9,Ju,Jv,Jt,Jw,Jg,Zz,Jy,Jz,Jx,Z0,Z1,Zv,Zw,Zx,Zu,Zy,Za,Zb,Ya,Zc,Z9,Zd,Zf,Zg,Yb,Jk,Ze,Zh,Z5,Z6,Y8,Ji,Jj,Z7,Zi,Zj,Yc,Jn,Jp,Jm]
  | ld h q k=>
   have t:Qj [.tup [.str "lend",.int h,.int q,.int k]] S=.ok (.bl true) S:=U5 "lend" [h,q,k] (by simp) S;have a0:atI [PV.str "lend",.int h,.int q,.int k] 0=some (.str "lend"):=rfl;unfold Dx.V Dd.V Dx.oth;simp -implicitDefEqProofs [J9,Qs,Y7,jv,zm,t,a0,Z8,Y9,Ju,Jv,Jt,Jw,Jg,Zz,Jy,Jz,Jx,Z0,Z1,Zv,Zw,Zx,Zu,Zy,Za,Zb,Ya,Zc,Z9,Zd,Zf,Zg,Yb,Jk,Ze,Zh,Z5,Z6,Y8,Ji,Jj,Z7,Zi,Zj,Yc,Jn,Jp,Jm]
  | us h k=>
   have t:Qj [.tup [.str "use",.int h,.int k]] S=.ok (.bl true) S:=U5 "use" [h,k] (by simp) S;have a0:atI [PV.str "use",.int h,.int k] 0=some (.str "use"):=rfl;unfold Dx.V Dd.V Dx.oth;simp -implicitDefEqProofs [J9,Qs,Y7,jv,zm,t,a0,Z8,Y9,Ju,Jv,Jt,Jw,Jg,Zz,Jy,Jz,Jx,Z0,Z1,Zv,Zw,Zx,Zu,Zy,Za,Zb,Ya,Zc,Z9,Zd,Zf,Zg,Yb,Jk,Ze,Zh,Z5,Z6,Y8,Ji,Jj,Z7,Zi,Zj,Yc,Jn,Jp,Jm]
 | kp i=>
  have t:Qj [.tup [.str "keep",.int i]] S=.ok (.bl true) S:=U5 "keep" [i] (by simp) S;have a0:atI [PV.str "keep",.int i] 0=some (.str "keep"):=rfl;unfold Dx.V Dx.oth;simp -implicitDefEqProofs [J9,Qs,Y7,jv,zm,t,a0,Z8,Y9,Ju,Jv,Jt,Jw,Jg,Zz,Jy,Jz,Jx,Z0,Z1,Zv,Zw,Zx,Zu,Zy,Za,Zb,Ya,Zc,Z9,Zd,Zf,Zg,Yb,Jk,Ze,Zh,Z5,Z6,Y8,Ji,Jj,Z7,Zi,Zj,Yc,Jn,Jp,Jm]
 | fl i=>
  have t:Qj [.tup [.str "fall",.int i]] S=.ok (.bl true) S:=U5 "fall" [i] (by simp) S;have a0:atI [PV.str "fall",.int i] 0=some (.str "fall"):=rfl;unfold Dx.V Dx.oth;simp -implicitDefEqProofs [J9,Qs,Y7,jv,zm,t,a0,Z8,Y9,Ju,Jv,Jt,Jw,Jg,Zz,Jy,Jz,Jx,Z0,Z1,Zv,Zw,Zx,Zu,Zy,Za,Zb,Ya,Zc,Z9,Zd,Zf,Zg,Yb,Jk,Ze,Zh,Z5,Z6,Y8,Ji,Jj,Z7,Zi,Zj,Yc,Jn,Jp,Jm]
 | sd i=>
  have t:Qj [.tup [.str "send",.int i]] S=.ok (.bl true) S:=U5 "send" [i] (by simp) S;have a0:atI [PV.str "send",.int i] 0=some (.str "send"):=rfl;unfold Dx.V Dx.oth;simp -implicitDefEqProofs [J9,Qs,Y7,jv,zm,t,a0,Z8,Y9,Ju,Jv,Jt,Jw,Jg,Zz,Jy,Jz,Jx,Z0,Z1,Zv,Zw,Zx,Zu,Zy,Za,Zb,Ya,Zc,Z9,Zd,Zf,Zg,Yb,Jk,Ze,Zh,Z5,Z6,Y8,Ji,Jj,Z7,Zi,Zj,Yc,Jn,Jp,Jm]
 | cm l i=>
  have t:Qj [.tup [.str "come",.int l,.int i]] S=.ok (.bl true) S:=U5 "come" [l,i] (by simp) S;have a0:atI [PV.str "come",.int l,.int i] 0=some (.str "come"):=rfl;unfold Dx.V Dx.oth;simp -implicitDefEqProofs [J9,Qs,Y7,jv,zm,t,a0,Z8,Y9,Ju,Jv,Jt,Jw,Jg,Zz,Jy,Jz,Jx,Z0,Z1,Zv,Zw,Zx,Zu,Zy,Za,Zb,Ya,Zc,Z9,Zd,Zf,Zg,Yb,Jk,Ze,Zh,Z5,Z6,Y8,Ji,Jj,Z7,Zi,Zj,Yc,Jn,Jp,Jm]
theorem Q45 {x:Dx} (h:x.oth=true) (S:Q2):W5 [x.V] S=.ok (.bl false) S:=by
 cases x with
 | own d=>cases h
 | kp i=>
  have t:Qj [.tup [.str "keep",.int i]] S=.ok (.bl true) S:=U5 "keep" [i] (by simp) S;have a0:atI [PV.str "keep",.int i] 0=some (.str "keep"):=rfl;unfold Dx.V;simp -implicitDefEqProofs [W5,Qs,Ux,zm,t,a0,Z8,Y9,Ju,Jv,Jt,Jw,Jg,Zz,Jy,Jz,Jx,Z0,Z1,Zv,Zw,Zx,Zu,Zy,Za,Zb,Ya,Zc,Z9,Zd,Zf,Zg,Yb,Jk,Ze,Zh,Z5,Z6,Y8,Ji,Jj,Z7,Zi,Zj,Yc,Jn,Jp,Jm]
 | fl i=>
  have t:Qj [.tup [.str "fall",.int i]] S=.ok (.bl true) S:=U5 "fall" [i] (by simp) S;have a0:atI [PV.str "fall",.int i] 0=some (.str "fall"):=rfl;unfold Dx.V;simp -implicitDefEqProofs [W5,Qs,Ux,zm,t,a0,Z8,Y9,Ju,Jv,Jt,Jw,Jg,Zz,Jy,Jz,Jx,Z0,Z1,Zv,Zw,Zx,Zu,Zy,Za,Zb,Ya,Zc,Z9,Zd,Zf,Zg,Yb,Jk,Ze,Zh,Z5,Z6,Y8,Ji,Jj,Z7,Zi,Zj,Yc,Jn,Jp,Jm]
 | sd i=>
  have t:Qj [.tup [.str "send",.int i]] S=.ok (.bl true) S:=U5 "send" [i] (by simp) S;have a0:atI [PV.str "send",.int i] 0=some (.str "send"):=rfl;unfold Dx.V;simp -implicitDefEqProofs [W5,Qs,Ux,zm,t,a0,Z8,Y9,Ju,Jv,Jt,Jw,Jg,Zz,Jy,Jz,Jx,Z0,Z1,Zv,Zw,Zx,Zu,Zy,Za,Zb,Ya,Zc,Z9,Zd,Zf,Zg,Yb,Jk,Ze,Zh,Z5,Z6,Y8,Ji,Jj,Z7,Zi,Zj,Yc,Jn,Jp,Jm]
 | cm l i=>
  have t:Qj [.tup [.str "come",.int l,.int i]] S=.ok (.bl true) S:=U5 "come" [l,i] (by simp) S;have a0:atI [PV.str "come",.int l,.int i] 0=some (.str "come"):=rfl;unfold Dx.V;simp -implicitDefEqProofs [W5,Qs,Ux,zm,t,a0,Z8,Y9,Ju,Jv,Jt,Jw,Jg,Zz,Jy,Jz,Jx,Z0,Z1,Zv,Zw,Zx,Zu,Zy,Za,Zb,Ya,Zc,Z9,Zd,Zf,Zg,Yb,Jk,Ze,Zh,Z5,Z6,Y8,Ji,Jj,Z7,Zi,Zj,Yc,Jn,Jp,Jm]
theorem Q1n {n i:Nat} {tb:Tab} (j:tb.length=n) (hi:i < n) (S:Q2):Yj [Q8 tb,.int i] S=.ok (.bl true) S:=by
 have:=Q1j (V:=Q8 tb) (n:=n) (st:=S) (by simp [Q8,j]) (i:Int);rw [show (decide ((0:Int)<=(i:Int)) && decide ((i:Int) < (n:Int)))=true by simp; omega] at this;exact this
theorem Qeb {n:Nat} {s:RS} {tb:Tab} (q:tb.length=n) {x:Dx} (o:x.ok n s) {S:Q2} {j:Nat} (I:S[j]?=some (.lst (s.le.map Q8))):Jf [Q8 tb,.ref j,x.V] S=.ok .non S:=by
 have ll:Yx S [.ref j]=.ok (.int s.le.length) S:=by
  have G:ListAt S (.ref j) (s.le.map Q8):=.inr (.inr ⟨j,rfl,I⟩);rw [G.len,O2]
 have e2:=Qck x S;cases x with
 | own d=>
  have e1:=Q83 o S;have e3:=Qct q o S;clear e2;show Jf [Q8 tb,.ref j,d.V] S=_;generalize Q8 tb=T at *;generalize d.V=V at *;simp -implicitDefEqProofs [Jf,Qs,Yd,e1,e3]
 | kp i=>
  have e1:=Q45 (x:=.kp i) rfl S;have e3:=Q1n q o S;have a0:atI [PV.str "keep",.int i] 0=some (.str "keep"):=rfl;have a1:atI [PV.str "keep",.int i] (-1)=some (.int i):=rfl;unfold Dx.V Dx.oth at *;generalize Q8 tb=T at *;simp -implicitDefEqProofs [Jf,Qs,Yd,e1,e2,e3,a0,a1,Z8,Y9,Ju,Jv,Jt,Jw,Jg,Zz,Jy,Jz,Jx,Z0,Z1,Zv,Zw,Zx,Zu,Zy,Za,Zb,Ya,Zc,Z9,Zd,Zf,Zg,Yb,Jk,Ze,Zh,Z5,Z6,Y8,Ji,Jj,Z7,Zi,Zj,Yc,Jn,Jp,Jm]
 | fl i=>
  have e1:=Q45 (x:=.fl i) rfl S;have e3:=Q1n q o S;have a0:atI [PV.str "fall",.int i] 0=some (.str "fall"):=rfl;have a1:atI [PV.str "fall",.int i] (-1)=some (.int i):=rfl;unfold Dx.V Dx.oth at *;generalize Q8 tb=T at *;simp -implicitDefEqProofs [Jf,Qs,Yd,e1,e2,e3,a0,a1,Z8,Y9,Ju,Jv,Jt,Jw,Jg,Zz,Jy,Jz,Jx,Z0,Z1,Zv,Zw,Zx,Zu,Zy,Za,Zb,Ya,Zc,Z9,Zd,Zf,Zg,Yb,Jk,Ze,Zh,Z5,Z6,Y8,Ji,Jj,Z7,Zi,Zj,Yc,Jn,Jp,Jm]
 | sd i=>
  have e1:=Q45 (x:=.sd i) rfl S;have e3:=Q1n q o S;have a0:atI [PV.str "send",.int i] 0=some (.str "send"):=rfl;have a1:atI [PV.str "send",.int i] (-1)=some (.int i):=rfl;unfold Dx.V Dx.oth at *;generalize Q8 tb=T at *;simp -implicitDefEqProofs [Jf,Qs,Yd,e1,e2,e3,a0,a1,Z8,Y9,Ju,Jv,Jt,Jw,Jg,Zz,Jy,Jz,Jx,Z0,Z1,Zv,Zw,Zx,Zu,Zy,Za,Zb,Ya,Zc,Z9,Zd,Zf,Zg,Yb,Jk,Ze,Zh,Z5,Z6,Y8,Ji,Jj,Z7,Zi,Zj,Yc,Jn,Jp,Jm]
 | cm l i=>
  have e1:=Q45 (x:=.cm l i) rfl S;have e3:=Q1n q o.2 S;have a0:atI [PV.str "come",.int l,.int i] 0=some (.str "come"):=rfl;have a1:atI [PV.str "come",.int l,.int i] (-1)=some (.int i):=rfl;have B:atI [PV.str "come",.int l,.int i] 1=some (.int l):=rfl;have z:l < s.le.length:=o.1;unfold Dx.V Dx.oth at *;generalize Q8 tb=T at *;generalize s.le.length=nl at *;simp -implicitDefEqProofs [Jf,Qs,Yd,e1,e2,e3,a0,a1,B,ll,z,-Qky,Z8,Y9,Ju,Jv,Jt,Jw,Jg,Zz,Jy,Jz,Jx,Z0,Z1,Zv,Zw,Zx,Zu,Zy,Za,Zb,Ya,Zc,Z9,Zd,Zf,Zg,Yb,Jk,Ze,Zh,Z5,Z6,Y8,Ji,Jj,Z7,Zi,Zj,Yc,Jn,Jp,Jm]
theorem Q1r {m:MS} {nl:Nat} {ps:List PV} {S q:Q2} {j:Gam} (h:m (ps.map some ++ bQ (nl - ps.length) none) S=.nx j q):Yr m nl ps S=.ok .non q:=by unfold Yr; rw [h]
theorem xq {m:MS} {nl:Nat} {ps:List PV} {S j:Q2} {v:PV} (h:m (ps.map some ++ bQ (nl - ps.length) none) S=.rt v j):Yr m nl ps S=.ok v j:=by unfold Yr; rw [h]
theorem Yw {m:MS} {nl:Nat} {ps:List PV} {S j:Q2} {v:PV} (h:m (ps.map some ++ bQ (nl - ps.length) none) S=.rt v j):Qs m nl ps S=fin S v j:=by unfold Qs; rw [h]
def hsV (B n:Nat):PV:=.lst ((bV n).map fun i=>.ref (B + i))
structure HsAt (C:aA) (B n:Nat) (s:RS) (S:Q2):Prop where
 at_:∀ i,i < n->S[B + i]?=some (.obj C (hsF i (s.now.getD i []) (s.last.getD i [])))
theorem Qda {B n i:Nat} (hi:i < n) (S:Q2):oIx S (hsV B n) (.int i)=.ok (.ref (B + i)) S:=by
 have:oIx S (hsV B n) (.int i)=okO S (atI ((bV n).map fun i=>PV.ref (B + i)) (i:Int)):=rfl
 rw [this,qr,Sm.atI_get (show (bV n)[i]?=some i by rw [cJ hi])]; rfl
def Qnr (C:aA) (S:Q2) (i n:Nat) (now last:Tab) (d:Dd) (Γ:Gam):SR:=if d.fits now=true then .nx Γ (S.set i (.obj C (hsF d.h (d.put n now) last))) else .exc ⟨"Short",some ("had",.int (Qt now d.h))⟩ S
theorem Qbh {C:aA} {S:Q2} {i n:Nat} {now last:Tab} {d:Dd} {m:ME} {Γ:Gam} (h:m Γ S=Q5t C S i n now last d):Wc m Γ S=Qnr C S i n now last d Γ:=by
 rw [Q7v,h];unfold Q5t Qnr
 split <;> rfl
theorem Qhu {C:aA} {S:Q2} {i n nl:Nat} {now last:Tab} {d:Dd} {m:MS} {ps:List PV} {Γ:Gam} (h:m (ps.map some ++ bQ (nl - ps.length) none) S=Qnr C S i n now last d Γ):Yr m nl ps S=Q5t C S i n now last d:=by
 unfold Yr;rw [h];unfold Q5t Qnr
 by_cases q:d.fits now=true
 ·rw [bJ q,bJ q]
 ·rw [bK q,bK q]
theorem Qkf {C:aA} {B n:Nat} {s:RS} {S:Q2} (A:HsAt C B n s S) (r:RI n s) {d:Dd} (o:d.ok n):Wz C [hsV B n,d.V] S=Q5t C S (B + d.h) n (s.now.getD d.h []) (s.last.getD d.h []) d:=by
 have q:=Dd.ok_h o;have w:=r.wn d.h q;have j:=A.at_ d.h q;have ix:=Qda (B:=B) q S;refine Qhu (Γ:=[some (hsV B n),some d.V,some (.ref (B + d.h))]) ?_;show y8 C [some (hsV B n),some d.V,none] S=_;refine Qm (Γ1:=[some (hsV B n),some d.V,some (.ref (B + d.h))]) (Je (Qe rfl (Qe rfl rfl (Dd.a1 d S)) ix)) ?_;cases d with
 | mk h k=>
  refine xg (J5 (Qe (Qe rfl rfl rfl) rfl (Q43 S _))) (Qbh ?_);exact (zy (i:=B + h) rfl j (y3 (by decide +kernel) (by decide +kernel) (by decide +kernel) _ _ _) (ps:=[.int k]) (S1:=S) (Q5 (Qe rfl rfl rfl) rfl) rfl).trans (Qp2 j w o)
 | ld h t k=>
  refine Vd (J5 (Qe (Qe rfl rfl rfl) rfl (ji S Jg))) (xg (J5 (Qe (Qe rfl rfl rfl) rfl (Q43 S _))) (Qbh ?_));exact (zy (i:=B + h) rfl j (y3 (by decide +kernel) (by decide +kernel) (by decide +kernel) _ _ _) (ps:=[.int t,.int k]) (S1:=S) (Q5 (Qe rfl rfl rfl) (Q5 (Qe rfl rfl rfl) rfl)) rfl).trans (Qpg j w o)
 | us h k=>
  refine Vd (J5 (Qe (Qe rfl rfl rfl) rfl (ji S Z1))) (Vd (J5 (Qe (Qe rfl rfl rfl) rfl (ji S Zv))) (Qbh ?_));exact (zy (i:=B + h) rfl j (y3 (by decide +kernel) (by decide +kernel) (by decide +kernel) _ _ _) (ps:=[.int k]) (S1:=S) (Q5 (Qe rfl rfl rfl) rfl) rfl).trans (Qqz j w o)
def Q2g (C:aA) (B Lr n:Nat) (s:RS) (S:Q2):Dx->Q2
 | .own d=>if d.fits (s.now.getD d.h [])=true then S.set (B + d.h) (.obj C (hsF d.h (d.put n (s.now.getD d.h [])) (s.last.getD d.h []))) else S
 | .kp i=>S.set (B + i) (.obj C (hsF i (s.now.getD i []) (s.now.getD i [])))
 | .fl i=>S.set (B + i) (.obj C (hsF i (s.last.getD i []) (s.last.getD i [])))
 | .sd i=>S.set Lr (.lst (s.le.map Q8 ++ [Q8 (s.last.getD i [])]))
 | .cm l i=>S.set (B + i) (.obj C (hsF i (Vc (s.now.getD i []) (s.le.getD l [])) (s.last.getD i [])))
theorem Q2a {S:Q2} {L:Nat} {xs:List PV} (h:S[L]?=some (.lst xs)) (j:xs.length < 1000000) (y:PV):Vm S (.ref L) [y]=.ok .non (S.set L (.lst (xs ++ [y]))):=by
 simp only [Vm,chg,h];rw [bJ (show xs.length < lim from j)]
theorem Qet {C:aA} {B j n:Nat} {s:RS} {S:Q2} (A:HsAt C B n s S) (G:S[j]?=some (.lst (s.le.map Q8))) (Y:s.le.length < 100000) (r:RI n s) {x:Dx} (o:x.ok n s) (J:x.oth=true):Xg C [hsV B n,.ref j,x.V] S=.ok .non (Q2g C B j n s S x):=by
 have O:ListAt S (.ref j) (s.le.map Q8):=.inr (.inr ⟨j,rfl,G⟩);cases x with
 | own d=>cases J
 | kp i=>
  have hi:i < n:=o;have q:=A.at_ i hi;have st:Wn C [some (hsV B n),some (.ref j),some (Dx.kp i).V,none] S=.nx [some (hsV B n),some (.ref j),some (Dx.kp i).V,some (.ref (B + i))] (Q2g C B j n s S (.kp i)):=
   Qm (Je (Qe rfl (Qe rfl rfl rfl) (Qda hi S))) (xg (J5 (Qe (Qe rfl rfl rfl) rfl (Q43 S _))) (Q0m ((zy (i:=B + i) rfl q (y3 (by decide +kernel) (by decide +kernel) (by decide +kernel) _ _ _) (ps:=[]) (S1:=S) rfl rfl).trans (Qpm q))))
  exact Q1r st
 | fl i=>
  have hi:i < n:=o;have q:=A.at_ i hi;have st:Wn C [some (hsV B n),some (.ref j),some (Dx.fl i).V,none] S=.nx [some (hsV B n),some (.ref j),some (Dx.fl i).V,some (.ref (B + i))] (Q2g C B j n s S (.fl i)):=
   Qm (Je (Qe rfl (Qe rfl rfl rfl) (Qda hi S))) (Vd (J5 (Qe (Qe rfl rfl rfl) rfl (ji S Jk))) (xg (J5 (Qe (Qe rfl rfl rfl) rfl (Q43 S _))) (Q0m ((zy (i:=B + i) rfl q (y3 (by decide +kernel) (by decide +kernel) (by decide +kernel) _ _ _) (ps:=[]) (S1:=S) rfl rfl).trans (Qpv q)))))
  exact Q1r st
 | sd i=>
  have hi:i < n:=o;have q:=A.at_ i hi;have lt:xb C "letter" 1 (Vf C) (Q4 3) Q9 [some (hsV B n),some (.ref j),some (Dx.sd i).V,some (.ref (B + i))] S=.ok (Q8 (s.last.getD i [])) S:=(zy (i:=B + i) rfl q (y3 (by decide +kernel) (by decide +kernel) (by decide +kernel) _ _ _) (ps:=[]) (S1:=S) rfl rfl).trans (Qh7 q);have st:Wn C [some (hsV B n),some (.ref j),some (Dx.sd i).V,none] S=.nx [some (hsV B n),some (.ref j),some (Dx.sd i).V,some (.ref (B + i))] (Q2g C B j n s S (.sd i)):=
   Qm (Je (Qe rfl (Qe rfl rfl rfl) (Qda hi S))) (Vd (J5 (Qe (Qe rfl rfl rfl) rfl (ji S Ji))) (Vd (J5 (Qe (Qe rfl rfl rfl) rfl (ji S Jj))) (xg (J5 (Qe (Qe rfl rfl rfl) rfl (Q43 S _)))
    (Q5e (p:=.ref j) rfl (Xt G) (Q5 lt rfl) (Q2a G (by rw [O2]; omega) _)))))
  exact Q1r st
 | cm l i=>
  obtain ⟨z,hi⟩:=o;have q:=A.at_ i hi;have I:s.le.getD l []∈s.le:=D2 (getD_some z []);have U:oIx S (.ref j) (.int l)=.ok (Q8 (s.le.getD l [])) S:=by
   rw [O.ix,qr,Sm.atI_get (getD_some z [])]; rfl
  have st:Wn C [some (hsV B n),some (.ref j),some (Dx.cm l i).V,none] S=.nx [some (hsV B n),some (.ref j),some (Dx.cm l i).V,some (.ref (B + i))] (Q2g C B j n s S (.cm l i)):=
   Qm (Je (Qe rfl (Qe rfl rfl rfl) (Qda hi S))) (Vd (J5 (Qe (Qe rfl rfl rfl) rfl (ji S Jn))) (Vd (J5 (Qe (Qe rfl rfl rfl) rfl (ji S Jp))) (Vd (J5 (Qe (Qe rfl rfl rfl) rfl (ji S Jm)))
    (Q0m ((zy (i:=B + i) rfl q (y3 (by decide +kernel) (by decide +kernel) (by decide +kernel) _ _ _) (ps:=[Q8 (s.le.getD l [])]) (S1:=S) (Q5 (Qe rfl (Qe rfl rfl rfl) U) rfl) rfl).trans (Qq1 q (r.wn i hi) (r.we _ I) hi (r.row I hi)))))))
  exact Q1r st
theorem Qi2 {C:aA} {B j n:Nat} {s:RS} {S:Q2} (A:HsAt C B n s S) (O:S[j]?=some (.lst (s.le.map Q8))) (J:s.le.length < 100000) (r:RI n s) {x:Dx} (o:x.ok n s):y6 C [hsV B n,.ref j,x.V] S=.ok (Q66 s x) (Q2g C B j n s S x):=by
 have e1:(toB (Qf 1 J9 (Q3 (Q4 2) Q9))) [some (hsV B n),some (.ref j),some x.V,none] S=.ok x.oth S:=J5 (Qx (n:=1) (Q5 rfl rfl) rfl (Qck x S));cases G:x.oth with
 | true=>
  rw [G] at e1;have st:qw C [some (hsV B n),some (.ref j),some x.V,none] S=.rt (.str "done") (Q2g C B j n s S x):=ze (xg e1 (Qm (Q0m (Qx (n:=3) (Q5 rfl (Q5 rfl (Q5 rfl rfl))) rfl (Qet A O J r o G))) rfl));refine (xq st).trans ?_;cases x with
  | own d=>cases G
  | _=>rfl
 | false=>
  rw [G] at e1;cases x with
  | own d=>
   have e2:=Qkf A r (d:=d) o;have e3:Qcx "Short" "had" 3 2 (Wz C) (Q3 (Q4 0) (Q3 (Q4 2) Q9)) [some (hsV B n),some (.ref j),some d.V,none] S=(match Wz C [hsV B n,d.V] S with
    | .ok _ I=>SR.nx [some (hsV B n),some (.ref j),some d.V,none] I
    | .exc x I=>if x.cls = "Short" then (match x.fs with | some (f,.int z)=>if f = "had" then .rt (.int z) I else .stuck | _=>.stuck) else .stuck
    | .stuck=>.stuck):=by
    rw [Qjv,Q5 (m:=Q4 0) (p:=hsV B n) (S1:=S) rfl (Q5 (m:=Q4 2) (p:=d.V) (S1:=S) rfl (show Q9 _ S=.ok [] S from rfl)),Uc];exact bJ ⟨rfl,show 3 < 4 by decide⟩
   rw [e2] at e3;unfold Q5t at e3
   by_cases q:d.fits (s.now.getD d.h [])=true
   ·rw [bJ q] at e3;have st:qw C [some (hsV B n),some (.ref j),some (Dx.own d).V,none] S=.rt (.str "done") (S.set (B + d.h) (.obj C (hsF d.h (d.put n (s.now.getD d.h [])) (s.last.getD d.h [])))):=Qm (Vd e1 rfl) (Qm e3 rfl);refine (xq st).trans ?_;unfold Q2g Q66;simp only [bJ q]
   ·rw [bK q] at e3;have e3:Qcx "Short" "had" 3 2 (Wz C) (Q3 (Q4 0) (Q3 (Q4 2) Q9)) [some (hsV B n),some (.ref j),some d.V,none] S=.rt (.int (Qt (s.now.getD d.h []) d.h)) S:=e3.trans (by simp);have st:qw C [some (hsV B n),some (.ref j),some (Dx.own d).V,none] S=.rt (.int (Qt (s.now.getD d.h []) d.h)) S:=Qm (Vd e1 rfl) (ze e3);refine (xq st).trans ?_;unfold Q2g Q66;simp only [bK q]
  | kp i=>cases G
  | fl i=>cases G
  | sd i=>cases G
  | cm l i=>cases G
theorem Qs2 {C:aA} {B j n:Nat} {s:RS} {S:Q2} (A:HsAt C B n s S) (U:S[j]?=some (.lst (s.le.map Q8))) (Z:B + n<=j) (r:RI n s) {x:Dx} (o:x.ok n s):HsAt C B n (Yn n s x) (Q2g C B j n s S x)/\(Q2g C B j n s S x)[j]?=some (.lst ((Yn n s x).le.map Q8))/\(∀ t,(t < B\/j < t)->(Q2g C B j n s S x)[t]?=S[t]?)/\(Q2g C B j n s S x).length=S.length:=by
 have I:∀ (h:Nat) (a b:Tab),h < n->∀ s':RS,s'.le=s.le->(∀ i,i < n->s'.now.getD i []=if i=h then a else s.now.getD i [])->(∀ i,i < n->s'.last.getD i []=if i=h then b else s.last.getD i []) ->
   HsAt C B n s' (S.set (B + h) (.obj C (hsF h a b)))/\(S.set (B + h) (.obj C (hsF h a b)))[j]?=some (.lst (s'.le.map Q8))/\(∀ t,(t < B\/j < t)->(S.set (B + h) (.obj C (hsF h a b)))[t]?=S[t]?)/\(S.set (B + h) (.obj C (hsF h a b))).length=S.length:=by
  intro h a b G s' e1 e2 e3;have Y:=(O1.mp (A.at_ h G)).1;refine ⟨⟨fun i hi=>?_⟩,?_,fun t ht=>?_,D5⟩
  ·by_cases q:i=h
   ·subst q;rw [E2 Y,e2 i hi,e3 i hi,bJ rfl,bJ rfl]
   ·rw [O5 (by omega),A.at_ i hi,e2 i hi,e3 i hi,bK q,bK q]
  ·rw [O5 (by omega),U,e1]
  ·rw [O5 (by omega)]
 cases x with
 | own d=>
  have G:=Dd.ok_h o
  by_cases q:d.fits (s.now.getD d.h [])=true
  ·have O:Q2g C B j n s S (.own d)=S.set (B + d.h) (.obj C (hsF d.h (d.put n (s.now.getD d.h [])) (s.last.getD d.h []))):=bJ q;have J:Yn n s (.own d)=⟨s.now.set d.h (d.put n (s.now.getD d.h [])),s.last,s.le⟩:=bJ q;rw [O,J];refine I d.h _ _ G _ rfl (fun i hi=>?_) (fun i hi=>?_)
   ·exact Zq (by rw [r.ln]; exact G) _ _ _
   ·split
    ·rename_i z; rw [z]
    ·rfl
  ·have O:Q2g C B j n s S (.own d)=S:=bK q;have J:Yn n s (.own d)=s:=bK q;rw [O,J];exact ⟨A,U,fun _ _=>rfl,rfl⟩
 | kp h=>
  have G:h < n:=o;refine I h _ _ G _ rfl (fun i hi=>?_) (fun i hi=>?_)
  ·split
   ·rename_i z; rw [z]; rfl
   ·rfl
  ·exact Zq (by rw [r.ll]; exact G) _ _ _
 | fl h=>
  have G:h < n:=o;refine I h _ _ G _ rfl (fun i hi=>?_) (fun i hi=>?_)
  ·exact Zq (by rw [r.ln]; exact G) _ _ _
  ·split
   ·rename_i z; rw [z]; rfl
   ·rfl
 | sd h=>
  have G:h < n:=o;have Y:=(O1.mp U).1;refine ⟨⟨fun i hi=>?_⟩,?_,fun t ht=>?_,D5⟩
  ·show (S.set j _)[B + i]?=_;rw [O5 (by omega)];exact A.at_ i hi
  ·show (S.set j _)[j]?=some (.lst ((s.le ++ [s.last.getD h []]).map Q8));rw [E2 Y,F3]; rfl
  ·show (S.set j _)[t]?=_;rw [O5 (by omega)]
 | cm l h=>
  obtain ⟨a2,G⟩:=o;refine I h _ _ G _ rfl (fun i hi=>?_) (fun i hi=>?_)
  ·exact Zq (by rw [r.ln]; exact G) _ _ _
  ·split
   ·rename_i z; rw [z]; rfl
   ·rfl
theorem Qpx {n:Nat} {tb:List (List Int)} (w:Wt' n tb) (st:Q2):Wv [Q8 tb] st=.ok (.bl (Q8i n tb)) st:=by
 have q:=w.n8;obtain ⟨s,v,e,hs⟩:=Qhm w.sz (by omega) st;have j:=Qd7 w st;rw [<- hs];generalize Q8 tb=T at *;simp -implicitDefEqProofs [Wv,Qs,K4,j,e,atI,ixN]
theorem Q2p {n:Nat} {tb:List (List Int)} (w:Wt' n tb) (c:Ca n tb) (st:Q2):Ye [Q8 tb] st=.ok .non st:=by
 have e:=Qpx w st;rw [c.comes] at e;generalize Q8 tb=T at *;simp -implicitDefEqProofs [Ye,Qs,Xk,e]
def Xi (n:Nat):RS->List Dx->RS
 | s,[]=>s
 | s,x :: xs=>Xi n (Yn n s x) xs
def zw (n:Nat):RS->List Dx->List PV
 | _,[]=>[]
 | s,x :: xs=>Q66 s x :: zw n (Yn n s x) xs
def OkL (n:Nat):RS->List Dx->Prop
 | _,[]=>True
 | s,x :: xs=>x.ok n s/\OkL n (Yn n s x) xs
theorem Qb0 (n:Nat):∀ (xs ys:List Dx) (s:RS),Xi n s (xs ++ ys)=Xi n (Xi n s xs) ys
 | [],_,_=>rfl
 | x :: xs,ys,s=>Qb0 n xs ys (Yn n s x)
theorem Qbv (n:Nat):∀ (xs ys:List Dx) (s:RS),zw n s (xs ++ ys)=zw n s xs ++ zw n (Xi n s xs) ys
 | [],_,_=>rfl
 | x :: xs,ys,s=>congrArg (Q66 s x :: ·) (Qbv n xs ys (Yn n s x))
theorem Qb5 (n:Nat):∀ (xs ys:List Dx) (s:RS),OkL n s (xs ++ ys) <-> OkL n s xs/\OkL n (Xi n s xs) ys
 | [],_,_=>⟨fun h=>⟨trivial,h⟩,fun h=>h.2⟩
 | x :: xs,ys,s=>by
  have j:=Qb5 n xs ys (Yn n s x);exact ⟨fun h=>⟨⟨h.1,(j.mp h.2).1⟩,(j.mp h.2).2⟩,fun h=>⟨h.1.1,j.mpr ⟨h.1.2,h.2⟩⟩⟩
theorem RI.run {n:Nat}:∀ {xs:List Dx} {s:RS},RI n s->OkL n s xs->RI n (Xi n s xs)
 | [],_,r,_=>r
 | x :: xs,s,r,o=>RI.run (xs:=xs) (r.step o.1) o.2
theorem Qph (n:Nat) (s:RS) (x:Dx):(Yn n s x).le.length<=s.le.length + 1:=by
 cases x with
 | own d=>
  show (if d.fits (s.now.getD d.h [])=true then (⟨s.now.set d.h (d.put n (s.now.getD d.h [])),s.last,s.le⟩:RS) else s).le.length<=_
  split <;> simp
 | sd i=>simp [Yn]
 | _=>simp [Yn]
theorem Qeq (n:Nat):∀ (xs:List Dx) (s:RS),(Xi n s xs).le.length<=s.le.length + xs.length
 | [],s=>O7 _
 | x :: xs,s=>by
  have h1:=Qeq n xs (Yn n s x);have h2:=Qph n s x;simp only [Xi,D8];omega
theorem Q6j (n:Nat):∀ (xs:List Dx) (s:RS),(zw n s xs).length=xs.length
 | [],_=>rfl
 | x :: xs,s=>by simp only [zw,D8,Q6j n xs]
def s0 (n:Nat) (tb:Tab):RS:=⟨bQ n tb,bQ n tb,[]⟩
theorem Q71 {n i:Nat} {tb:Tab} (hi:i < n):(bQ n tb).getD i []=tb:=by
 rw [F8,cP,bJ hi]; rfl
theorem RI.start {n:Nat} {tb:Tab} (w:Wt' n tb):RI n (s0 n tb):=by
 have e:∀ i,i < n->(bQ n tb).getD i []=tb:=fun i hi=>Q71 hi
 refine ⟨eL,eL,fun i hi=>?_,fun i hi=>?_,fun L z=>absurd z cW,fun i j hi B=>?_,fun a i j q hi G B=>?_,fun a i j q hi B=>?_,fun L z=>absurd z cW⟩
 ·show Wt' n ((bQ n tb).getD i []); rw [e i hi]; exact w
 ·show Wt' n ((bQ n tb).getD i []); rw [e i hi]; exact w
 ·exact bg _
 ·show ent ((bQ n tb).getD a []) i j<=ent ((bQ n tb).getD i []) i j; rw [e i hi,e a q]; exact bg _
 ·show ent ((bQ n tb).getD a []) i j<=ent ((bQ n tb).getD i []) i j; rw [e i hi,e a q]; exact bg _
theorem Qpp {C:aA} {n:Nat} {tb:Tab} (w:Wt' n tb) (c:Ca n tb) {h:Nat} (z:h < n) (S:Q2):We C [.ref S.length,.int h,Q8 tb] (S ++ [.obj C []])=.ok .non (S ++ [.obj C (hsF h tb tb)]):=by
 have e1:=Q2p w c (S ++ [.obj C []]);have e2:=Q1n w.len z (S ++ [.obj C []]);have gt:∀ fs:List (Str × PV),(S ++ [Cell.obj C fs])[S.length]?=some (.obj C fs):=fun fs=>by simp
 have st:∀ fs gs:List (Str × PV),(S ++ [Cell.obj C fs]).set S.length (.obj C gs)=S ++ [.obj C gs]:=fun fs gs=>by simp
 have j:yw "number" (.int h) []=[(bO "number",PV.int h)]:=rfl;have p2:yw "now" (Q8 tb) [(bO "number",PV.int h)]=[(bO "number",.int h),(bO "now",Q8 tb)]:=by
  rw [yw,bK s1']; rfl
 have q:yw "kept" (Q8 tb) [(bO "number",PV.int h),(bO "now",Q8 tb)]=hsF h tb tb:=by
  rw [yw,bK s2',yw,bK s3']; rfl
 have k3:qc C [some (.ref S.length),some (.int h),some (Q8 tb)] (S ++ [.obj C []])=.nx [some (.ref S.length),some (.int h),some (Q8 tb)] (S ++ [.obj C (hsF h tb tb)]):=by
  refine Qm (Q0m (Qx (n:=1) (Q5 rfl rfl) rfl e1)) (Qm (Vd (Q4w (J5 (Qx (n:=2) (Q5 rfl (Q5 rfl rfl)) rfl e2))) rfl) ?_);refine Qm ((jk (p:=.int h) rfl rfl (gt _) (by simp)).trans (by rw [j,st])) ?_;refine Qm ((jk (p:=Q8 tb) rfl rfl (gt _) (by simp)).trans (by rw [p2,st])) ?_;exact (jk (p:=Q8 tb) rfl rfl (gt _) (by simp)).trans (by rw [q,st])
 exact Q1r k3
theorem Qsi {C:aA} {n:Nat} {tb:Tab} (w:Wt' n tb) (c:Ca n tb) {h:Nat} (j:h < n) (S:Q2):Q0p C [some (.int h),some (Q8 tb)] S=.ok (.ref S.length) (S ++ [.obj C (hsF h tb tb)]):=by
 have q:(Q3 (Q4 0) (Q3 (Q4 1) Q9)) [some (.int h),some (Q8 tb)] S=.ok [.int h,Q8 tb] S:=Q5 rfl (Q5 rfl rfl);show ((We C [PV.ref S.length,PV.int h,Q8 tb] (S ++ [Cell.obj C []])).bind _)=_;rw [Qpp w c j S]; rfl
def h0 (C:aA) (n:Nat) (tb:Tab):Q2:=(bV n).map fun i=>.obj C (hsF i tb tb)
theorem Qhf {C:aA} {n:Nat} {tb:Tab} (w:Wt' n tb) (c:Ca n tb) (S:Q2) (Γ:Gam) (z:Γ[0]?=some (some (Q8 tb))):Z3 (Qp 0) Zr (Q0p C) [] (Zp [none,some 0] Γ) (Yg 0 n) S=.ok ((bV n).map fun i=>.ref (S.length + i)) (S ++ h0 C n tb):=by
 have G:Zp [none,some 0] Γ=[none,some (Q8 tb)]:=by
  simp [Zp,z]
 obtain ⟨j,I,e,e1,e2⟩:=Qhk (g:=fun k:Nat=>PV.int (k:Int)) (xs:=bV n) (ga:=Qp 0) (me:=Q0p C) (w:=[]) (Γ0:=[none,some (Q8 tb)]) (st:=S)
  (fun i j st=>j=((bV i).map fun i=>PV.ref (S.length + i))/\st=S ++ h0 C i tb) (fun _ _ _ _=>by simp)
  (fun i x j st B ⟨e1,e2⟩=>by
   subst e1; subst e2;have q:i < n:=by simpa using (O1.mp B).1
   rw [cJ q] at B;cases B;refine ⟨_,rfl,_,_,Qsi w c q _,?_,?_⟩
   ·rw [dh,F3,O8];simp [h0]
   ·rw [h0,h0,dh,F3,cH]; rfl)
  ⟨rfl,by simp [h0]⟩
 rw [G6] at e1 e2;rw [G,K2,e,e1,e2]
theorem Qee {α β:Type} (l:List α) (d:α) (f:α->β):l.map f=(bV l.length).map fun i=>f (l.getD i d):=by
 refine gT fun i=>?_
 rw [E6,E6]
 by_cases h:i < l.length
 ·rw [cJ h,O4 h];simp [bZ,O4 h]
 ·rw [cV (by omega),cV (by rw [G6]; omega)]; rfl
theorem Qsz (C:aA) (n:Nat) (tb:Tab):(h0 C n tb).length=n:=by simp [h0]
theorem Qvn (C:aA) {n i:Nat} (tb:Tab) (hi:i < n):(h0 C n tb)[i]?=some (.obj C (hsF i tb tb)):=by
 simp [h0,cJ hi]
abbrev plG (tb:Tab) (DV:PV) (B n:Nat) (d:Option PV):Gam:=[some (Q8 tb),some DV,some (hsV B n),some (.ref (B + n)),some (.ref (B + n + 1)),d]
structure PI (C:aA) (n:Nat) (tb:Tab) (S:Q2) (pre:List Dx) (st:Q2):Prop where
 hs:HsAt C S.length n (Xi n (s0 n tb) pre) st
 le:st[S.length + n]?=some (.lst ((Xi n (s0 n tb) pre).le.map Q8))
 an:st[S.length + n + 1]?=some (.lst (zw n (s0 n tb) pre))
 old:∀ t,t < S.length->st[t]?=S[t]?
 len:st.length=S.length + n + 2
theorem Qr2 {C:aA} {n:Nat} {tb:Tab} (w:Wt' n tb) {S st:Q2} {pre:List Dx} {x:Dx} {j:List Dx} (hl:(pre ++ x :: j).length<=1000) (ok:OkL n (s0 n tb) (pre ++ x :: j)) (P:PI C n tb S pre st) (DV:PV):∃ G,Q37 C (plG tb DV S.length n (some x.V)) st=.nx (plG tb DV S.length n (some x.V)) G/\PI C n tb S (pre ++ [x]) G:=by
 have o1:=(Qb5 n pre (x :: j) _).mp ok;have r:RI n (Xi n (s0 n tb) pre):=(RI.start w).run o1.1;have J:=o1.2.1;have Z:pre.length<=1000:=by rw [O8] at hl; omega
 have a5:=Qeq n pre (s0 n tb);have B:(Xi n (s0 n tb) pre).le.length < 100000:=by
  have:(s0 n tb).le.length=0:=rfl;omega
 have e1:=Qeb w.len J P.le;have e2:=Qi2 P.hs P.le B r J;obtain ⟨a1,Y,U,a4⟩:=Qs2 P.hs P.le (O7 _) r J;obtain ⟨O,q⟩:∃ z,Q2g C S.length (S.length + n) n (Xi n (s0 n tb) pre) st x=z:=⟨_,rfl⟩;rw [q] at e2 a1 Y U a4;have I:O[S.length + n + 1]?=some (.lst (zw n (s0 n tb) pre)):=by rw [U _ (.inr (by omega))]; exact P.an
 have hb:=(O1.mp I).1;have ap:=Q2a I (by rw [Q6j]; omega) (Q66 (Xi n (s0 n tb) pre) x);refine ⟨_,Qm (Q0m (Qx (n:=3) (Q5 rfl (Q5 rfl (Q5 rfl rfl))) rfl e1)) (Q5e (p:=.ref (S.length + n + 1)) rfl (Xt P.an) (Q5 (Qx (n:=3) (Q5 rfl (Q5 rfl (Q5 rfl rfl))) rfl e2) rfl) ap),?_⟩;have er:Xi n (s0 n tb) (pre ++ [x])=Yn n (Xi n (s0 n tb) pre) x:=by rw [Qb0]; rfl
 have ea:zw n (s0 n tb) (pre ++ [x])=zw n (s0 n tb) pre ++ [Q66 (Xi n (s0 n tb) pre) x]:=by rw [Qbv]; rfl
 refine ⟨⟨fun i hi=>?_⟩,?_,?_,fun t ht=>?_,?_⟩
 ·rw [er,O5 (by omega)]; exact a1.at_ i hi
 ·rw [er,O5 (by omega)]; exact Y
 ·rw [ea,E2 hb]
 ·rw [O5 (by omega),U t (.inl ht)]; exact P.old t ht
 ·rw [D5,a4]; exact P.len
theorem Q4m {C:aA} {n:Nat} {tb:Tab} (w:Wt' n tb) (c:Ca n tb) {S:Q2} {DV:PV} {xs:List Dx} {wt:Wt} (hs:∀ st:Q2,(∀ t,t < S.length->st[t]?=S[t]?)->Xz st DV=some (xs.map Dx.V,wt)/\wOk wt st) (hl:xs.length<=1000) (ok:OkL n (s0 n tb) xs) :
  ∃ I,Kh C [Q8 tb,DV] S=.ok (.tup [.ref (S.length + n + 1),.ref (S.length + n + 2)]) I/\I.length=S.length + n + 3/\(∀ t,t < S.length->I[t]?=S[t]?)/\I[S.length + n + 1]?=some (.lst (zw n (s0 n tb) xs))/\I[S.length + n + 2]?=some (.lst ((Xi n (s0 n tb) xs).now.map Q8)):=by
 have h8:=w.n8;have Y:lim=1000000:=rfl;have e1:=Q2p w c S;have eh:=Qhf (C:=C) w c S [some (Q8 tb),some DV,none,none,none,none] rfl;have O:Yx S [Q8 tb]=.ok (.int n) S:=by simp [Q8,w.len]
 have Z:W2 (Q3 (J7 Yx (Q3 (Q4 0) Q9)) Q9) [some (Q8 tb),some DV,none,none,none,none] S=.ok (Yg 0 n,[]) S:=by
  rw [qe,Q5 (Xv (Q5 (m:=Q4 0) (p:=Q8 tb) (S1:=S) rfl (show Q9 _ S=.ok [] S from rfl)) O) (show Q9 _ S=.ok [] S from rfl),J6];show (if -(lim:Int)<=(n:Int)/\(n:Int)<=lim then _ else _)=_;rw [bJ (by rw [Y]; omega),cF]
 obtain ⟨S1,q⟩:∃ S1,S ++ h0 C n tb=S1:=⟨_,rfl⟩;rw [q] at eh;have l1:S1.length=S.length + n:=by rw [<- q,O8,Qsz]
 obtain ⟨B,j⟩:∃ B,S1 ++ [Cell.lst []] ++ [Cell.lst []]=B:=⟨_,rfl⟩;have l2:B.length=S.length + n + 2:=by rw [<- j,O8,O8,l1]; rfl
 have P0:PI C n tb S [] B:=by
  refine ⟨⟨fun i hi=>?_⟩,?_,?_,fun t ht=>?_,l2⟩
  ·rw [<- j,cH,O6 (by omega),<- q,D1 (by omega),Nat.add_sub_cancel_left,Qvn C tb hi];show _=some (Cell.obj C (hsF i ((bQ n tb).getD i []) ((bQ n tb).getD i [])));rw [Q71 hi]
  ·rw [<- j,cH,D1 (by omega),show S.length + n - S1.length=0 by omega]; rfl
  ·rw [<- j,cH,D1 (by omega),show S.length + n + 1 - S1.length=1 by omega]; rfl
  ·rw [<- j,cH,O6 (by omega),<- q,O6 ht]
 obtain ⟨G,_⟩:=hs B P0.old;obtain ⟨a4,z,ef,⟨d',rfl⟩,P⟩:=Qab (g:=Dx.V) (xs:=xs) (fun pre Γ st=>(∃ d,Γ=plG tb DV S.length n d)/\PI C n tb S pre st) (ga:=Qp 5) (body:=Q37 C) (w:=wt)
  (fun pre Γ st ⟨_,P⟩=>(hs st P.old).2)
  (fun pre x a3 Γ st hx ⟨⟨d,a2⟩,P⟩=>by
   subst a2;obtain ⟨a5,e,P2⟩:=Qr2 w (by rw [<- hx]; exact hl) (by rw [<- hx]; exact ok) P DV;exact ⟨_,rfl,_,_,e,⟨_,rfl⟩,P2⟩)
  (Γ:=plG tb DV S.length n none) (st:=B) ⟨⟨_,rfl⟩,P0⟩
 have r:=(RI.start w).run ok;obtain ⟨s,U⟩:∃ s,Xi n (s0 n tb) xs=s:=⟨_,rfl⟩;rw [U] at r ⊢;have J:=P.hs;rw [U] at J;have et:Z3 (Qp 0) Zr (Q8e C) [] (Zp [none] (plG tb DV S.length n d')) ((bV n).map fun i=>PV.ref (S.length + i)) z=.ok ((bV n).map fun i=>Q8 (s.now.getD i [])) z:=by
  refine W7 _ _ (by simp) fun i hi=>⟨_,rfl,?_⟩
  have hi:i < n:=E7.mp hi;have hS:=J.at_ i hi;exact (zy (i:=S.length + i) rfl hS (y3 (by decide +kernel) (by decide +kernel) (by decide +kernel) _ _ _) (ps:=[]) (S1:=z) rfl rfl).trans (Qih hS)
 have em:(bV n).map (fun i=>Q8 (s.now.getD i []))=s.now.map Q8:=by
  have:=Qee s.now [] Q8;rw [this,r.ln]
 rw [em] at et;have l3:=P.len;have k:Q7q C [some (Q8 tb),some DV,none,none,none,none] S=.rt (.tup [.ref (S.length + n + 1),.ref (S.length + n + 2)]) (z ++ [.lst (s.now.map Q8)]):=by
  refine Qm (Q0m (Qx (n:=1) (Q5 rfl rfl) rfl e1)) ?_;refine Qm (Γ1:=[some (Q8 tb),some DV,some (hsV S.length n),none,none,none]) (Je (Q4a (jx Z eh))) ?_;refine Qm (Γ1:=[some (Q8 tb),some DV,some (hsV S.length n),some (.ref (S.length + n)),none,none]) (S1:=S1 ++ [.lst []]) ((Je (xx (ps:=[]) (S1:=S1) rfl)).trans (by rw [l1]; rfl)) ?_;refine Qm (Γ1:=plG tb DV S.length n none) (S1:=B) ((Je (xx (ps:=[]) (S1:=S1 ++ [.lst []]) rfl)).trans (by rw [O8,l1,j]; rfl)) ?_;refine Qm (Q58 (Qf4 (p:=DV) rfl G (by rw [O2]; omega)) ef) ?_;have a:yy (Q4 2) (plG tb DV S.length n d') z=.ok ((bV n).map fun i=>PV.ref (S.length + i),[]) z:=Qf4 (p:=hsV S.length n) rfl rfl (by rw [O2,G6]; omega)
  rw [Q3v,j8 (Q5 (m:=Q4 4) (p:=.ref (S.length + n + 1)) rfl (Q5 (xx (jx a et)) rfl)) (by simp),Uc,l3]
 refine ⟨_,xq k,by rw [O8,l3]; rfl,fun t ht=>?_,?_,?_⟩
 ·rw [O6 (by omega)]; exact P.old t ht
 ·rw [O6 (by omega)]; exact P.an
 ·rw [D1 (by omega),show S.length + n + 2 - z.length=0 by omega]; rfl
theorem Qes {st st':Q2} (h:st'.length=st.length) (d:Int):fin st (.int d) st'=.ok (.int d) st':=by
 unfold fin
 by_cases q:st <+: st'
 ·rw [bJ q];have:st=st':=q.eq_of_length h.symm;rw [<- this,fz]; rfl
 ·rw [bK q]
structure Mv (L:Nat) (S S':Q2):Prop where
 len:S'.length=S.length
 keep:∀ t,t≠L->S'[t]?=S[t]?
theorem Mv.refl (L:Nat) (S:Q2):Mv L S S:=⟨rfl,fun _ _=>rfl⟩
theorem Mv.trans {L:Nat} {S S1 j:Q2} (a:Mv L S S1) (b:Mv L S1 j):Mv L S j:=⟨b.len.trans a.len,fun t q=>(b.keep t q).trans (a.keep t q)⟩
theorem Q5a {st st':Q2} (h:st'.length=st.length) {v:PV} (g:Zm 12 v=true):fin st v st'=.ok v st':=by
 unfold fin
 by_cases q:st <+: st'
 ·rw [bJ q];have:st=st':=q.eq_of_length h.symm;rw [<- this,Q6f g (by decide)]; rfl
 ·rw [bK q]
def Tp (S:Q2) (L:Nat):Prop:=∃ c:Int,S[L]?=some (.lst [.int c])
theorem Q2b {S:Q2} {L:Nat} (T:Tp S L) (m:Nat) (h1:1<=m) (J:m < 2 ^ 8000):∃ (d:Nat) (B:Q2),d < m/\Tp B L/\Mv L S B/\Qi [.ref L,.int m] S=.ok (.int d) B:=by
 obtain ⟨c,q⟩:=T;have hL:=(O1.mp q).1;have O:ListAt S (.ref L) [.int c]:=.inr (.inr ⟨L,rfl,q⟩);have G:oIx S (.ref L) (.int 0)=.ok (.int c) S:=by rw [O.ix]; rfl
 obtain ⟨d,hd,U⟩:=Qxu c h1;have I:Q14 S (.ref L) (.int 0) (.int (c / (m:Int)))=some (S.set L (.lst [.int (c / (m:Int))])):=by
  unfold Q14;simp only [q];rfl
 obtain ⟨S1,j⟩:∃ S1,S.set L (.lst [.int (c / (m:Int))])=S1:=⟨_,rfl⟩;rw [j] at I;have M:Mv L S S1:=⟨by rw [<- j,D5],fun t Z=>by rw [<- j,O5 (fun u=>Z u.symm)]⟩;refine ⟨d,S1,hd,⟨_,by rw [<- j,E2 hL]⟩,M,?_⟩;have Y:Q3q S (.int c) (.int m)=.ok (.int d) S:=by
  show (if 0 < (m:Int) then _ else _)=_;rw [bJ (by omega),U]
 have z:=Qgw S c m h1 J;have step:yf [some (.ref L),some (.int m),none] S=.rt (.int d) S1:=
  Qm (Γ1:=[some (.ref L),some (.int m),some (.int d)]) (Je (Qe (Qe rfl rfl G) rfl Y)) (Qm (Q6x (Qe (Qe rfl rfl G) rfl z) rfl rfl I) rfl)
 exact (Yw step).trans (Qes M.len d)
theorem Qex {m:Nat} (h:m < 10 ^ 100):m < 2 ^ 8000:=D3 h (F1 (Nat.pow_le_pow_left (show 10<=2 ^ 4 by decide) 100) (by rw [<- Nat.pow_mul]; exact gW (by decide) (by decide)))
theorem W6 {S:Q2} {L:Nat} (T:Tp S L) (m:Nat) (h1:1<=m) (q:m < 100):∃ (d:Nat) (j:Q2),d < m/\Tp j L/\Mv L S j/\Qi [.ref L,.int m] S=.ok (.int d) j:=Q2b T m h1 (Qex (D3 q (by decide)))
theorem Qdm (ns:List Int) (k:Nat) (S:Q2):∃ c:Int,Wb [.fro (ns.map .int),.int k] S=.ok (.ref S.length) (S ++ [.lst [.int c]]):=by
 obtain ⟨c,U⟩:∃ c:Int,Uz [.fro (ns.map .int),.int k] S=.ok (.int c) S:=by
  by_cases q:k < ns.length
  ·have e:atI (ns.map PV.int) (k:Int)=some (.int (ns.getD k 0)):=by rw [qr,Sm.atI_get (getD_some q 0)]; rfl
   have I:(ns.map PV.int).length=ns.length:=O2 _;refine ⟨ns.getD k 0,?_⟩;generalize ns.getD k 0=x at *;generalize ns.length=nl at *;generalize ns.map PV.int=B at *;simp -implicitDefEqProofs [Uz,Qs,jp,I,q,e]
  ·have I:(ns.map PV.int).length=ns.length:=O2 _;have q':¬ (k:Int) < (ns.length:Int):=by omega
   refine ⟨0,?_⟩;generalize ns.length=nl at *;generalize ns.map PV.int=B at *;simp -implicitDefEqProofs [Uz,Qs,jp,I,q,q']
 by_cases q:c % 2=0
 ·refine ⟨c / 2,?_⟩;generalize ns.map PV.int=B at *;simp -implicitDefEqProofs [Wb,Yr,jm,U,q,Zk]
 ·obtain ⟨O,j⟩:∃ O:Int,(c % 2305843009213693951 * 48271 + 69621 * k + 11) % 2305843009213693951=O:=⟨_,rfl⟩;have G:=Q6h (c % 2305843009213693951 * 48271 + 69621 * k + 11) (b:=2305843009213693951) (by decide);rw [j] at G;obtain ⟨Z,S1,e,x,y,z,rfl,rfl,_⟩:=Q1p (g:=fun k:Nat=>PV.int (k:Int)) (xs:=bV 5) (ga:=Qp 6) (body:=zr) (w:=[]) (Γ:=[some (.fro (ns.map .int)),some (.int k),some (.int c),some (.int 2305843009213693951),some (.int 0),some (.int O),none]) (st:=S)
   (fun _ Γ st'=>∃ (x y:Int) (z:Option PV),Γ=[some (.fro (ns.map .int)),some (.int k),some (.int c),some (.int 2305843009213693951),some (.int x),some (.int y),z]/\st'=S/\0<=y/\y < 2305843009213693951)
   (fun _ _ _ _=>by simp)
   (fun i t Γ st' hx ⟨x,y,z,e1,e2,y1,y2⟩=>by
    subst e1; subst e2;obtain ⟨w,Y⟩:∃ w:Int,(y * y + 40692 * k + t) % 2305843009213693951=w:=⟨_,rfl⟩;have J:=Q6h (y * y + 40692 * k + t) (b:=2305843009213693951) (by decide);rw [Y] at J;have yb:-18446744073709551616 < y/\y < 18446744073709551616:=by omega
    refine ⟨_,rfl,[some (.fro (ns.map .int)),some (.int k),some (.int c),some (.int 2305843009213693951),some (.int (x * 2305843009213693951 + y)),some (.int w),some (.int t)],st',?_,_,_,_,rfl,rfl,J.1,J.2⟩;generalize ns.map PV.int=B at *;simp -implicitDefEqProofs [zr,yb,Y])
   ⟨_,_,_,rfl,rfl,G.1,G.2⟩
  rw [<- K2] at e;refine ⟨x,?_⟩;generalize ns.map PV.int=B at *;simp -implicitDefEqProofs [Wb,Yr,jm,U,q,Zk,j,e]
theorem Q38 {n h:Nat} {tb:Tab} (z:Sz n tb) (hn:n<=100) (G:h < n) (st:Q2):Zn [Q8 tb,.int h] st=.ok (.int (Qt tb h)) st:=by
 have O:Z3 (Qp 0) Zr xm [] (Zp [none,some 1,some 0] [some (Q8 tb),some (.int h),none]) (Yg 0 n) st=.ok ((bV n).map fun j=>.int (ent tb j h)) st:=by
  rw [K2];refine W7 _ _ (by simp) fun j B=>⟨_,rfl,?_⟩
  have B:=E7.mp B;have c:=Q0r z B (E8 G) st;exact Qe (Qe rfl rfl c.1) rfl c.2
 obtain ⟨U,Z⟩:=Q0r z G (E8 G) st;have J:Z3 (Qp 0) Zr xk [] (Zp [none] [some (Q8 tb),some (.int h),some (.int (Wq n fun j=>ent tb j h))]) ((tb.getD h []).map .int) st=.ok ((tb.getD h []).map .int) st:=W7 _ _ (by simp) fun j B=>⟨_,rfl,rfl⟩
 have q:Yx st [Q8 tb]=.ok (.int n) st:=by simp [Q8,z.1]
 have I:W2 (Q3 (J7 Yx (Q3 (Q4 0) Q9)) Q9) [some (Q8 tb),some (.int h),none] st=.ok (Yg 0 n,[]) st:=by
  rw [qe,Q5 (Xv (Q5 (m:=Q4 0) (p:=Q8 tb) (S1:=st) rfl (show Q9 _ st=.ok [] st from rfl)) q) (show Q9 _ st=.ok [] st from rfl),J6];show (if -(lim:Int)<=(n:Int)/\(n:Int)<=lim then _ else _)=_;rw [bJ (by rw [Zk]; omega),cF]
 have s1:Kg (fun ns=>some (.int ns.sum)) st [.lst ((bV n).map fun j=>.int (ent tb j h))]=.ok (.int (Wq n fun j=>ent tb j h)) st:=by
  rw [Qhx]; rfl
 have s2:Kg (fun ns=>some (.int ns.sum)) st [.lst ((tb.getD h []).map .int)]=.ok (.int (tb.getD h []).sum) st:=by simp
 have sr:Xz st (J0 (tb.getD h []))=some ((tb.getD h []).map .int,[]):=rfl;have Y:((tb.getD h []).map PV.int).length<=1000000:=by rw [O2,(z.row G).2]; omega
 have step:zh [some (Q8 tb),some (.int h),none] st=.rt (.int (Qt tb h)) st:=by
  refine Qm (Γ1:=[some (Q8 tb),some (.int h),some (.int (Wq n fun j=>ent tb j h))]) (Je (Xv (Q5 (Q4a (jx I O)) rfl) s1)) ?_;rw [Q3v,Qe (Qe rfl (Xv (Q5 (Q4a (jx (Qf4 (Qe rfl rfl U) sr Y) J)) rfl) s2) rfl) (Qe (Qe rfl rfl U) rfl Z) rfl,Uc];unfold Qt;rw [z.1];congr 2;omega
 exact (Yw step).trans (Qfu st _)
theorem zq {a b:ME} {Γ:Gam} {S S1 j:Q2} {x y:PV} {r:Res PV} (h1:a Γ S=.ok x S1) (h2:b Γ S1=.ok y j) (q:Q5m j x y=r):Wx a b Γ S=r:=by unfold Wx; rw [h1,J6,h2,J6,q]
theorem Qdq {a b:MT} {Γ:Gam} {S S1:Q2} {r:Res Bool} (h:a Γ S=.ok true S1) (h2:b Γ S1=r):Q0t a b Γ S=r:=by rw [Qc1,h]; exact h2
theorem Qm7 {a b:MT} {Γ:Gam} {S S1:Q2} (h:a Γ S=.ok false S1):Q0t a b Γ S=.ok false S1:=by rw [Qc1,h]; rfl
theorem X0 {m:ME} {Γ:Gam} {S S1:Q2} {v:PV} (h:m Γ S=.ok v S1):Js m Γ S=.rt v S1:=by rw [Q3v,h]; rfl
theorem Q8b (S:Q2) {a b:Int} (h:a=b):oEq S (.int a) (.int b)=.ok (.bl true) S:=by simp [h]
theorem Q8c (S:Q2) {a b:Int} (h:¬ a=b):oEq S (.int a) (.int b)=.ok (.bl false) S:=by simp [h]
theorem Q7w (S:Q2) {a b:Int} (h:a < b):oLt S (.int a) (.int b)=.ok (.bl true) S:=by simp [h]
theorem Qa8 (S:Q2) {a b:Int} (h:¬ a < b):oLt S (.int a) (.int b)=.ok (.bl false) S:=by
 have:oLt S (.int a) (.int b)=.ok (.bl (decide (a < b))) S:=by simp
 rw [this,bL h]
theorem Qqq (S:Q2) {a b:Int} (h:b < a):(oI fun a b=>.bl (decide (b < a))) S (.int a) (.int b)=.ok (.bl true) S:=by
 show Res.ok (PV.bl (decide (b < a))) S=_; rw [bN h]
theorem Qqr (S:Q2) {a b:Int} (h:¬ b < a):(oI fun a b=>.bl (decide (b < a))) S (.int a) (.int b)=.ok (.bl false) S:=by
 show Res.ok (PV.bl (decide (b < a))) S=_; rw [bL h]
theorem Qsh (S:Q2) {a b:Int} (h:0 < b):Q3q S (.int a) (.int b)=.ok (.int (a % b)) S:=by
 show (if 0 < b then _ else _)=_; rw [bJ h]
theorem Q67 (S:Q2) (a b:Int):Ww S (.int a) (.int b)=.ok (.int (a + b)) S:=by simp
theorem Qmk (S:Q2) (a b:Int):(oI fun a b=>.int (a - b)) S (.int a) (.int b)=.ok (.int (a - b)) S:=rfl
theorem Q0s {n i j:Nat} {tb:List (List Int)} (z:Sz n tb) (hn:n<=100) (hi:i < n) (G:j<=n) (k:Int) (st:Q2):Y6 [Q8 tb,.int i,.int j,.int k] st=.ok (Q8 (Ks tb i j (ent tb i j + k))) st:=by
 have Z:=Q0r z hi G st;have q:=(z.row hi).2;have g1:J0 ((tb.getD i []).set j (ent tb i j + k))=.tup (((tb.getD i []).take j).map .int ++ [.int (ent tb i j + k)] ++ ((tb.getD i []).drop (j + 1)).map .int):=by
  unfold J0;rw [<- Q69 _ _ _ (by omega),F3,F3]; rfl
 have g2:Q8 (Ks tb i j (ent tb i j + k))=.tup ((tb.take i).map J0 ++ [J0 ((tb.getD i []).set j (ent tb i j + k))] ++ (tb.drop (i + 1)).map J0):=by
  unfold Q8 Ks;rw [<- Q69 _ _ _ (by rw [z.1]; exact hi),F3,F3]; rfl
 have U:cut ((tb.getD i []).map PV.int) none (some (j:Int))=((tb.getD i []).take j).map .int:=by rw [y4,Q28]
 have c4:cut ((tb.getD i []).map PV.int) (some ((j:Int) + 1)) none=((tb.getD i []).drop (j + 1)).map .int:=by rw [y4]; exact congrArg _ (Q1q _ (j + 1))
 have c5:cut (tb.map J0) none (some (i:Int))=(tb.take i).map J0:=by rw [y4,Q28]
 have c6:cut (tb.map J0) (some ((i:Int) + 1)) none=(tb.drop (i + 1)).map J0:=by rw [y4]; exact congrArg _ (Q1q _ (i + 1))
 have l3:(((tb.getD i []).take j).map PV.int).length=j:=by rw [O2,cO,q]; omega
 have I:(((tb.getD i []).drop (j + 1)).map PV.int).length=n - j:=by rw [O2,cR,q]; omega
 have l5:((tb.take i).map J0).length=i:=by rw [O2,cO,z.1]; omega
 have Y:((tb.drop (i + 1)).map J0).length=n - (i + 1):=by rw [O2,cR,z.1]
 have J:j + 1<=1000000:=by omega
 have O:j + 1 + (n - j)<=1000000:=by omega
 have b3:i + 1<=1000000:=by omega
 have b4:i + 1 + (n - (i + 1))<=1000000:=by omega
 have B:fin st (Q8 (Ks tb i j (ent tb i j + k))) st=.ok (Q8 (Ks tb i j (ent tb i j + k))) st:=Ue (by simp [Zm,Q8,J0]);obtain ⟨c1,c2⟩:=Z;have q1:oSl st (J0 (tb.getD i [])) none (some (j:Int))=.ok (.tup (((tb.getD i []).take j).map .int)) st:=by unfold J0; rw [zx,U]
 have q2:oSl st (J0 (tb.getD i [])) (some ((j:Int) + 1)) none=.ok (.tup (((tb.getD i []).drop (j + 1)).map .int)) st:=by unfold J0; rw [zx,c4]
 have q3:oSl st (Q8 tb) none (some (i:Int))=.ok (.tup ((tb.take i).map J0)) st:=by unfold Q8; rw [zx,c5]
 have q4:oSl st (Q8 tb) (some ((i:Int) + 1)) none=.ok (.tup ((tb.drop (i + 1)).map J0)) st:=by unfold Q8; rw [zx,c6]
 rw [g2] at B ⊢;rw [g1] at B ⊢;generalize ent tb i j=x at *;generalize ((tb.getD i []).take j).map PV.int=v3 at *;generalize ((tb.getD i []).drop (j + 1)).map PV.int=v4 at *;generalize (tb.take i).map J0=v5 at *;generalize (tb.drop (i + 1)).map J0=v6 at *;generalize J0 (tb.getD i [])=rv at *;generalize Q8 tb=T at *;simp -implicitDefEqProofs at B;simp -implicitDefEqProofs [Y6,Qs,zi,c1,c2,q1,q2,q3,q4,Zk,l3,I,l5,Y,J,O,b3,b4,B]
theorem Qjp (st:Q2) (xs:List PV) (b:Int):Q61 st (.lst xs) (.int b)=if -(2 ^ 63)<=b/\b < 2 ^ 63/\xs.length * b.toNat<=lim then .ok (.lst (bQ b.toNat xs).flatten) st else .stuck:=rfl
theorem Qud {α:Type} (x:α):∀ n,(bQ n [x]).flatten=bQ n x
 | 0=>rfl
 | n + 1=>by rw [cG,cS,Qud x n]; rfl
theorem Qbt {mr:ML} {Γ:Gam} {S S1:Q2} {ps:List PV} (h:mr Γ S=.ok ps S1) (j:ps.length<=1000000:=by decide):Q3x mr Γ S=.ok (.lst ps) S1:=by
 unfold Q3x;rw [h,J6];exact bJ j
theorem Qm9 {n:Nat} (hn:n<=8) (S:Q2):jz [.int n] S=.ok (Q8 (bQ n (qt n))) S:=by
 have G:((n:Int) + 1).toNat=n + 1:=by omega
 have Y:zp [some (.int 0),some (.int n)] S=.ok (J0 (qt n)) S:=by
  have:J0 (qt n)=.tup (bQ (n + 1) (.int 0)):=by simp [J0,qt]
  rw [this];have U:Q61 S (.lst [.int 0]) (.int ((n:Int) + 1))=.ok (.lst (bQ (n + 1) (.int 0))) S:=by
   rw [Qjp,bJ ⟨by omega,by omega,by rw [Zk,G]; simp; omega⟩,G,Qud]
  exact Xv (Q5 (Qe (Qbt rfl) (Qe rfl rfl (Q67 S _ _)) U) rfl) rfl
 have B:Z3 (Qp 0) Zr zp [] (Zp [none,some 0] [some (.int n)]) (Yg 0 n) S=.ok ((bV n).map fun _=>J0 (qt n)) S:=by
  rw [K2];refine W7 _ _ (by simp) fun j Z=>⟨_,rfl,?_⟩
  exact Y
 have J:((bV n).map fun _=>J0 (qt n))=(bQ n (qt n)).map J0:=by
  rw [fE];exact fF.mpr ⟨by simp,fun b O=>by obtain ⟨_,_,rfl⟩:=cr.mp O; rfl⟩
 rw [J] at B;have z:W2 (Q3 (Q4 0) Q9) [some (.int n)] S=.ok (Yg 0 n,[]) S:=by
  rw [qe,Q5 (m:=Q4 0) (p:=.int n) (S1:=S) rfl (show Q9 _ S=.ok [] S from rfl),J6];show (if -(lim:Int)<=(n:Int)/\(n:Int)<=lim then _ else _)=_;rw [bJ (by rw [Zk]; omega),cF]
 have ct:Xm S [.lst ((bQ n (qt n)).map J0)]=.ok (Q8 (bQ n (qt n))) S:=by
  have I:((bQ n (qt n)).map J0).length<=1000000:=by simp; omega
  unfold Q8;generalize (bQ n (qt n)).map J0=q at *;simp [Zk,I]
 have step:Q0g [some (.int n)] S=.rt (Q8 (bQ n (qt n))) S:=X0 (Xv (Q5 (Q4a (jx z B)) rfl) ct);exact (Yw step).trans (Qbg S _)
theorem Qf0 {a b:Tab} (h:a.length=b.length) (hl:a.length<=1000) (hr:∀ r∈a,r.length<=1000) (S:Q2):Kk [Q8 a,Q8 b] S=.ok (Q8 (Vc a b)) S:=by
 obtain ⟨a3,S',e,⟨Z,c4,rfl⟩,rfl⟩:=Qab (g:=fun z:List Int × List Int=>PV.tup [J0 z.1,J0 z.2]) (xs:=a.zip b)
  (fun pre Γ st=>(∃ Z c4,Γ=[some (Q8 a),some (Q8 b),some (.ref S.length),Z,c4])/\st=S ++ [.lst (pre.map fun z=>J0 (Vp z.1 z.2))])
  (ga:=qx (Y0 (Qp 3) (Y0 (Qp 4) qy))) (body:=xt) (w:=[]) (fun _ _ _ _=>by simp)
  (fun pre z a2 Γ st hx ⟨⟨Z,c4,Y⟩,j⟩=>by
   subst Y; subst j;have hz:z∈a.zip b:=by rw [hx]; simp
   have a4:pre.length<=1000:=by
    have:=congrArg eK hx;rw [db,O8,D8,<- h,eu] at this;omega
   have I:z.1.length<=lim:=by have:=hr _ (cZ hz).1; rw [Zk]; omega
   obtain ⟨st,j⟩:∃ st,S ++ [Cell.lst (pre.map fun z=>J0 (Vp z.1 z.2))]=st:=⟨_,rfl⟩
   have gt:st[S.length]?=some (.lst (pre.map fun z=>J0 (Vp z.1 z.2))):=by rw [<- j]; simp
   rw [j];have hc:Z3 (qx (Y0 (Qp 0) (Y0 (Qp 1) qy))) Zr qi [] (Zp [none,none] [some (Q8 a),some (Q8 b),some (.ref S.length),some (J0 z.1),some (J0 z.2)]) ((z.1.zip z.2).map fun z=>.tup [.int z.1,.int z.2]) st=.ok ((z.1.zip z.2).map fun z=>.int (Lw.maxI z.1 z.2)) st:=by
    refine W7 _ _ (by simp) fun u hu=>⟨_,rfl,?_⟩
    simp [Zp,qi,Lw.maxI]
   have O:((z.1.zip z.2).map fun z=>PV.int (Lw.maxI z.1 z.2))=(Vp z.1 z.2).map .int:=by unfold Vp; rw [bt]; rfl
   rw [O] at hc;have B:Q63 (Q3 (Q4 3) (Q3 (Q4 4) Q9)) [some (Q8 a),some (Q8 b),some (.ref S.length),some (J0 z.1),some (J0 z.2)] st=.ok ((z.1.zip z.2).map fun z=>.tup [.int z.1,.int z.2],[]) st:=by
    have G:=I;rw [Zk] at G;unfold J0;simp [Q10,I,G,Zk]
   have J:((Vp z.1 z.2).map PV.int).length<=1000000:=by
    unfold Vp;rw [O2,O2,db];have:=gJ z.1.length z.2.length;rw [Zk] at I;omega
   have ct:Xm st [.lst ((Vp z.1 z.2).map .int)]=.ok (J0 (Vp z.1 z.2)) st:=by
    unfold J0;generalize (Vp z.1 z.2).map PV.int=q at *;simp [Zk,J]
   have ap:=Q2a gt (by rw [O2]; omega) (J0 (Vp z.1 z.2));refine ⟨_,rfl,_,_,Q5e (p:=.ref S.length) rfl (Xt gt) (Q5 (Xv (Q5 (Q4a (jx B hc)) rfl) ct) rfl) ap,⟨_,_,rfl⟩,?_⟩;rw [<- j,F3];simp)
  (Γ:=[some (Q8 a),some (Q8 b),some (.ref S.length),none,none]) (st:=S ++ [.lst []]) ⟨⟨_,_,rfl⟩,rfl⟩
 have O:((a.zip b).map fun z=>J0 (Vp z.1 z.2))=(Vc a b).map J0:=by unfold Vc; rw [bt]; rfl
 rw [O] at e;have J:((Vc a b).map J0).length<=1000000:=by
  unfold Vc;rw [O2,O2,db,<- h,eu];omega
 obtain ⟨st,j⟩:∃ st,S ++ [Cell.lst ((Vc a b).map J0)]=st:=⟨_,rfl⟩;have gt:ListAt st (.ref S.length) ((Vc a b).map J0):=.inr (.inr ⟨_,rfl,by rw [<- j]; simp⟩);have B:Q63 (Q3 (Q4 0) (Q3 (Q4 1) Q9)) [some (Q8 a),some (Q8 b),some (.ref S.length),none,none] (S ++ [.lst []])=.ok ((a.zip b).map fun z=>.tup [J0 z.1,J0 z.2],[]) (S ++ [.lst []]):=by
  have U:a.length<=1000000:=by omega
  unfold Q8;simp [Q10,U,Zk]
 have ct:Xm st [.ref S.length]=.ok (Q8 (Vc a b)) st:=by
  have z:st[S.length]?=some (.lst ((Vc a b).map J0)):=by rw [<- j]; simp
  show (match K1 st (.ref S.length) with | some xs=>Res.ok (PV.tup xs) st | none=>.stuck)=_
  rw [show K1 st (.ref S.length)=some ((Vc a b).map J0) from Xt z]; rfl
 rw [j] at e;have step:zk [some (Q8 a),some (Q8 b),none,none,none] S=.rt (Q8 (Vc a b)) st:=
  Qm (Γ1:=[some (Q8 a),some (Q8 b),some (.ref S.length),none,none]) (S1:=S ++ [.lst []]) (Je (xx (ps:=[]) rfl)) (Qm (Q58 B e) (X0 (Xv (Q5 rfl rfl) ct)))
 refine (Yw step).trans ?_;rw [<- j];exact Q5b (by simp [Zm,Q8,J0])
def bM (t:Nat):Int:=10 ^ (21 + t)
theorem Q48 (t:Nat):bM (t + 1)=10 * bM t:=by
 unfold bM;rw [show 21 + (t + 1)=(21 + t) + 1 by omega,Int.pow_succ];omega
theorem Q8p:∀ t,1000000000000000000000<=bM t
 | 0=>by decide
 | t + 1=>by have:=Q8p t; rw [Q48]; omega
theorem Qqv {t:Nat} (h:t<=60):8 * bM t + 2 < 10 ^ 100:=by
 have h1:bM t<=10 ^ 90:=by
  unfold bM
  exact_mod_cast gW (n:=10) (by decide) (show 21 + t<=90 by omega)
 have h2:(8:Int) * 10 ^ 90 + 2 < 10 ^ 100:=by decide +kernel
 omega
structure Bd (n:Nat) (M:Int) (tb:Tab):Prop where
 le:∀ i j,i < n->j<=n->ent tb i j<=M
theorem Qmg {n:Nat} {f:Nat->Int} {M:Int} (h:∀ o,o < n->f o<=M):Wq n f<=n * M:=by
 induction n with
 | zero=>simp [Wq]
 | succ n j=>
  rw [Jr];have h1:=j fun o q=>h o (by omega)
  have h2:=h n (by omega);have:((n + 1:Nat):Int) * M=n * M + M:=by push_cast; rw [Int.add_mul,Int.one_mul]
  omega
theorem Qmf {n:Nat} {f:Nat->Int} (h:∀ o,o < n->0<=f o):0<=Wq n f:=by
 induction n with
 | zero=>simp [Wq]
 | succ n j=>
  rw [Jr];have h1:=j fun o q=>h o (by omega)
  have h2:=h n (by omega);omega
theorem Qie {n:Nat} {f:Nat->Int} (h:∀ o,o < n->0<=f o) {k:Nat} (G:k < n):f k<=Wq n f:=by
 induction n with
 | zero=>omega
 | succ n j=>
  rw [Jr];have h2:=h n (by omega);have B:=Qmf (n:=n) fun o z=>h o (by omega)
  by_cases q:k=n
  ·subst q; omega
  ·have h1:=j (fun o z=>h o (by omega)) (by omega)
   omega
theorem Q4j {n h:Nat} {tb:Tab} (w:Wt' n tb) {M:Int} (b:Bd n M tb) (B:0<=M) (q:h < n):Qt tb h<=8 * M:=by
 rw [zf w.sz q];have h1:=Qmg (n:=n) (f:=fun o=>ent tb o h) fun o z=>b.le o h z (E8 q)
 have h2:=Qie (n:=n) (f:=fun j=>ent tb h j) (fun o z=>w.ent_nn q (E8 z)) q
 have G:=w.ent_nn q (O7 n);have I:(n:Int) * M<=8 * M:=Int.mul_le_mul_of_nonneg_right (by have:=w.n8; omega) B;have h2:ent tb h h<=Wq n fun j=>ent tb h j:=h2
 omega
theorem Bd.put {n:Nat} {tb:Tab} (w:Wt' n tb) {M:Int} (b:Bd n M tb) {d:Dd} (o:d.ok n) {K:Int} (B:M + d.k<=K):Bd n K (d.put n tb):=by
 refine ⟨fun i j hi q=>?_⟩;unfold Dd.put;rw [Q0n w.sz (Dd.ok_h o) (Dd.ok_pl o)];have h1:=b.le i j hi q;have h2:=Dd.ok_k o;have z:=b.le d.h (d.pl n) (Dd.ok_h o) (Dd.ok_pl o)
 split <;> omega
theorem Bd.up {n:Nat} {tb:Tab} {M K:Int} (b:Bd n M tb) (h:M<=K):Bd n K tb:=⟨fun i j hi q=>bu (b.le i j hi q) h⟩
theorem Qt3 {n:Nat} {tb:Tab} (w:Wt' n tb) (c:Ca n tb) {d:Dd} (o:d.ok n) (G:d.isM=false->d.k<=Qt tb d.h):Wt' n (d.put n tb)/\Ca n (d.put n tb):=by
 have z:=Dd.ok_h o;have j:=Dd.ok_k o;have B:Wt' n (d.put n tb):=Qix w o;refine ⟨B,?_⟩;cases d with
 | mk h k=>exact Ca.make w c z (by have:(1:Int)<=k:=j; omega) B
 | ld h q k=>
  have h1:k<=Qt tb h:=G rfl;have j:(1:Int)<=k:=j;exact Ca.give w c z (E8 o.2.1) o.2.2.1 (by omega) h1 (bu j h1) B
 | us h k=>
  have h1:k<=Qt tb h:=G rfl;have j:(1:Int)<=k:=j;have z:h < n:=z;exact Ca.give w c z (O7 n) (by omega) (by omega) h1 (bu j h1) B
theorem Qdr {S:Q2} {L:Nat} (T:Tp S L):∃ (k:Int) (z:Q2),(1<=k/\k<=100000000000000000000)/\Tp z L/\Mv L S z/\Vi [.ref L] S=.ok (.int k) z:=by
 obtain ⟨d,S1,hd,B,M1,e1⟩:=W6 T 12 (by decide) (by decide);have e1:Qi [.ref L,.int 12] S=.ok (.int d) S1:=e1
 by_cases q:d=11
 ·obtain ⟨x,j,I,G,M2,e2⟩:=W6 B 3 (by decide) (by decide);have e2:Qi [.ref L,.int 3] S1=.ok (.int x) j:=e2;have M:=M1.trans M2;have hp:Qjn S1 (.int 10) (.int 20)=.ok (.int 100000000000000000000) S1:=by
   rw [Qjm,bJ (by decide)]; rfl
  have step:jn [some (.ref L),none] S=.rt (.int (100000000000000000000 - (x:Int))) j:=
   Qm (Γ1:=[some (.ref L),some (.int d)]) (Je (Qx (n:=2) (Q5 rfl (Q5 rfl rfl)) rfl e1)) (ze (xg (J5 (Qe rfl rfl (Q8b S1 (by omega)))) (X0 (Qe (Qe rfl rfl hp) (Qx (n:=2) (Q5 rfl (Q5 rfl rfl)) rfl e2) (Qmk j _ _)))))
  exact ⟨_,j,by omega,G,M,(Yw step).trans (Qes M.len _)⟩
 ·have b:=Q6h (d:Int) (b:=7) (by decide);have step:jn [some (.ref L),none] S=.rt (.int (1 + (d:Int) % 7)) S1:=
   Qm (Γ1:=[some (.ref L),some (.int d)]) (Je (Qx (n:=2) (Q5 rfl (Q5 rfl rfl)) rfl e1)) (Qm (Vd (J5 (Qe rfl rfl (Q8c S1 (by omega)))) rfl) (X0 (Qe rfl (Qe rfl rfl (Qsh S1 (by decide))) (Q67 S1 _ _))))
  exact ⟨_,S1,by omega,B,M1,(Yw step).trans (Qes M1.len _)⟩
theorem Qff {n i y:Nat} (hi:i < n) (j:y < n - 1):∃ q:Nat,((i:Int) + 1 + (y:Int)) % (n:Int)=(q:Int)/\q < n/\q≠i:=by
 by_cases h:i + 1 + y < n
 ·exact ⟨i + 1 + y,by rw [gX (by omega) (by omega)]; omega,h,by omega⟩
 ·refine ⟨i + 1 + y - n,?_,by omega,by omega⟩;have e:((i:Int) + 1 + (y:Int))=((i + 1 + y - n:Nat):Int) + (n:Int):=by omega
  rw [e,Int.add_emod_right,gX (by omega) (by omega)]
abbrev tbG (L n m:Nat) (tb:Tab) (c4 c5 c6 c7 c8:Option PV):Gam:=[some (.ref L),some (.int n),some (.int m),some (Q8 tb),c4,c5,c6,c7,c8]
structure TbI (n:Nat) (t:Nat) (tb:Tab):Prop where
 w:Wt' n tb
 c:Ca n tb
 b:Bd n (bM t) tb
theorem TbI.put {n t:Nat} {tb:Tab} (I:TbI n t tb) {d:Dd} (o:d.ok n) (j:d.isM=false->d.k<=Qt tb d.h) (z:d.isM=true->d.k<=100000000000000000000):TbI n (t + 1) (d.put n tb):=by
 have h:=Qt3 I.w I.c o j;refine ⟨h.1,h.2,I.b.put I.w o ?_⟩;have g:=Q8p t;rw [Q48];cases q:d.isM with
 | true=>have:=z q; omega
 | false=>
  have h1:=j q;have h2:=Q4j I.w I.b (by omega) (Dd.ok_h o);omega
theorem Qdn {S:Q2} {L n m t:Nat} {tb:Tab} (T:Tp S L) (I:TbI n t tb) (ht:t<=20) (G c5 c6 Z J:Option PV):∃ (a2:Tab) (S':Q2) (d5 d6 d7 d8:Option PV),TbI n (t + 1) a2/\Tp S' L/\Mv L S S'/\jf (tbG L n m tb G c5 c6 Z J) S=.nx (tbG L n m a2 G d5 d6 d7 d8) S':=by
 have w:=I.w;have h1:=w.n1;have h8:=w.n8;obtain ⟨i,S1,hi,T1,M1,e1⟩:=W6 T n h1 (by omega);obtain ⟨y,B,hy,T2,M2,e2⟩:=W6 T1 4 (by decide) (by decide);have e2:Qi [.ref L,.int 4] S1=.ok (.int y) B:=e2;have e3:=Q38 w.sz (by omega) hi B;obtain ⟨r,hr⟩:∃ r:Nat,Qt tb i=(r:Int):=⟨(Qt tb i).toNat,by have:=I.c.nn i hi; omega⟩;rw [hr] at e3;have Y:=M1.trans M2;have k1:Jh 5 (Qf 2 Qi (Q3 (Q4 0) (Q3 (Q4 1) Q9))) (tbG L n m tb G c5 c6 Z J) S=.nx (tbG L n m tb G (some (.int i)) c6 Z J) S1:=Je (Qx (n:=2) (Q5 rfl (Q5 rfl rfl)) rfl e1);have k2:Jh 6 (Qf 2 Qi (Q3 (Q4 0) (Q3 (mC (.int 4)) Q9))) (tbG L n m tb G (some (.int i)) c6 Z J) S1=.nx (tbG L n m tb G (some (.int i)) (some (.int y)) Z J) B:=Je (Qx (n:=2) (Q5 rfl (Q5 rfl rfl)) rfl e2);have k3:Jh 7 (Qf 2 Zn (Q3 (Q4 3) (Q3 (Q4 5) Q9))) (tbG L n m tb G (some (.int i)) (some (.int y)) Z J) B=.nx (tbG L n m tb G (some (.int i)) (some (.int y)) (some (.int r)) J) B:=Je (Qx (n:=2) (Q5 rfl (Q5 rfl rfl)) rfl e3)
 have a6:=Q4j w I.b (by have:=Q8p t; omega) hi;have a7:=Qqv (t:=t) (by omega);have a3:r < 2 ^ 8000:=Qex (by
  have:(r:Int) < 10 ^ 100:=by omega
  exact_mod_cast this)
 by_cases q:y < 2\/r=0
 ·obtain ⟨k,U,hk,T3,M3,e4⟩:=Qdr T2;have o:(Dd.mk i k).ok n:=⟨hi,hk.1⟩;have e5:=Q0s w.sz (by omega) hi (E8 hi) k U;refine ⟨_,U,_,_,_,_,I.put o (fun z=>by cases z) (fun _=>hk.2),T3,Y.trans M3,Qm k1 (Qm k2 (Qm k3 (xg ?_ (Je (Qx (n:=4) (Q5 rfl (Q5 rfl (Q5 rfl (Q5 (Qx (n:=1) (Q5 rfl rfl) rfl e4) rfl)))) rfl e5)))))⟩
  by_cases q1:y < 2
  ·exact Quz (J5 (Qe rfl rfl (Q7w B (by omega))))
  ·exact Qb4 (J5 (Qe rfl rfl (Qa8 B (by omega)))) (J5 (Qe rfl rfl (Q8b B (by omega))))
 ·have a4:1<=r:=by omega
  have t1:Q11 (toB (mOp oLt (Q4 6) (mC (.int 2)))) (toB (mOp oEq (Q4 7) (mC (.int 0)))) (tbG L n m tb G (some (.int i)) (some (.int y)) (some (.int r)) J) B=.ok false B:=Qb4 (J5 (Qe rfl rfl (Qa8 B (by omega)))) (J5 (Qe rfl rfl (Q8c B (by omega))))
  by_cases q2:y=2/\1 < n
  ·obtain ⟨z,U,hz,T3,M3,e4⟩:=W6 T2 (n - 1) (by omega) (by omega);have e4:Qi [.ref L,.int ((n:Int) - 1)] B=.ok (.int z) U:=by rw [show ((n:Int) - 1)=((n - 1:Nat):Int) by omega]; exact e4
   obtain ⟨j,ej,hj,a5⟩:=Qff hi hz;obtain ⟨x,O,hx,T4,M4,e5⟩:=Q2b T3 r a4 a3;have o:(Dd.ld i j (1 + (x:Int))).ok n:=⟨hi,hj,a5,by omega⟩;have e6:=Q0s w.sz (by omega) hi (E8 hj) (1 + (x:Int)) O;refine ⟨_,O,_,_,_,_,I.put o (fun _=>?_) (fun z=>by cases z),T4,(Y.trans M3).trans M4,Qm k1 (Qm k2 (Qm k3 (Vd t1 (xg (Qdq (J5 (Qe rfl rfl (Q8b B (by omega)))) (J5 (Qe rfl rfl (Qqq B (by omega))))) (Qm (Γ1:=tbG L n m tb G (some (.int i)) (some (.int y)) (some (.int r)) (some (.int j))) (S1:=U) (Je (Qe (Qe (Qe rfl rfl (Q67 B _ _)) (Qx (n:=2) (Q5 rfl (Q5 (Qe rfl rfl (Qmk B _ _)) rfl)) rfl e4) (Q67 U _ _)) rfl ?_)) (Je (Qx (n:=4) (Q5 rfl (Q5 rfl (Q5 rfl (Q5 (Qe rfl (Qx (n:=2) (Q5 rfl (Q5 rfl rfl)) rfl e5) (Q67 O _ _)) rfl)))) rfl e6)))))))⟩
   ·show 1 + (x:Int)<=Qt tb i;rw [hr]; omega
   ·rw [Qsh U (by omega),ej]
  ·obtain ⟨x,O,hx,T4,M4,e5⟩:=Q2b T2 r a4 a3;have o:(Dd.us i (1 + (x:Int))).ok n:=⟨hi,by omega⟩;have e6:=Q0s w.sz (by omega) hi (O7 n) (1 + (x:Int)) O;have t2:Q0t (toB (mOp oEq (Q4 6) (mC (.int 2)))) (toB (mOp (oI fun a b=>.bl (decide (b < a))) (Q4 1) (mC (.int 1)))) (tbG L n m tb G (some (.int i)) (some (.int y)) (some (.int r)) J) B=.ok false B:=by
    by_cases q3:y=2
    ·exact Qdq (J5 (Qe rfl rfl (Q8b B (by omega)))) (J5 (Qe rfl rfl (Qqr B (by omega))))
    ·exact Qm7 (J5 (Qe rfl rfl (Q8c B (by omega))))
   refine ⟨_,O,_,_,_,_,I.put o (fun _=>?_) (fun z=>by cases z),T4,Y.trans M4,Qm k1 (Qm k2 (Qm k3 (Vd t1 (Vd t2 (Je (Qx (n:=4) (Q5 rfl (Q5 rfl (Q5 rfl (Q5 (Qe rfl (Qx (n:=2) (Q5 rfl (Q5 rfl rfl)) rfl e5) (Q67 O _ _)) rfl)))) rfl e6))))))⟩;show 1 + (x:Int)<=Qt tb i;rw [hr]; omega
theorem Qke {n i j:Nat} (hi:i < n) (q:j<=n):ent (bQ n (qt n)) i j=0:=by
 unfold ent;rw [F8 (l:=bQ n (qt n)),cP,bJ hi,Option.getD_some,qt,F8,cP,bJ (by omega)]; rfl
theorem Qi0 {S:Q2} {L n m:Nat} (T:Tp S L) (h1:1<=n) (Y:n<=8) (hm:m<=9):∃ (tb:Tab) (q:Q2),TbI n m tb/\Tp q L/\Mv L S q/\Xa [.ref L,.int n,.int m] S=.ok (Q8 tb) q:=by
 have w0:=Qma h1 Y;have I0:TbI n 0 (bQ n (qt n)):=⟨w0,Ca.zero h1 Y w0,⟨fun i j hi hj=>by rw [Qke hi hj]; have:=Q8p 0; omega⟩⟩;obtain ⟨a3,q,e,tb,c4,z,G,B,J,rfl,I,Z,M⟩:=Q1p (g:=fun k:Nat=>PV.int (k:Int)) (xs:=bV m) (ga:=Qp 4) (body:=jf) (w:=[]) (Γ:=tbG L n m (bQ n (qt n)) none none none none none) (st:=S)
  (fun t Γ st=>∃ tb c4 z G B J,Γ=tbG L n m tb c4 z G B J/\TbI n t tb/\Tp st L/\Mv L S st) (fun _ _ _ _=>by simp)
  (fun t x Γ st hx ⟨tb,c4,z,G,B,J,U,I,T,M⟩=>by
   subst U;have a4:t < m:=by simpa using (O1.mp hx).1
   obtain ⟨a2,q,d5,d6,d7,d8,I',Z,M',e⟩:=Qdn (m:=m) T I (by omega) (some (.int x)) z G B J;exact ⟨_,rfl,_,_,e,_,_,_,_,_,_,rfl,I',Z,M.trans M'⟩)
  ⟨_,_,_,_,_,_,rfl,I0,T,Mv.refl L S⟩
 rw [G6] at I;rw [<- K2] at e;have O:W2 (Q3 (Q4 2) Q9) (tbG L n m (bQ n (qt n)) none none none none none) S=.ok (Yg 0 m,[]) S:=by
  rw [qe,Q5 (m:=Q4 2) (p:=.int m) (S1:=S) rfl (show Q9 _ S=.ok [] S from rfl),J6];show (if -(lim:Int)<=(m:Int)/\(m:Int)<=lim then _ else _)=_;rw [bJ (by rw [Zk]; omega),cF]
 have step:y9 [some (.ref L),some (.int n),some (.int m),none,none,none,none,none,none] S=.rt (Q8 tb) q:=
  Qm (Γ1:=tbG L n m (bQ n (qt n)) none none none none none) (Je (Qx (n:=1) (Q5 rfl rfl) rfl (Qm9 Y S))) (Qm (Q58 O e) rfl)
 exact ⟨tb,q,I,Z,M,(Yw step).trans (Q5a M.len (by simp [Zm,Q8,J0]))⟩
theorem Qi4 (ns:List Int):∃ (n:Nat) (tb:Tab),(1<=n/\n<=8)/\TbI n 8 tb/\Xd [.fro (ns.map .int)] []=.ok (Q8 tb) []:=by
 obtain ⟨c,q⟩:=Qdm ns 0 [];have q:Wb [.fro (ns.map .int),.int 0] []=.ok (.ref 0) [.lst [.int c]]:=q;have G:Tp [.lst [.int c]] 0:=⟨c,rfl⟩;obtain ⟨a,S1,Z,B,M1,e1⟩:=W6 G 8 (by decide) (by decide);have e1:Qi [.ref 0,.int 8] [.lst [.int c]]=.ok (.int a) S1:=e1;obtain ⟨m,z,U,J,M2,e2⟩:=W6 B 9 (by decide) (by decide);have e2:Qi [.ref 0,.int 9] S1=.ok (.int m) z:=e2;obtain ⟨tb,j,I,T3,O,e3⟩:=Qi0 (n:=1 + a) (m:=m) J (by omega) (by omega) (by omega);have e3:Xa [.ref 0,.int (1 + (a:Int)),.int m] z=.ok (Q8 tb) j:=by rw [show (1 + (a:Int))=((1 + a:Nat):Int) by omega]; exact e3
 have up:∀ t k,bM t<=bM (t + k):=fun t k=>by
  induction k with
  | zero=>exact bg _
  | succ k Y=>have:=Q48 (t + k); have:=Q8p (t + k); rw [show t + (k + 1)=t + k + 1 by omega]; omega
 refine ⟨1 + a,tb,by omega,⟨I.w,I.c,I.b.up ?_⟩,?_⟩
 ·have:=up m (8 - m); rwa [show m + (8 - m)=8 by omega] at this
 have step:yg [some (.fro (ns.map .int)),none,none] []=.rt (Q8 tb) j:=
  Qm (Γ1:=[some (.fro (ns.map .int)),some (.ref 0),none]) (Je (Qx (n:=2) (Q5 rfl (Q5 rfl rfl)) rfl q)) (Qm (Γ1:=[some (.fro (ns.map .int)),some (.ref 0),some (.int (1 + (a:Int)))]) (Je (Qe rfl (Qx (n:=2) (Q5 rfl (Q5 rfl rfl)) rfl e1) (Q67 S1 _ _))) (X0 (Qx (n:=3) (Q5 rfl (Q5 rfl (Q5 (Qx (n:=2) (Q5 rfl (Q5 rfl rfl)) rfl e2) rfl))) rfl e3)))
 refine (Yw step).trans ?_;exact Q5b (st:=[]) (more:=j) (by simp [Zm,Q8,J0])
def stD:List (Key × PV):=[(.inr "now",.ref 0),(.inr "last",.ref 1),(.inr "letters",.ref 2)]
structure LS (s:RS) (S:Q2):Prop where
 now:S[0]?=some (.lst (s.now.map Q8))
 last:S[1]?=some (.lst (s.last.map Q8))
 le:S[2]?=some (.lst (s.le.map Q8))
 st:S[3]?=some (.dic stD)
theorem LS.of {s:RS} {S j:Q2} (h:LS s S) (e:∀ t,t < 4->j[t]?=S[t]?):LS s j:=
 ⟨by rw [e 0 (by decide)]; exact h.now,by rw [e 1 (by decide)]; exact h.last,by rw [e 2 (by decide)]; exact h.le,by rw [e 3 (by decide)]; exact h.st⟩
theorem LS.mv {s:RS} {S j:Q2} {L:Nat} (h:LS s S) (M:Mv L S j) (q:4<=L):LS s j:=h.of fun t z=>M.keep t (by omega)
theorem Qec:¬ ((.inr (bO "now"):Key)=.inr (bO "last")):=by decide +kernel
theorem Qgx:¬ ((.inr (bO "now"):Key)=.inr (bO "letters")):=by decide +kernel
theorem Qed:¬ ((.inr (bO "last"):Key)=.inr (bO "letters")):=by decide +kernel
theorem Qtw:Q2c stD (.inr "now")=some (.ref 0):=by simp [Q2c,stD]
theorem Qqy:Q2c stD (.inr "last")=some (.ref 1):=by
 unfold Q2c stD;rw [fG (by simpa using Qec)];simp
theorem Qtx:Q2c stD (.inr "letters")=some (.ref 2):=by
 unfold Q2c stD;rw [fG (by simpa using Qgx),fG (by simpa using Qed)];simp
theorem Qkk {S:Q2} {i:Nat} {kvs:List (Key × PV)} (h:S[i]?=some (.dic kvs)) {x:Str} {v:PV} (e:Q2c kvs (.inr x)=some v):Q5m S (.ref i) (.str x)=.ok v S:=by
 have h1:Qae S (.ref i)=some kvs:=by unfold Qae; simp only [h]
 unfold Q5m;rw [h1];show (match Q2c kvs (.inr x) with | some v=>Res.ok v S | none=>.stuck)=_
 rw [e]
section
variable {s:RS} {S:Q2}
theorem LS.gn (h:LS s S):Q5m S (.ref 3) (.str "now")=.ok (.ref 0) S:=Qkk h.st Qtw
theorem LS.gl (h:LS s S):Q5m S (.ref 3) (.str "last")=.ok (.ref 1) S:=Qkk h.st Qqy
theorem LS.ge (h:LS s S):Q5m S (.ref 3) (.str "letters")=.ok (.ref 2) S:=Qkk h.st Qtx
theorem Q2s {k i:Nat} {xs:List Tab} (h:S[k]?=some (.lst (xs.map Q8))) (hi:i < xs.length):oIx S (.ref k) (.int i)=.ok (Q8 (xs.getD i [])) S:=by
 have j:ListAt S (.ref k) (xs.map Q8):=.inr (.inr ⟨k,rfl,h⟩);rw [j.ix,qr,Sm.atI_get (getD_some hi [])]; rfl
theorem Q68 {k i:Nat} {xs:List Tab} (h:S[k]?=some (.lst (xs.map Q8))) (hi:i < xs.length) (t:Tab):Q14 S (.ref k) (.int i) (Q8 t)=some (S.set k (.lst ((xs.set i t).map Q8))):=by
 have e:ixN (xs.map Q8).length (i:Int)=some i:=by
  rw [O2];unfold ixN;rw [bJ (by omega),bJ (by omega)]; simp
 unfold Q14;simp only [h,e];rw [List.map_set]; rfl
end
theorem Qm4 {n:Nat} {s:RS} {S:Q2} (h:LS s S) (r:RI n s) {x:Dx} (o:x.ok n s) (hl:s.le.length < 100000):∃ S',jy [.ref 3,x.V] S=.ok (Q66 s x) S'/\LS (Yn n s x) S'/\S'.length=S.length/\∀ t,3<=t->S'[t]?=S[t]?:=by
 have b0:=(O1.mp h.now).1;have b1:=(O1.mp h.last).1;have b2:=(O1.mp h.le).1;have G:∀ xs:List Tab,LS ⟨xs,s.last,s.le⟩ (S.set 0 (.lst (xs.map Q8))):=fun xs=>⟨E2 b0,by rw [O5 (by decide)]; exact h.last,by rw [O5 (by decide)]; exact h.le,by rw [O5 (by decide)]; exact h.st⟩
 have ext:∀ (k:Nat) (c:Cell),k < 3->∀ t,3<=t->(S.set k c)[t]?=S[t]?:=fun k c hk t ht=>O5 (by omega)
 have fg:∀ (k:Nat) (c:Cell),fin S (.str "done") (S.set k c)=.ok (.str "done") (S.set k c):=fun k c=>Q5a D5 rfl
 cases x with
 | own d=>
  have O:=Dd.ok_h o;have hi:d.h < s.now.length:=by rw [r.ln]; exact O
  have w:=r.wn d.h O;have h8:=w.n8;have ix:=Q2s h.now hi;have er:=Q38 w.sz (by omega) O S;have en:Yx S [.ref 0]=.ok (.int n) S:=by
   have hV:ListAt S (.ref 0) (s.now.map Q8):=.inr (.inr ⟨0,rfl,h.now⟩);rw [hV.len,O2,r.ln]
  have ea:=Q0s w.sz (by omega) O (Dd.ok_pl o) d.k S;have es:=Q68 h.now hi (d.put n (s.now.getD d.h []));have J:∀ (B:Str) (pl:PV),oIx S d.V (.int 0)=.ok (.str B) S->¬ B = "keep" -> ¬ B = "fall" -> ¬ B = "send" -> ¬ B = "come" -> (B = "make" <-> d.isM=true)->oIx S d.V (.int 2)=.ok pl S->Q5g "make" "use" "lend" (.int d.h) (.int n) pl S (.str B)=.ok (.int (d.pl n)) S ->
    Wr [some (.ref 3),some d.V,none,none,none,none] S=(if d.fits (s.now.getD d.h [])=true then .rt (.str "done") (S.set 0 (.lst ((s.now.set d.h (d.put n (s.now.getD d.h []))).map Q8))) else .rt (.int (Qt (s.now.getD d.h []) d.h)) S):=by
   intro B pl a0 k1 k2 k3 k4 km a2 pk;refine Qm (Γ1:=[some (.ref 3),some d.V,some (.ref 0),none,none,none]) (Je (zq rfl rfl h.gn)) ?_;have I:∀ Z Y:Option PV,∀ u:Str,¬ B=u->toB (mOp oEq (mOp oIx (Q4 1) (mC (.int 0))) (mC (.str u))) [some (.ref 3),some d.V,some (.ref 0),none,Z,Y] S=.ok false S:=fun Z Y u hu=>J5 (Qe (Qe rfl rfl a0) rfl (ji S hu))
   have c1:Jh 3 (mOp oIx (Q4 1) (mC (.int 1))) [some (.ref 3),some d.V,some (.ref 0),none,none,none] S=.nx [some (.ref 3),some d.V,some (.ref 0),some (.int d.h),none,none] S:=Je (Qe rfl rfl (Dd.a1 d S));have c2:Jh 4 (Qf 2 Zn (Q3 (mOp oIx (Q4 2) (Q4 3)) (Q3 (Q4 3) Q9))) [some (.ref 3),some d.V,some (.ref 0),some (.int d.h),none,none] S=.nx [some (.ref 3),some d.V,some (.ref 0),some (.int d.h),some (.int (Qt (s.now.getD d.h []) d.h)),none] S:=Je (Qx (n:=2) (Q5 (Qe rfl rfl ix) (Q5 rfl rfl)) rfl er);have al:mOp oIx (Q4 1) (Q50 (mC (.int 1))) [some (.ref 3),some d.V,some (.ref 0),some (.int d.h),some (.int (Qt (s.now.getD d.h []) d.h)),none] S=.ok (.int d.k) S:=Qe rfl rfl (Dd.al d S);have cond:Q0t (toB (mOp oNe (mOp oIx (Q4 1) (mC (.int 0))) (mC (.str "make")))) (toB (mOp oLt (Q4 4) (mOp oIx (Q4 1) (Q50 (mC (.int 1)))))) [some (.ref 3),some d.V,some (.ref 0),some (.int d.h),some (.int (Qt (s.now.getD d.h []) d.h)),none] S=.ok (!d.fits (s.now.getD d.h [])) S:=by
    unfold Dd.fits;cases hm:d.isM with
    | true=>
     have hw:=km.mpr hm;rw [Bool.true_or,fx];exact Qm7 (J5 (Qe (Qe rfl rfl a0) rfl (show oNe S (.str B) (.str "make")=.ok (.bl false) S by rw [hw]; simp)))
    | false=>
     have hw:¬ B = "make" := fun z=>by rw [km.mp z] at hm; cases hm
     refine (Qdq (J5 (Qe (Qe rfl rfl a0) rfl (show oNe S (.str B) (.str "make")=.ok (.bl true) S by simp [hw]))) ?_)
     by_cases q:d.k<=Qt (s.now.getD d.h []) d.h
     ·rw [bN q];exact J5 (Qe rfl al (Qa8 S (by omega)))
     ·rw [bL q];exact J5 (Qe rfl al (Q7w S (by omega)))
   by_cases q:d.fits (s.now.getD d.h [])=true
   ·rw [bJ q];rw [q] at cond;have c3:Jh 5 (Qd0 "make" "use" "lend" (Q4 3) (J7 Yx (Q3 (Q4 2) Q9)) (mOp oIx (Q4 1) (mC (.int 2))) (mOp oIx (Q4 1) (mC (.int 0)))) [some (.ref 3),some d.V,some (.ref 0),some (.int d.h),some (.int (Qt (s.now.getD d.h []) d.h)),none] S=.nx [some (.ref 3),some d.V,some (.ref 0),some (.int d.h),some (.int (Qt (s.now.getD d.h []) d.h)),some (.int (d.pl n))] S:=by
     refine Je ?_;rw [Qjx,show Q4 3 [some (PV.ref 3),some d.V,some (.ref 0),some (.int d.h),some (.int (Qt (s.now.getD d.h []) d.h)),none] S=.ok (.int d.h) S from rfl,J6,Xv (Q5 (m:=Q4 2) (p:=.ref 0) rfl rfl) en,J6,Qe rfl rfl a2,J6,Qe rfl rfl a0,J6,pk]
    have c4:Q0h (Q4 2) (Q4 3) (Qf 4 Y6 (Q3 (mOp oIx (Q4 2) (Q4 3)) (Q3 (Q4 3) (Q3 (Q4 5) (Q3 (mOp oIx (Q4 1) (Q50 (mC (.int 1)))) Q9))))) [some (.ref 3),some d.V,some (.ref 0),some (.int d.h),some (.int (Qt (s.now.getD d.h []) d.h)),some (.int (d.pl n))] S=.nx [some (.ref 3),some d.V,some (.ref 0),some (.int d.h),some (.int (Qt (s.now.getD d.h []) d.h)),some (.int (d.pl n))] (S.set 0 (.lst ((s.now.set d.h (d.put n (s.now.getD d.h []))).map Q8))):=
     Q6x (Qx (n:=4) (Q5 (Qe rfl rfl ix) (Q5 rfl (Q5 rfl (Q5 (Qe rfl rfl (Dd.al d S)) rfl)))) rfl ea) rfl rfl es
    exact Qm (Vd (I none none _ k1) (Vd (I none none _ k2) (Vd (I none none _ k3) (Vd (I none none _ k4) (Qm c1 (Qm c2 (Qm (Vd cond rfl) (Qm c3 c4)))))))) rfl
   ·rw [bK q];rw [Bool.not_eq_true] at q;rw [q] at cond;exact ze (Vd (I none none _ k1) (Vd (I none none _ k2) (Vd (I none none _ k3) (Vd (I none none _ k4) (Qm c1 (Qm c2 (ze (xg cond rfl))))))))
  have j:Wr [some (.ref 3),some d.V,none,none,none,none] S=(if d.fits (s.now.getD d.h [])=true then .rt (.str "done") (S.set 0 (.lst ((s.now.set d.h (d.put n (s.now.getD d.h []))).map Q8))) else .rt (.int (Qt (s.now.getD d.h []) d.h)) S):=by
   cases d with
   | mk O k=>exact J "make" (.int k) rfl Ju Jv Jt Jw ⟨fun _=>rfl,fun _=>rfl⟩ rfl (by rw [Q4n,bJ rfl]; rfl)
   | ld O q k=>exact J "lend" (.int q) rfl Jy Jz Jx Z0 ⟨fun z=>absurd z Jg,fun z=>by cases z⟩ rfl (by rw [Q4n,bK Jg,bK Zz,bJ rfl]; rfl)
   | us O k=>exact J "use" (.int k) rfl Zw Zx Zu Zy ⟨fun z=>absurd z Z1,fun z=>by cases z⟩ rfl (by rw [Q4n,bK Z1,bJ rfl]; rfl)
  by_cases q:d.fits (s.now.getD d.h [])=true
  ·rw [bJ q] at j;have z1:Q66 s (.own d)=.str "done" := bJ q;have z2:Yn n s (.own d)=⟨s.now.set d.h (d.put n (s.now.getD d.h [])),s.last,s.le⟩:=bJ q;rw [z1,z2];exact ⟨_,(Yw j).trans (fg _ _),G _,D5,ext 0 _ (by decide)⟩
  ·rw [bK q] at j;have z1:Q66 s (.own d)=.int (Qt (s.now.getD d.h []) d.h):=bK q;have z2:Yn n s (.own d)=s:=bK q;rw [z1,z2];exact ⟨S,(Yw j).trans (Qfu S _),h,rfl,fun _ _=>rfl⟩
 | kp i=>
  have hi:i < n:=o;have k:Wr [some (.ref 3),some (Dx.kp i).V,none,none,none,none] S=.rt (.str "done") (S.set 1 (.lst ((s.last.set i (s.now.getD i [])).map Q8))):=
   Qm (Γ1:=[some (.ref 3),some (Dx.kp i).V,some (.ref 0),none,none,none]) (Je (zq rfl rfl h.gn)) (Qm (xg (J5 (Qe (Qe rfl rfl rfl) rfl (Q43 S _))) (Q6x (Qe rfl (Qe rfl rfl rfl) (Q2s h.now (by rw [r.ln]; exact hi))) (zq rfl rfl h.gl) (Qe rfl rfl rfl) (Q68 h.last (by rw [r.ll]; exact hi) _))) rfl)
  exact ⟨_,(Yw k).trans (fg _ _),⟨by rw [O5 (by decide)]; exact h.now,E2 b1,by rw [O5 (by decide)]; exact h.le,by rw [O5 (by decide)]; exact h.st⟩,D5,ext 1 _ (by decide)⟩
 | fl i=>
  have hi:i < n:=o;have k:Wr [some (.ref 3),some (Dx.fl i).V,none,none,none,none] S=.rt (.str "done") (S.set 0 (.lst ((s.now.set i (s.last.getD i [])).map Q8))):=
   Qm (Γ1:=[some (.ref 3),some (Dx.fl i).V,some (.ref 0),none,none,none]) (Je (zq rfl rfl h.gn)) (Qm (Vd (J5 (Qe (Qe rfl rfl rfl) rfl (ji S Jk))) (xg (J5 (Qe (Qe rfl rfl rfl) rfl (Q43 S _))) (Q6x (Qe (zq rfl rfl h.gl) (Qe rfl rfl rfl) (Q2s h.last (by rw [r.ll]; exact hi))) rfl (Qe rfl rfl rfl) (Q68 h.now (by rw [r.ln]; exact hi) _)))) rfl)
  exact ⟨_,(Yw k).trans (fg _ _),G _,D5,ext 0 _ (by decide)⟩
 | sd i=>
  have hi:i < n:=o;have k:Wr [some (.ref 3),some (Dx.sd i).V,none,none,none,none] S=.rt (.str "done") (S.set 2 (.lst (s.le.map Q8 ++ [Q8 (s.last.getD i [])]))):=
   Qm (Γ1:=[some (.ref 3),some (Dx.sd i).V,some (.ref 0),none,none,none]) (Je (zq rfl rfl h.gn)) (Qm (Vd (J5 (Qe (Qe rfl rfl rfl) rfl (ji S Ji))) (Vd (J5 (Qe (Qe rfl rfl rfl) rfl (ji S Jj))) (xg (J5 (Qe (Qe rfl rfl rfl) rfl (Q43 S _)))
    (Q5e (zq rfl rfl h.ge) (Xt h.le) (Q5 (Qe (zq rfl rfl h.gl) (Qe rfl rfl rfl) (Q2s h.last (by rw [r.ll]; exact hi))) rfl) (Q2a h.le (by rw [O2]; omega) _))))) rfl)
  refine ⟨_,(Yw k).trans (fg _ _),⟨by rw [O5 (by decide)]; exact h.now,by rw [O5 (by decide)]; exact h.last,?_,by rw [O5 (by decide)]; exact h.st⟩,D5,ext 2 _ (by decide)⟩;rw [E2 b2];show _=some (Cell.lst ((s.le ++ [s.last.getD i []]).map Q8));rw [F3]; rfl
 | cm l i=>
  obtain ⟨U,hi⟩:=o;have wN:=r.wn i hi;have hm:s.le.getD l []∈s.le:=D2 (getD_some U []);have wL:=r.we _ hm;have h8:=wN.n8;have ej:=Qf0 (a:=s.now.getD i []) (b:=s.le.getD l []) (by rw [wN.len,wL.len]) (by rw [wN.len]; omega) (fun q hq=>by rw [wN.row q hq]; omega) S;have k:Wr [some (.ref 3),some (Dx.cm l i).V,none,none,none,none] S=.rt (.str "done") (S.set 0 (.lst ((s.now.set i (Vc (s.now.getD i []) (s.le.getD l []))).map Q8))):=
   Qm (Γ1:=[some (.ref 3),some (Dx.cm l i).V,some (.ref 0),none,none,none]) (Je (zq rfl rfl h.gn)) (Qm (Vd (J5 (Qe (Qe rfl rfl rfl) rfl (ji S Jn))) (Vd (J5 (Qe (Qe rfl rfl rfl) rfl (ji S Jp))) (Vd (J5 (Qe (Qe rfl rfl rfl) rfl (ji S Jm))) (xg (J5 (Qe (Qe rfl rfl rfl) rfl (Q43 S _)))
    (Q6x (Qx (n:=2) (Q5 (Qe rfl (Qe rfl rfl rfl) (Q2s h.now (by rw [r.ln]; exact hi))) (Q5 (Qe (zq rfl rfl h.ge) (Qe rfl rfl rfl) (Q2s h.le U)) rfl)) rfl ej) rfl (Qe rfl rfl rfl) (Q68 h.now (by rw [r.ln]; exact hi) _)))))) rfl)
  exact ⟨_,(Yw k).trans (fg _ _),G _,D5,ext 0 _ (by decide)⟩
structure RB (n:Nat) (M:Int) (s:RS):Prop where
 now:∀ i,i < n->Bd n M (s.now.getD i [])
 last:∀ i,i < n->Bd n M (s.last.getD i [])
 le:∀ L∈s.le,Bd n M L
def Dx.kb (M:Int):Dx->Prop
 | .own d=>d.k<=9 * M
 | _=>True
theorem RB.up {n:Nat} {M K:Int} {s:RS} (b:RB n M s) (h:M<=K):RB n K s:=⟨fun i hi=>(b.now i hi).up h,fun i hi=>(b.last i hi).up h,fun L j=>(b.le L j).up h⟩
theorem RB.step {n t:Nat} {s:RS} (b:RB n (bM t) s) (r:RI n s) {x:Dx} (o:x.ok n s) (k:x.kb (bM t)):RB n (bM (t + 1)) (Yn n s x):=by
 have g:=Q8p t;have U:bM t<=bM (t + 1):=by rw [Q48]; omega
 have u:=b.up U;have one:∀ {xs:List Tab} {h:Nat} {v:Tab},xs.length=n->h < n->(∀ i,i < n->Bd n (bM (t + 1)) (xs.getD i []))->Bd n (bM (t + 1)) v->∀ i,i < n->Bd n (bM (t + 1)) ((xs.set h v).getD i []):=fun {xs h v} hl z B hv i hi=>by
  rw [Zq (by omega)]
  split
  ·exact hv
  ·exact B i hi
 cases x with
 | own d=>
  have z:=Dd.ok_h o
  by_cases q:d.fits (s.now.getD d.h [])=true
  ·have I:Yn n s (.own d)=⟨s.now.set d.h (d.put n (s.now.getD d.h [])),s.last,s.le⟩:=bJ q;rw [I];have k:d.k<=9 * bM t:=k;exact ⟨one r.ln z u.now ((b.now _ z).put (r.wn _ z) o (by rw [Q48]; omega)),u.last,u.le⟩
  ·have I:Yn n s (.own d)=s:=bK q;rw [I]; exact u
 | kp i=>exact ⟨u.now,one r.ll o u.last (u.now i o),u.le⟩
 | fl i=>exact ⟨one r.ln o u.now (u.last i o),u.last,u.le⟩
 | sd i=>
  refine ⟨u.now,u.last,fun L Y=>?_⟩;rcases E9.mp Y with h | h
  ·exact u.le L h
  ·rw [dk.mp h]; exact u.last i o
 | cm l i=>
  obtain ⟨J,z⟩:=o;have O:s.le.getD l []∈s.le:=D2 (getD_some J []);refine ⟨one r.ln z u.now ⟨fun a j B G=>?_⟩,u.last,u.le⟩;rw [Q44 (r.wn i z).sz (r.we _ O).sz B G];have h1:=(u.now i z).le a j B G;have h2:=(u.le _ O).le a j B G;rcases Qfj (ent (s.now.getD i []) a j) (ent (s.le.getD l []) a j) with e | e
  ·rw [e]; exact h1
  ·rw [e]; exact h2
theorem Qvi {S:Q2} {k:Nat} {xs:List Tab} (h:S[k]?=some (.lst (xs.map Q8))) (j:xs≠[]):oEq S (.ref k) (.lst [])=.ok (.bl false) S:=by
 have g:Zm dep (.lst (xs.map Q8))=true:=by
  simp [dep,Zm,Q8,J0]
 cases xs with
 | nil=>exact absurd rfl j
 | cons a xs=>
  have g2:Zm dep (.lst [])=true:=rfl;have hp:peq (.lst (Q8 a :: xs.map Q8)) (.lst [])=false:=by rw [peq]; rfl
  simp only [F2] at h g;simp [oEq,der,h,g,g2,hp]
abbrev drG (L:Nat) (c2 c3 c4 c5 c6:Option PV):Gam:=[some (.ref L),some (.ref 3),c2,c3,c4,c5,c6]
theorem Qi3 {n t L:Nat} {s:RS} {S:Q2} (h:LS s S) (r:RI n s) (b:RB n (bM t) s) (ht:t<=60) (T:Tp S L) (hL:4<=L) (a8:s.le.length < 90) (h1:1<=n) (h8:n<=8) :
  ∃ (x:Dx) (Y:Q2),x.ok n s/\x.kb (bM t)/\Tp Y L/\Mv L S Y/\Xc [.ref L,.ref 3] S=.ok x.V Y:=by
 have en:Yx S [.ref 0]=.ok (.int n) S:=by
  have hV:ListAt S (.ref 0) (s.now.map Q8):=.inr (.inr ⟨0,rfl,h.now⟩);rw [hV.len,O2,r.ln]
 obtain ⟨i,S1,hi,T1,M1,e1⟩:=W6 T n h1 (by omega);obtain ⟨y,S2,hy,T2,M2,e2⟩:=W6 T1 12 (by decide) (by decide);have e2:Qi [.ref L,.int 12] S1=.ok (.int y) S2:=e2;have a5:=M1.trans M2;have l2:=h.mv a5 hL;have w:=r.wn i hi;have e3:=Q38 w.sz (by omega) hi S2;have ix:=Q2s l2.now (show i < s.now.length by rw [r.ln]; exact hi);obtain ⟨v,hv⟩:∃ v:Nat,(if Qt (s.now.getD i []) i > 0 then Qt (s.now.getD i []) i else 0)=(v:Int):=⟨(if Qt (s.now.getD i []) i > 0 then Qt (s.now.getD i []) i else 0).toNat,by split <;> omega⟩;have g:=Q8p t;have b0:(v:Int)<=8 * bM t:=by
  have:=Q4j w (b.now i hi) (by omega) hi;rw [<- hv]; split <;> omega
 have a9:=Qqv (t:=t) ht;have a7:v + 2 < 2 ^ 8000:=Qex (by
  have:((v + 2:Nat):Int) < 10 ^ 100:=by omega
  exact_mod_cast this)
 obtain ⟨z,B,hz,T3,M3,e4⟩:=Q2b T2 (v + 2) (by omega) a7;have e4:Qi [.ref L,.int ((v:Int) + 2)] S2=.ok (.int z) B:=e4;have I:=a5.trans M3;have l3:=h.mv I hL;have em:Q8k S2 [.int 0,.int (Qt (s.now.getD i []) i)]=.ok (.int v) S2:=by rw [Qdi,hv]
 have k1:Jh 2 (J7 Yx (Q3 (Wx (Q4 1) (mC (.str "now"))) Q9)) (drG L none none none none none) S=.nx (drG L (some (.int n)) none none none none) S:=Je (Xv (Q5 (zq rfl rfl h.gn) rfl) en);have k2:Jh 3 (Qf 2 Qi (Q3 (Q4 0) (Q3 (Q4 2) Q9))) (drG L (some (.int n)) none none none none) S=.nx (drG L (some (.int n)) (some (.int i)) none none none) S1:=Je (Qx (n:=2) (Q5 rfl (Q5 rfl rfl)) rfl e1);have k3:Jh 4 (Qf 2 Qi (Q3 (Q4 0) (Q3 (mC (.int 12)) Q9))) (drG L (some (.int n)) (some (.int i)) none none none) S1=.nx (drG L (some (.int n)) (some (.int i)) (some (.int y)) none none) S2:=Je (Qx (n:=2) (Q5 rfl (Q5 rfl rfl)) rfl e2);have k4:Jh 5 (J7 Q8k (Q3 (mC (.int 0)) (Q3 (Qf 2 Zn (Q3 (mOp oIx (Wx (Q4 1) (mC (.str "now"))) (Q4 3)) (Q3 (Q4 3) Q9))) Q9))) (drG L (some (.int n)) (some (.int i)) (some (.int y)) none none) S2=.nx (drG L (some (.int n)) (some (.int i)) (some (.int y)) (some (.int v)) none) S2:=Je (Xv (Q5 rfl (Q5 (Qx (n:=2) (Q5 (Qe (zq rfl rfl l2.gn) rfl ix) (Q5 rfl rfl)) rfl e3) rfl)) em)
 obtain ⟨G,hG⟩:∃ G,drG L (some (.int n)) (some (.int i)) (some (.int y)) (some (.int v)) (some (.int (1 + (z:Int))))=G:=⟨_,rfl⟩;have k5:Jh 6 (mOp Ww (mC (.int 1)) (Qf 2 Qi (Q3 (Q4 0) (Q3 (mOp Ww (Q4 5) (mC (.int 2))) Q9)))) (drG L (some (.int n)) (some (.int i)) (some (.int y)) (some (.int v)) none) S2=.nx G B:=by
  rw [<- hG];exact Je (Qe rfl (Qx (n:=2) (Q5 rfl (Q5 (Qe rfl rfl (Q67 S2 _ _)) rfl)) rfl e4) (Q67 B _ _))
 have v0:Q4 0 G B=.ok (.ref L) B:=by rw [<- hG]; rfl
 have v1:Q4 1 G B=.ok (.ref 3) B:=by rw [<- hG]; rfl
 have v2:∀ S,Q4 2 G S=.ok (.int n) S:=fun S=>by rw [<- hG]; rfl
 have v3:∀ S,Q4 3 G S=.ok (.int i) S:=fun S=>by rw [<- hG]; rfl
 have U:Q4 4 G B=.ok (.int y) B:=by rw [<- hG]; rfl
 have v6:∀ S,Q4 6 G S=.ok (.int (1 + (z:Int))) S:=fun S=>by rw [<- hG]; rfl
 have fg:∀ {Y:Q2} (x:Dx),Mv L S Y->fin S x.V Y=.ok x.V Y:=fun {Y} x M=>Q5a M.len (by cases x with | own d=>cases d <;> rfl | _=>rfl)
 have J:∀ (x:Dx) (Y:Q2),Mv L S Y->_->Xc [.ref L,.ref 3] S=.ok x.V Y:=fun x Y M (q:_=SR.rt x.V Y)=>(Yw (m:=ye) (nl:=7) (ps:=[.ref L,.ref 3]) (Qm k1 (Qm k2 (Qm k3 (Qm k4 (Qm k5 q)))))).trans (fg x M)
 by_cases q0:y=0
 ·obtain ⟨k,O,hk,T4,Z,e5⟩:=Qdr T3;refine ⟨.own (.mk i k),O,⟨hi,hk.1⟩,?_,T4,I.trans Z,J _ _ (I.trans Z) (ze (xg (J5 (Qe U rfl (Q8b B (by omega)))) (X0 (j8 (Q5 rfl (Q5 (v3 B) (Q5 (Qx (n:=1) (Q5 v0 rfl) rfl e5) rfl))) (by simp)))))⟩;show k<=9 * bM t;omega
 have t0:Ym (toB (mOp oEq (Q4 4) (mC (.int 0)))) (Js (Kt (Q3 (mC (.str "make")) (Q3 (Q4 3) (Q3 (Qf 1 Vi (Q3 (Q4 0) Q9)) Q9))))) Y1 G B=.nx G B:=Vd (J5 (Qe U rfl (Q8c B (by omega)))) rfl
 by_cases q1:y < 4/\1 < n
 ·obtain ⟨u,O,hu,T4,Z,e5⟩:=W6 T3 (n - 1) (by omega) (by omega);have e5:Qi [.ref L,.int ((n:Int) - 1)] B=.ok (.int u) O:=by rw [show ((n:Int) - 1)=((n - 1:Nat):Int) by omega]; exact e5
  obtain ⟨j,ej,hj,a2⟩:=Qff hi hu;refine ⟨.own (.ld i j (1 + (z:Int))),O,⟨hi,hj,a2,by omega⟩,?_,T4,I.trans Z,J _ _ (I.trans Z) (Qm t0 (ze (xg (Qdq (J5 (Qe U rfl (Q7w B (by omega)))) (J5 (Qe (v2 B) rfl (Qqq B (by omega))))) (X0 (j8 (Q5 rfl (Q5 (v3 B) (Q5 (Qe (Qe (Qe (v3 B) rfl (Q67 B _ _)) (Qx (n:=2) (Q5 v0 (Q5 (Qe (v2 B) rfl (Qmk B _ _)) rfl)) rfl e5) (Q67 O _ _)) (v2 O) (by rw [Qsh O (by omega),ej])) (Q5 (v6 O) rfl)))) (by simp))))))⟩;show 1 + (z:Int)<=9 * bM t;omega
 have t1:Ym (Q0t (toB (mOp oLt (Q4 4) (mC (.int 4)))) (toB (mOp (oI fun a b=>.bl (decide (b < a))) (Q4 2) (mC (.int 1))))) (Js (Kt (Q3 (mC (.str "lend")) (Q3 (Q4 3) (Q3 (mOp Q3q (mOp Ww (mOp Ww (Q4 3) (mC (.int 1))) (Qf 2 Qi (Q3 (Q4 0) (Q3 (mOp (oI fun a b=>.int (a - b)) (Q4 2) (mC (.int 1))) Q9)))) (Q4 2)) (Q3 (Q4 6) Q9)))))) Y1 G B=.nx G B:=by
  refine Vd ?_ rfl
  by_cases q2:y < 4
  ·exact Qdq (J5 (Qe U rfl (Q7w B (by omega)))) (J5 (Qe (v2 B) rfl (Qqr B (by omega))))
  ·exact Qm7 (J5 (Qe U rfl (Qa8 B (by omega))))
 by_cases q2:y < 6
 ·refine ⟨.own (.us i (1 + (z:Int))),B,⟨hi,by omega⟩,?_,T3,I,J _ _ I (Qm t0 (Qm t1 (ze (xg (J5 (Qe U rfl (Q7w B (by omega)))) (X0 (j8 (Q5 rfl (Q5 (v3 B) (Q5 (v6 B) rfl))) (by simp)))))))⟩;show 1 + (z:Int)<=9 * bM t;omega
 have t2:Ym (toB (mOp oLt (Q4 4) (mC (.int 6)))) (Js (Kt (Q3 (mC (.str "use")) (Q3 (Q4 3) (Q3 (Q4 6) Q9))))) Y1 G B=.nx G B:=Vd (J5 (Qe U rfl (Qa8 B (by omega)))) rfl
 by_cases q3:y < 8
 ·obtain ⟨u,O,hu,T4,Z,e5⟩:=W6 T3 3 (by decide) (by decide);have e5:Qi [.ref L,.int 3] B=.ok (.int u) O:=e5;have a3:Q3x (Q3 (mC (.str "keep")) (Q3 (mC (.str "fall")) Q9)) G B=.ok (.lst [.str "keep",.str "fall"]) B:=Qbt rfl;have a4:Qf 2 Qi (Q3 (Q4 0) (Q3 (mC (.int 3)) Q9)) G B=.ok (.int u) O:=Qx (n:=2) (Q5 v0 (Q5 rfl rfl)) rfl e5
  by_cases qu:u=0
  ·refine ⟨.fl i,O,hi,trivial,T4,I.trans Z,J _ _ (I.trans Z) (Qm t0 (Qm t1 (Qm t2 (ze (xg (J5 (Qe U rfl (Q7w B (by omega)))) (X0 (j8 (Q5 (Qe a3 (Xv (Q5 (Qe a4 rfl (Q8b O (by omega))) rfl) rfl) rfl) (Q5 (v3 O) rfl)) (by simp))))))))⟩
  ·refine ⟨.kp i,O,hi,trivial,T4,I.trans Z,J _ _ (I.trans Z) (Qm t0 (Qm t1 (Qm t2 (ze (xg (J5 (Qe U rfl (Q7w B (by omega)))) (X0 (j8 (Q5 (Qe a3 (Xv (Q5 (Qe a4 rfl (Q8c O (by omega))) rfl) rfl) rfl) (Q5 (v3 O) rfl)) (by simp))))))))⟩
 have t3:∀ X,Ym (toB (mOp oLt (Q4 4) (mC (.int 8)))) X Y1 G B=.nx G B:=fun X=>Vd (J5 (Qe U rfl (Qa8 B (by omega)))) rfl
 have ed:Wx (Q4 1) (mC (.str "letters")) G B=.ok (.ref 2) B:=zq v1 rfl l3.ge
 by_cases q4:y=8\/s.le=[]
 ·refine ⟨.sd i,B,hi,trivial,T3,I,J _ _ I (Qm t0 (Qm t1 (Qm t2 (Qm (t3 _) (ze (xg ?_ (X0 (j8 (Q5 rfl (Q5 (v3 B) rfl)) (by simp)))))))))⟩
  by_cases q5:y=8
  ·exact Quz (J5 (Qe U rfl (Q8b B (by omega))))
  ·have hz:s.le=[]:=q4.resolve_left q5;have hV:ListAt B (.ref 2) []:=.inr (.inr ⟨2,rfl,by rw [l3.le,hz]; rfl⟩);exact Qb4 (J5 (Qe U rfl (Q8c B (by omega)))) (J5 (Qe ed rfl (hV.eqs rfl).2.2.2))
 ·have a2:s.le≠[]:=fun z=>q4 (.inr z)
  have a6:1<=s.le.length:=by cases hs:s.le with | nil=>exact absurd hs a2 | cons a b=>simp
  obtain ⟨u,O,hu,T4,Z,e5⟩:=W6 T3 s.le.length a6 (by omega);have hV:ListAt B (.ref 2) (s.le.map Q8):=.inr (.inr ⟨2,rfl,l3.le⟩);have el:Yx B [.ref 2]=.ok (.int s.le.length) B:=by rw [hV.len,O2]
  have ne:oEq B (.ref 2) (.lst [])=.ok (.bl false) B:=Qvi l3.le a2;have t4:Ym (Q11 (toB (mOp oEq (Q4 4) (mC (.int 8)))) (toB (mOp oEq (Wx (Q4 1) (mC (.str "letters"))) (Q3x Q9)))) (Js (Kt (Q3 (mC (.str "send")) (Q3 (Q4 3) Q9)))) Y1 G B=.nx G B:=Vd (Qb4 (J5 (Qe U rfl (Q8c B (by omega)))) (J5 (Qe ed rfl ne))) rfl;exact ⟨.cm u i,O,⟨hu,hi⟩,trivial,T4,I.trans Z,J _ _ (I.trans Z) (Qm t0 (Qm t1 (Qm t2 (Qm (t3 _) (Qm t4 (X0 (j8 (Q5 rfl (Q5 (Qx (n:=2) (Q5 v0 (Q5 (Xv (Q5 ed rfl) el) rfl)) rfl e5) (Q5 (v3 O) rfl))) (by simp))))))))⟩
theorem Qdp (xs:List PV) (v:PV):atI (xs ++ [v]) (-1)=some v:=by
 have e:ixN (xs ++ [v]).length (-1)=some xs.length:=by
  rw [O8];unfold ixN;rw [bK (by omega),bJ (by simp; omega)];simp; omega
 unfold atI;rw [e];simp
structure AI (n:Nat) (tb:Tab) (xs:List Dx) (S:Q2):Prop where
 ok:OkL n (s0 n tb) xs
 ls:LS (Xi n (s0 n tb) xs) S
 de:S[4]?=some (.lst (xs.map Dx.V))
 an:S[5]?=some (.lst (zw n (s0 n tb) xs))
 rb:RB n (bM (8 + xs.length)) (Xi n (s0 n tb) xs)
 len:6<=S.length
abbrev apG (ns:List Int) (m:Nat) (tb:Tab) (c7 c8 c9:Option PV):Gam:=[some (.fro (ns.map .int)),some (.int 1),some (.int m),some (Q8 tb),some (.ref 3),some (.ref 4),some (.ref 5),c7,c8,c9]
theorem Qt8 {n:Nat} {tb:Tab} (w:Wt' n tb) {xs:List Dx} {S:Q2} {L:Nat} (I:AI n tb xs S) (T:Tp S L) (hL:6<=L) (hx:xs.length<=45) (ns:List Int) (m:Nat) (c7 Z:Option PV):∃ (x:Dx) (U:Q2),qj (apG ns m tb c7 (some (.ref L)) Z) S=.nx (apG ns m tb c7 (some (.ref L)) Z) U/\AI n tb (xs ++ [x]) U/\Tp U L:=by
 have r:=(RI.start w).run I.ok;have a5:=Qeq n xs (s0 n tb);have a4:(s0 n tb).le.length=0:=rfl;obtain ⟨x,S1,G,kx,T1,M1,e1⟩:=Qi3 I.ls r I.rb (by omega) T (by omega) (by omega) w.n1 w.n8;have l1:=I.ls.mv M1 (by omega);have d1:S1[4]?=some (.lst (xs.map Dx.V)):=by rw [M1.keep 4 (by omega)]; exact I.de
 have a1:S1[5]?=some (.lst (zw n (s0 n tb) xs)):=by rw [M1.keep 5 (by omega)]; exact I.an
 have b4:=(O1.mp d1).1;have b5:=(O1.mp a1).1;have B:=Q2a d1 (by rw [O2]; omega) x.V;obtain ⟨j,q⟩:∃ j,S1.set 4 (.lst (xs.map Dx.V ++ [x.V]))=j:=⟨_,rfl⟩;rw [q] at B;have d2:j[4]?=some (.lst (xs.map Dx.V ++ [x.V])):=by rw [<- q]; exact E2 b4
 have k2:∀ t,t≠4->j[t]?=S1[t]?:=fun t ht=>by rw [<- q]; exact O5 (by omega)
 have l2:LS (Xi n (s0 n tb) xs) j:=l1.of fun t ht=>k2 t (by omega)
 have Y:j[5]?=some (.lst (zw n (s0 n tb) xs)):=by rw [k2 5 (by omega)]; exact a1
 obtain ⟨S3,e2,l3,z,k3⟩:=Qm4 l2 r G (by omega);have a3:S3[5]?=some (.lst (zw n (s0 n tb) xs)):=by rw [k3 5 (by omega)]; exact Y
 have J:=(O1.mp a3).1;have hV:ListAt j (.ref 4) (xs.map Dx.V ++ [x.V]):=.inr (.inr ⟨4,rfl,d2⟩);have ix:oIx j (.ref 4) (.int (-1))=.ok x.V j:=by rw [hV.ix,Qdp]; rfl
 have O:=Q2a a3 (by rw [Q6j]; omega) (Q66 (Xi n (s0 n tb) xs) x);have er:Xi n (s0 n tb) (xs ++ [x])=Yn n (Xi n (s0 n tb) xs) x:=by rw [Qb0]; rfl
 have ea:zw n (s0 n tb) (xs ++ [x])=zw n (s0 n tb) xs ++ [Q66 (Xi n (s0 n tb) xs) x]:=by rw [Qbv]; rfl
 refine ⟨x,_,Qm (Q5e (p:=.ref 4) rfl (Xt I.de) (Q5 (Qx (n:=2) (Q5 rfl (Q5 rfl rfl)) rfl e1) rfl) B) (Q5e (p:=.ref 5) rfl (Xt Y) (Q5 (Qx (n:=2) (Q5 rfl (Q5 (Qe rfl rfl ix) rfl)) rfl e2) rfl) O),⟨?_,?_,?_,?_,?_,?_⟩,?_⟩
 ·exact (Qb5 n xs [x] _).mpr ⟨I.ok,G,trivial⟩
 ·rw [er]; exact l3.of fun t ht=>O5 (by omega)
 ·rw [O5 (by decide),k3 4 (by decide),d2,F3]; rfl
 ·rw [ea,E2 J]
 ·rw [er,O8]; exact I.rb.step r G kx
 ·rw [D5,z,<- q,D5,M1.len]; exact I.len
 ·obtain ⟨c,hc⟩:=T1;exact ⟨c,by rw [O5 (by omega),k3 L (by omega),k2 L (by omega)]; exact hc⟩
theorem Qt9 {n:Nat} {tb:Tab} (w:Wt' n tb) {xs:List Dx} {S:Q2} (I:AI n tb xs S) (hx:xs.length<=40) (ns:List Int) (m k:Nat) (c8 J:Option PV):∃ (ys:List Dx) (G:Q2) (d8 d9:Option PV),ys.length=xs.length + 3/\qk (apG ns m tb (some (.int (1 + (k:Int)))) c8 J) S=.nx (apG ns m tb (some (.int (1 + (k:Int)))) d8 d9) G/\AI n tb ys G:=by
 obtain ⟨c,Y⟩:=Qdm ns (1 + k) S;rw [show ((1 + k:Nat):Int)=1 + (k:Int) by omega] at Y;obtain ⟨S1,q⟩:∃ S1,S ++ [Cell.lst [.int c]]=S1:=⟨_,rfl⟩;rw [q] at Y;have T1:Tp S1 S.length:=⟨c,by rw [<- q]; simp⟩;have hl:=I.len;have k1:∀ t,t < 6->S1[t]?=S[t]?:=fun t ht=>by rw [<- q,O6 (by omega)]
 have I1:AI n tb xs S1:=⟨I.ok,I.ls.of fun t ht=>k1 t (by omega),by rw [k1 4 (by decide)]; exact I.de,by rw [k1 5 (by decide)]; exact I.an,I.rb,by rw [<- q,O8]; omega⟩;obtain ⟨a2,G,e,ys,B,z,rfl,Z,_⟩:=Q1p (g:=fun k:Nat=>PV.int (k:Int)) (xs:=bV 3) (ga:=Qp 9) (body:=qj) (w:=[]) (Γ:=apG ns m tb (some (.int (1 + (k:Int)))) (some (.ref S.length)) J) (st:=S1)
  (fun j Γ st=>∃ ys B,ys.length=xs.length + j/\Γ=apG ns m tb (some (.int (1 + (k:Int)))) (some (.ref S.length)) B/\AI n tb ys st/\Tp st S.length) (fun _ _ _ _=>by simp)
  (fun j x Γ st hj ⟨ys,B,z,U,I,T⟩=>by
   subst U;have a3:j < 3:=by simpa using (O1.mp hj).1
   obtain ⟨y,G,e,Z,T'⟩:=Qt8 w I T hl (by omega) ns m (some (.int (1 + (k:Int)))) (some (.int x));exact ⟨_,rfl,_,_,e,ys ++ [y],_,by rw [O8,z]; rfl,rfl,Z,T'⟩)
  ⟨xs,_,rfl,rfl,I1,T1⟩
 rw [<- K2] at e;have O:W2 (Q3 (mC (.int 3)) Q9) (apG ns m tb (some (.int (1 + (k:Int)))) (some (.ref S.length)) J) S1=.ok (Yg 0 3,[]) S1:=by
  rw [qe,Q5 (m:=mC (.int 3)) (p:=.int 3) (S1:=S1) rfl (show Q9 _ S1=.ok [] S1 from rfl),J6];exact bJ (by rw [Zk]; omega)
 exact ⟨ys,G,_,_,z,Qm (Γ1:=apG ns m tb (some (.int (1 + (k:Int)))) (some (.ref S.length)) J) (Je (Qx (n:=2) (Q5 rfl (Q5 rfl rfl)) rfl Y)) (Q58 O e),Z⟩
theorem Qi1 {n:Nat} {tb:Tab} (w:Wt' n tb):Xb [Q8 tb] []=.ok (.ref 3) [.lst ((bQ n tb).map Q8),.lst ((bQ n tb).map Q8),.lst [],.dic stD]:=by
 have U:=w.n8;have I:((bV n).map fun _=>Q8 tb)=(bQ n tb).map Q8:=by
  rw [fE];exact fF.mpr ⟨by simp,fun b O=>by obtain ⟨_,_,rfl⟩:=cr.mp O; rfl⟩
 have q:∀ S:Q2,W2 (Q3 (J7 Yx (Q3 (Q4 0) Q9)) Q9) [some (Q8 tb)] S=.ok (Yg 0 n,[]) S:=fun S=>by
  have z:Yx S [Q8 tb]=.ok (.int n) S:=by simp [Q8,w.len]
  rw [qe,Q5 (Xv (Q5 (m:=Q4 0) (p:=Q8 tb) (S1:=S) rfl (show Q9 _ S=.ok [] S from rfl)) z) (show Q9 _ S=.ok [] S from rfl),J6];show (if -(lim:Int)<=(n:Int)/\(n:Int)<=lim then _ else _)=_;rw [bJ (by rw [Zk]; omega),cF]
 have G:∀ S:Q2,Z3 (Qp 0) Zr Q0w [] (Zp [none,some 0] [some (Q8 tb)]) (Yg 0 n) S=.ok ((bQ n tb).map Q8) S:=fun S=>by
  rw [K2,<- I];exact W7 _ _ (by simp) fun j J=>⟨_,rfl,rfl⟩
 have B:∀ S:Q2,Z3 (Qp 0) Zr Q0v [] (Zp [none,some 0] [some (Q8 tb)]) (Yg 0 n) S=.ok ((bQ n tb).map Q8) S:=fun S=>by
  rw [K2,<- I];exact W7 _ _ (by simp) fun j J=>⟨_,rfl,rfl⟩
 have step:yc [some (Q8 tb)] []=.rt (.ref 3) [.lst ((bQ n tb).map Q8),.lst ((bQ n tb).map Q8),.lst [],.dic stD]:=by
  refine X0 ?_;rw [Qh4,xx (jx (q _) (G _)),J6,xx (jx (q _) (B _)),J6,xx (ps:=[]) rfl,J6];rfl
 exact xq step
theorem Qey {n:Nat} {tb:Tab} (J:TbI n 8 tb) (ns:List Int) (m:Nat) (hm:m<=13):∃ (xs:List Dx) (z:Q2),xs.length=3 * m/\AI n tb xs z/\Uf [.fro (ns.map .int),.int 1,.int m,Q8 tb] []=.ok (.tup [.ref 4,.ref 5,.ref 3]) z:=by
 have w:=J.w;have e0:=Qi1 w;obtain ⟨A,U⟩:∃ A,[Cell.lst ((bQ n tb).map Q8),.lst ((bQ n tb).map Q8),.lst [],.dic stD]=A:=⟨_,rfl⟩;have A6:A ++ [Cell.lst []] ++ [Cell.lst []]=[Cell.lst ((bQ n tb).map Q8),.lst ((bQ n tb).map Q8),.lst [],.dic stD,.lst [],.lst []]:=by rw [<- U]; rfl
 have IA:AI n tb [] (A ++ [Cell.lst []] ++ [Cell.lst []]):=by
  rw [A6];refine ⟨trivial,⟨rfl,rfl,rfl,rfl⟩,rfl,rfl,?_,O7 6⟩;have e:∀ i,i < n->(bQ n tb).getD i []=tb:=fun i hi=>Q71 hi
  refine ⟨fun i hi=>?_,fun i hi=>?_,fun L hL=>absurd hL cW⟩
  ·show Bd n (bM 8) ((bQ n tb).getD i []); rw [e i hi]; exact J.b
  ·show Bd n (bM 8) ((bQ n tb).getD i []); rw [e i hi]; exact J.b
 rw [U] at e0;have lA:A.length=4:=by rw [<- U]; rfl
 obtain ⟨a3,z,e,xs,Z,G,B,q,rfl,I⟩:=Q1p (g:=fun k:Nat=>PV.int (1 + (k:Int))) (xs:=bV m) (ga:=Qp 7) (body:=qk) (w:=[]) (Γ:=apG ns m tb none none none) (st:=A ++ [Cell.lst []] ++ [Cell.lst []])
  (fun j Γ st=>∃ xs Z G B,xs.length=3 * j/\Γ=apG ns m tb Z G B/\AI n tb xs st) (fun _ _ _ _=>by simp)
  (fun j x Γ st hj ⟨xs,Z,G,B,q,Y,I⟩=>by
   subst Y;have a4:j < m:=by simpa using (O1.mp hj).1
   obtain ⟨ys,z,d8,d9,a2,e,I'⟩:=Qt9 w I (by omega) ns m x G B;exact ⟨_,rfl,_,_,e,ys,_,_,_,by omega,rfl,I'⟩)
  ⟨[],_,_,_,rfl,rfl,IA⟩
 rw [G6] at q;have O:Q3w (Q3 (Q4 1) (Q3 (mOp Ww (Q4 1) (Q4 2)) Q9)) (apG ns m tb none none none) (A ++ [Cell.lst []] ++ [Cell.lst []])=.ok ((bV m).map fun k:Nat=>PV.int (1 + (k:Int)),[]) (A ++ [Cell.lst []] ++ [Cell.lst []]):=by
  rw [Qei,Q5 (m:=Q4 1) (p:=.int 1) rfl (Q5 (Qe (a:=Q4 1) (b:=Q4 2) (x:=.int 1) (y:=.int m) rfl rfl (Q67 _ _ _)) (show Q9 _ _=.ok [] _ from rfl)),J6];show (if -(lim:Int)<=1/\1<=(lim:Int)/\-(lim:Int)<=1 + (m:Int)/\1 + (m:Int)<=lim then _ else _)=_;rw [bJ (by rw [Zk]; omega),show (1 + (m:Int) - 1).toNat=m by omega]; rfl
 refine ⟨xs,z,q,I,?_⟩;have s1:Jh 4 (Qf 1 Xb (Q3 (Q4 3) Q9)) [some (.fro (ns.map .int)),some (.int 1),some (.int m),some (Q8 tb),none,none,none,none,none,none] []=.nx [some (.fro (ns.map .int)),some (.int 1),some (.int m),some (Q8 tb),some (.ref 3),none,none,none,none,none] A:=Je (Qx (n:=1) (Q5 rfl rfl) rfl e0);have s2:Jh 5 (Q0y (y0 Q9)) [some (.fro (ns.map .int)),some (.int 1),some (.int m),some (Q8 tb),some (.ref 3),none,none,none,none,none] A=.nx [some (.fro (ns.map .int)),some (.int 1),some (.int m),some (Q8 tb),some (.ref 3),some (.ref 4),none,none,none,none] (A ++ [.lst []]):=(Je (xx (ps:=[]) (S1:=A) rfl)).trans (by rw [lA]; rfl);have s3:Jh 6 (Q0y (y0 Q9)) [some (.fro (ns.map .int)),some (.int 1),some (.int m),some (Q8 tb),some (.ref 3),some (.ref 4),none,none,none,none] (A ++ [.lst []])=.nx (apG ns m tb none none none) (A ++ [.lst []] ++ [.lst []]):=(Je (xx (ps:=[]) (S1:=A ++ [.lst []]) rfl)).trans (by rw [O8,lA]; rfl)
 exact xq (m:=zj) (nl:=10) (Qm s1 (Qm s2 (Qm s3 (Qm (Q58 O e) (X0 (j8 (Q5 rfl (Q5 rfl (Q5 rfl rfl))) (by simp)))))))
theorem eq2 {st:Q2} {V W:PV} {xs:List PV} (h:ListAt st V xs) (k:ListAt st W xs) (g:Zm dep (.lst xs)=true):oEq st V W=.ok (.bl true) st:=by
 have hp:jb xs xs=true:=by have:=Q18 g; rwa [peq] at this
 have g2:Zm dep (.fro xs)=true:=g;rcases h with rfl | rfl | ⟨i,rfl,e⟩ <;> rcases k with rfl | rfl | ⟨j,rfl,f⟩
 ·simp [oEq,der,g,peq,hp]
 ·simp [oEq,der,g,g2,peq,hp]
 ·simp [oEq,der,g,g2,peq,hp,f]
 ·simp [oEq,der,g,g2,peq,hp]
 ·simp [oEq,der,g,g2,peq,hp]
 ·simp [oEq,der,g,g2,peq,hp,f]
 ·simp [oEq,der,g,g2,peq,hp,e]
 ·simp [oEq,der,g,g2,peq,hp,e]
 ·simp [oEq,der,g,g2,peq,hp,e,f]
theorem Qi5 (xs:List PV):Q39 xs xs=xs.map fun a=>.tup [a,a]:=by
 induction xs with
 | nil=>rfl
 | cons x xs j=>rw [Q39,j]; rfl
def SI (v:PV):Prop:=(∃ x,v=.str x)\/∃ k,v=.int k
theorem Qm6 (n:Nat):∀ (xs:List Dx) (s:RS),∀ v∈zw n s xs,SI v
 | [],_,v,h=>absurd h cW
 | x :: xs,s,v,h=>by
  rcases E3.mp h with h | h
  ·rw [h];cases x with
   | own d=>
    by_cases q:d.fits (s.now.getD d.h [])=true
    ·exact .inl ⟨_,bJ q⟩
    ·exact .inr ⟨_,bK q⟩
   | _=>exact .inl ⟨_,rfl⟩
  ·exact Qm6 n xs _ v h
theorem Q0j {T:String} {m:ME} {Γ:Gam} {S:Q2} {p:PV} {b:Bool} (h1:m Γ S=.ok p S) (h2:xh S p=false) (j:isI T (dpv S p)=b):Q32 T m Γ S=.ok (.bl b) S:=by
 rw [Qpa,h1,J6,h2,j]; rfl
theorem Qf6 {a b:ME} {Γ:Gam} {S:Q2} {r:Res PV} (h1:a Γ S=.ok (.bl true) S) (h2:b Γ S=r):Q51 a b Γ S=r:=by
 rw [Qpe,h1,J6,h2]; rfl
theorem Q5d {S:Q2} {P Q:Nat} {AV TV:PV} {an:List PV} {B:List Tab} (hP:S[P]?=some (.lst an)) (U:S[Q]?=some (.lst (B.map Q8))) (hA:ListAt S AV an) (hT:ListAt S TV (B.map Q8)) (hs:∀ v∈an,SI v) (hl:an.length<=1000):Yv [.tup [.ref P,.ref Q],AV,TV] S=.ok (.bl true) S:=by
 have LP:ListAt S (.ref P) an:=.inr (.inr ⟨P,rfl,hP⟩);have LQ:ListAt S (.ref Q) (B.map Q8):=.inr (.inr ⟨Q,rfl,U⟩);have g1:Zm dep (.lst an)=true:=by
  show an.all _=true;rw [F7];intro v hv;rcases hs v hv with ⟨x,rfl⟩ | ⟨k,rfl⟩ <;> rfl
 have g2:Zm dep (.lst (B.map Q8))=true:=by simp [dep,Zm,Q8,J0]
 obtain ⟨w1,s1,o1⟩:=LP.src;obtain ⟨w2,s2,o2⟩:=hA.src;obtain ⟨G,hG⟩:∃ G:Option PV->Option PV->Gam,G=fun q z=>[some (.tup [.ref P,.ref Q]),some AV,some TV,q,z]:=⟨_,rfl⟩
 obtain ⟨a2,j,e,⟨q,z,rfl⟩,rfl⟩:=Q1p (g:=fun a:PV=>PV.tup [a,a]) (xs:=an) (ga:=qx (Y0 (Qp 3) (Y0 (Qp 4) qy))) (body:=Q0x) (w:=w1 ++ w2) (Γ:=[some (.tup [.ref P,.ref Q]),some AV,some TV,none,none]) (st:=S)
  (fun _ Γ st=>(∃ q z,Γ=[some (.tup [.ref P,.ref Q]),some AV,some TV,q,z])/\st=S) (fun _ _ st ⟨_,h⟩=>by
   rw [h];exact fun x hx=>(E9.mp hx).elim (o1 x) (o2 x))
  (fun i a Γ st hi ⟨⟨q,z,Y⟩,hst⟩=>by
   subst Y; subst hst;refine ⟨_,rfl,_,_,Vd ?_ rfl,⟨_,_,rfl⟩,rfl⟩;rcases hs a (D2 hi) with ⟨x,rfl⟩ | ⟨k,rfl⟩
   ·exact Qb4 (J5 (Qe (Q0j (b:=true) rfl rfl rfl) (Q0j (b:=true) rfl rfl rfl) rfl)) (J5 (Q0j rfl rfl rfl))
   ·exact Qb4 (J5 (Qe (Q0j (b:=false) rfl rfl rfl) (Q0j (b:=false) rfl rfl rfl) rfl)) (J5 (Q0j rfl rfl rfl)))
  ⟨⟨_,_,rfl⟩,rfl⟩
 rw [<- Qi5] at e;have f0:∀ (q z:Option PV),mOp oIx (Q4 0) (mC (.int 0)) [some (.tup [.ref P,.ref Q]),some AV,some TV,q,z] j=.ok (.ref P) j:=fun _ _=>rfl
 have f1:∀ (q z:Option PV),mOp oIx (Q4 0) (mC (.int 1)) [some (.tup [.ref P,.ref Q]),some AV,some TV,q,z] j=.ok (.ref Q) j:=fun _ _=>rfl
 have I:xh j (.ref P)=false:=by unfold xh; simp only [hP]
 have J:xh j (.ref Q)=false:=by unfold xh; simp only [U]
 have O:isI "list" (dpv j (.ref P))=true:=by unfold dpv; simp only [hP]; rfl
 have Z:isI "list" (dpv j (.ref Q))=true:=by unfold dpv; simp only [U]; rfl
 have hz:Q63 (Q3 (mOp oIx (Q4 0) (mC (.int 0))) (Q3 (Q4 1) Q9)) [some (.tup [.ref P,.ref Q]),some AV,some TV,none,none] j=.ok (Q39 an an,w1 ++ w2) j:=by
  rw [Qp4,Q5 (f0 none none) (Q5 (m:=Q4 1) (p:=AV) (S1:=j) rfl (show Q9 _ j=.ok [] j from rfl)),J6];simp only [s1,s2];exact bJ (by rw [Zk]; omega)
 have step:yd [some (.tup [.ref P,.ref Q]),some AV,some TV,none,none] j=.rt (.bl true) j:=
  Qm (Vd (Qb4 (Q4w (J5 (Q0j (b:=true) rfl rfl rfl))) (Qb4 (J5 (Qe (Xv (Q5 rfl rfl) rfl) rfl rfl)) (Q4w (J5 (Q0j (f0 none none) I O))))) rfl) (Qm (Q58 hz e) (X0 (Qf6 (Qe (f0 _ _) rfl (eq2 LP hA g1)) (Qf6 (Q0j (f1 _ _) J Z) (Qe (f1 _ _) rfl (eq2 LQ hT g2))))))
 exact (Yw step).trans (Qkb j true)
theorem Qkr {mo:ME} {Γ:Gam} {S:Q2} {i:Nat} {xs:List PV} (h1:mo Γ S=.ok (.ref i) S) (h2:S[i]?=some (.lst xs)):Wc (Qek mo) Γ S=.nx Γ (S.set i (.lst [])):=by
 refine Q0m (v:=.non) ?_;unfold Qek;rw [h1,J6];simp only [h2]
theorem Qpj (C:aA):∀ ns:List Int,ns.length<=63->∃ st',Qqw C [.fro (ns.map .int)] []=.ok (.bl true) st':=by
 intro ns d2;obtain ⟨n,tb,hn,I0,e1⟩:=Qi4 ns;have w:=I0.w;have c:=I0.c;obtain ⟨m,hm,em⟩:∃ m:Nat,m<=13/\(if (if (ns.length:Int) - 1 < 13 then (ns.length:Int) - 1 else 13) > 4 then (if (ns.length:Int) - 1 < 13 then (ns.length:Int) - 1 else 13) else 4)=(m:Int):=by
  refine ⟨(if (if (ns.length:Int) - 1 < 13 then (ns.length:Int) - 1 else 13) > 4 then (if (ns.length:Int) - 1 < 13 then (ns.length:Int) - 1 else 13) else 4).toNat,?_,?_⟩ <;> split <;> split <;> omega
 obtain ⟨xs,S1,d3,A,e2⟩:=Qey I0 ns m hm;have a3:xs.length<=1000:=by omega
 have si:=Qm6 n xs (s0 n tb);have al:(zw n (s0 n tb) xs).length<=1000:=by rw [Q6j]; exact a3
 have gd:Zm dep (.lst (xs.map Dx.V))=true:=by
  show (xs.map Dx.V).all _=true;rw [F7];intro v hv;obtain ⟨x,_,rfl⟩:=cr.mp hv;cases x with
  | own d=>cases d <;> rfl
  | _=>rfl
 have l6:=A.len;obtain ⟨B,e3,b3,z,b0,b2⟩:=Q4m (C:=C) (S:=S1) (DV:=.lst (xs.map Dx.V)) (xs:=xs) (wt:=[]) w c (fun st _=>⟨rfl,xu st⟩) a3 A.ok;have b1:B[0]?=some (.lst ((Xi n (s0 n tb) xs).now.map Q8)):=by rw [z 0 (by omega)]; exact A.ls.now
 have a5:B[5]?=some (.lst (zw n (s0 n tb) xs)):=by rw [z 5 (by omega)]; exact A.an
 have c4:B[4]?=some (.lst (xs.map Dx.V)):=by rw [z 4 (by omega)]; exact A.de
 have c6:LS (Xi n (s0 n tb) xs) B:=A.ls.of fun t ht=>z t (by omega)
 have r2:=Q5d b0 b2 (AV:=.ref 5) (TV:=.ref 0) (.inr (.inr ⟨5,rfl,a5⟩)) (.inr (.inr ⟨0,rfl,b1⟩)) si al;have b7:=(ListAt.eqs (st:=B) (V:=.ref 4) (.inr (.inr ⟨4,rfl,c4⟩)) gd).1;obtain ⟨S3,O⟩:∃ S3,B.set (S1.length + n + 1) (.lst [])=S3:=⟨_,rfl⟩;have t3:S3[S1.length + n + 2]?=some (.lst ((Xi n (s0 n tb) xs).now.map Q8)):=by rw [<- O,O5 (by omega)]; exact b2
 obtain ⟨J,a4⟩:∃ J,S3.set (S1.length + n + 2) (.lst [])=J:=⟨_,rfl⟩;have d0:J.length=S1.length + n + 3:=by rw [<- a4,D5,<- O,D5,b3]
 have a2:∀ t,t < S1.length->J[t]?=S1[t]?:=fun t ht=>by rw [<- a4,O5 (by omega),<- O,O5 (by omega),z t ht]
 have c1:J[4]?=some (.lst (xs.map Dx.V)):=by rw [a2 4 (by omega)]; exact A.de
 obtain ⟨U,e5,d1,a7,c7,b6⟩:=Q4m (C:=C) (S:=J) (DV:=.ref 4) (xs:=xs) (wt:=[(4,.lst (xs.map Dx.V))]) w c (fun st c3=>by
  have q:st[4]?=some (.lst (xs.map Dx.V)):=by rw [c3 4 (by omega)]; exact c1
  refine ⟨?_,fun x hx=>?_⟩
  ·unfold Xz; simp only [q]
  ·rw [dk.mp hx]; exact q) a3 A.ok
 have I:∀ t,t < S1.length->U[t]?=S1[t]?:=fun t ht=>by rw [a7 t (by omega),a2 t ht]
 have b4:LS (Xi n (s0 n tb) xs) U:=A.ls.of fun t ht=>I t (by omega)
 have a6:U[5]?=some (.lst (zw n (s0 n tb) xs)):=by rw [I 5 (by omega)]; exact A.an
 have r5:=Q5d c7 b6 (AV:=.ref 5) (TV:=.ref 0) (.inr (.inr ⟨5,rfl,a6⟩)) (.inr (.inr ⟨0,rfl,b4.now⟩)) si al;obtain ⟨Y,e6,c9,c8,b8,b9⟩:=Q4m (C:=C) (S:=U) (DV:=.lst []) (xs:=[]) (wt:=[]) w c (fun st _=>⟨rfl,xu st⟩) (by simp) trivial;have c5:(tb.map fun _=>Q8 tb)=(bQ n tb).map Q8:=by
  rw [fE];exact fF.mpr ⟨by rw [O2,w.len],fun b hb=>by obtain ⟨_,_,rfl⟩:=cr.mp hb; rfl⟩
 have r6:=Q5d (AV:=.lst []) (TV:=.lst ((bQ n tb).map Q8)) b8 b9 (.inl rfl) (.inl rfl) (fun v hv=>absurd hv cW) (by simp [zw]);obtain ⟨G,Z⟩:∃ G:Gam,[some (PV.fro (ns.map .int)),some (Q8 tb),some (.ref 4),some (.ref 5),some (.ref 3),some (.lst (xs.map Dx.V)),some (.tup [.ref (S1.length + n + 1),.ref (S1.length + n + 2)])]=G:=⟨_,rfl⟩;have v1:∀ S,Q4 1 G S=.ok (Q8 tb) S:=fun S=>by rw [<- Z]; rfl
 have v2:∀ S,Q4 2 G S=.ok (.ref 4) S:=fun S=>by rw [<- Z]; rfl
 have v3:∀ S,Q4 3 G S=.ok (.ref 5) S:=fun S=>by rw [<- Z]; rfl
 have v4:∀ S,Q4 4 G S=.ok (.ref 3) S:=fun S=>by rw [<- Z]; rfl
 have v5:∀ S,Q4 5 G S=.ok (.lst (xs.map Dx.V)) S:=fun S=>by rw [<- Z]; rfl
 have v6:∀ S,Q4 6 G S=.ok (.tup [.ref (S1.length + n + 1),.ref (S1.length + n + 2)]) S:=fun S=>by rw [<- Z]; rfl
 have b5:Z3 (Qp 0) Zr (Qbi C) [] (Zp [none,some 1] G) (tb.map J0) Y=.ok ((bQ n tb).map Q8) Y:=by
  rw [<- c5,<- Z];exact W7 _ _ (by simp) fun j hj=>⟨_,rfl,rfl⟩
 have c0:yy (Q4 1) G Y=.ok (tb.map J0,[]) Y:=Qf4 (v1 Y) rfl (by rw [O2,w.len]; omega);have a9:Qhv [] [.int 13,.int ((ns.length:Int) - 1)]=.ok (.int (if (ns.length:Int) - 1 < 13 then (ns.length:Int) - 1 else 13)) []:=Qkx _ _ _;have a8:Q8k [] [.int 4,.int (if (ns.length:Int) - 1 < 13 then (ns.length:Int) - 1 else 13)]=.ok (.int m) []:=by rw [Qdi,em]
 have ln:Yx [] [.fro (ns.map .int)]=.ok (.int ns.length) []:=by simp
 have c2:Q1s S1 [.ref 4]=.ok (.lst (xs.map Dx.V)) S1:=(show ListAt S1 (.ref 4) (xs.map Dx.V) from .inr (.inr ⟨4,rfl,A.de⟩)).list;have k1:Jh 1 (Qf 1 Xd (Q3 (Q4 0) Q9)) [some (.fro (ns.map .int)),none,none,none,none,none,none] []=.nx [some (.fro (ns.map .int)),some (Q8 tb),none,none,none,none,none] []:=Je (Qx (n:=1) (Q5 rfl rfl) rfl e1);have k2:Qk0 (qx (Y0 (Qp 2) (Y0 (Qp 3) (Y0 (Qp 4) qy)))) (Qf 4 Uf (Q3 (Q4 0) (Q3 (mC (.int 1)) (Q3 (J7 Q8k (Q3 (mC (.int 4)) (Q3 (J7 Qhv (Q3 (mC (.int 13)) (Q3 (mOp (oI fun a b=>.int (a - b)) (J7 Yx (Q3 (Q4 0) Q9)) (mC (.int 1))) Q9))) Q9))) (Q3 (Q4 1) Q9))))) [some (.fro (ns.map .int)),some (Q8 tb),none,none,none,none,none] []=.nx [some (.fro (ns.map .int)),some (Q8 tb),some (.ref 4),some (.ref 5),some (.ref 3),none,none] S1:=
  Qta (Qx (n:=4) (Q5 rfl (Q5 rfl (Q5 (Xv (Q5 rfl (Q5 (Xv (Q5 rfl (Q5 (Qe (Xv (Q5 rfl rfl) ln) rfl (Qmk [] _ _)) rfl)) a9) rfl)) a8) (Q5 rfl rfl)))) rfl e2) rfl
 have k3:Jh 5 (J7 Q1s (Q3 (Q4 2) Q9)) [some (.fro (ns.map .int)),some (Q8 tb),some (.ref 4),some (.ref 5),some (.ref 3),none,none] S1=.nx [some (.fro (ns.map .int)),some (Q8 tb),some (.ref 4),some (.ref 5),some (.ref 3),some (.lst (xs.map Dx.V)),none] S1:=Je (Xv (Q5 rfl rfl) c2);have k4:Jh 6 (Qf 2 (Kh C) (Q3 (Q4 1) (Q3 (Q4 5) Q9))) [some (.fro (ns.map .int)),some (Q8 tb),some (.ref 4),some (.ref 5),some (.ref 3),some (.lst (xs.map Dx.V)),none] S1=.nx G B:=by
  rw [<- Z];exact Je (Qx (n:=2) (Q5 rfl (Q5 rfl rfl)) rfl e3)
 have k5:(Ym (Q11 (U9 (toB (Qf 3 Yv (Q3 (Q4 6) (Q3 (Q4 3) (Q3 (Wx (Q4 4) (mC (.str "now"))) Q9)))))) (toB (mOp oNe (Q4 5) (Q4 2)))) (Js (mC (.bl false))) Y1) G B=.nx G B:=
  Vd (Qb4 (Q4w (J5 (Qx (n:=3) (Q5 (v6 B) (Q5 (v3 B) (Q5 (zq (v4 B) rfl c6.gn) rfl))) rfl r2))) (J5 (Qe (v5 B) (v2 B) b7))) rfl
 have k6:Wc (Qek (mOp oIx (Q4 6) (mC (.int 0)))) G B=.nx G S3:=by rw [<- O]; exact Qkr (Qe (v6 B) rfl rfl) b0
 have k7:Wc (Qek (mOp oIx (Q4 6) (mC (.int 1)))) G S3=.nx G J:=by rw [<- a4]; exact Qkr (Qe (v6 S3) rfl rfl) t3
 have k8:(Ym (U9 (toB (Qf 3 Yv (Q3 (Qf 2 (Kh C) (Q3 (Q4 1) (Q3 (Q4 2) Q9))) (Q3 (Q4 3) (Q3 (Wx (Q4 4) (mC (.str "now"))) Q9)))))) (Js (mC (.bl false))) Y1) G J=.nx G U:=
  Vd (Q4w (J5 (Qx (n:=3) (Q5 (Qx (n:=2) (Q5 (v1 J) (Q5 (v2 J) rfl)) rfl e5) (Q5 (v3 U) (Q5 (zq (v4 U) rfl b4.gn) rfl))) rfl r5))) rfl
 have k9:Js (Qf 3 Yv (Q3 (Qf 2 (Kh C) (Q3 (Q4 1) (Q3 (Q3x Q9) Q9))) (Q3 (Q3x Q9) (Q3 (qd (Yh [none,some 1] (Qp 0) (yy (Q4 1)) Zr (Qbi C))) Q9)))) G U=.rt (.bl true) Y:=
  X0 (Qx (n:=3) (Q5 (Qx (n:=2) (Q5 (v1 U) (Q5 (Qbt (ps:=[]) rfl) rfl)) rfl e6) (Q5 (Qbt (ps:=[]) rfl) (Q5 (Q4a (jx c0 b5)) rfl))) rfl r6)
 have step:Qju C [some (.fro (ns.map .int)),none,none,none,none,none,none] []=.rt (.bl true) Y:=Qm k1 (Qm k2 (Qm k3 (Qm k4 (Qm k5 (Qm k6 (Qm k7 (Qm k8 k9)))))));exact ⟨[],(Yw step).trans (Q5b (st:=[]) (more:=Y) rfl)⟩
end Lw
namespace Lw
open PySem PySem.Spec L2 Sm
theorem all_mk {l:eT} {w:aL} {K:bP} {h:Heap} {mg:Str->Option aB} {fa f1 f2 f3 f4 f5 f6 f7 f8 f9 y2 B1 B5 B6 x5 y5 B7 x7 x6 z3 w3 z4 y1 y7 w6 C3 C6 o5 p4 o8 p3 p8 p5 o6 p1 p7 o9 o7 B0 z2 B2 B8 B4 z6 C0 z5 C8 C4 C2 x4 w5 w8 w4 C7 x2 z7 z0 B9 w1 C1:aA} (X:K.In h) (G:h.Ns aQ mg) (hfa:mg "law" = some (.ref fa))
  {od1 an1 od2 an2 od3 an3 od4 an4 od5 an5 od6 an6 od7 an7 od8 an8 od9 an9 od10 an10 od11 an11 od12 an12 od13 an13 od14 G3 od15 N7 od16 an16 od17 E1 od18 an18 od19 L4 od20 an20 R7 an21 N3 an22 T0 an23 od24 an24 od25 N4 od26 an26 od27 an27 od28 an28 od29 an29 od30 an30 od31 an31 od32 an32 od33 an33 od34 an34 od35 L6 od36 an36 od37 an37 I4 an38 od39 M9 od40 an40 od41 L9 R5 an42 P5 an43 od44 P6 N2 I1 od46 an46 od47 an47 od48 an48 od49 an49 G0 L7 od51 an51 od52 an52 od53 an53 od54 an54 S5 an55 N8 an56 od57 an57 od58 an58 od59 t6:Option aA}
  {sl1 sl2 sl3 sl4 sl5 sl6 sl7 sl8 sl9 N9 sl11 sl12 sl13 V2 sl15 sl16 sl17 sl18 sl19 P7 G9 sl22 H8 sl24 sl25 S6 T3 sl28 sl29 sl30 sl31 sl32 sl33 M6 sl35 sl36 sl37 sl38 sl39 sl40 R0 sl42 sl43 sl44 sl45 sl46 sl47 sl48 M8 S4 G5 G2 sl53 sl54 sl55 I6 sl57 H6 sl59:Array (Option aB)}
  {oc1 kV1 dc1 pm1 cd1 ct1 oc2 kV2 dc2 pm2 cd2 ct2 oc3 kV3 dc3 pm3 cd3 ct3 oc4 kV4 dc4 pm4 cd4 ct4 oc5 kV5 dc5 pm5 cd5 ct5 oc6 kV6 dc6 pm6 S8 ct6 oc7 kV7 dc7 pm7 cd7 ct7 oc8 kV8 dc8 pm8 cd8 ct8 oc9 kV9 dc9 pm9 cd9 ct9 oc10 kV10 dc10 pm10 u3 ct10 oc11 kV11 dc11 pm11 t9 ct11 R1 H3 dc12 pm12 v7 ct12 oc13 kV13 dc13 pm13 p9 S0 oc14 kV14 dc14 H5 q5 ct14 oc15 kV15 dc15 pm15 t8 ct15 oc16 I5 dc16 pm16 v6 ct16 oc17 kV17 dc17 P2 u2 ct17 M3 kV18 dc18 pm18 r0 N6 oc19 kV19 dc19 pm19 v4 ct19 oc20 G7 dc20 pm20 u6 ct20 oc21 kV21 dc21 pm21 r1 ct21 oc22 kV22 dc22 pm22 v8 ct22 oc23 kV23 R3 pm23 u5 ct23 oc24 kV24 R8 pm24 q9 ct24 oc25 kV25 dc25 pm25 s4 ct25 oc26 kV26 L8 P3 w0 ct26 oc27 kV27 dc27 pm27 u7 ct27 oc28 kV28 dc28 G8 r5 ct28 L1 L2 dc29 T4 r9 ct29 oc30 kV30 dc30 pm30 s8 H4 oc31 kV31 dc31 pm31 v9 ct31 oc32 kV32 dc32 pm32 q7 P8 oc33 T7 dc33 pm33 u9 ct33 oc34 kV34 dc34 pm34 s6 ct34 oc35 kV35 dc35 pm35 s9 ct35 oc36 kV36 P9 pm36 r8 P0 oc37 kV37 dc37 pm37 t1 ct37 M4 L3 dc38 pm38 q6 ct38 I3 kV39 dc39 pm39 r7 ct39 oc40 kV40 dc40 pm40 r3 ct40 oc41 kV41 dc41 pm41 v1 ct41 oc42 kV42 dc42 P1 s7 ct42 oc43 N5 dc43 pm43 v3 ct43 oc44 kV44 dc44 pm44 t5 ct44 oc45 kV45 dc45 pm45 q4 ct45 H7 S7 dc46 pm46 t0 ct46 oc47 kV47 dc47 pm47 r6 ct47 L0 G4 M0 pm48 q8 ct48 oc49 kV49 dc49 pm49 v0 ct49 I9 S2 dc50 pm50 u1 ct50 oc51 L5 dc51 T1 u4 ct51 oc52 kV52 dc52 pm52 u8 ct52 R4 kV53 dc53 pm53 t2 ct53 oc54 kV54 dc54 pm54 v2 T5 oc55 G1 dc55 pm55 r4 ct55 oc56 kV56 dc56 pm56 s5 ct56 oc57 N1 dc57 pm57 t7 ct57 oc58 kV58 dc58 I2 q0 ct58 oc59 r2 u0 v5 o1 t4:aB}
  {i1 g3 d3 g5:aA}
  {eH:aA}
  {e6:Tok}
  {eW eS fI pd xN:aA} {xnm xqn:Str} {xbs xsub:List aB} {xsn:List Str} {xab:Bool} {xcol:Option Bool} {xdd odI anI:Option aA} {xk0 xk1 xk2 xk3 xk5:Option aB} {slI:Array (Option aB)} {kVI dcI pmI cdI ctI:aB} {pt1 pt2 pt3 pu1 pu2 pu3:Tok} {pep:Nat} {cdx:ClassData} {A0:aA} {qt1 qt2 qt3 qt4 qu1 qu2 qu3 qu4:Tok} {pepO:Nat}
  (aH:bR K aQ "House" = some (some (.ref eH))) (Hpg:cv K eH fT=true) (Hhd:dL K eH=true) (Hpo:eA K eH=true) (Hsa:bX K (.ref eH) "__setattr__" = some (some (.builtin "object.__setattr__"))) (Hmk:eC K eH=true) (Hkc:bS K (.ref eH)=true)
  (k0:bX K (.ref eH) "number" = some none)
  (p0:bX K (.ref eH) "now" = some none)
  (n9:bX K (.ref eH) "kept" = some none)
  (a1:bR K aQ "_wall" = some (some (.ref f1))) (l1:K.lookup f1=some ⟨oc1,od1,.func (bT "_wall" "_wall" (Qq Q20) (Qn Q20) (Q6 Q20) .none kV1 dc1 pm1 an1 cd1 ct1),sl1⟩) (c1:bU K cd1 "_wall" = true) (k1:bS K (.ref f1)=true)
  (a2:bR K aQ "is_whole" = some (some (.ref f2))) (l2:K.lookup f2=some ⟨oc2,od2,.func (bT "is_whole" "is_whole" (Qq Kw) (Qn Kw) (Q6 Kw) .none kV2 dc2 pm2 an2 cd2 ct2),sl2⟩) (c2:bU K cd2 "is_whole" = true) (k2:bS K (.ref f2)=true)
  (a3:bR K aQ "is_between" = some (some (.ref f3))) (l3:K.lookup f3=some ⟨oc3,od3,.func (bT "is_between" "is_between" (Qq Uh) (Qn Uh) (Q6 Uh) .none kV3 dc3 pm3 an3 cd3 ct3),sl3⟩) (c3:bU K cd3 "is_between" = true) (k3:bS K (.ref f3)=true)
  (a4:bR K aQ "is_row" = some (some (.ref f4))) (l4:K.lookup f4=some ⟨oc4,od4,.func (bT "is_row" "is_row" (Qq yu) (Qn yu) (Q6 yu) .none kV4 dc4 pm4 an4 cd4 ct4),sl4⟩) (c4:bU K cd4 "is_row" = true) (k4:bS K (.ref f4)=true)
  (a5:bR K aQ "is_table" = some (some (.ref f5))) (l5:K.lookup f5=some ⟨oc5,od5,.func (bT "is_table" "is_table" (Qq Kx) (Qn Kx) (Q6 Kx) .none kV5 dc5 pm5 an5 cd5 ct5),sl5⟩) (c5:bU K cd5 "is_table" = true) (k5:bS K (.ref f5)=true)
  (a6:bR K aQ "is_house" = some (some (.ref f6))) (l6:K.lookup f6=some ⟨oc6,od6,.func (bT "is_house" "is_house" (Qq Ky) (Qn Ky) (Q6 Ky) .none kV6 dc6 pm6 an6 S8 ct6),sl6⟩) (c6:bU K S8 "is_house" = true) (k6:bS K (.ref f6)=true)
  (a7:bR K aQ "rights" = some (some (.ref f7))) (l7:K.lookup f7=some ⟨oc7,od7,.func (bT "rights" "rights" (Qq yn) (Qn yn) (Q6 yn) .none kV7 dc7 pm7 an7 cd7 ct7),sl7⟩) (c7:bU K cd7 "rights" = true) (k7:bS K (.ref f7)=true)
  (a8:bR K aQ "need_as_many_houses" = some (some (.ref f8))) (l8:K.lookup f8=some ⟨oc8,od8,.func (bT "need_as_many_houses" "need_as_many_houses" (Qq Y3) (Qn Y3) (Q6 Y3) .none kV8 dc8 pm8 an8 cd8 ct8),sl8⟩) (c8:bU K cd8 "need_as_many_houses" = true) (k8:bS K (.ref f8)=true)
  (a9:bR K aQ "is_row_within" = some (some (.ref f9))) (l9:K.lookup f9=some ⟨oc9,od9,.func (bT "is_row_within" "is_row_within" (Qq Wj) (Qn Wj) (Q6 Wj) .none kV9 dc9 pm9 an9 cd9 ct9),sl9⟩) (c9:bU K cd9 "is_row_within" = true) (k9:bS K (.ref f9)=true)
  (a10:bR K aQ "joined_row" = some (some (.ref y2))) (l10:K.lookup y2=some ⟨oc10,od10,.func (bT "joined_row" "joined_row" (Qq Ug) (Qn Ug) (Q6 Ug) .none kV10 dc10 pm10 an10 u3 ct10),N9⟩) (c10:bU K u3 "joined_row" = true) (k10:bS K (.ref y2)=true)
  (a11:bR K aQ "joined" = some (some (.ref B1))) (l11:K.lookup B1=some ⟨oc11,od11,.func (bT "joined" "joined" (Qq yt) (Qn yt) (Q6 yt) .none kV11 dc11 pm11 an11 t9 ct11),sl11⟩) (c11:bU K t9 "joined" = true) (k11:bS K (.ref B1)=true)
  (a12:bR K aQ "is_text_and_numbers" = some (some (.ref B5))) (l12:K.lookup B5=some ⟨R1,od12,.func (bT "is_text_and_numbers" "is_text_and_numbers" (Qq Y4) (Qn Y4) (Q6 Y4) .none H3 dc12 pm12 an12 v7 ct12),sl12⟩) (c12:bU K v7 "is_text_and_numbers" = true) (k12:bS K (.ref B5)=true)
  (a13:bR K aQ "is_deed" = some (some (.ref B6))) (l13:K.lookup B6=some ⟨oc13,od13,.func (bT "is_deed" "is_deed" (Qq z9) (Qn z9) (Q6 z9) .none kV13 dc13 pm13 an13 p9 S0),sl13⟩) (c13:bU K p9 "is_deed" = true) (k13:bS K (.ref B6)=true)
  (a14:bR K aQ "need_houses_of_deed" = some (some (.ref x5))) (l14:K.lookup x5=some ⟨oc14,od14,.func (bT "need_houses_of_deed" "need_houses_of_deed" (Qq Y2) (Qn Y2) (Q6 Y2) .none kV14 dc14 H5 G3 q5 ct14),V2⟩) (c14:bU K q5 "need_houses_of_deed" = true) (k14:bS K (.ref x5)=true)
  (a15:bR K aQ "place_in_row" = some (some (.ref y5))) (l15:K.lookup y5=some ⟨oc15,od15,.func (bT "place_in_row" "place_in_row" (Qq V4) (Qn V4) (Q6 V4) .none kV15 dc15 pm15 N7 t8 ct15),sl15⟩) (c15:bU K t8 "place_in_row" = true) (k15:bS K (.ref y5)=true)
  (a16:bR K aQ "raised" = some (some (.ref B7))) (l16:K.lookup B7=some ⟨oc16,od16,.func (bT "raised" "raised" (Qq yq) (Qn yq) (Q6 yq) .none I5 dc16 pm16 an16 v6 ct16),sl16⟩) (c16:bU K v6 "raised" = true) (k16:bS K (.ref B7)=true)
  (a17:bR K aQ "done" = some (some (.ref x7))) (l17:K.lookup x7=some ⟨oc17,od17,.func (bT "done" "done" (Qq Q4i) (Qn Q4i) (Q6 Q4i) .none kV17 dc17 P2 E1 u2 ct17),sl17⟩) (c17:bU K u2 "done" = true) (k17:bS K (.ref x7)=true)
  (a18:bR K aQ "made_some" = some (some (.ref x6))) (l18:K.lookup x6=some ⟨M3,od18,.func (bT "made_some" "made_some" (Qq Xq) (Qn Xq) (Q6 Xq) .none kV18 dc18 pm18 an18 r0 N6),sl18⟩) (c18:bU K r0 "made_some" = true) (k18:bS K (.ref x6)=true)
  (a19:bR K aQ "lent_or_used_some" = some (some (.ref z3))) (l19:K.lookup z3=some ⟨oc19,od19,.func (bT "lent_or_used_some" "lent_or_used_some" (Qq Yk) (Qn Yk) (Q6 Yk) .none kV19 dc19 pm19 L4 v4 ct19),sl19⟩) (c19:bU K v4 "lent_or_used_some" = true) (k19:bS K (.ref z3)=true)
  (a20:bR K aQ "was_lent_some" = some (some (.ref w3))) (l20:K.lookup w3=some ⟨oc20,od20,.func (bT "was_lent_some" "was_lent_some" (Qq Wh) (Qn Wh) (Q6 Wh) .none G7 dc20 pm20 an20 u6 ct20),P7⟩) (c20:bU K u6 "was_lent_some" = true) (k20:bS K (.ref w3)=true)
  (a21:bR K aQ "has_root" = some (some (.ref z4))) (l21:K.lookup z4=some ⟨oc21,R7,.func (bT "has_root" "has_root" (Qq Kz) (Qn Kz) (Q6 Kz) .none kV21 dc21 pm21 an21 r1 ct21),G9⟩) (c21:bU K r1 "has_root" = true) (k21:bS K (.ref z4)=true)
  (a22:bR K aQ "rooted_houses" = some (some (.ref y1))) (l22:K.lookup y1=some ⟨oc22,N3,.func (bT "rooted_houses" "rooted_houses" (Qq Wi) (Qn Wi) (Q6 Wi) .none kV22 dc22 pm22 an22 v8 ct22),sl22⟩) (c22:bU K v8 "rooted_houses" = true) (k22:bS K (.ref y1)=true)
  (a23:bR K aQ "rootless_houses" = some (some (.ref y7))) (l23:K.lookup y7=some ⟨oc23,T0,.func (bT "rootless_houses" "rootless_houses" (Qq W0) (Qn W0) (Q6 W0) .none kV23 R3 pm23 an23 u5 ct23),H8⟩) (c23:bU K u5 "rootless_houses" = true) (k23:bS K (.ref y7)=true)
  (a24:bR K aQ "comes_about" = some (some (.ref w6))) (l24:K.lookup w6=some ⟨oc24,od24,.func (bT "comes_about" "comes_about" (Qq Vt) (Qn Vt) (Q6 Vt) .none kV24 R8 pm24 an24 q9 ct24),sl24⟩) (c24:bU K q9 "comes_about" = true) (k24:bS K (.ref w6)=true)
  (a25:bR K aQ "does_come_about" = some (some (.ref C3))) (l25:K.lookup C3=some ⟨oc25,od25,.func (bT "does_come_about" "does_come_about" (Qq W1) (Qn W1) (Q6 W1) .none kV25 dc25 pm25 N4 s4 ct25),sl25⟩) (c25:bU K s4 "does_come_about" = true) (k25:bS K (.ref C3)=true)
  (a26:bR K aQ "need_comes_about" = some (some (.ref C6))) (l26:K.lookup C6=some ⟨oc26,od26,.func (bT "need_comes_about" "need_comes_about" (Qq Yt) (Qn Yt) (Q6 Yt) .none kV26 L8 P3 an26 w0 ct26),S6⟩) (c26:bU K w0 "need_comes_about" = true) (k26:bS K (.ref C6)=true)
  (a27:bX K (.ref eH) "__init__" = some (some (.ref o5))) (i27:bf K (.ref o5)=true) (l27:K.lookup o5=some ⟨oc27,od27,.func (bT "__init__" "House.__init__" (Qq Wd) (Qn Wd) (Q6 Wd) .none kV27 dc27 pm27 an27 u7 ct27),T3⟩) (c27:bU K u7 "House.__init__" = true) (k27:bS K (.ref o5)=true)
  (a28:bX K (.ref eH) "make" = some (some (.ref p4))) (i28:bf K (.ref p4)=true) (l28:K.lookup p4=some ⟨oc28,od28,.func (bT "make" "House.make" (Qq Ur) (Qn Ur) (Q6 Ur) .none kV28 dc28 G8 an28 r5 ct28),sl28⟩) (c28:bU K r5 "House.make" = true) (T2:bS K (.ref p4)=true)
  (a29:bX K (.ref eH) "lend" = some (some (.ref o8))) (i29:bf K (.ref o8)=true) (l29:K.lookup o8=some ⟨L1,od29,.func (bT "lend" "House.lend" (Qq Us) (Qn Us) (Q6 Us) .none L2 dc29 T4 an29 r9 ct29),sl29⟩) (c29:bU K r9 "House.lend" = true) (T9:bS K (.ref o8)=true)
  (a30:bX K (.ref eH) "use" = some (some (.ref p3))) (i30:bf K (.ref p3)=true) (l30:K.lookup p3=some ⟨oc30,od30,.func (bT "use" "House.use" (Qq Xs) (Qn Xs) (Q6 Xs) .none kV30 dc30 pm30 an30 s8 H4),sl30⟩) (c30:bU K s8 "House.use" = true) (k30:bS K (.ref p3)=true)
  (a31:bX K (.ref eH) "keep" = some (some (.ref p8))) (i31:bf K (.ref p8)=true) (l31:K.lookup p8=some ⟨oc31,od31,.func (bT "keep" "House.keep" (Qq Ut) (Qn Ut) (Q6 Ut) .none kV31 dc31 pm31 an31 v9 ct31),sl31⟩) (c31:bU K v9 "House.keep" = true) (T8:bS K (.ref p8)=true)
  (a32:bX K (.ref eH) "fall" = some (some (.ref p5))) (i32:bf K (.ref p5)=true) (l32:K.lookup p5=some ⟨oc32,od32,.func (bT "fall" "House.fall" (Qq Uu) (Qn Uu) (Q6 Uu) .none kV32 dc32 pm32 an32 q7 P8),sl32⟩) (c32:bU K q7 "House.fall" = true) (k32:bS K (.ref p5)=true)
  (a33:bX K (.ref eH) "letter" = some (some (.ref o6))) (i33:bf K (.ref o6)=true) (l33:K.lookup o6=some ⟨oc33,od33,.func (bT "letter" "House.letter" (Qq Va) (Qn Va) (Q6 Va) .none T7 dc33 pm33 an33 u9 ct33),sl33⟩) (c33:bU K u9 "House.letter" = true) (k33:bS K (.ref o6)=true)
  (a34:bX K (.ref eH) "come" = some (some (.ref p1))) (i34:bf K (.ref p1)=true) (l34:K.lookup p1=some ⟨oc34,od34,.func (bT "come" "House.come" (Qq Uv) (Qn Uv) (Q6 Uv) .none kV34 dc34 pm34 an34 s6 ct34),M6⟩) (c34:bU K s6 "House.come" = true) (k34:bS K (.ref p1)=true)
  (a35:bX K (.ref eH) "table" = some (some (.ref p7))) (i35:bf K (.ref p7)=true) (l35:K.lookup p7=some ⟨oc35,od35,.func (bT "table" "House.table" (Qq U0) (Qn U0) (Q6 U0) .none kV35 dc35 pm35 L6 s9 ct35),sl35⟩) (c35:bU K s9 "House.table" = true) (k35:bS K (.ref p7)=true)
  (a36:bX K (.ref eH) "rights" = some (some (.ref o9))) (i36:bf K (.ref o9)=true) (l36:K.lookup o9=some ⟨oc36,od36,.func (bT "rights" "House.rights" (Qq V9) (Qn V9) (Q6 V9) .none kV36 P9 pm36 an36 r8 P0),sl36⟩) (c36:bU K r8 "House.rights" = true) (k36:bS K (.ref o9)=true)
  (a37:bX K (.ref eH) "used" = some (some (.ref o7))) (i37:bf K (.ref o7)=true) (l37:K.lookup o7=some ⟨oc37,od37,.func (bT "used" "House.used" (Qq Uq) (Qn Uq) (Q6 Uq) .none kV37 dc37 pm37 an37 t1 ct37),sl37⟩) (c37:bU K t1 "House.used" = true) (k37:bS K (.ref o7)=true)
  (a38:bR K aQ "is_other_deed" = some (some (.ref B0))) (l38:K.lookup B0=some ⟨M4,I4,.func (bT "is_other_deed" "is_other_deed" (Qq Wk) (Qn Wk) (Q6 Wk) .none L3 dc38 pm38 an38 q6 ct38),sl38⟩) (c38:bU K q6 "is_other_deed" = true) (k38:bS K (.ref B0)=true)
  (a39:bR K aQ "need_deed_of_run" = some (some (.ref z2))) (l39:K.lookup z2=some ⟨I3,od39,.func (bT "need_deed_of_run" "need_deed_of_run" (Qq Ys) (Qn Ys) (Q6 Ys) .none kV39 dc39 pm39 M9 r7 ct39),sl39⟩) (c39:bU K r7 "need_deed_of_run" = true) (k39:bS K (.ref z2)=true)
  (a40:bR K aQ "do_own_deed" = some (some (.ref B2))) (l40:K.lookup B2=some ⟨oc40,od40,.func (bT "do_own_deed" "do_own_deed" (Qq Vs) (Qn Vs) (Q6 Vs) .none kV40 dc40 pm40 an40 r3 ct40),sl40⟩) (c40:bU K r3 "do_own_deed" = true) (k40:bS K (.ref B2)=true)
  (a41:bR K aQ "do_other_deed" = some (some (.ref B8))) (l41:K.lookup B8=some ⟨oc41,od41,.func (bT "do_other_deed" "do_other_deed" (Qq Wm) (Qn Wm) (Q6 Wm) .none kV41 dc41 pm41 L9 v1 ct41),R0⟩) (c41:bU K v1 "do_other_deed" = true) (k41:bS K (.ref B8)=true)
  (a42:bR K aQ "answer_to" = some (some (.ref B4))) (l42:K.lookup B4=some ⟨oc42,R5,.func (bT "answer_to" "answer_to" (Qq Xr) (Qn Xr) (Q6 Xr) .none kV42 dc42 P1 an42 s7 ct42),sl42⟩) (c42:bU K s7 "answer_to" = true) (k42:bS K (.ref B4)=true)
  (a43:bR K aQ "played" = some (some (.ref z6))) (l43:K.lookup z6=some ⟨oc43,P5,.func (bT "played" "played" (Qq yr) (Qn yr) (Q6 yr) .none N5 dc43 pm43 an43 v3 ct43),sl43⟩) (c43:bU K v3 "played" = true) (k43:bS K (.ref z6)=true)
  (a44:bR K aQ "_law_acell" = some (some (.ref C0))) (l44:K.lookup C0=some ⟨oc44,od44,.func (bT "_law_acell" "_law_acell" (Qq Um) (Qn Um) (Q6 Um) .none kV44 dc44 pm44 P6 t5 ct44),sl44⟩) (c44:bU K t5 "_law_acell" = true) (k44:bS K (.ref C0)=true)
  (a45:bR K aQ "_law_atape" = some (some (.ref z5))) (l45:K.lookup z5=some ⟨oc45,N2,.func (bT "_law_atape" "_law_atape" (Qq Ui) (Qn Ui) (Q6 Ui) .none kV45 dc45 pm45 I1 q4 ct45),sl45⟩) (c45:bU K q4 "_law_atape" = true) (k45:bS K (.ref z5)=true)
  (a46:bR K aQ "_law_adigit" = some (some (.ref C8))) (l46:K.lookup C8=some ⟨H7,od46,.func (bT "_law_adigit" "_law_adigit" (Qq Vy) (Qn Vy) (Q6 Vy) .none S7 dc46 pm46 an46 t0 ct46),sl46⟩) (c46:bU K t0 "_law_adigit" = true) (k46:bS K (.ref C8)=true)
  (a47:bR K aQ "_law_arights" = some (some (.ref C4))) (l47:K.lookup C4=some ⟨oc47,od47,.func (bT "_law_arights" "_law_arights" (Qq V5) (Qn V5) (Q6 V5) .none kV47 dc47 pm47 an47 r6 ct47),sl47⟩) (c47:bU K r6 "_law_arights" = true) (k47:bS K (.ref C4)=true)
  (a48:bR K aQ "_law_abare" = some (some (.ref C2))) (l48:K.lookup C2=some ⟨L0,od48,.func (bT "_law_abare" "_law_abare" (Qq Up) (Qn Up) (Q6 Up) .none G4 M0 pm48 an48 q8 ct48),sl48⟩) (c48:bU K q8 "_law_abare" = true) (k48:bS K (.ref C2)=true)
  (a49:bR K aQ "_law_araised" = some (some (.ref x4))) (l49:K.lookup x4=some ⟨oc49,od49,.func (bT "_law_araised" "_law_araised" (Qq V6) (Qn V6) (Q6 V6) .none kV49 dc49 pm49 an49 v0 ct49),M8⟩) (c49:bU K v0 "_law_araised" = true) (k49:bS K (.ref x4)=true)
  (a50:bR K aQ "_law_ajoined" = some (some (.ref w5))) (l50:K.lookup w5=some ⟨I9,G0,.func (bT "_law_ajoined" "_law_ajoined" (Qq V8) (Qn V8) (Q6 V8) .none S2 dc50 pm50 L7 u1 ct50),S4⟩) (c50:bU K u1 "_law_ajoined" = true) (k50:bS K (.ref w5)=true)
  (a51:bR K aQ "_law_amuch" = some (some (.ref w8))) (l51:K.lookup w8=some ⟨oc51,od51,.func (bT "_law_amuch" "_law_amuch" (Qq Uk) (Qn Uk) (Q6 Uk) .none L5 dc51 T1 an51 u4 ct51),G5⟩) (c51:bU K u4 "_law_amuch" = true) (k51:bS K (.ref w8)=true)
  (a52:bR K aQ "_law_atable" = some (some (.ref w4))) (l52:K.lookup w4=some ⟨oc52,od52,.func (bT "_law_atable" "_law_atable" (Qq Vu) (Qn Vu) (Q6 Vu) .none kV52 dc52 pm52 an52 u8 ct52),G2⟩) (c52:bU K u8 "_law_atable" = true) (k52:bS K (.ref w4)=true)
  (a53:bR K aQ "_law_astart" = some (some (.ref C7))) (l53:K.lookup C7=some ⟨R4,od53,.func (bT "_law_astart" "_law_astart" (Qq Vv) (Qn Vv) (Q6 Vv) .none kV53 dc53 pm53 an53 t2 ct53),sl53⟩) (c53:bU K t2 "_law_astart" = true) (k53:bS K (.ref C7)=true)
  (a54:bR K aQ "_law_astep" = some (some (.ref x2))) (l54:K.lookup x2=some ⟨oc54,od54,.func (bT "_law_astep" "_law_astep" (Qq Uj) (Qn Uj) (Q6 Uj) .none kV54 dc54 pm54 an54 v2 T5),sl54⟩) (c54:bU K v2 "_law_astep" = true) (k54:bS K (.ref x2)=true)
  (a55:bR K aQ "_law_adrawn" = some (some (.ref z7))) (l55:K.lookup z7=some ⟨oc55,S5,.func (bT "_law_adrawn" "_law_adrawn" (Qq Vx) (Qn Vx) (Q6 Vx) .none G1 dc55 pm55 an55 r4 ct55),sl55⟩) (c55:bU K r4 "_law_adrawn" = true) (k55:bS K (.ref z7)=true)
  (a56:bR K aQ "_law_aplayed" = some (some (.ref z0))) (l56:K.lookup z0=some ⟨oc56,N8,.func (bT "_law_aplayed" "_law_aplayed" (Qq V7) (Qn V7) (Q6 V7) .none kV56 dc56 pm56 an56 s5 ct56),I6⟩) (c56:bU K s5 "_law_aplayed" = true) (k56:bS K (.ref z0)=true)
  (a57:bR K aQ "_law_abegun" = some (some (.ref B9))) (l57:K.lookup B9=some ⟨oc57,od57,.func (bT "_law_abegun" "_law_abegun" (Qq Vz) (Qn Vz) (Q6 Vz) .none N1 dc57 pm57 an57 t7 ct57),sl57⟩) (c57:bU K t7 "_law_abegun" = true) (k57:bS K (.ref B9)=true)
  (a58:bR K aQ "_law_aright" = some (some (.ref w1))) (l58:K.lookup w1=some ⟨oc58,od58,.func (bT "_law_aright" "_law_aright" (Qq Vw) (Qn Vw) (Q6 Vw) .none kV58 dc58 I2 an58 q0 ct58),H6⟩) (c58:bU K q0 "_law_aright" = true) (k58:bS K (.ref w1)=true)
  (a59:bR K aQ "law" = some (some (.ref C1))) (l59:K.lookup C1=some ⟨oc59,od59,.func (bT "law" "law" (Qq Q3g) (Qn Q3g) (Q6 Q3g) .none r2 u0 v5 t6 o1 t4),sl59⟩) (c59:bU K o1 "law" = true) (k59:bS K (.ref C1)=true)
  (c0:bR K aQ "rights_tables" = some (some (.ref f7)))
  (x0:bR K aQ "all" = some none)
  (w2:bR K aQ "any" = some none)
  (o4:bR K aQ "bool" = some none)
  (x1:bR K aQ "int" = some none)
  (h8:bR K aQ "isinstance" = some none)
  (x3:bR K aQ "len" = some none)
  (p6:bR K aQ "list" = some none)
  (B3:bR K aQ "max" = some none)
  (C5:bR K aQ "min" = some none)
  (o0:bR K aQ "range" = some none)
  (w7:bR K aQ "str" = some none)
  (z1:bR K aQ "sum" = some none)
  (o2:bR K aQ "tuple" = some none)
  (w9:bR K aQ "zip" = some none)
  (e7:bR K aQ "MOST_HOUSES" = some (some (.int 8 e6)))
  (n2:bR K aQ "NoDeed" = some (some (.ref i1))) (m8:ba K i1 Xn "ValueError.__new__" = true)
  (l0:bR K aQ "NoHouse" = some (some (.ref g3))) (m5:ba K g3 Xn "ValueError.__new__" = true)
  (i7:bR K aQ "NoLetter" = some (some (.ref d3))) (i6:ba K d3 Xn "ValueError.__new__" = true)
  (m6:bR K aQ "NoTable" = some (some (.ref g5))) (m4:ba K g5 Xn "ValueError.__new__" = true)
  (nW:bR K aQ "WharfError" = some (some (.ref eW)))
  (nS:bR K aQ "Short" = some (some (.ref eS)))
  (xlk:K.lookup eS=some (excClassObj xnm xqn eS xN xbs (.ref eW :: Xn) true xsn xsub xab xcol xdd xk0 xk1 xk2 xk3 xk5 "ValueError.__new__"))
  (xw:ba K eW Xn "ValueError.__new__" = true)
  (xfi:bX K (.ref eS) "__init__" = some (some (.ref fI)))
  (li:K.lookup fI=some ⟨.type "function",odI,.func (bT "__init__" "Short.__init__" (Qq Q9x) (Qn Q9x) (Q6 Q9x) .none kVI dcI pmI anI cdI ctI),slI⟩)
  (ci:bU K cdI "Short.__init__" = true)
  (ki:bS K (.ref fI)=true)
  (xkp:bS K (.ref eS)=true)
  (S3:eF K (.ref eW) "__getattribute__" = some (some (.builtin "type.__getattribute__")))
  (xcrd:PySem.W.readsIn K eW (.type "type")=true)
  (xcfc:PySem.W.findCls K (.ref eW) (.type "type") "__init__" = some (.val (.builtin "ValueError.__init__")))
  (xsa:bX K (.ref eS) "__setattr__" = some (some (.builtin "object.__setattr__")))
  (xno:bX K (.ref eS) "had" = some none)
  (xob:eG K eS (.type "object")=some true)
  (xes:dA K (.ref eS) (.ref eS)=some true)
  (pns:bR K aQ "PARTS_OF_DEED" = some (some (.ref pd)))
  (plk:K.lookup pd=some ⟨.type "dict",none,.dict #[⟨PyData.keyHash w.params "make",.str "make" pt1,.int 3 pu1⟩,⟨PyData.keyHash w.params "lend",.str "lend" pt2,.int 4 pu2⟩,⟨PyData.keyHash w.params "use",.str "use" pt3,.int 3 pu3⟩] pep,#[]⟩)
  (psm:(pd == af)=false)
  (I8:dl K eS=some cdx)
  (xga:bX K (.ref eS) "__getattribute__" = some (some (.builtin "BaseException.__getattribute__")))
  (xgt:bX K (.ref eS) "__getattr__" = some none)
  (xcl:bX K (.ref eS) "__class__" = some (some (.builtin "object.__class__")))
  (xgs:eF K (.builtin "object.__class__") "__get__" = some (some (.builtin "getset_descriptor.__get__")))
  (xtk:fU K (.builtin "object.__class__")=some true)
  (xbe:eG K eS (.type "BaseException")=some true)
  (M5:bR K aQ "PARTS_OF_OTHER_DEED" = some (some (.ref A0)))
  (plkO:K.lookup A0=some ⟨.type "dict",none,.dict #[⟨PyData.keyHash w.params "keep",.str "keep" qt1,.int 2 qu1⟩,⟨PyData.keyHash w.params "fall",.str "fall" qt2,.int 2 qu2⟩,⟨PyData.keyHash w.params "send",.str "send" qt3,.int 2 qu3⟩,⟨PyData.keyHash w.params "come",.str "come" qt4,.int 3 qu4⟩] pepO,#[]⟩)
  (I0:(A0 == af)=false)
  (hL:noL K=true) :
  ∃ fd:aP,(∀ (s:aC) (v:aB),BindsTo s fd ⟨[v],[]⟩ [("script",v)])/\∀ base:Heap,K.In base->base.Ns aQ mg->FnOk l.prog w K mg base (CXD l.prog w) 11 fa fd ["script"] (Qaw K):=by
 have e:=hfa.symm.trans (bi X G a59);cases e;have T:Txt mg:=⟨bh X G x0,bh X G w2,bh X G o4,bh X G x1,bh X G h8,bh X G x3,bh X G p6,bh X G B3,bh X G C5,bh X G o0,bh X G w7,bh X G z1,bh X G o2,bh X G w9,⟨_,bi X G e7⟩⟩;have i0:∃ C,mg "NoDeed" = some (.ref C)/\ba K C Xn "ValueError.__new__" = true:=⟨_,bi X G n2,m8⟩;have Z:∃ C,mg "NoHouse" = some (.ref C)/\ba K C Xn "ValueError.__new__" = true:=⟨_,bi X G l0,m5⟩;have d4:∃ C,mg "NoLetter" = some (.ref C)/\ba K C Xn "ValueError.__new__" = true:=⟨_,bi X G i7,i6⟩
 have e5:∃ C,mg "NoTable" = some (.ref C)/\ba K C Xn "ValueError.__new__" = true:=⟨_,bi X G m6,m4⟩;have CD:∃ cd,dl K eS=some cd/\cd.mro=.ref eS :: .ref eW :: Xn/\cd.hasDict=true:=⟨_,by unfold dl; rw [xlk],rfl,rfl⟩;have OS:ShortOk K mg eW eS fI:=⟨bi X G nW,bi X G nS,⟨⟨_,_,_,_,_,_,_,_,_,_,_,_,_,_,xlk⟩,xw,xfi,⟨_,li,rfl⟩,xkp⟩,⟨S3,xcrd,xcfc⟩,⟨xsa,xob,CD,xno⟩⟩;have FI:=qh (x := "__init__") (qual := "Short.__init__") (st:=Q9x) li ci ki;have BI:=FI.binds (ps:=["self", "had"]) fun _ _ _ _ _ _ us j=>match us,j with | [_,_],_=>rfl
 have PK:PartsOk l.prog w K mg:=Qjf (bi X G pns) plk psm;have PO:PartsO l.prog w K mg:=Qgq (bi X G M5) plkO I0;have XC:XCls K eS:=⟨show (dl K eS).isSome=true by rw [I8]; rfl,xga,xgt,xcl,xgs,xtk,xob,xbe⟩;have Sx:∃ C,mg "Short" = some (.ref C)/\dA K (.ref C) (.ref C)=some true/\XGet K C "had" := ⟨_,OS.ms,xes,XC,(let ⟨cd,a,_,b⟩:=CD; ⟨cd,a,b⟩),xno⟩;have TC:ClsT K eH:=⟨⟨Hpg,Hhd,Hpo,Hsa⟩,k0,p0,n9⟩;have A1:=J8 (st:=Q20) (ps:=["k"]) X G a1 l1 c1 k1 fun _ _ _ _ _ _ us j=>match us,j with | [_],_=>rfl
 have A2:=J8 (st:=Kw) (ps:=["thing"]) X G a2 l2 c2 k2 fun _ _ _ _ _ _ us j=>match us,j with | [_],_=>rfl
 have A3:=J8 (st:=Uh) (ps:=["thing", "least", "most"]) X G a3 l3 c3 k3 fun _ _ _ _ _ _ us j=>match us,j with | [_,_,_],_=>rfl
 have A4:=J8 (st:=yu) (ps:=["thing", "n"]) X G a4 l4 c4 k4 fun _ _ _ _ _ _ us j=>match us,j with | [_,_],_=>rfl
 have A5:=J8 (st:=Kx) (ps:=["thing"]) X G a5 l5 c5 k5 fun _ _ _ _ _ _ us j=>match us,j with | [_],_=>rfl
 have A6:=J8 (st:=Ky) (ps:=["table", "thing"]) X G a6 l6 c6 k6 fun _ _ _ _ _ _ us j=>match us,j with | [_,_],_=>rfl
 have A7:=J8 (st:=yn) (ps:=["table", "house"]) X G a7 l7 c7 k7 fun _ _ _ _ _ _ us j=>match us,j with | [_,_],_=>rfl
 have A8:=J8 (st:=Y3) (ps:=["one", "other"]) X G a8 l8 c8 k8 fun _ _ _ _ _ _ us j=>match us,j with | [_,_],_=>rfl
 have A9:=J8 (st:=Wj) (ps:=["one", "other"]) X G a9 l9 c9 k9 fun _ _ _ _ _ _ us j=>match us,j with | [_,_],_=>rfl
 have A10:=J8 (st:=Ug) (ps:=["one", "other"]) X G a10 l10 c10 k10 fun _ _ _ _ _ _ us j=>match us,j with | [_,_],_=>rfl
 have A11:=J8 (st:=yt) (ps:=["one", "other"]) X G a11 l11 c11 k11 fun _ _ _ _ _ _ us j=>match us,j with | [_,_],_=>rfl
 have A12:=J8 (st:=Y4) (ps:=["thing"]) X G a12 l12 c12 k12 fun _ _ _ _ _ _ us j=>match us,j with | [_],_=>rfl
 have A13:=J8 (st:=z9) (ps:=["thing"]) X G a13 l13 c13 k13 fun _ _ _ _ _ _ us j=>match us,j with | [_],_=>rfl
 have A14:=J8 (st:=Y2) (ps:=["table", "deed"]) X G a14 l14 c14 k14 fun _ _ _ _ _ _ us j=>match us,j with | [_,_],_=>rfl
 have T6:=J8 (st:=V4) (ps:=["table", "deed"]) X G a15 l15 c15 k15 fun _ _ _ _ _ _ us j=>match us,j with | [_,_],_=>rfl
 have P4:=J8 (st:=yq) (ps:=["table", "house", "place", "k"]) X G a16 l16 c16 k16 fun _ _ _ _ _ _ us j=>match us,j with | [_,_,_,_],_=>rfl
 have I7:=J8 (st:=Q4i) (ps:=["table", "deed"]) X G a17 l17 c17 k17 fun _ _ _ _ _ _ us j=>match us,j with | [_,_],_=>rfl
 have A18:=J8 (st:=Xq) (ps:=["table", "house"]) X G a18 l18 c18 k18 fun _ _ _ _ _ _ us j=>match us,j with | [_,_],_=>rfl
 have A19:=J8 (st:=Yk) (ps:=["table", "house"]) X G a19 l19 c19 k19 fun _ _ _ _ _ _ us j=>match us,j with | [_,_],_=>rfl
 have A20:=J8 (st:=Wh) (ps:=["table", "house", "lenders"]) X G a20 l20 c20 k20 fun _ _ _ _ _ _ us j=>match us,j with | [_,_,_],_=>rfl
 have A21:=J8 (st:=Kz) (ps:=["table", "house", "ahead"]) X G a21 l21 c21 k21 fun _ _ _ _ _ _ us j=>match us,j with | [_,_,_],_=>rfl
 have A22:=J8 (st:=Wi) (ps:=["table"]) X G a22 l22 c22 k22 fun _ _ _ _ _ _ us j=>match us,j with | [_],_=>rfl
 have A23:=J8 (st:=W0) (ps:=["table"]) X G a23 l23 c23 k23 fun _ _ _ _ _ _ us j=>match us,j with | [_],_=>rfl
 have H9:=J8 (st:=Vt) (ps:=["table"]) X G a24 l24 c24 k24 fun _ _ _ _ _ _ us j=>match us,j with | [_],_=>rfl
 have A25:=J8 (st:=W1) (ps:=["thing"]) X G a25 l25 c25 k25 fun _ _ _ _ _ _ us j=>match us,j with | [_],_=>rfl
 have A26:=J8 (st:=Yt) (ps:=["thing"]) X G a26 l26 c26 k26 fun _ _ _ _ _ _ us j=>match us,j with | [_],_=>rfl
 have A27:=qh (st:=Wd) l27 c27 k27;have B27:=A27.binds (ps:=["self", "number", "table"]) fun _ _ _ _ _ _ us j=>match us,j with | [_,_,_],_=>rfl
 have A28:=qh (st:=Ur) l28 c28 T2;have B28:=A28.binds (ps:=["self", "k"]) fun _ _ _ _ _ _ us j=>match us,j with | [_,_],_=>rfl
 have R9:=qh (st:=Us) l29 c29 T9;have B29:=R9.binds (ps:=["self", "to", "k"]) fun _ _ _ _ _ _ us j=>match us,j with | [_,_,_],_=>rfl
 have A30:=qh (st:=Xs) l30 c30 k30;have B30:=A30.binds (ps:=["self", "k"]) fun _ _ _ _ _ _ us j=>match us,j with | [_,_],_=>rfl
 have A31:=qh (st:=Ut) l31 c31 T8;have B31:=A31.binds (ps:=["self"]) fun _ _ _ _ _ _ us j=>match us,j with | [_],_=>rfl
 have S1:=qh (st:=Uu) l32 c32 k32;have B32:=S1.binds (ps:=["self"]) fun _ _ _ _ _ _ us j=>match us,j with | [_],_=>rfl
 have A33:=qh (st:=Va) l33 c33 k33;have B33:=A33.binds (ps:=["self"]) fun _ _ _ _ _ _ us j=>match us,j with | [_],_=>rfl
 have M7:=qh (st:=Uv) l34 c34 k34;have B34:=M7.binds (ps:=["self", "table"]) fun _ _ _ _ _ _ us j=>match us,j with | [_,_],_=>rfl
 have A35:=qh (st:=U0) l35 c35 k35;have B35:=A35.binds (ps:=["self"]) fun _ _ _ _ _ _ us j=>match us,j with | [_],_=>rfl
 have A36:=qh (st:=V9) l36 c36 k36;have B36:=A36.binds (ps:=["self"]) fun _ _ _ _ _ _ us j=>match us,j with | [_],_=>rfl
 have A37:=qh (st:=Uq) l37 c37 k37;have B37:=A37.binds (ps:=["self"]) fun _ _ _ _ _ _ us j=>match us,j with | [_],_=>rfl
 have A38:=J8 (st:=Wk) (ps:=["thing"]) X G a38 l38 c38 k38 fun _ _ _ _ _ _ us j=>match us,j with | [_],_=>rfl
 have N0:=J8 (st:=Ys) (ps:=["table", "letters", "deed"]) X G a39 l39 c39 k39 fun _ _ _ _ _ _ us j=>match us,j with | [_,_,_],_=>rfl
 have A40:=J8 (st:=Vs) (ps:=["houses", "deed"]) X G a40 l40 c40 k40 fun _ _ _ _ _ _ us j=>match us,j with | [_,_],_=>rfl
 have A41:=J8 (st:=Wm) (ps:=["houses", "letters", "deed"]) X G a41 l41 c41 k41 fun _ _ _ _ _ _ us j=>match us,j with | [_,_,_],_=>rfl
 have R6:=J8 (st:=Xr) (ps:=["houses", "letters", "deed"]) X G a42 l42 c42 k42 fun _ _ _ _ _ _ us j=>match us,j with | [_,_,_],_=>rfl
 have A43:=J8 (st:=yr) (ps:=["table", "deeds"]) X G a43 l43 c43 k43 fun _ _ _ _ _ _ us j=>match us,j with | [_,_],_=>rfl
 have S9:=J8 (st:=Um) (ps:=["script", "k"]) X G a44 l44 c44 k44 fun _ _ _ _ _ _ us j=>match us,j with | [_,_],_=>rfl
 have A45:=J8 (st:=Ui) (ps:=["script", "k"]) X G a45 l45 c45 k45 fun _ _ _ _ _ _ us j=>match us,j with | [_,_],_=>rfl
 have A46:=J8 (st:=Vy) (ps:=["tape", "many"]) X G a46 l46 c46 k46 fun _ _ _ _ _ _ us j=>match us,j with | [_,_],_=>rfl
 have A47:=J8 (st:=V5) (ps:=["table", "i"]) X G a47 l47 c47 k47 fun _ _ _ _ _ _ us j=>match us,j with | [_,_],_=>rfl
 have A48:=J8 (st:=Up) (ps:=["size"]) X G a48 l48 c48 k48 fun _ _ _ _ _ _ us j=>match us,j with | [_],_=>rfl
 have A49:=J8 (st:=V6) (ps:=["table", "i", "at", "k"]) X G a49 l49 c49 k49 fun _ _ _ _ _ _ us j=>match us,j with | [_,_,_,_],_=>rfl
 have A50:=J8 (st:=V8) (ps:=["one", "other"]) X G a50 l50 c50 k50 fun _ _ _ _ _ _ us j=>match us,j with | [_,_],_=>rfl
 have A51:=J8 (st:=Uk) (ps:=["tape"]) X G a51 l51 c51 k51 fun _ _ _ _ _ _ us j=>match us,j with | [_],_=>rfl
 have A52:=J8 (st:=Vu) (ps:=["tape", "size", "many"]) X G a52 l52 c52 k52 fun _ _ _ _ _ _ us j=>match us,j with | [_,_,_],_=>rfl
 have A53:=J8 (st:=Vv) (ps:=["table"]) X G a53 l53 c53 k53 fun _ _ _ _ _ _ us j=>match us,j with | [_],_=>rfl
 have A54:=J8 (st:=Uj) (ps:=["state", "deed"]) X G a54 l54 c54 k54 fun _ _ _ _ _ _ us j=>match us,j with | [_,_],_=>rfl
 have A55:=J8 (st:=Vx) (ps:=["tape", "state"]) X G a55 l55 c55 k55 fun _ _ _ _ _ _ us j=>match us,j with | [_,_],_=>rfl
 have A56:=J8 (st:=V7) (ps:=["script", "start", "many", "table"]) X G a56 l56 c56 k56 fun _ _ _ _ _ _ us j=>match us,j with | [_,_,_,_],_=>rfl
 have A57:=J8 (st:=Vz) (ps:=["script"]) X G a57 l57 c57 k57 fun _ _ _ _ _ _ us j=>match us,j with | [_],_=>rfl
 have A58:=J8 (st:=Vw) (ps:=["found", "answers", "tables"]) X G a58 l58 c58 k58 fun _ _ _ _ _ _ us j=>match us,j with | [_,_,_],_=>rfl
 have A59:=J8 (st:=Q3g) (ps:=["script"]) X G a59 l59 c59 k59 fun _ _ _ _ _ _ us j=>match us,j with | [_],_=>rfl
 refine ⟨bT "law" "law" (Qq Q3g) (Qn Q3g) (Q6 Q3g) .none r2 u0 v5 t6 o1 t4,fun s v=>.of_eq rfl,fun base kb nb=>?_⟩;have n6:ShortS l.prog w K mg base:=⟨_,_,_,_,OS.M,Qny FI OS,BI,OS.ms⟩;have n7:=A1.def (P:=l.prog) (w:=w) (base:=base) rfl (Qjk A1.F T    );have b3:=A2.def (P:=l.prog) (w:=w) (base:=base) rfl (Qcm A2.F T    );have h4:=A3.def (P:=l.prog) (w:=w) (base:=base) rfl (Q99 A3.F T   b3 );have n3:=A4.def (P:=l.prog) (w:=w) (base:=base) rfl (Qgu A4.F T   b3 );have i8:=A5.def (P:=l.prog) (w:=w) (base:=base) rfl (Qcn A5.F T   n3 );have O:=A6.def (P:=l.prog) (w:=w) (base:=base) rfl (Qcp A6.F T   h4 );have C9:=A7.def (P:=l.prog) (w:=w) (base:=base) rfl (Qa5 A7.F T  Z O );have J:DefS l.prog w K mg base 4 "rights_tables" 2 X9:=⟨_,_,_,Qa5 A7.F T  Z O ,bi X G c0,A7.F.kp,A7.b,rfl⟩
 have q:=A8.def (P:=l.prog) (w:=w) (base:=base) rfl (Q0a A8.F T  e5  );have d2:=A9.def (P:=l.prog) (w:=w) (base:=base) rfl (Q4s A9.F T    );have g9:=A10.def (P:=l.prog) (w:=w) (base:=base) rfl (Q98 A10.F T    );have m7:=A11.def (P:=l.prog) (w:=w) (base:=base) rfl (Qgt A11.F T   q g9 );have B:=A12.def (P:=l.prog) (w:=w) (base:=base) rfl (Q0b A12.F T   b3 );have g0:=A13.def (P:=l.prog) (w:=w) (base:=base) rfl (Qe9 A13.F T PK   B );have I:=A14.def (P:=l.prog) (w:=w) (base:=base) rfl (Q09 A14.F T  Z O );have d5:=T6.def (P:=l.prog) (w:=w) (base:=base) rfl (Q5u T6.F T    );have m9:=P4.def (P:=l.prog) (w:=w) (base:=base) rfl (Qgr P4.F T    );have i3:=I7.def (P:=l.prog) (w:=w) (base:=base) rfl (Qnz I7.F T n6  i0 g0 I J m9 d5 )
 have i2:=A18.def (P:=l.prog) (w:=w) (base:=base) rfl (Qb6 A18.F T    );have b4:=A19.def (P:=l.prog) (w:=w) (base:=base) rfl (Q1c A19.F T    );have d1:=A20.def (P:=l.prog) (w:=w) (base:=base) rfl (Q4q A20.F T    );have i9:=A21.def (P:=l.prog) (w:=w) (base:=base) rfl (Qcq A21.F T   i2 d1 );have b0:=A22.def (P:=l.prog) (w:=w) (base:=base) rfl (Q4r A22.F T   i9 );have b9:=A23.def (P:=l.prog) (w:=w) (base:=base) rfl (Q2x A23.F T   b0 b4 );have e0:=H9.def (P:=l.prog) (w:=w) (base:=base) rfl (Q7a H9.F T   J b9 b0 );have b8:=A25.def (P:=l.prog) (w:=w) (base:=base) rfl (Q2y A25.F T   i8 e0 );have Y:=A26.def (P:=l.prog) (w:=w) (base:=base) rfl (Q2i A26.F T  e5 b8 )
 have n5:MakeS l.prog w K mg base 8 eH "House" 3 (We eH):=⟨_,_,_,Q3n A27 T TC  Z Y O ,⟨Hmk,a27,i27,Hkc⟩,bi X G aH,B27,rfl⟩;have h5:MethS l.prog w K mg base 6 eH "make" 2 (Km eH):=⟨_,_,_,Q9g A28 T TC   i3 ,⟨a28,i28,T2⟩,B28,rfl⟩;have h3:MethS l.prog w K mg base 6 eH "lend" 3 (Kn eH):=⟨_,_,_,Q9h R9 T TC   i3 ,⟨a29,i29,T9⟩,B29,rfl⟩;have i4:MethS l.prog w K mg base 6 eH "use" 2 (j4 eH):=⟨_,_,_,Qb8 A30 T TC   i3 ,⟨a30,i30,k30⟩,B30,rfl⟩;have h7:MethS l.prog w K mg base 1 eH "keep" 1 (Kp eH):=⟨_,_,_,Q9i A31 T TC    ,⟨a31,i31,T8⟩,B31,rfl⟩;have g8:MethS l.prog w K mg base 1 eH "fall" 1 (Kq eH):=⟨_,_,_,Q9j S1 T TC    ,⟨a32,i32,k32⟩,B32,rfl⟩;have d7:MethS l.prog w K mg base 1 eH "letter" 1 (Vf eH):=⟨_,_,_,Q60 A33 T TC    ,⟨a33,i33,k33⟩,B33,rfl⟩;have g7:MethS l.prog w K mg base 3 eH "come" 2 (Kr eH):=⟨_,_,_,Q9k M7 T TC  d4 q d2 m7 ,⟨a34,i34,k34⟩,B34,rfl⟩
 have f0:MethS l.prog w K mg base 1 eH "table" 1 (Xe eH):=⟨_,_,_,Q7h A35 T TC    ,⟨a35,i35,k35⟩,B35,rfl⟩;have n4:MethS l.prog w K mg base 5 eH "rights" 1 (Q1y eH):=⟨_,_,_,Q5z A36 T TC   J ,⟨a36,i36,k36⟩,B36,rfl⟩;have o3:MethS l.prog w K mg base 2 eH "used" 1 (Q49 eH):=⟨_,_,_,Q9f A37 T TC   n7 ,⟨a37,i37,k37⟩,B37,rfl⟩;have b1:=A38.def (P:=l.prog) (w:=w) (base:=base) rfl (Q4t A38.F T PO   B );have b5:=N0.def (P:=l.prog) (w:=w) (base:=base) rfl (Q2h N0.F T  i0 Z d4 g0 I b1 O );have g1:=A40.def (P:=l.prog) (w:=w) (base:=base) rfl (Q79 A40.F T TC    h5 h3 i4);have d0:=A41.def (P:=l.prog) (w:=w) (base:=base) rfl (Q4u A41.F T TC    h7 g8 d7 g7)
 have i5:=R6.def (P:=l.prog) (w:=w) (base:=base) rfl (Qb7 R6.F T TC Sx   b1 d0 g1 );have n0:=A43.def (P:=l.prog) (w:=w) (base:=base) rfl (Qgs A43.F T TC   Y b5 i5 n5 f0);have h6:=S9.def (P:=l.prog) (w:=w) (base:=base) rfl (Q9d S9.F T    );have b6:=A45.def (P:=l.prog) (w:=w) (base:=base) rfl (Q9a A45.F T   h6 );have z:=A46.def (P:=l.prog) (w:=w) (base:=base) rfl (Q7f A46.F T    );have U:=A47.def (P:=l.prog) (w:=w) (base:=base) rfl (Q5v A47.F T    );have h9:=A48.def (P:=l.prog) (w:=w) (base:=base) rfl (Q9e A48.F T    );have b2:=A49.def (P:=l.prog) (w:=w) (base:=base) rfl (Q5w A49.F T    );have d8:=A50.def (P:=l.prog) (w:=w) (base:=base) rfl (Q5y A50.F T    );have b7:=A51.def (P:=l.prog) (w:=w) (base:=base) rfl (Q9c A51.F T   z )
 have e8:=A52.def (P:=l.prog) (w:=w) (base:=base) rfl (Q7b A52.F T   h9 z U b2 b7 );have g4:=A53.def (P:=l.prog) (w:=w) (base:=base) rfl (Q7c A53.F T    );have g6:=A54.def (P:=l.prog) (w:=w) (base:=base) rfl (Q9b A54.F T   d8 U b2 );have d9:=A55.def (P:=l.prog) (w:=w) (base:=base) rfl (Q7e A55.F T   z U b7 );have d6:=A56.def (P:=l.prog) (w:=w) (base:=base) rfl (Q5x A56.F T   g4 b6 d9 g6 );have e4:=A57.def (P:=l.prog) (w:=w) (base:=base) rfl (Q7g A57.F T   b6 z e8 );have e9:=A58.def (P:=l.prog) (w:=w) (base:=base) rfl (Q7d A58.F T    );exact Qpi hL (Qsd A59.F T TC   e4 d6 n0 e9 ) (Qpj _)
end Lw
theorem PySem.W.Fast.tw6342540566423113422 : True := trivial
theorem PySem.W.Fast.tw15524849241138500534 : True := trivial
theorem PySem.W.Fast.tw12318731446636004922 : True := trivial
theorem PySem.W.Fast.tw5606164664347651521 : True := trivial
theorem PySem.W.Fast.tw11144612618583890288 : True := trivial
theorem PySem.W.Fast.tw2008859006556419946 : True := trivial
theorem PySem.W.Fast.tw4984489075229757054 : True := trivial
theorem PySem.W.Fast.tw16992674108829270897 : True := trivial
theorem PySem.W.Fast.tw14114130732704320250 : True := trivial
theorem PySem.W.Fast.tw550836042850762946 : True := trivial
theorem PySem.W.Fast.tw4211509760191664319 : True := trivial
theorem PySem.W.Fast.tw14492600028468385536 : True := trivial
theorem PySem.W.Fast.tw5873573079118646655 : True := trivial
theorem PySem.W.Fast.tw983752077640997194 : True := trivial
theorem PySem.W.Fast.te10554139536708027413 : True := trivial
open PySem PySem.W PyProof.Rows
set_option maxRecDepth 100000 in
set_option maxHeartbeats 0 in
theorem PySem.Challenge.cw_lendwharf_k17_runs_played_holds : PySem.Challenge.rw_lendwharf_k17_runs_played.Holds := by
 w_on; o_law; k_head; (case hw=>w_witness2)
 k_fill
 refine Sm.walkS (l:=PySem.Challenge.rw_lendwharf_k17_runs_played) (k:=11) rfl ⟨rfl,by decide,by decide⟩ rfl (fun w h Y=>PySem.W.kIn_of Y) ?F
 case F=>
  intro w mg fa h KX G hmg;refine' Lw.all_mk KX G hmg ?aH ?Hpg ?Hhd ?Hpo ?Hsa ?Hmk ?Hkc ?Hn_number ?Hn_now ?Hn_kept ?a1 ?l1 ?c1 ?k1 ?a2 ?l2 ?c2 ?k2 ?a3 ?l3 ?c3 ?k3 ?a4 ?l4 ?c4 ?k4 ?a5 ?l5 ?c5 ?k5 ?a6 ?l6 ?c6 ?k6 ?a7 ?l7 ?c7 ?k7 ?a8 ?l8 ?c8 ?k8 ?a9 ?l9 ?c9 ?k9 ?a10 ?l10 ?c10 ?k10 ?a11 ?l11 ?c11 ?k11 ?a12 ?l12 ?c12 ?k12 ?a13 ?l13 ?c13 ?k13 ?a14 ?l14 ?c14 ?k14 ?a15 ?l15 ?c15 ?k15 ?a16 ?l16 ?c16 ?k16 ?a17 ?l17 ?c17 ?k17 ?a18 ?l18 ?c18 ?k18 ?a19 ?l19 ?c19 ?k19 ?a20 ?l20 ?c20 ?k20 ?a21 ?l21 ?c21 ?k21 ?a22 ?l22 ?c22 ?k22 ?a23 ?l23 ?c23 ?k23 ?a24 ?l24 ?c24 ?k24 ?a25 ?l25 ?c25 ?k25 ?a26 ?l26 ?c26 ?k26 ?a27 ?i27 ?l27 ?c27 ?k27 ?a28 ?i28 ?l28 ?c28 ?k28 ?a29 ?i29 ?l29 ?c29 ?k29 ?a30 ?i30 ?l30 ?c30 ?k30 ?a31 ?i31 ?l31 ?c31 ?k31 ?a32 ?i32 ?l32 ?c32 ?k32 ?a33 ?i33 ?l33 ?c33 ?k33 ?a34 ?i34 ?l34 ?c34 ?k34 ?a35 ?i35 ?l35 ?c35 ?k35 ?a36 ?i36 ?l36 ?c36 ?k36 ?a37 ?i37 ?l37 ?c37 ?k37 ?a38 ?l38 ?c38 ?k38 ?a39 ?l39 ?c39 ?k39 ?a40 ?l40 ?c40 ?k40 ?a41 ?l41 ?c41 ?k41 ?a42 ?l42 ?c42 ?k42 ?a43 ?l43 ?c43 ?k43 ?a44 ?l44 ?c44 ?k44 ?a45 ?l45 ?c45 ?k45 ?a46 ?l46 ?c46 ?k46 ?a47 ?l47 ?c47 ?k47 ?a48 ?l48 ?c48 ?k48 ?a49 ?l49 ?c49 ?k49 ?a50 ?l50 ?c50 ?k50 ?a51 ?l51 ?c51 ?k51 ?a52 ?l52 ?c52 ?k52 ?a53 ?l53 ?c53 ?k53 ?a54 ?l54 ?c54 ?k54 ?a55 ?l55 ?c55 ?k55 ?a56 ?l56 ?c56 ?k56 ?a57 ?l57 ?c57 ?k57 ?a58 ?l58 ?c58 ?k58 ?a59 ?l59 ?c59 ?k59 ?al_rights_tables ?z_all ?z_any ?z_bool ?z_int ?z_isinstance ?z_len ?z_list ?z_max ?z_min ?z_range ?z_str ?z_sum ?z_tuple ?z_zip ?v_MOST_HOUSES ?n_NoDeed ?x_NoDeed ?n_NoHouse ?x_NoHouse ?n_NoLetter ?x_NoLetter ?n_NoTable ?x_NoTable ?nW ?nS ?xlk ?xw ?xfi ?li ?ci ?ki ?xkp ?xcga ?xcrd ?xcfc ?xsa ?xno ?xob ?xes ?pns ?plk ?psm ?xcls ?xga ?xgt ?xcl ?xgs ?xtk ?xbe ?pnsO ?plkO ?psmO ?hL
  (case aH=>k_is)
  (case Hpg=>k_is)
  (case Hhd=>k_is)
  (case Hpo=>k_is)
  (case Hsa=>k_is)
  (case Hmk=>k_is)
  (case Hkc=>k_is)
  (case Hn_number=>k_is)
  (case Hn_now=>k_is)
  (case Hn_kept=>k_is)
  (case a1=>k_is)
  (case l1=>k_is)
  (case c1=>k_is)
  (case k1=>k_is)
  (case a2=>k_is)
  (case l2=>k_is)
  (case c2=>k_is)
  (case k2=>k_is)
  (case a3=>k_is)
  (case l3=>k_is)
  (case c3=>k_is)
  (case k3=>k_is)
  (case a4=>k_is)
  (case l4=>k_is)
  (case c4=>k_is)
  (case k4=>k_is)
  (case a5=>k_is)
  (case l5=>k_is)
  (case c5=>k_is)
  (case k5=>k_is)
  (case a6=>k_is)
  (case l6=>k_is)
  (case c6=>k_is)
  (case k6=>k_is)
  (case a7=>k_is)
  (case l7=>k_is)
  (case c7=>k_is)
  (case k7=>k_is)
  (case a8=>k_is)
  (case l8=>k_is)
  (case c8=>k_is)
  (case k8=>k_is)
  (case a9=>k_is)
  (case l9=>k_is)
  (case c9=>k_is)
  (case k9=>k_is)
  (case a10=>k_is)
  (case l10=>k_is)
  (case c10=>k_is)
  (case k10=>k_is)
  (case a11=>k_is)
  (case l11=>k_is)
  (case c11=>k_is)
  (case k11=>k_is)
  (case a12=>k_is)
  (case l12=>k_is)
  (case c12=>k_is)
  (case k12=>k_is)
  (case a13=>k_is)
  (case l13=>k_is)
  (case c13=>k_is)
  (case k13=>k_is)
  (case a14=>k_is)
  (case l14=>k_is)
  (case c14=>k_is)
  (case k14=>k_is)
  (case a15=>k_is)
  (case l15=>k_is)
  (case c15=>k_is)
  (case k15=>k_is)
  (case a16=>k_is)
  (case l16=>k_is)
  (case c16=>k_is)
  (case k16=>k_is)
  (case a17=>k_is)
  (case l17=>k_is)
  (case c17=>k_is)
  (case k17=>k_is)
  (case a18=>k_is)
  (case l18=>k_is)
  (case c18=>k_is)
  (case k18=>k_is)
  (case a19=>k_is)
  (case l19=>k_is)
  (case c19=>k_is)
  (case k19=>k_is)
  (case a20=>k_is)
  (case l20=>k_is)
  (case c20=>k_is)
  (case k20=>k_is)
  (case a21=>k_is)
  (case l21=>k_is)
  (case c21=>k_is)
  (case k21=>k_is)
  (case a22=>k_is)
  (case l22=>k_is)
  (case c22=>k_is)
  (case k22=>k_is)
  (case a23=>k_is)
  (case l23=>k_is)
  (case c23=>k_is)
  (case k23=>k_is)
  (case a24=>k_is)
  (case l24=>k_is)
  (case c24=>k_is)
  (case k24=>k_is)
  (case a25=>k_is)
  (case l25=>k_is)
  (case c25=>k_is)
  (case k25=>k_is)
  (case a26=>k_is)
  (case l26=>k_is)
  (case c26=>k_is)
  (case k26=>k_is)
  (case a27=>k_is)
  (case i27=>k_is)
  (case l27=>k_is)
  (case c27=>k_is)
  (case k27=>k_is)
  (case a28=>k_is)
  (case i28=>k_is)
  (case l28=>k_is)
  (case c28=>k_is)
  (case k28=>k_is)
  (case a29=>k_is)
  (case i29=>k_is)
  (case l29=>k_is)
  (case c29=>k_is)
  (case k29=>k_is)
  (case a30=>k_is)
  (case i30=>k_is)
  (case l30=>k_is)
  (case c30=>k_is)
  (case k30=>k_is)
  (case a31=>k_is)
  (case i31=>k_is)
  (case l31=>k_is)
  (case c31=>k_is)
  (case k31=>k_is)
  (case a32=>k_is)
  (case i32=>k_is)
  (case l32=>k_is)
  (case c32=>k_is)
  (case k32=>k_is)
  (case a33=>k_is)
  (case i33=>k_is)
  (case l33=>k_is)
  (case c33=>k_is)
  (case k33=>k_is)
  (case a34=>k_is)
  (case i34=>k_is)
  (case l34=>k_is)
  (case c34=>k_is)
  (case k34=>k_is)
  (case a35=>k_is)
  (case i35=>k_is)
  (case l35=>k_is)
  (case c35=>k_is)
  (case k35=>k_is)
  (case a36=>k_is)
  (case i36=>k_is)
  (case l36=>k_is)
  (case c36=>k_is)
  (case k36=>k_is)
  (case a37=>k_is)
  (case i37=>k_is)
  (case l37=>k_is)
  (case c37=>k_is)
  (case k37=>k_is)
  (case a38=>k_is)
  (case l38=>k_is)
  (case c38=>k_is)
  (case k38=>k_is)
  (case a39=>k_is)
  (case l39=>k_is)
  (case c39=>k_is)
  (case k39=>k_is)
  (case a40=>k_is)
  (case l40=>k_is)
  (case c40=>k_is)
  (case k40=>k_is)
  (case a41=>k_is)
  (case l41=>k_is)
  (case c41=>k_is)
  (case k41=>k_is)
  (case a42=>k_is)
  (case l42=>k_is)
  (case c42=>k_is)
  (case k42=>k_is)
  (case a43=>k_is)
  (case l43=>k_is)
  (case c43=>k_is)
  (case k43=>k_is)
  (case a44=>k_is)
  (case l44=>k_is)
  (case c44=>k_is)
  (case k44=>k_is)
  (case a45=>k_is)
  (case l45=>k_is)
  (case c45=>k_is)
  (case k45=>k_is)
  (case a46=>k_is)
  (case l46=>k_is)
  (case c46=>k_is)
  (case k46=>k_is)
  (case a47=>k_is)
  (case l47=>k_is)
  (case c47=>k_is)
  (case k47=>k_is)
  (case a48=>k_is)
  (case l48=>k_is)
  (case c48=>k_is)
  (case k48=>k_is)
  (case a49=>k_is)
  (case l49=>k_is)
  (case c49=>k_is)
  (case k49=>k_is)
  (case a50=>k_is)
  (case l50=>k_is)
  (case c50=>k_is)
  (case k50=>k_is)
  (case a51=>k_is)
  (case l51=>k_is)
  (case c51=>k_is)
  (case k51=>k_is)
  (case a52=>k_is)
  (case l52=>k_is)
  (case c52=>k_is)
  (case k52=>k_is)
  (case a53=>k_is)
  (case l53=>k_is)
  (case c53=>k_is)
  (case k53=>k_is)
  (case a54=>k_is)
  (case l54=>k_is)
  (case c54=>k_is)
  (case k54=>k_is)
  (case a55=>k_is)
  (case l55=>k_is)
  (case c55=>k_is)
  (case k55=>k_is)
  (case a56=>k_is)
  (case l56=>k_is)
  (case c56=>k_is)
  (case k56=>k_is)
  (case a57=>k_is)
  (case l57=>k_is)
  (case c57=>k_is)
  (case k57=>k_is)
  (case a58=>k_is)
  (case l58=>k_is)
  (case c58=>k_is)
  (case k58=>k_is)
  (case a59=>k_is)
  (case l59=>k_is)
  (case c59=>k_is)
  (case k59=>k_is)
  (case al_rights_tables=>k_is)
  (case z_all=>k_is)
  (case z_any=>k_is)
  (case z_bool=>k_is)
  (case z_int=>k_is)
  (case z_isinstance=>k_is)
  (case z_len=>k_is)
  (case z_list=>k_is)
  (case z_max=>k_is)
  (case z_min=>k_is)
  (case z_range=>k_is)
  (case z_str=>k_is)
  (case z_sum=>k_is)
  (case z_tuple=>k_is)
  (case z_zip=>k_is)
  (case v_MOST_HOUSES=>k_is)
  (case n_NoDeed=>k_is)
  (case x_NoDeed=>k_exc)
  (case n_NoHouse=>k_is)
  (case x_NoHouse=>k_exc)
  (case n_NoLetter=>k_is)
  (case x_NoLetter=>k_exc)
  (case n_NoTable=>k_is)
  (case x_NoTable=>k_exc)
  (case nW=>k_is)
  (case nS=>k_is)
  (case xlk=>k_is)
  (case xw=>k_exc)
  (case xfi=>k_is)
  (case li=>k_is)
  (case ci=>k_is)
  (case ki=>k_is)
  (case xkp=>k_is)
  (case xcga=>k_is)
  (case xcrd=>k_is)
  (case xcfc=>k_is)
  (case xsa=>k_is)
  (case xno=>k_is)
  (case xob=>k_is)
  (case xes=>kts_exm)
  (case pns=>k_is)
  (case plk=>k_is)
  (case psm=>(first | rfl | decide))
  (case xcls=>k_is)
  (case xga=>k_is)
  (case xgt=>k_is)
  (case xcl=>k_is)
  (case xgs=>k_is)
  (case xtk=>k_is)
  (case xbe=>k_is)
  (case pnsO=>k_is)
  (case plkO=>k_is)
  (case psmO=>(first | rfl | decide))
  (case hL=>rfl)
