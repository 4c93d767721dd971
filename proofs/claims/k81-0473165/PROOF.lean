import PyProof.Rows.All
import Wide.All
import OpenK.AllK
import Wide.FinOn
import Lean
import PyProof.EqAt
import PyProof.EqKinds
import PyProof.TupleCall
import PyProof.ZipIter
import PyProof.Draws
import PyProof.SumAny
import PyProof.EnumMake
import PyProof.WalkInts
import PyProof.ExcArgsOwn
import PyProof.ExcAttrAll.ValueError
import PyProof.NsDelKeeps
import KE.KTryMore
import OpenK.KOwn
import PyProof.ListMulRoad
import PyProof.FactsAll.tuple_2
import PyProof.NeKinds
import PyProof.Rows.RuleIs
import PyProof.ExcInit
import PyProof.ExcClass3
import OpenK.KCls
import PyProof.InstStoreFacts
import OpenK.KMake
import PyProof.DictRoads
import PyProof.Rows.CountFlat
import PyProof.ListRange
import PyProof.Rows.SetFrom
import PyProof.CollectStr
import PyProof.Rows.TupMore
import PyProof.AttrMissHeap
import KE.KDictOf
import PyProof.DictWalks
import KE.KSortTup
import PyProof.DictItemsLoops
import KE.KDictList
import PyProof.CallStr
import PyProof.Conv_int_bool
import PySem.Challenge.RW_lendwharf_k81_whole_refused_only_when_it
set_option Elab.async false
set_option linter.all false
set_option maxRecDepth 100000
set_option maxHeartbeats 4000000
open Option renaming some -> zo, none -> zl
open Bool renaming true -> zb, false -> za
open List renaming getElem?_eq_some_iff -> O0, length_map -> O2, size_toArray -> O3, getElem?_eq_getElem -> O4, getElem?_append_left -> O5, getElem?_set_ne -> O6, mem_cons_of_mem -> O9, length_append -> D0, mem_cons_self -> D1, getElem?_append_right -> D3, length_cons -> D4, mem_of_getElem? -> D5, length_set -> D7, lookup_cons -> E3, getElem?_set_self -> E4, mem_cons -> E5, mem_append_right -> E6, mem_append -> E7, getElem?_map -> E8, map_cons -> E9, mem_range -> F1, getElem?_eq_none -> F3, map_append -> F4, length_range -> F6, all_eq_true -> F7, getElem?_range -> F8, mem_append_left -> F9, map_map -> G6, getD_eq_getElem?_getD -> G8, getElem?_zip_eq_some -> G9, append_nil -> L5
open PySem.Heap renaming get?_push_of_some -> O1, lt_size -> O8, get?_push_size -> D6, get?_update_other -> F0, size_push -> F5, get?_update_self -> L6
open Nat renaming le_refl -> O7, lt_of_lt_of_le -> D2, ne_of_lt -> D9, le_of_lt -> E2, le_trans -> F2
open Bool renaming false_ne_true -> D8, and_eq_true -> G7
open PySem renaming Addr -> aA, Value -> aB, Shared -> aC, Expr -> aD, wpAny_bind -> aF, wpAny -> aI, model -> aJ, Stmt -> aK, World -> aL, eval -> aM, Program -> aN, FuncData -> aO, starEach -> aP, Around -> aQ, wpAny_pure -> aR, mainGlobals -> aS, backTo -> aU, compareOp -> aV, binaryOp -> aW, wpAny_field -> aX, IsPair -> aY, rawInt -> aZ, bootBuiltins -> aa, cLine -> ac, wpAny_mono -> ad, cellsFrom -> ae, sysModules -> af, holding -> ag, attributeBase -> ai, NameKind -> aj, assignEach -> ak, wpAny_truthy_bool -> am, wpAny_newObj_type -> ao, Paired -> aq, pyNext -> ar, call_meets -> au, wpAny_seqItems -> av, wpAny_holding -> aw, wpAny_passesOwn -> ay, foldedSetIterable -> az, wpAny_call_entry -> bA, sliceBounds -> bB, valueAt -> bC, behindInMarks -> bD, codeAny_mono -> bE, wpAny_setField_rec -> bF, wpAny_pyIter_tuple -> bG, wpAny_typeOf -> bH, wpAny_rule -> bI, wpAny_isInstance -> bJ
open PySem.Str renaming ofString -> bP, empty -> fW
open PySem.W renaming Frag -> bQ, nsIn -> bV, findIn -> bX, excIn -> bY, fnOf -> bc, keepIn -> bg, mg_of -> bh, mg_none_of -> bi, kia_one -> bp, emptyDict -> bt, codeIn -> bx, instObj -> cF, plainGet -> dC, isFn -> dD, callWith_K -> dE, exmOne -> dH, hideAll -> dP, hideAll_get -> dQ, lookIn -> dS, hasDictIn -> dU, clsIn -> du, methodObj -> dz, plainGet_of -> eC, plainOver -> eE, takerIn -> eF, makesIn -> eG, specialIn -> eJ, mroIn -> eK, kitOne -> eL, cellsFrom_some -> eM, OpenLaw -> eV, of_hideAll -> fN, hideAll_none -> fO, handedIn -> fU, looks_findIn -> fV, takesIn -> fX, kitx_list -> fY, kitx_dict -> fZ, methodCall_KW -> fb, WalkO -> ft
open List renaming replicate -> bR, range -> bS, getD -> bW, lookup -> bu, append_assoc -> cC, mem_filter -> cG, length_nil -> cH, replicate_succ -> cI, find?_cons -> cJ, not_mem_nil -> cK, mem_map -> cL, of_mem_zip -> cR, length_take -> cS, getElem?_replicate -> cU, length_drop -> cV, flatten_cons -> cW, all_cons -> cY, mem_iff_getElem -> cZ, prefix_refl -> cb, mem_singleton -> ce, nodup_cons -> cj, map_nil -> cp, foldl_cons -> cu, length_pos_iff -> cv, nodup_append -> cz, prefix_append -> dI, any_eq_true -> dJ, ext_getElem? -> dM, filterMap_cons -> dR, length -> dW, foldl -> dY, forIn_cons -> da, any_cons -> db, any_map -> df, getElem_mem -> dg, getElem_of_mem -> dh, getElem?_set -> di, drop_zero -> dj, length_zip -> dk, range_succ -> dn, mem_or_eq_of_mem_set -> dq, mem_filterMap -> eB, length_replicate -> eN, length_singleton -> eR, forIn_nil -> eY, take_length -> eZ, range_succ_eq_map -> ec, all_map -> ee, pairwise_iff_getElem -> fB, getElem?_cons_succ -> fD, drop_length -> fE, length_filter_le -> fG, eq_of_mem_replicate -> fJ, find?_cons_of_neg -> fK, any_eq_false -> fT, zip_cons_cons -> fh, nil_append -> fq, map_congr_left -> fw, zipIdx_cons -> fx, zipIdx_nil -> fy, sum_append -> gA, isEmpty_toArray -> gF, isEmpty_iff -> gG, drop_eq_getElem_cons -> gK, set_append_right -> gM, take_of_length_le -> gQ, mem_toArray -> gR, nodup_nil -> gS, any_filter -> gT, map_replicate -> gX, eq_replicate_iff -> gY
open PySem.Value renaming ref -> bT, none -> bZ, isStrOf -> bj, bool -> cE, int -> cg, builtin -> cx, str -> dA, type -> dO, float -> dw, isInt -> fL, bytes -> fM, notImplemented -> fj
open PySem renaming boot_len -> bU, mem_of_lookup -> bw, Env -> dl, Within -> dy, call -> eU, list_append -> fm, seqSlot_of -> gD
open Option.some renaming inj -> ba
open Int renaming le_refl -> bb, le_trans -> bf, toNat_natCast -> cB, fdiv_eq_ediv_of_nonneg -> fS, emod_eq_of_lt -> gZ
open Nat renaming lt_irrefl -> bo, ne_of_gt -> br, zero_le -> bv, lt_succ_self -> cP, le_succ -> cQ, lt_succ_of_lt -> cX, sub_self -> dL, not_lt_zero -> dN, le_of_eq -> eI, mul_comm -> eT, eq_zero_or_pos -> fA, min_self -> fC, add_comm -> fo, lt_of_le_of_lt -> gB, sub_zero -> gI, min_le_left -> gJ, le_total -> gN, min_eq_left -> gO, min_eq_right -> gP, pow_le_pow_right -> gU
open PySem.Obj renaming mapFields -> bq, data_mapFields -> cD, mapSeq -> cr, isFreed_of_fields -> dF, cls_mapFields -> eX
open Sum renaming inl -> cM, inr -> cO
open Bool renaming eq_iff_iff -> cc, and_false -> dZ, or_eq_true -> eu, true_and -> fH, false_and -> fR, false_eq_true -> fu, not_true -> gC, or_eq_true_iff -> gE
open Array renaming getElem?_eq_some_iff -> cw, length_toList -> eA, getElem?_setIfInBounds_ne -> ey, append_assoc -> fP, toList -> fQ
open Prod renaming fst -> cy, snd -> ez
open PyProof.Rows renaming callWith_type1 -> dB, slot_tuple_getitem -> dX, envOfC -> dm, callWith_builtin1 -> gc, lt_int -> gf, isnot_bool -> gg
open PySem.F renaming excBase_ValueError -> dG, slot_tuple_add -> eO, entry_tuple_add -> eP, args_tuple_add_2 -> eQ, slot_dict_get -> gH, plainAttrs_list -> gL
open Option renaming bind_some -> fF, isSome_iff_exists -> fe, getD_none -> fk
noncomputable section
theorem bK {c:Prop}{h:Decidable c}(j:c){α:Sort _}{t e:α}:ite c t e=t:=if_pos j
theorem bL {c:Prop}{h:Decidable c}(j:¬c){α:Sort _}{t e:α}:ite c t e=e:=if_neg j
theorem bN {p:Prop}[i:Decidable p](h:¬p):decide p=za:=decide_eq_false h
theorem bO {p:Prop}[i:Decidable p](h:p):decide p=zb:=decide_eq_true h
namespace L2
open PySem PySem.Spec PyProof.Rows
abbrev Key:=Sum Int Str
def Kg:Key->aB->Bool
 | .inl k,v=>fL k v
 | .inr x,v=>bj x v
def J1m (w:aL):Key->Int
 | .inl k=>hashInt k
 | .inr x=>hashStr w x
theorem Yp:∀ {k:Key} {v:aB},Kg k v=zb->(∃ i t,k=cM i/\v=cg i t)\/(∃ x t,k=cO x/\v=dA x t)
 | .inl i,v,h=>by
  obtain ⟨t,e⟩:=Value.isInt_shape (k:=i) (v:=v) h;exact .inl ⟨i,t,rfl,e⟩
 | .inr x,v,h=>by
  obtain ⟨t,e⟩:=Value.isStrOf_shape (x:=x) (v:=v) h;exact .inr ⟨x,t,rfl,e⟩
theorem Qk6 (i:Int) (t:Tok):Kg (.inl i) (.int i t)=zb:=by simp [Kg,fL]
theorem Qk5 (x:Str) (t:Tok):Kg (.inr x) (.str x t)=zb:=by simp [Kg,bj]
theorem Qw6 (a b:Int):decide ((cM a:Key)=cM b)=(a == b):=by
 by_cases e:a=b
 ·subst e; simp
 ·have h:¬ (cM a:Key)=cM b:=fun q=>e (Sum.inl.inj q)
  rw [bN h];exact (beq_eq_false_iff_ne.mpr e).symm
theorem Qw3 (a b:Str):decide ((cO a:Key)=cO b)=decide (a=b):=by
 by_cases e:a=b
 ·subst e; simp
 ·have h:¬ (cO a:Key)=cO b:=fun q=>e (Sum.inr.inj q)
  rw [bN h,bN e]
theorem Qw5 (a:Int) (b:Str):decide ((cM a:Key)=cO b)=za:=bN (fun q=>nomatch q)
theorem Qw4 (a:Str) (b:Int):decide ((cO a:Key)=cM b)=za:=bN (fun q=>nomatch q)
def J9 (prog:aN) (w:aL):PySem.KeyKind prog w Key where
 is:=Kg
 hash:=J1m w
 inj:=fun v a b ha hb=>by
  rcases Yp ha with ⟨i,t,rfl,rfl⟩ | ⟨x,t,rfl,rfl⟩
  ·rcases Yp hb with ⟨j,u,rfl,e⟩ | ⟨y,u,rfl,e⟩
   ·injection e with e1 _; rw [e1]
   ·exact nomatch e
  ·rcases Yp hb with ⟨j,u,rfl,e⟩ | ⟨y,u,rfl,e⟩
   ·exact nomatch e
   ·injection e with e1 _; rw [e1]
 byValue:=fun k v h=>by
  rcases Yp h with ⟨i,t,rfl,rfl⟩ | ⟨x,t,rfl,rfl⟩ <;> rfl
 pyHash:=fun hv h=>by
  rcases Yp hv with ⟨i,t,rfl,rfl⟩ | ⟨x,t,rfl,rfl⟩
  ·exact wpAny_pyHash_int h
  ·exact wpAny_pyHash_str h
 eqBool:=fun hu hv h=>by
  rcases Yp hu with ⟨i,t,rfl,rfl⟩ | ⟨x,t,rfl,rfl⟩
  ·rcases Yp hv with ⟨j,u,rfl,rfl⟩ | ⟨y,u,rfl,rfl⟩
   ·rw [Qw6] at h; exact wpAny_eqBool_int h
   ·rw [Qw5] at h; exact SeqAt.EqAt.int_str i t y u _ _ _ _ h
  ·rcases Yp hv with ⟨j,u,rfl,rfl⟩ | ⟨y,u,rfl,rfl⟩
   ·rw [Qw4] at h; exact SeqAt.EqAt.str_int x t j u _ _ _ _ h
   ·rw [Qw3] at h; exact wpAny_eqBool_str h
 «strs»:=fun k x t v h=>by
  rcases Yp h with ⟨i,u,rfl,e⟩ | ⟨y,u,rfl,e⟩
  ·exact nomatch e
  ·injection e with e1 _
   subst e1;cases v <;> rfl
theorem Qex (prog:aN) (w:aL) (i:Int) (t:Tok):(J9 prog w).is (.inl i) (.int i t)=zb:=Qk6 i t
theorem Qew (prog:aN) (w:aL) (x:Str) (t:Tok):(J9 prog w).is (.inr x) (.str x t)=zb:=Qk5 x t
inductive V where
 | non | bl (b:Bool) | int (i:Int) | str (x:Str) | byt (b:Array UInt8) | flt (b:UInt64) | ref (a:aA) | ty (n:String)
 deriving DecidableEq
def RelV:V->aB->Prop
 | .non,u=>u=bZ
 | .bl b,u=>u=cE b
 | .int i,u=>∃ t,u=cg i t
 | .str x,u=>∃ t,u=dA x t
 | .byt b,u=>∃ t,u=fM b t
 | .flt b,u=>∃ t,u=dw b t
 | .ref a,u=>u=bT a
 | .ty n,u=>u=dO n
abbrev Vals:List V->List aB->Prop:=aq RelV
theorem Vals.length {xs:List V} {us:List aB} (r:Vals xs us):xs.length=us.length:=Paired.length r
theorem Vals.get:∀ {xs:List V} {us:List aB} {i:Nat} {x:V},Vals xs us->xs[i]?=zo x->∃ u,us[i]?=zo u/\RelV x u
 | _,_,_,_,.nil,e=>by simp at e
 | _,_,0,_,.cons r _,e=>by simp at e; subst e; exact ⟨_,rfl,r⟩
 | _,_,i + 1,x,.cons _ t,e=>by
  obtain ⟨u,h1,h2⟩:=Vals.get (i:=i) (x:=x) t (by simpa using e);exact ⟨u,by simpa using h1,h2⟩
theorem Vals.set {x:V} {u:aB} (r:RelV x u):∀ {xs:List V} {us:List aB} (i:Nat),Vals xs us->Vals (xs.set i x) (us.set i u)
 | _,_,_,.nil=>.nil
 | _,_,0,.cons _ t=>.cons r t
 | _,_,i + 1,.cons q t=>.cons q (Vals.set r i t)
theorem Vals.append:∀ {xs ys:List V} {us j:List aB},Vals xs us->Vals ys j->Vals (xs ++ ys) (us ++ j)
 | _,_,_,_,.nil,s=>s
 | _,_,_,_,.cons r t,s=>.cons r (Vals.append t s)
theorem Vals.take:∀ {xs:List V} {us:List aB} (n:Nat),Vals xs us->Vals (xs.take n) (us.take n)
 | _,_,0,_=>.nil
 | _,_,_ + 1,.nil=>.nil
 | _,_,n + 1,.cons r t=>.cons r (Vals.take n t)
theorem Vals.drop:∀ {xs:List V} {us:List aB} (n:Nat),Vals xs us->Vals (xs.drop n) (us.drop n)
 | _,_,0,r=>r
 | _,_,_ + 1,.nil=>.nil
 | _,_,n + 1,.cons _ t=>Vals.drop n t
def RelO:Option V->Option aB->Prop
 | some v,zo u=>RelV v u
 | none,zl=>True
 | _,_=>False
def KV {κ:Type}:List (κ × V)->List (κ × aB)->Prop:=aq fun (p:κ × V) (q:κ × aB)=>p.1=q.1/\RelV p.2 q.2
def kV:Key->V
 | .inl i=>.int i
 | .inr x=>.str x
inductive HO where
 | lst (xs:List V)
 | tup (xs:List V)
 | dK (kvs:List (Key × V)) | dT (kvs:List (List Key × V))
 | set (S:Int->Bool) (n:Nat)
 | ins (C dx:aA) (fs:List (Str × V))
 | own (x:aA)
 | xd (fs:List (Str × V))
 | met (f x:aA)
 | rng (lo hi:Int)
 | frz (o:Obj) (u:HO)
 | tbl (ps:Array aB)
 | ext (φ:Heap->Prop)
abbrev Hp:=aA->Option HO
def upd (H:Hp) (a:aA) (o:HO):Hp:=fun b=>if b=a then zo o else H b
theorem Jg {H:Hp} {a:aA} {o:HO}:upd H a o a=zo o:=by unfold upd; rw [bK rfl]
theorem Qj {H:Hp} {a b:aA} {o:HO} (h:b≠a):upd H a o b=H b:=by unfold upd; rw [bL h]
theorem Qm {H:Hp} {a b:aA} {o:HO} (h:H a=zo o) (h':H b=zl):a≠b:=by
 intro e; subst e; rw [h] at h'; cases h'
section
variable (P:aN) (w:aL)
def ObjOk (H:Hp) (h:Heap) (a:aA):HO->Prop
 | .lst xs=>xs.length<=sizeLine/\∃ (its:List aB) (n:Nat),Vals xs its/\h.get? a=zo { cls:=.type "list",data:=.seq its.toArray n }
 | .tup xs=>xs.length<=sizeLine/\∃ its:List aB,Vals xs its/\IsTup h a its.toArray
 | .dK kvs=>kvs.length<=sizeLine/\(a == af)=za/\∃ vs,KV kvs vs/\h.DictOf (J9 P w) a vs
 | .dT kvs=>kvs.length<=sizeLine/\(a == af)=za/\∃ xs:List (List Key × aA × aB),
   aq (fun (p:List Key × V) (q:List Key × aA × aB)=>p.1=q.1/\H q.2.1=zo (.tup (p.1.map kV))/\RelV p.2 q.2.2) kvs xs /\
   ∃ o es ep,h.get? a=zo o/\o.ExactDict/\o.data=.dict es ep/\es.toList=xs.map (entryOfKey (tupleKind (J9 P w)))/\(xs.map (·.1)).Nodup
 | .set S n=>h.SetOf (intKind P w) a S n
 | .ins C dx fs=>H dx=zo (.own a)/\fs.length<=1000/\dx≠a/\h.get? a=zo (cF C dx) /\
   ∃ mA,h.Ns1 dx mA/\(∀ f,RelO (fs.lookup f) (mA f))/\dy mA (fs.map (·.1))
 | .own _=>∃ o,h.get? a=zo o
 | .xd fs=>∃ mA,h.Ns1 a mA/\∀ f,RelO (fs.lookup f) (mA f)
 | .rng lo hi=>∃ t u v,h.get? a=zo { cls:=.type "range",data:=.fields #[.int lo t,.int hi u,.int 1 v] }
 | .frz o u=>h.get? a=zo o/\ObjOk H h a u
 | .tbl ps=>h.get? a=zo { cls:=.none,data:=.fields ps }
 | .met f x=>h.get? a=zo (dz (.ref f) (.ref x))
 | .ext φ=>φ h/\(∃ o,h.get? a=zo o)/\∀ h1 h2:Heap,φ h1->(∀ o,h1.get? a=zo o->h2.get? a=zo o)->φ h2
def HOk (H:Hp) (h:Heap):Prop:=∀ a o,H a=zo o->ObjOk P w H h a o
end
section
variable {P:aN} {w:aL} {H H':Hp} {h h':Heap} {a:aA} {o:HO}
theorem ObjOk.lt (x:ObjOk P w H h a o):a < h.objs.size:=by
 cases o with
 | lst xs=>obtain ⟨_,_,_,_,e⟩:=x; exact O8 e
 | tup xs=>obtain ⟨_,_,_,p⟩:=x; exact p.lt
 | dK kvs=>obtain ⟨_,_,_,_,o,_,_,e,_⟩:=x; exact O8 e
 | dT kvs=>obtain ⟨_,_,_,_,o,_,_,e,_⟩:=x; exact O8 e
 | set S n=>obtain ⟨o,_,_,_,e,_⟩:=x; exact O8 e
 | ins C dx fs=>obtain ⟨_,_,_,e,_⟩:=x; exact O8 e
 | own y=>obtain ⟨_,e⟩:=x; exact O8 e
 | xd fs=>obtain ⟨_,⟨_,_,_,e,_⟩,_⟩:=x; exact O8 e
 | rng lo hi=>obtain ⟨_,_,_,e⟩:=x; exact O8 e
 | frz ob u=>obtain ⟨e,_⟩:=x; exact O8 e
 | tbl ps=>exact O8 (show h.get? a=zo _ from x)
 | met f y=>exact O8 (show h.get? a=zo _ from x)
 | ext j=>obtain ⟨_,⟨_,e⟩,_⟩:=x; exact O8 e
theorem Paired.mapP {α β:Type} {F G:α->β->Prop}:∀ {j:List α} {q:List β},aq F j q->(∀ a b,F a b->G a b)->aq G j q
 | _,_,.nil,_=>.nil
 | _,_,.cons r t,f=>.cons (f _ _ r) (Paired.mapP t f)
theorem ObjOk.stay (x:ObjOk P w H h a o) (k:∀ b u,(b=a\/H b=zo (.own a))->h.get? b=zo u->h'.get? b=zo u)
  (I:∀ b,H b=zo (.own a)->H' b=zo (.own a)) (G:∀ b xs,H b=zo (.tup xs)->H' b=zo (.tup xs)):ObjOk P w H' h' a o:=by
 induction o with
 | lst xs=>obtain ⟨z,its,n,r,e⟩:=x; exact ⟨z,its,n,r,k _ _ (.inl rfl) e⟩
 | tup xs=>obtain ⟨z,its,r,ob,e,c⟩:=x; exact ⟨z,its,r,ob,k _ _ (.inl rfl) e,c⟩
 | dK kvs=>obtain ⟨z,y,vs,r,ob,es,j,e,c⟩:=x; exact ⟨z,y,vs,r,ob,es,j,k _ _ (.inl rfl) e,c⟩
 | dT kvs=>
  obtain ⟨z,y,xs,r,ob,es,j,e,c⟩:=x;exact ⟨z,y,xs,Paired.mapP r fun p q z=>⟨z.1,G _ _ z.2.1,z.2.2⟩,ob,es,j,k _ _ (.inl rfl) e,c⟩
 | set S n=>obtain ⟨ob,es,j,t,e,c⟩:=x; exact ⟨ob,es,j,t,k _ _ (.inl rfl) e,c⟩
 | ins C dx fs=>
  obtain ⟨d,z,ne,e,mA,⟨B,es,j,e2,c⟩,r⟩:=x;exact ⟨I _ d,z,ne,k _ _ (.inl rfl) e,mA,⟨B,es,j,k _ _ (.inr d) e2,c⟩,r⟩
 | own y=>obtain ⟨ob,e⟩:=x; exact ⟨ob,k _ _ (.inl rfl) e⟩
 | xd fs=>obtain ⟨mA,⟨B,es,j,e,c⟩,r⟩:=x; exact ⟨mA,⟨B,es,j,k _ _ (.inl rfl) e,c⟩,r⟩
 | rng lo hi=>obtain ⟨t,u,v,e⟩:=x; exact ⟨t,u,v,k _ _ (.inl rfl) e⟩
 | frz ob u J=>obtain ⟨e,q⟩:=x; exact ⟨k _ _ (.inl rfl) e,J q⟩
 | tbl ps=>
  have e:h.get? a=zo { cls:=.none,data:=.fields ps }:=x;show h'.get? a=zo { cls:=.none,data:=.fields ps };exact k a _ (.inl rfl) e
 | met f y=>
  have e:h.get? a=zo (dz (.ref f) (.ref y)):=x;show h'.get? a=zo (dz (.ref f) (.ref y));exact k a _ (.inl rfl) e
 | ext O=>obtain ⟨p,⟨o,e⟩,st⟩:=x; exact ⟨st _ _ p fun o q=>k _ _ (.inl rfl) q,⟨o,k _ _ (.inl rfl) e⟩,st⟩
theorem HOk.lt (x:HOk P w H h) (e:H a=zo o):a < h.objs.size:=(x a o e).lt
theorem HOk.fresh (x:HOk P w H h) (e:h.objs.size<=a):H a=zl:=by
 cases q:H a with
 | none=>rfl
 | some u=>exact absurd (D2 (x.lt q) e) (bo _)
theorem HOk.kept (x:HOk P w H h) (k:∀ b u,h.get? b=zo u->h'.get? b=zo u):HOk P w H h':=fun a o e=>
 (x a o e).stay (fun b u _ q=>k b u q) (fun _ q=>q) fun _ _ q=>q
theorem HOk.laid (x:HOk P w H h) (k:∀ b u,h.get? b=zo u->h'.get? b=zo u) (hp:h.objs.size<=a) (new:ObjOk P w (upd H a o) h' a o):HOk P w (upd H a o) h':=fun b u e=>by
 have z:=x.fresh hp
 by_cases j:b=a
 ·subst j; rw [Jg] at e; cases e; exact new
 ·rw [Qj j] at e;exact (x b u e).stay (fun c v _ q=>k c v q) (fun c q=>by rw [Qj (Qm q z)]; exact q) fun c xs q=>by rw [Qj (Qm q z)]; exact q
end
def Rd (H:Hp) (a:aA) (u:HO):Prop:=H a=zo u\/∃ o,H a=zo (.frz o u)
theorem Rd.ok {P:aN} {w:aL} {H:Hp} {h:Heap} {a:aA} {u:HO} (r:Rd H a u) (x:HOk P w H h):ObjOk P w H h a u:=by
 rcases r with r | ⟨o,r⟩
 ·exact x a u r
 ·obtain ⟨_,q⟩:=x a _ r;exact q
def Mut:Option HO->Prop
 | some (.lst _)=>True
 | some (.dK _)=>True
 | some (.dT _)=>True
 | some (.set _ _)=>True
 | some (.ins _ _ _)=>True
 | some (.ext _)=>True
 | _=>False
section
variable {P:aN} {w:aL} {H:Hp} {h h':Heap} {x e:aA} {o':HO}
theorem HOk.write (ok:HOk P w H h) (O:Mut (H x)) (Y:e=x\/H e=zo (.own x)) (k:∀ b u,b≠e->h.get? b=zo u->h'.get? b=zo u) (U:∃ u,h'.get? e=zo u)
  (new:ObjOk P w (upd H x o') h' x o'):HOk P w (upd H x o') h':=fun b u q=>by
 have B:∀ c y,H c=zo (.own y)->c≠x:=fun c y r z=>by subst z; rw [r] at O; exact O
 have G:∀ c xs,H c=zo (.tup xs)->c≠x:=fun c xs r z=>by subst z; rw [r] at O; exact O
 by_cases I:b=x
 ·subst I; rw [Jg] at q; cases q; exact new
 ·rw [Qj I] at q
  by_cases j:b=e
  ·have Z:H b=zo (.own x):=by
    rcases Y with z | z
    ·exact absurd (j.trans z) I
    ·rw [j]; exact z
   rw [q] at Z; cases Z;obtain ⟨v,hv⟩:=U;exact ⟨v,by rw [j]; exact hv⟩
  ·refine (ok b u q).stay (fun c v J r=>k c v ?_ r) (fun c r=>by rw [Qj (B c b r)]; exact r) fun c xs r=>by rw [Qj (G c xs r)]; exact r
   rcases J with rfl | J
   ·exact j
   ·rintro rfl;rcases Y with z | z
    ·exact B c b J z
    ·rw [J] at z; cases z; exact I rfl
end
structure Un (fs ex:List aA) (H H':Hp) (h h':Heap):Prop where
 keep:∀ b o,h.get? b=zo o->H b=zl->b∉fs->b∉ex->h'.get? b=zo o
 slot:∀ b o,h.get? b=zo o->H b=zl->b∈fs->b∉ex->∃ sl,h'.get? b=zo { o with slots:=sl }
 free:∀ b o,h.get? b=zo o->H b=zl->b∉ex->H' b=zl
 there:∀ b o,h.get? b=zo o->b∉ex->∃ o',h'.get? b=zo o'
 tups:∀ b xs,H b=zo (.tup xs)->H' b=zo (.tup xs)
 frzs:∀ b o u,H b=zo (.frz o u)->H' b=zo (.frz o u)
 tbls:∀ b ps,H b=zo (.tbl ps)->∃ more,H' b=zo (.tbl (ps ++ more))
section
variable {fs fs' ex ex':List aA} {H H1 H2:Hp} {h h1 h2 h':Heap} {a x e:aA} {o:HO}
theorem Un.any (u:Un fs ex H H1 h h1) {b:aA} {ob:Obj} (q:h.get? b=zo ob) (n:H b=zl) (z:b∉ex):∃ B,h1.get? b=zo { ob with slots:=B }:=by
 by_cases j:b∈fs
 ·exact u.slot b ob q n j z
 ·exact ⟨ob.slots,u.keep b ob q n j z⟩
theorem Un.kept (k:∀ b u,h.get? b=zo u->h'.get? b=zo u):Un fs ex H H h h':=
 ⟨fun b ob q _ _ _=>k b ob q,fun b ob q _ _ _=>⟨ob.slots,k b ob q⟩,fun _ _ _ n _=>n,fun b ob q _=>⟨ob,k b ob q⟩,fun _ _ q=>q,fun _ _ _ q=>q,fun _ ps q=>⟨#[],by rw [q]; simp⟩⟩
theorem Un.refl:Un fs ex H H h h:=Un.kept fun _ _ q=>q
theorem Un.laid (k:∀ b u,h.get? b=zo u->h'.get? b=zo u) (hp:h.objs.size<=a) (j:H a=zl):Un fs ex H (upd H a o) h h' where
 keep:=fun b u q _ _ _=>k b u q
 slot:=fun b u q _ _ _=>⟨u.slots,k b u q⟩
 free:=fun b u q n _=>by rw [Qj (D9 (D2 (O8 q) hp))]; exact n
 there:=fun b u q _=>⟨u,k b u q⟩
 tups:=fun b xs q=>by rw [Qj (Qm q j)]; exact q
 frzs:=fun b u xs q=>by rw [Qj (Qm q j)]; exact q
 tbls:=fun b ps q=>⟨#[],by rw [Qj (Qm q j),q]; simp⟩
theorem Un.write (B:Mut (H x)) (U:e=x\/H e=zo (.own x)) (k:∀ b u,b≠e->h.get? b=zo u->h'.get? b=zo u) (I:∃ u,h'.get? e=zo u):Un fs ex H (upd H x o) h h':=by
 have O:∀ b,H b=zl->b≠x:=fun b n z=>by subst z; rw [n] at B; exact B
 have J:∀ b,H b=zl->b≠e:=fun b n z=>by
  subst z;rcases U with r | r
  ·exact O b n r
  ·rw [n] at r; cases r
 have G:∀ b u,H b=zo u->¬ Mut (zo u)->b≠x:=fun b u q nm z=>by subst z; rw [q] at B; exact nm B
 refine ⟨fun b u q n _ _=>k b u (J b n) q,fun b u q n _ _=>⟨u.slots,k b u (J b n) q⟩,fun b u q n _=>by rw [Qj (O b n)]; exact n,fun b u q _=>?_,
  fun b xs q=>by rw [Qj (G b _ q fun z=>z)]; exact q,fun b u xs q=>by rw [Qj (G b _ q fun z=>z)]; exact q,fun b ps q=>⟨#[],by rw [Qj (G b _ q fun z=>z),q]; simp⟩⟩
 by_cases j:b=e
 ·subst j; exact I
 ·exact ⟨u,k b u j q⟩
end
def trk (h:Heap) (H:Hp):List aA:=(bS h.objs.size).filter fun a=>(H a).isSome
def Qd7 (h:Heap) (H:Hp):Heap:=dP h (trk h H)
theorem Qke (h:Heap) (H:Hp):(Qd7 h H).objs.size=h.objs.size:=PySem.W.hideAll_size _ _
theorem Qny {h:Heap} {H:Hp} {b:aA} {o:Obj} (e:h.get? b=zo o) (n:H b=zl):(Qd7 h H).get? b=zo o:=
 dQ _ e fun j=>by
  have q:(H b).isSome=zb:=(cG.mp j).2;rw [n] at q; simp at q
theorem Qrx {h:Heap} {H:Hp} {b:aA} {o:Obj} (e:(Qd7 h H).get? b=zo o):h.get? b=zo o/\H b=zl:=by
 have j:h.get? b=zo o:=fN (trk h H) e;refine ⟨j,?_⟩;cases q:H b with
 | none=>rfl
 | some x=>
  have B:b∈trk h H:=cG.mpr ⟨F1.mpr (O8 j),by simp [q]⟩;have z:(Qd7 h H).get? b=zl:=fO (trk h H) B;rw [z] at e; cases e
def Qsz (g h:Heap) (L:aA):List (aA × Obj):=(bS h.objs.size).filterMap fun a=>if a=L\/(g.get? a).isSome=zb then zl else (h.get? a).map fun o=>(a,o)
def rest (g h:Heap) (L d:aA):List (aA × Obj):=(Qsz g h L).filter fun p=>decide (p.1≠d)
structure Mod (K:bQ) (mg:Str->Option aB) (base:Heap):Prop where
 kin:K.In base
 glob:base.Ns aS mg
 blt:∃ mb,base.Ns builtinsNs mb/\∀ x:Str,x≠"__name__" -> mb x=aa x
 nolimit:base.NoLimit
structure Cx where
 prog:aN
 w:aL
 K:bQ
 mg:Str->Option aB
 base:Heap
 A:aQ
 N:List Str
 s₀:aC
 H₀:Hp
 env:Env
 outer:List Env
 stack:List Env
 ex:List aA
 fn:Str->Bool
 calm:Bool
 pn:List (aA × Obj)
 xe:aB->aC->Prop
def frs (l:List Env):List aA:=l.filterMap (·.frame)
abbrev Cx.fs (X:Cx):List aA:=frs X.outer
def Vis (sc:Scope) (x:Str):Prop:=sc.names.lookup x=zo .local\/sc.names.lookup x=zo .cell\/sc.names.lookup x=zo .free
def Loc (sc:Scope) (x:Str):Prop:=sc.names.lookup x=zo .local\/sc.names.lookup x=zo .cell
def Qzv (env:Env) (h:Heap) (m:Str->Option aB) (x:Str) (u:aB):Prop:=
 (env.kindOf x=zo .local/\m x=zo u)\/((env.kindOf x=zo .cell\/env.kindOf x=zo .free)/\∃ c,env.cells.lookup x=zo c/\h.IsCell c (zo u))
structure Cx.Ok (X:Cx):Prop where
 mod:Mod X.K X.mg X.base
 kind:X.env.scope.kind=.function
 glob:X.env.globals=aS
 blt:X.env.builtins=builtinsNs
 above:X.s₀.heap.objs.size<=X.env.locals
 inj:∀ x y c,X.env.cells.lookup x=zo c->X.env.cells.lookup y=zo c->x=y
 has:∀ x,(X.env.kindOf x=zo .cell\/X.env.kindOf x=zo .free)->∃ c,X.env.cells.lookup x=zo c
 cab:∀ x c,X.fn x=zb->X.env.cells.lookup x=zo c->X.s₀.heap.objs.size<=c
 hd:X.calm=zb->X.A.handled=zl
 frames:X.A.frames=zo X.stack
 stk:X.stack=X.outer\/(X.stack=X.env :: X.outer/\X.env.frame=zo X.env.locals)
 exf:∀ b∈X.ex,b≠X.env.locals/\∀ x c,X.env.cells.lookup x=zo c->c≠b
 bs:∀ b o,X.base.get? b=zo o->X.s₀.heap.get? b=zo o/\X.H₀ b=zl
 bsz:X.base.objs.size<=X.s₀.heap.objs.size
 noex:∀ b o,X.base.get? b=zo o->b∉X.ex
 exfs:∀ b∈X.ex,b∉X.fs
 funs:X.s₀.heap.FunFrames X.base X.outer
 frf:∀ b∈X.fs,X.H₀ b=zl
structure Inv (X:Cx) (pins:List (aA × Obj)) (σ:List (Option V)) (H:Hp) (s:aC):Prop where
 ok:X.Ok
 os:s.os=X.s₀.os
 bare:AllBare s.gens
 base:Un X.fs X.ex X.H₀ H X.s₀.heap s.heap
 loc:∃ m,s.heap.Ns X.env.locals m/\∀ (i:Nat) (x:Str) (v:V),X.N[i]?=zo x->σ[i]?=zo (zo v)->Vis X.env.scope x->∃ u,RelV v u/\Qzv X.env s.heap m x u
 cell:∀ x c,X.env.cells.lookup x=zo c->∃ v,s.heap.IsCell c v
 free:H X.env.locals=zl
 freeC:∀ x c,X.env.cells.lookup x=zo c->H c=zl
 pin:∀ p∈X.pn ++ pins,s.heap.get? p.1=zo p.2/\H p.1=zl/\p.1≠X.env.locals/\p.1∉X.fs/\∀ v,p.2.data≠.cell v
 hok:HOk X.prog X.w H s.heap
 len:σ.length=X.N.length
section
variable {X:Cx} {pins:List (aA × Obj)} {σ:List (Option V)} {H H':Hp} {s:aC} {h':Heap}
theorem Cx.Ok.nofr (ok:X.Ok) {b:aA} {o:Obj} (e:X.base.get? b=zo o):b∉X.fs:=fun j=>by
 have:=(ok.funs.mem j).1;rw [e] at this; cases this
theorem Inv.bs (I:Inv X pins σ H s):∀ b o,X.base.get? b=zo o->s.heap.get? b=zo o/\H b=zl:=fun b o e=>
 ⟨I.base.keep b o (I.ok.bs b o e).1 (I.ok.bs b o e).2 (I.ok.nofr e) (I.ok.noex b o e),I.base.free b o (I.ok.bs b o e).1 (I.ok.bs b o e).2 (I.ok.noex b o e)⟩
theorem Inv.bk (I:Inv X pins σ H s):∀ b o,X.base.get? b=zo o->s.heap.get? b=zo o:=fun b o e=>(I.bs b o e).1
theorem Inv.mod (I:Inv X pins σ H s):Mod X.K X.mg X.base:=I.ok.mod
theorem Inv.kIn (I:Inv X pins σ H s):X.K.In s.heap:=I.ok.mod.kin.keeps I.bk
theorem Inv.lt (I:Inv X pins σ H s):X.env.locals < s.heap.objs.size:=let ⟨_,j,_⟩:=I.loc; j.lt
theorem Inv.sz (I:Inv X pins σ H s):X.s₀.heap.objs.size<=s.heap.objs.size:=F2 I.ok.above (E2 I.lt)
theorem Inv.nofs (I:Inv X pins σ H s) {a:aA} (h:s.heap.objs.size<=a):a∉X.fs:=fun j=>by
 obtain ⟨_,o,q,_⟩:=I.ok.funs.mem j;exact absurd (D2 (O8 q) (F2 I.sz h)) (bo _)
theorem Inv.cne (I:Inv X pins σ H s):∀ x c,X.env.cells.lookup x=zo c->c≠X.env.locals:=fun x c e z=>by
 obtain ⟨v,o,B,hd⟩:=I.cell x c e;obtain ⟨m,⟨o',es,G,j,q,_⟩,_⟩:=I.loc;rw [z,j] at B; cases B; rw [q] at hd; cases hd
theorem Inv.funs (I:Inv X pins σ H s):s.heap.FunFrames X.base X.outer:=by
 have all:∀ (l:List Env),(∀ b∈frs l,b∈X.fs)->X.s₀.heap.FunFrames X.base l->s.heap.FunFrames X.base l:=by
  intro l
  induction l with
  | nil=>intro _ _; trivial
  | cons env r O=>
   intro hs Y;obtain ⟨G,⟨L,o,q,U,J,hd⟩,hr⟩:=Y;have B:L∈X.fs:=hs L (by unfold frs; rw [dR,q]; exact D1);obtain ⟨Z,e⟩:=I.base.slot L o J (I.ok.frf L B) B fun z=>I.ok.exfs L z B
   exact ⟨G,⟨L,_,q,U,e,hd⟩,O (fun b j=>hs b (by unfold frs; rw [dR,q]; exact O9 _ j)) hr⟩
 exact all X.outer (fun _ j=>j) I.ok.funs
theorem Inv.stack (I:Inv X pins σ H s):s.heap.FunFrames X.base X.stack:=by
 rcases I.ok.stk with e | ⟨e,q⟩
 ·rw [e]; exact I.funs
 ·rw [e];obtain ⟨m,j,_⟩:=I.loc;refine .cons (by rw [I.ok.kind]; decide) q j ?_ I.funs;exact Heap.get?_none_of_le (F2 I.ok.bsz I.ok.above)
theorem Inv.stkSub (I:Inv X pins σ H s):∀ b∈frs X.stack,b∈X.env.locals :: X.fs:=fun b j=>by
 rcases I.ok.stk with e | ⟨e,q⟩
 ·rw [e] at j; exact O9 _ j
 ·rw [e] at j;unfold frs at j;rw [dR,q] at j;exact j
theorem Inv.stkFree (I:Inv X pins σ H s):∀ b∈frs X.stack,H b=zl:=fun b j=>by
 rcases E5.mp (I.stkSub b j) with e | j
 ·rw [e]; exact I.free
 ·obtain ⟨_,o,q,_⟩:=I.ok.funs.mem j;exact I.base.free b o q (I.ok.frf b j) fun z=>I.ok.exfs b z j
theorem Inv.step {g':Array GenState} {t':Nat} {d':Drawn} {ch:List aA} (I:Inv X pins σ H s)
  (B:∀ b∈ch,(b∈X.ex\/X.s₀.heap.objs.size<=b)/\b≠X.env.locals/\(∀ x c,X.env.cells.lookup x=zo c->c≠b)/\∀ p∈X.pn ++ pins,p.1≠b)
  (keep:∀ b o,b≠X.env.locals->b∉X.fs->b∉ch->s.heap.get? b=zo o->H b=zl->h'.get? b=zo o)
  (slot:∀ b o,b≠X.env.locals->b∈X.fs->b∉ch->s.heap.get? b=zo o->H b=zl->∃ sl,h'.get? b=zo { o with slots:=sl }) (free:∀ b o,b∉ch->s.heap.get? b=zo o->H b=zl->H' b=zl)
  (there:∀ b o,b∉ch->s.heap.get? b=zo o->∃ o',h'.get? b=zo o')
  (tups:∀ b xs,H b=zo (.tup xs)->H' b=zo (.tup xs)) (frzs:∀ b o u,H b=zo (.frz o u)->H' b=zo (.frz o u)) (tbls:∀ b ps,H b=zo (.tbl ps)->∃ more,H' b=zo (.tbl (ps ++ more)))
  (ns:∀ m,s.heap.Ns X.env.locals m->h'.Ns X.env.locals m) (hok:HOk X.prog X.w H' h') (hg:AllBare g') :
  Inv X pins σ H' { s with heap:=h',gens:=g',drawn:=d',toks:=t' }:=by
 have Z:∀ b o,X.s₀.heap.get? b=zo o->b≠X.env.locals:=fun b o e=>D9 (D2 (O8 e) I.ok.above)
 have O:∀ b o,X.s₀.heap.get? b=zo o->b∉X.ex->b∉ch:=fun b o e j U=>by
  rcases (B b U).1 with z | z
  ·exact j z
  ·exact absurd (D2 (O8 e) z) (bo _)
 have J:∀ x c,X.env.cells.lookup x=zo c->∀ v,s.heap.IsCell c v->h'.IsCell c v:=fun x c e v ⟨o,Y,hd⟩=>by
  have G:c∉ch:=fun z=>(B c z).2.2.1 x c e rfl
  by_cases hc:c∈X.fs
  ·obtain ⟨sl,q⟩:=slot c o (I.cne x c e) hc G Y (I.freeC x c e);exact ⟨_,q,hd⟩
  ·exact ⟨o,keep c o (I.cne x c e) hc G Y (I.freeC x c e),hd⟩
 refine ⟨I.ok,I.os,hg,⟨fun b o e n U j=>?_,fun b o e n U j=>?_,fun b o e n j=>?_,fun b o e j=>?_,fun b xs e=>tups b xs (I.base.tups b xs e),fun b o xs e=>frzs b o xs (I.base.frzs b o xs e),fun b ps e=>?_⟩,?_,fun x c e=>?_,?_,fun x c e=>?_,fun p hp=>?_,hok,I.len⟩
 ·exact keep b o (Z b o e) U (O b o e j) (I.base.keep b o e n U j) (I.base.free b o e n j)
 ·obtain ⟨sl,e1⟩:=I.base.slot b o e n U j;obtain ⟨a2,e2⟩:=slot b _ (Z b o e) U (O b o e j) e1 (I.base.free b o e n j);exact ⟨a2,e2⟩
 ·obtain ⟨o',e1⟩:=I.base.there b o e j;exact free b o' (O b o e j) e1 (I.base.free b o e n j)
 ·obtain ⟨o',e1⟩:=I.base.there b o e j;exact there b o' (O b o e j) e1
 ·obtain ⟨m1,e1⟩:=I.base.tbls b ps e;obtain ⟨m2,e2⟩:=tbls b _ e1;exact ⟨m1 ++ m2,by rw [e2,fP]⟩
 ·obtain ⟨m,hn,hl⟩:=I.loc;refine ⟨m,ns m hn,fun i x v e1 e2 e3=>?_⟩;obtain ⟨u,r,l⟩:=hl i x v e1 e2 e3;refine ⟨u,r,?_⟩;rcases l with l | ⟨k,c,e,z⟩
  ·exact .inl l
  ·exact .inr ⟨k,c,e,J x c e _ z⟩
 ·obtain ⟨v,z⟩:=I.cell x c e;exact ⟨v,J x c e v z⟩
 ·obtain ⟨m,⟨o,_,_,Y,_⟩,_⟩:=I.loc;exact free _ o (fun z=>(B _ z).2.1 rfl) Y I.free
 ·obtain ⟨v,o,Y,hd⟩:=I.cell x c e;exact free c o (fun z=>(B c z).2.2.1 x c e rfl) Y (I.freeC x c e)
 ·obtain ⟨e,n,ne,nf,d⟩:=I.pin p hp;have G:p.1∉ch:=fun z=>(B p.1 z).2.2.2 p hp rfl
  exact ⟨keep p.1 p.2 ne nf G e n,free p.1 p.2 G e n,ne,nf,d⟩
theorem Inv.un {t':Nat} (I:Inv X pins σ H s) (u:Un X.fs [] H H' s.heap h') (hok:HOk X.prog X.w H' h'):Inv X pins σ H' { s with heap:=h',toks:=t' }:=by
 obtain ⟨m,⟨o,es,ep,J,r⟩,_⟩:=id I.loc;obtain ⟨Z,U⟩:=u.any J I.free (by simp);exact I.step (g':=s.gens) (d':=s.drawn) (ch:=[]) (fun _ z=>nomatch z) (fun b o _ q _ e n=>u.keep b o e n q (by simp)) (fun b o _ q _ e n=>u.slot b o e n q (by simp)) (fun b o _ e n=>u.free b o e n (by simp)) (fun b o _ e=>u.there b o e (by simp)) u.tups u.frzs u.tbls (fun m' O=>by
  obtain ⟨o',G,B,j,Y⟩:=O;rw [J] at j; cases j;exact ⟨_,G,B,U,Y⟩) hok I.bare
theorem Inv.call {g':Array GenState} {t':Nat} {d':Drawn} {ch:List aA} (I:Inv X pins σ H s) (u:Un (frs X.stack) ch H H' s.heap h') (hok:HOk X.prog X.w H' h') (hg:AllBare g')
  (B:∀ b∈ch,(b∈X.ex\/X.s₀.heap.objs.size<=b)/\b≠X.env.locals/\(∀ x c,X.env.cells.lookup x=zo c->c≠b)/\∀ p∈X.pn ++ pins,p.1≠b) :
  Inv X pins σ H' { s with heap:=h',gens:=g',drawn:=d',toks:=t' }:=by
 obtain ⟨m,⟨o,es,ep,U,r⟩,_⟩:=id I.loc;obtain ⟨sl,O⟩:=u.any U I.free fun z=>(B _ z).2.1 rfl
 exact I.step (ch:=ch) B (fun b o O hb j e n=>u.keep b o e n (fun z=>(E5.mp (I.stkSub b z)).elim O hb) j) (fun b o _ _ j e n=>u.any e n j) (fun b o j e n=>u.free b o e n j) (fun b o j e=>u.there b o e j) u.tups u.frzs u.tbls (fun m' Z=>by
  obtain ⟨o',G,J,q,Y⟩:=Z;rw [U] at q; cases q;exact ⟨_,G,J,O,Y⟩) hok hg
theorem Inv.turned {t':Nat} {j:aA} (I:Inv X pins σ H s) (k:∀ b o,b≠j->s.heap.get? b=zo o->h'.get? b=zo o) (hn:H j=zl) (J:j≠X.env.locals)
  (h1:j∈X.ex\/X.s₀.heap.objs.size<=j) (h2:∀ x c,X.env.cells.lookup x=zo c->c≠j) (Y:∀ p∈X.pn ++ pins,p.1≠j):Inv X pins σ H { s with heap:=h',toks:=t' }:=by
 have G:∀ b u,H b=zo u->b≠j:=fun b u e z=>by rw [z,hn] at e; cases e
 refine I.step (g':=s.gens) (d':=s.drawn) (ch:=[j]) (fun b O=>?_) (fun b o _ _ B e _=>k b o (fun z=>B (by simp [z])) e) (fun b o _ _ B e _=>⟨o.slots,k b o (fun z=>B (by simp [z])) e⟩) (fun _ _ _ _ n=>n)
  (fun b o B e=>⟨o,k b o (fun z=>B (by simp [z])) e⟩) (fun _ _ e=>e) (fun _ _ _ e=>e) (fun b ps e=>⟨#[],by rw [e]; simp⟩) (fun m U=>?_) (fun b u e=>?_) I.bare
 ·have e:b=j:=by simpa using O
  subst e;exact ⟨h1,J,h2,Y⟩
 ·obtain ⟨o,es,ep,Z,r⟩:=U;exact ⟨o,es,ep,k _ o (Ne.symm J) Z,r⟩
 ·refine (I.hok b u e).stay (fun c v B q=>k c v ?_ q) (fun _ q=>q) fun _ _ q=>q
  rcases B with z | z
  ·rw [z]; exact G b u e
  ·exact G c _ z
theorem Inv.tok (I:Inv X pins σ H s) (t:Nat):Inv X pins σ H { s with toks:=t }:=I.un (h':=s.heap) (t':=t) Un.refl I.hok
theorem Inv.kept {t':Nat} (I:Inv X pins σ H s) (k:∀ b u,s.heap.get? b=zo u->h'.get? b=zo u):Inv X pins σ H { s with heap:=h',toks:=t' }:=I.un (Un.kept k) (I.hok.kept k)
theorem Inv.laid {a:aA} {o:HO} {t':Nat} (I:Inv X pins σ H s) (k:∀ b u,s.heap.get? b=zo u->h'.get? b=zo u) (hp:s.heap.objs.size<=a) (new:ObjOk X.prog X.w (upd H a o) h' a o) :
  Inv X pins σ (upd H a o) { s with heap:=h',toks:=t' }:=I.un (Un.laid k hp (I.hok.fresh hp)) (I.hok.laid k hp new)
theorem Inv.write {x e:aA} {o:HO} {t':Nat} (I:Inv X pins σ H s) (q:Mut (H x)) (z:e=x\/H e=zo (.own x)) (k:∀ b u,b≠e->s.heap.get? b=zo u->h'.get? b=zo u) (j:∃ u,h'.get? e=zo u)
  (new:ObjOk X.prog X.w (upd H x o) h' x o):Inv X pins σ (upd H x o) { s with heap:=h',toks:=t' }:=I.un (Un.write q z k j) (I.hok.write q z k j new)
theorem Inv.pins_of {pins':List (aA × Obj)} (I:Inv X pins σ H s) (h:∀ p∈pins',s.heap.get? p.1=zo p.2/\H p.1=zl/\p.1≠X.env.locals/\p.1∉X.fs/\∀ v,p.2.data≠.cell v):Inv X pins' σ H s:=
 ⟨I.ok,I.os,I.bare,I.base,I.loc,I.cell,I.free,I.freeC,fun p hp=>(E7.mp hp).elim (fun z=>I.pin p (F9 _ z)) (h p),I.hok,I.len⟩
theorem Q8q {N:List Str} (q:N.Nodup) {i j:Nat} {x:Str} (a:N[i]?=zo x) (b:N[j]?=zo x):i=j:=by
 obtain ⟨h1,e1⟩:=O0.mp a;obtain ⟨h2,e2⟩:=O0.mp b;exact (List.getElem_inj q).mp (e1.trans e2.symm)
theorem Qb4 {M:Model} {A:aQ} {E:aB->aC->Prop} {i:Nat} {x:Str} {v:V} {u:aB} {Q:Unit->aC->Prop} (I:Inv X pins σ H s) (hN:X.N.Nodup) (hi:X.N[i]?=zo x) (J:Loc X.env.scope x) (r:RelV v u)
  (h:∀ s',Inv X pins (σ.set i (zo v)) H s'->(∃ a,Heap.SameBut a s.heap s'.heap/\(a=X.env.locals\/X.env.cells.lookup x=zo a))->Q () s') (hf:X.fn x=zb\/X.env.scope.names.lookup x=zo .local:=by first | exact .inl rfl | exact .inr rfl | assumption):aI M A (storeName X.env x u) Q E s:=by
 obtain ⟨m,hn,hl⟩:=id I.loc;have a5:(X.env.scope.kind == .class || (X.env.scope.kind == .module && X.env.locals != X.env.globals))=za:=by rw [I.ok.kind]; rfl
 have Y:i < σ.length:=by rw [I.len]; exact (O0.mp hi).1
 have cne:=I.cne;have B:∀ {a:aA} {h':Heap},(∃ o,s.heap.get? a=zo o/\H a=zl)->Heap.SameBut a s.heap h'->HOk X.prog X.w H h':=fun {a h'} ha hs b ob e=>by
  obtain ⟨_,_,O⟩:=ha;refine (I.hok b ob e).stay (fun c w' G q=>(hs.2 c ?_).trans q) (fun _ q=>q) fun _ _ q=>q
  rintro rfl;rcases G with rfl | G
  ·rw [O] at e; cases e
  ·rw [O] at G; cases G
 rcases J with U | U
 ·refine wpAny_storeName_local U hn (fun h' a8 hs=>?_) a5;obtain ⟨oL,_,_,a9,_⟩:=id hn;refine h _ ⟨I.ok,I.os,I.bare,⟨fun b o e n hb J=>?_,fun b o e n hb J=>?_,I.base.free,fun b o e J=>?_,I.base.tups,I.base.frzs,I.base.tbls⟩,⟨_,a8,fun j y v' e1 e2 e3=>?_⟩,fun y c e=>?_,I.free,I.freeC,fun p hp=>?_,B ⟨oL,a9,I.free⟩ hs,by simpa using I.len⟩ ⟨_,hs,.inl rfl⟩
  ·exact (hs.2 b (D9 (D2 (O8 e) I.ok.above))).trans (I.base.keep b o e n hb J)
  ·obtain ⟨sl,e1⟩:=I.base.slot b o e n hb J;exact ⟨sl,(hs.2 b (D9 (D2 (O8 e) I.ok.above))).trans e1⟩
  ·obtain ⟨o',e1⟩:=I.base.there b o e J;exact ⟨o',(hs.2 b (D9 (D2 (O8 e) I.ok.above))).trans e1⟩
  ·by_cases Z:j=i
   ·subst Z;rw [hi] at e1; cases e1;rw [E4 Y] at e2;cases e2;exact ⟨u,r,.inl ⟨U,by simp⟩⟩
   ·rw [O6 (Ne.symm Z)] at e2;obtain ⟨u',r',q⟩:=hl j y v' e1 e2 e3;refine ⟨u',r',?_⟩;rcases q with ⟨k,e⟩ | ⟨k,c,e,z⟩
    ·refine .inl ⟨k,?_⟩;have:y≠x:=fun e=>Z (Q8q hN e1 (e ▸ hi))
     simp [this,e]
    ·exact .inr ⟨k,c,e,z.sameBut hs (cne y c e)⟩
  ·obtain ⟨w',z⟩:=I.cell y c e;exact ⟨w',z.sameBut hs (cne y c e)⟩
  ·obtain ⟨e,n,ne,nf,d⟩:=I.pin p hp;exact ⟨(hs.2 p.1 ne).trans e,n,ne,nf,d⟩
 ·have a2:X.fn x=zb:=by
   rcases hf with z | z
   ·exact z
   ·rw [z] at U; cases U
  obtain ⟨c,G⟩:=I.ok.has x (.inl U);obtain ⟨w',z⟩:=I.cell x c G;refine wpAny_storeName_cell I.ok.kind U G z (fun h' a6 hs=>?_);obtain ⟨oc,a7,a4⟩:=id z;refine h { s with heap:=h' } ⟨I.ok,I.os,I.bare,⟨fun b o e n hb J=>?_,fun b o e n hb J=>?_,I.base.free,fun b o e J=>?_,I.base.tups,I.base.frzs,I.base.tbls⟩,⟨m,hn.sameBut hs (Ne.symm (cne x c G)),fun j y v' e1 e2 e3=>?_⟩,fun y c' e=>?_,I.free,I.freeC,fun p hp=>?_,B ⟨oc,a7,I.freeC x c G⟩ hs,by simpa using I.len⟩ ⟨c,hs,.inr G⟩
  ·exact (hs.2 b (D9 (D2 (O8 e) (I.ok.cab x c a2 G)))).trans (I.base.keep b o e n hb J)
  ·obtain ⟨sl,e1⟩:=I.base.slot b o e n hb J;exact ⟨sl,(hs.2 b (D9 (D2 (O8 e) (I.ok.cab x c a2 G)))).trans e1⟩
  ·obtain ⟨o',e1⟩:=I.base.there b o e J;exact ⟨o',(hs.2 b (D9 (D2 (O8 e) (I.ok.cab x c a2 G)))).trans e1⟩
  ·by_cases Z:j=i
   ·subst Z;rw [hi] at e1; cases e1;rw [E4 Y] at e2;cases e2;exact ⟨u,r,.inr ⟨.inl U,c,G,a6⟩⟩
   ·rw [O6 (Ne.symm Z)] at e2;obtain ⟨u',r',q⟩:=hl j y v' e1 e2 e3;refine ⟨u',r',?_⟩;rcases q with q | ⟨k,c',e,z'⟩
    ·exact .inl q
    ·refine .inr ⟨k,c',e,z'.sameBut hs ?_⟩;rintro rfl;exact Z (Q8q hN e1 (I.ok.inj _ _ _ e G ▸ hi))
  ·by_cases a3:c'=c
   ·subst a3; exact ⟨_,a6⟩
   ·obtain ⟨w2,z2⟩:=I.cell y c' e;exact ⟨w2,z2.sameBut hs a3⟩
  ·obtain ⟨e,n,ne,nf,d⟩:=I.pin p hp;refine ⟨(hs.2 p.1 ?_).trans e,n,ne,nf,d⟩;intro q;rw [q,a7] at e;have q':oc=p.2:=ba e;exact d w' (by rw [<- q']; exact a4)
theorem Q7n {M:Model} {A:aQ} {E:aB->aC->Prop} {i:Nat} {x:Str} {v:V} {u:aB} {Q:Unit->aC->Prop} (I:Inv X pins σ H s) (B:X.N.Nodup) (hi:X.N[i]?=zo x) (j:Loc X.env.scope x) (r:RelV v u)
  (h:∀ s',Inv X pins (σ.set i (zo v)) H s'->Q () s') (q:X.fn x=zb\/X.env.scope.names.lookup x=zo .local:=by first | exact .inl rfl | exact .inr rfl | assumption):aI M A (storeName X.env x u) Q E s:=
 Qb4 I B hi j r (fun s' z _=>h s' z) q
theorem Inv.call' {s':aC} {ch:List aA} (I:Inv X pins σ H s) (q:s'.os=s.os) (u:Un (frs X.stack) ch H H' s.heap s'.heap) (hok:HOk X.prog X.w H' s'.heap) (z:AllBare s'.gens)
  (j:∀ b∈ch,(b∈X.ex\/X.s₀.heap.objs.size<=b)/\b≠X.env.locals/\(∀ x c,X.env.cells.lookup x=zo c->c≠b)/\∀ p∈X.pn ++ pins,p.1≠b):Inv X pins σ H' s':=by
 obtain ⟨h',g',d',t',o'⟩:=s';have e:o'=s.os:=q;subst e;exact I.call (g':=g') (t':=t') (d':=d') u hok z j
end
abbrev XK:=aB->Option aA->Hp->Prop
abbrev St:=List (Option V)
abbrev VK:=V->Hp->Prop
abbrev TE:=St->Hp->VK->Prop
abbrev TT:=St->Hp->(Bool->Hp->Prop)->Prop
abbrev TA:=St->Hp->(List V->Hp->Prop)->Prop
structure Ends where
 nx:St->Hp->Prop
 rt:VK
 bk:St->Hp->Prop:=fun _ _=>False
 ct:St->Hp->Prop:=fun _ _=>False
abbrev TS:=Ends->St->Hp->Prop
def EP (X:Cx) (pins:List (aA × Obj)) (σ:St) (Q:VK) (u:aB) (s':aC):Prop:=∃ v H',Inv X pins σ H' s'/\RelV v u/\Q v H'
def TP (X:Cx) (pins:List (aA × Obj)) (σ:St) (Q:Bool->Hp->Prop) (b:Bool) (s':aC):Prop:=∃ H',Inv X pins σ H' s'/\Q b H'
def AP (X:Cx) (pins:List (aA × Obj)) (σ:St) (Q:List V->Hp->Prop) (us:List aB) (s':aC):Prop:=∃ vs H',Inv X pins σ H' s'/\Vals vs us/\Q vs H'
def SP (X:Cx) (pins:List (aA × Obj)) (D:Ends) (f:Flow) (s':aC):Prop:=
 match f with
 | .next=>∃ σ' H',Inv X pins σ' H' s'/\D.nx σ' H'
 | .brk=>∃ σ' H',Inv X pins σ' H' s'/\D.bk σ' H'
 | .cont=>∃ σ' H',Inv X pins σ' H' s'/\D.ct σ' H'
 | .ret u=>∃ v σ' H',Inv X pins σ' H' s'/\RelV v u/\D.rt v H'
def PE (X:Cx) (e:aD) (t:TE):Prop:=
 ∀ (pins:List (aA × Obj)) (s:aC) (σ:St) (H:Hp) (Q:VK),Inv X pins σ H s->t σ H Q->aI (aJ X.prog X.w) X.A (aM e X.env) (EP X pins σ Q) X.xe s
def PT (X:Cx) (e:aD) (t:TT):Prop:=
 ∀ (pins:List (aA × Obj)) (s:aC) (σ:St) (H:Hp) (Q:Bool->Hp->Prop),Inv X pins σ H s->t σ H Q->aI (aJ X.prog X.w) X.A (isTrue e X.env (aM e X.env)) (TP X pins σ Q) X.xe s
def PW (X:Cx) (e:aD) (t:TT):Prop:=
 ∀ (whole:Sem aB) (pins:List (aA × Obj)) (s:aC) (σ:St) (H:Hp) (Q:Bool->Hp->Prop),Inv X pins σ H s->t σ H Q->aI (aJ X.prog X.w) X.A (isTrue e X.env whole) (TP X pins σ Q) X.xe s
def PA (X:Cx) (es:List aD) (t:TA):Prop:=
 ∀ (pos:Pos) (pins:List (aA × Obj)) (s:aC) (σ:St) (H:Hp) (Q:List V->Hp->Prop),Inv X pins σ H s->t σ H Q->aI (aJ X.prog X.w) X.A (spliced (aU pos (aP es X.env))) (AP X pins σ Q) X.xe s
def PS (X:Cx) (st:aK) (t:TS):Prop:=
 ∀ (pins:List (aA × Obj)) (s:aC) (σ:St) (H:Hp) (D:Ends),Inv X pins σ H s->t D σ H->aI (aJ X.prog X.w) X.A (exec st X.env) (SP X pins D) X.xe s
def PSs (X:Cx) (st:List aK) (t:TS):Prop:=
 ∀ (pins:List (aA × Obj)) (s:aC) (σ:St) (H:Hp) (D:Ends),Inv X pins σ H s->t D σ H->aI (aJ X.prog X.w) X.A (execs st X.env) (SP X pins D) X.xe s
theorem thn {α:Type} {t:Sem α} {Q j:α->aC->Prop} {M:Model} {A:aQ} {E:aB->aC->Prop} {s:aC} (h:aI M A t Q E s) (q:∀ a s,Q a s->j a s):aI M A t j E s:=ad h q fun _ _ x=>x
section
variable {X:Cx}
def Qu9 (i:Nat):TE:=fun σ H Q=>∃ v,σ[i]?=zo (zo v)/\Q v H
def tC (v:V):TE:=fun _ H Q=>Q v H
theorem Qn1 {i:Nat} {x:Str} {pos:Pos} (O:X.N[i]?=zo x) (Y:Vis X.env.scope x) (hd:(x == ("__debug__" : Str))=za:=by decide) (z:(x == ("__classdict__" : Str))=za:=by decide):PE X (.Name x pos) (Qu9 i):=by
 intro pins s σ H Q I h;obtain ⟨v,e,h⟩:=h;obtain ⟨m,J,U⟩:=I.loc;obtain ⟨u,r,l⟩:=U i x v O e Y;have fin:EP X pins σ Q u s:=⟨v,H,I,r,h⟩;rcases l with ⟨q,G⟩ | ⟨q,c,B,j⟩
 ·exact wpAny_Name (wpAny_loadName_local I.ok.kind q J G fin) hd
 ·rcases q with q | q
  ·exact wpAny_Name (wpAny_loadName_cell I.ok.kind q B j fin) hd
  ·exact wpAny_Name (wpAny_loadName_free I.ok.kind q B j fin z) hd
theorem Qv3 {i j pos}:PE X (.Constant (.int i) j pos) (tC (.int i)):=fun _ _ _ H _ I h=>wpAny_Constant_int ⟨.int i,H,I.tok _,⟨_,rfl⟩,h⟩
theorem Qy8 {b j pos}:PE X (.Constant (.bool b) j pos) (tC (.bl b)):=fun _ _ _ H _ I h=>Constant_bool ⟨.bl b,H,I,rfl,h⟩
theorem Q1p {x j pos}:PE X (.Constant (.str x) j pos) (tC (.str x)):=fun _ _ _ H _ I h=>Calls.Constant_str ⟨.str x,H,I.tok _,⟨_,rfl⟩,h⟩
def Gl (X:Cx) (x:Str):Prop:=X.env.kindOf x=zo .globalImplicit
theorem Ky {E:aB->aC->Prop} {pins:List (aA × Obj)} {s:aC} {σ:St} {H:Hp} {x:Str} {u:aB} {pos:Pos} {Q:aB->aC->Prop} (I:Inv X pins σ H s) (q:Gl X x) (j:X.mg x=zo u) (h:Q u s)
  (hd:(x == ("__debug__" : Str))=za:=by decide):aI (aJ X.prog X.w) X.A (aM (.Name x pos) X.env) Q E s:=
 Calls.Name_function_global I.ok.kind q (Calls.loadGlobal_global (by rw [I.ok.glob]; exact I.mod.glob.keeps I.bk) j h) hd
theorem Q3v {E:aB->aC->Prop} {pins:List (aA × Obj)} {s:aC} {σ:St} {H:Hp} {x:Str} {u:aB} {pos:Pos} {Q:aB->aC->Prop} (I:Inv X pins σ H s) (q:Gl X x) (j:X.mg x=zl) (B:aa x=zo u) (h:Q u s)
  (z:x≠"__name__" := by decide) (hd:(x == ("__debug__" : Str))=za:=by decide):aI (aJ X.prog X.w) X.A (aM (.Name x pos) X.env) Q E s:=by
 obtain ⟨mb,h1,h2⟩:=I.mod.blt;exact Calls.Name_function_global I.ok.kind q (Calls.loadGlobal_builtin (by rw [I.ok.glob]; exact I.mod.glob.keeps I.bk) j (by rw [I.ok.blt]; exact h1.keeps I.bk) ((h2 x z).trans B) h) hd
theorem Qrh {x:Str} {v:V} {u:aB} {pos:Pos} (q:Gl X x) (j:X.mg x=zo u) (r:RelV v u) (hd:(x == ("__debug__" : Str))=za:=by decide):PE X (.Name x pos) (tC v):=
 fun _ _ _ H _ I h=>Ky I q j ⟨v,H,I,r,h⟩ hd
theorem Qrk {x:Str} {v:V} {u:aB} {pos:Pos} (q:Gl X x) (j:X.mg x=zl) (B:aa x=zo u) (r:RelV v u) (z:x≠"__name__" := by decide) (hd:(x == ("__debug__" : Str))=za:=by decide):PE X (.Name x pos) (tC v):=
 fun _ _ _ H _ I h=>Q3v I q j B ⟨v,H,I,r,h⟩ z hd
variable {a b:aD} {ta tb:TE} {pos:Pos}
def tB (t:TE):TT:=fun σ H Q=>t σ H fun x H1=>∃ c,x=.bl c/\Q c H1
theorem Quq {e:aD} {t:TE} (h:PE X e t) (z:∀ j,isTrue e X.env j=(do let v <- j; standAt e.pos; ag [v] (truthy v)):=by intro _; rfl):PT X e (tB t):=by
 intro pins s σ H Q I G;refine isTrue_plain (thn (h pins s σ H _ I G) fun v s1 ⟨x,H1,B,r1,q1⟩=>?_) (z _)
 obtain ⟨d,rfl,q⟩:=q1;cases r1;exact am ⟨H1,B,q⟩
variable {tA tB':TT} {rest:List aD}
def J14 (t u:TT):TT:=fun σ H Q=>t σ H fun c H1=>if c=zb then u σ H1 Q else Q za H1
def tOr (t u:TT):TT:=fun σ H Q=>t σ H fun c H1=>if c=zb then Q zb H1 else u σ H1 Q
def J0z (t:TT):TT:=fun σ H Q=>t σ H fun c H1=>Q (!c) H1
theorem Qqz (j:PT X a tA):PW X (.BoolOp .And [a] pos) tA:=by
 intro q pins s σ H Q I h;refine isTrue_and (thn (j pins s σ H Q I h) fun c s1 e=>?_)
 cases c with
 | true=>exact isTrue_and_nil e
 | false=>exact e
theorem Qun (j:PT X a tA):PW X (.BoolOp .Or [a] pos) tA:=by
 intro q pins s σ H Q I h;refine isTrue_or (thn (j pins s σ H Q I h) fun c s1 e=>?_)
 cases c with
 | false=>exact isTrue_or_nil e
 | true=>exact e
theorem Qup (z:PT X a tA) (q:PW X (.BoolOp .And (b :: rest) pos) tB'):PW X (.BoolOp .And (a :: b :: rest) pos) (J14 tA tB'):=by
 intro B pins s σ H Q I h;refine isTrue_and (thn (z pins s σ H _ I h) fun c s1 ⟨H1,j,q1⟩=>?_)
 cases c with
 | true=>exact q B pins s1 σ H1 Q j q1
 | false=>exact ⟨H1,j,q1⟩
theorem Qxy (z:PT X a tA) (q:PW X (.BoolOp .Or (b :: rest) pos) tB'):PW X (.BoolOp .Or (a :: b :: rest) pos) (tOr tA tB'):=by
 intro B pins s σ H Q I h;refine isTrue_or (thn (z pins s σ H _ I h) fun c s1 ⟨H1,j,q1⟩=>?_)
 cases c with
 | true=>exact ⟨H1,j,q1⟩
 | false=>exact q B pins s1 σ H1 Q j q1
theorem Qur (j:PT X a tA):PT X (.UnaryOp .Not a pos) (J0z tA):=by
 intro pins s σ H Q I h;exact isTrue_not (j pins s σ H (fun c H1=>Q (!c) H1) I h)
def Qxn (ta tb:TE):TE:=fun σ H Q=>ta σ H fun x H1=>∃ c,x=.bl c/\if c=zb then tb σ H1 Q else Q (.bl za) H1
def J0y (ta tb:TE):TE:=fun σ H Q=>ta σ H fun x H1=>∃ c,x=.bl c/\if c=zb then Q (.bl zb) H1 else tb σ H1 Q
def Qxd (ta:TE):TE:=fun σ H Q=>ta σ H fun x H1=>∃ c,x=.bl c/\Q (.bl (!c)) H1
theorem Qv1 {op} {t:TE} (h:PE X a t):PE X (.BoolOp op [a] pos) t:=fun pins s σ H Q I j=>BoolOp_one (h pins s σ H Q I j)
theorem Qv5 (z:PE X a ta) (q:PE X (.BoolOp .And (b :: rest) pos) tb):PE X (.BoolOp .And (a :: b :: rest) pos) (Qxn ta tb):=by
 intro pins s σ H Q I h;refine BoolOp_and (thn (z pins s σ H _ I h) fun v s1 ⟨x,H1,j,r1,q1⟩=>?_)
 obtain ⟨c,rfl,q1⟩:=q1;cases r1;refine am ?_;cases c with
 | true=>exact q pins s1 σ H1 Q j q1
 | false=>exact ⟨.bl za,H1,j,rfl,q1⟩
theorem Qy4 (z:PE X a ta) (q:PE X (.BoolOp .Or (b :: rest) pos) tb):PE X (.BoolOp .Or (a :: b :: rest) pos) (J0y ta tb):=by
 intro pins s σ H Q I h;refine BoolOp_or (thn (z pins s σ H _ I h) fun v s1 ⟨x,H1,j,r1,q1⟩=>?_)
 obtain ⟨c,rfl,q1⟩:=q1;cases r1;refine am ?_;cases c with
 | false=>exact q pins s1 σ H1 Q j q1
 | true=>exact ⟨.bl zb,H1,j,rfl,q1⟩
theorem Qv2 (j:PE X a ta):PE X (.UnaryOp .Not a pos) (Qxd ta):=by
 intro pins s σ H Q I h;refine UnaryOp_ (thn (j pins s σ H _ I h) fun v s1 ⟨x,H1,q,r1,q1⟩=>?_)
 obtain ⟨c,rfl,q1⟩:=q1;cases r1;exact not_of (am ⟨.bl (!c),H1,q,rfl,q1⟩)
end
def SqL (K:bQ) (H:Hp) (a:aA) (xs:List V):Prop:=
 Rd H a (.lst xs) \/
  ∃ (o:Obj) (its:Array aB) (n:Nat),K.lookup a=zo o/\o.cls=.type "list" /\ o.dict=zl/\o.data=.seq its n/\its.size<=sizeLine/\Vals xs its.toList
def SqT (K:bQ) (H:Hp) (a:aA) (xs:List V):Prop:=
 Rd H a (.tup xs) \/
  ∃ (o:Obj) (its:Array aB) (n:Nat),K.lookup a=zo o/\o.cls=.type "tuple" /\ o.data=.seq its n/\its.size<=sizeLine/\Vals xs its.toList
def J1u:aB->Option V
 | .none=>zo .non
 | .bool b=>zo (.bl b)
 | .int i _=>zo (.int i)
 | .str x _=>zo (.str x)
 | .bytes b _=>zo (.byt b)
 | .float b _=>zo (.flt b)
 | .ref a=>zo (.ref a)
 | .type n=>zo (.ty n)
 | _=>zl
theorem RelV.abs {x:V} {u:aB} (r:RelV x u):J1u u=zo x:=by
 cases x with
 | non=>cases r; rfl
 | bl _=>cases r; rfl
 | int _=>obtain ⟨t,rfl⟩:=r; rfl
 | str _=>obtain ⟨t,rfl⟩:=r; rfl
 | byt _=>obtain ⟨t,rfl⟩:=r; rfl
 | flt _=>obtain ⟨t,rfl⟩:=r; rfl
 | ref _=>cases r; rfl
 | ty _=>cases r; rfl
theorem RelV.inj {x y:V} {u:aB} (r:RelV x u) (q:RelV y u):x=y:=ba (r.abs.symm.trans q.abs)
theorem Vals.inj:∀ {xs ys:List V} {us:List aB},Vals xs us->Vals ys us->xs=ys
 | _,_,_,.nil,.nil=>rfl
 | _,_,_,.cons r t,.cons j t'=>by rw [r.inj j,Vals.inj t t']
section
variable {X:Cx} {pins:List (aA × Obj)} {σ:St} {H:Hp} {s:aC} {a:aA} {xs ys:List V}
theorem SqL.of {K:bQ} (h:H a=zo (.lst xs)):SqL K H a xs:=.inl (.inl h)
theorem SqT.of {K:bQ} (h:H a=zo (.tup xs)):SqT K H a xs:=.inl (.inl h)
theorem Inv.list (I:Inv X pins σ H s) (h:SqL X.K H a xs):∃ its:List aB,Vals xs its/\PlainL s.heap a its.toArray/\xs.length<=sizeLine:=by
 rcases h with h | ⟨o,its,n,q,j,hd,hs,hz,r⟩
 ·obtain ⟨z,its,n,r,e⟩:=h.ok I.hok;exact ⟨its,r,⟨_,n,e,rfl,rfl,rfl⟩,z⟩
 ·refine ⟨its.toList,r,⟨o,n,I.kIn a o q,j,hd,by simpa using hs⟩,?_⟩;have e:=r.length;simp only [eA] at e;omega
theorem Inv.tuple (I:Inv X pins σ H s) (h:SqT X.K H a xs):∃ its:List aB,Vals xs its/\IsTup s.heap a its.toArray/\xs.length<=sizeLine:=by
 rcases h with h | ⟨o,its,n,q,j,hs,hz,r⟩
 ·obtain ⟨z,its,r,p⟩:=h.ok I.hok;exact ⟨its,r,p,z⟩
 ·refine ⟨its.toList,r,⟨o,I.kIn a o q,j,n,by simpa using hs⟩,?_⟩;have e:=r.length;simp only [eA] at e;omega
theorem Inv.list_inj (I:Inv X pins σ H s) (h:SqL X.K H a xs) (h':SqL X.K H a ys):xs=ys:=by
 obtain ⟨its,r,⟨o,n,e,_,_,d⟩,_⟩:=I.list h;obtain ⟨its',z,⟨o',B,j,_,_,d'⟩,_⟩:=I.list h';rw [e] at j; cases j;rw [d] at d';injection d' with q _
 have:its=its':=by simpa using congrArg fQ q
 subst this;exact r.inj z
theorem Inv.tuple_inj (I:Inv X pins σ H s) (h:SqT X.K H a xs) (h':SqT X.K H a ys):xs=ys:=by
 obtain ⟨its,r,⟨o,e,_,n,d⟩,_⟩:=I.tuple h;obtain ⟨its',z,⟨o',j,_,B,d'⟩,_⟩:=I.tuple h';rw [e] at j; cases j;rw [d] at d';injection d' with q _
 have:its=its':=by simpa using congrArg fQ q
 subst this;exact r.inj z
end
abbrev Cx.wish (X:Cx) (E:aB->aC->Prop):Cx:={ X with xe:=E }
abbrev Cx.nox (X:Cx):Cx:=X.wish fun _ _=>False
theorem Cx.Ok.wish {X:Cx} (ok:X.Ok) (E:aB->aC->Prop):(X.wish E).Ok:=
 ⟨ok.mod,ok.kind,ok.glob,ok.blt,ok.above,ok.inj,ok.has,ok.cab,ok.hd,ok.frames,ok.stk,ok.exf,ok.bs,ok.bsz,ok.noex,ok.exfs,ok.funs,ok.frf⟩
theorem Cx.Ok.unwish {X:Cx} {E:aB->aC->Prop} (ok:(X.wish E).Ok):X.Ok:=
 ⟨ok.mod,ok.kind,ok.glob,ok.blt,ok.above,ok.inj,ok.has,ok.cab,ok.hd,ok.frames,ok.stk,ok.exf,ok.bs,ok.bsz,ok.noex,ok.exfs,ok.funs,ok.frf⟩
section
variable {X:Cx} {pins:List (aA × Obj)} {σ:St} {H:Hp} {s:aC} {E:aB->aC->Prop}
theorem Inv.wish (I:Inv X pins σ H s) (E:aB->aC->Prop):Inv (X.wish E) pins σ H s:=⟨I.ok.wish E,I.os,I.bare,I.base,I.loc,I.cell,I.free,I.freeC,I.pin,I.hok,I.len⟩
theorem Inv.unwish (I:Inv (X.wish E) pins σ H s):Inv X pins σ H s:=⟨I.ok.unwish,I.os,I.bare,I.base,I.loc,I.cell,I.free,I.freeC,I.pin,I.hok,I.len⟩
theorem SP.unwish {D:Ends} {f:Flow} {s':aC} (h:SP (X.wish E) pins D f s'):SP X pins D f s':=by
 cases f with
 | next=>obtain ⟨j,H',I,q⟩:=h; exact ⟨j,H',I.unwish,q⟩
 | brk=>obtain ⟨j,H',I,q⟩:=h; exact ⟨j,H',I.unwish,q⟩
 | cont=>obtain ⟨j,H',I,q⟩:=h; exact ⟨j,H',I.unwish,q⟩
 | ret u=>obtain ⟨v,j,H',I,r,q⟩:=h; exact ⟨v,j,H',I.unwish,r,q⟩
theorem PSs.nox {st:List aK} {t:TS} (h:PSs X.nox st t):PSs X st t:=fun pins s σ H D I j=>
 ad (h pins s σ H D (I.wish _) j) (fun _ _ q=>q.unwish) fun _ _ z=>False.elim z
end
section
variable {X:Cx} {st:aK} {rest:List aK} {t u:TS} {e:aD} {te:TE} {pos:Pos}
def Qxf:TS:=fun D σ H=>D.nx σ H
def J0x (t u:TS):TS:=fun D σ H=>t { D with nx:=u D } σ H
theorem Qr4:PSs X [] Qxf:=fun _ _ σ H _ I h=>wpAny_execs_nil ⟨σ,H,I,h⟩
theorem Qe8 (h1:PS X st t) (h2:PSs X rest u):PSs X (st :: rest) (J0x t u):=by
 intro pins s σ H D I h;refine wpAny_execs_cons (thn (h1 pins s σ H { D with nx:=u D } I h) fun f s1 q=>?_)
 cases f with
 | next=>
  obtain ⟨j,H',z,q⟩:=q;exact h2 pins s1 j H' D z q
 | ret v=>exact q
 | brk=>exact q
 | cont=>exact q
theorem Qck (h1:PS X st t):PSs X [st] t:=by
 intro pins s σ H D I h;refine wpAny_execs_cons (thn (h1 pins s σ H D I h) fun f s1 q=>?_)
 cases f with
 | next=>exact wpAny_execs_nil q
 | ret v=>exact q
 | brk=>exact q
 | cont=>exact q
theorem Inv.quiet {pins:List (aA × Obj)} {σ:St} {H:Hp} {s:aC} (I:Inv X pins σ H s):interactive X.env=za:=by simp [interactive,I.ok.kind]
def Qxh (te:TE):TS:=fun D σ H=>te σ H fun _ H1=>D.nx σ H1
theorem Qhv (j:PE X e te) (hs:swapsWith e zl pos.line X.env=pure za:=by rfl):PS X (.Expr e pos) (Qxh te):=by
 intro pins s σ H D I h;exact wpAny_Expr_any (thn (j pins s σ H _ I h) fun v s1 ⟨x,H1,q,r1,q1⟩=>⟨σ,H1,q,q1⟩) I.quiet hs
def Qxb (te:TE):TS:=fun D σ H=>te σ H D.rt
theorem Qmu (j:PE X e te):PS X (.Return (zo e) pos) (Qxb te):=by
 intro pins s σ H D I h;exact wpAny_Return_some (thn (j pins s σ H _ I h) fun v s1 ⟨x,H1,q,r1,q1⟩=>⟨x,σ,H1,q,r1,q1⟩)
def J11 (c:TT) (t u:TS):TS:=fun D σ H=>c σ H fun b H1=>if b=zb then t D σ H1 else u D σ H1
theorem Qy0 {c:aD} {a b:List aK} {tc:TT} (z:PT X c tc) (B:PSs X a t) (q:PSs X b u):PS X (.If c a b pos) (J11 tc t u):=by
 intro pins s σ H D I h;refine wpAny_If (thn (z pins s σ H _ I h) fun d s1 ⟨H1,j,q1⟩=>?_)
 cases d with
 | true=>exact B pins s1 σ H1 D j q1
 | false=>exact q pins s1 σ H1 D j q1
end
abbrev TG:=V->St->Hp->(St->Hp->Prop)->Prop
abbrev TGs:=List V->St->Hp->(St->Hp->Prop)->Prop
def PG (X:Cx) (target:aD) (t:TG):Prop:=
 ∀ (pins:List (aA × Obj)) (s:aC) (σ:St) (H:Hp) (v:V) (u:aB) (Q:St->Hp->Prop),Inv X pins σ H s->RelV v u->t v σ H Q ->
  aI (aJ X.prog X.w) X.A (assign target X.env u) (fun _ s'=>∃ σ' H',Inv X pins σ' H' s'/\Q σ' H') X.xe s
def PGs (X:Cx) (ts:List aD) (t:TGs):Prop:=
 ∀ (pins:List (aA × Obj)) (s:aC) (σ:St) (H:Hp) (vs:List V) (us:List aB) (Q:St->Hp->Prop),Inv X pins σ H s->Vals vs us->t vs σ H Q ->
  aI (aJ X.prog X.w) X.A (assignInOrder ((ak ts X.env).map (·.2)) us) (fun _ s'=>∃ σ' H',Inv X pins σ' H' s'/\Q σ' H') X.xe s
abbrev Qwp:=V->V->V->Hp->(Hp->Prop)->Prop
def Qzu (X:Cx) (t:Qwp):Prop:=
 ∀ (pins:List (aA × Obj)) (s:aC) (σ:St) (H:Hp) (o i v:V) (ov iv u:aB) (Q:Hp->Prop),Inv X pins σ H s->RelV o ov->RelV i iv->RelV v u->t o i v H Q ->
  aI (aJ X.prog X.w) X.A (setItem ov iv u) (fun _ s'=>∃ H',Inv X pins σ H' s'/\Q H') X.xe s
section
variable {X:Cx} {pos:Pos}
def Qff (i:Nat):TG:=fun v σ H Q=>Q (σ.set i (zo v)) H
theorem Qrd {i:Nat} {x:Str} (B:X.N.Nodup) (hi:X.N[i]?=zo x) (j:Loc X.env.scope x) (q:X.fn x=zb\/X.env.scope.names.lookup x=zo .local:=by first | exact .inl rfl | exact .inr rfl | assumption):PG X (.Name x pos) (Qff i):=by
 intro pins s σ H v u Q I r h;exact wpAny_assign_Name (Q7n I B hi j r (fun s' z=>⟨_,H,z,h⟩) q)
def Qz9:TGs:=fun vs σ H Q=>vs=[]/\Q σ H
def Qp2 (t:TG) (u:TGs):TGs:=fun vs σ H Q=>∃ v r,vs=v :: r/\t v σ H fun σ' H'=>u r σ' H' Q
theorem Qrb:PGs X [] Qz9:=by
 intro pins s σ H vs us Q I r h;obtain ⟨e,h⟩:=h;subst e;cases r;exact assignInOrder_nil ⟨σ,H,I,h⟩
theorem Qmz {e:aD} {es:List aD} {t:TG} {u:TGs} (h1:PG X e t) (h2:PGs X es u)
  (hs:(ak (e :: es) X.env).map (·.2)=assign e X.env :: (ak es X.env).map (·.2):=by rfl):PGs X (e :: es) (Qp2 t u):=by
 intro pins s σ H vs us Q I r h;obtain ⟨v,B,e1,h⟩:=h;subst e1;cases r with
 | cons r z=>
  rw [hs];refine assignInOrder_cons (thn (h1 pins s σ H _ _ _ I r h) fun _ s1 ⟨j,H1,q,q1⟩=>?_)
  exact h2 pins s1 j H1 _ _ Q q z q1
def Qz8 (K:bQ) (n:Nat) (t:TGs):TG:=fun v σ H Q=>∃ a xs,v=.ref a/\SqT K H a xs/\xs.length=n/\t xs σ H Q
theorem Quy {es:List aD} {k:Nat} {t:TGs} {n:Nat} (B:X.calm=zb) (h:PGs X es t)
  (U:(ak es X.env).length=n:=by rfl) (j:(ak es X.env).findIdx? (·.1)=zl:=by rfl):PG X (.Tuple es k pos) (Qz8 X.K n t):=by
 intro pins s σ H v u Q I r q;obtain ⟨a,xs,e1,G,Z,q⟩:=q;subst e1;cases r;obtain ⟨its,z,O,hz⟩:=I.tuple G;refine assign_Tuple_tuple (I.ok.hd B) O (by simp [U,<- Z,z.length]) j fun h' J=>?_
 have Y:Inv X pins σ H { s with heap:=h' }:=I.kept (t':=s.toks) fun b o e=>J b o (D9 (O8 e)) e
 exact h pins _ σ H xs _ Q Y (by simpa using z) q
def J1q (to ti:TE) (t:Qwp):TG:=fun v σ H Q=>to σ H fun o H1=>ti σ H1 fun i H2=>t o i v H2 fun H3=>Q σ H3
theorem Quz {o i:aD} {to z:TE} {t:Qwp} (J:PE X o to) (hi:PE X i z) (hs:Qzu X t)
  (U:∀ v,assign (.Subscript o i pos) X.env v=(do
   let j <- ag [v] (aM o X.env)
   let q <- ag [v,j] (aM i X.env)
   standAt pos
   ag [v,j,q] (setItem j q v)
   release [v,j,q] []):=by intro _; rfl):PG X (.Subscript o i pos) (J1q to z t):=by
 intro pins s σ H v u Q I r h;rw [U];refine aF (aw (thn (J pins s σ H _ I h) fun j s1 ⟨x,H1,Y,r1,q1⟩=>?_))
 refine aF (aw (thn (hi pins s1 σ H1 _ Y q1) fun q s2 ⟨y,H2,B,r2,q2⟩=>?_))
 refine aF (wpAny_standAt (aF (aw (thn (hs pins s2 σ H2 x y v j q u _ B r1 r2 r q2) fun _ s3 ⟨O,G,q3⟩=>?_))))
 exact wpAny_release ⟨σ,O,G,q3⟩
def Quc (te:TE) (g:TG):TS:=fun D σ H=>te σ H fun x H1=>g x σ H1 D.nx
theorem Qmw {tg e:aD} {te:TE} {g:TG} (z:PE X e te) (j:PG X tg g) (hs:swapsWithSole [tg] e pos.line X.env=pure za:=by rfl) (G:swappedStores [tg] e X.env=pure zl:=by rfl)
  (h1:(ak [tg] X.env).map (·.2)=[assign tg X.env]:=by rfl):PS X (.Assign [tg] e pos) (Quc te g):=by
 intro pins s σ H D I h;refine wpAny_Assign_stores (thn (z pins s σ H _ I h) fun v s1 ⟨x,H1,B,r1,q1⟩=>?_) hs G
 rw [h1];exact thn (j pins s1 σ H1 x v _ B r1 q1) fun _ s2 q=>q
theorem Qus {i:Nat} {x:Str} {e:aD} {te:TE} {pos':Pos} (J:X.N.Nodup) (hi:X.N[i]?=zo x) (q:Loc X.env.scope x) (B:PE X e te) (hs:swapsWith e (zo (.Name x pos')) pos.line X.env=pure za:=by rfl) (z:X.fn x=zb\/X.env.scope.names.lookup x=zo .local:=by first | exact .inl rfl | exact .inr rfl | assumption) :
  PS X (.Assign [.Name x pos'] e pos) (Quc te (Qff i)):=by
 intro pins s σ H D I h;refine wpAny_Assign_Name (thn (B pins s σ H _ I h) fun v s1 ⟨y,H1,G,r1,q1⟩=>?_) hs
 exact Q7n G J hi q r1 (fun s2 j=>⟨_,H1,j,q1⟩) z
end
section
variable {X:Cx} {pos:Pos}
def Qu8 (c:TT) (tb:TS):TS:=fun D σ H=>∃ W:Nat->St->Hp->Prop,(∃ m,W m σ H)/\∀ m σ H,W m σ H ->
 c σ H fun b H1=>if b=zb then ∃ N:St->Hp->Prop,(∀ σ' H',N σ' H'->∃ m',m' < m/\W m' σ' H')/\tb { D with nx:=N,ct:=N,bk:=D.nx } σ H1 else D.nx σ H1
theorem Qms {c:aD} {body:List aK} {tc:TT} {tb:TS} (hp:PassesOwn (aJ X.prog X.w) X.A X.env X.xe) (hc:PT X c tc) (hb:PSs X body tb):PS X (.While c body [] pos) (Qu8 tc tb):=by
 intro pins s σ H D I h;obtain ⟨W,⟨m0,w0⟩,turn⟩:=h;refine wpAny_While (codeAny_whileLoop (fun n s'=>∃ B H',Inv X pins B H' s'/\W n B H') ?_ m0 ⟨σ,H,I,w0⟩);rintro n s1 ⟨q,H1,I1,w1⟩;refine ay hp (thn (hc pins s1 q H1 _ I1 (turn n q H1 w1)) fun b s2 ⟨H2,Z,q2⟩=>?_)
 cases b with
 | true=>
  obtain ⟨N,hN,q2⟩:=q2;rw [bK rfl];refine ay hp (thn (hb pins s2 q H2 _ Z q2) fun f s3 q3=>?_)
  cases f with
  | next=>
   obtain ⟨j,z,O,U⟩:=q3;obtain ⟨Y,J,G⟩:=hN j z U;exact ⟨Y,J,j,z,O,G⟩
  | cont=>
   obtain ⟨j,z,O,U⟩:=q3;obtain ⟨Y,J,G⟩:=hN j z U;exact ⟨Y,J,j,z,O,G⟩
  | brk=>exact q3
  | ret v=>exact q3
 | false=>
  rw [bL D8];exact wpAny_execs_nil ⟨q,H2,Z,q2⟩
end
structure It where
 go:Nat->Hp->Prop
 yld:Nat->Hp->V->Hp->Prop
 stop:Nat->Hp->Prop
def Q9w (X:Cx) (pins:List (aA × Obj)) (H:Hp) (b:aA):Prop:=
 H b=zl/\b≠X.env.locals/\b∉X.fs/\(b∈X.ex\/X.s₀.heap.objs.size<=b)/\(∀ x c,X.env.cells.lookup x=zo c->c≠b)/\∀ p∈X.pn ++ pins,p.1≠b
theorem Inv.fpOk {X:Cx} {pins:List (aA × Obj)} {σ:St} {H H':Hp} {s:aC} {b:aA} (I:Inv X pins σ H s) (j:s.heap.objs.size<=b) (B:H' b=zl):Q9w X pins H' b:=by
 refine ⟨B,br (D2 I.lt j),I.nofs j,.inr (F2 I.sz j),fun x c e z=>?_,fun p hp z=>?_⟩
 ·obtain ⟨v,q⟩:=I.cell x c e;exact absurd (D2 q.lt (by rw [z]; exact j)) (bo _)
 ·exact absurd (D2 (O8 (I.pin p hp).1) (by rw [z]; exact j)) (bo _)
structure Turn (P:aN) (w:aL) (K:bQ) (tg:aD) (J:It) (fp:List aA) (it:aA) (tn:Nat->Heap->Prop):Prop where
 mem:it∈fp
 obj:∀ i h,tn i h->∀ b∈fp,∃ o,h.get? b=zo o/\∀ v,o.data≠.cell v
 keep:∀ i h h',tn i h->(∀ b∈fp,∀ o,h.get? b=zo o->h'.get? b=zo o)->tn i h'
 item:∀ (X:Cx),X.prog=P->X.w=w->X.K=K->X.calm=zb->∀ (i:Nat) (pins:List (aA × Obj)) (s:aC) (σ:St) (H:Hp) (E:aB->aC->Prop),Inv X pins σ H s->(∀ b∈fp,Q9w X pins H b)->tn i s.heap->J.go i H ->
  aI (aJ P w) X.A (ar (.ref it)) (fun r s1=>∃ u,r=zo u /\
   aI (aJ P w) X.A (letOwnedTupleGo tg (.ref it) u) (fun _ s2=>∃ x H',Inv X pins σ H' s2/\RelV x u/\J.yld i H x H'/\tn (i + 1) s2.heap/\∀ b∈fp,H' b=zl) E s1) E s
 done:∀ (X:Cx),X.prog=P->X.w=w->X.K=K->X.calm=zb->∀ (i:Nat) (pins:List (aA × Obj)) (s:aC) (σ:St) (H:Hp) (E:aB->aC->Prop),Inv X pins σ H s->(∀ b∈fp,Q9w X pins H b)->tn i s.heap->J.stop i H ->
  aI (aJ P w) X.A (ar (.ref it)) (fun r s1=>r=zl/\Inv X pins σ H s1) E s
 self:∀ (A:aQ) (i:Nat) (s:aC) (Q:aB->aC->Prop) (E:aB->aC->Prop),tn i s.heap->Q (.ref it) s->aI (aJ P w) A (pyIter (.ref it)) Q E s
abbrev TI:=St->Hp->(It->Hp->Prop)->Prop
def PIE (X:Cx) (pins:List (aA × Obj)) (σ:St) (tg:aD) (R:It->Hp->Prop) (itv:aB) (s2:aC):Prop:=
 ∃ (it:aA) (fp:List aA) (tn:Nat->Heap->Prop) (J:It) (H':Hp),itv=.ref it/\Inv X pins σ H' s2/\Turn X.prog X.w X.K tg J fp it tn/\tn 0 s2.heap/\(∀ b∈fp,Q9w X pins H' b)/\R J H'
def PI (X:Cx) (tg iter:aD) (wi:TI):Prop:=
 ∀ (pins:List (aA × Obj)) (s:aC) (σ:St) (H:Hp) (R:It->Hp->Prop),Inv X pins σ H s->wi σ H R ->
  aI (aJ X.prog X.w) X.A (aM iter X.env) (fun v s1=>aI (aJ X.prog X.w) X.A (pyIter v) (PIE X pins σ tg R) X.xe s1) X.xe s
theorem Qp0 {M:Model} {A:aQ} {E:aB->aC->Prop} {s:aC} {tg:aD} {q:aA} {u:aB} {o:Obj} {n:String} {vs:Array aB} {Q:Unit->aC->Prop} (B:s.heap.get? q=zo o) (z:o.cls=.type n) (hd:o.data=.fields vs)
  (G:["enumerate", "zip", "dict_itemiterator", "dict_reverseitemiterator", "odict_iterator", "itertools.zip_longest", "itertools.pairwise"].contains n=za) (j:Q () s):aI M A (letOwnedTupleGo tg (.ref q) u) Q E s:=by
 unfold letOwnedTupleGo;cases tg <;> first
  | exact aR j
  | (cases u <;> first
    | exact aR j
    | (refine aF (wpAny_load B ?_)
       rw [z,hd];show aI M A (if (["enumerate", "zip", "dict_itemiterator", "dict_reverseitemiterator", "odict_iterator", "itertools.zip_longest", "itertools.pairwise"].contains n && vs[0]? == zo (aZ _))=zb then _ else _) Q E s;rw [bL (by intro h; rw [G,fR] at h; cases h)];exact aR j))
def Itl (K:bQ) (a:aA):It:=
 ⟨fun i H=>∃ xs x,SqL K H a xs/\xs[i]?=zo x,fun i H x H'=>H'=H/\∀ xs,SqL K H a xs->xs[i]?=zo x,fun i H=>∃ xs,SqL K H a xs/\xs.length<=i⟩
def Itt (K:bQ) (a:aA):It:=
 ⟨fun i H=>∃ xs x,SqT K H a xs/\xs[i]?=zo x,fun i H x H'=>H'=H/\∀ xs,SqT K H a xs->xs[i]?=zo x,fun i H=>∃ xs,SqT K H a xs/\xs.length<=i⟩
def Itr (lo:Int) (n:Nat):It:=⟨fun i _=>i < n,fun i H x H'=>H'=H/\x=.int (lo + i),fun i _=>n<=i⟩
theorem Qj1 {P:aN} {w:aL} {K:bQ} {tg:aD} (a j:aA):Turn P w K tg (Itl K a) [j] j (fun i h=>h.IsListIter j a i) where
 mem:=by simp
 obj:=fun i h st b q=>by
  have e:b=j:=by simpa using q
  subst e;obtain ⟨o,e,c,d⟩:=st;exact ⟨o,e,fun v z=>by rw [d] at z; cases z⟩
 keep:=fun i h h' st k=>st.at fun o e=>k j (by simp) o e
 item:=by
  intro X hP U hK hc i pins s σ H E I G st hg;subst hP U hK;obtain ⟨xs,x,B,J⟩:=hg;obtain ⟨its,rv,p,hz⟩:=I.list B;obtain ⟨u,hu,ru⟩:=rv.get J;obtain ⟨f0,Y,f2,Z,f4,O⟩:=G j (by simp);refine wpAny_pyNext_list_item st p.isList (x:=u) (by simpa using hu) fun h' st' sb=>?_
  have I1:Inv X pins σ H { s with heap:=h' }:=I.turned (t':=s.toks) (fun b o q e=>(sb.2 b q).trans e) f0 Y Z f4 O
  obtain ⟨o,e,c,d⟩:=id st';exact ⟨u,rfl,Qp0 (s:={ s with heap:=h' }) e c d (by decide) ⟨x,H,I1,ru,⟨rfl,fun ys hy=>by rw [I.list_inj hy B]; exact J⟩,st',fun b q=>(G b q).1⟩⟩
 done:=by
  intro X hP U hK hc i pins s σ H E I G st hg;subst hP U hK;obtain ⟨xs,B,J⟩:=hg;obtain ⟨its,rv,p,hz⟩:=I.list B;obtain ⟨f0,Y,f2,Z,f4,O⟩:=G j (by simp);have hl:=rv.length;exact wpAny_pyNext_list_end (I.ok.hd hc) st p.isList (by simp; omega) fun h' eb=>⟨rfl,I.turned (t':=s.toks) (fun b o q e=>eb b o q e) f0 Y Z f4 O⟩
 self:=fun _ _ _ _ _ st h=>wpAny_pyIter_listiter st h
theorem Qfy {P:aN} {w:aL} {K:bQ} {tg:aD} (a j:aA):Turn P w K tg (Itt K a) [j] j (fun i h=>h.IsTupleIter j a i) where
 mem:=by simp
 obj:=fun i h st b q=>by
  have e:b=j:=by simpa using q
  subst e;obtain ⟨o,e,c,d⟩:=st;exact ⟨o,e,fun v z=>by rw [d] at z; cases z⟩
 keep:=fun i h h' st k=>st.at fun o e=>k j (by simp) o e
 item:=by
  intro X hP U hK hc i pins s σ H E I G st hg;subst hP U hK;obtain ⟨xs,x,B,J⟩:=hg;obtain ⟨its,rv,p,hz⟩:=I.tuple B;obtain ⟨u,hu,ru⟩:=rv.get J;obtain ⟨f0,Y,f2,Z,f4,O⟩:=G j (by simp);refine wpAny_pyNext_tuple_item st (show s.heap.IsTuple a its.toArray from p) (x:=u) (by simpa using hu) fun h' st' sb=>?_
  have I1:Inv X pins σ H { s with heap:=h' }:=I.turned (t':=s.toks) (fun b o q e=>(sb.2 b q).trans e) f0 Y Z f4 O
  obtain ⟨o,e,c,d⟩:=id st';exact ⟨u,rfl,Qp0 (s:={ s with heap:=h' }) e c d (by decide) ⟨x,H,I1,ru,⟨rfl,fun ys hy=>by rw [I.tuple_inj hy B]; exact J⟩,st',fun b q=>(G b q).1⟩⟩
 done:=by
  intro X hP U hK hc i pins s σ H E I G st hg;subst hP U hK;obtain ⟨xs,B,J⟩:=hg;obtain ⟨its,rv,p,hz⟩:=I.tuple B;obtain ⟨f0,Y,f2,Z,f4,O⟩:=G j (by simp);have hl:=rv.length;exact wpAny_pyNext_tuple_end (I.ok.hd hc) st (show s.heap.IsTuple a its.toArray from p) (by simp; omega) fun h' eb=>⟨rfl,I.turned (t':=s.toks) (fun b o q e=>eb b o q e) f0 Y Z f4 O⟩
 self:=fun _ _ _ _ _ st h=>wpAny_pyIter_tupleiter st h
theorem Qfz {P:aN} {w:aL} {K:bQ} {tg:aD} (j:aA) (lo:Int) (n:Nat):Turn P w K tg (Itr lo n) [j] j (fun i h=>IsRangeIter h j (lo + (i:Nat) * 1) ((n:Int) - (i:Nat)) 1) where
 mem:=by simp
 obj:=fun i h st b q=>by
  have e:b=j:=by simpa using q
  subst e;exact ⟨_,st,fun v z=>by
   have z':Data.fields _=Data.cell v:=z;cases z'⟩
 keep:=fun i h h' st k=>k j (by simp) _ st
 item:=by
  intro X hP O hK G i pins s σ H E I B st Z;subst hP O hK;obtain ⟨f0,U,f2,Y,f4,J⟩:=B j (by simp);have W:=Walks.range (prog:=X.prog) (w:=X.w) (I.ok.hd G) j lo 1 n;refine W.item i s _ _ Z st fun v h' tk hv st' kk=>?_
  obtain ⟨t,rfl⟩:=hv;have I1:Inv X pins σ H { s with heap:=h',toks:=tk }:=I.turned (fun b o q e=>kk b o (by simpa using q) e) f0 U Y f4 J
  refine ⟨_,rfl,Qp0 (s:={ s with heap:=h',toks:=tk }) (n := "range_iterator") st' rfl rfl (by decide) ⟨.int (lo + i),H,I1,⟨t,?_⟩,⟨rfl,rfl⟩,st',fun b q=>(B b q).1⟩⟩
  rw [Int.mul_one]
 done:=by
  intro X hP O hK G i pins s σ H E I B st Z;subst hP O hK;obtain ⟨f0,U,f2,Y,f4,J⟩:=B j (by simp);exact wpAny_pyNext_range_end (I.ok.hd G) st (by have:n<=i:=Z; omega) fun h' eb=>⟨rfl,I.turned (t':=s.toks) (fun b o q e=>eb b o q e) f0 U Y f4 J⟩
 self:=fun _ _ _ _ _ st h=>wpAny_pyIter_rangeiter st h
section
variable {X:Cx} {tg:aD}
def Qz2 (K:bQ) (tl:TE):TI:=fun σ H R=>tl σ H fun x H1=>∃ a,x=.ref a/\(∃ xs,SqL K H1 a xs)/\R (Itl K a) H1
def J1p (K:bQ) (tl:TE):TI:=fun σ H R=>tl σ H fun x H1=>∃ a,x=.ref a/\(∃ xs,SqT K H1 a xs)/\R (Itt K a) H1
theorem Qr9 {l:aD} {tl:TE} (G:PE X l tl):PI X tg l (Qz2 X.K tl):=by
 intro pins s σ H R I h;refine thn (G pins s σ H _ I h) fun v s1 ⟨x,H1,j,r1,q1⟩=>?_
 obtain ⟨a,e,⟨xs,B⟩,q⟩:=q1;subst e;cases r1;obtain ⟨its,J,p,hz⟩:=j.list B;refine wpAny_pyIter_list p.isList ?_;refine ⟨s1.heap.objs.size,[s1.heap.objs.size],_,_,H1,rfl,j.kept (t':=s1.toks) fun b o e=>O1 _ e,Qj1 a _,⟨_,D6 _ rfl,rfl,rfl⟩,fun b z=>?_,q⟩
 have e:b=s1.heap.objs.size:=by simpa using z
 subst e;exact j.fpOk (O7 _) (j.hok.fresh (O7 _))
theorem Qux {l:aD} {tl:TE} (G:PE X l tl):PI X tg l (J1p X.K tl):=by
 intro pins s σ H R I h;refine thn (G pins s σ H _ I h) fun v s1 ⟨x,H1,j,r1,q1⟩=>?_
 obtain ⟨a,e,⟨xs,B⟩,q⟩:=q1;subst e;cases r1;obtain ⟨its,J,p,hz⟩:=j.tuple B;refine bG (show s1.heap.IsTuple a its.toArray from p) ?_;refine ⟨s1.heap.objs.size,[s1.heap.objs.size],_,_,H1,rfl,j.kept (t':=s1.toks) fun b o e=>O1 _ e,Qfy a _,⟨_,D6 _ rfl,rfl,rfl⟩,fun b z=>?_,q⟩
 have e:b=s1.heap.objs.size:=by simpa using z
 subst e;exact j.fpOk (O7 _) (j.hok.fresh (O7 _))
theorem Qe6 {pins:List (aA × Obj)} {σ:St} {H:Hp} {s:aC} {R:It->Hp->Prop} {E:aB->aC->Prop} {lo hi:Int} {t u v:Tok} {tk:Nat} (I:Inv X pins σ H s) (h1:-(2 ^ 62)<=lo) (h2:lo < 2 ^ 62) (B:-(2 ^ 62)<=hi) (G:hi < 2 ^ 62)
  (q:R (Itr lo (hi - lo).toNat) H):aI (aJ X.prog X.w) X.A (pyIter (.ref s.heap.objs.size)) (PIE X pins σ tg R) E { s with heap:=s.heap.push { cls:=.type "range",data:=.fields #[.int lo t,.int hi u,.int 1 v] },toks:=tk }:=by
 refine wpAny_pyIter_range (IsRange.new ..) (small_one h1 h2 B G) ?_;have j:Inv X pins σ H { s with heap:=s.heap.push { cls:=.type "range",data:=.fields #[.int lo t,.int hi u,.int 1 v] },toks:=tk }:=I.kept fun b o e=>O1 _ e
 refine ⟨(s.heap.push { cls:=.type "range",data:=.fields #[.int lo t,.int hi u,.int 1 v] }).objs.size,[(s.heap.push { cls:=.type "range",data:=.fields #[.int lo t,.int hi u,.int 1 v] }).objs.size],_,_,H,rfl,
  j.kept (t':=tk) fun b o e=>O1 _ e,Qfz _ lo (hi - lo).toNat,?_,fun b z=>?_,q⟩
 ·have e1:lo + ((0:Nat):Int) * 1=lo:=by simp
  have e2:(((hi - lo).toNat:Nat):Int) - ((0:Nat):Int)=Builtin.Range.rangeSize lo hi 1:=by rw [rangeSize_one]; split <;> omega
  show IsRangeIter _ _ (lo + ((0:Nat):Int) * 1) ((((hi - lo).toNat:Nat):Int) - ((0:Nat):Int)) 1;rw [e1,e2];exact D6 _ rfl
 ·have e:b=(s.heap.push { cls:=.type "range",data:=.fields #[.int lo t,.int hi u,.int 1 v] }).objs.size:=by simpa using z
  subst e;exact j.fpOk (O7 _) (j.hok.fresh (O7 _))
def Qz1 (ta:TA):TI:=fun σ H R=>ta σ H fun vs H1=>∃ j:Int,vs=[.int j]/\-(2 ^ 62)<=j/\j < 2 ^ 62/\R (Itr 0 j.toNat) H1
def Qz0 (ta:TA):TI:=fun σ H R=>ta σ H fun vs H1=>∃ i j:Int,vs=[.int i,.int j]/\(-(2 ^ 62)<=i/\i < 2 ^ 62/\-(2 ^ 62)<=j/\j < 2 ^ 62)/\R (Itr i (j - i).toNat) H1
theorem Qjj {a:aD} {ta:TA} {p pos:Pos} (B:Gl X "range") (z:X.mg "range" = zl) (G:PA X [a] ta) (hs:aP [a] X.env=[(za,aM a X.env)]:=by rfl):PI X tg (.Call (.Name "range" p) [a] [] pos) (Qz1 ta):=by
 intro pins s σ H R I h;refine Call_ (Q3v I B z boot_range (dB (thn (G pos pins s σ H _ I h) fun us s1 ⟨vs,H1,J,r1,q1⟩=>?_) hs rfl))
 obtain ⟨j,e,q1,q2,q⟩:=q1;subst e;cases r1 with
 | cons r O=>
  cases O;obtain ⟨t,rfl⟩:=r;exact call_range_1 (Qe6 J (by omega) (by omega) q1 q2 (by simpa using q))
theorem Qji {a b:aD} {ta:TA} {p pos:Pos} (J:Gl X "range") (G:X.mg "range" = zl) (O:PA X [a,b] ta) (hs:aP [a,b] X.env=[(za,aM a X.env),(za,aM b X.env)]:=by rfl) (z:aP [b] X.env=[(za,aM b X.env)]:=by rfl) :
  PI X tg (.Call (.Name "range" p) [a,b] [] pos) (Qz0 ta):=by
 intro pins s σ H R I h;refine Call_ (Q3v I J G boot_range (dB (thn (O pos pins s σ H _ I h) fun us s1 ⟨vs,H1,Z,r1,q1⟩=>?_) (by rw [hs,z]) (by rw [z]; rfl)))
 obtain ⟨i,j,e,⟨q1,q2,q3,U⟩,q⟩:=q1;subst e;cases r1 with
 | cons r B=>
  cases B with
  | cons Y B=>
   cases B;obtain ⟨t,rfl⟩:=r;obtain ⟨t',rfl⟩:=Y;exact call_range_2 (Qe6 Z q1 q2 q3 U q)
def J12 (wi:TI) (g:TG) (tb:TS):TS:=fun D σ H=>wi σ H fun J H1=>∃ W:Nat->Nat->St->Hp->Prop,(∃ m,W 0 m σ H1)/\∀ i m σ H,W i m σ H ->
 (J.stop i H/\D.nx σ H)\/(J.go i H/\∃ N:St->Hp->Prop,(∀ σ' H',N σ' H'->∃ m',m' < m/\W (i + 1) m' σ' H')/\∀ x H',J.yld i H x H'->g x σ H' fun σ2 H2=>tb { D with nx:=N,ct:=N,bk:=D.nx } σ2 H2)
def Q89 (fp:List aA) (h:Heap):List (aA × Obj):=fp.filterMap fun b=>(h.get? b).map fun o=>(b,o)
theorem Xf {j:List aA} {h:Heap} {b:aA} {o:Obj} (q:b∈j) (e:h.get? b=zo o):(b,o)∈Q89 j h:=eB.mpr ⟨b,q,by rw [e]; rfl⟩
theorem Qjs {j:List aA} {h:Heap} {p:aA × Obj} (hp:p∈Q89 j h):p.1∈j/\h.get? p.1=zo p.2:=by
 obtain ⟨b,z,e⟩:=eB.mp hp;cases q:h.get? b with
 | none=>rw [q] at e; cases e
 | some o=>
  rw [q] at e;have B:(b,o)=p:=ba e;subst B;exact ⟨z,q⟩
theorem Inv.pinned {pins:List (aA × Obj)} {σ:St} {H:Hp} {s:aC} {j:List aA} (I:Inv X pins σ H s) (O:∀ b∈j,Q9w X pins H b) (J:∀ b∈j,∃ o,s.heap.get? b=zo o/\∀ v,o.data≠.cell v):Inv X (pins ++ Q89 j s.heap) σ H s:=
 I.pins_of fun p hp=>(E7.mp hp).elim (fun z=>I.pin p (E6 _ z)) fun z=>by
  obtain ⟨q,e⟩:=Qjs z;obtain ⟨U,Y,G,_⟩:=O p.1 q;obtain ⟨o,B,d⟩:=J p.1 q;rw [e] at B; cases B;exact ⟨e,U,Y,G,d⟩
theorem Inv.unpinned {pins pl:List (aA × Obj)} {σ:St} {H:Hp} {s:aC} (I:Inv X (pins ++ pl) σ H s):Inv X pins σ H s:=I.pins_of fun p hp=>I.pin p (E6 _ (F9 _ hp))
theorem Qut {iter:aD} {body:List aK} {wi:TI} {g:TG} {tb:TS} {pos:Pos} (hp:PassesOwn (aJ X.prog X.w) X.A X.env X.xe) (hc:X.calm=zb) (hi:PI X tg iter wi) (hg:PG X tg g) (O:PSs X body tb)
  (hs:∀ x,az iter X.env x=pure x:=by intro _; rfl):PS X (.For tg iter body [] pos) (J12 wi g tb):=by
 intro pins s σ H D I h;refine wpAny_For (thn (hi pins s σ H _ I h) fun v s1 h1=>thn h1 fun a8 s2 h2=>?_) hs
 obtain ⟨it,fp,tn,J,H2,e,I2,T,a7,f2,W,⟨m0,w0⟩,turn⟩:=h2;subst e;have U:∀ {H':Hp},(∀ b∈fp,H' b=zl)->∀ b∈fp,Q9w X pins H' b:=fun hn b O=>⟨hn b O,(f2 b O).2⟩
 refine codeAny_forLoop_any (fun n s'=>∃ i q H',Inv X pins q H' s'/\tn i s'.heap/\(∀ b∈fp,H' b=zl)/\W i n q H') ?_ m0 ⟨0,σ,H2,I2,a7,fun b O=>(f2 b O).1,w0⟩
 rintro n s3 ⟨i,G,H3,I3,a2,a3,w3⟩;rcases turn i n G H3 w3 with ⟨stop,qn⟩ | ⟨go,N,hN,step⟩
 ·refine ay hp (thn (T.done X rfl rfl rfl hc i pins s3 G H3 X.xe I3 (U a3) a2 stop) fun r s4 ⟨hr,I4⟩=>?_)
  subst hr;exact wpAny_execs_nil ⟨G,H3,I4,qn⟩
 ·refine ay hp (thn (T.item X rfl rfl rfl hc i pins s3 G H3 X.xe I3 (U a3) a2 go) fun r s4 ⟨u,hr,h4⟩=>?_)
  subst hr;refine ay hp (thn h4 fun _ s5 ⟨x,H5,I5,r5,y5,Z,a6⟩=>?_);have a5:=I5.pinned (U a6) (T.obj _ _ Z);refine ay hp (thn (hg _ s5 G H5 x u _ a5 r5 (step x H5 y5)) fun _ s6 ⟨a4,H6,I6,q6⟩=>?_)
  refine ay hp (thn (O _ s6 a4 H6 _ I6 q6) fun f s7 Y=>?_)
  have again:∀ {j:St} {z:Hp},Inv X (pins ++ Q89 fp s5.heap) j z s7->N j z->∃ m,m < n/\∃ i q H',Inv X pins q H' s7/\tn i s7.heap/\(∀ b∈fp,H' b=zl)/\W i m q H':=fun {j z} B n7=>by
   obtain ⟨m',hm,w7⟩:=hN j z n7;refine ⟨m',hm,i + 1,j,z,B.unpinned,T.keep _ _ _ Z fun b O o e=>(B.pin (b,o) (E6 _ (E6 _ (Xf O e)))).1,fun b O=>?_,w7⟩;obtain ⟨o,e,d⟩:=T.obj _ _ Z b O;exact (B.pin (b,o) (E6 _ (E6 _ (Xf O e)))).2.1
  cases f with
  | next=>obtain ⟨j,z,B,n7⟩:=Y; exact again B n7
  | cont=>obtain ⟨j,z,B,n7⟩:=Y; exact again B n7
  | brk=>obtain ⟨j,z,B,Y⟩:=Y; exact ⟨j,z,B.unpinned,Y⟩
  | ret v=>obtain ⟨x7,j,z,B,r7,Y⟩:=Y; exact ⟨x7,j,z,B.unpinned,r7,Y⟩
end
abbrev R2:=V->V->Hp->VK->Prop
def OpR (X:Cx) (f:aB->aB->Sem aB) (r:R2):Prop:=
 ∀ (pins:List (aA × Obj)) (s:aC) (σ:St) (H:Hp) (x y:V) (v u:aB) (Q:VK),Inv X pins σ H s->RelV x v->RelV y u->r x y H Q ->
  aI (aJ X.prog X.w) X.A (f v u) (EP X pins σ Q) X.xe s
def UnR (X:Cx) (f:aB->Sem aB) (r:V->Hp->VK->Prop):Prop:=
 ∀ (pins:List (aA × Obj)) (s:aC) (σ:St) (H:Hp) (x:V) (v:aB) (Q:VK),Inv X pins σ H s->RelV x v->r x H Q ->
  aI (aJ X.prog X.w) X.A (f v) (EP X pins σ Q) X.xe s
def Ki (X:Cx) (f:aB) (r:List V->Hp->VK->Prop):Prop:=
 ∀ (pins:List (aA × Obj)) (s:aC) (σ:St) (H:Hp) (xs:List V) (us:List aB) (Q:VK),Inv X pins σ H s->Vals xs us->r xs H Q ->
  aI (aJ X.prog X.w) X.A (call f us) (EP X pins σ Q) X.xe s
def tOp (r:R2) (ta tb:TE):TE:=fun σ H Q=>ta σ H fun x H1=>tb σ H1 fun y H2=>r x y H2 Q
def tUn (r:V->Hp->VK->Prop) (ta:TE):TE:=fun σ H Q=>ta σ H fun x H1=>r x H1 Q
def rI (C:Int->Int->Prop) (g:Int->Int->V):R2:=fun x y H Q=>∃ i j,x=.int i/\y=.int j/\C i j/\Q (g i j) H
def rI0 (g:Int->Int->V):R2:=fun x y H Q=>∃ i j,x=.int i/\y=.int j/\Q (g i j) H
def rU (g:Int->V):V->Hp->VK->Prop:=fun x H Q=>∃ i,x=.int i/\Q (g i) H
section
variable {X:Cx} {a b c:aD} {ta tb tc:TE} {pos:Pos}
theorem Qwi (J:PE X a ta) (z:PE X b tb) {pins:List (aA × Obj)} {s:aC} {σ:St} {H:Hp} {R:V->V->Hp->Prop} (I:Inv X pins σ H s)
  (h:ta σ H fun x H1=>tb σ H1 fun y H2=>R x y H2) {Q:aB->aC->Prop} {f:aB->aB->Sem aB}
  (G:∀ v u s2 x y H2,Inv X pins σ H2 s2->RelV x v->RelV y u->R x y H2->aI (aJ X.prog X.w) X.A (f v u) Q X.xe s2) :
  aI (aJ X.prog X.w) X.A (aM a X.env) (fun v j=>aI (aJ X.prog X.w) X.A (aM b X.env) (fun u q=>aI (aJ X.prog X.w) X.A (f v u) Q X.xe q) X.xe j) X.xe s:=by
 refine thn (J pins s σ H _ I h) fun v s1 ⟨x,H1,O,r1,q1⟩=>?_
 refine thn (z pins s1 σ H1 _ O q1) fun u s2 ⟨y,H2,B,r2,q2⟩=>?_
 exact G v u s2 x y H2 B r1 r2 q2
theorem Qy5 {op:Operator} {r:R2} (G:OpR X (aW op) r) (J:PE X a ta) (j:PE X b tb):PE X (.BinOp a op b pos) (tOp r ta tb):=by
 intro pins s σ H Q I h;exact wpAny_BinOp (Qwi J j I h fun v u s2 x y H2 z B O q=>G pins s2 σ H2 x y v u Q z B O q)
theorem Qy3 {op:UnaryOp} {r:V->Hp->VK->Prop} (j:UnR X (unaryOp op) r) (q:PE X a ta):PE X (.UnaryOp op a pos) (tUn r ta):=by
 intro pins s σ H Q I h;exact UnaryOp_ (thn (q pins s σ H _ I h) fun v s1 ⟨x,H1,z,r1,q1⟩=>j pins s1 σ H1 x v Q z r1 q1)
theorem opI {f:aB->aB->Sem aB} {C:Int->Int->Prop} {g:Int->Int->Int}
  (rule:∀ (i j:Int) (t u:Tok) (s:aC) (Q:aB->aC->Prop) (E:aB->aC->Prop),C i j->Q (.int (g i j) s.toks) { s with toks:=s.toks + 1 }->aI (aJ X.prog X.w) X.A (f (.int i t) (.int j u)) Q E s) :
  OpR X f (rI C fun i j=>.int (g i j)):=by
 intro pins s σ H x y v u Q I B G h;obtain ⟨i,j,rfl,rfl,z,q⟩:=h;obtain ⟨t,rfl⟩:=B;obtain ⟨t',rfl⟩:=G;exact rule i j t t' s _ _ z ⟨.int (g i j),H,I.tok _,⟨_,rfl⟩,q⟩
theorem Qyf {f:aB->aB->Sem aB} {g:Int->Int->Int}
  (rule:∀ (i j:Int) (t u:Tok) (s:aC) (Q:aB->aC->Prop) (E:aB->aC->Prop),Q (.int (g i j) s.toks) { s with toks:=s.toks + 1 }->aI (aJ X.prog X.w) X.A (f (.int i t) (.int j u)) Q E s) :
  OpR X f (rI0 fun i j=>.int (g i j)):=by
 intro pins s σ H x y v u Q I z B h;obtain ⟨i,j,rfl,rfl,q⟩:=h;obtain ⟨t,rfl⟩:=z;obtain ⟨t',rfl⟩:=B;exact rule i j t t' s _ _ ⟨.int (g i j),H,I.tok _,⟨_,rfl⟩,q⟩
theorem Qru {f:aB->aB->Sem aB} {g:Int->Int->Bool}
  (rule:∀ (i j:Int) (t u:Tok) (s:aC) (Q:aB->aC->Prop) (E:aB->aC->Prop),Q (.bool (g i j)) s->aI (aJ X.prog X.w) X.A (f (.int i t) (.int j u)) Q E s) :
  OpR X f (rI0 fun i j=>.bl (g i j)):=by
 intro pins s σ H x y v u Q I z B h;obtain ⟨i,j,rfl,rfl,q⟩:=h;obtain ⟨t,rfl⟩:=z;obtain ⟨t',rfl⟩:=B;exact rule i j t t' s _ _ ⟨.bl (g i j),H,I,rfl,q⟩
def J1x (i j:Int):Prop:=0 < j/\j < 1073741824
def J1w (i j:Int):Prop:=0<=j/\j<=1000000/\i.natAbs < 2 ^ 64
def CMul (i j:Int):Prop:=(-(2 ^ 64) < i/\i < 2 ^ 64)\/(-(2 ^ 64) < j/\j < 2 ^ 64)
theorem CMul.ok {i j:Int} (h:CMul i j):IntMulOk i j:=by
 rcases h with ⟨h1,h2⟩ | ⟨h1,h2⟩
 ·exact .of_left (intBits_le_64 h1 h2)
 ·exact .of_right (intBits_le_64 h1 h2)
theorem Qvg:OpR X (aW .Add) (rI0 fun i j=>.int (i + j)):=Qyf fun _ _ _ _ _ _ _ q=>add_int q
theorem Qv9:OpR X (aW .Sub) (rI0 fun i j=>.int (i - j)):=Qyf fun _ _ _ _ _ _ _ q=>sub_int q
theorem Qvc:OpR X (aW .Mult) (rI CMul fun i j=>.int (i * j)):=opI fun _ _ _ _ _ _ _ z q=>mul_int q z.ok
theorem Qrs:OpR X (aW .FloorDiv) (rI J1x fun i j=>.int (i / j)):=opI fun i j _ _ _ _ _ z q=>by
 have h1:(0:Int) < j:=z.1;have h2:j < 1073741824:=z.2;exact floordiv_int (by omega) (by rw [fS i (by omega)]; exact q) (.inl (PyProof.noPylong_small (by omega)))
theorem Qvd:OpR X (aW .Mod) (rI (fun _ j=>0 < j) fun i j=>.int (i % j)):=opI fun i j _ _ _ _ _ z q=>by
 have h1:(0:Int) < j:=z;exact mod_int' (by omega) (by rw [Int.fmod_eq_emod_of_nonneg i (by omega)]; exact q)
theorem Qvb:OpR X (aW .Pow) (rI J1w fun i j=>.int (i ^ j.toNat)):=opI fun _ _ _ _ _ _ _ z q=>pow_int_small z.1 z.2.1 z.2.2 q
theorem unI {f:aB->Sem aB} {g:Int->Int}
  (rule:∀ (i:Int) (t:Tok) (s:aC) (Q:aB->aC->Prop) (E:aB->aC->Prop),Q (.int (g i) s.toks) { s with toks:=s.toks + 1 }->aI (aJ X.prog X.w) X.A (f (.int i t)) Q E s) :
  UnR X f (rU fun i=>.int (g i)):=by
 intro pins s σ H x v Q I j h;obtain ⟨i,rfl,q⟩:=h;obtain ⟨t,rfl⟩:=j;exact rule i t s _ _ ⟨.int (g i),H,I.tok _,⟨_,rfl⟩,q⟩
theorem Qu2:UnR X (unaryOp .USub) (rU fun i=>.int (-i)):=unI fun _ _ _ _ _ q=>neg_int q
end
section
variable {X:Cx} {a b c:aD} {ta tb tc:TE} {pos:Pos}
theorem Qp5 {pins:List (aA × Obj)} {σ:St} {H:Hp} {s:aC} {Q:VK} {k j:Bool} (I:Inv X pins σ H s) (q:Q (.bl k) H) (e:k=j):EP X pins σ Q (.bool j) s:=by
 subst e;exact ⟨.bl k,H,I,rfl,q⟩
theorem Qyb:OpR X (aV .Lt) (rI0 fun i j=>.bl (decide (i < j))):=Qru fun _ _ _ _ _ _ _ q=>lt_int q
theorem Qyc:OpR X (aV .LtE) (rI0 fun i j=>.bl (decide (i<=j))):=Qru fun _ _ _ _ _ _ _ q=>le_int q
theorem Qyd:OpR X (aV .Gt) (rI0 fun i j=>.bl (decide (j < i))):=Qru fun _ _ _ _ _ _ _ q=>gt_int q
theorem Qye:OpR X (aV .GtE) (rI0 fun i j=>.bl (decide (j<=i))):=Qru fun _ _ _ _ _ _ _ q=>ge_int q
theorem Qrr:OpR X (aV .IsNot) (fun x y H Q=>y=.non/\Q (.bl (!decide (x=.non))) H):=by
 intro pins s σ H x y v u Q I j z h;obtain ⟨rfl,q⟩:=h;cases z;refine isnot_none_gen (Qp5 I q ?_);cases x <;> first
  | (cases j; rfl)
  | (obtain ⟨t,rfl⟩:=j; rfl)
theorem OpR.or {f:aB->aB->Sem aB} {r z:R2} (h:OpR X f r) (h':OpR X f z):OpR X f (fun x y H Q=>r x y H Q\/z x y H Q):=by
 intro pins s σ H x y v u Q I j B q;rcases q with q | q
 ·exact h pins s σ H x y v u Q I j B q
 ·exact h' pins s σ H x y v u Q I j B q
theorem Qnh (b:aD) {op:CmpOp} (h:op≠.In:=by decide) (h2:op≠.NotIn:=by decide):bD op b=za:=by
 have e1:(op == CmpOp.In)=za:=by cases op <;> first | rfl | exact absurd rfl h
 have e2:(op == CmpOp.NotIn)=za:=by cases op <;> first | rfl | exact absurd rfl h2
 cases b <;> simp [bD,e1,e2]
theorem Qri {op:CmpOp} {r:R2} (J:OpR X (aV op) r) (O:PE X a ta) (j:PE X b tb) (z:bD op b=za):PE X (.Compare a [op] [b] pos) (tOp r ta tb):=by
 intro pins s σ H Q I h;exact wpAny_Compare1 (Qwi O j I h fun v u s2 x y H2 B G U q=>J pins s2 σ H2 x y v u Q B G U q) z
def Qt2 (t:TE):TT:=fun σ H Q=>t σ H fun x H'=>∃ k,x=.bl k/\Q k H'
theorem Qr3 {op:CmpOp} {r:R2} (J:OpR X (aV op) r) (U:PE X a ta) (j:PE X b tb) (q:bD op b=za):PT X (.Compare a [op] [b] pos) (Qt2 (tOp r ta tb)):=by
 intro pins s σ H Q I h;refine wpAny_isTrue_Compare1 (thn (U pins s σ H _ I h) fun v s1 ⟨x,H1,Z,r1,q1⟩=>thn (j pins s1 σ H1 _ Z q1) fun u s2 ⟨y,H2,B,r2,q2⟩=>
  thn (J pins s2 σ H2 x y v u _ B r1 r2 q2) fun c s3 ⟨z,O,G,Y,k,e,q3⟩=>?_) q
 subst e;cases Y;exact am ⟨O,G,q3⟩
def Qg1 (r r':R2) (ta tb tc:TE):TE:=fun σ H Q=>ta σ H fun x H1=>tb σ H1 fun y H2=>r x y H2 fun z H3=>∃ k,z=.bl k /\
 (if k=zb then tc σ H3 fun w' H4=>r' y w' H4 Q else Q (.bl za) H3)
theorem Qn6 {op j:CmpOp} {r G:R2} (ho:OpR X (aV op) r) (q:OpR X (aV j) G) (ha:PE X a ta) (hb:PE X b tb) (hc:PE X c tc)
  (hm:lastMarks [op,j] [b,c]=za:=by with_unfolding_all rfl):PE X (.Compare a [op,j] [b,c] pos) (Qg1 r G ta tb tc):=by
 intro pins s σ H Q I h;refine Compare_chain (thn (ha pins s σ H _ I h) fun v s1 ⟨x,H1,I1,r1,q1⟩=>chain_link (thn (hb pins s1 σ H1 _ I1 q1) fun u s2 ⟨y,H2,U,r2,q2⟩=>
  thn (ho pins s2 σ H2 x y v u _ U r1 r2 q2) fun d s3 ⟨z,B,J,r3,k,e,q3⟩=>?_)) hm
 subst e;cases r3;refine am ?_;cases k with
 | false=>exact ite_ff ⟨.bl za,B,J,rfl,q3⟩
 | true=>exact ite_tt (chain_last (thn (hc pins s3 σ B _ J q3) fun w' s4 ⟨O,H4,Y,Z,q4⟩=>q pins s4 σ H4 y O u w' Q Y r2 Z q4))
theorem Qmr {op j:CmpOp} {r G:R2} (ho:OpR X (aV op) r) (q:OpR X (aV j) G) (ha:PE X a ta) (hb:PE X b tb) (hc:PE X c tc)
  (hm:lastMarks [op,j] [b,c]=za:=by with_unfolding_all rfl):PT X (.Compare a [op,j] [b,c] pos) (Qt2 (Qg1 r G ta tb tc)):=by
 intro pins s σ H Q I h;refine isTrue_chain (thn (ha pins s σ H _ I h) fun v s1 ⟨x,H1,I1,r1,q1⟩=>test_link (thn (hb pins s1 σ H1 _ I1 q1) fun u s2 ⟨y,H2,U,r2,q2⟩=>
  thn (ho pins s2 σ H2 x y v u _ U r1 r2 q2) fun d s3 ⟨z,B,J,r3,k,e,q3⟩=>?_)) hm
 subst e;cases r3;refine am ?_;cases k with
 | false=>
  obtain ⟨k',e',q'⟩:=q3;cases e';exact ite_ff ⟨B,J,q'⟩
 | true=>
  refine ite_tt (test_last (thn (hc pins s3 σ B _ J q3) fun w' s4 ⟨O,H4,Z,r4,q4⟩=>thn (q pins s4 σ H4 y O u w' _ Z r2 r4 q4) fun d' s5 ⟨z2,H5,I5,Y,k2,e2,q5⟩=>?_))
  subst e2;cases Y;exact am ⟨H5,I5,q5⟩
theorem Q5n:(sizeLine:Nat) < 2 ^ 63:=by rw [sizeLine_eq]; decide
theorem Qgi:OpR X (aW .Add) (fun x y H Q=>∃ i j,x=.str i/\y=.str j/\i.length + j.length<=sizeLine/\Q (.str (i ++ j)) H):=by
 intro pins s σ H x y v u Q I z B h;obtain ⟨i,j,rfl,rfl,hz,q⟩:=h;obtain ⟨t,rfl⟩:=z;obtain ⟨t',rfl⟩:=B;exact add_str (fun t' tk=>⟨.str (i ++ j),H,I.tok _,⟨_,rfl⟩,q⟩) hz
theorem Q32 {x:V} {us:List aB} (r:Vals [x] us):∃ u,us=[u]/\RelV x u:=by
 cases r with
 | cons r1 r2=>cases r2; exact ⟨_,rfl,r1⟩
theorem Qm5 {x y:V} {us:List aB} (r:Vals [x,y] us):∃ u j,us=[u,j]/\RelV x u/\RelV y j:=by
 cases r with
 | cons r1 r2=>
  cases r2 with
  | cons q z=>cases z; exact ⟨_,_,rfl,r1,q⟩
theorem Qkp (B:X.calm=zb):Ki X (.builtin "max") (fun xs H Q=>∃ i j,xs=[.int i,.int j]/\Q (.int (if j > i then j else i)) H):=by
 intro pins s σ H xs us Q I r h;obtain ⟨i,j,rfl,q⟩:=h;obtain ⟨u,G,rfl,⟨t,rfl⟩,⟨t',rfl⟩⟩:=Qm5 r;refine max_two_ints (I.ok.hd B) fun h' tk k=>⟨_,H,I.kept k,?_,q⟩
 by_cases z:j > i
 ·rw [bK z,bK z]; exact ⟨_,rfl⟩
 ·rw [bL z,bL z]; exact ⟨_,rfl⟩
theorem Qkm (B:X.calm=zb):Ki X (.builtin "min") (fun xs H Q=>∃ i j,xs=[.int i,.int j]/\Q (.int (if j < i then j else i)) H):=by
 intro pins s σ H xs us Q I r h;obtain ⟨i,j,rfl,q⟩:=h;obtain ⟨u,G,rfl,⟨t,rfl⟩,⟨t',rfl⟩⟩:=Qm5 r;refine min_two_ints (I.ok.hd B) fun h' tk k=>⟨_,H,I.kept k,?_,q⟩
 by_cases z:j < i
 ·rw [bK z,bK z]; exact ⟨_,rfl⟩
 ·rw [bL z,bL z]; exact ⟨_,rfl⟩
end
structure ObjM (h:Heap) (x dx C:aA) (mA:Str->Option aB):Prop where
 obj:h.get? x=zo (cF C dx)
 ns:h.Ns1 dx mA
 ne:dx≠x
theorem Qbm {h:Heap} {dx:aA} {mA:Str->Option aB} (n:h.Ns1 dx mA):∃ B,h.get? dx=zo B/\∀ name,dS name B=zo (mA name):=by
 obtain ⟨o,es,Y,U,hd,J,_,I⟩:=n;refine ⟨o,U,fun name=>?_⟩;have e:=I name;unfold nsFind findBy at e;rw [<- Array.find?_toList] at e;unfold dS;rw [hd];dsimp only
 split
 ·rename_i y q;rw [q] at e;exact congrArg zo e
 ·rename_i q;rw [q] at e;have a:es.toList.any (·.refKey)=za:=by
   rw [fT];intro y O;obtain ⟨z,t,j⟩:=J y (Array.mem_toList_iff.mp O);simp [DictEntry.refKey,j]
  have G:¬ es.toList.any (·.refKey)=zb:=by rw [a]; exact D8
  rw [bL G];exact congrArg zo e
theorem ObjM.look {h:Heap} {x dx C:aA} {mA:Str->Option aB} (I:ObjM h x dx C mA):∃ j,PySem.W.InstAt h x (cF C dx) C (zo j)/\∀ name,dS name j=zo (mA name):=
 let ⟨j,q,z⟩:=Qbm I.ns
 ⟨j,⟨I.obj,rfl,rfl,q⟩,z⟩
section
variable {prog:aN} {w:aL} {A:aQ} {E:aB->aC->Prop} {s:aC} {K:bQ} {x dx C f:aA} {mA:Str->Option aB} {name:Str} {v:aB}
theorem Qsj {j:Bool} {Q:aB->aC->Prop} (X:K.In s.heap) (I:ObjM s.heap x dx C mA) (B:dC K C name=zb) (U:dU K C=zb)
  (z:bX K (.ref C) name=zo zl) (O:mA name=zo v) (q:fU v=zb) (h:Q v { s with toks:=s.toks + 1 }) :
  aI (aJ prog w) A (getAttr (.ref x) name j) Q E s:=by
 obtain ⟨Y,J,G⟩:=I.look;exact PySem.W.get_value X J (eC B).1 (PySem.W.findObj_own U z rfl (by rw [G,O])) q h
theorem Qp1 {pl:Sem Bool} {Q:aB × List aB->aC->Prop} (X:K.In s.heap) (I:ObjM s.heap x dx C mA) (j:dC K C name=zb)
  (z:bX K (.ref C) name=zo (zo (.ref f))) (q:dD K (.ref f)=zb) (O:mA name=zl) (h:Q (.ref f,[.ref x]) s) :
  aI (aJ prog w) A (getMethod (.ref x) name pl) Q E s:=by
 obtain ⟨B,J,G⟩:=I.look;exact PySem.W.method_fn X J (eC j).1 (eC j).2 z (beq_iff_eq.mp q) (by show (dS name B).map (·.isSome)=zo za; rw [G,O]; rfl) h
theorem Qqp {ns:List Str} {Q:Unit->aC->Prop} (X:K.In s.heap) (I:ObjM s.heap x dx C mA)
  (hs:bX K (.ref C) "__setattr__" = zo (zo (.builtin "object.__setattr__"))) (hp:eE K C=zb) (Y:eF K C name=zo zl) (hh:dU K C=zb)
  (hw:dy mA ns) (Z:ns.length<=sizeLine)
  (h:∀ h',ObjM h' x dx C (fun y=>if y=name then zo v else mA y)->Heap.SameBut dx s.heap h'->Q () { s with heap:=h',toks:=s.toks + 2 }) :
  aI (aJ prog w) A (setAttr (.ref x) name v) Q E s:=by
 obtain ⟨od,J,hl⟩:=I.look;refine PySem.W.set_plain X J hs (PySem.W.osa_open (s:={ s with toks:=s.toks + 1 }) (r:=zl) X J hp Y fun b=>?_)
 obtain ⟨cd,hc,O⟩:=PySem.W.any_some hh;have U:s.heap.get? x=zo ⟨.ref C,zo dx,.plain,#[]⟩:=I.obj;refine aF (aR (aF (aF (wpAny_loadPart U (aF (PySem.W.Looks.here (s:={ s with toks:=s.toks + 1 }) (PySem.W.looks_clsIn X hc) ?_))))));rw [O];refine aR (a:=zo dx) (aF (aR (aF ?_)));refine wpAny_nsSet1 (s:={ s with toks:=s.toks + 1 }) I.ns fun h' q j=>?_
 obtain ⟨oD,a3,a2,G,z,B⟩:=q.count (PySem.Within.cons name v hw);refine aF (wpAny_lookBehind G (by rw [z]; exact pastItsLine_dict (F2 B (by rw [D4]; omega))) ?_);exact aR (h _ ⟨(j.2 _ (Ne.symm I.ne)).trans I.obj,q,I.ne⟩ j)
theorem Qnj {R:Result->aC->Prop} {vs:List aB} {j:List (Str × aB)} (X:K.In s.heap) (q:eG K C=zb)
  (hi:bX K (.ref C) "__init__" = zo (zo (.ref f))) (z:PySem.W.typeIn K (.ref f)=zo (.type "function"))
  (h:codeAny (aJ prog w) (A.under (.builtin "type.__call__" ⟨.ref C :: vs,j⟩)) (.call (.ref f) ⟨.ref (s.heap.objs.size + 1) :: vs,j⟩) (PySem.W.InitBack (s.heap.objs.size + 1) R)
   { s with heap:=(s.heap.push bt).push (cF C s.heap.objs.size) }) :
  codeAny (aJ prog w) A (.call (.ref C) ⟨vs,j⟩) R s:=by
 obtain ⟨B,g,d,t,os⟩:=s;exact PySem.W.make_core (PySem.W.makes_of X q) (fV X hi) (fun self=>PySem.W.bind_fn X self z) (.inl rfl) h
end
def Q0b (f:Str) (v:V):List (Str × V)->List (Str × V)
 | []=>[(f,v)]
 | (g,x) :: r=>if g=f then (g,v) :: r else (g,x) :: Q0b f v r
theorem Q69 (f g:Str) (v:V):∀ fs:List (Str × V),(Q0b f v fs).lookup g=if g=f then zo v else fs.lookup g
 | []=>by
  show bu g [(f,v)]=_
  by_cases h:g=f
  ·have j:(g == f)=zb:=beq_iff_eq.mpr h;simp only [bu,j,bK h]
  ·have j:(g == f)=za:=beq_eq_false_iff_ne.mpr h;simp only [bu,j,bL h]
 | (k,x) :: r=>by
  have z:=Q69 f g v r;rw [show Q0b f v ((k,x) :: r)=(if k=f then (k,v) :: r else (k,x) :: Q0b f v r) from rfl]
  by_cases q:k=f
  ·rw [bK q]
   by_cases h:g=k
   ·have j:(g == k)=zb:=beq_iff_eq.mpr h;simp only [bu,j,bK (h.trans q)]
   ·have j:(g == k)=za:=beq_eq_false_iff_ne.mpr h;simp only [bu,j,bL (fun e:g=f=>h (e.trans q.symm))]
  ·rw [bL q]
   by_cases h:g=k
   ·have j:(g == k)=zb:=beq_iff_eq.mpr h;simp only [bu,j,bL (fun e:g=f=>q (h.symm.trans e))]
   ·have j:(g == k)=za:=beq_eq_false_iff_ne.mpr h;simp only [bu,j];exact z
theorem Q5q (f:Str) (v:V):∀ fs:List (Str × V),f∈(Q0b f v fs).map (·.1)/\∀ g,g∈fs.map (·.1)->g∈(Q0b f v fs).map (·.1)
 | []=>⟨by simp [Q0b],fun g h=>by simp at h⟩
 | (k,x) :: r=>by
  obtain ⟨z,q⟩:=Q5q f v r;rw [show Q0b f v ((k,x) :: r)=(if k=f then (k,v) :: r else (k,x) :: Q0b f v r) from rfl]
  by_cases j:k=f
  ·rw [bK j];subst j;exact ⟨by simp,fun g h=>by simpa using h⟩
  ·rw [bL j];refine ⟨?_,fun g h=>?_⟩
   ·rw [E9];exact O9 _ z
   ·rw [E9] at h ⊢;rcases E5.mp h with e | e
    ·exact E5.mpr (.inl e)
    ·exact O9 _ (q g e)
theorem Q6a (f:Str) (v:V):∀ fs:List (Str × V),(Q0b f v fs).length<=fs.length + 1
 | []=>by simp [Q0b]
 | (k,x) :: r=>by
  have q:=Q6a f v r;rw [show Q0b f v ((k,x) :: r)=(if k=f then (k,v) :: r else (k,x) :: Q0b f v r) from rfl]
  by_cases j:k=f
  ·rw [bK j,D4,D4]; omega
  ·rw [bL j,D4,D4]; omega
theorem RelO.some_of {v:V} {o:Option aB} (r:RelO (zo v) o):∃ u,o=zo u/\RelV v u:=by
 cases o with
 | none=>exact (show False from r).elim
 | some u=>exact ⟨u,rfl,r⟩
theorem RelO.none_of {o:Option aB} (r:RelO zl o):o=zl:=by
 cases o with
 | none=>rfl
 | some u=>exact (show False from r).elim
theorem Qkf {v:V} {u:aB} (r:RelV v u):fU u=zb:=by
 cases v with
 | non=>cases (show u=bZ from r); rfl
 | bl b=>cases (show u=cE b from r); rfl
 | int i=>obtain ⟨t,e⟩:=(show ∃ t,u=cg i t from r); cases e; rfl
 | str x=>obtain ⟨t,e⟩:=(show ∃ t,u=dA x t from r); cases e; rfl
 | byt b=>obtain ⟨t,e⟩:=(show ∃ t,u=fM b t from r); cases e; rfl
 | flt b=>obtain ⟨t,e⟩:=(show ∃ t,u=dw b t from r); cases e; rfl
 | ref a=>cases (show u=bT a from r); rfl
 | ty n=>cases (show u=dO n from r); rfl
section
variable {P:aN} {w:aL} {H H':Hp} {h h':Heap} {a C dx:aA} {fs fs':List (Str × V)}
theorem Q78 (hok:HOk P w H h) (e:H a=zo (.ins C dx fs)):∃ mA,ObjM h a dx C mA/\(∀ f,RelO (fs.lookup f) (mA f))/\dy mA (fs.map (·.1))/\fs.length<=1000/\H dx=zo (.own a):=by
 obtain ⟨d,z,ne,ob,mA,n,r,q⟩:=(show ObjOk P w H h a (.ins C dx fs) from hok a _ e);exact ⟨mA,⟨ob,n,ne⟩,r,q,z,d⟩
end
structure Cls (K:bQ) (C:aA):Prop where
 pg:dC K C fW=zb
 hd:dU K C=zb
 po:eE K C=zb
 sa:bX K (.ref C) "__setattr__" = zo (zo (.builtin "object.__setattr__"))
theorem Cls.get {K:bQ} {C:aA} (c:Cls K C) (f:Str):dC K C f=zb:=c.pg
def NoAttr (K:bQ) (C:aA) (f:Str):Prop:=bX K (.ref C) f=zo zl
theorem NoAttr.taker {K:bQ} {C:aA} {f:Str} (n:NoAttr K C f):eF K C f=zo zl:=by
 unfold eF;rw [show bX K (.ref C) f=zo zl from n];rfl
structure Meth (K:bQ) (C:aA) (m:Str) (f:aA):Prop where
 at_:bX K (.ref C) m=zo (zo (.ref f))
 fn:dD K (.ref f)=zb
 kp:bg K (.ref f)=zb
section
variable {X:Cx} {pins:List (aA × Obj)} {σ:St} {H:Hp} {s:aC} {a C dx:aA} {fs:List (Str × V)} {f:Str} {v:V} {A:aQ} {E:aB->aC->Prop}
theorem Qha {b:Bool} {Q:aB->aC->Prop} (I:Inv X pins σ H s) (e:H a=zo (.ins C dx fs)) (c:Cls X.K C) (n:NoAttr X.K C f) (l:fs.lookup f=zo v)
  (h:∀ u s',Inv X pins σ H s'->RelV v u->Q u s'):aI (aJ X.prog X.w) A (getAttr (.ref a) f b) Q E s:=by
 obtain ⟨mA,O,r,_,_,_⟩:=Q78 I.hok e;obtain ⟨u,q,j⟩:=RelO.some_of (v:=v) (o:=mA f) (by rw [<- l]; exact r f);exact Qsj I.kIn O (c.get f) c.hd n q (Qkf j) (h u _ (I.tok _) j)
theorem Q9f {m:Str} {g:aA} {pl:Sem Bool} {Q:aB × List aB->aC->Prop} (I:Inv X pins σ H s) (e:H a=zo (.ins C dx fs)) (c:Cls X.K C) (k:Meth X.K C m g) (l:fs.lookup m=zl)
  (h:Q (.ref g,[.ref a]) s):aI (aJ X.prog X.w) A (getMethod (.ref a) m pl) Q E s:=by
 obtain ⟨mA,O,r,_,_,_⟩:=Q78 I.hok e;have j:mA m=zl:=RelO.none_of (by rw [<- l]; exact r m);exact Qp1 I.kIn O (c.get m) k.at_ k.fn j h
theorem Qg7 {y:V} {u:aB} {Q:Unit->aC->Prop} (I:Inv X pins σ H s) (e:H a=zo (.ins C dx fs)) (c:Cls X.K C) (n:NoAttr X.K C f) (hl:fs.length < 1000) (ry:RelV y u)
  (h:∀ s',Inv X pins σ (upd H a (.ins C dx (Q0b f y fs))) s'->Q () s'):aI (aJ X.prog X.w) A (setAttr (.ref a) f u) Q E s:=by
 obtain ⟨mA,O,r,B,_,G⟩:=Q78 I.hok e;have hz:(fs.map (·.1)).length<=sizeLine:=by rw [O2,sizeLine_eq]; omega
 refine Qqp I.kIn O c.sa c.po n.taker c.hd B hz fun h' j U=>h _ ?_
 have hd:∃ o,h'.get? dx=zo o:=let ⟨o,_,_,Z,_⟩:=j.ns; ⟨o,Z⟩;refine I.write (x:=a) (e:=dx) (by rw [e]; exact True.intro) (.inr G) (fun b q J z=>(U.2 b J).trans z) hd ?_
 refine ⟨by rw [Qj O.ne]; exact G,?_,O.ne,j.obj,_,j.ns,fun g=>?_,fun g Y=>?_⟩
 ·have:=Q6a f y fs; omega
 ·show RelO ((Q0b f y fs).lookup g) (if g=f then zo u else mA g);rw [Q69]
  by_cases q:g=f
  ·rw [bK q,bK q]; exact ry
  ·rw [bL q,bL q]; exact r g
 ·by_cases q:g=f
  ·rw [q]; exact (Q5q f y fs).1
  ·refine (Q5q f y fs).2 g (B g fun z=>Y ?_);show (if g=f then zo u else mA g)=zl;rw [bL q]; exact z
theorem Inv.made (I:Inv X pins σ H s):Inv X pins σ (upd (upd H s.heap.objs.size (.own (s.heap.objs.size + 1))) (s.heap.objs.size + 1) (.ins C s.heap.objs.size []))
  { s with heap:=(s.heap.push bt).push (cF C s.heap.objs.size) }:=by
 have e1:(s.heap.push bt).get? s.heap.objs.size=zo bt:=D6 s.heap rfl;have e2:((s.heap.push bt).push (cF C s.heap.objs.size)).get? (s.heap.objs.size + 1)=zo (cF C s.heap.objs.size):=by
  have:=D6 (s.heap.push bt) (o:=cF C s.heap.objs.size) rfl
  rwa [F5] at this
 have e3:(s.heap.push bt).Ns s.heap.objs.size (fun _=>zl):=⟨bt,#[],_,e1,rfl,(fun e z=>absurd z (by simp)),fun _=>rfl⟩;have B:=I.laid (a:=s.heap.objs.size) (o:=.own (s.heap.objs.size + 1)) (h':=s.heap.push bt) (t':=s.toks) (fun b u q=>O1 _ q) (O7 _) ⟨_,e1⟩;refine B.laid (a:=s.heap.objs.size + 1) (o:=.ins C s.heap.objs.size []) (t':=s.toks) (fun b u q=>O1 _ q) (eI (F5 _ _)) ?_;have ne:s.heap.objs.size≠s.heap.objs.size + 1:=D9 (cP _);refine ⟨by rw [Qj ne,Jg],bv _,ne,e2,fun _=>zl,(Heap.Ns1.of_empty e3).at fun o q=>O1 _ q,fun _=>True.intro,fun y j=>absurd rfl j⟩
theorem Qiw {prog:aN} {w:aL} {env:Env} {e:aD} {f:Str} {pos:Pos} {s:aC} {Q:aB->aC->Prop} (q:ai e f env (aM e env)=aM e env)
  (h:aI (aJ prog w) A (aM e env) (fun o j=>aI (aJ prog w) A (getAttr o f zb) Q E j) E s):aI (aJ prog w) A (aM (.Attribute e f pos) env) Q E s:=
 Attribute_any_ h (by rw [arm_eval_Attribute,q])
end
def J13 (K:bQ) (ta:TE) (f:Str):TE:=fun σ H Q=>ta σ H fun x H1=>∃ a C dx fs v,x=.ref a/\H1 a=zo (.ins C dx fs)/\Cls K C/\NoAttr K C f/\fs.lookup f=zo v/\Q v H1
def J15 (K:bQ) (ta tv:TE) (f:Str):TS:=fun D σ H=>tv σ H fun y H1=>ta σ H1 fun x H2=>∃ a C dx fs,x=.ref a/\H2 a=zo (.ins C dx fs)/\Cls K C/\NoAttr K C f/\fs.length < 1000 /\
 D.nx σ (upd H2 a (.ins C dx (Q0b f y fs)))
section
variable {X:Cx} {o e value:aD} {f:Str} {pos pos' tpos:Pos} {ta tv:TE}
theorem Qv4 (J:PE X e ta) (j:ai e f X.env (aM e X.env)=aM e X.env):PE X (.Attribute e f pos) (J13 X.K ta f):=by
 intro pins s σ H Q I h;refine Qiw j (thn (J pins s σ H _ I h) fun u s1 ⟨x,H1,O,B,a,C,dx,fs,v,ex,G,c,n,l,q⟩=>?_)
 subst ex;obtain rfl:u=bT a:=B;exact Qha O G c n l fun Y s2 z U=>⟨v,H1,z,U,q⟩
theorem Quu (O:PE X o ta) (Y:PE X value tv) (hs:swapsWith value (zo (.Attribute o f pos')) pos.line X.env=pure za):PS X (.Assign [.Attribute o f pos'] value pos) (J15 X.K ta tv f):=by
 intro pins s σ H D I h;refine plainObj_wpAny_Assign_Attribute (thn (Y pins s σ H _ I h) fun u s1 ⟨y,H1,U,Z,q⟩=>thn (O pins s1 σ H1 _ U q) fun j s2 ⟨x,H2,z,B,a,C,dx,fs,ex,J,c,n,l,q2⟩=>?_) hs
 subst ex;obtain rfl:j=bT a:=B;exact Qg7 z J c n l Z fun s3 G=>⟨σ,_,G,q2⟩
end
section
variable {X:Cx} {pins:List (aA × Obj)} {σ:St} {H:Hp} {s:aC} {A:aQ} {E:aB->aC->Prop} {Q:aB->aC->Prop} {c:aB} {b:Bool}
inductive TyOf (K:bQ) (H:Hp):V->aB->Prop where
 | non:TyOf K H .non (.type "NoneType")
 | bl (x:Bool):TyOf K H (.bl x) (.type "bool")
 | int (i:Int):TyOf K H (.int i) (.type "int")
 | str (x:Str):TyOf K H (.str x) (.type "str")
 | flt (x:UInt64):TyOf K H (.flt x) (.type "float")
 | lst {a:aA} {xs:List V} (e:H a=zo (.lst xs)):TyOf K H (.ref a) (.type "list")
 | frz {a:aA} {o:Obj} {xs:List V} (e:H a=zo (.frz o (.lst xs))):TyOf K H (.ref a) (.type "list")
 | tup {a:aA} {xs:List V} (e:H a=zo (.tup xs)):TyOf K H (.ref a) (.type "tuple")
 | dK {a:aA} {kvs:List (Key × V)} (e:H a=zo (.dK kvs)):TyOf K H (.ref a) (.type "dict")
 | dT {a:aA} {kvs:List (List Key × V)} (e:H a=zo (.dT kvs)):TyOf K H (.ref a) (.type "dict")
 | ins {a C dx:aA} {fs:List (Str × V)} (e:H a=zo (.ins C dx fs)) (cl:Cls K C) (ha:bX K (.ref C) "__class__" = zo (zo (.builtin "object.__class__")))
   (hn:eJ K (.builtin "object.__class__") "__get__" = zo (zo (.builtin "getset_descriptor.__get__"))) (htk:fX K (.builtin "object.__class__")=zo zb)
   (hm:eK K C (.type "object")=zo zb):TyOf K H (.ref a) (.ref C)
theorem Qk9 {x:V} {u t:aB} (I:Inv X pins σ H s) (j:RelV x u) (ty:TyOf X.K H x t) (e:eL X.K t c=zo b) (h:∀ tk,Q (.bool b) { s with toks:=tk }) :
  aI (aJ X.prog X.w) A (call (.builtin "isinstance") [u,c]) Q E s:=by
 cases ty with
 | non=>cases (show u=bZ from j); exact bp PySem.W.kitx_none I.kIn True.intro e (fun z=>nomatch z) h
 | bl y=>cases (show u=cE y from j); exact bp PySem.W.kitx_bool I.kIn True.intro e (fun z=>nomatch z) h
 | int i=>obtain ⟨t,q⟩:=(show ∃ t,u=cg i t from j); cases q; exact bp PySem.W.kitx_int I.kIn True.intro e (fun z=>nomatch z) h
 | str y=>obtain ⟨t,q⟩:=(show ∃ t,u=dA y t from j); cases q; exact bp PySem.W.kitx_str I.kIn True.intro e (fun z=>nomatch z) h
 | flt y=>obtain ⟨t,q⟩:=(show ∃ t,u=dw y t from j); cases q; exact bp PySem.W.kitx_float I.kIn True.intro e (fun z=>nomatch z) h
 | @lst a xs B=>
  cases (show u=bT a from j);obtain ⟨_,_,n,_,h1⟩:=(show ObjOk X.prog X.w H s.heap a (.lst xs) from I.hok a _ B);exact bp fY I.kIn ⟨_,h1,rfl⟩ e (fun z=>nomatch z) h
 | @frz a ob xs B=>
  cases (show u=bT a from j);obtain ⟨_,_,_,n,_,h1⟩:=(show ObjOk X.prog X.w H s.heap a (.frz ob (.lst xs)) from I.hok a _ B);exact bp fY I.kIn ⟨_,h1,rfl⟩ e (fun z=>nomatch z) h
 | @tup a xs B=>
  cases (show u=bT a from j);obtain ⟨_,_,_,p⟩:=(show ObjOk X.prog X.w H s.heap a (.tup xs) from I.hok a _ B);obtain ⟨o,h1,h2,_⟩:=p;exact bp PySem.W.kitx_tuple I.kIn ⟨o,h1,h2⟩ e (fun z=>nomatch z) h
 | @dK a kvs B=>
  cases (show u=bT a from j);obtain ⟨_,_,vs,_,p⟩:=(show ObjOk X.prog X.w H s.heap a (.dK kvs) from I.hok a _ B);obtain ⟨o,es,ep,h1,h2,_⟩:=p;exact bp fZ I.kIn ⟨o,h1,h2.1⟩ e (fun z=>nomatch z) h
 | @dT a kvs B=>
  cases (show u=bT a from j);obtain ⟨_,_,xs,_,o,es,ep,h1,h2,_⟩:=(show ObjOk X.prog X.w H s.heap a (.dT kvs) from I.hok a _ B);exact bp fZ I.kIn ⟨o,h1,h2.1⟩ e (fun z=>nomatch z) h
 | @ins a C dx fs B cl Y Z G U=>
  cases (show u=bT a from j);obtain ⟨mA,O,_⟩:=Q78 I.hok B;obtain ⟨od,J,_⟩:=O.look;exact bp (PySem.W.kitx_own (cl.get _) cl.hd Y Z G U) I.kIn J e (fun z=>nomatch z) h
end
structure Room (k:Nat) (A:aQ):Prop where
 hd:A.handled=zl
 dp:A.depth + 3 * k + 5 < recursionLimit
 un:A.units + 16 * k + 200 < ac
theorem Room.mono {j k:Nat} {A:aQ} (r:Room k A) (h:j<=k):Room j A:=⟨r.hd,by have:=r.dp; omega,by have:=r.un; omega⟩
theorem Room.deeper {k:Nat} {A:aQ} (r:Room (k + 1) A) (env:Env):Room k (A.deeper env):=
 ⟨r.hd,by have:=r.dp; show A.depth + 1 + 3 * k + 5 < _; omega,by have:=r.un; show A.units + 3 + 16 * k + 200 < _; omega⟩
theorem Qh2 {A:aQ} {C:aA} {us:List aB} {j:List (Str × aB)}:(A.under (.builtin "type.__call__" ⟨.ref C :: us,j⟩)).depth=A.depth + 1:=by
 first | rfl | simp [Around.under,Code.weight,Code.isCreation,Code.isGuard,Code.isCaller,Code.frames,Code.isFrame,guardIds]
theorem Qh1 {A:aQ} {C:aA} {us:List aB} {j:List (Str × aB)}:(A.under (.builtin "type.__call__" ⟨.ref C :: us,j⟩)).units=A.units + 1:=by
 first | rfl | simp [Around.under,Code.cUnits,Code.frames,Code.isFrame]
theorem Room.make {k:Nat} {A:aQ} (r:Room (k + 1) A) (C:aA) (us:List aB) (j:List (Str × aB)):Room k (A.under (.builtin "type.__call__" ⟨.ref C :: us,j⟩)):=
 ⟨r.hd,by have:=r.dp; rw [Qh2]; omega,by have:=r.un; rw [Qh1]; omega⟩
theorem Room.depth {k:Nat} {A:aQ} (r:Room k A):A.depth < recursionLimit:=by have:=r.dp; omega
theorem Room.units {k:Nat} {A:aQ} (r:Room k A):A.units + 64 < ac:=by have:=r.un; omega
def Qxe:TA:=fun _ H Q=>Q [] H
def Qxk (ta:TE) (tr:TA):TA:=fun σ H Q=>ta σ H fun x H1=>tr σ H1 fun xs H2=>Q (x :: xs) H2
section
variable {X:Cx} {e:aD} {es:List aD} {te:TE} {t:TA} {pos:Pos}
theorem Q8c:PA X [] Qxe:=fun _ _ _ _ H Q I h=>Calls.spliced_nil ⟨[],H,I,.nil,h⟩
theorem Q0c (q:PE X e te) (z:PA X es t) (hs:aP (e :: es) X.env=(za,aM e X.env) :: aP es X.env:=by rfl):PA X (e :: es) (Qxk te t):=by
 intro pos pins s σ H Q I h;rw [hs];show aI _ _ (spliced ((za,aM e X.env) :: aU pos (aP es X.env))) _ _ s;refine Calls.spliced_cons (thn (q pins s σ H _ I h) fun u s1 ⟨x,H1,B,r1,q1⟩=>?_)
 exact thn (z pos pins s1 σ H1 _ B q1) fun us s2 ⟨xs,H2,j,r2,q2⟩=>⟨x :: xs,H2,j,.cons r1 r2,q2⟩
def J0w (t:TA):TE:=fun σ H Q=>t σ H fun xs H1=>xs.length<=sizeLine/\∀ p,H1 p=zl->Q (.ref p) (upd H1 p (.tup xs))
def J10 (t:TA):TE:=fun σ H Q=>t σ H fun xs H1=>xs.length<=sizeLine/\∀ p,H1 p=zl->Q (.ref p) (upd H1 p (.lst xs))
theorem Qv0 {x1} (h:PA X es t):PE X (.Tuple es x1 pos) (J0w t):=by
 intro pins s σ H Q I B;refine wpAny_Tuple_spliced (thn (h pos pins s σ H _ I B) fun us s1 ⟨xs,H1,j,r,z,q⟩=>⟨by rw [<- r.length]; exact z,?_⟩)
 have G:H1 s1.heap.objs.size=zl:=j.hok.fresh (O7 _);refine ⟨.ref s1.heap.objs.size,upd H1 s1.heap.objs.size (.tup xs),j.laid (t':=s1.toks) (fun b u e=>O1 _ e) (O7 _) ?_,rfl,q _ G⟩;exact ⟨z,us,r,⟨_,D6 _ rfl,rfl,_,rfl⟩⟩
theorem Qn4 (h:PA X es t):PE X (.List es pos) (J10 t):=by
 intro pins s σ H Q I B;refine wpAny_List_spliced (thn (h pos pins s σ H _ I B) fun us s1 ⟨xs,H1,j,r,z,q⟩=>⟨by rw [<- r.length]; exact z,?_⟩)
 have G:H1 s1.heap.objs.size=zl:=j.hok.fresh (O7 _);refine ⟨.ref s1.heap.objs.size,upd H1 s1.heap.objs.size (.lst xs),j.laid (t':=s1.toks) (fun b u e=>O1 _ e) (O7 _) ?_,rfl,q _ G⟩;exact ⟨z,us,0,r,D6 _ rfl⟩
end
abbrev Sp:=List V->Hp->VK->XK->Prop
abbrev CXT:=List Env->Hp->aC->XK->aB->aC->Prop
structure Env0 (P:aN) (w:aL) (K:bQ) (mg:Str->Option aB) (base:Heap) (A:aQ) (outer:List Env) (s:aC) (H:Hp):Prop where
 frames:A.frames=zo outer
 mod:Mod K mg base
 bs:∀ b o,base.get? b=zo o->s.heap.get? b=zo o/\H b=zl
 bsz:base.objs.size<=s.heap.objs.size
 funs:s.heap.FunFrames base outer
 frf:∀ b∈frs outer,H b=zl
 hok:HOk P w H s.heap
 bare:AllBare s.gens
def CE (outer:List Env) (P:aN) (w:aL) (H:Hp) (s:aC) (Q:VK) (u:aB) (s':aC):Prop:=
 ∃ v H',s'.os=s.os/\AllBare s'.gens/\Un (frs outer) [] H H' s.heap s'.heap/\HOk P w H' s'.heap/\RelV v u/\Q v H'
def CR (CX:CXT) (outer:List Env) (P:aN) (w:aL) (H:Hp) (s:aC) (Q:VK) (E:XK) (r:Result) (s':aC):Prop:=
 match r with
 | .ok (.ret u)=>CE outer P w H s Q u s'
 | .ok _=>False
 | .error e=>CX outer H s E e s'
structure FnOk (P:aN) (w:aL) (K:bQ) (mg:Str->Option aB) (base:Heap) (CX:CXT) (k:Nat) (f:aA) (fd:aO) (ps:List Str) (sp:Sp):Prop where
 len:∀ vs H Q E,sp vs H Q E->vs.length=ps.length
 run:∀ (A:aQ) (outer:List Env) (s:aC) (H:Hp) (args:Args) (us:List aB) (vs:List V) (Q:VK) (E:XK),Room k A->Env0 P w K mg base A outer s H->BindsTo s fd args (ps.zip us)->Vals vs us->sp vs H Q E ->
  codeAny (aJ P w) A (.call (.ref f) args) (CR CX outer P w H s Q E) s
theorem FnOk.imp {P:aN} {w:aL} {K:bQ} {mg:Str->Option aB} {base:Heap} {CX:CXT} {k:Nat} {f:aA} {fd:aO} {ps:List Str} {sp j:Sp} (F:FnOk P w K mg base CX k f fd ps sp)
  (h:∀ vs H Q E,j vs H Q E->sp vs H Q E):FnOk P w K mg base CX k f fd ps j:=
 ⟨fun vs H Q E q=>F.len vs H Q E (h _ _ _ _ q),fun A outer s H args us vs Q E G B z I hs=>F.run A outer s H args us vs Q E G B z I (h _ _ _ _ hs)⟩
theorem Env0.make {P:aN} {w:aL} {K:bQ} {mg:Str->Option aB} {base:Heap} {A:aQ} {outer:List Env} {s:aC} {H:Hp} (e:Env0 P w K mg base A outer s H) (C:aA) (us:List aB) (j:List (Str × aB)) :
  Env0 P w K mg base (A.under (.builtin "type.__call__" ⟨.ref C :: us,j⟩)) outer s H:=⟨by first | exact e.frames | (simpa [Around.under,Code.envs,Code.isFrame,pushEnvs] using e.frames),e.mod,e.bs,e.bsz,e.funs,e.frf,e.hok,e.bare⟩
section
variable {X:Cx} {pins:List (aA × Obj)} {σ:St} {H:Hp} {s s':aC}
theorem Inv.env0 (I:Inv X pins σ H s):Env0 X.prog X.w X.K X.mg X.base X.A X.stack s H:=
 ⟨I.ok.frames,I.ok.mod,I.bs,F2 I.ok.bsz I.sz,I.stack,I.stkFree,I.hok,I.bare⟩
theorem Inv.after {Q:VK} {u:aB} (I:Inv X pins σ H s) (h:CE X.stack X.prog X.w H s Q u s'):EP X pins σ Q u s':=by
 obtain ⟨v,H',os,bare,un,hok,r,q⟩:=h;obtain ⟨B,g,d,t,j⟩:=s';obtain rfl:j=s.os:=os;exact ⟨v,H',I.call (h':=B) (g':=g) (d':=d) (t':=t) (ch:=[]) un hok bare (fun b z=>absurd z (by simp)),r,q⟩
end
def Qxm (sp:Sp) (dvs:List V) (E:XK) (t:TA):TE:=fun σ H Q=>t σ H fun vs H1=>sp (vs ++ dvs) H1 Q E
def Qt3 (C:aA) (m:Str) (sp:Sp) (dvs:List V) (E:XK) (ta:TE) (t:TA):TE:=fun σ H Q=>ta σ H fun x H1=>∃ a dx fs,x=.ref a/\H1 a=zo (.ins C dx fs)/\fs.lookup m=zl /\
 t σ H1 fun vs H2=>sp (x :: (vs ++ dvs)) H2 Q E
def Qxg (C:aA) (sp:Sp) (dvs:List V) (E:XK) (t:TA):TE:=fun σ H Q=>t σ H fun vs H1=>∀ x dx,H1 x=zl->H1 dx=zl->dx≠x ->
 sp (.ref x :: (vs ++ dvs)) (upd (upd H1 dx (.own x)) x (.ins C dx [])) (fun v H2=>v=.non/\Q (.ref x) H2) E
def Binds (K:bQ) (fd:aO) (ps:List Str) (ds:List aB):Prop:=
 ∀ (s:aC) (us:List aB),K.In s.heap->(us ++ ds).length=ps.length->BindsTo s fd ⟨us,[]⟩ (ps.zip (us ++ ds))
theorem Binds.all {K:bQ} {fd:aO} {ps:List Str} (h:∀ us:List aB,us.length=ps.length->bindArgs fd ⟨us,[]⟩=pure (ps.zip us)):Binds K fd ps []:=fun s us _ j=>by
 rw [L5] at j ⊢;exact .of_eq (h us j)
def Kf (CX:CXT) (X:Cx) (E:XK):Prop:=∀ (pins:List (aA × Obj)) (σ:St) (H:Hp) (s:aC) (e:aB) (s':aC),Inv X pins σ H s->CX X.stack H s E e s'->X.xe e s'
section
variable {X:Cx} {CX:CXT} {k:Nat} {f C:aA} {fd:aO} {ps:List Str} {sp:Sp} {dvs:List V} {ds:List aB} {E:XK} {x m:Str} {p pos apos:Pos} {e o:aD} {es:List aD} {ta:TE} {t:TA}
theorem Qgb {pins:List (aA × Obj)} {σ:St} {H:Hp} {s:aC} {Q:VK} {us:List aB} {vs:List V} (F:FnOk X.prog X.w X.K X.mg X.base CX k f fd ps sp) (B:Room k X.A) (q:Binds X.K fd ps ds) (hd:Vals dvs ds) (z:Kf CX X E)
  (I:Inv X pins σ H s) (r:Vals vs us) (h:sp (vs ++ dvs) H Q E):aI (aJ X.prog X.w) X.A (call (.ref f) us) (EP X pins σ Q) X.xe s:=by
 have r2:Vals (vs ++ dvs) (us ++ ds):=r.append hd;have G:(us ++ ds).length=ps.length:=by rw [<- r2.length]; exact F.len _ _ _ _ h
 refine wpAny_call (bE (F.run X.A X.stack s H ⟨us,[]⟩ (us ++ ds) (vs ++ dvs) Q E B I.env0 (q s us I.kIn G) r2 h) fun r s' j=>?_)
 cases r with
 | error e=>exact z pins σ H s e s' I j
 | ok fl=>
  cases fl with
  | ret u=>exact I.after j
  | next=>exact False.elim j
  | brk=>exact False.elim j
  | cont=>exact False.elim j
theorem Qrj (F:FnOk X.prog X.w X.K X.mg X.base CX k f fd ps sp) (hr:Room k X.A) (Y:Gl X x) (J:X.mg x=zo (.ref f)) (O:bg X.K (.ref f)=zb) (G:Binds X.K fd ps ds) (hd:Vals dvs ds) (U:Kf CX X E)
  (Z:PA X (e :: es) t) (z:(x == ("__debug__" : Str))=za:=by decide) (he:aP (e :: es) X.env=(za,aM e X.env) :: aP es X.env:=by rfl) (j:(aU pos (aP es X.env)).any (·.1)=za:=by rfl) :
  PE X (.Call (.Name x p) (e :: es) [] pos) (Qxm sp dvs E t):=by
 intro pins s σ H Q I h;refine wpAny_Call_Name_kw (Ky I Y J ?_ z);refine dE (h₀:=X.base) I.ok.mod.kin O (thn (Z pos pins s σ H _ I h) fun us s1 ⟨vs,H1,B,r,q⟩=>⟨B.kIn,?_⟩) he j
 exact Qgb F hr G hd U B r q
theorem Qrf {pl:Sem Bool} (he:PE X o ta) (c:Cls X.K C) (B:Meth X.K C m f) (F:FnOk X.prog X.w X.K X.mg X.base CX k f fd ps sp) (hr:Room k X.A) (O:Binds X.K fd ps ds) (hd:Vals dvs ds) (U:Kf CX X E) (ha:PA X (e :: es) t)
  (j:aP (e :: es) X.env=(za,aM e X.env) :: aP es X.env:=by rfl) (z:(aU pos (aP es X.env)).any (·.1)=za:=by rfl)
  (Z:aM (.Call (.Attribute o m apos) (e :: es) [] pos) X.env=(do
   let ov <- aM o X.env
   standAt apos.atName
   let (f,first) <- ag [ov] (getMethod ov m pl)
   callWith pos f first (aU pos (aP (e :: es) X.env)) (backToKw pos (keywordEach [] X.env))):=by rfl) :
  PE X (.Call (.Attribute o m apos) (e :: es) [] pos) (Qt3 C m sp dvs E ta t):=by
 intro pins s σ H Q I h;refine fb (pl:=pl) (thn (he pins s σ H _ I h) fun u s1 ⟨x,H1,J,Y,a,dx,fs,ex,ea,l,q⟩=>?_) Z
 subst ex;obtain rfl:u=bT a:=Y;refine Q9f J ea c B l ?_;refine dE (first:=[.ref a]) (h₀:=X.base) I.ok.mod.kin B.kp (thn (ha pos pins s1 σ H1 _ J q) fun us s2 ⟨vs,H2,G,r,q2⟩=>⟨G.kIn,?_⟩) j z
 exact Qgb (us:=.ref a :: us) (vs:=.ref a :: vs) F hr O hd U G (.cons rfl r) q2
theorem Qn3 {pl:Sem Bool} (Y:PE X o ta) (c:Cls X.K C) (z:Meth X.K C m f) (F:FnOk X.prog X.w X.K X.mg X.base CX k f fd ps sp) (Z:Room k X.A) (B:Binds X.K fd ps ds) (hd:Vals dvs ds) (J:Kf CX X E)
  (O:aM (.Call (.Attribute o m apos) [] [] pos) X.env=(do
   let ov <- aM o X.env
   standAt apos.atName
   let (f,first) <- ag [ov] (getMethod ov m pl)
   callWith pos f first (aU pos (aP [] X.env)) (backToKw pos (keywordEach [] X.env))):=by rfl) :
  PE X (.Call (.Attribute o m apos) [] [] pos) (Qt3 C m sp dvs E ta Qxe):=by
 intro pins s σ H Q I h;refine fb (pl:=pl) (thn (Y pins s σ H _ I h) fun u s1 ⟨x,H1,j,G,a,dx,fs,ex,U,l,q⟩=>?_) O
 subst ex;obtain rfl:u=bT a:=G;refine Q9f j U c z l ?_;exact PySem.W.callWith_K0 (first:=[.ref a]) j.kIn z.kp (Qgb (us:=[.ref a]) (vs:=[.ref a]) F Z B hd J j (.cons rfl .nil) q)
structure Mk (K:bQ) (C f:aA):Prop where
 makes:eG K C=zb
 init:bX K (.ref C) "__init__" = zo (zo (.ref f))
 fn:dD K (.ref f)=zb
 kp:bg K (.ref C)=zb
theorem Qmj {pins:List (aA × Obj)} {σ:St} {H:Hp} {s:aC} {Q:VK} {us:List aB} {vs:List V} (M:Mk X.K C f) (F:FnOk X.prog X.w X.K X.mg X.base CX k f fd ps sp) (Y:Room (k + 1) X.A) (B:Binds X.K fd ps ds) (hd:Vals dvs ds)
  (G:Kf CX X E) (I:Inv X pins σ H s) (r:Vals vs us)
  (h:∀ x dx,H x=zl->H dx=zl->dx≠x->sp (.ref x :: (vs ++ dvs)) (upd (upd H dx (.own x)) x (.ins C dx [])) (fun v H2=>v=.non/\Q (.ref x) H2) E) :
  aI (aJ X.prog X.w) X.A (call (.ref C) us) (EP X pins σ Q) X.xe s:=by
 have z:=h (s.heap.objs.size + 1) s.heap.objs.size (I.hok.fresh (cQ _)) (I.hok.fresh (O7 _)) (D9 (cP _));have q:=Inv.made (C:=C) I;have r2:Vals (V.ref (s.heap.objs.size + 1) :: (vs ++ dvs)) (bT (s.heap.objs.size + 1) :: (us ++ ds)):=.cons rfl (r.append hd);have Z:(bT (s.heap.objs.size + 1) :: us ++ ds).length=ps.length:=by
  have e:=r2.length;rw [F.len _ _ _ _ z] at e;exact e.symm
 refine wpAny_call (Qnj (f:=f) I.kIn M.makes M.init (beq_iff_eq.mp M.fn) (bE (F.run _ X.stack _ _ ⟨bT (s.heap.objs.size + 1) :: us,[]⟩ (bT (s.heap.objs.size + 1) :: (us ++ ds)) _ _ E (Y.make C us [])
  (q.env0.make C us []) (B _ (bT (s.heap.objs.size + 1) :: us) q.kIn Z) r2 z) fun r s' j=>?_))
 cases r with
 | error e=>exact G pins σ _ _ e s' q j
 | ok fl=>
  cases fl with
  | ret u=>
   obtain ⟨v,H',O,J,U,q3⟩:=q.after j;subst U;exact ⟨J,⟨V.ref (s.heap.objs.size + 1),H',O,rfl,q3⟩⟩
  | next=>exact False.elim j
  | brk=>exact False.elim j
  | cont=>exact False.elim j
theorem Qrg (M:Mk X.K C f) (F:FnOk X.prog X.w X.K X.mg X.base CX k f fd ps sp) (hr:Room (k + 1) X.A) (U:Gl X x) (J:X.mg x=zo (.ref C)) (G:Binds X.K fd ps ds) (hd:Vals dvs ds) (O:Kf CX X E)
  (Y:PA X (e :: es) t) (z:(x == ("__debug__" : Str))=za:=by decide) (Z:aP (e :: es) X.env=(za,aM e X.env) :: aP es X.env:=by rfl) (j:(aU pos (aP es X.env)).any (·.1)=za:=by rfl) :
  PE X (.Call (.Name x p) (e :: es) [] pos) (Qxg C sp dvs E t):=by
 intro pins s σ H Q I h;refine wpAny_Call_Name_kw (Ky I U J ?_ z);refine dE (h₀:=X.base) I.ok.mod.kin M.kp (thn (Y pos pins s σ H _ I h) fun us s1 ⟨vs,H1,B,r,q⟩=>⟨B.kIn,?_⟩) Z j
 exact Qmj M F hr G hd O B r q
end
def PK (X:Cx) (kws:List Keyword) (t:TA):Prop:=
 ∀ (pos:Pos) (pins:List (aA × Obj)) (s:aC) (σ:St) (H:Hp) (Q:List V->Hp->Prop),Inv X pins σ H s->t σ H Q->aI (aJ X.prog X.w) X.A (evalAll ((backToKw pos (keywordEach kws X.env)).map (·.2))) (AP X pins σ Q) X.xe s
section
variable {X:Cx} {CX:CXT} {k:Nat} {f C:aA} {fd:aO} {ps ks:List Str} {sp:Sp} {E:XK} {x m:Str} {p pos apos kpos:Pos} {e o:aD} {es:List aD} {kws:List Keyword} {te ta:TE} {t tk:TA} {nm:Option Str}
variable {g:List aB->List aB->List aB} {gV:List V->List V->List V}
end
structure FnScope (N P:List Str) (sc:Scope):Prop where
 kind:sc.kind=.function
 co:sc.isCoroutine=za
 gen:sc.isGenerator=za
 nd:N.Nodup
 pre:N.take P.length=P
 par:∀ x∈P,sc.names.lookup x=zo .local\/sc.names.lookup x=zo .cell
 nofree:∀ y∈sc.names,y.2≠.free
theorem Qc0 {kindOf:Str->Option aj} {x:Str}:∀ {binds:List (Str × aB)} {m:Str->Option aB},(∀ v,(x,v)∉binds)->bindL kindOf binds m x=m x
 | [],_,_=>rfl
 | (n,v) :: r,m,h=>by
  unfold bindL;rw [Qc0 fun w j=>h w (O9 _ j)]
  split
  ·have:x≠n:=by rintro rfl; exact h v D1
   simp [this]
  ·rfl
theorem Qc2 {kindOf:Str->Option aj} {x:Str}:∀ {binds:List (Str × aB)} {m:Str->Option aB},(∀ v,(x,v)∉binds)->bindC kindOf binds m x=m x
 | [],_,_=>rfl
 | (n,v) :: r,m,h=>by
  unfold bindC;rw [Qc2 fun w j=>h w (O9 _ j)]
  split
  ·rfl
  ·have:x≠n:=by rintro rfl; exact h v D1
   simp [this]
theorem Qc1 {kindOf:Str->Option aj} {x:Str} {v:aB}:∀ {P:List Str} {vs:List aB} {i:Nat} {m:Str->Option aB},P.Nodup->P[i]?=zo x->vs[i]?=zo v->kindOf x=zo .local ->
  bindL kindOf (P.zip vs) m x=zo v
 | [],_,_,_,_,h,_,_=>by simp at h
 | _ :: _,[],_,_,_,_,h,_=>by simp at h
 | p :: P,w :: vs,0,m,nd,h1,h2,j=>by
  simp at h1 h2; subst h1; subst h2;show bindL kindOf ((p,w) :: P.zip vs) m p=_;unfold bindL;rw [Qc0 fun v q=>(cj.mp nd).1 (cR q).1,bK j]
  simp
 | p :: P,w :: vs,i + 1,m,nd,h1,h2,j=>by
  show bindL kindOf ((p,w) :: P.zip vs) m x=_;unfold bindL;exact Qc1 (i:=i) (cj.mp nd).2 (by simpa using h1) (by simpa using h2) j
theorem Qc3 {kindOf:Str->Option aj} {x:Str} {v:aB}:∀ {P:List Str} {vs:List aB} {i:Nat} {m:Str->Option aB},P.Nodup->P[i]?=zo x->vs[i]?=zo v->kindOf x≠zo .local ->
  bindC kindOf (P.zip vs) m x=zo v
 | [],_,_,_,_,h,_,_=>by simp at h
 | _ :: _,[],_,_,_,_,h,_=>by simp at h
 | p :: P,w :: vs,0,m,nd,h1,h2,j=>by
  simp at h1 h2; subst h1; subst h2;show bindC kindOf ((p,w) :: P.zip vs) m p=_;unfold bindC;rw [Qc2 fun v q=>(cj.mp nd).1 (cR q).1,bL j]
  simp
 | p :: P,w :: vs,i + 1,m,nd,h1,h2,j=>by
  show bindC kindOf ((p,w) :: P.zip vs) m x=_;unfold bindC;exact Qc3 (i:=i) (cj.mp nd).2 (by simpa using h1) (by simpa using h2) j
def start (N:List Str) (vs:List V):St:=vs.map zo ++ bR (N.length - vs.length) zl
def Qhe (CX:CXT) (P:aN) (w:aL) (K:bQ) (mg:Str->Option aB) (base:Heap) (N:List Str) (qual:Str) (scope:Scope) (f:aA) (cd:aB) (A:aQ) (outer:List Env) (s:aC) (H:Hp) (E:XK):Cx where
 prog:=P
 w:=w
 K:=K
 mg:=mg
 base:=base
 A:=A.deeper (envOfC qual scope s.heap.objs.size f cd)
 N:=N
 s₀:=s
 H₀:=H
 env:=envOfC qual scope s.heap.objs.size f cd
 outer:=outer
 stack:=envOfC qual scope s.heap.objs.size f cd :: outer
 ex:=[]
 calm:=zb
 fn:=fun _=>zb
 pn:=[]
 xe:=fun e s'=>aI (aJ P w) (A.deeper (envOfC qual scope s.heap.objs.size f cd)) (leaving (envOfC qual scope s.heap.objs.size f cd) e) (fun _ s''=>CX outer H s E e s'') (fun e' s''=>CX outer H s E e' s'') s'
theorem Qfk {sc:Scope} {n:Nat} {x:Str} (h:sc.names.lookup x=zo .cell):∃ c,(ae n sc.names []).lookup x=zo c:=by
 have q:=eM sc.names n [] (.inl h);exact fe.mp q
theorem Qkc {CX:CXT} {P:aN} {w:aL} {K:bQ} {mg:Str->Option aB} {base:Heap} {N ps:List Str} {qual:Str} {scope:Scope} {f:aA} {cd:aB} {A:aQ} {outer:List Env} {s s1:aC} {H:Hp} {E:XK} {us:List aB} {vs:List V}
  (S:FnScope N ps scope) (hd:A.handled=zl) (j:Env0 P w K mg base A outer s H) (hl:vs.length=ps.length) (r:Vals vs us)
  (x:InCallC s s.heap.objs.size (bindL (envOfC qual scope s.heap.objs.size f cd).kindOf (ps.zip us) fun _=>zl) (ae (s.heap.objs.size + 1) scope.names []) (bindC (envOfC qual scope s.heap.objs.size f cd).kindOf (ps.zip us) fun _=>zl) s1) :
  Inv (Qhe CX P w K mg base N qual scope f cd A outer s H E) [] (start N vs) H s1:=by
 have U:ps.length<=N.length:=by have:=congrArg dW S.pre; rw [cS] at this; omega
 obtain ⟨h1,tk,rfl,J⟩:=x.done;have G:∀ b:aA,b∉(Qhe CX P w K mg base N qual scope f cd A outer s H E).ex:=fun b z=>absurd (show b∈([]:List aA) from z) (by simp)
 refine ⟨⟨j.mod,S.kind,rfl,rfl,O7 _,fun y z c h1 h2=>?_,fun y B=>?_,fun y c _ h=>?_,fun _=>hd,Around.frames_deeper j.frames,.inr ⟨rfl,rfl⟩,fun b z=>absurd z (G b),j.bs,j.bsz,fun b _ _=>G b,fun b z=>absurd z (G b),j.funs,j.frf⟩,
  rfl,j.bare,Un.kept J,⟨_,x.toInCall.ns,fun i y v h1 h2 h3=>?_⟩,fun y c h=>⟨_,x.cell y c h⟩,j.hok.fresh (O7 _),fun y c h=>?_,fun p hp=>absurd (show p∈([]:List (aA × Obj)) from hp) (by simp),j.hok.kept J,?_⟩
 ·exact name_of_addr x.apart (bw h1) (bw h2)
 ·have B:scope.names.lookup y=zo .cell\/scope.names.lookup y=zo .free:=B;rcases B with B | B
  ·exact Qfk B
  ·exact absurd rfl (S.nofree _ (bw B))
 ·exact E2 (x.above y c (bw h))
 ·have hi:i < vs.length:=by
   unfold start at h2
   by_cases hi:i < vs.length
   ·exact hi
   ·rw [D3 (by simpa using hi)] at h2;rw [cU] at h2
    split at h2 <;> cases h2
  have Z:vs[i]?=zo v:=by
   unfold start at h2;rw [O5 (by simpa using hi),E8] at h2;cases e:vs[i]? with
   | none=>rw [e] at h2; cases h2
   | some a=>rw [e] at h2; cases h2; rfl
  obtain ⟨u,O,Y⟩:=r.get Z;have hp:ps[i]?=zo y:=by
   rw [<- S.pre,List.getElem?_take_of_lt (by omega)]; exact h1
  have I:ps.Nodup:=by rw [<- S.pre]; exact S.nd.sublist (List.take_sublist _ _)
  refine ⟨u,Y,?_⟩;rcases S.par y (D5 hp) with k | k
  ·exact .inl ⟨k,Qc1 I hp O k⟩
  ·obtain ⟨c,e⟩:=Qfk (n:=s.heap.objs.size + 1) k;refine .inr ⟨.inl k,c,e,?_⟩;have q:=x.cell y c e;rw [Qc3 I hp O (by show scope.names.lookup y≠_; rw [k]; decide)] at q;exact q
 ·exact j.hok.fresh (E2 (x.above y c (bw h)))
 ·unfold start;show _=N.length;rw [D0,O2,eN];omega
theorem Qtv {CX:CXT} {P:aN} {w:aL} {K:bQ} {mg:Str->Option aB} {base:Heap} {k:Nat} {f:aA} {name qual:Str} {z:Arguments} {body:List aK} {scope:Scope} {dV kV Y pm j ct oc:aB} {an od:Option aA}
  {a2:Array (Option aB)} {N ps:List Str} {sp:Sp} (lk:K.lookup f=zo ⟨oc,od,.func (bc name qual z body scope dV kV Y pm an j ct),a2⟩) (a3:bx K j qual=zb) (S:FnScope N ps scope)
  (len:∀ vs H Q E,sp vs H Q E->vs.length=ps.length)
  (G:∀ (A:aQ) (outer:List Env) (s:aC) (H:Hp) (vs:List V) (Q:VK) (E:XK),Room k (A.deeper (envOfC qual scope s.heap.objs.size f j))->sp vs H Q E ->
   ∃ t,PSs (Qhe CX P w K mg base N qual scope f j A outer s H E) body t/\t { nx:=fun _ H'=>Q .non H',rt:=Q } (start N vs) H) :
  FnOk P w K mg base CX (k + 1) f (bc name qual z body scope dV kV Y pm an j ct) ps sp:=by
 refine ⟨len,fun A outer s H args us vs Q E hr U hb r Z=>?_⟩;have hl:=len _ _ _ _ Z;have KX:K.In s.heap:=U.mod.kin.keeps fun b o e=>(U.bs b o e).1
 have lim:s.heap.NoLimit:=U.mod.nolimit.keeps fun b o e=>(U.bs b o e).1
 have O:∀ y∈ps.zip us,scope.names.lookup y.1=zo .local\/(scope.names.lookup y.1=zo .cell/\((ae (s.heap.objs.size + 1) scope.names []).lookup y.1).isSome=zb):=fun ⟨n,v⟩ hy=>by
  rcases S.par n (cR hy).1 with q | q
  ·exact .inl q
  ·exact .inr ⟨q,eM _ _ _ (.inl q)⟩
 refine codeAny_call_function hr.depth (KX _ _ lk) rfl S.co S.gen rfl (PySem.W.codeRec_of KX a3) (hb _ _ _ _ ?_);refine wpAny_newFunctionEnv_cells S.kind O fun env he s1 x=>?_
 subst he;refine ⟨lim.keeps x.toInCall.keep,codeAny_func ?_⟩;obtain ⟨t,ht,hq⟩:=G A outer s H vs Q E (hr.deeper _) Z;have I:Inv (Qhe CX P w K mg base N qual scope f j A outer s H E) [] (start N vs) H s1:=Qkc S hr.hd U hl r x;refine ad (ht [] s1 (start N vs) H _ I hq) (fun fl s' hs=>?_) fun e s' hs=>hs
 have fin:∀ {B:St} {H':Hp} {v:V} {u:aB},Inv (Qhe CX P w K mg base N qual scope f j A outer s H E) [] B H' s'->RelV v u->Q v H'->CE outer P w H s Q u s':=
  fun {B H' v u} J rv q=>⟨v,H',J.os,J.bare,J.base,J.hok,rv,q⟩
 cases fl with
 | ret u=>
  obtain ⟨v,B,H',J,rv,q⟩:=hs;exact fin J rv q
 | next=>
  obtain ⟨B,H',J,q⟩:=hs;exact fin (v:=V.non) (u:=bZ) J rfl q
 | brk=>
  obtain ⟨_,_,_,q⟩:=hs;exact False.elim q
 | cont=>
  obtain ⟨_,_,_,q⟩:=hs;exact False.elim q
section
variable {X:Cx} {x:Str} {p pos:Pos} {e:aD} {es:List aD} {t:TA} {id T:String} {r:List V->Hp->VK->Prop}
def tCB (r:List V->Hp->VK->Prop) (t:TA):TE:=fun σ H Q=>t σ H fun vs H1=>r vs H1 Q
theorem Qeb (B:Ki X (.builtin id) r) (G:Gl X x) (z:X.mg x=zl) (Z:aa x=zo (.builtin id)) (J:PA X (e :: es) t) (U:x≠"__name__" := by decide) (q:(x == ("__debug__" : Str))=za:=by decide)
  (O:aP (e :: es) X.env=(za,aM e X.env) :: aP es X.env:=by rfl) (j:(aU pos (aP es X.env)).any (·.1)=za:=by rfl):PE X (.Call (.Name x p) (e :: es) [] pos) (tCB r t):=by
 intro pins s σ H Q I h;refine wpAny_Call_Name_kw (Q3v I G z Z ?_ U q);exact gc (thn (J pos pins s σ H _ I h) fun us s1 ⟨vs,H1,Y,r1,q1⟩=>B pins s1 σ H1 vs us Q Y r1 q1) O j
theorem Qjk (B:Ki X (.type T) r) (G:Gl X x) (z:X.mg x=zl) (Z:aa x=zo (.type T)) (J:PA X (e :: es) t) (U:x≠"__name__" := by decide) (q:(x == ("__debug__" : Str))=za:=by decide)
  (O:aP (e :: es) X.env=(za,aM e X.env) :: aP es X.env:=by rfl) (j:(aU pos (aP es X.env)).any (·.1)=za:=by rfl):PE X (.Call (.Name x p) (e :: es) [] pos) (tCB r t):=by
 intro pins s σ H Q I h;refine wpAny_Call_Name_kw (Q3v I G z Z ?_ U q);exact dB (thn (J pos pins s σ H _ I h) fun us s1 ⟨vs,H1,Y,r1,q1⟩=>B pins s1 σ H1 vs us Q Y r1 q1) O j
end
end L2
namespace HT
open PySem PyProof.Rows
def lexLt:List Int->List Int->Bool
 | [],[]=>za
 | [],_ :: _=>zb
 | _ :: _,[]=>za
 | x :: xs,y :: ys=>if x=y then lexLt xs ys else decide (x < y)
theorem Qh7 (x y:Int) (xs ys:List Int):lexLt (x :: xs) (y :: ys)=if x=y then lexLt xs ys else decide (x < y):=rfl
theorem Qaw:lexLt [] []=za:=rfl
theorem Q95 (y:Int) (ys:List Int):lexLt [] (y :: ys)=zb:=rfl
theorem Q96 (x:Int) (xs:List Int):lexLt (x :: xs) []=za:=rfl
theorem Qp7 (A:aQ) (s:aC) (a:Int) (t:Tok) (c:Int) (u:Tok):∃ e,SeqAt.EqAt A s (.int a t) (.int c u) e/\(e=zb <-> a=c):=
 ⟨(a == c),SeqAt.EqAt.int_int a t c u,by simp⟩
theorem Qmm (A:aQ) (s:aC) (a:Int) (t:Tok) (c:Int) (u:Tok) (prog:aN) (w:aL) (E:aB->aC->Prop) (Q:aB->aC->Prop) (h:Q (.bool (decide (a < c))) s) :
  aI (aJ prog w) A (richCompare .Lt (.int a t) (.int c u)) Q E s:=
 (gf h:aI (aJ prog w) A (aV .Lt (.int a t) (.int c u)) Q E s)
section
open PySem.SeqAt
open PySem.AutoSeq1 (wpAny_loadPart')
open PySem.MeetsSeq PySem.MeetsSeq2 PySem.MeetsSeq3
theorem Q9y (l b:aA) (z j:Array aB) (n n2:Nat) (dd a8:Option aA) (sl a7:Array (Option aB)) (ns ms:List Int) (hi:IntsAre z.toList ns) (hj:IntsAre j.toList ms) :
  Meets (Builtin.«tuple.__lt__» ⟨[.ref l,.ref b],[]⟩)
   (fun _ R s=>s.heap.get? l=zo { cls:=.type "tuple",dict:=dd,data:=.seq z n,slots:=sl }/\s.heap.get? b=zo { cls:=.type "tuple",dict:=a8,data:=.seq j n2,slots:=a7 } /\
    R (.ok (.ret (.bool (lexLt ns ms)))) s):=
 .of_wp fun prog w A R s h=>by
  obtain ⟨hp,g,d,tk,os⟩:=s; obtain ⟨hl,hb,h⟩:=h;have f2:=AutoSeq1.sub_tuple_tuple;have z1:z.size=ns.length:=by rw [<- hi.length]; simp
  have z2:j.size=ms.length:=by rw [<- hj.length]; simp
  wp_walk using wpAny_loadPart' hl,wpAny_loadPart' hb,wpAny_forIn_list _ (fun rest b s'=>b.1=zl/\s'=⟨hp,g,d,tk,os⟩/\∃ (vs ws:List aB) (G I:List Int),rest=vs.zip ws /\
   IntsAre vs G/\IntsAre ws I/\G.length + j.size=I.length + z.size/\R (.ok (.ret (.bool (lexLt G I)))) ⟨hp,g,d,tk,os⟩) _
  case turn=>
   rintro ⟨y,x⟩ rest b s' ⟨a2,rfl,vs,ws,G,I,hz,Z,J,B,O⟩;cases Z with
   | nil=>rw [List.zip_nil_left] at hz; cases hz
   | cons a t a4=>
    cases J with
    | nil=>rw [List.zip_nil_right] at hz; cases hz
    | cons c u a3=>
     rw [fh] at hz;injection hz with a6 Y
     injection a6 with hy hx
     subst hy hx;rw [Qh7] at O;simp only [D4] at B;obtain ⟨e,he,U⟩:=Qp7 A.in1 ⟨hp,g,d,tk,os⟩ a t c u;refine aF (he prog w _ _ ?_);cases e with
     | true=>
      rw [bK (U.mp rfl)] at O
      wp_walk
      exact ⟨rfl,rfl,_,_,_,_,Y,a4,a3,by omega,O⟩
     | false=>
      rw [bL (fun q=>absurd (U.mpr q) D8)] at O
      have a5:=Qmm A.in1 ⟨hp,g,d,tk,os⟩ a t c u prog w
      wp_walk using a5
      exact ⟨_,rfl,by simpa using O⟩
  case fin=>
   rintro ⟨b1,b2⟩ s' ⟨a2,rfl,vs,ws,G,I,hz,Z,J,B,O⟩;simp only at a2;subst a2;have hv:lexLt G I=decide (z.size < j.size):=by
    cases Z with
    | nil=>
     cases J with
     | nil=>
      simp only [cH] at B;rw [Qaw];exact (bN (by omega)).symm
     | cons c u hw=>
      simp only [cH,D4] at B;rw [Q95];exact (bO (by omega)).symm
    | cons a t hv=>
     cases J with
     | nil=>
      simp only [cH,D4] at B;rw [Q96];exact (bN (by omega)).symm
     | cons c u hw=>
      rw [fh] at hz;cases hz
   rw [hv] at O
   wp_walk
   exact ⟨_,rfl,by simpa [Builtin.Tuple.tupleCompareSizes] using O⟩
  case h=>
   exact ⟨rfl,rfl,z.toList,j.toList,ns,ms,rfl,hi,hj,by omega,h⟩
end
section
variable {prog:aN} {w:aL} {A:aQ} {E:aB->aC->Prop} {s:aC}
theorem lt_tupInts {l b:aA} {q j:Array aB} {ns ms:List Int} {Q:aB->aC->Prop} (Y:IsTup s.heap l q) (I:IsTup s.heap b j) (hi:IntsAre q.toList ns) (J:IntsAre j.toList ms)
  (O:A.units < ac) (h:Q (.bool (lexLt ns ms)) s):aI (aJ prog w) A (aV .Lt (.ref l) (.ref b)) Q E s:=by
 obtain ⟨⟨cls,dd,data,U⟩,ho,hc,n,hd⟩:=id Y;obtain ⟨⟨G,z,data2,B⟩,ho2,hc2,n2,hd2⟩:=id I;simp only at hc hd hc2 hd2;subst hc hd hc2 hd2;exact richCompare_meets_room (op:=.Lt) ⟨_,ho,rfl⟩ ⟨_,ho2,rfl⟩ PySem.F.slot_tuple_lt PySem.F.entry_tuple_lt (PySem.F.args_tuple_lt_2 _ _) (Q9y l b q j n n2 dd z U B ns ms hi J)
  ⟨ho,ho2,show cE (lexLt ns ms)≠fj/\Q (.bool (lexLt ns ms)) s from ⟨(fun x=>nomatch x),h⟩⟩ O
theorem cat_tup {t b:aA} {vs j:List aB} {Q:aB->aC->Prop} (Y:IsTup s.heap t vs.toArray) (U:IsTup s.heap b j.toArray) (O:vs≠[])
  (h1:j=[]->Q (.ref t) s) (h2:j≠[]->Q (.ref s.heap.objs.size) { s with heap:=s.heap.push { cls:=.type "tuple",data:=.seq (vs ++ j).toArray } })
  (G:vs.length + j.length<=sizeLine):aI (aJ prog w) A (aW .Add (.ref t) (.ref b)) Q E s:=by
 obtain ⟨⟨cls,dd,data,I⟩,ho,hc,n,hd⟩:=id Y;obtain ⟨⟨J,q,data2,z⟩,ho2,hc2,n2,hd2⟩:=id U;simp only at hc hd hc2 hd2;subst hc hd hc2 hd2;have e:vs.toArray ++ j.toArray=(vs ++ j).toArray:=by simp
 by_cases B:j=[]
 ·exact concat_meets ⟨_,ho,rfl⟩ ⟨_,ho2,rfl⟩ noFill_tuple_add seq_tuple_add eO eP (eQ _ _)
   (tuple_addW1 t b vs.toArray j.toArray n n2 dd q I z (by simpa using O) (by simp [B])) ⟨ho,ho2,h1 B⟩
 ·refine concat_meets ⟨_,ho,rfl⟩ ⟨_,ho2,rfl⟩ noFill_tuple_add seq_tuple_add eO eP (eQ _ _)
   (tuple_addW2 t b vs.toArray j.toArray n n2 dd q I z (by simpa using O) (by simpa using B) (by rw [O3,O3]; exact G)) ⟨ho,ho2,?_⟩
  rw [e];exact h2 B
def sIx (n d:Nat):Option Int->Nat
 | none=>d
 | some v=>if v < 0 then (v + (n:Int)).toNat else min v.toNat n
theorem sIx_none (n d:Nat):sIx n d zl=d:=rfl
theorem sIx_nat (n d k:Nat):sIx n d (zo (k:Int))=min k n:=by
 show (if (k:Int) < 0 then ((k:Int) + (n:Int)).toNat else min (k:Int).toNat n)=min k n;rw [bL (by omega),cB]
theorem Qui (n d:Nat) (hd:d<=n) (o:Option Int):sIx n d o<=n:=by
 cases o with
 | none=>exact hd
 | some v=>
  show (if v < 0 then (v + (n:Int)).toNat else min v.toNat n)<=n
  by_cases j:v < 0
  ·rw [bK j]; omega
  ·rw [bL j]; exact Nat.min_le_right _ _
theorem Qip (v:Int) (n d:Nat):(if v < 0 then max (v + (n:Int)) 0 else min v (n:Int))=((sIx n d (zo v):Nat):Int):=by
 show (if v < 0 then max (v + (n:Int)) 0 else min v (n:Int))=(((if v < 0 then (v + (n:Int)).toNat else min v.toNat n):Nat):Int)
 by_cases j:v < 0
 ·simp only [bK j]; omega
 ·simp only [bL j]; omega
theorem Qhn (lo hi:Option Int) (n:Nat):Builtin.Slice.sliceAdjust lo hi 1 (n:Int)=(((sIx n 0 lo:Nat):Int),((sIx n n hi:Nat):Int)):=by
 have h1:¬ ((1:Int) < 0):=by omega
 unfold Builtin.Slice.sliceAdjust;simp only [h1,if_false];refine Prod.ext ?_ ?_
 ·cases lo with
  | none=>rfl
  | some v=>exact Qip v n 0
 ·cases hi with
  | none=>rfl
  | some v=>exact Qip v n n
theorem Qgf (i j:Nat):Builtin.Slice.slicePlaces (i:Int) (j:Int) 1=j - i:=by
 unfold Builtin.Slice.slicePlaces;have h1:(1:Int) > 0:=by omega
 simp only [h1,if_true,Int.ediv_one]
 split <;> omega
theorem Q7t {v:aB} {o:Option Int} {Q:Option Int->aC->Prop} (p:IsPart v o) (h:Q o s):aI (aJ prog w) A (Builtin.Slice.slicePartIndex v) Q E s:=by
 cases p with
 | none=>exact slicePart_none h
 | int i t=>exact slicePart_int h
theorem yi {G:aA} {B z:aB} {lo hi:Option Int} {n:Nat} {Q:Int × Int × Nat->aC->Prop} (hs:s.heap.IsSliceOf G B z .none) (pl:IsPart B lo) (I:IsPart z hi)
  (h:Q (((sIx n 0 lo:Nat):Int),1,sIx n n hi - sIx n 0 lo) s):aI (aJ prog w) A (Builtin.Slice.sliceApplied (.ref G) (pure (n:Int))) Q E s:=by
 obtain ⟨os,q,J,j⟩:=id hs;unfold Builtin.Slice.sliceApplied Builtin.Slice.sliceFields;refine aF (aF (aX q j (x:=B) rfl (aF (aX q j (x:=z) rfl (aF (aX q j (x:=.none) rfl (aR ?_)))))));refine aF (slicePart_none ?_);show aI _ _ (if ((1:Int) == 0)=zb then _ else _) _ _ s;rw [bL (by decide)];refine aF (Q7t pl (aF (Q7t I (aF (aR ?_)))));show aI _ _ (match Builtin.Slice.sliceAdjust lo hi 1 (n:Int) with | (lo,hi)=>pure (lo,(1:Int),Builtin.Slice.slicePlaces lo hi 1)) _ _ s
 rw [Qhn lo hi n];show aI _ _ (pure (((sIx n 0 lo:Nat):Int),(1:Int),Builtin.Slice.slicePlaces ((sIx n 0 lo:Nat):Int) ((sIx n n hi:Nat):Int) 1)) _ _ s;rw [Qgf];exact aR h
theorem Qmy (xs:Array aB) (i k:Nat):((bS k).filterMap fun (m:Nat)=>xs[((i:Int) + (m:Int) * 1).toNat]?).toArray=((xs.toList.drop i).take k).toArray:=by
 have e:(fun (m:Nat)=>xs[((i:Int) + (m:Int) * 1).toNat]?)=fun m=>xs[i + m]?:=by
  funext m;have:((i:Int) + (m:Int) * 1).toNat=i + m:=by omega
  rw [this]
 rw [e];have:=pick_run xs i k;rw [List.filterMap_map] at this;have e2:((fun x=>xs[x]?) ∘ fun x=>i + x)=fun m=>xs[i + m]?:=rfl
 rw [e2] at this;rw [this]
theorem getItem_tuple_cut {t I:aA} {j:Array aB} {Z Y:aB} {lo hi:Option Int} {Q:aB->aC->Prop} (B:IsTup s.heap t j) (hs:s.heap.IsSliceOf I Z Y .none) (pl:IsPart Z lo) (pu:IsPart Y hi)
  (hw:¬ (sIx j.size 0 lo=0/\sIx j.size j.size hi=j.size))
  (h:Q (.ref s.heap.objs.size) { s with heap:=s.heap.push { cls:=.type "tuple",data:=.seq ((j.toList.drop (sIx j.size 0 lo)).take (sIx j.size j.size hi - sIx j.size 0 lo)).toArray } })
  (a2:j.size<=sizeLine):aI (aJ prog w) A (getItem (.ref t) (.ref I)) Q E s:=by
 have z:sizeOk (.seq ((j.toList.drop (sIx j.size 0 lo)).take (sIx j.size j.size hi - sIx j.size 0 lo)).toArray):=by
  show ((j.toList.drop (sIx j.size 0 lo)).take (sIx j.size j.size hi - sIx j.size 0 lo)).toArray.size<=sizeLine;rw [O3,cS,cV,eA];omega
 have hj:sIx j.size j.size hi<=j.size:=Qui _ _ (O7 _) hi;obtain ⟨os,O,G,a3⟩:=id hs;have U:s.TypeIs (.ref I) "slice" := ⟨os,O,G⟩;unfold getItem
 try with_reducible refine aw ?_
 first | refine aF (aR ?_) | skip
 refine aF (wpAny_sequenceKey B.typeIs (by decide) ?_);refine aF (wpAny_callSpecial?_slot (name:=bP "__getitem__") B.typeIs dX
  (bA dX B.typeIs entry_tuple_getitem ?_ (args_tuple_getitem _ _)))
 show aI _ _ (Builtin.Tuple.tupleItemsOf (.ref t) >>= _) _ _ s;refine aF (tupleItemsOf_ B ?_);refine aF (bH U ?_);rw [bK (by decide)];refine aF (yi hs pl pu ?_);have J:¬ ((((sIx j.size 0 lo:Nat):Int) == 0 && (1:Int) == 1 && (sIx j.size j.size hi - sIx j.size 0 lo) == j.size)=zb):=by
  intro q;rw [G7,G7] at q;have q1:((sIx j.size 0 lo:Nat):Int)=0:=eq_of_beq q.1.1;have q2:sIx j.size j.size hi - sIx j.size 0 lo=j.size:=eq_of_beq q.2;exact hw ⟨by omega,by omega⟩
 show aI _ _ (if (((sIx j.size 0 lo:Nat):Int) == 0 && (1:Int) == 1 && (sIx j.size j.size hi - sIx j.size 0 lo) == j.size)=zb then _ else _) _ _ s;rw [bL J,Qmy]
 first
  | exact aF (m:=Builtin.Tuple.tupleExact _) (ao (aR ⟨_,rfl,aR h⟩) z)
  | exact aF (m:=Builtin.Tuple.tupleExact _) (ao (aF (aR (aR ⟨_,rfl,aR h⟩))) z)
  | exact aF (aF (m:=Builtin.Tuple.tupleExact _) (ao (aR (aR ⟨_,rfl,aR h⟩)) z))
  | exact aF (aF (m:=Builtin.Tuple.tupleExact _) (ao (aR ⟨_,rfl,aR h⟩) z))
end
end HT
namespace L2
open PySem PySem.Spec PyProof.Rows
abbrev TO:=St->Hp->(Option Int->Hp->Prop)->Prop
def PO (X:Cx) (e:Option aD) (t:TO):Prop:=
 ∀ (pins:List (aA × Obj)) (s:aC) (σ:St) (H:Hp) (Q:Option Int->Hp->Prop),Inv X pins σ H s->t σ H Q ->
  aI (aJ X.prog X.w) X.A (evalPart e X.env) (fun u s'=>∃ o H',Inv X pins σ H' s'/\IsPart u o/\Q o H') X.xe s
def Qqe:TO:=fun _ H Q=>Q zl H
def Qxc (t:TE):TO:=fun σ H Q=>t σ H fun x H1=>∃ i,x=.int i/\Q (zo i) H1
theorem Q9d {ns:List Int}:∀ {us:List aB},Vals (ns.map V.int) us->IntsAre us ns:=by
 induction ns with
 | nil=>intro us r; rw [cp] at r; cases r; exact .nil
 | cons n ns j=>
  intro us r;rw [E9] at r;cases r with
  | cons r1 r2=>
   obtain ⟨t,e⟩:=r1;subst e;exact .cons n t (j r2)
section
variable {X:Cx} {e:aD} {te:TE} {lo hi:Option aD} {tl th:TO} {pos p2:Pos}
theorem Qr8:PO X zl Qqe:=by
 intro pins s σ H Q I h;rw [evalPart_none];exact aR ⟨zl,H,I,.none,h⟩
theorem Qr7 (h:PE X e te):PO X (zo e) (Qxc te):=by
 intro pins s σ H Q I z;rw [evalPart_some];refine thn (h pins s σ H _ I z) fun u s1 ⟨x,H1,j,r1,q1⟩=>?_
 obtain ⟨i,rfl,q⟩:=q1;obtain ⟨t,rfl⟩:=r1;exact ⟨zo i,H1,j,.int i t,q⟩
def SlR (X:Cx) (r:V->Option Int->Option Int->Hp->VK->Prop):Prop:=
 ∀ (pins:List (aA × Obj)) (s:aC) (σ:St) (H:Hp) (x:V) (v vl vu:aB) (lo hi:Option Int) (sl:aA) (Q:VK),Inv X pins σ H s->RelV x v->s.heap.IsSliceOf sl vl vu .none->IsPart vl lo->IsPart vu hi->r x lo hi H Q ->
  ∃ T id,typeLookup (.type T) "__getitem__" = pure (zo (.builtin id))/\s.TypeIs v T/\aI (aJ X.prog X.w) X.A (getItem v (.ref sl)) (EP X pins σ Q) X.xe s
theorem SlR.or {r J:V->Option Int->Option Int->Hp->VK->Prop} (h:SlR X r) (h':SlR X J):SlR X (fun x lo hi H Q=>r x lo hi H Q\/J x lo hi H Q):=by
 intro pins s σ H x v O z lo hi G Q I j hs pl B q;rcases q with q | q
 ·exact h pins s σ H x v O z lo hi G Q I j hs pl B q
 ·exact h' pins s σ H x v O z lo hi G Q I j hs pl B q
def tSl (r:V->Option Int->Option Int->Hp->VK->Prop) (te:TE) (tl th:TO):TE:=fun σ H Q=>te σ H fun x H1=>tl σ H1 fun l H2=>th σ H2 fun u H3=>r x l u H3 Q
theorem Qn2 {r:V->Option Int->Option Int->Hp->VK->Prop} (Y:SlR X r) (Z:PE X e te) (hl:PO X lo tl) (hu:PO X hi th):PE X (.Subscript e (.Slice lo hi zl p2) pos) (tSl r te tl th):=by
 intro pins s σ H Q I h;refine Subscript_ (thn (Z pins s σ H _ I h) fun v s1 ⟨x,H1,I1,r1,q1⟩=>?_)
 refine wpAny_Slice (thn (hl pins s1 σ H1 _ I1 q1) fun z s2 ⟨l,H2,G,pl,q2⟩=>thn (hu pins s2 σ H2 _ G q2) fun j s3 ⟨u,B,I3,J,q3⟩=>?_)
 rw [evalPart_none];refine aR ?_;have U:Inv X pins σ B { s3 with heap:=s3.heap.push { cls:=.type "slice",data:=.fields #[z,j,.none] } }:=I3.kept (t':=s3.toks) fun b ob q=>O1 _ q
 obtain ⟨T,id,hT,O,hg⟩:=Y pins { s3 with heap:=s3.heap.push { cls:=.type "slice",data:=.fields #[z,j,.none] } } σ B x v z j l u s3.heap.objs.size Q U r1 (Heap.IsSliceOf.new ..) pl J q3;show aI (aJ X.prog X.w) X.A (subscriptTail e (.Slice lo hi zl p2) v (.ref s3.heap.objs.size)) (EP X pins σ Q) X.xe { s3 with heap:=s3.heap.push { cls:=.type "slice",data:=.fields #[z,j,.none] } };exact tail_any (ops:=[.ref s3.heap.objs.size,v]) O hT hg (by with_unfolding_all rfl)
def Qfi (xs:List V) (lo hi:Option Int):List V:=(xs.drop (HT.sIx xs.length 0 lo)).take (HT.sIx xs.length xs.length hi - HT.sIx xs.length 0 lo)
theorem Q6f (xs:List V) (lo hi:Option Int):(Qfi xs lo hi).length<=xs.length:=by
 unfold Qfi;rw [cS,cV];omega
def J17 (K:bQ):V->Option Int->Option Int->Hp->VK->Prop:=fun x lo hi H Q=>∃ a xs,x=.ref a/\SqT K H a xs /\
 ¬ (HT.sIx xs.length 0 lo=0/\HT.sIx xs.length xs.length hi=xs.length)/\∀ p,H p=zl->Q (.ref p) (upd H p (.tup (Qfi xs lo hi)))
theorem sl_tup:SlR X (J17 X.K):=by
 intro pins s σ H x v Z U lo hi Y Q I B hs pl J h;obtain ⟨a,xs,rfl,G,O,q⟩:=h;cases B;obtain ⟨its,r,z,hz⟩:=I.tuple G;have j:its.toArray.size=xs.length:=by rw [O3]; exact r.length.symm
 refine ⟨"tuple",_,PyProof.Rows.slot_tuple_getitem.lookup,z.typeIs,?_⟩;refine HT.getItem_tuple_cut z hs pl J (by rw [j]; exact O) ?_ (by rw [j]; exact hz);rw [j];refine ⟨.ref s.heap.objs.size,_,I.laid (t':=s.toks) (o:=.tup (Qfi xs lo hi)) (fun b ob q=>O1 _ q) (O7 _) ?_,rfl,q _ (I.hok.fresh (O7 _))⟩;exact ⟨F2 (Q6f xs lo hi) hz,_,(r.drop (HT.sIx xs.length 0 lo)).take (HT.sIx xs.length xs.length hi - HT.sIx xs.length 0 lo),IsTup.new _ _⟩
def J1a (K:bQ):R2:=fun x y H Q=>∃ a b ns ms,x=.ref a/\y=.ref b/\SqT K H a (ns.map V.int)/\SqT K H b (ms.map V.int)/\Q (.bl (HT.lexLt ns ms)) H
theorem Qve (U:X.A.units < ac):OpR X (aV .Lt) (J1a X.K):=by
 intro pins s σ H x y v u Q I B Z h;obtain ⟨a,b,ns,ms,rfl,rfl,J,z,q⟩:=h;cases B;cases Z;obtain ⟨its,r1,G,_⟩:=I.tuple J;obtain ⟨j,r2,p2,_⟩:=I.tuple z;have Y:IntsAre its.toArray.toList ns:=Q9d r1;have O:IntsAre j.toArray.toList ms:=Q9d r2;exact HT.lt_tupInts G p2 Y O U ⟨.bl (HT.lexLt ns ms),H,I,rfl,q⟩
def Qt8 (K:bQ):R2:=fun x y H Q=>∃ a b xs ys,x=.ref a/\y=.ref b/\SqT K H a xs/\SqT K H b ys/\xs≠[]/\xs.length + ys.length<=sizeLine /\
 (ys=[]->Q (.ref a) H)/\(ys≠[]->∀ p,H p=zl->Q (.ref p) (upd H p (.tup (xs ++ ys))))
theorem Vals.nil_iff {xs:List V} {us:List aB} (r:Vals xs us):us=[] <-> xs=[]:=by
 cases r with
 | nil=>simp
 | cons _ _=>simp
theorem op_catT:OpR X (aW .Add) (Qt8 X.K):=by
 intro pins s σ H x y v u Q I G Y h;obtain ⟨a,b,xs,ys,rfl,rfl,U,B,J,hz,q1,q2⟩:=h;cases G;cases Y;obtain ⟨its,r1,O,_⟩:=I.tuple U;obtain ⟨j,r2,p2,_⟩:=I.tuple B;refine HT.cat_tup O p2 (fun z=>J (r1.nil_iff.mp z)) (fun z=>⟨.ref a,H,I,rfl,q1 (r2.nil_iff.mp z)⟩) (fun z=>?_) (by rw [<- r1.length,<- r2.length]; exact hz)
 refine ⟨.ref s.heap.objs.size,_,I.laid (t':=s.toks) (o:=.tup (xs ++ ys)) (fun b ob q=>O1 _ q) (O7 _) ?_,rfl,q2 (fun w=>z (r2.nil_iff.mpr w)) _ (I.hok.fresh (O7 _))⟩;exact ⟨by rw [D0]; exact hz,_,r1.append r2,IsTup.new _ _⟩
end
def ixN (n:Nat) (i:Int):Option Nat:=if 0<=i then (if i < n then zo i.toNat else zl) else if -(n:Int)<=i then zo (i + n).toNat else zl
def atI {α:Type} (xs:List α) (i:Int):Option α:=(ixN xs.length i).bind fun j=>xs[j]?
theorem Qid {n:Nat} {i:Int} {j:Nat} (h:ixN n i=zo j):seqIndex? i n=zo j/\j < n/\-(n:Int)<=i/\i < n:=by
 unfold ixN at h
 by_cases h0:0<=i
 ·rw [bK h0] at h
  by_cases h1:i < n
  ·rw [bK h1] at h;have e:i.toNat=j:=ba h;exact ⟨by rw [seqIndex_of h0 h1,e],by omega,by omega,h1⟩
  ·rw [bL h1] at h; cases h
 ·rw [bL h0] at h
  by_cases h1:-(n:Int)<=i
  ·rw [bK h1] at h;have e:(i + n).toNat=j:=ba h;exact ⟨by rw [seqIndex_neg (by omega) h1,e],by omega,h1,by omega⟩
  ·rw [bL h1] at h; cases h
theorem atI_get {α:Type} {xs:List α} {i:Int} {v:α} (h:atI xs i=zo v):∃ j,seqIndex? i xs.length=zo j/\xs[j]?=zo v/\j < xs.length/\-(xs.length:Int)<=i/\i < xs.length:=by
 unfold atI at h;cases e:ixN xs.length i with
 | none=>rw [e] at h; cases h
 | some j=>
  rw [e] at h;obtain ⟨h1,h2,z,q⟩:=Qid e;exact ⟨j,h1,h,h2,z,q⟩
theorem Qfu {α:Type} (xs:List α) (v:α):atI (xs ++ [v]) (-1)=zo v:=by
 have j:(xs ++ [v]).length=xs.length + 1:=by simp
 have e:ixN (xs ++ [v]).length (-1)=zo xs.length:=by
  unfold ixN;rw [j,bL (by decide),bK (by omega)];congr 1;omega
 unfold atI;rw [e];show (xs ++ [v])[xs.length]?=zo v;simp
def Qix (b:aD):Prop:=∀ o i,subscripted b za o i=operate [o,i] (getItem o i)
def IxR (X:Cx) (r:R2):Prop:=
 ∀ (value slice:aD) (pins:List (aA × Obj)) (s:aC) (σ:St) (H:Hp) (x y:V) (v u:aB) (Q:VK),Inv X pins σ H s->RelV x v->RelV y u->r x y H Q ->
  subscripted slice za v u=operate [v,u] (getItem v u)->aI (aJ X.prog X.w) X.A (subscriptTail value slice v u) (EP X pins σ Q) X.xe s
def MtR (X:Cx) (id:String) (r:V->List V->Hp->VK->Prop):Prop:=
 ∀ (pins:List (aA × Obj)) (s:aC) (σ:St) (H:Hp) (x:V) (xs:List V) (v:aB) (us:List aB) (Q:VK),Inv X pins σ H s->RelV x v->Vals xs us->r x xs H Q ->
  aI (aJ X.prog X.w) X.A (call (.builtin id) (v :: us)) (EP X pins σ Q) X.xe s
section
variable {X:Cx} {a b:aD} {ta tb:TE} {pos:Pos}
theorem IxR.or {r B:R2} (h:IxR X r) (h':IxR X B):IxR X (fun x y H Q=>r x y H Q\/B x y H Q):=by
 intro value j pins s σ H x y v u Q I z G q hs;rcases q with q | q
 ·exact h value j pins s σ H x y v u Q I z G q hs
 ·exact h' value j pins s σ H x y v u Q I z G q hs
theorem Qy6 {r:R2} (J:IxR X r) (G:PE X a ta) (j:PE X b tb) (hs:Qix b):PE X (.Subscript a b pos) (tOp r ta tb):=by
 intro pins s σ H Q I h;exact Subscript_ (Qwi G j I h fun v u s2 x y H2 z B O q=>J a b pins s2 σ H2 x y v u Q z B O q (hs _ _))
def Qxv (K:bQ):R2:=fun x y H Q=>∃ p xs i v,x=.ref p/\y=.int i/\SqL K H p xs/\atI xs i=zo v/\Q v H
def Qxt (K:bQ):R2:=fun x y H Q=>∃ p xs i v,x=.ref p/\y=.int i/\SqT K H p xs/\atI xs i=zo v/\Q v H
def Qxu:R2:=fun x y H Q=>∃ z i c,x=.str z/\y=.int i/\z.length<=sizeLine/\atI z.cps.toList i=zo c/\Q (.str ⟨#[c]⟩) H
theorem ix_list:IxR X (Qxv X.K):=by
 intro value B pins s σ H x y v u Q I Y ry h hs;obtain ⟨p,xs,i,z,rfl,rfl,hq,he,q⟩:=h;cases Y;obtain ⟨t,rfl⟩:=ry;obtain ⟨its,r,pl,hz⟩:=I.list hq;obtain ⟨j,h1,h2,h3,U,Z⟩:=atI_get he;obtain ⟨w,O,G⟩:=r.get h2;have hl:=r.length;have hn:=Q5n;have fin:EP X pins σ Q w s:=⟨z,H,I,G,q⟩
 by_cases h0:0<=i
 ·have J:i.toNat=j:=by
   rw [seqIndex_of h0 Z] at h1;exact ba h1
  exact item_listR pl.isList h0 (by omega) (by rw [J]; simpa using O) fin hs
 ·have J:(i + (its.toArray.size:Int)).toNat=j:=by
   rw [seqIndex_neg (by omega) U] at h1;rw [O3,<- hl];exact ba h1
  exact subscriptTail_builtinR (x:=w) pl.isList.typeIs slot_list_getitem.lookup
   (wpAny_getItem_list_neg (Q:=fun r s'=>r=w/\EP X pins σ Q r s') pl.isList (by omega) (by rw [O3] <;> omega) (by omega) (by rw [J]; simpa using O) ⟨rfl,fin⟩) hs
theorem ix_tup:IxR X (Qxt X.K):=by
 intro value B pins s σ H x y v u Q I O ry h hs;obtain ⟨p,xs,i,z,rfl,rfl,J,Y,q⟩:=h;cases O;obtain ⟨t,rfl⟩:=ry;obtain ⟨its,r,pl,hz⟩:=I.tuple J;obtain ⟨j,h1,h2,h3,h4,h5⟩:=atI_get Y;obtain ⟨w,U,G⟩:=r.get h2;have Z:=r.length;have hn:=Q5n;have fin:EP X pins σ Q w s:=⟨z,H,I,G,q⟩;exact subscriptTail_builtinR (x:=w) pl.typeIs slot_tuple_getitem.lookup
  (getItem_tuple (j:=j) (Q:=fun r s'=>r=w/\EP X pins σ Q r s') pl (by omega) (by omega) (by rw [O3,<- Z]; exact h1) (by simpa using U) ⟨rfl,fin⟩) hs
theorem Qw7:IxR X Qxu:=by
 intro value B pins s σ H x y v u Q I G Z h hs;obtain ⟨z,i,c,rfl,rfl,hz,O,q⟩:=h;obtain ⟨t,rfl⟩:=G;obtain ⟨t',rfl⟩:=Z;obtain ⟨j,h1,h2,h3,Y,J⟩:=atI_get O;have U:z.cps.toList.length=z.length:=by simp [Str.length]
 rw [U] at h1 Y J;have hn:=Q5n;exact tail_any (typeIs_str s z t) slot_str_getitem.lookup (getItem_str (c:=c) (by
  have e1:decide (i < -(2 ^ 63:Int))=za:=bN (by omega);have e2:decide (i>=2 ^ 63)=za:=bN (by omega);rw [e1,e2,Bool.or_false]) (by rw [h1]; simpa using h2) ⟨.str ⟨#[c]⟩,H,I.tok _,⟨_,rfl⟩,q⟩) hs
def rIx (K:bQ):R2:=fun x y H Q=>Qxv K x y H Q\/Qxt K x y H Q\/Qxu x y H Q
theorem Qw8:IxR X (rIx X.K):=ix_list.or (ix_tup.or Qw7)
theorem Qh0 (its:List aB) (n j:Nat) (u:aB):cr (·.setIfInBounds j u) { cls:=.type "list",data:=.seq its.toArray n }={ cls:=.type "list",data:=.seq (its.set j u).toArray n }:=by
 simp [cr]
theorem Inv.lst {pins:List (aA × Obj)} {σ:St} {H:Hp} {s:aC} {p:aA} {xs:List V} (I:Inv X pins σ H s) (h:H p=zo (.lst xs)) :
  ∃ (its:List aB) (n:Nat),Vals xs its/\s.heap.get? p=zo { cls:=.type "list",data:=.seq its.toArray n }/\xs.length<=sizeLine:=by
 obtain ⟨z,its,n,r,e⟩:=I.hok p _ h;exact ⟨its,n,r,e,z⟩
theorem Inv.lstUpd {pins:List (aA × Obj)} {σ:St} {H:Hp} {s:aC} {p:aA} {xs ys:List V} {its its':List aB} {n j:Nat} {f:Obj->Obj} (I:Inv X pins σ H s) (h:H p=zo (.lst xs))
  (G:s.heap.get? p=zo { cls:=.type "list",data:=.seq its.toArray n }) (z:f { cls:=.type "list",data:=.seq its.toArray n }={ cls:=.type "list",data:=.seq its'.toArray j }) (r:Vals ys its') (hz:ys.length<=sizeLine) (t:Nat) :
  Inv X pins σ (upd H p (.lst ys)) { s with heap:=s.heap.update p f,toks:=t }:=by
 have e:(s.heap.update p f).get? p=zo { cls:=.type "list",data:=.seq its'.toArray j }:=by
  rw [L6 f G (by rw [z] <;> rfl),z]
 refine I.write (x:=p) (e:=p) (by rw [h]; trivial) (.inl rfl) (fun b u B q=>(F0 _ _ (Ne.symm B)).trans q) ⟨_,e⟩ ?_
 exact ⟨hz,its',j,r,e⟩
def Qxr:V->V->V->Hp->(Hp->Prop)->Prop:=fun o i v H Q=>∃ p xs k j,o=.ref p/\i=.int k/\H p=zo (.lst xs)/\ixN xs.length k=zo j/\Q (upd H p (.lst (xs.set j v)))
theorem Qme:Qzu X Qxr:=by
 intro pins s σ H o i v ov iv u Q I ro ri Z h;obtain ⟨p,xs,k,j,rfl,rfl,hp,Y,q⟩:=h;cases ro;obtain ⟨t,rfl⟩:=ri;obtain ⟨its,n,r,B,hz⟩:=I.lst hp;obtain ⟨h1,h2,U,O⟩:=Qid Y;have G:=r.length;have hn:=Q5n;have J:Inv X pins σ (upd H p (.lst (xs.set j v))) { s with heap:=s.heap.update p (cr (·.setIfInBounds j u)) }:=
  I.lstUpd hp B (Qh0 its n j u) (r.set Z j) (by rw [D7]; exact hz) s.toks
 by_cases h0:0<=k
 ·have z:k.toNat=j:=by
   rw [seqIndex_of h0 O] at h1;exact ba h1
  exact PySem.W.ki_setAt B h0 (by omega) (by rw [O3,<- G]; exact O) (by rw [z]; exact ⟨_,J,q⟩)
 ·have z:(k + (its.toArray.size:Int)).toNat=j:=by
   rw [seqIndex_neg (by omega) U] at h1;rw [O3,<- G];exact ba h1
  exact PySem.W.ki_setBack B (by omega) (by rw [O3,<- G]; exact U) (by omega) (by rw [z]; exact ⟨_,J,q⟩)
theorem Qcb (lo hi:Option Int) (n:Nat):(bB lo hi zl n).1=((HT.sIx n 0 lo:Nat):Int)/\(bB lo hi zl n).2.1=((HT.sIx n n hi:Nat):Int)/\(bB lo hi zl n).2.2=1:=by
 refine ⟨?_,?_,rfl⟩
 ·cases lo with
  | none=>simp [bB,HT.sIx]
  | some i=>
   simp only [bB,HT.sIx,fk,show (1:Int) > 0 by decide,if_true]
   by_cases h:i < 0
   ·simp only [h,if_true] <;> omega
   ·simp only [h,if_false] <;> omega
 ·cases hi with
  | none=>simp [bB,HT.sIx]
  | some i=>
   simp only [bB,HT.sIx,fk,show (1:Int) > 0 by decide,if_true]
   by_cases h:i < 0
   ·simp only [h,if_true] <;> omega
   ·simp only [h,if_false] <;> omega
theorem Q9z (its:List aB) (lo hi:Option Int):slicePick its.toArray lo hi zl=((its.drop (HT.sIx its.length 0 lo)).take (HT.sIx its.length its.length hi - HT.sIx its.length 0 lo)).toArray:=by
 obtain ⟨h1,h2,j⟩:=Qcb lo hi its.toArray.size;unfold slicePick;rw [h1,h2,j];simp only [sliceRange_one,pick_run,O3] <;> rfl
def J18 (K:bQ):V->Option Int->Option Int->Hp->VK->Prop:=fun x lo hi H Q=>∃ a xs,x=.ref a/\SqL K H a xs/\∀ p,H p=zl->Q (.ref p) (upd H p (.lst (Qfi xs lo hi)))
theorem Qqk:SlR X (J18 X.K):=by
 intro pins s σ H x v Y O lo hi U Q I B hs pl J h;obtain ⟨a,xs,rfl,G,q⟩:=h;cases B;obtain ⟨its,r,z,hz⟩:=I.list G;have j:=r.length;refine ⟨"list",_,slot_list_getitem.lookup,z.isList.typeIs,?_⟩;refine wpAny_getItem_list_slice z.isList hs pl J .none (by simp) ?_ (by rw [O3] <;> omega);rw [Q9z,<- j];refine ⟨.ref s.heap.objs.size,_,I.laid (t':=s.toks) (o:=.lst (Qfi xs lo hi)) (fun b ob q=>O1 _ q) (O7 _) ?_,rfl,q _ (I.hok.fresh (O7 _))⟩;exact ⟨F2 (Q6f xs lo hi) hz,_,0,(r.drop (HT.sIx xs.length 0 lo)).take (HT.sIx xs.length xs.length hi - HT.sIx xs.length 0 lo),D6 _ rfl⟩
theorem Qdf:Ki X (.builtin "len") (fun xs H Q=>∃ p ys,xs=[.ref p]/\(SqL X.K H p ys\/SqT X.K H p ys)/\Q (.int ys.length) H):=by
 intro pins s σ H xs us Q I r h;obtain ⟨p,ys,rfl,z,q⟩:=h;obtain ⟨u,rfl,G⟩:=Q32 r;cases G;have J:=Q5n;rcases z with z | z
 ·obtain ⟨its,B,pl,hz⟩:=I.list z;have j:=B.length;exact Calls.call_len_list pl.isList (by simp only [O3] <;> omega) ⟨.int ys.length,H,I.tok _,⟨s.toks + 1,by rw [O3,j]⟩,q⟩
 ·obtain ⟨its,B,pl,hz⟩:=I.tuple z;have j:=B.length;exact len_tuple pl (by simp only [O3] <;> omega) ⟨.int ys.length,H,I.tok _,⟨s.toks + 1,by rw [O3,j]⟩,q⟩
theorem Qde:Ki X (.builtin "len") (fun xs H Q=>∃ z,xs=[.str z]/\z.length<=sizeLine/\Q (.int z.length) H):=by
 intro pins s σ H xs us Q I r h;obtain ⟨z,rfl,hz,q⟩:=h;obtain ⟨u,rfl,t,rfl⟩:=Q32 r;have j:=Q5n;exact len_str (by omega) ⟨.int z.length,H,I.tok _,⟨_,rfl⟩,q⟩
theorem Q38:Ki X (.type "tuple") (fun xs H Q=>∃ p ys,xs=[.ref p]/\((SqL X.K H p ys/\∀ l,H l=zl->Q (.ref l) (upd H l (.tup ys)))\/(SqT X.K H p ys/\Q (.ref p) H))):=by
 intro pins s σ H xs us Q I r h;obtain ⟨p,ys,rfl,h⟩:=h;obtain ⟨u,rfl,O⟩:=Q32 r;cases O;rcases h with ⟨j,q⟩ | ⟨j,q⟩
 ·obtain ⟨its,z,pl,hz⟩:=I.list j;have B:=z.length;refine call_tuple_list pl.isList (fun h' kp=>?_) (by simp only [O3] <;> omega);have G:Inv X pins σ H { s with heap:=h' }:=I.kept (t':=s.toks) kp;have J:Inv X pins σ (upd H h'.objs.size (.tup ys)) { s with heap:=h'.push { cls:=.type "tuple",data:=.seq its.toArray } }:=
   G.laid (t':=s.toks) (fun b o e=>O1 _ e) (O7 _) (show ObjOk X.prog X.w _ _ _ (.tup ys) from ⟨hz,its,z,IsTup.new _ _⟩)
  exact ⟨.ref h'.objs.size,_,J,rfl,q _ (G.hok.fresh (O7 _))⟩
 ·obtain ⟨its,z,pl,hz⟩:=I.tuple j;exact call_tuple_same pl ⟨.ref p,H,I,rfl,q⟩
def tyV (K:bQ) (T:String) (x:V) (H:Hp):Prop:=match x with
 | .str _=>T = "str"
 | .int _=>T = "int"
 | .ref p=>(T = "list" /\ ∃ xs,SqL K H p xs)\/(T = "tuple" /\ ∃ o,K.lookup p=zo o/\o.cls=.type "tuple" /\ o.dict=zl) \/
   (T = "dict" /\ ((∃ kvs,H p=zo (.dK kvs))\/∃ kvs,H p=zo (.dT kvs)))\/(T = "set" /\ ∃ S n,H p=zo (.set S n))
 | _=>False
theorem Qu3 {pins:List (aA × Obj)} {σ:St} {H:Hp} {s:aC} {T:String} {x:V} {v:aB} (I:Inv X pins σ H s) (r:RelV x v) (ty:tyV X.K T x H) :
  s.TypeIs v T/\∀ a,v=.ref a->∃ ob,s.heap.get? a=zo ob/\ob.dict=zl:=by
 cases x with
 | str z=>
  obtain ⟨t,rfl⟩:=r;cases (show T = "str" from ty);exact ⟨typeIs_str s z t,fun _ e=>nomatch e⟩
 | int i=>
  obtain ⟨t,rfl⟩:=r;cases (show T = "int" from ty);exact ⟨typeIs_int s i t,fun _ e=>nomatch e⟩
 | ref p=>
  cases r;rcases ty with ⟨rfl,xs,q⟩ | ⟨rfl,o,j,B,hd⟩ | ⟨rfl,j⟩ | ⟨rfl,S,n,j⟩
  ·obtain ⟨its,_,pl,_⟩:=I.list q;refine ⟨pl.isList.typeIs,fun a e=>?_⟩;cases e;obtain ⟨o,n,e,c,hd,_⟩:=pl;exact ⟨o,e,hd⟩
  ·refine ⟨⟨o,I.kIn p o j,B⟩,fun a e=>?_⟩
   cases e;exact ⟨o,I.kIn _ o j,hd⟩
  ·have z:∃ o,s.heap.get? p=zo o/\o.ExactDict:=by
    rcases j with ⟨kvs,j⟩ | ⟨kvs,j⟩
    ·obtain ⟨_,_,_,_,o,_,_,e,ex,_⟩:=I.hok p _ j;exact ⟨o,e,ex⟩
    ·obtain ⟨_,_,_,_,o,_,_,e,ex,_⟩:=I.hok p _ j;exact ⟨o,e,ex⟩
   obtain ⟨o,e,ex⟩:=z;refine ⟨⟨o,e,ex.1⟩,fun a e2=>?_⟩
   cases e2;exact ⟨o,e,ex.2.1⟩
  ·obtain ⟨o,_,_,_,e,ex,_⟩:=I.hok p _ j;refine ⟨⟨o,e,ex.1⟩,fun a e2=>?_⟩
   cases e2;exact ⟨o,e,ex.2.1⟩
 | _=>exact False.elim ty
def tBM (K:bQ) (T:String) (r:V->List V->Hp->VK->Prop) (to:TE) (t:TA):TE:=fun σ H Q=>to σ H fun x H1=>tyV K T x H1/\t σ H1 fun xs H2=>r x xs H2 Q
variable {o e:aD} {es:List aD} {to:TE} {t:TA} {name:Str} {apos cpos:Pos} {T id:String} {r:V->List V->Hp->VK->Prop}
theorem Qy7 (Y:PlainAttrs T) (slot:Slot T name id) (G:typeOf (.builtin id)=pure (.type "method_descriptor")) (U:MtR X id r) (ho:PE X o to) (ha:PA X (e :: es) t)
  (z:ai o name X.env (aM o X.env)=aM o X.env:=by rfl)
  (B:((aU cpos (aP (e :: es) X.env)).all (fun x=>!x.1) && (backToKw cpos (keywordEach [] X.env)).all (fun x=>x.1.isSome)
   && decide ((e :: es).length + ([]:List Keyword).length + (if ([]:List Keyword).isEmpty then 0 else 1) < 30))=zb:=by rfl)
  (q:(apos.endLine == cpos.line)=zb:=by rfl) (hs:aP (e :: es) X.env=(za,aM e X.env) :: aP es X.env:=by rfl) (j:(aU cpos (aP es X.env)).any (·.1)=za:=by rfl) :
  PE X (.Call (.Attribute o name apos) (e :: es) [] cpos) (tBM X.K T r to t):=by
 intro pins s σ H Q I h;refine wpAny_Call_method_late z B q rfl (thn (ho pins s σ H _ I h) fun v s1 ⟨x,H1,J,r1,ty,q1⟩=>?_)
 obtain ⟨h1,h2⟩:=Qu3 J r1 ty;refine ⟨T,id,Y,slot,G,h1,h2,?_⟩;have O:=ha cpos pins s1 σ H1 _ J q1;rw [hs] at O ⊢;refine Calls.callWith_builtin (by show (za || (aU cpos (aP es X.env)).any (·.1))=za; rw [j] <;> rfl) (Calls.evalArgs_plain ?_);exact thn O fun us s2 ⟨vs,H2,Z,r2,q2⟩=>U pins s2 σ H2 x vs v us Q Z r1 r2 q2
end
def MtM (X:Cx) (id:String) (r:V->List V->Hp->VK->Prop):Prop:=
 ∀ (pins:List (aA × Obj)) (s:aC) (σ:St) (H:Hp) (x:V) (xs:List V) (v:aB) (us:List aB) (Q:VK),Inv X pins σ H s->RelV x v->Vals xs us->r x xs H Q ->
  aI (aJ X.prog X.w) X.A (call (.builtin id) (v :: us)) (EP X pins σ Q) X.xe s
theorem Vals.one:∀ {x:V} {us:List aB},Vals [x] us->∃ u,us=[u]/\RelV x u
 | _,_,.cons r .nil=>⟨_,rfl,r⟩
theorem Vals.rep {xs:List V} {us:List aB} (h:Vals xs us):∀ k:Nat,Vals (bR k xs).flatten (bR k us).flatten
 | 0=>.nil
 | k + 1=>by
  rw [cI,cI,cW,cW];exact Vals.append h (Vals.rep h k)
theorem Q5t (its:List aB):∀ (k:Nat) (j:List aB),
  dY (fun z q=>z ++ q) j.toArray (bR k its.toArray)=(j ++ (bR k its).flatten).toArray
 | 0,j=>by simp
 | k + 1,j=>by
  have e:j.toArray ++ its.toArray=(j ++ its).toArray:=by simp
  have e2:(j ++ its) ++ (bR k its).flatten=j ++ (bR (k + 1) its).flatten:=by
   rw [cI,cW,cC]
  rw [<- e2,<- Q5t its k (j ++ its),<- e,cI,cu]
section
variable {X:Cx} {pins:List (aA × Obj)} {σ:St} {H:Hp} {s:aC} {l b:aA} {xs ys zs:List V}
theorem Inv.lset {its its':List aB} {n:Nat} {f:Array aB->Array aB} {t':Nat} (I:Inv X pins σ H s) (z:H l=zo (.lst xs))
  (e:s.heap.get? l=zo { cls:=.type "list",data:=.seq its.toArray n }) (B:f its.toArray=its'.toArray) (J:Vals ys its') (hz:ys.length<=sizeLine) :
  Inv X pins σ (upd H l (.lst ys)) { s with heap:=s.heap.update l (cr f),toks:=t' }:=by
 have q:=PySem.IsL.update e f;rw [B] at q;refine I.write (x:=l) (e:=l) (by rw [z]; exact trivial) (.inl rfl) (fun O u j G=>(F0 s.heap (cr f) (Ne.symm j)).trans G) ⟨_,q⟩ ?_
 exact ⟨hz,its',_,J,q⟩
theorem Inv.lnew {its:List aB} {t':Nat} (I:Inv X pins σ H s) (j:Vals ys its) (hz:ys.length<=sizeLine) :
  Inv X pins σ (upd H s.heap.objs.size (.lst ys)) { s with heap:=s.heap.push { cls:=.type "list",data:=.seq its.toArray },toks:=t' }:=
 I.laid (fun _ _ q=>O1 _ q) (O7 _) ⟨hz,its,0,j,D6 _ rfl⟩
theorem Inv.fresh (I:Inv X pins σ H s):H s.heap.objs.size=zl:=I.hok.fresh (O7 _)
theorem Inv.lstM (I:Inv X pins σ H s) (j:H l=zo (.lst xs)):xs.length<=sizeLine/\∃ (its:List aB) (n:Nat),Vals xs its/\xs.length=its.length/\s.heap.get? l=zo { cls:=.type "list",data:=.seq its.toArray n }:=by
 obtain ⟨z,its,n,r,e⟩:=I.hok l _ j;exact ⟨z,its,n,r,r.length,e⟩
theorem Qek {n:Nat} (h:n<=sizeLine):Builtin.List.listTooLong n=za:=by
 unfold Builtin.List.listTooLong;exact bN (by omega)
end
section
variable {X:Cx}
def Qqy:V->List V->Hp->VK->Prop:=fun x vs H Q=>∃ l xs y,x=.ref l/\vs=[y]/\H l=zo (.lst xs)/\xs.length < sizeLine/\Q .non (upd H l (.lst (xs ++ [y])))
theorem Qjw:MtM X "list.append" Qqy:=by
 intro pins s σ H x vs v us Q I B G h;obtain ⟨l,xs,y,rfl,rfl,j,hz,q⟩:=h;cases B;obtain ⟨u,rfl,J⟩:=G.one;obtain ⟨z,its,n,r,O,e⟩:=I.lstM j;refine au F.slot_list_append ⟨_,e,rfl⟩ F.entry_list_append (F.args_list_append_2 _ _) (fm l its.toArray n u (by rw [O3]; omega)) ⟨e,?_⟩;refine ⟨.non,_,I.lset (its':=its ++ [u]) j e (by simp) (r.append (.cons J .nil)) ?_,rfl,q⟩;rw [D0,eR];omega
def Qqx:V->List V->Hp->VK->Prop:=fun x vs H Q=>∃ l b xs zs,x=.ref l/\vs=[.ref b]/\H l=zo (.lst xs)/\H b=zo (.lst zs)/\xs.length + zs.length<=sizeLine/\Q .non (upd H l (.lst (xs ++ zs)))
theorem Qjv:MtM X "list.extend" Qqx:=by
 intro pins s σ H x vs v us Q I O Z h;obtain ⟨l,b,xs,zs,rfl,rfl,J,hB,hz,q⟩:=h;cases O;obtain ⟨u,rfl,ru⟩:=Z.one;cases ru;obtain ⟨z,its,n,r,hl,e⟩:=I.lstM J;obtain ⟨z2,j,Y,r2,U,e2⟩:=I.lstM hB;have G:its.toArray.size + j.toArray.size<=sizeLine:=by rw [O3,O3]; omega
 have B:¬ (!its.toArray.isEmpty && Builtin.List.listTooLong (its.toArray.size + j.toArray.size))=zb:=by
  rw [Qek G,dZ];exact D8
 refine au F.slot_list_extend ⟨_,e,rfl⟩ F.entry_list_extend (F.args_list_extend_2 _ _)
  (AutoSeq1.list_extend_list_list_0 l its.toArray n b j.toArray Y B (by rw [O3]; omega) (by omega)) ⟨e,e2,?_⟩
 refine ⟨.non,_,I.lset (its':=its ++ j) J e (by simp) (r.append r2) ?_,rfl,q⟩;rw [D0];omega
def J1b:R2:=fun x y H Q=>∃ l b xs zs,x=.ref l/\y=.ref b/\H l=zo (.lst xs)/\H b=zo (.lst zs)/\xs.length + zs.length<=sizeLine/\∀ p,H p=zl->Q (.ref p) (upd H p (.lst (xs ++ zs)))
theorem Qvf:OpR X (aW .Add) J1b:=by
 intro pins s σ H x y v u Q I G Y h;obtain ⟨l,b,xs,zs,rfl,rfl,J,U,hz,q⟩:=h;cases G;cases Y;obtain ⟨z,its,n,r,hl,e⟩:=I.lstM J;obtain ⟨z2,j,Z,r2,B,e2⟩:=I.lstM U;refine PySem.P.add_list e e2 ?_ (by rw [O3,O3]; omega);have O:its.toArray ++ j.toArray=(its ++ j).toArray:=by simp
 rw [O];exact ⟨.ref _,_,I.lnew (t':=s.toks) (r.append r2) (by rw [D0]; omega),rfl,q _ I.fresh⟩
def J19:R2:=fun x y H Q=>∃ l k xs,x=.ref l/\y=.int k/\H l=zo (.lst xs)/\-(2 ^ 63)<=k/\k < 2 ^ 63/\xs.length * k.toNat<=sizeLine /\
 ∀ p,H p=zl->Q (.ref p) (upd H p (.lst (bR k.toNat xs).flatten))
theorem Qd3 {α:Type} (xs:List α) (k:Nat):(bR k xs).flatten.length=k * xs.length:=by
 induction k with
 | zero=>simp
 | succ k j=>rw [cI,cW,D0,j,Nat.succ_mul,fo]
theorem Qva:OpR X (aW .Mult) J19:=by
 intro pins s σ H x y v u Q I rx ry h;obtain ⟨l,k,xs,rfl,rfl,hH,h1,h2,hz,q⟩:=h;cases rx;obtain ⟨t,rfl⟩:=ry;obtain ⟨z,its,n,r,hl,e⟩:=I.lstM hH;have G:its.toArray.size * k.toNat<=sizeLine:=by rw [O3,<- hl]; exact hz
 have O:¬ its.toArray.size * k.toNat > (2 ^ 63 - 1) / 8:=by
  have:(sizeLine:Nat)<=(2 ^ 63 - 1) / 8:=by decide
  omega
 have J:¬ (!Builtin.List.listFitsIndex k)=zb:=by
  rw [fitsIndex_both h1 h2];exact D8
 have j:¬ Builtin.List.listTooLong (its.toArray.size * k.toNat)=zb:=by
  rw [Qek G];exact D8
 have B:dY (fun Y Z=>Y ++ Z) #[] (bR (if its.toArray.isEmpty=zb then 0 else k.toNat) its.toArray)=(bR k.toNat its).flatten.toArray:=by
  have f0:∀ m:Nat,dY (fun Y Z=>Y ++ Z) #[] (bR m its.toArray)=(bR m its).flatten.toArray:=fun m=>by
   have:=Q5t its m [];rw [fq] at this;exact this
  rw [f0];cases its with
  | nil=>simp
  | cons a r'=>rw [bL (by simp)]
 refine wpAny_binaryOp_repeat_ref (T := "list") (U := "int") (by decide) ⟨_,e,rfl⟩ (fun s'=>typeIs_int s' k t) noFill_list_mul F.fills_int_mul F.slot_int_rmul repeat_list F.slot_int_index.lookup
  (au F.slot_int_rmul (typeIs_int s k t) F.entry_int_rmul (F.args_int_rmul_2 _ _) (int___rmul___int_list k t l its.toArray n)
   ⟨e,rfl,⟨_,e,rfl⟩,au F.slot_list_mul ⟨_,e,rfl⟩ F.entry_list_mul (F.args_list_mul_2 _ _) (AutoListH.list___mul___list_int_3 l its.toArray n k t J O j) ⟨e,?_⟩⟩)
 rw [B];exact ⟨.ref _,_,I.lnew (t':=s.toks) (r.rep k.toNat) (by rw [Qd3,eT]; exact hz),rfl,q _ I.fresh⟩
end
section
variable {prog:aN} {w:aL} {A:aQ} {E:aB->aC->Prop} {s:aC}
end
section
variable {X:Cx}
end
end L2
namespace Att
open PySem PySem.W PySem.Calls PyProof.Rows
theorem Q6y {P:Params} {h:Heap}:∀ (ns:List Int) (vs:List aB),WellAll P h vs (ns.map WData.int)->IntsAre vs ns:=by
 intro ns
 induction ns with
 | nil=>
  intro vs w;rw [cp] at w;cases w;exact .nil
 | cons n ns j=>
  intro vs w;rw [E9] at w;cases w with
  | cons a b=>
   cases a;exact .cons _ _ (j _ b)
theorem Qj8 {l:OpenLaw} {n:Nat} (hn:l.most=zo n) {P:Params} {h:Heap} {args:List WData} {z:List aB}
  (j:l.row.toRowW.claim.pre args=zb) (O:WellAll P h z args) :
  ∃ a vs ns,z=[bT a]/\args=[WData.list (ns.map WData.int)]/\h.get? a=zo { cls:=.type "list",data:=.seq vs.toArray }/\IntsAre vs ns/\ns.length<=n:=by
 have U:WShape.hasAll [] args [.list .int]=zb:=(pre_splitW j).1;have Y:l.pre.holds [] { args:=args }=zb:=(pre_splitW j).2;obtain ⟨d,r,rfl,h1,h2⟩:=hasAllW_cons U;obtain rfl:=hasAllW_nil h2;obtain ⟨xs,rfl,Z⟩:=hasW_list h1;obtain ⟨ns,rfl⟩:=items_int Z;have B:ns.length<=n:=by
  unfold OpenLaw.pre at Y;have J:(WTm.not (.lt (.lit (.int (n:Int))) (.len (.arg 0)))).holds [] { args:=[.list (ns.map .int)] }=zb:=by
   have J:=(holds_andW Y).1;rw [hn] at J;exact J
  have I:=condW_of J (w_not (w_lt w_lit (w_len_list (w_arg rfl))));rw [O2] at I;refine Nat.le_of_not_lt fun q=>?_
  have q':(n:Int) < ((ns.length:Nat):Int):=by omega
  first
   | (rw [bO q'] at I; exact absurd I (by decide))
   | (simp at I; omega)
 cases O with
 | cons w1 w2=>
  cases w2;cases w1 with
  | list ho G=>exact ⟨_,_,ns,rfl,rfl,ho,Q6y ns _ G,B⟩
theorem Qjg (l:OpenLaw) (args:List WData):l.row.toRowW.claim.post args (.bool zb) args=zb:=
 postW_of (r:=l.row.toRowW) (X:=(zb == zb))
  (show WShape.has [] (.bool zb) .bool=zb by first | rfl | decide | simp [WShape.has,WShape.arms,WShape.armsAll])
  (show (WTm.eq .res (.lit (.bool zb))).value [] { args:=args,res:=zo (.bool zb),after:=args }=zo (.bool (zb == zb)) from w_eq_bool (w_res rfl) w_lit) rfl
theorem attach_call {l:OpenLaw} {n:Nat} {q:aN} {z:List Str} {XP:(Str->Option aB)->Heap->Prop} {YP:aL->Heap->Prop} {d:DefRec}
  (hn:l.most=zo n) (a3:d.params.defaults=[])
  (call:∀ (w:aL) (s₀ j:aC) (mg mb:Str->Option aB) (O:aA) (o:Obj) (pm cd B:aB) (a:aA) (vs:List aB) (ns:List Int),
   Ground q z [] XP w s₀ mg mb j.heap->YP w j.heap ->
   j.heap.get? O=zo o->o.data=.func (docDef d.name d.params d.body d.scope pm cd B)->j.heap.CodeRec cd d.name->mg d.name=zo (.ref O) ->
   j.heap.get? a=zo { cls:=.type "list",data:=.seq vs.toArray }->IntsAre vs ns->ns.length<=n->j.gens=#[] ->
   codeAny (aJ l.prog w) callerA (.call (.ref O) ⟨[.ref a],[]⟩) (fun r s'=>r=.ok (.ret (.bool zb))/\OldK j.heap s'.heap/\s'.os=j.os/\AllBare s'.gens) j) :
  WalkO q z XP YP l.row.toRowW d [] (fun f vs=>eU f vs):=by
 intro w s₀ j mg mb G Y O o pm cd B dV kV ho hd a5 hD a4 hg args a7 as Z a6 a9 a2 a8;obtain rfl:dV=.none:=Dflts.none hD a3;obtain rfl:kV=.none:=Dflts.noKw hD;obtain ⟨a,vs,ns,rfl,rfl,U,I,J⟩:=Qj8 hn Z a2;refine enter_call (bE (call w s₀ j mg mb O o pm cd B a vs ns G Y ho (fd_plain hd) a5 a4 U I J hg) fun r s' hq=>?_)
 obtain ⟨rfl,h2,h3,h4⟩:=hq;exact ⟨.inl ⟨.bool zb,.bool zb,[],rfl,fun _=>rfl,.bool zb,Qjg l _,fun _=>⟨List.Pairwise.nil,fun _ hm=>(nomatch hm)⟩⟩,h2,h3,h4⟩
section
variable {prog:aN} {w:aL} {A:aQ} {E:aB->aC->Prop} {s:aC} {K:Frag}
end
end Att
namespace L2
open PySem PySem.Spec PyProof.Rows
theorem Qb1:∀ {vs:List aB} {ns:List Int},IntsAre vs ns->Vals (ns.map V.int) vs
 | _,_,.nil=>.nil
 | _,_,.cons n t h=>.cons ⟨t,rfl⟩ (Qb1 h)
def Qwq (H:Hp):Prop:=∀ b,H b=zl\/∃ o xs,H b=zo (.frz o (.lst xs))
theorem Qnu {P:aN} {w:aL} {K:bQ} {mg mb:Str->Option aB} {CX:CXT} {k:Nat} {fa a:aA} {fd:aO} {x:Str} {sp:Sp} {j:aC} {vs:List aB} {ns:List Int}
  (KX:K.In j.heap) (a2:j.heap.Ns aS mg) (G:j.heap.Ns builtinsNs mb) (a5:∀ x:Str,x≠"__name__" -> mb x=aa x) (Y:j.heap.NoLimit) (hg:j.gens=#[])
  (ha:j.heap.get? a=zo { cls:=.type "list",data:=.seq vs.toArray }) (hi:IntsAre vs ns) (hl:ns.length<=sizeLine) (hr:Room k callerA)
  (F:∀ base:Heap,K.In base->base.Ns aS mg->FnOk P w K mg base CX k fa fd [x] sp) (O:∀ (s:aC) (u:aB),BindsTo s fd ⟨[u],[]⟩ [(x,u)])
  (a8:∀ H:Hp,Qwq H->SqL K H a (ns.map V.int)->sp [.ref a] H (fun v _=>v=.bl zb) fun _ _ _=>False)
  (a6:∀ H e s',CX [] H j (fun _ _ _=>False) e s'->False) :
  codeAny (aJ P w) callerA (.call (.ref fa) ⟨[.ref a],[]⟩) (fun r s'=>r=.ok (.ret (.bool zb))/\OldK j.heap s'.heap/\s'.os=j.os/\AllBare s'.gens) j:=by
 have rv:=Qb1 hi;have Z:=hi.length;have J:∀ H:Hp,Qwq H->SqL K H a (ns.map V.int)->HOk P w H j.heap->(∀ b,H b≠zl->b=a)->(H a≠zl->K.lookup a=zl) ->
   codeAny (aJ P w) callerA (.call (.ref fa) ⟨[.ref a],[]⟩) (fun r s'=>r=.ok (.ret (.bool zb))/\OldK j.heap s'.heap/\s'.os=j.os/\AllBare s'.gens) j:=by
  intro H hO hS hok hA hK;have B:∀ {b:aA} {o:Obj},j.heap.get? b=zo o->H b=zl->(Qd7 j.heap H).get? b=zo o:=fun e n=>Qny e n
  have a7:∀ {b:aA} {o:Obj} {es:Array DictEntry} {ep:Nat},j.heap.get? b=zo o->o.data=.dict es ep->H b=zl:=fun {b o es ep} e d=>by
   cases q:H b with
   | none=>rfl
   | some u=>
    have e':b=a:=hA b (by rw [q]; simp);subst e';rw [ha] at e; cases e;have d':Data.seq vs.toArray _=Data.dict es ep:=d;cases d'
  have I:∀ {b:aA} {m:Str->Option aB},j.heap.Ns b m->(Qd7 j.heap H).Ns b m:=fun {b m} ⟨o,es,ep,e,d,r⟩=>⟨o,es,ep,B e (a7 e d),d,r⟩
  have a3:K.In (Qd7 j.heap H):=fun b o e=>B (KX b o e) (by
   cases q:H b with
   | none=>rfl
   | some u=>
    have e':b=a:=hA b (by rw [q]; simp);subst e';rw [hK (by rw [q]; simp)] at e; cases e)
  have hM:Mod K mg (Qd7 j.heap H):=⟨a3,I a2,⟨mb,I G,a5⟩,let ⟨mc,h1,h2⟩:=Y; ⟨mc,I h1,h2⟩⟩;have e0:Env0 P w K mg (Qd7 j.heap H) callerA [] j H:=⟨rfl,hM,fun b o e=>Qrx e,eI (Qke _ _),trivial,fun b G=>absurd (show b∈([]:List aA) from G) (by simp),hok,.of_eq hg⟩;refine bE ((F _ a3 (I a2)).run callerA [] j H ⟨[.ref a],[]⟩ [.ref a] [.ref a] _ _ hr e0 (O j (.ref a)) (.cons rfl .nil) (a8 H hO hS)) fun r s' h=>?_
  cases r with
  | error e=>exact (a6 H e s' h).elim
  | ok fl=>
   cases fl with
   | next=>exact False.elim h
   | brk=>exact False.elim h
   | cont=>exact False.elim h
   | ret u=>
    obtain ⟨v,H',os,bare,un,a4,r',q⟩:=h;have q':v=.bl zb:=q;subst q';obtain rfl:u=cE zb:=r';refine ⟨rfl,OldK.of_keep fun b o e=>?_,os,bare⟩;cases q:H b with
    | none=>exact un.keep b o e q (by intro z; exact absurd (show b∈([]:List aA) from z) (by simp)) (by simp)
    | some u=>
     rcases hO b with z | ⟨ob,xs,z⟩
     ·rw [q] at z; cases z
     ·have z2:=un.frzs b ob _ z;obtain ⟨e1,_⟩:=hok b _ z;obtain ⟨e2,_⟩:=a4 b _ z2;rw [e] at e1; cases e1;exact e2
 cases hk:K.lookup a with
 | some o=>
  have e:=KX a o hk;rw [ha] at e;cases e;refine J (fun _=>zl) (fun _=>.inl rfl) (.inr ⟨_,vs.toArray,_,hk,rfl,rfl,rfl,by rw [O3,Z]; exact hl,by simpa using rv⟩) (fun b u z=>by have U:(zl:Option HO)=zo u:=z; cases U) (fun b z=>absurd rfl z) fun z=>absurd rfl z
 | none=>
  refine J (fun b=>if b=a then zo (.frz { cls:=.type "list",data:=.seq vs.toArray } (.lst (ns.map V.int))) else zl) (fun b=>?_) (.inl (.inr ⟨{ cls:=.type "list",data:=.seq vs.toArray },bK rfl⟩)) (fun b u z=>?_) (fun b z=>?_) fun _=>hk
  ·by_cases G:b=a
   ·exact .inr ⟨_,_,bK G⟩
   ·exact .inl (bL G)
  ·by_cases G:b=a
   ·have U:=(bK G).symm.trans z;cases U;subst G;exact ⟨ha,by rw [O2]; exact hl,vs,_,rv,ha⟩
   ·have U:=(bL G).symm.trans z;cases U
  ·by_cases G:b=a
   ·exact G
   ·exact absurd (bL G) z
theorem walk_of {l:eV} {n k:Nat} {q:aN} {z:List Str} {XP:(Str->Option aB)->Heap->Prop} {YP:aL->Heap->Prop} {d:DefRec} {K:Params->bQ} {CX:aL->CXT} {sp:aL->Sp} {x:Str}
  (hn:l.most=zo n) (a4:n<=sizeLine) (Z:d.params.defaults=[]) (hr:Room k callerA)
  (hY:∀ (w:aL) (h:Heap),YP w h->(K w.params).In h)
  (F:∀ (w:aL) (mg:Str->Option aB) (O:aA) (h:Heap),(K w.params).In h->h.Ns aS mg->mg d.name=zo (.ref O) ->
   ∃ fd:aO,(∀ (s:aC) (u:aB),BindsTo s fd ⟨[u],[]⟩ [(x,u)]) /\
    ∀ base:Heap,(K w.params).In base->base.Ns aS mg->FnOk l.prog w (K w.params) mg base (CX w) k O fd [x] (sp w))
  (a3:∀ (w:aL) (H:Hp) (a:aA) (ns:List Int),ns.length<=n->Qwq H->SqL (K w.params) H a (ns.map V.int)->sp w [.ref a] H (fun v _=>v=.bl zb) fun _ _ _=>False)
  (U:∀ (w:aL) (H:Hp) (s:aC) (e:aB) (s':aC),CX w [] H s (fun _ _ _=>False) e s'->False) :
  ft q z XP YP l.row.toRowW d [] (fun f vs=>eU f vs):=by
 refine Att.attach_call hn Z fun w s₀ J mg mb O o pm cd a5 a vs ns G Y ho hd a6 a2 I B j hg=>?_
 have KX:=hY w _ Y;obtain ⟨fd,hb,hF⟩:=F w mg O _ KX G.T.g a2;exact Qnu KX G.T.g G.T.b G.T.builtins G.T.nolimit hg I B (F2 j a4) hr hF hb (fun H hO hS=>a3 w H a ns j hO hS) fun H e s'=>U w H J e s'
def Uq (s:aK) (j:Nat):aK:=match s with
 | .ClassDef _ _ _ body _ _ _ _ _ _ _=>body.getD j (.Pass ⟨0,0,0,0⟩)
 | _=>.Pass ⟨0,0,0,0⟩
def Yx (s:aK):Arguments:=match s with
 | .FunctionDef _ a _ _ _ _ _ _ _ _=>a
 | _=>{ posonlyargs:=[],args:=[],vararg:=zl,kwonlyargs:=[],kw_defaults:=[],kwarg:=zl,defaults:=[] }
def Zt (s:aK):List aK:=match s with
 | .FunctionDef _ _ b _ _ _ _ _ _ _=>b
 | _=>[]
def Qb (s:aK):Scope:=match s with
 | .FunctionDef _ _ _ _ _ _ sc _ _ _=>sc
 | _=>{ kind:=.function,names:=[],isGenerator:=za,isCoroutine:=za }
abbrev CX0:CXT:=fun _ _ _ _ _ _=>False
abbrev E0:XK:=fun _ _ _=>False
structure Fun (K:bQ) (x qual:Str) (st:aK) (f:aA) (fd:aO):Prop where
 ex:∃ (oc:aB) (od:Option aA) (kV doc pm:aB) (an:Option aA) (cdv ct:aB) (osl:Array (Option aB)),
  fd=bc x qual (Yx st) (Zt st) (Qb st) .none kV doc pm an cdv ct/\K.lookup f=zo ⟨oc,od,.func fd,osl⟩/\bx K cdv qual=zb
 kp:bg K (.ref f)=zb
section
variable {P:aN} {w:aL} {K:bQ} {mg:Str->Option aB} {base:Heap}
theorem Fun.ok {x qual:Str} {st:aK} {f:aA} {fd:aO} {N ps:List Str} {k:Nat} {sp:Sp} (F:Fun K x qual st f fd) (S:FnScope N ps (Qb st)) (len:∀ vs H Q E,sp vs H Q E->vs.length=ps.length)
  (z:∀ (j:aB) (A:aQ) (outer:List Env) (s:aC) (H:Hp) (vs:List V) (Q:VK) (E:XK),Room k (A.deeper (envOfC qual (Qb st) s.heap.objs.size f j))->sp vs H Q E ->
   ∃ t,PSs (Qhe CX0 P w K mg base N qual (Qb st) f j A outer s H E).nox (Zt st) t/\t { nx:=fun _ H'=>Q .non H',rt:=Q } (start N vs) H):FnOk P w K mg base CX0 (k + 1) f fd ps sp:=by
 obtain ⟨U,Y,kV,I,Z,an,j,ct,J,rfl,lk,G⟩:=F.ex;refine Qtv lk G S len fun A outer s H vs Q E O B=>?_
 obtain ⟨t,h,q⟩:=z j A outer s H vs Q E O B;exact ⟨t,h.nox,q⟩
theorem Fun.binds {x qual:Str} {st:aK} {f:aA} {fd:aO} {ps:List Str} (F:Fun K x qual st f fd)
  (h:∀ (kV j z:aB) (an:Option aA) (q ct:aB) (us:List aB),us.length=ps.length->bindArgs (bc x qual (Yx st) (Zt st) (Qb st) .none kV j z an q ct) ⟨us,[]⟩=pure (ps.zip us)):Binds K fd ps []:=by
 obtain ⟨I,J,kV,j,z,an,q,ct,B,rfl,lk,G⟩:=F.ex;exact .all (h kV j z an q ct)
theorem Qhb {x qual:Str} {st:aK} {f:aA} {G:aB} {I an:Option aA} {z:Array (Option aB)} {kV q B j ct:aB} (l:K.lookup f=zo ⟨G,I,.func (bc x qual (Yx st) (Zt st) (Qb st) .none kV q B an j ct),z⟩)
  (c:bx K j qual=zb) (k:bg K (.ref f)=zb):Fun K x qual st f (bc x qual (Yx st) (Zt st) (Qb st) .none kV q B an j ct):=⟨⟨G,I,kV,q,B,an,j,ct,z,rfl,l,c⟩,k⟩
end
section
variable {X:Cx}
theorem pv (i:Nat) {x:Str} {pos:Pos} (z:X.N[i]?=zo x:=by rfl) (q:Vis X.env.scope x:=by first | exact Or.inl rfl | exact Or.inr (Or.inl rfl) | exact Or.inr (Or.inr rfl)) (hd:(x == ("__debug__" : Str))=za:=by decide)
  (j:(x == ("__classdict__" : Str))=za:=by decide):PE X (.Name x pos) (Qu9 i):=Qn1 z q hd j
end
def Same (H H':Hp):Prop:=∀ b o,H b=zo o->H' b=zo o
theorem Same.refl (H:Hp):Same H H:=fun _ _ h=>h
section
variable {X:Cx} {tg:aD}
end
theorem Qhg {scope:Scope} {env:Env} (h:∀ x∈scope.names,x.2=.free->∃ c,env.cells.lookup x.1=zo c) :
  ∃ cl,closureFor scope env=pure cl/\(∀ x c,cl.lookup x=zo c->env.cells.lookup x=zo c)/\(∀ x∈scope.names,x.2=.free->∃ c,cl.lookup x.1=zo c):=by
 have a2:∀ (l:List (Str × aj)) (j:List (Str × aA)),(∀ x∈l,x.2=.free->∃ c,env.cells.lookup x.1=zo c)->(∀ x c,j.lookup x=zo c->env.cells.lookup x=zo c) ->
   ∃ cl,(forIn l j fun (x:Str × aj) (r:List (Str × aA))=>(match x with
    | (name,kind)=>if (kind == NameKind.free)=zb then (do let c <- cellOf env name; pure (ForInStep.yield ((name,c) :: r))) else (do pure PUnit.unit; pure (ForInStep.yield r)):Sem (ForInStep (List (Str × aA)))))=pure cl /\
    (∀ x c,cl.lookup x=zo c->env.cells.lookup x=zo c)/\(∀ x∈l,x.2=.free->∃ c,cl.lookup x.1=zo c)/\(∀ x c,j.lookup x=zo c->∃ B,cl.lookup x=zo B):=by
  intro l
  induction l with
  | nil=>intro j _ U; exact ⟨j,rfl,U,fun x J=>(by simp at J),fun x c e=>⟨c,e⟩⟩
  | cons x r ih=>
   intro j hl U;obtain ⟨n,k⟩:=x
   by_cases Z:k=.free
   ·subst Z;obtain ⟨c,hc⟩:=hl (n,.free) D1 rfl;have Y:∀ x B,((n,c) :: j).lookup x=zo B->env.cells.lookup x=zo B:=fun x B e=>by
     rw [E3] at e
     by_cases J:x=n
     ·subst J; simp at e; rw [<- e]; exact hc
     ·have:(x == n)=za:=by simpa using J
      rw [this] at e; exact U x B e
    obtain ⟨cl,e1,e2,e3,I⟩:=ih ((n,c) :: j) (fun y q=>hl y (O9 _ q)) Y
    refine ⟨cl,?_,e2,fun y q O=>?_,fun y B e=>?_⟩
    ·rw [da];have G:cellOf env n=pure c:=by unfold cellOf; rw [hc]
     simp only [beq_self_eq_true,if_true,G];exact e1
    ·rcases E5.mp q with e | q
     ·subst e;exact I n c (by simp)
     ·exact e3 y q O
    ·by_cases q:y=n
     ·subst q; exact I y c (by simp)
     ·have:(y == n)=za:=by simpa using q
      exact I y B (by rw [E3,this]; exact e)
   ·obtain ⟨cl,e1,e2,e3,I⟩:=ih j (fun y q=>hl y (O9 _ q)) U
    refine ⟨cl,?_,e2,fun y q O=>?_,I⟩
    ·rw [da];have:(k == NameKind.free)=za:=by simpa using Z
     simp only [this,fu,if_false];exact e1
    ·rcases E5.mp q with e | q
     ·subst e; exact absurd O Z
     ·exact e3 y q O
 obtain ⟨cl,e1,e2,e3,_⟩:=a2 scope.names [] h (fun x c e=>by simp at e);refine ⟨cl,?_,e2,e3⟩;unfold closureFor;exact (congrArg (fun z=>z >>= pure) e1).trans rfl
theorem Q4p (f:Str->aj->aj) (x:Str):∀ l:List (Str × aj),(l.map fun y=>(y.1,f y.1 y.2)).lookup x=(l.lookup x).map (f x)
 | []=>rfl
 | (n,k) :: r=>by
  have z:=Q4p f x r;rw [E9,E3,E3]
  by_cases j:x=n
  ·subst j; simp
  ·have q:(x == n)=za:=by simpa using j
   rw [q]; exact z
theorem Q1m {scope:Scope} {env:Env} {x:Str}:(relabel scope env).names.lookup x =
  (scope.names.lookup x).map fun k=>if (k == .free && env.scope.kind == .function && env.kindOf x == zo .cell) then .cell else k:=by
 rw [<- Q4p (fun n k=>if (k == .free && env.scope.kind == .function && env.kindOf n == zo .cell) then .cell else k)]
 unfold relabel;refine congrArg (bu x) (fw fun y _=>?_);obtain ⟨n,k⟩:=y;show (if (k == NameKind.free && env.scope.kind == .function && env.kindOf n == zo .cell)=zb then (n,NameKind.cell) else (n,k))=_
 split <;> rfl
def Q4u (cap:List (Option Nat)) (σ:St):St:=cap.map fun c=>c.bind fun j=>(σ[j]?).join
section
variable {prog:aN} {w:aL} {A:aQ} {R:Result->aC->Prop} {s:aC}
end
section
variable {X:Cx}
theorem HOk.same {P:aN} {w:aL} {H:Hp} {h h':Heap} {a:aA} (ok:HOk P w H h) (z:H a=zl) (hs:Heap.SameBut a h h'):HOk P w H h':=fun b ob e=>by
 refine (ok b ob e).stay (fun c B j q=>(hs.2 c ?_).trans q) (fun _ q=>q) fun _ _ q=>q
 rintro rfl;rcases j with rfl | j
 ·rw [z] at e; cases e
 ·rw [z] at j; cases j
end
def HasItems (t:Bool) (h:Heap) (a:aA) (items:Array aB):Prop:=if t=zb then h.IsTuple a items else h.IsList a items
def IterAt (t:Bool) (h:Heap) (it a:aA) (i:Nat):Prop:=if t=zb then h.IsTupleIter it a i else h.IsListIter it a i
theorem HasItems.at {t:Bool} {h h':Heap} {a:aA} {j:Array aB} (x:HasItems t h a j) (k:∀ o,h.get? a=zo o->h'.get? a=zo o):HasItems t h' a j:=by
 cases t
 ·exact Heap.IsList.at x k
 ·obtain ⟨o,e,r⟩:=x;exact ⟨o,k o e,r⟩
theorem HasItems.there {t:Bool} {h:Heap} {a:aA} {j:Array aB} (x:HasItems t h a j):∃ o,h.get? a=zo o:=by
 cases t
 ·obtain ⟨o,e,_⟩:=x; exact ⟨o,e⟩
 ·obtain ⟨o,e,_⟩:=x; exact ⟨o,e⟩
theorem IterAt.at {t:Bool} {h h':Heap} {j a:aA} {i:Nat} (x:IterAt t h j a i) (k:∀ o,h.get? j=zo o->h'.get? j=zo o):IterAt t h' j a i:=by
 cases t
 ·exact Heap.IsListIter.at x k
 ·obtain ⟨o,e,r⟩:=x;exact ⟨o,k o e,r⟩
theorem IterAt.there {t:Bool} {h:Heap} {j a:aA} {i:Nat} (x:IterAt t h j a i):∃ o,h.get? j=zo o/\∀ v,o.data≠.cell v:=by
 cases t
 ·obtain ⟨o,e,_,d⟩:=x; exact ⟨o,e,fun v z=>by rw [d] at z; cases z⟩
 ·obtain ⟨o,e,_,d⟩:=x; exact ⟨o,e,fun v z=>by rw [d] at z; cases z⟩
section
variable {prog:aN} {w:aL} {A:aQ} {E:aB->aC->Prop} {s:aC}
theorem Q4i {q l:aA} {i:Nat} {items} {x:aB} {Q:aB->aC->Prop} (j:s.heap.IsTupleIter q l i)
  (U:s.heap.IsTuple l items) (J:items[i]?=zo x)
  (O:∀ h',h'.IsTupleIter q l (i + 1)->Heap.SameBut q s.heap h'->Q x { s with heap:=h' }) :
  aI (aJ prog w) A (Builtin.SmallTypes.nextOf (.ref q)) Q E s:=by
 obtain ⟨o,z,I,hd⟩:=id j;obtain ⟨Y,G,_,nl,B⟩:=U;unfold Builtin.SmallTypes.nextOf;refine aF (wpAny_callSpecial?_slot (name:=bP "__next__") j.typeIs F.slot_tuple_iterator_next
  (bA F.slot_tuple_iterator_next j.typeIs F.entry_tuple_iterator_next ?_ (F.args_tuple_iterator_next_1 _)))
 show aI _ _ (field (.ref q) 0 >>= _) _ _ s;refine aF (aX z hd (x:=.ref l) rfl ?_);show aI _ _ (if (bT l == bZ)=zb then _ else _) _ _ s;rw [bL (show ¬ ((bT l == bZ)=zb) from D8)];show aI _ _ (field (.ref q) 1 >>= _) _ _ s;refine aF (aX z hd (x:=.int i 0) rfl ?_);show aI _ _ (seqItems? (.ref l) >>= _) _ _ s;refine aF (av G B ?_);simp only [cB,J];refine aF (wpAny_setField z hd (by simp) (aR ⟨x,rfl,aR (O _ ?_ (Heap.SameBut.update ..))⟩));exact ⟨_,L6 _ z (dF (cD hd _)),(eX ..).trans I,by
  rw [cD hd]; simp [aZ]⟩
theorem Q5k {q l:aA} {i:Nat} {items} {Q:aB->aC->Prop} (I:A.handled=zl)
  (j:s.heap.IsTupleIter q l i) (U:s.heap.IsTuple l items) (O:items[i]?=zl)
  (J:∀ h' e,Heap.ExtBut q s.heap h'->(∃ o,h'.get? e=zo o/\o.cls=.type "StopIteration")->E (.ref e) { s with heap:=h' }) :
  aI (aJ prog w) A (Builtin.SmallTypes.nextOf (.ref q)) Q E s:=by
 obtain ⟨o,z,Y,hd⟩:=id j;obtain ⟨Z,G,_,nl,B⟩:=U;unfold Builtin.SmallTypes.nextOf;refine aF (wpAny_callSpecial?_slot (name:=bP "__next__") j.typeIs F.slot_tuple_iterator_next
  (bA F.slot_tuple_iterator_next j.typeIs F.entry_tuple_iterator_next ?_ (F.args_tuple_iterator_next_1 _)))
 show aI _ _ (field (.ref q) 0 >>= _) _ _ s;refine aF (aX z hd (x:=.ref l) rfl ?_);show aI _ _ (if (bT l == bZ)=zb then _ else _) _ _ s;rw [bL (show ¬ ((bT l == bZ)=zb) from D8)];show aI _ _ (field (.ref q) 1 >>= _) _ _ s;refine aF (aX z hd (x:=.int i 0) rfl ?_);show aI _ _ (seqItems? (.ref l) >>= _) _ _ s;refine aF (av G B ?_);simp only [cB,O];refine aF (bI (aF (wpAny_setField z hd (by simp) ?_)));show aI _ _ (newExc (.type "StopIteration") [] >>= _) _ _ _;refine aF ?_;simp only [newExc,newTuple];refine aF (ao ?_ (by size_fits));refine aF (m:=firstArgMember _ _) (wpAny_of_eq (a:=bZ) (by first | rfl | (simp only [firstArgMember]; rfl)) ?_);refine ao ?_ (by size_fits);simp only [raiseNew]
 refine aF (wpAny_handled ?_)
 first | rw [show A.in1.handled=zl from I] | rw [I]
 refine aF (aR (wpAny_throw ?_));exact J _ _ (((Heap.SameBut.update ..).extBut.push _).push _) ⟨_,D6 _ rfl,rfl⟩
theorem jx {t:Bool} {z l:aA} {i:Nat} {j:Array aB} {x:aB} {Q:aB->aC->Prop} (q:IterAt t s.heap z l i)
  (I:HasItems t s.heap l j) (B:j[i]?=zo x)
  (G:∀ h',IterAt t h' z l (i + 1)->Heap.SameBut z s.heap h'->Q x { s with heap:=h' }) :
  aI (aJ prog w) A (Builtin.SmallTypes.nextOf (.ref z)) Q E s:=by
 cases t
 ·exact wpAny_nextOf_list_item q I B G
 ·exact Q4i q I B G
theorem Q0g {t:Bool} {z l:aA} {i:Nat} {j:Array aB} {Q:aB->aC->Prop} (J:A.handled=zl)
  (q:IterAt t s.heap z l i) (I:HasItems t s.heap l j) (G:j[i]?=zl)
  (B:∀ h' e,Heap.ExtBut z s.heap h'->(∃ o,h'.get? e=zo o/\o.cls=.type "StopIteration")->E (.ref e) { s with heap:=h' }) :
  aI (aJ prog w) A (Builtin.SmallTypes.nextOf (.ref z)) Q E s:=by
 cases t
 ·exact wpAny_nextOf_list_end J q I G B
 ·exact Q5k J q I G B
def Up (t:Bool) (l:aA):Obj:=if t=zb then { cls:=.type "tuple_iterator",data:=.fields #[.ref l,.int 0 0] } else { cls:=.type "list_iterator",data:=.fields #[.ref l,.int 0 0] }
theorem U4 {t:Bool} {l:aA} {j:Array aB} {Q:aB->aC->Prop} (z:HasItems t s.heap l j)
  (q:Q (.ref s.heap.objs.size) { s with heap:=s.heap.push (Up t l) }):aI (aJ prog w) A (pyIter (.ref l)) Q E s:=by
 cases t
 ·exact wpAny_pyIter_list z q
 ·exact bG z q
theorem Q3w {t:Bool} {h:Heap} {j l:aA} (e:h.get? j=zo (Up t l)):IterAt t h j l 0:=by
 cases t
 ·exact ⟨_,e,rfl,rfl⟩
 ·exact ⟨_,e,rfl,rfl⟩
theorem Q0u (t:Bool) (l:aA):(Up t l).isFreed=za:=by cases t <;> rfl
theorem Qiz {t1 t2:Bool} {z TI TO i1 i2 l1 l2:aA} {k1 k2:Nat} {xs ys:Array aB} {x y a b:aB} {Q:aB->aC->Prop} (D:ZipApart z TI TO i1 i2 l1 l2)
  (hz:IsZip s.heap z TI TO .none) (c9:aY s.heap TI (.ref i1) (.ref i2)) (d0:aY s.heap TO a b)
  (h1:IterAt t1 s.heap i1 l1 k1) (h2:IterAt t2 s.heap i2 l2 k2) (c8:HasItems t1 s.heap l1 xs) (d1:HasItems t2 s.heap l2 ys) (hx:xs[k1]?=zo x) (hy:ys[k2]?=zo y)
  (hQ:∀ h',IsZip h' z TI TO (aZ s.heap.objs.size)->aY h' TO x y->IterAt t1 h' i1 l1 (k1 + 1)->IterAt t2 h' i2 l2 (k2 + 1)->aY h' s.heap.objs.size x y->h'.objs.size=s.heap.objs.size + 1 ->
   (∀ c o,c≠z->c≠TO->c≠i1->c≠i2->s.heap.get? c=zo o->h'.get? c=zo o)->Q (.ref s.heap.objs.size) { s with heap:=h' }) :
  aI (aJ prog w) A (Builtin.«zip.__next__» ⟨[.ref z],[]⟩) (fun fin s'=>∃ v,fin=.done (.ret v)/\Q v s') E s:=by
 show aI _ _ (field (.ref z) 2 >>= _) _ _ _;refine aF (aX hz rfl (x:=.bool za) rfl ?_);show aI _ _ (field (.ref z) 3 >>= _) _ _ _;refine aF (aX hz rfl (x:=.ref TI) rfl ?_);refine aF (av c9 rfl ?_);show aI _ _ (Builtin.SmallTypes.ownedTupleIsFree (.ref z) >>= _) _ _ _;refine aF ?_;unfold Builtin.SmallTypes.ownedTupleIsFree;refine aF (aX hz rfl (x:=.none) rfl (aR ?_));simp only [if_true];refine aF (bI ?_);refine aF (aX hz rfl (x:=.ref TO) rfl ?_);refine aF (bF hz (by simp) fun b8 a5 q=>?_)
 replace a5:IsZip b8 z TI TO .ellipsis:=a5;refine aF ?_;simp only [fx,fy,da,eY];refine aF (aF (wpAny_onRaise ?_));show aI _ _ (Builtin.SmallTypes.nextOf (.ref i1) >>= _) _ _ _;refine aF (jx (h1.at fun o e=>q.extBut _ _ D.i1z e) (c8.at fun o e=>q.extBut _ _ D.l1z e) hx fun c6 b6 G=>aR ?_)
 have a6:aY c6 TO a b:=G.extBut _ _ D.TOi1 (q.extBut _ _ D.TOz d0);refine aF (av a6 rfl ?_);refine aF (wpAny_updateSeq_pair a6 fun b7 U B=>?_);replace U:aY b7 TO x b:=U;refine aF (wpAny_letGo (aR ?_));refine aF (aF (wpAny_onRaise ?_));show aI _ _ (Builtin.SmallTypes.nextOf (.ref i2) >>= _) _ _ _;refine aF (jx (h2.at fun o e=>B.extBut _ _ D.TOi2.symm (G.extBut _ _ D.i12.symm (q.extBut _ _ D.i2z e)))
  (d1.at fun o e=>B.extBut _ _ D.l2TO (G.extBut _ _ D.l2i1 (q.extBut _ _ D.l2z e))) hy fun c0 b4 O=>aR ?_)
 have a7:aY c0 TO x b:=O.extBut _ _ D.TOi2 U;refine aF (av a7 rfl ?_);refine aF (wpAny_updateSeq_pair a7 fun j I J=>?_);replace I:aY j TO x y:=I;refine aF (wpAny_letGo (aR (aR ?_)));refine aF (av I rfl ?_);refine aF (wpAny_newTuple ?_);have b9:j.objs.size=s.heap.objs.size:=by rw [J.1,O.1,B.1,G.1,q.1]
 have a8:IsZip j z TI TO .ellipsis:=J.extBut _ _ D.TOz.symm (O.extBut _ _ D.i2z.symm (B.extBut _ _ D.TOz.symm (G.extBut _ _ D.i1z.symm a5)));have b5:∀ c o,c≠z->c≠TO->c≠i1->c≠i2->s.heap.get? c=zo o->j.get? c=zo o:=fun c o c1 c2 c3 c4 e=>
  J.extBut _ _ c2 (O.extBut _ _ c4 (B.extBut _ _ c2 (G.extBut _ _ c3 (q.extBut _ _ c1 e))))
 have b3:IterAt t1 j i1 l1 (k1 + 1):=b6.at fun o e=>J.extBut _ _ D.TOi1.symm (O.extBut _ _ D.i12 (B.extBut _ _ D.TOi1.symm e))
 have b1:IterAt t2 j i2 l2 (k2 + 1):=b4.at fun o e=>J.extBut _ _ D.TOi2.symm e
 have b0:z < j.objs.size:=O8 a8;show aI _ _ (Builtin.SmallTypes.ownedTupleHandOut (.ref z) (.ref j.objs.size) >>= _) _ _ _;refine aF ?_;unfold Builtin.SmallTypes.ownedTupleHandOut;have b2:IsZip (j.push { cls:=.type "tuple",data:=.seq #[x,y] }) z TI TO .ellipsis:=O1 _ a8;refine aF (bF b2 (by simp) fun c5 a2 a3=>?_)
 replace a2:IsZip c5 z TI TO (aZ j.objs.size):=a2;refine bF a2 (by simp) fun Z Y a4=>?_
 replace Y:IsZip Z z TI TO (aZ j.objs.size):=Y;have up:∀ c o,c≠z->j.get? c=zo o->Z.get? c=zo o:=fun c o c1 e=>a4.extBut _ _ c1 (a3.extBut _ _ c1 (O1 _ e))
 have a9:aY Z j.objs.size x y:=a4.extBut _ _ (br b0) (a3.extBut _ _ (br b0) (D6 _ rfl));have c7:Z.objs.size=j.objs.size + 1:=by rw [a4.1,a3.1,F5]
 rw [b9] at Y a9 c7;refine aR ⟨_,rfl,?_⟩;show Q (.ref j.objs.size) _;rw [b9];exact hQ Z Y (up _ _ D.TOz I) (b3.at fun o e=>up _ o D.i1z e) (b1.at fun o e=>up _ o D.i2z e) a9 c7 fun c o c1 c2 c3 c4 e=>up c o c1 (b5 c o c1 c2 c3 c4 e)
theorem Qm1 {t1 t2:Bool} {z TI TO i1 i2 l1 l2:aA} {k1 k2:Nat} {xs ys:Array aB} {a b:aB} {Q:Fin->aC->Prop} (hh:A.handled=zl) (D:ZipApart z TI TO i1 i2 l1 l2)
  (hz:IsZip s.heap z TI TO .none) (b2:aY s.heap TI (.ref i1) (.ref i2)) (b3:aY s.heap TO a b)
  (h1:IterAt t1 s.heap i1 l1 k1) (h2:IterAt t2 s.heap i2 l2 k2) (a6:HasItems t1 s.heap l1 xs) (b4:HasItems t2 s.heap l2 ys) (b0:xs[k1]?=zl\/ys[k2]?=zl)
  (hE:∀ h' e,(∀ c o,c≠z->c≠TO->c≠i1->c≠i2->s.heap.get? c=zo o->h'.get? c=zo o)->(∃ o,h'.get? e=zo o/\o.cls=.type "StopIteration")->E (.ref e) { s with heap:=h' }) :
  aI (aJ prog w) A (Builtin.«zip.__next__» ⟨[.ref z],[]⟩) Q E s:=by
 show aI _ _ (field (.ref z) 2 >>= _) _ _ _;refine aF (aX hz rfl (x:=.bool za) rfl ?_);show aI _ _ (field (.ref z) 3 >>= _) _ _ _;refine aF (aX hz rfl (x:=.ref TI) rfl ?_);refine aF (av b2 rfl ?_);show aI _ _ (Builtin.SmallTypes.ownedTupleIsFree (.ref z) >>= _) _ _ _;refine aF ?_;unfold Builtin.SmallTypes.ownedTupleIsFree;refine aF (aX hz rfl (x:=.none) rfl (aR ?_));simp only [if_true];refine aF (bI ?_);refine aF (aX hz rfl (x:=.ref TO) rfl ?_);refine aF (bF hz (by simp) fun a7 G j=>?_)
 replace G:IsZip a7 z TI TO .ellipsis:=G;refine aF ?_;simp only [fx,fy,da,eY];refine aF (aF (wpAny_onRaise ?_));show aI _ _ (Builtin.SmallTypes.nextOf (.ref i1) >>= _) _ _ _;cases hx:xs[k1]? with
 | none=>
  refine aF (Q0g hh (h1.at fun o e=>j.extBut _ _ D.i1z e) (a6.at fun o e=>j.extBut _ _ D.l1z e) hx fun a2 e q he=>?_)
  obtain ⟨oe,I,Y⟩:=he;have O:IsZip a2 z TI TO .ellipsis:=q _ _ D.i1z.symm G;have a5:e≠z:=fun x=>by subst x; rw [O] at I; cases I; simp at Y
  refine bF O (by simp) fun a4 _ B=>hE a4 e (fun c o c1 _ c3 _ x=>B.extBut _ _ c1 (q _ _ c3 (j.extBut _ _ c1 x))) ⟨oe,B.extBut _ _ a5 I,Y⟩
 | some x=>
  have hy:ys[k2]?=zl:=by rcases b0 with h | h; rw [hx] at h; cases h; exact h
  refine aF (jx (h1.at fun o e=>j.extBut _ _ D.i1z e) (a6.at fun o e=>j.extBut _ _ D.l1z e) hx fun a2 b5 q=>aR ?_)
  have J:aY a2 TO a b:=q.extBut _ _ D.TOi1 (j.extBut _ _ D.TOz b3);refine aF (av J rfl ?_);refine aF (wpAny_updateSeq_pair J fun a4 b1 B=>?_);refine aF (wpAny_letGo (aR ?_));refine aF (aF (wpAny_onRaise ?_));show aI _ _ (Builtin.SmallTypes.nextOf (.ref i2) >>= _) _ _ _;refine aF (Q0g hh (h2.at fun o e=>B.extBut _ _ D.TOi2.symm (q.extBut _ _ D.i12.symm (j.extBut _ _ D.i2z e)))
   (b4.at fun o e=>B.extBut _ _ D.l2TO (q.extBut _ _ D.l2i1 (j.extBut _ _ D.l2z e))) hy fun a9 e Z he=>?_)
  obtain ⟨oe,I,Y⟩:=he;have a3:IsZip a9 z TI TO .ellipsis:=Z _ _ D.i2z.symm (B.extBut _ _ D.TOz.symm (q.extBut _ _ D.i1z.symm G));have a5:e≠z:=fun x=>by subst x; rw [a3] at I; cases I; simp at Y
  refine bF a3 (by simp) fun a8 _ U=>hE a8 e (fun c o c1 c2 c3 c4 x=>U.extBut _ _ c1 (Z _ _ c4 (B.extBut _ _ c2 (q.extBut _ _ c3 (j.extBut _ _ c1 x))))) ⟨oe,U.extBut _ _ a5 I,Y⟩
theorem Q8r {t1 t2:Bool} {z TI TO q j G B:aA} {k1 k2:Nat} {xs ys:Array aB} {x y a b:aB} {Q:Option aB->aC->Prop} (D:ZipApart z TI TO q j G B)
  (hz:IsZip s.heap z TI TO .none) (J:aY s.heap TI (.ref q) (.ref j)) (O:aY s.heap TO a b)
  (h1:IterAt t1 s.heap q G k1) (h2:IterAt t2 s.heap j B k2) (I:HasItems t1 s.heap G xs) (U:HasItems t2 s.heap B ys) (Z:xs[k1]?=zo x) (hy:ys[k2]?=zo y)
  (hQ:∀ h',IsZip h' z TI TO (aZ s.heap.objs.size)->aY h' TO x y->IterAt t1 h' q G (k1 + 1)->IterAt t2 h' j B (k2 + 1)->aY h' s.heap.objs.size x y->h'.objs.size=s.heap.objs.size + 1 ->
   (∀ c o,c≠z->c≠TO->c≠q->c≠j->s.heap.get? c=zo o->h'.get? c=zo o)->Q (zo (.ref s.heap.objs.size)) { s with heap:=h' }) :
  aI (aJ prog w) A (ar (.ref z)) Q E s:=by
 have Y:s.TypeIs (.ref z) "zip" := ⟨_,hz,rfl⟩;unfold ar;exact aF (wpAny_attempt (wpAny_callSpecial?_slot (name:=bP "__next__") Y F.slot_zip_next
  (bA F.slot_zip_next Y F.entry_zip_next
   (Qiz D hz J O h1 h2 I U Z hy fun h' a1 a2 a3 a4 a5 a6 a7=>aR (hQ h' a1 a2 a3 a4 a5 a6 a7)) (F.args_zip_next_1 _))))
theorem Qav {t1 t2:Bool} {z TI TO B q U J:aA} {k1 k2:Nat} {xs ys:Array aB} {a b:aB} {Q:Option aB->aC->Prop} (hh:A.handled=zl) (D:ZipApart z TI TO B q U J)
  (hz:IsZip s.heap z TI TO .none) (I:aY s.heap TI (.ref B) (.ref q)) (O:aY s.heap TO a b)
  (h1:IterAt t1 s.heap B U k1) (h2:IterAt t2 s.heap q J k2) (G:HasItems t1 s.heap U xs) (Y:HasItems t2 s.heap J ys) (j:xs[k1]?=zl\/ys[k2]?=zl)
  (hQ:∀ h',(∀ c o,c≠z->c≠TO->c≠B->c≠q->s.heap.get? c=zo o->h'.get? c=zo o)->Q zl { s with heap:=h' }):aI (aJ prog w) A (ar (.ref z)) Q E s:=by
 have Z:s.TypeIs (.ref z) "zip" := ⟨_,hz,rfl⟩;unfold ar;refine aF (wpAny_attempt (wpAny_callSpecial?_slot (name:=bP "__next__") Z F.slot_zip_next
  (bA F.slot_zip_next Z F.entry_zip_next (Qm1 hh D hz I O h1 h2 G Y j fun h' e hk he=>?_) (F.args_zip_next_1 _))))
 obtain ⟨o,ho,hc⟩:=he;refine aF (bJ (T := "StopIteration") (b:=zb) ⟨o,ho,hc⟩ isSubtype_stop ?_);exact aR (hQ _ hk)
end
def zH1 (t1:Bool) (h:Heap) (l1:aA):Heap:=h.push (Up t1 l1)
def zH2 (t1 t2:Bool) (h:Heap) (l1 l2:aA):Heap:=(zH1 t1 h l1).push (Up t2 l2)
def zH3 (t1 t2:Bool) (h:Heap) (l1 l2:aA):Heap:=(zH2 t1 t2 h l1 l2).push { cls:=.type "tuple",data:=.seq #[.ref h.objs.size,.ref (zH1 t1 h l1).objs.size] }
def zH4 (t1 t2:Bool) (h:Heap) (l1 l2:aA):Heap:=(zH3 t1 t2 h l1 l2).push { cls:=.type "tuple",data:=.seq #[.none,.none] }
def zH5 (t1 t2:Bool) (h:Heap) (l1 l2:aA):Heap:=(zH4 t1 t2 h l1 l2).push { cls:=.type "zip",data:=.fields #[.none,.bool za,.bool za,.ref (zH2 t1 t2 h l1 l2).objs.size,.ref (zH3 t1 t2 h l1 l2).objs.size] }
theorem Q8s (t1 t2:Bool) (j q:aA) (xs ys:Array aB) :
  Meets (Builtin.«zip.__new__» ⟨[.type "zip",.ref j,.ref q],[]⟩) (fun _ R s=>HasItems t1 s.heap j xs/\HasItems t2 s.heap q ys /\
   R (.ok (.ret (.ref (zH4 t1 t2 s.heap j q).objs.size))) { s with heap:=zH5 t1 t2 s.heap j q }):=
 .of_wp fun prog w A R s h=>by
  obtain ⟨hp,g,d,tk,os⟩:=s; obtain ⟨B,z,h⟩:=h;have J:=sub_zip;have I:HasItems t1 (Shared.heap ⟨hp,g,d,tk,os⟩) j xs:=B;have G:HasItems t2 (Shared.heap ⟨hp.push (Up t1 j),g,d,tk,os⟩) q ys:=z.at fun o e=>O1 _ e
  wp_walk using U4 I,U4 G
  exact ⟨_,rfl,h⟩
section
variable {prog:aN} {w:aL} {A:aQ} {E:aB->aC->Prop} {s:aC}
theorem Qkj {t1 t2:Bool} {j q:aA} {xs ys:Array aB} {Q:aB->aC->Prop} (G:HasItems t1 s.heap j xs) (z:HasItems t2 s.heap q ys)
  (h:∀ h',IsZip h' (s.heap.objs.size + 4) (s.heap.objs.size + 2) (s.heap.objs.size + 3) .none->aY h' (s.heap.objs.size + 2) (.ref s.heap.objs.size) (.ref (s.heap.objs.size + 1)) ->
   aY h' (s.heap.objs.size + 3) .none .none->IterAt t1 h' s.heap.objs.size j 0->IterAt t2 h' (s.heap.objs.size + 1) q 0->h'.objs.size=s.heap.objs.size + 5 ->
   (∀ c o,s.heap.get? c=zo o->h'.get? c=zo o)->Q (.ref (s.heap.objs.size + 4)) { s with heap:=h' }) :
  aI (aJ prog w) A (call (.type "zip") [.ref j,.ref q]) Q E s:=by
 refine callType_new F.called_zip (by decide) (F.typeCall_zip_2 _ _) (F.newCall_zip_2 _ _) (fun obj=>F.args_object_init_3 obj _ _) F.entry_zip_new
  (Q8s t1 t2 j q xs ys) ⟨G,z,?_⟩
 have O:(zH1 t1 s.heap j).objs.size=s.heap.objs.size + 1:=F5 ..;have I:(zH2 t1 t2 s.heap j q).objs.size=s.heap.objs.size + 2:=by unfold zH2; rw [F5,O]
 have U:(zH3 t1 t2 s.heap j q).objs.size=s.heap.objs.size + 3:=by unfold zH3; rw [F5,I]
 have J:(zH4 t1 t2 s.heap j q).objs.size=s.heap.objs.size + 4:=by unfold zH4; rw [F5,U]
 have z5:(zH5 t1 t2 s.heap j q).objs.size=s.heap.objs.size + 5:=by unfold zH5; rw [F5,J]
 have B:(zH5 t1 t2 s.heap j q).get? (zH4 t1 t2 s.heap j q).objs.size=zo { cls:=.type "zip",data:=.fields #[.none,.bool za,.bool za,.ref (zH2 t1 t2 s.heap j q).objs.size,.ref (zH3 t1 t2 s.heap j q).objs.size] }:=D6 _ rfl;have Z:(zH5 t1 t2 s.heap j q).get? (zH3 t1 t2 s.heap j q).objs.size=zo { cls:=.type "tuple",data:=.seq #[.none,.none] }:=O1 _ (D6 _ rfl);have Y:(zH5 t1 t2 s.heap j q).get? (zH2 t1 t2 s.heap j q).objs.size=zo { cls:=.type "tuple",data:=.seq #[.ref s.heap.objs.size,.ref (zH1 t1 s.heap j).objs.size] }:=O1 _ (O1 _ (D6 _ rfl));have g2:(zH5 t1 t2 s.heap j q).get? (zH1 t1 s.heap j).objs.size=zo (Up t2 q):=O1 _ (O1 _ (O1 _ (D6 _ (Q0u _ _))));have g1:(zH5 t1 t2 s.heap j q).get? s.heap.objs.size=zo (Up t1 j):=O1 _ (O1 _ (O1 _ (O1 _ (D6 _ (Q0u _ _)))));show _/\_;rw [I,U,J] at B;rw [O,I] at Y;rw [U] at Z;rw [O] at g2;rw [J];exact ⟨⟨_,B,rfl⟩,h _ B Y Z (Q3w g1) (Q3w g2) z5 fun c o x=>
  O1 _ (O1 _ (O1 _ (O1 _ (O1 _ x))))⟩
end
def SqK (K:bQ) (t:Bool) (H:Hp) (a:aA) (xs:List V):Prop:=if t=zb then SqT K H a xs else SqL K H a xs
section
variable {X:Cx} {pins:List (aA × Obj)} {σ:St} {H:Hp} {s:aC}
theorem Inv.seqK {t:Bool} {a:aA} {xs:List V} (I:Inv X pins σ H s) (h:SqK X.K t H a xs):∃ its:List aB,Vals xs its/\HasItems t s.heap a its.toArray/\xs.length<=sizeLine:=by
 cases t
 ·obtain ⟨its,r,p,z⟩:=I.list h;exact ⟨its,r,p.isList,z⟩
 ·obtain ⟨its,r,p,z⟩:=I.tuple h;exact ⟨its,r,p,z⟩
theorem Inv.seqK_inj {t:Bool} {a:aA} {xs ys:List V} (I:Inv X pins σ H s) (h:SqK X.K t H a xs) (h':SqK X.K t H a ys):xs=ys:=by
 cases t
 ·exact I.list_inj h h'
 ·exact I.tuple_inj h h'
theorem Inv.turnedL {t':Nat} {its:List aA} {h':Heap} (I:Inv X pins σ H s) (k:∀ b o,b∉its->s.heap.get? b=zo o->h'.get? b=zo o) (G:∀ b∈its,Q9w X pins H b):Inv X pins σ H { s with heap:=h',toks:=t' }:=by
 have B:∀ b u,H b=zo u->b∉its:=fun b u e z=>by rw [(G b z).1] at e; cases e
 refine I.step (g':=s.gens) (d':=s.drawn) (ch:=its) (fun b J=>?_) (fun b o _ _ j e _=>k b o j e) (fun b o _ _ j e _=>⟨o.slots,k b o j e⟩) (fun _ _ _ _ n=>n)
  (fun b o j e=>⟨o,k b o j e⟩) (fun _ _ e=>e) (fun _ _ _ e=>e) (fun b ps e=>⟨#[],by rw [e]; simp⟩) (fun m O=>?_) (fun b u e=>?_) I.bare
 ·obtain ⟨f0,f1,f2,U,f4,Y⟩:=G b J;exact ⟨U,f1,f4,Y⟩
 ·obtain ⟨o,es,ep,Z,r⟩:=O;exact ⟨o,es,ep,k _ o (fun z=>(G _ z).2.1 rfl) Z,r⟩
 ·refine (I.hok b u e).stay (fun c v j q=>k c v ?_ q) (fun _ q=>q) fun _ _ q=>q
  rcases j with z | z
  ·rw [z]; exact B b u e
  ·exact B c _ z
end
def Itz (K:bQ) (t1 t2:Bool) (a b:aA):It:=
 ⟨fun i H=>∃ xs ys x y,SqK K t1 H a xs/\SqK K t2 H b ys/\xs[i]?=zo x/\ys[i]?=zo y,
  fun i H v H'=>∃ p x y,H p=zl/\v=.ref p/\H'=upd H p (.tup [x,y])/\∀ xs ys,SqK K t1 H a xs->SqK K t2 H b ys->xs[i]?=zo x/\ys[i]?=zo y,
  fun i H=>∃ xs ys,SqK K t1 H a xs/\SqK K t2 H b ys/\(xs.length<=i\/ys.length<=i)⟩
def Qx4 (t1 t2:Bool) (z TI TO i1 i2 a b:aA) (i:Nat) (h:Heap):Prop:=
 IsZip h z TI TO .none/\aY h TI (.ref i1) (.ref i2)/\(∃ u v,aY h TO u v)/\IterAt t1 h i1 a i/\IterAt t2 h i2 b i
theorem Qbg {a b:aB}:∀ v,({ cls:=.type "tuple",data:=.seq #[a,b] }:Obj).data≠.cell v:=fun v z=>by cases z
theorem Qm9 {P:aN} {w:aL} {K:bQ} {elts:List aD} {k:Nat} {pos:Pos} {t1 t2:Bool} {z TI TO i1 i2 a b:aA} (D:ZipApart z TI TO i1 i2 a b) :
  Turn P w K (.Tuple elts k pos) (Itz K t1 t2 a b) [z,TI,TO,i1,i2] z (Qx4 t1 t2 z TI TO i1 i2 a b) where
 mem:=by simp
 obj:=fun i h st c j=>by
  obtain ⟨hz,B,⟨u,v,G⟩,h1,h2⟩:=st;simp at j;rcases j with rfl | rfl | rfl | rfl | rfl
  ·exact ⟨_,hz,fun v q=>by cases q⟩
  ·exact ⟨_,B,Qbg⟩
  ·exact ⟨_,G,Qbg⟩
  ·exact h1.there
  ·exact h2.there
 keep:=fun i h h' st kk=>by
  obtain ⟨hz,B,⟨u,v,G⟩,h1,h2⟩:=st;exact ⟨kk z (by simp) _ hz,kk TI (by simp) _ B,⟨u,v,kk TO (by simp) _ G⟩,h1.at fun o e=>kk i1 (by simp) o e,h2.at fun o e=>kk i2 (by simp) o e⟩
 item:=by
  intro X hP hw hK j i pins s σ H E I hf st hg;subst hP hw hK;obtain ⟨xs,ys,x,y,Y,O,hx,hy⟩:=hg;obtain ⟨hz,B,⟨u,v,G⟩,h1,h2⟩:=st;obtain ⟨its,rv,p,_⟩:=I.seqK Y;obtain ⟨b4,b0,p2,_⟩:=I.seqK O;obtain ⟨ux,b7,c2⟩:=rv.get hx;obtain ⟨uy,c3,c1⟩:=b0.get hy;refine Q8r D hz B G h1 h2 p p2 (x:=ux) (y:=uy) (by simpa using b7) (by simpa using c3) fun h' a1 a2 a3 a4 a5 a6 a7=>⟨_,rfl,?_⟩
  refine wpAny_letOwnedTupleGo_zip (s:={ s with heap:=h' }) a1 fun a8 b1 b2=>?_
  have b9:H s.heap.objs.size=zl:=I.fresh;have b8:z < s.heap.objs.size:=O8 hz;have c4:TI < s.heap.objs.size:=O8 B;have c6:TO < s.heap.objs.size:=O8 G;have c5:i1 < s.heap.objs.size:=by obtain ⟨o,e,_⟩:=h1.there; exact O8 e
  have c7:i2 < s.heap.objs.size:=by obtain ⟨o,e,_⟩:=h2.there; exact O8 e
  have U:Inv X pins σ H { s with heap:=a8 }:=I.turnedL (t':=s.toks) (its:=[z,TO,i1,i2]) (fun c o j e=>(b2.2 c (fun q=>j (by simp [q]))).trans (a7 c o (fun q=>j (by simp [q])) (fun q=>j (by simp [q])) (fun q=>j (by simp [q])) (fun q=>j (by simp [q])) e))
   fun c j=>hf c (by simp at j ⊢; rcases j with rfl | rfl | rfl | rfl <;> simp)
  have a9:aY a8 s.heap.objs.size ux uy:=(b2.2 _ (br b8)).trans a5;have J:H s.heap.objs.size=zl:=b9;have I2:Inv X pins σ (upd H s.heap.objs.size (.tup [x,y])) { s with heap:=a8 }:=by
   refine ⟨U.ok,U.os,U.bare,?_,U.loc,U.cell,?_,?_,?_,?_,U.len⟩
   ·have Z:=U.base;have old:∀ c o,X.s₀.heap.get? c=zo o->c≠s.heap.objs.size:=fun c o e=>D9 (D2 (O8 e) I.sz)
    exact ⟨Z.keep,Z.slot,fun c o e n hx=>by rw [Qj (old c o e)]; exact Z.free c o e n hx,Z.there,
     fun c ts e=>by have:=Z.tups c ts e; rw [Qj (Qm this J)]; exact this,
     fun c o ts e=>by have:=Z.frzs c o ts e; rw [Qj (Qm this J)]; exact this,
     fun c ps e=>by obtain ⟨more,q⟩:=Z.tbls c ps e; exact ⟨more,by rw [Qj (Qm q J)]; exact q⟩⟩
   ·rw [Qj (D9 I.lt)]; exact I.free
   ·intro x' c e;obtain ⟨v',q⟩:=I.cell x' c e;rw [Qj (D9 q.lt)]; exact I.freeC x' c e
   ·intro p' b6;obtain ⟨e,n,ne,nf,d⟩:=U.pin p' b6;have e0:=(I.pin p' b6).1;exact ⟨e,by rw [Qj (D9 (O8 e0))]; exact n,ne,nf,d⟩
   ·intro c o q
    by_cases b3:c=s.heap.objs.size
    ·subst b3;rw [Jg] at q; cases q;exact ⟨by simp only [D4,cH]; rw [sizeLine_eq]; decide,[ux,uy],.cons c2 (.cons c1 .nil),⟨_,a9,rfl,0,rfl⟩⟩
    ·rw [Qj b3] at q;exact (U.hok c o q).stay (fun _ _ _ r=>r) (fun c' r=>by rw [Qj (Qm r J)]; exact r) fun c' ts r=>by rw [Qj (Qm r J)]; exact r
  refine ⟨.ref s.heap.objs.size,_,I2,rfl,⟨s.heap.objs.size,x,y,J,rfl,rfl,fun c8 c9 q1 q2=>?_⟩,?_,fun c j=>?_⟩
  ·rw [I.seqK_inj q1 Y,I.seqK_inj q2 O]; exact ⟨hx,hy⟩
  ·exact ⟨b1,b2.extBut _ _ D.TIz (a7 _ _ D.TIz D.TITO D.TIi1 D.TIi2 B),⟨_,_,b2.extBut _ _ D.TOz a2⟩,a3.at fun o e=>b2.extBut _ _ D.i1z e,a4.at fun o e=>b2.extBut _ _ D.i2z e⟩
  ·have:=(hf c j).1;have c0:c < s.heap.objs.size:=by simp at j; rcases j with rfl | rfl | rfl | rfl | rfl <;> assumption
   rw [Qj (D9 c0)]; exact this
 done:=by
  intro X hP hw hK j i pins s σ H E I hf st hg;subst hP hw hK;obtain ⟨xs,ys,Y,O,b5⟩:=hg;obtain ⟨hz,B,⟨u,v,G⟩,h1,h2⟩:=st;obtain ⟨its,rv,p,_⟩:=I.seqK Y;obtain ⟨b4,b0,p2,_⟩:=I.seqK O;have l1:=rv.length;have l2:=b0.length;refine Qav (I.ok.hd j) D hz B G h1 h2 p p2 (b5.elim (fun h=>.inl (by simp; omega)) fun h=>.inr (by simp; omega)) fun h' kk=>⟨rfl,?_⟩
  exact I.turnedL (t':=s.toks) (its:=[z,TO,i1,i2]) (fun c o j e=>kk c o (fun q=>j (by simp [q])) (fun q=>j (by simp [q])) (fun q=>j (by simp [q])) (fun q=>j (by simp [q])) e)
   fun c j=>hf c (by simp at j ⊢; rcases j with rfl | rfl | rfl | rfl <;> simp)
 self:=fun _ _ _ _ _ st h=>wpAny_pyIter_zip st.1 h
section
variable {X:Cx}
def J1n (K:bQ) (t1 t2:Bool) (ta:TA):TI:=fun σ H R=>ta σ H fun vs H1=>∃ a b xs ys,vs=[.ref a,.ref b]/\SqK K t1 H1 a xs/\SqK K t2 H1 b ys/\R (Itz K t1 t2 a b) H1
theorem Qpu:aa "zip" = zo (.type "zip"):=by decide +kernel
theorem Quv (t1 t2:Bool) {a b:aD} {ta:TA} {p pos:Pos} {elts:List aD} {k:Nat} {tp:Pos} (hg:Gl X "zip") (hm:X.mg "zip" = zl) (ha:PA X [a,b] ta) (hs:aP [a,b] X.env=[(za,aM a X.env),(za,aM b X.env)]:=by rfl) (B:aP [b] X.env=[(za,aM b X.env)]:=by rfl) :
  PI X (.Tuple elts k tp) (.Call (.Name "zip" p) [a,b] [] pos) (J1n X.K t1 t2 ta):=by
 intro pins s σ H R I h;refine Call_ (Q3v I hg hm Qpu (dB (thn (ha pos pins s σ H _ I h) fun us s1 ⟨vs,H1,j,r1,q1⟩=>?_) (by rw [hs,B]) (by rw [B]; rfl)))
 obtain ⟨Z,Y,xs,ys,e,q1,q2,q⟩:=q1;subst e;cases r1 with
 | cons r J=>
  cases J with
  | cons r' J=>
   cases J;cases r;cases r';obtain ⟨its,rv,p1,_⟩:=j.seqK q1;obtain ⟨O,a3,p2,_⟩:=j.seqK q2;refine Qkj p1 p2 fun h' U z2 z3 z4 z5 z6 z7=>?_
   refine wpAny_pyIter_zip (s:={ s1 with heap:=h' }) U ?_;have a2:Z < s1.heap.objs.size:=by obtain ⟨o,e⟩:=p1.there; exact O8 e
   have a4:Y < s1.heap.objs.size:=by obtain ⟨o,e⟩:=p2.there; exact O8 e
   have D:ZipApart (s1.heap.objs.size + 4) (s1.heap.objs.size + 2) (s1.heap.objs.size + 3) s1.heap.objs.size (s1.heap.objs.size + 1) Z Y:=by
    constructor <;> (intro z; unfold aA at *; omega)
   refine ⟨_,[s1.heap.objs.size + 4,s1.heap.objs.size + 2,s1.heap.objs.size + 3,s1.heap.objs.size,s1.heap.objs.size + 1],_,_,H1,rfl,j.kept (t':=s1.toks) z7,Qm9 (t1:=t1) (t2:=t2) D,⟨U,z2,⟨_,_,z3⟩,z4,z5⟩,fun c hc=>?_,q⟩
   have G:s1.heap.objs.size<=c:=by simp at hc; unfold aA at *; omega
   exact j.fpOk G (j.hok.fresh G)
end
theorem Q7g {prog:aN} {w:aL} {A:aQ} (B:A.handled=zl) (t:Bool) (I q:aA) (z:q≠I) (j:Array aB) :
  Walks prog w A I [I,q] [I] j.size (fun i v=>j[i]?=zo v) (fun i h=>IterAt t h I q i/\HasItems t h q j):=by
 cases t
 ·exact Walks.list B I q z j
 ·exact Walks.tuple B I q z j
theorem Q4r {α:Type} (l:List α) (d:α) {n:Nat} (h:n < l.length):l.getD n d=l[n]:=by simp [bW,h]
theorem Qe9 (ns:List Int):preSum (fun j=>ns.getD j 0) ns.length=ns.sum:=by
 have z:∀ (k:Nat),k<=ns.length->preSum (fun j=>ns.getD j 0) k=(ns.take k).sum:=by
  intro k
  induction k with
  | zero=>intro _; rfl
  | succ k B=>
   intro G;show preSum _ k + ns.getD k 0=_;have q:k < ns.length:=by omega
   rw [B (by omega),List.take_succ,gA,Q4r _ _ q,O4 q];simp
 rw [z ns.length (O7 _),eZ]
section
variable {X:Cx} {pins:List (aA × Obj)} {σ:St} {H:Hp} {s:aC}
theorem Inv.movedNew {s':aC} (I:Inv X pins σ H s) {o:Obj} (m:Moved [s.heap.objs.size] (fun a b=>b=a) { s with heap:=s.heap.push o } s'):Inv X pins σ H s':=by
 obtain ⟨m1,m2,m3,j,q⟩:=m;obtain ⟨h',g',d',t',o'⟩:=s';have e1:g'=s.gens:=m2;have e2:d'=s.drawn:=m3;have e3:o'=s.os:=j;subst e1 e2 e3;refine I.kept (t':=t') fun b u e=>m1 b u (fun z=>?_) (O1 _ e)
 have:b=s.heap.objs.size:=by simpa using z
 exact absurd (O8 e) (by rw [this]; exact bo _)
theorem Q23 {ns:List Int} {its:List aB} (r:Vals (ns.map V.int) its):∀ (i:Nat) (v:aB),its.toArray[i]?=zo v->∃ t,v=cg (ns.getD i 0) t:=fun i v e=>by
 have j:its[i]?=zo v:=by simpa using e
 have hi:i < its.length:=(O0.mp j).1;have B:=r.length;rw [O2] at B;have z:(ns.map V.int)[i]?=zo (V.int (ns.getD i 0)):=by
  have:i < ns.length:=by omega
  simp [bW,this]
 obtain ⟨u,q,t,G⟩:=r.get z;rw [j] at q;cases q;exact ⟨t,G⟩
theorem Qbz {bs:List Bool} {its:List aB} (r:Vals (bs.map V.bl) its):∀ (i:Nat) (v:aB),its.toArray[i]?=zo v->v=cE (bs.getD i za):=fun i v e=>by
 have j:its[i]?=zo v:=by simpa using e
 have hi:i < its.length:=(O0.mp j).1;have B:=r.length;rw [O2] at B;have z:(bs.map V.bl)[i]?=zo (V.bl (bs.getD i za)):=by
  have:i < bs.length:=by omega
  simp [bW,this]
 obtain ⟨u,q,G⟩:=r.get z;rw [j] at q;cases q;exact G
theorem Um {t:Bool} {l:aA} {j:Array aB} (B:HasItems t s.heap l j):l≠s.heap.objs.size /\
  (IterAt t (s.heap.push (Up t l)) s.heap.objs.size l 0/\HasItems t (s.heap.push (Up t l)) l j)/\∀ b∈[s.heap.objs.size,l],b < (s.heap.push (Up t l)).objs.size:=by
 obtain ⟨o,e⟩:=B.there;have q:=O8 e;refine ⟨D9 q,⟨Q3w (D6 _ (Q0u _ _)),B.at fun o e=>O1 _ e⟩,fun b z=>?_⟩
 rw [F5];simp at z;rcases z with rfl | rfl
 ·exact cP _
 ·exact cX q
end
section
variable {X:Cx}
theorem Qpm (t:Bool) (J:X.calm=zb):Ki X (.builtin "sum") (fun xs H Q=>∃ (a:aA) (ns:List Int),xs=[.ref a]/\SqK X.K t H a (ns.map V.int)/\Q (.int ns.sum) H):=by
 intro pins s σ H xs us Q I r h;obtain ⟨a,ns,rfl,O,q⟩:=h;obtain ⟨u,rfl,r1⟩:=Q32 r;cases r1;obtain ⟨its,z,p,_⟩:=I.seqK O;obtain ⟨Y,U,G⟩:=Um p;have B:=z.length;rw [O2] at B;refine call_sum_walkAnyS (U4 p ⟨_,_,_,_,_,_,_,fun j=>ns.getD j 0,rfl,(Q7g (A:=X.A.in1) (I.ok.hd J) t _ a Y its.toArray).toS,U,G,Q23 z,fun s' t' m=>?_⟩);refine ⟨.int ns.sum,H,I.movedNew m,⟨t',?_⟩,q⟩;rw [O3,<- B,Qe9]
theorem Qjc (bs:List Bool):(bS bs.length).all (fun i=>bs.getD i za)=bs.all id:=by
 induction bs with
 | nil=>rfl
 | cons b r j=>
  rw [D4,ec,cY,ee,cY,<- j];rfl
theorem Qjb (bs:List Bool):(bS bs.length).any (fun i=>bs.getD i za)=bs.any id:=by
 induction bs with
 | nil=>rfl
 | cons b r j=>
  rw [D4,ec,db,df,db,<- j];rfl
theorem Qpp (t:Bool) (G:X.calm=zb):Ki X (.builtin "all") (fun xs H Q=>∃ (a:aA) (bs:List Bool),xs=[.ref a]/\SqK X.K t H a (bs.map V.bl)/\Q (.bl (bs.all id)) H):=by
 intro pins s σ H xs us Q I r h;obtain ⟨a,bs,rfl,J,q⟩:=h;obtain ⟨u,rfl,r1⟩:=Q32 r;cases r1;obtain ⟨its,z,p,_⟩:=I.seqK J;obtain ⟨Y,O,w3⟩:=Um p;have B:=z.length;rw [O2] at B;refine call_all_walkS (U4 p ⟨_,_,_,_,_,_,_,fun j=>bs.getD j za,rfl,(Q7g (A:=X.A.in1) (I.ok.hd G) t _ a Y its.toArray).toS,O,fun i v s' Q' E' Z U=>?_,fun s' m=>?_⟩)
 ·rw [Qbz z i v Z];exact am U
 ·refine ⟨.bl (bs.all id),H,I.movedNew m,?_,q⟩;show cE _=_;rw [O3,<- B,Qjc]
theorem Qpn (t:Bool) (G:X.calm=zb):Ki X (.builtin "any") (fun xs H Q=>∃ (a:aA) (bs:List Bool),xs=[.ref a]/\SqK X.K t H a (bs.map V.bl)/\Q (.bl (bs.any id)) H):=by
 intro pins s σ H xs us Q I r h;obtain ⟨a,bs,rfl,J,q⟩:=h;obtain ⟨u,rfl,r1⟩:=Q32 r;cases r1;obtain ⟨its,z,p,_⟩:=I.seqK J;obtain ⟨Y,O,w3⟩:=Um p;have B:=z.length;rw [O2] at B;refine call_any_walkS (U4 p ⟨_,_,_,_,_,_,_,fun j=>bs.getD j za,rfl,(Q7g (A:=X.A.in1) (I.ok.hd G) t _ a Y its.toArray).toS,O,fun i v s' Q' E' Z U=>?_,fun s' m=>?_⟩)
 ·rw [Qbz z i v Z];exact am U
 ·refine ⟨.bl (bs.any id),H,I.movedNew m,?_,q⟩;show cE _=_;rw [O3,<- B,Qjb]
theorem Qkn (t:Bool) (Y:X.calm=zb):Ki X (.builtin "max") (fun xs H Q=>∃ (a:aA) (ns:List Int),xs=[.ref a]/\SqK X.K t H a (ns.map V.int)/\ns≠[]/\∀ m,m∈ns->(∀ k,k∈ns->k<=m)->Q (.int m) H):=by
 intro pins s σ H xs us Q I r h;obtain ⟨a,ns,rfl,hq,G,q⟩:=h;obtain ⟨u,rfl,r1⟩:=Q32 r;cases r1;obtain ⟨its,z,p,_⟩:=I.seqK hq;obtain ⟨w1,w2,O⟩:=Um p;have hl:=z.length;rw [O2] at hl;have hpos:0 < ns.length:=cv.mpr G;refine call_max_walkS (U4 p ⟨_,_,_,_,_,_,_,_,rfl,(Q7g (A:=X.A.in1) (I.ok.hd Y) t _ a w1 its.toArray).toS,w2,O,by rw [O3]; omega,CmpOf.ints_gt (fun j=>ns.getD j 0) (fun i v B=>Q23 z i v B),fun v s' B m=>?_⟩);obtain ⟨t',rfl⟩:=Q23 z _ _ B;obtain ⟨h1,h2⟩:=argBest_gt (fun j=>ns.getD j 0) (its.toArray.size - 1);have J:argBest (fun i j=>decide (ns.getD i 0 > ns.getD j 0)) (its.toArray.size - 1) < ns.length:=by
  have Z:its.toArray.size=ns.length:=by rw [O3]; omega
  rw [Z] at h1 ⊢;exact gB h1 (by omega)
 refine ⟨.int (ns.getD (argBest (fun i j=>decide (ns.getD i 0 > ns.getD j 0)) (its.toArray.size - 1)) 0),H,I.movedNew m,⟨t',rfl⟩,q _ ?_ fun k U=>?_⟩
 ·rw [Q4r _ _ J];exact dg J
 ·obtain ⟨j,hj,rfl⟩:=cZ.mp U;have:=h2 j (by rw [O3]; omega);rw [Q4r _ _ hj] at this;exact this
theorem Qkk (t:Bool) (Y:X.calm=zb):Ki X (.builtin "min") (fun xs H Q=>∃ (a:aA) (ns:List Int),xs=[.ref a]/\SqK X.K t H a (ns.map V.int)/\ns≠[]/\∀ m,m∈ns->(∀ k,k∈ns->m<=k)->Q (.int m) H):=by
 intro pins s σ H xs us Q I r h;obtain ⟨a,ns,rfl,hq,G,q⟩:=h;obtain ⟨u,rfl,r1⟩:=Q32 r;cases r1;obtain ⟨its,z,p,_⟩:=I.seqK hq;obtain ⟨w1,w2,O⟩:=Um p;have hl:=z.length;rw [O2] at hl;have hpos:0 < ns.length:=cv.mpr G;refine call_min_walkS (U4 p ⟨_,_,_,_,_,_,_,_,rfl,(Q7g (A:=X.A.in1) (I.ok.hd Y) t _ a w1 its.toArray).toS,w2,O,by rw [O3]; omega,CmpOf.ints_lt (fun j=>ns.getD j 0) (fun i v B=>Q23 z i v B),fun v s' B m=>?_⟩);obtain ⟨t',rfl⟩:=Q23 z _ _ B;obtain ⟨h1,h2⟩:=argBest_lt (fun j=>ns.getD j 0) (its.toArray.size - 1);have J:argBest (fun i j=>decide (ns.getD i 0 < ns.getD j 0)) (its.toArray.size - 1) < ns.length:=by
  have Z:its.toArray.size=ns.length:=by rw [O3]; omega
  rw [Z] at h1 ⊢;exact gB h1 (by omega)
 refine ⟨.int (ns.getD (argBest (fun i j=>decide (ns.getD i 0 < ns.getD j 0)) (its.toArray.size - 1)) 0),H,I.movedNew m,⟨t',rfl⟩,q _ ?_ fun k U=>?_⟩
 ·rw [Q4r _ _ J];exact dg J
 ·obtain ⟨j,hj,rfl⟩:=cZ.mp U;have:=h2 j (by rw [O3]; omega);rw [Q4r _ _ hj] at this;exact this
end
theorem Qwc {prog:aN} {w:aL} {A:aQ} (U:A.handled=zl) (t:Bool) (B l:aA) (G:l≠B) (j:Array aB) :
  Draws prog w A B [B,l] j.size (fun i v=>j[i]?=zo v) (fun i h=>IterAt t h B l i/\HasItems t h l j) where
 live:=fun _ _ st=>let ⟨o,e,_⟩:=st.1.there; ⟨o,e⟩
 frame:=fun _ _ _ st I=>⟨st.1.at fun o e=>I B (by simp) o e,st.2.at fun o e=>I l (by simp) o e⟩
 item:=fun i s Q E hi st O=>by
  refine jx st.1 st.2 (x:=j[i]) (by simp [hi]) fun h' q z=>?_
  exact O _ h' s.toks (by simp [hi]) ⟨q,st.2.at fun o e=>z.extBut _ _ G e⟩ z
 done:=fun s Q E st J=>Q0g U st.1 st.2 (by simp) J
theorem Qey (l:aA) (j:Array aB) (n:Nat) (B:Option aA) (I:Array (Option aB)) :
  Meets (Builtin.«enumerate.__new__» ⟨[.type "enumerate",.ref l],[]⟩) (fun _ R s=>s.heap.get? l=zo { cls:=.type "tuple",dict:=B,data:=.seq j n,slots:=I } /\
   R (.ok (.ret (.ref (s.heap.push { cls:=.type "tuple_iterator",data:=.fields #[.ref l,.int 0 0] }).objs.size)))
    { s with heap:=(s.heap.push { cls:=.type "tuple_iterator",data:=.fields #[.ref l,.int 0 0] }).push { cls:=.type "enumerate",data:=.fields #[.none,.bool za,.ref s.heap.objs.size,aZ 0,.none,.none] } }):=
 .of_wp fun prog w A R s h=>by
  obtain ⟨hp,g,d,tk,os⟩:=s; obtain ⟨q,h⟩:=h;have G:=sub_enumerate;have z:Heap.IsTuple (Shared.heap ⟨hp,g,d,tk,os⟩) l j:=⟨_,q,rfl,n,rfl⟩
  wp_walk using AutoSeq1.wpAny_loadPart' q
  refine wpAny_stack_any fun st=>aR ?_
  split
  ·rename_i c _ _ _ _ _;cases (c == dO "enumerate")
   ·wp_walk using AutoSeq1.wpAny_loadPart' q,bG z
    exact ⟨_,rfl,h⟩
   ·wp_walk using AutoSeq1.wpAny_loadPart' q,bG z
    exact ⟨_,rfl,h⟩
  ·wp_walk using AutoSeq1.wpAny_loadPart' q,bG z
   exact ⟨_,rfl,h⟩
section
variable {prog:aN} {w:aL} {A:aQ} {E:aB->aC->Prop} {s:aC}
theorem Qhi {l:aA} {j:Array aB} {Q:aB->aC->Prop} (B:s.heap.IsTuple l j)
  (h:∀ h',IsEnum h' (s.heap.objs.size + 1) s.heap.objs.size 0 .none->h'.IsTupleIter s.heap.objs.size l 0->h'.objs.size=s.heap.objs.size + 2 ->
   (∀ b o,s.heap.get? b=zo o->h'.get? b=zo o)->Q (.ref (s.heap.objs.size + 1)) { s with heap:=h' }) :
  aI (aJ prog w) A (call (.type "enumerate") [.ref l]) Q E s:=by
 obtain ⟨⟨c,q,I,G⟩,hl,hc,n,hd⟩:=B;replace hc:c=.type "tuple" := hc;replace hd:I=.seq j n:=hd;subst hc hd;refine callType_new F.called_enumerate (by decide) (F.typeCall_enumerate_1 _) (F.newCall_enumerate_1 _) (fun obj=>F.args_object_init_2 obj _) F.entry_enumerate_new
  (Qey l j n q G) ⟨hl,?_⟩
 have hz:(s.heap.push { cls:=.type "tuple_iterator",data:=.fields #[.ref l,.int 0 0] }).objs.size=s.heap.objs.size + 1:=F5 ..;show _/\_;rw [hz];have z:IsEnum ((s.heap.push { cls:=.type "tuple_iterator",data:=.fields #[.ref l,.int 0 0] }).push
   { cls:=.type "enumerate",data:=.fields #[.none,.bool za,.ref s.heap.objs.size,aZ 0,.none,.none] }) (s.heap.objs.size + 1) s.heap.objs.size 0 .none:=by
  have:=D6 (s.heap.push { cls:=.type "tuple_iterator",data:=.fields #[.ref l,.int 0 0] })
   (o:={ cls:=.type "enumerate",data:=.fields #[.none,.bool za,.ref s.heap.objs.size,aZ 0,.none,.none] }) rfl
  rw [hz] at this; exact this
 refine ⟨⟨_,z,rfl⟩,h _ z ⟨_,O1 _ (D6 _ rfl),rfl,rfl⟩ (by rw [F5,hz]) fun b o x=>O1 _ (O1 _ x)⟩
theorem Qhj {t:Bool} {l:aA} {j:Array aB} {Q:aB->aC->Prop} (q:HasItems t s.heap l j)
  (h:∀ h',IsEnum h' (s.heap.objs.size + 1) s.heap.objs.size 0 .none->IterAt t h' s.heap.objs.size l 0->h'.objs.size=s.heap.objs.size + 2 ->
   (∀ b o,s.heap.get? b=zo o->h'.get? b=zo o)->Q (.ref (s.heap.objs.size + 1)) { s with heap:=h' }) :
  aI (aJ prog w) A (call (.type "enumerate") [.ref l]) Q E s:=by
 cases t
 ·exact call_enumerate_list q h
 ·exact Qhi q h
end
def Ite (K:bQ) (t:Bool) (a:aA):It:=
 ⟨fun i H=>∃ xs x,SqK K t H a xs/\xs[i]?=zo x,
  fun i H v H'=>∃ p x,H p=zl/\v=.ref p/\H'=upd H p (.tup [.int i,x])/\∀ xs,SqK K t H a xs->xs[i]?=zo x,
  fun i H=>∃ xs,SqK K t H a xs/\xs.length<=i⟩
theorem Inv.tracks {X:Cx} {pins:List (aA × Obj)} {σ:St} {H:Hp} {s s1:aC} {p:aA} {xs:List V} {its:List aB} (I:Inv X pins σ H s) (j:Inv X pins σ H s1) (hp:s.heap.objs.size<=p) (G:H p=zl) (Z:Vals xs its) (hz:xs.length<=sizeLine)
  (ht:IsTup s1.heap p its.toArray):Inv X pins σ (upd H p (.tup xs)) s1:=by
 refine ⟨j.ok,j.os,j.bare,?_,j.loc,j.cell,?_,?_,?_,?_,j.len⟩
 ·have z:=j.base;have old:∀ c o,X.s₀.heap.get? c=zo o->c≠p:=fun c o e=>D9 (D2 (O8 e) (F2 I.sz hp))
  exact ⟨z.keep,z.slot,fun c o e n Y=>by rw [Qj (old c o e)]; exact z.free c o e n Y,z.there,
   fun c ts e=>by have:=z.tups c ts e; rw [Qj (Qm this G)]; exact this,
   fun c o ts e=>by have:=z.frzs c o ts e; rw [Qj (Qm this G)]; exact this,
   fun c ps e=>by obtain ⟨more,q⟩:=z.tbls c ps e; exact ⟨more,by rw [Qj (Qm q G)]; exact q⟩⟩
 ·rw [Qj (D9 (D2 I.lt hp))]; exact I.free
 ·intro O c e;obtain ⟨v',q⟩:=I.cell O c e;rw [Qj (D9 (D2 q.lt hp))]; exact I.freeC O c e
 ·intro p' B;obtain ⟨e,n,ne,nf,d⟩:=j.pin p' B;have U:=(I.pin p' B).1;exact ⟨e,by rw [Qj (D9 (D2 (O8 U) hp))]; exact n,ne,nf,d⟩
 ·intro c o q
  by_cases J:c=p
  ·subst J;rw [Jg] at q; cases q;exact ⟨hz,its,Z,ht⟩
  ·rw [Qj J] at q;exact (j.hok c o q).stay (fun _ _ _ r=>r) (fun c' r=>by rw [Qj (Qm r G)]; exact r) fun c' ts r=>by rw [Qj (Qm r G)]; exact r
def Qwb (t:Bool) (e it a:aA) (i:Nat) (h:Heap):Prop:=(∃ old,IsEnum h e it i old)/\IterAt t h it a i
theorem Qj2 {P:aN} {w:aL} {K:bQ} {elts:List aD} {k:Nat} {pos:Pos} {t:Bool} {e J a:aA} (Y:e≠J) (a8:a≠e) (a7:a≠J) :
  Turn P w K (.Tuple elts k pos) (Ite K t a) [e,J] e (Qwb t e J a) where
 mem:=by simp
 obj:=fun i h st c hc=>by
  obtain ⟨⟨old,G⟩,h1⟩:=st;simp at hc;rcases hc with rfl | rfl
  ·exact ⟨_,G,fun v q=>by cases q⟩
  ·exact h1.there
 keep:=fun i h h' st kk=>by
  obtain ⟨⟨old,G⟩,h1⟩:=st;exact ⟨⟨old,kk e (by simp) _ G⟩,h1.at fun o q=>kk J (by simp) o q⟩
 item:=by
  intro X hP hw hK hc i pins s σ H E I hf st hg;subst hP hw hK;obtain ⟨xs,x,O,hx⟩:=hg;obtain ⟨⟨old,G⟩,h1⟩:=st;obtain ⟨its,rv,p,_⟩:=I.seqK O;obtain ⟨ux,a5,b0⟩:=rv.get hx;have b1:i < its.toArray.size:=by rw [O3]; exact (O0.mp a5).1
  refine wpAny_pyNext_enum_itemD (Qwc (A:=X.A.in1) (I.ok.hd hc) t J a a7 its.toArray) G ⟨h1,p⟩ b1 Y (by simp; exact ⟨Y,fun z=>a8 z.symm⟩) fun x' h' tk a3 ho b2 hT b5 hk=>⟨_,rfl,?_⟩
  have:x'=ux:=by
   have e1:its[i]?=zo x':=by simpa using a3
   rw [a5] at e1; exact (ba e1).symm
  subst this;refine wpAny_letOwnedTupleGo_enum (s:={ s with heap:=h',toks:=tk + 1 }) ho fun a4 a2 B=>?_
  have elt:e < s.heap.objs.size:=O8 G;have b6:J < s.heap.objs.size:=by obtain ⟨o,q,_⟩:=h1.there; exact O8 q
  have a6:H s.heap.objs.size=zl:=I.fresh;have I1:Inv X pins σ H { s with heap:=a4,toks:=tk + 1 }:=I.turnedL (its:=[e,J]) (fun c o j q=>(B.2 c (fun z=>j (by simp [z]))).trans (hk c o (fun z=>j (by simp [z])) (fun z=>j (by simp [z])) q)) fun c j=>hf c j
  have Z:a4.get? s.heap.objs.size=zo { cls:=.type "tuple",data:=.seq #[.int i tk,x'] }:=(B.2 _ (br elt)).trans hT;have I2:=I.tracks (xs:=[.int i,x]) (its:=[.int i tk,x']) I1 (O7 _) a6 (.cons ⟨tk,rfl⟩ (.cons b0 .nil)) (by simp only [D4,cH]; rw [sizeLine_eq]; decide) ⟨_,Z,rfl,0,rfl⟩;refine ⟨.ref s.heap.objs.size,_,I2,rfl,⟨s.heap.objs.size,x,a6,rfl,rfl,fun b4 q1=>?_⟩,?_,fun c j=>?_⟩
  ·rw [I.seqK_inj q1 O]; exact hx
  ·exact ⟨⟨x',by simpa using a2⟩,b2.1.at fun o q=>B.extBut _ _ (Ne.symm Y) q⟩
  ·have:=(hf c j).1;have a9:c < s.heap.objs.size:=by simp at j; rcases j with rfl | rfl <;> assumption
   rw [Qj (D9 a9)]; exact this
 done:=by
  intro X hP hw hK hc i pins s σ H E I hf st hg;subst hP hw hK;obtain ⟨xs,O,b3⟩:=hg;obtain ⟨⟨old,G⟩,h1⟩:=st;obtain ⟨its,rv,p,_⟩:=I.seqK O;have hl:=rv.length;have hT:s.TypeIs (.ref e) "enumerate" := ⟨_,G,rfl⟩;unfold ar;refine aF (wpAny_attempt (wpAny_callSpecial?_slot (name:=bP "__next__") hT F.slot_enumerate_next
   (bA F.slot_enumerate_next hT F.entry_enumerate_next ?_ (F.args_enumerate_next_1 _))))
  show aI _ _ (field (.ref e) 2 >>= _) _ _ _;refine aF (aX G rfl (x:=.ref J) rfl ?_);refine aF (Q0g (I.ok.hd hc) h1 p (by simp; omega) fun h' x a2 a3=>?_)
  obtain ⟨o,ho,j⟩:=a3;refine aF (bJ (T := "StopIteration") (b:=zb) ⟨o,ho,j⟩ isSubtype_stop ?_);exact aR ⟨rfl,I.turnedL (t':=s.toks) (its:=[J]) (fun c o U q=>a2 c o (fun z=>U (by simp [z])) q) fun c U=>hf c (by simp at U; simp [U])⟩
 self:=fun _ _ _ _ _ st h=>by
  obtain ⟨⟨old,G⟩,_⟩:=st;exact wpAny_pyIter_enum G h
section
variable {X:Cx}
def Qz3 (K:bQ) (t:Bool) (ta:TA):TI:=fun σ H R=>ta σ H fun vs H1=>∃ a xs,vs=[.ref a]/\SqK K t H1 a xs/\R (Ite K t a) H1
theorem Q9s:aa "enumerate" = zo (.type "enumerate"):=by decide +kernel
theorem Qra (t:Bool) {a:aD} {ta:TA} {p pos:Pos} {elts:List aD} {k:Nat} {tp:Pos} (hg:Gl X "enumerate") (Y:X.mg "enumerate" = zl) (ha:PA X [a] ta) (hs:aP [a] X.env=[(za,aM a X.env)]:=by rfl) :
  PI X (.Tuple elts k tp) (.Call (.Name "enumerate" p) [a] [] pos) (Qz3 X.K t ta):=by
 intro pins s σ H R I h;refine Call_ (Q3v I hg Y Q9s (dB (thn (ha pos pins s σ H _ I h) fun us s1 ⟨vs,H1,B,r1,q1⟩=>?_) hs rfl))
 obtain ⟨O,xs,e,q1,q⟩:=q1;subst e;obtain ⟨u,rfl,r⟩:=Q32 r1;cases r;obtain ⟨its,rv,G,_⟩:=B.seqK q1;refine Qhj G fun h' J Z z3 z4=>?_
 refine wpAny_pyIter_enum (s:={ s1 with heap:=h' }) J ?_;have j:O < s1.heap.objs.size:=by obtain ⟨o,e⟩:=G.there; exact O8 e
 refine ⟨_,[s1.heap.objs.size + 1,s1.heap.objs.size],_,_,H1,rfl,B.kept (t':=s1.toks) z4,Qj2 (t:=t) (br (cP _)) (D9 (cX j)) (D9 j),⟨⟨_,J⟩,Z⟩,fun c U=>?_,q⟩
 have z:s1.heap.objs.size<=c:=by simp at U; unfold aA at *; omega
 exact B.fpOk z (B.hok.fresh z)
end
theorem Qe1 {H:Hp} {a:aA} {o:HO} (h:H a=zl):Same H (upd H a o):=fun b u e=>by rw [Qj (Qm e h)]; exact e
section
variable {K:bQ} {cap:List (Option Nat)} {te:TE} {σ:St} {H1:Hp} {Q:VK}
abbrev g2 (K:bQ):TG:=Qz8 K 2 (Qp2 (Qff 0) (Qp2 (Qff 1) Qz9))
end
def Qzj:V->Option aB
 | .ty n=>zo (.type n)
 | .ref a=>zo (.ref a)
 | _=>zl
theorem Qpi {c:V} {j u:aB} (e:Qzj c=zo j) (r:RelV c u):u=j:=by
 cases c with
 | ty n=>cases e; exact r
 | ref a=>cases e; exact r
 | _=>cases e
section
variable {X:Cx}
theorem Qfm:Ki X (.builtin "isinstance") (fun xs H Q=>∃ x c j t b,xs=[x,c]/\Qzj c=zo j/\TyOf X.K H x t/\eL X.K t j=zo b/\Q (.bl b) H):=by
 intro pins s σ H xs us Q I r h;obtain ⟨x,c,j,t,b,rfl,z,ty,e,q⟩:=h;obtain ⟨u,B,rfl,r1,r2⟩:=Qm5 r;rw [Qpi z r2];exact Qk9 I r1 ty e fun tk=>⟨.bl b,H,I.tok tk,rfl,q⟩
theorem Q6z:aa "isinstance" = zo (.builtin "isinstance"):=by decide +kernel
theorem Ux:aa "sum" = zo (.builtin "sum"):=by decide +kernel
theorem Uy:aa "all" = zo (.builtin "all"):=by decide +kernel
theorem Qfs:aa "any" = zo (.builtin "any"):=by decide +kernel
theorem Q28:aa "max" = zo (.builtin "max"):=by decide +kernel
theorem Qfq:aa "min" = zo (.builtin "min"):=by decide +kernel
theorem Yc:aa "tuple" = zo (.type "tuple"):=by decide +kernel
theorem Qfr:aa "int" = zo (.type "int"):=by decide +kernel
theorem Qku:aa "bool" = zo (.type "bool"):=by decide +kernel
theorem Qpv:aa "str" = zo (.type "str"):=by decide +kernel
end
section
variable {X:Cx} (K:bQ)
end
def Tab (H:Hp) (a:aA) (tb:List (List Int)):Prop:=∃ rs:List aA,H a=zo (.tup (rs.map V.ref))/\aq (fun r row=>H r=zo (.tup (List.map V.int row))) rs tb
def Sz (n:Nat) (tb:List (List Int)):Prop:=tb.length=n/\∀ row∈tb,row.length=n + 1
end L2
namespace L2
open PySem PySem.Spec PyProof.Rows PySem.W PySem.Builtin.Getset_descriptor
structure XCls (K:Frag) (C:aA):Prop where
 cls:(clsIn K C).isSome=zb
 ga:findIn K (.ref C) "__getattribute__" = zo (zo (.builtin "BaseException.__getattribute__"))
 gt:findIn K (.ref C) "__getattr__" = zo zl
 cl:findIn K (.ref C) "__class__" = zo (zo (.builtin "object.__class__"))
 gs:specialIn K (.builtin "object.__class__") "__get__" = zo (zo (.builtin "getset_descriptor.__get__"))
 tk:takesIn K (.builtin "object.__class__")=zo zb
 ob:mroIn K C (.type "object")=zo zb
 be:mroIn K C (.type "BaseException")=zo zb
def IsX (x C:aA) (h:Heap):Prop:=∃ ox,h.get? x=zo ox/\ox.cls=.ref C
theorem IsX.type {M:Model} {h:Heap} {x C:aA} (I:IsX x C h):Looks M h (typeOf (.ref x)) (.ref C):=by
 obtain ⟨j,h1,h2⟩:=I;exact h2 ▸ (Looks.ld h1).andThen .now
section
variable {prog:aN} {w:aL} {A:aQ} {E:aB->aC->Prop} {h:Heap} {g:Array GenState} {d:Drawn} {t:Nat} {os:OsState} {K:Frag} {x C:aA}
theorem Qm4 {M:Model} {j:aB} {Q:Unit->aC->Prop} (X:K.In h) (F:XCls K C) (I:IsX x C h) (z:Q () ⟨h,g,d,t,os⟩):aI M A (checkBuiltinCall "BaseException.__getattribute__" ⟨[.ref x,j],[]⟩) Q E ⟨h,g,d,t,os⟩:=by
 have B:builtinKind "BaseException.__getattribute__" = zo .slot:=by decide +kernel
 have q:splitId "BaseException.__getattribute__" = zo ("BaseException", "__getattribute__"):=by decide +kernel
 have J:Looks M h (isInstance (.ref x) (.type "BaseException")) zb:=(I.type).andThen (looks_mroIn X F.be);have G:=PySem.F.args_bexc_ga (.ref x) j;simp only [checkBuiltinCall,B,q];refine aF (J.at ?_);simp only [gC,fu,if_false];exact wpAny_of_eq G z
end
end L2
namespace L2
open PySem PySem.Spec PyProof.Rows
theorem ObjOk.there {P:aN} {w:aL} {H:Hp} {h:Heap} {a:aA} {o:HO} (x:ObjOk P w H h a o):∃ u,h.get? a=zo u:=by
 cases o with
 | lst xs=>obtain ⟨_,_,_,_,e⟩:=x; exact ⟨_,e⟩
 | tup xs=>obtain ⟨_,_,_,o,e,_⟩:=x; exact ⟨o,e⟩
 | dK kvs=>obtain ⟨_,_,_,_,o,_,_,e,_⟩:=x; exact ⟨o,e⟩
 | dT kvs=>obtain ⟨_,_,_,_,o,_,_,e,_⟩:=x; exact ⟨o,e⟩
 | set S n=>obtain ⟨o,_,_,_,e,_⟩:=x; exact ⟨o,e⟩
 | ins C dx fs=>obtain ⟨_,_,_,e,_⟩:=x; exact ⟨_,e⟩
 | own y=>exact x
 | xd fs=>obtain ⟨_,⟨o,_,_,e,_⟩,_⟩:=x; exact ⟨o,e⟩
 | rng lo hi=>obtain ⟨_,_,_,e⟩:=x; exact ⟨_,e⟩
 | frz ob u=>obtain ⟨e,_⟩:=x; exact ⟨_,e⟩
 | tbl ps=>exact ⟨_,x⟩
 | met f y=>exact ⟨_,x⟩
 | ext j=>exact x.2.1
theorem HOk.none_of {P:aN} {w:aL} {H:Hp} {h:Heap} {a:aA} (x:HOk P w H h) (e:h.get? a=zl):H a=zl:=by
 cases q:H a with
 | none=>rfl
 | some o=>
  obtain ⟨u,z⟩:=(x a o q).there;rw [e] at z;cases z
structure Fly (P:aN) (w:aL) (outer:List Env) (H H':Hp) (s s':aC) (a:aA) (cls a0:aB) (B:Heap):Prop where
 os:s'.os=s.os
 bare:AllBare s'.gens
 fl:Heap.FlyingW B outer a cls a0 s'.heap
 hokB:HOk P w H' B
 keep:∀ b o,s.heap.get? b=zo o->H b=zl->b∉frs outer->B.get? b=zo o
 there:∀ b o,s.heap.get? b=zo o->b∉frs outer->∃ o',B.get? b=zo o'
 slot:∀ b o,s.heap.get? b=zo o->b∈frs outer->∃ sl,s'.heap.get? b=zo { o with slots:=sl }
 free:∀ b o,s.heap.get? b=zo o->H b=zl->H' b=zl
 tups:∀ b xs,H b=zo (.tup xs)->H' b=zo (.tup xs)
 frzs:∀ b o u,H b=zo (.frz o u)->H' b=zo (.frz o u)
 tbls:∀ b ps,H b=zo (.tbl ps)->∃ more,H' b=zo (.tbl (ps ++ more))
section
variable {P:aN} {w:aL} {K:bQ} {mg:Str->Option aB} {base:Heap} {N:List Str} {qual:Str} {scope:Scope} {f:aA} {cd:aB} {A:aQ} {outer:List Env} {s:aC} {H:Hp} {E:XK}
end
abbrev Vq:List aB:=[.type "ValueError",.type "Exception",.type "BaseException",.type "object"]
theorem Qhz {K:bQ} {h:Heap} {C:aA} {z:List aB} {j:String} {x:Str} {mg:Str->Option aB} (X:K.In h) (m:mg x=zo (.ref C)) (q:bY K C z j=zb):OwnCls x C z j mg h:=by
 refine ⟨m,?_⟩;unfold bY at q
 split at q
 ·rename_i dd cd I O
  split at q
  ·rename_i Z bm k0 k1 k2 k3 n k5 G hs;simp only [G7,beq_iff_eq,Bool.not_eq_true'] at q;obtain ⟨⟨⟨⟨⟨rfl,rfl⟩,hdel⟩,ht⟩,hok⟩,hni⟩:=q;obtain ⟨nm,bs,J,ns,U,hd,sn,sub,ab,col,Y⟩:=cd;dsimp only at G hdel hok hni;subst G hdel;have B:I=#[k0,k1,k2,k3,zo (.builtin n),k5]:=by
    obtain ⟨l⟩:=I;simp only at hs;rw [hs]
   subst B;exact ⟨bm,ns,nm,U,bs,hd,sn,sub,ab,col,dd,k0,k1,k2,k3,k5,_,X _ _ O,.of_isNs (PySem.W.isNs_of_in X hok),PySem.W.nsMap_none_of_in X hok hni,PySem.W.tail_of_in X ht⟩
  ·cases q
 ·cases q
section
variable {X:Cx}
def Qua (C:aA) (E:XK) (t:TA):TS:=fun _ σ H=>t σ H fun vs H1=>vs.length<=sizeLine/\E (.ref C) zl H1
end
def xh (X:Cx) (a:aA):Cx:={ X with A:=X.A.mark (zo (.ref a)),calm:=za,xe:=fun _ _=>False }
section
variable {X:Cx} {pins:List (aA × Obj)} {σ:St} {H H':Hp} {s s':aC} {a C:aA}
theorem Inv.suite (I:Inv X pins σ H s) (a:aA):Inv (xh X a) pins σ H s:=
 ⟨⟨I.ok.mod,I.ok.kind,I.ok.glob,I.ok.blt,I.ok.above,I.ok.inj,I.ok.has,I.ok.cab,fun h=>(by cases h),I.ok.frames,I.ok.stk,I.ok.exf,I.ok.bs,I.ok.bsz,I.ok.noex,I.ok.exfs,I.ok.funs,I.ok.frf⟩,I.os,I.bare,I.base,I.loc,I.cell,I.free,I.freeC,I.pin,I.hok,I.len⟩
theorem Inv.unsuite (ok:X.Ok) (I:Inv (xh X a) pins σ H s):Inv X pins σ H s:=⟨ok,I.os,I.bare,I.base,I.loc,I.cell,I.free,I.freeC,I.pin,I.hok,I.len⟩
theorem Fly.inv {cls a0:aB} {B O:Heap} (I:Inv X pins σ H s) (F:Fly X.prog X.w X.stack H H' s s' a cls a0 B) (Y:B.StaysIn O) (sm:s'.heap.UpToSlots O):Inv X pins σ H' { s' with heap:=O }:=by
 have G:∀ b o,s.heap.get? b=zo o->b∈frs X.stack->∃ G,O.get? b=zo { o with slots:=G }:=fun b o q j=>by
  obtain ⟨G,z⟩:=F.slot b o q j;obtain ⟨_,o',J,U⟩:=I.stack.mem j;rw [q] at J;cases J;obtain ⟨Z,z'⟩:=sm b _ z U;exact ⟨Z,z'⟩
 refine I.call' (s':={ s' with heap:=O }) (ch:=[]) F.os ⟨fun b o q n j _=>Y _ _ (F.keep b o q n j),fun b o q n j _=>G b o q j,fun b o q n _=>F.free b o q n,fun b o q _=>?_,F.tups,F.frzs,F.tbls⟩ (F.hokB.kept Y) F.bare fun b z=>absurd z (by simp)
 by_cases j:b∈frs X.stack
 ·obtain ⟨G,z⟩:=G b o q j;exact ⟨_,z⟩
 ·obtain ⟨o',z⟩:=F.there b o q j;exact ⟨o',Y _ _ z⟩
theorem Fly.new {cls a0:aB} {B:Heap} (F:Fly X.prog X.w X.stack H H' s s' a cls a0 B):s.heap.get? a=zl/\H' a=zl:=by
 have J:B.get? a=zl:=F.fl.2.1;refine ⟨?_,F.hokB.none_of J⟩;cases q:s.heap.get? a with
 | none=>rfl
 | some o=>
  by_cases I:a∈frs X.stack
  ·obtain ⟨_,o',G,j⟩:=F.fl.2.2.1.mem I;obtain ⟨U,vs,O,_,hd,_⟩:=F.fl.first;rw [G] at O;cases O;exact absurd hd (j vs)
  ·obtain ⟨o',z⟩:=F.there a o q I;rw [J] at z;cases z
theorem Inv.track {s1:aC} {U:Heap->Prop} (J:Inv X pins σ H s) (O:∀ b,b∉X.ex) (h0:s.heap.get? a=zl) (I:Inv X pins σ H' s1) (G:H' a=zl) (o:ObjOk X.prog X.w (upd H' a (.ext U)) s1.heap a (.ext U)):Inv X pins σ (upd H' a (.ext U)) s1:=by
 have j:∀ b u,s.heap.get? b=zo u->b≠a:=fun b u e z=>by rw [z,h0] at e; cases e
 have Y:∀ b u,X.s₀.heap.get? b=zo u->b≠a:=fun b u e=>by
  obtain ⟨u',e'⟩:=J.base.there b u e (O b);exact j b u' e'
 refine ⟨I.ok,I.os,I.bare,?_,I.loc,I.cell,?_,?_,?_,?_,I.len⟩
 ·have B:=I.base;exact ⟨B.keep,B.slot,fun c o e n hx=>by rw [Qj (Y c o e)]; exact B.free c o e n hx,B.there,
   fun c ts e=>by have:=B.tups c ts e; rw [Qj (Qm this G)]; exact this,
   fun c o ts e=>by have:=B.frzs c o ts e; rw [Qj (Qm this G)]; exact this,
   fun c ps e=>by obtain ⟨more,q⟩:=B.tbls c ps e; exact ⟨more,by rw [Qj (Qm q G)]; exact q⟩⟩
 ·obtain ⟨m,⟨o,_,_,e,_⟩,_⟩:=J.loc;rw [Qj (j _ _ e)]; exact I.free
 ·intro x c e;obtain ⟨v,o,z,_⟩:=J.cell x c e;rw [Qj (j _ _ z)]; exact I.freeC x c e
 ·intro p hp;obtain ⟨e,n,ne,nf,d⟩:=I.pin p hp;exact ⟨e,by rw [Qj (j _ _ (J.pin p hp).1)]; exact n,ne,nf,d⟩
 ·intro c u q
  by_cases Z:c=a
  ·subst Z;rw [Jg] at q; cases q;exact o
  ·rw [Qj Z] at q;exact (I.hok c u q).stay (fun _ _ _ r=>r) (fun c' r=>by rw [Qj (Qm r G)]; exact r) fun c' ts r=>by rw [Qj (Qm r G)]; exact r
theorem Inv.forget {i:Nat} {n:Str} {m:Str->Option aB} {h':Heap} {v:Option aB} {tk:Nat} (I:Inv X pins σ H s) (hN:X.N.Nodup) (hi:X.N[i]?=zo n) (Z:∀ (i:Nat) (x:Str) (v:V),X.N[i]?=zo x->σ[i]?=zo (zo v)->Vis X.env.scope x->∃ u,RelV v u/\Qzv X.env s.heap m x u)
  (U:h'.Ns X.env.locals (fun x=>if x=n then v else m x)) (hs:Heap.SameBut X.env.locals s.heap h'):Inv X pins (σ.set i zl) H { s with heap:=h',toks:=tk }:=by
 have cne:=I.cne;have B:HOk X.prog X.w H h':=I.hok.same I.free hs;have G:∀ b o,X.s₀.heap.get? b=zo o->b≠X.env.locals:=fun b o e=>D9 (D2 (O8 e) I.ok.above)
 refine ⟨I.ok,I.os,I.bare,⟨fun b o e n O J=>(hs.2 b (G b o e)).trans (I.base.keep b o e n O J),fun b o e n O J=>?_,I.base.free,fun b o e J=>?_,I.base.tups,I.base.frzs,I.base.tbls⟩,⟨_,U,fun j y v' e1 e2 e3=>?_⟩,fun y c e=>?_,I.free,I.freeC,fun p hp=>?_,B,by simpa using I.len⟩
 ·obtain ⟨sl,z⟩:=I.base.slot b o e n O J;exact ⟨sl,(hs.2 b (G b o e)).trans z⟩
 ·obtain ⟨o',z⟩:=I.base.there b o e J;exact ⟨o',(hs.2 b (G b o e)).trans z⟩
 ·by_cases Y:j=i
  ·subst Y;rw [hi] at e1; cases e1;have:j < σ.length:=by have:=(O0.mp e2).1; simpa using this
   rw [E4 this] at e2;cases e2
  ·rw [O6 (Ne.symm Y)] at e2;obtain ⟨u,r,q⟩:=Z j y v' e1 e2 e3;refine ⟨u,r,?_⟩;rcases q with ⟨k,e⟩ | ⟨k,c,e,z⟩
   ·refine .inl ⟨k,?_⟩;have:y≠n:=fun e=>Y (Q8q hN e1 (e ▸ hi))
    simp [this,e]
   ·exact .inr ⟨k,c,e,z.sameBut hs (cne y c e)⟩
 ·obtain ⟨w',z⟩:=I.cell y c e;exact ⟨w',z.sameBut hs (cne y c e)⟩
 ·obtain ⟨e,n,ne,nf,d⟩:=I.pin p hp;exact ⟨(hs.2 p.1 ne).trans e,n,ne,nf,d⟩
end
section
variable {X:Cx}
end
section
variable {X:Cx}
end
theorem Q7j (l:aA) (j:Array aB) (n:Nat) (dd:Option aA) (q:Array (Option aB)) (t:Tok) :
  Meets (Builtin.«tuple.__mul__» ⟨[.ref l,.int 1 t],[]⟩) (fun _ R s=>s.heap.get? l=zo { cls:=.type "tuple",dict:=dd,data:=.seq j n,slots:=q }/\R (.ok (.ret (.ref l))) s):=
 .of_wp fun prog w A R s h=>by
  obtain ⟨hp,g,d,tk,os⟩:=s; obtain ⟨z,h⟩:=h
  wp_walk using wpAny_loadPart' z
  exact ⟨_,rfl,h⟩
theorem Q7k (l:aA) (j:Array aB) (n:Nat) (dd:Option aA) (J:Array (Option aB)) (x:Int) (t:Tok) (h1:¬ (decide (x < -(2 ^ 63)) || decide (x>=2 ^ 63))=zb) (h2:¬ (j.isEmpty || x == 1)=zb) (U:¬ (decide (x<=0) || j.isEmpty)=zb) (O:¬ (j.size:Int) * x > (2 ^ 63 - 1) / 8) (I:¬ Builtin.Tuple.tupleTooMany ((j.size:Int) * x)=zb)
  (G:((bR x.toNat j).foldl (fun q z=>q ++ z) #[]).size<=sizeLine) :
  Meets (Builtin.«tuple.__mul__» ⟨[.ref l,.int x t],[]⟩) (fun _ R s=>s.heap.get? l=zo { cls:=.type "tuple",dict:=dd,data:=.seq j n,slots:=J } /\
   R (.ok (.ret (bT s.heap.objs.size))) { s with heap:=s.heap.push { cls:=dO "tuple",data:=Data.seq ((bR x.toNat j).foldl (fun q z=>q ++ z) #[]) } }):=
 .of_wp fun prog w A R s h=>by
  obtain ⟨hp,g,d,tk,os⟩:=s; obtain ⟨B,h⟩:=h
  wp_walk using wpAny_loadPart' B
  refine wpAny_ite_false (bN h1) ?_
  wp_walk using wpAny_loadPart' B
  refine wpAny_ite_false (bN O) ?_
  wp_walk using wpAny_loadPart' B
  all_goals first | exact ⟨_,rfl,h⟩ | (refine wpAny_ite_false (bN I) ?_; wp_walk) | skip
  all_goals first | exact ⟨_,rfl,h⟩ | (refine wpAny_ite_false (bN (Nat.not_lt.mpr G)) ?_; wp_walk; exact ⟨_,rfl,h⟩)
theorem Q9e (a:Int) (t:Tok) (l:aA) (j:Array aB) (n:Nat) (dd:Option aA) (q:Array (Option aB)) :
  Meets (Builtin.«int.__rmul__» ⟨[.int a t,.ref l],[]⟩) (fun _ R s=>s.heap.get? l=zo { cls:=.type "tuple",dict:=dd,data:=.seq j n,slots:=q }/\R (.ok (.ret fj)) s):=
 .of_wp fun prog w A R s h=>by obtain ⟨hp,g,d,tk,os⟩:=s; obtain ⟨z,h⟩:=h; wp_walk using wpAny_loadPart' z; exact ⟨_,rfl,h⟩
theorem Q5j:fillsNumberSlot (.type "tuple") "mul" = pure za:=
 PySem.fillsNumberSlot_seq (id := "tuple.__mul__") (r:=zo (.builtin "tuple.__rmul__")) F.slot_tuple_mul.lookup (by decide +kernel) F.slot_tuple_rmul.lookup (by decide +kernel)
theorem Qcj:seqRepeat? (.type "tuple")=pure (zo (.builtin "tuple.__mul__")):=by
 unfold seqRepeat?;rw [gD (T := "tuple") (name := "__mul__") (id := "tuple.__mul__") F.slot_tuple_mul.lookup (by decide +kernel),gD (T := "tuple") (name := "__rmul__") (id := "tuple.__rmul__") F.slot_tuple_rmul.lookup (by decide +kernel)];rfl
section
variable {X:Cx}
def Qxs (K:bQ):R2:=fun x y H Q=>∃ a k xs,x=.ref a/\y=.int k/\SqT K H a xs/\xs≠[]/\1<=k/\xs.length * k.toNat<=4096 /\
 (k=1->Q (.ref a) H)/\(k≠1->∀ p,H p=zl->Q (.ref p) (upd H p (.tup (bR k.toNat xs).flatten)))
theorem Qrq:OpR X (aW .Mult) (Qxs X.K):=by
 intro pins s σ H x y v u Q I Z ry h;obtain ⟨a,k,xs,rfl,rfl,ha,O,hk,hz,q1,q2⟩:=h;cases Z;obtain ⟨t,rfl⟩:=ry;obtain ⟨its,r,p1,hs⟩:=I.tuple ha;obtain ⟨⟨cls,dd,data,B⟩,ho,hc,n,hd⟩:=id p1;simp only at hc hd;subst hc hd;have J:its.length=xs.length:=r.length.symm;have hpos:0 < its.length:=by rw [J]; exact cv.mpr O
 have a2:k.toNat<=4096:=by
  have:1 * k.toNat<=xs.length * k.toNat:=Nat.mul_le_mul_right _ (by omega);omega
 refine wpAny_binaryOp_repeat_ref (T := "tuple") (U := "int") (by decide) ⟨_,ho,rfl⟩ (fun s'=>typeIs_int s' k t) Q5j F.fills_int_mul F.slot_int_rmul Qcj F.slot_int_index.lookup
  (au F.slot_int_rmul (typeIs_int s k t) F.entry_int_rmul (F.args_int_rmul_2 _ _) (Q9e k t a its.toArray n dd B)
   ⟨ho,rfl,⟨_,ho,rfl⟩,?_⟩)
 by_cases h1:k=1
 ·subst h1;exact au F.slot_tuple_mul ⟨_,ho,rfl⟩ F.entry_tuple_mul (F.args_tuple_mul_2 _ _) (Q7j a its.toArray n dd B t) ⟨ho,⟨.ref a,H,I,rfl,q1 rfl⟩⟩
 ·have Y:dY (fun x1 x2=>x1 ++ x2) #[] (bR k.toNat its.toArray)=(bR k.toNat its).flatten.toArray:=by
   have:=Q5t its k.toNat [];rw [fq] at this;exact this
  have j:(its.toArray.size:Int) * k=((its.length * k.toNat:Nat):Int):=by
   rw [O3,Int.natCast_mul,Int.toNat_of_nonneg (by omega)]
  have G:(bR k.toNat its).flatten.length<=4096:=by rw [Qd3,J,eT]; exact hz
  have hb:its.length * k.toNat<=4096:=by rw [J]; exact hz
  refine au F.slot_tuple_mul ⟨_,ho,rfl⟩ F.entry_tuple_mul (F.args_tuple_mul_2 _ _) (Q7k a its.toArray n dd B k t ?_ ?_ ?_ ?_ ?_ ?_) ⟨ho,?_⟩
  ·rw [bN (by omega),bN (by omega)]; exact D8
  ·intro z;rcases gE.mp z with z | z
   ·rw [gF,gG] at z; rw [z] at hpos; simp at hpos
   ·exact h1 (eq_of_beq z)
  ·intro z;rcases gE.mp z with z | z
   ·have:=of_decide_eq_true z; omega
   ·rw [gF,gG] at z; rw [z] at hpos; simp at hpos
  ·rw [j]; omega
  ·rw [j];have:(4096:Int)<=sizeLine:=by decide
   show ¬ decide (((its.length * k.toNat:Nat):Int) > (sizeLine:Int))=zb;rw [bN (by omega)]; exact D8
  ·rw [Y,O3]; exact F2 G (by decide)
  ·rw [Y];refine ⟨.ref s.heap.objs.size,_,I.laid (t':=s.toks) (o:=.tup (bR k.toNat xs).flatten) (fun b ob q=>O1 _ q) (O7 _) ?_,rfl,q2 h1 _ (I.hok.fresh (O7 _))⟩;exact ⟨by rw [Qd3,eT]; exact F2 hz (by decide),_,r.rep k.toNat,IsTup.new _ _⟩
end
section
variable {X:Cx} {pins:List (aA × Obj)} {s:aC} {σ:St} {H:Hp}
open PySem.SeqAt
theorem Qed:OpR X (aV .IsNot) (fun x y H Q=>∃ b c,x=.bl b/\y=.bl c/\Q (.bl (b != c)) H):=by
 intro pins s σ H x y v u Q I j z h;obtain ⟨b,c,rfl,rfl,q⟩:=h;cases j;cases z;exact gg ⟨.bl _,H,I,rfl,q⟩
end
section
variable {K:bQ} {cap:List (Option Nat)} {te:TE} {σ:St} {H1:Hp} {Q:VK}
end
section
variable {X:Cx} {pos:Pos}
end
theorem Uv:∀ (names:List (Str × aj)) (h:Heap) (j:List (Str × aA)) (x:Str) (c:aA),(ae h.objs.size names j).lookup x=zo c ->
  j.lookup x=zo c\/((x,NameKind.cell)∈names/\h.objs.size<=c/\(pushCells h names).IsCell c zl)
 | [],_,_,_,_,e=>.inl e
 | (name,kind) :: r,h,j,x,c,e=>by
  unfold ae at e;unfold pushCells
  by_cases B:(kind == NameKind.cell)=zb
  ·rw [bK B] at e ⊢;have G:kind=.cell:=by simpa using B
   have U:=Uv r (h.push { cls:=.type "cell",data:=.cell zl }) ((name,h.objs.size) :: j) x c (by rw [F5]; exact e);rw [F5] at U;rcases U with z | ⟨I,O,J⟩
   ·rw [E3] at z;cases q:x == name with
    | true=>
     rw [q] at z; cases z;exact .inr ⟨by rw [beq_iff_eq.mp q,G]; exact D1,O7 _,⟨_,pushCells_keeps _ _ _ _ (D6 _ rfl),rfl⟩⟩
    | false=>rw [q] at z; exact .inl z
   ·exact .inr ⟨O9 _ I,by omega,J⟩
  ·rw [bL B] at e ⊢;rcases Uv r h j x c e with z | ⟨I,O,J⟩
   ·exact .inl z
   ·exact .inr ⟨O9 _ I,O,J⟩
theorem Xs {x:Str}:∀ (names:List (Str × aj)) (n:Nat) (j:List (Str × aA)),(x,NameKind.cell)∉names->(ae n names j).lookup x=j.lookup x
 | [],_,_,_=>rfl
 | (name,kind) :: r,n,j,h=>by
  unfold ae;have B:(x,NameKind.cell)∉r:=fun z=>h (O9 _ z)
  by_cases q:(kind == NameKind.cell)=zb
  ·rw [bK q,Xs r _ _ B,E3];cases G:x == name with
   | true=>exact absurd (by rw [beq_iff_eq.mp G,show kind=.cell by simpa using q]; exact D1) h
   | false=>rfl
  ·rw [bL q,Xs r _ _ B]
theorem yd {x:Str} {c:aA}:∀ (names:List (Str × aj)) (n:Nat) (j:List (Str × aA)),(x,NameKind.cell)∈names->(ae n names j).lookup x=zo c->n<=c
 | [],_,_,h,_=>by cases h
 | (name,kind) :: r,n,j,h,e=>by
  unfold ae at e
  by_cases z:(x,NameKind.cell)∈r
  ·by_cases B:(kind == NameKind.cell)=zb
   ·rw [bK B] at e;exact Nat.le_of_succ_le (yd r _ _ z e)
   ·rw [bL B] at e;exact yd r _ _ z e
  ·rcases E5.mp h with q | q
   ·cases q;rw [bK (by decide),Xs r _ _ z,E3] at e;simp at e;exact eI e
   ·exact absurd q z
theorem ye:∀ (names:List (Str × aj)) (n:Nat) (j:List (Str × aA)),(∀ x c,j.lookup x=zo c->c < n)->(∀ x y c,j.lookup x=zo c->j.lookup y=zo c->x=y) ->
  ∀ x y c,(ae n names j).lookup x=zo c->(ae n names j).lookup y=zo c->x=y
 | [],_,_,_,h=>h
 | (name,kind) :: r,n,j,h1,h2=>by
  unfold ae
  by_cases G:(kind == NameKind.cell)=zb
  ·rw [bK G];refine ye r (n + 1) _ (fun x c e=>?_) (fun x y c e z=>?_)
   ·rw [E3] at e;cases B:x == name with
    | true=>rw [B] at e; cases e; exact cP _
    | false=>rw [B] at e; exact cX (h1 x c e)
   ·rw [E3] at e z;cases B:x == name with
    | true=>
     rw [B] at e; cases e;cases q:y == name with
     | true=>rw [beq_iff_eq.mp B,beq_iff_eq.mp q]
     | false=>rw [q] at z; exact absurd (h1 y _ z) (bo _)
    | false=>
     rw [B] at e;cases q:y == name with
     | true=>rw [q] at z; cases z; exact absurd (h1 x _ e) (bo _)
     | false=>rw [q] at z; exact h2 x y c e z
  ·rw [bL G];exact ye r n j h1 h2
theorem Q9x {M:Model} {A:aQ} {E:aB->aC->Prop} {s:aC} {scope:Scope} {q:aA} {cl:List (Str × aA)} {qual:Str} {z:Option aA} {code:aB} {env:Env} {j:aA} {Q:Env->aC->Prop}
  (I:Q (newEnv scope s.heap.objs.size q (ae (s.heap.objs.size + 1) scope.names cl) qual z code (zo env) j) { s with heap:=pushCells (s.heap.push { cls:=.type "dict",data:=.dict #[] }) scope.names }) :
  aI M A (newFunctionEnv scope q cl [] qual z code (zo env) j) Q E s:=by
 simp only [newFunctionEnv,Option.isSome_some,if_true];refine aF (wpAny_alloc ?_);refine aF (wpAny_layCells _ (fun name kind B=>by cases G:kind == NameKind.cell <;> simp [G]) _ _ _ _ ?_);rw [show ({ s with heap:=s.heap.push { cls:=.type "dict",data:=.dict #[] } }:aC).heap.objs.size=s.heap.objs.size + 1 from F5 ..];refine aF ?_;rw [eY];exact aR (aR I)
def compOkC (N N':List Str) (sc scE:Scope) (cap:List (Option Nat)):Bool:=
 sc.kind == .function && sc.names.all (fun x=>x.2 != .cell || sc.names.lookup x.1 == zo .cell) && sc.names.all (fun x=>x.2 != .local || sc.names.lookup x.1 == zo .local) &&
 sc.names.all (fun x=>x.2 != .free || scE.names.lookup x.1 == zo .cell || scE.names.lookup x.1 == zo .free) && cap.length == N'.length &&
 (bS cap.length).all (fun i=>match cap[i]? with
  | some (zo j)=>(match N'[i]?,N[j]? with | some a,zo b=>a == b && sc.names.lookup a == zo .free | _,_=>za)
  | _=>zb)
structure CompOkC (N N':List Str) (sc scE:Scope) (cap:List (Option Nat)):Prop where
 kind:sc.kind=.function
 cel:∀ x∈sc.names,x.2=.cell->sc.names.lookup x.1=zo .cell
 loc:∀ x∈sc.names,x.2=.local->sc.names.lookup x.1=zo .local
 fre:∀ x∈sc.names,x.2=.free->scE.names.lookup x.1=zo .cell\/scE.names.lookup x.1=zo .free
 len:cap.length=N'.length
 at_:∀ (i j:Nat),cap[i]?=zo (zo j)->∃ x,N'[i]?=zo x/\N[j]?=zo x/\sc.names.lookup x=zo .free
theorem compOkC.of {N N':List Str} {sc scE:Scope} {cap:List (Option Nat)} (h:compOkC N N' sc scE cap=zb):CompOkC N N' sc scE cap:=by
 unfold compOkC at h;simp only [G7,F7,beq_iff_eq,eu,bne_iff_ne] at h;obtain ⟨⟨⟨⟨⟨h1,h2⟩,h3⟩,h4⟩,h5⟩,h6⟩:=h;refine ⟨h1,fun x q e=>?_,fun x q e=>?_,fun x q e=>?_,h5,fun i j e=>?_⟩
 ·rcases h2 x q with z | z
  ·exact absurd e z
  ·exact z
 ·rcases h3 x q with z | z
  ·exact absurd e z
  ·exact z
 ·rcases h4 x q with (z | z) | z
  ·exact absurd e z
  ·exact .inl z
  ·exact .inr z
 ·have hi:i < cap.length:=(O0.mp e).1;have:=h6 i (F1.mpr hi);rw [e] at this;simp only at this;cases e1:N'[i]? with
  | none=>rw [e1] at this; cases this
  | some a=>
   cases e2:N[j]? with
   | none=>rw [e1,e2] at this; cases this
   | some b=>
    rw [e1,e2] at this;simp only [G7,beq_iff_eq] at this;obtain ⟨rfl,z⟩:=this;exact ⟨a,rfl,rfl,z⟩
def U7 (X:Cx) (N':List Str) (sc:Scope) (cl:List (Str × aA)) (C:aA) (s0:aC) (H0:Hp) (ex:List aA):Cx:=
 { X with N:=N',s₀:=s0,H₀:=H0,env:=compEnvC sc cl C X.env,outer:=X.stack,ex:=ex,fn:=fun x=>sc.names.lookup x == zo .cell,pn:=[],xe:=fun _ _=>False }
section
variable {X:Cx}
theorem Qpx {pins:List (aA × Obj)} {σ:St} {H:Hp} {s:aC} {N N':List Str} {sc scE:Scope} {cap:List (Option Nat)} {cl:List (Str × aA)} {fp:List aA}
  (I:Inv X pins σ H s) (hN:X.N=N) (hE:X.env.scope=scE) (ck:CompOkC N N' sc scE cap) (c1:∀ x c,cl.lookup x=zo c->X.env.cells.lookup x=zo c) (c2:∀ x∈sc.names,x.2=.free->∃ c,cl.lookup x.1=zo c)
  (hf:∀ b∈fp,Q9w X pins H b) (a6:∀ b∈fp,b < s.heap.objs.size) :
  Inv (U7 X N' sc (ae (s.heap.objs.size + 1) sc.names cl) s.heap.objs.size s H fp) [] (Q4u cap σ) H { s with heap:=pushCells (s.heap.push { cls:=.type "dict",data:=.dict #[] }) sc.names }:=by
 obtain ⟨G,O⟩:∃ G,pushCells (s.heap.push { cls:=.type "dict",data:=.dict #[] }) sc.names=G:=⟨_,rfl⟩;obtain ⟨B,J⟩:∃ B,ae (s.heap.objs.size + 1) sc.names cl=B:=⟨_,rfl⟩;rw [O,J];have keep:∀ b o,s.heap.get? b=zo o->G.get? b=zo o:=fun b o e=>by rw [<- O]; exact pushCells_keeps _ _ b o (O1 _ e)
 have a8:G.Ns s.heap.objs.size (fun _=>zl):=by rw [<- O]; exact (Heap.Ns.new s.heap (.type "dict")).keeps (pushCells_keeps _ _)
 have look:∀ x c,B.lookup x=zo c->cl.lookup x=zo c\/(s.heap.objs.size + 1<=c/\G.IsCell c zl):=fun x c e=>by
  rw [<- J] at e;have:=Uv (sc.names) (s.heap.push { cls:=.type "dict",data:=.dict #[] }) cl x c (by rw [F5]; exact e);rw [F5,O] at this;rcases this with z | ⟨_,z,z'⟩
  ·exact .inl z
  ·exact .inr ⟨z,z'⟩
 have Z:∀ x c,cl.lookup x=zo c->c < s.heap.objs.size:=fun x c e=>by
  obtain ⟨v,o,ho,_⟩:=I.cell x c (c1 x c e);exact O8 ho
 have inj:∀ x y c,B.lookup x=zo c->B.lookup y=zo c->x=y:=by
  rw [<- J];exact ye _ _ _ (fun x c e=>cX (Z x c e)) fun x y c a b=>I.ok.inj x y c (c1 x c a) (c1 y c b)
 have a9:∀ x,sc.names.lookup x=zo .cell->∃ c,B.lookup x=zo c:=fun x e=>by
  rw [<- J];exact fe.mp (eM _ _ _ (.inl e))
 have a5:∀ x,sc.names.lookup x=zo .free->B.lookup x=cl.lookup x:=fun x e=>by
  rw [<- J];refine Xs _ _ _ fun z=>?_
  have:=ck.cel _ z rfl;rw [e] at this; cases this
 have kindOf:∀ x k,(compEnvC sc B s.heap.objs.size X.env).kindOf x=zo k->k=.cell\/k=.free->sc.names.lookup x=zo .free\/sc.names.lookup x=zo .cell:=fun x k e hk=>by
  have e':(relabel sc X.env).names.lookup x=zo k:=e;rw [Q1m] at e';cases q:sc.names.lookup x with
  | none=>rw [q] at e'; cases e'
  | some k'=>
   rw [q] at e';have a4:(if (k' == NameKind.free && X.env.scope.kind == .function && X.env.kindOf x == zo .cell)=zb then NameKind.cell else k')=k:=ba e'
   by_cases U:(k' == NameKind.free && X.env.scope.kind == .function && X.env.kindOf x == zo .cell)=zb
   ·simp only [G7,beq_iff_eq] at U;rw [U.1.1]; exact .inl rfl
   ·rw [bL U] at a4;subst a4;rcases hk with z | z
    ·rw [z]; exact .inr rfl
    ·rw [z]; exact .inl rfl
 have cellAt:∀ x c,X.env.cells.lookup x=zo c->∀ v,s.heap.IsCell c v->G.IsCell c v:=fun x c e v ⟨o,ho,hd⟩=>⟨o,keep c o ho,hd⟩
 have a2:∀ c,s.heap.objs.size<=c->H c=zl:=fun c U=>I.hok.fresh U
 refine ⟨⟨I.ok.mod,ck.kind,I.ok.glob,I.ok.blt,O7 _,inj,fun x hx=>?_,fun x c h1 h2=>?_,I.ok.hd,I.ok.frames,.inl rfl,fun b hb=>?_,I.bs,
  F2 I.ok.bsz I.sz,fun b o e hb=>?_,fun b hb hz=>?_,I.stack,I.stkFree⟩,rfl,I.bare,Un.kept keep,⟨_,a8,fun i x v e1 e2 e3=>?_⟩,fun x c e=>?_,a2 _ (O7 _),fun x c e=>?_,fun p hp=>(by cases hp),I.hok.kept keep,?_⟩
 ·have hx:(compEnvC sc B s.heap.objs.size X.env).kindOf x=zo .cell\/(compEnvC sc B s.heap.objs.size X.env).kindOf x=zo .free:=hx;have q:sc.names.lookup x=zo .free\/sc.names.lookup x=zo .cell:=by
   rcases hx with z | z
   ·exact kindOf x _ z (.inl rfl)
   ·exact kindOf x _ z (.inr rfl)
  rcases q with q | q
  ·obtain ⟨c,U⟩:=c2 _ (bw q) rfl;exact ⟨c,(a5 x q).trans U⟩
  ·exact a9 x q
 ·have h1:sc.names.lookup x=zo .cell:=by simpa [U7] using h1
  have h2:B.lookup x=zo c:=h2;rw [<- J] at h2;exact F2 (cQ _) (yd _ _ _ (bw h1) h2)
 ·refine ⟨D9 (a6 b hb),fun x c e=>?_⟩;rcases look x c e with z | ⟨z,_⟩
  ·exact (hf b hb).2.2.2.2.1 x c (c1 x c z)
  ·exact fun q=>absurd (D2 (a6 b hb) (F2 (cQ _) (q ▸ z))) (bo _)
 ·rcases (hf b hb).2.2.2.1 with z | z
  ·exact I.ok.noex b o e z
  ·exact absurd (D2 (O8 e) (F2 I.ok.bsz z)) (bo _)
 ·rcases E5.mp (I.stkSub b hz) with e | z
  ·exact (hf b hb).2.1 e
  ·exact (hf b hb).2.2.1 z
 ·have e1:N'[i]?=zo x:=e1;have e2:(Q4u cap σ)[i]?=zo (zo v):=e2;unfold Q4u at e2;rw [E8] at e2;cases q:cap[i]? with
  | none=>rw [q] at e2; cases e2
  | some oj=>
   rw [q] at e2;cases oj with
   | none=>cases e2
   | some j=>
    obtain ⟨y,z1,z2,z3⟩:=ck.at_ i j q;rw [e1] at z1; cases z1;have ev:σ[j]?=zo (zo v):=by
     have Y:(σ[j]?).join=zo v:=ba e2;cases r:σ[j]? with
     | none=>rw [r] at Y; cases Y
     | some o=>rw [r] at Y; exact congrArg zo Y
    obtain ⟨m',b0,hl⟩:=I.loc;have sK:X.env.scope.names.lookup x=zo .cell\/X.env.scope.names.lookup x=zo .free:=by rw [hE]; exact ck.fre _ (bw z3) rfl
    obtain ⟨u,ru,l⟩:=hl j x v (by rw [hN]; exact z2) ev (sK.elim (fun z=>.inr (.inl z)) fun z=>.inr (.inr z))
    refine ⟨u,ru,?_⟩;obtain ⟨c,U⟩:=c2 _ (bw z3) rfl;rcases l with ⟨k,_⟩ | ⟨k,c',a7,a3⟩
    ·have k:X.env.scope.names.lookup x=zo .local:=k;rcases sK with z | z <;> (rw [k] at z; cases z)
    ·have:c=c':=by
      have q1:=c1 x c U;rw [a7] at q1;exact (ba q1).symm
     subst this;refine .inr ⟨?_,c,(a5 x z3).trans U,cellAt x c a7 _ a3⟩;show (relabel sc X.env).names.lookup x=zo .cell\/(relabel sc X.env).names.lookup x=zo .free;rw [Q1m,z3];show zo (if _ then NameKind.cell else NameKind.free)=_\/zo (if _ then NameKind.cell else NameKind.free)=_
     split
     ·exact .inl rfl
     ·exact .inr rfl
 ·rcases look x c e with z | ⟨_,z⟩
  ·obtain ⟨v,q⟩:=I.cell x c (c1 x c z);exact ⟨v,cellAt x c (c1 x c z) v q⟩
  ·exact ⟨_,z⟩
 ·rcases look x c e with z | ⟨z,_⟩
  ·exact I.freeC x c (c1 x c z)
  ·exact a2 c (by omega)
 ·unfold Q4u;show _=N'.length;rw [O2];exact ck.len
end
section
variable {X:Cx}
theorem Qu4 {x y:V} {us:List aB} (r:Vals [x,y] us):∃ u w,us=[u,w]/\RelV x u/\RelV y w:=by
 cases r with
 | cons a r=>
  cases r with
  | cons b r=>
   cases r with
   | nil=>exact ⟨_,_,rfl,a,b⟩
end
end L2
namespace PySem
open Sem (wp)
section
variable {prog:aN} {w:aL} {A:aQ} {E:aB->aC->Prop} {hp:Heap} {gs:Array GenState} {dr:Drawn} {tk:Nat} {sy:OsState}
variable {cn cq:Str} {kC kN:aA} {bas tl tB:List aB} {hd:Bool} {sns:List Str} {subs:List aB} {abb:Bool} {coll:Option Bool} {dic:Option aA} {j0 j1 j2 j3 j5:Option aB} {BB Bn newI nI initI inN:String} {tN:List aB}
theorem Q7i (J:ExcBaseFacts Bn newI inN tN) (B:tB.contains (.type Bn)=zb) (F:ExcBaseFacts BB nI initI tB) (T:OwnTail hp tB tl) {rest:List aB} {I:aA} {O:Obj} {Q:Fin->aC->Prop}
  (j:hp.get? kC=zo (excClassObj cn cq kC kN bas tl hd sns subs abb coll dic j0 j1 j2 j3 j5 newI)) {K:bQ} (X:K.In hp) (ei:bX K (.ref kC) "__init__" = zo (zo (.ref I))) (of:hp.get? I=zo O) (Z:O.cls=.type "function")
  (Y:∀ h',(∀ b o,hp.get? b=zo o->h'.get? b=zo o)->h'.get? (hp.objs.size + 1)=zo { cls:=.ref kC,data:=.fields #[.ref hp.objs.size,.none,.none,.none,.bool za,.none] }->aI (aJ prog w) A (call (.ref I) (.ref (hp.objs.size + 1) :: rest)) (fun r s'=>r=.none/\Q (.done (.ret (.ref (hp.objs.size + 1)))) s') E ⟨h',gs,dr,tk,sy⟩) (hz:rest.length<=sizeLine) :
  aI (aJ prog w) A (Builtin.«type.__call__» ⟨.ref kC :: rest,[]⟩) Q E ⟨hp,gs,dr,tk,sy⟩:=by
 repeat (first | with_reducible refine wpAny_loadPart_at j ?_ | with_reducible refine wpAny_madeBy_exc j ?_ | wp_step)
 refine codeAny_call_builtin_code (Code.quiet_builtin _ J.quiet) (wpAny_check_new_subU J B T j ?_);refine codeAny_exc_new_subU J B F T j ?_ hz;show aI _ _ _ _ _ _;obtain ⟨h2,e2⟩:∃ h2,(hp.push { cls:=.type "tuple",data:=.seq rest.toArray }).push { cls:=.ref kC,data:=.fields #[.ref hp.objs.size,.none,.none,.none,.bool za,.none] }=h2:=⟨_,rfl⟩;have kp:∀ b o,hp.get? b=zo o->h2.get? b=zo o:=fun b o q=>by rw [<- e2]; exact O1 _ (O1 _ q)
 have U:h2.get? (hp.objs.size + 1)=zo { cls:=.ref kC,data:=.fields #[.ref hp.objs.size,.none,.none,.none,.bool za,.none] }:=by rw [<- e2]; heap_get
 have ot:h2.get? hp.objs.size=zo { cls:=.type "tuple",data:=.seq rest.toArray }:=by rw [<- e2]; exact O1 _ (Heap.get?_push_at rfl rfl)
 rw [e2];have G:=kp _ _ j;have self:(bT kC :: tl).contains (.ref kC)=zb:=by simp
 unfold isInstance
 repeat (first | with_reducible refine wpAny_loadPart_at U ?_ | (with_reducible refine wpAny_isSubtype_exc G ?_; rw [self]) | wp_step)
 show aI _ _ (typeLookup (.ref kC) _) _ _ _;refine (fV (X.keeps kp) ei).at ?_;refine aw (aF ?_);unfold bindSpecial;refine aF (bH (T := "function") ⟨_,kp _ _ of,Z⟩ ?_);rw [bK (by decide)];refine aR (aF (ad (Y h2 kp U) (fun r s' z=>?_) fun _ _ z=>z))
 obtain ⟨rfl,z⟩:=z
 wp_walk
 exact z
theorem Qhh (O:ExcBaseFacts Bn newI inN tN) (z:tB.contains (.type Bn)=zb) (F:ExcBaseFacts BB nI initI tB) (T:OwnTail hp tB tl) {rest:List aB} {q:aA} {B:Obj} {Q:aB->aC->Prop}
  (j:hp.get? kC=zo (excClassObj cn cq kC kN bas tl hd sns subs abb coll dic j0 j1 j2 j3 j5 newI)) {K:bQ} (X:K.In hp) (J:bX K (.ref kC) "__init__" = zo (zo (.ref q))) (of:hp.get? q=zo B) (I:B.cls=.type "function")
  (G:∀ h',(∀ b o,hp.get? b=zo o->h'.get? b=zo o)->h'.get? (hp.objs.size + 1)=zo { cls:=.ref kC,data:=.fields #[.ref hp.objs.size,.none,.none,.none,.bool za,.none] }->aI (aJ prog w) (A.under (.builtin "type.__call__" ⟨.ref kC :: rest,[]⟩)) (call (.ref q) (.ref (hp.objs.size + 1) :: rest)) (fun r s'=>r=.none/\Q (.ref (hp.objs.size + 1)) s') E ⟨h',gs,dr,tk,sy⟩) (hz:rest.length<=sizeLine) :
  aI (aJ prog w) A (call (.ref kC) rest) Q E ⟨hp,gs,dr,tk,sy⟩:=by
 have U:=tc_lookup;have Y:=tc_bind (.ref kC);have ty:(⟨hp,gs,dr,tk,sy⟩:aC).TypeIs (.ref kC) "type" := ⟨_,j,rfl⟩;refine wpAny_call (codeAny_of_tree ?_);show aI _ _ (callAny (.ref kC) _) _ _ _
 repeat (any_goals (first | assumption | with_reducible refine wpAny_loadPart_at j ?_ | wp_step))
 refine ⟨rfl,?_⟩;exact codeAny_call_builtin_at (Code.quiet_builtin _ (by decide +kernel)) entry_typeCall (wpAny_check_type_call_sub j (Q7i (hz:=hz) O z F T j X J of I fun h' k m=>G h' k m))
end
section
variable {M:Model} {A:aQ} {E:aB->aC->Prop} {env:Env}
variable {cn cq:Str} {kC kN:aA} {bas tl:List aB} {hd:Bool} {sns:List Str} {subs:List aB} {abb:Bool} {coll:Option Bool} {dic:Option aA} {j0 j1 j2 j3 j5:Option aB} {newI:String}
theorem Qab {s:aC} {x:Sem aB} {Q:Flow->aC->Prop} (B:tl.contains (.type "BaseException")=zb) (J:A.handled=zl)
  (h:aI M A x (fun v s1=>∃ e t q,v=.ref e/\s1.heap.get? kC=zo (excClassObj cn cq kC kN bas tl hd sns subs abb coll dic j0 j1 j2 j3 j5 newI) /\
   s1.heap.get? e=zo { cls:=.ref kC,dict:=q,data:=.fields #[.ref t,.none,.none,.none,.bool za,.none] }/\E (.ref e) s1) E s):aI M A (raiseStmt env (zo x) zl) Q E s:=by
 have G:(bT kC :: tl).contains (.type "BaseException")=zb:=by rw [List.contains_cons,B,Bool.or_true]
 unfold raiseStmt;refine aF (ad h (fun v s1 z=>?_) fun _ _ z=>z)
 obtain ⟨e,t,q,rfl,j,I,z⟩:=z;obtain ⟨hp,gs,dr,tk,sy⟩:=s1
 repeat (first | with_reducible refine wpAny_loadPart_at I ?_ | with_reducible refine wpAny_loadPart_at j ?_ | (with_reducible refine wpAny_isSubtype_exc j ?_; rw [G]) | wp_step)
 exact wpAny_raiseNew_none J z
end
end PySem
namespace L2
open PySem PySem.Spec PyProof.Rows PySem.W PySem.Builtin.ObjectAttr
structure XSet (K:Frag) (C W:aA) (name:Str):Prop where
 sa:findIn K (.ref C) "__setattr__" = zo (zo (.builtin "object.__setattr__"))
 ob:mroIn K C (.type "object")=zo zb
 cls:∃ cd,clsIn K C=zo cd/\cd.mro=.ref C :: .ref W :: Vq/\cd.hasDict=zb
 no:findIn K (.ref C) name=zo zl
section
variable {prog:aN} {w:aL} {A:aQ} {E:aB->aC->Prop} {s:aC} {K:Frag} {x C W:aA} {name:Str} {v:aB}
theorem Qq9 {vs:Array aB} {Q:Unit->aC->Prop} (X:K.In s.heap) (S:XSet K C W name) (z:s.heap.get? x=zo { cls:=.ref C,data:=.fields vs })
  (hq:∀ h' tk,h'.get? x=zo { cls:=.ref C,dict:=zo s.heap.objs.size,data:=.fields vs }->h'.Ns1 s.heap.objs.size (fun y=>if y=name then zo v else zl) ->
   (∀ b o,b≠x->s.heap.get? b=zo o->h'.get? b=zo o)->Q () { s with heap:=h',toks:=tk }):aI (aJ prog w) A (setAttr (.ref x) name v) Q E s:=by
 have J:InstAt s.heap x { cls:=.ref C,data:=.fields vs } C zl:=⟨z,rfl,rfl,True.intro⟩;obtain ⟨cd,Y,hm,hd⟩:=S.cls;refine set_plain X J S.sa ?_;have j:=PySem.F.store_ValueError;have sub:Looks (aJ prog w) s.heap (isInstance (.ref x) (.type "object")) zb:=J.type.andThen (looks_mroIn X S.ob);refine codeAny_call_builtin j.slot.plain j.entry (@check_slot (aJ prog w) _ _ { s with toks:=s.toks + 1 } "object.__setattr__" "object" "__setattr__" (.ref x) [.str name s.toks,v] [] _ j.kind j.split sub (j.args (.ref x) (.str name s.toks) v) ?_);have lm:Looks (aJ prog w) s.heap (mroOf (.ref C)) cd.mro:=(looks_clsIn X Y).andThen .now;rw [osa_eq,refuse_eq];refine aF (aF (Looks.here (s:={ s with toks:=s.toks + 1 }) J.type (aF (Looks.here (s:={ s with toks:=s.toks + 1 }) lm ?_))));rw [hm,refuseLoop_ref,refuseLoop_ref,j.passes];refine aR (aF (Looks.here (s:={ s with toks:=s.toks + 1 }) J.type (aF (Looks.here (s:={ s with toks:=s.toks + 1 }) (looks_findIn X S.no) (aF (aR ?_))))))
 dsimp only;unfold storeInOwnDict;refine aF (aR (aF ?_));unfold ownDictForStores instanceDict;refine aF (wpAny_loadPart z (aF (Looks.here (s:={ s with toks:=s.toks + 1 }) (looks_clsIn X Y) ?_)));rw [hd];have U:(s.heap.push { cls:=.type "dict",data:=.dict #[] }).get? x=zo { cls:=.ref C,data:=.fields vs }:=O1 _ z;have xs:x≠s.heap.objs.size:=D9 (O8 z);have th:typeHasDict (.ref C)=zb:=rfl;dsimp only;rw [bL (by decide),bL (by rw [th]; decide)];refine aF (wpAny_alloc' ?_);refine aF (wpAny_update' U ?_);refine aR ?_;obtain ⟨h2,e2⟩:∃ h2,((s.heap.push { cls:=.type "dict",data:=.dict #[] }).update x fun o=>{ cls:=o.cls,dict:=zo s.heap.objs.size,data:=o.data,slots:=o.slots })=h2:=⟨_,rfl⟩
 have g2:h2.get? s.heap.objs.size=zo { cls:=.type "dict",data:=.dict #[] }:=by rw [<- e2]; exact (Heap.get?_update_ne _ _ _ _ xs.symm).trans (Heap.get?_push_at rfl rfl)
 have x2:h2.get? x=zo { cls:=.ref C,dict:=zo s.heap.objs.size,data:=.fields vs }:=by rw [<- e2]; exact L6 _ U rfl
 have k2:∀ b o,b≠x->s.heap.get? b=zo o->h2.get? b=zo o:=fun b o n q=>by rw [<- e2]; exact (Heap.get?_update_ne _ _ _ _ n).trans (O1 _ q)
 have n2:h2.Ns s.heap.objs.size (fun _=>zl):=⟨_,#[],_,g2,rfl,fun e he=>absurd he (by simp),fun _=>rfl⟩;show aI _ _ (storeInDict s.heap.objs.size (.str name s.toks) name v) _ _ _;rw [e2];unfold storeInDict newKeyGuard;refine aF (aR (aF (wpAny_nsSet1 (Heap.Ns1.of_empty n2) fun h' Z O=>?_)))
 obtain ⟨oD,a3,a2,I,B,G⟩:=Z.count (Within.cons name v Within.nil);refine aF (wpAny_lookBehind I (by rw [B]; exact pastItsLine_dict (F2 G (by rw [D4,cH,sizeLine_eq]; omega))) ?_);exact aR (hq h' _ ((O.2 x xs).trans x2) Z fun b o n q=>(O.2 b (D9 (O8 q))).trans (k2 b o n q))
end
end L2
namespace L2
open PySem PySem.Spec PyProof.Rows PySem.W
def XO (x C:aA) (dv:Option aA) (h:Heap):Prop:=∃ t,h.get? x=zo { cls:=.ref C,dict:=dv,data:=.fields #[.ref t,.none,.none,.none,.bool za,.none] }
theorem Qm2 {P:aN} {w:aL} {H:Hp} {h:Heap} {x C:aA} {j:Option aA} (o:XO x C j h):ObjOk P w H h x (.ext (XO x C j)):=
 ⟨o,o.elim fun t e=>⟨_,e⟩,fun h1 h2 ⟨t,e⟩ k=>⟨t,k _ e⟩⟩
structure XMade (K:Frag) (C W f:aA):Prop where
 lk:∃ nm q N bs sn sub ab col dd k0 k1 k2 k3 k5,K.lookup C=zo (excClassObj nm q C N bs (.ref W :: Vq) zb sn sub ab col dd k0 k1 k2 k3 k5 "ValueError.__new__")
 xw:excIn K W Vq "ValueError.__new__" = zb
 fi:findIn K (.ref C) "__init__" = zo (zo (.ref f))
 ff:∃ o,K.lookup f=zo o/\o.cls=.type "function"
 kp:keepIn K (.ref C)=zb
theorem XMade.tail {K:Frag} {C W f:aA} {h:Heap} (M:XMade K C W f) (X:K.In h):OwnTail h Vq (.ref W :: Vq):=by
 obtain ⟨tl,N,nm,B,bs,hdct,sn,sub,ab,col,dd,k0,k1,k2,k3,k5,mN,q,z,j,T⟩:=(Qhz (mg:=fun _=>zo (.ref W)) (x := "W") X rfl M.xw).obj
 exact .own q z j .base
section
variable {prog:aN} {w:aL} {A:aQ} {E:aB->aC->Prop} {s:aC} {K:Frag} {x C W f:aA}
theorem Qtz {u:aB} {Q:aB->aC->Prop} (X:K.In s.heap) (M:XMade K C W f) (o:XO x C zl s.heap)
  (z:∀ h',(∀ b o,b≠x->s.heap.get? b=zo o->h'.get? b=zo o)->XO x C zl h'->Q .none { s with heap:=h' }):aI (aJ prog w) A (call (.builtin "ValueError.__init__") [.ref x,u]) Q E s:=by
 obtain ⟨t,j⟩:=o;obtain ⟨nm,q,N,bs,sn,sub,ab,col,dd,k0,k1,k2,k3,k5,lk⟩:=M.lk;obtain ⟨hp,gs,dr,tk,sy⟩:=s;refine wpAny_call (codeAny_call_builtin PySem.F.excBase_ValueError.init.plain PySem.F.excBase_ValueError.initEntry (wpAny_check_init_subU dG (M.tail X) (X _ _ lk) j rfl ?_))
 wp_walk
 refine z _ (fun b o n e=>?_) ⟨hp.objs.size,?_⟩
 ·rw [F0 _ _ (Ne.symm n)];exact O1 _ e
 ·rw [L6 _ (O1 _ j) rfl];rfl
end
section
variable {X:Cx} {x C W f:aA}
structure XCall (K:Frag) (W:aA):Prop where
 ga:specialIn K (.ref W) "__getattribute__" = zo (zo (.builtin "type.__getattribute__"))
 rd:readsIn K W (.type "type")=zb
 fc:findCls K (.ref W) (.type "type") "__init__" = zo (.val (.builtin "ValueError.__init__"))
def tXI (K:Frag) (C W f:aA) (t:TA):TE:=fun σ H Q=>t σ H fun vs H1=>∃ x y,vs=[.ref x,y]/\H1 x=zo (.ext (XO x C zl))/\Q .non H1
theorem Qn0 {n:Str} {p apos pos:Pos} {a b:aD} {t:TA} {pl:Sem Bool} (M:XMade X.K C W f) (L:XCall X.K W) (hg:Gl X n) (Z:X.mg n=zo (.ref W)) (ha:PA X [a,b] t) (J:(n == ("__debug__" : Str))=za:=by decide)
  (G:aP [a,b] X.env=[(za,aM a X.env),(za,aM b X.env)]:=by rfl)
  (U:aM (.Call (.Attribute (.Name n p) "__init__" apos) [a,b] [] pos) X.env=(do
   let ov <- aM (.Name n p) X.env
   standAt apos.atName
   let (g,first) <- ag [ov] (getMethod ov "__init__" pl)
   callWith pos g first (aU pos (aP [a,b] X.env)) (backToKw pos (keywordEach [] X.env))):=by rfl) :
  PE X (.Call (.Attribute (.Name n p) "__init__" apos) [a,b] [] pos) (tXI X.K C W f t):=by
 intro pins s σ H Q I h;refine methodCall_KW (pl:=pl) (Ky I hg Z ?_ J) U;refine method_cls I.kIn L.ga (cls_value I.kIn L.rd L.fc (by first | rfl | kernel_rfl) ?_);have Y:Inv X pins σ H { s with toks:=s.toks + 1 }:=I.tok _;have O:=ha pos pins _ σ H _ Y h;rw [G] at O ⊢;refine Calls.callWith_builtin rfl (Calls.evalArgs_plain ?_);refine thn O fun us s2 ⟨vs,H2,j,r2,x,y,e,B,q⟩=>?_
 subst e;obtain ⟨u1,u2,rfl,r1,r3⟩:=Qu4 r2;cases r1;refine Qtz j.kIn M (j.hok x _ B).1 fun h' kk o=>?_
 refine ⟨.non,H2,?_,rfl,q⟩;have:=j.write (x:=x) (e:=x) (o:=.ext (XO x C zl)) (t':=s2.toks) (h':=h') (by rw [B]; exact trivial) (.inl rfl) kk (o.elim fun t e=>⟨_,e⟩) (Qm2 o);have eq:upd H2 x (.ext (XO x C zl))=H2:=by
  funext b
  by_cases z:b=x
  ·subst z; rw [Jg,B]
  ·rw [Qj z]
 rw [eq] at this;exact this
theorem Inv.trackO {pins:List (aA × Obj)} {σ:St} {H H':Hp} {s s1:aC} {a:aA} {O:HO} (J:Inv X pins σ H s) (U:∀ b,b∉X.ex) (h0:s.heap.get? a=zl) (I:Inv X pins σ H' s1) (G:H' a=zl) (o:ObjOk X.prog X.w (upd H' a O) s1.heap a O):Inv X pins σ (upd H' a O) s1:=by
 have j:∀ b u,s.heap.get? b=zo u->b≠a:=fun b u e z=>by rw [z,h0] at e; cases e
 have Y:∀ b u,X.s₀.heap.get? b=zo u->b≠a:=fun b u e=>by
  obtain ⟨u',e'⟩:=J.base.there b u e (U b);exact j b u' e'
 refine ⟨I.ok,I.os,I.bare,?_,I.loc,I.cell,?_,?_,?_,?_,I.len⟩
 ·have B:=I.base;exact ⟨B.keep,B.slot,fun c o e n hx=>by rw [Qj (Y c o e)]; exact B.free c o e n hx,B.there,
   fun c ts e=>by have:=B.tups c ts e; rw [Qj (Qm this G)]; exact this,
   fun c o ts e=>by have:=B.frzs c o ts e; rw [Qj (Qm this G)]; exact this,
   fun c ps e=>by obtain ⟨more,q⟩:=B.tbls c ps e; exact ⟨more,by rw [Qj (Qm q G)]; exact q⟩⟩
 ·obtain ⟨m,⟨o,_,_,e,_⟩,_⟩:=J.loc;rw [Qj (j _ _ e)]; exact I.free
 ·intro x c e;obtain ⟨v,o,z,_⟩:=J.cell x c e;rw [Qj (j _ _ z)]; exact I.freeC x c e
 ·intro p hp;obtain ⟨e,n,ne,nf,d⟩:=I.pin p hp;exact ⟨e,by rw [Qj (j _ _ (J.pin p hp).1)]; exact n,ne,nf,d⟩
 ·intro c u q
  by_cases Z:c=a
  ·subst Z;rw [Jg] at q; cases q;exact o
  ·rw [Qj Z] at q;exact (I.hok c u q).stay (fun _ _ _ r=>r) (fun c' r=>by rw [Qj (Qm r G)]; exact r) fun c' ts r=>by rw [Qj (Qm r G)]; exact r
def tXS (C:aA) (name:Str) (ta tv:TE):TS:=fun D σ H=>tv σ H fun y H1=>ta σ H1 fun v H2=>∃ x,v=.ref x/\H2 x=zo (.ext (XO x C zl)) /\
 ∀ dx,H2 dx=zl->dx≠x->D.nx σ (upd (upd H2 x (.ext (XO x C (zo dx)))) dx (.xd [(name,y)]))
theorem Qr5 {o value:aD} {name:Str} {ta tv:TE} {pos pos':Pos} (B:∀ b,b∉X.ex) (S:XSet X.K C W name) (ha:PE X o ta) (hv:PE X value tv) (hs:swapsWith value (zo (.Attribute o name pos')) pos.line X.env=pure za:=by rfl) :
  PS X (.Assign [.Attribute o name pos'] value pos) (tXS C name ta tv):=by
 intro pins s σ H D I h;refine plainObj_wpAny_Assign_Attribute (thn (hv pins s σ H _ I h) fun u s1 ⟨y,H1,I1,ry,q⟩=>thn (ha pins s1 σ H1 _ I1 q) fun O s2 ⟨v,H2,j,U,x,ex,G,q2⟩=>?_) hs
 subst ex;obtain rfl:O=bT x:=U;obtain ⟨t,J⟩:=(j.hok x _ G).1;refine Qq9 j.kIn S J fun h' tk o' Y kk=>?_
 have xs:s2.heap.objs.size≠x:=br (O8 J);have Z:=j.write (x:=x) (e:=x) (o:=.ext (XO x C (zo s2.heap.objs.size))) (t':=tk) (h':=h') (by rw [G]; exact trivial) (.inl rfl) kk ⟨_,o'⟩ (Qm2 ⟨t,o'⟩);refine ⟨σ,_,?_,q2 s2.heap.objs.size j.fresh xs⟩;refine Inv.trackO j B (Heap.get?_none_of_le (O7 _)) Z (by rw [Qj xs]; exact j.fresh) ⟨_,Y,fun g=>?_⟩;show RelO ([(name,y)].lookup g) (if g=name then zo u else zl)
 by_cases z:g=name
 ·subst z;rw [bK rfl,E3,show (g == g)=zb by simp];exact ry
 ·have:(g == name)=za:=by simpa using z
  rw [bL z,E3,this];exact trivial
end
end L2
namespace PySem
open Sem (wp)
def Q1b (o:Obj):Option aB:=match o.data with | .fields vs=>vs[2]? | _=>zl
theorem Qfg {o:Obj} {vs:Array aB} {x:aB} (j:o.data=.fields vs):Q1b (bq (·.setIfInBounds 1 x) o)=Q1b o:=by
 have d:=cD j (·.setIfInBounds 1 x);unfold Q1b;rw [d,j];exact ey (by decide)
section
variable {M:Model} {A:aQ} {E:aB->aC->Prop} {s:aC} {bs:Heap} {en:Env} {ou:List Env} {L e:aA} {ob:Obj} {vs:Array aB} {a0:aB} {Q:Unit->aC->Prop}
theorem Q9j {B:aB} {nx:Bool} (fr:A.frames=zo (en :: ou)) (ff:s.heap.FunFrames bs (en :: ou)) (ef:en.frame=zo L) (oe:s.heap.get? e=zo ob) (kb:bs.StaysIn s.heap) (ne:bs.get? e=zl)
  (I:ob.data=.fields vs) (Z:1 < vs.size) (z0:vs[0]?=zo a0)
  (h:∀ h',Heap.LeftW bs (en :: ou) e ob.cls a0 s.heap h'->(∃ o',h'.get? e=zo o'/\o'.dict=ob.dict/\Q1b o'=Q1b ob)->Q () { s with heap:=h' }) :
  aI M A (do
   let a <- frameOf en
   let pl <- entryPlaceOf L nx
   let b <- EntryCells.newEntry B a .none (aZ L) .none pl
   setField (.ref e) 1 b) (fun _ s'=>aI M A (setFlight (.ref e) zl) Q E s') E s:=by
 have nf:e∉(en :: ou).filterMap (·.frame):=fun m=>by
  obtain ⟨_,o,q,n⟩:=ff.mem m;rw [oe] at q;cases q;exact n vs I
 refine aF (wpAny_frameOf_fun fr ff ef fun g gs=>?_);refine aF (wpAny_entryPlaceOf fun pl hp=>?_);unfold EntryCells.newEntry newFields;refine aF (ao ?_ (hp.sizeOk5 _ _ _ _ _));have ge:g.get? e=zo ob:=(gs.2.1 e nf).trans oe;have gb:bs.StaysIn g:=fun b o q=>(gs.2.1 b fun m=>by
  rw [(ff.mem m).1] at q;cases q).trans (kb b o q)
 obtain ⟨tb,U⟩:∃ tb:List aB,[B,.ref L,.none,aZ L,.none] ++ (if pl.isEmpty then bR 6 bZ else pl)=tb:=⟨_,rfl⟩;have l5:3 < tb.length/\tb[3]?=zo (aZ L):=by
  rw [<- U];exact ⟨by simp,by simp⟩
 rw [U];have O:=O1 (h:=g) { cls:=.type "traceback",dict:=zl,data:=.fields tb.toArray } ge;refine wpAny_setField O I Z ?_;have te:g.objs.size≠e:=br (O8 ge);have Y:=cD I (·.setIfInBounds 1 (bT g.objs.size));have j:=L6 (bq (·.setIfInBounds 1 (bT g.objs.size))) O (dF Y);have G:=(F0 (g.push { cls:=.type "traceback",dict:=zl,data:=.fields tb.toArray })
  (bq (·.setIfInBounds 1 (bT g.objs.size))) te.symm).trans
  (D6 g rfl)
 unfold setFlight;refine aF (aX j Y (x:=.ref g.objs.size) (by simp [Z]) ?_);rw [bK (show (bT g.objs.size != bZ)=zb by simp)];refine wpAny_setField G rfl (by simpa using l5.1) (h _ ?_ ?_)
 all_goals
  obtain ⟨g3,J⟩:∃ g3,((g.push { cls:=.type "traceback",dict:=zl,data:=.fields tb.toArray }).update e (bq (·.setIfInBounds 1 (bT g.objs.size))))=g3:=⟨_,rfl⟩;rw [J] at j G ⊢
 ·have kp:∀ b o,b≠e->g.get? b=zo o->(g3.update g.objs.size (bq (·.setIfInBounds 3 ((zl:Option aA).elim bZ fun f=>aZ f)))).get? b=zo o:=fun b o n q=>by
   rw [F0 _ _ (br (O8 q)),<- J,F0 _ _ n.symm];exact O1 _ q
  have nr:∀ b o,s.heap.get? b=zo o->(∀ ws,o.data≠.fields ws)->b≠e:=fun b o q n z=>by
   rw [z,oe] at q;cases q;exact n vs I
  refine ⟨fun b o q=>kp b o (fun z=>by rw [z,ne] at q; cases q) (gb b o q),ff.of_keeps fun b o q n=>?_,?_,fun b o q n=>?_⟩
  ·obtain ⟨sl,z⟩:=gs.2.2 b o q;exact ⟨_,kp b _ (nr b o q n) z,rfl⟩
  ·refine ⟨_,_,g.objs.size,_,_,?_,⟨eX _ _,?_⟩,Y,by simp [Z],gb.fresh,te,L6 _ G (dF (cD rfl _)),cD rfl _,?_⟩
   ·rw [F0 _ _ te];exact j
   ·rw [ey (by decide)];exact z0
   ·have:=l5.1;simp [this]
  ·obtain ⟨sl,z⟩:=gs.2.2 b o q;exact ⟨sl,kp b _ (nr b o q n) z⟩
 ·refine ⟨_,(F0 _ _ te).trans j,?_,Qfg I⟩;cases ob with
  | mk c d dt sl=>cases dt <;> first | rfl | cases I
theorem Qf6 (G:A.frames=zo (en :: ou)) (ff:s.heap.FunFrames bs (en :: ou)) (j:en.frame=zo L) (B:s.heap.get? e=zo ob) (kb:bs.StaysIn s.heap) (ne:bs.get? e=zl)
  (q:ob.data=.fields vs) (z:vs[1]?=zo .none) (I:vs[0]?=zo a0)
  (h:∀ h',Heap.LeftW bs (en :: ou) e ob.cls a0 s.heap h'->(∃ o',h'.get? e=zo o'/\o'.dict=ob.dict/\Q1b o'=Q1b ob)->Q () { s with heap:=h' }):aI M A (leaving en (.ref e)) Q E s:=by
 unfold leaving noteFrame;simp only [j];refine aF (aF (aX B q z ?_));rw [bL (by decide)];exact Q9j G ff j B kb ne q (cw.mp z).1 I h
theorem Qf5 {cls:aB} {Z:Option aA} (fr:A.frames=zo (en :: ou)) (O:en.frame=zo L) (fl:Heap.FlyingW bs (en :: ou) e cls a0 s.heap) (dd:∃ o',s.heap.get? e=zo o'/\o'.dict=Z/\Q1b o'=zo .none)
  (h:∀ h',Heap.FlyingW bs ou e cls a0 h'->(∃ o',h'.get? e=zo o'/\o'.dict=Z/\Q1b o'=zo .none)->s.heap.UpToSlots h'->Q () { s with heap:=h' }):aI M A (leaving en (.ref e)) Q E s:=by
 obtain ⟨kb,ne,ff,oe,Y,T,oT,ts,I,⟨hc,z0⟩,od,z1,nT,Te,hT,dT,z3⟩:=fl;obtain ⟨o',j,G,J⟩:=dd;rw [I] at j;cases j;unfold leaving noteFrame;simp only [O];refine aF (aF (aX I od z1 ?_));rw [bK (show (bT T != bZ)=zb by simp)];refine aF (aX hT dT z3 ?_);rw [bL (show ¬ ((bZ == aZ L)=zb) by simp [aZ])];refine aF (wpAny_setField hT dT (cw.mp z3).1 ?_);have B:∀ b,b≠T->(s.heap.update T (bq (·.setIfInBounds 3 bZ))).get? b=s.heap.get? b:=fun b n=>F0 _ _ n.symm
 have U:∀ b o,s.heap.get? b=zo o->(∀ Y,o.data≠.fields Y)->b≠T:=fun b o q n z=>by
  rw [z,hT] at q;cases q;exact n ts dT
 refine Q9j fr (ff.of_keeps fun b o q n=>⟨o,(B b (U b o q n)).trans q,rfl⟩) O ((B e Te.symm).trans I) (fun b o q=>(B b fun z=>by rw [z,nT] at q; cases q).trans (kb b o q)) ne od (cw.mp z1).1 z0 fun h' lf d'=>?_
 obtain ⟨k1,⟨_,_,k2⟩,k3,k4⟩:=lf;rw [hc] at k3;exact h h' ⟨k1,ne,k2,k3⟩ (d'.imp fun o q=>⟨q.1,q.2.1.trans G,q.2.2.trans J⟩) fun b o q n=>k4 b o ((B b (U b o q n)).trans q) n
theorem Q6v {j:aB} {nx:Bool} (fr:A.frames=zo (en :: ou)) (ff:s.heap.FunFrames bs (en :: ou)) (ef:en.frame=zo L) (U:s.heap.get? e=zo ob) (kb:bs.StaysIn s.heap) (ne:bs.get? e=zl)
  (B:ob.data=.fields vs) (z1:1 < vs.size) (z0:vs[0]?=zo a0)
  (h:∀ h',Heap.NotedW bs (en :: ou) e ob.cls a0 (aZ L) s.heap h'->(∃ o',h'.get? e=zo o'/\o'.dict=ob.dict/\Q1b o'=Q1b ob)->Q () { s with heap:=h' }) :
  aI M A (do
   let a <- frameOf en
   let pl <- entryPlaceOf L nx
   let b <- EntryCells.newEntry j a .none (aZ L) .none pl
   setField (.ref e) 1 b) Q E s:=by
 have nf:e∉(en :: ou).filterMap (·.frame):=fun m=>by
  obtain ⟨_,o,q,n⟩:=ff.mem m;rw [U] at q;cases q;exact n vs B
 refine aF (wpAny_frameOf_fun fr ff ef fun g gs=>?_);refine aF (wpAny_entryPlaceOf fun pl hp=>?_);unfold EntryCells.newEntry newFields;refine aF (ao ?_ (hp.sizeOk5 _ _ _ _ _));have ge:g.get? e=zo ob:=(gs.2.1 e nf).trans U;have Z:bs.StaysIn g:=fun b o q=>(gs.2.1 b fun m=>by
  rw [(ff.mem m).1] at q;cases q).trans (kb b o q)
 obtain ⟨tb,J⟩:∃ tb:List aB,[j,.ref L,.none,aZ L,.none] ++ (if pl.isEmpty then bR 6 bZ else pl)=tb:=⟨_,rfl⟩;have l5:3 < tb.length/\tb[3]?=zo (aZ L):=by
  rw [<- J];exact ⟨by simp,by simp⟩
 rw [J];have I:=O1 (h:=g) { cls:=.type "traceback",dict:=zl,data:=.fields tb.toArray } ge;have te:g.objs.size≠e:=br (O8 ge);have d3:=cD B (·.setIfInBounds 1 (bT g.objs.size));have G:=L6 (bq (·.setIfInBounds 1 (bT g.objs.size))) I (dF d3);have Y:=(F0 (g.push { cls:=.type "traceback",dict:=zl,data:=.fields tb.toArray })
  (bq (·.setIfInBounds 1 (bT g.objs.size))) te.symm).trans
  (D6 g rfl)
 refine wpAny_setField I B z1 (h _ ?_ ?_)
 ·have kp:∀ b o,b≠e->g.get? b=zo o->((g.push { cls:=.type "traceback",dict:=zl,data:=.fields tb.toArray }).update e (bq (·.setIfInBounds 1 (bT g.objs.size)))).get? b=zo o:=fun b o n q=>by
   rw [F0 _ _ n.symm];exact O1 _ q
  have nr:∀ b o,s.heap.get? b=zo o->(∀ ws,o.data≠.fields ws)->b≠e:=fun b o q n z=>by
   rw [z,U] at q;cases q;exact n vs B
  refine ⟨fun b o q=>kp b o (fun z=>by rw [z,ne] at q; cases q) (Z b o q),ff.of_keeps fun b o q n=>?_,?_,fun b o q n=>?_⟩
  ·obtain ⟨O,z⟩:=gs.2.2 b o q;exact ⟨_,kp b _ (nr b o q n) z,rfl⟩
  ·refine ⟨_,_,g.objs.size,_,_,G,⟨eX _ _,?_⟩,d3,by simp [z1],Z.fresh,te,Y,rfl,by simpa using l5.2⟩;rw [ey (by decide)];exact z0
  ·obtain ⟨O,z⟩:=gs.2.2 b o q;exact ⟨O,kp b _ (nr b o q n) z⟩
 ·refine ⟨_,G,?_,Qfg B⟩;cases ob with
  | mk c d dt O=>cases dt <;> first | rfl | cases B
theorem Qk3 {cls:aB} {Z:Option aA} (fr:A.frames=zo (en :: ou)) (O:en.frame=zo L) (fl:Heap.FlyingW bs (en :: ou) e cls a0 s.heap) (dd:∃ o',s.heap.get? e=zo o'/\o'.dict=Z/\Q1b o'=zo .none)
  (h:∀ h',Heap.HeldW bs (en :: ou) e cls a0 L h'->(∃ o',h'.get? e=zo o'/\o'.dict=Z/\Q1b o'=zo .none)->s.heap.UpToSlots h'->Q () { s with heap:=h' }):aI M A (noteFrame (.ref e) en) Q E s:=by
 obtain ⟨kb,ne,ff,oe,Y,T,oT,ts,I,⟨hc,z0⟩,od,z1,nT,Te,hT,dT,z3⟩:=fl;obtain ⟨o',j,G,J⟩:=dd;rw [I] at j;cases j;unfold noteFrame;simp only [O];refine aF (aX I od z1 ?_);rw [bK (show (bT T != bZ)=zb by simp)];refine aF (aX hT dT z3 ?_);rw [bL (show ¬ ((bZ == aZ L)=zb) by simp [aZ])];refine aF (wpAny_setField hT dT (cw.mp z3).1 ?_);have B:∀ b,b≠T->(s.heap.update T (bq (·.setIfInBounds 3 bZ))).get? b=s.heap.get? b:=fun b n=>F0 _ _ n.symm
 have U:∀ b o,s.heap.get? b=zo o->(∀ Y,o.data≠.fields Y)->b≠T:=fun b o q n z=>by
  rw [z,hT] at q;cases q;exact n ts dT
 refine Q6v fr (ff.of_keeps fun b o q n=>⟨o,(B b (U b o q n)).trans q,rfl⟩) O ((B e Te.symm).trans I) (fun b o q=>(B b fun z=>by rw [z,nT] at q; cases q).trans (kb b o q)) ne od (cw.mp z1).1 z0 fun h' nt d'=>?_
 obtain ⟨k1,k2,k3,k4⟩:=nt;rw [hc] at k3;exact h h' ⟨k1,ne,k2,k3⟩ (d'.imp fun o q=>⟨q.1,q.2.1.trans G,q.2.2.trans J⟩) fun b o q n=>k4 b o ((B b (U b o q n)).trans q) n
theorem Q6b {l:List Env} {cls fv:aB} {dv:Option aA} (kb:bs.StaysIn s.heap) (ne:bs.get? e=zl) (ff:s.heap.FunFrames bs l) (tr:s.heap.TracedAtW bs e cls a0 fv) (dd:∃ o',s.heap.get? e=zo o'/\o'.dict=dv/\Q1b o'=zo .none)
  (h:∀ h',Heap.FlyingW bs l e cls a0 h'->(∃ o',h'.get? e=zo o'/\o'.dict=dv/\Q1b o'=zo .none)->s.heap.UpToSlots h'->Q () { s with heap:=h' }):aI M A (setFlight (.ref e) zl) Q E s:=by
 obtain ⟨oe,J,T,oT,ts,he,hc,Y,z1,nT,B,U,dT,z3⟩:=tr;obtain ⟨o',I,G,O⟩:=dd;have s3:=(cw.mp z3).1;have j:∀ b,b≠T->(s.heap.update T (bq (·.setIfInBounds 3 ((zl:Option aA).elim bZ fun f=>aZ f)))).get? b=s.heap.get? b:=fun b n=>F0 _ _ n.symm
 have Z:∀ b o,s.heap.get? b=zo o->(∀ J,o.data≠.fields J)->b≠T:=fun b o q n z=>by
  rw [z,U] at q;cases q;exact n ts dT
 unfold setFlight;refine aF (aX he Y z1 ?_);rw [bK (show (bT T != bZ)=zb by simp)];refine wpAny_setField U dT s3 (h _ ⟨fun b o q=>(j b fun z=>by rw [z,nT] at q; cases q).trans (kb b o q),ne,ff.of_keeps fun b o q n=>⟨o,(j b (Z b o q n)).trans q,rfl⟩,?_⟩ ⟨o',(j e B.symm).trans I,G,O⟩ fun b o q n=>⟨o.slots,(j b (Z b o q n)).trans q⟩)
 exact ⟨oe,J,T,_,_,(j e B.symm).trans he,hc,Y,z1,nT,B,L6 _ U (dF (cD dT _)),cD dT _,by simp [s3]⟩
end
end PySem
namespace L2
open PySem PySem.Spec PyProof.Rows
def CXD (P:aN) (w:aL):CXT:=fun outer H s E e s'=>∃ a cls a0 dv H' B,e=bT a/\Fly P w outer H H' s s' a cls a0 B/\(∃ o',s'.heap.get? a=zo o'/\o'.dict=dv/\Q1b o'=zo .none)/\E cls dv H'
theorem Ym {P:aN} {w:aL} {X:Cx}:Kf (CXD P w) X E0:=fun _ _ _ _ _ _ _ h=>by
 obtain ⟨_,_,_,_,_,_,_,_,_,z⟩:=h;exact z.elim
def Qdd (H:Hp) (a:aA):Hp:=fun b=>if b=a then zl else H b
theorem Q7d {H:Hp} {a b:aA} (h:b≠a):Qdd H a b=H b:=by unfold Qdd; rw [bL h]
theorem Q2q {H:Hp} {a:aA}:Qdd H a a=zl:=by unfold Qdd; rw [bK rfl]
theorem Inv.drop {X:Cx} {pins:List (aA × Obj)} {σ:St} {H:Hp} {s:aC} {a:aA} {B:Heap->Prop} (I:Inv X pins σ H s) (h:H a=zo (.ext B)):Inv X pins σ (Qdd H a) s:=by
 have nn:∀ b,H b=zl->Qdd H a b=zl:=fun b e=>by
  by_cases z:b=a
  ·subst z; exact Q2q
  ·rw [Q7d z]; exact e
 have j:∀ b o,H b=zo o->o≠.ext B->Qdd H a b=zo o:=fun b o e n=>by
  rw [Q7d fun z=>?_]
  ·exact e
  ·subst z; rw [h] at e; exact n (ba e).symm
 refine ⟨I.ok,I.os,I.bare,?_,I.loc,I.cell,nn _ I.free,fun x c e=>nn _ (I.freeC x c e),fun p hp=>?_,fun b u q=>?_,I.len⟩
 ·have u:=I.base;exact ⟨u.keep,u.slot,fun b o e n G=>nn _ (u.free b o e n G),u.there,fun b xs e=>j _ _ (u.tups b xs e) (by simp),fun b o v e=>j _ _ (u.frzs b o v e) (by simp),fun b ps e=>by
   obtain ⟨more,q⟩:=u.tbls b ps e;exact ⟨more,j _ _ q (by simp)⟩⟩
 ·obtain ⟨e,n,ne,J,d⟩:=I.pin p hp;exact ⟨e,nn _ n,ne,J,d⟩
 ·by_cases z:b=a
  ·subst z; rw [Q2q] at q; cases q
  ·rw [Q7d z] at q;exact (I.hok b u q).stay (fun _ _ _ r=>r) (fun c r=>j _ _ r (by simp)) fun c ts r=>j _ _ r (by simp)
section
variable {P:aN} {w:aL} {K:bQ} {mg:Str->Option aB} {base:Heap} {N:List Str} {qual:Str} {scope:Scope} {f:aA} {cd:aB} {A:aQ} {outer:List Env} {s:aC} {H:Hp} {E:XK}
abbrev cxD (P:aN) (w:aL) (K:bQ) (mg:Str->Option aB) (base:Heap) (N:List Str) (qual:Str) (scope:Scope) (f:aA) (cd:aB) (A:aQ) (outer:List Env) (s:aC) (H:Hp) (E:XK):Cx:=Qhe (CXD P w) P w K mg base N qual scope f cd A outer s H E
theorem Qc9 {pins:List (aA × Obj)} {σ:St} {H1:Hp} {s1:aC} (I:Inv (cxD P w K mg base N qual scope f cd A outer s H E) pins σ H1 s1) {b:aA} {o:Obj} (e:s.heap.get? b=zo o) (n:b∉frs outer):b∉frs (cxD P w K mg base N qual scope f cd A outer s H E).stack:=fun j=>by
 rcases E5.mp (I.stkSub b j) with z | z
 ·have h1:b < s.heap.objs.size:=O8 e;have h2:s.heap.objs.size<=(cxD P w K mg base N qual scope f cd A outer s H E).env.locals:=I.ok.above;rw [<- z] at h2;exact absurd (D2 h1 h2) (bo _)
 ·exact n z
theorem Qp4 {b:aA} (h:b∈frs outer):b∈frs (cxD P w K mg base N qual scope f cd A outer s H E).stack:=by
 show b∈frs (_ :: outer);unfold frs at h ⊢;rw [dR]
 split
 ·exact h
 ·exact O9 _ h
theorem Qum {pins:List (aA × Obj)} {σ:St} {H1:Hp} {s1:aC} {B:Heap} {e C t:aA} {dv:Option aA} (I:Inv (cxD P w K mg base N qual scope f cd A outer s H E) pins σ H1 s1)
  (U:∀ b o,b≠e->s1.heap.get? b=zo o->B.get? b=zo o) (a5:∀ o,s1.heap.get? e=zo o->∃ vs,o.data=.fields vs) (new:s.heap.get? e=zl) (hH:H1 e=zl)
  (oe:B.get? e=zo { cls:=.ref C,dict:=dv,data:=.fields #[.ref t,.none,.none,.none,.bool za,.none] }) (hE:E (.ref C) dv H1) :
  (cxD P w K mg base N qual scope f cd A outer s H E).xe (.ref e) { s1 with heap:=B }:=by
 have a6:∀ en∈(cxD P w K mg base N qual scope f cd A outer s H E).stack,∀ b,en.frame=zo b->b∈e :: frs (cxD P w K mg base N qual scope f cd A outer s H E).stack:=fun en he b j=>O9 _ (eB.mpr ⟨en,he,j⟩)
 have ff:=PySem.W.funFrames_hide I.stack a6;have a4:∀ b o,s1.heap.get? b=zo o->(∀ vs,o.data≠.fields vs)->b≠e:=fun b o q n z=>by
  subst z;obtain ⟨vs,d⟩:=a5 o q;exact n vs d
 have hid:(dP s1.heap (e :: frs (cxD P w K mg base N qual scope f cd A outer s H E).stack)).get? e=zl:=fO _ D1;have kb:(dP s1.heap (e :: frs (cxD P w K mg base N qual scope f cd A outer s H E).stack)).StaysIn B:=fun b o q=>U b o (fun z=>by rw [z,hid] at q; cases q) (fN _ q)
 show aI (aJ P w) _ (leaving _ (.ref e)) _ _ _;refine Qf6 (bs:=dP s1.heap (e :: frs (cxD P w K mg base N qual scope f cd A outer s H E).stack)) (a0:=.ref t) (s:={ s1 with heap:=B }) I.ok.frames (ff.of_keeps fun b o q n=>⟨o,U b o (a4 b o q n) q,rfl⟩) rfl oe kb hid rfl rfl rfl fun h2 lf dd=>?_
 obtain ⟨k1,⟨_,_,k2⟩,k3,k4⟩:=lf;have noex:∀ b:aA,b∉(cxD P w K mg base N qual scope f cd A outer s H E).ex:=fun b z=>absurd (show b∈([]:List aA) from z) (by simp)
 have G:∀ b o,s.heap.get? b=zo o->b≠e:=fun b o q z=>by rw [z,new] at q; cases q
 have J:∀ b o,s.heap.get? b=zo o->b∉frs outer->b∉e :: frs (cxD P w K mg base N qual scope f cd A outer s H E).stack:=fun b o q n m=>by
  rcases E5.mp m with z | z
  ·exact G b o q z
  ·exact Qc9 I q n z
 refine ⟨e,.ref C,.ref t,dv,H1,_,rfl,⟨I.os,I.bare,⟨k1,hid,k2,k3⟩,fun b u q=>?_,fun b o q n j=>?_,fun b o q j=>?_,fun b o q j=>?_,fun b o q n=>I.base.free b o q n (noex b),I.base.tups,I.base.frzs,I.base.tbls⟩,dd,hE⟩
 ·have ne:∀ c v,H1 c=zo v->c∉e :: frs (cxD P w K mg base N qual scope f cd A outer s H E).stack:=fun c v z m=>by
   rcases E5.mp m with m | m
   ·rw [m,hH] at z; cases z
   ·rw [I.stkFree c m] at z; cases z
  refine (I.hok b u q).stay (fun c v Y r=>dQ _ r ?_) (fun _ r=>r) fun _ _ r=>r
  rcases Y with rfl | Y
  ·exact ne c u q
  ·exact ne c _ Y
 ·exact dQ _ (I.base.keep b o q n j (noex b)) (J b o q j)
 ·obtain ⟨o',z⟩:=I.base.there b o q (noex b);exact ⟨o',dQ _ z (J b o q j)⟩
 ·obtain ⟨sl,z⟩:=I.base.slot b o q (I.ok.frf b j) j (noex b);obtain ⟨_,o',a2,Z⟩:=I.ok.funs.mem j;have O:s.heap.get? b=zo o':=a2;rw [q] at O;cases O;obtain ⟨a3,z'⟩:=k4 b _ (U b _ (G b o q) z) Z;exact ⟨a3,z'⟩
theorem Q9:Kf (CXD P w) (cxD P w K mg base N qual scope f cd A outer s H E) E:=by
 intro pins σ H1 s1 e s' I h;obtain ⟨a,cls,a0,dv,H',B,rfl,F,dd,hE⟩:=h;show aI (aJ P w) _ (leaving _ (.ref a)) _ _ _;have noex:∀ b:aA,b∉(cxD P w K mg base N qual scope f cd A outer s H E).ex:=fun b z=>absurd (show b∈([]:List aA) from z) (by simp)
 refine Qf5 I.ok.frames rfl F.fl dd fun h2 x1 d2 x2=>?_
 refine ⟨a,cls,a0,dv,H',B,rfl,⟨F.os.trans I.os,F.bare,x1,F.hokB,fun b o q n j=>?_,fun b o q j=>?_,fun b o q j=>?_,fun b o q n=>?_,fun b xs q=>F.tups b xs (I.base.tups b xs q),fun b o u q=>F.frzs b o u (I.base.frzs b o u q),fun b ps q=>?_⟩,d2,hE⟩
 ·exact F.keep b o (I.base.keep b o q n j (noex b)) (I.base.free b o q n (noex b)) (Qc9 I q j)
 ·obtain ⟨o',z⟩:=I.base.there b o q (noex b);exact F.there b o' z (Qc9 I q j)
 ·obtain ⟨sl,z⟩:=I.base.slot b o q (I.ok.frf b j) j (noex b);obtain ⟨_,o',O,J⟩:=I.ok.funs.mem j;have G:s.heap.get? b=zo o':=O;rw [q] at G;cases G;obtain ⟨Z,Y⟩:=F.slot b _ z (Qp4 j);obtain ⟨U,z2⟩:=x2 b _ Y J;exact ⟨U,z2⟩
 ·obtain ⟨o',z⟩:=I.base.there b o q (noex b);exact F.free b o' z (I.base.free b o q n (noex b))
 ·obtain ⟨m1,e1⟩:=I.base.tbls b ps q;obtain ⟨m2,e2⟩:=F.tbls b _ e1;exact ⟨m1 ++ m2,by rw [e2,fP]⟩
end
section
variable {X:Cx}
def Q9v (X:Cx) (E:XK):Prop:=∀ (pins:List (aA × Obj)) (σ:St) (H0 H1:Hp) (s0 s1:aC) (hx:Heap) (e C t:aA) (dv:Option aA),Inv X pins σ H0 s0->s0.heap.get? e=zl->Inv X pins σ H1 s1->(∀ b o,b≠e->s1.heap.get? b=zo o->hx.get? b=zo o) ->
 (∀ o,s1.heap.get? e=zo o->∃ vs,o.data=.fields vs)->H1 e=zl->hx.get? e=zo { cls:=.ref C,dict:=dv,data:=.fields #[.ref t,.none,.none,.none,.bool za,.none] }->E (.ref C) dv H1->X.xe (.ref e) { s1 with heap:=hx }
theorem Qjf {x:Str} {C:aA} {e:aD} {t:TA} {E:XK} {np cpos pos:Pos} (j:X.calm=zb) (RO:Q9v X E) (hg:Gl X x) (Z:X.mg x=zo (.ref C)) (q:bY X.K C Vq "ValueError.__new__" = zb) (ha:PA X [e] t)
  (O:(x == ("__debug__" : Str))=za:=by decide) (Y:aP [e] X.env=[(za,aM e X.env)]:=by rfl):PS X (.Raise (zo (.Call (.Name x np) [e] [] cpos)) zl pos) (Qua C E t):=by
 intro pins s σ H D I h;obtain ⟨tl,N,nm,qn,bs,hdct,sn,sub,ab,col,dd,k0,k1,k2,k3,k5,mN,hC,hN,U,T⟩:=(Qhz I.mod.kin Z q).obj;refine wpAny_Raise_call_subU (C:=C) (nm:=nm) (q:=qn) (N:=N) (bs:=bs) (bm:=tl) (hdct:=hdct) (sn:=sn) (sub:=sub) (ab:=ab) (col:=col) (dd:=dd) (k0:=k0) (k1:=k1) (k2:=k2) (k3:=k3) (k5:=k5)
  dG (by decide +kernel) dG (mN:=mN) (T.hasType (by decide +kernel)) (I.ok.hd j) (by rw [Y]; rfl) U (Ky I hg Z ⟨rfl,?_⟩ O)
 have G:=ha cpos pins s σ H _ I h;rw [Y] at G ⊢;refine Calls.evalArgs_plain (ad G (fun us s1 ⟨vs,H1,B,r,z,hE⟩=>?_) fun _ _ y=>y)
 refine ⟨rfl,by rw [<- r.length]; exact z,B.bk _ _ hC,hN.keeps B.bk,T.keeps B.bk,fun h' e' J=>?_⟩;obtain ⟨t,oe,_,_⟩:=J.there;exact RO pins σ H1 H1 s1 s1 h' e' C t zl B J.new B (fun b o _ k=>J.keeps b o k) (fun o k=>by rw [J.new] at k; cases k) (B.hok.none_of J.new) oe hE
def Q7s (C:aA) (name:Str):Sp:=fun vs H Q _=>∃ (x:aA) (v:V),vs=[.ref x,v]/\H x=zo (.ext (XO x C zl))/\∀ dx,H dx=zl->dx≠x->Q .non (upd (upd H x (.ext (XO x C (zo dx)))) dx (.xd [(name,v)]))
def Qqd (C:aA) (name:Str) (E:XK) (t:TA):TS:=fun _ σ H=>t σ H fun vs H1=>∃ v,vs=[v]/\∀ dx,H1 dx=zl->E (.ref C) (zo dx) (upd H1 dx (.xd [(name,v)]))
theorem Qje {x name:Str} {C W f:aA} {fd:aO} {k:Nat} {ps:List Str} {e:aD} {t:TA} {E:XK} {np cpos pos:Pos} (O:X.calm=zb) (RO:Q9v X E) (M:XMade X.K C W f) (G:FnOk X.prog X.w X.K X.mg X.base CX0 k f fd ps (Q7s C name)) (hr:Room (k + 1) X.A)
  (hb:Binds X.K fd ps []) (hg:Gl X x) (hm:X.mg x=zo (.ref C)) (ha:PA X [e] t)
  (a2:(x == ("__debug__" : Str))=za:=by decide) (he:aP [e] X.env=[(za,aM e X.env)]:=by rfl):PS X (.Raise (zo (.Call (.Name x np) [e] [] cpos)) zl pos) (Qqd C name E t):=by
 intro pins s σ H D I h;obtain ⟨nm,q,N,bs,sn,sub,ab,col,dd,k0,k1,k2,k3,k5,lk⟩:=M.lk;obtain ⟨of,lf,cf⟩:=M.ff;have oC:∀ {H':Hp} {s':aC},Inv X pins σ H' s'->s'.heap.get? C=zo (excClassObj nm q C N bs (.ref W :: Vq) zb sn sub ab col dd k0 k1 k2 k3 k5 "ValueError.__new__"):=fun J=>J.kIn _ _ lk
 rw [arm_exec_Raise];refine aF (wpAny_standAt (Qab (kC:=C) (cn:=nm) (cq:=q) (kN:=N) (bas:=bs) (tl:=.ref W :: Vq) (hd:=zb) (sns:=sn) (subs:=sub) (abb:=ab) (coll:=col) (dic:=dd) (j0:=k0) (j1:=k1) (j2:=k2) (j3:=k3) (j5:=k5) (newI := "ValueError.__new__") (by simp) (I.ok.hd O) ?_));refine aF (ad (wpAny_Call_Name_kw (Ky I hg hm (dE (h₀:=X.base) (Q:=fun v s1=>∃ e t dv,v=.ref e/\s1.heap.get? C=zo (excClassObj nm q C N bs (.ref W :: Vq) zb sn sub ab col dd k0 k1 k2 k3 k5 "ValueError.__new__")/\s1.heap.get? e=zo { cls:=.ref C,dict:=dv,data:=.fields #[.ref t,.none,.none,.none,.bool za,.none] }/\X.xe (.ref e) s1) I.ok.mod.kin M.kp (thn (ha cpos pins s σ H _ I h) fun us s1 ⟨vs,H1,B,r,v,ev,hE⟩=>⟨B.kIn,?_⟩) (by rw [he]; rfl) rfl) a2)) (fun v s3 z=>aF (wpAny_standAt (aR z))) fun _ _ z=>z)
 subst ev;obtain ⟨u,rfl,ru⟩:=r.one;obtain ⟨hp,gs,dr,tk,sy⟩:=s1;refine Qhh (rest:=[u]) dG (by decide +kernel) dG (M.tail B.kIn) (oC B) B.kIn M.fi (B.kIn _ _ lf) cf (fun h' kp oe=>?_) (show 1<=sizeLine by decide);obtain ⟨a,ea⟩:∃ a,hp.objs.size + 1=a:=⟨_,rfl⟩;rw [ea] at oe ⊢;have la:hp.objs.size<=a:=by rw [<- ea]; exact cQ _
 have na:H1 a=zl:=B.hok.fresh la;have ga:hp.get? a=zl:=Heap.get?_none_of_le la;have Z:Inv X pins σ (upd H1 a (.ext (XO a C zl))) ⟨h',gs,dr,tk,sy⟩:=B.laid (t':=tk) (h':=h') kp la (Qm2 ⟨_,oe⟩);have sp:Q7s C name [.ref a,v] (upd H1 a (.ext (XO a C zl))) (fun v' H'=>v'=.non/\∃ dx,H1 dx=zl/\dx≠a/\H'=upd (upd (upd H1 a (.ext (XO a C zl))) a (.ext (XO a C (zo dx)))) dx (.xd [(name,v)])) E0:=
  ⟨a,v,rfl,Jg,fun dx hn j=>⟨rfl,dx,by rwa [Qj j] at hn,j,rfl⟩⟩
 have r2:Vals [V.ref a,v] [bT a,u]:=.cons rfl (.cons ru .nil);have hl:([bT a,u] ++ []).length=ps.length:=by
  have:=G.len _ _ _ _ sp;simpa using this
 refine wpAny_call (bE (G.run _ X.stack _ _ ⟨[bT a,u],[]⟩ [bT a,u] _ _ E0 (hr.make C [u] []) (Z.env0.make C [u] []) (hb _ [bT a,u] Z.kIn hl) r2 sp) fun r s' z=>?_)
 cases r with
 | error e=>exact False.elim z
 | ok fl=>
  cases fl with
  | ret u'=>
   obtain ⟨v',H',I3,rv,ev,dx,hn,j,eH⟩:=Z.after z;subst ev;obtain rfl:u'=bZ:=rv;have U:H' a=zo (.ext (XO a C (zo dx))):=by rw [eH,Qj (Ne.symm j),Jg]
   obtain ⟨t2,o2⟩:=(I3.hok a _ U).1;have eD:Qdd H' a=upd H1 dx (.xd [(name,v)]):=by
    funext b
    by_cases Y:b=a
    ·rw [Y,Q2q,Qj (Ne.symm j),na]
    ·rw [Q7d Y,eH]
     by_cases zd:b=dx
     ·rw [zd,Jg,Jg]
     ·rw [Qj zd,Qj zd,Qj Y,Qj Y]
   refine ⟨rfl,a,t2,zo dx,rfl,oC I3,o2,?_⟩;have:=RO pins σ H1 (Qdd H' a) _ s' s'.heap a C t2 (zo dx) B ga (I3.drop U) (fun b o _ k=>k) (fun o k=>by rw [o2] at k; cases k; exact ⟨_,rfl⟩) Q2q o2 (by rw [eD]; exact hE dx hn);exact this
  | next=>exact False.elim z
  | brk=>exact False.elim z
  | cont=>exact False.elim z
end
theorem Yz {P:aN} {w:aL} {K:bQ} {mg:Str->Option aB} {base:Heap} {N:List Str} {qual:Str} {scope:Scope} {f:aA} {cd:aB} {A:aQ} {outer:List Env} {s:aC} {H:Hp} {E:XK} :
  Q9v (cxD P w K mg base N qual scope f cd A outer s H E) E:=fun pins σ H0 H1 s0 s1 Z e C t dv Y U I B j J O G=>by
 refine Qum I B j ?_ J O G;cases q:s.heap.get? e with
 | none=>rfl
 | some o=>
  obtain ⟨o',z⟩:=Y.base.there e o q (fun z=>absurd (show e∈([]:List aA) from z) (by simp))
  rw [U] at z; cases z
theorem Fun.okD {P:aN} {w:aL} {K:bQ} {mg:Str->Option aB} {base:Heap} {x qual:Str} {st:aK} {f:aA} {fd:aO} {N ps:List Str} {k:Nat} {sp:Sp} (F:Fun K x qual st f fd) (S:FnScope N ps (Qb st)) (len:∀ vs H Q E,sp vs H Q E->vs.length=ps.length)
  (q:∀ (j:aB) (A:aQ) (outer:List Env) (s:aC) (H:Hp) (vs:List V) (Q:VK) (E:XK),Room k (A.deeper (envOfC qual (Qb st) s.heap.objs.size f j))->sp vs H Q E ->
   ∃ t,PSs (cxD P w K mg base N qual (Qb st) f j A outer s H E) (Zt st) t/\t { nx:=fun _ H'=>Q .non H',rt:=Q } (start N vs) H):FnOk P w K mg base (CXD P w) (k + 1) f fd ps sp:=by
 obtain ⟨O,U,kV,G,Y,an,j,ct,I,rfl,lk,B⟩:=F.ex;exact Qtv lk B S len fun A outer s H vs Q E J z=>q j A outer s H vs Q E J z
end L2
namespace L2
open PySem PySem.Spec PyProof.Rows PySem.W PySem.Builtin.Getset_descriptor
def IsXD (x C:aA) (dv:Option aA) (h:Heap):Prop:=∃ ox vs,h.get? x=zo ox/\ox.cls=.ref C/\ox.dict=dv/\ox.data=.fields vs/\vs[2]?=zo .none
theorem IsXD.x {x C:aA} {j:Option aA} {h:Heap} (I:IsXD x C j h):IsX x C h:=let ⟨q,_,a,b,_⟩:=I; ⟨q,a,b⟩
theorem Qsp {P:aN} {w:aL} {H:Hp} {h:Heap} {a C:aA} {j:Option aA} (I:IsXD a C j h):ObjOk P w H h a (.ext (IsXD a C j)):=
 ⟨I,(let ⟨o,_,e,_⟩:=I; ⟨o,e⟩),fun h1 h2 ⟨o,vs,e,c⟩ k=>⟨o,vs,k o e,c⟩⟩
structure XGet (K:Frag) (C:aA) (name:Str):Prop where
 xc:XCls K C
 hd:∃ cd,clsIn K C=zo cd/\cd.hasDict=zb
 no:findIn K (.ref C) name=zo zl
section
variable {prog:aN} {w:aL} {A:aQ} {E:aB->aC->Prop} {h:Heap} {g:Array GenState} {d:Drawn} {t:Nat} {os:OsState} {K:Frag} {x C dx:aA} {name:Str} {v:aB} {m:Str->Option aB}
theorem Qq6 {M:Model} (X:K.In h) (F:XGet K C name) (I:IsXD x C (zo dx) h) (n:h.Ns1 dx m) (hv:m name=zo v):Looks M h (Builtin.ObjectAttr.find (.ref x) (.ref C) name) (.value v):=by
 obtain ⟨U,vs,e1,e2,e3,B,_⟩:=I;obtain ⟨j,G,Z⟩:=Qbm n;obtain ⟨cd,z,hd⟩:=F.hd;have J:InstAt h x U C (zo j):=⟨e1,e2,by unfold notCls; rw [B],by rw [e3]; exact G⟩;have Y:=looks_findIn (M:=M) X F.no;have O:Looks M h (Builtin.ObjectAttr.getOf zl) zl:=.now;have q:Looks M h (Builtin.ObjectAttr.dataDescriptor? zl zl) zl:=.now;have L4:Looks M h (Builtin.ObjectAttr.inOwnDict name (.ref x)) (zo v):=looks_own X J z (by unfold PySem.W.ownOf; rw [hd,bK rfl]; show lookIn name j=_; rw [Z,hv]);exact Y.andThen (O.andThen (q.andThen (L4.andThen (Looks.tag .now))))
theorem Qm3 {tk:Tok} {Q:Fin->aC->Prop} (X:K.In h) (F:XGet K C name) (I:IsXD x C (zo dx) h) (n:h.Ns1 dx m) (B:m name=zo v) (j:Q (.done (.ret v)) ⟨h,g,d,t,os⟩) :
  aI (aJ prog w) A (Builtin.«object.__getattribute__» ⟨[.ref x,.str name tk],[]⟩) Q E ⟨h,g,d,t,os⟩:=by
 have q:=I.x.type (M:=aJ prog w);have z:=Qq6 (M:=aJ prog w) X F I n B;unfold Builtin.«object.__getattribute__»;refine aF (aR ?_);refine aF (aR ?_);refine aF (q.at (aF (z.at ?_)));exact aR j
theorem Qq7 {tk:Tok} {R:Result->aC->Prop} (X:K.In h) (F:XGet K C name) (I:IsXD x C (zo dx) h) (n:h.Ns1 dx m) (j:m name=zo v) (q:R (.ok (.ret v)) ⟨h,g,d,t,os⟩) :
  codeAny (aJ prog w) A (.call (.builtin "BaseException.__getattribute__") ⟨[.ref x,.str name tk],[]⟩) R ⟨h,g,d,t,os⟩:=
 codeAny_call_builtin PySem.F.attr_ValueError.ga.plain PySem.F.entry_bexc_ga (Qm4 X F.xc I.x (Qm3 X F I n j q))
theorem Qq8 {j:Bool} {Q:aB->aC->Prop} (X:K.In h) (F:XGet K C name) (I:IsXD x C (zo dx) h) (n:h.Ns1 dx m) (Z:m name=zo v) (hh:handedIn v=zb) (z:Q v ⟨h,g,d,t + 1,os⟩):aI (aJ prog w) A (getAttr (.ref x) name j) Q E ⟨h,g,d,t,os⟩:=by
 have J:=I.x.type (M:=aJ prog w);have O:=looks_findIn (M:=aJ prog w) X F.xc.ga;have B:=looks_findIn (M:=aJ prog w) X F.xc.gt;have q:(cx "BaseException.__getattribute__" == cx "object.__getattribute__")=za:=by decide +kernel
 have U:(onTheHeap (bT C) && cx "BaseException.__getattribute__" == cx "object.__getattribute__")=za:=by rw [q]; rfl
 have Y:(j && onTheHeap (cx "BaseException.__getattribute__"))=za:=by rw [show onTheHeap (cx "BaseException.__getattribute__")=za from rfl,dZ]
 have f3:=PySem.F.attr_ValueError.ga.bind (.ref x);have G:=handedOut_of hh;unfold getAttr getAttrBy;refine aF (wpAny_mkText (aw (aF (J.at (aF (O.at ?_))))))
 repeat (any_goals (first | assumption | with_reducible refine B.at ?_ | wp_step))
 refine Qq7 X F I n Z ?_;dsimp only;rw [G];exact aR z
end
section
variable {X:Cx}
def tXF (K:Frag) (name:Str) (ta:TE):TE:=fun σ H Q=>ta σ H fun v H1=>∃ (a C dx:aA) (i:Int) (fs:List (Str × V)),v=.ref a/\H1 a=zo (.ext (IsXD a C (zo dx)))/\H1 dx=zo (.xd fs)/\fs.lookup name=zo (.int i)/\XGet K C name/\Q (.int i) H1
theorem Qre {e:aD} {name:Str} {ta:TE} {pos:Pos} (K:Frag) (Y:PE X e ta) (J:ai e name X.env (aM e X.env)=aM e X.env:=by rfl) (hK:X.K=K:=by rfl):PE X (.Attribute e name pos) (tXF K name ta):=by
 subst hK;intro pins s σ H Q I h;refine Qiw J (thn (Y pins s σ H _ I h) fun u s1 ⟨v,H1,z,O,a,C,dx,i,fs,Z,U,hd,hl,G,q⟩=>?_)
 subst Z;obtain rfl:u=bT a:=O;obtain ⟨mA,n,r⟩:=z.hok dx _ hd;have j:=r name;rw [hl] at j;cases B:mA name with
 | none=>rw [B] at j; exact False.elim j
 | some y=>
  rw [B] at j;obtain ⟨tk,rfl⟩:∃ tk,y=.int i tk:=j;obtain ⟨hp,gs,dr,a2,sy⟩:=s1;exact Qq8 z.kIn G (z.hok a _ U).1 n B rfl ⟨.int i,H1,z.tok _,⟨_,rfl⟩,q⟩
end
section
variable {X:Cx} {pins:List (aA × Obj)} {σ:St} {H H':Hp} {s s':aC} {a C:aA}
end
end L2
namespace L2
open PySem PySem.Spec PyProof.Rows
section
variable {X:Cx}
theorem Qsv {CX:CXT} {f:aA} {fd:aO} {k:Nat} {ps:List Str} {sp:Sp} {g:Str} {p cpos:Pos} {e:aD} {es:List aD} {ta:TA} {pins:List (aA × Obj)} {σ:St} {H:Hp} {s:aC} {E1:aB->aC->Prop} {Z:VK} {O:XK}
  (F:FnOk X.prog X.w X.K X.mg X.base CX k f fd ps sp) (hr:Room k X.A) (hm:X.mg g=zo (.ref f)) (J:bg X.K (.ref f)=zb) (hb:Binds X.K fd ps []) (ha:PA X.nox (e :: es) ta) (hg:Gl X g)
  (I:Inv X pins σ H s) (h:ta σ H fun vs H1=>sp vs H1 Z O) (hE:∀ H1 s1 v s',Inv X pins σ H1 s1->CX X.stack H1 s1 O v s'->E1 v s')
  (Y:(g == ("__debug__" : Str))=za) (he:aP (e :: es) X.env=(za,aM e X.env) :: aP es X.env) (U:(aU cpos (aP es X.env)).any (·.1)=za) :
  aI (aJ X.prog X.w) X.A (aM (.Call (.Name g p) (e :: es) [] cpos) X.env) (EP X pins σ Z) E1 s:=by
 refine wpAny_Call_Name_kw (Ky I hg hm ?_ Y);refine dE (h₀:=X.base) I.ok.mod.kin J (ad (ha cpos pins s σ H _ (I.wish _) h) (fun us s1 ⟨vs,H1,I1,r,q⟩=>⟨I1.unwish.kIn,?_⟩) fun _ _ z=>z.elim) he U
 have j:=I1.unwish;have hl:us.length=ps.length:=by rw [<- r.length]; exact F.len _ _ _ _ q
 have B:=hb s1 us j.kIn (by rw [L5]; exact hl);rw [L5] at B;refine wpAny_call (bE (F.run X.A X.stack s1 H1 ⟨us,[]⟩ us vs Z O hr j.env0 B r q) fun rr s' G=>?_)
 cases rr with
 | error v=>exact hE H1 s1 v s' j G
 | ok fl=>
  cases fl with
  | ret u=>exact j.after G
  | next=>exact False.elim G
  | brk=>exact False.elim G
  | cont=>exact False.elim G
end
section
variable {X:Cx}
end
end L2
namespace L2
open PySem PySem.Spec PyProof.Rows PySem.W PySem.Builtin.Getset_descriptor
section
variable {X:Cx} {pins:List (aA × Obj)} {σ:St} {H H':Hp} {s s':aC} {a C:aA}
theorem Qsi {cn n:Str} {i:Nat} {CC:aA} {a0:aB} {B:Heap} {dv:Option aA} {np hpos:Pos} {b₀:aK} {suite:List aK} {ts:TS} {D:Ends} (hN:X.N.Nodup) (hi:X.N[i]?=zo n) (hk:X.env.scope.names.lookup n=zo .local) (c3:∀ b,b∉X.ex)
  (b0:X.stack=X.env :: X.outer) (b9:X.env.frame=zo X.env.locals) (hg:Gl X cn) (hm:X.mg cn=zo (.ref CC)) (hx:exmOne X.K (.ref C) (.ref CC)=zo zb) (I:Inv X pins σ H s) (F:Fly X.prog X.w X.stack H H' s s' a (.ref C) a0 B) (dd:∃ o',s'.heap.get? a=zo o'/\o'.dict=dv/\Q1b o'=zo .none)
  (O:PSs (xh X a) (b₀ :: suite) ts) (q:ts { nx:=fun b6 H2=>D.nx (b6.set i zl) H2,rt:=D.rt } (σ.set i (zo (.ref a))) (upd H' a (.ext (IsXD a C dv)))) (c0:(cn == ("__debug__" : Str))=za:=by decide) :
  aI (aJ X.prog X.w) X.A (noteFrame (.ref a) X.env) (fun _ b3=>aI (aJ X.prog X.w) X.A (setFlight (.ref a) zl) (fun _ b2=>aI (aJ X.prog X.w) X.A (handleBy (.ref a) X.env [.ExceptHandler (zo (.Name cn np)) (zo n) (b₀ :: suite) hpos]) (SP X pins D) X.xe b2) X.xe b3) X.xe s':=by
 have Z:(X.env.scope.kind == .class || (X.env.scope.kind == .module && X.env.locals != X.env.globals))=za:=by rw [I.ok.kind]; rfl
 have b4:=F.fl;rw [b0] at b4;refine Qk3 (by rw [<- b0]; exact I.ok.frames) b9 b4 dd fun h4 j d4 a7=>?_
 refine Q6b (s:={ s' with heap:=h4 }) j.1 j.2.1 j.2.2.1 j.2.2.2 d4 fun h5 G d5 a6=>?_
 obtain ⟨n1,n2⟩:=F.new;have I5:Inv X pins σ H' { s' with heap:=h5 }:=F.inv I G.1 (a7.trans a6);obtain ⟨ob,c5,b1⟩:=G.there;have LT:Looks (aJ X.prog X.w) h5 (typeOf (.ref a)) (.ref C):=IsX.type ⟨ob,c5,b1⟩;refine wpAny_handleBy_cons (codeAny_handlers_test (Ky (X:=xh X a) (I5.suite a) hg hm ?_ c0)) (by intro z; cases z);refine (exm_one (h:=h5) I5.kIn LT hx).at ?_;refine codeAny_handlers_suite_as ?_;refine Q6b (s:={ s' with heap:=h5 }) G.1 G.2.1 G.2.2.1 G.2.2.2.at d5 fun h6 a9 d6 b8=>?_
 have I6:Inv X pins σ H' { s' with heap:=h6 }:=F.inv I a9.1 ((a7.trans a6).trans b8);obtain ⟨c4,b5,Y,a4,U,_⟩:=a9.first;obtain ⟨o',a8,c1,a3⟩:=d6;rw [Y] at a8;cases a8;have I7:Inv X pins σ (upd H' a (.ext (IsXD a C dv))) { s' with heap:=h6 }:=Inv.track I c3 n1 I6 n2 (Qsp ⟨c4,b5,Y,a4,c1,U,by unfold Q1b at a3; rw [U] at a3; exact a3⟩);refine Q7n (X:=xh X a) (v:=.ref a) (I7.suite a) hN hi (.inl hk) rfl (fun s8 I8=>?_) (.inr hk);refine ad (O pins s8 _ _ _ I8 q) (fun f s9 h9=>?_) fun _ _ z=>z.elim
 cases f with
 | next=>
  obtain ⟨b7,H9,I9,q9⟩:=h9;have J:=I9.unsuite I.ok;obtain ⟨m,hn,hl⟩:=id J.loc;exact wpAny_nameGoes_keeps hk hn Z fun c2 v a2 a5=>⟨_,_,J.forget hN hi hl a2 a5,q9⟩
 | brk=>obtain ⟨_,_,_,z⟩:=h9; exact z.elim
 | cont=>obtain ⟨_,_,_,z⟩:=h9; exact z.elim
 | ret u=>
  obtain ⟨v9,b7,H9,I9,r9,q9⟩:=h9;have J:=I9.unsuite I.ok;obtain ⟨m,hn,hl⟩:=id J.loc;exact wpAny_nameGoes_keeps hk hn Z fun c2 v a2 a5=>⟨v9,_,_,J.forget hN hi hl a2 a5,r9,q9⟩
def Qx9 (sp:Sp) (ta:TA) (i:Nat) (ok:aB->aA->Prop) (ts:TS) (set:V->St->St):TS:=fun D σ H=>ta σ H fun vs H1=>sp vs H1 (fun v H2=>D.nx (set v σ) H2)
 (fun c dv H2=>∃ C,c=.ref C/\ok c C/\∀ a,H2 a=zl->ts { nx:=fun σ3 H3=>D.nx (σ3.set i zl) H3,rt:=D.rt } (σ.set i (zo (.ref a))) (upd H2 a (.ext (IsXD a C dv))))
theorem Qmt {f:aA} {fd:aO} {k:Nat} {ps:List Str} {sp:Sp} {g cn n:Str} {i:Nat} {CC:aA} {p cpos G np hpos pos:Pos} {e:aD} {es:List aD} {ta:TA} {b₀:aK} {suite:List aK} {ts:TS}
  (F:FnOk X.prog X.w X.K X.mg X.base (CXD X.prog X.w) k f fd ps sp) (hr:Room k X.A) (hm:X.mg g=zo (.ref f)) (O:bg X.K (.ref f)=zb) (hb:Binds X.K fd ps []) (ha:PA X.nox (e :: es) ta)
  (hN:X.N.Nodup) (hi:X.N[i]?=zo n) (hk:X.env.scope.names.lookup n=zo .local) (j:∀ a,PSs (xh X a) (b₀ :: suite) ts) (U:X.mg cn=zo (.ref CC))
  (hg:Gl X g:=by rfl) (a7:Gl X cn:=by rfl) (a6:∀ b,b∉X.ex:=by intro b z; exact absurd (show b∈([]:List aA) from z) (by simp)) (a3:X.stack=X.env :: X.outer:=by rfl) (a2:X.env.frame=zo X.env.locals:=by rfl)
  (a5:(g == ("__debug__" : Str))=za:=by decide) (J:(cn == ("__debug__" : Str))=za:=by decide) (he:aP (e :: es) X.env=(za,aM e X.env) :: aP es X.env:=by rfl) (a4:(aU cpos (aP es X.env)).any (·.1)=za:=by rfl)
  (Y:swapsWith (.Call (.Name g p) (e :: es) [] cpos) zl G.line X.env=pure za:=by rfl) :
  PS X (.Try [.Expr (.Call (.Name g p) (e :: es) [] cpos) G] [.ExceptHandler (zo (.Name cn np)) (zo n) (b₀ :: suite) hpos] [] [] pos) (Qx9 sp ta i (fun c _=>dH X.K c (.ref CC)=zo zb) ts (fun _ σ=>σ)):=by
 intro pins s σ H D I h;refine wpAny_Try_except (wpAny_execs_cons (wpAny_Expr_any (thn (Qsv F hr hm O hb ha hg I h ?_ a5 he a4) fun v s1 ⟨x,H1,Z,r1,q1⟩=>wpAny_execs_nil (wpAny_execs_nil ⟨σ,H1,Z,q1⟩)) I.quiet Y))
 intro H1 s1 v s' Z hx;obtain ⟨a,cls,a0,dv,H',B,rfl,Fl,dd,C,rfl,hok,q⟩:=hx;exact Qsi hN hi hk a6 a3 a2 a7 U hok Z Fl dd (j a) (q a Fl.new.2) J
end
end L2
namespace L2
open PySem PySem.Spec PyProof.Rows
section
variable {X:Cx}
end
end L2
namespace L2
open PySem PySem.Spec PyProof.Rows PySem.W PySem.Builtin.Getset_descriptor
section
variable {X:Cx} {pins:List (aA × Obj)} {σ:St} {H H':Hp} {s s':aC} {a C:aA}
end
section
variable {X:Cx}
end
end L2
namespace L2
open PySem PySem.Spec PyProof.Rows PySem.SeqAt
section
variable {prog:aN} {w:aL} {A:aQ} {E:aB->aC->Prop} {s:aC}
end
section
variable {X:Cx}
end
end L2
namespace L2
open PySem PySem.Spec PyProof.Rows PySem.SeqAt
section
variable {X:Cx}
def Qub (val:Str->V) (te:TE):TE:=fun σ H Q=>te σ H fun y H1=>∃ w,y=.str w/\Q (val w) H1
theorem Qea {n:Str} {a:aA} {o:Obj} {es:Array DictEntry} {U:Nat} {val:Str->V} {e:aD} {te:TE} {p apos cpos:Pos} (hg:Gl X n) (Y:X.mg n=zo (.ref a)) (lk:X.K.lookup a=zo o) (ty:o.cls=.type "dict") (O:o.ExactDict) (od:o.data=.dict es U) (ks:KeysOf (J9 X.prog X.w) es) (hs:(a == af)=za)
  (hv:∀ w,RelV (val w) ((findBy (J9 X.prog X.w).is es (.inr w)).getD .none)) (he:PE X e te) (G:(n == ("__debug__" : Str))=za:=by decide)
  (base:ai (.Name n p) "get" X.env (aM (.Name n p) X.env)=aM (.Name n p) X.env:=by rfl)
  (few:((aU cpos (aP [e] X.env)).all (fun x=>!x.1) && (backToKw cpos (keywordEach [] X.env)).all (fun x=>x.1.isSome)
   && decide (([e]:List aD).length + ([]:List Keyword).length + (if ([]:List Keyword).isEmpty then 0 else 1) < 30))=zb:=by rfl)
  (line:(apos.endLine == cpos.line)=zb:=by rfl) (trees:aU cpos (aP [e] X.env)=[(za,aM e X.env)]:=by rfl) :
  PE X (.Call (.Attribute (.Name n p) "get" apos) [e] [] cpos) (Qub val te):=by
 intro pins s σ H Q I h;have j:∀ {H':Hp} {s':aC},Inv X pins σ H' s'->s'.heap.get? a=zo o:=fun J=>J.kIn _ _ lk
 refine wpAny_Call_method base few line PySem.F.plainAttrs_dict gH PySem.F.type_dict_get (Ky I hg Y ?_ G);refine ⟨⟨o,j I,ty⟩,fun b z=>⟨o,?_,?_⟩,?_⟩
 ·cases z; exact j I
 ·exact O.2.1
 ·rw [trees];refine Calls.callWith_builtin rfl (Calls.evalArgs_plain (Calls.spliced_cons (thn (he pins s σ H _ I h) fun iv s2 ⟨y,H2,B,ry,w,Z,q⟩=>Calls.spliced_nil ?_)))
  subst Z;obtain ⟨tk,rfl⟩:∃ tk,iv=.str w tk:=ry;have mo:s2.heap.MapOf (J9 X.prog X.w) a (fun k=>findBy (J9 X.prog X.w).is es k):=⟨o,es,U,j B,O,od,ks,fun _=>rfl⟩
  refine call_meetsIn gH ⟨o,j B,ty⟩ PySem.F.entry_dict_get (PySem.F.args_dict_get_2 _ _) (meets_dict_get (J9 X.prog X.w) a (k:=.inr w) (by simp [J9,Kg,bj]) hs) ⟨_,mo,⟨val w,H2,B.tok _,hv w,q⟩⟩
end
end L2
namespace L2
open PySem PySem.Spec PyProof.Rows
section
variable {X:Cx}
def Qmn (K:bQ):R2:=fun x y H Q=>∃ a b ys,x=.ref a/\y=.ref b/\SqT K H a []/\SqT K H b ys/\Q (.ref b) H
theorem Qnc:OpR X (aW .Add) (Qmn X.K):=by
 intro pins s σ H x y v u Q I O ry h;obtain ⟨a,b,ys,rfl,rfl,Y,J,q⟩:=h;cases O;cases ry;obtain ⟨its,r1,U,_⟩:=I.tuple Y;obtain ⟨j,r2,p2,_⟩:=I.tuple J;have e1:its=[]:=r1.nil_iff.mpr rfl;subst e1;obtain ⟨⟨cls,dd,data,Z⟩,ho,hc,n,hd⟩:=id U;obtain ⟨⟨G,z,data2,B⟩,ho2,hc2,n2,hd2⟩:=id p2;simp only at hc hd hc2 hd2;subst hc hd hc2 hd2;exact concat_meets ⟨_,ho,rfl⟩ ⟨_,ho2,rfl⟩ noFill_tuple_add seq_tuple_add eO eP (eQ _ _)
  (tuple_addW0 a b ([]:List aB).toArray j.toArray n n2 dd z Z B (by simp)) ⟨ho,ho2,⟨.ref b,H,I,rfl,q⟩⟩
abbrev Qxw (K:bQ):R2:=fun x y H Q=>Qt8 K x y H Q\/Qmn K x y H Q
theorem Qrt:OpR X (aW .Add) (Qxw X.K):=op_catT.or Qnc
end
def PTs (X:Cx) (ifs:List aD) (t:TT):Prop:=
 ∀ (pins:List (aA × Obj)) (s:aC) (σ:St) (H:Hp) (Q:Bool->Hp->Prop),Inv X pins σ H s->t σ H Q ->
  aI (aJ X.prog X.w) X.A (forIn ifs zb fun c r=>if r=zb then do let ok <- isTrue c X.env (aM c X.env); pure (ForInStep.yield ok) else pure (ForInStep.yield r)) (TP X pins σ Q) X.xe s
def Qxa:TT:=fun _ H Q=>Q zb H
theorem Qr2 {X:Cx}:PTs X [] Qxa:=fun _ _ _ H _ I h=>wpAny_tests_nil ⟨H,I,h⟩
theorem Qr1 {X:Cx} {c:aD} {t:TT} (h:PT X c t):PTs X [c] t:=fun pins s σ H Q I q=>wpAny_tests_one (h pins s σ H Q I q)
def Qbu (J:It) (cap:List (Option Nat)) (g:TG) (tt:TT) (te:TE) (σ:St) (H1:Hp) (Q:VK):Prop:=∀ acc,H1 acc=zl ->
 ∃ W:Nat->Nat->List V->St->Hp->Prop,(∃ m,W 0 m [] (Q4u cap σ) (upd H1 acc (.lst [])))/\∀ i m ys σ' H',W i m ys σ' H'->H' acc=zo (.lst ys) /\
  ((J.stop i H'/\Q (.ref acc) H')\/(J.go i H'/\ys.length < sizeLine/\∀ x H2,J.yld i H' x H2->g x σ' H2 fun σ3 H3=>tt σ3 H3 fun b H4=>
    if b=zb then te σ3 H4 fun y H5=>H5 acc=zo (.lst ys)/\∃ m',m' < m/\W (i + 1) m' (ys ++ [y]) σ3 (upd H5 acc (.lst (ys ++ [y])))
    else ∃ m',m' < m/\W (i + 1) m' ys σ3 H4))
def Qc8 (cap:List (Option Nat)) (wi:TI) (g:TG) (tt:TT) (te:TE):TE:=fun σ H Q=>wi σ H fun J H1=>Qbu J cap g tt te σ H1 Q
section
variable {prog:aN} {w:aL} {A:aQ} {R:Result->aC->Prop} {s:aC}
theorem Qaz {elt j iter:aD} {ifs:List aD} {scope:Scope} {pos:Pos} {it Z:aB} {env:Env} (I:Nat->aC->Prop)
  (a3:∀ n s,I n s->aI (aJ prog w) A (ar it) (fun r z=>match r with
   | none=>R (.ok .next) z
   | some v=>aI (aJ prog w) A (letOwnedTupleGo j it v) (fun _ G=>aI (aJ prog w) A (assign j env v) (fun _ O=>
     aI (aJ prog w) A (forIn ifs zb fun c r=>if r=zb then do let ok <- isTrue c env (aM c env); pure (ForInStep.yield ok) else pure (ForInStep.yield r)) (fun ok B=>
      if ok=zb then aI (aJ prog w) A (aM elt env) (fun x J=>
       aI (aJ prog w) A (call (.builtin "list.append") [Z,x]) (fun _ U=>∃ m,m < n/\I m U) (fun _ _=>False) J) (fun _ _=>False) B
      else ∃ m,m < n/\I m B) (fun _ _=>False) O)
     (fun _ _=>False) G) (fun _ _=>False) z) (fun _ _=>False) s)
  (n:Nat) (h:I n s):codeAny (aJ prog w) A (.compLoop (.ListComp elt [⟨j,iter,ifs,0⟩] scope pos) 0 it Z env) R s:=by
 refine codeAny_loop rfl I (fun n s hI=>?_) n h;show aI _ A ((compTurn (.ListComp elt [⟨j,iter,ifs,0⟩] scope pos) 0 it Z env).onRaise (fun x=>do noteFrame x env; theTreesLotGoes x)) _ _ s;refine wpAny_noted ?_;rw [compTurn_list];refine aF (wpAny_standAt (aF (ad (a3 n s hI) (fun r z Y=>?_) fun _ _ h'=>h'.elim)))
 cases r with
 | none=>exact aR Y
 | some v=>
  refine aF (ad Y (fun _ G a2=>?_) fun _ _ h'=>h'.elim)
  refine aF (ad a2 (fun _ O a6=>aF (ad a6 (fun ok B q=>?_) fun _ _ h'=>h'.elim)) fun _ _ h'=>h'.elim)
  cases ok with
  | true=>
   rw [bK rfl] at q;exact aF (aF (ad q (fun x J a4=>aF (ad a4 (fun _ U a5=>aR (aR ⟨rfl,a5⟩)) fun _ _ h'=>h'.elim)) fun _ _ h'=>h'.elim))
  | false=>
   rw [bL D8] at q;exact aF (aR (aR ⟨rfl,q⟩))
end
section
variable {X:Cx}
theorem Q9n {elt tg iter:aD} {ifs:List aD} {tt:TT} {pos:Pos} {N N':List Str} {sc scE:Scope} {cap:List (Option Nat)} {wi:TI} {g:TG} {te:TE} {use:Option (aB->Sem Unit)} {QQ:aB->aC->Prop} (c3:X.calm=zb) (hi:PI X tg iter wi)
  (hg:∀ cl C s0 H0 ex,PG (U7 X N' sc cl C s0 H0 ex) tg g) (he:∀ cl C s0 H0 ex,PE (U7 X N' sc cl C s0 H0 ex) elt te) (f0:∀ cl C s0 H0 ex,PTs (U7 X N' sc cl C s0 H0 ex) ifs tt)
  (hN:X.N=N) (hE:X.env.scope=scE) (hc:compOkC N N' sc scE cap=zb) (hs:∀ x,az iter X.env x=pure x)
  {pins:List (aA × Obj)} {s:aC} {σ:St} {H:Hp} {Q:VK} (I:Inv X pins σ H s) (h:Qc8 cap wi g tt te σ H Q)
  (fin:∀ d5 C H' s' m,Inv X pins σ H' s'->s'.heap.Ns C m->Q9w X pins H' C->Q (.ref d5) H'->compPost (aJ X.prog X.w) X.A X.xe use QQ (.ref d5) C (.ok .next) s') {pos':Pos} :
  aI (aJ X.prog X.w) X.A (comprehension (.ListComp elt [⟨tg,iter,ifs,0⟩] sc pos) sc X.env pos' (newList []) za (aM iter X.env) use) QQ X.xe s:=by
 have ck:=compOkC.of hc;obtain ⟨cl,e6,c1,c2⟩:=Qhg (scope:=sc) (env:=X.env) fun x hx hf=>I.ok.has x.1 (by
  have:=ck.fre x hx hf;rw [<- hE] at this;exact this)
 refine wpAny_comprehension_free (use:=use) rfl hs e6 ck.kind ck.loc (thn (hi pins s σ H _ I h) fun v s1 h1=>thn h1 fun f6 s2 h2=>?_)
 obtain ⟨it,fp,tn,J,H2,e,I2,T,d1,f2,hw⟩:=h2;subst e;have b3:∀ b∈fp,b < s2.heap.objs.size:=fun b G=>by
  obtain ⟨o,e,_⟩:=T.obj _ _ d1 b G;exact O8 e
 obtain ⟨W,⟨m0,w0⟩,turn⟩:=hw s2.heap.objs.size I2.fresh;refine ao (Q9x ?_);dsimp only;have I3:Inv X pins σ (upd H2 s2.heap.objs.size (.lst [])) { s2 with heap:=s2.heap.push { cls:=.type "list",data:=.seq ([]:List aB).toArray } }:=
  I2.lnew (its:=[]) (ys:=[]) (t':=s2.toks) .nil (bv _)
 generalize d4:({ s2 with heap:=s2.heap.push { cls:=.type "list",data:=.seq ([]:List aB).toArray } }:aC)=s3 at I3;have c6:s3.heap=s2.heap.push { cls:=.type "list",data:=.seq ([]:List aB).toArray }:=by rw [<- d4]
 have b8:s3.heap.objs.size=s2.heap.objs.size + 1:=by rw [c6,F5]
 have f3:∀ b∈fp,Q9w X pins (upd H2 s2.heap.objs.size (.lst [])) b:=fun b G=>by
  obtain ⟨g0,g1⟩:=f2 b G;exact ⟨by rw [Qj (D9 (b3 b G))]; exact g0,g1⟩
 have k3:∀ b o,s2.heap.get? b=zo o->s3.heap.get? b=zo o:=fun b o e=>by rw [c6]; exact O1 _ e
 obtain ⟨a2,a7⟩:∃ a2,ae (s3.heap.objs.size + 1) sc.names cl=a2:=⟨_,rfl⟩;obtain ⟨O,Y⟩:∃ O,pushCells (s3.heap.push { cls:=.type "dict",data:=.dict #[] }) sc.names=O:=⟨_,rfl⟩;have k1:∀ b o,s3.heap.get? b=zo o->O.get? b=zo o:=fun b o e=>by rw [<- Y]; exact pushCells_keeps _ _ b o (O1 _ e)
 have e0:∀ x c,a2.lookup x=zo c->cl.lookup x=zo c\/s3.heap.objs.size + 1<=c:=fun x c e=>by
  rw [<- a7] at e;have:=Uv (sc.names) (s3.heap.push { cls:=.type "dict",data:=.dict #[] }) cl x c (by rw [F5]; exact e);rcases this with z | ⟨_,z,_⟩
  ·exact .inl z
  ·rw [F5] at z; exact .inr z
 have I4:Inv (U7 X N' sc a2 s3.heap.objs.size s3 (upd H2 s2.heap.objs.size (.lst [])) fp) [] (Q4u cap σ) (upd H2 s2.heap.objs.size (.lst [])) { s3 with heap:=O }:=by
  rw [<- a7,<- Y];exact Qpx I3 hN hE ck c1 c2 f3 (fun b G=>D2 (b3 b G) (by rw [b8]; exact cQ _))
 have d2:tn 0 O:=T.keep _ _ _ d1 fun b G o e=>k1 b o (k3 b o e)
 generalize j:U7 X N' sc a2 s3.heap.objs.size s3 (upd H2 s2.heap.objs.size (.lst [])) fp=U at I4;have c4:U.xe=fun _ _=>False:=by rw [<- j]; rfl
 have B:U.prog=X.prog:=by rw [<- j]; rfl
 have Z:U.w=X.w:=by rw [<- j]; rfl
 have c9:U.K=X.K:=by rw [<- j]; rfl
 have a4:U.A=X.A:=by rw [<- j]; rfl
 have d6:U.calm=zb:=by rw [<- j]; exact c3
 have a5:U.env=compEnvC sc a2 s3.heap.objs.size X.env:=by rw [<- j]; rfl
 have a6:U.env.locals=s3.heap.objs.size:=by rw [a5]; rfl
 have e7:PG U tg g:=by rw [<- j]; exact hg _ _ _ _ _
 have d9:PE U elt te:=by rw [<- j]; exact he _ _ _ _ _
 have c7:PTs U ifs tt:=by rw [<- j]; exact f0 _ _ _ _ _
 have b2:∀ {H':Hp},(∀ b∈fp,H' b=zl)->∀ b∈fp,Q9w U [] H' b:=fun {H'} hn b G=>by
  obtain ⟨_,g1,g2,g3,g4,g5⟩:=f3 b G;refine ⟨hn b G,by rw [a6,b8]; exact D9 (cX (b3 b G)),?_,?_,?_,fun p hp=>?_⟩
  ·rw [<- j];intro z;rcases E5.mp (I3.stkSub b z) with e | z
   ·exact g1 e
   ·exact g2 z
  ·left
   rw [<- j];exact G
  ·intro x c e;rw [a5] at e;rcases e0 x c e with z | z
   ·exact g4 x c (c1 x c z)
   ·exact fun q=>absurd (D2 (b3 b G) (F2 (F2 (cQ _) (b8 ▸ cQ _)) (q ▸ z))) (bo _)
  ·rw [<- j] at hp;cases hp
 have d0:∀ {b1:St} {H':Hp} {s':aC},Inv U [] b1 H' s'->Q (.ref s2.heap.objs.size) H'->compPost (aJ X.prog X.w) X.A X.xe use QQ (.ref s2.heap.objs.size) s3.heap.objs.size (.ok .next) s':=fun {b1 H' s'} J q=>by
  obtain ⟨mm,d3,_⟩:=J.loc;rw [a6] at d3;have c0:H' s3.heap.objs.size=zl:=by have:=J.free; rw [a6] at this; exact this
  have hok:=J.hok;rw [B,Z] at hok;have u1:Un (frs X.stack) fp (upd H2 s2.heap.objs.size (.lst [])) H' s3.heap s'.heap:=by
   have:=J.base;rw [<- j] at this;exact this
  have e9:s'.os=s3.os:=by have:=J.os; rw [<- j] at this; exact this
  refine fin _ _ H' s' mm (I3.call' (s':=s') e9 u1 hok J.bare fun b G=>?_) d3 (I3.fpOk (O7 _) c0) q
  obtain ⟨_,g1,g2,g3,g4,g5⟩:=f3 b G;exact ⟨g3,g1,g4,g5⟩
 have b0:codeAny (aJ X.prog X.w) X.A (.compLoop (.ListComp elt [⟨tg,iter,ifs,0⟩] sc pos) 0 (.ref it) (.ref s2.heap.objs.size) U.env)
   (compPost (aJ X.prog X.w) X.A X.xe use QQ (.ref s2.heap.objs.size) s3.heap.objs.size) { s3 with heap:=O }:=by
  refine Qaz (fun n s'=>∃ i ys b1 H',Inv U [] b1 H' s'/\tn i s'.heap/\(∀ b∈fp,H' b=zl)/\W i n ys b1 H') ?_ m0 ⟨0,[],_,_,I4,d2,fun b G=>(f3 b G).1,w0⟩
  rintro n s5 ⟨i,ys,b4,H5,I5,d7,c8,w5⟩;obtain ⟨f5,q⟩:=turn i n ys b4 H5 w5;rcases q with ⟨stop,q⟩ | ⟨go,f4,step⟩
  ·refine thn (a4 ▸ T.done U B Z c9 d6 i [] s5 b4 H5 _ I5 (b2 c8) d7 stop) fun r s6 ⟨hr,I6⟩=>?_
   subst hr;exact d0 I6 q
  ·refine thn (a4 ▸ T.item U B Z c9 d6 i [] s5 b4 H5 _ I5 (b2 c8) d7 go) fun r s6 ⟨u,hr,h6⟩=>?_
   subst hr;refine thn h6 fun _ s7 ⟨x,H7,I7,r7,y7,a3,f1⟩=>?_
   have d8:=I7.pinned (b2 f1) (T.obj _ _ a3);have g7:=e7 _ s7 b4 H7 x u _ d8 r7 (step x H7 y7);rw [B,Z,a4,c4] at g7;refine thn g7 fun _ s8 ⟨a8,H8,I8,q8⟩=>?_
   have t8:=c7 _ s8 a8 H8 _ I8 q8;rw [B,Z,a4,c4] at t8;refine thn t8 fun e8 e4 ⟨e5,b5,b6⟩=>?_
   cases e8 with
   | false=>
    rw [bL D8] at b6 ⊢;obtain ⟨m',b9,w9⟩:=b6;refine ⟨m',b9,i + 1,_,a8,_,b5.unpinned,T.keep _ _ _ a3 fun b G o eo=>(b5.pin (b,o) (E6 _ (E6 _ (Xf G eo)))).1,fun b G=>?_,w9⟩;obtain ⟨o,eo,d⟩:=T.obj _ _ a3 b G;exact (b5.pin (b,o) (E6 _ (E6 _ (Xf G eo)))).2.1
   | true=>
   rw [bK rfl] at b6 ⊢;have g8:=d9 _ e4 a8 e5 _ b5 b6;rw [B,Z,a4,c4] at g8;refine thn g8 fun y s9 ⟨yv,H9,I9,r9,a9,m',b9,w9⟩=>?_
   obtain ⟨z,its,nn,rr,hl,e⟩:=I9.lstM a9;refine au F.slot_list_append ⟨_,e,rfl⟩ F.entry_list_append (F.args_list_append_2 _ _) (fm _ its.toArray nn y (by rw [O3]; omega)) ⟨e,?_⟩;have c5:Inv U ([] ++ Q89 fp s7.heap) a8 (upd H9 s2.heap.objs.size (.lst (ys ++ [yv]))) { s9 with heap:=s9.heap.update s2.heap.objs.size (cr fun a=>a.push y) }:=
    I9.lset (t':=s9.toks) (its':=its ++ [y]) a9 e (by simp) (rr.append (.cons r9 .nil)) (by rw [D0,eR]; omega)
   refine ⟨m',b9,i + 1,_,a8,_,c5.unpinned,T.keep _ _ _ a3 fun b G o eo=>(c5.pin (b,o) (E6 _ (E6 _ (Xf G eo)))).1,fun b G=>?_,w9⟩;obtain ⟨o,eo,d⟩:=T.obj _ _ a3 b G;exact (c5.pin (b,o) (E6 _ (E6 _ (Xf G eo)))).2.1
 rw [a5] at b0;have b7:=codeAny_compStart_list (rest:=[]) (ifs:=ifs) b0 (T.self X.A 0 _ _ _ d2 b0);subst d4;rw [<- a7,<- Y] at b7;exact b7
theorem Qn5 {elt tg iter:aD} {ifs:List aD} {O:TT} {pos:Pos} {N N':List Str} {sc scE:Scope} {cap:List (Option Nat)} {J:TI} {g:TG} {te:TE} (j:X.calm=zb) (hi:PI X tg iter J)
  (hg:∀ cl C s0 H0 ex,PG (U7 X N' sc cl C s0 H0 ex) tg g) (he:∀ cl C s0 H0 ex,PE (U7 X N' sc cl C s0 H0 ex) elt te) (z:∀ cl C s0 H0 ex,PTs (U7 X N' sc cl C s0 H0 ex) ifs O)
  (hN:X.N=N:=by rfl) (hE:X.env.scope=scE:=by rfl) (Y:compOkC N N' sc scE cap=zb:=by decide +kernel) (hs:∀ x,az iter X.env x=pure x:=by intro _; rfl) :
  PE X (.ListComp elt [⟨tg,iter,ifs,0⟩] sc pos) (Qc8 cap J g O te):=by
 intro pins s σ H Q I h;rw [eval_ListComp];refine Q9n (use:=zl) j hi hg he z hN hE Y hs I h fun B C H' s' m U hm hf q=>⟨m,hm,fun h' G=>?_⟩
 obtain ⟨f0,f1,f2,f3,f4,Z⟩:=hf;exact ⟨.ref B,H',U.turned (t':=s'.toks) (fun b o hb e=>(G.2 b hb).trans e) f0 f1 f3 f4 Z,rfl,q⟩
theorem Qmv {ifs:List aD} {tt:TT} {i:Nat} {x:Str} {J j:Pos} {elt tg iter:aD} {pos:Pos} {N N':List Str} {sc scE:Scope} {cap:List (Option Nat)} {wi:TI} {g:TG} {te:TE} (a4:X.N.Nodup) (Z:X.N[i]?=zo x) (hx:Loc X.env.scope x) (B:X.calm=zb) (hi:PI X tg iter wi)
  (hg:∀ cl C s0 H0 ex,PG (U7 X N' sc cl C s0 H0 ex) tg g) (he:∀ cl C s0 H0 ex,PE (U7 X N' sc cl C s0 H0 ex) elt te) (U:∀ cl C s0 H0 ex,PTs (U7 X N' sc cl C s0 H0 ex) ifs tt)
  (Y:swapsWith (.ListComp elt [⟨tg,iter,ifs,0⟩] sc pos) (zo (.Name x J)) j.line X.env=pure zb:=by rfl)
  (hN:X.N=N:=by rfl) (hE:X.env.scope=scE:=by rfl) (hc:compOkC N N' sc scE cap=zb:=by decide +kernel) (hs:∀ x,az iter X.env x=pure x:=by intro _; rfl)
  (hf:X.fn x=zb\/X.env.scope.names.lookup x=zo .local:=by first | exact .inl rfl | exact .inr rfl | assumption) :
  PS X (.Assign [.Name x J] (.ListComp elt [⟨tg,iter,ifs,0⟩] sc pos) j) (Quc (Qc8 cap wi g tt te) (Qff i)):=by
 intro pins s σ H D I h;rw [exec_Assign_Name_used _ _ _ _ Y];refine aF (wpAny_standAt (aF ?_));show aI _ _ (do let _ <- comprehension (.ListComp elt [⟨tg,iter,ifs,0⟩] sc pos) sc X.env _ (newList []) za (aM iter X.env) (zo (assign (.Name x J) X.env))) _ _ s;refine aF (ad (Q9n (use:=zo (assign (.Name x J) X.env)) (QQ:=fun _ s'=>SP X pins D .next s') B hi hg he U hN hE hc hs I h ?_) (fun _ s' hq=>aR (aR hq)) fun _ _ e=>e)
 intro G C H' s' m I' hm a3 q;obtain ⟨f0,f1,f2,f3,f4,f5⟩:=a3;show aI _ _ (assign (.Name x J) X.env (.ref G)) _ _ _;refine wpAny_assign_Name (Qb4 I' a4 Z hx (v:=.ref G) rfl (fun s2 I2 ⟨a,sb,O⟩=>⟨m,?_,fun h' a2=>?_⟩) hf)
 ·refine hm.sameBut sb fun z=>?_
  rcases O with O | O
  ·exact f1 (z.trans O)
  ·exact f4 x a O z.symm
 ·exact ⟨_,H',I2.turned (t':=s2.toks) (fun b o hb e=>(a2.2 b hb).trans e) f0 f1 f3 f4 f5,q⟩
end
section
variable {X:Cx} {e e3:aD} {te t3:TE} {pos p2:Pos}
end
section
variable {X:Cx} {a:aD} {ta:TA} {p p' pos pos':Pos}
end
section
variable {X:Cx}
end
section
variable {κ:Type} [DecidableEq κ]
def qk (kvs:List (κ × V)) (k:κ):Option V:=(kvs.find? fun kv=>decide (kv.1=k)).map (·.2)
def Qac (kvs:List (κ × V)) (k:κ) (v:V):List (κ × V):=
 if (kvs.any fun kv=>decide (kv.1=k))=zb then kvs.map (fun kv=>if kv.1=k then (kv.1,v) else kv) else kvs ++ [(k,v)]
theorem Qdn {p:κ × V} {r:List (κ × V)} {k:κ} (e:p.1=k):qk (p :: r) k=zo p.2:=by simp [qk,cJ,e]
theorem Qdp {p:κ × V} {r:List (κ × V)} {k:κ} (e:¬ p.1=k):qk (p :: r) k=qk r k:=by simp [qk,cJ,e]
theorem Qf4 (kvs:List (κ × V)) (k:κ) (v:V):(Qac kvs k v).length<=kvs.length + 1:=by
 unfold Qac
 split
 ·rw [O2]; omega
 ·rw [D0,D4,cH]; omega
theorem KV.val {kvs:List (κ × V)} {vs:List (κ × aB)} (r:KV kvs vs) (k:κ):RelO (qk kvs k) (bC vs k):=by
 unfold KV at r
 induction r with
 | nil=>exact True.intro
 | @cons p q ps B h t G=>
  obtain ⟨h1,h2⟩:=h
  by_cases e:p.1=k
  ·have j:q.1=k:=h1.symm.trans e;have b:bC (q :: B) k=zo q.2:=by simp [bC,cJ,j]
   rw [Qdn e,b]; exact h2
  ·have j:¬ q.1=k:=fun z=>e (h1.trans z)
   have b:bC (q :: B) k=bC B k:=by simp [bC,cJ,j]
   rw [Qdp e,b]; exact G
theorem KV.any {kvs:List (κ × V)} {vs:List (κ × aB)} (r:KV kvs vs) (k:κ):(kvs.any fun j=>decide (j.1=k))=vs.any fun j=>decide (j.1=k):=by
 unfold KV at r
 induction r with
 | nil=>rfl
 | cons h t q=>rw [db,db,q,h.1]
theorem KV.repl {kvs:List (κ × V)} {vs:List (κ × aB)} (r:KV kvs vs) (k:κ) {y:V} {u:aB} (G:RelV y u) :
  KV (kvs.map fun j=>if j.1=k then (j.1,y) else j) (vs.map fun j=>if j.1=k then (j.1,u) else j):=by
 unfold KV at r ⊢
 induction r with
 | nil=>exact .nil
 | @cons p q ps I h t B=>
  rw [E9,E9];refine .cons ?_ B;obtain ⟨h1,h2⟩:=h
  by_cases e:p.1=k
  ·rw [bK e,bK (h1.symm.trans e)]; exact ⟨h1,G⟩
  ·rw [bL e,bL (fun z=>e (h1.trans z))]; exact ⟨h1,h2⟩
theorem KV.put {kvs:List (κ × V)} {vs:List (κ × aB)} (r:KV kvs vs) (k:κ) {y:V} {u:aB} (j:RelV y u):KV (Qac kvs k y) (stored vs k u):=by
 unfold Qac stored;rw [r.any k]
 by_cases e:(vs.any fun q=>decide (q.1=k))=zb
 ·rw [bK e,bK e]; exact r.repl k j
 ·rw [bL e,bL e]; exact Paired.snoc r ⟨rfl,j⟩
end
theorem Qnx {P:aN} {w:aL} {k:Key} {u:aB} (r:RelV (kV k) u):(J9 P w).is k u=zb:=by
 cases k with
 | inl i=>obtain ⟨t,e⟩:=(show ∃ t,u=cg i t from r); subst e; exact Qex P w i t
 | inr x=>obtain ⟨t,e⟩:=(show ∃ t,u=dA x t from r); subst e; exact Qew P w x t
theorem Qbn {P:aN} {w:aL}:∀ {ks:List Key} {us:List aB},Vals (ks.map kV) us->ItemsAre (J9 P w) ks us
 | [],_,r=>by rw [cp] at r; cases r; exact .nil
 | k :: ks,_,r=>by
  rw [E9] at r;cases r with
  | cons h t=>exact .cons (Qnx h) (Qbn t)
abbrev KT (H:Hp):List (List Key × V)->List (List Key × aA × aB)->Prop:=aq fun p q=>p.1=q.1/\H q.2.1=zo (.tup (p.1.map kV))/\RelV p.2 q.2.2
theorem KT.val {H:Hp} {kvs:List (List Key × V)} {xs:List (List Key × aA × aB)} (r:KT H kvs xs) (k:List Key):RelO (qk kvs k) ((atKey xs k).map (·.2)):=by
 induction r with
 | nil=>exact True.intro
 | @cons p q ps B h t G=>
  obtain ⟨h1,_,h2⟩:=h
  by_cases e:p.1=k
  ·have j:q.1=k:=h1.symm.trans e;have b:atKey (q :: B) k=zo q.2:=by simp [atKey,cJ,j]
   rw [Qdn e,b]; exact h2
  ·have j:¬ q.1=k:=fun z=>e (h1.trans z)
   have b:atKey (q :: B) k=atKey B k:=by simp [atKey,cJ,j]
   rw [Qdp e,b]; exact G
section
variable {P:aN} {w:aL} {H:Hp} {h:Heap} {a:aA}
theorem Qt7 {u:HO} (ok:HOk P w H h) (e:Rd H a u):ObjOk P w H h a u:=e.ok ok
theorem Qpa {kvs:List (Key × V)} (ok:HOk P w H h) (e:Rd H a (.dK kvs)):kvs.length<=sizeLine/\(a == af)=za/\∃ vs,KV kvs vs/\h.DictOf (J9 P w) a vs:=
 show ObjOk P w H h a (.dK kvs) from Qt7 ok e
theorem Qzi {kvs:List (Key × V)} (ok:HOk P w H h) (e:H a=zo (.dK kvs)):kvs.length<=sizeLine/\(a == af)=za/\∃ vs,KV kvs vs/\h.DictOf (J9 P w) a vs:=Qpa ok (.inl e)
theorem Qnv {ks:List Key} (ok:HOk P w H h) (e:H a=zo (.tup (ks.map kV))):(tupleKind (J9 P w)).is h ks a:=by
 obtain ⟨_,its,r,o,h1,h2,n,j⟩:=(show ObjOk P w H h a (.tup (ks.map kV)) from ok a _ e);exact ⟨o,its.toArray,n,h1,h2,j,by simpa using Qbn r⟩
theorem Qtw {kvs:List (List Key × V)} (ok:HOk P w H h) (e:Rd H a (.dT kvs)):kvs.length<=sizeLine/\(a == af)=za /\
  ∃ xs,KT H kvs xs/\h.DictOfH (tupleKind (J9 P w)) a xs:=by
 obtain ⟨z,y,xs,r,o,es,O,h1,h2,G,U,I⟩:=(show ObjOk P w H h a (.dT kvs) from Qt7 ok e);refine ⟨z,y,xs,r,o,es,O,h1,h2,G,U,fun x j=>?_,I⟩;have all:∀ {l:List (List Key × V)} {m:List (List Key × aA × aB)},KT H l m->∀ x∈m,(tupleKind (J9 P w)).is h x.1 x.2.1:=by
  intro l m q
  induction q with
  | nil=>intro x j; exact nomatch j
  | @cons p q ps Y B t J=>
   intro x j;rcases E5.mp j with e | j
   ·subst e;exact Qnv ok (by rw [<- B.1]; exact B.2.1)
   ·exact J x j
 exact all r x j
end
def DGet (H:Hp) (a:aA) (y:V) (r:Option V):Prop:=
 (∃ kvs k,Rd H a (.dK kvs)/\y=kV k/\r=qk kvs k)\/∃ kvs k b,Rd H a (.dT kvs)/\y=.ref b/\H b=zo (.tup (k.map kV))/\r=qk kvs k
theorem DGet.k {H:Hp} {a:aA} {kvs:List (Key × V)} {k:Key} (e:H a=zo (.dK kvs)):DGet H a (kV k) (qk kvs k):=.inl ⟨kvs,k,.inl e,rfl,rfl⟩
section
variable {X:Cx} {pins:List (aA × Obj)} {σ:St} {H:Hp} {s:aC} {a:aA} {y v:V} {u r:aB} {o:Option V} {A:aQ} {E:aB->aC->Prop}
theorem Inv.big (I:Inv X pins σ H s):af < s.heap.objs.size:=by
 have h:aS < s.heap.objs.size:=(I.mod.glob.keeps I.bk).lt;exact Nat.lt_trans (by decide) h
theorem Qkg {Q:aB->aC->Prop} (Y:A.units + 1 < ac) (I:Inv X pins σ H s) (g:DGet H a y (zo v)) (U:RelV y u) (h:∀ B s',Inv X pins σ H s'->RelV v B->Q B s') :
  aI (aJ X.prog X.w) A (getItem (.ref a) u) Q E s:=by
 rcases g with ⟨kvs,k,e,G,l⟩ | ⟨kvs,k,b,e,G,Z,l⟩
 ·subst G;obtain ⟨z,hd,vs,j,dd⟩:=Qpa I.hok e;obtain ⟨B,J,q⟩:=RelO.some_of (v:=v) (o:=bC vs k) (by rw [l]; exact j.val k);exact wpAny_getItem_of (Qnx U) dd.mapOf J (h B _ (I.tok _) q)
 ·subst G;cases (show u=bT b from U);obtain ⟨z,hd,xs,j,dd⟩:=Qtw I.hok e;obtain ⟨B,J,q⟩:=RelO.some_of (v:=v) (o:=(atKey xs k).map (·.2)) (by rw [l]; exact j.val k);obtain ⟨p,hp,O⟩:=Option.map_eq_some_iff.mp J;refine wpAny_getItem_heap (tupleKind_room_in1 Y) (Qnv I.hok Z) dd hp ?_;rw [O];exact h B _ (I.tok _) q
theorem Qsq {h':Heap} {t':Nat} {ob:HO} (I:Inv X pins σ H s) (B:Mut (H a)) (hs:Heap.SameBut a s.heap h') (G:∃ q,h'.get? a=zo q) (new:ObjOk X.prog X.w (upd H a ob) h' a ob) :
  Inv X pins σ (upd H a ob) { s with heap:=h',toks:=t' }:=
 I.write (x:=a) (e:=a) B (.inl rfl) (fun b q j z=>(hs.2 b j).trans z) G new
theorem Qwd {P:aN} {w:aL} {H':Hp} {h':Heap} {kvs:List (Key × V)} {vs:List (Key × aB)} (z:kvs.length<=sizeLine) (hd:(a == af)=za) (j:KV kvs vs) (dd:h'.DictOf (J9 P w) a vs) :
  ObjOk P w H' h' a (.dK kvs):=⟨z,hd,vs,j,dd⟩
end
section
variable {X:Cx} {pins:List (aA × Obj)} {σ:St} {H:Hp} {s:aC} {a:aA} {kvs:List (Key × V)} {k:Key} {u:aB} {A:aQ} {E:aB->aC->Prop}
end
def Qt1 (i:aD):Prop:=∀ ov iv,subscripted i za ov iv=operate [ov,iv] (getItem ov iv)
theorem Qqg {prog:aN} {w:aL} {A:aQ} {E:aB->aC->Prop} {s:aC} {env:Env} {value j:aD} {pos:Pos} {T id:String} {Q:aB->aC->Prop}
  (U:typeLookup (.type T) "__getitem__" = pure (zo (.builtin id))) (hs:Qt1 j)
  (h:aI (aJ prog w) A (aM value env) (fun o B=>aI (aJ prog w) A (aM j env) (fun i q=>q.TypeIs o T/\aI (aJ prog w) A (getItem o i) Q E q) E B) E s) :
  aI (aJ prog w) A (aM (.Subscript value j pos) env) Q E s:=by
 refine Subscript_ (ad h (fun o B J=>ad J (fun i q z=>?_) fun _ _ x=>x) fun _ _ x=>x)
 obtain ⟨O,z⟩:=z;unfold subscriptTail;refine aF ?_;rw [getitemInPython_of_ne O.not_modules];refine aF (wpAny_specialOf O U ?_);have fin:aI (aJ prog w) A (subscripted j za o i) (fun r G=>aI (aJ prog w) A (letTemporaryGo value o r >>= fun _=>pure r) Q E G) E q:=by
  rw [hs o i];exact wpAny_operating (ad z (fun r G I=>aF (wpAny_letTemporaryGo (aR I))) fun _ _ x=>x)
 first
  | exact aR (aF fin)
  | exact aF (aR (aF fin))
  | exact aF fin
theorem Qfh {X:Cx} {pins:List (aA × Obj)} {σ:St} {H:Hp} {s:aC} {a:aA} {y:V} {o:Option V} (I:Inv X pins σ H s) (g:DGet H a y o):s.TypeIs (.ref a) "dict" := by
 rcases g with ⟨kvs,k,e,_,_⟩ | ⟨kvs,k,b,e,_,_,_⟩
 ·obtain ⟨_,_,vs,_,dd⟩:=Qpa I.hok e;exact dd.typeIs
 ·obtain ⟨_,_,xs,_,dd⟩:=Qtw I.hok e;exact dd.typeIs
def Qxj (td ty:TE):TE:=fun σ H Q=>td σ H fun x H1=>ty σ H1 fun y H2=>∃ a v,x=.ref a/\DGet H2 a y (zo v)/\Q v H2
section
variable {X:Cx} {o i e value:aD} {pos pos' tpos:Pos} {td ty tv:TE}
theorem Qhy (J:X.A.units + 1 < ac) (G:PE X o td) (hi:PE X i ty) (hs:Qt1 i):PE X (.Subscript o i pos) (Qxj td ty):=by
 intro pins s σ H Q I h;refine Qqg PySem.F.slot_dict_getitem.lookup hs (thn (G pins s σ H _ I h) fun u s1 ⟨x,H1,O,z,q1⟩=>thn (hi pins s1 σ H1 _ O q1) fun Z s2 ⟨y,H2,q,U,a,v,ex,g,q2⟩=>?_)
 subst ex;obtain rfl:u=bT a:=z;exact ⟨Qfh q g,Qkg J q g U fun Y s3 B j=>⟨v,H2,B,j,q2⟩⟩
end
theorem Qpb {P:aN} {w:aL} {H:Hp} (h:Heap) (j:af < h.objs.size):ObjOk P w H (h.push { cls:=.type "dict",data:=.dict #[] }) h.objs.size (.dK []):=
 ⟨bv _,beq_eq_false_iff_ne.mpr (Ne.symm (D9 j)),[],.nil,Heap.DictOf.new h⟩
section
variable {X:Cx} {pos:Pos}
end
def Qg0:List (TE × TE)->St->Hp->(List (V × V)->Hp->Prop)->Prop
 | [],_,H,Q=>Q [] H
 | (tk,tv) :: r,σ,H,Q=>tk σ H fun x H1=>tv σ H1 fun y H2=>Qg0 r σ H2 fun ps H3=>Q ((x,y) :: ps) H3
abbrev VV:List (V × V)->List (aB × aB)->Prop:=aq fun p q=>RelV p.1 q.1/\RelV p.2 q.2
def PPs (X:Cx) (pos:Pos) (keys:List (Option aD)) (values:List aD) (trs:List (TE × TE)):Prop:=
 ∀ (pins:List (aA × Obj)) (s:aC) (σ:St) (H:Hp) (Q:List (V × V)->Hp->Prop),Inv X pins σ H s->Qg0 trs σ H Q ->
  aI (aJ X.prog X.w) X.A (evalPairs (pairTrees keys values X.env pos)) (fun vs s'=>∃ ps H',Inv X pins σ H' s'/\VV ps vs/\Q ps H') X.xe s
theorem Qhw {X:Cx} {pos:Pos}:PPs X pos [] [] []:=fun pins s σ H Q I h=>pairTrees_nil_walk ⟨[],H,I,.nil,h⟩
theorem yn {X:Cx} {pos:Pos} {k v:aD} {ks:List (Option aD)} {vs:List aD} {tk tv:TE} {j:List (TE × TE)} (B:PE X k tk) (Z:PE X v tv) (U:PPs X pos ks vs j) :
  PPs X pos (zo k :: ks) (v :: vs) ((tk,tv) :: j):=fun pins s σ H Q I h=>
 pairTrees_cons_walk (thn (B pins s σ H _ I h) fun u s1 ⟨x,H1,Y,G,q1⟩=>thn (Z pins s1 σ H1 _ Y q1) fun w2 s2 ⟨y,H2,z,ry,q2⟩=>
  thn (U pins s2 σ H2 _ z q2) fun ws s3 ⟨ps,O,J,q,q3⟩=>⟨(x,y) :: ps,O,J,.cons ⟨G,ry⟩ q,q3⟩)
def Q0i (kvs more:List (Key × V)):List (Key × V):=more.foldl (fun acc kv=>Qac acc kv.1 kv.2) kvs
theorem KV.merge:∀ {more:List (Key × V)} {j:List (Key × aB)} {kvs:List (Key × V)} {vs:List (Key × aB)},KV more j->KV kvs vs->KV (Q0i kvs more) (merged vs j):=by
 intro more j kvs vs r;unfold KV at r
 induction r generalizing kvs vs with
 | nil=>intro q; exact q
 | @cons p q ps G h t B=>
  intro z;have e:KV (Qac kvs p.1 p.2) (stored vs q.1 q.2):=by
   have:=z.put p.1 h.2;rw [<- h.1]; exact this
  exact B e
theorem Q37:∀ (more kvs:List (Key × V)),(Q0i kvs more).length<=kvs.length + more.length
 | [],kvs=>by show kvs.length<=kvs.length + 0; omega
 | p :: r,kvs=>by
  have h1:=Q37 r (Qac kvs p.1 p.2);have h2:=Qf4 kvs p.1 p.2;show (Q0i (Qac kvs p.1 p.2) r).length<=_;rw [D4]; omega
theorem Q9p {P:aN} {w:aL}:∀ {kvs:List (Key × V)} {B:List (aB × aB)},VV (kvs.map fun z=>(kV z.1,z.2)) B->∃ j,Carries (J9 P w) B j/\KV kvs j
 | [],_,r=>by rw [cp] at r; cases r; exact ⟨[],True.intro,.nil⟩
 | p :: kvs,_,r=>by
  rw [E9] at r;cases r with
  | @cons a b J bs h t=>
   obtain ⟨j,c,q⟩:=Q9p (P:=P) (w:=w) t;obtain ⟨I,G⟩:=b;exact ⟨(p.1,G) :: j,⟨Qnx h.1,rfl,c⟩,.cons ⟨rfl,h.2⟩ q⟩
def Qxi (trs:List (TE × TE)):TE:=fun σ H Q=>∀ p,H p=zl->Qg0 trs σ (upd H p (.dK [])) fun ps H2=>H2 p=zo (.dK [])/\∃ kvs:List (Key × V),ps=kvs.map (fun kv=>(kV kv.1,kv.2))/\kvs.length<=15/\Q (.ref p) (upd H2 p (.dK (Q0i [] kvs)))
theorem Qhx {X:Cx} {pos:Pos} {j:List (Option aD)} {B:List aD} {O:List (TE × TE)} (h:PPs X pos j B O) (J:j.all (·.isSome)=zb) (hl:j.length=B.length) (h0:j≠[])
  (U:j.length<=15):PE X (.Dict j B pos) (Qxi O):=by
 intro pins s σ H Q I q;have hn:=I.hok.fresh (O7 s.heap.objs.size);have I1:=I.laid (a:=s.heap.objs.size) (o:=.dK []) (h':=s.heap.push { cls:=.type "dict",data:=.dict #[] }) (t':=s.toks) (fun _ _ q=>O1 _ q) (O7 _) (Qpb s.heap I.big);refine wpAny_Dict_walk (knd:=J9 X.prog X.w) J hl h0 U (thn (h pins _ σ _ _ I1 (q _ hn)) fun ws s2 ⟨ps,H2,Z,Y,e,kvs,ep,lk,q2⟩=>?_)
 subst ep;obtain ⟨rs,c,rk⟩:=Q9p (P:=X.prog) (w:=X.w) Y;obtain ⟨z,hd,a2,r0,dd⟩:=Qzi Z.hok e;cases r0;refine ⟨rs,c,dd,fun h' G hs=>⟨.ref s.heap.objs.size,_,?_,rfl,q2⟩⟩
 have hz:(Q0i [] kvs).length<=sizeLine:=by
  have h1:=Q37 kvs [];rw [cH] at h1;rw [sizeLine_eq]; omega
 have he:∃ q,h'.get? s.heap.objs.size=zo q:=let ⟨q,_,_,hq,_⟩:=G; ⟨q,hq⟩;exact Qsq Z (by rw [e]; exact True.intro) hs he (Qwd hz hd (rk.merge .nil) G)
structure M1 (X:Cx) (o:aD) (m:Str) (apos:Pos) (e:aD) (cpos:Pos):Prop where
 base:ai o m X.env (aM o X.env)=aM o X.env
 few:((aU cpos (aP [e] X.env)).all (fun x=>!x.1) && (backToKw cpos (keywordEach [] X.env)).all (fun x=>x.1.isSome)
  && decide (([e]:List aD).length + ([]:List Keyword).length + (if ([]:List Keyword).isEmpty then 0 else 1) < 30))=zb
 line:(apos.endLine == cpos.line)=zb
 trees:aU cpos (aP [e] X.env)=[(za,aM e X.env)]
structure M2 (X:Cx) (o:aD) (m:Str) (apos:Pos) (e f:aD) (cpos:Pos):Prop where
 base:ai o m X.env (aM o X.env)=aM o X.env
 few:((aU cpos (aP [e,f] X.env)).all (fun x=>!x.1) && (backToKw cpos (keywordEach [] X.env)).all (fun x=>x.1.isSome)
  && decide (([e,f]:List aD).length + ([]:List Keyword).length + (if ([]:List Keyword).isEmpty then 0 else 1) < 30))=zb
 line:(apos.endLine == cpos.line)=zb
 trees:aU cpos (aP [e,f] X.env)=[(za,aM e X.env),(za,aM f X.env)]
section
variable {X:Cx} {pins:List (aA × Obj)} {σ:St} {H:Hp} {s:aC} {a:aA} {y d:V} {u r:aB} {o:Option V} {A:aQ} {E:aB->aC->Prop}
end
section
variable {X:Cx} {o e f:aD} {apos cpos:Pos} {td ty tx:TE}
end
section
variable {X:Cx} {pins:List (aA × Obj)} {σ:St} {H:Hp} {s:aC} {a:aA} {kvs:List (Key × V)} {A:aQ} {E:aB->aC->Prop}
end
section
variable {X:Cx} {pins:List (aA × Obj)} {σ:St} {H:Hp} {s:aC} {a:aA} {y:V} {u:aB} {A:aQ} {E:aB->aC->Prop}
end
section
variable {X:Cx}
end
section
open AutoSeq1 (wpAny_loadPart')
section
variable {prog:aN} {w:aL} {A:aQ} {E:aB->aC->Prop} {s:aC}
end
section
variable {prog:aN} {w:aL} {A:aQ} {E:aB->aC->Prop} {s:aC}
end
section
variable {X:Cx} {a:aD} {ta:TA} {p p' pos pos':Pos}
end
end
section
variable {prog:aN} {w:aL} {A:aQ} {E:aB->aC->Prop} {s:aC}
end
section
variable {X:Cx} {e e3:aD} {te t3:TE} {pos p2:Pos}
end
section
variable {prog:aN} {w:aL} {K:Type} [DecidableEq K] {knd:KeyKind prog w K} {A:aQ} {R:Result->aC->Prop}
end
section
variable {X:Cx} {pins:List (aA × Obj)} {σ:St} {H:Hp} {s:aC} {a:aA} {tg:aD}
end
end L2
namespace L2
open PySem PySem.Spec PyProof.Rows PySem.W
section
variable (r:Nat->Nat)
def rk (p:Array Nat) (i:Nat):Nat:=r (p.getD i 0)
variable {r}
end
end L2
namespace L2
open PySem PySem.Spec PyProof.Rows PySem.W
section
variable {prog:aN} {w:aL} {A:aQ} {E:aB->aC->Prop} {s:aC}
end
end L2
namespace L2
open PySem PySem.Spec PyProof.Rows
end L2
namespace L2
open PySem PySem.Spec PyProof.Rows PySem.W
section
variable {prog:aN} {w:aL} {A:aQ} {E:aB->aC->Prop} {s:aC}
end
end L2
namespace L2
open PySem PySem.Spec PyProof.Rows
section
variable {X:Cx}
end
section
variable {prog:aN} {w:aL} {A:aQ} {E:aB->aC->Prop} {s:aC}
end
end L2
namespace L2
open PySem PySem.Spec PyProof.Rows PySem.W
section
variable {prog:aN} {w:aL} {A:aQ} {E:aB->aC->Prop} {s:aC}
end
section
variable {X:Cx}
end
end L2
namespace L2
open PySem PySem.Spec PyProof.Rows
section
variable {prog:aN} {w:aL} {K:Type} [DecidableEq K]
variable {knd:KeyKind prog w K} {L:Bool} {A:aQ} {E:aB->aC->Prop} {s:aC} {a:aA}
end
section
variable {prog:aN} {w:aL} {A:aQ} {E:aB->aC->Prop} {s:aC}
end
section
variable {prog:aN} {w:aL} {A:aQ} {E:aB->aC->Prop} {s:aC}
end
section
variable {prog:aN} {w:aL} {K:Type} [DecidableEq K] {knd:KeyKind prog w K} {A:aQ} {R:Result->aC->Prop}
end
section
variable {prog:aN} {w:aL} {A:aQ} {E:aB->aC->Prop} {s:aC}
end
section
variable {prog:aN} {w:aL} {A:aQ} {E:aB->aC->Prop} {s:aC}
end
section
variable {prog:aN} {w:aL} {A:aQ} {E:aB->aC->Prop} {s:aC}
end
section
variable {X:Cx}
end
end L2
namespace L2
open PySem PySem.Spec PyProof.Rows SeqAt
section
variable {prog:aN} {w:aL} {K:Type} [DecidableEq K] {knd:KeyKind prog w K} {A:aQ} {E:aB->aC->Prop} {s:aC}
end
section
variable {prog:aN} {w:aL} {K:Type} [DecidableEq K] {knd:KeyKind prog w K} {A:aQ} {E:aB->aC->Prop} {s:aC}
end
section
variable {X:Cx}
end
end L2
namespace L2
open PySem PySem.Spec PyProof.Rows SeqAt
section
variable {X:Cx}
end
end L2
namespace Sm
open PySem PySem.Spec L2
section
inductive PV where
 | non | bl (b:Bool) | int (i:Int) | str (x:Str) | tup (xs:List PV) | lst (xs:List PV) | fro (xs:List PV) | ref (i:Nat) | dic
inductive Cell where
 | lst (xs:List PV) | dic (kvs:List (Key × PV)) | dtp (kvs:List (List Key × PV)) | frd (kvs:List (Key × PV))
 | obj (C:aA) (fs:List (Str × PV))
abbrev Q2:=List Cell
structure Exc where
 cls:Str
 fs:Option (Str × PV):=zl
inductive Res (α:Type) where
 | ok (a:α) (st:Q2) | exc (x:Exc) (st:Q2) | stuck
abbrev Gam:=List (Option PV)
abbrev ME:=Gam->Q2->Res PV
structure Tk where
 tr:List aA
 hid:List aA
instance:Membership aA Tk:=⟨fun t a=>a∈t.tr\/a∈t.hid⟩
def Tk.nil:Tk:=⟨[],[]⟩
theorem Tk.not_nil (a:aA):a∉Tk.nil:=fun z=>by rcases z with z | z <;> cases z
def Tk.add (t:Tk) (p:aA):Tk:=⟨t.tr ++ [p],t.hid⟩
def Tk.hide (t:Tk) (p:aA):Tk:=⟨t.tr,p :: t.hid⟩
mutual
def Rep (H:Hp) (ρ:Tk):PV->V->Prop
 | .non,v=>v=.non
 | .bl b,v=>v=.bl b
 | .int i,v=>v=.int i
 | .str x,v=>v=.str x
 | .tup ps,v=>∃ a vs,v=.ref a/\H a=zo (.tup vs)/\a∉ρ/\RepL H ρ ps vs
 | .lst ps,v=>∃ a vs,v=.ref a/\H a=zo (.lst vs)/\a∉ρ/\RepL H ρ ps vs
 | .fro ps,v=>∃ a vs,v=.ref a/\Rd H a (.lst vs)/\a∉ρ/\RepL H ρ ps vs
 | .ref i,v=>∃ a,ρ.tr[i]?=zo a/\v=.ref a
 | .dic,v=>∃ a,v=.ref a/\H a=zo (.dK [])/\a∉ρ
def RepL (H:Hp) (ρ:Tk):List PV->List V->Prop
 | [],vs=>vs=[]
 | p :: ps,vs=>∃ v r,vs=v :: r/\Rep H ρ p v/\RepL H ρ ps r
end
structure Ext (H:Hp) (ρ:Tk) (H':Hp) (ρ':Tk):Prop where
 pre:ρ.tr <+: ρ'.tr
 hidM:∀ a,a∈ρ.hid->a∈ρ'.hid
 hidN:∀ a,a∈ρ'.hid->a∈ρ.hid\/H a=zl
 keep:∀ a o,H a=zo o->a∉ρ.tr->H' a=zo o
 new:∀ a,a∈ρ'.tr->a∈ρ.tr\/H a=zl
 old:∀ a o,H a=zo o->∃ o',H' a=zo o'
 frz:∀ a o u,H a=zo (.frz o u)->H' a=zo (.frz o u)
theorem Ext.refl (H:Hp) (ρ:Tk):Ext H ρ H ρ:=⟨cb _,fun _ h=>h,fun _ h=>.inl h,fun _ _ h _=>h,fun _ h=>.inl h,fun _ o h=>⟨o,h⟩,fun _ _ _ h=>h⟩
theorem Ext.trans {H H1 H2:Hp} {ρ ρ1 j:Tk} (a:Ext H ρ H1 ρ1) (b:Ext H1 ρ1 H2 j):Ext H ρ H2 j where
 pre:=a.pre.trans b.pre
 hidM:=fun x h=>b.hidM x (a.hidM x h)
 hidN:=fun x h=>by
  rcases b.hidN x h with z | z
  ·exact a.hidN x z
  ·right
   cases q:H x with
   | none=>rfl
   | some o=>
    obtain ⟨o',e⟩:=a.old x o q;rw [e] at z; cases z
 keep:=fun x o h n=>b.keep x o (a.keep x o h n) fun z=>by
  rcases a.new x z with z | z
  ·exact n z
  ·rw [h] at z; cases z
 new:=fun x h=>by
  rcases b.new x h with z | z
  ·exact a.new x z
  ·right
   cases q:H x with
   | none=>rfl
   | some o=>
    obtain ⟨o',e⟩:=a.old x o q;rw [e] at z; cases z
 old:=fun x o h=>by
  obtain ⟨o',e⟩:=a.old x o h;exact b.old x o' e
 frz:=fun x o u h=>b.frz x o u (a.frz x o u h)
theorem Ext.add {H:Hp} {ρ:Tk} {p:aA} {o:HO} (h:H p=zl):Ext H ρ (upd H p o) ρ where
 pre:=cb _
 hidM:=fun _ h=>h
 hidN:=fun _ h=>.inl h
 keep:=fun a u e _=>by rw [Qj (Qm e h)]; exact e
 new:=fun a e=>.inl e
 old:=fun a u e=>⟨u,by rw [Qj (Qm e h)]; exact e⟩
 frz:=fun a o u e=>by rw [Qj (Qm e h)]; exact e
theorem Ext.addT {H:Hp} {ρ:Tk} {p:aA} {o:HO} (h:H p=zl):Ext H ρ (upd H p o) (ρ.add p) where
 pre:=dI _ _
 hidM:=fun _ h=>h
 hidN:=fun _ h=>.inl h
 keep:=fun a u e _=>by rw [Qj (Qm e h)]; exact e
 new:=fun a e=>by
  rcases E7.mp e with z | z
  ·exact .inl z
  ·right
   have:a=p:=by simpa using z
   rw [this]; exact h
 old:=fun a u e=>⟨u,by rw [Qj (Qm e h)]; exact e⟩
 frz:=fun a o u e=>by rw [Qj (Qm e h)]; exact e
theorem Ext.same {H H':Hp} {ρ:Tk} (h:Same H H'):Ext H ρ H' ρ:=⟨cb _,fun _ h=>h,fun _ h=>.inl h,fun a o e _=>h a o e,fun _ e=>.inl e,fun a o e=>⟨o,h a o e⟩,fun a o u e=>h a _ e⟩
section
variable {H H':Hp} {ρ ρ':Tk}
theorem yt {a:aA} {o:HO} (x:Ext H ρ H' ρ') (h:H a=zo o) (n:a∉ρ):a∉ρ':=fun z=>by
 rcases z with z | z
 ·rcases x.new a z with z | z
  ·exact n (.inl z)
  ·rw [h] at z; cases z
 ·rcases x.hidN a z with z | z
  ·exact n (.inr z)
  ·rw [h] at z; cases z
theorem Ext.kp {a:aA} {o:HO} (x:Ext H ρ H' ρ') (h:H a=zo o) (n:a∉ρ):H' a=zo o:=x.keep a o h fun z=>n (.inl z)
mutual
theorem Rep.ext (x:Ext H ρ H' ρ'):∀ {p:PV} {v:V},Rep H ρ p v->Rep H' ρ' p v
 | .non,_,h=>h
 | .bl _,_,h=>h
 | .int _,_,h=>h
 | .str _,_,h=>h
 | .tup ps,v,h=>by
  obtain ⟨a,vs,e,s,n,r⟩:=h;exact ⟨a,vs,e,x.kp s n,yt x s n,RepL.ext x r⟩
 | .lst ps,v,h=>by
  obtain ⟨a,vs,e,s,n,r⟩:=h;exact ⟨a,vs,e,x.kp s n,yt x s n,RepL.ext x r⟩
 | .fro ps,v,h=>by
  obtain ⟨a,vs,e,s,n,r⟩:=h;rcases s with s | ⟨o,s⟩
  ·exact ⟨a,vs,e,.inl (x.kp s n),yt x s n,RepL.ext x r⟩
  ·exact ⟨a,vs,e,.inr ⟨o,x.kp s n⟩,yt x s n,RepL.ext x r⟩
 | .ref i,v,h=>by
  obtain ⟨a,e,rfl⟩:=h;obtain ⟨t,j⟩:=x.pre;refine ⟨a,?_,rfl⟩;rw [<- j,O5 (O0.mp e).1];exact e
 | .dic,v,h=>by
  obtain ⟨a,e,s,n⟩:=h;exact ⟨a,e,x.kp s n,yt x s n⟩
theorem RepL.ext (x:Ext H ρ H' ρ'):∀ {ps:List PV} {vs:List V},RepL H ρ ps vs->RepL H' ρ' ps vs
 | [],_,h=>h
 | p :: ps,vs,h=>by
  obtain ⟨v,r,e,h1,h2⟩:=h;exact ⟨v,r,e,Rep.ext x h1,RepL.ext x h2⟩
end
mutual
theorem Rep.hide {a:aA} {o:HO} (h:H a=zl):∀ {p:PV} {v:V},Rep H ρ p v->Rep (upd H a o) (ρ.hide a) p v
 | .non,_,r=>r
 | .bl _,_,r=>r
 | .int _,_,r=>r
 | .str _,_,r=>r
 | .tup ps,v,⟨b,vs,e,s,n,r⟩=>⟨b,vs,e,by rw [Qj (Qm s h)]; exact s,fun z=>by
   rcases z with z | z
   ·exact n (.inl z)
   ·rcases E5.mp z with z | z
    ·exact Qm s h z
    ·exact n (.inr z),RepL.hide h r⟩
 | .lst ps,v,⟨b,vs,e,s,n,r⟩=>⟨b,vs,e,by rw [Qj (Qm s h)]; exact s,fun z=>by
   rcases z with z | z
   ·exact n (.inl z)
   ·rcases E5.mp z with z | z
    ·exact Qm s h z
    ·exact n (.inr z),RepL.hide h r⟩
 | .fro ps,v,⟨b,vs,e,s,n,r⟩=>by
   have ne:b≠a:=by
    rcases s with s | ⟨_,s⟩
    ·exact Qm s h
    ·exact Qm s h
   refine ⟨b,vs,e,?_,fun z=>?_,RepL.hide h r⟩
   ·rcases s with s | ⟨u,s⟩
    ·exact .inl (by rw [Qj ne]; exact s)
    ·exact .inr ⟨u,by rw [Qj ne]; exact s⟩
   ·rcases z with z | z
    ·exact n (.inl z)
    ·rcases E5.mp z with z | z
     ·exact ne z
     ·exact n (.inr z)
 | .ref i,v,r=>r
 | .dic,v,⟨b,e,s,n⟩=>⟨b,e,by rw [Qj (Qm s h)]; exact s,fun z=>by
   rcases z with z | z
   ·exact n (.inl z)
   ·rcases E5.mp z with z | z
    ·exact Qm s h z
    ·exact n (.inr z)⟩
theorem RepL.hide {a:aA} {o:HO} (h:H a=zl):∀ {ps:List PV} {vs:List V},RepL H ρ ps vs->RepL (upd H a o) (ρ.hide a) ps vs
 | [],_,r=>r
 | p :: ps,_,⟨v,t,e,r1,r2⟩=>⟨v,t,e,Rep.hide h r1,RepL.hide h r2⟩
end
mutual
theorem Rep.rehide {a:aA} {o:HO} (h:a∈ρ.hid):∀ {p:PV} {v:V},Rep H ρ p v->Rep (upd H a o) ρ p v
 | .non,_,r=>r
 | .bl _,_,r=>r
 | .int _,_,r=>r
 | .str _,_,r=>r
 | .tup ps,v,⟨b,vs,e,s,n,r⟩=>⟨b,vs,e,by rw [Qj (show b≠a from fun z=>n (.inr (by rw [z]; exact h)))]; exact s,n,RepL.rehide h r⟩
 | .lst ps,v,⟨b,vs,e,s,n,r⟩=>⟨b,vs,e,by rw [Qj (show b≠a from fun z=>n (.inr (by rw [z]; exact h)))]; exact s,n,RepL.rehide h r⟩
 | .fro ps,v,⟨b,vs,e,s,n,r⟩=>by
   have ne:b≠a:=fun z=>n (.inr (by rw [z]; exact h))
   refine ⟨b,vs,e,?_,n,RepL.rehide h r⟩;rcases s with s | ⟨u,s⟩
   ·exact .inl (by rw [Qj ne]; exact s)
   ·exact .inr ⟨u,by rw [Qj ne]; exact s⟩
 | .ref i,v,r=>r
 | .dic,v,⟨b,e,s,n⟩=>⟨b,e,by rw [Qj (show b≠a from fun z=>n (.inr (by rw [z]; exact h)))]; exact s,n⟩
theorem RepL.rehide {a:aA} {o:HO} (h:a∈ρ.hid):∀ {ps:List PV} {vs:List V},RepL H ρ ps vs->RepL (upd H a o) ρ ps vs
 | [],_,r=>r
 | p :: ps,_,⟨v,t,e,r1,r2⟩=>⟨v,t,e,Rep.rehide h r1,RepL.rehide h r2⟩
end
mutual
theorem Rep.retr {a:aA} {o:HO} (h:a∈ρ.tr):∀ {p:PV} {v:V},Rep H ρ p v->Rep (upd H a o) ρ p v
 | .non,_,r=>r
 | .bl _,_,r=>r
 | .int _,_,r=>r
 | .str _,_,r=>r
 | .tup ps,v,⟨b,vs,e,s,n,r⟩=>⟨b,vs,e,by rw [Qj (show b≠a from fun z=>n (.inl (by rw [z]; exact h)))]; exact s,n,RepL.retr h r⟩
 | .lst ps,v,⟨b,vs,e,s,n,r⟩=>⟨b,vs,e,by rw [Qj (show b≠a from fun z=>n (.inl (by rw [z]; exact h)))]; exact s,n,RepL.retr h r⟩
 | .fro ps,v,⟨b,vs,e,s,n,r⟩=>by
   have ne:b≠a:=fun z=>n (.inl (by rw [z]; exact h))
   refine ⟨b,vs,e,?_,n,RepL.retr h r⟩;rcases s with s | ⟨u,s⟩
   ·exact .inl (by rw [Qj ne]; exact s)
   ·exact .inr ⟨u,by rw [Qj ne]; exact s⟩
 | .ref i,v,r=>r
 | .dic,v,⟨b,e,s,n⟩=>⟨b,e,by rw [Qj (show b≠a from fun z=>n (.inl (by rw [z]; exact h)))]; exact s,n⟩
theorem RepL.retr {a:aA} {o:HO} (h:a∈ρ.tr):∀ {ps:List PV} {vs:List V},RepL H ρ ps vs->RepL (upd H a o) ρ ps vs
 | [],_,r=>r
 | p :: ps,_,⟨v,t,e,r1,r2⟩=>⟨v,t,e,Rep.retr h r1,RepL.retr h r2⟩
end
mutual
theorem Rep.unhide {hs:List aA} (j:∀ a,a∈hs->a∈ρ.hid):∀ {p:PV} {v:V},Rep H ρ p v->Rep H ⟨ρ.tr,hs⟩ p v
 | .non,_,r=>r
 | .bl _,_,r=>r
 | .int _,_,r=>r
 | .str _,_,r=>r
 | .tup ps,v,⟨b,vs,e,s,n,r⟩=>⟨b,vs,e,s,fun z=>n (z.imp id (j _)),RepL.unhide j r⟩
 | .lst ps,v,⟨b,vs,e,s,n,r⟩=>⟨b,vs,e,s,fun z=>n (z.imp id (j _)),RepL.unhide j r⟩
 | .fro ps,v,⟨b,vs,e,s,n,r⟩=>⟨b,vs,e,s,fun z=>n (z.imp id (j _)),RepL.unhide j r⟩
 | .ref i,v,r=>r
 | .dic,v,⟨b,e,s,n⟩=>⟨b,e,s,fun z=>n (z.imp id (j _))⟩
theorem RepL.unhide {hs:List aA} (j:∀ a,a∈hs->a∈ρ.hid):∀ {ps:List PV} {vs:List V},RepL H ρ ps vs->RepL H ⟨ρ.tr,hs⟩ ps vs
 | [],_,r=>r
 | p :: ps,_,⟨v,t,e,r1,r2⟩=>⟨v,t,e,Rep.unhide j r1,RepL.unhide j r2⟩
end
theorem RepL.length:∀ {ps:List PV} {vs:List V},RepL H ρ ps vs->ps.length=vs.length
 | [],_,h=>by cases h; rfl
 | p :: ps,_,⟨v,r,rfl,_,h2⟩=>by rw [D4,D4,RepL.length h2]
theorem RepL.get:∀ {ps:List PV} {vs:List V} {i:Nat} {p:PV},RepL H ρ ps vs->ps[i]?=zo p->∃ v,vs[i]?=zo v/\Rep H ρ p v
 | [],_,_,_,_,e=>by simp at e
 | p :: ps,_,0,q,⟨v,r,rfl,h1,h2⟩,e=>by simp at e; subst e; exact ⟨v,rfl,h1⟩
 | p :: ps,_,i + 1,q,⟨v,r,rfl,h1,h2⟩,e=>by
  obtain ⟨u,e1,e2⟩:=RepL.get (i:=i) h2 (by simpa using e);exact ⟨u,by simpa using e1,e2⟩
theorem RepL.cons {p:PV} {v:V} {ps:List PV} {vs:List V} (h:Rep H ρ p v) (r:RepL H ρ ps vs):RepL H ρ (p :: ps) (v :: vs):=⟨v,vs,rfl,h,r⟩
theorem RepL.nil:RepL H ρ [] []:=rfl
theorem RepL.append:∀ {ps j:List PV} {vs us:List V},RepL H ρ ps vs->RepL H ρ j us->RepL H ρ (ps ++ j) (vs ++ us)
 | [],_,_,_,h,g=>by cases h; exact g
 | p :: ps,_,_,_,⟨v,r,rfl,h1,h2⟩,g=>⟨v,_,rfl,h1,RepL.append h2 g⟩
theorem RepL.take:∀ {ps:List PV} {vs:List V} (n:Nat),RepL H ρ ps vs->RepL H ρ (ps.take n) (vs.take n)
 | _,_,0,_=>rfl
 | [],_,n + 1,h=>by cases h; rfl
 | p :: ps,_,n + 1,⟨v,r,rfl,h1,h2⟩=>⟨v,_,rfl,h1,RepL.take n h2⟩
theorem RepL.drop:∀ {ps:List PV} {vs:List V} (n:Nat),RepL H ρ ps vs->RepL H ρ (ps.drop n) (vs.drop n)
 | _,_,0,h=>h
 | [],_,n + 1,h=>by cases h; rfl
 | p :: ps,_,n + 1,⟨v,r,rfl,h1,h2⟩=>RepL.drop n h2
theorem RepL.set {p:PV} {v:V} (h:Rep H ρ p v):∀ {ps:List PV} {vs:List V} (i:Nat),RepL H ρ ps vs->RepL H ρ (ps.set i p) (vs.set i v)
 | [],_,_,g=>by cases g; rfl
 | q :: ps,_,0,⟨u,r,rfl,h1,h2⟩=>⟨v,r,rfl,h,h2⟩
 | q :: ps,_,i + 1,⟨u,r,rfl,h1,h2⟩=>⟨u,_,rfl,h1,RepL.set h i h2⟩
theorem RepL.rep {ps:List PV} {vs:List V} (h:RepL H ρ ps vs):∀ n,RepL H ρ (bR n ps).flatten (bR n vs).flatten
 | 0=>rfl
 | n + 1=>by rw [cI,cI,cW,cW]; exact h.append (RepL.rep h n)
theorem RepL.toInts:∀ {ns:List Int} {vs:List V},RepL H ρ (ns.map .int) vs->vs=ns.map V.int
 | [],_,h=>h
 | n :: ns,_,⟨v,r,rfl,h1,h2⟩=>by
  have e:v=V.int n:=h1;rw [RepL.toInts h2,e]; rfl
theorem RepL.toBls:∀ {ns:List Bool} {vs:List V},RepL H ρ (ns.map .bl) vs->vs=ns.map V.bl
 | [],_,h=>h
 | n :: ns,_,⟨v,r,rfl,h1,h2⟩=>by
  have e:v=V.bl n:=h1;rw [RepL.toBls h2,e]; rfl
end
def RepD {κ:Type} (H:Hp) (ρ:Tk) (kvs:List (κ × PV)) (vs:List (κ × V)):Prop:=vs.map cy=kvs.map cy/\RepL H ρ (kvs.map ez) (vs.map ez)
theorem RepD.ext {κ:Type} {H H':Hp} {ρ ρ':Tk} {kvs:List (κ × PV)} {vs:List (κ × V)} (x:Ext H ρ H' ρ') (r:RepD H ρ kvs vs):RepD H' ρ' kvs vs:=⟨r.1,r.2.ext x⟩
theorem RepD.length {κ:Type} {H:Hp} {ρ:Tk} {kvs:List (κ × PV)} {vs:List (κ × V)} (r:RepD H ρ kvs vs):kvs.length=vs.length:=by
 have:=congrArg dW r.1;rw [O2,O2] at this;exact this.symm
def CellR (H:Hp) (ρ:Tk) (a:aA):Cell->Prop
 | .lst ps=>∃ vs,H a=zo (.lst vs)/\RepL H ρ ps vs
 | .dic kvs=>∃ vs,H a=zo (.dK vs)/\RepD H ρ kvs vs
 | .dtp kvs=>∃ vs,H a=zo (.dT vs)/\RepD H ρ kvs vs
 | .frd kvs=>∃ vs,(∃ o,H a=zo (.frz o (.dK vs)))/\RepD H ρ kvs vs
 | .obj C fs=>∃ vs,(∃ dx,H a=zo (.ins C dx vs))/\RepD H ρ fs vs
theorem CellR.dom {H:Hp} {ρ:Tk} {a:aA}:∀ {c:Cell},CellR H ρ a c->∃ o,H a=zo o
 | .lst _,⟨_,e,_⟩=>⟨_,e⟩
 | .dic _,⟨_,e,_⟩=>⟨_,e⟩
 | .dtp _,⟨_,e,_⟩=>⟨_,e⟩
 | .frd _,⟨_,⟨_,e⟩,_⟩=>⟨_,e⟩
 | .obj _ _,⟨_,⟨_,e⟩,_⟩=>⟨_,e⟩
theorem CellR.ext {H H':Hp} {ρ ρ':Tk} {a:aA} (x:Ext H ρ H' ρ') (k:∀ o,H a=zo o->H' a=zo o):∀ {c:Cell},CellR H ρ a c->CellR H' ρ' a c
 | .lst _,⟨vs,e,r⟩=>⟨vs,k _ e,r.ext x⟩
 | .dic _,⟨vs,e,r⟩=>⟨vs,k _ e,r.ext x⟩
 | .dtp _,⟨vs,e,r⟩=>⟨vs,k _ e,r.ext x⟩
 | .frd _,⟨vs,⟨o,e⟩,r⟩=>⟨vs,⟨o,k _ e⟩,r.ext x⟩
 | .obj _ _,⟨vs,⟨o,e⟩,r⟩=>⟨vs,⟨o,k _ e⟩,r.ext x⟩
structure Rel (H:Hp) (ρ:Tk) (st:Q2):Prop where
 len:ρ.tr.length=st.length
 nd:ρ.tr.Nodup
 hd:∀ a∈ρ.hid,∃ o,H a=zo o/\∀ xs,o≠.tup xs
 ap:∀ a∈ρ.hid,a∉ρ.tr
 cell:∀ (i:Nat) (a:aA) (c:Cell),ρ.tr[i]?=zo a->st[i]?=zo c->CellR H ρ a c
section
variable {H H':Hp} {ρ ρ':Tk} {st st':Q2}
theorem Rel.lst (R:Rel H ρ st) {i:Nat} {ps:List PV} (h:st[i]?=zo (.lst ps)):∃ a vs,ρ.tr[i]?=zo a/\H a=zo (.lst vs)/\RepL H ρ ps vs:=by
 have hi:i < ρ.tr.length:=by rw [R.len]; exact (O0.mp h).1
 have e:ρ.tr[i]?=zo ρ.tr[i]:=O4 hi;obtain ⟨vs,e1,e2⟩:=R.cell i _ _ e h;exact ⟨_,vs,e,e1,e2⟩
theorem Rel.dic (R:Rel H ρ st) {i:Nat} {kvs:List (Key × PV)} (h:st[i]?=zo (.dic kvs)):∃ a vs,ρ.tr[i]?=zo a/\H a=zo (.dK vs)/\RepD H ρ kvs vs:=by
 have hi:i < ρ.tr.length:=by rw [R.len]; exact (O0.mp h).1
 have e:ρ.tr[i]?=zo ρ.tr[i]:=O4 hi;obtain ⟨vs,e1,e2⟩:=R.cell i _ _ e h;exact ⟨_,vs,e,e1,e2⟩
theorem Rel.frd (R:Rel H ρ st) {i:Nat} {kvs:List (Key × PV)} (h:st[i]?=zo (.frd kvs)):∃ a vs o,ρ.tr[i]?=zo a/\H a=zo (.frz o (.dK vs))/\RepD H ρ kvs vs:=by
 have hi:i < ρ.tr.length:=by rw [R.len]; exact (O0.mp h).1
 have e:ρ.tr[i]?=zo ρ.tr[i]:=O4 hi;obtain ⟨vs,⟨o,e1⟩,e2⟩:=R.cell i _ _ e h;exact ⟨_,vs,o,e,e1,e2⟩
theorem Rel.obj (R:Rel H ρ st) {i:Nat} {C:aA} {fs:List (Str × PV)} (h:st[i]?=zo (.obj C fs)):∃ a vs dx,ρ.tr[i]?=zo a/\H a=zo (.ins C dx vs)/\RepD H ρ fs vs:=by
 have hi:i < ρ.tr.length:=by rw [R.len]; exact (O0.mp h).1
 have e:ρ.tr[i]?=zo ρ.tr[i]:=O4 hi;obtain ⟨vs,⟨o,e1⟩,e2⟩:=R.cell i _ _ e h;exact ⟨_,vs,o,e,e1,e2⟩
theorem Rel.dom (R:Rel H ρ st) {a:aA} (h:a∈ρ.tr):∃ o,H a=zo o:=by
 obtain ⟨i,hi,e⟩:=dh h;have hs:i < st.length:=by rw [<- R.len]; exact hi
 have q:=R.cell i a st[i] (by rw [O4 hi,e]) (O4 hs);exact q.dom
theorem Rel.fresh (R:Rel H ρ st) {p:aA} (h:H p=zl):p∉ρ:=fun z=>by
 rcases z with z | z
 ·obtain ⟨vs,q⟩:=R.dom z;rw [h] at q; cases q
 ·obtain ⟨o,q,_⟩:=R.hd p z;rw [h] at q; cases q
theorem Rel.later (R:Rel H ρ st) (x:Ext H ρ H' ρ) (k:∀ a o,a∈ρ.tr->H a=zo o->H' a=zo o):Rel H' ρ st where
 len:=R.len
 nd:=R.nd
 hd:=fun a j=>let ⟨o,e,n⟩:=R.hd a j; ⟨o,x.keep a o e (R.ap a j),n⟩
 ap:=R.ap
 cell:=fun i a c h1 h2=>by
  exact (R.cell i a c h1 h2).ext x fun o e=>k a o (D5 h1) e
end
theorem Rel.add {H:Hp} {ρ:Tk} {st:Q2} (R:Rel H ρ st) {p:aA} {o:HO} (h:H p=zl):Rel (upd H p o) ρ st:=
 R.later (Ext.add h) fun a u j e=>by rw [Qj (Qm e h)]; exact e
theorem Rel.same {H H':Hp} {ρ:Tk} {st:Q2} (R:Rel H ρ st) (h:Same H H'):Rel H' ρ st:=R.later (Ext.same h) fun a u _ e=>h a u e
theorem Rel.addC {H:Hp} {ρ:Tk} {st:Q2} (R:Rel H ρ st) {p:aA} {cl:Cell} {o:HO} (h:H p=zl) (r:CellR (upd H p o) (ρ.add p) p cl):Rel (upd H p o) (ρ.add p) (st ++ [cl]) where
 len:=by show (ρ.tr ++ [p]).length=_; rw [D0,D0,R.len]; rfl
 nd:=cz.mpr ⟨R.nd,by simp,fun a j b B e=>by
  have:b=p:=by simpa using B
  subst this; subst e;exact R.fresh h (.inl j)⟩
 hd:=fun a j=>let ⟨o,e,n⟩:=R.hd a j; ⟨o,by rw [Qj (Qm e h)]; exact e,n⟩
 ap:=fun a j z=>by
  rcases E7.mp z with z | z
  ·exact R.ap a j z
  ·have:a=p:=by simpa using z
   subst this;exact R.fresh h (.inr j)
 cell:=fun i a c h1 h2=>by
  have h1:(ρ.tr ++ [p])[i]?=zo a:=h1
  by_cases hi:i < st.length
  ·rw [O5 (by rw [R.len]; exact hi)] at h1;rw [O5 hi] at h2;exact (R.cell i a c h1 h2).ext (Ext.addT h) fun u e=>by rw [Qj (Qm e h)]; exact e
  ·rw [D3 (by rw [R.len]; omega)] at h1;rw [D3 (by omega)] at h2;have q:i - st.length=0:=by
    rcases fA (i - st.length) with z | z
    ·exact z
    ·rw [F3 (by simp; omega)] at h2; cases h2
   rw [R.len,q] at h1;rw [q] at h2;simp at h1 h2;subst h1; subst h2;exact r
theorem Qbi {α:Type} {l:List α} (h:l.Nodup) {i j:Nat} (hi:i < l.length) (q:j < l.length) (e:l[i]=l[j]):i=j:=by
 rcases Nat.lt_trichotomy i j with z | z | z
 ·exact absurd e ((fB.mp h) i j hi q z)
 ·exact z
 ·exact absurd e.symm ((fB.mp h) j i q hi z)
theorem Ext.put {H:Hp} {ρ:Tk} {a:aA} {o o':HO} (h:a∈ρ.tr) (e:H a=zo o) (j:∀ q u,o≠.frz q u:=by intro _ _ z; cases z):Ext H ρ (upd H a o') ρ where
 pre:=cb _
 hidM:=fun _ h=>h
 hidN:=fun _ h=>.inl h
 keep:=fun b u q n=>by rw [Qj (show b≠a from fun z=>n (by rw [z]; exact h))]; exact q
 new:=fun b q=>.inl q
 old:=fun b u q=>by
  by_cases z:b=a
  ·exact ⟨o',by rw [z]; exact Jg⟩
  ·exact ⟨u,by rw [Qj z]; exact q⟩
 frz:=fun b q u k=>by
  by_cases z:b=a
  ·rw [z,e] at k; cases k; exact absurd rfl (j _ _)
  ·rw [Qj z]; exact k
theorem Rel.putC {H:Hp} {ρ:Tk} {st:Q2} (R:Rel H ρ st) {i:Nat} {a:aA} {cl:Cell} {o o':HO} (hi:ρ.tr[i]?=zo a) (e:H a=zo o) (r:CellR (upd H a o') ρ a cl):Rel (upd H a o') ρ (st.set i cl) where
 len:=by rw [D7]; exact R.len
 nd:=R.nd
 hd:=fun b B=>let ⟨u,q,n⟩:=R.hd b B; ⟨u,by rw [Qj (show b≠a from fun z=>R.ap b B (by rw [z]; exact D5 hi))]; exact q,n⟩
 ap:=R.ap
 cell:=fun j b c h1 h2=>by
  by_cases I:i=j
  ·subst I;rw [hi] at h1; cases h1;rw [E4 (by rw [<- R.len]; exact (O0.mp hi).1)] at h2;cases h2;exact r
  ·rw [O6 I] at h2;have q:=R.cell j b c h1 h2;have B:b≠a:=fun z=>by
    subst z;have O:=(O0.mp hi);have U:=(O0.mp h1);exact I (Qbi R.nd O.1 U.1 (O.2.trans U.2.symm))
   have G:=D5 hi;cases c with
   | lst ps=>
    obtain ⟨vs,e1,e2⟩:=q;exact ⟨vs,by rw [Qj B]; exact e1,e2.retr G⟩
   | dic ps=>
    obtain ⟨vs,e1,e2⟩:=q;exact ⟨vs,by rw [Qj B]; exact e1,e2.1,e2.2.retr G⟩
   | dtp ps=>
    obtain ⟨vs,e1,e2⟩:=q;exact ⟨vs,by rw [Qj B]; exact e1,e2.1,e2.2.retr G⟩
   | frd ps=>
    obtain ⟨vs,⟨J,e1⟩,e2⟩:=q;exact ⟨vs,⟨J,by rw [Qj B]; exact e1⟩,e2.1,e2.2.retr G⟩
   | obj C ps=>
    obtain ⟨vs,⟨J,e1⟩,e2⟩:=q;exact ⟨vs,⟨J,by rw [Qj B]; exact e1⟩,e2.1,e2.2.retr G⟩
theorem Rel.put {H:Hp} {ρ:Tk} {st:Q2} (R:Rel H ρ st) {i:Nat} {a:aA} {ps:List PV} {vs:List V} {o:HO} (hi:ρ.tr[i]?=zo a) (e:H a=zo o) (r:RepL H ρ ps vs):Rel (upd H a (.lst vs)) ρ (st.set i (.lst ps)):=
 R.putC hi e ⟨vs,Jg,r.retr (D5 hi)⟩
theorem Rel.hide {H:Hp} {ρ:Tk} {st:Q2} (R:Rel H ρ st) {p:aA} {o:HO} (h:H p=zl) (I:∀ xs,o≠.tup xs:=by intro _ z; cases z):Rel (upd H p o) (ρ.hide p) st:=by
 have x:Ext H ρ (upd H p o) ρ:=Ext.add h;have B:=R.add (p:=p) (o:=o) h;refine ⟨B.len,B.nd,fun a j=>?_,fun a j z=>?_,fun i a c h1 h2=>?_⟩
 ·rcases E5.mp j with rfl | j
  ·exact ⟨o,Jg,I⟩
  ·exact B.hd a j
 ·rcases E5.mp j with rfl | j
  ·exact R.fresh h (.inl z)
  ·exact R.ap a j z
 ·have q:=R.cell i a c h1 h2;cases c with
  | lst ps=>
   obtain ⟨vs,e1,e2⟩:=q;exact ⟨vs,by rw [Qj (Qm e1 h)]; exact e1,e2.hide h⟩
  | dic ps=>
   obtain ⟨vs,e1,e2⟩:=q;exact ⟨vs,by rw [Qj (Qm e1 h)]; exact e1,e2.1,e2.2.hide h⟩
  | dtp ps=>
   obtain ⟨vs,e1,e2⟩:=q;exact ⟨vs,by rw [Qj (Qm e1 h)]; exact e1,e2.1,e2.2.hide h⟩
  | frd ps=>
   obtain ⟨vs,⟨G,e1⟩,e2⟩:=q;exact ⟨vs,⟨G,by rw [Qj (Qm e1 h)]; exact e1⟩,e2.1,e2.2.hide h⟩
  | obj C ps=>
   obtain ⟨vs,⟨G,e1⟩,e2⟩:=q;exact ⟨vs,⟨G,by rw [Qj (Qm e1 h)]; exact e1⟩,e2.1,e2.2.hide h⟩
theorem Rel.rehide {H:Hp} {ρ:Tk} {st:Q2} (R:Rel H ρ st) {p:aA} {o:HO} (h:p∈ρ.hid) (G:∀ xs,o≠.tup xs:=by intro _ z; cases z):Rel (upd H p o) ρ st:=by
 refine ⟨R.len,R.nd,fun a B=>?_,R.ap,fun i a c h1 h2=>?_⟩
 ·by_cases e:a=p
  ·exact ⟨o,by rw [e]; exact Jg,G⟩
  ·obtain ⟨u,q,n⟩:=R.hd a B;exact ⟨u,by rw [Qj e]; exact q,n⟩
 ·have q:=R.cell i a c h1 h2;have ne:a≠p:=fun z=>R.ap p h (by rw [<- z]; exact D5 h1)
  cases c with
  | lst ps=>
   obtain ⟨vs,e1,e2⟩:=q;exact ⟨vs,by rw [Qj ne]; exact e1,e2.rehide h⟩
  | dic ps=>
   obtain ⟨vs,e1,e2⟩:=q;exact ⟨vs,by rw [Qj ne]; exact e1,e2.1,e2.2.rehide h⟩
  | dtp ps=>
   obtain ⟨vs,e1,e2⟩:=q;exact ⟨vs,by rw [Qj ne]; exact e1,e2.1,e2.2.rehide h⟩
  | frd ps=>
   obtain ⟨vs,⟨j,e1⟩,e2⟩:=q;exact ⟨vs,⟨j,by rw [Qj ne]; exact e1⟩,e2.1,e2.2.rehide h⟩
  | obj C ps=>
   obtain ⟨vs,⟨j,e1⟩,e2⟩:=q;exact ⟨vs,⟨j,by rw [Qj ne]; exact e1⟩,e2.1,e2.2.rehide h⟩
theorem Rel.unhide {H:Hp} {ρ:Tk} {st:Q2} {hs:List aA} (j:∀ a,a∈hs->a∈ρ.hid) (R:Rel H ρ st):Rel H ⟨ρ.tr,hs⟩ st:=by
 refine ⟨R.len,R.nd,fun a z=>R.hd a (j a z),fun a z=>R.ap a (j a z),fun i a c h1 h2=>?_⟩;have q:=R.cell i a c h1 h2;cases c with
 | lst ps=>
  obtain ⟨vs,e1,e2⟩:=q;exact ⟨vs,e1,RepL.unhide j e2⟩
 | dic ps=>
  obtain ⟨vs,e1,e2⟩:=q;exact ⟨vs,e1,e2.1,RepL.unhide j e2.2⟩
 | dtp ps=>
  obtain ⟨vs,e1,e2⟩:=q;exact ⟨vs,e1,e2.1,RepL.unhide j e2.2⟩
 | frd ps=>
  obtain ⟨vs,e1,e2⟩:=q;exact ⟨vs,e1,e2.1,RepL.unhide j e2.2⟩
 | obj C ps=>
  obtain ⟨vs,e1,e2⟩:=q;exact ⟨vs,e1,e2.1,RepL.unhide j e2.2⟩
theorem Ext.hide {H:Hp} {ρ:Tk} {p:aA} {o:HO} (h:H p=zl):Ext H ρ (upd H p o) (ρ.hide p) where
 pre:=cb _
 hidM:=fun _ h=>O9 _ h
 hidN:=fun a j=>by
  rcases E5.mp j with rfl | j
  ·exact .inr h
  ·exact .inl j
 keep:=fun a u e _=>by rw [Qj (Qm e h)]; exact e
 new:=fun a e=>.inl e
 old:=fun a u e=>⟨u,by rw [Qj (Qm e h)]; exact e⟩
 frz:=fun a o u e=>by rw [Qj (Qm e h)]; exact e
theorem Ext.put0 {H H1:Hp} {ρ ρ1:Tk} {p:aA} {o:HO} (x:Ext H ρ H1 ρ1) (h:H p=zl):Ext H ρ (upd H1 p o) ρ1 where
 pre:=x.pre
 hidM:=x.hidM
 hidN:=x.hidN
 keep:=fun a u e n=>by rw [Qj (Qm e h)]; exact x.keep a u e n
 new:=x.new
 old:=fun a u e=>by rw [Qj (Qm e h)]; exact x.old a u e
 frz:=fun a o u e=>by rw [Qj (Qm e h)]; exact x.frz a o u e
theorem Ext.unhide {H H1:Hp} {ρ ρ1:Tk} (x:Ext H ρ H1 ρ1):Ext H ρ H1 ⟨ρ1.tr,ρ.hid⟩ where
 pre:=x.pre
 hidM:=fun _ h=>h
 hidN:=fun _ h=>.inl h
 keep:=x.keep
 new:=x.new
 old:=x.old
 frz:=x.frz
def EnvR (H:Hp) (ρ:Tk) (Γ:Gam) (σ:St):Prop:=Γ.length=σ.length/\∀ (i:Nat) (p:PV),Γ[i]?=zo (zo p)->∃ v,σ[i]?=zo (zo v)/\Rep H ρ p v
theorem EnvR.ext {H H':Hp} {ρ ρ':Tk} {Γ:Gam} {σ:St} (x:Ext H ρ H' ρ') (h:EnvR H ρ Γ σ):EnvR H' ρ' Γ σ:=
 ⟨h.1,fun i p e=>let ⟨v,a,b⟩:=h.2 i p e; ⟨v,a,b.ext x⟩⟩
theorem EnvR.hide {H:Hp} {ρ:Tk} {Γ:Gam} {σ:St} {a:aA} {o:HO} (n:H a=zl) (h:EnvR H ρ Γ σ):EnvR (upd H a o) (ρ.hide a) Γ σ:=⟨h.1,fun i p e=>let ⟨v,a,b⟩:=h.2 i p e; ⟨v,a,b.hide n⟩⟩
theorem EnvR.rehide {H:Hp} {ρ:Tk} {Γ:Gam} {σ:St} {a:aA} {o:HO} (n:a∈ρ.hid) (h:EnvR H ρ Γ σ):EnvR (upd H a o) ρ Γ σ:=⟨h.1,fun i p e=>let ⟨v,a,b⟩:=h.2 i p e; ⟨v,a,b.rehide n⟩⟩
theorem EnvR.set {H:Hp} {ρ:Tk} {Γ:Gam} {σ:St} {p:PV} {v:V} (h:EnvR H ρ Γ σ) (r:Rep H ρ p v) (i:Nat):EnvR H ρ (Γ.set i (zo p)) (σ.set i (zo v)):=by
 refine ⟨by rw [D7,D7]; exact h.1,fun j q e=>?_⟩;rw [di] at e;rw [di]
 by_cases B:i=j
 ·subst B;simp only [if_true] at e ⊢
  by_cases z:i < Γ.length
  ·rw [bK z] at e; cases e;rw [bK (by rw [<- h.1]; exact z)];exact ⟨v,rfl,r⟩
  ·rw [bL z] at e; cases e
 ·rw [bL B] at e ⊢;exact h.2 j q e
end
def Res.bind {α β:Type} (r:Res α) (f:α->Q2->Res β):Res β:=match r with
 | .ok a st=>f a st
 | .exc x st=>.exc x st
 | .stuck=>.stuck
def okO {α:Type} (st:Q2):Option α->Res α
 | some a=>.ok a st
 | none=>.stuck
section
variable (X:Cx)
def WE (e:aD):TE:=fun σ H Q=>∀ (pins:List (aA × Obj)) (s:aC),Inv X pins σ H s->aI (aJ X.prog X.w) X.A (aM e X.env) (EP X pins σ Q) X.xe s
def WT (e:aD):TT:=fun σ H Q=>∀ (pins:List (aA × Obj)) (s:aC),Inv X pins σ H s->aI (aJ X.prog X.w) X.A (isTrue e X.env (aM e X.env)) (TP X pins σ Q) X.xe s
def WW (e:aD):TT:=fun σ H Q=>∀ (wh:Sem aB) (pins:List (aA × Obj)) (s:aC),Inv X pins σ H s->aI (aJ X.prog X.w) X.A (isTrue e X.env wh) (TP X pins σ Q) X.xe s
def WA (es:List aD):TA:=fun σ H Q=>∀ (pos:Pos) (pins:List (aA × Obj)) (s:aC),Inv X pins σ H s->aI (aJ X.prog X.w) X.A (spliced (aU pos (aP es X.env))) (AP X pins σ Q) X.xe s
def WS (st:aK):TS:=fun D σ H=>∀ (pins:List (aA × Obj)) (s:aC),Inv X pins σ H s->aI (aJ X.prog X.w) X.A (exec st X.env) (SP X pins D) X.xe s
def WB (st:List aK):TS:=fun D σ H=>∀ (pins:List (aA × Obj)) (s:aC),Inv X pins σ H s->aI (aJ X.prog X.w) X.A (execs st X.env) (SP X pins D) X.xe s
def WI (tg iter : aD) : TI := fun σ H R => ∀ (pins : List (aA × Obj)) (s : aC), Inv X pins σ H s ->
  aI (aJ X.prog X.w) X.A (aM iter X.env) (fun v s1=>aI (aJ X.prog X.w) X.A (pyIter v) (PIE X pins σ tg R) X.xe s1) X.xe s
def WO (f:aB->aB->Sem aB):R2:=fun x y H Q=>∀ (pins:List (aA × Obj)) (s:aC) (σ:St) (v u:aB),Inv X pins σ H s->RelV x v->RelV y u->aI (aJ X.prog X.w) X.A (f v u) (EP X pins σ Q) X.xe s
def WC (f:aB):List V->Hp->VK->Prop:=fun xs H Q=>∀ (pins:List (aA × Obj)) (s:aC) (σ:St) (us:List aB),Inv X pins σ H s->Vals xs us->aI (aJ X.prog X.w) X.A (call f us) (EP X pins σ Q) X.xe s
end
section
variable {X:Cx}
theorem Zx {e:aD}:PE X e (WE X e):=fun pins s _ _ _ I h=>h pins s I
theorem Qe7 {e:aD}:PT X e (WT X e):=fun pins s _ _ _ I h=>h pins s I
theorem Qxx {e:aD}:PW X e (WW X e):=fun j pins s _ _ _ I h=>h j pins s I
theorem Q3m {es:List aD}:PA X es (WA X es):=fun pos pins s _ _ _ I h=>h pos pins s I
theorem Qxz {st:aK}:PS X st (WS X st):=fun pins s _ _ _ I h=>h pins s I
theorem Q87 {st:List aK}:PSs X st (WB X st):=fun pins s _ _ _ I h=>h pins s I
theorem Quw {tg iter:aD}:PI X tg iter (WI X tg iter):=fun pins s _ _ _ I h=>h pins s I
theorem Qgh {f:aB->aB->Sem aB}:OpR X f (WO X f):=fun pins s σ _ _ _ v u _ I r1 r2 h=>h pins s σ v u I r1 r2
theorem Qpk {f:aB}:Ki X f (WC X f):=fun pins s σ _ _ us _ I r h=>h pins s σ us I r
theorem WE.of {e:aD} {t:TE} {σ:St} {H:Hp} {Q:VK} (h:PE X e t) (q:t σ H Q):WE X e σ H Q:=fun pins s I=>h pins s σ H Q I q
theorem WT.of {e:aD} {t:TT} {σ:St} {H:Hp} {Q:Bool->Hp->Prop} (h:PT X e t) (q:t σ H Q):WT X e σ H Q:=fun pins s I=>h pins s σ H Q I q
theorem WW.of {e:aD} {t:TT} {σ:St} {H:Hp} {Q:Bool->Hp->Prop} (h:PW X e t) (q:t σ H Q):WW X e σ H Q:=fun j pins s I=>h j pins s σ H Q I q
theorem WA.of {es:List aD} {t:TA} {σ:St} {H:Hp} {Q:List V->Hp->Prop} (h:PA X es t) (q:t σ H Q):WA X es σ H Q:=fun pos pins s I=>h pos pins s σ H Q I q
theorem WS.of {st:aK} {t:TS} {σ:St} {H:Hp} {D:Ends} (h:PS X st t) (q:t D σ H):WS X st D σ H:=fun pins s I=>h pins s σ H D I q
theorem WB.of {st:List aK} {t:TS} {σ:St} {H:Hp} {D:Ends} (h:PSs X st t) (q:t D σ H):WB X st D σ H:=fun pins s I=>h pins s σ H D I q
theorem WI.of {tg iter:aD} {t:TI} {σ:St} {H:Hp} {R:It->Hp->Prop} (h:PI X tg iter t) (q:t σ H R):WI X tg iter σ H R:=fun pins s I=>h pins s σ H R I q
theorem WO.of {f:aB->aB->Sem aB} {r:R2} {x y:V} {H:Hp} {Q:VK} (h:OpR X f r) (q:r x y H Q):WO X f x y H Q:=fun pins s σ v u I r1 r2=>h pins s σ H x y v u Q I r1 r2 q
theorem WC.of {f:aB} {r:List V->Hp->VK->Prop} {xs:List V} {H:Hp} {Q:VK} (h:Ki X f r) (q:r xs H Q):WC X f xs H Q:=fun pins s σ us I r1=>h pins s σ H xs us Q I r1 q
end
def XFs (H:Hp) (ρ:Tk):Option (Str × PV)->Option aA->Prop
 | none,dv=>dv=zl
 | some (n,p),dv=>∃ dx v,dv=zo dx/\H dx=zo (.xd [(n,v)])/\dx∉ρ/\Rep H ρ p v
def Acc {α:Type} (mg:Str->Option aB) (E:XK) (H:Hp) (ρ:Tk) (P:α->Q2->Hp->Tk->Prop):Res α->Prop
 | .ok a st=>∀ H' ρ',Ext H ρ H' ρ'->Rel H' ρ' st->P a st H' ρ'
 | .exc x st=>∀ C dv H' ρ',mg x.cls=zo (.ref C)->Ext H ρ H' ρ'->Rel H' ρ' st->XFs H' ρ' x.fs dv->E (.ref C) dv H'
 | .stuck=>False
section
variable {α β:Type} {mg:Str->Option aB} {E:XK} {H H1:Hp} {ρ ρ1:Tk}
theorem Acc.mono {P z:α->Q2->Hp->Tk->Prop} {r:Res α} (h:Acc mg E H ρ P r) (x:Ext H ρ H1 ρ1) (k:∀ a st H' ρ',P a st H' ρ'->z a st H' ρ'):Acc mg E H1 ρ1 z r:=by
 cases r with
 | ok a st=>exact fun H' ρ' j q=>k _ _ _ _ (h H' ρ' (x.trans j) q)
 | exc e st=>exact fun C B H' ρ' m j q f=>h C B H' ρ' m (x.trans j) q f
 | stuck=>exact h
theorem Acc.later {P:α->Q2->Hp->Tk->Prop} {r:Res α} (h:Acc mg E H ρ P r) (x:Ext H ρ H1 ρ1):Acc mg E H1 ρ1 P r:=h.mono x fun _ _ _ _ p=>p
theorem Acc.bind {P:β->Q2->Hp->Tk->Prop} {r:Res α} {f:α->Q2->Res β} (h:Acc mg E H ρ P (r.bind f)):Acc mg E H ρ (fun a j H1 ρ1=>Acc mg E H1 ρ1 P (f a j)) r:=by
 cases r with
 | ok a st=>exact fun H' ρ' q z=>Acc.later (show Acc mg E H ρ P (f a st) from h) q
 | exc e st=>exact h
 | stuck=>exact h
end
abbrev QV (Q:VK):PV->Q2->Hp->Tk->Prop:=fun p _ H' ρ'=>∀ v,Rep H' ρ' p v->Q v H'
abbrev QL (Q:List V->Hp->Prop):List PV->Q2->Hp->Tk->Prop:=fun ps _ H' ρ'=>∀ vs,RepL H' ρ' ps vs->Q vs H'
abbrev QB (Q:Bool->Hp->Prop):Bool->Q2->Hp->Tk->Prop:=fun b _ H' _=>Q b H'
structure SimE (X:Cx) (E:XK) (e:aD) (m:ME):Prop where
 run:∀ (Γ:Gam) (σ:St) (H:Hp) (ρ:Tk) (st:Q2) (Q:VK),Rel H ρ st->EnvR H ρ Γ σ->Acc X.mg E H ρ (QV Q) (m Γ st)->WE X e σ H Q
structure SimT (X:Cx) (E:XK) (e:aD) (m:Gam->Q2->Res Bool):Prop where
 run:∀ (Γ:Gam) (σ:St) (H:Hp) (ρ:Tk) (st:Q2) (Q:Bool->Hp->Prop),Rel H ρ st->EnvR H ρ Γ σ->Acc X.mg E H ρ (QB Q) (m Γ st)->WT X e σ H Q
structure SimW (X:Cx) (E:XK) (e:aD) (m:Gam->Q2->Res Bool):Prop where
 run:∀ (Γ:Gam) (σ:St) (H:Hp) (ρ:Tk) (st:Q2) (Q:Bool->Hp->Prop),Rel H ρ st->EnvR H ρ Γ σ->Acc X.mg E H ρ (QB Q) (m Γ st)->WW X e σ H Q
structure SimA (X:Cx) (E:XK) (es:List aD) (m:Gam->Q2->Res (List PV)):Prop where
 run:∀ (Γ:Gam) (σ:St) (H:Hp) (ρ:Tk) (st:Q2) (Q:List V->Hp->Prop),Rel H ρ st->EnvR H ρ Γ σ->Acc X.mg E H ρ (QL Q) (m Γ st)->WA X es σ H Q
abbrev OP:=Q2->PV->PV->Res PV
structure OpS (X:Cx) (E:XK) (f:aB->aB->Sem aB) (o:OP):Prop where
 run:∀ (H:Hp) (ρ:Tk) (st:Q2) (p q:PV) (x y:V) (Q:VK),Rel H ρ st->Rep H ρ p x->Rep H ρ q y->Acc X.mg E H ρ (QV Q) (o st p q)->WO X f x y H Q
abbrev CF:=Q2->List PV->Res PV
structure CallS (X:Cx) (E:XK) (f:aB) (o:CF):Prop where
 run:∀ (H:Hp) (ρ:Tk) (st:Q2) (ps:List PV) (xs:List V) (Q:VK),Rel H ρ st->RepL H ρ ps xs->Acc X.mg E H ρ (QV Q) (o st ps)->WC X f xs H Q
section
variable {X:Cx} {E:XK} {Γ:Gam} {σ:St} {H:Hp} {ρ:Tk} {st:Q2}
theorem SimE.use {e:aD} {m:ME} (s:SimE X E e m) {P:PV->Q2->Hp->Tk->Prop} {Q:VK} (R:Rel H ρ st) (G:EnvR H ρ Γ σ) (h:Acc X.mg E H ρ P (m Γ st))
  (k:∀ p j H1 ρ1 v,Ext H ρ H1 ρ1->Rel H1 ρ1 j->EnvR H1 ρ1 Γ σ->Rep H1 ρ1 p v->P p j H1 ρ1->Q v H1):WE X e σ H Q:=by
 refine s.run Γ σ H ρ st Q R G ?_;cases r:m Γ st with
 | ok p j=>rw [r] at h; exact fun H' ρ' q z v B=>k p j H' ρ' v q z (G.ext q) B (h H' ρ' q z)
 | exc e st=>rw [r] at h; exact h
 | stuck=>rw [r] at h; exact h
theorem SimE.use' {e:aD} {m:ME} (s:SimE X E e m) {P:PV->Q2->Hp->Tk->Prop} {Q:VK} (R:Rel H ρ st) (G:EnvR H ρ Γ σ) (h:Acc X.mg E H ρ P (m Γ st))
  (k:∀ p j H1 ρ1 v,m Γ st=.ok p j->Ext H ρ H1 ρ1->Rel H1 ρ1 j->EnvR H1 ρ1 Γ σ->Rep H1 ρ1 p v->P p j H1 ρ1->Q v H1):WE X e σ H Q:=by
 refine s.run Γ σ H ρ st Q R G ?_;cases r:m Γ st with
 | ok p j=>rw [r] at h; exact fun H' ρ' q z v B=>k p j H' ρ' v r q z (G.ext q) B (h H' ρ' q z)
 | exc e st=>rw [r] at h; exact h
 | stuck=>rw [r] at h; exact h
theorem SimA.use' {es:List aD} {m:Gam->Q2->Res (List PV)} (s:SimA X E es m) {P:List PV->Q2->Hp->Tk->Prop} {Q:List V->Hp->Prop} (R:Rel H ρ st) (G:EnvR H ρ Γ σ) (h:Acc X.mg E H ρ P (m Γ st))
  (k:∀ ps j H1 ρ1 vs,m Γ st=.ok ps j->Ext H ρ H1 ρ1->Rel H1 ρ1 j->EnvR H1 ρ1 Γ σ->RepL H1 ρ1 ps vs->P ps j H1 ρ1->Q vs H1):WA X es σ H Q:=by
 refine s.run Γ σ H ρ st Q R G ?_;cases r:m Γ st with
 | ok p j=>rw [r] at h; exact fun H' ρ' q z v B=>k p j H' ρ' v r q z (G.ext q) B (h H' ρ' q z)
 | exc e st=>rw [r] at h; exact h
 | stuck=>rw [r] at h; exact h
theorem SimT.use {e:aD} {m:Gam->Q2->Res Bool} (s:SimT X E e m) {P:Bool->Q2->Hp->Tk->Prop} {Q:Bool->Hp->Prop} (R:Rel H ρ st) (G:EnvR H ρ Γ σ) (h:Acc X.mg E H ρ P (m Γ st))
  (k:∀ p j H1 ρ1,Ext H ρ H1 ρ1->Rel H1 ρ1 j->EnvR H1 ρ1 Γ σ->P p j H1 ρ1->Q p H1):WT X e σ H Q:=by
 refine s.run Γ σ H ρ st Q R G ?_;cases r:m Γ st with
 | ok p j=>rw [r] at h; exact fun H' ρ' q z=>k p j H' ρ' q z (G.ext q) (h H' ρ' q z)
 | exc e st=>rw [r] at h; exact h
 | stuck=>rw [r] at h; exact h
theorem SimT.use' {e:aD} {m:Gam->Q2->Res Bool} (s:SimT X E e m) {P:Bool->Q2->Hp->Tk->Prop} {Q:Bool->Hp->Prop} (R:Rel H ρ st) (G:EnvR H ρ Γ σ) (h:Acc X.mg E H ρ P (m Γ st))
  (k:∀ p j H1 ρ1,m Γ st=.ok p j->Ext H ρ H1 ρ1->Rel H1 ρ1 j->EnvR H1 ρ1 Γ σ->P p j H1 ρ1->Q p H1):WT X e σ H Q:=by
 refine s.run Γ σ H ρ st Q R G ?_;cases r:m Γ st with
 | ok p j=>rw [r] at h; exact fun H' ρ' q z=>k p j H' ρ' r q z (G.ext q) (h H' ρ' q z)
 | exc e st=>rw [r] at h; exact h
 | stuck=>rw [r] at h; exact h
theorem SimW.use {e:aD} {m:Gam->Q2->Res Bool} (s:SimW X E e m) {P:Bool->Q2->Hp->Tk->Prop} {Q:Bool->Hp->Prop} (R:Rel H ρ st) (G:EnvR H ρ Γ σ) (h:Acc X.mg E H ρ P (m Γ st))
  (k:∀ p j H1 ρ1,Ext H ρ H1 ρ1->Rel H1 ρ1 j->EnvR H1 ρ1 Γ σ->P p j H1 ρ1->Q p H1):WW X e σ H Q:=by
 refine s.run Γ σ H ρ st Q R G ?_;cases r:m Γ st with
 | ok p j=>rw [r] at h; exact fun H' ρ' q z=>k p j H' ρ' q z (G.ext q) (h H' ρ' q z)
 | exc e st=>rw [r] at h; exact h
 | stuck=>rw [r] at h; exact h
theorem SimA.use {es:List aD} {m:Gam->Q2->Res (List PV)} (s:SimA X E es m) {P:List PV->Q2->Hp->Tk->Prop} {Q:List V->Hp->Prop} (R:Rel H ρ st) (G:EnvR H ρ Γ σ) (h:Acc X.mg E H ρ P (m Γ st))
  (k:∀ ps j H1 ρ1 vs,Ext H ρ H1 ρ1->Rel H1 ρ1 j->EnvR H1 ρ1 Γ σ->RepL H1 ρ1 ps vs->P ps j H1 ρ1->Q vs H1):WA X es σ H Q:=by
 refine s.run Γ σ H ρ st Q R G ?_;cases r:m Γ st with
 | ok p j=>rw [r] at h; exact fun H' ρ' q z v B=>k p j H' ρ' v q z (G.ext q) B (h H' ρ' q z)
 | exc e st=>rw [r] at h; exact h
 | stuck=>rw [r] at h; exact h
theorem OpS.use {f:aB->aB->Sem aB} {o:OP} (s:OpS X E f o) {P:PV->Q2->Hp->Tk->Prop} {Q:VK} {p q:PV} {x y:V} (R:Rel H ρ st) (I:Rep H ρ p x) (J:Rep H ρ q y) (h:Acc X.mg E H ρ P (o st p q))
  (k:∀ p j H1 ρ1 v,Ext H ρ H1 ρ1->Rel H1 ρ1 j->Rep H1 ρ1 p v->P p j H1 ρ1->Q v H1):WO X f x y H Q:=by
 refine s.run H ρ st p q x y Q R I J ?_;cases r:o st p q with
 | ok p j=>rw [r] at h; exact fun H' ρ' B z v G=>k p j H' ρ' v B z G (h H' ρ' B z)
 | exc e st=>rw [r] at h; exact h
 | stuck=>rw [r] at h; exact h
end
end Sm
namespace Sm
open PySem PySem.Spec L2 SeqAt
mutual
def peq:PV->PV->Bool
 | .non,.non=>zb
 | .bl a,.bl b=>a == b
 | .bl a,.int b=>(if a then 1 else 0) == b
 | .int a,.bl b=>a == (if b then 1 else 0)
 | .int a,.int b=>a == b
 | .str a,.str b=>a == b
 | .tup xs,.tup ys=>X8 xs ys
 | .lst xs,.lst ys=>X8 xs ys
 | .lst xs,.fro ys=>X8 xs ys
 | .fro xs,.lst ys=>X8 xs ys
 | .fro xs,.fro ys=>X8 xs ys
 | _,_=>za
def X8:List PV->List PV->Bool
 | [],[]=>zb
 | x :: xs,y :: ys=>peq x y && X8 xs ys
 | _,_=>za
end
def Jz:Nat->PV->Bool
 | _,.ref _=>za
 | _,.dic=>za
 | 0,.tup _=>za
 | 0,.lst _=>za
 | 0,.fro _=>za
 | n + 1,.tup xs=>xs.all (Jz n)
 | n + 1,.lst xs=>xs.all (Jz n)
 | n + 1,.fro xs=>xs.all (Jz n)
 | _,_=>zb
theorem Q8a:∀ {xs ys:List PV},xs.length≠ys.length->X8 xs ys=za
 | [],[],h=>absurd rfl h
 | [],_ :: _,_=>by simp [X8]
 | _ :: _,[],_=>by simp [X8]
 | x :: xs,y :: ys,h=>by
  rw [X8,Q8a (xs:=xs) (ys:=ys) fun e=>h (by simp [e]),dZ]
theorem Q8b:∀ {xs ys:List PV},xs.length=ys.length->X8 xs ys=(bS xs.length).all fun j=>peq (xs.getD j .non) (ys.getD j .non)
 | [],[],_=>by simp [X8]
 | [],_ :: _,h=>by simp at h
 | _ :: _,[],h=>by simp at h
 | x :: xs,y :: ys,h=>by
  rw [X8,Q8b (xs:=xs) (ys:=ys) (by simpa using h),D4,ec,cY,ee];rfl
section
variable {X:Cx} {pins:List (aA × Obj)} {σ:St} {H:Hp} {s:aC} {ρ:Tk}
mutual
theorem Qe3:∀ {p q:PV} {x:V} {n:Nat},Jz n p=zb->Jz n q=zb->Rep H ρ p x->Rep H ρ q x->peq p q=zb
 | .non,q,x,n,_,B,h1,h2=>by
  cases h1;cases q <;> first | rfl | (cases n <;> cases B; done) | (cases h2; done) | (obtain ⟨_,_,e,_⟩:=h2; cases e) | (obtain ⟨_,_,e⟩:=h2; cases e)
 | .bl b,q,x,n,_,B,h1,h2=>by
  cases h1;cases q <;> first | (cases n <;> cases B; done) | (cases h2; simp [peq]; done) | (obtain ⟨_,_,e,_⟩:=h2; done) | (obtain ⟨_,_,e,_⟩:=h2; cases e; done) | (obtain ⟨_,_,e⟩:=h2; cases e)
 | .int b,q,x,n,_,B,h1,h2=>by
  cases h1;cases q <;> first | (cases n <;> cases B; done) | (cases h2; simp [peq]; done) | (obtain ⟨_,_,e,_⟩:=h2; done) | (obtain ⟨_,_,e,_⟩:=h2; cases e; done) | (obtain ⟨_,_,e⟩:=h2; cases e)
 | .str b,q,x,n,_,B,h1,h2=>by
  cases h1;cases q <;> first | (cases n <;> cases B; done) | (cases h2; simp [peq]; done) | (obtain ⟨_,_,e,_⟩:=h2; done) | (obtain ⟨_,_,e,_⟩:=h2; cases e; done) | (obtain ⟨_,_,e⟩:=h2; cases e)
 | .tup ps,q,x,0,G,_,_,_=>by cases G
 | .tup ps,q,x,n + 1,G,B,⟨a,vs,e,z,_,r⟩,h2=>by
  subst e;cases q with
  | tup I=>
   obtain ⟨b,us,e,j,_,r2⟩:=h2;cases e;rw [z] at j; cases j;rw [peq];exact Xe G B r r2
  | lst I=>obtain ⟨b,us,e,j,_⟩:=h2; cases e; rw [z] at j; cases j
  | fro I=>obtain ⟨b,us,e,j,_⟩:=h2; cases e; rcases j with j | ⟨o,j⟩ <;> (rw [z] at j; cases j)
  | ref i=>cases B
  | dic=>cases B
  | _=>cases h2
 | .lst ps,q,x,0,G,_,_,_=>by cases G
 | .lst ps,q,x,n + 1,G,B,⟨a,vs,e,z,_,r⟩,h2=>by
  subst e;cases q with
  | lst I=>
   obtain ⟨b,us,e,j,_,r2⟩:=h2;cases e;rw [z] at j; cases j;rw [peq];exact Xe G B r r2
  | tup I=>obtain ⟨b,us,e,j,_⟩:=h2; cases e; rw [z] at j; cases j
  | fro I=>
   obtain ⟨b,us,e,j,_,r2⟩:=h2;cases e;rcases j with j | ⟨o,j⟩
   ·rw [z] at j; cases j;rw [peq];exact Xe G B r r2
   ·rw [z] at j; cases j
  | ref i=>cases B
  | dic=>cases B
  | _=>cases h2
 | .fro ps,q,x,0,G,_,_,_=>by cases G
 | .fro ps,q,x,n + 1,G,B,⟨a,vs,e,z,_,r⟩,h2=>by
  subst e;cases q with
  | lst I=>
   obtain ⟨b,us,e,j,_,r2⟩:=h2;cases e;rcases z with z | ⟨o,z⟩
   ·rw [z] at j; cases j;rw [peq];exact Xe G B r r2
   ·rw [z] at j; cases j
  | tup I=>obtain ⟨b,us,e,j,_⟩:=h2; cases e; rcases z with z | ⟨o,z⟩ <;> (rw [z] at j; cases j)
  | fro I=>
   obtain ⟨b,us,e,j,_,r2⟩:=h2;cases e;have:vs=us:=by
    rcases z with z | ⟨o,z⟩ <;> rcases j with j | ⟨o',j⟩ <;> (rw [z] at j; cases j) <;> rfl
   subst this;rw [peq];exact Xe G B r r2
  | ref i=>cases B
  | dic=>cases B
  | _=>cases h2
 | .ref i,_,_,n,G,_,_,_=>by cases n <;> cases G
 | .dic,_,_,n,G,_,_,_=>by cases n <;> cases G
theorem Xe:∀ {ps j:List PV} {vs:List V} {n:Nat},ps.all (Jz n)=zb->j.all (Jz n)=zb->RepL H ρ ps vs->RepL H ρ j vs->X8 ps j=zb
 | [],j,vs,n,_,_,h1,h2=>by
  cases h1;cases j with
  | nil=>rfl
  | cons q j=>obtain ⟨_,_,e,_⟩:=h2; cases e
 | p :: ps,j,vs,n,z,g2,⟨v,r,e,h1,B⟩,h2=>by
  subst e;cases j with
  | nil=>cases h2
  | cons q j=>
   obtain ⟨_,_,e,h2,G⟩:=h2;cases e;rw [cY,G7] at z g2;rw [X8,Qe3 z.1 g2.1 h1 h2,Xe z.2 g2.2 B G]; rfl
end
inductive Kd (H:Hp) (ρ:Tk) (s:aC):PV->aB->Prop where
 | non:Kd H ρ s .non .none
 | bl (b):Kd H ρ s (.bl b) (.bool b)
 | int (i t):Kd H ρ s (.int i) (.int i t)
 | str (x t):Kd H ρ s (.str x) (.str x t)
 | tup (ps a) (vs:List V) (its:List aB):H a=zo (.tup vs)->RepL H ρ ps vs->Vals vs its->s.heap.IsTuple a its.toArray->Kd H ρ s (.tup ps) (.ref a)
 | lst (p ps a) (vs:List V) (its:List aB):(p=.lst ps\/p=.fro ps)->RepL H ρ ps vs->Vals vs its->s.heap.IsList a its.toArray->Kd H ρ s p (.ref a)
theorem Qic {p:PV} {x:V} {u:aB} {n:Nat} (I:Inv X pins σ H s) (g:Jz n p=zb) (r:Rep H ρ p x) (j:RelV x u):Kd H ρ s p u:=by
 cases p with
 | non=>cases r; cases j; exact .non
 | bl b=>cases r; cases j; exact .bl b
 | int i=>cases r; obtain ⟨t,rfl⟩:=j; exact .int i t
 | str i=>cases r; obtain ⟨t,rfl⟩:=j; exact .str i t
 | tup ps=>
  obtain ⟨a,vs,rfl,q,_,G⟩:=r;cases j;obtain ⟨its,B,z,_⟩:=I.tuple (SqT.of (K:=X.K) q);exact .tup ps a vs its q G B z
 | lst ps=>
  obtain ⟨a,vs,rfl,q,_,G⟩:=r;cases j;obtain ⟨its,B,z,_⟩:=I.list (SqL.of (K:=X.K) q);exact .lst _ ps a vs its (.inl rfl) G B z.isList
 | fro ps=>
  obtain ⟨a,vs,rfl,q,_,G⟩:=r;cases j;obtain ⟨its,B,z,_⟩:=I.list (show SqL X.K H a vs from .inl q);exact .lst _ ps a vs its (.inr rfl) G B z.isList
 | ref i=>cases n <;> cases g
 | dic=>cases n <;> cases g
theorem Q79 {ps:List PV} {vs:List V} {its:List aB} (r:RepL H ρ ps vs) (v:Vals vs its) {j:Nat} (h:j < its.length):∃ x,Rep H ρ (ps.getD j .non) x/\RelV x its[j]:=by
 have B:=r.length;have G:=v.length;have q:j < ps.length:=by omega
 obtain ⟨x,e1,e2⟩:=r.get (O4 q);obtain ⟨u,e3,z⟩:=v.get e1;rw [O4 h] at e3; cases e3;refine ⟨x,?_,z⟩;rw [bW,O4 q];exact e2
theorem Q2k {ps:List PV} {n:Nat} (g:ps.all (Jz n)=zb) (j:Nat) (q:j < ps.length):Jz n (ps.getD j .non)=zb:=by
 rw [bW,O4 q];exact (F7.mp g) _ (dg q)
theorem Qgg {ps q:List PV}:((bS (min ps.length q.length)).all (fun j=>peq (ps.getD j .non) (q.getD j .non)) && ps.length == q.length)=X8 ps q:=by
 by_cases e:ps.length=q.length
 ·rw [Q8b e,<- e,fC,beq_self_eq_true,Bool.and_true]
 ·rw [Q8a e,beq_eq_false_iff_ne.mpr e,dZ]
theorem Qij:∀ (n:Nat) {A:aQ} {p q:PV} {x y:V} {u v:aB},Inv X pins σ H s->Jz n p=zb->Jz n q=zb->A.units + n < ac->Rep H ρ p x->RelV x u->Rep H ρ q y->RelV y v ->
  EqAt A s u v (peq p q)/\RcAt A s u v (peq p q)/\RcNeAt A s u v (!peq p q):=by
 intro n
 induction n with
 | zero=>
  intro A p q x y u v I Y J hu rp ru rq rv;have k1:=Qic I Y rp ru;have k2:=Qic I J rq rv;have hu:A.units < ac:=by omega
  cases k1 with
  | tup=>cases Y
  | lst p ps a vs its h=>rcases h with rfl | rfl <;> cases Y
  | non=>cases k2 with
   | tup=>cases J
   | lst p ps a vs its h=>rcases h with rfl | rfl <;> cases J
   | non=>exact ⟨EqAt.same _,RcAt.none_none,RcNeAt.none_none⟩
   | bl b=>exact ⟨EqAt.none_bool _,RcAt.none_bool _,RcNeAt.none_bool _⟩
   | int i t=>exact ⟨EqAt.none_int _ _,RcAt.none_int _ _,RcNeAt.none_int _ _⟩
   | str i t=>exact ⟨EqAt.none_str _ _,RcAt.none_str _ _,RcNeAt.none_str _ _⟩
  | bl a=>cases k2 with
   | tup=>cases J
   | lst p ps a vs its h=>rcases h with rfl | rfl <;> cases J
   | non=>exact ⟨EqAt.bool_none _,RcAt.bool_none _,RcNeAt.bool_none _⟩
   | bl b=>exact ⟨EqAt.bool_bool _ _,RcAt.bool_bool _ _,RcNeAt.bool_bool _ _⟩
   | int i t=>exact ⟨EqAt.bool_int _ _ _,RcAt.bool_int _ _ _,RcNeAt.bool_int _ _ _⟩
   | str i t=>exact ⟨EqAt.bool_str _ _ _,RcAt.bool_str _ _ _,RcNeAt.bool_str _ _ _⟩
  | int a a3=>cases k2 with
   | tup=>cases J
   | lst p ps a vs its h=>rcases h with rfl | rfl <;> cases J
   | non=>exact ⟨EqAt.int_none _ _,RcAt.int_none _ _,RcNeAt.int_none _ _⟩
   | bl b=>exact ⟨EqAt.int_bool _ _ _,RcAt.int_bool _ _ _,RcNeAt.int_bool _ _ _⟩
   | int i t=>exact ⟨EqAt.int_int _ _ _ _,RcAt.int_int _ _ _ _,RcNeAt.int_int _ _ _ _⟩
   | str i t=>exact ⟨EqAt.int_str _ _ _ _,RcAt.int_str _ _ _ _,RcNeAt.int_str _ _ _ _⟩
  | str a a3=>cases k2 with
   | tup=>cases J
   | lst p ps a vs its h=>rcases h with rfl | rfl <;> cases J
   | non=>exact ⟨EqAt.str_none _ _,RcAt.str_none _ _,RcNeAt.str_none _ _⟩
   | bl b=>exact ⟨EqAt.str_bool _ _ _,RcAt.str_bool _ _ _,RcNeAt.str_bool _ _ _⟩
   | int i t=>exact ⟨EqAt.str_int _ _ _ _,RcAt.str_int _ _ _ _,RcNeAt.str_int _ _ _ _⟩
   | str i t=>exact ⟨EqAt.str_str _ _ _ _,RcAt.str_str _ _ _ _,RcNeAt.str_str _ _ _ _⟩
 | succ n ih=>
  intro A p q x y u v I Y J hu rp ru rq rv;have k1:=Qic I Y rp ru;have k2:=Qic I J rq rv;have z:A.units < ac:=by omega
  have a4:A.in1.units + n < ac:=by show A.units + 1 + n < ac; omega
  cases k1 with
  | non=>cases k2 with
   | non=>exact ⟨EqAt.same _,RcAt.none_none,RcNeAt.none_none⟩
   | bl b=>exact ⟨EqAt.none_bool _,RcAt.none_bool _,RcNeAt.none_bool _⟩
   | int i t=>exact ⟨EqAt.none_int _ _,RcAt.none_int _ _,RcNeAt.none_int _ _⟩
   | str i t=>exact ⟨EqAt.none_str _ _,RcAt.none_str _ _,RcNeAt.none_str _ _⟩
   | tup ps a vs its ha r U B=>exact ⟨EqAt.none_tuple B z,RcAt.none_tuple B z,RcNeAt.none_tuple B z⟩
   | lst p ps a vs its h r U B=>rcases h with rfl | rfl <;> exact ⟨EqAt.none_list B z,RcAt.none_list B z,RcNeAt.none_list B z⟩
  | bl a=>cases k2 with
   | non=>exact ⟨EqAt.bool_none _,RcAt.bool_none _,RcNeAt.bool_none _⟩
   | bl b=>exact ⟨EqAt.bool_bool _ _,RcAt.bool_bool _ _,RcNeAt.bool_bool _ _⟩
   | int i t=>exact ⟨EqAt.bool_int _ _ _,RcAt.bool_int _ _ _,RcNeAt.bool_int _ _ _⟩
   | str i t=>exact ⟨EqAt.bool_str _ _ _,RcAt.bool_str _ _ _,RcNeAt.bool_str _ _ _⟩
   | tup ps a vs its ha r U B=>exact ⟨EqAt.bool_tuple _ B z,RcAt.bool_tuple _ B z,RcNeAt.bool_tuple _ B z⟩
   | lst p ps a vs its h r U B=>rcases h with rfl | rfl <;> exact ⟨EqAt.bool_list _ B z,RcAt.bool_list _ B z,RcNeAt.bool_list _ B z⟩
  | int a a3=>cases k2 with
   | non=>exact ⟨EqAt.int_none _ _,RcAt.int_none _ _,RcNeAt.int_none _ _⟩
   | bl b=>exact ⟨EqAt.int_bool _ _ _,RcAt.int_bool _ _ _,RcNeAt.int_bool _ _ _⟩
   | int i t=>exact ⟨EqAt.int_int _ _ _ _,RcAt.int_int _ _ _ _,RcNeAt.int_int _ _ _ _⟩
   | str i t=>exact ⟨EqAt.int_str _ _ _ _,RcAt.int_str _ _ _ _,RcNeAt.int_str _ _ _ _⟩
   | tup ps a vs its ha r U B=>exact ⟨EqAt.int_tuple _ _ B z,RcAt.int_tuple _ _ B z,RcNeAt.int_tuple _ _ B z⟩
   | lst p ps a vs its h r U B=>rcases h with rfl | rfl <;> exact ⟨EqAt.int_list _ _ B z,RcAt.int_list _ _ B z,RcNeAt.int_list _ _ B z⟩
  | str a a3=>cases k2 with
   | non=>exact ⟨EqAt.str_none _ _,RcAt.str_none _ _,RcNeAt.str_none _ _⟩
   | bl b=>exact ⟨EqAt.str_bool _ _ _,RcAt.str_bool _ _ _,RcNeAt.str_bool _ _ _⟩
   | int i t=>exact ⟨EqAt.str_int _ _ _ _,RcAt.str_int _ _ _ _,RcNeAt.str_int _ _ _ _⟩
   | str i t=>exact ⟨EqAt.str_str _ _ _ _,RcAt.str_str _ _ _ _,RcNeAt.str_str _ _ _ _⟩
   | tup ps a vs its ha r U B=>exact ⟨EqAt.str_tuple _ _ B z,RcAt.str_tuple _ _ B z,RcNeAt.str_tuple _ _ B z⟩
   | lst p ps a vs its h r U B=>rcases h with rfl | rfl <;> exact ⟨EqAt.str_list _ _ B z,RcAt.str_list _ _ B z,RcNeAt.str_list _ _ B z⟩
  | tup ps a vs its ha r U B=>cases k2 with
   | non=>exact ⟨EqAt.tuple_none B z,RcAt.tuple_none B z,RcNeAt.tuple_none B z⟩
   | bl b=>exact ⟨EqAt.tuple_bool _ B z,RcAt.tuple_bool _ B z,RcNeAt.tuple_bool _ B z⟩
   | int i t=>exact ⟨EqAt.tuple_int _ _ B z,RcAt.tuple_int _ _ B z,RcNeAt.tuple_int _ _ B z⟩
   | str i t=>exact ⟨EqAt.tuple_str _ _ B z,RcAt.tuple_str _ _ B z,RcNeAt.tuple_str _ _ B z⟩
   | tup O b us G hb r2 v2 p2=>
    have l1:its.toArray.size=ps.length:=by rw [O3,<- U.length,r.length]
    have l2:G.toArray.size=O.length:=by rw [O3,<- v2.length,r2.length]
    have he:∀ j (h1:j < its.toArray.size) (h2:j < G.toArray.size),EqAt A.in1 s its.toArray[j] G.toArray[j] (peq (ps.getD j .non) (O.getD j .non)):=fun j h1 h2=>by
     obtain ⟨x1,a1,b1⟩:=Q79 r U (j:=j) (by simpa using h1);obtain ⟨x2,a2,b2⟩:=Q79 r2 v2 (j:=j) (by simpa using h2);exact (ih I (Q2k Y j (by omega)) (Q2k J j (by omega)) a4 a1 b1 a2 b2).1
    have rc:=RcAt.tuples B p2 z he;have rn:=RcNeAt.tuples B p2 z he;rw [l1,l2,Qgg] at rc rn;refine ⟨?_,rc,rn⟩
    by_cases e:a=b
    ·subst e;have:X8 ps O=zb:=by
      rw [ha] at hb; cases hb;exact Xe Y J r r2
     show EqAt A s _ _ (X8 ps O);rw [this];exact EqAt.same _
    ·exact EqAt.of_refs e rc
   | lst q O b us G h r2 v2 p2=>rcases h with rfl | rfl <;> exact ⟨EqAt.tuple_list B p2 z,RcAt.tuple_list B p2 z,RcNeAt.tuple_list B p2 z⟩
  | lst p ps a vs its h r U B=>cases k2 with
   | non=>rcases h with rfl | rfl <;> exact ⟨EqAt.list_none B z,RcAt.list_none B z,RcNeAt.list_none B z⟩
   | bl b=>rcases h with rfl | rfl <;> exact ⟨EqAt.list_bool _ B z,RcAt.list_bool _ B z,RcNeAt.list_bool _ B z⟩
   | int i t=>rcases h with rfl | rfl <;> exact ⟨EqAt.list_int _ _ B z,RcAt.list_int _ _ B z,RcNeAt.list_int _ _ B z⟩
   | str i t=>rcases h with rfl | rfl <;> exact ⟨EqAt.list_str _ _ B z,RcAt.list_str _ _ B z,RcNeAt.list_str _ _ B z⟩
   | tup O b us G hb r2 v2 p2=>rcases h with rfl | rfl <;> exact ⟨EqAt.list_tuple B p2 z,RcAt.list_tuple B p2 z,RcNeAt.list_tuple B p2 z⟩
   | lst q O b us G h2 r2 v2 p2=>
    have l1:its.toArray.size=ps.length:=by rw [O3,<- U.length,r.length]
    have l2:G.toArray.size=O.length:=by rw [O3,<- v2.length,r2.length]
    have a5:ps.all (Jz n)=zb:=by rcases h with rfl | rfl <;> exact Y
    have a6:O.all (Jz n)=zb:=by rcases h2 with rfl | rfl <;> exact J
    have ep:peq p q=X8 ps O:=by rcases h with rfl | rfl <;> rcases h2 with rfl | rfl <;> rfl
    have he:∀ j (h1:j < its.toArray.size) (h2:j < G.toArray.size),EqAt A.in1 s its.toArray[j] G.toArray[j] (peq (ps.getD j .non) (O.getD j .non)):=fun j h1 h2=>by
     obtain ⟨x1,a1,b1⟩:=Q79 r U (j:=j) (by simpa using h1);obtain ⟨x2,a2,b2⟩:=Q79 r2 v2 (j:=j) (by simpa using h2);exact (ih I (Q2k a5 j (by omega)) (Q2k a6 j (by omega)) a4 a1 b1 a2 b2).1
    rw [ep];have Z:RcAt A s (.ref a) (.ref b) (X8 ps O)/\RcNeAt A s (.ref a) (.ref b) (!X8 ps O):=by
     by_cases e:ps.length=O.length
     ·have rc:=RcAt.lists B p2 (by rw [l1,l2,e]) z he;have rn:=RcNeAt.lists B p2 (by rw [l1,l2,e]) z he;rw [l1,<- Q8b e] at rc rn;exact ⟨rc,rn⟩
     ·have e':(its.toArray.size != G.toArray.size)=zb:=by rw [l1,l2]; simpa using e
      rw [Q8a e];exact ⟨RcAt.lists_lengths B p2 e' z,RcNeAt.lists_lengths B p2 e' z⟩
    refine ⟨?_,Z.1,Z.2⟩
    by_cases e:a=b
    ·subst e;have a7:peq p q=zb:=by
      have a9:=rp;have a8:=rq;have xa:x=.ref a:=by
       rcases h with rfl | rfl <;> (obtain ⟨b',_,rfl,_⟩:=rp; cases ru; rfl)
      have ya:y=.ref a:=by
       rcases h2 with rfl | rfl <;> (obtain ⟨b',_,rfl,_⟩:=rq; cases rv; rfl)
      subst xa; subst ya;exact Qe3 Y J rp rq
     rw [<- ep,a7];exact EqAt.same _
    ·exact EqAt.of_refs e Z.1
end
end Sm
namespace Sm
open PySem PySem.Spec L2
def lim:Nat:=1000000
theorem Qh6:lim<=sizeLine:=by decide
theorem Uk {n:Nat} (h:n<=lim):n<=sizeLine:=F2 h Qh6
def Q21 (st:Q2):PV->Option (List PV)
 | .lst xs=>zo xs
 | .ref i=>match st[i]? with
  | some (.lst xs)=>zo xs
  | _=>zl
 | _=>zl
def Q0t (st:Q2):PV->Option (List PV)
 | .fro xs=>zo xs
 | p=>Q21 st p
def Ud (st:Q2):PV->Option (List PV)
 | .tup xs=>zo xs
 | p=>Q0t st p
def der (st:Q2):PV->PV
 | .ref i=>match st[i]? with
  | some (.lst xs)=>.lst xs
  | _=>.ref i
 | p=>p
section
variable {H:Hp} {ρ:Tk} {st:Q2} {p:PV} {v:V} {xs:List PV}
theorem Q94 (R:Rel H ρ st) (r:Rep H ρ p v) (e:Q21 st p=zo xs):∃ a vs,v=.ref a/\H a=zo (.lst vs)/\RepL H ρ xs vs:=by
 cases p with
 | lst ys=>
  obtain ⟨a,vs,e1,e2,_,e3⟩:=r;cases e;exact ⟨a,vs,e1,e2,e3⟩
 | ref i=>
  obtain ⟨a,e1,e2⟩:=r;simp only [Q21] at e
  split at e
  ·rename_i ys hs;cases e;obtain ⟨b,vs,j,q,z⟩:=R.lst hs;rw [e1] at j; cases j;exact ⟨a,vs,e2,q,z⟩
  ·cases e
 | _=>cases e
theorem Q76 (R:Rel H ρ st) (r:Rep H ρ p v) (e:Q0t st p=zo xs):∃ a vs,v=.ref a/\Rd H a (.lst vs)/\RepL H ρ xs vs:=by
 cases p with
 | fro ys=>
  obtain ⟨a,vs,e1,e2,_,e3⟩:=r;cases e;exact ⟨a,vs,e1,e2,e3⟩
 | _=>
  obtain ⟨a,vs,e1,e2,e3⟩:=Q94 R r e;exact ⟨a,vs,e1,.inl e2,e3⟩
theorem Q7v {K:bQ} (R:Rel H ρ st) (r:Rep H ρ p v) (e:Ud st p=zo xs):∃ (t:Bool) (a:aA) (vs:List V),v=.ref a/\SqK K t H a vs/\RepL H ρ xs vs:=by
 cases p with
 | tup ys=>
  obtain ⟨a,vs,e1,e2,_,e3⟩:=r;cases e;exact ⟨zb,a,vs,e1,show SqT K H a vs from SqT.of e2,e3⟩
 | _=>
  obtain ⟨a,vs,e1,e2,e3⟩:=Q76 R r e;exact ⟨za,a,vs,e1,show SqL K H a vs from .inl e2,e3⟩
theorem Quf {K:bQ} {t:Bool} {a:aA} {vs:List V} (h:SqK K t H a vs):SqL K H a vs\/SqT K H a vs:=by
 cases t with
 | true=>exact .inr h
 | false=>exact .inl h
mutual
theorem Qhs:∀ {n:Nat} {q:PV} {u:V},Jz n q=zb->Rep H ρ q u->Rep H Tk.nil q u
 | _,.non,_,_,r=>r
 | _,.bl _,_,_,r=>r
 | _,.int _,_,_,r=>r
 | _,.str _,_,_,r=>r
 | 0,.tup _,_,g,_=>by cases g
 | 0,.lst _,_,g,_=>by cases g
 | 0,.fro _,_,g,_=>by cases g
 | n + 1,.tup _,_,g,⟨a,vs,e,h,_,r⟩=>⟨a,vs,e,h,Tk.not_nil _,j4 g r⟩
 | n + 1,.lst _,_,g,⟨a,vs,e,h,_,r⟩=>⟨a,vs,e,h,Tk.not_nil _,j4 g r⟩
 | n + 1,.fro _,_,g,⟨a,vs,e,h,_,r⟩=>⟨a,vs,e,h,Tk.not_nil _,j4 g r⟩
 | 0,.ref _,_,g,_=>by cases g
 | _ + 1,.ref _,_,g,_=>by cases g
 | 0,.dic,_,g,_=>by cases g
 | _ + 1,.dic,_,g,_=>by cases g
theorem j4:∀ {n:Nat} {j:List PV} {us:List V},j.all (Jz n)=zb->RepL H ρ j us->RepL H Tk.nil j us
 | _,[],_,_,r=>r
 | n,q :: j,_,g,⟨v,r,e,h1,h2⟩=>by
  rw [cY,G7] at g;exact ⟨v,r,e,Qhs g.1 h1,j4 g.2 h2⟩
end
theorem Q2p (R:Rel H ρ st) {n:Nat} (g:Jz n (der st p)=zb) (r:Rep H ρ p v):Rep H Tk.nil (der st p) v:=by
 cases p with
 | ref i=>
  obtain ⟨a,e1,e2⟩:=r;simp only [der] at g ⊢
  split at g
  ·rename_i ys hs;obtain ⟨b,vs,j,q,z⟩:=R.lst hs;rw [e1] at j; cases j;cases n with
   | zero=>cases g
   | succ n=>exact ⟨a,vs,e2,q,Tk.not_nil _,j4 g z⟩
  ·cases n <;> cases g
 | _=>exact Qhs g r
theorem Q4j {mg:Str->Option aB} {E:XK} {Q:VK} {ps:List PV} {vs:List V} (R:Rel H ρ st) (h:Acc mg E H ρ (QV Q) (.ok (.tup ps) st)) (r:RepL H ρ ps vs):∀ p,H p=zl->Q (.ref p) (upd H p (.tup vs)):=
 fun p hp=>h _ ρ (Ext.add hp) (R.add hp) _ ⟨p,vs,rfl,Jg,R.fresh hp,r.ext (Ext.add hp)⟩
theorem Q75 {mg:Str->Option aB} {E:XK} {Q:VK} {ps:List PV} {vs:List V} (R:Rel H ρ st) (h:Acc mg E H ρ (QV Q) (.ok (.lst ps) st)) (r:RepL H ρ ps vs):∀ p,H p=zl->Q (.ref p) (upd H p (.lst vs)):=
 fun p hp=>h _ ρ (Ext.add hp) (R.add hp) _ ⟨p,vs,rfl,Jg,R.fresh hp,r.ext (Ext.add hp)⟩
theorem now {mg:Str->Option aB} {E:XK} {Q:VK} {p:PV} (R:Rel H ρ st) (h:Acc mg E H ρ (QV Q) (.ok p st)) (r:Rep H ρ p v):Q v H:=h H ρ (Ext.refl _ _) R v r
end
section
variable {X:Cx} {E:XK} {pos:Pos}
def Q4 (i:Nat):ME:=fun Γ st=>match Γ[i]? with
 | some (zo p)=>.ok p st
 | _=>.stuck
def mC (p:PV):ME:=fun _ st=>.ok p st
theorem Q0 (i:Nat) {x:Str} (z:X.N[i]?=zo x:=by rfl) (q:Vis X.env.scope x:=by first | exact Or.inl rfl | exact Or.inr (Or.inl rfl) | exact Or.inr (Or.inr rfl)) (hd:(x == ("__debug__" : Str))=za:=by decide)
  (j:(x == ("__classdict__" : Str))=za:=by decide):SimE X E (.Name x pos) (Q4 i):=⟨fun Γ σ H ρ st Q R G h=>WE.of (Qn1 z q hd j) (by
 unfold Q4 at h
 split at h
 ·rename_i p e;obtain ⟨v,e1,r⟩:=G.2 i p e;exact ⟨v,e1,now R h r⟩
 ·exact h.elim)⟩
theorem Qd {i:Int} {j:Nat}:SimE X E (.Constant (.int i) j pos) (mC (.int i)):=⟨fun Γ σ H ρ st Q R G h=>WE.of Qv3 (now R h rfl)⟩
theorem yj {b:Bool} {j:Nat}:SimE X E (.Constant (.bool b) j pos) (mC (.bl b)):=⟨fun Γ σ H ρ st Q R G h=>WE.of Qy8 (now R h rfl)⟩
theorem J1 {x:Str} {j:Nat}:SimE X E (.Constant (.str x) j pos) (mC (.str x)):=⟨fun Γ σ H ρ st Q R G h=>WE.of Q1p (now R h rfl)⟩
theorem Qqr {x:Str} {i:Int} {t:Tok} (q:Gl X x) (j:X.mg x=zo (.int i t)) (hd:(x == ("__debug__" : Str))=za:=by decide):SimE X E (.Name x pos) (mC (.int i)):=
 ⟨fun Γ σ H ρ st Q R G h=>WE.of (Qrh q j (v:=.int i) ⟨t,rfl⟩ hd) (now R h rfl)⟩
variable {a b c:aD} {ma mb mc:ME}
def mOp (o:OP) (ma mb:ME):ME:=fun Γ st=>(ma Γ st).bind fun x st1=>(mb Γ st1).bind fun y st2=>o st2 x y
theorem Qdg {f:aB->aB->Sem aB} {o:OP} {Γ:Gam} {σ:St} {H:Hp} {ρ:Tk} {st:Q2} {P:PV->Q2->Hp->Tk->Prop} {Q:VK} (Z:OpS X E f o) (ha:SimE X E a ma) (hb:SimE X E b mb) (R:Rel H ρ st) (G:EnvR H ρ Γ σ) (h:Acc X.mg E H ρ P (mOp o ma mb Γ st))
  (k:∀ p j H1 ρ1 v,Ext H ρ H1 ρ1->Rel H1 ρ1 j->Rep H1 ρ1 p v->P p j H1 ρ1->Q v H1):tOp (WO X f) (WE X a) (WE X b) σ H Q:=by
 refine ha.use R G h.bind fun p j H1 ρ1 v x1 R1 U r1 h1=>?_
 refine hb.use R1 U h1.bind fun q a2 H2 a3 u J R2 G2 r2 h2=>?_
 exact Z.use R2 (r1.ext J) r2 h2 fun w I O B z Y R3 r3 p3=>k w I O B z (x1.trans (J.trans Y)) R3 r3 p3
theorem Jm {op:Operator} {o:OP} (z:OpS X E (aW op) o) (B:SimE X E a ma) (j:SimE X E b mb):SimE X E (.BinOp a op b pos) (mOp o ma mb):=
 ⟨fun Γ σ H ρ st Q R G h=>WE.of (Qy5 Qgh Zx Zx) (Qdg z B j R G h fun _ _ _ _ v _ _ r q=>q v r)⟩
theorem Xa {op:CmpOp} {o:OP} (B:OpS X E (aV op) o) (I:SimE X E a ma) (j:SimE X E b mb) (z:bD op b=za:=by first | exact Qnh _ | rfl):SimE X E (.Compare a [op] [b] pos) (mOp o ma mb):=
 ⟨fun Γ σ H ρ st Q R G h=>WE.of (Qri Qgh Zx Zx z) (Qdg B I j R G h fun _ _ _ _ v _ _ r q=>q v r)⟩
def asB (p:PV) (st:Q2):Res Bool:=match p with
 | .bl k=>.ok k st
 | _=>.stuck
def toB (m:ME):Gam->Q2->Res Bool:=fun Γ st=>(m Γ st).bind asB
theorem Qq3 {mg:Str->Option aB} {H:Hp} {ρ:Tk} {st:Q2} {p:PV} {v:V} {P:Bool->Q2->Hp->Tk->Prop} (R:Rel H ρ st) (r:Rep H ρ p v) (h:Acc mg E H ρ P (asB p st)):∃ k,v=.bl k/\P k st H ρ:=by
 cases p with
 | bl k=>exact ⟨k,r,h H ρ (Ext.refl _ _) R⟩
 | _=>exact h.elim
theorem J4 {op:CmpOp} {o:OP} (J:OpS X E (aV op) o) (O:SimE X E a ma) (j:SimE X E b mb) (I:bD op b=za:=by first | exact Qnh _ | rfl):SimT X E (.Compare a [op] [b] pos) (toB (mOp o ma mb)):=
 ⟨fun Γ σ H ρ st Q R G h=>WT.of (Qr3 Qgh Zx Zx I) (Qdg J O j R G h.bind fun _ U _ _ v _ B r q=>by
  obtain ⟨k,e,z⟩:=Qq3 B r q;exact ⟨k,e,z⟩)⟩
theorem Yf {e:aD} {m:ME} (h:SimE X E e m) (I:∀ j,isTrue e X.env j=(do let v <- j; standAt e.pos; ag [v] (truthy v)):=by intro _; rfl):SimT X E e (toB m):=
 ⟨fun Γ σ H ρ st Q R G B=>WT.of (Quq Zx I) (h.use R G B.bind fun p J H1 ρ1 v O q U r1 h1=>by
  obtain ⟨k,e,z⟩:=Qq3 q r1 h1;exact ⟨k,e,z⟩)⟩
def Q20 (o o':OP) (ma mb mc:ME):ME:=fun Γ st=>(ma Γ st).bind fun x st1=>(mb Γ st1).bind fun y st2=>(o st2 x y).bind fun k st3=>match k with
 | .bl zb=>(mc Γ st3).bind fun z st4=>o' st4 y z
 | .bl za=>.ok (.bl za) st3
 | _=>.stuck
theorem Qbw {op I:CmpOp} {o o':OP} {Γ:Gam} {σ:St} {H:Hp} {ρ:Tk} {st:Q2} {P:PV->Q2->Hp->Tk->Prop} {Q:VK} (ho:OpS X E (aV op) o) (U:OpS X E (aV I) o') (ha:SimE X E a ma) (hb:SimE X E b mb) (hc:SimE X E c mc) (R:Rel H ρ st) (G:EnvR H ρ Γ σ) (h:Acc X.mg E H ρ P (Q20 o o' ma mb mc Γ st))
  (k:∀ p j H1 ρ1 v,Ext H ρ H1 ρ1->Rel H1 ρ1 j->Rep H1 ρ1 p v->P p j H1 ρ1->Q v H1):Qg1 (WO X (aV op)) (WO X (aV I)) (WE X a) (WE X b) (WE X c) σ H Q:=by
 refine ha.use R G h.bind fun p j H1 ρ1 v x1 R1 G1 r1 h1=>?_
 refine hb.use R1 G1 h1.bind fun q a5 H2 a7 u Z R2 G2 r2 h2=>?_
 refine ho.use R2 (r1.ext Z) r2 h2.bind fun w a3 H3 B z J R3 r3 Y=>?_
 cases w with
 | bl b=>
  refine ⟨b,r3,?_⟩;cases b with
  | true=>
   rw [bK rfl];refine hc.use R3 (G2.ext J) Y.bind fun y a6 H4 a4 yv x4 R4 G4 r4 h4=>?_
   exact U.use R4 (r2.ext (J.trans x4)) r4 h4 fun w a2 H5 O z x5 R5 r5 p5=>k w a2 H5 O z (x1.trans (Z.trans (J.trans (x4.trans x5)))) R5 r5 p5
  | false=>
   rw [bL D8];exact k (.bl za) _ H3 B _ (x1.trans (Z.trans J)) R3 rfl (Y H3 B (Ext.refl _ _) R3)
 | _=>exact Y.elim
theorem Qmh {op j:CmpOp} {o o':OP} (O:OpS X E (aV op) o) (z:OpS X E (aV j) o') (U:SimE X E a ma) (B:SimE X E b mb) (J:SimE X E c mc) (I:lastMarks [op,j] [b,c]=za:=by with_unfolding_all rfl):SimE X E (.Compare a [op,j] [b,c] pos) (Q20 o o' ma mb mc):=
 ⟨fun Γ σ H ρ st Q R G h=>WE.of (Qn6 Qgh Qgh Zx Zx Zx I) (Qbw O z U B J R G h fun _ _ _ _ v _ _ r q=>q v r)⟩
theorem Qdv {op j:CmpOp} {o o':OP} (Y:OpS X E (aV op) o) (B:OpS X E (aV j) o') (Z:SimE X E a ma) (I:SimE X E b mb) (U:SimE X E c mc) (O:lastMarks [op,j] [b,c]=za:=by with_unfolding_all rfl):SimT X E (.Compare a [op,j] [b,c] pos) (toB (Q20 o o' ma mb mc)):=
 ⟨fun Γ σ H ρ st Q R G h=>WT.of (Qmr Qgh Qgh Zx Zx Zx O) (Qbw Y B Z I U R G h.bind fun _ a2 _ _ v _ J r q=>by
  obtain ⟨k,e,z⟩:=Qq3 J r q;exact ⟨k,e,z⟩)⟩
variable {rest:List aD}
def Q6x (ma mb:ME):ME:=fun Γ st=>(ma Γ st).bind fun x st1=>match x with
 | .bl zb=>mb Γ st1
 | .bl za=>.ok (.bl za) st1
 | _=>.stuck
def mOr (ma mb:ME):ME:=fun Γ st=>(ma Γ st).bind fun x st1=>match x with
 | .bl zb=>.ok (.bl zb) st1
 | .bl za=>mb Γ st1
 | _=>.stuck
def Qvx (ma:ME):ME:=fun Γ st=>(ma Γ st).bind fun x st1=>match x with
 | .bl k=>.ok (.bl (!k)) st1
 | _=>.stuck
theorem xk {op:BoolOp} (j:SimE X E a ma):SimE X E (.BoolOp op [a] pos) ma:=⟨fun Γ σ H ρ st Q R G h=>WE.of (Qv1 Zx) (j.use R G h fun _ _ _ _ v _ _ _ r q=>q v r)⟩
theorem xm (B:SimE X E a ma) (z:SimE X E (.BoolOp .And (b :: rest) pos) mb):SimE X E (.BoolOp .And (a :: b :: rest) pos) (Q6x ma mb):=
 ⟨fun Γ σ H ρ st Q R G h=>WE.of (Qv5 Zx Zx) (B.use R G h.bind fun p J H1 ρ1 v O j I r1 h1=>by
  cases p with
  | bl k=>
   refine ⟨k,r1,?_⟩;cases k with
   | true=>rw [bK rfl]; exact z.use j I h1 fun _ _ _ _ v _ _ _ r q=>q v r
   | false=>rw [bL D8]; exact now j h1 rfl
  | _=>exact h1.elim)⟩
theorem Qxp (B:SimE X E a ma) (z:SimE X E (.BoolOp .Or (b :: rest) pos) mb):SimE X E (.BoolOp .Or (a :: b :: rest) pos) (mOr ma mb):=
 ⟨fun Γ σ H ρ st Q R G h=>WE.of (Qy4 Zx Zx) (B.use R G h.bind fun p J H1 ρ1 v O j I r1 h1=>by
  cases p with
  | bl k=>
   refine ⟨k,r1,?_⟩;cases k with
   | true=>rw [bK rfl]; exact now j h1 rfl
   | false=>rw [bL D8]; exact z.use j I h1 fun _ _ _ _ v _ _ _ r q=>q v r
  | _=>exact h1.elim)⟩
theorem Qug (q:SimE X E a ma):SimE X E (.UnaryOp .Not a pos) (Qvx ma):=
 ⟨fun Γ σ H ρ st Q R G h=>WE.of (Qv2 Zx) (q.use R G h.bind fun p z H1 ρ1 v B j I r1 h1=>by
  cases p with
  | bl k=>exact ⟨k,r1,now j h1 rfl⟩
  | _=>exact h1.elim)⟩
def Q31 (ma:ME):ME:=fun Γ st=>(ma Γ st).bind fun x st1=>match x with
 | .int k=>.ok (.int (-k)) st1
 | _=>.stuck
theorem qq (q:SimE X E a ma):SimE X E (.UnaryOp .USub a pos) (Q31 ma):=
 ⟨fun Γ σ H ρ st Q R G h=>WE.of (Qy3 Qu2 Zx) (q.use R G h.bind fun p z H1 ρ1 v B j I r1 h1=>by
  cases p with
  | int k=>exact ⟨k,r1,now j h1 rfl⟩
  | _=>exact h1.elim)⟩
abbrev MT:=Gam->Q2->Res Bool
variable {ta tb:MT}
def Q16 (ta tb:MT):MT:=fun Γ st=>(ta Γ st).bind fun k st1=>if k=zb then tb Γ st1 else .ok za st1
def yg (ta tb:MT):MT:=fun Γ st=>(ta Γ st).bind fun k st1=>if k=zb then .ok zb st1 else tb Γ st1
def Vi (ta:MT):MT:=fun Γ st=>(ta Γ st).bind fun k st1=>.ok (!k) st1
theorem SimW.t {e:aD} (h:SimW X E e ta):SimT X E e ta:=⟨fun Γ σ H ρ st Q R G q pins s I=>h.run Γ σ H ρ st Q R G q _ pins s I⟩
theorem Q45 (j:SimT X E a ta):SimW X E (.BoolOp .And [a] pos) ta:=⟨fun Γ σ H ρ st Q R G h=>WW.of (Qqz Qe7) (j.use R G h fun _ _ _ _ _ _ _ q=>q)⟩
theorem qp (j:SimT X E a ta):SimW X E (.BoolOp .Or [a] pos) ta:=⟨fun Γ σ H ρ st Q R G h=>WW.of (Qun Qe7) (j.use R G h fun _ _ _ _ _ _ _ q=>q)⟩
theorem Q7m (B:SimT X E a ta) (z:SimW X E (.BoolOp .And (b :: rest) pos) tb):SimW X E (.BoolOp .And (a :: b :: rest) pos) (Q16 ta tb):=
 ⟨fun Γ σ H ρ st Q R G h=>WW.of (Qup Qe7 Qxx) (B.use R G h.bind fun k J H1 ρ1 O j I h1=>by
  cases k with
  | true=>rw [bK rfl] at h1 ⊢; exact z.use j I h1 fun _ _ _ _ _ _ _ q=>q
  | false=>rw [bL D8] at h1 ⊢; exact h1 H1 ρ1 (Ext.refl _ _) j)⟩
theorem yh (B:SimT X E a ta) (z:SimW X E (.BoolOp .Or (b :: rest) pos) tb):SimW X E (.BoolOp .Or (a :: b :: rest) pos) (yg ta tb):=
 ⟨fun Γ σ H ρ st Q R G h=>WW.of (Qxy Qe7 Qxx) (B.use R G h.bind fun k J H1 ρ1 O j I h1=>by
  cases k with
  | true=>rw [bK rfl] at h1 ⊢; exact h1 H1 ρ1 (Ext.refl _ _) j
  | false=>rw [bL D8] at h1 ⊢; exact z.use j I h1 fun _ _ _ _ _ _ _ q=>q)⟩
theorem Wh (q:SimT X E a ta):SimT X E (.UnaryOp .Not a pos) (Vi ta):=
 ⟨fun Γ σ H ρ st Q R G h=>WT.of (Qur Qe7) (q.use R G h.bind fun k z H1 ρ1 B j I h1=>h1 H1 ρ1 (Ext.refl _ _) j)⟩
variable {e:aD} {es:List aD} {m:ME} {mr:Gam->Q2->Res (List PV)}
def Q8:Gam->Q2->Res (List PV):=fun _ st=>.ok [] st
def Q3 (m:ME) (mr:Gam->Q2->Res (List PV)):Gam->Q2->Res (List PV):=fun Γ st=>(m Γ st).bind fun p st1=>(mr Γ st1).bind fun ps st2=>.ok (p :: ps) st2
theorem Q6:SimA X E [] Q8:=⟨fun Γ σ H ρ st Q R G h=>WA.of Q8c (h H ρ (Ext.refl _ _) R [] rfl)⟩
theorem Q1 (B:SimE X E e m) (O:SimA X E es mr) (hs:aP (e :: es) X.env=(za,aM e X.env) :: aP es X.env:=by rfl):SimA X E (e :: es) (Q3 m mr):=
 ⟨fun Γ σ H ρ st Q R G h=>WA.of (Q0c Zx Q3m hs) (B.use R G h.bind fun p U H1 ρ1 v Y q J r1 h1=>O.use q J h1.bind fun ps z H2 j vs I R2 Z r2 h2=>
  h2 H2 j (Ext.refl _ _) R2 (v :: vs) ⟨v,vs,rfl,r1.ext I,r2⟩)⟩
def Va (mr:Gam->Q2->Res (List PV)):ME:=fun Γ st=>(mr Γ st).bind fun ps st1=>if ps.length<=lim then .ok (.tup ps) st1 else .stuck
def Q91 (mr:Gam->Q2->Res (List PV)):ME:=fun Γ st=>(mr Γ st).bind fun ps st1=>if ps.length<=lim then .ok (.lst ps) st1 else .stuck
theorem Y5 {k:Nat} (h:SimA X E es mr):SimE X E (.Tuple es k pos) (Va mr):=
 ⟨fun Γ σ H ρ st Q R G z=>WE.of (Qv0 Q3m) (h.use R G z.bind fun ps B H1 ρ1 vs I q J r1 h1=>by
  by_cases j:ps.length<=lim
  ·rw [bK j] at h1;exact ⟨by rw [<- r1.length]; exact Uk j,Q4j q h1 r1⟩
  ·rw [bL j] at h1; exact h1.elim)⟩
theorem Q7w (h:SimA X E es mr):SimE X E (.List es pos) (Q91 mr):=
 ⟨fun Γ σ H ρ st Q R G z=>WE.of (Qn4 Q3m) (h.use R G z.bind fun ps B H1 ρ1 vs I q J r1 h1=>by
  by_cases j:ps.length<=lim
  ·rw [bK j] at h1;exact ⟨by rw [<- r1.length]; exact Uk j,Q75 q h1 r1⟩
  ·rw [bL j] at h1; exact h1.elim)⟩
end
end Sm
namespace HT
open PySem PySem.Spec PyProof.Rows
section
variable {prog:aN} {w:aL} {A:aQ} {E:aB->aC->Prop} {s:aC}
theorem getItem_tuple_whole {t B:aA} {j:Array aB} {Y O:aB} {lo hi:Option Int} {Q:aB->aC->Prop} (q:IsTup s.heap t j) (hs:s.heap.IsSliceOf B Y O .none) (pl:IsPart Y lo) (Z:IsPart O hi)
  (U:sIx j.size 0 lo=0/\sIx j.size j.size hi=j.size)
  (h:Q (.ref t) s):aI (aJ prog w) A (getItem (.ref t) (.ref B)) Q E s:=by
 obtain ⟨os,G,J,a2⟩:=id hs;have I:s.TypeIs (.ref B) "slice" := ⟨os,G,J⟩;unfold getItem
 try with_reducible refine aw ?_
 first | refine aF (aR ?_) | skip
 refine aF (wpAny_sequenceKey q.typeIs (by decide) ?_);refine aF (wpAny_callSpecial?_slot (name:=bP "__getitem__") q.typeIs dX
  (bA dX q.typeIs entry_tuple_getitem ?_ (args_tuple_getitem _ _)))
 show aI _ _ (Builtin.Tuple.tupleItemsOf (.ref t) >>= _) _ _ s;refine aF (tupleItemsOf_ q ?_);refine aF (bH I ?_);rw [bK (by decide)];refine aF (yi hs pl Z ?_);have z:(((sIx j.size 0 lo:Nat):Int) == 0 && (1:Int) == 1 && (sIx j.size j.size hi - sIx j.size 0 lo) == j.size)=zb:=by
  rw [U.1,U.2]; simp
 show aI _ _ (if (((sIx j.size 0 lo:Nat):Int) == 0 && (1:Int) == 1 && (sIx j.size j.size hi - sIx j.size 0 lo) == j.size)=zb then _ else _) _ _ s;rw [bK z];refine aF (aF (bH q.typeIs (aR ?_)));rw [bK (by rfl)];exact aF (bI (aR ⟨_,rfl,aR h⟩))
end
end HT
namespace L2
open PySem PySem.Spec PyProof.Rows
def J16 (K:bQ):V->Option Int->Option Int->Hp->VK->Prop:=fun x lo hi H Q=>∃ a xs,x=.ref a/\SqT K H a xs /\
 (HT.sIx xs.length 0 lo=0/\HT.sIx xs.length xs.length hi=xs.length)/\Q (.ref a) H
theorem sl_whole {X:Cx}:SlR X (J16 X.K):=by
 intro pins s σ H x v Z U lo hi Y Q I B hs pl J h;obtain ⟨a,xs,rfl,G,O,q⟩:=h;cases B;obtain ⟨its,r,z,hz⟩:=I.tuple G;have j:its.toArray.size=xs.length:=by rw [O3]; exact r.length.symm
 refine ⟨"tuple",_,PyProof.Rows.slot_tuple_getitem.lookup,z.typeIs,?_⟩;exact HT.getItem_tuple_whole z hs pl J (by rw [j]; exact O) ⟨.ref a,H,I,rfl,q⟩
end L2
namespace Sm
open PySem PySem.Spec L2
section
variable {X:Cx} {E:XK} {pos:Pos}
def oI (g:Int->Int->PV):OP:=fun st p q=>match p,q with
 | .int a,.int b=>.ok (g a b) st
 | _,_=>.stuck
def Yg:OP:=fun st p q=>match p,q with
 | .int a,.int b=>.ok (.int (a + b)) st
 | .str a,.str b=>if a.length + b.length<=lim then .ok (.str (a ++ b)) st else .stuck
 | .tup xs,.tup ys=>if xs.length + ys.length<=lim then .ok (.tup (xs ++ ys)) st else .stuck
 | p,q=>match Q21 st p,Q21 st q with
  | some xs,zo ys=>if xs.length + ys.length<=lim then .ok (.lst (xs ++ ys)) st else .stuck
  | _,_=>.stuck
theorem Z5:OpS X E (aW .Add) Yg:=⟨fun H ρ st p q x y Q R J O h=>by
 unfold Yg at h
 split at h
 ·cases J; cases O;exact WO.of Qvg ⟨_,_,rfl,rfl,now R h rfl⟩
 ·cases J; cases O
  split at h
  ·rename_i I;exact WO.of Qgi ⟨_,_,rfl,rfl,Uk I,now R h rfl⟩
  ·exact h.elim
 ·split at h
  ·rename_i xs ys I;obtain ⟨a,vs,rfl,G,U,j⟩:=J;obtain ⟨b,us,rfl,B,Y,rb⟩:=O;refine WO.of Qrt ?_
   by_cases e:xs=[]
   ·subst e;cases j;exact .inr ⟨a,b,us,rfl,rfl,SqT.of G,SqT.of B,now R h ⟨b,us,rfl,B,Y,rb⟩⟩
   ·refine .inl ⟨a,b,vs,us,rfl,rfl,SqT.of G,SqT.of B,fun z=>e ?_,by rw [<- j.length,<- rb.length]; exact Uk I,fun z=>?_,fun z=>Q4j R h (j.append rb)⟩
    ·subst z;cases xs with
     | nil=>rfl
     | cons _ _=>have:=j.length; simp at this
    ·subst z;have:ys=[]:=by
      cases ys with
      | nil=>rfl
      | cons _ _=>have:=rb.length; simp at this
     subst this;rw [L5] at h;exact now R h ⟨a,vs,rfl,G,U,j⟩
  ·exact h.elim
 ·split at h
  ·rename_i xs ys e1 e2
   split at h
   ·rename_i I;obtain ⟨a,vs,rfl,G,j⟩:=Q94 R J e1;obtain ⟨b,us,rfl,B,rb⟩:=Q94 R O e2;exact WO.of Qvf ⟨a,b,vs,us,rfl,rfl,G,B,by rw [<- j.length,<- rb.length]; exact Uk I,Q75 R h (j.append rb)⟩
   ·exact h.elim
  ·exact h.elim⟩
theorem j7:OpS X E (aW .Sub) (oI fun a b=>.int (a - b)):=⟨fun H ρ st p q x y Q R j z h=>by
 unfold oI at h
 split at h
 ·cases j; cases z;exact WO.of Qv9 ⟨_,_,rfl,rfl,now R h rfl⟩
 ·exact h.elim⟩
def Q6u:OP:=fun st p q=>match p,q with
 | .int a,.int b=>if (-(2 ^ 64) < a/\a < 2 ^ 64)\/(-(2 ^ 64) < b/\b < 2 ^ 64) then .ok (.int (a * b)) st else .stuck
 | .tup xs,.int b=>if xs≠[]/\1<=b/\xs.length * b.toNat<=4096 then .ok (.tup (bR b.toNat xs).flatten) st else .stuck
 | p,.int b=>match Q21 st p with
  | some xs=>if -(2 ^ 63)<=b/\b < 2 ^ 63/\xs.length * b.toNat<=lim then .ok (.lst (bR b.toNat xs).flatten) st else .stuck
  | none=>.stuck
 | _,_=>.stuck
theorem Q5a:OpS X E (aW .Mult) Q6u:=⟨fun H ρ st p q x y Q R I J h=>by
 unfold Q6u at h
 split at h
 ·cases I; cases J
  split at h
  ·rename_i j;exact WO.of Qvc ⟨_,_,rfl,rfl,j,now R h rfl⟩
  ·exact h.elim
 ·cases J
  split at h
  ·rename_i xs b j;obtain ⟨a,vs,rfl,G,O,B⟩:=I;refine WO.of Qrq ⟨a,b,vs,rfl,rfl,SqT.of G,fun z=>j.1 ?_,j.2.1,by rw [<- B.length]; exact j.2.2,fun z=>?_,fun z=>Q4j R h (B.rep _)⟩
   ·subst z;cases xs with
    | nil=>rfl
    | cons _ _=>have:=B.length; simp at this
   ·subst z;have e1:(bR (Int.toNat 1) xs).flatten=xs:=by simp
    rw [e1] at h;exact now R h ⟨a,vs,rfl,G,O,B⟩
  ·exact h.elim
 ·cases J
  split at h
  ·rename_i xs e1
   split at h
   ·rename_i j;obtain ⟨a,vs,rfl,G,B⟩:=Q94 R I e1;exact WO.of Qva ⟨a,_,vs,rfl,rfl,G,j.1,j.2.1,by rw [<- B.length]; exact Uk j.2.2,Q75 R h (B.rep _)⟩
   ·exact h.elim
  ·exact h.elim
 ·exact h.elim⟩
def Q4h:OP:=fun st p q=>match p,q with
 | .int a,.int b=>if 0 < b then .ok (.int (a % b)) st else .stuck
 | _,_=>.stuck
theorem Q1r:OpS X E (aW .Mod) Q4h:=⟨fun H ρ st p q x y Q R z B h=>by
 unfold Q4h at h
 split at h
 ·cases z; cases B
  split at h
  ·rename_i j;exact WO.of Qvd ⟨_,_,rfl,rfl,j,now R h rfl⟩
  ·exact h.elim
 ·exact h.elim⟩
def Qry:OP:=fun st p q=>match p,q with
 | .int a,.int b=>if 0 < b/\b < 1073741824 then .ok (.int (a / b)) st else .stuck
 | _,_=>.stuck
theorem Qv8:OpS X E (aW .FloorDiv) Qry:=⟨fun H ρ st p q x y Q R z B h=>by
 unfold Qry at h
 split at h
 ·cases z; cases B
  split at h
  ·rename_i j;exact WO.of Qrs ⟨_,_,rfl,rfl,j,now R h rfl⟩
  ·exact h.elim
 ·exact h.elim⟩
def Qnf:OP:=fun st p q=>match p,q with
 | .int a,.int b=>if 0<=b/\b<=1000000/\a.natAbs < 2 ^ 64 then .ok (.int (a ^ b.toNat)) st else .stuck
 | _,_=>.stuck
theorem Qv7:OpS X E (aW .Pow) Qnf:=⟨fun H ρ st p q x y Q R z B h=>by
 unfold Qnf at h
 split at h
 ·cases z; cases B
  split at h
  ·rename_i j;exact WO.of Qvb ⟨_,_,rfl,rfl,j,now R h rfl⟩
  ·exact h.elim
 ·exact h.elim⟩
theorem Qgn {op:CmpOp} {g:Int->Int->Bool} (z:OpR X (aV op) (rI0 fun i j=>.bl (g i j))):OpS X E (aV op) (oI fun a b=>.bl (g a b)):=⟨fun H ρ st p q x y Q R B G h=>by
 unfold oI at h
 split at h
 ·cases B; cases G;exact WO.of z ⟨_,_,rfl,rfl,now R h rfl⟩
 ·exact h.elim⟩
theorem Q8d:OpS X E (aV .LtE) (oI fun a b=>.bl (decide (a<=b))):=Qgn Qyc
theorem Q4d:OpS X E (aV .Gt) (oI fun a b=>.bl (decide (b < a))):=Qgn Qyd
theorem Qi2:OpS X E (aV .GtE) (oI fun a b=>.bl (decide (b<=a))):=Qgn Qye
def y6:List PV->Option (List Int)
 | []=>zo []
 | .int i :: ps=>(y6 ps).map (i :: ·)
 | _ :: _=>zl
def Q6g:List PV->Option (List Bool)
 | []=>zo []
 | .bl i :: ps=>(Q6g ps).map (i :: ·)
 | _ :: _=>zl
theorem Qfc (ns:List Int):y6 (ns.map .int)=zo ns:=by
 induction ns with
 | nil=>rfl
 | cons n ns j=>rw [E9,y6,j]; rfl
theorem Qsy (ns:List Bool):Q6g (ns.map .bl)=zo ns:=by
 induction ns with
 | nil=>rfl
 | cons n ns j=>rw [E9,Q6g,j]; rfl
theorem Q77:∀ {ps:List PV} {ns:List Int},y6 ps=zo ns->ps=ns.map .int
 | [],ns,h=>by cases h; rfl
 | .int i :: ps,ns,h=>by
  rw [y6] at h;cases e:y6 ps with
  | none=>rw [e] at h; cases h
  | some ms=>rw [e] at h; cases h; rw [Q77 e]; rfl
 | .non :: _,_,h | .bl _ :: _,_,h | .str _ :: _,_,h | .tup _ :: _,_,h | .lst _ :: _,_,h | .fro _ :: _,_,h | .ref _ :: _,_,h | .dic :: _,_,h=>by cases h
theorem Qpw:∀ {ps:List PV} {ns:List Bool},Q6g ps=zo ns->ps=ns.map .bl
 | [],ns,h=>by cases h; rfl
 | .bl i :: ps,ns,h=>by
  rw [Q6g] at h;cases e:Q6g ps with
  | none=>rw [e] at h; cases h
  | some ms=>rw [e] at h; cases h; rw [Qpw e]; rfl
 | .non :: _,_,h | .int _ :: _,_,h | .str _ :: _,_,h | .tup _ :: _,_,h | .lst _ :: _,_,h | .fro _ :: _,_,h | .ref _ :: _,_,h | .dic :: _,_,h=>by cases h
def oLt:OP:=fun st p q=>match p,q with
 | .int a,.int b=>.ok (.bl (decide (a < b))) st
 | .tup xs,.tup ys=>match y6 xs,y6 ys with
  | some ns,zo ms=>.ok (.bl (HT.lexLt ns ms)) st
  | _,_=>.stuck
 | _,_=>.stuck
theorem Q34 (U:X.A.units + 64 < ac):OpS X E (aV .Lt) oLt:=⟨fun H ρ st p q x y Q R G I h=>by
 unfold oLt at h
 split at h
 ·cases G; cases I;exact WO.of Qyb ⟨_,_,rfl,rfl,now R h rfl⟩
 ·split at h
  ·rename_i ns ms e1 e2;obtain ⟨a,vs,rfl,z,J,B⟩:=G;obtain ⟨b,us,rfl,j,O,rb⟩:=I;rw [Q77 e1] at B;rw [Q77 e2] at rb;rw [B.toInts] at z;rw [rb.toInts] at j;exact WO.of (Qve (by omega)) ⟨a,b,ns,ms,rfl,rfl,SqT.of z,SqT.of j,now R h rfl⟩
  ·exact h.elim
 ·exact h.elim⟩
def dep:Nat:=12
def oEq:OP:=fun st p q=>if Jz dep (der st p)=zb/\Jz dep (der st q)=zb then .ok (.bl (peq (der st p) (der st q))) st else .stuck
def oNe:OP:=fun st p q=>if Jz dep (der st p)=zb/\Jz dep (der st q)=zb then .ok (.bl (!peq (der st p) (der st q))) st else .stuck
theorem Y9 (J:X.A.units + 64 < ac):OpS X E (aV .Eq) oEq:=⟨fun H ρ st p q x y Q R B G h=>by
 unfold oEq at h
 split at h
 ·rename_i g;intro pins s σ v u I j z;exact (Qij dep I g.1 g.2 (by unfold dep; omega) (Q2p R g.1 B) j (Q2p R g.2 G) z).2.1 _ _ _ _ ⟨.bl _,H,I,rfl,now R h rfl⟩
 ·exact h.elim⟩
theorem Q17 (J:X.A.units + 64 < ac):OpS X E (aV .NotEq) oNe:=⟨fun H ρ st p q x y Q R B G h=>by
 unfold oNe at h
 split at h
 ·rename_i g;intro pins s σ v u I j z;exact (Qij dep I g.1 g.2 (by unfold dep; omega) (Q2p R g.1 B) j (Q2p R g.2 G) z).2.2 _ _ _ _ ⟨.bl _,H,I,rfl,now R h rfl⟩
 ·exact h.elim⟩
def Qfb:PV->Bool
 | .non=>zb
 | _=>za
theorem Qkb {H:Hp} {ρ:Tk} {p:PV} {x:V} (r:Rep H ρ p x):decide (x=.non)=Qfb p:=by
 cases p with
 | non=>cases r; rfl
 | bl _=>cases r; rfl
 | int _=>cases r; rfl
 | str _=>cases r; rfl
 | tup _=>obtain ⟨_,_,rfl,_⟩:=r; rfl
 | lst _=>obtain ⟨_,_,rfl,_⟩:=r; rfl
 | fro _=>obtain ⟨_,_,rfl,_⟩:=r; rfl
 | ref _=>obtain ⟨_,_,rfl⟩:=r; rfl
 | dic=>obtain ⟨_,rfl,_⟩:=r; rfl
def oIs:OP:=fun st p q=>match q with
 | .non=>.ok (.bl (Qfb p)) st
 | .bl c=>match p with
  | .bl b=>.ok (.bl (b == c)) st
  | _=>.stuck
 | _=>.stuck
def Q8p:OP:=fun st p q=>match q with
 | .non=>.ok (.bl (!Qfb p)) st
 | .bl c=>match p with
  | .bl b=>.ok (.bl (b != c)) st
  | _=>.stuck
 | _=>.stuck
theorem Qna:OpS X E (aV .IsNot) Q8p:=⟨fun H ρ st p q x y Q R j z h=>by
 unfold Q8p at h
 split at h
 ·cases z;refine WO.of Qrr ⟨rfl,?_⟩;rw [Qkb j];exact now R h rfl
 ·split at h
  ·cases j; cases z;exact WO.of Qed ⟨_,_,rfl,rfl,now R h rfl⟩
  ·exact h.elim
 ·exact h.elim⟩
def oIn (neg:Bool):OP:=fun st p q=>match Ud st q with
 | some xs=>if Jz dep (der st p)=zb/\xs.all (Jz dep)=zb then .ok (.bl ((xs.any fun y=>peq y (der st p)) != neg)) st else .stuck
 | none=>.stuck
open Classical in
theorem Qfd {pins:List (aA × Obj)} {σ:St} {H:Hp} {ρ:Tk} {s:aC} {A:aQ} {st:Q2} {p:PV} {xs:List PV} {x:V} {v:aB} {vs:List V} {its:List aB} (I:Inv X pins σ H s) (Z:A.units + dep < ac) (R:Rel H ρ st)
  (U:Jz dep (der st p)=zb) (gx:xs.all (Jz dep)=zb) (rp:Rep H ρ p x) (rv:RelV x v) (Y:RepL H ρ xs vs) (J:Vals vs its):∃ e:aB->Bool,(∀ u,u∈its.toArray->SeqAt.EqAt A s u v (e u))/\its.toArray.any e=xs.any fun y=>peq y (der st p):=by
 have a2:∀ u∈its,∃ q∈xs,∃ y,Rep H Tk.nil q y/\RelV y u:=fun u Z=>by
  obtain ⟨j,O,rfl⟩:=dh Z;have l1:=J.length;have l2:=Y.length;obtain ⟨y,e1,e2⟩:=(j4 gx Y).get (O4 (show j < xs.length by omega));obtain ⟨w,e3,e4⟩:=J.get e1;rw [O4 O] at e3; cases e3;exact ⟨_,dg _,y,e2,e4⟩
 refine ⟨fun u=>decide (∃ q∈xs,∃ y,Rep H Tk.nil q y/\RelV y u/\peq q (der st p)=zb),fun u hm=>?_,?_⟩
 ·have a3:u∈its:=by simpa using hm
  by_cases z:∃ q∈xs,∃ y,Rep H Tk.nil q y/\RelV y u/\peq q (der st p)=zb
  ·show SeqAt.EqAt A s u v (decide _);rw [bO z];obtain ⟨q,B,y,r1,r2,e⟩:=z;have:=(Qij dep I ((F7.mp gx) q B) U Z r1 r2 (Q2p R U rp) rv).1;rw [e] at this;exact this
  ·show SeqAt.EqAt A s u v (decide _);rw [bN z];obtain ⟨q,B,y,r1,r2⟩:=a2 u a3;have:=(Qij dep I ((F7.mp gx) q B) U Z r1 r2 (Q2p R U rp) rv).1;cases e:peq q (der st p) with
   | true=>exact absurd ⟨q,B,y,r1,r2,e⟩ z
   | false=>rw [e] at this; exact this
 ·rw [cc,Array.any_eq_true,dJ];constructor
  ·rintro ⟨j,O,e⟩;obtain ⟨q,B,y,r1,r2,e⟩:=of_decide_eq_true e;exact ⟨q,B,e⟩
  ·rintro ⟨q,B,e⟩;obtain ⟨j,O,rfl⟩:=dh B;have l1:=J.length;have l2:=Y.length;have G:j < its.length:=by omega
   obtain ⟨y,e1,e2⟩:=(j4 gx Y).get (O4 O);obtain ⟨w,e3,e4⟩:=J.get e1;refine ⟨j,by simpa using G,bO ⟨_,B,y,e2,?_,e⟩⟩;rw [O4 G] at e3; cases e3;simpa using e4
theorem Q1q (Z:X.A.units + 64 < ac):OpS X E (aV .NotIn) (oIn zb):=⟨fun H ρ st p q x y Q R O Y h=>by
 unfold oIn at h
 split at h
 ·rename_i xs es
  split at h
  ·rename_i g;obtain ⟨t,a,vs,rfl,B,J⟩:=Q7v (K:=X.K) R Y es;intro pins s σ v u I G U;cases U;rw [Bool.bne_true] at h;cases t with
   | true=>
    obtain ⟨its,r,pl,hz⟩:=I.tuple B;obtain ⟨e,z,j⟩:=Qfd (A:=X.A.in1) I (by show X.A.units + 1 + dep < ac; unfold dep; omega) R g.1 g.2 O G J r;refine SeqAt.notIn_tupleAt e pl z ⟨.bl _,H,I,rfl,?_⟩;rw [j];exact now R h rfl
   | false=>
    obtain ⟨its,r,pl,hz⟩:=I.list B;obtain ⟨e,z,j⟩:=Qfd (A:=X.A.in1) I (by show X.A.units + 1 + dep < ac; unfold dep; omega) R g.1 g.2 O G J r;refine SeqAt.notIn_listAt e pl.isList z ⟨.bl _,H,I,rfl,?_⟩;rw [j];exact now R h rfl
  ·exact h.elim
 ·exact h.elim⟩
end
section
variable {H:Hp} {ρ:Tk}
theorem RepL.atI {ps:List PV} {vs:List V} {i:Int} {p:PV} (r:RepL H ρ ps vs) (e:atI ps i=zo p):∃ v,L2.atI vs i=zo v/\Rep H ρ p v:=by
 unfold L2.atI at e ⊢;rw [<- r.length];cases q:ixN ps.length i with
 | none=>rw [q] at e; cases e
 | some j=>
  rw [q] at e;exact r.get e
def cut {α:Type} (xs:List α) (lo hi:Option Int):List α:=(xs.drop (HT.sIx xs.length 0 lo)).take (HT.sIx xs.length xs.length hi - HT.sIx xs.length 0 lo)
theorem RepL.cut {ps:List PV} {vs:List V} (r:RepL H ρ ps vs) (lo hi:Option Int):RepL H ρ (Sm.cut ps lo hi) (Qfi vs lo hi):=by
 unfold Sm.cut Qfi;rw [<- r.length];exact (r.drop _).take _
end
section
variable {X:Cx} {E:XK} {pos:Pos} {a b:aD} {ma mb:ME}
def oIx:OP:=fun st p q=>match Ud st p,q with
 | some xs,.int i=>okO st (atI xs i)
 | _,_=>.stuck
theorem Qw (ha:SimE X E a ma) (hb:SimE X E b mb) (hs:Qix b:=by exact fun _ _=>rfl):SimE X E (.Subscript a b pos) (mOp oIx ma mb):=
 ⟨fun Γ σ H ρ st Q R G h=>WE.of (Qy6 Qw8 Zx Zx hs) (ha.use R G h.bind fun p Z H1 ρ1 v x1 U O r1 h1=>hb.use U O h1.bind fun q a2 H2 a3 u Y R2 G2 r2 h2=>by
  unfold oIx at h2
  split at h2
  ·rename_i xs i e;cases r2;cases j:atI xs i with
   | none=>rw [j] at h2; exact h2.elim
   | some w=>
    rw [j] at h2;obtain ⟨t,b,vs,rfl,I,ra⟩:=Q7v (K:=X.K) R2 (r1.ext Y) e;obtain ⟨z,B,J⟩:=ra.atI j;cases t with
    | true=>exact .inr (.inl ⟨b,vs,i,z,rfl,rfl,I,B,now R2 h2 J⟩)
    | false=>exact .inl ⟨b,vs,i,z,rfl,rfl,I,B,now R2 h2 J⟩
  ·exact h2.elim)⟩
structure SimO (X:Cx) (E:XK) (o:Option aD) (m:Gam->Q2->Res (Option Int)):Prop where
 run:∀ (Γ:Gam) (σ:St) (H:Hp) (ρ:Tk) (st:Q2) (P:Option Int->Q2->Hp->Tk->Prop) (Q:Option Int->Hp->Prop),Rel H ρ st->EnvR H ρ Γ σ->Acc X.mg E H ρ P (m Γ st) ->
  (∀ i st1 H1 ρ1,Ext H ρ H1 ρ1->Rel H1 ρ1 st1->EnvR H1 ρ1 Γ σ->P i st1 H1 ρ1->Q i H1)->∃ t,PO X o t/\t σ H Q
def Vx:Gam->Q2->Res (Option Int):=fun _ st=>.ok zl st
def z8 (m:ME):Gam->Q2->Res (Option Int):=fun Γ st=>(m Γ st).bind fun p st1=>match p with
 | .int i=>.ok (zo i) st1
 | _=>.stuck
theorem Xq:SimO X E zl Vx:=⟨fun Γ σ H ρ st P Q R G h k=>⟨_,Qr8,k zl st H ρ (Ext.refl _ _) R G (h H ρ (Ext.refl _ _) R)⟩⟩
theorem Vw (B:SimE X E a ma):SimO X E (zo a) (z8 ma):=⟨fun Γ σ H ρ st P Q R G h k=>⟨_,Qr7 Zx,B.use R G h.bind fun p j H1 ρ1 v z q I r1 h1=>by
 cases p with
 | int i=>exact ⟨i,r1,k (zo i) j H1 ρ1 z q I (h1 H1 ρ1 (Ext.refl _ _) q)⟩
 | _=>exact h1.elim⟩⟩
def oSl (st:Q2) (p:PV) (lo hi:Option Int):Res PV:=match p with
 | .tup xs=>.ok (.tup (cut xs lo hi)) st
 | p=>match Q0t st p with
  | some xs=>.ok (.lst (cut xs lo hi)) st
  | none=>.stuck
def mSl (ma:ME) (ml mh:Gam->Q2->Res (Option Int)):ME:=fun Γ st=>(ma Γ st).bind fun p st1=>(ml Γ st1).bind fun lo st2=>(mh Γ st2).bind fun hi st3=>oSl st3 p lo hi
def TO.w (X:Cx) (o:Option aD):TO:=fun σ H Q=>∃ t,PO X o t/\t σ H Q
theorem Qy1 {o:Option aD}:PO X o (TO.w X o):=fun pins s σ H Q I ⟨t,h,q⟩=>h pins s σ H Q I q
theorem Wy {lo hi:Option aD} {Z Y:Gam->Q2->Res (Option Int)} {p2:Pos} (q:SimE X E a ma) (hl:SimO X E lo Z) (hh:SimO X E hi Y):SimE X E (.Subscript a (.Slice lo hi zl p2) pos) (mSl ma Z Y):=
 ⟨fun Γ σ H ρ st Q R G h=>WE.of (Qn2 (sl_tup.or (sl_whole.or Qqk)) Zx Qy1 Qy1) (q.use R G h.bind fun p J H1 ρ1 v x1 R1 G1 r1 h1=>by
  refine hl.run Γ σ H1 ρ1 J _ _ R1 G1 h1.bind fun l O H2 U x2 R2 G2 h2=>?_
  refine hh.run Γ σ H2 U O _ _ R2 G2 h2.bind fun u a3 H3 a2 x3 I G3 j=>?_
  have r3:=r1.ext (x2.trans x3);unfold oSl at j
  split at j
  ·rename_i xs;obtain ⟨a,vs,rfl,q,na,z⟩:=r3
   by_cases B:HT.sIx vs.length 0 l=0/\HT.sIx vs.length vs.length u=vs.length
   ·refine .inr (.inl ⟨a,vs,rfl,SqT.of q,B,?_⟩);have e:cut xs l u=xs:=by
     unfold cut;rw [z.length,B.1,B.2,dj,gI,<- z.length,eZ]
    rw [e] at j;exact now I j ⟨a,vs,rfl,q,na,z⟩
   ·exact .inl ⟨a,vs,rfl,SqT.of q,B,Q4j I j (z.cut l u)⟩
  ·split at j
   ·rename_i xs e;obtain ⟨a,vs,rfl,q,z⟩:=Q76 I r3 e;exact .inr (.inr ⟨a,vs,rfl,.inl q,Q75 I j (z.cut l u)⟩)
   ·exact j.elim)⟩
variable {es:List aD} {e:aD} {mr:Gam->Q2->Res (List PV)}
def J3 (o:CF) (mr:Gam->Q2->Res (List PV)):ME:=fun Γ st=>(mr Γ st).bind fun ps st1=>o st1 ps
theorem CallS.use {f:aB} {o:CF} (s:CallS X E f o) {P:PV->Q2->Hp->Tk->Prop} {Q:VK} {H:Hp} {ρ:Tk} {st:Q2} {ps:List PV} {xs:List V} (R:Rel H ρ st) (G:RepL H ρ ps xs) (h:Acc X.mg E H ρ P (o st ps))
  (k:∀ p j H1 ρ1 v,Ext H ρ H1 ρ1->Rel H1 ρ1 j->Rep H1 ρ1 p v->P p j H1 ρ1->Q v H1):WC X f xs H Q:=by
 refine s.run H ρ st ps xs Q R G ?_;cases r:o st ps with
 | ok p j=>rw [r] at h; exact fun H' ρ' z q v B=>k p j H' ρ' v z q B (h H' ρ' z q)
 | exc e st=>rw [r] at h; exact h
 | stuck=>rw [r] at h; exact h
theorem Qs {id:String} {x:Str} {p:Pos} {o:CF} (J:CallS X E (.builtin id) o) (O:Gl X x) (I:X.mg x=zl) (hv:aa x=zo (.builtin id)) (U:SimA X E (e :: es) mr) (Z:x≠"__name__" := by decide) (z:(x == ("__debug__" : Str))=za:=by decide)
  (Y:aP (e :: es) X.env=(za,aM e X.env) :: aP es X.env:=by rfl) (j:(aU pos (aP es X.env)).any (·.1)=za:=by rfl):SimE X E (.Call (.Name x p) (e :: es) [] pos) (J3 o mr):=
 ⟨fun Γ σ H ρ st Q R G h=>WE.of (Qeb Qpk O I hv Q3m Z z Y j) (U.use R G h.bind fun ps a2 H1 ρ1 vs x1 B G1 r1 h1=>J.use B r1 h1 fun _ _ _ _ v _ _ r q=>q v r)⟩
theorem Xu {T:String} {x:Str} {p:Pos} {o:CF} (J:CallS X E (.type T) o) (O:Gl X x) (I:X.mg x=zl) (hv:aa x=zo (.type T)) (U:SimA X E (e :: es) mr) (Z:x≠"__name__" := by decide) (z:(x == ("__debug__" : Str))=za:=by decide)
  (Y:aP (e :: es) X.env=(za,aM e X.env) :: aP es X.env:=by rfl) (j:(aU pos (aP es X.env)).any (·.1)=za:=by rfl):SimE X E (.Call (.Name x p) (e :: es) [] pos) (J3 o mr):=
 ⟨fun Γ σ H ρ st Q R G h=>WE.of (Qjk Qpk O I hv Q3m Z z Y j) (U.use R G h.bind fun ps a2 H1 ρ1 vs x1 B G1 r1 h1=>J.use B r1 h1 fun _ _ _ _ v _ _ r q=>q v r)⟩
theorem Yy {H:Hp} {ρ:Tk} {p:PV} {xs:List V} (r:RepL H ρ [p] xs):∃ v,xs=[v]/\Rep H ρ p v:=by
 obtain ⟨v,t,rfl,h1,h2⟩:=r;cases h2;exact ⟨v,rfl,h1⟩
theorem Q4b {H:Hp} {ρ:Tk} {p q:PV} {xs:List V} (r:RepL H ρ [p,q] xs):∃ v u,xs=[v,u]/\Rep H ρ p v/\Rep H ρ q u:=by
 obtain ⟨v,t,rfl,h1,h2⟩:=r;obtain ⟨u,rfl,j⟩:=Yy h2;exact ⟨v,u,rfl,h1,j⟩
def Zg:CF:=fun st ps=>match ps with
 | [p]=>match Ud st p with
  | some xs=>.ok (.int xs.length) st
  | none=>match p with
   | .str x=>if x.length<=lim then .ok (.int x.length) st else .stuck
   | _=>.stuck
 | _=>.stuck
theorem Z6:CallS X E (.builtin "len") Zg:=⟨fun H ρ st ps xs Q R z h=>by
 unfold Zg at h
 split at h
 ·rename_i p;obtain ⟨v,rfl,r⟩:=Yy z
  split at h
  ·rename_i ys e;obtain ⟨t,a,vs,rfl,j,q⟩:=Q7v (K:=X.K) R r e;rw [q.length] at h;exact WC.of Qdf ⟨a,vs,rfl,Quf j,now R h rfl⟩
  ·split at h
   ·cases r
    split at h
    ·rename_i B;exact WC.of Qde ⟨_,rfl,Uk B,now R h rfl⟩
    ·exact h.elim
   ·exact h.elim
 ·exact h.elim⟩
def Wd (g:List Int->Option PV):CF:=fun st ps=>match ps with
 | [p]=>match (Ud st p).bind y6 with
  | some ns=>okO st (g ns)
  | none=>.stuck
 | _=>.stuck
def x9 (g:List Bool->PV):CF:=fun st ps=>match ps with
 | [p]=>match (Ud st p).bind Q6g with
  | some ns=>.ok (g ns) st
  | none=>.stuck
 | _=>.stuck
theorem Q9c {K:bQ} {H:Hp} {ρ:Tk} {st:Q2} {p:PV} {v:V} {ns:List Int} (R:Rel H ρ st) (r:Rep H ρ p v) (e:(Ud st p).bind y6=zo ns):∃ (t:Bool) (a:aA),v=.ref a/\SqK K t H a (ns.map V.int):=by
 cases q:Ud st p with
 | none=>rw [q] at e; cases e
 | some xs=>
  rw [q] at e;obtain ⟨t,a,vs,rfl,j,z⟩:=Q7v (K:=K) R r q;rw [Q77 e] at z;rw [z.toInts] at j;exact ⟨t,a,rfl,j⟩
theorem Qit {K:bQ} {H:Hp} {ρ:Tk} {st:Q2} {p:PV} {v:V} {ns:List Bool} (R:Rel H ρ st) (r:Rep H ρ p v) (e:(Ud st p).bind Q6g=zo ns):∃ (t:Bool) (a:aA),v=.ref a/\SqK K t H a (ns.map V.bl):=by
 cases q:Ud st p with
 | none=>rw [q] at e; cases e
 | some xs=>
  rw [q] at e;obtain ⟨t,a,vs,rfl,j,z⟩:=Q7v (K:=K) R r q;rw [Qpw e] at z;rw [z.toBls] at j;exact ⟨t,a,rfl,j⟩
theorem Q0z (j:X.calm=zb):CallS X E (.builtin "sum") (Wd fun ns=>zo (.int ns.sum)):=⟨fun H ρ st ps xs Q R z h=>by
 unfold Wd at h
 split at h
 ·obtain ⟨v,rfl,r⟩:=Yy z
  split at h
  ·rename_i ns e;obtain ⟨t,a,rfl,q⟩:=Q9c (K:=X.K) R r e;exact WC.of (Qpm t j) ⟨a,ns,rfl,q,now R h rfl⟩
  ·exact h.elim
 ·exact h.elim⟩
theorem Q10 (j:X.calm=zb):CallS X E (.builtin "all") (x9 fun ns=>.bl (ns.all id)):=⟨fun H ρ st ps xs Q R z h=>by
 unfold x9 at h
 split at h
 ·obtain ⟨v,rfl,r⟩:=Yy z
  split at h
  ·rename_i ns e;obtain ⟨t,a,rfl,q⟩:=Qit (K:=X.K) R r e;exact WC.of (Qpp t j) ⟨a,ns,rfl,q,now R h rfl⟩
  ·exact h.elim
 ·exact h.elim⟩
theorem Qpg (j:X.calm=zb):CallS X E (.builtin "any") (x9 fun ns=>.bl (ns.any id)):=⟨fun H ρ st ps xs Q R z h=>by
 unfold x9 at h
 split at h
 ·obtain ⟨v,rfl,r⟩:=Yy z
  split at h
  ·rename_i ns e;obtain ⟨t,a,rfl,q⟩:=Qit (K:=X.K) R r e;exact WC.of (Qpn t j) ⟨a,ns,rfl,q,now R h rfl⟩
  ·exact h.elim
 ·exact h.elim⟩
def maxI:List Int->Option Int
 | []=>zl
 | n :: ns=>zo (ns.foldl (fun a b=>if b > a then b else a) n)
def J1i:List Int->Option Int
 | []=>zl
 | n :: ns=>zo (ns.foldl (fun a b=>if b < a then b else a) n)
theorem Qbq:∀ (ns:List Int) (n:Int),(ns.foldl (fun a b=>if b > a then b else a) n=n\/ns.foldl (fun a b=>if b > a then b else a) n∈ns)/\n<=ns.foldl (fun a b=>if b > a then b else a) n/\∀ k∈ns,k<=ns.foldl (fun a b=>if b > a then b else a) n
 | [],n=>⟨.inl rfl,bb _,fun k h=>by cases h⟩
 | m :: ns,n=>by
  obtain ⟨h1,h2,z⟩:=Qbq ns (if m > n then m else n);rw [cu];refine ⟨?_,?_,fun k q=>?_⟩
  ·rcases h1 with e | e
   ·by_cases j:m > n
    ·rw [bK j] at e ⊢; exact .inr (by rw [e]; exact D1)
    ·rw [bL j] at e ⊢; exact .inl e
   ·exact .inr (O9 _ e)
  ·by_cases j:m > n
   ·rw [bK j] at h2 ⊢; omega
   ·rw [bL j] at h2 ⊢; exact h2
  ·rcases E5.mp q with rfl | q
   ·by_cases j:k > n
    ·rw [bK j] at h2 ⊢; exact h2
    ·rw [bL j] at h2 ⊢; omega
   ·exact z k q
theorem Qbp:∀ (ns:List Int) (n:Int),(ns.foldl (fun a b=>if b < a then b else a) n=n\/ns.foldl (fun a b=>if b < a then b else a) n∈ns)/\ns.foldl (fun a b=>if b < a then b else a) n<=n/\∀ k∈ns,ns.foldl (fun a b=>if b < a then b else a) n<=k
 | [],n=>⟨.inl rfl,bb _,fun k h=>by cases h⟩
 | m :: ns,n=>by
  obtain ⟨h1,h2,z⟩:=Qbp ns (if m < n then m else n);rw [cu];refine ⟨?_,?_,fun k q=>?_⟩
  ·rcases h1 with e | e
   ·by_cases j:m < n
    ·rw [bK j] at e ⊢; exact .inr (by rw [e]; exact D1)
    ·rw [bL j] at e ⊢; exact .inl e
   ·exact .inr (O9 _ e)
  ·by_cases j:m < n
   ·rw [bK j] at h2 ⊢; omega
   ·rw [bL j] at h2 ⊢; exact h2
  ·rcases E5.mp q with rfl | q
   ·by_cases j:k < n
    ·rw [bK j] at h2 ⊢; exact h2
    ·rw [bL j] at h2 ⊢; omega
   ·exact z k q
def Q5x:CF:=fun st ps=>match ps with
 | [.int a,.int b]=>.ok (.int (if b > a then b else a)) st
 | ps=>Wd (fun ns=>(maxI ns).map .int) st ps
def Qfp:CF:=fun st ps=>match ps with
 | [.int a,.int b]=>.ok (.int (if b < a then b else a)) st
 | ps=>Wd (fun ns=>(J1i ns).map .int) st ps
theorem Q9m (q:X.calm=zb):CallS X E (.builtin "max") Q5x:=⟨fun H ρ st ps xs Q R B h=>by
 unfold Q5x at h
 split at h
 ·obtain ⟨v,u,rfl,r1,r2⟩:=Q4b B;cases r1; cases r2;exact WC.of (Qkp q) ⟨_,_,rfl,now R h rfl⟩
 ·unfold Wd at h
  split at h
  ·obtain ⟨v,rfl,r⟩:=Yy B
   split at h
   ·rename_i ns e;cases ns with
    | nil=>exact h.elim
    | cons n ns=>
     obtain ⟨t,a,rfl,G⟩:=Q9c (K:=X.K) R r e;refine WC.of (Qkn t q) ⟨a,_,rfl,G,by simp,fun m j z=>?_⟩;have J:m=ns.foldl (fun a b=>if b > a then b else a) n:=by
      obtain ⟨h1,h2,I⟩:=Qbq ns n;have O:ns.foldl (fun a b=>if b > a then b else a) n<=m:=by
       rcases h1 with e | e
       ·rw [e]; exact z _ D1
       ·exact z _ (O9 _ e)
      have g2:m<=ns.foldl (fun a b=>if b > a then b else a) n:=by
       rcases E5.mp j with rfl | j
       ·exact h2
       ·exact I m j
      omega
     subst J;exact now R h rfl
   ·exact h.elim
  ·exact h.elim⟩
theorem Qpf (q:X.calm=zb):CallS X E (.builtin "min") Qfp:=⟨fun H ρ st ps xs Q R B h=>by
 unfold Qfp at h
 split at h
 ·obtain ⟨v,u,rfl,r1,r2⟩:=Q4b B;cases r1; cases r2;exact WC.of (Qkm q) ⟨_,_,rfl,now R h rfl⟩
 ·unfold Wd at h
  split at h
  ·obtain ⟨v,rfl,r⟩:=Yy B
   split at h
   ·rename_i ns e;cases ns with
    | nil=>exact h.elim
    | cons n ns=>
     obtain ⟨t,a,rfl,G⟩:=Q9c (K:=X.K) R r e;refine WC.of (Qkk t q) ⟨a,_,rfl,G,by simp,fun m j z=>?_⟩;have J:m=ns.foldl (fun a b=>if b < a then b else a) n:=by
      obtain ⟨h1,h2,I⟩:=Qbp ns n;have O:m<=ns.foldl (fun a b=>if b < a then b else a) n:=by
       rcases h1 with e | e
       ·rw [e]; exact z _ D1
       ·exact z _ (O9 _ e)
      have g2:ns.foldl (fun a b=>if b < a then b else a) n<=m:=by
       rcases E5.mp j with rfl | j
       ·exact h2
       ·exact I m j
      omega
     subst J;exact now R h rfl
   ·exact h.elim
  ·exact h.elim⟩
def Vh:CF:=fun st ps=>match ps with
 | [p]=>match Ud st p with
  | some xs=>.ok (.tup xs) st
  | none=>.stuck
 | _=>.stuck
theorem jn:CallS X E (.type "tuple") Vh:=⟨fun H ρ st ps xs Q R z h=>by
 unfold Vh at h
 split at h
 ·rename_i p;obtain ⟨v,rfl,r⟩:=Yy z
  split at h
  ·rename_i ys e;cases p with
   | tup zs=>
    cases e;obtain ⟨a,vs,rfl,j,B,q⟩:=r;exact WC.of Q38 ⟨a,vs,rfl,.inr ⟨SqT.of j,now R h ⟨a,vs,rfl,j,B,q⟩⟩⟩
   | _=>
    obtain ⟨a,vs,rfl,j,q⟩:=Q76 R r e;exact WC.of Q38 ⟨a,vs,rfl,.inl ⟨.inl j,Q4j R h q⟩⟩
  ·exact h.elim
 ·exact h.elim⟩
def tyN:PV->String
 | .non => "NoneType"
 | .bl _ => "bool"
 | .int _ => "int"
 | .str _ => "str"
 | .tup _ => "tuple"
 | .lst _ => "list"
 | .fro _ => "list"
 | .ref _ => "list"
 | .dic => "dict"
def dpv (st:Q2):PV->PV
 | .ref i=>match st[i]? with
  | some (.dic _)=>.dic
  | some (.dtp _)=>.dic
  | _=>.ref i
 | p=>p
def isI (T:String) (p:PV):Bool:=tyN p == T || (T == "int" && tyN p == "bool")
def Q3x (st:Q2):PV->Bool
 | .ref i=>match st[i]? with
  | some (.frd _)=>zb
  | some (.obj _ _)=>zb
  | _=>za
 | _=>za
theorem Qx8 {K:bQ} {H:Hp} {ρ:Tk} {st:Q2} {p:PV} {v:V} (z:Q3x st p=za) (R:Rel H ρ st) (r:Rep H ρ p v):TyOf K H v (.type (tyN (dpv st p))):=by
 cases p with
 | non=>cases r; exact .non
 | bl b=>cases r; exact .bl b
 | int i=>cases r; exact .int i
 | str x=>cases r; exact .str x
 | tup ps=>obtain ⟨a,vs,rfl,h,_⟩:=r; exact .tup h
 | lst ps=>obtain ⟨a,vs,rfl,h,_⟩:=r; exact .lst h
 | fro ps=>
  obtain ⟨a,vs,rfl,h,_⟩:=r;rcases h with h | ⟨o,h⟩
  ·exact .lst h
  ·exact .frz h
 | ref i=>
  obtain ⟨a,e,rfl⟩:=r;have B:i < st.length:=by rw [<- R.len]; exact (O0.mp e).1
  have hs:=O4 B;have q:=R.cell i a st[i] e hs;cases j:st[i] with
  | lst xs=>rw [j] at q hs; simp only [dpv,hs]; obtain ⟨vs,h,_⟩:=q; exact .lst h
  | dic xs=>rw [j] at q hs; simp only [dpv,hs]; obtain ⟨vs,h,_⟩:=q; exact .dK h
  | dtp xs=>rw [j] at q hs; simp only [dpv,hs]; obtain ⟨vs,h,_⟩:=q; exact .dT h
  | frd xs=>rw [j] at hs; simp only [Q3x,hs] at z; cases z
  | obj C xs=>rw [j] at hs; simp only [Q3x,hs] at z; cases z
 | dic=>obtain ⟨a,rfl,h,_⟩:=r; exact .dK h
def Q99:List String:=["int", "bool", "str", "tuple", "list", "dict"]
theorem Qw2 (K:bQ) {T:String} (j:T∈Q99) (p:PV):eL K (.type (tyN p)) (.type T)=zo (isI T p):=by
 have j:T = "int" \/ T = "bool" \/ T = "str" \/ T = "tuple" \/ T = "list" \/ T = "dict" := by simpa [Q99] using j
 rcases j with rfl | rfl | rfl | rfl | rfl | rfl <;> cases p <;> first | rfl | kernel_rfl
def Qd1 (T:String) (m:ME):ME:=fun Γ st=>(m Γ st).bind fun p st1=>if Q3x st1 p=zb then .stuck else .ok (.bl (isI T (dpv st1 p))) st1
theorem Q3b {T:String} {tx:Str} {a:aD} {ma:ME} {p tp:Pos} (hT:T∈Q99) (ha:SimE X E a ma) (hg:Gl X "isinstance") (hm:X.mg "isinstance" = zl) (O:Gl X tx) (B:X.mg tx=zl) (U:aa tx=zo (.type T))
  (hn:tx≠"__name__" := by decide) (hd:(tx == ("__debug__" : Str))=za:=by decide)
  (Y:aP [a,.Name tx tp] X.env=(za,aM a X.env) :: aP [.Name tx tp] X.env:=by rfl) (z:aP [.Name tx tp] X.env=(za,aM (.Name tx tp) X.env) :: aP [] X.env:=by rfl) (I:(aU pos (aP [.Name tx tp] X.env)).any (·.1)=za:=by rfl) :
  SimE X E (.Call (.Name "isinstance" p) [a,.Name tx tp] [] pos) (Qd1 T ma):=
 ⟨fun Γ σ H ρ st Q R G h=>WE.of (Qeb Qfm hg hm Q6z (Q0c Zx (Q0c (Qrk O B U (v:=.ty T) rfl hn hd) Q8c z) Y) (by decide) (by decide) Y I)
  (ha.use R G h.bind fun q j H1 ρ1 v x1 Z G1 r1 h1=>by
   by_cases J:Q3x j q=zb
   ·rw [bK J] at h1; exact h1.elim
   ·rw [bL J] at h1;exact ⟨v,.ty T,.type T,_,_,rfl,rfl,Qx8 (by simpa using J) Z r1,Qw2 X.K hT (dpv j q),now Z h1 rfl⟩)⟩
end
abbrev GA:=PV->Gam->Option Gam
abbrev GAs:=List PV->Gam->Option Gam
structure SimG (X:Cx) (tg:aD) (ga:GA):Prop where
 run:∀ (Γ Γ':Gam) (σ:St) (H:Hp) (ρ:Tk) (p:PV) (v:V) (Q:St->Hp->Prop),EnvR H ρ Γ σ->Rep H ρ p v->ga p Γ=zo Γ'->(∀ σ',EnvR H ρ Γ' σ'->Q σ' H)->∃ t,PG X tg t/\t v σ H Q
structure SimGs (X:Cx) (tgs:List aD) (n:Nat) (ga:GAs):Prop where
 run:∀ (Γ Γ':Gam) (σ:St) (H:Hp) (ρ:Tk) (ps:List PV) (vs:List V) (Q:St->Hp->Prop),EnvR H ρ Γ σ->RepL H ρ ps vs->ga ps Γ=zo Γ'->(∀ σ',EnvR H ρ Γ' σ'->Q σ' H)->∃ t,PGs X tgs t/\t vs σ H Q
 len:∀ ps Γ Γ',ga ps Γ=zo Γ'->ps.length=n
def Qk (i:Nat):GA:=fun p Γ=>zo (Γ.set i (zo p))
def Vn:GAs:=fun ps Γ=>match ps with
 | []=>zo Γ
 | _=>zl
def Jx (g:GA) (gs:GAs):GAs:=fun ps Γ=>match ps with
 | p :: r=>(g p Γ).bind (gs r)
 | []=>zl
def Vm (gs:GAs):GA:=fun p Γ=>match p with
 | .tup ps=>gs ps Γ
 | _=>zl
section
variable {X:Cx} {pos:Pos}
theorem Qy {i:Nat} {x:Str} (B:X.N.Nodup) (hi:X.N[i]?=zo x:=by rfl) (q:Loc X.env.scope x:=by first | exact Or.inl rfl | exact Or.inr rfl) (z:X.fn x=zb\/X.env.scope.names.lookup x=zo .local:=by first | exact .inl rfl | exact .inr rfl):SimG X (.Name x pos) (Qk i):=
 ⟨fun Γ j σ H ρ p v Q G r e k=>⟨_,Qrd B hi q z,by cases e; exact k _ (G.set r i)⟩⟩
theorem Kk:SimGs X [] 0 Vn:=⟨fun Γ j σ H ρ ps vs Q G r e k=>⟨_,Qrb,by
 cases ps with
 | nil=>cases e; cases r; exact ⟨rfl,k σ G⟩
 | cons _ _=>cases e⟩,fun ps Γ j e=>by
 cases ps with
 | nil=>rfl
 | cons _ _=>cases e⟩
def WGx (X:Cx) (tg:aD):TG:=fun v σ H Q=>∃ t,PG X tg t/\t v σ H Q
theorem Qrc {tg:aD}:PG X tg (WGx X tg):=fun pins s σ H v u Q I r ⟨t,h,q⟩=>h pins s σ H v u Q I r q
def J1v (X:Cx) (tgs:List aD):TGs:=fun v σ H Q=>∃ t,PGs X tgs t/\t v σ H Q
theorem Qta {j:List aD}:PGs X j (J1v X j):=fun pins s σ H v u Q I r ⟨t,h,q⟩=>h pins s σ H v u Q I r q
theorem Zp {e:aD} {es:List aD} {g:GA} {gs:GAs} {n:Nat} (h1:SimG X e g) (h2:SimGs X es n gs) (hs:(ak (e :: es) X.env).map (·.2)=assign e X.env :: (ak es X.env).map (·.2):=by rfl):SimGs X (e :: es) (n + 1) (Jx g gs):=
 ⟨fun Γ j σ H ρ ps vs Q G r eq k=>⟨_,Qmz Qrc Qta hs,by
  cases ps with
  | nil=>cases eq
  | cons p ps=>
   obtain ⟨v,t,rfl,r1,r2⟩:=r;have eq:(g p Γ).bind (gs ps)=zo j:=eq;cases e1:g p Γ with
   | none=>rw [e1] at eq; cases eq
   | some Γ1=>
    rw [e1] at eq;exact ⟨v,t,rfl,h1.run Γ Γ1 σ H ρ p v _ G r1 e1 fun q z=>h2.run Γ1 j q H ρ ps t _ z r2 eq k⟩⟩,fun ps Γ j e=>by
  cases ps with
  | nil=>cases e
  | cons p ps=>
   have e:(g p Γ).bind (gs ps)=zo j:=e;cases e1:g p Γ with
   | none=>rw [e1] at e; cases e
   | some Γ1=>rw [e1] at e; rw [D4,h2.len ps Γ1 j e]⟩
theorem xj {es:List aD} {k n:Nat} {gs:GAs} (I:X.calm=zb) (h:SimGs X es n gs) (O:(ak es X.env).length=n:=by rfl) (z:(ak es X.env).findIdx? (·.1)=zl:=by rfl):SimG X (.Tuple es k pos) (Vm gs):=
 ⟨fun Γ j σ H ρ p v Q G r e q=>⟨_,Quy I Qta O z,by
  cases p with
  | tup ps=>
   obtain ⟨a,vs,rfl,J,U,B⟩:=r;exact ⟨a,vs,rfl,SqT.of J,by rw [<- B.length]; exact h.len ps Γ j e,h.run Γ j σ H ρ ps vs Q G B e q⟩
  | _=>cases e⟩⟩
end
abbrev Wt:=List (Nat × Cell)
def wOk (w:Wt) (st:Q2):Prop:=∀ x∈w,st[x.1]?=zo x.2
theorem Q44 (st:Q2):wOk [] st:=fun x h=>by cases h
structure Src (J:It) (items:List PV) (w:Wt) (H:Hp) (ρ:Tk):Prop where
 stop:∀ H2 ρ2 st2,Ext H ρ H2 ρ2->Rel H2 ρ2 st2->wOk w st2->J.stop items.length H2
 go:∀ H2 ρ2 st2,Ext H ρ H2 ρ2->Rel H2 ρ2 st2->wOk w st2->∀ i,i < items.length->J.go i H2
 yld:∀ H2 ρ2 st2,Ext H ρ H2 ρ2->Rel H2 ρ2 st2->wOk w st2->∀ i p,items[i]?=zo p->∀ x H3,J.yld i H2 x H3->Same H2 H3/\Rep H3 ρ2 p x
abbrev MI:=Gam->Q2->Res (List PV × Wt)
structure SimI (X:Cx) (E:XK) (tg iter:aD) (mi:MI):Prop where
 run:∀ (Γ:Gam) (σ:St) (H:Hp) (ρ:Tk) (st:Q2) (P:List PV × Wt->Q2->Hp->Tk->Prop) (R':It->Hp->Prop),Rel H ρ st->EnvR H ρ Γ σ->Acc X.mg E H ρ P (mi Γ st) ->
  (∀ iw st1 H1 ρ1 J,mi Γ st=.ok iw st1->Ext H ρ H1 ρ1->Rel H1 ρ1 st1->EnvR H1 ρ1 Γ σ->wOk iw.2 st1->iw.1.length<=sizeLine->Src J iw.1 iw.2 H1 ρ1->P iw st1 H1 ρ1->R' J H1)->WI X tg iter σ H R'
def Ws (st:Q2):PV->Option (List PV × Wt)
 | .tup xs=>zo (xs,[])
 | .lst xs=>zo (xs,[])
 | .fro xs=>zo (xs,[])
 | .ref i=>match st[i]? with
  | some (.lst xs)=>zo (xs,[(i,.lst xs)])
  | _=>zl
 | _=>zl
theorem Q7q {K:bQ} {H:Hp} {ρ:Tk} {st:Q2} {p:PV} {v:V} {xs:List PV} {w:Wt} (R:Rel H ρ st) (r:Rep H ρ p v) (e:Ws st p=zo (xs,w)) :
  wOk w st/\∃ (t:Bool) (a:aA),v=.ref a/\(t=zb->∃ ys,p=.tup ys)/\(t=za->∀ ys,p≠.tup ys)/\∀ H2 j q,Ext H ρ H2 j->Rel H2 j q->wOk w q->∃ vs,SqK K t H2 a vs/\RepL H2 j xs vs:=by
 cases p with
 | tup ys=>
  obtain ⟨a,vs,rfl,B,G,I⟩:=r;cases e;exact ⟨Q44 _,zb,a,rfl,fun _=>⟨_,rfl⟩,(fun z=>by cases z),fun H2 j q x R2 _=>⟨vs,show SqT K H2 a vs from SqT.of (x.kp B G),I.ext x⟩⟩
 | lst ys=>
  obtain ⟨a,vs,rfl,B,G,I⟩:=r;cases e;exact ⟨Q44 _,za,a,rfl,(fun z=>by cases z),(fun _ _ z=>by cases z),fun H2 j q x R2 _=>⟨vs,show SqL K H2 a vs from SqL.of (x.kp B G),I.ext x⟩⟩
 | fro ys=>
  obtain ⟨a,vs,rfl,B,G,I⟩:=r;cases e;refine ⟨Q44 _,za,a,rfl,(fun z=>by cases z),(fun _ _ z=>by cases z),fun H2 j q x R2 _=>⟨vs,show SqL K H2 a vs from ?_,I.ext x⟩⟩
  rcases B with B | ⟨o,B⟩
  ·exact .inl (.inl (x.kp B G))
  ·exact .inl (.inr ⟨o,x.kp B G⟩)
 | ref i=>
  obtain ⟨a,O,rfl⟩:=r;simp only [Ws] at e
  split at e
  ·rename_i ys hs;cases e;refine ⟨fun x Z=>?_,za,a,rfl,(fun z=>by cases z),(fun _ _ z=>by cases z),fun H2 j q x R2 ok=>?_⟩
   ·have:x=(i,.lst xs):=by simpa using Z
    subst this; exact hs
   ·have J:=ok (i,.lst xs) (by simp);obtain ⟨b,vs,U,f2,f3⟩:=R2.lst J;obtain ⟨t,Y⟩:=x.pre;rw [<- Y,O5 (O0.mp O).1,O] at U;cases U;exact ⟨vs,show SqL K H2 a vs from SqL.of f2,f3⟩
  ·cases e
 | _=>cases e
section
variable {X:Cx} {E:XK} {pos:Pos} {tg:aD} {e:aD} {m:ME}
def U9 (m:ME):MI:=fun Γ st=>(m Γ st).bind fun p st1=>match Ws st1 p with
 | some (xs,w)=>if xs.length<=lim then .ok (xs,w) st1 else .stuck
 | none=>.stuck
theorem RepL.i {H:Hp} {ρ:Tk} {ps:List PV} {vs:List V} {i:Nat} {p:PV} {x:V} (r:RepL H ρ ps vs) (h:ps[i]?=zo p) (h':vs[i]?=zo x):Rep H ρ p x:=by
 obtain ⟨v,e,q⟩:=r.get h;rw [h'] at e; cases e;exact q
theorem Qhq {K:bQ} {H:Hp} {ρ:Tk} {t:Bool} {a:aA} {xs:List PV} {w:Wt} (h:∀ H2 j q,Ext H ρ H2 j->Rel H2 j q->wOk w q->∃ vs,SqK K t H2 a vs/\RepL H2 j xs vs):Src (if t=zb then Itt K a else Itl K a) xs w H ρ:=by
 cases t with
 | true=>
  rw [bK rfl];refine ⟨fun H2 j q x R ok=>?_,fun H2 j q x R ok i hi=>?_,fun H2 j q x R ok i p hp y I B=>?_⟩
  ·obtain ⟨vs,s,r⟩:=h H2 j q x R ok;exact ⟨vs,s,by rw [r.length]; exact O7 _⟩
  ·obtain ⟨vs,s,r⟩:=h H2 j q x R ok;have z:i < vs.length:=by rw [<- r.length]; exact hi
   exact ⟨vs,vs[i],s,O4 z⟩
  ·obtain ⟨vs,s,r⟩:=h H2 j q x R ok;obtain ⟨rfl,G⟩:=B;exact ⟨Same.refl _,r.i hp (G vs s)⟩
 | false=>
  rw [bL D8];refine ⟨fun H2 j q x R ok=>?_,fun H2 j q x R ok i hi=>?_,fun H2 j q x R ok i p hp y I B=>?_⟩
  ·obtain ⟨vs,s,r⟩:=h H2 j q x R ok;exact ⟨vs,s,by rw [r.length]; exact O7 _⟩
  ·obtain ⟨vs,s,r⟩:=h H2 j q x R ok;have z:i < vs.length:=by rw [<- r.length]; exact hi
   exact ⟨vs,vs[i],s,O4 z⟩
  ·obtain ⟨vs,s,r⟩:=h H2 j q x R ok;obtain ⟨rfl,G⟩:=B;exact ⟨Same.refl _,r.i hp (G vs s)⟩
theorem Qi7 {mg:Str->Option aB} {H:Hp} {ρ:Tk} {st:Q2} {p:PV} {P:List PV × Wt->Q2->Hp->Tk->Prop} (R:Rel H ρ st) (h:Acc mg E H ρ P (match Ws st p with | some (xs,w)=>if xs.length<=lim then .ok (xs,w) st else .stuck | none=>.stuck)) :
  ∃ xs w,Ws st p=zo (xs,w)/\xs.length<=lim/\P (xs,w) st H ρ:=by
 split at h
 ·rename_i xs w e
  split at h
  ·rename_i j;exact ⟨xs,w,e,j,h H ρ (Ext.refl _ _) R⟩
  ·exact h.elim
 ·exact h.elim
theorem Y8 (ha:SimE X E e m):SimI X E tg e (U9 m):=⟨fun Γ σ H ρ st P R' R G h k=>by
 have U:Acc X.mg E H ρ _ (m Γ st):=Acc.bind h
 by_cases Z:∃ ys j,m Γ st=.ok (.tup ys) j
 ·obtain ⟨ys,a2,Y⟩:=Z;refine WI.of (Qux Zx) (ha.use' R G U fun p j H1 ρ1 v eq I q O r1 h1=>?_);obtain ⟨xs,w,e,B,J⟩:=Qi7 q h1;obtain ⟨ok,t,a,rfl,t1,t2,z⟩:=Q7q (K:=X.K) q r1 e;have ep:p=.tup ys:=by rw [eq] at Y; injection Y
  cases t with
  | false=>exact absurd ep (t2 rfl ys)
  | true=>
   obtain ⟨vs,s,_⟩:=z H1 ρ1 j (Ext.refl _ _) q ok;exact ⟨a,rfl,⟨vs,s⟩,k (xs,w) j H1 ρ1 _ (by simp only [U9,eq,Res.bind,e,bK B]) I q O ok (Uk B) (Qhq z) J⟩
 ·refine WI.of (Qr9 Zx) (ha.use' R G U fun p j H1 ρ1 v eq I q O r1 h1=>?_);obtain ⟨xs,w,e,B,J⟩:=Qi7 q h1;obtain ⟨ok,t,a,rfl,t1,t2,z⟩:=Q7q (K:=X.K) q r1 e;cases t with
  | true=>
   obtain ⟨ys,rfl⟩:=t1 rfl;exact absurd ⟨ys,j,eq⟩ Z
  | false=>
   obtain ⟨vs,s,_⟩:=z H1 ρ1 j (Ext.refl _ _) q ok;exact ⟨a,rfl,⟨vs,s⟩,k (xs,w) j H1 ρ1 _ (by simp only [U9,eq,Res.bind,e,bK B]) I q O ok (Uk B) (Qhq z) J⟩⟩
def Ze (lo:Int) (n:Nat):List PV:=(bS n).map fun (k:Nat)=>PV.int (lo + (k:Int))
theorem Qb6 {H:Hp} {ρ:Tk} {lo:Int} {n:Nat}:Src (Itr lo n) (Ze lo n) [] H ρ:=by
 have B:(Ze lo n).length=n:=by unfold Ze; rw [O2,F6]
 refine ⟨fun H2 q j x R ok=>?_,fun H2 q j x R ok i hi=>?_,fun H2 q j x R ok i p hp y G z=>?_⟩
 ·show n<=(Ze lo n).length;omega
 ·show i < n;omega
 ·obtain ⟨rfl,rfl⟩:=z;have hi:i < n:=by rw [<- B]; exact (O0.mp hp).1
  unfold Ze at hp;rw [E8,F8 hi] at hp;cases hp;exact ⟨Same.refl _,rfl⟩
def Zc (mr:Gam->Q2->Res (List PV)):MI:=fun Γ st=>(mr Γ st).bind fun ps st1=>match ps with
 | [.int j]=>if -(lim:Int)<=j/\j<=lim then .ok (Ze 0 j.toNat,[]) st1 else .stuck
 | _=>.stuck
def Q4n (mr:Gam->Q2->Res (List PV)):MI:=fun Γ st=>(mr Γ st).bind fun ps st1=>match ps with
 | [.int i,.int j]=>if -(lim:Int)<=i/\i<=lim/\-(lim:Int)<=j/\j<=lim then .ok (Ze i (j - i).toNat,[]) st1 else .stuck
 | _=>.stuck
variable {a b:aD} {mr:Gam->Q2->Res (List PV)} {p:Pos}
theorem Q86 (lo:Int) (n:Nat):(Ze lo n).length=n:=by unfold Ze; rw [O2,F6]
theorem Z9 (U:Gl X "range") (B:X.mg "range" = zl) (Y:SimA X E [a] mr) (hs:aP [a] X.env=[(za,aM a X.env)]:=by rfl):SimI X E tg (.Call (.Name "range" p) [a] [] pos) (Zc mr):=⟨fun Γ σ H ρ st P R' R G h k=>by
 refine WI.of (Qjj U B Q3m hs) (Y.use' R G h.bind fun ps q H1 ρ1 vs eq I z Z r1 h1=>?_)
 split at h1
 ·rename_i j
  split at h1
  ·rename_i J;obtain ⟨v,rfl,O⟩:=Yy r1;cases O;have hl:(lim:Int)=1000000:=rfl;refine ⟨j,rfl,by omega,by omega,k (Ze 0 j.toNat,[]) q H1 ρ1 _ (by simp only [Zc,eq,Res.bind,bK J]) I z Z (Q44 _) ?_ Qb6 (h1 H1 ρ1 (Ext.refl _ _) z)⟩;show (Ze 0 j.toNat).length<=sizeLine;rw [Q86];exact Uk (by omega)
  ·exact h1.elim
 ·exact h1.elim⟩
theorem Qj4 (Y:Gl X "range") (I:X.mg "range" = zl) (Z:SimA X E [a,b] mr) (hs:aP [a,b] X.env=[(za,aM a X.env),(za,aM b X.env)]:=by rfl) (z:aP [b] X.env=[(za,aM b X.env)]:=by rfl):SimI X E tg (.Call (.Name "range" p) [a,b] [] pos) (Q4n mr):=⟨fun Γ σ H ρ st P R' R G h k=>by
 refine WI.of (Qji Y I Q3m hs z) (Z.use' R G h.bind fun ps q H1 ρ1 vs eq J B G1 r1 h1=>?_)
 split at h1
 ·rename_i i j
  split at h1
  ·rename_i O;obtain ⟨v,u,rfl,U,ru⟩:=Q4b r1;cases U; cases ru;have hl:(lim:Int)=1000000:=rfl;refine ⟨i,j,rfl,⟨by omega,by omega,by omega,by omega⟩,k (Ze i (j - i).toNat,[]) q H1 ρ1 _ (by simp only [Q4n,eq,Res.bind,bK O]) J B G1 (Q44 _) ?_ Qb6 (h1 H1 ρ1 (Ext.refl _ _) B)⟩;show (Ze i (j - i).toNat).length<=sizeLine;rw [Q86];exact F2 (show (j - i).toNat<=2000000 by omega) (by decide)
  ·exact h1.elim
 ·exact h1.elim⟩
def Q7f:List PV->List PV->List PV
 | x :: xs,y :: ys=>.tup [x,y] :: Q7f xs ys
 | _,_=>[]
theorem Qc5 (xs ys:List PV):Q7f xs ys=(xs.zip ys).map fun z=>.tup [z.1,z.2]:=by
 induction xs generalizing ys with
 | nil=>rfl
 | cons x xs j=>
  cases ys with
  | nil=>rfl
  | cons y ys=>rw [Q7f,j]; rfl
theorem Q7e (xs ys:List PV):(Q7f xs ys).length=min xs.length ys.length:=by rw [Qc5,O2,dk]
theorem Qm0 {xs ys:List PV} {i:Nat} {p:PV} (h:(Q7f xs ys)[i]?=zo p):∃ x y,p=.tup [x,y]/\xs[i]?=zo x/\ys[i]?=zo y:=by
 rw [Qc5,E8] at h;cases e:(xs.zip ys)[i]? with
 | none=>rw [e] at h; cases h
 | some z=>
  rw [e] at h; cases h;rw [G9] at e;exact ⟨z.1,z.2,rfl,e.1,e.2⟩
def Q6w (mr:Gam->Q2->Res (List PV)):MI:=fun Γ st=>(mr Γ st).bind fun ps st1=>match ps with
 | [p,q]=>match Ws st1 p,Ws st1 q with
  | some (xs,w),zo (ys,w')=>if xs.length<=lim then .ok (Q7f xs ys,w ++ w') st1 else .stuck
  | _,_=>.stuck
 | _=>.stuck
theorem Q2d {w q:Wt} {st:Q2} (h:wOk (w ++ q) st):wOk w st/\wOk q st:=⟨fun x j=>h x (F9 _ j),fun x j=>h x (E6 _ j)⟩
theorem Qqi {K:bQ} {H:Hp} {ρ:Tk} {t1 t2:Bool} {a b:aA} {xs ys:List PV} {w J:Wt} (h:∀ H2 j z,Ext H ρ H2 j->Rel H2 j z->wOk w z->∃ vs,SqK K t1 H2 a vs/\RepL H2 j xs vs)
  (h':∀ H2 j z,Ext H ρ H2 j->Rel H2 j z->wOk J z->∃ vs,SqK K t2 H2 b vs/\RepL H2 j ys vs):Src (Itz K t1 t2 a b) (Q7f xs ys) (w ++ J) H ρ:=by
 refine ⟨fun H2 j z x R ok=>?_,fun H2 j z x R ok i hi=>?_,fun H2 j z x R ok i p hp y H3 O=>?_⟩
 ·obtain ⟨vs,s,r⟩:=h H2 j z x R (Q2d ok).1;obtain ⟨us,s',B⟩:=h' H2 j z x R (Q2d ok).2;refine ⟨vs,us,s,s',?_⟩;rw [Q7e,<- r.length,<- B.length];omega
 ·obtain ⟨vs,s,r⟩:=h H2 j z x R (Q2d ok).1;obtain ⟨us,s',B⟩:=h' H2 j z x R (Q2d ok).2;rw [Q7e,r.length,B.length] at hi;have h1:i < vs.length:=by omega
  have h2:i < us.length:=by omega
  exact ⟨vs,us,vs[i],us[i],s,s',O4 h1,O4 h2⟩
 ·obtain ⟨vs,s,r⟩:=h H2 j z x R (Q2d ok).1;obtain ⟨us,s',B⟩:=h' H2 j z x R (Q2d ok).2;obtain ⟨q,u,v,I,rfl,rfl,Y⟩:=O;obtain ⟨e1,e2⟩:=Y vs us s s';obtain ⟨Z,yp,rfl,U,p2⟩:=Qm0 hp;have G:Same H2 (upd H2 q (.tup [u,v])):=Qe1 I;exact ⟨G,q,[u,v],rfl,Jg,R.fresh I,RepL.cons ((r.i U e1).ext (Ext.same G)) (RepL.cons ((B.i p2 e2).ext (Ext.same G)) RepL.nil)⟩
theorem Q3a {elts:List aD} {kt:Nat} {tp:Pos} (hg:Gl X "zip") (hm:X.mg "zip" = zl) (ha:SimA X E [a,b] mr) (hs:aP [a,b] X.env=[(za,aM a X.env),(za,aM b X.env)]:=by rfl) (a6:aP [b] X.env=[(za,aM b X.env)]:=by rfl) :
  SimI X E (.Tuple elts kt tp) (.Call (.Name "zip" p) [a,b] [] pos) (Q6w mr):=⟨fun Γ σ H ρ st P R' R G h k=>by
 have hb:Acc X.mg E H ρ _ (mr Γ st):=Acc.bind h;have B:∀ t1 t2:Bool,(∀ p q j,mr Γ st=.ok [p,q] j->(t1=zb <-> ∃ ys,p=.tup ys)/\(t2=zb <-> ∃ ys,q=.tup ys))->WI X (.Tuple elts kt tp) (.Call (.Name "zip" p) [a,b] [] pos) σ H R':=fun t1 t2 ht=>by
  refine WI.of (Quv t1 t2 hg hm Q3m hs a6) (ha.use' R G hb fun ps j H1 ρ1 vs eq x1 I G1 r1 h1=>?_)
  split at h1
  ·rename_i p' q'
   split at h1
   ·rename_i xs w ys w' e1 e2
    split at h1
    ·rename_i hl;obtain ⟨v,u,rfl,rv,ru⟩:=Q4b r1;obtain ⟨Y,b1,a1,rfl,z1,a8,U⟩:=Q7q (K:=X.K) I rv e1;obtain ⟨O,b2,a2,rfl,z2,a4,Z⟩:=Q7q (K:=X.K) I ru e2;obtain ⟨g1,g2⟩:=ht _ _ _ eq;have a5:b1=t1:=by
      cases b1 with
      | true=>exact (g1.mpr (z1 rfl)).symm
      | false=>
       cases t1 with
       | false=>rfl
       | true=>obtain ⟨ys,e⟩:=g1.mp rfl; exact absurd e (a8 rfl ys)
     have a9:b2=t2:=by
      cases b2 with
      | true=>exact (g2.mpr (z2 rfl)).symm
      | false=>
       cases t2 with
       | false=>rfl
       | true=>obtain ⟨ys,e⟩:=g2.mp rfl; exact absurd e (a4 rfl ys)
     subst a5; subst a9;obtain ⟨a7,s1,_⟩:=U H1 ρ1 j (Ext.refl _ _) I Y;obtain ⟨a3,s2,_⟩:=Z H1 ρ1 j (Ext.refl _ _) I O;refine ⟨a1,a2,a7,a3,rfl,s1,s2,k (Q7f xs ys,w ++ w') j H1 ρ1 _ (by simp only [Q6w,eq,Res.bind,e1,e2,bK hl]) x1 I G1 (fun x J=>?_) ?_ (Qqi U Z) (h1 H1 ρ1 (Ext.refl _ _) I)⟩
     ·rcases E7.mp J with J | J
      ·exact Y x J
      ·exact O x J
     ·show (Q7f xs ys).length<=sizeLine;rw [Q7e];exact Uk (F2 (gJ _ _) hl)
    ·exact h1.elim
   ·exact h1.elim
  ·exact h1.elim
 have tt:∀ p:PV,∃ t:Bool,t=zb <-> ∃ ys,p=.tup ys:=fun p=>by
  cases p with
  | tup ys=>exact ⟨zb,fun _=>⟨ys,rfl⟩,fun _=>rfl⟩
  | _=>exact ⟨za,⟨fun z=>(by cases z),fun ⟨_,z⟩=>(by cases z)⟩⟩
 by_cases hz:∃ p q j,mr Γ st=.ok [p,q] j
 ·obtain ⟨p0,q0,b0,e0⟩:=hz;obtain ⟨t1,g1⟩:=tt p0;obtain ⟨t2,g2⟩:=tt q0;refine B t1 t2 fun p q j e=>?_
  rw [e0] at e; cases e;exact ⟨g1,g2⟩
 ·exact B zb zb fun p q j e=>absurd ⟨p,q,j,e⟩ hz⟩
def zc:Nat->List PV->List PV
 | _,[]=>[]
 | n,x :: xs=>.tup [.int n,x] :: zc (n + 1) xs
theorem Q2n:∀ (n:Nat) (xs:List PV),(zc n xs).length=xs.length
 | _,[]=>rfl
 | n,x :: xs=>by rw [zc,D4,Q2n (n + 1) xs,D4]
theorem Qbs:∀ {n:Nat} {xs:List PV} {i:Nat} {p:PV},(zc n xs)[i]?=zo p->∃ x,p=.tup [.int (n + i:Nat),x]/\xs[i]?=zo x
 | n,[],i,p,h=>by simp [zc] at h
 | n,x :: xs,0,p,h=>by
  simp [zc] at h;exact ⟨x,h.symm,rfl⟩
 | n,x :: xs,i + 1,p,h=>by
  rw [zc,fD] at h;obtain ⟨y,e1,e2⟩:=Qbs h;exact ⟨y,by rw [e1,show n + 1 + i=n + (i + 1) by omega],by simpa using e2⟩
def Qi9 (mr:Gam->Q2->Res (List PV)):MI:=fun Γ st=>(mr Γ st).bind fun ps st1=>match ps with
 | [p]=>match Ws st1 p with
  | some (xs,w)=>if xs.length<=lim then .ok (zc 0 xs,w) st1 else .stuck
  | none=>.stuck
 | _=>.stuck
theorem Qmd {K:bQ} {H:Hp} {ρ:Tk} {t:Bool} {a:aA} {xs:List PV} {w:Wt} (h:∀ H2 j z,Ext H ρ H2 j->Rel H2 j z->wOk w z->∃ vs,SqK K t H2 a vs/\RepL H2 j xs vs):Src (Ite K t a) (zc 0 xs) w H ρ:=by
 refine ⟨fun H2 j z x R ok=>?_,fun H2 j z x R ok i hi=>?_,fun H2 j z x R ok i p hp y Y I=>?_⟩
 ·obtain ⟨vs,s,r⟩:=h H2 j z x R ok;exact ⟨vs,s,by rw [Q2n,r.length]; exact O7 _⟩
 ·obtain ⟨vs,s,r⟩:=h H2 j z x R ok;rw [Q2n,r.length] at hi;exact ⟨vs,vs[i],s,O4 hi⟩
 ·obtain ⟨vs,s,r⟩:=h H2 j z x R ok;obtain ⟨q,u,B,rfl,rfl,O⟩:=I;have e1:=O vs s;obtain ⟨U,rfl,J⟩:=Qbs hp;have G:Same H2 (upd H2 q (.tup [.int i,u])):=Qe1 B;exact ⟨G,q,[.int i,u],rfl,Jg,R.fresh B,RepL.cons (by rw [Nat.zero_add]; rfl) (RepL.cons ((r.i J e1).ext (Ext.same G)) RepL.nil)⟩
theorem Qqm {elts:List aD} {kt:Nat} {tp:Pos} (hg:Gl X "enumerate") (hm:X.mg "enumerate" = zl) (ha:SimA X E [a] mr) (hs:aP [a] X.env=[(za,aM a X.env)]:=by rfl) :
  SimI X E (.Tuple elts kt tp) (.Call (.Name "enumerate" p) [a] [] pos) (Qi9 mr):=⟨fun Γ σ H ρ st P R' R G h k=>by
 have hb:Acc X.mg E H ρ _ (mr Γ st):=Acc.bind h;have q:∀ t1:Bool,(∀ p j,mr Γ st=.ok [p] j->(t1=zb <-> ∃ ys,p=.tup ys))->WI X (.Tuple elts kt tp) (.Call (.Name "enumerate" p) [a] [] pos) σ H R':=fun t1 ht=>by
  refine WI.of (Qra t1 hg hm Q3m hs) (ha.use' R G hb fun ps j H1 ρ1 vs eq x1 O G1 r1 h1=>?_)
  split at h1
  ·rename_i p'
   split at h1
   ·rename_i xs w e1
    split at h1
    ·rename_i hl;obtain ⟨v,rfl,rv⟩:=Yy r1;obtain ⟨I,b1,a1,rfl,z1,Z,B⟩:=Q7q (K:=X.K) O rv e1;have J:=ht _ _ eq;have U:b1=t1:=by
      cases b1 with
      | true=>exact (J.mpr (z1 rfl)).symm
      | false=>
       cases t1 with
       | false=>rfl
       | true=>obtain ⟨ys,e⟩:=J.mp rfl; exact absurd e (Z rfl ys)
     subst U;obtain ⟨Y,s1,_⟩:=B H1 ρ1 j (Ext.refl _ _) O I;refine ⟨a1,Y,rfl,s1,k (zc 0 xs,w) j H1 ρ1 _ (by simp only [Qi9,eq,Res.bind,e1,bK hl]) x1 O G1 I ?_ (Qmd B) (h1 H1 ρ1 (Ext.refl _ _) O)⟩;show (zc 0 xs).length<=sizeLine;rw [Q2n];exact Uk hl
    ·exact h1.elim
   ·exact h1.elim
  ·exact h1.elim
 have tt:∀ p:PV,∃ t:Bool,t=zb <-> ∃ ys,p=.tup ys:=fun p=>by
  cases p with
  | tup ys=>exact ⟨zb,fun _=>⟨ys,rfl⟩,fun _=>rfl⟩
  | _=>exact ⟨za,⟨fun z=>(by cases z),fun ⟨_,z⟩=>(by cases z)⟩⟩
 by_cases hz:∃ p j,mr Γ st=.ok [p] j
 ·obtain ⟨p0,a2,e0⟩:=hz;obtain ⟨t1,J⟩:=tt p0;refine q t1 fun p j e=>?_
  rw [e0] at e; cases e;exact J
 ·exact q zb fun p j e=>absurd ⟨p,j,e⟩ hz⟩
end
section
abbrev ML:=Gam->Q2->Res (List PV)
structure SimN (X:Cx) (E:XK) (e:aD) (m:ML):Prop where
 run:∀ (Γ:Gam) (σ:St) (H:Hp) (ρ:Tk) (st:Q2) (P:List PV->Q2->Hp->Tk->Prop) (Q:VK),Rel H ρ st->EnvR H ρ Γ σ->Acc X.mg E H ρ P (m Γ st) ->
  (∀ ps st1 H1 ρ1 a vs,m Γ st=.ok ps st1->Ext H ρ H1 ρ1->Rel H1 ρ1 st1->a∈ρ1.hid->H a=zl->H1 a=zo (.lst vs)->RepL H1 ρ1 ps vs->Q (.ref a) H1)->WE X e σ H Q
def W6 (m:ML):ME:=fun Γ st=>(m Γ st).bind fun ps st1=>.ok (.lst ps) st1
def Q0r (m:ML):ME:=fun Γ st=>(m Γ st).bind fun ps st1=>.ok (.ref st1.length) (st1 ++ [.lst ps])
section
variable {H0 H:Hp} {ρ0 ρ:Tk} {st:Q2} {a:aA} {ps:List PV} {vs:List V}
theorem Qi0 (I:Rel H0 ρ0 st) (x:Ext H0 ρ0 H ρ) {j:Q2} (R:Rel H ρ j) (q:a∈ρ.hid) (G:H0 a=zl) (B:H a=zo (.lst vs)) (r:RepL H ρ ps vs) :
  Ext H0 ρ0 H ⟨ρ.tr,ρ0.hid⟩/\Rel H ⟨ρ.tr,ρ0.hid⟩ j/\Rep H ⟨ρ.tr,ρ0.hid⟩ (.lst ps) (.ref a):=
 ⟨x.unhide,R.unhide x.hidM,a,vs,rfl,B,(fun z=>by
  rcases z with z | z
  ·exact R.ap a q z
  ·obtain ⟨o,e,_⟩:=I.hd a z;rw [G] at e; cases e),r.unhide x.hidM⟩
mutual
theorem Rep.trk {b:aA} {hs:List aA} (j:b∈ρ.hid) (q:∀ c,c∈hs->c∈ρ.hid):∀ {p:PV} {v:V},Rep H ρ p v->Rep H ⟨ρ.tr ++ [b],hs⟩ p v
 | .non,_,r=>r
 | .bl _,_,r=>r
 | .int _,_,r=>r
 | .str _,_,r=>r
 | .tup ps,v,⟨c,vs,e,s,n,r⟩=>⟨c,vs,e,s,fun z=>by
   rcases z with z | z
   ·rcases E7.mp z with z | z
    ·exact n (.inl z)
    ·have:c=b:=by simpa using z
     subst this; exact n (.inr j)
   ·exact n (.inr (q _ z)),RepL.trk j q r⟩
 | .lst ps,v,⟨c,vs,e,s,n,r⟩=>⟨c,vs,e,s,fun z=>by
   rcases z with z | z
   ·rcases E7.mp z with z | z
    ·exact n (.inl z)
    ·have:c=b:=by simpa using z
     subst this; exact n (.inr j)
   ·exact n (.inr (q _ z)),RepL.trk j q r⟩
 | .fro ps,v,⟨c,vs,e,s,n,r⟩=>⟨c,vs,e,s,fun z=>by
   rcases z with z | z
   ·rcases E7.mp z with z | z
    ·exact n (.inl z)
    ·have:c=b:=by simpa using z
     subst this; exact n (.inr j)
   ·exact n (.inr (q _ z)),RepL.trk j q r⟩
 | .ref i,v,⟨c,e,e2⟩=>⟨c,by show (ρ.tr ++ [b])[i]?=zo c; rw [O5 (O0.mp e).1]; exact e,e2⟩
 | .dic,v,⟨c,e,s,n⟩=>⟨c,e,s,fun z=>by
   rcases z with z | z
   ·rcases E7.mp z with z | z
    ·exact n (.inl z)
    ·have:c=b:=by simpa using z
     subst this; exact n (.inr j)
   ·exact n (.inr (q _ z))⟩
theorem RepL.trk {b:aA} {hs:List aA} (j:b∈ρ.hid) (q:∀ c,c∈hs->c∈ρ.hid):∀ {ps:List PV} {vs:List V},RepL H ρ ps vs->RepL H ⟨ρ.tr ++ [b],hs⟩ ps vs
 | [],_,r=>r
 | p :: ps,_,⟨v,t,e,r1,r2⟩=>⟨v,t,e,Rep.trk j q r1,RepL.trk j q r2⟩
end
theorem Qrn (R0:Rel H0 ρ0 st) (x:Ext H0 ρ0 H ρ) {j:Q2} (R:Rel H ρ j) (G:a∈ρ.hid) (U:H0 a=zl) (Z:H a=zo (.lst vs)) (r:RepL H ρ ps vs) :
  Ext H0 ρ0 H ⟨ρ.tr ++ [a],ρ0.hid⟩/\Rel H ⟨ρ.tr ++ [a],ρ0.hid⟩ (j ++ [.lst ps])/\Rep H ⟨ρ.tr ++ [a],ρ0.hid⟩ (.ref j.length) (.ref a):=by
 have J:a∉ρ0.hid:=fun z=>by
  obtain ⟨o,e,_⟩:=R0.hd a z;rw [U] at e; cases e
 refine ⟨⟨x.pre.trans (dI _ _),fun _ h=>h,fun _ h=>.inl h,x.keep,fun b B=>?_,x.old,x.frz⟩,⟨?_,?_,fun b B=>R.hd b (x.hidM b B),fun b B z=>?_,fun i b c h1 h2=>?_⟩,a,?_,rfl⟩
 ·rcases E7.mp B with z | z
  ·exact x.new b z
  ·have:b=a:=by simpa using z
   subst this; exact .inr U
 ·show (ρ.tr ++ [a]).length=_;rw [D0,D0,R.len]; rfl
 ·show (ρ.tr ++ [a]).Nodup;refine cz.mpr ⟨R.nd,by simp,fun b B c Y e=>?_⟩;have:c=a:=by simpa using Y
  subst this; subst e;exact R.ap b G B
 ·rcases E7.mp z with z | z
  ·exact R.ap b (x.hidM b B) z
  ·have:b=a:=by simpa using z
   subst this; exact J B
 ·have h1:(ρ.tr ++ [a])[i]?=zo b:=h1
  by_cases hi:i < j.length
  ·rw [O5 (by rw [R.len]; exact hi)] at h1;rw [O5 hi] at h2;have q:=R.cell i b c h1 h2;cases c with
   | lst I=>
    obtain ⟨us,e1,e2⟩:=q;exact ⟨us,e1,e2.trk G x.hidM⟩
   | dic I=>
    obtain ⟨us,e1,e2⟩:=q;exact ⟨us,e1,e2.1,e2.2.trk G x.hidM⟩
   | dtp I=>
    obtain ⟨us,e1,e2⟩:=q;exact ⟨us,e1,e2.1,e2.2.trk G x.hidM⟩
   | frd I=>
    obtain ⟨us,e1,e2⟩:=q;exact ⟨us,e1,e2.1,e2.2.trk G x.hidM⟩
   | obj C I=>
    obtain ⟨us,e1,e2⟩:=q;exact ⟨us,e1,e2.1,e2.2.trk G x.hidM⟩
  ·rw [D3 (by rw [R.len]; omega)] at h1;rw [D3 (by omega)] at h2;have O:i - j.length=0:=by
    rcases fA (i - j.length) with z | z
    ·exact z
    ·rw [F3 (by simp; omega)] at h2; cases h2
   rw [R.len,O] at h1;rw [O] at h2;simp at h1 h2;subst h1; subst h2;exact ⟨vs,Z,r.trk G x.hidM⟩
 ·show (ρ.tr ++ [a])[j.length]?=zo a;rw [<- R.len,D3 (O7 _),dL]; rfl
end
section
variable {X:Cx} {E:XK} {pos:Pos} {e:aD} {m:ML}
theorem Zj (h:SimN X E e m):SimE X E e (W6 m):=⟨fun Γ σ H ρ st Q R G j=>h.run Γ σ H ρ st _ Q R G j.bind fun ps O H1 ρ1 a vs eq x q z J B r=>by
 obtain ⟨I,R2,r2⟩:=Qi0 R x q z J B r;unfold W6 at j;rw [eq] at j;exact j _ _ I R2 _ r2⟩
theorem X9 (h:SimN X E e m):SimE X E e (Q0r m):=⟨fun Γ σ H ρ st Q R G j=>h.run Γ σ H ρ st _ Q R G j.bind fun ps O H1 ρ1 a vs eq x q z J B r=>by
 obtain ⟨I,R2,r2⟩:=Qrn R x q z J B r;unfold Q0r at j;rw [eq] at j;exact j _ _ I R2 _ r2⟩
variable {es:List aD} {mr:Gam->Q2->Res (List PV)} {a b:aD} {ma mb:ME}
theorem Qvk {H1:Hp} {ρ1:Tk} {j:Q2} {H:Hp} {ρ:Tk} {Q:VK} {ps:List PV} {vs:List V} (x:Ext H ρ H1 ρ1) (z:Rel H1 ρ1 j) (r:RepL H1 ρ1 ps vs)
  (k:∀ H1 ρ1 a vs,Ext H ρ H1 ρ1->Rel H1 ρ1 j->a∈ρ1.hid->H a=zl->H1 a=zo (.lst vs)->RepL H1 ρ1 ps vs->Q (.ref a) H1):∀ p,H1 p=zl->Q (.ref p) (upd H1 p (.lst vs)):=fun p hp=>by
 refine k _ (ρ1.hide p) p vs (x.trans (Ext.hide hp)) (z.hide hp) D1 ?_ Jg (r.hide hp);cases e:H p with
 | none=>rfl
 | some o=>
  obtain ⟨o',q⟩:=x.old p o e;rw [hp] at q; cases q
def jc (mr:Gam->Q2->Res (List PV)):ML:=fun Γ st=>(mr Γ st).bind fun ps st1=>if ps.length<=lim then .ok ps st1 else .stuck
theorem zi (h:SimA X E es mr):SimN X E (.List es pos) (jc mr):=
 ⟨fun Γ σ H ρ st P Q R G I k=>WE.of (Qn4 Q3m) (h.use' R G I.bind fun ps q H1 ρ1 vs eq J B O r1 h1=>by
  by_cases z:ps.length<=lim
  ·refine ⟨by rw [<- r1.length]; exact Uk z,Qvk J B r1 fun H2 j a us=>k ps q H2 j a us ?_⟩;unfold jc;rw [eq];exact bK z
  ·rw [bL z] at h1; exact h1.elim)⟩
end
end
def Jy (cap:List (Option Nat)) (Γ:Gam):Gam:=cap.map fun c=>c.bind fun j=>(Γ[j]?).join
theorem EnvR.cap {H:Hp} {ρ:Tk} {Γ:Gam} {σ:St} (h:EnvR H ρ Γ σ) (cap:List (Option Nat)):EnvR H ρ (Jy cap Γ) (Q4u cap σ):=by
 refine ⟨by unfold Jy Q4u; rw [O2,O2],fun i p e=>?_⟩;unfold Jy at e;unfold Q4u;rw [E8] at e ⊢;cases q:cap[i]? with
 | none=>rw [q] at e; cases e
 | some c=>
  rw [q] at e;cases c with
  | none=>cases e
  | some j=>
   have z:(Γ[j]?).join=zo p:=ba e;cases r:Γ[j]? with
   | none=>rw [r] at z; cases z
   | some o=>
    rw [r] at z;have:o=zo p:=z;subst this;obtain ⟨v,e1,e2⟩:=h.2 j p r;exact ⟨v,by show zo ((σ[j]?).join)=zo (zo v); rw [e1]; rfl,e2⟩
def Qc4 (cap:List (Option Nat)) (ga:GA):Prop:=∀ Γ p Γ1,ga p (Jy cap Γ)=zo Γ1->Γ1.length=(Jy cap Γ).length/\∀ (i:Nat) (q:PV),(Jy cap Γ)[i]?=zo (zo q)->Γ1[i]?=zo (zo q)
theorem Qbx {cap:List (Option Nat)} {i:Nat} (h:cap[i]?=zo zl) (Γ:Gam):(Jy cap Γ)[i]?=zo zl:=by
 unfold Jy;rw [E8,h]; rfl
theorem J7 {cap:List (Option Nat)} {i:Nat} (h:cap[i]?=zo zl:=by rfl):Qc4 cap (Qk i):=fun Γ p Γ1 e=>by
 cases e;refine ⟨D7 ..,fun j q B=>?_⟩;rw [O6 fun z=>?_]
 ·exact B
 ·subst z; rw [Qbx h] at B; cases B
def Qiy (cap:List (Option Nat)) (ga:GAs):Prop:=∀ Γ ps Γ0 Γ1,(∀ (i:Nat) (q:PV),(Jy cap Γ)[i]?=zo (zo q)->Γ0[i]?=zo (zo q))->ga ps Γ0=zo Γ1->Γ1.length=Γ0.length/\∀ (i:Nat) (q:PV),(Jy cap Γ)[i]?=zo (zo q)->Γ1[i]?=zo (zo q)
theorem jf {cap:List (Option Nat)}:Qiy cap Vn:=fun Γ ps Γ0 Γ1 h e=>by
 cases ps with
 | nil=>cases e; exact ⟨rfl,h⟩
 | cons _ _=>cases e
theorem Zz {cap:List (Option Nat)} {i:Nat} {gs:GAs} (hs:Qiy cap gs) (h:cap[i]?=zo zl:=by rfl):Qiy cap (Jx (Qk i) gs):=fun Γ ps Γ0 Γ1 h0 e=>by
 cases ps with
 | nil=>cases e
 | cons p ps=>
  obtain ⟨a,b⟩:=hs Γ ps (Γ0.set i (zo p)) Γ1 (fun k r j=>by
   rw [O6 fun z=>?_]
   ·exact h0 k r j
   ·subst z; rw [Qbx h] at j; cases j) e
  exact ⟨by rw [a,D7],b⟩
theorem je {cap:List (Option Nat)} {gs:GAs} (hs:Qiy cap gs):Qc4 cap (Vm gs):=fun Γ p Γ1 e=>by
 cases p with
 | tup ps=>exact hs Γ ps _ Γ1 (fun _ _ h=>h) e
 | _=>cases e
open Classical in
def Jn (ga:GA) (mt:MT) (me:ME) (w:Wt) (Γ0:Gam):List PV->Q2->Res (List PV)
 | [],st=>if wOk w st then .ok [] st else .stuck
 | x :: xs,st=>if wOk w st then (match ga x Γ0 with
  | none=>.stuck
  | some Γ1=>(mt Γ1 st).bind fun b st1=>if b=zb then (me Γ1 st1).bind fun y st2=>(Jn ga mt me w Γ0 xs st2).bind fun ys st3=>.ok (y :: ys) st3 else Jn ga mt me w Γ0 xs st1) else .stuck
def noX {α:Type}:Res α->Res α
 | .exc _ _=>.stuck
 | r=>r
def Jt (cap:List (Option Nat)) (ga:GA) (mi:MI) (mt:MT) (me:ME):ML:=fun Γ st=>(mi Γ st).bind fun iw st1=>noX (Jn ga mt me iw.2 (Jy cap Γ) iw.1 st1)
structure SimTs (X:Cx) (ifs:List aD) (m:MT):Prop where
 run:∀ (Γ:Gam) (σ:St) (H:Hp) (ρ:Tk) (st:Q2) (P:Bool->Q2->Hp->Tk->Prop) (Q:Bool->Hp->Prop),Rel H ρ st->EnvR H ρ Γ σ->Acc X.mg E0 H ρ P (m Γ st) ->
  (∀ b st1 H1 ρ1,m Γ st=.ok b st1->Ext H ρ H1 ρ1->Rel H1 ρ1 st1->EnvR H1 ρ1 Γ σ->Q b H1)->∃ t,PTs X ifs t/\t σ H Q
def Je:MT:=fun _ st=>.ok zb st
theorem Z1 {X:Cx}:SimTs X [] Je:=⟨fun Γ σ H ρ st P Q R G h k=>⟨_,Qr2,k zb st H ρ rfl (Ext.refl _ _) R G⟩⟩
theorem Kj {X:Cx} {c:aD} {m:MT} (z:SimT X E0 c m):SimTs X [c] m:=⟨fun Γ σ H ρ st P Q R G h k=>⟨_,Qr1 Qe7,z.use' R G h fun b j H1 ρ1 e B q I p=>k b j H1 ρ1 e B q I⟩⟩
theorem Qt0 {α:Type} {mg:Str->Option aB} {E E':XK} {H:Hp} {ρ:Tk} {P:α->Q2->Hp->Tk->Prop} {r:Res α} (h:Acc mg E H ρ P (noX r)):Acc mg E' H ρ P r:=by
 cases r with
 | ok a st=>exact h
 | exc x st=>exact h.elim
 | stuck=>exact h
theorem Res.assoc {α β j:Type} (r:Res α) (f:α->Q2->Res β) (g:β->Q2->Res j):(r.bind f).bind g=r.bind fun a st=>(f a st).bind g:=by cases r <;> rfl
theorem Acc.assoc {α β j:Type} {mg:Str->Option aB} {E:XK} {H:Hp} {ρ:Tk} {P:j->Q2->Hp->Tk->Prop} {r:Res α} {f:α->Q2->Res β} {g:β->Q2->Res j} (h:Acc mg E H ρ P ((r.bind f).bind g)):Acc mg E H ρ P (r.bind fun a st=>(f a st).bind g):=by
 rw [<- Res.assoc]; exact h
theorem EnvR.le {H:Hp} {ρ:Tk} {Γ j:Gam} {σ:St} (h:EnvR H ρ j σ) (z:Γ.length=σ.length) (k:∀ (i:Nat) (q:PV),Γ[i]?=zo (zo q)->j[i]?=zo (zo q)):EnvR H ρ Γ σ:=⟨z,fun i p e=>h.2 i p (k i p e)⟩
section
variable {X:Cx} {E:XK} {pos:Pos} {tg iter elt:aD} {ifs:List aD} {N N':List Str} {sc scE:Scope} {cap:List (Option Nat)} {ga:GA} {mi:MI} {mt:MT} {me:ME}
def aE (X:Cx) (N':List Str) (sc:Scope) (e:aD):TE:=fun σ H Q=>∀ cl C s0 H0 ex,WE (U7 X N' sc cl C s0 H0 ex) e σ H Q
def aG (X:Cx) (N':List Str) (sc:Scope) (tg:aD):TG:=fun v σ H Q=>∀ cl C s0 H0 ex,WGx (U7 X N' sc cl C s0 H0 ex) tg v σ H Q
def aT (X:Cx) (N':List Str) (sc:Scope) (ifs:List aD):TT:=fun σ H Q=>∀ cl C s0 H0 ex,∃ t,PTs (U7 X N' sc cl C s0 H0 ex) ifs t/\t σ H Q
theorem Qkh {Γ:Gam} {σ:St} {H1:Hp} {ρ1:Tk} {O:Q2} {J:It} {j:List PV} {w:Wt} {Q:VK} {P:List PV->Q2->Hp->Tk->Prop} (hg:∀ cl C s0 H0 ex,SimG (U7 X N' sc cl C s0 H0 ex) tg ga) (he:∀ cl C s0 H0 ex,SimE (U7 X N' sc cl C s0 H0 ex) E0 elt me) (ht:∀ cl C s0 H0 ex,SimTs (U7 X N' sc cl C s0 H0 ex) ifs mt)
  (hf:Qc4 cap ga) (R1:Rel H1 ρ1 O) (G1:EnvR H1 ρ1 Γ σ) (src:Src J j w H1 ρ1) (c3:j.length<=sizeLine) (h:Acc X.mg E0 H1 ρ1 P (Jn ga mt me w (Jy cap Γ) j O))
  (k:∀ ys b5 H2 a5 q vs,Jn ga mt me w (Jy cap Γ) j O=.ok ys b5->Ext H1 ρ1 H2 a5->Rel H2 a5 b5->q∈a5.hid->H1 q=zl->H2 q=zo (.lst vs)->RepL H2 a5 ys vs->Q (.ref q) H2):Qbu J cap (aG X N' sc tg) (aT X N' sc ifs) (aE X N' sc elt) σ H1 Q:=by
 intro q G;let W:Nat->Nat->List V->St->Hp->Prop:=fun i m vs a7 H'=>m=j.length - i/\i<=j.length/\vs.length<=i/\∃ ρ' st' ys,Ext H1 ρ1 H' ρ'/\q∈ρ'.hid/\Rel H' ρ' st'/\EnvR H' ρ' (Jy cap Γ) a7/\H' q=zo (.lst vs)/\RepL H' ρ' ys vs /\
  Jn ga mt me w (Jy cap Γ) j O=(Jn ga mt me w (Jy cap Γ) (j.drop i) st').bind fun zs Y=>.ok (ys ++ zs) Y
 refine ⟨W,⟨_,rfl,bv _,O7 _,ρ1.hide q,O,[],Ext.hide G,D1,R1.hide G,(G1.cap cap).hide G,Jg,rfl,?_⟩,?_⟩
 ·rw [dj];cases r:Jn ga mt me w (Jy cap Γ) j O with
  | ok zs Y=>rfl
  | exc x Y=>rfl
  | stuck=>rfl
 rintro i m vs a7 H' ⟨hm,hi,c4,ρ',st',ys,x,a2,R',G',ha,ry,I⟩;have B:Acc X.mg E0 H1 ρ1 P ((Jn ga mt me w (Jy cap Γ) (j.drop i) st').bind fun zs Y=>.ok (ys ++ zs) Y):=by rw [<- I]; exact h
 refine ⟨ha,?_⟩
 by_cases Z:i < j.length
 ·right
  have hd:j.drop i=j[i] :: j.drop (i + 1):=gK Z;rw [hd,Jn] at B I
  by_cases hw:wOk w st'
  ·rw [bK hw] at B I;refine ⟨src.go H' _ st' x R' hw i Z,by omega,fun y H2 hy=>?_⟩;obtain ⟨sm,b8⟩:=src.yld H' _ st' x R' hw i _ (O4 Z) y H2 hy;cases eg:ga j[i] (Jy cap Γ) with
   | none=>rw [eg] at B; exact B.elim
   | some Γ1=>
    rw [eg] at B I;have x2:Ext H' ρ' H2 ρ':=Ext.same sm;have R2:=R'.same sm;intro cl C s0 H0 ex;refine (hg cl C s0 H0 ex).run (Jy cap Γ) Γ1 a7 H2 ρ' _ y _ (G'.ext x2) b8 eg fun b1 G3=>?_
    intro cl C s0 H0 ex;have b9:=Acc.later B (x.trans x2);refine (ht cl C s0 H0 ex).run Γ1 b1 H2 ρ' st' _ _ R2 G3 (Acc.bind (Acc.assoc b9)) fun b c1 H4 a3 e4 x4 R4 G4=>?_
    simp only [e4,Res.bind] at B I;have G0:∀ {a8:Hp} {U:Tk},EnvR a8 U Γ1 b1->EnvR a8 U (Jy cap Γ) b1:=fun {a8 U} g=>g.le (by
     rw [<- G3.1];exact (hf Γ _ Γ1 eg).1.symm) (hf Γ _ Γ1 eg).2
    have b2:Ext H1 ρ1 H4 a3:=x.trans (x2.trans x4);have a6:q∈a3.hid:=x4.hidM q a2;have na:q∉ρ'.tr:=R'.ap q a2;have b3:H4 q=zo (.lst vs):=x4.keep q _ (sm q _ ha) na;have b4:RepL H4 a3 ys vs:=ry.ext (x2.trans x4);cases b with
    | false=>
     rw [bL D8] at B I ⊢;exact ⟨_,show j.length - (i + 1) < m by omega,rfl,Z,by omega,a3,c1,ys,b2,a6,R4,G0 G4,b3,b4,I⟩
    | true=>
     rw [bK rfl] at B I ⊢;intro cl C s0 H0 ex;have c0:=Acc.later B b2;refine (he cl C s0 H0 ex).use' R4 G4 (Acc.bind (Acc.assoc c0)) fun z b6 H5 a9 zv e5 x5 R5 G5 r5 h5=>?_
     simp only [e5,Res.bind] at B I;have a4:q∈a9.hid:=x5.hidM q a6;have c2:H5 q=zo (.lst vs):=x5.keep q _ b3 (R4.ap q a6);have b7:Ext H1 ρ1 H5 a9:=b2.trans x5;refine ⟨c2,_,show j.length - (i + 1) < m by omega,rfl,Z,by rw [D0]; simp; omega,a9,b6,ys ++ [z],b7.put0 G,a4,R5.rehide a4,(G0 G5).rehide a4,Jg,((b4.ext x5).append (RepL.cons r5 RepL.nil)).rehide a4,?_⟩;refine I.trans ?_;cases rr:Jn ga mt me w (Jy cap Γ) (j.drop (i + 1)) b6 with
     | ok zs b0=>
      show Res.ok (ys ++ z :: zs) b0=Res.ok ((ys ++ [z]) ++ zs) b0;rw [cC]; rfl
     | exc x6 b0=>rfl
     | stuck=>rfl
  ·rw [bL hw] at B; exact B.elim
 ·left
  have ei:i=j.length:=by omega
  subst ei;rw [fE,Jn] at B I
  by_cases hw:wOk w st'
  ·rw [bK hw] at B I;refine ⟨src.stop H' _ st' x R' hw,?_⟩;have I:Jn ga mt me w (Jy cap Γ) j O=.ok (ys ++ []) st':=I;rw [L5] at I;exact k ys st' H' ρ' q vs I x R' a2 G ha ry
  ·rw [bL hw] at B; exact B.elim
theorem Qfj {Γ:Gam} {σ:St} {H:Hp} {ρ:Tk} {st:Q2} {Q:VK} {P:List PV->Q2->Hp->Tk->Prop} (hi:SimI X E tg iter mi) (hg:∀ cl C s0 H0 ex,SimG (U7 X N' sc cl C s0 H0 ex) tg ga) (he:∀ cl C s0 H0 ex,SimE (U7 X N' sc cl C s0 H0 ex) E0 elt me) (U:∀ cl C s0 H0 ex,SimTs (U7 X N' sc cl C s0 H0 ex) ifs mt)
  (hf:Qc4 cap ga) (R:Rel H ρ st) (G:EnvR H ρ Γ σ) (h:Acc X.mg E H ρ P (Jt cap ga mi mt me Γ st)) (k:∀ ps q H2 j a vs,Jt cap ga mi mt me Γ st=.ok ps q->Ext H ρ H2 j->Rel H2 j q->a∈j.hid->H a=zl->H2 a=zo (.lst vs)->RepL H2 j ps vs->Q (.ref a) H2):Qc8 cap (WI X tg iter) (aG X N' sc tg) (aT X N' sc ifs) (aE X N' sc elt) σ H Q:=by
 refine hi.run Γ σ H ρ st _ _ R G h.bind fun iw a2 H1 ρ1 J eq O R1 Y ok hl src h1=>?_
 refine Qkh hg he U hf R1 Y src hl (Qt0 (E':=E0) h1) fun ys q H2 j z vs B x2 R2 hm hn ha Z=>?_
 refine k ys q H2 j z vs ?_ (O.trans x2) R2 hm ?_ ha Z
 ·unfold Jt;rw [eq];show noX _=_;rw [B]; rfl
 cases e:H z with
 | none=>rfl
 | some o=>
  obtain ⟨o',I⟩:=O.old z o e;rw [hn] at I; cases I
theorem Qy2 {N':List Str} {sc:Scope} {tg:aD}:∀ cl C s0 H0 ex,PG (U7 X N' sc cl C s0 H0 ex) tg (aG X N' sc tg):=fun cl C s0 H0 ex pins s σ H v u Q I r h=>Qrc pins s σ H v u Q I r (h cl C s0 H0 ex)
theorem Qy9 {N':List Str} {sc:Scope} {e:aD}:∀ cl C s0 H0 ex,PE (U7 X N' sc cl C s0 H0 ex) e (aE X N' sc e):=fun cl C s0 H0 ex pins s σ H Q I h=>h cl C s0 H0 ex pins s I
theorem Qt9 {N':List Str} {sc:Scope} {ifs:List aD}:∀ cl C s0 H0 ex,PTs (U7 X N' sc cl C s0 H0 ex) ifs (aT X N' sc ifs):=fun cl C s0 H0 ex pins s σ H Q I h=>by
 obtain ⟨t,a,b⟩:=h cl C s0 H0 ex;exact a pins s σ H Q I b
theorem Jv (cap:List (Option Nat)) (N':List Str) (j:X.calm=zb) (hi:SimI X E tg iter mi) (J:∀ cl C s0 H0 ex,SimG (U7 X N' sc cl C s0 H0 ex) tg ga) (O:∀ cl C s0 H0 ex,SimE (U7 X N' sc cl C s0 H0 ex) E0 elt me) (B:∀ cl C s0 H0 ex,SimTs (U7 X N' sc cl C s0 H0 ex) ifs mt)
  (I:Qc4 cap ga) (U:X.N=N:=by rfl) (z:X.env.scope=scE:=by rfl) (q:compOkC N N' sc scE cap=zb:=by kernel_rfl) (hs:∀ x,az iter X.env x=pure x:=by intro _; rfl) :
  SimN X E (.ListComp elt [⟨tg,iter,ifs,0⟩] sc pos) (Jt cap ga mi mt me):=
 ⟨fun Γ σ H ρ st P Q R G h k=>WE.of (Qn5 j Quw Qy2 Qy9 Qt9 U z q hs) (Qfj hi J O B I R G h k)⟩
end
inductive SR where
 | nx (Γ:Gam) (st:Q2) | rt (v:PV) (st:Q2) | bk (Γ:Gam) (st:Q2) | ct (Γ:Gam) (st:Q2) | exc (x:Exc) (st:Q2) | stuck
abbrev MS:=Gam->Q2->SR
def Res.sbind {α:Type} (r:Res α) (f:α->Q2->SR):SR:=match r with
 | .ok a st=>f a st
 | .exc x st=>.exc x st
 | .stuck=>.stuck
def AccS (mg:Str->Option aB) (E:XK) (D:Ends) (H:Hp) (ρ:Tk):SR->Prop
 | .nx Γ st=>∀ σ' H' ρ',Ext H ρ H' ρ'->Rel H' ρ' st->EnvR H' ρ' Γ σ'->D.nx σ' H'
 | .bk Γ st=>∀ σ' H' ρ',Ext H ρ H' ρ'->Rel H' ρ' st->EnvR H' ρ' Γ σ'->D.bk σ' H'
 | .ct Γ st=>∀ σ' H' ρ',Ext H ρ H' ρ'->Rel H' ρ' st->EnvR H' ρ' Γ σ'->D.ct σ' H'
 | .rt p st=>∀ v H' ρ',Ext H ρ H' ρ'->Rel H' ρ' st->Rep H' ρ' p v->D.rt v H'
 | .exc x st=>∀ C dv H' ρ',mg x.cls=zo (.ref C)->Ext H ρ H' ρ'->Rel H' ρ' st->XFs H' ρ' x.fs dv->E (.ref C) dv H'
 | .stuck=>False
section
variable {α:Type} {mg:Str->Option aB} {E:XK} {D:Ends} {H H1:Hp} {ρ ρ1:Tk}
theorem AccS.later {r:SR} (h:AccS mg E D H ρ r) (x:Ext H ρ H1 ρ1):AccS mg E D H1 ρ1 r:=by
 cases r with
 | nx Γ st=>exact fun j H' ρ' q=>h j H' ρ' (x.trans q)
 | bk Γ st=>exact fun j H' ρ' q=>h j H' ρ' (x.trans q)
 | ct Γ st=>exact fun j H' ρ' q=>h j H' ρ' (x.trans q)
 | rt p st=>exact fun v H' ρ' q=>h v H' ρ' (x.trans q)
 | exc y st=>exact fun C z H' ρ' m q=>h C z H' ρ' m (x.trans q)
 | stuck=>exact h
theorem AccS.bind {r:Res α} {f:α->Q2->SR} (h:AccS mg E D H ρ (r.sbind f)):Acc mg E H ρ (fun a j H1 ρ1=>AccS mg E D H1 ρ1 (f a j)) r:=by
 cases r with
 | ok a st=>exact fun H' ρ' q z=>AccS.later (show AccS mg E D H ρ (f a st) from h) q
 | exc e st=>exact h
 | stuck=>exact h
end
theorem Res.sassoc {α β:Type} (r:Res α) (f:α->Q2->Res β) (g:β->Q2->SR):(r.bind f).sbind g=r.sbind fun a st=>(f a st).sbind g:=by cases r <;> rfl
theorem AccS.assoc {α β:Type} {mg:Str->Option aB} {E:XK} {D:Ends} {H:Hp} {ρ:Tk} {r:Res α} {f:α->Q2->Res β} {g:β->Q2->SR} (h:AccS mg E D H ρ ((r.bind f).sbind g)):AccS mg E D H ρ (r.sbind fun a st=>(f a st).sbind g):=by
 rw [<- Res.sassoc]; exact h
structure SimS (X:Cx) (E:XK) (s:aK) (m:MS):Prop where
 run:∀ (Γ:Gam) (σ:St) (H:Hp) (ρ:Tk) (st:Q2) (D:Ends),Rel H ρ st->EnvR H ρ Γ σ->AccS X.mg E D H ρ (m Γ st)->WS X s D σ H
structure SimB (X:Cx) (E:XK) (ss:List aK) (m:MS):Prop where
 run:∀ (Γ:Gam) (σ:St) (H:Hp) (ρ:Tk) (st:Q2) (D:Ends),Rel H ρ st->EnvR H ρ Γ σ->AccS X.mg E D H ρ (m Γ st)->WB X ss D σ H
section
variable {X:Cx} {E:XK} {pos:Pos} {e:aD} {m:ME}
def Z2:MS:=fun Γ st=>.nx Γ st
def Qq (m1 m2:MS):MS:=fun Γ st=>match m1 Γ st with
 | .nx Γ1 st1=>m2 Γ1 st1
 | r=>r
theorem Jw:SimB X E [] Z2:=⟨fun Γ σ H ρ st D R G h=>WB.of Qr4 (h σ H ρ (Ext.refl _ _) R G)⟩
theorem Qa {s:aK} {rest:List aK} {m1 m2:MS} (h1:SimS X E s m1) (h2:SimB X E rest m2):SimB X E (s :: rest) (Qq m1 m2):=
 ⟨fun Γ σ H ρ st D R G h=>WB.of (Qe8 Qxz Q87) (h1.run Γ σ H ρ st _ R G (by
  unfold Qq at h;cases r:m1 Γ st with
  | nx Γ1 j=>rw [r] at h; exact fun q H' ρ' I z B=>h2.run Γ1 q H' ρ' j D z B (AccS.later h I)
  | bk Γ1 j=>rw [r] at h; exact h
  | ct Γ1 j=>rw [r] at h; exact h
  | rt p j=>rw [r] at h; exact h
  | exc x j=>rw [r] at h; exact h
  | stuck=>rw [r] at h; exact h))⟩
theorem Qc {s:aK} {m1:MS} (h1:SimS X E s m1):SimB X E [s] m1:=⟨fun Γ σ H ρ st D R G h=>WB.of (Qck Qxz) (h1.run Γ σ H ρ st D R G h)⟩
def Y6 (m:ME):MS:=fun Γ st=>(m Γ st).sbind fun _ st1=>.nx Γ st1
theorem Z4 (q:SimE X E e m) (hs:swapsWith e zl pos.line X.env=pure za:=by rfl):SimS X E (.Expr e pos) (Y6 m):=
 ⟨fun Γ σ H ρ st D R G h=>WS.of (Qhv Zx hs) (q.use R G h.bind fun p B H1 ρ1 v I j z r1 h1=>h1 σ H1 ρ1 (Ext.refl _ _) j z)⟩
def Jp (m:ME):MS:=fun Γ st=>(m Γ st).sbind fun p st1=>.rt p st1
theorem Qu (q:SimE X E e m):SimS X E (.Return (zo e) pos) (Jp m):=
 ⟨fun Γ σ H ρ st D R G h=>WS.of (Qmu Zx) (q.use R G h.bind fun p z H1 ρ1 v B j I r1 h1=>h1 v H1 ρ1 (Ext.refl _ _) j r1)⟩
def J8 (i:Nat) (m:ME):MS:=fun Γ st=>(m Γ st).sbind fun p st1=>.nx (Γ.set i (zo p)) st1
theorem Qx (i:Nat) {x:Str} {pos':Pos} (O:X.N.Nodup) (B:SimE X E e m) (hi:X.N[i]?=zo x:=by rfl) (q:Loc X.env.scope x:=by first | exact Or.inl rfl | exact Or.inr rfl) (hs:swapsWith e (zo (.Name x pos')) pos.line X.env=pure za:=by rfl) (z:X.fn x=zb\/X.env.scope.names.lookup x=zo .local:=by first | exact .inl rfl | exact .inr rfl) :
  SimS X E (.Assign [.Name x pos'] e pos) (J8 i m):=
 ⟨fun Γ σ H ρ st D R G h=>WS.of (Qus O hi q Zx hs z) (B.use R G h.bind fun p J H1 ρ1 v U j I r1 h1=>h1 _ H1 ρ1 (Ext.refl _ _) j (I.set r1 i))⟩
section
variable {tg iter elt:aD} {ifs:List aD} {N N':List Str} {sc scE:Scope} {ga:GA} {mi:MI} {mt:MT} {me:ME}
theorem Q1d (cap:List (Option Nat)) (N':List Str) (i:Nat) {x:Str} {O cpos:Pos} (I:X.N.Nodup) (j:X.calm=zb) (hi:SimI X E tg iter mi) (hg:∀ cl C s0 H0 ex,SimG (U7 X N' sc cl C s0 H0 ex) tg ga) (he:∀ cl C s0 H0 ex,SimE (U7 X N' sc cl C s0 H0 ex) E0 elt me) (Y:∀ cl C s0 H0 ex,SimTs (U7 X N' sc cl C s0 H0 ex) ifs mt)
  (hf:Qc4 cap ga) (z:X.N[i]?=zo x:=by rfl) (U:Loc X.env.scope x:=by first | exact Or.inl rfl | exact Or.inr rfl) (q:swapsWith (.ListComp elt [⟨tg,iter,ifs,0⟩] sc cpos) (zo (.Name x O)) pos.line X.env=pure zb:=by rfl)
  (hN:X.N=N:=by rfl) (hE:X.env.scope=scE:=by rfl) (Z:compOkC N N' sc scE cap=zb:=by kernel_rfl) (hs:∀ x,az iter X.env x=pure x:=by intro _; rfl) (B:X.fn x=zb\/X.env.scope.names.lookup x=zo .local:=by first | exact .inl rfl | exact .inr rfl) :
  SimS X E (.Assign [.Name x O] (.ListComp elt [⟨tg,iter,ifs,0⟩] sc cpos) pos) (J8 i (W6 (Jt cap ga mi mt me))):=
 ⟨fun Γ σ H ρ st D R G h=>WS.of (Qmv I z U j Quw Qy2 Qy9 Qt9 q hN hE Z hs B) (Qfj hi hg he Y hf R G (AccS.bind (by unfold J8 W6 at h; exact AccS.assoc h)) fun ps a2 H1 ρ1 a vs eq x R1 hm hn ha r=>by
  obtain ⟨J,R2,r2⟩:=Qi0 R x R1 hm hn ha r;simp only [J8,W6,eq,Res.bind,Res.sbind] at h;exact h _ _ _ J R2 ((G.ext J).set r2 i))⟩
end
def Qns (ga:GA) (m:ME):MS:=fun Γ st=>(m Γ st).sbind fun p st1=>match ga p Γ with
 | some Γ1=>.nx Γ1 st1
 | none=>.stuck
theorem Que {tg:aD} {ga:GA} (I:SimE X E e m) (B:SimG X tg ga) (hs:swapsWithSole [tg] e pos.line X.env=pure za:=by rfl) (U:swappedStores [tg] e X.env=pure zl:=by rfl) (h1:(ak [tg] X.env).map (·.2)=[assign tg X.env]:=by rfl):SimS X E (.Assign [tg] e pos) (Qns ga m):=
 ⟨fun Γ σ H ρ st D R G h=>WS.of (Qmw Zx Qrc hs U h1) (I.use R G h.bind fun p O H1 ρ1 v Z z J r1 h1=>by
  cases j:ga p Γ with
  | none=>rw [j] at h1; exact h1.elim
  | some Γ1=>
   rw [j] at h1;exact B.run Γ Γ1 σ H1 ρ1 p v _ J r1 j fun q Y=>h1 q H1 ρ1 (Ext.refl _ _) z Y)⟩
def Q1e (st:Q2) (o i p:PV):Option Q2:=match o,i with
 | .ref k,.int j=>match st[k]? with
  | some (.lst xs)=>(ixN xs.length j).map fun n=>st.set k (.lst (xs.set n p))
  | _=>zl
 | _,_=>zl
def Q0s (mo mi m:ME):MS:=fun Γ st=>(m Γ st).sbind fun p st1=>(mo Γ st1).sbind fun o st2=>(mi Γ st2).sbind fun i st3=>match Q1e st3 o i p with
 | some st4=>.nx Γ st4
 | none=>.stuck
theorem Qqn {H:Hp} {ρ:Tk} {st st':Q2} {o i p:PV} {x y z:V} (R:Rel H ρ st) (O:Rep H ρ o x) (ri:Rep H ρ i y) (U:Rep H ρ p z) (e:Q1e st o i p=zo st') :
  ∃ a vs k j,x=.ref a/\y=.int k/\H a=zo (.lst vs)/\ixN vs.length k=zo j/\Ext H ρ (upd H a (.lst (vs.set j z))) ρ/\Rel (upd H a (.lst (vs.set j z))) ρ st':=by
 unfold Q1e at e
 split at e
 ·rename_i k j
  split at e
  ·rename_i xs hs;cases G:ixN xs.length j with
   | none=>rw [G] at e; cases e
   | some n=>
    rw [G] at e;have e:st.set k (.lst (xs.set n p))=st':=ba e;subst e;obtain ⟨a,B,rfl⟩:=O;cases ri;obtain ⟨b,vs,I,q,J⟩:=R.lst hs;rw [B] at I; cases I;exact ⟨a,vs,j,n,rfl,rfl,q,by rw [<- J.length]; exact G,Ext.put (D5 B) q,R.put B q (J.set U n)⟩
  ·cases e
 ·cases e
theorem Q7p {o i:aD} {mo mi:ME} {tpos:Pos} (he:SimE X E e m) (ho:SimE X E o mo) (hi:SimE X E i mi)
  (ha:∀ v,assign (.Subscript o i tpos) X.env v=(do
   let q <- ag [v] (aM o X.env)
   let B <- ag [v,q] (aM i X.env)
   standAt tpos
   ag [v,q,B] (setItem q B v)
   release [v,q,B] []):=by intro _; rfl)
  (hs:swapsWithSole [.Subscript o i tpos] e pos.line X.env=pure za:=by rfl) (hw:swappedStores [.Subscript o i tpos] e X.env=pure zl:=by rfl) (h1:(ak [.Subscript o i tpos] X.env).map (·.2)=[assign (.Subscript o i tpos) X.env]:=by rfl) :
  SimS X E (.Assign [.Subscript o i tpos] e pos) (Q0s mo mi m):=
 ⟨fun Γ σ H ρ st D R G h=>WS.of (Qmw Zx (Quz Zx Zx Qme ha) hs hw h1) (he.use R G h.bind fun p a2 H1 ρ1 z x1 R1 Z r1 h1=>ho.use R1 Z h1.bind fun q a3 H2 a5 x x2 R2 G2 r2 h2=>hi.use R2 G2 h2.bind fun B O H3 J y U R3 G3 r3 I=>by
  cases es:Q1e O q B p with
  | none=>rw [es] at I; exact I.elim
  | some a4=>
   rw [es] at I;obtain ⟨a,vs,k,j,rfl,rfl,f1,f2,Y,R4⟩:=Qqn R3 (r2.ext U) r3 (r1.ext (x2.trans U)) es;exact ⟨a,vs,k,j,rfl,rfl,f1,f2,I σ _ J Y R4 (G3.ext Y)⟩)⟩
def Z8 (mt:MT) (ma mb:MS):MS:=fun Γ st=>(mt Γ st).sbind fun b st1=>if b=zb then ma Γ st1 else mb Γ st1
theorem Ju {c:aD} {a b:List aK} {mt:MT} {ma mb:MS} (I:SimT X E c mt) (J:SimB X E a ma) (B:SimB X E b mb):SimS X E (.If c a b pos) (Z8 mt ma mb):=
 ⟨fun Γ σ H ρ st D R G h=>WS.of (Qy0 Qe7 Q87 Q87) (I.use R G h.bind fun k j H1 ρ1 O q z h1=>by
  cases k with
  | true=>rw [bK rfl] at h1 ⊢; exact J.run Γ σ H1 ρ1 j D q z h1
  | false=>rw [bL D8] at h1 ⊢; exact B.run Γ σ H1 ρ1 j D q z h1)⟩
open Classical in
def yu (ga:GA) (body:MS) (w:Wt):List PV->Gam->Q2->SR
 | [],Γ,st=>if wOk w st then .nx Γ st else .stuck
 | x :: xs,Γ,st=>if wOk w st then (match ga x Γ with
  | none=>.stuck
  | some Γ1=>match body Γ1 st with
   | .nx Γ2 st2=>yu ga body w xs Γ2 st2
   | .ct Γ2 st2=>yu ga body w xs Γ2 st2
   | .bk Γ2 st2=>.nx Γ2 st2
   | .rt v st2=>.rt v st2
   | .exc x st2=>.exc x st2
   | .stuck=>.stuck) else .stuck
def Q3u (ga:GA) (mi:MI) (body:MS):MS:=fun Γ st=>(mi Γ st).sbind fun iw st1=>yu ga body iw.2 iw.1 Γ st1
theorem K1 {tg iter:aD} {bd:List aK} {ga:GA} {mi:MI} {body:MS} (hp:PassesOwn (aJ X.prog X.w) X.A X.env X.xe) (hc:X.calm=zb) (hi:SimI X E tg iter mi) (hg:SimG X tg ga) (hb:SimB X E bd body)
  (hs:∀ x,az iter X.env x=pure x:=by intro _; rfl):SimS X E (.For tg iter bd [] pos) (Q3u ga mi body):=
 ⟨fun Γ σ H ρ st D R G h=>WS.of (Qut hp hc Quw Qrc Q87 hs) (hi.run Γ σ H ρ st _ _ R G h.bind fun B a5 H1 ρ1 J eq x1 R1 G1 ok hl src h1=>by
  let W:Nat->Nat->St->Hp->Prop:=fun i m I H'=>m=B.1.length - i/\i<=B.1.length/\∃ Y ρ' st',Ext H1 ρ1 H' ρ'/\Rel H' ρ' st'/\EnvR H' ρ' Y I/\AccS X.mg E D H' ρ' (yu ga body B.2 (B.1.drop i) Y st')
  refine ⟨W,⟨_,rfl,bv _,Γ,ρ1,a5,Ext.refl _ _,R1,G1,by rw [dj]; exact h1⟩,?_⟩;rintro i m I H' ⟨hm,a7,Y,ρ',st',x,R',G',U⟩
  by_cases a3:i < B.1.length
  ·right
   have hd:B.1.drop i=B.1[i] :: B.1.drop (i + 1):=gK a3;rw [hd,yu] at U
   by_cases hw:wOk B.2 st'
   ·rw [bK hw] at U;refine ⟨src.go H' ρ' st' x R' hw i a3,fun a4 H2=>W (i + 1) (B.1.length - (i + 1)) a4 H2,fun a4 H2 z=>⟨_,by omega,z⟩,fun y H2 hy=>?_⟩
    obtain ⟨sm,ry⟩:=src.yld H' ρ' st' x R' hw i _ (O4 a3) y H2 hy;have x2:Ext H' ρ' H2 ρ':=Ext.same sm;cases eg:ga B.1[i] Y with
    | none=>rw [eg] at U; exact U.elim
    | some Γ1=>
     rw [eg] at U;refine hg.run Y Γ1 I H2 ρ' _ y _ (G'.ext x2) ry eg fun a6 G3=>?_
     have j:=AccS.later U x2;simp only at j;refine hb.run Γ1 a6 H2 ρ' st' _ (R'.same sm) G3 ?_;have again:∀ {O:Gam} {q:Q2},AccS X.mg E D H2 ρ' (yu ga body B.2 (B.1.drop (i + 1)) O q)->∀ I a2 Z,Ext H2 ρ' a2 Z->Rel a2 Z q->EnvR a2 Z O I->W (i + 1) (B.1.length - (i + 1)) I a2:=fun {O q} a σ4 H4 ρ4 x4 R4 G4=>
      ⟨rfl,a3,O,ρ4,q,x.trans (x2.trans x4),R4,G4,AccS.later a x4⟩
     cases rb:body Γ1 st' with
     | nx O q=>rw [rb] at j; exact again j
     | ct O q=>rw [rb] at j; exact again j
     | bk O q=>rw [rb] at j; exact j
     | rt v q=>rw [rb] at j; exact j
     | exc y q=>rw [rb] at j; exact j
     | stuck=>rw [rb] at j; exact j.elim
   ·rw [bL hw] at U; exact U.elim
  ·left
   have ei:i=B.1.length:=by omega
   subst ei;rw [fE,yu] at U
   by_cases hw:wOk B.2 st'
   ·rw [bK hw] at U;exact ⟨src.stop H' ρ' st' x R' hw,U I H' ρ' (Ext.refl _ _) R' G'⟩
   ·rw [bL hw] at U; exact U.elim)⟩
def qj (mt:MT) (body:MS):Nat->Gam->Q2->SR
 | 0,_,_=>.stuck
 | n + 1, Γ, st => (mt Γ st).sbind fun b st1 => if b = zb then (match body Γ st1 with
   | .nx Γ2 st2=>qj mt body n Γ2 st2
   | .ct Γ2 st2=>qj mt body n Γ2 st2
   | .bk Γ2 st2=>.nx Γ2 st2
   | .rt v st2=>.rt v st2
   | .exc x st2=>.exc x st2
   | .stuck=>.stuck) else .nx Γ st1
theorem Qmc (n:Nat) {c:aD} {bd:List aK} {mt:MT} {body:MS} (hp:PassesOwn (aJ X.prog X.w) X.A X.env X.xe) (hc:SimT X E c mt) (hb:SimB X E bd body):SimS X E (.While c bd [] pos) (qj mt body n):=
 ⟨fun Γ σ H ρ st D R G h=>WS.of (Qms hp Qe7 Q87) (by
  let W:Nat->St->Hp->Prop:=fun m B H'=>∃ I ρ' st',Rel H' ρ' st'/\EnvR H' ρ' I B/\AccS X.mg E D H' ρ' (qj mt body m I st')
  refine ⟨W,⟨n,Γ,ρ,st,R,G,h⟩,?_⟩;rintro m B H' ⟨I,ρ',st',R',G',Z⟩;cases m with
  | zero=>exact Z.elim
  | succ m=>
   rw [qj] at Z;refine hc.use R' G' Z.bind fun b Y H1 ρ1 x1 R1 G1 h1=>?_
   cases b with
   | false=>rw [bL D8] at h1 ⊢; exact h1 B H1 ρ1 (Ext.refl _ _) R1 G1
   | true=>
    rw [bK rfl] at h1 ⊢;refine ⟨fun U H2=>W m U H2,fun U H2 z=>⟨m,cP _,z⟩,hb.run I B H1 ρ1 Y _ R1 G1 ?_⟩
    have again:∀ {q:Gam} {j:Q2},AccS X.mg E D H1 ρ1 (qj mt body m q j)->∀ B O J,Ext H1 ρ1 O J->Rel O J j->EnvR O J q B->W m B O:=fun {q j} a σ4 H4 ρ4 x4 R4 G4=>⟨q,ρ4,j,R4,G4,AccS.later a x4⟩
    cases rb:body I Y with
    | nx q j=>rw [rb] at h1; exact again h1
    | ct q j=>rw [rb] at h1; exact again h1
    | bk q j=>rw [rb] at h1; exact h1
    | rt v j=>rw [rb] at h1; exact h1
    | exc y j=>rw [rb] at h1; exact h1
    | stuck=>rw [rb] at h1; exact h1.elim)⟩
def Uj (x:Str) (m:ME):MS:=fun Γ st=>(m Γ st).sbind fun _ st1=>.exc ⟨x,zl⟩ st1
theorem W9 {x:Str} {C:aA} {np cpos:Pos} (j:X.calm=zb) (O:Q9v X E) (U:Gl X x) (I:X.mg x=zo (.ref C)) (q:bY X.K C Vq "ValueError.__new__" = zb) (Y:SimE X E e m)
  (B:(x == ("__debug__" : Str))=za:=by decide) (z:aP [e] X.env=[(za,aM e X.env)]:=by rfl):SimS X E (.Raise (zo (.Call (.Name x np) [e] [] cpos)) zl pos) (Uj x m):=
 ⟨fun Γ σ H ρ st D R G h=>WS.of (Qjf j O U I q (Q0c Zx Q8c (by rw [z]; rfl)) B z) (Y.use R G h.bind fun p Z H1 ρ1 v x1 J G1 r1 h1=>⟨F2 (show 1<=lim by decide) Qh6,h1 C zl H1 ρ1 I (Ext.refl _ _) J rfl⟩)⟩
end
def WM (X:Cx) (id:String):V->List V->Hp->VK->Prop:=fun x xs H Q=>∀ (pins:List (aA × Obj)) (s:aC) (σ:St) (v:aB) (us:List aB),Inv X pins σ H s->RelV x v->Vals xs us->aI (aJ X.prog X.w) X.A (call (.builtin id) (v :: us)) (EP X pins σ Q) X.xe s
theorem J1g {X:Cx} {id:String}:MtR X id (WM X id):=fun pins s σ _ _ _ v us _ I r j h=>h pins s σ v us I r j
theorem WM.of {X:Cx} {id:String} {r:V->List V->Hp->VK->Prop} {x:V} {xs:List V} {H:Hp} {Q:VK} (h:MtR X id r) (q:r x xs H Q):WM X id x xs H Q:=fun pins s σ v us I r1 r2=>h pins s σ H x xs v us Q I r1 r2 q
abbrev MF:=Q2->PV->List PV->Res PV
structure MtS (X:Cx) (E:XK) (id:String) (o:MF):Prop where
 run:∀ (H:Hp) (ρ:Tk) (st:Q2) (p:PV) (ps:List PV) (x:V) (xs:List V) (Q:VK),Rel H ρ st->Rep H ρ p x->RepL H ρ ps xs->Acc X.mg E H ρ (QV Q) (o st p ps)->WM X id x xs H Q
section
variable {X:Cx} {E:XK} {o e:aD} {es:List aD} {mo:ME} {mr:Gam->Q2->Res (List PV)} {name:Str} {apos cpos:Pos} {T id:String} {f:MF}
def mBM (f:MF) (mo:ME) (mr:Gam->Q2->Res (List PV)):ME:=fun Γ st=>(mo Γ st).bind fun p st1=>match Q0t st1 p with
 | some _=>(mr Γ st1).bind fun ps st2=>f st2 p ps
 | none=>.stuck
theorem Qt4 (pa:PlainAttrs "list") (slot:Slot "list" name id) (I:typeOf (.builtin id)=pure (.type "method_descriptor")) (hm:MtS X E id f) (ho:SimE X E o mo) (ha:SimA X E (e :: es) mr)
  (z:ai o name X.env (aM o X.env)=aM o X.env:=by rfl)
  (B:((aU cpos (aP (e :: es) X.env)).all (fun x=>!x.1) && (backToKw cpos (keywordEach [] X.env)).all (fun x=>x.1.isSome)
   && decide ((e :: es).length + ([]:List Keyword).length + (if ([]:List Keyword).isEmpty then 0 else 1) < 30))=zb:=by rfl)
  (q:(apos.endLine == cpos.line)=zb:=by rfl) (hs:aP (e :: es) X.env=(za,aM e X.env) :: aP es X.env:=by rfl) (j:(aU cpos (aP es X.env)).any (·.1)=za:=by rfl) :
  SimE X E (.Call (.Attribute o name apos) (e :: es) [] cpos) (mBM f mo mr):=
 ⟨fun Γ σ H ρ st Q R G h=>WE.of (Qy7 pa slot I J1g Zx Q3m z B q hs j) (ho.use R G h.bind fun p a2 H1 ρ1 v x1 U Y r1 h1=>by
  split at h1
  ·rename_i ys el;obtain ⟨a,vs,rfl,Z,_⟩:=Q76 U r1 el;exact ⟨.inl ⟨rfl,vs,.inl Z⟩,ha.use U Y h1.bind fun ps J H2 O us x2 R2 G2 r2 h2=>hm.run H2 O J p ps _ us Q R2 (r1.ext x2) r2 h2⟩
  ·exact h1.elim)⟩
def chg (st:Q2) (p:PV) (g:List PV->Option (PV × List PV)):Res PV:=match p with
 | .ref i=>match st[i]? with
  | some (.lst xs)=>match g xs with
   | some (r,ys)=>.ok r (st.set i (.lst ys))
   | none=>.stuck
  | _=>.stuck
 | _=>.stuck
theorem Qiq {mg:Str->Option aB} {H:Hp} {ρ:Tk} {st:Q2} {p:PV} {x:V} {g:List PV->Option (PV × List PV)} {Q:VK} (R:Rel H ρ st) (O:Rep H ρ p x) (h:Acc mg E H ρ (QV Q) (chg st p g)) :
  ∃ a xs vs r ys,x=.ref a/\H a=zo (.lst vs)/\RepL H ρ xs vs/\g xs=zo (r,ys)/\∀ us v,RepL H ρ ys us->Rep H ρ r v->Q v (upd H a (.lst us)):=by
 unfold chg at h
 split at h
 ·rename_i i
  split at h
  ·rename_i xs hs
   split at h
   ·rename_i r ys G;obtain ⟨a,q,rfl⟩:=O;obtain ⟨b,vs,z,j,I⟩:=R.lst hs;rw [q] at z; cases z;refine ⟨a,xs,vs,r,ys,rfl,j,I,G,fun us v J B=>?_⟩;have x:=Ext.put (o':=.lst us) (D5 q) j;exact h _ ρ x (R.put q j J) v (B.ext x)
   ·exact h.elim
  ·exact h.elim
 ·exact h.elim
def W0:MF:=fun st p ps=>match ps with
 | [y]=>chg st p fun xs=>if xs.length < lim then zo (.non,xs ++ [y]) else zl
 | _=>.stuck
theorem Qjy:MtS X E "list.append" W0:=⟨fun H ρ st p ps x xs Q R I z h=>by
 unfold W0 at h
 split at h
 ·obtain ⟨v,rfl,r⟩:=Yy z;obtain ⟨a,ys,vs,J,zs,rfl,B,q,j,k⟩:=Qiq R I h
  split at j
  ·rename_i G;cases j;exact WM.of Qjw ⟨a,vs,v,rfl,rfl,B,by rw [<- q.length]; exact D2 G Qh6,k _ _ (q.append (RepL.cons r RepL.nil)) rfl⟩
  ·cases j
 ·exact h.elim⟩
def Q1u:MF:=fun st p ps=>match ps with
 | [q]=>match Q21 st q with
  | some ys=>chg st p fun xs=>if xs.length + ys.length<=lim then zo (.non,xs ++ ys) else zl
  | none=>.stuck
 | _=>.stuck
theorem Qjx:MtS X E "list.extend" Q1u:=⟨fun H ρ st p ps x xs Q R O G h=>by
 unfold Q1u at h
 split at h
 ·obtain ⟨v,rfl,r⟩:=Yy G
  split at h
  ·rename_i Y B;obtain ⟨b,us,rfl,z,rb⟩:=Q94 R r B;obtain ⟨a,ys,vs,U,zs,rfl,I,q,j,k⟩:=Qiq R O h
   split at j
   ·rename_i J;cases j;exact WM.of Qjv ⟨a,b,vs,us,rfl,rfl,I,z,by rw [<- q.length,<- rb.length]; exact Uk J,k _ _ (q.append rb) rfl⟩
   ·cases j
  ·exact h.elim
 ·exact h.elim⟩
theorem Xb (B:SimE X E o mo) (G:SimA X E [e] mr) (q:ai o "append" X.env (aM o X.env)=aM o X.env:=by rfl)
  (z:((aU cpos (aP [e] X.env)).all (fun x=>!x.1) && (backToKw cpos (keywordEach [] X.env)).all (fun x=>x.1.isSome) && decide ([e].length + ([]:List Keyword).length + (if ([]:List Keyword).isEmpty then 0 else 1) < 30))=zb:=by rfl)
  (j:(apos.endLine == cpos.line)=zb:=by rfl) (hs:aP [e] X.env=(za,aM e X.env) :: aP [] X.env:=by rfl):SimE X E (.Call (.Attribute o "append" apos) [e] [] cpos) (mBM W0 mo mr):=
 Qt4 gL PySem.F.slot_list_append PySem.F.type_list_append Qjy B G q z j hs
theorem Qj7 (B:SimE X E o mo) (G:SimA X E [e] mr) (q:ai o "extend" X.env (aM o X.env)=aM o X.env:=by rfl)
  (z:((aU cpos (aP [e] X.env)).all (fun x=>!x.1) && (backToKw cpos (keywordEach [] X.env)).all (fun x=>x.1.isSome) && decide ([e].length + ([]:List Keyword).length + (if ([]:List Keyword).isEmpty then 0 else 1) < 30))=zb:=by rfl)
  (j:(apos.endLine == cpos.line)=zb:=by rfl) (hs:aP [e] X.env=(za,aM e X.env) :: aP [] X.env:=by rfl):SimE X E (.Call (.Attribute o "extend" apos) [e] [] cpos) (mBM Q1u mo mr):=
 Qt4 gL PySem.F.slot_list_extend PySem.F.type_list_extend Qjx B G q z j hs
end
section
mutual
def fz (n:Nat) (st:Q2):Nat->PV->Option PV
 | 0,_=>zl
 | _ + 1,.non=>zo .non
 | _ + 1,.bl b=>zo (.bl b)
 | _ + 1,.int i=>zo (.int i)
 | _ + 1,.str x=>zo (.str x)
 | k + 1,.tup xs=>(fzL n st k xs).map .tup
 | k + 1,.lst xs=>(fzL n st k xs).map .lst
 | k + 1,.fro xs=>(fzL n st k xs).map .fro
 | _ + 1,.dic=>zo .dic
 | k + 1,.ref i=>if i < n then zo (.ref i) else match st[i]? with
  | some (.lst xs)=>(fzL n st k xs).map .lst
  | _=>zl
def fzL (n:Nat) (st:Q2):Nat->List PV->Option (List PV)
 | _,[]=>zo []
 | k,x :: xs=>(fz n st k x).bind fun y=>(fzL n st k xs).map (y :: ·)
end
theorem Q7a {n:Nat} {st:Q2}:∀ {m k:Nat} {p:PV},Jz m p=zb->m < k->fz n st k p=zo p:=by
 intro m
 induction m with
 | zero=>
  intro k p g B;obtain ⟨k,rfl⟩:∃ j,k=j + 1:=⟨k - 1,by omega⟩;cases p with
  | tup _=>cases g
  | lst _=>cases g
  | fro _=>cases g
  | ref _=>cases g
  | dic=>cases g
  | _=>rw [fz]
 | succ m G=>
  intro k p g B;obtain ⟨k,rfl⟩:∃ j,k=j + 1:=⟨k - 1,by omega⟩;have q:∀ xs:List PV,xs.all (Jz m)=zb->fzL n st k xs=zo xs:=by
   intro xs
   induction xs with
   | nil=>intro _; rw [fzL]
   | cons x xs z=>
    intro g;rw [cY,G7] at g;rw [fzL,G g.1 (by omega),z g.2]; rfl
  cases p with
  | tup xs=>rw [fz,q xs g]; rfl
  | lst xs=>rw [fz,q xs g]; rfl
  | fro xs=>rw [fz,q xs g]; rfl
  | ref _=>cases g
  | dic=>cases g
  | _=>rw [fz]
section
variable {H:Hp} {ρ:Tk} {st:Q2} {tr0 rest hs:List aA}
theorem Qp3 (R:Rel H ρ st) (Y:ρ.tr=tr0 ++ rest) (hh:∀ a,a∈hs->a∈ρ.hid):∀ (k:Nat) {p p':PV} {v:V},Rep H ρ p v->fz tr0.length st k p=zo p'->Rep H ⟨tr0,hs⟩ p' v:=by
 have B:∀ a,a∉ρ->a∉(⟨tr0,hs⟩:Tk):=fun a n z=>by
  rcases z with z | z
  ·exact n (.inl (by rw [Y]; exact F9 _ z))
  ·exact n (.inr (hh a z))
 intro k
 induction k with
 | zero=>intro p p' v r e; rw [fz] at e; cases e
 | succ k ih=>
  have U:∀ {ps q:List PV} {vs:List V},RepL H ρ ps vs->fzL tr0.length st k ps=zo q->RepL H ⟨tr0,hs⟩ q vs:=by
   intro ps
   induction ps with
   | nil=>intro q vs r e; rw [fzL] at e; cases e; exact r
   | cons x xs Z=>
    intro q vs r e;obtain ⟨v,t,rfl,r1,r2⟩:=r;rw [fzL] at e;cases e1:fz tr0.length st k x with
    | none=>rw [e1] at e; cases e
    | some y=>
     rw [e1] at e;have e:(fzL tr0.length st k xs).map (y :: ·)=zo q:=e;cases e2:fzL tr0.length st k xs with
     | none=>rw [e2] at e; cases e
     | some ys=>
      rw [e2] at e;cases e;exact ⟨v,t,rfl,ih r1 e1,Z r2 e2⟩
  intro p p' v r e;cases p with
  | non=>rw [fz] at e; cases e; exact r
  | bl b=>rw [fz] at e; cases e; exact r
  | int i=>rw [fz] at e; cases e; exact r
  | str x=>rw [fz] at e; cases e; exact r
  | tup xs=>
   rw [fz] at e;obtain ⟨a,vs,e1,I,G,O⟩:=r;cases e2:fzL tr0.length st k xs with
   | none=>rw [e2] at e; cases e
   | some ys=>rw [e2] at e; cases e; exact ⟨a,vs,e1,I,B a G,U O e2⟩
  | lst xs=>
   rw [fz] at e;obtain ⟨a,vs,e1,I,G,O⟩:=r;cases e2:fzL tr0.length st k xs with
   | none=>rw [e2] at e; cases e
   | some ys=>rw [e2] at e; cases e; exact ⟨a,vs,e1,I,B a G,U O e2⟩
  | fro xs=>
   rw [fz] at e;obtain ⟨a,vs,e1,I,G,O⟩:=r;cases e2:fzL tr0.length st k xs with
   | none=>rw [e2] at e; cases e
   | some ys=>rw [e2] at e; cases e; exact ⟨a,vs,e1,I,B a G,U O e2⟩
  | dic=>
   rw [fz] at e;cases e;obtain ⟨a,e1,I,G⟩:=r;exact ⟨a,e1,I,B a G⟩
  | ref i=>
   rw [fz] at e;obtain ⟨a,J,rfl⟩:=r
   by_cases hi:i < tr0.length
   ·rw [bK hi] at e;cases e;rw [Y,O5 hi] at J;exact ⟨a,J,rfl⟩
   ·rw [bL hi] at e
    split at e
    ·rename_i xs a2;obtain ⟨b,vs,f1,f2,f3⟩:=R.lst a2;rw [J] at f1; cases f1;cases e2:fzL tr0.length st k xs with
     | none=>rw [e2] at e; cases e
     | some ys=>
      rw [e2] at e; cases e;refine ⟨a,vs,rfl,f2,fun z=>?_,U f3 e2⟩;rcases z with z | z
      ·have z:a∈tr0:=z;obtain ⟨j,hj,ej⟩:=dh z;have g1:ρ.tr[j]?=zo a:=by rw [Y,O5 hj,O4 hj,ej]
       have l1:=O0.mp g1;have l2:=O0.mp J;have:=Qbi R.nd l1.1 l2.1 (l1.2.trans l2.2.symm);omega
      ·exact R.ap a (hh a z) (D5 J)
    ·cases e
mutual
def bel (n:Nat):PV->Prop
 | .tup xs=>Qdi n xs
 | .lst xs=>Qdi n xs
 | .fro xs=>Qdi n xs
 | .ref i=>i < n
 | _=>True
def Qdi (n:Nat):List PV->Prop
 | []=>True
 | x :: xs=>bel n x/\Qdi n xs
end
mutual
theorem Rep.bel:∀ {p:PV} {v:V},Rep H ρ p v->bel ρ.tr.length p
 | .non,_,_=>by simp [Sm.bel]
 | .bl _,_,_=>by simp [Sm.bel]
 | .int _,_,_=>by simp [Sm.bel]
 | .str _,_,_=>by simp [Sm.bel]
 | .tup ps,_,⟨_,_,_,_,_,r⟩=>by rw [Sm.bel]; exact RepL.bel r
 | .lst ps,_,⟨_,_,_,_,_,r⟩=>by rw [Sm.bel]; exact RepL.bel r
 | .fro ps,_,⟨_,_,_,_,_,r⟩=>by rw [Sm.bel]; exact RepL.bel r
 | .ref i,_,⟨_,e,_⟩=>by rw [Sm.bel]; exact (O0.mp e).1
 | .dic,_,_=>by simp [Sm.bel]
theorem RepL.bel:∀ {ps:List PV} {vs:List V},RepL H ρ ps vs->Qdi ρ.tr.length ps
 | [],_,_=>by simp [Qdi]
 | p :: ps,_,⟨_,_,_,r1,r2⟩=>by rw [Qdi]; exact ⟨Rep.bel r1,RepL.bel r2⟩
end
mutual
theorem Rep.less (j:ρ.tr=tr0 ++ rest) (G:∀ a,a∈hs->a∈ρ.hid):∀ {p:PV} {v:V},Sm.bel tr0.length p->Rep H ρ p v->Rep H ⟨tr0,hs⟩ p v
 | .non,_,_,r=>r
 | .bl _,_,_,r=>r
 | .int _,_,_,r=>r
 | .str _,_,_,r=>r
 | .tup ps,_,b,⟨a,vs,e,B,q,r⟩=>⟨a,vs,e,B,fun z=>q (z.imp (fun z=>by rw [j]; exact F9 _ z) (G a)),RepL.less j G (by rw [Sm.bel] at b; exact b) r⟩
 | .lst ps,_,b,⟨a,vs,e,B,q,r⟩=>⟨a,vs,e,B,fun z=>q (z.imp (fun z=>by rw [j]; exact F9 _ z) (G a)),RepL.less j G (by rw [Sm.bel] at b; exact b) r⟩
 | .fro ps,_,b,⟨a,vs,e,B,q,r⟩=>⟨a,vs,e,B,fun z=>q (z.imp (fun z=>by rw [j]; exact F9 _ z) (G a)),RepL.less j G (by rw [Sm.bel] at b; exact b) r⟩
 | .ref i,_,b,⟨a,e,e2⟩=>⟨a,by rw [Sm.bel] at b; rw [j,O5 b] at e; exact e,e2⟩
 | .dic,_,_,⟨a,e,B,q⟩=>⟨a,e,B,fun z=>q (z.imp (fun z=>by rw [j]; exact F9 _ z) (G a))⟩
theorem RepL.less (j:ρ.tr=tr0 ++ rest) (q:∀ a,a∈hs->a∈ρ.hid):∀ {ps:List PV} {vs:List V},Qdi tr0.length ps->RepL H ρ ps vs->RepL H ⟨tr0,hs⟩ ps vs
 | [],_,_,r=>r
 | p :: ps,_,b,⟨v,t,e,r1,r2⟩=>by
  rw [Qdi] at b;exact ⟨v,t,e,Rep.less j q b.1 r1,RepL.less j q b.2 r2⟩
end
end
theorem Qe5 {H H':Hp} {ρ ρ':Tk} {st st':Q2} (R:Rel H ρ st) (x:Ext H ρ H' ρ') (J:Rel H' ρ' st') (hp:st <+: st'):Ext H ρ H' ρ/\Rel H' ρ st:=by
 obtain ⟨rest,z⟩:=x.pre;obtain ⟨more,I⟩:=hp;refine ⟨⟨cb _,fun _ h=>h,fun _ h=>.inl h,x.keep,fun _ h=>.inl h,x.old,x.frz⟩,R.len,R.nd,fun a G=>let ⟨o,e,n⟩:=R.hd a G; ⟨o,x.keep a o e (R.ap a G),n⟩,R.ap,fun i a c h1 h2=>?_⟩
 have hi:i < st.length:=(O0.mp h2).1;have q:=J.cell i a c (by rw [<- z,O5 (O0.mp h1).1]; exact h1) (by rw [<- I,O5 hi]; exact h2);have B:=R.cell i a c h1 h2;cases c with
 | lst ps=>
  obtain ⟨vs,e1,e2⟩:=q;obtain ⟨us,_,j⟩:=B;exact ⟨vs,e1,RepL.less (ρ:=ρ') (tr0:=ρ.tr) (hs:=ρ.hid) z.symm x.hidM j.bel e2⟩
 | dic ps=>
  obtain ⟨vs,e1,e2⟩:=q;obtain ⟨us,_,j⟩:=B;exact ⟨vs,e1,e2.1,RepL.less (ρ:=ρ') (tr0:=ρ.tr) (hs:=ρ.hid) z.symm x.hidM j.2.bel e2.2⟩
 | dtp ps=>
  obtain ⟨vs,e1,e2⟩:=q;obtain ⟨us,_,j⟩:=B;exact ⟨vs,e1,e2.1,RepL.less (ρ:=ρ') (tr0:=ρ.tr) (hs:=ρ.hid) z.symm x.hidM j.2.bel e2.2⟩
 | frd ps=>
  obtain ⟨vs,e1,e2⟩:=q;obtain ⟨us,_,j⟩:=B;exact ⟨vs,e1,e2.1,RepL.less (ρ:=ρ') (tr0:=ρ.tr) (hs:=ρ.hid) z.symm x.hidM j.2.bel e2.2⟩
 | obj C ps=>
  obtain ⟨vs,e1,e2⟩:=q;obtain ⟨us,_,j⟩:=B;exact ⟨vs,e1,e2.1,RepL.less (ρ:=ρ') (tr0:=ρ.tr) (hs:=ρ.hid) z.symm x.hidM j.2.bel e2.2⟩
abbrev FN:=List PV->Q2->Res PV
open Classical in
def fin (st:Q2) (v:PV) (st':Q2):Res PV:=if st <+: st' then okO st (fz st.length st' 16 v) else .ok v st'
open Classical in
def Qp6 (st:Q2) (x:Exc) (st':Q2):Res PV:=if st <+: st' then (match x.fs with
 | none=>.exc x st
 | some (n,p)=>match fz st.length st' 16 p with
  | some q=>.exc ⟨x.cls,zo (n,q)⟩ st
  | none=>.stuck) else .exc x st'
def Qr (body:MS) (nl:Nat):FN:=fun ps st=>match body (ps.map zo ++ bR (nl - ps.length) zl) st with
 | .rt v st'=>fin st v st'
 | .nx _ st'=>fin st .non st'
 | .exc x st'=>Qp6 st x st'
 | _=>.stuck
theorem Qii {mg:Str->Option aB} {E:XK} {H:Hp} {ρ:Tk} {st st':Q2} {Q:VK} {p:PV} (R:Rel H ρ st) (h:Acc mg E H ρ (QV Q) (fin st p st')):∀ v H' ρ',Ext H ρ H' ρ'->Rel H' ρ' st'->Rep H' ρ' p v->Q v H':=fun v H' ρ' x j r=>by
 unfold fin at h
 by_cases hp:st <+: st'
 ·rw [bK hp] at h;cases e:fz st.length st' 16 p with
  | none=>rw [e] at h; exact h.elim
  | some q=>
   rw [e] at h;obtain ⟨z,R2⟩:=Qe5 R x j hp;obtain ⟨rest,B⟩:=x.pre;rw [<- R.len] at e;exact h H' ρ z R2 v (Qp3 (tr0:=ρ.tr) (hs:=ρ.hid) j B.symm x.hidM 16 r e)
 ·rw [bL hp] at h;exact h H' ρ' x j v r
def spF (mg:Str->Option aB) (n:Nat) (F:FN):Sp:=fun vs H Q E=>vs.length=n/\∃ ρ st ps,Rel H ρ st/\RepL H ρ ps vs/\Acc mg E H ρ (QV Q) (F ps st)
theorem Qb5 {H:Hp} {ρ:Tk} {N:List Str} {ps:List PV} {vs:List V} (r:RepL H ρ ps vs):EnvR H ρ (ps.map zo ++ bR (N.length - ps.length) zl) (L2.start N vs):=by
 have j:=r.length;unfold L2.start;refine ⟨by simp [j],fun i p e=>?_⟩
 by_cases hi:i < ps.length
 ·rw [O5 (by simpa using hi),E8] at e;rw [O5 (by simp; omega),E8];cases q:ps[i]? with
  | none=>rw [q] at e; cases e
  | some p'=>
   rw [q] at e;cases e;obtain ⟨v,e1,e2⟩:=r.get q;exact ⟨v,by rw [e1]; rfl,e2⟩
 ·rw [D3 (by simpa using hi),cU] at e
  split at e <;> cases e
section
variable {P:aN} {w:aL} {K:bQ} {mg:Str->Option aB} {base:Heap}
theorem Qwa {x qual:Str} {st:aK} {f:aA} {fd:aO} {N ps:List Str} {k:Nat} {m:MS} (F:Fun K x qual st f fd) (S:FnScope N ps (Qb st))
  (hb:∀ (I:aB) (A:aQ) (outer:List dl) (s:aC) (H:Hp) (E:XK),Room k (A.deeper (dm qual (Qb st) s.heap.objs.size f I))->SimB (cxD P w K mg base N qual (Qb st) f I A outer s H E) E (Zt st) m) :
  FnOk P w K mg base (CXD P w) (k + 1) f fd ps (spF mg ps.length (Qr m N.length)):=by
 refine Fun.okD F S (fun vs H Q E h=>h.1) fun I A outer s H vs Q E hr a2=>⟨_,Q87,?_⟩
 obtain ⟨hl,ρ,G,Y,R,rl,j⟩:=a2;refine (hb I A outer s H E hr).run _ (L2.start N vs) H ρ G _ R (Qb5 rl) ?_;unfold Qr at j;cases O:m (Y.map zo ++ bR (N.length - Y.length) zl) G with
 | rt v B=>rw [O] at j; exact Qii R j
 | nx Γ B=>rw [O] at j; exact fun a3 H' ρ' J U G'=>Qii R j .non H' ρ' J U rfl
 | bk Γ B=>rw [O] at j; exact j.elim
 | ct Γ B=>rw [O] at j; exact j.elim
 | stuck=>rw [O] at j; exact j.elim
 | exc y B=>
  rw [O] at j;have j:Acc mg E H ρ (QV Q) (Qp6 G y B):=j;intro C dv H' ρ' Z J U hf;unfold Qp6 at j
  by_cases hp:G <+: B
  ·rw [bK hp] at j;obtain ⟨x2,R2⟩:=Qe5 R J U hp;obtain ⟨cls,fs⟩:=y;cases fs with
   | none=>exact j C dv H' ρ Z x2 R2 hf
   | some np=>
    obtain ⟨nm,p⟩:=np;simp only at j;cases e:fz G.length B 16 p with
    | none=>rw [e] at j; exact j.elim
    | some q=>
     rw [e] at j;obtain ⟨rest,ht⟩:=J.pre;rw [<- R.len] at e;obtain ⟨dx,v,e1,e2,e3,e4⟩:=hf;refine j C dv H' ρ Z x2 R2 ⟨dx,v,e1,e2,fun z=>e3 (z.imp (fun z=>by rw [<- ht]; exact F9 _ z) (J.hidM dx)),Qp3 (tr0:=ρ.tr) (hs:=ρ.hid) U ht.symm J.hidM 16 e4 e⟩
  ·rw [bL hp] at j;exact j C dv H' ρ' Z J U hf
end
theorem J0 {P:aN} {w:aL} {K:bQ} {mg:Str->Option aB} {base:Heap} {x qual:Str} {st:aK} {f:aA} {fd:aO} {N ps:List Str} {k n nl:Nat} {m:MS} {z:FN} (F:Fun K x qual st f fd) (S:FnScope N ps (Qb st)) (G:ps.length=n) (q:N.length=nl) (I:z=Qr m nl)
  (B:∀ (j:aB) (A:aQ) (outer:List dl) (s:aC) (H:Hp) (E:XK),Room k (A.deeper (dm qual (Qb st) s.heap.objs.size f j))->SimB (cxD P w K mg base N qual (Qb st) f j A outer s H E) E (Zt st) m) :
  FnOk P w K mg base (CXD P w) (k + 1) f fd ps (spF mg n z):=by
 subst G; subst q; subst I;exact Qwa F S B
structure DefS (P:aN) (w:aL) (K:bQ) (mg:Str->Option aB) (base:Heap) (k:Nat) (x:Str) (n:Nat) (F:FN):Prop where
 ex:∃ (f:aA) (fd:aO) (ps:List Str),FnOk P w K mg base (CXD P w) k f fd ps (spF mg n F)/\mg x=zo (.ref f)/\bg K (.ref f)=zb/\Binds K fd ps []/\ps.length=n
def Qg (n:Nat) (F:FN) (mr:Gam->Q2->Res (List PV)):ME:=fun Γ st=>(mr Γ st).bind fun ps st1=>if ps.length=n then F ps st1 else .stuck
section
variable {X:Cx} {E:XK} {k n:Nat} {x:Str} {F:FN} {p pos:Pos} {e:aD} {es:List aD} {mr:Gam->Q2->Res (List PV)}
theorem Qe (D:DefS X.prog X.w X.K X.mg X.base k x n F) (U:Room k X.A) (O:Kf (CXD X.prog X.w) X E) (hg:Gl X x) (ha:SimA X E (e :: es) mr) (q:(x == ("__debug__" : Str))=za:=by decide)
  (Y:aP (e :: es) X.env=(za,aM e X.env) :: aP es X.env:=by rfl) (j:(aU pos (aP es X.env)).any (·.1)=za:=by rfl):SimE X E (.Call (.Name x p) (e :: es) [] pos) (Qg n F mr):=by
 obtain ⟨f,fd,ps,hF,hm,J,hb,hl⟩:=D.ex;exact ⟨fun Γ σ H ρ st Q R G h=>WE.of (Qrj hF U hg hm J hb .nil O Q3m q Y j) (ha.use R G h.bind fun I z H1 ρ1 vs x1 Z G1 r1 h1=>by
  by_cases B:I.length=n
  ·rw [bK B] at h1;show spF X.mg n F (vs ++ []) H1 Q E;rw [L5];exact ⟨by rw [<- r1.length]; exact B,ρ1,z,I,Z,r1,h1⟩
  ·rw [bL B] at h1; exact h1.elim)⟩
end
end
@[simp] theorem Jc {α β:Type} (a:α) (st:Q2) (f:α->Q2->Res β):(Res.ok a st).bind f=f a st:=rfl
@[simp] theorem Qwh {α β:Type} (f:α->Q2->Res β):(Res.stuck:Res α).bind f=.stuck:=rfl
@[simp] theorem Qzs {α β:Type} (x:Exc) (st:Q2) (f:α->Q2->Res β):(Res.exc x st:Res α).bind f=.exc x st:=rfl
@[simp] theorem Wz {α:Type} (a:α) (st:Q2) (f:α->Q2->SR):(Res.ok a st).sbind f=f a st:=rfl
@[simp] theorem Qt5 {α:Type} (f:α->Q2->SR):(Res.stuck:Res α).sbind f=.stuck:=rfl
@[simp] theorem Qwv {α:Type} (x:Exc) (st:Q2) (f:α->Q2->SR):(Res.exc x st:Res α).sbind f=.exc x st:=rfl
@[simp] theorem Qi6 (i:Nat) (Γ:Gam) (st:Q2):Q4 i Γ st=(match Γ[i]? with | some (zo p)=>.ok p st | _=>.stuck):=rfl
@[simp] theorem J1z (p:PV) (Γ:Gam) (st:Q2):mC p Γ st=.ok p st:=rfl
@[simp] theorem Qvw (o:OP) (a b:ME) (Γ:Gam) (st:Q2):mOp o a b Γ st=(a Γ st).bind fun x q=>(b Γ q).bind fun y j=>o j x y:=rfl
@[simp] theorem J1t (b:Bool) (st:Q2):asB (.bl b) st=.ok b st:=rfl
@[simp] theorem Qu7 (m:ME) (Γ:Gam) (st:Q2):toB m Γ st=(m Γ st).bind asB:=rfl
def Qqq {α:Type} (x:PV) (A B:Res α):Res α:=match x with
 | .bl zb=>A
 | .bl za=>B
 | _=>.stuck
@[simp] theorem Qzz {α:Type} (b:Bool) (A B:Res α):Qqq (.bl b) A B=if b=zb then A else B:=by cases b <;> rfl
@[simp] theorem Qx0 (o o':OP) (a b c:ME) (Γ:Gam) (st:Q2):Q20 o o' a b c Γ st=(a Γ st).bind fun x B=>(b Γ B).bind fun y q=>(o q x y).bind fun k j=>Qqq k ((c Γ j).bind fun z G=>o' G y z) (.ok (.bl za) j):=by
 unfold Q20;refine congrArg _ (funext fun x=>funext fun B=>congrArg _ (funext fun y=>funext fun q=>congrArg _ (funext fun k=>funext fun j=>?_)))
 cases k with
 | bl b=>cases b <;> rfl
 | _=>rfl
@[simp] theorem J0g (a b:ME) (Γ:Gam) (st:Q2):Q6x a b Γ st=(a Γ st).bind fun x j=>Qqq x (b Γ j) (.ok (.bl za) j):=by
 unfold Q6x;refine congrArg _ (funext fun x=>funext fun j=>?_);cases x with
 | bl b=>cases b <;> rfl
 | _=>rfl
@[simp] theorem J1k (a b:ME) (Γ:Gam) (st:Q2):mOr a b Γ st=(a Γ st).bind fun x j=>Qqq x (.ok (.bl zb) j) (b Γ j):=by
 unfold mOr;refine congrArg _ (funext fun x=>funext fun j=>?_);cases x with
 | bl b=>cases b <;> rfl
 | _=>rfl
@[simp] theorem J0b (a:ME) (Γ:Gam) (st:Q2):Qvx a Γ st=(a Γ st).bind fun x j=>(match x with | .bl k=>.ok (.bl (!k)) j | _=>.stuck):=rfl
@[simp] theorem J0d (a:ME) (Γ:Gam) (st:Q2):Q31 a Γ st=(a Γ st).bind fun x j=>(match x with | .int k=>.ok (.int (-k)) j | _=>.stuck):=rfl
@[simp] theorem Qds (a b:MT) (Γ:Gam) (st:Q2):Q16 a b Γ st=(a Γ st).bind fun k j=>if k=zb then b Γ j else .ok za j:=rfl
@[simp] theorem Qhp (a b:MT) (Γ:Gam) (st:Q2):yg a b Γ st=(a Γ st).bind fun k j=>if k=zb then .ok zb j else b Γ j:=rfl
@[simp] theorem Qmb (a:MT) (Γ:Gam) (st:Q2):Vi a Γ st=(a Γ st).bind fun k j=>.ok (!k) j:=rfl
@[simp] theorem J0c (Γ:Gam) (st:Q2):Q8 Γ st=.ok [] st:=rfl
@[simp] theorem Qnq (m:ME) (mr:ML) (Γ:Gam) (st:Q2):Q3 m mr Γ st=(m Γ st).bind fun p q=>(mr Γ q).bind fun ps j=>.ok (p :: ps) j:=rfl
@[simp] theorem Qs2 (mr:ML) (Γ:Gam) (st:Q2):Va mr Γ st=(mr Γ st).bind fun ps j=>if ps.length<=lim then .ok (.tup ps) j else .stuck:=rfl
@[simp] theorem J0e (mr:ML) (Γ:Gam) (st:Q2):Q91 mr Γ st=(mr Γ st).bind fun ps j=>if ps.length<=lim then .ok (.lst ps) j else .stuck:=rfl
@[simp] theorem Qyu (mr:ML) (Γ:Gam) (st:Q2):jc mr Γ st=(mr Γ st).bind fun ps j=>if ps.length<=lim then .ok ps j else .stuck:=rfl
@[simp] theorem J1j (m:ME) (l h:Gam->Q2->Res (Option Int)) (Γ:Gam) (st:Q2):mSl m l h Γ st=(m Γ st).bind fun p q=>(l Γ q).bind fun lo j=>(h Γ j).bind fun hi z=>oSl z p lo hi:=rfl
@[simp] theorem Qvy (Γ:Gam) (st:Q2):Vx Γ st=.ok zl st:=rfl
@[simp] theorem Qys (m:ME) (Γ:Gam) (st:Q2):z8 m Γ st=(m Γ st).bind fun p j=>(match p with | .int i=>.ok (zo i) j | _=>.stuck):=rfl
@[simp] theorem Qnr (o:CF) (mr:ML) (Γ:Gam) (st:Q2):J3 o mr Γ st=(mr Γ st).bind fun ps j=>o j ps:=rfl
@[simp] theorem J0f (T:String) (m:ME) (Γ:Gam) (st:Q2):Qd1 T m Γ st=(m Γ st).bind fun p j=>if Q3x j p=zb then .stuck else .ok (.bl (isI T (dpv j p))) j:=rfl
@[simp] theorem Qzd (st:Q2):Q3x st .non=za:=rfl
@[simp] theorem J0i (st:Q2) (b:Bool):Q3x st (.bl b)=za:=rfl
@[simp] theorem Qzf (st:Q2) (b:Int):Q3x st (.int b)=za:=rfl
@[simp] theorem Qzb (st:Q2) (b:Str):Q3x st (.str b)=za:=rfl
@[simp] theorem Qza (st:Q2) (b:List PV):Q3x st (.tup b)=za:=rfl
@[simp] theorem Qze (st:Q2) (b:List PV):Q3x st (.lst b)=za:=rfl
@[simp] theorem Qzg (st:Q2) (b:List PV):Q3x st (.fro b)=za:=rfl
@[simp] theorem Qzh (st:Q2):Q3x st .dic=za:=rfl
@[simp] theorem Qzc (st:Q2) (i:Nat):Q3x st (.ref i)=(match st[i]? with | some (.frd _)=>zb | some (.obj _ _)=>zb | _=>za):=rfl
@[simp] theorem J0p (st:Q2):dpv st .non=.non:=rfl
@[simp] theorem J1s (st:Q2) (b:Bool):dpv st (.bl b)=(.bl b):=rfl
@[simp] theorem J0r (st:Q2) (b:Int):dpv st (.int b)=(.int b):=rfl
@[simp] theorem J0n (st:Q2) (b:Str):dpv st (.str b)=(.str b):=rfl
@[simp] theorem J0m (st:Q2) (b:List PV):dpv st (.tup b)=(.tup b):=rfl
@[simp] theorem J0q (st:Q2) (b:List PV):dpv st (.lst b)=(.lst b):=rfl
@[simp] theorem J0s (st:Q2) (b:List PV):dpv st (.fro b)=(.fro b):=rfl
@[simp] theorem J1r (st:Q2):dpv st .dic=.dic:=rfl
@[simp] theorem J20 (st:Q2) (i:Nat):dpv st (.ref i)=(match st[i]? with | some (.dic _)=>.dic | some (.dtp _)=>.dic | _=>.ref i):=rfl
@[simp] theorem Qs1 (m:ML) (Γ:Gam) (st:Q2):W6 m Γ st=(m Γ st).bind fun ps j=>.ok (.lst ps) j:=rfl
@[simp] theorem Qs3 (m:ML) (Γ:Gam) (st:Q2):Q0r m Γ st=(m Γ st).bind fun ps j=>.ok (.ref j.length) (j ++ [.lst ps]):=rfl
@[simp] theorem Qk2 (cap:List (Option Nat)) (ga:GA) (mi:MI) (mt:MT) (me:ME) (Γ:Gam) (st:Q2):Jt cap ga mi mt me Γ st=(mi Γ st).bind fun q j=>noX (Jn ga mt me q.2 (Jy cap Γ) q.1 j):=rfl
@[simp] theorem Qyr (Γ:Gam) (st:Q2):Je Γ st=.ok zb st:=rfl
@[simp] theorem Qbj (n:Nat) (F:FN) (mr:ML) (Γ:Gam) (st:Q2):Qg n F mr Γ st=(mr Γ st).bind fun ps j=>if ps.length=n then F ps j else .stuck:=rfl
@[simp] theorem Qyt (Γ:Gam) (st:Q2):Z2 Γ st=.nx Γ st:=rfl
@[simp] theorem Qf0 (a b:MS) (Γ:Gam) (st:Q2):Qq a b Γ st=(match a Γ st with | .nx Γ1 j=>b Γ1 j | r=>r):=rfl
@[simp] theorem Q92 (m:ME) (Γ:Gam) (st:Q2):Y6 m Γ st=(m Γ st).sbind fun _ j=>.nx Γ j:=rfl
@[simp] theorem Q4m (m:ME) (Γ:Gam) (st:Q2):Jp m Γ st=(m Γ st).sbind fun p j=>.rt p j:=rfl
@[simp] theorem Qs4 (i:Nat) (m:ME) (Γ:Gam) (st:Q2):J8 i m Γ st=(m Γ st).sbind fun p j=>.nx (Γ.set i (zo p)) j:=rfl
@[simp] theorem Qi8 (c:MT) (a b:MS) (Γ:Gam) (st:Q2):Z8 c a b Γ st=(c Γ st).sbind fun k j=>if k=zb then a Γ j else b Γ j:=rfl
@[simp] theorem Qs6 (ga:GA) (mi:MI) (b:MS) (Γ:Gam) (st:Q2):Q3u ga mi b Γ st=(mi Γ st).sbind fun q j=>yu ga b q.2 q.1 Γ j:=rfl
@[simp] theorem Qs5 (m:ME) (Γ:Gam) (st:Q2):U9 m Γ st=(m Γ st).bind fun p j=>(match Ws j p with | some (xs,w)=>if xs.length<=lim then .ok (xs,w) j else .stuck | none=>.stuck):=rfl
@[simp] theorem U5 (mr:ML) (Γ:Gam) (st:Q2):Zc mr Γ st=(mr Γ st).bind fun ps q=>(match ps with | [.int j]=>if -(lim:Int)<=j/\j<=lim then .ok (Ze 0 j.toNat,[]) q else .stuck | _=>.stuck):=rfl
@[simp] theorem Qh3 (mr:ML) (Γ:Gam) (st:Q2):Q4n mr Γ st=(mr Γ st).bind fun ps q=>(match ps with | [.int i,.int j]=>if -(lim:Int)<=i/\i<=lim/\-(lim:Int)<=j/\j<=lim then .ok (Ze i (j - i).toNat,[]) q else .stuck | _=>.stuck):=rfl
@[simp] theorem J0a (mr:ML) (Γ:Gam) (st:Q2):Q6w mr Γ st=(mr Γ st).bind fun ps j=>(match ps with | [p,q]=>(match Ws j p,Ws j q with | some (xs,w),zo (ys,z)=>if xs.length<=lim then .ok (Q7f xs ys,w ++ z) j else .stuck | _,_=>.stuck) | _=>.stuck):=rfl
@[simp] theorem Qyv (mr:ML) (Γ:Gam) (st:Q2):Qi9 mr Γ st=(mr Γ st).bind fun ps j=>(match ps with | [p]=>(match Ws j p with | some (xs,w)=>if xs.length<=lim then .ok (zc 0 xs,w) j else .stuck | none=>.stuck) | _=>.stuck):=rfl
@[simp] theorem Qvz (f:MF) (mo:ME) (mr:ML) (Γ:Gam) (st:Q2):mBM f mo mr Γ st=(mo Γ st).bind fun p j=>(match Q0t j p with | some _=>(mr Γ j).bind fun ps q=>f q p ps | none=>.stuck):=rfl
@[simp] theorem Qs8 (ga:GA) (m:ME) (Γ:Gam) (st:Q2):Qns ga m Γ st=(m Γ st).sbind fun p j=>(match ga p Γ with | some Γ1=>.nx Γ1 j | none=>.stuck):=rfl
@[simp] theorem Qk0 (mo mi m:ME) (Γ:Gam) (st:Q2):Q0s mo mi m Γ st=(m Γ st).sbind fun p q=>(mo Γ q).sbind fun o j=>(mi Γ j).sbind fun i z=>(match Q1e z o i p with | some B=>.nx Γ B | none=>.stuck):=rfl
@[simp] theorem Qwy (x:Str) (m:ME) (Γ:Gam) (st:Q2):Uj x m Γ st=(m Γ st).sbind fun _ j=>.exc ⟨x,zl⟩ j:=rfl
@[simp] theorem Qx2 (i:Nat) (p:PV) (Γ:Gam):Qk i p Γ=zo (Γ.set i (zo p)):=rfl
@[simp] theorem Qz7 (Γ:Gam):Vn [] Γ=zo Γ:=rfl
@[simp] theorem Qx3 (g:GA) (gs:GAs) (p:PV) (r:List PV) (Γ:Gam):Jx g gs (p :: r) Γ=(g p Γ).bind (gs r):=rfl
@[simp] theorem Qz6 (gs:GAs) (ps:List PV) (Γ:Gam):Vm gs (.tup ps) Γ=gs ps Γ:=rfl
@[simp] theorem J1f {α:Type} (a:α) (st:Q2):noX (Res.ok a st)=.ok a st:=rfl
@[simp] theorem Qwx {α:Type}:noX (Res.stuck:Res α)=.stuck:=rfl
@[simp] theorem Qej {α:Type} (st:Q2) (a:α):okO st (zo a)=.ok a st:=rfl
@[simp] theorem Qyg {α:Type} (st:Q2):okO st (zl:Option α)=.stuck:=rfl
@[simp] theorem J1y (g:Int->Int->PV) (st:Q2) (a b:Int):oI g st (.int a) (.int b)=.ok (g a b) st:=rfl
@[simp] theorem Qyp (st:Q2) (a b:Int):Yg st (.int a) (.int b)=.ok (.int (a + b)) st:=rfl
@[simp] theorem Qyn (st:Q2) (a b:List PV):Yg st (.tup a) (.tup b)=if a.length + b.length<=lim then .ok (.tup (a ++ b)) st else .stuck:=rfl
@[simp] theorem Qyi (st:Q2) (a b:Int):Q6u st (.int a) (.int b)=if (-(2 ^ 64) < a/\a < 2 ^ 64)\/(-(2 ^ 64) < b/\b < 2 ^ 64) then .ok (.int (a * b)) st else .stuck:=rfl
@[simp] theorem Qyh (st:Q2) (xs:List PV) (b:Int):Q6u st (.tup xs) (.int b)=if xs≠[]/\1<=b/\xs.length * b.toNat<=4096 then .ok (.tup (bR b.toNat xs).flatten) st else .stuck:=rfl
@[simp] theorem Qyj (st:Q2) (a b:Int):Q4h st (.int a) (.int b)=if 0 < b then .ok (.int (a % b)) st else .stuck:=rfl
@[simp] theorem Qym (st:Q2) (a b:Int):Qry st (.int a) (.int b)=if 0 < b/\b < 1073741824 then .ok (.int (a / b)) st else .stuck:=rfl
@[simp] theorem Qne (st:Q2) (a b:Int):Qnf st (.int a) (.int b)=if 0<=b/\b<=1000000/\a.natAbs < 2 ^ 64 then .ok (.int (a ^ b.toNat)) st else .stuck:=rfl
@[simp] theorem J04 (st:Q2) (a b:Int):oLt st (.int a) (.int b)=.ok (.bl (decide (a < b))) st:=rfl
@[simp] theorem J09 (st:Q2) (a b:Int):oEq st (.int a) (.int b)=.ok (.bl (a == b)) st:=rfl
@[simp] theorem J03 (st:Q2) (a b:Int):oNe st (.int a) (.int b)=.ok (.bl (!(a == b))) st:=rfl
@[simp] theorem J1e (st:Q2) (a b:Bool):oEq st (.bl a) (.bl b)=.ok (.bl (a == b)) st:=rfl
@[simp] theorem J1c (st:Q2) (a b:Bool):oNe st (.bl a) (.bl b)=.ok (.bl (!(a == b))) st:=rfl
@[simp] theorem J08 (st:Q2) (a b:Str):oEq st (.str a) (.str b)=.ok (.bl (a == b)) st:=rfl
@[simp] theorem J02 (st:Q2) (a b:Str):oNe st (.str a) (.str b)=.ok (.bl (!(a == b))) st:=rfl
@[simp] theorem J07 (st:Q2) (p:PV):oIs st p .non=.ok (.bl (Qfb p)) st:=rfl
@[simp] theorem J1d (st:Q2) (a b:Bool):oIs st (.bl a) (.bl b)=.ok (.bl (a == b)) st:=rfl
@[simp] theorem Qvi (st:Q2) (p:PV):Q8p st p .non=.ok (.bl (!Qfb p)) st:=rfl
@[simp] theorem Qww (st:Q2) (a b:Bool):Q8p st (.bl a) (.bl b)=.ok (.bl (a != b)) st:=rfl
@[simp] theorem Qx1 (st:Q2) (xs:List PV):Q21 st (.lst xs)=zo xs:=rfl
@[simp] theorem Qw0 (st:Q2) (xs:List PV):Q0t st (.lst xs)=zo xs:=rfl
@[simp] theorem Qw1 (st:Q2) (xs:List PV):Q0t st (.fro xs)=zo xs:=rfl
@[simp] theorem Qb7 (st:Q2) (xs:List PV):Ud st (.lst xs)=zo xs:=rfl
@[simp] theorem Qwu (st:Q2) (xs:List PV):Ud st (.fro xs)=zo xs:=rfl
@[simp] theorem Qj5 (st:Q2) (xs:List PV):Ud st (.tup xs)=zo xs:=rfl
@[simp] theorem Qws (st:Q2) (xs:List PV):Ws st (.lst xs)=zo (xs,[]):=rfl
@[simp] theorem Qwt (st:Q2) (xs:List PV):Ws st (.fro xs)=zo (xs,[]):=rfl
@[simp] theorem Qwr (st:Q2) (xs:List PV):Ws st (.tup xs)=zo (xs,[]):=rfl
theorem U8 {st:Q2} {i:Nat} {xs:List PV} (h:st[i]?=zo (.lst xs)):Q21 st (.ref i)=zo xs:=by simp only [Q21,h]
@[simp] theorem Qi3 (st:Q2) (xs:List PV) (i:Int):oIx st (.tup xs) (.int i)=okO st (atI xs i):=rfl
@[simp] theorem J05 (st:Q2) (xs:List PV) (i:Int):oIx st (.lst xs) (.int i)=okO st (atI xs i):=rfl
@[simp] theorem J06 (st:Q2) (xs:List PV) (i:Int):oIx st (.fro xs) (.int i)=okO st (atI xs i):=rfl
@[simp] theorem jw (st:Q2) (xs:List PV) (l h:Option Int):oSl st (.tup xs) l h=.ok (.tup (cut xs l h)) st:=rfl
@[simp] theorem J00 (st:Q2) (xs:List PV) (l h:Option Int):oSl st (.lst xs) l h=.ok (.lst (cut xs l h)) st:=rfl
@[simp] theorem J01 (st:Q2) (xs:List PV) (l h:Option Int):oSl st (.fro xs) l h=.ok (.lst (cut xs l h)) st:=rfl
@[simp] theorem Qzm (st:Q2) (xs:List PV):Zg st [.tup xs]=.ok (.int xs.length) st:=rfl
@[simp] theorem Qzn (st:Q2) (xs:List PV):Zg st [.lst xs]=.ok (.int xs.length) st:=rfl
@[simp] theorem Qzp (st:Q2) (xs:List PV):Zg st [.fro xs]=.ok (.int xs.length) st:=rfl
@[simp] theorem Qwf (st:Q2) (xs:List PV):Vh st [.tup xs]=.ok (.tup xs) st:=rfl
@[simp] theorem Qwg (st:Q2) (xs:List PV):Vh st [.lst xs]=.ok (.tup xs) st:=rfl
@[simp] theorem Q9r (g:List Bool->PV) (st:Q2) (bs:List Bool):x9 g st [.lst (bs.map .bl)]=.ok (g bs) st:=by
 simp only [x9,Qb7,fF,Qsy]
@[simp] theorem Qby (g:List Int->Option PV) (st:Q2) (ns:List Int):Wd g st [.lst (ns.map .int)]=okO st (g ns):=by
 simp only [Wd,Qb7,fF,Qfc]
@[simp] theorem Qks (g:List Int->Option PV) (st:Q2) (ns:List Int):Wd g st [.tup (ns.map .int)]=okO st (g ns):=by
 simp only [Wd,Qj5,fF,Qfc]
@[simp] theorem Q9q (st:Q2) (a b:Int):Q5x st [.int a,.int b]=.ok (.int (if b > a then b else a)) st:=rfl
@[simp] theorem Qfn (st:Q2) (a b:Int):Qfp st [.int a,.int b]=.ok (.int (if b < a then b else a)) st:=rfl
@[simp] theorem Qx5 (st:Q2):wOk [] st=True:=by simp [wOk]
@[simp] theorem Qp5 (st:Q2) (b:Bool):fin st (.bl b) st=.ok (.bl b) st:=by simp [fin,fz]
@[simp] theorem Qih (st:Q2) (b:Int):fin st (.int b) st=.ok (.int b) st:=by simp [fin,fz]
@[simp] theorem J0k (st:Q2):fin st .non st=.ok .non st:=by simp [fin,fz]
@[simp] theorem J0j (st:Q2) (b:Str):fin st (.str b) st=.ok (.str b) st:=by simp [fin,fz]
theorem Yq {st:Q2} {v:PV} (g:Jz 12 v=zb):fin st v st=.ok v st:=by
 simp only [fin,List.prefix_rfl,if_true,Q7a g (by decide:12 < 16),Qej]
theorem Q5u {st more:Q2} {v:PV} (g:Jz 12 v=zb):fin st v (st ++ more)=.ok v st:=by
 simp only [fin,dI,if_true,Q7a g (by decide:12 < 16),Qej]
theorem Jh:lim=1000000:=rfl
theorem Z0 {α:Type} (g f:α->PV) {ga:GA} {me:ME} {w:Wt} {Γ0:Gam} {st:Q2} (q:wOk w st) {ys:List α} (h:∀ y∈ys,∃ Γ1,ga (g y) Γ0=zo Γ1/\me Γ1 st=.ok (f y) st):Jn ga Je me w Γ0 (ys.map g) st=.ok (ys.map f) st:=by
 induction ys with
 | nil=>simp [Jn,q]
 | cons y ys j=>
  obtain ⟨Γ1,h1,h2⟩:=h y D1;have j:=j fun z hz=>h z (O9 _ hz)
  rw [E9,Jn,bK q,h1];simp [h2,j]
theorem Q2s {α:Type} (g f:α->PV) (t:α->Bool) {ga:GA} {mt:MT} {me:ME} {w:Wt} {Γ0:Gam} {st:Q2} (q:wOk w st) {ys:List α} (h:∀ y∈ys,∃ Γ1,ga (g y) Γ0=zo Γ1/\mt Γ1 st=.ok (t y) st/\(t y=zb->me Γ1 st=.ok (f y) st)):Jn ga mt me w Γ0 (ys.map g) st=.ok ((ys.filter t).map f) st:=by
 induction ys with
 | nil=>simp [Jn,q]
 | cons y ys j=>
  obtain ⟨Γ1,h1,h2,B⟩:=h y D1;have j:=j fun z hz=>h z (O9 _ hz)
  rw [E9,Jn,bK q,h1];simp only [h2,Jc,j];cases tx:t y with
  | true=>simp [B tx,tx,j]
  | false=>simp [tx]
@[simp] theorem Qzr {α:Type} (g:List Bool->PV) (st:Q2) (ys:List α) (b:α->Bool):x9 g st [.lst (ys.map fun y=>.bl (b y))]=.ok (g (ys.map b)) st:=by
 rw [show (ys.map fun y=>PV.bl (b y))=(ys.map b).map .bl by rw [G6]; rfl,Q9r]
@[simp] theorem Qkt {α:Type} (g:List Int->Option PV) (st:Q2) (ys:List α) (b:α->Int):Wd g st [.lst (ys.map fun y=>.int (b y))]=okO st (g (ys.map b)):=by
 rw [show (ys.map fun y=>PV.int (b y))=(ys.map b).map .int by rw [G6]; rfl,Qby]
theorem jg {α:Type} (g:α->PV) {xs:List α} (I:Nat->Gam->Q2->Prop) {ga:GA} {body:MS} {w:Wt} (G:∀ i Γ st,I i Γ st->wOk w st)
  (h:∀ (i:Nat) x Γ st,xs[i]?=zo x->I i Γ st->∃ Γ1,ga (g x) Γ=zo Γ1/\∃ B q,body Γ1 st=.nx B q/\I (i + 1) B q) {Γ:Gam} {st:Q2} (h0:I 0 Γ st):∃ j st',yu ga body w (xs.map g) Γ st=.nx j st'/\I xs.length j st':=by
 induction xs generalizing I Γ st with
 | nil=>exact ⟨Γ,st,by simp [yu,G 0 Γ st h0],h0⟩
 | cons x xs U=>
  obtain ⟨Γ1,h1,B,q,e2,Y⟩:=h 0 x Γ st rfl h0;obtain ⟨j,st',e3,O⟩:=U (fun i=>I (i + 1)) (fun i Γ st z=>G (i + 1) Γ st z) (fun i y Γ st J z=>h (i + 1) y Γ st (by simpa using J) z) Y
  refine ⟨j,st',?_,O⟩;rw [E9,yu,bK (G 0 Γ st h0),h1];simp only [e2];exact e3
theorem Q2m {α:Type} (g:α->PV) {xs:List α} (I:List α->Gam->Q2->Prop) {ga:GA} {body:MS} {w:Wt} (J:∀ pre Γ st,I pre Γ st->wOk w st)
  (h:∀ pre x j Γ st,xs=pre ++ x :: j->I pre Γ st->∃ Γ1,ga (g x) Γ=zo Γ1/\∃ B z,body Γ1 st=.nx B z/\I (pre ++ [x]) B z) {Γ:Gam} {st:Q2} (h0:I [] Γ st):∃ q st',yu ga body w (xs.map g) Γ st=.nx q st'/\I xs q st':=by
 have G:∀ (j pre:List α) (Γ:Gam) (st:Q2),xs=pre ++ j->I pre Γ st->∃ q st',yu ga body w (j.map g) Γ st=.nx q st'/\I xs q st':=by
  intro j
  induction j with
  | nil=>intro pre Γ st e i; exact ⟨Γ,st,by simp [yu,J pre Γ st i],by rw [e,L5]; exact i⟩
  | cons x j U=>
   intro pre Γ st e i;obtain ⟨Γ1,h1,B,z,e2,Y⟩:=h pre x j Γ st e i;obtain ⟨q,st',e3,O⟩:=U (pre ++ [x]) B z (by rw [e]; simp) Y;refine ⟨q,st',?_,O⟩;rw [E9,yu,bK (J pre Γ st i),h1];simp only [e2];exact e3
 exact G xs [] Γ st rfl h0
theorem qg {α β:Type} (f:α->PV) (g:β->PV) (xs:List α) (ys:List β):Q7f (xs.map f) (ys.map g)=(xs.zip ys).map fun z=>.tup [f z.1,g z.2]:=by
 rw [Qc5,List.zip_map,G6]; rfl
theorem Qbr {α:Type} (f:α->PV):∀ (n:Nat) (xs:List α),zc n (xs.map f)=(xs.zipIdx n).map fun z=>.tup [.int (z.2:Nat),f z.1]
 | n,[]=>rfl
 | n,x :: xs=>by rw [E9,zc,Qbr f (n + 1) xs]; rfl
theorem Vz {α:Type} (f:α->PV) (xs:List α) (i:Int):atI (xs.map f) i=(atI xs i).map f:=by
 unfold atI;rw [O2];cases ixN xs.length i with
 | none=>rfl
 | some j=>simp [E8]
theorem atI_get {α:Type} {xs:List α} {i:Nat} {x:α} (h:xs[i]?=zo x):atI xs (i:Int)=zo x:=by
 have j:=(O0.mp h).1;unfold atI ixN;rw [bK (by omega),bK (by omega)];simpa using h
theorem qc {α:Type} (f:α->PV) (xs:List α) (l h:Option Int):cut (xs.map f) l h=(cut xs l h).map f:=by
 unfold cut;rw [O2,<- List.map_drop,<- List.map_take]
theorem Wu (n:Nat):Ze 0 n=(bS n).map fun (k:Nat)=>PV.int (k:Int):=by
 unfold Ze;refine fw fun k _=>?_
 rw [Int.zero_add]
@[simp] theorem J0v {α:Type} (st l:List α) (c:α):(st ++ c :: l)[st.length]?=zo c:=by
 rw [D3 (O7 _),dL]; rfl
@[simp] theorem Qzx {α:Type} (st l:List α) (c d:α):(st ++ c :: d :: l)[st.length + 1]?=zo d:=by
 rw [D3 (by omega)];rw [show st.length + 1 - st.length=1 by omega]; rfl
@[simp] theorem J0u {α:Type} (st l:List α) (c d:α):(st ++ c :: l).set st.length d=st ++ d :: l:=by
 rw [gM _ _ (O7 _),dL]; rfl
@[simp] theorem Qzw {α:Type} (st l:List α) (c j d:α):(st ++ c :: j :: l).set (st.length + 1) d=st ++ c :: d :: l:=by
 rw [gM _ _ (by omega),show st.length + 1 - st.length=1 by omega]; rfl
@[simp] theorem J0t (st:Q2) (i:Nat) (g:List PV->Option (PV × List PV)):chg st (.ref i) g=(match st[i]? with | some (.lst xs)=>(match g xs with | some (r,ys)=>.ok r (st.set i (.lst ys)) | none=>.stuck) | _=>.stuck):=rfl
@[simp] theorem J0h (st:Q2) (i:Nat):Q21 st (.ref i)=(match st[i]? with | some (.lst xs)=>zo xs | _=>zl):=rfl
@[simp] theorem Qyw (st:Q2) (i:Nat):Q0t st (.ref i)=(match st[i]? with | some (.lst xs)=>zo xs | _=>zl):=rfl
@[simp] theorem Q72 (st:Q2) (i:Nat):Ud st (.ref i)=(match st[i]? with | some (.lst xs)=>zo xs | _=>zl):=rfl
@[simp] theorem Qqj (st:Q2) (i:Nat):Ws st (.ref i)=(match st[i]? with | some (.lst xs)=>zo (xs,[(i,.lst xs)]) | _=>zl):=rfl
@[simp] theorem Qts (st:Q2) (p y:PV):W0 st p [y]=chg st p fun xs=>if xs.length < lim then zo (.non,xs ++ [y]) else zl:=rfl
@[simp] theorem Qzk (st:Q2) (i:Nat):Vh st [.ref i]=(match st[i]? with | some (.lst xs)=>.ok (.tup xs) st | _=>.stuck):=by
 unfold Vh; simp only [Q72];cases st[i]? with
 | none=>rfl
 | some c=>cases c <;> rfl
@[simp] theorem Qps (st:Q2) (i:Nat):Zg st [.ref i]=(match st[i]? with | some (.lst xs)=>.ok (.int xs.length) st | _=>.stuck):=by
 unfold Zg; simp only [Q72];cases st[i]? with
 | none=>rfl
 | some c=>cases c <;> rfl
@[simp] theorem Qyk (st:Q2) (i:Nat) (j:Int):oIx st (.ref i) (.int j)=(match st[i]? with | some (.lst xs)=>okO st (atI xs j) | _=>.stuck):=by
 unfold oIx; simp only [Q72];cases st[i]? with
 | none=>rfl
 | some c=>cases c <;> rfl
@[simp] theorem Qzy (st:Q2) (k:Nat) (j:Int) (p:PV):Q1e st (.ref k) (.int j) p=(match st[k]? with | some (.lst xs)=>(ixN xs.length j).map fun n=>st.set k (.lst (xs.set n p)) | _=>zl):=rfl
theorem Q2r {α:Type} (xs:List α) (k:Nat):cut xs zl (zo (k:Int))=xs.take k:=by
 unfold cut;rw [HT.sIx_none,HT.sIx_nat,dj,gI];rcases gN k xs.length with h | h
 ·rw [gO h]
 ·rw [gP h,eZ,gQ h]
theorem x8 {α:Type} (xs:List α) (k:Nat):cut xs (zo (k:Int)) zl=xs.drop k:=by
 unfold cut;rw [HT.sIx_none,HT.sIx_nat];rcases gN k xs.length with h | h
 ·rw [gO h,gQ (by rw [cV]; omega)]
 ·rw [gP h,fE,List.drop_of_length_le h]; simp
theorem getD_some {α:Type} {l:List α} {j:Nat} (h:j < l.length) (d:α):l[j]?=zo (l.getD j d):=by
 rw [bW,O4 h]; rfl
def ListAt (st:Q2) (V:PV) (xs:List PV):Prop:=V=.lst xs\/V=.fro xs\/∃ i,V=.ref i/\st[i]?=zo (.lst xs)
theorem ListAt.ix {st:Q2} {V:PV} {xs:List PV} (h:ListAt st V xs) (j:Int):oIx st V (.int j)=okO st (atI xs j):=by
 rcases h with rfl | rfl | ⟨i,rfl,e⟩
 ·rfl
 ·rfl
 ·rw [Qyk,e]
theorem ListAt.len {st:Q2} {V:PV} {xs:List PV} (h:ListAt st V xs):Zg st [V]=.ok (.int xs.length) st:=by
 rcases h with rfl | rfl | ⟨i,rfl,e⟩
 ·rfl
 ·rfl
 ·rw [Qps,e]
theorem ListAt.src {st:Q2} {V:PV} {xs:List PV} (h:ListAt st V xs):∃ w,Ws st V=zo (xs,w)/\wOk w st:=by
 rcases h with rfl | rfl | ⟨i,rfl,e⟩
 ·exact ⟨[],rfl,by simp⟩
 ·exact ⟨[],rfl,by simp⟩
 ·exact ⟨[(i,.lst xs)],by rw [Qqj,e],by simp [wOk,e]⟩
theorem Qki {α:Type} (g:α->PV) {xs:List α} (I:Nat->List PV->Q2->Prop) {ga:GA} {me:ME} {w:Wt} {Γ0:Gam} (B:∀ i j st,I i j st->wOk w st)
  (h:∀ (i:Nat) x j st,xs[i]?=zo x->I i j st->∃ Γ1,ga (g x) Γ0=zo Γ1/\∃ v q,me Γ1 st=.ok v q/\I (i + 1) (j ++ [v]) q) {st:Q2} (h0:I 0 [] st):∃ j st',Jn ga Je me w Γ0 (xs.map g) st=.ok j st'/\I xs.length j st':=by
 have z:∀ (ys:List α) (k:Nat) (pre:List PV) (st:Q2),(∀ i,ys[i]?=xs[k + i]?)->k + ys.length=xs.length->I k pre st->∃ j st',Jn ga Je me w Γ0 (ys.map g) st=.ok j st'/\I xs.length (pre ++ j) st':=by
  intro ys
  induction ys with
  | nil=>
   intro k pre st e e2 i;refine ⟨[],st,by simp [Jn,B k pre st i],?_⟩;rw [L5,<- e2]; exact i
  | cons y ys U=>
   intro k pre st e e2 i;have J:xs[k]?=zo y:=by have:=e 0; simpa using this.symm
   obtain ⟨Γ1,h1,v,q,h2,Y⟩:=h k y pre st J i;obtain ⟨j,st',O,G⟩:=U (k + 1) (pre ++ [v]) q (fun i=>by
    have:=e (i + 1);rw [fD] at this;rw [this]; congr 1; omega) (by rw [<- e2,D4]; omega) Y
   refine ⟨v :: j,st',?_,by simpa using G⟩;rw [E9,Jn,bK (B k pre st i),h1];simp [Je,h2,O]
 obtain ⟨j,st',h1,h2⟩:=z xs 0 [] st (fun i=>by simp) (by simp) h0;exact ⟨j,st',h1,by simpa using h2⟩
theorem Q2g:∀ {xs:List PV},(∀ x∈xs,peq x x=zb)->X8 xs xs=zb
 | [],_=>rfl
 | x :: xs,h=>by
  rw [X8,h x D1,Q2g fun y j=>h y (O9 _ j)]; rfl
theorem Q1n:∀ {n:Nat} {p:PV},Jz n p=zb->peq p p=zb
 | n,.non,_=>rfl
 | n,.bl b,_=>by simp [peq]
 | n,.int b,_=>by simp [peq]
 | n,.str b,_=>by simp [peq]
 | n,.ref _,g=>by cases n <;> simp [Jz] at g
 | n,.dic,g=>by cases n <;> simp [Jz] at g
 | 0,.tup _,g=>by simp [Jz] at g
 | 0,.lst _,g=>by simp [Jz] at g
 | 0,.fro _,g=>by simp [Jz] at g
 | n + 1,.tup xs,g=>by
  rw [peq]; refine Q2g fun x j=>Q1n (n:=n) ?_
  simp [Jz] at g; exact g x j
 | n + 1,.lst xs,g=>by
  rw [peq]; refine Q2g fun x j=>Q1n (n:=n) ?_
  simp [Jz] at g; exact g x j
 | n + 1,.fro xs,g=>by
  rw [peq]; refine Q2g fun x j=>Q1n (n:=n) ?_
  simp [Jz] at g; exact g x j
theorem ListAt.eqs {st:Q2} {V:PV} {xs:List PV} (h:ListAt st V xs) (g:Jz dep (.lst xs)=zb):oNe st (.lst xs) V=.ok (.bl za) st/\oNe st V (.lst xs)=.ok (.bl za) st/\oEq st (.lst xs) V=.ok (.bl zb) st/\oEq st V (.lst xs)=.ok (.bl zb) st:=by
 have hp:X8 xs xs=zb:=by have:=Q1n g; rwa [peq] at this
 have g2:Jz dep (.fro xs)=zb:=g;rcases h with rfl | rfl | ⟨i,rfl,e⟩
 ·simp [oNe,oEq,der,g,peq,hp]
 ·simp [oNe,oEq,der,g,g2,peq,hp]
 ·simp [oNe,oEq,der,g,g2,peq,hp,e]
section
variable {X:Cx} {E:XK} {a b:aD} {ma mb:ME} {pos:Pos}
end
def Zs (body:MS) (nl:Nat):FN:=fun ps st=>match body (ps.map zo ++ bR (nl - ps.length) zl) st with
 | .rt v st'=>.ok v st'
 | .nx _ st'=>.ok .non st'
 | .exc x st'=>.exc x st'
 | _=>.stuck
section
variable {P:aN} {w:aL} {K:bQ} {mg:Str->Option aB} {base:Heap}
theorem Qsm {x qual:Str} {st:aK} {f:aA} {fd:aO} {N ps:List Str} {k:Nat} {m:MS} (F:Fun K x qual st f fd) (S:FnScope N ps (Qb st))
  (U:∀ (q:aB) (A:aQ) (outer:List dl) (s:aC) (H:Hp) (E:XK),Room k (A.deeper (dm qual (Qb st) s.heap.objs.size f q))->SimB (cxD P w K mg base N qual (Qb st) f q A outer s H E) E (Zt st) m) :
  FnOk P w K mg base (CXD P w) (k + 1) f fd ps (spF mg ps.length (Zs m N.length)):=by
 refine Fun.okD F S (fun vs H Q E h=>h.1) fun q A outer s H vs Q E Z O=>⟨_,Q87,?_⟩
 obtain ⟨hl,ρ,G,I,R,rl,j⟩:=O;refine (U q A outer s H E Z).run _ (L2.start N vs) H ρ G _ R (Qb5 rl) ?_;unfold Zs at j;cases B:m (I.map zo ++ bR (N.length - I.length) zl) G with
 | rt v z=>rw [B] at j; exact fun v H' ρ' x J r=>j H' ρ' x J v r
 | nx Γ z=>rw [B] at j; exact fun Y H' ρ' x' J G'=>j H' ρ' x' J .non rfl
 | bk Γ z=>rw [B] at j; exact j.elim
 | ct Γ z=>rw [B] at j; exact j.elim
 | stuck=>rw [B] at j; exact j.elim
 | exc y z=>rw [B] at j; exact j
end
theorem Yb {P:aN} {w:aL} {K:bQ} {mg:Str->Option aB} {base:Heap} {x qual:Str} {st:aK} {f:aA} {fd:aO} {N ps:List Str} {k n nl:Nat} {m:MS} {z:FN} (F:Fun K x qual st f fd) (S:FnScope N ps (Qb st)) (G:ps.length=n) (q:N.length=nl) (I:z=Zs m nl)
  (B:∀ (j:aB) (A:aQ) (outer:List dl) (s:aC) (H:Hp) (E:XK),Room k (A.deeper (dm qual (Qb st) s.heap.objs.size f j))->SimB (cxD P w K mg base N qual (Qb st) f j A outer s H E) E (Zt st) m) :
  FnOk P w K mg base (CXD P w) (k + 1) f fd ps (spF mg n z):=by
 subst G; subst q; subst I;exact Qsm F S B
end Sm
namespace Sm
open PySem PySem.Spec PyProof.Rows L2
section
variable {X:Cx} {E:XK} {pos:Pos} {a b:aD} {ma mb:ME}
end
end Sm
namespace Sm
open PySem PySem.Spec L2
def Q3k (w:Str):V:=if w = "make" then .int 3 else if w = "lend" then .int 4 else if w = "use" then .int 3 else .non
structure PartsOk (P:aN) (w:aL) (K:bQ) (mg:Str->Option aB):Prop where
 ex:∃ (a:aA) (o:Obj) (es:Array DictEntry) (ep:Nat),mg "PARTS_OF_DEED" = zo (.ref a)/\K.lookup a=zo o/\o.cls=.type "dict" /\ o.ExactDict/\o.data=.dict es ep/\KeysOf (J9 P w) es/\(a == af)=za/\∀ x,RelV (Q3k x) ((findBy (J9 P w).is es (.inr x)).getD .none)
def Qh4 (m:ME):ME:=fun Γ st=>(m Γ st).bind fun p st1=>match p with
 | .str x=>if x = "make" then .ok (.int 3) st1 else if x = "lend" then .ok (.int 4) st1 else if x = "use" then .ok (.int 3) st1 else .ok .non st1
 | _=>.stuck
section
variable {X:Cx} {E:XK} {pos:Pos} {e:aD} {m:ME}
theorem Qmf {p apos cpos:Pos} (PO:PartsOk X.prog X.w X.K X.mg) (Y:Gl X "PARTS_OF_DEED") (Z:SimE X E e m)
  (base:ai (.Name "PARTS_OF_DEED" p) "get" X.env (aM (.Name "PARTS_OF_DEED" p) X.env)=aM (.Name "PARTS_OF_DEED" p) X.env:=by rfl)
  (few:((aU cpos (aP [e] X.env)).all (fun x=>!x.1) && (backToKw cpos (keywordEach [] X.env)).all (fun x=>x.1.isSome)
   && decide (([e]:List aD).length + ([]:List Keyword).length + (if ([]:List Keyword).isEmpty then 0 else 1) < 30))=zb:=by rfl)
  (line:(apos.endLine == cpos.line)=zb:=by rfl) (trees:aU cpos (aP [e] X.env)=[(za,aM e X.env)]:=by rfl) :
  SimE X E (.Call (.Attribute (.Name "PARTS_OF_DEED" p) "get" apos) [e] [] cpos) (Qh4 m):=by
 obtain ⟨a,o,es,ep,pm,pl,pt,U,O,pk,ps,J⟩:=PO.ex;refine ⟨fun Γ σ H ρ st Q R G h=>WE.of (Qea (val:=Q3k) Y pm pl pt U O pk ps J Zx (by decide) base few line trees) (Z.use R G h.bind fun q j H1 ρ1 v x1 B G1 r1 h1=>?_)⟩;cases q with
 | str x=>
  cases r1;have h1:Acc X.mg E H1 ρ1 (QV Q) (if x = "make" then .ok (.int 3) j else if x = "lend" then .ok (.int 4) j else if x = "use" then .ok (.int 3) j else .ok .non j):=h1
  by_cases a1:x = "make"
  ·rw [bK a1] at h1;exact ⟨x,rfl,by unfold Q3k; rw [bK a1]; exact now B h1 rfl⟩
  ·rw [bL a1] at h1
   by_cases z:x = "lend"
   ·rw [bK z] at h1;exact ⟨x,rfl,by unfold Q3k; rw [bL a1,bK z]; exact now B h1 rfl⟩
   ·rw [bL z] at h1
    by_cases I:x = "use"
    ·rw [bK I] at h1;exact ⟨x,rfl,by unfold Q3k; rw [bL a1,bL z,bK I]; exact now B h1 rfl⟩
    ·rw [bL I] at h1;exact ⟨x,rfl,by unfold Q3k; rw [bL a1,bL z,bL I]; exact now B h1 rfl⟩
 | _=>exact h1.elim
end
section
theorem Qn7 {P:aN} {w:aL} {K:bQ} {mg:Str->Option aB} {G:aA} {t1 t2 t3 q B j:Tok} {Z:Nat} (Y:mg "PARTS_OF_DEED" = zo (.ref G))
  (lk:K.lookup G=zo ⟨.type "dict",zl,.dict #[⟨PyData.keyHash w.params "make",.str "make" t1,.int 3 q⟩,⟨PyData.keyHash w.params "lend",.str "lend" t2,.int 4 B⟩,⟨PyData.keyHash w.params "use",.str "use" t3,.int 3 j⟩] Z,#[]⟩) (hp:(G == af)=za):PartsOk P w K mg:=by
 refine ⟨G,_,_,_,Y,lk,rfl,⟨rfl,rfl,rfl⟩,rfl,fun e U=>?_,hp,fun x=>?_⟩
 ·simp only [gR,E5,cK,or_false] at U;rcases U with rfl | rfl | rfl
  ·exact ⟨.inr "make",by simp [J9,Kg,bj],rfl⟩
  ·exact ⟨.inr "lend",by simp [J9,Kg,bj],rfl⟩
  ·exact ⟨.inr "use",by simp [J9,Kg,bj],rfl⟩
 ·unfold Q3k
  by_cases e1:x = "make"
  ·rw [bK e1]; subst e1;have:findBy (J9 P w).is #[⟨PyData.keyHash w.params "make",.str "make" t1,.int 3 q⟩,⟨PyData.keyHash w.params "lend",.str "lend" t2,.int 4 B⟩,⟨PyData.keyHash w.params "use",.str "use" t3,.int 3 j⟩] (.inr "make")=zo (.int 3 q):=by first | rfl | decide +kernel
   rw [this]; exact ⟨_,rfl⟩
  ·rw [bL e1]
   by_cases e2:x = "lend"
   ·rw [bK e2]; subst e2;have:findBy (J9 P w).is #[⟨PyData.keyHash w.params "make",.str "make" t1,.int 3 q⟩,⟨PyData.keyHash w.params "lend",.str "lend" t2,.int 4 B⟩,⟨PyData.keyHash w.params "use",.str "use" t3,.int 3 j⟩] (.inr "lend")=zo (.int 4 B):=by first | rfl | decide +kernel
    rw [this]; exact ⟨_,rfl⟩
   ·rw [bL e2]
    by_cases e3:x = "use"
    ·rw [bK e3]; subst e3;have:findBy (J9 P w).is #[⟨PyData.keyHash w.params "make",.str "make" t1,.int 3 q⟩,⟨PyData.keyHash w.params "lend",.str "lend" t2,.int 4 B⟩,⟨PyData.keyHash w.params "use",.str "use" t3,.int 3 j⟩] (.inr "use")=zo (.int 3 j):=by first | rfl | decide +kernel
     rw [this]; exact ⟨_,rfl⟩
    ·rw [bL e3];have J:¬ (bP "make" = x):=fun z=>e1 z.symm
     have I:¬ (bP "lend" = x):=fun z=>e2 z.symm
     have O:¬ (bP "use" = x):=fun z=>e3 z.symm
     have:findBy (J9 P w).is #[⟨PyData.keyHash w.params "make",.str "make" t1,.int 3 q⟩,⟨PyData.keyHash w.params "lend",.str "lend" t2,.int 4 B⟩,⟨PyData.keyHash w.params "use",.str "use" t3,.int 3 j⟩] (.inr x)=zl:=by
      simp [findBy,J9,Kg,bj,J,I,O]
     rw [this]; rfl
end
def Q62 (k1 k2 k3:Str) (p1 p2 p3:PV) (st4:Q2):PV->Res PV
 | .str x=>if x=k1 then .ok p1 st4 else if x=k2 then .ok p2 st4 else if x=k3 then .ok p3 st4 else .stuck
 | _=>.stuck
def Qf2 (k1 k2 k3:Str) (m1 m2 m3 mi:ME):ME:=fun Γ st=>(m1 Γ st).bind fun p1 st1=>(m2 Γ st1).bind fun p2 st2=>(m3 Γ st2).bind fun p3 st3=>(mi Γ st3).bind fun q st4=>Q62 k1 k2 k3 p1 p2 p3 st4 q
section
variable {X:Cx} {E:XK} {pos dpos:Pos} {e1 e2 e3 i:aD} {m1 m2 m3 mi:ME} {k1 k2 k3:Str} {j1 j2 j3:Nat} {q1 q2 q3:Pos}
theorem Qqs (hu:X.A.units + 1 < ac) (h1:SimE X E e1 m1) (h2:SimE X E e2 m2) (h3:SimE X E e3 m3) (hi:SimE X E i mi) (hs:Qt1 i) (a8:k1≠k2:=by decide) (b0:k1≠k3:=by decide) (a9:k2≠k3:=by decide) :
  SimE X E (.Subscript (.Dict [zo (.Constant (.str k1) j1 q1),zo (.Constant (.str k2) j2 q2),zo (.Constant (.str k3) j3 q3)] [e1,e2,e3] dpos) i pos) (Qf2 k1 k2 k3 m1 m2 m3 mi):=by
 refine ⟨fun Γ σ H ρ st Q R G h=>WE.of (Qhy hu (Qhx (yn Q1p Zx (yn Q1p Zx (yn Q1p Zx Qhw))) rfl rfl (by simp) (by simp)) Zx hs) ?_⟩;intro p hp;have x0:Ext H ρ (upd H p (.dK [])) (ρ.hide p):=Ext.hide hp;refine h1.use' (R.hide hp) (G.hide hp) (h.bind.later x0) fun a1 b5 H1 ρ1 U f1 x1 R1 G1 r1 _=>?_
 have h:=h;unfold Qf2 at h;rw [f1] at h;have h:Acc X.mg E H ρ (QV Q) ((m2 Γ b5).bind fun p2 a6=>(m3 Γ a6).bind fun p3 I=>(mi Γ I).bind fun q j=>Q62 k1 k2 k3 a1 p2 p3 j q):=h
 refine h2.use' R1 G1 (h.bind.later (x0.trans x1)) fun a2 a6 H2 b7 O f2 x2 R2 G2 r2 _=>?_
 rw [f2] at h;have h:Acc X.mg E H ρ (QV Q) ((m3 Γ a6).bind fun p3 I=>(mi Γ I).bind fun q j=>Q62 k1 k2 k3 a1 a2 p3 j q):=h
 refine h3.use' R2 G2 (h.bind.later ((x0.trans x1).trans x2)) fun a3 I H3 Y J f3 x3 R3 G3 r3 _=>?_
 rw [f3] at h;have h:Acc X.mg E H ρ (QV Q) ((mi Γ I).bind fun q j=>Q62 k1 k2 k3 a1 a2 a3 j q):=h
 have a7:Ext H ρ H3 Y:=((x0.trans x1).trans x2).trans x3;have xe:Ext (upd H p (.dK [])) (ρ.hide p) H3 Y:=(x1.trans x2).trans x3;have b6:p∉(ρ.hide p).tr:=fun z=>R.fresh hp (.inl z)
 have b4:H3 p=zo (.dK []):=xe.keep p _ Jg b6;have B:p∈Y.hid:=xe.hidM p D1;refine ⟨b4,[(.inr k1,U),(.inr k2,O),(.inr k3,J)],rfl,by simp,?_⟩;have hm:Q0i [] [((.inr k1:Key),U),(.inr k2,O),(.inr k3,J)]=[(.inr k1,U),(.inr k2,O),(.inr k3,J)]:=by
  simp [Q0i,Qac,a8,b0,a9]
 rw [hm];obtain ⟨o,ho⟩:∃ o:HO,o=.dK [(.inr k1,U),(.inr k2,O),(.inr k3,J)]:=⟨_,rfl⟩;rw [<- ho];have y:Ext H ρ (upd H3 p o) Y:=a7.put0 hp;refine hi.use' (R3.rehide B (by intro _ z; rw [ho] at z; cases z)) (G3.rehide B) (h.bind.later y) fun q j H4 a4 v4 f4 x4 R4 G4 r4 _=>?_
 rw [f4] at h;have h:Acc X.mg E H ρ (QV Q) (Q62 k1 k2 k3 a1 a2 a3 j q):=h;have Z:Ext H ρ H4 a4:=y.trans x4;have a5:H4 p=zo o:=x4.keep p _ Jg fun z=>R3.ap p B z
 have g1:Rep H4 a4 a1 U:=(((r1.ext x2).ext x3).rehide B).ext x4;have g2:Rep H4 a4 a2 O:=((r2.ext x3).rehide B).ext x4;have g3:Rep H4 a4 a3 J:=(r3.rehide B).ext x4;cases q with
 | str x=>
  cases r4;have h:Acc X.mg E H ρ (QV Q) (if x=k1 then .ok a1 j else if x=k2 then .ok a2 j else if x=k3 then .ok a3 j else .stuck):=h;rw [ho] at a5
  by_cases b1:x=k1
  ·rw [bK b1] at h;refine ⟨p,U,rfl,?_,h _ _ Z.unhide (R4.unhide Z.hidM) _ (g1.unhide Z.hidM)⟩;have:=DGet.k (k:=.inr x) a5
   rwa [show qk [((.inr k1:Key),U),(.inr k2,O),(.inr k3,J)] (.inr x)=zo U by rw [b1]; simp [qk]] at this
  ·rw [bL b1] at h
   by_cases b2:x=k2
   ·rw [bK b2] at h;refine ⟨p,O,rfl,?_,h _ _ Z.unhide (R4.unhide Z.hidM) _ (g2.unhide Z.hidM)⟩;have:=DGet.k (k:=.inr x) a5
    rwa [show qk [((.inr k1:Key),U),(.inr k2,O),(.inr k3,J)] (.inr x)=zo O by rw [b2]; simp [qk,a8]] at this
   ·rw [bL b2] at h
    by_cases b3:x=k3
    ·rw [bK b3] at h;refine ⟨p,J,rfl,?_,h _ _ Z.unhide (R4.unhide Z.hidM) _ (g3.unhide Z.hidM)⟩;have:=DGet.k (k:=.inr x) a5
     rwa [show qk [((.inr k1:Key),U),(.inr k2,O),(.inr k3,J)] (.inr x)=zo J by rw [b3]; simp [qk,b0,a9]] at this
    ·rw [bL b3] at h; exact h.elim
 | _=>exact h.elim
end
def Qd0 (x name:Str) (m:ME):MS:=fun Γ st=>(m Γ st).sbind fun p st1=>.exc ⟨x,zo (name,p)⟩ st1
section
variable {X:Cx} {E:XK} {pos:Pos} {e:aD} {m:ME}
theorem Qj3 {x name:Str} {C W f:aA} {fd:aO} {k:Nat} {ps:List Str} {np cpos:Pos} (j:X.calm=zb) (U:Q9v X E) (M:XMade X.K C W f) (Y:FnOk X.prog X.w X.K X.mg X.base CX0 k f fd ps (Q7s C name)) (hr:Room (k + 1) X.A)
  (O:Binds X.K fd ps []) (Z:Gl X x) (I:X.mg x=zo (.ref C)) (he:SimE X E e m) (B:(x == ("__debug__" : Str))=za:=by decide) (q:aP [e] X.env=[(za,aM e X.env)]:=by rfl) :
  SimS X E (.Raise (zo (.Call (.Name x np) [e] [] cpos)) zl pos) (Qd0 x name m):=
 ⟨fun Γ σ H ρ st D R G h=>WS.of (Qje j U M Y hr O Z I (Q0c Zx Q8c (by rw [q]; rfl)) B q) (he.use R G h.bind fun p a2 H1 ρ1 v x1 J G1 r1 h1=>
  ⟨v,rfl,fun dx z=>h1 C (zo dx) _ ρ1 I (Ext.add z) (J.add z) ⟨dx,v,rfl,Jg,J.fresh z,r1.ext (Ext.add z)⟩⟩)⟩
end
@[simp] theorem Qwz (m:ME) (Γ:Gam) (st:Q2):Qh4 m Γ st=(m Γ st).bind fun p j=>(match p with
 | .str x=>if x = "make" then .ok (.int 3) j else if x = "lend" then .ok (.int 4) j else if x = "use" then .ok (.int 3) j else .ok .non j
 | _=>.stuck):=rfl
@[simp] theorem Qnp (k1 k2 k3:Str) (m1 m2 m3 mi:ME) (Γ:Gam) (st:Q2):Qf2 k1 k2 k3 m1 m2 m3 mi Γ st=(m1 Γ st).bind fun I G=>(m2 Γ G).bind fun p2 j=>(m3 Γ j).bind fun J B=>(mi Γ B).bind fun q z=>Q62 k1 k2 k3 I p2 J z q:=rfl
@[simp] theorem Q59 (k1 k2 k3:Str) (q p2 z:PV) (j:Q2) (x:Str):Q62 k1 k2 k3 q p2 z j (.str x)=if x=k1 then .ok q j else if x=k2 then .ok p2 j else if x=k3 then .ok z j else .stuck:=rfl
@[simp] theorem Qvv (x name:Str) (m:ME) (Γ:Gam) (st:Q2):Qd0 x name m Γ st=(m Γ st).sbind fun p j=>.exc ⟨x,zo (name,p)⟩ j:=rfl
theorem W4 {k:Nat} {A:aQ} (r:Room k A):A.units + 1 < ac:=by have:=r.un; omega
section
variable {X:Cx} {E:XK}
end
section
variable {H0 H:Hp} {ρ0 ρ:Tk} {st:Q2} {a:aA} {ps:List (Key × PV)} {vs:List (Key × V)}
theorem Qn8 (R0:Rel H0 ρ0 st) (x:Ext H0 ρ0 H ρ) {j:Q2} (R:Rel H ρ j) (G:a∈ρ.hid) (U:H0 a=zl) (Z:H a=zo (.dK vs)) (r:RepD H ρ ps vs) :
  Ext H0 ρ0 H ⟨ρ.tr ++ [a],ρ0.hid⟩/\Rel H ⟨ρ.tr ++ [a],ρ0.hid⟩ (j ++ [.dic ps])/\Rep H ⟨ρ.tr ++ [a],ρ0.hid⟩ (.ref j.length) (.ref a):=by
 have J:a∉ρ0.hid:=fun z=>by
  obtain ⟨o,e,_⟩:=R0.hd a z;rw [U] at e; cases e
 refine ⟨⟨x.pre.trans (dI _ _),fun _ h=>h,fun _ h=>.inl h,x.keep,fun b B=>?_,x.old,x.frz⟩,⟨?_,?_,fun b B=>R.hd b (x.hidM b B),fun b B z=>?_,fun i b c h1 h2=>?_⟩,a,?_,rfl⟩
 ·rcases E7.mp B with z | z
  ·exact x.new b z
  ·have:b=a:=by simpa using z
   subst this; exact .inr U
 ·show (ρ.tr ++ [a]).length=_;rw [D0,D0,R.len]; rfl
 ·show (ρ.tr ++ [a]).Nodup;refine cz.mpr ⟨R.nd,by simp,fun b B c Y e=>?_⟩;have:c=a:=by simpa using Y
  subst this; subst e;exact R.ap b G B
 ·rcases E7.mp z with z | z
  ·exact R.ap b (x.hidM b B) z
  ·have:b=a:=by simpa using z
   subst this; exact J B
 ·have h1:(ρ.tr ++ [a])[i]?=zo b:=h1
  by_cases hi:i < j.length
  ·rw [O5 (by rw [R.len]; exact hi)] at h1;rw [O5 hi] at h2;have q:=R.cell i b c h1 h2;cases c with
   | lst I=>
    obtain ⟨us,e1,e2⟩:=q;exact ⟨us,e1,e2.trk G x.hidM⟩
   | dic I=>
    obtain ⟨us,e1,e2⟩:=q;exact ⟨us,e1,e2.1,e2.2.trk G x.hidM⟩
   | dtp I=>
    obtain ⟨us,e1,e2⟩:=q;exact ⟨us,e1,e2.1,e2.2.trk G x.hidM⟩
   | frd I=>
    obtain ⟨us,e1,e2⟩:=q;exact ⟨us,e1,e2.1,e2.2.trk G x.hidM⟩
   | obj C I=>
    obtain ⟨us,e1,e2⟩:=q;exact ⟨us,e1,e2.1,e2.2.trk G x.hidM⟩
  ·rw [D3 (by rw [R.len]; omega)] at h1;rw [D3 (by omega)] at h2;have O:i - j.length=0:=by
    rcases fA (i - j.length) with z | z
    ·exact z
    ·rw [F3 (by simp; omega)] at h2; cases h2
   rw [R.len,O] at h1;rw [O] at h2;simp at h1 h2;subst h1; subst h2;exact ⟨vs,Z,r.1,r.2.trk G x.hidM⟩
 ·show (ρ.tr ++ [a])[j.length]?=zo a;rw [<- R.len,D3 (O7 _),dL]; rfl
end
def Q2u (kvs:List (Key × PV)) (k:Key):Option PV:=(kvs.find? fun kv=>decide (kv.1=k)).map (·.2)
def Qnw:PV->Option Key
 | .int i=>zo (.inl i)
 | .str x=>zo (.inr x)
 | _=>zl
theorem Qqv {H:Hp} {ρ:Tk} {p:PV} {v:V} {k:Key} (e:Qnw p=zo k) (r:Rep H ρ p v):v=kV k:=by
 cases p with
 | int i=>cases e; exact r
 | str x=>cases e; exact r
 | _=>cases e
theorem Qe4 {H:Hp} {ρ:Tk}:∀ {kvs:List (Key × PV)} {vs:List (Key × V)},RepD H ρ kvs vs->∀ k:Key,(Q2u kvs k=zl/\qk vs k=zl)\/∃ p v,Q2u kvs k=zo p/\qk vs k=zo v/\Rep H ρ p v
 | [],[],_,k=>.inl ⟨rfl,rfl⟩
 | [],_ :: _,r,_=>by have:=r.length; cases this
 | _ :: _,[],r,_=>by have:=r.length; cases this
 | (k1,z) :: kvs,(k2,j) :: vs,r,k=>by
  obtain ⟨r1,v,t,e,r2,B⟩:=r;have e1:k2=k1/\vs.map cy=kvs.map cy:=by
   have:k2 :: vs.map cy=k1 :: kvs.map cy:=r1;exact List.cons.inj this
  have e2:j :: vs.map ez=v :: t:=e;cases e2;obtain ⟨rfl,e3⟩:=e1
  by_cases q:k2=k
  ·exact .inr ⟨z,j,by simp [Q2u,q],by simp [qk,q],r2⟩
  ·have G:=Qe4 (kvs:=kvs) (vs:=vs) ⟨e3,B⟩ k;have a1:Q2u ((k2,z) :: kvs) k=Q2u kvs k:=by simp [Q2u,cJ,q]
   have I:qk ((k2,j) :: vs) k=qk vs k:=by simp [qk,cJ,q]
   rw [a1,I]; exact G
section
variable {X:Cx} {E:XK} {pos dpos apos cpos:Pos} {e e1 e2 e3 i o f:aD} {m m1 m2 m3 mi mo mf:ME} {k1 k2 k3:Str} {j1 j2 j3:Nat} {q1 q2 q3:Pos}
def Qd2 (k1 k2 k3:Str) (m1 m2 m3:ME):ME:=fun Γ st=>(m1 Γ st).bind fun p1 st1=>(m2 Γ st1).bind fun p2 st2=>(m3 Γ st2).bind fun p3 st3=>.ok (.ref st3.length) (st3 ++ [.dic [(.inr k1,p1),(.inr k2,p2),(.inr k3,p3)]])
theorem Qmg (h1:SimE X E e1 m1) (h2:SimE X E e2 m2) (h3:SimE X E e3 m3) (a6:k1≠k2:=by decide) (a9:k1≠k3:=by decide) (a7:k2≠k3:=by decide) :
  SimE X E (.Dict [zo (.Constant (.str k1) j1 q1),zo (.Constant (.str k2) j2 q2),zo (.Constant (.str k3) j3 q3)] [e1,e2,e3] dpos) (Qd2 k1 k2 k3 m1 m2 m3):=by
 refine ⟨fun Γ σ H ρ st Q R G h=>WE.of (Qhx (yn Q1p Zx (yn Q1p Zx (yn Q1p Zx Qhw))) rfl rfl (by simp) (by simp)) ?_⟩;intro p hp;have x0:Ext H ρ (upd H p (.dK [])) (ρ.hide p):=Ext.hide hp;refine h1.use' (R.hide hp) (G.hide hp) (h.bind.later x0) fun a1 a5 H1 ρ1 U f1 x1 R1 G1 r1 _=>?_
 have h:=h;unfold Qd2 at h;rw [f1] at h;have h:Acc X.mg E H ρ (QV Q) ((m2 Γ a5).bind fun p2 O=>(m3 Γ O).bind fun p3 j=>.ok (.ref j.length) (j ++ [.dic [(.inr k1,a1),(.inr k2,p2),(.inr k3,p3)]])):=h
 refine h2.use' R1 G1 (h.bind.later (x0.trans x1)) fun a2 O H2 b0 J f2 x2 R2 G2 r2 _=>?_
 rw [f2] at h;have h:Acc X.mg E H ρ (QV Q) ((m3 Γ O).bind fun p3 j=>.ok (.ref j.length) (j ++ [.dic [(.inr k1,a1),(.inr k2,a2),(.inr k3,p3)]])):=h
 refine h3.use' R2 G2 (h.bind.later ((x0.trans x1).trans x2)) fun a3 j Z B I f3 x3 R3 G3 r3 _=>?_
 rw [f3] at h;have h:Acc X.mg E H ρ (QV Q) (.ok (.ref j.length) (j ++ [.dic [(.inr k1,a1),(.inr k2,a2),(.inr k3,a3)]])):=h;have Y:Ext H ρ Z B:=((x0.trans x1).trans x2).trans x3;have xe:Ext (upd H p (.dK [])) (ρ.hide p) Z B:=(x1.trans x2).trans x3;have a8:p∉(ρ.hide p).tr:=fun z=>R.fresh hp (.inl z)
 have a4:Z p=zo (.dK []):=xe.keep p _ Jg a8;have q:p∈B.hid:=xe.hidM p D1;refine ⟨a4,[(.inr k1,U),(.inr k2,J),(.inr k3,I)],rfl,by simp,?_⟩;have hm:Q0i [] [((.inr k1:Key),U),(.inr k2,J),(.inr k3,I)]=[(.inr k1,U),(.inr k2,J),(.inr k3,I)]:=by
  simp [Q0i,Qac,a6,a9,a7]
 rw [hm];have y:Ext H ρ (upd Z p (.dK [(.inr k1,U),(.inr k2,J),(.inr k3,I)])) B:=Y.put0 hp;have g1:=((r1.ext x2).ext x3).rehide (o:=.dK [(.inr k1,U),(.inr k2,J),(.inr k3,I)]) q;have g2:=(r2.ext x3).rehide (o:=.dK [(.inr k1,U),(.inr k2,J),(.inr k3,I)]) q;have g3:=r3.rehide (o:=.dK [(.inr k1,U),(.inr k2,J),(.inr k3,I)]) q;obtain ⟨x5,R5,r5⟩:=Qn8 (ps:=[(.inr k1,a1),(.inr k2,a2),(.inr k3,a3)]) R y (R3.rehide q) q hp Jg ⟨rfl,RepL.cons g1 (RepL.cons g2 (RepL.cons g3 RepL.nil))⟩;exact h _ _ x5 R5 _ r5
@[simp] theorem Qk1 (Γ:Gam) (st:Q2):Qd2 k1 k2 k3 m1 m2 m3 Γ st=(m1 Γ st).bind fun B z=>(m2 Γ z).bind fun p2 q=>(m3 Γ q).bind fun G j=>.ok (.ref j.length) (j ++ [.dic [(.inr k1,B),(.inr k2,p2),(.inr k3,G)]]):=rfl
end
def Qbt (st:Q2):PV->Option (List (Key × PV))
 | .ref i=>match st[i]? with
  | some (.dic kvs)=>zo kvs
  | some (.frd kvs)=>zo kvs
  | _=>zl
 | _=>zl
theorem Qpc {H:Hp} {ρ:Tk} {st:Q2} {p:PV} {v:V} {kvs:List (Key × PV)} (R:Rel H ρ st) (r:Rep H ρ p v) (e:Qbt st p=zo kvs):∃ i a vs,p=.ref i/\v=.ref a/\ρ.tr[i]?=zo a/\Rd H a (.dK vs)/\RepD H ρ kvs vs:=by
 cases p with
 | ref i=>
  obtain ⟨a,B,rfl⟩:=r;unfold Qbt at e;cases z:st[i]? with
  | none=>simp only [z] at e; cases e
  | some c=>
   simp only [z] at e;cases c with
   | dic j=>
    cases e;obtain ⟨b,vs,q,G,rd⟩:=R.dic z;rw [B] at q;cases q;exact ⟨i,a,vs,rfl,rfl,B,.inl G,rd⟩
   | frd j=>
    cases e;obtain ⟨b,vs,o,q,G,rd⟩:=R.frd z;rw [B] at q;cases q;exact ⟨i,a,vs,rfl,rfl,B,.inr ⟨o,G⟩,rd⟩
   | lst xs=>cases e
   | dtp xs=>cases e
   | obj C xs=>cases e
 | _=>cases e
theorem DGet.kr {H:Hp} {a:aA} {kvs:List (Key × V)} {k:Key} (e:Rd H a (.dK kvs)):DGet H a (kV k) (qk kvs k):=.inl ⟨kvs,k,e,rfl,rfl⟩
section
variable {X:Cx} {E:XK} {pos dpos tpos:Pos} {e i o k:aD} {m mi mo mk:ME}
def J21 (neg:Bool):OP:=fun st p q=>match Qbt st q,Qnw p with
 | some kvs,zo k=>.ok (.bl ((Q2u kvs k).isSome != neg)) st
 | _,_=>.stuck
def Q6e (st:Q2) (p q:PV):Res PV:=match Qbt st p,Qnw q with
 | some kvs,zo k=>match Q2u kvs k with
  | some v=>.ok v st
  | none=>.stuck
 | _,_=>.stuck
def Ya (mo mi:ME):ME:=fun Γ st=>(mo Γ st).bind fun p st1=>(mi Γ st1).bind fun q st2=>Q6e st2 p q
theorem Yk (hu:X.A.units + 1 < ac) (I:SimE X E o mo) (hi:SimE X E i mi) (hs:Qt1 i):SimE X E (.Subscript o i pos) (Ya mo mi):=
 ⟨fun Γ σ H ρ st Q R G h=>WE.of (Qhy hu Zx Zx hs) (I.use R G h.bind fun p U H1 ρ1 v1 x1 J z r1 h1=>hi.use J z h1.bind fun q Z H2 a4 v2 O R2 G2 r2 h2=>by
  unfold Q6e at h2
  split at h2
  ·rename_i kvs k e1 e2
   split at h2
   ·rename_i w e3;obtain ⟨n,a,vs,rfl,rfl,_,Y,rd⟩:=Qpc R2 (r1.ext O) e1;have ek:=Qqv e2 r2;subst ek;rcases Qe4 rd k with ⟨a1,_⟩ | ⟨p,v,a1,B,j⟩
    ·rw [a1] at e3; cases e3
    ·rw [a1] at e3;cases e3;exact ⟨a,v,rfl,by have:=DGet.kr (k:=k) Y; rwa [B] at this,now R2 h2 j⟩
   ·exact h2.elim
  ·exact h2.elim)⟩
end
section
variable {X:Cx} {E:XK} {pos dpos tpos:Pos} {e i o k:aD} {m mi mo mk:ME} {tg:aD}
end
section
variable {X:Cx} {E:XK}
end
end Sm
namespace Sm
open PySem PySem.Spec PyProof.Rows L2
section
variable {X:Cx} {E:XK}
end
end Sm
namespace Sm
open PySem PySem.Spec L2
section
variable {X:Cx} {E:XK} {pos apos tp:Pos} {e:aD} {m:ME} {elts:List aD} {kt:Nat}
end
section
variable {X:Cx} {E:XK} {pos dpos tpos:Pos} {e i o k:aD} {m mi mo mk:ME}
end
section
variable {X:Cx} {E:XK}
end
section
variable {X:Cx} {E:XK} {a:aD} {ma:ME} {pos:Pos}
end
end Sm
namespace Sm
open PySem PySem.Spec L2 SeqAt
section
variable {X:Cx} {E:XK}
variable {o:aD} {mo:ME} {apos cpos:Pos}
end
end Sm
namespace Sm
open PySem PySem.Spec L2 SeqAt
section
variable {X:Cx} {E:XK}
variable {e o i:aD} {m mo mi:ME} {pos tpos:Pos}
end
end Sm
namespace L2
open PySem PySem.Spec PyProof.Rows
end L2
namespace Sm
open PySem PySem.Spec PyProof.Rows L2
section
variable {X:Cx} {E:XK} {pos:Pos} {e:aD} {m:ME}
end
end Sm
namespace Sm
open PySem PySem.Spec PyProof.Rows L2
section
variable {X:Cx} {E:XK} {tg:aD} {a b c:aD} {mr:ML} {p pos:Pos}
end
end Sm
namespace Sm
open PySem PySem.Spec L2
section
variable {X:Cx} {E:XK} {o:aD} {mo:ME} {apos cpos:Pos} {to:TE}
end
section
variable {X:Cx}
end
def ym (f:Str) (p:PV):List (Str × PV)->List (Str × PV)
 | []=>[(f,p)]
 | (g,x) :: r=>if g=f then (g,p) :: r else (g,x) :: ym f p r
section
variable {H:Hp} {ρ:Tk}
theorem Qbc {κ:Type} {fs:List (κ × PV)} {vs:List (κ × V)} {g:κ} {x:PV}:RepD H ρ ((g,x) :: fs) vs->∃ v r,vs=(g,v) :: r/\Rep H ρ x v/\RepD H ρ fs r:=fun ⟨h1,h2⟩=>by
 cases vs with
 | nil=>cases h1
 | cons a r=>
  obtain ⟨k,v⟩:=a;simp only [E9,List.cons.injEq] at h1;obtain ⟨u,t,e,r1,r2⟩:=h2;cases e;exact ⟨v,r,by rw [h1.1],r1,h1.2,r2⟩
theorem Q58 {κ:Type} {fs:List (κ × PV)} {vs:List (κ × V)} {g:κ} {x:PV} {v:V} (h:Rep H ρ x v) (r:RepD H ρ fs vs):RepD H ρ ((g,x) :: fs) ((g,v) :: vs):=
 ⟨by simp only [E9,r.1],v,_,rfl,h,r.2⟩
theorem Qbb {f:Str} {p:PV} {v:V} (h:Rep H ρ p v):∀ {fs:List (Str × PV)} {vs:List (Str × V)},RepD H ρ fs vs->RepD H ρ (ym f p fs) (Q0b f v vs)
 | [],vs,r=>by
  have:vs=[]:=by have:=r.1; simpa using this
  subst this;exact Q58 h ⟨rfl,rfl⟩
 | (g,x) :: fs,vs,r=>by
  obtain ⟨u,t,rfl,r1,r2⟩:=Qbc r;rw [ym,Q0b]
  by_cases q:g=f
  ·rw [bK q,bK q]; exact Q58 h r2
  ·rw [bL q,bL q]; exact Q58 r1 (Qbb h r2)
theorem Q2f {f:Str}:∀ {fs:List (Str × PV)} {vs:List (Str × V)},RepD H ρ fs vs->(∀ p,fs.lookup f=zo p->∃ v,vs.lookup f=zo v/\Rep H ρ p v)/\(fs.lookup f=zl->vs.lookup f=zl)
 | [],vs,r=>by
  have:vs=[]:=by have:=r.1; simpa using this
  subst this;exact ⟨fun p e=>(by cases e),fun _=>rfl⟩
 | (g,x) :: fs,vs,r=>by
  obtain ⟨u,t,rfl,r1,r2⟩:=Qbc r;obtain ⟨z,j⟩:=Q2f (f:=f) r2;rw [E3,E3];cases q:f == g with
  | true=>exact ⟨fun p e=>by cases e; exact ⟨u,rfl,r1⟩,fun e=>(by cases e)⟩
  | false=>exact ⟨z,j⟩
end
def Q35 (C:aA) (st:Q2) (p:PV):Option (Nat × List (Str × PV)):=match p with
 | .ref i=>match st[i]? with
  | some (.obj C' fs)=>if C'=C then zo (i,fs) else zl
  | _=>zl
 | _=>zl
theorem Q4g {C:aA} {H:Hp} {ρ:Tk} {st:Q2} {p:PV} {v:V} {i:Nat} {fs:List (Str × PV)} (R:Rel H ρ st) (r:Rep H ρ p v) (e:Q35 C st p=zo (i,fs)):∃ a vs dx,p=.ref i/\v=.ref a/\ρ.tr[i]?=zo a/\H a=zo (.ins C dx vs)/\RepD H ρ fs vs:=by
 unfold Q35 at e
 split at e
 ·rename_i j
  split at e
  ·rename_i J fs' z
   split at e
   ·rename_i I;cases e;subst I;obtain ⟨a,q,rfl⟩:=r;obtain ⟨b,vs,dx,B,G,rd⟩:=R.obj z;rw [q] at B;cases B;exact ⟨a,vs,dx,rfl,rfl,q,G,rd⟩
   ·cases e
  ·cases e
 ·cases e
section
variable {X:Cx} {E:XK} {o e:aD} {es:List aD} {mo m:ME} {mr:Gam->Q2->Res (List PV)} {C:aA} {f:Str} {pos pos' apos p:Pos}
def Wb (C:aA) (f:Str) (mo:ME):ME:=fun Γ st=>(mo Γ st).bind fun p st1=>match Q35 C st1 p with
 | some (_,fs)=>match fs.lookup f with
  | some q=>.ok q st1
  | none=>.stuck
 | none=>.stuck
theorem Yt (cl:Cls X.K C) (n:NoAttr X.K C f) (I:SimE X E o mo) (z:ai o f X.env (aM o X.env)=aM o X.env:=by rfl):SimE X E (.Attribute o f pos) (Wb C f mo):=
 ⟨fun Γ σ H ρ st Q R G h=>WE.of (Qv4 Zx z) (I.use R G h.bind fun p U H1 ρ1 v x1 j G1 r1 h1=>by
  split at h1
  ·rename_i i fs B
   split at h1
   ·rename_i q O;obtain ⟨a,vs,dx,rfl,rfl,ea,J,rd⟩:=Q4g j r1 B;obtain ⟨u,Y,Z⟩:=(Q2f rd).1 q O;exact ⟨a,C,dx,vs,u,rfl,J,cl,n,Y,now j h1 Z⟩
   ·exact h1.elim
  ·exact h1.elim)⟩
def yq (C:aA) (f:Str) (mo m:ME):MS:=fun Γ st=>(m Γ st).sbind fun p st1=>(mo Γ st1).sbind fun q st2=>match Q35 C st2 q with
 | some (i,fs)=>if fs.length < 1000 then .nx Γ (st2.set i (.obj C (ym f p fs))) else .stuck
 | none=>.stuck
theorem xi (cl:Cls X.K C) (n:NoAttr X.K C f) (Z:SimE X E e m) (Y:SimE X E o mo) (hs:swapsWith e (zo (.Attribute o f pos')) pos.line X.env=pure za:=by rfl):SimS X E (.Assign [.Attribute o f pos'] e pos) (yq C f mo m):=
 ⟨fun Γ σ H ρ st D R G h=>WS.of (Quu Zx Zx hs) (Z.use R G h.bind fun p a2 H1 ρ1 z x1 R1 O r1 h1=>Y.use R1 O h1.bind fun ov a3 H2 j x x2 R2 U r2 h2=>by
  split at h2
  ·rename_i i fs J
   split at h2
   ·rename_i hl;obtain ⟨a,vs,dx,rfl,rfl,I,B,rd⟩:=Q4g R2 r2 J;have hm:=D5 I;have q:Ext H2 j (upd H2 a (.ins C dx (Q0b f z vs))) j:=Ext.put hm B;refine ⟨a,C,dx,vs,rfl,B,cl,n,by rw [<- rd.length]; exact hl,h2 σ _ j q (R2.putC I B ⟨_,⟨dx,Jg⟩,?_⟩) (U.ext q)⟩;exact (Qbb (r1.ext x2) rd).ext q
   ·exact h2.elim
  ·exact h2.elim)⟩
structure MethS (P:aN) (w:aL) (K:bQ) (mg:Str->Option aB) (base:Heap) (k:Nat) (C:aA) (x:Str) (n:Nat) (F:FN):Prop where
 ex:∃ (f:aA) (fd:aO) (ps:List Str),FnOk P w K mg base (CXD P w) k f fd ps (spF mg n F)/\Meth K C x f/\Binds K fd ps []/\ps.length=n
def yr (C:aA) (x:Str) (n:Nat) (F:FN) (mo:ME) (mr:ML):ME:=fun Γ st=>(mo Γ st).bind fun p st1=>match Q35 C st1 p with
 | some (_,fs)=>if fs.lookup x=zl then (mr Γ st1).bind fun ps st2=>if ps.length + 1=n then F (p :: ps) st2 else .stuck else .stuck
 | none=>.stuck
theorem Q73 {pl:Sem Bool} {k n:Nat} {x:Str} {F:FN} (cl:Cls X.K C) (D:MethS X.prog X.w X.K X.mg X.base k C x n F) (hr:Room k X.A) (U:Kf (CXD X.prog X.w) X E) (ho:SimE X E o mo) (ha:SimA X E (e :: es) mr)
  (j:aP (e :: es) X.env=(za,aM e X.env) :: aP es X.env:=by rfl) (q:(aU pos (aP es X.env)).any (·.1)=za:=by rfl)
  (Z:aM (.Call (.Attribute o x apos) (e :: es) [] pos) X.env=(do
   let ov <- aM o X.env
   standAt apos.atName
   let (f,first) <- ag [ov] (getMethod ov x pl)
   callWith pos f first (aU pos (aP (e :: es) X.env)) (backToKw pos (keywordEach [] X.env))):=by rfl):SimE X E (.Call (.Attribute o x apos) (e :: es) [] pos) (yr C x n F mo mr):=by
 obtain ⟨f,fd,ps,hF,hm,hb,hl⟩:=D.ex;exact ⟨fun Γ σ H ρ st Q R G h=>WE.of (Qrf Zx cl hm hF hr hb .nil U Q3m j q Z) (ho.use R G h.bind fun p a2 H1 ρ1 v x1 O G1 r1 h1=>by
  split at h1
  ·rename_i i fs Y
   split at h1
   ·rename_i el;obtain ⟨a,vs,dx,rfl,rfl,ea,z,rd⟩:=Q4g O r1 Y;refine ⟨a,dx,vs,rfl,z,(Q2f rd).2 el,?_⟩;refine ha.use O G1 h1.bind fun qs I H2 J us x2 R2 G2 r2 h2=>?_
    by_cases B:qs.length + 1=n
    ·rw [bK B] at h2;show spF X.mg n F (.ref a :: (us ++ [])) H2 Q E;rw [L5];exact ⟨by rw [D4,<- r2.length]; exact B,J,I,_,R2,RepL.cons (r1.ext x2) r2,h2⟩
    ·rw [bL B] at h2; exact h2.elim
   ·exact h1.elim
  ·exact h1.elim)⟩
theorem Q46 {pl:Sem Bool} {k n:Nat} {x:Str} {F:FN} (cl:Cls X.K C) (D:MethS X.prog X.w X.K X.mg X.base k C x n F) (U:Room k X.A) (I:Kf (CXD X.prog X.w) X E) (Y:SimE X E o mo)
  (O:aM (.Call (.Attribute o x apos) [] [] pos) X.env=(do
   let ov <- aM o X.env
   standAt apos.atName
   let (f,first) <- ag [ov] (getMethod ov x pl)
   callWith pos f first (aU pos (aP [] X.env)) (backToKw pos (keywordEach [] X.env))):=by rfl):SimE X E (.Call (.Attribute o x apos) [] [] pos) (yr C x n F mo Q8):=by
 obtain ⟨f,fd,ps,hF,Z,hb,hl⟩:=D.ex;exact ⟨fun Γ σ H ρ st Q R G h=>WE.of (Qn3 Zx cl Z hF U hb .nil I O) (Y.use R G h.bind fun p j H1 ρ1 v x1 B G1 r1 h1=>by
  split at h1
  ·rename_i i fs J
   split at h1
   ·rename_i el;obtain ⟨a,vs,dx,rfl,rfl,ea,q,rd⟩:=Q4g B r1 J;refine ⟨a,dx,vs,rfl,q,(Q2f rd).2 el,?_⟩;have h1:Acc X.mg E H1 ρ1 (QV Q) (if ([]:List PV).length + 1=n then F [.ref i] j else .stuck):=h1
    by_cases z:([]:List PV).length + 1=n
    ·rw [bK z] at h1;show spF X.mg n F (.ref a :: ([] ++ [])) H1 Q E;exact ⟨z,ρ1,j,_,B,RepL.cons r1 RepL.nil,h1⟩
    ·rw [bL z] at h1; exact h1.elim
   ·exact h1.elim
  ·exact h1.elim)⟩
structure MakeS (P:aN) (w:aL) (K:bQ) (mg:Str->Option aB) (base:Heap) (k:Nat) (C:aA) (x:Str) (n:Nat) (F:FN):Prop where
 ex:∃ (f:aA) (fd:aO) (ps:List Str),FnOk P w K mg base (CXD P w) k f fd ps (spF mg n F)/\Mk K C f/\mg x=zo (.ref C)/\Binds K fd ps []/\ps.length=n
def Qtt (C : aA) (n : Nat) (F : FN) (mr : ML) : ME := fun Γ st => (mr Γ st).bind fun ps st1 => if ps.length + 1 = n then (F (.ref st1.length :: ps) (st1 ++ [.obj C []])).bind fun v st2 => match v with
  | .non=>.ok (.ref st1.length) st2
  | _=>.stuck
 else .stuck
theorem Qhr {k n:Nat} {x:Str} {F:FN} (D:MakeS X.prog X.w X.K X.mg X.base k C x n F) (hr:Room (k + 1) X.A) (hx:Kf (CXD X.prog X.w) X E) (hg:Gl X x) (ha:SimA X E (e :: es) mr) (a2:(x == ("__debug__" : Str))=za:=by decide)
  (he:aP (e :: es) X.env=(za,aM e X.env) :: aP es X.env:=by rfl) (U:(aU pos (aP es X.env)).any (·.1)=za:=by rfl):SimE X E (.Call (.Name x p) (e :: es) [] pos) (Qtt C n F mr):=by
 obtain ⟨f,fd,ps,hF,hm,hc,hb,hl⟩:=D.ex;exact ⟨fun Γ σ H ρ st Q R G h=>WE.of (Qrg hm hF hr hg hc hb .nil hx Q3m a2 he U) (ha.use R G h.bind fun qs j H1 ρ1 us x1 R1 G1 r1 h1=>by
  intro y dx hy hd a3
  by_cases hq:qs.length + 1=n
  ·rw [bK hq] at h1;have Y:Ext H1 ρ1 (upd H1 dx (.own y)) ρ1:=Ext.add hd;have B:(upd H1 dx (.own y)) y=zl:=by rw [Qj (fun z=>a3 z.symm)]; exact hy
   have J:Ext (upd H1 dx (.own y)) ρ1 (upd (upd H1 dx (.own y)) y (.ins C dx [])) (ρ1.add y):=Ext.addT B;have R2:Rel (upd (upd H1 dx (.own y)) y (.ins C dx [])) (ρ1.add y) (j ++ [.obj C []]):=(R1.add hd).addC B ⟨[],⟨dx,Jg⟩,rfl,rfl⟩;have q:(ρ1.add y).tr[j.length]?=zo y:=by
    show (ρ1.tr ++ [y])[j.length]?=zo y;rw [<- R1.len,D3 (O7 _),dL]; rfl
   show spF X.mg n F (.ref y :: (us ++ [])) _ _ E;rw [L5];refine ⟨by rw [D4,<- r1.length]; exact hq,ρ1.add y,j ++ [.obj C []],.ref j.length :: qs,R2,RepL.cons ⟨y,q,rfl⟩ (r1.ext (Y.trans J)),?_⟩;cases er:F (.ref j.length :: qs) (j ++ [.obj C []]) with
   | stuck=>rw [er] at h1; exact h1.elim
   | exc z st'=>
    rw [er] at h1;exact fun C' dv H' ρ' m I Z xf=>h1 C' dv H' ρ' m ((Y.trans J).trans I) Z xf
   | ok v a4=>
    rw [er] at h1;intro H' ρ' I Z w O;rw [Jc] at h1;cases v with
    | non=>
     refine ⟨O,h1 H' ρ' ((Y.trans J).trans I) Z _ ⟨y,?_,rfl⟩⟩;obtain ⟨t,et⟩:=I.pre;rw [<- et,O5 (O0.mp q).1];exact q
    | _=>exact h1.elim
  ·rw [bL hq] at h1; exact h1.elim)⟩
end
@[simp] theorem Qs7 (C:aA) (f:Str) (mo:ME) (Γ:Gam) (st:Q2):Wb C f mo Γ st=(mo Γ st).bind fun p j=>match Q35 C j p with
 | some (_,fs)=>match fs.lookup f with
  | some q=>.ok q j
  | none=>.stuck
 | none=>.stuck:=rfl
@[simp] theorem Qf1 (C:aA) (f:Str) (mo m:ME) (Γ:Gam) (st:Q2):yq C f mo m Γ st=(m Γ st).sbind fun p z=>(mo Γ z).sbind fun q j=>match Q35 C j q with
 | some (i,fs)=>if fs.length < 1000 then .nx Γ (j.set i (.obj C (ym f p fs))) else .stuck
 | none=>.stuck:=rfl
@[simp] theorem Qnn (C:aA) (x:Str) (n:Nat) (F:FN) (mo:ME) (mr:ML) (Γ:Gam) (st:Q2):yr C x n F mo mr Γ st=(mo Γ st).bind fun p j=>match Q35 C j p with
 | some (_,fs)=>if fs.lookup x=zl then (mr Γ j).bind fun ps q=>if ps.length + 1=n then F (p :: ps) q else .stuck else .stuck
 | none=>.stuck:=rfl
section
variable {X:Cx} {E:XK}
theorem Qkq:Ki X (.type "int") (fun xs H Q=>∃ b:Bool,xs=[.bl b]/\Q (.int (if b then 1 else 0)) H):=by
 intro pins s σ H xs us Q I r h;obtain ⟨b,rfl,q⟩:=h;obtain ⟨u,rfl,j⟩:=Q32 r;cases j;exact call_int_bool ⟨.int (if b then 1 else 0),H,I.tok _,⟨_,rfl⟩,q⟩
def Qis:CF:=fun st ps=>match ps with
 | [.bl b]=>.ok (.int (if b then 1 else 0)) st
 | _=>.stuck
theorem Qsr:CallS X E (.type "int") Qis:=⟨fun H ρ st ps xs Q R j h=>by
 unfold Qis at h
 split at h
 ·obtain ⟨v,rfl,r⟩:=Yy j;cases r;exact WC.of Qkq ⟨_,rfl,now R h rfl⟩
 ·exact h.elim⟩
@[simp] theorem Qzq (st:Q2) (b:Bool):Qis st [.bl b]=.ok (.int (if b then 1 else 0)) st:=rfl
end
def Qcm (x:Str):V:=if x = "keep" then .int 2 else if x = "fall" then .int 2 else if x = "send" then .int 2 else if x = "come" then .int 3 else .non
structure PartsO (P:aN) (w:aL) (K:bQ) (mg:Str->Option aB):Prop where
 ex:∃ (a:aA) (o:Obj) (es:Array DictEntry) (ep:Nat),mg "PARTS_OF_OTHER_DEED" = zo (.ref a)/\K.lookup a=zo o/\o.cls=.type "dict" /\ o.ExactDict/\o.data=.dict es ep/\KeysOf (J9 P w) es/\(a == af)=za/\∀ x,RelV (Qcm x) ((findBy (J9 P w).is es (.inr x)).getD .none)
def Kx (m:ME):ME:=fun Γ st=>(m Γ st).bind fun p st1=>match p with
 | .str x=>if x = "keep" then .ok (.int 2) st1 else if x = "fall" then .ok (.int 2) st1 else if x = "send" then .ok (.int 2) st1 else if x = "come" then .ok (.int 3) st1 else .ok .non st1
 | _=>.stuck
section
variable {X:Cx} {E:XK} {pos:Pos} {e:aD} {m:ME}
theorem Qj6 {p apos cpos:Pos} (PO:PartsO X.prog X.w X.K X.mg) (hg:Gl X "PARTS_OF_OTHER_DEED") (he:SimE X E e m)
  (base:ai (.Name "PARTS_OF_OTHER_DEED" p) "get" X.env (aM (.Name "PARTS_OF_OTHER_DEED" p) X.env)=aM (.Name "PARTS_OF_OTHER_DEED" p) X.env:=by rfl)
  (few:((aU cpos (aP [e] X.env)).all (fun x=>!x.1) && (backToKw cpos (keywordEach [] X.env)).all (fun x=>x.1.isSome)
   && decide (([e]:List aD).length + ([]:List Keyword).length + (if ([]:List Keyword).isEmpty then 0 else 1) < 30))=zb:=by rfl)
  (line:(apos.endLine == cpos.line)=zb:=by rfl) (trees:aU cpos (aP [e] X.env)=[(za,aM e X.env)]:=by rfl) :
  SimE X E (.Call (.Attribute (.Name "PARTS_OF_OTHER_DEED" p) "get" apos) [e] [] cpos) (Kx m):=by
 obtain ⟨a,o,es,ep,Y,pl,pt,U,pd,Z,ps,B⟩:=PO.ex;refine ⟨fun Γ σ H ρ st Q R G h=>WE.of (Qea (val:=Qcm) hg Y pl pt U pd Z ps B Zx (by decide) base few line trees) (he.use R G h.bind fun q j H1 ρ1 v x1 z G1 r1 h1=>?_)⟩;cases q with
 | str x=>
  cases r1;have h1:Acc X.mg E H1 ρ1 (QV Q) (if x = "keep" then .ok (.int 2) j else if x = "fall" then .ok (.int 2) j else if x = "send" then .ok (.int 2) j else if x = "come" then .ok (.int 3) j else .ok .non j):=h1;refine ⟨x,rfl,?_⟩;unfold Qcm
  by_cases a1:x = "keep"
  ·rw [bK a1] at h1 ⊢; exact now z h1 rfl
  ·rw [bL a1] at h1 ⊢
   by_cases O:x = "fall"
   ·rw [bK O] at h1 ⊢; exact now z h1 rfl
   ·rw [bL O] at h1 ⊢
    by_cases I:x = "send"
    ·rw [bK I] at h1 ⊢; exact now z h1 rfl
    ·rw [bL I] at h1 ⊢
     by_cases J:x = "come"
     ·rw [bK J] at h1 ⊢; exact now z h1 rfl
     ·rw [bL J] at h1 ⊢;exact now z h1 rfl
 | _=>exact h1.elim
end
section
theorem Qjm {P:aN} {w:aL} {K:bQ} {mg:Str->Option aB} {J:aA} {t1 t2 t3 I q B j G:Tok} {ep:Nat} (hm:mg "PARTS_OF_OTHER_DEED" = zo (.ref J))
  (lk:K.lookup J=zo ⟨.type "dict",zl,.dict #[⟨PyData.keyHash w.params "keep",.str "keep" t1,.int 2 q⟩,⟨PyData.keyHash w.params "fall",.str "fall" t2,.int 2 B⟩,⟨PyData.keyHash w.params "send",.str "send" t3,.int 2 j⟩,⟨PyData.keyHash w.params "come",.str "come" I,.int 3 G⟩] ep,#[]⟩) (hp:(J == af)=za):PartsO P w K mg:=by
 refine ⟨J,_,_,_,hm,lk,rfl,⟨rfl,rfl,rfl⟩,rfl,fun e he=>?_,hp,fun x=>?_⟩
 ·simp only [gR,E5,cK,or_false] at he;rcases he with rfl | rfl | rfl | rfl
  ·exact ⟨.inr "keep",by simp [J9,Kg,bj],rfl⟩
  ·exact ⟨.inr "fall",by simp [J9,Kg,bj],rfl⟩
  ·exact ⟨.inr "send",by simp [J9,Kg,bj],rfl⟩
  ·exact ⟨.inr "come",by simp [J9,Kg,bj],rfl⟩
 ·unfold Qcm
  by_cases e1:x = "keep"
  ·rw [bK e1]; subst e1;have:findBy (J9 P w).is #[⟨PyData.keyHash w.params "keep",.str "keep" t1,.int 2 q⟩,⟨PyData.keyHash w.params "fall",.str "fall" t2,.int 2 B⟩,⟨PyData.keyHash w.params "send",.str "send" t3,.int 2 j⟩,⟨PyData.keyHash w.params "come",.str "come" I,.int 3 G⟩] (.inr "keep")=zo (.int 2 q):=by first | rfl | decide +kernel
   rw [this]; exact ⟨_,rfl⟩
  ·rw [bL e1]
   by_cases e2:x = "fall"
   ·rw [bK e2]; subst e2;have:findBy (J9 P w).is #[⟨PyData.keyHash w.params "keep",.str "keep" t1,.int 2 q⟩,⟨PyData.keyHash w.params "fall",.str "fall" t2,.int 2 B⟩,⟨PyData.keyHash w.params "send",.str "send" t3,.int 2 j⟩,⟨PyData.keyHash w.params "come",.str "come" I,.int 3 G⟩] (.inr "fall")=zo (.int 2 B):=by first | rfl | decide +kernel
    rw [this]; exact ⟨_,rfl⟩
   ·rw [bL e2]
    by_cases e3:x = "send"
    ·rw [bK e3]; subst e3;have:findBy (J9 P w).is #[⟨PyData.keyHash w.params "keep",.str "keep" t1,.int 2 q⟩,⟨PyData.keyHash w.params "fall",.str "fall" t2,.int 2 B⟩,⟨PyData.keyHash w.params "send",.str "send" t3,.int 2 j⟩,⟨PyData.keyHash w.params "come",.str "come" I,.int 3 G⟩] (.inr "send")=zo (.int 2 j):=by first | rfl | decide +kernel
     rw [this]; exact ⟨_,rfl⟩
    ·rw [bL e3]
     by_cases O:x = "come"
     ·rw [bK O]; subst O;have:findBy (J9 P w).is #[⟨PyData.keyHash w.params "keep",.str "keep" t1,.int 2 q⟩,⟨PyData.keyHash w.params "fall",.str "fall" t2,.int 2 B⟩,⟨PyData.keyHash w.params "send",.str "send" t3,.int 2 j⟩,⟨PyData.keyHash w.params "come",.str "come" I,.int 3 G⟩] (.inr "come")=zo (.int 3 G):=by first | rfl | decide +kernel
      rw [this]; exact ⟨_,rfl⟩
     ·rw [bL O];have Y:¬ (bP "keep" = x):=fun z=>e1 z.symm
      have U:¬ (bP "fall" = x):=fun z=>e2 z.symm
      have a2:¬ (bP "send" = x):=fun z=>e3 z.symm
      have Z:¬ (bP "come" = x):=fun z=>O z.symm
      have:findBy (J9 P w).is #[⟨PyData.keyHash w.params "keep",.str "keep" t1,.int 2 q⟩,⟨PyData.keyHash w.params "fall",.str "fall" t2,.int 2 B⟩,⟨PyData.keyHash w.params "send",.str "send" t3,.int 2 j⟩,⟨PyData.keyHash w.params "come",.str "come" I,.int 3 G⟩] (.inr x)=zl:=by
       simp [findBy,J9,Kg,bj,Y,U,a2,Z]
      rw [this]; rfl
end
def Qez (cn fld : Str) (i n : Nat) (F : FN) (mr : ML) : MS := fun Γ st => (mr Γ st).sbind fun ps st1 => if ps.length = n /\ i < Γ.length then (match F ps st1 with
  | .ok _ st2=>.nx Γ st2
  | .exc x st2=>if x.cls=cn then (match x.fs with | some (f,.int z)=>if f=fld then .rt (.int z) st2 else .stuck | _=>.stuck) else .stuck
  | .stuck=>.stuck) else .stuck
section
variable {X:Cx} {E:XK}
theorem Qqh {k n i:Nat} {g cn nm fld:Str} {F:FN} {CC:aA} {p cpos q np a4 apos B hpos pos:Pos} {e:aD} {es:List aD} {mr:ML} (D:DefS X.prog X.w X.K X.mg X.base k g n F) (hr:Room k X.A) (ha:SimA X.nox E (e :: es) mr)
  (hN:X.N.Nodup) (O:X.mg cn=zo (.ref CC)) (b2:dH X.K (.ref CC) (.ref CC)=zo zb) (a5:XGet X.K CC fld) (hi:X.N[i]?=zo nm:=by rfl) (hk:X.env.scope.names.lookup nm=zo .local:=by rfl)
  (j:∀ a,PSs (xh X a) [.Return (zo (.Attribute (.Name nm a4) fld apos)) B] (Qxb (tXF X.K fld (Qu9 i))):=by exact fun _=>Qck (Qmu (Qre _ (pv _))))
  (hg:Gl X g:=by rfl) (b4:Gl X cn:=by rfl) (b3:∀ b,b∉X.ex:=by intro b z; exact absurd (show b∈([]:List aA) from z) (by simp)) (a9:X.stack=X.env :: X.outer:=by rfl) (a8:X.env.frame=zo X.env.locals:=by rfl)
  (b1:(g == ("__debug__" : Str))=za:=by decide) (U:(cn == ("__debug__" : Str))=za:=by decide) (he:aP (e :: es) X.env=(za,aM e X.env) :: aP es X.env:=by rfl) (b0:(aU cpos (aP es X.env)).any (·.1)=za:=by rfl)
  (a7:swapsWith (.Call (.Name g p) (e :: es) [] cpos) zl q.line X.env=pure za:=by rfl) :
  SimS X E (.Try [.Expr (.Call (.Name g p) (e :: es) [] cpos) q] [.ExceptHandler (zo (.Name cn np)) (zo nm) [.Return (zo (.Attribute (.Name nm a4) fld apos)) B] hpos] [] [] pos) (Qez cn fld i n F mr):=by
 obtain ⟨f,fd,ps,hF,hm,a6,hb,hl⟩:=D.ex;exact ⟨fun Γ σ H ρ st D R G h=>WS.of (Qmt hF hr hm a6 hb Q3m hN hi hk j O hg b4 b3 a9 a8 b1 U he b0 a7) (ha.use R G h.bind fun qs Y H1 ρ1 us x1 R1 G1 r1 h1=>by
  by_cases hq:qs.length=n/\i < Γ.length
  ·rw [bK hq] at h1;refine ⟨by rw [<- r1.length]; exact hq.1,ρ1,Y,qs,R1,r1,?_⟩;cases er:F qs Y with
   | stuck=>rw [er] at h1; exact h1.elim
   | ok v Z=>
    rw [er] at h1;exact fun H' ρ' x' R' w _=>h1 σ H' ρ' x' R' (G1.ext x')
   | exc x Z=>
    rw [er] at h1;have h2:AccS X.mg E D H1 ρ1 (if x.cls=cn then (match x.fs with | some (f,.int z)=>if f=fld then .rt (.int z) Z else .stuck | _=>.stuck) else .stuck):=h1
    clear h1
    by_cases hc:x.cls=cn
    ·rw [bK hc] at h2
     split at h2
     ·rename_i f' z ef
      split at h2
      ·rename_i hf;subst hf;intro C dv H' ρ' a2 x' R' xf;rw [hc,O] at a2;cases a2;rw [ef] at xf;obtain ⟨dx,v,rfl,a3,_,rv⟩:=xf;have rv:v=.int z:=rv;subst rv;refine ⟨CC,rfl,b2,fun a I=>?_⟩;have J:i < σ.length:=by rw [<- G1.1]; exact hq.2
       refine ⟨.ref a,by rw [E4 J],a,CC,dx,z,[(f',.int z)],rfl,Jg,by rw [Qj (Qm a3 I)]; exact a3,by simp [bu],a5,?_⟩;exact h2 _ _ ρ' (x'.trans (Ext.add I)) (R'.add I) rfl
      ·exact h2.elim
     ·exact h2.elim
    ·rw [bL hc] at h2; exact h2.elim
  ·rw [bL hq] at h1; exact h1.elim)⟩
@[simp] theorem Qnm (cn fld:Str) (i n:Nat) (F:FN) (mr:ML) (Γ:Gam) (st:Q2):Qez cn fld i n F mr Γ st=(mr Γ st).sbind fun ps q=>if ps.length=n/\i < Γ.length then (match F ps q with
  | .ok _ j=>.nx Γ j
  | .exc x j=>if x.cls=cn then (match x.fs with | some (f,.int z)=>if f=fld then .rt (.int z) j else .stuck | _=>.stuck) else .stuck
  | .stuck=>.stuck) else .stuck:=rfl
end
section
variable {X:Cx} {pins pins':List (aA × Obj)} {E:XK} {σ:St} {H:Hp} {s:aC}
end
section
variable {X:Cx} {body:List aK} {mb:MS} {cn n:Str} {i:Nat} {CC:aA} {np hpos pos:Pos} {b₀:aK} {suite:List aK} {ts:aA->TS} {Γ:Gam} {σ:St} {H:Hp} {ρ:Tk} {st:Q2} {D:Ends}
end
section
variable {X:Cx} {E:XK}
end
end Sm
namespace Sm
open PySem PySem.Spec PyProof.Rows L2
section
variable {X:Cx} {E:XK}
theorem Qnb:OpR X (aW .FloorDiv) (rI (fun _ j=>0 < j/\j.natAbs.log2 < 8000) fun i j=>.int (i / j)):=opI fun i j _ _ _ _ _ z q=>by
 have h1:(0:Int) < j:=z.1;have h2:=z.2;refine floordiv_int (by omega) (by rw [fS i (by omega)]; exact q) (.inl (PyProof.noPylong_of_log2 ?_));omega
def Qi4:OP:=fun st p q=>match p,q with
 | .int a,.int b=>if 0 < b/\b.natAbs.log2 < 8000 then .ok (.int (a / b)) st else .stuck
 | _,_=>.stuck
theorem Qrp:OpS X E (aW .FloorDiv) Qi4:=⟨fun H ρ st p q x y Q R z B h=>by
 unfold Qi4 at h
 split at h
 ·cases z; cases B
  split at h
  ·rename_i j;exact WO.of Qnb ⟨_,_,rfl,rfl,j,now R h rfl⟩
  ·exact h.elim
 ·exact h.elim⟩
theorem Qjt (st:Q2) (a:Int) (m:Nat) (h1:0 < m) (h2:m < 2 ^ 8000):Qi4 st (.int a) (.int m)=.ok (.int (a / m)) st:=by
 show (if 0 < (m:Int)/\(m:Int).natAbs.log2 < 8000 then _ else _)=_;rw [bK ⟨by omega,by
  rw [Int.natAbs_natCast];exact (Nat.log2_lt (by omega)).mpr h2⟩]
end
end Sm
namespace Sm
open PySem PySem.Spec L2
structure AtS (K:bQ) (mg:Str->Option aB) (name:Str) (st:aK) (ps:List Str) (f:aA) (fd:aO):Prop where
 F:Fun K name name st f fd
 m:mg name=zo (.ref f)
 b:Binds K fd ps []
theorem Qwm {K:bQ} {mg:Str->Option aB} {h:Heap} {name:Str} {st:aK} {ps:List Str} {f:aA} {I:aB} {J an:Option aA} {B:Array (Option aB)} {kV q z j ct:aB} (X:K.In h) (G:h.Ns aS mg)
  (a:bV K aS name=zo (zo (.ref f))) (l:K.lookup f=zo ⟨I,J,.func (bc name name (Yx st) (Zt st) (Qb st) .none kV q z an j ct),B⟩) (c:bx K j name=zb) (k:bg K (.ref f)=zb)
  (b:∀ (kV q z:aB) (an:Option aA) (j ct:aB) (us:List aB),us.length=ps.length->bindArgs (bc name name (Yx st) (Zt st) (Qb st) .none kV q z an j ct) ⟨us,[]⟩=pure (ps.zip us)) :
  AtS K mg name st ps f (bc name name (Yx st) (Zt st) (Qb st) .none kV q z an j ct):=
 have F:=Qhb (st:=st) l c k
 ⟨F,bh X G a,F.binds b⟩
theorem AtS.def {P:aN} {w:aL} {K:bQ} {mg:Str->Option aB} {base:Heap} {name:Str} {st:aK} {ps:List Str} {f:aA} {fd:aO} {k n:Nat} {F:FN} (a:AtS K mg name st ps f fd) (j:ps.length=n) (G:FnOk P w K mg base (CXD P w) k f fd ps (spF mg n F)):DefS P w K mg base k name n F:=
 ⟨f,fd,ps,G,a.m,a.F.kp,a.b,j⟩
def FL (K:bQ) (x ql:Str) (s:aK) (f:aA):Prop:=∃ (oc:aB) (od:Option aA) (kV dc pm:aB) (an:Option aA) (cd ct:aB) (sl:Array (Option aB)),K.lookup f=zo ⟨oc,od,.func (bc x ql (Yx s) (Zt s) (Qb s) .none kV dc pm an cd ct),sl⟩/\bx K cd ql=zb/\bg K (.ref f)=zb
theorem FL.fn {K:bQ} {x j:Str} {s:aK} {f:aA} (h:FL K x j s f):∃ fd,Fun K x j s f fd:=let ⟨_,_,_,_,_,_,_,_,_,l,c,k⟩:=h; ⟨_,Qhb l c k⟩
def FA (K:bQ) (x:Str) (s:aK) (f:aA):Prop:=bV K aS x=zo (zo (.ref f))/\FL K x x s f
theorem FA.mk {K:bQ} {x:Str} {s:aK} {f:aA} {q:aB} {z an:Option aA} {B:Array (Option aB)} {kV j G cd ct:aB} (a:bV K aS x=zo (zo (.ref f))) (l:K.lookup f=zo ⟨q,z,.func (bc x x (Yx s) (Zt s) (Qb s) .none kV j G an cd ct),B⟩) (c:bx K cd x=zb) (k:bg K (.ref f)=zb):FA K x s f:=⟨a,_,_,_,_,_,_,_,_,_,l,c,k⟩
def FM (K:bQ) (C:aA) (x ql:Str) (s:aK) (f:aA):Prop:=bX K (.ref C) x=zo (zo (.ref f))/\dD K (.ref f)=zb/\FL K x ql s f
theorem ln1 {α:Type} {l:List α} (h:l.length=1):∃ a,l=[a]:=match l,h with | [_],_=>⟨_,rfl⟩
theorem ln2 {α:Type} {l:List α} (h:l.length=2):∃ a b,l=[a,b]:=match l,h with | [_,_],_=>⟨_,_,rfl⟩
theorem ln3 {α:Type} {l:List α} (h:l.length=3):∃ a b c,l=[a,b,c]:=match l,h with | [_,_,_],_=>⟨_,_,_,rfl⟩
theorem ln4 {α:Type} {l:List α} (h:l.length=4):∃ a b c d,l=[a,b,c,d]:=match l,h with | [_,_,_,_],_=>⟨_,_,_,_,rfl⟩
theorem ln5 {α:Type} {l:List α} (h:l.length=5):∃ a b c d e,l=[a,b,c,d,e]:=match l,h with | [_,_,_,_,_],_=>⟨_,_,_,_,_,rfl⟩
theorem FL.bd {K:bQ} {x z:Str} {s:aK} {f:aA} {ps:List Str} (h:FL K x z s f)
  (b:∀ (kV q B:aB) (an:Option aA) (j ct:aB) (us:List aB),us.length=ps.length->bindArgs (bc x z (Yx s) (Zt s) (Qb s) .none kV q B an j ct) ⟨us,[]⟩=pure (ps.zip us)):∃ fd,Fun K x z s f fd/\Binds K fd ps []:=
 let ⟨_,F⟩:=h.fn
 ⟨_,F,F.binds b⟩
theorem Zr {K:bQ} {mg:Str->Option aB} {h:Heap} {name:Str} {st:aK} {f:aA} (ps:List Str) (X:K.In h) (G:h.Ns aS mg) (a:FA K name st f)
  (b:∀ (kV q I:aB) (an:Option aA) (z ct:aB) (us:List aB),us.length=ps.length->bindArgs (bc name name (Yx st) (Zt st) (Qb st) .none kV q I an z ct) ⟨us,[]⟩=pure (ps.zip us):=by
   intro _ _ _ _ _ _ us j
   first | (obtain ⟨_,rfl⟩:=ln1 j; rfl) | (obtain ⟨_,_,rfl⟩:=ln2 j; rfl) | (obtain ⟨_,_,_,rfl⟩:=ln3 j; rfl) | (obtain ⟨_,_,_,_,rfl⟩:=ln4 j; rfl) | (obtain ⟨_,_,_,_,_,rfl⟩:=ln5 j; rfl)):∃ fd,AtS K mg name st ps f fd:=
 let ⟨a,l⟩:=a
 let ⟨_,F,B⟩:=l.bd b
 ⟨_,F,bh X G a,B⟩
theorem FM.at {K:bQ} {C:aA} {x z:Str} {s:aK} {f:aA} (h:FM K C x z s f) (ps:List Str)
  (b:∀ (kV j G:aB) (an:Option aA) (q ct:aB) (us:List aB),us.length=ps.length->bindArgs (bc x z (Yx s) (Zt s) (Qb s) .none kV j G an q ct) ⟨us,[]⟩=pure (ps.zip us):=by
   intro _ _ _ _ _ _ us B
   first | (obtain ⟨_,rfl⟩:=ln1 B; rfl) | (obtain ⟨_,_,rfl⟩:=ln2 B; rfl) | (obtain ⟨_,_,_,rfl⟩:=ln3 B; rfl)):∃ fd,Fun K x z s f fd/\Binds K fd ps []:=h.2.2.bd b
theorem FM.mk {K:bQ} {C:aA} {x j:Str} {s:aK} {f:aA} {z:aB} {B an:Option aA} {G:Array (Option aB)} {kV q I cd ct:aB} (a:bX K (.ref C) x=zo (zo (.ref f))) (e:dD K (.ref f)=zb) (l:K.lookup f=zo ⟨z,B,.func (bc x j (Yx s) (Zt s) (Qb s) .none kV q I an cd ct),G⟩) (c:bx K cd j=zb) (k:bg K (.ref f)=zb):FM K C x j s f:=⟨a,e,_,_,_,_,_,_,_,_,_,l,c,k⟩
theorem AtS.d {K:bQ} {mg:Str->Option aB} {name:Str} {st:aK} {ps:List Str} {f:aA} {fd:aO} {k n:Nat} {F:FN} (a:AtS K mg name st ps f fd) (P:aN) (w:aL) (base:Heap) (j:ps.length=n) (G:FnOk P w K mg base (CXD P w) k f fd ps (spF mg n F)):DefS P w K mg base k name n F:=a.def j G
def noL (K:bQ):Bool:=K.all fun p=>match p.2.data with
 | .seq _ _=>(match p.2.cls with
  | .type n=>!(n == ("list" : Str))
  | _=>zb)
 | _=>zb
theorem Qh5 {K:bQ} {a:aA} {o:Obj} (h:K.lookup a=zo o):(a,o)∈K:=by
 induction K with
 | nil=>cases h
 | cons p K j=>
  obtain ⟨b,u⟩:=p;rw [E3] at h;cases e:a == b with
  | true=>
   rw [e] at h;have:a=b:=by simpa using e
   subst this;cases h;exact D1
  | false=>
   rw [e] at h;exact O9 _ (j h)
theorem Qvj {K:bQ} {a:aA} {o:Obj} {its:Array aB} {n:Nat} (j:noL K=zb) (h:K.lookup a=zo o) (q:o.cls=.type "list") (hd:o.data=.seq its n):False:=by
 have:=F7.mp j _ (Qh5 h);simp [q,hd] at this
theorem Qba {H:Hp} {ρ:Tk}:∀ ns:List Int,RepL H ρ (ns.map .int) (ns.map V.int)
 | []=>rfl
 | n :: ns=>⟨_,_,rfl,rfl,Qba ns⟩
theorem Qqw (H:Hp):Rel H Tk.nil []:=⟨rfl,gS,fun a h=>(by cases h),fun a h=>(by cases h),fun i a c h=>(by simp [Tk.nil] at h)⟩
def Qca (K:bQ):Sp:=fun vs H Q _=>∃ (a:aA) (ns:List Int),vs=[.ref a]/\SqL K H a (ns.map V.int)/\ns.length<=63/\∀ H',Q (.bl zb) H'
theorem Qsc {P:aN} {w:aL} {K:bQ} {mg:Str->Option aB} {base:Heap} {CX:CXT} {k:Nat} {f:aA} {fd:aO} {ps:List Str} {FL:FN} (G:noL K=zb) (F:FnOk P w K mg base CX k f fd ps (spF mg 1 FL)) (j:∀ ns:List Int,ns.length<=63->∃ st',FL [.fro (ns.map .int)] []=.ok (.bl zb) st'):FnOk P w K mg base CX k f fd ps (Qca K):=F.imp fun vs H Q E ⟨a,ns,e,B,J,z⟩=>by
 subst e;obtain ⟨st',I⟩:=j ns J;have q:Rd H a (.lst (ns.map V.int)):=by
  rcases B with h | ⟨o,its,n,h1,h2,U,O,_⟩
  ·exact h
  ·exact (Qvj G h1 h2 O).elim
 refine ⟨rfl,Tk.nil,[],[.fro (ns.map .int)],Qqw H,⟨_,_,rfl,⟨a,_,rfl,q,Tk.not_nil a,Qba ns⟩,rfl⟩,?_⟩;rw [I];intro H' ρ' x R v r;have e:v=.bl zb:=r;subst e;exact z H'
theorem Qpe {P:aN} {w:aL} {H:Hp} {s:aC} {e:aB} {s':aC} (h:CXD P w [] H s (fun _ _ _=>False) e s'):False:=by
 obtain ⟨_,_,_,_,_,_,_,_,_,z⟩:=h;exact z
theorem walkS {l:eV} {k:Nat} {q:aN} {j:List Str} {XP:(Str->Option aB)->Heap->Prop} {I:aL->Heap->Prop} {d:DefRec} {K:Params->bQ} (O:l.most=zo 63) (U:Room k callerA) (B:d.params.defaults=[])
  (Y:∀ (w:aL) (h:Heap),I w h->(K w.params).In h)
  (F:∀ (w:aL) (mg:Str->Option aB) (G:aA) (h:Heap),(K w.params).In h->h.Ns aS mg->mg d.name=zo (.ref G) ->
   ∃ fd:aO,(∀ (s:aC) (u:aB),BindsTo s fd ⟨[u],[]⟩ [("script",u)])/\∀ base:Heap,(K w.params).In base->base.Ns aS mg->FnOk l.prog w (K w.params) mg base (CXD l.prog w) k G fd ["script"] (Qca (K w.params))) :
  ft q j XP I l.row.toRowW d [] (fun f vs=>eU f vs):=
 L2.walk_of (n:=63) (k:=k) (x := "script") (CX:=fun w=>CXD l.prog w) (sp:=fun w=>Qca (K w.params)) O (by decide) B U Y F (fun _ _ a ns Z _ J=>⟨a,ns,rfl,J,Z,fun _=>rfl⟩) fun _ _ _ _ _ z=>Qpe z
end Sm
namespace Lw
open PySem PySem.Spec L2 Sm
def top (i:Nat):aK:=PySem.Challenge.pw_lendwharf_k81_whole_refused_only_when_it.main.body.getD i (.Pass ⟨0,0,0,0⟩)
abbrev Q3e:aK:=top 8
abbrev xt:aK:=top 9
abbrev Q1i:aK:=top 10
abbrev Q84:aK:=top 13
abbrev Q3f:aK:=top 14
abbrev Q3g:aK:=top 15
abbrev Q80:aK:=top 16
abbrev Qch:aK:=top 18
abbrev Wj:aK:=top 19
abbrev K6:aK:=top 20
abbrev Q1h:aK:=top 21
abbrev xr:aK:=top 22
abbrev Q83:aK:=top 23
abbrev Wk:aK:=top 26
abbrev Q56:aK:=top 27
abbrev Wi:aK:=top 28
abbrev qr:aK:=top 29
abbrev Q81:aK:=top 30
abbrev Qga:aK:=top 31
abbrev Q1g:aK:=top 33
abbrev Vd:aK:=top 34
abbrev K3:aK:=top 35
abbrev Q3h:aK:=top 36
abbrev K4:aK:=top 37
abbrev Ue:aK:=top 38
abbrev zm:aK:=top 39
abbrev Uf:aK:=top 40
abbrev U3:aK:=top 41
abbrev xu:aK:=top 42
abbrev Q55:aK:=top 44
abbrev Q1f:aK:=top 45
abbrev Xc:aK:=top 46
abbrev zj:aK:=top 47
abbrev K5:aK:=top 48
abbrev Q54:aK:=top 49
abbrev Q3d:aK:=top 50
abbrev Xd:aK:=Uq (top 52) 0
abbrev Q05:aK:=Uq (top 52) 1
abbrev Q06:aK:=Uq (top 52) 2
abbrev Q1k:aK:=Uq (top 52) 3
abbrev Q07:aK:=Uq (top 52) 4
abbrev Q08:aK:=Uq (top 52) 5
abbrev qz:aK:=Uq (top 52) 6
abbrev Q09:aK:=Uq (top 52) 7
abbrev zu:aK:=Uq (top 52) 8
abbrev qy:aK:=Uq (top 52) 9
abbrev Q04:aK:=Uq (top 52) 10
abbrev K7:aK:=top 55
abbrev U2:aK:=top 56
abbrev zk:aK:=top 57
abbrev K8:aK:=top 58
abbrev Q1j:aK:=top 59
abbrev Q82:aK:=top 60
abbrev Q02:aK:=top 62
abbrev xy:aK:=top 63
abbrev zr:aK:=top 64
abbrev qt:aK:=top 65
abbrev Q03:aK:=top 66
abbrev qv:aK:=top 67
abbrev qx:aK:=top 68
abbrev Q01:aK:=top 69
abbrev zn:aK:=top 70
abbrev zp:aK:=top 71
abbrev xz:aK:=top 72
abbrev zq:aK:=top 73
abbrev qw:aK:=top 74
abbrev zt:aK:=top 75
abbrev Q00:aK:=top 76
abbrev xx:aK:=top 77
abbrev Q49:aK:=top 78
structure Txt (mg:Str->Option aB):Prop where
 b_all:mg "all" = zl
 b_any:mg "any" = zl
 b_bool:mg "bool" = zl
 b_enumerate:mg "enumerate" = zl
 b_int:mg "int" = zl
 b_isinstance:mg "isinstance" = zl
 b_len:mg "len" = zl
 b_max:mg "max" = zl
 b_min:mg "min" = zl
 b_range:mg "range" = zl
 b_str:mg "str" = zl
 b_sum:mg "sum" = zl
 b_tuple:mg "tuple" = zl
 b_zip:mg "zip" = zl
 c_MOST_HOUSES:∃ t,mg "MOST_HOUSES" = zo (.int 8 t)
structure ClsT (K:bQ) (C:aA):Prop where
 cl:Cls K C
 n_number:NoAttr K C "number"
 n_now:NoAttr K C "now"
 n_kept:NoAttr K C "kept"
def Qsu:aK->List aK
 | .ClassDef _ _ _ b _ _ _ _ _ _ _=>b
 | _=>[]
abbrev Qb8:aK:=(Qsu (top 6)).getD 0 (.Pass ⟨0,0,0,0⟩)
structure ShortOk (K:bQ) (mg:Str->Option aB) (c0 cs fI:aA):Prop where
 m0:mg "WharfError" = zo (.ref c0)
 ms:mg "Short" = zo (.ref cs)
 M:XMade K cs c0 fI
 L:XCall K c0
 S:XSet K cs c0 "had"
structure ShortS (P:aN) (w:aL) (K:bQ) (mg:Str->Option aB) (base:Heap):Prop where
 ex:∃ (C W f:aA) (fd:aO),XMade K C W f/\FnOk P w K mg base CX0 1 f fd ["self", "had"] (Q7s C "had")/\Binds K fd ["self", "had"] []/\mg "Short" = zo (.ref C)
section
variable {P:aN} {w:aL} {K:bQ} {mg:Str->Option aB} {base:Heap}
theorem Quh:FnScope ["self", "had"] ["self", "had"] (Qb Qb8):=⟨rfl,rfl,rfl,by decide +kernel,rfl,by decide +kernel,by decide +kernel⟩
theorem Qrv {f G q:aA} {fd:aO} (F:Fun K "__init__" "Short.__init__" Qb8 f fd) (O:ShortOk K mg G q f):FnOk P w K mg base CX0 1 f fd ["self", "had"] (Q7s q "had"):=by
 refine F.ok Quh (fun vs H Q E h=>?_) (fun I A outer s H vs Q E J h=>?_)
 ·obtain ⟨x,v,rfl,_⟩:=h;rfl
 ·obtain ⟨x,v,rfl,j,B⟩:=h;refine ⟨_,Qe8 (Qhv (Qn0 O.M O.L (by rfl) O.m0 (Q0c (pv 0) (Q0c Q1p Q8c))))
   (Qck (Qr5 (fun b z=>absurd (show b∈([]:List aA) from z) (by simp)) O.S (pv 0) (pv 1))),?_⟩
  exact ⟨_,rfl,x,_,rfl,j,_,rfl,_,rfl,x,rfl,j,B⟩
end
section
variable {P:aN} {w:aL} {K:bQ} {mg:Str->Option aB} {base:Heap}
def Q3r:MS:=(Jp (Q6x (Qd1 "int" (Q4 0)) (Qvx (Qd1 "bool" (Q4 0)))))
def W7:FN:=Qr Q3r 1
theorem Qdx:FnScope ["thing"] ["thing"] (Qb Q3e):=⟨rfl,rfl,rfl,by decide +kernel,rfl,by decide +kernel,by decide +kernel⟩
theorem Qef {f:aA} {fd:aO} (F:Fun K "is_whole" "is_whole" Q3e f fd) (T:Txt mg)   : FnOk P w K mg base (CXD P w) 1 f fd ["thing"] (spF mg 1 W7):=by
 refine J0 (k:=0) (m:=Q3r) F Qdx rfl rfl rfl fun j A outer s H E q=>?_
 exact (Qc (Qu (xm (Q3b (T := "int") (by decide) (Q0 0) rfl T.b_isinstance rfl T.b_int Qfr) (xk (Qug (Q3b (T := "bool") (by decide) (Q0 0) rfl T.b_isinstance rfl T.b_bool Qku))))))
def Q0k:MS:=(Jp (Q6x (Qg 1 W7 (Q3 (Q4 0) Q8)) (Q20 (oI fun a b=>.bl (decide (a<=b))) (oI fun a b=>.bl (decide (a<=b))) (Q4 1) (Q4 0) (Q4 2))))
def X0:FN:=Qr Q0k 3
theorem Qa1:FnScope ["thing", "least", "most"] ["thing", "least", "most"] (Qb xt):=⟨rfl,rfl,rfl,by decide +kernel,rfl,by decide +kernel,by decide +kernel⟩
theorem Qae {f:aA} {fd:aO} (F:Fun K "is_between" "is_between" xt f fd) (T:Txt mg)  (j:DefS P w K mg base 1 "is_whole" 1 W7):FnOk P w K mg base (CXD P w) 2 f fd ["thing", "least", "most"] (spF mg 3 X0):=by
 refine J0 (k:=1) (m:=Q0k) F Qa1 rfl rfl rfl fun q A outer s H E z=>?_
 exact (Qc (Qu (xm (Qe j (z.mono (by decide)) Q9 rfl (Q1 (Q0 0) Q6)) (xk (Qmh Q8d Q8d (Q0 1) (Q0 0) (Q0 2))))))
def yc:ME:=(mOp oLt (Q4 0) (Q4 1))
def Q1y:MS:=(Jp (J3 (x9 fun ns=>.bl (ns.all id)) (Q3 (W6 (Jt [zl,zl] (Vm (Jx (Qk 0) (Jx (Qk 1) Vn))) (Q6w (Q3 (Q4 0) (Q3 (mSl (Q4 0) (z8 (mC (.int 1))) Vx) Q8))) Je yc)) Q8)))
def Xz:FN:=Qr Q1y 1
theorem Qcf:FnScope ["things"] ["things"] (Qb Q1i):=⟨rfl,rfl,rfl,by decide +kernel,rfl,by decide +kernel,by decide +kernel⟩
theorem Qct {f:aA} {fd:aO} (F:Fun K "is_rising" "is_rising" Q1i f fd) (T:Txt mg)   : FnOk P w K mg base (CXD P w) 1 f fd ["things"] (spF mg 1 Xz):=by
 refine J0 (k:=0) (m:=Q1y) F Qcf rfl rfl rfl fun j A outer s H E q=>?_
 exact (Qc (Qu (Qs (Q10 rfl) rfl T.b_all Uy (Q1 (Zj (Jv [zl,zl] ["one", "other"] rfl (Q3a rfl T.b_zip (Q1 (Q0 0) (Q1 (Wy (Q0 0) (Vw Qd) Xq) Q6))) (fun _ _ _ _ _=>(xj rfl (Zp (Qy (i:=0) (show (["one", "other"]:List Str).Nodup by decide +kernel)) (Zp (Qy (i:=1) (show (["one", "other"]:List Str).Nodup by decide +kernel)) Kk)))) (fun _ _ _ _ _=>(Xa (Q34 q.units) (Q0 0) (Q0 1))) (fun _ _ _ _ _=>Z1) (je (Zz (Zz jf))))) Q6))))
def Q40:ME:=(Q6x (Qg 1 W7 (Q3 (Q4 0) Q8)) (mOp (oI fun a b=>.bl (decide (b<=a))) (Q4 0) (mC (.int 0))))
def Q8z : MS := (Qq (Z8 (yg (Vi (toB (Qd1 "tuple" (Q4 0)))) (toB (mOp oNe (J3 Zg (Q3 (Q4 0) Q8)) (mOp Yg (Q4 1) (mC (.int 1)))))) (Jp (mC (.bl za))) Z2)
  (Jp (J3 (x9 fun ns=>.bl (ns.all id)) (Q3 (W6 (Jt [zl] (Qk 0) (U9 (Q4 0)) Je Q40)) Q8))))
def Q2b:FN:=Qr Q8z 2
theorem Qja:FnScope ["thing", "n"] ["thing", "n"] (Qb Q84):=⟨rfl,rfl,rfl,by decide +kernel,rfl,by decide +kernel,by decide +kernel⟩
theorem Qjr {f:aA} {fd:aO} (F:Fun K "is_row" "is_row" Q84 f fd) (T:Txt mg)  (j:DefS P w K mg base 1 "is_whole" 1 W7):FnOk P w K mg base (CXD P w) 2 f fd ["thing", "n"] (spF mg 2 Q2b):=by
 refine J0 (k:=1) (m:=Q8z) F Qja rfl rfl rfl fun z A outer s H E q=>?_
 exact (Qa (Ju (SimW.t (yh (Wh (Yf (Q3b (T := "tuple") (by decide) (Q0 0) rfl T.b_isinstance rfl T.b_tuple Yc))) (qp (J4 (Q17 q.units) (Qs Z6 rfl T.b_len bU (Q1 (Q0 0) Q6)) (Jm Z5 (Q0 1) Qd))))) (Qc (Qu yj)) Jw)
  (Qc (Qu (Qs (Q10 rfl) rfl T.b_all Uy (Q1 (Zj (Jv [zl] ["part"] rfl (Y8 (Q0 0)) (fun _ _ _ _ _=>(Qy (i:=0) (show (["part"]:List Str).Nodup by decide +kernel))) (fun _ _ _ _ _=>(xm (Qe j (q.mono (by decide)) Ym rfl (Q1 (Q0 0) Q6)) (xk (Xa Qi2 (Q0 0) Qd)))) (fun _ _ _ _ _=>Z1) J7)) Q6)))))
def Q0y:ME:=(Qg 2 Q2b (Q3 (Q4 0) (Q3 (J3 Zg (Q3 (Q4 1) Q8)) Q8)))
def Q3s : MS := (Qq (Z8 (yg (Vi (toB (Qd1 "tuple" (Q4 0)))) (Vi (toB (Q20 (oI fun a b => .bl (decide (a <= b))) (oI fun a b => .bl (decide (a <= b))) (mC (.int 1)) (J3 Zg (Q3 (Q4 0) Q8)) (mC (.int 8)))))) (Jp (mC (.bl za))) Z2)
  (Jp (J3 (x9 fun ns=>.bl (ns.all id)) (Q3 (W6 (Jt [zl,zo 0] (Qk 0) (U9 (Q4 0)) Je Q0y)) Q8))))
def ju:FN:=Qr Q3s 1
theorem Qdy:FnScope ["thing"] ["thing"] (Qb Q3f):=⟨rfl,rfl,rfl,by decide +kernel,rfl,by decide +kernel,by decide +kernel⟩
theorem Qeg {f:aA} {fd:aO} (F:Fun K "is_table" "is_table" Q3f f fd) (T:Txt mg)  (j:DefS P w K mg base 2 "is_row" 2 Q2b):FnOk P w K mg base (CXD P w) 3 f fd ["thing"] (spF mg 1 ju):=by
 refine J0 (k:=2) (m:=Q3s) F Qdy rfl rfl rfl fun q A outer s H E z=>?_
 exact (Qa (Ju (SimW.t (yh (Wh (Yf (Q3b (T := "tuple") (by decide) (Q0 0) rfl T.b_isinstance rfl T.b_tuple Yc))) (qp (Wh (Qdv Q8d Q8d Qd (Qs Z6 rfl T.b_len bU (Q1 (Q0 0) Q6)) (Qqr rfl T.c_MOST_HOUSES.choose_spec)))))) (Qc (Qu yj)) Jw)
  (Qc (Qu (Qs (Q10 rfl) rfl T.b_all Uy (Q1 (Zj (Jv [zl,zo 0] ["row", "thing"] rfl (Y8 (Q0 0)) (fun _ _ _ _ _=>(Qy (i:=0) (show (["row", "thing"]:List Str).Nodup by decide +kernel))) (fun _ _ _ _ _=>(Qe j (z.mono (by decide)) Ym rfl (Q1 (Q0 0) (Q1 (Qs Z6 rfl T.b_len bU (Q1 (Q0 1) Q6)) Q6)))) (fun _ _ _ _ _=>Z1) J7)) Q6)))))
def Q3t:MS:=(Jp (Qg 3 X0 (Q3 (Q4 1) (Q3 (mC (.int 0)) (Q3 (mOp (oI fun a b=>.int (a - b)) (J3 Zg (Q3 (Q4 0) Q8)) (mC (.int 1))) Q8)))))
def Z7:FN:=Qr Q3t 2
theorem Qdz:FnScope ["table", "thing"] ["table", "thing"] (Qb Q3g):=⟨rfl,rfl,rfl,by decide +kernel,rfl,by decide +kernel,by decide +kernel⟩
theorem Qeh {f:aA} {fd:aO} (F:Fun K "is_house" "is_house" Q3g f fd) (T:Txt mg)  (j:DefS P w K mg base 2 "is_between" 3 X0):FnOk P w K mg base (CXD P w) 3 f fd ["table", "thing"] (spF mg 2 Z7):=by
 refine J0 (k:=2) (m:=Q3t) F Qdz rfl rfl rfl fun q A outer s H E z=>?_
 exact (Qc (Qu (Qe j (z.mono (by decide)) Q9 rfl (Q1 (Q0 1) (Q1 Qd (Q1 (Jm j7 (Qs Z6 rfl T.b_len bU (Q1 (Q0 0) Q6)) Qd) Q6))))))
def Q3y:ME:=(mOp oIx (Q4 0) (Q4 1))
def Q8v : MS := (Qq (Z8 (Vi (toB (Qg 2 Z7 (Q3 (Q4 0) (Q3 (Q4 1) Q8))))) (Uj "NoHouse" (mC (.str "no house of this table"))) Z2)
  (Qq (J8 2 (J3 (Wd fun ns=>zo (.int ns.sum)) (Q3 (W6 (Jt [zl,zo 1] (Qk 0) (U9 (Q4 0)) Je Q3y)) Q8)))
  (Qq (J8 3 (mOp oIx (Q4 0) (Q4 1)))
  (Qq (J8 4 (mOp (oI fun a b=>.int (a - b)) (J3 (Wd fun ns=>zo (.int ns.sum)) (Q3 (Q4 3) Q8)) (mOp oIx (Q4 3) (Q4 1))))
  (Jp (mOp (oI fun a b=>.int (a - b)) (Q4 2) (Q4 4)))))))
def Yr:FN:=Qr Q8v 5
theorem sc_rights:FnScope ["table", "house", "gained", "own", "spent"] ["table", "house"] (Qb Q80):=⟨rfl,rfl,rfl,by decide +kernel,rfl,by decide +kernel,by decide +kernel⟩
theorem Qbh {f:aA} {fd:aO} (F:Fun K "rights" "rights" Q80 f fd) (T:Txt mg) (j:∃ C,mg "NoHouse" = zo (.ref C)/\bY K C Vq "ValueError.__new__" = zb) (q:DefS P w K mg base 3 "is_house" 2 Z7):FnOk P w K mg base (CXD P w) 4 f fd ["table", "house"] (spF mg 2 Yr):=by
 refine J0 (k:=3) (m:=Q8v) F sc_rights rfl rfl rfl fun z A outer s H E B=>?_
 exact (Qa (Ju (Wh (Yf (Qe q (B.mono (by decide)) Q9 rfl (Q1 (Q0 0) (Q1 (Q0 1) Q6))))) (Qc (W9 rfl Yz rfl j.choose_spec.1 j.choose_spec.2 J1)) Jw)
  (Qa (Qx 2 sc_rights.nd (Qs (Q0z rfl) rfl T.b_sum Ux (Q1 (Zj (Jv [zl,zo 1] ["row", "house"] rfl (Y8 (Q0 0)) (fun _ _ _ _ _=>(Qy (i:=0) (show (["row", "house"]:List Str).Nodup by decide +kernel))) (fun _ _ _ _ _=>(Qw (Q0 0) (Q0 1))) (fun _ _ _ _ _=>Z1) J7)) Q6)))
  (Qa (Qx 3 sc_rights.nd (Qw (Q0 0) (Q0 1)))
  (Qa (Qx 4 sc_rights.nd (Jm j7 (Qs (Q0z rfl) rfl T.b_sum Ux (Q1 (Q0 3) Q6)) (Qw (Q0 3) (Q0 1))))
  (Qc (Qu (Jm j7 (Q0 2) (Q0 4))))))))
def Q5w:ME:=(mOp oIx (Q4 1) (Q4 0))
def Q5v:ME:=(mOp oIx (Q4 0) (Q31 (mC (.int 1))))
def Qcz : MS := (Qq (J8 1 (J3 (Wd fun ns => zo (.int ns.sum)) (Q3 (W6 (Jt [zl, zl] (Vm (Jx (Qk 0) (Jx (Qk 1) Vn))) (Qi9 (Q3 (Q4 0) Q8)) Je Q5w)) Q8)))
  (Qq (J8 2 (J3 (Wd fun ns=>zo (.int ns.sum)) (Q3 (W6 (Jt [zl] (Qk 0) (U9 (Q4 0)) Je Q5v)) Q8)))
  (Jp (mOp (oI fun a b=>.int (a - b)) (Q4 1) (Q4 2)))))
def Q15:FN:=Qr Qcz 3
theorem sc_stock:FnScope ["table", "made", "used"] ["table"] (Qb Qch):=⟨rfl,rfl,rfl,by decide +kernel,rfl,by decide +kernel,by decide +kernel⟩
theorem Qnd {f:aA} {fd:aO} (F:Fun K "stock" "stock" Qch f fd) (T:Txt mg)   : FnOk P w K mg base (CXD P w) 1 f fd ["table"] (spF mg 1 Q15):=by
 refine J0 (k:=0) (m:=Qcz) F sc_stock rfl rfl rfl fun j A outer s H E q=>?_
 exact (Qa (Qx 1 sc_stock.nd (Qs (Q0z rfl) rfl T.b_sum Ux (Q1 (Zj (Jv [zl,zl] ["house", "row"] rfl (Qqm rfl T.b_enumerate (Q1 (Q0 0) Q6)) (fun _ _ _ _ _=>(xj rfl (Zp (Qy (i:=0) (show (["house", "row"]:List Str).Nodup by decide +kernel)) (Zp (Qy (i:=1) (show (["house", "row"]:List Str).Nodup by decide +kernel)) Kk)))) (fun _ _ _ _ _=>(Qw (Q0 1) (Q0 0))) (fun _ _ _ _ _=>Z1) (je (Zz (Zz jf))))) Q6)))
  (Qa (Qx 2 sc_stock.nd (Qs (Q0z rfl) rfl T.b_sum Ux (Q1 (Zj (Jv [zl] ["row"] rfl (Y8 (Q0 0)) (fun _ _ _ _ _=>(Qy (i:=0) (show (["row"]:List Str).Nodup by decide +kernel))) (fun _ _ _ _ _=>(Qw (Q0 0) (qq Qd))) (fun _ _ _ _ _=>Z1) J7)) Q6)))
  (Qc (Qu (Jm j7 (Q0 1) (Q0 2))))))
def Wn:MS:=(Z8 (toB (mOp oNe (J3 Zg (Q3 (Q4 0) Q8)) (J3 Zg (Q3 (Q4 1) Q8)))) (Uj "NoTable" (mC (.str "the tables have unlike numbers of houses"))) Z2)
def Jk:FN:=Qr Wn 2
theorem xn:FnScope ["one", "other"] ["one", "other"] (Qb Wj):=⟨rfl,rfl,rfl,by decide +kernel,rfl,by decide +kernel,by decide +kernel⟩
theorem Q0e {f:aA} {fd:aO} (F:Fun K "need_as_many_houses" "need_as_many_houses" Wj f fd) (T:Txt mg) (j:∃ C,mg "NoTable" = zo (.ref C)/\bY K C Vq "ValueError.__new__" = zb)  : FnOk P w K mg base (CXD P w) 1 f fd ["one", "other"] (spF mg 2 Jk):=by
 refine J0 (k:=0) (m:=Wn) F xn rfl rfl rfl fun q A outer s H E z=>?_
 exact (Qc (Ju (J4 (Q17 z.units) (Qs Z6 rfl T.b_len bU (Q1 (Q0 0) Q6)) (Qs Z6 rfl T.b_len bU (Q1 (Q0 1) Q6))) (Qc (W9 rfl Yz rfl j.choose_spec.1 j.choose_spec.2 J1)) Jw))
def Uu:ME:=(mOp (oI fun a b=>.bl (decide (a<=b))) (Q4 0) (Q4 1))
def Kb:MS:=(Jp (J3 (x9 fun ns=>.bl (ns.all id)) (Q3 (W6 (Jt [zl,zl] (Vm (Jx (Qk 0) (Jx (Qk 1) Vn))) (Q6w (Q3 (Q4 0) (Q3 (Q4 1) Q8))) Je Uu)) Q8)))
def Y3:FN:=Qr Kb 2
theorem Q52:FnScope ["one", "other"] ["one", "other"] (Qb K6):=⟨rfl,rfl,rfl,by decide +kernel,rfl,by decide +kernel,by decide +kernel⟩
theorem Q5e {f:aA} {fd:aO} (F:Fun K "is_row_within" "is_row_within" K6 f fd) (T:Txt mg)   : FnOk P w K mg base (CXD P w) 1 f fd ["one", "other"] (spF mg 2 Y3):=by
 refine J0 (k:=0) (m:=Kb) F Q52 rfl rfl rfl fun j A outer s H E q=>?_
 exact (Qc (Qu (Qs (Q10 rfl) rfl T.b_all Uy (Q1 (Zj (Jv [zl,zl] ["mine", "its"] rfl (Q3a rfl T.b_zip (Q1 (Q0 0) (Q1 (Q0 1) Q6))) (fun _ _ _ _ _=>(xj rfl (Zp (Qy (i:=0) (show (["mine", "its"]:List Str).Nodup by decide +kernel)) (Zp (Qy (i:=1) (show (["mine", "its"]:List Str).Nodup by decide +kernel)) Kk)))) (fun _ _ _ _ _=>(Xa Q8d (Q0 0) (Q0 1))) (fun _ _ _ _ _=>Z1) (je (Zz (Zz jf))))) Q6))))
def y9:ME:=(Qg 2 Y3 (Q3 (Q4 0) (Q3 (Q4 1) Q8)))
def Q1x : MS := (Qq (Y6 (Qg 2 Jk (Q3 (Q4 0) (Q3 (Q4 1) Q8))))
  (Jp (J3 (x9 fun ns=>.bl (ns.all id)) (Q3 (W6 (Jt [zl,zl] (Vm (Jx (Qk 0) (Jx (Qk 1) Vn))) (Q6w (Q3 (Q4 0) (Q3 (Q4 1) Q8))) Je y9)) Q8))))
def V7:FN:=Qr Q1x 2
theorem Qce:FnScope ["one", "other"] ["one", "other"] (Qb Q1h):=⟨rfl,rfl,rfl,by decide +kernel,rfl,by decide +kernel,by decide +kernel⟩
theorem Qcs {f:aA} {fd:aO} (F:Fun K "is_within" "is_within" Q1h f fd) (T:Txt mg)  (j:DefS P w K mg base 1 "need_as_many_houses" 2 Jk) (q:DefS P w K mg base 1 "is_row_within" 2 Y3):FnOk P w K mg base (CXD P w) 2 f fd ["one", "other"] (spF mg 2 V7):=by
 refine J0 (k:=1) (m:=Q1x) F Qce rfl rfl rfl fun B A outer s H E z=>?_
 exact (Qa (Z4 (Qe j (z.mono (by decide)) Q9 rfl (Q1 (Q0 0) (Q1 (Q0 1) Q6))))
  (Qc (Qu (Qs (Q10 rfl) rfl T.b_all Uy (Q1 (Zj (Jv [zl,zl] ["mine", "its"] rfl (Q3a rfl T.b_zip (Q1 (Q0 0) (Q1 (Q0 1) Q6))) (fun _ _ _ _ _=>(xj rfl (Zp (Qy (i:=0) (show (["mine", "its"]:List Str).Nodup by decide +kernel)) (Zp (Qy (i:=1) (show (["mine", "its"]:List Str).Nodup by decide +kernel)) Kk)))) (fun _ _ _ _ _=>(Qe q (z.mono (by decide)) Ym rfl (Q1 (Q0 0) (Q1 (Q0 1) Q6)))) (fun _ _ _ _ _=>Z1) (je (Zz (Zz jf))))) Q6)))))
def ji:ME:=(J3 Q5x (Q3 (Q4 0) (Q3 (Q4 1) Q8)))
def Q0j:MS:=(Jp (J3 Vh (Q3 (W6 (Jt [zl,zl] (Vm (Jx (Qk 0) (Jx (Qk 1) Vn))) (Q6w (Q3 (Q4 0) (Q3 (Q4 1) Q8))) Je ji)) Q8)))
def Uz:FN:=Qr Q0j 2
theorem Qa0:FnScope ["one", "other"] ["one", "other"] (Qb xr):=⟨rfl,rfl,rfl,by decide +kernel,rfl,by decide +kernel,by decide +kernel⟩
theorem Qad {f:aA} {fd:aO} (F:Fun K "joined_row" "joined_row" xr f fd) (T:Txt mg)   : FnOk P w K mg base (CXD P w) 1 f fd ["one", "other"] (spF mg 2 Uz):=by
 refine J0 (k:=0) (m:=Q0j) F Qa0 rfl rfl rfl fun j A outer s H E q=>?_
 exact (Qc (Qu (Xu jn rfl T.b_tuple Yc (Q1 (Zj (Jv [zl,zl] ["mine", "its"] rfl (Q3a rfl T.b_zip (Q1 (Q0 0) (Q1 (Q0 1) Q6))) (fun _ _ _ _ _=>(xj rfl (Zp (Qy (i:=0) (show (["mine", "its"]:List Str).Nodup by decide +kernel)) (Zp (Qy (i:=1) (show (["mine", "its"]:List Str).Nodup by decide +kernel)) Kk)))) (fun _ _ _ _ _=>(Qs (Q9m rfl) rfl T.b_max Q28 (Q1 (Q0 0) (Q1 (Q0 1) Q6)))) (fun _ _ _ _ _=>Z1) (je (Zz (Zz jf))))) Q6))))
def Q3z:ME:=(Qg 2 Uz (Q3 (Q4 0) (Q3 (Q4 1) Q8)))
def Q8y : MS := (Qq (Y6 (Qg 2 Jk (Q3 (Q4 0) (Q3 (Q4 1) Q8))))
  (Jp (J3 Vh (Q3 (W6 (Jt [zl,zl] (Vm (Jx (Qk 0) (Jx (Qk 1) Vn))) (Q6w (Q3 (Q4 0) (Q3 (Q4 1) Q8))) Je Q3z)) Q8))))
def Q2a:FN:=Qr Q8y 2
theorem Qj9:FnScope ["one", "other"] ["one", "other"] (Qb Q83):=⟨rfl,rfl,rfl,by decide +kernel,rfl,by decide +kernel,by decide +kernel⟩
theorem Qjq {f:aA} {fd:aO} (F:Fun K "joined" "joined" Q83 f fd) (T:Txt mg)  (j:DefS P w K mg base 1 "need_as_many_houses" 2 Jk) (q:DefS P w K mg base 1 "joined_row" 2 Uz):FnOk P w K mg base (CXD P w) 2 f fd ["one", "other"] (spF mg 2 Q2a):=by
 refine J0 (k:=1) (m:=Q8y) F Qj9 rfl rfl rfl fun B A outer s H E z=>?_
 exact (Qa (Z4 (Qe j (z.mono (by decide)) Q9 rfl (Q1 (Q0 0) (Q1 (Q0 1) Q6))))
  (Qc (Qu (Xu jn rfl T.b_tuple Yc (Q1 (Zj (Jv [zl,zl] ["mine", "its"] rfl (Q3a rfl T.b_zip (Q1 (Q0 0) (Q1 (Q0 1) Q6))) (fun _ _ _ _ _=>(xj rfl (Zp (Qy (i:=0) (show (["mine", "its"]:List Str).Nodup by decide +kernel)) (Zp (Qy (i:=1) (show (["mine", "its"]:List Str).Nodup by decide +kernel)) Kk)))) (fun _ _ _ _ _=>(Qe q (z.mono (by decide)) Ym rfl (Q1 (Q0 0) (Q1 (Q0 1) Q6)))) (fun _ _ _ _ _=>Z1) (je (Zz (Zz jf))))) Q6)))))
def W1:ME:=(Qg 1 W7 (Q3 (Q4 0) Q8))
def Wp : MS := (Qq (Z8 (yg (Vi (toB (Qd1 "tuple" (Q4 0)))) (yg (toB (mOp oEq (J3 Zg (Q3 (Q4 0) Q8)) (mC (.int 0)))) (Vi (toB (Qd1 "str" (mOp oIx (Q4 0) (mC (.int 0)))))))) (Jp (mC (.bl za))) Z2)
  (Jp (J3 (x9 fun ns=>.bl (ns.all id)) (Q3 (W6 (Jt [zl] (Qk 0) (U9 (mSl (Q4 0) (z8 (mC (.int 1))) Vx)) Je W1)) Q8))))
def Qp:FN:=Qr Wp 1
theorem xq:FnScope ["thing"] ["thing"] (Qb Wk):=⟨rfl,rfl,rfl,by decide +kernel,rfl,by decide +kernel,by decide +kernel⟩
theorem Q0f {f:aA} {fd:aO} (F:Fun K "is_text_and_numbers" "is_text_and_numbers" Wk f fd) (T:Txt mg)  (j:DefS P w K mg base 1 "is_whole" 1 W7):FnOk P w K mg base (CXD P w) 2 f fd ["thing"] (spF mg 1 Qp):=by
 refine J0 (k:=1) (m:=Wp) F xq rfl rfl rfl fun z A outer s H E q=>?_
 exact (Qa (Ju (SimW.t (yh (Wh (Yf (Q3b (T := "tuple") (by decide) (Q0 0) rfl T.b_isinstance rfl T.b_tuple Yc))) (yh (J4 (Y9 q.units) (Qs Z6 rfl T.b_len bU (Q1 (Q0 0) Q6)) Qd) (qp (Wh (Yf (Q3b (T := "str") (by decide) (Qw (Q0 0) Qd) rfl T.b_isinstance rfl T.b_str Qpv))))))) (Qc (Qu yj)) Jw)
  (Qc (Qu (Qs (Q10 rfl) rfl T.b_all Uy (Q1 (Zj (Jv [zl] ["part"] rfl (Y8 (Wy (Q0 0) (Vw Qd) Xq)) (fun _ _ _ _ _=>(Qy (i:=0) (show (["part"]:List Str).Nodup by decide +kernel))) (fun _ _ _ _ _=>(Qe j (q.mono (by decide)) Ym rfl (Q1 (Q0 0) Q6))) (fun _ _ _ _ _=>Z1) J7)) Q6)))))
def V9:MS:=(Jp (Q6x (Qg 1 Qp (Q3 (Q4 0) Q8)) (Q6x (mOp oEq (J3 Zg (Q3 (Q4 0) Q8)) (Qh4 (mOp oIx (Q4 0) (mC (.int 0))))) (mOp (oI fun a b=>.bl (decide (b<=a))) (mOp oIx (Q4 0) (Q31 (mC (.int 1)))) (mC (.int 1))))))
def Y2:FN:=Qr V9 1
theorem Qg9:FnScope ["thing"] ["thing"] (Qb Q56):=⟨rfl,rfl,rfl,by decide +kernel,rfl,by decide +kernel,by decide +kernel⟩
theorem Qgm {f:aA} {fd:aO} (F:Fun K "is_deed" "is_deed" Q56 f fd) (T:Txt mg) (PK:PartsOk P w K mg)  (j:DefS P w K mg base 2 "is_text_and_numbers" 1 Qp):FnOk P w K mg base (CXD P w) 3 f fd ["thing"] (spF mg 1 Y2):=by
 refine J0 (k:=2) (m:=V9) F Qg9 rfl rfl rfl fun z A outer s H E q=>?_
 exact (Qc (Qu (xm (Qe j (q.mono (by decide)) Q9 rfl (Q1 (Q0 0) Q6)) (xm (Xa (Y9 q.units) (Qs Z6 rfl T.b_len bU (Q1 (Q0 0) Q6)) (Qmf PK rfl (Qw (Q0 0) Qd))) (xk (Xa Qi2 (Qw (Q0 0) (qq Qd)) Qd))))))
def Y0:ME:=(Qg 2 Z7 (Q3 (Q4 1) (Q3 (Q4 0) Q8)))
def Zu : MS := (Qq (J8 2 (mSl (Q4 1) (z8 (mC (.int 1))) (z8 (Q31 (mC (.int 1))))))
  (Qq (Z8 (Vi (toB (J3 (x9 fun ns=>.bl (ns.all id)) (Q3 (W6 (Jt [zl,zo 0] (Qk 0) (U9 (Q4 2)) Je Y0)) Q8)))) (Uj "NoHouse" (mC (.str "no house of this table"))) Z2)
  (Z8 (Q16 (toB (mOp oEq (mOp oIx (Q4 1) (mC (.int 0))) (mC (.str "lend")))) (toB (mOp oEq (mOp oIx (Q4 2) (mC (.int 0))) (mOp oIx (Q4 2) (mC (.int 1)))))) (Uj "NoHouse" (mC (.str "a house lends nothing to itself"))) Z2)))
def Jj:FN:=Qr Zu 3
theorem sc_need_houses_of_deed:FnScope ["table", "deed", "houses"] ["table", "deed"] (Qb Wi):=⟨rfl,rfl,rfl,by decide +kernel,rfl,by decide +kernel,by decide +kernel⟩
theorem Q0d {f:aA} {fd:aO} (F:Fun K "need_houses_of_deed" "need_houses_of_deed" Wi f fd) (T:Txt mg) (j:∃ C,mg "NoHouse" = zo (.ref C)/\bY K C Vq "ValueError.__new__" = zb) (q:DefS P w K mg base 3 "is_house" 2 Z7):FnOk P w K mg base (CXD P w) 4 f fd ["table", "deed"] (spF mg 2 Jj):=by
 refine J0 (k:=3) (m:=Zu) F sc_need_houses_of_deed rfl rfl rfl fun B A outer s H E z=>?_
 exact (Qa (Qx 2 sc_need_houses_of_deed.nd (Wy (Q0 1) (Vw Qd) (Vw (qq Qd))))
  (Qa (Ju (Wh (Yf (Qs (Q10 rfl) rfl T.b_all Uy (Q1 (Zj (Jv [zl,zo 0] ["house", "table"] rfl (Y8 (Q0 2)) (fun _ _ _ _ _=>(Qy (i:=0) (show (["house", "table"]:List Str).Nodup by decide +kernel))) (fun _ _ _ _ _=>(Qe q (z.mono (by decide)) Ym rfl (Q1 (Q0 1) (Q1 (Q0 0) Q6)))) (fun _ _ _ _ _=>Z1) J7)) Q6)))) (Qc (W9 rfl Yz rfl j.choose_spec.1 j.choose_spec.2 J1)) Jw)
  (Qc (Ju (SimW.t (Q7m (J4 (Y9 z.units) (Qw (Q0 1) Qd) J1) (Q45 (J4 (Y9 z.units) (Qw (Q0 2) Qd) (Qw (Q0 2) Qd))))) (Qc (W9 rfl Yz rfl j.choose_spec.1 j.choose_spec.2 J1)) Jw))))
def V1 : MS := (Qq (Z8 (toB (mOp oEq (mOp oIx (Q4 1) (mC (.int 0))) (mC (.str "make")))) (Jp (mOp oIx (Q4 1) (mC (.int 1)))) Z2)
  (Qq (Z8 (toB (mOp oEq (mOp oIx (Q4 1) (mC (.int 0))) (mC (.str "lend")))) (Jp (mOp oIx (Q4 1) (mC (.int 2)))) Z2)
  (Jp (J3 Zg (Q3 (Q4 0) Q8)))))
def Yd:FN:=Qr V1 2
theorem Q6h:FnScope ["table", "deed"] ["table", "deed"] (Qb qr):=⟨rfl,rfl,rfl,by decide +kernel,rfl,by decide +kernel,by decide +kernel⟩
theorem Q6m {f:aA} {fd:aO} (F:Fun K "place_in_row" "place_in_row" qr f fd) (T:Txt mg)   : FnOk P w K mg base (CXD P w) 1 f fd ["table", "deed"] (spF mg 2 Yd):=by
 refine J0 (k:=0) (m:=V1) F Q6h rfl rfl rfl fun q A outer s H E j=>?_
 exact (Qa (Ju (J4 (Y9 j.units) (Qw (Q0 1) Qd) J1) (Qc (Qu (Qw (Q0 1) Qd))) Jw)
  (Qa (Ju (J4 (Y9 j.units) (Qw (Q0 1) Qd) J1) (Qc (Qu (Qw (Q0 1) Qd))) Jw)
  (Qc (Qu (Qs Z6 rfl T.b_len bU (Q1 (Q0 0) Q6))))))
def Q8w : MS := (Qq (J8 4 (mOp oIx (Q4 0) (Q4 1)))
  (Qq (J8 5 (mOp Yg (mOp Yg (mSl (Q4 4) Vx (z8 (Q4 2))) (Va (Q3 (mOp Yg (mOp oIx (Q4 4) (Q4 2)) (Q4 3)) Q8))) (mSl (Q4 4) (z8 (mOp Yg (Q4 2) (mC (.int 1)))) Vx)))
  (Jp (mOp Yg (mOp Yg (mSl (Q4 0) Vx (z8 (Q4 1))) (Va (Q3 (Q4 5) Q8))) (mSl (Q4 0) (z8 (mOp Yg (Q4 1) (mC (.int 1)))) Vx)))))
def js:FN:=Qr Q8w 6
theorem sc_raised:FnScope ["table", "house", "place", "k", "row", "higher"] ["table", "house", "place", "k"] (Qb Q81):=⟨rfl,rfl,rfl,by decide +kernel,rfl,by decide +kernel,by decide +kernel⟩
theorem Qjn {f:aA} {fd:aO} (F:Fun K "raised" "raised" Q81 f fd) (T:Txt mg)   : FnOk P w K mg base (CXD P w) 1 f fd ["table", "house", "place", "k"] (spF mg 4 js):=by
 refine J0 (k:=0) (m:=Q8w) F sc_raised rfl rfl rfl fun j A outer s H E q=>?_
 exact (Qa (Qx 4 sc_raised.nd (Qw (Q0 0) (Q0 1)))
  (Qa (Qx 5 sc_raised.nd (Jm Z5 (Jm Z5 (Wy (Q0 4) Xq (Vw (Q0 2))) (Y5 (Q1 (Jm Z5 (Qw (Q0 4) (Q0 2)) (Q0 3)) Q6))) (Wy (Q0 4) (Vw (Jm Z5 (Q0 2) Qd)) Xq)))
  (Qc (Qu (Jm Z5 (Jm Z5 (Wy (Q0 0) Xq (Vw (Q0 1))) (Y5 (Q1 (Q0 5) Q6))) (Wy (Q0 0) (Vw (Jm Z5 (Q0 1) Qd)) Xq))))))
def Q90 : MS := (Qq (Z8 (Vi (toB (Qg 1 Y2 (Q3 (Q4 1) Q8)))) (Uj "NoDeed" (mC (.str "neither a making nor a lending nor a using of one right or more"))) Z2)
  (Qq (Y6 (Qg 2 Jj (Q3 (Q4 0) (Q3 (Q4 1) Q8))))
  (Qq (J8 2 (mOp oIx (Q4 1) (mC (.int 1))))
  (Qq (J8 3 (mOp oIx (Q4 1) (Q31 (mC (.int 1)))))
  (Qq (Z8 (toB (mOp oNe (mOp oIx (Q4 1) (mC (.int 0))) (mC (.str "make")))) (Qq (J8 4 (Qg 2 Yr (Q3 (Q4 0) (Q3 (Q4 2) Q8))))
  (Z8 (toB (mOp oLt (Q4 4) (Q4 3))) (Qd0 "Short" "had" (Q4 4)) Z2)) Z2)
  (Jp (Qg 4 js (Q3 (Q4 0) (Q3 (Q4 2) (Q3 (Qg 2 Yd (Q3 (Q4 0) (Q3 (Q4 1) Q8))) (Q3 (Q4 3) Q8)))))))))))
def jv:FN:=Qr Q90 5
theorem sc_done:FnScope ["table", "deed", "house", "k", "had"] ["table", "deed"] (Qb Qga):=⟨rfl,rfl,rfl,by decide +kernel,rfl,by decide +kernel,by decide +kernel⟩
theorem Qrw {f:aA} {fd:aO} (F:Fun K "done" "done" Qga f fd) (T:Txt mg) (J:ShortS P w K mg base) (B:∃ C,mg "NoDeed" = zo (.ref C)/\bY K C Vq "ValueError.__new__" = zb) (G:DefS P w K mg base 3 "is_deed" 1 Y2) (j:DefS P w K mg base 4 "need_houses_of_deed" 2 Jj) (q:DefS P w K mg base 4 "rights_tables" 2 Yr) (I:DefS P w K mg base 1 "raised" 4 js) (z:DefS P w K mg base 1 "place_in_row" 2 Yd):FnOk P w K mg base (CXD P w) 5 f fd ["table", "deed"] (spF mg 2 jv):=by
 obtain ⟨a5,a4,a3,a2,Z,O,Y,U⟩:=J.ex;refine J0 (k:=4) (m:=Q90) F sc_done rfl rfl rfl fun a6 A outer s H E hr=>?_
 exact (Qa (Ju (Wh (Yf (Qe G (hr.mono (by decide)) Q9 rfl (Q1 (Q0 1) Q6)))) (Qc (W9 rfl Yz rfl B.choose_spec.1 B.choose_spec.2 J1)) Jw)
  (Qa (Z4 (Qe j (hr.mono (by decide)) Q9 rfl (Q1 (Q0 0) (Q1 (Q0 1) Q6))))
  (Qa (Qx 2 sc_done.nd (Qw (Q0 1) Qd))
  (Qa (Qx 3 sc_done.nd (Qw (Q0 1) (qq Qd)))
  (Qa (Ju (J4 (Q17 hr.units) (Qw (Q0 1) Qd) J1) (Qa (Qx 4 sc_done.nd (Qe q (hr.mono (by decide)) Q9 rfl (Q1 (Q0 0) (Q1 (Q0 2) Q6))))
  (Qc (Ju (J4 (Q34 hr.units) (Q0 4) (Q0 3)) (Qc (Qj3 rfl Yz Z O (hr.mono (by decide)) Y rfl U (Q0 4))) Jw))) Jw)
  (Qc (Qu (Qe I (hr.mono (by decide)) Q9 rfl (Q1 (Q0 0) (Q1 (Q0 2) (Q1 (Qe z (hr.mono (by decide)) Q9 rfl (Q1 (Q0 0) (Q1 (Q0 1) Q6))) (Q1 (Q0 3) Q6))))))))))))
def Q1w:MS:=(Jp (mOp (oI fun a b=>.bl (decide (b < a))) (mOp oIx (mOp oIx (Q4 0) (Q4 1)) (Q4 1)) (mC (.int 0))))
def Xy:FN:=Qr Q1w 2
theorem Qcd:FnScope ["table", "house"] ["table", "house"] (Qb Q1g):=⟨rfl,rfl,rfl,by decide +kernel,rfl,by decide +kernel,by decide +kernel⟩
theorem Qcr {f:aA} {fd:aO} (F:Fun K "made_some" "made_some" Q1g f fd) (T:Txt mg)   : FnOk P w K mg base (CXD P w) 1 f fd ["table", "house"] (spF mg 2 Xy):=by
 refine J0 (k:=0) (m:=Q1w) F Qcd rfl rfl rfl fun j A outer s H E q=>?_
 exact (Qc (Qu (Xa Q4d (Qw (Qw (Q0 0) (Q0 1)) (Q0 1)) Qd)))
def Ve : MS := (Qq (J8 2 (mOp oIx (Q4 0) (Q4 1)))
  (Jp (mOp (oI fun a b=>.bl (decide (b < a))) (J3 (Wd fun ns=>zo (.int ns.sum)) (Q3 (Q4 2) Q8)) (mOp oIx (Q4 2) (Q4 1)))))
def Y4:FN:=Qr Ve 3
theorem sc_lent_or_used_some:FnScope ["table", "house", "row"] ["table", "house"] (Qb Vd):=⟨rfl,rfl,rfl,by decide +kernel,rfl,by decide +kernel,by decide +kernel⟩
theorem Q1s {f:aA} {fd:aO} (F:Fun K "lent_or_used_some" "lent_or_used_some" Vd f fd) (T:Txt mg)   : FnOk P w K mg base (CXD P w) 1 f fd ["table", "house"] (spF mg 2 Y4):=by
 refine J0 (k:=0) (m:=Ve) F sc_lent_or_used_some rfl rfl rfl fun j A outer s H E q=>?_
 exact (Qa (Qx 2 sc_lent_or_used_some.nd (Qw (Q0 0) (Q0 1)))
  (Qc (Qu (Xa Q4d (Qs (Q0z rfl) rfl T.b_sum Ux (Q1 (Q0 2) Q6)) (Qw (Q0 2) (Q0 1))))))
def Ur:ME:=(mOp (oI fun a b=>.bl (decide (b < a))) (mOp oIx (mOp oIx (Q4 2) (Q4 0)) (Q4 1)) (mC (.int 0)))
def Ub:MT:=(toB (mOp oNe (Q4 0) (Q4 1)))
def K9:MS:=(Jp (J3 (x9 fun ns=>.bl (ns.any id)) (Q3 (W6 (Jt [zl,zo 1,zo 0] (Qk 0) (U9 (Q4 2)) Ub Ur)) Q8)))
def We:FN:=Qr K9 3
theorem Q51:FnScope ["table", "house", "lenders"] ["table", "house", "lenders"] (Qb K3):=⟨rfl,rfl,rfl,by decide +kernel,rfl,by decide +kernel,by decide +kernel⟩
theorem Q5b {f:aA} {fd:aO} (F:Fun K "was_lent_some" "was_lent_some" K3 f fd) (T:Txt mg)   : FnOk P w K mg base (CXD P w) 1 f fd ["table", "house", "lenders"] (spF mg 3 We):=by
 refine J0 (k:=0) (m:=K9) F Q51 rfl rfl rfl fun j A outer s H E q=>?_
 exact (Qc (Qu (Qs (Qpg rfl) rfl T.b_any Qfs (Q1 (Zj (Jv [zl,zo 1,zo 0] ["lender", "house", "table"] rfl (Y8 (Q0 2)) (fun _ _ _ _ _=>(Qy (i:=0) (show (["lender", "house", "table"]:List Str).Nodup by decide +kernel))) (fun _ _ _ _ _=>(Xa Q4d (Qw (Qw (Q0 2) (Q0 0)) (Q0 1)) Qd)) (fun _ _ _ _ _=>(Kj (J4 (Q17 q.units) (Q0 0) (Q0 1)))) J7)) Q6))))
def Q0m:MS:=(Jp (mOr (Qg 2 Xy (Q3 (Q4 0) (Q3 (Q4 1) Q8))) (Qg 3 We (Q3 (Q4 0) (Q3 (Q4 1) (Q3 (Q4 2) Q8))))))
def Xp:FN:=Qr Q0m 3
theorem Qe0:FnScope ["table", "house", "ahead"] ["table", "house", "ahead"] (Qb Q3h):=⟨rfl,rfl,rfl,by decide +kernel,rfl,by decide +kernel,by decide +kernel⟩
theorem Qei {f:aA} {fd:aO} (F:Fun K "has_root" "has_root" Q3h f fd) (T:Txt mg)  (q:DefS P w K mg base 1 "made_some" 2 Xy) (j:DefS P w K mg base 1 "was_lent_some" 3 We):FnOk P w K mg base (CXD P w) 2 f fd ["table", "house", "ahead"] (spF mg 3 Xp):=by
 refine J0 (k:=1) (m:=Q0m) F Qe0 rfl rfl rfl fun B A outer s H E z=>?_
 exact (Qc (Qu (Qxp (Qe q (z.mono (by decide)) Q9 rfl (Q1 (Q0 0) (Q1 (Q0 1) Q6))) (xk (Qe j (z.mono (by decide)) Q9 rfl (Q1 (Q0 0) (Q1 (Q0 1) (Q1 (Q0 2) Q6))))))))
def Ut:ME:=(Q4 0)
def Wr:MT:=(toB (mOp (oIn zb) (Q4 0) (Q4 1)))
def Us:ME:=(Q4 0)
def Uc:MT:=(toB (Qg 3 Xp (Q3 (Q4 1) (Q3 (Q4 0) (Q3 (Q4 2) Q8)))))
def Ww : MS := (Qq (J8 3 (W6 (Jt [zl, zo 1] (Qk 0) (Zc (Q3 (J3 Zg (Q3 (Q4 0) Q8)) Q8)) Wr Ut)))
  (Qq (J8 4 (W6 (Jt [zl,zo 0,zo 1] (Qk 0) (U9 (Q4 3)) Uc Us)))
  (Qq (Y6 (mBM Q1u (Q4 1) (Q3 (Q4 4) Q8)))
  (J8 2 (mOp (oI fun a b=>.bl (decide (b < a))) (J3 Zg (Q3 (Q4 4) Q8)) (mC (.int 0)))))))
def Zy:MT:=(toB (Q4 2))
def Wa : MS := (Qq (J8 1 (Q0r (jc Q8)))
  (Qq (J8 2 (mC (.bl zb)))
  (Qq (qj Zy Ww 100000)
  (Jp (Q4 1)))))
def Yj:FN:=Qr Wa 5
theorem sc_rooted_houses:FnScope ["table", "roots", "grows", "others", "found"] ["table"] (Qb K4):=⟨rfl,rfl,rfl,by decide +kernel,rfl,by decide +kernel,by decide +kernel⟩
theorem Q5c {f:aA} {fd:aO} (F:Fun K "rooted_houses" "rooted_houses" K4 f fd) (T:Txt mg)  (j:DefS P w K mg base 2 "has_root" 3 Xp):FnOk P w K mg base (CXD P w) 3 f fd ["table"] (spF mg 1 Yj):=by
 refine J0 (k:=2) (m:=Wa) F sc_rooted_houses rfl rfl rfl fun z A outer s H E q=>?_
 exact (Qa (Qx 1 sc_rooted_houses.nd (X9 (zi Q6)))
  (Qa (Qx 2 sc_rooted_houses.nd yj)
  (Qa (Qmc 100000 PassesOwn.leaving (Yf (Q0 2)) (Qa (by first | exact Q1d [zl,zo 1] ["house", "roots"] 3 sc_rooted_houses.nd rfl (Z9 rfl T.b_range (Q1 (Qs Z6 rfl T.b_len bU (Q1 (Q0 0) Q6)) Q6)) (fun _ _ _ _ _=>(Qy (i:=0) (show (["house", "roots"]:List Str).Nodup by decide +kernel))) (fun _ _ _ _ _=>(Q0 0)) (fun _ _ _ _ _=>(Kj (J4 (Q1q q.units) (Q0 0) (Q0 1)))) J7 | exact Qx 3 sc_rooted_houses.nd (Zj (Jv [zl,zo 1] ["house", "roots"] rfl (Z9 rfl T.b_range (Q1 (Qs Z6 rfl T.b_len bU (Q1 (Q0 0) Q6)) Q6)) (fun _ _ _ _ _=>(Qy (i:=0) (show (["house", "roots"]:List Str).Nodup by decide +kernel))) (fun _ _ _ _ _=>(Q0 0)) (fun _ _ _ _ _=>(Kj (J4 (Q1q q.units) (Q0 0) (Q0 1)))) J7)))
  (Qa (by first | exact Q1d [zl,zo 0,zo 1] ["house", "table", "roots"] 4 sc_rooted_houses.nd rfl (Y8 (Q0 3)) (fun _ _ _ _ _=>(Qy (i:=0) (show (["house", "table", "roots"]:List Str).Nodup by decide +kernel))) (fun _ _ _ _ _=>(Q0 0)) (fun _ _ _ _ _=>(Kj (Yf (Qe j (q.mono (by decide)) Ym rfl (Q1 (Q0 1) (Q1 (Q0 0) (Q1 (Q0 2) Q6))))))) J7 | exact Qx 4 sc_rooted_houses.nd (Zj (Jv [zl,zo 0,zo 1] ["house", "table", "roots"] rfl (Y8 (Q0 3)) (fun _ _ _ _ _=>(Qy (i:=0) (show (["house", "table", "roots"]:List Str).Nodup by decide +kernel))) (fun _ _ _ _ _=>(Q0 0)) (fun _ _ _ _ _=>(Kj (Yf (Qe j (q.mono (by decide)) Ym rfl (Q1 (Q0 1) (Q1 (Q0 0) (Q1 (Q0 2) Q6))))))) J7)))
  (Qa (Z4 (Qj7 (Q0 1) (Q1 (Q0 4) Q6)))
  (Qc (Qx 2 sc_rooted_houses.nd (Xa Q4d (Qs Z6 rfl T.b_len bU (Q1 (Q0 4) Q6)) Qd)))))))
  (Qc (Qu (Q0 1))))))
def Vg:ME:=(Q4 0)
def Yw:MT:=(toB (mOp (oIn zb) (Q4 0) (Q4 1)))
def Vf:ME:=(Qg 2 Y4 (Q3 (Q4 1) (Q3 (Q4 0) Q8)))
def Wv : MS := (Qq (J8 1 (Qg 1 Yj (Q3 (Q4 0) Q8)))
  (Qq (J8 2 (W6 (Jt [zl,zo 1] (Qk 0) (Zc (Q3 (J3 Zg (Q3 (Q4 0) Q8)) Q8)) Yw Vg)))
  (Qq (Z8 (toB (J3 (x9 fun ns=>.bl (ns.any id)) (Q3 (W6 (Jt [zl,zo 0] (Qk 0) (U9 (Q4 2)) Je Vf)) Q8))) (Jp (Q4 2)) Z2)
  (Jp (Q91 Q8)))))
def Y1:FN:=Qr Wv 3
theorem sc_rootless_houses:FnScope ["table", "roots", "others"] ["table"] (Qb Ue):=⟨rfl,rfl,rfl,by decide +kernel,rfl,by decide +kernel,by decide +kernel⟩
theorem Q3n {f:aA} {fd:aO} (F:Fun K "rootless_houses" "rootless_houses" Ue f fd) (T:Txt mg)  (q:DefS P w K mg base 3 "rooted_houses" 1 Yj) (j:DefS P w K mg base 1 "lent_or_used_some" 2 Y4):FnOk P w K mg base (CXD P w) 4 f fd ["table"] (spF mg 1 Y1):=by
 refine J0 (k:=3) (m:=Wv) F sc_rootless_houses rfl rfl rfl fun B A outer s H E z=>?_
 exact (Qa (Qx 1 sc_rootless_houses.nd (Qe q (z.mono (by decide)) Q9 rfl (Q1 (Q0 0) Q6)))
  (Qa (by first | exact Q1d [zl,zo 1] ["house", "roots"] 2 sc_rootless_houses.nd rfl (Z9 rfl T.b_range (Q1 (Qs Z6 rfl T.b_len bU (Q1 (Q0 0) Q6)) Q6)) (fun _ _ _ _ _=>(Qy (i:=0) (show (["house", "roots"]:List Str).Nodup by decide +kernel))) (fun _ _ _ _ _=>(Q0 0)) (fun _ _ _ _ _=>(Kj (J4 (Q1q z.units) (Q0 0) (Q0 1)))) J7 | exact Qx 2 sc_rootless_houses.nd (Zj (Jv [zl,zo 1] ["house", "roots"] rfl (Z9 rfl T.b_range (Q1 (Qs Z6 rfl T.b_len bU (Q1 (Q0 0) Q6)) Q6)) (fun _ _ _ _ _=>(Qy (i:=0) (show (["house", "roots"]:List Str).Nodup by decide +kernel))) (fun _ _ _ _ _=>(Q0 0)) (fun _ _ _ _ _=>(Kj (J4 (Q1q z.units) (Q0 0) (Q0 1)))) J7)))
  (Qa (Ju (Yf (Qs (Qpg rfl) rfl T.b_any Qfs (Q1 (Zj (Jv [zl,zo 0] ["house", "table"] rfl (Y8 (Q0 2)) (fun _ _ _ _ _=>(Qy (i:=0) (show (["house", "table"]:List Str).Nodup by decide +kernel))) (fun _ _ _ _ _=>(Qe j (z.mono (by decide)) Ym rfl (Q1 (Q0 1) (Q1 (Q0 0) Q6)))) (fun _ _ _ _ _=>Z1) J7)) Q6))) (Qc (Qu (Q0 2))) Jw)
  (Qc (Qu (Q7w Q6))))))
def Vy:MS:=(Z8 (toB (mOp oLt (Qg 2 Yr (Q3 (Q4 0) (Q3 (Q4 1) Q8))) (mC (.int 0)))) (Jp (Va (Q3 (mC (.str "short")) (Q3 (Q4 1) Q8)))) Z2)
def Vk : MS := (Qq (Q3u (Qk 1) (Zc (Q3 (J3 Zg (Q3 (Q4 0) Q8)) Q8)) Vy)
  (Qq (J8 2 (Qg 1 Y1 (Q3 (Q4 0) Q8)))
  (Qq (Z8 (toB (mOp (oI fun a b=>.bl (decide (b < a))) (J3 Zg (Q3 (Q4 2) Q8)) (mC (.int 0)))) (Jp (Va (Q3 (mC (.str "rootless")) (Q3 (Q4 2) Q8)))) Z2)
  (Jp (Va (Q3 (mC (.str "comes")) (Q3 (Qg 1 Yj (Q3 (Q4 0) Q8)) Q8)))))))
def Zk:FN:=Qr Vk 3
theorem sc_comes_about:FnScope ["table", "house", "rootless"] ["table"] (Qb zm):=⟨rfl,rfl,rfl,by decide +kernel,rfl,by decide +kernel,by decide +kernel⟩
theorem Q8g {f:aA} {fd:aO} (F:Fun K "comes_about" "comes_about" zm f fd) (T:Txt mg)  (q:DefS P w K mg base 4 "rights_tables" 2 Yr) (j:DefS P w K mg base 4 "rootless_houses" 1 Y1) (z:DefS P w K mg base 3 "rooted_houses" 1 Yj):FnOk P w K mg base (CXD P w) 5 f fd ["table"] (spF mg 1 Zk):=by
 refine J0 (k:=4) (m:=Vk) F sc_comes_about rfl rfl rfl fun G A outer s H E B=>?_
 exact (Qa (K1 PassesOwn.leaving rfl (Z9 rfl T.b_range (Q1 (Qs Z6 rfl T.b_len bU (Q1 (Q0 0) Q6)) Q6)) (Qy (i:=1) sc_comes_about.nd) (Qc (Ju (J4 (Q34 B.units) (Qe q (B.mono (by decide)) Q9 rfl (Q1 (Q0 0) (Q1 (Q0 1) Q6))) Qd) (Qc (Qu (Y5 (Q1 J1 (Q1 (Q0 1) Q6))))) Jw)))
  (Qa (Qx 2 sc_comes_about.nd (Qe j (B.mono (by decide)) Q9 rfl (Q1 (Q0 0) Q6)))
  (Qa (Ju (J4 Q4d (Qs Z6 rfl T.b_len bU (Q1 (Q0 2) Q6)) Qd) (Qc (Qu (Y5 (Q1 J1 (Q1 (Q0 2) Q6))))) Jw)
  (Qc (Qu (Y5 (Q1 J1 (Q1 (Qe z (B.mono (by decide)) Q9 rfl (Q1 (Q0 0) Q6)) Q6))))))))
def Uh:MS:=(Jp (Q6x (Qg 1 ju (Q3 (Q4 0) Q8)) (mOp oEq (mOp oIx (Qg 1 Zk (Q3 (Q4 0) Q8)) (mC (.int 0))) (mC (.str "comes")))))
def Zq:FN:=Qr Uh 1
theorem Q3c:FnScope ["thing"] ["thing"] (Qb Uf):=⟨rfl,rfl,rfl,by decide +kernel,rfl,by decide +kernel,by decide +kernel⟩
theorem Q3p {f:aA} {fd:aO} (F:Fun K "does_come_about" "does_come_about" Uf f fd) (T:Txt mg)  (q:DefS P w K mg base 3 "is_table" 1 ju) (j:DefS P w K mg base 5 "comes_about" 1 Zk):FnOk P w K mg base (CXD P w) 6 f fd ["thing"] (spF mg 1 Zq):=by
 refine J0 (k:=5) (m:=Uh) F Q3c rfl rfl rfl fun B A outer s H E z=>?_
 exact (Qc (Qu (xm (Qe q (z.mono (by decide)) Q9 rfl (Q1 (Q0 0) Q6)) (xk (Xa (Y9 z.units) (Qw (Qe j (z.mono (by decide)) Q9 rfl (Q1 (Q0 0) Q6)) Qd) J1)))))
def W5:MS:=(Z8 (Vi (toB (Qg 1 Zq (Q3 (Q4 0) Q8)))) (Uj "NoTable" (mC (.str "no table that comes about"))) Z2)
def Ji:FN:=Qr W5 1
theorem Q2w:FnScope ["thing"] ["thing"] (Qb U3):=⟨rfl,rfl,rfl,by decide +kernel,rfl,by decide +kernel,by decide +kernel⟩
theorem Q30 {f:aA} {fd:aO} (F:Fun K "need_comes_about" "need_comes_about" U3 f fd) (T:Txt mg) (q:∃ C,mg "NoTable" = zo (.ref C)/\bY K C Vq "ValueError.__new__" = zb) (j:DefS P w K mg base 6 "does_come_about" 1 Zq):FnOk P w K mg base (CXD P w) 7 f fd ["thing"] (spF mg 1 Ji):=by
 refine J0 (k:=6) (m:=W5) F Q2w rfl rfl rfl fun z A outer s H E B=>?_
 exact (Qc (Ju (Wh (Yf (Qe j (B.mono (by decide)) Q9 rfl (Q1 (Q0 0) Q6)))) (Qc (W9 rfl Yz rfl q.choose_spec.1 q.choose_spec.2 J1)) Jw))
def jj:ME:=(Qg 2 Z7 (Q3 (Q4 1) (Q3 (Q4 0) Q8)))
def Q0n:MS:=(Jp (J3 (x9 fun ns=>.bl (ns.all id)) (Q3 (W6 (Jt [zl,zo 0] (Qk 0) (U9 (Q4 1)) Je jj)) Q8)))
def X1:FN:=Qr Q0n 2
theorem Qa2:FnScope ["table", "houses"] ["table", "houses"] (Qb xu):=⟨rfl,rfl,rfl,by decide +kernel,rfl,by decide +kernel,by decide +kernel⟩
theorem Qaf {f:aA} {fd:aO} (F:Fun K "are_houses" "are_houses" xu f fd) (T:Txt mg)  (j:DefS P w K mg base 3 "is_house" 2 Z7):FnOk P w K mg base (CXD P w) 4 f fd ["table", "houses"] (spF mg 2 X1):=by
 refine J0 (k:=3) (m:=Q0n) F Qa2 rfl rfl rfl fun q A outer s H E z=>?_
 exact (Qc (Qu (Qs (Q10 rfl) rfl T.b_all Uy (Q1 (Zj (Jv [zl,zo 0] ["house", "table"] rfl (Y8 (Q0 1)) (fun _ _ _ _ _=>(Qy (i:=0) (show (["house", "table"]:List Str).Nodup by decide +kernel))) (fun _ _ _ _ _=>(Qe j (z.mono (by decide)) Ym rfl (Q1 (Q0 1) (Q1 (Q0 0) Q6)))) (fun _ _ _ _ _=>Z1) J7)) Q6))))
def Q5m : MS := (Qq (Z8 (yg (Vi (toB (Qd1 "tuple" (Q4 1)))) (toB (mOp oEq (J3 Zg (Q3 (Q4 1) Q8)) (mC (.int 0))))) (Jp (mC (.bl za))) Z2)
  (Jp (Q6x (Qg 2 X1 (Q3 (Q4 0) (Q3 (Q4 1) Q8))) (Qg 1 Xz (Q3 (Q4 1) Q8)))))
def xg:FN:=Qr Q5m 2
theorem Qg8:FnScope ["table", "thing"] ["table", "thing"] (Qb Q55):=⟨rfl,rfl,rfl,by decide +kernel,rfl,by decide +kernel,by decide +kernel⟩
theorem Qgk {f:aA} {fd:aO} (F:Fun K "is_pool" "is_pool" Q55 f fd) (T:Txt mg)  (j:DefS P w K mg base 4 "are_houses" 2 X1) (q:DefS P w K mg base 1 "is_rising" 1 Xz):FnOk P w K mg base (CXD P w) 5 f fd ["table", "thing"] (spF mg 2 xg):=by
 refine J0 (k:=4) (m:=Q5m) F Qg8 rfl rfl rfl fun B A outer s H E z=>?_
 exact (Qa (Ju (SimW.t (yh (Wh (Yf (Q3b (T := "tuple") (by decide) (Q0 1) rfl T.b_isinstance rfl T.b_tuple Yc))) (qp (J4 (Y9 z.units) (Qs Z6 rfl T.b_len bU (Q1 (Q0 1) Q6)) Qd)))) (Qc (Qu yj)) Jw)
  (Qc (Qu (xm (Qe j (z.mono (by decide)) Q9 rfl (Q1 (Q0 0) (Q1 (Q0 1) Q6))) (xk (Qe q (z.mono (by decide)) Q9 rfl (Q1 (Q0 1) Q6)))))))
def Q1v : MS := (Qq (Y6 (Qg 1 Ji (Q3 (Q4 0) Q8)))
  (Z8 (Vi (toB (Qg 2 xg (Q3 (Q4 0) (Q3 (Q4 1) Q8))))) (Uj "NoHouse" (mC (.str "no pool of houses of this table"))) Z2))
def Ys:FN:=Qr Q1v 2
theorem Qcc:FnScope ["table", "pool"] ["table", "pool"] (Qb Q1f):=⟨rfl,rfl,rfl,by decide +kernel,rfl,by decide +kernel,by decide +kernel⟩
theorem Qcq {f:aA} {fd:aO} (F:Fun K "need_pool" "need_pool" Q1f f fd) (T:Txt mg) (q:∃ C,mg "NoHouse" = zo (.ref C)/\bY K C Vq "ValueError.__new__" = zb) (j:DefS P w K mg base 7 "need_comes_about" 1 Ji) (z:DefS P w K mg base 5 "is_pool" 2 xg):FnOk P w K mg base (CXD P w) 8 f fd ["table", "pool"] (spF mg 2 Ys):=by
 refine J0 (k:=7) (m:=Q1v) F Qcc rfl rfl rfl fun G A outer s H E B=>?_
 exact (Qa (Z4 (Qe j (B.mono (by decide)) Q9 rfl (Q1 (Q0 0) Q6)))
  (Qc (Ju (Wh (Yf (Qe z (B.mono (by decide)) Q9 rfl (Q1 (Q0 0) (Q1 (Q0 1) Q6))))) (Qc (W9 rfl Yz rfl q.choose_spec.1 q.choose_spec.2 J1)) Jw)))
def U6:ME:=(Qg 2 Yr (Q3 (Q4 1) (Q3 (Q4 0) Q8)))
def Xg:MS:=(Jp (J3 (Wd fun ns=>zo (.int ns.sum)) (Q3 (W6 (Jt [zl,zo 0] (Qk 0) (U9 (Q4 1)) Je U6)) Q8)))
def Zw:FN:=Qr Xg 2
theorem Q47:FnScope ["table", "pool"] ["table", "pool"] (Qb Xc):=⟨rfl,rfl,rfl,by decide +kernel,rfl,by decide +kernel,by decide +kernel⟩
theorem Q4e {f:aA} {fd:aO} (F:Fun K "rights_of_pool" "rights_of_pool" Xc f fd) (T:Txt mg)  (j:DefS P w K mg base 4 "rights_tables" 2 Yr):FnOk P w K mg base (CXD P w) 5 f fd ["table", "pool"] (spF mg 2 Zw):=by
 refine J0 (k:=4) (m:=Xg) F Q47 rfl rfl rfl fun q A outer s H E z=>?_
 exact (Qc (Qu (Qs (Q0z rfl) rfl T.b_sum Ux (Q1 (Zj (Jv [zl,zo 0] ["house", "table"] rfl (Y8 (Q0 1)) (fun _ _ _ _ _=>(Qy (i:=0) (show (["house", "table"]:List Str).Nodup by decide +kernel))) (fun _ _ _ _ _=>(Qe j (z.mono (by decide)) Ym rfl (Q1 (Q0 1) (Q1 (Q0 0) Q6)))) (fun _ _ _ _ _=>Z1) J7)) Q6))))
def zw : MS := (Qq (Y6 (Qg 2 Ys (Q3 (Q4 0) (Q3 (Q4 1) Q8))))
  (Jp (Qg 2 Zw (Q3 (Q4 0) (Q3 (Q4 1) Q8)))))
def Wg:FN:=Qr zw 2
theorem Q7x:FnScope ["table", "pool"] ["table", "pool"] (Qb zj):=⟨rfl,rfl,rfl,by decide +kernel,rfl,by decide +kernel,by decide +kernel⟩
theorem Q8e {f:aA} {fd:aO} (F:Fun K "least_stock" "least_stock" zj f fd) (T:Txt mg)  (q:DefS P w K mg base 8 "need_pool" 2 Ys) (j:DefS P w K mg base 5 "rights_of_pool" 2 Zw):FnOk P w K mg base (CXD P w) 9 f fd ["table", "pool"] (spF mg 2 Wg):=by
 refine J0 (k:=8) (m:=zw) F Q7x rfl rfl rfl fun B A outer s H E z=>?_
 exact (Qa (Z4 (Qe q (z.mono (by decide)) Q9 rfl (Q1 (Q0 0) (Q1 (Q0 1) Q6))))
  (Qc (Qu (Qe j (z.mono (by decide)) Q9 rfl (Q1 (Q0 0) (Q1 (Q0 1) Q6))))))
def Wx:MS:=(Z8 (toB (mOp (oIn zb) (Q4 3) (Q4 1))) (J8 2 (Qg 4 js (Q3 (Q4 2) (Q3 (Q4 3) (Q3 (J3 Zg (Q3 (Q4 0) Q8)) (Q3 (Qg 2 Yr (Q3 (Q4 0) (Q3 (Q4 3) Q8))) Q8)))))) Z2)
def Ka : MS := (Qq (J8 2 (Q4 0))
  (Qq (Q3u (Qk 3) (Zc (Q3 (J3 Zg (Q3 (Q4 0) Q8)) Q8)) Wx)
  (Jp (Q4 2))))
def Wf:FN:=Qr Ka 4
theorem sc_poorest_world:FnScope ["table", "pool", "world", "house"] ["table", "pool"] (Qb K5):=⟨rfl,rfl,rfl,by decide +kernel,rfl,by decide +kernel,by decide +kernel⟩
theorem Q5d {f:aA} {fd:aO} (F:Fun K "poorest_world" "poorest_world" K5 f fd) (T:Txt mg)  (q:DefS P w K mg base 1 "raised" 4 js) (j:DefS P w K mg base 4 "rights_tables" 2 Yr):FnOk P w K mg base (CXD P w) 5 f fd ["table", "pool"] (spF mg 2 Wf):=by
 refine J0 (k:=4) (m:=Ka) F sc_poorest_world rfl rfl rfl fun B A outer s H E z=>?_
 exact (Qa (Qx 2 sc_poorest_world.nd (Q0 0))
  (Qa (K1 PassesOwn.leaving rfl (Z9 rfl T.b_range (Q1 (Qs Z6 rfl T.b_len bU (Q1 (Q0 0) Q6)) Q6)) (Qy (i:=3) sc_poorest_world.nd) (Qc (Ju (J4 (Q1q z.units) (Q0 3) (Q0 1)) (Qc (Qx 2 sc_poorest_world.nd (Qe q (z.mono (by decide)) Q9 rfl (Q1 (Q0 2) (Q1 (Q0 3) (Q1 (Qs Z6 rfl T.b_len bU (Q1 (Q0 0) Q6)) (Q1 (Qe j (z.mono (by decide)) Q9 rfl (Q1 (Q0 0) (Q1 (Q0 3) Q6))) Q6))))))) Jw)))
  (Qc (Qu (Q0 2)))))
def Q2h : MS := (Qq (Y6 (Qg 2 Ys (Q3 (Q4 0) (Q3 (Q4 1) Q8))))
  (Qq (J8 3 (Qg 2 Zw (Q3 (Q4 0) (Q3 (Q4 1) Q8))))
  (Qq (Z8 (toB (mOp (oI fun a b=>.bl (decide (b<=a))) (Q4 3) (Q4 2))) (Jp (Va (Q3 (mC (.str "may")) (Q3 (Q4 3) Q8)))) Z2)
  (Jp (Va (Q3 (mC (.str "must")) (Q3 (Qg 2 Wf (Q3 (Q4 0) (Q3 (Q4 1) Q8))) Q8)))))))
def Xn:FN:=Qr Q2h 4
theorem sc_may_use:FnScope ["table", "pool", "k", "had"] ["table", "pool", "k"] (Qb Q54):=⟨rfl,rfl,rfl,by decide +kernel,rfl,by decide +kernel,by decide +kernel⟩
theorem Qgj {f:aA} {fd:aO} (F:Fun K "may_use" "may_use" Q54 f fd) (T:Txt mg)  (z:DefS P w K mg base 8 "need_pool" 2 Ys) (j:DefS P w K mg base 5 "rights_of_pool" 2 Zw) (q:DefS P w K mg base 5 "poorest_world" 2 Wf):FnOk P w K mg base (CXD P w) 9 f fd ["table", "pool", "k"] (spF mg 3 Xn):=by
 refine J0 (k:=8) (m:=Q2h) F sc_may_use rfl rfl rfl fun G A outer s H E B=>?_
 exact (Qa (Z4 (Qe z (B.mono (by decide)) Q9 rfl (Q1 (Q0 0) (Q1 (Q0 1) Q6))))
  (Qa (Qx 3 sc_may_use.nd (Qe j (B.mono (by decide)) Q9 rfl (Q1 (Q0 0) (Q1 (Q0 1) Q6))))
  (Qa (Ju (J4 Qi2 (Q0 3) (Q0 2)) (Qc (Qu (Y5 (Q1 J1 (Q1 (Q0 3) Q6))))) Jw)
  (Qc (Qu (Y5 (Q1 J1 (Q1 (Qe q (B.mono (by decide)) Q9 rfl (Q1 (Q0 0) (Q1 (Q0 1) Q6))) Q6))))))))
def Q0x:ME:=(mOp oEq (mOp oIx (Q4 1) (Q4 0)) (mOp oIx (Q4 2) (Q4 0)))
def Xh : MS := (Qq (Y6 (Qg 2 Ys (Q3 (Q4 0) (Q3 (Q4 1) Q8))))
  (Qq (Z8 (yg (Vi (toB (Qg 1 Zq (Q3 (Q4 2) Q8)))) (toB (mOp oNe (J3 Zg (Q3 (Q4 2) Q8)) (J3 Zg (Q3 (Q4 0) Q8))))) (Jp (mC (.bl za))) Z2)
  (Jp (Q6x (Qg 2 V7 (Q3 (Q4 0) (Q3 (Q4 2) Q8))) (J3 (x9 fun ns=>.bl (ns.all id)) (Q3 (W6 (Jt [zl,zo 2,zo 0] (Qk 0) (U9 (Q4 1)) Je Q0x)) Q8))))))
def V6:FN:=Qr Xh 3
theorem Qdw:FnScope ["table", "pool", "world"] ["table", "pool", "world"] (Qb Q3d):=⟨rfl,rfl,rfl,by decide +kernel,rfl,by decide +kernel,by decide +kernel⟩
theorem Qee {f:aA} {fd:aO} (F:Fun K "is_world" "is_world" Q3d f fd) (T:Txt mg)  (q:DefS P w K mg base 8 "need_pool" 2 Ys) (j:DefS P w K mg base 6 "does_come_about" 1 Zq) (z:DefS P w K mg base 2 "is_within" 2 V7):FnOk P w K mg base (CXD P w) 9 f fd ["table", "pool", "world"] (spF mg 3 V6):=by
 refine J0 (k:=8) (m:=Xh) F Qdw rfl rfl rfl fun G A outer s H E B=>?_
 exact (Qa (Z4 (Qe q (B.mono (by decide)) Q9 rfl (Q1 (Q0 0) (Q1 (Q0 1) Q6))))
  (Qa (Ju (SimW.t (yh (Wh (Yf (Qe j (B.mono (by decide)) Q9 rfl (Q1 (Q0 2) Q6)))) (qp (J4 (Q17 B.units) (Qs Z6 rfl T.b_len bU (Q1 (Q0 2) Q6)) (Qs Z6 rfl T.b_len bU (Q1 (Q0 0) Q6)))))) (Qc (Qu yj)) Jw)
  (Qc (Qu (xm (Qe z (B.mono (by decide)) Q9 rfl (Q1 (Q0 0) (Q1 (Q0 2) Q6))) (xk (Qs (Q10 rfl) rfl T.b_all Uy (Q1 (Zj (Jv [zl,zo 2,zo 0] ["house", "world", "table"] rfl (Y8 (Q0 1)) (fun _ _ _ _ _=>(Qy (i:=0) (show (["house", "world", "table"]:List Str).Nodup by decide +kernel))) (fun _ _ _ _ _=>(Xa (Y9 B.units) (Qw (Q0 1) (Q0 0)) (Qw (Q0 2) (Q0 0)))) (fun _ _ _ _ _=>Z1) J7)) Q6))))))))
def Xi (C : aA) : MS := (Qq (Y6 (Qg 1 Ji (Q3 (Q4 2) Q8)))
  (Qq (Z8 (Vi (toB (Qg 2 Z7 (Q3 (Q4 2) (Q3 (Q4 1) Q8))))) (Uj "NoHouse" (mC (.str "no house of this table"))) Z2)
  (Qq (yq C "number" (Q4 0) (Q4 1))
  (Qq (yq C "now" (Q4 0) (Q4 2))
  (yq C "kept" (Q4 0) (Q4 2))))))
def Y7 (C:aA):FN:=Zs (Xi C) 3
theorem Q48:FnScope ["self", "number", "table"] ["self", "number", "table"] (Qb Xd):=⟨rfl,rfl,rfl,by decide +kernel,rfl,by decide +kernel,by decide +kernel⟩
theorem Q4f {f:aA} {fd:aO} {C:aA} (F:Fun K "__init__" "House.__init__" Xd f fd) (T:Txt mg) (B:ClsT K C) (q:∃ C,mg "NoHouse" = zo (.ref C)/\bY K C Vq "ValueError.__new__" = zb) (j:DefS P w K mg base 7 "need_comes_about" 1 Ji) (z:DefS P w K mg base 3 "is_house" 2 Z7):FnOk P w K mg base (CXD P w) 8 f fd ["self", "number", "table"] (spF mg 3 (Y7 C)):=by
 refine Yb (k:=7) (m:=(Xi C)) F Q48 rfl rfl rfl fun I A outer s H E G=>?_
 exact (Qa (Z4 (Qe j (G.mono (by decide)) Q9 rfl (Q1 (Q0 2) Q6)))
  (Qa (Ju (Wh (Yf (Qe z (G.mono (by decide)) Q9 rfl (Q1 (Q0 2) (Q1 (Q0 1) Q6))))) (Qc (W9 rfl Yz rfl q.choose_spec.1 q.choose_spec.2 J1)) Jw)
  (Qa (xi B.cl B.n_number (Q0 1) (Q0 0))
  (Qa (xi B.cl B.n_now (Q0 2) (Q0 0))
  (Qc (xi B.cl B.n_kept (Q0 2) (Q0 0)))))))
def Ks (C:aA):MS:=(yq C "now" (Q4 0) (Qg 2 jv (Q3 (Wb C "now" (Q4 0)) (Q3 (Va (Q3 (mC (.str "make")) (Q3 (Wb C "number" (Q4 0)) (Q3 (Q4 1) Q8)))) Q8))))
def X3 (C:aA):FN:=Zs (Ks C) 2
theorem Qa6:FnScope ["self", "k"] ["self", "k"] (Qb Q05):=⟨rfl,rfl,rfl,by decide +kernel,rfl,by decide +kernel,by decide +kernel⟩
theorem Qaq {f:aA} {fd:aO} {C:aA} (F:Fun K "make" "House.make" Q05 f fd) (T:Txt mg) (q:ClsT K C)  (j:DefS P w K mg base 5 "done" 2 jv):FnOk P w K mg base (CXD P w) 6 f fd ["self", "k"] (spF mg 2 (X3 C)):=by
 refine Yb (k:=5) (m:=(Ks C)) F Qa6 rfl rfl rfl fun z A outer s H E B=>?_
 exact (Qc (xi q.cl q.n_now (Qe j (B.mono (by decide)) Q9 rfl (Q1 (Yt q.cl q.n_now (Q0 0)) (Q1 (Y5 (Q1 J1 (Q1 (Yt q.cl q.n_number (Q0 0)) (Q1 (Q0 1) Q6)))) Q6))) (Q0 0)))
def Kt (C:aA):MS:=(yq C "now" (Q4 0) (Qg 2 jv (Q3 (Wb C "now" (Q4 0)) (Q3 (Va (Q3 (mC (.str "lend")) (Q3 (Wb C "number" (Q4 0)) (Q3 (Q4 1) (Q3 (Q4 2) Q8))))) Q8))))
def X4 (C:aA):FN:=Zs (Kt C) 3
theorem Qa7:FnScope ["self", "to", "k"] ["self", "to", "k"] (Qb Q06):=⟨rfl,rfl,rfl,by decide +kernel,rfl,by decide +kernel,by decide +kernel⟩
theorem Qar {f:aA} {fd:aO} {C:aA} (F:Fun K "lend" "House.lend" Q06 f fd) (T:Txt mg) (q:ClsT K C)  (j:DefS P w K mg base 5 "done" 2 jv):FnOk P w K mg base (CXD P w) 6 f fd ["self", "to", "k"] (spF mg 3 (X4 C)):=by
 refine Yb (k:=5) (m:=(Kt C)) F Qa7 rfl rfl rfl fun z A outer s H E B=>?_
 exact (Qc (xi q.cl q.n_now (Qe j (B.mono (by decide)) Q9 rfl (Q1 (Yt q.cl q.n_now (Q0 0)) (Q1 (Y5 (Q1 J1 (Q1 (Yt q.cl q.n_number (Q0 0)) (Q1 (Q0 1) (Q1 (Q0 2) Q6))))) Q6))) (Q0 0)))
def jz (C:aA):MS:=(yq C "now" (Q4 0) (Qg 2 jv (Q3 (Wb C "now" (Q4 0)) (Q3 (Va (Q3 (mC (.str "use")) (Q3 (Wb C "number" (Q4 0)) (Q3 (Q4 1) Q8)))) Q8))))
def K0 (C:aA):FN:=Zs (jz C) 2
theorem Qcg:FnScope ["self", "k"] ["self", "k"] (Qb Q1k):=⟨rfl,rfl,rfl,by decide +kernel,rfl,by decide +kernel,by decide +kernel⟩
theorem Qcv {f:aA} {fd:aO} {C:aA} (F:Fun K "use" "House.use" Q1k f fd) (T:Txt mg) (q:ClsT K C)  (j:DefS P w K mg base 5 "done" 2 jv):FnOk P w K mg base (CXD P w) 6 f fd ["self", "k"] (spF mg 2 (K0 C)):=by
 refine Yb (k:=5) (m:=(jz C)) F Qcg rfl rfl rfl fun z A outer s H E B=>?_
 exact (Qc (xi q.cl q.n_now (Qe j (B.mono (by decide)) Q9 rfl (Q1 (Yt q.cl q.n_now (Q0 0)) (Q1 (Y5 (Q1 J1 (Q1 (Yt q.cl q.n_number (Q0 0)) (Q1 (Q0 1) Q6)))) Q6))) (Q0 0)))
def Ku (C:aA):MS:=(yq C "kept" (Q4 0) (Wb C "now" (Q4 0)))
def X5 (C:aA):FN:=Zs (Ku C) 1
theorem Qa8:FnScope ["self"] ["self"] (Qb Q07):=⟨rfl,rfl,rfl,by decide +kernel,rfl,by decide +kernel,by decide +kernel⟩
theorem Qas {f:aA} {fd:aO} {C:aA} (F:Fun K "keep" "House.keep" Q07 f fd) (T:Txt mg) (j:ClsT K C)   : FnOk P w K mg base (CXD P w) 1 f fd ["self"] (spF mg 1 (X5 C)):=by
 refine Yb (k:=0) (m:=(Ku C)) F Qa8 rfl rfl rfl fun q A outer s H E z=>?_
 exact (Qc (xi j.cl j.n_kept (Yt j.cl j.n_now (Q0 0)) (Q0 0)))
def Kv (C:aA):MS:=(yq C "now" (Q4 0) (Wb C "kept" (Q4 0)))
def X6 (C:aA):FN:=Zs (Kv C) 1
theorem Qa9:FnScope ["self"] ["self"] (Qb Q08):=⟨rfl,rfl,rfl,by decide +kernel,rfl,by decide +kernel,by decide +kernel⟩
theorem Qat {f:aA} {fd:aO} {C:aA} (F:Fun K "fall" "House.fall" Q08 f fd) (T:Txt mg) (j:ClsT K C)   : FnOk P w K mg base (CXD P w) 1 f fd ["self"] (spF mg 1 (X6 C)):=by
 refine Yb (k:=0) (m:=(Kv C)) F Qa9 rfl rfl rfl fun q A outer s H E z=>?_
 exact (Qc (xi j.cl j.n_now (Yt j.cl j.n_kept (Q0 0)) (Q0 0)))
def Ui (C:aA):MS:=(Jp (Wb C "kept" (Q4 0)))
def W3 (C:aA):FN:=Qr (Ui C) 1
theorem Q6j:FnScope ["self"] ["self"] (Qb qz):=⟨rfl,rfl,rfl,by decide +kernel,rfl,by decide +kernel,by decide +kernel⟩
theorem Q6t {f:aA} {fd:aO} {C:aA} (F:Fun K "letter" "House.letter" qz f fd) (T:Txt mg) (j:ClsT K C)   : FnOk P w K mg base (CXD P w) 1 f fd ["self"] (spF mg 1 (W3 C)):=by
 refine J0 (k:=0) (m:=(Ui C)) F Q6j rfl rfl rfl fun q A outer s H E z=>?_
 exact (Qc (Qu (Yt j.cl j.n_kept (Q0 0))))
def Kw (C : aA) : MS := (Qq (Y6 (Qg 2 Jk (Q3 (Wb C "now" (Q4 0)) (Q3 (Q4 1) Q8))))
  (Qq (Z8 (Vi (toB (Qg 2 Y3 (Q3 (mOp oIx (Q4 1) (Wb C "number" (Q4 0))) (Q3 (mOp oIx (Wb C "now" (Q4 0)) (Wb C "number" (Q4 0))) Q8))))) (Uj "NoLetter" (mC (.str "it tells more of this house than the house did"))) Z2)
  (yq C "now" (Q4 0) (Qg 2 Q2a (Q3 (Wb C "now" (Q4 0)) (Q3 (Q4 1) Q8))))))
def X7 (C:aA):FN:=Zs (Kw C) 2
theorem Qaa:FnScope ["self", "table"] ["self", "table"] (Qb Q09):=⟨rfl,rfl,rfl,by decide +kernel,rfl,by decide +kernel,by decide +kernel⟩
theorem Qau {f:aA} {fd:aO} {C:aA} (F:Fun K "come" "House.come" Q09 f fd) (T:Txt mg) (G:ClsT K C) (z:∃ C,mg "NoLetter" = zo (.ref C)/\bY K C Vq "ValueError.__new__" = zb) (j:DefS P w K mg base 1 "need_as_many_houses" 2 Jk) (q:DefS P w K mg base 1 "is_row_within" 2 Y3) (B:DefS P w K mg base 2 "joined" 2 Q2a):FnOk P w K mg base (CXD P w) 3 f fd ["self", "table"] (spF mg 2 (X7 C)):=by
 refine Yb (k:=2) (m:=(Kw C)) F Qaa rfl rfl rfl fun J A outer s H E I=>?_
 exact (Qa (Z4 (Qe j (I.mono (by decide)) Q9 rfl (Q1 (Yt G.cl G.n_now (Q0 0)) (Q1 (Q0 1) Q6))))
  (Qa (Ju (Wh (Yf (Qe q (I.mono (by decide)) Q9 rfl (Q1 (Qw (Q0 1) (Yt G.cl G.n_number (Q0 0))) (Q1 (Qw (Yt G.cl G.n_now (Q0 0)) (Yt G.cl G.n_number (Q0 0))) Q6))))) (Qc (W9 rfl Yz rfl z.choose_spec.1 z.choose_spec.2 J1)) Jw)
  (Qc (xi G.cl G.n_now (Qe B (I.mono (by decide)) Q9 rfl (Q1 (Yt G.cl G.n_now (Q0 0)) (Q1 (Q0 1) Q6))) (Q0 0)))))
def Xr (C:aA):MS:=(Jp (Wb C "now" (Q4 0)))
def Vv (C:aA):FN:=Qr (Xr C) 1
theorem Q7z:FnScope ["self"] ["self"] (Qb zu):=⟨rfl,rfl,rfl,by decide +kernel,rfl,by decide +kernel,by decide +kernel⟩
theorem Q8n {f:aA} {fd:aO} {C:aA} (F:Fun K "table" "House.table" zu f fd) (T:Txt mg) (j:ClsT K C)   : FnOk P w K mg base (CXD P w) 1 f fd ["self"] (spF mg 1 (Vv C)):=by
 refine J0 (k:=0) (m:=(Xr C)) F Q7z rfl rfl rfl fun q A outer s H E z=>?_
 exact (Qc (Qu (Yt j.cl j.n_now (Q0 0))))
def Q1z (C:aA):MS:=(Jp (Qg 2 Yr (Q3 (Wb C "now" (Q4 0)) (Q3 (Wb C "number" (Q4 0)) Q8))))
def Q2c (C:aA):FN:=Qr (Q1z C) 1
theorem Q6i:FnScope ["self"] ["self"] (Qb qy):=⟨rfl,rfl,rfl,by decide +kernel,rfl,by decide +kernel,by decide +kernel⟩
theorem Q6s {f:aA} {fd:aO} {C:aA} (F:Fun K "rights" "House.rights" qy f fd) (T:Txt mg) (q:ClsT K C)  (j:DefS P w K mg base 4 "rights_tables" 2 Yr):FnOk P w K mg base (CXD P w) 5 f fd ["self"] (spF mg 1 (Q2c C)):=by
 refine J0 (k:=4) (m:=(Q1z C)) F Q6i rfl rfl rfl fun z A outer s H E B=>?_
 exact (Qc (Qu (Qe j (B.mono (by decide)) Q9 rfl (Q1 (Yt q.cl q.n_now (Q0 0)) (Q1 (Yt q.cl q.n_number (Q0 0)) Q6)))))
def Q4k (C:aA):MS:=(Jp (Va (Q3 (mOp oIx (mOp oIx (Wb C "kept" (Q4 0)) (Wb C "number" (Q4 0))) (Q31 (mC (.int 1)))) (Q3 (mOp oIx (mOp oIx (Wb C "now" (Q4 0)) (Wb C "number" (Q4 0))) (Q31 (mC (.int 1)))) Q8))))
def Q4y (C:aA):FN:=Qr (Q4k C) 1
theorem Qa5:FnScope ["self"] ["self"] (Qb Q04):=⟨rfl,rfl,rfl,by decide +kernel,rfl,by decide +kernel,by decide +kernel⟩
theorem Qap {f:aA} {fd:aO} {C:aA} (F:Fun K "used" "House.used" Q04 f fd) (T:Txt mg) (j:ClsT K C)   : FnOk P w K mg base (CXD P w) 1 f fd ["self"] (spF mg 1 (Q4y C)):=by
 refine J0 (k:=0) (m:=(Q4k C)) F Qa5 rfl rfl rfl fun q A outer s H E z=>?_
 exact (Qc (Qu (Y5 (Q1 (Qw (Qw (Yt j.cl j.n_kept (Q0 0)) (Yt j.cl j.n_number (Q0 0))) (qq Qd)) (Q1 (Qw (Qw (Yt j.cl j.n_now (Q0 0)) (Yt j.cl j.n_number (Q0 0))) (qq Qd)) Q6)))))
def Zb:MS:=(Jp (Q6x (Qg 1 Qp (Q3 (Q4 0) Q8)) (mOp oEq (J3 Zg (Q3 (Q4 0) Q8)) (Kx (mOp oIx (Q4 0) (mC (.int 0)))))))
def Jf:FN:=Qr Zb 1
theorem Q53:FnScope ["thing"] ["thing"] (Qb K7):=⟨rfl,rfl,rfl,by decide +kernel,rfl,by decide +kernel,by decide +kernel⟩
theorem Q5f {f:aA} {fd:aO} (F:Fun K "is_other_deed" "is_other_deed" K7 f fd) (T:Txt mg) (PO:PartsO P w K mg)  (j:DefS P w K mg base 2 "is_text_and_numbers" 1 Qp):FnOk P w K mg base (CXD P w) 3 f fd ["thing"] (spF mg 1 Jf):=by
 refine J0 (k:=2) (m:=Zb) F Q53 rfl rfl rfl fun z A outer s H E q=>?_
 exact (Qc (Qu (xm (Qe j (q.mono (by decide)) Q9 rfl (Q1 (Q0 0) Q6)) (xk (Xa (Y9 q.units) (Qs Z6 rfl T.b_len bU (Q1 (Q0 0) Q6)) (Qj6 PO rfl (Qw (Q0 0) Qd)))))))
def Zf:MS:=(Z8 (toB (Qg 1 Y2 (Q3 (Q4 2) Q8))) (Y6 (Qg 2 Jj (Q3 (Q4 0) (Q3 (Q4 2) Q8)))) (Z8 (Vi (toB (Qg 1 Jf (Q3 (Q4 2) Q8)))) (Uj "NoDeed" (mC (.str "a deed of no kind that runs have"))) (Z8 (Vi (toB (Qg 2 Z7 (Q3 (Q4 0) (Q3 (mOp oIx (Q4 2) (Q31 (mC (.int 1)))) Q8))))) (Uj "NoHouse" (mC (.str "no house of this run"))) (Z8 (Q16 (toB (mOp oEq (mOp oIx (Q4 2) (mC (.int 0))) (mC (.str "come")))) (Vi (toB (Q20 (oI fun a b=>.bl (decide (a<=b))) oLt (mC (.int 0)) (mOp oIx (Q4 2) (mC (.int 1))) (J3 Zg (Q3 (Q4 1) Q8)))))) (Uj "NoLetter" (mC (.str "no letter of this number is put by so far"))) Z2))))
def Jr:FN:=Qr Zf 3
theorem Q2v:FnScope ["table", "letters", "deed"] ["table", "letters", "deed"] (Qb U2):=⟨rfl,rfl,rfl,by decide +kernel,rfl,by decide +kernel,by decide +kernel⟩
theorem Q2z {f:aA} {fd:aO} (F:Fun K "need_deed_of_run" "need_deed_of_run" U2 f fd) (T:Txt mg) (G:∃ C,mg "NoDeed" = zo (.ref C)/\bY K C Vq "ValueError.__new__" = zb) (B:∃ C,mg "NoHouse" = zo (.ref C)/\bY K C Vq "ValueError.__new__" = zb) (z:∃ C,mg "NoLetter" = zo (.ref C)/\bY K C Vq "ValueError.__new__" = zb) (J:DefS P w K mg base 3 "is_deed" 1 Y2) (j:DefS P w K mg base 4 "need_houses_of_deed" 2 Jj) (q:DefS P w K mg base 3 "is_other_deed" 1 Jf) (I:DefS P w K mg base 3 "is_house" 2 Z7):FnOk P w K mg base (CXD P w) 5 f fd ["table", "letters", "deed"] (spF mg 3 Jr):=by
 refine J0 (k:=4) (m:=Zf) F Q2v rfl rfl rfl fun U A outer s H E O=>?_
 exact (Qc (Ju (Yf (Qe J (O.mono (by decide)) Q9 rfl (Q1 (Q0 2) Q6))) (Qc (Z4 (Qe j (O.mono (by decide)) Q9 rfl (Q1 (Q0 0) (Q1 (Q0 2) Q6))))) (Qc (Ju (Wh (Yf (Qe q (O.mono (by decide)) Q9 rfl (Q1 (Q0 2) Q6)))) (Qc (W9 rfl Yz rfl G.choose_spec.1 G.choose_spec.2 J1)) (Qc (Ju (Wh (Yf (Qe I (O.mono (by decide)) Q9 rfl (Q1 (Q0 0) (Q1 (Qw (Q0 2) (qq Qd)) Q6))))) (Qc (W9 rfl Yz rfl B.choose_spec.1 B.choose_spec.2 J1)) (Qc (Ju (SimW.t (Q7m (J4 (Y9 O.units) (Qw (Q0 2) Qd) J1) (Q45 (Wh (Qdv Q8d (Q34 O.units) Qd (Qw (Q0 2) Qd) (Qs Z6 rfl T.b_len bU (Q1 (Q0 1) Q6))))))) (Qc (W9 rfl Yz rfl z.choose_spec.1 z.choose_spec.2 J1)) Jw))))))))
def zx (C : aA) : MS := (Qq (J8 2 (mOp oIx (Q4 0) (mOp oIx (Q4 1) (mC (.int 1)))))
  (Z8 (toB (mOp oEq (mOp oIx (Q4 1) (mC (.int 0))) (mC (.str "make")))) (Y6 (yr C "make" 2 (X3 C) (Q4 2) (Q3 (mOp oIx (Q4 1) (mC (.int 2))) Q8))) (Z8 (toB (mOp oEq (mOp oIx (Q4 1) (mC (.int 0))) (mC (.str "lend")))) (Y6 (yr C "lend" 3 (X4 C) (Q4 2) (Q3 (mOp oIx (Q4 1) (mC (.int 2))) (Q3 (mOp oIx (Q4 1) (mC (.int 3))) Q8)))) (Y6 (yr C "use" 2 (K0 C) (Q4 2) (Q3 (mOp oIx (Q4 1) (mC (.int 2))) Q8))))))
def Yv (C:aA):FN:=Zs (zx C) 3
theorem sc_do_own_deed:FnScope ["houses", "deed", "house"] ["houses", "deed"] (Qb zk):=⟨rfl,rfl,rfl,by decide +kernel,rfl,by decide +kernel,by decide +kernel⟩
theorem Q8f {f:aA} {fd:aO} {C:aA} (F:Fun K "do_own_deed" "do_own_deed" zk f fd) (T:Txt mg) (G:ClsT K C)   (j:MethS P w K mg base 6 C "make" 2 (X3 C)) (q:MethS P w K mg base 6 C "lend" 3 (X4 C)) (z:MethS P w K mg base 6 C "use" 2 (K0 C)):FnOk P w K mg base (CXD P w) 7 f fd ["houses", "deed"] (spF mg 2 (Yv C)):=by
 refine Yb (k:=6) (m:=(zx C)) F sc_do_own_deed rfl rfl rfl fun I A outer s H E B=>?_
 exact (Qa (Qx 2 sc_do_own_deed.nd (Qw (Q0 0) (Qw (Q0 1) Qd)))
  (Qc (Ju (J4 (Y9 B.units) (Qw (Q0 1) Qd) J1) (Qc (Z4 (Q73 G.cl j (B.mono (by decide)) Q9 (Q0 2) (Q1 (Qw (Q0 1) Qd) Q6)))) (Qc (Ju (J4 (Y9 B.units) (Qw (Q0 1) Qd) J1) (Qc (Z4 (Q73 G.cl q (B.mono (by decide)) Q9 (Q0 2) (Q1 (Qw (Q0 1) Qd) (Q1 (Qw (Q0 1) Qd) Q6))))) (Qc (Z4 (Q73 G.cl z (B.mono (by decide)) Q9 (Q0 2) (Q1 (Qw (Q0 1) Qd) Q6)))))))))
def Yi (C : aA) : MS := (Qq (J8 3 (mOp oIx (Q4 0) (mOp oIx (Q4 2) (Q31 (mC (.int 1))))))
  (Z8 (toB (mOp oEq (mOp oIx (Q4 2) (mC (.int 0))) (mC (.str "keep")))) (Y6 (yr C "keep" 1 (X5 C) (Q4 3) Q8)) (Z8 (toB (mOp oEq (mOp oIx (Q4 2) (mC (.int 0))) (mC (.str "fall")))) (Y6 (yr C "fall" 1 (X6 C) (Q4 3) Q8)) (Z8 (toB (mOp oEq (mOp oIx (Q4 2) (mC (.int 0))) (mC (.str "send")))) (Y6 (mBM W0 (Q4 1) (Q3 (yr C "letter" 1 (W3 C) (Q4 3) Q8) Q8))) (Y6 (yr C "come" 2 (X7 C) (Q4 3) (Q3 (mOp oIx (Q4 1) (mOp oIx (Q4 2) (mC (.int 1)))) Q8)))))))
def U0 (C:aA):FN:=Zs (Yi C) 4
theorem sc_do_other_deed:FnScope ["houses", "letters", "deed", "house"] ["houses", "letters", "deed"] (Qb K8):=⟨rfl,rfl,rfl,by decide +kernel,rfl,by decide +kernel,by decide +kernel⟩
theorem Q5g {f:aA} {fd:aO} {C:aA} (F:Fun K "do_other_deed" "do_other_deed" K8 f fd) (T:Txt mg) (I:ClsT K C)   (B:MethS P w K mg base 1 C "keep" 1 (X5 C)) (q:MethS P w K mg base 1 C "fall" 1 (X6 C)) (j:MethS P w K mg base 1 C "letter" 1 (W3 C)) (z:MethS P w K mg base 3 C "come" 2 (X7 C)):FnOk P w K mg base (CXD P w) 4 f fd ["houses", "letters", "deed"] (spF mg 3 (U0 C)):=by
 refine Yb (k:=3) (m:=(Yi C)) F sc_do_other_deed rfl rfl rfl fun J A outer s H E G=>?_
 exact (Qa (Qx 3 sc_do_other_deed.nd (Qw (Q0 0) (Qw (Q0 2) (qq Qd))))
  (Qc (Ju (J4 (Y9 G.units) (Qw (Q0 2) Qd) J1) (Qc (Z4 (Q46 I.cl B (G.mono (by decide)) Q9 (Q0 3)))) (Qc (Ju (J4 (Y9 G.units) (Qw (Q0 2) Qd) J1) (Qc (Z4 (Q46 I.cl q (G.mono (by decide)) Q9 (Q0 3)))) (Qc (Ju (J4 (Y9 G.units) (Qw (Q0 2) Qd) J1) (Qc (Z4 (Xb (Q0 1) (Q1 (Q46 I.cl j (G.mono (by decide)) Q9 (Q0 3)) Q6)))) (Qc (Z4 (Q73 I.cl z (G.mono (by decide)) Q9 (Q0 3) (Q1 (Qw (Q0 1) (Qw (Q0 2) Qd)) Q6)))))))))))
def Xv (C : aA) : MS := (Qq (Z8 (toB (Qg 1 Jf (Q3 (Q4 2) Q8))) (Qq (Y6 (Qg 3 (U0 C) (Q3 (Q4 0) (Q3 (Q4 1) (Q3 (Q4 2) Q8)))))
  (Jp (mC (.str "done")))) Z2)
  (Qq (Qez "Short" "had" 3 2 (Yv C) (Q3 (Q4 0) (Q3 (Q4 2) Q8)))
  (Jp (mC (.str "done")))))
def ze (C:aA):FN:=Zs (Xv C) 4
theorem sc_answer_to:FnScope ["houses", "letters", "deed", "refusal"] ["houses", "letters", "deed"] (Qb Q1j):=⟨rfl,rfl,rfl,by decide +kernel,rfl,by decide +kernel,by decide +kernel⟩
theorem Qcu {f:aA} {fd:aO} {C:aA} (F:Fun K "answer_to" "answer_to" Q1j f fd) (T:Txt mg) (Y:ClsT K C) (G:∃ C,mg "Short" = zo (.ref C)/\dH K (.ref C) (.ref C)=zo zb/\XGet K C "had")  (q:DefS P w K mg base 3 "is_other_deed" 1 Jf) (j:DefS P w K mg base 4 "do_other_deed" 3 (U0 C)) (z:DefS P w K mg base 7 "do_own_deed" 2 (Yv C)):FnOk P w K mg base (CXD P w) 8 f fd ["houses", "letters", "deed"] (spF mg 3 (ze C)):=by
 obtain ⟨Z,U,I,O⟩:=G;refine Yb (k:=7) (m:=(Xv C)) F sc_answer_to rfl rfl rfl fun J A outer s H E B=>?_
 exact (Qa (Ju (Yf (Qe q (B.mono (by decide)) Q9 rfl (Q1 (Q0 2) Q6))) (Qa (Z4 (Qe j (B.mono (by decide)) Q9 rfl (Q1 (Q0 0) (Q1 (Q0 1) (Q1 (Q0 2) Q6)))))
  (Qc (Qu J1))) Jw)
  (Qa (Qqh z (B.mono (by decide)) (Q1 (Q0 0) (Q1 (Q0 2) Q6)) sc_answer_to.nd U I O)
  (Qc (Qu J1))))
def Q0w (C:aA):ME:=(Qtt C 3 (Y7 C) (Q3 (Q4 0) (Q3 (Q4 1) Q8)))
def Q41 (C : aA) : MS := (Qq (Y6 (Qg 3 Jr (Q3 (Q4 0) (Q3 (Q4 3) (Q3 (Q4 5) Q8)))))
  (Y6 (mBM W0 (Q4 4) (Q3 (Qg 3 (ze C) (Q3 (Q4 2) (Q3 (Q4 3) (Q3 (Q4 5) Q8)))) Q8))))
def Q9k (C:aA):ME:=(yr C "table" 1 (Vv C) (Q4 0) Q8)
def Q8x (C : aA) : MS := (Qq (Y6 (Qg 1 Ji (Q3 (Q4 0) Q8)))
  (Qq (J8 2 (W6 (Jt [zl,zo 0] (Qk 0) (Zc (Q3 (J3 Zg (Q3 (Q4 0) Q8)) Q8)) Je (Q0w C))))
  (Qq (J8 3 (Q0r (jc Q8)))
  (Qq (J8 4 (Q0r (jc Q8)))
  (Qq (Q3u (Qk 5) (U9 (Q4 1)) (Q41 C))
  (Jp (Va (Q3 (Q4 4) (Q3 (Q0r (Jt [zl] (Qk 0) (U9 (Q4 2)) Je (Q9k C))) Q8)))))))))
def Q4x (C:aA):FN:=Zs (Q8x C) 6
theorem sc_played:FnScope ["table", "deeds", "houses", "letters", "answers", "deed"] ["table", "deeds"] (Qb Q82):=⟨rfl,rfl,rfl,by decide +kernel,rfl,by decide +kernel,by decide +kernel⟩
theorem Qjp {f:aA} {fd:aO} {C:aA} (F:Fun K "played" "played" Q82 f fd) (T:Txt mg) (J:ClsT K C)  (j:DefS P w K mg base 7 "need_comes_about" 1 Ji) (q:DefS P w K mg base 5 "need_deed_of_run" 3 Jr) (B:DefS P w K mg base 8 "answer_to" 3 (ze C)) (G:MakeS P w K mg base 8 C "House" 3 (Y7 C)) (z:MethS P w K mg base 1 C "table" 1 (Vv C)):FnOk P w K mg base (CXD P w) 10 f fd ["table", "deeds"] (spF mg 2 (Q4x C)):=by
 refine Yb (k:=9) (m:=(Q8x C)) F sc_played rfl rfl rfl fun O A outer s H E I=>?_
 exact (Qa (Z4 (Qe j (I.mono (by decide)) Q9 rfl (Q1 (Q0 0) Q6)))
  (Qa (by first | exact Q1d [zl,zo 0] ["number", "table"] 2 sc_played.nd rfl (Z9 rfl T.b_range (Q1 (Qs Z6 rfl T.b_len bU (Q1 (Q0 0) Q6)) Q6)) (fun _ _ _ _ _=>(Qy (i:=0) (show (["number", "table"]:List Str).Nodup by decide +kernel))) (fun _ _ _ _ _=>(Qhr G (I.mono (by decide)) Ym rfl (Q1 (Q0 0) (Q1 (Q0 1) Q6)))) (fun _ _ _ _ _=>Z1) J7 | exact Qx 2 sc_played.nd (Zj (Jv [zl,zo 0] ["number", "table"] rfl (Z9 rfl T.b_range (Q1 (Qs Z6 rfl T.b_len bU (Q1 (Q0 0) Q6)) Q6)) (fun _ _ _ _ _=>(Qy (i:=0) (show (["number", "table"]:List Str).Nodup by decide +kernel))) (fun _ _ _ _ _=>(Qhr G (I.mono (by decide)) Ym rfl (Q1 (Q0 0) (Q1 (Q0 1) Q6)))) (fun _ _ _ _ _=>Z1) J7)))
  (Qa (Qx 3 sc_played.nd (X9 (zi Q6)))
  (Qa (Qx 4 sc_played.nd (X9 (zi Q6)))
  (Qa (K1 PassesOwn.leaving rfl (Y8 (Q0 1)) (Qy (i:=5) sc_played.nd) (Qa (Z4 (Qe q (I.mono (by decide)) Q9 rfl (Q1 (Q0 0) (Q1 (Q0 3) (Q1 (Q0 5) Q6)))))
  (Qc (Z4 (Xb (Q0 4) (Q1 (Qe B (I.mono (by decide)) Q9 rfl (Q1 (Q0 2) (Q1 (Q0 3) (Q1 (Q0 5) Q6)))) Q6))))))
  (Qc (Qu (Y5 (Q1 (Q0 4) (Q1 (X9 (Jv [zl] ["house"] rfl (Y8 (Q0 2)) (fun _ _ _ _ _=>(Qy (i:=0) (show (["house"]:List Str).Nodup by decide +kernel))) (fun _ _ _ _ _=>(Q46 J.cl z (I.mono (by decide)) Ym (Q0 0))) (fun _ _ _ _ _=>Z1) J7)) Q6))))))))))
def Kr : MS := (Qq (Z8 (toB (mOp oLt (Q4 1) (J3 Zg (Q3 (Q4 0) Q8)))) (Jp (mOp oIx (Q4 0) (Q4 1))) Z2)
  (Jp (mC (.int 0))))
def Vc:FN:=Qr Kr 2
theorem Qa3:FnScope ["script", "k"] ["script", "k"] (Qb Q02):=⟨rfl,rfl,rfl,by decide +kernel,rfl,by decide +kernel,by decide +kernel⟩
theorem Qam {f:aA} {fd:aO} (F:Fun K "_law_acell" "_law_acell" Q02 f fd) (T:Txt mg)   : FnOk P w K mg base (CXD P w) 1 f fd ["script", "k"] (spF mg 2 Vc):=by
 refine J0 (k:=0) (m:=Kr) F Qa3 rfl rfl rfl fun j A outer s H E q=>?_
 exact (Qa (Ju (J4 (Q34 q.units) (Q0 1) (Qs Z6 rfl T.b_len bU (Q1 (Q0 0) Q6))) (Qc (Qu (Qw (Q0 0) (Q0 1)))) Jw)
  (Qc (Qu Qd)))
def jq : MS := (Qq (J8 4 (mOp Yg (mOp Q6u (Q4 4) (Q4 3)) (Q4 5)))
  (J8 5 (mOp Q4h (mOp Yg (mOp Yg (mOp Q6u (Q4 5) (Q4 5)) (mOp Q6u (mC (.int 40692)) (Q4 1))) (Q4 6)) (Q4 3))))
def Kn : MS := (Qq (J8 2 (Qg 2 Vc (Q3 (Q4 0) (Q3 (Q4 1) Q8))))
  (Qq (Z8 (toB (mOp oEq (mOp Q4h (Q4 2) (mC (.int 2))) (mC (.int 0)))) (Jp (Q0r (jc (Q3 (mOp Qry (Q4 2) (mC (.int 2))) Q8)))) Z2)
  (Qq (J8 3 (mC (.int 2305843009213693951)))
  (Qq (J8 4 (mC (.int 0)))
  (Qq (J8 5 (mOp Q4h (mOp Yg (mOp Yg (mOp Q6u (mOp Q4h (Q4 2) (Q4 3)) (mC (.int 48271))) (mOp Q6u (mC (.int 69621)) (Q4 1))) (mC (.int 11))) (Q4 3)))
  (Qq (Q3u (Qk 6) (Zc (Q3 (mC (.int 5)) Q8)) jq)
  (Jp (Q0r (jc (Q3 (Q4 4) Q8))))))))))
def Zd:FN:=Zs Kn 7
theorem sc__law_atape:FnScope ["script", "k", "cell", "p", "number", "last", "turn"] ["script", "k"] (Qb xy):=⟨rfl,rfl,rfl,by decide +kernel,rfl,by decide +kernel,by decide +kernel⟩
theorem Qah {f:aA} {fd:aO} (F:Fun K "_law_atape" "_law_atape" xy f fd) (T:Txt mg)  (j:DefS P w K mg base 1 "_law_acell" 2 Vc):FnOk P w K mg base (CXD P w) 2 f fd ["script", "k"] (spF mg 2 Zd):=by
 refine Yb (k:=1) (m:=Kn) F sc__law_atape rfl rfl rfl fun z A outer s H E q=>?_
 exact (Qa (Qx 2 sc__law_atape.nd (Qe j (q.mono (by decide)) Q9 rfl (Q1 (Q0 0) (Q1 (Q0 1) Q6))))
  (Qa (Ju (J4 (Y9 q.units) (Jm Q1r (Q0 2) Qd) Qd) (Qc (Qu (X9 (zi (Q1 (Jm Qv8 (Q0 2) Qd) Q6))))) Jw)
  (Qa (Qx 3 sc__law_atape.nd Qd)
  (Qa (Qx 4 sc__law_atape.nd Qd)
  (Qa (Qx 5 sc__law_atape.nd (Jm Q1r (Jm Z5 (Jm Z5 (Jm Q5a (Jm Q1r (Q0 2) (Q0 3)) Qd) (Jm Q5a Qd (Q0 1))) Qd) (Q0 3)))
  (Qa (K1 PassesOwn.leaving rfl (Z9 rfl T.b_range (Q1 Qd Q6)) (Qy (i:=6) sc__law_atape.nd) (Qa (Qx 4 sc__law_atape.nd (Jm Z5 (Jm Q5a (Q0 4) (Q0 3)) (Q0 5)))
  (Qc (Qx 5 sc__law_atape.nd (Jm Q1r (Jm Z5 (Jm Z5 (Jm Q5a (Q0 5) (Q0 5)) (Jm Q5a Qd (Q0 1))) (Q0 6)) (Q0 3))))))
  (Qc (Qu (X9 (zi (Q1 (Q0 4) Q6)))))))))))
def y3 : MS := (Qq (J8 2 (mOp Q4h (mOp oIx (Q4 0) (mC (.int 0))) (Q4 1)))
  (Qq (Q0s (Q4 0) (mC (.int 0)) (mOp Qi4 (mOp oIx (Q4 0) (mC (.int 0))) (Q4 1)))
  (Jp (Q4 2))))
def Qh:FN:=Qr y3 3
theorem sc__law_adigit:FnScope ["tape", "many", "found"] ["tape", "many"] (Qb zr):=⟨rfl,rfl,rfl,by decide +kernel,rfl,by decide +kernel,by decide +kernel⟩
theorem Q8k {f:aA} {fd:aO} (F:Fun K "_law_adigit" "_law_adigit" zr f fd) (T:Txt mg)   : FnOk P w K mg base (CXD P w) 1 f fd ["tape", "many"] (spF mg 2 Qh):=by
 refine J0 (k:=0) (m:=y3) F sc__law_adigit rfl rfl rfl fun j A outer s H E q=>?_
 exact (Qa (Qx 2 sc__law_adigit.nd (Jm Q1r (Qw (Q0 0) Qd) (Q0 1)))
  (Qa (Q7p (Jm Qrp (Qw (Q0 0) Qd) (Q0 1)) (Q0 0) Qd)
  (Qc (Qu (Q0 2)))))
def yy:ME:=(mOp oIx (mOp oIx (Q4 2) (Q4 0)) (Q4 1))
def yx:ME:=(Q4 0)
def j8 : MS := (Qq (J8 2 (J3 (Wd fun ns => zo (.int ns.sum)) (Q3 (W6 (Jt [zl, zo 1, zo 0] (Qk 0) (Zc (Q3 (J3 Zg (Q3 (Q4 0) Q8)) Q8)) Je yy)) Q8)))
  (Jp (mOp Yg (mOp (oI fun a b=>.int (a - b)) (Q4 2) (J3 (Wd fun ns=>zo (.int ns.sum)) (Q3 (W6 (Jt [zl] (Qk 0) (U9 (mOp oIx (Q4 0) (Q4 1))) Je yx)) Q8))) (mOp oIx (mOp oIx (Q4 0) (Q4 1)) (Q4 1)))))
def Jd:FN:=Qr j8 3
theorem sc__law_arights:FnScope ["table", "i", "lent"] ["table", "i"] (Qb qt):=⟨rfl,rfl,rfl,by decide +kernel,rfl,by decide +kernel,by decide +kernel⟩
theorem Q6n {f:aA} {fd:aO} (F:Fun K "_law_arights" "_law_arights" qt f fd) (T:Txt mg)   : FnOk P w K mg base (CXD P w) 1 f fd ["table", "i"] (spF mg 2 Jd):=by
 refine J0 (k:=0) (m:=j8) F sc__law_arights rfl rfl rfl fun j A outer s H E q=>?_
 exact (Qa (Qx 2 sc__law_arights.nd (Qs (Q0z rfl) rfl T.b_sum Ux (Q1 (Zj (Jv [zl,zo 1,zo 0] ["j", "i", "table"] rfl (Z9 rfl T.b_range (Q1 (Qs Z6 rfl T.b_len bU (Q1 (Q0 0) Q6)) Q6)) (fun _ _ _ _ _=>(Qy (i:=0) (show (["j", "i", "table"]:List Str).Nodup by decide +kernel))) (fun _ _ _ _ _=>(Qw (Qw (Q0 2) (Q0 0)) (Q0 1))) (fun _ _ _ _ _=>Z1) J7)) Q6)))
  (Qc (Qu (Jm Z5 (Jm j7 (Q0 2) (Qs (Q0z rfl) rfl T.b_sum Ux (Q1 (Zj (Jv [zl] ["number"] rfl (Y8 (Qw (Q0 0) (Q0 1))) (fun _ _ _ _ _=>(Qy (i:=0) (show (["number"]:List Str).Nodup by decide +kernel))) (fun _ _ _ _ _=>(Q0 0)) (fun _ _ _ _ _=>Z1) J7)) Q6))) (Qw (Qw (Q0 0) (Q0 1)) (Q0 1))))))
def jm:ME:=(J3 Vh (Q3 (mOp Q6u (Q91 (Q3 (mC (.int 0)) Q8)) (mOp Yg (Q4 1) (mC (.int 1)))) Q8))
def Q0q:MS:=(Jp (J3 Vh (Q3 (W6 (Jt [zl,zo 0] (Qk 0) (Zc (Q3 (Q4 0) Q8)) Je jm)) Q8)))
def qf:FN:=Qr Q0q 1
theorem Qa4:FnScope ["size"] ["size"] (Qb Q03):=⟨rfl,rfl,rfl,by decide +kernel,rfl,by decide +kernel,by decide +kernel⟩
theorem Qan {f:aA} {fd:aO} (F:Fun K "_law_abare" "_law_abare" Q03 f fd) (T:Txt mg)   : FnOk P w K mg base (CXD P w) 1 f fd ["size"] (spF mg 1 qf):=by
 refine J0 (k:=0) (m:=Q0q) F Qa4 rfl rfl rfl fun j A outer s H E q=>?_
 exact (Qc (Qu (Xu jn rfl T.b_tuple Yc (Q1 (Zj (Jv [zl,zo 0] ["i", "size"] rfl (Z9 rfl T.b_range (Q1 (Q0 0) Q6)) (fun _ _ _ _ _=>(Qy (i:=0) (show (["i", "size"]:List Str).Nodup by decide +kernel))) (fun _ _ _ _ _=>(Xu jn rfl T.b_tuple Yc (Q1 (Jm Q5a (Q7w (Q1 Qd Q6)) (Jm Z5 (Q0 1) Qd)) Q6))) (fun _ _ _ _ _=>Z1) J7)) Q6))))
def j9 : MS := (Qq (J8 4 (mOp Yg (mOp Yg (mSl (mOp oIx (Q4 0) (Q4 1)) Vx (z8 (Q4 2))) (Va (Q3 (mOp Yg (mOp oIx (mOp oIx (Q4 0) (Q4 1)) (Q4 2)) (Q4 3)) Q8))) (mSl (mOp oIx (Q4 0) (Q4 1)) (z8 (mOp Yg (Q4 2) (mC (.int 1)))) Vx)))
  (Jp (mOp Yg (mOp Yg (mSl (Q4 0) Vx (z8 (Q4 1))) (Va (Q3 (Q4 4) Q8))) (mSl (Q4 0) (z8 (mOp Yg (Q4 1) (mC (.int 1)))) Vx))))
def Za:FN:=Qr j9 5
theorem sc__law_araised:FnScope ["table", "i", "at", "k", "row"] ["table", "i", "at", "k"] (Qb qv):=⟨rfl,rfl,rfl,by decide +kernel,rfl,by decide +kernel,by decide +kernel⟩
theorem Q6p {f:aA} {fd:aO} (F:Fun K "_law_araised" "_law_araised" qv f fd) (T:Txt mg)   : FnOk P w K mg base (CXD P w) 1 f fd ["table", "i", "at", "k"] (spF mg 4 Za):=by
 refine J0 (k:=0) (m:=j9) F sc__law_araised rfl rfl rfl fun j A outer s H E q=>?_
 exact (Qa (Qx 4 sc__law_araised.nd (Jm Z5 (Jm Z5 (Wy (Qw (Q0 0) (Q0 1)) Xq (Vw (Q0 2))) (Y5 (Q1 (Jm Z5 (Qw (Qw (Q0 0) (Q0 1)) (Q0 2)) (Q0 3)) Q6))) (Wy (Qw (Q0 0) (Q0 1)) (Vw (Jm Z5 (Q0 2) Qd)) Xq)))
  (Qc (Qu (Jm Z5 (Jm Z5 (Wy (Q0 0) Xq (Vw (Q0 1))) (Y5 (Q1 (Q0 4) Q6))) (Wy (Q0 0) (Vw (Jm Z5 (Q0 1) Qd)) Xq)))))
def Xj:ME:=(J3 Q5x (Q3 (Q4 0) (Q3 (Q4 1) Q8)))
def xb:MS:=(Y6 (mBM W0 (Q4 2) (Q3 (J3 Vh (Q3 (W6 (Jt [zl,zl] (Vm (Jx (Qk 0) (Jx (Qk 1) Vn))) (Q6w (Q3 (Q4 3) (Q3 (Q4 4) Q8))) Je Xj)) Q8)) Q8)))
def jb : MS := (Qq (J8 2 (Q0r (jc Q8)))
  (Qq (Q3u (Vm (Jx (Qk 3) (Jx (Qk 4) Vn))) (Q6w (Q3 (Q4 0) (Q3 (Q4 1) Q8))) xb)
  (Jp (J3 Vh (Q3 (Q4 2) Q8)))))
def Ye:FN:=Qr jb 5
theorem sc__law_ajoined:FnScope ["one", "other", "rows", "row", "told"] ["one", "other"] (Qb qx):=⟨rfl,rfl,rfl,by decide +kernel,rfl,by decide +kernel,by decide +kernel⟩
theorem Q6r {f:aA} {fd:aO} (F:Fun K "_law_ajoined" "_law_ajoined" qx f fd) (T:Txt mg)   : FnOk P w K mg base (CXD P w) 1 f fd ["one", "other"] (spF mg 2 Ye):=by
 refine J0 (k:=0) (m:=jb) F sc__law_ajoined rfl rfl rfl fun j A outer s H E q=>?_
 exact (Qa (Qx 2 sc__law_ajoined.nd (X9 (zi Q6)))
  (Qa (K1 PassesOwn.leaving rfl (Q3a rfl T.b_zip (Q1 (Q0 0) (Q1 (Q0 1) Q6))) (xj rfl (Zp (Qy (i:=3) sc__law_ajoined.nd) (Zp (Qy (i:=4) sc__law_ajoined.nd) Kk))) (Qc (Z4 (Xb (Q0 2) (Q1 (Xu jn rfl T.b_tuple Yc (Q1 (Zj (Jv [zl,zl] ["number", "more"] rfl (Q3a rfl T.b_zip (Q1 (Q0 3) (Q1 (Q0 4) Q6))) (fun _ _ _ _ _=>(xj rfl (Zp (Qy (i:=0) (show (["number", "more"]:List Str).Nodup by decide +kernel)) (Zp (Qy (i:=1) (show (["number", "more"]:List Str).Nodup by decide +kernel)) Kk)))) (fun _ _ _ _ _=>(Qs (Q9m rfl) rfl T.b_max Q28 (Q1 (Q0 0) (Q1 (Q0 1) Q6)))) (fun _ _ _ _ _=>Z1) (je (Zz (Zz jf))))) Q6)) Q6)))))
  (Qc (Qu (Xu jn rfl T.b_tuple Yc (Q1 (Q0 2) Q6))))))
def Kq : MS := (Qq (J8 1 (Qg 2 Qh (Q3 (Q4 0) (Q3 (mC (.int 12)) Q8))))
  (Qq (Z8 (toB (mOp oEq (Q4 1) (mC (.int 11)))) (Jp (mOp (oI fun a b=>.int (a - b)) (mOp Qnf (mC (.int 10)) (mC (.int 20))) (Qg 2 Qh (Q3 (Q4 0) (Q3 (mC (.int 3)) Q8))))) Z2)
  (Jp (mOp Yg (mC (.int 1)) (mOp Q4h (Q4 1) (mC (.int 7)))))))
def W8:FN:=Qr Kq 2
theorem sc__law_amuch:FnScope ["tape", "way"] ["tape"] (Qb Q01):=⟨rfl,rfl,rfl,by decide +kernel,rfl,by decide +kernel,by decide +kernel⟩
theorem Qak {f:aA} {fd:aO} (F:Fun K "_law_amuch" "_law_amuch" Q01 f fd) (T:Txt mg)  (j:DefS P w K mg base 1 "_law_adigit" 2 Qh):FnOk P w K mg base (CXD P w) 2 f fd ["tape"] (spF mg 1 W8):=by
 refine J0 (k:=1) (m:=Kq) F sc__law_amuch rfl rfl rfl fun z A outer s H E q=>?_
 exact (Qa (Qx 1 sc__law_amuch.nd (Qe j (q.mono (by decide)) Q9 rfl (Q1 (Q0 0) (Q1 Qd Q6))))
  (Qa (Ju (J4 (Y9 q.units) (Q0 1) Qd) (Qc (Qu (Jm j7 (Jm Qv7 Qd Qd) (Qe j (q.mono (by decide)) Q9 rfl (Q1 (Q0 0) (Q1 Qd Q6)))))) Jw)
  (Qc (Qu (Jm Z5 Qd (Jm Q1r (Q0 1) Qd))))))
def Ke : MS := (Qq (J8 5 (Qg 2 Qh (Q3 (Q4 0) (Q3 (Q4 1) Q8))))
  (Qq (J8 6 (Qg 2 Qh (Q3 (Q4 0) (Q3 (mC (.int 4)) Q8))))
  (Qq (J8 7 (Qg 2 Jd (Q3 (Q4 3) (Q3 (Q4 5) Q8))))
  (Z8 (yg (toB (mOp oLt (Q4 6) (mC (.int 2)))) (toB (mOp oEq (Q4 7) (mC (.int 0))))) (J8 3 (Qg 4 Za (Q3 (Q4 3) (Q3 (Q4 5) (Q3 (Q4 5) (Q3 (Qg 1 W8 (Q3 (Q4 0) Q8)) Q8)))))) (Z8 (Q16 (toB (mOp oEq (Q4 6) (mC (.int 2)))) (toB (mOp (oI fun a b=>.bl (decide (b < a))) (Q4 1) (mC (.int 1))))) (Qq (J8 8 (mOp Q4h (mOp Yg (mOp Yg (Q4 5) (mC (.int 1))) (Qg 2 Qh (Q3 (Q4 0) (Q3 (mOp (oI fun a b=>.int (a - b)) (Q4 1) (mC (.int 1))) Q8)))) (Q4 1)))
  (J8 3 (Qg 4 Za (Q3 (Q4 3) (Q3 (Q4 5) (Q3 (Q4 8) (Q3 (mOp Yg (mC (.int 1)) (Qg 2 Qh (Q3 (Q4 0) (Q3 (Q4 7) Q8)))) Q8))))))) (J8 3 (Qg 4 Za (Q3 (Q4 3) (Q3 (Q4 5) (Q3 (Q4 1) (Q3 (mOp Yg (mC (.int 1)) (Qg 2 Qh (Q3 (Q4 0) (Q3 (Q4 7) Q8)))) Q8)))))))))))
def zy : MS := (Qq (J8 3 (Qg 1 qf (Q3 (Q4 1) Q8)))
  (Qq (Q3u (Qk 4) (Zc (Q3 (Q4 2) Q8)) Ke)
  (Jp (Q4 3))))
def Vr:FN:=Qr zy 9
theorem sc__law_atable:FnScope ["tape", "size", "many", "table", "turn", "i", "way", "have", "j"] ["tape", "size", "many"] (Qb zn):=⟨rfl,rfl,rfl,by decide +kernel,rfl,by decide +kernel,by decide +kernel⟩
theorem Q8h {f:aA} {fd:aO} (F:Fun K "_law_atable" "_law_atable" zn f fd) (T:Txt mg)  (B:DefS P w K mg base 1 "_law_abare" 1 qf) (j:DefS P w K mg base 1 "_law_adigit" 2 Qh) (z:DefS P w K mg base 1 "_law_arights" 2 Jd) (q:DefS P w K mg base 1 "_law_araised" 4 Za) (G:DefS P w K mg base 2 "_law_amuch" 1 W8):FnOk P w K mg base (CXD P w) 3 f fd ["tape", "size", "many"] (spF mg 3 Vr):=by
 refine J0 (k:=2) (m:=zy) F sc__law_atable rfl rfl rfl fun J A outer s H E I=>?_
 exact (Qa (Qx 3 sc__law_atable.nd (Qe B (I.mono (by decide)) Q9 rfl (Q1 (Q0 1) Q6)))
  (Qa (K1 PassesOwn.leaving rfl (Z9 rfl T.b_range (Q1 (Q0 2) Q6)) (Qy (i:=4) sc__law_atable.nd) (Qa (Qx 5 sc__law_atable.nd (Qe j (I.mono (by decide)) Q9 rfl (Q1 (Q0 0) (Q1 (Q0 1) Q6))))
  (Qa (Qx 6 sc__law_atable.nd (Qe j (I.mono (by decide)) Q9 rfl (Q1 (Q0 0) (Q1 Qd Q6))))
  (Qa (Qx 7 sc__law_atable.nd (Qe z (I.mono (by decide)) Q9 rfl (Q1 (Q0 3) (Q1 (Q0 5) Q6))))
  (Qc (Ju (SimW.t (yh (J4 (Q34 I.units) (Q0 6) Qd) (qp (J4 (Y9 I.units) (Q0 7) Qd)))) (Qc (Qx 3 sc__law_atable.nd (Qe q (I.mono (by decide)) Q9 rfl (Q1 (Q0 3) (Q1 (Q0 5) (Q1 (Q0 5) (Q1 (Qe G (I.mono (by decide)) Q9 rfl (Q1 (Q0 0) Q6)) Q6))))))) (Qc (Ju (SimW.t (Q7m (J4 (Y9 I.units) (Q0 6) Qd) (Q45 (J4 Q4d (Q0 1) Qd)))) (Qa (Qx 8 sc__law_atable.nd (Jm Q1r (Jm Z5 (Jm Z5 (Q0 5) Qd) (Qe j (I.mono (by decide)) Q9 rfl (Q1 (Q0 0) (Q1 (Jm j7 (Q0 1) Qd) Q6)))) (Q0 1)))
  (Qc (Qx 3 sc__law_atable.nd (Qe q (I.mono (by decide)) Q9 rfl (Q1 (Q0 3) (Q1 (Q0 5) (Q1 (Q0 8) (Q1 (Jm Z5 Qd (Qe j (I.mono (by decide)) Q9 rfl (Q1 (Q0 0) (Q1 (Q0 7) Q6)))) Q6)))))))) (Qc (Qx 3 sc__law_atable.nd (Qe q (I.mono (by decide)) Q9 rfl (Q1 (Q0 3) (Q1 (Q0 5) (Q1 (Q0 1) (Q1 (Jm Z5 Qd (Qe j (I.mono (by decide)) Q9 rfl (Q1 (Q0 0) (Q1 (Q0 7) Q6)))) Q6)))))))))))))))
  (Qc (Qu (Q0 3)))))
def Q1a:ME:=(Q4 1)
def Q19:ME:=(Q4 1)
def zz:MS:=(Jp (Qd2 "now" "last" "letters" (Q0r (Jt [zl,zo 0] (Qk 0) (Zc (Q3 (J3 Zg (Q3 (Q4 0) Q8)) Q8)) Je Q1a)) (Q0r (Jt [zl,zo 0] (Qk 0) (Zc (Q3 (J3 Zg (Q3 (Q4 0) Q8)) Q8)) Je Q19)) (Q0r (jc Q8))))
def Vs:FN:=Zs zz 1
theorem Q7y:FnScope ["table"] ["table"] (Qb zp):=⟨rfl,rfl,rfl,by decide +kernel,rfl,by decide +kernel,by decide +kernel⟩
theorem Q8i {f:aA} {fd:aO} (F:Fun K "_law_astart" "_law_astart" zp f fd) (T:Txt mg)   : FnOk P w K mg base (CXD P w) 1 f fd ["table"] (spF mg 1 Vs):=by
 refine Yb (k:=0) (m:=zz) F Q7y rfl rfl rfl fun j A outer s H E q=>?_
 exact (Qc (Qu (Qmg (X9 (Jv [zl,zo 0] ["i", "table"] rfl (Z9 rfl T.b_range (Q1 (Qs Z6 rfl T.b_len bU (Q1 (Q0 0) Q6)) Q6)) (fun _ _ _ _ _=>(Qy (i:=0) (show (["i", "table"]:List Str).Nodup by decide +kernel))) (fun _ _ _ _ _=>(Q0 1)) (fun _ _ _ _ _=>Z1) J7)) (X9 (Jv [zl,zo 0] ["i", "table"] rfl (Z9 rfl T.b_range (Q1 (Qs Z6 rfl T.b_len bU (Q1 (Q0 0) Q6)) Q6)) (fun _ _ _ _ _=>(Qy (i:=0) (show (["i", "table"]:List Str).Nodup by decide +kernel))) (fun _ _ _ _ _=>(Q0 1)) (fun _ _ _ _ _=>Z1) J7)) (X9 (zi Q6)))))
def Yn : MS := (Qq (J8 2 (Ya (Q4 0) (mC (.str "now"))))
  (Qq (Z8 (toB (mOp oEq (mOp oIx (Q4 1) (mC (.int 0))) (mC (.str "keep")))) (Q0s (Ya (Q4 0) (mC (.str "last"))) (mOp oIx (Q4 1) (mC (.int 1))) (mOp oIx (Q4 2) (mOp oIx (Q4 1) (mC (.int 1))))) (Z8 (toB (mOp oEq (mOp oIx (Q4 1) (mC (.int 0))) (mC (.str "fall")))) (Q0s (Q4 2) (mOp oIx (Q4 1) (mC (.int 1))) (mOp oIx (Ya (Q4 0) (mC (.str "last"))) (mOp oIx (Q4 1) (mC (.int 1))))) (Z8 (toB (mOp oEq (mOp oIx (Q4 1) (mC (.int 0))) (mC (.str "send")))) (Y6 (mBM W0 (Ya (Q4 0) (mC (.str "letters"))) (Q3 (mOp oIx (Ya (Q4 0) (mC (.str "last"))) (mOp oIx (Q4 1) (mC (.int 1)))) Q8))) (Z8 (toB (mOp oEq (mOp oIx (Q4 1) (mC (.int 0))) (mC (.str "come")))) (Q0s (Q4 2) (mOp oIx (Q4 1) (mC (.int 2))) (Qg 2 Ye (Q3 (mOp oIx (Q4 2) (mOp oIx (Q4 1) (mC (.int 2)))) (Q3 (mOp oIx (Ya (Q4 0) (mC (.str "letters"))) (mOp oIx (Q4 1) (mC (.int 1)))) Q8)))) (Qq (J8 3 (mOp oIx (Q4 1) (mC (.int 1))))
  (Qq (J8 4 (Qg 2 Jd (Q3 (mOp oIx (Q4 2) (Q4 3)) (Q3 (Q4 3) Q8))))
  (Qq (Z8 (Q16 (toB (mOp oNe (mOp oIx (Q4 1) (mC (.int 0))) (mC (.str "make")))) (toB (mOp oLt (Q4 4) (mOp oIx (Q4 1) (Q31 (mC (.int 1))))))) (Jp (Q4 4)) Z2)
  (Qq (J8 5 (Qf2 "make" "use" "lend" (Q4 3) (J3 Zg (Q3 (Q4 2) Q8)) (mOp oIx (Q4 1) (mC (.int 2))) (mOp oIx (Q4 1) (mC (.int 0)))))
  (Q0s (Q4 2) (Q4 3) (Qg 4 Za (Q3 (mOp oIx (Q4 2) (Q4 3)) (Q3 (Q4 3) (Q3 (Q4 5) (Q3 (mOp oIx (Q4 1) (Q31 (mC (.int 1)))) Q8))))))))))))))
  (Jp (mC (.str "done")))))
def qe:FN:=Qr Yn 6
theorem sc__law_astep:FnScope ["state", "deed", "now", "i", "have", "at"] ["state", "deed"] (Qb xz):=⟨rfl,rfl,rfl,by decide +kernel,rfl,by decide +kernel,by decide +kernel⟩
theorem Qai {f:aA} {fd:aO} (F:Fun K "_law_astep" "_law_astep" xz f fd) (T:Txt mg)  (q:DefS P w K mg base 1 "_law_ajoined" 2 Ye) (z:DefS P w K mg base 1 "_law_arights" 2 Jd) (j:DefS P w K mg base 1 "_law_araised" 4 Za):FnOk P w K mg base (CXD P w) 2 f fd ["state", "deed"] (spF mg 2 qe):=by
 refine J0 (k:=1) (m:=Yn) F sc__law_astep rfl rfl rfl fun G A outer s H E B=>?_
 exact (Qa (Qx 2 sc__law_astep.nd (Yk (W4 B) (Q0 0) J1 (fun _ _=>rfl)))
  (Qa (Ju (J4 (Y9 B.units) (Qw (Q0 1) Qd) J1) (Qc (Q7p (Qw (Q0 2) (Qw (Q0 1) Qd)) (Yk (W4 B) (Q0 0) J1 (fun _ _=>rfl)) (Qw (Q0 1) Qd))) (Qc (Ju (J4 (Y9 B.units) (Qw (Q0 1) Qd) J1) (Qc (Q7p (Qw (Yk (W4 B) (Q0 0) J1 (fun _ _=>rfl)) (Qw (Q0 1) Qd)) (Q0 2) (Qw (Q0 1) Qd))) (Qc (Ju (J4 (Y9 B.units) (Qw (Q0 1) Qd) J1) (Qc (Z4 (Xb (Yk (W4 B) (Q0 0) J1 (fun _ _=>rfl)) (Q1 (Qw (Yk (W4 B) (Q0 0) J1 (fun _ _=>rfl)) (Qw (Q0 1) Qd)) Q6)))) (Qc (Ju (J4 (Y9 B.units) (Qw (Q0 1) Qd) J1) (Qc (Q7p (Qe q (B.mono (by decide)) Q9 rfl (Q1 (Qw (Q0 2) (Qw (Q0 1) Qd)) (Q1 (Qw (Yk (W4 B) (Q0 0) J1 (fun _ _=>rfl)) (Qw (Q0 1) Qd)) Q6))) (Q0 2) (Qw (Q0 1) Qd))) (Qa (Qx 3 sc__law_astep.nd (Qw (Q0 1) Qd))
  (Qa (Qx 4 sc__law_astep.nd (Qe z (B.mono (by decide)) Q9 rfl (Q1 (Qw (Q0 2) (Q0 3)) (Q1 (Q0 3) Q6))))
  (Qa (Ju (SimW.t (Q7m (J4 (Q17 B.units) (Qw (Q0 1) Qd) J1) (Q45 (J4 (Q34 B.units) (Q0 4) (Qw (Q0 1) (qq Qd)))))) (Qc (Qu (Q0 4))) Jw)
  (Qa (Qx 5 sc__law_astep.nd (Qqs (W4 B) (Q0 3) (Qs Z6 rfl T.b_len bU (Q1 (Q0 2) Q6)) (Qw (Q0 1) Qd) (Qw (Q0 1) Qd) (fun _ _=>rfl)))
  (Qc (Q7p (Qe j (B.mono (by decide)) Q9 rfl (Q1 (Qw (Q0 2) (Q0 3)) (Q1 (Q0 3) (Q1 (Q0 5) (Q1 (Qw (Q0 1) (qq Qd)) Q6))))) (Q0 2) (Q0 3))))))))))))))
  (Qc (Qu J1))))
def y0 : MS := (Qq (J8 2 (J3 Zg (Q3 (Ya (Q4 1) (mC (.str "now"))) Q8)))
  (Qq (J8 3 (Qg 2 Qh (Q3 (Q4 0) (Q3 (Q4 2) Q8))))
  (Qq (J8 4 (Qg 2 Qh (Q3 (Q4 0) (Q3 (mC (.int 12)) Q8))))
  (Qq (J8 5 (J3 Q5x (Q3 (mC (.int 0)) (Q3 (Qg 2 Jd (Q3 (mOp oIx (Ya (Q4 1) (mC (.str "now"))) (Q4 3)) (Q3 (Q4 3) Q8))) Q8))))
  (Qq (J8 6 (mOp Yg (mC (.int 1)) (Qg 2 Qh (Q3 (Q4 0) (Q3 (mOp Yg (Q4 5) (mC (.int 2))) Q8)))))
  (Qq (Z8 (toB (mOp oEq (Q4 4) (mC (.int 0)))) (Jp (Va (Q3 (mC (.str "make")) (Q3 (Q4 3) (Q3 (Qg 1 W8 (Q3 (Q4 0) Q8)) Q8))))) Z2)
  (Qq (Z8 (Q16 (toB (mOp oLt (Q4 4) (mC (.int 4)))) (toB (mOp (oI fun a b=>.bl (decide (b < a))) (Q4 2) (mC (.int 1))))) (Jp (Va (Q3 (mC (.str "lend")) (Q3 (Q4 3) (Q3 (mOp Q4h (mOp Yg (mOp Yg (Q4 3) (mC (.int 1))) (Qg 2 Qh (Q3 (Q4 0) (Q3 (mOp (oI fun a b=>.int (a - b)) (Q4 2) (mC (.int 1))) Q8)))) (Q4 2)) (Q3 (Q4 6) Q8)))))) Z2)
  (Qq (Z8 (toB (mOp oLt (Q4 4) (mC (.int 6)))) (Jp (Va (Q3 (mC (.str "use")) (Q3 (Q4 3) (Q3 (Q4 6) Q8))))) Z2)
  (Qq (Z8 (toB (mOp oLt (Q4 4) (mC (.int 8)))) (Jp (Va (Q3 (mOp oIx (Q91 (Q3 (mC (.str "keep")) (Q3 (mC (.str "fall")) Q8))) (J3 Qis (Q3 (mOp oEq (Qg 2 Qh (Q3 (Q4 0) (Q3 (mC (.int 3)) Q8))) (mC (.int 0))) Q8))) (Q3 (Q4 3) Q8)))) Z2)
  (Qq (Z8 (yg (toB (mOp oEq (Q4 4) (mC (.int 8)))) (toB (mOp oEq (Ya (Q4 1) (mC (.str "letters"))) (Q91 Q8)))) (Jp (Va (Q3 (mC (.str "send")) (Q3 (Q4 3) Q8)))) Z2)
  (Jp (Va (Q3 (mC (.str "come")) (Q3 (Qg 2 Qh (Q3 (Q4 0) (Q3 (J3 Zg (Q3 (Ya (Q4 1) (mC (.str "letters"))) Q8)) Q8))) (Q3 (Q4 3) Q8)))))))))))))))
def Vt:FN:=Qr y0 7
theorem sc__law_adrawn:FnScope ["tape", "state", "size", "i", "way", "have", "much"] ["tape", "state"] (Qb zq):=⟨rfl,rfl,rfl,by decide +kernel,rfl,by decide +kernel,by decide +kernel⟩
theorem Q8j {f:aA} {fd:aO} (F:Fun K "_law_adrawn" "_law_adrawn" zq f fd) (T:Txt mg)  (j:DefS P w K mg base 1 "_law_adigit" 2 Qh) (q:DefS P w K mg base 1 "_law_arights" 2 Jd) (z:DefS P w K mg base 2 "_law_amuch" 1 W8):FnOk P w K mg base (CXD P w) 3 f fd ["tape", "state"] (spF mg 2 Vt):=by
 refine J0 (k:=2) (m:=y0) F sc__law_adrawn rfl rfl rfl fun G A outer s H E B=>?_
 exact (Qa (Qx 2 sc__law_adrawn.nd (Qs Z6 rfl T.b_len bU (Q1 (Yk (W4 B) (Q0 1) J1 (fun _ _=>rfl)) Q6)))
  (Qa (Qx 3 sc__law_adrawn.nd (Qe j (B.mono (by decide)) Q9 rfl (Q1 (Q0 0) (Q1 (Q0 2) Q6))))
  (Qa (Qx 4 sc__law_adrawn.nd (Qe j (B.mono (by decide)) Q9 rfl (Q1 (Q0 0) (Q1 Qd Q6))))
  (Qa (Qx 5 sc__law_adrawn.nd (Qs (Q9m rfl) rfl T.b_max Q28 (Q1 Qd (Q1 (Qe q (B.mono (by decide)) Q9 rfl (Q1 (Qw (Yk (W4 B) (Q0 1) J1 (fun _ _=>rfl)) (Q0 3)) (Q1 (Q0 3) Q6))) Q6))))
  (Qa (Qx 6 sc__law_adrawn.nd (Jm Z5 Qd (Qe j (B.mono (by decide)) Q9 rfl (Q1 (Q0 0) (Q1 (Jm Z5 (Q0 5) Qd) Q6)))))
  (Qa (Ju (J4 (Y9 B.units) (Q0 4) Qd) (Qc (Qu (Y5 (Q1 J1 (Q1 (Q0 3) (Q1 (Qe z (B.mono (by decide)) Q9 rfl (Q1 (Q0 0) Q6)) Q6)))))) Jw)
  (Qa (Ju (SimW.t (Q7m (J4 (Q34 B.units) (Q0 4) Qd) (Q45 (J4 Q4d (Q0 2) Qd)))) (Qc (Qu (Y5 (Q1 J1 (Q1 (Q0 3) (Q1 (Jm Q1r (Jm Z5 (Jm Z5 (Q0 3) Qd) (Qe j (B.mono (by decide)) Q9 rfl (Q1 (Q0 0) (Q1 (Jm j7 (Q0 2) Qd) Q6)))) (Q0 2)) (Q1 (Q0 6) Q6))))))) Jw)
  (Qa (Ju (J4 (Q34 B.units) (Q0 4) Qd) (Qc (Qu (Y5 (Q1 J1 (Q1 (Q0 3) (Q1 (Q0 6) Q6)))))) Jw)
  (Qa (Ju (J4 (Q34 B.units) (Q0 4) Qd) (Qc (Qu (Y5 (Q1 (Qw (Q7w (Q1 J1 (Q1 J1 Q6))) (Xu Qsr rfl T.b_int Qfr (Q1 (Xa (Y9 B.units) (Qe j (B.mono (by decide)) Q9 rfl (Q1 (Q0 0) (Q1 Qd Q6))) Qd) Q6))) (Q1 (Q0 3) Q6))))) Jw)
  (Qa (Ju (SimW.t (yh (J4 (Y9 B.units) (Q0 4) Qd) (qp (J4 (Y9 B.units) (Yk (W4 B) (Q0 1) J1 (fun _ _=>rfl)) (Q7w Q6))))) (Qc (Qu (Y5 (Q1 J1 (Q1 (Q0 3) Q6))))) Jw)
  (Qc (Qu (Y5 (Q1 J1 (Q1 (Qe j (B.mono (by decide)) Q9 rfl (Q1 (Q0 0) (Q1 (Qs Z6 rfl T.b_len bU (Q1 (Yk (W4 B) (Q0 1) J1 (fun _ _=>rfl)) Q6)) Q6))) (Q1 (Q0 3) Q6))))))))))))))))
def Xk : MS := (Qq (Y6 (mBM W0 (Q4 5) (Q3 (Qg 2 Vt (Q3 (Q4 8) (Q3 (Q4 4) Q8))) Q8)))
  (Y6 (mBM W0 (Q4 6) (Q3 (Qg 2 qe (Q3 (Q4 4) (Q3 (mOp oIx (Q4 5) (Q31 (mC (.int 1)))) Q8))) Q8))))
def Xm : MS := (Qq (J8 8 (Qg 2 Zd (Q3 (Q4 0) (Q3 (Q4 7) Q8))))
  (Q3u (Qk 9) (Zc (Q3 (mC (.int 3)) Q8)) Xk))
def ja : MS := (Qq (J8 4 (Qg 1 Vs (Q3 (Q4 3) Q8)))
  (Qq (J8 5 (Q0r (jc Q8)))
  (Qq (J8 6 (Q0r (jc Q8)))
  (Qq (Q3u (Qk 7) (Q4n (Q3 (Q4 1) (Q3 (mOp Yg (Q4 1) (Q4 2)) Q8))) Xm)
  (Jp (Va (Q3 (Q4 5) (Q3 (Q4 6) (Q3 (Q4 4) Q8)))))))))
def V8:FN:=Zs ja 10
theorem sc__law_aplayed:FnScope ["script", "start", "many", "table", "state", "deeds", "answers", "k", "tape", "turn"] ["script", "start", "many", "table"] (Qb qw):=⟨rfl,rfl,rfl,by decide +kernel,rfl,by decide +kernel,by decide +kernel⟩
theorem Q6q {f:aA} {fd:aO} (F:Fun K "_law_aplayed" "_law_aplayed" qw f fd) (T:Txt mg)  (q:DefS P w K mg base 1 "_law_astart" 1 Vs) (B:DefS P w K mg base 2 "_law_atape" 2 Zd) (j:DefS P w K mg base 3 "_law_adrawn" 2 Vt) (z:DefS P w K mg base 2 "_law_astep" 2 qe):FnOk P w K mg base (CXD P w) 4 f fd ["script", "start", "many", "table"] (spF mg 4 V8):=by
 refine Yb (k:=3) (m:=ja) F sc__law_aplayed rfl rfl rfl fun I A outer s H E G=>?_
 exact (Qa (Qx 4 sc__law_aplayed.nd (Qe q (G.mono (by decide)) Q9 rfl (Q1 (Q0 3) Q6)))
  (Qa (Qx 5 sc__law_aplayed.nd (X9 (zi Q6)))
  (Qa (Qx 6 sc__law_aplayed.nd (X9 (zi Q6)))
  (Qa (K1 PassesOwn.leaving rfl (Qj4 rfl T.b_range (Q1 (Q0 1) (Q1 (Jm Z5 (Q0 1) (Q0 2)) Q6))) (Qy (i:=7) sc__law_aplayed.nd) (Qa (Qx 8 sc__law_aplayed.nd (Qe B (G.mono (by decide)) Q9 rfl (Q1 (Q0 0) (Q1 (Q0 7) Q6))))
  (Qc (K1 PassesOwn.leaving rfl (Z9 rfl T.b_range (Q1 Qd Q6)) (Qy (i:=9) sc__law_aplayed.nd) (Qa (Z4 (Xb (Q0 5) (Q1 (Qe j (G.mono (by decide)) Q9 rfl (Q1 (Q0 8) (Q1 (Q0 4) Q6))) Q6)))
  (Qc (Z4 (Xb (Q0 6) (Q1 (Qe z (G.mono (by decide)) Q9 rfl (Q1 (Q0 4) (Q1 (Qw (Q0 5) (qq Qd)) Q6))) Q6)))))))))
  (Qc (Qu (Y5 (Q1 (Q0 5) (Q1 (Q0 6) (Q1 (Q0 4) Q6))))))))))
def y4 : MS := (Qq (J8 1 (Qg 2 Zd (Q3 (Q4 0) (Q3 (mC (.int 0)) Q8))))
  (Qq (J8 2 (mOp Yg (mC (.int 1)) (Qg 2 Qh (Q3 (Q4 1) (Q3 (mC (.int 8)) Q8)))))
  (Jp (Qg 3 Vr (Q3 (Q4 1) (Q3 (Q4 2) (Q3 (Qg 2 Qh (Q3 (Q4 1) (Q3 (mC (.int 9)) Q8))) Q8)))))))
def Vu:FN:=Qr y4 3
theorem sc__law_abegun:FnScope ["script", "tape", "size"] ["script"] (Qb zt):=⟨rfl,rfl,rfl,by decide +kernel,rfl,by decide +kernel,by decide +kernel⟩
theorem Q8m {f:aA} {fd:aO} (F:Fun K "_law_abegun" "_law_abegun" zt f fd) (T:Txt mg)  (z:DefS P w K mg base 2 "_law_atape" 2 Zd) (j:DefS P w K mg base 1 "_law_adigit" 2 Qh) (q:DefS P w K mg base 3 "_law_atable" 3 Vr):FnOk P w K mg base (CXD P w) 4 f fd ["script"] (spF mg 1 Vu):=by
 refine J0 (k:=3) (m:=y4) F sc__law_abegun rfl rfl rfl fun G A outer s H E B=>?_
 exact (Qa (Qx 1 sc__law_abegun.nd (Qe z (B.mono (by decide)) Q9 rfl (Q1 (Q0 0) (Q1 Qd Q6))))
  (Qa (Qx 2 sc__law_abegun.nd (Jm Z5 Qd (Qe j (B.mono (by decide)) Q9 rfl (Q1 (Q0 1) (Q1 Qd Q6)))))
  (Qc (Qu (Qe q (B.mono (by decide)) Q9 rfl (Q1 (Q0 1) (Q1 (Q0 2) (Q1 (Qe j (B.mono (by decide)) Q9 rfl (Q1 (Q0 1) (Q1 Qd Q6))) Q6))))))))
def jk:ME:=(Q4 0)
def qm:MT:=(toB (mOp oEq (Qg 2 Qh (Q3 (Q4 1) (Q3 (mC (.int 2)) Q8))) (mC (.int 0))))
def Kp : MS := (Qq (J8 2 (W6 (Jt [zl, zo 0] (Qk 0) (Zc (Q3 (Q4 1) Q8)) qm jk)))
  (Qq (Z8 (toB (mOp oEq (Q4 2) (Q91 Q8))) (Jp (Va (Q3 (Qg 2 Qh (Q3 (Q4 0) (Q3 (Q4 1) Q8))) Q8))) Z2)
  (Jp (J3 Vh (Q3 (Q4 2) Q8)))))
def X2:FN:=Qr Kp 3
theorem sc__law_apool:FnScope ["tape", "size", "found"] ["tape", "size"] (Qb Q00):=⟨rfl,rfl,rfl,by decide +kernel,rfl,by decide +kernel,by decide +kernel⟩
theorem Qaj {f:aA} {fd:aO} (F:Fun K "_law_apool" "_law_apool" Q00 f fd) (T:Txt mg)  (j:DefS P w K mg base 1 "_law_adigit" 2 Qh):FnOk P w K mg base (CXD P w) 2 f fd ["tape", "size"] (spF mg 2 X2):=by
 refine J0 (k:=1) (m:=Kp) F sc__law_apool rfl rfl rfl fun z A outer s H E q=>?_
 exact (Qa (by first | exact Q1d [zl,zo 0] ["i", "tape"] 2 sc__law_apool.nd rfl (Z9 rfl T.b_range (Q1 (Q0 1) Q6)) (fun _ _ _ _ _=>(Qy (i:=0) (show (["i", "tape"]:List Str).Nodup by decide +kernel))) (fun _ _ _ _ _=>(Q0 0)) (fun _ _ _ _ _=>(Kj (J4 (Y9 q.units) (Qe j (q.mono (by decide)) Ym rfl (Q1 (Q0 1) (Q1 Qd Q6))) Qd))) J7 | exact Qx 2 sc__law_apool.nd (Zj (Jv [zl,zo 0] ["i", "tape"] rfl (Z9 rfl T.b_range (Q1 (Q0 1) Q6)) (fun _ _ _ _ _=>(Qy (i:=0) (show (["i", "tape"]:List Str).Nodup by decide +kernel))) (fun _ _ _ _ _=>(Q0 0)) (fun _ _ _ _ _=>(Kj (J4 (Y9 q.units) (Qe j (q.mono (by decide)) Ym rfl (Q1 (Q0 1) (Q1 Qd Q6))) Qd))) J7)))
  (Qa (Ju (J4 (Y9 q.units) (Q0 2) (Q7w Q6)) (Qc (Qu (Y5 (Q1 (Qe j (q.mono (by decide)) Q9 rfl (Q1 (Q0 0) (Q1 (Q0 1) Q6))) Q6)))) Jw)
  (Qc (Qu (Xu jn rfl T.b_tuple Yc (Q1 (Q0 2) Q6))))))
def Q29 : MS := (Qq (J8 6 (J3 Qfp (Q3 (Q4 4) (Q3 (Qg 2 Jd (Q3 (Q4 1) (Q3 (Q4 5) Q8))) Q8))))
  (Qq (Z8 (toB (mOp (oI fun a b=>.bl (decide (b < a))) (Q4 6) (mC (.int 0)))) (Y6 (mBM W0 (Q4 3) (Q3 (Va (Q3 (mC (.str "use")) (Q3 (Q4 5) (Q3 (Q4 6) Q8)))) Q8))) Z2)
  (J8 4 (mOp (oI fun a b=>.int (a - b)) (Q4 4) (Q4 6)))))
def Q0p : MS := (Qq (J8 3 (Q0r (jc Q8)))
  (Qq (J8 4 (Q4 2))
  (Qq (Q3u (Qk 5) (U9 (Q4 0)) Q29)
  (Jp (Q4 3)))))
def qd:FN:=Zs Q0p 7
theorem sc__law_aused:FnScope ["pool", "told", "k", "deeds", "left", "i", "many"] ["pool", "told", "k"] (Qb xx):=⟨rfl,rfl,rfl,by decide +kernel,rfl,by decide +kernel,by decide +kernel⟩
theorem Qag {f:aA} {fd:aO} (F:Fun K "_law_aused" "_law_aused" xx f fd) (T:Txt mg)  (j:DefS P w K mg base 1 "_law_arights" 2 Jd):FnOk P w K mg base (CXD P w) 2 f fd ["pool", "told", "k"] (spF mg 3 qd):=by
 refine Yb (k:=1) (m:=Q0p) F sc__law_aused rfl rfl rfl fun q A outer s H E z=>?_
 exact (Qa (Qx 3 sc__law_aused.nd (X9 (zi Q6)))
  (Qa (Qx 4 sc__law_aused.nd (Q0 2))
  (Qa (K1 PassesOwn.leaving rfl (Y8 (Q0 0)) (Qy (i:=5) sc__law_aused.nd) (Qa (Qx 6 sc__law_aused.nd (Qs (Qpf rfl) rfl T.b_min Qfq (Q1 (Q0 4) (Q1 (Qe j (z.mono (by decide)) Q9 rfl (Q1 (Q0 1) (Q1 (Q0 5) Q6))) Q6))))
  (Qa (Ju (J4 Q4d (Q0 6) Qd) (Qc (Z4 (Xb (Q0 3) (Q1 (Y5 (Q1 J1 (Q1 (Q0 5) (Q1 (Q0 6) Q6)))) Q6)))) Jw)
  (Qc (Qx 4 sc__law_aused.nd (Jm j7 (Q0 4) (Q0 6)))))))
  (Qc (Qu (Q0 3))))))
def Qiv (C:aA):MS:=(J8 7 (Qg 2 Ye (Q3 (Q4 7) (Q3 (Q4 8) Q8))))
def Qiu (C:aA):MS:=(J8 11 (Qg 2 Ye (Q3 (Q4 11) (Q3 (mOp oIx (Ya (Q4 5) (mC (.str "now"))) (Q4 12)) Q8))))
def Qda (C:aA):ME:=(Qg 2 Jd (Q3 (Q4 1) (Q3 (Q4 0) Q8)))
def Qin (C:aA):ME:=(mC (.str "done"))
def Qim (C:aA):ME:=(mOp oIx (mOp oIx (Q4 1) (mC (.int 1))) (Q4 0))
def Qik (C:aA):ME:=(mOp oIx (Q4 1) (Q4 0))
def Qdj (C : aA) : MS := (Qq (J8 10 (Qg 2 X2 (Q3 (Q4 6) (Q3 (Q4 2) Q8))))
  (Qq (J8 11 (mOp oIx (Ya (Q4 5) (mC (.str "now"))) (mOp oIx (Q4 10) (mC (.int 0)))))
  (Qq (Q3u (Qk 12) (U9 (Q4 10)) (Qiu C))
  (Qq (J8 13 (J3 (Wd fun ns=>zo (.int ns.sum)) (Q3 (W6 (Jt [zl,zo 11] (Qk 0) (U9 (Q4 10)) Je (Qda C))) Q8)))
  (Qq (Z8 (yg (toB (mOp oNe (Qg 2 Wg (Q3 (Q4 11) (Q3 (Q4 10) Q8))) (Q4 13))) (toB (mOp (oI fun a b=>.bl (decide (b < a))) (Q4 13) (Qg 1 Q15 (Q3 (Q4 7) Q8))))) (Jp (mC (.bl za))) Z2)
  (Qq (J8 14 (J3 Q5x (Q3 (mC (.int 1)) (Q3 (mOp (oI fun a b=>.int (a - b)) (mOp Yg (Q4 13) (Qg 2 Qh (Q3 (Q4 6) (Q3 (mC (.int 4)) Q8)))) (mC (.int 1))) Q8))))
  (Qq (J8 15 (Qg 3 Xn (Q3 (Q4 11) (Q3 (Q4 10) (Q3 (Q4 14) Q8)))))
  (Z8 (toB (mOp (oI fun a b=>.bl (decide (a<=b))) (Q4 14) (Q4 13))) (Qq (J8 16 (Qg 3 qd (Q3 (Q4 10) (Q3 (Q4 11) (Q3 (Q4 14) Q8)))))
  (Z8 (yg (toB (mOp oNe (Q4 15) (Va (Q3 (mC (.str "may")) (Q3 (Q4 13) Q8))))) (toB (mOp oNe (mOp oIx (Qg 2 (Q4x C) (Q3 (Q4 11) (Q3 (Q4 16) Q8))) (mC (.int 0))) (W6 (Jt [zl] (Qk 0) (U9 (Q4 16)) Je (Qin C)))))) (Jp (mC (.bl za))) Z2)) (Qq (Z8 (yg (toB (mOp oNe (mOp oIx (Q4 15) (mC (.int 0))) (mC (.str "must")))) (yg (toB (mOp Q8p (Qg 3 V6 (Q3 (Q4 11) (Q3 (Q4 10) (Q3 (mOp oIx (Q4 15) (mC (.int 1))) Q8)))) (mC (.bl zb)))) (toB (mOp (oI fun a b=>.bl (decide (b<=a))) (Qg 1 Q15 (Q3 (mOp oIx (Q4 15) (mC (.int 1))) Q8)) (Q4 14))))) (Jp (mC (.bl za))) Z2)
  (Qq (Z8 (yg (toB (mOp oNe (mOp oIx (Qg 1 Zk (Q3 (mOp oIx (Q4 15) (mC (.int 1))) Q8)) (mC (.int 0))) (mC (.str "comes")))) (Vi (toB (Qg 2 V7 (Q3 (Q4 11) (Q3 (mOp oIx (Q4 15) (mC (.int 1))) Q8)))))) (Jp (mC (.bl za))) Z2)
  (Z8 (toB (mOp oNe (W6 (Jt [zl,zo 15] (Qk 0) (U9 (Q4 10)) Je (Qim C))) (W6 (Jt [zl,zo 11] (Qk 0) (U9 (Q4 10)) Je (Qik C))))) (Jp (mC (.bl za))) Z2)))))))))))
def Qnk (C : aA) : MS := (Qq (J8 1 (Qg 1 Vu (Q3 (Q4 0) Q8)))
  (Qq (J8 2 (J3 Zg (Q3 (Q4 1) Q8)))
  (Qq (Qns (Vm (Jx (Qk 3) (Jx (Qk 4) (Jx (Qk 5) Vn)))) (Qg 4 V8 (Q3 (Q4 0) (Q3 (mC (.int 1)) (Q3 (J3 Q5x (Q3 (mC (.int 3)) (Q3 (J3 Qfp (Q3 (mC (.int 8)) (Q3 (mOp (oI fun a b=>.int (a - b)) (J3 Zg (Q3 (Q4 0) Q8)) (mC (.int 1))) Q8))) Q8))) (Q3 (Q4 1) Q8))))))
  (Qq (J8 6 (Qg 2 Zd (Q3 (Q4 0) (Q3 (mC (.int 9)) Q8))))
  (Qq (J8 7 (mOp oIx (Ya (Q4 5) (mC (.str "now"))) (mC (.int 0))))
  (Qq (Q3u (Qk 8) (U9 (Ya (Q4 5) (mC (.str "now")))) (Qiv C))
  (Qq (Q3u (Qk 9) (Zc (Q3 (mC (.int 3)) Q8)) (Qdj C))
  (Jp (mC (.bl zb))))))))))
def Qty (C:aA):FN:=Qr (Qnk C) 17
theorem sc_law:FnScope ["script", "start", "size", "deeds", "answers", "state", "tape", "joint", "table", "turn", "pool", "told", "i", "have", "k", "found", "used"] ["script"] (Qb Q49):=⟨rfl,rfl,rfl,by decide +kernel,rfl,by decide +kernel,by decide +kernel⟩
theorem Qvh {f:aA} {fd:aO} {C:aA} (F:Fun K "law" "law" Q49 f fd) (T:Txt mg) (TC:ClsT K C)  (O:DefS P w K mg base 4 "_law_abegun" 1 Vu) (z:DefS P w K mg base 4 "_law_aplayed" 4 V8) (Z:DefS P w K mg base 2 "_law_atape" 2 Zd) (j:DefS P w K mg base 1 "_law_ajoined" 2 Ye) (U:DefS P w K mg base 2 "_law_apool" 2 X2) (B:DefS P w K mg base 1 "_law_arights" 2 Jd) (I:DefS P w K mg base 9 "least_stock" 2 Wg) (a4:DefS P w K mg base 1 "stock" 1 Q15) (G:DefS P w K mg base 1 "_law_adigit" 2 Qh) (a5:DefS P w K mg base 9 "may_use" 3 Xn) (Y:DefS P w K mg base 2 "_law_aused" 3 qd) (a6:DefS P w K mg base 10 "played" 2 (Q4x C)) (a3:DefS P w K mg base 9 "is_world" 3 V6) (J:DefS P w K mg base 5 "comes_about" 1 Zk) (a2:DefS P w K mg base 2 "is_within" 2 V7):FnOk P w K mg base (CXD P w) 11 f fd ["script"] (spF mg 1 (Qty C)):=by
 refine J0 (k:=10) (m:=(Qnk C)) F sc_law rfl rfl rfl fun a7 A outer s H E q=>?_
 exact (Qa (Qx 1 sc_law.nd (Qe O (q.mono (by decide)) Q9 rfl (Q1 (Q0 0) Q6)))
  (Qa (Qx 2 sc_law.nd (Qs Z6 rfl T.b_len bU (Q1 (Q0 1) Q6)))
  (Qa (Que (Qe z (q.mono (by decide)) Q9 rfl (Q1 (Q0 0) (Q1 Qd (Q1 (Qs (Q9m rfl) rfl T.b_max Q28 (Q1 Qd (Q1 (Qs (Qpf rfl) rfl T.b_min Qfq (Q1 Qd (Q1 (Jm j7 (Qs Z6 rfl T.b_len bU (Q1 (Q0 0) Q6)) Qd) Q6))) Q6))) (Q1 (Q0 1) Q6))))) (xj rfl (Zp (Qy (i:=3) sc_law.nd) (Zp (Qy (i:=4) sc_law.nd) (Zp (Qy (i:=5) sc_law.nd) Kk)))))
  (Qa (Qx 6 sc_law.nd (Qe Z (q.mono (by decide)) Q9 rfl (Q1 (Q0 0) (Q1 Qd Q6))))
  (Qa (Qx 7 sc_law.nd (Qw (Yk (W4 q) (Q0 5) J1 (fun _ _=>rfl)) Qd))
  (Qa (K1 PassesOwn.leaving rfl (Y8 (Yk (W4 q) (Q0 5) J1 (fun _ _=>rfl))) (Qy (i:=8) sc_law.nd) (Qc (Qx 7 sc_law.nd (Qe j (q.mono (by decide)) Q9 rfl (Q1 (Q0 7) (Q1 (Q0 8) Q6))))))
  (Qa (K1 PassesOwn.leaving rfl (Z9 rfl T.b_range (Q1 Qd Q6)) (Qy (i:=9) sc_law.nd) (Qa (Qx 10 sc_law.nd (Qe U (q.mono (by decide)) Q9 rfl (Q1 (Q0 6) (Q1 (Q0 2) Q6))))
  (Qa (Qx 11 sc_law.nd (Qw (Yk (W4 q) (Q0 5) J1 (fun _ _=>rfl)) (Qw (Q0 10) Qd)))
  (Qa (K1 PassesOwn.leaving rfl (Y8 (Q0 10)) (Qy (i:=12) sc_law.nd) (Qc (Qx 11 sc_law.nd (Qe j (q.mono (by decide)) Q9 rfl (Q1 (Q0 11) (Q1 (Qw (Yk (W4 q) (Q0 5) J1 (fun _ _=>rfl)) (Q0 12)) Q6))))))
  (Qa (Qx 13 sc_law.nd (Qs (Q0z rfl) rfl T.b_sum Ux (Q1 (Zj (Jv [zl,zo 11] ["i", "told"] rfl (Y8 (Q0 10)) (fun _ _ _ _ _=>(Qy (i:=0) (show (["i", "told"]:List Str).Nodup by decide +kernel))) (fun _ _ _ _ _=>(Qe B (q.mono (by decide)) Ym rfl (Q1 (Q0 1) (Q1 (Q0 0) Q6)))) (fun _ _ _ _ _=>Z1) J7)) Q6)))
  (Qa (Ju (SimW.t (yh (J4 (Q17 q.units) (Qe I (q.mono (by decide)) Q9 rfl (Q1 (Q0 11) (Q1 (Q0 10) Q6))) (Q0 13)) (qp (J4 Q4d (Q0 13) (Qe a4 (q.mono (by decide)) Q9 rfl (Q1 (Q0 7) Q6)))))) (Qc (Qu yj)) Jw)
  (Qa (Qx 14 sc_law.nd (Qs (Q9m rfl) rfl T.b_max Q28 (Q1 Qd (Q1 (Jm j7 (Jm Z5 (Q0 13) (Qe G (q.mono (by decide)) Q9 rfl (Q1 (Q0 6) (Q1 Qd Q6)))) Qd) Q6))))
  (Qa (Qx 15 sc_law.nd (Qe a5 (q.mono (by decide)) Q9 rfl (Q1 (Q0 11) (Q1 (Q0 10) (Q1 (Q0 14) Q6)))))
  (Qc (Ju (J4 Q8d (Q0 14) (Q0 13)) (Qa (Qx 16 sc_law.nd (Qe Y (q.mono (by decide)) Q9 rfl (Q1 (Q0 10) (Q1 (Q0 11) (Q1 (Q0 14) Q6)))))
  (Qc (Ju (SimW.t (yh (J4 (Q17 q.units) (Q0 15) (Y5 (Q1 J1 (Q1 (Q0 13) Q6)))) (qp (J4 (Q17 q.units) (Qw (Qe a6 (q.mono (by decide)) Q9 rfl (Q1 (Q0 11) (Q1 (Q0 16) Q6))) Qd) (Zj (Jv [zl] ["deed"] rfl (Y8 (Q0 16)) (fun _ _ _ _ _=>(Qy (i:=0) (show (["deed"]:List Str).Nodup by decide +kernel))) (fun _ _ _ _ _=>J1) (fun _ _ _ _ _=>Z1) J7)))))) (Qc (Qu yj)) Jw))) (Qa (Ju (SimW.t (yh (J4 (Q17 q.units) (Qw (Q0 15) Qd) J1) (yh (J4 Qna (Qe a3 (q.mono (by decide)) Q9 rfl (Q1 (Q0 11) (Q1 (Q0 10) (Q1 (Qw (Q0 15) Qd) Q6)))) yj) (qp (J4 Qi2 (Qe a4 (q.mono (by decide)) Q9 rfl (Q1 (Qw (Q0 15) Qd) Q6)) (Q0 14)))))) (Qc (Qu yj)) Jw)
  (Qa (Ju (SimW.t (yh (J4 (Q17 q.units) (Qw (Qe J (q.mono (by decide)) Q9 rfl (Q1 (Qw (Q0 15) Qd) Q6)) Qd) J1) (qp (Wh (Yf (Qe a2 (q.mono (by decide)) Q9 rfl (Q1 (Q0 11) (Q1 (Qw (Q0 15) Qd) Q6)))))))) (Qc (Qu yj)) Jw)
  (Qc (Ju (J4 (Q17 q.units) (Zj (Jv [zl,zo 15] ["i", "found"] rfl (Y8 (Q0 10)) (fun _ _ _ _ _=>(Qy (i:=0) (show (["i", "found"]:List Str).Nodup by decide +kernel))) (fun _ _ _ _ _=>(Qw (Qw (Q0 1) Qd) (Q0 0))) (fun _ _ _ _ _=>Z1) J7)) (Zj (Jv [zl,zo 11] ["i", "told"] rfl (Y8 (Q0 10)) (fun _ _ _ _ _=>(Qy (i:=0) (show (["i", "told"]:List Str).Nodup by decide +kernel))) (fun _ _ _ _ _=>(Qw (Q0 1) (Q0 0))) (fun _ _ _ _ _=>Z1) J7))) (Qc (Qu yj)) Jw))))))))))))))
  (Qc (Qu yj)))))))))
end
end Lw
namespace Lw
open PySem PySem.Spec L2 Sm
theorem Q7c (a:Int) {b:Int} (h:0 < b):0<=a % b/\a % b < b:=⟨Int.emod_nonneg a (by omega),Int.emod_lt_of_pos a h⟩
def Qz (r:List Int):PV:=.tup (r.map .int)
def Q7 (tb:List (List Int)):PV:=.tup (tb.map Qz)
theorem Q5y {α:Type} (xs:List α) (p:α->Bool):(xs.map p).all id=xs.all p:=by
 rw [ee]; rfl
structure Wt' (n:Nat) (tb:List (List Int)):Prop where
 len:tb.length=n
 row:∀ r∈tb,r.length=n + 1
 nn:∀ r∈tb,∀ x∈r,(0:Int)<=x
 n1:1<=n
 n8:n<=8
def Zn (n:Nat) (f:Nat->Int):Int:=((bS n).map f).sum
theorem Jq (n:Nat) (f:Nat->Int):Zn (n + 1) f=Zn n f + f n:=by
 unfold Zn;rw [dn,F4,gA];simp
theorem Zm {n:Nat} {f g:Nat->Int} (h:∀ i,i < n->f i=g i):Zn n f=Zn n g:=by
 induction n with
 | zero=>rfl
 | succ n j=>rw [Jq,Jq,j fun i hi=>h i (by omega),h n (by omega)]
theorem Q1c (n:Nat) (f g:Nat->Int):Zn n (fun i=>f i + g i)=Zn n f + Zn n g:=by
 induction n with
 | zero=>rfl
 | succ n j=>rw [Jq,Jq,Jq,j]; omega
theorem Q7h (n:Nat) (f g:Nat->Int):Zn n (fun i=>f i - g i)=Zn n f - Zn n g:=by
 induction n with
 | zero=>rfl
 | succ n j=>rw [Jq,Jq,Jq,j]; omega
theorem yf (n:Nat):Zn n (fun _=>0)=0:=by
 induction n with
 | zero=>rfl
 | succ n j=>rw [Jq,j]; rfl
theorem Qj0 (n m:Nat) (f:Nat->Nat->Int):Zn n (fun i=>Zn m (f i))=Zn m (fun j=>Zn n fun i=>f i j):=by
 induction n with
 | zero=>exact (yf m).symm
 | succ n q=>
  rw [Jq,q,<- Q1c];exact Zm fun i _=>(Jq _ _).symm
theorem Q60 {n:Nat} {f:Nat->Int} (h:∀ i,i < n->0<=f i):0<=Zn n f:=by
 induction n with
 | zero=>exact bb _
 | succ n j=>rw [Jq]; have:=j fun i hi=>h i (by omega); have:=h n (by omega); omega
theorem Q8u {α β:Type} (l:List α) (d:α) (f:α->β):l.map f=(bS l.length).map fun i=>f (l.getD i d):=by
 refine dM fun i=>?_
 rw [E8,E8]
 by_cases hi:i < l.length
 ·rw [F8 hi,getD_some hi d]; rfl
 ·rw [F3 (by omega),F3 (by rw [F6]; omega)]; rfl
theorem Qfx {α β:Type} (l:List α) (d:α) (f:α × Nat->β):l.zipIdx.map f=(bS l.length).map fun i=>f (l.getD i d,i):=by
 refine dM fun i=>?_
 rw [E8,E8,List.getElem?_zipIdx]
 by_cases hi:i < l.length
 ·rw [F8 hi,getD_some hi d]; simp
 ·rw [F3 (by omega),F3 (by rw [F6]; omega)]; rfl
theorem Qdt (r:List Int):r.sum=Zn r.length fun j=>r.getD j 0:=by
 have:=Q8u r 0 id;rw [List.map_id] at this;rw [Zn]
 conv=>lhs; rw [this]
 rfl
def ent (tb:List (List Int)) (i j:Nat):Int:=(tb.getD i []).getD j 0
def Sz (n:Nat) (tb:List (List Int)):Prop:=tb.length=n/\∀ r∈tb,r.length=n + 1
theorem Wt'.sz {n:Nat} {tb:List (List Int)} (w:Wt' n tb):Sz n tb:=⟨w.len,w.row⟩
theorem Sz.row {n i:Nat} {tb:List (List Int)} (z:Sz n tb) (hi:i < n):tb[i]?=zo (tb.getD i [])/\(tb.getD i []).length=n + 1:=by
 have e:=getD_some (show i < tb.length by rw [z.1]; exact hi) [];exact ⟨e,z.2 _ (D5 e)⟩
theorem Sz.cell {n i j:Nat} {tb:List (List Int)} (z:Sz n tb) (hi:i < n) (q:j<=n):(tb.getD i [])[j]?=zo (ent tb i j):=getD_some (by rw [(z.row hi).2]; omega) 0
theorem Qqc {n:Nat} {t1 t2:List (List Int)} (z:Sz n t1) (q:Sz n t2) (h:∀ i j,i < n->j<=n->ent t1 i j=ent t2 i j):t1=t2:=by
 refine dM fun i=>?_
 by_cases hi:i < n
 ·rw [(z.row hi).1,(q.row hi).1];congr 1;refine dM fun j=>?_
  by_cases B:j<=n
  ·rw [z.cell hi B,q.cell hi B,h i j hi B]
  ·rw [F3 (by rw [(z.row hi).2]; omega),F3 (by rw [(q.row hi).2]; omega)]
 ·rw [F3 (by rw [z.1]; omega),F3 (by rw [q.1]; omega)]
theorem Wt'.ent_nn {n i j:Nat} {tb:List (List Int)} (w:Wt' n tb) (hi:i < n) (q:j<=n):0<=ent tb i j:=w.nn _ (D5 (w.sz.row hi).1) _ (D5 (w.sz.cell hi q))
theorem Wt'.of_ent {n:Nat} {tb:List (List Int)} (z:Sz n tb) (h1:1<=n) (J:n<=8) (h:∀ i j,i < n->j<=n->0<=ent tb i j):Wt' n tb:=by
 refine ⟨z.1,z.2,fun r q x B=>?_,h1,J⟩;obtain ⟨i,hi,e⟩:=cZ.mp q;obtain ⟨j,G,e2⟩:=cZ.mp B;have O:=z.2 r q;have:=h i j (by rw [<- z.1]; exact hi) (by omega);have e3:tb.getD i []=r:=by rw [bW,O4 hi,e]; rfl
 have I:r.getD j 0=x:=by rw [bW,O4 G,e2]; rfl
 unfold ent at this;rw [e3,I] at this;exact this
theorem Q0v (i:Int) (st:Q2):W7 [.int i] st=.ok (.bl zb) st:=by
 simp [W7,Qr,Q3r,isI,tyN]
theorem Qay (a b c:Int) (st:Q2):X0 [.int a,.int b,.int c] st=.ok (.bl (decide (b<=a) && decide (a<=c))) st:=by
 by_cases h:b<=a <;> simp [X0,Qr,Q0k,Q0v,h]
theorem Q22 {V:PV} {n:Nat} {st:Q2} (j:Zg st [V]=.ok (.int n) st) (i:Int):Z7 [V,.int i] st=.ok (.bl (decide (0<=i) && decide (i < n))) st:=by
 have e:decide (i<=(n:Int) - 1)=decide (i < (n:Int)):=by
  rw [decide_eq_decide]; omega
 simp [Z7,Qr,Q3t,j,Qay,e]
theorem Q4q {V:PV} {n i:Nat} {st:Q2} (j:Zg st [V]=.ok (.int n) st) (hi:i < n):Z7 [V,.int i] st=.ok (.bl zb) st:=by
 rw [Q22 j];simp; omega
def Ja (k:Nat):PV:=.int (k:Int)
theorem Qsk {n r:Nat} {S:Q2} {hs:List Int} (q:n<=r) (h:S[r]?=zo (.lst (hs.map .int))):fz n S 16 (.ref r)=zo (.lst (hs.map .int)):=by
 have j:Jz 12 (.lst (hs.map .int))=zb:=by simp [Jz]
 have:=Q7a (n:=n) (st:=S) (k:=16) j (by decide);rw [fz,bL (by omega),h];simpa [fz] using this
def Qn (tb:List (List Int)) (h:Nat):Int:=Zn tb.length (fun o=>ent tb o h) - ((tb.getD h []).sum - ent tb h h)
theorem Yu {n h:Nat} {tb:List (List Int)} (z:Sz n tb) (q:h < n):Qn tb h=Zn n (fun o=>ent tb o h) - (Zn n (fun j=>ent tb h j) + ent tb h n - ent tb h h):=by
 unfold Qn;rw [z.1,Qdt (tb.getD h []),(z.row q).2,Jq];rfl
theorem Q2e {n h:Nat} {tb:List (List Int)} (z:Sz n tb) (Z:n<=100) (j:h < n) (st:Q2):Yr [Q7 tb,.int h] st=.ok (.int (Qn tb h)) st:=by
 have O:=Q4q (V:=Q7 tb) (n:=n) (i:=h) (st:=st) (by simp [Q7,z.1]) j;have B:Jn (Qk 0) Je Q3y [] (Jy [zl,zo 1] [zo (Q7 tb),zo (.int h),zl,zl,zl]) (tb.map Qz) st=.ok (tb.map fun r=>.int (r.getD h 0)) st:=by
  refine Z0 _ _ (by simp) fun r G=>⟨_,rfl,?_⟩
  have e:=atI_get (getD_some (show h < r.length by rw [z.2 r G]; omega) 0);simp [Jy,Q3y,Qz,Vz,e]
 have e1:=atI_get (z.row j).1;have e2:=atI_get (z.cell j (E2 j));have hs:(tb.map fun r=>r.getD h 0).sum=Zn n fun o=>ent tb o h:=by
  rw [Q8u tb [] fun r=>r.getD h 0,z.1]; rfl
 have Y:tb.length<=1000000:=by rw [z.1]; omega
 unfold Qn;rw [z.1,<- hs];obtain ⟨r,G⟩:∃ r,tb.getD h []=r:=⟨_,rfl⟩;obtain ⟨x,U⟩:∃ x,ent tb h h=x:=⟨_,rfl⟩;rw [G] at e1 e2 ⊢;rw [U] at e2 ⊢;obtain ⟨q,J⟩:∃ q,(tb.map fun r=>r.getD h 0)=q:=⟨_,rfl⟩;have I:(tb.map fun r=>PV.int (r.getD h 0))=q.map .int:=by rw [<- J,G6]; rfl
 rw [I] at B;rw [J];unfold Q7 at O B ⊢;simp [Yr,Qr,Q8v,O,B,Y,Jh,Vz,e1,Qz,e2]
theorem Uw {n i j:Nat} {tb:List (List Int)} (z:Sz n tb) (hi:i < n) (q:j<=n) (st:Q2):oIx st (Q7 tb) (.int i)=.ok (Qz (tb.getD i [])) st/\oIx st (Qz (tb.getD i [])) (.int j)=.ok (.int (ent tb i j)) st:=by
 constructor
 ·unfold Q7; rw [Qi3,Vz,atI_get (z.row hi).1]; rfl
 ·unfold Qz; rw [Qi3,Vz,atI_get (z.cell hi q)]; rfl
def Q18 (tb:List (List Int)) (h:Nat):Bool:=decide (0 < ent tb h h)
theorem Qs0 {n h:Nat} {tb:List (List Int)} (z:Sz n tb) (j:h < n) (st:Q2):Xy [Q7 tb,.int h] st=.ok (.bl (Q18 tb h)) st:=by
 obtain ⟨q,B⟩:=Uw z j (E2 j) st;unfold Q18;generalize ent tb h h=x at *;generalize tb.getD h []=r at *;simp [Xy,Qr,Q1w,q,B]
def V4 (tb:List (List Int)) (h:Nat):Bool:=decide (ent tb h h < (tb.getD h []).sum)
theorem Qsw {n h:Nat} {tb:List (List Int)} (z:Sz n tb) (j:h < n) (st:Q2):Y4 [Q7 tb,.int h] st=.ok (.bl (V4 tb h)) st:=by
 obtain ⟨q,B⟩:=Uw z j (E2 j) st;unfold V4;generalize ent tb h h=x at *;generalize tb.getD h []=r at *;have G:Wd (fun ns=>zo (.int ns.sum)) st [Qz r]=.ok (.int r.sum) st:=by unfold Qz; rw [Qks]; rfl
 simp [Y4,Qr,Ve,q,B,G]
def Qf3 (tb:List (List Int)) (h:Nat) (ls:List Nat):Bool:=ls.any fun o=>decide (o≠h) && decide (0 < ent tb o h)
theorem Qq1 {α:Type} (xs:List α) (p:α->Bool):(xs.map p).any id=xs.any p:=by
 rw [df]; rfl
theorem Qs9 {n h:Nat} {tb:List (List Int)} (z:Sz n tb) (hh:h < n) {ls:List Nat} (hl:∀ o∈ls,o < n) (Y:ls.length<=1000) {V:PV} {st:Q2} (U:ListAt st V (ls.map Ja)):We [Q7 tb,.int h,V] st=.ok (.bl (Qf3 tb h ls)) st:=by
 obtain ⟨w,q,Z⟩:=U.src;have G:Jn (Qk 0) Ub Ur w (Jy [zl,zo 1,zo 0] [zo (Q7 tb),zo (.int h),zo V]) (ls.map Ja) st=.ok ((ls.filter fun o=>decide (o≠h)).map fun o=>.bl (decide (0 < ent tb o h))) st:=by
  refine Q2s _ _ _ Z fun o O=>⟨_,rfl,?_,fun ht=>?_⟩
  ·simp [Jy,Ub,Ja]
   by_cases e:o=h
   ·simp [e]
   ·have:¬ ((o:Int)=h):=by omega
    simp [e,this]
  ·obtain ⟨I,J⟩:=Uw z (hl o O) (E2 hh) st;generalize ent tb o h=x at *;generalize tb.getD o []=r at *;simp [Jy,Ur,Ja,I,J]
 have j:(ls.map Ja).length<=1000000:=by rw [O2]; omega
 have B:Qf3 tb h ls=((ls.filter fun o=>decide (o≠h)).map fun o=>decide (0 < ent tb o h)).any id:=by
  rw [Qq1,gT]; rfl
 rw [B];generalize ls.map Ja=ov at *;generalize ls.filter (fun o=>decide (o≠h))=fs at *
 simp [We,Qr,K9,q,j,Jh,G,-df]
def Q0a (tb:List (List Int)) (h:Nat) (ls:List Nat):Bool:=Q18 tb h || Qf3 tb h ls
theorem Qqu {n h:Nat} {tb:List (List Int)} (z:Sz n tb) (B:h < n) {ls:List Nat} (I:∀ o∈ls,o < n) (j:ls.length<=1000) {V:PV} {st:Q2} (G:ListAt st V (ls.map Ja)):Xp [Q7 tb,.int h,V] st=.ok (.bl (Q0a tb h ls)) st:=by
 have h1:=Qs0 z B st;have h2:=Qs9 z B I j G;unfold Q0a;cases q:Q18 tb h with
 | true=>rw [q] at h1; simp [Xp,Qr,Q0m,h1]
 | false=>rw [q] at h1; simp [Xp,Qr,Q0m,h1,h2]
theorem Qie (hs:List Int) (x:Int):((hs.map PV.int).any fun y=>peq y (.int x))=decide (x∈hs):=by
 rw [df,cc,dJ,decide_eq_true_iff];constructor
 ·rintro ⟨y,j,e⟩;have:y=x:=by simpa [peq] using e
  rw [<- this]; exact j
 ·intro h;exact ⟨x,h,by simp [peq]⟩
theorem Qtu {hs:List Int} {V:PV} {st:Q2} (z:ListAt st V (hs.map .int)) (x:Int) (b:Bool):oIn b st (.int x) V=.ok (.bl (decide (x∈hs) != b)) st:=by
 have j:Ud st V=zo (hs.map .int):=by
  rcases z with rfl | rfl | ⟨i,rfl,e⟩
  ·rfl
  ·rfl
  ·rw [Q72,e]
 have hd:der st (.int x)=.int x:=rfl;have q:Jz dep (.int x)=zb:=rfl;have g2:(hs.map PV.int).all (Jz dep)=zb:=by simp [Jz,dep]
 unfold oIn;rw [j,hd];simp only [q,g2,and_self,if_true,Qie]
def Qpt (n:Nat) (tb:List (List Int)) (h:Nat):Bool:=(bS (n + 1)).any fun j=>decide (j≠h) && decide (0 < ent tb h j)
theorem Qc7 {n j:Nat} {f:Nat->Int} (q:∀ i,i < n->0<=f i) (z:j < n):f j<=Zn n f:=by
 induction n with
 | zero=>exact absurd z (dN _)
 | succ n B=>
  rw [Jq];have G:=q n (cP n)
  by_cases e:j=n
  ·subst e;have:=Q60 (f:=f) (n:=j) fun i hi=>q i (cX hi)
   omega
  ·have:=B (fun i hi=>q i (cX hi)) (by omega)
   omega
theorem Qm8 {n h:Nat} (f:Nat->Int) (z:h < n):Zn n f=f h + Zn n fun j=>if j≠h then f j else 0:=by
 induction n with
 | zero=>exact absurd z (dN _)
 | succ n q=>
  rw [Jq,Jq]
  by_cases e:n=h
  ·subst e;rw [bL (by simp),Zm (f:=f) (g:=fun j=>if j≠n then f j else 0) fun i hi=>by rw [bK (by omega)]]
   omega
  ·rw [bK e,q (by omega)];omega
theorem Qm6 {n h:Nat} {f:Nat->Int} (I:∀ i,i < n->0<=f i) (U:h < n):f h < Zn n f <-> ∃ j,j < n/\j≠h/\0 < f j:=by
 have e:=Qm8 f U;have O:∀ i,i < n->0<=(fun j=>if j≠h then f j else 0) i:=fun i hi=>by
  show 0<=if i≠h then f i else 0
  split
  ·exact I i hi
  ·exact bb _
 constructor
 ·intro q;refine Classical.byContradiction fun G=>?_
  have:Zn n (fun j=>if j≠h then f j else 0)=Zn n fun _=>0:=Zm fun i hi=>by
   by_cases B:i=h
   ·rw [bL (by simp [B])]
   ·rw [bK B];have h1:=I i hi;have h2:¬ 0 < f i:=fun q=>G ⟨i,hi,B,q⟩
    omega
  rw [yf] at this;omega
 ·rintro ⟨j,J,z,hp⟩;have:=Qc7 O J;simp only [bK z] at this;omega
theorem Qsx {n h:Nat} {tb:List (List Int)} (w:Wt' n tb) (B:h < n):Qpt n tb h=V4 tb h:=by
 have hs:(tb.getD h []).sum=Zn (n + 1) fun j=>ent tb h j:=by
  rw [Qdt,(w.sz.row B).2]; rfl
 have hp:=(Qm6 (n:=n + 1) (h:=h) (f:=fun j=>ent tb h j) (fun i hi=>w.ent_nn B (by omega)) (by omega))
 unfold Qpt V4;rw [hs,cc,dJ,decide_eq_true_iff,hp];constructor
 ·rintro ⟨j,z,q⟩;simp at q;exact ⟨j,F1.mp z,q.1,q.2⟩
 ·rintro ⟨j,z,a,b⟩;exact ⟨j,F1.mpr z,by simp [a,b]⟩
theorem J1h (x:Int) {n:Nat} (h:1<=n):∃ k:Nat,k < n/\x % (n:Int)=(k:Int):=by
 have:=Q7c x (b:=(n:Int)) (by omega);exact ⟨(x % (n:Int)).toNat,by omega,by omega⟩
def kn3 (tb:List (List Int)) (i:Nat) (bs:List Bool) (j:Nat):List Bool:=if bs.getD i za=zb/\i≠j/\0 < ent tb i j then bs.set j zb else bs
def kn2 (n:Nat) (tb:List (List Int)) (bs:List Bool) (i:Nat):List Bool:=(bS n).foldl (kn3 tb i) bs
def kn1 (n:Nat) (tb:List (List Int)) (bs:List Bool) (_:Nat):List Bool:=(bS n).foldl (kn2 n tb) bs
def Qd5 (n:Nat) (tb:List (List Int)):List Bool:=(bS n).map (Q18 tb)
def Q5p (n:Nat) (tb:List (List Int)):List Bool:=(bS n).foldl (kn1 n tb) (Qd5 n tb)
theorem Q9h {α β:Type} {f:List α->β->List α} (h:∀ bs x,(f bs x).length=bs.length):∀ (xs:List β) (bs:List α),(xs.foldl f bs).length=bs.length
 | [],_=>rfl
 | x :: xs,bs=>by rw [cu,Q9h h xs,h]
theorem Qia (tb:List (List Int)) (i:Nat) (bs:List Bool) (j:Nat):(kn3 tb i bs j).length=bs.length:=by
 unfold kn3; split <;> simp
theorem Qib (n:Nat) (tb:List (List Int)) (bs:List Bool) (i:Nat):(kn2 n tb bs i).length=bs.length:=Q9h (Qia tb i) _ _
theorem Qse (n:Nat) (tb:List (List Int)) (bs:List Bool) (t:Nat):(kn1 n tb bs t).length=bs.length:=Q9h (Qib n tb) _ _
inductive Rc (n:Nat) (tb:List (List Int)):Nat->Prop
 | made {h:Nat}:h < n->Q18 tb h=zb->Rc n tb h
 | lent {o h:Nat}:Rc n tb o->h < n->0 < ent tb o h->Rc n tb h
theorem Rc.lt {n h:Nat} {tb:List (List Int)} (r:Rc n tb h):h < n:=by cases r <;> assumption
theorem Vp {α β:Type} {f:β->α->β} {P:β->Prop}:∀ {xs:List α} {b:β},(∀ b x,x∈xs->P b->P (f b x))->P b->P (xs.foldl f b)
 | [],_,_,h=>h
 | x :: xs,b,hs,h=>Vp (xs:=xs) (fun b y j=>hs b y (O9 _ j)) (hs b x D1 h)
theorem Q9i {α β:Type} {f:β->α->β} {P Q:β->Prop} (G:∀ b y,P b->P (f b y)) (B:∀ b y,Q b->Q (f b y)) {x:α} (z:∀ b,P b->Q (f b x)):∀ {xs:List α} {b:β},x∈xs->P b->Q (xs.foldl f b)
 | [],_,j,_=>by cases j
 | y :: ys,b,j,q=>by
  rw [cu];rcases E5.mp j with rfl | j
  ·exact Vp (fun b y _=>B b y) (z b q)
  ·exact Q9i G B z j (G b y q)
def Cl (n:Nat) (tb:List (List Int)) (mem:Nat->Bool):Prop:=∀ o h,o < n->h < n->o≠h->0 < ent tb o h->mem o=zb->mem h=zb
def cnt (n:Nat) (mem:Nat->Bool):Int:=Zn n fun h=>if mem h=zb then 1 else 0
theorem Qwe (n:Nat) (mem:Nat->Bool):cnt n mem<=n:=by
 unfold cnt
 induction n with
 | zero=>exact bb _
 | succ n j=>rw [Jq]; split <;> omega
theorem Qph {n:Nat} {m1 m2:Nat->Bool} (q:∀ h,h < n->m1 h=zb->m2 h=zb) {h:Nat} (z:h < n) (h1:m1 h=za) (h2:m2 h=zb):cnt n m1 + 1<=cnt n m2:=by
 have e:=Q7h n (fun h=>if m2 h=zb then (1:Int) else 0) (fun h=>if m1 h=zb then 1 else 0)
 have l:=Qc7 (n:=n) (j:=h) (f:=fun h=>(if m2 h=zb then (1:Int) else 0) - (if m1 h=zb then 1 else 0)) (fun i hi=>by
  have:=q i hi;cases a:m1 i <;> cases b:m2 i <;> simp_all) z
 simp only [h1,h2] at l;unfold cnt;simp at l;omega
theorem Qdq {X:Type} (n:Nat) (tb:List (List Int)) (mem:X->Nat->Bool) (f:X->Nat->X) (Inv:X->Prop) (hi:∀ x t,Inv x->Inv (f x t))
  (mono:∀ x t h,Inv x->h < n->mem x h=zb->mem (f x t) h=zb)
  (Y:∀ x t o h,Inv x->o < n->h < n->o≠h->0 < ent tb o h->mem x o=zb->mem (f x t) h=zb)
  (stay:∀ x t,Inv x->Cl n tb (mem x)->∀ h,h < n->mem (f x t) h=zb->mem x h=zb) (G:X) (h0:Inv G):Cl n tb (mem ((bS n).foldl f G)):=by
 have Z:∀ t:Nat,Inv ((bS t).foldl f G)/\(Cl n tb (mem ((bS t).foldl f G))\/(t:Int)<=cnt n (mem ((bS t).foldl f G))):=by
  intro t
  induction t with
  | zero=>
   refine ⟨h0,.inr ?_⟩;exact Q60 fun i _=>by split <;> omega
  | succ t J=>
   rw [dn,List.foldl_append,cu,List.foldl_nil];obtain ⟨U,J⟩:=J;generalize (bS t).foldl f G=x at *;refine ⟨hi x t U,?_⟩;rcases Classical.em (Cl n tb (mem x)) with c | c
   ·refine .inl fun o h B z j O I=>?_
    exact mono x t h U z (c o h B z j O (stay x t U c o B I))
   ·rcases J with J | J
    ·exact absurd J c
    ·refine .inr ?_;have:∃ o h,o < n/\h < n/\o≠h/\0 < ent tb o h/\mem x o=zb/\mem x h=za:=by
      refine Classical.byContradiction fun q=>c fun o h B z j O I=>?_
      cases e:mem x h with
      | true=>rfl
      | false=>exact absurd ⟨o,h,B,z,j,O,I,e⟩ q
     obtain ⟨o,h,B,z,j,O,I,hf⟩:=this;have:=Qph (fun h z=>mono x t h U z) z hf (Y x t o h U B z j O I)
     push_cast
     omega
 obtain ⟨U,h | h⟩:=Z n
 ·exact h
 ·intro o k B hk j O I;generalize (bS n).foldl f G=x at *;cases e:mem x k with
  | true=>rfl
  | false=>
   have:=Qph (m1:=mem x) (m2:=fun _=>zb) (fun _ _ _=>rfl) hk e rfl;have h2:=Qwe n fun _=>zb
   omega
theorem set_get {bs:List Bool} {j h:Nat}:((bs.set j zb).getD h za=zb) <-> (h=j/\j < bs.length)\/bs.getD h za=zb:=by
 rw [bW,di]
 by_cases e:j=h
 ·subst e
  by_cases l:j < bs.length
  ·simp [l]
  ·simp [l,bW]
 ·rw [bL e];constructor
  ·intro q; exact .inr q
  ·rintro (⟨q,_⟩ | q)
   ·exact absurd q.symm e
   ·exact q
theorem Q97 {tb:List (List Int)} {i j h:Nat} {bs:List Bool} (q:bs.getD h za=zb):(kn3 tb i bs j).getD h za=zb:=by
 unfold kn3
 split
 ·exact set_get.mpr (.inr q)
 ·exact q
theorem Q98 {n:Nat} {tb:List (List Int)} {i h:Nat} {bs:List Bool} (q:bs.getD h za=zb):(kn2 n tb bs i).getD h za=zb:=Vp (P:=fun bs:List Bool=>bs.getD h za=zb) (fun _ _ _ q=>Q97 q) q
theorem Qf8 {n:Nat} {tb:List (List Int)} {t h:Nat} {bs:List Bool} (q:bs.getD h za=zb):(kn1 n tb bs t).getD h za=zb:=Vp (P:=fun bs:List Bool=>bs.getD h za=zb) (fun _ _ _ q=>Q98 q) q
theorem Qd4 (n:Nat) (tb:List (List Int)):Cl n tb fun h=>(Q5p n tb).getD h za:=by
 refine Qdq n tb (fun (bs:List Bool) h=>bs.getD h za) (kn1 n tb) (fun bs=>bs.length=n) (fun x t B=>by rw [Qse]; exact B) (fun x t h _ _ q=>Qf8 q) (fun x t o h B Y G O Z I=>?_) (fun x t B c h G I=>?_) _ (by simp [Qd5])
 ·show (kn1 n tb x t).getD h za=zb;refine Q9i (P:=fun bs:List Bool=>bs.length=n/\bs.getD o za=zb) (Q:=fun bs:List Bool=>bs.getD h za=zb) (fun bs y q=>⟨by rw [Qib]; exact q.1,Q98 q.2⟩) (fun bs y q=>Q98 q) (x:=o) (fun bs q=>?_) (F1.mpr Y) ⟨B,I⟩;refine Q9i (P:=fun bs:List Bool=>bs.length=n/\bs.getD o za=zb) (Q:=fun bs:List Bool=>bs.getD h za=zb) (fun bs y q=>⟨by rw [Qia]; exact q.1,Q97 q.2⟩) (fun bs y q=>Q97 q) (x:=h) (fun bs q=>?_) (F1.mpr G) q;unfold kn3;rw [bK ⟨q.2,O,Z⟩];exact set_get.mpr (.inl ⟨rfl,by rw [q.1]; exact G⟩)
 ·have:∀ g,g < n->(kn1 n tb x t).getD g za=zb->x.getD g za=zb:=by
   refine Vp (P:=fun bs:List Bool=>∀ g,g < n->bs.getD g za=zb->x.getD g za=zb) (fun bs i hi z=>?_) fun g _ q=>q
   refine Vp (P:=fun bs:List Bool=>∀ g,g < n->bs.getD g za=zb->x.getD g za=zb) (fun bs j hj z g U q=>?_) z;unfold kn3 at q
   split at q
   ·rename_i J;rcases set_get.mp q with ⟨rfl,_⟩ | q
    ·exact c i g (F1.mp hi) U J.2.1 J.2.2 (z i (F1.mp hi) J.1)
    ·exact z g U q
   ·exact z g U q
  exact this h G I
theorem Qf7 (n:Nat) (tb:List (List Int)) {h:Nat} (Y:h < n):(Q5p n tb).getD h za=zb <-> Rc n tb h:=by
 constructor
 ·have:∀ g,g < n->(Q5p n tb).getD g za=zb->Rc n tb g:=by
   refine Vp (P:=fun bs:List Bool=>∀ g,g < n->bs.getD g za=zb->Rc n tb g) (fun bs t _ z=>?_) fun g B q=>?_
   ·refine Vp (P:=fun bs:List Bool=>∀ g,g < n->bs.getD g za=zb->Rc n tb g) (fun bs i hi z=>?_) z;refine Vp (P:=fun bs:List Bool=>∀ g,g < n->bs.getD g za=zb->Rc n tb g) (fun bs j Z z g B q=>?_) z;unfold kn3 at q
    split at q
    ·rename_i I;rcases set_get.mp q with ⟨rfl,_⟩ | q
     ·exact .lent (z i (F1.mp hi) I.1) B I.2.2
     ·exact z g B q
    ·exact z g B q
   ·unfold Qd5 at q;rw [bW,E8,F8 B] at q;exact .made B (by simpa using q)
  exact this h Y
 ·intro r
  induction r with
  | made G O=>
   refine Vp (P:=fun bs:List Bool=>bs.getD _ za=zb) (fun bs t _ q=>Qf8 q) ?_;unfold Qd5;rw [bW,E8,F8 G];simpa using O
  | @lent o g r G U J=>
   by_cases e:o=g
   ·subst e; exact J r.lt
   ·exact Qd4 n tb o g r.lt G e U (J r.lt)
def RdOk (n:Nat) (fs:List Nat):Prop:=(∀ x∈fs,x < n)/\fs.Nodup
theorem Q5i:∀ {n:Nat} {fs:List Nat},(∀ x∈fs,x < n)->fs.Nodup->fs.length<=n
 | 0,[],_,_=>O7 _
 | 0,x :: _,h,_=>absurd (h x D1) (dN _)
 | n + 1,fs,h,d=>by
  by_cases q:n∈fs
  ·have h1:(fs.erase n).length<=n:=Q5i (fun x j=>by
    have h2:=(d.mem_erase_iff).mp j;have:=h x h2.2;omega) (d.erase n)
   rw [List.length_erase_of_mem q] at h1;omega
  ·have:=Q5i (n:=n) (fs:=fs) (fun x j=>by
    have:=h x j;have:x≠n:=fun e=>q (e ▸ j)
    omega) d
   omega
theorem RdOk.len {n:Nat} {fs:List Nat} (h:RdOk n fs):fs.length<=n:=Q5i h.1 h.2
def AhN (tb:List (List Int)) (fs:List Nat):Prop:=∀ k,k < fs.length->Q18 tb (fs.getD k 0)=zb\/∃ o∈fs.take k,0 < ent tb o (fs.getD k 0)
theorem AhN.snoc {tb:List (List Int)} {fs:List Nat} {h:Nat} (a:AhN tb fs) (j:Q18 tb h=zb\/∃ o∈fs,0 < ent tb o h):AhN tb (fs ++ [h]):=by
 intro k q;rw [D0,eR] at q
 by_cases e:k < fs.length
 ·have:=a k e;rw [List.take_append_of_le_length (by omega)];rw [show (fs ++ [h]).getD k 0=fs.getD k 0 by rw [bW,bW,O5 e]];exact this
 ·have:k=fs.length:=by omega
  subst this;rw [show (fs ++ [h]).getD fs.length 0=h by simp [bW]];rw [List.take_left];exact j
def Q24 (fs:List Nat):List Int:=fs.map fun k:Nat=>(k:Int)
def rdS (st:Q2) (fs:List Nat):Q2:=st ++ [Cell.lst (fs.map Ja)]
theorem Qmk (st:Q2) (fs:List Nat):(rdS st fs)[st.length]?=zo (.lst (fs.map Ja)):=by unfold rdS; simp
theorem Q2i (fs:List Nat):(Q24 fs).map PV.int=fs.map Ja:=by unfold Q24; rw [G6]; rfl
theorem intsN_mem {fs:List Nat} {h:Nat}:(h:Int)∈Q24 fs <-> h∈fs:=by
 unfold Q24;rw [cL];constructor
 ·rintro ⟨k,j,e⟩;have:k=h:=by omega
  rw [<- this]; exact j
 ·intro q; exact ⟨h,q,rfl⟩
def Vj (n:Nat) (fs:List Nat):List Nat:=(bS n).filter fun h=>!decide (h∈fs)
def Ua (n:Nat) (tb:List (List Int)) (fs:List Nat):List Nat:=(Vj n fs).filter fun h=>Q0a tb h fs
structure GdR (n:Nat) (tb:List (List Int)) (fs:List Nat):Prop where
 rd:RdOk n fs
 ah:AhN tb fs
 rc:∀ h∈fs,Rc n tb h
theorem AhN.more {tb:List (List Int)}:∀ {ds fs:List Nat},AhN tb fs->(∀ h∈ds,Q18 tb h=zb\/∃ o∈fs,0 < ent tb o h)->AhN tb (fs ++ ds)
 | [],fs,a,_=>by rw [L5]; exact a
 | d :: ds,fs,a,h=>by
  rw [show fs ++ d :: ds=(fs ++ [d]) ++ ds by simp];refine AhN.more (a.snoc (h d D1)) fun g z=>?_
  rcases h g (O9 _ z) with q | ⟨o,j,q⟩
  ·exact .inl q
  ·exact .inr ⟨o,F9 _ j,q⟩
theorem Q7b {n:Nat} {tb:List (List Int)} {fs:List Nat} {h:Nat} (q:h∈Ua n tb fs):h < n/\h∉fs/\(Q18 tb h=zb\/∃ o∈fs,0 < ent tb o h):=by
 obtain ⟨q1,q2⟩:=cG.mp q;obtain ⟨q3,z⟩:=cG.mp q1;refine ⟨F1.mp q3,by simpa using z,?_⟩;unfold Q0a Qf3 at q2;rw [eu] at q2;rcases q2 with q2 | q2
 ·exact .inl q2
 ·obtain ⟨o,j,e⟩:=dJ.mp q2;rw [G7] at e;exact .inr ⟨o,j,by simpa using e.2⟩
theorem GdR.step {n:Nat} {tb:List (List Int)} {fs:List Nat} (g:GdR n tb fs):GdR n tb (fs ++ Ua n tb fs):=by
 refine ⟨⟨fun x j=>?_,?_⟩,g.ah.more fun h q=>(Q7b q).2.2,fun h j=>?_⟩
 ·rcases E7.mp j with j | j
  ·exact g.rd.1 x j
  ·exact (Q7b j).1
 ·refine cz.mpr ⟨g.rd.2,(List.nodup_range.filter _).filter _,fun a G b z e=>?_⟩;subst e;exact (Q7b z).2.1 G
 ·rcases E7.mp j with j | j
  ·exact g.rc h j
  ·obtain ⟨h1,_,h2 | ⟨o,B,I⟩⟩:=Q7b j
   ·exact .made h1 h2
   ·exact .lent (g.rc o B) h1 I
theorem GdR.closed {n:Nat} {tb:List (List Int)} {fs:List Nat} (g:GdR n tb fs) (J:Ua n tb fs=[]) {h:Nat} (Z:h < n):h∈fs <-> Rc n tb h:=by
 refine ⟨g.rc h,fun r=>?_⟩;have j:∀ k,k < n->k∉fs->Q0a tb k fs=za:=fun k O z=>by
  cases e:Q0a tb k fs with
  | false=>rfl
  | true=>
   have:k∈Ua n tb fs:=cG.mpr ⟨cG.mpr ⟨F1.mpr O,by simp [z]⟩,e⟩;rw [J] at this;cases this
 induction r with
 | @made k G z=>
  refine Classical.byContradiction fun q=>?_
  have:=j k G q;unfold Q0a at this;rw [z] at this;cases this
 | @lent o k r G Y U=>
  refine Classical.byContradiction fun q=>?_
  have:=j k G q;unfold Q0a Qf3 at this;rw [Bool.or_eq_false_iff,fT] at this;have I:=U r.lt;have B:o≠k:=fun e=>q (e ▸ I)
  exact this.2 o I (by simp [B,Y])
theorem Qqt {n:Nat} {tb:List (List Int)} (z:Sz n tb) (hn:n<=100) (st:Q2) (fs:List Nat) (r:RdOk n fs) (b a c:Option PV):Ww [zo (Q7 tb),zo (.ref st.length),b,a,c] (rdS st fs)=.nx [zo (Q7 tb),zo (.ref st.length),zo (.bl (decide (0 < (Ua n tb fs).length))),zo (.lst ((Vj n fs).map Ja)),zo (.lst ((Ua n tb fs).map Ja))] (rdS st (fs ++ Ua n tb fs)):=by
 have Y:-1000000<=(n:Int)/\(n:Int)<=1000000:=by omega
 have a7:=r.len;have Z:=Qmk st fs;have J:ListAt (rdS st fs) (.ref st.length) ((Q24 fs).map .int):=.inr (.inr ⟨_,rfl,by rw [Q2i]; exact Z⟩);have G:ListAt (rdS st fs) (.ref st.length) (fs.map Ja):=.inr (.inr ⟨_,rfl,Z⟩);have a2:Zg (rdS st fs) [Q7 tb]=.ok (.int n) (rdS st fs):=by simp [Q7,z.1]
 have a4:Jn (Qk 0) Wr Ut [] (Jy [zl,zo 1] [zo (Q7 tb),zo (.ref st.length),b,a,c]) (Ze 0 n) (rdS st fs)=.ok ((Vj n fs).map Ja) (rdS st fs):=by
  rw [Wu];refine Q2s _ _ _ (by simp) fun j hj=>⟨_,rfl,?_,fun ht=>?_⟩
  ·have I:=Qtu J (j:Int) zb
   by_cases q:j∈fs
   ·have O:(j:Int)∈Q24 fs:=intsN_mem.mpr q;generalize rdS st fs=S at *;simp -implicitDefEqProofs [Jy,Wr,I,q,O]
   ·have O:¬ (j:Int)∈Q24 fs:=fun z=>q (intsN_mem.mp z)
    generalize rdS st fs=S at *;simp -implicitDefEqProofs [Jy,Wr,I,q,O]
  ·simp [Jy,Ut,Ja]
 have U:(Vj n fs).length<=n:=by
  have:=fG (fun h=>!decide (h∈fs)) (bS n)
  rw [F6] at this;exact this
 have a3:∀ h∈Vj n fs,h < n:=fun h hh=>F1.mp (cG.mp hh).1
 have a5:Jn (Qk 0) Uc Us [] (Jy [zl,zo 0,zo 1] [zo (Q7 tb),zo (.ref st.length),b,zo (.lst ((Vj n fs).map Ja)),c]) ((Vj n fs).map Ja) (rdS st fs)=.ok ((Ua n tb fs).map Ja) (rdS st fs):=by
  unfold Ua;refine Q2s _ _ _ (by simp) fun j hj=>⟨_,rfl,?_,fun ht=>?_⟩
  ·have hr:=Qqu z (h:=j) (a3 j hj) r.1 (by omega) G;generalize Q0a tb j fs=rb at *;generalize rdS st fs=S at *;generalize (Vj n fs).map Ja=ov at *;simp -implicitDefEqProofs [Jy,Uc,Ja,hr]
  ·simp [Jy,Us,Ja]
 have a6:(Ua n tb fs).length<=n:=F2 (fG _ _) U;have B:(rdS st fs).set st.length (.lst (fs.map Ja ++ (Ua n tb fs).map Ja))=rdS st (fs ++ Ua n tb fs):=by
  unfold rdS;rw [F4];simp
 have l1:((Vj n fs).map Ja).length<=1000000:=by rw [O2]; omega
 have l2:(fs.map Ja).length + ((Ua n tb fs).map Ja).length<=1000000:=by rw [O2,O2]; omega
 have l3:((Ua n tb fs).map Ja).length=(Ua n tb fs).length:=O2 _;generalize rdS st (fs ++ Ua n tb fs)=S2 at *;generalize rdS st fs=S at *;generalize (Vj n fs).map Ja=ov at *;generalize (Ua n tb fs).length=fl at *;generalize (Ua n tb fs).map Ja=fv at *;generalize fs.map Ja=xv at *;rw [l3] at l2;simp -implicitDefEqProofs [Ww,a2,Y,Jh,a4,l1,a5,Z,Q1u,chg,l2,l3,B]
theorem Qe2 {n:Nat} {tb:List (List Int)} (z:Sz n tb) (O:n<=100) (st:Q2):∀ (m j:Nat) (fs:List Nat) (a c:Option PV),GdR n tb fs->n<=fs.length + m->m + 2<=j->∃ fs' I q J,GdR n tb fs'/\Ua n tb fs'=[]/\qj Zy Ww j [zo (Q7 tb),zo (.ref st.length),zo (.bl zb),a,c] (rdS st fs)=.nx [zo (Q7 tb),zo (.ref st.length),I,q,J] (rdS st fs')
 | m,0,_,_,_,_,_,h=>absurd h (by omega)
 | m,1,_,_,_,_,_,h=>absurd h (by omega)
 | m,k + 2,fs,a,c,g,hm,hf=>by
  have B:=Qqt z O st fs g.rd (zo (.bl zb)) a c;have U:∀ S,Zy [zo (Q7 tb),zo (.ref st.length),zo (.bl zb),a,c] S=.ok zb S:=fun S=>by simp [Zy]
  by_cases e:Ua n tb fs=[]
  ·refine ⟨fs,zo (.bl za),zo (.lst ((Vj n fs).map Ja)),zo (.lst ((Ua n tb fs).map Ja)),g,e,?_⟩;rw [qj,U];simp only [Wz,if_true,B];rw [qj];have Z:∀ S,Zy [zo (Q7 tb),zo (.ref st.length),zo (.bl (decide (0 < (Ua n tb fs).length))),zo (.lst ((Vj n fs).map Ja)),zo (.lst ((Ua n tb fs).map Ja))] S=.ok za S:=fun S=>by simp [Zy,e]
   rw [Z];simp [e]
  ·have hp:0 < (Ua n tb fs).length:=cv.mpr e;have g':=g.step;have G:=g'.rd.len;rw [D0] at G;cases m with
   | zero=>omega
   | succ m=>
    obtain ⟨fs',I,q,J,h1,h2,Y⟩:=Qe2 z O st m (k + 1) (fs ++ Ua n tb fs) (zo (.lst ((Vj n fs).map Ja))) (zo (.lst ((Ua n tb fs).map Ja))) g' (by rw [D0]; omega) (by omega);refine ⟨fs',I,q,J,h1,h2,?_⟩;rw [qj,U];rw [bO hp] at B;simp only [Wz,if_true,B];exact Y
theorem Qgc {n:Nat} {tb:List (List Int)} (z:Sz n tb) (G:n<=100) (st:Q2):∃ fs,GdR n tb fs/\Ua n tb fs=[]/\Wa [zo (Q7 tb),zl,zl,zl,zl] st=.rt (.ref st.length) (rdS st fs):=by
 obtain ⟨fs,J,I,U,g,e,h⟩:=Qe2 z G st n 100000 [] zl zl ⟨⟨fun x j=>(by cases j),gS⟩,fun k q=>absurd q (dN _),fun x j=>(by cases j)⟩ (by simp) (by omega)
 refine ⟨fs,g,e,?_⟩;have B:st ++ [Cell.lst []]=rdS st []:=rfl;generalize rdS st fs=O at *;generalize rdS st []=S1 at *;simp -implicitDefEqProofs [Wa,Jh,B,h]
theorem Qb9 {n:Nat} {tb:List (List Int)} (z:Sz n tb) (B:n<=100) (st:Q2):∃ fs,GdR n tb fs/\Ua n tb fs=[]/\Yj [Q7 tb] st=.ok (.lst (fs.map Ja)) st:=by
 obtain ⟨fs,g,e,h⟩:=Qgc z B st;refine ⟨fs,g,e,?_⟩;have j:=Qsk (n:=st.length) (r:=st.length) (S:=rdS st fs) (hs:=Q24 fs) (O7 _) (by rw [Q2i]; exact Qmk _ _);rw [Q2i] at j;have q:st <+: rdS st fs:=dI _ _;generalize rdS st fs=G at *;show Qr Wa 5 [Q7 tb] st=_;unfold Qr;rw [show (([Q7 tb]:List PV).map zo ++ bR (5 - [Q7 tb].length) zl)=[zo (Q7 tb),zl,zl,zl,zl] from rfl,h];show Sm.fin st (.ref st.length) G=_;unfold Sm.fin;rw [bK q,j];rfl
theorem Quk {n:Nat} {tb:List (List Int)} {fs:List Nat} (g:GdR n tb fs) (G:Ua n tb fs=[]):((bS n).all fun h=>(Q5p n tb).getD h za || !V4 tb h)=(bS n).all fun h=>decide (h∈fs) || !V4 tb h:=by
 rw [cc,F7,F7];have B:∀ h,h∈bS n->(decide (h∈fs) || !V4 tb h)=((Q5p n tb).getD h za || !V4 tb h):=fun h I=>by
  have j:=F1.mp I;congr 1;rw [cc,decide_eq_true_iff,g.closed G j,Qf7 n tb j]
 constructor <;> intro q x z
 ·rw [B x z]; exact q x z
 ·rw [<- B x z]; exact q x z
def Q3j (n:Nat) (tb:List (List Int)):Bool:=(bS n).all fun h=>(Q5p n tb).getD h za || !V4 tb h
theorem Qn9 {n:Nat} {tb:List (List Int)} {fs:List Nat} (g:GdR n tb fs) (j:Ua n tb fs=[]):(Vj n fs).any (V4 tb)=!Q3j n tb:=by
 unfold Q3j;rw [Quk g j];unfold Vj;rw [gT,List.any_eq_not_all_not];congr 2;funext h;rw [Bool.not_and,Bool.not_not]
theorem Q9g {α:Type} (g:α->PV) (J:Gam->Prop) (B:α->Bool) (v:α->PV) {ga:GA} {body:MS} {w:Wt} {st:Q2} (Y:wOk w st):∀ {xs:List α},(∀ x∈xs,∀ Γ,J Γ->∃ Γ1,ga (g x) Γ=zo Γ1/\(B x=zb->∃ j,J j/\body Γ1 st=.nx j st)/\(B x=za->body Γ1 st=.rt (v x) st)) ->
  ∀ Γ,J Γ->(xs.all B=zb->∃ G,J G/\yu ga body w (xs.map g) Γ st=.nx G st)/\(xs.all B=za->∃ x∈xs,B x=za/\yu ga body w (xs.map g) Γ st=.rt (v x) st)
 | [],_,Γ,O=>⟨fun _=>⟨Γ,O,by simp [yu,Y]⟩,fun h=>by simp at h⟩
 | x :: xs,h,Γ,O=>by
  obtain ⟨Γ1,h1,h2,h3⟩:=h x D1 Γ O;rw [E9,yu,bK Y,h1];cases I:B x with
  | false=>
   refine ⟨fun z=>by simp [I] at z,fun _=>⟨x,D1,I,?_⟩⟩
   simp only [h3 I]
  | true=>
   obtain ⟨j,j2,e2⟩:=h2 I;have Z:=Q9g g J B v (ga:=ga) (body:=body) Y (xs:=xs) (fun y U=>h y (O9 _ U)) j j2
   simp only [e2,cY,I,fH];exact ⟨Z.1,fun q=>by
    obtain ⟨y,U,p,e⟩:=Z.2 q;exact ⟨y,O9 _ U,p,e⟩⟩
def Q11 (n:Nat) (tb:List (List Int)):Bool:=((bS n).all fun h=>decide (0<=Qn tb h)) && Q3j n tb
theorem Q2x {n:Nat} {tb:List (List Int)} (z:Sz n tb) (hn:n<=100) (st:Q2):∃ us:List Nat,us.length<=n/\(us=[] <-> Q3j n tb=zb)/\Y1 [Q7 tb] st=.ok (.lst (us.map Ja)) st:=by
 obtain ⟨fs,g,hc,e⟩:=Qb9 z hn st;have G:-1000000<=(n:Int)/\(n:Int)<=1000000:=by omega
 have I:Zg st [Q7 tb]=.ok (.int n) st:=by simp [Q7,z.1]
 have Y:ListAt st (.lst (fs.map Ja)) ((Q24 fs).map .int):=.inl (by rw [Q2i]);have J:Jn (Qk 0) Yw Vg [] (Jy [zl,zo 1] [zo (Q7 tb),zo (.lst (fs.map Ja)),zl]) (Ze 0 n) st=.ok ((Vj n fs).map Ja) st:=by
  rw [Wu];refine Q2s _ _ _ (by simp) fun j hj=>⟨_,rfl,?_,fun ht=>?_⟩
  ·have O:=Qtu Y (j:Int) zb
   by_cases q:j∈fs
   ·have Z:(j:Int)∈Q24 fs:=intsN_mem.mpr q;generalize fs.map Ja=fv at *;simp -implicitDefEqProofs [Jy,Yw,O,q,Z]
   ·have Z:¬ (j:Int)∈Q24 fs:=fun z=>q (intsN_mem.mp z)
    generalize fs.map Ja=fv at *;simp -implicitDefEqProofs [Jy,Yw,O,q,Z]
  ·simp [Jy,Vg,Ja]
 have a2:(Vj n fs).length<=n:=by
  have:=fG (fun h=>!decide (h∈fs)) (bS n)
  rw [F6] at this;exact this
 have a4:∀ h∈Vj n fs,h < n:=fun h hh=>F1.mp (cG.mp hh).1
 have B:=Qn9 g hc;have U:Jn (Qk 0) Je Vf [] (Jy [zl,zo 0] [zo (Q7 tb),zo (.lst (fs.map Ja)),zo (.lst ((Vj n fs).map Ja))]) ((Vj n fs).map Ja) st=.ok (((Vj n fs).map (V4 tb)).map .bl) st:=by
  rw [G6];refine Z0 _ _ (by simp) fun j hj=>⟨_,rfl,?_⟩
  have hb:=Qsw z (a4 j hj) st;show _=Res.ok (PV.bl (V4 tb j)) st;generalize V4 tb j=rb at *;simp -implicitDefEqProofs [Jy,Vf,Ja,hb]
 have ha:(Vj n fs).any (V4 tb)=((Vj n fs).map (V4 tb)).any id:=(Qq1 _ _).symm;have l1:((Vj n fs).map Ja).length<=1000000:=by rw [O2]; omega
 have a3:fin st (.lst ((Vj n fs).map Ja)) st=.ok (.lst ((Vj n fs).map Ja)) st:=Yq (by simp [Jz,Ja]);have a5:fin st (.lst []) st=.ok (.lst []) st:=Yq (by simp [Jz]);cases hr:Q3j n tb with
 | true=>
  refine ⟨[],by simp,by simp,?_⟩;rw [hr,ha] at B;rw [cp];generalize (Vj n fs).map (V4 tb)=bs at *;generalize (Vj n fs).map Ja=ov at *;have B:bs.any id=za:=B;simp -implicitDefEqProofs [Y1,Qr,Wv,e,I,G,Jh,J,l1,U,B,a5]
 | false=>
  rw [hr] at B;refine ⟨Vj n fs,a2,⟨fun q=>?_,fun q=>by cases q⟩,?_⟩
  ·rw [q] at B; cases B
  ·rw [ha] at B;have B:((Vj n fs).map (V4 tb)).any id=zb:=B;generalize (Vj n fs).map (V4 tb)=bs at *;generalize (Vj n fs).map Ja=ov at *;simp -implicitDefEqProofs [Y1,Qr,Wv,e,I,G,Jh,J,l1,U,B,a3]
theorem Qbv {n:Nat} {tb:List (List Int)} (z:Sz n tb) (O:n<=100) (st:Q2):∃ (s:Str) (v:PV),Zk [Q7 tb] st=.ok (.tup [.str s,v]) st/\(s == (bP "comes"))=Q11 n tb:=by
 have B:-1000000<=(n:Int)/\(n:Int)<=1000000:=by omega
 have j:∀ S,Zg S [Q7 tb]=.ok (.int n) S:=fun S=>by simp [Q7,z.1]
 have L:=Q9g (fun k:Nat=>PV.int (k:Int)) (fun Γ=>∃ a,Γ=[zo (Q7 tb),a,zl]) (fun h=>decide (0<=Qn tb h)) (fun h=>.tup [.str "short",.int h]) (ga:=Qk 1) (body:=Vy) (w:=[]) (st:=st) (by simp) (xs:=bS n) (fun h hh Γ ⟨a,e⟩=>by
  subst e;have G:=Q2e z O (F1.mp hh) st;refine ⟨_,rfl,fun hp=>⟨[zo (Q7 tb),zo (.int h),zl],⟨_,rfl⟩,?_⟩,fun hp=>?_⟩
  ·have Y:0<=Qn tb h:=by simpa using hp
   have:¬ (Qn tb h < 0):=by omega
   generalize Qn tb h=x at *;simp -implicitDefEqProofs [Vy,G,this]
  ·have Y:¬ 0<=Qn tb h:=by simpa using hp
   have:Qn tb h < 0:=by omega
   generalize Qn tb h=x at *;simp -implicitDefEqProofs [Vy,G,this,Jh])
 have L:=L [zo (Q7 tb),zl,zl] ⟨_,rfl⟩;rw [<- Wu] at L;unfold Q11;cases Z:(bS n).all fun h=>decide (0<=Qn tb h) with
 | false=>
  obtain ⟨h,hh,hp,e⟩:=L.2 Z;refine ⟨"short",.int h,?_,by rw [fR]; decide +kernel⟩;have J:fin st (.tup [.str "short",.int h]) st=.ok (.tup [.str "short",.int h]) st:=Yq (by simp [Jz]);simp -implicitDefEqProofs [Zk,Qr,Vk,j,B,Jh,e,J]
 | true=>
  obtain ⟨a2,⟨a,rfl⟩,e⟩:=L.1 Z;obtain ⟨us,hl,I,e1⟩:=Q2x z O st;cases G:Q3j n tb with
  | true=>
   have U:=I.mpr G;subst U;obtain ⟨fs,g,hc,e2⟩:=Qb9 z O st;refine ⟨"comes",.lst (fs.map Ja),?_,by rw [fH]; decide +kernel⟩;have J:fin st (.tup [.str "comes",.lst (fs.map Ja)]) st=.ok (.tup [.str "comes",.lst (fs.map Ja)]) st:=Yq (by simp [Jz,Ja]);rw [cp] at e1;generalize fs.map Ja=fv at *;simp -implicitDefEqProofs [Zk,Qr,Vk,j,B,Jh,e,e1,e2,J]
  | false=>
   have U:us≠[]:=fun q=>by rw [I.mp q] at G; cases G
   refine ⟨"rootless",.lst (us.map Ja),?_,by rw [fH]; decide +kernel⟩;have hp:0 < (us.map Ja).length:=by rw [O2]; exact cv.mpr U
   have J:fin st (.tup [.str "rootless",.lst (us.map Ja)]) st=.ok (.tup [.str "rootless",.lst (us.map Ja)]) st:=Yq (by simp [Jz,Ja]);generalize us.map Ja=uv at *;simp -implicitDefEqProofs [Zk,Qr,Vk,j,B,Jh,e,e1,hp,J]
theorem Qcw {a b:List (List Int)} (h:a.length=b.length) (st:Q2):Jk [Q7 a,Q7 b] st=.ok .non st:=by
 simp [Jk,Qr,Wn,Q7,h]
def Q61 (r1 r2:List Int):Bool:=(r1.zip r2).all fun z=>decide (z.1<=z.2)
def Qb3 (t1 t2:List (List Int)):Bool:=(t1.zip t2).all fun z=>Q61 z.1 z.2
theorem Q33 (r1 r2:List Int) (st:Q2) (q:r1.length<=lim):Y3 [Qz r1,Qz r2] st=.ok (.bl (Q61 r1 r2)) st:=by
 have j:Jn (Vm (Jx (Qk 0) (Jx (Qk 1) Vn))) Je Uu [] (Jy [zl,zl] [zo (Qz r1),zo (Qz r2)]) ((r1.zip r2).map fun z=>.tup [.int z.1,.int z.2]) st=.ok ((r1.zip r2).map fun z=>.bl (decide (z.1<=z.2))) st:=by
  refine Z0 _ _ (by simp) fun z hz=>⟨_,rfl,?_⟩
  simp [Jy,Uu]
 unfold Qz at j ⊢;simp [Y3,Qr,Kb,q,qg,j,Q5y,Q61]
theorem Qb0 {t1 t2:List (List Int)} (h:t1.length=t2.length) (st:Q2) (G:t1.length<=lim) (B:∀ r∈t1,r.length<=lim):V7 [Q7 t1,Q7 t2] st=.ok (.bl (Qb3 t1 t2)) st:=by
 have j:Jn (Vm (Jx (Qk 0) (Jx (Qk 1) Vn))) Je y9 [] (Jy [zl,zl] [zo (Q7 t1),zo (Q7 t2)]) ((t1.zip t2).map fun z=>.tup [Qz z.1,Qz z.2]) st=.ok ((t1.zip t2).map fun z=>.bl (Q61 z.1 z.2)) st:=by
  refine Z0 _ _ (by simp) fun z hz=>⟨_,rfl,?_⟩
  have:=Q33 z.1 z.2 st (B _ (cR hz).1);simp [Jy,y9,this]
 have q:=Qcw h st;unfold Q7 at j q ⊢;simp [V7,Qr,Q1x,G,qg,j,Q5y,Qb3,q]
theorem Qka (r:List Int) (n:Int) (st:Q2) (q:r.length<=lim):Q2b [Qz r,.int n] st=.ok (.bl (decide ((r.length:Int)=n + 1) && r.all fun i=>decide (0<=i))) st:=by
 have j:Jn (Qk 0) Je Q40 [] (Jy [zl] [zo (Qz r),zo (.int n)]) (r.map .int) st=.ok (r.map fun i=>.bl (decide (0<=i))) st:=by
  refine Z0 _ _ (by simp) fun i hi=>⟨_,rfl,?_⟩
  simp [Jy,Q40,Q0v]
 unfold Qz at j ⊢
 by_cases h:(r.length:Int)=n + 1 <;> simp [Q2b,Qr,Q8z,isI,tyN,j,h,q,Q5y]
theorem Qfa {n:Nat} {tb:List (List Int)} (w:Wt' n tb) (st:Q2):ju [Q7 tb] st=.ok (.bl zb) st:=by
 have h1:=w.n1;have I:=w.n8;have z:Jn (Qk 0) Je Q0y [] (Jy [zl,zo 0] [zo (Q7 tb)]) (tb.map Qz) st=.ok (tb.map fun _=>.bl zb) st:=by
  refine Z0 _ _ (by simp) fun r B=>⟨_,rfl,?_⟩
  have e:=w.row r B;have e2:=Qka r tb.length st (by rw [e,Jh]; omega);simp [Jy,Q0y,Q7,e2];rw [w.len,e];exact ⟨by omega,w.nn r B⟩
 unfold Q7 at z ⊢;have j:(1:Int)<=n:=by omega
 have q:(n:Int)<=8:=by omega
 have G:n<=1000000:=by omega
 simp [ju,Qr,Q3s,isI,tyN,z,w.len,Q5y,j,q,Jh,G]
def maxI (x y:Int):Int:=if y > x then y else x
theorem Qcy (x y:Int):x<=maxI x y:=by unfold maxI; split <;> omega
theorem Qni (x y:Int):y<=maxI x y:=by unfold maxI; split <;> omega
theorem Qcx (x y:Int):maxI x y=x\/maxI x y=y:=by unfold maxI; split <;> simp
theorem Qjz {x y:Int} (h:y<=x):maxI x y=x:=by unfold maxI; rw [bL (by omega)]
theorem Qgz {x y:Int} (h:x<=y):maxI x y=y:=by unfold maxI; split <;> omega
def Wc (a b:List Int):List Int:=(a.zip b).map fun z=>maxI z.1 z.2
def Zi (a b:List (List Int)):List (List Int):=(a.zip b).map fun z=>Wc z.1 z.2
theorem Qax (a b:List Int) (G:a.length<=lim) (st:Q2):Uz [Qz a,Qz b] st=.ok (Qz (Wc a b)) st:=by
 have j:Jn (Vm (Jx (Qk 0) (Jx (Qk 1) Vn))) Je ji [] (Jy [zl,zl] [zo (Qz a),zo (Qz b)]) ((a.zip b).map fun z=>.tup [.int z.1,.int z.2]) st=.ok ((a.zip b).map fun z=>.int (maxI z.1 z.2)) st:=by
  refine Z0 _ _ (by simp) fun z hz=>⟨_,rfl,?_⟩
  simp [Jy,ji,maxI]
 have e:((a.zip b).map fun z=>PV.int (maxI z.1 z.2))=(Wc a b).map .int:=by unfold Wc; rw [G6]; rfl
 rw [e] at j;have B:Jz 12 (.tup ((Wc a b).map .int))=zb:=by simp [Jz]
 generalize Wc a b=q at *;unfold Qz at j ⊢;simp [Uz,Qr,Q0j,G,qg,j,Yq B]
theorem Qk7 {a b:List (List Int)} (h:a.length=b.length) (J:a.length<=lim) (I:∀ r∈a,r.length<=lim) (st:Q2):Q2a [Q7 a,Q7 b] st=.ok (Q7 (Zi a b)) st:=by
 have j:Jn (Vm (Jx (Qk 0) (Jx (Qk 1) Vn))) Je Q3z [] (Jy [zl,zl] [zo (Q7 a),zo (Q7 b)]) ((a.zip b).map fun z=>.tup [Qz z.1,Qz z.2]) st=.ok ((a.zip b).map fun z=>Qz (Wc z.1 z.2)) st:=by
  refine Z0 _ _ (by simp) fun z hz=>⟨_,rfl,?_⟩
  have:=Qax z.1 z.2 (I _ (cR hz).1) st;simp [Jy,Q3z,this]
 have e:((a.zip b).map fun z=>Qz (Wc z.1 z.2))=(Zi a b).map Qz:=by unfold Zi; rw [G6]; rfl
 rw [e] at j;have B:=Qcw h st;have G:Jz 12 (.tup ((Zi a b).map Qz))=zb:=by simp [Jz,Qz]
 generalize Zi a b=q at *;unfold Q7 at j B ⊢;simp [Q2a,Qr,Q8y,J,qg,j,B,Yq G]
theorem Qk8 {a b:List Int} (h:a.length=b.length):(Wc a b).length=a.length:=by unfold Wc; simp [h]
theorem Qqf {n:Nat} {a b:List (List Int)} (j:Sz n a) (q:Sz n b):Sz n (Zi a b):=by
 refine ⟨by unfold Zi; simp [j.1,q.1],fun r B=>?_⟩;obtain ⟨z,hz,rfl⟩:=cL.mp B;have:=cR hz;rw [Qk8 (by rw [j.2 _ this.1,q.2 _ this.2]),j.2 _ this.1]
theorem V3 {n i j:Nat} {a b:List (List Int)} (G:Sz n a) (B:Sz n b) (hi:i < n) (q:j<=n):ent (Zi a b) i j=maxI (ent a i j) (ent b i j):=by
 have J:=G.row hi;have rb:=B.row hi;have ca:=G.cell hi q;have I:=B.cell hi q;have e1:(Zi a b).getD i []=Wc (a.getD i []) (b.getD i []):=by
  unfold Zi;rw [bW,E8,(G9 (z:=(a.getD i [],b.getD i []))).mpr ⟨J.1,rb.1⟩];rfl
 have e2:(Wc (a.getD i []) (b.getD i []))[j]?=zo (maxI (ent a i j) (ent b i j)):=by
  unfold Wc;rw [E8,(G9 (z:=(ent a i j,ent b i j))).mpr ⟨ca,I⟩];rfl
 unfold ent;rw [e1,bW,e2];rfl
def Q50 (n:Nat) (tb:List (List Int)):Int:=Zn n (fun o=>ent tb o o) - Zn n (fun o=>ent tb o n)
theorem Q85 {n:Nat} {tb:List (List Int)} (z:Sz n tb):Zn n (Qn tb)=Q50 n tb:=by
 rw [Zm fun h j=>Yu z j,Q7h,Q7h,Q1c,Qj0 n n fun h o=>ent tb o h,Q50]
 omega
theorem Qdu {n:Nat} {tb:List (List Int)} (z:Sz n tb) (O:n<=100) (st:Q2):Q15 [Q7 tb] st=.ok (.int (Q50 n tb)) st:=by
 have j:Jn (Vm (Jx (Qk 0) (Jx (Qk 1) Vn))) Je Q5w [] (Jy [zl,zl] [zo (Q7 tb),zl,zl]) (tb.zipIdx.map fun z=>.tup [.int (z.2:Nat),Qz z.1]) st=.ok (tb.zipIdx.map fun z=>.int (z.1.getD z.2 0)) st:=by
  refine Z0 _ _ (by simp) fun y G=>⟨_,rfl,?_⟩
  have h2:=List.snd_lt_of_mem_zipIdx G;have h1:=z.2 _ (List.fst_mem_of_mem_zipIdx G);have e:=atI_get (getD_some (show y.2 < y.1.length by rw [h1]; rw [z.1] at h2; omega) 0);simp [Jy,Q5w,Qz,Vz,e]
 have q:∀ a,Jn (Qk 0) Je Q5v [] (Jy [zl] [zo (Q7 tb),a,zl]) (tb.map Qz) st=.ok (tb.map fun r=>.int (r.getD n 0)) st:=fun a=>by
  refine Z0 _ _ (by simp) fun r J=>⟨_,rfl,?_⟩
  have B:=z.2 r J;have I:=getD_some (show n < r.length by omega) 0;have e:atI r (-1)=zo (r.getD n 0):=by
   unfold atI ixN;rw [bL (by omega),bK (by omega),B,show ((-1:Int) + ((n + 1:Nat):Int)).toNat=n by omega];exact I
  simp [Jy,Q5v,Qz,Vz,e]
 have s1:(tb.zipIdx.map fun z=>z.1.getD z.2 0).sum=Zn n fun o=>ent tb o o:=by
  rw [Qfx tb [] fun z=>z.1.getD z.2 0,z.1]; rfl
 have s2:(tb.map fun r=>r.getD n 0).sum=Zn n fun o=>ent tb o n:=by
  rw [Q8u tb [] fun r=>r.getD n 0,z.1]; rfl
 have B:tb.length<=1000000:=by rw [z.1]; omega
 unfold Q50;rw [<- s1,<- s2];unfold Q7 at j q ⊢;simp [Q15,Qr,Qcz,j,q,B,Jh,Qbr]
def Xt (n:Nat):List Int:=bR (n + 1) 0
theorem Qq5 {n:Nat} (h1:1<=n) (z:n<=8):Wt' n (bR n (Xt n)):=by
 refine ⟨by simp,fun r j=>?_,fun r j x q=>?_,h1,z⟩
 ·rw [fJ j]; simp [Xt]
 ·rw [fJ j] at q;rw [fJ q];exact bb _
def Wm (tb:List (List Int)) (i j:Nat) (x:Int):List (List Int):=tb.set i ((tb.getD i []).set j x)
theorem Kz {n i j:Nat} {tb:List (List Int)} (z:Sz n tb) (hi:i < n) (I:j<=n) (x:Int) (a b:Nat):ent (Wm tb i j x) a b=if a=i/\b=j then x else ent tb a b:=by
 unfold ent Wm;have J:=(z.row hi).2
 by_cases G:a=i
 ·subst G;rw [show (tb.set a ((tb.getD a []).set j x)).getD a []=(tb.getD a []).set j x by rw [bW,E4 (by rw [z.1]; exact hi)]; rfl]
  by_cases B:b=j
  ·subst B;rw [bK ⟨rfl,rfl⟩,bW,E4 (by omega)]; rfl
  ·rw [bL (fun q=>B q.2),bW,O6 (fun q=>B q.symm)]; rfl
 ·rw [bL (fun q=>G q.1)];rw [show (tb.set i ((tb.getD i []).set j x)).getD a []=tb.getD a [] by rw [bW,O6 (fun q=>G q.symm)]; rfl]
theorem Q39 (n i:Nat) (k:Int):Zn n (fun o=>if o=i then k else 0)=if i < n then k else 0:=by
 induction n with
 | zero=>rfl
 | succ n j=>
  rw [Jq,j]
  by_cases e:n=i
  ·subst e; simp
  ·rw [bL e]
   by_cases h:i < n
   ·rw [bK h,bK (by omega)]; omega
   ·rw [bL h,bL (by omega)]; omega
theorem Qhu {n i j:Nat} {tb:List (List Int)} (z:Sz n tb) (hi:i < n) (x:Int):Sz n (Wm tb i j x):=by
 unfold Wm;refine ⟨by rw [D7]; exact z.1,fun r q=>?_⟩;rcases dq q with q | rfl
 ·exact z.2 r q
 ·rw [D7]; exact (z.row hi).2
theorem Q3i {n i j:Nat} {tb:List (List Int)} (z:Sz n tb) (hi:i < n) (J:j<=n) (k:Int) {h:Nat} (G:h < n) :
  Qn (Wm tb i j (ent tb i j + k)) h=Qn tb h + (if h=j then k else 0) - (if h=i then k else 0) + (if h=i/\j=i then k else 0):=by
 have I:=Qhu (j:=j) z hi (ent tb i j + k);have B:∀ a b,ent (Wm tb i j (ent tb i j + k)) a b=ent tb a b + if a=i/\b=j then k else 0:=fun a b=>by
  rw [Kz z hi J]
  split
  ·rename_i q; rw [q.1,q.2]
  ·omega
 rw [Yu I G,Yu z G];have O:Zn n (fun o=>ent (Wm tb i j (ent tb i j + k)) o h)=Zn n (fun o=>ent tb o h) + if h=j then k else 0:=by
  rw [Zm (g:=fun o=>ent tb o h + if o=i then (if h=j then k else 0) else 0) fun o _=>by
   rw [B]
   by_cases q1:o=i <;> by_cases q2:h=j <;> simp [q1,q2],Q1c,Q39,bK hi]
 have U:Zn n (fun b=>ent (Wm tb i j (ent tb i j + k)) h b) + ent (Wm tb i j (ent tb i j + k)) h n=Zn n (fun b=>ent tb h b) + ent tb h n + if h=i then k else 0:=by
  rw [<- Jq,<- Jq,Zm (g:=fun b=>ent tb h b + if b=j then (if h=i then k else 0) else 0) fun b _=>by
   rw [B]
   by_cases q1:h=i <;> by_cases q2:b=j <;> simp [q1,q2],Q1c,Q39,bK (by omega)]
 rw [O,U,B]
 by_cases q1:h=i <;> by_cases q2:j=i <;> by_cases q3:h=j <;> simp [q1,q2,q3] <;> omega
structure Ca (n:Nat) (tb:List (List Int)):Prop where
 nn:∀ h,h < n->0<=Qn tb h
 bz:∀ h,h < n->V4 tb h=zb->Rc n tb h
theorem Ca.comes {n:Nat} {tb:List (List Int)} (c:Ca n tb):Q11 n tb=zb:=by
 unfold Q11 Q3j;rw [G7,F7,F7];refine ⟨fun h j=>by simp [c.nn h (F1.mp j)],fun h j=>?_⟩;have j:=F1.mp j;cases q:V4 tb h with
 | false=>simp
 | true=>rw [(Qf7 n tb j).mpr (c.bz h j q)]; rfl
theorem Rc.mono {n:Nat} {t1 t2:List (List Int)} (h:∀ a b,a < n->b < n->ent t1 a b<=ent t2 a b) {g:Nat} (r:Rc n t1 g):Rc n t2 g:=by
 induction r with
 | @made k j q=>
  refine .made j ?_;unfold Q18 at *;have:=h k k j j;simp at q;simp; omega
 | @lent o k r j B z=>
  have:=h o k r.lt j;exact .lent z j (by omega)
theorem Xx {n:Nat} {tb:List (List Int)} (w:Wt' n tb) {h:Nat} (B:h < n):V4 tb h=zb <-> ∃ j,j<=n/\j≠h/\0 < ent tb h j:=by
 rw [<- Qsx w B];unfold Qpt;rw [dJ];constructor
 ·rintro ⟨j,z,q⟩;simp at q;exact ⟨j,by have:=F1.mp z; omega,q.1,q.2⟩
 ·rintro ⟨j,z,q1,q2⟩;exact ⟨j,F1.mpr (by omega),by simp [q1,q2]⟩
theorem Ca.rc_of {n:Nat} {tb:List (List Int)} (w:Wt' n tb) (c:Ca n tb) {i:Nat} (hi:i < n) (O:1<=Qn tb i):Rc n tb i:=by
 rw [Yu w.sz hi] at O;have I:ent tb i i<=Zn n (fun j=>ent tb i j):=Qc7 (fun j J=>w.ent_nn hi (E2 J)) hi
 have U:=w.ent_nn hi (O7 n);have:∃ o,o < n/\0 < ent tb o i:=by
  refine Classical.byContradiction fun q=>?_
  have:Zn n (fun o=>ent tb o i)=Zn n fun _=>0:=Zm fun o B=>by
   have h1:=w.ent_nn B (E2 hi);have h2:¬ 0 < ent tb o i:=fun z=>q ⟨o,B,z⟩
   omega
  rw [yf] at this;omega
 obtain ⟨o,B,G⟩:=this
 by_cases e:o=i
 ·subst e;exact .made hi (by unfold Q18; simp [G])
 ·exact .lent (c.bz o B ((Xx w B).mpr ⟨i,E2 hi,fun z=>e z.symm,G⟩)) hi G
theorem Ca.make {n i:Nat} {tb:List (List Int)} (w:Wt' n tb) (c:Ca n tb) (hi:i < n) {k:Int} (O:0<=k) (J:Wt' n (Wm tb i i (ent tb i i + k))):Ca n (Wm tb i i (ent tb i i + k)):=by
 have B:∀ a b,ent tb a b<=ent (Wm tb i i (ent tb i i + k)) a b:=fun a b=>by
  rw [Kz w.sz hi (E2 hi)]
  split
  ·rename_i q; rw [q.1,q.2]; omega
  ·omega
 refine ⟨fun h z=>?_,fun h z G=>?_⟩
 ·rw [Q3i w.sz hi (E2 hi) k z];have:=c.nn h z
  by_cases q:h=i <;> simp [q] at * <;> omega
 ·obtain ⟨j,I,q1,q2⟩:=(Xx J z).mp G;rw [Kz w.sz hi (E2 hi)] at q2;rw [bL (fun q=>q1 (by omega))] at q2
  exact (c.bz h z ((Xx w z).mpr ⟨j,I,q1,q2⟩)).mono fun a b _ _=>B a b
theorem Ca.give {n i j:Nat} {tb:List (List Int)} (w:Wt' n tb) (c:Ca n tb) (hi:i < n) (O:j<=n) (I:j≠i) {k:Int} (hk:0<=k) (hr:k<=Qn tb i) (J:1<=Qn tb i) (Z:Wt' n (Wm tb i j (ent tb i j + k))):Ca n (Wm tb i j (ent tb i j + k)):=by
 have G:∀ a b,ent tb a b<=ent (Wm tb i j (ent tb i j + k)) a b:=fun a b=>by
  rw [Kz w.sz hi O]
  split
  ·rename_i q; rw [q.1,q.2]; omega
  ·omega
 refine ⟨fun h B=>?_,fun h B Y=>?_⟩
 ·rw [Q3i w.sz hi O k B];have:=c.nn h B
  by_cases q:h=i
  ·subst q;rw [bL (fun z=>I z.symm),bK rfl,bL (fun z=>I z.2)];omega
  ·by_cases q2:h=j
   ·rw [bK q2,bL q,bL (fun z=>q z.1)]; omega
   ·rw [bL q2,bL q,bL (fun z=>q z.1)]; omega
 ·by_cases q:h=i
  ·subst q;exact (c.rc_of w hi J).mono fun a b _ _=>G a b
  ·obtain ⟨b,U,q1,q2⟩:=(Xx Z B).mp Y;rw [Kz w.sz hi O,bL (fun z=>q z.1)] at q2;exact (c.bz h B ((Xx w B).mpr ⟨b,U,q1,q2⟩)).mono fun a b _ _=>G a b
theorem Ca.zero {n:Nat} (h1:1<=n) (U:n<=8) (w:Wt' n (bR n (Xt n))):Ca n (bR n (Xt n)):=by
 have B:∀ a b,a < n->b<=n->ent (bR n (Xt n)) a b=0:=fun a b O I=>by
  unfold ent Xt;rw [show (bR n (bR (n + 1) (0:Int))).getD a []=bR (n + 1) 0 by rw [bW,cU,bK O]; rfl];rw [bW,cU,bK (by omega)]; rfl
 refine ⟨fun h z=>?_,fun h z I=>?_⟩
 ·rw [Yu w.sz z,Zm (g:=fun _=>0) fun o G=>B o h G (E2 z),Zm (f:=fun j=>ent (bR n (Xt n)) h j) (g:=fun _=>0) fun o G=>B h o z (E2 G),yf,B h n z (O7 n),B h h z (E2 z)]
  omega
 ·obtain ⟨j,J,_,q⟩:=(Xx w z).mp I;rw [B h j z J] at q;omega
theorem Qdc {n:Nat} {tb:List (List Int)} (w:Wt' n tb) (st:Q2):Zq [Q7 tb] st=.ok (.bl (Q11 n tb)) st:=by
 have q:=w.n8;obtain ⟨s,v,e,hs⟩:=Qbv w.sz (by omega) st;have j:=Qfa w st;rw [<- hs];generalize Q7 tb=T at *;simp -implicitDefEqProofs [Zq,Qr,Uh,j,e,atI,ixN]
theorem Wt'.set0 {n i j:Nat} {tb:List (List Int)} (w:Wt' n tb) (hi:i < n) {x:Int} (I:0<=x):Wt' n (tb.set i ((tb.getD i []).set j x)):=by
 have J:=(w.sz.row hi).1;have G:=D5 J;generalize tb.getD i []=r at *;refine ⟨by rw [D7]; exact w.len,fun q z=>?_,fun q z y B=>?_,w.n1,w.n8⟩
 ·rcases dq z with z | rfl
  ·exact w.row q z
  ·rw [D7]; exact w.row r G
 ·rcases dq z with z | rfl
  ·exact w.nn q z y B
  ·rcases dq B with B | rfl
   ·exact w.nn r G y B
   ·exact I
theorem Q71 {α:Type} (xs:List α) (i:Nat) (x:α) (h:i < xs.length):xs.take i ++ [x] ++ xs.drop (i + 1)=xs.set i x:=by
 rw [List.set_eq_take_append_cons_drop,bK h,cC]; rfl
theorem Qbd {n i j:Nat} {tb:List (List Int)} (z:Sz n tb) (hn:n<=100) (hi:i < n) (hj:j<=n) (k:Int) (st:Q2):js [Q7 tb,.int i,.int j,.int k] st=.ok (Q7 (Wm tb i j (ent tb i j + k))) st:=by
 have c0:=Uw z hi hj st;have q:=(z.row hi).2;have O:Qz ((tb.getD i []).set j (ent tb i j + k))=.tup (((tb.getD i []).take j).map .int ++ [.int (ent tb i j + k)] ++ ((tb.getD i []).drop (j + 1)).map .int):=by
  unfold Qz;rw [<- Q71 _ _ _ (by omega),F4,F4]; rfl
 have g2:Q7 (Wm tb i j (ent tb i j + k))=.tup ((tb.take i).map Qz ++ [Qz ((tb.getD i []).set j (ent tb i j + k))] ++ (tb.drop (i + 1)).map Qz):=by
  unfold Q7 Wm;rw [<- Q71 _ _ _ (by rw [z.1]; exact hi),F4,F4]; rfl
 have c3:cut ((tb.getD i []).map PV.int) zl (zo (j:Int))=((tb.getD i []).take j).map .int:=by rw [qc,Q2r]
 have Z:cut ((tb.getD i []).map PV.int) (zo ((j:Int) + 1)) zl=((tb.getD i []).drop (j + 1)).map .int:=by rw [qc]; exact congrArg _ (x8 _ (j + 1))
 have U:cut (tb.map Qz) zl (zo (i:Int))=(tb.take i).map Qz:=by rw [qc,Q2r]
 have Y:cut (tb.map Qz) (zo ((i:Int) + 1)) zl=(tb.drop (i + 1)).map Qz:=by rw [qc]; exact congrArg _ (x8 _ (i + 1))
 have l3:(((tb.getD i []).take j).map PV.int).length=j:=by rw [O2,cS,q]; omega
 have l4:(((tb.getD i []).drop (j + 1)).map PV.int).length=n - j:=by rw [O2,cV,q]; omega
 have l5:((tb.take i).map Qz).length=i:=by rw [O2,cS,z.1]; omega
 have l6:((tb.drop (i + 1)).map Qz).length=n - (i + 1):=by rw [O2,cV,z.1]
 have J:j + 1<=1000000:=by omega
 have b2:j + 1 + (n - j)<=1000000:=by omega
 have b3:i + 1<=1000000:=by omega
 have I:i + 1 + (n - (i + 1))<=1000000:=by omega
 have B:fin st (Q7 (Wm tb i j (ent tb i j + k))) st=.ok (Q7 (Wm tb i j (ent tb i j + k))) st:=Yq (by simp [Jz,Q7,Qz]);obtain ⟨G,c2⟩:=c0;have q1:oSl st (Qz (tb.getD i [])) zl (zo (j:Int))=.ok (.tup (((tb.getD i []).take j).map .int)) st:=by unfold Qz; rw [jw,c3]
 have q2:oSl st (Qz (tb.getD i [])) (zo ((j:Int) + 1)) zl=.ok (.tup (((tb.getD i []).drop (j + 1)).map .int)) st:=by unfold Qz; rw [jw,Z]
 have q3:oSl st (Q7 tb) zl (zo (i:Int))=.ok (.tup ((tb.take i).map Qz)) st:=by unfold Q7; rw [jw,U]
 have q4:oSl st (Q7 tb) (zo ((i:Int) + 1)) zl=.ok (.tup ((tb.drop (i + 1)).map Qz)) st:=by unfold Q7; rw [jw,Y]
 rw [g2] at B ⊢;rw [O] at B ⊢;generalize ent tb i j=x at *;generalize ((tb.getD i []).take j).map PV.int=v3 at *;generalize ((tb.getD i []).drop (j + 1)).map PV.int=v4 at *;generalize (tb.take i).map Qz=v5 at *;generalize (tb.drop (i + 1)).map Qz=v6 at *;generalize Qz (tb.getD i [])=rv at *;generalize Q7 tb=T at *;simp -implicitDefEqProofs at B;simp -implicitDefEqProofs [js,Qr,Q8w,G,c2,q1,q2,q3,q4,Jh,l3,l4,l5,l6,J,b2,b3,I,B]
inductive Dd where
 | mk (h:Nat) (k:Int)
 | ld (h q:Nat) (k:Int)
 | us (h:Nat) (k:Int)
def Dd.h:Dd->Nat
 | .mk h _=>h
 | .ld h _ _=>h
 | .us h _=>h
def Dd.k:Dd->Int
 | .mk _ k=>k
 | .ld _ _ k=>k
 | .us _ k=>k
def Dd.pl (n:Nat):Dd->Nat
 | .mk h _=>h
 | .ld _ q _=>q
 | .us _ _=>n
def Dd.isM:Dd->Bool
 | .mk _ _=>zb
 | _=>za
def Dd.V:Dd->PV
 | .mk h k=>.tup [.str "make",.int h,.int k]
 | .ld h q k=>.tup [.str "lend",.int h,.int q,.int k]
 | .us h k=>.tup [.str "use",.int h,.int k]
def Dd.ok (n:Nat):Dd->Prop
 | .mk h k=>h < n/\1<=k
 | .ld h q k=>h < n/\q < n/\q≠h/\1<=k
 | .us h k=>h < n/\1<=k
theorem Dd.ok_h {n:Nat} {d:Dd} (o:d.ok n):d.h < n:=by cases d <;> exact o.1
theorem Dd.ok_k {n:Nat} {d:Dd} (o:d.ok n):1<=d.k:=by
 cases d with
 | mk h k=>exact o.2
 | ld h q k=>exact o.2.2.2
 | us h k=>exact o.2
theorem Dd.ok_pl {n:Nat} {d:Dd} (o:d.ok n):d.pl n<=n:=by
 cases d with
 | mk h k=>exact E2 o.1
 | ld h q k=>exact E2 o.2.1
 | us h k=>exact O7 n
theorem Wq (x:Str) (ns:List Int) (O:ns.length<=100) (st:Q2):Qp [.tup (.str x :: ns.map .int)] st=.ok (.bl zb) st:=by
 have z:cut (PV.str x :: ns.map .int) (zo 1) zl=ns.map .int:=x8 _ 1;have q:Jn (Qk 0) Je W1 [] (Jy [zl] [zo (.tup (.str x :: ns.map .int))]) (ns.map .int) st=.ok (ns.map fun _=>.bl zb) st:=by
  refine Z0 _ _ (by simp) fun i _=>⟨_,rfl,?_⟩
  simp [Jy,W1,Q0v]
 have e:(ns.map fun _=>PV.bl zb)=(ns.map fun _=>zb).map PV.bl:=by rw [G6]; rfl
 have B:(ns.map fun _=>zb).all id=zb:=by simp
 have a0:atI (PV.str x :: ns.map .int) 0=zo (.str x):=Sm.atI_get (show (PV.str x :: ns.map .int)[0]?=zo (.str x) from rfl);have j:(ns.map PV.int).length<=1000000:=by rw [O2]; omega
 rw [e] at q;have I:isI "tuple" (.tup (.str x :: ns.map .int))=zb:=rfl;have G:isI "str" (.str x)=zb:=rfl;have hz:¬ (((ns.map PV.int).length:Int) + 1=0):=by omega
 generalize (ns.map fun _=>zb)=bs at *;generalize ns.map PV.int=J at *;simp -implicitDefEqProofs [Qp,Qr,Wp,I,G,a0,z,q,B,Jh,j,hz,-G7]
theorem Qud:¬ (bP "make" = bP "lend"):=by decide
theorem Qg5:¬ (bP "lend" = bP "make"):=by decide
theorem Qg3:¬ (bP "use" = bP "make"):=by decide
theorem Qg4:¬ (bP "use" = bP "lend"):=by decide
theorem Q9b {n:Nat} {d:Dd} (o:d.ok n) (st:Q2):Y2 [d.V] st=.ok (.bl zb) st:=by
 have j:=Dd.ok_k o;cases d with
 | mk h k=>
  have t:=Wq "make" [h,k] (by simp) st;have a0:atI [PV.str "make",.int h,.int k] 0=zo (.str "make"):=rfl;have a1:atI [PV.str "make",.int h,.int k] (-1)=zo (.int k):=rfl;have j:(1:Int)<=k:=j;have t:Qp [.tup [.str "make",.int h,.int k]] st=.ok (.bl zb) st:=t;unfold Dd.V;simp -implicitDefEqProofs [Y2,Qr,V9,t,a0,a1,j]
 | ld h q k=>
  have t:=Wq "lend" [h,q,k] (by simp) st;have a0:atI [PV.str "lend",.int h,.int q,.int k] 0=zo (.str "lend"):=rfl;have a1:atI [PV.str "lend",.int h,.int q,.int k] (-1)=zo (.int k):=rfl;have j:(1:Int)<=k:=j;have t:Qp [.tup [.str "lend",.int h,.int q,.int k]] st=.ok (.bl zb) st:=t;unfold Dd.V;simp -implicitDefEqProofs [Y2,Qr,V9,t,a0,a1,j,Qg5]
 | us h k=>
  have t:=Wq "use" [h,k] (by simp) st;have a0:atI [PV.str "use",.int h,.int k] 0=zo (.str "use"):=rfl;have a1:atI [PV.str "use",.int h,.int k] (-1)=zo (.int k):=rfl;have j:(1:Int)<=k:=j;have t:Qp [.tup [.str "use",.int h,.int k]] st=.ok (.bl zb) st:=t;unfold Dd.V;simp -implicitDefEqProofs [Y2,Qr,V9,t,a0,a1,j,Qg3,Qg4]
theorem Qem {n:Nat} {tb:List (List Int)} (J:tb.length=n) {d:Dd} (o:d.ok n) (st:Q2):Jj [Q7 tb,d.V] st=.ok .non st:=by
 have I:x9 (fun ns=>.bl (ns.all id)) st [.lst [.bl zb]]=.ok (.bl zb) st:=Q9r _ st [zb]
 have B:x9 (fun ns=>.bl (ns.all id)) st [.lst [.bl zb,.bl zb]]=.ok (.bl zb) st:=Q9r _ st [zb,zb]
 have z:∀ i:Nat,i < n->Z7 [Q7 tb,.int i] st=.ok (.bl zb) st:=fun i hi=>by
  have:=Q22 (V:=Q7 tb) (n:=n) (st:=st) (by simp [Q7,J]) (i:Int);rw [show (decide ((0:Int)<=(i:Int)) && decide ((i:Int) < (n:Int)))=zb by simp; omega] at this;exact this
 cases d with
 | mk h k=>
  have e:=z h o.1;have s1:cut [PV.str "make",.int h,.int k] (zo 1) (zo (-1))=[.int h]:=rfl;have a0:atI [PV.str "make",.int h,.int k] 0=zo (.str "make"):=rfl;unfold Dd.V;generalize Q7 tb=T at *;simp -implicitDefEqProofs [Jj,Qr,Zu,s1,a0,Jn,Qk,Je,Jy,Y0,I,B,e,Jh,Qud]
 | ld h q k=>
  have e:=z h o.1;have e2:=z q o.2.1;have s1:cut [PV.str "lend",.int h,.int q,.int k] (zo 1) (zo (-1))=[.int h,.int q]:=rfl;have a0:atI [PV.str "lend",.int h,.int q,.int k] 0=zo (.str "lend"):=rfl;have a1:atI [PV.int (h:Int),.int q] 0=zo (.int h):=rfl;have O:atI [PV.int (h:Int),.int q] 1=zo (.int q):=rfl;have G:((h:Int) == (q:Int))=za:=by rw [beq_eq_false_iff_ne]; have:=o.2.2.1; omega
  have j:¬ ((h:Int)=(q:Int)):=by have:=o.2.2.1; omega
  unfold Dd.V;generalize Q7 tb=T at *;simp -implicitDefEqProofs [Jj,Qr,Zu,s1,a0,a1,O,Jn,Qk,Je,Jy,Y0,I,B,e,e2,Jh,G,j]
 | us h k=>
  have e:=z h o.1;have s1:cut [PV.str "use",.int h,.int k] (zo 1) (zo (-1))=[.int h]:=rfl;have a0:atI [PV.str "use",.int h,.int k] 0=zo (.str "use"):=rfl;unfold Dd.V;generalize Q7 tb=T at *;simp -implicitDefEqProofs [Jj,Qr,Zu,s1,a0,Jn,Qk,Je,Jy,Y0,I,B,e,Jh,Qg4]
theorem Qmx {n:Nat} {tb:List (List Int)} (j:tb.length=n) {d:Dd} (o:d.ok n) (st:Q2):Yd [Q7 tb,d.V] st=.ok (.int (d.pl n)) st:=by
 cases d with
 | mk h k=>
  have a0:atI [PV.str "make",.int h,.int k] 0=zo (.str "make"):=rfl;have a1:atI [PV.str "make",.int h,.int k] 1=zo (.int h):=rfl;unfold Dd.V Dd.pl;generalize Q7 tb=T at *;simp -implicitDefEqProofs [Yd,Qr,V1,a0,a1]
 | ld h q k=>
  have a0:atI [PV.str "lend",.int h,.int q,.int k] 0=zo (.str "lend"):=rfl;have a1:atI [PV.str "lend",.int h,.int q,.int k] 2=zo (.int q):=rfl;unfold Dd.V Dd.pl;generalize Q7 tb=T at *;simp -implicitDefEqProofs [Yd,Qr,V1,a0,a1,Qg5]
 | us h k=>
  have a0:atI [PV.str "use",.int h,.int k] 0=zo (.str "use"):=rfl;have z:(tb.map Qz).length=n:=by rw [O2]; exact j
  unfold Dd.V Dd.pl Q7;generalize tb.map Qz=T at *;simp -implicitDefEqProofs [Yd,Qr,V1,a0,z,Qg3,Qg4]
def Dd.fits (tb:List (List Int)) (d:Dd):Bool:=d.isM || decide (d.k<=Qn tb d.h)
def Dd.put (n:Nat) (tb:List (List Int)) (d:Dd):List (List Int):=Wm tb d.h (d.pl n) (ent tb d.h (d.pl n) + d.k)
theorem Dd.a0 (d:Dd) (st:Q2):∃ w:Str,oIx st d.V (.int 0)=.ok (.str w) st/\(w = "make" <-> d.isM=zb):=by
 cases d with
 | mk h k=>exact ⟨"make",rfl,by simp [Dd.isM]⟩
 | ld h q k=>exact ⟨"lend",rfl,by simp [Dd.isM,Qg5]⟩
 | us h k=>exact ⟨"use",rfl,by simp [Dd.isM,Qg3]⟩
theorem Dd.a1 (d:Dd) (st:Q2):oIx st d.V (.int 1)=.ok (.int d.h) st:=by cases d <;> rfl
theorem Dd.al (d:Dd) (st:Q2):oIx st d.V (.int (-1))=.ok (.int d.k) st:=by cases d <;> rfl
theorem Qdb {n:Nat} {tb:List (List Int)} (w:Wt' n tb) {d:Dd} (o:d.ok n) (st:Q2):jv [Q7 tb,d.V] st=if d.fits tb=zb then .ok (Q7 (d.put n tb)) st else .exc ⟨"Short",zo ("had",.int (Qn tb d.h))⟩ st:=by
 have h8:=w.n8;have e1:=Q9b o st;have e2:=Qem w.len o st;have e3:=Q2e w.sz (by omega) (Dd.ok_h o) st;have Z:=Qmx w.len o st;have e5:=Qbd w.sz (by omega) (Dd.ok_h o) (Dd.ok_pl o) d.k st;obtain ⟨x,J,B⟩:=d.a0 st;have O:=d.a1 st;have U:=d.al st;have a2:st <+: st:=cb _;have hf:fin st (Q7 (d.put n tb)) st=.ok (Q7 (d.put n tb)) st:=Yq (by simp [Jz,Q7,Qz]);have G:Qp6 st ⟨"Short",zo ("had",.int (Qn tb d.h))⟩ st=.exc ⟨"Short",zo ("had",.int (Qn tb d.h))⟩ st:=by simp [Qp6,fz]
 unfold Dd.put Dd.fits at *;generalize Q7 (Wm tb d.h (d.pl n) (ent tb d.h (d.pl n) + d.k))=V2 at *;generalize Qn tb d.h=r at *;generalize Q7 tb=T at *;generalize d.V=DV at *;generalize (d.pl n:Int)=pl at *;generalize d.k=k at *;cases I:d.isM with
 | true=>
  have B:x = "make" := B.mpr I;subst B;simp -implicitDefEqProofs [jv,Qr,Q90,e1,e2,Z,e5,J,O,U,hf]
 | false=>
  have q:¬ x = "make" := fun z=>by rw [B.mp z] at I; cases I
  by_cases Y:k<=r
  ·have j:¬ r < k:=by omega
   simp -implicitDefEqProofs [jv,Qr,Q90,e1,e2,e3,Z,e5,J,O,U,hf,q,Y,j]
  ·have j:r < k:=by omega
   simp -implicitDefEqProofs [jv,Qr,Q90,e1,e2,e3,J,O,U,G,q,Y,j]
theorem Qi {a b:MS} {Γ Γ1:Gam} {S S1:Q2} {r:SR} (h1:a Γ S=.nx Γ1 S1) (h2:b Γ1 S1=r):Qq a b Γ S=r:=by rw [Qf0,h1]; exact h2
theorem J6 {i:Nat} {m:ME} {Γ:Gam} {S S1:Q2} {v:PV} (h:m Γ S=.ok v S1):J8 i m Γ S=.nx (Γ.set i (zo v)) S1:=by rw [Qs4,h]; rfl
theorem Qt {n:Nat} {F:FN} {mr:ML} {Γ:Gam} {S S1 j:Q2} {ps:List PV} {v:PV} (h1:mr Γ S=.ok ps S1) (h2:ps.length=n) (q:F ps S1=.ok v j):Qg n F mr Γ S=.ok v j:=by rw [Qbj,h1,Jc,bK h2,q]
theorem Qf {o:OP} {a b:ME} {Γ:Gam} {S S1 q j:Q2} {x y v:PV} (h1:a Γ S=.ok x S1) (h2:b Γ S1=.ok y q) (z:o q x y=.ok v j):mOp o a b Γ S=.ok v j:=by rw [Qvw,h1,Jc,h2,Jc,z]
theorem Q5 {m:ME} {mr:ML} {Γ:Gam} {S S1 j:Q2} {p:PV} {ps:List PV} (h1:m Γ S=.ok p S1) (h2:mr Γ S1=.ok ps j):Q3 m mr Γ S=.ok (p :: ps) j:=by rw [Qnq,h1,Jc,h2,Jc]
theorem V5 {o:CF} {mr:ML} {Γ:Gam} {S S1 j:Q2} {ps:List PV} {v:PV} (h1:mr Γ S=.ok ps S1) (h2:o S1 ps=.ok v j):J3 o mr Γ S=.ok v j:=by rw [Qnr,h1,Jc,h2]
theorem y8 {ga:GA} {mi:MI} {b:MS} {Γ:Gam} {S S1:Q2} {xs:List PV} {w:Wt} {r:SR} (h1:mi Γ S=.ok (xs,w) S1) (h2:yu ga b w xs Γ S1=r):Q3u ga mi b Γ S=r:=by rw [Qs6,h1]; exact h2
theorem jd {c:MT} {a b:MS} {Γ:Gam} {S S1:Q2} {r:SR} (h1:c Γ S=.ok zb S1) (h2:a Γ S1=r):Z8 c a b Γ S=r:=by rw [Qi8,h1]; exact h2
theorem Yh {c:MT} {a b:MS} {Γ:Gam} {S S1:Q2} {r:SR} (h1:c Γ S=.ok za S1) (h2:b Γ S1=r):Z8 c a b Γ S=r:=by rw [Qi8,h1]; exact h2
theorem Qwn {ga:GA} {m:ME} {Γ Γ1:Gam} {S S1:Q2} {p:PV} (h1:m Γ S=.ok p S1) (h2:ga p Γ=zo Γ1):Qns ga m Γ S=.nx Γ1 S1:=by rw [Qs8,h1]; show (match ga p Γ with | some Γ1=>SR.nx Γ1 S1 | none=>.stuck)=_; rw [h2]
theorem Q7r {m:ME} {Γ:Gam} {S S1:Q2} {p:PV} {xs:List PV} {w:Wt} (h1:m Γ S=.ok p S1) (h2:Ws S1 p=zo (xs,w)) (j:xs.length<=1000000):U9 m Γ S=.ok (xs,w) S1:=by rw [Qs5,h1,Jc,h2]; exact bK j
theorem zf {m:ML} {Γ:Gam} {S S1:Q2} {ps:List PV} (h:m Γ S=.ok ps S1):W6 m Γ S=.ok (.lst ps) S1:=by rw [Qs1,h,Jc]
theorem Vb {cap:List (Option Nat)} {ga:GA} {mi:MI} {mt:MT} {me:ME} {Γ:Gam} {S S1 j:Q2} {xs ys:List PV} {w:Wt} (h1:mi Γ S=.ok (xs,w) S1) (h2:Jn ga mt me w (Jy cap Γ) xs S1=.ok ys j):Jt cap ga mi mt me Γ S=.ok ys j:=by rw [Qk2,h1,Jc,h2]; rfl
theorem zg {m:ML} {Γ:Gam} {S S1:Q2} {ps:List PV} (h:m Γ S=.ok ps S1):Q0r m Γ S=.ok (.ref S1.length) (S1 ++ [.lst ps]):=by rw [Qs3,h,Jc]
theorem Qgp {t:MT} {Γ:Gam} {S S1:Q2} {b:Bool} (h:t Γ S=.ok b S1):Vi t Γ S=.ok (!b) S1:=by rw [Qmb,h,Jc]
theorem J5 {m:ME} {Γ:Gam} {S S1:Q2} {b:Bool} (h:m Γ S=.ok (.bl b) S1):toB m Γ S=.ok b S1:=by rw [Qu7,h]; rfl
theorem Q7u {mo mi m:ME} {Γ:Gam} {S S1 q z j:Q2} {p o i:PV} (h1:m Γ S=.ok p S1) (h2:mo Γ S1=.ok o q) (B:mi Γ q=.ok i z) (G:Q1e z o i p=zo j):Q0s mo mi m Γ S=.nx Γ j:=by
 rw [Qk0,h1,Wz,h2,Wz,B,Wz,G]
theorem Q42 {f:MF} {mo:ME} {mr:ML} {Γ:Gam} {S S1 j q:Q2} {p v:PV} {xs ps:List PV} (h1:mo Γ S=.ok p S1) (h2:Q0t S1 p=zo xs) (z:mr Γ S1=.ok ps j) (B:f j p ps=.ok v q):Y6 (mBM f mo mr) Γ S=.nx Γ q:=by
 rw [Q92,Qvz,h1,Jc];simp only [h2];rw [z,Jc,B,Wz]
theorem Q26 {m:ME} {Γ:Gam} {S S1:Q2} {v:PV} (h:m Γ S=.ok v S1):Y6 m Γ S=.nx Γ S1:=by rw [Q92,h]; rfl
theorem Qya {a b:MT} {Γ:Gam} {S S1:Q2} (h:a Γ S=.ok zb S1):yg a b Γ S=.ok zb S1:=by rw [Qhp,h]; rfl
theorem Qcn {a b:MT} {Γ:Gam} {S S1:Q2} {r:Res Bool} (h:a Γ S=.ok za S1) (h2:b Γ S1=r):yg a b Γ S=r:=by rw [Qhp,h]; exact h2
theorem K2 {a b:MS} {Γ:Gam} {S S1:Q2} {v:PV} (h:a Γ S=.rt v S1):Qq a b Γ S=.rt v S1:=by rw [Qf0,h]
theorem U1 {mr:ML} {Γ:Gam} {S S1:Q2} {ps:List PV} (h1:mr Γ S=.ok ps S1) (h2:ps.length<=1000000):Va mr Γ S=.ok (.tup ps) S1:=by rw [Qs2,h1,Jc]; exact bK h2
theorem Qpj {n:Nat} {F:FN} {mr:ML} {Γ:Gam} {S S1 j:Q2} {ps:List PV} {x:Exc} (h1:mr Γ S=.ok ps S1) (h2:ps.length=n) (q:F ps S1=.exc x j):Qg n F mr Γ S=.exc x j:=by rw [Qbj,h1,Jc,bK h2,q]
theorem Q5h {C:aA} {S:Q2} {i:Nat} {fs:List (Str × PV)} (h:S[i]?=zo (.obj C fs)):Q35 C S (.ref i)=zo (i,fs):=by
 unfold Q35;simp only [h,if_true]
theorem Kc {C:aA} {f:Str} {mo:ME} {Γ:Gam} {S:Q2} {i:Nat} {fs:List (Str × PV)} {q:PV} (h1:mo Γ S=.ok (.ref i) S) (h2:S[i]?=zo (.obj C fs)) (j:fs.lookup f=zo q):Wb C f mo Γ S=.ok q S:=by
 rw [Qs7,h1,Jc,Q5h h2];simp only [j]
theorem Km {C:aA} {f:Str} {mo m:ME} {Γ:Gam} {S S1:Q2} {i:Nat} {fs:List (Str × PV)} {p:PV} (h1:m Γ S=.ok p S1) (h2:mo Γ S1=.ok (.ref i) S1) (q:S1[i]?=zo (.obj C fs)) (j:fs.length < 1000):yq C f mo m Γ S=.nx Γ (S1.set i (.obj C (ym f p fs))):=by
 rw [Qf1,h1,Wz,h2,Wz,Q5h q];exact bK j
theorem Qg6 {C:aA} {f:Str} {mo m:ME} {Γ:Gam} {S S1:Q2} {x:Exc} (h1:m Γ S=.exc x S1):yq C f mo m Γ S=.exc x S1:=by
 rw [Qf1,h1]; rfl
theorem jy {C:aA} {x:Str} {n:Nat} {F:FN} {mo:ME} {mr:ML} {Γ:Gam} {S S1:Q2} {i:Nat} {fs:List (Str × PV)} {ps:List PV} (h1:mo Γ S=.ok (.ref i) S) (h2:S[i]?=zo (.obj C fs)) (z:fs.lookup x=zl) (j:mr Γ S=.ok ps S1) (q:ps.length + 1=n):yr C x n F mo mr Γ S=F (.ref i :: ps) S1:=by
 rw [Qnn,h1,Jc,Q5h h2];simp only [z,if_true];rw [j,Jc,bK q]
def hsF (h:Nat) (now last:List (List Int)):List (Str × PV):=[("number",.int h),("now",Q7 now),("kept",Q7 last)]
theorem s1:((bP "now") == (bP "number"))=za:=by decide +kernel
theorem s2:((bP "kept") == (bP "number"))=za:=by decide +kernel
theorem s3:((bP "kept") == (bP "now"))=za:=by decide +kernel
theorem s1':¬ (bP "number" = bP "now"):=by decide +kernel
theorem s2':¬ (bP "number" = bP "kept"):=by decide +kernel
theorem s3':¬ (bP "now" = bP "kept"):=by decide +kernel
theorem Q2j (h:Nat) (a b:List (List Int)):(hsF h a b).lookup (bP "number")=zo (.int h):=by unfold hsF; rw [E3,beq_self_eq_true]
theorem Q5r (h:Nat) (a b:List (List Int)):(hsF h a b).lookup (bP "now")=zo (Q7 a):=by unfold hsF; rw [E3,s1,E3,beq_self_eq_true]
theorem Qif (h:Nat) (a b:List (List Int)):(hsF h a b).lookup (bP "kept")=zo (Q7 b):=by unfold hsF; rw [E3,s2,E3,s3,E3,beq_self_eq_true]
theorem Q4c (h:Nat) (a b c:List (List Int)):ym "now" (Q7 c) (hsF h a b)=hsF h c b:=by
 unfold hsF;rw [ym,bL s1',ym,bK rfl]
theorem Qmq (h:Nat) (a b c:List (List Int)):ym "kept" (Q7 c) (hsF h a b)=hsF h a c:=by
 unfold hsF;rw [ym,bL s2',ym,bL s3',ym,bK rfl]
theorem Q5s (h:Nat) (a b:List (List Int)):(hsF h a b).length < 1000:=by unfold hsF; simp
theorem z9 {x:Str} (h1:(x == (bP "number"))=za) (h2:(x == (bP "now"))=za) (j:(x == (bP "kept"))=za) (h:Nat) (a b:List (List Int)):(hsF h a b).lookup x=zl:=by
 unfold hsF;rw [E3,h1,E3,h2,E3,j]; rfl
section
variable {C:aA} {S:Q2} {i h n:Nat} {now last:List (List Int)}
def Q6k (C:aA) (S:Q2) (i n:Nat) (now last:List (List Int)) (d:Dd):Res PV:=if d.fits now=zb then .ok .non (S.set i (.obj C (hsF d.h (d.put n now) last))) else .exc ⟨"Short",zo ("had",.int (Qn now d.h))⟩ S
theorem Qrz (j:S[i]?=zo (.obj C (hsF h now last))) (w:Wt' n now) {k:Int} (o:(Dd.mk h k).ok n):X3 C [.ref i,.int k] S=Q6k C S i n now last (.mk h k):=by
 have e:=Qdb w o S;have B:(Wb C "now" (Q4 0)) [zo (.ref i),zo (.int k)] S=.ok (Q7 now) S:=Kc rfl j (Q5r _ _ _);have G:(Wb C "number" (Q4 0)) [zo (.ref i),zo (.int k)] S=.ok (.int h) S:=Kc rfl j (Q2j _ _ _);have z:(Q3 (Wb C "now" (Q4 0)) (Q3 (Va (Q3 (mC (.str "make")) (Q3 (Wb C "number" (Q4 0)) (Q3 (Q4 1) Q8)))) Q8)) [zo (.ref i),zo (.int k)] S=.ok [Q7 now,(Dd.mk h k).V] S:=Q5 B (Q5 (U1 (Q5 rfl (Q5 G rfl)) (by simp)) rfl);unfold Q6k;show Zs (Ks C) 2 _ S=_;unfold Zs;rw [show (([.ref i,.int k]:List PV).map zo ++ bR (2 - [PV.ref i,.int k].length) zl)=[zo (.ref i),zo (.int k)] from rfl];unfold Ks
 by_cases q:(Dd.mk h k).fits now=zb
 ·rw [bK q] at e ⊢;rw [Km (Qt (n:=2) z rfl e) rfl j (Q5s _ _ _),Q4c]; rfl
 ·rw [bL q] at e ⊢;rw [Qg6 (Qpj (n:=2) z rfl e)]
theorem Qsa (j:S[i]?=zo (.obj C (hsF h now last))) (w:Wt' n now) {t:Nat} {k:Int} (o:(Dd.ld h t k).ok n):X4 C [.ref i,.int t,.int k] S=Q6k C S i n now last (.ld h t k):=by
 have e:=Qdb w o S;have B:(Wb C "now" (Q4 0)) [zo (.ref i),zo (.int t),zo (.int k)] S=.ok (Q7 now) S:=Kc rfl j (Q5r _ _ _);have G:(Wb C "number" (Q4 0)) [zo (.ref i),zo (.int t),zo (.int k)] S=.ok (.int h) S:=Kc rfl j (Q2j _ _ _);have z:(Q3 (Wb C "now" (Q4 0)) (Q3 (Va (Q3 (mC (.str "lend")) (Q3 (Wb C "number" (Q4 0)) (Q3 (Q4 1) (Q3 (Q4 2) Q8))))) Q8)) [zo (.ref i),zo (.int t),zo (.int k)] S=.ok [Q7 now,(Dd.ld h t k).V] S:=Q5 B (Q5 (U1 (Q5 rfl (Q5 G rfl)) (by simp)) rfl);unfold Q6k;show Zs (Kt C) 3 _ S=_;unfold Zs;rw [show (([.ref i,.int t,.int k]:List PV).map zo ++ bR (3 - [PV.ref i,.int t,.int k].length) zl)=[zo (.ref i),zo (.int t),zo (.int k)] from rfl];unfold Kt
 by_cases q:(Dd.ld h t k).fits now=zb
 ·rw [bK q] at e ⊢;rw [Km (Qt (n:=2) z rfl e) rfl j (Q5s _ _ _),Q4c]; rfl
 ·rw [bL q] at e ⊢;rw [Qg6 (Qpj (n:=2) z rfl e)]
theorem Qu1 (j:S[i]?=zo (.obj C (hsF h now last))) (w:Wt' n now) {k:Int} (o:(Dd.us h k).ok n):K0 C [.ref i,.int k] S=Q6k C S i n now last (.us h k):=by
 have e:=Qdb w o S;have B:(Wb C "now" (Q4 0)) [zo (.ref i),zo (.int k)] S=.ok (Q7 now) S:=Kc rfl j (Q5r _ _ _);have G:(Wb C "number" (Q4 0)) [zo (.ref i),zo (.int k)] S=.ok (.int h) S:=Kc rfl j (Q2j _ _ _);have z:(Q3 (Wb C "now" (Q4 0)) (Q3 (Va (Q3 (mC (.str "use")) (Q3 (Wb C "number" (Q4 0)) (Q3 (Q4 1) Q8)))) Q8)) [zo (.ref i),zo (.int k)] S=.ok [Q7 now,(Dd.us h k).V] S:=Q5 B (Q5 (U1 (Q5 rfl (Q5 G rfl)) (by simp)) rfl);unfold Q6k;show Zs (jz C) 2 _ S=_;unfold Zs;rw [show (([.ref i,.int k]:List PV).map zo ++ bR (2 - [PV.ref i,.int k].length) zl)=[zo (.ref i),zo (.int k)] from rfl];unfold jz
 by_cases q:(Dd.us h k).fits now=zb
 ·rw [bK q] at e ⊢;rw [Km (Qt (n:=2) z rfl e) rfl j (Q5s _ _ _),Q4c]; rfl
 ·rw [bL q] at e ⊢;rw [Qg6 (Qpj (n:=2) z rfl e)]
theorem Qsf (j:S[i]?=zo (.obj C (hsF h now last))):X5 C [.ref i] S=.ok .non (S.set i (.obj C (hsF h now now))):=by
 show Zs (Ku C) 1 _ S=_;unfold Zs Ku;rw [show (([.ref i]:List PV).map zo ++ bR (1 - [PV.ref i].length) zl)=[zo (.ref i)] from rfl,Km (Kc rfl j (Q5r _ _ _)) rfl j (Q5s _ _ _),Qmq]
theorem Qsn (j:S[i]?=zo (.obj C (hsF h now last))):X6 C [.ref i] S=.ok .non (S.set i (.obj C (hsF h last last))):=by
 show Zs (Kv C) 1 _ S=_;unfold Zs Kv;rw [show (([.ref i]:List PV).map zo ++ bR (1 - [PV.ref i].length) zl)=[zo (.ref i)] from rfl,Km (Kc rfl j (Qif _ _ _)) rfl j (Q5s _ _ _),Q4c]
theorem Qd8 (S:Q2) (a:List (List Int)):fin S (Q7 a) S=.ok (Q7 a) S:=Yq (by simp [Jz,Q7,Qz])
theorem Qk4 (j:S[i]?=zo (.obj C (hsF h now last))):W3 C [.ref i] S=.ok (Q7 last) S:=by
 show Qr (Ui C) 1 _ S=_;unfold Qr Ui;rw [show (([.ref i]:List PV).map zo ++ bR (1 - [PV.ref i].length) zl)=[zo (.ref i)] from rfl,Q4m,Kc rfl j (Qif _ _ _)];exact Qd8 S last
theorem Qma (j:S[i]?=zo (.obj C (hsF h now last))):Vv C [.ref i] S=.ok (Q7 now) S:=by
 show Qr (Xr C) 1 _ S=_;unfold Qr Xr;rw [show (([.ref i]:List PV).map zo ++ bR (1 - [PV.ref i].length) zl)=[zo (.ref i)] from rfl,Q4m,Kc rfl j (Q5r _ _ _)];exact Qd8 S now
end
theorem Qst {C:aA} {S:Q2} {i h n:Nat} {now last L:List (List Int)} (z:S[i]?=zo (.obj C (hsF h now last))) (w:Wt' n now) (q:Wt' n L) (O:h < n) (G:Q61 (L.getD h []) (now.getD h [])=zb):X7 C [.ref i,Q7 L] S=.ok .non (S.set i (.obj C (hsF h (Zi now L) last))):=by
 have h8:=w.n8;have j:lim=1000000:=rfl;have B:(Wb C "now" (Q4 0)) [zo (.ref i),zo (Q7 L)] S=.ok (Q7 now) S:=Kc rfl z (Q5r _ _ _);have I:(Wb C "number" (Q4 0)) [zo (.ref i),zo (Q7 L)] S=.ok (.int h) S:=Kc rfl z (Q2j _ _ _);have e1:=Qcw (a:=now) (b:=L) (by rw [w.len,q.len]) S;have J:L[h]?=zo (L.getD h []):=getD_some (by rw [q.len]; exact O) [];have U:now[h]?=zo (now.getD h []):=getD_some (by rw [w.len]; exact O) [];have Z:oIx S (Q7 L) (.int h)=.ok (Qz (L.getD h [])) S:=by
  have:oIx S (Q7 L) (.int h)=okO S (atI (L.map Qz) (h:Int)):=rfl;rw [this,Vz,Sm.atI_get J]; rfl
 have Y:oIx S (Q7 now) (.int h)=.ok (Qz (now.getD h [])) S:=by
  have:oIx S (Q7 now) (.int h)=okO S (atI (now.map Qz) (h:Int)):=rfl;rw [this,Vz,Sm.atI_get U]; rfl
 have rl:∀ r∈now,r.length<=lim:=fun r G=>by rw [w.sz.2 r G,j]; omega
 have e2:=Q33 (L.getD h []) (now.getD h []) S (by rw [q.sz.2 _ (D5 J),j]; omega);rw [G] at e2;have e3:=Qk7 (a:=now) (b:=L) (by rw [w.len,q.len]) (by rw [w.len,j]; omega) rl S;have step:Kw C [zo (.ref i),zo (Q7 L)] S=.nx [zo (.ref i),zo (Q7 L)] (S.set i (.obj C (ym "now" (Q7 (Zi now L)) (hsF h now last)))):=
  Qi (Q26 (Qt (n:=2) (Q5 B rfl) rfl e1)) (Qi (Yh (Qgp (J5 (Qt (n:=2) (Q5 (Qf rfl I Z) (Q5 (Qf B I Y) rfl)) rfl e2))) rfl) (Km (Qt (n:=2) (Q5 B rfl) rfl e3) rfl z (Q5s _ _ _)))
 rw [Q4c] at step;show Zs (Kw C) 2 _ S=_;unfold Zs;rw [show (([.ref i,Q7 L]:List PV).map zo ++ bR (2 - [PV.ref i,Q7 L].length) zl)=[zo (.ref i),zo (Q7 L)] from rfl,step]
abbrev Tab:=List (List Int)
inductive Dx where
 | own (d:Dd)
 | kp (i:Nat)
 | fl (i:Nat)
 | sd (i:Nat)
 | cm (l i:Nat)
def Dx.V:Dx->PV
 | .own d=>d.V
 | .kp i=>.tup [.str "keep",.int i]
 | .fl i=>.tup [.str "fall",.int i]
 | .sd i=>.tup [.str "send",.int i]
 | .cm l i=>.tup [.str "come",.int l,.int i]
structure RS where
 now:List Tab
 last:List Tab
 le:List Tab
def Dx.ok (n:Nat) (s:RS):Dx->Prop
 | .own d=>d.ok n
 | .kp i=>i < n
 | .fl i=>i < n
 | .sd i=>i < n
 | .cm l i=>l < s.le.length/\i < n
def Z3 (n:Nat) (s:RS):Dx->RS
 | .own d=>if d.fits (s.now.getD d.h [])=zb then ⟨s.now.set d.h (d.put n (s.now.getD d.h [])),s.last,s.le⟩ else s
 | .kp i=>⟨s.now,s.last.set i (s.now.getD i []),s.le⟩
 | .fl i=>⟨s.now.set i (s.last.getD i []),s.last,s.le⟩
 | .sd i=>⟨s.now,s.last,s.le ++ [s.last.getD i []]⟩
 | .cm l i=>⟨s.now.set i (Zi (s.now.getD i []) (s.le.getD l [])),s.last,s.le⟩
def Q4w (s:RS):Dx->PV
 | .own d=>if d.fits (s.now.getD d.h [])=zb then .str "done" else .int (Qn (s.now.getD d.h []) d.h)
 | _=>.str "done"
structure RI (n:Nat) (s:RS):Prop where
 ln:s.now.length=n
 ll:s.last.length=n
 wn:∀ i,i < n->Wt' n (s.now.getD i [])
 wl:∀ i,i < n->Wt' n (s.last.getD i [])
 we:∀ L∈s.le,Wt' n L
 up:∀ i j,i < n->j<=n->ent (s.last.getD i []) i j<=ent (s.now.getD i []) i j
 bn:∀ a i j,a < n->i < n->a≠i->j<=n->ent (s.now.getD a []) i j<=ent (s.last.getD i []) i j
 bl:∀ a i j,a < n->i < n->j<=n->ent (s.last.getD a []) i j<=ent (s.last.getD i []) i j
 be:∀ L∈s.le,∀ i j,i < n->j<=n->ent L i j<=ent (s.last.getD i []) i j
theorem Js {α:Type} {xs:List α} {i:Nat} (hi:i < xs.length) (v d:α) (j:Nat):(xs.set i v).getD j d=if j=i then v else xs.getD j d:=by
 rw [G8,di,G8]
 by_cases q:i=j
 ·subst q; rw [bK rfl,bK hi,bK rfl]; rfl
 ·rw [bL q,bL (fun z=>q z.symm)]
theorem Qmp {n:Nat} {tb:Tab} (w:Wt' n tb) {d:Dd} (o:d.ok n):Wt' n (d.put n tb):=by
 unfold Dd.put Wm;refine Wt'.set0 w (Dd.ok_h o) ?_;have h1:=w.ent_nn (Dd.ok_h o) (Dd.ok_pl o);have h2:=Dd.ok_k o;omega
theorem Q74 {n:Nat} {tb:Tab} (w:Wt' n tb) {d:Dd} (o:d.ok n) (a b:Nat):ent tb a b<=ent (d.put n tb) a b/\(a≠d.h->ent (d.put n tb) a b=ent tb a b):=by
 unfold Dd.put;rw [Kz w.sz (Dd.ok_h o) (Dd.ok_pl o)];have h2:=Dd.ok_k o;refine ⟨?_,fun h=>bL fun z=>h z.1⟩
 split
 ·rename_i z; rw [z.1,z.2]; omega
 ·exact bb _
theorem Qd6 {n:Nat} {a b:Tab} (q:Wt' n a) (B:Wt' n b):Wt' n (Zi a b):=by
 refine Wt'.of_ent (Qqf q.sz B.sz) q.n1 q.n8 fun i j hi z=>?_
 rw [V3 q.sz B.sz hi z];exact bf (q.ent_nn hi z) (Qcy _ _)
theorem RI.step {n:Nat} {s:RS} (r:RI n s) {x:Dx} (o:x.ok n s):RI n (Z3 n s x):=by
 cases x with
 | own d=>
  have U:=Dd.ok_h o;unfold Z3
  by_cases q:d.fits (s.now.getD d.h [])=zb
  ·simp only [bK q];have w:=r.wn d.h U;have I:d.h < s.now.length:=by rw [r.ln]; exact U
   refine ⟨by simp only [D7]; exact r.ln,r.ll,fun i hi=>?_,r.wl,r.we,fun i j hi B=>?_,fun a i j J hi G B=>?_,r.bl,r.be⟩
   ·simp only [Js I]
    split
    ·exact Qmp w o
    ·exact r.wn i hi
   ·simp only [Js I]
    split
    ·rename_i z; subst z;exact bf (r.up _ j hi B) (Q74 w o _ _).1
    ·exact r.up i j hi B
   ·simp only [Js I]
    split
    ·rename_i z; subst z;rw [(Q74 w o i j).2 (fun z=>G z.symm)];exact r.bn _ i j J hi G B
    ·exact r.bn a i j J hi G B
  ·simp only [bL q]; exact r
 | kp O=>
  have U:O < n:=o;have I:O < s.last.length:=by rw [r.ll]; exact U
  refine ⟨r.ln,by simp only [Z3,D7]; exact r.ll,r.wn,fun i hi=>?_,r.we,fun i j hi B=>?_,fun a i j J hi G B=>?_,fun a i j J hi B=>?_,fun L Y i j hi B=>?_⟩
  ·simp only [Z3,Js I]
   split
   ·exact r.wn O U
   ·exact r.wl i hi
  ·simp only [Z3,Js I]
   split
   ·rename_i z; subst z; exact bb _
   ·exact r.up i j hi B
  ·simp only [Z3,Js I]
   split
   ·rename_i z; subst z;exact bf (r.bn a i j J hi G B) (r.up i j hi B)
   ·exact r.bn a i j J hi G B
  ·simp only [Z3,Js I];have Z:ent (s.last.getD a []) i j<=ent (s.last.getD i []) i j:=r.bl a i j J hi B
   split
   ·rename_i z; subst z
    split
    ·rename_i z2; subst z2; exact bb _
    ·rename_i z2;exact r.bn _ i j J hi (fun z=>z2 z.symm) B
   ·split
    ·rename_i z2; subst z2;exact bf Z (r.up _ j hi B)
    ·exact Z
  ·simp only [Z3,Js I];have Z:=r.be L Y i j hi B
   split
   ·rename_i z; subst z;exact bf Z (r.up _ j hi B)
   ·exact Z
 | fl O=>
  have U:O < n:=o;have I:O < s.now.length:=by rw [r.ln]; exact U
  refine ⟨by simp only [Z3,D7]; exact r.ln,r.ll,fun i hi=>?_,r.wl,r.we,fun i j hi B=>?_,fun a i j J hi G B=>?_,r.bl,r.be⟩
  ·simp only [Z3,Js I]
   split
   ·exact r.wl O U
   ·exact r.wn i hi
  ·simp only [Z3,Js I]
   split
   ·rename_i z; subst z; exact bb _
   ·exact r.up i j hi B
  ·simp only [Z3,Js I]
   split
   ·rename_i z; subst z; exact r.bl _ i j J hi B
   ·exact r.bn a i j J hi G B
 | sd O=>
  have U:O < n:=o;refine ⟨r.ln,r.ll,r.wn,r.wl,fun L Y=>?_,r.up,r.bn,r.bl,fun L Y i j hi B=>?_⟩
  ·rcases E7.mp Y with h | h
   ·exact r.we L h
   ·rw [ce.mp h]; exact r.wl O U
  ·rcases E7.mp Y with h | h
   ·exact r.be L h i j hi B
   ·rw [ce.mp h]; exact r.bl O i j U hi B
 | cm l O=>
  obtain ⟨a2,U⟩:=o;have I:O < s.now.length:=by rw [r.ln]; exact U
  have Y:s.le.getD l []∈s.le:=D5 (getD_some a2 []);have wL:=r.we _ Y;have wN:=r.wn O U;refine ⟨by simp only [Z3,D7]; exact r.ln,r.ll,fun i hi=>?_,r.wl,r.we,fun i j hi B=>?_,fun a i j J hi G B=>?_,r.bl,r.be⟩
  ·simp only [Z3,Js I]
   split
   ·exact Qd6 wN wL
   ·exact r.wn i hi
  ·simp only [Z3,Js I]
   split
   ·rename_i z; subst z;rw [V3 wN.sz wL.sz hi B];exact bf (r.up _ j hi B) (Qcy _ _)
   ·exact r.up i j hi B
  ·simp only [Z3,Js I]
   split
   ·rename_i z; subst z;rw [V3 wN.sz wL.sz hi B];have Z:=r.bn _ i j J hi G B;have b2:=r.be _ Y i j hi B;rcases Qcx (ent (s.now.getD a []) i j) (ent (s.le.getD l []) i j) with e | e
    ·rw [e]; exact Z
    ·rw [e]; exact b2
   ·exact r.bn a i j J hi G B
theorem RI.row {n:Nat} {s:RS} (r:RI n s) {L:Tab} (I:L∈s.le) {i:Nat} (hi:i < n):Q61 (L.getD i []) ((s.now.getD i []).getD i [])=zb:=by
 unfold Q61;rw [F7];intro z hz;obtain ⟨j,B⟩:=List.mem_iff_getElem?.mp hz;rw [G9] at B;have J:=r.we L I;have U:=r.wn i hi;have O:L[i]?=zo (L.getD i []):=getD_some (by rw [J.len]; exact hi) [];have Y:=J.row _ (D5 O);have q:j<=n:=by have:=(O0.mp B.1).1; omega
 have G:=bf (r.be L I i j hi q) (r.up i j hi q);unfold ent at G;rw [G8,B.1,G8,B.2] at G;simpa using G
theorem Q4s (S:Q2) (a:Str):oEq S (.str a) (.str a)=.ok (.bl zb) S:=by simp
theorem Kh {a b:Str} (S:Q2) (h:¬ a=b):oEq S (.str a) (.str b)=.ok (.bl za) S:=by simp [h]
@[simp] theorem Qte:¬ (bP "make" = bP "lend"):=by decide +kernel
@[simp] theorem Qvn:¬ (bP "make" = bP "use"):=by decide +kernel
@[simp] theorem Qep:¬ (bP "make" = bP "keep"):=by decide +kernel
@[simp] theorem Qeq:¬ (bP "make" = bP "fall"):=by decide +kernel
@[simp] theorem Qen:¬ (bP "make" = bP "send"):=by decide +kernel
@[simp] theorem Qer:¬ (bP "make" = bP "come"):=by decide +kernel
@[simp] theorem Q1t:¬ (bP "lend" = bP "make"):=by decide +kernel
@[simp] theorem Qgx:¬ (bP "lend" = bP "use"):=by decide +kernel
@[simp] theorem Qet:¬ (bP "lend" = bP "keep"):=by decide +kernel
@[simp] theorem Qeu:¬ (bP "lend" = bP "fall"):=by decide +kernel
@[simp] theorem Qes:¬ (bP "lend" = bP "send"):=by decide +kernel
@[simp] theorem Qev:¬ (bP "lend" = bP "come"):=by decide +kernel
@[simp] theorem Q3q:¬ (bP "use" = bP "make"):=by decide +kernel
@[simp] theorem Qgs:¬ (bP "use" = bP "lend"):=by decide +kernel
@[simp] theorem Qgt:¬ (bP "use" = bP "keep"):=by decide +kernel
@[simp] theorem Qgu:¬ (bP "use" = bP "fall"):=by decide +kernel
@[simp] theorem Qgr:¬ (bP "use" = bP "send"):=by decide +kernel
@[simp] theorem Qgv:¬ (bP "use" = bP "come"):=by decide +kernel
@[simp] theorem Qtg:¬ (bP "keep" = bP "make"):=by decide +kernel
@[simp] theorem Qth:¬ (bP "keep" = bP "lend"):=by decide +kernel
@[simp] theorem Qvp:¬ (bP "keep" = bP "use"):=by decide +kernel
@[simp] theorem Qti:¬ (bP "keep" = bP "fall"):=by decide +kernel
@[simp] theorem Qtf:¬ (bP "keep" = bP "send"):=by decide +kernel
@[simp] theorem Qtj:¬ (bP "keep" = bP "come"):=by decide +kernel
@[simp] theorem Qtm:¬ (bP "fall" = bP "make"):=by decide +kernel
@[simp] theorem Qtn:¬ (bP "fall" = bP "lend"):=by decide +kernel
@[simp] theorem Qvq:¬ (bP "fall" = bP "use"):=by decide +kernel
@[simp] theorem Q65:¬ (bP "fall" = bP "keep"):=by decide +kernel
@[simp] theorem Qtk:¬ (bP "fall" = bP "send"):=by decide +kernel
@[simp] theorem Qtp:¬ (bP "fall" = bP "come"):=by decide +kernel
@[simp] theorem Qtb:¬ (bP "send" = bP "make"):=by decide +kernel
@[simp] theorem Qtc:¬ (bP "send" = bP "lend"):=by decide +kernel
@[simp] theorem Qvm:¬ (bP "send" = bP "use"):=by decide +kernel
@[simp] theorem Q63:¬ (bP "send" = bP "keep"):=by decide +kernel
@[simp] theorem Q64:¬ (bP "send" = bP "fall"):=by decide +kernel
@[simp] theorem Qtd:¬ (bP "send" = bP "come"):=by decide +kernel
@[simp] theorem Qtq:¬ (bP "come" = bP "make"):=by decide +kernel
@[simp] theorem Qtr:¬ (bP "come" = bP "lend"):=by decide +kernel
@[simp] theorem Qvr:¬ (bP "come" = bP "use"):=by decide +kernel
@[simp] theorem Q67:¬ (bP "come" = bP "keep"):=by decide +kernel
@[simp] theorem Q68:¬ (bP "come" = bP "fall"):=by decide +kernel
@[simp] theorem Q66:¬ (bP "come" = bP "send"):=by decide +kernel
theorem jh (S:Q2) (k:Int):oEq S (.int k) .non=.ok (.bl za) S:=rfl
def Dx.oth:Dx->Bool
 | .own _=>za
 | _=>zb
theorem Qec (x:Dx) (S:Q2):Jf [x.V] S=.ok (.bl x.oth) S:=by
 cases x with
 | own d=>
  cases d with
  | mk h k=>
   have t:Qp [.tup [.str "make",.int h,.int k]] S=.ok (.bl zb) S:=Wq "make" [h,k] (by simp) S;have a0:atI [PV.str "make",.int h,.int k] 0=zo (.str "make"):=rfl;unfold Dx.V Dd.V Dx.oth;simp -implicitDefEqProofs [Jf,Qr,Zb,Kx,jh,t,a0]
  | ld h q k=>
   have t:Qp [.tup [.str "lend",.int h,.int q,.int k]] S=.ok (.bl zb) S:=Wq "lend" [h,q,k] (by simp) S;have a0:atI [PV.str "lend",.int h,.int q,.int k] 0=zo (.str "lend"):=rfl;unfold Dx.V Dd.V Dx.oth;simp -implicitDefEqProofs [Jf,Qr,Zb,Kx,jh,t,a0]
  | us h k=>
   have t:Qp [.tup [.str "use",.int h,.int k]] S=.ok (.bl zb) S:=Wq "use" [h,k] (by simp) S;have a0:atI [PV.str "use",.int h,.int k] 0=zo (.str "use"):=rfl;unfold Dx.V Dd.V Dx.oth;simp -implicitDefEqProofs [Jf,Qr,Zb,Kx,jh,t,a0]
 | kp i=>
  have t:Qp [.tup [.str "keep",.int i]] S=.ok (.bl zb) S:=Wq "keep" [i] (by simp) S;have a0:atI [PV.str "keep",.int i] 0=zo (.str "keep"):=rfl;unfold Dx.V Dx.oth;simp -implicitDefEqProofs [Jf,Qr,Zb,Kx,jh,t,a0]
 | fl i=>
  have t:Qp [.tup [.str "fall",.int i]] S=.ok (.bl zb) S:=Wq "fall" [i] (by simp) S;have a0:atI [PV.str "fall",.int i] 0=zo (.str "fall"):=rfl;unfold Dx.V Dx.oth;simp -implicitDefEqProofs [Jf,Qr,Zb,Kx,jh,t,a0]
 | sd i=>
  have t:Qp [.tup [.str "send",.int i]] S=.ok (.bl zb) S:=Wq "send" [i] (by simp) S;have a0:atI [PV.str "send",.int i] 0=zo (.str "send"):=rfl;unfold Dx.V Dx.oth;simp -implicitDefEqProofs [Jf,Qr,Zb,Kx,jh,t,a0]
 | cm l i=>
  have t:Qp [.tup [.str "come",.int l,.int i]] S=.ok (.bl zb) S:=Wq "come" [l,i] (by simp) S;have a0:atI [PV.str "come",.int l,.int i] 0=zo (.str "come"):=rfl;unfold Dx.V Dx.oth;simp -implicitDefEqProofs [Jf,Qr,Zb,Kx,jh,t,a0]
theorem Q4t {x:Dx} (h:x.oth=zb) (S:Q2):Y2 [x.V] S=.ok (.bl za) S:=by
 cases x with
 | own d=>cases h
 | kp i=>
  have t:Qp [.tup [.str "keep",.int i]] S=.ok (.bl zb) S:=Wq "keep" [i] (by simp) S;have a0:atI [PV.str "keep",.int i] 0=zo (.str "keep"):=rfl;unfold Dx.V;simp -implicitDefEqProofs [Y2,Qr,V9,jh,t,a0]
 | fl i=>
  have t:Qp [.tup [.str "fall",.int i]] S=.ok (.bl zb) S:=Wq "fall" [i] (by simp) S;have a0:atI [PV.str "fall",.int i] 0=zo (.str "fall"):=rfl;unfold Dx.V;simp -implicitDefEqProofs [Y2,Qr,V9,jh,t,a0]
 | sd i=>
  have t:Qp [.tup [.str "send",.int i]] S=.ok (.bl zb) S:=Wq "send" [i] (by simp) S;have a0:atI [PV.str "send",.int i] 0=zo (.str "send"):=rfl;unfold Dx.V;simp -implicitDefEqProofs [Y2,Qr,V9,jh,t,a0]
 | cm l i=>
  have t:Qp [.tup [.str "come",.int l,.int i]] S=.ok (.bl zb) S:=Wq "come" [l,i] (by simp) S;have a0:atI [PV.str "come",.int l,.int i] 0=zo (.str "come"):=rfl;unfold Dx.V;simp -implicitDefEqProofs [Y2,Qr,V9,jh,t,a0]
theorem Q25 {n i:Nat} {tb:Tab} (j:tb.length=n) (hi:i < n) (S:Q2):Z7 [Q7 tb,.int i] S=.ok (.bl zb) S:=by
 have:=Q22 (V:=Q7 tb) (n:=n) (st:=S) (by simp [Q7,j]) (i:Int);rw [show (decide ((0:Int)<=(i:Int)) && decide ((i:Int) < (n:Int)))=zb by simp; omega] at this;exact this
theorem Qgq {n:Nat} {s:RS} {tb:Tab} (q:tb.length=n) {x:Dx} (o:x.ok n s) {S:Q2} {j:Nat} (G:S[j]?=zo (.lst (s.le.map Q7))):Jr [Q7 tb,.ref j,x.V] S=.ok .non S:=by
 have ll:Zg S [.ref j]=.ok (.int s.le.length) S:=by
  have z:ListAt S (.ref j) (s.le.map Q7):=.inr (.inr ⟨j,rfl,G⟩);rw [z.len,O2]
 have e2:=Qec x S;cases x with
 | own d=>
  have e1:=Q9b o S;have e3:=Qem q o S;clear e2;show Jr [Q7 tb,.ref j,d.V] S=_;generalize Q7 tb=T at *;generalize d.V=V at *;simp -implicitDefEqProofs [Jr,Qr,Zf,e1,e3]
 | kp i=>
  have e1:=Q4t (x:=.kp i) rfl S;have e3:=Q25 q o S;have a0:atI [PV.str "keep",.int i] 0=zo (.str "keep"):=rfl;have a1:atI [PV.str "keep",.int i] (-1)=zo (.int i):=rfl;unfold Dx.V Dx.oth at *;generalize Q7 tb=T at *;simp -implicitDefEqProofs [Jr,Qr,Zf,e1,e2,e3,a0,a1]
 | fl i=>
  have e1:=Q4t (x:=.fl i) rfl S;have e3:=Q25 q o S;have a0:atI [PV.str "fall",.int i] 0=zo (.str "fall"):=rfl;have a1:atI [PV.str "fall",.int i] (-1)=zo (.int i):=rfl;unfold Dx.V Dx.oth at *;generalize Q7 tb=T at *;simp -implicitDefEqProofs [Jr,Qr,Zf,e1,e2,e3,a0,a1]
 | sd i=>
  have e1:=Q4t (x:=.sd i) rfl S;have e3:=Q25 q o S;have a0:atI [PV.str "send",.int i] 0=zo (.str "send"):=rfl;have a1:atI [PV.str "send",.int i] (-1)=zo (.int i):=rfl;unfold Dx.V Dx.oth at *;generalize Q7 tb=T at *;simp -implicitDefEqProofs [Jr,Qr,Zf,e1,e2,e3,a0,a1]
 | cm l i=>
  have e1:=Q4t (x:=.cm l i) rfl S;have e3:=Q25 q o.2 S;have a0:atI [PV.str "come",.int l,.int i] 0=zo (.str "come"):=rfl;have a1:atI [PV.str "come",.int l,.int i] (-1)=zo (.int i):=rfl;have I:atI [PV.str "come",.int l,.int i] 1=zo (.int l):=rfl;have B:l < s.le.length:=o.1;unfold Dx.V Dx.oth at *;generalize Q7 tb=T at *;generalize s.le.length=nl at *;simp -implicitDefEqProofs [Jr,Qr,Zf,e1,e2,e3,a0,a1,I,ll,B,-Qps]
theorem Q27 {m:MS} {nl:Nat} {ps:List PV} {S q:Q2} {j:Gam} (h:m (ps.map zo ++ bR (nl - ps.length) zl) S=.nx j q):Zs m nl ps S=.ok .non q:=by unfold Zs; rw [h]
theorem jp {m:MS} {nl:Nat} {ps:List PV} {S j:Q2} {v:PV} (h:m (ps.map zo ++ bR (nl - ps.length) zl) S=.rt v j):Zs m nl ps S=.ok v j:=by unfold Zs; rw [h]
theorem Zv {m:MS} {nl:Nat} {ps:List PV} {S j:Q2} {v:PV} (h:m (ps.map zo ++ bR (nl - ps.length) zl) S=.rt v j):Qr m nl ps S=fin S v j:=by unfold Qr; rw [h]
def hsV (B n:Nat):PV:=.lst ((bS n).map fun i=>.ref (B + i))
structure HsAt (C:aA) (B n:Nat) (s:RS) (S:Q2):Prop where
 at_:∀ i,i < n->S[B + i]?=zo (.obj C (hsF i (s.now.getD i []) (s.last.getD i [])))
theorem Qfe {B n i:Nat} (hi:i < n) (S:Q2):oIx S (hsV B n) (.int i)=.ok (.ref (B + i)) S:=by
 have:oIx S (hsV B n) (.int i)=okO S (atI ((bS n).map fun i=>PV.ref (B + i)) (i:Int)):=rfl
 rw [this,Vz,Sm.atI_get (show (bS n)[i]?=zo i by rw [F8 hi])]; rfl
def Qrm (C:aA) (S:Q2) (i n:Nat) (now last:Tab) (d:Dd) (Γ:Gam):SR:=if d.fits now=zb then .nx Γ (S.set i (.obj C (hsF d.h (d.put n now) last))) else .exc ⟨"Short",zo ("had",.int (Qn now d.h))⟩ S
theorem Qd9 {C:aA} {S:Q2} {i n:Nat} {now last:Tab} {d:Dd} {m:ME} {Γ:Gam} (h:m Γ S=Q6k C S i n now last d):Y6 m Γ S=Qrm C S i n now last d Γ:=by
 rw [Q92,h];unfold Q6k Qrm
 split <;> rfl
theorem Qkr {C:aA} {S:Q2} {i n nl:Nat} {now last:Tab} {d:Dd} {m:MS} {ps:List PV} {Γ:Gam} (h:m (ps.map zo ++ bR (nl - ps.length) zl) S=Qrm C S i n now last d Γ):Zs m nl ps S=Q6k C S i n now last d:=by
 unfold Zs;rw [h];unfold Q6k Qrm
 by_cases q:d.fits now=zb
 ·rw [bK q,bK q]
 ·rw [bL q,bL q]
theorem Qp9 {C:aA} {B n:Nat} {s:RS} {S:Q2} (A:HsAt C B n s S) (r:RI n s) {d:Dd} (o:d.ok n):Yv C [hsV B n,d.V] S=Q6k C S (B + d.h) n (s.now.getD d.h []) (s.last.getD d.h []) d:=by
 have q:=Dd.ok_h o;have w:=r.wn d.h q;have j:=A.at_ d.h q;have ix:=Qfe (B:=B) q S;refine Qkr (Γ:=[zo (hsV B n),zo d.V,zo (.ref (B + d.h))]) ?_;show zx C [zo (hsV B n),zo d.V,zl] S=_;refine Qi (Γ1:=[zo (hsV B n),zo d.V,zo (.ref (B + d.h))]) (J6 (Qf rfl (Qf rfl rfl (Dd.a1 d S)) ix)) ?_;cases d with
 | mk h k=>
  refine jd (J5 (Qf (Qf rfl rfl rfl) rfl (Q4s S _))) (Qd9 ?_);exact (jy (i:=B + h) rfl j (z9 (by decide +kernel) (by decide +kernel) (by decide +kernel) _ _ _) (ps:=[.int k]) (S1:=S) (Q5 (Qf rfl rfl rfl) rfl) rfl).trans (Qrz j w o)
 | ld h t k=>
  refine Yh (J5 (Qf (Qf rfl rfl rfl) rfl (Kh S Q1t))) (jd (J5 (Qf (Qf rfl rfl rfl) rfl (Q4s S _))) (Qd9 ?_));exact (jy (i:=B + h) rfl j (z9 (by decide +kernel) (by decide +kernel) (by decide +kernel) _ _ _) (ps:=[.int t,.int k]) (S1:=S) (Q5 (Qf rfl rfl rfl) (Q5 (Qf rfl rfl rfl) rfl)) rfl).trans (Qsa j w o)
 | us h k=>
  refine Yh (J5 (Qf (Qf rfl rfl rfl) rfl (Kh S Q3q))) (Yh (J5 (Qf (Qf rfl rfl rfl) rfl (Kh S Qgs))) (Qd9 ?_));exact (jy (i:=B + h) rfl j (z9 (by decide +kernel) (by decide +kernel) (by decide +kernel) _ _ _) (ps:=[.int k]) (S1:=S) (Q5 (Qf rfl rfl rfl) rfl) rfl).trans (Qu1 j w o)
def Q2y (C:aA) (B Lr n:Nat) (s:RS) (S:Q2):Dx->Q2
 | .own d=>if d.fits (s.now.getD d.h [])=zb then S.set (B + d.h) (.obj C (hsF d.h (d.put n (s.now.getD d.h [])) (s.last.getD d.h []))) else S
 | .kp i=>S.set (B + i) (.obj C (hsF i (s.now.getD i []) (s.now.getD i [])))
 | .fl i=>S.set (B + i) (.obj C (hsF i (s.last.getD i []) (s.last.getD i [])))
 | .sd i=>S.set Lr (.lst (s.le.map Q7 ++ [Q7 (s.last.getD i [])]))
 | .cm l i=>S.set (B + i) (.obj C (hsF i (Zi (s.now.getD i []) (s.le.getD l [])) (s.last.getD i [])))
theorem Q13 {S:Q2} {L:Nat} {xs:List PV} (h:S[L]?=zo (.lst xs)) (j:xs.length < 1000000) (y:PV):W0 S (.ref L) [y]=.ok .non (S.set L (.lst (xs ++ [y]))):=by
 simp only [W0,chg,h];rw [bK (show xs.length < lim from j)]
theorem Qhd {C:aA} {B j n:Nat} {s:RS} {S:Q2} (A:HsAt C B n s S) (G:S[j]?=zo (.lst (s.le.map Q7))) (Y:s.le.length < 100000) (r:RI n s) {x:Dx} (o:x.ok n s) (J:x.oth=zb):U0 C [hsV B n,.ref j,x.V] S=.ok .non (Q2y C B j n s S x):=by
 have O:ListAt S (.ref j) (s.le.map Q7):=.inr (.inr ⟨j,rfl,G⟩);cases x with
 | own d=>cases J
 | kp i=>
  have hi:i < n:=o;have q:=A.at_ i hi;have st:Yi C [zo (hsV B n),zo (.ref j),zo (Dx.kp i).V,zl] S=.nx [zo (hsV B n),zo (.ref j),zo (Dx.kp i).V,zo (.ref (B + i))] (Q2y C B j n s S (.kp i)):=
   Qi (J6 (Qf rfl (Qf rfl rfl rfl) (Qfe hi S))) (jd (J5 (Qf (Qf rfl rfl rfl) rfl (Q4s S _))) (Q26 ((jy (i:=B + i) rfl q (z9 (by decide +kernel) (by decide +kernel) (by decide +kernel) _ _ _) (ps:=[]) (S1:=S) rfl rfl).trans (Qsf q))))
  exact Q27 st
 | fl i=>
  have hi:i < n:=o;have q:=A.at_ i hi;have st:Yi C [zo (hsV B n),zo (.ref j),zo (Dx.fl i).V,zl] S=.nx [zo (hsV B n),zo (.ref j),zo (Dx.fl i).V,zo (.ref (B + i))] (Q2y C B j n s S (.fl i)):=
   Qi (J6 (Qf rfl (Qf rfl rfl rfl) (Qfe hi S))) (Yh (J5 (Qf (Qf rfl rfl rfl) rfl (Kh S Q65))) (jd (J5 (Qf (Qf rfl rfl rfl) rfl (Q4s S _))) (Q26 ((jy (i:=B + i) rfl q (z9 (by decide +kernel) (by decide +kernel) (by decide +kernel) _ _ _) (ps:=[]) (S1:=S) rfl rfl).trans (Qsn q)))))
  exact Q27 st
 | sd i=>
  have hi:i < n:=o;have q:=A.at_ i hi;have lt:yr C "letter" 1 (W3 C) (Q4 3) Q8 [zo (hsV B n),zo (.ref j),zo (Dx.sd i).V,zo (.ref (B + i))] S=.ok (Q7 (s.last.getD i [])) S:=(jy (i:=B + i) rfl q (z9 (by decide +kernel) (by decide +kernel) (by decide +kernel) _ _ _) (ps:=[]) (S1:=S) rfl rfl).trans (Qk4 q);have st:Yi C [zo (hsV B n),zo (.ref j),zo (Dx.sd i).V,zl] S=.nx [zo (hsV B n),zo (.ref j),zo (Dx.sd i).V,zo (.ref (B + i))] (Q2y C B j n s S (.sd i)):=
   Qi (J6 (Qf rfl (Qf rfl rfl rfl) (Qfe hi S))) (Yh (J5 (Qf (Qf rfl rfl rfl) rfl (Kh S Q63))) (Yh (J5 (Qf (Qf rfl rfl rfl) rfl (Kh S Q64))) (jd (J5 (Qf (Qf rfl rfl rfl) rfl (Q4s S _)))
    (Q42 (p:=.ref j) rfl (U8 G) (Q5 lt rfl) (Q13 G (by rw [O2]; omega) _)))))
  exact Q27 st
 | cm l i=>
  obtain ⟨z,hi⟩:=o;have q:=A.at_ i hi;have I:s.le.getD l []∈s.le:=D5 (getD_some z []);have U:oIx S (.ref j) (.int l)=.ok (Q7 (s.le.getD l [])) S:=by
   rw [O.ix,Vz,Sm.atI_get (getD_some z [])]; rfl
  have st:Yi C [zo (hsV B n),zo (.ref j),zo (Dx.cm l i).V,zl] S=.nx [zo (hsV B n),zo (.ref j),zo (Dx.cm l i).V,zo (.ref (B + i))] (Q2y C B j n s S (.cm l i)):=
   Qi (J6 (Qf rfl (Qf rfl rfl rfl) (Qfe hi S))) (Yh (J5 (Qf (Qf rfl rfl rfl) rfl (Kh S Q67))) (Yh (J5 (Qf (Qf rfl rfl rfl) rfl (Kh S Q68))) (Yh (J5 (Qf (Qf rfl rfl rfl) rfl (Kh S Q66)))
    (Q26 ((jy (i:=B + i) rfl q (z9 (by decide +kernel) (by decide +kernel) (by decide +kernel) _ _ _) (ps:=[Q7 (s.le.getD l [])]) (S1:=S) (Q5 (Qf rfl (Qf rfl rfl rfl) U) rfl) rfl).trans (Qst q (r.wn i hi) (r.we _ I) hi (r.row I hi)))))))
  exact Q27 st
theorem Qkx {C:aA} {B j n:Nat} {s:RS} {S:Q2} (A:HsAt C B n s S) (J:S[j]?=zo (.lst (s.le.map Q7))) (O:s.le.length < 100000) (r:RI n s) {x:Dx} (o:x.ok n s):ze C [hsV B n,.ref j,x.V] S=.ok (Q4w s x) (Q2y C B j n s S x):=by
 have e1:(toB (Qg 1 Jf (Q3 (Q4 2) Q8))) [zo (hsV B n),zo (.ref j),zo x.V,zl] S=.ok x.oth S:=J5 (Qt (n:=1) (Q5 rfl rfl) rfl (Qec x S));cases G:x.oth with
 | true=>
  rw [G] at e1;have st:Xv C [zo (hsV B n),zo (.ref j),zo x.V,zl] S=.rt (.str "done") (Q2y C B j n s S x):=K2 (jd e1 (Qi (Q26 (Qt (n:=3) (Q5 rfl (Q5 rfl (Q5 rfl rfl))) rfl (Qhd A J O r o G))) rfl));refine (jp st).trans ?_;cases x with
  | own d=>cases G
  | _=>rfl
 | false=>
  rw [G] at e1;cases x with
  | own d=>
   have e2:=Qp9 A r (d:=d) o;have e3:Qez "Short" "had" 3 2 (Yv C) (Q3 (Q4 0) (Q3 (Q4 2) Q8)) [zo (hsV B n),zo (.ref j),zo d.V,zl] S=(match Yv C [hsV B n,d.V] S with
    | .ok _ I=>SR.nx [zo (hsV B n),zo (.ref j),zo d.V,zl] I
    | .exc x I=>if x.cls = "Short" then (match x.fs with | some (f,.int z)=>if f = "had" then .rt (.int z) I else .stuck | _=>.stuck) else .stuck
    | .stuck=>.stuck):=by
    rw [Qnm,Q5 (m:=Q4 0) (p:=hsV B n) (S1:=S) rfl (Q5 (m:=Q4 2) (p:=d.V) (S1:=S) rfl (show Q8 _ S=.ok [] S from rfl)),Wz];exact bK ⟨rfl,show 3 < 4 by decide⟩
   rw [e2] at e3;unfold Q6k at e3
   by_cases q:d.fits (s.now.getD d.h [])=zb
   ·rw [bK q] at e3;have st:Xv C [zo (hsV B n),zo (.ref j),zo (Dx.own d).V,zl] S=.rt (.str "done") (S.set (B + d.h) (.obj C (hsF d.h (d.put n (s.now.getD d.h [])) (s.last.getD d.h [])))):=Qi (Yh e1 rfl) (Qi e3 rfl);refine (jp st).trans ?_;unfold Q2y Q4w;simp only [bK q]
   ·rw [bL q] at e3;have e3:Qez "Short" "had" 3 2 (Yv C) (Q3 (Q4 0) (Q3 (Q4 2) Q8)) [zo (hsV B n),zo (.ref j),zo d.V,zl] S=.rt (.int (Qn (s.now.getD d.h []) d.h)) S:=e3.trans (by simp);have st:Xv C [zo (hsV B n),zo (.ref j),zo (Dx.own d).V,zl] S=.rt (.int (Qn (s.now.getD d.h []) d.h)) S:=Qi (Yh e1 rfl) (K2 e3);refine (jp st).trans ?_;unfold Q2y Q4w;simp only [bL q]
  | kp i=>cases G
  | fl i=>cases G
  | sd i=>cases G
  | cm l i=>cases G
theorem Qv6 {C:aA} {B j n:Nat} {s:RS} {S:Q2} (A:HsAt C B n s S) (U:S[j]?=zo (.lst (s.le.map Q7))) (a2:B + n<=j) (r:RI n s) {x:Dx} (o:x.ok n s):HsAt C B n (Z3 n s x) (Q2y C B j n s S x)/\(Q2y C B j n s S x)[j]?=zo (.lst ((Z3 n s x).le.map Q7))/\(∀ t,(t < B\/j < t)->(Q2y C B j n s S x)[t]?=S[t]?)/\(Q2y C B j n s S x).length=S.length:=by
 have I:∀ (h:Nat) (a b:Tab),h < n->∀ s':RS,s'.le=s.le->(∀ i,i < n->s'.now.getD i []=if i=h then a else s.now.getD i [])->(∀ i,i < n->s'.last.getD i []=if i=h then b else s.last.getD i []) ->
   HsAt C B n s' (S.set (B + h) (.obj C (hsF h a b)))/\(S.set (B + h) (.obj C (hsF h a b)))[j]?=zo (.lst (s'.le.map Q7))/\(∀ t,(t < B\/j < t)->(S.set (B + h) (.obj C (hsF h a b)))[t]?=S[t]?)/\(S.set (B + h) (.obj C (hsF h a b))).length=S.length:=by
  intro h a b G s' e1 e2 e3;have O:=(O0.mp (A.at_ h G)).1;refine ⟨⟨fun i hi=>?_⟩,?_,fun t Z=>?_,D7⟩
  ·by_cases q:i=h
   ·subst q;rw [E4 O,e2 i hi,e3 i hi,bK rfl,bK rfl]
   ·rw [O6 (by omega),A.at_ i hi,e2 i hi,e3 i hi,bL q,bL q]
  ·rw [O6 (by omega),U,e1]
  ·rw [O6 (by omega)]
 cases x with
 | own d=>
  have G:=Dd.ok_h o
  by_cases q:d.fits (s.now.getD d.h [])=zb
  ·have Y:Q2y C B j n s S (.own d)=S.set (B + d.h) (.obj C (hsF d.h (d.put n (s.now.getD d.h [])) (s.last.getD d.h []))):=bK q;have J:Z3 n s (.own d)=⟨s.now.set d.h (d.put n (s.now.getD d.h [])),s.last,s.le⟩:=bK q;rw [Y,J];refine I d.h _ _ G _ rfl (fun i hi=>?_) (fun i hi=>?_)
   ·exact Js (by rw [r.ln]; exact G) _ _ _
   ·split
    ·rename_i z; rw [z]
    ·rfl
  ·have Y:Q2y C B j n s S (.own d)=S:=bL q;have J:Z3 n s (.own d)=s:=bL q;rw [Y,J];exact ⟨A,U,fun _ _=>rfl,rfl⟩
 | kp h=>
  have G:h < n:=o;refine I h _ _ G _ rfl (fun i hi=>?_) (fun i hi=>?_)
  ·split
   ·rename_i z; rw [z]; rfl
   ·rfl
  ·exact Js (by rw [r.ll]; exact G) _ _ _
 | fl h=>
  have G:h < n:=o;refine I h _ _ G _ rfl (fun i hi=>?_) (fun i hi=>?_)
  ·exact Js (by rw [r.ln]; exact G) _ _ _
  ·split
   ·rename_i z; rw [z]; rfl
   ·rfl
 | sd h=>
  have G:h < n:=o;have O:=(O0.mp U).1;refine ⟨⟨fun i hi=>?_⟩,?_,fun t Z=>?_,D7⟩
  ·show (S.set j _)[B + i]?=_;rw [O6 (by omega)];exact A.at_ i hi
  ·show (S.set j _)[j]?=zo (.lst ((s.le ++ [s.last.getD h []]).map Q7));rw [E4 O,F4]; rfl
  ·show (S.set j _)[t]?=_;rw [O6 (by omega)]
 | cm l h=>
  obtain ⟨a3,G⟩:=o;refine I h _ _ G _ rfl (fun i hi=>?_) (fun i hi=>?_)
  ·exact Js (by rw [r.ln]; exact G) _ _ _
  ·split
   ·rename_i z; rw [z]; rfl
   ·rfl
theorem Q36 {n:Nat} {tb:List (List Int)} (w:Wt' n tb) (c:Ca n tb) (st:Q2):Ji [Q7 tb] st=.ok .non st:=by
 have e:=Qdc w st;rw [c.comes] at e;generalize Q7 tb=T at *;simp -implicitDefEqProofs [Ji,Qr,W5,e]
def Ug (n:Nat):RS->List Dx->RS
 | s,[]=>s
 | s,x :: xs=>Ug n (Z3 n s x) xs
def Q14 (n:Nat):RS->List Dx->List PV
 | _,[]=>[]
 | s,x :: xs=>Q4w s x :: Q14 n (Z3 n s x) xs
def OkL (n:Nat):RS->List Dx->Prop
 | _,[]=>True
 | s,x :: xs=>x.ok n s/\OkL n (Z3 n s x) xs
theorem Qci (n:Nat):∀ (xs ys:List Dx) (s:RS),Ug n s (xs ++ ys)=Ug n (Ug n s xs) ys
 | [],_,_=>rfl
 | x :: xs,ys,s=>Qci n xs ys (Z3 n s x)
theorem Qdm (n:Nat):∀ (xs ys:List Dx) (s:RS),Q14 n s (xs ++ ys)=Q14 n s xs ++ Q14 n (Ug n s xs) ys
 | [],_,_=>rfl
 | x :: xs,ys,s=>congrArg (Q4w s x :: ·) (Qdm n xs ys (Z3 n s x))
theorem Qcp (n:Nat):∀ (xs ys:List Dx) (s:RS),OkL n s (xs ++ ys) <-> OkL n s xs/\OkL n (Ug n s xs) ys
 | [],_,_=>⟨fun h=>⟨trivial,h⟩,fun h=>h.2⟩
 | x :: xs,ys,s=>by
  have j:=Qcp n xs ys (Z3 n s x);exact ⟨fun h=>⟨⟨h.1,(j.mp h.2).1⟩,(j.mp h.2).2⟩,fun h=>⟨h.1.1,j.mpr ⟨h.1.2,h.2⟩⟩⟩
theorem RI.run {n:Nat}:∀ {xs:List Dx} {s:RS},RI n s->OkL n s xs->RI n (Ug n s xs)
 | [],_,r,_=>r
 | x :: xs,s,r,o=>RI.run (xs:=xs) (r.step o.1) o.2
theorem Qsb (n:Nat) (s:RS) (x:Dx):(Z3 n s x).le.length<=s.le.length + 1:=by
 cases x with
 | own d=>
  show (if d.fits (s.now.getD d.h [])=zb then (⟨s.now.set d.h (d.put n (s.now.getD d.h [])),s.last,s.le⟩:RS) else s).le.length<=_
  split <;> simp
 | sd i=>simp [Z3]
 | _=>simp [Z3]
theorem Qh8 (n:Nat):∀ (xs:List Dx) (s:RS),(Ug n s xs).le.length<=s.le.length + xs.length
 | [],s=>O7 _
 | x :: xs,s=>by
  have h1:=Qh8 n xs (Z3 n s x);have h2:=Qsb n s x;simp only [Ug,D4];omega
theorem Qdk (n:Nat):∀ (xs:List Dx) (s:RS),(Q14 n s xs).length=xs.length
 | [],_=>rfl
 | x :: xs,s=>by simp only [Q14,D4,Qdk n xs]
def s0 (n:Nat) (tb:Tab):RS:=⟨bR n tb,bR n tb,[]⟩
theorem yk {n i:Nat} {tb:Tab} (hi:i < n):(bR n tb).getD i []=tb:=by
 rw [G8,cU,bK hi]; rfl
theorem RI.start {n:Nat} {tb:Tab} (w:Wt' n tb):RI n (s0 n tb):=by
 have e:∀ i,i < n->(bR n tb).getD i []=tb:=fun i hi=>yk hi
 refine ⟨eN,eN,fun i hi=>?_,fun i hi=>?_,fun L z=>absurd z cK,fun i j hi B=>?_,fun a i j q hi G B=>?_,fun a i j q hi B=>?_,fun L z=>absurd z cK⟩
 ·show Wt' n ((bR n tb).getD i []); rw [e i hi]; exact w
 ·show Wt' n ((bR n tb).getD i []); rw [e i hi]; exact w
 ·exact bb _
 ·show ent ((bR n tb).getD a []) i j<=ent ((bR n tb).getD i []) i j; rw [e i hi,e a q]; exact bb _
 ·show ent ((bR n tb).getD a []) i j<=ent ((bR n tb).getD i []) i j; rw [e i hi,e a q]; exact bb _
theorem Qsg {C:aA} {n:Nat} {tb:Tab} (w:Wt' n tb) (c:Ca n tb) {h:Nat} (z:h < n) (S:Q2):Y7 C [.ref S.length,.int h,Q7 tb] (S ++ [.obj C []])=.ok .non (S ++ [.obj C (hsF h tb tb)]):=by
 have e1:=Q36 w c (S ++ [.obj C []]);have e2:=Q25 w.len z (S ++ [.obj C []]);have gt:∀ fs:List (Str × PV),(S ++ [Cell.obj C fs])[S.length]?=zo (.obj C fs):=fun fs=>by simp
 have st:∀ fs gs:List (Str × PV),(S ++ [Cell.obj C fs]).set S.length (.obj C gs)=S ++ [.obj C gs]:=fun fs gs=>by simp
 have j:ym "number" (.int h) []=[(bP "number",PV.int h)]:=rfl;have p2:ym "now" (Q7 tb) [(bP "number",PV.int h)]=[(bP "number",.int h),(bP "now",Q7 tb)]:=by
  rw [ym,bL s1']; rfl
 have q:ym "kept" (Q7 tb) [(bP "number",PV.int h),(bP "now",Q7 tb)]=hsF h tb tb:=by
  rw [ym,bL s2',ym,bL s3']; rfl
 have k3:Xi C [zo (.ref S.length),zo (.int h),zo (Q7 tb)] (S ++ [.obj C []])=.nx [zo (.ref S.length),zo (.int h),zo (Q7 tb)] (S ++ [.obj C (hsF h tb tb)]):=by
  refine Qi (Q26 (Qt (n:=1) (Q5 rfl rfl) rfl e1)) (Qi (Yh (Qgp (J5 (Qt (n:=2) (Q5 rfl (Q5 rfl rfl)) rfl e2))) rfl) ?_);refine Qi ((Km (p:=.int h) rfl rfl (gt _) (by simp)).trans (by rw [j,st])) ?_;refine Qi ((Km (p:=Q7 tb) rfl rfl (gt _) (by simp)).trans (by rw [p2,st])) ?_;exact (Km (p:=Q7 tb) rfl rfl (gt _) (by simp)).trans (by rw [q,st])
 exact Q27 k3
theorem Qvu {C:aA} {n:Nat} {tb:Tab} (w:Wt' n tb) (c:Ca n tb) {h:Nat} (j:h < n) (S:Q2):Q0w C [zo (.int h),zo (Q7 tb)] S=.ok (.ref S.length) (S ++ [.obj C (hsF h tb tb)]):=by
 have q:(Q3 (Q4 0) (Q3 (Q4 1) Q8)) [zo (.int h),zo (Q7 tb)] S=.ok [.int h,Q7 tb] S:=Q5 rfl (Q5 rfl rfl);show ((Y7 C [PV.ref S.length,PV.int h,Q7 tb] (S ++ [Cell.obj C []])).bind _)=_;rw [Qsg w c j S]; rfl
def h0 (C:aA) (n:Nat) (tb:Tab):Q2:=(bS n).map fun i=>.obj C (hsF i tb tb)
theorem Qkd {C:aA} {n:Nat} {tb:Tab} (w:Wt' n tb) (c:Ca n tb) (S:Q2) (Γ:Gam) (B:Γ[0]?=zo (zo (Q7 tb))):Jn (Qk 0) Je (Q0w C) [] (Jy [zl,zo 0] Γ) (Ze 0 n) S=.ok ((bS n).map fun i=>.ref (S.length + i)) (S ++ h0 C n tb):=by
 have G:Jy [zl,zo 0] Γ=[zl,zo (Q7 tb)]:=by
  simp [Jy,B]
 obtain ⟨j,I,e,e1,e2⟩:=Qki (g:=fun k:Nat=>PV.int (k:Int)) (xs:=bS n) (ga:=Qk 0) (me:=Q0w C) (w:=[]) (Γ0:=[zl,zo (Q7 tb)]) (st:=S)
  (fun i j st=>j=((bS i).map fun i=>PV.ref (S.length + i))/\st=S ++ h0 C i tb) (fun _ _ _ _=>by simp)
  (fun i x j st z ⟨e1,e2⟩=>by
   subst e1; subst e2;have q:i < n:=by simpa using (O0.mp z).1
   rw [F8 q] at z;cases z;refine ⟨_,rfl,_,_,Qvu w c q _,?_,?_⟩
   ·rw [dn,F4,D0];simp [h0]
   ·rw [h0,h0,dn,F4,cC]; rfl)
  ⟨rfl,by simp [h0]⟩
 rw [F6] at e1 e2;rw [G,Wu,e,e1,e2]
theorem Q8t {α β:Type} (l:List α) (d:α) (f:α->β):l.map f=(bS l.length).map fun i=>f (l.getD i d):=by
 refine dM fun i=>?_
 rw [E8,E8]
 by_cases h:i < l.length
 ·rw [F8 h,O4 h];simp [bW,O4 h]
 ·rw [F3 (by omega),F3 (by rw [F6]; omega)]; rfl
theorem Qw9 (C:aA) (n:Nat) (tb:Tab):(h0 C n tb).length=n:=by simp [h0]
theorem Qz4 (C:aA) {n i:Nat} (tb:Tab) (hi:i < n):(h0 C n tb)[i]?=zo (.obj C (hsF i tb tb)):=by
 simp [h0,F8 hi]
abbrev plG (tb:Tab) (DV:PV) (B n:Nat) (d:Option PV):Gam:=[zo (Q7 tb),zo DV,zo (hsV B n),zo (.ref (B + n)),zo (.ref (B + n + 1)),d]
structure PI (C:aA) (n:Nat) (tb:Tab) (S:Q2) (pre:List Dx) (st:Q2):Prop where
 hs:HsAt C S.length n (Ug n (s0 n tb) pre) st
 le:st[S.length + n]?=zo (.lst ((Ug n (s0 n tb) pre).le.map Q7))
 an:st[S.length + n + 1]?=zo (.lst (Q14 n (s0 n tb) pre))
 old:∀ t,t < S.length->st[t]?=S[t]?
 len:st.length=S.length + n + 2
theorem Qu6 {C:aA} {n:Nat} {tb:Tab} (w:Wt' n tb) {S st:Q2} {pre:List Dx} {x:Dx} {j:List Dx} (hl:(pre ++ x :: j).length<=1000) (ok:OkL n (s0 n tb) (pre ++ x :: j)) (P:PI C n tb S pre st) (DV:PV):∃ G,Q41 C (plG tb DV S.length n (zo x.V)) st=.nx (plG tb DV S.length n (zo x.V)) G/\PI C n tb S (pre ++ [x]) G:=by
 have Z:=(Qcp n pre (x :: j) _).mp ok;have r:RI n (Ug n (s0 n tb) pre):=(RI.start w).run Z.1;have O:=Z.2.1;have Y:pre.length<=1000:=by rw [D0] at hl; omega
 have a5:=Qh8 n pre (s0 n tb);have q:(Ug n (s0 n tb) pre).le.length < 100000:=by
  have:(s0 n tb).le.length=0:=rfl;omega
 have e1:=Qgq w.len O P.le;have e2:=Qkx P.hs P.le q r O;obtain ⟨a1,a2,J,a4⟩:=Qv6 P.hs P.le (O7 _) r O;obtain ⟨U,B⟩:∃ z,Q2y C S.length (S.length + n) n (Ug n (s0 n tb) pre) st x=z:=⟨_,rfl⟩;rw [B] at e2 a1 a2 J a4;have I:U[S.length + n + 1]?=zo (.lst (Q14 n (s0 n tb) pre)):=by rw [J _ (.inr (by omega))]; exact P.an
 have hb:=(O0.mp I).1;have ap:=Q13 I (by rw [Qdk]; omega) (Q4w (Ug n (s0 n tb) pre) x);refine ⟨_,Qi (Q26 (Qt (n:=3) (Q5 rfl (Q5 rfl (Q5 rfl rfl))) rfl e1)) (Q42 (p:=.ref (S.length + n + 1)) rfl (U8 P.an) (Q5 (Qt (n:=3) (Q5 rfl (Q5 rfl (Q5 rfl rfl))) rfl e2) rfl) ap),?_⟩;have er:Ug n (s0 n tb) (pre ++ [x])=Z3 n (Ug n (s0 n tb) pre) x:=by rw [Qci]; rfl
 have ea:Q14 n (s0 n tb) (pre ++ [x])=Q14 n (s0 n tb) pre ++ [Q4w (Ug n (s0 n tb) pre) x]:=by rw [Qdm]; rfl
 refine ⟨⟨fun i hi=>?_⟩,?_,?_,fun t ht=>?_,?_⟩
 ·rw [er,O6 (by omega)]; exact a1.at_ i hi
 ·rw [er,O6 (by omega)]; exact a2
 ·rw [ea,E4 hb]
 ·rw [O6 (by omega),J t (.inl ht)]; exact P.old t ht
 ·rw [D7,a4]; exact P.len
theorem Qjh {C:aA} {n:Nat} {tb:Tab} (w:Wt' n tb) (c:Ca n tb) {S:Q2} {DV:PV} {xs:List Dx} {wt:Wt} (hs:∀ st:Q2,(∀ t,t < S.length->st[t]?=S[t]?)->Ws st DV=zo (xs.map Dx.V,wt)/\wOk wt st) (hl:xs.length<=1000) (ok:OkL n (s0 n tb) xs) :
  ∃ O,Q4x C [Q7 tb,DV] S=.ok (.tup [.ref (S.length + n + 1),.ref (S.length + n + 2)]) O/\O.length=S.length + n + 3/\(∀ t,t < S.length->O[t]?=S[t]?)/\O[S.length + n + 1]?=zo (.lst (Q14 n (s0 n tb) xs))/\O[S.length + n + 2]?=zo (.lst ((Ug n (s0 n tb) xs).now.map Q7)):=by
 have h8:=w.n8;have U:lim=1000000:=rfl;have e1:=Q36 w c S;have eh:=Qkd (C:=C) w c S [zo (Q7 tb),zo DV,zl,zl,zl,zl] rfl;have G:Zg S [Q7 tb]=.ok (.int n) S:=by simp [Q7,w.len]
 have a2:Zc (Q3 (J3 Zg (Q3 (Q4 0) Q8)) Q8) [zo (Q7 tb),zo DV,zl,zl,zl,zl] S=.ok (Ze 0 n,[]) S:=by
  rw [U5,Q5 (V5 (Q5 (m:=Q4 0) (p:=Q7 tb) (S1:=S) rfl (show Q8 _ S=.ok [] S from rfl)) G) (show Q8 _ S=.ok [] S from rfl),Jc];show (if -(lim:Int)<=(n:Int)/\(n:Int)<=lim then _ else _)=_;rw [bK (by rw [U]; omega),cB]
 obtain ⟨S1,q⟩:∃ S1,S ++ h0 C n tb=S1:=⟨_,rfl⟩;rw [q] at eh;have l1:S1.length=S.length + n:=by rw [<- q,D0,Qw9]
 obtain ⟨B,j⟩:∃ B,S1 ++ [Cell.lst []] ++ [Cell.lst []]=B:=⟨_,rfl⟩;have l2:B.length=S.length + n + 2:=by rw [<- j,D0,D0,l1]; rfl
 have P0:PI C n tb S [] B:=by
  refine ⟨⟨fun i hi=>?_⟩,?_,?_,fun t Z=>?_,l2⟩
  ·rw [<- j,cC,O5 (by omega),<- q,D3 (by omega),Nat.add_sub_cancel_left,Qz4 C tb hi];show _=zo (Cell.obj C (hsF i ((bR n tb).getD i []) ((bR n tb).getD i [])));rw [yk hi]
  ·rw [<- j,cC,D3 (by omega),show S.length + n - S1.length=0 by omega]; rfl
  ·rw [<- j,cC,D3 (by omega),show S.length + n + 1 - S1.length=1 by omega]; rfl
  ·rw [<- j,cC,O5 (by omega),<- q,O5 Z]
 obtain ⟨Y,_⟩:=hs B P0.old;obtain ⟨a5,z,ef,⟨d',rfl⟩,P⟩:=Q2m (g:=Dx.V) (xs:=xs) (fun pre Γ st=>(∃ d,Γ=plG tb DV S.length n d)/\PI C n tb S pre st) (ga:=Qk 5) (body:=Q41 C) (w:=wt)
  (fun pre Γ st ⟨_,P⟩=>(hs st P.old).2)
  (fun pre x a4 Γ st hx ⟨⟨d,a3⟩,P⟩=>by
   subst a3;obtain ⟨a6,e,P2⟩:=Qu6 w (by rw [<- hx]; exact hl) (by rw [<- hx]; exact ok) P DV;exact ⟨_,rfl,_,_,e,⟨_,rfl⟩,P2⟩)
  (Γ:=plG tb DV S.length n zl) (st:=B) ⟨⟨_,rfl⟩,P0⟩
 have r:=(RI.start w).run ok;obtain ⟨s,I⟩:∃ s,Ug n (s0 n tb) xs=s:=⟨_,rfl⟩;rw [I] at r ⊢;have J:=P.hs;rw [I] at J;have et:Jn (Qk 0) Je (Q9k C) [] (Jy [zl] (plG tb DV S.length n d')) ((bS n).map fun i=>PV.ref (S.length + i)) z=.ok ((bS n).map fun i=>Q7 (s.now.getD i [])) z:=by
  refine Z0 _ _ (by simp) fun i hi=>⟨_,rfl,?_⟩
  have hi:i < n:=F1.mp hi;have hS:=J.at_ i hi;exact (jy (i:=S.length + i) rfl hS (z9 (by decide +kernel) (by decide +kernel) (by decide +kernel) _ _ _) (ps:=[]) (S1:=z) rfl rfl).trans (Qma hS)
 have em:(bS n).map (fun i=>Q7 (s.now.getD i []))=s.now.map Q7:=by
  have:=Q8t s.now [] Q7;rw [this,r.ln]
 rw [em] at et;have l3:=P.len;have k:Q8x C [zo (Q7 tb),zo DV,zl,zl,zl,zl] S=.rt (.tup [.ref (S.length + n + 1),.ref (S.length + n + 2)]) (z ++ [.lst (s.now.map Q7)]):=by
  refine Qi (Q26 (Qt (n:=1) (Q5 rfl rfl) rfl e1)) ?_;refine Qi (Γ1:=[zo (Q7 tb),zo DV,zo (hsV S.length n),zl,zl,zl]) (J6 (zf (Vb a2 eh))) ?_;refine Qi (Γ1:=[zo (Q7 tb),zo DV,zo (hsV S.length n),zo (.ref (S.length + n)),zl,zl]) (S1:=S1 ++ [.lst []]) ((J6 (zg (ps:=[]) (S1:=S1) rfl)).trans (by rw [l1]; rfl)) ?_;refine Qi (Γ1:=plG tb DV S.length n zl) (S1:=B) ((J6 (zg (ps:=[]) (S1:=S1 ++ [.lst []]) rfl)).trans (by rw [D0,l1,j]; rfl)) ?_;refine Qi (y8 (Q7r (p:=DV) rfl Y (by rw [O2]; omega)) ef) ?_;have a:U9 (Q4 2) (plG tb DV S.length n d') z=.ok ((bS n).map fun i=>PV.ref (S.length + i),[]) z:=Q7r (p:=hsV S.length n) rfl rfl (by rw [O2,F6]; omega)
  rw [Q4m,U1 (Q5 (m:=Q4 4) (p:=.ref (S.length + n + 1)) rfl (Q5 (zg (Vb a et)) rfl)) (by simp),Wz,l3]
 refine ⟨_,jp k,by rw [D0,l3]; rfl,fun t Z=>?_,?_,?_⟩
 ·rw [O5 (by omega)]; exact P.old t Z
 ·rw [O5 (by omega)]; exact P.an
 ·rw [D3 (by omega),show S.length + n + 2 - z.length=0 by omega]; rfl
theorem Qhc {st st':Q2} (h:st'.length=st.length) (d:Int):fin st (.int d) st'=.ok (.int d) st':=by
 unfold fin
 by_cases q:st <+: st'
 ·rw [bK q];have:st=st':=q.eq_of_length h.symm;rw [<- this,fz]; rfl
 ·rw [bL q]
structure Mv (L:Nat) (S S':Q2):Prop where
 len:S'.length=S.length
 keep:∀ t,t≠L->S'[t]?=S[t]?
theorem Mv.refl (L:Nat) (S:Q2):Mv L S S:=⟨rfl,fun _ _=>rfl⟩
theorem Mv.trans {L:Nat} {S S1 q:Q2} (a:Mv L S S1) (b:Mv L S1 q):Mv L S q:=⟨b.len.trans a.len,fun t j=>(b.keep t j).trans (a.keep t j)⟩
theorem yw {st st':Q2} (h:st'.length=st.length) {v:PV} (g:Jz 12 v=zb):fin st v st'=.ok v st':=by
 unfold fin
 by_cases q:st <+: st'
 ·rw [bK q];have:st=st':=q.eq_of_length h.symm;rw [<- this,Q7a g (by decide)]; rfl
 ·rw [bL q]
def Tp (S:Q2) (L:Nat):Prop:=∃ c:Int,S[L]?=zo (.lst [.int c])
theorem Tp.lt {S:Q2} {L:Nat} (h:Tp S L):L < S.length:=let ⟨_,e⟩:=h; (O0.mp e).1
theorem Q2t {S:Q2} {L:Nat} (T:Tp S L) (m:Nat) (h1:1<=m) (J:m < 2 ^ 8000):∃ (d:Nat) (B:Q2),d < m/\Tp B L/\Mv L S B/\Qh [.ref L,.int m] S=.ok (.int d) B:=by
 obtain ⟨c,z⟩:=T;have Z:=(O0.mp z).1;have Y:ListAt S (.ref L) [.int c]:=.inr (.inr ⟨L,rfl,z⟩);have I:oIx S (.ref L) (.int 0)=.ok (.int c) S:=by rw [Y.ix]; rfl
 obtain ⟨d,hd,U⟩:=J1h c h1;have G:Q1e S (.ref L) (.int 0) (.int (c / (m:Int)))=zo (S.set L (.lst [.int (c / (m:Int))])):=by
  unfold Q1e;simp only [z];rfl
 obtain ⟨S1,j⟩:∃ S1,S.set L (.lst [.int (c / (m:Int))])=S1:=⟨_,rfl⟩;rw [j] at G;have M:Mv L S S1:=⟨by rw [<- j,D7],fun t O=>by rw [<- j,O6 (fun u=>O u.symm)]⟩;refine ⟨d,S1,hd,⟨_,by rw [<- j,E4 Z]⟩,M,?_⟩;have em:Q4h S (.int c) (.int m)=.ok (.int d) S:=by
  show (if 0 < (m:Int) then _ else _)=_;rw [bK (by omega),U]
 have q:=Qjt S c m h1 J;have step:y3 [zo (.ref L),zo (.int m),zl] S=.rt (.int d) S1:=
  Qi (Γ1:=[zo (.ref L),zo (.int m),zo (.int d)]) (J6 (Qf (Qf rfl rfl I) rfl em)) (Qi (Q7u (Qf (Qf rfl rfl I) rfl q) rfl rfl G) rfl)
 exact (Zv step).trans (Qhc M.len d)
theorem Qhk {m:Nat} (h:m < 10 ^ 100):m < 2 ^ 8000:=D2 h (F2 (Nat.pow_le_pow_left (show 10<=2 ^ 4 by decide) 100) (by rw [<- Nat.pow_mul]; exact gU (by decide) (by decide)))
theorem Zh {S:Q2} {L:Nat} (T:Tp S L) (m:Nat) (h1:1<=m) (q:m < 100):∃ (d:Nat) (j:Q2),d < m/\Tp j L/\Mv L S j/\Qh [.ref L,.int m] S=.ok (.int d) j:=Q2t T m h1 (Qhk (D2 q (by decide)))
theorem Q9u (ns:List Int) (k:Nat) (S:Q2):∃ c:Int,Zd [.fro (ns.map .int),.int k] S=.ok (.ref S.length) (S ++ [.lst [.int c]]):=by
 obtain ⟨c,U⟩:∃ c:Int,Vc [.fro (ns.map .int),.int k] S=.ok (.int c) S:=by
  by_cases q:k < ns.length
  ·have e:atI (ns.map PV.int) (k:Int)=zo (.int (ns.getD k 0)):=by rw [Vz,Sm.atI_get (getD_some q 0)]; rfl
   have O:(ns.map PV.int).length=ns.length:=O2 _;refine ⟨ns.getD k 0,?_⟩;generalize ns.getD k 0=x at *;generalize ns.length=nl at *;generalize ns.map PV.int=B at *;simp -implicitDefEqProofs [Vc,Qr,Kr,O,q,e]
  ·have O:(ns.map PV.int).length=ns.length:=O2 _;have q':¬ (k:Int) < (ns.length:Int):=by omega
   refine ⟨0,?_⟩;generalize ns.length=nl at *;generalize ns.map PV.int=B at *;simp -implicitDefEqProofs [Vc,Qr,Kr,O,q,q']
 by_cases q:c % 2=0
 ·refine ⟨c / 2,?_⟩;generalize ns.map PV.int=B at *;simp -implicitDefEqProofs [Zd,Zs,Kn,U,q,Jh]
 ·obtain ⟨G,j⟩:∃ G:Int,(c % 2305843009213693951 * 48271 + 69621 * k + 11) % 2305843009213693951=G:=⟨_,rfl⟩;have I:=Q7c (c % 2305843009213693951 * 48271 + 69621 * k + 11) (b:=2305843009213693951) (by decide);rw [j] at I;obtain ⟨Z,S1,e,x,y,z,rfl,rfl,_⟩:=jg (g:=fun k:Nat=>PV.int (k:Int)) (xs:=bS 5) (ga:=Qk 6) (body:=jq) (w:=[]) (Γ:=[zo (.fro (ns.map .int)),zo (.int k),zo (.int c),zo (.int 2305843009213693951),zo (.int 0),zo (.int G),zl]) (st:=S)
   (fun _ Γ st'=>∃ (x y:Int) (z:Option PV),Γ=[zo (.fro (ns.map .int)),zo (.int k),zo (.int c),zo (.int 2305843009213693951),zo (.int x),zo (.int y),z]/\st'=S/\0<=y/\y < 2305843009213693951)
   (fun _ _ _ _=>by simp)
   (fun i t Γ st' hx ⟨x,y,z,e1,e2,y1,y2⟩=>by
    subst e1; subst e2;obtain ⟨w,Y⟩:∃ w:Int,(y * y + 40692 * k + t) % 2305843009213693951=w:=⟨_,rfl⟩;have J:=Q7c (y * y + 40692 * k + t) (b:=2305843009213693951) (by decide);rw [Y] at J;have yb:-18446744073709551616 < y/\y < 18446744073709551616:=by omega
    refine ⟨_,rfl,[zo (.fro (ns.map .int)),zo (.int k),zo (.int c),zo (.int 2305843009213693951),zo (.int (x * 2305843009213693951 + y)),zo (.int w),zo (.int t)],st',?_,_,_,_,rfl,rfl,J.1,J.2⟩;generalize ns.map PV.int=B at *;simp -implicitDefEqProofs [jq,yb,Y])
   ⟨_,_,_,rfl,rfl,I.1,I.2⟩
  rw [<- Wu] at e;refine ⟨x,?_⟩;generalize ns.map PV.int=B at *;simp -implicitDefEqProofs [Zd,Zs,Kn,U,q,Jh,j,e]
theorem jr {n h:Nat} {tb:Tab} (z:Sz n tb) (hn:n<=100) (G:h < n) (st:Q2):Jd [Q7 tb,.int h] st=.ok (.int (Qn tb h)) st:=by
 have I:Jn (Qk 0) Je yy [] (Jy [zl,zo 1,zo 0] [zo (Q7 tb),zo (.int h),zl]) (Ze 0 n) st=.ok ((bS n).map fun j=>.int (ent tb j h)) st:=by
  rw [Wu];refine Z0 _ _ (by simp) fun j B=>⟨_,rfl,?_⟩
  have B:=F1.mp B;have c:=Uw z B (E2 G) st;exact Qf (Qf rfl rfl c.1) rfl c.2
 obtain ⟨U,Z⟩:=Uw z G (E2 G) st;have O:Jn (Qk 0) Je yx [] (Jy [zl] [zo (Q7 tb),zo (.int h),zo (.int (Zn n fun j=>ent tb j h))]) ((tb.getD h []).map .int) st=.ok ((tb.getD h []).map .int) st:=Z0 _ _ (by simp) fun j B=>⟨_,rfl,rfl⟩
 have q:Zg st [Q7 tb]=.ok (.int n) st:=by simp [Q7,z.1]
 have J:Zc (Q3 (J3 Zg (Q3 (Q4 0) Q8)) Q8) [zo (Q7 tb),zo (.int h),zl] st=.ok (Ze 0 n,[]) st:=by
  rw [U5,Q5 (V5 (Q5 (m:=Q4 0) (p:=Q7 tb) (S1:=st) rfl (show Q8 _ st=.ok [] st from rfl)) q) (show Q8 _ st=.ok [] st from rfl),Jc];show (if -(lim:Int)<=(n:Int)/\(n:Int)<=lim then _ else _)=_;rw [bK (by rw [Jh]; omega),cB]
 have s1:Wd (fun ns=>zo (.int ns.sum)) st [.lst ((bS n).map fun j=>.int (ent tb j h))]=.ok (.int (Zn n fun j=>ent tb j h)) st:=by
  rw [Qkt]; rfl
 have s2:Wd (fun ns=>zo (.int ns.sum)) st [.lst ((tb.getD h []).map .int)]=.ok (.int (tb.getD h []).sum) st:=by simp
 have Y:Ws st (Qz (tb.getD h []))=zo ((tb.getD h []).map .int,[]):=rfl;have hl:((tb.getD h []).map PV.int).length<=1000000:=by rw [O2,(z.row G).2]; omega
 have step:j8 [zo (Q7 tb),zo (.int h),zl] st=.rt (.int (Qn tb h)) st:=by
  refine Qi (Γ1:=[zo (Q7 tb),zo (.int h),zo (.int (Zn n fun j=>ent tb j h))]) (J6 (V5 (Q5 (zf (Vb J I)) rfl) s1)) ?_;rw [Q4m,Qf (Qf rfl (V5 (Q5 (zf (Vb (Q7r (Qf rfl rfl U) Y hl) O)) rfl) s2) rfl) (Qf (Qf rfl rfl U) rfl Z) rfl,Wz];unfold Qn;rw [z.1];congr 2;omega
 exact (Zv step).trans (Qih st _)
theorem Xw {a b:ME} {Γ:Gam} {S S1 j:Q2} {x y:PV} {r:Res PV} (h1:a Γ S=.ok x S1) (h2:b Γ S1=.ok y j) (q:Q6e j x y=r):Ya a b Γ S=r:=by unfold Ya; rw [h1,Jc,h2,Jc,q]
theorem Qfv {a b:MT} {Γ:Gam} {S S1:Q2} {r:Res Bool} (h:a Γ S=.ok zb S1) (h2:b Γ S1=r):Q16 a b Γ S=r:=by rw [Qds,h]; exact h2
theorem Qq2 {a b:MT} {Γ:Gam} {S S1:Q2} (h:a Γ S=.ok za S1):Q16 a b Γ S=.ok za S1:=by rw [Qds,h]; rfl
theorem V0 {m:ME} {Γ:Gam} {S S1:Q2} {v:PV} (h:m Γ S=.ok v S1):Jp m Γ S=.rt v S1:=by rw [Q4m,h]; rfl
theorem Q6c (S:Q2) {a b:Int} (h:a=b):oEq S (.int a) (.int b)=.ok (.bl zb) S:=by simp [h]
theorem Q6d (S:Q2) {a b:Int} (h:¬ a=b):oEq S (.int a) (.int b)=.ok (.bl za) S:=by simp [h]
theorem Q93 (S:Q2) {a b:Int} (h:a < b):oLt S (.int a) (.int b)=.ok (.bl zb) S:=by simp [h]
theorem Qbk (S:Q2) {a b:Int} (h:¬ a < b):oLt S (.int a) (.int b)=.ok (.bl za) S:=by
 have:oLt S (.int a) (.int b)=.ok (.bl (decide (a < b))) S:=by simp
 rw [this,bN h]
theorem Qnz (S:Q2) {a b:Int} (h:b < a):(oI fun a b=>.bl (decide (b < a))) S (.int a) (.int b)=.ok (.bl zb) S:=by
 show Res.ok (PV.bl (decide (b < a))) S=_; rw [bO h]
theorem Qig (S:Q2) {a b:Int} (h:¬ b < a):(oI fun a b=>.bl (decide (b < a))) S (.int a) (.int b)=.ok (.bl za) S:=by
 show Res.ok (PV.bl (decide (b < a))) S=_; rw [bN h]
theorem Qvs (S:Q2) {a b:Int} (h:0 < b):Q4h S (.int a) (.int b)=.ok (.int (a % b)) S:=by
 show (if 0 < b then _ else _)=_; rw [bK h]
theorem Q5z (S:Q2) (a b:Int):Yg S (.int a) (.int b)=.ok (.int (a + b)) S:=by simp
theorem Qg2 (S:Q2) (a b:Int):(oI fun a b=>.int (a - b)) S (.int a) (.int b)=.ok (.int (a - b)) S:=rfl
theorem Q12 {n i j:Nat} {tb:List (List Int)} (z:Sz n tb) (hn:n<=100) (hi:i < n) (hj:j<=n) (k:Int) (st:Q2):Za [Q7 tb,.int i,.int j,.int k] st=.ok (Q7 (Wm tb i j (ent tb i j + k))) st:=by
 have c0:=Uw z hi hj st;have q:=(z.row hi).2;have O:Qz ((tb.getD i []).set j (ent tb i j + k))=.tup (((tb.getD i []).take j).map .int ++ [.int (ent tb i j + k)] ++ ((tb.getD i []).drop (j + 1)).map .int):=by
  unfold Qz;rw [<- Q71 _ _ _ (by omega),F4,F4]; rfl
 have g2:Q7 (Wm tb i j (ent tb i j + k))=.tup ((tb.take i).map Qz ++ [Qz ((tb.getD i []).set j (ent tb i j + k))] ++ (tb.drop (i + 1)).map Qz):=by
  unfold Q7 Wm;rw [<- Q71 _ _ _ (by rw [z.1]; exact hi),F4,F4]; rfl
 have c3:cut ((tb.getD i []).map PV.int) zl (zo (j:Int))=((tb.getD i []).take j).map .int:=by rw [qc,Q2r]
 have Z:cut ((tb.getD i []).map PV.int) (zo ((j:Int) + 1)) zl=((tb.getD i []).drop (j + 1)).map .int:=by rw [qc]; exact congrArg _ (x8 _ (j + 1))
 have U:cut (tb.map Qz) zl (zo (i:Int))=(tb.take i).map Qz:=by rw [qc,Q2r]
 have Y:cut (tb.map Qz) (zo ((i:Int) + 1)) zl=(tb.drop (i + 1)).map Qz:=by rw [qc]; exact congrArg _ (x8 _ (i + 1))
 have l3:(((tb.getD i []).take j).map PV.int).length=j:=by rw [O2,cS,q]; omega
 have l4:(((tb.getD i []).drop (j + 1)).map PV.int).length=n - j:=by rw [O2,cV,q]; omega
 have l5:((tb.take i).map Qz).length=i:=by rw [O2,cS,z.1]; omega
 have l6:((tb.drop (i + 1)).map Qz).length=n - (i + 1):=by rw [O2,cV,z.1]
 have J:j + 1<=1000000:=by omega
 have b2:j + 1 + (n - j)<=1000000:=by omega
 have b3:i + 1<=1000000:=by omega
 have I:i + 1 + (n - (i + 1))<=1000000:=by omega
 have B:fin st (Q7 (Wm tb i j (ent tb i j + k))) st=.ok (Q7 (Wm tb i j (ent tb i j + k))) st:=Yq (by simp [Jz,Q7,Qz]);obtain ⟨G,c2⟩:=c0;have q1:oSl st (Qz (tb.getD i [])) zl (zo (j:Int))=.ok (.tup (((tb.getD i []).take j).map .int)) st:=by unfold Qz; rw [jw,c3]
 have q2:oSl st (Qz (tb.getD i [])) (zo ((j:Int) + 1)) zl=.ok (.tup (((tb.getD i []).drop (j + 1)).map .int)) st:=by unfold Qz; rw [jw,Z]
 have q3:oSl st (Q7 tb) zl (zo (i:Int))=.ok (.tup ((tb.take i).map Qz)) st:=by unfold Q7; rw [jw,U]
 have q4:oSl st (Q7 tb) (zo ((i:Int) + 1)) zl=.ok (.tup ((tb.drop (i + 1)).map Qz)) st:=by unfold Q7; rw [jw,Y]
 rw [g2] at B ⊢;rw [O] at B ⊢;generalize ent tb i j=x at *;generalize ((tb.getD i []).take j).map PV.int=v3 at *;generalize ((tb.getD i []).drop (j + 1)).map PV.int=v4 at *;generalize (tb.take i).map Qz=v5 at *;generalize (tb.drop (i + 1)).map Qz=v6 at *;generalize Qz (tb.getD i [])=rv at *;generalize Q7 tb=T at *;simp -implicitDefEqProofs at B;simp -implicitDefEqProofs [Za,Qr,j9,G,c2,q1,q2,q3,q4,Jh,l3,l4,l5,l6,J,b2,b3,I,B]
theorem Qng (st:Q2) (xs:List PV) (b:Int):Q6u st (.lst xs) (.int b)=if -(2 ^ 63)<=b/\b < 2 ^ 63/\xs.length * b.toNat<=lim then .ok (.lst (bR b.toNat xs).flatten) st else .stuck:=rfl
theorem Qxq {α:Type} (x:α):∀ n,(bR n [x]).flatten=bR n x
 | 0=>rfl
 | n + 1=>by rw [cI,cW,Qxq x n]; rfl
theorem Qdh {mr:ML} {Γ:Gam} {S S1:Q2} {ps:List PV} (h:mr Γ S=.ok ps S1) (j:ps.length<=1000000:=by decide):Q91 mr Γ S=.ok (.lst ps) S1:=by
 unfold Q91;rw [h,Jc];exact bK j
theorem Qq4 {n:Nat} (hn:n<=8) (S:Q2):qf [.int n] S=.ok (Q7 (bR n (Xt n))) S:=by
 have G:((n:Int) + 1).toNat=n + 1:=by omega
 have O:jm [zo (.int 0),zo (.int n)] S=.ok (Qz (Xt n)) S:=by
  have:Qz (Xt n)=.tup (bR (n + 1) (.int 0)):=by simp [Qz,Xt]
  rw [this];have U:Q6u S (.lst [.int 0]) (.int ((n:Int) + 1))=.ok (.lst (bR (n + 1) (.int 0))) S:=by
   rw [Qng,bK ⟨by omega,by omega,by rw [Jh,G]; simp; omega⟩,G,Qxq]
  exact V5 (Q5 (Qf (Qdh rfl) (Qf rfl rfl (Q5z S _ _)) U) rfl) rfl
 have B:Jn (Qk 0) Je jm [] (Jy [zl,zo 0] [zo (.int n)]) (Ze 0 n) S=.ok ((bS n).map fun _=>Qz (Xt n)) S:=by
  rw [Wu];refine Z0 _ _ (by simp) fun j Z=>⟨_,rfl,?_⟩
  exact O
 have J:((bS n).map fun _=>Qz (Xt n))=(bR n (Xt n)).map Qz:=by
  rw [gX];exact gY.mpr ⟨by simp,fun b I=>by obtain ⟨_,_,rfl⟩:=cL.mp I; rfl⟩
 rw [J] at B;have z:Zc (Q3 (Q4 0) Q8) [zo (.int n)] S=.ok (Ze 0 n,[]) S:=by
  rw [U5,Q5 (m:=Q4 0) (p:=.int n) (S1:=S) rfl (show Q8 _ S=.ok [] S from rfl),Jc];show (if -(lim:Int)<=(n:Int)/\(n:Int)<=lim then _ else _)=_;rw [bK (by rw [Jh]; omega),cB]
 have ct:Vh S [.lst ((bR n (Xt n)).map Qz)]=.ok (Q7 (bR n (Xt n))) S:=by
  have Y:((bR n (Xt n)).map Qz).length<=1000000:=by simp; omega
  unfold Q7;generalize (bR n (Xt n)).map Qz=q at *;simp [Jh,Y]
 have step:Q0q [zo (.int n)] S=.rt (Q7 (bR n (Xt n))) S:=V0 (V5 (Q5 (zf (Vb z B)) rfl) ct);exact (Zv step).trans (Qd8 S _)
theorem Q43 {a b:Tab} (h:a.length=b.length) (hl:a.length<=1000) (hr:∀ r∈a,r.length<=1000) (S:Q2):Ye [Q7 a,Q7 b] S=.ok (Q7 (Zi a b)) S:=by
 obtain ⟨a3,S',e,⟨Z,O,rfl⟩,rfl⟩:=Q2m (g:=fun z:List Int × List Int=>PV.tup [Qz z.1,Qz z.2]) (xs:=a.zip b)
  (fun pre Γ st=>(∃ Z O,Γ=[zo (Q7 a),zo (Q7 b),zo (.ref S.length),Z,O])/\st=S ++ [.lst (pre.map fun z=>Qz (Wc z.1 z.2))])
  (ga:=Vm (Jx (Qk 3) (Jx (Qk 4) Vn))) (body:=xb) (w:=[]) (fun _ _ _ _=>by simp)
  (fun pre z a2 Γ st hx ⟨⟨Z,O,Y⟩,j⟩=>by
   subst Y; subst j;have hz:z∈a.zip b:=by rw [hx]; simp
   have a4:pre.length<=1000:=by
    have:=congrArg dW hx;rw [dk,D0,D4,<- h,fC] at this;omega
   have I:z.1.length<=lim:=by have:=hr _ (cR hz).1; rw [Jh]; omega
   obtain ⟨st,j⟩:∃ st,S ++ [Cell.lst (pre.map fun z=>Qz (Wc z.1 z.2))]=st:=⟨_,rfl⟩
   have gt:st[S.length]?=zo (.lst (pre.map fun z=>Qz (Wc z.1 z.2))):=by rw [<- j]; simp
   rw [j];have hc:Jn (Vm (Jx (Qk 0) (Jx (Qk 1) Vn))) Je Xj [] (Jy [zl,zl] [zo (Q7 a),zo (Q7 b),zo (.ref S.length),zo (Qz z.1),zo (Qz z.2)]) ((z.1.zip z.2).map fun z=>.tup [.int z.1,.int z.2]) st=.ok ((z.1.zip z.2).map fun z=>.int (Lw.maxI z.1 z.2)) st:=by
    refine Z0 _ _ (by simp) fun u hu=>⟨_,rfl,?_⟩
    simp [Jy,Xj,Lw.maxI]
   have em:((z.1.zip z.2).map fun z=>PV.int (Lw.maxI z.1 z.2))=(Wc z.1 z.2).map .int:=by unfold Wc; rw [G6]; rfl
   rw [em] at hc;have B:Q6w (Q3 (Q4 3) (Q3 (Q4 4) Q8)) [zo (Q7 a),zo (Q7 b),zo (.ref S.length),zo (Qz z.1),zo (Qz z.2)] st=.ok ((z.1.zip z.2).map fun z=>.tup [.int z.1,.int z.2],[]) st:=by
    have G:=I;rw [Jh] at G;unfold Qz;simp [qg,I,G,Jh]
   have J:((Wc z.1 z.2).map PV.int).length<=1000000:=by
    unfold Wc;rw [O2,O2,dk];have:=gJ z.1.length z.2.length;rw [Jh] at I;omega
   have ct:Vh st [.lst ((Wc z.1 z.2).map .int)]=.ok (Qz (Wc z.1 z.2)) st:=by
    unfold Qz;generalize (Wc z.1 z.2).map PV.int=q at *;simp [Jh,J]
   have ap:=Q13 gt (by rw [O2]; omega) (Qz (Wc z.1 z.2));refine ⟨_,rfl,_,_,Q42 (p:=.ref S.length) rfl (U8 gt) (Q5 (V5 (Q5 (zf (Vb B hc)) rfl) ct) rfl) ap,⟨_,_,rfl⟩,?_⟩;rw [<- j,F4];simp)
  (Γ:=[zo (Q7 a),zo (Q7 b),zo (.ref S.length),zl,zl]) (st:=S ++ [.lst []]) ⟨⟨_,_,rfl⟩,rfl⟩
 have em:((a.zip b).map fun z=>Qz (Wc z.1 z.2))=(Zi a b).map Qz:=by unfold Zi; rw [G6]; rfl
 rw [em] at e;have J:((Zi a b).map Qz).length<=1000000:=by
  unfold Zi;rw [O2,O2,dk,<- h,fC];omega
 obtain ⟨st,j⟩:∃ st,S ++ [Cell.lst ((Zi a b).map Qz)]=st:=⟨_,rfl⟩;have gt:ListAt st (.ref S.length) ((Zi a b).map Qz):=.inr (.inr ⟨_,rfl,by rw [<- j]; simp⟩);have B:Q6w (Q3 (Q4 0) (Q3 (Q4 1) Q8)) [zo (Q7 a),zo (Q7 b),zo (.ref S.length),zl,zl] (S ++ [.lst []])=.ok ((a.zip b).map fun z=>.tup [Qz z.1,Qz z.2],[]) (S ++ [.lst []]):=by
  have U:a.length<=1000000:=by omega
  unfold Q7;simp [qg,U,Jh]
 have ct:Vh st [.ref S.length]=.ok (Q7 (Zi a b)) st:=by
  have z:st[S.length]?=zo (.lst ((Zi a b).map Qz)):=by rw [<- j]; simp
  show (match Ud st (.ref S.length) with | some xs=>Res.ok (PV.tup xs) st | none=>.stuck)=_
  rw [show Ud st (.ref S.length)=zo ((Zi a b).map Qz) from U8 z]; rfl
 rw [j] at e;have step:jb [zo (Q7 a),zo (Q7 b),zl,zl,zl] S=.rt (Q7 (Zi a b)) st:=
  Qi (Γ1:=[zo (Q7 a),zo (Q7 b),zo (.ref S.length),zl,zl]) (S1:=S ++ [.lst []]) (J6 (zg (ps:=[]) rfl)) (Qi (y8 B e) (V0 (V5 (Q5 rfl rfl) ct)))
 refine (Zv step).trans ?_;rw [<- j];exact Q5u (by simp [Jz,Q7,Qz])
def bM (t:Nat):Int:=10 ^ (21 + t)
theorem Q4v (t:Nat):bM (t + 1)=10 * bM t:=by
 unfold bM;rw [show 21 + (t + 1)=(21 + t) + 1 by omega,Int.pow_succ];omega
theorem Q9t:∀ t,1000000000000000000000<=bM t
 | 0=>by decide
 | t + 1=>by have:=Q9t t; rw [Q4v]; omega
theorem Qtx {t:Nat} (h:t<=60):8 * bM t + 2 < 10 ^ 100:=by
 have h1:bM t<=10 ^ 90:=by
  unfold bM
  exact_mod_cast gU (n:=10) (by decide) (show 21 + t<=90 by omega)
 have h2:(8:Int) * 10 ^ 90 + 2 < 10 ^ 100:=by decide +kernel
 omega
structure Bd (n:Nat) (M:Int) (tb:Tab):Prop where
 le:∀ i j,i < n->j<=n->ent tb i j<=M
theorem Qqb {n:Nat} {f:Nat->Int} {M:Int} (h:∀ o,o < n->f o<=M):Zn n f<=n * M:=by
 induction n with
 | zero=>simp [Zn]
 | succ n j=>
  rw [Jq];have h1:=j fun o q=>h o (by omega)
  have h2:=h n (by omega);have:((n + 1:Nat):Int) * M=n * M + M:=by push_cast; rw [Int.add_mul,Int.one_mul]
  omega
theorem Qqa {n:Nat} {f:Nat->Int} (h:∀ o,o < n->0<=f o):0<=Zn n f:=by
 induction n with
 | zero=>simp [Zn]
 | succ n j=>
  rw [Jq];have h1:=j fun o q=>h o (by omega)
  have h2:=h n (by omega);omega
theorem Qm7 {n:Nat} {f:Nat->Int} (h:∀ o,o < n->0<=f o) {k:Nat} (B:k < n):f k<=Zn n f:=by
 induction n with
 | zero=>omega
 | succ n z=>
  rw [Jq];have h2:=h n (by omega);have G:=Qqa (n:=n) fun o j=>h o (by omega)
  by_cases q:k=n
  ·subst q; omega
  ·have h1:=z (fun o j=>h o (by omega)) (by omega)
   omega
theorem Q57 {n h:Nat} {tb:Tab} (w:Wt' n tb) {M:Int} (b:Bd n M tb) (B:0<=M) (q:h < n):Qn tb h<=8 * M:=by
 rw [Yu w.sz q];have h1:=Qqb (n:=n) (f:=fun o=>ent tb o h) fun o z=>b.le o h z (E2 q)
 have h2:=Qm7 (n:=n) (f:=fun j=>ent tb h j) (fun o z=>w.ent_nn q (E2 z)) q
 have G:=w.ent_nn q (O7 n);have I:(n:Int) * M<=8 * M:=Int.mul_le_mul_of_nonneg_right (by have:=w.n8; omega) B;have h2:ent tb h h<=Zn n fun j=>ent tb h j:=h2
 omega
theorem Bd.put {n:Nat} {tb:Tab} (w:Wt' n tb) {M:Int} (b:Bd n M tb) {d:Dd} (o:d.ok n) {K:Int} (B:M + d.k<=K):Bd n K (d.put n tb):=by
 refine ⟨fun i j hi q=>?_⟩;unfold Dd.put;rw [Kz w.sz (Dd.ok_h o) (Dd.ok_pl o)];have h1:=b.le i j hi q;have h2:=Dd.ok_k o;have z:=b.le d.h (d.pl n) (Dd.ok_h o) (Dd.ok_pl o)
 split <;> omega
theorem Bd.up {n:Nat} {tb:Tab} {M K:Int} (b:Bd n M tb) (h:M<=K):Bd n K tb:=⟨fun i j hi q=>bf (b.le i j hi q) h⟩
theorem Qpr {n:Nat} {tb:Tab} (w:Wt' n tb) (c:Ca n tb) {d:Dd} (o:d.ok n) (G:d.isM=za->d.k<=Qn tb d.h):Wt' n (d.put n tb)/\Ca n (d.put n tb):=by
 have z:=Dd.ok_h o;have j:=Dd.ok_k o;have B:Wt' n (d.put n tb):=Qmp w o;refine ⟨B,?_⟩;cases d with
 | mk h k=>exact Ca.make w c z (by have:(1:Int)<=k:=j; omega) B
 | ld h q k=>
  have h1:k<=Qn tb h:=G rfl;have j:(1:Int)<=k:=j;exact Ca.give w c z (E2 o.2.1) o.2.2.1 (by omega) h1 (bf j h1) B
 | us h k=>
  have h1:k<=Qn tb h:=G rfl;have j:(1:Int)<=k:=j;have z:h < n:=z;exact Ca.give w c z (O7 n) (by omega) (by omega) h1 (bf j h1) B
theorem Qfw {S:Q2} {L:Nat} (T:Tp S L):∃ (k:Int) (z:Q2),(1<=k/\k<=100000000000000000000)/\Tp z L/\Mv L S z/\W8 [.ref L] S=.ok (.int k) z:=by
 obtain ⟨d,S1,hd,B,M1,e1⟩:=Zh T 12 (by decide) (by decide);have e1:Qh [.ref L,.int 12] S=.ok (.int d) S1:=e1
 by_cases q:d=11
 ·obtain ⟨x,j,I,G,M2,e2⟩:=Zh B 3 (by decide) (by decide);have e2:Qh [.ref L,.int 3] S1=.ok (.int x) j:=e2;have M:=M1.trans M2;have hp:Qnf S1 (.int 10) (.int 20)=.ok (.int 100000000000000000000) S1:=by
   rw [Qne,bK (by decide)]; rfl
  have step:Kq [zo (.ref L),zl] S=.rt (.int (100000000000000000000 - (x:Int))) j:=
   Qi (Γ1:=[zo (.ref L),zo (.int d)]) (J6 (Qt (n:=2) (Q5 rfl (Q5 rfl rfl)) rfl e1)) (K2 (jd (J5 (Qf rfl rfl (Q6c S1 (by omega)))) (V0 (Qf (Qf rfl rfl hp) (Qt (n:=2) (Q5 rfl (Q5 rfl rfl)) rfl e2) (Qg2 j _ _)))))
  exact ⟨_,j,by omega,G,M,(Zv step).trans (Qhc M.len _)⟩
 ·have b:=Q7c (d:Int) (b:=7) (by decide);have step:Kq [zo (.ref L),zl] S=.rt (.int (1 + (d:Int) % 7)) S1:=
   Qi (Γ1:=[zo (.ref L),zo (.int d)]) (J6 (Qt (n:=2) (Q5 rfl (Q5 rfl rfl)) rfl e1)) (Qi (Yh (J5 (Qf rfl rfl (Q6d S1 (by omega)))) rfl) (V0 (Qf rfl (Qf rfl rfl (Qvs S1 (by decide))) (Q5z S1 _ _))))
  exact ⟨_,S1,by omega,B,M1,(Zv step).trans (Qhc M1.len _)⟩
theorem Qi1 {n i y:Nat} (hi:i < n) (j:y < n - 1):∃ q:Nat,((i:Int) + 1 + (y:Int)) % (n:Int)=(q:Int)/\q < n/\q≠i:=by
 by_cases h:i + 1 + y < n
 ·exact ⟨i + 1 + y,by rw [gZ (by omega) (by omega)]; omega,h,by omega⟩
 ·refine ⟨i + 1 + y - n,?_,by omega,by omega⟩;have e:((i:Int) + 1 + (y:Int))=((i + 1 + y - n:Nat):Int) + (n:Int):=by omega
  rw [e,Int.add_emod_right,gZ (by omega) (by omega)]
abbrev tbG (L n m:Nat) (tb:Tab) (c4 c5 c6 c7 c8:Option PV):Gam:=[zo (.ref L),zo (.int n),zo (.int m),zo (Q7 tb),c4,c5,c6,c7,c8]
structure TbI (n:Nat) (t:Nat) (tb:Tab):Prop where
 w:Wt' n tb
 c:Ca n tb
 b:Bd n (bM t) tb
theorem TbI.put {n t:Nat} {tb:Tab} (I:TbI n t tb) {d:Dd} (o:d.ok n) (q:d.isM=za->d.k<=Qn tb d.h) (z:d.isM=zb->d.k<=100000000000000000000):TbI n (t + 1) (d.put n tb):=by
 have h:=Qpr I.w I.c o q;refine ⟨h.1,h.2,I.b.put I.w o ?_⟩;have g:=Q9t t;rw [Q4v];cases j:d.isM with
 | true=>have:=z j; omega
 | false=>
  have h1:=q j;have h2:=Q57 I.w I.b (by omega) (Dd.ok_h o);omega
theorem Qft {S:Q2} {L n m t:Nat} {tb:Tab} (T:Tp S L) (I:TbI n t tb) (ht:t<=20) (G c5 c6 Z J:Option PV):∃ (a4:Tab) (S':Q2) (d5 d6 d7 d8:Option PV),TbI n (t + 1) a4/\Tp S' L/\Mv L S S'/\Ke (tbG L n m tb G c5 c6 Z J) S=.nx (tbG L n m a4 G d5 d6 d7 d8) S':=by
 have w:=I.w;have h1:=w.n1;have h8:=w.n8;obtain ⟨i,S1,hi,T1,M1,e1⟩:=Zh T n h1 (by omega);obtain ⟨y,B,hy,T2,M2,e2⟩:=Zh T1 4 (by decide) (by decide);have e2:Qh [.ref L,.int 4] S1=.ok (.int y) B:=e2;have e3:=jr w.sz (by omega) hi B;obtain ⟨r,hr⟩:∃ r:Nat,Qn tb i=(r:Int):=⟨(Qn tb i).toNat,by have:=I.c.nn i hi; omega⟩;rw [hr] at e3;have Y:=M1.trans M2;have k1:J8 5 (Qg 2 Qh (Q3 (Q4 0) (Q3 (Q4 1) Q8))) (tbG L n m tb G c5 c6 Z J) S=.nx (tbG L n m tb G (zo (.int i)) c6 Z J) S1:=J6 (Qt (n:=2) (Q5 rfl (Q5 rfl rfl)) rfl e1);have k2:J8 6 (Qg 2 Qh (Q3 (Q4 0) (Q3 (mC (.int 4)) Q8))) (tbG L n m tb G (zo (.int i)) c6 Z J) S1=.nx (tbG L n m tb G (zo (.int i)) (zo (.int y)) Z J) B:=J6 (Qt (n:=2) (Q5 rfl (Q5 rfl rfl)) rfl e2);have k3:J8 7 (Qg 2 Jd (Q3 (Q4 3) (Q3 (Q4 5) Q8))) (tbG L n m tb G (zo (.int i)) (zo (.int y)) Z J) B=.nx (tbG L n m tb G (zo (.int i)) (zo (.int y)) (zo (.int r)) J) B:=J6 (Qt (n:=2) (Q5 rfl (Q5 rfl rfl)) rfl e3)
 have a7:=Q57 w I.b (by have:=Q9t t; omega) hi;have a6:=Qtx (t:=t) (by omega);have a2:r < 2 ^ 8000:=Qhk (by
  have:(r:Int) < 10 ^ 100:=by omega
  exact_mod_cast this)
 by_cases q:y < 2\/r=0
 ·obtain ⟨k,O,hk,T3,M3,e4⟩:=Qfw T2;have o:(Dd.mk i k).ok n:=⟨hi,hk.1⟩;have e5:=Q12 w.sz (by omega) hi (E2 hi) k O;refine ⟨_,O,_,_,_,_,I.put o (fun z=>by cases z) (fun _=>hk.2),T3,Y.trans M3,Qi k1 (Qi k2 (Qi k3 (jd ?_ (J6 (Qt (n:=4) (Q5 rfl (Q5 rfl (Q5 rfl (Q5 (Qt (n:=1) (Q5 rfl rfl) rfl e4) rfl)))) rfl e5)))))⟩
  by_cases q1:y < 2
  ·exact Qya (J5 (Qf rfl rfl (Q93 B (by omega))))
  ·exact Qcn (J5 (Qf rfl rfl (Qbk B (by omega)))) (J5 (Qf rfl rfl (Q6c B (by omega))))
 ·have a3:1<=r:=by omega
  have t1:yg (toB (mOp oLt (Q4 6) (mC (.int 2)))) (toB (mOp oEq (Q4 7) (mC (.int 0)))) (tbG L n m tb G (zo (.int i)) (zo (.int y)) (zo (.int r)) J) B=.ok za B:=Qcn (J5 (Qf rfl rfl (Qbk B (by omega)))) (J5 (Qf rfl rfl (Q6d B (by omega))))
  by_cases q2:y=2/\1 < n
  ·obtain ⟨z,O,hz,T3,M3,e4⟩:=Zh T2 (n - 1) (by omega) (by omega);have e4:Qh [.ref L,.int ((n:Int) - 1)] B=.ok (.int z) O:=by rw [show ((n:Int) - 1)=((n - 1:Nat):Int) by omega]; exact e4
   obtain ⟨j,ej,hj,a5⟩:=Qi1 hi hz;obtain ⟨x,U,hx,T4,M4,e5⟩:=Q2t T3 r a3 a2;have o:(Dd.ld i j (1 + (x:Int))).ok n:=⟨hi,hj,a5,by omega⟩;have e6:=Q12 w.sz (by omega) hi (E2 hj) (1 + (x:Int)) U;refine ⟨_,U,_,_,_,_,I.put o (fun _=>?_) (fun z=>by cases z),T4,(Y.trans M3).trans M4,Qi k1 (Qi k2 (Qi k3 (Yh t1 (jd (Qfv (J5 (Qf rfl rfl (Q6c B (by omega)))) (J5 (Qf rfl rfl (Qnz B (by omega))))) (Qi (Γ1:=tbG L n m tb G (zo (.int i)) (zo (.int y)) (zo (.int r)) (zo (.int j))) (S1:=O) (J6 (Qf (Qf (Qf rfl rfl (Q5z B _ _)) (Qt (n:=2) (Q5 rfl (Q5 (Qf rfl rfl (Qg2 B _ _)) rfl)) rfl e4) (Q5z O _ _)) rfl ?_)) (J6 (Qt (n:=4) (Q5 rfl (Q5 rfl (Q5 rfl (Q5 (Qf rfl (Qt (n:=2) (Q5 rfl (Q5 rfl rfl)) rfl e5) (Q5z U _ _)) rfl)))) rfl e6)))))))⟩
   ·show 1 + (x:Int)<=Qn tb i;rw [hr]; omega
   ·rw [Qvs O (by omega),ej]
  ·obtain ⟨x,U,hx,T4,M4,e5⟩:=Q2t T2 r a3 a2;have o:(Dd.us i (1 + (x:Int))).ok n:=⟨hi,by omega⟩;have e6:=Q12 w.sz (by omega) hi (O7 n) (1 + (x:Int)) U;have t2:Q16 (toB (mOp oEq (Q4 6) (mC (.int 2)))) (toB (mOp (oI fun a b=>.bl (decide (b < a))) (Q4 1) (mC (.int 1)))) (tbG L n m tb G (zo (.int i)) (zo (.int y)) (zo (.int r)) J) B=.ok za B:=by
    by_cases q3:y=2
    ·exact Qfv (J5 (Qf rfl rfl (Q6c B (by omega)))) (J5 (Qf rfl rfl (Qig B (by omega))))
    ·exact Qq2 (J5 (Qf rfl rfl (Q6d B (by omega))))
   refine ⟨_,U,_,_,_,_,I.put o (fun _=>?_) (fun z=>by cases z),T4,Y.trans M4,Qi k1 (Qi k2 (Qi k3 (Yh t1 (Yh t2 (J6 (Qt (n:=4) (Q5 rfl (Q5 rfl (Q5 rfl (Q5 (Qf rfl (Qt (n:=2) (Q5 rfl (Q5 rfl rfl)) rfl e5) (Q5z U _ _)) rfl)))) rfl e6))))))⟩;show 1 + (x:Int)<=Qn tb i;rw [hr]; omega
theorem Qp8 {n i j:Nat} (hi:i < n) (q:j<=n):ent (bR n (Xt n)) i j=0:=by
 unfold ent;rw [G8 (l:=bR n (Xt n)),cU,bK hi,Option.getD_some,Xt,G8,cU,bK (by omega)]; rfl
theorem Qkv {S:Q2} {L n m:Nat} (T:Tp S L) (h1:1<=n) (Y:n<=8) (hm:m<=9):∃ (tb:Tab) (q:Q2),TbI n m tb/\Tp q L/\Mv L S q/\Vr [.ref L,.int n,.int m] S=.ok (Q7 tb) q:=by
 have w0:=Qq5 h1 Y;have I0:TbI n 0 (bR n (Xt n)):=⟨w0,Ca.zero h1 Y w0,⟨fun i j hi hj=>by rw [Qp8 hi hj]; have:=Q9t 0; omega⟩⟩;obtain ⟨a3,q,e,tb,U,B,G,J,z,rfl,I,Z,M⟩:=jg (g:=fun k:Nat=>PV.int (k:Int)) (xs:=bS m) (ga:=Qk 4) (body:=Ke) (w:=[]) (Γ:=tbG L n m (bR n (Xt n)) zl zl zl zl zl) (st:=S)
  (fun t Γ st=>∃ tb U B G J z,Γ=tbG L n m tb U B G J z/\TbI n t tb/\Tp st L/\Mv L S st) (fun _ _ _ _=>by simp)
  (fun t x Γ st hx ⟨tb,U,B,G,J,z,a2,I,T,M⟩=>by
   subst a2;have a5:t < m:=by simpa using (O0.mp hx).1
   obtain ⟨a4,q,d5,d6,d7,d8,I',Z,M',e⟩:=Qft (m:=m) T I (by omega) (zo (.int x)) B G J z;exact ⟨_,rfl,_,_,e,_,_,_,_,_,_,rfl,I',Z,M.trans M'⟩)
  ⟨_,_,_,_,_,_,rfl,I0,T,Mv.refl L S⟩
 rw [F6] at I;rw [<- Wu] at e;have O:Zc (Q3 (Q4 2) Q8) (tbG L n m (bR n (Xt n)) zl zl zl zl zl) S=.ok (Ze 0 m,[]) S:=by
  rw [U5,Q5 (m:=Q4 2) (p:=.int m) (S1:=S) rfl (show Q8 _ S=.ok [] S from rfl),Jc];show (if -(lim:Int)<=(m:Int)/\(m:Int)<=lim then _ else _)=_;rw [bK (by rw [Jh]; omega),cB]
 have step:zy [zo (.ref L),zo (.int n),zo (.int m),zl,zl,zl,zl,zl,zl] S=.rt (Q7 tb) q:=
  Qi (Γ1:=tbG L n m (bR n (Xt n)) zl zl zl zl zl) (J6 (Qt (n:=1) (Q5 rfl rfl) rfl (Qq4 Y S))) (Qi (y8 O e) rfl)
 exact ⟨tb,q,I,Z,M,(Zv step).trans (yw M.len (by simp [Jz,Q7,Qz]))⟩
theorem Qkz (ns:List Int):∃ (n:Nat) (tb:Tab),(1<=n/\n<=8)/\TbI n 8 tb/\Vu [.fro (ns.map .int)] []=.ok (Q7 tb) []:=by
 obtain ⟨c,j⟩:=Q9u ns 0 [];have j:Zd [.fro (ns.map .int),.int 0] []=.ok (.ref 0) [.lst [.int c]]:=j;have J:Tp [.lst [.int c]] 0:=⟨c,rfl⟩;obtain ⟨a,S1,Z,G,M1,e1⟩:=Zh J 8 (by decide) (by decide);have e1:Qh [.ref 0,.int 8] [.lst [.int c]]=.ok (.int a) S1:=e1;obtain ⟨m,z,O,B,M2,e2⟩:=Zh G 9 (by decide) (by decide);have e2:Qh [.ref 0,.int 9] S1=.ok (.int m) z:=e2;obtain ⟨tb,q,I,Y,U,e3⟩:=Qkv (n:=1 + a) (m:=m) B (by omega) (by omega) (by omega);have e3:Vr [.ref 0,.int (1 + (a:Int)),.int m] z=.ok (Q7 tb) q:=by rw [show (1 + (a:Int))=((1 + a:Nat):Int) by omega]; exact e3
 have up:∀ t k,bM t<=bM (t + k):=fun t k=>by
  induction k with
  | zero=>exact bb _
  | succ k ih=>have:=Q4v (t + k); have:=Q9t (t + k); rw [show t + (k + 1)=t + k + 1 by omega]; omega
 refine ⟨1 + a,tb,by omega,⟨I.w,I.c,I.b.up ?_⟩,?_⟩
 ·have:=up m (8 - m); rwa [show m + (8 - m)=8 by omega] at this
 have step:y4 [zo (.fro (ns.map .int)),zl,zl] []=.rt (Q7 tb) q:=
  Qi (Γ1:=[zo (.fro (ns.map .int)),zo (.ref 0),zl]) (J6 (Qt (n:=2) (Q5 rfl (Q5 rfl rfl)) rfl j)) (Qi (Γ1:=[zo (.fro (ns.map .int)),zo (.ref 0),zo (.int (1 + (a:Int)))]) (J6 (Qf rfl (Qt (n:=2) (Q5 rfl (Q5 rfl rfl)) rfl e1) (Q5z S1 _ _))) (V0 (Qt (n:=3) (Q5 rfl (Q5 rfl (Q5 (Qt (n:=2) (Q5 rfl (Q5 rfl rfl)) rfl e2) rfl))) rfl e3)))
 refine (Zv step).trans ?_;exact Q5u (st:=[]) (more:=q) (by simp [Jz,Q7,Qz])
def stD:List (Key × PV):=[(.inr "now",.ref 0),(.inr "last",.ref 1),(.inr "letters",.ref 2)]
structure LS (s:RS) (S:Q2):Prop where
 now:S[0]?=zo (.lst (s.now.map Q7))
 last:S[1]?=zo (.lst (s.last.map Q7))
 le:S[2]?=zo (.lst (s.le.map Q7))
 st:S[3]?=zo (.dic stD)
theorem LS.of {s:RS} {S j:Q2} (h:LS s S) (e:∀ t,t < 4->j[t]?=S[t]?):LS s j:=
 ⟨by rw [e 0 (by decide)]; exact h.now,by rw [e 1 (by decide)]; exact h.last,by rw [e 2 (by decide)]; exact h.le,by rw [e 3 (by decide)]; exact h.st⟩
theorem LS.mv {s:RS} {S j:Q2} {L:Nat} (h:LS s S) (M:Mv L S j) (z:4<=L):LS s j:=h.of fun t q=>M.keep t (by omega)
theorem Qgw:¬ ((.inr (bP "now"):Key)=.inr (bP "last")):=by decide +kernel
theorem Qju:¬ ((.inr (bP "now"):Key)=.inr (bP "letters")):=by decide +kernel
theorem Qgy:¬ ((.inr (bP "last"):Key)=.inr (bP "letters")):=by decide +kernel
theorem Qx6:Q2u stD (.inr "now")=zo (.ref 0):=by simp [Q2u,stD]
theorem Qu0:Q2u stD (.inr "last")=zo (.ref 1):=by
 unfold Q2u stD;rw [fK (by simpa using Qgw)];simp
theorem Qx7:Q2u stD (.inr "letters")=zo (.ref 2):=by
 unfold Q2u stD;rw [fK (by simpa using Qju),fK (by simpa using Qgy)];simp
theorem Qpd {S:Q2} {i:Nat} {kvs:List (Key × PV)} (h:S[i]?=zo (.dic kvs)) {x:Str} {v:PV} (e:Q2u kvs (.inr x)=zo v):Q6e S (.ref i) (.str x)=.ok v S:=by
 have h1:Qbt S (.ref i)=zo kvs:=by unfold Qbt; simp only [h]
 unfold Q6e;rw [h1];show (match Q2u kvs (.inr x) with | some v=>Res.ok v S | none=>.stuck)=_
 rw [e]
section
variable {s:RS} {S:Q2}
theorem LS.gn (h:LS s S):Q6e S (.ref 3) (.str "now")=.ok (.ref 0) S:=Qpd h.st Qx6
theorem LS.gl (h:LS s S):Q6e S (.ref 3) (.str "last")=.ok (.ref 1) S:=Qpd h.st Qu0
theorem LS.ge (h:LS s S):Q6e S (.ref 3) (.str "letters")=.ok (.ref 2) S:=Qpd h.st Qx7
theorem zh {k i:Nat} {xs:List Tab} (h:S[k]?=zo (.lst (xs.map Q7))) (hi:i < xs.length):oIx S (.ref k) (.int i)=.ok (Q7 (xs.getD i [])) S:=by
 have j:ListAt S (.ref k) (xs.map Q7):=.inr (.inr ⟨k,rfl,h⟩);rw [j.ix,Vz,Sm.atI_get (getD_some hi [])]; rfl
theorem Q70 {k i:Nat} {xs:List Tab} (h:S[k]?=zo (.lst (xs.map Q7))) (hi:i < xs.length) (t:Tab):Q1e S (.ref k) (.int i) (Q7 t)=zo (S.set k (.lst ((xs.set i t).map Q7))):=by
 have e:ixN (xs.map Q7).length (i:Int)=zo i:=by
  rw [O2];unfold ixN;rw [bK (by omega),bK (by omega)]; simp
 unfold Q1e;simp only [h,e];rw [List.map_set]; rfl
end
theorem Qpz {n:Nat} {s:RS} {S:Q2} (h:LS s S) (r:RI n s) {x:Dx} (o:x.ok n s) (hl:s.le.length < 100000):∃ S',qe [.ref 3,x.V] S=.ok (Q4w s x) S'/\LS (Z3 n s x) S'/\S'.length=S.length/\∀ t,3<=t->S'[t]?=S[t]?:=by
 have b0:=(O0.mp h.now).1;have b1:=(O0.mp h.last).1;have b2:=(O0.mp h.le).1;have G:∀ xs:List Tab,LS ⟨xs,s.last,s.le⟩ (S.set 0 (.lst (xs.map Q7))):=fun xs=>⟨E4 b0,by rw [O6 (by decide)]; exact h.last,by rw [O6 (by decide)]; exact h.le,by rw [O6 (by decide)]; exact h.st⟩
 have ext:∀ (k:Nat) (c:Cell),k < 3->∀ t,3<=t->(S.set k c)[t]?=S[t]?:=fun k c hk t ht=>O6 (by omega)
 have fg:∀ (k:Nat) (c:Cell),fin S (.str "done") (S.set k c)=.ok (.str "done") (S.set k c):=fun k c=>yw D7 rfl
 cases x with
 | own d=>
  have O:=Dd.ok_h o;have hi:d.h < s.now.length:=by rw [r.ln]; exact O
  have w:=r.wn d.h O;have h8:=w.n8;have ix:=zh h.now hi;have er:=jr w.sz (by omega) O S;have en:Zg S [.ref 0]=.ok (.int n) S:=by
   have hV:ListAt S (.ref 0) (s.now.map Q7):=.inr (.inr ⟨0,rfl,h.now⟩);rw [hV.len,O2,r.ln]
  have ea:=Q12 w.sz (by omega) O (Dd.ok_pl o) d.k S;have es:=Q70 h.now hi (d.put n (s.now.getD d.h []));have J:∀ (B:Str) (pl:PV),oIx S d.V (.int 0)=.ok (.str B) S->¬ B = "keep" -> ¬ B = "fall" -> ¬ B = "send" -> ¬ B = "come" -> (B = "make" <-> d.isM=zb)->oIx S d.V (.int 2)=.ok pl S->Q62 "make" "use" "lend" (.int d.h) (.int n) pl S (.str B)=.ok (.int (d.pl n)) S ->
    Yn [zo (.ref 3),zo d.V,zl,zl,zl,zl] S=(if d.fits (s.now.getD d.h [])=zb then .rt (.str "done") (S.set 0 (.lst ((s.now.set d.h (d.put n (s.now.getD d.h []))).map Q7))) else .rt (.int (Qn (s.now.getD d.h []) d.h)) S):=by
   intro B pl a0 k1 k2 k3 k4 km a2 pk;refine Qi (Γ1:=[zo (.ref 3),zo d.V,zo (.ref 0),zl,zl,zl]) (J6 (Xw rfl rfl h.gn)) ?_;have I:∀ U Z:Option PV,∀ u:Str,¬ B=u->toB (mOp oEq (mOp oIx (Q4 1) (mC (.int 0))) (mC (.str u))) [zo (.ref 3),zo d.V,zo (.ref 0),zl,U,Z] S=.ok za S:=fun U Z u hu=>J5 (Qf (Qf rfl rfl a0) rfl (Kh S hu))
   have c1:J8 3 (mOp oIx (Q4 1) (mC (.int 1))) [zo (.ref 3),zo d.V,zo (.ref 0),zl,zl,zl] S=.nx [zo (.ref 3),zo d.V,zo (.ref 0),zo (.int d.h),zl,zl] S:=J6 (Qf rfl rfl (Dd.a1 d S));have c2:J8 4 (Qg 2 Jd (Q3 (mOp oIx (Q4 2) (Q4 3)) (Q3 (Q4 3) Q8))) [zo (.ref 3),zo d.V,zo (.ref 0),zo (.int d.h),zl,zl] S=.nx [zo (.ref 3),zo d.V,zo (.ref 0),zo (.int d.h),zo (.int (Qn (s.now.getD d.h []) d.h)),zl] S:=J6 (Qt (n:=2) (Q5 (Qf rfl rfl ix) (Q5 rfl rfl)) rfl er);have al:mOp oIx (Q4 1) (Q31 (mC (.int 1))) [zo (.ref 3),zo d.V,zo (.ref 0),zo (.int d.h),zo (.int (Qn (s.now.getD d.h []) d.h)),zl] S=.ok (.int d.k) S:=Qf rfl rfl (Dd.al d S);have cond:Q16 (toB (mOp oNe (mOp oIx (Q4 1) (mC (.int 0))) (mC (.str "make")))) (toB (mOp oLt (Q4 4) (mOp oIx (Q4 1) (Q31 (mC (.int 1)))))) [zo (.ref 3),zo d.V,zo (.ref 0),zo (.int d.h),zo (.int (Qn (s.now.getD d.h []) d.h)),zl] S=.ok (!d.fits (s.now.getD d.h [])) S:=by
    unfold Dd.fits;cases Y:d.isM with
    | true=>
     have hw:=km.mpr Y;rw [Bool.true_or,gC];exact Qq2 (J5 (Qf (Qf rfl rfl a0) rfl (show oNe S (.str B) (.str "make")=.ok (.bl za) S by rw [hw]; simp)))
    | false=>
     have hw:¬ B = "make" := fun z=>by rw [km.mp z] at Y; cases Y
     refine (Qfv (J5 (Qf (Qf rfl rfl a0) rfl (show oNe S (.str B) (.str "make")=.ok (.bl zb) S by simp [hw]))) ?_)
     by_cases q:d.k<=Qn (s.now.getD d.h []) d.h
     ·rw [bO q];exact J5 (Qf rfl al (Qbk S (by omega)))
     ·rw [bN q];exact J5 (Qf rfl al (Q93 S (by omega)))
   by_cases q:d.fits (s.now.getD d.h [])=zb
   ·rw [bK q];rw [q] at cond;have c3:J8 5 (Qf2 "make" "use" "lend" (Q4 3) (J3 Zg (Q3 (Q4 2) Q8)) (mOp oIx (Q4 1) (mC (.int 2))) (mOp oIx (Q4 1) (mC (.int 0)))) [zo (.ref 3),zo d.V,zo (.ref 0),zo (.int d.h),zo (.int (Qn (s.now.getD d.h []) d.h)),zl] S=.nx [zo (.ref 3),zo d.V,zo (.ref 0),zo (.int d.h),zo (.int (Qn (s.now.getD d.h []) d.h)),zo (.int (d.pl n))] S:=by
     refine J6 ?_;rw [Qnp,show Q4 3 [zo (PV.ref 3),zo d.V,zo (.ref 0),zo (.int d.h),zo (.int (Qn (s.now.getD d.h []) d.h)),zl] S=.ok (.int d.h) S from rfl,Jc,V5 (Q5 (m:=Q4 2) (p:=.ref 0) rfl rfl) en,Jc,Qf rfl rfl a2,Jc,Qf rfl rfl a0,Jc,pk]
    have c4:Q0s (Q4 2) (Q4 3) (Qg 4 Za (Q3 (mOp oIx (Q4 2) (Q4 3)) (Q3 (Q4 3) (Q3 (Q4 5) (Q3 (mOp oIx (Q4 1) (Q31 (mC (.int 1)))) Q8))))) [zo (.ref 3),zo d.V,zo (.ref 0),zo (.int d.h),zo (.int (Qn (s.now.getD d.h []) d.h)),zo (.int (d.pl n))] S=.nx [zo (.ref 3),zo d.V,zo (.ref 0),zo (.int d.h),zo (.int (Qn (s.now.getD d.h []) d.h)),zo (.int (d.pl n))] (S.set 0 (.lst ((s.now.set d.h (d.put n (s.now.getD d.h []))).map Q7))):=
     Q7u (Qt (n:=4) (Q5 (Qf rfl rfl ix) (Q5 rfl (Q5 rfl (Q5 (Qf rfl rfl (Dd.al d S)) rfl)))) rfl ea) rfl rfl es
    exact Qi (Yh (I zl zl _ k1) (Yh (I zl zl _ k2) (Yh (I zl zl _ k3) (Yh (I zl zl _ k4) (Qi c1 (Qi c2 (Qi (Yh cond rfl) (Qi c3 c4)))))))) rfl
   ·rw [bL q];rw [Bool.not_eq_true] at q;rw [q] at cond;exact K2 (Yh (I zl zl _ k1) (Yh (I zl zl _ k2) (Yh (I zl zl _ k3) (Yh (I zl zl _ k4) (Qi c1 (Qi c2 (K2 (jd cond rfl))))))))
  have j:Yn [zo (.ref 3),zo d.V,zl,zl,zl,zl] S=(if d.fits (s.now.getD d.h [])=zb then .rt (.str "done") (S.set 0 (.lst ((s.now.set d.h (d.put n (s.now.getD d.h []))).map Q7))) else .rt (.int (Qn (s.now.getD d.h []) d.h)) S):=by
   cases d with
   | mk O k=>exact J "make" (.int k) rfl Qep Qeq Qen Qer ⟨fun _=>rfl,fun _=>rfl⟩ rfl (by rw [Q59,bK rfl]; rfl)
   | ld O q k=>exact J "lend" (.int q) rfl Qet Qeu Qes Qev ⟨fun z=>absurd z Q1t,fun z=>by cases z⟩ rfl (by rw [Q59,bL Q1t,bL Qgx,bK rfl]; rfl)
   | us O k=>exact J "use" (.int k) rfl Qgt Qgu Qgr Qgv ⟨fun z=>absurd z Q3q,fun z=>by cases z⟩ rfl (by rw [Q59,bL Q3q,bK rfl]; rfl)
  by_cases q:d.fits (s.now.getD d.h [])=zb
  ·rw [bK q] at j;have z1:Q4w s (.own d)=.str "done" := bK q;have z2:Z3 n s (.own d)=⟨s.now.set d.h (d.put n (s.now.getD d.h [])),s.last,s.le⟩:=bK q;rw [z1,z2];exact ⟨_,(Zv j).trans (fg _ _),G _,D7,ext 0 _ (by decide)⟩
  ·rw [bL q] at j;have z1:Q4w s (.own d)=.int (Qn (s.now.getD d.h []) d.h):=bL q;have z2:Z3 n s (.own d)=s:=bL q;rw [z1,z2];exact ⟨S,(Zv j).trans (Qih S _),h,rfl,fun _ _=>rfl⟩
 | kp i=>
  have hi:i < n:=o;have k:Yn [zo (.ref 3),zo (Dx.kp i).V,zl,zl,zl,zl] S=.rt (.str "done") (S.set 1 (.lst ((s.last.set i (s.now.getD i [])).map Q7))):=
   Qi (Γ1:=[zo (.ref 3),zo (Dx.kp i).V,zo (.ref 0),zl,zl,zl]) (J6 (Xw rfl rfl h.gn)) (Qi (jd (J5 (Qf (Qf rfl rfl rfl) rfl (Q4s S _))) (Q7u (Qf rfl (Qf rfl rfl rfl) (zh h.now (by rw [r.ln]; exact hi))) (Xw rfl rfl h.gl) (Qf rfl rfl rfl) (Q70 h.last (by rw [r.ll]; exact hi) _))) rfl)
  exact ⟨_,(Zv k).trans (fg _ _),⟨by rw [O6 (by decide)]; exact h.now,E4 b1,by rw [O6 (by decide)]; exact h.le,by rw [O6 (by decide)]; exact h.st⟩,D7,ext 1 _ (by decide)⟩
 | fl i=>
  have hi:i < n:=o;have k:Yn [zo (.ref 3),zo (Dx.fl i).V,zl,zl,zl,zl] S=.rt (.str "done") (S.set 0 (.lst ((s.now.set i (s.last.getD i [])).map Q7))):=
   Qi (Γ1:=[zo (.ref 3),zo (Dx.fl i).V,zo (.ref 0),zl,zl,zl]) (J6 (Xw rfl rfl h.gn)) (Qi (Yh (J5 (Qf (Qf rfl rfl rfl) rfl (Kh S Q65))) (jd (J5 (Qf (Qf rfl rfl rfl) rfl (Q4s S _))) (Q7u (Qf (Xw rfl rfl h.gl) (Qf rfl rfl rfl) (zh h.last (by rw [r.ll]; exact hi))) rfl (Qf rfl rfl rfl) (Q70 h.now (by rw [r.ln]; exact hi) _)))) rfl)
  exact ⟨_,(Zv k).trans (fg _ _),G _,D7,ext 0 _ (by decide)⟩
 | sd i=>
  have hi:i < n:=o;have k:Yn [zo (.ref 3),zo (Dx.sd i).V,zl,zl,zl,zl] S=.rt (.str "done") (S.set 2 (.lst (s.le.map Q7 ++ [Q7 (s.last.getD i [])]))):=
   Qi (Γ1:=[zo (.ref 3),zo (Dx.sd i).V,zo (.ref 0),zl,zl,zl]) (J6 (Xw rfl rfl h.gn)) (Qi (Yh (J5 (Qf (Qf rfl rfl rfl) rfl (Kh S Q63))) (Yh (J5 (Qf (Qf rfl rfl rfl) rfl (Kh S Q64))) (jd (J5 (Qf (Qf rfl rfl rfl) rfl (Q4s S _)))
    (Q42 (Xw rfl rfl h.ge) (U8 h.le) (Q5 (Qf (Xw rfl rfl h.gl) (Qf rfl rfl rfl) (zh h.last (by rw [r.ll]; exact hi))) rfl) (Q13 h.le (by rw [O2]; omega) _))))) rfl)
  refine ⟨_,(Zv k).trans (fg _ _),⟨by rw [O6 (by decide)]; exact h.now,by rw [O6 (by decide)]; exact h.last,?_,by rw [O6 (by decide)]; exact h.st⟩,D7,ext 2 _ (by decide)⟩;rw [E4 b2];show _=zo (Cell.lst ((s.le ++ [s.last.getD i []]).map Q7));rw [F4]; rfl
 | cm l i=>
  obtain ⟨a3,hi⟩:=o;have wN:=r.wn i hi;have Y:s.le.getD l []∈s.le:=D5 (getD_some a3 []);have wL:=r.we _ Y;have h8:=wN.n8;have ej:=Q43 (a:=s.now.getD i []) (b:=s.le.getD l []) (by rw [wN.len,wL.len]) (by rw [wN.len]; omega) (fun q hq=>by rw [wN.row q hq]; omega) S;have k:Yn [zo (.ref 3),zo (Dx.cm l i).V,zl,zl,zl,zl] S=.rt (.str "done") (S.set 0 (.lst ((s.now.set i (Zi (s.now.getD i []) (s.le.getD l []))).map Q7))):=
   Qi (Γ1:=[zo (.ref 3),zo (Dx.cm l i).V,zo (.ref 0),zl,zl,zl]) (J6 (Xw rfl rfl h.gn)) (Qi (Yh (J5 (Qf (Qf rfl rfl rfl) rfl (Kh S Q67))) (Yh (J5 (Qf (Qf rfl rfl rfl) rfl (Kh S Q68))) (Yh (J5 (Qf (Qf rfl rfl rfl) rfl (Kh S Q66))) (jd (J5 (Qf (Qf rfl rfl rfl) rfl (Q4s S _)))
    (Q7u (Qt (n:=2) (Q5 (Qf rfl (Qf rfl rfl rfl) (zh h.now (by rw [r.ln]; exact hi))) (Q5 (Qf (Xw rfl rfl h.ge) (Qf rfl rfl rfl) (zh h.le a3)) rfl)) rfl ej) rfl (Qf rfl rfl rfl) (Q70 h.now (by rw [r.ln]; exact hi) _)))))) rfl)
  exact ⟨_,(Zv k).trans (fg _ _),G _,D7,ext 0 _ (by decide)⟩
structure RB (n:Nat) (M:Int) (s:RS):Prop where
 now:∀ i,i < n->Bd n M (s.now.getD i [])
 last:∀ i,i < n->Bd n M (s.last.getD i [])
 le:∀ L∈s.le,Bd n M L
def Dx.kb (M:Int):Dx->Prop
 | .own d=>d.k<=9 * M
 | _=>True
theorem RB.up {n:Nat} {M K:Int} {s:RS} (b:RB n M s) (h:M<=K):RB n K s:=⟨fun i hi=>(b.now i hi).up h,fun i hi=>(b.last i hi).up h,fun L j=>(b.le L j).up h⟩
theorem RB.step {n t:Nat} {s:RS} (b:RB n (bM t) s) (r:RI n s) {x:Dx} (o:x.ok n s) (k:x.kb (bM t)):RB n (bM (t + 1)) (Z3 n s x):=by
 have g:=Q9t t;have Y:bM t<=bM (t + 1):=by rw [Q4v]; omega
 have u:=b.up Y;have one:∀ {xs:List Tab} {h:Nat} {v:Tab},xs.length=n->h < n->(∀ i,i < n->Bd n (bM (t + 1)) (xs.getD i []))->Bd n (bM (t + 1)) v->∀ i,i < n->Bd n (bM (t + 1)) ((xs.set h v).getD i []):=fun {xs h v} hl z B hv i hi=>by
  rw [Js (by omega)]
  split
  ·exact hv
  ·exact B i hi
 cases x with
 | own d=>
  have z:=Dd.ok_h o
  by_cases q:d.fits (s.now.getD d.h [])=zb
  ·have I:Z3 n s (.own d)=⟨s.now.set d.h (d.put n (s.now.getD d.h [])),s.last,s.le⟩:=bK q;rw [I];have k:d.k<=9 * bM t:=k;exact ⟨one r.ln z u.now ((b.now _ z).put (r.wn _ z) o (by rw [Q4v]; omega)),u.last,u.le⟩
  ·have I:Z3 n s (.own d)=s:=bL q;rw [I]; exact u
 | kp i=>exact ⟨u.now,one r.ll o u.last (u.now i o),u.le⟩
 | fl i=>exact ⟨one r.ln o u.now (u.last i o),u.last,u.le⟩
 | sd i=>
  refine ⟨u.now,u.last,fun L U=>?_⟩;rcases E7.mp U with h | h
  ·exact u.le L h
  ·rw [ce.mp h]; exact u.last i o
 | cm l i=>
  obtain ⟨J,z⟩:=o;have O:s.le.getD l []∈s.le:=D5 (getD_some J []);refine ⟨one r.ln z u.now ⟨fun a j B G=>?_⟩,u.last,u.le⟩;rw [V3 (r.wn i z).sz (r.we _ O).sz B G];have h1:=(u.now i z).le a j B G;have h2:=(u.le _ O).le a j B G;rcases Qcx (ent (s.now.getD i []) a j) (ent (s.le.getD l []) a j) with e | e
  ·rw [e]; exact h1
  ·rw [e]; exact h2
theorem Qyz {S:Q2} {k:Nat} {xs:List Tab} (h:S[k]?=zo (.lst (xs.map Q7))) (j:xs≠[]):oEq S (.ref k) (.lst [])=.ok (.bl za) S:=by
 have g:Jz dep (.lst (xs.map Q7))=zb:=by
  simp [dep,Jz,Q7,Qz]
 cases xs with
 | nil=>exact absurd rfl j
 | cons a xs=>
  have g2:Jz dep (.lst [])=zb:=rfl;have hp:peq (.lst (Q7 a :: xs.map Q7)) (.lst [])=za:=by rw [peq]; rfl
  simp only [E9] at h g;simp [oEq,der,h,g,g2,hp]
abbrev drG (L:Nat) (c2 c3 c4 c5 c6:Option PV):Gam:=[zo (.ref L),zo (.ref 3),c2,c3,c4,c5,c6]
theorem Qky {n t L:Nat} {s:RS} {S:Q2} (h:LS s S) (r:RI n s) (b:RB n (bM t) s) (ht:t<=60) (T:Tp S L) (hL:4<=L) (a9:s.le.length < 90) (h1:1<=n) (h8:n<=8) :
  ∃ (x:Dx) (Z:Q2),x.ok n s/\x.kb (bM t)/\Tp Z L/\Mv L S Z/\Vt [.ref L,.ref 3] S=.ok x.V Z:=by
 have en:Zg S [.ref 0]=.ok (.int n) S:=by
  have hV:ListAt S (.ref 0) (s.now.map Q7):=.inr (.inr ⟨0,rfl,h.now⟩);rw [hV.len,O2,r.ln]
 obtain ⟨i,S1,hi,T1,M1,e1⟩:=Zh T n h1 (by omega);obtain ⟨y,S2,hy,T2,M2,e2⟩:=Zh T1 12 (by decide) (by decide);have e2:Qh [.ref L,.int 12] S1=.ok (.int y) S2:=e2;have a4:=M1.trans M2;have l2:=h.mv a4 hL;have w:=r.wn i hi;have e3:=jr w.sz (by omega) hi S2;have ix:=zh l2.now (show i < s.now.length by rw [r.ln]; exact hi);obtain ⟨v,hv⟩:∃ v:Nat,(if Qn (s.now.getD i []) i > 0 then Qn (s.now.getD i []) i else 0)=(v:Int):=⟨(if Qn (s.now.getD i []) i > 0 then Qn (s.now.getD i []) i else 0).toNat,by split <;> omega⟩;have g:=Q9t t;have b0:(v:Int)<=8 * bM t:=by
  have:=Q57 w (b.now i hi) (by omega) hi;rw [<- hv]; split <;> omega
 have a8:=Qtx (t:=t) ht;have a7:v + 2 < 2 ^ 8000:=Qhk (by
  have:((v + 2:Nat):Int) < 10 ^ 100:=by omega
  exact_mod_cast this)
 obtain ⟨z,B,hz,T3,M3,e4⟩:=Q2t T2 (v + 2) (by omega) a7;have e4:Qh [.ref L,.int ((v:Int) + 2)] S2=.ok (.int z) B:=e4;have I:=a4.trans M3;have l3:=h.mv I hL;have em:Q5x S2 [.int 0,.int (Qn (s.now.getD i []) i)]=.ok (.int v) S2:=by rw [Q9q,hv]
 have k1:J8 2 (J3 Zg (Q3 (Ya (Q4 1) (mC (.str "now"))) Q8)) (drG L zl zl zl zl zl) S=.nx (drG L (zo (.int n)) zl zl zl zl) S:=J6 (V5 (Q5 (Xw rfl rfl h.gn) rfl) en);have k2:J8 3 (Qg 2 Qh (Q3 (Q4 0) (Q3 (Q4 2) Q8))) (drG L (zo (.int n)) zl zl zl zl) S=.nx (drG L (zo (.int n)) (zo (.int i)) zl zl zl) S1:=J6 (Qt (n:=2) (Q5 rfl (Q5 rfl rfl)) rfl e1);have k3:J8 4 (Qg 2 Qh (Q3 (Q4 0) (Q3 (mC (.int 12)) Q8))) (drG L (zo (.int n)) (zo (.int i)) zl zl zl) S1=.nx (drG L (zo (.int n)) (zo (.int i)) (zo (.int y)) zl zl) S2:=J6 (Qt (n:=2) (Q5 rfl (Q5 rfl rfl)) rfl e2);have k4:J8 5 (J3 Q5x (Q3 (mC (.int 0)) (Q3 (Qg 2 Jd (Q3 (mOp oIx (Ya (Q4 1) (mC (.str "now"))) (Q4 3)) (Q3 (Q4 3) Q8))) Q8))) (drG L (zo (.int n)) (zo (.int i)) (zo (.int y)) zl zl) S2=.nx (drG L (zo (.int n)) (zo (.int i)) (zo (.int y)) (zo (.int v)) zl) S2:=J6 (V5 (Q5 rfl (Q5 (Qt (n:=2) (Q5 (Qf (Xw rfl rfl l2.gn) rfl ix) (Q5 rfl rfl)) rfl e3) rfl)) em)
 obtain ⟨G,hG⟩:∃ G,drG L (zo (.int n)) (zo (.int i)) (zo (.int y)) (zo (.int v)) (zo (.int (1 + (z:Int))))=G:=⟨_,rfl⟩;have k5:J8 6 (mOp Yg (mC (.int 1)) (Qg 2 Qh (Q3 (Q4 0) (Q3 (mOp Yg (Q4 5) (mC (.int 2))) Q8)))) (drG L (zo (.int n)) (zo (.int i)) (zo (.int y)) (zo (.int v)) zl) S2=.nx G B:=by
  rw [<- hG];exact J6 (Qf rfl (Qt (n:=2) (Q5 rfl (Q5 (Qf rfl rfl (Q5z S2 _ _)) rfl)) rfl e4) (Q5z B _ _))
 have v0:Q4 0 G B=.ok (.ref L) B:=by rw [<- hG]; rfl
 have v1:Q4 1 G B=.ok (.ref 3) B:=by rw [<- hG]; rfl
 have v2:∀ S,Q4 2 G S=.ok (.int n) S:=fun S=>by rw [<- hG]; rfl
 have v3:∀ S,Q4 3 G S=.ok (.int i) S:=fun S=>by rw [<- hG]; rfl
 have U:Q4 4 G B=.ok (.int y) B:=by rw [<- hG]; rfl
 have v6:∀ S,Q4 6 G S=.ok (.int (1 + (z:Int))) S:=fun S=>by rw [<- hG]; rfl
 have fg:∀ {Z:Q2} (x:Dx),Mv L S Z->fin S x.V Z=.ok x.V Z:=fun {Z} x M=>yw M.len (by cases x with | own d=>cases d <;> rfl | _=>rfl)
 have J:∀ (x:Dx) (Z:Q2),Mv L S Z->_->Vt [.ref L,.ref 3] S=.ok x.V Z:=fun x Z M (q:_=SR.rt x.V Z)=>(Zv (m:=y0) (nl:=7) (ps:=[.ref L,.ref 3]) (Qi k1 (Qi k2 (Qi k3 (Qi k4 (Qi k5 q)))))).trans (fg x M)
 by_cases q0:y=0
 ·obtain ⟨k,O,hk,T4,Y,e5⟩:=Qfw T3;refine ⟨.own (.mk i k),O,⟨hi,hk.1⟩,?_,T4,I.trans Y,J _ _ (I.trans Y) (K2 (jd (J5 (Qf U rfl (Q6c B (by omega)))) (V0 (U1 (Q5 rfl (Q5 (v3 B) (Q5 (Qt (n:=1) (Q5 v0 rfl) rfl e5) rfl))) (by simp)))))⟩;show k<=9 * bM t;omega
 have t0:Z8 (toB (mOp oEq (Q4 4) (mC (.int 0)))) (Jp (Va (Q3 (mC (.str "make")) (Q3 (Q4 3) (Q3 (Qg 1 W8 (Q3 (Q4 0) Q8)) Q8))))) Z2 G B=.nx G B:=Yh (J5 (Qf U rfl (Q6d B (by omega)))) rfl
 by_cases q1:y < 4/\1 < n
 ·obtain ⟨u,O,hu,T4,Y,e5⟩:=Zh T3 (n - 1) (by omega) (by omega);have e5:Qh [.ref L,.int ((n:Int) - 1)] B=.ok (.int u) O:=by rw [show ((n:Int) - 1)=((n - 1:Nat):Int) by omega]; exact e5
  obtain ⟨j,ej,hj,a2⟩:=Qi1 hi hu;refine ⟨.own (.ld i j (1 + (z:Int))),O,⟨hi,hj,a2,by omega⟩,?_,T4,I.trans Y,J _ _ (I.trans Y) (Qi t0 (K2 (jd (Qfv (J5 (Qf U rfl (Q93 B (by omega)))) (J5 (Qf (v2 B) rfl (Qnz B (by omega))))) (V0 (U1 (Q5 rfl (Q5 (v3 B) (Q5 (Qf (Qf (Qf (v3 B) rfl (Q5z B _ _)) (Qt (n:=2) (Q5 v0 (Q5 (Qf (v2 B) rfl (Qg2 B _ _)) rfl)) rfl e5) (Q5z O _ _)) (v2 O) (by rw [Qvs O (by omega),ej])) (Q5 (v6 O) rfl)))) (by simp))))))⟩;show 1 + (z:Int)<=9 * bM t;omega
 have t1:Z8 (Q16 (toB (mOp oLt (Q4 4) (mC (.int 4)))) (toB (mOp (oI fun a b=>.bl (decide (b < a))) (Q4 2) (mC (.int 1))))) (Jp (Va (Q3 (mC (.str "lend")) (Q3 (Q4 3) (Q3 (mOp Q4h (mOp Yg (mOp Yg (Q4 3) (mC (.int 1))) (Qg 2 Qh (Q3 (Q4 0) (Q3 (mOp (oI fun a b=>.int (a - b)) (Q4 2) (mC (.int 1))) Q8)))) (Q4 2)) (Q3 (Q4 6) Q8)))))) Z2 G B=.nx G B:=by
  refine Yh ?_ rfl
  by_cases q2:y < 4
  ·exact Qfv (J5 (Qf U rfl (Q93 B (by omega)))) (J5 (Qf (v2 B) rfl (Qig B (by omega))))
  ·exact Qq2 (J5 (Qf U rfl (Qbk B (by omega))))
 by_cases q2:y < 6
 ·refine ⟨.own (.us i (1 + (z:Int))),B,⟨hi,by omega⟩,?_,T3,I,J _ _ I (Qi t0 (Qi t1 (K2 (jd (J5 (Qf U rfl (Q93 B (by omega)))) (V0 (U1 (Q5 rfl (Q5 (v3 B) (Q5 (v6 B) rfl))) (by simp)))))))⟩;show 1 + (z:Int)<=9 * bM t;omega
 have t2:Z8 (toB (mOp oLt (Q4 4) (mC (.int 6)))) (Jp (Va (Q3 (mC (.str "use")) (Q3 (Q4 3) (Q3 (Q4 6) Q8))))) Z2 G B=.nx G B:=Yh (J5 (Qf U rfl (Qbk B (by omega)))) rfl
 by_cases q3:y < 8
 ·obtain ⟨u,O,hu,T4,Y,e5⟩:=Zh T3 3 (by decide) (by decide);have e5:Qh [.ref L,.int 3] B=.ok (.int u) O:=e5;have a3:Q91 (Q3 (mC (.str "keep")) (Q3 (mC (.str "fall")) Q8)) G B=.ok (.lst [.str "keep",.str "fall"]) B:=Qdh rfl;have a5:Qg 2 Qh (Q3 (Q4 0) (Q3 (mC (.int 3)) Q8)) G B=.ok (.int u) O:=Qt (n:=2) (Q5 v0 (Q5 rfl rfl)) rfl e5
  by_cases qu:u=0
  ·refine ⟨.fl i,O,hi,trivial,T4,I.trans Y,J _ _ (I.trans Y) (Qi t0 (Qi t1 (Qi t2 (K2 (jd (J5 (Qf U rfl (Q93 B (by omega)))) (V0 (U1 (Q5 (Qf a3 (V5 (Q5 (Qf a5 rfl (Q6c O (by omega))) rfl) rfl) rfl) (Q5 (v3 O) rfl)) (by simp))))))))⟩
  ·refine ⟨.kp i,O,hi,trivial,T4,I.trans Y,J _ _ (I.trans Y) (Qi t0 (Qi t1 (Qi t2 (K2 (jd (J5 (Qf U rfl (Q93 B (by omega)))) (V0 (U1 (Q5 (Qf a3 (V5 (Q5 (Qf a5 rfl (Q6d O (by omega))) rfl) rfl) rfl) (Q5 (v3 O) rfl)) (by simp))))))))⟩
 have t3:∀ X,Z8 (toB (mOp oLt (Q4 4) (mC (.int 8)))) X Z2 G B=.nx G B:=fun X=>Yh (J5 (Qf U rfl (Qbk B (by omega)))) rfl
 have ed:Ya (Q4 1) (mC (.str "letters")) G B=.ok (.ref 2) B:=Xw v1 rfl l3.ge
 by_cases q4:y=8\/s.le=[]
 ·refine ⟨.sd i,B,hi,trivial,T3,I,J _ _ I (Qi t0 (Qi t1 (Qi t2 (Qi (t3 _) (K2 (jd ?_ (V0 (U1 (Q5 rfl (Q5 (v3 B) rfl)) (by simp)))))))))⟩
  by_cases q5:y=8
  ·exact Qya (J5 (Qf U rfl (Q6c B (by omega))))
  ·have hz:s.le=[]:=q4.resolve_left q5;have hV:ListAt B (.ref 2) []:=.inr (.inr ⟨2,rfl,by rw [l3.le,hz]; rfl⟩);exact Qcn (J5 (Qf U rfl (Q6d B (by omega)))) (J5 (Qf ed rfl (hV.eqs rfl).2.2.2))
 ·have a2:s.le≠[]:=fun z=>q4 (.inr z)
  have a6:1<=s.le.length:=by cases hs:s.le with | nil=>exact absurd hs a2 | cons a b=>simp
  obtain ⟨u,O,hu,T4,Y,e5⟩:=Zh T3 s.le.length a6 (by omega);have hV:ListAt B (.ref 2) (s.le.map Q7):=.inr (.inr ⟨2,rfl,l3.le⟩);have el:Zg B [.ref 2]=.ok (.int s.le.length) B:=by rw [hV.len,O2]
  have ne:oEq B (.ref 2) (.lst [])=.ok (.bl za) B:=Qyz l3.le a2;have t4:Z8 (yg (toB (mOp oEq (Q4 4) (mC (.int 8)))) (toB (mOp oEq (Ya (Q4 1) (mC (.str "letters"))) (Q91 Q8)))) (Jp (Va (Q3 (mC (.str "send")) (Q3 (Q4 3) Q8)))) Z2 G B=.nx G B:=Yh (Qcn (J5 (Qf U rfl (Q6d B (by omega)))) (J5 (Qf ed rfl ne))) rfl;exact ⟨.cm u i,O,⟨hu,hi⟩,trivial,T4,I.trans Y,J _ _ (I.trans Y) (Qi t0 (Qi t1 (Qi t2 (Qi (t3 _) (Qi t4 (V0 (U1 (Q5 rfl (Q5 (Qt (n:=2) (Q5 v0 (Q5 (V5 (Q5 ed rfl) el) rfl)) rfl e5) (Q5 (v3 O) rfl))) (by simp))))))))⟩
theorem Qfu (xs:List PV) (v:PV):atI (xs ++ [v]) (-1)=zo v:=by
 have e:ixN (xs ++ [v]).length (-1)=zo xs.length:=by
  rw [D0];unfold ixN;rw [bL (by omega),bK (by simp; omega)];simp; omega
 unfold atI;rw [e];simp
structure AI (n:Nat) (tb:Tab) (xs:List Dx) (S:Q2):Prop where
 ok:OkL n (s0 n tb) xs
 ls:LS (Ug n (s0 n tb) xs) S
 de:S[4]?=zo (.lst (xs.map Dx.V))
 an:S[5]?=zo (.lst (Q14 n (s0 n tb) xs))
 rb:RB n (bM (8 + xs.length)) (Ug n (s0 n tb) xs)
 len:6<=S.length
abbrev apG (ns:List Int) (m:Nat) (tb:Tab) (c7 c8 c9:Option PV):Gam:=[zo (.fro (ns.map .int)),zo (.int 1),zo (.int m),zo (Q7 tb),zo (.ref 3),zo (.ref 4),zo (.ref 5),c7,c8,c9]
theorem Qwj {n:Nat} {tb:Tab} (w:Wt' n tb) {xs:List Dx} {S:Q2} {L:Nat} (I:AI n tb xs S) (T:Tp S L) (hL:6<=L) (hx:xs.length<=45) (ns:List Int) (m:Nat) (c7 c9:Option PV):∃ (x:Dx) (O:Q2),Xk (apG ns m tb c7 (zo (.ref L)) c9) S=.nx (apG ns m tb c7 (zo (.ref L)) c9) O/\AI n tb (xs ++ [x]) O/\Tp O L:=by
 have r:=(RI.start w).run I.ok;have a5:=Qh8 n xs (s0 n tb);have a4:(s0 n tb).le.length=0:=rfl;obtain ⟨x,S1,J,kx,T1,M1,e1⟩:=Qky I.ls r I.rb (by omega) T (by omega) (by omega) w.n1 w.n8;have l1:=I.ls.mv M1 (by omega);have d1:S1[4]?=zo (.lst (xs.map Dx.V)):=by rw [M1.keep 4 (by omega)]; exact I.de
 have a1:S1[5]?=zo (.lst (Q14 n (s0 n tb) xs)):=by rw [M1.keep 5 (by omega)]; exact I.an
 have b4:=(O0.mp d1).1;have b5:=(O0.mp a1).1;have z:=Q13 d1 (by rw [O2]; omega) x.V;obtain ⟨j,q⟩:∃ j,S1.set 4 (.lst (xs.map Dx.V ++ [x.V]))=j:=⟨_,rfl⟩;rw [q] at z;have d2:j[4]?=zo (.lst (xs.map Dx.V ++ [x.V])):=by rw [<- q]; exact E4 b4
 have k2:∀ t,t≠4->j[t]?=S1[t]?:=fun t Y=>by rw [<- q]; exact O6 (by omega)
 have l2:LS (Ug n (s0 n tb) xs) j:=l1.of fun t Y=>k2 t (by omega)
 have a2:j[5]?=zo (.lst (Q14 n (s0 n tb) xs)):=by rw [k2 5 (by omega)]; exact a1
 obtain ⟨S3,e2,l3,B,k3⟩:=Qpz l2 r J (by omega);have Z:S3[5]?=zo (.lst (Q14 n (s0 n tb) xs)):=by rw [k3 5 (by omega)]; exact a2
 have U:=(O0.mp Z).1;have hV:ListAt j (.ref 4) (xs.map Dx.V ++ [x.V]):=.inr (.inr ⟨4,rfl,d2⟩);have ix:oIx j (.ref 4) (.int (-1))=.ok x.V j:=by rw [hV.ix,Qfu]; rfl
 have G:=Q13 Z (by rw [Qdk]; omega) (Q4w (Ug n (s0 n tb) xs) x);have er:Ug n (s0 n tb) (xs ++ [x])=Z3 n (Ug n (s0 n tb) xs) x:=by rw [Qci]; rfl
 have ea:Q14 n (s0 n tb) (xs ++ [x])=Q14 n (s0 n tb) xs ++ [Q4w (Ug n (s0 n tb) xs) x]:=by rw [Qdm]; rfl
 refine ⟨x,_,Qi (Q42 (p:=.ref 4) rfl (U8 I.de) (Q5 (Qt (n:=2) (Q5 rfl (Q5 rfl rfl)) rfl e1) rfl) z) (Q42 (p:=.ref 5) rfl (U8 a2) (Q5 (Qt (n:=2) (Q5 rfl (Q5 (Qf rfl rfl ix) rfl)) rfl e2) rfl) G),⟨?_,?_,?_,?_,?_,?_⟩,?_⟩
 ·exact (Qcp n xs [x] _).mpr ⟨I.ok,J,trivial⟩
 ·rw [er]; exact l3.of fun t Y=>O6 (by omega)
 ·rw [O6 (by decide),k3 4 (by decide),d2,F4]; rfl
 ·rw [ea,E4 U]
 ·rw [er,D0]; exact I.rb.step r J kx
 ·rw [D7,B,<- q,D7,M1.len]; exact I.len
 ·obtain ⟨c,hc⟩:=T1;exact ⟨c,by rw [O6 (by omega),k3 L (by omega),k2 L (by omega)]; exact hc⟩
theorem Qwk {n:Nat} {tb:Tab} (w:Wt' n tb) {xs:List Dx} {S:Q2} (I:AI n tb xs S) (hx:xs.length<=40) (ns:List Int) (m k:Nat) (c8 J:Option PV):∃ (ys:List Dx) (G:Q2) (d8 d9:Option PV),ys.length=xs.length + 3/\Xm (apG ns m tb (zo (.int (1 + (k:Int)))) c8 J) S=.nx (apG ns m tb (zo (.int (1 + (k:Int)))) d8 d9) G/\AI n tb ys G:=by
 obtain ⟨c,Y⟩:=Q9u ns (1 + k) S;rw [show ((1 + k:Nat):Int)=1 + (k:Int) by omega] at Y;obtain ⟨S1,q⟩:∃ S1,S ++ [Cell.lst [.int c]]=S1:=⟨_,rfl⟩;rw [q] at Y;have T1:Tp S1 S.length:=⟨c,by rw [<- q]; simp⟩;have hl:=I.len;have k1:∀ t,t < 6->S1[t]?=S[t]?:=fun t ht=>by rw [<- q,O5 (by omega)]
 have I1:AI n tb xs S1:=⟨I.ok,I.ls.of fun t ht=>k1 t (by omega),by rw [k1 4 (by decide)]; exact I.de,by rw [k1 5 (by decide)]; exact I.an,I.rb,by rw [<- q,D0]; omega⟩;obtain ⟨a2,G,e,ys,z,B,rfl,O,_⟩:=jg (g:=fun k:Nat=>PV.int (k:Int)) (xs:=bS 3) (ga:=Qk 9) (body:=Xk) (w:=[]) (Γ:=apG ns m tb (zo (.int (1 + (k:Int)))) (zo (.ref S.length)) J) (st:=S1)
  (fun j Γ st=>∃ ys z,ys.length=xs.length + j/\Γ=apG ns m tb (zo (.int (1 + (k:Int)))) (zo (.ref S.length)) z/\AI n tb ys st/\Tp st S.length) (fun _ _ _ _=>by simp)
  (fun j x Γ st hj ⟨ys,z,B,Z,I,T⟩=>by
   subst Z;have a3:j < 3:=by simpa using (O0.mp hj).1
   obtain ⟨y,G,e,O,T'⟩:=Qwj w I T hl (by omega) ns m (zo (.int (1 + (k:Int)))) (zo (.int x));exact ⟨_,rfl,_,_,e,ys ++ [y],_,by rw [D0,B]; rfl,rfl,O,T'⟩)
  ⟨xs,_,rfl,rfl,I1,T1⟩
 rw [<- Wu] at e;have U:Zc (Q3 (mC (.int 3)) Q8) (apG ns m tb (zo (.int (1 + (k:Int)))) (zo (.ref S.length)) J) S1=.ok (Ze 0 3,[]) S1:=by
  rw [U5,Q5 (m:=mC (.int 3)) (p:=.int 3) (S1:=S1) rfl (show Q8 _ S1=.ok [] S1 from rfl),Jc];exact bK (by rw [Jh]; omega)
 exact ⟨ys,G,_,_,B,Qi (Γ1:=apG ns m tb (zo (.int (1 + (k:Int)))) (zo (.ref S.length)) J) (J6 (Qt (n:=2) (Q5 rfl (Q5 rfl rfl)) rfl Y)) (y8 U e),O⟩
theorem Qkw {n:Nat} {tb:Tab} (w:Wt' n tb):Vs [Q7 tb] []=.ok (.ref 3) [.lst ((bR n tb).map Q7),.lst ((bR n tb).map Q7),.lst [],.dic stD]:=by
 have U:=w.n8;have I:((bS n).map fun _=>Q7 tb)=(bR n tb).map Q7:=by
  rw [gX];exact gY.mpr ⟨by simp,fun b J=>by obtain ⟨_,_,rfl⟩:=cL.mp J; rfl⟩
 have z:∀ S:Q2,Zc (Q3 (J3 Zg (Q3 (Q4 0) Q8)) Q8) [zo (Q7 tb)] S=.ok (Ze 0 n,[]) S:=fun S=>by
  have q:Zg S [Q7 tb]=.ok (.int n) S:=by simp [Q7,w.len]
  rw [U5,Q5 (V5 (Q5 (m:=Q4 0) (p:=Q7 tb) (S1:=S) rfl (show Q8 _ S=.ok [] S from rfl)) q) (show Q8 _ S=.ok [] S from rfl),Jc];show (if -(lim:Int)<=(n:Int)/\(n:Int)<=lim then _ else _)=_;rw [bK (by rw [Jh]; omega),cB]
 have B:∀ S:Q2,Jn (Qk 0) Je Q1a [] (Jy [zl,zo 0] [zo (Q7 tb)]) (Ze 0 n) S=.ok ((bR n tb).map Q7) S:=fun S=>by
  rw [Wu,<- I];exact Z0 _ _ (by simp) fun j O=>⟨_,rfl,rfl⟩
 have G:∀ S:Q2,Jn (Qk 0) Je Q19 [] (Jy [zl,zo 0] [zo (Q7 tb)]) (Ze 0 n) S=.ok ((bR n tb).map Q7) S:=fun S=>by
  rw [Wu,<- I];exact Z0 _ _ (by simp) fun j O=>⟨_,rfl,rfl⟩
 have step:zz [zo (Q7 tb)] []=.rt (.ref 3) [.lst ((bR n tb).map Q7),.lst ((bR n tb).map Q7),.lst [],.dic stD]:=by
  refine V0 ?_;rw [Qk1,zg (Vb (z _) (B _)),Jc,zg (Vb (z _) (G _)),Jc,zg (ps:=[]) rfl,Jc];rfl
 exact jp step
theorem Qhm {n:Nat} {tb:Tab} (Z:TbI n 8 tb) (ns:List Int) (m:Nat) (hm:m<=13):∃ (xs:List Dx) (z:Q2),xs.length=3 * m/\AI n tb xs z/\V8 [.fro (ns.map .int),.int 1,.int m,Q7 tb] []=.ok (.tup [.ref 4,.ref 5,.ref 3]) z:=by
 have w:=Z.w;have e0:=Qkw w;obtain ⟨A,Y⟩:∃ A,[Cell.lst ((bR n tb).map Q7),.lst ((bR n tb).map Q7),.lst [],.dic stD]=A:=⟨_,rfl⟩;have A6:A ++ [Cell.lst []] ++ [Cell.lst []]=[Cell.lst ((bR n tb).map Q7),.lst ((bR n tb).map Q7),.lst [],.dic stD,.lst [],.lst []]:=by rw [<- Y]; rfl
 have IA:AI n tb [] (A ++ [Cell.lst []] ++ [Cell.lst []]):=by
  rw [A6];refine ⟨trivial,⟨rfl,rfl,rfl,rfl⟩,rfl,rfl,?_,O7 6⟩;have e:∀ i,i < n->(bR n tb).getD i []=tb:=fun i hi=>yk hi
  refine ⟨fun i hi=>?_,fun i hi=>?_,fun L hL=>absurd hL cK⟩
  ·show Bd n (bM 8) ((bR n tb).getD i []); rw [e i hi]; exact Z.b
  ·show Bd n (bM 8) ((bR n tb).getD i []); rw [e i hi]; exact Z.b
 rw [Y] at e0;have lA:A.length=4:=by rw [<- Y]; rfl
 obtain ⟨a2,z,e,xs,O,B,G,q,rfl,I⟩:=jg (g:=fun k:Nat=>PV.int (1 + (k:Int))) (xs:=bS m) (ga:=Qk 7) (body:=Xm) (w:=[]) (Γ:=apG ns m tb zl zl zl) (st:=A ++ [Cell.lst []] ++ [Cell.lst []])
  (fun j Γ st=>∃ xs O B G,xs.length=3 * j/\Γ=apG ns m tb O B G/\AI n tb xs st) (fun _ _ _ _=>by simp)
  (fun j x Γ st hj ⟨xs,O,B,G,q,U,I⟩=>by
   subst U;have a3:j < m:=by simpa using (O0.mp hj).1
   obtain ⟨ys,z,d8,d9,a4,e,I'⟩:=Qwk w I (by omega) ns m x B G;exact ⟨_,rfl,_,_,e,ys,_,_,_,by omega,rfl,I'⟩)
  ⟨[],_,_,_,rfl,rfl,IA⟩
 rw [F6] at q;have J:Q4n (Q3 (Q4 1) (Q3 (mOp Yg (Q4 1) (Q4 2)) Q8)) (apG ns m tb zl zl zl) (A ++ [Cell.lst []] ++ [Cell.lst []])=.ok ((bS m).map fun k:Nat=>PV.int (1 + (k:Int)),[]) (A ++ [Cell.lst []] ++ [Cell.lst []]):=by
  rw [Qh3,Q5 (m:=Q4 1) (p:=.int 1) rfl (Q5 (Qf (a:=Q4 1) (b:=Q4 2) (x:=.int 1) (y:=.int m) rfl rfl (Q5z _ _ _)) (show Q8 _ _=.ok [] _ from rfl)),Jc];show (if -(lim:Int)<=1/\1<=(lim:Int)/\-(lim:Int)<=1 + (m:Int)/\1 + (m:Int)<=lim then _ else _)=_;rw [bK (by rw [Jh]; omega),show (1 + (m:Int) - 1).toNat=m by omega]; rfl
 refine ⟨xs,z,q,I,?_⟩;have s1:J8 4 (Qg 1 Vs (Q3 (Q4 3) Q8)) [zo (.fro (ns.map .int)),zo (.int 1),zo (.int m),zo (Q7 tb),zl,zl,zl,zl,zl,zl] []=.nx [zo (.fro (ns.map .int)),zo (.int 1),zo (.int m),zo (Q7 tb),zo (.ref 3),zl,zl,zl,zl,zl] A:=J6 (Qt (n:=1) (Q5 rfl rfl) rfl e0);have s2:J8 5 (Q0r (jc Q8)) [zo (.fro (ns.map .int)),zo (.int 1),zo (.int m),zo (Q7 tb),zo (.ref 3),zl,zl,zl,zl,zl] A=.nx [zo (.fro (ns.map .int)),zo (.int 1),zo (.int m),zo (Q7 tb),zo (.ref 3),zo (.ref 4),zl,zl,zl,zl] (A ++ [.lst []]):=(J6 (zg (ps:=[]) (S1:=A) rfl)).trans (by rw [lA]; rfl);have s3:J8 6 (Q0r (jc Q8)) [zo (.fro (ns.map .int)),zo (.int 1),zo (.int m),zo (Q7 tb),zo (.ref 3),zo (.ref 4),zl,zl,zl,zl] (A ++ [.lst []])=.nx (apG ns m tb zl zl zl) (A ++ [.lst []] ++ [.lst []]):=(J6 (zg (ps:=[]) (S1:=A ++ [.lst []]) rfl)).trans (by rw [D0,lA]; rfl)
 exact jp (m:=ja) (nl:=10) (Qi s1 (Qi s2 (Qi s3 (Qi (y8 J e) (V0 (U1 (Q5 rfl (Q5 rfl (Q5 rfl rfl))) (by simp)))))))
inductive InS (n:Nat) (s:RS):Tab->Prop
 | now {i:Nat}:i < n->InS n s (s.now.getD i [])
 | last {i:Nat}:i < n->InS n s (s.last.getD i [])
 | le {L:Tab}:L∈s.le->InS n s L
def rle (n h:Nat) (A B:Tab):Prop:=∀ j,j<=n->ent A h j<=ent B h j
structure SI17 (n:Nat) (s:RS):Prop where
 ri:RI n s
 ca:∀ A,InS n s A->Ca n A
 ch:∀ A B,InS n s A->InS n s B->∀ h,h < n->rle n h A B\/rle n h B A
theorem RI.top {n:Nat} {s:RS} (r:RI n s) {A:Tab} (k:InS n s A) {h:Nat} (B:h < n):rle n h A (s.now.getD h []):=fun j z=>by
 cases k with
 | @now i hi=>
  by_cases q:i=h
  ·subst q; exact bb _
  ·exact bf (r.bn i h j hi B q z) (r.up h j B z)
 | last hi=>exact bf (r.bl _ h j hi B z) (r.up h j B z)
 | le G=>exact bf (r.be _ G h j B z) (r.up h j B z)
theorem Q4z {n:Nat} {f g:Nat->Int} (h:∀ o,o < n->f o<=g o):Zn n f<=Zn n g:=by
 induction n with
 | zero=>exact bb _
 | succ n j=>
  rw [Jq,Jq];have h1:=j fun o q=>h o (by omega)
  have h2:=h n (by omega);omega
theorem Qpq {n:Nat} {A J:Tab} (G:Wt' n A) (B:Wt' n J) (c:Ca n A) (le:∀ a b,a < n->b<=n->ent A a b<=ent J a b) {h:Nat} (q:h < n) (e:∀ j,j<=n->ent J h j=ent A h j):0<=Qn J h/\(V4 J h=zb->Rc n J h):=by
 refine ⟨?_,fun b=>?_⟩
 ·have h1:=c.nn h q;rw [Yu G.sz q] at h1;rw [Yu B.sz q,e n (O7 n),e h (E2 q),Zm (g:=fun j=>ent A h j) fun j z=>e j (E2 z)]
  have h2:=Q4z (n:=n) (f:=fun o=>ent A o h) (g:=fun o=>ent J o h) fun o O=>le o h O (E2 q)
  omega
 ·obtain ⟨j,z,q1,q2⟩:=(Xx B q).mp b;rw [e j z] at q2;exact (c.bz h q ((Xx G q).mpr ⟨j,z,q1,q2⟩)).mono fun a b U I=>le a b U (E2 I)
theorem Q9a {n:Nat} {A B:Tab} (G:Sz n A) (z:Sz n B) {h:Nat} (I:h < n) (c:rle n h A B\/rle n h B A):(∀ j,j<=n->ent (Zi A B) h j=ent A h j)\/∀ j,j<=n->ent (Zi A B) h j=ent B h j:=by
 rcases c with c | c
 ·exact .inr fun j q=>by rw [V3 G z I q,Qgz (c j q)]
 ·exact .inl fun j q=>by rw [V3 G z I q,Qjz (c j q)]
theorem Qir {n:Nat} {A B:Tab} (q:Wt' n A) (G:Wt' n B) (cA:Ca n A) (U:Ca n B) (ch:∀ h,h < n->rle n h A B\/rle n h B A):Ca n (Zi A B):=by
 have O:=Qd6 q G;have Y:∀ a b,a < n->b<=n->ent A a b<=ent (Zi A B) a b:=fun a b J I=>by rw [V3 q.sz G.sz J I]; exact Qcy _ _
 have Z:∀ a b,a < n->b<=n->ent B a b<=ent (Zi A B) a b:=fun a b J I=>by rw [V3 q.sz G.sz J I]; exact Qni _ _
 have z:∀ h,h < n->0<=Qn (Zi A B) h/\(V4 (Zi A B) h=zb->Rc n (Zi A B) h):=fun h j=>by
  rcases Q9a q.sz G.sz j (ch h j) with e | e
  ·exact Qpq q O cA Y j e
  ·exact Qpq G O U Z j e
 exact ⟨fun h j=>(z h j).1,fun h j=>(z h j).2⟩
theorem SI17.step {n:Nat} {s:RS} (I:SI17 n s) {x:Dx} (o:x.ok n s):SI17 n (Z3 n s x):=by
 have r:=I.ri;have r':=r.step o;have a3:∀ T:Tab,Ca n T->(∀ A,InS n s A->∀ h,h < n->rle n h A T\/rle n h T A)->(∀ A,InS n (Z3 n s x) A->InS n s A\/A=T)->SI17 n (Z3 n s x):=fun T cT a2 sub=>by
  refine ⟨r',fun A G=>?_,fun A B G hB h J=>?_⟩
  ·rcases sub A G with q | q
   ·exact I.ca A q
   ·rw [q]; exact cT
  ·rcases sub A G with qa | qa <;> rcases sub B hB with qb | qb
   ·exact I.ch A B qa qb h J
   ·rw [qb]; exact a2 A qa h J
   ·rw [qa]; exact (a2 B qb h J).symm
   ·rw [qa,qb]; exact .inl fun j _=>bb _
 have old:(∀ A,InS n (Z3 n s x) A->InS n s A)->SI17 n (Z3 n s x):=fun sub=>⟨r',fun A G=>I.ca A (sub A G),fun A B G hB=>I.ch A B (sub A G) (sub B hB)⟩
 cases x with
 | own d=>
  have J:=Dd.ok_h o
  by_cases q:d.fits (s.now.getD d.h [])=zb
  ·have z2:Z3 n s (.own d)=⟨s.now.set d.h (d.put n (s.now.getD d.h [])),s.last,s.le⟩:=bK q;have w:=r.wn d.h J;have cN:=I.ca _ (.now J);have hf:d.isM=za->d.k<=Qn (s.now.getD d.h []) d.h:=fun hm=>by
    unfold Dd.fits at q;rw [hm,Bool.false_or,decide_eq_true_eq] at q;exact q
   have hl:d.h < s.now.length:=by rw [r.ln]; exact J
   refine a3 _ (Qpr w cN o hf).2 (fun A G h Y=>?_) (fun A G=>?_)
   ·by_cases qh:h=d.h
    ·subst qh;exact .inl fun j O=>bf (r.top G Y j O) (Q74 w o _ j).1
    ·have e:∀ j,ent (d.put n (s.now.getD d.h [])) h j=ent (s.now.getD d.h []) h j:=fun j=>(Q74 w o h j).2 qh
     rcases I.ch A _ G (.now J) h Y with z | z
     ·exact .inl fun j O=>by rw [e j]; exact z j O
     ·exact .inr fun j O=>by rw [e j]; exact z j O
   ·rw [z2] at G;cases G with
    | @now i hi=>
     show InS n s ((s.now.set d.h (d.put n (s.now.getD d.h []))).getD i [])\/(s.now.set d.h (d.put n (s.now.getD d.h []))).getD i []=_;rw [Js hl]
     split
     ·exact .inr rfl
     ·exact .inl (.now hi)
    | last hi=>exact .inl (.last hi)
    | le Z=>exact .inl (.le Z)
  ·have z2:Z3 n s (.own d)=s:=bL q;rw [z2]; exact I
 | kp U=>
  have J:U < n:=o;refine old fun A G=>?_
  cases G with
  | now hi=>exact .now hi
  | @last i hi=>
   show InS n s ((s.last.set U (s.now.getD U [])).getD i []);rw [Js (by rw [r.ll]; exact J)]
   split
   ·exact .now J
   ·exact .last hi
  | le Z=>exact .le Z
 | fl U=>
  have J:U < n:=o;refine old fun A G=>?_
  cases G with
  | @now i hi=>
   show InS n s ((s.now.set U (s.last.getD U [])).getD i []);rw [Js (by rw [r.ln]; exact J)]
   split
   ·exact .last J
   ·exact .now hi
  | last hi=>exact .last hi
  | le Z=>exact .le Z
 | sd U=>
  have J:U < n:=o;refine old fun A G=>?_
  cases G with
  | now hi=>exact .now hi
  | last hi=>exact .last hi
  | le Z=>
   rcases E7.mp Z with h | h
   ·exact .le h
   ·rw [ce.mp h]; exact .last J
 | cm l U=>
  obtain ⟨a5,J⟩:=o;have hm:s.le.getD l []∈s.le:=D5 (getD_some a5 []);have wN:=r.wn U J;have wL:=r.we _ hm;have a4:=I.ch _ _ (.now J) (.le hm);refine a3 (Zi (s.now.getD U []) (s.le.getD l [])) (Qir wN wL (I.ca _ (.now J)) (I.ca _ (.le hm)) a4) (fun A G h Y=>?_) (fun A G=>?_)
  ·rcases Q9a wN.sz wL.sz Y (a4 h Y) with e | e
   ·rcases I.ch A _ G (.now J) h Y with z | z
    ·exact .inl fun j O=>by rw [e j O]; exact z j O
    ·exact .inr fun j O=>by rw [e j O]; exact z j O
   ·rcases I.ch A _ G (.le hm) h Y with z | z
    ·exact .inl fun j O=>by rw [e j O]; exact z j O
    ·exact .inr fun j O=>by rw [e j O]; exact z j O
  ·cases G with
   | @now i hi=>
    show InS n s ((s.now.set U (Zi (s.now.getD U []) (s.le.getD l []))).getD i [])\/(s.now.set U (Zi (s.now.getD U []) (s.le.getD l []))).getD i []=_;rw [Js (by rw [r.ln]; exact J)]
    split
    ·exact .inr rfl
    ·exact .inl (.now hi)
   | last hi=>exact .inl (.last hi)
   | le Z=>exact .inl (.le Z)
theorem SI17.start {n:Nat} {tb:Tab} (w:Wt' n tb) (c:Ca n tb):SI17 n (s0 n tb):=by
 have e:∀ A,InS n (s0 n tb) A->A=tb:=fun A q=>by
  cases q with
  | now hi=>exact yk hi
  | last hi=>exact yk hi
  | le G=>exact absurd G cK
 exact ⟨RI.start w,fun A q=>by rw [e A q]; exact c,fun A B q z h I=>by rw [e A q,e B z]; exact .inl fun j _=>bb _⟩
theorem SI17.run {n:Nat}:∀ {xs:List Dx} {s:RS},SI17 n s->OkL n s xs->SI17 n (Ug n s xs)
 | [],_,r,_=>r
 | x :: xs,s,r,o=>SI17.run (xs:=xs) (r.step o.1) o.2
def Jb (pl:List Nat):PV:=.tup (pl.map Ja)
structure PlOk (n:Nat) (pl:List Nat):Prop where
 ne:pl≠[]
 lt:∀ h∈pl,h < n
 inc:pl.Pairwise (· < ·)
 len:pl.length<=8
theorem Qh9 {n:Nat} {tb:List (List Int)} (B:tb.length=n) {pl:List Nat} (p:PlOk n pl) (st:Q2):X1 [Q7 tb,Jb pl] st=.ok (.bl zb) st:=by
 have q:Jn (Qk 0) Je jj [] (Jy [zl,zo 0] [zo (Q7 tb),zo (Jb pl)]) (pl.map Ja) st=.ok ((pl.map fun _=>zb).map .bl) st:=by
  rw [G6];refine Z0 _ _ (by simp) fun h G=>⟨_,rfl,?_⟩
  have:=Q4q (V:=Q7 tb) (n:=n) (i:=h) (st:=st) (by simp [Q7,B]) (p.lt h G);show _=Res.ok (PV.bl zb) st;simp [Jy,jj,Ja,this]
 have I:=p.len;have j:(pl.map Ja).length<=1000000:=by rw [O2]; omega
 have z:(pl.map fun _=>zb).all id=zb:=by simp
 unfold Jb at *;generalize (pl.map fun _=>zb)=bs at *;generalize pl.map Ja=pv at *;simp -implicitDefEqProofs [X1,Qr,Q0n,j,Jh,q,z]
theorem Qgd {n:Nat} {pl:List Nat} (p:PlOk n pl) (st:Q2):Xz [Jb pl] st=.ok (.bl zb) st:=by
 have q:cut (pl.map Ja) (zo 1) zl=(pl.drop 1).map Ja:=by
  rw [qc];have:=x8 pl 1;exact congrArg _ this
 have G:Jn (Vm (Jx (Qk 0) (Jx (Qk 1) Vn))) Je yc [] (Jy [zl,zl] [zo (Jb pl)]) ((pl.zip (pl.drop 1)).map fun z=>.tup [Ja z.1,Ja z.2]) st=.ok (((pl.zip (pl.drop 1)).map fun z=>decide (z.1 < z.2)).map .bl) st:=by
  rw [G6];refine Z0 _ _ (by simp) fun z hz=>⟨_,rfl,?_⟩
  show _=Res.ok (PV.bl (decide (z.1 < z.2))) st;simp [Jy,yc,Ja]
 have O:((pl.zip (pl.drop 1)).map fun z=>decide (z.1 < z.2)).all id=zb:=by
  rw [Q5y,F7];intro z hz;obtain ⟨k,I,e⟩:=cZ.mp hz;have B:=O0.mpr ⟨I,e⟩;rw [G9] at B;obtain ⟨e1,e2⟩:=B;rw [List.getElem?_drop,fo] at e2;obtain ⟨k1,U⟩:=O0.mp e1;obtain ⟨k2,J⟩:=O0.mp e2;have:=fB.mp p.inc k (k + 1) k1 k2 (by omega);rw [U,J] at this;simp [this]
 have Y:=p.len;have j:pl.length<=1000000:=by omega
 unfold Jb at *;generalize ((pl.zip (pl.drop 1)).map fun z=>decide (z.1 < z.2))=bs at *
 generalize pl.drop 1=ds at *;simp -implicitDefEqProofs [Xz,Qr,Q1y,q,j,Jh,qg,G,O]
theorem Q0h {n:Nat} {tb:List (List Int)} (w:Wt' n tb) (B:Q11 n tb=zb) {pl:List Nat} (p:PlOk n pl) (st:Q2):Ys [Q7 tb,Jb pl] st=.ok .non st:=by
 have h1:=Qdc w st;rw [B] at h1;have h2:Ji [Q7 tb] st=.ok .non st:=by
  generalize Q7 tb=T at *;simp -implicitDefEqProofs [Ji,Qr,W5,h1]
 have G:=Qh9 w.len p st;have I:=Qgd p st;have J:xg [Q7 tb,Jb pl] st=.ok (.bl zb) st:=by
  have hp:0 < (pl.map Ja).length:=by rw [O2]; exact cv.mpr p.ne
  have j:¬ (((pl.map Ja).length:Int)=0):=by omega
  have z:¬ (pl.map Ja=[]):=fun q=>by rw [q] at hp; simp at hp
  generalize Q7 tb=T at *;unfold Jb at *;generalize pl.map Ja=pv at *;simp -implicitDefEqProofs [xg,Qr,Q5m,isI,tyN,j,z,G,I]
 generalize Q7 tb=T at *;generalize Jb pl=O at *;simp -implicitDefEqProofs [Ys,Qr,Q1v,h2,J]
def Qmi (t1 t2:List (List Int)) (pl:List Nat):Bool:=pl.all fun h=>decide (t2.getD h []=t1.getD h [])
theorem Quj {r1 r2:List Int} (st:Q2):oEq st (Qz r1) (Qz r2)=.ok (.bl (decide (r1=r2))) st:=by
 have g:∀ r:List Int,Jz dep (Qz r)=zb:=fun r=>by simp [Jz,dep,Qz]
 have hd:∀ r,der st (Qz r)=Qz r:=fun r=>rfl
 have hp:peq (Qz r1) (Qz r2)=decide (r1=r2):=by
  unfold Qz;rw [peq]
  induction r1 generalizing r2 with
  | nil=>cases r2 <;> simp [X8]
  | cons x xs j=>
   cases r2 with
   | nil=>simp [X8]
   | cons y ys=>
    rw [E9,E9,X8,j];rw [cc];simp [peq]
 unfold oEq;rw [hd,hd];simp [g,hp]
def Qc6 (n m:Nat) (t1:List (List Int)) (pl:List Nat) (t2:List (List Int)):Bool:=Q11 m t2 && decide (m=n) && Qb3 t1 t2 && Qmi t1 t2 pl
theorem Qf9 {n m:Nat} {t1 t2:List (List Int)} (z:Wt' n t1) (I:Wt' m t2) (hc:Q11 n t1=zb) {pl:List Nat} (p:PlOk n pl) (st:Q2):V6 [Q7 t1,Jb pl,Q7 t2] st=.ok (.bl (Qc6 n m t1 pl t2)) st:=by
 have h8:=z.n8;have h1:=Q0h z hc p st;have h2:=Qdc I st;have j:Zg st [Q7 t1]=.ok (.int n) st:=by simp [Q7,z.len]
 have q:Zg st [Q7 t2]=.ok (.int m) st:=by simp [Q7,I.len]
 unfold Qc6;cases h3:Q11 m t2 with
 | false=>
  rw [h3] at h2;generalize Q7 t1=T1 at *;generalize Q7 t2=Z at *;generalize Jb pl=O at *;simp -implicitDefEqProofs [V6,Qr,Xh,h1,h2]
 | true=>
  rw [h3] at h2
  by_cases hm:m=n
  ·subst hm;have G:=Qb0 (t1:=t1) (t2:=t2) (by rw [z.len,I.len]) st (by rw [z.len,Jh]; omega) (fun r hr=>by rw [z.row r hr,Jh]; omega);have J:Jn (Qk 0) Je Q0x [] (Jy [zl,zo 2,zo 0] [zo (Q7 t1),zo (Jb pl),zo (Q7 t2)]) (pl.map Ja) st=.ok ((pl.map fun h=>decide (t2.getD h []=t1.getD h [])).map .bl) st:=by
    rw [G6];refine Z0 _ _ (by simp) fun h hh=>⟨_,rfl,?_⟩
    have c1:=(Uw z.sz (p.lt h hh) (bv _) st).1;have c2:=(Uw I.sz (p.lt h hh) (bv _) st).1;have he:=Quj (r1:=t2.getD h []) (r2:=t1.getD h []) st;show _=Res.ok (PV.bl (decide (t2.getD h []=t1.getD h []))) st;generalize t1.getD h []=r1 at *;generalize t2.getD h []=r2 at *;simp -implicitDefEqProofs [Jy,Q0x,Ja,c1,c2,he]
   have ha:Qmi t1 t2 pl=(pl.map fun h=>decide (t2.getD h []=t1.getD h [])).all id:=(Q5y _ _).symm
   have hl:=p.len;have U:(pl.map Ja).length<=1000000:=by rw [O2]; omega
   rw [ha];generalize (pl.map fun h=>decide (t2.getD h []=t1.getD h []))=bs at *
   generalize Q7 t1=T1 at *;generalize Q7 t2=Z at *;unfold Jb at *;generalize pl.map Ja=pv at *;cases B:Qb3 t1 t2 with
   | true=>
    rw [B] at G;simp -implicitDefEqProofs [V6,Qr,Xh,h1,h2,j,q,G,U,Jh,J]
   | false=>
    rw [B] at G;simp -implicitDefEqProofs [V6,Qr,Xh,h1,h2,j,q,G]
  ·have Y:¬ ((m:Int)=n):=by omega
   generalize Q7 t1=T1 at *;generalize Q7 t2=Z at *;generalize Jb pl=O at *;simp -implicitDefEqProofs [V6,Qr,Xh,h1,h2,j,q,hm,Y]
theorem Qbe {n:Nat} (f:Nat->Int):∀ {pl:List Nat},pl.Nodup->(∀ h∈pl,h < n)->(pl.map f).sum=Zn n fun h=>if h∈pl then f h else 0
 | [],_,_=>by
  rw [Zm (g:=fun _=>0) fun h _=>by simp,yf]; rfl
 | y :: ys,hd,B=>by
  have j:=cj.mp hd;have G:=Qbe f j.2 fun h I=>B h (O9 _ I)
  rw [E9,List.sum_cons,G];have e:Zn n (fun h=>if h∈y :: ys then f h else 0)=Zn n (fun h=>(if h=y then f y else 0) + if h∈ys then f h else 0):=Zm fun h _=>by
   by_cases q:h=y
   ·subst q;rw [bK D1,bK rfl,bL j.1]; omega
   ·rw [bL q]
    by_cases q2:h∈ys
    ·rw [bK (O9 _ q2),bK q2]; omega
    ·rw [bL q2,bL (fun z=>(E5.mp z).elim q q2)]; omega
  rw [e,Q1c,Q39,bK (B y D1)]
def j6 (tb:List (List Int)) (pl:List Nat):Int:=(pl.map (Qn tb)).sum
theorem PlOk.nd {n:Nat} {pl:List Nat} (p:PlOk n pl):pl.Nodup:=p.inc.imp fun h=>D9 h
theorem Q88 {n:Nat} {pl:List Nat} (p:PlOk n pl) (tb:List (List Int)):j6 tb pl=Zn n fun h=>if h∈pl then Qn tb h else 0:=Qbe _ p.nd p.lt
theorem Qsh (pl:List Nat) (h:Nat) (b:Bool) (st:Q2):oIn b st (.int h) (Jb pl)=.ok (.bl (decide (h∈pl) != b)) st:=by
 have e:Jb pl=.tup ((pl.map fun k:Nat=>(k:Int)).map .int):=by unfold Jb; rw [G6]; rfl
 have hd:der st (.int h)=.int h:=rfl;have G:Jz dep (.int h)=zb:=rfl;have g2:((pl.map fun k:Nat=>(k:Int)).map PV.int).all (Jz dep)=zb:=by simp [Jz,dep]
 have j:decide ((h:Int)∈pl.map fun k:Nat=>(k:Int))=decide (h∈pl):=by
  rw [cc,decide_eq_true_iff,decide_eq_true_iff,cL];constructor
  ·rintro ⟨k,B,q⟩;rw [<- show k=h by omega]; exact B
  ·exact fun q=>⟨h,q,rfl⟩
 have z:Ud st (Jb pl)=zo ((pl.map fun k:Nat=>(k:Int)).map .int):=by rw [e]; rfl
 unfold oIn;rw [z,hd];simp only [G,g2,and_self,if_true,Qie,j]
theorem Qbf {n:Nat} {tb:List (List Int)} (w:Wt' n tb) {pl:List Nat} (p:PlOk n pl) (me:ME) (Γ0:Gam) (st:Q2) (h:∀ i,i < n->me (Γ0.set 0 (zo (.int i))) st=.ok (.int (Qn tb i)) st):Jn (Qk 0) Je me [] Γ0 (pl.map Ja) st=.ok ((pl.map (Qn tb)).map .int) st:=by
 rw [G6];exact Z0 _ _ (by simp) fun i hi=>⟨_,rfl,h i (p.lt i hi)⟩
theorem Q4a {n:Nat} {tb:List (List Int)} (w:Wt' n tb) {pl:List Nat} (p:PlOk n pl) (st:Q2):Zw [Q7 tb,Jb pl] st=.ok (.int (j6 tb pl)) st:=by
 have G:=w.n8;have q:=Qbf w p U6 (Jy [zl,zo 0] [zo (Q7 tb),zo (Jb pl)]) st fun i hi=>by
  have:=Q2e w.sz (by omega) hi st;generalize Q7 tb=T at *;generalize Jb pl=P at *;simp -implicitDefEqProofs [Jy,U6,this]
 have B:=p.len;have j:(pl.map Ja).length<=1000000:=by rw [O2]; omega
 have s1:Ws st (Jb pl)=zo (pl.map Ja,[]):=rfl;unfold j6;generalize pl.map (Qn tb)=z at *;generalize Q7 tb=T at *;generalize pl.map Ja=pv at *;generalize Jb pl=P at *;simp -implicitDefEqProofs [Zw,Qr,Xg,s1,j,Jh,q]
theorem Qjd {n i j:Nat} {tb:List (List Int)} (z:Sz n tb) (hi:i < n) (B:j<=n):Wm tb i j (ent tb i j + 0)=tb:=by
 refine Qqc (Qhu z hi _) z fun a b _ _=>?_
 rw [Kz z hi B]
 split
 ·rename_i q; rw [q.1,q.2]; omega
 ·rfl
theorem Qr0 {n i j:Nat} {tb:List (List Int)} (z:Sz n tb) (hi:i < n) (x:Int) {h:Nat} (B:h≠i):(Wm tb i j x).getD h []=tb.getD h []:=by
 unfold Wm;rw [bW,O6 (fun q=>B q.symm)]; rfl
theorem Qht {n i j:Nat} {tb:List (List Int)} (w:Wt' n tb) (hi:i < n) {x:Int} (q:0<=x):Wt' n (Wm tb i j x):=w.set0 hi q
structure Pw (n:Nat) (tb:List (List Int)) (pl:List Nat) (m:Nat) (W:List (List Int)):Prop where
 wt:Wt' n W
 ca:Ca n W
 le:∀ a b,a < n->b<=n->ent tb a b<=ent W a b
 row:∀ h∈pl,W.getD h []=tb.getD h []
 ri:∀ h,h < n->Qn W h=if h < m/\h∉pl then 0 else Qn tb h
theorem Pw.zero {n:Nat} {tb:List (List Int)} {pl:List Nat} (w:Wt' n tb) (c:Ca n tb):Pw n tb pl 0 tb:=⟨w,c,fun _ _ _ _=>bb _,fun _ _=>rfl,fun h j=>by rw [bL (fun q=>by omega)]⟩
theorem Pw.skip {n m:Nat} {tb W:List (List Int)} {pl:List Nat} (p:Pw n tb pl m W) (j:m∈pl):Pw n tb pl (m + 1) W:=⟨p.wt,p.ca,p.le,p.row,fun h B=>by
 rw [p.ri h B]
 by_cases q:h=m
 ·subst q;rw [bL (fun z=>z.2 j),bL (fun z=>z.2 j)]
 ·by_cases q2:h < m/\h∉pl
  ·rw [bK q2,bK ⟨by omega,q2.2⟩]
  ·rw [bL q2,bL (fun z=>q2 ⟨by omega,z.2⟩)]⟩
theorem Ca.spend {n i j:Nat} {tb:List (List Int)} (w:Wt' n tb) (c:Ca n tb) (hi:i < n) (z:j<=n) (B:j≠i) {k:Int} (G:0<=k) (I:k<=Qn tb i):Ca n (Wm tb i j (ent tb i j + k)):=by
 by_cases q:k=0
 ·subst q;rw [Qjd w.sz hi z]; exact c
 ·exact c.give w hi z B G I (by omega) (Qht w hi (by have:=w.ent_nn hi z; omega))
theorem Pw.step {n m:Nat} {tb W:List (List Int)} {pl:List Nat} (w:Wt' n tb) (c:Ca n tb) (p:Pw n tb pl m W) (j:m < n) (J:m∉pl):Pw n tb pl (m + 1) (Wm W m n (ent W m n + Qn tb m)):=by
 have I:=c.nn m j;have G:Qn W m=Qn tb m:=by rw [p.ri m j,bL (fun q=>by omega)]
 have Z:=p.wt.ent_nn j (O7 n);have Y:Wt' n (Wm W m n (ent W m n + Qn tb m)):=Qht p.wt j (by omega);refine ⟨Y,p.ca.spend p.wt j (O7 n) (by omega) I (by rw [G]; exact bb _),fun a b U O=>?_,fun h B=>?_,fun h B=>?_⟩
 ·rw [Kz p.wt.sz j (O7 n)];have:=p.le a b U O
  split
  ·rename_i q; rw [q.1,q.2] at this ⊢; omega
  ·exact this
 ·rw [Qr0 p.wt.sz j _ (fun q=>J (q ▸ B))]; exact p.row h B
 ·rw [Q3i p.wt.sz j (O7 n) _ B,bL (by omega),p.ri h B,bL (show ¬ (h=m/\n=m) from fun q=>by omega)]
  by_cases q:h=m
  ·subst q;rw [bK rfl,bL (fun z=>by omega),bK ⟨by omega,J⟩]; omega
  ·rw [bL q]
   by_cases q2:h < m/\h∉pl
   ·rw [bK q2,bK ⟨by omega,q2.2⟩]; omega
   ·rw [bL q2,bL (fun z=>q2 ⟨by omega,z.2⟩)]; omega
theorem Qdr {n:Nat} {t1 t2:List (List Int)} (J:Sz n t1) (O:Sz n t2) (h:∀ a b,a < n->b<=n->ent t1 a b<=ent t2 a b):Qb3 t1 t2=zb:=by
 unfold Qb3;rw [F7];intro z hz;obtain ⟨i,hi,e⟩:=cZ.mp hz;have I:=O0.mpr ⟨hi,e⟩;rw [G9] at I;have q:i < n:=by
  have:=(O0.mp I.1).1;rw [J.1] at this; exact this
 have r1:z.1=t1.getD i []:=ba (I.1.symm.trans (J.row q).1);have r2:z.2=t2.getD i []:=ba (I.2.symm.trans (O.row q).1);unfold Q61;rw [F7];intro u Y;obtain ⟨j,U,f⟩:=cZ.mp Y;have G:=O0.mpr ⟨U,f⟩;rw [G9,r1,r2] at G;have B:j<=n:=by
  have:=(O0.mp G.1).1;rw [(J.row q).2] at this; omega
 have s1:u.1=ent t1 i j:=ba (G.1.symm.trans (J.cell q B));have s2:u.2=ent t2 i j:=ba (G.2.symm.trans (O.cell q B));rw [s1,s2];simp [h i j q B]
theorem Pw.world {n m:Nat} {tb W:List (List Int)} {pl:List Nat} (w:Wt' n tb) (p:Pw n tb pl m W):Qc6 n n tb pl W=zb:=by
 unfold Qc6 Qmi;rw [p.ca.comes,Qdr w.sz p.wt.sz p.le];have:(pl.all fun h=>decide (W.getD h []=tb.getD h []))=zb:=by
  rw [F7];intro h j;rw [p.row h j]; simp
 rw [this];simp
theorem Pw.stock {n:Nat} {tb W:List (List Int)} {pl:List Nat} (q:PlOk n pl) (p:Pw n tb pl n W):Q50 n W=j6 tb pl:=by
 rw [<- Q85 p.wt.sz,Q88 q];refine Zm fun h j=>?_
 rw [p.ri h j]
 by_cases z:h∈pl
 ·rw [bL (fun u=>u.2 z),bK z]
 ·rw [bK ⟨j,z⟩,bL z]
theorem Qge {n:Nat} {tb:List (List Int)} (w:Wt' n tb) (c:Ca n tb) {pl:List Nat} (p:PlOk n pl) (st:Q2):∃ W,Pw n tb pl n W/\Wf [Q7 tb,Jb pl] st=.ok (Q7 W) st:=by
 have h8:=w.n8;have U:-1000000<=(n:Int)/\(n:Int)<=1000000:=by omega
 have B:Zg st [Q7 tb]=.ok (.int n) st:=by simp [Q7,w.len]
 obtain ⟨Z,S1,e,I,W,rfl,rfl,z⟩:=jg (g:=fun k:Nat=>PV.int (k:Int)) (xs:=bS n) (ga:=Qk 3) (body:=Wx) (w:=[]) (Γ:=[zo (Q7 tb),zo (Jb pl),zo (Q7 tb),zl]) (st:=st)
  (fun i Γ st'=>∃ I W,Γ=[zo (Q7 tb),zo (Jb pl),zo (Q7 W),I]/\st'=st/\Pw n tb pl i W)
  (fun _ _ _ _=>by simp)
  (fun i k Γ st' G ⟨I,W,e1,e2,z⟩=>by
   subst e1; subst e2;have j:i < n:=by simpa using (O0.mp G).1
   have O:k=i:=by
    rw [F8 j] at G;exact (ba G).symm
   subst O;have hi:=Qsh pl k zb st'
   by_cases q:k∈pl
   ·refine ⟨_,rfl,[zo (Q7 tb),zo (Jb pl),zo (Q7 W),zo (.int k)],st',?_,_,_,rfl,rfl,z.skip q⟩;have hi:oIn zb st' (.int k) (Jb pl)=.ok (.bl za) st':=by rw [hi]; simp [q]
    generalize Q7 tb=T at *;generalize Jb pl=P at *;generalize Q7 W=Y at *;simp -implicitDefEqProofs [Wx,hi]
   ·refine ⟨_,rfl,[zo (Q7 tb),zo (Jb pl),zo (Q7 (Wm W k n (ent W k n + Qn tb k))),zo (.int k)],st',?_,_,_,rfl,rfl,z.step w c j q⟩;have hi:oIn zb st' (.int k) (Jb pl)=.ok (.bl zb) st':=by rw [hi]; simp [q]
    have hr:=Q2e w.sz (by omega) j st';have J:=Qbd z.wt.sz (by omega) j (O7 n) (Qn tb k) st';generalize Q7 (Wm W k n (ent W k n + Qn tb k))=W2 at *;generalize Q7 tb=T at *;generalize Jb pl=P at *;generalize Q7 W=Y at *;simp -implicitDefEqProofs [Wx,hi,B,hr,J])
  ⟨_,_,rfl,rfl,Pw.zero w c⟩
 rw [<- Wu] at e;rw [F6] at z;refine ⟨W,z,?_⟩;have hf:∀ s:Q2,fin s (Q7 W) s=.ok (Q7 W) s:=fun s=>Yq (by simp [Jz,Q7,Qz])
 generalize Q7 tb=T at *;generalize Jb pl=P at *;generalize Q7 W=Y at *;simp -implicitDefEqProofs [Wf,Qr,Ka,B,Jh,U,e,hf]
theorem Qvt {n:Nat} {tb:List (List Int)} (w:Wt' n tb) (c:Ca n tb) {pl:List Nat} (p:PlOk n pl) (k:Int) (st:Q2):(k<=j6 tb pl->Xn [Q7 tb,Jb pl,.int k] st=.ok (.tup [.str "may",.int (j6 tb pl)]) st)/\(¬ k<=j6 tb pl->∃ W,Pw n tb pl n W/\Xn [Q7 tb,Jb pl,.int k] st=.ok (.tup [.str "must",Q7 W]) st):=by
 have h1:=Q0h w c.comes p st;have h2:=Q4a w p st;obtain ⟨W,G,z⟩:=Qge w c p st;have B:fin st (.tup [.str "must",Q7 W]) st=.ok (.tup [.str "must",Q7 W]) st:=Yq (by simp [Jz,Q7,Qz]);have j:∀ x,fin st (.tup [.str "may",.int x]) st=.ok (.tup [.str "may",.int x]) st:=fun x=>Yq (by simp [Jz])
 generalize Q7 tb=T at *;generalize Jb pl=P at *;generalize j6 tb pl=s at *;refine ⟨fun q=>?_,fun q=>⟨W,G,?_⟩⟩
 ·simp -implicitDefEqProofs [Xn,Qr,Q2h,h1,h2,q,j,Jh]
 ·generalize Q7 W=I at *;simp -implicitDefEqProofs [Xn,Qr,Q2h,h1,h2,q,z,B,Jh]
theorem Qnt {n:Nat} {tb:List (List Int)} (w:Wt' n tb) (c:Ca n tb) {pl:List Nat} (p:PlOk n pl) (st:Q2):Wg [Q7 tb,Jb pl] st=.ok (.int (j6 tb pl)) st:=by
 have h1:=Q0h w c.comes p st;have h2:=Q4a w p st;generalize Q7 tb=T at *;generalize Jb pl=P at *;simp -implicitDefEqProofs [Wg,Qr,zw,h1,h2]
theorem Qss {n:Nat} {tb:Tab} (w:Wt' n tb) (c:Ca n tb) {m:ME} {Γ:Gam} {S:Q2} (q:m Γ S=.ok (Q7 tb) S):toB (mOp oNe (mOp oIx (Qg 1 Zk (Q3 m Q8)) (mC (.int 0))) (mC (.str "comes"))) Γ S=.ok za S:=by
 have z:=w.n8;obtain ⟨x,v,e,j⟩:=Qbv w.sz (by omega) S;rw [c.comes] at j;have j:x=bP "comes" := eq_of_beq j;subst j;refine J5 (Qf (Qf (Qt (n:=1) (Q5 q rfl) rfl e) rfl (show oIx S (.tup [.str (bP "comes"),v]) (.int 0)=.ok (.str (bP "comes")) S from rfl)) rfl ?_);show oNe S (.str (bP "comes")) (.str (bP "comes"))=_;simp
theorem Qyq (S:Q2) (a:Int):oNe S (.int a) (.int a)=.ok (.bl za) S:=by simp
theorem Qt6 {n:Nat} (j:n<=1000) {m:ME} {Γ:Gam} {S:Q2} (h:m Γ S=.ok (.int n) S):Zc (Q3 m Q8) Γ S=.ok (Ze 0 n,[]) S:=by
 rw [U5,Q5 h (show Q8 Γ S=.ok [] S from rfl),Jc];show (if -(lim:Int)<=(n:Int)/\(n:Int)<=lim then _ else _)=_;rw [bK (by rw [Jh]; omega),cB]
theorem Qhf {α:Type} (g:α->PV) {xs:List α} (I:Nat->List PV->Q2->Prop) {ga:GA} {mt:MT} {me:ME} {w:Wt} {Γ0:Gam} (Z:∀ i j st,I i j st->wOk w st)
  (h:∀ (i:Nat) x j st,xs[i]?=zo x->I i j st->∃ Γ1,ga (g x) Γ0=zo Γ1/\∃ b q,mt Γ1 st=.ok b q/\(b=zb->∃ v z,me Γ1 q=.ok v z/\I (i + 1) (j ++ [v]) z)/\(b=za->I (i + 1) j q)) {st:Q2} (h0:I 0 [] st):∃ j st',Jn ga mt me w Γ0 (xs.map g) st=.ok j st'/\I xs.length j st':=by
 have O:∀ (ys:List α) (k:Nat) (pre:List PV) (st:Q2),(∀ i,ys[i]?=xs[k + i]?)->k + ys.length=xs.length->I k pre st->∃ j st',Jn ga mt me w Γ0 (ys.map g) st=.ok j st'/\I xs.length (pre ++ j) st':=by
  intro ys
  induction ys with
  | nil=>
   intro k pre st e e2 i;refine ⟨[],st,by simp [Jn,Z k pre st i],?_⟩;rw [L5,<- e2]; exact i
  | cons y ys U=>
   intro k pre st e e2 i;obtain ⟨Γ1,h1,b,q,h2,h3,h4⟩:=h k y pre st (by have:=e 0; simpa using this.symm) i;have Y:∀ i,ys[i]?=xs[k + 1 + i]?:=fun i=>by have:=e (i + 1); rw [fD] at this; rw [this]; congr 1; omega
   have B:k + 1 + ys.length=xs.length:=by rw [<- e2,D4]; omega
   rw [E9,Jn,bK (Z k pre st i),h1];simp only [h2,Jc];cases b with
   | true=>
    obtain ⟨v,z,h5,h6⟩:=h3 rfl;obtain ⟨j,st',J,G⟩:=U (k + 1) (pre ++ [v]) z Y B h6;refine ⟨v :: j,st',?_,by rw [cC] at G; exact G⟩;rw [bK rfl,h5];simp only [Jc,J]
   | false=>
    obtain ⟨j,st',J,G⟩:=U (k + 1) pre q Y B (h4 rfl);refine ⟨j,st',?_,G⟩;rw [bL (by simp),J]
 obtain ⟨j,st',h1,h2⟩:=O xs 0 [] st (fun i=>by simp) (by simp) h0;exact ⟨j,st',h1,h2⟩
theorem Qq0 {S:Q2} {L n:Nat} (T:Tp S L) (h1:1<=n) (h8:n<=8):∃ (pl:List Nat) (S':Q2),PlOk n pl/\Tp S' L/\Mv L S S'/\X2 [.ref L,.int n] S=.ok (Jb pl) S':=by
 obtain ⟨G,S1,e,os,J,I,o3,Y,Z,M1⟩:=Qhf (g:=fun k:Nat=>PV.int (k:Int)) (xs:=bS n) (ga:=Qk 0) (mt:=qm) (me:=jk) (w:=[]) (Γ0:=[zl,zo (.ref L)]) (st:=S)
  (fun k G st=>∃ os:List Nat,os.Pairwise (· < ·)/\(∀ x∈os,x < k)/\os.length<=k/\G=os.map Ja/\Tp st L/\Mv L S st)
  (fun _ _ _ _=>by simp)
  (fun k x G st z ⟨os,J,I,o3,Y,Z,M1⟩=>by
   have a2:k < n:=by simpa using (O0.mp z).1
   rw [F8 a2] at z;cases z;obtain ⟨d,j,hd,O,M2,U⟩:=Zh Z 2 (by decide) (by decide)
   by_cases q:d=0
   ·refine ⟨_,rfl,zb,j,J5 (Qf (Qt (n:=2) (Q5 rfl (Q5 rfl rfl)) rfl U) rfl (Q6c j (by omega))),fun _=>⟨.int k,j,rfl,os ++ [k],?_,fun y B=>?_,by simp; omega,?_,O,M1.trans M2⟩,fun h=>by cases h⟩
    ·rw [List.pairwise_append];refine ⟨J,by simp,fun a ha b hb=>?_⟩;have:b=k:=by simpa using hb
     rw [this]; exact I a ha
    ·rcases E7.mp B with B | B
     ·have:=I y B; omega
     ·have:y=k:=by simpa using B
      omega
    ·rw [Y,F4]; rfl
   ·exact ⟨_,rfl,za,j,J5 (Qf (Qt (n:=2) (Q5 rfl (Q5 rfl rfl)) rfl U) rfl (Q6d j (by omega))),fun h=>(by cases h),fun _=>⟨os,J,fun y B=>by have:=I y B; omega,by omega,Y,O,M1.trans M2⟩⟩)
  ⟨[],List.Pairwise.nil,fun x z=>(by cases z),by simp,rfl,T,Mv.refl L S⟩
 rw [F6] at I o3;rw [<- Wu] at e;subst Y;have s1:J8 2 (W6 (Jt [zl,zo 0] (Qk 0) (Zc (Q3 (Q4 1) Q8)) qm jk)) [zo (.ref L),zo (.int n),zl] S=.nx [zo (.ref L),zo (.int n),zo (.lst (os.map Ja))] S1:=J6 (zf (Vb (Qt6 (by omega) rfl) e));cases os with
 | nil=>
  obtain ⟨d,S2,hd,O,M2,U⟩:=Zh Z n h1 (by omega);refine ⟨[d],S2,⟨by simp,fun x z=>?_,by simp,by simp⟩,O,M1.trans M2,?_⟩
  ·have:x=d:=by simpa using z
   omega
  ·have step:Kp [zo (.ref L),zo (.int n),zl] S=.rt (Jb [d]) S2:=
    Qi s1 (K2 (jd (J5 (Qf rfl (Qdh (ps:=[]) rfl) rfl)) (V0 (U1 (Q5 (Qt (n:=2) (Q5 rfl (Q5 rfl rfl)) rfl U) rfl) (by simp)))))
   exact (Zv step).trans (yw (M1.trans M2).len (by simp [Jz,Jb,Ja]))
 | cons y ys=>
  refine ⟨y :: ys,S1,⟨by simp,I,J,by omega⟩,Z,M1,?_⟩;have hq:oEq S1 (.lst ((y :: ys).map Ja)) (.lst [])=.ok (.bl za) S1:=by simp [oEq,der,peq,X8,Jz,dep,Ja]
  have step:Kp [zo (.ref L),zo (.int n),zl] S=.rt (Jb (y :: ys)) S1:=
   Qi s1 (Qi (Yh (J5 (Qf rfl (Qdh (ps:=[]) rfl) hq)) rfl) (V0 (V5 (Q5 rfl rfl) rfl)))
  exact (Zv step).trans (yw M1.len (by simp [Jz,Jb,Ja]))
def Qzt (tb:Tab) (pl:List Nat) (ds:List Dd):Prop:=ds.length<=pl.length/\(ds.map Dd.h).Nodup/\∀ d∈ds,d.h∈pl/\∃ k,d=.us d.h k/\1<=k/\k<=Qn tb d.h
theorem Qpy {n:Nat} {tb:Tab} (w:Wt' n tb) {pl:List Nat} (p:PlOk n pl) (k:Int) (S:Q2):∃ ds:List Dd,Qzt tb pl ds/\qd [Jb pl,Q7 tb,.int k] S=.ok (.ref S.length) (S ++ [.lst (ds.map Dd.V)]):=by
 have h8:=w.n8;have a6:=p.len;obtain ⟨a5,S',e,ds,G,Y,J,u,rfl,rfl⟩:=Q2m (g:=Ja) (xs:=pl) (ga:=Qk 5) (body:=Q29) (w:=[]) (Γ:=[zo (Jb pl),zo (Q7 tb),zo (.int k),zo (.ref S.length),zo (.int k),zl,zl]) (st:=S ++ [.lst []])
  (fun pre Γ st=>∃ (ds:List Dd) (G:Int) (Y J:Option PV),Qzt tb pre ds/\Γ=[zo (Jb pl),zo (Q7 tb),zo (.int k),zo (.ref S.length),zo (.int G),Y,J]/\st=S ++ [.lst (ds.map Dd.V)])
  (fun _ _ _ _=>by simp)
  (fun pre x a4 Γ st U ⟨ds,G,Y,J,u,Z,j⟩=>by
   subst Z; subst j;have a2:x∈pl:=by rw [U]; simp
   have a3:=p.lt x a2;have nd:pl.Nodup:=p.inc.imp fun h=>D9 h
   have I:x∉pre:=by
    rw [U] at nd;exact fun h=>(cz.mp nd).2.2 x h x D1 rfl
   obtain ⟨u1,u2,O⟩:=u;have a7:pre.length<=8:=by
    have:=congrArg dW U;rw [D0] at this;omega
   obtain ⟨st,j⟩:∃ st,S ++ [Cell.lst (ds.map Dd.V)]=st:=⟨_,rfl⟩;have gt:st[S.length]?=zo (.lst (ds.map Dd.V)):=by rw [<- j]; simp
   rw [j];have er:=jr w.sz (by omega) a3 st;obtain ⟨m,hm⟩:∃ m:Int,(if Qn tb x < G then Qn tb x else G)=m:=⟨_,rfl⟩;have s6:J8 6 (J3 Qfp (Q3 (Q4 4) (Q3 (Qg 2 Jd (Q3 (Q4 1) (Q3 (Q4 5) Q8))) Q8))) [zo (Jb pl),zo (Q7 tb),zo (.int k),zo (.ref S.length),zo (.int G),zo (.int x),J] st=.nx [zo (Jb pl),zo (Q7 tb),zo (.int k),zo (.ref S.length),zo (.int G),zo (.int x),zo (.int m)] st:=
    J6 (V5 (Q5 rfl (Q5 (Qt (n:=2) (Q5 rfl (Q5 rfl rfl)) rfl er) rfl)) (by rw [Qfn,hm]))
   have B:∀ d∈ds,d.h∈pre ++ [x]/\∃ k,d=.us d.h k/\1<=k/\k<=Qn tb d.h:=fun d hd=>⟨F9 _ (O d hd).1,(O d hd).2⟩
   by_cases q:0 < m
   ·have ap:=Q13 gt (by rw [O2]; omega) (.tup [.str "use",.int x,.int m]);refine ⟨_,rfl,_,_,Qi s6 (Qi (jd (J5 (Qf rfl rfl (Qnz st q))) (Q42 (p:=.ref S.length) rfl (U8 gt) (Q5 (U1 (Q5 rfl (Q5 rfl (Q5 rfl rfl))) (by simp)) rfl) ap)) (J6 (Qf rfl rfl (Qg2 _ _ _)))),ds ++ [.us x m],_,_,_,⟨by simp; omega,?_,fun d hd=>?_⟩,rfl,?_⟩
    ·rw [F4];refine cz.mpr ⟨u2,by simp,fun a ha b hb=>?_⟩;obtain ⟨d,hd,rfl⟩:=cL.mp ha;have:b=x:=by simpa [Dd.h] using hb
     rw [this];exact fun z=>I (z ▸ (O d hd).1)
    ·rcases E7.mp hd with hd | hd
     ·exact B d hd
     ·have:d=.us x m:=by simpa using hd
      subst this;refine ⟨E6 _ (by simp [Dd.h]),m,rfl,by omega,?_⟩;show m<=Qn tb x;rw [<- hm]; split <;> omega
    ·rw [<- j,F4];simp [Dd.V]
   ·refine ⟨_,rfl,_,_,Qi s6 (Qi (Yh (J5 (Qf rfl rfl (Qig st q))) rfl) (J6 (Qf rfl rfl (Qg2 _ _ _)))),ds,_,_,_,⟨by simp; omega,u2,B⟩,rfl,j.symm⟩)
  ⟨[],k,zl,zl,⟨by simp,by simp,fun d hd=>absurd hd cK⟩,rfl,rfl⟩
 refine ⟨ds,u,?_⟩;exact jp (m:=Q0p) (nl:=7) (Qi (Γ1:=[zo (Jb pl),zo (Q7 tb),zo (.int k),zo (.ref S.length),zl,zl,zl]) (S1:=S ++ [.lst []]) (J6 (zg (ps:=[]) rfl)) (Qi (Γ1:=[zo (Jb pl),zo (Q7 tb),zo (.int k),zo (.ref S.length),zo (.int k),zl,zl]) (J6 rfl) (Qi (y8 (Q7r (p:=Jb pl) rfl rfl (by rw [O2]; omega)) e) (V0 rfl))))
theorem Qb2 {n:Nat} {tb:Tab} (w:Wt' n tb):∀ (ds:List Dd) (s:RS),RI n s->(ds.map Dd.h).Nodup->(∀ d∈ds,d.h < n/\s.now.getD d.h []=tb/\∃ k,d=.us d.h k/\1<=k/\k<=Qn tb d.h)->OkL n s (ds.map .own)/\Q14 n s (ds.map .own)=ds.map fun _=>PV.str "done"
 | [],_,_,_,_=>⟨trivial,rfl⟩
 | d :: ds,s,r,nd,h=>by
  obtain ⟨G,J,k,hd,k1,k2⟩:=h d D1;have ok:Dx.ok n s (.own d):=by rw [hd]; exact ⟨G,k1⟩
  have fits:d.fits (s.now.getD d.h [])=zb:=by
   rw [J];unfold Dd.fits;rw [hd,eu];exact .inr (bO (by rw [hd] at k2; exact k2))
  have j:=cj.mp (by simpa using nd:(d.h :: ds.map Dd.h).Nodup);have st:Z3 n s (.own d)=⟨s.now.set d.h (d.put n (s.now.getD d.h [])),s.last,s.le⟩:=bK fits;have q:=Qb2 w ds (Z3 n s (.own d)) (r.step ok) j.2 fun e B=>by
   obtain ⟨en,I,O⟩:=h e (O9 _ B);refine ⟨en,?_,O⟩;rw [st];show (s.now.set d.h _).getD e.h []=tb;rw [Js (by rw [r.ln]; exact G),bL ?_,I];exact fun z=>j.1 (cL.mpr ⟨e,B,by omega⟩)
  refine ⟨⟨ok,q.1⟩,?_⟩;show Q4w s (.own d) :: Q14 n (Z3 n s (.own d)) (ds.map .own)=_;rw [q.2,show Q4w s (.own d)=.str "done" from bK fits]; rfl
structure JT (n:Nat) (s:RS) (T:Tab):Prop where
 w:Wt' n T
 c:Ca n T
 ch:∀ A,InS n s A->∀ h,h < n->rle n h A T\/rle n h T A
 top:∀ h,h < n->rle n h T (s.now.getD h [])
theorem SI17.jt {n:Nat} {s:RS} (I:SI17 n s) {i:Nat} (hi:i < n):JT n s (s.now.getD i []):=⟨I.ri.wn i hi,I.ca _ (.now hi),fun A q=>I.ch A _ q (.now hi),fun _ j=>I.ri.top (.now hi) j⟩
theorem JT.join {n:Nat} {s:RS} {T:Tab} (I:SI17 n s) (J:JT n s T) {m:Nat} (O:m < n):JT n s (Zi T (s.now.getD m []))/\(∀ h,h < n->rle n h T (Zi T (s.now.getD m [])))/\∀ h,h < n->rle n h (s.now.getD m []) (Zi T (s.now.getD m [])):=by
 have G:=I.ri.wn m O;have U:∀ h,h < n->rle n h T (s.now.getD m [])\/rle n h (s.now.getD m []) T:=fun h B=>(J.ch _ (.now O) h B).symm
 refine ⟨⟨Qd6 J.w G,Qir J.w G J.c (I.ca _ (.now O)) U,fun A Y h B=>?_,fun h B j q=>?_⟩,fun h B j q=>?_,fun h B j q=>?_⟩
 ·rcases Q9a J.w.sz G.sz B (U h B) with e | e
  ·rcases J.ch A Y h B with z | z
   ·exact .inl fun j q=>by rw [e j q]; exact z j q
   ·exact .inr fun j q=>by rw [e j q]; exact z j q
  ·rcases I.ch A _ Y (.now O) h B with z | z
   ·exact .inl fun j q=>by rw [e j q]; exact z j q
   ·exact .inr fun j q=>by rw [e j q]; exact z j q
 ·rw [V3 J.w.sz G.sz B q];rcases Qcx (ent T h j) (ent (s.now.getD m []) h j) with e | e
  ·rw [e]; exact J.top h B j q
  ·rw [e]; exact I.ri.top (.now O) B j q
 ·rw [V3 J.w.sz G.sz B q]; exact Qcy _ _
 ·rw [V3 J.w.sz G.sz B q]; exact Qni _ _
theorem Qr6 {n:Nat} {s:RS} {T O:Tab} {pl:List Nat} (p:PlOk n pl) (J:JT n s T) (up:∀ i∈pl,∀ h,h < n->rle n h (s.now.getD i []) T) (B:JT n s O) (z:∀ i,i < n->∀ h,h < n->rle n h (s.now.getD i []) O):j6 T pl<=Q50 n O:=by
 rw [Q88 p T,<- Q85 B.w.sz];refine Q4z fun i hi=>?_
 split
 ·rename_i hp;have e:∀ j,j<=n->ent T i j=ent O i j:=fun j q=>by
   have a1:=J.top i hi j q;have Y:=up i hp i hi j q;have I:=B.top i hi j q;have U:=z i hi i hi j q;omega
  rw [Yu J.w.sz hi,Yu B.w.sz hi,e n (O7 n),e i (E2 hi),Zm (f:=fun j=>ent T i j) (g:=fun j=>ent O i j) fun j q=>e j (E2 q)]
  have h2:=Q4z (n:=n) (f:=fun o=>ent T o i) (g:=fun o=>ent O o i) fun o G=>bf (J.top o G i (E2 hi)) (z o G o G i (E2 hi))
  omega
 ·exact B.c.nn i hi
theorem Qi5 {S:Q2} {v:PV} (g:Jz dep v=zb) (hd:der S v=v):oNe S v v=.ok (.bl za) S:=by
 have hp:peq v v=zb:=Q1n g;unfold oNe;rw [hd];simp [g,hp]
theorem Qz5 (S:Q2) {a b:Int} (h:¬ b<=a):(oI fun a b=>.bl (decide (b<=a))) S (.int a) (.int b)=.ok (.bl za) S:=by
 show Res.ok (PV.bl (decide (b<=a))) S=_; rw [bN h]
theorem Qyx (S:Q2) {a b:Int} (h:a<=b):(oI fun a b=>.bl (decide (a<=b))) S (.int a) (.int b)=.ok (.bl zb) S:=by
 show Res.ok (PV.bl (decide (a<=b))) S=_; rw [bO h]
theorem Qyy (S:Q2) {a b:Int} (h:¬ a<=b):(oI fun a b=>.bl (decide (a<=b))) S (.int a) (.int b)=.ok (.bl za) S:=by
 show Res.ok (PV.bl (decide (a<=b))) S=_; rw [bN h]
abbrev lG (ns:List Int) (tb:Tab) (n L:Nat) (O:Tab) (c8 c9 c10 c11 c12 c13 c14 c15 c16:Option PV):Gam:=[zo (.fro (ns.map .int)),zo (Q7 tb),zo (.int n),zo (.ref 4),zo (.ref 5),zo (.ref 3),zo (.ref L),zo (Q7 O),c8,c9,c10,c11,c12,c13,c14,c15,c16]
theorem Qu5 {C:aA} {n:Nat} {s:RS} (I:SI17 n s) (h1:1<=n) (h8:n<=8) {L:Nat} {S:Q2} (T:Tp S L) (hL:4<=L) (ls:LS s S) {O:Tab} (JO:JT n s O) (e8:∀ i,i < n->∀ h,h < n->rle n h (s.now.getD i []) O) (ns:List Int) (tb:Tab) (c8 c9 c4 a7 a2 a3 Z Y B:Option PV) :
  ∃ (d1 f2 e9 d9 e6 f6 f0:Option PV) (S':Q2),Qdj C (lG ns tb n L O c8 c9 c4 a7 a2 a3 Z Y B) S=.nx (lG ns tb n L O c8 c9 d1 f2 e9 d9 e6 f6 f0) S'/\Tp S' L/\LS s S':=by
 have r:=I.ri;obtain ⟨pl,S1,p,T1,M1,f3⟩:=Qq0 T h1 h8;have a4:=ls.mv M1 hL;have g3:=p.len;obtain ⟨p0,e5,d7⟩:∃ p0,p0∈pl/\oIx S1 (Jb pl) (.int 0)=.ok (.int (p0:Nat)) S1:=by
  cases pl with
  | nil=>exact absurd rfl p.ne
  | cons a as=>exact ⟨a,D1,by show okO S1 (atI (Ja a :: as.map Ja) ((0:Nat):Int))=_; rw [Sm.atI_get (show (Ja a :: as.map Ja)[0]?=zo (Ja a) from rfl)]; rfl⟩
 have b0:=p.lt p0 e5;have b7:J8 10 (Qg 2 X2 (Q3 (Q4 6) (Q3 (Q4 2) Q8))) (lG ns tb n L O c8 c9 c4 a7 a2 a3 Z Y B) S=.nx (lG ns tb n L O c8 c9 (zo (Jb pl)) a7 a2 a3 Z Y B) S1:=J6 (Qt (n:=2) (Q5 rfl (Q5 rfl rfl)) rfl f3);have c0:J8 11 (mOp oIx (Ya (Q4 5) (mC (.str "now"))) (mOp oIx (Q4 10) (mC (.int 0)))) (lG ns tb n L O c8 c9 (zo (Jb pl)) a7 a2 a3 Z Y B) S1=.nx (lG ns tb n L O c8 c9 (zo (Jb pl)) (zo (Q7 (s.now.getD p0 []))) a2 a3 Z Y B) S1:=J6 (Qf (Xw rfl rfl a4.gn) (Qf rfl rfl d7) (zh a4.now (by rw [r.ln]; exact b0)));obtain ⟨f9,J,c1,G,U,rfl,rfl,JU,b4⟩:=Q2m (g:=Ja) (xs:=pl) (ga:=Qk 12) (body:=Qiu C) (w:=[]) (Γ:=lG ns tb n L O c8 c9 (zo (Jb pl)) (zo (Q7 (s.now.getD p0 []))) a2 a3 Z Y B) (st:=S1)
  (fun pre Γ st=>∃ a2 U,Γ=lG ns tb n L O c8 c9 (zo (Jb pl)) (zo (Q7 U)) a2 a3 Z Y B/\st=S1/\JT n s U/\∀ i∈pre,∀ h,h < n->rle n h (s.now.getD i []) U)
  (fun _ _ _ _=>by simp)
  (fun pre x f7 Γ st hx ⟨a2,U,f4,a5,JU,b4⟩=>by
   subst f4; subst a5;have b1:=p.lt x (by rw [hx]; simp);obtain ⟨J2,q1,q2⟩:=JU.join I b1;have wN:=r.wn x b1;have ej:=Q43 (a:=U) (b:=s.now.getD x []) (by rw [JU.w.len,wN.len]) (by rw [JU.w.len]; omega) (fun q hq=>by rw [JU.w.row q hq]; omega) st;refine ⟨_,rfl,_,_,J6 (Qt (n:=2) (Q5 rfl (Q5 (Qf (Xw rfl rfl a4.gn) rfl (zh a4.now (by rw [r.ln]; exact b1))) rfl)) rfl ej),zo (.int x),_,rfl,rfl,J2,fun i hi h hh=>?_⟩;rcases E7.mp hi with hi | hi
   ·exact fun j hj=>bf (b4 i hi h hh j hj) (q1 h hh j hj)
   ·rw [ce.mp hi]; exact q2 h hh)
  ⟨_,_,rfl,rfl,I.jt b0,fun i hi=>absurd hi cK⟩
 have wU:=JU.w;have e4:(pl.map Ja).length<=1000000:=by rw [O2]; omega
 have sq:∀ {Γ:Gam} {S:Q2},Γ[10]?=zo (zo (Jb pl))->U9 (Q4 10) Γ S=.ok (pl.map Ja,[]) S:=fun {Γ S} h=>Q7r (p:=Jb pl) (by rw [Qi6,h]) rfl e4
 have c5:=Qbf wU p (Qda C) [zl,zo (Q7 U)] J fun i hi=>Qt (n:=2) (Q5 rfl (Q5 rfl rfl)) rfl (jr wU.sz (by omega) hi J)
 have su:Wd (fun ns=>zo (.int ns.sum)) J [.lst ((pl.map (Qn U)).map .int)]=.ok (.int (j6 U pl)) J:=by rw [Qby]; rfl
 have b2:J8 13 (J3 (Wd fun ns=>zo (.int ns.sum)) (Q3 (W6 (Jt [zl,zo 11] (Qk 0) (U9 (Q4 10)) Je (Qda C))) Q8)) (lG ns tb n L O c8 c9 (zo (Jb pl)) (zo (Q7 U)) G a3 Z Y B) J=.nx (lG ns tb n L O c8 c9 (zo (Jb pl)) (zo (Q7 U)) G (zo (.int (j6 U pl))) Z Y B) J:=J6 (V5 (Q5 (zf (Vb (sq rfl) c5)) rfl) su)
 have el:=Qnt wU JU.c p J;have es:=Qdu JO.w.sz (by omega) J;have le:=Qr6 p JU b4 JO e8;obtain ⟨H,hH⟩:∃ H,j6 U pl=H:=⟨_,rfl⟩;have b3:(Z8 (yg (toB (mOp oNe (Qg 2 Wg (Q3 (Q4 11) (Q3 (Q4 10) Q8))) (Q4 13))) (toB (mOp (oI fun a b=>.bl (decide (b < a))) (Q4 13) (Qg 1 Q15 (Q3 (Q4 7) Q8))))) (Jp (mC (.bl za))) Z2) (lG ns tb n L O c8 c9 (zo (Jb pl)) (zo (Q7 U)) G (zo (.int (j6 U pl))) Z Y B) J=.nx (lG ns tb n L O c8 c9 (zo (Jb pl)) (zo (Q7 U)) G (zo (.int (j6 U pl))) Z Y B) J:=
  Yh (Qcn (J5 (Qf (Qt (n:=2) (Q5 rfl (Q5 rfl rfl)) rfl el) rfl (Qyq J _))) (J5 (Qf rfl (Qt (n:=1) (Q5 rfl rfl) rfl es) (Qig J (by omega))))) rfl
 obtain ⟨d,z,hd,T2,M2,ed⟩:=Zh T1 4 (by decide) (by decide);have d0:=a4.mv M2 hL;obtain ⟨k,hk⟩:∃ k:Int,(if H + (d:Int) - 1 > 1 then H + (d:Int) - 1 else 1)=k:=⟨_,rfl⟩;have b9:J8 14 (J3 Q5x (Q3 (mC (.int 1)) (Q3 (mOp (oI fun a b=>.int (a - b)) (mOp Yg (Q4 13) (Qg 2 Qh (Q3 (Q4 6) (Q3 (mC (.int 4)) Q8)))) (mC (.int 1))) Q8))) (lG ns tb n L O c8 c9 (zo (Jb pl)) (zo (Q7 U)) G (zo (.int H)) Z Y B) J=.nx (lG ns tb n L O c8 c9 (zo (Jb pl)) (zo (Q7 U)) G (zo (.int H)) (zo (.int k)) Y B) z:=
  J6 (V5 (Q5 rfl (Q5 (Qf (Qf rfl (Qt (n:=2) (Q5 rfl (Q5 rfl rfl)) rfl ed) (Q5z z _ _)) rfl (Qg2 z _ _)) rfl)) (by rw [Q9q,hk]))
 have em:=Qvt wU JU.c p k z;rw [hH] at b2 b3 em;have gW:∀ W:Tab,Jz dep (.tup [.str "must",Q7 W])=zb:=fun W=>by simp [dep,Jz,Q7,Qz]
 by_cases q:k<=H
 ·have b5:=em.1 q;obtain ⟨ds,ud,c3⟩:=Qpy wU p k z;obtain ⟨S3,a8⟩:∃ S3,z ++ [Cell.lst (ds.map Dd.V)]=S3:=⟨_,rfl⟩;rw [a8] at c3;have u3:S3[z.length]?=zo (.lst (ds.map Dd.V)):=by rw [<- a8]; simp
  have l3:S3.length=z.length + 1:=by rw [<- a8]; simp
  have a9:∀ t,t < z.length->S3[t]?=z[t]?:=fun t ht=>by rw [<- a8,O5 ht]
  obtain ⟨g0,d3,b6⟩:=ud;have ud:=Qb2 wU ds (s0 n U) (RI.start wU) d3 fun d hd=>⟨p.lt _ (b6 d hd).1,yk (p.lt _ (b6 d hd).1),(b6 d hd).2⟩
  have c7:(ds.map Dx.own).map Dx.V=ds.map Dd.V:=by rw [G6]; rfl
  obtain ⟨S4,d4,f8,a6,b8,g1⟩:=Qjh (C:=C) (S:=S3) (DV:=.ref z.length) (xs:=ds.map .own) (wt:=[(z.length,.lst (ds.map Dd.V))]) wU JU.c (fun st a5=>by
   have q:st[z.length]?=zo (.lst (ds.map Dd.V)):=by rw [a5 _ (by omega)]; exact u3
   rw [c7];refine ⟨?_,fun x hx=>?_⟩
   ·unfold Ws; simp only [q]
   ·rw [ce.mp hx]; exact q) (by rw [O2]; omega) ud.1
  rw [ud.2] at b8;have u4:S4[z.length]?=zo (.lst (ds.map Dd.V)):=by rw [a6 _ (by omega)]; exact u3
  have d6:ListAt S4 (.ref z.length) (ds.map Dd.V):=.inr (.inr ⟨_,rfl,u4⟩);obtain ⟨w4,c2,d8⟩:=d6.src;have gd:Jz dep (.lst (ds.map fun _=>PV.str "done"))=zb:=by
   show (ds.map fun _=>PV.str "done").all _=zb;rw [F7];intro v hv;obtain ⟨_,_,rfl⟩:=cL.mp hv;rfl
  have e0:=(ListAt.eqs (st:=S4) (V:=.ref (S3.length + n + 1)) (.inr (.inr ⟨_,rfl,b8⟩)) gd).2.1;have hc:Jn (Qk 0) Je (Qin C) w4 [zl] (ds.map Dd.V) S4=.ok (ds.map fun _=>PV.str "done") S4:=Z0 _ _ d8 fun x hx=>⟨_,rfl,rfl⟩
  have sm:oNe S3 (.tup [.str "may",.int H]) (.tup [.str "may",.int H])=.ok (.bl za) S3:=Qi5 rfl rfl;refine ⟨_,_,_,_,_,_,_,S4,Qi b7 (Qi c0 (Qi (y8 (sq rfl) c1) (Qi b2 (Qi b3 (Qi b9 (Qi (Γ1:=lG ns tb n L O c8 c9 (zo (Jb pl)) (zo (Q7 U)) G (zo (.int H)) (zo (.int k)) (zo (.tup [.str "may",.int H])) B) (J6 (Qt (n:=3) (Q5 rfl (Q5 rfl (Q5 rfl rfl))) rfl b5)) (jd (J5 (Qf rfl rfl (Qyx z q))) (Qi (Γ1:=lG ns tb n L O c8 c9 (zo (Jb pl)) (zo (Q7 U)) G (zo (.int H)) (zo (.int k)) (zo (.tup [.str "may",.int H])) (zo (.ref z.length))) (J6 (Qt (n:=3) (Q5 rfl (Q5 rfl (Q5 rfl rfl))) rfl c3)) (Yh (Qcn (J5 (Qf rfl (U1 (Q5 rfl (Q5 rfl rfl)) (by simp)) sm)) (J5 (Qf (Qf (Qt (n:=2) (Q5 rfl (Q5 rfl rfl)) rfl d4) rfl (show oIx S4 (.tup [.ref (S3.length + n + 1),.ref (S3.length + n + 2)]) (.int 0)=.ok (.ref (S3.length + n + 1)) S4 from rfl)) (zf (Vb (Q7r (p:=.ref z.length) rfl c2 (by rw [O2]; omega)) hc)) e0))) rfl))))))))),?_,?_⟩
  ·obtain ⟨c,hc⟩:=T2;have:=(O0.mp hc).1;exact ⟨c,by rw [a6 _ (by omega),a9 _ this]; exact hc⟩
  ·have:=T2.lt;exact d0.of fun t ht=>by rw [a6 _ (by omega),a9 _ (by omega)]
 ·obtain ⟨W,pw,b5⟩:=em.2 q;have ew:=Qf9 wU pw.wt JU.c.comes p z;rw [pw.world wU] at ew;have d2:=Qdu pw.wt.sz (by omega) z;have a5:=Pw.stock p pw;rw [hH] at a5;have c6:=Qb0 (t1:=U) (t2:=W) (by rw [wU.len,pw.wt.len]) z (by rw [wU.len,Jh]; omega) (fun r hr=>by rw [wU.row r hr,Jh]; omega);rw [Qdr wU.sz pw.wt.sz pw.le] at c6;have f1:∀ Γ:Gam,Γ[15]?=zo (zo (.tup [.str "must",Q7 W]))->mOp oIx (Q4 15) (mC (.int 1)) Γ z=.ok (Q7 W) z:=fun Γ h=>Qf (x:=.tup [.str "must",Q7 W]) (by rw [Qi6,h]) rfl rfl
  have f5:Jn (Qk 0) Je (Qim C) [] [zl,zo (.tup [.str "must",Q7 W])] (pl.map Ja) z=.ok (pl.map fun i=>Qz (U.getD i [])) z:=Z0 _ _ (by simp) fun i hi=>⟨_,rfl,by
   have:=Qf (a:=mOp oIx (Q4 1) (mC (.int 1))) (b:=Q4 0) (Γ:=[zo (Ja i),zo (.tup [.str "must",Q7 W])]) (S:=z) (Qf rfl rfl rfl) rfl (Uw pw.wt.sz (p.lt i hi) (bv n) z).1;rw [pw.row i hi] at this;exact this⟩
  have e7:Jn (Qk 0) Je (Qik C) [] [zl,zo (Q7 U)] (pl.map Ja) z=.ok (pl.map fun i=>Qz (U.getD i [])) z:=Z0 _ _ (by simp) fun i hi=>⟨_,rfl,Qf rfl rfl (Uw wU.sz (p.lt i hi) (bv n) z).1⟩
  have gd:Jz dep (.lst (pl.map fun i=>Qz (U.getD i [])))=zb:=by simp [dep,Jz,Qz]
  have d5:=(ListAt.eqs (st:=z) (V:=.lst (pl.map fun i=>Qz (U.getD i []))) (.inl rfl) gd).1
  have nm:oNe z (.str "must") (.str "must")=.ok (.bl za) z:=Qi5 rfl rfl;refine ⟨_,_,_,_,_,_,_,z,Qi b7 (Qi c0 (Qi (y8 (sq rfl) c1) (Qi b2 (Qi b3 (Qi b9 (Qi (Γ1:=lG ns tb n L O c8 c9 (zo (Jb pl)) (zo (Q7 U)) G (zo (.int H)) (zo (.int k)) (zo (.tup [.str "must",Q7 W])) B) (J6 (Qt (n:=3) (Q5 rfl (Q5 rfl (Q5 rfl rfl))) rfl b5)) (Yh (J5 (Qf rfl rfl (Qyy z q))) (Qi (Yh (Qcn (J5 (Qf (Qf rfl rfl rfl) rfl nm)) (Qcn (J5 (Qf (Qt (n:=3) (Q5 rfl (Q5 rfl (Q5 (f1 _ rfl) rfl))) rfl ew) rfl rfl)) (J5 (Qf (Qt (n:=1) (Q5 (f1 _ rfl) rfl) rfl d2) rfl (Qz5 z (by omega)))))) rfl) (Qi (Yh (Qcn (Qss pw.wt pw.ca (f1 _ rfl)) (Qgp (J5 (Qt (n:=2) (Q5 rfl (Q5 (f1 _ rfl) rfl)) rfl c6)))) rfl) (Yh (J5 (Qf (zf (Vb (sq rfl) f5)) (zf (Vb (sq rfl) e7)) d5)) rfl)))))))))),T2,d0⟩
theorem Qsd (C:aA):∀ ns:List Int,ns.length<=63->∃ st',Qty C [.fro (ns.map .int)] []=.ok (.bl zb) st':=by
 intro ns b6;obtain ⟨n,tb,hn,I0,e1⟩:=Qkz ns;have w:=I0.w;have c:=I0.c;obtain ⟨m,hm,em⟩:∃ m:Nat,m<=13/\(if (if (ns.length:Int) - 1 < 8 then (ns.length:Int) - 1 else 8) > 3 then (if (ns.length:Int) - 1 < 8 then (ns.length:Int) - 1 else 8) else 3)=(m:Int):=by
  refine ⟨(if (if (ns.length:Int) - 1 < 8 then (ns.length:Int) - 1 else 8) > 3 then (if (ns.length:Int) - 1 < 8 then (ns.length:Int) - 1 else 8) else 3).toNat,?_,?_⟩ <;> split <;> split <;> omega
 obtain ⟨xs,S1,b9,A,e2⟩:=Qhm I0 ns m hm;have l6:=A.len;have I:=(SI17.start w c).run A.ok;obtain ⟨s,hs⟩:∃ s,Ug n (s0 n tb) xs=s:=⟨_,rfl⟩;have a9:=A.ls;rw [hs] at I a9;have r:=I.ri;obtain ⟨ct,et⟩:=Q9u ns 9 S1;obtain ⟨S2,a6⟩:∃ S2,S1 ++ [Cell.lst [.int ct]]=S2:=⟨_,rfl⟩;rw [a6] at et;have T2:Tp S2 S1.length:=⟨ct,by rw [<- a6]; simp⟩;have z:LS s S2:=a9.of fun t ht=>by rw [<- a6,O5 (by omega)]
 have b0:s.now.map Q7=(bS n).map fun i=>Q7 (s.now.getD i []):=by rw [Q8t s.now [] Q7,r.ln]
 have src:Ws S2 (.ref 0)=zo ((bS n).map fun i=>Q7 (s.now.getD i []),[(0,.lst (s.now.map Q7))]):=by
  unfold Ws; simp only [z.now]; rw [b0]
 obtain ⟨b3,B,ej,c8,O,rfl,rfl,JO,a2⟩:=jg (g:=fun i:Nat=>Q7 (s.now.getD i [])) (xs:=bS n) (ga:=Qk 8) (body:=Qiv C) (w:=[(0,.lst (s.now.map Q7))]) (Γ:=lG ns tb n S1.length (s.now.getD 0 []) zl zl zl zl zl zl zl zl zl) (st:=S2)
  (fun k Γ st=>∃ c8 O,Γ=lG ns tb n S1.length O c8 zl zl zl zl zl zl zl zl/\st=S2/\JT n s O/\∀ i,i < k->∀ h,h < n->rle n h (s.now.getD i []) O)
  (fun _ _ st ⟨_,_,_,h,_⟩=>by rw [h]; exact fun x hx=>by rw [ce.mp hx]; exact z.now)
  (fun k x Γ st hx ⟨c8,O,a5,b1,JO,a2⟩=>by
   subst a5; subst b1;have hk:k < n:=by simpa using (O0.mp hx).1
   rw [F8 hk] at hx;cases hx;obtain ⟨J2,q1,q2⟩:=JO.join I hk;have wN:=r.wn k hk;have ej:=Q43 (a:=O) (b:=s.now.getD k []) (by rw [JO.w.len,wN.len]) (by rw [JO.w.len]; omega) (fun q hq=>by rw [JO.w.row q hq]; omega) st;refine ⟨_,rfl,_,_,J6 (Qt (n:=2) (Q5 rfl (Q5 rfl rfl)) rfl ej),zo (Q7 (s.now.getD k [])),_,rfl,rfl,J2,fun i hi h hh=>?_⟩
   by_cases qi:i=k
   ·subst qi; exact q2 h hh
   ·exact fun j hj=>bf (a2 i (by omega) h hh j hj) (q1 h hh j hj))
  ⟨_,_,rfl,rfl,I.jt hn.1,fun i hi=>absurd hi (dN i)⟩
 rw [F6] at a2;obtain ⟨c0,S3,e3,⟨c9,a3,Y,J,a4,U,G,Z,rfl⟩,_,_⟩:=jg (g:=fun k:Nat=>PV.int (k:Int)) (xs:=bS 3) (ga:=Qk 9) (body:=Qdj C) (w:=[]) (Γ:=lG ns tb n S1.length O c8 zl zl zl zl zl zl zl zl) (st:=B)
  (fun _ Γ st=>(∃ c9 a3 Y J a4 U G Z,Γ=lG ns tb n S1.length O c8 c9 a3 Y J a4 U G Z)/\Tp st S1.length/\LS s st)
  (fun _ _ _ _=>by simp)
  (fun k x Γ st hx ⟨⟨c9,a3,Y,J,a4,U,G,Z,a5⟩,T,ls⟩=>by
   subst a5;obtain ⟨b4,b8,c3,b5,c1,c2,b7,st',e,T',b2⟩:=Qu5 (C:=C) I hn.1 hn.2 T (by omega) ls JO a2 ns tb c8 (zo (.int x)) a3 Y J a4 U G Z;exact ⟨_,rfl,_,_,e,⟨_,_,_,_,_,_,_,_,rfl⟩,T',b2⟩)
  ⟨⟨_,_,_,_,_,_,_,_,rfl⟩,T2,z⟩
 rw [<- Wu] at e3;have a7:Qfp [] [.int 8,.int ((ns.length:Int) - 1)]=.ok (.int (if (ns.length:Int) - 1 < 8 then (ns.length:Int) - 1 else 8)) []:=Qfn _ _ _;have a8:Q5x [] [.int 3,.int (if (ns.length:Int) - 1 < 8 then (ns.length:Int) - 1 else 8)]=.ok (.int m) []:=by rw [Q9q,em]
 have ln:Zg [] [.fro (ns.map .int)]=.ok (.int ns.length) []:=by simp
 have lt:Zg [] [Q7 tb]=.ok (.int n) []:=by simp [Q7,w.len]
 obtain ⟨N,hN⟩:∃ N:Option PV,N=zl:=⟨_,rfl⟩;have k1:J8 1 (Qg 1 Vu (Q3 (Q4 0) Q8)) [zo (.fro (ns.map .int)),zl,zl,zl,zl,zl,zl,zl,zl,zl,zl,zl,zl,zl,zl,zl,zl] []=.nx [zo (.fro (ns.map .int)),zo (Q7 tb),zl,zl,zl,zl,zl,zl,zl,zl,zl,zl,zl,zl,zl,zl,zl] []:=J6 (Qt (n:=1) (Q5 rfl rfl) rfl e1);have k2:J8 2 (J3 Zg (Q3 (Q4 1) Q8)) [zo (.fro (ns.map .int)),zo (Q7 tb),zl,zl,zl,zl,zl,zl,zl,zl,zl,zl,zl,zl,zl,zl,zl] []=.nx [zo (.fro (ns.map .int)),zo (Q7 tb),zo (.int n),zl,zl,zl,zl,zl,zl,zl,zl,zl,zl,zl,zl,zl,zl] []:=J6 (V5 (Q5 rfl rfl) lt);have k3:Qns (Vm (Jx (Qk 3) (Jx (Qk 4) (Jx (Qk 5) Vn)))) (Qg 4 V8 (Q3 (Q4 0) (Q3 (mC (.int 1)) (Q3 (J3 Q5x (Q3 (mC (.int 3)) (Q3 (J3 Qfp (Q3 (mC (.int 8)) (Q3 (mOp (oI fun a b=>.int (a - b)) (J3 Zg (Q3 (Q4 0) Q8)) (mC (.int 1))) Q8))) Q8))) (Q3 (Q4 1) Q8))))) [zo (.fro (ns.map .int)),zo (Q7 tb),zo (.int n),zl,zl,zl,zl,zl,zl,zl,zl,zl,zl,zl,zl,zl,zl] []=.nx [zo (.fro (ns.map .int)),zo (Q7 tb),zo (.int n),zo (.ref 4),zo (.ref 5),zo (.ref 3),zl,zl,zl,zl,zl,zl,zl,zl,zl,zl,zl] S1:=
  Qwn (Qt (n:=4) (Q5 rfl (Q5 rfl (Q5 (V5 (Q5 rfl (Q5 (V5 (Q5 rfl (Q5 (Qf (V5 (Q5 rfl rfl) ln) rfl (Qg2 [] _ _)) rfl)) a7) rfl)) a8) (Q5 rfl rfl)))) rfl e2) rfl
 have k4:J8 6 (Qg 2 Zd (Q3 (Q4 0) (Q3 (mC (.int 9)) Q8))) [zo (.fro (ns.map .int)),zo (Q7 tb),zo (.int n),zo (.ref 4),zo (.ref 5),zo (.ref 3),zl,zl,zl,zl,zl,zl,zl,zl,zl,zl,zl] S1=.nx [zo (.fro (ns.map .int)),zo (Q7 tb),zo (.int n),zo (.ref 4),zo (.ref 5),zo (.ref 3),zo (.ref S1.length),zl,zl,zl,zl,zl,zl,zl,zl,zl,zl] B:=J6 (Qt (n:=2) (Q5 rfl (Q5 rfl rfl)) rfl et);have k5:J8 7 (mOp oIx (Ya (Q4 5) (mC (.str "now"))) (mC (.int 0))) [zo (.fro (ns.map .int)),zo (Q7 tb),zo (.int n),zo (.ref 4),zo (.ref 5),zo (.ref 3),zo (.ref S1.length),zl,zl,zl,zl,zl,zl,zl,zl,zl,zl] B=.nx (lG ns tb n S1.length (s.now.getD 0 []) zl zl zl zl zl zl zl zl zl) B:=J6 (Qf (Xw rfl rfl z.gn) rfl (zh (i:=0) z.now (by rw [r.ln]; exact hn.1)));have step:Qnk C [zo (.fro (ns.map .int)),zl,zl,zl,zl,zl,zl,zl,zl,zl,zl,zl,zl,zl,zl,zl,zl] []=.rt (.bl zb) S3:=
  Qi k1 (Qi k2 (Qi k3 (Qi k4 (Qi k5 (Qi (y8 (Q7r (Xw rfl rfl z.gn) src (by rw [O2,F6]; omega)) ej) (Qi (y8 (Qt6 (n:=3) (by omega) rfl) e3) rfl))))))
 exact ⟨[],(Zv step).trans (Q5u (st:=[]) (more:=S3) rfl)⟩
end Lw
namespace Lw
open PySem PySem.Spec L2 Sm
theorem all_mk {l:eV} {w:aL} {K:bQ} {h:Heap} {mg:Str->Option aB} {fa f1 f2 f3 f4 f5 f6 f7 f8 f9 W2 R5 N3 f13 f14 f15 R3 S4 C2 f19 M0 C7 I1 R0 P3 f25 M4 I2 L9 z5 B8 I0 P9 L4 L3 H8 f36 M9 G4 V2 N1 f41 M8 P4 f44 C9 B3 T5 I3 S9 S7 S8 f52 S1 N2 f55 f56 I9 L7 C8 E1 B0 N7 L2 f64 C0 f66 f67 R1 B9 p7:aA} (X:K.In h) (G:h.Ns aS mg) (hfa:mg "law" = zo (.ref fa))
  {v0 n3:Option aA} {w1:Array (Option aB)} {v9 n4 n5 n0 m6 n2:aB}
  {g7 c8 c2 d8:aA}
  {eH:aA}
  {d5:Tok}
  {eW eS fI pd xN:aA} {C6 P6:Str} {xbs t2:List aB} {I5:List Str} {N6:Bool} {u3:Option Bool} {L1 R8 anI:Option aA} {xk0 xk1 xk2 xk3 xk5:Option aB} {N9:Array (Option aB)} {P8 J2 P1 r1 H7:aB} {N4 P0 pt3 pu1 P7 pu3:Tok} {z4:Nat} {R7:ClassData} {o1:aA} {M3 C3 G0 B4 qu1 qu2 C4 qu4:Tok} {w6:Nat}
  (aH:bV K aS "House" = zo (zo (.ref eH)))
  (H9:dC K eH fW=zb)
  (I8:dU K eH=zb)
  (Hpo:eE K eH=zb)
  (z7:bX K (.ref eH) "__setattr__" = zo (zo (.builtin "object.__setattr__")))
  (Hmk:eG K eH=zb)
  (M5:bg K (.ref eH)=zb)
  (k7:bX K (.ref eH) "number" = zo zl)
  (m8:bX K (.ref eH) "now" = zo zl)
  (l8:bX K (.ref eH) "kept" = zo zl)
  (z0:bV K aS "law" = zo (zo (.ref p7)))
  (T4:K.lookup p7=zo ⟨v9,v0,.func (bc "law" "law" (Yx Q49) (Zt Q49) (Qb Q49) .none n4 n5 n0 n3 m6 n2),w1⟩)
  (B7:bx K m6 "law" = zb)
  (B6:bg K (.ref p7)=zb)
  (b6:bV K aS "rights_tables" = zo (zo (.ref f7)))
  (n7:bV K aS "all" = zo zl)
  (o4:bV K aS "any" = zo zl)
  (m9:bV K aS "bool" = zo zl)
  (i4:bV K aS "enumerate" = zo zl)
  (o2:bV K aS "int" = zo zl)
  (e8:bV K aS "isinstance" = zo zl)
  (p5:bV K aS "len" = zo zl)
  (p8:bV K aS "max" = zo zl)
  (n9:bV K aS "min" = zo zl)
  (m4:bV K aS "range" = zo zl)
  (o3:bV K aS "str" = zo zl)
  (o7:bV K aS "sum" = zo zl)
  (m5:bV K aS "tuple" = zo zl)
  (p3:bV K aS "zip" = zo zl)
  (d4:bV K aS "MOST_HOUSES" = zo (zo (.int 8 d5)))
  (l4:bV K aS "NoDeed" = zo (zo (.ref g7)))
  (k0:bV K aS "NoHouse" = zo (zo (.ref c8)))
  (i5:bV K aS "NoLetter" = zo (zo (.ref c2)))
  (k8:bV K aS "NoTable" = zo (zo (.ref d8)))
  (nW:bV K aS "WharfError" = zo (zo (.ref eW)))
  (nS:bV K aS "Short" = zo (zo (.ref eS)))
  (x2:K.lookup eS=zo (excClassObj C6 P6 eS xN xbs (.ref eW :: Vq) zb I5 t2 N6 u3 L1 xk0 xk1 xk2 xk3 xk5 "ValueError.__new__"))
  (xfi:bX K (.ref eS) "__init__" = zo (zo (.ref fI)))
  (li:K.lookup fI=zo ⟨.type "function",R8,.func (bc "__init__" "Short.__init__" (Yx Qb8) (Zt Qb8) (Qb Qb8) .none P8 J2 P1 anI r1 H7),N9⟩)
  (ci:bx K r1 "Short.__init__" = zb)
  (ki:bg K (.ref fI)=zb)
  (xkp:bg K (.ref eS)=zb)
  (w2:eJ K (.ref eW) "__getattribute__" = zo (zo (.builtin "type.__getattribute__")))
  (u9:PySem.W.readsIn K eW (.type "type")=zb)
  (s7:PySem.W.findCls K (.ref eW) (.type "type") "__init__" = zo (.val (.builtin "ValueError.__init__")))
  (xsa:bX K (.ref eS) "__setattr__" = zo (zo (.builtin "object.__setattr__")))
  (v2:bX K (.ref eS) "had" = zo zl)
  (z2:eK K eS (.type "object")=zo zb)
  (pns:bV K aS "PARTS_OF_DEED" = zo (zo (.ref pd)))
  (T9:K.lookup pd=zo ⟨.type "dict",zl,.dict #[⟨PyData.keyHash w.params "make",.str "make" N4,.int 3 pu1⟩,⟨PyData.keyHash w.params "lend",.str "lend" P0,.int 4 P7⟩,⟨PyData.keyHash w.params "use",.str "use" pt3,.int 3 pu3⟩] z4,#[]⟩)
  (t1:du K eS=zo R7)
  (I6:bX K (.ref eS) "__getattribute__" = zo (zo (.builtin "BaseException.__getattribute__")))
  (I4:bX K (.ref eS) "__getattr__" = zo zl)
  (N5:bX K (.ref eS) "__class__" = zo (zo (.builtin "object.__class__")))
  (xgs:eJ K (.builtin "object.__class__") "__get__" = zo (zo (.builtin "getset_descriptor.__get__")))
  (T2:fX K (.builtin "object.__class__")=zo zb)
  (B1:eK K eS (.type "BaseException")=zo zb)
  (q5:bV K aS "PARTS_OF_OTHER_DEED" = zo (zo (.ref o1)))
  (r6:K.lookup o1=zo ⟨.type "dict",zl,.dict #[⟨PyData.keyHash w.params "keep",.str "keep" M3,.int 2 qu1⟩,⟨PyData.keyHash w.params "fall",.str "fall" C3,.int 2 qu2⟩,⟨PyData.keyHash w.params "send",.str "send" G0,.int 2 C4⟩,⟨PyData.keyHash w.params "come",.str "come" B4,.int 3 qu4⟩] w6,#[]⟩)
  (o6:FM K eH "__init__" "House.__init__" Xd M9)
  (p0:FM K eH "make" "House.make" Q05 G4)
  (o5:FM K eH "lend" "House.lend" Q06 V2)
  (n6:FM K eH "use" "House.use" Q1k N1)
  (o9:FM K eH "keep" "House.keep" Q07 f41)
  (p4:FM K eH "fall" "House.fall" Q08 M8)
  (p9:FM K eH "letter" "House.letter" qz P4)
  (o8:FM K eH "come" "House.come" Q09 f44)
  (p1:FM K eH "table" "House.table" zu C9)
  (p6:FM K eH "rights" "House.rights" qy B3)
  (o0:FM K eH "used" "House.used" Q04 T5)
  (h1:FA K "is_whole" Q3e f1)
  (h2:FA K "is_between" xt f2)
  (h3:FA K "is_rising" Q1i f3)
  (h4:FA K "is_row" Q84 f4)
  (h5:FA K "is_table" Q3f f5)
  (h6:FA K "is_house" Q3g f6)
  (h7:FA K "rights" Q80 f7)
  (h8:FA K "stock" Qch f8)
  (h9:FA K "need_as_many_houses" Wj f9)
  (P2:FA K "is_row_within" K6 W2)
  (S0:FA K "is_within" Q1h R5)
  (G2:FA K "joined_row" xr N3)
  (T6:FA K "joined" Q83 f13)
  (h14:FA K "is_text_and_numbers" Wk f14)
  (h15:FA K "is_deed" Q56 f15)
  (h16:FA K "need_houses_of_deed" Wi R3)
  (R6:FA K "place_in_row" qr S4)
  (T1:FA K "raised" Q81 C2)
  (h19:FA K "done" Qga f19)
  (h20:FA K "made_some" Q1g M0)
  (h21:FA K "lent_or_used_some" Vd C7)
  (h22:FA K "was_lent_some" K3 I1)
  (C5:FA K "has_root" Q3h R0)
  (h24:FA K "rooted_houses" K4 P3)
  (H3:FA K "rootless_houses" Ue f25)
  (S3:FA K "comes_about" zm M4)
  (H6:FA K "does_come_about" Uf I2)
  (z6:FA K "need_comes_about" U3 L9)
  (R9:FA K "are_houses" xu z5)
  (h30:FA K "is_pool" Q55 B8)
  (h31:FA K "need_pool" Q1f I0)
  (h32:FA K "rights_of_pool" Xc P9)
  (h33:FA K "least_stock" zj L4)
  (S2:FA K "poorest_world" K5 L3)
  (A0:FA K "may_use" Q54 H8)
  (L8:FA K "is_world" Q3d f36)
  (h48:FA K "is_other_deed" K7 I3)
  (T0:FA K "need_deed_of_run" U2 S9)
  (S6:FA K "do_own_deed" zk S7)
  (M6:FA K "do_other_deed" K8 S8)
  (h52:FA K "answer_to" Q1j f52)
  (h53:FA K "played" Q82 S1)
  (T7:FA K "_law_acell" Q02 N2)
  (M7:FA K "_law_atape" xy f55)
  (h56:FA K "_law_adigit" zr f56)
  (H5:FA K "_law_arights" qt I9)
  (h58:FA K "_law_abare" Q03 L7)
  (H4:FA K "_law_araised" qv C8)
  (C1:FA K "_law_ajoined" qx E1)
  (L0:FA K "_law_amuch" Q01 B0)
  (h62:FA K "_law_atable" zn N7)
  (h63:FA K "_law_astart" zp L2)
  (B2:FA K "_law_astep" xz f64)
  (G1:FA K "_law_adrawn" zq C0)
  (T8:FA K "_law_aplayed" qw f66)
  (h67:FA K "_law_abegun" zt f67)
  (h68:FA K "_law_apool" Q00 R1)
  (I7:FA K "_law_aused" xx B9)
  (l0:bY K g7 Vq "ValueError.__new__" = zb)
  (k6:bY K c8 Vq "ValueError.__new__" = zb)
  (i9:bY K c2 Vq "ValueError.__new__" = zb)
  (k9:bY K d8 Vq "ValueError.__new__" = zb)
  (xw:bY K eW Vq "ValueError.__new__" = zb)
  (psm:(pd == af)=za)
  (t8:(o1 == af)=za)
  (N8:dH K (.ref eS) (.ref eS)=zo zb)
  (hL:noL K=zb) :
  ∃ fd:aO,(∀ (s:aC) (v:aB),BindsTo s fd ⟨[v],[]⟩ [("script",v)])/\∀ base:Heap,K.In base->base.Ns aS mg->FnOk l.prog w K mg base (CXD l.prog w) 11 fa fd ["script"] (Qca K):=by
 have e:=hfa.symm.trans (bh X G z0);cases e;have T:Txt mg:=⟨bi X G n7,bi X G o4,bi X G m9,bi X G i4,bi X G o2,bi X G e8,bi X G p5,bi X G p8,bi X G n9,bi X G m4,bi X G o3,bi X G o7,bi X G m5,bi X G p3,⟨_,bh X G d4⟩⟩;have g6:∃ C,mg "NoDeed" = zo (.ref C)/\bY K C Vq "ValueError.__new__" = zb:=⟨_,bh X G l4,l0⟩;have Y:∃ C,mg "NoHouse" = zo (.ref C)/\bY K C Vq "ValueError.__new__" = zb:=⟨_,bh X G k0,k6⟩;have c1:∃ C,mg "NoLetter" = zo (.ref C)/\bY K C Vq "ValueError.__new__" = zb:=⟨_,bh X G i5,i9⟩
 have d3:∃ C,mg "NoTable" = zo (.ref C)/\bY K C Vq "ValueError.__new__" = zb:=⟨_,bh X G k8,k9⟩;have CD:∃ cd,du K eS=zo cd/\cd.mro=.ref eS :: .ref eW :: Vq/\cd.hasDict=zb:=⟨_,by unfold du; rw [x2],rfl,rfl⟩;have OS:ShortOk K mg eW eS fI:=⟨bh X G nW,bh X G nS,⟨⟨_,_,_,_,_,_,_,_,_,_,_,_,_,_,x2⟩,xw,xfi,⟨_,li,rfl⟩,xkp⟩,⟨w2,u9,s7⟩,⟨xsa,z2,CD,v2⟩⟩;have FI:=Qhb (x := "__init__") (qual := "Short.__init__") (st:=Qb8) li ci ki;have BI:=FI.binds (ps:=["self", "had"]) fun _ _ _ _ _ _ us hl=>match us,hl with | [_,_],_=>rfl
 have PK:PartsOk l.prog w K mg:=Qn7 (bh X G pns) T9 psm;have PO:PartsO l.prog w K mg:=Qjm (bh X G q5) r6 t8;have XC:XCls K eS:=⟨show (du K eS).isSome=zb by rw [t1]; rfl,I6,I4,N5,xgs,T2,z2,B1⟩;have Sx:∃ C,mg "Short" = zo (.ref C)/\dH K (.ref C) (.ref C)=zo zb/\XGet K C "had" := ⟨_,OS.ms,N8,XC,(let ⟨cd,a,_,b⟩:=CD; ⟨cd,a,b⟩),v2⟩;have TC:ClsT K eH:=⟨⟨H9,I8,Hpo,z7⟩,k7,m8,l8⟩;obtain ⟨_,A1⟩:=Zr ["thing"] X G h1;obtain ⟨_,A2⟩:=Zr ["thing", "least", "most"] X G h2;obtain ⟨_,A3⟩:=Zr ["things"] X G h3;obtain ⟨_,A4⟩:=Zr ["thing", "n"] X G h4;obtain ⟨_,A5⟩:=Zr ["thing"] X G h5;obtain ⟨_,A6⟩:=Zr ["table", "thing"] X G h6;obtain ⟨_,A7⟩:=Zr ["table", "house"] X G h7;obtain ⟨_,A8⟩:=Zr ["table"] X G h8;obtain ⟨_,A9⟩:=Zr ["one", "other"] X G h9;obtain ⟨_,q8⟩:=Zr ["one", "other"] X G P2;obtain ⟨_,s9⟩:=Zr ["one", "other"] X G S0
 obtain ⟨_,u6⟩:=Zr ["one", "other"] X G G2;obtain ⟨_,t4⟩:=Zr ["one", "other"] X G T6;obtain ⟨_,t5⟩:=Zr ["thing"] X G h14;obtain ⟨_,r4⟩:=Zr ["thing"] X G h15;obtain ⟨_,q6⟩:=Zr ["table", "deed"] X G h16;obtain ⟨_,t0⟩:=Zr ["table", "deed"] X G R6;obtain ⟨_,s8⟩:=Zr ["table", "house", "place", "k"] X G T1;obtain ⟨_,u7⟩:=Zr ["table", "deed"] X G h19;obtain ⟨_,r9⟩:=Zr ["table", "house"] X G h20;obtain ⟨_,q7⟩:=Zr ["table", "house"] X G h21;obtain ⟨_,v1⟩:=Zr ["table", "house", "lenders"] X G h22;obtain ⟨_,x7⟩:=Zr ["table", "house", "ahead"] X G C5;obtain ⟨_,x3⟩:=Zr ["table"] X G h24;obtain ⟨_,y2⟩:=Zr ["table"] X G H3;obtain ⟨_,q4⟩:=Zr ["table"] X G S3;obtain ⟨_,u4⟩:=Zr ["thing"] X G H6;obtain ⟨_,r3⟩:=Zr ["thing"] X G z6;obtain ⟨_,w7⟩:=Zr ["table", "houses"] X G R9;obtain ⟨_,r7⟩:=Zr ["table", "thing"] X G h30;obtain ⟨_,r8⟩:=Zr ["table", "pool"] X G h31;obtain ⟨_,y5⟩:=Zr ["table", "pool"] X G h32
 obtain ⟨_,q9⟩:=Zr ["table", "pool"] X G h33;obtain ⟨_,u8⟩:=Zr ["table", "pool"] X G S2;obtain ⟨_,v4⟩:=Zr ["table", "pool", "k"] X G A0;obtain ⟨_,y7⟩:=Zr ["table", "pool", "world"] X G L8;obtain ⟨_,R4,G3⟩:=o6.at ["self", "number", "table"];obtain ⟨_,r5,P5⟩:=p0.at ["self", "k"];obtain ⟨_,r2,N0⟩:=o5.at ["self", "to", "k"];obtain ⟨_,w4,B40⟩:=n6.at ["self", "k"];obtain ⟨_,w8,G5⟩:=o9.at ["self"];obtain ⟨_,w5,B42⟩:=p4.at ["self"];obtain ⟨_,s5,B5⟩:=p9.at ["self"];obtain ⟨_,x1,T3⟩:=o8.at ["self", "table"];obtain ⟨_,s4,B45⟩:=p1.at ["self"];obtain ⟨_,v5,S5⟩:=p6.at ["self"];obtain ⟨_,u2,B47⟩:=o0.at ["self"];obtain ⟨_,u5⟩:=Zr ["thing"] X G h48;obtain ⟨_,w9⟩:=Zr ["table", "letters", "deed"] X G T0;obtain ⟨_,z3⟩:=Zr ["houses", "deed"] X G S6;obtain ⟨_,v8⟩:=Zr ["houses", "letters", "deed"] X G M6;obtain ⟨_,w0⟩:=Zr ["houses", "letters", "deed"] X G h52;obtain ⟨_,v3⟩:=Zr ["table", "deeds"] X G h53
 obtain ⟨_,r0⟩:=Zr ["script", "k"] X G T7;obtain ⟨_,y1⟩:=Zr ["script", "k"] X G M7;obtain ⟨_,x0⟩:=Zr ["tape", "many"] X G h56;obtain ⟨_,z1⟩:=Zr ["table", "i"] X G H5;obtain ⟨_,u1⟩:=Zr ["size"] X G h58;obtain ⟨_,t6⟩:=Zr ["table", "i", "at", "k"] X G H4;obtain ⟨_,s6⟩:=Zr ["one", "other"] X G C1;obtain ⟨_,x4⟩:=Zr ["tape"] X G L0;obtain ⟨_,w3⟩:=Zr ["tape", "size", "many"] X G h62;obtain ⟨_,v6⟩:=Zr ["table"] X G h63;obtain ⟨_,x6⟩:=Zr ["state", "deed"] X G B2;obtain ⟨_,u0⟩:=Zr ["tape", "state"] X G G1;obtain ⟨_,v7⟩:=Zr ["script", "start", "many", "table"] X G T8;obtain ⟨_,x5⟩:=Zr ["script"] X G h67;obtain ⟨_,t9⟩:=Zr ["tape", "size"] X G h68;obtain ⟨_,t7⟩:=Zr ["pool", "told", "k"] X G I7;have A70:=Qwm (st:=Q49) (ps:=["script"]) X G z0 T4 B7 B6 fun _ _ _ _ _ _ us hl=>match us,hl with | [_],_=>rfl
 refine ⟨bc "law" "law" (Yx Q49) (Zt Q49) (Qb Q49) .none n4 n5 n0 n3 m6 n2,fun s v=>.of_eq rfl,fun base kb nb=>?_⟩;have l6:ShortS l.prog w K mg base:=⟨_,_,_,_,OS.M,Qrv FI OS,BI,OS.ms⟩;have b1:=A1.d l.prog w base rfl (Qef A1.F T    );have e5:=A2.d l.prog w base rfl (Qae A2.F T   b1 );have i0:=A3.d l.prog w base rfl (Qct A3.F T    );have l1:=A4.d l.prog w base rfl (Qjr A4.F T   b1 );have i6:=A5.d l.prog w base rfl (Qeg A5.F T   l1 );have J:=A6.d l.prog w base rfl (Qeh A6.F T   e5 );have q0:=A7.d l.prog w base rfl (Qbh A7.F T  Y J );have q:DefS l.prog w K mg base 4 "rights_tables" 2 Yr:=⟨_,_,_,Qbh A7.F T  Y J ,bh X G b6,A7.F.kp,A7.b,rfl⟩;have l9:=A8.d l.prog w base rfl (Qnd A8.F T    );have z:=A9.d l.prog w base rfl (Q0e A9.F T  d3  )
 have a4:=q8.d l.prog w base rfl (Q5e q8.F T    );have b7:=s9.d l.prog w base rfl (Qcs s9.F T   z a4 );have g5:=u6.d l.prog w base rfl (Qad u6.F T    );have l3:=t4.d l.prog w base rfl (Qjq t4.F T   z g5 );have O:=t5.d l.prog w base rfl (Q0f t5.F T   b1 );have c6:=r4.d l.prog w base rfl (Qgm r4.F T PK   O );have U:=q6.d l.prog w base rfl (Q0d q6.F T  Y J );have c4:=t0.d l.prog w base rfl (Q6m t0.F T    );have g8:=s8.d l.prog w base rfl (Qjn s8.F T    );have g9:=u7.d l.prog w base rfl (Qrw u7.F T l6  g6 c6 U q g8 c4 );have i1:=r9.d l.prog w base rfl (Qcr r9.F T    );have b0:=q7.d l.prog w base rfl (Q1s q7.F T    )
 have c0:=v1.d l.prog w base rfl (Q5b v1.F T    );have i7:=x7.d l.prog w base rfl (Qei x7.F T   i1 c0 );have a5:=x3.d l.prog w base rfl (Q5c x3.F T   i7 );have b5:=y2.d l.prog w base rfl (Q3n y2.F T   a5 b0 );have b2:=q4.d l.prog w base rfl (Q8g q4.F T   q b5 a5 );have Z:=u4.d l.prog w base rfl (Q3p u4.F T   i6 b2 );have I:=r3.d l.prog w base rfl (Q30 r3.F T  d3 Z );have d9:=w7.d l.prog w base rfl (Qaf w7.F T   J );have k4:=r7.d l.prog w base rfl (Qgk r7.F T   d9 i0 );have a7:=r8.d l.prog w base rfl (Qcq r8.F T  Y I k4 );have a2:=y5.d l.prog w base rfl (Q4e y5.F T   q )
 have d7:=q9.d l.prog w base rfl (Q8e q9.F T   a7 a2 );have b8:=u8.d l.prog w base rfl (Q5d u8.F T   g8 q );have k5:=v4.d l.prog w base rfl (Qgj v4.F T   a7 a2 b8 );have i8:=y7.d l.prog w base rfl (Qee y7.F T   a7 Z b7 );have l7:MakeS l.prog w K mg base 8 eH "House" 3 (Y7 eH):=⟨_,_,_,Q4f R4 T TC  Y I J ,⟨Hmk,o6.1,o6.2.1,M5⟩,bh X G aH,G3,rfl⟩;have f0:MethS l.prog w K mg base 6 eH "make" 2 (X3 eH):=⟨_,_,_,Qaq r5 T TC   g9 ,⟨p0.1,p0.2.1,r5.kp⟩,P5,rfl⟩;have e6:MethS l.prog w K mg base 6 eH "lend" 3 (X4 eH):=⟨_,_,_,Qar r2 T TC   g9 ,⟨o5.1,o5.2.1,r2.kp⟩,N0,rfl⟩;have i3:MethS l.prog w K mg base 6 eH "use" 2 (K0 eH):=⟨_,_,_,Qcv w4 T TC   g9 ,⟨n6.1,n6.2.1,w4.kp⟩,B40,rfl⟩
 have g4:MethS l.prog w K mg base 1 eH "keep" 1 (X5 eH):=⟨_,_,_,Qas w8 T TC    ,⟨o9.1,o9.2.1,w8.kp⟩,G5,rfl⟩;have e0:MethS l.prog w K mg base 1 eH "fall" 1 (X6 eH):=⟨_,_,_,Qat w5 T TC    ,⟨p4.1,p4.2.1,w5.kp⟩,B42,rfl⟩;have c5:MethS l.prog w K mg base 1 eH "letter" 1 (W3 eH):=⟨_,_,_,Q6t s5 T TC    ,⟨p9.1,p9.2.1,s5.kp⟩,B5,rfl⟩;have e4:MethS l.prog w K mg base 3 eH "come" 2 (X7 eH):=⟨_,_,_,Qau x1 T TC  c1 z a4 l3 ,⟨o8.1,o8.2.1,x1.kp⟩,T3,rfl⟩;have d1:MethS l.prog w K mg base 1 eH "table" 1 (Vv eH):=⟨_,_,_,Q8n s4 T TC    ,⟨p1.1,p1.2.1,s4.kp⟩,B45,rfl⟩;have l5:MethS l.prog w K mg base 5 eH "rights" 1 (Q2c eH):=⟨_,_,_,Q6s v5 T TC   q ,⟨p6.1,p6.2.1,v5.kp⟩,S5,rfl⟩;have m7:MethS l.prog w K mg base 1 eH "used" 1 (Q4y eH):=⟨_,_,_,Qap u2 T TC    ,⟨o0.1,o0.2.1,u2.kp⟩,B47,rfl⟩
 have a6:=u5.d l.prog w base rfl (Q5f u5.F T PO   O );have b3:=w9.d l.prog w base rfl (Q2z w9.F T  g6 Y c1 c6 U a6 J );have c7:=z3.d l.prog w base rfl (Q8f z3.F T TC    f0 e6 i3);have b9:=v8.d l.prog w base rfl (Q5g v8.F T TC    g4 e0 c5 e4);have i2:=w0.d l.prog w base rfl (Qcu w0.F T TC Sx   a6 b9 c7 );have l2:=v3.d l.prog w base rfl (Qjp v3.F T TC   I b3 i2 l7 d1);have g0:=r0.d l.prog w base rfl (Qam r0.F T    );have a3:=y1.d l.prog w base rfl (Qah y1.F T   g0 );have j:=x0.d l.prog w base rfl (Q8k x0.F T    )
 have B:=z1.d l.prog w base rfl (Q6n z1.F T    );have g1:=u1.d l.prog w base rfl (Qan u1.F T    );have a9:=t6.d l.prog w base rfl (Q6p t6.F T    );have a8:=s6.d l.prog w base rfl (Q6r s6.F T    );have b4:=x4.d l.prog w base rfl (Qak x4.F T   j );have d2:=w3.d l.prog w base rfl (Q8h w3.F T   g1 j B a9 b4 );have c9:=v6.d l.prog w base rfl (Q8i v6.F T    );have e9:=x6.d l.prog w base rfl (Qai x6.F T   a8 B a9 );have d6:=u0.d l.prog w base rfl (Q8j u0.F T   j B b4 );have c3:=v7.d l.prog w base rfl (Q6q v7.F T   c9 a3 d6 e9 );have d0:=x5.d l.prog w base rfl (Q8m x5.F T   a3 j d2 )
 have g3:=t9.d l.prog w base rfl (Qaj t9.F T   j );have e7:=t7.d l.prog w base rfl (Qag t7.F T   B );exact Qsc hL (Qvh A70.F T TC   d0 c3 a3 a8 g3 B d7 l9 j k5 e7 l2 i8 b2 b7 ) (Qsd _)
end Lw
theorem PySem.W.Fast.tw1482338027045559390 : True := trivial
theorem PySem.W.Fast.tw13620556127760781157 : True := trivial
theorem PySem.W.Fast.tw14922481196788057651 : True := trivial
theorem PySem.W.Fast.tw7231334448890220462 : True := trivial
theorem PySem.W.Fast.tw10211022740377169147 : True := trivial
theorem PySem.W.Fast.tw10078359692308607882 : True := trivial
theorem PySem.W.Fast.tw10327284061081828514 : True := trivial
theorem PySem.W.Fast.tw7718956654049275487 : True := trivial
theorem PySem.W.Fast.tw8094039600810846432 : True := trivial
theorem PySem.W.Fast.tw17613897531403842924 : True := trivial
theorem PySem.W.Fast.tw16418469521029385195 : True := trivial
theorem PySem.W.Fast.tw11789048829869688744 : True := trivial
theorem PySem.W.Fast.tw6498340640033132208 : True := trivial
theorem PySem.W.Fast.tw16894225693481744949 : True := trivial
theorem PySem.W.Fast.tw1093389939352366168 : True := trivial
theorem PySem.W.Fast.tw18396533711622832212 : True := trivial
theorem PySem.W.Fast.tw9989048008565243840 : True := trivial
theorem PySem.W.Fast.tw962180395408734168 : True := trivial
theorem PySem.W.Fast.tw16399290447192092225 : True := trivial
theorem PySem.W.Fast.te12957874170230274767 : True := trivial
open PySem PySem.W PyProof.Rows Sm
set_option maxRecDepth 100000 in
set_option maxHeartbeats 0 in
theorem PySem.Challenge.cw_lendwharf_k81_whole_refused_only_when_it_holds : PySem.Challenge.rw_lendwharf_k81_whole_refused_only_when_it.Holds := by
 w_on; o_law; k_head; (case hw=>w_witness2)
 k_fill
 refine Sm.walkS (l:=PySem.Challenge.rw_lendwharf_k81_whole_refused_only_when_it) (k:=11) rfl ⟨rfl,by decide,by decide⟩ rfl (fun w h Y=>PySem.W.kIn_of Y) ?F
 case F=>
  intro w mg fa h KX G hmg;refine' Lw.all_mk KX G hmg ..
  any_goals k_is
  any_goals exact FA.mk (by k_is) (by k_is) (by k_is) (by k_is)
  any_goals exact FM.mk (by k_is) (by k_is) (by k_is) (by k_is) (by k_is)
  any_goals k_exc
  all_goals first | kts_exm | rfl | decide
