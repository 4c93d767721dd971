import PyProof.Rows.All
import Wide.All
import OpenK.AllK
import Wide.FinOn
import Lean
import PyProof.EqAt
import PyProof.EqKinds
import PyProof.TupleCall
import PyProof.ZipIter
import PyProof.Draws
import PyProof.SumAny
import PyProof.EnumMake
import PyProof.WalkInts
import PyProof.ExcArgsOwn
import PyProof.ExcAttrAll.ValueError
import PyProof.NsDelKeeps
import KE.KTryMore
import OpenK.KOwn
import PyProof.ListMulRoad
import PyProof.FactsAll.tuple_2
import PyProof.NeKinds
import PyProof.Rows.RuleIs
import PyProof.ExcInit
import PyProof.ExcClass3
import OpenK.KCls
import PyProof.InstStoreFacts
import OpenK.KMake
import PyProof.DictRoads
import PyProof.Rows.CountFlat
import PyProof.ListRange
import PyProof.Rows.SetFrom
import PyProof.CollectStr
import PyProof.Rows.TupMore
import PyProof.AttrMissHeap
import KE.KDictOf
import PyProof.DictWalks
import KE.KSortTup
import PyProof.DictItemsLoops
import KE.KDictList
import PyProof.CallStr
import PyProof.Conv_int_bool
import PySem.Challenge.RW_lendwharf_k58_whole_heirs
set_option Elab.async false
set_option linter.all false
set_option maxRecDepth 100000
set_option maxHeartbeats 4000000
open List renaming length_map -> O0, getElem?_eq_some_iff -> O2, getElem?_eq_getElem -> O3, size_toArray -> O4, mem_cons_of_mem -> O5, mem_cons_self -> O8, getElem?_append_left -> O9, map_cons -> D2, mem_cons -> D3, mem_range -> D5, getD_eq_getElem?_getD -> D6, length_append -> D7, map_map -> D8, getElem?_set_ne -> D9, getElem?_map -> E3, mem_append -> E4, mem_append_right -> E6, mem_of_getElem? -> E7, length_range -> E8, getElem?_append_right -> E9, getElem?_set_self -> F1, map_append -> F3, length_cons -> F4, mem_singleton -> F5, mem_append_left -> F6, pairwise_cons -> F7, getElem?_range -> F8, mem_filter -> G7, length_pos_iff -> G8, length_set -> G9, getElem?_replicate -> L4, any_eq_true -> L5, all_eq_true -> L7, getElem?_eq_none -> L9
open PySem.Heap renaming get?_push_of_some -> O1, lt_size -> O7, get?_push_size -> D0, get?_update_other -> F2, size_push -> F9, get?_update_self -> L8
open Nat renaming le_refl -> O6, lt_of_lt_of_le -> D4, le_of_lt -> E2, ne_of_lt -> E5, le_trans -> F0
open Bool renaming false_ne_true -> D1, and_eq_true -> L6
open PySem renaming Addr -> aA, Value -> aB, Shared -> aC, Expr -> aD, wpAny_bind -> aF, wpAny -> aH, model -> aI, Stmt -> aJ, World -> aK, Program -> aL, FuncData -> aM, Around -> aN, wpAny_pure -> aO, starEach -> aP, eval -> aQ, mainGlobals -> aR, compareOp -> aS, backTo -> aU, binaryOp -> aV, cLine -> aW, IsPair -> aX, wpAny_field -> aY, bootBuiltins -> aZ, rawInt -> aa, Paired -> ae, cellsFrom -> af, sysModules -> ag, wpAny_mono -> ak, NameKind -> ao, wpAny_call_entry -> aq, assignEach -> ar, wpAny_holding -> au, pyNext -> aw, wpAny_newObj_type -> ay, wpAny_truthy_bool -> az, call_meets -> bA, holding -> bB, foldedSetIterable -> bC, wpAny_seqItems -> bD, wpAny_passesOwn -> bE, sliceBounds -> bF, behindInMarks -> bG, attributeBase -> bH, wpAny_setField_rec -> bI, codeAny_builtin -> bJ, codeAny_mono -> bK, wpAny_typeOf -> bL, wpAny_rule -> bM, wpAny_pyIter_tuple -> bN, wpAny_isInstance -> bO, plainId_quiet -> bP
noncomputable section
theorem bQ {c:Prop}{h:Decidable c}(j:c){α:Sort _}{t e:α}:ite c t e=t:=if_pos j
theorem bS {c:Prop}{h:Decidable c}(j:¬c){α:Sort _}{t e:α}:ite c t e=e:=if_neg j
theorem bT {p:Prop}[i:Decidable p](h:¬p):decide p=false:=decide_eq_false h
theorem bU {p:Prop}[i:Decidable p](h:p):decide p=true:=decide_eq_true h
namespace L2
open PySem PySem.Spec PyProof.Rows
abbrev Key:=Sum Int Str
def Q8f:Key->aB->Bool
 | .inl k,v=>Value.isInt k v
 | .inr x,v=>Value.isStrOf x v
def Qyi (w:aK):Key->Int
 | .inl k=>hashInt k
 | .inr x=>hashStr w x
theorem Yr:∀ {k:Key} {v:aB},Q8f k v=true->(∃ i t,k=Sum.inl i/\v=Value.int i t)\/(∃ x t,k=Sum.inr x/\v=Value.str x t)
 | .inl i,v,h=>by
  obtain ⟨t,e⟩:=Value.isInt_shape (k:=i) (v:=v) h;exact .inl ⟨i,t,rfl,e⟩
 | .inr x,v,h=>by
  obtain ⟨t,e⟩:=Value.isStrOf_shape (x:=x) (v:=v) h;exact .inr ⟨x,t,rfl,e⟩
theorem Qh9 (i:Int) (t:Tok):Q8f (.inl i) (.int i t)=true:=by simp [Q8f,Value.isInt]
theorem Qh8 (x:Str) (t:Tok):Q8f (.inr x) (.str x t)=true:=by simp [Q8f,Value.isStrOf]
theorem Qt5 (a b:Int):decide ((Sum.inl a:Key)=Sum.inl b)=(a == b):=by
 by_cases e:a=b
 ·subst e; simp
 ·have h:¬ (Sum.inl a:Key)=Sum.inl b:=fun q=>e (Sum.inl.inj q)
  rw [bT h];exact (beq_eq_false_iff_ne.mpr e).symm
theorem Qt2 (a b:Str):decide ((Sum.inr a:Key)=Sum.inr b)=decide (a=b):=by
 by_cases e:a=b
 ·subst e; simp
 ·have h:¬ (Sum.inr a:Key)=Sum.inr b:=fun q=>e (Sum.inr.inj q)
  rw [bT h,bT e]
theorem Qt4 (a:Int) (b:Str):decide ((Sum.inl a:Key)=Sum.inr b)=false:=bT (fun q=>nomatch q)
theorem Qt3 (a:Str) (b:Int):decide ((Sum.inr a:Key)=Sum.inl b)=false:=bT (fun q=>nomatch q)
def Vb (prog:aL) (w:aK):PySem.KeyKind prog w Key where
 is:=Q8f
 hash:=Qyi w
 inj:=fun v a b ha hb=>by
  rcases Yr ha with ⟨i,t,rfl,rfl⟩ | ⟨x,t,rfl,rfl⟩
  ·rcases Yr hb with ⟨j,u,rfl,e⟩ | ⟨y,u,rfl,e⟩
   ·injection e with e1 _; rw [e1]
   ·exact nomatch e
  ·rcases Yr hb with ⟨j,u,rfl,e⟩ | ⟨y,u,rfl,e⟩
   ·exact nomatch e
   ·injection e with e1 _; rw [e1]
 byValue:=fun k v h=>by
  rcases Yr h with ⟨i,t,rfl,rfl⟩ | ⟨x,t,rfl,rfl⟩ <;> rfl
 pyHash:=fun hv h=>by
  rcases Yr hv with ⟨i,t,rfl,rfl⟩ | ⟨x,t,rfl,rfl⟩
  ·exact wpAny_pyHash_int h
  ·exact wpAny_pyHash_str h
 eqBool:=fun hu hv h=>by
  rcases Yr hu with ⟨i,t,rfl,rfl⟩ | ⟨x,t,rfl,rfl⟩
  ·rcases Yr hv with ⟨j,u,rfl,rfl⟩ | ⟨y,u,rfl,rfl⟩
   ·rw [Qt5] at h; exact wpAny_eqBool_int h
   ·rw [Qt4] at h; exact SeqAt.EqAt.int_str i t y u _ _ _ _ h
  ·rcases Yr hv with ⟨j,u,rfl,rfl⟩ | ⟨y,u,rfl,rfl⟩
   ·rw [Qt3] at h; exact SeqAt.EqAt.str_int x t j u _ _ _ _ h
   ·rw [Qt2] at h; exact wpAny_eqBool_str h
 «strs»:=fun k x t v h=>by
  rcases Yr h with ⟨i,u,rfl,e⟩ | ⟨y,u,rfl,e⟩
  ·exact nomatch e
  ·injection e with e1 _
   subst e1;cases v <;> rfl
theorem Qc6 (prog:aL) (w:aK) (i:Int) (t:Tok):(Vb prog w).is (.inl i) (.int i t)=true:=Qh9 i t
theorem Qc5 (prog:aL) (w:aK) (x:Str) (t:Tok):(Vb prog w).is (.inr x) (.str x t)=true:=Qh8 x t
inductive V where
 | non | bl (b:Bool) | int (i:Int) | str (x:Str) | byt (b:Array UInt8) | flt (b:UInt64) | ref (a:aA) | ty (n:String)
 deriving DecidableEq
def RelV:V->aB->Prop
 | .non,u=>u=Value.none
 | .bl b,u=>u=Value.bool b
 | .int i,u=>∃ t,u=Value.int i t
 | .str x,u=>∃ t,u=Value.str x t
 | .byt b,u=>∃ t,u=Value.bytes b t
 | .flt b,u=>∃ t,u=Value.float b t
 | .ref a,u=>u=Value.ref a
 | .ty n,u=>u=Value.type n
abbrev Vals:List V->List aB->Prop:=ae RelV
theorem Vals.length {xs:List V} {j:List aB} (r:Vals xs j):xs.length=j.length:=Paired.length r
theorem Vals.get:∀ {xs:List V} {j:List aB} {i:Nat} {x:V},Vals xs j->xs[i]?=some x->∃ u,j[i]?=some u/\RelV x u
 | _,_,_,_,.nil,e=>by simp at e
 | _,_,0,_,.cons r _,e=>by simp at e; subst e; exact ⟨_,rfl,r⟩
 | _,_,i + 1,x,.cons _ t,e=>by
  obtain ⟨u,h1,h2⟩:=Vals.get (i:=i) (x:=x) t (by simpa using e);exact ⟨u,by simpa using h1,h2⟩
theorem Vals.set {x:V} {u:aB} (r:RelV x u):∀ {xs:List V} {j:List aB} (i:Nat),Vals xs j->Vals (xs.set i x) (j.set i u)
 | _,_,_,.nil=>.nil
 | _,_,0,.cons _ t=>.cons r t
 | _,_,i + 1,.cons q t=>.cons q (Vals.set r i t)
theorem Vals.append:∀ {xs ys:List V} {z j:List aB},Vals xs z->Vals ys j->Vals (xs ++ ys) (z ++ j)
 | _,_,_,_,.nil,s=>s
 | _,_,_,_,.cons r t,s=>.cons r (Vals.append t s)
theorem Vals.take:∀ {xs:List V} {j:List aB} (n:Nat),Vals xs j->Vals (xs.take n) (j.take n)
 | _,_,0,_=>.nil
 | _,_,_ + 1,.nil=>.nil
 | _,_,n + 1,.cons r t=>.cons r (Vals.take n t)
theorem Vals.drop:∀ {xs:List V} {j:List aB} (n:Nat),Vals xs j->Vals (xs.drop n) (j.drop n)
 | _,_,0,r=>r
 | _,_,_ + 1,.nil=>.nil
 | _,_,n + 1,.cons _ t=>Vals.drop n t
def RelO:Option V->Option aB->Prop
 | some v,some u=>RelV v u
 | none,none=>True
 | _,_=>False
def KV {κ:Type}:List (κ × V)->List (κ × aB)->Prop:=ae fun (p:κ × V) (q:κ × aB)=>p.1=q.1/\RelV p.2 q.2
def kV:Key->V
 | .inl i=>.int i
 | .inr x=>.str x
inductive HO where
 | lst (xs:List V)
 | tup (xs:List V)
 | dK (kvs:List (Key × V)) | dT (kvs:List (List Key × V))
 | set (S:Int->Bool) (n:Nat)
 | ins (C dx:aA) (fs:List (Str × V))
 | own (x:aA)
 | xd (fs:List (Str × V))
 | met (f x:aA)
 | rng (lo hi:Int)
 | frz (o:Obj) (u:HO)
 | tbl (ps:Array aB)
 | ext (φ:Heap->Prop)
abbrev Hp:=aA->Option HO
def upd (H:Hp) (a:aA) (o:HO):Hp:=fun b=>if b=a then some o else H b
theorem Qr {H:Hp} {a:aA} {o:HO}:upd H a o a=some o:=by unfold upd; rw [bQ rfl]
theorem Qn {H:Hp} {a b:aA} {o:HO} (h:b≠a):upd H a o b=H b:=by unfold upd; rw [bS h]
theorem Qvu {H:Hp} {a b:aA} {o u:HO} (h:H a=some o) (h':H b=some u) (d:o≠u):a≠b:=by
 intro e; subst e; rw [h] at h'; exact d (Option.some.inj h')
theorem Qp {H:Hp} {a b:aA} {o:HO} (h:H a=some o) (h':H b=none):a≠b:=by
 intro e; subst e; rw [h] at h'; cases h'
section
variable (P:aL) (w:aK)
def ObjOk (H:Hp) (h:Heap) (a:aA):HO->Prop
 | .lst xs=>xs.length<=sizeLine/\∃ (its:List aB) (n:Nat),Vals xs its/\h.get? a=some { cls:=.type "list",data:=.seq its.toArray n }
 | .tup xs=>xs.length<=sizeLine/\∃ its:List aB,Vals xs its/\IsTup h a its.toArray
 | .dK kvs=>kvs.length<=sizeLine/\(a == ag)=false/\∃ vs,KV kvs vs/\h.DictOf (Vb P w) a vs
 | .dT kvs=>kvs.length<=sizeLine/\(a == ag)=false/\∃ xs:List (List Key × aA × aB),
   ae (fun (p:List Key × V) (q:List Key × aA × aB)=>p.1=q.1/\H q.2.1=some (.tup (p.1.map kV))/\RelV p.2 q.2.2) kvs xs /\
   ∃ o es ep,h.get? a=some o/\o.ExactDict/\o.data=.dict es ep/\es.toList=xs.map (entryOfKey (tupleKind (Vb P w)))/\(xs.map (·.1)).Nodup
 | .set S n=>h.SetOf (intKind P w) a S n
 | .ins C dx fs=>H dx=some (.own a)/\fs.length<=1000/\dx≠a/\h.get? a=some (PySem.W.instObj C dx) /\
   ∃ mA,h.Ns1 dx mA/\(∀ f,RelO (fs.lookup f) (mA f))/\PySem.Within mA (fs.map (·.1))
 | .own _=>∃ o,h.get? a=some o
 | .xd fs=>∃ mA,h.Ns1 a mA/\∀ f,RelO (fs.lookup f) (mA f)
 | .rng lo hi=>∃ t u v,h.get? a=some { cls:=.type "range",data:=.fields #[.int lo t,.int hi u,.int 1 v] }
 | .frz o u=>h.get? a=some o/\ObjOk H h a u
 | .tbl ps=>h.get? a=some { cls:=.none,data:=.fields ps }
 | .met f x=>h.get? a=some (PySem.W.methodObj (.ref f) (.ref x))
 | .ext φ=>φ h/\(∃ o,h.get? a=some o)/\∀ h1 h2:Heap,φ h1->(∀ o,h1.get? a=some o->h2.get? a=some o)->φ h2
def HOk (H:Hp) (h:Heap):Prop:=∀ a o,H a=some o->ObjOk P w H h a o
end
section
variable {P:aL} {w:aK} {H H':Hp} {h h':Heap} {a:aA} {o:HO}
theorem ObjOk.lt (x:ObjOk P w H h a o):a < h.objs.size:=by
 cases o with
 | lst xs=>obtain ⟨_,_,_,_,e⟩:=x; exact O7 e
 | tup xs=>obtain ⟨_,_,_,p⟩:=x; exact p.lt
 | dK kvs=>obtain ⟨_,_,_,_,o,_,_,e,_⟩:=x; exact O7 e
 | dT kvs=>obtain ⟨_,_,_,_,o,_,_,e,_⟩:=x; exact O7 e
 | set S n=>obtain ⟨o,_,_,_,e,_⟩:=x; exact O7 e
 | ins C dx fs=>obtain ⟨_,_,_,e,_⟩:=x; exact O7 e
 | own y=>obtain ⟨_,e⟩:=x; exact O7 e
 | xd fs=>obtain ⟨_,⟨_,_,_,e,_⟩,_⟩:=x; exact O7 e
 | rng lo hi=>obtain ⟨_,_,_,e⟩:=x; exact O7 e
 | frz ob u=>obtain ⟨e,_⟩:=x; exact O7 e
 | tbl ps=>exact O7 (show h.get? a=some _ from x)
 | met f y=>exact O7 (show h.get? a=some _ from x)
 | ext j=>obtain ⟨_,⟨_,e⟩,_⟩:=x; exact O7 e
theorem Paired.mapP {α β:Type} {F G:α->β->Prop}:∀ {j:List α} {z:List β},ae F j z->(∀ a b,F a b->G a b)->ae G j z
 | _,_,.nil,_=>.nil
 | _,_,.cons r t,f=>.cons (f _ _ r) (Paired.mapP t f)
theorem ObjOk.stay (x:ObjOk P w H h a o) (k:∀ b u,(b=a\/H b=some (.own a))->h.get? b=some u->h'.get? b=some u)
  (I:∀ b,H b=some (.own a)->H' b=some (.own a)) (G:∀ b xs,H b=some (.tup xs)->H' b=some (.tup xs)):ObjOk P w H' h' a o:=by
 induction o with
 | lst xs=>obtain ⟨z,its,n,r,e⟩:=x; exact ⟨z,its,n,r,k _ _ (.inl rfl) e⟩
 | tup xs=>obtain ⟨z,its,r,ob,e,c⟩:=x; exact ⟨z,its,r,ob,k _ _ (.inl rfl) e,c⟩
 | dK kvs=>obtain ⟨z,y,vs,r,ob,es,ep,e,c⟩:=x; exact ⟨z,y,vs,r,ob,es,ep,k _ _ (.inl rfl) e,c⟩
 | dT kvs=>
  obtain ⟨z,y,xs,r,ob,es,ep,e,c⟩:=x;exact ⟨z,y,xs,Paired.mapP r fun p q z=>⟨z.1,G _ _ z.2.1,z.2.2⟩,ob,es,ep,k _ _ (.inl rfl) e,c⟩
 | set S n=>obtain ⟨ob,es,ep,t,e,c⟩:=x; exact ⟨ob,es,ep,t,k _ _ (.inl rfl) e,c⟩
 | ins C dx fs=>
  obtain ⟨d,z,ne,e,mA,⟨j,es,ep,e2,c⟩,r⟩:=x;exact ⟨I _ d,z,ne,k _ _ (.inl rfl) e,mA,⟨j,es,ep,k _ _ (.inr d) e2,c⟩,r⟩
 | own y=>obtain ⟨ob,e⟩:=x; exact ⟨ob,k _ _ (.inl rfl) e⟩
 | xd fs=>obtain ⟨mA,⟨j,es,ep,e,c⟩,r⟩:=x; exact ⟨mA,⟨j,es,ep,k _ _ (.inl rfl) e,c⟩,r⟩
 | rng lo hi=>obtain ⟨t,u,v,e⟩:=x; exact ⟨t,u,v,k _ _ (.inl rfl) e⟩
 | frz ob u B=>obtain ⟨e,q⟩:=x; exact ⟨k _ _ (.inl rfl) e,B q⟩
 | tbl ps=>
  have e:h.get? a=some { cls:=.none,data:=.fields ps }:=x;show h'.get? a=some { cls:=.none,data:=.fields ps };exact k a _ (.inl rfl) e
 | met f y=>
  have e:h.get? a=some (PySem.W.methodObj (.ref f) (.ref y)):=x;show h'.get? a=some (PySem.W.methodObj (.ref f) (.ref y));exact k a _ (.inl rfl) e
 | ext J=>obtain ⟨p,⟨o,e⟩,st⟩:=x; exact ⟨st _ _ p fun o q=>k _ _ (.inl rfl) q,⟨o,k _ _ (.inl rfl) e⟩,st⟩
theorem HOk.lt (x:HOk P w H h) (e:H a=some o):a < h.objs.size:=(x a o e).lt
theorem HOk.fresh (x:HOk P w H h) (e:h.objs.size<=a):H a=none:=by
 cases q:H a with
 | none=>rfl
 | some u=>exact absurd (D4 (x.lt q) e) (Nat.lt_irrefl _)
theorem HOk.kept (x:HOk P w H h) (k:∀ b u,h.get? b=some u->h'.get? b=some u):HOk P w H h':=fun a o e=>
 (x a o e).stay (fun b u _ q=>k b u q) (fun _ q=>q) fun _ _ q=>q
theorem HOk.laid (x:HOk P w H h) (k:∀ b u,h.get? b=some u->h'.get? b=some u) (hp:h.objs.size<=a) (new:ObjOk P w (upd H a o) h' a o):HOk P w (upd H a o) h':=fun b u e=>by
 have z:=x.fresh hp
 by_cases j:b=a
 ·subst j; rw [Qr] at e; cases e; exact new
 ·rw [Qn j] at e;exact (x b u e).stay (fun c v _ q=>k c v q) (fun c q=>by rw [Qn (Qp q z)]; exact q) fun c xs q=>by rw [Qn (Qp q z)]; exact q
end
def Rd (H:Hp) (a:aA) (u:HO):Prop:=H a=some u\/∃ o,H a=some (.frz o u)
theorem Rd.ok {P:aL} {w:aK} {H:Hp} {h:Heap} {a:aA} {u:HO} (r:Rd H a u) (x:HOk P w H h):ObjOk P w H h a u:=by
 rcases r with r | ⟨o,r⟩
 ·exact x a u r
 ·obtain ⟨_,q⟩:=x a _ r;exact q
def Mut:Option HO->Prop
 | some (.lst _)=>True
 | some (.dK _)=>True
 | some (.dT _)=>True
 | some (.set _ _)=>True
 | some (.ins _ _ _)=>True
 | some (.ext _)=>True
 | _=>False
section
variable {P:aL} {w:aK} {H:Hp} {h h':Heap} {x e:aA} {o':HO}
theorem HOk.write (ok:HOk P w H h) (O:Mut (H x)) (Y:e=x\/H e=some (.own x)) (k:∀ b u,b≠e->h.get? b=some u->h'.get? b=some u) (U:∃ u,h'.get? e=some u)
  (new:ObjOk P w (upd H x o') h' x o'):HOk P w (upd H x o') h':=fun b u q=>by
 have B:∀ c y,H c=some (.own y)->c≠x:=fun c y r z=>by subst z; rw [r] at O; exact O
 have G:∀ c xs,H c=some (.tup xs)->c≠x:=fun c xs r z=>by subst z; rw [r] at O; exact O
 by_cases I:b=x
 ·subst I; rw [Qr] at q; cases q; exact new
 ·rw [Qn I] at q
  by_cases j:b=e
  ·have Z:H b=some (.own x):=by
    rcases Y with z | z
    ·exact absurd (j.trans z) I
    ·rw [j]; exact z
   rw [q] at Z; cases Z;obtain ⟨v,hv⟩:=U;exact ⟨v,by rw [j]; exact hv⟩
  ·refine (ok b u q).stay (fun c v J r=>k c v ?_ r) (fun c r=>by rw [Qn (B c b r)]; exact r) fun c xs r=>by rw [Qn (G c xs r)]; exact r
   rcases J with rfl | J
   ·exact j
   ·rintro rfl;rcases Y with z | z
    ·exact B c b J z
    ·rw [J] at z; cases z; exact I rfl
end
structure Un (fs ex:List aA) (H H':Hp) (h h':Heap):Prop where
 keep:∀ b o,h.get? b=some o->H b=none->b∉fs->b∉ex->h'.get? b=some o
 slot:∀ b o,h.get? b=some o->H b=none->b∈fs->b∉ex->∃ sl,h'.get? b=some { o with slots:=sl }
 free:∀ b o,h.get? b=some o->H b=none->b∉ex->H' b=none
 there:∀ b o,h.get? b=some o->b∉ex->∃ o',h'.get? b=some o'
 tups:∀ b xs,H b=some (.tup xs)->H' b=some (.tup xs)
 frzs:∀ b o u,H b=some (.frz o u)->H' b=some (.frz o u)
 tbls:∀ b ps,H b=some (.tbl ps)->∃ more,H' b=some (.tbl (ps ++ more))
section
variable {fs fs' ex ex':List aA} {H H1 H2:Hp} {h h1 h2 h':Heap} {a x e:aA} {o:HO}
theorem Un.any (u:Un fs ex H H1 h h1) {b:aA} {ob:Obj} (q:h.get? b=some ob) (n:H b=none) (j:b∉ex):∃ B,h1.get? b=some { ob with slots:=B }:=by
 by_cases z:b∈fs
 ·exact u.slot b ob q n z j
 ·exact ⟨ob.slots,u.keep b ob q n z j⟩
theorem Un.kept (k:∀ b u,h.get? b=some u->h'.get? b=some u):Un fs ex H H h h':=
 ⟨fun b ob q _ _ _=>k b ob q,fun b ob q _ _ _=>⟨ob.slots,k b ob q⟩,fun _ _ _ n _=>n,fun b ob q _=>⟨ob,k b ob q⟩,fun _ _ q=>q,fun _ _ _ q=>q,fun _ ps q=>⟨#[],by rw [q]; simp⟩⟩
theorem Un.refl:Un fs ex H H h h:=Un.kept fun _ _ q=>q
theorem Un.laid (k:∀ b u,h.get? b=some u->h'.get? b=some u) (hp:h.objs.size<=a) (j:H a=none):Un fs ex H (upd H a o) h h' where
 keep:=fun b u q _ _ _=>k b u q
 slot:=fun b u q _ _ _=>⟨u.slots,k b u q⟩
 free:=fun b u q n _=>by rw [Qn (E5 (D4 (O7 q) hp))]; exact n
 there:=fun b u q _=>⟨u,k b u q⟩
 tups:=fun b xs q=>by rw [Qn (Qp q j)]; exact q
 frzs:=fun b u xs q=>by rw [Qn (Qp q j)]; exact q
 tbls:=fun b ps q=>⟨#[],by rw [Qn (Qp q j),q]; simp⟩
theorem Un.write (B:Mut (H x)) (U:e=x\/H e=some (.own x)) (k:∀ b u,b≠e->h.get? b=some u->h'.get? b=some u) (G:∃ u,h'.get? e=some u):Un fs ex H (upd H x o) h h':=by
 have O:∀ b,H b=none->b≠x:=fun b n z=>by subst z; rw [n] at B; exact B
 have J:∀ b,H b=none->b≠e:=fun b n z=>by
  subst z;rcases U with r | r
  ·exact O b n r
  ·rw [n] at r; cases r
 have I:∀ b u,H b=some u->¬ Mut (some u)->b≠x:=fun b u q nm z=>by subst z; rw [q] at B; exact nm B
 refine ⟨fun b u q n _ _=>k b u (J b n) q,fun b u q n _ _=>⟨u.slots,k b u (J b n) q⟩,fun b u q n _=>by rw [Qn (O b n)]; exact n,fun b u q _=>?_,
  fun b xs q=>by rw [Qn (I b _ q fun z=>z)]; exact q,fun b u xs q=>by rw [Qn (I b _ q fun z=>z)]; exact q,fun b ps q=>⟨#[],by rw [Qn (I b _ q fun z=>z),q]; simp⟩⟩
 by_cases j:b=e
 ·subst j; exact G
 ·exact ⟨u,k b u j q⟩
end
def trk (h:Heap) (H:Hp):List aA:=(List.range h.objs.size).filter fun a=>(H a).isSome
def Qah (h:Heap) (H:Hp):Heap:=PySem.W.hideAll h (trk h H)
theorem Qhe (h:Heap) (H:Hp):(Qah h H).objs.size=h.objs.size:=PySem.W.hideAll_size _ _
theorem Qke {h:Heap} {H:Hp} {b:aA} {o:Obj} (e:h.get? b=some o) (n:H b=none):(Qah h H).get? b=some o:=
 PySem.W.hideAll_get _ e fun j=>by
  have q:(H b).isSome=true:=(G7.mp j).2;rw [n] at q; simp at q
theorem Qp7 {h:Heap} {H:Hp} {b:aA} {o:Obj} (e:(Qah h H).get? b=some o):h.get? b=some o/\H b=none:=by
 have j:h.get? b=some o:=PySem.W.of_hideAll (trk h H) e;refine ⟨j,?_⟩;cases q:H b with
 | none=>rfl
 | some x=>
  have B:b∈trk h H:=G7.mpr ⟨D5.mpr (O7 j),by simp [q]⟩;have z:(Qah h H).get? b=none:=PySem.W.hideAll_none (trk h H) B;rw [z] at e; cases e
def Qqm (g h:Heap) (L:aA):List (aA × Obj):=(List.range h.objs.size).filterMap fun a=>if a=L\/(g.get? a).isSome=true then none else (h.get? a).map fun o=>(a,o)
def rest (g h:Heap) (L d:aA):List (aA × Obj):=(Qqm g h L).filter fun p=>decide (p.1≠d)
structure Mod (K:PySem.W.Frag) (mg:Str->Option aB) (base:Heap):Prop where
 kin:K.In base
 glob:base.Ns aR mg
 blt:∃ mb,base.Ns builtinsNs mb/\∀ x:Str,x≠"__name__" -> mb x=aZ x
 nolimit:base.NoLimit
structure Cx where
 prog:aL
 w:aK
 K:PySem.W.Frag
 mg:Str->Option aB
 base:Heap
 A:aN
 N:List Str
 s₀:aC
 H₀:Hp
 env:Env
 outer:List Env
 stack:List Env
 ex:List aA
 fn:Str->Bool
 calm:Bool
 pn:List (aA × Obj)
 xe:aB->aC->Prop
def frs (l:List Env):List aA:=l.filterMap (·.frame)
abbrev Cx.fs (X:Cx):List aA:=frs X.outer
def Vis (sc:Scope) (x:Str):Prop:=sc.names.lookup x=some .local\/sc.names.lookup x=some .cell\/sc.names.lookup x=some .free
def Loc (sc:Scope) (x:Str):Prop:=sc.names.lookup x=some .local\/sc.names.lookup x=some .cell
def Qwz (env:Env) (h:Heap) (m:Str->Option aB) (x:Str) (u:aB):Prop:=
 (env.kindOf x=some .local/\m x=some u)\/((env.kindOf x=some .cell\/env.kindOf x=some .free)/\∃ c,env.cells.lookup x=some c/\h.IsCell c (some u))
structure Cx.Ok (X:Cx):Prop where
 mod:Mod X.K X.mg X.base
 kind:X.env.scope.kind=.function
 glob:X.env.globals=aR
 blt:X.env.builtins=builtinsNs
 above:X.s₀.heap.objs.size<=X.env.locals
 inj:∀ x y c,X.env.cells.lookup x=some c->X.env.cells.lookup y=some c->x=y
 has:∀ x,(X.env.kindOf x=some .cell\/X.env.kindOf x=some .free)->∃ c,X.env.cells.lookup x=some c
 cab:∀ x c,X.fn x=true->X.env.cells.lookup x=some c->X.s₀.heap.objs.size<=c
 hd:X.calm=true->X.A.handled=none
 frames:X.A.frames=some X.stack
 stk:X.stack=X.outer\/(X.stack=X.env :: X.outer/\X.env.frame=some X.env.locals)
 exf:∀ b∈X.ex,b≠X.env.locals/\∀ x c,X.env.cells.lookup x=some c->c≠b
 bs:∀ b o,X.base.get? b=some o->X.s₀.heap.get? b=some o/\X.H₀ b=none
 bsz:X.base.objs.size<=X.s₀.heap.objs.size
 noex:∀ b o,X.base.get? b=some o->b∉X.ex
 exfs:∀ b∈X.ex,b∉X.fs
 funs:X.s₀.heap.FunFrames X.base X.outer
 frf:∀ b∈X.fs,X.H₀ b=none
structure Inv (X:Cx) (pins:List (aA × Obj)) (σ:List (Option V)) (H:Hp) (s:aC):Prop where
 ok:X.Ok
 os:s.os=X.s₀.os
 bare:AllBare s.gens
 base:Un X.fs X.ex X.H₀ H X.s₀.heap s.heap
 loc:∃ m,s.heap.Ns X.env.locals m/\∀ (i:Nat) (x:Str) (v:V),X.N[i]?=some x->σ[i]?=some (some v)->Vis X.env.scope x->∃ u,RelV v u/\Qwz X.env s.heap m x u
 cell:∀ x c,X.env.cells.lookup x=some c->∃ v,s.heap.IsCell c v
 free:H X.env.locals=none
 freeC:∀ x c,X.env.cells.lookup x=some c->H c=none
 pin:∀ p∈X.pn ++ pins,s.heap.get? p.1=some p.2/\H p.1=none/\p.1≠X.env.locals/\p.1∉X.fs/\∀ v,p.2.data≠.cell v
 hok:HOk X.prog X.w H s.heap
 len:σ.length=X.N.length
section
variable {X:Cx} {pins:List (aA × Obj)} {σ:List (Option V)} {H H':Hp} {s:aC} {h':Heap}
theorem Cx.Ok.nofr (ok:X.Ok) {b:aA} {o:Obj} (e:X.base.get? b=some o):b∉X.fs:=fun j=>by
 have:=(ok.funs.mem j).1;rw [e] at this; cases this
theorem Inv.bs (I:Inv X pins σ H s):∀ b o,X.base.get? b=some o->s.heap.get? b=some o/\H b=none:=fun b o e=>
 ⟨I.base.keep b o (I.ok.bs b o e).1 (I.ok.bs b o e).2 (I.ok.nofr e) (I.ok.noex b o e),I.base.free b o (I.ok.bs b o e).1 (I.ok.bs b o e).2 (I.ok.noex b o e)⟩
theorem Inv.bk (I:Inv X pins σ H s):∀ b o,X.base.get? b=some o->s.heap.get? b=some o:=fun b o e=>(I.bs b o e).1
theorem Inv.mod (I:Inv X pins σ H s):Mod X.K X.mg X.base:=I.ok.mod
theorem Inv.kIn (I:Inv X pins σ H s):X.K.In s.heap:=I.ok.mod.kin.keeps I.bk
theorem Inv.lt (I:Inv X pins σ H s):X.env.locals < s.heap.objs.size:=let ⟨_,j,_⟩:=I.loc; j.lt
theorem Inv.sz (I:Inv X pins σ H s):X.s₀.heap.objs.size<=s.heap.objs.size:=F0 I.ok.above (E2 I.lt)
theorem Inv.nofs (I:Inv X pins σ H s) {a:aA} (h:s.heap.objs.size<=a):a∉X.fs:=fun j=>by
 obtain ⟨_,o,z,_⟩:=I.ok.funs.mem j;exact absurd (D4 (O7 z) (F0 I.sz h)) (Nat.lt_irrefl _)
theorem Inv.cne (I:Inv X pins σ H s):∀ x c,X.env.cells.lookup x=some c->c≠X.env.locals:=fun x c e z=>by
 obtain ⟨v,o,G,hd⟩:=I.cell x c e;obtain ⟨m,⟨o',es,ep,B,j,_⟩,_⟩:=I.loc;rw [z,B] at G; cases G; rw [j] at hd; cases hd
theorem Inv.funs (I:Inv X pins σ H s):s.heap.FunFrames X.base X.outer:=by
 have all:∀ (l:List Env),(∀ b∈frs l,b∈X.fs)->X.s₀.heap.FunFrames X.base l->s.heap.FunFrames X.base l:=by
  intro l
  induction l with
  | nil=>intro _ _; trivial
  | cons env r O=>
   intro hs hl;obtain ⟨J,⟨L,o,j,Y,U,hd⟩,hr⟩:=hl;have G:L∈X.fs:=hs L (by unfold frs; rw [List.filterMap_cons,j]; exact O8);obtain ⟨Z,e⟩:=I.base.slot L o U (I.ok.frf L G) G fun z=>I.ok.exfs L z G
   exact ⟨J,⟨L,_,j,Y,e,hd⟩,O (fun b B=>hs b (by unfold frs; rw [List.filterMap_cons,j]; exact O5 _ B)) hr⟩
 exact all X.outer (fun _ B=>B) I.ok.funs
theorem Inv.stack (I:Inv X pins σ H s):s.heap.FunFrames X.base X.stack:=by
 rcases I.ok.stk with e | ⟨e,j⟩
 ·rw [e]; exact I.funs
 ·rw [e];obtain ⟨m,z,_⟩:=I.loc;refine .cons (by rw [I.ok.kind]; decide) j z ?_ I.funs;exact Heap.get?_none_of_le (F0 I.ok.bsz I.ok.above)
theorem Inv.stkSub (I:Inv X pins σ H s):∀ b∈frs X.stack,b∈X.env.locals :: X.fs:=fun b j=>by
 rcases I.ok.stk with e | ⟨e,z⟩
 ·rw [e] at j; exact O5 _ j
 ·rw [e] at j;unfold frs at j;rw [List.filterMap_cons,z] at j;exact j
theorem Inv.stkFree (I:Inv X pins σ H s):∀ b∈frs X.stack,H b=none:=fun b j=>by
 rcases D3.mp (I.stkSub b j) with e | j
 ·rw [e]; exact I.free
 ·obtain ⟨_,o,B,_⟩:=I.ok.funs.mem j;exact I.base.free b o B (I.ok.frf b j) fun z=>I.ok.exfs b z j
theorem Inv.step {g':Array GenState} {t':Nat} {d':Drawn} {ch:List aA} (I:Inv X pins σ H s)
  (J:∀ b∈ch,(b∈X.ex\/X.s₀.heap.objs.size<=b)/\b≠X.env.locals/\(∀ x c,X.env.cells.lookup x=some c->c≠b)/\∀ p∈X.pn ++ pins,p.1≠b)
  (keep:∀ b o,b≠X.env.locals->b∉X.fs->b∉ch->s.heap.get? b=some o->H b=none->h'.get? b=some o)
  (slot:∀ b o,b≠X.env.locals->b∈X.fs->b∉ch->s.heap.get? b=some o->H b=none->∃ sl,h'.get? b=some { o with slots:=sl }) (free:∀ b o,b∉ch->s.heap.get? b=some o->H b=none->H' b=none)
  (there:∀ b o,b∉ch->s.heap.get? b=some o->∃ o',h'.get? b=some o')
  (tups:∀ b xs,H b=some (.tup xs)->H' b=some (.tup xs)) (frzs:∀ b o u,H b=some (.frz o u)->H' b=some (.frz o u)) (tbls:∀ b ps,H b=some (.tbl ps)->∃ more,H' b=some (.tbl (ps ++ more)))
  (ns:∀ m,s.heap.Ns X.env.locals m->h'.Ns X.env.locals m) (hok:HOk X.prog X.w H' h') (hg:AllBare g') :
  Inv X pins σ H' { s with heap:=h',gens:=g',drawn:=d',toks:=t' }:=by
 have Z:∀ b o,X.s₀.heap.get? b=some o->b≠X.env.locals:=fun b o e=>E5 (D4 (O7 e) I.ok.above)
 have O:∀ b o,X.s₀.heap.get? b=some o->b∉X.ex->b∉ch:=fun b o e j U=>by
  rcases (J b U).1 with z | z
  ·exact j z
  ·exact absurd (D4 (O7 e) z) (Nat.lt_irrefl _)
 have B:∀ x c,X.env.cells.lookup x=some c->∀ v,s.heap.IsCell c v->h'.IsCell c v:=fun x c e v ⟨o,Y,hd⟩=>by
  have G:c∉ch:=fun z=>(J c z).2.2.1 x c e rfl
  by_cases hc:c∈X.fs
  ·obtain ⟨sl,q⟩:=slot c o (I.cne x c e) hc G Y (I.freeC x c e);exact ⟨_,q,hd⟩
  ·exact ⟨o,keep c o (I.cne x c e) hc G Y (I.freeC x c e),hd⟩
 refine ⟨I.ok,I.os,hg,⟨fun b o e n U j=>?_,fun b o e n U j=>?_,fun b o e n j=>?_,fun b o e j=>?_,fun b xs e=>tups b xs (I.base.tups b xs e),fun b o xs e=>frzs b o xs (I.base.frzs b o xs e),fun b ps e=>?_⟩,?_,fun x c e=>?_,?_,fun x c e=>?_,fun p hp=>?_,hok,I.len⟩
 ·exact keep b o (Z b o e) U (O b o e j) (I.base.keep b o e n U j) (I.base.free b o e n j)
 ·obtain ⟨sl,e1⟩:=I.base.slot b o e n U j;obtain ⟨a1,e2⟩:=slot b _ (Z b o e) U (O b o e j) e1 (I.base.free b o e n j);exact ⟨a1,e2⟩
 ·obtain ⟨o',e1⟩:=I.base.there b o e j;exact free b o' (O b o e j) e1 (I.base.free b o e n j)
 ·obtain ⟨o',e1⟩:=I.base.there b o e j;exact there b o' (O b o e j) e1
 ·obtain ⟨m1,e1⟩:=I.base.tbls b ps e;obtain ⟨m2,e2⟩:=tbls b _ e1;exact ⟨m1 ++ m2,by rw [e2,Array.append_assoc]⟩
 ·obtain ⟨m,hn,hl⟩:=I.loc;refine ⟨m,ns m hn,fun i x v e1 e2 e3=>?_⟩;obtain ⟨u,r,l⟩:=hl i x v e1 e2 e3;refine ⟨u,r,?_⟩;rcases l with l | ⟨k,c,e,z⟩
  ·exact .inl l
  ·exact .inr ⟨k,c,e,B x c e _ z⟩
 ·obtain ⟨v,z⟩:=I.cell x c e;exact ⟨v,B x c e v z⟩
 ·obtain ⟨m,⟨o,_,_,Y,_⟩,_⟩:=I.loc;exact free _ o (fun z=>(J _ z).2.1 rfl) Y I.free
 ·obtain ⟨v,o,Y,hd⟩:=I.cell x c e;exact free c o (fun z=>(J c z).2.2.1 x c e rfl) Y (I.freeC x c e)
 ·obtain ⟨e,n,ne,nf,d⟩:=I.pin p hp;have G:p.1∉ch:=fun z=>(J p.1 z).2.2.2 p hp rfl
  exact ⟨keep p.1 p.2 ne nf G e n,free p.1 p.2 G e n,ne,nf,d⟩
theorem Inv.un {t':Nat} (I:Inv X pins σ H s) (u:Un X.fs [] H H' s.heap h') (hok:HOk X.prog X.w H' h'):Inv X pins σ H' { s with heap:=h',toks:=t' }:=by
 obtain ⟨m,⟨o,es,ep,O,r⟩,_⟩:=id I.loc;obtain ⟨sl,U⟩:=u.any O I.free (by simp);exact I.step (g':=s.gens) (d':=s.drawn) (ch:=[]) (fun _ z=>nomatch z) (fun b o _ B _ e n=>u.keep b o e n B (by simp)) (fun b o _ B _ e n=>u.slot b o e n B (by simp)) (fun b o _ e n=>u.free b o e n (by simp)) (fun b o _ e=>u.there b o e (by simp)) u.tups u.frzs u.tbls (fun m' Y=>by
  obtain ⟨o',J,G,j,Z⟩:=Y;rw [O] at j; cases j;exact ⟨_,J,G,U,Z⟩) hok I.bare
theorem Inv.call {g':Array GenState} {t':Nat} {d':Drawn} {ch:List aA} (I:Inv X pins σ H s) (u:Un (frs X.stack) ch H H' s.heap h') (hok:HOk X.prog X.w H' h') (hg:AllBare g')
  (G:∀ b∈ch,(b∈X.ex\/X.s₀.heap.objs.size<=b)/\b≠X.env.locals/\(∀ x c,X.env.cells.lookup x=some c->c≠b)/\∀ p∈X.pn ++ pins,p.1≠b) :
  Inv X pins σ H' { s with heap:=h',gens:=g',drawn:=d',toks:=t' }:=by
 obtain ⟨m,⟨o,es,ep,Y,r⟩,_⟩:=id I.loc;obtain ⟨sl,O⟩:=u.any Y I.free fun z=>(G _ z).2.1 rfl
 exact I.step (ch:=ch) G (fun b o O Z j e n=>u.keep b o e n (fun z=>(D3.mp (I.stkSub b z)).elim O Z) j) (fun b o _ _ j e n=>u.any e n j) (fun b o j e n=>u.free b o e n j) (fun b o j e=>u.there b o e j) u.tups u.frzs u.tbls (fun m' hm=>by
  obtain ⟨o',U,J,B,r'⟩:=hm;rw [Y] at B; cases B;exact ⟨_,U,J,O,r'⟩) hok hg
theorem Inv.turned {t':Nat} {j:aA} (I:Inv X pins σ H s) (k:∀ b o,b≠j->s.heap.get? b=some o->h'.get? b=some o) (hn:H j=none) (J:j≠X.env.locals)
  (h1:j∈X.ex\/X.s₀.heap.objs.size<=j) (h2:∀ x c,X.env.cells.lookup x=some c->c≠j) (O:∀ p∈X.pn ++ pins,p.1≠j):Inv X pins σ H { s with heap:=h',toks:=t' }:=by
 have G:∀ b u,H b=some u->b≠j:=fun b u e z=>by rw [z,hn] at e; cases e
 refine I.step (g':=s.gens) (d':=s.drawn) (ch:=[j]) (fun b U=>?_) (fun b o _ _ B e _=>k b o (fun z=>B (by simp [z])) e) (fun b o _ _ B e _=>⟨o.slots,k b o (fun z=>B (by simp [z])) e⟩) (fun _ _ _ _ n=>n)
  (fun b o B e=>⟨o,k b o (fun z=>B (by simp [z])) e⟩) (fun _ _ e=>e) (fun _ _ _ e=>e) (fun b ps e=>⟨#[],by rw [e]; simp⟩) (fun m Y=>?_) (fun b u e=>?_) I.bare
 ·have e:b=j:=by simpa using U
  subst e;exact ⟨h1,J,h2,O⟩
 ·obtain ⟨o,es,ep,Z,r⟩:=Y;exact ⟨o,es,ep,k _ o (Ne.symm J) Z,r⟩
 ·refine (I.hok b u e).stay (fun c v B q=>k c v ?_ q) (fun _ q=>q) fun _ _ q=>q
  rcases B with z | z
  ·rw [z]; exact G b u e
  ·exact G c _ z
theorem Inv.tok (I:Inv X pins σ H s) (t:Nat):Inv X pins σ H { s with toks:=t }:=I.un (h':=s.heap) (t':=t) Un.refl I.hok
theorem Inv.kept {t':Nat} (I:Inv X pins σ H s) (k:∀ b u,s.heap.get? b=some u->h'.get? b=some u):Inv X pins σ H { s with heap:=h',toks:=t' }:=I.un (Un.kept k) (I.hok.kept k)
theorem Inv.laid {a:aA} {o:HO} {t':Nat} (I:Inv X pins σ H s) (k:∀ b u,s.heap.get? b=some u->h'.get? b=some u) (hp:s.heap.objs.size<=a) (new:ObjOk X.prog X.w (upd H a o) h' a o) :
  Inv X pins σ (upd H a o) { s with heap:=h',toks:=t' }:=I.un (Un.laid k hp (I.hok.fresh hp)) (I.hok.laid k hp new)
theorem Inv.write {x e:aA} {o:HO} {t':Nat} (I:Inv X pins σ H s) (B:Mut (H x)) (z:e=x\/H e=some (.own x)) (k:∀ b u,b≠e->s.heap.get? b=some u->h'.get? b=some u) (j:∃ u,h'.get? e=some u)
  (new:ObjOk X.prog X.w (upd H x o) h' x o):Inv X pins σ (upd H x o) { s with heap:=h',toks:=t' }:=I.un (Un.write B z k j) (I.hok.write B z k j new)
theorem Inv.pins_of {pins':List (aA × Obj)} (I:Inv X pins σ H s) (h:∀ p∈pins',s.heap.get? p.1=some p.2/\H p.1=none/\p.1≠X.env.locals/\p.1∉X.fs/\∀ v,p.2.data≠.cell v):Inv X pins' σ H s:=
 ⟨I.ok,I.os,I.bare,I.base,I.loc,I.cell,I.free,I.freeC,fun p hp=>(E4.mp hp).elim (fun z=>I.pin p (F6 _ z)) (h p),I.hok,I.len⟩
theorem Q5s {N:List Str} (z:N.Nodup) {i j:Nat} {x:Str} (a:N[i]?=some x) (b:N[j]?=some x):i=j:=by
 obtain ⟨h1,e1⟩:=O2.mp a;obtain ⟨h2,e2⟩:=O2.mp b;exact (List.getElem_inj z).mp (e1.trans e2.symm)
theorem Q7t {M:Model} {A:aN} {E:aB->aC->Prop} {i:Nat} {x:Str} {v:V} {u:aB} {Q:Unit->aC->Prop} (I:Inv X pins σ H s) (hN:X.N.Nodup) (hi:X.N[i]?=some x) (J:Loc X.env.scope x) (r:RelV v u)
  (h:∀ s',Inv X pins (σ.set i (some v)) H s'->(∃ a,Heap.SameBut a s.heap s'.heap/\(a=X.env.locals\/X.env.cells.lookup x=some a))->Q () s') (hf:X.fn x=true\/X.env.scope.names.lookup x=some .local:=by first | exact .inl rfl | exact .inr rfl | assumption):aH M A (storeName X.env x u) Q E s:=by
 obtain ⟨m,hn,hl⟩:=id I.loc;have a4:(X.env.scope.kind == .class || (X.env.scope.kind == .module && X.env.locals != X.env.globals))=false:=by rw [I.ok.kind]; rfl
 have U:i < σ.length:=by rw [I.len]; exact (O2.mp hi).1
 have cne:=I.cne;have B:∀ {a:aA} {h':Heap},(∃ o,s.heap.get? a=some o/\H a=none)->Heap.SameBut a s.heap h'->HOk X.prog X.w H h':=fun {a h'} ha hs b ob e=>by
  obtain ⟨_,_,O⟩:=ha;refine (I.hok b ob e).stay (fun c w' G q=>(hs.2 c ?_).trans q) (fun _ q=>q) fun _ _ q=>q
  rintro rfl;rcases G with rfl | G
  ·rw [O] at e; cases e
  ·rw [O] at G; cases G
 rcases J with Y | Y
 ·refine wpAny_storeName_local Y hn (fun h' a7 hs=>?_) a4;obtain ⟨oL,_,_,a8,_⟩:=id hn;refine h _ ⟨I.ok,I.os,I.bare,⟨fun b o e n Z J=>?_,fun b o e n Z J=>?_,I.base.free,fun b o e J=>?_,I.base.tups,I.base.frzs,I.base.tbls⟩,⟨_,a7,fun j y v' e1 e2 e3=>?_⟩,fun y c e=>?_,I.free,I.freeC,fun p hp=>?_,B ⟨oL,a8,I.free⟩ hs,by simpa using I.len⟩ ⟨_,hs,.inl rfl⟩
  ·exact (hs.2 b (E5 (D4 (O7 e) I.ok.above))).trans (I.base.keep b o e n Z J)
  ·obtain ⟨sl,e1⟩:=I.base.slot b o e n Z J;exact ⟨sl,(hs.2 b (E5 (D4 (O7 e) I.ok.above))).trans e1⟩
  ·obtain ⟨o',e1⟩:=I.base.there b o e J;exact ⟨o',(hs.2 b (E5 (D4 (O7 e) I.ok.above))).trans e1⟩
  ·by_cases hj:j=i
   ·subst hj;rw [hi] at e1; cases e1;rw [F1 U] at e2;cases e2;exact ⟨u,r,.inl ⟨Y,by simp⟩⟩
   ·rw [D9 (Ne.symm hj)] at e2;obtain ⟨u',r',q⟩:=hl j y v' e1 e2 e3;refine ⟨u',r',?_⟩;rcases q with ⟨k,e⟩ | ⟨k,c,e,z⟩
    ·refine .inl ⟨k,?_⟩;have:y≠x:=fun e=>hj (Q5s hN e1 (e ▸ hi))
     simp [this,e]
    ·exact .inr ⟨k,c,e,z.sameBut hs (cne y c e)⟩
  ·obtain ⟨w',z⟩:=I.cell y c e;exact ⟨w',z.sameBut hs (cne y c e)⟩
  ·obtain ⟨e,n,ne,nf,d⟩:=I.pin p hp;exact ⟨(hs.2 p.1 ne).trans e,n,ne,nf,d⟩
 ·have a1:X.fn x=true:=by
   rcases hf with z | z
   ·exact z
   ·rw [z] at Y; cases Y
  obtain ⟨c,G⟩:=I.ok.has x (.inl Y);obtain ⟨w',z⟩:=I.cell x c G;refine wpAny_storeName_cell I.ok.kind Y G z (fun h' a6 hs=>?_);obtain ⟨oc,a2,a3⟩:=id z;refine h { s with heap:=h' } ⟨I.ok,I.os,I.bare,⟨fun b o e n Z J=>?_,fun b o e n Z J=>?_,I.base.free,fun b o e J=>?_,I.base.tups,I.base.frzs,I.base.tbls⟩,⟨m,hn.sameBut hs (Ne.symm (cne x c G)),fun j y v' e1 e2 e3=>?_⟩,fun y c' e=>?_,I.free,I.freeC,fun p hp=>?_,B ⟨oc,a2,I.freeC x c G⟩ hs,by simpa using I.len⟩ ⟨c,hs,.inr G⟩
  ·exact (hs.2 b (E5 (D4 (O7 e) (I.ok.cab x c a1 G)))).trans (I.base.keep b o e n Z J)
  ·obtain ⟨sl,e1⟩:=I.base.slot b o e n Z J;exact ⟨sl,(hs.2 b (E5 (D4 (O7 e) (I.ok.cab x c a1 G)))).trans e1⟩
  ·obtain ⟨o',e1⟩:=I.base.there b o e J;exact ⟨o',(hs.2 b (E5 (D4 (O7 e) (I.ok.cab x c a1 G)))).trans e1⟩
  ·by_cases hj:j=i
   ·subst hj;rw [hi] at e1; cases e1;rw [F1 U] at e2;cases e2;exact ⟨u,r,.inr ⟨.inl Y,c,G,a6⟩⟩
   ·rw [D9 (Ne.symm hj)] at e2;obtain ⟨u',r',q⟩:=hl j y v' e1 e2 e3;refine ⟨u',r',?_⟩;rcases q with q | ⟨k,c',e,z'⟩
    ·exact .inl q
    ·refine .inr ⟨k,c',e,z'.sameBut hs ?_⟩;rintro rfl;exact hj (Q5s hN e1 (I.ok.inj _ _ _ e G ▸ hi))
  ·by_cases a5:c'=c
   ·subst a5; exact ⟨_,a6⟩
   ·obtain ⟨w2,z2⟩:=I.cell y c' e;exact ⟨w2,z2.sameBut hs a5⟩
  ·obtain ⟨e,n,ne,nf,d⟩:=I.pin p hp;refine ⟨(hs.2 p.1 ?_).trans e,n,ne,nf,d⟩;intro q;rw [q,a2] at e;have q':oc=p.2:=Option.some.inj e;exact d w' (by rw [<- q']; exact a3)
theorem Q52 {M:Model} {A:aN} {E:aB->aC->Prop} {i:Nat} {x:Str} {v:V} {u:aB} {Q:Unit->aC->Prop} (I:Inv X pins σ H s) (G:X.N.Nodup) (hi:X.N[i]?=some x) (z:Loc X.env.scope x) (r:RelV v u)
  (h:∀ s',Inv X pins (σ.set i (some v)) H s'->Q () s') (j:X.fn x=true\/X.env.scope.names.lookup x=some .local:=by first | exact .inl rfl | exact .inr rfl | assumption):aH M A (storeName X.env x u) Q E s:=
 Q7t I G hi z r (fun s' B _=>h s' B) j
theorem Inv.call' {s':aC} {ch:List aA} (I:Inv X pins σ H s) (B:s'.os=s.os) (u:Un (frs X.stack) ch H H' s.heap s'.heap) (hok:HOk X.prog X.w H' s'.heap) (z:AllBare s'.gens)
  (j:∀ b∈ch,(b∈X.ex\/X.s₀.heap.objs.size<=b)/\b≠X.env.locals/\(∀ x c,X.env.cells.lookup x=some c->c≠b)/\∀ p∈X.pn ++ pins,p.1≠b):Inv X pins σ H' s':=by
 obtain ⟨h',g',d',t',o'⟩:=s';have e:o'=s.os:=B;subst e;exact I.call (g':=g') (t':=t') (d':=d') u hok z j
end
abbrev XK:=aB->Option aA->Hp->Prop
abbrev St:=List (Option V)
abbrev VK:=V->Hp->Prop
abbrev TE:=St->Hp->VK->Prop
abbrev TT:=St->Hp->(Bool->Hp->Prop)->Prop
abbrev TA:=St->Hp->(List V->Hp->Prop)->Prop
structure Ends where
 nx:St->Hp->Prop
 rt:VK
 bk:St->Hp->Prop:=fun _ _=>False
 ct:St->Hp->Prop:=fun _ _=>False
abbrev TS:=Ends->St->Hp->Prop
def EP (X:Cx) (pins:List (aA × Obj)) (σ:St) (Q:VK) (u:aB) (s':aC):Prop:=∃ v H',Inv X pins σ H' s'/\RelV v u/\Q v H'
def TP (X:Cx) (pins:List (aA × Obj)) (σ:St) (Q:Bool->Hp->Prop) (b:Bool) (s':aC):Prop:=∃ H',Inv X pins σ H' s'/\Q b H'
def AP (X:Cx) (pins:List (aA × Obj)) (σ:St) (Q:List V->Hp->Prop) (us:List aB) (s':aC):Prop:=∃ vs H',Inv X pins σ H' s'/\Vals vs us/\Q vs H'
def SP (X:Cx) (pins:List (aA × Obj)) (D:Ends) (f:Flow) (s':aC):Prop:=
 match f with
 | .next=>∃ σ' H',Inv X pins σ' H' s'/\D.nx σ' H'
 | .brk=>∃ σ' H',Inv X pins σ' H' s'/\D.bk σ' H'
 | .cont=>∃ σ' H',Inv X pins σ' H' s'/\D.ct σ' H'
 | .ret u=>∃ v σ' H',Inv X pins σ' H' s'/\RelV v u/\D.rt v H'
def PE (X:Cx) (e:aD) (t:TE):Prop:=
 ∀ (pins:List (aA × Obj)) (s:aC) (σ:St) (H:Hp) (Q:VK),Inv X pins σ H s->t σ H Q->aH (aI X.prog X.w) X.A (aQ e X.env) (EP X pins σ Q) X.xe s
def PT (X:Cx) (e:aD) (t:TT):Prop:=
 ∀ (pins:List (aA × Obj)) (s:aC) (σ:St) (H:Hp) (Q:Bool->Hp->Prop),Inv X pins σ H s->t σ H Q->aH (aI X.prog X.w) X.A (isTrue e X.env (aQ e X.env)) (TP X pins σ Q) X.xe s
def PW (X:Cx) (e:aD) (t:TT):Prop:=
 ∀ (whole:Sem aB) (pins:List (aA × Obj)) (s:aC) (σ:St) (H:Hp) (Q:Bool->Hp->Prop),Inv X pins σ H s->t σ H Q->aH (aI X.prog X.w) X.A (isTrue e X.env whole) (TP X pins σ Q) X.xe s
theorem PW.pt {X:Cx} {e:aD} {t:TT} (h:PW X e t):PT X e t:=h _
def PA (X:Cx) (es:List aD) (t:TA):Prop:=
 ∀ (pos:Pos) (pins:List (aA × Obj)) (s:aC) (σ:St) (H:Hp) (Q:List V->Hp->Prop),Inv X pins σ H s->t σ H Q->aH (aI X.prog X.w) X.A (spliced (aU pos (aP es X.env))) (AP X pins σ Q) X.xe s
def PS (X:Cx) (st:aJ) (t:TS):Prop:=
 ∀ (pins:List (aA × Obj)) (s:aC) (σ:St) (H:Hp) (D:Ends),Inv X pins σ H s->t D σ H->aH (aI X.prog X.w) X.A (exec st X.env) (SP X pins D) X.xe s
def PSs (X:Cx) (st:List aJ) (t:TS):Prop:=
 ∀ (pins:List (aA × Obj)) (s:aC) (σ:St) (H:Hp) (D:Ends),Inv X pins σ H s->t D σ H->aH (aI X.prog X.w) X.A (execs st X.env) (SP X pins D) X.xe s
theorem thn {α:Type} {t:Sem α} {Q j:α->aC->Prop} {M:Model} {A:aN} {E:aB->aC->Prop} {s:aC} (h:aH M A t Q E s) (z:∀ a s,Q a s->j a s):aH M A t j E s:=ak h z fun _ _ x=>x
section
variable {X:Cx}
def Quk (i:Nat):TE:=fun σ H Q=>∃ v,σ[i]?=some (some v)/\Q v H
def tC (v:V):TE:=fun _ H Q=>Q v H
theorem Qjg {i:Nat} {x:Str} {pos:Pos} (J:X.N[i]?=some x) (U:Vis X.env.scope x) (hd:(x == ("__debug__" : Str))=false:=by decide) (B:(x == ("__classdict__" : Str))=false:=by decide):PE X (.Name x pos) (Quk i):=by
 intro pins s σ H Q I h;obtain ⟨v,e,h⟩:=h;obtain ⟨m,Y,hl⟩:=I.loc;obtain ⟨u,r,l⟩:=hl i x v J e U;have fin:EP X pins σ Q u s:=⟨v,H,I,r,h⟩;rcases l with ⟨z,O⟩ | ⟨z,c,G,j⟩
 ·exact wpAny_Name (wpAny_loadName_local I.ok.kind z Y O fin) hd
 ·rcases z with z | z
  ·exact wpAny_Name (wpAny_loadName_cell I.ok.kind z G j fin) hd
  ·exact wpAny_Name (wpAny_loadName_free I.ok.kind z G j fin B) hd
theorem Qdt {i j pos}:PE X (.Constant (.int i) j pos) (tC (.int i)):=fun _ _ _ H _ I h=>wpAny_Constant_int ⟨.int i,H,I.tok _,⟨_,rfl⟩,h⟩
theorem Qjn {b j pos}:PE X (.Constant (.bool b) j pos) (tC (.bl b)):=fun _ _ _ H _ I h=>Constant_bool ⟨.bl b,H,I,rfl,h⟩
theorem Qdr {j pos}:PE X (.Constant .none j pos) (tC .non):=fun _ _ _ H _ I h=>Constant_none ⟨.non,H,I,rfl,h⟩
theorem Q9v {x j pos}:PE X (.Constant (.str x) j pos) (tC (.str x)):=fun _ _ _ H _ I h=>Calls.Constant_str ⟨.str x,H,I.tok _,⟨_,rfl⟩,h⟩
def Gl (X:Cx) (x:Str):Prop:=X.env.kindOf x=some .globalImplicit
theorem Q2d {E:aB->aC->Prop} {pins:List (aA × Obj)} {s:aC} {σ:St} {H:Hp} {x:Str} {u:aB} {pos:Pos} {Q:aB->aC->Prop} (I:Inv X pins σ H s) (z:Gl X x) (j:X.mg x=some u) (h:Q u s)
  (hd:(x == ("__debug__" : Str))=false:=by decide):aH (aI X.prog X.w) X.A (aQ (.Name x pos) X.env) Q E s:=
 Calls.Name_function_global I.ok.kind z (Calls.loadGlobal_global (by rw [I.ok.glob]; exact I.mod.glob.keeps I.bk) j h) hd
theorem Q67 {E:aB->aC->Prop} {pins:List (aA × Obj)} {s:aC} {σ:St} {H:Hp} {x:Str} {u:aB} {pos:Pos} {Q:aB->aC->Prop} (I:Inv X pins σ H s) (j:Gl X x) (z:X.mg x=none) (B:aZ x=some u) (h:Q u s)
  (G:x≠"__name__" := by decide) (hd:(x == ("__debug__" : Str))=false:=by decide):aH (aI X.prog X.w) X.A (aQ (.Name x pos) X.env) Q E s:=by
 obtain ⟨mb,h1,h2⟩:=I.mod.blt;exact Calls.Name_function_global I.ok.kind j (Calls.loadGlobal_builtin (by rw [I.ok.glob]; exact I.mod.glob.keeps I.bk) z (by rw [I.ok.blt]; exact h1.keeps I.bk) ((h2 x G).trans B) h) hd
theorem W9 {x:Str} {v:V} {u:aB} {pos:Pos} (z:Gl X x) (j:X.mg x=some u) (r:RelV v u) (hd:(x == ("__debug__" : Str))=false:=by decide):PE X (.Name x pos) (tC v):=
 fun _ _ _ H _ I h=>Q2d I z j ⟨v,H,I,r,h⟩ hd
theorem Qf0 {x:Str} {v:V} {u:aB} {pos:Pos} (j:Gl X x) (z:X.mg x=none) (B:aZ x=some u) (r:RelV v u) (G:x≠"__name__" := by decide) (hd:(x == ("__debug__" : Str))=false:=by decide):PE X (.Name x pos) (tC v):=
 fun _ _ _ H _ I h=>Q67 I j z B ⟨v,H,I,r,h⟩ G hd
variable {a b:aD} {ta tb:TE} {pos:Pos}
def tB (t:TE):TT:=fun σ H Q=>t σ H fun x H1=>∃ c,x=.bl c/\Q c H1
theorem Qj7 {e:aD} {t:TE} (h:PE X e t) (B:∀ j,isTrue e X.env j=(do let v <- j; standAt e.pos; bB [v] (truthy v)):=by intro _; rfl):PT X e (tB t):=by
 intro pins s σ H Q I G;refine isTrue_plain (thn (h pins s σ H _ I G) fun v O ⟨x,H1,J,z,q1⟩=>?_) (B _)
 obtain ⟨d,rfl,q⟩:=q1;cases z;exact az ⟨H1,J,q⟩
variable {tA tB':TT} {rest:List aD}
def Qy0 (t u:TT):TT:=fun σ H Q=>t σ H fun c H1=>if c=true then u σ H1 Q else Q false H1
def tOr (t u:TT):TT:=fun σ H Q=>t σ H fun c H1=>if c=true then Q true H1 else u σ H1 Q
def Qxy (t:TT):TT:=fun σ H Q=>t σ H fun c H1=>Q (!c) H1
theorem Qnj (j:PT X a tA):PW X (.BoolOp .And [a] pos) tA:=by
 intro B pins s σ H Q I h;refine isTrue_and (thn (j pins s σ H Q I h) fun c z e=>?_)
 cases c with
 | true=>exact isTrue_and_nil e
 | false=>exact e
theorem Qj5 (j:PT X a tA):PW X (.BoolOp .Or [a] pos) tA:=by
 intro B pins s σ H Q I h;refine isTrue_or (thn (j pins s σ H Q I h) fun c z e=>?_)
 cases c with
 | false=>exact isTrue_or_nil e
 | true=>exact e
theorem Qry (J:PT X a tA) (B:PW X (.BoolOp .And (b :: rest) pos) tB'):PW X (.BoolOp .And (a :: b :: rest) pos) (Qy0 tA tB'):=by
 intro G pins s σ H Q I h;refine isTrue_and (thn (J pins s σ H _ I h) fun c z ⟨H1,j,q1⟩=>?_)
 cases c with
 | true=>exact B G pins z σ H1 Q j q1
 | false=>exact ⟨H1,j,q1⟩
theorem Qqy (J:PT X a tA) (B:PW X (.BoolOp .Or (b :: rest) pos) tB'):PW X (.BoolOp .Or (a :: b :: rest) pos) (tOr tA tB'):=by
 intro G pins s σ H Q I h;refine isTrue_or (thn (J pins s σ H _ I h) fun c z ⟨H1,j,q1⟩=>?_)
 cases c with
 | true=>exact ⟨H1,j,q1⟩
 | false=>exact B G pins z σ H1 Q j q1
theorem Qj8 (j:PT X a tA):PT X (.UnaryOp .Not a pos) (Qxy tA):=by
 intro pins s σ H Q I h;exact isTrue_not (j pins s σ H (fun c H1=>Q (!c) H1) I h)
def Qux (ta tb:TE):TE:=fun σ H Q=>ta σ H fun x H1=>∃ c,x=.bl c/\if c=true then tb σ H1 Q else Q (.bl false) H1
def Qxx (ta tb:TE):TE:=fun σ H Q=>ta σ H fun x H1=>∃ c,x=.bl c/\if c=true then Q (.bl true) H1 else tb σ H1 Q
def Qur (ta:TE):TE:=fun σ H Q=>ta σ H fun x H1=>∃ c,x=.bl c/\Q (.bl (!c)) H1
theorem Qs9 {op} {t:TE} (h:PE X a t):PE X (.BoolOp op [a] pos) t:=fun pins s σ H Q I j=>BoolOp_one (h pins s σ H Q I j)
theorem Qsb (J:PE X a ta) (G:PE X (.BoolOp .And (b :: rest) pos) tb):PE X (.BoolOp .And (a :: b :: rest) pos) (Qux ta tb):=by
 intro pins s σ H Q I h;refine BoolOp_and (thn (J pins s σ H _ I h) fun v B ⟨x,H1,j,z,q1⟩=>?_)
 obtain ⟨c,rfl,q1⟩:=q1;cases z;refine az ?_;cases c with
 | true=>exact G pins B σ H1 Q j q1
 | false=>exact ⟨.bl false,H1,j,rfl,q1⟩
theorem Qve (J:PE X a ta) (G:PE X (.BoolOp .Or (b :: rest) pos) tb):PE X (.BoolOp .Or (a :: b :: rest) pos) (Qxx ta tb):=by
 intro pins s σ H Q I h;refine BoolOp_or (thn (J pins s σ H _ I h) fun v B ⟨x,H1,j,z,q1⟩=>?_)
 obtain ⟨c,rfl,q1⟩:=q1;cases z;refine az ?_;cases c with
 | false=>exact G pins B σ H1 Q j q1
 | true=>exact ⟨.bl true,H1,j,rfl,q1⟩
theorem Qsa (z:PE X a ta):PE X (.UnaryOp .Not a pos) (Qur ta):=by
 intro pins s σ H Q I h;refine UnaryOp_ (thn (z pins s σ H _ I h) fun v G ⟨x,H1,B,j,q1⟩=>?_)
 obtain ⟨c,rfl,q1⟩:=q1;cases j;exact not_of (az ⟨.bl (!c),H1,B,rfl,q1⟩)
end
def SqL (K:PySem.W.Frag) (H:Hp) (a:aA) (xs:List V):Prop:=
 Rd H a (.lst xs) \/
  ∃ (o:Obj) (its:Array aB) (n:Nat),K.lookup a=some o/\o.cls=.type "list" /\ o.dict=none/\o.data=.seq its n/\its.size<=sizeLine/\Vals xs its.toList
def SqT (K:PySem.W.Frag) (H:Hp) (a:aA) (xs:List V):Prop:=
 Rd H a (.tup xs) \/
  ∃ (o:Obj) (its:Array aB) (n:Nat),K.lookup a=some o/\o.cls=.type "tuple" /\ o.data=.seq its n/\its.size<=sizeLine/\Vals xs its.toList
def Qys:aB->Option V
 | .none=>some .non
 | .bool b=>some (.bl b)
 | .int i _=>some (.int i)
 | .str x _=>some (.str x)
 | .bytes b _=>some (.byt b)
 | .float b _=>some (.flt b)
 | .ref a=>some (.ref a)
 | .type n=>some (.ty n)
 | _=>none
theorem RelV.abs {x:V} {u:aB} (r:RelV x u):Qys u=some x:=by
 cases x with
 | non=>cases r; rfl
 | bl _=>cases r; rfl
 | int _=>obtain ⟨t,rfl⟩:=r; rfl
 | str _=>obtain ⟨t,rfl⟩:=r; rfl
 | byt _=>obtain ⟨t,rfl⟩:=r; rfl
 | flt _=>obtain ⟨t,rfl⟩:=r; rfl
 | ref _=>cases r; rfl
 | ty _=>cases r; rfl
theorem RelV.inj {x y:V} {u:aB} (r:RelV x u) (q:RelV y u):x=y:=Option.some.inj (r.abs.symm.trans q.abs)
theorem Vals.inj:∀ {xs ys:List V} {j:List aB},Vals xs j->Vals ys j->xs=ys
 | _,_,_,.nil,.nil=>rfl
 | _,_,_,.cons r t,.cons z t'=>by rw [r.inj z,Vals.inj t t']
section
variable {X:Cx} {pins:List (aA × Obj)} {σ:St} {H:Hp} {s:aC} {a:aA} {xs ys:List V}
theorem SqL.of {K:PySem.W.Frag} (h:H a=some (.lst xs)):SqL K H a xs:=.inl (.inl h)
theorem SqT.of {K:PySem.W.Frag} (h:H a=some (.tup xs)):SqT K H a xs:=.inl (.inl h)
theorem Inv.list (I:Inv X pins σ H s) (h:SqL X.K H a xs):∃ its:List aB,Vals xs its/\PlainL s.heap a its.toArray/\xs.length<=sizeLine:=by
 rcases h with h | ⟨o,its,n,B,j,hd,hs,G,r⟩
 ·obtain ⟨z,its,n,r,e⟩:=h.ok I.hok;exact ⟨its,r,⟨_,n,e,rfl,rfl,rfl⟩,z⟩
 ·refine ⟨its.toList,r,⟨o,n,I.kIn a o B,j,hd,by simpa using hs⟩,?_⟩;have e:=r.length;simp only [Array.length_toList] at e;omega
theorem Inv.tuple (I:Inv X pins σ H s) (h:SqT X.K H a xs):∃ its:List aB,Vals xs its/\IsTup s.heap a its.toArray/\xs.length<=sizeLine:=by
 rcases h with h | ⟨o,its,n,B,j,hs,G,r⟩
 ·obtain ⟨z,its,r,p⟩:=h.ok I.hok;exact ⟨its,r,p,z⟩
 ·refine ⟨its.toList,r,⟨o,I.kIn a o B,j,n,by simpa using hs⟩,?_⟩;have e:=r.length;simp only [Array.length_toList] at e;omega
theorem Inv.list_inj (I:Inv X pins σ H s) (h:SqL X.K H a xs) (h':SqL X.K H a ys):xs=ys:=by
 obtain ⟨its,r,⟨o,n,e,_,_,d⟩,_⟩:=I.list h;obtain ⟨its',z,⟨o',G,j,_,_,d'⟩,_⟩:=I.list h';rw [e] at j; cases j;rw [d] at d';injection d' with B _
 have:its=its':=by simpa using congrArg Array.toList B
 subst this;exact r.inj z
theorem Inv.tuple_inj (I:Inv X pins σ H s) (h:SqT X.K H a xs) (h':SqT X.K H a ys):xs=ys:=by
 obtain ⟨its,r,⟨o,e,_,n,d⟩,_⟩:=I.tuple h;obtain ⟨its',z,⟨o',j,_,G,d'⟩,_⟩:=I.tuple h';rw [e] at j; cases j;rw [d] at d';injection d' with B _
 have:its=its':=by simpa using congrArg Array.toList B
 subst this;exact r.inj z
end
abbrev Cx.wish (X:Cx) (E:aB->aC->Prop):Cx:={ X with xe:=E }
abbrev Cx.nox (X:Cx):Cx:=X.wish fun _ _=>False
theorem Cx.Ok.wish {X:Cx} (ok:X.Ok) (E:aB->aC->Prop):(X.wish E).Ok:=
 ⟨ok.mod,ok.kind,ok.glob,ok.blt,ok.above,ok.inj,ok.has,ok.cab,ok.hd,ok.frames,ok.stk,ok.exf,ok.bs,ok.bsz,ok.noex,ok.exfs,ok.funs,ok.frf⟩
theorem Cx.Ok.unwish {X:Cx} {E:aB->aC->Prop} (ok:(X.wish E).Ok):X.Ok:=
 ⟨ok.mod,ok.kind,ok.glob,ok.blt,ok.above,ok.inj,ok.has,ok.cab,ok.hd,ok.frames,ok.stk,ok.exf,ok.bs,ok.bsz,ok.noex,ok.exfs,ok.funs,ok.frf⟩
section
variable {X:Cx} {pins:List (aA × Obj)} {σ:St} {H:Hp} {s:aC} {E:aB->aC->Prop}
theorem Inv.wish (I:Inv X pins σ H s) (E:aB->aC->Prop):Inv (X.wish E) pins σ H s:=⟨I.ok.wish E,I.os,I.bare,I.base,I.loc,I.cell,I.free,I.freeC,I.pin,I.hok,I.len⟩
theorem Inv.unwish (I:Inv (X.wish E) pins σ H s):Inv X pins σ H s:=⟨I.ok.unwish,I.os,I.bare,I.base,I.loc,I.cell,I.free,I.freeC,I.pin,I.hok,I.len⟩
end
section
variable {X:Cx} {st:aJ} {rest:List aJ} {t u:TS} {e:aD} {te:TE} {pos:Pos}
def Qqr:TS:=fun D σ H=>D.nx σ H
def Qun (t u:TS):TS:=fun D σ H=>t { D with nx:=u D } σ H
theorem Q9s:PSs X [] Qqr:=fun _ _ σ H _ I h=>wpAny_execs_nil ⟨σ,H,I,h⟩
theorem xm (h1:PS X st t) (h2:PSs X rest u):PSs X (st :: rest) (Qun t u):=by
 intro pins s σ H D I h;refine wpAny_execs_cons (thn (h1 pins s σ H { D with nx:=u D } I h) fun f z q=>?_)
 cases f with
 | next=>
  obtain ⟨j,H',B,q⟩:=q;exact h2 pins z j H' D B q
 | ret v=>exact q
 | brk=>exact q
 | cont=>exact q
theorem Q23 (h1:PS X st t):PSs X [st] t:=by
 intro pins s σ H D I h;refine wpAny_execs_cons (thn (h1 pins s σ H D I h) fun f j q=>?_)
 cases f with
 | next=>exact wpAny_execs_nil q
 | ret v=>exact q
 | brk=>exact q
 | cont=>exact q
def Qrm:TS:=fun D σ H=>D.bk σ H
theorem Qjc:PS X (.Break pos) Qrm:=fun _ _ σ H _ I h=>wpAny_Break ⟨σ,H,I,h⟩
theorem Inv.quiet {pins:List (aA × Obj)} {σ:St} {H:Hp} {s:aC} (I:Inv X pins σ H s):interactive X.env=false:=by simp [interactive,I.ok.kind]
def Quv (te:TE):TS:=fun D σ H=>te σ H fun _ H1=>D.nx σ H1
theorem Qnr (j:PE X e te) (hs:swapsWith e none pos.line X.env=pure false:=by rfl):PS X (.Expr e pos) (Quv te):=by
 intro pins s σ H D I h;exact wpAny_Expr_any (thn (j pins s σ H _ I h) fun v G ⟨x,H1,z,B,q1⟩=>⟨σ,H1,z,q1⟩) I.quiet hs
def Qup (te:TE):TS:=fun D σ H=>te σ H D.rt
theorem Q9u (z:PE X e te):PS X (.Return (some e) pos) (Qup te):=by
 intro pins s σ H D I h;exact wpAny_Return_some (thn (z pins s σ H _ I h) fun v G ⟨x,H1,B,j,q1⟩=>⟨x,σ,H1,B,j,q1⟩)
def Quu (c:TT) (t u:TS):TS:=fun D σ H=>c σ H fun b H1=>if b=true then t D σ H1 else u D σ H1
theorem Qjb {c:aD} {a b:List aJ} {tc:TT} (G:PT X c tc) (J:PSs X a t) (B:PSs X b u):PS X (.If c a b pos) (Quu tc t u):=by
 intro pins s σ H D I h;refine wpAny_If (thn (G pins s σ H _ I h) fun d j ⟨H1,z,q1⟩=>?_)
 cases d with
 | true=>exact J pins j σ H1 D z q1
 | false=>exact B pins j σ H1 D z q1
end
abbrev TG:=V->St->Hp->(St->Hp->Prop)->Prop
abbrev TGs:=List V->St->Hp->(St->Hp->Prop)->Prop
def PG (X:Cx) (target:aD) (t:TG):Prop:=
 ∀ (pins:List (aA × Obj)) (s:aC) (σ:St) (H:Hp) (v:V) (u:aB) (Q:St->Hp->Prop),Inv X pins σ H s->RelV v u->t v σ H Q ->
  aH (aI X.prog X.w) X.A (assign target X.env u) (fun _ s'=>∃ σ' H',Inv X pins σ' H' s'/\Q σ' H') X.xe s
def PGs (X:Cx) (ts:List aD) (t:TGs):Prop:=
 ∀ (pins:List (aA × Obj)) (s:aC) (σ:St) (H:Hp) (vs:List V) (us:List aB) (Q:St->Hp->Prop),Inv X pins σ H s->Vals vs us->t vs σ H Q ->
  aH (aI X.prog X.w) X.A (assignInOrder ((ar ts X.env).map (·.2)) us) (fun _ s'=>∃ σ' H',Inv X pins σ' H' s'/\Q σ' H') X.xe s
abbrev Qty:=V->V->V->Hp->(Hp->Prop)->Prop
def Qwy (X:Cx) (t:Qty):Prop:=
 ∀ (pins:List (aA × Obj)) (s:aC) (σ:St) (H:Hp) (o i v:V) (ov iv u:aB) (Q:Hp->Prop),Inv X pins σ H s->RelV o ov->RelV i iv->RelV v u->t o i v H Q ->
  aH (aI X.prog X.w) X.A (setItem ov iv u) (fun _ s'=>∃ H',Inv X pins σ H' s'/\Q H') X.xe s
section
variable {X:Cx} {pos:Pos}
def Q8h (i:Nat):TG:=fun v σ H Q=>Q (σ.set i (some v)) H
theorem Qnz {i:Nat} {x:Str} (G:X.N.Nodup) (hi:X.N[i]?=some x) (z:Loc X.env.scope x) (j:X.fn x=true\/X.env.scope.names.lookup x=some .local:=by first | exact .inl rfl | exact .inr rfl | assumption):PG X (.Name x pos) (Q8h i):=by
 intro pins s σ H v u Q I r h;exact wpAny_assign_Name (Q52 I G hi z r (fun s' B=>⟨_,H,B,h⟩) j)
def Qwc:TGs:=fun vs σ H Q=>vs=[]/\Q σ H
def Qkh (t:TG) (u:TGs):TGs:=fun vs σ H Q=>∃ v r,vs=v :: r/\t v σ H fun σ' H'=>u r σ' H' Q
theorem Qny:PGs X [] Qwc:=by
 intro pins s σ H vs j Q I r h;obtain ⟨e,h⟩:=h;subst e;cases r;exact assignInOrder_nil ⟨σ,H,I,h⟩
theorem Qje {e:aD} {es:List aD} {t:TG} {u:TGs} (h1:PG X e t) (h2:PGs X es u)
  (hs:(ar (e :: es) X.env).map (·.2)=assign e X.env :: (ar es X.env).map (·.2):=by rfl):PGs X (e :: es) (Qkh t u):=by
 intro pins s σ H vs O Q I r h;obtain ⟨v,J,e1,h⟩:=h;subst e1;cases r with
 | cons r z=>
  rw [hs];refine assignInOrder_cons (thn (h1 pins s σ H _ _ _ I r h) fun _ B ⟨j,H1,G,q1⟩=>?_)
  exact h2 pins B j H1 _ _ Q G z q1
def Qwb (K:PySem.W.Frag) (n:Nat) (t:TGs):TG:=fun v σ H Q=>∃ a xs,v=.ref a/\SqT K H a xs/\xs.length=n/\t xs σ H Q
theorem Qs5 {es:List aD} {k:Nat} {t:TGs} {n:Nat} (G:X.calm=true) (h:PGs X es t)
  (Z:(ar es X.env).length=n:=by rfl) (j:(ar es X.env).findIdx? (·.1)=none:=by rfl):PG X (.Tuple es k pos) (Qwb X.K n t):=by
 intro pins s σ H v u Q I r z;obtain ⟨a,xs,e1,J,hl,z⟩:=z;subst e1;cases r;obtain ⟨its,B,Y,hz⟩:=I.tuple J;refine assign_Tuple_tuple (I.ok.hd G) Y (by simp [Z,<- hl,B.length]) j fun h' O=>?_
 have U:Inv X pins σ H { s with heap:=h' }:=I.kept (t':=s.toks) fun b o e=>O b o (E5 (O7 e)) e
 exact h pins _ σ H xs _ Q U (by simpa using B) z
def Qyn (to ti:TE) (t:Qty):TG:=fun v σ H Q=>to σ H fun o H1=>ti σ H1 fun i H2=>t o i v H2 fun H3=>Q σ H3
theorem Qs6 {o i:aD} {to B:TE} {t:Qty} (ho:PE X o to) (hi:PE X i B) (hs:Qwy X t)
  (ha:∀ v,assign (.Subscript o i pos) X.env v=(do
   let j <- bB [v] (aQ o X.env)
   let z <- bB [v,j] (aQ i X.env)
   standAt pos
   bB [v,j,z] (setItem j z v)
   release [v,j,z] []):=by intro _; rfl):PG X (.Subscript o i pos) (Qyn to B t):=by
 intro pins s σ H v u Q I r h;rw [ha];refine aF (au (thn (ho pins s σ H _ I h) fun j O ⟨x,H1,I1,G,q1⟩=>?_))
 refine aF (au (thn (hi pins O σ H1 _ I1 q1) fun z J ⟨y,H2,Z,U,q2⟩=>?_))
 refine aF (wpAny_standAt (aF (au (thn (hs pins J σ H2 x y v j z u _ Z G U r q2) fun _ s3 ⟨Y,I3,q3⟩=>?_))))
 exact wpAny_release ⟨σ,Y,I3,q3⟩
def Qmw (te:TE) (g:TG):TS:=fun D σ H=>te σ H fun x H1=>g x σ H1 D.nx
theorem Qs0 {tg e:aD} {te:TE} {g:TG} (B:PE X e te) (G:PG X tg g) (hs:swapsWithSole [tg] e pos.line X.env=pure false:=by rfl) (J:swappedStores [tg] e X.env=pure none:=by rfl)
  (h1:(ar [tg] X.env).map (·.2)=[assign tg X.env]:=by rfl):PS X (.Assign [tg] e pos) (Qmw te g):=by
 intro pins s σ H D I h;refine wpAny_Assign_stores (thn (B pins s σ H _ I h) fun v z ⟨x,H1,O,j,q1⟩=>?_) hs J
 rw [h1];exact thn (G pins z σ H1 x v _ O j q1) fun _ U q=>q
theorem Q9t {i:Nat} {x:Str} {e:aD} {te:TE} {pos':Pos} (U:X.N.Nodup) (hi:X.N[i]?=some x) (G:Loc X.env.scope x) (B:PE X e te) (hs:swapsWith e (some (.Name x pos')) pos.line X.env=pure false:=by rfl) (j:X.fn x=true\/X.env.scope.names.lookup x=some .local:=by first | exact .inl rfl | exact .inr rfl | assumption) :
  PS X (.Assign [.Name x pos'] e pos) (Qmw te (Q8h i)):=by
 intro pins s σ H D I h;refine wpAny_Assign_Name (thn (B pins s σ H _ I h) fun v Y ⟨y,H1,O,z,q1⟩=>?_) hs
 exact Q52 O U hi G z (fun Z J=>⟨_,H1,J,q1⟩) j
end
section
variable {X:Cx} {pos:Pos}
def Qrh (c:TT) (tb:TS):TS:=fun D σ H=>∃ W:Nat->St->Hp->Prop,(∃ m,W m σ H)/\∀ m σ H,W m σ H ->
 c σ H fun b H1=>if b=true then ∃ N:St->Hp->Prop,(∀ σ' H',N σ' H'->∃ m',m' < m/\W m' σ' H')/\tb { D with nx:=N,ct:=N,bk:=D.nx } σ H1 else D.nx σ H1
theorem Qja {c:aD} {body:List aJ} {tc:TT} {tb:TS} (hp:PassesOwn (aI X.prog X.w) X.A X.env X.xe) (hc:PT X c tc) (hb:PSs X body tb):PS X (.While c body [] pos) (Qrh tc tb):=by
 intro pins s σ H D I h;obtain ⟨W,⟨m0,w0⟩,turn⟩:=h;refine wpAny_While (codeAny_whileLoop (fun n s'=>∃ B H',Inv X pins B H' s'/\W n B H') ?_ m0 ⟨σ,H,I,w0⟩);rintro n s1 ⟨z,H1,I1,w1⟩;refine bE hp (thn (hc pins s1 z H1 _ I1 (turn n z H1 w1)) fun b s2 ⟨H2,I2,q2⟩=>?_)
 cases b with
 | true=>
  obtain ⟨N,hN,q2⟩:=q2;rw [bQ rfl];refine bE hp (thn (hb pins s2 z H2 _ I2 q2) fun f s3 q3=>?_)
  cases f with
  | next=>
   obtain ⟨j,G,U,Y⟩:=q3;obtain ⟨Z,J,O⟩:=hN j G Y;exact ⟨Z,J,j,G,U,O⟩
  | cont=>
   obtain ⟨j,G,U,Y⟩:=q3;obtain ⟨Z,J,O⟩:=hN j G Y;exact ⟨Z,J,j,G,U,O⟩
  | brk=>exact q3
  | ret v=>exact q3
 | false=>
  rw [bS D1];exact wpAny_execs_nil ⟨z,H2,I2,q2⟩
end
structure It where
 go:Nat->Hp->Prop
 yld:Nat->Hp->V->Hp->Prop
 stop:Nat->Hp->Prop
def Q74 (X:Cx) (pins:List (aA × Obj)) (H:Hp) (b:aA):Prop:=
 H b=none/\b≠X.env.locals/\b∉X.fs/\(b∈X.ex\/X.s₀.heap.objs.size<=b)/\(∀ x c,X.env.cells.lookup x=some c->c≠b)/\∀ p∈X.pn ++ pins,p.1≠b
theorem Inv.fpOk {X:Cx} {pins:List (aA × Obj)} {σ:St} {H H':Hp} {s:aC} {b:aA} (I:Inv X pins σ H s) (j:s.heap.objs.size<=b) (B:H' b=none):Q74 X pins H' b:=by
 refine ⟨B,Nat.ne_of_gt (D4 I.lt j),I.nofs j,.inr (F0 I.sz j),fun x c e z=>?_,fun p hp z=>?_⟩
 ·obtain ⟨v,q⟩:=I.cell x c e;exact absurd (D4 q.lt (by rw [z]; exact j)) (Nat.lt_irrefl _)
 ·exact absurd (D4 (O7 (I.pin p hp).1) (by rw [z]; exact j)) (Nat.lt_irrefl _)
structure Turn (P:aL) (w:aK) (K:PySem.W.Frag) (tg:aD) (J:It) (fp:List aA) (it:aA) (tn:Nat->Heap->Prop):Prop where
 mem:it∈fp
 obj:∀ i h,tn i h->∀ b∈fp,∃ o,h.get? b=some o/\∀ v,o.data≠.cell v
 keep:∀ i h h',tn i h->(∀ b∈fp,∀ o,h.get? b=some o->h'.get? b=some o)->tn i h'
 item:∀ (X:Cx),X.prog=P->X.w=w->X.K=K->X.calm=true->∀ (i:Nat) (pins:List (aA × Obj)) (s:aC) (σ:St) (H:Hp) (E:aB->aC->Prop),Inv X pins σ H s->(∀ b∈fp,Q74 X pins H b)->tn i s.heap->J.go i H ->
  aH (aI P w) X.A (aw (.ref it)) (fun r s1=>∃ u,r=some u /\
   aH (aI P w) X.A (letOwnedTupleGo tg (.ref it) u) (fun _ s2=>∃ x H',Inv X pins σ H' s2/\RelV x u/\J.yld i H x H'/\tn (i + 1) s2.heap/\∀ b∈fp,H' b=none) E s1) E s
 done:∀ (X:Cx),X.prog=P->X.w=w->X.K=K->X.calm=true->∀ (i:Nat) (pins:List (aA × Obj)) (s:aC) (σ:St) (H:Hp) (E:aB->aC->Prop),Inv X pins σ H s->(∀ b∈fp,Q74 X pins H b)->tn i s.heap->J.stop i H ->
  aH (aI P w) X.A (aw (.ref it)) (fun r s1=>r=none/\Inv X pins σ H s1) E s
 self:∀ (A:aN) (i:Nat) (s:aC) (Q:aB->aC->Prop) (E:aB->aC->Prop),tn i s.heap->Q (.ref it) s->aH (aI P w) A (pyIter (.ref it)) Q E s
abbrev TI:=St->Hp->(It->Hp->Prop)->Prop
def PIE (X:Cx) (pins:List (aA × Obj)) (σ:St) (tg:aD) (R:It->Hp->Prop) (itv:aB) (s2:aC):Prop:=
 ∃ (it:aA) (fp:List aA) (tn:Nat->Heap->Prop) (J:It) (H':Hp),itv=.ref it/\Inv X pins σ H' s2/\Turn X.prog X.w X.K tg J fp it tn/\tn 0 s2.heap/\(∀ b∈fp,Q74 X pins H' b)/\R J H'
def PI (X:Cx) (tg iter:aD) (wi:TI):Prop:=
 ∀ (pins:List (aA × Obj)) (s:aC) (σ:St) (H:Hp) (R:It->Hp->Prop),Inv X pins σ H s->wi σ H R ->
  aH (aI X.prog X.w) X.A (aQ iter X.env) (fun v s1=>aH (aI X.prog X.w) X.A (pyIter v) (PIE X pins σ tg R) X.xe s1) X.xe s
theorem Qkg {M:Model} {A:aN} {E:aB->aC->Prop} {s:aC} {tg:aD} {z:aA} {u:aB} {o:Obj} {n:String} {vs:Array aB} {Q:Unit->aC->Prop} (G:s.heap.get? z=some o) (B:o.cls=.type n) (hd:o.data=.fields vs)
  (I:["enumerate", "zip", "dict_itemiterator", "dict_reverseitemiterator", "odict_iterator", "itertools.zip_longest", "itertools.pairwise"].contains n=false) (j:Q () s):aH M A (letOwnedTupleGo tg (.ref z) u) Q E s:=by
 unfold letOwnedTupleGo;cases tg <;> first
  | exact aO j
  | (cases u <;> first
    | exact aO j
    | (refine aF (wpAny_load G ?_)
       rw [B,hd];show aH M A (if (["enumerate", "zip", "dict_itemiterator", "dict_reverseitemiterator", "odict_iterator", "itertools.zip_longest", "itertools.pairwise"].contains n && vs[0]? == some (aa _))=true then _ else _) Q E s;rw [bS (by intro h; rw [I,Bool.false_and] at h; cases h)];exact aO j))
def Itl (K:PySem.W.Frag) (a:aA):It:=
 ⟨fun i H=>∃ xs x,SqL K H a xs/\xs[i]?=some x,fun i H x H'=>H'=H/\∀ xs,SqL K H a xs->xs[i]?=some x,fun i H=>∃ xs,SqL K H a xs/\xs.length<=i⟩
def Itt (K:PySem.W.Frag) (a:aA):It:=
 ⟨fun i H=>∃ xs x,SqT K H a xs/\xs[i]?=some x,fun i H x H'=>H'=H/\∀ xs,SqT K H a xs->xs[i]?=some x,fun i H=>∃ xs,SqT K H a xs/\xs.length<=i⟩
def Itr (lo:Int) (n:Nat):It:=⟨fun i _=>i < n,fun i H x H'=>H'=H/\x=.int (lo + i),fun i _=>n<=i⟩
theorem Qg6 {P:aL} {w:aK} {K:PySem.W.Frag} {tg:aD} (a B:aA):Turn P w K tg (Itl K a) [B] B (fun i h=>h.IsListIter B a i) where
 mem:=by simp
 obj:=fun i h st b j=>by
  have e:b=B:=by simpa using j
  subst e;obtain ⟨o,e,c,d⟩:=st;exact ⟨o,e,fun v z=>by rw [d] at z; cases z⟩
 keep:=fun i h h' st k=>st.at fun o e=>k B (by simp) o e
 item:=by
  intro X Z hw hK hc i pins s σ H E I G st O;subst Z hw hK;obtain ⟨xs,x,J,U⟩:=O;obtain ⟨its,rv,p,hz⟩:=I.list J;obtain ⟨u,hu,ru⟩:=rv.get U;obtain ⟨f0,f1,f2,Y,f4,f5⟩:=G B (by simp);refine wpAny_pyNext_list_item st p.isList (x:=u) (by simpa using hu) fun h' st' sb=>?_
  have I1:Inv X pins σ H { s with heap:=h' }:=I.turned (t':=s.toks) (fun b o j e=>(sb.2 b j).trans e) f0 f1 Y f4 f5
  obtain ⟨o,e,c,d⟩:=id st';exact ⟨u,rfl,Qkg (s:={ s with heap:=h' }) e c d (by decide) ⟨x,H,I1,ru,⟨rfl,fun ys hy=>by rw [I.list_inj hy J]; exact U⟩,st',fun b j=>(G b j).1⟩⟩
 done:=by
  intro X Z hw hK hc i pins s σ H E I G st O;subst Z hw hK;obtain ⟨xs,J,U⟩:=O;obtain ⟨its,rv,p,hz⟩:=I.list J;obtain ⟨f0,f1,f2,Y,f4,f5⟩:=G B (by simp);have hl:=rv.length;exact wpAny_pyNext_list_end (I.ok.hd hc) st p.isList (by simp; omega) fun h' eb=>⟨rfl,I.turned (t':=s.toks) (fun b o j e=>eb b o j e) f0 f1 Y f4 f5⟩
 self:=fun _ _ _ _ _ st h=>wpAny_pyIter_listiter st h
theorem Qd6 {P:aL} {w:aK} {K:PySem.W.Frag} {tg:aD} (a B:aA):Turn P w K tg (Itt K a) [B] B (fun i h=>h.IsTupleIter B a i) where
 mem:=by simp
 obj:=fun i h st b j=>by
  have e:b=B:=by simpa using j
  subst e;obtain ⟨o,e,c,d⟩:=st;exact ⟨o,e,fun v z=>by rw [d] at z; cases z⟩
 keep:=fun i h h' st k=>st.at fun o e=>k B (by simp) o e
 item:=by
  intro X Z hw hK hc i pins s σ H E I G st O;subst Z hw hK;obtain ⟨xs,x,J,U⟩:=O;obtain ⟨its,rv,p,hz⟩:=I.tuple J;obtain ⟨u,hu,ru⟩:=rv.get U;obtain ⟨f0,f1,f2,Y,f4,f5⟩:=G B (by simp);refine wpAny_pyNext_tuple_item st (show s.heap.IsTuple a its.toArray from p) (x:=u) (by simpa using hu) fun h' st' sb=>?_
  have I1:Inv X pins σ H { s with heap:=h' }:=I.turned (t':=s.toks) (fun b o j e=>(sb.2 b j).trans e) f0 f1 Y f4 f5
  obtain ⟨o,e,c,d⟩:=id st';exact ⟨u,rfl,Qkg (s:={ s with heap:=h' }) e c d (by decide) ⟨x,H,I1,ru,⟨rfl,fun ys hy=>by rw [I.tuple_inj hy J]; exact U⟩,st',fun b j=>(G b j).1⟩⟩
 done:=by
  intro X Z hw hK hc i pins s σ H E I G st O;subst Z hw hK;obtain ⟨xs,J,U⟩:=O;obtain ⟨its,rv,p,hz⟩:=I.tuple J;obtain ⟨f0,f1,f2,Y,f4,f5⟩:=G B (by simp);have hl:=rv.length;exact wpAny_pyNext_tuple_end (I.ok.hd hc) st (show s.heap.IsTuple a its.toArray from p) (by simp; omega) fun h' eb=>⟨rfl,I.turned (t':=s.toks) (fun b o j e=>eb b o j e) f0 f1 Y f4 f5⟩
 self:=fun _ _ _ _ _ st h=>wpAny_pyIter_tupleiter st h
theorem Qd7 {P:aL} {w:aK} {K:PySem.W.Frag} {tg:aD} (j:aA) (lo:Int) (n:Nat):Turn P w K tg (Itr lo n) [j] j (fun i h=>IsRangeIter h j (lo + (i:Nat) * 1) ((n:Int) - (i:Nat)) 1) where
 mem:=by simp
 obj:=fun i h st b B=>by
  have e:b=j:=by simpa using B
  subst e;exact ⟨_,st,fun v z=>by
   have z':Data.fields _=Data.cell v:=z;cases z'⟩
 keep:=fun i h h' st k=>k j (by simp) _ st
 item:=by
  intro X U Y hK hc i pins s σ H E I G st J;subst U Y hK;obtain ⟨f0,f1,f2,O,f4,Z⟩:=G j (by simp);have W:=Walks.range (prog:=X.prog) (w:=X.w) (I.ok.hd hc) j lo 1 n;refine W.item i s _ _ J st fun v h' tk hv st' kk=>?_
  obtain ⟨t,rfl⟩:=hv;have I1:Inv X pins σ H { s with heap:=h',toks:=tk }:=I.turned (fun b o B e=>kk b o (by simpa using B) e) f0 f1 O f4 Z
  refine ⟨_,rfl,Qkg (s:={ s with heap:=h',toks:=tk }) (n := "range_iterator") st' rfl rfl (by decide) ⟨.int (lo + i),H,I1,⟨t,?_⟩,⟨rfl,rfl⟩,st',fun b B=>(G b B).1⟩⟩
  rw [Int.mul_one]
 done:=by
  intro X U Y hK hc i pins s σ H E I G st J;subst U Y hK;obtain ⟨f0,f1,f2,O,f4,Z⟩:=G j (by simp);exact wpAny_pyNext_range_end (I.ok.hd hc) st (by have:n<=i:=J; omega) fun h' eb=>⟨rfl,I.turned (t':=s.toks) (fun b o B e=>eb b o B e) f0 f1 O f4 Z⟩
 self:=fun _ _ _ _ _ st h=>wpAny_pyIter_rangeiter st h
section
variable {X:Cx} {tg:aD}
def Qw6 (K:PySem.W.Frag) (tl:TE):TI:=fun σ H R=>tl σ H fun x H1=>∃ a,x=.ref a/\(∃ xs,SqL K H1 a xs)/\R (Itl K a) H1
def Qym (K:PySem.W.Frag) (tl:TE):TI:=fun σ H R=>tl σ H fun x H1=>∃ a,x=.ref a/\(∃ xs,SqT K H1 a xs)/\R (Itt K a) H1
theorem Qnx {l:aD} {tl:TE} (hl:PE X l tl):PI X tg l (Qw6 X.K tl):=by
 intro pins s σ H R I h;refine thn (hl pins s σ H _ I h) fun v j ⟨x,H1,z,B,q1⟩=>?_
 obtain ⟨a,e,⟨xs,J⟩,q⟩:=q1;subst e;cases B;obtain ⟨its,U,p,O⟩:=z.list J;refine wpAny_pyIter_list p.isList ?_;refine ⟨j.heap.objs.size,[j.heap.objs.size],_,_,H1,rfl,z.kept (t':=j.toks) fun b o e=>O1 _ e,Qg6 a _,⟨_,D0 _ rfl,rfl,rfl⟩,fun b G=>?_,q⟩
 have e:b=j.heap.objs.size:=by simpa using G
 subst e;exact z.fpOk (O6 _) (z.hok.fresh (O6 _))
theorem Qs3 {l:aD} {tl:TE} (hl:PE X l tl):PI X tg l (Qym X.K tl):=by
 intro pins s σ H R I h;refine thn (hl pins s σ H _ I h) fun v j ⟨x,H1,z,B,q1⟩=>?_
 obtain ⟨a,e,⟨xs,J⟩,q⟩:=q1;subst e;cases B;obtain ⟨its,U,p,O⟩:=z.tuple J;refine bN (show j.heap.IsTuple a its.toArray from p) ?_;refine ⟨j.heap.objs.size,[j.heap.objs.size],_,_,H1,rfl,z.kept (t':=j.toks) fun b o e=>O1 _ e,Qd6 a _,⟨_,D0 _ rfl,rfl,rfl⟩,fun b G=>?_,q⟩
 have e:b=j.heap.objs.size:=by simpa using G
 subst e;exact z.fpOk (O6 _) (z.hok.fresh (O6 _))
theorem Qj3 {pins:List (aA × Obj)} {σ:St} {H:Hp} {s:aC} {R:It->Hp->Prop} {E:aB->aC->Prop} {lo hi:Int} {t u v:Tok} {tk:Nat} (I:Inv X pins σ H s) (h1:-(2 ^ 62)<=lo) (h2:lo < 2 ^ 62) (z:-(2 ^ 62)<=hi) (G:hi < 2 ^ 62)
  (q:R (Itr lo (hi - lo).toNat) H):aH (aI X.prog X.w) X.A (pyIter (.ref s.heap.objs.size)) (PIE X pins σ tg R) E { s with heap:=s.heap.push { cls:=.type "range",data:=.fields #[.int lo t,.int hi u,.int 1 v] },toks:=tk }:=by
 refine wpAny_pyIter_range (IsRange.new ..) (small_one h1 h2 z G) ?_;have j:Inv X pins σ H { s with heap:=s.heap.push { cls:=.type "range",data:=.fields #[.int lo t,.int hi u,.int 1 v] },toks:=tk }:=I.kept fun b o e=>O1 _ e
 refine ⟨(s.heap.push { cls:=.type "range",data:=.fields #[.int lo t,.int hi u,.int 1 v] }).objs.size,[(s.heap.push { cls:=.type "range",data:=.fields #[.int lo t,.int hi u,.int 1 v] }).objs.size],_,_,H,rfl,
  j.kept (t':=tk) fun b o e=>O1 _ e,Qd7 _ lo (hi - lo).toNat,?_,fun b B=>?_,q⟩
 ·have e1:lo + ((0:Nat):Int) * 1=lo:=by simp
  have e2:(((hi - lo).toNat:Nat):Int) - ((0:Nat):Int)=Builtin.Range.rangeSize lo hi 1:=by rw [rangeSize_one]; split <;> omega
  show IsRangeIter _ _ (lo + ((0:Nat):Int) * 1) ((((hi - lo).toNat:Nat):Int) - ((0:Nat):Int)) 1;rw [e1,e2];exact D0 _ rfl
 ·have e:b=(s.heap.push { cls:=.type "range",data:=.fields #[.int lo t,.int hi u,.int 1 v] }).objs.size:=by simpa using B
  subst e;exact j.fpOk (O6 _) (j.hok.fresh (O6 _))
def Qw5 (ta:TA):TI:=fun σ H R=>ta σ H fun vs H1=>∃ j:Int,vs=[.int j]/\-(2 ^ 62)<=j/\j < 2 ^ 62/\R (Itr 0 j.toNat) H1
theorem Qgp {a:aD} {ta:TA} {p pos:Pos} (G:Gl X "range") (J:X.mg "range" = none) (O:PA X [a] ta) (hs:aP [a] X.env=[(false,aQ a X.env)]:=by rfl):PI X tg (.Call (.Name "range" p) [a] [] pos) (Qw5 ta):=by
 intro pins s σ H R I h;refine Call_ (Q67 I G J boot_range (PyProof.Rows.callWith_type1 (thn (O pos pins s σ H _ I h) fun Z Y ⟨vs,H1,U,B,q1⟩=>?_) hs rfl))
 obtain ⟨j,e,q1,q2,q⟩:=q1;subst e;cases B with
 | cons r z=>
  cases z;obtain ⟨t,rfl⟩:=r;exact call_range_1 (Qj3 U (by omega) (by omega) q1 q2 (by simpa using q))
def Qxz (wi:TI) (g:TG) (tb:TS):TS:=fun D σ H=>wi σ H fun J H1=>∃ W:Nat->Nat->St->Hp->Prop,(∃ m,W 0 m σ H1)/\∀ i m σ H,W i m σ H ->
 (J.stop i H/\D.nx σ H)\/(J.go i H/\∃ N:St->Hp->Prop,(∀ σ' H',N σ' H'->∃ m',m' < m/\W (i + 1) m' σ' H')/\∀ x H',J.yld i H x H'->g x σ H' fun σ2 H2=>tb { D with nx:=N,ct:=N,bk:=D.nx } σ2 H2)
def Q5e (fp:List aA) (h:Heap):List (aA × Obj):=fp.filterMap fun b=>(h.get? b).map fun o=>(b,o)
theorem Xv {j:List aA} {h:Heap} {b:aA} {o:Obj} (z:b∈j) (e:h.get? b=some o):(b,o)∈Q5e j h:=List.mem_filterMap.mpr ⟨b,z,by rw [e]; rfl⟩
theorem Qgu {j:List aA} {h:Heap} {p:aA × Obj} (hp:p∈Q5e j h):p.1∈j/\h.get? p.1=some p.2:=by
 obtain ⟨b,z,e⟩:=List.mem_filterMap.mp hp;cases q:h.get? b with
 | none=>rw [q] at e; cases e
 | some o=>
  rw [q] at e;have B:(b,o)=p:=Option.some.inj e;subst B;exact ⟨z,q⟩
theorem Inv.pinned {pins:List (aA × Obj)} {σ:St} {H:Hp} {s:aC} {j:List aA} (I:Inv X pins σ H s) (J:∀ b∈j,Q74 X pins H b) (Z:∀ b∈j,∃ o,s.heap.get? b=some o/\∀ v,o.data≠.cell v):Inv X (pins ++ Q5e j s.heap) σ H s:=
 I.pins_of fun p hp=>(E4.mp hp).elim (fun z=>I.pin p (E6 _ z)) fun z=>by
  obtain ⟨B,e⟩:=Qgu z;obtain ⟨O,U,Y,_⟩:=J p.1 B;obtain ⟨o,G,d⟩:=Z p.1 B;rw [e] at G; cases G;exact ⟨e,O,U,Y,d⟩
theorem Inv.unpinned {pins j:List (aA × Obj)} {σ:St} {H:Hp} {s:aC} (I:Inv X (pins ++ j) σ H s):Inv X pins σ H s:=I.pins_of fun p hp=>I.pin p (E6 _ (F6 _ hp))
theorem Qrz {iter:aD} {body:List aJ} {wi:TI} {g:TG} {tb:TS} {pos:Pos} (hp:PassesOwn (aI X.prog X.w) X.A X.env X.xe) (hc:X.calm=true) (hi:PI X tg iter wi) (hg:PG X tg g) (z:PSs X body tb)
  (hs:∀ x,bC iter X.env x=pure x:=by intro _; rfl):PS X (.For tg iter body [] pos) (Qxz wi g tb):=by
 intro pins s σ H D I h;refine wpAny_For (thn (hi pins s σ H _ I h) fun v s1 h1=>thn h1 fun a8 s2 h2=>?_) hs
 obtain ⟨it,fp,tn,J,H2,e,I2,T,a6,f2,W,⟨m0,w0⟩,turn⟩:=h2;subst e;have O:∀ {H':Hp},(∀ b∈fp,H' b=none)->∀ b∈fp,Q74 X pins H' b:=fun hn b z=>⟨hn b z,(f2 b z).2⟩
 refine codeAny_forLoop_any (fun n s'=>∃ i B H',Inv X pins B H' s'/\tn i s'.heap/\(∀ b∈fp,H' b=none)/\W i n B H') ?_ m0 ⟨0,σ,H2,I2,a6,fun b z=>(f2 b z).1,w0⟩
 rintro n s3 ⟨i,Y,H3,I3,a2,a3,w3⟩;rcases turn i n Y H3 w3 with ⟨stop,qn⟩ | ⟨go,N,hN,step⟩
 ·refine bE hp (thn (T.done X rfl rfl rfl hc i pins s3 Y H3 X.xe I3 (O a3) a2 stop) fun r s4 ⟨hr,I4⟩=>?_)
  subst hr;exact wpAny_execs_nil ⟨Y,H3,I4,qn⟩
 ·refine bE hp (thn (T.item X rfl rfl rfl hc i pins s3 Y H3 X.xe I3 (O a3) a2 go) fun r s4 ⟨u,hr,h4⟩=>?_)
  subst hr;refine bE hp (thn h4 fun _ s5 ⟨x,H5,I5,r5,y5,a1,a5⟩=>?_);have a7:=I5.pinned (O a5) (T.obj _ _ a1);refine bE hp (thn (hg _ s5 Y H5 x u _ a7 r5 (step x H5 y5)) fun _ s6 ⟨a4,H6,I6,q6⟩=>?_)
  refine bE hp (thn (z _ s6 a4 H6 _ I6 q6) fun f s7 Z=>?_)
  have again:∀ {j:St} {U:Hp},Inv X (pins ++ Q5e fp s5.heap) j U s7->N j U->∃ m,m < n/\∃ i B H',Inv X pins B H' s7/\tn i s7.heap/\(∀ b∈fp,H' b=none)/\W i m B H':=fun {j U} G n7=>by
   obtain ⟨m',hm,w7⟩:=hN j U n7;refine ⟨m',hm,i + 1,j,U,G.unpinned,T.keep _ _ _ a1 fun b z o e=>(G.pin (b,o) (E6 _ (E6 _ (Xv z e)))).1,fun b z=>?_,w7⟩;obtain ⟨o,e,d⟩:=T.obj _ _ a1 b z;exact (G.pin (b,o) (E6 _ (E6 _ (Xv z e)))).2.1
  cases f with
  | next=>obtain ⟨j,U,G,n7⟩:=Z; exact again G n7
  | cont=>obtain ⟨j,U,G,n7⟩:=Z; exact again G n7
  | brk=>obtain ⟨j,U,G,Z⟩:=Z; exact ⟨j,U,G.unpinned,Z⟩
  | ret v=>obtain ⟨x7,j,U,G,r7,Z⟩:=Z; exact ⟨x7,j,U,G.unpinned,r7,Z⟩
end
abbrev R2:=V->V->Hp->VK->Prop
def OpR (X:Cx) (f:aB->aB->Sem aB) (r:R2):Prop:=
 ∀ (pins:List (aA × Obj)) (s:aC) (σ:St) (H:Hp) (x y:V) (v u:aB) (Q:VK),Inv X pins σ H s->RelV x v->RelV y u->r x y H Q ->
  aH (aI X.prog X.w) X.A (f v u) (EP X pins σ Q) X.xe s
def UnR (X:Cx) (f:aB->Sem aB) (r:V->Hp->VK->Prop):Prop:=
 ∀ (pins:List (aA × Obj)) (s:aC) (σ:St) (H:Hp) (x:V) (v:aB) (Q:VK),Inv X pins σ H s->RelV x v->r x H Q ->
  aH (aI X.prog X.w) X.A (f v) (EP X pins σ Q) X.xe s
def Ur (X:Cx) (f:aB) (r:List V->Hp->VK->Prop):Prop:=
 ∀ (pins:List (aA × Obj)) (s:aC) (σ:St) (H:Hp) (xs:List V) (us:List aB) (Q:VK),Inv X pins σ H s->Vals xs us->r xs H Q ->
  aH (aI X.prog X.w) X.A (call f us) (EP X pins σ Q) X.xe s
def tOp (r:R2) (ta tb:TE):TE:=fun σ H Q=>ta σ H fun x H1=>tb σ H1 fun y H2=>r x y H2 Q
def tUn (r:V->Hp->VK->Prop) (ta:TE):TE:=fun σ H Q=>ta σ H fun x H1=>r x H1 Q
def rI (C:Int->Int->Prop) (g:Int->Int->V):R2:=fun x y H Q=>∃ i j,x=.int i/\y=.int j/\C i j/\Q (g i j) H
def rI0 (g:Int->Int->V):R2:=fun x y H Q=>∃ i j,x=.int i/\y=.int j/\Q (g i j) H
def rU (g:Int->V):V->Hp->VK->Prop:=fun x H Q=>∃ i,x=.int i/\Q (g i) H
section
variable {X:Cx} {a b c:aD} {ta tb tc:TE} {pos:Pos}
theorem Qtv (ha:PE X a ta) (U:PE X b tb) {pins:List (aA × Obj)} {s:aC} {σ:St} {H:Hp} {R:V->V->Hp->Prop} (I:Inv X pins σ H s)
  (h:ta σ H fun x H1=>tb σ H1 fun y H2=>R x y H2) {Q:aB->aC->Prop} {f:aB->aB->Sem aB}
  (G:∀ v u B x y H2,Inv X pins σ H2 B->RelV x v->RelV y u->R x y H2->aH (aI X.prog X.w) X.A (f v u) Q X.xe B) :
  aH (aI X.prog X.w) X.A (aQ a X.env) (fun v j=>aH (aI X.prog X.w) X.A (aQ b X.env) (fun u z=>aH (aI X.prog X.w) X.A (f v u) Q X.xe z) X.xe j) X.xe s:=by
 refine thn (ha pins s σ H _ I h) fun v O ⟨x,H1,I1,J,q1⟩=>?_
 refine thn (U pins O σ H1 _ I1 q1) fun u B ⟨y,H2,Z,Y,q2⟩=>?_
 exact G v u B x y H2 Z J Y q2
theorem Qr0 {op:Operator} {r:R2} (U:OpR X (aV op) r) (J:PE X a ta) (z:PE X b tb):PE X (.BinOp a op b pos) (tOp r ta tb):=by
 intro pins s σ H Q I h;exact wpAny_BinOp (Qtv J z I h fun v u j x y H2 G B O q=>U pins j σ H2 x y v u Q G B O q)
theorem Qvd {op:UnaryOp} {r:V->Hp->VK->Prop} (G:UnR X (unaryOp op) r) (B:PE X a ta):PE X (.UnaryOp op a pos) (tUn r ta):=by
 intro pins s σ H Q I h;exact UnaryOp_ (thn (B pins s σ H _ I h) fun v z ⟨x,H1,J,j,q1⟩=>G pins z σ H1 x v Q J j q1)
theorem opI {f:aB->aB->Sem aB} {C:Int->Int->Prop} {g:Int->Int->Int}
  (rule:∀ (i j:Int) (t u:Tok) (s:aC) (Q:aB->aC->Prop) (E:aB->aC->Prop),C i j->Q (.int (g i j) s.toks) { s with toks:=s.toks + 1 }->aH (aI X.prog X.w) X.A (f (.int i t) (.int j u)) Q E s) :
  OpR X f (rI C fun i j=>.int (g i j)):=by
 intro pins s σ H x y v u Q I B G h;obtain ⟨i,j,rfl,rfl,z,q⟩:=h;obtain ⟨t,rfl⟩:=B;obtain ⟨t',rfl⟩:=G;exact rule i j t t' s _ _ z ⟨.int (g i j),H,I.tok _,⟨_,rfl⟩,q⟩
theorem Qvk {f:aB->aB->Sem aB} {g:Int->Int->Int}
  (rule:∀ (i j:Int) (t u:Tok) (s:aC) (Q:aB->aC->Prop) (E:aB->aC->Prop),Q (.int (g i j) s.toks) { s with toks:=s.toks + 1 }->aH (aI X.prog X.w) X.A (f (.int i t) (.int j u)) Q E s) :
  OpR X f (rI0 fun i j=>.int (g i j)):=by
 intro pins s σ H x y v u Q I z B h;obtain ⟨i,j,rfl,rfl,q⟩:=h;obtain ⟨t,rfl⟩:=z;obtain ⟨t',rfl⟩:=B;exact rule i j t t' s _ _ ⟨.int (g i j),H,I.tok _,⟨_,rfl⟩,q⟩
theorem Qp6 {f:aB->aB->Sem aB} {g:Int->Int->Bool}
  (rule:∀ (i j:Int) (t u:Tok) (s:aC) (Q:aB->aC->Prop) (E:aB->aC->Prop),Q (.bool (g i j)) s->aH (aI X.prog X.w) X.A (f (.int i t) (.int j u)) Q E s) :
  OpR X f (rI0 fun i j=>.bl (g i j)):=by
 intro pins s σ H x y v u Q I z B h;obtain ⟨i,j,rfl,rfl,q⟩:=h;obtain ⟨t,rfl⟩:=z;obtain ⟨t',rfl⟩:=B;exact rule i j t t' s _ _ ⟨.bl (g i j),H,I,rfl,q⟩
def Qyu (i j:Int):Prop:=0<=j/\j<=1000000/\i.natAbs < 2 ^ 64
def CMul (i j:Int):Prop:=(-(2 ^ 64) < i/\i < 2 ^ 64)\/(-(2 ^ 64) < j/\j < 2 ^ 64)
theorem CMul.ok {i j:Int} (h:CMul i j):IntMulOk i j:=by
 rcases h with ⟨h1,h2⟩ | ⟨h1,h2⟩
 ·exact .of_left (intBits_le_64 h1 h2)
 ·exact .of_right (intBits_le_64 h1 h2)
theorem Qsk:OpR X (aV .Add) (rI0 fun i j=>.int (i + j)):=Qvk fun _ _ _ _ _ _ _ q=>add_int q
theorem Qsd:OpR X (aV .Sub) (rI0 fun i j=>.int (i - j)):=Qvk fun _ _ _ _ _ _ _ q=>sub_int q
theorem Qsg:OpR X (aV .Mult) (rI CMul fun i j=>.int (i * j)):=opI fun _ _ _ _ _ _ _ z q=>mul_int q z.ok
theorem Qsh:OpR X (aV .Mod) (rI (fun _ j=>0 < j) fun i j=>.int (i % j)):=opI fun i j _ _ _ _ _ z q=>by
 have h1:(0:Int) < j:=z;exact mod_int' (by omega) (by rw [Int.fmod_eq_emod_of_nonneg i (by omega)]; exact q)
theorem Qsf:OpR X (aV .Pow) (rI Qyu fun i j=>.int (i ^ j.toNat)):=opI fun _ _ _ _ _ _ _ z q=>pow_int_small z.1 z.2.1 z.2.2 q
theorem unI {f:aB->Sem aB} {g:Int->Int}
  (rule:∀ (i:Int) (t:Tok) (s:aC) (Q:aB->aC->Prop) (E:aB->aC->Prop),Q (.int (g i) s.toks) { s with toks:=s.toks + 1 }->aH (aI X.prog X.w) X.A (f (.int i t)) Q E s) :
  UnR X f (rU fun i=>.int (g i)):=by
 intro pins s σ H x v Q I j h;obtain ⟨i,rfl,q⟩:=h;obtain ⟨t,rfl⟩:=j;exact rule i t s _ _ ⟨.int (g i),H,I.tok _,⟨_,rfl⟩,q⟩
theorem Qrd:UnR X (unaryOp .USub) (rU fun i=>.int (-i)):=unI fun _ _ _ _ _ q=>neg_int q
end
def Qy1:V->V->Bool
 | .non,.non=>true | .non,.int _=>true | .int _,.non=>true | .non,.bl _=>true | .bl _,.non=>true | .non,.str _=>true | .str _,.non=>true
 | .int _,.int _=>true | .bl _,.bl _=>true | .str _,.str _=>true | .byt _,.byt _=>true
 | .int _,.str _=>true | .str _,.int _=>true | .bl _,.str _=>true | .str _,.bl _=>true
 | _,_=>false
def rNe:R2:=fun x y H Q=>Qy1 x y=true/\Q (.bl (!decide (x=y))) H
theorem Qq8 {i j:Int}:decide (V.int i=V.int j)=(i == j):=by
 rw [Bool.eq_iff_iff];simp
theorem Qtf {i j:Bool}:decide (V.bl i=V.bl j)=(i == j):=by
 rw [Bool.eq_iff_iff];simp
theorem Qq7 {i j:Str}:decide (V.str i=V.str j)=(i == j):=by
 rw [Bool.eq_iff_iff];simp
theorem Qq9 {i j:Array UInt8}:decide (V.byt i=V.byt j)=(i.toList == j.toList):=by
 rw [Bool.eq_iff_iff];cases i;cases j;simp
section
variable {X:Cx} {a b c:aD} {ta tb tc:TE} {pos:Pos}
theorem Yg {pins:List (aA × Obj)} {σ:St} {H:Hp} {s:aC} {Q:VK} {k j:Bool} (I:Inv X pins σ H s) (q:Q (.bl k) H) (e:k=j):EP X pins σ Q (.bool j) s:=by
 subst e;exact ⟨.bl k,H,I,rfl,q⟩
theorem Qvf:OpR X (aS .NotEq) rNe:=by
 intro pins s σ H x y v u Q I B z h;obtain ⟨hs,q⟩:=h;cases x with
 | non=>
  cases B;cases y with
  | non=>cases z; exact PySem.EqNone.ne_none_none (Yg I q (by simp))
  | bl j=>cases z; exact PySem.EqNone.ne_none_bool (Yg I q (by simp))
  | int j=>obtain ⟨t',rfl⟩:=z; exact PySem.EqNone.ne_none_int (Yg I q (by simp))
  | str j=>obtain ⟨t',rfl⟩:=z; exact PySem.EqNone.ne_none_str (Yg I q (by simp))
  | _=>exact absurd (show false=true from hs) D1
 | bl i=>
  cases B;cases y with
  | non=>cases z; exact PySem.EqNone.ne_bool_none (Yg I q (by simp))
  | bl j=>cases z; exact ne_bool (Yg I q (congrArg not Qtf))
  | str j=>obtain ⟨t',rfl⟩:=z; exact PySem.EqMixed.ne_bool_str (Yg I q (by simp))
  | _=>exact absurd (show false=true from hs) D1
 | int i=>
  obtain ⟨t,rfl⟩:=B;cases y with
  | non=>cases z; exact PySem.EqNone.ne_int_none (Yg I q (by simp))
  | int j=>obtain ⟨t',rfl⟩:=z; exact ne_int (Yg I q (congrArg not Qq8))
  | str j=>obtain ⟨t',rfl⟩:=z; exact PySem.EqMixed.ne_int_str (Yg I q (by simp))
  | _=>exact absurd (show false=true from hs) D1
 | str i=>
  obtain ⟨t,rfl⟩:=B;cases y with
  | non=>cases z; exact PySem.EqNone.ne_str_none (Yg I q (by simp))
  | bl j=>cases z; exact PySem.EqMixed.ne_str_bool (Yg I q (by simp))
  | int j=>obtain ⟨t',rfl⟩:=z; exact PySem.EqMixed.ne_str_int (Yg I q (by simp))
  | str j=>obtain ⟨t',rfl⟩:=z; exact ne_str (Yg I q (congrArg not Qq7))
  | _=>exact absurd (show false=true from hs) D1
 | byt i=>
  obtain ⟨t,rfl⟩:=B;cases y with
  | byt j=>obtain ⟨t',rfl⟩:=z; exact PySem.W.ne_bytes (Yg I q (congrArg not Qq9))
  | _=>exact absurd (show false=true from hs) D1
 | _=>cases y <;> exact absurd (show false=true from hs) D1
theorem Qvg:OpR X (aS .Lt) (rI0 fun i j=>.bl (decide (i < j))):=Qp6 fun _ _ _ _ _ _ _ q=>lt_int q
theorem Qvh:OpR X (aS .LtE) (rI0 fun i j=>.bl (decide (i<=j))):=Qp6 fun _ _ _ _ _ _ _ q=>le_int q
theorem Qvi:OpR X (aS .Gt) (rI0 fun i j=>.bl (decide (j < i))):=Qp6 fun _ _ _ _ _ _ _ q=>gt_int q
theorem Qvj:OpR X (aS .GtE) (rI0 fun i j=>.bl (decide (j<=i))):=Qp6 fun _ _ _ _ _ _ _ q=>ge_int q
theorem Qsj:OpR X (aS .Is) (fun x y H Q=>y=.non/\Q (.bl (decide (x=.non))) H):=by
 intro pins s σ H x y v u Q I j z h;obtain ⟨rfl,q⟩:=h;cases z;refine is_none_gen (Yg I q ?_);cases x <;> first
  | (cases j; rfl)
  | (obtain ⟨t,rfl⟩:=j; rfl)
theorem Qp4:OpR X (aS .IsNot) (fun x y H Q=>y=.non/\Q (.bl (!decide (x=.non))) H):=by
 intro pins s σ H x y v u Q I j z h;obtain ⟨rfl,q⟩:=h;cases z;refine isnot_none_gen (Yg I q ?_);cases x <;> first
  | (cases j; rfl)
  | (obtain ⟨t,rfl⟩:=j; rfl)
theorem OpR.or {f:aB->aB->Sem aB} {r j:R2} (h:OpR X f r) (h':OpR X f j):OpR X f (fun x y H Q=>r x y H Q\/j x y H Q):=by
 intro pins s σ H x y v u Q I B z q;rcases q with q | q
 ·exact h pins s σ H x y v u Q I B z q
 ·exact h' pins s σ H x y v u Q I B z q
theorem Qa5 (b:aD) {op:CmpOp} (h:op≠.In:=by decide) (h2:op≠.NotIn:=by decide):bG op b=false:=by
 have e1:(op == CmpOp.In)=false:=by cases op <;> first | rfl | exact absurd rfl h
 have e2:(op == CmpOp.NotIn)=false:=by cases op <;> first | rfl | exact absurd rfl h2
 cases b <;> simp [bG,e1,e2]
theorem Qp0 {op:CmpOp} {r:R2} (Y:OpR X (aS op) r) (O:PE X a ta) (z:PE X b tb) (J:bG op b=false):PE X (.Compare a [op] [b] pos) (tOp r ta tb):=by
 intro pins s σ H Q I h;exact wpAny_Compare1 (Qtv O z I h fun v u j x y H2 G B U q=>Y pins j σ H2 x y v u Q G B U q) J
def Qqp (t:TE):TT:=fun σ H Q=>t σ H fun x H'=>∃ k,x=.bl k/\Q k H'
theorem Q9r {op:CmpOp} {r:R2} (ho:OpR X (aS op) r) (ha:PE X a ta) (J:PE X b tb) (hm:bG op b=false):PT X (.Compare a [op] [b] pos) (Qqp (tOp r ta tb)):=by
 intro pins s σ H Q I h;refine wpAny_isTrue_Compare1 (thn (ha pins s σ H _ I h) fun v B ⟨x,H1,I1,j,q1⟩=>thn (J pins B σ H1 _ I1 q1) fun u G ⟨y,H2,Z,O,q2⟩=>
  thn (ho pins G σ H2 x y v u _ Z j O q2) fun c s3 ⟨z,U,I3,Y,k,e,q3⟩=>?_) hm
 subst e;cases Y;exact az ⟨U,I3,q3⟩
def Qd9 (r r':R2) (ta tb tc:TE):TE:=fun σ H Q=>ta σ H fun x H1=>tb σ H1 fun y H2=>r x y H2 fun z H3=>∃ k,z=.bl k /\
 (if k=true then tc σ H3 fun w' H4=>r' y w' H4 Q else Q (.bl false) H3)
theorem Qjk {op j:CmpOp} {r U:R2} (ho:OpR X (aS op) r) (B:OpR X (aS j) U) (ha:PE X a ta) (Z:PE X b tb) (hc:PE X c tc)
  (hm:lastMarks [op,j] [b,c]=false:=by with_unfolding_all rfl):PE X (.Compare a [op,j] [b,c] pos) (Qd9 r U ta tb tc):=by
 intro pins s σ H Q I h;refine Compare_chain (thn (ha pins s σ H _ I h) fun v s1 ⟨x,H1,I1,r1,q1⟩=>chain_link (thn (Z pins s1 σ H1 _ I1 q1) fun u s2 ⟨y,H2,I2,G,q2⟩=>
  thn (ho pins s2 σ H2 x y v u _ I2 r1 G q2) fun d s3 ⟨z,J,O,r3,k,e,q3⟩=>?_)) hm
 subst e;cases r3;refine az ?_;cases k with
 | false=>exact ite_ff ⟨.bl false,J,O,rfl,q3⟩
 | true=>exact ite_tt (chain_last (thn (hc pins s3 σ J _ O q3) fun Y s4 ⟨z',H4,I4,r4,q4⟩=>B pins s4 σ H4 y z' u Y Q I4 G r4 q4))
theorem Qj9 {op j:CmpOp} {r U:R2} (ho:OpR X (aS op) r) (B:OpR X (aS j) U) (ha:PE X a ta) (Z:PE X b tb) (hc:PE X c tc)
  (hm:lastMarks [op,j] [b,c]=false:=by with_unfolding_all rfl):PT X (.Compare a [op,j] [b,c] pos) (Qqp (Qd9 r U ta tb tc)):=by
 intro pins s σ H Q I h;refine isTrue_chain (thn (ha pins s σ H _ I h) fun v s1 ⟨x,H1,I1,r1,q1⟩=>test_link (thn (Z pins s1 σ H1 _ I1 q1) fun u s2 ⟨y,H2,I2,G,q2⟩=>
  thn (ho pins s2 σ H2 x y v u _ I2 r1 G q2) fun d s3 ⟨z,J,O,r3,k,e,q3⟩=>?_)) hm
 subst e;cases r3;refine az ?_;cases k with
 | false=>
  obtain ⟨k',e',q'⟩:=q3;cases e';exact ite_ff ⟨J,O,q'⟩
 | true=>
  refine ite_tt (test_last (thn (hc pins s3 σ J _ O q3) fun Y s4 ⟨z',H4,I4,r4,q4⟩=>thn (B pins s4 σ H4 y z' u Y _ I4 G r4 q4) fun d' s5 ⟨z2,H5,I5,r5,k2,e2,q5⟩=>?_))
  subst e2;cases r5;exact az ⟨H5,I5,q5⟩
theorem Q3e:(sizeLine:Nat) < 2 ^ 63:=by rw [sizeLine_eq]; decide
theorem Qdv:OpR X (aV .Add) (fun x y H Q=>∃ i j,x=.str i/\y=.str j/\i.length + j.length<=sizeLine/\Q (.str (i ++ j)) H):=by
 intro pins s σ H x y v u Q I B G h;obtain ⟨i,j,rfl,rfl,z,q⟩:=h;obtain ⟨t,rfl⟩:=B;obtain ⟨t',rfl⟩:=G;exact add_str (fun t' tk=>⟨.str (i ++ j),H,I.tok _,⟨_,rfl⟩,q⟩) z
theorem yf {x:V} {j:List aB} (r:Vals [x] j):∃ u,j=[u]/\RelV x u:=by
 cases r with
 | cons z B=>cases B; exact ⟨_,rfl,z⟩
theorem Qek {x y:V} {z:List aB} (r:Vals [x,y] z):∃ u j,z=[u,j]/\RelV x u/\RelV y j:=by
 cases r with
 | cons B G=>
  cases G with
  | cons I J=>cases J; exact ⟨_,_,rfl,B,I⟩
theorem Qhw (B:X.calm=true):Ur X (.builtin "max") (fun xs H Q=>∃ i j,xs=[.int i,.int j]/\Q (.int (if j > i then j else i)) H):=by
 intro pins s σ H xs J Q I r h;obtain ⟨i,j,rfl,q⟩:=h;obtain ⟨u,G,rfl,⟨t,rfl⟩,⟨t',rfl⟩⟩:=Qek r;refine max_two_ints (I.ok.hd B) fun h' tk k=>⟨_,H,I.kept k,?_,q⟩
 by_cases z:j > i
 ·rw [bQ z,bQ z]; exact ⟨_,rfl⟩
 ·rw [bS z,bS z]; exact ⟨_,rfl⟩
theorem Qhu (B:X.calm=true):Ur X (.builtin "min") (fun xs H Q=>∃ i j,xs=[.int i,.int j]/\Q (.int (if j < i then j else i)) H):=by
 intro pins s σ H xs J Q I r h;obtain ⟨i,j,rfl,q⟩:=h;obtain ⟨u,G,rfl,⟨t,rfl⟩,⟨t',rfl⟩⟩:=Qek r;refine min_two_ints (I.ok.hd B) fun h' tk k=>⟨_,H,I.kept k,?_,q⟩
 by_cases z:j < i
 ·rw [bQ z,bQ z]; exact ⟨_,rfl⟩
 ·rw [bS z,bS z]; exact ⟨_,rfl⟩
end
structure ObjM (h:Heap) (x dx C:aA) (mA:Str->Option aB):Prop where
 obj:h.get? x=some (PySem.W.instObj C dx)
 ns:h.Ns1 dx mA
 ne:dx≠x
theorem Qh6 {h:Heap} {dx:aA} {mA:Str->Option aB} (n:h.Ns1 dx mA):∃ B,h.get? dx=some B/\∀ name,PySem.W.lookIn name B=some (mA name):=by
 obtain ⟨o,es,ep,U,hd,I,_,O⟩:=n;refine ⟨o,U,fun name=>?_⟩;have e:=O name;unfold nsFind findBy at e;rw [<- Array.find?_toList] at e;unfold PySem.W.lookIn;rw [hd];dsimp only
 split
 ·rename_i y q;rw [q] at e;exact congrArg some e
 ·rename_i q;rw [q] at e;have a:es.toList.any (·.refKey)=false:=by
   rw [List.any_eq_false];intro y G;obtain ⟨z,t,j⟩:=I y (Array.mem_toList_iff.mp G);simp [DictEntry.refKey,j]
  have J:¬ es.toList.any (·.refKey)=true:=by rw [a]; exact D1
  rw [bS J];exact congrArg some e
theorem ObjM.look {h:Heap} {x dx C:aA} {mA:Str->Option aB} (I:ObjM h x dx C mA):∃ j,PySem.W.InstAt h x (PySem.W.instObj C dx) C (some j)/\∀ name,PySem.W.lookIn name j=some (mA name):=
 let ⟨j,z,hl⟩:=Qh6 I.ns
 ⟨j,⟨I.obj,rfl,rfl,z⟩,hl⟩
section
variable {prog:aL} {w:aK} {A:aN} {E:aB->aC->Prop} {s:aC} {K:PySem.W.Frag} {x dx C f:aA} {mA:Str->Option aB} {name:Str} {v:aB}
end
section
variable {P:aL} {w:aK} {H H':Hp} {h h':Heap} {a C dx:aA} {fs fs':List (Str × V)}
theorem Qpx (hok:HOk P w H h) (e:H a=some (.ins C dx fs)):∃ mA,ObjM h a dx C mA/\(∀ f,RelO (fs.lookup f) (mA f))/\PySem.Within mA (fs.map (·.1))/\fs.length<=1000/\H dx=some (.own a):=by
 obtain ⟨d,z,ne,ob,mA,n,r,q⟩:=(show ObjOk P w H h a (.ins C dx fs) from hok a _ e);exact ⟨mA,⟨ob,n,ne⟩,r,q,z,d⟩
end
structure Cls (K:PySem.W.Frag) (C:aA):Prop where
 pg:PySem.W.plainGet K C Str.empty=true
 hd:PySem.W.hasDictIn K C=true
 po:PySem.W.plainOver K C=true
 sa:PySem.W.findIn K (.ref C) "__setattr__" = some (some (.builtin "object.__setattr__"))
theorem Cls.get {K:PySem.W.Frag} {C:aA} (c:Cls K C) (f:Str):PySem.W.plainGet K C f=true:=c.pg
section
variable {X:Cx} {pins:List (aA × Obj)} {σ:St} {H:Hp} {s:aC} {a C dx:aA} {fs:List (Str × V)} {f:Str} {v:V} {A:aN} {E:aB->aC->Prop}
end
section
variable {X:Cx} {o e value:aD} {f:Str} {pos pos' tpos:Pos} {ta tv:TE}
end
section
variable {X:Cx} {pins:List (aA × Obj)} {σ:St} {H:Hp} {s:aC} {A:aN} {E:aB->aC->Prop} {Q:aB->aC->Prop} {c:aB} {b:Bool}
inductive TyOf (K:PySem.W.Frag) (H:Hp):V->aB->Prop where
 | non:TyOf K H .non (.type "NoneType")
 | bl (x:Bool):TyOf K H (.bl x) (.type "bool")
 | int (i:Int):TyOf K H (.int i) (.type "int")
 | str (x:Str):TyOf K H (.str x) (.type "str")
 | flt (x:UInt64):TyOf K H (.flt x) (.type "float")
 | lst {a:aA} {xs:List V} (e:H a=some (.lst xs)):TyOf K H (.ref a) (.type "list")
 | frz {a:aA} {o:Obj} {xs:List V} (e:H a=some (.frz o (.lst xs))):TyOf K H (.ref a) (.type "list")
 | tup {a:aA} {xs:List V} (e:H a=some (.tup xs)):TyOf K H (.ref a) (.type "tuple")
 | dK {a:aA} {kvs:List (Key × V)} (e:H a=some (.dK kvs)):TyOf K H (.ref a) (.type "dict")
 | dT {a:aA} {kvs:List (List Key × V)} (e:H a=some (.dT kvs)):TyOf K H (.ref a) (.type "dict")
 | ins {a C dx:aA} {fs:List (Str × V)} (e:H a=some (.ins C dx fs)) (cl:Cls K C) (ha:PySem.W.findIn K (.ref C) "__class__" = some (some (.builtin "object.__class__")))
   (hn:PySem.W.specialIn K (.builtin "object.__class__") "__get__" = some (some (.builtin "getset_descriptor.__get__"))) (htk:PySem.W.takesIn K (.builtin "object.__class__")=some true)
   (hm:PySem.W.mroIn K C (.type "object")=some true):TyOf K H (.ref a) (.ref C)
theorem Qha {x:V} {u t:aB} (I:Inv X pins σ H s) (j:RelV x u) (ty:TyOf X.K H x t) (e:PySem.W.kitOne X.K t c=some b) (h:∀ tk,Q (.bool b) { s with toks:=tk }) :
  aH (aI X.prog X.w) A (call (.builtin "isinstance") [u,c]) Q E s:=by
 cases ty with
 | non=>cases (show u=Value.none from j); exact PySem.W.kia_one PySem.W.kitx_none I.kIn True.intro e (fun z=>nomatch z) h
 | bl y=>cases (show u=Value.bool y from j); exact PySem.W.kia_one PySem.W.kitx_bool I.kIn True.intro e (fun z=>nomatch z) h
 | int i=>obtain ⟨t,q⟩:=(show ∃ t,u=Value.int i t from j); cases q; exact PySem.W.kia_one PySem.W.kitx_int I.kIn True.intro e (fun z=>nomatch z) h
 | str y=>obtain ⟨t,q⟩:=(show ∃ t,u=Value.str y t from j); cases q; exact PySem.W.kia_one PySem.W.kitx_str I.kIn True.intro e (fun z=>nomatch z) h
 | flt y=>obtain ⟨t,q⟩:=(show ∃ t,u=Value.float y t from j); cases q; exact PySem.W.kia_one PySem.W.kitx_float I.kIn True.intro e (fun z=>nomatch z) h
 | @lst a xs B=>
  cases (show u=Value.ref a from j);obtain ⟨_,_,n,_,h1⟩:=(show ObjOk X.prog X.w H s.heap a (.lst xs) from I.hok a _ B);exact PySem.W.kia_one PySem.W.kitx_list I.kIn ⟨_,h1,rfl⟩ e (fun z=>nomatch z) h
 | @frz a ob xs B=>
  cases (show u=Value.ref a from j);obtain ⟨_,_,_,n,_,h1⟩:=(show ObjOk X.prog X.w H s.heap a (.frz ob (.lst xs)) from I.hok a _ B);exact PySem.W.kia_one PySem.W.kitx_list I.kIn ⟨_,h1,rfl⟩ e (fun z=>nomatch z) h
 | @tup a xs B=>
  cases (show u=Value.ref a from j);obtain ⟨_,_,_,p⟩:=(show ObjOk X.prog X.w H s.heap a (.tup xs) from I.hok a _ B);obtain ⟨o,h1,h2,_⟩:=p;exact PySem.W.kia_one PySem.W.kitx_tuple I.kIn ⟨o,h1,h2⟩ e (fun z=>nomatch z) h
 | @dK a kvs B=>
  cases (show u=Value.ref a from j);obtain ⟨_,_,vs,_,p⟩:=(show ObjOk X.prog X.w H s.heap a (.dK kvs) from I.hok a _ B);obtain ⟨o,es,ep,h1,h2,_⟩:=p;exact PySem.W.kia_one PySem.W.kitx_dict I.kIn ⟨o,h1,h2.1⟩ e (fun z=>nomatch z) h
 | @dT a kvs B=>
  cases (show u=Value.ref a from j);obtain ⟨_,_,xs,_,o,es,ep,h1,h2,_⟩:=(show ObjOk X.prog X.w H s.heap a (.dT kvs) from I.hok a _ B);exact PySem.W.kia_one PySem.W.kitx_dict I.kIn ⟨o,h1,h2.1⟩ e (fun z=>nomatch z) h
 | @ins a C dx fs B cl Y Z G U=>
  cases (show u=Value.ref a from j);obtain ⟨mA,O,_⟩:=Qpx I.hok B;obtain ⟨od,J,_⟩:=O.look;exact PySem.W.kia_one (PySem.W.kitx_own (cl.get _) cl.hd Y Z G U) I.kIn J e (fun z=>nomatch z) h
end
structure Room (k:Nat) (A:aN):Prop where
 hd:A.handled=none
 dp:A.depth + 3 * k + 5 < recursionLimit
 un:A.units + 16 * k + 200 < aW
theorem Room.mono {j k:Nat} {A:aN} (r:Room k A) (h:j<=k):Room j A:=⟨r.hd,by have:=r.dp; omega,by have:=r.un; omega⟩
theorem Room.deeper {k:Nat} {A:aN} (r:Room (k + 1) A) (env:Env):Room k (A.deeper env):=
 ⟨r.hd,by have:=r.dp; show A.depth + 1 + 3 * k + 5 < _; omega,by have:=r.un; show A.units + 3 + 16 * k + 200 < _; omega⟩
theorem Room.depth {k:Nat} {A:aN} (r:Room k A):A.depth < recursionLimit:=by have:=r.dp; omega
theorem Room.units {k:Nat} {A:aN} (r:Room k A):A.units + 64 < aW:=by have:=r.un; omega
def Qus:TA:=fun _ H Q=>Q [] H
def Qqs (ta:TE) (tr:TA):TA:=fun σ H Q=>ta σ H fun x H1=>tr σ H1 fun xs H2=>Q (x :: xs) H2
section
variable {X:Cx} {e:aD} {es:List aD} {te:TE} {t:TA} {pos:Pos}
theorem Y8:PA X [] Qus:=fun _ _ _ _ H Q I h=>Calls.spliced_nil ⟨[],H,I,.nil,h⟩
theorem J7 (O:PE X e te) (G:PA X es t) (hs:aP (e :: es) X.env=(false,aQ e X.env) :: aP es X.env:=by rfl):PA X (e :: es) (Qqs te t):=by
 intro pos pins s σ H Q I h;rw [hs];show aH _ _ (spliced ((false,aQ e X.env) :: aU pos (aP es X.env))) _ _ s;refine Calls.spliced_cons (thn (O pins s σ H _ I h) fun u z ⟨x,H1,U,j,q1⟩=>?_)
 exact thn (G pos pins z σ H1 _ U q1) fun Z Y ⟨xs,H2,J,B,q2⟩=>⟨x :: xs,H2,J,.cons j B,q2⟩
def Qxw (t:TA):TE:=fun σ H Q=>t σ H fun xs H1=>xs.length<=sizeLine/\∀ p,H1 p=none->Q (.ref p) (upd H1 p (.tup xs))
def Qut (t:TA):TE:=fun σ H Q=>t σ H fun xs H1=>xs.length<=sizeLine/\∀ p,H1 p=none->Q (.ref p) (upd H1 p (.lst xs))
theorem Qs8 {x1} (h:PA X es t):PE X (.Tuple es x1 pos) (Qxw t):=by
 intro pins s σ H Q I O;refine wpAny_Tuple_spliced (thn (h pos pins s σ H _ I O) fun J j ⟨xs,H1,B,r,z,q⟩=>⟨by rw [<- r.length]; exact z,?_⟩)
 have G:H1 j.heap.objs.size=none:=B.hok.fresh (O6 _);refine ⟨.ref j.heap.objs.size,upd H1 j.heap.objs.size (.tup xs),B.laid (t':=j.toks) (fun b u e=>O1 _ e) (O6 _) ?_,rfl,q _ G⟩;exact ⟨z,J,r,⟨_,D0 _ rfl,rfl,_,rfl⟩⟩
theorem Qds (h:PA X es t):PE X (.List es pos) (Qut t):=by
 intro pins s σ H Q I O;refine wpAny_List_spliced (thn (h pos pins s σ H _ I O) fun J j ⟨xs,H1,B,r,z,q⟩=>⟨by rw [<- r.length]; exact z,?_⟩)
 have G:H1 j.heap.objs.size=none:=B.hok.fresh (O6 _);refine ⟨.ref j.heap.objs.size,upd H1 j.heap.objs.size (.lst xs),B.laid (t':=j.toks) (fun b u e=>O1 _ e) (O6 _) ?_,rfl,q _ G⟩;exact ⟨z,J,0,r,D0 _ rfl⟩
end
abbrev Sp:=List V->Hp->VK->XK->Prop
abbrev CXT:=List Env->Hp->aC->XK->aB->aC->Prop
structure Env0 (P:aL) (w:aK) (K:PySem.W.Frag) (mg:Str->Option aB) (base:Heap) (A:aN) (outer:List Env) (s:aC) (H:Hp):Prop where
 frames:A.frames=some outer
 mod:Mod K mg base
 bs:∀ b o,base.get? b=some o->s.heap.get? b=some o/\H b=none
 bsz:base.objs.size<=s.heap.objs.size
 funs:s.heap.FunFrames base outer
 frf:∀ b∈frs outer,H b=none
 hok:HOk P w H s.heap
 bare:AllBare s.gens
def CE (outer:List Env) (P:aL) (w:aK) (H:Hp) (s:aC) (Q:VK) (u:aB) (s':aC):Prop:=
 ∃ v H',s'.os=s.os/\AllBare s'.gens/\Un (frs outer) [] H H' s.heap s'.heap/\HOk P w H' s'.heap/\RelV v u/\Q v H'
def CR (CX:CXT) (outer:List Env) (P:aL) (w:aK) (H:Hp) (s:aC) (Q:VK) (E:XK) (r:Result) (s':aC):Prop:=
 match r with
 | .ok (.ret u)=>CE outer P w H s Q u s'
 | .ok _=>False
 | .error e=>CX outer H s E e s'
structure FnOk (P:aL) (w:aK) (K:PySem.W.Frag) (mg:Str->Option aB) (base:Heap) (CX:CXT) (k:Nat) (f:aA) (fd:aM) (ps:List Str) (sp:Sp):Prop where
 len:∀ vs H Q E,sp vs H Q E->vs.length=ps.length
 run:∀ (A:aN) (outer:List Env) (s:aC) (H:Hp) (args:Args) (us:List aB) (vs:List V) (Q:VK) (E:XK),Room k A->Env0 P w K mg base A outer s H->BindsTo s fd args (ps.zip us)->Vals vs us->sp vs H Q E ->
  codeAny (aI P w) A (.call (.ref f) args) (CR CX outer P w H s Q E) s
theorem FnOk.imp {P:aL} {w:aK} {K:PySem.W.Frag} {mg:Str->Option aB} {base:Heap} {CX:CXT} {k:Nat} {f:aA} {fd:aM} {ps:List Str} {sp j:Sp} (F:FnOk P w K mg base CX k f fd ps sp)
  (h:∀ vs H Q E,j vs H Q E->sp vs H Q E):FnOk P w K mg base CX k f fd ps j:=
 ⟨fun vs H Q E q=>F.len vs H Q E (h _ _ _ _ q),fun A outer s H args G vs Q E I z B J hs=>F.run A outer s H args G vs Q E I z B J (h _ _ _ _ hs)⟩
section
variable {X:Cx} {pins:List (aA × Obj)} {σ:St} {H:Hp} {s s':aC}
theorem Inv.env0 (I:Inv X pins σ H s):Env0 X.prog X.w X.K X.mg X.base X.A X.stack s H:=
 ⟨I.ok.frames,I.ok.mod,I.bs,F0 I.ok.bsz I.sz,I.stack,I.stkFree,I.hok,I.bare⟩
theorem Inv.after {Q:VK} {u:aB} (I:Inv X pins σ H s) (h:CE X.stack X.prog X.w H s Q u s'):EP X pins σ Q u s':=by
 obtain ⟨v,H',os,bare,un,hok,r,q⟩:=h;obtain ⟨B,g,d,t,j⟩:=s';obtain rfl:j=s.os:=os;exact ⟨v,H',I.call (h':=B) (g':=g) (d':=d) (t':=t) (ch:=[]) un hok bare (fun b z=>absurd z (by simp)),r,q⟩
end
def Quw (sp:Sp) (dvs:List V) (E:XK) (t:TA):TE:=fun σ H Q=>t σ H fun vs H1=>sp (vs ++ dvs) H1 Q E
def Binds (K:PySem.W.Frag) (fd:aM) (ps:List Str) (ds:List aB):Prop:=
 ∀ (s:aC) (us:List aB),K.In s.heap->(us ++ ds).length=ps.length->BindsTo s fd ⟨us,[]⟩ (ps.zip (us ++ ds))
theorem Binds.all {K:PySem.W.Frag} {fd:aM} {ps:List Str} (h:∀ j:List aB,j.length=ps.length->bindArgs fd ⟨j,[]⟩=pure (ps.zip j)):Binds K fd ps []:=fun s j _ hl=>by
 rw [List.append_nil] at hl ⊢;exact .of_eq (h j hl)
def Q72 (CX:CXT) (X:Cx) (E:XK):Prop:=∀ (pins:List (aA × Obj)) (σ:St) (H:Hp) (s:aC) (e:aB) (s':aC),Inv X pins σ H s->CX X.stack H s E e s'->X.xe e s'
section
variable {X:Cx} {CX:CXT} {k:Nat} {f C:aA} {fd:aM} {ps:List Str} {sp:Sp} {dvs:List V} {ds:List aB} {E:XK} {x m:Str} {p pos apos:Pos} {e o:aD} {es:List aD} {ta:TE} {t:TA}
theorem Qru {pins:List (aA × Obj)} {σ:St} {H:Hp} {s:aC} {Q:VK} {j:List aB} {vs:List V} (F:FnOk X.prog X.w X.K X.mg X.base CX k f fd ps sp) (O:Room k X.A) (G:Binds X.K fd ps ds) (hd:Vals dvs ds) (J:Q72 CX X E)
  (I:Inv X pins σ H s) (r:Vals vs j) (h:sp (vs ++ dvs) H Q E):aH (aI X.prog X.w) X.A (call (.ref f) j) (EP X pins σ Q) X.xe s:=by
 have B:Vals (vs ++ dvs) (j ++ ds):=r.append hd;have hl:(j ++ ds).length=ps.length:=by rw [<- B.length]; exact F.len _ _ _ _ h
 refine wpAny_call (bK (F.run X.A X.stack s H ⟨j,[]⟩ (j ++ ds) (vs ++ dvs) Q E O I.env0 (G s j I.kIn hl) B h) fun r s' z=>?_)
 cases r with
 | error e=>exact J pins σ H s e s' I z
 | ok fl=>
  cases fl with
  | ret u=>exact I.after z
  | next=>exact False.elim z
  | brk=>exact False.elim z
  | cont=>exact False.elim z
theorem Qez (F:FnOk X.prog X.w X.K X.mg X.base CX k f fd ps sp) (Z:Room k X.A) (O:Gl X x) (hm:X.mg x=some (.ref f)) (U:PySem.W.keepIn X.K (.ref f)=true) (J:Binds X.K fd ps ds) (hd:Vals dvs ds) (Y:Q72 CX X E)
  (ha:PA X (e :: es) t) (z:(x == ("__debug__" : Str))=false:=by decide) (G:aP (e :: es) X.env=(false,aQ e X.env) :: aP es X.env:=by rfl) (j:(aU pos (aP es X.env)).any (·.1)=false:=by rfl) :
  PE X (.Call (.Name x p) (e :: es) [] pos) (Quw sp dvs E t):=by
 intro pins s σ H Q I h;refine wpAny_Call_Name_kw (Q2d I O hm ?_ z);refine PySem.W.callWith_K (h₀:=X.base) I.ok.mod.kin U (thn (ha pos pins s σ H _ I h) fun us s1 ⟨vs,H1,B,r,q⟩=>⟨B.kIn,?_⟩) G j
 exact Qru F Z J hd Y B r q
end
section
variable {X:Cx} {CX:CXT} {k:Nat} {f C:aA} {fd:aM} {ps ks:List Str} {sp:Sp} {E:XK} {x m:Str} {p pos apos kpos:Pos} {e o:aD} {es:List aD} {kws:List Keyword} {te ta:TE} {t tk:TA} {nm:Option Str}
variable {g:List aB->List aB->List aB} {gV:List V->List V->List V}
end
structure FnScope (N P:List Str) (sc:Scope):Prop where
 kind:sc.kind=.function
 co:sc.isCoroutine=false
 gen:sc.isGenerator=false
 nd:N.Nodup
 pre:N.take P.length=P
 par:∀ x∈P,sc.names.lookup x=some .local\/sc.names.lookup x=some .cell
 nofree:∀ y∈sc.names,y.2≠.free
theorem Q8x {kindOf:Str->Option ao} {x:Str}:∀ {binds:List (Str × aB)} {m:Str->Option aB},(∀ v,(x,v)∉binds)->bindL kindOf binds m x=m x
 | [],_,_=>rfl
 | (n,v) :: r,m,h=>by
  unfold bindL;rw [Q8x fun w j=>h w (O5 _ j)]
  split
  ·have:x≠n:=by rintro rfl; exact h v O8
   simp [this]
  ·rfl
theorem Q8z {kindOf:Str->Option ao} {x:Str}:∀ {binds:List (Str × aB)} {m:Str->Option aB},(∀ v,(x,v)∉binds)->bindC kindOf binds m x=m x
 | [],_,_=>rfl
 | (n,v) :: r,m,h=>by
  unfold bindC;rw [Q8z fun w j=>h w (O5 _ j)]
  split
  ·rfl
  ·have:x≠n:=by rintro rfl; exact h v O8
   simp [this]
theorem Q8y {kindOf:Str->Option ao} {x:Str} {v:aB}:∀ {P:List Str} {vs:List aB} {i:Nat} {m:Str->Option aB},P.Nodup->P[i]?=some x->vs[i]?=some v->kindOf x=some .local ->
  bindL kindOf (P.zip vs) m x=some v
 | [],_,_,_,_,h,_,_=>by simp at h
 | _ :: _,[],_,_,_,_,h,_=>by simp at h
 | p :: P,w :: vs,0,m,nd,h1,h2,j=>by
  simp at h1 h2; subst h1; subst h2;show bindL kindOf ((p,w) :: P.zip vs) m p=_;unfold bindL;rw [Q8x fun v z=>(List.nodup_cons.mp nd).1 (List.of_mem_zip z).1,bQ j]
  simp
 | p :: P,w :: vs,i + 1,m,nd,h1,h2,j=>by
  show bindL kindOf ((p,w) :: P.zip vs) m x=_;unfold bindL;exact Q8y (i:=i) (List.nodup_cons.mp nd).2 (by simpa using h1) (by simpa using h2) j
theorem Q90 {kindOf:Str->Option ao} {x:Str} {v:aB}:∀ {P:List Str} {vs:List aB} {i:Nat} {m:Str->Option aB},P.Nodup->P[i]?=some x->vs[i]?=some v->kindOf x≠some .local ->
  bindC kindOf (P.zip vs) m x=some v
 | [],_,_,_,_,h,_,_=>by simp at h
 | _ :: _,[],_,_,_,_,h,_=>by simp at h
 | p :: P,w :: vs,0,m,nd,h1,h2,j=>by
  simp at h1 h2; subst h1; subst h2;show bindC kindOf ((p,w) :: P.zip vs) m p=_;unfold bindC;rw [Q8z fun v z=>(List.nodup_cons.mp nd).1 (List.of_mem_zip z).1,bS j]
  simp
 | p :: P,w :: vs,i + 1,m,nd,h1,h2,j=>by
  show bindC kindOf ((p,w) :: P.zip vs) m x=_;unfold bindC;exact Q90 (i:=i) (List.nodup_cons.mp nd).2 (by simpa using h1) (by simpa using h2) j
def start (N:List Str) (vs:List V):St:=vs.map some ++ List.replicate (N.length - vs.length) none
def Qhn (CX:CXT) (P:aL) (w:aK) (K:PySem.W.Frag) (mg:Str->Option aB) (base:Heap) (N:List Str) (qual:Str) (scope:Scope) (f:aA) (cd:aB) (A:aN) (outer:List Env) (s:aC) (H:Hp) (E:XK):Cx where
 prog:=P
 w:=w
 K:=K
 mg:=mg
 base:=base
 A:=A.deeper (envOfC qual scope s.heap.objs.size f cd)
 N:=N
 s₀:=s
 H₀:=H
 env:=envOfC qual scope s.heap.objs.size f cd
 outer:=outer
 stack:=envOfC qual scope s.heap.objs.size f cd :: outer
 ex:=[]
 calm:=true
 fn:=fun _=>true
 pn:=[]
 xe:=fun e s'=>aH (aI P w) (A.deeper (envOfC qual scope s.heap.objs.size f cd)) (leaving (envOfC qual scope s.heap.objs.size f cd) e) (fun _ s''=>CX outer H s E e s'') (fun e' s''=>CX outer H s E e' s'') s'
theorem Qcw {sc:Scope} {n:Nat} {x:Str} (h:sc.names.lookup x=some .cell):∃ c,(af n sc.names []).lookup x=some c:=by
 have q:=PySem.W.cellsFrom_some sc.names n [] (.inl h);exact Option.isSome_iff_exists.mp q
theorem Qhd {CX:CXT} {P:aL} {w:aK} {K:PySem.W.Frag} {mg:Str->Option aB} {base:Heap} {N ps:List Str} {qual:Str} {scope:Scope} {f:aA} {cd:aB} {A:aN} {outer:List Env} {s O:aC} {H:Hp} {E:XK} {J:List aB} {vs:List V}
  (S:FnScope N ps scope) (hd:A.handled=none) (j:Env0 P w K mg base A outer s H) (hl:vs.length=ps.length) (r:Vals vs J)
  (x:InCallC s s.heap.objs.size (bindL (envOfC qual scope s.heap.objs.size f cd).kindOf (ps.zip J) fun _=>none) (af (s.heap.objs.size + 1) scope.names []) (bindC (envOfC qual scope s.heap.objs.size f cd).kindOf (ps.zip J) fun _=>none) O) :
  Inv (Qhn CX P w K mg base N qual scope f cd A outer s H E) [] (start N vs) H O:=by
 have Z:ps.length<=N.length:=by have:=congrArg List.length S.pre; rw [List.length_take] at this; omega
 obtain ⟨h1,tk,rfl,U⟩:=x.done;have G:∀ b:aA,b∉(Qhn CX P w K mg base N qual scope f cd A outer s H E).ex:=fun b z=>absurd (show b∈([]:List aA) from z) (by simp)
 refine ⟨⟨j.mod,S.kind,rfl,rfl,O6 _,fun y z c h1 h2=>?_,fun y B=>?_,fun y c _ h=>?_,fun _=>hd,Around.frames_deeper j.frames,.inr ⟨rfl,rfl⟩,fun b z=>absurd z (G b),j.bs,j.bsz,fun b _ _=>G b,fun b z=>absurd z (G b),j.funs,j.frf⟩,
  rfl,j.bare,Un.kept U,⟨_,x.toInCall.ns,fun i y v h1 h2 h3=>?_⟩,fun y c h=>⟨_,x.cell y c h⟩,j.hok.fresh (O6 _),fun y c h=>?_,fun p hp=>absurd (show p∈([]:List (aA × Obj)) from hp) (by simp),j.hok.kept U,?_⟩
 ·exact name_of_addr x.apart (PySem.mem_of_lookup h1) (PySem.mem_of_lookup h2)
 ·have B:scope.names.lookup y=some .cell\/scope.names.lookup y=some .free:=B;rcases B with B | B
  ·exact Qcw B
  ·exact absurd rfl (S.nofree _ (PySem.mem_of_lookup B))
 ·exact E2 (x.above y c (PySem.mem_of_lookup h))
 ·have hi:i < vs.length:=by
   unfold start at h2
   by_cases hi:i < vs.length
   ·exact hi
   ·rw [E9 (by simpa using hi)] at h2;rw [L4] at h2
    split at h2 <;> cases h2
  have ha:vs[i]?=some v:=by
   unfold start at h2;rw [O9 (by simpa using hi),E3] at h2;cases e:vs[i]? with
   | none=>rw [e] at h2; cases h2
   | some a=>rw [e] at h2; cases h2; rfl
  obtain ⟨u,Y,rv⟩:=r.get ha;have hp:ps[i]?=some y:=by
   rw [<- S.pre,List.getElem?_take_of_lt (by omega)]; exact h1
  have I:ps.Nodup:=by rw [<- S.pre]; exact S.nd.sublist (List.take_sublist _ _)
  refine ⟨u,rv,?_⟩;rcases S.par y (E7 hp) with k | k
  ·exact .inl ⟨k,Q8y I hp Y k⟩
  ·obtain ⟨c,e⟩:=Qcw (n:=s.heap.objs.size + 1) k;refine .inr ⟨.inl k,c,e,?_⟩;have q:=x.cell y c e;rw [Q90 I hp Y (by show scope.names.lookup y≠_; rw [k]; decide)] at q;exact q
 ·exact j.hok.fresh (E2 (x.above y c (PySem.mem_of_lookup h)))
 ·unfold start;show _=N.length;rw [D7,O0,List.length_replicate];omega
theorem Qwm {CX:CXT} {P:aL} {w:aK} {K:PySem.W.Frag} {mg:Str->Option aB} {base:Heap} {k:Nat} {f:aA} {name qual:Str} {z:Arguments} {body:List aJ} {scope:Scope} {dV kV Z pm j ct oc:aB} {an od:Option aA}
  {a2:Array (Option aB)} {N ps:List Str} {sp:Sp} (lk:K.lookup f=some ⟨oc,od,.func (PySem.W.fnOf name qual z body scope dV kV Z pm an j ct),a2⟩) (a1:PySem.W.codeIn K j qual=true) (S:FnScope N ps scope)
  (len:∀ vs H Q E,sp vs H Q E->vs.length=ps.length)
  (G:∀ (A:aN) (outer:List Env) (s:aC) (H:Hp) (vs:List V) (Q:VK) (E:XK),Room k (A.deeper (envOfC qual scope s.heap.objs.size f j))->sp vs H Q E ->
   ∃ t,PSs (Qhn CX P w K mg base N qual scope f j A outer s H E) body t/\t { nx:=fun _ H'=>Q .non H',rt:=Q } (start N vs) H) :
  FnOk P w K mg base CX (k + 1) f (PySem.W.fnOf name qual z body scope dV kV Z pm an j ct) ps sp:=by
 refine ⟨len,fun A outer s H args us vs Q E hr U hb r Y=>?_⟩;have hl:=len _ _ _ _ Y;have KX:K.In s.heap:=U.mod.kin.keeps fun b o e=>(U.bs b o e).1
 have lim:s.heap.NoLimit:=U.mod.nolimit.keeps fun b o e=>(U.bs b o e).1
 have O:∀ y∈ps.zip us,scope.names.lookup y.1=some .local\/(scope.names.lookup y.1=some .cell/\((af (s.heap.objs.size + 1) scope.names []).lookup y.1).isSome=true):=fun ⟨n,v⟩ hy=>by
  rcases S.par n (List.of_mem_zip hy).1 with q | q
  ·exact .inl q
  ·exact .inr ⟨q,PySem.W.cellsFrom_some _ _ _ (.inl q)⟩
 refine codeAny_call_function hr.depth (KX _ _ lk) rfl S.co S.gen rfl (PySem.W.codeRec_of KX a1) (hb _ _ _ _ ?_);refine wpAny_newFunctionEnv_cells S.kind O fun env he s1 x=>?_
 subst he;refine ⟨lim.keeps x.toInCall.keep,codeAny_func ?_⟩;obtain ⟨t,ht,hq⟩:=G A outer s H vs Q E (hr.deeper _) Y;have I:Inv (Qhn CX P w K mg base N qual scope f j A outer s H E) [] (start N vs) H s1:=Qhd S hr.hd U hl r x;refine ak (ht [] s1 (start N vs) H _ I hq) (fun fl s' hs=>?_) fun e s' hs=>hs
 have fin:∀ {B:St} {H':Hp} {v:V} {u:aB},Inv (Qhn CX P w K mg base N qual scope f j A outer s H E) [] B H' s'->RelV v u->Q v H'->CE outer P w H s Q u s':=
  fun {B H' v u} J rv q=>⟨v,H',J.os,J.bare,J.base,J.hok,rv,q⟩
 cases fl with
 | ret u=>
  obtain ⟨v,B,H',J,rv,q⟩:=hs;exact fin J rv q
 | next=>
  obtain ⟨B,H',J,q⟩:=hs;exact fin (v:=V.non) (u:=Value.none) J rfl q
 | brk=>
  obtain ⟨_,_,_,q⟩:=hs;exact False.elim q
 | cont=>
  obtain ⟨_,_,_,q⟩:=hs;exact False.elim q
section
variable {X:Cx} {x:Str} {p pos:Pos} {e:aD} {es:List aD} {t:TA} {id T:String} {r:List V->Hp->VK->Prop}
def tCB (r:List V->Hp->VK->Prop) (t:TA):TE:=fun σ H Q=>t σ H fun vs H1=>r vs H1 Q
theorem Zy (O:Ur X (.builtin id) r) (U:Gl X x) (Z:X.mg x=none) (hv:aZ x=some (.builtin id)) (ha:PA X (e :: es) t) (hn:x≠"__name__" := by decide) (z:(x == ("__debug__" : Str))=false:=by decide)
  (J:aP (e :: es) X.env=(false,aQ e X.env) :: aP es X.env:=by rfl) (j:(aU pos (aP es X.env)).any (·.1)=false:=by rfl):PE X (.Call (.Name x p) (e :: es) [] pos) (tCB r t):=by
 intro pins s σ H Q I h;refine wpAny_Call_Name_kw (Q67 I U Z hv ?_ hn z);exact PyProof.Rows.callWith_builtin1 (thn (ha pos pins s σ H _ I h) fun Y G ⟨vs,H1,I1,B,q1⟩=>O pins G σ H1 vs Y Q I1 B q1) J j
theorem Qgq (O:Ur X (.type T) r) (U:Gl X x) (Z:X.mg x=none) (hv:aZ x=some (.type T)) (ha:PA X (e :: es) t) (hn:x≠"__name__" := by decide) (z:(x == ("__debug__" : Str))=false:=by decide)
  (J:aP (e :: es) X.env=(false,aQ e X.env) :: aP es X.env:=by rfl) (j:(aU pos (aP es X.env)).any (·.1)=false:=by rfl):PE X (.Call (.Name x p) (e :: es) [] pos) (tCB r t):=by
 intro pins s σ H Q I h;refine wpAny_Call_Name_kw (Q67 I U Z hv ?_ hn z);exact PyProof.Rows.callWith_type1 (thn (ha pos pins s σ H _ I h) fun Y G ⟨vs,H1,I1,B,q1⟩=>O pins G σ H1 vs Y Q I1 B q1) J j
end
end L2
namespace HT
open PySem PyProof.Rows
def lexLt:List Int->List Int->Bool
 | [],[]=>false
 | [],_ :: _=>true
 | _ :: _,[]=>false
 | x :: xs,y :: ys=>if x=y then lexLt xs ys else decide (x < y)
theorem lexLt_cons (x y:Int) (xs ys:List Int):lexLt (x :: xs) (y :: ys)=if x=y then lexLt xs ys else decide (x < y):=rfl
theorem Q7i:lexLt [] []=false:=rfl
theorem Q65 (y:Int) (ys:List Int):lexLt [] (y :: ys)=true:=rfl
theorem Q66 (x:Int) (xs:List Int):lexLt (x :: xs) []=false:=rfl
theorem Qkr (A:aN) (s:aC) (a:Int) (t:Tok) (c:Int) (u:Tok):∃ e,SeqAt.EqAt A s (.int a t) (.int c u) e/\(e=true <-> a=c):=
 ⟨(a == c),SeqAt.EqAt.int_int a t c u,by simp⟩
theorem Qj0 (A:aN) (s:aC) (a:Int) (t:Tok) (c:Int) (u:Tok) (prog:aL) (w:aK) (E:aB->aC->Prop) (Q:aB->aC->Prop) (h:Q (.bool (decide (a < c))) s) :
  aH (aI prog w) A (richCompare .Lt (.int a t) (.int c u)) Q E s:=
 (PyProof.Rows.lt_int h:aH (aI prog w) A (aS .Lt (.int a t) (.int c u)) Q E s)
section
open PySem.SeqAt
open PySem.AutoSeq1 (wpAny_loadPart')
open PySem.MeetsSeq PySem.MeetsSeq2 PySem.MeetsSeq3
theorem Q76 (l b:aA) (z j:Array aB) (n n2:Nat) (dd a7:Option aA) (sl a8:Array (Option aB)) (ns ms:List Int) (hi:IntsAre z.toList ns) (hj:IntsAre j.toList ms) :
  Meets (Builtin.«tuple.__lt__» ⟨[.ref l,.ref b],[]⟩)
   (fun _ R s=>s.heap.get? l=some { cls:=.type "tuple",dict:=dd,data:=.seq z n,slots:=sl }/\s.heap.get? b=some { cls:=.type "tuple",dict:=a7,data:=.seq j n2,slots:=a8 } /\
    R (.ok (.ret (.bool (lexLt ns ms)))) s):=
 .of_wp fun prog w A R s h=>by
  obtain ⟨hp,g,d,tk,os⟩:=s; obtain ⟨hl,hb,h⟩:=h;have f2:=AutoSeq1.sub_tuple_tuple;have z1:z.size=ns.length:=by rw [<- hi.length]; simp
  have z2:j.size=ms.length:=by rw [<- hj.length]; simp
  wp_walk using wpAny_loadPart' hl,wpAny_loadPart' hb,wpAny_forIn_list _ (fun rest b s'=>b.1=none/\s'=⟨hp,g,d,tk,os⟩/\∃ (vs ws:List aB) (G I:List Int),rest=vs.zip ws /\
   IntsAre vs G/\IntsAre ws I/\G.length + j.size=I.length + z.size/\R (.ok (.ret (.bool (lexLt G I)))) ⟨hp,g,d,tk,os⟩) _
  case turn=>
   rintro ⟨y,x⟩ rest b s' ⟨Z,rfl,vs,ws,G,I,J,a1,O,B,U⟩;cases a1 with
   | nil=>rw [List.zip_nil_left] at J; cases J
   | cons a t a3=>
    cases O with
    | nil=>rw [List.zip_nil_right] at J; cases J
    | cons c u a4=>
     rw [List.zip_cons_cons] at J;injection J with a5 a2
     injection a5 with hy hx
     subst hy hx;rw [lexLt_cons] at U;simp only [F4] at B;obtain ⟨e,he,Y⟩:=Qkr A.in1 ⟨hp,g,d,tk,os⟩ a t c u;refine aF (he prog w _ _ ?_);cases e with
     | true=>
      rw [bQ (Y.mp rfl)] at U
      wp_walk
      exact ⟨rfl,rfl,_,_,_,_,a2,a3,a4,by omega,U⟩
     | false=>
      rw [bS (fun q=>absurd (Y.mpr q) D1)] at U
      have a6:=Qj0 A.in1 ⟨hp,g,d,tk,os⟩ a t c u prog w
      wp_walk using a6
      exact ⟨_,rfl,by simpa using U⟩
  case fin=>
   rintro ⟨b1,b2⟩ s' ⟨Z,rfl,vs,ws,G,I,J,a1,O,B,U⟩;simp only at Z;subst Z;have hv:lexLt G I=decide (z.size < j.size):=by
    cases a1 with
    | nil=>
     cases O with
     | nil=>
      simp only [List.length_nil] at B;rw [Q7i];exact (bT (by omega)).symm
     | cons c u hw=>
      simp only [List.length_nil,F4] at B;rw [Q65];exact (bU (by omega)).symm
    | cons a t hv=>
     cases O with
     | nil=>
      simp only [List.length_nil,F4] at B;rw [Q66];exact (bT (by omega)).symm
     | cons c u hw=>
      rw [List.zip_cons_cons] at J;cases J
   rw [hv] at U
   wp_walk
   exact ⟨_,rfl,by simpa [Builtin.Tuple.tupleCompareSizes] using U⟩
  case h=>
   exact ⟨rfl,rfl,z.toList,j.toList,ns,ms,rfl,hi,hj,by omega,h⟩
end
section
variable {prog:aL} {w:aK} {A:aN} {E:aB->aC->Prop} {s:aC}
theorem lt_tupInts {l b:aA} {z j:Array aB} {ns ms:List Int} {Q:aB->aC->Prop} (hl:IsTup s.heap l z) (J:IsTup s.heap b j) (hi:IntsAre z.toList ns) (Y:IntsAre j.toList ms)
  (U:A.units < aW) (h:Q (.bool (lexLt ns ms)) s):aH (aI prog w) A (aS .Lt (.ref l) (.ref b)) Q E s:=by
 obtain ⟨⟨cls,dd,data,O⟩,ho,hc,n,hd⟩:=id hl;obtain ⟨⟨I,B,data2,G⟩,ho2,hc2,n2,hd2⟩:=id J;simp only at hc hd hc2 hd2;subst hc hd hc2 hd2;exact richCompare_meets_room (op:=.Lt) ⟨_,ho,rfl⟩ ⟨_,ho2,rfl⟩ PySem.F.slot_tuple_lt PySem.F.entry_tuple_lt (PySem.F.args_tuple_lt_2 _ _) (Q76 l b z j n n2 dd B O G ns ms hi Y)
  ⟨ho,ho2,show Value.bool (lexLt ns ms)≠Value.notImplemented/\Q (.bool (lexLt ns ms)) s from ⟨(fun x=>nomatch x),h⟩⟩ U
theorem cat_tup {t b:aA} {vs j:List aB} {Q:aB->aC->Prop} (Y:IsTup s.heap t vs.toArray) (U:IsTup s.heap b j.toArray) (O:vs≠[])
  (h1:j=[]->Q (.ref t) s) (h2:j≠[]->Q (.ref s.heap.objs.size) { s with heap:=s.heap.push { cls:=.type "tuple",data:=.seq (vs ++ j).toArray } })
  (hsz:vs.length + j.length<=sizeLine):aH (aI prog w) A (aV .Add (.ref t) (.ref b)) Q E s:=by
 obtain ⟨⟨cls,dd,data,I⟩,ho,hc,n,hd⟩:=id Y;obtain ⟨⟨J,z,data2,B⟩,ho2,hc2,n2,hd2⟩:=id U;simp only at hc hd hc2 hd2;subst hc hd hc2 hd2;have e:vs.toArray ++ j.toArray=(vs ++ j).toArray:=by simp
 by_cases G:j=[]
 ·exact concat_meets ⟨_,ho,rfl⟩ ⟨_,ho2,rfl⟩ noFill_tuple_add seq_tuple_add PySem.F.slot_tuple_add PySem.F.entry_tuple_add (PySem.F.args_tuple_add_2 _ _)
   (tuple_addW1 t b vs.toArray j.toArray n n2 dd z I B (by simpa using O) (by simp [G])) ⟨ho,ho2,h1 G⟩
 ·refine concat_meets ⟨_,ho,rfl⟩ ⟨_,ho2,rfl⟩ noFill_tuple_add seq_tuple_add PySem.F.slot_tuple_add PySem.F.entry_tuple_add (PySem.F.args_tuple_add_2 _ _)
   (tuple_addW2 t b vs.toArray j.toArray n n2 dd z I B (by simpa using O) (by simpa using G) (by rw [O4,O4]; exact hsz)) ⟨ho,ho2,?_⟩
  rw [e];exact h2 G
def sIx (n d:Nat):Option Int->Nat
 | none=>d
 | some v=>if v < 0 then (v + (n:Int)).toNat else min v.toNat n
theorem sIx_none (n d:Nat):sIx n d none=d:=rfl
theorem sIx_nat (n d k:Nat):sIx n d (some (k:Int))=min k n:=by
 show (if (k:Int) < 0 then ((k:Int) + (n:Int)).toNat else min (k:Int).toNat n)=min k n;rw [bS (by omega),Int.toNat_natCast]
theorem Qrt (n d:Nat) (hd:d<=n) (o:Option Int):sIx n d o<=n:=by
 cases o with
 | none=>exact hd
 | some v=>
  show (if v < 0 then (v + (n:Int)).toNat else min v.toNat n)<=n
  by_cases j:v < 0
  ·rw [bQ j]; omega
  ·rw [bS j]; exact Nat.min_le_right _ _
theorem Qfu (v:Int) (n d:Nat):(if v < 0 then max (v + (n:Int)) 0 else min v (n:Int))=((sIx n d (some v):Nat):Int):=by
 show (if v < 0 then max (v + (n:Int)) 0 else min v (n:Int))=(((if v < 0 then (v + (n:Int)).toNat else min v.toNat n):Nat):Int)
 by_cases j:v < 0
 ·simp only [bQ j]; omega
 ·simp only [bS j]; omega
theorem Qeh (lo hi:Option Int) (n:Nat):Builtin.Slice.sliceAdjust lo hi 1 (n:Int)=(((sIx n 0 lo:Nat):Int),((sIx n n hi:Nat):Int)):=by
 have h1:¬ ((1:Int) < 0):=by omega
 unfold Builtin.Slice.sliceAdjust;simp only [h1,if_false];refine Prod.ext ?_ ?_
 ·cases lo with
  | none=>rfl
  | some v=>exact Qfu v n 0
 ·cases hi with
  | none=>rfl
  | some v=>exact Qfu v n n
theorem Qdp (i j:Nat):Builtin.Slice.slicePlaces (i:Int) (j:Int) 1=j - i:=by
 unfold Builtin.Slice.slicePlaces;have h1:(1:Int) > 0:=by omega
 simp only [h1,if_true,Int.ediv_one]
 split <;> omega
theorem Q54 {v:aB} {o:Option Int} {Q:Option Int->aC->Prop} (p:IsPart v o) (h:Q o s):aH (aI prog w) A (Builtin.Slice.slicePartIndex v) Q E s:=by
 cases p with
 | none=>exact slicePart_none h
 | int i t=>exact slicePart_int h
theorem jv {I:aA} {G B:aB} {lo hi:Option Int} {n:Nat} {Q:Int × Int × Nat->aC->Prop} (hs:s.heap.IsSliceOf I G B .none) (J:IsPart G lo) (O:IsPart B hi)
  (h:Q (((sIx n 0 lo:Nat):Int),1,sIx n n hi - sIx n 0 lo) s):aH (aI prog w) A (Builtin.Slice.sliceApplied (.ref I) (pure (n:Int))) Q E s:=by
 obtain ⟨os,z,U,j⟩:=id hs;unfold Builtin.Slice.sliceApplied Builtin.Slice.sliceFields;refine aF (aF (aY z j (x:=G) rfl (aF (aY z j (x:=B) rfl (aF (aY z j (x:=.none) rfl (aO ?_)))))));refine aF (slicePart_none ?_);show aH _ _ (if ((1:Int) == 0)=true then _ else _) _ _ s;rw [bS (by decide)];refine aF (Q54 J (aF (Q54 O (aF (aO ?_)))));show aH _ _ (match Builtin.Slice.sliceAdjust lo hi 1 (n:Int) with | (lo,hi)=>pure (lo,(1:Int),Builtin.Slice.slicePlaces lo hi 1)) _ _ s
 rw [Qeh lo hi n];show aH _ _ (pure (((sIx n 0 lo:Nat):Int),(1:Int),Builtin.Slice.slicePlaces ((sIx n 0 lo:Nat):Int) ((sIx n n hi:Nat):Int) 1)) _ _ s;rw [Qdp];exact aO h
theorem Qjd (xs:Array aB) (i k:Nat):((List.range k).filterMap fun (m:Nat)=>xs[((i:Int) + (m:Int) * 1).toNat]?).toArray=((xs.toList.drop i).take k).toArray:=by
 have e:(fun (m:Nat)=>xs[((i:Int) + (m:Int) * 1).toNat]?)=fun m=>xs[i + m]?:=by
  funext m;have:((i:Int) + (m:Int) * 1).toNat=i + m:=by omega
  rw [this]
 rw [e];have:=pick_run xs i k;rw [List.filterMap_map] at this;have e2:((fun x=>xs[x]?) ∘ fun x=>i + x)=fun m=>xs[i + m]?:=rfl
 rw [e2] at this;rw [this]
theorem getItem_tuple_cut {t G:aA} {j:Array aB} {Z Y:aB} {lo hi:Option Int} {Q:aB->aC->Prop} (B:IsTup s.heap t j) (hs:s.heap.IsSliceOf G Z Y .none) (pl:IsPart Z lo) (pu:IsPart Y hi)
  (hw:¬ (sIx j.size 0 lo=0/\sIx j.size j.size hi=j.size))
  (h:Q (.ref s.heap.objs.size) { s with heap:=s.heap.push { cls:=.type "tuple",data:=.seq ((j.toList.drop (sIx j.size 0 lo)).take (sIx j.size j.size hi - sIx j.size 0 lo)).toArray } })
  (hsz:j.size<=sizeLine):aH (aI prog w) A (getItem (.ref t) (.ref G)) Q E s:=by
 have z:sizeOk (.seq ((j.toList.drop (sIx j.size 0 lo)).take (sIx j.size j.size hi - sIx j.size 0 lo)).toArray):=by
  show ((j.toList.drop (sIx j.size 0 lo)).take (sIx j.size j.size hi - sIx j.size 0 lo)).toArray.size<=sizeLine;rw [O4,List.length_take,List.length_drop,Array.length_toList];omega
 have hj:sIx j.size j.size hi<=j.size:=Qrt _ _ (O6 _) hi;obtain ⟨os,U,J,a1⟩:=id hs;have I:s.TypeIs (.ref G) "slice" := ⟨os,U,J⟩;unfold getItem
 try with_reducible refine au ?_
 first | refine aF (aO ?_) | skip
 refine aF (wpAny_sequenceKey B.typeIs (by decide) ?_);refine aF (wpAny_callSpecial?_slot (name:=Str.ofString "__getitem__") B.typeIs PyProof.Rows.slot_tuple_getitem
  (aq PyProof.Rows.slot_tuple_getitem B.typeIs entry_tuple_getitem ?_ (args_tuple_getitem _ _)))
 show aH _ _ (Builtin.Tuple.tupleItemsOf (.ref t) >>= _) _ _ s;refine aF (tupleItemsOf_ B ?_);refine aF (bL I ?_);rw [bQ (by decide)];refine aF (jv hs pl pu ?_);have O:¬ ((((sIx j.size 0 lo:Nat):Int) == 0 && (1:Int) == 1 && (sIx j.size j.size hi - sIx j.size 0 lo) == j.size)=true):=by
  intro q;rw [L6,L6] at q;have q1:((sIx j.size 0 lo:Nat):Int)=0:=eq_of_beq q.1.1;have q2:sIx j.size j.size hi - sIx j.size 0 lo=j.size:=eq_of_beq q.2;exact hw ⟨by omega,by omega⟩
 show aH _ _ (if (((sIx j.size 0 lo:Nat):Int) == 0 && (1:Int) == 1 && (sIx j.size j.size hi - sIx j.size 0 lo) == j.size)=true then _ else _) _ _ s;rw [bS O,Qjd]
 first
  | exact aF (m:=Builtin.Tuple.tupleExact _) (ay (aO ⟨_,rfl,aO h⟩) z)
  | exact aF (m:=Builtin.Tuple.tupleExact _) (ay (aF (aO (aO ⟨_,rfl,aO h⟩))) z)
  | exact aF (aF (m:=Builtin.Tuple.tupleExact _) (ay (aO (aO ⟨_,rfl,aO h⟩)) z))
  | exact aF (aF (m:=Builtin.Tuple.tupleExact _) (ay (aO ⟨_,rfl,aO h⟩) z))
end
end HT
namespace L2
open PySem PySem.Spec PyProof.Rows
abbrev TO:=St->Hp->(Option Int->Hp->Prop)->Prop
def PO (X:Cx) (e:Option aD) (t:TO):Prop:=
 ∀ (pins:List (aA × Obj)) (s:aC) (σ:St) (H:Hp) (Q:Option Int->Hp->Prop),Inv X pins σ H s->t σ H Q ->
  aH (aI X.prog X.w) X.A (evalPart e X.env) (fun u s'=>∃ o H',Inv X pins σ H' s'/\IsPart u o/\Q o H') X.xe s
def Qmv:TO:=fun _ H Q=>Q none H
def Quq (t:TE):TO:=fun σ H Q=>t σ H fun x H1=>∃ i,x=.int i/\Q (some i) H1
theorem qz {ns:List Int}:∀ {j:List aB},Vals (ns.map V.int) j->IntsAre j ns:=by
 induction ns with
 | nil=>intro j r; rw [List.map_nil] at r; cases r; exact .nil
 | cons n ns G=>
  intro j r;rw [D2] at r;cases r with
  | cons z B=>
   obtain ⟨t,e⟩:=z;subst e;exact .cons n t (G B)
section
variable {X:Cx} {e:aD} {te:TE} {lo hi:Option aD} {tl th:TO} {pos p2:Pos}
theorem Qnv:PO X none Qmv:=by
 intro pins s σ H Q I h;rw [evalPart_none];exact aO ⟨none,H,I,.none,h⟩
theorem Qnu (h:PE X e te):PO X (some e) (Quq te):=by
 intro pins s σ H Q I z;rw [evalPart_some];refine thn (h pins s σ H _ I z) fun u G ⟨x,H1,B,j,q1⟩=>?_
 obtain ⟨i,rfl,q⟩:=q1;obtain ⟨t,rfl⟩:=j;exact ⟨some i,H1,B,.int i t,q⟩
def SlR (X:Cx) (r:V->Option Int->Option Int->Hp->VK->Prop):Prop:=
 ∀ (pins:List (aA × Obj)) (s:aC) (σ:St) (H:Hp) (x:V) (v vl vu:aB) (lo hi:Option Int) (sl:aA) (Q:VK),Inv X pins σ H s->RelV x v->s.heap.IsSliceOf sl vl vu .none->IsPart vl lo->IsPart vu hi->r x lo hi H Q ->
  ∃ T id,typeLookup (.type T) "__getitem__" = pure (some (.builtin id))/\s.TypeIs v T/\aH (aI X.prog X.w) X.A (getItem v (.ref sl)) (EP X pins σ Q) X.xe s
theorem SlR.or {r U:V->Option Int->Option Int->Hp->VK->Prop} (h:SlR X r) (h':SlR X U):SlR X (fun x lo hi H Q=>r x lo hi H Q\/U x lo hi H Q):=by
 intro pins s σ H x v G j lo hi z Q I J hs B O q;rcases q with q | q
 ·exact h pins s σ H x v G j lo hi z Q I J hs B O q
 ·exact h' pins s σ H x v G j lo hi z Q I J hs B O q
def tSl (r:V->Option Int->Option Int->Hp->VK->Prop) (te:TE) (tl th:TO):TE:=fun σ H Q=>te σ H fun x H1=>tl σ H1 fun l H2=>th σ H2 fun u H3=>r x l u H3 Q
theorem Qjh {r:V->Option Int->Option Int->Hp->VK->Prop} (hr:SlR X r) (Y:PE X e te) (hl:PO X lo tl) (hu:PO X hi th):PE X (.Subscript e (.Slice lo hi none p2) pos) (tSl r te tl th):=by
 intro pins s σ H Q I h;refine Subscript_ (thn (Y pins s σ H _ I h) fun v s1 ⟨x,H1,I1,r1,q1⟩=>?_)
 refine wpAny_Slice (thn (hl pins s1 σ H1 _ I1 q1) fun B U ⟨l,H2,I2,pl,q2⟩=>thn (hu pins U σ H2 _ I2 q2) fun z j ⟨u,G,I3,O,q3⟩=>?_)
 rw [evalPart_none];refine aO ?_;have Z:Inv X pins σ G { j with heap:=j.heap.push { cls:=.type "slice",data:=.fields #[B,z,.none] } }:=I3.kept (t':=j.toks) fun b ob q=>O1 _ q
 obtain ⟨T,id,hT,ht,J⟩:=hr pins { j with heap:=j.heap.push { cls:=.type "slice",data:=.fields #[B,z,.none] } } σ G x v B z l u j.heap.objs.size Q Z r1 (Heap.IsSliceOf.new ..) pl O q3;show aH (aI X.prog X.w) X.A (subscriptTail e (.Slice lo hi none p2) v (.ref j.heap.objs.size)) (EP X pins σ Q) X.xe { j with heap:=j.heap.push { cls:=.type "slice",data:=.fields #[B,z,.none] } };exact tail_any (ops:=[.ref j.heap.objs.size,v]) ht hT J (by with_unfolding_all rfl)
def Qcs (xs:List V) (lo hi:Option Int):List V:=(xs.drop (HT.sIx xs.length 0 lo)).take (HT.sIx xs.length xs.length hi - HT.sIx xs.length 0 lo)
theorem Q44 (xs:List V) (lo hi:Option Int):(Qcs xs lo hi).length<=xs.length:=by
 unfold Qcs;rw [List.length_take,List.length_drop];omega
def Qy3 (K:PySem.W.Frag):V->Option Int->Option Int->Hp->VK->Prop:=fun x lo hi H Q=>∃ a xs,x=.ref a/\SqT K H a xs /\
 ¬ (HT.sIx xs.length 0 lo=0/\HT.sIx xs.length xs.length hi=xs.length)/\∀ p,H p=none->Q (.ref p) (upd H p (.tup (Qcs xs lo hi)))
theorem sl_tup:SlR X (Qy3 X.K):=by
 intro pins s σ H x v vl Z lo hi sl Q I O hs J U h;obtain ⟨a,xs,rfl,G,Y,q⟩:=h;cases O;obtain ⟨its,r,B,z⟩:=I.tuple G;have j:its.toArray.size=xs.length:=by rw [O4]; exact r.length.symm
 refine ⟨"tuple",_,PyProof.Rows.slot_tuple_getitem.lookup,B.typeIs,?_⟩;refine HT.getItem_tuple_cut B hs J U (by rw [j]; exact Y) ?_ (by rw [j]; exact z);rw [j];refine ⟨.ref s.heap.objs.size,_,I.laid (t':=s.toks) (o:=.tup (Qcs xs lo hi)) (fun b ob q=>O1 _ q) (O6 _) ?_,rfl,q _ (I.hok.fresh (O6 _))⟩;exact ⟨F0 (Q44 xs lo hi) z,_,(r.drop (HT.sIx xs.length 0 lo)).take (HT.sIx xs.length xs.length hi - HT.sIx xs.length 0 lo),IsTup.new _ _⟩
def Qy6 (K:PySem.W.Frag):R2:=fun x y H Q=>∃ a b ns ms,x=.ref a/\y=.ref b/\SqT K H a (ns.map V.int)/\SqT K H b (ms.map V.int)/\Q (.bl (HT.lexLt ns ms)) H
theorem Qsi (hu:X.A.units < aW):OpR X (aS .Lt) (Qy6 X.K):=by
 intro pins s σ H x y v u Q I O Z h;obtain ⟨a,b,ns,ms,rfl,rfl,Y,G,q⟩:=h;cases O;cases Z;obtain ⟨its,z,B,_⟩:=I.tuple Y;obtain ⟨j,J,p2,_⟩:=I.tuple G;have i1:IntsAre its.toArray.toList ns:=qz z;have U:IntsAre j.toArray.toList ms:=qz J;exact HT.lt_tupInts B p2 i1 U hu ⟨.bl (HT.lexLt ns ms),H,I,rfl,q⟩
def Qqx (K:PySem.W.Frag):R2:=fun x y H Q=>∃ a b xs ys,x=.ref a/\y=.ref b/\SqT K H a xs/\SqT K H b ys/\xs≠[]/\xs.length + ys.length<=sizeLine /\
 (ys=[]->Q (.ref a) H)/\(ys≠[]->∀ p,H p=none->Q (.ref p) (upd H p (.tup (xs ++ ys))))
theorem Vals.nil_iff {xs:List V} {j:List aB} (r:Vals xs j):j=[] <-> xs=[]:=by
 cases r with
 | nil=>simp
 | cons _ _=>simp
theorem op_catT:OpR X (aV .Add) (Qqx X.K):=by
 intro pins s σ H x y v u Q I Z ry h;obtain ⟨a,b,xs,ys,rfl,rfl,ha,U,Y,G,q1,q2⟩:=h;cases Z;cases ry;obtain ⟨its,B,O,_⟩:=I.tuple ha;obtain ⟨J,j,p2,_⟩:=I.tuple U;refine HT.cat_tup O p2 (fun z=>Y (B.nil_iff.mp z)) (fun z=>⟨.ref a,H,I,rfl,q1 (j.nil_iff.mp z)⟩) (fun z=>?_) (by rw [<- B.length,<- j.length]; exact G)
 refine ⟨.ref s.heap.objs.size,_,I.laid (t':=s.toks) (o:=.tup (xs ++ ys)) (fun b ob q=>O1 _ q) (O6 _) ?_,rfl,q2 (fun w=>z (j.nil_iff.mpr w)) _ (I.hok.fresh (O6 _))⟩;exact ⟨by rw [D7]; exact G,_,B.append j,IsTup.new _ _⟩
end
def ixN (n:Nat) (i:Int):Option Nat:=if 0<=i then (if i < n then some i.toNat else none) else if -(n:Int)<=i then some (i + n).toNat else none
def atI {α:Type} (xs:List α) (i:Int):Option α:=(ixN xs.length i).bind fun j=>xs[j]?
theorem Qfe {n:Nat} {i:Int} {j:Nat} (h:ixN n i=some j):seqIndex? i n=some j/\j < n/\-(n:Int)<=i/\i < n:=by
 unfold ixN at h
 by_cases z:0<=i
 ·rw [bQ z] at h
  by_cases h1:i < n
  ·rw [bQ h1] at h;have e:i.toNat=j:=Option.some.inj h;exact ⟨by rw [seqIndex_of z h1,e],by omega,by omega,h1⟩
  ·rw [bS h1] at h; cases h
 ·rw [bS z] at h
  by_cases h1:-(n:Int)<=i
  ·rw [bQ h1] at h;have e:(i + n).toNat=j:=Option.some.inj h;exact ⟨by rw [seqIndex_neg (by omega) h1,e],by omega,h1,by omega⟩
  ·rw [bS h1] at h; cases h
theorem atI_get {α:Type} {xs:List α} {i:Int} {v:α} (h:atI xs i=some v):∃ j,seqIndex? i xs.length=some j/\xs[j]?=some v/\j < xs.length/\-(xs.length:Int)<=i/\i < xs.length:=by
 unfold atI at h;cases e:ixN xs.length i with
 | none=>rw [e] at h; cases h
 | some j=>
  rw [e] at h;obtain ⟨h1,h2,z,B⟩:=Qfe e;exact ⟨j,h1,h,h2,z,B⟩
def Qaw (b:aD):Prop:=∀ o i,subscripted b false o i=operate [o,i] (getItem o i)
def IxR (X:Cx) (r:R2):Prop:=
 ∀ (value slice:aD) (pins:List (aA × Obj)) (s:aC) (σ:St) (H:Hp) (x y:V) (v u:aB) (Q:VK),Inv X pins σ H s->RelV x v->RelV y u->r x y H Q ->
  subscripted slice false v u=operate [v,u] (getItem v u)->aH (aI X.prog X.w) X.A (subscriptTail value slice v u) (EP X pins σ Q) X.xe s
def MtR (X:Cx) (id:String) (r:V->List V->Hp->VK->Prop):Prop:=
 ∀ (pins:List (aA × Obj)) (s:aC) (σ:St) (H:Hp) (x:V) (xs:List V) (v:aB) (us:List aB) (Q:VK),Inv X pins σ H s->RelV x v->Vals xs us->r x xs H Q ->
  aH (aI X.prog X.w) X.A (call (.builtin id) (v :: us)) (EP X pins σ Q) X.xe s
section
variable {X:Cx} {a b:aD} {ta tb:TE} {pos:Pos}
theorem IxR.or {r G:R2} (h:IxR X r) (h':IxR X G):IxR X (fun x y H Q=>r x y H Q\/G x y H Q):=by
 intro value j pins s σ H x y v u Q I z B q hs;rcases q with q | q
 ·exact h value j pins s σ H x y v u Q I z B q hs
 ·exact h' value j pins s σ H x y v u Q I z B q hs
theorem Qr1 {r:R2} (B:IxR X r) (O:PE X a ta) (z:PE X b tb) (hs:Qaw b):PE X (.Subscript a b pos) (tOp r ta tb):=by
 intro pins s σ H Q I h;exact Subscript_ (Qtv O z I h fun v u j x y H2 J G U q=>B a b pins j σ H2 x y v u Q J G U q (hs _ _))
def Qv8 (K:PySem.W.Frag):R2:=fun x y H Q=>∃ p xs i v,x=.ref p/\y=.int i/\SqL K H p xs/\atI xs i=some v/\Q v H
def Qv6 (K:PySem.W.Frag):R2:=fun x y H Q=>∃ p xs i v,x=.ref p/\y=.int i/\SqT K H p xs/\atI xs i=some v/\Q v H
def Qv7:R2:=fun x y H Q=>∃ z i c,x=.str z/\y=.int i/\z.length<=sizeLine/\atI z.cps.toList i=some c/\Q (.str ⟨#[c]⟩) H
theorem ix_list:IxR X (Qv8 X.K):=by
 intro value B pins s σ H x y v u Q I Z ry h hs;obtain ⟨p,xs,i,z,rfl,rfl,hq,he,q⟩:=h;cases Z;obtain ⟨t,rfl⟩:=ry;obtain ⟨its,r,O,hz⟩:=I.list hq;obtain ⟨j,h1,h2,h3,h4,h5⟩:=atI_get he;obtain ⟨w,Y,G⟩:=r.get h2;have hl:=r.length;have hn:=Q3e;have fin:EP X pins σ Q w s:=⟨z,H,I,G,q⟩
 by_cases U:0<=i
 ·have J:i.toNat=j:=by
   rw [seqIndex_of U h5] at h1;exact Option.some.inj h1
  exact item_listR O.isList U (by omega) (by rw [J]; simpa using Y) fin hs
 ·have J:(i + (its.toArray.size:Int)).toNat=j:=by
   rw [seqIndex_neg (by omega) h4] at h1;rw [O4,<- hl];exact Option.some.inj h1
  exact subscriptTail_builtinR (x:=w) O.isList.typeIs slot_list_getitem.lookup
   (wpAny_getItem_list_neg (Q:=fun r s'=>r=w/\EP X pins σ Q r s') O.isList (by omega) (by rw [O4] <;> omega) (by omega) (by rw [J]; simpa using Y) ⟨rfl,fin⟩) hs
theorem ix_tup:IxR X (Qv6 X.K):=by
 intro value B pins s σ H x y v u Q I Y Z h hs;obtain ⟨p,xs,i,z,rfl,rfl,U,O,q⟩:=h;cases Y;obtain ⟨t,rfl⟩:=Z;obtain ⟨its,r,J,hz⟩:=I.tuple U;obtain ⟨j,h1,h2,h3,h4,h5⟩:=atI_get O;obtain ⟨w,ew,G⟩:=r.get h2;have hl:=r.length;have hn:=Q3e;have fin:EP X pins σ Q w s:=⟨z,H,I,G,q⟩;exact subscriptTail_builtinR (x:=w) J.typeIs slot_tuple_getitem.lookup
  (getItem_tuple (j:=j) (Q:=fun r s'=>r=w/\EP X pins σ Q r s') J (by omega) (by omega) (by rw [O4,<- hl]; exact h1) (by simpa using ew) ⟨rfl,fin⟩) hs
theorem Qt7:IxR X Qv7:=by
 intro value B pins s σ H x y v u Q I O U h hs;obtain ⟨z,i,c,rfl,rfl,hz,J,q⟩:=h;obtain ⟨t,rfl⟩:=O;obtain ⟨t',rfl⟩:=U;obtain ⟨j,h1,h2,Z,Y,G⟩:=atI_get J;have hl:z.cps.toList.length=z.length:=by simp [Str.length]
 rw [hl] at h1 Y G;have hn:=Q3e;exact tail_any (typeIs_str s z t) slot_str_getitem.lookup (getItem_str (c:=c) (by
  have e1:decide (i < -(2 ^ 63:Int))=false:=bT (by omega);have e2:decide (i>=2 ^ 63)=false:=bT (by omega);rw [e1,e2,Bool.or_false]) (by rw [h1]; simpa using h2) ⟨.str ⟨#[c]⟩,H,I.tok _,⟨_,rfl⟩,q⟩) hs
def rIx (K:PySem.W.Frag):R2:=fun x y H Q=>Qv8 K x y H Q\/Qv6 K x y H Q\/Qv7 x y H Q
theorem Qt8:IxR X (rIx X.K):=ix_list.or (ix_tup.or Qt7)
theorem Qe2 (its:List aB) (n j:Nat) (u:aB):Obj.mapSeq (·.setIfInBounds j u) { cls:=.type "list",data:=.seq its.toArray n }={ cls:=.type "list",data:=.seq (its.set j u).toArray n }:=by
 simp [Obj.mapSeq]
theorem Inv.lst {pins:List (aA × Obj)} {σ:St} {H:Hp} {s:aC} {p:aA} {xs:List V} (I:Inv X pins σ H s) (h:H p=some (.lst xs)) :
  ∃ (its:List aB) (n:Nat),Vals xs its/\s.heap.get? p=some { cls:=.type "list",data:=.seq its.toArray n }/\xs.length<=sizeLine:=by
 obtain ⟨z,its,n,r,e⟩:=I.hok p _ h;exact ⟨its,n,r,e,z⟩
theorem Inv.lstUpd {pins:List (aA × Obj)} {σ:St} {H:Hp} {s:aC} {p:aA} {xs ys:List V} {its its':List aB} {n j:Nat} {f:Obj->Obj} (I:Inv X pins σ H s) (h:H p=some (.lst xs))
  (J:s.heap.get? p=some { cls:=.type "list",data:=.seq its.toArray n }) (z:f { cls:=.type "list",data:=.seq its.toArray n }={ cls:=.type "list",data:=.seq its'.toArray j }) (r:Vals ys its') (G:ys.length<=sizeLine) (t:Nat) :
  Inv X pins σ (upd H p (.lst ys)) { s with heap:=s.heap.update p f,toks:=t }:=by
 have e:(s.heap.update p f).get? p=some { cls:=.type "list",data:=.seq its'.toArray j }:=by
  rw [L8 f J (by rw [z] <;> rfl),z]
 refine I.write (x:=p) (e:=p) (by rw [h]; trivial) (.inl rfl) (fun b u B q=>(F2 _ _ (Ne.symm B)).trans q) ⟨_,e⟩ ?_
 exact ⟨G,its',j,r,e⟩
def Qv4:V->V->V->Hp->(Hp->Prop)->Prop:=fun o i v H Q=>∃ p xs k j,o=.ref p/\i=.int k/\H p=some (.lst xs)/\ixN xs.length k=some j/\Q (upd H p (.lst (xs.set j v)))
theorem Qip:Qwy X Qv4:=by
 intro pins s σ H o i v ov iv u Q I Z ri rv h;obtain ⟨p,xs,k,j,rfl,rfl,hp,hj,q⟩:=h;cases Z;obtain ⟨t,rfl⟩:=ri;obtain ⟨its,n,r,z,Y⟩:=I.lst hp;obtain ⟨h1,h2,G,O⟩:=Qfe hj;have hl:=r.length;have hn:=Q3e;have J:Inv X pins σ (upd H p (.lst (xs.set j v))) { s with heap:=s.heap.update p (Obj.mapSeq (·.setIfInBounds j u)) }:=
  I.lstUpd hp z (Qe2 its n j u) (r.set rv j) (by rw [G9]; exact Y) s.toks
 by_cases U:0<=k
 ·have B:k.toNat=j:=by
   rw [seqIndex_of U O] at h1;exact Option.some.inj h1
  exact PySem.W.ki_setAt z U (by omega) (by rw [O4,<- hl]; exact O) (by rw [B]; exact ⟨_,J,q⟩)
 ·have B:(k + (its.toArray.size:Int)).toNat=j:=by
   rw [seqIndex_neg (by omega) G] at h1;rw [O4,<- hl];exact Option.some.inj h1
  exact PySem.W.ki_setBack z (by omega) (by rw [O4,<- hl]; exact G) (by omega) (by rw [B]; exact ⟨_,J,q⟩)
theorem Q9b (lo hi:Option Int) (n:Nat):(bF lo hi none n).1=((HT.sIx n 0 lo:Nat):Int)/\(bF lo hi none n).2.1=((HT.sIx n n hi:Nat):Int)/\(bF lo hi none n).2.2=1:=by
 refine ⟨?_,?_,rfl⟩
 ·cases lo with
  | none=>simp [bF,HT.sIx]
  | some i=>
   simp only [bF,HT.sIx,Option.getD_none,show (1:Int) > 0 by decide,if_true]
   by_cases h:i < 0
   ·simp only [h,if_true] <;> omega
   ·simp only [h,if_false] <;> omega
 ·cases hi with
  | none=>simp [bF,HT.sIx]
  | some i=>
   simp only [bF,HT.sIx,Option.getD_none,show (1:Int) > 0 by decide,if_true]
   by_cases h:i < 0
   ·simp only [h,if_true] <;> omega
   ·simp only [h,if_false] <;> omega
theorem Q77 (its:List aB) (lo hi:Option Int):slicePick its.toArray lo hi none=((its.drop (HT.sIx its.length 0 lo)).take (HT.sIx its.length its.length hi - HT.sIx its.length 0 lo)).toArray:=by
 obtain ⟨h1,h2,j⟩:=Q9b lo hi its.toArray.size;unfold slicePick;rw [h1,h2,j];simp only [sliceRange_one,pick_run,O4] <;> rfl
def Qy4 (K:PySem.W.Frag):V->Option Int->Option Int->Hp->VK->Prop:=fun x lo hi H Q=>∃ a xs,x=.ref a/\SqL K H a xs/\∀ p,H p=none->Q (.ref p) (upd H p (.lst (Qcs xs lo hi)))
theorem Qn2:SlR X (Qy4 X.K):=by
 intro pins s σ H x v vl Y lo hi Z Q I O hs J U h;obtain ⟨a,xs,rfl,G,q⟩:=h;cases O;obtain ⟨its,r,z,B⟩:=I.list G;have j:=r.length;refine ⟨"list",_,slot_list_getitem.lookup,z.isList.typeIs,?_⟩;refine wpAny_getItem_list_slice z.isList hs J U .none (by simp) ?_ (by rw [O4] <;> omega);rw [Q77,<- j];refine ⟨.ref s.heap.objs.size,_,I.laid (t':=s.toks) (o:=.lst (Qcs xs lo hi)) (fun b ob q=>O1 _ q) (O6 _) ?_,rfl,q _ (I.hok.fresh (O6 _))⟩;exact ⟨F0 (Q44 xs lo hi) B,_,0,(r.drop (HT.sIx xs.length 0 lo)).take (HT.sIx xs.length xs.length hi - HT.sIx xs.length 0 lo),D0 _ rfl⟩
theorem Qar:Ur X (.builtin "len") (fun xs H Q=>∃ p ys,xs=[.ref p]/\(SqL X.K H p ys\/SqT X.K H p ys)/\Q (.int ys.length) H):=by
 intro pins s σ H xs U Q I r h;obtain ⟨p,ys,rfl,z,q⟩:=h;obtain ⟨u,rfl,O⟩:=yf r;cases O;have Y:=Q3e;rcases z with z | z
 ·obtain ⟨its,G,B,J⟩:=I.list z;have j:=G.length;exact Calls.call_len_list B.isList (by simp only [O4] <;> omega) ⟨.int ys.length,H,I.tok _,⟨s.toks + 1,by rw [O4,j]⟩,q⟩
 ·obtain ⟨its,G,B,J⟩:=I.tuple z;have j:=G.length;exact len_tuple B (by simp only [O4] <;> omega) ⟨.int ys.length,H,I.tok _,⟨s.toks + 1,by rw [O4,j]⟩,q⟩
theorem Qaq:Ur X (.builtin "len") (fun xs H Q=>∃ z,xs=[.str z]/\z.length<=sizeLine/\Q (.int z.length) H):=by
 intro pins s σ H xs B Q I r h;obtain ⟨z,rfl,j,q⟩:=h;obtain ⟨u,rfl,t,rfl⟩:=yf r;have G:=Q3e;exact len_str (by omega) ⟨.int z.length,H,I.tok _,⟨_,rfl⟩,q⟩
theorem Q0z:Ur X (.type "tuple") (fun xs H Q=>∃ p ys,xs=[.ref p]/\((SqL X.K H p ys/\∀ l,H l=none->Q (.ref l) (upd H l (.tup ys)))\/(SqT X.K H p ys/\Q (.ref p) H))):=by
 intro pins s σ H xs Z Q I r h;obtain ⟨p,ys,rfl,h⟩:=h;obtain ⟨u,rfl,U⟩:=yf r;cases U;rcases h with ⟨j,q⟩ | ⟨j,q⟩
 ·obtain ⟨its,B,z,G⟩:=I.list j;have J:=B.length;refine call_tuple_list z.isList (fun h' kp=>?_) (by simp only [O4] <;> omega);have O:Inv X pins σ H { s with heap:=h' }:=I.kept (t':=s.toks) kp;have Y:Inv X pins σ (upd H h'.objs.size (.tup ys)) { s with heap:=h'.push { cls:=.type "tuple",data:=.seq its.toArray } }:=
   O.laid (t':=s.toks) (fun b o e=>O1 _ e) (O6 _) (show ObjOk X.prog X.w _ _ _ (.tup ys) from ⟨G,its,B,IsTup.new _ _⟩)
  exact ⟨.ref h'.objs.size,_,Y,rfl,q _ (O.hok.fresh (O6 _))⟩
 ·obtain ⟨its,B,z,G⟩:=I.tuple j;exact call_tuple_same z ⟨.ref p,H,I,rfl,q⟩
def tyV (K:PySem.W.Frag) (T:String) (x:V) (H:Hp):Prop:=match x with
 | .str _=>T = "str"
 | .int _=>T = "int"
 | .ref p=>(T = "list" /\ ∃ xs,SqL K H p xs)\/(T = "tuple" /\ ∃ o,K.lookup p=some o/\o.cls=.type "tuple" /\ o.dict=none) \/
   (T = "dict" /\ ((∃ kvs,H p=some (.dK kvs))\/∃ kvs,H p=some (.dT kvs)))\/(T = "set" /\ ∃ S n,H p=some (.set S n))
 | _=>False
theorem Qre {pins:List (aA × Obj)} {σ:St} {H:Hp} {s:aC} {T:String} {x:V} {v:aB} (I:Inv X pins σ H s) (r:RelV x v) (ty:tyV X.K T x H) :
  s.TypeIs v T/\∀ a,v=.ref a->∃ ob,s.heap.get? a=some ob/\ob.dict=none:=by
 cases x with
 | str z=>
  obtain ⟨t,rfl⟩:=r;cases (show T = "str" from ty);exact ⟨typeIs_str s z t,fun _ e=>nomatch e⟩
 | int i=>
  obtain ⟨t,rfl⟩:=r;cases (show T = "int" from ty);exact ⟨typeIs_int s i t,fun _ e=>nomatch e⟩
 | ref p=>
  cases r;rcases ty with ⟨rfl,xs,J⟩ | ⟨rfl,o,j,G,hd⟩ | ⟨rfl,j⟩ | ⟨rfl,S,n,j⟩
  ·obtain ⟨its,_,B,_⟩:=I.list J;refine ⟨B.isList.typeIs,fun a e=>?_⟩;cases e;obtain ⟨o,n,e,c,hd,_⟩:=B;exact ⟨o,e,hd⟩
  ·refine ⟨⟨o,I.kIn p o j,G⟩,fun a e=>?_⟩
   cases e;exact ⟨o,I.kIn _ o j,hd⟩
  ·have z:∃ o,s.heap.get? p=some o/\o.ExactDict:=by
    rcases j with ⟨kvs,j⟩ | ⟨kvs,j⟩
    ·obtain ⟨_,_,_,_,o,_,_,e,ex,_⟩:=I.hok p _ j;exact ⟨o,e,ex⟩
    ·obtain ⟨_,_,_,_,o,_,_,e,ex,_⟩:=I.hok p _ j;exact ⟨o,e,ex⟩
   obtain ⟨o,e,ex⟩:=z;refine ⟨⟨o,e,ex.1⟩,fun a e2=>?_⟩
   cases e2;exact ⟨o,e,ex.2.1⟩
  ·obtain ⟨o,_,_,_,e,ex,_⟩:=I.hok p _ j;refine ⟨⟨o,e,ex.1⟩,fun a e2=>?_⟩
   cases e2;exact ⟨o,e,ex.2.1⟩
 | _=>exact False.elim ty
def tBM (K:PySem.W.Frag) (T:String) (r:V->List V->Hp->VK->Prop) (to:TE) (t:TA):TE:=fun σ H Q=>to σ H fun x H1=>tyV K T x H1/\t σ H1 fun xs H2=>r x xs H2 Q
variable {o e:aD} {es:List aD} {to:TE} {t:TA} {name:Str} {apos cpos:Pos} {T id:String} {r:V->List V->Hp->VK->Prop}
theorem Qjm (pa:PlainAttrs T) (slot:Slot T name id) (J:typeOf (.builtin id)=pure (.type "method_descriptor")) (hm:MtR X id r) (ho:PE X o to) (ha:PA X (e :: es) t)
  (B:bH o name X.env (aQ o X.env)=aQ o X.env:=by rfl)
  (G:((aU cpos (aP (e :: es) X.env)).all (fun x=>!x.1) && (backToKw cpos (keywordEach [] X.env)).all (fun x=>x.1.isSome)
   && decide ((e :: es).length + ([]:List Keyword).length + (if ([]:List Keyword).isEmpty then 0 else 1) < 30))=true:=by rfl)
  (z:(apos.endLine == cpos.line)=true:=by rfl) (hs:aP (e :: es) X.env=(false,aQ e X.env) :: aP es X.env:=by rfl) (j:(aU cpos (aP es X.env)).any (·.1)=false:=by rfl) :
  PE X (.Call (.Attribute o name apos) (e :: es) [] cpos) (tBM X.K T r to t):=by
 intro pins s σ H Q I h;refine wpAny_Call_method_late B G z rfl (thn (ho pins s σ H _ I h) fun v s1 ⟨x,H1,Y,O,ty,q1⟩=>?_)
 obtain ⟨h1,h2⟩:=Qre Y O ty;refine ⟨T,id,pa,slot,J,h1,h2,?_⟩;have U:=ha cpos pins s1 σ H1 _ Y q1;rw [hs] at U ⊢;refine Calls.callWith_builtin (by show (false || (aU cpos (aP es X.env)).any (·.1))=false; rw [j] <;> rfl) (Calls.evalArgs_plain ?_);exact thn U fun us Z ⟨vs,H2,I2,r2,q2⟩=>hm pins Z σ H2 x vs v us Q I2 O r2 q2
end
def MtM (X:Cx) (id:String) (r:V->List V->Hp->VK->Prop):Prop:=
 ∀ (pins:List (aA × Obj)) (s:aC) (σ:St) (H:Hp) (x:V) (xs:List V) (v:aB) (us:List aB) (Q:VK),Inv X pins σ H s->RelV x v->Vals xs us->r x xs H Q ->
  aH (aI X.prog X.w) X.A (call (.builtin id) (v :: us)) (EP X pins σ Q) X.xe s
theorem Vals.one:∀ {x:V} {j:List aB},Vals [x] j->∃ u,j=[u]/\RelV x u
 | _,_,.cons r .nil=>⟨_,rfl,r⟩
theorem Vals.rep {xs:List V} {j:List aB} (h:Vals xs j):∀ k:Nat,Vals (List.replicate k xs).flatten (List.replicate k j).flatten
 | 0=>.nil
 | k + 1=>by
  rw [List.replicate_succ,List.replicate_succ,List.flatten_cons,List.flatten_cons];exact Vals.append h (Vals.rep h k)
theorem Q3k (its:List aB):∀ (k:Nat) (j:List aB),
  List.foldl (fun B z=>B ++ z) j.toArray (List.replicate k its.toArray)=(j ++ (List.replicate k its).flatten).toArray
 | 0,j=>by simp
 | k + 1,j=>by
  have e:j.toArray ++ its.toArray=(j ++ its).toArray:=by simp
  have e2:(j ++ its) ++ (List.replicate k its).flatten=j ++ (List.replicate (k + 1) its).flatten:=by
   rw [List.replicate_succ,List.flatten_cons,List.append_assoc]
  rw [<- e2,<- Q3k its k (j ++ its),<- e,List.replicate_succ,List.foldl_cons]
section
variable {X:Cx} {pins:List (aA × Obj)} {σ:St} {H:Hp} {s:aC} {l b:aA} {xs ys zs:List V}
theorem Inv.lset {its its':List aB} {n:Nat} {f:Array aB->Array aB} {t':Nat} (I:Inv X pins σ H s) (z:H l=some (.lst xs))
  (e:s.heap.get? l=some { cls:=.type "list",data:=.seq its.toArray n }) (j:f its.toArray=its'.toArray) (J:Vals ys its') (G:ys.length<=sizeLine) :
  Inv X pins σ (upd H l (.lst ys)) { s with heap:=s.heap.update l (Obj.mapSeq f),toks:=t' }:=by
 have q:=PySem.IsL.update e f;rw [j] at q;refine I.write (x:=l) (e:=l) (by rw [z]; exact trivial) (.inl rfl) (fun U u B O=>(F2 s.heap (Obj.mapSeq f) (Ne.symm B)).trans O) ⟨_,q⟩ ?_
 exact ⟨G,its',_,J,q⟩
theorem Inv.lnew {its:List aB} {t':Nat} (I:Inv X pins σ H s) (z:Vals ys its) (j:ys.length<=sizeLine) :
  Inv X pins σ (upd H s.heap.objs.size (.lst ys)) { s with heap:=s.heap.push { cls:=.type "list",data:=.seq its.toArray },toks:=t' }:=
 I.laid (fun _ _ q=>O1 _ q) (O6 _) ⟨j,its,0,z,D0 _ rfl⟩
theorem Inv.fresh (I:Inv X pins σ H s):H s.heap.objs.size=none:=I.hok.fresh (O6 _)
theorem Inv.lstM (I:Inv X pins σ H s) (j:H l=some (.lst xs)):xs.length<=sizeLine/\∃ (its:List aB) (n:Nat),Vals xs its/\xs.length=its.length/\s.heap.get? l=some { cls:=.type "list",data:=.seq its.toArray n }:=by
 obtain ⟨z,its,n,r,e⟩:=I.hok l _ j;exact ⟨z,its,n,r,r.length,e⟩
theorem Qc3 {n:Nat} (h:n<=sizeLine):Builtin.List.listTooLong n=false:=by
 unfold Builtin.List.listTooLong;exact bT (by omega)
end
section
variable {X:Cx}
def Qni:V->List V->Hp->VK->Prop:=fun x vs H Q=>∃ l xs y,x=.ref l/\vs=[y]/\H l=some (.lst xs)/\xs.length < sizeLine/\Q .non (upd H l (.lst (xs ++ [y])))
theorem Qh0:MtM X "list.append" Qni:=by
 intro pins s σ H x vs v U Q I B G h;obtain ⟨l,xs,y,rfl,rfl,j,O,q⟩:=h;cases B;obtain ⟨u,rfl,J⟩:=G.one;obtain ⟨z,its,n,r,hl,e⟩:=I.lstM j;refine bA F.slot_list_append ⟨_,e,rfl⟩ F.entry_list_append (F.args_list_append_2 _ _) (PySem.list_append l its.toArray n u (by rw [O4]; omega)) ⟨e,?_⟩;refine ⟨.non,_,I.lset (its':=its ++ [u]) j e (by simp) (r.append (.cons J .nil)) ?_,rfl,q⟩;rw [D7,List.length_singleton];omega
def Qng:V->List V->Hp->VK->Prop:=fun x vs H Q=>∃ l b xs zs,x=.ref l/\vs=[.ref b]/\H l=some (.lst xs)/\H b=some (.lst zs)/\xs.length + zs.length<=sizeLine/\Q .non (upd H l (.lst (xs ++ zs)))
theorem Qgy:MtM X "list.extend" Qng:=by
 intro pins s σ H x vs v us Q I U Z h;obtain ⟨l,b,xs,zs,rfl,rfl,G,Y,hz,q⟩:=h;cases U;obtain ⟨u,rfl,ru⟩:=Z.one;cases ru;obtain ⟨z,its,n,r,hl,e⟩:=I.lstM G;obtain ⟨z2,j,n2,O,J,e2⟩:=I.lstM Y;have hsz:its.toArray.size + j.toArray.size<=sizeLine:=by rw [O4,O4]; omega
 have B:¬ (!its.toArray.isEmpty && Builtin.List.listTooLong (its.toArray.size + j.toArray.size))=true:=by
  rw [Qc3 hsz,Bool.and_false];exact D1
 refine bA F.slot_list_extend ⟨_,e,rfl⟩ F.entry_list_extend (F.args_list_extend_2 _ _)
  (AutoSeq1.list_extend_list_list_0 l its.toArray n b j.toArray n2 B (by rw [O4]; omega) (by omega)) ⟨e,e2,?_⟩
 refine ⟨.non,_,I.lset (its':=its ++ j) G e (by simp) (r.append O) ?_,rfl,q⟩;rw [D7];omega
def Qy7:R2:=fun x y H Q=>∃ l b xs zs,x=.ref l/\y=.ref b/\H l=some (.lst xs)/\H b=some (.lst zs)/\xs.length + zs.length<=sizeLine/\∀ p,H p=none->Q (.ref p) (upd H p (.lst (xs ++ zs)))
theorem Q34:OpR X (aV .Add) Qy7:=by
 intro pins s σ H x y v u Q I O Z h;obtain ⟨l,b,xs,zs,rfl,rfl,B,U,hz,q⟩:=h;cases O;cases Z;obtain ⟨z,its,n,r,hl,e⟩:=I.lstM B;obtain ⟨z2,j,n2,J,G,e2⟩:=I.lstM U;refine PySem.P.add_list e e2 ?_ (by rw [O4,O4]; omega);have Y:its.toArray ++ j.toArray=(its ++ j).toArray:=by simp
 rw [Y];exact ⟨.ref _,_,I.lnew (t':=s.toks) (r.append J) (by rw [D7]; omega),rfl,q _ I.fresh⟩
def Qy5:R2:=fun x y H Q=>∃ l k xs,x=.ref l/\y=.int k/\H l=some (.lst xs)/\-(2 ^ 63)<=k/\k < 2 ^ 63/\xs.length * k.toNat<=sizeLine /\
 ∀ p,H p=none->Q (.ref p) (upd H p (.lst (List.replicate k.toNat xs).flatten))
theorem Qad {α:Type} (xs:List α) (k:Nat):(List.replicate k xs).flatten.length=k * xs.length:=by
 induction k with
 | zero=>simp
 | succ k j=>rw [List.replicate_succ,List.flatten_cons,D7,j,Nat.succ_mul,Nat.add_comm]
theorem Qse:OpR X (aV .Mult) Qy5:=by
 intro pins s σ H x y v u Q I rx ry h;obtain ⟨l,k,xs,rfl,rfl,hH,h1,h2,hz,q⟩:=h;cases rx;obtain ⟨t,rfl⟩:=ry;obtain ⟨z,its,n,r,hl,e⟩:=I.lstM hH;have O:its.toArray.size * k.toNat<=sizeLine:=by rw [O4,<- hl]; exact hz
 have J:¬ its.toArray.size * k.toNat > (2 ^ 63 - 1) / 8:=by
  have:(sizeLine:Nat)<=(2 ^ 63 - 1) / 8:=by decide
  omega
 have B:¬ (!Builtin.List.listFitsIndex k)=true:=by
  rw [fitsIndex_both h1 h2];exact D1
 have j:¬ Builtin.List.listTooLong (its.toArray.size * k.toNat)=true:=by
  rw [Qc3 O];exact D1
 have G:List.foldl (fun Z Y=>Z ++ Y) #[] (List.replicate (if its.toArray.isEmpty=true then 0 else k.toNat) its.toArray)=(List.replicate k.toNat its).flatten.toArray:=by
  have f0:∀ m:Nat,List.foldl (fun Z Y=>Z ++ Y) #[] (List.replicate m its.toArray)=(List.replicate m its).flatten.toArray:=fun m=>by
   have:=Q3k its m [];rw [List.nil_append] at this;exact this
  rw [f0];cases its with
  | nil=>simp
  | cons a r'=>rw [bS (by simp)]
 refine wpAny_binaryOp_repeat_ref (T := "list") (U := "int") (by decide) ⟨_,e,rfl⟩ (fun s'=>typeIs_int s' k t) noFill_list_mul F.fills_int_mul F.slot_int_rmul repeat_list F.slot_int_index.lookup
  (bA F.slot_int_rmul (typeIs_int s k t) F.entry_int_rmul (F.args_int_rmul_2 _ _) (int___rmul___int_list k t l its.toArray n)
   ⟨e,rfl,⟨_,e,rfl⟩,bA F.slot_list_mul ⟨_,e,rfl⟩ F.entry_list_mul (F.args_list_mul_2 _ _) (AutoListH.list___mul___list_int_3 l its.toArray n k t B J j) ⟨e,?_⟩⟩)
 rw [G];exact ⟨.ref _,_,I.lnew (t':=s.toks) (r.rep k.toNat) (by rw [Qad,Nat.mul_comm]; exact hz),rfl,q _ I.fresh⟩
end
section
variable {prog:aL} {w:aK} {A:aN} {E:aB->aC->Prop} {s:aC}
end
section
variable {X:Cx}
end
end L2
namespace Att
open PySem PySem.W PySem.Calls PyProof.Rows
theorem Q4c {P:Params} {h:Heap}:∀ (ns:List Int) (vs:List aB),WellAll P h vs (ns.map WData.int)->IntsAre vs ns:=by
 intro ns
 induction ns with
 | nil=>
  intro vs w;rw [List.map_nil] at w;cases w;exact .nil
 | cons n ns j=>
  intro vs w;rw [D2] at w;cases w with
  | cons a b=>
   cases a;exact .cons _ _ (j _ b)
theorem Qgb {l:OpenLaw} {n:Nat} (hn:l.most=some n) {P:Params} {h:Heap} {args:List WData} {z:List aB}
  (j:l.row.toRowW.claim.pre args=true) (U:WellAll P h z args) :
  ∃ a vs ns,z=[Value.ref a]/\args=[WData.list (ns.map WData.int)]/\h.get? a=some { cls:=.type "list",data:=.seq vs.toArray }/\IntsAre vs ns/\ns.length<=n:=by
 have O:WShape.hasAll [] args [.list .int]=true:=(pre_splitW j).1;have Y:l.pre.holds [] { args:=args }=true:=(pre_splitW j).2;obtain ⟨d,r,rfl,h1,h2⟩:=hasAllW_cons O;obtain rfl:=hasAllW_nil h2;obtain ⟨xs,rfl,Z⟩:=hasW_list h1;obtain ⟨ns,rfl⟩:=items_int Z;have G:ns.length<=n:=by
  unfold OpenLaw.pre at Y;have J:(WTm.not (.lt (.lit (.int (n:Int))) (.len (.arg 0)))).holds [] { args:=[.list (ns.map .int)] }=true:=by
   have J:=(holds_andW Y).1;rw [hn] at J;exact J
  have I:=condW_of J (w_not (w_lt w_lit (w_len_list (w_arg rfl))));rw [O0] at I;refine Nat.le_of_not_lt fun q=>?_
  have q':(n:Int) < ((ns.length:Nat):Int):=by omega
  first
   | (rw [bU q'] at I; exact absurd I (by decide))
   | (simp at I; omega)
 cases U with
 | cons w1 w2=>
  cases w2;cases w1 with
  | list ho B=>exact ⟨_,_,ns,rfl,rfl,ho,Q4c ns _ B,G⟩
theorem Qgm (l:OpenLaw) (args:List WData):l.row.toRowW.claim.post args (.bool true) args=true:=
 postW_of (r:=l.row.toRowW) (X:=(true == true))
  (show WShape.has [] (.bool true) .bool=true by first | rfl | decide | simp [WShape.has,WShape.arms,WShape.armsAll])
  (show (WTm.eq .res (.lit (.bool true))).value [] { args:=args,res:=some (.bool true),after:=args }=some (.bool (true == true)) from w_eq_bool (w_res rfl) w_lit) rfl
theorem attach_call {l:OpenLaw} {n:Nat} {q:aL} {z:List Str} {XP:(Str->Option aB)->Heap->Prop} {YP:aK->Heap->Prop} {d:DefRec}
  (hn:l.most=some n) (a4:d.params.defaults=[])
  (call:∀ (w:aK) (s₀ j:aC) (mg mb:Str->Option aB) (Z:aA) (o:Obj) (pm cd I:aB) (a:aA) (vs:List aB) (ns:List Int),
   Ground q z [] XP w s₀ mg mb j.heap->YP w j.heap ->
   j.heap.get? Z=some o->o.data=.func (docDef d.name d.params d.body d.scope pm cd I)->j.heap.CodeRec cd d.name->mg d.name=some (.ref Z) ->
   j.heap.get? a=some { cls:=.type "list",data:=.seq vs.toArray }->IntsAre vs ns->ns.length<=n->j.gens=#[] ->
   codeAny (aI l.prog w) callerA (.call (.ref Z) ⟨[.ref a],[]⟩) (fun r s'=>r=.ok (.ret (.bool true))/\OldK j.heap s'.heap/\s'.os=j.os/\AllBare s'.gens) j) :
  WalkO q z XP YP l.row.toRowW d [] (fun f vs=>PySem.call f vs):=by
 intro w s₀ j mg mb G Y Z o pm cd I dV kV ho hd a1 hD a2 hg args a5 as J a6 a8 a3 a7;obtain rfl:dV=.none:=Dflts.none hD a4;obtain rfl:kV=.none:=Dflts.noKw hD;obtain ⟨a,vs,ns,rfl,rfl,O,B,U⟩:=Qgb hn J a3;refine enter_call (bK (call w s₀ j mg mb Z o pm cd I a vs ns G Y ho (fd_plain hd) a1 a2 O B U hg) fun r s' hq=>?_)
 obtain ⟨rfl,h2,h3,h4⟩:=hq;exact ⟨.inl ⟨.bool true,.bool true,[],rfl,fun _=>rfl,.bool true,Qgm l _,fun _=>⟨List.Pairwise.nil,fun _ hm=>(nomatch hm)⟩⟩,h2,h3,h4⟩
section
variable {prog:aL} {w:aK} {A:aN} {E:aB->aC->Prop} {s:aC} {K:Frag}
end
end Att
namespace L2
open PySem PySem.Spec PyProof.Rows
theorem Q7q:∀ {vs:List aB} {ns:List Int},IntsAre vs ns->Vals (ns.map V.int) vs
 | _,_,.nil=>.nil
 | _,_,.cons n t h=>.cons ⟨t,rfl⟩ (Q7q h)
def Qtz (H:Hp):Prop:=∀ b,H b=none\/∃ o xs,H b=some (.frz o (.lst xs))
theorem Qk8 {P:aL} {w:aK} {K:PySem.W.Frag} {mg mb:Str->Option aB} {CX:CXT} {k:Nat} {fa a:aA} {fd:aM} {x:Str} {sp:Sp} {j:aC} {vs:List aB} {ns:List Int}
  (KX:K.In j.heap) (Y:j.heap.Ns aR mg) (G:j.heap.Ns builtinsNs mb) (a6:∀ x:Str,x≠"__name__" -> mb x=aZ x) (a3:j.heap.NoLimit) (hg:j.gens=#[])
  (ha:j.heap.get? a=some { cls:=.type "list",data:=.seq vs.toArray }) (hi:IntsAre vs ns) (hl:ns.length<=sizeLine) (hr:Room k callerA)
  (F:∀ base:Heap,K.In base->base.Ns aR mg->FnOk P w K mg base CX k fa fd [x] sp) (O:∀ (s:aC) (u:aB),BindsTo s fd ⟨[u],[]⟩ [(x,u)])
  (a5:∀ H:Hp,Qtz H->SqL K H a (ns.map V.int)->sp [.ref a] H (fun v _=>v=.bl true) fun _ _ _=>False)
  (a4:∀ H e s',CX [] H j (fun _ _ _=>False) e s'->False) :
  codeAny (aI P w) callerA (.call (.ref fa) ⟨[.ref a],[]⟩) (fun r s'=>r=.ok (.ret (.bool true))/\OldK j.heap s'.heap/\s'.os=j.os/\AllBare s'.gens) j:=by
 have rv:=Q7q hi;have a1:=hi.length;have J:∀ H:Hp,Qtz H->SqL K H a (ns.map V.int)->HOk P w H j.heap->(∀ b,H b≠none->b=a)->(H a≠none->K.lookup a=none) ->
   codeAny (aI P w) callerA (.call (.ref fa) ⟨[.ref a],[]⟩) (fun r s'=>r=.ok (.ret (.bool true))/\OldK j.heap s'.heap/\s'.os=j.os/\AllBare s'.gens) j:=by
  intro H hO hS hok hA hK;have B:∀ {b:aA} {o:Obj},j.heap.get? b=some o->H b=none->(Qah j.heap H).get? b=some o:=fun e n=>Qke e n
  have a7:∀ {b:aA} {o:Obj} {es:Array DictEntry} {ep:Nat},j.heap.get? b=some o->o.data=.dict es ep->H b=none:=fun {b o es ep} e d=>by
   cases q:H b with
   | none=>rfl
   | some u=>
    have e':b=a:=hA b (by rw [q]; simp);subst e';rw [ha] at e; cases e;have d':Data.seq vs.toArray _=Data.dict es ep:=d;cases d'
  have I:∀ {b:aA} {m:Str->Option aB},j.heap.Ns b m->(Qah j.heap H).Ns b m:=fun {b m} ⟨o,es,ep,e,d,r⟩=>⟨o,es,ep,B e (a7 e d),d,r⟩
  have Z:K.In (Qah j.heap H):=fun b o e=>B (KX b o e) (by
   cases q:H b with
   | none=>rfl
   | some u=>
    have e':b=a:=hA b (by rw [q]; simp);subst e';rw [hK (by rw [q]; simp)] at e; cases e)
  have hM:Mod K mg (Qah j.heap H):=⟨Z,I Y,⟨mb,I G,a6⟩,let ⟨mc,h1,h2⟩:=a3; ⟨mc,I h1,h2⟩⟩;have e0:Env0 P w K mg (Qah j.heap H) callerA [] j H:=⟨rfl,hM,fun b o e=>Qp7 e,Nat.le_of_eq (Qhe _ _),trivial,fun b G=>absurd (show b∈([]:List aA) from G) (by simp),hok,.of_eq hg⟩;refine bK ((F _ Z (I Y)).run callerA [] j H ⟨[.ref a],[]⟩ [.ref a] [.ref a] _ _ hr e0 (O j (.ref a)) (.cons rfl .nil) (a5 H hO hS)) fun r s' h=>?_
  cases r with
  | error e=>exact (a4 H e s' h).elim
  | ok fl=>
   cases fl with
   | next=>exact False.elim h
   | brk=>exact False.elim h
   | cont=>exact False.elim h
   | ret u=>
    obtain ⟨v,H',os,bare,un,a2,r',q⟩:=h;have q':v=.bl true:=q;subst q';obtain rfl:u=Value.bool true:=r';refine ⟨rfl,OldK.of_keep fun b o e=>?_,os,bare⟩;cases q:H b with
    | none=>exact un.keep b o e q (by intro z; exact absurd (show b∈([]:List aA) from z) (by simp)) (by simp)
    | some u=>
     rcases hO b with z | ⟨ob,xs,z⟩
     ·rw [q] at z; cases z
     ·have z2:=un.frzs b ob _ z;obtain ⟨e1,_⟩:=hok b _ z;obtain ⟨e2,_⟩:=a2 b _ z2;rw [e] at e1; cases e1;exact e2
 cases hk:K.lookup a with
 | some o=>
  have e:=KX a o hk;rw [ha] at e;cases e;refine J (fun _=>none) (fun _=>.inl rfl) (.inr ⟨_,vs.toArray,_,hk,rfl,rfl,rfl,by rw [O4,a1]; exact hl,by simpa using rv⟩) (fun b u z=>by have U:(none:Option HO)=some u:=z; cases U) (fun b z=>absurd rfl z) fun z=>absurd rfl z
 | none=>
  refine J (fun b=>if b=a then some (.frz { cls:=.type "list",data:=.seq vs.toArray } (.lst (ns.map V.int))) else none) (fun b=>?_) (.inl (.inr ⟨{ cls:=.type "list",data:=.seq vs.toArray },bQ rfl⟩)) (fun b u z=>?_) (fun b z=>?_) fun _=>hk
  ·by_cases G:b=a
   ·exact .inr ⟨_,_,bQ G⟩
   ·exact .inl (bS G)
  ·by_cases G:b=a
   ·have U:=(bQ G).symm.trans z;cases U;subst G;exact ⟨ha,by rw [O0]; exact hl,vs,_,rv,ha⟩
   ·have U:=(bS G).symm.trans z;cases U
  ·by_cases G:b=a
   ·exact G
   ·exact absurd (bS G) z
theorem walk_of {l:PySem.W.OpenLaw} {n k:Nat} {q:aL} {B:List Str} {XP:(Str->Option aB)->Heap->Prop} {YP:aK->Heap->Prop} {d:DefRec} {K:Params->PySem.W.Frag} {CX:aK->CXT} {sp:aK->Sp} {x:Str}
  (hn:l.most=some n) (a1:n<=sizeLine) (a3:d.params.defaults=[]) (hr:Room k callerA)
  (hY:∀ (w:aK) (h:Heap),YP w h->(K w.params).In h)
  (F:∀ (w:aK) (mg:Str->Option aB) (O:aA) (h:Heap),(K w.params).In h->h.Ns aR mg->mg d.name=some (.ref O) ->
   ∃ fd:aM,(∀ (s:aC) (u:aB),BindsTo s fd ⟨[u],[]⟩ [(x,u)]) /\
    ∀ base:Heap,(K w.params).In base->base.Ns aR mg->FnOk l.prog w (K w.params) mg base (CX w) k O fd [x] (sp w))
  (Z:∀ (w:aK) (H:Hp) (a:aA) (ns:List Int),ns.length<=n->Qtz H->SqL (K w.params) H a (ns.map V.int)->sp w [.ref a] H (fun v _=>v=.bl true) fun _ _ _=>False)
  (U:∀ (w:aK) (H:Hp) (s:aC) (e:aB) (s':aC),CX w [] H s (fun _ _ _=>False) e s'->False) :
  PySem.W.WalkO q B XP YP l.row.toRowW d [] (fun f vs=>PySem.call f vs):=by
 refine Att.attach_call hn a3 fun w s₀ J mg mb O o pm cd a5 a vs ns G Y ho hd a4 a2 I z j hg=>?_
 have KX:=hY w _ Y;obtain ⟨fd,hb,hF⟩:=F w mg O _ KX G.T.g a2;exact Qk8 KX G.T.g G.T.b G.T.builtins G.T.nolimit hg I z (F0 j a1) hr hF hb (fun H hO hS=>Z w H a ns j hO hS) fun H e s'=>U w H J e s'
def Vi (s:aJ):Arguments:=match s with
 | .FunctionDef _ a _ _ _ _ _ _ _ _=>a
 | _=>{ posonlyargs:=[],args:=[],vararg:=none,kwonlyargs:=[],kw_defaults:=[],kwarg:=none,defaults:=[] }
def Yj (s:aJ):List aJ:=match s with
 | .FunctionDef _ _ b _ _ _ _ _ _ _=>b
 | _=>[]
def Qf (s:aJ):Scope:=match s with
 | .FunctionDef _ _ _ _ _ _ sc _ _ _=>sc
 | _=>{ kind:=.function,names:=[],isGenerator:=false,isCoroutine:=false }
abbrev E0:XK:=fun _ _ _=>False
structure Fun (K:PySem.W.Frag) (x qual:Str) (st:aJ) (f:aA) (fd:aM):Prop where
 ex:∃ (oc:aB) (od:Option aA) (kV doc pm:aB) (an:Option aA) (cdv ct:aB) (osl:Array (Option aB)),
  fd=PySem.W.fnOf x qual (Vi st) (Yj st) (Qf st) .none kV doc pm an cdv ct/\K.lookup f=some ⟨oc,od,.func fd,osl⟩/\PySem.W.codeIn K cdv qual=true
 kp:PySem.W.keepIn K (.ref f)=true
section
variable {P:aL} {w:aK} {K:PySem.W.Frag} {mg:Str->Option aB} {base:Heap}
theorem Fun.binds {x qual:Str} {st:aJ} {f:aA} {fd:aM} {ps:List Str} (F:Fun K x qual st f fd)
  (h:∀ (kV z G:aB) (I:Option aA) (j ct:aB) (B:List aB),B.length=ps.length->bindArgs (PySem.W.fnOf x qual (Vi st) (Yj st) (Qf st) .none kV z G I j ct) ⟨B,[]⟩=pure (ps.zip B)):Binds K fd ps []:=by
 obtain ⟨Y,U,kV,z,G,I,j,ct,O,rfl,Z,J⟩:=F.ex;exact .all (h kV z G I j ct)
theorem Qkj {x qual:Str} {st:aJ} {f:aA} {O:aB} {J I:Option aA} {B:Array (Option aB)} {kV z G j ct:aB} (l:K.lookup f=some ⟨O,J,.func (PySem.W.fnOf x qual (Vi st) (Yj st) (Qf st) .none kV z G I j ct),B⟩)
  (c:PySem.W.codeIn K j qual=true) (k:PySem.W.keepIn K (.ref f)=true):Fun K x qual st f (PySem.W.fnOf x qual (Vi st) (Yj st) (Qf st) .none kV z G I j ct):=⟨⟨O,J,kV,z,G,I,j,ct,B,rfl,l,c⟩,k⟩
end
section
variable {X:Cx}
theorem pv (i:Nat) {x:Str} {pos:Pos} (B:X.N[i]?=some x:=by rfl) (z:Vis X.env.scope x:=by first | exact Or.inl rfl | exact Or.inr (Or.inl rfl) | exact Or.inr (Or.inr rfl)) (hd:(x == ("__debug__" : Str))=false:=by decide)
  (j:(x == ("__classdict__" : Str))=false:=by decide):PE X (.Name x pos) (Quk i):=Qjg B z hd j
end
theorem Qag {A B:Prop} (h:B):if false=true then A else B:=by
 rw [bS D1];exact h
theorem Qyj {A B:Prop} (h:A):if true=true then A else B:=by
 rw [bQ rfl];exact h
def Same (H H':Hp):Prop:=∀ b o,H b=some o->H' b=some o
theorem Same.refl (H:Hp):Same H H:=fun _ _ h=>h
section
variable {X:Cx} {tg:aD}
end
theorem Qeb {scope:Scope} {env:Env} (h:∀ x∈scope.names,x.2=.free->∃ c,env.cells.lookup x.1=some c) :
  ∃ cl,closureFor scope env=pure cl/\(∀ x c,cl.lookup x=some c->env.cells.lookup x=some c)/\(∀ x∈scope.names,x.2=.free->∃ c,cl.lookup x.1=some c):=by
 have Z:∀ (l:List (Str × ao)) (j:List (Str × aA)),(∀ x∈l,x.2=.free->∃ c,env.cells.lookup x.1=some c)->(∀ x c,j.lookup x=some c->env.cells.lookup x=some c) ->
   ∃ cl,(forIn l j fun (x:Str × ao) (r:List (Str × aA))=>(match x with
    | (name,kind)=>if (kind == NameKind.free)=true then (do let c <- cellOf env name; pure (ForInStep.yield ((name,c) :: r))) else (do pure PUnit.unit; pure (ForInStep.yield r)):Sem (ForInStep (List (Str × aA)))))=pure cl /\
    (∀ x c,cl.lookup x=some c->env.cells.lookup x=some c)/\(∀ x∈l,x.2=.free->∃ c,cl.lookup x.1=some c)/\(∀ x c,j.lookup x=some c->∃ G,cl.lookup x=some G):=by
  intro l
  induction l with
  | nil=>intro j _ Y; exact ⟨j,rfl,Y,fun x U=>(by simp at U),fun x c e=>⟨c,e⟩⟩
  | cons x r ih=>
   intro j hl Y;obtain ⟨n,k⟩:=x
   by_cases hk:k=.free
   ·subst hk;obtain ⟨c,hc⟩:=hl (n,.free) O8 rfl;have a1:∀ x G,((n,c) :: j).lookup x=some G->env.cells.lookup x=some G:=fun x G e=>by
     rw [List.lookup_cons] at e
     by_cases U:x=n
     ·subst U; simp at e; rw [<- e]; exact hc
     ·have:(x == n)=false:=by simpa using U
      rw [this] at e; exact Y x G e
    obtain ⟨cl,e1,e2,e3,J⟩:=ih ((n,c) :: j) (fun y B=>hl y (O5 _ B)) a1
    refine ⟨cl,?_,e2,fun y B O=>?_,fun y G e=>?_⟩
    ·rw [List.forIn_cons];have I:cellOf env n=pure c:=by unfold cellOf; rw [hc]
     simp only [beq_self_eq_true,if_true,I];exact e1
    ·rcases D3.mp B with e | B
     ·subst e;exact J n c (by simp)
     ·exact e3 y B O
    ·by_cases B:y=n
     ·subst B; exact J y c (by simp)
     ·have:(y == n)=false:=by simpa using B
      exact J y G (by rw [List.lookup_cons,this]; exact e)
   ·obtain ⟨cl,e1,e2,e3,J⟩:=ih j (fun y B=>hl y (O5 _ B)) Y
    refine ⟨cl,?_,e2,fun y B O=>?_,J⟩
    ·rw [List.forIn_cons];have:(k == NameKind.free)=false:=by simpa using hk
     simp only [this,Bool.false_eq_true,if_false];exact e1
    ·rcases D3.mp B with e | B
     ·subst e; exact absurd O hk
     ·exact e3 y B O
 obtain ⟨cl,e1,e2,e3,_⟩:=Z scope.names [] h (fun x c e=>by simp at e);refine ⟨cl,?_,e2,e3⟩;unfold closureFor;exact (congrArg (fun z=>z >>= pure) e1).trans rfl
theorem Q29 (f:Str->ao->ao) (x:Str):∀ l:List (Str × ao),(l.map fun y=>(y.1,f y.1 y.2)).lookup x=(l.lookup x).map (f x)
 | []=>rfl
 | (n,k) :: r=>by
  have B:=Q29 f x r;rw [D2,List.lookup_cons,List.lookup_cons]
  by_cases j:x=n
  ·subst j; simp
  ·have z:(x == n)=false:=by simpa using j
   rw [z]; exact B
theorem xk {scope:Scope} {env:Env} {x:Str}:(relabel scope env).names.lookup x =
  (scope.names.lookup x).map fun k=>if (k == .free && env.scope.kind == .function && env.kindOf x == some .cell) then .cell else k:=by
 rw [<- Q29 (fun n k=>if (k == .free && env.scope.kind == .function && env.kindOf n == some .cell) then .cell else k)]
 unfold relabel;refine congrArg (List.lookup x) (List.map_congr_left fun y _=>?_);obtain ⟨n,k⟩:=y;show (if (k == NameKind.free && env.scope.kind == .function && env.kindOf n == some .cell)=true then (n,NameKind.cell) else (n,k))=_
 split <;> rfl
def Q2m (cap:List (Option Nat)) (σ:St):St:=cap.map fun c=>c.bind fun j=>(σ[j]?).join
section
variable {prog:aL} {w:aK} {A:aN} {R:Result->aC->Prop} {s:aC}
end
section
variable {X:Cx}
theorem HOk.same {P:aL} {w:aK} {H:Hp} {h h':Heap} {a:aA} (ok:HOk P w H h) (z:H a=none) (hs:Heap.SameBut a h h'):HOk P w H h':=fun b ob e=>by
 refine (ok b ob e).stay (fun c B j q=>(hs.2 c ?_).trans q) (fun _ q=>q) fun _ _ q=>q
 rintro rfl;rcases j with rfl | j
 ·rw [z] at e; cases e
 ·rw [z] at j; cases j
end
def HasItems (t:Bool) (h:Heap) (a:aA) (items:Array aB):Prop:=if t=true then h.IsTuple a items else h.IsList a items
def IterAt (t:Bool) (h:Heap) (it a:aA) (i:Nat):Prop:=if t=true then h.IsTupleIter it a i else h.IsListIter it a i
theorem HasItems.at {t:Bool} {h h':Heap} {a:aA} {j:Array aB} (x:HasItems t h a j) (k:∀ o,h.get? a=some o->h'.get? a=some o):HasItems t h' a j:=by
 cases t
 ·exact Heap.IsList.at x k
 ·obtain ⟨o,e,r⟩:=x;exact ⟨o,k o e,r⟩
theorem HasItems.there {t:Bool} {h:Heap} {a:aA} {j:Array aB} (x:HasItems t h a j):∃ o,h.get? a=some o:=by
 cases t
 ·obtain ⟨o,e,_⟩:=x; exact ⟨o,e⟩
 ·obtain ⟨o,e,_⟩:=x; exact ⟨o,e⟩
theorem IterAt.at {t:Bool} {h h':Heap} {j a:aA} {i:Nat} (x:IterAt t h j a i) (k:∀ o,h.get? j=some o->h'.get? j=some o):IterAt t h' j a i:=by
 cases t
 ·exact Heap.IsListIter.at x k
 ·obtain ⟨o,e,r⟩:=x;exact ⟨o,k o e,r⟩
theorem IterAt.there {t:Bool} {h:Heap} {j a:aA} {i:Nat} (x:IterAt t h j a i):∃ o,h.get? j=some o/\∀ v,o.data≠.cell v:=by
 cases t
 ·obtain ⟨o,e,_,d⟩:=x; exact ⟨o,e,fun v z=>by rw [d] at z; cases z⟩
 ·obtain ⟨o,e,_,d⟩:=x; exact ⟨o,e,fun v z=>by rw [d] at z; cases z⟩
section
variable {prog:aL} {w:aK} {A:aN} {E:aB->aC->Prop} {s:aC}
theorem Q27 {z l:aA} {i:Nat} {items} {x:aB} {Q:aB->aC->Prop} (j:s.heap.IsTupleIter z l i)
  (hl:s.heap.IsTuple l items) (O:items[i]?=some x)
  (U:∀ h',h'.IsTupleIter z l (i + 1)->Heap.SameBut z s.heap h'->Q x { s with heap:=h' }) :
  aH (aI prog w) A (Builtin.SmallTypes.nextOf (.ref z)) Q E s:=by
 obtain ⟨o,B,J,hd⟩:=id j;obtain ⟨Y,I,_,nl,G⟩:=hl;unfold Builtin.SmallTypes.nextOf;refine aF (wpAny_callSpecial?_slot (name:=Str.ofString "__next__") j.typeIs F.slot_tuple_iterator_next
  (aq F.slot_tuple_iterator_next j.typeIs F.entry_tuple_iterator_next ?_ (F.args_tuple_iterator_next_1 _)))
 show aH _ _ (field (.ref z) 0 >>= _) _ _ s;refine aF (aY B hd (x:=.ref l) rfl ?_);show aH _ _ (if (Value.ref l == Value.none)=true then _ else _) _ _ s;rw [bS (show ¬ ((Value.ref l == Value.none)=true) from D1)];show aH _ _ (field (.ref z) 1 >>= _) _ _ s;refine aF (aY B hd (x:=.int i 0) rfl ?_);show aH _ _ (seqItems? (.ref l) >>= _) _ _ s;refine aF (bD I G ?_);simp only [Int.toNat_natCast,O];refine aF (wpAny_setField B hd (by simp) (aO ⟨x,rfl,aO (U _ ?_ (Heap.SameBut.update ..))⟩));exact ⟨_,L8 _ B (Obj.isFreed_of_fields (Obj.data_mapFields hd _)),(Obj.cls_mapFields ..).trans J,by
  rw [Obj.data_mapFields hd]; simp [aa]⟩
theorem Q3b {z l:aA} {i:Nat} {items} {Q:aB->aC->Prop} (J:A.handled=none)
  (j:s.heap.IsTupleIter z l i) (hl:s.heap.IsTuple l items) (O:items[i]?=none)
  (U:∀ h' e,Heap.ExtBut z s.heap h'->(∃ o,h'.get? e=some o/\o.cls=.type "StopIteration")->E (.ref e) { s with heap:=h' }) :
  aH (aI prog w) A (Builtin.SmallTypes.nextOf (.ref z)) Q E s:=by
 obtain ⟨o,I,Z,hd⟩:=id j;obtain ⟨Y,G,_,nl,B⟩:=hl;unfold Builtin.SmallTypes.nextOf;refine aF (wpAny_callSpecial?_slot (name:=Str.ofString "__next__") j.typeIs F.slot_tuple_iterator_next
  (aq F.slot_tuple_iterator_next j.typeIs F.entry_tuple_iterator_next ?_ (F.args_tuple_iterator_next_1 _)))
 show aH _ _ (field (.ref z) 0 >>= _) _ _ s;refine aF (aY I hd (x:=.ref l) rfl ?_);show aH _ _ (if (Value.ref l == Value.none)=true then _ else _) _ _ s;rw [bS (show ¬ ((Value.ref l == Value.none)=true) from D1)];show aH _ _ (field (.ref z) 1 >>= _) _ _ s;refine aF (aY I hd (x:=.int i 0) rfl ?_);show aH _ _ (seqItems? (.ref l) >>= _) _ _ s;refine aF (bD G B ?_);simp only [Int.toNat_natCast,O];refine aF (bM (aF (wpAny_setField I hd (by simp) ?_)));show aH _ _ (newExc (.type "StopIteration") [] >>= _) _ _ _;refine aF ?_;simp only [newExc,newTuple];refine aF (ay ?_ (by size_fits));refine aF (m:=firstArgMember _ _) (wpAny_of_eq (a:=Value.none) (by first | rfl | (simp only [firstArgMember]; rfl)) ?_);refine ay ?_ (by size_fits);simp only [raiseNew]
 refine aF (wpAny_handled ?_)
 first | rw [show A.in1.handled=none from J] | rw [J]
 refine aF (aO (wpAny_throw ?_));exact U _ _ (((Heap.SameBut.update ..).extBut.push _).push _) ⟨_,D0 _ rfl,rfl⟩
theorem xx {t:Bool} {B l:aA} {i:Nat} {j:Array aB} {x:aB} {Q:aB->aC->Prop} (z:IterAt t s.heap B l i)
  (hl:HasItems t s.heap l j) (G:j[i]?=some x)
  (I:∀ h',IterAt t h' B l (i + 1)->Heap.SameBut B s.heap h'->Q x { s with heap:=h' }) :
  aH (aI prog w) A (Builtin.SmallTypes.nextOf (.ref B)) Q E s:=by
 cases t
 ·exact wpAny_nextOf_list_item z hl G I
 ·exact Q27 z hl G I
theorem Q5u {t:Bool} {B l:aA} {i:Nat} {j:Array aB} {Q:aB->aC->Prop} (G:A.handled=none)
  (z:IterAt t s.heap B l i) (hl:HasItems t s.heap l j) (I:j[i]?=none)
  (J:∀ h' e,Heap.ExtBut B s.heap h'->(∃ o,h'.get? e=some o/\o.cls=.type "StopIteration")->E (.ref e) { s with heap:=h' }) :
  aH (aI prog w) A (Builtin.SmallTypes.nextOf (.ref B)) Q E s:=by
 cases t
 ·exact wpAny_nextOf_list_end G z hl I J
 ·exact Q3b G z hl I J
def X5 (t:Bool) (l:aA):Obj:=if t=true then { cls:=.type "tuple_iterator",data:=.fields #[.ref l,.int 0 0] } else { cls:=.type "list_iterator",data:=.fields #[.ref l,.int 0 0] }
theorem Ui {t:Bool} {l:aA} {j:Array aB} {Q:aB->aC->Prop} (hl:HasItems t s.heap l j)
  (z:Q (.ref s.heap.objs.size) { s with heap:=s.heap.push (X5 t l) }):aH (aI prog w) A (pyIter (.ref l)) Q E s:=by
 cases t
 ·exact wpAny_pyIter_list hl z
 ·exact bN hl z
theorem Q1k {t:Bool} {h:Heap} {j l:aA} (e:h.get? j=some (X5 t l)):IterAt t h j l 0:=by
 cases t
 ·exact ⟨_,e,rfl,rfl⟩
 ·exact ⟨_,e,rfl,rfl⟩
theorem y8 (t:Bool) (l:aA):(X5 t l).isFreed=false:=by cases t <;> rfl
theorem Qg0 {t1 t2:Bool} {z TI TO i1 i2 l1 l2:aA} {k1 k2:Nat} {xs ys:Array aB} {x y a b:aB} {Q:aB->aC->Prop} (D:ZipApart z TI TO i1 i2 l1 l2)
  (hz:IsZip s.heap z TI TO .none) (c7:aX s.heap TI (.ref i1) (.ref i2)) (d0:aX s.heap TO a b)
  (h1:IterAt t1 s.heap i1 l1 k1) (h2:IterAt t2 s.heap i2 l2 k2) (c9:HasItems t1 s.heap l1 xs) (c8:HasItems t2 s.heap l2 ys) (hx:xs[k1]?=some x) (hy:ys[k2]?=some y)
  (hQ:∀ h',IsZip h' z TI TO (aa s.heap.objs.size)->aX h' TO x y->IterAt t1 h' i1 l1 (k1 + 1)->IterAt t2 h' i2 l2 (k2 + 1)->aX h' s.heap.objs.size x y->h'.objs.size=s.heap.objs.size + 1 ->
   (∀ c o,c≠z->c≠TO->c≠i1->c≠i2->s.heap.get? c=some o->h'.get? c=some o)->Q (.ref s.heap.objs.size) { s with heap:=h' }) :
  aH (aI prog w) A (Builtin.«zip.__next__» ⟨[.ref z],[]⟩) (fun fin s'=>∃ v,fin=.done (.ret v)/\Q v s') E s:=by
 show aH _ _ (field (.ref z) 2 >>= _) _ _ _;refine aF (aY hz rfl (x:=.bool false) rfl ?_);show aH _ _ (field (.ref z) 3 >>= _) _ _ _;refine aF (aY hz rfl (x:=.ref TI) rfl ?_);refine aF (bD c7 rfl ?_);show aH _ _ (Builtin.SmallTypes.ownedTupleIsFree (.ref z) >>= _) _ _ _;refine aF ?_;unfold Builtin.SmallTypes.ownedTupleIsFree;refine aF (aY hz rfl (x:=.none) rfl (aO ?_));simp only [if_true];refine aF (bM ?_);refine aF (aY hz rfl (x:=.ref TO) rfl ?_);refine aF (bI hz (by simp) fun b8 a2 B=>?_)
 replace a2:IsZip b8 z TI TO .ellipsis:=a2;refine aF ?_;simp only [List.zipIdx_cons,List.zipIdx_nil,List.forIn_cons,List.forIn_nil];refine aF (aF (wpAny_onRaise ?_));show aH _ _ (Builtin.SmallTypes.nextOf (.ref i1) >>= _) _ _ _;refine aF (xx (h1.at fun o e=>B.extBut _ _ D.i1z e) (c9.at fun o e=>B.extBut _ _ D.l1z e) hx fun c0 b1 G=>aO ?_)
 have a7:aX c0 TO a b:=G.extBut _ _ D.TOi1 (B.extBut _ _ D.TOz d0);refine aF (bD a7 rfl ?_);refine aF (wpAny_updateSeq_pair a7 fun b7 Y I=>?_);replace Y:aX b7 TO x b:=Y;refine aF (wpAny_letGo (aO ?_));refine aF (aF (wpAny_onRaise ?_));show aH _ _ (Builtin.SmallTypes.nextOf (.ref i2) >>= _) _ _ _;refine aF (xx (h2.at fun o e=>I.extBut _ _ D.TOi2.symm (G.extBut _ _ D.i12.symm (B.extBut _ _ D.i2z e)))
  (c8.at fun o e=>I.extBut _ _ D.l2TO (G.extBut _ _ D.l2i1 (B.extBut _ _ D.l2z e))) hy fun b9 b2 O=>aO ?_)
 have a6:aX b9 TO x b:=O.extBut _ _ D.TOi2 Y;refine aF (bD a6 rfl ?_);refine aF (wpAny_updateSeq_pair a6 fun j J U=>?_);replace J:aX j TO x y:=J;refine aF (wpAny_letGo (aO (aO ?_)));refine aF (bD J rfl ?_);refine aF (wpAny_newTuple ?_);have hsz:j.objs.size=s.heap.objs.size:=by rw [U.1,O.1,I.1,G.1,B.1]
 have a8:IsZip j z TI TO .ellipsis:=U.extBut _ _ D.TOz.symm (O.extBut _ _ D.i2z.symm (I.extBut _ _ D.TOz.symm (G.extBut _ _ D.i1z.symm a2)));have b3:∀ c o,c≠z->c≠TO->c≠i1->c≠i2->s.heap.get? c=some o->j.get? c=some o:=fun c o c1 c2 c3 c4 e=>
  U.extBut _ _ c2 (O.extBut _ _ c4 (I.extBut _ _ c2 (G.extBut _ _ c3 (B.extBut _ _ c1 e))))
 have b4:IterAt t1 j i1 l1 (k1 + 1):=b1.at fun o e=>U.extBut _ _ D.TOi1.symm (O.extBut _ _ D.i12 (I.extBut _ _ D.TOi1.symm e))
 have b5:IterAt t2 j i2 l2 (k2 + 1):=b2.at fun o e=>U.extBut _ _ D.TOi2.symm e
 have b0:z < j.objs.size:=O7 a8;show aH _ _ (Builtin.SmallTypes.ownedTupleHandOut (.ref z) (.ref j.objs.size) >>= _) _ _ _;refine aF ?_;unfold Builtin.SmallTypes.ownedTupleHandOut;have b6:IsZip (j.push { cls:=.type "tuple",data:=.seq #[x,y] }) z TI TO .ellipsis:=O1 _ a8;refine aF (bI b6 (by simp) fun c5 a5 a4=>?_)
 replace a5:IsZip c5 z TI TO (aa j.objs.size):=a5;refine bI a5 (by simp) fun a1 Z a3=>?_
 replace Z:IsZip a1 z TI TO (aa j.objs.size):=Z;have up:∀ c o,c≠z->j.get? c=some o->a1.get? c=some o:=fun c o c1 e=>a3.extBut _ _ c1 (a4.extBut _ _ c1 (O1 _ e))
 have a9:aX a1 j.objs.size x y:=a3.extBut _ _ (Nat.ne_of_gt b0) (a4.extBut _ _ (Nat.ne_of_gt b0) (D0 _ rfl));have c6:a1.objs.size=j.objs.size + 1:=by rw [a3.1,a4.1,F9]
 rw [hsz] at Z a9 c6;refine aO ⟨_,rfl,?_⟩;show Q (.ref j.objs.size) _;rw [hsz];exact hQ a1 Z (up _ _ D.TOz J) (b4.at fun o e=>up _ o D.i1z e) (b5.at fun o e=>up _ o D.i2z e) a9 c6 fun c o c1 c2 c3 c4 e=>up c o c1 (b3 c o c1 c2 c3 c4 e)
theorem Qi1 {t1 t2:Bool} {z TI TO i1 i2 l1 l2:aA} {k1 k2:Nat} {xs ys:Array aB} {a b:aB} {Q:Fin->aC->Prop} (hh:A.handled=none) (D:ZipApart z TI TO i1 i2 l1 l2)
  (hz:IsZip s.heap z TI TO .none) (b3:aX s.heap TI (.ref i1) (.ref i2)) (b5:aX s.heap TO a b)
  (h1:IterAt t1 s.heap i1 l1 k1) (h2:IterAt t2 s.heap i2 l2 k2) (b0:HasItems t1 s.heap l1 xs) (b4:HasItems t2 s.heap l2 ys) (a8:xs[k1]?=none\/ys[k2]?=none)
  (hE:∀ h' e,(∀ c o,c≠z->c≠TO->c≠i1->c≠i2->s.heap.get? c=some o->h'.get? c=some o)->(∃ o,h'.get? e=some o/\o.cls=.type "StopIteration")->E (.ref e) { s with heap:=h' }) :
  aH (aI prog w) A (Builtin.«zip.__next__» ⟨[.ref z],[]⟩) Q E s:=by
 show aH _ _ (field (.ref z) 2 >>= _) _ _ _;refine aF (aY hz rfl (x:=.bool false) rfl ?_);show aH _ _ (field (.ref z) 3 >>= _) _ _ _;refine aF (aY hz rfl (x:=.ref TI) rfl ?_);refine aF (bD b3 rfl ?_);show aH _ _ (Builtin.SmallTypes.ownedTupleIsFree (.ref z) >>= _) _ _ _;refine aF ?_;unfold Builtin.SmallTypes.ownedTupleIsFree;refine aF (aY hz rfl (x:=.none) rfl (aO ?_));simp only [if_true];refine aF (bM ?_);refine aF (aY hz rfl (x:=.ref TO) rfl ?_);refine aF (bI hz (by simp) fun a6 I j=>?_)
 replace I:IsZip a6 z TI TO .ellipsis:=I;refine aF ?_;simp only [List.zipIdx_cons,List.zipIdx_nil,List.forIn_cons,List.forIn_nil];refine aF (aF (wpAny_onRaise ?_));show aH _ _ (Builtin.SmallTypes.nextOf (.ref i1) >>= _) _ _ _;cases hx:xs[k1]? with
 | none=>
  refine aF (Q5u hh (h1.at fun o e=>j.extBut _ _ D.i1z e) (b0.at fun o e=>j.extBut _ _ D.l1z e) hx fun Z e B he=>?_)
  obtain ⟨oe,J,a2⟩:=he;have a3:IsZip Z z TI TO .ellipsis:=B _ _ D.i1z.symm I;have a5:e≠z:=fun x=>by subst x; rw [a3] at J; cases J; simp at a2
  refine bI a3 (by simp) fun a4 _ G=>hE a4 e (fun c o c1 _ c3 _ x=>G.extBut _ _ c1 (B _ _ c3 (j.extBut _ _ c1 x))) ⟨oe,G.extBut _ _ a5 J,a2⟩
 | some x=>
  have hy:ys[k2]?=none:=by rcases a8 with h | h; rw [hx] at h; cases h; exact h
  refine aF (xx (h1.at fun o e=>j.extBut _ _ D.i1z e) (b0.at fun o e=>j.extBut _ _ D.l1z e) hx fun Z b2 B=>aO ?_)
  have O:aX Z TO a b:=B.extBut _ _ D.TOi1 (j.extBut _ _ D.TOz b5);refine aF (bD O rfl ?_);refine aF (wpAny_updateSeq_pair O fun a4 b1 G=>?_);refine aF (wpAny_letGo (aO ?_));refine aF (aF (wpAny_onRaise ?_));show aH _ _ (Builtin.SmallTypes.nextOf (.ref i2) >>= _) _ _ _;refine aF (Q5u hh (h2.at fun o e=>G.extBut _ _ D.TOi2.symm (B.extBut _ _ D.i12.symm (j.extBut _ _ D.i2z e)))
   (b4.at fun o e=>G.extBut _ _ D.l2TO (B.extBut _ _ D.l2i1 (j.extBut _ _ D.l2z e))) hy fun a7 e U he=>?_)
  obtain ⟨oe,J,a2⟩:=he;have a1:IsZip a7 z TI TO .ellipsis:=U _ _ D.i2z.symm (G.extBut _ _ D.TOz.symm (B.extBut _ _ D.i1z.symm I));have a5:e≠z:=fun x=>by subst x; rw [a1] at J; cases J; simp at a2
  refine bI a1 (by simp) fun a9 _ Y=>hE a9 e (fun c o c1 c2 c3 c4 x=>Y.extBut _ _ c1 (U _ _ c4 (G.extBut _ _ c2 (B.extBut _ _ c3 (j.extBut _ _ c1 x))))) ⟨oe,Y.extBut _ _ a5 J,a2⟩
theorem Q5t {t1 t2:Bool} {z TI TO j B I G:aA} {k1 k2:Nat} {xs ys:Array aB} {x y a b:aB} {Q:Option aB->aC->Prop} (D:ZipApart z TI TO j B I G)
  (Z:IsZip s.heap z TI TO .none) (J:aX s.heap TI (.ref j) (.ref B)) (Y:aX s.heap TO a b)
  (h1:IterAt t1 s.heap j I k1) (h2:IterAt t2 s.heap B G k2) (U:HasItems t1 s.heap I xs) (O:HasItems t2 s.heap G ys) (hx:xs[k1]?=some x) (hy:ys[k2]?=some y)
  (hQ:∀ h',IsZip h' z TI TO (aa s.heap.objs.size)->aX h' TO x y->IterAt t1 h' j I (k1 + 1)->IterAt t2 h' B G (k2 + 1)->aX h' s.heap.objs.size x y->h'.objs.size=s.heap.objs.size + 1 ->
   (∀ c o,c≠z->c≠TO->c≠j->c≠B->s.heap.get? c=some o->h'.get? c=some o)->Q (some (.ref s.heap.objs.size)) { s with heap:=h' }) :
  aH (aI prog w) A (aw (.ref z)) Q E s:=by
 have hT:s.TypeIs (.ref z) "zip" := ⟨_,Z,rfl⟩;unfold aw;exact aF (wpAny_attempt (wpAny_callSpecial?_slot (name:=Str.ofString "__next__") hT F.slot_zip_next
  (aq F.slot_zip_next hT F.entry_zip_next
   (Qg0 D Z J Y h1 h2 U O hx hy fun h' a1 a2 a3 a4 a5 a6 a7=>aO (hQ h' a1 a2 a3 a4 a5 a6 a7)) (F.args_zip_next_1 _))))
theorem Q7h {t1 t2:Bool} {z TI TO B G U I:aA} {k1 k2:Nat} {xs ys:Array aB} {a b:aB} {Q:Option aB->aC->Prop} (hh:A.handled=none) (D:ZipApart z TI TO B G U I)
  (hz:IsZip s.heap z TI TO .none) (J:aX s.heap TI (.ref B) (.ref G)) (Z:aX s.heap TO a b)
  (h1:IterAt t1 s.heap B U k1) (h2:IterAt t2 s.heap G I k2) (Y:HasItems t1 s.heap U xs) (O:HasItems t2 s.heap I ys) (j:xs[k1]?=none\/ys[k2]?=none)
  (hQ:∀ h',(∀ c o,c≠z->c≠TO->c≠B->c≠G->s.heap.get? c=some o->h'.get? c=some o)->Q none { s with heap:=h' }):aH (aI prog w) A (aw (.ref z)) Q E s:=by
 have hT:s.TypeIs (.ref z) "zip" := ⟨_,hz,rfl⟩;unfold aw;refine aF (wpAny_attempt (wpAny_callSpecial?_slot (name:=Str.ofString "__next__") hT F.slot_zip_next
  (aq F.slot_zip_next hT F.entry_zip_next (Qi1 hh D hz J Z h1 h2 Y O j fun h' e hk he=>?_) (F.args_zip_next_1 _))))
 obtain ⟨o,ho,hc⟩:=he;refine aF (bO (T := "StopIteration") (b:=true) ⟨o,ho,hc⟩ isSubtype_stop ?_);exact aO (hQ _ hk)
end
def zH1 (t1:Bool) (h:Heap) (l1:aA):Heap:=h.push (X5 t1 l1)
def zH2 (t1 t2:Bool) (h:Heap) (l1 l2:aA):Heap:=(zH1 t1 h l1).push (X5 t2 l2)
def zH3 (t1 t2:Bool) (h:Heap) (l1 l2:aA):Heap:=(zH2 t1 t2 h l1 l2).push { cls:=.type "tuple",data:=.seq #[.ref h.objs.size,.ref (zH1 t1 h l1).objs.size] }
def zH4 (t1 t2:Bool) (h:Heap) (l1 l2:aA):Heap:=(zH3 t1 t2 h l1 l2).push { cls:=.type "tuple",data:=.seq #[.none,.none] }
def zH5 (t1 t2:Bool) (h:Heap) (l1 l2:aA):Heap:=(zH4 t1 t2 h l1 l2).push { cls:=.type "zip",data:=.fields #[.none,.bool false,.bool false,.ref (zH2 t1 t2 h l1 l2).objs.size,.ref (zH3 t1 t2 h l1 l2).objs.size] }
theorem Q5v (t1 t2:Bool) (j z:aA) (xs ys:Array aB) :
  Meets (Builtin.«zip.__new__» ⟨[.type "zip",.ref j,.ref z],[]⟩) (fun _ R s=>HasItems t1 s.heap j xs/\HasItems t2 s.heap z ys /\
   R (.ok (.ret (.ref (zH4 t1 t2 s.heap j z).objs.size))) { s with heap:=zH5 t1 t2 s.heap j z }):=
 .of_wp fun prog w A R s h=>by
  obtain ⟨hp,g,d,tk,os⟩:=s; obtain ⟨G,B,h⟩:=h;have O:=sub_zip;have I:HasItems t1 (Shared.heap ⟨hp,g,d,tk,os⟩) j xs:=G;have J:HasItems t2 (Shared.heap ⟨hp.push (X5 t1 j),g,d,tk,os⟩) z ys:=B.at fun o e=>O1 _ e
  wp_walk using Ui I,Ui J
  exact ⟨_,rfl,h⟩
section
variable {prog:aL} {w:aK} {A:aN} {E:aB->aC->Prop} {s:aC}
theorem Qhs {t1 t2:Bool} {j z:aA} {xs ys:Array aB} {Q:aB->aC->Prop} (J:HasItems t1 s.heap j xs) (B:HasItems t2 s.heap z ys)
  (h:∀ h',IsZip h' (s.heap.objs.size + 4) (s.heap.objs.size + 2) (s.heap.objs.size + 3) .none->aX h' (s.heap.objs.size + 2) (.ref s.heap.objs.size) (.ref (s.heap.objs.size + 1)) ->
   aX h' (s.heap.objs.size + 3) .none .none->IterAt t1 h' s.heap.objs.size j 0->IterAt t2 h' (s.heap.objs.size + 1) z 0->h'.objs.size=s.heap.objs.size + 5 ->
   (∀ c o,s.heap.get? c=some o->h'.get? c=some o)->Q (.ref (s.heap.objs.size + 4)) { s with heap:=h' }) :
  aH (aI prog w) A (call (.type "zip") [.ref j,.ref z]) Q E s:=by
 refine callType_new F.called_zip (by decide) (F.typeCall_zip_2 _ _) (F.newCall_zip_2 _ _) (fun obj=>F.args_object_init_3 obj _ _) F.entry_zip_new
  (Q5v t1 t2 j z xs ys) ⟨J,B,?_⟩
 have G:(zH1 t1 s.heap j).objs.size=s.heap.objs.size + 1:=F9 ..;have O:(zH2 t1 t2 s.heap j z).objs.size=s.heap.objs.size + 2:=by unfold zH2; rw [F9,G]
 have Y:(zH3 t1 t2 s.heap j z).objs.size=s.heap.objs.size + 3:=by unfold zH3; rw [F9,O]
 have I:(zH4 t1 t2 s.heap j z).objs.size=s.heap.objs.size + 4:=by unfold zH4; rw [F9,Y]
 have z5:(zH5 t1 t2 s.heap j z).objs.size=s.heap.objs.size + 5:=by unfold zH5; rw [F9,I]
 have U:(zH5 t1 t2 s.heap j z).get? (zH4 t1 t2 s.heap j z).objs.size=some { cls:=.type "zip",data:=.fields #[.none,.bool false,.bool false,.ref (zH2 t1 t2 s.heap j z).objs.size,.ref (zH3 t1 t2 s.heap j z).objs.size] }:=D0 _ rfl;have Z:(zH5 t1 t2 s.heap j z).get? (zH3 t1 t2 s.heap j z).objs.size=some { cls:=.type "tuple",data:=.seq #[.none,.none] }:=O1 _ (D0 _ rfl);have g3:(zH5 t1 t2 s.heap j z).get? (zH2 t1 t2 s.heap j z).objs.size=some { cls:=.type "tuple",data:=.seq #[.ref s.heap.objs.size,.ref (zH1 t1 s.heap j).objs.size] }:=O1 _ (O1 _ (D0 _ rfl));have g2:(zH5 t1 t2 s.heap j z).get? (zH1 t1 s.heap j).objs.size=some (X5 t2 z):=O1 _ (O1 _ (O1 _ (D0 _ (y8 _ _))));have g1:(zH5 t1 t2 s.heap j z).get? s.heap.objs.size=some (X5 t1 j):=O1 _ (O1 _ (O1 _ (O1 _ (D0 _ (y8 _ _)))));show _/\_;rw [O,Y,I] at U;rw [G,O] at g3;rw [Y] at Z;rw [G] at g2;rw [I];exact ⟨⟨_,U,rfl⟩,h _ U g3 Z (Q1k g1) (Q1k g2) z5 fun c o x=>
  O1 _ (O1 _ (O1 _ (O1 _ (O1 _ x))))⟩
end
def SqK (K:PySem.W.Frag) (t:Bool) (H:Hp) (a:aA) (xs:List V):Prop:=if t=true then SqT K H a xs else SqL K H a xs
section
variable {X:Cx} {pins:List (aA × Obj)} {σ:St} {H:Hp} {s:aC}
theorem Inv.seqK {t:Bool} {a:aA} {xs:List V} (I:Inv X pins σ H s) (h:SqK X.K t H a xs):∃ its:List aB,Vals xs its/\HasItems t s.heap a its.toArray/\xs.length<=sizeLine:=by
 cases t
 ·obtain ⟨its,r,p,z⟩:=I.list h;exact ⟨its,r,p.isList,z⟩
 ·obtain ⟨its,r,p,z⟩:=I.tuple h;exact ⟨its,r,p,z⟩
theorem Inv.seqK_inj {t:Bool} {a:aA} {xs ys:List V} (I:Inv X pins σ H s) (h:SqK X.K t H a xs) (h':SqK X.K t H a ys):xs=ys:=by
 cases t
 ·exact I.list_inj h h'
 ·exact I.tuple_inj h h'
theorem Inv.turnedL {t':Nat} {its:List aA} {h':Heap} (I:Inv X pins σ H s) (k:∀ b o,b∉its->s.heap.get? b=some o->h'.get? b=some o) (G:∀ b∈its,Q74 X pins H b):Inv X pins σ H { s with heap:=h',toks:=t' }:=by
 have B:∀ b u,H b=some u->b∉its:=fun b u e z=>by rw [(G b z).1] at e; cases e
 refine I.step (g':=s.gens) (d':=s.drawn) (ch:=its) (fun b J=>?_) (fun b o _ _ j e _=>k b o j e) (fun b o _ _ j e _=>⟨o.slots,k b o j e⟩) (fun _ _ _ _ n=>n)
  (fun b o j e=>⟨o,k b o j e⟩) (fun _ _ e=>e) (fun _ _ _ e=>e) (fun b ps e=>⟨#[],by rw [e]; simp⟩) (fun m Z=>?_) (fun b u e=>?_) I.bare
 ·obtain ⟨f0,U,f2,Y,O,f5⟩:=G b J;exact ⟨Y,U,O,f5⟩
 ·obtain ⟨o,es,ep,ho,r⟩:=Z;exact ⟨o,es,ep,k _ o (fun z=>(G _ z).2.1 rfl) ho,r⟩
 ·refine (I.hok b u e).stay (fun c v j q=>k c v ?_ q) (fun _ q=>q) fun _ _ q=>q
  rcases j with z | z
  ·rw [z]; exact B b u e
  ·exact B c _ z
end
def Itz (K:PySem.W.Frag) (t1 t2:Bool) (a b:aA):It:=
 ⟨fun i H=>∃ xs ys x y,SqK K t1 H a xs/\SqK K t2 H b ys/\xs[i]?=some x/\ys[i]?=some y,
  fun i H v H'=>∃ p x y,H p=none/\v=.ref p/\H'=upd H p (.tup [x,y])/\∀ xs ys,SqK K t1 H a xs->SqK K t2 H b ys->xs[i]?=some x/\ys[i]?=some y,
  fun i H=>∃ xs ys,SqK K t1 H a xs/\SqK K t2 H b ys/\(xs.length<=i\/ys.length<=i)⟩
def Quf (t1 t2:Bool) (z TI TO i1 i2 a b:aA) (i:Nat) (h:Heap):Prop:=
 IsZip h z TI TO .none/\aX h TI (.ref i1) (.ref i2)/\(∃ u v,aX h TO u v)/\IterAt t1 h i1 a i/\IterAt t2 h i2 b i
theorem Q85 {a b:aB}:∀ v,({ cls:=.type "tuple",data:=.seq #[a,b] }:Obj).data≠.cell v:=fun v z=>by cases z
theorem Qi9 {P:aL} {w:aK} {K:PySem.W.Frag} {elts:List aD} {k:Nat} {pos:Pos} {t1 t2:Bool} {z TI TO i1 i2 a b:aA} (D:ZipApart z TI TO i1 i2 a b) :
  Turn P w K (.Tuple elts k pos) (Itz K t1 t2 a b) [z,TI,TO,i1,i2] z (Quf t1 t2 z TI TO i1 i2 a b) where
 mem:=by simp
 obj:=fun i h st c j=>by
  obtain ⟨Z,B,⟨u,v,G⟩,h1,h2⟩:=st;simp at j;rcases j with rfl | rfl | rfl | rfl | rfl
  ·exact ⟨_,Z,fun v q=>by cases q⟩
  ·exact ⟨_,B,Q85⟩
  ·exact ⟨_,G,Q85⟩
  ·exact h1.there
  ·exact h2.there
 keep:=fun i h h' st kk=>by
  obtain ⟨Z,B,⟨u,v,G⟩,h1,h2⟩:=st;exact ⟨kk z (by simp) _ Z,kk TI (by simp) _ B,⟨u,v,kk TO (by simp) _ G⟩,h1.at fun o e=>kk i1 (by simp) o e,h2.at fun o e=>kk i2 (by simp) o e⟩
 item:=by
  intro X hP hw hK j i pins s σ H E I hf st hg;subst hP hw hK;obtain ⟨xs,ys,x,y,O,Y,hx,hy⟩:=hg;obtain ⟨Z,B,⟨u,v,G⟩,h1,h2⟩:=st;obtain ⟨its,rv,p,_⟩:=I.seqK O;obtain ⟨b6,a9,p2,_⟩:=I.seqK Y;obtain ⟨ux,b8,c1⟩:=rv.get hx;obtain ⟨uy,c0,c2⟩:=a9.get hy;refine Q5t D Z B G h1 h2 p p2 (x:=ux) (y:=uy) (by simpa using b8) (by simpa using c0) fun h' a1 a2 a3 a4 a5 a6 a7=>⟨_,rfl,?_⟩
  refine wpAny_letOwnedTupleGo_zip (s:={ s with heap:=h' }) a1 fun a8 b1 b2=>?_
  have b9:H s.heap.objs.size=none:=I.fresh;have c3:z < s.heap.objs.size:=O7 Z;have c6:TI < s.heap.objs.size:=O7 B;have c5:TO < s.heap.objs.size:=O7 G;have c7:i1 < s.heap.objs.size:=by obtain ⟨o,e,_⟩:=h1.there; exact O7 e
  have c4:i2 < s.heap.objs.size:=by obtain ⟨o,e,_⟩:=h2.there; exact O7 e
  have U:Inv X pins σ H { s with heap:=a8 }:=I.turnedL (t':=s.toks) (its:=[z,TO,i1,i2]) (fun c o j e=>(b2.2 c (fun q=>j (by simp [q]))).trans (a7 c o (fun q=>j (by simp [q])) (fun q=>j (by simp [q])) (fun q=>j (by simp [q])) (fun q=>j (by simp [q])) e))
   fun c j=>hf c (by simp at j ⊢; rcases j with rfl | rfl | rfl | rfl <;> simp)
  have b0:aX a8 s.heap.objs.size ux uy:=(b2.2 _ (Nat.ne_of_gt c3)).trans a5;have J:H s.heap.objs.size=none:=b9;have I2:Inv X pins σ (upd H s.heap.objs.size (.tup [x,y])) { s with heap:=a8 }:=by
   refine ⟨U.ok,U.os,U.bare,?_,U.loc,U.cell,?_,?_,?_,?_,U.len⟩
   ·have u0:=U.base;have old:∀ c o,X.s₀.heap.get? c=some o->c≠s.heap.objs.size:=fun c o e=>E5 (D4 (O7 e) I.sz)
    exact ⟨u0.keep,u0.slot,fun c o e n hx=>by rw [Qn (old c o e)]; exact u0.free c o e n hx,u0.there,
     fun c ts e=>by have:=u0.tups c ts e; rw [Qn (Qp this J)]; exact this,
     fun c o ts e=>by have:=u0.frzs c o ts e; rw [Qn (Qp this J)]; exact this,
     fun c ps e=>by obtain ⟨more,q⟩:=u0.tbls c ps e; exact ⟨more,by rw [Qn (Qp q J)]; exact q⟩⟩
   ·rw [Qn (E5 I.lt)]; exact I.free
   ·intro x' c e;obtain ⟨v',q⟩:=I.cell x' c e;rw [Qn (E5 q.lt)]; exact I.freeC x' c e
   ·intro p' b4;obtain ⟨e,n,ne,nf,d⟩:=U.pin p' b4;have e0:=(I.pin p' b4).1;exact ⟨e,by rw [Qn (E5 (O7 e0))]; exact n,ne,nf,d⟩
   ·intro c o q
    by_cases b3:c=s.heap.objs.size
    ·subst b3;rw [Qr] at q; cases q;exact ⟨by simp only [F4,List.length_nil]; rw [sizeLine_eq]; decide,[ux,uy],.cons c1 (.cons c2 .nil),⟨_,b0,rfl,0,rfl⟩⟩
    ·rw [Qn b3] at q;exact (U.hok c o q).stay (fun _ _ _ r=>r) (fun c' r=>by rw [Qn (Qp r J)]; exact r) fun c' ts r=>by rw [Qn (Qp r J)]; exact r
  refine ⟨.ref s.heap.objs.size,_,I2,rfl,⟨s.heap.objs.size,x,y,J,rfl,rfl,fun c9 c8 q1 q2=>?_⟩,?_,fun c j=>?_⟩
  ·rw [I.seqK_inj q1 O,I.seqK_inj q2 Y]; exact ⟨hx,hy⟩
  ·exact ⟨b1,b2.extBut _ _ D.TIz (a7 _ _ D.TIz D.TITO D.TIi1 D.TIi2 B),⟨_,_,b2.extBut _ _ D.TOz a2⟩,a3.at fun o e=>b2.extBut _ _ D.i1z e,a4.at fun o e=>b2.extBut _ _ D.i2z e⟩
  ·have:=(hf c j).1;have b7:c < s.heap.objs.size:=by simp at j; rcases j with rfl | rfl | rfl | rfl | rfl <;> assumption
   rw [Qn (E5 b7)]; exact this
 done:=by
  intro X hP hw hK j i pins s σ H E I hf st hg;subst hP hw hK;obtain ⟨xs,ys,O,Y,b5⟩:=hg;obtain ⟨Z,B,⟨u,v,G⟩,h1,h2⟩:=st;obtain ⟨its,rv,p,_⟩:=I.seqK O;obtain ⟨b6,a9,p2,_⟩:=I.seqK Y;have l1:=rv.length;have l2:=a9.length;refine Q7h (I.ok.hd j) D Z B G h1 h2 p p2 (b5.elim (fun h=>.inl (by simp; omega)) fun h=>.inr (by simp; omega)) fun h' kk=>⟨rfl,?_⟩
  exact I.turnedL (t':=s.toks) (its:=[z,TO,i1,i2]) (fun c o j e=>kk c o (fun q=>j (by simp [q])) (fun q=>j (by simp [q])) (fun q=>j (by simp [q])) (fun q=>j (by simp [q])) e)
   fun c j=>hf c (by simp at j ⊢; rcases j with rfl | rfl | rfl | rfl <;> simp)
 self:=fun _ _ _ _ _ st h=>wpAny_pyIter_zip st.1 h
section
variable {X:Cx}
def Qyk (K:PySem.W.Frag) (t1 t2:Bool) (ta:TA):TI:=fun σ H R=>ta σ H fun vs H1=>∃ a b xs ys,vs=[.ref a,.ref b]/\SqK K t1 H1 a xs/\SqK K t2 H1 b ys/\R (Itz K t1 t2 a b) H1
theorem Qm8:aZ "zip" = some (.type "zip"):=by decide +kernel
theorem Qs2 (t1 t2:Bool) {a b:aD} {ta:TA} {p pos:Pos} {elts:List aD} {k:Nat} {tp:Pos} (hg:Gl X "zip") (hm:X.mg "zip" = none) (ha:PA X [a,b] ta) (hs:aP [a,b] X.env=[(false,aQ a X.env),(false,aQ b X.env)]:=by rfl) (G:aP [b] X.env=[(false,aQ b X.env)]:=by rfl) :
  PI X (.Tuple elts k tp) (.Call (.Name "zip" p) [a,b] [] pos) (Qyk X.K t1 t2 ta):=by
 intro pins s σ H R I h;refine Call_ (Q67 I hg hm Qm8 (PyProof.Rows.callWith_type1 (thn (ha pos pins s σ H _ I h) fun us j ⟨vs,H1,B,r1,q1⟩=>?_) (by rw [hs,G]) (by rw [G]; rfl)))
 obtain ⟨Y,Z,xs,ys,e,q1,q2,q⟩:=q1;subst e;cases r1 with
 | cons r O=>
  cases O with
  | cons r' O=>
   cases O;cases r;cases r';obtain ⟨its,rv,U,_⟩:=B.seqK q1;obtain ⟨a1,a4,p2,_⟩:=B.seqK q2;refine Qhs U p2 fun h' z1 z2 z3 z4 z5 z6 z7=>?_
   refine wpAny_pyIter_zip (s:={ j with heap:=h' }) z1 ?_;have a3:Y < j.heap.objs.size:=by obtain ⟨o,e⟩:=U.there; exact O7 e
   have a2:Z < j.heap.objs.size:=by obtain ⟨o,e⟩:=p2.there; exact O7 e
   have D:ZipApart (j.heap.objs.size + 4) (j.heap.objs.size + 2) (j.heap.objs.size + 3) j.heap.objs.size (j.heap.objs.size + 1) Y Z:=by
    constructor <;> (intro z; unfold aA at *; omega)
   refine ⟨_,[j.heap.objs.size + 4,j.heap.objs.size + 2,j.heap.objs.size + 3,j.heap.objs.size,j.heap.objs.size + 1],_,_,H1,rfl,B.kept (t':=j.toks) z7,Qi9 (t1:=t1) (t2:=t2) D,⟨z1,z2,⟨_,_,z3⟩,z4,z5⟩,fun c hc=>?_,q⟩
   have J:j.heap.objs.size<=c:=by simp at hc; unfold aA at *; omega
   exact B.fpOk J (B.hok.fresh J)
end
theorem Q4v {prog:aL} {w:aK} {A:aN} (G:A.handled=none) (t:Bool) (I z:aA) (B:z≠I) (j:Array aB) :
  Walks prog w A I [I,z] [I] j.size (fun i v=>j[i]?=some v) (fun i h=>IterAt t h I z i/\HasItems t h z j):=by
 cases t
 ·exact Walks.list G I z B j
 ·exact Walks.tuple G I z B j
theorem Q2j {α:Type} (l:List α) (d:α) {n:Nat} (h:n < l.length):l.getD n d=l[n]:=by simp [List.getD,h]
theorem Qbs (ns:List Int):preSum (fun j=>ns.getD j 0) ns.length=ns.sum:=by
 have B:∀ (k:Nat),k<=ns.length->preSum (fun j=>ns.getD j 0) k=(ns.take k).sum:=by
  intro k
  induction k with
  | zero=>intro _; rfl
  | succ k G=>
   intro I;show preSum _ k + ns.getD k 0=_;have z:k < ns.length:=by omega
   rw [G (by omega),List.take_succ,List.sum_append,Q2j _ _ z,O3 z];simp
 rw [B ns.length (O6 _),List.take_length]
section
variable {X:Cx} {pins:List (aA × Obj)} {σ:St} {H:Hp} {s:aC}
theorem Inv.movedNew {s':aC} (I:Inv X pins σ H s) {o:Obj} (m:Moved [s.heap.objs.size] (fun a b=>b=a) { s with heap:=s.heap.push o } s'):Inv X pins σ H s':=by
 obtain ⟨m1,m2,m3,m4,m5⟩:=m;obtain ⟨h',g',d',t',o'⟩:=s';have e1:g'=s.gens:=m2;have e2:d'=s.drawn:=m3;have e3:o'=s.os:=m4;subst e1 e2 e3;refine I.kept (t':=t') fun b u e=>m1 b u (fun z=>?_) (O1 _ e)
 have:b=s.heap.objs.size:=by simpa using z
 exact absurd (O7 e) (by rw [this]; exact Nat.lt_irrefl _)
theorem Q03 {ns:List Int} {its:List aB} (r:Vals (ns.map V.int) its):∀ (i:Nat) (v:aB),its.toArray[i]?=some v->∃ t,v=Value.int (ns.getD i 0) t:=fun i v e=>by
 have z:its[i]?=some v:=by simpa using e
 have hi:i < its.length:=(O2.mp z).1;have hl:=r.length;rw [O0] at hl;have B:(ns.map V.int)[i]?=some (V.int (ns.getD i 0)):=by
  have:i < ns.length:=by omega
  simp [List.getD,this]
 obtain ⟨u,j,t,G⟩:=r.get B;rw [z] at j;cases j;exact ⟨t,G⟩
theorem Q8v {bs:List Bool} {its:List aB} (r:Vals (bs.map V.bl) its):∀ (i:Nat) (v:aB),its.toArray[i]?=some v->v=Value.bool (bs.getD i false):=fun i v e=>by
 have z:its[i]?=some v:=by simpa using e
 have hi:i < its.length:=(O2.mp z).1;have hl:=r.length;rw [O0] at hl;have B:(bs.map V.bl)[i]?=some (V.bl (bs.getD i false)):=by
  have:i < bs.length:=by omega
  simp [List.getD,this]
 obtain ⟨u,j,G⟩:=r.get B;rw [z] at j;cases j;exact G
theorem X4 {t:Bool} {l:aA} {j:Array aB} (hl:HasItems t s.heap l j):l≠s.heap.objs.size /\
  (IterAt t (s.heap.push (X5 t l)) s.heap.objs.size l 0/\HasItems t (s.heap.push (X5 t l)) l j)/\∀ b∈[s.heap.objs.size,l],b < (s.heap.push (X5 t l)).objs.size:=by
 obtain ⟨o,e⟩:=hl.there;have z:=O7 e;refine ⟨E5 z,⟨Q1k (D0 _ (y8 _ _)),hl.at fun o e=>O1 _ e⟩,fun b B=>?_⟩
 rw [F9];simp at B;rcases B with rfl | rfl
 ·exact Nat.lt_succ_self _
 ·exact Nat.lt_succ_of_lt z
end
section
variable {X:Cx}
theorem Qm1 (t:Bool) (J:X.calm=true):Ur X (.builtin "sum") (fun xs H Q=>∃ (a:aA) (ns:List Int),xs=[.ref a]/\SqK X.K t H a (ns.map V.int)/\Q (.int ns.sum) H):=by
 intro pins s σ H xs Z Q I r h;obtain ⟨a,ns,rfl,O,q⟩:=h;obtain ⟨u,rfl,B⟩:=yf r;cases B;obtain ⟨its,z,p,_⟩:=I.seqK O;obtain ⟨G,U,Y⟩:=X4 p;have hl:=z.length;rw [O0] at hl;refine call_sum_walkAnyS (Ui p ⟨_,_,_,_,_,_,_,fun j=>ns.getD j 0,rfl,(Q4v (A:=X.A.in1) (I.ok.hd J) t _ a G its.toArray).toS,U,Y,Q03 z,fun s' t' m=>?_⟩);refine ⟨.int ns.sum,H,I.movedNew m,⟨t',?_⟩,q⟩;rw [O4,<- hl,Qbs]
theorem Qgg (bs:List Bool):(List.range bs.length).all (fun i=>bs.getD i false)=bs.all id:=by
 induction bs with
 | nil=>rfl
 | cons b r j=>
  rw [F4,List.range_succ_eq_map,List.all_cons,List.all_map,List.all_cons,<- j];rfl
theorem Qgf (bs:List Bool):(List.range bs.length).any (fun i=>bs.getD i false)=bs.any id:=by
 induction bs with
 | nil=>rfl
 | cons b r j=>
  rw [F4,List.range_succ_eq_map,List.any_cons,List.any_map,List.any_cons,<- j];rfl
theorem Qm3 (t:Bool) (G:X.calm=true):Ur X (.builtin "all") (fun xs H Q=>∃ (a:aA) (bs:List Bool),xs=[.ref a]/\SqK X.K t H a (bs.map V.bl)/\Q (.bl (bs.all id)) H):=by
 intro pins s σ H xs us Q I r h;obtain ⟨a,bs,rfl,O,q⟩:=h;obtain ⟨u,rfl,B⟩:=yf r;cases B;obtain ⟨its,z,p,_⟩:=I.seqK O;obtain ⟨J,U,w3⟩:=X4 p;have hl:=z.length;rw [O0] at hl;refine call_all_walkS (Ui p ⟨_,_,_,_,_,_,_,fun j=>bs.getD j false,rfl,(Q4v (A:=X.A.in1) (I.ok.hd G) t _ a J its.toArray).toS,U,fun i v s' Q' E' Y Z=>?_,fun s' m=>?_⟩)
 ·rw [Q8v z i v Y];exact az Z
 ·refine ⟨.bl (bs.all id),H,I.movedNew m,?_,q⟩;show Value.bool _=_;rw [O4,<- hl,Qgg]
theorem Qm2 (t:Bool) (G:X.calm=true):Ur X (.builtin "any") (fun xs H Q=>∃ (a:aA) (bs:List Bool),xs=[.ref a]/\SqK X.K t H a (bs.map V.bl)/\Q (.bl (bs.any id)) H):=by
 intro pins s σ H xs us Q I r h;obtain ⟨a,bs,rfl,O,q⟩:=h;obtain ⟨u,rfl,B⟩:=yf r;cases B;obtain ⟨its,z,p,_⟩:=I.seqK O;obtain ⟨J,U,w3⟩:=X4 p;have hl:=z.length;rw [O0] at hl;refine call_any_walkS (Ui p ⟨_,_,_,_,_,_,_,fun j=>bs.getD j false,rfl,(Q4v (A:=X.A.in1) (I.ok.hd G) t _ a J its.toArray).toS,U,fun i v s' Q' E' Y Z=>?_,fun s' m=>?_⟩)
 ·rw [Q8v z i v Y];exact az Z
 ·refine ⟨.bl (bs.any id),H,I.movedNew m,?_,q⟩;show Value.bool _=_;rw [O4,<- hl,Qgf]
theorem Qhv (t:Bool) (Y:X.calm=true):Ur X (.builtin "max") (fun xs H Q=>∃ (a:aA) (ns:List Int),xs=[.ref a]/\SqK X.K t H a (ns.map V.int)/\ns≠[]/\∀ m,m∈ns->(∀ k,k∈ns->k<=m)->Q (.int m) H):=by
 intro pins s σ H xs us Q I r h;obtain ⟨a,ns,rfl,hq,G,q⟩:=h;obtain ⟨u,rfl,r1⟩:=yf r;cases r1;obtain ⟨its,B,p,_⟩:=I.seqK hq;obtain ⟨Z,O,U⟩:=X4 p;have hl:=B.length;rw [O0] at hl;have hpos:0 < ns.length:=G8.mpr G;refine call_max_walkS (Ui p ⟨_,_,_,_,_,_,_,_,rfl,(Q4v (A:=X.A.in1) (I.ok.hd Y) t _ a Z its.toArray).toS,O,U,by rw [O4]; omega,CmpOf.ints_gt (fun j=>ns.getD j 0) (fun i v z=>Q03 B i v z),fun v s' z m=>?_⟩);obtain ⟨t',rfl⟩:=Q03 B _ _ z;obtain ⟨h1,h2⟩:=argBest_gt (fun j=>ns.getD j 0) (its.toArray.size - 1);have J:argBest (fun i j=>decide (ns.getD i 0 > ns.getD j 0)) (its.toArray.size - 1) < ns.length:=by
  have e':its.toArray.size=ns.length:=by rw [O4]; omega
  rw [e'] at h1 ⊢;exact Nat.lt_of_le_of_lt h1 (by omega)
 refine ⟨.int (ns.getD (argBest (fun i j=>decide (ns.getD i 0 > ns.getD j 0)) (its.toArray.size - 1)) 0),H,I.movedNew m,⟨t',rfl⟩,q _ ?_ fun k hk=>?_⟩
 ·rw [Q2j _ _ J];exact List.getElem_mem J
 ·obtain ⟨j,hj,rfl⟩:=List.mem_iff_getElem.mp hk;have:=h2 j (by rw [O4]; omega);rw [Q2j _ _ hj] at this;exact this
theorem Qht (t:Bool) (Y:X.calm=true):Ur X (.builtin "min") (fun xs H Q=>∃ (a:aA) (ns:List Int),xs=[.ref a]/\SqK X.K t H a (ns.map V.int)/\ns≠[]/\∀ m,m∈ns->(∀ k,k∈ns->m<=k)->Q (.int m) H):=by
 intro pins s σ H xs us Q I r h;obtain ⟨a,ns,rfl,hq,G,q⟩:=h;obtain ⟨u,rfl,r1⟩:=yf r;cases r1;obtain ⟨its,B,p,_⟩:=I.seqK hq;obtain ⟨Z,O,U⟩:=X4 p;have hl:=B.length;rw [O0] at hl;have hpos:0 < ns.length:=G8.mpr G;refine call_min_walkS (Ui p ⟨_,_,_,_,_,_,_,_,rfl,(Q4v (A:=X.A.in1) (I.ok.hd Y) t _ a Z its.toArray).toS,O,U,by rw [O4]; omega,CmpOf.ints_lt (fun j=>ns.getD j 0) (fun i v z=>Q03 B i v z),fun v s' z m=>?_⟩);obtain ⟨t',rfl⟩:=Q03 B _ _ z;obtain ⟨h1,h2⟩:=argBest_lt (fun j=>ns.getD j 0) (its.toArray.size - 1);have J:argBest (fun i j=>decide (ns.getD i 0 < ns.getD j 0)) (its.toArray.size - 1) < ns.length:=by
  have e':its.toArray.size=ns.length:=by rw [O4]; omega
  rw [e'] at h1 ⊢;exact Nat.lt_of_le_of_lt h1 (by omega)
 refine ⟨.int (ns.getD (argBest (fun i j=>decide (ns.getD i 0 < ns.getD j 0)) (its.toArray.size - 1)) 0),H,I.movedNew m,⟨t',rfl⟩,q _ ?_ fun k hk=>?_⟩
 ·rw [Q2j _ _ J];exact List.getElem_mem J
 ·obtain ⟨j,hj,rfl⟩:=List.mem_iff_getElem.mp hk;have:=h2 j (by rw [O4]; omega);rw [Q2j _ _ hj] at this;exact this
end
section
variable {prog:aL} {w:aK} {A:aN} {E:aB->aC->Prop} {s:aC}
end
section
variable {X:Cx}
end
theorem Qiu {H:Hp} {a:aA} {o:HO} (h:H a=none):Same H (upd H a o):=fun b u e=>by rw [Qn (Qp e h)]; exact e
section
variable {K:PySem.W.Frag} {cap:List (Option Nat)} {te:TE} {σ:St} {H1:Hp} {Q:VK}
abbrev g2 (K:PySem.W.Frag):TG:=Qwb K 2 (Qkh (Q8h 0) (Qkh (Q8h 1) Qwc))
end
def Qtk:V->Option aB
 | .ty n=>some (.type n)
 | .ref a=>some (.ref a)
 | _=>none
theorem Qcv {c:V} {j u:aB} (e:Qtk c=some j) (r:RelV c u):u=j:=by
 cases c with
 | ty n=>cases e; exact r
 | ref a=>cases e; exact r
 | _=>cases e
section
variable {X:Cx}
theorem Qcx:Ur X (.builtin "isinstance") (fun xs H Q=>∃ x c j t b,xs=[x,c]/\Qtk c=some j/\TyOf X.K H x t/\PySem.W.kitOne X.K t j=some b/\Q (.bl b) H):=by
 intro pins s σ H xs O Q I r h;obtain ⟨x,c,j,t,b,rfl,B,ty,e,q⟩:=h;obtain ⟨u,J,rfl,z,G⟩:=Qek r;rw [Qcv B G];exact Qha I z ty e fun tk=>⟨.bl b,H,I.tok tk,rfl,q⟩
theorem Jb:aZ "isinstance" = some (.builtin "isinstance"):=by decide +kernel
theorem Ua:aZ "sum" = some (.builtin "sum"):=by decide +kernel
theorem zj:aZ "all" = some (.builtin "all"):=by decide +kernel
theorem j8:aZ "any" = some (.builtin "any"):=by decide +kernel
theorem Qma:aZ "max" = some (.builtin "max"):=by decide +kernel
theorem Qm9:aZ "min" = some (.builtin "min"):=by decide +kernel
theorem Jx:aZ "tuple" = some (.type "tuple"):=by decide +kernel
theorem Qcy:aZ "int" = some (.type "int"):=by decide +kernel
theorem Q3r:aZ "bool" = some (.type "bool"):=by decide +kernel
end
section
variable {X:Cx} (K:PySem.W.Frag)
end
def Sz (n:Nat) (tb:List (List Int)):Prop:=tb.length=n/\∀ row∈tb,row.length=n + 1
end L2
namespace L2
open PySem PySem.Spec PyProof.Rows PySem.W PySem.Builtin.Getset_descriptor
structure XCls (K:Frag) (C:aA):Prop where
 cls:(clsIn K C).isSome=true
 ga:findIn K (.ref C) "__getattribute__" = some (some (.builtin "BaseException.__getattribute__"))
 gt:findIn K (.ref C) "__getattr__" = some none
 cl:findIn K (.ref C) "__class__" = some (some (.builtin "object.__class__"))
 gs:specialIn K (.builtin "object.__class__") "__get__" = some (some (.builtin "getset_descriptor.__get__"))
 tk:takesIn K (.builtin "object.__class__")=some true
 ob:mroIn K C (.type "object")=some true
 be:mroIn K C (.type "BaseException")=some true
def IsX (x C:aA) (h:Heap):Prop:=∃ ox,h.get? x=some ox/\ox.cls=.ref C
theorem IsX.type {M:Model} {h:Heap} {x C:aA} (I:IsX x C h):Looks M h (typeOf (.ref x)) (.ref C):=by
 obtain ⟨j,h1,h2⟩:=I;exact h2 ▸ (Looks.ld h1).andThen .now
theorem Qmm {K:Frag} {M:Model} {h:Heap} {x C:aA} (X:K.In h) (F:XCls K C):Looks M h (Builtin.ObjectAttr.find (.ref x) (.ref C) "__class__") (.bind (.builtin "getset_descriptor.__get__") (.builtin "object.__class__")):=by
 have z:=looks_findIn (M:=M) X F.cl;have j:Looks M h (Builtin.ObjectAttr.getOf (some (.builtin "object.__class__"))) (some (.builtin "getset_descriptor.__get__")):=looks_specialIn X F.gs;have B:Looks M h (Builtin.ObjectAttr.dataDescriptor? (some (.builtin "object.__class__")) (some (.builtin "getset_descriptor.__get__"))) (some (.builtin "getset_descriptor.__get__",.builtin "object.__class__")):=(looks_takesIn X F.tk).andThen .now;exact z.andThen (j.andThen (B.andThen (Looks.tag .now)))
section
variable {prog:aL} {w:aK} {A:aN} {E:aB->aC->Prop} {h:Heap} {g:Array GenState} {d:Drawn} {t:Nat} {os:OsState} {K:Frag} {x C:aA}
theorem Qrb {tp:aB} {R:Result->aC->Prop} (X:K.In h) (F:XCls K C) (I:IsX x C h) (j:R (.ok (.ret (.ref C))) ⟨h,g,d,t,os⟩):codeAny (aI prog w) A (.call (.builtin "getset_descriptor.__get__") ⟨[.builtin "object.__class__",.ref x,tp],[]⟩) R ⟨h,g,d,t,os⟩:=by
 have z:=I.type (M:=aI prog w);have B:=looks_mroIn (M:=aI prog w) X F.ob;refine codeAny_call_builtin KF.slot_gs.plain KF.entry_gs (KF.slot_gs.check _ _ _ _ _ _ _ _ KF.type_class (KF.args_gs _ _ _) ?_);unfold Builtin.«getset_descriptor.__get__» descrGet;rw [dga_obj];refine aF (aO ?_);unfold descrGetter descrCheckInstance descrNameAndClass isInstance;simp only [KF.owner_class]
 repeat lk
 refine ⟨Code.quiet_builtin _ (by decide +kernel),bJ KF.entry_class ?_⟩;unfold Builtin.«object.__class__» shownTypeOf
 repeat lk
 exact j
theorem Qi2 {tk:Tok} {Q:Fin->aC->Prop} (X:K.In h) (F:XCls K C) (I:IsX x C h) (z:Q (.done (.ret (.ref C))) ⟨h,g,d,t,os⟩) :
  aH (aI prog w) A (Builtin.«object.__getattribute__» ⟨[.ref x,.str "__class__" tk],[]⟩) Q E ⟨h,g,d,t,os⟩:=by
 have j:=I.type (M:=aI prog w);have B:=Qmm (M:=aI prog w) (x:=x) X F;unfold Builtin.«object.__getattribute__»;refine aF (aO ?_);refine aF (aO ?_);refine aF (j.at (aF (B.at ?_)));show aH _ _ (Builtin.ObjectAttr.bindTo (.builtin "getset_descriptor.__get__") (.builtin "object.__class__") (.ref x) (.ref C)) _ _ _;unfold Builtin.ObjectAttr.bindTo;refine aF (au (wpAny_call (Qrb X F I ?_)));exact aO z
theorem Qi3 {M:Model} {j:aB} {Q:Unit->aC->Prop} (X:K.In h) (F:XCls K C) (I:IsX x C h) (G:Q () ⟨h,g,d,t,os⟩):aH M A (checkBuiltinCall "BaseException.__getattribute__" ⟨[.ref x,j],[]⟩) Q E ⟨h,g,d,t,os⟩:=by
 have B:builtinKind "BaseException.__getattribute__" = some .slot:=by decide +kernel
 have z:splitId "BaseException.__getattribute__" = some ("BaseException", "__getattribute__"):=by decide +kernel
 have J:Looks M h (isInstance (.ref x) (.type "BaseException")) true:=(I.type).andThen (looks_mroIn X F.be);have O:=PySem.F.args_bexc_ga (.ref x) j;simp only [checkBuiltinCall,B,z];refine aF (J.at ?_);simp only [Bool.not_true,Bool.false_eq_true,if_false];exact wpAny_of_eq O G
theorem Qmn {tk:Tok} {R:Result->aC->Prop} (X:K.In h) (F:XCls K C) (I:IsX x C h) (j:R (.ok (.ret (.ref C))) ⟨h,g,d,t,os⟩) :
  codeAny (aI prog w) A (.call (.builtin "BaseException.__getattribute__") ⟨[.ref x,.str "__class__" tk],[]⟩) R ⟨h,g,d,t,os⟩:=
 codeAny_call_builtin PySem.F.attr_ValueError.ga.plain PySem.F.entry_bexc_ga (Qi3 X F I (Qi2 X F I j))
theorem Qug {tk:Tok} {Q:aB->aC->Prop} (X:K.In h) (F:XCls K C) (I:IsX x C h) (O:Q (.ref C) ⟨h,g,d,t,os⟩):aH (aI prog w) A (getAttrBy (.ref x) (.str "__class__" tk) false) Q E ⟨h,g,d,t,os⟩:=by
 have G:=I.type (M:=aI prog w);have B:=looks_findIn (M:=aI prog w) X F.ga;have z:=looks_findIn (M:=aI prog w) X F.gt;have j:(Value.builtin "BaseException.__getattribute__" == Value.builtin "object.__getattribute__")=false:=by decide +kernel
 have J:(onTheHeap (Value.ref C) && Value.builtin "BaseException.__getattribute__" == Value.builtin "object.__getattribute__")=false:=by rw [j]; rfl
 have U:=PySem.F.attr_ValueError.ga.bind (.ref x);unfold getAttrBy;refine au (aF (G.at (aF (B.at ?_))))
 repeat (any_goals (first | assumption | with_reducible refine z.at ?_ | wp_step))
 refine Qmn X F I ?_
 repeat (any_goals (first | assumption | wp_step))
theorem Qmp {Q:Option aB->aC->Prop} (X:K.In h) (F:XCls K C) (I:IsX x C h) (j:Q (some (.ref C)) ⟨h,g,d,t + 1,os⟩):aH (aI prog w) A (getAttr? (.ref x) "__class__") Q E ⟨h,g,d,t,os⟩:=by
 unfold getAttr? getAttrBy?
 repeat (any_goals (first | assumption | with_reducible apply Qug X F I | wp_step))
end
theorem Qk9 {K:Frag} {x C:aA} (F:XCls K C):KitX K (.ref x) (.ref C) (IsX x C) where
 ty:=fun _ _ _ I=>I.type
 it:=fun _ _ X _=>by
  obtain ⟨G,j⟩:=Option.isSome_iff_exists.mp F.cls;unfold clsIn at j
  split at j
  ·rename_i Y d' J U O;intro A' Z E' s' k q;unfold isType loadHead;exact aF (wpAny_loadPart (k _ _ (X _ _ O)) (aO q))
  ·cases j
 ne:=fun h tp dd its n sl X B=>by
  obtain ⟨G,j⟩:=Option.isSome_iff_exists.mp F.cls;refine Bool.eq_false_iff.mpr fun q=>?_
  have e:C=tp:=Value.ref.inj (beq_iff_eq.mp q);subst e;unfold clsIn at j
  split at j
  ·rename_i Y d' J U O;have z:=(X _ _ O).symm.trans B;cases z
  ·cases j
 ca:=fun {prog w A E Q s} X I k=>by
  obtain ⟨h,g,d,t,os⟩:=s;exact Qmp X F I k
end L2
namespace L2
open PySem PySem.Spec PyProof.Rows
theorem ObjOk.there {P:aL} {w:aK} {H:Hp} {h:Heap} {a:aA} {o:HO} (x:ObjOk P w H h a o):∃ u,h.get? a=some u:=by
 cases o with
 | lst xs=>obtain ⟨_,_,_,_,e⟩:=x; exact ⟨_,e⟩
 | tup xs=>obtain ⟨_,_,_,o,e,_⟩:=x; exact ⟨o,e⟩
 | dK kvs=>obtain ⟨_,_,_,_,o,_,_,e,_⟩:=x; exact ⟨o,e⟩
 | dT kvs=>obtain ⟨_,_,_,_,o,_,_,e,_⟩:=x; exact ⟨o,e⟩
 | set S n=>obtain ⟨o,_,_,_,e,_⟩:=x; exact ⟨o,e⟩
 | ins C dx fs=>obtain ⟨_,_,_,e,_⟩:=x; exact ⟨_,e⟩
 | own y=>exact x
 | xd fs=>obtain ⟨_,⟨o,_,_,e,_⟩,_⟩:=x; exact ⟨o,e⟩
 | rng lo hi=>obtain ⟨_,_,_,e⟩:=x; exact ⟨_,e⟩
 | frz ob u=>obtain ⟨e,_⟩:=x; exact ⟨_,e⟩
 | tbl ps=>exact ⟨_,x⟩
 | met f y=>exact ⟨_,x⟩
 | ext j=>exact x.2.1
theorem HOk.none_of {P:aL} {w:aK} {H:Hp} {h:Heap} {a:aA} (x:HOk P w H h) (e:h.get? a=none):H a=none:=by
 cases q:H a with
 | none=>rfl
 | some o=>
  obtain ⟨u,z⟩:=(x a o q).there;rw [e] at z;cases z
structure Fly (P:aL) (w:aK) (outer:List Env) (H H':Hp) (s s':aC) (a:aA) (cls a0:aB) (B:Heap):Prop where
 os:s'.os=s.os
 bare:AllBare s'.gens
 fl:Heap.FlyingW B outer a cls a0 s'.heap
 hokB:HOk P w H' B
 keep:∀ b o,s.heap.get? b=some o->H b=none->b∉frs outer->B.get? b=some o
 there:∀ b o,s.heap.get? b=some o->b∉frs outer->∃ o',B.get? b=some o'
 slot:∀ b o,s.heap.get? b=some o->b∈frs outer->∃ sl,s'.heap.get? b=some { o with slots:=sl }
 free:∀ b o,s.heap.get? b=some o->H b=none->H' b=none
 tups:∀ b xs,H b=some (.tup xs)->H' b=some (.tup xs)
 frzs:∀ b o u,H b=some (.frz o u)->H' b=some (.frz o u)
 tbls:∀ b ps,H b=some (.tbl ps)->∃ more,H' b=some (.tbl (ps ++ more))
section
variable {P:aL} {w:aK} {K:PySem.W.Frag} {mg:Str->Option aB} {base:Heap} {N:List Str} {qual:Str} {scope:Scope} {f:aA} {cd:aB} {A:aN} {outer:List Env} {s:aC} {H:Hp} {E:XK}
end
abbrev Q0u:List aB:=[.type "ValueError",.type "Exception",.type "BaseException",.type "object"]
theorem Qp1 {K:PySem.W.Frag} {h:Heap} {C:aA} {z:List aB} {j:String} {x:Str} {mg:Str->Option aB} (X:K.In h) (m:mg x=some (.ref C)) (q:PySem.W.excIn K C z j=true):OwnCls x C z j mg h:=by
 refine ⟨m,?_⟩;unfold PySem.W.excIn at q
 split at q
 ·rename_i dd cd G U
  split at q
  ·rename_i Y bm k0 k1 k2 k3 n k5 I hs;simp only [L6,beq_iff_eq,Bool.not_eq_true'] at q;obtain ⟨⟨⟨⟨⟨rfl,rfl⟩,hdel⟩,ht⟩,hok⟩,hni⟩:=q;obtain ⟨nm,bs,O,ns,qn,hd,sn,sub,ab,col,J⟩:=cd;dsimp only at I hdel hok hni;subst I hdel;have B:G=#[k0,k1,k2,k3,some (.builtin n),k5]:=by
    obtain ⟨l⟩:=G;simp only at hs;rw [hs]
   subst B;exact ⟨bm,ns,nm,qn,bs,hd,sn,sub,ab,col,dd,k0,k1,k2,k3,k5,_,X _ _ U,.of_isNs (PySem.W.isNs_of_in X hok),PySem.W.nsMap_none_of_in X hok hni,PySem.W.tail_of_in X ht⟩
  ·cases q
 ·cases q
section
variable {X:Cx}
def Qrj (C:aA) (E:XK) (t:TA):TS:=fun _ σ H=>t σ H fun vs H1=>vs.length<=sizeLine/\E (.ref C) none H1
end
def Q0e (X:Cx) (a:aA):Cx:={ X with A:=X.A.mark (some (.ref a)),calm:=false,xe:=fun _ _=>False }
section
variable {X:Cx} {pins:List (aA × Obj)} {σ:St} {H H':Hp} {s s':aC} {a C:aA}
theorem Inv.suite (I:Inv X pins σ H s) (a:aA):Inv (Q0e X a) pins σ H s:=
 ⟨⟨I.ok.mod,I.ok.kind,I.ok.glob,I.ok.blt,I.ok.above,I.ok.inj,I.ok.has,I.ok.cab,fun h=>(by cases h),I.ok.frames,I.ok.stk,I.ok.exf,I.ok.bs,I.ok.bsz,I.ok.noex,I.ok.exfs,I.ok.funs,I.ok.frf⟩,I.os,I.bare,I.base,I.loc,I.cell,I.free,I.freeC,I.pin,I.hok,I.len⟩
theorem Inv.unsuite (ok:X.Ok) (I:Inv (Q0e X a) pins σ H s):Inv X pins σ H s:=⟨ok,I.os,I.bare,I.base,I.loc,I.cell,I.free,I.freeC,I.pin,I.hok,I.len⟩
theorem Fly.inv {cls a0:aB} {B J:Heap} (I:Inv X pins σ H s) (F:Fly X.prog X.w X.stack H H' s s' a cls a0 B) (U:B.StaysIn J) (sm:s'.heap.UpToSlots J):Inv X pins σ H' { s' with heap:=J }:=by
 have G:∀ b o,s.heap.get? b=some o->b∈frs X.stack->∃ G,J.get? b=some { o with slots:=G }:=fun b o q j=>by
  obtain ⟨G,z⟩:=F.slot b o q j;obtain ⟨_,o',O,Y⟩:=I.stack.mem j;rw [q] at O;cases O;obtain ⟨Z,z'⟩:=sm b _ z Y;exact ⟨Z,z'⟩
 refine I.call' (s':={ s' with heap:=J }) (ch:=[]) F.os ⟨fun b o q n j _=>U _ _ (F.keep b o q n j),fun b o q n j _=>G b o q j,fun b o q n _=>F.free b o q n,fun b o q _=>?_,F.tups,F.frzs,F.tbls⟩ (F.hokB.kept U) F.bare fun b z=>absurd z (by simp)
 by_cases j:b∈frs X.stack
 ·obtain ⟨G,z⟩:=G b o q j;exact ⟨_,z⟩
 ·obtain ⟨o',z⟩:=F.there b o q j;exact ⟨o',U _ _ z⟩
theorem Fly.new {cls a0:aB} {B:Heap} (F:Fly X.prog X.w X.stack H H' s s' a cls a0 B):s.heap.get? a=none/\H' a=none:=by
 have O:B.get? a=none:=F.fl.2.1;refine ⟨?_,F.hokB.none_of O⟩;cases q:s.heap.get? a with
 | none=>rfl
 | some o=>
  by_cases J:a∈frs X.stack
  ·obtain ⟨_,o',G,j⟩:=F.fl.2.2.1.mem J;obtain ⟨U,vs,I,_,hd,_⟩:=F.fl.first;rw [G] at I;cases I;exact absurd hd (j vs)
  ·obtain ⟨o',z⟩:=F.there a o q J;rw [O] at z;cases z
theorem Inv.track {O:aC} {Y:Heap->Prop} (J:Inv X pins σ H s) (U:∀ b,b∉X.ex) (h0:s.heap.get? a=none) (I:Inv X pins σ H' O) (G:H' a=none) (o:ObjOk X.prog X.w (upd H' a (.ext Y)) O.heap a (.ext Y)):Inv X pins σ (upd H' a (.ext Y)) O:=by
 have j:∀ b u,s.heap.get? b=some u->b≠a:=fun b u e z=>by rw [z,h0] at e; cases e
 have Z:∀ b u,X.s₀.heap.get? b=some u->b≠a:=fun b u e=>by
  obtain ⟨u',e'⟩:=J.base.there b u e (U b);exact j b u' e'
 refine ⟨I.ok,I.os,I.bare,?_,I.loc,I.cell,?_,?_,?_,?_,I.len⟩
 ·have B:=I.base;exact ⟨B.keep,B.slot,fun c o e n hx=>by rw [Qn (Z c o e)]; exact B.free c o e n hx,B.there,
   fun c ts e=>by have:=B.tups c ts e; rw [Qn (Qp this G)]; exact this,
   fun c o ts e=>by have:=B.frzs c o ts e; rw [Qn (Qp this G)]; exact this,
   fun c ps e=>by obtain ⟨more,q⟩:=B.tbls c ps e; exact ⟨more,by rw [Qn (Qp q G)]; exact q⟩⟩
 ·obtain ⟨m,⟨o,_,_,e,_⟩,_⟩:=J.loc;rw [Qn (j _ _ e)]; exact I.free
 ·intro x c e;obtain ⟨v,o,z,_⟩:=J.cell x c e;rw [Qn (j _ _ z)]; exact I.freeC x c e
 ·intro p hp;obtain ⟨e,n,ne,nf,d⟩:=I.pin p hp;exact ⟨e,by rw [Qn (j _ _ (J.pin p hp).1)]; exact n,ne,nf,d⟩
 ·intro c u q
  by_cases hc:c=a
  ·subst hc;rw [Qr] at q; cases q;exact o
  ·rw [Qn hc] at q;exact (I.hok c u q).stay (fun _ _ _ r=>r) (fun c' r=>by rw [Qn (Qp r G)]; exact r) fun c' ts r=>by rw [Qn (Qp r G)]; exact r
theorem Inv.forget {i:Nat} {n:Str} {m:Str->Option aB} {h':Heap} {v:Option aB} {tk:Nat} (I:Inv X pins σ H s) (hN:X.N.Nodup) (hi:X.N[i]?=some n) (hl:∀ (i:Nat) (x:Str) (v:V),X.N[i]?=some x->σ[i]?=some (some v)->Vis X.env.scope x->∃ u,RelV v u/\Qwz X.env s.heap m x u)
  (U:h'.Ns X.env.locals (fun x=>if x=n then v else m x)) (hs:Heap.SameBut X.env.locals s.heap h'):Inv X pins (σ.set i none) H { s with heap:=h',toks:=tk }:=by
 have cne:=I.cne;have B:HOk X.prog X.w H h':=I.hok.same I.free hs;have G:∀ b o,X.s₀.heap.get? b=some o->b≠X.env.locals:=fun b o e=>E5 (D4 (O7 e) I.ok.above)
 refine ⟨I.ok,I.os,I.bare,⟨fun b o e n O J=>(hs.2 b (G b o e)).trans (I.base.keep b o e n O J),fun b o e n O J=>?_,I.base.free,fun b o e J=>?_,I.base.tups,I.base.frzs,I.base.tbls⟩,⟨_,U,fun j y v' e1 e2 e3=>?_⟩,fun y c e=>?_,I.free,I.freeC,fun p hp=>?_,B,by simpa using I.len⟩
 ·obtain ⟨sl,z⟩:=I.base.slot b o e n O J;exact ⟨sl,(hs.2 b (G b o e)).trans z⟩
 ·obtain ⟨o',z⟩:=I.base.there b o e J;exact ⟨o',(hs.2 b (G b o e)).trans z⟩
 ·by_cases Y:j=i
  ·subst Y;rw [hi] at e1; cases e1;have:j < σ.length:=by have:=(O2.mp e2).1; simpa using this
   rw [F1 this] at e2;cases e2
  ·rw [D9 (Ne.symm Y)] at e2;obtain ⟨u,r,q⟩:=hl j y v' e1 e2 e3;refine ⟨u,r,?_⟩;rcases q with ⟨k,e⟩ | ⟨k,c,e,z⟩
   ·refine .inl ⟨k,?_⟩;have:y≠n:=fun e=>Y (Q5s hN e1 (e ▸ hi))
    simp [this,e]
   ·exact .inr ⟨k,c,e,z.sameBut hs (cne y c e)⟩
 ·obtain ⟨Z,z⟩:=I.cell y c e;exact ⟨Z,z.sameBut hs (cne y c e)⟩
 ·obtain ⟨e,n,ne,nf,d⟩:=I.pin p hp;exact ⟨(hs.2 p.1 ne).trans e,n,ne,nf,d⟩
end
section
variable {X:Cx}
end
section
variable {X:Cx}
end
theorem Q4z (l:aA) (j:Array aB) (n:Nat) (dd:Option aA) (z:Array (Option aB)) (t:Tok) :
  Meets (Builtin.«tuple.__mul__» ⟨[.ref l,.int 1 t],[]⟩) (fun _ R s=>s.heap.get? l=some { cls:=.type "tuple",dict:=dd,data:=.seq j n,slots:=z }/\R (.ok (.ret (.ref l))) s):=
 .of_wp fun prog w A R s h=>by
  obtain ⟨hp,g,d,tk,os⟩:=s; obtain ⟨hl,h⟩:=h
  wp_walk using wpAny_loadPart' hl
  exact ⟨_,rfl,h⟩
theorem Q50 (l:aA) (j:Array aB) (n:Nat) (dd:Option aA) (J:Array (Option aB)) (x:Int) (t:Tok) (h1:¬ (decide (x < -(2 ^ 63)) || decide (x>=2 ^ 63))=true) (h2:¬ (j.isEmpty || x == 1)=true) (U:¬ (decide (x<=0) || j.isEmpty)=true) (O:¬ (j.size:Int) * x > (2 ^ 63 - 1) / 8) (G:¬ Builtin.Tuple.tupleTooMany ((j.size:Int) * x)=true)
  (I:((List.replicate x.toNat j).foldl (fun B z=>B ++ z) #[]).size<=sizeLine) :
  Meets (Builtin.«tuple.__mul__» ⟨[.ref l,.int x t],[]⟩) (fun _ R s=>s.heap.get? l=some { cls:=.type "tuple",dict:=dd,data:=.seq j n,slots:=J } /\
   R (.ok (.ret (Value.ref s.heap.objs.size))) { s with heap:=s.heap.push { cls:=Value.type "tuple",data:=Data.seq ((List.replicate x.toNat j).foldl (fun B z=>B ++ z) #[]) } }):=
 .of_wp fun prog w A R s h=>by
  obtain ⟨hp,g,d,tk,os⟩:=s; obtain ⟨hl,h⟩:=h
  wp_walk using wpAny_loadPart' hl
  refine wpAny_ite_false (bT h1) ?_
  wp_walk using wpAny_loadPart' hl
  refine wpAny_ite_false (bT O) ?_
  wp_walk using wpAny_loadPart' hl
  all_goals first | exact ⟨_,rfl,h⟩ | (refine wpAny_ite_false (bT G) ?_; wp_walk) | skip
  all_goals first | exact ⟨_,rfl,h⟩ | (refine wpAny_ite_false (bT (Nat.not_lt.mpr I)) ?_; wp_walk; exact ⟨_,rfl,h⟩)
theorem Q6i (a:Int) (t:Tok) (l:aA) (j:Array aB) (n:Nat) (dd:Option aA) (z:Array (Option aB)) :
  Meets (Builtin.«int.__rmul__» ⟨[.int a t,.ref l],[]⟩) (fun _ R s=>s.heap.get? l=some { cls:=.type "tuple",dict:=dd,data:=.seq j n,slots:=z }/\R (.ok (.ret Value.notImplemented)) s):=
 .of_wp fun prog w A R s h=>by obtain ⟨hp,g,d,tk,os⟩:=s; obtain ⟨hl,h⟩:=h; wp_walk using wpAny_loadPart' hl; exact ⟨_,rfl,h⟩
theorem Q3a:fillsNumberSlot (.type "tuple") "mul" = pure false:=
 PySem.fillsNumberSlot_seq (id := "tuple.__mul__") (r:=some (.builtin "tuple.__rmul__")) F.slot_tuple_mul.lookup (by decide +kernel) F.slot_tuple_rmul.lookup (by decide +kernel)
theorem Q9p:seqRepeat? (.type "tuple")=pure (some (.builtin "tuple.__mul__")):=by
 unfold seqRepeat?;rw [PySem.seqSlot_of (T := "tuple") (name := "__mul__") (id := "tuple.__mul__") F.slot_tuple_mul.lookup (by decide +kernel),PySem.seqSlot_of (T := "tuple") (name := "__rmul__") (id := "tuple.__rmul__") F.slot_tuple_rmul.lookup (by decide +kernel)];rfl
section
variable {X:Cx}
def Qv5 (K:PySem.W.Frag):R2:=fun x y H Q=>∃ a k xs,x=.ref a/\y=.int k/\SqT K H a xs/\xs≠[]/\1<=k/\xs.length * k.toNat<=4096 /\
 (k=1->Q (.ref a) H)/\(k≠1->∀ p,H p=none->Q (.ref p) (upd H p (.tup (List.replicate k.toNat xs).flatten)))
theorem Qp3:OpR X (aV .Mult) (Qv5 X.K):=by
 intro pins s σ H x y v u Q I rx ry h;obtain ⟨a,k,xs,rfl,rfl,ha,O,hk,G,q1,q2⟩:=h;cases rx;obtain ⟨t,rfl⟩:=ry;obtain ⟨its,r,Z,hs⟩:=I.tuple ha;obtain ⟨⟨cls,dd,data,B⟩,ho,hc,n,hd⟩:=id Z;simp only at hc hd;subst hc hd;have hl:its.length=xs.length:=r.length.symm;have hpos:0 < its.length:=by rw [hl]; exact G8.mpr O
 have a1:k.toNat<=4096:=by
  have:1 * k.toNat<=xs.length * k.toNat:=Nat.mul_le_mul_right _ (by omega);omega
 refine wpAny_binaryOp_repeat_ref (T := "tuple") (U := "int") (by decide) ⟨_,ho,rfl⟩ (fun s'=>typeIs_int s' k t) Q3a F.fills_int_mul F.slot_int_rmul Q9p F.slot_int_index.lookup
  (bA F.slot_int_rmul (typeIs_int s k t) F.entry_int_rmul (F.args_int_rmul_2 _ _) (Q6i k t a its.toArray n dd B)
   ⟨ho,rfl,⟨_,ho,rfl⟩,?_⟩)
 by_cases h1:k=1
 ·subst h1;exact bA F.slot_tuple_mul ⟨_,ho,rfl⟩ F.entry_tuple_mul (F.args_tuple_mul_2 _ _) (Q4z a its.toArray n dd B t) ⟨ho,⟨.ref a,H,I,rfl,q1 rfl⟩⟩
 ·have Y:List.foldl (fun x1 x2=>x1 ++ x2) #[] (List.replicate k.toNat its.toArray)=(List.replicate k.toNat its).flatten.toArray:=by
   have:=Q3k its k.toNat [];rw [List.nil_append] at this;exact this
  have j:(its.toArray.size:Int) * k=((its.length * k.toNat:Nat):Int):=by
   rw [O4,Int.natCast_mul,Int.toNat_of_nonneg (by omega)]
  have J:(List.replicate k.toNat its).flatten.length<=4096:=by rw [Qad,hl,Nat.mul_comm]; exact G
  have hb:its.length * k.toNat<=4096:=by rw [hl]; exact G
  refine bA F.slot_tuple_mul ⟨_,ho,rfl⟩ F.entry_tuple_mul (F.args_tuple_mul_2 _ _) (Q50 a its.toArray n dd B k t ?_ ?_ ?_ ?_ ?_ ?_) ⟨ho,?_⟩
  ·rw [bT (by omega),bT (by omega)]; exact D1
  ·intro z;rcases Bool.or_eq_true_iff.mp z with z | z
   ·rw [List.isEmpty_toArray,List.isEmpty_iff] at z; rw [z] at hpos; simp at hpos
   ·exact h1 (eq_of_beq z)
  ·intro z;rcases Bool.or_eq_true_iff.mp z with z | z
   ·have:=of_decide_eq_true z; omega
   ·rw [List.isEmpty_toArray,List.isEmpty_iff] at z; rw [z] at hpos; simp at hpos
  ·rw [j]; omega
  ·rw [j];have:(4096:Int)<=sizeLine:=by decide
   show ¬ decide (((its.length * k.toNat:Nat):Int) > (sizeLine:Int))=true;rw [bT (by omega)]; exact D1
  ·rw [Y,O4]; exact F0 J (by decide)
  ·rw [Y];refine ⟨.ref s.heap.objs.size,_,I.laid (t':=s.toks) (o:=.tup (List.replicate k.toNat xs).flatten) (fun b ob q=>O1 _ q) (O6 _) ?_,rfl,q2 h1 _ (I.hok.fresh (O6 _))⟩;exact ⟨by rw [Qad,Nat.mul_comm]; exact F0 G (by decide),_,r.rep k.toNat,IsTup.new _ _⟩
end
section
variable {X:Cx} {pins:List (aA × Obj)} {s:aC} {σ:St} {H:Hp}
open PySem.SeqAt
theorem Qbv:OpR X (aS .IsNot) (fun x y H Q=>∃ b c,x=.bl b/\y=.bl c/\Q (.bl (b != c)) H):=by
 intro pins s σ H x y v u Q I z j h;obtain ⟨b,c,rfl,rfl,q⟩:=h;cases z;cases j;exact PyProof.Rows.isnot_bool ⟨.bl _,H,I,rfl,q⟩
end
section
variable {K:PySem.W.Frag} {cap:List (Option Nat)} {te:TE} {σ:St} {H1:Hp} {Q:VK}
end
structure JE (X:Cx) (e:aD) (t:TE):Prop where out:PE X e t
structure JA (X:Cx) (es:List aD) (t:TA):Prop where out:PA X es t
structure JS (X:Cx) (st:aJ) (t:TS):Prop where out:PS X st t
structure JSs (X:Cx) (sts:List aJ) (t:TS):Prop where out:PSs X sts t
section
variable {X:Cx} {pos:Pos}
theorem jok {j:List aJ} {R:TS->Prop} (h:∃ t,JSs X j t/\R t):∃ t,PSs X j t/\R t:=by
 obtain ⟨t,a,b⟩:=h;exact ⟨t,a.out,b⟩
theorem Q6e:JA X [] Qus:=⟨Y8⟩
theorem Ww {e:aD} {es:List aD} {te:TE} {t:TA} (j:JE X e te) (z:JA X es t) (hs:aP (e :: es) X.env=(false,aQ e X.env) :: aP es X.env:=by rfl):JA X (e :: es) (Qqs te t):=⟨J7 j.out z.out hs⟩
theorem Q1j {es:List aD} {t:TA} (h:JA X es t):JE X (.List es pos) (Qut t):=⟨Qds h.out⟩
theorem Qt6 {x:Str} {j:Nat}:JE X (.Constant (.str x) j pos) (tC (.str x)):=⟨Q9v⟩
theorem Qcg {a b:aD} {ta tb:TE} {op:Operator} {r:R2} (j:OpR X (aV op) r) (B:JE X a ta) (z:JE X b tb):JE X (.BinOp a op b pos) (tOp r ta tb):=⟨Qr0 j B.out z.out⟩
theorem Qw4 {a b:aD} {ta tb:TE} {r:R2} (B:IxR X r) (z:JE X a ta) (j:JE X b tb) (hs:Qaw b):JE X (.Subscript a b pos) (tOp r ta tb):=⟨Qr1 B z.out j.out hs⟩
theorem Qpv:JSs X [] Qqr:=⟨Q9s⟩
theorem qx {st:aJ} {rest:List aJ} {t u:TS} (h1:JS X st t) (h2:JSs X rest u):JSs X (st :: rest) (Qun t u):=⟨xm h1.out h2.out⟩
theorem Qfd {st:aJ} {t:TS} (h1:JS X st t):JSs X [st] t:=⟨Q23 h1.out⟩
theorem Qw3 {c:aD} {a b:List aJ} {tc:TT} {t u:TS} (B:PT X c tc) (z:JSs X a t) (j:JSs X b u):JS X (.If c a b pos) (Quu tc t u):=⟨Qjb B z.out j.out⟩
theorem Qkb {e:aD} {te:TE} (j:JE X e te):JS X (.Return (some e) pos) (Qup te):=⟨Q9u j.out⟩
theorem Q3g {i:Nat} {x:Str} {e:aD} {te:TE} {pos':Pos} (G:X.N.Nodup) (hi:X.N[i]?=some x) (B:Loc X.env.scope x) (z:JE X e te) (hs:swapsWith e (some (.Name x pos')) pos.line X.env=pure false:=by rfl) (j:X.fn x=true\/X.env.scope.names.lookup x=some .local:=by first | exact .inl rfl | exact .inr rfl | assumption) :
  JS X (.Assign [.Name x pos'] e pos) (Qmw te (Q8h i)):=⟨Q9t G hi B z.out hs j⟩
end
theorem Xc:∀ (names:List (Str × ao)) (h:Heap) (j:List (Str × aA)) (x:Str) (c:aA),(af h.objs.size names j).lookup x=some c ->
  j.lookup x=some c\/((x,NameKind.cell)∈names/\h.objs.size<=c/\(pushCells h names).IsCell c none)
 | [],_,_,_,_,e=>.inl e
 | (name,kind) :: r,h,j,x,c,e=>by
  unfold af at e;unfold pushCells
  by_cases I:(kind == NameKind.cell)=true
  ·rw [bQ I] at e ⊢;have B:kind=.cell:=by simpa using I
   have U:=Xc r (h.push { cls:=.type "cell",data:=.cell none }) ((name,h.objs.size) :: j) x c (by rw [F9]; exact e);rw [F9] at U;rcases U with z | ⟨J,Y,O⟩
   ·rw [List.lookup_cons] at z;cases G:x == name with
    | true=>
     rw [G] at z; cases z;exact .inr ⟨by rw [beq_iff_eq.mp G,B]; exact O8,O6 _,⟨_,pushCells_keeps _ _ _ _ (D0 _ rfl),rfl⟩⟩
    | false=>rw [G] at z; exact .inl z
   ·exact .inr ⟨O5 _ J,by omega,O⟩
  ·rw [bS I] at e ⊢;rcases Xc r h j x c e with z | ⟨J,Y,O⟩
   ·exact .inl z
   ·exact .inr ⟨O5 _ J,Y,O⟩
theorem K9 {x:Str}:∀ (names:List (Str × ao)) (n:Nat) (j:List (Str × aA)),(x,NameKind.cell)∉names->(af n names j).lookup x=j.lookup x
 | [],_,_,_=>rfl
 | (name,kind) :: r,n,j,h=>by
  unfold af;have G:(x,NameKind.cell)∉r:=fun z=>h (O5 _ z)
  by_cases B:(kind == NameKind.cell)=true
  ·rw [bQ B,K9 r _ _ G,List.lookup_cons];cases I:x == name with
   | true=>exact absurd (by rw [beq_iff_eq.mp I,show kind=.cell by simpa using B]; exact O8) h
   | false=>rfl
  ·rw [bS B,K9 r _ _ G]
theorem jq {x:Str} {c:aA}:∀ (names:List (Str × ao)) (n:Nat) (j:List (Str × aA)),(x,NameKind.cell)∈names->(af n names j).lookup x=some c->n<=c
 | [],_,_,h,_=>by cases h
 | (name,kind) :: r,n,j,h,e=>by
  unfold af at e
  by_cases z:(x,NameKind.cell)∈r
  ·by_cases B:(kind == NameKind.cell)=true
   ·rw [bQ B] at e;exact Nat.le_of_succ_le (jq r _ _ z e)
   ·rw [bS B] at e;exact jq r _ _ z e
  ·rcases D3.mp h with q | q
   ·cases q;rw [bQ (by decide),K9 r _ _ z,List.lookup_cons] at e;simp at e;exact Nat.le_of_eq e
   ·exact absurd q z
theorem jr:∀ (names:List (Str × ao)) (n:Nat) (j:List (Str × aA)),(∀ x c,j.lookup x=some c->c < n)->(∀ x y c,j.lookup x=some c->j.lookup y=some c->x=y) ->
  ∀ x y c,(af n names j).lookup x=some c->(af n names j).lookup y=some c->x=y
 | [],_,_,_,h=>h
 | (name,kind) :: r,n,j,h1,h2=>by
  unfold af
  by_cases I:(kind == NameKind.cell)=true
  ·rw [bQ I];refine jr r (n + 1) _ (fun x c e=>?_) (fun x y c e B=>?_)
   ·rw [List.lookup_cons] at e;cases G:x == name with
    | true=>rw [G] at e; cases e; exact Nat.lt_succ_self _
    | false=>rw [G] at e; exact Nat.lt_succ_of_lt (h1 x c e)
   ·rw [List.lookup_cons] at e B;cases G:x == name with
    | true=>
     rw [G] at e; cases e;cases z:y == name with
     | true=>rw [beq_iff_eq.mp G,beq_iff_eq.mp z]
     | false=>rw [z] at B; exact absurd (h1 y _ B) (Nat.lt_irrefl _)
    | false=>
     rw [G] at e;cases z:y == name with
     | true=>rw [z] at B; cases B; exact absurd (h1 x _ e) (Nat.lt_irrefl _)
     | false=>rw [z] at B; exact h2 x y c e B
  ·rw [bS I];exact jr r n j h1 h2
theorem Q75 {M:Model} {A:aN} {E:aB->aC->Prop} {s:aC} {scope:Scope} {z:aA} {cl:List (Str × aA)} {qual:Str} {B:Option aA} {code:aB} {env:Env} {j:aA} {Q:Env->aC->Prop}
  (I:Q (newEnv scope s.heap.objs.size z (af (s.heap.objs.size + 1) scope.names cl) qual B code (some env) j) { s with heap:=pushCells (s.heap.push { cls:=.type "dict",data:=.dict #[] }) scope.names }) :
  aH M A (newFunctionEnv scope z cl [] qual B code (some env) j) Q E s:=by
 simp only [newFunctionEnv,Option.isSome_some,if_true];refine aF (wpAny_alloc ?_);refine aF (wpAny_layCells _ (fun name kind cells=>by cases G:kind == NameKind.cell <;> simp [G]) _ _ _ _ ?_);rw [show ({ s with heap:=s.heap.push { cls:=.type "dict",data:=.dict #[] } }:aC).heap.objs.size=s.heap.objs.size + 1 from F9 ..];refine aF ?_;rw [List.forIn_nil];exact aO (aO I)
def compOkC (N N':List Str) (sc scE:Scope) (cap:List (Option Nat)):Bool:=
 sc.kind == .function && sc.names.all (fun x=>x.2 != .cell || sc.names.lookup x.1 == some .cell) && sc.names.all (fun x=>x.2 != .local || sc.names.lookup x.1 == some .local) &&
 sc.names.all (fun x=>x.2 != .free || scE.names.lookup x.1 == some .cell || scE.names.lookup x.1 == some .free) && cap.length == N'.length &&
 (List.range cap.length).all (fun i=>match cap[i]? with
  | some (some j)=>(match N'[i]?,N[j]? with | some a,some b=>a == b && sc.names.lookup a == some .free | _,_=>false)
  | _=>true)
structure CompOkC (N N':List Str) (sc scE:Scope) (cap:List (Option Nat)):Prop where
 kind:sc.kind=.function
 cel:∀ x∈sc.names,x.2=.cell->sc.names.lookup x.1=some .cell
 loc:∀ x∈sc.names,x.2=.local->sc.names.lookup x.1=some .local
 fre:∀ x∈sc.names,x.2=.free->scE.names.lookup x.1=some .cell\/scE.names.lookup x.1=some .free
 len:cap.length=N'.length
 at_:∀ (i j:Nat),cap[i]?=some (some j)->∃ x,N'[i]?=some x/\N[j]?=some x/\sc.names.lookup x=some .free
theorem compOkC.of {N N':List Str} {sc scE:Scope} {cap:List (Option Nat)} (h:compOkC N N' sc scE cap=true):CompOkC N N' sc scE cap:=by
 unfold compOkC at h;simp only [L6,L7,beq_iff_eq,Bool.or_eq_true,bne_iff_ne] at h;obtain ⟨⟨⟨⟨⟨h1,h2⟩,h3⟩,h4⟩,h5⟩,h6⟩:=h;refine ⟨h1,fun x B e=>?_,fun x B e=>?_,fun x B e=>?_,h5,fun i j e=>?_⟩
 ·rcases h2 x B with z | z
  ·exact absurd e z
  ·exact z
 ·rcases h3 x B with z | z
  ·exact absurd e z
  ·exact z
 ·rcases h4 x B with (z | z) | z
  ·exact absurd e z
  ·exact .inl z
  ·exact .inr z
 ·have hi:i < cap.length:=(O2.mp e).1;have:=h6 i (D5.mpr hi);rw [e] at this;simp only at this;cases e1:N'[i]? with
  | none=>rw [e1] at this; cases this
  | some a=>
   cases e2:N[j]? with
   | none=>rw [e1,e2] at this; cases this
   | some b=>
    rw [e1,e2] at this;simp only [L6,beq_iff_eq] at this;obtain ⟨rfl,z⟩:=this;exact ⟨a,rfl,rfl,z⟩
def Vk (X:Cx) (N':List Str) (sc:Scope) (cl:List (Str × aA)) (C:aA) (s0:aC) (H0:Hp) (ex:List aA):Cx:=
 { X with N:=N',s₀:=s0,H₀:=H0,env:=compEnvC sc cl C X.env,outer:=X.stack,ex:=ex,fn:=fun x=>sc.names.lookup x == some .cell,pn:=[],xe:=fun _ _=>False }
section
variable {X:Cx}
theorem Qmd {pins:List (aA × Obj)} {σ:St} {H:Hp} {s:aC} {N N':List Str} {sc scE:Scope} {cap:List (Option Nat)} {cl:List (Str × aA)} {fp:List aA}
  (I:Inv X pins σ H s) (hN:X.N=N) (hE:X.env.scope=scE) (ck:CompOkC N N' sc scE cap) (c1:∀ x c,cl.lookup x=some c->X.env.cells.lookup x=some c) (c2:∀ x∈sc.names,x.2=.free->∃ c,cl.lookup x.1=some c)
  (hf:∀ b∈fp,Q74 X pins H b) (a3:∀ b∈fp,b < s.heap.objs.size) :
  Inv (Vk X N' sc (af (s.heap.objs.size + 1) sc.names cl) s.heap.objs.size s H fp) [] (Q2m cap σ) H { s with heap:=pushCells (s.heap.push { cls:=.type "dict",data:=.dict #[] }) sc.names }:=by
 obtain ⟨J,O⟩:∃ J,pushCells (s.heap.push { cls:=.type "dict",data:=.dict #[] }) sc.names=J:=⟨_,rfl⟩;obtain ⟨B,G⟩:∃ B,af (s.heap.objs.size + 1) sc.names cl=B:=⟨_,rfl⟩;rw [O,G];have keep:∀ b o,s.heap.get? b=some o->J.get? b=some o:=fun b o e=>by rw [<- O]; exact pushCells_keeps _ _ b o (O1 _ e)
 have a7:J.Ns s.heap.objs.size (fun _=>none):=by rw [<- O]; exact (Heap.Ns.new s.heap (.type "dict")).keeps (pushCells_keeps _ _)
 have look:∀ x c,B.lookup x=some c->cl.lookup x=some c\/(s.heap.objs.size + 1<=c/\J.IsCell c none):=fun x c e=>by
  rw [<- G] at e;have:=Xc (sc.names) (s.heap.push { cls:=.type "dict",data:=.dict #[] }) cl x c (by rw [F9]; exact e);rw [F9,O] at this;rcases this with z | ⟨_,z,z'⟩
  ·exact .inl z
  ·exact .inr ⟨z,z'⟩
 have Z:∀ x c,cl.lookup x=some c->c < s.heap.objs.size:=fun x c e=>by
  obtain ⟨v,o,ho,_⟩:=I.cell x c (c1 x c e);exact O7 ho
 have inj:∀ x y c,B.lookup x=some c->B.lookup y=some c->x=y:=by
  rw [<- G];exact jr _ _ _ (fun x c e=>Nat.lt_succ_of_lt (Z x c e)) fun x y c a b=>I.ok.inj x y c (c1 x c a) (c1 y c b)
 have a8:∀ x,sc.names.lookup x=some .cell->∃ c,B.lookup x=some c:=fun x e=>by
  rw [<- G];exact Option.isSome_iff_exists.mp (PySem.W.cellsFrom_some _ _ _ (.inl e))
 have a4:∀ x,sc.names.lookup x=some .free->B.lookup x=cl.lookup x:=fun x e=>by
  rw [<- G];refine K9 _ _ _ fun z=>?_
  have:=ck.cel _ z rfl;rw [e] at this; cases this
 have kindOf:∀ x k,(compEnvC sc B s.heap.objs.size X.env).kindOf x=some k->k=.cell\/k=.free->sc.names.lookup x=some .free\/sc.names.lookup x=some .cell:=fun x k e hk=>by
  have e':(relabel sc X.env).names.lookup x=some k:=e;rw [xk] at e';cases q:sc.names.lookup x with
  | none=>rw [q] at e'; cases e'
  | some k'=>
   rw [q] at e';have a5:(if (k' == NameKind.free && X.env.scope.kind == .function && X.env.kindOf x == some .cell)=true then NameKind.cell else k')=k:=Option.some.inj e'
   by_cases U:(k' == NameKind.free && X.env.scope.kind == .function && X.env.kindOf x == some .cell)=true
   ·simp only [L6,beq_iff_eq] at U;rw [U.1.1]; exact .inl rfl
   ·rw [bS U] at a5;subst a5;rcases hk with z | z
    ·rw [z]; exact .inr rfl
    ·rw [z]; exact .inl rfl
 have cellAt:∀ x c,X.env.cells.lookup x=some c->∀ v,s.heap.IsCell c v->J.IsCell c v:=fun x c e v ⟨o,ho,hd⟩=>⟨o,keep c o ho,hd⟩
 have a1:∀ c,s.heap.objs.size<=c->H c=none:=fun c U=>I.hok.fresh U
 refine ⟨⟨I.ok.mod,ck.kind,I.ok.glob,I.ok.blt,O6 _,inj,fun x hx=>?_,fun x c h1 h2=>?_,I.ok.hd,I.ok.frames,.inl rfl,fun b hb=>?_,I.bs,
  F0 I.ok.bsz I.sz,fun b o e hb=>?_,fun b hb hz=>?_,I.stack,I.stkFree⟩,rfl,I.bare,Un.kept keep,⟨_,a7,fun i x v e1 e2 e3=>?_⟩,fun x c e=>?_,a1 _ (O6 _),fun x c e=>?_,fun p hp=>(by cases hp),I.hok.kept keep,?_⟩
 ·have hx:(compEnvC sc B s.heap.objs.size X.env).kindOf x=some .cell\/(compEnvC sc B s.heap.objs.size X.env).kindOf x=some .free:=hx;have q:sc.names.lookup x=some .free\/sc.names.lookup x=some .cell:=by
   rcases hx with z | z
   ·exact kindOf x _ z (.inl rfl)
   ·exact kindOf x _ z (.inr rfl)
  rcases q with q | q
  ·obtain ⟨c,U⟩:=c2 _ (PySem.mem_of_lookup q) rfl;exact ⟨c,(a4 x q).trans U⟩
  ·exact a8 x q
 ·have h1:sc.names.lookup x=some .cell:=by simpa [Vk] using h1
  have h2:B.lookup x=some c:=h2;rw [<- G] at h2;exact F0 (Nat.le_succ _) (jq _ _ _ (PySem.mem_of_lookup h1) h2)
 ·refine ⟨E5 (a3 b hb),fun x c e=>?_⟩;rcases look x c e with z | ⟨z,_⟩
  ·exact (hf b hb).2.2.2.2.1 x c (c1 x c z)
  ·exact fun q=>absurd (D4 (a3 b hb) (F0 (Nat.le_succ _) (q ▸ z))) (Nat.lt_irrefl _)
 ·rcases (hf b hb).2.2.2.1 with z | z
  ·exact I.ok.noex b o e z
  ·exact absurd (D4 (O7 e) (F0 I.ok.bsz z)) (Nat.lt_irrefl _)
 ·rcases D3.mp (I.stkSub b hz) with e | z
  ·exact (hf b hb).2.1 e
  ·exact (hf b hb).2.2.1 z
 ·have e1:N'[i]?=some x:=e1;have e2:(Q2m cap σ)[i]?=some (some v):=e2;unfold Q2m at e2;rw [E3] at e2;cases q:cap[i]? with
  | none=>rw [q] at e2; cases e2
  | some oj=>
   rw [q] at e2;cases oj with
   | none=>cases e2
   | some j=>
    obtain ⟨y,z1,z2,z3⟩:=ck.at_ i j q;rw [e1] at z1; cases z1;have ev:σ[j]?=some (some v):=by
     have Y:(σ[j]?).join=some v:=Option.some.inj e2;cases r:σ[j]? with
     | none=>rw [r] at Y; cases Y
     | some o=>rw [r] at Y; exact congrArg some Y
    obtain ⟨m',a9,hl⟩:=I.loc;have sK:X.env.scope.names.lookup x=some .cell\/X.env.scope.names.lookup x=some .free:=by rw [hE]; exact ck.fre _ (PySem.mem_of_lookup z3) rfl
    obtain ⟨u,ru,l⟩:=hl j x v (by rw [hN]; exact z2) ev (sK.elim (fun z=>.inr (.inl z)) fun z=>.inr (.inr z))
    refine ⟨u,ru,?_⟩;obtain ⟨c,U⟩:=c2 _ (PySem.mem_of_lookup z3) rfl;rcases l with ⟨k,_⟩ | ⟨k,c',a6,a2⟩
    ·have k:X.env.scope.names.lookup x=some .local:=k;rcases sK with z | z <;> (rw [k] at z; cases z)
    ·have:c=c':=by
      have q1:=c1 x c U;rw [a6] at q1;exact (Option.some.inj q1).symm
     subst this;refine .inr ⟨?_,c,(a4 x z3).trans U,cellAt x c a6 _ a2⟩;show (relabel sc X.env).names.lookup x=some .cell\/(relabel sc X.env).names.lookup x=some .free;rw [xk,z3];show some (if _ then NameKind.cell else NameKind.free)=_\/some (if _ then NameKind.cell else NameKind.free)=_
     split
     ·exact .inl rfl
     ·exact .inr rfl
 ·rcases look x c e with z | ⟨_,z⟩
  ·obtain ⟨v,q⟩:=I.cell x c (c1 x c z);exact ⟨v,cellAt x c (c1 x c z) v q⟩
  ·exact ⟨_,z⟩
 ·rcases look x c e with z | ⟨z,_⟩
  ·exact I.freeC x c (c1 x c z)
  ·exact a1 c (by omega)
 ·unfold Q2m;show _=N'.length;rw [O0];exact ck.len
end
section
variable {X:Cx}
end
end L2
namespace PySem
open Sem (wp)
section
variable {prog:aL} {w:aK} {A:aN} {E:aB->aC->Prop} {hp:Heap} {gs:Array GenState} {dr:Drawn} {tk:Nat} {sy:OsState}
variable {cn cq:Str} {kC kN:aA} {bas tl tB:List aB} {hd:Bool} {sns:List Str} {subs:List aB} {abb:Bool} {coll:Option Bool} {dic:Option aA} {j0 j1 j2 j3 j5:Option aB} {BB Bn newI nI initI inN:String} {tN:List aB}
end
section
variable {M:Model} {A:aN} {E:aB->aC->Prop} {env:Env}
variable {cn cq:Str} {kC kN:aA} {bas tl:List aB} {hd:Bool} {sns:List Str} {subs:List aB} {abb:Bool} {coll:Option Bool} {dic:Option aA} {j0 j1 j2 j3 j5:Option aB} {newI:String}
end
end PySem
namespace L2
open PySem PySem.Spec PyProof.Rows PySem.W PySem.Builtin.ObjectAttr
section
variable {prog:aL} {w:aK} {A:aN} {E:aB->aC->Prop} {s:aC} {K:Frag} {x C W:aA} {name:Str} {v:aB}
end
end L2
namespace L2
open PySem PySem.Spec PyProof.Rows PySem.W
section
variable {prog:aL} {w:aK} {A:aN} {E:aB->aC->Prop} {s:aC} {K:Frag} {x C W f:aA}
end
section
variable {X:Cx} {x C W f:aA}
end
end L2
namespace PySem
open Sem (wp)
def yt (o:Obj):Option aB:=match o.data with | .fields vs=>vs[2]? | _=>none
theorem Qcp {o:Obj} {vs:Array aB} {x:aB} (j:o.data=.fields vs):yt (Obj.mapFields (·.setIfInBounds 1 x) o)=yt o:=by
 have d:=Obj.data_mapFields j (·.setIfInBounds 1 x);unfold yt;rw [d,j];exact Array.getElem?_setIfInBounds_ne (by decide)
section
variable {M:Model} {A:aN} {E:aB->aC->Prop} {s:aC} {bs:Heap} {en:Env} {ou:List Env} {L e:aA} {ob:Obj} {vs:Array aB} {a0:aB} {Q:Unit->aC->Prop}
theorem Q6p {B:aB} {nx:Bool} (fr:A.frames=some (en :: ou)) (Y:s.heap.FunFrames bs (en :: ou)) (ef:en.frame=some L) (oe:s.heap.get? e=some ob) (kb:bs.StaysIn s.heap) (ne:bs.get? e=none)
  (I:ob.data=.fields vs) (z1:1 < vs.size) (z0:vs[0]?=some a0)
  (h:∀ h',Heap.LeftW bs (en :: ou) e ob.cls a0 s.heap h'->(∃ o',h'.get? e=some o'/\o'.dict=ob.dict/\yt o'=yt ob)->Q () { s with heap:=h' }) :
  aH M A (do
   let a <- frameOf en
   let Z <- entryPlaceOf L nx
   let b <- EntryCells.newEntry B a .none (aa L) .none Z
   setField (.ref e) 1 b) (fun _ s'=>aH M A (setFlight (.ref e) none) Q E s') E s:=by
 have nf:e∉(en :: ou).filterMap (·.frame):=fun m=>by
  obtain ⟨_,o,q,n⟩:=Y.mem m;rw [oe] at q;cases q;exact n vs I
 refine aF (wpAny_frameOf_fun fr Y ef fun g gs=>?_);refine aF (wpAny_entryPlaceOf fun Z hp=>?_);unfold EntryCells.newEntry newFields;refine aF (ay ?_ (hp.sizeOk5 _ _ _ _ _));have ge:g.get? e=some ob:=(gs.2.1 e nf).trans oe;have gb:bs.StaysIn g:=fun b o q=>(gs.2.1 b fun m=>by
  rw [(Y.mem m).1] at q;cases q).trans (kb b o q)
 obtain ⟨tb,U⟩:∃ tb:List aB,[B,.ref L,.none,aa L,.none] ++ (if Z.isEmpty then List.replicate 6 Value.none else Z)=tb:=⟨_,rfl⟩;have l5:3 < tb.length/\tb[3]?=some (aa L):=by
  rw [<- U];exact ⟨by simp,by simp⟩
 rw [U];have J:=O1 (h:=g) { cls:=.type "traceback",dict:=none,data:=.fields tb.toArray } ge;refine wpAny_setField J I z1 ?_;have te:g.objs.size≠e:=Nat.ne_of_gt (O7 ge);have d3:=Obj.data_mapFields I (·.setIfInBounds 1 (Value.ref g.objs.size));have j:=L8 (Obj.mapFields (·.setIfInBounds 1 (Value.ref g.objs.size))) J (Obj.isFreed_of_fields d3);have G:=(F2 (g.push { cls:=.type "traceback",dict:=none,data:=.fields tb.toArray })
  (Obj.mapFields (·.setIfInBounds 1 (Value.ref g.objs.size))) te.symm).trans
  (D0 g rfl)
 unfold setFlight;refine aF (aY j d3 (x:=.ref g.objs.size) (by simp [z1]) ?_);rw [bQ (show (Value.ref g.objs.size != Value.none)=true by simp)];refine wpAny_setField G rfl (by simpa using l5.1) (h _ ?_ ?_)
 all_goals
  obtain ⟨g3,O⟩:∃ g3,((g.push { cls:=.type "traceback",dict:=none,data:=.fields tb.toArray }).update e (Obj.mapFields (·.setIfInBounds 1 (Value.ref g.objs.size))))=g3:=⟨_,rfl⟩;rw [O] at j G ⊢
 ·have kp:∀ b o,b≠e->g.get? b=some o->(g3.update g.objs.size (Obj.mapFields (·.setIfInBounds 3 ((none:Option aA).elim Value.none fun f=>aa f)))).get? b=some o:=fun b o n q=>by
   rw [F2 _ _ (Nat.ne_of_gt (O7 q)),<- O,F2 _ _ n.symm];exact O1 _ q
  have nr:∀ b o,s.heap.get? b=some o->(∀ ws,o.data≠.fields ws)->b≠e:=fun b o q n z=>by
   rw [z,oe] at q;cases q;exact n vs I
  refine ⟨fun b o q=>kp b o (fun z=>by rw [z,ne] at q; cases q) (gb b o q),Y.of_keeps fun b o q n=>?_,?_,fun b o q n=>?_⟩
  ·obtain ⟨sl,z⟩:=gs.2.2 b o q;exact ⟨_,kp b _ (nr b o q n) z,rfl⟩
  ·refine ⟨_,_,g.objs.size,_,_,?_,⟨Obj.cls_mapFields _ _,?_⟩,d3,by simp [z1],gb.fresh,te,L8 _ G (Obj.isFreed_of_fields (Obj.data_mapFields rfl _)),Obj.data_mapFields rfl _,?_⟩
   ·rw [F2 _ _ te];exact j
   ·rw [Array.getElem?_setIfInBounds_ne (by decide)];exact z0
   ·have:=l5.1;simp [this]
  ·obtain ⟨sl,z⟩:=gs.2.2 b o q;exact ⟨sl,kp b _ (nr b o q n) z⟩
 ·refine ⟨_,(F2 _ _ te).trans j,?_,Qcp I⟩;cases ob with
  | mk c d dt sl=>cases dt <;> first | rfl | cases I
theorem Qca (I:A.frames=some (en :: ou)) (U:s.heap.FunFrames bs (en :: ou)) (j:en.frame=some L) (z:s.heap.get? e=some ob) (O:bs.StaysIn s.heap) (ne:bs.get? e=none)
  (B:ob.data=.fields vs) (G:vs[1]?=some .none) (J:vs[0]?=some a0)
  (h:∀ h',Heap.LeftW bs (en :: ou) e ob.cls a0 s.heap h'->(∃ o',h'.get? e=some o'/\o'.dict=ob.dict/\yt o'=yt ob)->Q () { s with heap:=h' }):aH M A (leaving en (.ref e)) Q E s:=by
 unfold leaving noteFrame;simp only [j];refine aF (aF (aY z B G ?_));rw [bS (by decide)];exact Q6p I U j z O ne B (Array.getElem?_eq_some_iff.mp G).1 J h
theorem Qc9 {cls:aB} {U:Option aA} (fr:A.frames=some (en :: ou)) (O:en.frame=some L) (fl:Heap.FlyingW bs (en :: ou) e cls a0 s.heap) (dd:∃ o',s.heap.get? e=some o'/\o'.dict=U/\yt o'=some .none)
  (h:∀ h',Heap.FlyingW bs ou e cls a0 h'->(∃ o',h'.get? e=some o'/\o'.dict=U/\yt o'=some .none)->s.heap.UpToSlots h'->Q () { s with heap:=h' }):aH M A (leaving en (.ref e)) Q E s:=by
 obtain ⟨kb,ne,ff,oe,Y,T,oT,ts,G,⟨hc,z0⟩,od,z1,nT,Te,hT,dT,z3⟩:=fl;obtain ⟨o',j,I,J⟩:=dd;rw [G] at j;cases j;unfold leaving noteFrame;simp only [O];refine aF (aF (aY G od z1 ?_));rw [bQ (show (Value.ref T != Value.none)=true by simp)];refine aF (aY hT dT z3 ?_);rw [bS (show ¬ ((Value.none == aa L)=true) by simp [aa])];refine aF (wpAny_setField hT dT (Array.getElem?_eq_some_iff.mp z3).1 ?_);have B:∀ b,b≠T->(s.heap.update T (Obj.mapFields (·.setIfInBounds 3 Value.none))).get? b=s.heap.get? b:=fun b n=>F2 _ _ n.symm
 have Z:∀ b o,s.heap.get? b=some o->(∀ Y,o.data≠.fields Y)->b≠T:=fun b o q n z=>by
  rw [z,hT] at q;cases q;exact n ts dT
 refine Q6p fr (ff.of_keeps fun b o q n=>⟨o,(B b (Z b o q n)).trans q,rfl⟩) O ((B e Te.symm).trans G) (fun b o q=>(B b fun z=>by rw [z,nT] at q; cases q).trans (kb b o q)) ne od (Array.getElem?_eq_some_iff.mp z1).1 z0 fun h' lf d'=>?_
 obtain ⟨k1,⟨_,_,k2⟩,k3,k4⟩:=lf;rw [hc] at k3;exact h h' ⟨k1,ne,k2,k3⟩ (d'.imp fun o q=>⟨q.1,q.2.1.trans I,q.2.2.trans J⟩) fun b o q n=>k4 b o ((B b (Z b o q n)).trans q) n
theorem Q4b {j:aB} {nx:Bool} (fr:A.frames=some (en :: ou)) (O:s.heap.FunFrames bs (en :: ou)) (ef:en.frame=some L) (Y:s.heap.get? e=some ob) (kb:bs.StaysIn s.heap) (ne:bs.get? e=none)
  (B:ob.data=.fields vs) (z1:1 < vs.size) (z0:vs[0]?=some a0)
  (h:∀ h',Heap.NotedW bs (en :: ou) e ob.cls a0 (aa L) s.heap h'->(∃ o',h'.get? e=some o'/\o'.dict=ob.dict/\yt o'=yt ob)->Q () { s with heap:=h' }) :
  aH M A (do
   let a <- frameOf en
   let U <- entryPlaceOf L nx
   let b <- EntryCells.newEntry j a .none (aa L) .none U
   setField (.ref e) 1 b) Q E s:=by
 have nf:e∉(en :: ou).filterMap (·.frame):=fun m=>by
  obtain ⟨_,o,q,n⟩:=O.mem m;rw [Y] at q;cases q;exact n vs B
 refine aF (wpAny_frameOf_fun fr O ef fun g gs=>?_);refine aF (wpAny_entryPlaceOf fun U hp=>?_);unfold EntryCells.newEntry newFields;refine aF (ay ?_ (hp.sizeOk5 _ _ _ _ _));have ge:g.get? e=some ob:=(gs.2.1 e nf).trans Y;have gb:bs.StaysIn g:=fun b o q=>(gs.2.1 b fun m=>by
  rw [(O.mem m).1] at q;cases q).trans (kb b o q)
 obtain ⟨tb,I⟩:∃ tb:List aB,[j,.ref L,.none,aa L,.none] ++ (if U.isEmpty then List.replicate 6 Value.none else U)=tb:=⟨_,rfl⟩;have l5:3 < tb.length/\tb[3]?=some (aa L):=by
  rw [<- I];exact ⟨by simp,by simp⟩
 rw [I];have G:=O1 (h:=g) { cls:=.type "traceback",dict:=none,data:=.fields tb.toArray } ge;have te:g.objs.size≠e:=Nat.ne_of_gt (O7 ge);have d3:=Obj.data_mapFields B (·.setIfInBounds 1 (Value.ref g.objs.size));have J:=L8 (Obj.mapFields (·.setIfInBounds 1 (Value.ref g.objs.size))) G (Obj.isFreed_of_fields d3);have a1:=(F2 (g.push { cls:=.type "traceback",dict:=none,data:=.fields tb.toArray })
  (Obj.mapFields (·.setIfInBounds 1 (Value.ref g.objs.size))) te.symm).trans
  (D0 g rfl)
 refine wpAny_setField G B z1 (h _ ?_ ?_)
 ·have kp:∀ b o,b≠e->g.get? b=some o->((g.push { cls:=.type "traceback",dict:=none,data:=.fields tb.toArray }).update e (Obj.mapFields (·.setIfInBounds 1 (Value.ref g.objs.size)))).get? b=some o:=fun b o n q=>by
   rw [F2 _ _ n.symm];exact O1 _ q
  have nr:∀ b o,s.heap.get? b=some o->(∀ ws,o.data≠.fields ws)->b≠e:=fun b o q n z=>by
   rw [z,Y] at q;cases q;exact n vs B
  refine ⟨fun b o q=>kp b o (fun z=>by rw [z,ne] at q; cases q) (gb b o q),O.of_keeps fun b o q n=>?_,?_,fun b o q n=>?_⟩
  ·obtain ⟨Z,z⟩:=gs.2.2 b o q;exact ⟨_,kp b _ (nr b o q n) z,rfl⟩
  ·refine ⟨_,_,g.objs.size,_,_,J,⟨Obj.cls_mapFields _ _,?_⟩,d3,by simp [z1],gb.fresh,te,a1,rfl,by simpa using l5.2⟩;rw [Array.getElem?_setIfInBounds_ne (by decide)];exact z0
  ·obtain ⟨Z,z⟩:=gs.2.2 b o q;exact ⟨Z,kp b _ (nr b o q n) z⟩
 ·refine ⟨_,J,?_,Qcp B⟩;cases ob with
  | mk c d dt Z=>cases dt <;> first | rfl | cases B
theorem Qh5 {cls:aB} {U:Option aA} (fr:A.frames=some (en :: ou)) (O:en.frame=some L) (fl:Heap.FlyingW bs (en :: ou) e cls a0 s.heap) (dd:∃ o',s.heap.get? e=some o'/\o'.dict=U/\yt o'=some .none)
  (h:∀ h',Heap.HeldW bs (en :: ou) e cls a0 L h'->(∃ o',h'.get? e=some o'/\o'.dict=U/\yt o'=some .none)->s.heap.UpToSlots h'->Q () { s with heap:=h' }):aH M A (noteFrame (.ref e) en) Q E s:=by
 obtain ⟨kb,ne,ff,oe,Y,T,oT,ts,G,⟨hc,z0⟩,od,z1,nT,Te,hT,dT,z3⟩:=fl;obtain ⟨o',j,I,J⟩:=dd;rw [G] at j;cases j;unfold noteFrame;simp only [O];refine aF (aY G od z1 ?_);rw [bQ (show (Value.ref T != Value.none)=true by simp)];refine aF (aY hT dT z3 ?_);rw [bS (show ¬ ((Value.none == aa L)=true) by simp [aa])];refine aF (wpAny_setField hT dT (Array.getElem?_eq_some_iff.mp z3).1 ?_);have B:∀ b,b≠T->(s.heap.update T (Obj.mapFields (·.setIfInBounds 3 Value.none))).get? b=s.heap.get? b:=fun b n=>F2 _ _ n.symm
 have Z:∀ b o,s.heap.get? b=some o->(∀ Y,o.data≠.fields Y)->b≠T:=fun b o q n z=>by
  rw [z,hT] at q;cases q;exact n ts dT
 refine Q4b fr (ff.of_keeps fun b o q n=>⟨o,(B b (Z b o q n)).trans q,rfl⟩) O ((B e Te.symm).trans G) (fun b o q=>(B b fun z=>by rw [z,nT] at q; cases q).trans (kb b o q)) ne od (Array.getElem?_eq_some_iff.mp z1).1 z0 fun h' nt d'=>?_
 obtain ⟨k1,k2,k3,k4⟩:=nt;rw [hc] at k3;exact h h' ⟨k1,ne,k2,k3⟩ (d'.imp fun o q=>⟨q.1,q.2.1.trans I,q.2.2.trans J⟩) fun b o q n=>k4 b o ((B b (Z b o q n)).trans q) n
theorem Q42 {l:List Env} {cls fv:aB} {dv:Option aA} (kb:bs.StaysIn s.heap) (ne:bs.get? e=none) (ff:s.heap.FunFrames bs l) (tr:s.heap.TracedAtW bs e cls a0 fv) (dd:∃ o',s.heap.get? e=some o'/\o'.dict=dv/\yt o'=some .none)
  (h:∀ h',Heap.FlyingW bs l e cls a0 h'->(∃ o',h'.get? e=some o'/\o'.dict=dv/\yt o'=some .none)->s.heap.UpToSlots h'->Q () { s with heap:=h' }):aH M A (setFlight (.ref e) none) Q E s:=by
 obtain ⟨oe,I,T,oT,ts,Z,hc,od,z1,Y,U,B,dT,z3⟩:=tr;obtain ⟨o',G,J,O⟩:=dd;have s3:=(Array.getElem?_eq_some_iff.mp z3).1;have j:∀ b,b≠T->(s.heap.update T (Obj.mapFields (·.setIfInBounds 3 ((none:Option aA).elim Value.none fun f=>aa f)))).get? b=s.heap.get? b:=fun b n=>F2 _ _ n.symm
 have nr:∀ b o,s.heap.get? b=some o->(∀ I,o.data≠.fields I)->b≠T:=fun b o q n z=>by
  rw [z,B] at q;cases q;exact n ts dT
 unfold setFlight;refine aF (aY Z od z1 ?_);rw [bQ (show (Value.ref T != Value.none)=true by simp)];refine wpAny_setField B dT s3 (h _ ⟨fun b o q=>(j b fun z=>by rw [z,Y] at q; cases q).trans (kb b o q),ne,ff.of_keeps fun b o q n=>⟨o,(j b (nr b o q n)).trans q,rfl⟩,?_⟩ ⟨o',(j e U.symm).trans G,J,O⟩ fun b o q n=>⟨o.slots,(j b (nr b o q n)).trans q⟩)
 exact ⟨oe,I,T,_,_,(j e U.symm).trans Z,hc,od,z1,Y,U,L8 _ B (Obj.isFreed_of_fields (Obj.data_mapFields dT _)),Obj.data_mapFields dT _,by simp [s3]⟩
end
end PySem
namespace L2
open PySem PySem.Spec PyProof.Rows
def CXD (P:aL) (w:aK):CXT:=fun outer H s E e s'=>∃ a cls a0 dv H' B,e=Value.ref a/\Fly P w outer H H' s s' a cls a0 B/\(∃ o',s'.heap.get? a=some o'/\o'.dict=dv/\yt o'=some .none)/\E cls dv H'
theorem Wa {P:aL} {w:aK} {X:Cx}:Q72 (CXD P w) X E0:=fun _ _ _ _ _ _ _ h=>by
 obtain ⟨_,_,_,_,_,_,_,_,_,z⟩:=h;exact z.elim
section
variable {P:aL} {w:aK} {K:PySem.W.Frag} {mg:Str->Option aB} {base:Heap} {N:List Str} {qual:Str} {scope:Scope} {f:aA} {cd:aB} {A:aN} {outer:List Env} {s:aC} {H:Hp} {E:XK}
abbrev cxD (P:aL) (w:aK) (K:PySem.W.Frag) (mg:Str->Option aB) (base:Heap) (N:List Str) (qual:Str) (scope:Scope) (f:aA) (cd:aB) (A:aN) (outer:List Env) (s:aC) (H:Hp) (E:XK):Cx:=Qhn (CXD P w) P w K mg base N qual scope f cd A outer s H E
theorem Q98 {pins:List (aA × Obj)} {σ:St} {H1:Hp} {j:aC} (I:Inv (cxD P w K mg base N qual scope f cd A outer s H E) pins σ H1 j) {b:aA} {o:Obj} (e:s.heap.get? b=some o) (n:b∉frs outer):b∉frs (cxD P w K mg base N qual scope f cd A outer s H E).stack:=fun B=>by
 rcases D3.mp (I.stkSub b B) with z | z
 ·have h1:b < s.heap.objs.size:=O7 e;have h2:s.heap.objs.size<=(cxD P w K mg base N qual scope f cd A outer s H E).env.locals:=I.ok.above;rw [<- z] at h2;exact absurd (D4 h1 h2) (Nat.lt_irrefl _)
 ·exact n z
theorem Qkk {b:aA} (h:b∈frs outer):b∈frs (cxD P w K mg base N qual scope f cd A outer s H E).stack:=by
 show b∈frs (_ :: outer);unfold frs at h ⊢;rw [List.filterMap_cons]
 split
 ·exact h
 ·exact O5 _ h
theorem Qrx {pins:List (aA × Obj)} {σ:St} {H1:Hp} {B:aC} {G:Heap} {e C t:aA} {Z:Option aA} (I:Inv (cxD P w K mg base N qual scope f cd A outer s H E) pins σ H1 B)
  (hk:∀ b o,b≠e->B.heap.get? b=some o->G.get? b=some o) (U:∀ o,B.heap.get? e=some o->∃ vs,o.data=.fields vs) (new:s.heap.get? e=none) (hH:H1 e=none)
  (oe:G.get? e=some { cls:=.ref C,dict:=Z,data:=.fields #[.ref t,.none,.none,.none,.bool false,.none] }) (hE:E (.ref C) Z H1) :
  (cxD P w K mg base N qual scope f cd A outer s H E).xe (.ref e) { B with heap:=G }:=by
 have a3:∀ en∈(cxD P w K mg base N qual scope f cd A outer s H E).stack,∀ b,en.frame=some b->b∈e :: frs (cxD P w K mg base N qual scope f cd A outer s H E).stack:=fun en he b j=>O5 _ (List.mem_filterMap.mpr ⟨en,he,j⟩)
 have ff:=PySem.W.funFrames_hide I.stack a3;have a4:∀ b o,B.heap.get? b=some o->(∀ vs,o.data≠.fields vs)->b≠e:=fun b o q n z=>by
  subst z;obtain ⟨vs,d⟩:=U o q;exact n vs d
 have hid:(PySem.W.hideAll B.heap (e :: frs (cxD P w K mg base N qual scope f cd A outer s H E).stack)).get? e=none:=PySem.W.hideAll_none _ O8;have kb:(PySem.W.hideAll B.heap (e :: frs (cxD P w K mg base N qual scope f cd A outer s H E).stack)).StaysIn G:=fun b o q=>hk b o (fun z=>by rw [z,hid] at q; cases q) (PySem.W.of_hideAll _ q)
 show aH (aI P w) _ (leaving _ (.ref e)) _ _ _;refine Qca (bs:=PySem.W.hideAll B.heap (e :: frs (cxD P w K mg base N qual scope f cd A outer s H E).stack)) (a0:=.ref t) (s:={ B with heap:=G }) I.ok.frames (ff.of_keeps fun b o q n=>⟨o,hk b o (a4 b o q n) q,rfl⟩) rfl oe kb hid rfl rfl rfl fun h2 lf dd=>?_
 obtain ⟨k1,⟨_,_,k2⟩,k3,k4⟩:=lf;have noex:∀ b:aA,b∉(cxD P w K mg base N qual scope f cd A outer s H E).ex:=fun b z=>absurd (show b∈([]:List aA) from z) (by simp)
 have J:∀ b o,s.heap.get? b=some o->b≠e:=fun b o q z=>by rw [z,new] at q; cases q
 have out:∀ b o,s.heap.get? b=some o->b∉frs outer->b∉e :: frs (cxD P w K mg base N qual scope f cd A outer s H E).stack:=fun b o q n m=>by
  rcases D3.mp m with z | z
  ·exact J b o q z
  ·exact Q98 I q n z
 refine ⟨e,.ref C,.ref t,Z,H1,_,rfl,⟨I.os,I.bare,⟨k1,hid,k2,k3⟩,fun b u q=>?_,fun b o q n j=>?_,fun b o q j=>?_,fun b o q j=>?_,fun b o q n=>I.base.free b o q n (noex b),I.base.tups,I.base.frzs,I.base.tbls⟩,dd,hE⟩
 ·have ne:∀ c v,H1 c=some v->c∉e :: frs (cxD P w K mg base N qual scope f cd A outer s H E).stack:=fun c v z m=>by
   rcases D3.mp m with m | m
   ·rw [m,hH] at z; cases z
   ·rw [I.stkFree c m] at z; cases z
  refine (I.hok b u q).stay (fun c v hc r=>PySem.W.hideAll_get _ r ?_) (fun _ r=>r) fun _ _ r=>r
  rcases hc with rfl | hc
  ·exact ne c u q
  ·exact ne c _ hc
 ·exact PySem.W.hideAll_get _ (I.base.keep b o q n j (noex b)) (out b o q j)
 ·obtain ⟨o',z⟩:=I.base.there b o q (noex b);exact ⟨o',PySem.W.hideAll_get _ z (out b o q j)⟩
 ·obtain ⟨sl,z⟩:=I.base.slot b o q (I.ok.frf b j) j (noex b);obtain ⟨_,o',a1,Y⟩:=I.ok.funs.mem j;have O:s.heap.get? b=some o':=a1;rw [q] at O;cases O;obtain ⟨a2,z'⟩:=k4 b _ (hk b _ (J b o q) z) Y;exact ⟨a2,z'⟩
theorem Qd:Q72 (CXD P w) (cxD P w K mg base N qual scope f cd A outer s H E) E:=by
 intro pins σ H1 s1 e s' I h;obtain ⟨a,cls,a0,dv,H',B,rfl,F,dd,hE⟩:=h;show aH (aI P w) _ (leaving _ (.ref a)) _ _ _;have noex:∀ b:aA,b∉(cxD P w K mg base N qual scope f cd A outer s H E).ex:=fun b z=>absurd (show b∈([]:List aA) from z) (by simp)
 refine Qc9 I.ok.frames rfl F.fl dd fun h2 x1 d2 Z=>?_
 refine ⟨a,cls,a0,dv,H',B,rfl,⟨F.os.trans I.os,F.bare,x1,F.hokB,fun b o q n j=>?_,fun b o q j=>?_,fun b o q j=>?_,fun b o q n=>?_,fun b xs q=>F.tups b xs (I.base.tups b xs q),fun b o u q=>F.frzs b o u (I.base.frzs b o u q),fun b ps q=>?_⟩,d2,hE⟩
 ·exact F.keep b o (I.base.keep b o q n j (noex b)) (I.base.free b o q n (noex b)) (Q98 I q j)
 ·obtain ⟨o',z⟩:=I.base.there b o q (noex b);exact F.there b o' z (Q98 I q j)
 ·obtain ⟨sl,z⟩:=I.base.slot b o q (I.ok.frf b j) j (noex b);obtain ⟨_,o',O,J⟩:=I.ok.funs.mem j;have G:s.heap.get? b=some o':=O;rw [q] at G;cases G;obtain ⟨a1,Y⟩:=F.slot b _ z (Qkk j);obtain ⟨U,z2⟩:=Z b _ Y J;exact ⟨U,z2⟩
 ·obtain ⟨o',z⟩:=I.base.there b o q (noex b);exact F.free b o' z (I.base.free b o q n (noex b))
 ·obtain ⟨m1,e1⟩:=I.base.tbls b ps q;obtain ⟨m2,e2⟩:=F.tbls b _ e1;exact ⟨m1 ++ m2,by rw [e2,Array.append_assoc]⟩
end
section
variable {X:Cx}
def Qei (X:Cx) (E:XK):Prop:=∀ (pins:List (aA × Obj)) (σ:St) (H0 H1:Hp) (s0 s1:aC) (hx:Heap) (e C t:aA) (dv:Option aA),Inv X pins σ H0 s0->s0.heap.get? e=none->Inv X pins σ H1 s1->(∀ b o,b≠e->s1.heap.get? b=some o->hx.get? b=some o) ->
 (∀ o,s1.heap.get? e=some o->∃ vs,o.data=.fields vs)->H1 e=none->hx.get? e=some { cls:=.ref C,dict:=dv,data:=.fields #[.ref t,.none,.none,.none,.bool false,.none] }->E (.ref C) dv H1->X.xe (.ref e) { s1 with heap:=hx }
theorem Qgk {x:Str} {C:aA} {e:aD} {t:TA} {E:XK} {np cpos pos:Pos} (j:X.calm=true) (RO:Qei X E) (hg:Gl X x) (Z:X.mg x=some (.ref C)) (q:PySem.W.excIn X.K C Q0u "ValueError.__new__" = true) (ha:PA X [e] t)
  (O:(x == ("__debug__" : Str))=false:=by decide) (Y:aP [e] X.env=[(false,aQ e X.env)]:=by rfl):PS X (.Raise (some (.Call (.Name x np) [e] [] cpos)) none pos) (Qrj C E t):=by
 intro pins s σ H D I h;obtain ⟨tl,N,nm,qn,bs,hdct,sn,sub,ab,col,dd,k0,k1,k2,k3,k5,mN,hC,hN,U,T⟩:=(Qp1 I.mod.kin Z q).obj;refine wpAny_Raise_call_subU (C:=C) (nm:=nm) (q:=qn) (N:=N) (bs:=bs) (bm:=tl) (hdct:=hdct) (sn:=sn) (sub:=sub) (ab:=ab) (col:=col) (dd:=dd) (k0:=k0) (k1:=k1) (k2:=k2) (k3:=k3) (k5:=k5)
  PySem.F.excBase_ValueError (by decide +kernel) PySem.F.excBase_ValueError (mN:=mN) (T.hasType (by decide +kernel)) (I.ok.hd j) (by rw [Y]; rfl) U (Q2d I hg Z ⟨rfl,?_⟩ O)
 have J:=ha cpos pins s σ H _ I h;rw [Y] at J ⊢;refine Calls.evalArgs_plain (ak J (fun us s1 ⟨vs,H1,B,r,z,hE⟩=>?_) fun _ _ y=>y)
 refine ⟨rfl,by rw [<- r.length]; exact z,B.bk _ _ hC,hN.keeps B.bk,T.keeps B.bk,fun h' e' G=>?_⟩;obtain ⟨t,oe,_,_⟩:=G.there;exact RO pins σ H1 H1 s1 s1 h' e' C t none B G.new B (fun b o _ k=>G.keeps b o k) (fun o k=>by rw [G.new] at k; cases k) (B.hok.none_of G.new) oe hE
end
theorem Ke {P:aL} {w:aK} {K:PySem.W.Frag} {mg:Str->Option aB} {base:Heap} {N:List Str} {qual:Str} {scope:Scope} {f:aA} {cd:aB} {A:aN} {outer:List Env} {s:aC} {H:Hp} {E:XK} :
  Qei (cxD P w K mg base N qual scope f cd A outer s H E) E:=fun pins σ H0 H1 s0 Z hx e C t dv O Y I J j B G U=>by
 refine Qrx I J j ?_ B G U;cases q:s.heap.get? e with
 | none=>rfl
 | some o=>
  obtain ⟨o',z⟩:=O.base.there e o q (fun z=>absurd (show e∈([]:List aA) from z) (by simp))
  rw [Y] at z; cases z
theorem Fun.okD {P:aL} {w:aK} {K:PySem.W.Frag} {mg:Str->Option aB} {base:Heap} {x qual:Str} {st:aJ} {f:aA} {fd:aM} {N ps:List Str} {k:Nat} {sp:Sp} (F:Fun K x qual st f fd) (S:FnScope N ps (Qf st)) (len:∀ vs H Q E,sp vs H Q E->vs.length=ps.length)
  (z:∀ (j:aB) (A:aN) (outer:List Env) (s:aC) (H:Hp) (vs:List V) (Q:VK) (E:XK),Room k (A.deeper (envOfC qual (Qf st) s.heap.objs.size f j))->sp vs H Q E ->
   ∃ t,PSs (cxD P w K mg base N qual (Qf st) f j A outer s H E) (Yj st) t/\t { nx:=fun _ H'=>Q .non H',rt:=Q } (start N vs) H):FnOk P w K mg base (CXD P w) (k + 1) f fd ps sp:=by
 obtain ⟨oc,Y,kV,U,Z,an,j,ct,J,rfl,O,B⟩:=F.ex;exact Qwm O B S len fun A outer s H vs Q E I G=>z j A outer s H vs Q E I G
end L2
namespace L2
open PySem PySem.Spec PyProof.Rows PySem.W PySem.Builtin.Getset_descriptor
def IsXD (x C:aA) (dv:Option aA) (h:Heap):Prop:=∃ ox vs,h.get? x=some ox/\ox.cls=.ref C/\ox.dict=dv/\ox.data=.fields vs/\vs[2]?=some .none
theorem IsXD.x {x C:aA} {z:Option aA} {h:Heap} (I:IsXD x C z h):IsX x C h:=let ⟨j,_,a,b,_⟩:=I; ⟨j,a,b⟩
theorem Qq6 {P:aL} {w:aK} {H:Hp} {h:Heap} {a C:aA} {j:Option aA} (I:IsXD a C j h):ObjOk P w H h a (.ext (IsXD a C j)):=
 ⟨I,(let ⟨o,_,e,_⟩:=I; ⟨o,e⟩),fun h1 h2 ⟨o,vs,e,c⟩ k=>⟨o,vs,k o e,c⟩⟩
section
variable {prog:aL} {w:aK} {A:aN} {E:aB->aC->Prop} {h:Heap} {g:Array GenState} {d:Drawn} {t:Nat} {os:OsState} {K:Frag} {x C dx:aA} {name:Str} {v:aB} {m:Str->Option aB}
end
section
variable {X:Cx}
end
section
variable {X:Cx} {pins:List (aA × Obj)} {σ:St} {H H':Hp} {s s':aC} {a C:aA}
theorem Qq1 {cn n:Str} {i:Nat} {CC:aA} {a0:aB} {B:Heap} {dv:Option aA} {np hpos:Pos} {b₀:aJ} {suite:List aJ} {ts:TS} {D:Ends} (hN:X.N.Nodup) (hi:X.N[i]?=some n) (hk:X.env.scope.names.lookup n=some .local) (c0:∀ b,b∉X.ex)
  (b0:X.stack=X.env :: X.outer) (b5:X.env.frame=some X.env.locals) (hg:Gl X cn) (hm:X.mg cn=some (.ref CC)) (hx:exmOne X.K (.ref C) (.ref CC)=some true) (I:Inv X pins σ H s) (F:Fly X.prog X.w X.stack H H' s s' a (.ref C) a0 B) (dd:∃ o',s'.heap.get? a=some o'/\o'.dict=dv/\yt o'=some .none)
  (J:PSs (Q0e X a) (b₀ :: suite) ts) (q:ts { nx:=fun b2 H2=>D.nx (b2.set i none) H2,rt:=fun _ _=>False } (σ.set i (some (.ref a))) (upd H' a (.ext (IsXD a C dv)))) (b7:(cn == ("__debug__" : Str))=false:=by decide) :
  aH (aI X.prog X.w) X.A (noteFrame (.ref a) X.env) (fun _ a3=>aH (aI X.prog X.w) X.A (setFlight (.ref a) none) (fun _ a4=>aH (aI X.prog X.w) X.A (handleBy (.ref a) X.env [.ExceptHandler (some (.Name cn np)) (some n) (b₀ :: suite) hpos]) (SP X pins D) X.xe a4) X.xe a3) X.xe s':=by
 have a9:(X.env.scope.kind == .class || (X.env.scope.kind == .module && X.env.locals != X.env.globals))=false:=by rw [I.ok.kind]; rfl
 have a1:=F.fl;rw [b0] at a1;refine Qh5 (by rw [<- b0]; exact I.ok.frames) b5 a1 dd fun h4 j d4 a6=>?_
 refine Q42 (s:={ s' with heap:=h4 }) j.1 j.2.1 j.2.2.1 j.2.2.2 d4 fun h5 G d5 a7=>?_
 obtain ⟨n1,n2⟩:=F.new;have I5:Inv X pins σ H' { s' with heap:=h5 }:=F.inv I G.1 (a6.trans a7);obtain ⟨ob,b9,a2⟩:=G.there;have LT:Looks (aI X.prog X.w) h5 (typeOf (.ref a)) (.ref C):=IsX.type ⟨ob,b9,a2⟩;refine wpAny_handleBy_cons (codeAny_handlers_test (Q2d (X:=Q0e X a) (I5.suite a) hg hm ?_ b7)) (by intro z; cases z);refine (exm_one (h:=h5) I5.kIn LT hx).at ?_;refine codeAny_handlers_suite_as ?_;refine Q42 (s:={ s' with heap:=h5 }) G.1 G.2.1 G.2.2.1 G.2.2.2.at d5 fun h6 a5 d6 b6=>?_
 have I6:Inv X pins σ H' { s' with heap:=h6 }:=F.inv I a5.1 ((a6.trans a7).trans b6);obtain ⟨b4,c1,O,Y,U,_⟩:=a5.first;obtain ⟨o',a8,b8,Z⟩:=d6;rw [O] at a8;cases a8;have I7:Inv X pins σ (upd H' a (.ext (IsXD a C dv))) { s' with heap:=h6 }:=Inv.track I c0 n1 I6 n2 (Qq6 ⟨b4,c1,O,Y,b8,U,by unfold yt at Z; rw [U] at Z; exact Z⟩);refine Q52 (X:=Q0e X a) (v:=.ref a) (I7.suite a) hN hi (.inl hk) rfl (fun s8 I8=>?_) (.inr hk);refine ak (J pins s8 _ _ _ I8 q) (fun f s9 h9=>?_) fun _ _ z=>z.elim
 cases f with
 | next=>
  obtain ⟨c4,H9,I9,q9⟩:=h9;have b1:=I9.unsuite I.ok;obtain ⟨m,hn,hl⟩:=id b1.loc;exact wpAny_nameGoes_keeps hk hn a9 fun c3 v b3 c2=>⟨_,_,b1.forget hN hi hl b3 c2,q9⟩
 | brk=>obtain ⟨_,_,_,z⟩:=h9; exact z.elim
 | cont=>obtain ⟨_,_,_,z⟩:=h9; exact z.elim
 | ret u=>obtain ⟨_,_,_,_,_,z⟩:=h9; exact z.elim
end
end L2
namespace L2
open PySem PySem.Spec PyProof.Rows
section
variable {X:Cx}
theorem Qqc {CX:CXT} {f:aA} {fd:aM} {k:Nat} {ps:List Str} {sp:Sp} {g:Str} {p cpos:Pos} {e:aD} {es:List aD} {ta:TA} {pins:List (aA × Obj)} {σ:St} {H:Hp} {s:aC} {E1:aB->aC->Prop} {Qv:VK} {U:XK}
  (F:FnOk X.prog X.w X.K X.mg X.base CX k f fd ps sp) (hr:Room k X.A) (hm:X.mg g=some (.ref f)) (a1:PySem.W.keepIn X.K (.ref f)=true) (hb:Binds X.K fd ps []) (ha:PA X.nox (e :: es) ta) (hg:Gl X g)
  (I:Inv X pins σ H s) (h:ta σ H fun vs H1=>sp vs H1 Qv U) (hE:∀ H1 B v s',Inv X pins σ H1 B->CX X.stack H1 B U v s'->E1 v s')
  (Z:(g == ("__debug__" : Str))=false) (he:aP (e :: es) X.env=(false,aQ e X.env) :: aP es X.env) (Y:(aU cpos (aP es X.env)).any (·.1)=false) :
  aH (aI X.prog X.w) X.A (aQ (.Call (.Name g p) (e :: es) [] cpos) X.env) (EP X pins σ Qv) E1 s:=by
 refine wpAny_Call_Name_kw (Q2d I hg hm ?_ Z);refine PySem.W.callWith_K (h₀:=X.base) I.ok.mod.kin a1 (ak (ha cpos pins s σ H _ (I.wish _) h) (fun O B ⟨vs,H1,I1,r,q⟩=>⟨I1.unwish.kIn,?_⟩) fun _ _ z=>z.elim) he Y
 have j:=I1.unwish;have hl:O.length=ps.length:=by rw [<- r.length]; exact F.len _ _ _ _ q
 have G:=hb B O j.kIn (by rw [List.append_nil]; exact hl);rw [List.append_nil] at G;refine wpAny_call (bK (F.run X.A X.stack B H1 ⟨O,[]⟩ O vs Qv U hr j.env0 G r q) fun rr s' J=>?_)
 cases rr with
 | error v=>exact hE H1 B v s' j J
 | ok fl=>
  cases fl with
  | ret u=>exact j.after J
  | next=>exact False.elim J
  | brk=>exact False.elim J
  | cont=>exact False.elim J
end
section
variable {X:Cx}
theorem Zu (K:PySem.W.Frag) (O:X.K=K:=by rfl):Ur X (.builtin "isinstance") (fun xs H Q=>∃ (a C:aA) (B:Option aA) (c:V) (j:aB) (b:Bool),xs=[.ref a,c]/\Qtk c=some j/\H a=some (.ext (IsXD a C B))/\XCls K C/\PySem.W.kitOne K (.ref C) j=some b/\Q (.bl b) H):=by
 subst O;intro pins s σ H xs us Q I r h;obtain ⟨a,C,B,c,j,b,rfl,J,Y,F,e,q⟩:=h;obtain ⟨u,Z,rfl,G,U⟩:=Qek r;cases G;rw [Qcv J U];exact PySem.W.kia_one (Qk9 F) I.kIn (I.hok a _ Y).1.x e (fun z=>nomatch z) fun tk=>⟨.bl b,H,I.tok tk,rfl,q⟩
end
end L2
namespace L2
open PySem PySem.Spec PyProof.Rows PySem.W PySem.Builtin.Getset_descriptor
section
variable {X:Cx} {pins:List (aA × Obj)} {σ:St} {H H':Hp} {s s':aC} {a C:aA}
end
end L2
namespace L2
open PySem PySem.Spec PyProof.Rows
section
variable {X:Cx}
end
end L2
namespace L2
open PySem PySem.Spec PyProof.Rows PySem.W PySem.Builtin.Getset_descriptor
section
variable {X:Cx} {pins:List (aA × Obj)} {σ:St} {H H':Hp} {s s':aC} {a C:aA}
end
section
variable {X:Cx}
end
end L2
namespace L2
open PySem PySem.Spec PyProof.Rows PySem.SeqAt
section
variable {prog:aL} {w:aK} {A:aN} {E:aB->aC->Prop} {s:aC}
end
section
variable {X:Cx}
theorem Qti {bs:List Bool} {its:List aB} (r:Vals (bs.map V.bl) its):its.countP (isBoolOf true)=bs.countP id:=by
 induction bs generalizing its with
 | nil=>cases r; rfl
 | cons b bs j=>
  cases r with
  | cons a r=>
   cases a;rw [List.countP_cons,List.countP_cons,j r];cases b <;> rfl
theorem eqB {bs:List Bool} {its:List aB} (r:Vals (bs.map V.bl) its):∀ y,y∈its->∀ (A:aN) (s:aC),EqAt A s y (.bool true) (isBoolOf true y):=by
 induction bs generalizing its with
 | nil=>cases r; intro y j; exact absurd j (by simp)
 | cons b bs B=>
  cases r with
  | cons a r=>
   cases a;intro y j A s;rcases D3.mp j with z | j
   ·rw [z]; exact EqAt.bool_bool b true
   ·exact B r y j A s
def Qnh:V->List V->Hp->VK->Prop:=fun x vs H Q=>∃ (l:aA) (bs:List Bool),x=.ref l/\vs=[.bl true]/\H l=some (.lst (bs.map V.bl))/\Q (.int (bs.countP id:Nat)) H
theorem Qgz:MtR X "list.count" Qnh:=by
 intro pins s σ H x vs v U Q I G J h;obtain ⟨l,bs,rfl,rfl,j,q⟩:=h;cases G;obtain ⟨u,rfl,O⟩:=J.one;obtain rfl:u=Value.bool true:=O;obtain ⟨z,its,n,r,hl,e⟩:=I.lstM j;refine bA PySem.F.slot_list_count ⟨_,e,rfl⟩ PySem.F.entry_list_count (PySem.F.args_list_count_2 _ _) (list_countAt l its.toArray n none #[] (.bool true) (isBoolOf true)) ⟨e,fun y B=>eqB r y (by simpa using B) _ _,?_⟩;rw [show its.toArray.toList=its from rfl,Qti r];exact ⟨.int _,H,I.tok _,⟨_,rfl⟩,q⟩
def Qnf:V->List V->Hp->VK->Prop:=fun x vs H Q=>∃ (l:aA) (bs:List Bool) (j:Nat),x=.ref l/\vs=[.bl true]/\H l=some (.lst (bs.map V.bl))/\bs.length<=1000/\bs[j]?=some true/\(∀ m,m < j->bs[m]?=some false)/\Q (.int (j:Nat)) H
theorem Qgx:MtR X "list.index" Qnf:=by
 intro pins s σ H x vs v us Q I rx rv h;obtain ⟨l,bs,j,rfl,rfl,hH,hz,Y,O,q⟩:=h;cases rx;obtain ⟨u,rfl,G⟩:=rv.one;obtain rfl:u=Value.bool true:=G;obtain ⟨z,its,n,r,hl,e⟩:=I.lstM hH;rw [O0] at hl;have lj:j < bs.length:=(O2.mp Y).1;have B:∀ m (J:m < its.toArray.size) b,bs[m]?=some b->its.toArray[m]=Value.bool b:=fun m J b Z=>by
  obtain ⟨u,hu,G⟩:=r.get (show (bs.map V.bl)[m]?=some (V.bl b) by rw [E3,Z]; rfl);obtain rfl:u=Value.bool b:=G;have:its.toArray[m]?=some (Value.bool b):=by simpa using hu
  exact (Array.getElem?_eq_some_iff.mp this).2
 refine bA PySem.F.slot_list_index ⟨_,e,rfl⟩ PySem.F.entry_list_index (PySem.F.args_list_index_2 _ _)
  (list_indexAt l its.toArray n none #[] (.bool true) (isBoolOf true) j (by rw [O4,<- hl]; exact lj) (by omega) ?_ ?_) ⟨e,fun y hy=>eqB r y (by simpa using hy) _ _,⟨.int _,H,I.tok _,⟨_,rfl⟩,q⟩⟩
 ·rw [B j _ true Y]; rfl
 ·intro m J U;rw [B m J false (O m U)]; rfl
def Qri (sp:Sp) (ta:TA) (i:Nat) (ok:aB->aA->Prop) (ts:aA->TS) (set:V->St->St):TS:=fun D σ H=>ta σ H fun vs H1=>sp vs H1 (fun v H2=>D.nx (set v σ) H2)
 (fun c dv H2=>∃ C,c=.ref C/\ok c C/\∀ a,H2 a=none->ts a { nx:=fun σ3 H3=>D.nx (σ3.set i none) H3,rt:=fun _ _=>False } (σ.set i (some (.ref a))) (upd H2 a (.ext (IsXD a C dv))))
theorem Qgj {f:aA} {fd:aM} {k:Nat} {ps:List Str} {sp:Sp} {g cn n:Str} {i:Nat} {CC:aA} {p cpos G np hpos pos:Pos} {e:aD} {es:List aD} {ta:TA} {b₀:aJ} {suite:List aJ} {ts:aA->TS}
  (F:FnOk X.prog X.w X.K X.mg X.base (CXD X.prog X.w) k f fd ps sp) (hr:Room k X.A) (hm:X.mg g=some (.ref f)) (a5:PySem.W.keepIn X.K (.ref f)=true) (hb:Binds X.K fd ps []) (ha:PA X.nox (e :: es) ta)
  (hN:X.N.Nodup) (hi:X.N[i]?=some n) (hk:X.env.scope.names.lookup n=some .local) (j:∀ a,PSs (Q0e X a) (b₀ :: suite) (ts a)) (a4:X.mg cn=some (.ref CC))
  (hg:Gl X g:=by rfl) (O:Gl X cn:=by rfl) (a3:∀ b,b∉X.ex:=by intro b z; exact absurd (show b∈([]:List aA) from z) (by simp)) (a2:X.stack=X.env :: X.outer:=by rfl) (U:X.env.frame=some X.env.locals:=by rfl)
  (Z:(g == ("__debug__" : Str))=false:=by decide) (J:(cn == ("__debug__" : Str))=false:=by decide) (he:aP (e :: es) X.env=(false,aQ e X.env) :: aP es X.env:=by rfl) (Y:(aU cpos (aP es X.env)).any (·.1)=false:=by rfl)
  (a1:swapsWith (.Call (.Name g p) (e :: es) [] cpos) none G.line X.env=pure false:=by rfl) :
  PS X (.Try [.Expr (.Call (.Name g p) (e :: es) [] cpos) G] [.ExceptHandler (some (.Name cn np)) (some n) (b₀ :: suite) hpos] [] [] pos) (Qri sp ta i (fun c _=>PySem.W.exmOne X.K c (.ref CC)=some true) ts (fun _ σ=>σ)):=by
 intro pins s σ H D I h;refine wpAny_Try_except (wpAny_execs_cons (wpAny_Expr_any (thn (Qqc F hr hm a5 hb ha hg I h ?_ Z he Y) fun v s1 ⟨x,H1,I1,r1,q1⟩=>wpAny_execs_nil (wpAny_execs_nil ⟨σ,H1,I1,q1⟩)) I.quiet a1))
 intro H1 s1 v s' I1 hx;obtain ⟨a,cls,a0,dv,H',B,rfl,Fl,dd,C,rfl,hok,q⟩:=hx;exact Qq1 hN hi hk a3 a2 U O a4 hok I1 Fl dd (j a) (q a Fl.new.2) J
end
end L2
namespace L2
open PySem PySem.Spec PyProof.Rows PySem.SeqAt
section
variable {X:Cx}
end
end L2
namespace L2
open PySem PySem.Spec PyProof.Rows
section
variable {X:Cx}
def Qj4 (K:PySem.W.Frag):R2:=fun x y H Q=>∃ a b ys,x=.ref a/\y=.ref b/\SqT K H a []/\SqT K H b ys/\Q (.ref b) H
theorem Qjs:OpR X (aV .Add) (Qj4 X.K):=by
 intro pins s σ H x y v u Q I Z ry h;obtain ⟨a,b,ys,rfl,rfl,ha,U,q⟩:=h;cases Z;cases ry;obtain ⟨its,J,O,_⟩:=I.tuple ha;obtain ⟨j,r2,p2,_⟩:=I.tuple U;have e1:its=[]:=J.nil_iff.mpr rfl;subst e1;obtain ⟨⟨cls,dd,data,Y⟩,ho,hc,n,hd⟩:=id O;obtain ⟨⟨G,z,data2,B⟩,ho2,hc2,n2,hd2⟩:=id p2;simp only at hc hd hc2 hd2;subst hc hd hc2 hd2;exact concat_meets ⟨_,ho,rfl⟩ ⟨_,ho2,rfl⟩ noFill_tuple_add seq_tuple_add PySem.F.slot_tuple_add PySem.F.entry_tuple_add (PySem.F.args_tuple_add_2 _ _)
  (tuple_addW0 a b ([]:List aB).toArray j.toArray n n2 dd z Y B (by simp)) ⟨ho,ho2,⟨.ref b,H,I,rfl,q⟩⟩
abbrev Qv9 (K:PySem.W.Frag):R2:=fun x y H Q=>Qqx K x y H Q\/Qj4 K x y H Q
theorem Qp5:OpR X (aV .Add) (Qv9 X.K):=op_catT.or Qjs
end
def PTs (X:Cx) (ifs:List aD) (t:TT):Prop:=
 ∀ (pins:List (aA × Obj)) (s:aC) (σ:St) (H:Hp) (Q:Bool->Hp->Prop),Inv X pins σ H s->t σ H Q ->
  aH (aI X.prog X.w) X.A (forIn ifs true fun c r=>if r=true then do let ok <- isTrue c X.env (aQ c X.env); pure (ForInStep.yield ok) else pure (ForInStep.yield r)) (TP X pins σ Q) X.xe s
def Qum:TT:=fun _ H Q=>Q true H
theorem Qnq {X:Cx}:PTs X [] Qum:=fun _ _ _ H _ I h=>wpAny_tests_nil ⟨H,I,h⟩
theorem Qnp {X:Cx} {c:aD} {t:TT} (h:PT X c t):PTs X [c] t:=fun pins s σ H Q I q=>wpAny_tests_one (h pins s σ H Q I q)
def Q8p (J:It) (cap:List (Option Nat)) (g:TG) (tt:TT) (te:TE) (σ:St) (H1:Hp) (Q:VK):Prop:=∀ acc,H1 acc=none ->
 ∃ W:Nat->Nat->List V->St->Hp->Prop,(∃ m,W 0 m [] (Q2m cap σ) (upd H1 acc (.lst [])))/\∀ i m ys σ' H',W i m ys σ' H'->H' acc=some (.lst ys) /\
  ((J.stop i H'/\Q (.ref acc) H')\/(J.go i H'/\ys.length < sizeLine/\∀ x H2,J.yld i H' x H2->g x σ' H2 fun σ3 H3=>tt σ3 H3 fun b H4=>
    if b=true then te σ3 H4 fun y H5=>H5 acc=some (.lst ys)/\∃ m',m' < m/\W (i + 1) m' (ys ++ [y]) σ3 (upd H5 acc (.lst (ys ++ [y])))
    else ∃ m',m' < m/\W (i + 1) m' ys σ3 H4))
def Q96 (cap:List (Option Nat)) (wi:TI) (g:TG) (tt:TT) (te:TE):TE:=fun σ H Q=>wi σ H fun J H1=>Q8p J cap g tt te σ H1 Q
section
variable {prog:aL} {w:aK} {A:aN} {R:Result->aC->Prop} {s:aC}
theorem Q7m {elt j iter:aD} {ifs:List aD} {scope:Scope} {pos:Pos} {it a2:aB} {env:Env} (I:Nat->aC->Prop)
  (a5:∀ n s,I n s->aH (aI prog w) A (aw it) (fun r B=>match r with
   | none=>R (.ok .next) B
   | some v=>aH (aI prog w) A (letOwnedTupleGo j it v) (fun _ J=>aH (aI prog w) A (assign j env v) (fun _ Y=>
     aH (aI prog w) A (forIn ifs true fun c r=>if r=true then do let ok <- isTrue c env (aQ c env); pure (ForInStep.yield ok) else pure (ForInStep.yield r)) (fun ok G=>
      if ok=true then aH (aI prog w) A (aQ elt env) (fun x U=>
       aH (aI prog w) A (call (.builtin "list.append") [a2,x]) (fun _ O=>∃ m,m < n/\I m O) (fun _ _=>False) U) (fun _ _=>False) G
      else ∃ m,m < n/\I m G) (fun _ _=>False) Y)
     (fun _ _=>False) J) (fun _ _=>False) B) (fun _ _=>False) s)
  (n:Nat) (h:I n s):codeAny (aI prog w) A (.compLoop (.ListComp elt [⟨j,iter,ifs,0⟩] scope pos) 0 it a2 env) R s:=by
 refine codeAny_loop rfl I (fun n s hI=>?_) n h;show aH _ A ((compTurn (.ListComp elt [⟨j,iter,ifs,0⟩] scope pos) 0 it a2 env).onRaise (fun x=>do noteFrame x env; theTreesLotGoes x)) _ _ s;refine wpAny_noted ?_;rw [compTurn_list];refine aF (wpAny_standAt (aF (ak (a5 n s hI) (fun r B Z=>?_) fun _ _ h'=>h'.elim)))
 cases r with
 | none=>exact aO Z
 | some v=>
  refine aF (ak Z (fun _ J a1=>?_) fun _ _ h'=>h'.elim)
  refine aF (ak a1 (fun _ Y a3=>aF (ak a3 (fun ok G z=>?_) fun _ _ h'=>h'.elim)) fun _ _ h'=>h'.elim)
  cases ok with
  | true=>
   rw [bQ rfl] at z;exact aF (aF (ak z (fun x U a4=>aF (ak a4 (fun _ O a6=>aO (aO ⟨rfl,a6⟩)) fun _ _ h'=>h'.elim)) fun _ _ h'=>h'.elim))
  | false=>
   rw [bS D1] at z;exact aF (aO (aO ⟨rfl,z⟩))
end
section
variable {X:Cx}
theorem Q6t {elt tg iter:aD} {ifs:List aD} {tt:TT} {pos:Pos} {N N':List Str} {sc scE:Scope} {cap:List (Option Nat)} {wi:TI} {g:TG} {te:TE} {use:Option (aB->Sem Unit)} {QQ:aB->aC->Prop} (c3:X.calm=true) (hi:PI X tg iter wi)
  (hg:∀ cl C s0 H0 ex,PG (Vk X N' sc cl C s0 H0 ex) tg g) (he:∀ cl C s0 H0 ex,PE (Vk X N' sc cl C s0 H0 ex) elt te) (e6:∀ cl C s0 H0 ex,PTs (Vk X N' sc cl C s0 H0 ex) ifs tt)
  (hN:X.N=N) (hE:X.env.scope=scE) (hc:compOkC N N' sc scE cap=true) (hs:∀ x,bC iter X.env x=pure x)
  {pins:List (aA × Obj)} {s:aC} {σ:St} {H:Hp} {Q:VK} (I:Inv X pins σ H s) (h:Q96 cap wi g tt te σ H Q)
  (fin:∀ d7 C H' s' m,Inv X pins σ H' s'->s'.heap.Ns C m->Q74 X pins H' C->Q (.ref d7) H'->compPost (aI X.prog X.w) X.A X.xe use QQ (.ref d7) C (.ok .next) s') {pos':Pos} :
  aH (aI X.prog X.w) X.A (comprehension (.ListComp elt [⟨tg,iter,ifs,0⟩] sc pos) sc X.env pos' (newList []) false (aQ iter X.env) use) QQ X.xe s:=by
 have ck:=compOkC.of hc;obtain ⟨cl,e5,c1,c2⟩:=Qeb (scope:=sc) (env:=X.env) fun x hx hf=>I.ok.has x.1 (by
  have:=ck.fre x hx hf;rw [<- hE] at this;exact this)
 refine wpAny_comprehension_free (use:=use) rfl hs e5 ck.kind ck.loc (thn (hi pins s σ H _ I h) fun v s1 h1=>thn h1 fun f6 O h2=>?_)
 obtain ⟨it,fp,tn,J,H2,e,I2,T,c7,f2,hw⟩:=h2;subst e;have b7:∀ b∈fp,b < O.heap.objs.size:=fun b G=>by
  obtain ⟨o,e,_⟩:=T.obj _ _ c7 b G;exact O7 e
 obtain ⟨W,⟨m0,w0⟩,turn⟩:=hw O.heap.objs.size I2.fresh;refine ay (Q75 ?_);dsimp only;have I3:Inv X pins σ (upd H2 O.heap.objs.size (.lst [])) { O with heap:=O.heap.push { cls:=.type "list",data:=.seq ([]:List aB).toArray } }:=
  I2.lnew (its:=[]) (ys:=[]) (t':=O.toks) .nil (Nat.zero_le _)
 generalize d2:({ O with heap:=O.heap.push { cls:=.type "list",data:=.seq ([]:List aB).toArray } }:aC)=U at I3;have c6:U.heap=O.heap.push { cls:=.type "list",data:=.seq ([]:List aB).toArray }:=by rw [<- d2]
 have hsz:U.heap.objs.size=O.heap.objs.size + 1:=by rw [c6,F9]
 have f3:∀ b∈fp,Q74 X pins (upd H2 O.heap.objs.size (.lst [])) b:=fun b G=>by
  obtain ⟨g0,g1⟩:=f2 b G;exact ⟨by rw [Qn (E5 (b7 b G))]; exact g0,g1⟩
 have k3:∀ b o,O.heap.get? b=some o->U.heap.get? b=some o:=fun b o e=>by rw [c6]; exact O1 _ e
 obtain ⟨a2,a5⟩:∃ a2,af (U.heap.objs.size + 1) sc.names cl=a2:=⟨_,rfl⟩;obtain ⟨Y,a1⟩:∃ Y,pushCells (U.heap.push { cls:=.type "dict",data:=.dict #[] }) sc.names=Y:=⟨_,rfl⟩;have k1:∀ b o,U.heap.get? b=some o->Y.get? b=some o:=fun b o e=>by rw [<- a1]; exact pushCells_keeps _ _ b o (O1 _ e)
 have e4:∀ x c,a2.lookup x=some c->cl.lookup x=some c\/U.heap.objs.size + 1<=c:=fun x c e=>by
  rw [<- a5] at e;have:=Xc (sc.names) (U.heap.push { cls:=.type "dict",data:=.dict #[] }) cl x c (by rw [F9]; exact e);rcases this with z | ⟨_,z,_⟩
  ·exact .inl z
  ·rw [F9] at z; exact .inr z
 have I4:Inv (Vk X N' sc a2 U.heap.objs.size U (upd H2 O.heap.objs.size (.lst [])) fp) [] (Q2m cap σ) (upd H2 O.heap.objs.size (.lst [])) { U with heap:=Y }:=by
  rw [<- a5,<- a1];exact Qmd I3 hN hE ck c1 c2 f3 (fun b G=>D4 (b7 b G) (by rw [hsz]; exact Nat.le_succ _))
 have d4:tn 0 Y:=T.keep _ _ _ c7 fun b G o e=>k1 b o (k3 b o e)
 generalize j:Vk X N' sc a2 U.heap.objs.size U (upd H2 O.heap.objs.size (.lst [])) fp=Z at I4;have c5:Z.xe=fun _ _=>False:=by rw [<- j]; rfl
 have B:Z.prog=X.prog:=by rw [<- j]; rfl
 have a3:Z.w=X.w:=by rw [<- j]; rfl
 have d6:Z.K=X.K:=by rw [<- j]; rfl
 have a7:Z.A=X.A:=by rw [<- j]; rfl
 have c8:Z.calm=true:=by rw [<- j]; exact c3
 have b3:Z.env=compEnvC sc a2 U.heap.objs.size X.env:=by rw [<- j]; rfl
 have b2:Z.env.locals=U.heap.objs.size:=by rw [b3]; rfl
 have d8:PG Z tg g:=by rw [<- j]; exact hg _ _ _ _ _
 have e8:PE Z elt te:=by rw [<- j]; exact he _ _ _ _ _
 have c9:PTs Z ifs tt:=by rw [<- j]; exact e6 _ _ _ _ _
 have a6:∀ {H':Hp},(∀ b∈fp,H' b=none)->∀ b∈fp,Q74 Z [] H' b:=fun {H'} hn b G=>by
  obtain ⟨_,g1,g2,g3,g4,g5⟩:=f3 b G;refine ⟨hn b G,by rw [b2,hsz]; exact E5 (Nat.lt_succ_of_lt (b7 b G)),?_,?_,?_,fun p hp=>?_⟩
  ·rw [<- j];intro z;rcases D3.mp (I3.stkSub b z) with e | z
   ·exact g1 e
   ·exact g2 z
  ·left
   rw [<- j];exact G
  ·intro x c e;rw [b3] at e;rcases e4 x c e with z | z
   ·exact g4 x c (c1 x c z)
   ·exact fun q=>absurd (D4 (b7 b G) (F0 (F0 (Nat.le_succ _) (hsz ▸ Nat.le_succ _)) (q ▸ z))) (Nat.lt_irrefl _)
  ·rw [<- j] at hp;cases hp
 have d3:∀ {b0:St} {H':Hp} {s':aC},Inv Z [] b0 H' s'->Q (.ref O.heap.objs.size) H'->compPost (aI X.prog X.w) X.A X.xe use QQ (.ref O.heap.objs.size) U.heap.objs.size (.ok .next) s':=fun {b0 H' s'} J q=>by
  obtain ⟨mm,d1,_⟩:=J.loc;rw [b2] at d1;have c4:H' U.heap.objs.size=none:=by have:=J.free; rw [b2] at this; exact this
  have hok:=J.hok;rw [B,a3] at hok;have u1:Un (frs X.stack) fp (upd H2 O.heap.objs.size (.lst [])) H' U.heap s'.heap:=by
   have:=J.base;rw [<- j] at this;exact this
  have e7:s'.os=U.os:=by have:=J.os; rw [<- j] at this; exact this
  refine fin _ _ H' s' mm (I3.call' (s':=s') e7 u1 hok J.bare fun b G=>?_) d1 (I3.fpOk (O6 _) c4) q
  obtain ⟨_,g1,g2,g3,g4,g5⟩:=f3 b G;exact ⟨g3,g1,g4,g5⟩
 have a4:codeAny (aI X.prog X.w) X.A (.compLoop (.ListComp elt [⟨tg,iter,ifs,0⟩] sc pos) 0 (.ref it) (.ref O.heap.objs.size) Z.env)
   (compPost (aI X.prog X.w) X.A X.xe use QQ (.ref O.heap.objs.size) U.heap.objs.size) { U with heap:=Y }:=by
  refine Q7m (fun n s'=>∃ i ys b0 H',Inv Z [] b0 H' s'/\tn i s'.heap/\(∀ b∈fp,H' b=none)/\W i n ys b0 H') ?_ m0 ⟨0,[],_,_,I4,d4,fun b G=>(f3 b G).1,w0⟩
  rintro n s5 ⟨i,ys,b6,H5,I5,d5,d0,w5⟩;obtain ⟨f5,q⟩:=turn i n ys b6 H5 w5;rcases q with ⟨stop,q⟩ | ⟨go,f4,step⟩
  ·refine thn (a7 ▸ T.done Z B a3 d6 c8 i [] s5 b6 H5 _ I5 (a6 d0) d5 stop) fun r s6 ⟨hr,I6⟩=>?_
   subst hr;exact d3 I6 q
  ·refine thn (a7 ▸ T.item Z B a3 d6 c8 i [] s5 b6 H5 _ I5 (a6 d0) d5 go) fun r s6 ⟨u,hr,h6⟩=>?_
   subst hr;refine thn h6 fun _ s7 ⟨x,H7,I7,r7,y7,a8,f1⟩=>?_
   have e9:=I7.pinned (a6 f1) (T.obj _ _ a8);have g7:=d8 _ s7 b6 H7 x u _ e9 r7 (step x H7 y7);rw [B,a3,a7,c5] at g7;refine thn g7 fun _ s8 ⟨b1,H8,I8,q8⟩=>?_
   have t8:=c9 _ s8 b1 H8 _ I8 q8;rw [B,a3,a7,c5] at t8;refine thn t8 fun f0 d9 ⟨e0,b4,b5⟩=>?_
   cases f0 with
   | false=>
    rw [bS D1] at b5 ⊢;obtain ⟨m',b9,w9⟩:=b5;refine ⟨m',b9,i + 1,_,b1,_,b4.unpinned,T.keep _ _ _ a8 fun b G o eo=>(b4.pin (b,o) (E6 _ (E6 _ (Xv G eo)))).1,fun b G=>?_,w9⟩;obtain ⟨o,eo,d⟩:=T.obj _ _ a8 b G;exact (b4.pin (b,o) (E6 _ (E6 _ (Xv G eo)))).2.1
   | true=>
   rw [bQ rfl] at b5 ⊢;have g8:=e8 _ d9 b1 e0 _ b4 b5;rw [B,a3,a7,c5] at g8;refine thn g8 fun y s9 ⟨yv,H9,I9,r9,a9,m',b9,w9⟩=>?_
   obtain ⟨z,its,nn,rr,hl,e⟩:=I9.lstM a9;refine bA F.slot_list_append ⟨_,e,rfl⟩ F.entry_list_append (F.args_list_append_2 _ _) (PySem.list_append _ its.toArray nn y (by rw [O4]; omega)) ⟨e,?_⟩;have c0:Inv Z ([] ++ Q5e fp s7.heap) b1 (upd H9 O.heap.objs.size (.lst (ys ++ [yv]))) { s9 with heap:=s9.heap.update O.heap.objs.size (Obj.mapSeq fun a=>a.push y) }:=
    I9.lset (t':=s9.toks) (its':=its ++ [y]) a9 e (by simp) (rr.append (.cons r9 .nil)) (by rw [D7,List.length_singleton]; omega)
   refine ⟨m',b9,i + 1,_,b1,_,c0.unpinned,T.keep _ _ _ a8 fun b G o eo=>(c0.pin (b,o) (E6 _ (E6 _ (Xv G eo)))).1,fun b G=>?_,w9⟩;obtain ⟨o,eo,d⟩:=T.obj _ _ a8 b G;exact (c0.pin (b,o) (E6 _ (E6 _ (Xv G eo)))).2.1
 rw [b3] at a4;have b8:=codeAny_compStart_list (rest:=[]) (ifs:=ifs) a4 (T.self X.A 0 _ _ _ d4 a4);subst d2;rw [<- a5,<- a1] at b8;exact b8
theorem Qjj {elt tg iter:aD} {ifs:List aD} {U:TT} {pos:Pos} {N N':List Str} {sc scE:Scope} {cap:List (Option Nat)} {O:TI} {g:TG} {te:TE} (j:X.calm=true) (hi:PI X tg iter O)
  (Z:∀ cl C z H0 ex,PG (Vk X N' sc cl C z H0 ex) tg g) (he:∀ cl C z H0 ex,PE (Vk X N' sc cl C z H0 ex) elt te) (B:∀ cl C z H0 ex,PTs (Vk X N' sc cl C z H0 ex) ifs U)
  (hN:X.N=N:=by rfl) (hE:X.env.scope=scE:=by rfl) (hc:compOkC N N' sc scE cap=true:=by decide +kernel) (hs:∀ x,bC iter X.env x=pure x:=by intro _; rfl) :
  PE X (.ListComp elt [⟨tg,iter,ifs,0⟩] sc pos) (Q96 cap O g U te):=by
 intro pins s σ H Q I h;rw [eval_ListComp];refine Q6t (use:=none) j hi Z he B hN hE hc hs I h fun J C H' s' m I' hm hf q=>⟨m,hm,fun h' G=>?_⟩
 obtain ⟨f0,f1,f2,f3,f4,f5⟩:=hf;exact ⟨.ref J,H',I'.turned (t':=s'.toks) (fun b o Y e=>(G.2 b Y).trans e) f0 f1 f3 f4 f5,rfl,q⟩
theorem Qbr {ifs:List aD} {tt:TT} {i:Nat} {x:Str} {O j:Pos} {elt tg iter:aD} {pos:Pos} {N N':List Str} {sc scE:Scope} {cap:List (Option Nat)} {wi:TI} {g:TG} {te:TE} (Z:X.N.Nodup) (a2:X.N[i]?=some x) (hx:Loc X.env.scope x) (B:X.calm=true) (hi:PI X tg iter wi)
  (hg:∀ cl C J H0 ex,PG (Vk X N' sc cl C J H0 ex) tg g) (he:∀ cl C J H0 ex,PE (Vk X N' sc cl C J H0 ex) elt te) (a3:∀ cl C J H0 ex,PTs (Vk X N' sc cl C J H0 ex) ifs tt)
  (a1:swapsWith (.ListComp elt [⟨tg,iter,ifs,0⟩] sc pos) (some (.Name x O)) j.line X.env=pure true:=by rfl)
  (hN:X.N=N:=by rfl) (hE:X.env.scope=scE:=by rfl) (hc:compOkC N N' sc scE cap=true:=by decide +kernel) (hs:∀ x,bC iter X.env x=pure x:=by intro _; rfl)
  (hf:X.fn x=true\/X.env.scope.names.lookup x=some .local:=by first | exact .inl rfl | exact .inr rfl | assumption) :
  PS X (.Assign [.Name x O] (.ListComp elt [⟨tg,iter,ifs,0⟩] sc pos) j) (Qmw (Q96 cap wi g tt te) (Q8h i)):=by
 intro pins s σ H D I h;rw [exec_Assign_Name_used _ _ _ _ a1];refine aF (wpAny_standAt (aF ?_));show aH _ _ (do let _ <- comprehension (.ListComp elt [⟨tg,iter,ifs,0⟩] sc pos) sc X.env _ (newList []) false (aQ iter X.env) (some (assign (.Name x O) X.env))) _ _ s;refine aF (ak (Q6t (use:=some (assign (.Name x O) X.env)) (QQ:=fun _ s'=>SP X pins D .next s') B hi hg he a3 hN hE hc hs I h ?_) (fun _ s' hq=>aO (aO hq)) fun _ _ e=>e)
 intro U C H' s' m I' hm Y q;obtain ⟨f0,f1,f2,f3,f4,f5⟩:=Y;show aH _ _ (assign (.Name x O) X.env (.ref U)) _ _ _;refine wpAny_assign_Name (Q7t I' Z a2 hx (v:=.ref U) rfl (fun s2 I2 ⟨a,sb,G⟩=>⟨m,?_,fun h' a4=>?_⟩) hf)
 ·refine hm.sameBut sb fun z=>?_
  rcases G with G | G
  ·exact f1 (z.trans G)
  ·exact f4 x a G z.symm
 ·exact ⟨_,H',I2.turned (t':=s2.toks) (fun b o hb e=>(a4.2 b hb).trans e) f0 f1 f3 f4 f5,q⟩
end
section
variable {X:Cx} {e e3:aD} {te t3:TE} {pos p2:Pos}
end
section
variable {X:Cx} {a:aD} {ta:TA} {p p' pos pos':Pos}
end
section
variable {X:Cx}
end
section
variable {κ:Type} [DecidableEq κ]
def Qd5 (kvs:List (κ × V)) (k:κ):Option V:=(kvs.find? fun kv=>decide (kv.1=k)).map (·.2)
def Q1b (kvs:List (κ × V)) (k:κ) (v:V):List (κ × V):=
 if (kvs.any fun kv=>decide (kv.1=k))=true then kvs.map (fun kv=>if kv.1=k then (kv.1,v) else kv) else kvs ++ [(k,v)]
theorem Qb0 {p:κ × V} {r:List (κ × V)} {k:κ} (e:p.1=k):Qd5 (p :: r) k=some p.2:=by simp [Qd5,List.find?_cons,e]
theorem Qb1 {p:κ × V} {r:List (κ × V)} {k:κ} (e:¬ p.1=k):Qd5 (p :: r) k=Qd5 r k:=by simp [Qd5,List.find?_cons,e]
theorem Qb2 (k:κ):∀ kvs:List (κ × V),(kvs.any fun j=>decide (j.1=k))=(Qd5 kvs k).isSome
 | []=>rfl
 | p :: r=>by
  rw [List.any_cons]
  by_cases e:p.1=k
  ·simp only [Qb0 e,bU e,Bool.true_or,Option.isSome_some]
  ·rw [Qb1 e,bT e,Bool.false_or]; exact Qb2 k r
theorem Q3x (kvs:List (κ × V)) (k:κ) (v:V):(Q1b kvs k v).length<=kvs.length + 1:=by
 unfold Q1b
 split
 ·rw [O0]; omega
 ·rw [D7,F4,List.length_nil]; omega
theorem RelO.isSome_eq {o:Option V} {u:Option aB} (r:RelO o u):o.isSome=u.isSome:=by
 cases o with
 | none=>cases u with
  | none=>rfl
  | some _=>exact (show False from r).elim
 | some _=>cases u with
  | none=>exact (show False from r).elim
  | some _=>rfl
theorem KV.any {kvs:List (κ × V)} {vs:List (κ × aB)} (r:KV kvs vs) (k:κ):(kvs.any fun j=>decide (j.1=k))=vs.any fun j=>decide (j.1=k):=by
 unfold KV at r
 induction r with
 | nil=>rfl
 | cons h t z=>rw [List.any_cons,List.any_cons,z,h.1]
theorem KV.repl {kvs:List (κ × V)} {vs:List (κ × aB)} (r:KV kvs vs) (k:κ) {y:V} {u:aB} (G:RelV y u) :
  KV (kvs.map fun j=>if j.1=k then (j.1,y) else j) (vs.map fun j=>if j.1=k then (j.1,u) else j):=by
 unfold KV at r ⊢
 induction r with
 | nil=>exact .nil
 | @cons p q ps I h t B=>
  rw [D2,D2];refine .cons ?_ B;obtain ⟨h1,h2⟩:=h
  by_cases e:p.1=k
  ·rw [bQ e,bQ (h1.symm.trans e)]; exact ⟨h1,G⟩
  ·rw [bS e,bS (fun z=>e (h1.trans z))]; exact ⟨h1,h2⟩
theorem KV.put {kvs:List (κ × V)} {vs:List (κ × aB)} (r:KV kvs vs) (k:κ) {y:V} {u:aB} (j:RelV y u):KV (Q1b kvs k y) (stored vs k u):=by
 unfold Q1b stored;rw [r.any k]
 by_cases e:(vs.any fun z=>decide (z.1=k))=true
 ·rw [bQ e,bQ e]; exact r.repl k j
 ·rw [bS e,bS e]; exact Paired.snoc r ⟨rfl,j⟩
theorem KV.length {kvs:List (κ × V)} {vs:List (κ × aB)} (r:KV kvs vs):kvs.length=vs.length:=Paired.length r
end
theorem Qr6 {P:aL} {w:aK} {k:Key} {u:aB} (r:RelV (kV k) u):(Vb P w).is k u=true:=by
 cases k with
 | inl i=>obtain ⟨t,e⟩:=(show ∃ t,u=Value.int i t from r); subst e; exact Qc6 P w i t
 | inr x=>obtain ⟨t,e⟩:=(show ∃ t,u=Value.str x t from r); subst e; exact Qc5 P w x t
theorem Q8g {P:aL} {w:aK}:∀ {ks:List Key} {j:List aB},Vals (ks.map kV) j->ItemsAre (Vb P w) ks j
 | [],_,r=>by rw [List.map_nil] at r; cases r; exact .nil
 | k :: ks,_,r=>by
  rw [D2] at r;cases r with
  | cons h t=>exact .cons (Qr6 h) (Q8g t)
abbrev KT (H:Hp):List (List Key × V)->List (List Key × aA × aB)->Prop:=ae fun p q=>p.1=q.1/\H q.2.1=some (.tup (p.1.map kV))/\RelV p.2 q.2.2
theorem KT.val {H:Hp} {kvs:List (List Key × V)} {xs:List (List Key × aA × aB)} (r:KT H kvs xs) (k:List Key):RelO (Qd5 kvs k) ((atKey xs k).map (·.2)):=by
 induction r with
 | nil=>exact True.intro
 | @cons p q ps j h t G=>
  obtain ⟨h1,_,h2⟩:=h
  by_cases e:p.1=k
  ·have B:q.1=k:=h1.symm.trans e;have b:atKey (q :: j) k=some q.2:=by simp [atKey,List.find?_cons,B]
   rw [Qb0 e,b]; exact h2
  ·have B:¬ q.1=k:=fun z=>e (h1.trans z)
   have b:atKey (q :: j) k=atKey j k:=by simp [atKey,List.find?_cons,B]
   rw [Qb1 e,b]; exact G
theorem KT.repl {H:Hp} {kvs:List (List Key × V)} {xs:List (List Key × aA × aB)} (r:KT H kvs xs) (k:List Key) {y:V} {u:aB} (I:RelV y u) :
  KT H (kvs.map fun j=>if j.1=k then (j.1,y) else j) (xs.map (putAt k u)):=by
 induction r with
 | nil=>exact .nil
 | @cons p q ps J h t G=>
  rw [D2,D2];refine .cons ?_ G;obtain ⟨h1,h2,B⟩:=h;unfold putAt
  by_cases e:p.1=k
  ·rw [bQ e,bQ (h1.symm.trans e)]; exact ⟨h1,h2,I⟩
  ·rw [bS e,bS (fun z=>e (h1.trans z))]; exact ⟨h1,h2,B⟩
theorem KT.put {H:Hp} {kvs:List (List Key × V)} {xs:List (List Key × aA × aB)} (r:KT H kvs xs) (k:List Key) {b:aA} {y:V} {u:aB} (B:H b=some (.tup (k.map kV))) (j:RelV y u) :
  KT H (Q1b kvs k y) (storedH xs k b u):=by
 have e:(kvs.any fun z=>decide (z.1=k))=(atKey xs k).isSome:=by
  rw [Qb2,(r.val k).isSome_eq,Option.isSome_map]
 unfold Q1b storedH;rw [e]
 by_cases q:(atKey xs k).isSome=true
 ·rw [bQ q,bQ q]; exact r.repl k j
 ·rw [bS q,bS q]; exact Paired.snoc r ⟨rfl,B,j⟩
theorem KT.keeps {H H':Hp} {kvs:List (List Key × V)} {xs:List (List Key × aA × aB)} (r:KT H kvs xs) (j:∀ b ys,H b=some (.tup ys)->H' b=some (.tup ys)):KT H' kvs xs:=
 Paired.mapP r fun _ _ z=>⟨z.1,j _ _ z.2.1,z.2.2⟩
section
variable {P:aL} {w:aK} {H:Hp} {h:Heap} {a:aA}
theorem Qqw {u:HO} (ok:HOk P w H h) (e:Rd H a u):ObjOk P w H h a u:=e.ok ok
theorem Qwq {kvs:List (Key × V)} (ok:HOk P w H h) (e:Rd H a (.dK kvs)):kvs.length<=sizeLine/\(a == ag)=false/\∃ vs,KV kvs vs/\h.DictOf (Vb P w) a vs:=
 show ObjOk P w H h a (.dK kvs) from Qqw ok e
theorem Qwr {kvs:List (Key × V)} (ok:HOk P w H h) (e:H a=some (.dK kvs)):kvs.length<=sizeLine/\(a == ag)=false/\∃ vs,KV kvs vs/\h.DictOf (Vb P w) a vs:=Qwq ok (.inl e)
theorem Qka {ks:List Key} (ok:HOk P w H h) (e:H a=some (.tup (ks.map kV))):(tupleKind (Vb P w)).is h ks a:=by
 obtain ⟨_,its,r,o,h1,h2,n,j⟩:=(show ObjOk P w H h a (.tup (ks.map kV)) from ok a _ e);exact ⟨o,its.toArray,n,h1,h2,j,by simpa using Q8g r⟩
theorem Qwn {kvs:List (List Key × V)} (ok:HOk P w H h) (e:Rd H a (.dT kvs)):kvs.length<=sizeLine/\(a == ag)=false /\
  ∃ xs,KT H kvs xs/\h.DictOfH (tupleKind (Vb P w)) a xs:=by
 obtain ⟨z,y,xs,r,o,es,ep,h1,h2,G,O,I⟩:=(show ObjOk P w H h a (.dT kvs) from Qqw ok e);refine ⟨z,y,xs,r,o,es,ep,h1,h2,G,O,fun x j=>?_,I⟩;have all:∀ {l:List (List Key × V)} {m:List (List Key × aA × aB)},KT H l m->∀ x∈m,(tupleKind (Vb P w)).is h x.1 x.2.1:=by
  intro l m q
  induction q with
  | nil=>intro x j; exact nomatch j
  | @cons p q ps U B t J=>
   intro x j;rcases D3.mp j with e | j
   ·subst e;exact Qka ok (by rw [<- B.1]; exact B.2.1)
   ·exact J x j
 exact all r x j
theorem Qwp {kvs:List (List Key × V)} (ok:HOk P w H h) (e:H a=some (.dT kvs)):kvs.length<=sizeLine/\(a == ag)=false /\
  ∃ xs,KT H kvs xs/\h.DictOfH (tupleKind (Vb P w)) a xs:=Qwn ok (.inl e)
end
def DPut (H:Hp) (a:aA) (y v:V) (H':Hp):Prop:=
 (∃ kvs k,H a=some (.dK kvs)/\y=kV k/\kvs.length < sizeLine/\H'=upd H a (.dK (Q1b kvs k v))) \/
 ∃ kvs k b,H a=some (.dT kvs)/\y=.ref b/\H b=some (.tup (k.map kV))/\kvs.length < sizeLine/\H'=upd H a (.dT (Q1b kvs k v))
theorem DPut.t {H:Hp} {a b:aA} {kvs:List (List Key × V)} {k:List Key} {v:V} (e:H a=some (.dT kvs)) (j:H b=some (.tup (k.map kV))) (hl:kvs.length < sizeLine) :
  DPut H a (.ref b) v (upd H a (.dT (Q1b kvs k v))):=.inr ⟨kvs,k,b,e,rfl,j,hl,rfl⟩
section
variable {X:Cx} {pins:List (aA × Obj)} {σ:St} {H:Hp} {s:aC} {a:aA} {y v:V} {u r:aB} {o:Option V} {A:aN} {E:aB->aC->Prop}
theorem Inv.big (I:Inv X pins σ H s):ag < s.heap.objs.size:=by
 have h:aR < s.heap.objs.size:=(I.mod.glob.keeps I.bk).lt;exact Nat.lt_trans (by decide) h
theorem Qft {h':Heap} {t':Nat} {ob:HO} (I:Inv X pins σ H s) (G:Mut (H a)) (hs:Heap.SameBut a s.heap h') (j:∃ q,h'.get? a=some q) (new:ObjOk X.prog X.w (upd H a ob) h' a ob) :
  Inv X pins σ (upd H a ob) { s with heap:=h',toks:=t' }:=
 I.write (x:=a) (e:=a) G (.inl rfl) (fun b q B z=>(hs.2 b B).trans z) j new
theorem Qte {P:aL} {w:aK} {H':Hp} {h':Heap} {kvs:List (Key × V)} {vs:List (Key × aB)} (z:kvs.length<=sizeLine) (hd:(a == ag)=false) (j:KV kvs vs) (dd:h'.DictOf (Vb P w) a vs) :
  ObjOk P w H' h' a (.dK kvs):=⟨z,hd,vs,j,dd⟩
theorem Qhm {H':Hp} {Q:Unit->aC->Prop} (hu:A.units + 1 < aW) (I:Inv X pins σ H s) (g:DPut H a y v H') (Y:RelV y u) (rv:RelV v r) (h:∀ s',Inv X pins σ H' s'->Q () s') :
  aH (aI X.prog X.w) A (setItem (.ref a) u r) Q E s:=by
 rcases g with ⟨kvs,k,e,U,l,J⟩ | ⟨kvs,k,b,e,U,eb,l,J⟩
 ·subst U J;obtain ⟨z,hd,vs,j,dd⟩:=Qwr I.hok e;have O:vs.length<=sizeLine:=by rw [<- j.length]; exact z
  have hl:(Q1b kvs k v).length<=sizeLine:=by have:=Q3x kvs k v; omega
  refine wpAny_setItem_pairs (hsz:=O) (Qr6 Y) dd fun h' B hs=>h _ ?_
  have he:∃ q,h'.get? a=some q:=let ⟨q,_,_,G,_⟩:=B; ⟨q,G⟩;exact Qft I (by rw [e]; exact True.intro) hs he (Qte hl hd (j.put k rv) B)
 ·subst U J;cases (show u=Value.ref b from Y);obtain ⟨z,hd,xs,j,dd⟩:=Qwp I.hok e;have O:xs.length<=sizeLine:=by rw [<- Paired.length j]; exact z
  have hl:(Q1b kvs k v).length<=sizeLine:=by have:=Q3x kvs k v; omega
  refine wpAny_setItem_heap (hsz:=O) (tupleKind_room_in1 hu) (Qka I.hok eb) dd fun h' B hs=>h _ ?_
  obtain ⟨q,es,ep,G,h2,h3,h4,_,h5⟩:=B;refine Qft I (by rw [e]; exact True.intro) hs ⟨q,G⟩ ⟨hl,hd,_,(j.put k eb rv).keeps fun c ys Z=>?_,q,es,ep,G,h2,h3,h4,h5⟩;rw [Qn (Qvu Z e (fun z=>nomatch z))];exact Z
end
section
variable {X:Cx} {pins:List (aA × Obj)} {σ:St} {H:Hp} {s:aC} {a:aA} {kvs:List (Key × V)} {k:Key} {u:aB} {A:aN} {E:aB->aC->Prop}
end
def Qv0 (td ty tv:TE):TS:=fun D σ H=>tv σ H fun v H1=>td σ H1 fun x H2=>ty σ H2 fun y H3=>∃ a H4,x=.ref a/\DPut H3 a y v H4/\D.nx σ H4
section
variable {X:Cx} {o i e value:aD} {pos pos' tpos:Pos} {td ty tv:TE}
theorem Qns (hu:X.A.units + 1 < aW) (ho:PE X o td) (hi:PE X i ty) (Y:PE X value tv) (hs:swapsWith value (some (.Subscript o i pos')) pos.line X.env=pure false) :
  PS X (.Assign [.Subscript o i pos'] value pos) (Qv0 td ty tv):=by
 intro pins s σ H D I h;refine wpAny_Assign_Subscript (thn (Y pins s σ H _ I h) fun r B ⟨v,H1,I1,U,q1⟩=>thn (ho pins B σ H1 _ I1 q1) fun u j ⟨x,H2,O,G,q2⟩=>thn (hi pins j σ H2 _ O q2) fun iv s3 ⟨y,H3,I3,Z,a,J,ex,g,q3⟩=>?_) hs
 subst ex;obtain rfl:u=Value.ref a:=G;exact Qhm hu I3 g Z U fun s4 z=>⟨σ,J,z,q3⟩
end
theorem Qkt {P:aL} {w:aK} {H:Hp} (h:Heap) (j:ag < h.objs.size):ObjOk P w H (h.push { cls:=.type "dict",data:=.dict #[] }) h.objs.size (.dT []):=
 ⟨Nat.zero_le _,beq_eq_false_iff_ne.mpr (Ne.symm (E5 j)),[],.nil,_,#[],0,D0 _ rfl,⟨rfl,rfl,rfl⟩,rfl,rfl,List.nodup_nil⟩
def Qrk:TE:=fun _ H Q=>∀ p,H p=none->Q (.ref p) (upd H p (.dT []))
section
variable {X:Cx} {pos:Pos}
theorem Qji:PE X (.Dict [] [] pos) Qrk:=fun pins s σ H Q I h=>
 wpAny_Dict_empty ⟨.ref s.heap.objs.size,_,I.laid (a:=s.heap.objs.size) (o:=.dT []) (t':=s.toks) (fun _ _ q=>O1 _ q) (O6 _) (Qkt s.heap I.big),rfl,h _ (I.hok.fresh (O6 _))⟩
end
structure M1 (X:Cx) (o:aD) (m:Str) (apos:Pos) (e:aD) (cpos:Pos):Prop where
 base:bH o m X.env (aQ o X.env)=aQ o X.env
 few:((aU cpos (aP [e] X.env)).all (fun x=>!x.1) && (backToKw cpos (keywordEach [] X.env)).all (fun x=>x.1.isSome)
  && decide (([e]:List aD).length + ([]:List Keyword).length + (if ([]:List Keyword).isEmpty then 0 else 1) < 30))=true
 line:(apos.endLine == cpos.line)=true
 trees:aU cpos (aP [e] X.env)=[(false,aQ e X.env)]
structure M2 (X:Cx) (o:aD) (m:Str) (apos:Pos) (e f:aD) (cpos:Pos):Prop where
 base:bH o m X.env (aQ o X.env)=aQ o X.env
 few:((aU cpos (aP [e,f] X.env)).all (fun x=>!x.1) && (backToKw cpos (keywordEach [] X.env)).all (fun x=>x.1.isSome)
  && decide (([e,f]:List aD).length + ([]:List Keyword).length + (if ([]:List Keyword).isEmpty then 0 else 1) < 30))=true
 line:(apos.endLine == cpos.line)=true
 trees:aU cpos (aP [e,f] X.env)=[(false,aQ e X.env),(false,aQ f X.env)]
section
variable {X:Cx} {pins:List (aA × Obj)} {σ:St} {H:Hp} {s:aC} {a:aA} {y d:V} {u r:aB} {o:Option V} {A:aN} {E:aB->aC->Prop}
end
section
variable {X:Cx} {o e f:aD} {apos cpos:Pos} {td ty tx:TE}
end
section
variable {X:Cx} {pins:List (aA × Obj)} {σ:St} {H:Hp} {s:aC} {a:aA} {kvs:List (Key × V)} {A:aN} {E:aB->aC->Prop}
end
section
variable {X:Cx} {pins:List (aA × Obj)} {σ:St} {H:Hp} {s:aC} {a:aA} {y:V} {u:aB} {A:aN} {E:aB->aC->Prop}
end
section
variable {X:Cx}
end
section
open AutoSeq1 (wpAny_loadPart')
section
variable {prog:aL} {w:aK} {A:aN} {E:aB->aC->Prop} {s:aC}
end
section
variable {prog:aL} {w:aK} {A:aN} {E:aB->aC->Prop} {s:aC}
end
section
variable {X:Cx} {a:aD} {ta:TA} {p p' pos pos':Pos}
end
end
section
variable {prog:aL} {w:aK} {A:aN} {E:aB->aC->Prop} {s:aC}
end
section
variable {X:Cx} {e e3:aD} {te t3:TE} {pos p2:Pos}
end
section
variable {prog:aL} {w:aK} {K:Type} [DecidableEq K] {knd:KeyKind prog w K} {A:aN} {R:Result->aC->Prop}
end
section
variable {X:Cx} {pins:List (aA × Obj)} {σ:St} {H:Hp} {s:aC} {a:aA} {tg:aD}
end
end L2
namespace L2
open PySem PySem.Spec PyProof.Rows PySem.W
def evT {α:Type} (c:Nat->Nat->Bool):KasT α->α
 | .ret a=>a
 | .ask i j k=>evT c (k (c i j))
theorem zd {α β:Type} (c:Nat->Nat->Bool) (f:α->KasT β):∀ t:KasT α,evT c (t.bind f)=evT c (f (evT c t))
 | .ret _=>rfl
 | .ask i j k=>zd c f (k (c i j))
section
variable (r:Nat->Nat)
def rk (p:Array Nat) (i:Nat):Nat:=r (p.getD i 0)
def cR:Nat->Nat->Bool:=fun i j=>decide (r i < r j)
variable {r}
theorem Qbk {p q:Array Nat} {i j:Nat} (h:p[i]?=q[j]?):rk r p i=rk r q j:=by
 unfold rk;rw [Array.getD_eq_getD_getElem?,Array.getD_eq_getD_getElem?,h]
theorem Qdh {p:Array Nat} {i j:Nat} (z:j<=p.size) (k:Nat):rk r (kas_rev p i j) k=if i<=k/\k < j then rk r p (i + j - 1 - k) else rk r p k:=by
 have h:=getElem?_mirror_all (xs:=p) (i:=i) z k
 by_cases q:i<=k/\k < j
 ·rw [bQ q] at h ⊢; exact Qbk h
 ·rw [bS q] at h ⊢; exact Qbk h
theorem Qiv {p:Array Nat} {src d:Nat} (hs:src < p.size) (hd:d<=src) (k:Nat):rk r (bubble p src d) k=if k=src - d then rk r p src else if src - d < k/\k<=src then rk r p (k - 1) else rk r p k:=by
 have h:=getElem?_bubble hs d hd k
 by_cases q:k=src - d
 ·rw [bQ q] at h ⊢; exact Qbk h
 ·rw [bS q] at h ⊢
  by_cases q2:src - d < k/\k<=src
  ·rw [bQ q2] at h ⊢; exact Qbk h
  ·rw [bS q2] at h ⊢; exact Qbk h
theorem Q22 {p:Array Nat} (i j:Nat):(kas_rev p i j).size=p.size:=mirror_size _ _ _ _
theorem Uy {p:Array Nat} (i j:Nat):(kas_rev p i j).Perm p:=mirror_perm _ _ _ _
theorem Qef (p:Array Nat):∀ f n,1<=n->n<=evT (cR r) (kas_asc p f n)/\evT (cR r) (kas_asc p f n)<=n + f/\(∀ i,n<=i->i < evT (cR r) (kas_asc p f n)->rk r p (i - 1)<=rk r p i)/\(evT (cR r) (kas_asc p f n) < n + f->rk r p (evT (cR r) (kas_asc p f n)) < rk r p (evT (cR r) (kas_asc p f n) - 1))
 | 0,n,_=>⟨O6 _,O6 _,fun i h1 h2=>absurd h2 (by show ¬ i < n; omega),fun h=>absurd h (by show ¬ n < n + 0; omega)⟩
 | f + 1,n,I=>by
  have e:evT (cR r) (kas_asc p (f + 1) n)=if rk r p n < rk r p (n - 1) then n else evT (cR r) (kas_asc p f (n + 1)):=by
   show evT (cR r) (if decide (rk r p n < rk r p (n - 1))=true then KasT.ret n else kas_asc p f (n + 1))=_
   by_cases q:rk r p n < rk r p (n - 1)
   ·rw [bQ (by simpa using q),bQ q]; rfl
   ·rw [bS (by simpa using q),bS q]
  rw [e]
  by_cases q:rk r p n < rk r p (n - 1)
  ·rw [bQ q];exact ⟨O6 _,by omega,fun i h1 h2=>by omega,fun _=>q⟩
  ·rw [bS q];obtain ⟨h1,h2,j,B⟩:=Qef p f (n + 1) (by omega);refine ⟨by omega,by omega,fun i G g2=>?_,fun g=>B (by omega)⟩
   by_cases z:i=n
   ·subst z; omega
   ·exact j i (by omega) g2
theorem Q58 {p:Array Nat} {i j:Nat} (z:j<=p.size) (h:∀ k,i<=k->k < j->rk r p k=rk r p (j - 1)) (k:Nat):rk r (kas_rev p i j) k=rk r p k:=by
 rw [Qdh z]
 by_cases q:i<=k/\k < j
 ·rw [bQ q,h (i + j - 1 - k) (by omega) (by omega),h k q.1 q.2]
 ·rw [bS q]
structure Dsc (r:Nat->Nat) (p:Array Nat) (n q:Nat):Prop where
 n1:1<=n
 sz:n<=p.size
 qn:q + 1<=n
 de:∀ i,1<=i->i < n->rk r p i<=rk r p (i - 1)
 eq:∀ i,n - (q + 1)<=i->i < n->rk r p i=rk r p (n - 1)
theorem Q4p:∀ f (p:Array Nat) n q,Dsc r p n q->n + f<=p.size->Dsc r (evT (cR r) (kas_desc f p n q)).1 (evT (cR r) (kas_desc f p n q)).2.1 (evT (cR r) (kas_desc f p n q)).2.2/\(evT (cR r) (kas_desc f p n q)).1.Perm p/\n<=(evT (cR r) (kas_desc f p n q)).2.1/\(evT (cR r) (kas_desc f p n q)).2.1<=n + f
 | 0,p,n,q,h,_=>⟨h,Array.Perm.refl _,O6 _,O6 _⟩
 | f + 1,p,n,q,h,hs=>by
  have e:evT (cR r) (kas_desc (f + 1) p n q)=if rk r p n < rk r p (n - 1) then (if q > 0 then evT (cR r) (kas_desc f (kas_rev p (n - (q + 1)) n) (n + 1) 0) else evT (cR r) (kas_desc f p (n + 1) 0)) else if rk r p (n - 1) < rk r p n then (p,n,q) else evT (cR r) (kas_desc f p (n + 1) (q + 1)):=by
   show evT (cR r) (if decide (rk r p n < rk r p (n - 1))=true then (if q > 0 then kas_desc f (kas_rev p (n - (q + 1)) n) (n + 1) 0 else kas_desc f p (n + 1) 0) else KasT.ask (p.getD (n - 1) 0) (p.getD n 0) fun d=>if d=true then .ret (p,n,q) else kas_desc f p (n + 1) (q + 1))=_
   by_cases z:rk r p n < rk r p (n - 1)
   ·rw [bQ (by simpa using z),bQ z]
    split <;> rfl
   ·rw [bS (by simpa using z),bS z];show evT (cR r) (if decide (rk r p (n - 1) < rk r p n)=true then KasT.ret (p,n,q) else kas_desc f p (n + 1) (q + 1))=_
    by_cases G:rk r p (n - 1) < rk r p n
    ·rw [bQ (by simpa using G),bQ G]; rfl
    ·rw [bS (by simpa using G),bS G]
  rw [e]
  by_cases z:rk r p n < rk r p (n - 1)
  ·rw [bQ z]
   by_cases O:q > 0
   ·rw [bQ O];have J:=Q58 (r:=r) (p:=p) (i:=n - (q + 1)) (j:=n) h.sz h.eq;obtain ⟨h1,h2,I,U⟩:=Q4p f (kas_rev p (n - (q + 1)) n) (n + 1) 0 ⟨by omega,by rw [Q22]; omega,by omega,fun i B g2=>by
     rw [J,J]
     by_cases y:i=n
     ·subst y; omega
     ·exact h.de i B (by omega),fun i B g2=>by
     have:i=n:=by omega
     subst this; rfl⟩ (by rw [Q22]; omega)
    exact ⟨h1,h2.trans (Uy _ _),by omega,by omega⟩
   ·rw [bS O];obtain ⟨h1,h2,I,U⟩:=Q4p f p (n + 1) 0 ⟨by omega,by omega,by omega,fun i B g2=>by
     by_cases y:i=n
     ·subst y; omega
     ·exact h.de i B (by omega),fun i B g2=>by
     have:i=n:=by omega
     subst this; rfl⟩ (by omega)
    exact ⟨h1,h2,by omega,by omega⟩
  ·rw [bS z]
   by_cases G:rk r p (n - 1) < rk r p n
   ·rw [bQ G];exact ⟨h,Array.Perm.refl _,O6 _,by show n<=n + (f + 1); omega⟩
   ·rw [bS G];have Z:=h.n1;have Y:=h.qn;obtain ⟨h1,h2,I,U⟩:=Q4p f p (n + 1) (q + 1) ⟨by omega,by omega,by omega,fun i B g2=>by
     by_cases y:i=n
     ·subst y; omega
     ·exact h.de i B (by omega),fun i B g2=>by
     show rk r p i=rk r p n
     by_cases y:i=n
     ·rw [y]
     ·rw [h.eq i (by omega) (by omega)]; omega⟩ (by omega)
    exact ⟨h1,h2,by omega,by omega⟩
def Srt (r:Nat->Nat) (p:Array Nat) (m:Nat):Prop:=∀ i,1<=i->i < m->rk r p (i - 1)<=rk r p i
theorem Qen {p:Array Nat} {n nrem:Nat} (G:1<=n) (B:n<=nrem) (hs:nrem<=p.size) (hd:∀ i,1<=i->i < n->rk r p i<=rk r p (i - 1)) :
  1<=(evT (cR r) (kas_tail3 n nrem p)).1/\(evT (cR r) (kas_tail3 n nrem p)).1<=nrem/\Srt r (evT (cR r) (kas_tail3 n nrem p)).2 (evT (cR r) (kas_tail3 n nrem p)).1/\(evT (cR r) (kas_tail3 n nrem p)).2.Perm p:=by
 obtain ⟨h1,h2,j,_⟩:=Qef (r:=r) (kas_rev p 0 n) (nrem - n) n G;unfold kas_tail3;rw [zd];show 1<=evT (cR r) (kas_asc (kas_rev p 0 n) (nrem - n) n)/\_/\Srt r (kas_rev p 0 n) _/\(kas_rev p 0 n).Perm p;refine ⟨by omega,by show evT (cR r) (kas_asc (kas_rev p 0 n) (nrem - n) n)<=nrem; omega,fun i I g2=>?_,Uy _ _⟩
 by_cases z:i < n
 ·rw [Qdh (by omega),Qdh (by omega),bQ (by omega),bQ (by omega)];have:=hd (0 + n - 1 - (i - 1)) (by omega) (by omega);rw [show 0 + n - 1 - (i - 1) - 1=0 + n - 1 - i by omega] at this;exact this
 ·exact j i (by omega) g2
theorem Q43 {p:Array Nat} {n nrem:Nat} (hn:1<=n) (U:n < nrem) (hs:nrem<=p.size) (B:∀ i,i < n->rk r p i=rk r p (n - 1)) (Y:rk r p n < rk r p (n - 1)) :
  1<=(evT (cR r) (kas_descPart n nrem p)).1/\(evT (cR r) (kas_descPart n nrem p)).1<=nrem/\Srt r (evT (cR r) (kas_descPart n nrem p)).2 (evT (cR r) (kas_descPart n nrem p)).1/\(evT (cR r) (kas_descPart n nrem p)).2.Perm p:=by
 obtain ⟨D,P,O,Z⟩:=Q4p (r:=r) (nrem - (n + 1)) p (n + 1) 0 ⟨by omega,by omega,by omega,fun i I g2=>by
  by_cases y:i=n
  ·subst y; omega
  ·rw [B i (by omega),B (i - 1) (by omega)]; exact O6 _,fun i I g2=>by
  have:i=n:=by omega
  subst this; rfl⟩ (by omega)
 unfold kas_descPart;rw [zd];generalize evT (cR r) (kas_desc (nrem - (n + 1)) p (n + 1) 0)=x at *;obtain ⟨G,m,q⟩:=x;have sz:G.size=p.size:=P.size_eq;simp only at D P O Z;dsimp only
 by_cases z:q > 0
 ·rw [bQ z];have J:=Q58 (r:=r) (p:=G) (i:=m - (q + 1)) (j:=m) D.sz D.eq;obtain ⟨a,b,c,d⟩:=Qen (r:=r) (p:=kas_rev G (m - (q + 1)) m) (n:=m) (nrem:=nrem) D.n1 (by omega) (by rw [Q22]; omega) (fun i I g2=>by rw [J,J]; exact D.de i I g2);exact ⟨a,b,c,(d.trans (Uy _ _)).trans P⟩
 ·rw [bS z];obtain ⟨a,b,c,d⟩:=Qen (r:=r) (p:=G) (n:=m) (nrem:=nrem) D.n1 (by omega) (by omega) D.de;exact ⟨a,b,c,d.trans P⟩
theorem Srt.le {p:Array Nat} {m:Nat} (h:Srt r p m):∀ {i j:Nat},i<=j->j < m->rk r p i<=rk r p j:=by
 intro i j G
 induction j with
 | zero => intro _; have : i = 0 := by omega
           subst this; exact O6 _
 | succ j B=>
  intro I
  by_cases z:i=j + 1
  ·subst z; exact O6 _
  ·have h1:=B (by omega) (by omega);have h2:=h (j + 1) (by omega) I;rw [Nat.add_sub_cancel] at h2;exact F0 h1 h2
theorem Qky {p:Array Nat} {n:Nat} (hn:1<=n) (hs:n<=p.size) :
  1<=(evT (cR r) (kas_count n p)).1/\(evT (cR r) (kas_count n p)).1<=n/\Srt r (evT (cR r) (kas_count n p)).2 (evT (cR r) (kas_count n p)).1/\(evT (cR r) (kas_count n p)).2.Perm p:=by
 obtain ⟨h1,h2,O,Y⟩:=Qef (r:=r) p (n - 1) 1 (O6 _);unfold kas_count;rw [zd];generalize evT (cR r) (kas_asc p (n - 1) 1)=m at *;have S:Srt r p m:=fun i Z g2=>O i Z g2
 by_cases z:m=n
 ·subst z;rw [bQ (by simp)];exact ⟨h1,O6 _,S,Array.Perm.refl _⟩
 ·rw [bS (by simpa using z)];have B:=Y (by omega)
  by_cases I:m > 1
  ·rw [bQ I];show 1<=(evT (cR r) (if decide (rk r p 0 < rk r p (m - 1))=true then KasT.ret (m,p) else kas_descPart m n (kas_rev p 0 m))).1/\(evT (cR r) (if decide (rk r p 0 < rk r p (m - 1))=true then KasT.ret (m,p) else kas_descPart m n (kas_rev p 0 m))).1<=n/\Srt r (evT (cR r) (if decide (rk r p 0 < rk r p (m - 1))=true then KasT.ret (m,p) else kas_descPart m n (kas_rev p 0 m))).2 (evT (cR r) (if decide (rk r p 0 < rk r p (m - 1))=true then KasT.ret (m,p) else kas_descPart m n (kas_rev p 0 m))).1/\(evT (cR r) (if decide (rk r p 0 < rk r p (m - 1))=true then KasT.ret (m,p) else kas_descPart m n (kas_rev p 0 m))).2.Perm p
   by_cases J:rk r p 0 < rk r p (m - 1)
   ·rw [bQ (by simpa using J)];exact ⟨h1,by show m<=n; omega,S,Array.Perm.refl _⟩
   ·rw [bS (by simpa using J)];have eq:∀ i,i < m->rk r p i=rk r p (m - 1):=fun i hi=>by
     have a:=S.le (i:=0) (j:=i) (by omega) hi;have b:=S.le (i:=i) (j:=m - 1) (by omega) (by omega);omega
    have G:=Q58 (r:=r) (p:=p) (i:=0) (j:=m) (by omega) (fun k _ U=>eq k U);obtain ⟨a,b,c,d⟩:=Q43 (r:=r) (p:=kas_rev p 0 m) (n:=m) (nrem:=n) h1 (by omega) (by rw [Q22]; exact hs) (fun i hi=>by rw [G,G]; exact eq i hi) (by rw [G,G]; exact B);exact ⟨a,b,c,d.trans (Uy _ _)⟩
  ·rw [bS I];have:m=1:=by omega
   subst this;exact Q43 (r:=r) (O6 _) (by omega) hs (fun i hi=>by rw [show i=0 by omega]) B
theorem Q5d {p:Array Nat} {k:Nat} (S:Srt r p k):∀ f l q,l<=q->q<=k->q - l<=f->(∀ i,i < l->rk r p i<=rk r p k)->(∀ i,q<=i->i < k->rk r p k < rk r p i) ->
  evT (cR r) (kas_place p k f l q)<=k/\(∀ i,i < evT (cR r) (kas_place p k f l q)->rk r p i<=rk r p k)/\(∀ i,evT (cR r) (kas_place p k f l q)<=i->i < k->rk r p k < rk r p i)
 | 0,l,q,h1,h2,G,B,j=>by
  have:l=q:=by omega
  subst this;exact ⟨h2,B,j⟩
 | f + 1,l,q,h1,h2,G,B,j=>by
  by_cases z:l>=q
  ·have:l=q:=by omega
   subst this;have e:evT (cR r) (kas_place p k (f + 1) l l)=l:=by rw [kas_place,bQ (O6 _)]; rfl
   rw [e];exact ⟨h2,B,j⟩
  ·have e:evT (cR r) (kas_place p k (f + 1) l q)=if rk r p k < rk r p ((l + q) / 2) then evT (cR r) (kas_place p k f l ((l + q) / 2)) else evT (cR r) (kas_place p k f ((l + q) / 2 + 1) q):=by
    rw [kas_place,bS z];show evT (cR r) (if decide (rk r p k < rk r p ((l + q) / 2))=true then kas_place p k f l ((l + q) / 2) else kas_place p k f ((l + q) / 2 + 1) q)=_
    by_cases y:rk r p k < rk r p ((l + q) / 2)
    ·rw [bQ (by simpa using y),bQ y]
    ·rw [bS (by simpa using y),bS y]
   rw [e];have m1:l<=(l + q) / 2:=by omega
   have m2:(l + q) / 2 < q:=by omega
   generalize (l + q) / 2=mm at *
   by_cases y:rk r p k < rk r p mm
   ·rw [bQ y];exact Q5d S f l mm m1 (by omega) (by omega) B fun i I g2=>D4 y (S.le I g2)
   ·rw [bS y];exact Q5d S f (mm + 1) q (by omega) h2 (by omega) (fun i g=>F0 (S.le (show i<=mm by omega) (by omega)) (by omega)) j
theorem Qme:∀ f (p:Array Nat) k,1<=k->k + f<=p.size->Srt r p k->Srt r (evT (cR r) (kas_bin f p k)) (k + f)/\(evT (cR r) (kas_bin f p k)).Perm p
 | 0,p,k,_,_,S=>⟨S,Array.Perm.refl _⟩
 | f + 1,p,k,G,hs,S=>by
  obtain ⟨h1,h2,z⟩:=Q5d S k 0 k (Nat.zero_le _) (O6 _) (by omega) (fun i g=>by omega) (fun i j g2=>by omega);have e:evT (cR r) (kas_bin (f + 1) p k)=evT (cR r) (kas_bin f (bubble p k (k - evT (cR r) (kas_place p k k 0 k))) (k + 1)):=by rw [kas_bin,zd]
  rw [e];generalize evT (cR r) (kas_place p k k 0 k)=l at *;have B:Srt r (bubble p k (k - l)) (k + 1):=fun i j g2=>by
   rw [Qiv (by omega) (by omega),Qiv (by omega) (by omega),show k - (k - l)=l by omega]
   by_cases a:i=l
   ·subst a;rw [bS (by omega),bS (by omega),bQ rfl];exact h2 (i - 1) (by omega)
   ·by_cases b:i - 1=l
    ·rw [bQ b,bS a,bQ (by omega),b];exact E2 (z l (O6 _) (by omega))
    ·rw [bS b,bS a]
     by_cases c:l < i
     ·rw [bQ (by omega),bQ (by omega)];exact S (i - 1) (by omega) (by omega)
     ·rw [bS (by omega),bS (by omega)];exact S i j (by omega)
  obtain ⟨a,b⟩:=Qme f (bubble p k (k - l)) (k + 1) (by omega) (by rw [bubble_size]; omega) B;exact ⟨by rw [show k + (f + 1)=k + 1 + f by omega]; exact a,b.trans (bubble_perm _ _ _)⟩
theorem Qn1 {n:Nat} (G:1<=n):Srt r (evT (cR r) (kas_sort n)) n/\(evT (cR r) (kas_sort n)).Perm (List.toArray (List.range n)):=by
 obtain ⟨h1,h2,B,j⟩:=Qky (r:=r) (p:=List.toArray (List.range n)) (n:=n) G (by simp);unfold kas_sort;rw [zd];generalize evT (cR r) (kas_count n (List.toArray (List.range n)))=x at *;obtain ⟨m,p⟩:=x;have sz:p.size=n:=by have:=j.size_eq; simpa using this
 simp only at h1 h2 B j;dsimp only
 by_cases z:m < n
 ·rw [bQ z,show max m 1=m by omega];obtain ⟨a,b⟩:=Qme (r:=r) (n - m) p m h1 (by omega) B;rw [show m + (n - m)=n by omega] at a;exact ⟨a,b.trans j⟩
 ·rw [bS z];have:m=n:=by omega
  subst this;exact ⟨B,j⟩
end
def Asks {α:Type} (n:Nat):KasT α->(α->Prop)->Prop
 | .ret a,P=>P a
 | .ask i j k,P=>i < n/\j < n/\∀ b,Asks n (k b) P
theorem Asks.bind {α β:Type} {n:Nat} {P:α->Prop} {Q:β->Prop} {f:α->KasT β} (z:∀ a,P a->Asks n (f a) Q):∀ {t:KasT α},Asks n t P->Asks n (t.bind f) Q
 | .ret a,h=>z a h
 | .ask i j k,h=>⟨h.1,h.2.1,fun b=>Asks.bind z (h.2.2 b)⟩
def AL (n:Nat) (p:Array Nat):Prop:=0 < n/\∀ x∈p.toList,x < n
theorem AL.get {n:Nat} {p:Array Nat} (h:AL n p) (i:Nat):p.getD i 0 < n:=by
 rw [Array.getD_eq_getD_getElem?]
 by_cases z:i < p.size
 ·rw [Array.getElem?_eq_getElem z];exact h.2 _ (by simp)
 ·rw [Array.getElem?_eq_none (by omega)]; exact h.1
theorem AL.perm {n:Nat} {p q:Array Nat} (h:AL n p) (e:q.Perm p):AL n q:=⟨h.1,fun x j=>h.2 x ((Array.perm_iff_toList_perm.mp e).mem_iff.mp j)⟩
theorem Xd {α:Type} {n:Nat} {P:α->Prop} {c:Prop} [Decidable c] {t u:KasT α} (h1:Asks n t P) (h2:Asks n u P):Asks n (if c then t else u) P:=by
 split
 ·exact h1
 ·exact h2
theorem Q70 {n:Nat} {p:Array Nat} (h:AL n p):∀ f m,Asks n (kas_asc p f m) (fun _=>True)
 | 0,m=>trivial
 | f + 1,m=>⟨h.get _,h.get _,fun b=>Xd trivial (Q70 h f (m + 1))⟩
theorem Q0m {n:Nat}:∀ f (p:Array Nat) m q,AL n p->Asks n (kas_desc f p m q) (fun x=>AL n x.1)
 | 0,p,m,q,h=>h
 | f + 1,p,m,q,h=>⟨h.get _,h.get _,fun b=>Xd (Xd (Q0m f _ _ _ (h.perm (Uy _ _))) (Q0m f _ _ _ h)) ⟨h.get _,h.get _,fun d=>Xd h (Q0m f _ _ _ h)⟩⟩
theorem Q91 {n:Nat} {p:Array Nat} (h:AL n p) (m k:Nat):Asks n (kas_tail3 m k p) (fun x=>AL n x.2):=by
 unfold kas_tail3;refine Asks.bind (P:=fun _=>True) (fun a _=>?_) (Q70 (h.perm (Uy _ _)) _ _);exact h.perm (Uy _ _)
theorem Q10 {n:Nat} {p:Array Nat} (h:AL n p) (m k:Nat):Asks n (kas_descPart m k p) (fun x=>AL n x.2):=
 Asks.bind (fun x j=>Xd (Q91 (AL.perm j (Uy _ _)) _ _) (Q91 j _ _)) (Q0m _ _ _ _ h)
theorem Qee {n:Nat} {p:Array Nat} (h:AL n p) (k:Nat):Asks n (kas_count k p) (fun x=>AL n x.2):=by
 unfold kas_count;refine Asks.bind (P:=fun _=>True) (fun m _=>?_) (Q70 h _ _);refine Xd (show AL n p from h) (Xd ?_ (Q10 h _ _));exact ⟨h.get _,h.get _,fun c=>Xd (show AL n p from h) (Q10 (h.perm (Uy _ _)) _ _)⟩
theorem Q1r {n:Nat} {p:Array Nat} (h:AL n p) (k:Nat):∀ f l q,Asks n (kas_place p k f l q) (fun _=>True)
 | 0,_,_=>trivial
 | f + 1,l,q=>by
  rw [kas_place];exact Xd trivial ⟨h.get _,h.get _,fun c=>Xd (Q1r h k f _ _) (Q1r h k f _ _)⟩
theorem Qcz {n:Nat}:∀ f (p:Array Nat) k,AL n p->Asks n (kas_bin f p k) (fun _=>True)
 | 0,_,_,_=>trivial
 | f + 1,p,k,h=>by
  rw [kas_bin];exact Asks.bind (fun l _=>Qcz f _ _ (h.perm (bubble_perm _ _ _))) (Q1r h k _ _ _)
theorem Qhz {n:Nat} (z:1<=n):Asks n (kas_sort n) (fun _=>True):=by
 have h:AL n (List.toArray (List.range n)):=⟨z,fun x j=>by simpa using j⟩;unfold kas_sort;refine Asks.bind (P:=fun x=>AL n x.2) (fun x j=>?_) (Qee h n);exact Xd (Qcz _ _ _ j) (show True from trivial)
theorem Qcf {α:Type} {z:Nat->Nat->(Bool->aC->Prop)->aC->Prop} {c:Nat->Nat->Bool} {n:Nat} {s:aC} (h:∀ i j (C:Bool->aC->Prop),i < n->j < n->C (c i j) s->z i j C s) :
  ∀ (t:KasT α) (P:α->Prop) (Q:α->aC->Prop),Asks n t P->Q (evT c t) s->t.kasWp z Q s
 | .ret a,_,_,_,q=>q
 | .ask i j k,P,Q,a,q=>h i j _ a.1 a.2.1 (Qcf h (k (c i j)) P Q (a.2.2 _) q)
end L2
namespace L2
open PySem PySem.Spec PyProof.Rows PySem.W
section
variable {prog:aL} {w:aK} {A:aN} {E:aB->aC->Prop} {s:aC}
inductive TupsAre (h:Heap):List aB->List (List Int)->Prop
 | nil:TupsAre h [] []
 | cons {a:aA} {o:Obj} {xs:Array aB} {n:Nat} {x:Int} {ns:List Int} {vs:List aB} {nss:List (List Int)} (ho:h.get? a=some o) (hc:o.cls=.type "tuple") (hd:o.data=.seq xs n) (hi:IntsAre xs.toList (x :: ns)) (r:TupsAre h vs nss):TupsAre h (.ref a :: vs) ((x :: ns) :: nss)
theorem TupsAre.keep {h h':Heap} (k:∀ b o,h.get? b=some o->h'.get? b=some o):∀ {vs:List aB} {nss:List (List Int)},TupsAre h vs nss->TupsAre h' vs nss
 | _,_,.nil=>.nil
 | _,_,.cons j z hd hi r=>.cons (k _ _ j) z hd hi (r.keep k)
theorem TupsAre.keepT {h h':Heap} (k:∀ b o,o.cls=.type "tuple" -> h.get? b=some o->h'.get? b=some o):∀ {vs:List aB} {nss:List (List Int)},TupsAre h vs nss->TupsAre h' vs nss
 | _,_,.nil=>.nil
 | _,_,.cons z j hd hi r=>.cons (k _ _ j z) j hd hi (r.keepT k)
theorem TupsAre.length {h:Heap}:∀ {vs:List aB} {nss:List (List Int)},TupsAre h vs nss->vs.length=nss.length
 | _,_,.nil=>rfl
 | _,_,.cons _ _ _ _ r=>by rw [F4,F4,r.length]
theorem TupsAre.at {h:Heap}:∀ {vs:List aB} {nss:List (List Int)},TupsAre h vs nss->∀ i,i < vs.length->∃ a o xs n,vs.getD i Value.none=.ref a/\h.get? a=some o/\o.data=.seq xs n/\IntsAre xs.toList (nss.getD i [])
 | _,_,.nil,i,hi=>by simp at hi
 | _,_,.cons j B hd hi r,0,_=>⟨_,_,_,_,rfl,j,hd,hi⟩
 | _,_,.cons j B hd hi r,i + 1,hl=>by
  obtain ⟨a,o,xs,n,h1,h2,z,G⟩:=r.at i (by simpa using hl);exact ⟨a,o,xs,n,by simpa using h1,h2,z,by simpa using G⟩
theorem TupsAre.firsts {M:Model} {h:Heap}:∀ {vs:List aB} {nss:List (List Int)},TupsAre h vs nss->∃ fs,KatTups h vs fs/\fs.length=vs.length/\∀ v∈fs,Looks M h (typeOf v) (.type "int")
 | _,_,.nil=>⟨[],.nil,rfl,fun v z=>by cases z⟩
 | _,_,.cons (xs:=xs) (x:=I) J G hd hi r=>by
  obtain ⟨fs,h1,h2,B⟩:=r.firsts (M:=M);have j:=hi;generalize hl:xs.toList=l at j;cases j with
  | cons _ t O=>
   refine ⟨.int I t :: fs,.cons J G hd ?_ h1,by simp [h2],fun v z=>?_⟩
   ·rw [<- Array.getElem?_toList,hl]; rfl
   ·rcases D3.mp z with rfl | z
    ·exact Looks.of_pure rfl
    ·exact B v z
def V5:List Int->List Int->Bool
 | [],[]=>false
 | [],_ :: _=>true
 | _ :: _,[]=>false
 | a :: as,b :: bs=>if a=b then V5 as bs else decide (a < b)
theorem Qf9 (b:Bool) {Q:Bool->aC->Prop}:∀ {xs ys:List aB} {ns ms:List Int} (d:Bool) (i:Nat),IntsAre xs ns->IntsAre ys ms->d=decide (xs.length < ys.length)->Q (V5 ns ms) s->KatLex prog w A b d Q (xs.zip ys) i s
 | _,_,_,_,d,i,.nil,.nil,hd,q=>by
  have:d=false:=by rw [hd]; simp
  subst this;exact q
 | _,_,_,_,d,i,.nil,.cons _ _ _,hd,q=>by
  have:d=true:=by rw [hd]; simp
  subst this;exact q
 | _,_,_,_,d,i,.cons _ _ _,.nil,hd,q=>by
  have:d=false:=by rw [hd]; simp
  subst this;exact q
 | _,_,_,_,d,i,.cons x t B,.cons y u j,hd,q=>by
  rw [List.zip_cons_cons];refine kat_cons (wpAny_eqBool_int ?_)
  by_cases z:x=y
  ·subst z;rw [beq_self_eq_true];refine kat_yes (Qf9 b d (i + 1) B j (by rw [hd]; simp) ?_);rw [V5,bQ rfl] at q;exact q
  ·rw [beq_eq_false_iff_ne.mpr z];refine kat_no ?_;rw [V5,bS z] at q;cases b && i == 0 with
   | true=>exact oneLt_int q
   | false=>exact kat_one _ _ (lt_int q)
def qt (nss:List (List Int)) (i:Nat):Nat:=(nss.filter fun ms=>V5 ms (nss.getD i [])).length
theorem Q2c:∀ a:List Int,V5 a a=false
 | []=>rfl
 | a :: j=>by rw [V5,bQ rfl]; exact Q2c j
theorem y6:∀ {a b c:List Int},V5 a b=true->V5 b c=true->V5 a c=true
 | [],[],_,h,_=>by cases h
 | [],_ :: _,[],_,h=>by cases h
 | [],_ :: _,_ :: _,_,_=>rfl
 | _ :: _,[],_,h,_=>by cases h
 | _ :: _,_ :: _,[],_,h=>by cases h
 | a :: I,b :: bs,c :: J,h1,h2=>by
  rw [V5] at h1 h2 ⊢
  by_cases z:a=b
  ·subst z;rw [bQ rfl] at h1
   by_cases j:a=c
   ·subst j;rw [bQ rfl] at h2 ⊢;exact y6 h1 h2
   ·rw [bS j] at h2 ⊢; exact h2
  ·rw [bS z] at h1;have B:a < b:=by simpa using h1
   by_cases j:b=c
   ·subst j;rw [bS z]; exact h1
   ·rw [bS j] at h2;have G:b < c:=by simpa using h2
    rw [bS (by omega)];simp; omega
theorem Q2b:∀ {a b:List Int},V5 a b=false->V5 b a=false->a=b
 | [],[],_,_=>rfl
 | [],_ :: _,h,_=>by cases h
 | _ :: _,[],_,h=>by cases h
 | a :: G,b :: bs,h1,h2=>by
  rw [V5] at h1 h2
  by_cases z:a=b
  ·subst z;rw [bQ rfl] at h1 h2;rw [Q2b h1 h2]
  ·rw [bS z] at h1;rw [bS (fun e=>z e.symm)] at h2;have j:¬ a < b:=by simpa using h1
   have B:¬ b < a:=by simpa using h2
   exact absurd (show a=b by omega) z
theorem Q0y {α:Type} {p q:α->Bool}:∀ {l:List α},(∀ x∈l,p x=true->q x=true)->(∃ x∈l,p x=false/\q x=true)->(l.filter p).length < (l.filter q).length
 | [],_,h=>by obtain ⟨_,h,_⟩:=h; cases h
 | x :: l,h,I=>by
  have J:(l.filter p).length<=(l.filter q).length:=by
   clear I
   induction l with
   | nil=>exact O6 _
   | cons y l j=>
    have j:=j fun z G=>h z (by rcases D3.mp G with rfl | G <;> simp [*])
    have B:=h y (by simp);rw [List.filter_cons,List.filter_cons]
    by_cases a:p y=true
    ·rw [bQ a,bQ (B a)]; simp; exact j
    ·rw [bS a]
     split
     ·simp; omega
     ·exact j
  rw [List.filter_cons,List.filter_cons];obtain ⟨y,B,h1,h2⟩:=I;rcases D3.mp B with rfl | B
  ·rw [h1,h2]; simp; omega
  ·have j:=Q0y (fun z G=>h z (O5 _ G)) ⟨y,B,h1,h2⟩
   by_cases a:p x=true
   ·rw [bQ a,bQ (h x (by simp) a)]; simp; exact j
   ·rw [bS a]
    split
    ·simp; omega
    ·exact j
theorem Qex {nss:List (List Int)} {i j:Nat} (hi:i < nss.length) (G:j < nss.length):cR (qt nss) i j=V5 (nss.getD i []) (nss.getD j []):=by
 have mem:∀ k,k < nss.length->nss.getD k []∈nss:=fun k I=>by
  rw [D6,O3 I]; exact List.getElem_mem I
 unfold cR;have B:∀ {i j:Nat},i < nss.length->j < nss.length->V5 (nss.getD i []) (nss.getD j [])=true->qt nss i < qt nss j:=fun {i j} hi G h=>
  Q0y (fun x _ O=>y6 O h) ⟨nss.getD i [],mem i hi,Q2c _,h⟩
 cases z:V5 (nss.getD i []) (nss.getD j []) with
 | true=>exact bU (B hi G z)
 | false=>
  refine bT ?_;cases J:V5 (nss.getD j []) (nss.getD i []) with
  | true=>have:=B G hi J; omega
  | false=>
   have e:=Q2b z J;unfold qt;rw [e];exact Nat.lt_irrefl _
theorem Q7w {a:aA} {vs:List aB} {nss:List (List Int)} {n:Nat} {P:PySem.Fin->aC->Prop} (ho:s.heap.get? a=some (seqObj "list" vs.toArray n)) (hT:TupsAre s.heap vs nss) (b3:vs.length < 64)
  (h:∀ (p:List Nat) (h':Heap) (k:Nat),p.Perm (List.range vs.length)->(∀ i,1<=i->i < vs.length->V5 (nss.getD (p.getD i 0) []) (nss.getD (p.getD (i - 1) 0) [])=false)->h'.get? a=some (seqObj "list" (List.toArray (p.map fun i=>vs.getD i Value.none)) k)->(∀ b o,b≠a->s.heap.get? b=some o->h'.get? b=some o)->P (.done (.ret .none)) { s with heap:=h' }) :
  aH (aI prog w) A (Builtin.«list.sort» ⟨[.ref a],[]⟩) P E s:=by
 have ha:a < s.heap.objs.size:=O7 ho;obtain ⟨e1,a5⟩:∃ e1,(s.heap.update a (Obj.mapSeq fun _=>(#[]:Array aB))).get? a=some (seqObj "list" #[] e1):=⟨_,get?_update_seq ho fun _=>#[]⟩
 have I:∀ b o,b≠a->s.heap.get? b=some o->(((s.heap.update a (Obj.mapSeq fun _=>(#[]:Array aB))).push (seqObj "tuple" vs.toArray 0)).push (seqObj "list" #[] 0)).get? b=some o:=fun b o hb e=>
  O1 _ (O1 _ (by rw [Heap.get?_update_ne _ _ _ _ hb]; exact e))
 have Z:(((s.heap.update a (Obj.mapSeq fun _=>(#[]:Array aB))).push (seqObj "tuple" vs.toArray 0)).push (seqObj "list" #[] 0)).get? a=some (seqObj "list" #[] e1):=O1 _ (O1 _ a5)
 rw [list_sort_plain];refine aF (listItems_at ho rfl ?_);refine aF (listUpdate_at ho rfl ?_ (by rw [O4,sizeLine_eq]; omega) (Nat.zero_le _));refine aF (seqEpoch_at a5 rfl ?_);refine aF (wpAny_newTuple ?_ (by show vs.length<=_; rw [sizeLine_eq]; omega));refine aF (wpAny_newList ?_ (Nat.zero_le _));refine au ?_;show aH (aI prog w) A _ P E { s with heap:=((s.heap.update a (Obj.mapSeq fun _=>(#[]:Array aB))).push (seqObj "tuple" vs.toArray 0)).push (seqObj "list" #[] 0) }
 dsimp only;generalize hH:((s.heap.update a (Obj.mapSeq fun _=>(#[]:Array aB))).push (seqObj "tuple" vs.toArray 0)).push (seqObj "list" #[] 0)=O at *
 have fin:∀ (st:SortSt) (p:List Nat),p.Perm (List.range vs.length)->(arrOf st).map (·.2)=List.toArray (p.map fun i=>vs.getD i Value.none)->failedOf st=none->(∀ i,1<=i->i < vs.length->V5 (nss.getD (p.getD i 0) []) (nss.getD (p.getD (i - 1) 0) [])=false) ->
   aH (aI prog w) A (do
    let J:=(arrOf st).map (·.2)
    let B:=(<- seqEpoch a) != e1
    Builtin.List.listUpdate (.ref a) fun _=>J
    if let some e:=failedOf st then rule "list.sort.comparison-raised"; throw e
    if B then rule "list.sort.modified"; raiseError "ValueError" "list modified during sort"
    ret .none) P E { s with heap:=O }:=fun st p hp b2 hf hs=>by
  dsimp only;have hl:(List.toArray (p.map fun i=>vs.getD i Value.none)).size=vs.length:=by rw [O4,O0,hp.length_eq,E8]
  obtain ⟨c2,a9⟩:∃ c2,(O.update a (Obj.mapSeq fun _=>List.toArray (p.map fun i=>vs.getD i Value.none))).get? a=some (seqObj "list" (List.toArray (p.map fun i=>vs.getD i Value.none)) c2):=⟨_,get?_update_seq Z fun _=>List.toArray (p.map fun i=>vs.getD i Value.none)⟩
  rw [b2,hf];refine aF (seqEpoch_at Z rfl ?_);refine aF (listUpdate_at Z rfl ?_ (Nat.zero_le _) (F0 (Nat.le_of_eq hl) (by rw [sizeLine_eq]; omega)));simp only [bne_self_eq_false,Bool.false_eq_true,if_false];exact aO (h p _ c2 hp hs a9 fun b o hb e=>by rw [Heap.get?_update_ne _ _ _ _ hb]; exact I b o hb e)
 by_cases h2:vs.toArray.size < 2
 ·rw [bQ h2,bQ h2];refine aF (aO ?_);rw [StateT.run_pure];refine aF (aO ?_);refine fin (SortSt.mk' general' (vs.toArray.zip vs.toArray) #[] 7 none) (List.range vs.length) (List.Perm.refl _) ?_ rfl (fun i g1 g2=>?_)
  ·show (vs.toArray.zip vs.toArray).map (·.2)=_;apply Array.toList_inj.mp;apply List.ext_getElem?;intro i
   by_cases z:i < vs.length
   ·simp [z]
   ·simp [z]
  ·rw [O4] at h2; omega
 ·rw [bS h2,bS h2];rw [O4] at h2;have U:TupsAre O vs nss:=hT.keepT fun b o hc e=>I b o (fun z=>by
   rw [z,ho] at e;have e:=Option.some.inj e;rw [<- e] at hc;exact absurd (show Value.type "list" = .type "tuple" from hc) (by decide)) e
  obtain ⟨fs,k1,k2,k3⟩:=U.firsts (M:=aI prog w);refine aF (kat_kind (s:={ s with heap:=O }) (T:=.type "int") k1 (by omega) k3 (by decide) ?_);have a7:∀ i j (C:Bool->aC->Prop),i < vs.length->j < vs.length->C (cR (qt nss) i j) { s with heap:=O }->kas_ask prog w A (tuples' (Value.type "int" != Value.type "tuple")) vs i j C { s with heap:=O }:=fun i j C hi hj q=>by
   obtain ⟨ai,oi,xi,ni,e1,e2,e3,e4⟩:=U.at i hi;obtain ⟨aj,oj,xj,nj,f1,f2,f3,f4⟩:=U.at j hj;rw [Qex (by rw [<- hT.length]; exact hi) (by rw [<- hT.length]; exact hj)] at q;unfold kas_ask;rw [e1,f1];exact kat_lt e2 e3 f2 f3 (Qf9 _ _ 0 e4 f4 (by simp) q)
  have Y:=Qn1 (r:=qt nss) (n:=vs.length) (by omega);refine aF (ak (kat_run (vs:=vs) (ks:=vs) (Q:=fun st' s'=>s'={ s with heap:=O }/\arrOf st'=(evT (cR (qt nss)) (kas_sort vs.length)).map (kas_item (vs.toArray.zip vs.toArray))/\failedOf st'=none)
   (G:=fun p s'=>s'={ s with heap:=O }/\p=evT (cR (qt nss)) (kas_sort vs.length)) rfl (by omega) b3 (fun p' st' s' a1 a2 a3 a4=>⟨a4.1,by rw [<- a4.2]; exact a2,a3⟩) (Qcf a7 _ (fun _=>True) _ (Qhz (by omega)) ⟨rfl,rfl⟩)) ?_ fun _ _ e=>e)
  rintro ⟨⟨⟩,st'⟩ s' ⟨rfl,b1,hf⟩;have a8:(evT (cR (qt nss)) (kas_sort vs.length)).toList.Perm (List.range vs.length):=by
   have:=Array.perm_iff_toList_perm.mp Y.2;simpa using this
  refine fin st' _ a8 (kat_snds rfl b1) hf fun i g1 g2=>?_
  have hr:=Y.1 i g1 g2;have a6:∀ k,(evT (cR (qt nss)) (kas_sort vs.length)).toList.getD k 0 < vs.length:=fun k=>by
   have b0:AL vs.length (evT (cR (qt nss)) (kas_sort vs.length)):=AL.perm (p:=List.toArray (List.range vs.length)) ⟨by omega,fun x hx=>by simpa using hx⟩ Y.2;have:=b0.get k;rw [Array.getD_eq_getD_getElem?,<- Array.getElem?_toList] at this;rw [D6]; exact this
  have hg:∀ k,(evT (cR (qt nss)) (kas_sort vs.length)).getD k 0=(evT (cR (qt nss)) (kas_sort vs.length)).toList.getD k 0:=fun k=>by
   rw [Array.getD_eq_getD_getElem?,<- Array.getElem?_toList,D6]
  unfold rk at hr;rw [hg,hg] at hr;have:=Qex (nss:=nss) (i:=(evT (cR (qt nss)) (kas_sort vs.length)).toList.getD i 0) (j:=(evT (cR (qt nss)) (kas_sort vs.length)).toList.getD (i - 1) 0) (by rw [<- hT.length]; exact a6 _) (by rw [<- hT.length]; exact a6 _);rw [<- this];exact bT (Nat.not_lt.mpr hr)
theorem Qb9 {l:aA} {vs:List aB} {nss:List (List Int)} {Q:aB->aC->Prop} (hl:s.heap.IsList l vs.toArray) (G:TupsAre s.heap vs nss) (B:vs.length < 64)
  (h:∀ (p:List Nat) (h':Heap) (D k:Nat),p.Perm (List.range vs.length)->(∀ i,1<=i->i < vs.length->V5 (nss.getD (p.getD i 0) []) (nss.getD (p.getD (i - 1) 0) [])=false)->s.heap.objs.size<=D->h'.get? D=some (seqObj "list" (List.toArray (p.map fun i=>vs.getD i Value.none)) k)->(∀ b o,s.heap.get? b=some o->h'.get? b=some o)->Q (.ref D) { s with heap:=h' }) :
  aH (aI prog w) A (call (.builtin "sorted") [.ref l]) Q E s:=by
 refine Calls.call_function_entry kind_sorted plain_sorted entry_sorted (args_sorted1 _) ?_;unfold Builtin.«sorted»;refine aF (m:=checkCount "sorted" 1 1 _) (aO ?_);refine aF (collect_list hl ?_ (by rw [sizeLine_eq]; omega));refine aF (wpAny_newList ?_ (by rw [sizeLine_eq]; omega));have hsz:((s.heap.push (seqObj "list" #[] 0)).update s.heap.objs.size (Obj.mapSeq (· ++ vs.toArray))).objs.size=s.heap.objs.size + 1:=by
  rw [Heap.size_update,size_push']
 have z:(((s.heap.push (seqObj "list" #[] 0)).update s.heap.objs.size (Obj.mapSeq (· ++ vs.toArray))).push (seqObj "list" vs.toArray 0)).get? (s.heap.objs.size + 1)=some (seqObj "list" vs.toArray 0):=by
  rw [<- hsz]; exact D0 _ rfl
 have keep:∀ b o,s.heap.get? b=some o->(((s.heap.push (seqObj "list" #[] 0)).update s.heap.objs.size (Obj.mapSeq (· ++ vs.toArray))).push (seqObj "list" vs.toArray 0)).get? b=some o:=fun b o q=>by
  have j:b < s.heap.objs.size:=O7 q;rw [Heap.get?_push_ne _ _ _ (by rw [hsz]; exact E5 (Nat.lt_succ_of_lt j)),Heap.get?_update_ne _ _ _ _ (E5 j),Heap.get?_push_ne _ _ _ (E5 j)];exact q
 show aH _ _ _ _ _ { s with heap:=((s.heap.push (seqObj "list" #[] 0)).update s.heap.objs.size (Obj.mapSeq (· ++ vs.toArray))).push (seqObj "list" vs.toArray 0) };rw [hsz];refine aF (au (aq slot_list_sort ⟨_,z,rfl⟩ entry_list_sort ?body (args_list_sort _)))
 case body=>
  refine Q7w (s:={ s with heap:=((s.heap.push (seqObj "list" #[] 0)).update s.heap.objs.size (Obj.mapSeq (· ++ vs.toArray))).push (seqObj "list" vs.toArray 0) }) z (G.keep keep) B fun p h' k U I J O=>?_
  exact ⟨_,rfl,aO ⟨_,rfl,h p h' _ k U I (Nat.le_succ _) J fun b o e=>O b o (E5 (Nat.lt_succ_of_lt (O7 e))) (keep b o e)⟩⟩
end
end L2
namespace L2
open PySem PySem.Spec PyProof.Rows
def Qe7 (a:List Int):List (List Int)->List (List Int)
 | []=>[a]
 | b :: r=>if V5 b a=true then b :: Qe7 a r else a :: b :: r
def Ws:List (List Int)->List (List Int)
 | []=>[]
 | a :: r=>Qe7 a (Ws r)
def leL (a b:List Int):Prop:=V5 b a=false
theorem Q4j (a b:List Int):leL a b <-> a=b\/V5 a b=true:=by
 unfold leL;constructor
 ·intro h;cases z:V5 a b with
  | true=>exact .inr rfl
  | false=>exact .inl (Q2b z h)
 ·rintro (rfl | h)
  ·exact Q2c a
  ·cases z:V5 b a with
   | false=>rfl
   | true=>have:=y6 h z; rw [Q2c] at this; cases this
theorem Q8c {a b c:List Int} (h1:leL a b) (h2:leL b c):leL a c:=by
 rw [Q4j] at *;rcases h1 with rfl | h1
 ·exact h2
 ·rcases h2 with rfl | h2
  ·exact .inr h1
  ·exact .inr (y6 h1 h2)
theorem Qk5 {a b:List Int} (h1:leL a b) (h2:leL b a):a=b:=Q2b h2 h1
theorem Q3h (a:List Int):∀ l,(Qe7 a l).Perm (a :: l)
 | []=>List.Perm.refl _
 | b :: r=>by
  rw [Qe7]
  split
  ·exact ((Q3h a r).cons b).trans (List.Perm.swap a b r)
  ·exact List.Perm.refl _
theorem qg:∀ l,(Ws l).Perm l
 | []=>List.Perm.refl _
 | a :: r=>(Q3h a (Ws r)).trans ((qg r).cons a)
theorem Q3y {a:List Int}:∀ {l:List (List Int)},l.Pairwise leL->(Qe7 a l).Pairwise leL
 | [],_=>by rw [Qe7]; exact List.pairwise_singleton _ _
 | b :: r,h=>by
  obtain ⟨h1,h2⟩:=F7.mp h;rw [Qe7]
  split
  ·rename_i q;refine F7.mpr ⟨fun x j=>?_,Q3y h2⟩;rcases D3.mp ((Q3h a r).mem_iff.mp j) with rfl | j
   ·exact (Q4j b x).mpr (.inr q)
   ·exact h1 x j
  ·rename_i q;have z:leL a b:=by unfold leL; simpa using q
   refine F7.mpr ⟨fun x j=>?_,h⟩;rcases D3.mp j with rfl | j
   ·exact z
   ·exact Q8c z (h1 x j)
theorem zp:∀ l,(Ws l).Pairwise leL
 | []=>List.Pairwise.nil
 | a :: r=>Q3y (zp r)
theorem Q7v:∀ {a b:List (List Int)},a.Perm b->a.Pairwise leL->b.Pairwise leL->a=b
 | [],b,h,_,_=>(List.nil_perm.mp h).symm
 | x :: a,[],h,_,_=>absurd (List.perm_nil.mp h) (by simp)
 | x :: a,y :: b,h,I,z=>by
  obtain ⟨U,O⟩:=F7.mp I;obtain ⟨J,B⟩:=F7.mp z;have e:x=y:=by
   rcases D3.mp (h.mem_iff.mp (O8 (a:=x) (l:=a))) with e | G
   ·exact e
   ·rcases D3.mp (h.mem_iff.mpr (O8 (a:=y) (l:=b))) with e | j
    ·exact e.symm
    ·exact Qk5 (U y j) (J x G)
  subst e;rw [Q7v (List.Perm.cons_inv h) O B]
theorem Q7b {l:List (List Int)} (h:∀ i,1<=i->i < l.length->V5 (l.getD i []) (l.getD (i - 1) [])=false):l.Pairwise leL:=by
 rw [List.pairwise_iff_getElem];have g:∀ k (B:k < l.length),l.getD k []=l[k]:=fun k B=>by rw [D6,O3 B]; rfl
 have z:∀ d i (hi:i + d < l.length),leL (l.getD i []) (l.getD (i + d) []):=by
  intro d
  induction d with
  | zero=>intro i hi; exact (Q4j _ _).mpr (.inl rfl)
  | succ d G=>
   intro i hi;have h1:=G i (by omega);have h2:=h (i + d + 1) (by omega) (by omega);rw [Nat.add_sub_cancel] at h2;exact Q8c h1 h2
 intro i j hi J I;have:=z (j - i) i (by omega);rw [show i + (j - i)=j by omega,g i hi,g j J] at this;exact this
theorem Q7x {nss:List (List Int)} {p:List Nat} (hp:p.Perm (List.range nss.length)) (h:∀ i,1<=i->i < nss.length->V5 (nss.getD (p.getD i 0) []) (nss.getD (p.getD (i - 1) 0) [])=false):p.map (fun i=>nss.getD i [])=Ws nss:=by
 have hl:p.length=nss.length:=by rw [hp.length_eq,E8]
 have e1:(List.range nss.length).map (fun i=>nss.getD i [])=nss:=by
  apply List.ext_getElem?;intro i
  by_cases z:i < nss.length
  ·simp [z]
  ·simp [z]
 have G:(p.map fun i=>nss.getD i []).Perm nss:=by
  have:=hp.map (fun i=>nss.getD i [])
  rwa [e1] at this
 have B:∀ k,k < p.length->(p.map fun i=>nss.getD i []).getD k []=nss.getD (p.getD k 0) []:=fun k j=>by
  rw [D6,E3,O3 j,D6 (l:=p),O3 j];rfl
 refine Q7v (G.trans (qg nss).symm) (Q7b fun i I g2=>?_) (zp nss);rw [O0] at g2;rw [B i g2,B (i - 1) (by omega)];exact h i I (by omega)
theorem Qem {P:aL} {w:aK} {H:Hp} {h:Heap} (ok:HOk P w H h):∀ {nss:List (List Int)} {vs:List V} {its:List aB},ae (fun (v:V) (ns:List Int)=>ns≠[]/\∃ a,v=.ref a/\H a=some (.tup (ns.map V.int))) vs nss->Vals vs its->TupsAre h its nss
 | [],_,_,.nil,.nil=>.nil
 | [] :: _,v :: vs,u :: I,.cons ⟨z,_⟩ t,.cons B j=>absurd rfl z
 | (x :: ns) :: nss,v :: vs,u :: I,.cons ⟨_,a,O,Y⟩ t,.cons B j=>by
  have r:=Qem ok t j;subst O;cases B;obtain ⟨_,J,U,o,Z,G,n,hd⟩:=ok a _ Y;exact .cons Z G hd (by simpa using qz U) r
theorem Qan {X:Cx}:Ur X (.builtin "sorted") (fun xs H Q=>∃ p vs,∃ nss:List (List Int),xs=[.ref p]/\SqL X.K H p vs/\vs.length < 64/\ae (fun (v:V) (ns:List Int)=>ns≠[]/\∃ a,v=.ref a/\H a=some (.tup (ns.map V.int))) vs nss /\
  ∀ d (j:List Nat),H d=none->j.Perm (List.range vs.length)->j.map (fun i=>nss.getD i [])=Ws nss->Q (.ref d) (upd H d (.lst (j.map fun i=>vs.getD i .non)))):=by
 intro pins s σ H xs us Q I r h;obtain ⟨p,vs,nss,rfl,hq,a7,hp,q⟩:=h;obtain ⟨u,rfl,rx⟩:=yf r;cases rx;obtain ⟨its,U,pl,hz⟩:=I.list hq;have z:=U.length;have T:=Qem I.hok hp U;refine Qb9 pl.isList T (by omega) fun j h' D k G a2 Y a4 Z=>?_
 have J:its.length=nss.length:=T.length;have e:=Q7x (nss:=nss) (p:=j) (by rw [<- J]; exact G) (fun i g1 g2=>a2 i g1 (by omega))
 have a6:j.length=its.length:=by rw [G.length_eq,E8]
 have hv:Vals (j.map fun i=>vs.getD i .non) (j.map fun i=>its.getD i Value.none):=by
  have O:∀ l:List Nat,(∀ x∈l,x < vs.length)->Vals (l.map fun i=>vs.getD i .non) (l.map fun i=>its.getD i Value.none):=by
   intro l
   induction l with
   | nil=>intro _; exact .nil
   | cons x l ih=>
    intro hl;have B:=hl x (by simp);obtain ⟨u,hu,ru⟩:=U.get (O3 B);refine .cons ?_ (ih fun y hy=>hl y (O5 _ hy))
    show RelV (vs.getD x V.non) (its.getD x Value.none);rw [D6,O3 B,D6,hu];exact ru
  exact O j fun x B=>by have:=G.mem_iff.mp B; rw [z]; simpa using this
 exact ⟨.ref D,_,I.laid (t':=s.toks) (o:=.lst (j.map fun i=>vs.getD i .non)) Z Y ⟨by rw [O0]; omega,_,k,hv,a4⟩,rfl,q D j (I.hok.fresh Y) (by rw [z]; exact G) e⟩
end L2
namespace L2
open PySem PySem.Spec PyProof.Rows PySem.W
section
variable {prog:aL} {w:aK} {A:aN} {E:aB->aC->Prop} {s:aC}
end
end L2
namespace L2
open PySem PySem.Spec PyProof.Rows
section
variable {X:Cx}
end
def RawD (h:Heap) (a:aA) (es:Array DictEntry) (ep:Nat):Prop:=∃ o,h.get? a=some o/\o.ExactDict/\o.data=.dict es ep
section
variable {prog:aL} {w:aK} {A:aN} {E:aB->aC->Prop} {s:aC}
theorem RawD.typeIs {a:aA} {es:Array DictEntry} {ep:Nat} (h:RawD s.heap a es ep):s.TypeIs (.ref a) "dict" := let ⟨o,e,x,_⟩:=h; ⟨o,e,x.1⟩
theorem RawD.obj {h:Heap} {a:aA} {es:Array DictEntry} {ep:Nat} (x:RawD h a es ep):h.get? a=some { cls:=.type "dict",dict:=none,data:=.dict es ep,slots:=#[] }:=by
 obtain ⟨⟨c,z,j,B⟩,ho,⟨h1,h2,h3⟩,h4⟩:=x;simp only at h1 h2 h3 h4;subst h1 h2 h3 h4;exact ho
theorem Qj1 {d:aA} {es:Array DictEntry} {ep:Nat} {Q:aB->aC->Prop} (hd:(d == ag)=false) (z:RawD s.heap d es ep)
  (B:Q (.ref s.heap.objs.size) { s with heap:=s.heap.push { cls:=.type "dict_keyiterator",data:=.fields #[.ref d,.int 0 0,.int es.size 0,.int ep 0] } }) :
  aH (aI prog w) A (pyIter (.ref d)) Q E s:=by
 have j:=z.typeIs;have G:=z.obj;obtain ⟨hp,g,dr,tk,os⟩:=s;refine wpAny_pyIter_slot j PySem.F.slot_dict_iter (aq PySem.F.slot_dict_iter j PySem.F.entry_dict_iter ?_ (PySem.F.args_dict_iter_1 _));unfold Builtin.«dict.__iter__» Builtin.Dict.dictSlotNone
 repeat (any_goals (first | assumption | wp_step))
 refine ⟨_,rfl, "dict_keyiterator",_,⟨_,D0 _ rfl,rfl⟩,PySem.F.slot_dict_keyiterator_next.lookup,B⟩
theorem Q6d:Builtin.Dict_items.ownsTuple ((Manifest.find? "dict_keyiterator").elim "dict_keyiterator" fun x=>x.tpName)=false:=by decide +kernel
theorem Qj2 {z d:aA} {i ep:Nat} {es:Array DictEntry} {e:DictEntry} {Q:Option aB->aC->Prop} (j:s.heap.IsKeyIter z d i es.size ep) (J:RawD s.heap d es ep) (I:es[i]?=some e)
  (U:∀ h',h'.IsKeyIter z d (i + 1) es.size ep->Heap.SameBut z s.heap h'->Q (some e.key) { s with heap:=h' }) :
  aH (aI prog w) A (aw (.ref z)) Q E s:=by
 have B:=j.typeIs;have Z:=J.obj;obtain ⟨⟨c,O,G,Y⟩,hoi,hci,hdi⟩:=j;simp only at hci hdi;subst hci hdi;obtain ⟨hp,g,dr,tk,os⟩:=s;unfold aw;refine aF (wpAny_attempt (wpAny_callSpecial?_slot (name:=Str.ofString "__next__") B PySem.F.slot_dict_keyiterator_next (aq PySem.F.slot_dict_keyiterator_next B PySem.F.entry_dict_keyiterator_next ?_ (PySem.F.args_dict_keyiterator_next_1 _))))
 repeat (any_goals (first | assumption | wp_step))
 simp only [Q6d,Bool.false_eq_true,if_false];simp only [show ¬ ((i:Int) < 0) by omega,if_false,Int.toNat_natCast,I]
 repeat (any_goals (first | assumption | wp_step))
 simp only [Q6d,Bool.false_eq_true,if_false];rw [bS (show ¬ ((_:Bool)=true) by decide +kernel)];refine ⟨_,rfl,aO (U _ ⟨_,L8 _ hoi rfl,rfl,?_⟩ (Heap.SameBut.update ..))⟩;simp [Obj.mapFields,aa]
theorem Qne {z d:aA} {i ep:Nat} {es:Array DictEntry} {Q:Option aB->aC->Prop} (I:A.handled=none) (j:s.heap.IsKeyIter z d i es.size ep) (U:RawD s.heap d es ep) (O:es[i]?=none)
  (Z:∀ h',Heap.ExtBut z s.heap h'->Q none { s with heap:=h' }) :
  aH (aI prog w) A (aw (.ref z)) Q E s:=by
 have G:=j.typeIs;have ho:=U.obj;obtain ⟨⟨c,Y,J,sl⟩,hoi,hci,hdi⟩:=j;simp only at hci hdi;subst hci hdi;obtain ⟨hp,g,dr,tk,os⟩:=s;unfold aw;refine aF (wpAny_attempt (wpAny_callSpecial?_slot (name:=Str.ofString "__next__") G PySem.F.slot_dict_keyiterator_next (aq PySem.F.slot_dict_keyiterator_next G PySem.F.entry_dict_keyiterator_next ?_ (PySem.F.args_dict_keyiterator_next_1 _))))
 repeat (any_goals (first | assumption | wp_step))
 simp only [Q6d,Bool.false_eq_true,if_false];simp only [show ¬ ((i:Int) < 0) by omega,if_false,Int.toNat_natCast,O];have B:=isSubtype_stop
 repeat (any_goals (first | assumption | wp_step))
 unfold raiseNew;refine aF (wpAny_handled ?_);rw [show A.in1.handled=none from I];refine aF (aO (wpAny_throw ?_));refine aF (bO (T := "StopIteration") (b:=true) ⟨_,D0 _ rfl,rfl⟩ isSubtype_stop ?_);exact aO (Z _ (((Heap.SameBut.update ..).extBut.push _).push _))
theorem RawD.at {h h':Heap} {a:aA} {es:Array DictEntry} {ep:Nat} (x:RawD h a es ep) (k:∀ o,h.get? a=some o->h'.get? a=some o):RawD h' a es ep:=let ⟨o,e,r⟩:=x; ⟨o,k o e,r⟩
theorem RawD.lt {h:Heap} {a:aA} {es:Array DictEntry} {ep:Nat} (x:RawD h a es ep):a < h.objs.size:=let ⟨_,e,_⟩:=x; O7 e
theorem Qg4 (Y:A.handled=none) (I d:aA) (O:d≠I) (es:Array DictEntry) (ep:Nat) :
  Walks prog w A I [I,d] [I] es.size (fun i v=>∃ e,es[i]?=some e/\v=e.key) (fun i h=>h.IsKeyIter I d i es.size ep/\RawD h d es ep) where
 sub:=fun b j=>by simp at j; simp [j]
 frame:=fun _ _ _ st U=>⟨st.1.at fun o e=>U I (by simp) o e,st.2.at fun o e=>U d (by simp) o e⟩
 item:=fun i s Q E hi st G=>by
  refine Qj2 st.1 st.2 (Array.getElem?_eq_getElem hi) fun h' z B=>?_
  exact G _ h' s.toks ⟨_,Array.getElem?_eq_getElem hi,rfl⟩ ⟨z,st.2.at fun o e=>(B.2 d O).trans e⟩ fun b o j e=>B.extBut b o (fun h=>j (by simp [h])) e
 done:=fun s Q E st G=>Qne Y st.1 st.2 (by simp) fun h' J=>G h' s.toks fun b o j e=>J b o (fun h=>j (by simp [h])) e
 self:=fun _ _ _ _ st G=>wpAny_pyIter_keyiter st.1 G
theorem Qmz {d:aA} {es:Array DictEntry} {ep:Nat} (lo:(d == ag)=false):PySem.W.KdlSrc prog w "dict" d d es.size (fun i v=>∃ e,es[i]?=some e/\v=e.key) (fun h=>RawD h d es ep) where
 type:=fun _ j=>j.typeIs
 there:=fun _ j=>⟨j.lt,j.lt⟩
 keep:=fun _ _ j G=>j.at fun o e=>G d (.inl rfl) o e
 notList:=by decide
 notTuple:=by decide
 hint:=fun _ _ _ _ j z=>PySem.W.kdl_hint_dict j.typeIs z
 iter:=fun _ _ B j=>⟨_,_,(fun _ _ z=>Qj1 lo j z),Qg4 B _ d (E5 j.lt) es ep,⟨⟨_,D0 _ rfl,rfl,rfl⟩,j.at fun o e=>O1 _ e⟩⟩
theorem Qcu {d:aA} {es:Array DictEntry} {ep:Nat} {Q:List aB->aC->Prop} (lo:(d == ag)=false) (U:A.handled=none) (O:RawD s.heap d es ep) (hn:es.size<=sizeLine)
  (h:∀ h' tk,(∀ b o,s.heap.get? b=some o->h'.get? b=some o)->s.heap.objs.size<=h'.objs.size->Q (es.toList.map (·.key)) { s with heap:=h',toks:=tk }):aH (aI prog w) A (collect (.ref d)) Q E s:=by
 unfold collect;refine aF (wpAny_runValue (bJ PySem.F.entry_proto_collect ?_));rw [Around.under_plainId PySem.F.plain_proto_collect _];show aH _ A.in1 (newList [] >>= fun l=>again (.builtin "list.__iadd__" ⟨[l,.ref d],[]⟩)) _ _ s
 refine aF (ay ?_);refine aO ⟨bP PySem.F.plain_list_iadd _,bJ PySem.F.entry_list_iadd ?_⟩;rw [Around.under_plainId PySem.F.plain_list_iadd _];have Z:(s.heap.push { cls:=.type "list",data:=.seq ([]:List aB).toArray }).get? s.heap.objs.size=some { cls:=.type "list",data:=.seq ([]:List aB).toArray }:=D0 _ rfl;have I:∀ b o,s.heap.get? b=some o->(s.heap.push { cls:=.type "list",data:=.seq ([]:List aB).toArray }).get? b=some o:=fun b o e=>O1 _ e
 have J:s.heap.objs.size≠d:=Nat.ne_of_gt O.lt;show aH _ A.in1 (Builtin.List.listExtendWith (.ref s.heap.objs.size) (.ref d) (.ref s.heap.objs.size)) _ _ _;refine PySem.W.kdl_extend (prog:=prog) (w:=w) (A:=A) (R:=fun r s'=>match r with | .ok (.ret v)=>aH (aI prog w) A (match v with | .ref a=>do { let o <- load a; match o.data with | .seq xs _=>pure xs.toList | _=>unsupported "internal:collect" } | _=>unsupported "internal:collect") Q E s' | .ok _=>False | .error e=>E e s') (s:={ s with heap:=s.heap.push { cls:=.type "list",data:=.seq ([]:List aB).toArray } }) (Qmz (es:=es) (ep:=ep) lo) U (O.at fun o e=>I d o e) s.heap.objs.size J J _ _ Z (fun h' tk B c Y G j=>?_) hn
 show aH _ A (load s.heap.objs.size >>= _) _ _ _;refine aF (wpAny_load G ?_);have e:B.toList=es.toList.map (·.key):=by
  apply List.ext_getElem?;intro i
  by_cases z:i < es.size
  ·have hi:i < B.size:=by rw [j.1]; exact z
   obtain ⟨e,h1,h2⟩:=j.2 i B[i] (Array.getElem?_eq_getElem hi);rw [Array.getElem?_toList,Array.getElem?_eq_getElem hi,h2,E3,Array.getElem?_toList,h1]; rfl
  ·rw [Array.getElem?_toList,Array.getElem?_eq_none (by rw [j.1]; omega),E3,Array.getElem?_toList,Array.getElem?_eq_none (by omega)]; rfl
 show aH _ _ (pure B.toList) _ _ _;rw [e];exact aO (h h' tk (fun b o q=>Y b o (E5 (O7 q)) (I b o q)) (E2 (O7 G)))
end
end L2
namespace L2
open PySem PySem.Spec PyProof.Rows PySem.W
section
variable {prog:aL} {w:aK} {A:aN} {E:aB->aC->Prop} {s:aC}
theorem Qdb {d:aA} {es:Array DictEntry} {ep:Nat} {nss:List (List Int)} {Q:aB->aC->Prop} (lo:(d == ag)=false) (J:A.handled=none) (Y:RawD s.heap d es ep) (O:TupsAre s.heap (es.toList.map (·.key)) nss) (I:(es.toList.map (·.key)).length < 64)
  (h:∀ (p:List Nat) (h':Heap) (D k tk:Nat),p.Perm (List.range (es.toList.map (·.key)).length)->(∀ i,1<=i->i < (es.toList.map (·.key)).length->V5 (nss.getD (p.getD i 0) []) (nss.getD (p.getD (i - 1) 0) [])=false)->s.heap.objs.size<=D->h'.get? D=some (seqObj "list" (List.toArray (p.map fun i=>(es.toList.map (·.key)).getD i Value.none)) k)->(∀ b o,s.heap.get? b=some o->h'.get? b=some o)->Q (.ref D) { s with heap:=h',toks:=tk }) :
  aH (aI prog w) A (call (.builtin "sorted") [.ref d]) Q E s:=by
 have hsz:es.size<=sizeLine:=by
  have:(es.toList.map (·.key)).length=es.size:=by simp
  rw [sizeLine_eq]; omega
 refine Calls.call_function_entry kind_sorted plain_sorted entry_sorted (args_sorted1 _) ?_;unfold Builtin.«sorted»;refine aF (m:=checkCount "sorted" 1 1 _) (aO ?_);refine aF (Qcu lo (by simpa using J) Y hsz fun h1 z j G=>?_)
 refine aF (wpAny_newList ?_ (by rw [sizeLine_eq]; omega));generalize es.toList.map (·.key)=vs at *;have B:(h1.push (seqObj "list" vs.toArray 0)).get? h1.objs.size=some (seqObj "list" vs.toArray 0):=D0 _ rfl;have keep:∀ b o,s.heap.get? b=some o->(h1.push (seqObj "list" vs.toArray 0)).get? b=some o:=fun b o q=>O1 _ (j b o q)
 show aH _ _ _ _ _ { s with heap:=h1.push (seqObj "list" vs.toArray 0),toks:=z };refine aF (au (aq slot_list_sort ⟨_,B,rfl⟩ entry_list_sort ?body (args_list_sort _)))
 case body=>
  refine Q7w (s:={ s with heap:=h1.push (seqObj "list" vs.toArray 0),toks:=z }) B (O.keep keep) I fun p h' k Z U a3 a4=>?_
  exact ⟨_,rfl,aO ⟨_,rfl,h p h' _ k z Z U G a3 fun b o e=>a4 b o (E5 (O7 (j b o e))) (keep b o e)⟩⟩
theorem Qas {d:aA} {es:Array DictEntry} {ep:Nat} {Q:aB->aC->Prop} (lo:(d == ag)=false) (z:RawD s.heap d es ep) (j:es.size < 1000000) (h:∀ t tk,Q (.int es.size t) { s with toks:=tk }):aH (aI prog w) A (call (.builtin "len") [.ref d]) Q E s:=by
 have B:=z.typeIs;have Y:=z.obj;have I:((es.size:Int) < 2 ^ 63):=by omega
 obtain ⟨hp,g,dr,tk,os⟩:=s;refine Calls.call_function_entry kind_len plain_len entry_len (args_len1 _) ?_;unfold Builtin.«len»;have J:=PySem.F.slot_dict_len.lookup;have O:=PySem.F.slot_dict_len.bind (.ref d)
 repeat (any_goals (first | assumption | ((with_reducible show aH _ _ (call (Value.builtin "dict.__len__") _ _) _ _ _); refine aq PySem.F.slot_dict_len B PySem.F.entry_dict_len ?_ (PySem.F.args_dict_len_1 _)) | wp_step))
 refine ⟨_,rfl,?_⟩;have G:((es.size:Int) + ((0:Nat):Int))=(es.size:Int):=by omega
 rw [G];have n1:¬ ((es.size:Int)>=2 ^ 63):=by omega
 have U:¬ ((es.size:Int) < 0):=by omega
 repeat (any_goals (first | assumption | wp_step))
 rw [bS n1]
 repeat (any_goals (first | assumption | wp_step))
 exact ⟨_,rfl,h _ _⟩
end
theorem Qks {P:aL} {w:aK} {H:Hp} {h:Heap} {a:aA} {kvs:List (List Key × V)} (ok:HOk P w H h) (e:H a=some (.dT kvs)):kvs.length<=sizeLine/\(a == ag)=false/\∃ es ep G,RawD h a es ep/\es.toList.map (·.key)=G.map Value.ref/\ae (fun (p:List Key × V) (b:aA)=>H b=some (.tup (p.1.map kV))) kvs G:=by
 obtain ⟨z,hs,xs,j,o,es,ep,U,I,hd,B,Y⟩:=ok a _ e;refine ⟨z,hs,es,ep,xs.map (fun q=>q.2.1),⟨o,U,I,hd⟩,?_,?_⟩
 ·rw [B,D8,D8];exact List.map_congr_left fun q _=>rfl
 ·clear B Y z e
  induction j with
  | nil=>exact .nil
  | cons J _ O=>exact .cons J.2.1 O
theorem Q7s {P:aL} {w:aK} {H:Hp} {h:Heap} (ok:HOk P w H h):∀ {kvs:List (List Key × V)} {j:List aA} {nss:List (List Int)},ae (fun (p:List Key × V) (b:aA)=>H b=some (.tup (p.1.map kV))) kvs j->ae (fun (p:List Key × V) (ns:List Int)=>ns≠[]/\p.1=ns.map Sum.inl) kvs nss->TupsAre h (j.map Value.ref) nss
 | [],_,_,.nil,.nil=>.nil
 | p :: kvs,a :: j,[] :: nss,.cons G t,.cons z u=>absurd rfl z.1
 | p :: kvs,a :: j,(x :: ns) :: nss,.cons G t,.cons z u=>by
  have r:=Q7s ok t u;obtain ⟨_,J,B,o,O,I,n,hd⟩:=ok a _ G;have e:(p.1.map kV)=(x :: ns).map V.int:=by rw [z.2,D8]; rfl
  rw [e] at B;exact .cons O I hd (by simpa using qz B) r
section
variable {X:Cx}
theorem Q7n (a8:X.calm=true):Ur X (.builtin "sorted") (fun xs H Q=>∃ a,∃ kvs:List (List Key × V),∃ nss:List (List Int),xs=[.ref a]/\H a=some (.dT kvs)/\kvs.length < 64/\ae (fun (p:List Key × V) (ns:List Int)=>ns≠[]/\p.1=ns.map Sum.inl) kvs nss /\
  ∀ d (j:List Nat) (vs:List V),H d=none->ae (fun (v:V) (ns:List Int)=>∃ b,v=.ref b/\H b=some (.tup (ns.map V.int))) vs nss->j.Perm (List.range nss.length)->j.map (fun i=>nss.getD i [])=Ws nss->Q (.ref d) (upd H d (.lst (j.map fun i=>vs.getD i .non)))):=by
 intro pins s σ H xs us Q I r h;obtain ⟨a,kvs,nss,rfl,ea,a9,hp,q⟩:=h;obtain ⟨u,rfl,rx⟩:=yf r;cases rx;obtain ⟨z,hs,es,ep,B,hr,U,G⟩:=Qks I.hok ea;have T:=Q7s I.hok G hp;have l1:kvs.length=B.length:=Paired.length G;have Z:kvs.length=nss.length:=Paired.length hp;have Y:ae (fun (v:V) (ns:List Int)=>∃ b,v=.ref b/\H b=some (.tup (ns.map V.int))) (B.map V.ref) nss:=by
  clear q T l1 Z U a9 ea r z
  induction G generalizing nss with
  | nil=>cases hp; exact .nil
  | cons ha _ ih=>
   cases hp with
   | cons hn a7=>
    refine .cons ⟨_,rfl,?_⟩ (ih _ a7);rw [ha,hn.2,D8]; rfl
 refine Qdb hs (I.ok.hd a8) hr (by rw [U]; exact T) (by rw [U,O0]; omega) fun j h' D k tk J a2 a3 a4 a5=>?_
 rw [U] at J a2 a4;rw [O0] at J a2;have e:=Q7x (nss:=nss) (p:=j) (by rw [<- Z,l1]; exact J) (fun i g1 g2=>a2 i g1 (by omega))
 have b0:j.length=B.length:=by rw [J.length_eq,E8]
 have hv:Vals (j.map fun i=>(B.map V.ref).getD i .non) (j.map fun i=>(B.map Value.ref).getD i Value.none):=by
  have a6:∀ l:List Nat,(∀ x∈l,x < B.length)->Vals (l.map fun i=>(B.map V.ref).getD i .non) (l.map fun i=>(B.map Value.ref).getD i Value.none):=by
   intro l
   induction l with
   | nil=>intro _; exact .nil
   | cons x l ih=>
    intro hl;have O:=hl x (by simp);refine .cons ?_ (ih fun y hy=>hl y (O5 _ hy))
    show RelV ((B.map V.ref).getD x .non) ((B.map Value.ref).getD x Value.none);rw [D6,E3,O3 O,D6,E3,O3 O];rfl
  exact a6 j fun x O=>by have:=J.mem_iff.mp O; simpa using this
 exact ⟨.ref D,_,I.laid (t':=tk) (o:=.lst (j.map fun i=>(B.map V.ref).getD i .non)) a5 a3 ⟨by rw [O0]; rw [sizeLine_eq] at *; omega,_,k,hv,a4⟩,rfl,q D j _ (I.hok.fresh a3) Y (by rw [<- Z,l1]; exact J) e⟩
theorem Qec:Ur X (.builtin "len") (fun xs H Q=>∃ a,∃ kvs:List (List Key × V),xs=[.ref a]/\H a=some (.dT kvs)/\kvs.length < 1000000/\Q (.int kvs.length) H):=by
 intro pins s σ H xs us Q I r h;obtain ⟨a,kvs,rfl,U,hl,q⟩:=h;obtain ⟨u,rfl,O⟩:=yf r;cases O;obtain ⟨z,hs,es,ep,B,J,G,j⟩:=Qks I.hok U;have Z:kvs.length=B.length:=Paired.length j;have Y:es.size=kvs.length:=by
  have:=congrArg List.length G;simp at this;omega
 refine Qas hs J (by omega) fun t tk=>?_
 exact ⟨.int kvs.length,H,I.tok _,⟨t,by rw [Y]⟩,q⟩
end
end L2
namespace L2
open PySem PySem.Spec PyProof.Rows
section
variable {prog:aL} {w:aK} {K:Type} [DecidableEq K]
variable {knd:KeyKind prog w K} {L:Bool} {A:aN} {E:aB->aC->Prop} {s:aC} {a:aA}
end
section
variable {prog:aL} {w:aK} {A:aN} {E:aB->aC->Prop} {s:aC}
end
section
variable {prog:aL} {w:aK} {A:aN} {E:aB->aC->Prop} {s:aC}
end
section
variable {prog:aL} {w:aK} {K:Type} [DecidableEq K] {knd:KeyKind prog w K} {A:aN} {R:Result->aC->Prop}
end
section
variable {prog:aL} {w:aK} {A:aN} {E:aB->aC->Prop} {s:aC}
end
section
variable {prog:aL} {w:aK} {A:aN} {E:aB->aC->Prop} {s:aC}
end
section
variable {prog:aL} {w:aK} {A:aN} {E:aB->aC->Prop} {s:aC}
end
def Qe8 (a:Int):List Int->List Int
 | []=>[a]
 | b :: r=>if a<=b then a :: b :: r else b :: Qe8 a r
def Up:List Int->List Int
 | []=>[]
 | a :: r=>Qe8 a (Up r)
theorem Q3i (a:Int):∀ l,(Qe8 a l).Perm (a :: l)
 | []=>List.Perm.refl _
 | b :: r=>by
  rw [Qe8]
  split
  ·exact List.Perm.refl _
  ·exact ((Q3i a r).cons b).trans (List.Perm.swap a b r)
theorem Uf:∀ l,(Up l).Perm l
 | []=>List.Perm.refl _
 | a :: r=>(Q3i a (Up r)).trans ((Uf r).cons a)
theorem Q3z {a:Int}:∀ {l:List Int},l.Pairwise (·<=·)->(Qe8 a l).Pairwise (·<=·)
 | [],_=>by rw [Qe8]; exact List.pairwise_singleton _ _
 | b :: r,h=>by
  obtain ⟨h1,h2⟩:=F7.mp h;rw [Qe8]
  split
  ·rename_i q;refine F7.mpr ⟨fun x j=>?_,h⟩;rcases D3.mp j with rfl | j
   ·exact q
   ·exact Int.le_trans q (h1 x j)
  ·rename_i q;refine F7.mpr ⟨fun x j=>?_,Q3z h2⟩;rcases D3.mp ((Q3i a r).mem_iff.mp j) with rfl | j
   ·omega
   ·exact h1 x j
theorem zq:∀ l,(Up l).Pairwise (·<=·)
 | []=>List.Pairwise.nil
 | a :: r=>Q3z (zq r)
theorem Q53:∀ {a b:List Int},a.Perm b->a.Pairwise (·<=·)->b.Pairwise (·<=·)->a=b
 | [],b,h,_,_=>(List.nil_perm.mp h).symm
 | x :: a,[],h,_,_=>absurd (List.perm_nil.mp h) (by simp)
 | x :: a,y :: b,h,I,z=>by
  obtain ⟨U,O⟩:=F7.mp I;obtain ⟨J,B⟩:=F7.mp z;have e:x=y:=by
   rcases D3.mp (h.mem_iff.mp (O8 (a:=x) (l:=a))) with e | G
   ·exact e
   ·rcases D3.mp (h.mem_iff.mpr (O8 (a:=y) (l:=b))) with e | j
    ·exact e.symm
    ·exact Int.le_antisymm (U y j) (J x G)
  subst e;rw [Q53 (List.Perm.cons_inv h) O B]
section
variable {X:Cx}
theorem Q4w:∀ {vs:List aB} {ns:List Int},IntsAre vs ns->Vals (ns.map V.int) vs
 | _,_,.nil=>.nil
 | _,_,.cons n t j=>.cons ⟨t,rfl⟩ (Q4w j)
end
section
variable {prog:aL} {w:aK} {A:aN} {E:aB->aC->Prop} {s:aC}
theorem Qct {d:aA} {o:Obj} {vs:List aB} {n:Nat} {Q:List aB->aC->Prop} (I:s.heap.get? d=some o) (O:o.cls=.type "tuple") (hd:o.data=.seq vs.toArray n) (U:vs.length<=sizeLine)
  (h:∀ h',(∀ b o,s.heap.get? b=some o->h'.get? b=some o)->s.heap.objs.size<=h'.objs.size->Q vs { s with heap:=h' }):aH (aI prog w) A (collect (.ref d)) Q E s:=by
 unfold collect;refine aF (wpAny_runValue (bJ PySem.F.entry_proto_collect ?_));rw [Around.under_plainId PySem.F.plain_proto_collect _];show aH _ A.in1 (newList [] >>= fun l=>again (.builtin "list.__iadd__" ⟨[l,.ref d],[]⟩)) _ _ s
 refine aF (ay ?_);refine aO ⟨bP PySem.F.plain_list_iadd _,bJ PySem.F.entry_list_iadd ?_⟩;rw [Around.under_plainId PySem.F.plain_list_iadd _];have B:(s.heap.push { cls:=.type "list",data:=.seq ([]:List aB).toArray }).get? s.heap.objs.size=some { cls:=.type "list",data:=.seq ([]:List aB).toArray }:=D0 _ rfl;have j:∀ b o,s.heap.get? b=some o->(s.heap.push { cls:=.type "list",data:=.seq ([]:List aB).toArray }).get? b=some o:=fun b o e=>O1 _ e
 have G:s.heap.objs.size≠d:=Nat.ne_of_gt (O7 I);show aH _ A.in1 (Builtin.List.listExtendWith (.ref s.heap.objs.size) (.ref d) (.ref s.heap.objs.size)) _ _ _;unfold Builtin.List.listExtendWith;refine aF (bL (T := "tuple") ⟨_,j _ _ I,O⟩ ?_);have h1:Builtin.List.listSameRef (.ref s.heap.objs.size) (.ref d)=false:=by simp [Builtin.List.listSameRef,G]
 have e1:(Value.type "tuple" == Value.type "list")=false:=by decide
 have e2:(Value.type "tuple" == Value.type "tuple")=true:=by decide
 simp only [h1,e1,e2,Bool.or_true,Bool.false_eq_true,if_true,if_false];refine aF (wpAny_listItems (j _ _ I) hd ?_);refine aF (wpAny_listItems B rfl ?_);simp only [List.isEmpty_toArray,Array.isEmpty_empty,List.isEmpty_nil,Bool.not_true,Bool.false_and,Bool.false_eq_true,if_false];have z:=L8 (Obj.mapSeq (· ++ vs.toArray)) B rfl;refine aF (wpAny_updateSeq (s:={ s with heap:=s.heap.push { cls:=.type "list",data:=.seq ([]:List aB).toArray } }) B rfl ?_ (by simp) (by simp; omega));refine aO ?_;show aH _ A (load s.heap.objs.size >>= _) _ _ _;refine aF (wpAny_load z ?_);have J:s.heap.objs.size<=((s.heap.push { cls:=.type "list",data:=.seq ([]:List aB).toArray }).update s.heap.objs.size (Obj.mapSeq (· ++ vs.toArray))).objs.size:=E2 (O7 z);have kp:∀ b o,s.heap.get? b=some o->((s.heap.push { cls:=.type "list",data:=.seq ([]:List aB).toArray }).update s.heap.objs.size (Obj.mapSeq (· ++ vs.toArray))).get? b=some o:=fun b o q=>(F2 _ _ (Ne.symm (E5 (O7 q)))).trans (j b o q)
 have:=h _ kp J;exact aO (by simpa [Obj.mapSeq] using this)
theorem Qba {l:aA} {o:Obj} {vs:List aB} {n:Nat} {ns:List Int} {Q:aB->aC->Prop} (Z:s.heap.get? l=some o) (O:o.cls=.type "tuple") (hd:o.data=.seq vs.toArray n) (Y:IntsAre vs ns) (G:vs.length < 64)
  (h:∀ (out:Array aB) (z:List Int) (h':Heap) (D k:Nat),IntsAre out.toList z->z.Perm ns->z.Pairwise (·<=·)->s.heap.objs.size<=D->h'.get? D=some (seqObj "list" out k)->(∀ b o,s.heap.get? b=some o->h'.get? b=some o)->Q (.ref D) { s with heap:=h' }) :
  aH (aI prog w) A (call (.builtin "sorted") [.ref l]) Q E s:=by
 refine Calls.call_function_entry kind_sorted plain_sorted entry_sorted (args_sorted1 _) ?_;unfold Builtin.«sorted»;refine aF (m:=checkCount "sorted" 1 1 _) (aO ?_);refine aF (Qct Z O hd (by rw [sizeLine_eq]; omega) fun h1 j J=>?_)
 refine aF (wpAny_newList ?_ (by rw [sizeLine_eq]; omega));have B:(h1.push (seqObj "list" vs.toArray 0)).get? h1.objs.size=some (seqObj "list" vs.toArray 0):=D0 _ rfl;have keep:∀ b o,s.heap.get? b=some o->(h1.push (seqObj "list" vs.toArray 0)).get? b=some o:=fun b o q=>O1 _ (j b o q)
 show aH _ _ _ _ _ { s with heap:=h1.push (seqObj "list" vs.toArray 0) };refine aF (au (aq slot_list_sort ⟨_,B,rfl⟩ entry_list_sort (list_sort_tree (s:={ s with heap:=h1.push (seqObj "list" vs.toArray 0) }) B Y G fun out z a1 a2 a3=>⟨_,rfl,?_⟩) (args_list_sort _)))
 obtain ⟨k,U⟩:=sortedHeap_at (out:=out) B;refine aO ⟨_,rfl,h out z _ h1.objs.size k a1 a2 a3 J U fun b o q=>?_⟩;have I:=O7 (j b o q);exact (sortedHeap_old (E5 I) (D4 I (by rw [F9]; exact Nat.le_succ _))).trans (keep b o q)
end
section
variable {X:Cx}
theorem Qap:Ur X (.builtin "sorted") (fun xs H Q=>∃ p ks,xs=[.ref p]/\SqT X.K H p (ks.map V.int)/\ks.length < 64/\∀ d,H d=none->Q (.ref d) (upd H d (.lst ((Up ks).map V.int)))):=by
 intro pins s σ H xs us Q I r h;obtain ⟨p,ks,rfl,hq,hl,q⟩:=h;obtain ⟨u,rfl,O⟩:=yf r;cases O;obtain ⟨its,G,pl,hz⟩:=I.tuple hq;have hi:=qz G;have B:its.length=ks.length:=by rw [<- G.length,O0]
 obtain ⟨o,ho,Z,n,hd⟩:=pl;refine Qba ho Z hd hi (by omega) fun out j h' D k a1 Y a3 z J U=>?_
 have e:j=Up ks:=Q53 (Y.trans (Uf ks).symm) a3 (zq ks);subst e;refine ⟨.ref D,upd H D (.lst ((Up ks).map V.int)),I.laid (t':=s.toks) (o:=.lst ((Up ks).map V.int)) U z ⟨?_,out.toList,k,Q4w a1,?_⟩,rfl,q D (I.hok.fresh z)⟩
 ·rw [O0,(Uf ks).length_eq,sizeLine_eq]; omega
 ·rw [Array.toArray_toList]; exact J
end
end L2
namespace L2
open PySem PySem.Spec PyProof.Rows SeqAt
section
variable {prog:aL} {w:aK} {K:Type} [DecidableEq K] {knd:KeyKind prog w K} {A:aN} {E:aB->aC->Prop} {s:aC}
end
section
variable {prog:aL} {w:aK} {K:Type} [DecidableEq K] {knd:KeyKind prog w K} {A:aN} {E:aB->aC->Prop} {s:aC}
end
section
variable {X:Cx}
end
end L2
namespace L2
open PySem PySem.Spec PyProof.Rows SeqAt
section
variable {X:Cx}
end
end L2
namespace Sm
open PySem PySem.Spec L2
section
inductive PV where
 | non | bl (b:Bool) | int (i:Int) | str (x:Str) | tup (xs:List PV) | lst (xs:List PV) | fro (xs:List PV) | ref (i:Nat) | dic
inductive Cell where
 | lst (xs:List PV) | dic (kvs:List (Key × PV)) | dtp (kvs:List (List Key × PV)) | frd (kvs:List (Key × PV))
 | obj (C:aA) (fs:List (Str × PV))
abbrev Q2:=List Cell
structure Exc where
 cls:Str
 fs:Option (Str × PV):=none
inductive Res (α:Type) where
 | ok (a:α) (st:Q2) | exc (x:Exc) (st:Q2) | stuck
abbrev Gam:=List (Option PV)
abbrev ME:=Gam->Q2->Res PV
structure Tk where
 tr:List aA
 hid:List aA
instance:Membership aA Tk:=⟨fun t a=>a∈t.tr\/a∈t.hid⟩
def Tk.nil:Tk:=⟨[],[]⟩
theorem Tk.not_nil (a:aA):a∉Tk.nil:=fun z=>by rcases z with z | z <;> cases z
def Tk.add (t:Tk) (p:aA):Tk:=⟨t.tr ++ [p],t.hid⟩
def Tk.hide (t:Tk) (p:aA):Tk:=⟨t.tr,p :: t.hid⟩
mutual
def Rep (H:Hp) (ρ:Tk):PV->V->Prop
 | .non,v=>v=.non
 | .bl b,v=>v=.bl b
 | .int i,v=>v=.int i
 | .str x,v=>v=.str x
 | .tup ps,v=>∃ a vs,v=.ref a/\H a=some (.tup vs)/\a∉ρ/\RepL H ρ ps vs
 | .lst ps,v=>∃ a vs,v=.ref a/\H a=some (.lst vs)/\a∉ρ/\RepL H ρ ps vs
 | .fro ps,v=>∃ a vs,v=.ref a/\Rd H a (.lst vs)/\a∉ρ/\RepL H ρ ps vs
 | .ref i,v=>∃ a,ρ.tr[i]?=some a/\v=.ref a
 | .dic,v=>∃ a,v=.ref a/\H a=some (.dK [])/\a∉ρ
def RepL (H:Hp) (ρ:Tk):List PV->List V->Prop
 | [],vs=>vs=[]
 | p :: ps,vs=>∃ v r,vs=v :: r/\Rep H ρ p v/\RepL H ρ ps r
end
structure Ext (H:Hp) (ρ:Tk) (H':Hp) (ρ':Tk):Prop where
 pre:ρ.tr <+: ρ'.tr
 hidM:∀ a,a∈ρ.hid->a∈ρ'.hid
 hidN:∀ a,a∈ρ'.hid->a∈ρ.hid\/H a=none
 keep:∀ a o,H a=some o->a∉ρ.tr->H' a=some o
 new:∀ a,a∈ρ'.tr->a∈ρ.tr\/H a=none
 old:∀ a o,H a=some o->∃ o',H' a=some o'
 frz:∀ a o u,H a=some (.frz o u)->H' a=some (.frz o u)
theorem Ext.refl (H:Hp) (ρ:Tk):Ext H ρ H ρ:=⟨List.prefix_refl _,fun _ h=>h,fun _ h=>.inl h,fun _ _ h _=>h,fun _ h=>.inl h,fun _ o h=>⟨o,h⟩,fun _ _ _ h=>h⟩
theorem Ext.trans {H H1 H2:Hp} {ρ ρ1 j:Tk} (a:Ext H ρ H1 ρ1) (b:Ext H1 ρ1 H2 j):Ext H ρ H2 j where
 pre:=a.pre.trans b.pre
 hidM:=fun x h=>b.hidM x (a.hidM x h)
 hidN:=fun x h=>by
  rcases b.hidN x h with z | z
  ·exact a.hidN x z
  ·right
   cases q:H x with
   | none=>rfl
   | some o=>
    obtain ⟨o',e⟩:=a.old x o q;rw [e] at z; cases z
 keep:=fun x o h n=>b.keep x o (a.keep x o h n) fun z=>by
  rcases a.new x z with z | z
  ·exact n z
  ·rw [h] at z; cases z
 new:=fun x h=>by
  rcases b.new x h with z | z
  ·exact a.new x z
  ·right
   cases q:H x with
   | none=>rfl
   | some o=>
    obtain ⟨o',e⟩:=a.old x o q;rw [e] at z; cases z
 old:=fun x o h=>by
  obtain ⟨o',e⟩:=a.old x o h;exact b.old x o' e
 frz:=fun x o u h=>b.frz x o u (a.frz x o u h)
theorem Ext.add {H:Hp} {ρ:Tk} {p:aA} {o:HO} (h:H p=none):Ext H ρ (upd H p o) ρ where
 pre:=List.prefix_refl _
 hidM:=fun _ h=>h
 hidN:=fun _ h=>.inl h
 keep:=fun a u e _=>by rw [Qn (Qp e h)]; exact e
 new:=fun a e=>.inl e
 old:=fun a u e=>⟨u,by rw [Qn (Qp e h)]; exact e⟩
 frz:=fun a o u e=>by rw [Qn (Qp e h)]; exact e
theorem Ext.addT {H:Hp} {ρ:Tk} {p:aA} {o:HO} (h:H p=none):Ext H ρ (upd H p o) (ρ.add p) where
 pre:=List.prefix_append _ _
 hidM:=fun _ h=>h
 hidN:=fun _ h=>.inl h
 keep:=fun a u e _=>by rw [Qn (Qp e h)]; exact e
 new:=fun a e=>by
  rcases E4.mp e with z | z
  ·exact .inl z
  ·right
   have:a=p:=by simpa using z
   rw [this]; exact h
 old:=fun a u e=>⟨u,by rw [Qn (Qp e h)]; exact e⟩
 frz:=fun a o u e=>by rw [Qn (Qp e h)]; exact e
theorem Ext.same {H H':Hp} {ρ:Tk} (h:Same H H'):Ext H ρ H' ρ:=⟨List.prefix_refl _,fun _ h=>h,fun _ h=>.inl h,fun a o e _=>h a o e,fun _ e=>.inl e,fun a o e=>⟨o,h a o e⟩,fun a o u e=>h a _ e⟩
section
variable {H H':Hp} {ρ ρ':Tk}
theorem zc {a:aA} {o:HO} (x:Ext H ρ H' ρ') (h:H a=some o) (n:a∉ρ):a∉ρ':=fun z=>by
 rcases z with z | z
 ·rcases x.new a z with z | z
  ·exact n (.inl z)
  ·rw [h] at z; cases z
 ·rcases x.hidN a z with z | z
  ·exact n (.inr z)
  ·rw [h] at z; cases z
theorem Ext.kp {a:aA} {o:HO} (x:Ext H ρ H' ρ') (h:H a=some o) (n:a∉ρ):H' a=some o:=x.keep a o h fun z=>n (.inl z)
mutual
theorem Rep.ext (x:Ext H ρ H' ρ'):∀ {p:PV} {v:V},Rep H ρ p v->Rep H' ρ' p v
 | .non,_,h=>h
 | .bl _,_,h=>h
 | .int _,_,h=>h
 | .str _,_,h=>h
 | .tup ps,v,h=>by
  obtain ⟨a,vs,e,s,n,r⟩:=h;exact ⟨a,vs,e,x.kp s n,zc x s n,RepL.ext x r⟩
 | .lst ps,v,h=>by
  obtain ⟨a,vs,e,s,n,r⟩:=h;exact ⟨a,vs,e,x.kp s n,zc x s n,RepL.ext x r⟩
 | .fro ps,v,h=>by
  obtain ⟨a,vs,e,s,n,r⟩:=h;rcases s with s | ⟨o,s⟩
  ·exact ⟨a,vs,e,.inl (x.kp s n),zc x s n,RepL.ext x r⟩
  ·exact ⟨a,vs,e,.inr ⟨o,x.kp s n⟩,zc x s n,RepL.ext x r⟩
 | .ref i,v,h=>by
  obtain ⟨a,e,rfl⟩:=h;obtain ⟨t,j⟩:=x.pre;refine ⟨a,?_,rfl⟩;rw [<- j,O9 (O2.mp e).1];exact e
 | .dic,v,h=>by
  obtain ⟨a,e,s,n⟩:=h;exact ⟨a,e,x.kp s n,zc x s n⟩
theorem RepL.ext (x:Ext H ρ H' ρ'):∀ {ps:List PV} {vs:List V},RepL H ρ ps vs->RepL H' ρ' ps vs
 | [],_,h=>h
 | p :: ps,vs,h=>by
  obtain ⟨v,r,e,h1,h2⟩:=h;exact ⟨v,r,e,Rep.ext x h1,RepL.ext x h2⟩
end
mutual
theorem Rep.hide {a:aA} {o:HO} (h:H a=none):∀ {p:PV} {v:V},Rep H ρ p v->Rep (upd H a o) (ρ.hide a) p v
 | .non,_,r=>r
 | .bl _,_,r=>r
 | .int _,_,r=>r
 | .str _,_,r=>r
 | .tup ps,v,⟨b,vs,e,s,n,r⟩=>⟨b,vs,e,by rw [Qn (Qp s h)]; exact s,fun z=>by
   rcases z with z | z
   ·exact n (.inl z)
   ·rcases D3.mp z with z | z
    ·exact Qp s h z
    ·exact n (.inr z),RepL.hide h r⟩
 | .lst ps,v,⟨b,vs,e,s,n,r⟩=>⟨b,vs,e,by rw [Qn (Qp s h)]; exact s,fun z=>by
   rcases z with z | z
   ·exact n (.inl z)
   ·rcases D3.mp z with z | z
    ·exact Qp s h z
    ·exact n (.inr z),RepL.hide h r⟩
 | .fro ps,v,⟨b,vs,e,s,n,r⟩=>by
   have ne:b≠a:=by
    rcases s with s | ⟨_,s⟩
    ·exact Qp s h
    ·exact Qp s h
   refine ⟨b,vs,e,?_,fun z=>?_,RepL.hide h r⟩
   ·rcases s with s | ⟨u,s⟩
    ·exact .inl (by rw [Qn ne]; exact s)
    ·exact .inr ⟨u,by rw [Qn ne]; exact s⟩
   ·rcases z with z | z
    ·exact n (.inl z)
    ·rcases D3.mp z with z | z
     ·exact ne z
     ·exact n (.inr z)
 | .ref i,v,r=>r
 | .dic,v,⟨b,e,s,n⟩=>⟨b,e,by rw [Qn (Qp s h)]; exact s,fun z=>by
   rcases z with z | z
   ·exact n (.inl z)
   ·rcases D3.mp z with z | z
    ·exact Qp s h z
    ·exact n (.inr z)⟩
theorem RepL.hide {a:aA} {o:HO} (h:H a=none):∀ {ps:List PV} {vs:List V},RepL H ρ ps vs->RepL (upd H a o) (ρ.hide a) ps vs
 | [],_,r=>r
 | p :: ps,_,⟨v,t,e,j,z⟩=>⟨v,t,e,Rep.hide h j,RepL.hide h z⟩
end
mutual
theorem Rep.rehide {a:aA} {o:HO} (h:a∈ρ.hid):∀ {p:PV} {v:V},Rep H ρ p v->Rep (upd H a o) ρ p v
 | .non,_,r=>r
 | .bl _,_,r=>r
 | .int _,_,r=>r
 | .str _,_,r=>r
 | .tup ps,v,⟨b,vs,e,s,n,r⟩=>⟨b,vs,e,by rw [Qn (show b≠a from fun z=>n (.inr (by rw [z]; exact h)))]; exact s,n,RepL.rehide h r⟩
 | .lst ps,v,⟨b,vs,e,s,n,r⟩=>⟨b,vs,e,by rw [Qn (show b≠a from fun z=>n (.inr (by rw [z]; exact h)))]; exact s,n,RepL.rehide h r⟩
 | .fro ps,v,⟨b,vs,e,s,n,r⟩=>by
   have ne:b≠a:=fun z=>n (.inr (by rw [z]; exact h))
   refine ⟨b,vs,e,?_,n,RepL.rehide h r⟩;rcases s with s | ⟨u,s⟩
   ·exact .inl (by rw [Qn ne]; exact s)
   ·exact .inr ⟨u,by rw [Qn ne]; exact s⟩
 | .ref i,v,r=>r
 | .dic,v,⟨b,e,s,n⟩=>⟨b,e,by rw [Qn (show b≠a from fun z=>n (.inr (by rw [z]; exact h)))]; exact s,n⟩
theorem RepL.rehide {a:aA} {o:HO} (h:a∈ρ.hid):∀ {ps:List PV} {vs:List V},RepL H ρ ps vs->RepL (upd H a o) ρ ps vs
 | [],_,r=>r
 | p :: ps,_,⟨v,t,e,j,z⟩=>⟨v,t,e,Rep.rehide h j,RepL.rehide h z⟩
end
mutual
theorem Rep.retr {a:aA} {o:HO} (h:a∈ρ.tr):∀ {p:PV} {v:V},Rep H ρ p v->Rep (upd H a o) ρ p v
 | .non,_,r=>r
 | .bl _,_,r=>r
 | .int _,_,r=>r
 | .str _,_,r=>r
 | .tup ps,v,⟨b,vs,e,s,n,r⟩=>⟨b,vs,e,by rw [Qn (show b≠a from fun z=>n (.inl (by rw [z]; exact h)))]; exact s,n,RepL.retr h r⟩
 | .lst ps,v,⟨b,vs,e,s,n,r⟩=>⟨b,vs,e,by rw [Qn (show b≠a from fun z=>n (.inl (by rw [z]; exact h)))]; exact s,n,RepL.retr h r⟩
 | .fro ps,v,⟨b,vs,e,s,n,r⟩=>by
   have ne:b≠a:=fun z=>n (.inl (by rw [z]; exact h))
   refine ⟨b,vs,e,?_,n,RepL.retr h r⟩;rcases s with s | ⟨u,s⟩
   ·exact .inl (by rw [Qn ne]; exact s)
   ·exact .inr ⟨u,by rw [Qn ne]; exact s⟩
 | .ref i,v,r=>r
 | .dic,v,⟨b,e,s,n⟩=>⟨b,e,by rw [Qn (show b≠a from fun z=>n (.inl (by rw [z]; exact h)))]; exact s,n⟩
theorem RepL.retr {a:aA} {o:HO} (h:a∈ρ.tr):∀ {ps:List PV} {vs:List V},RepL H ρ ps vs->RepL (upd H a o) ρ ps vs
 | [],_,r=>r
 | p :: ps,_,⟨v,t,e,j,z⟩=>⟨v,t,e,Rep.retr h j,RepL.retr h z⟩
end
mutual
theorem Rep.unhide {hs:List aA} (j:∀ a,a∈hs->a∈ρ.hid):∀ {p:PV} {v:V},Rep H ρ p v->Rep H ⟨ρ.tr,hs⟩ p v
 | .non,_,r=>r
 | .bl _,_,r=>r
 | .int _,_,r=>r
 | .str _,_,r=>r
 | .tup ps,v,⟨b,vs,e,s,n,r⟩=>⟨b,vs,e,s,fun z=>n (z.imp id (j _)),RepL.unhide j r⟩
 | .lst ps,v,⟨b,vs,e,s,n,r⟩=>⟨b,vs,e,s,fun z=>n (z.imp id (j _)),RepL.unhide j r⟩
 | .fro ps,v,⟨b,vs,e,s,n,r⟩=>⟨b,vs,e,s,fun z=>n (z.imp id (j _)),RepL.unhide j r⟩
 | .ref i,v,r=>r
 | .dic,v,⟨b,e,s,n⟩=>⟨b,e,s,fun z=>n (z.imp id (j _))⟩
theorem RepL.unhide {hs:List aA} (j:∀ a,a∈hs->a∈ρ.hid):∀ {ps:List PV} {vs:List V},RepL H ρ ps vs->RepL H ⟨ρ.tr,hs⟩ ps vs
 | [],_,r=>r
 | p :: ps,_,⟨v,t,e,B,z⟩=>⟨v,t,e,Rep.unhide j B,RepL.unhide j z⟩
end
theorem RepL.length:∀ {ps:List PV} {vs:List V},RepL H ρ ps vs->ps.length=vs.length
 | [],_,h=>by cases h; rfl
 | p :: ps,_,⟨v,r,rfl,_,h2⟩=>by rw [F4,F4,RepL.length h2]
theorem RepL.get:∀ {ps:List PV} {vs:List V} {i:Nat} {p:PV},RepL H ρ ps vs->ps[i]?=some p->∃ v,vs[i]?=some v/\Rep H ρ p v
 | [],_,_,_,_,e=>by simp at e
 | p :: ps,_,0,q,⟨v,r,rfl,h1,h2⟩,e=>by simp at e; subst e; exact ⟨v,rfl,h1⟩
 | p :: ps,_,i + 1,q,⟨v,r,rfl,h1,h2⟩,e=>by
  obtain ⟨u,e1,e2⟩:=RepL.get (i:=i) h2 (by simpa using e);exact ⟨u,by simpa using e1,e2⟩
theorem RepL.cons {p:PV} {v:V} {ps:List PV} {vs:List V} (h:Rep H ρ p v) (r:RepL H ρ ps vs):RepL H ρ (p :: ps) (v :: vs):=⟨v,vs,rfl,h,r⟩
theorem RepL.nil:RepL H ρ [] []:=rfl
theorem RepL.append:∀ {ps j:List PV} {vs z:List V},RepL H ρ ps vs->RepL H ρ j z->RepL H ρ (ps ++ j) (vs ++ z)
 | [],_,_,_,h,g=>by cases h; exact g
 | p :: ps,_,_,_,⟨v,r,rfl,h1,h2⟩,g=>⟨v,_,rfl,h1,RepL.append h2 g⟩
theorem RepL.take:∀ {ps:List PV} {vs:List V} (n:Nat),RepL H ρ ps vs->RepL H ρ (ps.take n) (vs.take n)
 | _,_,0,_=>rfl
 | [],_,n + 1,h=>by cases h; rfl
 | p :: ps,_,n + 1,⟨v,r,rfl,h1,h2⟩=>⟨v,_,rfl,h1,RepL.take n h2⟩
theorem RepL.drop:∀ {ps:List PV} {vs:List V} (n:Nat),RepL H ρ ps vs->RepL H ρ (ps.drop n) (vs.drop n)
 | _,_,0,h=>h
 | [],_,n + 1,h=>by cases h; rfl
 | p :: ps,_,n + 1,⟨v,r,rfl,h1,h2⟩=>RepL.drop n h2
theorem RepL.set {p:PV} {v:V} (h:Rep H ρ p v):∀ {ps:List PV} {vs:List V} (i:Nat),RepL H ρ ps vs->RepL H ρ (ps.set i p) (vs.set i v)
 | [],_,_,g=>by cases g; rfl
 | q :: ps,_,0,⟨u,r,rfl,h1,h2⟩=>⟨v,r,rfl,h,h2⟩
 | q :: ps,_,i + 1,⟨u,r,rfl,h1,h2⟩=>⟨u,_,rfl,h1,RepL.set h i h2⟩
theorem RepL.rep {ps:List PV} {vs:List V} (h:RepL H ρ ps vs):∀ n,RepL H ρ (List.replicate n ps).flatten (List.replicate n vs).flatten
 | 0=>rfl
 | n + 1=>by rw [List.replicate_succ,List.replicate_succ,List.flatten_cons,List.flatten_cons]; exact h.append (RepL.rep h n)
theorem RepL.toInts:∀ {ns:List Int} {vs:List V},RepL H ρ (ns.map .int) vs->vs=ns.map V.int
 | [],_,h=>h
 | n :: ns,_,⟨v,r,rfl,h1,h2⟩=>by
  have e:v=V.int n:=h1;rw [RepL.toInts h2,e]; rfl
theorem RepL.toBls:∀ {ns:List Bool} {vs:List V},RepL H ρ (ns.map .bl) vs->vs=ns.map V.bl
 | [],_,h=>h
 | n :: ns,_,⟨v,r,rfl,h1,h2⟩=>by
  have e:v=V.bl n:=h1;rw [RepL.toBls h2,e]; rfl
end
def RepD {κ:Type} (H:Hp) (ρ:Tk) (kvs:List (κ × PV)) (vs:List (κ × V)):Prop:=vs.map Prod.fst=kvs.map Prod.fst/\RepL H ρ (kvs.map Prod.snd) (vs.map Prod.snd)
theorem RepD.ext {κ:Type} {H H':Hp} {ρ ρ':Tk} {kvs:List (κ × PV)} {vs:List (κ × V)} (x:Ext H ρ H' ρ') (r:RepD H ρ kvs vs):RepD H' ρ' kvs vs:=⟨r.1,r.2.ext x⟩
theorem RepD.length {κ:Type} {H:Hp} {ρ:Tk} {kvs:List (κ × PV)} {vs:List (κ × V)} (r:RepD H ρ kvs vs):kvs.length=vs.length:=by
 have:=congrArg List.length r.1;rw [O0,O0] at this;exact this.symm
def CellR (H:Hp) (ρ:Tk) (a:aA):Cell->Prop
 | .lst ps=>∃ vs,H a=some (.lst vs)/\RepL H ρ ps vs
 | .dic kvs=>∃ vs,H a=some (.dK vs)/\RepD H ρ kvs vs
 | .dtp kvs=>∃ vs,H a=some (.dT vs)/\RepD H ρ kvs vs
 | .frd kvs=>∃ vs,(∃ o,H a=some (.frz o (.dK vs)))/\RepD H ρ kvs vs
 | .obj C fs=>∃ vs,(∃ dx,H a=some (.ins C dx vs))/\RepD H ρ fs vs
theorem CellR.dom {H:Hp} {ρ:Tk} {a:aA}:∀ {c:Cell},CellR H ρ a c->∃ o,H a=some o
 | .lst _,⟨_,e,_⟩=>⟨_,e⟩
 | .dic _,⟨_,e,_⟩=>⟨_,e⟩
 | .dtp _,⟨_,e,_⟩=>⟨_,e⟩
 | .frd _,⟨_,⟨_,e⟩,_⟩=>⟨_,e⟩
 | .obj _ _,⟨_,⟨_,e⟩,_⟩=>⟨_,e⟩
theorem CellR.ext {H H':Hp} {ρ ρ':Tk} {a:aA} (x:Ext H ρ H' ρ') (k:∀ o,H a=some o->H' a=some o):∀ {c:Cell},CellR H ρ a c->CellR H' ρ' a c
 | .lst _,⟨vs,e,r⟩=>⟨vs,k _ e,r.ext x⟩
 | .dic _,⟨vs,e,r⟩=>⟨vs,k _ e,r.ext x⟩
 | .dtp _,⟨vs,e,r⟩=>⟨vs,k _ e,r.ext x⟩
 | .frd _,⟨vs,⟨o,e⟩,r⟩=>⟨vs,⟨o,k _ e⟩,r.ext x⟩
 | .obj _ _,⟨vs,⟨o,e⟩,r⟩=>⟨vs,⟨o,k _ e⟩,r.ext x⟩
structure Rel (H:Hp) (ρ:Tk) (st:Q2):Prop where
 len:ρ.tr.length=st.length
 nd:ρ.tr.Nodup
 hd:∀ a∈ρ.hid,∃ o,H a=some o/\∀ xs,o≠.tup xs
 ap:∀ a∈ρ.hid,a∉ρ.tr
 cell:∀ (i:Nat) (a:aA) (c:Cell),ρ.tr[i]?=some a->st[i]?=some c->CellR H ρ a c
section
variable {H H':Hp} {ρ ρ':Tk} {st st':Q2}
theorem Rel.lst (R:Rel H ρ st) {i:Nat} {ps:List PV} (h:st[i]?=some (.lst ps)):∃ a vs,ρ.tr[i]?=some a/\H a=some (.lst vs)/\RepL H ρ ps vs:=by
 have hi:i < ρ.tr.length:=by rw [R.len]; exact (O2.mp h).1
 have e:ρ.tr[i]?=some ρ.tr[i]:=O3 hi;obtain ⟨vs,e1,e2⟩:=R.cell i _ _ e h;exact ⟨_,vs,e,e1,e2⟩
theorem Rel.dtp (R:Rel H ρ st) {i:Nat} {kvs:List (List Key × PV)} (h:st[i]?=some (.dtp kvs)):∃ a vs,ρ.tr[i]?=some a/\H a=some (.dT vs)/\RepD H ρ kvs vs:=by
 have hi:i < ρ.tr.length:=by rw [R.len]; exact (O2.mp h).1
 have e:ρ.tr[i]?=some ρ.tr[i]:=O3 hi;obtain ⟨vs,e1,e2⟩:=R.cell i _ _ e h;exact ⟨_,vs,e,e1,e2⟩
theorem Rel.dom (R:Rel H ρ st) {a:aA} (h:a∈ρ.tr):∃ o,H a=some o:=by
 obtain ⟨i,hi,e⟩:=List.getElem_of_mem h;have hs:i < st.length:=by rw [<- R.len]; exact hi
 have q:=R.cell i a st[i] (by rw [O3 hi,e]) (O3 hs);exact q.dom
theorem Rel.fresh (R:Rel H ρ st) {p:aA} (h:H p=none):p∉ρ:=fun z=>by
 rcases z with z | z
 ·obtain ⟨vs,q⟩:=R.dom z;rw [h] at q; cases q
 ·obtain ⟨o,q,_⟩:=R.hd p z;rw [h] at q; cases q
theorem Rel.later (R:Rel H ρ st) (x:Ext H ρ H' ρ) (k:∀ a o,a∈ρ.tr->H a=some o->H' a=some o):Rel H' ρ st where
 len:=R.len
 nd:=R.nd
 hd:=fun a j=>let ⟨o,e,n⟩:=R.hd a j; ⟨o,x.keep a o e (R.ap a j),n⟩
 ap:=R.ap
 cell:=fun i a c h1 h2=>by
  exact (R.cell i a c h1 h2).ext x fun o e=>k a o (E7 h1) e
end
theorem Rel.add {H:Hp} {ρ:Tk} {st:Q2} (R:Rel H ρ st) {p:aA} {o:HO} (h:H p=none):Rel (upd H p o) ρ st:=
 R.later (Ext.add h) fun a u j e=>by rw [Qn (Qp e h)]; exact e
theorem Rel.same {H H':Hp} {ρ:Tk} {st:Q2} (R:Rel H ρ st) (h:Same H H'):Rel H' ρ st:=R.later (Ext.same h) fun a u _ e=>h a u e
theorem Rel.addC {H:Hp} {ρ:Tk} {st:Q2} (R:Rel H ρ st) {p:aA} {cl:Cell} {o:HO} (h:H p=none) (r:CellR (upd H p o) (ρ.add p) p cl):Rel (upd H p o) (ρ.add p) (st ++ [cl]) where
 len:=by show (ρ.tr ++ [p]).length=_; rw [D7,D7,R.len]; rfl
 nd:=List.nodup_append.mpr ⟨R.nd,by simp,fun a j b G e=>by
  have:b=p:=by simpa using G
  subst this; subst e;exact R.fresh h (.inl j)⟩
 hd:=fun a j=>let ⟨o,e,n⟩:=R.hd a j; ⟨o,by rw [Qn (Qp e h)]; exact e,n⟩
 ap:=fun a j z=>by
  rcases E4.mp z with z | z
  ·exact R.ap a j z
  ·have:a=p:=by simpa using z
   subst this;exact R.fresh h (.inr j)
 cell:=fun i a c h1 h2=>by
  have h1:(ρ.tr ++ [p])[i]?=some a:=h1
  by_cases hi:i < st.length
  ·rw [O9 (by rw [R.len]; exact hi)] at h1;rw [O9 hi] at h2;exact (R.cell i a c h1 h2).ext (Ext.addT h) fun u e=>by rw [Qn (Qp e h)]; exact e
  ·rw [E9 (by rw [R.len]; omega)] at h1;rw [E9 (by omega)] at h2;have B:i - st.length=0:=by
    rcases Nat.eq_zero_or_pos (i - st.length) with z | z
    ·exact z
    ·rw [L9 (by simp; omega)] at h2; cases h2
   rw [R.len,B] at h1;rw [B] at h2;simp at h1 h2;subst h1; subst h2;exact r
theorem Q88 {α:Type} {l:List α} (h:l.Nodup) {i j:Nat} (hi:i < l.length) (B:j < l.length) (e:l[i]=l[j]):i=j:=by
 rcases Nat.lt_trichotomy i j with z | z | z
 ·exact absurd e ((List.pairwise_iff_getElem.mp h) i j hi B z)
 ·exact z
 ·exact absurd e.symm ((List.pairwise_iff_getElem.mp h) j i B hi z)
theorem Ext.put {H:Hp} {ρ:Tk} {a:aA} {o o':HO} (h:a∈ρ.tr) (e:H a=some o) (j:∀ q u,o≠.frz q u:=by intro _ _ z; cases z):Ext H ρ (upd H a o') ρ where
 pre:=List.prefix_refl _
 hidM:=fun _ h=>h
 hidN:=fun _ h=>.inl h
 keep:=fun b u q n=>by rw [Qn (show b≠a from fun z=>n (by rw [z]; exact h))]; exact q
 new:=fun b q=>.inl q
 old:=fun b u q=>by
  by_cases z:b=a
  ·exact ⟨o',by rw [z]; exact Qr⟩
  ·exact ⟨u,by rw [Qn z]; exact q⟩
 frz:=fun b q u k=>by
  by_cases z:b=a
  ·rw [z,e] at k; cases k; exact absurd rfl (j _ _)
  ·rw [Qn z]; exact k
theorem Rel.putC {H:Hp} {ρ:Tk} {st:Q2} (R:Rel H ρ st) {i:Nat} {a:aA} {cl:Cell} {o o':HO} (hi:ρ.tr[i]?=some a) (e:H a=some o) (r:CellR (upd H a o') ρ a cl):Rel (upd H a o') ρ (st.set i cl) where
 len:=by rw [G9]; exact R.len
 nd:=R.nd
 hd:=fun b B=>let ⟨u,q,n⟩:=R.hd b B; ⟨u,by rw [Qn (show b≠a from fun z=>R.ap b B (by rw [z]; exact E7 hi))]; exact q,n⟩
 ap:=R.ap
 cell:=fun j b c h1 h2=>by
  by_cases J:i=j
  ·subst J;rw [hi] at h1; cases h1;rw [F1 (by rw [<- R.len]; exact (O2.mp hi).1)] at h2;cases h2;exact r
  ·rw [D9 J] at h2;have q:=R.cell j b c h1 h2;have B:b≠a:=fun z=>by
    subst z;have O:=(O2.mp hi);have U:=(O2.mp h1);exact J (Q88 R.nd O.1 U.1 (O.2.trans U.2.symm))
   have G:=E7 hi;cases c with
   | lst ps=>
    obtain ⟨vs,e1,e2⟩:=q;exact ⟨vs,by rw [Qn B]; exact e1,e2.retr G⟩
   | dic ps=>
    obtain ⟨vs,e1,e2⟩:=q;exact ⟨vs,by rw [Qn B]; exact e1,e2.1,e2.2.retr G⟩
   | dtp ps=>
    obtain ⟨vs,e1,e2⟩:=q;exact ⟨vs,by rw [Qn B]; exact e1,e2.1,e2.2.retr G⟩
   | frd ps=>
    obtain ⟨vs,⟨I,e1⟩,e2⟩:=q;exact ⟨vs,⟨I,by rw [Qn B]; exact e1⟩,e2.1,e2.2.retr G⟩
   | obj C ps=>
    obtain ⟨vs,⟨I,e1⟩,e2⟩:=q;exact ⟨vs,⟨I,by rw [Qn B]; exact e1⟩,e2.1,e2.2.retr G⟩
theorem Rel.put {H:Hp} {ρ:Tk} {st:Q2} (R:Rel H ρ st) {i:Nat} {a:aA} {ps:List PV} {vs:List V} {o:HO} (hi:ρ.tr[i]?=some a) (e:H a=some o) (r:RepL H ρ ps vs):Rel (upd H a (.lst vs)) ρ (st.set i (.lst ps)):=
 R.putC hi e ⟨vs,Qr,r.retr (E7 hi)⟩
theorem Rel.hide {H:Hp} {ρ:Tk} {st:Q2} (R:Rel H ρ st) {p:aA} {o:HO} (h:H p=none) (I:∀ xs,o≠.tup xs:=by intro _ z; cases z):Rel (upd H p o) (ρ.hide p) st:=by
 have x:Ext H ρ (upd H p o) ρ:=Ext.add h;have G:=R.add (p:=p) (o:=o) h;refine ⟨G.len,G.nd,fun a j=>?_,fun a j z=>?_,fun i a c h1 h2=>?_⟩
 ·rcases D3.mp j with rfl | j
  ·exact ⟨o,Qr,I⟩
  ·exact G.hd a j
 ·rcases D3.mp j with rfl | j
  ·exact R.fresh h (.inl z)
  ·exact R.ap a j z
 ·have q:=R.cell i a c h1 h2;cases c with
  | lst ps=>
   obtain ⟨vs,e1,e2⟩:=q;exact ⟨vs,by rw [Qn (Qp e1 h)]; exact e1,e2.hide h⟩
  | dic ps=>
   obtain ⟨vs,e1,e2⟩:=q;exact ⟨vs,by rw [Qn (Qp e1 h)]; exact e1,e2.1,e2.2.hide h⟩
  | dtp ps=>
   obtain ⟨vs,e1,e2⟩:=q;exact ⟨vs,by rw [Qn (Qp e1 h)]; exact e1,e2.1,e2.2.hide h⟩
  | frd ps=>
   obtain ⟨vs,⟨B,e1⟩,e2⟩:=q;exact ⟨vs,⟨B,by rw [Qn (Qp e1 h)]; exact e1⟩,e2.1,e2.2.hide h⟩
  | obj C ps=>
   obtain ⟨vs,⟨B,e1⟩,e2⟩:=q;exact ⟨vs,⟨B,by rw [Qn (Qp e1 h)]; exact e1⟩,e2.1,e2.2.hide h⟩
theorem Rel.rehide {H:Hp} {ρ:Tk} {st:Q2} (R:Rel H ρ st) {p:aA} {o:HO} (h:p∈ρ.hid) (G:∀ xs,o≠.tup xs:=by intro _ z; cases z):Rel (upd H p o) ρ st:=by
 refine ⟨R.len,R.nd,fun a B=>?_,R.ap,fun i a c h1 h2=>?_⟩
 ·by_cases e:a=p
  ·exact ⟨o,by rw [e]; exact Qr,G⟩
  ·obtain ⟨u,q,n⟩:=R.hd a B;exact ⟨u,by rw [Qn e]; exact q,n⟩
 ·have q:=R.cell i a c h1 h2;have ne:a≠p:=fun z=>R.ap p h (by rw [<- z]; exact E7 h1)
  cases c with
  | lst ps=>
   obtain ⟨vs,e1,e2⟩:=q;exact ⟨vs,by rw [Qn ne]; exact e1,e2.rehide h⟩
  | dic ps=>
   obtain ⟨vs,e1,e2⟩:=q;exact ⟨vs,by rw [Qn ne]; exact e1,e2.1,e2.2.rehide h⟩
  | dtp ps=>
   obtain ⟨vs,e1,e2⟩:=q;exact ⟨vs,by rw [Qn ne]; exact e1,e2.1,e2.2.rehide h⟩
  | frd ps=>
   obtain ⟨vs,⟨j,e1⟩,e2⟩:=q;exact ⟨vs,⟨j,by rw [Qn ne]; exact e1⟩,e2.1,e2.2.rehide h⟩
  | obj C ps=>
   obtain ⟨vs,⟨j,e1⟩,e2⟩:=q;exact ⟨vs,⟨j,by rw [Qn ne]; exact e1⟩,e2.1,e2.2.rehide h⟩
theorem Rel.unhide {H:Hp} {ρ:Tk} {st:Q2} {hs:List aA} (j:∀ a,a∈hs->a∈ρ.hid) (R:Rel H ρ st):Rel H ⟨ρ.tr,hs⟩ st:=by
 refine ⟨R.len,R.nd,fun a z=>R.hd a (j a z),fun a z=>R.ap a (j a z),fun i a c h1 h2=>?_⟩;have q:=R.cell i a c h1 h2;cases c with
 | lst ps=>
  obtain ⟨vs,e1,e2⟩:=q;exact ⟨vs,e1,RepL.unhide j e2⟩
 | dic ps=>
  obtain ⟨vs,e1,e2⟩:=q;exact ⟨vs,e1,e2.1,RepL.unhide j e2.2⟩
 | dtp ps=>
  obtain ⟨vs,e1,e2⟩:=q;exact ⟨vs,e1,e2.1,RepL.unhide j e2.2⟩
 | frd ps=>
  obtain ⟨vs,e1,e2⟩:=q;exact ⟨vs,e1,e2.1,RepL.unhide j e2.2⟩
 | obj C ps=>
  obtain ⟨vs,e1,e2⟩:=q;exact ⟨vs,e1,e2.1,RepL.unhide j e2.2⟩
theorem Ext.hide {H:Hp} {ρ:Tk} {p:aA} {o:HO} (h:H p=none):Ext H ρ (upd H p o) (ρ.hide p) where
 pre:=List.prefix_refl _
 hidM:=fun _ h=>O5 _ h
 hidN:=fun a j=>by
  rcases D3.mp j with rfl | j
  ·exact .inr h
  ·exact .inl j
 keep:=fun a u e _=>by rw [Qn (Qp e h)]; exact e
 new:=fun a e=>.inl e
 old:=fun a u e=>⟨u,by rw [Qn (Qp e h)]; exact e⟩
 frz:=fun a o u e=>by rw [Qn (Qp e h)]; exact e
theorem Ext.put0 {H H1:Hp} {ρ ρ1:Tk} {p:aA} {o:HO} (x:Ext H ρ H1 ρ1) (h:H p=none):Ext H ρ (upd H1 p o) ρ1 where
 pre:=x.pre
 hidM:=x.hidM
 hidN:=x.hidN
 keep:=fun a u e n=>by rw [Qn (Qp e h)]; exact x.keep a u e n
 new:=x.new
 old:=fun a u e=>by rw [Qn (Qp e h)]; exact x.old a u e
 frz:=fun a o u e=>by rw [Qn (Qp e h)]; exact x.frz a o u e
theorem Ext.unhide {H H1:Hp} {ρ ρ1:Tk} (x:Ext H ρ H1 ρ1):Ext H ρ H1 ⟨ρ1.tr,ρ.hid⟩ where
 pre:=x.pre
 hidM:=fun _ h=>h
 hidN:=fun _ h=>.inl h
 keep:=x.keep
 new:=x.new
 old:=x.old
 frz:=x.frz
def EnvR (H:Hp) (ρ:Tk) (Γ:Gam) (σ:St):Prop:=Γ.length=σ.length/\∀ (i:Nat) (p:PV),Γ[i]?=some (some p)->∃ v,σ[i]?=some (some v)/\Rep H ρ p v
theorem EnvR.ext {H H':Hp} {ρ ρ':Tk} {Γ:Gam} {σ:St} (x:Ext H ρ H' ρ') (h:EnvR H ρ Γ σ):EnvR H' ρ' Γ σ:=
 ⟨h.1,fun i p e=>let ⟨v,a,b⟩:=h.2 i p e; ⟨v,a,b.ext x⟩⟩
theorem EnvR.hide {H:Hp} {ρ:Tk} {Γ:Gam} {σ:St} {a:aA} {o:HO} (n:H a=none) (h:EnvR H ρ Γ σ):EnvR (upd H a o) (ρ.hide a) Γ σ:=⟨h.1,fun i p e=>let ⟨v,a,b⟩:=h.2 i p e; ⟨v,a,b.hide n⟩⟩
theorem EnvR.rehide {H:Hp} {ρ:Tk} {Γ:Gam} {σ:St} {a:aA} {o:HO} (n:a∈ρ.hid) (h:EnvR H ρ Γ σ):EnvR (upd H a o) ρ Γ σ:=⟨h.1,fun i p e=>let ⟨v,a,b⟩:=h.2 i p e; ⟨v,a,b.rehide n⟩⟩
theorem EnvR.set {H:Hp} {ρ:Tk} {Γ:Gam} {σ:St} {p:PV} {v:V} (h:EnvR H ρ Γ σ) (r:Rep H ρ p v) (i:Nat):EnvR H ρ (Γ.set i (some p)) (σ.set i (some v)):=by
 refine ⟨by rw [G9,G9]; exact h.1,fun j q e=>?_⟩;rw [List.getElem?_set] at e;rw [List.getElem?_set]
 by_cases z:i=j
 ·subst z;simp only [if_true] at e ⊢
  by_cases hl:i < Γ.length
  ·rw [bQ hl] at e; cases e;rw [bQ (by rw [<- h.1]; exact hl)];exact ⟨v,rfl,r⟩
  ·rw [bS hl] at e; cases e
 ·rw [bS z] at e ⊢;exact h.2 j q e
end
def Res.bind {α β:Type} (r:Res α) (f:α->Q2->Res β):Res β:=match r with
 | .ok a st=>f a st
 | .exc x st=>.exc x st
 | .stuck=>.stuck
def okO {α:Type} (st:Q2):Option α->Res α
 | some a=>.ok a st
 | none=>.stuck
section
variable (X:Cx)
def WE (e:aD):TE:=fun σ H Q=>∀ (pins:List (aA × Obj)) (s:aC),Inv X pins σ H s->aH (aI X.prog X.w) X.A (aQ e X.env) (EP X pins σ Q) X.xe s
def WT (e:aD):TT:=fun σ H Q=>∀ (pins:List (aA × Obj)) (s:aC),Inv X pins σ H s->aH (aI X.prog X.w) X.A (isTrue e X.env (aQ e X.env)) (TP X pins σ Q) X.xe s
def WW (e:aD):TT:=fun σ H Q=>∀ (wh:Sem aB) (pins:List (aA × Obj)) (s:aC),Inv X pins σ H s->aH (aI X.prog X.w) X.A (isTrue e X.env wh) (TP X pins σ Q) X.xe s
def WA (es:List aD):TA:=fun σ H Q=>∀ (pos:Pos) (pins:List (aA × Obj)) (s:aC),Inv X pins σ H s->aH (aI X.prog X.w) X.A (spliced (aU pos (aP es X.env))) (AP X pins σ Q) X.xe s
def WS (st:aJ):TS:=fun D σ H=>∀ (pins:List (aA × Obj)) (s:aC),Inv X pins σ H s->aH (aI X.prog X.w) X.A (exec st X.env) (SP X pins D) X.xe s
def WB (st:List aJ):TS:=fun D σ H=>∀ (pins:List (aA × Obj)) (s:aC),Inv X pins σ H s->aH (aI X.prog X.w) X.A (execs st X.env) (SP X pins D) X.xe s
def WI (tg iter : aD) : TI := fun σ H R => ∀ (pins : List (aA × Obj)) (s : aC), Inv X pins σ H s ->
  aH (aI X.prog X.w) X.A (aQ iter X.env) (fun v s1=>aH (aI X.prog X.w) X.A (pyIter v) (PIE X pins σ tg R) X.xe s1) X.xe s
def WO (f:aB->aB->Sem aB):R2:=fun x y H Q=>∀ (pins:List (aA × Obj)) (s:aC) (σ:St) (v u:aB),Inv X pins σ H s->RelV x v->RelV y u->aH (aI X.prog X.w) X.A (f v u) (EP X pins σ Q) X.xe s
def WC (f:aB):List V->Hp->VK->Prop:=fun xs H Q=>∀ (pins:List (aA × Obj)) (s:aC) (σ:St) (us:List aB),Inv X pins σ H s->Vals xs us->aH (aI X.prog X.w) X.A (call f us) (EP X pins σ Q) X.xe s
end
section
variable {X:Cx}
theorem W8 {e:aD}:PE X e (WE X e):=fun pins s _ _ _ I h=>h pins s I
theorem Qbq {e:aD}:PT X e (WT X e):=fun pins s _ _ _ I h=>h pins s I
theorem Qva {e:aD}:PW X e (WW X e):=fun j pins s _ _ _ I h=>h j pins s I
theorem Q7c {es:List aD}:PA X es (WA X es):=fun pos pins s _ _ _ I h=>h pos pins s I
theorem Qvb {st:aJ}:PS X st (WS X st):=fun pins s _ _ _ I h=>h pins s I
theorem Q5c {st:List aJ}:PSs X st (WB X st):=fun pins s _ _ _ I h=>h pins s I
theorem Qnw {tg iter:aD}:PI X tg iter (WI X tg iter):=fun pins s _ _ _ I h=>h pins s I
theorem Qdu {f:aB->aB->Sem aB}:OpR X f (WO X f):=fun pins s σ _ _ _ v u _ I j z h=>h pins s σ v u I j z
theorem Qm0 {f:aB}:Ur X f (WC X f):=fun pins s σ _ _ j _ I r h=>h pins s σ j I r
theorem WE.of {e:aD} {t:TE} {σ:St} {H:Hp} {Q:VK} (h:PE X e t) (q:t σ H Q):WE X e σ H Q:=fun pins s I=>h pins s σ H Q I q
theorem WT.of {e:aD} {t:TT} {σ:St} {H:Hp} {Q:Bool->Hp->Prop} (h:PT X e t) (q:t σ H Q):WT X e σ H Q:=fun pins s I=>h pins s σ H Q I q
theorem WW.of {e:aD} {t:TT} {σ:St} {H:Hp} {Q:Bool->Hp->Prop} (h:PW X e t) (q:t σ H Q):WW X e σ H Q:=fun j pins s I=>h j pins s σ H Q I q
theorem WA.of {es:List aD} {t:TA} {σ:St} {H:Hp} {Q:List V->Hp->Prop} (h:PA X es t) (q:t σ H Q):WA X es σ H Q:=fun pos pins s I=>h pos pins s σ H Q I q
theorem WS.of {st:aJ} {t:TS} {σ:St} {H:Hp} {D:Ends} (h:PS X st t) (q:t D σ H):WS X st D σ H:=fun pins s I=>h pins s σ H D I q
theorem WB.of {st:List aJ} {t:TS} {σ:St} {H:Hp} {D:Ends} (h:PSs X st t) (q:t D σ H):WB X st D σ H:=fun pins s I=>h pins s σ H D I q
theorem WI.of {tg iter:aD} {t:TI} {σ:St} {H:Hp} {R:It->Hp->Prop} (h:PI X tg iter t) (q:t σ H R):WI X tg iter σ H R:=fun pins s I=>h pins s σ H R I q
theorem WO.of {f:aB->aB->Sem aB} {r:R2} {x y:V} {H:Hp} {Q:VK} (h:OpR X f r) (q:r x y H Q):WO X f x y H Q:=fun pins s σ v u I j z=>h pins s σ H x y v u Q I j z q
theorem WC.of {f:aB} {r:List V->Hp->VK->Prop} {xs:List V} {H:Hp} {Q:VK} (h:Ur X f r) (q:r xs H Q):WC X f xs H Q:=fun pins s σ z I j=>h pins s σ H xs z Q I j q
end
def XFs (H:Hp) (ρ:Tk):Option (Str × PV)->Option aA->Prop
 | none,dv=>dv=none
 | some (n,p),dv=>∃ dx v,dv=some dx/\H dx=some (.xd [(n,v)])/\dx∉ρ/\Rep H ρ p v
def Acc {α:Type} (mg:Str->Option aB) (E:XK) (H:Hp) (ρ:Tk) (P:α->Q2->Hp->Tk->Prop):Res α->Prop
 | .ok a st=>∀ H' ρ',Ext H ρ H' ρ'->Rel H' ρ' st->P a st H' ρ'
 | .exc x st=>∀ C dv H' ρ',mg x.cls=some (.ref C)->Ext H ρ H' ρ'->Rel H' ρ' st->XFs H' ρ' x.fs dv->E (.ref C) dv H'
 | .stuck=>False
section
variable {α β:Type} {mg:Str->Option aB} {E:XK} {H H1:Hp} {ρ ρ1:Tk}
theorem Acc.mono {P B:α->Q2->Hp->Tk->Prop} {r:Res α} (h:Acc mg E H ρ P r) (x:Ext H ρ H1 ρ1) (k:∀ a st H' ρ',P a st H' ρ'->B a st H' ρ'):Acc mg E H1 ρ1 B r:=by
 cases r with
 | ok a st=>exact fun H' ρ' z j=>k _ _ _ _ (h H' ρ' (x.trans z) j)
 | exc e st=>exact fun C G H' ρ' m z j f=>h C G H' ρ' m (x.trans z) j f
 | stuck=>exact h
theorem Acc.later {P:α->Q2->Hp->Tk->Prop} {r:Res α} (h:Acc mg E H ρ P r) (x:Ext H ρ H1 ρ1):Acc mg E H1 ρ1 P r:=h.mono x fun _ _ _ _ p=>p
theorem Acc.bind {P:β->Q2->Hp->Tk->Prop} {r:Res α} {f:α->Q2->Res β} (h:Acc mg E H ρ P (r.bind f)):Acc mg E H ρ (fun a j H1 ρ1=>Acc mg E H1 ρ1 P (f a j)) r:=by
 cases r with
 | ok a st=>exact fun H' ρ' z B=>Acc.later (show Acc mg E H ρ P (f a st) from h) z
 | exc e st=>exact h
 | stuck=>exact h
end
abbrev QV (Q:VK):PV->Q2->Hp->Tk->Prop:=fun p _ H' ρ'=>∀ v,Rep H' ρ' p v->Q v H'
abbrev QL (Q:List V->Hp->Prop):List PV->Q2->Hp->Tk->Prop:=fun ps _ H' ρ'=>∀ vs,RepL H' ρ' ps vs->Q vs H'
abbrev QB (Q:Bool->Hp->Prop):Bool->Q2->Hp->Tk->Prop:=fun b _ H' _=>Q b H'
structure SimE (X:Cx) (E:XK) (e:aD) (m:ME):Prop where
 run:∀ (Γ:Gam) (σ:St) (H:Hp) (ρ:Tk) (st:Q2) (Q:VK),Rel H ρ st->EnvR H ρ Γ σ->Acc X.mg E H ρ (QV Q) (m Γ st)->WE X e σ H Q
structure SimT (X:Cx) (E:XK) (e:aD) (m:Gam->Q2->Res Bool):Prop where
 run:∀ (Γ:Gam) (σ:St) (H:Hp) (ρ:Tk) (st:Q2) (Q:Bool->Hp->Prop),Rel H ρ st->EnvR H ρ Γ σ->Acc X.mg E H ρ (QB Q) (m Γ st)->WT X e σ H Q
structure SimW (X:Cx) (E:XK) (e:aD) (m:Gam->Q2->Res Bool):Prop where
 run:∀ (Γ:Gam) (σ:St) (H:Hp) (ρ:Tk) (st:Q2) (Q:Bool->Hp->Prop),Rel H ρ st->EnvR H ρ Γ σ->Acc X.mg E H ρ (QB Q) (m Γ st)->WW X e σ H Q
structure SimA (X:Cx) (E:XK) (es:List aD) (m:Gam->Q2->Res (List PV)):Prop where
 run:∀ (Γ:Gam) (σ:St) (H:Hp) (ρ:Tk) (st:Q2) (Q:List V->Hp->Prop),Rel H ρ st->EnvR H ρ Γ σ->Acc X.mg E H ρ (QL Q) (m Γ st)->WA X es σ H Q
abbrev OP:=Q2->PV->PV->Res PV
structure OpS (X:Cx) (E:XK) (f:aB->aB->Sem aB) (o:OP):Prop where
 run:∀ (H:Hp) (ρ:Tk) (st:Q2) (p q:PV) (x y:V) (Q:VK),Rel H ρ st->Rep H ρ p x->Rep H ρ q y->Acc X.mg E H ρ (QV Q) (o st p q)->WO X f x y H Q
abbrev CF:=Q2->List PV->Res PV
structure CallS (X:Cx) (E:XK) (f:aB) (o:CF):Prop where
 run:∀ (H:Hp) (ρ:Tk) (st:Q2) (ps:List PV) (xs:List V) (Q:VK),Rel H ρ st->RepL H ρ ps xs->Acc X.mg E H ρ (QV Q) (o st ps)->WC X f xs H Q
section
variable {X:Cx} {E:XK} {Γ:Gam} {σ:St} {H:Hp} {ρ:Tk} {st:Q2}
theorem SimE.use {e:aD} {m:ME} (s:SimE X E e m) {P:PV->Q2->Hp->Tk->Prop} {Q:VK} (R:Rel H ρ st) (G:EnvR H ρ Γ σ) (h:Acc X.mg E H ρ P (m Γ st))
  (k:∀ p j H1 ρ1 v,Ext H ρ H1 ρ1->Rel H1 ρ1 j->EnvR H1 ρ1 Γ σ->Rep H1 ρ1 p v->P p j H1 ρ1->Q v H1):WE X e σ H Q:=by
 refine s.run Γ σ H ρ st Q R G ?_;cases r:m Γ st with
 | ok p j=>rw [r] at h; exact fun H' ρ' z B v I=>k p j H' ρ' v z B (G.ext z) I (h H' ρ' z B)
 | exc e st=>rw [r] at h; exact h
 | stuck=>rw [r] at h; exact h
theorem SimE.use' {e:aD} {m:ME} (s:SimE X E e m) {P:PV->Q2->Hp->Tk->Prop} {Q:VK} (R:Rel H ρ st) (G:EnvR H ρ Γ σ) (h:Acc X.mg E H ρ P (m Γ st))
  (k:∀ p j H1 ρ1 v,m Γ st=.ok p j->Ext H ρ H1 ρ1->Rel H1 ρ1 j->EnvR H1 ρ1 Γ σ->Rep H1 ρ1 p v->P p j H1 ρ1->Q v H1):WE X e σ H Q:=by
 refine s.run Γ σ H ρ st Q R G ?_;cases r:m Γ st with
 | ok p j=>rw [r] at h; exact fun H' ρ' z B v I=>k p j H' ρ' v r z B (G.ext z) I (h H' ρ' z B)
 | exc e st=>rw [r] at h; exact h
 | stuck=>rw [r] at h; exact h
theorem SimA.use' {es:List aD} {m:Gam->Q2->Res (List PV)} (s:SimA X E es m) {P:List PV->Q2->Hp->Tk->Prop} {Q:List V->Hp->Prop} (R:Rel H ρ st) (G:EnvR H ρ Γ σ) (h:Acc X.mg E H ρ P (m Γ st))
  (k:∀ ps j H1 ρ1 vs,m Γ st=.ok ps j->Ext H ρ H1 ρ1->Rel H1 ρ1 j->EnvR H1 ρ1 Γ σ->RepL H1 ρ1 ps vs->P ps j H1 ρ1->Q vs H1):WA X es σ H Q:=by
 refine s.run Γ σ H ρ st Q R G ?_;cases r:m Γ st with
 | ok p j=>rw [r] at h; exact fun H' ρ' z B v I=>k p j H' ρ' v r z B (G.ext z) I (h H' ρ' z B)
 | exc e st=>rw [r] at h; exact h
 | stuck=>rw [r] at h; exact h
theorem SimT.use {e:aD} {m:Gam->Q2->Res Bool} (s:SimT X E e m) {P:Bool->Q2->Hp->Tk->Prop} {Q:Bool->Hp->Prop} (R:Rel H ρ st) (G:EnvR H ρ Γ σ) (h:Acc X.mg E H ρ P (m Γ st))
  (k:∀ p j H1 ρ1,Ext H ρ H1 ρ1->Rel H1 ρ1 j->EnvR H1 ρ1 Γ σ->P p j H1 ρ1->Q p H1):WT X e σ H Q:=by
 refine s.run Γ σ H ρ st Q R G ?_;cases r:m Γ st with
 | ok p j=>rw [r] at h; exact fun H' ρ' z B=>k p j H' ρ' z B (G.ext z) (h H' ρ' z B)
 | exc e st=>rw [r] at h; exact h
 | stuck=>rw [r] at h; exact h
theorem SimT.use' {e:aD} {m:Gam->Q2->Res Bool} (s:SimT X E e m) {P:Bool->Q2->Hp->Tk->Prop} {Q:Bool->Hp->Prop} (R:Rel H ρ st) (G:EnvR H ρ Γ σ) (h:Acc X.mg E H ρ P (m Γ st))
  (k:∀ p j H1 ρ1,m Γ st=.ok p j->Ext H ρ H1 ρ1->Rel H1 ρ1 j->EnvR H1 ρ1 Γ σ->P p j H1 ρ1->Q p H1):WT X e σ H Q:=by
 refine s.run Γ σ H ρ st Q R G ?_;cases r:m Γ st with
 | ok p j=>rw [r] at h; exact fun H' ρ' z B=>k p j H' ρ' r z B (G.ext z) (h H' ρ' z B)
 | exc e st=>rw [r] at h; exact h
 | stuck=>rw [r] at h; exact h
theorem SimW.use {e:aD} {m:Gam->Q2->Res Bool} (s:SimW X E e m) {P:Bool->Q2->Hp->Tk->Prop} {Q:Bool->Hp->Prop} (R:Rel H ρ st) (G:EnvR H ρ Γ σ) (h:Acc X.mg E H ρ P (m Γ st))
  (k:∀ p j H1 ρ1,Ext H ρ H1 ρ1->Rel H1 ρ1 j->EnvR H1 ρ1 Γ σ->P p j H1 ρ1->Q p H1):WW X e σ H Q:=by
 refine s.run Γ σ H ρ st Q R G ?_;cases r:m Γ st with
 | ok p j=>rw [r] at h; exact fun H' ρ' z B=>k p j H' ρ' z B (G.ext z) (h H' ρ' z B)
 | exc e st=>rw [r] at h; exact h
 | stuck=>rw [r] at h; exact h
theorem SimA.use {es:List aD} {m:Gam->Q2->Res (List PV)} (s:SimA X E es m) {P:List PV->Q2->Hp->Tk->Prop} {Q:List V->Hp->Prop} (R:Rel H ρ st) (G:EnvR H ρ Γ σ) (h:Acc X.mg E H ρ P (m Γ st))
  (k:∀ ps j H1 ρ1 vs,Ext H ρ H1 ρ1->Rel H1 ρ1 j->EnvR H1 ρ1 Γ σ->RepL H1 ρ1 ps vs->P ps j H1 ρ1->Q vs H1):WA X es σ H Q:=by
 refine s.run Γ σ H ρ st Q R G ?_;cases r:m Γ st with
 | ok p j=>rw [r] at h; exact fun H' ρ' z B v I=>k p j H' ρ' v z B (G.ext z) I (h H' ρ' z B)
 | exc e st=>rw [r] at h; exact h
 | stuck=>rw [r] at h; exact h
theorem OpS.use {f:aB->aB->Sem aB} {o:OP} (s:OpS X E f o) {P:PV->Q2->Hp->Tk->Prop} {Q:VK} {p q:PV} {x y:V} (R:Rel H ρ st) (I:Rep H ρ p x) (G:Rep H ρ q y) (h:Acc X.mg E H ρ P (o st p q))
  (k:∀ p j H1 ρ1 v,Ext H ρ H1 ρ1->Rel H1 ρ1 j->Rep H1 ρ1 p v->P p j H1 ρ1->Q v H1):WO X f x y H Q:=by
 refine s.run H ρ st p q x y Q R I G ?_;cases r:o st p q with
 | ok p j=>rw [r] at h; exact fun H' ρ' z B v J=>k p j H' ρ' v z B J (h H' ρ' z B)
 | exc e st=>rw [r] at h; exact h
 | stuck=>rw [r] at h; exact h
end
end Sm
namespace Sm
open PySem PySem.Spec L2 SeqAt
mutual
def peq:PV->PV->Bool
 | .non,.non=>true
 | .bl a,.bl b=>a == b
 | .bl a,.int b=>(if a then 1 else 0) == b
 | .int a,.bl b=>a == (if b then 1 else 0)
 | .int a,.int b=>a == b
 | .str a,.str b=>a == b
 | .tup xs,.tup ys=>Xh xs ys
 | .lst xs,.lst ys=>Xh xs ys
 | .lst xs,.fro ys=>Xh xs ys
 | .fro xs,.lst ys=>Xh xs ys
 | .fro xs,.fro ys=>Xh xs ys
 | _,_=>false
def Xh:List PV->List PV->Bool
 | [],[]=>true
 | x :: xs,y :: ys=>peq x y && Xh xs ys
 | _,_=>false
end
def Jw:Nat->PV->Bool
 | _,.ref _=>false
 | _,.dic=>false
 | 0,.tup _=>false
 | 0,.lst _=>false
 | 0,.fro _=>false
 | n + 1,.tup xs=>xs.all (Jw n)
 | n + 1,.lst xs=>xs.all (Jw n)
 | n + 1,.fro xs=>xs.all (Jw n)
 | _,_=>true
theorem Q5f:∀ {xs ys:List PV},xs.length≠ys.length->Xh xs ys=false
 | [],[],h=>absurd rfl h
 | [],_ :: _,_=>by simp [Xh]
 | _ :: _,[],_=>by simp [Xh]
 | x :: xs,y :: ys,h=>by
  rw [Xh,Q5f (xs:=xs) (ys:=ys) fun e=>h (by simp [e]),Bool.and_false]
theorem Q5g:∀ {xs ys:List PV},xs.length=ys.length->Xh xs ys=(List.range xs.length).all fun j=>peq (xs.getD j .non) (ys.getD j .non)
 | [],[],_=>by simp [Xh]
 | [],_ :: _,h=>by simp at h
 | _ :: _,[],h=>by simp at h
 | x :: xs,y :: ys,h=>by
  rw [Xh,Q5g (xs:=xs) (ys:=ys) (by simpa using h),F4,List.range_succ_eq_map,List.all_cons,List.all_map];rfl
section
variable {X:Cx} {pins:List (aA × Obj)} {σ:St} {H:Hp} {s:aC} {ρ:Tk}
mutual
theorem Qbn:∀ {p q:PV} {x:V} {n:Nat},Jw n p=true->Jw n q=true->Rep H ρ p x->Rep H ρ q x->peq p q=true
 | .non,q,x,n,_,B,h1,h2=>by
  cases h1;cases q <;> first | rfl | (cases n <;> cases B; done) | (cases h2; done) | (obtain ⟨_,_,e,_⟩:=h2; cases e) | (obtain ⟨_,_,e⟩:=h2; cases e)
 | .bl b,q,x,n,_,B,h1,h2=>by
  cases h1;cases q <;> first | (cases n <;> cases B; done) | (cases h2; simp [peq]; done) | (obtain ⟨_,_,e,_⟩:=h2; done) | (obtain ⟨_,_,e,_⟩:=h2; cases e; done) | (obtain ⟨_,_,e⟩:=h2; cases e)
 | .int b,q,x,n,_,B,h1,h2=>by
  cases h1;cases q <;> first | (cases n <;> cases B; done) | (cases h2; simp [peq]; done) | (obtain ⟨_,_,e,_⟩:=h2; done) | (obtain ⟨_,_,e,_⟩:=h2; cases e; done) | (obtain ⟨_,_,e⟩:=h2; cases e)
 | .str b,q,x,n,_,B,h1,h2=>by
  cases h1;cases q <;> first | (cases n <;> cases B; done) | (cases h2; simp [peq]; done) | (obtain ⟨_,_,e,_⟩:=h2; done) | (obtain ⟨_,_,e,_⟩:=h2; cases e; done) | (obtain ⟨_,_,e⟩:=h2; cases e)
 | .tup ps,q,x,0,G,_,_,_=>by cases G
 | .tup ps,q,x,n + 1,G,B,⟨a,vs,e,z,_,r⟩,h2=>by
  subst e;cases q with
  | tup O=>
   obtain ⟨b,I,e,j,_,J⟩:=h2;cases e;rw [z] at j; cases j;rw [peq];exact Xu G B r J
  | lst O=>obtain ⟨b,I,e,j,_⟩:=h2; cases e; rw [z] at j; cases j
  | fro O=>obtain ⟨b,I,e,j,_⟩:=h2; cases e; rcases j with j | ⟨o,j⟩ <;> (rw [z] at j; cases j)
  | ref i=>cases B
  | dic=>cases B
  | _=>cases h2
 | .lst ps,q,x,0,G,_,_,_=>by cases G
 | .lst ps,q,x,n + 1,G,B,⟨a,vs,e,z,_,r⟩,h2=>by
  subst e;cases q with
  | lst O=>
   obtain ⟨b,I,e,j,_,J⟩:=h2;cases e;rw [z] at j; cases j;rw [peq];exact Xu G B r J
  | tup O=>obtain ⟨b,I,e,j,_⟩:=h2; cases e; rw [z] at j; cases j
  | fro O=>
   obtain ⟨b,I,e,j,_,J⟩:=h2;cases e;rcases j with j | ⟨o,j⟩
   ·rw [z] at j; cases j;rw [peq];exact Xu G B r J
   ·rw [z] at j; cases j
  | ref i=>cases B
  | dic=>cases B
  | _=>cases h2
 | .fro ps,q,x,0,G,_,_,_=>by cases G
 | .fro ps,q,x,n + 1,G,B,⟨a,vs,e,z,_,r⟩,h2=>by
  subst e;cases q with
  | lst O=>
   obtain ⟨b,I,e,j,_,J⟩:=h2;cases e;rcases z with z | ⟨o,z⟩
   ·rw [z] at j; cases j;rw [peq];exact Xu G B r J
   ·rw [z] at j; cases j
  | tup O=>obtain ⟨b,I,e,j,_⟩:=h2; cases e; rcases z with z | ⟨o,z⟩ <;> (rw [z] at j; cases j)
  | fro O=>
   obtain ⟨b,I,e,j,_,J⟩:=h2;cases e;have:vs=I:=by
    rcases z with z | ⟨o,z⟩ <;> rcases j with j | ⟨o',j⟩ <;> (rw [z] at j; cases j) <;> rfl
   subst this;rw [peq];exact Xu G B r J
  | ref i=>cases B
  | dic=>cases B
  | _=>cases h2
 | .ref i,_,_,n,G,_,_,_=>by cases n <;> cases G
 | .dic,_,_,n,G,_,_,_=>by cases n <;> cases G
theorem Xu:∀ {ps j:List PV} {vs:List V} {n:Nat},ps.all (Jw n)=true->j.all (Jw n)=true->RepL H ρ ps vs->RepL H ρ j vs->Xh ps j=true
 | [],j,vs,n,_,_,h1,h2=>by
  cases h1;cases j with
  | nil=>rfl
  | cons q j=>obtain ⟨_,_,e,_⟩:=h2; cases e
 | p :: ps,j,vs,n,G,g2,⟨v,r,e,h1,z⟩,h2=>by
  subst e;cases j with
  | nil=>cases h2
  | cons q j=>
   obtain ⟨_,_,e,h2,B⟩:=h2;cases e;rw [List.all_cons,L6] at G g2;rw [Xh,Qbn G.1 g2.1 h1 h2,Xu G.2 g2.2 z B]; rfl
end
inductive Kd (H:Hp) (ρ:Tk) (s:aC):PV->aB->Prop where
 | non:Kd H ρ s .non .none
 | bl (b):Kd H ρ s (.bl b) (.bool b)
 | int (i t):Kd H ρ s (.int i) (.int i t)
 | str (x t):Kd H ρ s (.str x) (.str x t)
 | tup (ps a) (vs:List V) (its:List aB):H a=some (.tup vs)->RepL H ρ ps vs->Vals vs its->s.heap.IsTuple a its.toArray->Kd H ρ s (.tup ps) (.ref a)
 | lst (p ps a) (vs:List V) (its:List aB):(p=.lst ps\/p=.fro ps)->RepL H ρ ps vs->Vals vs its->s.heap.IsList a its.toArray->Kd H ρ s p (.ref a)
theorem Qfc {p:PV} {x:V} {u:aB} {n:Nat} (I:Inv X pins σ H s) (g:Jw n p=true) (r:Rep H ρ p x) (j:RelV x u):Kd H ρ s p u:=by
 cases p with
 | non=>cases r; cases j; exact .non
 | bl b=>cases r; cases j; exact .bl b
 | int i=>cases r; obtain ⟨t,rfl⟩:=j; exact .int i t
 | str i=>cases r; obtain ⟨t,rfl⟩:=j; exact .str i t
 | tup ps=>
  obtain ⟨a,vs,rfl,z,_,B⟩:=r;cases j;obtain ⟨its,J,G,_⟩:=I.tuple (SqT.of (K:=X.K) z);exact .tup ps a vs its z B J G
 | lst ps=>
  obtain ⟨a,vs,rfl,z,_,B⟩:=r;cases j;obtain ⟨its,J,G,_⟩:=I.list (SqL.of (K:=X.K) z);exact .lst _ ps a vs its (.inl rfl) B J G.isList
 | fro ps=>
  obtain ⟨a,vs,rfl,z,_,B⟩:=r;cases j;obtain ⟨its,J,G,_⟩:=I.list (show SqL X.K H a vs from .inl z);exact .lst _ ps a vs its (.inr rfl) B J G.isList
 | ref i=>cases n <;> cases g
 | dic=>cases n <;> cases g
theorem Q4m {ps:List PV} {vs:List V} {its:List aB} (r:RepL H ρ ps vs) (v:Vals vs its) {j:Nat} (h:j < its.length):∃ x,Rep H ρ (ps.getD j .non) x/\RelV x its[j]:=by
 have I:=r.length;have G:=v.length;have z:j < ps.length:=by omega
 obtain ⟨x,e1,e2⟩:=r.get (O3 z);obtain ⟨u,e3,B⟩:=v.get e1;rw [O3 h] at e3; cases e3;refine ⟨x,?_,B⟩;rw [List.getD,O3 z];exact e2
theorem Q0i {ps:List PV} {n:Nat} (g:ps.all (Jw n)=true) (j:Nat) (z:j < ps.length):Jw n (ps.getD j .non)=true:=by
 rw [List.getD,O3 z];exact (L7.mp g) _ (List.getElem_mem z)
theorem Qdq {ps z:List PV}:((List.range (min ps.length z.length)).all (fun j=>peq (ps.getD j .non) (z.getD j .non)) && ps.length == z.length)=Xh ps z:=by
 by_cases e:ps.length=z.length
 ·rw [Q5g e,<- e,Nat.min_self,beq_self_eq_true,Bool.and_true]
 ·rw [Q5f e,beq_eq_false_iff_ne.mpr e,Bool.and_false]
theorem Qfq:∀ (n:Nat) {A:aN} {p q:PV} {x y:V} {u v:aB},Inv X pins σ H s->Jw n p=true->Jw n q=true->A.units + n < aW->Rep H ρ p x->RelV x u->Rep H ρ q y->RelV y v ->
  EqAt A s u v (peq p q)/\RcAt A s u v (peq p q)/\RcNeAt A s u v (!peq p q):=by
 intro n
 induction n with
 | zero=>
  intro A p q x y u v I Y J hu rp ru rq rv;have k1:=Qfc I Y rp ru;have k2:=Qfc I J rq rv;have hu:A.units < aW:=by omega
  cases k1 with
  | tup=>cases Y
  | lst p ps a vs its h=>rcases h with rfl | rfl <;> cases Y
  | non=>cases k2 with
   | tup=>cases J
   | lst p ps a vs its h=>rcases h with rfl | rfl <;> cases J
   | non=>exact ⟨EqAt.same _,RcAt.none_none,RcNeAt.none_none⟩
   | bl b=>exact ⟨EqAt.none_bool _,RcAt.none_bool _,RcNeAt.none_bool _⟩
   | int i t=>exact ⟨EqAt.none_int _ _,RcAt.none_int _ _,RcNeAt.none_int _ _⟩
   | str i t=>exact ⟨EqAt.none_str _ _,RcAt.none_str _ _,RcNeAt.none_str _ _⟩
  | bl a=>cases k2 with
   | tup=>cases J
   | lst p ps a vs its h=>rcases h with rfl | rfl <;> cases J
   | non=>exact ⟨EqAt.bool_none _,RcAt.bool_none _,RcNeAt.bool_none _⟩
   | bl b=>exact ⟨EqAt.bool_bool _ _,RcAt.bool_bool _ _,RcNeAt.bool_bool _ _⟩
   | int i t=>exact ⟨EqAt.bool_int _ _ _,RcAt.bool_int _ _ _,RcNeAt.bool_int _ _ _⟩
   | str i t=>exact ⟨EqAt.bool_str _ _ _,RcAt.bool_str _ _ _,RcNeAt.bool_str _ _ _⟩
  | int a a3=>cases k2 with
   | tup=>cases J
   | lst p ps a vs its h=>rcases h with rfl | rfl <;> cases J
   | non=>exact ⟨EqAt.int_none _ _,RcAt.int_none _ _,RcNeAt.int_none _ _⟩
   | bl b=>exact ⟨EqAt.int_bool _ _ _,RcAt.int_bool _ _ _,RcNeAt.int_bool _ _ _⟩
   | int i t=>exact ⟨EqAt.int_int _ _ _ _,RcAt.int_int _ _ _ _,RcNeAt.int_int _ _ _ _⟩
   | str i t=>exact ⟨EqAt.int_str _ _ _ _,RcAt.int_str _ _ _ _,RcNeAt.int_str _ _ _ _⟩
  | str a a3=>cases k2 with
   | tup=>cases J
   | lst p ps a vs its h=>rcases h with rfl | rfl <;> cases J
   | non=>exact ⟨EqAt.str_none _ _,RcAt.str_none _ _,RcNeAt.str_none _ _⟩
   | bl b=>exact ⟨EqAt.str_bool _ _ _,RcAt.str_bool _ _ _,RcNeAt.str_bool _ _ _⟩
   | int i t=>exact ⟨EqAt.str_int _ _ _ _,RcAt.str_int _ _ _ _,RcNeAt.str_int _ _ _ _⟩
   | str i t=>exact ⟨EqAt.str_str _ _ _ _,RcAt.str_str _ _ _ _,RcNeAt.str_str _ _ _ _⟩
 | succ n ih=>
  intro A p q x y u v I Y J hu rp ru rq rv;have k1:=Qfc I Y rp ru;have k2:=Qfc I J rq rv;have z:A.units < aW:=by omega
  have a5:A.in1.units + n < aW:=by show A.units + 1 + n < aW; omega
  cases k1 with
  | non=>cases k2 with
   | non=>exact ⟨EqAt.same _,RcAt.none_none,RcNeAt.none_none⟩
   | bl b=>exact ⟨EqAt.none_bool _,RcAt.none_bool _,RcNeAt.none_bool _⟩
   | int i t=>exact ⟨EqAt.none_int _ _,RcAt.none_int _ _,RcNeAt.none_int _ _⟩
   | str i t=>exact ⟨EqAt.none_str _ _,RcAt.none_str _ _,RcNeAt.none_str _ _⟩
   | tup ps a vs its ha r U B=>exact ⟨EqAt.none_tuple B z,RcAt.none_tuple B z,RcNeAt.none_tuple B z⟩
   | lst p ps a vs its h r U B=>rcases h with rfl | rfl <;> exact ⟨EqAt.none_list B z,RcAt.none_list B z,RcNeAt.none_list B z⟩
  | bl a=>cases k2 with
   | non=>exact ⟨EqAt.bool_none _,RcAt.bool_none _,RcNeAt.bool_none _⟩
   | bl b=>exact ⟨EqAt.bool_bool _ _,RcAt.bool_bool _ _,RcNeAt.bool_bool _ _⟩
   | int i t=>exact ⟨EqAt.bool_int _ _ _,RcAt.bool_int _ _ _,RcNeAt.bool_int _ _ _⟩
   | str i t=>exact ⟨EqAt.bool_str _ _ _,RcAt.bool_str _ _ _,RcNeAt.bool_str _ _ _⟩
   | tup ps a vs its ha r U B=>exact ⟨EqAt.bool_tuple _ B z,RcAt.bool_tuple _ B z,RcNeAt.bool_tuple _ B z⟩
   | lst p ps a vs its h r U B=>rcases h with rfl | rfl <;> exact ⟨EqAt.bool_list _ B z,RcAt.bool_list _ B z,RcNeAt.bool_list _ B z⟩
  | int a a3=>cases k2 with
   | non=>exact ⟨EqAt.int_none _ _,RcAt.int_none _ _,RcNeAt.int_none _ _⟩
   | bl b=>exact ⟨EqAt.int_bool _ _ _,RcAt.int_bool _ _ _,RcNeAt.int_bool _ _ _⟩
   | int i t=>exact ⟨EqAt.int_int _ _ _ _,RcAt.int_int _ _ _ _,RcNeAt.int_int _ _ _ _⟩
   | str i t=>exact ⟨EqAt.int_str _ _ _ _,RcAt.int_str _ _ _ _,RcNeAt.int_str _ _ _ _⟩
   | tup ps a vs its ha r U B=>exact ⟨EqAt.int_tuple _ _ B z,RcAt.int_tuple _ _ B z,RcNeAt.int_tuple _ _ B z⟩
   | lst p ps a vs its h r U B=>rcases h with rfl | rfl <;> exact ⟨EqAt.int_list _ _ B z,RcAt.int_list _ _ B z,RcNeAt.int_list _ _ B z⟩
  | str a a3=>cases k2 with
   | non=>exact ⟨EqAt.str_none _ _,RcAt.str_none _ _,RcNeAt.str_none _ _⟩
   | bl b=>exact ⟨EqAt.str_bool _ _ _,RcAt.str_bool _ _ _,RcNeAt.str_bool _ _ _⟩
   | int i t=>exact ⟨EqAt.str_int _ _ _ _,RcAt.str_int _ _ _ _,RcNeAt.str_int _ _ _ _⟩
   | str i t=>exact ⟨EqAt.str_str _ _ _ _,RcAt.str_str _ _ _ _,RcNeAt.str_str _ _ _ _⟩
   | tup ps a vs its ha r U B=>exact ⟨EqAt.str_tuple _ _ B z,RcAt.str_tuple _ _ B z,RcNeAt.str_tuple _ _ B z⟩
   | lst p ps a vs its h r U B=>rcases h with rfl | rfl <;> exact ⟨EqAt.str_list _ _ B z,RcAt.str_list _ _ B z,RcNeAt.str_list _ _ B z⟩
  | tup ps a vs its ha r U B=>cases k2 with
   | non=>exact ⟨EqAt.tuple_none B z,RcAt.tuple_none B z,RcNeAt.tuple_none B z⟩
   | bl b=>exact ⟨EqAt.tuple_bool _ B z,RcAt.tuple_bool _ B z,RcNeAt.tuple_bool _ B z⟩
   | int i t=>exact ⟨EqAt.tuple_int _ _ B z,RcAt.tuple_int _ _ B z,RcNeAt.tuple_int _ _ B z⟩
   | str i t=>exact ⟨EqAt.tuple_str _ _ B z,RcAt.tuple_str _ _ B z,RcNeAt.tuple_str _ _ B z⟩
   | tup O b us G hb Z v2 p2=>
    have l1:its.toArray.size=ps.length:=by rw [O4,<- U.length,r.length]
    have l2:G.toArray.size=O.length:=by rw [O4,<- v2.length,Z.length]
    have he:∀ j (h1:j < its.toArray.size) (h2:j < G.toArray.size),EqAt A.in1 s its.toArray[j] G.toArray[j] (peq (ps.getD j .non) (O.getD j .non)):=fun j h1 h2=>by
     obtain ⟨x1,a1,b1⟩:=Q4m r U (j:=j) (by simpa using h1);obtain ⟨x2,a2,b2⟩:=Q4m Z v2 (j:=j) (by simpa using h2);exact (ih I (Q0i Y j (by omega)) (Q0i J j (by omega)) a5 a1 b1 a2 b2).1
    have rc:=RcAt.tuples B p2 z he;have rn:=RcNeAt.tuples B p2 z he;rw [l1,l2,Qdq] at rc rn;refine ⟨?_,rc,rn⟩
    by_cases e:a=b
    ·subst e;have:Xh ps O=true:=by
      rw [ha] at hb; cases hb;exact Xu Y J r Z
     show EqAt A s _ _ (Xh ps O);rw [this];exact EqAt.same _
    ·exact EqAt.of_refs e rc
   | lst q O b us G h Z v2 p2=>rcases h with rfl | rfl <;> exact ⟨EqAt.tuple_list B p2 z,RcAt.tuple_list B p2 z,RcNeAt.tuple_list B p2 z⟩
  | lst p ps a vs its h r U B=>cases k2 with
   | non=>rcases h with rfl | rfl <;> exact ⟨EqAt.list_none B z,RcAt.list_none B z,RcNeAt.list_none B z⟩
   | bl b=>rcases h with rfl | rfl <;> exact ⟨EqAt.list_bool _ B z,RcAt.list_bool _ B z,RcNeAt.list_bool _ B z⟩
   | int i t=>rcases h with rfl | rfl <;> exact ⟨EqAt.list_int _ _ B z,RcAt.list_int _ _ B z,RcNeAt.list_int _ _ B z⟩
   | str i t=>rcases h with rfl | rfl <;> exact ⟨EqAt.list_str _ _ B z,RcAt.list_str _ _ B z,RcNeAt.list_str _ _ B z⟩
   | tup O b us G hb Z v2 p2=>rcases h with rfl | rfl <;> exact ⟨EqAt.list_tuple B p2 z,RcAt.list_tuple B p2 z,RcNeAt.list_tuple B p2 z⟩
   | lst q O b us G h2 Z v2 p2=>
    have l1:its.toArray.size=ps.length:=by rw [O4,<- U.length,r.length]
    have l2:G.toArray.size=O.length:=by rw [O4,<- v2.length,Z.length]
    have a6:ps.all (Jw n)=true:=by rcases h with rfl | rfl <;> exact Y
    have a7:O.all (Jw n)=true:=by rcases h2 with rfl | rfl <;> exact J
    have ep:peq p q=Xh ps O:=by rcases h with rfl | rfl <;> rcases h2 with rfl | rfl <;> rfl
    have he:∀ j (h1:j < its.toArray.size) (h2:j < G.toArray.size),EqAt A.in1 s its.toArray[j] G.toArray[j] (peq (ps.getD j .non) (O.getD j .non)):=fun j h1 h2=>by
     obtain ⟨x1,a1,b1⟩:=Q4m r U (j:=j) (by simpa using h1);obtain ⟨x2,a2,b2⟩:=Q4m Z v2 (j:=j) (by simpa using h2);exact (ih I (Q0i a6 j (by omega)) (Q0i a7 j (by omega)) a5 a1 b1 a2 b2).1
    rw [ep];have a4:RcAt A s (.ref a) (.ref b) (Xh ps O)/\RcNeAt A s (.ref a) (.ref b) (!Xh ps O):=by
     by_cases e:ps.length=O.length
     ·have rc:=RcAt.lists B p2 (by rw [l1,l2,e]) z he;have rn:=RcNeAt.lists B p2 (by rw [l1,l2,e]) z he;rw [l1,<- Q5g e] at rc rn;exact ⟨rc,rn⟩
     ·have e':(its.toArray.size != G.toArray.size)=true:=by rw [l1,l2]; simpa using e
      rw [Q5f e];exact ⟨RcAt.lists_lengths B p2 e' z,RcNeAt.lists_lengths B p2 e' z⟩
    refine ⟨?_,a4.1,a4.2⟩
    by_cases e:a=b
    ·subst e;have a8:peq p q=true:=by
      have a9:=rp;have b0:=rq;have xa:x=.ref a:=by
       rcases h with rfl | rfl <;> (obtain ⟨b',_,rfl,_⟩:=rp; cases ru; rfl)
      have ya:y=.ref a:=by
       rcases h2 with rfl | rfl <;> (obtain ⟨b',_,rfl,_⟩:=rq; cases rv; rfl)
      subst xa; subst ya;exact Qbn Y J rp rq
     rw [<- ep,a8];exact EqAt.same _
    ·exact EqAt.of_refs e a4.1
end
end Sm
namespace Sm
open PySem PySem.Spec L2
def lim:Nat:=1000000
theorem Qac:lim<=sizeLine:=by decide
theorem K0 {n:Nat} (h:n<=lim):n<=sizeLine:=F0 h Qac
def Q0x (st:Q2):PV->Option (List PV)
 | .lst xs=>some xs
 | .ref i=>match st[i]? with
  | some (.lst xs)=>some xs
  | _=>none
 | _=>none
def listOf (st:Q2):PV->Option (List PV)
 | .fro xs=>some xs
 | p=>Q0x st p
def Kb (st:Q2):PV->Option (List PV)
 | .tup xs=>some xs
 | p=>listOf st p
def der (st:Q2):PV->PV
 | .ref i=>match st[i]? with
  | some (.lst xs)=>.lst xs
  | _=>.ref i
 | p=>p
section
variable {H:Hp} {ρ:Tk} {st:Q2} {p:PV} {v:V} {xs:List PV}
theorem Q64 (R:Rel H ρ st) (r:Rep H ρ p v) (e:Q0x st p=some xs):∃ a vs,v=.ref a/\H a=some (.lst vs)/\RepL H ρ xs vs:=by
 cases p with
 | lst ys=>
  obtain ⟨a,vs,e1,e2,_,e3⟩:=r;cases e;exact ⟨a,vs,e1,e2,e3⟩
 | ref i=>
  obtain ⟨a,e1,e2⟩:=r;simp only [Q0x] at e
  split at e
  ·rename_i ys hs;cases e;obtain ⟨b,vs,j,z,B⟩:=R.lst hs;rw [e1] at j; cases j;exact ⟨a,vs,e2,z,B⟩
  ·cases e
 | _=>cases e
theorem Q2a (R:Rel H ρ st) (r:Rep H ρ p v) (e:listOf st p=some xs):∃ a vs,v=.ref a/\Rd H a (.lst vs)/\RepL H ρ xs vs:=by
 cases p with
 | fro ys=>
  obtain ⟨a,vs,e1,e2,_,e3⟩:=r;cases e;exact ⟨a,vs,e1,e2,e3⟩
 | _=>
  obtain ⟨a,vs,e1,e2,e3⟩:=Q64 R r e;exact ⟨a,vs,e1,.inl e2,e3⟩
theorem Q2u {K:PySem.W.Frag} (R:Rel H ρ st) (r:Rep H ρ p v) (e:Kb st p=some xs):∃ (t:Bool) (a:aA) (vs:List V),v=.ref a/\SqK K t H a vs/\RepL H ρ xs vs:=by
 cases p with
 | tup ys=>
  obtain ⟨a,vs,e1,e2,_,e3⟩:=r;cases e;exact ⟨true,a,vs,e1,show SqT K H a vs from SqT.of e2,e3⟩
 | _=>
  obtain ⟨a,vs,e1,e2,e3⟩:=Q2a R r e;exact ⟨false,a,vs,e1,show SqL K H a vs from .inl e2,e3⟩
theorem Qrp {K:PySem.W.Frag} {t:Bool} {a:aA} {vs:List V} (h:SqK K t H a vs):SqL K H a vs\/SqT K H a vs:=by
 cases t with
 | true=>exact .inr h
 | false=>exact .inl h
mutual
theorem Qew:∀ {n:Nat} {q:PV} {u:V},Jw n q=true->Rep H ρ q u->Rep H Tk.nil q u
 | _,.non,_,_,r=>r
 | _,.bl _,_,_,r=>r
 | _,.int _,_,_,r=>r
 | _,.str _,_,_,r=>r
 | 0,.tup _,_,g,_=>by cases g
 | 0,.lst _,_,g,_=>by cases g
 | 0,.fro _,_,g,_=>by cases g
 | n + 1,.tup _,_,g,⟨a,vs,e,h,_,r⟩=>⟨a,vs,e,h,Tk.not_nil _,qr g r⟩
 | n + 1,.lst _,_,g,⟨a,vs,e,h,_,r⟩=>⟨a,vs,e,h,Tk.not_nil _,qr g r⟩
 | n + 1,.fro _,_,g,⟨a,vs,e,h,_,r⟩=>⟨a,vs,e,h,Tk.not_nil _,qr g r⟩
 | 0,.ref _,_,g,_=>by cases g
 | _ + 1,.ref _,_,g,_=>by cases g
 | 0,.dic,_,g,_=>by cases g
 | _ + 1,.dic,_,g,_=>by cases g
theorem qr:∀ {n:Nat} {j:List PV} {z:List V},j.all (Jw n)=true->RepL H ρ j z->RepL H Tk.nil j z
 | _,[],_,_,r=>r
 | n,q :: j,_,g,⟨v,r,e,h1,h2⟩=>by
  rw [List.all_cons,L6] at g;exact ⟨v,r,e,Qew g.1 h1,qr g.2 h2⟩
end
theorem Q0j (R:Rel H ρ st) {n:Nat} (g:Jw n (der st p)=true) (r:Rep H ρ p v):Rep H Tk.nil (der st p) v:=by
 cases p with
 | ref i=>
  obtain ⟨a,e1,e2⟩:=r;simp only [der] at g ⊢
  split at g
  ·rename_i ys hs;obtain ⟨b,vs,j,B,z⟩:=R.lst hs;rw [e1] at j; cases j;cases n with
   | zero=>cases g
   | succ n=>exact ⟨a,vs,e2,B,Tk.not_nil _,qr g z⟩
  ·cases n <;> cases g
 | _=>exact Qew g r
theorem Q28 {mg:Str->Option aB} {E:XK} {Q:VK} {ps:List PV} {vs:List V} (R:Rel H ρ st) (h:Acc mg E H ρ (QV Q) (.ok (.tup ps) st)) (r:RepL H ρ ps vs):∀ p,H p=none->Q (.ref p) (upd H p (.tup vs)):=
 fun p hp=>h _ ρ (Ext.add hp) (R.add hp) _ ⟨p,vs,rfl,Qr,R.fresh hp,r.ext (Ext.add hp)⟩
theorem y1 {mg:Str->Option aB} {E:XK} {Q:VK} {ps:List PV} {vs:List V} (R:Rel H ρ st) (h:Acc mg E H ρ (QV Q) (.ok (.lst ps) st)) (r:RepL H ρ ps vs):∀ p,H p=none->Q (.ref p) (upd H p (.lst vs)):=
 fun p hp=>h _ ρ (Ext.add hp) (R.add hp) _ ⟨p,vs,rfl,Qr,R.fresh hp,r.ext (Ext.add hp)⟩
theorem now {mg:Str->Option aB} {E:XK} {Q:VK} {p:PV} (R:Rel H ρ st) (h:Acc mg E H ρ (QV Q) (.ok p st)) (r:Rep H ρ p v):Q v H:=h H ρ (Ext.refl _ _) R v r
end
section
variable {X:Cx} {E:XK} {pos:Pos}
def Q4 (i:Nat):ME:=fun Γ st=>match Γ[i]? with
 | some (some p)=>.ok p st
 | _=>.stuck
def mC (p:PV):ME:=fun _ st=>.ok p st
theorem Q0 (i:Nat) {x:Str} (B:X.N[i]?=some x:=by rfl) (z:Vis X.env.scope x:=by first | exact Or.inl rfl | exact Or.inr (Or.inl rfl) | exact Or.inr (Or.inr rfl)) (hd:(x == ("__debug__" : Str))=false:=by decide)
  (j:(x == ("__classdict__" : Str))=false:=by decide):SimE X E (.Name x pos) (Q4 i):=⟨fun Γ σ H ρ st Q R G h=>WE.of (Qjg B z hd j) (by
 unfold Q4 at h
 split at h
 ·rename_i p e;obtain ⟨v,e1,r⟩:=G.2 i p e;exact ⟨v,e1,now R h r⟩
 ·exact h.elim)⟩
theorem Qa {i:Int} {j:Nat}:SimE X E (.Constant (.int i) j pos) (mC (.int i)):=⟨fun Γ σ H ρ st Q R G h=>WE.of Qdt (now R h rfl)⟩
theorem Wu {b:Bool} {j:Nat}:SimE X E (.Constant (.bool b) j pos) (mC (.bl b)):=⟨fun Γ σ H ρ st Q R G h=>WE.of Qjn (now R h rfl)⟩
theorem Qdd {j:Nat}:SimE X E (.Constant .none j pos) (mC .non):=⟨fun Γ σ H ρ st Q R G h=>WE.of Qdr (now R h rfl)⟩
theorem Y7 {x:Str} {j:Nat}:SimE X E (.Constant (.str x) j pos) (mC (.str x)):=⟨fun Γ σ H ρ st Q R G h=>WE.of Q9v (now R h rfl)⟩
theorem Qeu {x:Str} {i:Int} {t:Tok} (z:Gl X x) (j:X.mg x=some (.int i t)) (hd:(x == ("__debug__" : Str))=false:=by decide):SimE X E (.Name x pos) (mC (.int i)):=
 ⟨fun Γ σ H ρ st Q R G h=>WE.of (W9 z j (v:=.int i) ⟨t,rfl⟩ hd) (now R h rfl)⟩
variable {a b c:aD} {ma mb mc:ME}
def mOp (o:OP) (ma mb:ME):ME:=fun Γ st=>(ma Γ st).bind fun x st1=>(mb Γ st1).bind fun y st2=>o st2 x y
theorem Qau {f:aB->aB->Sem aB} {o:OP} {Γ:Gam} {σ:St} {H:Hp} {ρ:Tk} {st:Q2} {P:PV->Q2->Hp->Tk->Prop} {Q:VK} (ho:OpS X E f o) (Y:SimE X E a ma) (O:SimE X E b mb) (R:Rel H ρ st) (G:EnvR H ρ Γ σ) (h:Acc X.mg E H ρ P (mOp o ma mb Γ st))
  (k:∀ p j H1 ρ1 v,Ext H ρ H1 ρ1->Rel H1 ρ1 j->Rep H1 ρ1 p v->P p j H1 ρ1->Q v H1):tOp (WO X f) (WE X a) (WE X b) σ H Q:=by
 refine Y.use R G h.bind fun p j H1 ρ1 v Z R1 G1 r1 h1=>?_
 refine O.use R1 G1 h1.bind fun q a2 H2 a1 u J R2 G2 r2 h2=>?_
 exact ho.use R2 (r1.ext J) r2 h2 fun w I H3 B z x3 R3 r3 U=>k w I H3 B z (Z.trans (J.trans x3)) R3 r3 U
theorem Jc {op:Operator} {o:OP} (B:OpS X E (aV op) o) (z:SimE X E a ma) (j:SimE X E b mb):SimE X E (.BinOp a op b pos) (mOp o ma mb):=
 ⟨fun Γ σ H ρ st Q R G h=>WE.of (Qr0 Qdu W8 W8) (Qau B z j R G h fun _ _ _ _ v _ _ r q=>q v r)⟩
theorem Wp {op:CmpOp} {o:OP} (I:OpS X E (aS op) o) (B:SimE X E a ma) (j:SimE X E b mb) (z:bG op b=false:=by first | exact Qa5 _ | rfl):SimE X E (.Compare a [op] [b] pos) (mOp o ma mb):=
 ⟨fun Γ σ H ρ st Q R G h=>WE.of (Qp0 Qdu W8 W8 z) (Qau I B j R G h fun _ _ _ _ v _ _ r q=>q v r)⟩
def asB (p:PV) (st:Q2):Res Bool:=match p with
 | .bl k=>.ok k st
 | _=>.stuck
def toB (m:ME):Gam->Q2->Res Bool:=fun Γ st=>(m Γ st).bind asB
theorem Qmh {mg:Str->Option aB} {H:Hp} {ρ:Tk} {st:Q2} {p:PV} {v:V} {P:Bool->Q2->Hp->Tk->Prop} (R:Rel H ρ st) (r:Rep H ρ p v) (h:Acc mg E H ρ P (asB p st)):∃ k,v=.bl k/\P k st H ρ:=by
 cases p with
 | bl k=>exact ⟨k,r,h H ρ (Ext.refl _ _) R⟩
 | _=>exact h.elim
theorem J6 {op:CmpOp} {o:OP} (U:OpS X E (aS op) o) (J:SimE X E a ma) (B:SimE X E b mb) (I:bG op b=false:=by first | exact Qa5 _ | rfl):SimT X E (.Compare a [op] [b] pos) (toB (mOp o ma mb)):=
 ⟨fun Γ σ H ρ st Q R G h=>WT.of (Q9r Qdu W8 W8 I) (Qau U J B R G h.bind fun _ O _ _ v _ j r q=>by
  obtain ⟨k,e,z⟩:=Qmh j r q;exact ⟨k,e,z⟩)⟩
theorem Zm {e:aD} {m:ME} (h:SimE X E e m) (I:∀ j,isTrue e X.env j=(do let v <- j; standAt e.pos; bB [v] (truthy v)):=by intro _; rfl):SimT X E e (toB m):=
 ⟨fun Γ σ H ρ st Q R G O=>WT.of (Qj7 W8 I) (h.use R G O.bind fun p U H1 ρ1 v Z J Y B h1=>by
  obtain ⟨k,e,z⟩:=Qmh J B h1;exact ⟨k,e,z⟩)⟩
def Q01 (o o':OP) (ma mb mc:ME):ME:=fun Γ st=>(ma Γ st).bind fun x st1=>(mb Γ st1).bind fun y st2=>(o st2 x y).bind fun k st3=>match k with
 | .bl true=>(mc Γ st3).bind fun z st4=>o' st4 y z
 | .bl false=>.ok (.bl false) st3
 | _=>.stuck
theorem Q8q {op I:CmpOp} {o o':OP} {Γ:Gam} {σ:St} {H:Hp} {ρ:Tk} {st:Q2} {P:PV->Q2->Hp->Tk->Prop} {Q:VK} (ho:OpS X E (aS op) o) (Y:OpS X E (aS I) o') (ha:SimE X E a ma) (hb:SimE X E b mb) (hc:SimE X E c mc) (R:Rel H ρ st) (G:EnvR H ρ Γ σ) (h:Acc X.mg E H ρ P (Q01 o o' ma mb mc Γ st))
  (k:∀ p j H1 ρ1 v,Ext H ρ H1 ρ1->Rel H1 ρ1 j->Rep H1 ρ1 p v->P p j H1 ρ1->Q v H1):Qd9 (WO X (aS op)) (WO X (aS I)) (WE X a) (WE X b) (WE X c) σ H Q:=by
 refine ha.use R G h.bind fun p j H1 ρ1 v x1 R1 G1 r1 h1=>?_
 refine hb.use R1 G1 h1.bind fun q a4 H2 a3 u U R2 G2 r2 h2=>?_
 refine ho.use R2 (r1.ext U) r2 h2.bind fun w a6 H3 B z J R3 r3 O=>?_
 cases w with
 | bl b=>
  refine ⟨b,r3,?_⟩;cases b with
  | true=>
   rw [bQ rfl];refine hc.use R3 (G2.ext J) O.bind fun y a5 H4 a2 yv x4 R4 G4 r4 h4=>?_
   exact Y.use R4 (r2.ext (J.trans x4)) r4 h4 fun w a1 H5 Z z x5 R5 r5 p5=>k w a1 H5 Z z (x1.trans (U.trans (J.trans (x4.trans x5)))) R5 r5 p5
  | false=>
   rw [bS D1];exact k (.bl false) _ H3 B _ (x1.trans (U.trans J)) R3 rfl (O H3 B (Ext.refl _ _) R3)
 | _=>exact O.elim
theorem Qbc {op j:CmpOp} {o o':OP} (U:OpS X E (aS op) o) (z:OpS X E (aS j) o') (O:SimE X E a ma) (B:SimE X E b mb) (I:SimE X E c mc) (J:lastMarks [op,j] [b,c]=false:=by with_unfolding_all rfl):SimE X E (.Compare a [op,j] [b,c] pos) (Q01 o o' ma mb mc):=
 ⟨fun Γ σ H ρ st Q R G h=>WE.of (Qjk Qdu Qdu W8 W8 W8 J) (Q8q U z O B I R G h fun _ _ _ _ v _ _ r q=>q v r)⟩
theorem Qid {op j:CmpOp} {o o':OP} (ho:OpS X E (aS op) o) (B:OpS X E (aS j) o') (Y:SimE X E a ma) (J:SimE X E b mb) (O:SimE X E c mc) (U:lastMarks [op,j] [b,c]=false:=by with_unfolding_all rfl):SimT X E (.Compare a [op,j] [b,c] pos) (toB (Q01 o o' ma mb mc)):=
 ⟨fun Γ σ H ρ st Q R G h=>WT.of (Qj9 Qdu Qdu W8 W8 W8 U) (Q8q ho B Y J O R G h.bind fun _ Z _ _ v _ I r q=>by
  obtain ⟨k,e,z⟩:=Qmh I r q;exact ⟨k,e,z⟩)⟩
variable {rest:List aD}
def Q02 (ma mb:ME):ME:=fun Γ st=>(ma Γ st).bind fun x st1=>match x with
 | .bl true=>mb Γ st1
 | .bl false=>.ok (.bl false) st1
 | _=>.stuck
def mOr (ma mb:ME):ME:=fun Γ st=>(ma Γ st).bind fun x st1=>match x with
 | .bl true=>.ok (.bl true) st1
 | .bl false=>mb Γ st1
 | _=>.stuck
def Qk0 (ma:ME):ME:=fun Γ st=>(ma Γ st).bind fun x st1=>match x with
 | .bl k=>.ok (.bl (!k)) st1
 | _=>.stuck
theorem Xp {op:BoolOp} (j:SimE X E a ma):SimE X E (.BoolOp op [a] pos) ma:=⟨fun Γ σ H ρ st Q R G h=>WE.of (Qs9 W8) (j.use R G h fun _ _ _ _ v _ _ _ r q=>q v r)⟩
theorem Xq (J:SimE X E a ma) (B:SimE X E (.BoolOp .And (b :: rest) pos) mb):SimE X E (.BoolOp .And (a :: b :: rest) pos) (Q02 ma mb):=
 ⟨fun Γ σ H ρ st Q R G h=>WE.of (Qsb W8 W8) (J.use R G h.bind fun p O H1 ρ1 v U j I z h1=>by
  cases p with
  | bl k=>
   refine ⟨k,z,?_⟩;cases k with
   | true=>rw [bQ rfl]; exact B.use j I h1 fun _ _ _ _ v _ _ _ r q=>q v r
   | false=>rw [bS D1]; exact now j h1 rfl
  | _=>exact h1.elim)⟩
theorem Quz (J:SimE X E a ma) (B:SimE X E (.BoolOp .Or (b :: rest) pos) mb):SimE X E (.BoolOp .Or (a :: b :: rest) pos) (mOr ma mb):=
 ⟨fun Γ σ H ρ st Q R G h=>WE.of (Qve W8 W8) (J.use R G h.bind fun p O H1 ρ1 v U j I z h1=>by
  cases p with
  | bl k=>
   refine ⟨k,z,?_⟩;cases k with
   | true=>rw [bQ rfl]; exact now j h1 rfl
   | false=>rw [bS D1]; exact B.use j I h1 fun _ _ _ _ v _ _ _ r q=>q v r
  | _=>exact h1.elim)⟩
theorem Qiq (B:SimE X E a ma):SimE X E (.UnaryOp .Not a pos) (Qk0 ma):=
 ⟨fun Γ σ H ρ st Q R G h=>WE.of (Qsa W8) (B.use R G h.bind fun p I H1 ρ1 v O z J j h1=>by
  cases p with
  | bl k=>exact ⟨k,j,now z h1 rfl⟩
  | _=>exact h1.elim)⟩
def Qpk (ma:ME):ME:=fun Γ st=>(ma Γ st).bind fun x st1=>match x with
 | .int k=>.ok (.int (-k)) st1
 | _=>.stuck
theorem Qir (B:SimE X E a ma):SimE X E (.UnaryOp .USub a pos) (Qpk ma):=
 ⟨fun Γ σ H ρ st Q R G h=>WE.of (Qvd Qrd W8) (B.use R G h.bind fun p I H1 ρ1 v O z J j h1=>by
  cases p with
  | int k=>exact ⟨k,j,now z h1 rfl⟩
  | _=>exact h1.elim)⟩
abbrev MT:=Gam->Q2->Res Bool
variable {ta tb:MT}
def yi (ta tb:MT):MT:=fun Γ st=>(ta Γ st).bind fun k st1=>if k=true then tb Γ st1 else .ok false st1
def zn (ta tb:MT):MT:=fun Γ st=>(ta Γ st).bind fun k st1=>if k=true then .ok true st1 else tb Γ st1
def W6 (ta:MT):MT:=fun Γ st=>(ta Γ st).bind fun k st1=>.ok (!k) st1
theorem SimW.t {e:aD} (h:SimW X E e ta):SimT X E e ta:=⟨fun Γ σ H ρ st Q R G q pins s I=>h.run Γ σ H ρ st Q R G q _ pins s I⟩
theorem Q0d (j:SimT X E a ta):SimW X E (.BoolOp .And [a] pos) ta:=⟨fun Γ σ H ρ st Q R G h=>WW.of (Qnj Qbq) (j.use R G h fun _ _ _ _ _ _ _ q=>q)⟩
theorem Kq (j:SimT X E a ta):SimW X E (.BoolOp .Or [a] pos) ta:=⟨fun Γ σ H ρ st Q R G h=>WW.of (Qj5 Qbq) (j.use R G h fun _ _ _ _ _ _ _ q=>q)⟩
theorem Q2r (I:SimT X E a ta) (z:SimW X E (.BoolOp .And (b :: rest) pos) tb):SimW X E (.BoolOp .And (a :: b :: rest) pos) (yi ta tb):=
 ⟨fun Γ σ H ρ st Q R G h=>WW.of (Qry Qbq Qva) (I.use R G h.bind fun k J H1 ρ1 O j B h1=>by
  cases k with
  | true=>rw [bQ rfl] at h1 ⊢; exact z.use j B h1 fun _ _ _ _ _ _ _ q=>q
  | false=>rw [bS D1] at h1 ⊢; exact h1 H1 ρ1 (Ext.refl _ _) j)⟩
theorem ju (I:SimT X E a ta) (z:SimW X E (.BoolOp .Or (b :: rest) pos) tb):SimW X E (.BoolOp .Or (a :: b :: rest) pos) (zn ta tb):=
 ⟨fun Γ σ H ρ st Q R G h=>WW.of (Qqy Qbq Qva) (I.use R G h.bind fun k J H1 ρ1 O j B h1=>by
  cases k with
  | true=>rw [bQ rfl] at h1 ⊢; exact h1 H1 ρ1 (Ext.refl _ _) j
  | false=>rw [bS D1] at h1 ⊢; exact z.use j B h1 fun _ _ _ _ _ _ _ q=>q)⟩
theorem Yd (z:SimT X E a ta):SimT X E (.UnaryOp .Not a pos) (W6 ta):=
 ⟨fun Γ σ H ρ st Q R G h=>WT.of (Qj8 Qbq) (z.use R G h.bind fun k B H1 ρ1 J j I h1=>h1 H1 ρ1 (Ext.refl _ _) j)⟩
variable {e:aD} {es:List aD} {m:ME} {mr:Gam->Q2->Res (List PV)}
def Q8:Gam->Q2->Res (List PV):=fun _ st=>.ok [] st
def Q3 (m:ME) (mr:Gam->Q2->Res (List PV)):Gam->Q2->Res (List PV):=fun Γ st=>(m Γ st).bind fun p st1=>(mr Γ st1).bind fun ps st2=>.ok (p :: ps) st2
theorem Q6:SimA X E [] Q8:=⟨fun Γ σ H ρ st Q R G h=>WA.of Y8 (h H ρ (Ext.refl _ _) R [] rfl)⟩
theorem Q1 (Z:SimE X E e m) (O:SimA X E es mr) (hs:aP (e :: es) X.env=(false,aQ e X.env) :: aP es X.env:=by rfl):SimA X E (e :: es) (Q3 m mr):=
 ⟨fun Γ σ H ρ st Q R G h=>WA.of (J7 W8 Q7c hs) (Z.use R G h.bind fun p a1 H1 ρ1 v x1 B Y z h1=>O.use B Y h1.bind fun ps J H2 j vs U R2 G2 I h2=>
  h2 H2 j (Ext.refl _ _) R2 (v :: vs) ⟨v,vs,rfl,z.ext U,I⟩)⟩
def Zt (mr:Gam->Q2->Res (List PV)):ME:=fun Γ st=>(mr Γ st).bind fun ps st1=>if ps.length<=lim then .ok (.tup ps) st1 else .stuck
def Q61 (mr:Gam->Q2->Res (List PV)):ME:=fun Γ st=>(mr Γ st).bind fun ps st1=>if ps.length<=lim then .ok (.lst ps) st1 else .stuck
theorem Jp {k:Nat} (h:SimA X E es mr):SimE X E (.Tuple es k pos) (Zt mr):=
 ⟨fun Γ σ H ρ st Q R G B=>WE.of (Qs8 Q7c) (h.use R G B.bind fun ps I H1 ρ1 vs O z J j h1=>by
  by_cases hl:ps.length<=lim
  ·rw [bQ hl] at h1;exact ⟨by rw [<- j.length]; exact K0 hl,Q28 z h1 j⟩
  ·rw [bS hl] at h1; exact h1.elim)⟩
theorem Q12 (h:SimA X E es mr):SimE X E (.List es pos) (Q61 mr):=
 ⟨fun Γ σ H ρ st Q R G B=>WE.of (Qds Q7c) (h.use R G B.bind fun ps I H1 ρ1 vs O z J j h1=>by
  by_cases hl:ps.length<=lim
  ·rw [bQ hl] at h1;exact ⟨by rw [<- j.length]; exact K0 hl,y1 z h1 j⟩
  ·rw [bS hl] at h1; exact h1.elim)⟩
end
end Sm
namespace HT
open PySem PySem.Spec PyProof.Rows
section
variable {prog:aL} {w:aK} {A:aN} {E:aB->aC->Prop} {s:aC}
theorem getItem_tuple_whole {t G:aA} {j:Array aB} {Y U:aB} {lo hi:Option Int} {Q:aB->aC->Prop} (z:IsTup s.heap t j) (hs:s.heap.IsSliceOf G Y U .none) (pl:IsPart Y lo) (pu:IsPart U hi)
  (Z:sIx j.size 0 lo=0/\sIx j.size j.size hi=j.size)
  (h:Q (.ref t) s):aH (aI prog w) A (getItem (.ref t) (.ref G)) Q E s:=by
 obtain ⟨os,J,O,a1⟩:=id hs;have I:s.TypeIs (.ref G) "slice" := ⟨os,J,O⟩;unfold getItem
 try with_reducible refine au ?_
 first | refine aF (aO ?_) | skip
 refine aF (wpAny_sequenceKey z.typeIs (by decide) ?_);refine aF (wpAny_callSpecial?_slot (name:=Str.ofString "__getitem__") z.typeIs PyProof.Rows.slot_tuple_getitem
  (aq PyProof.Rows.slot_tuple_getitem z.typeIs entry_tuple_getitem ?_ (args_tuple_getitem _ _)))
 show aH _ _ (Builtin.Tuple.tupleItemsOf (.ref t) >>= _) _ _ s;refine aF (tupleItemsOf_ z ?_);refine aF (bL I ?_);rw [bQ (by decide)];refine aF (jv hs pl pu ?_);have B:(((sIx j.size 0 lo:Nat):Int) == 0 && (1:Int) == 1 && (sIx j.size j.size hi - sIx j.size 0 lo) == j.size)=true:=by
  rw [Z.1,Z.2]; simp
 show aH _ _ (if (((sIx j.size 0 lo:Nat):Int) == 0 && (1:Int) == 1 && (sIx j.size j.size hi - sIx j.size 0 lo) == j.size)=true then _ else _) _ _ s;rw [bQ B];refine aF (aF (bL z.typeIs (aO ?_)));rw [bQ (by rfl)];exact aF (bM (aO ⟨_,rfl,aO h⟩))
end
end HT
namespace L2
open PySem PySem.Spec PyProof.Rows
def Qy2 (K:PySem.W.Frag):V->Option Int->Option Int->Hp->VK->Prop:=fun x lo hi H Q=>∃ a xs,x=.ref a/\SqT K H a xs /\
 (HT.sIx xs.length 0 lo=0/\HT.sIx xs.length xs.length hi=xs.length)/\Q (.ref a) H
theorem sl_whole {X:Cx}:SlR X (Qy2 X.K):=by
 intro pins s σ H x v vl Z lo hi sl Q I J hs G O h;obtain ⟨a,xs,rfl,B,U,q⟩:=h;cases J;obtain ⟨its,r,z,Y⟩:=I.tuple B;have j:its.toArray.size=xs.length:=by rw [O4]; exact r.length.symm
 refine ⟨"tuple",_,PyProof.Rows.slot_tuple_getitem.lookup,z.typeIs,?_⟩;exact HT.getItem_tuple_whole z hs G O (by rw [j]; exact U) ⟨.ref a,H,I,rfl,q⟩
end L2
namespace Sm
open PySem PySem.Spec L2
section
variable {X:Cx} {E:XK} {pos:Pos}
def oI (g:Int->Int->PV):OP:=fun st p q=>match p,q with
 | .int a,.int b=>.ok (g a b) st
 | _,_=>.stuck
def Zb:OP:=fun st p q=>match p,q with
 | .int a,.int b=>.ok (.int (a + b)) st
 | .str a,.str b=>if a.length + b.length<=lim then .ok (.str (a ++ b)) st else .stuck
 | .tup xs,.tup ys=>if xs.length + ys.length<=lim then .ok (.tup (xs ++ ys)) st else .stuck
 | p,q=>match Q0x st p,Q0x st q with
  | some xs,some ys=>if xs.length + ys.length<=lim then .ok (.lst (xs ++ ys)) st else .stuck
  | _,_=>.stuck
theorem Ju:OpS X E (aV .Add) Zb:=⟨fun H ρ st p q x y Q R U O h=>by
 unfold Zb at h
 split at h
 ·cases U; cases O;exact WO.of Qsk ⟨_,_,rfl,rfl,now R h rfl⟩
 ·cases U; cases O
  split at h
  ·rename_i hl;exact WO.of Qdv ⟨_,_,rfl,rfl,K0 hl,now R h rfl⟩
  ·exact h.elim
 ·split at h
  ·rename_i xs ys hl;obtain ⟨a,vs,rfl,J,Z,j⟩:=U;obtain ⟨b,I,rfl,G,Y,B⟩:=O;refine WO.of Qp5 ?_
   by_cases e:xs=[]
   ·subst e;cases j;exact .inr ⟨a,b,I,rfl,rfl,SqT.of J,SqT.of G,now R h ⟨b,I,rfl,G,Y,B⟩⟩
   ·refine .inl ⟨a,b,vs,I,rfl,rfl,SqT.of J,SqT.of G,fun z=>e ?_,by rw [<- j.length,<- B.length]; exact K0 hl,fun z=>?_,fun z=>Q28 R h (j.append B)⟩
    ·subst z;cases xs with
     | nil=>rfl
     | cons _ _=>have:=j.length; simp at this
    ·subst z;have:ys=[]:=by
      cases ys with
      | nil=>rfl
      | cons _ _=>have:=B.length; simp at this
     subst this;rw [List.append_nil] at h;exact now R h ⟨a,vs,rfl,J,Z,j⟩
  ·exact h.elim
 ·split at h
  ·rename_i xs ys e1 e2
   split at h
   ·rename_i hl;obtain ⟨a,vs,rfl,J,j⟩:=Q64 R U e1;obtain ⟨b,I,rfl,G,B⟩:=Q64 R O e2;exact WO.of Q34 ⟨a,b,vs,I,rfl,rfl,J,G,by rw [<- j.length,<- B.length]; exact K0 hl,y1 R h (j.append B)⟩
   ·exact h.elim
  ·exact h.elim⟩
theorem Q1c:OpS X E (aV .Sub) (oI fun a b=>.int (a - b)):=⟨fun H ρ st p q x y Q R z j h=>by
 unfold oI at h
 split at h
 ·cases z; cases j;exact WO.of Qsd ⟨_,_,rfl,rfl,now R h rfl⟩
 ·exact h.elim⟩
def xw:OP:=fun st p q=>match p,q with
 | .int a,.int b=>if (-(2 ^ 64) < a/\a < 2 ^ 64)\/(-(2 ^ 64) < b/\b < 2 ^ 64) then .ok (.int (a * b)) st else .stuck
 | .tup xs,.int b=>if xs≠[]/\1<=b/\xs.length * b.toNat<=4096 then .ok (.tup (List.replicate b.toNat xs).flatten) st else .stuck
 | p,.int b=>match Q0x st p with
  | some xs=>if -(2 ^ 63)<=b/\b < 2 ^ 63/\xs.length * b.toNat<=lim then .ok (.lst (List.replicate b.toNat xs).flatten) st else .stuck
  | none=>.stuck
 | _,_=>.stuck
theorem y0:OpS X E (aV .Mult) xw:=⟨fun H ρ st p q x y Q R J I h=>by
 unfold xw at h
 split at h
 ·cases J; cases I
  split at h
  ·rename_i j;exact WO.of Qsg ⟨_,_,rfl,rfl,j,now R h rfl⟩
  ·exact h.elim
 ·cases I
  split at h
  ·rename_i xs b j;obtain ⟨a,vs,rfl,G,O,B⟩:=J;refine WO.of Qp3 ⟨a,b,vs,rfl,rfl,SqT.of G,fun z=>j.1 ?_,j.2.1,by rw [<- B.length]; exact j.2.2,fun z=>?_,fun z=>Q28 R h (B.rep _)⟩
   ·subst z;cases xs with
    | nil=>rfl
    | cons _ _=>have:=B.length; simp at this
   ·subst z;have e1:(List.replicate (Int.toNat 1) xs).flatten=xs:=by simp
    rw [e1] at h;exact now R h ⟨a,vs,rfl,G,O,B⟩
  ·exact h.elim
 ·cases I
  split at h
  ·rename_i xs e1
   split at h
   ·rename_i j;obtain ⟨a,vs,rfl,G,B⟩:=Q64 R J e1;exact WO.of Qse ⟨a,_,vs,rfl,rfl,G,j.1,j.2.1,by rw [<- B.length]; exact K0 j.2.2,y1 R h (B.rep _)⟩
   ·exact h.elim
  ·exact h.elim
 ·exact h.elim⟩
def Q0r:OP:=fun st p q=>match p,q with
 | .int a,.int b=>if 0 < b then .ok (.int (a % b)) st else .stuck
 | _,_=>.stuck
theorem xq:OpS X E (aV .Mod) Q0r:=⟨fun H ρ st p q x y Q R z j h=>by
 unfold Q0r at h
 split at h
 ·cases z; cases j
  split at h
  ·rename_i B;exact WO.of Qsh ⟨_,_,rfl,rfl,B,now R h rfl⟩
  ·exact h.elim
 ·exact h.elim⟩
def Q5q:OP:=fun st p q=>match p,q with
 | .int a,.int b=>if 0<=b/\b<=1000000/\a.natAbs < 2 ^ 64 then .ok (.int (a ^ b.toNat)) st else .stuck
 | _,_=>.stuck
theorem Q9w:OpS X E (aV .Pow) Q5q:=⟨fun H ρ st p q x y Q R z j h=>by
 unfold Q5q at h
 split at h
 ·cases z; cases j
  split at h
  ·rename_i B;exact WO.of Qsf ⟨_,_,rfl,rfl,B,now R h rfl⟩
  ·exact h.elim
 ·exact h.elim⟩
theorem Qdz {op:CmpOp} {g:Int->Int->Bool} (G:OpR X (aS op) (rI0 fun i j=>.bl (g i j))):OpS X E (aS op) (oI fun a b=>.bl (g a b)):=⟨fun H ρ st p q x y Q R B z h=>by
 unfold oI at h
 split at h
 ·cases B; cases z;exact WO.of G ⟨_,_,rfl,rfl,now R h rfl⟩
 ·exact h.elim⟩
theorem Q86:OpS X E (aS .LtE) (oI fun a b=>.bl (decide (a<=b))):=Qdz Qvh
theorem jy:OpS X E (aS .Gt) (oI fun a b=>.bl (decide (b < a))):=Qdz Qvi
theorem Qbu:OpS X E (aS .GtE) (oI fun a b=>.bl (decide (b<=a))):=Qdz Qvj
def Kx:List PV->Option (List Int)
 | []=>some []
 | .int i :: ps=>(Kx ps).map (i :: ·)
 | _ :: _=>none
def Q45:List PV->Option (List Bool)
 | []=>some []
 | .bl i :: ps=>(Q45 ps).map (i :: ·)
 | _ :: _=>none
theorem Qck (ns:List Int):Kx (ns.map .int)=some ns:=by
 induction ns with
 | nil=>rfl
 | cons n ns j=>rw [D2,Kx,j]; rfl
theorem Qqi (ns:List Bool):Q45 (ns.map .bl)=some ns:=by
 induction ns with
 | nil=>rfl
 | cons n ns j=>rw [D2,Q45,j]; rfl
theorem Q4k:∀ {ps:List PV} {ns:List Int},Kx ps=some ns->ps=ns.map .int
 | [],ns,h=>by cases h; rfl
 | .int i :: ps,ns,h=>by
  rw [Kx] at h;cases e:Kx ps with
  | none=>rw [e] at h; cases h
  | some ms=>rw [e] at h; cases h; rw [Q4k e]; rfl
 | .non :: _,_,h | .bl _ :: _,_,h | .str _ :: _,_,h | .tup _ :: _,_,h | .lst _ :: _,_,h | .fro _ :: _,_,h | .ref _ :: _,_,h | .dic :: _,_,h=>by cases h
theorem Qmc:∀ {ps:List PV} {ns:List Bool},Q45 ps=some ns->ps=ns.map .bl
 | [],ns,h=>by cases h; rfl
 | .bl i :: ps,ns,h=>by
  rw [Q45] at h;cases e:Q45 ps with
  | none=>rw [e] at h; cases h
  | some ms=>rw [e] at h; cases h; rw [Qmc e]; rfl
 | .non :: _,_,h | .int _ :: _,_,h | .str _ :: _,_,h | .tup _ :: _,_,h | .lst _ :: _,_,h | .fro _ :: _,_,h | .ref _ :: _,_,h | .dic :: _,_,h=>by cases h
def oLt:OP:=fun st p q=>match p,q with
 | .int a,.int b=>.ok (.bl (decide (a < b))) st
 | .tup xs,.tup ys=>match Kx xs,Kx ys with
  | some ns,some ms=>.ok (.bl (HT.lexLt ns ms)) st
  | _,_=>.stuck
 | _,_=>.stuck
theorem Q5h (Z:X.A.units + 64 < aW):OpS X E (aS .Lt) oLt:=⟨fun H ρ st p q x y Q R B z h=>by
 unfold oLt at h
 split at h
 ·cases B; cases z;exact WO.of Qvg ⟨_,_,rfl,rfl,now R h rfl⟩
 ·split at h
  ·rename_i ns ms e1 e2;obtain ⟨a,vs,rfl,G,Y,I⟩:=B;obtain ⟨b,O,rfl,j,U,J⟩:=z;rw [Q4k e1] at I;rw [Q4k e2] at J;rw [I.toInts] at G;rw [J.toInts] at j;exact WO.of (Qsi (by omega)) ⟨a,b,ns,ms,rfl,rfl,SqT.of G,SqT.of j,now R h rfl⟩
  ·exact h.elim
 ·exact h.elim⟩
def dep:Nat:=12
def oEq:OP:=fun st p q=>if Jw dep (der st p)=true/\Jw dep (der st q)=true then .ok (.bl (peq (der st p) (der st q))) st else .stuck
def oNe:OP:=fun st p q=>if Jw dep (der st p)=true/\Jw dep (der st q)=true then .ok (.bl (!peq (der st p) (der st q))) st else .stuck
theorem Kg (J:X.A.units + 64 < aW):OpS X E (aS .Eq) oEq:=⟨fun H ρ st p q x y Q R z j h=>by
 unfold oEq at h
 split at h
 ·rename_i g;intro pins s σ v u I B G;exact (Qfq dep I g.1 g.2 (by unfold dep; omega) (Q0j R g.1 z) B (Q0j R g.2 j) G).2.1 _ _ _ _ ⟨.bl _,H,I,rfl,now R h rfl⟩
 ·exact h.elim⟩
theorem Xi (J:X.A.units + 64 < aW):OpS X E (aS .NotEq) oNe:=⟨fun H ρ st p q x y Q R z j h=>by
 unfold oNe at h
 split at h
 ·rename_i g;intro pins s σ v u I B G;exact (Qfq dep I g.1 g.2 (by unfold dep; omega) (Q0j R g.1 z) B (Q0j R g.2 j) G).2.2 _ _ _ _ ⟨.bl _,H,I,rfl,now R h rfl⟩
 ·exact h.elim⟩
def Qcj:PV->Bool
 | .non=>true
 | _=>false
theorem Qhc {H:Hp} {ρ:Tk} {p:PV} {x:V} (r:Rep H ρ p x):decide (x=.non)=Qcj p:=by
 cases p with
 | non=>cases r; rfl
 | bl _=>cases r; rfl
 | int _=>cases r; rfl
 | str _=>cases r; rfl
 | tup _=>obtain ⟨_,_,rfl,_⟩:=r; rfl
 | lst _=>obtain ⟨_,_,rfl,_⟩:=r; rfl
 | fro _=>obtain ⟨_,_,rfl,_⟩:=r; rfl
 | ref _=>obtain ⟨_,_,rfl⟩:=r; rfl
 | dic=>obtain ⟨_,rfl,_⟩:=r; rfl
def oIs:OP:=fun st p q=>match q with
 | .non=>.ok (.bl (Qcj p)) st
 | .bl c=>match p with
  | .bl b=>.ok (.bl (b == c)) st
  | _=>.stuck
 | _=>.stuck
def Q5r:OP:=fun st p q=>match q with
 | .non=>.ok (.bl (!Qcj p)) st
 | .bl c=>match p with
  | .bl b=>.ok (.bl (b != c)) st
  | _=>.stuck
 | _=>.stuck
theorem Qjq:OpS X E (aS .IsNot) Q5r:=⟨fun H ρ st p q x y Q R z j h=>by
 unfold Q5r at h
 split at h
 ·cases j;refine WO.of Qp4 ⟨rfl,?_⟩;rw [Qhc z];exact now R h rfl
 ·split at h
  ·cases z; cases j;exact WO.of Qbv ⟨_,_,rfl,rfl,now R h rfl⟩
  ·exact h.elim
 ·exact h.elim⟩
def oIn (neg:Bool):OP:=fun st p q=>match Kb st q with
 | some xs=>if Jw dep (der st p)=true/\xs.all (Jw dep)=true then .ok (.bl ((xs.any fun y=>peq y (der st p)) != neg)) st else .stuck
 | none=>.stuck
open Classical in
theorem Q2f {pins:List (aA × Obj)} {σ:St} {H:Hp} {ρ:Tk} {s:aC} {A:aN} {st:Q2} {p:PV} {xs:List PV} {x:V} {v:aB} {vs:List V} {its:List aB} (I:Inv X pins σ H s) (hu:A.units + dep < aW) (R:Rel H ρ st)
  (gp:Jw dep (der st p)=true) (Z:xs.all (Jw dep)=true) (rp:Rep H ρ p x) (rv:RelV x v) (Y:RepL H ρ xs vs) (U:Vals vs its):∃ e:aB->Bool,(∀ u,u∈its.toArray->SeqAt.EqAt A s u v (e u))/\its.toArray.any e=xs.any fun y=>peq y (der st p):=by
 have a2:∀ u∈its,∃ q∈xs,∃ y,Rep H Tk.nil q y/\RelV y u:=fun u hu=>by
  obtain ⟨j,hj,rfl⟩:=List.getElem_of_mem hu;have l1:=U.length;have l2:=Y.length;obtain ⟨y,e1,e2⟩:=(qr Z Y).get (O3 (show j < xs.length by omega));obtain ⟨w,e3,e4⟩:=U.get e1;rw [O3 hj] at e3; cases e3;exact ⟨_,List.getElem_mem _,y,e2,e4⟩
 refine ⟨fun u=>decide (∃ q∈xs,∃ y,Rep H Tk.nil q y/\RelV y u/\peq q (der st p)=true),fun u hm=>?_,?_⟩
 ·have a1:u∈its:=by simpa using hm
  by_cases z:∃ q∈xs,∃ y,Rep H Tk.nil q y/\RelV y u/\peq q (der st p)=true
  ·show SeqAt.EqAt A s u v (decide _);rw [bU z];obtain ⟨q,B,y,O,J,e⟩:=z;have:=(Qfq dep I ((L7.mp Z) q B) gp hu O J (Q0j R gp rp) rv).1;rw [e] at this;exact this
  ·show SeqAt.EqAt A s u v (decide _);rw [bT z];obtain ⟨q,B,y,O,J⟩:=a2 u a1;have:=(Qfq dep I ((L7.mp Z) q B) gp hu O J (Q0j R gp rp) rv).1;cases e:peq q (der st p) with
   | true=>exact absurd ⟨q,B,y,O,J,e⟩ z
   | false=>rw [e] at this; exact this
 ·rw [Bool.eq_iff_iff,Array.any_eq_true,L5];constructor
  ·rintro ⟨j,hj,e⟩;obtain ⟨q,B,y,O,J,e⟩:=of_decide_eq_true e;exact ⟨q,B,e⟩
  ·rintro ⟨q,B,e⟩;obtain ⟨j,hj,rfl⟩:=List.getElem_of_mem B;have l1:=U.length;have l2:=Y.length;have G:j < its.length:=by omega
   obtain ⟨y,e1,e2⟩:=(qr Z Y).get (O3 hj);obtain ⟨w,e3,e4⟩:=U.get e1;refine ⟨j,by simpa using G,bU ⟨_,B,y,e2,?_,e⟩⟩;rw [O3 G] at e3; cases e3;simpa using e4
theorem Q87 (hu:X.A.units + 64 < aW):OpS X E (aS .In) (oIn false):=⟨fun H ρ st p q x y Q R J Z h=>by
 unfold oIn at h
 split at h
 ·rename_i xs es
  split at h
  ·rename_i g;obtain ⟨t,a,vs,rfl,G,U⟩:=Q2u (K:=X.K) R Z es;intro pins s σ v u I O ru;cases ru;rw [Bool.bne_false] at h;cases t with
   | true=>
    obtain ⟨its,r,z,Y⟩:=I.tuple G;obtain ⟨e,j,B⟩:=Q2f (A:=X.A.in1) I (by show X.A.units + 1 + dep < aW; unfold dep; omega) R g.1 g.2 J O U r;refine SeqAt.in_tupleAt e z j ⟨.bl _,H,I,rfl,?_⟩;rw [B];exact now R h rfl
   | false=>
    obtain ⟨its,r,z,Y⟩:=I.list G;obtain ⟨e,j,B⟩:=Q2f (A:=X.A.in1) I (by show X.A.units + 1 + dep < aW; unfold dep; omega) R g.1 g.2 J O U r;refine SeqAt.in_listAt e z.isList j ⟨.bl _,H,I,rfl,?_⟩;rw [B];exact now R h rfl
  ·exact h.elim
 ·exact h.elim⟩
theorem Kf (hu:X.A.units + 64 < aW):OpS X E (aS .NotIn) (oIn true):=⟨fun H ρ st p q x y Q R J Z h=>by
 unfold oIn at h
 split at h
 ·rename_i xs es
  split at h
  ·rename_i g;obtain ⟨t,a,vs,rfl,G,U⟩:=Q2u (K:=X.K) R Z es;intro pins s σ v u I O ru;cases ru;rw [Bool.bne_true] at h;cases t with
   | true=>
    obtain ⟨its,r,z,Y⟩:=I.tuple G;obtain ⟨e,j,B⟩:=Q2f (A:=X.A.in1) I (by show X.A.units + 1 + dep < aW; unfold dep; omega) R g.1 g.2 J O U r;refine SeqAt.notIn_tupleAt e z j ⟨.bl _,H,I,rfl,?_⟩;rw [B];exact now R h rfl
   | false=>
    obtain ⟨its,r,z,Y⟩:=I.list G;obtain ⟨e,j,B⟩:=Q2f (A:=X.A.in1) I (by show X.A.units + 1 + dep < aW; unfold dep; omega) R g.1 g.2 J O U r;refine SeqAt.notIn_listAt e z.isList j ⟨.bl _,H,I,rfl,?_⟩;rw [B];exact now R h rfl
  ·exact h.elim
 ·exact h.elim⟩
end
section
variable {H:Hp} {ρ:Tk}
theorem RepL.atI {ps:List PV} {vs:List V} {i:Int} {p:PV} (r:RepL H ρ ps vs) (e:atI ps i=some p):∃ v,L2.atI vs i=some v/\Rep H ρ p v:=by
 unfold L2.atI at e ⊢;rw [<- r.length];cases q:ixN ps.length i with
 | none=>rw [q] at e; cases e
 | some j=>
  rw [q] at e;exact r.get e
def cut {α:Type} (xs:List α) (lo hi:Option Int):List α:=(xs.drop (HT.sIx xs.length 0 lo)).take (HT.sIx xs.length xs.length hi - HT.sIx xs.length 0 lo)
theorem RepL.cut {ps:List PV} {vs:List V} (r:RepL H ρ ps vs) (lo hi:Option Int):RepL H ρ (Sm.cut ps lo hi) (Qcs vs lo hi):=by
 unfold Sm.cut Qcs;rw [<- r.length];exact (r.drop _).take _
end
section
variable {X:Cx} {E:XK} {pos:Pos} {a b:aD} {ma mb:ME}
def oIx:OP:=fun st p q=>match Kb st p,q with
 | some xs,.int i=>okO st (atI xs i)
 | _,_=>.stuck
theorem J5 (Y:SimE X E a ma) (O:SimE X E b mb) (hs:Qaw b:=by exact fun _ _=>rfl):SimE X E (.Subscript a b pos) (mOp oIx ma mb):=
 ⟨fun Γ σ H ρ st Q R G h=>WE.of (Qr1 Qt8 W8 W8 hs) (Y.use R G h.bind fun p a3 H1 ρ1 v x1 R1 G1 r1 h1=>O.use R1 G1 h1.bind fun q a2 H2 a1 u U R2 G2 Z h2=>by
  unfold oIx at h2
  split at h2
  ·rename_i xs i e;cases Z;cases j:atI xs i with
   | none=>rw [j] at h2; exact h2.elim
   | some w=>
    rw [j] at h2;obtain ⟨t,b,vs,rfl,B,ra⟩:=Q2u (K:=X.K) R2 (r1.ext U) e;obtain ⟨z,J,I⟩:=ra.atI j;cases t with
    | true=>exact .inr (.inl ⟨b,vs,i,z,rfl,rfl,B,J,now R2 h2 I⟩)
    | false=>exact .inl ⟨b,vs,i,z,rfl,rfl,B,J,now R2 h2 I⟩
  ·exact h2.elim)⟩
structure SimO (X:Cx) (E:XK) (o:Option aD) (m:Gam->Q2->Res (Option Int)):Prop where
 run:∀ (Γ:Gam) (σ:St) (H:Hp) (ρ:Tk) (st:Q2) (P:Option Int->Q2->Hp->Tk->Prop) (Q:Option Int->Hp->Prop),Rel H ρ st->EnvR H ρ Γ σ->Acc X.mg E H ρ P (m Γ st) ->
  (∀ i st1 H1 ρ1,Ext H ρ H1 ρ1->Rel H1 ρ1 st1->EnvR H1 ρ1 Γ σ->P i st1 H1 ρ1->Q i H1)->∃ t,PO X o t/\t σ H Q
def Ve:Gam->Q2->Res (Option Int):=fun _ st=>.ok none st
def z9 (m:ME):Gam->Q2->Res (Option Int):=fun Γ st=>(m Γ st).bind fun p st1=>match p with
 | .int i=>.ok (some i) st1
 | _=>.stuck
theorem zt:SimO X E none Ve:=⟨fun Γ σ H ρ st P Q R G h k=>⟨_,Qnv,k none st H ρ (Ext.refl _ _) R G (h H ρ (Ext.refl _ _) R)⟩⟩
theorem zr (J:SimE X E a ma):SimO X E (some a) (z9 ma):=⟨fun Γ σ H ρ st P Q R G h k=>⟨_,Qnu W8,J.use R G h.bind fun p j H1 ρ1 v O z I B h1=>by
 cases p with
 | int i=>exact ⟨i,B,k (some i) j H1 ρ1 O z I (h1 H1 ρ1 (Ext.refl _ _) z)⟩
 | _=>exact h1.elim⟩⟩
def oSl (st:Q2) (p:PV) (lo hi:Option Int):Res PV:=match p with
 | .tup xs=>.ok (.tup (cut xs lo hi)) st
 | p=>match listOf st p with
  | some xs=>.ok (.lst (cut xs lo hi)) st
  | none=>.stuck
def mSl (ma:ME) (ml mh:Gam->Q2->Res (Option Int)):ME:=fun Γ st=>(ma Γ st).bind fun p st1=>(ml Γ st1).bind fun lo st2=>(mh Γ st2).bind fun hi st3=>oSl st3 p lo hi
def TO.w (X:Cx) (o:Option aD):TO:=fun σ H Q=>∃ t,PO X o t/\t σ H Q
theorem Qvc {o:Option aD}:PO X o (TO.w X o):=fun pins s σ H Q I ⟨t,h,q⟩=>h pins s σ H Q I q
theorem qh {lo hi:Option aD} {ml Z:Gam->Q2->Res (Option Int)} {p2:Pos} (z:SimE X E a ma) (hl:SimO X E lo ml) (hh:SimO X E hi Z):SimE X E (.Subscript a (.Slice lo hi none p2) pos) (mSl ma ml Z):=
 ⟨fun Γ σ H ρ st Q R G h=>WE.of (Qjh (sl_tup.or (sl_whole.or Qn2)) W8 Qvc Qvc) (z.use R G h.bind fun p Y H1 ρ1 v x1 R1 G1 r1 h1=>by
  refine hl.run Γ σ H1 ρ1 Y _ _ R1 G1 h1.bind fun l U H2 O x2 R2 G2 h2=>?_
  refine hh.run Γ σ H2 O U _ _ R2 G2 h2.bind fun u a2 H3 a1 x3 J G3 j=>?_
  have r3:=r1.ext (x2.trans x3);unfold oSl at j
  split at j
  ·rename_i xs;obtain ⟨a,vs,rfl,z,na,B⟩:=r3
   by_cases I:HT.sIx vs.length 0 l=0/\HT.sIx vs.length vs.length u=vs.length
   ·refine .inr (.inl ⟨a,vs,rfl,SqT.of z,I,?_⟩);have e:cut xs l u=xs:=by
     unfold cut;rw [B.length,I.1,I.2,List.drop_zero,Nat.sub_zero,<- B.length,List.take_length]
    rw [e] at j;exact now J j ⟨a,vs,rfl,z,na,B⟩
   ·exact .inl ⟨a,vs,rfl,SqT.of z,I,Q28 J j (B.cut l u)⟩
  ·split at j
   ·rename_i xs e;obtain ⟨a,vs,rfl,z,B⟩:=Q2a J r3 e;exact .inr (.inr ⟨a,vs,rfl,.inl z,y1 J j (B.cut l u)⟩)
   ·exact j.elim)⟩
variable {es:List aD} {e:aD} {mr:Gam->Q2->Res (List PV)}
def J1 (o:CF) (mr:Gam->Q2->Res (List PV)):ME:=fun Γ st=>(mr Γ st).bind fun ps st1=>o st1 ps
theorem CallS.use {f:aB} {o:CF} (s:CallS X E f o) {P:PV->Q2->Hp->Tk->Prop} {Q:VK} {H:Hp} {ρ:Tk} {st:Q2} {ps:List PV} {xs:List V} (R:Rel H ρ st) (G:RepL H ρ ps xs) (h:Acc X.mg E H ρ P (o st ps))
  (k:∀ p j H1 ρ1 v,Ext H ρ H1 ρ1->Rel H1 ρ1 j->Rep H1 ρ1 p v->P p j H1 ρ1->Q v H1):WC X f xs H Q:=by
 refine s.run H ρ st ps xs Q R G ?_;cases r:o st ps with
 | ok p j=>rw [r] at h; exact fun H' ρ' z B v I=>k p j H' ρ' v z B I (h H' ρ' z B)
 | exc e st=>rw [r] at h; exact h
 | stuck=>rw [r] at h; exact h
theorem Qm {id:String} {x:Str} {p:Pos} {o:CF} (U:CallS X E (.builtin id) o) (O:Gl X x) (Y:X.mg x=none) (hv:aZ x=some (.builtin id)) (Z:SimA X E (e :: es) mr) (hn:x≠"__name__" := by decide) (z:(x == ("__debug__" : Str))=false:=by decide)
  (I:aP (e :: es) X.env=(false,aQ e X.env) :: aP es X.env:=by rfl) (j:(aU pos (aP es X.env)).any (·.1)=false:=by rfl):SimE X E (.Call (.Name x p) (e :: es) [] pos) (J1 o mr):=
 ⟨fun Γ σ H ρ st Q R G h=>WE.of (Zy Qm0 O Y hv Q7c hn z I j) (Z.use R G h.bind fun ps a1 H1 ρ1 vs x1 J G1 B h1=>U.use J B h1 fun _ _ _ _ v _ _ r q=>q v r)⟩
theorem Kc {T:String} {x:Str} {p:Pos} {o:CF} (U:CallS X E (.type T) o) (O:Gl X x) (Y:X.mg x=none) (hv:aZ x=some (.type T)) (Z:SimA X E (e :: es) mr) (hn:x≠"__name__" := by decide) (z:(x == ("__debug__" : Str))=false:=by decide)
  (I:aP (e :: es) X.env=(false,aQ e X.env) :: aP es X.env:=by rfl) (j:(aU pos (aP es X.env)).any (·.1)=false:=by rfl):SimE X E (.Call (.Name x p) (e :: es) [] pos) (J1 o mr):=
 ⟨fun Γ σ H ρ st Q R G h=>WE.of (Qgq Qm0 O Y hv Q7c hn z I j) (Z.use R G h.bind fun ps a1 H1 ρ1 vs x1 J G1 B h1=>U.use J B h1 fun _ _ _ _ v _ _ r q=>q v r)⟩
theorem Ye {H:Hp} {ρ:Tk} {p:PV} {xs:List V} (r:RepL H ρ [p] xs):∃ v,xs=[v]/\Rep H ρ p v:=by
 obtain ⟨v,t,rfl,h1,h2⟩:=r;cases h2;exact ⟨v,rfl,h1⟩
theorem Q5a {H:Hp} {ρ:Tk} {p q:PV} {xs:List V} (r:RepL H ρ [p,q] xs):∃ v u,xs=[v,u]/\Rep H ρ p v/\Rep H ρ q u:=by
 obtain ⟨v,t,rfl,h1,h2⟩:=r;obtain ⟨u,rfl,j⟩:=Ye h2;exact ⟨v,u,rfl,h1,j⟩
def Zf:CF:=fun st ps=>match ps with
 | [p]=>match Kb st p with
  | some xs=>.ok (.int xs.length) st
  | none=>match p with
   | .str x=>if x.length<=lim then .ok (.int x.length) st else .stuck
   | _=>.stuck
 | _=>.stuck
theorem Zh:CallS X E (.builtin "len") Zf:=⟨fun H ρ st ps xs Q R B h=>by
 unfold Zf at h
 split at h
 ·rename_i p;obtain ⟨v,rfl,r⟩:=Ye B
  split at h
  ·rename_i ys e;obtain ⟨t,a,vs,rfl,z,j⟩:=Q2u (K:=X.K) R r e;rw [j.length] at h;exact WC.of Qar ⟨a,vs,rfl,Qrp z,now R h rfl⟩
  ·split at h
   ·cases r
    split at h
    ·rename_i hl;exact WC.of Qaq ⟨_,rfl,K0 hl,now R h rfl⟩
    ·exact h.elim
   ·exact h.elim
 ·exact h.elim⟩
def W4 (g:List Int->Option PV):CF:=fun st ps=>match ps with
 | [p]=>match (Kb st p).bind Kx with
  | some ns=>okO st (g ns)
  | none=>.stuck
 | _=>.stuck
def qc (g:List Bool->PV):CF:=fun st ps=>match ps with
 | [p]=>match (Kb st p).bind Q45 with
  | some ns=>.ok (g ns) st
  | none=>.stuck
 | _=>.stuck
theorem Q6g {K:PySem.W.Frag} {H:Hp} {ρ:Tk} {st:Q2} {p:PV} {v:V} {ns:List Int} (R:Rel H ρ st) (r:Rep H ρ p v) (e:(Kb st p).bind Kx=some ns):∃ (t:Bool) (a:aA),v=.ref a/\SqK K t H a (ns.map V.int):=by
 cases q:Kb st p with
 | none=>rw [q] at e; cases e
 | some xs=>
  rw [q] at e;obtain ⟨t,a,vs,rfl,j,z⟩:=Q2u (K:=K) R r q;rw [Q4k e] at z;rw [z.toInts] at j;exact ⟨t,a,rfl,j⟩
theorem Qfw {K:PySem.W.Frag} {H:Hp} {ρ:Tk} {st:Q2} {p:PV} {v:V} {ns:List Bool} (R:Rel H ρ st) (r:Rep H ρ p v) (e:(Kb st p).bind Q45=some ns):∃ (t:Bool) (a:aA),v=.ref a/\SqK K t H a (ns.map V.bl):=by
 cases q:Kb st p with
 | none=>rw [q] at e; cases e
 | some xs=>
  rw [q] at e;obtain ⟨t,a,vs,rfl,j,z⟩:=Q2u (K:=K) R r q;rw [Qmc e] at z;rw [z.toBls] at j;exact ⟨t,a,rfl,j⟩
theorem jp (B:X.calm=true):CallS X E (.builtin "sum") (W4 fun ns=>some (.int ns.sum)):=⟨fun H ρ st ps xs Q R z h=>by
 unfold W4 at h
 split at h
 ·obtain ⟨v,rfl,r⟩:=Ye z
  split at h
  ·rename_i ns e;obtain ⟨t,a,rfl,j⟩:=Q6g (K:=X.K) R r e;exact WC.of (Qm1 t B) ⟨a,ns,rfl,j,now R h rfl⟩
  ·exact h.elim
 ·exact h.elim⟩
theorem Q3p (B:X.calm=true):CallS X E (.builtin "all") (qc fun ns=>.bl (ns.all id)):=⟨fun H ρ st ps xs Q R z h=>by
 unfold qc at h
 split at h
 ·obtain ⟨v,rfl,r⟩:=Ye z
  split at h
  ·rename_i ns e;obtain ⟨t,a,rfl,j⟩:=Qfw (K:=X.K) R r e;exact WC.of (Qm3 t B) ⟨a,ns,rfl,j,now R h rfl⟩
  ·exact h.elim
 ·exact h.elim⟩
theorem Q1p (B:X.calm=true):CallS X E (.builtin "any") (qc fun ns=>.bl (ns.any id)):=⟨fun H ρ st ps xs Q R z h=>by
 unfold qc at h
 split at h
 ·obtain ⟨v,rfl,r⟩:=Ye z
  split at h
  ·rename_i ns e;obtain ⟨t,a,rfl,j⟩:=Qfw (K:=X.K) R r e;exact WC.of (Qm2 t B) ⟨a,ns,rfl,j,now R h rfl⟩
  ·exact h.elim
 ·exact h.elim⟩
def Qyg:List Int->Option Int
 | []=>none
 | n :: ns=>some (ns.foldl (fun a b=>if b > a then b else a) n)
def Qsu:List Int->Option Int
 | []=>none
 | n :: ns=>some (ns.foldl (fun a b=>if b < a then b else a) n)
theorem Q8k:∀ (ns:List Int) (n:Int),(ns.foldl (fun a b=>if b > a then b else a) n=n\/ns.foldl (fun a b=>if b > a then b else a) n∈ns)/\n<=ns.foldl (fun a b=>if b > a then b else a) n/\∀ k∈ns,k<=ns.foldl (fun a b=>if b > a then b else a) n
 | [],n=>⟨.inl rfl,Int.le_refl _,fun k h=>by cases h⟩
 | m :: ns,n=>by
  obtain ⟨h1,h2,B⟩:=Q8k ns (if m > n then m else n);rw [List.foldl_cons];refine ⟨?_,?_,fun k z=>?_⟩
  ·rcases h1 with e | e
   ·by_cases j:m > n
    ·rw [bQ j] at e ⊢; exact .inr (by rw [e]; exact O8)
    ·rw [bS j] at e ⊢; exact .inl e
   ·exact .inr (O5 _ e)
  ·by_cases j:m > n
   ·rw [bQ j] at h2 ⊢; omega
   ·rw [bS j] at h2 ⊢; exact h2
  ·rcases D3.mp z with rfl | z
   ·by_cases j:k > n
    ·rw [bQ j] at h2 ⊢; exact h2
    ·rw [bS j] at h2 ⊢; omega
   ·exact B k z
theorem Q8j:∀ (ns:List Int) (n:Int),(ns.foldl (fun a b=>if b < a then b else a) n=n\/ns.foldl (fun a b=>if b < a then b else a) n∈ns)/\ns.foldl (fun a b=>if b < a then b else a) n<=n/\∀ k∈ns,ns.foldl (fun a b=>if b < a then b else a) n<=k
 | [],n=>⟨.inl rfl,Int.le_refl _,fun k h=>by cases h⟩
 | m :: ns,n=>by
  obtain ⟨h1,h2,B⟩:=Q8j ns (if m < n then m else n);rw [List.foldl_cons];refine ⟨?_,?_,fun k z=>?_⟩
  ·rcases h1 with e | e
   ·by_cases j:m < n
    ·rw [bQ j] at e ⊢; exact .inr (by rw [e]; exact O8)
    ·rw [bS j] at e ⊢; exact .inl e
   ·exact .inr (O5 _ e)
  ·by_cases j:m < n
   ·rw [bQ j] at h2 ⊢; omega
   ·rw [bS j] at h2 ⊢; exact h2
  ·rcases D3.mp z with rfl | z
   ·by_cases j:k < n
    ·rw [bQ j] at h2 ⊢; exact h2
    ·rw [bS j] at h2 ⊢; omega
   ·exact B k z
def Qqd:CF:=fun st ps=>match ps with
 | [.int a,.int b]=>.ok (.int (if b > a then b else a)) st
 | ps=>W4 (fun ns=>(Qyg ns).map .int) st ps
def Qhx:CF:=fun st ps=>match ps with
 | [.int a,.int b]=>.ok (.int (if b < a then b else a)) st
 | ps=>W4 (fun ns=>(Qsu ns).map .int) st ps
theorem Qth (z:X.calm=true):CallS X E (.builtin "max") Qqd:=⟨fun H ρ st ps xs Q R G h=>by
 unfold Qqd at h
 split at h
 ·obtain ⟨v,u,rfl,J,U⟩:=Q5a G;cases J; cases U;exact WC.of (Qhw z) ⟨_,_,rfl,now R h rfl⟩
 ·unfold W4 at h
  split at h
  ·obtain ⟨v,rfl,r⟩:=Ye G
   split at h
   ·rename_i ns e;cases ns with
    | nil=>exact h.elim
    | cons n ns=>
     obtain ⟨t,a,rfl,O⟩:=Q6g (K:=X.K) R r e;refine WC.of (Qhv t z) ⟨a,_,rfl,O,by simp,fun m j B=>?_⟩;have Y:m=ns.foldl (fun a b=>if b > a then b else a) n:=by
      obtain ⟨h1,h2,I⟩:=Q8k ns n;have Z:ns.foldl (fun a b=>if b > a then b else a) n<=m:=by
       rcases h1 with e | e
       ·rw [e]; exact B _ O8
       ·exact B _ (O5 _ e)
      have g2:m<=ns.foldl (fun a b=>if b > a then b else a) n:=by
       rcases D3.mp j with rfl | j
       ·exact h2
       ·exact I m j
      omega
     subst Y;exact now R h rfl
   ·exact h.elim
  ·exact h.elim⟩
theorem Qtg (z:X.calm=true):CallS X E (.builtin "min") Qhx:=⟨fun H ρ st ps xs Q R G h=>by
 unfold Qhx at h
 split at h
 ·obtain ⟨v,u,rfl,J,U⟩:=Q5a G;cases J; cases U;exact WC.of (Qhu z) ⟨_,_,rfl,now R h rfl⟩
 ·unfold W4 at h
  split at h
  ·obtain ⟨v,rfl,r⟩:=Ye G
   split at h
   ·rename_i ns e;cases ns with
    | nil=>exact h.elim
    | cons n ns=>
     obtain ⟨t,a,rfl,O⟩:=Q6g (K:=X.K) R r e;refine WC.of (Qht t z) ⟨a,_,rfl,O,by simp,fun m j B=>?_⟩;have Y:m=ns.foldl (fun a b=>if b < a then b else a) n:=by
      obtain ⟨h1,h2,I⟩:=Q8j ns n;have Z:m<=ns.foldl (fun a b=>if b < a then b else a) n:=by
       rcases h1 with e | e
       ·rw [e]; exact B _ O8
       ·exact B _ (O5 _ e)
      have g2:ns.foldl (fun a b=>if b < a then b else a) n<=m:=by
       rcases D3.mp j with rfl | j
       ·exact h2
       ·exact I m j
      omega
     subst Y;exact now R h rfl
   ·exact h.elim
  ·exact h.elim⟩
def Wd:CF:=fun st ps=>match ps with
 | [p]=>match Kb st p with
  | some xs=>.ok (.tup xs) st
  | none=>.stuck
 | _=>.stuck
theorem Kj:CallS X E (.type "tuple") Wd:=⟨fun H ρ st ps xs Q R G h=>by
 unfold Wd at h
 split at h
 ·rename_i p;obtain ⟨v,rfl,r⟩:=Ye G
  split at h
  ·rename_i ys e;cases p with
   | tup zs=>
    cases e;obtain ⟨a,vs,rfl,j,B,z⟩:=r;exact WC.of Q0z ⟨a,vs,rfl,.inr ⟨SqT.of j,now R h ⟨a,vs,rfl,j,B,z⟩⟩⟩
   | _=>
    obtain ⟨a,vs,rfl,j,z⟩:=Q2a R r e;exact WC.of Q0z ⟨a,vs,rfl,.inl ⟨.inl j,Q28 R h z⟩⟩
  ·exact h.elim
 ·exact h.elim⟩
def tyN:PV->String
 | .non => "NoneType"
 | .bl _ => "bool"
 | .int _ => "int"
 | .str _ => "str"
 | .tup _ => "tuple"
 | .lst _ => "list"
 | .fro _ => "list"
 | .ref _ => "list"
 | .dic => "dict"
def dpv (st:Q2):PV->PV
 | .ref i=>match st[i]? with
  | some (.dic _)=>.dic
  | some (.dtp _)=>.dic
  | _=>.ref i
 | p=>p
def isI (T:String) (p:PV):Bool:=tyN p == T || (T == "int" && tyN p == "bool")
def Q0t (st:Q2):PV->Bool
 | .ref i=>match st[i]? with
  | some (.frd _)=>true
  | some (.obj _ _)=>true
  | _=>false
 | _=>false
theorem Quj {K:PySem.W.Frag} {H:Hp} {ρ:Tk} {st:Q2} {p:PV} {v:V} (z:Q0t st p=false) (R:Rel H ρ st) (r:Rep H ρ p v):TyOf K H v (.type (tyN (dpv st p))):=by
 cases p with
 | non=>cases r; exact .non
 | bl b=>cases r; exact .bl b
 | int i=>cases r; exact .int i
 | str x=>cases r; exact .str x
 | tup ps=>obtain ⟨a,vs,rfl,h,_⟩:=r; exact .tup h
 | lst ps=>obtain ⟨a,vs,rfl,h,_⟩:=r; exact .lst h
 | fro ps=>
  obtain ⟨a,vs,rfl,h,_⟩:=r;rcases h with h | ⟨o,h⟩
  ·exact .lst h
  ·exact .frz h
 | ref i=>
  obtain ⟨a,e,rfl⟩:=r;have hl:i < st.length:=by rw [<- R.len]; exact (O2.mp e).1
  have hs:=O3 hl;have q:=R.cell i a st[i] e hs;cases j:st[i] with
  | lst xs=>rw [j] at q hs; simp only [dpv,hs]; obtain ⟨vs,h,_⟩:=q; exact .lst h
  | dic xs=>rw [j] at q hs; simp only [dpv,hs]; obtain ⟨vs,h,_⟩:=q; exact .dK h
  | dtp xs=>rw [j] at q hs; simp only [dpv,hs]; obtain ⟨vs,h,_⟩:=q; exact .dT h
  | frd xs=>rw [j] at hs; simp only [Q0t,hs] at z; cases z
  | obj C xs=>rw [j] at hs; simp only [Q0t,hs] at z; cases z
 | dic=>obtain ⟨a,rfl,h,_⟩:=r; exact .dK h
def Q6a:List String:=["int", "bool", "str", "tuple", "list", "dict"]
theorem Qt1 (K:PySem.W.Frag) {T:String} (j:T∈Q6a) (p:PV):PySem.W.kitOne K (.type (tyN p)) (.type T)=some (isI T p):=by
 have j:T = "int" \/ T = "bool" \/ T = "str" \/ T = "tuple" \/ T = "list" \/ T = "dict" := by simpa [Q6a] using j
 rcases j with rfl | rfl | rfl | rfl | rfl | rfl <;> cases p <;> first | rfl | kernel_rfl
def Xz (T:String) (m:ME):ME:=fun Γ st=>(m Γ st).bind fun p st1=>if Q0t st1 p=true then .stuck else .ok (.bl (isI T (dpv st1 p))) st1
theorem Vt {T:String} {tx:Str} {a:aD} {ma:ME} {p tp:Pos} (hT:T∈Q6a) (ha:SimE X E a ma) (hg:Gl X "isinstance") (hm:X.mg "isinstance" = none) (z:Gl X tx) (O:X.mg tx=none) (B:aZ tx=some (.type T))
  (hn:tx≠"__name__" := by decide) (hd:(tx == ("__debug__" : Str))=false:=by decide)
  (Z:aP [a,.Name tx tp] X.env=(false,aQ a X.env) :: aP [.Name tx tp] X.env:=by rfl) (J:aP [.Name tx tp] X.env=(false,aQ (.Name tx tp) X.env) :: aP [] X.env:=by rfl) (I:(aU pos (aP [.Name tx tp] X.env)).any (·.1)=false:=by rfl) :
  SimE X E (.Call (.Name "isinstance" p) [a,.Name tx tp] [] pos) (Xz T ma):=
 ⟨fun Γ σ H ρ st Q R G h=>WE.of (Zy Qcx hg hm Jb (J7 W8 (J7 (Qf0 z O B (v:=.ty T) rfl hn hd) Y8 J) Z) (by decide) (by decide) Z I)
  (ha.use R G h.bind fun q j H1 ρ1 v x1 Y G1 r1 h1=>by
   by_cases U:Q0t j q=true
   ·rw [bQ U] at h1; exact h1.elim
   ·rw [bS U] at h1;exact ⟨v,.ty T,.type T,_,_,rfl,rfl,Quj (by simpa using U) Y r1,Qt1 X.K hT (dpv j q),now Y h1 rfl⟩)⟩
end
abbrev GA:=PV->Gam->Option Gam
abbrev GAs:=List PV->Gam->Option Gam
structure SimG (X:Cx) (tg:aD) (ga:GA):Prop where
 run:∀ (Γ Γ':Gam) (σ:St) (H:Hp) (ρ:Tk) (p:PV) (v:V) (Q:St->Hp->Prop),EnvR H ρ Γ σ->Rep H ρ p v->ga p Γ=some Γ'->(∀ σ',EnvR H ρ Γ' σ'->Q σ' H)->∃ t,PG X tg t/\t v σ H Q
structure SimGs (X:Cx) (tgs:List aD) (n:Nat) (ga:GAs):Prop where
 run:∀ (Γ Γ':Gam) (σ:St) (H:Hp) (ρ:Tk) (ps:List PV) (vs:List V) (Q:St->Hp->Prop),EnvR H ρ Γ σ->RepL H ρ ps vs->ga ps Γ=some Γ'->(∀ σ',EnvR H ρ Γ' σ'->Q σ' H)->∃ t,PGs X tgs t/\t vs σ H Q
 len:∀ ps Γ Γ',ga ps Γ=some Γ'->ps.length=n
def Qb (i:Nat):GA:=fun p Γ=>some (Γ.set i (some p))
def Q41:GAs:=fun ps Γ=>match ps with
 | []=>some Γ
 | _=>none
def K1 (g:GA) (gs:GAs):GAs:=fun ps Γ=>match ps with
 | p :: r=>(g p Γ).bind (gs r)
 | []=>none
def Q40 (gs:GAs):GA:=fun p Γ=>match p with
 | .tup ps=>gs ps Γ
 | _=>none
section
variable {X:Cx} {pos:Pos}
theorem Qx {i:Nat} {x:Str} (I:X.N.Nodup) (hi:X.N[i]?=some x:=by rfl) (z:Loc X.env.scope x:=by first | exact Or.inl rfl | exact Or.inr rfl) (j:X.fn x=true\/X.env.scope.names.lookup x=some .local:=by first | exact .inl rfl | exact .inr rfl):SimG X (.Name x pos) (Qb i):=
 ⟨fun Γ B σ H ρ p v Q G r e k=>⟨_,Qnz I hi z j,by cases e; exact k _ (G.set r i)⟩⟩
theorem Qes:SimGs X [] 0 Q41:=⟨fun Γ j σ H ρ ps vs Q G r e k=>⟨_,Qny,by
 cases ps with
 | nil=>cases e; cases r; exact ⟨rfl,k σ G⟩
 | cons _ _=>cases e⟩,fun ps Γ j e=>by
 cases ps with
 | nil=>rfl
 | cons _ _=>cases e⟩
def WGx (X:Cx) (tg:aD):TG:=fun v σ H Q=>∃ t,PG X tg t/\t v σ H Q
theorem Qs4 {tg:aD}:PG X tg (WGx X tg):=fun pins s σ H v u Q I r ⟨t,h,q⟩=>h pins s σ H v u Q I r q
def Qyt (X:Cx) (tgs:List aD):TGs:=fun v σ H Q=>∃ t,PGs X tgs t/\t v σ H Q
theorem Qqz {j:List aD}:PGs X j (Qyt X j):=fun pins s σ H v u Q I r ⟨t,h,q⟩=>h pins s σ H v u Q I r q
theorem Q1x {e:aD} {es:List aD} {g:GA} {gs:GAs} {n:Nat} (h1:SimG X e g) (h2:SimGs X es n gs) (hs:(ar (e :: es) X.env).map (·.2)=assign e X.env :: (ar es X.env).map (·.2):=by rfl):SimGs X (e :: es) (n + 1) (K1 g gs):=
 ⟨fun Γ j σ H ρ ps vs Q G r eq k=>⟨_,Qje Qs4 Qqz hs,by
  cases ps with
  | nil=>cases eq
  | cons p ps=>
   obtain ⟨v,t,rfl,B,I⟩:=r;have eq:(g p Γ).bind (gs ps)=some j:=eq;cases e1:g p Γ with
   | none=>rw [e1] at eq; cases eq
   | some Γ1=>
    rw [e1] at eq;exact ⟨v,t,rfl,h1.run Γ Γ1 σ H ρ p v _ G B e1 fun z J=>h2.run Γ1 j z H ρ ps t _ J I eq k⟩⟩,fun ps Γ j e=>by
  cases ps with
  | nil=>cases e
  | cons p ps=>
   have e:(g p Γ).bind (gs ps)=some j:=e;cases e1:g p Γ with
   | none=>rw [e1] at e; cases e
   | some Γ1=>rw [e1] at e; rw [F4,h2.len ps Γ1 j e]⟩
theorem Qim {es:List aD} {k n:Nat} {gs:GAs} (I:X.calm=true) (h:SimGs X es n gs) (O:(ar es X.env).length=n:=by rfl) (z:(ar es X.env).findIdx? (·.1)=none:=by rfl):SimG X (.Tuple es k pos) (Q40 gs):=
 ⟨fun Γ j σ H ρ p v Q G r e q=>⟨_,Qs5 I Qqz O z,by
  cases p with
  | tup ps=>
   obtain ⟨a,vs,rfl,J,U,B⟩:=r;exact ⟨a,vs,rfl,SqT.of J,by rw [<- B.length]; exact h.len ps Γ j e,h.run Γ j σ H ρ ps vs Q G B e q⟩
  | _=>cases e⟩⟩
end
abbrev Wt:=List (Nat × Cell)
def wOk (w:Wt) (st:Q2):Prop:=∀ x∈w,st[x.1]?=some x.2
theorem Q4e (st:Q2):wOk [] st:=fun x h=>by cases h
structure Src (J:It) (items:List PV) (w:Wt) (H:Hp) (ρ:Tk):Prop where
 stop:∀ H2 ρ2 st2,Ext H ρ H2 ρ2->Rel H2 ρ2 st2->wOk w st2->J.stop items.length H2
 go:∀ H2 ρ2 st2,Ext H ρ H2 ρ2->Rel H2 ρ2 st2->wOk w st2->∀ i,i < items.length->J.go i H2
 yld:∀ H2 ρ2 st2,Ext H ρ H2 ρ2->Rel H2 ρ2 st2->wOk w st2->∀ i p,items[i]?=some p->∀ x H3,J.yld i H2 x H3->Same H2 H3/\Rep H3 ρ2 p x
abbrev MI:=Gam->Q2->Res (List PV × Wt)
structure SimI (X:Cx) (E:XK) (tg iter:aD) (mi:MI):Prop where
 run:∀ (Γ:Gam) (σ:St) (H:Hp) (ρ:Tk) (st:Q2) (P:List PV × Wt->Q2->Hp->Tk->Prop) (R':It->Hp->Prop),Rel H ρ st->EnvR H ρ Γ σ->Acc X.mg E H ρ P (mi Γ st) ->
  (∀ iw st1 H1 ρ1 J,mi Γ st=.ok iw st1->Ext H ρ H1 ρ1->Rel H1 ρ1 st1->EnvR H1 ρ1 Γ σ->wOk iw.2 st1->iw.1.length<=sizeLine->Src J iw.1 iw.2 H1 ρ1->P iw st1 H1 ρ1->R' J H1)->WI X tg iter σ H R'
def U1 (st:Q2):PV->Option (List PV × Wt)
 | .tup xs=>some (xs,[])
 | .lst xs=>some (xs,[])
 | .fro xs=>some (xs,[])
 | .ref i=>match st[i]? with
  | some (.lst xs)=>some (xs,[(i,.lst xs)])
  | _=>none
 | _=>none
theorem Q99 {K:PySem.W.Frag} {H:Hp} {ρ:Tk} {st:Q2} {p:PV} {v:V} {xs:List PV} {w:Wt} (R:Rel H ρ st) (r:Rep H ρ p v) (e:U1 st p=some (xs,w)) :
  wOk w st/\∃ (t:Bool) (a:aA),v=.ref a/\(t=true->∃ ys,p=.tup ys)/\(t=false->∀ ys,p≠.tup ys)/\∀ H2 j B,Ext H ρ H2 j->Rel H2 j B->wOk w B->∃ vs,SqK K t H2 a vs/\RepL H2 j xs vs:=by
 cases p with
 | tup ys=>
  obtain ⟨a,vs,rfl,G,I,J⟩:=r;cases e;exact ⟨Q4e _,true,a,rfl,fun _=>⟨_,rfl⟩,(fun z=>by cases z),fun H2 j B x R2 _=>⟨vs,show SqT K H2 a vs from SqT.of (x.kp G I),J.ext x⟩⟩
 | lst ys=>
  obtain ⟨a,vs,rfl,G,I,J⟩:=r;cases e;exact ⟨Q4e _,false,a,rfl,(fun z=>by cases z),(fun _ _ z=>by cases z),fun H2 j B x R2 _=>⟨vs,show SqL K H2 a vs from SqL.of (x.kp G I),J.ext x⟩⟩
 | fro ys=>
  obtain ⟨a,vs,rfl,G,I,J⟩:=r;cases e;refine ⟨Q4e _,false,a,rfl,(fun z=>by cases z),(fun _ _ z=>by cases z),fun H2 j B x R2 _=>⟨vs,show SqL K H2 a vs from ?_,J.ext x⟩⟩
  rcases G with G | ⟨o,G⟩
  ·exact .inl (.inl (x.kp G I))
  ·exact .inl (.inr ⟨o,x.kp G I⟩)
 | ref i=>
  obtain ⟨a,Y,rfl⟩:=r;simp only [U1] at e
  split at e
  ·rename_i ys hs;cases e;refine ⟨fun x Z=>?_,false,a,rfl,(fun z=>by cases z),(fun _ _ z=>by cases z),fun H2 j B x R2 ok=>?_⟩
   ·have:x=(i,.lst xs):=by simpa using Z
    subst this; exact hs
   ·have O:=ok (i,.lst xs) (by simp);obtain ⟨b,vs,U,f2,f3⟩:=R2.lst O;obtain ⟨t,et⟩:=x.pre;rw [<- et,O9 (O2.mp Y).1,Y] at U;cases U;exact ⟨vs,show SqL K H2 a vs from SqL.of f2,f3⟩
  ·cases e
 | _=>cases e
section
variable {X:Cx} {E:XK} {pos:Pos} {tg:aD} {e:aD} {m:ME}
def V4 (m:ME):MI:=fun Γ st=>(m Γ st).bind fun p st1=>match U1 st1 p with
 | some (xs,w)=>if xs.length<=lim then .ok (xs,w) st1 else .stuck
 | none=>.stuck
theorem RepL.i {H:Hp} {ρ:Tk} {ps:List PV} {vs:List V} {i:Nat} {p:PV} {x:V} (r:RepL H ρ ps vs) (h:ps[i]?=some p) (h':vs[i]?=some x):Rep H ρ p x:=by
 obtain ⟨v,e,q⟩:=r.get h;rw [h'] at e; cases e;exact q
theorem Qer {K:PySem.W.Frag} {H:Hp} {ρ:Tk} {t:Bool} {a:aA} {xs:List PV} {w:Wt} (h:∀ H2 j z,Ext H ρ H2 j->Rel H2 j z->wOk w z->∃ vs,SqK K t H2 a vs/\RepL H2 j xs vs):Src (if t=true then Itt K a else Itl K a) xs w H ρ:=by
 cases t with
 | true=>
  rw [bQ rfl];refine ⟨fun H2 j z x R ok=>?_,fun H2 j z x R ok i hi=>?_,fun H2 j z x R ok i p hp y J G=>?_⟩
  ·obtain ⟨vs,s,r⟩:=h H2 j z x R ok;exact ⟨vs,s,by rw [r.length]; exact O6 _⟩
  ·obtain ⟨vs,s,r⟩:=h H2 j z x R ok;have B:i < vs.length:=by rw [<- r.length]; exact hi
   exact ⟨vs,vs[i],s,O3 B⟩
  ·obtain ⟨vs,s,r⟩:=h H2 j z x R ok;obtain ⟨rfl,I⟩:=G;exact ⟨Same.refl _,r.i hp (I vs s)⟩
 | false=>
  rw [bS D1];refine ⟨fun H2 j z x R ok=>?_,fun H2 j z x R ok i hi=>?_,fun H2 j z x R ok i p hp y J G=>?_⟩
  ·obtain ⟨vs,s,r⟩:=h H2 j z x R ok;exact ⟨vs,s,by rw [r.length]; exact O6 _⟩
  ·obtain ⟨vs,s,r⟩:=h H2 j z x R ok;have B:i < vs.length:=by rw [<- r.length]; exact hi
   exact ⟨vs,vs[i],s,O3 B⟩
  ·obtain ⟨vs,s,r⟩:=h H2 j z x R ok;obtain ⟨rfl,I⟩:=G;exact ⟨Same.refl _,r.i hp (I vs s)⟩
theorem Qf8 {mg:Str->Option aB} {H:Hp} {ρ:Tk} {st:Q2} {p:PV} {P:List PV × Wt->Q2->Hp->Tk->Prop} (R:Rel H ρ st) (h:Acc mg E H ρ P (match U1 st p with | some (xs,w)=>if xs.length<=lim then .ok (xs,w) st else .stuck | none=>.stuck)) :
  ∃ xs w,U1 st p=some (xs,w)/\xs.length<=lim/\P (xs,w) st H ρ:=by
 split at h
 ·rename_i xs w e
  split at h
  ·rename_i hl;exact ⟨xs,w,e,hl,h H ρ (Ext.refl _ _) R⟩
  ·exact h.elim
 ·exact h.elim
theorem Zr (ha:SimE X E e m):SimI X E tg e (V4 m):=⟨fun Γ σ H ρ st P R' R G h k=>by
 have Y:Acc X.mg E H ρ _ (m Γ st):=Acc.bind h
 by_cases ht:∃ ys j,m Γ st=.ok (.tup ys) j
 ·obtain ⟨ys,a1,Z⟩:=ht;refine WI.of (Qs3 W8) (ha.use' R G Y fun p j H1 ρ1 v eq U z O I h1=>?_);obtain ⟨xs,w,e,hl,J⟩:=Qf8 z h1;obtain ⟨ok,t,a,rfl,t1,t2,B⟩:=Q99 (K:=X.K) z I e;have ep:p=.tup ys:=by rw [eq] at Z; injection Z
  cases t with
  | false=>exact absurd ep (t2 rfl ys)
  | true=>
   obtain ⟨vs,s,_⟩:=B H1 ρ1 j (Ext.refl _ _) z ok;exact ⟨a,rfl,⟨vs,s⟩,k (xs,w) j H1 ρ1 _ (by simp only [V4,eq,Res.bind,e,bQ hl]) U z O ok (K0 hl) (Qer B) J⟩
 ·refine WI.of (Qnx W8) (ha.use' R G Y fun p j H1 ρ1 v eq U z O I h1=>?_);obtain ⟨xs,w,e,hl,J⟩:=Qf8 z h1;obtain ⟨ok,t,a,rfl,t1,t2,B⟩:=Q99 (K:=X.K) z I e;cases t with
  | true=>
   obtain ⟨ys,rfl⟩:=t1 rfl;exact absurd ⟨ys,j,eq⟩ ht
  | false=>
   obtain ⟨vs,s,_⟩:=B H1 ρ1 j (Ext.refl _ _) z ok;exact ⟨a,rfl,⟨vs,s⟩,k (xs,w) j H1 ρ1 _ (by simp only [V4,eq,Res.bind,e,bQ hl]) U z O ok (K0 hl) (Qer B) J⟩⟩
def Zs (lo:Int) (n:Nat):List PV:=(List.range n).map fun (k:Nat)=>PV.int (lo + (k:Int))
theorem Qg8 {H:Hp} {ρ:Tk} {lo:Int} {n:Nat}:Src (Itr lo n) (Zs lo n) [] H ρ:=by
 have hl:(Zs lo n).length=n:=by unfold Zs; rw [O0,E8]
 refine ⟨fun H2 j z x R ok=>?_,fun H2 j z x R ok i hi=>?_,fun H2 j z x R ok i p hp y G B=>?_⟩
 ·show n<=(Zs lo n).length;omega
 ·show i < n;omega
 ·obtain ⟨rfl,rfl⟩:=B;have hi:i < n:=by rw [<- hl]; exact (O2.mp hp).1
  unfold Zs at hp;rw [E3,F8 hi] at hp;cases hp;exact ⟨Same.refl _,rfl⟩
def Z2 (mr:Gam->Q2->Res (List PV)):MI:=fun Γ st=>(mr Γ st).bind fun ps st1=>match ps with
 | [.int j]=>if -(lim:Int)<=j/\j<=lim then .ok (Zs 0 j.toNat,[]) st1 else .stuck
 | _=>.stuck
variable {a b:aD} {mr:Gam->Q2->Res (List PV)} {p:Pos}
theorem Qdk (lo:Int) (n:Nat):(Zs lo n).length=n:=by unfold Zs; rw [O0,E8]
theorem Ji (J:Gl X "range") (U:X.mg "range" = none) (Z:SimA X E [a] mr) (hs:aP [a] X.env=[(false,aQ a X.env)]:=by rfl):SimI X E tg (.Call (.Name "range" p) [a] [] pos) (Z2 mr):=⟨fun Γ σ H ρ st P R' R G h k=>by
 refine WI.of (Qgp J U Q7c hs) (Z.use' R G h.bind fun ps z H1 ρ1 vs eq x1 B O I h1=>?_)
 split at h1
 ·rename_i j
  split at h1
  ·rename_i hj;obtain ⟨v,rfl,Y⟩:=Ye I;cases Y;have hl:(lim:Int)=1000000:=rfl;refine ⟨j,rfl,by omega,by omega,k (Zs 0 j.toNat,[]) z H1 ρ1 _ (by simp only [Z2,eq,Res.bind,bQ hj]) x1 B O (Q4e _) ?_ Qg8 (h1 H1 ρ1 (Ext.refl _ _) B)⟩;show (Zs 0 j.toNat).length<=sizeLine;rw [Qdk];exact K0 (by omega)
  ·exact h1.elim
 ·exact h1.elim⟩
def Q4t:List PV->List PV->List PV
 | x :: xs,y :: ys=>.tup [x,y] :: Q4t xs ys
 | _,_=>[]
theorem Q92 (xs ys:List PV):Q4t xs ys=(xs.zip ys).map fun z=>.tup [z.1,z.2]:=by
 induction xs generalizing ys with
 | nil=>rfl
 | cons x xs j=>
  cases ys with
  | nil=>rfl
  | cons y ys=>rw [Q4t,j]; rfl
theorem Q4s (xs ys:List PV):(Q4t xs ys).length=min xs.length ys.length:=by rw [Q92,O0,List.length_zip]
theorem Qi0 {xs ys:List PV} {i:Nat} {p:PV} (h:(Q4t xs ys)[i]?=some p):∃ x y,p=.tup [x,y]/\xs[i]?=some x/\ys[i]?=some y:=by
 rw [Q92,E3] at h;cases e:(xs.zip ys)[i]? with
 | none=>rw [e] at h; cases h
 | some z=>
  rw [e] at h; cases h;rw [List.getElem?_zip_eq_some] at e;exact ⟨z.1,z.2,rfl,e.1,e.2⟩
def Qpc (mr:Gam->Q2->Res (List PV)):MI:=fun Γ st=>(mr Γ st).bind fun ps st1=>match ps with
 | [p,q]=>match U1 st1 p,U1 st1 q with
  | some (xs,w),some (ys,w')=>if xs.length<=lim then .ok (Q4t xs ys,w ++ w') st1 else .stuck
  | _,_=>.stuck
 | _=>.stuck
theorem Q0c {w z:Wt} {st:Q2} (h:wOk (w ++ z) st):wOk w st/\wOk z st:=⟨fun x j=>h x (F6 _ j),fun x j=>h x (E6 _ j)⟩
theorem Qmy {K:PySem.W.Frag} {H:Hp} {ρ:Tk} {t1 t2:Bool} {a b:aA} {xs ys:List PV} {w J:Wt} (h:∀ H2 j z,Ext H ρ H2 j->Rel H2 j z->wOk w z->∃ vs,SqK K t1 H2 a vs/\RepL H2 j xs vs)
  (h':∀ H2 j z,Ext H ρ H2 j->Rel H2 j z->wOk J z->∃ vs,SqK K t2 H2 b vs/\RepL H2 j ys vs):Src (Itz K t1 t2 a b) (Q4t xs ys) (w ++ J) H ρ:=by
 refine ⟨fun H2 j z x R ok=>?_,fun H2 j z x R ok i hi=>?_,fun H2 j z x R ok i p hp y H3 Y=>?_⟩
 ·obtain ⟨vs,s,r⟩:=h H2 j z x R (Q0c ok).1;obtain ⟨B,s',G⟩:=h' H2 j z x R (Q0c ok).2;refine ⟨vs,B,s,s',?_⟩;rw [Q4s,<- r.length,<- G.length];omega
 ·obtain ⟨vs,s,r⟩:=h H2 j z x R (Q0c ok).1;obtain ⟨B,s',G⟩:=h' H2 j z x R (Q0c ok).2;rw [Q4s,r.length,G.length] at hi;have h1:i < vs.length:=by omega
  have h2:i < B.length:=by omega
  exact ⟨vs,B,vs[i],B[i],s,s',O3 h1,O3 h2⟩
 ·obtain ⟨vs,s,r⟩:=h H2 j z x R (Q0c ok).1;obtain ⟨B,s',G⟩:=h' H2 j z x R (Q0c ok).2;obtain ⟨q,u,v,O,rfl,rfl,Z⟩:=Y;obtain ⟨e1,e2⟩:=Z vs B s s';obtain ⟨xp,yp,rfl,U,p2⟩:=Qi0 hp;have I:Same H2 (upd H2 q (.tup [u,v])):=Qiu O;exact ⟨I,q,[u,v],rfl,Qr,R.fresh O,RepL.cons ((r.i U e1).ext (Ext.same I)) (RepL.cons ((G.i p2 e2).ext (Ext.same I)) RepL.nil)⟩
theorem Qrr {elts:List aD} {kt:Nat} {tp:Pos} (hg:Gl X "zip") (hm:X.mg "zip" = none) (ha:SimA X E [a,b] mr) (hs:aP [a,b] X.env=[(false,aQ a X.env),(false,aQ b X.env)]:=by rfl) (a7:aP [b] X.env=[(false,aQ b X.env)]:=by rfl) :
  SimI X E (.Tuple elts kt tp) (.Call (.Name "zip" p) [a,b] [] pos) (Qpc mr):=⟨fun Γ σ H ρ st P R' R G h k=>by
 have hb:Acc X.mg E H ρ _ (mr Γ st):=Acc.bind h;have B:∀ t1 t2:Bool,(∀ p q j,mr Γ st=.ok [p,q] j->(t1=true <-> ∃ ys,p=.tup ys)/\(t2=true <-> ∃ ys,q=.tup ys))->WI X (.Tuple elts kt tp) (.Call (.Name "zip" p) [a,b] [] pos) σ H R':=fun t1 t2 ht=>by
  refine WI.of (Qs2 t1 t2 hg hm Q7c hs a7) (ha.use' R G hb fun ps j H1 ρ1 vs eq x1 I G1 r1 h1=>?_)
  split at h1
  ·rename_i p' q'
   split at h1
   ·rename_i xs w ys w' e1 e2
    split at h1
    ·rename_i hl;obtain ⟨v,u,rfl,rv,ru⟩:=Q5a r1;obtain ⟨Y,b1,a1,rfl,z1,a8,U⟩:=Q99 (K:=X.K) I rv e1;obtain ⟨O,b2,a2,rfl,z2,a9,Z⟩:=Q99 (K:=X.K) I ru e2;obtain ⟨g1,g2⟩:=ht _ _ _ eq;have a6:b1=t1:=by
      cases b1 with
      | true=>exact (g1.mpr (z1 rfl)).symm
      | false=>
       cases t1 with
       | false=>rfl
       | true=>obtain ⟨ys,e⟩:=g1.mp rfl; exact absurd e (a8 rfl ys)
     have a3:b2=t2:=by
      cases b2 with
      | true=>exact (g2.mpr (z2 rfl)).symm
      | false=>
       cases t2 with
       | false=>rfl
       | true=>obtain ⟨ys,e⟩:=g2.mp rfl; exact absurd e (a9 rfl ys)
     subst a6; subst a3;obtain ⟨a5,s1,_⟩:=U H1 ρ1 j (Ext.refl _ _) I Y;obtain ⟨a4,s2,_⟩:=Z H1 ρ1 j (Ext.refl _ _) I O;refine ⟨a1,a2,a5,a4,rfl,s1,s2,k (Q4t xs ys,w ++ w') j H1 ρ1 _ (by simp only [Qpc,eq,Res.bind,e1,e2,bQ hl]) x1 I G1 (fun x J=>?_) ?_ (Qmy U Z) (h1 H1 ρ1 (Ext.refl _ _) I)⟩
     ·rcases E4.mp J with J | J
      ·exact Y x J
      ·exact O x J
     ·show (Q4t xs ys).length<=sizeLine;rw [Q4s];exact K0 (F0 (Nat.min_le_left _ _) hl)
    ·exact h1.elim
   ·exact h1.elim
  ·exact h1.elim
 have tt:∀ p:PV,∃ t:Bool,t=true <-> ∃ ys,p=.tup ys:=fun p=>by
  cases p with
  | tup ys=>exact ⟨true,fun _=>⟨ys,rfl⟩,fun _=>rfl⟩
  | _=>exact ⟨false,⟨fun z=>(by cases z),fun ⟨_,z⟩=>(by cases z)⟩⟩
 by_cases hz:∃ p q j,mr Γ st=.ok [p,q] j
 ·obtain ⟨p0,q0,b0,e0⟩:=hz;obtain ⟨t1,g1⟩:=tt p0;obtain ⟨t2,g2⟩:=tt q0;refine B t1 t2 fun p q j e=>?_
  rw [e0] at e; cases e;exact ⟨g1,g2⟩
 ·exact B true true fun p q j e=>absurd ⟨p,q,j,e⟩ hz⟩
end
section
abbrev ML:=Gam->Q2->Res (List PV)
structure SimN (X:Cx) (E:XK) (e:aD) (m:ML):Prop where
 run:∀ (Γ:Gam) (σ:St) (H:Hp) (ρ:Tk) (st:Q2) (P:List PV->Q2->Hp->Tk->Prop) (Q:VK),Rel H ρ st->EnvR H ρ Γ σ->Acc X.mg E H ρ P (m Γ st) ->
  (∀ ps st1 H1 ρ1 a vs,m Γ st=.ok ps st1->Ext H ρ H1 ρ1->Rel H1 ρ1 st1->a∈ρ1.hid->H a=none->H1 a=some (.lst vs)->RepL H1 ρ1 ps vs->Q (.ref a) H1)->WE X e σ H Q
def Yv (m:ML):ME:=fun Γ st=>(m Γ st).bind fun ps st1=>.ok (.lst ps) st1
def Q3d (m:ML):ME:=fun Γ st=>(m Γ st).bind fun ps st1=>.ok (.ref st1.length) (st1 ++ [.lst ps])
section
variable {H0 H:Hp} {ρ0 ρ:Tk} {st:Q2} {a:aA} {ps:List PV} {vs:List V}
theorem Qf2 (I:Rel H0 ρ0 st) (x:Ext H0 ρ0 H ρ) {j:Q2} (R:Rel H ρ j) (B:a∈ρ.hid) (J:H0 a=none) (G:H a=some (.lst vs)) (r:RepL H ρ ps vs) :
  Ext H0 ρ0 H ⟨ρ.tr,ρ0.hid⟩/\Rel H ⟨ρ.tr,ρ0.hid⟩ j/\Rep H ⟨ρ.tr,ρ0.hid⟩ (.lst ps) (.ref a):=
 ⟨x.unhide,R.unhide x.hidM,a,vs,rfl,G,(fun z=>by
  rcases z with z | z
  ·exact R.ap a B z
  ·obtain ⟨o,e,_⟩:=I.hd a z;rw [J] at e; cases e),r.unhide x.hidM⟩
mutual
theorem Rep.trk {b:aA} {hs:List aA} (B:b∈ρ.hid) (j:∀ c,c∈hs->c∈ρ.hid):∀ {p:PV} {v:V},Rep H ρ p v->Rep H ⟨ρ.tr ++ [b],hs⟩ p v
 | .non,_,r=>r
 | .bl _,_,r=>r
 | .int _,_,r=>r
 | .str _,_,r=>r
 | .tup ps,v,⟨c,vs,e,s,n,r⟩=>⟨c,vs,e,s,fun z=>by
   rcases z with z | z
   ·rcases E4.mp z with z | z
    ·exact n (.inl z)
    ·have:c=b:=by simpa using z
     subst this; exact n (.inr B)
   ·exact n (.inr (j _ z)),RepL.trk B j r⟩
 | .lst ps,v,⟨c,vs,e,s,n,r⟩=>⟨c,vs,e,s,fun z=>by
   rcases z with z | z
   ·rcases E4.mp z with z | z
    ·exact n (.inl z)
    ·have:c=b:=by simpa using z
     subst this; exact n (.inr B)
   ·exact n (.inr (j _ z)),RepL.trk B j r⟩
 | .fro ps,v,⟨c,vs,e,s,n,r⟩=>⟨c,vs,e,s,fun z=>by
   rcases z with z | z
   ·rcases E4.mp z with z | z
    ·exact n (.inl z)
    ·have:c=b:=by simpa using z
     subst this; exact n (.inr B)
   ·exact n (.inr (j _ z)),RepL.trk B j r⟩
 | .ref i,v,⟨c,e,e2⟩=>⟨c,by show (ρ.tr ++ [b])[i]?=some c; rw [O9 (O2.mp e).1]; exact e,e2⟩
 | .dic,v,⟨c,e,s,n⟩=>⟨c,e,s,fun z=>by
   rcases z with z | z
   ·rcases E4.mp z with z | z
    ·exact n (.inl z)
    ·have:c=b:=by simpa using z
     subst this; exact n (.inr B)
   ·exact n (.inr (j _ z))⟩
theorem RepL.trk {b:aA} {hs:List aA} (z:b∈ρ.hid) (j:∀ c,c∈hs->c∈ρ.hid):∀ {ps:List PV} {vs:List V},RepL H ρ ps vs->RepL H ⟨ρ.tr ++ [b],hs⟩ ps vs
 | [],_,r=>r
 | p :: ps,_,⟨v,t,e,G,B⟩=>⟨v,t,e,Rep.trk z j G,RepL.trk z j B⟩
end
theorem Qf3 (R0:Rel H0 ρ0 st) (x:Ext H0 ρ0 H ρ) {j:Q2} (R:Rel H ρ j) (I:a∈ρ.hid) (Y:H0 a=none) (ha:H a=some (.lst vs)) (r:RepL H ρ ps vs) :
  Ext H0 ρ0 H ⟨ρ.tr ++ [a],ρ0.hid⟩/\Rel H ⟨ρ.tr ++ [a],ρ0.hid⟩ (j ++ [.lst ps])/\Rep H ⟨ρ.tr ++ [a],ρ0.hid⟩ (.ref j.length) (.ref a):=by
 have O:a∉ρ0.hid:=fun z=>by
  obtain ⟨o,e,_⟩:=R0.hd a z;rw [Y] at e; cases e
 refine ⟨⟨x.pre.trans (List.prefix_append _ _),fun _ h=>h,fun _ h=>.inl h,x.keep,fun b G=>?_,x.old,x.frz⟩,⟨?_,?_,fun b G=>R.hd b (x.hidM b G),fun b G z=>?_,fun i b c h1 h2=>?_⟩,a,?_,rfl⟩
 ·rcases E4.mp G with z | z
  ·exact x.new b z
  ·have:b=a:=by simpa using z
   subst this; exact .inr Y
 ·show (ρ.tr ++ [a]).length=_;rw [D7,D7,R.len]; rfl
 ·show (ρ.tr ++ [a]).Nodup;refine List.nodup_append.mpr ⟨R.nd,by simp,fun b G c Z e=>?_⟩;have:c=a:=by simpa using Z
  subst this; subst e;exact R.ap b I G
 ·rcases E4.mp z with z | z
  ·exact R.ap b (x.hidM b G) z
  ·have:b=a:=by simpa using z
   subst this; exact O G
 ·have h1:(ρ.tr ++ [a])[i]?=some b:=h1
  by_cases hi:i < j.length
  ·rw [O9 (by rw [R.len]; exact hi)] at h1;rw [O9 hi] at h2;have q:=R.cell i b c h1 h2;cases c with
   | lst J=>
    obtain ⟨B,e1,e2⟩:=q;exact ⟨B,e1,e2.trk I x.hidM⟩
   | dic J=>
    obtain ⟨B,e1,e2⟩:=q;exact ⟨B,e1,e2.1,e2.2.trk I x.hidM⟩
   | dtp J=>
    obtain ⟨B,e1,e2⟩:=q;exact ⟨B,e1,e2.1,e2.2.trk I x.hidM⟩
   | frd J=>
    obtain ⟨B,e1,e2⟩:=q;exact ⟨B,e1,e2.1,e2.2.trk I x.hidM⟩
   | obj C J=>
    obtain ⟨B,e1,e2⟩:=q;exact ⟨B,e1,e2.1,e2.2.trk I x.hidM⟩
  ·rw [E9 (by rw [R.len]; omega)] at h1;rw [E9 (by omega)] at h2;have U:i - j.length=0:=by
    rcases Nat.eq_zero_or_pos (i - j.length) with z | z
    ·exact z
    ·rw [L9 (by simp; omega)] at h2; cases h2
   rw [R.len,U] at h1;rw [U] at h2;simp at h1 h2;subst h1; subst h2;exact ⟨vs,ha,r.trk I x.hidM⟩
 ·show (ρ.tr ++ [a])[j.length]?=some a;rw [<- R.len,E9 (O6 _),Nat.sub_self]; rfl
end
section
variable {X:Cx} {E:XK} {pos:Pos} {e:aD} {m:ML}
theorem Zg (h:SimN X E e m):SimE X E e (Yv m):=⟨fun Γ σ H ρ st Q R G j=>h.run Γ σ H ρ st _ Q R G j.bind fun ps U H1 ρ1 a vs eq x z J Y O r=>by
 obtain ⟨I,R2,B⟩:=Qf2 R x z J Y O r;unfold Yv at j;rw [eq] at j;exact j _ _ I R2 _ B⟩
theorem Q2w (h:SimN X E e m):SimE X E e (Q3d m):=⟨fun Γ σ H ρ st Q R G j=>h.run Γ σ H ρ st _ Q R G j.bind fun ps U H1 ρ1 a vs eq x z J Y O r=>by
 obtain ⟨I,R2,B⟩:=Qf3 R x z J Y O r;unfold Q3d at j;rw [eq] at j;exact j _ _ I R2 _ B⟩
variable {es:List aD} {mr:Gam->Q2->Res (List PV)} {a b:aD} {ma mb:ME}
theorem Qsq {H1:Hp} {ρ1:Tk} {j:Q2} {H:Hp} {ρ:Tk} {Q:VK} {ps:List PV} {vs:List V} (x:Ext H ρ H1 ρ1) (B:Rel H1 ρ1 j) (r:RepL H1 ρ1 ps vs)
  (k:∀ H1 ρ1 a vs,Ext H ρ H1 ρ1->Rel H1 ρ1 j->a∈ρ1.hid->H a=none->H1 a=some (.lst vs)->RepL H1 ρ1 ps vs->Q (.ref a) H1):∀ p,H1 p=none->Q (.ref p) (upd H1 p (.lst vs)):=fun p hp=>by
 refine k _ (ρ1.hide p) p vs (x.trans (Ext.hide hp)) (B.hide hp) O8 ?_ Qr (r.hide hp);cases e:H p with
 | none=>rfl
 | some o=>
  obtain ⟨o',z⟩:=x.old p o e;rw [hp] at z; cases z
def Qc7 (mr:Gam->Q2->Res (List PV)):ML:=fun Γ st=>(mr Γ st).bind fun ps st1=>if ps.length<=lim then .ok ps st1 else .stuck
theorem Qig (h:SimA X E es mr):SimN X E (.List es pos) (Qc7 mr):=
 ⟨fun Γ σ H ρ st P Q R G O k=>WE.of (Qds Q7c) (h.use' R G O.bind fun ps z H1 ρ1 vs eq U I Y B h1=>by
  by_cases hl:ps.length<=lim
  ·refine ⟨by rw [<- B.length]; exact K0 hl,Qsq U I B fun H2 j a J=>k ps z H2 j a J ?_⟩;unfold Qc7;rw [eq];exact bQ hl
  ·rw [bS hl] at h1; exact h1.elim)⟩
end
end
def Z4 (cap:List (Option Nat)) (Γ:Gam):Gam:=cap.map fun c=>c.bind fun j=>(Γ[j]?).join
theorem EnvR.cap {H:Hp} {ρ:Tk} {Γ:Gam} {σ:St} (h:EnvR H ρ Γ σ) (cap:List (Option Nat)):EnvR H ρ (Z4 cap Γ) (Q2m cap σ):=by
 refine ⟨by unfold Z4 Q2m; rw [O0,O0],fun i p e=>?_⟩;unfold Z4 at e;unfold Q2m;rw [E3] at e ⊢;cases q:cap[i]? with
 | none=>rw [q] at e; cases e
 | some c=>
  rw [q] at e;cases c with
  | none=>cases e
  | some j=>
   have z:(Γ[j]?).join=some p:=Option.some.inj e;cases r:Γ[j]? with
   | none=>rw [r] at z; cases z
   | some o=>
    rw [r] at z;have:o=some p:=z;subst this;obtain ⟨v,e1,e2⟩:=h.2 j p r;exact ⟨v,by show some ((σ[j]?).join)=some (some v); rw [e1]; rfl,e2⟩
def Q73 (cap:List (Option Nat)) (ga:GA):Prop:=∀ Γ p Γ1,ga p (Z4 cap Γ)=some Γ1->Γ1.length=(Z4 cap Γ).length/\∀ (i:Nat) (q:PV),(Z4 cap Γ)[i]?=some (some q)->Γ1[i]?=some (some q)
theorem Q8r {cap:List (Option Nat)} {i:Nat} (h:cap[i]?=some none) (Γ:Gam):(Z4 cap Γ)[i]?=some none:=by
 unfold Z4;rw [E3,h]; rfl
theorem Qz {cap:List (Option Nat)} {i:Nat} (h:cap[i]?=some none:=by rfl):Q73 cap (Qb i):=fun Γ p Γ1 e=>by
 cases e;refine ⟨G9 ..,fun j q B=>?_⟩;rw [D9 fun z=>?_]
 ·exact B
 ·subst z; rw [Q8r h] at B; cases B
def Qfz (cap:List (Option Nat)) (ga:GAs):Prop:=∀ Γ ps Γ0 Γ1,(∀ (i:Nat) (q:PV),(Z4 cap Γ)[i]?=some (some q)->Γ0[i]?=some (some q))->ga ps Γ0=some Γ1->Γ1.length=Γ0.length/\∀ (i:Nat) (q:PV),(Z4 cap Γ)[i]?=some (some q)->Γ1[i]?=some (some q)
theorem Qkn {cap:List (Option Nat)}:Qfz cap Q41:=fun Γ ps Γ0 Γ1 h e=>by
 cases ps with
 | nil=>cases e; exact ⟨rfl,h⟩
 | cons _ _=>cases e
theorem Q8i {cap:List (Option Nat)} {i:Nat} {gs:GAs} (hs:Qfz cap gs) (h:cap[i]?=some none:=by rfl):Qfz cap (K1 (Qb i) gs):=fun Γ ps Γ0 Γ1 B e=>by
 cases ps with
 | nil=>cases e
 | cons p ps=>
  obtain ⟨a,b⟩:=hs Γ ps (Γ0.set i (some p)) Γ1 (fun k r j=>by
   rw [D9 fun z=>?_]
   ·exact B k r j
   ·subst z; rw [Q8r h] at j; cases j) e
  exact ⟨by rw [a,G9],b⟩
theorem Qkm {cap:List (Option Nat)} {gs:GAs} (hs:Qfz cap gs):Q73 cap (Q40 gs):=fun Γ p Γ1 e=>by
 cases p with
 | tup ps=>exact hs Γ ps _ Γ1 (fun _ _ h=>h) e
 | _=>cases e
open Classical in
def Jh (ga:GA) (mt:MT) (me:ME) (w:Wt) (Γ0:Gam):List PV->Q2->Res (List PV)
 | [],st=>if wOk w st then .ok [] st else .stuck
 | x :: xs,st=>if wOk w st then (match ga x Γ0 with
  | none=>.stuck
  | some Γ1=>(mt Γ1 st).bind fun b st1=>if b=true then (me Γ1 st1).bind fun y st2=>(Jh ga mt me w Γ0 xs st2).bind fun ys st3=>.ok (y :: ys) st3 else Jh ga mt me w Γ0 xs st1) else .stuck
def noX {α:Type}:Res α->Res α
 | .exc _ _=>.stuck
 | r=>r
def Jk (cap:List (Option Nat)) (ga:GA) (mi:MI) (mt:MT) (me:ME):ML:=fun Γ st=>(mi Γ st).bind fun iw st1=>noX (Jh ga mt me iw.2 (Z4 cap Γ) iw.1 st1)
structure SimTs (X:Cx) (ifs:List aD) (m:MT):Prop where
 run:∀ (Γ:Gam) (σ:St) (H:Hp) (ρ:Tk) (st:Q2) (P:Bool->Q2->Hp->Tk->Prop) (Q:Bool->Hp->Prop),Rel H ρ st->EnvR H ρ Γ σ->Acc X.mg E0 H ρ P (m Γ st) ->
  (∀ b st1 H1 ρ1,m Γ st=.ok b st1->Ext H ρ H1 ρ1->Rel H1 ρ1 st1->EnvR H1 ρ1 Γ σ->Q b H1)->∃ t,PTs X ifs t/\t σ H Q
def Jv:MT:=fun _ st=>.ok true st
theorem Zj {X:Cx}:SimTs X [] Jv:=⟨fun Γ σ H ρ st P Q R G h k=>⟨_,Qnq,k true st H ρ rfl (Ext.refl _ _) R G⟩⟩
theorem Yp {X:Cx} {c:aD} {m:MT} (B:SimT X E0 c m):SimTs X [c] m:=⟨fun Γ σ H ρ st P Q R G h k=>⟨_,Qnp Qbq,B.use' R G h fun b j H1 ρ1 e J z I p=>k b j H1 ρ1 e J z I⟩⟩
theorem Qqn {α:Type} {mg:Str->Option aB} {E E':XK} {H:Hp} {ρ:Tk} {P:α->Q2->Hp->Tk->Prop} {r:Res α} (h:Acc mg E H ρ P (noX r)):Acc mg E' H ρ P r:=by
 cases r with
 | ok a st=>exact h
 | exc x st=>exact h.elim
 | stuck=>exact h
theorem Res.assoc {α β j:Type} (r:Res α) (f:α->Q2->Res β) (g:β->Q2->Res j):(r.bind f).bind g=r.bind fun a st=>(f a st).bind g:=by cases r <;> rfl
theorem Acc.assoc {α β j:Type} {mg:Str->Option aB} {E:XK} {H:Hp} {ρ:Tk} {P:j->Q2->Hp->Tk->Prop} {r:Res α} {f:α->Q2->Res β} {g:β->Q2->Res j} (h:Acc mg E H ρ P ((r.bind f).bind g)):Acc mg E H ρ P (r.bind fun a st=>(f a st).bind g):=by
 rw [<- Res.assoc]; exact h
theorem EnvR.le {H:Hp} {ρ:Tk} {Γ j:Gam} {σ:St} (h:EnvR H ρ j σ) (hl:Γ.length=σ.length) (k:∀ (i:Nat) (q:PV),Γ[i]?=some (some q)->j[i]?=some (some q)):EnvR H ρ Γ σ:=⟨hl,fun i p e=>h.2 i p (k i p e)⟩
section
variable {X:Cx} {E:XK} {pos:Pos} {tg iter elt:aD} {ifs:List aD} {N N':List Str} {sc scE:Scope} {cap:List (Option Nat)} {ga:GA} {mi:MI} {mt:MT} {me:ME}
def aE (X:Cx) (N':List Str) (sc:Scope) (e:aD):TE:=fun σ H Q=>∀ cl C s0 H0 ex,WE (Vk X N' sc cl C s0 H0 ex) e σ H Q
def aG (X:Cx) (N':List Str) (sc:Scope) (tg:aD):TG:=fun v σ H Q=>∀ cl C s0 H0 ex,WGx (Vk X N' sc cl C s0 H0 ex) tg v σ H Q
def aT (X:Cx) (N':List Str) (sc:Scope) (ifs:List aD):TT:=fun σ H Q=>∀ cl C s0 H0 ex,∃ t,PTs (Vk X N' sc cl C s0 H0 ex) ifs t/\t σ H Q
theorem Qhp {Γ:Gam} {σ:St} {H1:Hp} {ρ1:Tk} {U:Q2} {J:It} {j:List PV} {w:Wt} {Q:VK} {P:List PV->Q2->Hp->Tk->Prop} (hg:∀ cl C Z H0 ex,SimG (Vk X N' sc cl C Z H0 ex) tg ga) (he:∀ cl C Z H0 ex,SimE (Vk X N' sc cl C Z H0 ex) E0 elt me) (ht:∀ cl C Z H0 ex,SimTs (Vk X N' sc cl C Z H0 ex) ifs mt)
  (hf:Q73 cap ga) (R1:Rel H1 ρ1 U) (G1:EnvR H1 ρ1 Γ σ) (src:Src J j w H1 ρ1) (c4:j.length<=sizeLine) (h:Acc X.mg E0 H1 ρ1 P (Jh ga mt me w (Z4 cap Γ) j U))
  (k:∀ ys b5 H2 a6 B vs,Jh ga mt me w (Z4 cap Γ) j U=.ok ys b5->Ext H1 ρ1 H2 a6->Rel H2 a6 b5->B∈a6.hid->H1 B=none->H2 B=some (.lst vs)->RepL H2 a6 ys vs->Q (.ref B) H2):Q8p J cap (aG X N' sc tg) (aT X N' sc ifs) (aE X N' sc elt) σ H1 Q:=by
 intro B G;let W:Nat->Nat->List V->St->Hp->Prop:=fun i m vs a8 H'=>m=j.length - i/\i<=j.length/\vs.length<=i/\∃ ρ' st' ys,Ext H1 ρ1 H' ρ'/\B∈ρ'.hid/\Rel H' ρ' st'/\EnvR H' ρ' (Z4 cap Γ) a8/\H' B=some (.lst vs)/\RepL H' ρ' ys vs /\
  Jh ga mt me w (Z4 cap Γ) j U=(Jh ga mt me w (Z4 cap Γ) (j.drop i) st').bind fun zs a3=>.ok (ys ++ zs) a3
 refine ⟨W,⟨_,rfl,Nat.zero_le _,O6 _,ρ1.hide B,U,[],Ext.hide G,O8,R1.hide G,(G1.cap cap).hide G,Qr,rfl,?_⟩,?_⟩
 ·rw [List.drop_zero];cases r:Jh ga mt me w (Z4 cap Γ) j U with
  | ok zs a3=>rfl
  | exc x a3=>rfl
  | stuck=>rfl
 rintro i m vs a8 H' ⟨hm,hi,c5,ρ',st',ys,x,a1,R',G',ha,ry,O⟩;have I:Acc X.mg E0 H1 ρ1 P ((Jh ga mt me w (Z4 cap Γ) (j.drop i) st').bind fun zs a3=>.ok (ys ++ zs) a3):=by rw [<- O]; exact h
 refine ⟨ha,?_⟩
 by_cases a2:i < j.length
 ·right
  have hd:j.drop i=j[i] :: j.drop (i + 1):=List.drop_eq_getElem_cons a2;rw [hd,Jh] at I O
  by_cases hw:wOk w st'
  ·rw [bQ hw] at I O;refine ⟨src.go H' _ st' x R' hw i a2,by omega,fun y H2 hy=>?_⟩;obtain ⟨sm,c0⟩:=src.yld H' _ st' x R' hw i _ (O3 a2) y H2 hy;cases eg:ga j[i] (Z4 cap Γ) with
   | none=>rw [eg] at I; exact I.elim
   | some Γ1=>
    rw [eg] at I O;have x2:Ext H' ρ' H2 ρ':=Ext.same sm;have R2:=R'.same sm;intro cl C Z H0 ex;refine (hg cl C Z H0 ex).run (Z4 cap Γ) Γ1 a8 H2 ρ' _ y _ (G'.ext x2) c0 eg fun b3 G3=>?_
    intro cl C Z H0 ex;have b9:=Acc.later I (x.trans x2);refine (ht cl C Z H0 ex).run Γ1 b3 H2 ρ' st' _ _ R2 G3 (Acc.bind (Acc.assoc b9)) fun b c2 H4 a5 e4 x4 R4 G4=>?_
    simp only [e4,Res.bind] at I O;have G0:∀ {b2:Hp} {Y:Tk},EnvR b2 Y Γ1 b3->EnvR b2 Y (Z4 cap Γ) b3:=fun {b2 Y} g=>g.le (by
     rw [<- G3.1];exact (hf Γ _ Γ1 eg).1.symm) (hf Γ _ Γ1 eg).2
    have b0:Ext H1 ρ1 H4 a5:=x.trans (x2.trans x4);have b1:B∈a5.hid:=x4.hidM B a1;have na:B∉ρ'.tr:=R'.ap B a1;have b6:H4 B=some (.lst vs):=x4.keep B _ (sm B _ ha) na;have b4:RepL H4 a5 ys vs:=ry.ext (x2.trans x4);cases b with
    | false=>
     rw [bS D1] at I O ⊢;exact ⟨_,show j.length - (i + 1) < m by omega,rfl,a2,by omega,a5,c2,ys,b0,b1,R4,G0 G4,b6,b4,O⟩
    | true=>
     rw [bQ rfl] at I O ⊢;intro cl C Z H0 ex;have c3:=Acc.later I b0;refine (he cl C Z H0 ex).use' R4 G4 (Acc.bind (Acc.assoc c3)) fun z b7 H5 a9 zv e5 x5 R5 G5 r5 h5=>?_
     simp only [e5,Res.bind] at I O;have a4:B∈a9.hid:=x5.hidM B b1;have b8:H5 B=some (.lst vs):=x5.keep B _ b6 (R4.ap B b1);have c1:Ext H1 ρ1 H5 a9:=b0.trans x5;refine ⟨b8,_,show j.length - (i + 1) < m by omega,rfl,a2,by rw [D7]; simp; omega,a9,b7,ys ++ [z],c1.put0 G,a4,R5.rehide a4,(G0 G5).rehide a4,Qr,((b4.ext x5).append (RepL.cons r5 RepL.nil)).rehide a4,?_⟩;refine O.trans ?_;cases rr:Jh ga mt me w (Z4 cap Γ) (j.drop (i + 1)) b7 with
     | ok zs a7=>
      show Res.ok (ys ++ z :: zs) a7=Res.ok ((ys ++ [z]) ++ zs) a7;rw [List.append_assoc]; rfl
     | exc x6 a7=>rfl
     | stuck=>rfl
  ·rw [bS hw] at I; exact I.elim
 ·left
  have ei:i=j.length:=by omega
  subst ei;rw [List.drop_length,Jh] at I O
  by_cases hw:wOk w st'
  ·rw [bQ hw] at I O;refine ⟨src.stop H' _ st' x R' hw,?_⟩;have O:Jh ga mt me w (Z4 cap Γ) j U=.ok (ys ++ []) st':=O;rw [List.append_nil] at O;exact k ys st' H' ρ' B vs O x R' a1 G ha ry
  ·rw [bS hw] at I; exact I.elim
theorem Q6s {Γ:Gam} {σ:St} {H:Hp} {ρ:Tk} {st:Q2} {Q:VK} {P:List PV->Q2->Hp->Tk->Prop} (hi:SimI X E tg iter mi) (Z:∀ cl C I H0 ex,SimG (Vk X N' sc cl C I H0 ex) tg ga) (he:∀ cl C I H0 ex,SimE (Vk X N' sc cl C I H0 ex) E0 elt me) (ht:∀ cl C I H0 ex,SimTs (Vk X N' sc cl C I H0 ex) ifs mt)
  (hf:Q73 cap ga) (R:Rel H ρ st) (G:EnvR H ρ Γ σ) (h:Acc X.mg E H ρ P (Jk cap ga mi mt me Γ st)) (k:∀ ps z H2 j a vs,Jk cap ga mi mt me Γ st=.ok ps z->Ext H ρ H2 j->Rel H2 j z->a∈j.hid->H a=none->H2 a=some (.lst vs)->RepL H2 j ps vs->Q (.ref a) H2):Q96 cap (WI X tg iter) (aG X N' sc tg) (aT X N' sc ifs) (aE X N' sc elt) σ H Q:=by
 refine hi.run Γ σ H ρ st _ _ R G h.bind fun iw a1 H1 ρ1 J eq U R1 G1 ok hl src h1=>?_
 refine Qhp Z he ht hf R1 G1 src hl (Qqn (E':=E0) h1) fun ys z H2 j B vs O x2 R2 hm hn ha ry=>?_
 refine k ys z H2 j B vs ?_ (U.trans x2) R2 hm ?_ ha ry
 ·unfold Jk;rw [eq];show noX _=_;rw [O]; rfl
 cases e:H B with
 | none=>rfl
 | some o=>
  obtain ⟨o',Y⟩:=U.old B o e;rw [hn] at Y; cases Y
theorem Qs7 {N':List Str} {sc:Scope} {tg:aD}:∀ cl C j H0 ex,PG (Vk X N' sc cl C j H0 ex) tg (aG X N' sc tg):=fun cl C j H0 ex pins s σ H v u Q I r h=>Qs4 pins s σ H v u Q I r (h cl C j H0 ex)
theorem Qsc {N':List Str} {sc:Scope} {e:aD}:∀ cl C j H0 ex,PE (Vk X N' sc cl C j H0 ex) e (aE X N' sc e):=fun cl C j H0 ex pins s σ H Q I h=>h cl C j H0 ex pins s I
theorem Qj6 {N':List Str} {sc:Scope} {ifs:List aD}:∀ cl C j H0 ex,PTs (Vk X N' sc cl C j H0 ex) ifs (aT X N' sc ifs):=fun cl C j H0 ex pins s σ H Q I h=>by
 obtain ⟨t,a,b⟩:=h cl C j H0 ex;exact a pins s σ H Q I b
theorem Js (cap:List (Option Nat)) (N':List Str) (j:X.calm=true) (hi:SimI X E tg iter mi) (O:∀ cl C z H0 ex,SimG (Vk X N' sc cl C z H0 ex) tg ga) (I:∀ cl C z H0 ex,SimE (Vk X N' sc cl C z H0 ex) E0 elt me) (Y:∀ cl C z H0 ex,SimTs (Vk X N' sc cl C z H0 ex) ifs mt)
  (B:Q73 cap ga) (Z:X.N=N:=by rfl) (U:X.env.scope=scE:=by rfl) (J:compOkC N N' sc scE cap=true:=by kernel_rfl) (hs:∀ x,bC iter X.env x=pure x:=by intro _; rfl) :
  SimN X E (.ListComp elt [⟨tg,iter,ifs,0⟩] sc pos) (Jk cap ga mi mt me):=
 ⟨fun Γ σ H ρ st P Q R G h k=>WE.of (Qjj j Qnw Qs7 Qsc Qj6 Z U J hs) (Q6s hi O I Y B R G h k)⟩
end
inductive SR where
 | nx (Γ:Gam) (st:Q2) | rt (v:PV) (st:Q2) | bk (Γ:Gam) (st:Q2) | ct (Γ:Gam) (st:Q2) | exc (x:Exc) (st:Q2) | stuck
abbrev MS:=Gam->Q2->SR
def Res.sbind {α:Type} (r:Res α) (f:α->Q2->SR):SR:=match r with
 | .ok a st=>f a st
 | .exc x st=>.exc x st
 | .stuck=>.stuck
def AccS (mg:Str->Option aB) (E:XK) (D:Ends) (H:Hp) (ρ:Tk):SR->Prop
 | .nx Γ st=>∀ σ' H' ρ',Ext H ρ H' ρ'->Rel H' ρ' st->EnvR H' ρ' Γ σ'->D.nx σ' H'
 | .bk Γ st=>∀ σ' H' ρ',Ext H ρ H' ρ'->Rel H' ρ' st->EnvR H' ρ' Γ σ'->D.bk σ' H'
 | .ct Γ st=>∀ σ' H' ρ',Ext H ρ H' ρ'->Rel H' ρ' st->EnvR H' ρ' Γ σ'->D.ct σ' H'
 | .rt p st=>∀ v H' ρ',Ext H ρ H' ρ'->Rel H' ρ' st->Rep H' ρ' p v->D.rt v H'
 | .exc x st=>∀ C dv H' ρ',mg x.cls=some (.ref C)->Ext H ρ H' ρ'->Rel H' ρ' st->XFs H' ρ' x.fs dv->E (.ref C) dv H'
 | .stuck=>False
section
variable {α:Type} {mg:Str->Option aB} {E:XK} {D:Ends} {H H1:Hp} {ρ ρ1:Tk}
theorem AccS.later {r:SR} (h:AccS mg E D H ρ r) (x:Ext H ρ H1 ρ1):AccS mg E D H1 ρ1 r:=by
 cases r with
 | nx Γ st=>exact fun j H' ρ' z=>h j H' ρ' (x.trans z)
 | bk Γ st=>exact fun j H' ρ' z=>h j H' ρ' (x.trans z)
 | ct Γ st=>exact fun j H' ρ' z=>h j H' ρ' (x.trans z)
 | rt p st=>exact fun v H' ρ' z=>h v H' ρ' (x.trans z)
 | exc y st=>exact fun C B H' ρ' m z=>h C B H' ρ' m (x.trans z)
 | stuck=>exact h
theorem AccS.bind {r:Res α} {f:α->Q2->SR} (h:AccS mg E D H ρ (r.sbind f)):Acc mg E H ρ (fun a j H1 ρ1=>AccS mg E D H1 ρ1 (f a j)) r:=by
 cases r with
 | ok a st=>exact fun H' ρ' z B=>AccS.later (show AccS mg E D H ρ (f a st) from h) z
 | exc e st=>exact h
 | stuck=>exact h
end
theorem Res.sassoc {α β:Type} (r:Res α) (f:α->Q2->Res β) (g:β->Q2->SR):(r.bind f).sbind g=r.sbind fun a st=>(f a st).sbind g:=by cases r <;> rfl
theorem AccS.assoc {α β:Type} {mg:Str->Option aB} {E:XK} {D:Ends} {H:Hp} {ρ:Tk} {r:Res α} {f:α->Q2->Res β} {g:β->Q2->SR} (h:AccS mg E D H ρ ((r.bind f).sbind g)):AccS mg E D H ρ (r.sbind fun a st=>(f a st).sbind g):=by
 rw [<- Res.sassoc]; exact h
structure SimS (X:Cx) (E:XK) (s:aJ) (m:MS):Prop where
 run:∀ (Γ:Gam) (σ:St) (H:Hp) (ρ:Tk) (st:Q2) (D:Ends),Rel H ρ st->EnvR H ρ Γ σ->AccS X.mg E D H ρ (m Γ st)->WS X s D σ H
structure SimB (X:Cx) (E:XK) (ss:List aJ) (m:MS):Prop where
 run:∀ (Γ:Gam) (σ:St) (H:Hp) (ρ:Tk) (st:Q2) (D:Ends),Rel H ρ st->EnvR H ρ Γ σ->AccS X.mg E D H ρ (m Γ st)->WB X ss D σ H
section
variable {X:Cx} {E:XK} {pos:Pos} {e:aD} {m:ME}
def Jt:MS:=fun Γ st=>.nx Γ st
def Qh (m1 m2:MS):MS:=fun Γ st=>match m1 Γ st with
 | .nx Γ1 st1=>m2 Γ1 st1
 | r=>r
theorem Jj:SimB X E [] Jt:=⟨fun Γ σ H ρ st D R G h=>WB.of Q9s (h σ H ρ (Ext.refl _ _) R G)⟩
theorem Q9 {s:aJ} {rest:List aJ} {m1 m2:MS} (h1:SimS X E s m1) (h2:SimB X E rest m2):SimB X E (s :: rest) (Qh m1 m2):=
 ⟨fun Γ σ H ρ st D R G h=>WB.of (xm Qvb Q5c) (h1.run Γ σ H ρ st _ R G (by
  unfold Qh at h;cases r:m1 Γ st with
  | nx Γ1 j=>rw [r] at h; exact fun z H' ρ' I J B=>h2.run Γ1 z H' ρ' j D J B (AccS.later h I)
  | bk Γ1 j=>rw [r] at h; exact h
  | ct Γ1 j=>rw [r] at h; exact h
  | rt p j=>rw [r] at h; exact h
  | exc x j=>rw [r] at h; exact h
  | stuck=>rw [r] at h; exact h))⟩
theorem Qc {s:aJ} {m1:MS} (h1:SimS X E s m1):SimB X E [s] m1:=⟨fun Γ σ H ρ st D R G h=>WB.of (Q23 Qvb) (h1.run Γ σ H ρ st D R G h)⟩
def Qk3:MS:=fun Γ st=>.bk Γ st
theorem Qif:SimS X E (.Break pos) Qk3:=⟨fun Γ σ H ρ st D R G h=>WS.of Qjc (h σ H ρ (Ext.refl _ _) R G)⟩
def Xj (m:ME):MS:=fun Γ st=>(m Γ st).sbind fun _ st1=>.nx Γ st1
theorem Va (j:SimE X E e m) (hs:swapsWith e none pos.line X.env=pure false:=by rfl):SimS X E (.Expr e pos) (Xj m):=
 ⟨fun Γ σ H ρ st D R G h=>WS.of (Qnr W8 hs) (j.use R G h.bind fun p I H1 ρ1 v O z B J h1=>h1 σ H1 ρ1 (Ext.refl _ _) z B)⟩
def Jz (m:ME):MS:=fun Γ st=>(m Γ st).sbind fun p st1=>.rt p st1
theorem Qy (z:SimE X E e m):SimS X E (.Return (some e) pos) (Jz m):=
 ⟨fun Γ σ H ρ st D R G h=>WS.of (Q9u W8) (z.use R G h.bind fun p I H1 ρ1 v O B J j h1=>h1 v H1 ρ1 (Ext.refl _ _) B j)⟩
def Jm (i:Nat) (m:ME):MS:=fun Γ st=>(m Γ st).sbind fun p st1=>.nx (Γ.set i (some p)) st1
theorem J2 (i:Nat) {x:Str} {pos':Pos} (Y:X.N.Nodup) (B:SimE X E e m) (hi:X.N[i]?=some x:=by rfl) (J:Loc X.env.scope x:=by first | exact Or.inl rfl | exact Or.inr rfl) (hs:swapsWith e (some (.Name x pos')) pos.line X.env=pure false:=by rfl) (j:X.fn x=true\/X.env.scope.names.lookup x=some .local:=by first | exact .inl rfl | exact .inr rfl) :
  SimS X E (.Assign [.Name x pos'] e pos) (Jm i m):=
 ⟨fun Γ σ H ρ st D R G h=>WS.of (Q9t Y hi J W8 hs j) (B.use R G h.bind fun p U H1 ρ1 v Z I O z h1=>h1 _ H1 ρ1 (Ext.refl _ _) I (O.set z i))⟩
section
variable {tg iter elt:aD} {ifs:List aD} {N N':List Str} {sc scE:Scope} {ga:GA} {mi:MI} {mt:MT} {me:ME}
theorem Q1w (cap:List (Option Nat)) (N':List Str) (i:Nat) {x:Str} {Y cpos:Pos} (B:X.N.Nodup) (j:X.calm=true) (hi:SimI X E tg iter mi) (Z:∀ cl C z H0 ex,SimG (Vk X N' sc cl C z H0 ex) tg ga) (he:∀ cl C z H0 ex,SimE (Vk X N' sc cl C z H0 ex) E0 elt me) (ht:∀ cl C z H0 ex,SimTs (Vk X N' sc cl C z H0 ex) ifs mt)
  (hf:Q73 cap ga) (O:X.N[i]?=some x:=by rfl) (hx:Loc X.env.scope x:=by first | exact Or.inl rfl | exact Or.inr rfl) (I:swapsWith (.ListComp elt [⟨tg,iter,ifs,0⟩] sc cpos) (some (.Name x Y)) pos.line X.env=pure true:=by rfl)
  (hN:X.N=N:=by rfl) (hE:X.env.scope=scE:=by rfl) (hc:compOkC N N' sc scE cap=true:=by kernel_rfl) (hs:∀ x,bC iter X.env x=pure x:=by intro _; rfl) (J:X.fn x=true\/X.env.scope.names.lookup x=some .local:=by first | exact .inl rfl | exact .inr rfl) :
  SimS X E (.Assign [.Name x Y] (.ListComp elt [⟨tg,iter,ifs,0⟩] sc cpos) pos) (Jm i (Yv (Jk cap ga mi mt me))):=
 ⟨fun Γ σ H ρ st D R G h=>WS.of (Qbr B O hx j Qnw Qs7 Qsc Qj6 I hN hE hc hs J) (Q6s hi Z he ht hf R G (AccS.bind (by unfold Jm Yv at h; exact AccS.assoc h)) fun ps a1 H1 ρ1 a vs eq x R1 hm hn ha r=>by
  obtain ⟨U,R2,r2⟩:=Qf2 R x R1 hm hn ha r;simp only [Jm,Yv,eq,Res.bind,Res.sbind] at h;exact h _ _ _ U R2 ((G.ext U).set r2 i))⟩
theorem Qb8 (cap:List (Option Nat)) (N':List Str) (i:Nat) {x:Str} {Y cpos:Pos} (B:X.N.Nodup) (j:X.calm=true) (hi:SimI X E tg iter mi) (Z:∀ cl C z H0 ex,SimG (Vk X N' sc cl C z H0 ex) tg ga) (he:∀ cl C z H0 ex,SimE (Vk X N' sc cl C z H0 ex) E0 elt me) (ht:∀ cl C z H0 ex,SimTs (Vk X N' sc cl C z H0 ex) ifs mt)
  (hf:Q73 cap ga) (O:X.N[i]?=some x:=by rfl) (hx:Loc X.env.scope x:=by first | exact Or.inl rfl | exact Or.inr rfl) (I:swapsWith (.ListComp elt [⟨tg,iter,ifs,0⟩] sc cpos) (some (.Name x Y)) pos.line X.env=pure true:=by rfl)
  (hN:X.N=N:=by rfl) (hE:X.env.scope=scE:=by rfl) (hc:compOkC N N' sc scE cap=true:=by kernel_rfl) (hs:∀ x,bC iter X.env x=pure x:=by intro _; rfl) (J:X.fn x=true\/X.env.scope.names.lookup x=some .local:=by first | exact .inl rfl | exact .inr rfl) :
  SimS X E (.Assign [.Name x Y] (.ListComp elt [⟨tg,iter,ifs,0⟩] sc cpos) pos) (Jm i (Q3d (Jk cap ga mi mt me))):=
 ⟨fun Γ σ H ρ st D R G h=>WS.of (Qbr B O hx j Qnw Qs7 Qsc Qj6 I hN hE hc hs J) (Q6s hi Z he ht hf R G (AccS.bind (by unfold Jm Q3d at h; exact AccS.assoc h)) fun ps a1 H1 ρ1 a vs eq x R1 hm hn ha r=>by
  obtain ⟨U,R2,r2⟩:=Qf3 R x R1 hm hn ha r;simp only [Jm,Q3d,eq,Res.bind,Res.sbind] at h;exact h _ _ _ U R2 ((G.ext U).set r2 i))⟩
end
def yw (st:Q2) (o i p:PV):Option Q2:=match o,i with
 | .ref k,.int j=>match st[k]? with
  | some (.lst xs)=>(ixN xs.length j).map fun n=>st.set k (.lst (xs.set n p))
  | _=>none
 | _,_=>none
def X3 (mo mi m:ME):MS:=fun Γ st=>(m Γ st).sbind fun p st1=>(mo Γ st1).sbind fun o st2=>(mi Γ st2).sbind fun i st3=>match yw st3 o i p with
 | some st4=>.nx Γ st4
 | none=>.stuck
theorem Qn5 {H:Hp} {ρ:Tk} {st st':Q2} {o i p:PV} {x y z:V} (R:Rel H ρ st) (U:Rep H ρ o x) (ri:Rep H ρ i y) (Y:Rep H ρ p z) (e:yw st o i p=some st') :
  ∃ a vs k j,x=.ref a/\y=.int k/\H a=some (.lst vs)/\ixN vs.length k=some j/\Ext H ρ (upd H a (.lst (vs.set j z))) ρ/\Rel (upd H a (.lst (vs.set j z))) ρ st':=by
 unfold yw at e
 split at e
 ·rename_i k j
  split at e
  ·rename_i xs hs;cases I:ixN xs.length j with
   | none=>rw [I] at e; cases e
   | some n=>
    rw [I] at e;have e:st.set k (.lst (xs.set n p))=st':=Option.some.inj e;subst e;obtain ⟨a,B,rfl⟩:=U;cases ri;obtain ⟨b,vs,J,G,O⟩:=R.lst hs;rw [B] at J; cases J;exact ⟨a,vs,j,n,rfl,rfl,G,by rw [<- O.length]; exact I,Ext.put (E7 B) G,R.put B G (O.set Y n)⟩
  ·cases e
 ·cases e
theorem Q2t {o i:aD} {mo mi:ME} {tpos:Pos} (he:SimE X E e m) (ho:SimE X E o mo) (hi:SimE X E i mi)
  (ha:∀ v,assign (.Subscript o i tpos) X.env v=(do
   let B <- bB [v] (aQ o X.env)
   let I <- bB [v,B] (aQ i X.env)
   standAt tpos
   bB [v,B,I] (setItem B I v)
   release [v,B,I] []):=by intro _; rfl)
  (hs:swapsWithSole [.Subscript o i tpos] e pos.line X.env=pure false:=by rfl) (hw:swappedStores [.Subscript o i tpos] e X.env=pure none:=by rfl) (h1:(ar [.Subscript o i tpos] X.env).map (·.2)=[assign (.Subscript o i tpos) X.env]:=by rfl) :
  SimS X E (.Assign [.Subscript o i tpos] e pos) (X3 mo mi m):=
 ⟨fun Γ σ H ρ st D R G h=>WS.of (Qs0 W8 (Qs6 W8 W8 Qip ha) hs hw h1) (he.use R G h.bind fun p a4 H1 ρ1 z x1 R1 G1 r1 h1=>ho.use R1 G1 h1.bind fun B a2 H2 a1 x x2 R2 G2 r2 h2=>hi.use R2 G2 h2.bind fun I U H3 O y Z R3 G3 r3 J=>by
  cases es:yw U B I p with
  | none=>rw [es] at J; exact J.elim
  | some a3=>
   rw [es] at J;obtain ⟨a,vs,k,j,rfl,rfl,f1,f2,Y,R4⟩:=Qn5 R3 (r2.ext Z) r3 (r1.ext (x2.trans Z)) es;exact ⟨a,vs,k,j,rfl,rfl,f1,f2,J σ _ O Y R4 (G3.ext Y)⟩)⟩
def Zc (mt:MT) (ma mb:MS):MS:=fun Γ st=>(mt Γ st).sbind fun b st1=>if b=true then ma Γ st1 else mb Γ st1
theorem Jy {c:aD} {a b:List aJ} {mt:MT} {ma mb:MS} (J:SimT X E c mt) (O:SimB X E a ma) (I:SimB X E b mb):SimS X E (.If c a b pos) (Zc mt ma mb):=
 ⟨fun Γ σ H ρ st D R G h=>WS.of (Qjb Qbq Q5c Q5c) (J.use R G h.bind fun k j H1 ρ1 U z B h1=>by
  cases k with
  | true=>rw [bQ rfl] at h1 ⊢; exact O.run Γ σ H1 ρ1 j D z B h1
  | false=>rw [bS D1] at h1 ⊢; exact I.run Γ σ H1 ρ1 j D z B h1)⟩
open Classical in
def U6 (ga:GA) (body:MS) (w:Wt):List PV->Gam->Q2->SR
 | [],Γ,st=>if wOk w st then .nx Γ st else .stuck
 | x :: xs,Γ,st=>if wOk w st then (match ga x Γ with
  | none=>.stuck
  | some Γ1=>match body Γ1 st with
   | .nx Γ2 st2=>U6 ga body w xs Γ2 st2
   | .ct Γ2 st2=>U6 ga body w xs Γ2 st2
   | .bk Γ2 st2=>.nx Γ2 st2
   | .rt v st2=>.rt v st2
   | .exc x st2=>.exc x st2
   | .stuck=>.stuck) else .stuck
def y4 (ga:GA) (mi:MI) (body:MS):MS:=fun Γ st=>(mi Γ st).sbind fun iw st1=>U6 ga body iw.2 iw.1 Γ st1
theorem Ue {tg iter:aD} {bd:List aJ} {ga:GA} {mi:MI} {body:MS} (hp:PassesOwn (aI X.prog X.w) X.A X.env X.xe) (hc:X.calm=true) (hi:SimI X E tg iter mi) (hg:SimG X tg ga) (hb:SimB X E bd body)
  (hs:∀ x,bC iter X.env x=pure x:=by intro _; rfl):SimS X E (.For tg iter bd [] pos) (y4 ga mi body):=
 ⟨fun Γ σ H ρ st D R G h=>WS.of (Qrz hp hc Qnw Qs4 Q5c hs) (hi.run Γ σ H ρ st _ _ R G h.bind fun I a6 H1 ρ1 J eq x1 R1 G1 ok hl src h1=>by
  let W:Nat->Nat->St->Hp->Prop:=fun i m O H'=>m=I.1.length - i/\i<=I.1.length/\∃ a1 ρ' st',Ext H1 ρ1 H' ρ'/\Rel H' ρ' st'/\EnvR H' ρ' a1 O/\AccS X.mg E D H' ρ' (U6 ga body I.2 (I.1.drop i) a1 st')
  refine ⟨W,⟨_,rfl,Nat.zero_le _,Γ,ρ1,a6,Ext.refl _ _,R1,G1,by rw [List.drop_zero]; exact h1⟩,?_⟩;rintro i m O H' ⟨hm,a7,a1,ρ',st',x,R',G',Y⟩
  by_cases a3:i < I.1.length
  ·right
   have hd:I.1.drop i=I.1[i] :: I.1.drop (i + 1):=List.drop_eq_getElem_cons a3;rw [hd,U6] at Y
   by_cases hw:wOk I.2 st'
   ·rw [bQ hw] at Y;refine ⟨src.go H' ρ' st' x R' hw i a3,fun a4 H2=>W (i + 1) (I.1.length - (i + 1)) a4 H2,fun a4 H2 z=>⟨_,by omega,z⟩,fun y H2 hy=>?_⟩
    obtain ⟨sm,ry⟩:=src.yld H' ρ' st' x R' hw i _ (O3 a3) y H2 hy;have x2:Ext H' ρ' H2 ρ':=Ext.same sm;cases eg:ga I.1[i] a1 with
    | none=>rw [eg] at Y; exact Y.elim
    | some Γ1=>
     rw [eg] at Y;refine hg.run a1 Γ1 O H2 ρ' _ y _ (G'.ext x2) ry eg fun a5 G3=>?_
     have j:=AccS.later Y x2;simp only at j;refine hb.run Γ1 a5 H2 ρ' st' _ (R'.same sm) G3 ?_;have again:∀ {U:Gam} {B:Q2},AccS X.mg E D H2 ρ' (U6 ga body I.2 (I.1.drop (i + 1)) U B)->∀ O a2 Z,Ext H2 ρ' a2 Z->Rel a2 Z B->EnvR a2 Z U O->W (i + 1) (I.1.length - (i + 1)) O a2:=fun {U B} a σ4 H4 ρ4 x4 R4 G4=>
      ⟨rfl,a3,U,ρ4,B,x.trans (x2.trans x4),R4,G4,AccS.later a x4⟩
     cases rb:body Γ1 st' with
     | nx U B=>rw [rb] at j; exact again j
     | ct U B=>rw [rb] at j; exact again j
     | bk U B=>rw [rb] at j; exact j
     | rt v B=>rw [rb] at j; exact j
     | exc y B=>rw [rb] at j; exact j
     | stuck=>rw [rb] at j; exact j.elim
   ·rw [bS hw] at Y; exact Y.elim
  ·left
   have ei:i=I.1.length:=by omega
   subst ei;rw [List.drop_length,U6] at Y
   by_cases hw:wOk I.2 st'
   ·rw [bQ hw] at Y;exact ⟨src.stop H' ρ' st' x R' hw,Y O H' ρ' (Ext.refl _ _) R' G'⟩
   ·rw [bS hw] at Y; exact Y.elim)⟩
def qe (mt:MT) (body:MS):Nat->Gam->Q2->SR
 | 0,_,_=>.stuck
 | n + 1, Γ, st => (mt Γ st).sbind fun b st1 => if b = true then (match body Γ st1 with
   | .nx Γ2 st2=>qe mt body n Γ2 st2
   | .ct Γ2 st2=>qe mt body n Γ2 st2
   | .bk Γ2 st2=>.nx Γ2 st2
   | .rt v st2=>.rt v st2
   | .exc x st2=>.exc x st2
   | .stuck=>.stuck) else .nx Γ st1
theorem Qie (n:Nat) {c:aD} {bd:List aJ} {mt:MT} {body:MS} (hp:PassesOwn (aI X.prog X.w) X.A X.env X.xe) (hc:SimT X E c mt) (hb:SimB X E bd body):SimS X E (.While c bd [] pos) (qe mt body n):=
 ⟨fun Γ σ H ρ st D R G h=>WS.of (Qja hp Qbq Q5c) (by
  let W:Nat->St->Hp->Prop:=fun m B H'=>∃ O ρ' st',Rel H' ρ' st'/\EnvR H' ρ' O B/\AccS X.mg E D H' ρ' (qe mt body m O st')
  refine ⟨W,⟨n,Γ,ρ,st,R,G,h⟩,?_⟩;rintro m B H' ⟨O,ρ',st',R',G',hA⟩;cases m with
  | zero=>exact hA.elim
  | succ m=>
   rw [qe] at hA;refine hc.use R' G' hA.bind fun b a1 H1 ρ1 x1 R1 G1 h1=>?_
   cases b with
   | false=>rw [bS D1] at h1 ⊢; exact h1 B H1 ρ1 (Ext.refl _ _) R1 G1
   | true=>
    rw [bQ rfl] at h1 ⊢;refine ⟨fun Z H2=>W m Z H2,fun Z H2 z=>⟨m,Nat.lt_succ_self _,z⟩,hb.run O B H1 ρ1 a1 _ R1 G1 ?_⟩
    have again:∀ {I:Gam} {j:Q2},AccS X.mg E D H1 ρ1 (qe mt body m I j)->∀ B U J,Ext H1 ρ1 U J->Rel U J j->EnvR U J I B->W m B U:=fun {I j} a σ4 H4 ρ4 x4 R4 G4=>⟨I,ρ4,j,R4,G4,AccS.later a x4⟩
    cases Y:body O a1 with
    | nx I j=>rw [Y] at h1; exact again h1
    | ct I j=>rw [Y] at h1; exact again h1
    | bk I j=>rw [Y] at h1; exact h1
    | rt v j=>rw [Y] at h1; exact h1
    | exc y j=>rw [Y] at h1; exact h1
    | stuck=>rw [Y] at h1; exact h1.elim)⟩
def jm (x:Str) (m:ME):MS:=fun Γ st=>(m Γ st).sbind fun _ st1=>.exc ⟨x,none⟩ st1
theorem Ka {x:Str} {C:aA} {np cpos:Pos} (j:X.calm=true) (Y:Qei X E) (U:Gl X x) (I:X.mg x=some (.ref C)) (q:PySem.W.excIn X.K C Q0u "ValueError.__new__" = true) (J:SimE X E e m)
  (B:(x == ("__debug__" : Str))=false:=by decide) (z:aP [e] X.env=[(false,aQ e X.env)]:=by rfl):SimS X E (.Raise (some (.Call (.Name x np) [e] [] cpos)) none pos) (jm x m):=
 ⟨fun Γ σ H ρ st D R G h=>WS.of (Qgk j Y U I q (J7 W8 Y8 (by rw [z]; rfl)) B z) (J.use R G h.bind fun p Z H1 ρ1 v x1 O G1 r1 h1=>⟨F0 (show 1<=lim by decide) Qac,h1 C none H1 ρ1 I (Ext.refl _ _) O rfl⟩)⟩
end
def WM (X:Cx) (id:String):V->List V->Hp->VK->Prop:=fun x xs H Q=>∀ (pins:List (aA × Obj)) (s:aC) (σ:St) (v:aB) (us:List aB),Inv X pins σ H s->RelV x v->Vals xs us->aH (aI X.prog X.w) X.A (call (.builtin id) (v :: us)) (EP X pins σ Q) X.xe s
theorem Qye {X:Cx} {id:String}:MtR X id (WM X id):=fun pins s σ _ _ _ v z _ I r j h=>h pins s σ v z I r j
theorem WM.of {X:Cx} {id:String} {r:V->List V->Hp->VK->Prop} {x:V} {xs:List V} {H:Hp} {Q:VK} (h:MtR X id r) (q:r x xs H Q):WM X id x xs H Q:=fun pins s σ v B I j z=>h pins s σ H x xs v B Q I j z q
abbrev MF:=Q2->PV->List PV->Res PV
structure MtS (X:Cx) (E:XK) (id:String) (o:MF):Prop where
 run:∀ (H:Hp) (ρ:Tk) (st:Q2) (p:PV) (ps:List PV) (x:V) (xs:List V) (Q:VK),Rel H ρ st->Rep H ρ p x->RepL H ρ ps xs->Acc X.mg E H ρ (QV Q) (o st p ps)->WM X id x xs H Q
section
variable {X:Cx} {E:XK} {o e:aD} {es:List aD} {mo:ME} {mr:Gam->Q2->Res (List PV)} {name:Str} {apos cpos:Pos} {T id:String} {f:MF}
def mBM (f:MF) (mo:ME) (mr:Gam->Q2->Res (List PV)):ME:=fun Γ st=>(mo Γ st).bind fun p st1=>match listOf st1 p with
 | some _=>(mr Γ st1).bind fun ps st2=>f st2 p ps
 | none=>.stuck
theorem Qqt (pa:PlainAttrs "list") (slot:Slot "list" name id) (J:typeOf (.builtin id)=pure (.type "method_descriptor")) (hm:MtS X E id f) (ho:SimE X E o mo) (ha:SimA X E (e :: es) mr)
  (z:bH o name X.env (aQ o X.env)=aQ o X.env:=by rfl)
  (I:((aU cpos (aP (e :: es) X.env)).all (fun x=>!x.1) && (backToKw cpos (keywordEach [] X.env)).all (fun x=>x.1.isSome)
   && decide ((e :: es).length + ([]:List Keyword).length + (if ([]:List Keyword).isEmpty then 0 else 1) < 30))=true:=by rfl)
  (B:(apos.endLine == cpos.line)=true:=by rfl) (hs:aP (e :: es) X.env=(false,aQ e X.env) :: aP es X.env:=by rfl) (j:(aU cpos (aP es X.env)).any (·.1)=false:=by rfl) :
  SimE X E (.Call (.Attribute o name apos) (e :: es) [] cpos) (mBM f mo mr):=
 ⟨fun Γ σ H ρ st Q R G h=>WE.of (Qjm pa slot J Qye W8 Q7c z I B hs j) (ho.use R G h.bind fun p a1 H1 ρ1 v x1 Z G1 Y h1=>by
  split at h1
  ·rename_i ys el;obtain ⟨a,vs,rfl,hr,_⟩:=Q2a Z Y el;exact ⟨.inl ⟨rfl,vs,.inl hr⟩,ha.use Z G1 h1.bind fun ps U H2 O us x2 R2 G2 r2 h2=>hm.run H2 O U p ps _ us Q R2 (Y.ext x2) r2 h2⟩
  ·exact h1.elim)⟩
def chg (st:Q2) (p:PV) (g:List PV->Option (PV × List PV)):Res PV:=match p with
 | .ref i=>match st[i]? with
  | some (.lst xs)=>match g xs with
   | some (r,ys)=>.ok r (st.set i (.lst ys))
   | none=>.stuck
  | _=>.stuck
 | _=>.stuck
theorem Qfv {mg:Str->Option aB} {H:Hp} {ρ:Tk} {st:Q2} {p:PV} {x:V} {g:List PV->Option (PV × List PV)} {Q:VK} (R:Rel H ρ st) (J:Rep H ρ p x) (h:Acc mg E H ρ (QV Q) (chg st p g)) :
  ∃ a xs vs r ys,x=.ref a/\H a=some (.lst vs)/\RepL H ρ xs vs/\g xs=some (r,ys)/\∀ j v,RepL H ρ ys j->Rep H ρ r v->Q v (upd H a (.lst j)):=by
 unfold chg at h
 split at h
 ·rename_i i
  split at h
  ·rename_i xs hs
   split at h
   ·rename_i r ys I;obtain ⟨a,z,rfl⟩:=J;obtain ⟨b,vs,G,B,O⟩:=R.lst hs;rw [z] at G; cases G;refine ⟨a,xs,vs,r,ys,rfl,B,O,I,fun j v Y U=>?_⟩;have x:=Ext.put (o':=.lst j) (E7 z) B;exact h _ ρ x (R.put z B Y) v (U.ext x)
   ·exact h.elim
  ·exact h.elim
 ·exact h.elim
def qu:MF:=fun st p ps=>match ps with
 | [y]=>chg st p fun xs=>if xs.length < lim then some (.non,xs ++ [y]) else none
 | _=>.stuck
theorem Qh2:MtS X E "list.append" qu:=⟨fun H ρ st p ps x xs Q R I G h=>by
 unfold qu at h
 split at h
 ·obtain ⟨v,rfl,r⟩:=Ye G;obtain ⟨a,ys,vs,J,zs,rfl,B,z,j,k⟩:=Qfv R I h
  split at j
  ·rename_i hl;cases j;exact WM.of Qh0 ⟨a,vs,v,rfl,rfl,B,by rw [<- z.length]; exact D4 hl Qac,k _ _ (z.append (RepL.cons r RepL.nil)) rfl⟩
  ·cases j
 ·exact h.elim⟩
def xy:MF:=fun st p ps=>match ps with
 | [q]=>match Q0x st q with
  | some ys=>chg st p fun xs=>if xs.length + ys.length<=lim then some (.non,xs ++ ys) else none
  | none=>.stuck
 | _=>.stuck
theorem Qh1:MtS X E "list.extend" xy:=⟨fun H ρ st p ps x xs Q R U O h=>by
 unfold xy at h
 split at h
 ·obtain ⟨v,rfl,r⟩:=Ye O
  split at h
  ·rename_i ws Y;obtain ⟨b,I,rfl,G,B⟩:=Q64 R r Y;obtain ⟨a,ys,vs,Z,zs,rfl,J,z,j,k⟩:=Qfv R U h
   split at j
   ·rename_i hl;cases j;exact WM.of Qgy ⟨a,b,vs,I,rfl,rfl,J,G,by rw [<- z.length,<- B.length]; exact K0 hl,k _ _ (z.append B) rfl⟩
   ·cases j
  ·exact h.elim
 ·exact h.elim⟩
theorem Qga (I:SimE X E o mo) (G:SimA X E [e] mr) (z:bH o "append" X.env (aQ o X.env)=aQ o X.env:=by rfl)
  (B:((aU cpos (aP [e] X.env)).all (fun x=>!x.1) && (backToKw cpos (keywordEach [] X.env)).all (fun x=>x.1.isSome) && decide ([e].length + ([]:List Keyword).length + (if ([]:List Keyword).isEmpty then 0 else 1) < 30))=true:=by rfl)
  (j:(apos.endLine == cpos.line)=true:=by rfl) (hs:aP [e] X.env=(false,aQ e X.env) :: aP [] X.env:=by rfl):SimE X E (.Call (.Attribute o "append" apos) [e] [] cpos) (mBM qu mo mr):=
 Qqt PySem.F.plainAttrs_list PySem.F.slot_list_append PySem.F.type_list_append Qh2 I G z B j hs
theorem Qg9 (I:SimE X E o mo) (G:SimA X E [e] mr) (z:bH o "extend" X.env (aQ o X.env)=aQ o X.env:=by rfl)
  (B:((aU cpos (aP [e] X.env)).all (fun x=>!x.1) && (backToKw cpos (keywordEach [] X.env)).all (fun x=>x.1.isSome) && decide ([e].length + ([]:List Keyword).length + (if ([]:List Keyword).isEmpty then 0 else 1) < 30))=true:=by rfl)
  (j:(apos.endLine == cpos.line)=true:=by rfl) (hs:aP [e] X.env=(false,aQ e X.env) :: aP [] X.env:=by rfl):SimE X E (.Call (.Attribute o "extend" apos) [e] [] cpos) (mBM xy mo mr):=
 Qqt PySem.F.plainAttrs_list PySem.F.slot_list_extend PySem.F.type_list_extend Qh1 I G z B j hs
end
section
mutual
def fz (n:Nat) (st:Q2):Nat->PV->Option PV
 | 0,_=>none
 | _ + 1,.non=>some .non
 | _ + 1,.bl b=>some (.bl b)
 | _ + 1,.int i=>some (.int i)
 | _ + 1,.str x=>some (.str x)
 | k + 1,.tup xs=>(fzL n st k xs).map .tup
 | k + 1,.lst xs=>(fzL n st k xs).map .lst
 | k + 1,.fro xs=>(fzL n st k xs).map .fro
 | _ + 1,.dic=>some .dic
 | k + 1,.ref i=>if i < n then some (.ref i) else match st[i]? with
  | some (.lst xs)=>(fzL n st k xs).map .lst
  | _=>none
def fzL (n:Nat) (st:Q2):Nat->List PV->Option (List PV)
 | _,[]=>some []
 | k,x :: xs=>(fz n st k x).bind fun y=>(fzL n st k xs).map (y :: ·)
end
theorem yb {n:Nat} {st:Q2}:∀ {m k:Nat} {p:PV},Jw m p=true->m < k->fz n st k p=some p:=by
 intro m
 induction m with
 | zero=>
  intro k p g G;obtain ⟨k,rfl⟩:∃ j,k=j + 1:=⟨k - 1,by omega⟩;cases p with
  | tup _=>cases g
  | lst _=>cases g
  | fro _=>cases g
  | ref _=>cases g
  | dic=>cases g
  | _=>rw [fz]
 | succ m I=>
  intro k p g G;obtain ⟨k,rfl⟩:∃ j,k=j + 1:=⟨k - 1,by omega⟩;have z:∀ xs:List PV,xs.all (Jw m)=true->fzL n st k xs=some xs:=by
   intro xs
   induction xs with
   | nil=>intro _; rw [fzL]
   | cons x xs B=>
    intro g;rw [List.all_cons,L6] at g;rw [fzL,I g.1 (by omega),B g.2]; rfl
  cases p with
  | tup xs=>rw [fz,z xs g]; rfl
  | lst xs=>rw [fz,z xs g]; rfl
  | fro xs=>rw [fz,z xs g]; rfl
  | ref _=>cases g
  | dic=>cases g
  | _=>rw [fz]
section
variable {H:Hp} {ρ:Tk} {st:Q2} {tr0 rest hs:List aA}
theorem Qki (R:Rel H ρ st) (Y:ρ.tr=tr0 ++ rest) (hh:∀ a,a∈hs->a∈ρ.hid):∀ (k:Nat) {p p':PV} {v:V},Rep H ρ p v->fz tr0.length st k p=some p'->Rep H ⟨tr0,hs⟩ p' v:=by
 have out:∀ a,a∉ρ->a∉(⟨tr0,hs⟩:Tk):=fun a n z=>by
  rcases z with z | z
  ·exact n (.inl (by rw [Y]; exact F6 _ z))
  ·exact n (.inr (hh a z))
 intro k
 induction k with
 | zero=>intro p p' v r e; rw [fz] at e; cases e
 | succ k ih=>
  have U:∀ {ps B:List PV} {vs:List V},RepL H ρ ps vs->fzL tr0.length st k ps=some B->RepL H ⟨tr0,hs⟩ B vs:=by
   intro ps
   induction ps with
   | nil=>intro B vs r e; rw [fzL] at e; cases e; exact r
   | cons x xs a1=>
    intro B vs r e;obtain ⟨v,t,rfl,r1,r2⟩:=r;rw [fzL] at e;cases e1:fz tr0.length st k x with
    | none=>rw [e1] at e; cases e
    | some y=>
     rw [e1] at e;have e:(fzL tr0.length st k xs).map (y :: ·)=some B:=e;cases e2:fzL tr0.length st k xs with
     | none=>rw [e2] at e; cases e
     | some ys=>
      rw [e2] at e;cases e;exact ⟨v,t,rfl,ih r1 e1,a1 r2 e2⟩
  intro p p' v r e;cases p with
  | non=>rw [fz] at e; cases e; exact r
  | bl b=>rw [fz] at e; cases e; exact r
  | int i=>rw [fz] at e; cases e; exact r
  | str x=>rw [fz] at e; cases e; exact r
  | tup xs=>
   rw [fz] at e;obtain ⟨a,vs,e1,G,I,O⟩:=r;cases e2:fzL tr0.length st k xs with
   | none=>rw [e2] at e; cases e
   | some ys=>rw [e2] at e; cases e; exact ⟨a,vs,e1,G,out a I,U O e2⟩
  | lst xs=>
   rw [fz] at e;obtain ⟨a,vs,e1,G,I,O⟩:=r;cases e2:fzL tr0.length st k xs with
   | none=>rw [e2] at e; cases e
   | some ys=>rw [e2] at e; cases e; exact ⟨a,vs,e1,G,out a I,U O e2⟩
  | fro xs=>
   rw [fz] at e;obtain ⟨a,vs,e1,G,I,O⟩:=r;cases e2:fzL tr0.length st k xs with
   | none=>rw [e2] at e; cases e
   | some ys=>rw [e2] at e; cases e; exact ⟨a,vs,e1,G,out a I,U O e2⟩
  | dic=>
   rw [fz] at e;cases e;obtain ⟨a,e1,G,I⟩:=r;exact ⟨a,e1,G,out a I⟩
  | ref i=>
   rw [fz] at e;obtain ⟨a,J,rfl⟩:=r
   by_cases hi:i < tr0.length
   ·rw [bQ hi] at e;cases e;rw [Y,O9 hi] at J;exact ⟨a,J,rfl⟩
   ·rw [bS hi] at e
    split at e
    ·rename_i xs Z;obtain ⟨b,vs,f1,f2,f3⟩:=R.lst Z;rw [J] at f1; cases f1;cases e2:fzL tr0.length st k xs with
     | none=>rw [e2] at e; cases e
     | some ys=>
      rw [e2] at e; cases e;refine ⟨a,vs,rfl,f2,fun z=>?_,U f3 e2⟩;rcases z with z | z
      ·have z:a∈tr0:=z;obtain ⟨j,hj,ej⟩:=List.getElem_of_mem z;have g1:ρ.tr[j]?=some a:=by rw [Y,O9 hj,O3 hj,ej]
       have l1:=O2.mp g1;have l2:=O2.mp J;have:=Q88 R.nd l1.1 l2.1 (l1.2.trans l2.2.symm);omega
      ·exact R.ap a (hh a z) (E7 J)
    ·cases e
mutual
def bel (n:Nat):PV->Prop
 | .tup xs=>Qav n xs
 | .lst xs=>Qav n xs
 | .fro xs=>Qav n xs
 | .ref i=>i < n
 | _=>True
def Qav (n:Nat):List PV->Prop
 | []=>True
 | x :: xs=>bel n x/\Qav n xs
end
mutual
theorem Rep.bel:∀ {p:PV} {v:V},Rep H ρ p v->bel ρ.tr.length p
 | .non,_,_=>by simp [Sm.bel]
 | .bl _,_,_=>by simp [Sm.bel]
 | .int _,_,_=>by simp [Sm.bel]
 | .str _,_,_=>by simp [Sm.bel]
 | .tup ps,_,⟨_,_,_,_,_,r⟩=>by rw [Sm.bel]; exact RepL.bel r
 | .lst ps,_,⟨_,_,_,_,_,r⟩=>by rw [Sm.bel]; exact RepL.bel r
 | .fro ps,_,⟨_,_,_,_,_,r⟩=>by rw [Sm.bel]; exact RepL.bel r
 | .ref i,_,⟨_,e,_⟩=>by rw [Sm.bel]; exact (O2.mp e).1
 | .dic,_,_=>by simp [Sm.bel]
theorem RepL.bel:∀ {ps:List PV} {vs:List V},RepL H ρ ps vs->Qav ρ.tr.length ps
 | [],_,_=>by simp [Qav]
 | p :: ps,_,⟨_,_,_,j,z⟩=>by rw [Qav]; exact ⟨Rep.bel j,RepL.bel z⟩
end
mutual
theorem Rep.less (j:ρ.tr=tr0 ++ rest) (B:∀ a,a∈hs->a∈ρ.hid):∀ {p:PV} {v:V},Sm.bel tr0.length p->Rep H ρ p v->Rep H ⟨tr0,hs⟩ p v
 | .non,_,_,r=>r
 | .bl _,_,_,r=>r
 | .int _,_,_,r=>r
 | .str _,_,_,r=>r
 | .tup ps,_,b,⟨a,vs,e,G,I,r⟩=>⟨a,vs,e,G,fun z=>I (z.imp (fun z=>by rw [j]; exact F6 _ z) (B a)),RepL.less j B (by rw [Sm.bel] at b; exact b) r⟩
 | .lst ps,_,b,⟨a,vs,e,G,I,r⟩=>⟨a,vs,e,G,fun z=>I (z.imp (fun z=>by rw [j]; exact F6 _ z) (B a)),RepL.less j B (by rw [Sm.bel] at b; exact b) r⟩
 | .fro ps,_,b,⟨a,vs,e,G,I,r⟩=>⟨a,vs,e,G,fun z=>I (z.imp (fun z=>by rw [j]; exact F6 _ z) (B a)),RepL.less j B (by rw [Sm.bel] at b; exact b) r⟩
 | .ref i,_,b,⟨a,e,e2⟩=>⟨a,by rw [Sm.bel] at b; rw [j,O9 b] at e; exact e,e2⟩
 | .dic,_,_,⟨a,e,G,I⟩=>⟨a,e,G,fun z=>I (z.imp (fun z=>by rw [j]; exact F6 _ z) (B a))⟩
theorem RepL.less (z:ρ.tr=tr0 ++ rest) (j:∀ a,a∈hs->a∈ρ.hid):∀ {ps:List PV} {vs:List V},Qav tr0.length ps->RepL H ρ ps vs->RepL H ⟨tr0,hs⟩ ps vs
 | [],_,_,r=>r
 | p :: ps,_,b,⟨v,t,e,G,B⟩=>by
  rw [Qav] at b;exact ⟨v,t,e,Rep.less z j b.1 G,RepL.less z j b.2 B⟩
end
end
theorem Qbp {H H':Hp} {ρ ρ':Tk} {st st':Q2} (R:Rel H ρ st) (x:Ext H ρ H' ρ') (O:Rel H' ρ' st') (hp:st <+: st'):Ext H ρ H' ρ/\Rel H' ρ st:=by
 obtain ⟨rest,z⟩:=x.pre;obtain ⟨more,J⟩:=hp;refine ⟨⟨List.prefix_refl _,fun _ h=>h,fun _ h=>.inl h,x.keep,fun _ h=>.inl h,x.old,x.frz⟩,R.len,R.nd,fun a I=>let ⟨o,e,n⟩:=R.hd a I; ⟨o,x.keep a o e (R.ap a I),n⟩,R.ap,fun i a c h1 h2=>?_⟩
 have hi:i < st.length:=(O2.mp h2).1;have q:=O.cell i a c (by rw [<- z,O9 (O2.mp h1).1]; exact h1) (by rw [<- J,O9 hi]; exact h2);have B:=R.cell i a c h1 h2;cases c with
 | lst ps=>
  obtain ⟨vs,e1,e2⟩:=q;obtain ⟨G,_,j⟩:=B;exact ⟨vs,e1,RepL.less (ρ:=ρ') (tr0:=ρ.tr) (hs:=ρ.hid) z.symm x.hidM j.bel e2⟩
 | dic ps=>
  obtain ⟨vs,e1,e2⟩:=q;obtain ⟨G,_,j⟩:=B;exact ⟨vs,e1,e2.1,RepL.less (ρ:=ρ') (tr0:=ρ.tr) (hs:=ρ.hid) z.symm x.hidM j.2.bel e2.2⟩
 | dtp ps=>
  obtain ⟨vs,e1,e2⟩:=q;obtain ⟨G,_,j⟩:=B;exact ⟨vs,e1,e2.1,RepL.less (ρ:=ρ') (tr0:=ρ.tr) (hs:=ρ.hid) z.symm x.hidM j.2.bel e2.2⟩
 | frd ps=>
  obtain ⟨vs,e1,e2⟩:=q;obtain ⟨G,_,j⟩:=B;exact ⟨vs,e1,e2.1,RepL.less (ρ:=ρ') (tr0:=ρ.tr) (hs:=ρ.hid) z.symm x.hidM j.2.bel e2.2⟩
 | obj C ps=>
  obtain ⟨vs,e1,e2⟩:=q;obtain ⟨G,_,j⟩:=B;exact ⟨vs,e1,e2.1,RepL.less (ρ:=ρ') (tr0:=ρ.tr) (hs:=ρ.hid) z.symm x.hidM j.2.bel e2.2⟩
abbrev FN:=List PV->Q2->Res PV
open Classical in
def fin (st:Q2) (v:PV) (st':Q2):Res PV:=if st <+: st' then okO st (fz st.length st' 16 v) else .ok v st'
open Classical in
def Qkq (st:Q2) (x:Exc) (st':Q2):Res PV:=if st <+: st' then (match x.fs with
 | none=>.exc x st
 | some (n,p)=>match fz st.length st' 16 p with
  | some q=>.exc ⟨x.cls,some (n,q)⟩ st
  | none=>.stuck) else .exc x st'
def Qq (body:MS) (nl:Nat):FN:=fun ps st=>match body (ps.map some ++ List.replicate (nl - ps.length) none) st with
 | .rt v st'=>fin st v st'
 | .nx _ st'=>fin st .non st'
 | .exc x st'=>Qkq st x st'
 | _=>.stuck
theorem Qfn {mg:Str->Option aB} {E:XK} {H:Hp} {ρ:Tk} {st st':Q2} {Q:VK} {p:PV} (R:Rel H ρ st) (h:Acc mg E H ρ (QV Q) (fin st p st')):∀ v H' ρ',Ext H ρ H' ρ'->Rel H' ρ' st'->Rep H' ρ' p v->Q v H':=fun v H' ρ' x j r=>by
 unfold fin at h
 by_cases hp:st <+: st'
 ·rw [bQ hp] at h;cases e:fz st.length st' 16 p with
  | none=>rw [e] at h; exact h.elim
  | some q=>
   rw [e] at h;obtain ⟨z,R2⟩:=Qbp R x j hp;obtain ⟨rest,B⟩:=x.pre;rw [<- R.len] at e;exact h H' ρ z R2 v (Qki (tr0:=ρ.tr) (hs:=ρ.hid) j B.symm x.hidM 16 r e)
 ·rw [bS hp] at h;exact h H' ρ' x j v r
def spF (mg:Str->Option aB) (n:Nat) (F:FN):Sp:=fun vs H Q E=>vs.length=n/\∃ ρ st ps,Rel H ρ st/\RepL H ρ ps vs/\Acc mg E H ρ (QV Q) (F ps st)
theorem Q7u {H:Hp} {ρ:Tk} {N:List Str} {ps:List PV} {vs:List V} (r:RepL H ρ ps vs):EnvR H ρ (ps.map some ++ List.replicate (N.length - ps.length) none) (L2.start N vs):=by
 have hl:=r.length;unfold L2.start;refine ⟨by simp [hl],fun i p e=>?_⟩
 by_cases hi:i < ps.length
 ·rw [O9 (by simpa using hi),E3] at e;rw [O9 (by simp; omega),E3];cases q:ps[i]? with
  | none=>rw [q] at e; cases e
  | some p'=>
   rw [q] at e;cases e;obtain ⟨v,e1,e2⟩:=r.get q;exact ⟨v,by rw [e1]; rfl,e2⟩
 ·rw [E9 (by simpa using hi),L4] at e
  split at e <;> cases e
section
variable {P:aL} {w:aK} {K:PySem.W.Frag} {mg:Str->Option aB} {base:Heap}
theorem Qtb {x qual:Str} {st:aJ} {f:aA} {fd:aM} {N ps:List Str} {k:Nat} {m:MS} (F:Fun K x qual st f fd) (S:FnScope N ps (Qf st))
  (hb:∀ (I:aB) (A:aN) (outer:List PySem.Env) (s:aC) (H:Hp) (E:XK),Room k (A.deeper (PyProof.Rows.envOfC qual (Qf st) s.heap.objs.size f I))->SimB (cxD P w K mg base N qual (Qf st) f I A outer s H E) E (Yj st) m) :
  FnOk P w K mg base (CXD P w) (k + 1) f fd ps (spF mg ps.length (Qq m N.length)):=by
 refine Fun.okD F S (fun vs H Q E h=>h.1) fun I A outer s H vs Q E hr a1=>⟨_,Q5c,?_⟩
 obtain ⟨hl,ρ,G,Y,R,rl,j⟩:=a1;refine (hb I A outer s H E hr).run _ (L2.start N vs) H ρ G _ R (Q7u rl) ?_;unfold Qq at j;cases O:m (Y.map some ++ List.replicate (N.length - Y.length) none) G with
 | rt v B=>rw [O] at j; exact Qfn R j
 | nx Γ B=>rw [O] at j; exact fun a2 H' ρ' J U G'=>Qfn R j .non H' ρ' J U rfl
 | bk Γ B=>rw [O] at j; exact j.elim
 | ct Γ B=>rw [O] at j; exact j.elim
 | stuck=>rw [O] at j; exact j.elim
 | exc y B=>
  rw [O] at j;have j:Acc mg E H ρ (QV Q) (Qkq G y B):=j;intro C Z H' ρ' hm J U hf;unfold Qkq at j
  by_cases hp:G <+: B
  ·rw [bQ hp] at j;obtain ⟨x2,R2⟩:=Qbp R J U hp;obtain ⟨cls,fs⟩:=y;cases fs with
   | none=>exact j C Z H' ρ hm x2 R2 hf
   | some np=>
    obtain ⟨nm,p⟩:=np;simp only at j;cases e:fz G.length B 16 p with
    | none=>rw [e] at j; exact j.elim
    | some q=>
     rw [e] at j;obtain ⟨rest,ht⟩:=J.pre;rw [<- R.len] at e;obtain ⟨dx,v,e1,e2,e3,e4⟩:=hf;refine j C Z H' ρ hm x2 R2 ⟨dx,v,e1,e2,fun z=>e3 (z.imp (fun z=>by rw [<- ht]; exact F6 _ z) (J.hidM dx)),Qki (tr0:=ρ.tr) (hs:=ρ.hid) U ht.symm J.hidM 16 e4 e⟩
  ·rw [bS hp] at j;exact j C Z H' ρ' hm J U hf
end
theorem J4 {P:aL} {w:aK} {K:PySem.W.Frag} {mg:Str->Option aB} {base:Heap} {x qual:Str} {st:aJ} {f:aA} {fd:aM} {N ps:List Str} {k n nl:Nat} {m:MS} {B:FN} (F:Fun K x qual st f fd) (S:FnScope N ps (Qf st)) (J:ps.length=n) (z:N.length=nl) (G:B=Qq m nl)
  (I:∀ (j:aB) (A:aN) (outer:List PySem.Env) (s:aC) (H:Hp) (E:XK),Room k (A.deeper (PyProof.Rows.envOfC qual (Qf st) s.heap.objs.size f j))->SimB (cxD P w K mg base N qual (Qf st) f j A outer s H E) E (Yj st) m) :
  FnOk P w K mg base (CXD P w) (k + 1) f fd ps (spF mg n B):=by
 subst J; subst z; subst G;exact Qtb F S I
structure DefS (P:aL) (w:aK) (K:PySem.W.Frag) (mg:Str->Option aB) (base:Heap) (k:Nat) (x:Str) (n:Nat) (F:FN):Prop where
 ex:∃ (f:aA) (fd:aM) (ps:List Str),FnOk P w K mg base (CXD P w) k f fd ps (spF mg n F)/\mg x=some (.ref f)/\PySem.W.keepIn K (.ref f)=true/\Binds K fd ps []/\ps.length=n
def Qe (n:Nat) (F:FN) (mr:Gam->Q2->Res (List PV)):ME:=fun Γ st=>(mr Γ st).bind fun ps st1=>if ps.length=n then F ps st1 else .stuck
section
variable {X:Cx} {E:XK} {k n:Nat} {x:Str} {F:FN} {p pos:Pos} {e:aD} {es:List aD} {mr:Gam->Q2->Res (List PV)}
theorem Qg (D:DefS X.prog X.w X.K X.mg X.base k x n F) (hr:Room k X.A) (Z:Q72 (CXD X.prog X.w) X E) (Y:Gl X x) (ha:SimA X E (e :: es) mr) (z:(x == ("__debug__" : Str))=false:=by decide)
  (he:aP (e :: es) X.env=(false,aQ e X.env) :: aP es X.env:=by rfl) (j:(aU pos (aP es X.env)).any (·.1)=false:=by rfl):SimE X E (.Call (.Name x p) (e :: es) [] pos) (Qe n F mr):=by
 obtain ⟨f,fd,ps,hF,hm,hk,U,hl⟩:=D.ex;exact ⟨fun Γ σ H ρ st Q R G h=>WE.of (Qez hF hr Y hm hk U .nil Z Q7c z he j) (ha.use R G h.bind fun O I H1 ρ1 vs x1 R1 G1 J h1=>by
  by_cases B:O.length=n
  ·rw [bQ B] at h1;show spF X.mg n F (vs ++ []) H1 Q E;rw [List.append_nil];exact ⟨by rw [<- J.length]; exact B,ρ1,I,O,R1,J,h1⟩
  ·rw [bS B] at h1; exact h1.elim)⟩
end
end
@[simp] theorem Zn {α β:Type} (a:α) (st:Q2) (f:α->Q2->Res β):(Res.ok a st).bind f=f a st:=rfl
@[simp] theorem Qtu {α β:Type} (f:α->Q2->Res β):(Res.stuck:Res α).bind f=.stuck:=rfl
@[simp] theorem Qwx {α β:Type} (x:Exc) (st:Q2) (f:α->Q2->Res β):(Res.exc x st:Res α).bind f=.exc x st:=rfl
@[simp] theorem Q20 {α:Type} (a:α) (st:Q2) (f:α->Q2->SR):(Res.ok a st).sbind f=f a st:=rfl
@[simp] theorem Qqu {α:Type} (f:α->Q2->SR):(Res.stuck:Res α).sbind f=.stuck:=rfl
@[simp] theorem Qu4 {α:Type} (x:Exc) (st:Q2) (f:α->Q2->SR):(Res.exc x st:Res α).sbind f=.exc x st:=rfl
@[simp] theorem Qxe (i:Nat) (Γ:Gam) (st:Q2):Q4 i Γ st=(match Γ[i]? with | some (some p)=>.ok p st | _=>.stuck):=rfl
@[simp] theorem Qyw (p:PV) (Γ:Gam) (st:Q2):mC p Γ st=.ok p st:=rfl
@[simp] theorem Qsw (o:OP) (a b:ME) (Γ:Gam) (st:Q2):mOp o a b Γ st=(a Γ st).bind fun x z=>(b Γ z).bind fun y j=>o j x y:=rfl
@[simp] theorem Qyr (b:Bool) (st:Q2):asB (.bl b) st=.ok b st:=rfl
@[simp] theorem Qrg (m:ME) (Γ:Gam) (st:Q2):toB m Γ st=(m Γ st).bind asB:=rfl
def Qn6 {α:Type} (x:PV) (A B:Res α):Res α:=match x with
 | .bl true=>A
 | .bl false=>B
 | _=>.stuck
@[simp] theorem Qx2 {α:Type} (b:Bool) (A B:Res α):Qn6 (.bl b) A B=if b=true then A else B:=by cases b <;> rfl
@[simp] theorem Qub (o o':OP) (a b c:ME) (Γ:Gam) (st:Q2):Q01 o o' a b c Γ st=(a Γ st).bind fun x G=>(b Γ G).bind fun y B=>(o B x y).bind fun k j=>Qn6 k ((c Γ j).bind fun z I=>o' I y z) (.ok (.bl false) j):=by
 unfold Q01;refine congrArg _ (funext fun x=>funext fun G=>congrArg _ (funext fun y=>funext fun B=>congrArg _ (funext fun k=>funext fun j=>?_)))
 cases k with
 | bl b=>cases b <;> rfl
 | _=>rfl
@[simp] theorem Qpp (a b:ME) (Γ:Gam) (st:Q2):Q02 a b Γ st=(a Γ st).bind fun x j=>Qn6 x (b Γ j) (.ok (.bl false) j):=by
 unfold Q02;refine congrArg _ (funext fun x=>funext fun j=>?_);cases x with
 | bl b=>cases b <;> rfl
 | _=>rfl
@[simp] theorem Qyh (a b:ME) (Γ:Gam) (st:Q2):mOr a b Γ st=(a Γ st).bind fun x j=>Qn6 x (.ok (.bl true) j) (b Γ j):=by
 unfold mOr;refine congrArg _ (funext fun x=>funext fun j=>?_);cases x with
 | bl b=>cases b <;> rfl
 | _=>rfl
@[simp] theorem Qpj (a:ME) (Γ:Gam) (st:Q2):Qk0 a Γ st=(a Γ st).bind fun x j=>(match x with | .bl k=>.ok (.bl (!k)) j | _=>.stuck):=rfl
@[simp] theorem Qxg (a:ME) (Γ:Gam) (st:Q2):Qpk a Γ st=(a Γ st).bind fun x j=>(match x with | .int k=>.ok (.int (-k)) j | _=>.stuck):=rfl
@[simp] theorem Qb5 (a b:MT) (Γ:Gam) (st:Q2):yi a b Γ st=(a Γ st).bind fun k j=>if k=true then b Γ j else .ok false j:=rfl
@[simp] theorem Qep (a b:MT) (Γ:Gam) (st:Q2):zn a b Γ st=(a Γ st).bind fun k j=>if k=true then .ok true j else b Γ j:=rfl
@[simp] theorem Qic (a:MT) (Γ:Gam) (st:Q2):W6 a Γ st=(a Γ st).bind fun k j=>.ok (!k) j:=rfl
@[simp] theorem Qxf (Γ:Gam) (st:Q2):Q8 Γ st=.ok [] st:=rfl
@[simp] theorem Qk1 (m:ME) (mr:ML) (Γ:Gam) (st:Q2):Q3 m mr Γ st=(m Γ st).bind fun p z=>(mr Γ z).bind fun ps j=>.ok (p :: ps) j:=rfl
@[simp] theorem Qpe (mr:ML) (Γ:Gam) (st:Q2):Zt mr Γ st=(mr Γ st).bind fun ps j=>if ps.length<=lim then .ok (.tup ps) j else .stuck:=rfl
@[simp] theorem Qxh (mr:ML) (Γ:Gam) (st:Q2):Q61 mr Γ st=(mr Γ st).bind fun ps j=>if ps.length<=lim then .ok (.lst ps) j else .stuck:=rfl
@[simp] theorem Qw0 (mr:ML) (Γ:Gam) (st:Q2):Qc7 mr Γ st=(mr Γ st).bind fun ps j=>if ps.length<=lim then .ok ps j else .stuck:=rfl
@[simp] theorem Qjz (m:ME) (l h:Gam->Q2->Res (Option Int)) (Γ:Gam) (st:Q2):mSl m l h Γ st=(m Γ st).bind fun p z=>(l Γ z).bind fun lo j=>(h Γ j).bind fun hi B=>oSl B p lo hi:=rfl
@[simp] theorem Qsx (Γ:Gam) (st:Q2):Ve Γ st=.ok none st:=rfl
@[simp] theorem Qvy (m:ME) (Γ:Gam) (st:Q2):z9 m Γ st=(m Γ st).bind fun p j=>(match p with | .int i=>.ok (some i) j | _=>.stuck):=rfl
@[simp] theorem Qk2 (o:CF) (mr:ML) (Γ:Gam) (st:Q2):J1 o mr Γ st=(mr Γ st).bind fun ps j=>o j ps:=rfl
@[simp] theorem Qpm (T:String) (m:ME) (Γ:Gam) (st:Q2):Xz T m Γ st=(m Γ st).bind fun p j=>if Q0t j p=true then .stuck else .ok (.bl (isI T (dpv j p))) j:=rfl
@[simp] theorem Qwg (st:Q2):Q0t st .non=false:=rfl
@[simp] theorem Qxj (st:Q2) (b:Bool):Q0t st (.bl b)=false:=rfl
@[simp] theorem Qwi (st:Q2) (b:Int):Q0t st (.int b)=false:=rfl
@[simp] theorem Qwe (st:Q2) (b:Str):Q0t st (.str b)=false:=rfl
@[simp] theorem Qwd (st:Q2) (b:List PV):Q0t st (.tup b)=false:=rfl
@[simp] theorem Qwh (st:Q2) (b:List PV):Q0t st (.lst b)=false:=rfl
@[simp] theorem Qwj (st:Q2) (b:List PV):Q0t st (.fro b)=false:=rfl
@[simp] theorem Qwk (st:Q2):Q0t st .dic=false:=rfl
@[simp] theorem Qwf (st:Q2) (i:Nat):Q0t st (.ref i)=(match st[i]? with | some (.frd _)=>true | some (.obj _ _)=>true | _=>false):=rfl
@[simp] theorem Qxp (st:Q2):dpv st .non=.non:=rfl
@[simp] theorem Qyq (st:Q2) (b:Bool):dpv st (.bl b)=(.bl b):=rfl
@[simp] theorem Qxr (st:Q2) (b:Int):dpv st (.int b)=(.int b):=rfl
@[simp] theorem Qxn (st:Q2) (b:Str):dpv st (.str b)=(.str b):=rfl
@[simp] theorem Qxm (st:Q2) (b:List PV):dpv st (.tup b)=(.tup b):=rfl
@[simp] theorem Qxq (st:Q2) (b:List PV):dpv st (.lst b)=(.lst b):=rfl
@[simp] theorem Qxs (st:Q2) (b:List PV):dpv st (.fro b)=(.fro b):=rfl
@[simp] theorem Qyp (st:Q2):dpv st .dic=.dic:=rfl
@[simp] theorem Qyx (st:Q2) (i:Nat):dpv st (.ref i)=(match st[i]? with | some (.dic _)=>.dic | some (.dtp _)=>.dic | _=>.ref i):=rfl
@[simp] theorem Qpd (m:ML) (Γ:Gam) (st:Q2):Yv m Γ st=(m Γ st).bind fun ps j=>.ok (.lst ps) j:=rfl
@[simp] theorem Qpf (m:ML) (Γ:Gam) (st:Q2):Q3d m Γ st=(m Γ st).bind fun ps j=>.ok (.ref j.length) (j ++ [.lst ps]):=rfl
@[simp] theorem Qh4 (cap:List (Option Nat)) (ga:GA) (mi:MI) (mt:MT) (me:ME) (Γ:Gam) (st:Q2):Jk cap ga mi mt me Γ st=(mi Γ st).bind fun z j=>noX (Jh ga mt me z.2 (Z4 cap Γ) z.1 j):=rfl
@[simp] theorem Qvx (Γ:Gam) (st:Q2):Jv Γ st=.ok true st:=rfl
@[simp] theorem Q8b (n:Nat) (F:FN) (mr:ML) (Γ:Gam) (st:Q2):Qe n F mr Γ st=(mr Γ st).bind fun ps j=>if ps.length=n then F ps j else .stuck:=rfl
@[simp] theorem Qvz (Γ:Gam) (st:Q2):Jt Γ st=.nx Γ st:=rfl
@[simp] theorem qw (a b:MS) (Γ:Gam) (st:Q2):Qh a b Γ st=(match a Γ st with | .nx Γ1 j=>b Γ1 j | r=>r):=rfl
@[simp] theorem Q62 (m:ME) (Γ:Gam) (st:Q2):Xj m Γ st=(m Γ st).sbind fun _ j=>.nx Γ j:=rfl
@[simp] theorem Qpi (m:ME) (Γ:Gam) (st:Q2):Jz m Γ st=(m Γ st).sbind fun p j=>.rt p j:=rfl
@[simp] theorem Qpg (i:Nat) (m:ME) (Γ:Gam) (st:Q2):Jm i m Γ st=(m Γ st).sbind fun p j=>.nx (Γ.set i (some p)) j:=rfl
@[simp] theorem Qaa (c:MT) (a b:MS) (Γ:Gam) (st:Q2):Zc c a b Γ st=(c Γ st).sbind fun k j=>if k=true then a Γ j else b Γ j:=rfl
@[simp] theorem Qpn (ga:GA) (mi:MI) (b:MS) (Γ:Gam) (st:Q2):y4 ga mi b Γ st=(mi Γ st).sbind fun z j=>U6 ga b z.2 z.1 Γ j:=rfl
@[simp] theorem Qph (m:ME) (Γ:Gam) (st:Q2):V4 m Γ st=(m Γ st).bind fun p j=>(match U1 j p with | some (xs,w)=>if xs.length<=lim then .ok (xs,w) j else .stuck | none=>.stuck):=rfl
@[simp] theorem Q60 (mr:ML) (Γ:Gam) (st:Q2):Z2 mr Γ st=(mr Γ st).bind fun ps z=>(match ps with | [.int j]=>if -(lim:Int)<=j/\j<=lim then .ok (Zs 0 j.toNat,[]) z else .stuck | _=>.stuck):=rfl
@[simp] theorem Qxd (mr:ML) (Γ:Gam) (st:Q2):Qpc mr Γ st=(mr Γ st).bind fun ps j=>(match ps with | [p,q]=>(match U1 j p,U1 j q with | some (xs,w),some (ys,z)=>if xs.length<=lim then .ok (Q4t xs ys,w ++ z) j else .stuck | _,_=>.stuck) | _=>.stuck):=rfl
@[simp] theorem Qsy (f:MF) (mo:ME) (mr:ML) (Γ:Gam) (st:Q2):mBM f mo mr Γ st=(mo Γ st).bind fun p j=>(match listOf j p with | some _=>(mr Γ j).bind fun ps z=>f z p ps | none=>.stuck):=rfl
@[simp] theorem Qh3 (mo mi m:ME) (Γ:Gam) (st:Q2):X3 mo mi m Γ st=(m Γ st).sbind fun p G=>(mo Γ G).sbind fun o j=>(mi Γ j).sbind fun i B=>(match yw B o i p with | some z=>.nx Γ z | none=>.stuck):=rfl
@[simp] theorem Qu8 (x:Str) (m:ME) (Γ:Gam) (st:Q2):jm x m Γ st=(m Γ st).sbind fun _ j=>.exc ⟨x,none⟩ j:=rfl
@[simp] theorem Qud (i:Nat) (p:PV) (Γ:Gam):Qb i p Γ=some (Γ.set i (some p)):=rfl
@[simp] theorem Qwa (Γ:Gam):Q41 [] Γ=some Γ:=rfl
@[simp] theorem Que (g:GA) (gs:GAs) (p:PV) (r:List PV) (Γ:Gam):K1 g gs (p :: r) Γ=(g p Γ).bind (gs r):=rfl
@[simp] theorem Qw9 (gs:GAs) (ps:List PV) (Γ:Gam):Q40 gs (.tup ps) Γ=gs ps Γ:=rfl
@[simp] theorem Qyc {α:Type} (a:α) (st:Q2):noX (Res.ok a st)=.ok a st:=rfl
@[simp] theorem Qu7 {α:Type}:noX (Res.stuck:Res α)=.stuck:=rfl
@[simp] theorem Qc2 {α:Type} (st:Q2) (a:α):okO st (some a)=.ok a st:=rfl
@[simp] theorem Qvm {α:Type} (st:Q2):okO st (none:Option α)=.stuck:=rfl
@[simp] theorem Qyv (g:Int->Int->PV) (st:Q2) (a b:Int):oI g st (.int a) (.int b)=.ok (g a b) st:=rfl
@[simp] theorem Qvt (st:Q2) (a b:Int):Zb st (.int a) (.int b)=.ok (.int (a + b)) st:=rfl
@[simp] theorem Qvs (st:Q2) (a b:List PV):Zb st (.tup a) (.tup b)=if a.length + b.length<=lim then .ok (.tup (a ++ b)) st else .stuck:=rfl
@[simp] theorem Qvq (st:Q2) (a b:Int):xw st (.int a) (.int b)=if (-(2 ^ 64) < a/\a < 2 ^ 64)\/(-(2 ^ 64) < b/\b < 2 ^ 64) then .ok (.int (a * b)) st else .stuck:=rfl
@[simp] theorem Qvp (st:Q2) (xs:List PV) (b:Int):xw st (.tup xs) (.int b)=if xs≠[]/\1<=b/\xs.length * b.toNat<=4096 then .ok (.tup (List.replicate b.toNat xs).flatten) st else .stuck:=rfl
@[simp] theorem Qvr (st:Q2) (a b:Int):Q0r st (.int a) (.int b)=if 0 < b then .ok (.int (a % b)) st else .stuck:=rfl
@[simp] theorem Qvn (st:Q2) (a b:Int):Q5q st (.int a) (.int b)=if 0<=b/\b<=1000000/\a.natAbs < 2 ^ 64 then .ok (.int (a ^ b.toNat)) st else .stuck:=rfl
@[simp] theorem Qx7 (st:Q2) (a b:Int):oLt st (.int a) (.int b)=.ok (.bl (decide (a < b))) st:=rfl
@[simp] theorem Qxc (st:Q2) (a b:Int):oEq st (.int a) (.int b)=.ok (.bl (a == b)) st:=rfl
@[simp] theorem Qx6 (st:Q2) (a b:Int):oNe st (.int a) (.int b)=.ok (.bl (!(a == b))) st:=rfl
@[simp] theorem Qyb (st:Q2) (a b:Bool):oEq st (.bl a) (.bl b)=.ok (.bl (a == b)) st:=rfl
@[simp] theorem Qy9 (st:Q2) (a b:Bool):oNe st (.bl a) (.bl b)=.ok (.bl (!(a == b))) st:=rfl
@[simp] theorem Qxb (st:Q2) (a b:Str):oEq st (.str a) (.str b)=.ok (.bl (a == b)) st:=rfl
@[simp] theorem Qx5 (st:Q2) (a b:Str):oNe st (.str a) (.str b)=.ok (.bl (!(a == b))) st:=rfl
@[simp] theorem Qxa (st:Q2) (p:PV):oIs st p .non=.ok (.bl (Qcj p)) st:=rfl
@[simp] theorem Qya (st:Q2) (a b:Bool):oIs st (.bl a) (.bl b)=.ok (.bl (a == b)) st:=rfl
@[simp] theorem Qsn (st:Q2) (p:PV):Q5r st p .non=.ok (.bl (!Qcj p)) st:=rfl
@[simp] theorem Qu5 (st:Q2) (a b:Bool):Q5r st (.bl a) (.bl b)=.ok (.bl (a != b)) st:=rfl
@[simp] theorem Quc (st:Q2) (xs:List PV):Q0x st (.lst xs)=some xs:=rfl
@[simp] theorem Qe4 (st:Q2) (xs:List PV):listOf st (.lst xs)=some xs:=rfl
@[simp] theorem Qt0 (st:Q2) (xs:List PV):listOf st (.fro xs)=some xs:=rfl
@[simp] theorem Q2v (st:Q2) (xs:List PV):Kb st (.lst xs)=some xs:=rfl
@[simp] theorem Qu3 (st:Q2) (xs:List PV):Kb st (.fro xs)=some xs:=rfl
@[simp] theorem Q80 (st:Q2) (xs:List PV):Kb st (.tup xs)=some xs:=rfl
@[simp] theorem Qu1 (st:Q2) (xs:List PV):U1 st (.lst xs)=some (xs,[]):=rfl
@[simp] theorem Qu2 (st:Q2) (xs:List PV):U1 st (.fro xs)=some (xs,[]):=rfl
@[simp] theorem Qu0 (st:Q2) (xs:List PV):U1 st (.tup xs)=some (xs,[]):=rfl
@[simp] theorem Qf4 (st:Q2) (xs:List PV) (i:Int):oIx st (.tup xs) (.int i)=okO st (atI xs i):=rfl
@[simp] theorem Qx8 (st:Q2) (xs:List PV) (i:Int):oIx st (.lst xs) (.int i)=okO st (atI xs i):=rfl
@[simp] theorem Qx9 (st:Q2) (xs:List PV) (i:Int):oIx st (.fro xs) (.int i)=okO st (atI xs i):=rfl
@[simp] theorem Q0g (st:Q2) (xs:List PV) (l h:Option Int):oSl st (.tup xs) l h=.ok (.tup (cut xs l h)) st:=rfl
@[simp] theorem Qx3 (st:Q2) (xs:List PV) (l h:Option Int):oSl st (.lst xs) l h=.ok (.lst (cut xs l h)) st:=rfl
@[simp] theorem Qx4 (st:Q2) (xs:List PV) (l h:Option Int):oSl st (.fro xs) l h=.ok (.lst (cut xs l h)) st:=rfl
@[simp] theorem Qwu (st:Q2) (xs:List PV):Zf st [.tup xs]=.ok (.int xs.length) st:=rfl
@[simp] theorem Qwv (st:Q2) (xs:List PV):Zf st [.lst xs]=.ok (.int xs.length) st:=rfl
@[simp] theorem Qm6 (st:Q2) (xs:List PV):Zf st [.fro xs]=.ok (.int xs.length) st:=rfl
@[simp] theorem Qtm (st:Q2) (xs:List PV):Wd st [.tup xs]=.ok (.tup xs) st:=rfl
@[simp] theorem Qtn (st:Q2) (xs:List PV):Wd st [.lst xs]=.ok (.tup xs) st:=rfl
@[simp] theorem Q08 (g:List Bool->PV) (st:Q2) (bs:List Bool):qc g st [.lst (bs.map .bl)]=.ok (g bs) st:=by
 simp only [qc,Q2v,Option.bind_some,Qqi]
@[simp] theorem Q8u (g:List Int->Option PV) (st:Q2) (ns:List Int):W4 g st [.lst (ns.map .int)]=okO st (g ns):=by
 simp only [W4,Q2v,Option.bind_some,Qck]
@[simp] theorem Q8t (g:List Int->Option PV) (st:Q2) (ns:List Int):W4 g st [.tup (ns.map .int)]=okO st (g ns):=by
 simp only [W4,Q80,Option.bind_some,Qck]
@[simp] theorem Qm5 (st:Q2) (a b:Int):Qqd st [.int a,.int b]=.ok (.int (if b > a then b else a)) st:=rfl
@[simp] theorem Qwt (st:Q2) (a b:Int):Qhx st [.int a,.int b]=.ok (.int (if b < a then b else a)) st:=rfl
@[simp] theorem Qui (st:Q2):wOk [] st=True:=by simp [wOk]
@[simp] theorem Yg (st:Q2) (b:Bool):fin st (.bl b) st=.ok (.bl b) st:=by simp [fin,fz]
@[simp] theorem Qq5 (st:Q2) (b:Int):fin st (.int b) st=.ok (.int b) st:=by simp [fin,fz]
@[simp] theorem Qq4 (st:Q2):fin st .non st=.ok .non st:=by simp [fin,fz]
@[simp] theorem Qxk (st:Q2) (b:Str):fin st (.str b) st=.ok (.str b) st:=by simp [fin,fz]
theorem X6 {st:Q2} {v:PV} (g:Jw 12 v=true):fin st v st=.ok v st:=by
 simp only [fin,List.prefix_rfl,if_true,yb g (by decide:12 < 16),Qc2]
theorem Qhi {st more:Q2} {v:PV} (g:Jw 12 v=true):fin st v (st ++ more)=.ok v st:=by
 simp only [fin,List.prefix_append,if_true,yb g (by decide:12 < 16),Qc2]
theorem Jr:lim=1000000:=rfl
theorem Z3 {α:Type} (g f:α->PV) {ga:GA} {me:ME} {w:Wt} {Γ0:Gam} {st:Q2} (B:wOk w st) {ys:List α} (h:∀ y∈ys,∃ Γ1,ga (g y) Γ0=some Γ1/\me Γ1 st=.ok (f y) st):Jh ga Jv me w Γ0 (ys.map g) st=.ok (ys.map f) st:=by
 induction ys with
 | nil=>simp [Jh,B]
 | cons y ys j=>
  obtain ⟨Γ1,h1,h2⟩:=h y O8;have j:=j fun z G=>h z (O5 _ G)
  rw [D2,Jh,bQ B,h1];simp [h2,j]
theorem Wn {α:Type} (g f:α->PV) (t:α->Bool) {ga:GA} {mt:MT} {me:ME} {w:Wt} {Γ0:Gam} {st:Q2} (B:wOk w st) {ys:List α} (h:∀ y∈ys,∃ Γ1,ga (g y) Γ0=some Γ1/\mt Γ1 st=.ok (t y) st/\(t y=true->me Γ1 st=.ok (f y) st)):Jh ga mt me w Γ0 (ys.map g) st=.ok ((ys.filter t).map f) st:=by
 induction ys with
 | nil=>simp [Jh,B]
 | cons y ys j=>
  obtain ⟨Γ1,h1,h2,G⟩:=h y O8;have j:=j fun z I=>h z (O5 _ I)
  rw [D2,Jh,bQ B,h1];simp only [h2,Zn,j];cases tx:t y with
  | true=>simp [G tx,tx,j]
  | false=>simp [tx]
@[simp] theorem Qww {α:Type} (g:List Bool->PV) (st:Q2) (ys:List α) (b:α->Bool):qc g st [.lst (ys.map fun y=>.bl (b y))]=.ok (g (ys.map b)) st:=by
 rw [show (ys.map fun y=>PV.bl (b y))=(ys.map b).map .bl by rw [D8]; rfl,Q08]
@[simp] theorem Q3q {α:Type} (g:List Int->Option PV) (st:Q2) (ys:List α) (b:α->Int):W4 g st [.lst (ys.map fun y=>.int (b y))]=okO st (g (ys.map b)):=by
 rw [show (ys.map fun y=>PV.int (b y))=(ys.map b).map .int by rw [D8]; rfl,Q8u]
theorem Q04 {α:Type} (g:α->PV) (J:Gam->Prop) (B:α->Bool) (v:PV) {ga:GA} {body:MS} {w:Wt} {st:Q2} (U:wOk w st):∀ {xs:List α},(∀ x∈xs,∀ Γ,J Γ->∃ Γ1,ga (g x) Γ=some Γ1/\(B x=true->∃ j,J j/\body Γ1 st=.nx j st)/\(B x=false->body Γ1 st=.rt v st)) ->
  ∀ Γ,J Γ->(xs.all B=true->∃ G,J G/\U6 ga body w (xs.map g) Γ st=.nx G st)/\(xs.all B=false->U6 ga body w (xs.map g) Γ st=.rt v st)
 | [],_,Γ,O=>⟨fun _=>⟨Γ,O,by simp [U6,U]⟩,fun h=>by simp at h⟩
 | x :: xs,h,Γ,O=>by
  obtain ⟨Γ1,h1,h2,Y⟩:=h x O8 Γ O;rw [D2,U6,bQ U,h1];cases I:B x with
  | false=>
   refine ⟨fun z=>by simp [I] at z,fun _=>?_⟩;simp only [Y I]
  | true=>
   obtain ⟨j,j2,e2⟩:=h2 I;have ih:=Q04 g J B v (ga:=ga) (body:=body) U (xs:=xs) (fun y Z=>h y (O5 _ Z)) j j2
   simp only [e2,List.all_cons,I,Bool.true_and];exact ih
theorem U5 {α:Type} (g:α->PV) {xs:List α} (I:Nat->Gam->Q2->Prop) {ga:GA} {body:MS} {w:Wt} (O:∀ i Γ st,I i Γ st->wOk w st)
  (h:∀ (i:Nat) x Γ st,xs[i]?=some x->I i Γ st->∃ Γ1,ga (g x) Γ=some Γ1/\∃ G B,body Γ1 st=.nx G B/\I (i + 1) G B) {Γ:Gam} {st:Q2} (J:I 0 Γ st):∃ j st',U6 ga body w (xs.map g) Γ st=.nx j st'/\I xs.length j st':=by
 induction xs generalizing I Γ st with
 | nil=>exact ⟨Γ,st,by simp [U6,O 0 Γ st J],J⟩
 | cons x xs Y=>
  obtain ⟨Γ1,h1,G,B,e2,Z⟩:=h 0 x Γ st rfl J;obtain ⟨j,st',e3,i3⟩:=Y (fun i=>I (i + 1)) (fun i Γ st z=>O (i + 1) Γ st z) (fun i y Γ st U z=>h (i + 1) y Γ st (by simpa using U) z) Z
  refine ⟨j,st',?_,i3⟩;rw [D2,U6,bQ (O 0 Γ st J),h1];simp only [e2];exact e3
theorem Qax {α β:Type} (f:α->PV) (g:β->PV) (xs:List α) (ys:List β):Q4t (xs.map f) (ys.map g)=(xs.zip ys).map fun z=>.tup [f z.1,g z.2]:=by
 rw [Q92,List.zip_map,D8]; rfl
theorem ye {α:Type} (f:α->PV) (xs:List α) (i:Int):atI (xs.map f) i=(atI xs i).map f:=by
 unfold atI;rw [O0];cases ixN xs.length i with
 | none=>rfl
 | some j=>simp [E3]
theorem atI_get {α:Type} {xs:List α} {i:Nat} {x:α} (h:xs[i]?=some x):atI xs (i:Int)=some x:=by
 have hl:=(O2.mp h).1;unfold atI ixN;rw [bQ (by omega),bQ (by omega)];simpa using h
theorem Q0k {α:Type} (f:α->PV) (xs:List α) (l h:Option Int):cut (xs.map f) l h=(cut xs l h).map f:=by
 unfold cut;rw [O0,<- List.map_drop,<- List.map_take]
theorem Zx (n:Nat):Zs 0 n=(List.range n).map fun (k:Nat)=>PV.int (k:Int):=by
 unfold Zs;refine List.map_congr_left fun k _=>?_
 rw [Int.zero_add]
@[simp] theorem Qxv {α:Type} (st l:List α) (c:α):(st ++ c :: l)[st.length]?=some c:=by
 rw [E9 (O6 _),Nat.sub_self]; rfl
@[simp] theorem Qx1 {α:Type} (st l:List α) (c d:α):(st ++ c :: d :: l)[st.length + 1]?=some d:=by
 rw [E9 (by omega)];rw [show st.length + 1 - st.length=1 by omega]; rfl
@[simp] theorem Qxu {α:Type} (st l:List α) (c d:α):(st ++ c :: l).set st.length d=st ++ d :: l:=by
 rw [List.set_append_right _ _ (O6 _),Nat.sub_self]; rfl
@[simp] theorem Qx0 {α:Type} (st l:List α) (c j d:α):(st ++ c :: j :: l).set (st.length + 1) d=st ++ c :: d :: l:=by
 rw [List.set_append_right _ _ (by omega),show st.length + 1 - st.length=1 by omega]; rfl
@[simp] theorem Qxt (st:Q2) (i:Nat) (g:List PV->Option (PV × List PV)):chg st (.ref i) g=(match st[i]? with | some (.lst xs)=>(match g xs with | some (r,ys)=>.ok r (st.set i (.lst ys)) | none=>.stuck) | _=>.stuck):=rfl
@[simp] theorem Qxi (st:Q2) (i:Nat):Q0x st (.ref i)=(match st[i]? with | some (.lst xs)=>some xs | _=>none):=rfl
@[simp] theorem Qw2 (st:Q2) (i:Nat):listOf st (.ref i)=(match st[i]? with | some (.lst xs)=>some xs | _=>none):=rfl
@[simp] theorem Q4h (st:Q2) (i:Nat):Kb st (.ref i)=(match st[i]? with | some (.lst xs)=>some xs | _=>none):=rfl
@[simp] theorem Qn0 (st:Q2) (i:Nat):U1 st (.ref i)=(match st[i]? with | some (.lst xs)=>some (xs,[(i,.lst xs)]) | _=>none):=rfl
@[simp] theorem Qr3 (st:Q2) (p y:PV):qu st p [y]=chg st p fun xs=>if xs.length < lim then some (.non,xs ++ [y]) else none:=rfl
@[simp] theorem Qws (st:Q2) (i:Nat):Wd st [.ref i]=(match st[i]? with | some (.lst xs)=>.ok (.tup xs) st | _=>.stuck):=by
 unfold Wd; simp only [Q4h];cases st[i]? with
 | none=>rfl
 | some c=>cases c <;> rfl
@[simp] theorem Qtp (st:Q2) (i:Nat):Zf st [.ref i]=(match st[i]? with | some (.lst xs)=>.ok (.int xs.length) st | _=>.stuck):=by
 unfold Zf; simp only [Q4h];cases st[i]? with
 | none=>rfl
 | some c=>cases c <;> rfl
@[simp] theorem Q3w (st:Q2) (i:Nat) (j:Int):oIx st (.ref i) (.int j)=(match st[i]? with | some (.lst xs)=>okO st (atI xs j) | _=>.stuck):=by
 unfold oIx; simp only [Q4h];cases st[i]? with
 | none=>rfl
 | some c=>cases c <;> rfl
@[simp] theorem Q9c (st:Q2) (k:Nat) (j:Int) (p:PV):yw st (.ref k) (.int j) p=(match st[k]? with | some (.lst xs)=>(ixN xs.length j).map fun n=>st.set k (.lst (xs.set n p)) | _=>none):=rfl
theorem Q3n {α:Type} (xs:List α) (k:Nat):cut xs none (some (k:Int))=xs.take k:=by
 unfold cut;rw [HT.sIx_none,HT.sIx_nat,List.drop_zero,Nat.sub_zero];rcases Nat.le_total k xs.length with h | h
 ·rw [Nat.min_eq_left h]
 ·rw [Nat.min_eq_right h,List.take_length,List.take_of_length_le h]
theorem Q06 {α:Type} (xs:List α) (k:Nat):cut xs (some (k:Int)) none=xs.drop k:=by
 unfold cut;rw [HT.sIx_none,HT.sIx_nat];rcases Nat.le_total k xs.length with h | h
 ·rw [Nat.min_eq_left h,List.take_of_length_le (by rw [List.length_drop]; omega)]
 ·rw [Nat.min_eq_right h,List.drop_length,List.drop_of_length_le h]; simp
theorem qd {α:Type} {l:List α} {j:Nat} (h:j < l.length) (d:α):l[j]?=some (l.getD j d):=by
 rw [List.getD,O3 h]; rfl
def ListAt (st:Q2) (V:PV) (xs:List PV):Prop:=V=.lst xs\/V=.fro xs\/∃ i,V=.ref i/\st[i]?=some (.lst xs)
theorem ListAt.ix {st:Q2} {V:PV} {xs:List PV} (h:ListAt st V xs) (j:Int):oIx st V (.int j)=okO st (atI xs j):=by
 rcases h with rfl | rfl | ⟨i,rfl,e⟩
 ·rfl
 ·rfl
 ·rw [Q3w,e]
theorem ListAt.len {st:Q2} {V:PV} {xs:List PV} (h:ListAt st V xs):Zf st [V]=.ok (.int xs.length) st:=by
 rcases h with rfl | rfl | ⟨i,rfl,e⟩
 ·rfl
 ·rfl
 ·rw [Qtp,e]
theorem ListAt.src {st:Q2} {V:PV} {xs:List PV} (h:ListAt st V xs):∃ w,U1 st V=some (xs,w)/\wOk w st:=by
 rcases h with rfl | rfl | ⟨i,rfl,e⟩
 ·exact ⟨[],rfl,by simp⟩
 ·exact ⟨[],rfl,by simp⟩
 ·exact ⟨[(i,.lst xs)],by rw [Qn0,e],by simp [wOk,e]⟩
theorem Qhq {α:Type} (g:α->PV) {xs:List α} (I:Nat->List PV->Q2->Prop) {ga:GA} {me:ME} {w:Wt} {Γ0:Gam} (B:∀ i out st,I i out st->wOk w st)
  (h:∀ (i:Nat) x out st,xs[i]?=some x->I i out st->∃ Γ1,ga (g x) Γ0=some Γ1/\∃ v j,me Γ1 st=.ok v j/\I (i + 1) (out ++ [v]) j) {st:Q2} (J:I 0 [] st):∃ out st',Jh ga Jv me w Γ0 (xs.map g) st=.ok out st'/\I xs.length out st':=by
 have z:∀ (ys:List α) (k:Nat) (pre:List PV) (st:Q2),(∀ i,ys[i]?=xs[k + i]?)->k + ys.length=xs.length->I k pre st->∃ out st',Jh ga Jv me w Γ0 (ys.map g) st=.ok out st'/\I xs.length (pre ++ out) st':=by
  intro ys
  induction ys with
  | nil=>
   intro k pre st e e2 i;refine ⟨[],st,by simp [Jh,B k pre st i],?_⟩;rw [List.append_nil,<- e2]; exact i
  | cons y ys O=>
   intro k pre st e e2 i;have U:xs[k]?=some y:=by have:=e 0; simpa using this.symm
   obtain ⟨Γ1,h1,v,j,h2,Y⟩:=h k y pre st U i;obtain ⟨out,st',G,Z⟩:=O (k + 1) (pre ++ [v]) j (fun i=>by
    have:=e (i + 1);rw [List.getElem?_cons_succ] at this;rw [this]; congr 1; omega) (by rw [<- e2,F4]; omega) Y
   refine ⟨v :: out,st',?_,by simpa using Z⟩;rw [D2,Jh,bQ (B k pre st i),h1];simp [Jv,h2,G]
 obtain ⟨out,st',h1,h2⟩:=z xs 0 [] st (fun i=>by simp) (by simp) J;exact ⟨out,st',h1,by simpa using h2⟩
theorem Qpw {n k:Nat} (h:k < n):ixN n (k:Int)=some k:=by
 unfold ixN;rw [bQ (by omega),bQ (by omega)];simp
theorem Q0f:∀ {xs:List PV},(∀ x∈xs,peq x x=true)->Xh xs xs=true
 | [],_=>rfl
 | x :: xs,h=>by
  rw [Xh,h x O8,Q0f fun y j=>h y (O5 _ j)]; rfl
theorem jx:∀ {n:Nat} {p:PV},Jw n p=true->peq p p=true
 | n,.non,_=>rfl
 | n,.bl b,_=>by simp [peq]
 | n,.int b,_=>by simp [peq]
 | n,.str b,_=>by simp [peq]
 | n,.ref _,g=>by cases n <;> simp [Jw] at g
 | n,.dic,g=>by cases n <;> simp [Jw] at g
 | 0,.tup _,g=>by simp [Jw] at g
 | 0,.lst _,g=>by simp [Jw] at g
 | 0,.fro _,g=>by simp [Jw] at g
 | n + 1,.tup xs,g=>by
  rw [peq]; refine Q0f fun x j=>jx (n:=n) ?_
  simp [Jw] at g; exact g x j
 | n + 1,.lst xs,g=>by
  rw [peq]; refine Q0f fun x j=>jx (n:=n) ?_
  simp [Jw] at g; exact g x j
 | n + 1,.fro xs,g=>by
  rw [peq]; refine Q0f fun x j=>jx (n:=n) ?_
  simp [Jw] at g; exact g x j
section
variable {X:Cx} {E:XK} {a b:aD} {ma mb:ME} {pos:Pos}
end
def yn (body:MS) (nl:Nat):FN:=fun ps st=>match body (ps.map some ++ List.replicate (nl - ps.length) none) st with
 | .rt v st'=>.ok v st'
 | .nx _ st'=>.ok .non st'
 | .exc x st'=>.exc x st'
 | _=>.stuck
section
variable {P:aL} {w:aK} {K:PySem.W.Frag} {mg:Str->Option aB} {base:Heap}
theorem Qq3 {x qual:Str} {st:aJ} {f:aA} {fd:aM} {N ps:List Str} {k:Nat} {m:MS} (F:Fun K x qual st f fd) (S:FnScope N ps (Qf st))
  (Y:∀ (z:aB) (A:aN) (outer:List PySem.Env) (s:aC) (H:Hp) (E:XK),Room k (A.deeper (PyProof.Rows.envOfC qual (Qf st) s.heap.objs.size f z))->SimB (cxD P w K mg base N qual (Qf st) f z A outer s H E) E (Yj st) m) :
  FnOk P w K mg base (CXD P w) (k + 1) f fd ps (spF mg ps.length (yn m N.length)):=by
 refine Fun.okD F S (fun vs H Q E h=>h.1) fun z A outer s H vs Q E Z O=>⟨_,Q5c,?_⟩
 obtain ⟨hl,ρ,I,J,R,rl,j⟩:=O;refine (Y z A outer s H E Z).run _ (L2.start N vs) H ρ I _ R (Q7u rl) ?_;unfold yn at j;cases G:m (J.map some ++ List.replicate (N.length - J.length) none) I with
 | rt v B=>rw [G] at j; exact fun v H' ρ' x U r=>j H' ρ' x U v r
 | nx Γ B=>rw [G] at j; exact fun a1 H' ρ' x' U G'=>j H' ρ' x' U .non rfl
 | bk Γ B=>rw [G] at j; exact j.elim
 | ct Γ B=>rw [G] at j; exact j.elim
 | stuck=>rw [G] at j; exact j.elim
 | exc y B=>rw [G] at j; exact j
end
theorem Q6j {P:aL} {w:aK} {K:PySem.W.Frag} {mg:Str->Option aB} {base:Heap} {x qual:Str} {st:aJ} {f:aA} {fd:aM} {N ps:List Str} {k n nl:Nat} {m:MS} {B:FN} (F:Fun K x qual st f fd) (S:FnScope N ps (Qf st)) (J:ps.length=n) (z:N.length=nl) (G:B=yn m nl)
  (I:∀ (j:aB) (A:aN) (outer:List PySem.Env) (s:aC) (H:Hp) (E:XK),Room k (A.deeper (PyProof.Rows.envOfC qual (Qf st) s.heap.objs.size f j))->SimB (cxD P w K mg base N qual (Qf st) f j A outer s H E) E (Yj st) m) :
  FnOk P w K mg base (CXD P w) (k + 1) f fd ps (spF mg n B):=by
 subst J; subst z; subst G;exact Qq3 F S I
end Sm
namespace Sm
open PySem PySem.Spec PyProof.Rows L2
section
variable {X:Cx} {E:XK} {pos:Pos} {a b:aD} {ma mb:ME}
end
end Sm
namespace Sm
open PySem PySem.Spec L2
section
variable {X:Cx} {E:XK} {pos:Pos} {e:aD} {m:ME}
end
section
end
section
variable {X:Cx} {E:XK} {pos dpos:Pos} {e1 e2 e3 i:aD} {m1 m2 m3 mi:ME} {k1 k2 k3:Str} {j1 j2 j3:Nat} {q1 q2 q3:Pos}
end
section
variable {X:Cx} {E:XK} {pos:Pos} {e:aD} {m:ME}
end
theorem Qev {k:Nat} {A:aN} (r:Room k A):A.units + 1 < aW:=by have:=r.un; omega
section
variable {X:Cx} {E:XK}
end
section
variable {H0 H:Hp} {ρ0 ρ:Tk} {st:Q2} {a:aA} {ps:List (Key × PV)} {vs:List (Key × V)}
end
def Qce:PV->Option Key
 | .int i=>some (.inl i)
 | .str x=>some (.inr x)
 | _=>none
theorem Qnc {H:Hp} {ρ:Tk} {p:PV} {v:V} {k:Key} (e:Qce p=some k) (r:Rep H ρ p v):v=kV k:=by
 cases p with
 | int i=>cases e; exact r
 | str x=>cases e; exact r
 | _=>cases e
section
variable {X:Cx} {E:XK} {pos dpos apos cpos:Pos} {e e1 e2 e3 i o f:aD} {m m1 m2 m3 mi mo mf:ME} {k1 k2 k3:Str} {j1 j2 j3:Nat} {q1 q2 q3:Pos}
end
section
variable {X:Cx} {E:XK} {pos dpos tpos:Pos} {e i o k:aD} {m mi mo mk:ME}
end
section
variable {X:Cx} {E:XK} {pos dpos tpos:Pos} {e i o k:aD} {m mi mo mk:ME} {tg:aD}
end
def qy:List PV->Option (List Int)
 | []=>some []
 | .int i :: xs=>(qy xs).map (i :: ·)
 | _ :: _=>none
def Q4y:List PV->Option (List (List Int))
 | []=>some []
 | .tup ys :: xs=>match qy ys with
  | some (n :: ns)=>(Q4y xs).map ((n :: ns) :: ·)
  | _=>none
 | _ :: _=>none
def Q7 (ns:List Int):PV:=.tup (ns.map .int)
theorem Q6f {H:Hp} {ρ:Tk}:∀ {xs:List PV} {ns:List Int} {vs:List V},qy xs=some ns->RepL H ρ xs vs->vs=ns.map V.int/\xs=ns.map PV.int
 | [],_,_,e,r=>by cases e; exact ⟨r,rfl⟩
 | .int i :: xs,ns,_,e,⟨v,t,e1,j,B⟩=>by
  have e:(qy xs).map (i :: ·)=some ns:=e;cases z:qy xs with
  | none=>rw [z] at e; cases e
  | some G=>
   rw [z] at e;cases e;obtain ⟨h1,h2⟩:=Q6f z B;have j:v=.int i:=j;exact ⟨by rw [e1,j,h1]; rfl,by rw [h2]; rfl⟩
 | .non :: _,_,_,e,_=>by cases e
 | .bl _ :: _,_,_,e,_=>by cases e
 | .str _ :: _,_,_,e,_=>by cases e
 | .tup _ :: _,_,_,e,_=>by cases e
 | .lst _ :: _,_,_,e,_=>by cases e
 | .fro _ :: _,_,_,e,_=>by cases e
 | .ref _ :: _,_,_,e,_=>by cases e
 | .dic :: _,_,_,e,_=>by cases e
theorem Qb4 {H:Hp} {ρ:Tk}:∀ {xs:List PV} {nss:List (List Int)} {vs:List V},Q4y xs=some nss->RepL H ρ xs vs->xs=nss.map Q7/\ae (fun (v:V) (ns:List Int)=>ns≠[]/\∃ a,v=.ref a/\H a=some (.tup (ns.map V.int))) vs nss
 | [],_,_,e,r=>by cases e; cases r; exact ⟨rfl,.nil⟩
 | .tup ys :: xs,nss,vs,e,⟨v,t,e1,G,I⟩=>by
  have e:(match qy ys with | some (n :: ns)=>(Q4y xs).map ((n :: ns) :: ·) | _=>none)=some nss:=e
  cases j:qy ys with
  | none=>rw [j] at e; cases e
  | some ms=>
   cases ms with
   | nil=>rw [j] at e; cases e
   | cons n ns=>
    rw [j] at e;cases z:Q4y xs with
    | none=>rw [z] at e; cases e
    | some B=>
     rw [z] at e;cases e;obtain ⟨h1,h2⟩:=Qb4 z I;obtain ⟨a,Y,rfl,J,_,U⟩:=G;obtain ⟨O,g2⟩:=Q6f j U;subst e1;exact ⟨by rw [h1,g2]; rfl,.cons ⟨by simp,a,rfl,by rw [J,O]⟩ h2⟩
 | .int _ :: _,_,_,e,_=>by cases e
 | .non :: _,_,_,e,_=>by cases e
 | .bl _ :: _,_,_,e,_=>by cases e
 | .str _ :: _,_,_,e,_=>by cases e
 | .lst _ :: _,_,_,e,_=>by cases e
 | .fro _ :: _,_,_,e,_=>by cases e
 | .ref _ :: _,_,_,e,_=>by cases e
 | .dic :: _,_,_,e,_=>by cases e
theorem Q33 {H:Hp} {ρ:Tk} {nss:List (List Int)} {vs:List V} (r:RepL H ρ (nss.map Q7) vs):∀ (j:List Nat),(∀ x∈j,x < vs.length)->RepL H ρ ((j.map fun i=>nss.getD i []).map Q7) (j.map fun i=>vs.getD i .non)
 | [],_=>rfl
 | x :: j,h=>by
  have B:=h x (by simp);have hl:=r.length;rw [O0] at hl;have e1:(nss.map Q7)[x]?=some (Q7 (nss.getD x [])):=by
   rw [E3,O3 (by omega),D6,O3 (by omega)]; rfl
  have e2:vs[x]?=some (vs.getD x .non):=by rw [D6,O3 B]; rfl
  exact RepL.cons (r.i e1 e2) (Q33 r j fun y z=>h y (O5 _ z))
section
variable {X:Cx} {E:XK}
def Q6w:CF:=fun st ps=>match ps with
 | [p]=>match listOf st p with
  | some xs=>match Q4y xs with
   | some nss=>if nss.length < 64 then .ok (.lst ((Ws nss).map Q7)) st else .stuck
   | none=>.stuck
  | none=>.stuck
 | _=>.stuck
theorem Qkv:CallS X E (.builtin "sorted") Q6w:=⟨fun H ρ st ps xs Q R U h=>by
 unfold Q6w at h
 split at h
 ·rename_i p;obtain ⟨v,rfl,r⟩:=Ye U
  split at h
  ·rename_i ys B
   split at h
   ·rename_i nss en
    split at h
    ·rename_i Y;obtain ⟨a,vs,rfl,J,j⟩:=Q2a R r B;obtain ⟨Z,g2⟩:=Qb4 en j;subst Z;have hl:=j.length;rw [O0] at hl;refine WC.of Qan ⟨a,vs,nss,rfl,.inl J,by omega,g2,fun d O hd hp G=>?_⟩;have z:=Q33 j O fun x I=>by have:=hp.mem_iff.mp I; simpa using this
     rw [G] at z;exact y1 R h z d hd
    ·exact h.elim
   ·exact h.elim
  ·exact h.elim
 ·exact h.elim⟩
end
end Sm
namespace Sm
open PySem PySem.Spec PyProof.Rows L2
section
variable {X:Cx} {E:XK}
theorem Qjr:OpR X (aV .FloorDiv) (rI (fun _ j=>0 < j/\j < 1267650600228229401496703205376) fun i j=>.int (i / j)):=opI fun i j _ _ _ _ _ z q=>by
 have h1:(0:Int) < j:=z.1;have h2:j < 1267650600228229401496703205376:=z.2;refine floordiv_int (by omega) (by rw [Int.fdiv_eq_ediv_of_nonneg i (by omega)]; exact q) (.inl (PyProof.noPylong_of_log2 ?_));have:j.natAbs.log2 < 100:=(Nat.log2_lt (by omega)).mpr (by
  rw [show (2:Nat) ^ 100=1267650600228229401496703205376 by decide];omega)
 omega
def Qf5:OP:=fun st p q=>match p,q with
 | .int a,.int b=>if 0 < b/\b < 1267650600228229401496703205376 then .ok (.int (a / b)) st else .stuck
 | _,_=>.stuck
theorem Qp2:OpS X E (aV .FloorDiv) Qf5:=⟨fun H ρ st p q x y Q R z j h=>by
 unfold Qf5 at h
 split at h
 ·cases z; cases j
  split at h
  ·rename_i B;exact WO.of Qjr ⟨_,_,rfl,rfl,B,now R h rfl⟩
  ·exact h.elim
 ·exact h.elim⟩
@[simp] theorem Qu6 (st:Q2) (a b:Int):Qf5 st (.int a) (.int b)=if 0 < b/\b < 1267650600228229401496703205376 then .ok (.int (a / b)) st else .stuck:=rfl
end
end Sm
namespace Sm
open PySem PySem.Spec L2
theorem Q09:aZ "sorted" = some (.builtin "sorted"):=by decide +kernel
section
variable {X:Cx} {E:XK} {pos apos tp:Pos} {e:aD} {m:ME} {elts:List aD} {kt:Nat}
end
def Q6b:List PV->Option (List Key)
 | []=>some []
 | p :: ps=>match Qce p with
  | some k=>(Q6b ps).map (k :: ·)
  | none=>none
theorem Q8d {H:Hp} {ρ:Tk}:∀ {ps:List PV} {ks:List Key} {vs:List V},Q6b ps=some ks->RepL H ρ ps vs->vs=ks.map kV
 | [],_,_,e,r=>by cases e; exact r
 | p :: ps,ks,_,e,⟨v,t,e1,B,G⟩=>by
  have e:(match Qce p with | some k=>(Q6b ps).map (k :: ·) | none=>none)=some ks:=e
  cases j:Qce p with
  | none=>rw [j] at e; cases e
  | some k=>
   rw [j] at e;cases z:Q6b ps with
   | none=>rw [z] at e; cases e
   | some I=>
    rw [z] at e;cases e;rw [e1,Qnc j B,Q8d z G]; rfl
def W0 (kvs:List (List Key × PV)) (k:List Key) (v:PV):List (List Key × PV):=
 if (kvs.any fun kv=>decide (kv.1=k))=true then kvs.map (fun kv=>if kv.1=k then (kv.1,v) else kv) else kvs ++ [(k,v)]
theorem Qix {H:Hp} {ρ:Tk} {kvs:List (List Key × PV)} {vs:List (List Key × V)} (r:RepD H ρ kvs vs) (k:List Key) {p:PV} {v:V} (I:Rep H ρ p v):RepD H ρ (W0 kvs k p) (Q1b vs k v):=by
 have ha:(kvs.any fun j=>decide (j.1=k))=vs.any fun j=>decide (j.1=k):=by
  have e1:(kvs.any fun j=>decide (j.1=k))=(kvs.map Prod.fst).any fun x=>decide (x=k):=by rw [List.any_map]; rfl
  have e2:(vs.any fun j=>decide (j.1=k))=(vs.map Prod.fst).any fun x=>decide (x=k):=by rw [List.any_map]; rfl
  rw [e1,e2,r.1]
 unfold W0 Q1b;rw [<- ha]
 by_cases q:(kvs.any fun j=>decide (j.1=k))=true
 ·rw [bQ q,bQ q];have B:∀ (kvs:List (List Key × PV)) (vs:List (List Key × V)),RepD H ρ kvs vs->RepD H ρ (kvs.map fun j=>if j.1=k then (j.1,p) else j) (vs.map fun j=>if j.1=k then (j.1,v) else j):=by
   intro kvs
   induction kvs with
   | nil=>
    intro vs r;cases vs with
    | nil=>exact r
    | cons _ _=>have:=r.length; cases this
   | cons a kvs Z=>
    intro vs r;cases vs with
    | nil=>have:=r.length; cases this
    | cons b vs=>
     obtain ⟨U,x,t,e,Y,r3⟩:=r;obtain ⟨e1,e2⟩:=List.cons.inj (show b.1 :: vs.map Prod.fst=a.1 :: kvs.map Prod.fst from U);obtain ⟨e3,e4⟩:=List.cons.inj (show b.2 :: vs.map Prod.snd=x :: t from e);subst e3; subst e4;obtain ⟨O,J⟩:=Z vs ⟨e2,r3⟩;rw [D2,D2]
     by_cases z:a.1=k
     ·have G:b.1=k:=e1.trans z;rw [bQ z,bQ G];exact ⟨by rw [D2,D2,O]; show b.1 :: _=a.1 :: _; rw [e1],RepL.cons I J⟩
     ·have G:¬ b.1=k:=fun h=>z (e1.symm.trans h)
      rw [bS z,bS G];exact ⟨by rw [D2,D2,O]; show b.1 :: _=a.1 :: _; rw [e1],RepL.cons Y J⟩
  exact B kvs vs r
 ·rw [bS q,bS q];refine ⟨?_,?_⟩
  ·rw [F3,F3,r.1]; rfl
  ·rw [F3,F3];exact r.2.append (RepL.cons I RepL.nil)
section
variable {X:Cx} {E:XK} {pos dpos tpos:Pos} {e i o k:aD} {m mi mo mk:ME}
def Qab:ME:=fun Γ st=>.ok (.ref st.length) (st ++ [.dtp []])
theorem Qis:SimE X E (.Dict [] [] dpos) Qab:=⟨fun Γ σ H ρ st Q R G h=>WE.of Qji fun d hd=>by
 have x:Ext H ρ (upd H d (.dT [])) (ρ.add d):=Ext.addT hd;refine h _ _ x (R.addC hd ⟨_,Qr,rfl,rfl⟩) _ ⟨d,?_,rfl⟩;show (ρ.tr ++ [d])[st.length]?=some d;rw [<- R.len,E9 (O6 _),Nat.sub_self]; rfl⟩
def Q05 (st:Q2):PV->Option (List (List Key × PV))
 | .ref i=>match st[i]? with
  | some (.dtp kvs)=>some kvs
  | _=>none
 | _=>none
theorem Q6q {H:Hp} {ρ:Tk} {st:Q2} {p:PV} {v:V} {kvs:List (List Key × PV)} (R:Rel H ρ st) (r:Rep H ρ p v) (e:Q05 st p=some kvs):∃ i a vs,p=.ref i/\v=.ref a/\ρ.tr[i]?=some a/\st[i]?=some (.dtp kvs)/\H a=some (.dT vs)/\RepD H ρ kvs vs:=by
 cases p with
 | ref i=>
  obtain ⟨a,B,rfl⟩:=r;unfold Q05 at e;cases z:st[i]? with
  | none=>simp only [z] at e; cases e
  | some c=>
   simp only [z] at e;cases c with
   | dtp j=>
    cases e;obtain ⟨b,vs,G,I,rd⟩:=R.dtp z;rw [B] at G;cases G;exact ⟨i,a,vs,rfl,rfl,B,z,I,rd⟩
   | lst xs=>cases e
   | dic xs=>cases e
   | frd xs=>cases e
   | obj C xs=>cases e
 | _=>cases e
def Q6r (st:Q2) (p q v:PV):Option Q2:=match p,q with
 | .ref n,.tup ks=>match Q05 st (.ref n),Q6b ks with
  | some kvs,some k=>if kvs.length < lim then some (st.set n (.dtp (W0 kvs k v))) else none
  | _,_=>none
 | _,_=>none
def Q63 (mo mi m:ME):MS:=fun Γ st=>(m Γ st).sbind fun v st1=>(mo Γ st1).sbind fun p st2=>(mi Γ st2).sbind fun q st3=>match Q6r st3 p q v with
 | some st4=>.nx Γ st4
 | none=>.stuck
theorem Qb7 (hu:X.A.units + 1 < aW) (he:SimE X E e m) (ho:SimE X E o mo) (hi:SimE X E i mi) (hs:swapsWith e (some (.Subscript o i tpos)) pos.line X.env=pure false:=by rfl):SimS X E (.Assign [.Subscript o i tpos] e pos) (Q63 mo mi m):=
 ⟨fun Γ σ H ρ st D R G h=>WS.of (Qns hu W8 W8 W8 hs) (he.use R G h.bind fun v a5 H1 ρ1 z x1 R1 G1 r1 h1=>ho.use R1 G1 h1.bind fun p a2 H2 a1 x x2 R2 G2 r2 h2=>hi.use R2 G2 h2.bind fun q B U j y x3 R3 G3 r3 I=>by
  cases es:Q6r B p q v with
  | none=>rw [es] at I; exact I.elim
  | some a4=>
   rw [es] at I;unfold Q6r at es
   split at es
   ·rename_i n ks
    split at es
    ·rename_i kvs k e1 e2
     split at es
     ·rename_i hl;cases es;obtain ⟨n',a,vs,en,rfl,ea,a3,O,rd⟩:=Q6q R3 (r2.ext x3) e1;cases en;obtain ⟨b,us,rfl,Z,_,ru⟩:=r3;have Y:=Q8d e2 ru;subst Y;have J:Ext U j (upd U a (.dT (Q1b vs k z))) j:=Ext.put (E7 ea) O;have rz:=(r1.ext (x2.trans x3)).ext J;have R4:Rel (upd U a (.dT (Q1b vs k z))) j (B.set n (.dtp (W0 kvs k v))):=R3.putC ea O ⟨_,Qr,Qix (rd.ext J) k rz⟩;refine ⟨a,_,rfl,DPut.t O Z (by rw [<- rd.length]; exact D4 hl Qac),I σ _ j J R4 (G3.ext J)⟩
     ·cases es
    ·cases es
   ·cases es)⟩
def Q6y:CF:=fun st ps=>match ps with
 | [p]=>match Q05 st p with
  | some kvs=>if kvs.length < 1000000 then .ok (.int (kvs.length:Nat)) st else .stuck
  | none=>.stuck
 | _=>.stuck
theorem Qqa:CallS X E (.builtin "len") Q6y:=⟨fun H ρ st ps xs Q R z h=>by
 unfold Q6y at h
 split at h
 ·rename_i p;obtain ⟨v,rfl,r⟩:=Ye z
  split at h
  ·rename_i kvs e
   split at h
   ·rename_i hl;obtain ⟨n,a,vs,rfl,rfl,_,_,j,rd⟩:=Q6q R r e;rw [rd.length] at h hl;exact WC.of Qec ⟨a,vs,rfl,j,hl,now R h rfl⟩
   ·exact h.elim
  ·exact h.elim
 ·exact h.elim⟩
def Q7k:List Key->Option (List Int)
 | []=>some []
 | .inl i :: ks=>(Q7k ks).map (i :: ·)
 | .inr _ :: _=>none
def Q6c:List (List Key × PV)->Option (List (List Int))
 | []=>some []
 | (k,_) :: r=>match Q7k k with
  | some (n :: ns)=>(Q6c r).map ((n :: ns) :: ·)
  | _=>none
theorem Qfg:∀ {ks:List Key} {ns:List Int},Q7k ks=some ns->ks=ns.map Sum.inl
 | [],_,e=>by cases e; rfl
 | .inl i :: ks,ns,e=>by
  have e:(Q7k ks).map (i :: ·)=some ns:=e;cases z:Q7k ks with
  | none=>rw [z] at e; cases e
  | some j=>rw [z] at e; cases e; rw [Qfg z]; rfl
 | .inr _ :: _,_,e=>by cases e
theorem Qcd {H:Hp} {ρ:Tk}:∀ {kvs:List (List Key × PV)} {vs:List (List Key × V)} {nss:List (List Int)},Q6c kvs=some nss->RepD H ρ kvs vs->ae (fun (p:List Key × V) (ns:List Int)=>ns≠[]/\p.1=ns.map Sum.inl) vs nss
 | [],[],_,e,_=>by cases e; exact .nil
 | [],_ :: _,_,_,r=>by have:=r.length; cases this
 | _ :: _,[],_,_,r=>by have:=r.length; cases this
 | (k,p) :: kvs,(G,v) :: vs,nss,e,r=>by
  obtain ⟨I,x,t,U,Y,J⟩:=r;obtain ⟨e1,e2⟩:=List.cons.inj (show G :: vs.map Prod.fst=k :: kvs.map Prod.fst from I);obtain ⟨e3,O⟩:=List.cons.inj (show v :: vs.map Prod.snd=x :: t from U);subst e3; subst O;have e:(match Q7k k with | some (n :: ns)=>(Q6c kvs).map ((n :: ns) :: ·) | _=>none)=some nss:=e
  cases j:Q7k k with
  | none=>rw [j] at e; cases e
  | some ms=>
   cases ms with
   | nil=>rw [j] at e; cases e
   | cons n ns=>
    rw [j] at e;cases z:Q6c kvs with
    | none=>rw [z] at e; cases e
    | some B=>
     rw [z] at e;cases e;exact .cons ⟨by simp,by rw [show (G,v).1=k from e1]; exact Qfg j⟩ (Qcd z ⟨e2,J⟩)
theorem Q82 {H:Hp} {ρ:Tk} (z:∀ b xs,H b=some (.tup xs)->b∉ρ):∀ {vs:List V} {nss:List (List Int)},ae (fun (v:V) (ns:List Int)=>∃ b,v=.ref b/\H b=some (.tup (ns.map V.int))) vs nss->RepL H ρ (nss.map Q7) vs
 | [],[],.nil=>rfl
 | v :: vs,ns :: nss,.cons ⟨b,e,j⟩ t=>by
  subst e;refine RepL.cons ⟨b,_,rfl,j,z b _ j,?_⟩ (Q82 z t);clear j t
  induction ns with
  | nil=>exact rfl
  | cons x ns B=>exact RepL.cons rfl B
def Q6x:CF:=fun st ps=>match ps with
 | [p]=>match Q05 st p with
  | some kvs=>match Q6c kvs with
   | some nss=>if nss.length < 64 then .ok (.lst ((Ws nss).map Q7)) st else .stuck
   | none=>.stuck
  | none=>.stuck
 | _=>.stuck
theorem Qms {H:Hp} {ρ:Tk} {st:Q2} (R:Rel H ρ st) (b:aA) (xs:List V) (h:H b=some (.tup xs)):b∉ρ:=fun z=>by
 rcases z with z | z
 ·obtain ⟨i,hi,e⟩:=List.getElem_of_mem z;have hs:i < st.length:=by rw [<- R.len]; exact hi
  have q:=R.cell i b st[i] (by rw [O3 hi,e]) (O3 hs);cases j:st[i] with
  | lst xs=>rw [j] at q; obtain ⟨vs,h1,_⟩:=q; rw [h] at h1; cases h1
  | dic xs=>rw [j] at q; obtain ⟨vs,h1,_⟩:=q; rw [h] at h1; cases h1
  | dtp xs=>rw [j] at q; obtain ⟨vs,h1,_⟩:=q; rw [h] at h1; cases h1
  | frd xs=>rw [j] at q; obtain ⟨vs,⟨_,h1⟩,_⟩:=q; rw [h] at h1; cases h1
  | obj C xs=>rw [j] at q; obtain ⟨vs,⟨_,h1⟩,_⟩:=q; rw [h] at h1; cases h1
 ·obtain ⟨o,h1,h2⟩:=R.hd b z;rw [h] at h1;cases h1;exact h2 xs rfl
theorem Qkx (U:X.calm=true):CallS X E (.builtin "sorted") Q6x:=⟨fun H ρ st ps xs Q R rp h=>by
 unfold Q6x at h
 split at h
 ·rename_i p;obtain ⟨v,rfl,r⟩:=Ye rp
  split at h
  ·rename_i kvs e
   split at h
   ·rename_i nss en
    split at h
    ·rename_i a1;obtain ⟨n,a,vs,rfl,rfl,_,_,I,rd⟩:=Q6q R r e;have z:=Qcd en rd;have l2:vs.length=nss.length:=Paired.length z;refine WC.of (Q7n U) ⟨a,vs,nss,rfl,I,by omega,z,fun d pp Y hd B hp G=>?_⟩;have O:=Q82 (Qms R) B;have J:Y.length=nss.length:=Paired.length B;have j:=Q33 O pp fun x Z=>by have:=hp.mem_iff.mp Z; rw [J]; simpa using this
     rw [G] at j;exact y1 R h j d hd
    ·exact h.elim
   ·exact h.elim
  ·exact h.elim
 ·exact h.elim⟩
end
section
variable {X:Cx} {E:XK}
end
section
variable {X:Cx} {E:XK} {a:aD} {ma:ME} {pos:Pos}
theorem Q5b {H:Hp} {ρ:Tk}:∀ ns:List Int,RepL H ρ (ns.map PV.int) (ns.map V.int)
 | []=>rfl
 | n :: ns=>RepL.cons rfl (Q5b ns)
end
end Sm
namespace Sm
open PySem PySem.Spec PyProof.Rows L2
section
variable {X:Cx} {E:XK}
def Qat:CF:=fun st ps=>match ps with
 | [.tup xs]=>match qy xs with
  | some ns=>if ns.length < 64 then .ok (.lst ((Up ns).map PV.int)) st else .stuck
  | none=>.stuck
 | _=>.stuck
theorem Qkw:CallS X E (.builtin "sorted") Qat:=⟨fun H ρ st ps xs Q R B h=>by
 unfold Qat at h
 split at h
 ·rename_i ys;obtain ⟨v,rfl,r⟩:=Ye B
  split at h
  ·rename_i ns en
   split at h
   ·rename_i j;obtain ⟨c,J,rfl,z,_,I⟩:=r;obtain ⟨G,_⟩:=Q6f en I;subst G;exact WC.of Qap ⟨c,ns,rfl,.inl (.inl z),j,fun d hd=>y1 R h (Q5b _) d hd⟩
   ·exact h.elim
  ·exact h.elim
 ·exact h.elim⟩
end
end Sm
namespace Sm
open PySem PySem.Spec L2 SeqAt
section
variable {X:Cx} {E:XK}
variable {o:aD} {mo:ME} {apos cpos:Pos}
end
end Sm
namespace Sm
open PySem PySem.Spec L2 SeqAt
section
variable {X:Cx} {E:XK}
variable {e o i:aD} {m mo mi:ME} {pos tpos:Pos}
end
end Sm
namespace L2
open PySem PySem.Spec PyProof.Rows
end L2
namespace Sm
open PySem PySem.Spec PyProof.Rows L2
section
variable {X:Cx} {E:XK} {pos:Pos} {e:aD} {m:ME}
end
end Sm
namespace Sm
open PySem PySem.Spec PyProof.Rows L2
section
variable {X:Cx} {E:XK} {tg:aD} {a b c:aD} {mr:ML} {p pos:Pos}
end
end Sm
namespace Sm
open PySem PySem.Spec L2
section
variable {X:Cx} {E:XK} {o:aD} {mo:ME} {apos cpos:Pos} {to:TE}
end
structure DefX (P:aL) (w:aK) (K:PySem.W.Frag) (mg:Str->Option aB) (base:Heap) (k:Nat) (x:Str) (ps:List Str) (sp:Sp):Prop where
 ex:∃ (f:aA) (fd:aM),FnOk P w K mg base (CXD P w) k f fd ps sp/\mg x=some (.ref f)/\PySem.W.keepIn K (.ref f)=true/\Binds K fd ps []
theorem Ja {H0 H:Hp} (h:Same H0 H) {p:aA} {o:HO} (hp:H p=none):Same H0 (upd H p o):=fun b u e=>by
 have:=h b u e;rw [Qn fun z=>by rw [z,hp] at this; cases this]; exact this
structure Nms (mg:Str->Option aB) (c:Nat->aA):Prop where
 m0:mg "WharfError" = some (.ref (c 0))
 m1:mg "NoTable" = some (.ref (c 1))
 m2:mg "NoHouse" = some (.ref (c 2))
 m3:mg "NoDeed" = some (.ref (c 3))
 m4:mg "NoLetter" = some (.ref (c 4))
 m5:mg "NoStand" = some (.ref (c 5))
 m6:mg "NoRoad" = some (.ref (c 6))
 m7:mg "NoPlan" = some (.ref (c 7))
 m8:mg "NoBook" = some (.ref (c 8))
 m9:mg "NoManner" = some (.ref (c 9))
 m10:mg "TooMany" = some (.ref (c 10))
 m11:mg "NoText" = some (.ref (c 11))
 m12:mg "NoRow" = some (.ref (c 12))
 m13:mg "NoName" = some (.ref (c 13))
 m14:mg "Short" = some (.ref (c 14))
 ve:mg "ValueError" = none
 isi:mg "isinstance" = none
structure TgtS (K:PySem.W.Frag) (c:Nat->aA) (t:Nat):Prop where
 xc:XCls K (c t)
 ve:PySem.W.kitOne K (.ref (c t)) (.type "ValueError")=some true
 ex:PySem.W.exmOne K (.ref (c t)) (.ref (c 0))=some true
 k:∀ i,1<=i->i<=14->PySem.W.kitOne K (.ref (c t)) (.ref (c i))=some (decide (i=t))
theorem Q4d:aZ "ValueError" = some (.type "ValueError"):=by decide +kernel
theorem Qt {H:Hp} {e p:aA} {v o:HO} (h:H e=some v) (hp:H p=none):upd H p o e=some v:=by
 rw [Qn fun z=>by rw [z,hp] at h; cases h]; exact h
theorem noB (bs:List Bool) (j:Nat) (h:(bs.take j).all (fun b=>!b)=true) (hl:j<=bs.length):∀ m,m < j->bs[m]?=some false:=fun m B=>by
 have z:m < bs.length:=by omega
 have:=L7.mp h (bs[m]) (List.mem_take_iff_getElem.mpr ⟨m,by omega,rfl⟩);rw [O3 z];cases q:bs[m] with
 | false=>rfl
 | true=>rw [q] at this; cases this
section
variable {X:Cx}
def Qqq (ss:List Str):TA:=fun σ H Q=>Q (ss.map V.str) H
theorem Qf1:∀ (l:List (Str × Nat × Pos)),PA X (l.map fun p=>Expr.Constant (.str p.1) p.2.1 p.2.2) (Qqq (l.map (·.1)))
 | []=>fun pos pins s σ H Q I h=>Y8 pos pins s σ H Q I h
 | (x,j,p) :: l=>fun pos pins s σ H Q I h=>J7 (e:=.Constant (.str x) j p) Q9v (Qf1 l) rfl pos pins s σ H Q I h
theorem Qbt (j:List Str) (l:List (Nat × Pos)) {es:List aD} (h:es=(j.zip l).map (fun p=>Expr.Constant (.str p.1) p.2.1 p.2.2)) (hl:j.length=l.length:=by rfl):PA X es (Qqq j):=by
 have e:((j.zip l).map fun p=>((p.1,p.2.1,p.2.2):Str × Nat × Pos)).map (fun p=>Expr.Constant (.str p.1) p.2.1 p.2.2)=es:=by rw [h,D8]; rfl
 have e2:((j.zip l).map fun p=>((p.1,p.2.1,p.2.2):Str × Nat × Pos)).map (·.1)=j:=by
  rw [D8];show (j.zip l).map Prod.fst=j;exact List.map_fst_zip (by omega)
 have:=Qf1 (X:=X) ((j.zip l).map fun p=>(p.1,p.2.1,p.2.2))
 rw [e,e2] at this;exact this
end
section
variable {H:Hp} {ρ:Tk}
end
section
variable {X:Cx} {E:XK} {o e:aD} {es:List aD} {mo m:ME} {mr:Gam->Q2->Res (List PV)} {C:aA} {f:Str} {pos pos' apos p:Pos}
end
section
variable {X:Cx} {E:XK}
end
section
variable {X:Cx} {E:XK} {pos:Pos} {e:aD} {m:ME}
end
section
end
section
variable {X:Cx} {E:XK}
end
section
variable {X:Cx} {pins pins':List (aA × Obj)} {E:XK} {σ:St} {H:Hp} {s:aC}
end
section
variable {X:Cx} {body:List aJ} {mb:MS} {cn n:Str} {i:Nat} {CC:aA} {np hpos pos:Pos} {b₀:aJ} {suite:List aJ} {ts:aA->TS} {Γ:Gam} {σ:St} {H:Hp} {ρ:Tk} {st:Q2} {D:Ends}
end
section
variable {X:Cx} {E:XK}
end
end Sm
namespace Sm
open PySem PySem.Spec PyProof.Rows L2
section
variable {X:Cx} {E:XK}
end
end Sm
namespace Sm
open PySem PySem.Spec L2
structure AtS (K:PySem.W.Frag) (mg:Str->Option aB) (name:Str) (st:aJ) (ps:List Str) (f:aA) (fd:aM):Prop where
 F:Fun K name name st f fd
 m:mg name=some (.ref f)
 b:Binds K fd ps []
theorem Qtw {K:PySem.W.Frag} {mg:Str->Option aB} {h:Heap} {name:Str} {st:aJ} {ps:List Str} {f:aA} {Y:aB} {U I:Option aA} {O:Array (Option aB)} {kV z B j ct:aB} (X:K.In h) (G:h.Ns aR mg)
  (a:PySem.W.nsIn K aR name=some (some (.ref f))) (l:K.lookup f=some ⟨Y,U,.func (PySem.W.fnOf name name (Vi st) (Yj st) (Qf st) .none kV z B I j ct),O⟩) (c:PySem.W.codeIn K j name=true) (k:PySem.W.keepIn K (.ref f)=true)
  (b:∀ (kV z B:aB) (I:Option aA) (j ct:aB) (J:List aB),J.length=ps.length->bindArgs (PySem.W.fnOf name name (Vi st) (Yj st) (Qf st) .none kV z B I j ct) ⟨J,[]⟩=pure (ps.zip J)) :
  AtS K mg name st ps f (PySem.W.fnOf name name (Vi st) (Yj st) (Qf st) .none kV z B I j ct):=
 have F:=Qkj (st:=st) l c k
 ⟨F,PySem.W.mg_of X G a,F.binds b⟩
theorem AtS.def {P:aL} {w:aK} {K:PySem.W.Frag} {mg:Str->Option aB} {base:Heap} {name:Str} {st:aJ} {ps:List Str} {f:aA} {fd:aM} {k n:Nat} {F:FN} (a:AtS K mg name st ps f fd) (j:ps.length=n) (G:FnOk P w K mg base (CXD P w) k f fd ps (spF mg n F)):DefS P w K mg base k name n F:=
 ⟨f,fd,ps,G,a.m,a.F.kp,a.b,j⟩
theorem AtS.defX {P:aL} {w:aK} {K:PySem.W.Frag} {mg:Str->Option aB} {base:Heap} {name:Str} {st:aJ} {ps:List Str} {f:aA} {fd:aM} {k:Nat} {sp:Sp} (a:AtS K mg name st ps f fd) (G:FnOk P w K mg base (CXD P w) k f fd ps sp):DefX P w K mg base k name ps sp:=⟨f,fd,G,a.m,a.F.kp,a.b⟩
def FL (K:PySem.W.Frag) (x ql:Str) (s:aJ) (f:aA):Prop:=∃ (oc:aB) (od:Option aA) (kV dc pm:aB) (an:Option aA) (cd ct:aB) (sl:Array (Option aB)),K.lookup f=some ⟨oc,od,.func (PySem.W.fnOf x ql (Vi s) (Yj s) (Qf s) .none kV dc pm an cd ct),sl⟩/\PySem.W.codeIn K cd ql=true/\PySem.W.keepIn K (.ref f)=true
theorem FL.fn {K:PySem.W.Frag} {x j:Str} {s:aJ} {f:aA} (h:FL K x j s f):∃ fd,Fun K x j s f fd:=let ⟨_,_,_,_,_,_,_,_,_,l,c,k⟩:=h; ⟨_,Qkj l c k⟩
def FA (K:PySem.W.Frag) (x:Str) (s:aJ) (f:aA):Prop:=PySem.W.nsIn K aR x=some (some (.ref f))/\FL K x x s f
theorem FA.mk {K:PySem.W.Frag} {x:Str} {s:aJ} {f:aA} {I:aB} {z G:Option aA} {j:Array (Option aB)} {kV J B cd ct:aB} (a:PySem.W.nsIn K aR x=some (some (.ref f))) (l:K.lookup f=some ⟨I,z,.func (PySem.W.fnOf x x (Vi s) (Yj s) (Qf s) .none kV J B G cd ct),j⟩) (c:PySem.W.codeIn K cd x=true) (k:PySem.W.keepIn K (.ref f)=true):FA K x s f:=⟨a,_,_,_,_,_,_,_,_,_,l,c,k⟩
theorem ln1 {α:Type} {l:List α} (h:l.length=1):∃ a,l=[a]:=match l,h with | [_],_=>⟨_,rfl⟩
theorem ln2 {α:Type} {l:List α} (h:l.length=2):∃ a b,l=[a,b]:=match l,h with | [_,_],_=>⟨_,_,rfl⟩
theorem ln3 {α:Type} {l:List α} (h:l.length=3):∃ a b c,l=[a,b,c]:=match l,h with | [_,_,_],_=>⟨_,_,_,rfl⟩
theorem ln4 {α:Type} {l:List α} (h:l.length=4):∃ a b c d,l=[a,b,c,d]:=match l,h with | [_,_,_,_],_=>⟨_,_,_,_,rfl⟩
theorem ln5 {α:Type} {l:List α} (h:l.length=5):∃ a b c d e,l=[a,b,c,d,e]:=match l,h with | [_,_,_,_,_],_=>⟨_,_,_,_,_,rfl⟩
theorem ln6 {α:Type} {l:List α} (h:l.length=6):∃ a b c d e f,l=[a,b,c,d,e,f]:=match l,h with | [_,_,_,_,_,_],_=>⟨_,_,_,_,_,_,rfl⟩
theorem ln7 {α:Type} {l:List α} (h:l.length=7):∃ a b c d e f g,l=[a,b,c,d,e,f,g]:=match l,h with | [_,_,_,_,_,_,_],_=>⟨_,_,_,_,_,_,_,rfl⟩
theorem FL.bd {K:PySem.W.Frag} {x B:Str} {s:aJ} {f:aA} {ps:List Str} (h:FL K x B s f)
  (b:∀ (kV G I:aB) (J:Option aA) (z ct:aB) (j:List aB),j.length=ps.length->bindArgs (PySem.W.fnOf x B (Vi s) (Yj s) (Qf s) .none kV G I J z ct) ⟨j,[]⟩=pure (ps.zip j)):∃ fd,Fun K x B s f fd/\Binds K fd ps []:=
 let ⟨_,F⟩:=h.fn
 ⟨_,F,F.binds b⟩
theorem Y5 {K:PySem.W.Frag} {mg:Str->Option aB} {h:Heap} {name:Str} {st:aJ} {f:aA} (ps:List Str) (X:K.In h) (G:h.Ns aR mg) (a:FA K name st f)
  (b:∀ (kV I J:aB) (O:Option aA) (z ct:aB) (j:List aB),j.length=ps.length->bindArgs (PySem.W.fnOf name name (Vi st) (Yj st) (Qf st) .none kV I J O z ct) ⟨j,[]⟩=pure (ps.zip j):=by
   intro _ _ _ _ _ _ j hl
   first | (obtain ⟨_,rfl⟩:=ln1 hl; rfl) | (obtain ⟨_,_,rfl⟩:=ln2 hl; rfl) | (obtain ⟨_,_,_,rfl⟩:=ln3 hl; rfl) | (obtain ⟨_,_,_,_,rfl⟩:=ln4 hl; rfl) | (obtain ⟨_,_,_,_,_,rfl⟩:=ln5 hl; rfl) | (obtain ⟨_,_,_,_,_,_,rfl⟩:=ln6 hl; rfl) | (obtain ⟨_,_,_,_,_,_,_,rfl⟩:=ln7 hl; rfl)):∃ fd,AtS K mg name st ps f fd:=
 let ⟨a,l⟩:=a
 let ⟨_,F,B⟩:=l.bd b
 ⟨_,F,PySem.W.mg_of X G a,B⟩
theorem AtS.d {K:PySem.W.Frag} {mg:Str->Option aB} {name:Str} {st:aJ} {ps:List Str} {f:aA} {fd:aM} {k n:Nat} {F:FN} (a:AtS K mg name st ps f fd) (P:aL) (w:aK) (base:Heap) (j:ps.length=n) (G:FnOk P w K mg base (CXD P w) k f fd ps (spF mg n F)):DefS P w K mg base k name n F:=a.def j G
def noL (K:PySem.W.Frag):Bool:=K.all fun p=>match p.2.data with
 | .seq _ _=>(match p.2.cls with
  | .type n=>!(n == ("list" : Str))
  | _=>true)
 | _=>true
theorem Qe3 {K:PySem.W.Frag} {a:aA} {o:Obj} (h:K.lookup a=some o):(a,o)∈K:=by
 induction K with
 | nil=>cases h
 | cons p K j=>
  obtain ⟨b,u⟩:=p;rw [List.lookup_cons] at h;cases e:a == b with
  | true=>
   rw [e] at h;have:a=b:=by simpa using e
   subst this;cases h;exact O8
  | false=>
   rw [e] at h;exact O5 _ (j h)
theorem Qsp {K:PySem.W.Frag} {a:aA} {o:Obj} {its:Array aB} {n:Nat} (j:noL K=true) (h:K.lookup a=some o) (z:o.cls=.type "list") (hd:o.data=.seq its n):False:=by
 have:=L7.mp j _ (Qe3 h);simp [z,hd] at this
theorem Q83 {H:Hp} {ρ:Tk}:∀ ns:List Int,RepL H ρ (ns.map .int) (ns.map V.int)
 | []=>rfl
 | n :: ns=>⟨_,_,rfl,rfl,Q83 ns⟩
theorem Qnd (H:Hp):Rel H Tk.nil []:=⟨rfl,List.nodup_nil,fun a h=>(by cases h),fun a h=>(by cases h),fun i a c h=>(by simp [Tk.nil] at h)⟩
def Q9a (K:PySem.W.Frag):Sp:=fun vs H Q _=>∃ (a:aA) (ns:List Int),vs=[.ref a]/\SqL K H a (ns.map V.int)/\ns.length<=63/\∀ H',Q (.bl true) H'
theorem Qps {P:aL} {w:aK} {K:PySem.W.Frag} {mg:Str->Option aB} {base:Heap} {CX:CXT} {k:Nat} {f:aA} {fd:aM} {ps:List Str} {FL:FN} (G:noL K=true) (F:FnOk P w K mg base CX k f fd ps (spF mg 1 FL)) (j:∀ ns:List Int,ns.length<=63->∃ st',FL [.fro (ns.map .int)] []=.ok (.bl true) st'):FnOk P w K mg base CX k f fd ps (Q9a K):=F.imp fun vs H Q E ⟨a,ns,e,I,hl,J⟩=>by
 subst e;obtain ⟨st',B⟩:=j ns hl;have z:Rd H a (.lst (ns.map V.int)):=by
  rcases I with h | ⟨o,its,n,h1,h2,U,O,_⟩
  ·exact h
  ·exact (Qsp G h1 h2 O).elim
 refine ⟨rfl,Tk.nil,[],[.fro (ns.map .int)],Qnd H,⟨_,_,rfl,⟨a,_,rfl,z,Tk.not_nil a,Q83 ns⟩,rfl⟩,?_⟩;rw [B];intro H' ρ' x R v r;have e:v=.bl true:=r;subst e;exact J H'
theorem Qku {P:aL} {w:aK} {H:Hp} {s:aC} {e:aB} {s':aC} (h:CXD P w [] H s (fun _ _ _=>False) e s'):False:=by
 obtain ⟨_,_,_,_,_,_,_,_,_,z⟩:=h;exact z
theorem walkS {l:PySem.W.OpenLaw} {k:Nat} {q:aL} {j:List Str} {Y:(Str->Option aB)->Heap->Prop} {G:aK->Heap->Prop} {d:DefRec} {K:Params->PySem.W.Frag} (Z:l.most=some 63) (J:Room k callerA) (B:d.params.defaults=[])
  (U:∀ (w:aK) (h:Heap),G w h->(K w.params).In h)
  (F:∀ (w:aK) (mg:Str->Option aB) (I:aA) (h:Heap),(K w.params).In h->h.Ns aR mg->mg d.name=some (.ref I) ->
   ∃ fd:aM,(∀ (s:aC) (u:aB),BindsTo s fd ⟨[u],[]⟩ [("script",u)])/\∀ base:Heap,(K w.params).In base->base.Ns aR mg->FnOk l.prog w (K w.params) mg base (CXD l.prog w) k I fd ["script"] (Q9a (K w.params))) :
  PySem.W.WalkO q j Y G l.row.toRowW d [] (fun f vs=>PySem.call f vs):=
 L2.walk_of (n:=63) (k:=k) (x := "script") (CX:=fun w=>CXD l.prog w) (sp:=fun w=>Q9a (K w.params)) Z (by decide) B J U F (fun _ _ a ns hl _ O=>⟨a,ns,rfl,O,hl,fun _=>rfl⟩) fun _ _ _ _ _ z=>Qku z
end Sm
namespace Lw
open PySem PySem.Spec L2 Sm
def top (i:Nat):aJ:=PySem.Challenge.pw_lendwharf_k58_whole_heirs.main.body.getD i (.Pass ⟨0,0,0,0⟩)
abbrev Q14:aJ:=top 17
abbrev zw:aJ:=top 18
abbrev xg:aJ:=top 19
abbrev Xs:aJ:=top 20
abbrev Q57:aJ:=top 23
abbrev Q15:aJ:=top 24
abbrev Q16:aJ:=top 25
abbrev Q55:aJ:=top 26
abbrev Q56:aJ:=top 28
abbrev xf:aJ:=top 30
abbrev Vv:aJ:=top 31
abbrev Kr:aJ:=top 32
abbrev Q18:aJ:=top 33
abbrev Ks:aJ:=top 34
abbrev Uv:aJ:=top 35
abbrev je:aJ:=top 36
abbrev Uw:aJ:=top 37
abbrev Ug:aJ:=top 38
abbrev zx:aJ:=top 39
abbrev Q30:aJ:=top 41
abbrev x8:aJ:=top 42
abbrev Xr:aJ:=top 43
abbrev Kt:aJ:=top 44
abbrev Q2z:aJ:=top 45
abbrev Vw:aJ:=top 48
abbrev Q17:aJ:=top 49
abbrev Q19:aJ:=top 50
abbrev Q31:aJ:=top 51
abbrev xb:aJ:=top 52
abbrev x9:aJ:=top 53
abbrev Vu:aJ:=top 54
abbrev Q9j:aJ:=top 55
abbrev jd:aJ:=top 56
abbrev yz:aJ:=top 57
abbrev V0:aJ:=top 59
abbrev zu:aJ:=top 60
abbrev xh:aJ:=top 61
abbrev Xt:aJ:=top 63
abbrev qm:aJ:=top 64
abbrev Ku:aJ:=top 65
abbrev qj:aJ:=top 66
abbrev ji:aJ:=top 67
abbrev jh:aJ:=top 68
abbrev qi:aJ:=top 69
abbrev qp:aJ:=top 70
abbrev Ux:aJ:=top 71
abbrev qk:aJ:=top 72
abbrev jg:aJ:=top 73
abbrev jf:aJ:=top 74
abbrev Yz:aJ:=top 75
abbrev Q21:aJ:=top 76
structure Txt (mg:Str->Option aB):Prop where
 b_all:mg "all" = none
 b_any:mg "any" = none
 b_bool:mg "bool" = none
 b_int:mg "int" = none
 b_isinstance:mg "isinstance" = none
 b_len:mg "len" = none
 b_max:mg "max" = none
 b_min:mg "min" = none
 b_range:mg "range" = none
 b_sorted:mg "sorted" = none
 b_sum:mg "sum" = none
 b_tuple:mg "tuple" = none
 b_zip:mg "zip" = none
 c_MOST_HOUSES:∃ t,mg "MOST_HOUSES" = some (.int 8 t)
 c_MOST_HOUSES_OF_BOOK:∃ t,mg "MOST_HOUSES_OF_BOOK" = some (.int 9 t)
section
variable {P:aL} {w:aK} {K:PySem.W.Frag} {mg:Str->Option aB} {base:Heap}
end
section
variable {P:aL} {w:aK} {K:PySem.W.Frag} {mg:Str->Option aB} {base:Heap}
def Q1g:MS:=(Jz (Q02 (Xz "int" (Q4 0)) (Qk0 (Xz "bool" (Q4 0)))))
def Um:FN:=Qq Q1g 1
theorem Qbd:FnScope ["thing"] ["thing"] (Qf Q14):=⟨rfl,rfl,rfl,by decide +kernel,rfl,by decide +kernel,by decide +kernel⟩
theorem Qbw {f:aA} {fd:aM} (F:Fun K "is_whole" "is_whole" Q14 f fd) (T:Txt mg)   : FnOk P w K mg base (CXD P w) 1 f fd ["thing"] (spF mg 1 Um):=by
 refine J4 (k:=0) (m:=Q1g) F Qbd rfl rfl rfl fun j A outer s H E z=>?_
 exact (Qc (Qy (Xq (Vt (T := "int") (by decide) (Q0 0) rfl T.b_isinstance rfl T.b_int Qcy) (Xp (Qiq (Vt (T := "bool") (by decide) (Q0 0) rfl T.b_isinstance rfl T.b_bool Q3r))))))
def qb:MS:=(Jz (Q02 (Qe 1 Um (Q3 (Q4 0) Q8)) (Q01 (oI fun a b=>.bl (decide (a<=b))) (oI fun a b=>.bl (decide (a<=b))) (Q4 1) (Q4 0) (Q4 2))))
def Z9:FN:=Qq qb 3
theorem Q79:FnScope ["thing", "least", "most"] ["thing", "least", "most"] (Qf zw):=⟨rfl,rfl,rfl,by decide +kernel,rfl,by decide +kernel,by decide +kernel⟩
theorem Q7f {f:aA} {fd:aM} (F:Fun K "is_between" "is_between" zw f fd) (T:Txt mg)  (j:DefS P w K mg base 1 "is_whole" 1 Um):FnOk P w K mg base (CXD P w) 2 f fd ["thing", "least", "most"] (spF mg 3 Z9):=by
 refine J4 (k:=1) (m:=qb) F Q79 rfl rfl rfl fun z A outer s H E B=>?_
 exact (Qc (Qy (Xq (Qg j (B.mono (by decide)) Qd rfl (Q1 (Q0 0) Q6)) (Xp (Qbc Q86 Q86 (Q0 1) (Q0 0) (Q0 2))))))
def U7:ME:=(mOp oLt (Q4 0) (Q4 1))
def jb:MS:=(Jz (J1 (qc fun ns=>.bl (ns.all id)) (Q3 (Yv (Jk [none,none] (Q40 (K1 (Qb 0) (K1 (Qb 1) Q41))) (Qpc (Q3 (Q4 0) (Q3 (mSl (Q4 0) (z9 (mC (.int 1))) Ve) Q8))) Jv U7)) Q8)))
def Zi:FN:=Qq jb 1
theorem Q9i:FnScope ["things"] ["things"] (Qf xg):=⟨rfl,rfl,rfl,by decide +kernel,rfl,by decide +kernel,by decide +kernel⟩
theorem Qa3 {f:aA} {fd:aM} (F:Fun K "is_rising" "is_rising" xg f fd) (T:Txt mg)   : FnOk P w K mg base (CXD P w) 1 f fd ["things"] (spF mg 1 Zi):=by
 refine J4 (k:=0) (m:=jb) F Q9i rfl rfl rfl fun j A outer s H E z=>?_
 exact (Qc (Qy (Qm (Q3p rfl) rfl T.b_all zj (Q1 (Zg (Js [none,none] ["one", "other"] rfl (Qrr rfl T.b_zip (Q1 (Q0 0) (Q1 (qh (Q0 0) (zr Qa) zt) Q6))) (fun _ _ _ _ _=>(Qim rfl (Q1x (Qx (i:=0) (show (["one", "other"]:List Str).Nodup by decide +kernel)) (Q1x (Qx (i:=1) (show (["one", "other"]:List Str).Nodup by decide +kernel)) Qes)))) (fun _ _ _ _ _=>(Wp (Q5h z.units) (Q0 0) (Q0 1))) (fun _ _ _ _ _=>Zj) (Qkm (Q8i (Q8i Qkn))))) Q6))))
def W1:MS:=(Jz (Q02 (Xz "tuple" (Q4 0)) (Q01 (oI fun a b=>.bl (decide (a<=b))) (oI fun a b=>.bl (decide (a<=b))) (Q4 1) (J1 Zf (Q3 (Q4 0) Q8)) (Q4 2))))
def Yb:FN:=Qq W1 3
theorem Q1z:FnScope ["thing", "least", "most"] ["thing", "least", "most"] (Qf Xs):=⟨rfl,rfl,rfl,by decide +kernel,rfl,by decide +kernel,by decide +kernel⟩
theorem Q25 {f:aA} {fd:aM} (F:Fun K "is_sized_tuple" "is_sized_tuple" Xs f fd) (T:Txt mg)   : FnOk P w K mg base (CXD P w) 1 f fd ["thing", "least", "most"] (spF mg 3 Yb):=by
 refine J4 (k:=0) (m:=W1) F Q1z rfl rfl rfl fun j A outer s H E z=>?_
 exact (Qc (Qy (Xq (Vt (T := "tuple") (by decide) (Q0 0) rfl T.b_isinstance rfl T.b_tuple Jx) (Xp (Qbc Q86 Q86 (Q0 1) (Qm Zh rfl T.b_len PySem.boot_len (Q1 (Q0 0) Q6)) (Q0 2))))))
def Q1n:ME:=(Q02 (Qe 1 Um (Q3 (Q4 0) Q8)) (mOp (oI fun a b=>.bl (decide (b<=a))) (Q4 0) (mC (.int 0))))
def Q5z : MS := (Qh (Zc (zn (W6 (toB (Xz "tuple" (Q4 0)))) (toB (mOp oNe (J1 Zf (Q3 (Q4 0) Q8)) (mOp Zb (Q4 1) (mC (.int 1)))))) (Jz (mC (.bl false))) Jt)
  (Jz (J1 (qc fun ns=>.bl (ns.all id)) (Q3 (Yv (Jk [none] (Qb 0) (V4 (Q4 0)) Jv Q1n)) Q8))))
def Q0b:FN:=Qq Q5z 2
theorem Qgc:FnScope ["thing", "n"] ["thing", "n"] (Qf Q57):=⟨rfl,rfl,rfl,by decide +kernel,rfl,by decide +kernel,by decide +kernel⟩
theorem Qgt {f:aA} {fd:aM} (F:Fun K "is_row" "is_row" Q57 f fd) (T:Txt mg)  (j:DefS P w K mg base 1 "is_whole" 1 Um):FnOk P w K mg base (CXD P w) 2 f fd ["thing", "n"] (spF mg 2 Q0b):=by
 refine J4 (k:=1) (m:=Q5z) F Qgc rfl rfl rfl fun B A outer s H E z=>?_
 exact (Q9 (Jy (SimW.t (ju (Yd (Zm (Vt (T := "tuple") (by decide) (Q0 0) rfl T.b_isinstance rfl T.b_tuple Jx))) (Kq (J6 (Xi z.units) (Qm Zh rfl T.b_len PySem.boot_len (Q1 (Q0 0) Q6)) (Jc Ju (Q0 1) Qa))))) (Qc (Qy Wu)) Jj)
  (Qc (Qy (Qm (Q3p rfl) rfl T.b_all zj (Q1 (Zg (Js [none] ["part"] rfl (Zr (Q0 0)) (fun _ _ _ _ _=>(Qx (i:=0) (show (["part"]:List Str).Nodup by decide +kernel))) (fun _ _ _ _ _=>(Xq (Qg j (z.mono (by decide)) Wa rfl (Q1 (Q0 0) Q6)) (Xp (Wp Qbu (Q0 0) Qa)))) (fun _ _ _ _ _=>Zj) Qz)) Q6)))))
def yd:ME:=(Qe 2 Q0b (Q3 (Q4 0) (Q3 (J1 Zf (Q3 (Q4 1) Q8)) Q8)))
def Q1h : MS := (Qh (Zc (zn (W6 (toB (Xz "tuple" (Q4 0)))) (W6 (toB (Q01 (oI fun a b => .bl (decide (a <= b))) (oI fun a b => .bl (decide (a <= b))) (mC (.int 1)) (J1 Zf (Q3 (Q4 0) Q8)) (mC (.int 8)))))) (Jz (mC (.bl false))) Jt)
  (Jz (J1 (qc fun ns=>.bl (ns.all id)) (Q3 (Yv (Jk [none,some 0] (Qb 0) (V4 (Q4 0)) Jv yd)) Q8))))
def j9:FN:=Qq Q1h 1
theorem Qbe:FnScope ["thing"] ["thing"] (Qf Q15):=⟨rfl,rfl,rfl,by decide +kernel,rfl,by decide +kernel,by decide +kernel⟩
theorem Qbx {f:aA} {fd:aM} (F:Fun K "is_table" "is_table" Q15 f fd) (T:Txt mg)  (j:DefS P w K mg base 2 "is_row" 2 Q0b):FnOk P w K mg base (CXD P w) 3 f fd ["thing"] (spF mg 1 j9):=by
 refine J4 (k:=2) (m:=Q1h) F Qbe rfl rfl rfl fun z A outer s H E B=>?_
 exact (Q9 (Jy (SimW.t (ju (Yd (Zm (Vt (T := "tuple") (by decide) (Q0 0) rfl T.b_isinstance rfl T.b_tuple Jx))) (Kq (Yd (Qid Q86 Q86 Qa (Qm Zh rfl T.b_len PySem.boot_len (Q1 (Q0 0) Q6)) (Qeu rfl T.c_MOST_HOUSES.choose_spec)))))) (Qc (Qy Wu)) Jj)
  (Qc (Qy (Qm (Q3p rfl) rfl T.b_all zj (Q1 (Zg (Js [none,some 0] ["row", "thing"] rfl (Zr (Q0 0)) (fun _ _ _ _ _=>(Qx (i:=0) (show (["row", "thing"]:List Str).Nodup by decide +kernel))) (fun _ _ _ _ _=>(Qg j (B.mono (by decide)) Wa rfl (Q1 (Q0 0) (Q1 (Qm Zh rfl T.b_len PySem.boot_len (Q1 (Q0 1) Q6)) Q6)))) (fun _ _ _ _ _=>Zj) Qz)) Q6)))))
def Q1i:MS:=(Jz (Qe 3 Z9 (Q3 (Q4 1) (Q3 (mC (.int 0)) (Q3 (mOp (oI fun a b=>.int (a - b)) (J1 Zf (Q3 (Q4 0) Q8)) (mC (.int 1))) Q8)))))
def V7:FN:=Qq Q1i 2
theorem Qbf:FnScope ["table", "thing"] ["table", "thing"] (Qf Q16):=⟨rfl,rfl,rfl,by decide +kernel,rfl,by decide +kernel,by decide +kernel⟩
theorem Qby {f:aA} {fd:aM} (F:Fun K "is_house" "is_house" Q16 f fd) (T:Txt mg)  (j:DefS P w K mg base 2 "is_between" 3 Z9):FnOk P w K mg base (CXD P w) 3 f fd ["table", "thing"] (spF mg 2 V7):=by
 refine J4 (k:=2) (m:=Q1i) F Qbf rfl rfl rfl fun z A outer s H E B=>?_
 exact (Qc (Qy (Qg j (B.mono (by decide)) Qd rfl (Q1 (Q0 1) (Q1 Qa (Q1 (Jc Q1c (Qm Zh rfl T.b_len PySem.boot_len (Q1 (Q0 0) Q6)) Qa) Q6))))))
def Q1m:ME:=(mOp oIx (Q4 0) (Q4 1))
def Q5x : MS := (Qh (Zc (W6 (toB (Qe 2 V7 (Q3 (Q4 0) (Q3 (Q4 1) Q8))))) (jm "NoHouse" (mC (.str "no house of this table"))) Jt)
  (Qh (Jm 2 (J1 (W4 fun ns=>some (.int ns.sum)) (Q3 (Yv (Jk [none,some 1] (Qb 0) (V4 (Q4 0)) Jv Q1m)) Q8)))
  (Qh (Jm 3 (mOp oIx (Q4 0) (Q4 1)))
  (Qh (Jm 4 (mOp (oI fun a b=>.int (a - b)) (J1 (W4 fun ns=>some (.int ns.sum)) (Q3 (Q4 3) Q8)) (mOp oIx (Q4 3) (Q4 1))))
  (Jz (mOp (oI fun a b=>.int (a - b)) (Q4 2) (Q4 4)))))))
def Xe:FN:=Qq Q5x 5
theorem sc_rights:FnScope ["table", "house", "gained", "own", "spent"] ["table", "house"] (Qf Q55):=⟨rfl,rfl,rfl,by decide +kernel,rfl,by decide +kernel,by decide +kernel⟩
theorem Qgr {f:aA} {fd:aM} (F:Fun K "rights" "rights" Q55 f fd) (T:Txt mg) (j:∃ C,mg "NoHouse" = some (.ref C)/\PySem.W.excIn K C Q0u "ValueError.__new__" = true) (z:DefS P w K mg base 3 "is_house" 2 V7):FnOk P w K mg base (CXD P w) 4 f fd ["table", "house"] (spF mg 2 Xe):=by
 refine J4 (k:=3) (m:=Q5x) F sc_rights rfl rfl rfl fun B A outer s H E G=>?_
 exact (Q9 (Jy (Yd (Zm (Qg z (G.mono (by decide)) Qd rfl (Q1 (Q0 0) (Q1 (Q0 1) Q6))))) (Qc (Ka rfl Ke rfl j.choose_spec.1 j.choose_spec.2 Y7)) Jj)
  (Q9 (J2 2 sc_rights.nd (Qm (jp rfl) rfl T.b_sum Ua (Q1 (Zg (Js [none,some 1] ["row", "house"] rfl (Zr (Q0 0)) (fun _ _ _ _ _=>(Qx (i:=0) (show (["row", "house"]:List Str).Nodup by decide +kernel))) (fun _ _ _ _ _=>(J5 (Q0 0) (Q0 1))) (fun _ _ _ _ _=>Zj) Qz)) Q6)))
  (Q9 (J2 3 sc_rights.nd (J5 (Q0 0) (Q0 1)))
  (Q9 (J2 4 sc_rights.nd (Jc Q1c (Qm (jp rfl) rfl T.b_sum Ua (Q1 (Q0 3) Q6)) (J5 (Q0 3) (Q0 1))))
  (Qc (Qy (Jc Q1c (Q0 2) (Q0 4))))))))
def Q5y : MS := (Qh (Jm 4 (mOp oIx (Q4 0) (Q4 1)))
  (Qh (Jm 5 (mOp Zb (mOp Zb (mSl (Q4 4) Ve (z9 (Q4 2))) (Zt (Q3 (mOp Zb (mOp oIx (Q4 4) (Q4 2)) (Q4 3)) Q8))) (mSl (Q4 4) (z9 (mOp Zb (Q4 2) (mC (.int 1)))) Ve)))
  (Jz (mOp Zb (mOp Zb (mSl (Q4 0) Ve (z9 (Q4 1))) (Zt (Q3 (Q4 5) Q8))) (mSl (Q4 0) (z9 (mOp Zb (Q4 1) (mC (.int 1)))) Ve)))))
def Q0a:FN:=Qq Q5y 6
theorem sc_raised:FnScope ["table", "house", "place", "k", "row", "higher"] ["table", "house", "place", "k"] (Qf Q56):=⟨rfl,rfl,rfl,by decide +kernel,rfl,by decide +kernel,by decide +kernel⟩
theorem Qgs {f:aA} {fd:aM} (F:Fun K "raised" "raised" Q56 f fd) (T:Txt mg)   : FnOk P w K mg base (CXD P w) 1 f fd ["table", "house", "place", "k"] (spF mg 4 Q0a):=by
 refine J4 (k:=0) (m:=Q5y) F sc_raised rfl rfl rfl fun j A outer s H E z=>?_
 exact (Q9 (J2 4 sc_raised.nd (J5 (Q0 0) (Q0 1)))
  (Q9 (J2 5 sc_raised.nd (Jc Ju (Jc Ju (qh (Q0 4) zt (zr (Q0 2))) (Jp (Q1 (Jc Ju (J5 (Q0 4) (Q0 2)) (Q0 3)) Q6))) (qh (Q0 4) (zr (Jc Ju (Q0 2) Qa)) zt)))
  (Qc (Qy (Jc Ju (Jc Ju (qh (Q0 0) zt (zr (Q0 1))) (Jp (Q1 (Q0 5) Q6))) (qh (Q0 0) (zr (Jc Ju (Q0 1) Qa)) zt))))))
def Q00:MS:=(Jz (mOp (oI fun a b=>.bl (decide (b < a))) (mOp oIx (mOp oIx (Q4 0) (Q4 1)) (Q4 1)) (mC (.int 0))))
def Km:FN:=Qq Q00 2
theorem Q9h:FnScope ["table", "house"] ["table", "house"] (Qf xf):=⟨rfl,rfl,rfl,by decide +kernel,rfl,by decide +kernel,by decide +kernel⟩
theorem Qa2 {f:aA} {fd:aM} (F:Fun K "made_some" "made_some" xf f fd) (T:Txt mg)   : FnOk P w K mg base (CXD P w) 1 f fd ["table", "house"] (spF mg 2 Km):=by
 refine J4 (k:=0) (m:=Q00) F Q9h rfl rfl rfl fun j A outer s H E z=>?_
 exact (Qc (Qy (Wp jy (J5 (J5 (Q0 0) (Q0 1)) (Q0 1)) Qa)))
def Vx : MS := (Qh (Jm 2 (mOp oIx (Q4 0) (Q4 1)))
  (Jz (mOp (oI fun a b=>.bl (decide (b < a))) (J1 (W4 fun ns=>some (.int ns.sum)) (Q3 (Q4 2) Q8)) (mOp oIx (Q4 2) (Q4 1)))))
def Y6:FN:=Qq Vx 3
theorem sc_lent_or_used_some:FnScope ["table", "house", "row"] ["table", "house"] (Qf Vv):=⟨rfl,rfl,rfl,by decide +kernel,rfl,by decide +kernel,by decide +kernel⟩
theorem xt {f:aA} {fd:aM} (F:Fun K "lent_or_used_some" "lent_or_used_some" Vv f fd) (T:Txt mg)   : FnOk P w K mg base (CXD P w) 1 f fd ["table", "house"] (spF mg 2 Y6):=by
 refine J4 (k:=0) (m:=Vx) F sc_lent_or_used_some rfl rfl rfl fun j A outer s H E z=>?_
 exact (Q9 (J2 2 sc_lent_or_used_some.nd (J5 (Q0 0) (Q0 1)))
  (Qc (Qy (Wp jy (Qm (jp rfl) rfl T.b_sum Ua (Q1 (Q0 2) Q6)) (J5 (Q0 2) (Q0 1))))))
def X8:ME:=(mOp (oI fun a b=>.bl (decide (b < a))) (mOp oIx (mOp oIx (Q4 2) (Q4 0)) (Q4 1)) (mC (.int 0)))
def Ut:MT:=(toB (mOp oNe (Q4 0) (Q4 1)))
def Kv:MS:=(Jz (J1 (qc fun ns=>.bl (ns.any id)) (Q3 (Yv (Jk [none,some 1,some 0] (Qb 0) (V4 (Q4 2)) Ut X8)) Q8)))
def Wi:FN:=Qq Kv 3
theorem Q2x:FnScope ["table", "house", "lenders"] ["table", "house", "lenders"] (Qf Kr):=⟨rfl,rfl,rfl,by decide +kernel,rfl,by decide +kernel,by decide +kernel⟩
theorem Q35 {f:aA} {fd:aM} (F:Fun K "was_lent_some" "was_lent_some" Kr f fd) (T:Txt mg)   : FnOk P w K mg base (CXD P w) 1 f fd ["table", "house", "lenders"] (spF mg 3 Wi):=by
 refine J4 (k:=0) (m:=Kv) F Q2x rfl rfl rfl fun j A outer s H E z=>?_
 exact (Qc (Qy (Qm (Q1p rfl) rfl T.b_any j8 (Q1 (Zg (Js [none,some 1,some 0] ["lender", "house", "table"] rfl (Zr (Q0 2)) (fun _ _ _ _ _=>(Qx (i:=0) (show (["lender", "house", "table"]:List Str).Nodup by decide +kernel))) (fun _ _ _ _ _=>(Wp jy (J5 (J5 (Q0 2) (Q0 0)) (Q0 1)) Qa)) (fun _ _ _ _ _=>(Yp (J6 (Xi z.units) (Q0 0) (Q0 1)))) Qz)) Q6))))
def y2:MS:=(Jz (mOr (Qe 2 Km (Q3 (Q4 0) (Q3 (Q4 1) Q8))) (Qe 3 Wi (Q3 (Q4 0) (Q3 (Q4 1) (Q3 (Q4 2) Q8))))))
def K7:FN:=Qq y2 3
theorem Qbh:FnScope ["table", "house", "ahead"] ["table", "house", "ahead"] (Qf Q18):=⟨rfl,rfl,rfl,by decide +kernel,rfl,by decide +kernel,by decide +kernel⟩
theorem Qc0 {f:aA} {fd:aM} (F:Fun K "has_root" "has_root" Q18 f fd) (T:Txt mg)  (z:DefS P w K mg base 1 "made_some" 2 Km) (j:DefS P w K mg base 1 "was_lent_some" 3 Wi):FnOk P w K mg base (CXD P w) 2 f fd ["table", "house", "ahead"] (spF mg 3 K7):=by
 refine J4 (k:=1) (m:=y2) F Qbh rfl rfl rfl fun G A outer s H E B=>?_
 exact (Qc (Qy (Quz (Qg z (B.mono (by decide)) Qd rfl (Q1 (Q0 0) (Q1 (Q0 1) Q6))) (Xp (Qg j (B.mono (by decide)) Qd rfl (Q1 (Q0 0) (Q1 (Q0 1) (Q1 (Q0 2) Q6))))))))
def Xa:ME:=(Q4 0)
def Wq:MT:=(toB (mOp (oIn true) (Q4 0) (Q4 1)))
def X9:ME:=(Q4 0)
def Uu:MT:=(toB (Qe 3 K7 (Q3 (Q4 1) (Q3 (Q4 0) (Q3 (Q4 2) Q8)))))
def Wy : MS := (Qh (Jm 3 (Yv (Jk [none, some 1] (Qb 0) (Z2 (Q3 (J1 Zf (Q3 (Q4 0) Q8)) Q8)) Wq Xa)))
  (Qh (Jm 4 (Yv (Jk [none,some 0,some 1] (Qb 0) (V4 (Q4 3)) Uu X9)))
  (Qh (Xj (mBM xy (Q4 1) (Q3 (Q4 4) Q8)))
  (Jm 2 (mOp (oI fun a b=>.bl (decide (b < a))) (J1 Zf (Q3 (Q4 4) Q8)) (mC (.int 0)))))))
def Y1:MT:=(toB (Q4 2))
def Wf : MS := (Qh (Jm 1 (Q3d (Qc7 Q8)))
  (Qh (Jm 2 (mC (.bl true)))
  (Qh (qe Y1 Wy 100000)
  (Jz (Q4 1)))))
def Ym:FN:=Qq Wf 5
theorem sc_rooted_houses:FnScope ["table", "roots", "grows", "others", "found"] ["table"] (Qf Ks):=⟨rfl,rfl,rfl,by decide +kernel,rfl,by decide +kernel,by decide +kernel⟩
theorem Q36 {f:aA} {fd:aM} (F:Fun K "rooted_houses" "rooted_houses" Ks f fd) (T:Txt mg)  (j:DefS P w K mg base 2 "has_root" 3 K7):FnOk P w K mg base (CXD P w) 3 f fd ["table"] (spF mg 1 Ym):=by
 refine J4 (k:=2) (m:=Wf) F sc_rooted_houses rfl rfl rfl fun B A outer s H E z=>?_
 exact (Q9 (J2 1 sc_rooted_houses.nd (Q2w (Qig Q6)))
  (Q9 (J2 2 sc_rooted_houses.nd Wu)
  (Q9 (Qie 100000 PassesOwn.leaving (Zm (Q0 2)) (Q9 (by first | exact Q1w [none,some 1] ["house", "roots"] 3 sc_rooted_houses.nd rfl (Ji rfl T.b_range (Q1 (Qm Zh rfl T.b_len PySem.boot_len (Q1 (Q0 0) Q6)) Q6)) (fun _ _ _ _ _=>(Qx (i:=0) (show (["house", "roots"]:List Str).Nodup by decide +kernel))) (fun _ _ _ _ _=>(Q0 0)) (fun _ _ _ _ _=>(Yp (J6 (Kf z.units) (Q0 0) (Q0 1)))) Qz | exact J2 3 sc_rooted_houses.nd (Zg (Js [none,some 1] ["house", "roots"] rfl (Ji rfl T.b_range (Q1 (Qm Zh rfl T.b_len PySem.boot_len (Q1 (Q0 0) Q6)) Q6)) (fun _ _ _ _ _=>(Qx (i:=0) (show (["house", "roots"]:List Str).Nodup by decide +kernel))) (fun _ _ _ _ _=>(Q0 0)) (fun _ _ _ _ _=>(Yp (J6 (Kf z.units) (Q0 0) (Q0 1)))) Qz)))
  (Q9 (by first | exact Q1w [none,some 0,some 1] ["house", "table", "roots"] 4 sc_rooted_houses.nd rfl (Zr (Q0 3)) (fun _ _ _ _ _=>(Qx (i:=0) (show (["house", "table", "roots"]:List Str).Nodup by decide +kernel))) (fun _ _ _ _ _=>(Q0 0)) (fun _ _ _ _ _=>(Yp (Zm (Qg j (z.mono (by decide)) Wa rfl (Q1 (Q0 1) (Q1 (Q0 0) (Q1 (Q0 2) Q6))))))) Qz | exact J2 4 sc_rooted_houses.nd (Zg (Js [none,some 0,some 1] ["house", "table", "roots"] rfl (Zr (Q0 3)) (fun _ _ _ _ _=>(Qx (i:=0) (show (["house", "table", "roots"]:List Str).Nodup by decide +kernel))) (fun _ _ _ _ _=>(Q0 0)) (fun _ _ _ _ _=>(Yp (Zm (Qg j (z.mono (by decide)) Wa rfl (Q1 (Q0 1) (Q1 (Q0 0) (Q1 (Q0 2) Q6))))))) Qz)))
  (Q9 (Va (Qg9 (Q0 1) (Q1 (Q0 4) Q6)))
  (Qc (J2 2 sc_rooted_houses.nd (Wp jy (Qm Zh rfl T.b_len PySem.boot_len (Q1 (Q0 4) Q6)) Qa)))))))
  (Qc (Qy (Q0 1))))))
def Vz:ME:=(Q4 0)
def Yy:MT:=(toB (mOp (oIn true) (Q4 0) (Q4 1)))
def Vy:ME:=(Qe 2 Y6 (Q3 (Q4 1) (Q3 (Q4 0) Q8)))
def Wv : MS := (Qh (Jm 1 (Qe 1 Ym (Q3 (Q4 0) Q8)))
  (Qh (Jm 2 (Yv (Jk [none,some 1] (Qb 0) (Z2 (Q3 (J1 Zf (Q3 (Q4 0) Q8)) Q8)) Yy Vz)))
  (Qh (Zc (toB (J1 (qc fun ns=>.bl (ns.any id)) (Q3 (Yv (Jk [none,some 0] (Qb 0) (V4 (Q4 2)) Jv Vy)) Q8))) (Jz (Q4 2)) Jt)
  (Jz (Q61 Q8)))))
def Y2:FN:=Qq Wv 3
theorem sc_rootless_houses:FnScope ["table", "roots", "others"] ["table"] (Qf Uv):=⟨rfl,rfl,rfl,by decide +kernel,rfl,by decide +kernel,by decide +kernel⟩
theorem Q1d {f:aA} {fd:aM} (F:Fun K "rootless_houses" "rootless_houses" Uv f fd) (T:Txt mg)  (z:DefS P w K mg base 3 "rooted_houses" 1 Ym) (j:DefS P w K mg base 1 "lent_or_used_some" 2 Y6):FnOk P w K mg base (CXD P w) 4 f fd ["table"] (spF mg 1 Y2):=by
 refine J4 (k:=3) (m:=Wv) F sc_rootless_houses rfl rfl rfl fun G A outer s H E B=>?_
 exact (Q9 (J2 1 sc_rootless_houses.nd (Qg z (B.mono (by decide)) Qd rfl (Q1 (Q0 0) Q6)))
  (Q9 (by first | exact Q1w [none,some 1] ["house", "roots"] 2 sc_rootless_houses.nd rfl (Ji rfl T.b_range (Q1 (Qm Zh rfl T.b_len PySem.boot_len (Q1 (Q0 0) Q6)) Q6)) (fun _ _ _ _ _=>(Qx (i:=0) (show (["house", "roots"]:List Str).Nodup by decide +kernel))) (fun _ _ _ _ _=>(Q0 0)) (fun _ _ _ _ _=>(Yp (J6 (Kf B.units) (Q0 0) (Q0 1)))) Qz | exact J2 2 sc_rootless_houses.nd (Zg (Js [none,some 1] ["house", "roots"] rfl (Ji rfl T.b_range (Q1 (Qm Zh rfl T.b_len PySem.boot_len (Q1 (Q0 0) Q6)) Q6)) (fun _ _ _ _ _=>(Qx (i:=0) (show (["house", "roots"]:List Str).Nodup by decide +kernel))) (fun _ _ _ _ _=>(Q0 0)) (fun _ _ _ _ _=>(Yp (J6 (Kf B.units) (Q0 0) (Q0 1)))) Qz)))
  (Q9 (Jy (Zm (Qm (Q1p rfl) rfl T.b_any j8 (Q1 (Zg (Js [none,some 0] ["house", "table"] rfl (Zr (Q0 2)) (fun _ _ _ _ _=>(Qx (i:=0) (show (["house", "table"]:List Str).Nodup by decide +kernel))) (fun _ _ _ _ _=>(Qg j (B.mono (by decide)) Wa rfl (Q1 (Q0 1) (Q1 (Q0 0) Q6)))) (fun _ _ _ _ _=>Zj) Qz)) Q6))) (Qc (Qy (Q0 2))) Jj)
  (Qc (Qy (Q12 Q6))))))
def Ud:MS:=(Zc (toB (mOp oLt (Qe 2 Xe (Q3 (Q4 0) (Q3 (Q4 1) Q8))) (mC (.int 0)))) (Jz (Zt (Q3 (mC (.str "short")) (Q3 (Q4 1) Q8)))) Jt)
def U4 : MS := (Qh (y4 (Qb 1) (Z2 (Q3 (J1 Zf (Q3 (Q4 0) Q8)) Q8)) Ud)
  (Qh (Jm 2 (Qe 1 Y2 (Q3 (Q4 0) Q8)))
  (Qh (Zc (toB (mOp (oI fun a b=>.bl (decide (b < a))) (J1 Zf (Q3 (Q4 2) Q8)) (mC (.int 0)))) (Jz (Zt (Q3 (mC (.str "rootless")) (Q3 (Q4 2) Q8)))) Jt)
  (Jz (Zt (Q3 (mC (.str "comes")) (Q3 (Qe 1 Ym (Q3 (Q4 0) Q8)) Q8)))))))
def Yw:FN:=Qq U4 3
theorem sc_comes_about:FnScope ["table", "house", "rootless"] ["table"] (Qf je):=⟨rfl,rfl,rfl,by decide +kernel,rfl,by decide +kernel,by decide +kernel⟩
theorem Q5j {f:aA} {fd:aM} (F:Fun K "comes_about" "comes_about" je f fd) (T:Txt mg)  (B:DefS P w K mg base 4 "rights" 2 Xe) (j:DefS P w K mg base 4 "rootless_houses" 1 Y2) (z:DefS P w K mg base 3 "rooted_houses" 1 Ym):FnOk P w K mg base (CXD P w) 5 f fd ["table"] (spF mg 1 Yw):=by
 refine J4 (k:=4) (m:=U4) F sc_comes_about rfl rfl rfl fun I A outer s H E G=>?_
 exact (Q9 (Ue PassesOwn.leaving rfl (Ji rfl T.b_range (Q1 (Qm Zh rfl T.b_len PySem.boot_len (Q1 (Q0 0) Q6)) Q6)) (Qx (i:=1) sc_comes_about.nd) (Qc (Jy (J6 (Q5h G.units) (Qg B (G.mono (by decide)) Qd rfl (Q1 (Q0 0) (Q1 (Q0 1) Q6))) Qa) (Qc (Qy (Jp (Q1 Y7 (Q1 (Q0 1) Q6))))) Jj)))
  (Q9 (J2 2 sc_comes_about.nd (Qg j (G.mono (by decide)) Qd rfl (Q1 (Q0 0) Q6)))
  (Q9 (Jy (J6 jy (Qm Zh rfl T.b_len PySem.boot_len (Q1 (Q0 2) Q6)) Qa) (Qc (Qy (Jp (Q1 Y7 (Q1 (Q0 2) Q6))))) Jj)
  (Qc (Qy (Jp (Q1 Y7 (Q1 (Qg z (G.mono (by decide)) Qd rfl (Q1 (Q0 0) Q6)) Q6))))))))
def X0:MS:=(Jz (Q02 (Qe 1 j9 (Q3 (Q4 0) Q8)) (mOp oEq (mOp oIx (Qe 1 Yw (Q3 (Q4 0) Q8)) (mC (.int 0))) (mC (.str "comes")))))
def Yt:FN:=Qq X0 1
theorem Q13:FnScope ["thing"] ["thing"] (Qf Uw):=⟨rfl,rfl,rfl,by decide +kernel,rfl,by decide +kernel,by decide +kernel⟩
theorem Q1e {f:aA} {fd:aM} (F:Fun K "does_come_about" "does_come_about" Uw f fd) (T:Txt mg)  (z:DefS P w K mg base 3 "is_table" 1 j9) (j:DefS P w K mg base 5 "comes_about" 1 Yw):FnOk P w K mg base (CXD P w) 6 f fd ["thing"] (spF mg 1 Yt):=by
 refine J4 (k:=5) (m:=X0) F Q13 rfl rfl rfl fun G A outer s H E B=>?_
 exact (Qc (Qy (Xq (Qg z (B.mono (by decide)) Qd rfl (Q1 (Q0 0) Q6)) (Xp (Wp (Kg B.units) (J5 (Qg j (B.mono (by decide)) Qd rfl (Q1 (Q0 0) Q6)) Qa) Y7)))))
def Yf:MS:=(Zc (W6 (toB (Qe 1 Yt (Q3 (Q4 0) Q8)))) (jm "NoTable" (mC (.str "no table that comes about"))) Jt)
def Jg:FN:=Qq Yf 1
theorem Q0n:FnScope ["thing"] ["thing"] (Qf Ug):=⟨rfl,rfl,rfl,by decide +kernel,rfl,by decide +kernel,by decide +kernel⟩
theorem Q0q {f:aA} {fd:aM} (F:Fun K "need_comes_about" "need_comes_about" Ug f fd) (T:Txt mg) (z:∃ C,mg "NoTable" = some (.ref C)/\PySem.W.excIn K C Q0u "ValueError.__new__" = true) (j:DefS P w K mg base 6 "does_come_about" 1 Yt):FnOk P w K mg base (CXD P w) 7 f fd ["thing"] (spF mg 1 Jg):=by
 refine J4 (k:=6) (m:=Yf) F Q0n rfl rfl rfl fun B A outer s H E G=>?_
 exact (Qc (Jy (Yd (Zm (Qg j (G.mono (by decide)) Qd rfl (Q1 (Q0 0) Q6)))) (Qc (Ka rfl Ke rfl z.choose_spec.1 z.choose_spec.2 Y7)) Jj))
def j6:ME:=(Qe 2 V7 (Q3 (Q4 1) (Q3 (Q4 0) Q8)))
def y3:MS:=(Jz (J1 (qc fun ns=>.bl (ns.all id)) (Q3 (Yv (Jk [none,some 0] (Qb 0) (V4 (Q4 1)) Jv j6)) Q8)))
def Xf:FN:=Qq y3 2
theorem Q7a:FnScope ["table", "houses"] ["table", "houses"] (Qf zx):=⟨rfl,rfl,rfl,by decide +kernel,rfl,by decide +kernel,by decide +kernel⟩
theorem Q7g {f:aA} {fd:aM} (F:Fun K "are_houses" "are_houses" zx f fd) (T:Txt mg)  (j:DefS P w K mg base 3 "is_house" 2 V7):FnOk P w K mg base (CXD P w) 4 f fd ["table", "houses"] (spF mg 2 Xf):=by
 refine J4 (k:=3) (m:=y3) F Q7a rfl rfl rfl fun z A outer s H E B=>?_
 exact (Qc (Qy (Qm (Q3p rfl) rfl T.b_all zj (Q1 (Zg (Js [none,some 0] ["house", "table"] rfl (Zr (Q0 1)) (fun _ _ _ _ _=>(Qx (i:=0) (show (["house", "table"]:List Str).Nodup by decide +kernel))) (fun _ _ _ _ _=>(Qg j (B.mono (by decide)) Wa rfl (Q1 (Q0 1) (Q1 (Q0 0) Q6)))) (fun _ _ _ _ _=>Zj) Qz)) Q6))))
def Q3c : MS := (Qh (Zc (zn (W6 (toB (Xz "tuple" (Q4 1)))) (toB (mOp oEq (J1 Zf (Q3 (Q4 1) Q8)) (mC (.int 0))))) (Jz (mC (.bl false))) Jt)
  (Jz (Q02 (Qe 2 Xf (Q3 (Q4 0) (Q3 (Q4 1) Q8))) (Qe 1 Zi (Q3 (Q4 1) Q8)))))
def zm:FN:=Qq Q3c 2
theorem Qde:FnScope ["table", "thing"] ["table", "thing"] (Qf Q30):=⟨rfl,rfl,rfl,by decide +kernel,rfl,by decide +kernel,by decide +kernel⟩
theorem Qdx {f:aA} {fd:aM} (F:Fun K "is_pool" "is_pool" Q30 f fd) (T:Txt mg)  (j:DefS P w K mg base 4 "are_houses" 2 Xf) (z:DefS P w K mg base 1 "is_rising" 1 Zi):FnOk P w K mg base (CXD P w) 5 f fd ["table", "thing"] (spF mg 2 zm):=by
 refine J4 (k:=4) (m:=Q3c) F Qde rfl rfl rfl fun G A outer s H E B=>?_
 exact (Q9 (Jy (SimW.t (ju (Yd (Zm (Vt (T := "tuple") (by decide) (Q0 1) rfl T.b_isinstance rfl T.b_tuple Jx))) (Kq (J6 (Kg B.units) (Qm Zh rfl T.b_len PySem.boot_len (Q1 (Q0 1) Q6)) Qa)))) (Qc (Qy Wu)) Jj)
  (Qc (Qy (Xq (Qg j (B.mono (by decide)) Qd rfl (Q1 (Q0 0) (Q1 (Q0 1) Q6))) (Xp (Qg z (B.mono (by decide)) Qd rfl (Q1 (Q0 1) Q6)))))))
def xz : MS := (Qh (Xj (Qe 1 Jg (Q3 (Q4 0) Q8)))
  (Zc (W6 (toB (Qe 2 zm (Q3 (Q4 0) (Q3 (Q4 1) Q8))))) (jm "NoHouse" (mC (.str "no pool of houses of this table"))) Jt))
def Kk:FN:=Qq xz 2
theorem Q9e:FnScope ["table", "pool"] ["table", "pool"] (Qf x8):=⟨rfl,rfl,rfl,by decide +kernel,rfl,by decide +kernel,by decide +kernel⟩
theorem Q9z {f:aA} {fd:aM} (F:Fun K "need_pool" "need_pool" x8 f fd) (T:Txt mg) (z:∃ C,mg "NoHouse" = some (.ref C)/\PySem.W.excIn K C Q0u "ValueError.__new__" = true) (j:DefS P w K mg base 7 "need_comes_about" 1 Jg) (B:DefS P w K mg base 5 "is_pool" 2 zm):FnOk P w K mg base (CXD P w) 8 f fd ["table", "pool"] (spF mg 2 Kk):=by
 refine J4 (k:=7) (m:=xz) F Q9e rfl rfl rfl fun I A outer s H E G=>?_
 exact (Q9 (Va (Qg j (G.mono (by decide)) Qd rfl (Q1 (Q0 0) Q6)))
  (Qc (Jy (Yd (Zm (Qg B (G.mono (by decide)) Qd rfl (Q1 (Q0 0) (Q1 (Q0 1) Q6))))) (Qc (Ka rfl Ke rfl z.choose_spec.1 z.choose_spec.2 Y7)) Jj)))
def Uk:ME:=(Qe 2 Xe (Q3 (Q4 1) (Q3 (Q4 0) Q8)))
def Xw:MS:=(Jz (J1 (W4 fun ns=>some (.int ns.sum)) (Q3 (Yv (Jk [none,some 0] (Qb 0) (V4 (Q4 1)) Jv Uk)) Q8)))
def W5:FN:=Qq Xw 2
theorem Q1y:FnScope ["table", "pool"] ["table", "pool"] (Qf Xr):=⟨rfl,rfl,rfl,by decide +kernel,rfl,by decide +kernel,by decide +kernel⟩
theorem Q24 {f:aA} {fd:aM} (F:Fun K "rights_of_pool" "rights_of_pool" Xr f fd) (T:Txt mg)  (j:DefS P w K mg base 4 "rights" 2 Xe):FnOk P w K mg base (CXD P w) 5 f fd ["table", "pool"] (spF mg 2 W5):=by
 refine J4 (k:=4) (m:=Xw) F Q1y rfl rfl rfl fun z A outer s H E B=>?_
 exact (Qc (Qy (Qm (jp rfl) rfl T.b_sum Ua (Q1 (Zg (Js [none,some 0] ["house", "table"] rfl (Zr (Q0 1)) (fun _ _ _ _ _=>(Qx (i:=0) (show (["house", "table"]:List Str).Nodup by decide +kernel))) (fun _ _ _ _ _=>(Qg j (B.mono (by decide)) Wa rfl (Q1 (Q0 1) (Q1 (Q0 0) Q6)))) (fun _ _ _ _ _=>Zj) Qz)) Q6))))
def Wz:MS:=(Zc (toB (mOp (oIn true) (Q4 3) (Q4 1))) (Jm 2 (Qe 4 Q0a (Q3 (Q4 2) (Q3 (Q4 3) (Q3 (J1 Zf (Q3 (Q4 0) Q8)) (Q3 (Qe 2 Xe (Q3 (Q4 0) (Q3 (Q4 3) Q8))) Q8)))))) Jt)
def Kw : MS := (Qh (Jm 2 (Q4 0))
  (Qh (y4 (Qb 3) (Z2 (Q3 (J1 Zf (Q3 (Q4 0) Q8)) Q8)) Wz)
  (Jz (Q4 2))))
def Wj:FN:=Qq Kw 4
theorem sc_poorest_world:FnScope ["table", "pool", "world", "house"] ["table", "pool"] (Qf Kt):=⟨rfl,rfl,rfl,by decide +kernel,rfl,by decide +kernel,by decide +kernel⟩
theorem Q37 {f:aA} {fd:aM} (F:Fun K "poorest_world" "poorest_world" Kt f fd) (T:Txt mg)  (j:DefS P w K mg base 1 "raised" 4 Q0a) (z:DefS P w K mg base 4 "rights" 2 Xe):FnOk P w K mg base (CXD P w) 5 f fd ["table", "pool"] (spF mg 2 Wj):=by
 refine J4 (k:=4) (m:=Kw) F sc_poorest_world rfl rfl rfl fun G A outer s H E B=>?_
 exact (Q9 (J2 2 sc_poorest_world.nd (Q0 0))
  (Q9 (Ue PassesOwn.leaving rfl (Ji rfl T.b_range (Q1 (Qm Zh rfl T.b_len PySem.boot_len (Q1 (Q0 0) Q6)) Q6)) (Qx (i:=3) sc_poorest_world.nd) (Qc (Jy (J6 (Kf B.units) (Q0 3) (Q0 1)) (Qc (J2 2 sc_poorest_world.nd (Qg j (B.mono (by decide)) Qd rfl (Q1 (Q0 2) (Q1 (Q0 3) (Q1 (Qm Zh rfl T.b_len PySem.boot_len (Q1 (Q0 0) Q6)) (Q1 (Qg z (B.mono (by decide)) Qd rfl (Q1 (Q0 0) (Q1 (Q0 3) Q6))) Q6))))))) Jj)))
  (Qc (Qy (Q0 2)))))
def Q0h : MS := (Qh (Xj (Qe 2 Kk (Q3 (Q4 0) (Q3 (Q4 1) Q8))))
  (Qh (Jm 3 (Qe 2 W5 (Q3 (Q4 0) (Q3 (Q4 1) Q8))))
  (Qh (Zc (toB (mOp (oI fun a b=>.bl (decide (b<=a))) (Q4 3) (Q4 2))) (Jz (Zt (Q3 (mC (.str "may")) (Q3 (Q4 3) Q8)))) Jt)
  (Jz (Zt (Q3 (mC (.str "must")) (Q3 (Qe 2 Wj (Q3 (Q4 0) (Q3 (Q4 1) Q8))) Q8)))))))
def Uq:FN:=Qq Q0h 4
theorem sc_may_use:FnScope ["table", "pool", "k", "had"] ["table", "pool", "k"] (Qf Q2z):=⟨rfl,rfl,rfl,by decide +kernel,rfl,by decide +kernel,by decide +kernel⟩
theorem Qdw {f:aA} {fd:aM} (F:Fun K "may_use" "may_use" Q2z f fd) (T:Txt mg)  (B:DefS P w K mg base 8 "need_pool" 2 Kk) (j:DefS P w K mg base 5 "rights_of_pool" 2 W5) (z:DefS P w K mg base 5 "poorest_world" 2 Wj):FnOk P w K mg base (CXD P w) 9 f fd ["table", "pool", "k"] (spF mg 3 Uq):=by
 refine J4 (k:=8) (m:=Q0h) F sc_may_use rfl rfl rfl fun I A outer s H E G=>?_
 exact (Q9 (Va (Qg B (G.mono (by decide)) Qd rfl (Q1 (Q0 0) (Q1 (Q0 1) Q6))))
  (Q9 (J2 3 sc_may_use.nd (Qg j (G.mono (by decide)) Qd rfl (Q1 (Q0 0) (Q1 (Q0 1) Q6))))
  (Q9 (Jy (J6 Qbu (Q0 3) (Q0 2)) (Qc (Qy (Jp (Q1 Y7 (Q1 (Q0 3) Q6))))) Jj)
  (Qc (Qy (Jp (Q1 Y7 (Q1 (Qg z (G.mono (by decide)) Qd rfl (Q1 (Q0 0) (Q1 (Q0 1) Q6))) Q6))))))))
def Zd:ME:=(Qe 3 Z9 (Q3 (Q4 0) (Q3 (mC (.int 0)) (Q3 (mOp (oI fun a b=>.int (a - b)) (Q4 1) (mC (.int 1))) Q8))))
def Zq : MS := (Qh (Zc (W6 (toB (Xz "tuple" (Q4 1)))) (Jz (mC (.bl false))) Jt)
  (Jz (Q02 (J1 (qc fun ns=>.bl (ns.all id)) (Q3 (Yv (Jk [none,some 0] (Qb 0) (V4 (Q4 1)) Jv Zd)) Q8)) (Qe 1 Zi (Q3 (Q4 1) Q8)))))
def J0:FN:=Qq Zq 2
theorem yy:FnScope ["n", "thing"] ["n", "thing"] (Qf Vw):=⟨rfl,rfl,rfl,by decide +kernel,rfl,by decide +kernel,by decide +kernel⟩
theorem xu {f:aA} {fd:aM} (F:Fun K "are_rising_houses" "are_rising_houses" Vw f fd) (T:Txt mg)  (j:DefS P w K mg base 2 "is_between" 3 Z9) (z:DefS P w K mg base 1 "is_rising" 1 Zi):FnOk P w K mg base (CXD P w) 3 f fd ["n", "thing"] (spF mg 2 J0):=by
 refine J4 (k:=2) (m:=Zq) F yy rfl rfl rfl fun G A outer s H E B=>?_
 exact (Q9 (Jy (Yd (Zm (Vt (T := "tuple") (by decide) (Q0 1) rfl T.b_isinstance rfl T.b_tuple Jx))) (Qc (Qy Wu)) Jj)
  (Qc (Qy (Xq (Qm (Q3p rfl) rfl T.b_all zj (Q1 (Zg (Js [none,some 0] ["house", "n"] rfl (Zr (Q0 1)) (fun _ _ _ _ _=>(Qx (i:=0) (show (["house", "n"]:List Str).Nodup by decide +kernel))) (fun _ _ _ _ _=>(Qg j (B.mono (by decide)) Wa rfl (Q1 (Q0 0) (Q1 Qa (Q1 (Jc Q1c (Q0 1) Qa) Q6))))) (fun _ _ _ _ _=>Zj) Qz)) Q6)) (Xp (Qg z (B.mono (by decide)) Qd rfl (Q1 (Q0 1) Q6)))))))
def Xx:MS:=(Jz (Q02 (Qe 2 J0 (Q3 (Q4 0) (Q3 (Q4 1) Q8))) (mOp (oI fun a b=>.bl (decide (b < a))) (J1 Zf (Q3 (Q4 1) Q8)) (mC (.int 0)))))
def Z7:FN:=Qq Xx 2
theorem Qbg:FnScope ["n", "thing"] ["n", "thing"] (Qf Q17):=⟨rfl,rfl,rfl,by decide +kernel,rfl,by decide +kernel,by decide +kernel⟩
theorem Qbz {f:aA} {fd:aM} (F:Fun K "is_group" "is_group" Q17 f fd) (T:Txt mg)  (j:DefS P w K mg base 3 "are_rising_houses" 2 J0):FnOk P w K mg base (CXD P w) 4 f fd ["n", "thing"] (spF mg 2 Z7):=by
 refine J4 (k:=3) (m:=Xx) F Qbg rfl rfl rfl fun z A outer s H E B=>?_
 exact (Qc (Qy (Xq (Qg j (B.mono (by decide)) Qd rfl (Q1 (Q0 0) (Q1 (Q0 1) Q6))) (Xp (Wp jy (Qm Zh rfl T.b_len PySem.boot_len (Q1 (Q0 1) Q6)) Qa)))))
def Xb:ME:=(Qe 2 Z7 (Q3 (Q4 1) (Q3 (Q4 0) Q8)))
def Xy : MS := (Qh (Zc (zn (W6 (toB (Xz "tuple" (Q4 1)))) (toB (mOp oEq (J1 Zf (Q3 (Q4 1) Q8)) (mC (.int 0))))) (Jz (mC (.bl false))) Jt)
  (Jz (Q02 (J1 (qc fun ns=>.bl (ns.all id)) (Q3 (Yv (Jk [none,some 0] (Qb 0) (V4 (Q4 1)) Jv Xb)) Q8)) (Qe 1 Zi (Q3 (Q4 1) Q8)))))
def Y4:FN:=Qq Xy 2
theorem Qbi:FnScope ["n", "thing"] ["n", "thing"] (Qf Q19):=⟨rfl,rfl,rfl,by decide +kernel,rfl,by decide +kernel,by decide +kernel⟩
theorem Qc1 {f:aA} {fd:aM} (F:Fun K "are_sets" "are_sets" Q19 f fd) (T:Txt mg)  (z:DefS P w K mg base 4 "is_group" 2 Z7) (j:DefS P w K mg base 1 "is_rising" 1 Zi):FnOk P w K mg base (CXD P w) 5 f fd ["n", "thing"] (spF mg 2 Y4):=by
 refine J4 (k:=4) (m:=Xy) F Qbi rfl rfl rfl fun G A outer s H E B=>?_
 exact (Q9 (Jy (SimW.t (ju (Yd (Zm (Vt (T := "tuple") (by decide) (Q0 1) rfl T.b_isinstance rfl T.b_tuple Jx))) (Kq (J6 (Kg B.units) (Qm Zh rfl T.b_len PySem.boot_len (Q1 (Q0 1) Q6)) Qa)))) (Qc (Qy Wu)) Jj)
  (Qc (Qy (Xq (Qm (Q3p rfl) rfl T.b_all zj (Q1 (Zg (Js [none,some 0] ["part", "n"] rfl (Zr (Q0 1)) (fun _ _ _ _ _=>(Qx (i:=0) (show (["part", "n"]:List Str).Nodup by decide +kernel))) (fun _ _ _ _ _=>(Qg z (B.mono (by decide)) Wa rfl (Q1 (Q0 1) (Q1 (Q0 0) Q6)))) (fun _ _ _ _ _=>Zj) Qz)) Q6)) (Xp (Qg j (B.mono (by decide)) Qd rfl (Q1 (Q0 1) Q6)))))))
def z8 : MS := (Qh (Zc (W6 (toB (Qe 3 Yb (Q3 (Q4 0) (Q3 (mC (.int 2)) (Q3 (mC (.int 2)) Q8)))))) (Jz (mC (.bl false))) Jt)
  (Jz (Q02 (Qe 3 Z9 (Q3 (mOp oIx (Q4 0) (mC (.int 0))) (Q3 (mC (.int 1)) (Q3 (mC (.int 9)) Q8)))) (Qe 2 Y4 (Q3 (mOp oIx (Q4 0) (mC (.int 0))) (Q3 (mOp oIx (Q4 0) (mC (.int 1))) Q8))))))
def Yc:FN:=Qq z8 1
theorem Qdf:FnScope ["thing"] ["thing"] (Qf Q31):=⟨rfl,rfl,rfl,by decide +kernel,rfl,by decide +kernel,by decide +kernel⟩
theorem Qdy {f:aA} {fd:aM} (F:Fun K "is_book" "is_book" Q31 f fd) (T:Txt mg)  (j:DefS P w K mg base 1 "is_sized_tuple" 3 Yb) (z:DefS P w K mg base 2 "is_between" 3 Z9) (B:DefS P w K mg base 5 "are_sets" 2 Y4):FnOk P w K mg base (CXD P w) 6 f fd ["thing"] (spF mg 1 Yc):=by
 refine J4 (k:=5) (m:=z8) F Qdf rfl rfl rfl fun I A outer s H E G=>?_
 exact (Q9 (Jy (Yd (Zm (Qg j (G.mono (by decide)) Qd rfl (Q1 (Q0 0) (Q1 Qa (Q1 Qa Q6)))))) (Qc (Qy Wu)) Jj)
  (Qc (Qy (Xq (Qg z (G.mono (by decide)) Qd rfl (Q1 (J5 (Q0 0) Qa) (Q1 Qa (Q1 (Qeu rfl T.c_MOST_HOUSES_OF_BOOK.choose_spec) Q6)))) (Xp (Qg B (G.mono (by decide)) Qd rfl (Q1 (J5 (Q0 0) Qa) (Q1 (J5 (Q0 0) Qa) Q6))))))))
def ja:MS:=(Zc (W6 (toB (Qe 1 Yc (Q3 (Q4 0) Q8)))) (jm "NoBook" (mC (.str "this is no book"))) Jt)
def Ya:FN:=Qq ja 1
theorem Q9g:FnScope ["book"] ["book"] (Qf xb):=⟨rfl,rfl,rfl,by decide +kernel,rfl,by decide +kernel,by decide +kernel⟩
theorem Qa1 {f:aA} {fd:aM} (F:Fun K "need_book" "need_book" xb f fd) (T:Txt mg) (j:∃ C,mg "NoBook" = some (.ref C)/\PySem.W.excIn K C Q0u "ValueError.__new__" = true) (z:DefS P w K mg base 6 "is_book" 1 Yc):FnOk P w K mg base (CXD P w) 7 f fd ["book"] (spF mg 1 Ya):=by
 refine J4 (k:=6) (m:=ja) F Q9g rfl rfl rfl fun B A outer s H E G=>?_
 exact (Qc (Jy (Yd (Zm (Qg z (G.mono (by decide)) Qd rfl (Q1 (Q0 0) Q6)))) (Qc (Ka rfl Ke rfl j.choose_spec.1 j.choose_spec.2 Y7)) Jj))
def Ki : MS := (Qh (Xj (Qe 1 Ya (Q3 (Q4 0) Q8)))
  (Zc (W6 (toB (Qe 2 J0 (Q3 (mOp oIx (Q4 0) (mC (.int 0))) (Q3 (Q4 1) Q8))))) (jm "NoHouse" (mC (.str "no rising houses of this book"))) Jt))
def V6:FN:=Qq Ki 2
theorem Q9f:FnScope ["book", "gone"] ["book", "gone"] (Qf x9):=⟨rfl,rfl,rfl,by decide +kernel,rfl,by decide +kernel,by decide +kernel⟩
theorem Qa0 {f:aA} {fd:aM} (F:Fun K "need_gone" "need_gone" x9 f fd) (T:Txt mg) (z:∃ C,mg "NoHouse" = some (.ref C)/\PySem.W.excIn K C Q0u "ValueError.__new__" = true) (B:DefS P w K mg base 7 "need_book" 1 Ya) (j:DefS P w K mg base 3 "are_rising_houses" 2 J0):FnOk P w K mg base (CXD P w) 8 f fd ["book", "gone"] (spF mg 2 V6):=by
 refine J4 (k:=7) (m:=Ki) F Q9f rfl rfl rfl fun I A outer s H E G=>?_
 exact (Q9 (Va (Qg B (G.mono (by decide)) Qd rfl (Q1 (Q0 0) Q6)))
  (Qc (Jy (Yd (Zm (Qg j (G.mono (by decide)) Qd rfl (Q1 (J5 (Q0 0) Qa) (Q1 (Q0 1) Q6))))) (Qc (Ka rfl Ke rfl z.choose_spec.1 z.choose_spec.2 Y7)) Jj)))
def Zp : MS := (Qh (Xj (Qe 1 Ya (Q3 (Q4 0) Q8)))
  (Zc (W6 (toB (Qe 2 Z7 (Q3 (mOp oIx (Q4 0) (mC (.int 0))) (Q3 (Q4 1) Q8))))) (jm "NoHouse" (mC (.str "no pool of houses of this book"))) Jt))
def Jq:FN:=Qq Zp 2
theorem yx:FnScope ["book", "pool"] ["book", "pool"] (Qf Vu):=⟨rfl,rfl,rfl,by decide +kernel,rfl,by decide +kernel,by decide +kernel⟩
theorem xr {f:aA} {fd:aM} (F:Fun K "need_pool_of_book" "need_pool_of_book" Vu f fd) (T:Txt mg) (j:∃ C,mg "NoHouse" = some (.ref C)/\PySem.W.excIn K C Q0u "ValueError.__new__" = true) (z:DefS P w K mg base 7 "need_book" 1 Ya) (B:DefS P w K mg base 4 "is_group" 2 Z7):FnOk P w K mg base (CXD P w) 8 f fd ["book", "pool"] (spF mg 2 Jq):=by
 refine J4 (k:=7) (m:=Zp) F yx rfl rfl rfl fun I A outer s H E G=>?_
 exact (Q9 (Va (Qg z (G.mono (by decide)) Qd rfl (Q1 (Q0 0) Q6)))
  (Qc (Jy (Yd (Zm (Qg B (G.mono (by decide)) Qd rfl (Q1 (J5 (Q0 0) Qa) (Q1 (Q0 1) Q6))))) (Qc (Ka rfl Ke rfl j.choose_spec.1 j.choose_spec.2 Y7)) Jj)))
def Q3m:ME:=(mOp (oIn false) (Q4 0) (Q4 1))
def Qa9:MS:=(Jz (J1 (qc fun ns=>.bl (ns.any id)) (Q3 (Yv (Jk [none,some 1] (Qb 0) (V4 (Q4 0)) Jv Q3m)) Q8)))
def Q2q:FN:=Qq Qa9 2
theorem Qit:FnScope ["houses", "one"] ["houses", "one"] (Qf Q9j):=⟨rfl,rfl,rfl,by decide +kernel,rfl,by decide +kernel,by decide +kernel⟩
theorem Qju {f:aA} {fd:aM} (F:Fun K "meets" "meets" Q9j f fd) (T:Txt mg)   : FnOk P w K mg base (CXD P w) 1 f fd ["houses", "one"] (spF mg 2 Q2q):=by
 refine J4 (k:=0) (m:=Qa9) F Qit rfl rfl rfl fun j A outer s H E z=>?_
 exact (Qc (Qy (Qm (Q1p rfl) rfl T.b_any j8 (Q1 (Zg (Js [none,some 1] ["house", "one"] rfl (Zr (Q0 0)) (fun _ _ _ _ _=>(Qx (i:=0) (show (["house", "one"]:List Str).Nodup by decide +kernel))) (fun _ _ _ _ _=>(Wp (Q87 z.units) (Q0 0) (Q0 1))) (fun _ _ _ _ _=>Zj) Qz)) Q6))))
def Z0:MS:=(Zc (W6 (toB (Qe 2 Q2q (Q3 (Q4 1) (Q3 (Q4 2) Q8))))) (Jz (Q4 2)) Jt)
def Wk : MS := (Qh (y4 (Qb 2) (V4 (mOp oIx (Q4 0) (mC (.int 1)))) Z0)
  (Jz (mC .non)))
def Ub:FN:=Qq Wk 3
theorem sc_set_without:FnScope ["book", "houses", "one"] ["book", "houses"] (Qf jd):=⟨rfl,rfl,rfl,by decide +kernel,rfl,by decide +kernel,by decide +kernel⟩
theorem Q5i {f:aA} {fd:aM} (F:Fun K "set_without" "set_without" jd f fd) (T:Txt mg)  (j:DefS P w K mg base 1 "meets" 2 Q2q):FnOk P w K mg base (CXD P w) 2 f fd ["book", "houses"] (spF mg 2 Ub):=by
 refine J4 (k:=1) (m:=Wk) F sc_set_without rfl rfl rfl fun z A outer s H E B=>?_
 exact (Q9 (Ue PassesOwn.leaving rfl (Zr (J5 (Q0 0) Qa)) (Qx (i:=2) sc_set_without.nd) (Qc (Jy (Yd (Zm (Qg j (B.mono (by decide)) Qd rfl (Q1 (Q0 1) (Q1 (Q0 2) Q6))))) (Qc (Qy (Q0 2))) Jj)))
  (Qc (Qy Qdd)))
def Kh : MS := (Qh (Xj (Qe 2 Jq (Q3 (Q4 0) (Q3 (Q4 1) Q8))))
  (Jz (Qe 2 Ub (Q3 (Q4 0) (Q3 (Q4 1) Q8)))))
def jc:FN:=Qq Kh 2
theorem Q9d:FnScope ["book", "pool"] ["book", "pool"] (Qf yz):=⟨rfl,rfl,rfl,by decide +kernel,rfl,by decide +kernel,by decide +kernel⟩
theorem Q9y {f:aA} {fd:aM} (F:Fun K "unmet_set" "unmet_set" yz f fd) (T:Txt mg)  (j:DefS P w K mg base 8 "need_pool_of_book" 2 Jq) (z:DefS P w K mg base 2 "set_without" 2 Ub):FnOk P w K mg base (CXD P w) 9 f fd ["book", "pool"] (spF mg 2 jc):=by
 refine J4 (k:=8) (m:=Kh) F Q9d rfl rfl rfl fun G A outer s H E B=>?_
 exact (Q9 (Va (Qg j (B.mono (by decide)) Qd rfl (Q1 (Q0 0) (Q1 (Q0 1) Q6))))
  (Qc (Qy (Qg z (B.mono (by decide)) Qd rfl (Q1 (Q0 0) (Q1 (Q0 1) Q6))))))
def Zz : MS := (Qh (Xj (Qe 1 Ya (Q3 (Q4 0) Q8)))
  (Zc (yi (toB (Xz "tuple" (Q4 1))) (toB (mOp oNe (mOp oIx (Q4 0) (mC (.int 0))) (J1 Zf (Q3 (Q4 1) Q8))))) (jm "NoBook" (mC (.str "the houses of this book are not those of the table"))) Jt))
def Jd:FN:=Qq Zz 2
theorem yq:FnScope ["book", "table"] ["book", "table"] (Qf V0):=⟨rfl,rfl,rfl,by decide +kernel,rfl,by decide +kernel,by decide +kernel⟩
theorem yr {f:aA} {fd:aM} (F:Fun K "need_book_of_table" "need_book_of_table" V0 f fd) (T:Txt mg) (j:∃ C,mg "NoBook" = some (.ref C)/\PySem.W.excIn K C Q0u "ValueError.__new__" = true) (z:DefS P w K mg base 7 "need_book" 1 Ya):FnOk P w K mg base (CXD P w) 8 f fd ["book", "table"] (spF mg 2 Jd):=by
 refine J4 (k:=7) (m:=Zz) F yq rfl rfl rfl fun G A outer s H E B=>?_
 exact (Q9 (Va (Qg z (B.mono (by decide)) Qd rfl (Q1 (Q0 0) Q6)))
  (Qc (Jy (SimW.t (Q2r (Zm (Vt (T := "tuple") (by decide) (Q0 1) rfl T.b_isinstance rfl T.b_tuple Jx)) (Q0d (J6 (Xi B.units) (J5 (Q0 0) Qa) (Qm Zh rfl T.b_len PySem.boot_len (Q1 (Q0 1) Q6)))))) (Qc (Ka rfl Ke rfl j.choose_spec.1 j.choose_spec.2 Y7)) Jj)))
def j4:ME:=(mOp (oIn false) (Q4 0) (Q4 1))
def Vc : MS := (Qh (Xj (Qe 2 Jq (Q3 (Q4 0) (Q3 (Q4 1) Q8))))
  (Qh (Xj (Qe 2 V6 (Q3 (Q4 0) (Q3 (Q4 2) Q8))))
  (Zc (toB (J1 (qc fun ns=>.bl (ns.any id)) (Q3 (Yv (Jk [none,some 2] (Qb 0) (V4 (Q4 1)) Jv j4)) Q8))) (jm "NoHouse" (mC (.str "a house of the pool is gone"))) Jt)))
def Y9:FN:=Qq Vc 3
theorem Q78:FnScope ["book", "pool", "gone"] ["book", "pool", "gone"] (Qf zu):=⟨rfl,rfl,rfl,by decide +kernel,rfl,by decide +kernel,by decide +kernel⟩
theorem Q7e {f:aA} {fd:aM} (F:Fun K "need_heirs" "need_heirs" zu f fd) (T:Txt mg) (z:∃ C,mg "NoHouse" = some (.ref C)/\PySem.W.excIn K C Q0u "ValueError.__new__" = true) (j:DefS P w K mg base 8 "need_pool_of_book" 2 Jq) (B:DefS P w K mg base 8 "need_gone" 2 V6):FnOk P w K mg base (CXD P w) 9 f fd ["book", "pool", "gone"] (spF mg 3 Y9):=by
 refine J4 (k:=8) (m:=Vc) F Q78 rfl rfl rfl fun I A outer s H E G=>?_
 exact (Q9 (Va (Qg j (G.mono (by decide)) Qd rfl (Q1 (Q0 0) (Q1 (Q0 1) Q6))))
  (Q9 (Va (Qg B (G.mono (by decide)) Qd rfl (Q1 (Q0 0) (Q1 (Q0 2) Q6))))
  (Qc (Jy (Zm (Qm (Q1p rfl) rfl T.b_any j8 (Q1 (Zg (Js [none,some 2] ["house", "gone"] rfl (Zr (Q0 1)) (fun _ _ _ _ _=>(Qx (i:=0) (show (["house", "gone"]:List Str).Nodup by decide +kernel))) (fun _ _ _ _ _=>(Wp (Q87 G.units) (Q0 0) (Q0 1))) (fun _ _ _ _ _=>Zj) Qz)) Q6))) (Qc (Ka rfl Ke rfl z.choose_spec.1 z.choose_spec.2 Y7)) Jj))))
def V1 : MS := (Qh (Xj (Qe 2 Jd (Q3 (Q4 0) (Q3 (Q4 1) Q8))))
  (Qh (Xj (Qe 1 Jg (Q3 (Q4 1) Q8)))
  (Qh (Xj (Qe 3 Y9 (Q3 (Q4 0) (Q3 (Q4 2) (Q3 (Q4 3) Q8)))))
  (Qh (Jm 5 (Qe 2 jc (Q3 (Q4 0) (Q3 (Q4 2) Q8))))
  (Qh (Zc (toB (mOp Q5r (Q4 5) (mC .non))) (Jz (Zt (Q3 (mC (.str "blind")) (Q3 (Q4 5) Q8)))) Jt)
  (Jz (Qe 3 Uq (Q3 (Q4 1) (Q3 (J1 Wd (Q3 (J1 Qat (Q3 (mOp Zb (Q4 2) (Q4 3)) Q8)) Q8)) (Q3 (Q4 4) Q8))))))))))
def Jn:FN:=Qq V1 6
theorem sc_heirs_may:FnScope ["book", "table", "pool", "gone", "k", "unmet"] ["book", "table", "pool", "gone", "k"] (Qf xh):=⟨rfl,rfl,rfl,by decide +kernel,rfl,by decide +kernel,by decide +kernel⟩
theorem Qa4 {f:aA} {fd:aM} (F:Fun K "heirs_may" "heirs_may" xh f fd) (T:Txt mg)  (j:DefS P w K mg base 8 "need_book_of_table" 2 Jd) (z:DefS P w K mg base 7 "need_comes_about" 1 Jg) (B:DefS P w K mg base 9 "need_heirs" 3 Y9) (G:DefS P w K mg base 9 "unmet_set" 2 jc) (I:DefS P w K mg base 9 "may_use" 3 Uq):FnOk P w K mg base (CXD P w) 10 f fd ["book", "table", "pool", "gone", "k"] (spF mg 5 Jn):=by
 refine J4 (k:=9) (m:=V1) F sc_heirs_may rfl rfl rfl fun O A outer s H E J=>?_
 exact (Q9 (Va (Qg j (J.mono (by decide)) Qd rfl (Q1 (Q0 0) (Q1 (Q0 1) Q6))))
  (Q9 (Va (Qg z (J.mono (by decide)) Qd rfl (Q1 (Q0 1) Q6)))
  (Q9 (Va (Qg B (J.mono (by decide)) Qd rfl (Q1 (Q0 0) (Q1 (Q0 2) (Q1 (Q0 3) Q6)))))
  (Q9 (J2 5 sc_heirs_may.nd (Qg G (J.mono (by decide)) Qd rfl (Q1 (Q0 0) (Q1 (Q0 2) Q6))))
  (Q9 (Jy (J6 Qjq (Q0 5) Qdd) (Qc (Qy (Jp (Q1 Y7 (Q1 (Q0 5) Q6))))) Jj)
  (Qc (Qy (Qg I (J.mono (by decide)) Qd rfl (Q1 (Q0 1) (Q1 (Kc Kj rfl T.b_tuple Jx (Q1 (Qm Qkw rfl T.b_sorted Q09 (Q1 (Jc Ju (Q0 2) (Q0 3)) Q6)) Q6)) (Q1 (Q0 4) Q6)))))))))))
def Vd : MS := (Qh (Zc (toB (mOp (oI fun a b => .bl (decide (b <= a))) (Q4 0) (mOp Q5q (mC (.int 10)) (mC (.int 18))))) (Jz (Q4 0)) Jt)
  (Qh (Jm 2 (mOp Q0r (mOp Zb (mOp Zb (mOp xw (mOp Q0r (Q4 0) (mC (.int 998244353))) (mC (.int 51749))) (mOp xw (Q4 1) (mC (.int 7919)))) (mC (.int 3))) (mC (.int 1000000007))))
  (Qh (Jm 3 (mOp Q0r (mOp Zb (mOp Zb (mOp Zb (mOp xw (Q4 2) (Q4 2)) (mOp xw (mC (.int 32749)) (Q4 2))) (Q4 1)) (mC (.int 5))) (mC (.int 2147483629))))
  (Qh (Jm 4 (mOp Q0r (mOp Zb (mOp Zb (mOp xw (Q4 3) (Q4 3)) (mOp xw (mC (.int 61)) (Q4 1))) (Q4 2)) (mC (.int 2147483587))))
  (Jz (mOp Zb (mOp xw (Q4 3) (mC (.int 2147483587))) (Q4 4)))))))
def Zv:FN:=Qq Vd 5
theorem sc__law_e_stirred:FnScope ["cell", "place", "first", "second", "third"] ["cell", "place"] (Qf Xt):=⟨rfl,rfl,rfl,by decide +kernel,rfl,by decide +kernel,by decide +kernel⟩
theorem Q26 {f:aA} {fd:aM} (F:Fun K "_law_e_stirred" "_law_e_stirred" Xt f fd) (T:Txt mg)   : FnOk P w K mg base (CXD P w) 1 f fd ["cell", "place"] (spF mg 2 Zv):=by
 refine J4 (k:=0) (m:=Vd) F sc__law_e_stirred rfl rfl rfl fun j A outer s H E z=>?_
 exact (Q9 (Jy (J6 Qbu (Q0 0) (Jc Q9w Qa Qa)) (Qc (Qy (Q0 0))) Jj)
  (Q9 (J2 2 sc__law_e_stirred.nd (Jc xq (Jc Ju (Jc Ju (Jc y0 (Jc xq (Q0 0) Qa) Qa) (Jc y0 (Q0 1) Qa)) Qa) Qa))
  (Q9 (J2 3 sc__law_e_stirred.nd (Jc xq (Jc Ju (Jc Ju (Jc Ju (Jc y0 (Q0 2) (Q0 2)) (Jc y0 Qa (Q0 2))) (Q0 1)) Qa) Qa))
  (Q9 (J2 4 sc__law_e_stirred.nd (Jc xq (Jc Ju (Jc Ju (Jc y0 (Q0 3) (Q0 3)) (Jc y0 Qa (Q0 1))) (Q0 2)) Qa))
  (Qc (Qy (Jc Ju (Jc y0 (Q0 3) Qa) (Q0 4))))))))
def V3 : MS := (Qh (Zc (toB (mOp oLt (mOp oIx (Q4 0) (mC (.int 2))) (Q4 1))) (Qh (Jm 2 (mOp oIx (Q4 0) (mC (.int 1))))
  (Qh (Jm 3 (Q4 2))
  (Qh (Zc (toB (mOp oLt (Q4 2) (J1 Zf (Q3 (mOp oIx (Q4 0) (mC (.int 0))) Q8)))) (Jm 3 (mOp oIx (mOp oIx (Q4 0) (mC (.int 0))) (Q4 2))) (Zc (toB (mOp (oI fun a b=>.bl (decide (b < a))) (J1 Zf (Q3 (mOp oIx (Q4 0) (mC (.int 0))) Q8)) (mC (.int 0)))) (Jm 3 (mOp Zb (mOp Q0r (mOp oIx (mOp oIx (Q4 0) (mC (.int 0))) (mOp Q0r (mOp xw (Q4 2) (mC (.int 3))) (J1 Zf (Q3 (mOp oIx (Q4 0) (mC (.int 0))) Q8)))) (mOp Q5q (mC (.int 10)) (mC (.int 9)))) (mOp xw (Q4 2) (mC (.int 1000000))))) Jt))
  (Qh (X3 (Q4 0) (mC (.int 1)) (mOp Zb (Q4 2) (mC (.int 1))))
  (X3 (Q4 0) (mC (.int 2)) (Qe 2 Zv (Q3 (Q4 3) (Q3 (Q4 2) Q8)))))))) Jt)
  (Qh (Jm 4 (mOp Q0r (mOp oIx (Q4 0) (mC (.int 2))) (Q4 1)))
  (Qh (X3 (Q4 0) (mC (.int 2)) (mOp Qf5 (mOp oIx (Q4 0) (mC (.int 2))) (Q4 1)))
  (Jz (Q4 4)))))
def Qi:FN:=Qq V3 5
theorem sc__law_e_digit:FnScope ["tape", "many", "place", "cell", "digit"] ["tape", "many"] (Qf qm):=⟨rfl,rfl,rfl,by decide +kernel,rfl,by decide +kernel,by decide +kernel⟩
theorem Q49 {f:aA} {fd:aM} (F:Fun K "_law_e_digit" "_law_e_digit" qm f fd) (T:Txt mg)  (j:DefS P w K mg base 1 "_law_e_stirred" 2 Zv):FnOk P w K mg base (CXD P w) 2 f fd ["tape", "many"] (spF mg 2 Qi):=by
 refine J4 (k:=1) (m:=V3) F sc__law_e_digit rfl rfl rfl fun B A outer s H E z=>?_
 exact (Q9 (Jy (J6 (Q5h z.units) (J5 (Q0 0) Qa) (Q0 1)) (Q9 (J2 2 sc__law_e_digit.nd (J5 (Q0 0) Qa))
  (Q9 (J2 3 sc__law_e_digit.nd (Q0 2))
  (Q9 (Jy (J6 (Q5h z.units) (Q0 2) (Qm Zh rfl T.b_len PySem.boot_len (Q1 (J5 (Q0 0) Qa) Q6))) (Qc (J2 3 sc__law_e_digit.nd (J5 (J5 (Q0 0) Qa) (Q0 2)))) (Qc (Jy (J6 jy (Qm Zh rfl T.b_len PySem.boot_len (Q1 (J5 (Q0 0) Qa) Q6)) Qa) (Qc (J2 3 sc__law_e_digit.nd (Jc Ju (Jc xq (J5 (J5 (Q0 0) Qa) (Jc xq (Jc y0 (Q0 2) Qa) (Qm Zh rfl T.b_len PySem.boot_len (Q1 (J5 (Q0 0) Qa) Q6)))) (Jc Q9w Qa Qa)) (Jc y0 (Q0 2) Qa)))) Jj)))
  (Q9 (Q2t (Jc Ju (Q0 2) Qa) (Q0 0) Qa)
  (Qc (Q2t (Qg j (z.mono (by decide)) Qd rfl (Q1 (Q0 3) (Q1 (Q0 2) Q6))) (Q0 0) Qa)))))) Jj)
  (Q9 (J2 4 sc__law_e_digit.nd (Jc xq (J5 (Q0 0) Qa) (Q0 1)))
  (Q9 (Q2t (Jc Qp2 (J5 (Q0 0) Qa) (Q0 1)) (Q0 0) Qa)
  (Qc (Qy (Q0 4))))))
def Wx:ME:=(Q4 0)
def Wr:MT:=(toB (mOp oEq (Qe 2 Qi (Q3 (Q4 1) (Q3 (mC (.int 2)) Q8))) (mC (.int 0))))
def Wg:MS:=(Jz (J1 Wd (Q3 (Yv (Jk [none,some 0] (Qb 0) (Z2 (Q3 (Q4 1) Q8)) Wr Wx)) Q8)))
def Z1:FN:=yn Wg 2
theorem Q2y:FnScope ["tape", "n"] ["tape", "n"] (Qf Ku):=⟨rfl,rfl,rfl,by decide +kernel,rfl,by decide +kernel,by decide +kernel⟩
theorem Q38 {f:aA} {fd:aM} (F:Fun K "_law_e_subset" "_law_e_subset" Ku f fd) (T:Txt mg)  (j:DefS P w K mg base 2 "_law_e_digit" 2 Qi):FnOk P w K mg base (CXD P w) 3 f fd ["tape", "n"] (spF mg 2 Z1):=by
 refine Q6j (k:=2) (m:=Wg) F Q2y rfl rfl rfl fun B A outer s H E z=>?_
 exact (Qc (Qy (Kc Kj rfl T.b_tuple Jx (Q1 (Zg (Js [none,some 0] ["house", "tape"] rfl (Ji rfl T.b_range (Q1 (Q0 1) Q6)) (fun _ _ _ _ _=>(Qx (i:=0) (show (["house", "tape"]:List Str).Nodup by decide +kernel))) (fun _ _ _ _ _=>(Q0 0)) (fun _ _ _ _ _=>(Yp (J6 (Kg z.units) (Qg j (z.mono (by decide)) Wa rfl (Q1 (Q0 1) (Q1 Qa Q6))) Qa))) Qz)) Q6))))
def K3:ME:=(mOp Zb (Q4 0) (Zt (Q3 (Q4 1) Q8)))
def Vn:MS:=(Jm 2 (mOp Zb (Q4 2) (Yv (Jk [none,some 3] (Qb 0) (V4 (Q4 2)) Jv K3))))
def K2:ME:=(Q4 0)
def Xm:MT:=(toB (mOp oEq (J1 Zf (Q3 (Q4 0) Q8)) (Q4 1)))
def V2 : MS := (Qh (Jm 2 (Q61 (Q3 (Zt Q8) Q8)))
  (Qh (y4 (Qb 3) (Z2 (Q3 (Q4 0) Q8)) Vn)
  (Jz (J1 Q6w (Q3 (Yv (Jk [none,some 1] (Qb 0) (V4 (Q4 2)) Xm K2)) Q8)))))
def V8:FN:=Qq V2 4
theorem sc__law_e_sized:FnScope ["n", "many", "found", "house"] ["n", "many"] (Qf qj):=⟨rfl,rfl,rfl,by decide +kernel,rfl,by decide +kernel,by decide +kernel⟩
theorem Q47 {f:aA} {fd:aM} (F:Fun K "_law_e_sized" "_law_e_sized" qj f fd) (T:Txt mg)   : FnOk P w K mg base (CXD P w) 1 f fd ["n", "many"] (spF mg 2 V8):=by
 refine J4 (k:=0) (m:=V2) F sc__law_e_sized rfl rfl rfl fun j A outer s H E z=>?_
 exact (Q9 (J2 2 sc__law_e_sized.nd (Q12 (Q1 (Jp Q6) Q6)))
  (Q9 (Ue PassesOwn.leaving rfl (Ji rfl T.b_range (Q1 (Q0 0) Q6)) (Qx (i:=3) sc__law_e_sized.nd) (Qc (J2 2 sc__law_e_sized.nd (Jc Ju (Q0 2) (Zg (Js [none,some 3] ["one", "house"] rfl (Zr (Q0 2)) (fun _ _ _ _ _=>(Qx (i:=0) (show (["one", "house"]:List Str).Nodup by decide +kernel))) (fun _ _ _ _ _=>(Jc Ju (Q0 0) (Jp (Q1 (Q0 1) Q6)))) (fun _ _ _ _ _=>Zj) Qz))))))
  (Qc (Qy (Qm Qkv rfl T.b_sorted Q09 (Q1 (Zg (Js [none,some 1] ["one", "many"] rfl (Zr (Q0 2)) (fun _ _ _ _ _=>(Qx (i:=0) (show (["one", "many"]:List Str).Nodup by decide +kernel))) (fun _ _ _ _ _=>(Q0 0)) (fun _ _ _ _ _=>(Yp (J6 (Kg z.units) (Qm Zh rfl T.b_len PySem.boot_len (Q1 (Q0 0) Q6)) (Q0 1)))) Qz)) Q6))))))
def Wh:ME:=(Q4 0)
def We:MT:=(toB (mOp (oI fun a b=>.bl (decide (b < a))) (Qe 2 Qi (Q3 (Q4 1) (Q3 (mC (.int 4)) Q8))) (mC (.int 0))))
def Yk : MS := (Qh (Jm 6 (Qe 2 Z1 (Q3 (Q4 0) (Q3 (Q4 2) Q8))))
  (Qh (Zc (toB (mOp oEq (Q4 3) (mC (.int 1)))) (Jm 6 (J1 Wd (Q3 (Yv (Jk [none,some 0] (Qb 0) (Z2 (Q3 (Q4 2) Q8)) We Wh)) Q8))) Jt)
  (Zc (toB (mOp oNe (Q4 6) (Zt Q8))) (Q63 (Q4 4) (Q4 6) (mC (.bl true))) Jt)))
def Wm : MS := (Qh (Jm 2 (mOp Zb (mC (.int 1)) (Qe 2 Qi (Q3 (Q4 0) (Q3 (Q4 1) Q8)))))
  (Qh (Jm 3 (Qe 2 Qi (Q3 (Q4 0) (Q3 (mC (.int 4)) Q8))))
  (Qh (Zc (toB (mOp oEq (Q4 3) (mC (.int 0)))) (Jz (Zt (Q3 (Q4 2) (Q3 (J1 Wd (Q3 (Qe 2 V8 (Q3 (Q4 2) (Q3 (mOp Zb (mC (.int 1)) (Qe 2 Qi (Q3 (Q4 0) (Q3 (Q4 2) Q8)))) Q8))) Q8)) Q8)))) Jt)
  (Qh (Jm 4 Qab)
  (Qh (y4 (Qb 5) (Z2 (Q3 (mOp Zb (mC (.int 1)) (Qe 2 Qi (Q3 (Q4 0) (Q3 (mC (.int 6)) Q8)))) Q8)) Yk)
  (Qh (Zc (toB (mOp oEq (J1 Q6y (Q3 (Q4 4) Q8)) (mC (.int 0)))) (Q63 (Q4 4) (Zt (Q3 (mOp (oI fun a b=>.int (a - b)) (Q4 2) (mC (.int 1))) Q8)) (mC (.bl true))) Jt)
  (Jz (Zt (Q3 (Q4 2) (Q3 (J1 Wd (Q3 (J1 Q6x (Q3 (Q4 4) Q8)) Q8)) Q8))))))))))
def Yx:FN:=yn Wm 7
theorem sc__law_e_book:FnScope ["tape", "most", "n", "way", "sets", "turn", "one"] ["tape", "most"] (Qf ji):=⟨rfl,rfl,rfl,by decide +kernel,rfl,by decide +kernel,by decide +kernel⟩
theorem Q5p {f:aA} {fd:aM} (F:Fun K "_law_e_book" "_law_e_book" ji f fd) (T:Txt mg)  (j:DefS P w K mg base 2 "_law_e_digit" 2 Qi) (B:DefS P w K mg base 1 "_law_e_sized" 2 V8) (z:DefS P w K mg base 3 "_law_e_subset" 2 Z1):FnOk P w K mg base (CXD P w) 4 f fd ["tape", "most"] (spF mg 2 Yx):=by
 refine Q6j (k:=3) (m:=Wm) F sc__law_e_book rfl rfl rfl fun I A outer s H E G=>?_
 exact (Q9 (J2 2 sc__law_e_book.nd (Jc Ju Qa (Qg j (G.mono (by decide)) Qd rfl (Q1 (Q0 0) (Q1 (Q0 1) Q6)))))
  (Q9 (J2 3 sc__law_e_book.nd (Qg j (G.mono (by decide)) Qd rfl (Q1 (Q0 0) (Q1 Qa Q6))))
  (Q9 (Jy (J6 (Kg G.units) (Q0 3) Qa) (Qc (Qy (Jp (Q1 (Q0 2) (Q1 (Kc Kj rfl T.b_tuple Jx (Q1 (Qg B (G.mono (by decide)) Qd rfl (Q1 (Q0 2) (Q1 (Jc Ju Qa (Qg j (G.mono (by decide)) Qd rfl (Q1 (Q0 0) (Q1 (Q0 2) Q6)))) Q6))) Q6)) Q6))))) Jj)
  (Q9 (J2 4 sc__law_e_book.nd Qis)
  (Q9 (Ue PassesOwn.leaving rfl (Ji rfl T.b_range (Q1 (Jc Ju Qa (Qg j (G.mono (by decide)) Qd rfl (Q1 (Q0 0) (Q1 Qa Q6)))) Q6)) (Qx (i:=5) sc__law_e_book.nd) (Q9 (J2 6 sc__law_e_book.nd (Qg z (G.mono (by decide)) Qd rfl (Q1 (Q0 0) (Q1 (Q0 2) Q6))))
  (Q9 (Jy (J6 (Kg G.units) (Q0 3) Qa) (Qc (J2 6 sc__law_e_book.nd (Kc Kj rfl T.b_tuple Jx (Q1 (Zg (Js [none,some 0] ["house", "tape"] rfl (Ji rfl T.b_range (Q1 (Q0 2) Q6)) (fun _ _ _ _ _=>(Qx (i:=0) (show (["house", "tape"]:List Str).Nodup by decide +kernel))) (fun _ _ _ _ _=>(Q0 0)) (fun _ _ _ _ _=>(Yp (J6 jy (Qg j (G.mono (by decide)) Wa rfl (Q1 (Q0 1) (Q1 Qa Q6))) Qa))) Qz)) Q6)))) Jj)
  (Qc (Jy (J6 (Xi G.units) (Q0 6) (Jp Q6)) (Qc (Qb7 (Qev G) Wu (Q0 4) (Q0 6))) Jj)))))
  (Q9 (Jy (J6 (Kg G.units) (Qm Qqa rfl T.b_len PySem.boot_len (Q1 (Q0 4) Q6)) Qa) (Qc (Qb7 (Qev G) Wu (Q0 4) (Jp (Q1 (Jc Q1c (Q0 2) Qa) Q6)))) Jj)
  (Qc (Qy (Jp (Q1 (Q0 2) (Q1 (Kc Kj rfl T.b_tuple Jx (Q1 (Qm (Qkx rfl) rfl T.b_sorted Q09 (Q1 (Q0 4) Q6)) Q6)) Q6)))))))))))
def ym:ME:=(mOp oIx (mOp oIx (Q4 2) (Q4 0)) (Q4 1))
def yh:MT:=(toB (mOp oNe (Q4 0) (Q4 1)))
def yk:ME:=(mOp oIx (mOp oIx (Q4 1) (Q4 2)) (Q4 0))
def yg:MT:=(toB (mOp oNe (Q4 0) (Q4 2)))
def jk : MS := (Qh (Jm 2 (J1 Zf (Q3 (Q4 0) Q8)))
  (Qh (Jm 3 (J1 (W4 fun ns=>some (.int ns.sum)) (Q3 (Yv (Jk [none,some 1,some 0] (Qb 0) (Z2 (Q3 (Q4 2) Q8)) yh ym)) Q8)))
  (Qh (Jm 4 (J1 (W4 fun ns=>some (.int ns.sum)) (Q3 (Yv (Jk [none,some 0,some 1] (Qb 0) (Z2 (Q3 (Q4 2) Q8)) yg yk)) Q8)))
  (Jz (mOp (oI fun a b=>.int (a - b)) (mOp (oI fun a b=>.int (a - b)) (mOp Zb (mOp oIx (mOp oIx (Q4 0) (Q4 1)) (Q4 1)) (Q4 3)) (Q4 4)) (mOp oIx (mOp oIx (Q4 0) (Q4 1)) (Q4 2)))))))
def Jf:FN:=Qq jk 5
theorem sc__law_e_held:FnScope ["table", "house", "n", "lent", "gone"] ["table", "house"] (Qf jh):=⟨rfl,rfl,rfl,by decide +kernel,rfl,by decide +kernel,by decide +kernel⟩
theorem Q5n {f:aA} {fd:aM} (F:Fun K "_law_e_held" "_law_e_held" jh f fd) (T:Txt mg)   : FnOk P w K mg base (CXD P w) 1 f fd ["table", "house"] (spF mg 2 Jf):=by
 refine J4 (k:=0) (m:=jk) F sc__law_e_held rfl rfl rfl fun z A outer s H E j=>?_
 exact (Q9 (J2 2 sc__law_e_held.nd (Qm Zh rfl T.b_len PySem.boot_len (Q1 (Q0 0) Q6)))
  (Q9 (J2 3 sc__law_e_held.nd (Qm (jp rfl) rfl T.b_sum Ua (Q1 (Zg (Js [none,some 1,some 0] ["other", "house", "table"] rfl (Ji rfl T.b_range (Q1 (Q0 2) Q6)) (fun _ _ _ _ _=>(Qx (i:=0) (show (["other", "house", "table"]:List Str).Nodup by decide +kernel))) (fun _ _ _ _ _=>(J5 (J5 (Q0 2) (Q0 0)) (Q0 1))) (fun _ _ _ _ _=>(Yp (J6 (Xi j.units) (Q0 0) (Q0 1)))) Qz)) Q6)))
  (Q9 (J2 4 sc__law_e_held.nd (Qm (jp rfl) rfl T.b_sum Ua (Q1 (Zg (Js [none,some 0,some 1] ["other", "table", "house"] rfl (Ji rfl T.b_range (Q1 (Q0 2) Q6)) (fun _ _ _ _ _=>(Qx (i:=0) (show (["other", "table", "house"]:List Str).Nodup by decide +kernel))) (fun _ _ _ _ _=>(J5 (J5 (Q0 1) (Q0 2)) (Q0 0))) (fun _ _ _ _ _=>(Yp (J6 (Xi j.units) (Q0 0) (Q0 2)))) Qz)) Q6)))
  (Qc (Qy (Jc Q1c (Jc Q1c (Jc Ju (J5 (J5 (Q0 0) (Q0 1)) (Q0 1)) (Q0 3)) (Q0 4)) (J5 (J5 (Q0 0) (Q0 1)) (Q0 2))))))))
def ze:ME:=(mC (.int 0))
def Vh:ME:=(Q3d (Jk [none] (Qb 0) (Z2 (Q3 (mOp Zb (Q4 1) (mC (.int 1))) Q8)) Jv ze))
def Vm : MS := (Qh (Jm 5 (Qe 2 Qi (Q3 (Q4 0) (Q3 (Q4 1) Q8))))
  (Qh (Jm 6 (Qe 2 Qi (Q3 (Q4 0) (Q3 (mC (.int 4)) Q8))))
  (Qh (Jm 7 (Qe 2 Jf (Q3 (Q4 3) (Q3 (Q4 5) Q8))))
  (Zc (zn (toB (mOp oEq (Q4 6) (mC (.int 0)))) (toB (mOp oEq (Q4 7) (mC (.int 0))))) (X3 (mOp oIx (Q4 3) (Q4 5)) (Q4 5) (mOp Zb (mOp Zb (mOp oIx (mOp oIx (Q4 3) (Q4 5)) (Q4 5)) (mC (.int 1))) (Qe 2 Qi (Q3 (Q4 0) (Q3 (Q4 2) Q8))))) (Zc (toB (mOp oEq (Q4 6) (mC (.int 1)))) (X3 (mOp oIx (Q4 3) (Q4 5)) (Q4 1) (mOp Zb (mOp Zb (mOp oIx (mOp oIx (Q4 3) (Q4 5)) (Q4 1)) (mC (.int 1))) (Qe 2 Qi (Q3 (Q4 0) (Q3 (Q4 7) Q8))))) (Qh (Jm 8 (Qe 2 Qi (Q3 (Q4 0) (Q3 (Q4 1) Q8))))
  (Zc (toB (mOp oNe (Q4 8) (Q4 5))) (X3 (mOp oIx (Q4 3) (Q4 5)) (Q4 8) (mOp Zb (mOp Zb (mOp oIx (mOp oIx (Q4 3) (Q4 5)) (Q4 8)) (mC (.int 1))) (Qe 2 Qi (Q3 (Q4 0) (Q3 (Q4 7) Q8))))) Jt)))))))
def Vg:ME:=(J1 Wd (Q3 (Q4 0) Q8))
def X1 : MS := (Qh (Jm 2 (mOp oIx (Q61 (Q3 (mC (.int 4)) (Q3 (mC (.int 30)) (Q3 (mOp Q5q (mC (.int 10)) (mC (.int 18))) Q8)))) (Qe 2 Qi (Q3 (Q4 0) (Q3 (mC (.int 3)) Q8)))))
  (Qh (Jm 3 (Q3d (Jk [none,some 1] (Qb 0) (Z2 (Q3 (Q4 1) Q8)) Jv Vh)))
  (Qh (y4 (Qb 4) (Z2 (Q3 (Qe 2 Qi (Q3 (Q4 0) (Q3 (mC (.int 12)) Q8))) Q8)) Vm)
  (Jz (J1 Wd (Q3 (Yv (Jk [none] (Qb 0) (V4 (Q4 3)) Jv Vg)) Q8))))))
def Xg:FN:=yn X1 9
theorem sc__law_e_table:FnScope ["tape", "n", "far", "table", "turn", "house", "way", "has", "other"] ["tape", "n"] (Qf qi):=⟨rfl,rfl,rfl,by decide +kernel,rfl,by decide +kernel,by decide +kernel⟩
theorem Q46 {f:aA} {fd:aM} (F:Fun K "_law_e_table" "_law_e_table" qi f fd) (T:Txt mg)  (j:DefS P w K mg base 2 "_law_e_digit" 2 Qi) (z:DefS P w K mg base 1 "_law_e_held" 2 Jf):FnOk P w K mg base (CXD P w) 3 f fd ["tape", "n"] (spF mg 2 Xg):=by
 refine Q6j (k:=2) (m:=X1) F sc__law_e_table rfl rfl rfl fun G A outer s H E B=>?_
 exact (Q9 (J2 2 sc__law_e_table.nd (J5 (Q12 (Q1 Qa (Q1 Qa (Q1 (Jc Q9w Qa Qa) Q6)))) (Qg j (B.mono (by decide)) Qd rfl (Q1 (Q0 0) (Q1 Qa Q6)))))
  (Q9 (by first | exact Qb8 [none,some 1] ["house", "n"] 3 sc__law_e_table.nd rfl (Ji rfl T.b_range (Q1 (Q0 1) Q6)) (fun _ _ _ _ _=>(Qx (i:=0) (show (["house", "n"]:List Str).Nodup by decide +kernel))) (fun _ _ _ _ _=>(Q2w (Js [none] ["place"] rfl (Ji rfl T.b_range (Q1 (Jc Ju (Q0 1) Qa) Q6)) (fun _ _ _ _ _=>(Qx (i:=0) (show (["place"]:List Str).Nodup by decide +kernel))) (fun _ _ _ _ _=>Qa) (fun _ _ _ _ _=>Zj) Qz))) (fun _ _ _ _ _=>Zj) Qz | exact J2 3 sc__law_e_table.nd (Q2w (Js [none,some 1] ["house", "n"] rfl (Ji rfl T.b_range (Q1 (Q0 1) Q6)) (fun _ _ _ _ _=>(Qx (i:=0) (show (["house", "n"]:List Str).Nodup by decide +kernel))) (fun _ _ _ _ _=>(Q2w (Js [none] ["place"] rfl (Ji rfl T.b_range (Q1 (Jc Ju (Q0 1) Qa) Q6)) (fun _ _ _ _ _=>(Qx (i:=0) (show (["place"]:List Str).Nodup by decide +kernel))) (fun _ _ _ _ _=>Qa) (fun _ _ _ _ _=>Zj) Qz))) (fun _ _ _ _ _=>Zj) Qz)))
  (Q9 (Ue PassesOwn.leaving rfl (Ji rfl T.b_range (Q1 (Qg j (B.mono (by decide)) Qd rfl (Q1 (Q0 0) (Q1 Qa Q6))) Q6)) (Qx (i:=4) sc__law_e_table.nd) (Q9 (J2 5 sc__law_e_table.nd (Qg j (B.mono (by decide)) Qd rfl (Q1 (Q0 0) (Q1 (Q0 1) Q6))))
  (Q9 (J2 6 sc__law_e_table.nd (Qg j (B.mono (by decide)) Qd rfl (Q1 (Q0 0) (Q1 Qa Q6))))
  (Q9 (J2 7 sc__law_e_table.nd (Qg z (B.mono (by decide)) Qd rfl (Q1 (Q0 3) (Q1 (Q0 5) Q6))))
  (Qc (Jy (SimW.t (ju (J6 (Kg B.units) (Q0 6) Qa) (Kq (J6 (Kg B.units) (Q0 7) Qa)))) (Qc (Q2t (Jc Ju (Jc Ju (J5 (J5 (Q0 3) (Q0 5)) (Q0 5)) Qa) (Qg j (B.mono (by decide)) Qd rfl (Q1 (Q0 0) (Q1 (Q0 2) Q6)))) (J5 (Q0 3) (Q0 5)) (Q0 5))) (Qc (Jy (J6 (Kg B.units) (Q0 6) Qa) (Qc (Q2t (Jc Ju (Jc Ju (J5 (J5 (Q0 3) (Q0 5)) (Q0 1)) Qa) (Qg j (B.mono (by decide)) Qd rfl (Q1 (Q0 0) (Q1 (Q0 7) Q6)))) (J5 (Q0 3) (Q0 5)) (Q0 1))) (Q9 (J2 8 sc__law_e_table.nd (Qg j (B.mono (by decide)) Qd rfl (Q1 (Q0 0) (Q1 (Q0 1) Q6))))
  (Qc (Jy (J6 (Xi B.units) (Q0 8) (Q0 5)) (Qc (Q2t (Jc Ju (Jc Ju (J5 (J5 (Q0 3) (Q0 5)) (Q0 8)) Qa) (Qg j (B.mono (by decide)) Qd rfl (Q1 (Q0 0) (Q1 (Q0 7) Q6)))) (J5 (Q0 3) (Q0 5)) (Q0 8))) Jj)))))))))))
  (Qc (Qy (Kc Kj rfl T.b_tuple Jx (Q1 (Zg (Js [none] ["row"] rfl (Zr (Q0 3)) (fun _ _ _ _ _=>(Qx (i:=0) (show (["row"]:List Str).Nodup by decide +kernel))) (fun _ _ _ _ _=>(Kc Kj rfl T.b_tuple Jx (Q1 (Q0 0) Q6))) (fun _ _ _ _ _=>Zj) Qz)) Q6)))))))
def zh:ME:=(Qe 2 Jf (Q3 (Q4 1) (Q3 (Q4 0) Q8)))
def zg:ME:=(Q4 0)
def jt:MT:=(toB (mOp (oI fun a b=>.bl (decide (b < a))) (mOp oIx (mOp oIx (Q4 1) (Q4 0)) (Q4 0)) (mC (.int 0))))
def K5:ME:=(mOp (oI fun a b=>.bl (decide (b < a))) (mOp oIx (mOp oIx (Q4 2) (Q4 0)) (Q4 1)) (mC (.int 0)))
def K6:MS:=(Zc (yi (toB (mOp (oIn true) (Q4 4) (Q4 2))) (toB (J1 (qc fun ns=>.bl (ns.any id)) (Q3 (Yv (Jk [none,some 4,some 0] (Qb 0) (V4 (Q4 2)) Jv K5)) Q8)))) (Xj (mBM qu (Q4 2) (Q3 (Q4 4) Q8))) Jt)
def Vp:MS:=(y4 (Qb 4) (Z2 (Q3 (Q4 1) Q8)) K6)
def zk:MS:=(Zc (yi (toB (mOp (oIn true) (Q4 4) (Q4 2))) (toB (mOp (oI fun a b=>.bl (decide (b < a))) (J1 (W4 fun ns=>some (.int ns.sum)) (Q3 (mOp oIx (Q4 0) (Q4 4)) Q8)) (mC (.int 0))))) (Jz (mC (.bl false))) Jt)
def qv : MS := (Qh (Jm 1 (J1 Zf (Q3 (Q4 0) Q8)))
  (Qh (Zc (toB (mOp oLt (J1 Qhx (Q3 (Yv (Jk [none,some 0] (Qb 0) (Z2 (Q3 (Q4 1) Q8)) Jv zh)) Q8)) (mC (.int 0)))) (Jz (mC (.bl false))) Jt)
  (Qh (Jm 2 (Q3d (Jk [none,some 0] (Qb 0) (Z2 (Q3 (Q4 1) Q8)) jt zg)))
  (Qh (y4 (Qb 3) (Z2 (Q3 (Q4 1) Q8)) Vp)
  (Qh (y4 (Qb 4) (Z2 (Q3 (Q4 1) Q8)) zk)
  (Jz (mC (.bl true))))))))
def V9:FN:=Qq qv 5
theorem sc__law_e_comes:FnScope ["table", "n", "roots", "turn", "house"] ["table"] (Qf qp):=⟨rfl,rfl,rfl,by decide +kernel,rfl,by decide +kernel,by decide +kernel⟩
theorem Q4a {f:aA} {fd:aM} (F:Fun K "_law_e_comes" "_law_e_comes" qp f fd) (T:Txt mg)  (j:DefS P w K mg base 1 "_law_e_held" 2 Jf):FnOk P w K mg base (CXD P w) 2 f fd ["table"] (spF mg 1 V9):=by
 refine J4 (k:=1) (m:=qv) F sc__law_e_comes rfl rfl rfl fun B A outer s H E z=>?_
 exact (Q9 (J2 1 sc__law_e_comes.nd (Qm Zh rfl T.b_len PySem.boot_len (Q1 (Q0 0) Q6)))
  (Q9 (Jy (J6 (Q5h z.units) (Qm (Qtg rfl) rfl T.b_min Qm9 (Q1 (Zg (Js [none,some 0] ["house", "table"] rfl (Ji rfl T.b_range (Q1 (Q0 1) Q6)) (fun _ _ _ _ _=>(Qx (i:=0) (show (["house", "table"]:List Str).Nodup by decide +kernel))) (fun _ _ _ _ _=>(Qg j (z.mono (by decide)) Wa rfl (Q1 (Q0 1) (Q1 (Q0 0) Q6)))) (fun _ _ _ _ _=>Zj) Qz)) Q6)) Qa) (Qc (Qy Wu)) Jj)
  (Q9 (by first | exact Qb8 [none,some 0] ["house", "table"] 2 sc__law_e_comes.nd rfl (Ji rfl T.b_range (Q1 (Q0 1) Q6)) (fun _ _ _ _ _=>(Qx (i:=0) (show (["house", "table"]:List Str).Nodup by decide +kernel))) (fun _ _ _ _ _=>(Q0 0)) (fun _ _ _ _ _=>(Yp (J6 jy (J5 (J5 (Q0 1) (Q0 0)) (Q0 0)) Qa))) Qz | exact J2 2 sc__law_e_comes.nd (Q2w (Js [none,some 0] ["house", "table"] rfl (Ji rfl T.b_range (Q1 (Q0 1) Q6)) (fun _ _ _ _ _=>(Qx (i:=0) (show (["house", "table"]:List Str).Nodup by decide +kernel))) (fun _ _ _ _ _=>(Q0 0)) (fun _ _ _ _ _=>(Yp (J6 jy (J5 (J5 (Q0 1) (Q0 0)) (Q0 0)) Qa))) Qz)))
  (Q9 (Ue PassesOwn.leaving rfl (Ji rfl T.b_range (Q1 (Q0 1) Q6)) (Qx (i:=3) sc__law_e_comes.nd) (Qc (Ue PassesOwn.leaving rfl (Ji rfl T.b_range (Q1 (Q0 1) Q6)) (Qx (i:=4) sc__law_e_comes.nd) (Qc (Jy (SimW.t (Q2r (J6 (Kf z.units) (Q0 4) (Q0 2)) (Q0d (Zm (Qm (Q1p rfl) rfl T.b_any j8 (Q1 (Zg (Js [none,some 4,some 0] ["other", "house", "table"] rfl (Zr (Q0 2)) (fun _ _ _ _ _=>(Qx (i:=0) (show (["other", "house", "table"]:List Str).Nodup by decide +kernel))) (fun _ _ _ _ _=>(Wp jy (J5 (J5 (Q0 2) (Q0 0)) (Q0 1)) Qa)) (fun _ _ _ _ _=>Zj) Qz)) Q6)))))) (Qc (Va (Qga (Q0 2) (Q1 (Q0 4) Q6)))) Jj)))))
  (Q9 (Ue PassesOwn.leaving rfl (Ji rfl T.b_range (Q1 (Q0 1) Q6)) (Qx (i:=4) sc__law_e_comes.nd) (Qc (Jy (SimW.t (Q2r (J6 (Kf z.units) (Q0 4) (Q0 2)) (Q0d (J6 jy (Qm (jp rfl) rfl T.b_sum Ua (Q1 (J5 (Q0 0) (Q0 4)) Q6)) Qa)))) (Qc (Qy Wu)) Jj)))
  (Qc (Qy Wu)))))))
def qa:MS:=(Zc (zn (W6 (toB (Xz "int" (mOp oIx (Q4 5) (Q4 6))))) (zn (toB (Xz "bool" (mOp oIx (Q4 5) (Q4 6)))) (toB (mOp oLt (mOp oIx (Q4 5) (Q4 6)) (mOp oIx (mOp oIx (Q4 0) (Q4 4)) (Q4 6)))))) (Jz (mC (.bl false))) Jt)
def U0 : MS := (Qh (Jm 5 (mOp oIx (Q4 2) (Q4 4)))
  (Qh (Zc (zn (W6 (toB (Xz "tuple" (Q4 5)))) (toB (mOp oNe (J1 Zf (Q3 (Q4 5) Q8)) (mOp Zb (Q4 3) (mC (.int 1)))))) (Jz (mC (.bl false))) Jt)
  (Qh (y4 (Qb 6) (Z2 (Q3 (mOp Zb (Q4 3) (mC (.int 1))) Q8)) qa)
  (Zc (yi (toB (mOp (oIn false) (Q4 4) (Q4 1))) (toB (mOp oNe (Q4 5) (mOp oIx (Q4 0) (Q4 4))))) (Jz (mC (.bl false))) Jt))))
def X2 : MS := (Qh (Jm 3 (J1 Zf (Q3 (Q4 0) Q8)))
  (Qh (Zc (zn (W6 (toB (Xz "tuple" (Q4 2)))) (toB (mOp oNe (J1 Zf (Q3 (Q4 2) Q8)) (Q4 3)))) (Jz (mC (.bl false))) Jt)
  (Qh (y4 (Qb 4) (Z2 (Q3 (Q4 3) Q8)) U0)
  (Jz (Qe 1 V9 (Q3 (Q4 2) Q8))))))
def Yu:FN:=Qq X2 7
theorem sc__law_e_is_world:FnScope ["table", "some", "world", "n", "house", "row", "place"] ["table", "some", "world"] (Qf Ux):=⟨rfl,rfl,rfl,by decide +kernel,rfl,by decide +kernel,by decide +kernel⟩
theorem Q1f {f:aA} {fd:aM} (F:Fun K "_law_e_is_world" "_law_e_is_world" Ux f fd) (T:Txt mg)  (j:DefS P w K mg base 2 "_law_e_comes" 1 V9):FnOk P w K mg base (CXD P w) 3 f fd ["table", "some", "world"] (spF mg 3 Yu):=by
 refine J4 (k:=2) (m:=X2) F sc__law_e_is_world rfl rfl rfl fun B A outer s H E z=>?_
 exact (Q9 (J2 3 sc__law_e_is_world.nd (Qm Zh rfl T.b_len PySem.boot_len (Q1 (Q0 0) Q6)))
  (Q9 (Jy (SimW.t (ju (Yd (Zm (Vt (T := "tuple") (by decide) (Q0 2) rfl T.b_isinstance rfl T.b_tuple Jx))) (Kq (J6 (Xi z.units) (Qm Zh rfl T.b_len PySem.boot_len (Q1 (Q0 2) Q6)) (Q0 3))))) (Qc (Qy Wu)) Jj)
  (Q9 (Ue PassesOwn.leaving rfl (Ji rfl T.b_range (Q1 (Q0 3) Q6)) (Qx (i:=4) sc__law_e_is_world.nd) (Q9 (J2 5 sc__law_e_is_world.nd (J5 (Q0 2) (Q0 4)))
  (Q9 (Jy (SimW.t (ju (Yd (Zm (Vt (T := "tuple") (by decide) (Q0 5) rfl T.b_isinstance rfl T.b_tuple Jx))) (Kq (J6 (Xi z.units) (Qm Zh rfl T.b_len PySem.boot_len (Q1 (Q0 5) Q6)) (Jc Ju (Q0 3) Qa))))) (Qc (Qy Wu)) Jj)
  (Q9 (Ue PassesOwn.leaving rfl (Ji rfl T.b_range (Q1 (Jc Ju (Q0 3) Qa) Q6)) (Qx (i:=6) sc__law_e_is_world.nd) (Qc (Jy (SimW.t (ju (Yd (Zm (Vt (T := "int") (by decide) (J5 (Q0 5) (Q0 6)) rfl T.b_isinstance rfl T.b_int Qcy))) (ju (Zm (Vt (T := "bool") (by decide) (J5 (Q0 5) (Q0 6)) rfl T.b_isinstance rfl T.b_bool Q3r)) (Kq (J6 (Q5h z.units) (J5 (Q0 5) (Q0 6)) (J5 (J5 (Q0 0) (Q0 4)) (Q0 6))))))) (Qc (Qy Wu)) Jj)))
  (Qc (Jy (SimW.t (Q2r (J6 (Q87 z.units) (Q0 4) (Q0 1)) (Q0d (J6 (Xi z.units) (Q0 5) (J5 (Q0 0) (Q0 4)))))) (Qc (Qy Wu)) Jj))))))
  (Qc (Qy (Qg j (z.mono (by decide)) Qd rfl (Q1 (Q0 2) Q6)))))))
def K4:ME:=(Qe 2 Jf (Q3 (Q4 1) (Q3 (Q4 0) Q8)))
def zf:ME:=(Qe 2 Jf (Q3 (mOp oIx (Q4 1) (mC (.int 1))) (Q3 (Q4 0) Q8)))
def Y0 : MS := (Qh (Zc (zn (W6 (toB (Xz "tuple" (Q4 5)))) (toB (mOp oNe (J1 Zf (Q3 (Q4 5) Q8)) (mC (.int 2))))) (Jz (mC (.bl false))) Jt)
  (Qh (Zc (toB (mOp oNe (Q4 4) (Q61 Q8))) (Jz (Q02 (mOp oEq (mOp oIx (Q4 5) (mC (.int 0))) (mC (.str "blind"))) (Q02 (Xz "tuple" (mOp oIx (Q4 5) (mC (.int 1)))) (mOp (oIn false) (mOp oIx (Q4 5) (mC (.int 1))) (Q4 4))))) Jt)
  (Qh (Jm 6 (J1 (W4 fun ns=>some (.int ns.sum)) (Q3 (Yv (Jk [none,some 1] (Qb 0) (V4 (Q4 2)) Jv K4)) Q8)))
  (Qh (Zc (toB (mOp (oI fun a b=>.bl (decide (b<=a))) (Q4 6) (Q4 3))) (Jz (Q02 (mOp oEq (Q4 5) (Zt (Q3 (mC (.str "may")) (Q3 (Q4 6) Q8)))) (Qk0 (Xz "bool" (mOp oIx (Q4 5) (mC (.int 1))))))) Jt)
  (Qh (Zc (zn (toB (mOp oNe (mOp oIx (Q4 5) (mC (.int 0))) (mC (.str "must")))) (W6 (toB (Qe 3 Yu (Q3 (Q4 1) (Q3 (Q4 2) (Q3 (mOp oIx (Q4 5) (mC (.int 1))) Q8))))))) (Jz (mC (.bl false))) Jt)
  (Jz (mOp oLt (J1 (W4 fun ns=>some (.int ns.sum)) (Q3 (Yv (Jk [none,some 5] (Qb 0) (Z2 (Q3 (J1 Zf (Q3 (Q4 1) Q8)) Q8)) Jv zf)) Q8)) (Q4 3))))))))
def Yi:FN:=Qq Y0 7
theorem sc__law_e_right:FnScope ["book", "table", "both", "amount", "unmet", "found", "sums"] ["book", "table", "both", "amount", "unmet", "found"] (Qf qk):=⟨rfl,rfl,rfl,by decide +kernel,rfl,by decide +kernel,by decide +kernel⟩
theorem Q48 {f:aA} {fd:aM} (F:Fun K "_law_e_right" "_law_e_right" qk f fd) (T:Txt mg)  (j:DefS P w K mg base 1 "_law_e_held" 2 Jf) (z:DefS P w K mg base 3 "_law_e_is_world" 3 Yu):FnOk P w K mg base (CXD P w) 4 f fd ["book", "table", "both", "amount", "unmet", "found"] (spF mg 6 Yi):=by
 refine J4 (k:=3) (m:=Y0) F sc__law_e_right rfl rfl rfl fun G A outer s H E B=>?_
 exact (Q9 (Jy (SimW.t (ju (Yd (Zm (Vt (T := "tuple") (by decide) (Q0 5) rfl T.b_isinstance rfl T.b_tuple Jx))) (Kq (J6 (Xi B.units) (Qm Zh rfl T.b_len PySem.boot_len (Q1 (Q0 5) Q6)) Qa)))) (Qc (Qy Wu)) Jj)
  (Q9 (Jy (J6 (Xi B.units) (Q0 4) (Q12 Q6)) (Qc (Qy (Xq (Wp (Kg B.units) (J5 (Q0 5) Qa) Y7) (Xq (Vt (T := "tuple") (by decide) (J5 (Q0 5) Qa) rfl T.b_isinstance rfl T.b_tuple Jx) (Xp (Wp (Q87 B.units) (J5 (Q0 5) Qa) (Q0 4))))))) Jj)
  (Q9 (J2 6 sc__law_e_right.nd (Qm (jp rfl) rfl T.b_sum Ua (Q1 (Zg (Js [none,some 1] ["house", "table"] rfl (Zr (Q0 2)) (fun _ _ _ _ _=>(Qx (i:=0) (show (["house", "table"]:List Str).Nodup by decide +kernel))) (fun _ _ _ _ _=>(Qg j (B.mono (by decide)) Wa rfl (Q1 (Q0 1) (Q1 (Q0 0) Q6)))) (fun _ _ _ _ _=>Zj) Qz)) Q6)))
  (Q9 (Jy (J6 Qbu (Q0 6) (Q0 3)) (Qc (Qy (Xq (Wp (Kg B.units) (Q0 5) (Jp (Q1 Y7 (Q1 (Q0 6) Q6)))) (Xp (Qiq (Vt (T := "bool") (by decide) (J5 (Q0 5) Qa) rfl T.b_isinstance rfl T.b_bool Q3r)))))) Jj)
  (Q9 (Jy (SimW.t (ju (J6 (Xi B.units) (J5 (Q0 5) Qa) Y7) (Kq (Yd (Zm (Qg z (B.mono (by decide)) Qd rfl (Q1 (Q0 1) (Q1 (Q0 2) (Q1 (J5 (Q0 5) Qa) Q6))))))))) (Qc (Qy Wu)) Jj)
  (Qc (Qy (Wp (Q5h B.units) (Qm (jp rfl) rfl T.b_sum Ua (Q1 (Zg (Js [none,some 5] ["house", "found"] rfl (Ji rfl T.b_range (Q1 (Qm Zh rfl T.b_len PySem.boot_len (Q1 (Q0 1) Q6)) Q6)) (fun _ _ _ _ _=>(Qx (i:=0) (show (["house", "found"]:List Str).Nodup by decide +kernel))) (fun _ _ _ _ _=>(Qg j (B.mono (by decide)) Wa rfl (Q1 (J5 (Q0 1) Qa) (Q1 (Q0 0) Q6)))) (fun _ _ _ _ _=>Zj) Qz)) Q6)) (Q0 3)))))))))
def Quy (c:Nat->aA):Sp:=fun vs H Q E=>∃ e dv,vs=[V.ref e]/\((H e=some (.ext (IsXD e (c 8) dv))/\∀ H2,Same H H2->Q (.str "book") H2)\/(H e=some (.ext (IsXD e (c 1) dv))/\∀ H2,Same H H2->Q (.str "table") H2)\/(H e=some (.ext (IsXD e (c 2) dv))/\∀ H2,Same H H2->Q (.str "house") H2))
theorem sc__law_e_kind:FnScope ["caught", "names", "kinds"] ["caught"] (Qf jg):=⟨rfl,rfl,rfl,by decide +kernel,rfl,by decide +kernel,by decide +kernel⟩
theorem Q5m {f:aA} {fd:aM} {c:Nat->aA} (F:Fun K "_law_e_kind" "_law_e_kind" jg f fd) (T:Txt mg) (Nm:Nms mg c) (T8:TgtS K c 8) (T1:TgtS K c 1) (T2:TgtS K c 2):FnOk P w K mg base (CXD P w) 1 f fd ["caught"] (Quy c):=by
 refine Fun.okD (k:=0) F sc__law_e_kind (fun vs H Q E h=>by obtain ⟨e,dv,rfl,_⟩:=h; rfl) fun i5 A outer s H vs Q E hr i4=>?_
 obtain ⟨e,dv,rfl,i4⟩:=i4;refine jok ?_;refine ⟨_,qx (Q3g (i:=1) sc__law_e_kind.nd rfl (Or.inl rfl) (Q1j ⟨Qbt ["road", "house", "table", "deed", "letter", "stand", "plan", "book", "manner", "many", "text", "row"] [(_,_),(_,_),(_,_),(_,_),(_,_),(_,_),(_,_),(_,_),(_,_),(_,_),(_,_),(_,_)] rfl⟩))
   (qx (Q3g (i:=2) sc__law_e_kind.nd rfl (Or.inl rfl) (Q1j (Ww ⟨Zy (Zu K) (by rfl) Nm.isi Jb (J7 (pv 0) (J7 (W9 (v:=.ref (c 6)) (by rfl) Nm.m6 rfl) Y8))⟩ (Ww ⟨Zy (Zu K) (by rfl) Nm.isi Jb (J7 (pv 0) (J7 (W9 (v:=.ref (c 2)) (by rfl) Nm.m2 rfl) Y8))⟩ (Ww ⟨Zy (Zu K) (by rfl) Nm.isi Jb (J7 (pv 0) (J7 (W9 (v:=.ref (c 1)) (by rfl) Nm.m1 rfl) Y8))⟩ Q6e)))))
   (qx (Q3g (i:=2) sc__law_e_kind.nd rfl (Or.inl rfl) (Qcg Q34 ⟨pv 2⟩ (Q1j (Ww ⟨Zy (Zu K) (by rfl) Nm.isi Jb (J7 (pv 0) (J7 (W9 (v:=.ref (c 3)) (by rfl) Nm.m3 rfl) Y8))⟩ (Ww ⟨Zy (Zu K) (by rfl) Nm.isi Jb (J7 (pv 0) (J7 (W9 (v:=.ref (c 4)) (by rfl) Nm.m4 rfl) Y8))⟩ (Ww ⟨Zy (Zu K) (by rfl) Nm.isi Jb (J7 (pv 0) (J7 (W9 (v:=.ref (c 5)) (by rfl) Nm.m5 rfl) Y8))⟩ Q6e))))))
   (qx (Q3g (i:=2) sc__law_e_kind.nd rfl (Or.inl rfl) (Qcg Q34 ⟨pv 2⟩ (Q1j (Ww ⟨Zy (Zu K) (by rfl) Nm.isi Jb (J7 (pv 0) (J7 (W9 (v:=.ref (c 7)) (by rfl) Nm.m7 rfl) Y8))⟩ (Ww ⟨Zy (Zu K) (by rfl) Nm.isi Jb (J7 (pv 0) (J7 (W9 (v:=.ref (c 8)) (by rfl) Nm.m8 rfl) Y8))⟩ (Ww ⟨Zy (Zu K) (by rfl) Nm.isi Jb (J7 (pv 0) (J7 (W9 (v:=.ref (c 9)) (by rfl) Nm.m9 rfl) Y8))⟩ Q6e))))))
   (qx (Q3g (i:=2) sc__law_e_kind.nd rfl (Or.inl rfl) (Qcg Q34 ⟨pv 2⟩ (Q1j (Ww ⟨Zy (Zu K) (by rfl) Nm.isi Jb (J7 (pv 0) (J7 (W9 (v:=.ref (c 10)) (by rfl) Nm.m10 rfl) Y8))⟩ (Ww ⟨Zy (Zu K) (by rfl) Nm.isi Jb (J7 (pv 0) (J7 (W9 (v:=.ref (c 11)) (by rfl) Nm.m11 rfl) Y8))⟩ (Ww ⟨Zy (Zu K) (by rfl) Nm.isi Jb (J7 (pv 0) (J7 (W9 (v:=.ref (c 12)) (by rfl) Nm.m12 rfl) Y8))⟩ Q6e))))))
   (qx (Q3g (i:=2) sc__law_e_kind.nd rfl (Or.inl rfl) (Qcg Q34 ⟨pv 2⟩ (Q1j (Ww ⟨Zy (Zu K) (by rfl) Nm.isi Jb (J7 (pv 0) (J7 (W9 (v:=.ref (c 13)) (by rfl) Nm.m13 rfl) Y8))⟩ (Ww ⟨Zy (Zu K) (by rfl) Nm.isi Jb (J7 (pv 0) (J7 (W9 (v:=.ref (c 14)) (by rfl) Nm.m14 rfl) Y8))⟩ Q6e)))))
   (qx (Qw3 (PW.pt (Qqy (Q9r Qvf (Qjm PySem.F.plainAttrs_list PySem.F.slot_list_count PySem.F.type_list_count Qgz (pv 2) (J7 Qjn Y8)) Qdt (Qa5 _)) (Qj5 (Qj8 (Qj7 (Zy (Zu K) (by rfl) Nm.isi Jb (J7 (pv 0) (J7 (Qf0 (v:=.ty "ValueError") (by rfl) Nm.ve Q4d rfl) Y8)))))))) (Qfd (Qkb Qt6)) Qpv)
   (Qfd (Qkb (Qw4 ix_list (Qcg Q34 ⟨pv 1⟩ (Q1j ⟨Qbt ["name", "short"] [(_,_),(_,_)] rfl⟩)) ⟨Qjm PySem.F.plainAttrs_list PySem.F.slot_list_index PySem.F.type_list_index Qgx (pv 2) (J7 Qjn Y8)⟩ (fun _ _=>rfl)))))))))),?_⟩
 rcases i4 with ⟨g8,hQ⟩ | ⟨g8,hQ⟩ | ⟨g8,hQ⟩
 ·refine ⟨by decide,fun p1 f8=>?_⟩;obtain ⟨H1,e1⟩:∃ H1,upd H p1 (.lst (List.map V.str ["road", "house", "table", "deed", "letter", "stand", "plan", "book", "manner", "many", "text", "row"]))=H1:=⟨_,rfl⟩;have c8:H1 e=some (.ext (IsXD e (c 8) dv)):=e1 ▸ Qt g8 f8;have i0:Same H H1:=e1 ▸ Ja (fun _ _ z=>z) f8;have d2:H1 p1=some (.lst (List.map V.str ["road", "house", "table", "deed", "letter", "stand", "plan", "book", "manner", "many", "text", "row"])):=e1 ▸ Qr;rw [show upd H p1 (.lst (List.map V.str ["road", "house", "table", "deed", "letter", "stand", "plan", "book", "manner", "many", "text", "row"]))=H1 from e1];refine ⟨_,rfl,e,_,_,_,_,false,rfl,rfl,c8,T8.xc,T8.k 6 (by decide) (by decide),?_⟩;refine ⟨_,rfl,e,_,_,_,_,false,rfl,rfl,c8,T8.xc,T8.k 2 (by decide) (by decide),?_⟩;refine ⟨_,rfl,e,_,_,_,_,false,rfl,rfl,c8,T8.xc,T8.k 1 (by decide) (by decide),?_⟩;refine ⟨by decide,fun p2 f3=>?_⟩
  obtain ⟨H2,e2⟩:∃ H2,upd H1 p2 (.lst [.bl false,.bl false,.bl false])=H2:=⟨_,rfl⟩;have c3:H2 e=some (.ext (IsXD e (c 8) dv)):=e2 ▸ Qt c8 f3;have h5:Same H H2:=e2 ▸ Ja i0 f3;have b8:H2 p2=some (.lst [.bl false,.bl false,.bl false]):=e2 ▸ Qr;have f0:H2 p1=some (.lst (List.map V.str ["road", "house", "table", "deed", "letter", "stand", "plan", "book", "manner", "many", "text", "row"])):=e2 ▸ Qt d2 f3;rw [show upd H1 p2 (.lst (_))=H2 from e2];refine ⟨_,rfl,?_⟩;refine ⟨_,rfl,e,_,_,_,_,false,rfl,rfl,c3,T8.xc,T8.k 3 (by decide) (by decide),?_⟩;refine ⟨_,rfl,e,_,_,_,_,false,rfl,rfl,c3,T8.xc,T8.k 4 (by decide) (by decide),?_⟩;refine ⟨_,rfl,e,_,_,_,_,false,rfl,rfl,c3,T8.xc,T8.k 5 (by decide) (by decide),?_⟩;refine ⟨by decide,fun p3 d7=>?_⟩;obtain ⟨H3,e3⟩:∃ H3,upd H2 p3 (.lst [.bl false,.bl false,.bl false])=H3:=⟨_,rfl⟩;have g7:H3 e=some (.ext (IsXD e (c 8) dv)):=e3 ▸ Qt c3 d7
  have h6:Same H H3:=e3 ▸ Ja h5 d7;have b4:H3 p3=some (.lst [.bl false,.bl false,.bl false]):=e3 ▸ Qr;have d1:H3 p1=some (.lst (List.map V.str ["road", "house", "table", "deed", "letter", "stand", "plan", "book", "manner", "many", "text", "row"])):=e3 ▸ Qt f0 d7;have a3:H3 p2=some (.lst [.bl false,.bl false,.bl false]):=e3 ▸ Qt b8 d7;rw [show upd H2 p3 (.lst (_))=H3 from e3];refine ⟨_,_,_,_,rfl,rfl,a3,b4,by decide,fun p4 e0=>?_⟩;obtain ⟨H4,e4⟩:∃ H4,upd H3 p4 (.lst [.bl false,.bl false,.bl false,.bl false,.bl false,.bl false])=H4:=⟨_,rfl⟩;have c9:H4 e=some (.ext (IsXD e (c 8) dv)):=e4 ▸ Qt g7 e0;have h3:Same H H4:=e4 ▸ Ja h6 e0;have b6:H4 p4=some (.lst [.bl false,.bl false,.bl false,.bl false,.bl false,.bl false]):=e4 ▸ Qr;have d9:H4 p1=some (.lst (List.map V.str ["road", "house", "table", "deed", "letter", "stand", "plan", "book", "manner", "many", "text", "row"])):=e4 ▸ Qt d1 e0
  have g4:H4 p2=some (.lst [.bl false,.bl false,.bl false]):=e4 ▸ Qt a3 e0;rw [show upd H3 p4 (.lst ([.bl false,.bl false,.bl false] ++ [.bl false,.bl false,.bl false]))=H4 from e4];refine ⟨_,rfl,?_⟩;refine ⟨_,rfl,e,_,_,_,_,false,rfl,rfl,c9,T8.xc,T8.k 7 (by decide) (by decide),?_⟩;refine ⟨_,rfl,e,_,_,_,_,true,rfl,rfl,c9,T8.xc,T8.k 8 (by decide) (by decide),?_⟩;refine ⟨_,rfl,e,_,_,_,_,false,rfl,rfl,c9,T8.xc,T8.k 9 (by decide) (by decide),?_⟩;refine ⟨by decide,fun p5 b7=>?_⟩;obtain ⟨H5,e5⟩:∃ H5,upd H4 p5 (.lst [.bl false,.bl true,.bl false])=H5:=⟨_,rfl⟩;have h9:H5 e=some (.ext (IsXD e (c 8) dv)):=e5 ▸ Qt c9 b7;have h4:Same H H5:=e5 ▸ Ja h3 b7;have d3:H5 p5=some (.lst [.bl false,.bl true,.bl false]):=e5 ▸ Qr;have d0:H5 p1=some (.lst (List.map V.str ["road", "house", "table", "deed", "letter", "stand", "plan", "book", "manner", "many", "text", "row"])):=e5 ▸ Qt d9 b7
  have a2:H5 p4=some (.lst [.bl false,.bl false,.bl false,.bl false,.bl false,.bl false]):=e5 ▸ Qt b6 b7;rw [show upd H4 p5 (.lst (_))=H5 from e5];refine ⟨_,_,_,_,rfl,rfl,a2,d3,by decide,fun p6 d4=>?_⟩;obtain ⟨H6,e6⟩:∃ H6,upd H5 p6 (.lst [.bl false,.bl false,.bl false,.bl false,.bl false,.bl false,.bl false,.bl true,.bl false])=H6:=⟨_,rfl⟩;have d5:H6 e=some (.ext (IsXD e (c 8) dv)):=e6 ▸ Qt h9 d4;have h0:Same H H6:=e6 ▸ Ja h4 d4;have c4:H6 p6=some (.lst [.bl false,.bl false,.bl false,.bl false,.bl false,.bl false,.bl false,.bl true,.bl false]):=e6 ▸ Qr;have c0:H6 p1=some (.lst (List.map V.str ["road", "house", "table", "deed", "letter", "stand", "plan", "book", "manner", "many", "text", "row"])):=e6 ▸ Qt d0 d4;have g6:H6 p4=some (.lst [.bl false,.bl false,.bl false,.bl false,.bl false,.bl false]):=e6 ▸ Qt a2 d4;rw [show upd H5 p6 (.lst ([.bl false,.bl false,.bl false,.bl false,.bl false,.bl false] ++ [.bl false,.bl true,.bl false]))=H6 from e6]
  refine ⟨_,rfl,?_⟩;refine ⟨_,rfl,e,_,_,_,_,false,rfl,rfl,d5,T8.xc,T8.k 10 (by decide) (by decide),?_⟩;refine ⟨_,rfl,e,_,_,_,_,false,rfl,rfl,d5,T8.xc,T8.k 11 (by decide) (by decide),?_⟩;refine ⟨_,rfl,e,_,_,_,_,false,rfl,rfl,d5,T8.xc,T8.k 12 (by decide) (by decide),?_⟩;refine ⟨by decide,fun p7 d6=>?_⟩;obtain ⟨H7,e7⟩:∃ H7,upd H6 p7 (.lst [.bl false,.bl false,.bl false])=H7:=⟨_,rfl⟩;have i1:H7 e=some (.ext (IsXD e (c 8) dv)):=e7 ▸ Qt d5 d6;have h8:Same H H7:=e7 ▸ Ja h0 d6;have d8:H7 p7=some (.lst [.bl false,.bl false,.bl false]):=e7 ▸ Qr;have c2:H7 p1=some (.lst (List.map V.str ["road", "house", "table", "deed", "letter", "stand", "plan", "book", "manner", "many", "text", "row"])):=e7 ▸ Qt c0 d6;have a5:H7 p6=some (.lst [.bl false,.bl false,.bl false,.bl false,.bl false,.bl false,.bl false,.bl true,.bl false]):=e7 ▸ Qt c4 d6;rw [show upd H6 p7 (.lst (_))=H7 from e7]
  refine ⟨_,_,_,_,rfl,rfl,a5,d8,by decide,fun p8 b9=>?_⟩;obtain ⟨H8,e8⟩:∃ H8,upd H7 p8 (.lst [.bl false,.bl false,.bl false,.bl false,.bl false,.bl false,.bl false,.bl true,.bl false,.bl false,.bl false,.bl false])=H8:=⟨_,rfl⟩;have f2:H8 e=some (.ext (IsXD e (c 8) dv)):=e8 ▸ Qt i1 b9;have h7:Same H H8:=e8 ▸ Ja h8 b9;have c5:H8 p8=some (.lst [.bl false,.bl false,.bl false,.bl false,.bl false,.bl false,.bl false,.bl true,.bl false,.bl false,.bl false,.bl false]):=e8 ▸ Qr;have b5:H8 p1=some (.lst (List.map V.str ["road", "house", "table", "deed", "letter", "stand", "plan", "book", "manner", "many", "text", "row"])):=e8 ▸ Qt c2 b9;have g5:H8 p6=some (.lst [.bl false,.bl false,.bl false,.bl false,.bl false,.bl false,.bl false,.bl true,.bl false]):=e8 ▸ Qt a5 b9;rw [show upd H7 p8 (.lst ([.bl false,.bl false,.bl false,.bl false,.bl false,.bl false,.bl false,.bl true,.bl false] ++ [.bl false,.bl false,.bl false]))=H8 from e8]
  refine ⟨_,rfl,?_⟩;refine ⟨_,rfl,e,_,_,_,_,false,rfl,rfl,f2,T8.xc,T8.k 13 (by decide) (by decide),?_⟩;refine ⟨_,rfl,e,_,_,_,_,false,rfl,rfl,f2,T8.xc,T8.k 14 (by decide) (by decide),?_⟩;refine ⟨by decide,fun p9 c6=>?_⟩;obtain ⟨H9,e9⟩:∃ H9,upd H8 p9 (.lst [.bl false,.bl false])=H9:=⟨_,rfl⟩;have i2:H9 e=some (.ext (IsXD e (c 8) dv)):=e9 ▸ Qt f2 c6;have g9:Same H H9:=e9 ▸ Ja h7 c6;have c1:H9 p9=some (.lst [.bl false,.bl false]):=e9 ▸ Qr;have b3:H9 p1=some (.lst (List.map V.str ["road", "house", "table", "deed", "letter", "stand", "plan", "book", "manner", "many", "text", "row"])):=e9 ▸ Qt b5 c6;have a6:H9 p8=some (.lst [.bl false,.bl false,.bl false,.bl false,.bl false,.bl false,.bl false,.bl true,.bl false,.bl false,.bl false,.bl false]):=e9 ▸ Qt c5 c6;rw [show upd H8 p9 (.lst (_))=H9 from e9];refine ⟨_,_,_,_,rfl,rfl,a6,c1,by decide,fun b2 a1=>?_⟩;obtain ⟨B,a8⟩:∃ B,upd H9 b2 (.lst [.bl false,.bl false,.bl false,.bl false,.bl false,.bl false,.bl false,.bl true,.bl false,.bl false,.bl false,.bl false,.bl false,.bl false])=B:=⟨_,rfl⟩
  have f1:B e=some (.ext (IsXD e (c 8) dv)):=a8 ▸ Qt i2 a1;have g0:Same H B:=a8 ▸ Ja g9 a1;have j:B b2=some (.lst [.bl false,.bl false,.bl false,.bl false,.bl false,.bl false,.bl false,.bl true,.bl false,.bl false,.bl false,.bl false,.bl false,.bl false]):=a8 ▸ Qr;have b1:B p1=some (.lst (List.map V.str ["road", "house", "table", "deed", "letter", "stand", "plan", "book", "manner", "many", "text", "row"])):=a8 ▸ Qt b3 a1;have f6:B p8=some (.lst [.bl false,.bl false,.bl false,.bl false,.bl false,.bl false,.bl false,.bl true,.bl false,.bl false,.bl false,.bl false]):=a8 ▸ Qt a6 a1;rw [show upd H9 b2 (.lst ([.bl false,.bl false,.bl false,.bl false,.bl false,.bl false,.bl false,.bl true,.bl false,.bl false,.bl false,.bl false] ++ [.bl false,.bl false]))=B from a8];refine ⟨_,rfl,.inl ⟨rfl,_,.inl (.inl j)⟩,_,[false,false,false,false,false,false,false,true,false,false,false,false,false,false],rfl,rfl,j,rfl,_,rfl,Qag ?_⟩
  refine ⟨_,rfl,e,_,_,_,_,true,rfl,rfl,f1,T8.xc,T8.ve,_,rfl,Qag ?_⟩;refine ⟨_,rfl,?_⟩;refine ⟨by decide,fun c7 a4=>?_⟩;obtain ⟨G,a9⟩:∃ G,upd B c7 (.lst (List.map V.str ["name", "short"]))=G:=⟨_,rfl⟩;have f7:G e=some (.ext (IsXD e (c 8) dv)):=a9 ▸ Qt f1 a4;have f9:Same H G:=a9 ▸ Ja g0 a4;have J:G c7=some (.lst (List.map V.str ["name", "short"])):=a9 ▸ Qr;have Y:G p1=some (.lst (List.map V.str ["road", "house", "table", "deed", "letter", "stand", "plan", "book", "manner", "many", "text", "row"])):=a9 ▸ Qt b1 a4;have b0:G b2=some (.lst [.bl false,.bl false,.bl false,.bl false,.bl false,.bl false,.bl false,.bl true,.bl false,.bl false,.bl false,.bl false,.bl false,.bl false]):=a9 ▸ Qt j a4;rw [show upd B c7 (.lst (List.map V.str ["name", "short"]))=G from a9];refine ⟨_,_,_,_,rfl,rfl,Y,J,by decide,fun f4 U=>?_⟩
  obtain ⟨O,Z⟩:∃ O,upd G f4 (.lst (List.map V.str ["road", "house", "table", "deed", "letter", "stand", "plan", "book", "manner", "many", "text", "row"] ++ List.map V.str ["name", "short"]))=O:=⟨_,rfl⟩;have i3:O e=some (.ext (IsXD e (c 8) dv)):=Z ▸ Qt f7 U;have g1:Same H O:=Z ▸ Ja f9 U;have a7:O f4=some (.lst (List.map V.str ["road", "house", "table", "deed", "letter", "stand", "plan", "book", "manner", "many", "text", "row"] ++ List.map V.str ["name", "short"])):=Z ▸ Qr;have g3:O p1=some (.lst (List.map V.str ["road", "house", "table", "deed", "letter", "stand", "plan", "book", "manner", "many", "text", "row"])):=Z ▸ Qt Y U;have I:O b2=some (.lst [.bl false,.bl false,.bl false,.bl false,.bl false,.bl false,.bl false,.bl true,.bl false,.bl false,.bl false,.bl false,.bl false,.bl false]):=Z ▸ Qt b0 U;have f5:O c7=some (.lst (List.map V.str ["name", "short"])):=Z ▸ Qt J U
  rw [show upd G f4 (.lst (List.map V.str ["road", "house", "table", "deed", "letter", "stand", "plan", "book", "manner", "many", "text", "row"] ++ List.map V.str ["name", "short"]))=O from Z];refine ⟨_,rfl,.inl ⟨rfl,_,.inl (.inl I)⟩,_,[false,false,false,false,false,false,false,true,false,false,false,false,false,false],7,rfl,rfl,I,by decide,rfl,noB _ _ (by decide) (by decide),?_⟩;refine ⟨_,_,_,_,rfl,rfl,.inl (.inl a7),rfl,?_⟩;exact hQ _ g1
 ·refine ⟨by decide,fun p1 f8=>?_⟩;obtain ⟨H1,e1⟩:∃ H1,upd H p1 (.lst (List.map V.str ["road", "house", "table", "deed", "letter", "stand", "plan", "book", "manner", "many", "text", "row"]))=H1:=⟨_,rfl⟩;have c8:H1 e=some (.ext (IsXD e (c 1) dv)):=e1 ▸ Qt g8 f8;have i0:Same H H1:=e1 ▸ Ja (fun _ _ z=>z) f8;have d2:H1 p1=some (.lst (List.map V.str ["road", "house", "table", "deed", "letter", "stand", "plan", "book", "manner", "many", "text", "row"])):=e1 ▸ Qr;rw [show upd H p1 (.lst (List.map V.str ["road", "house", "table", "deed", "letter", "stand", "plan", "book", "manner", "many", "text", "row"]))=H1 from e1];refine ⟨_,rfl,e,_,_,_,_,false,rfl,rfl,c8,T1.xc,T1.k 6 (by decide) (by decide),?_⟩;refine ⟨_,rfl,e,_,_,_,_,false,rfl,rfl,c8,T1.xc,T1.k 2 (by decide) (by decide),?_⟩;refine ⟨_,rfl,e,_,_,_,_,true,rfl,rfl,c8,T1.xc,T1.k 1 (by decide) (by decide),?_⟩;refine ⟨by decide,fun p2 f3=>?_⟩
  obtain ⟨H2,e2⟩:∃ H2,upd H1 p2 (.lst [.bl false,.bl false,.bl true])=H2:=⟨_,rfl⟩;have c3:H2 e=some (.ext (IsXD e (c 1) dv)):=e2 ▸ Qt c8 f3;have h5:Same H H2:=e2 ▸ Ja i0 f3;have b8:H2 p2=some (.lst [.bl false,.bl false,.bl true]):=e2 ▸ Qr;have f0:H2 p1=some (.lst (List.map V.str ["road", "house", "table", "deed", "letter", "stand", "plan", "book", "manner", "many", "text", "row"])):=e2 ▸ Qt d2 f3;rw [show upd H1 p2 (.lst (_))=H2 from e2];refine ⟨_,rfl,?_⟩;refine ⟨_,rfl,e,_,_,_,_,false,rfl,rfl,c3,T1.xc,T1.k 3 (by decide) (by decide),?_⟩;refine ⟨_,rfl,e,_,_,_,_,false,rfl,rfl,c3,T1.xc,T1.k 4 (by decide) (by decide),?_⟩;refine ⟨_,rfl,e,_,_,_,_,false,rfl,rfl,c3,T1.xc,T1.k 5 (by decide) (by decide),?_⟩;refine ⟨by decide,fun p3 d7=>?_⟩;obtain ⟨H3,e3⟩:∃ H3,upd H2 p3 (.lst [.bl false,.bl false,.bl false])=H3:=⟨_,rfl⟩;have g7:H3 e=some (.ext (IsXD e (c 1) dv)):=e3 ▸ Qt c3 d7
  have h6:Same H H3:=e3 ▸ Ja h5 d7;have b4:H3 p3=some (.lst [.bl false,.bl false,.bl false]):=e3 ▸ Qr;have d1:H3 p1=some (.lst (List.map V.str ["road", "house", "table", "deed", "letter", "stand", "plan", "book", "manner", "many", "text", "row"])):=e3 ▸ Qt f0 d7;have a3:H3 p2=some (.lst [.bl false,.bl false,.bl true]):=e3 ▸ Qt b8 d7;rw [show upd H2 p3 (.lst (_))=H3 from e3];refine ⟨_,_,_,_,rfl,rfl,a3,b4,by decide,fun p4 e0=>?_⟩;obtain ⟨H4,e4⟩:∃ H4,upd H3 p4 (.lst [.bl false,.bl false,.bl true,.bl false,.bl false,.bl false])=H4:=⟨_,rfl⟩;have c9:H4 e=some (.ext (IsXD e (c 1) dv)):=e4 ▸ Qt g7 e0;have h3:Same H H4:=e4 ▸ Ja h6 e0;have b6:H4 p4=some (.lst [.bl false,.bl false,.bl true,.bl false,.bl false,.bl false]):=e4 ▸ Qr;have d9:H4 p1=some (.lst (List.map V.str ["road", "house", "table", "deed", "letter", "stand", "plan", "book", "manner", "many", "text", "row"])):=e4 ▸ Qt d1 e0
  have g4:H4 p2=some (.lst [.bl false,.bl false,.bl true]):=e4 ▸ Qt a3 e0;rw [show upd H3 p4 (.lst ([.bl false,.bl false,.bl true] ++ [.bl false,.bl false,.bl false]))=H4 from e4];refine ⟨_,rfl,?_⟩;refine ⟨_,rfl,e,_,_,_,_,false,rfl,rfl,c9,T1.xc,T1.k 7 (by decide) (by decide),?_⟩;refine ⟨_,rfl,e,_,_,_,_,false,rfl,rfl,c9,T1.xc,T1.k 8 (by decide) (by decide),?_⟩;refine ⟨_,rfl,e,_,_,_,_,false,rfl,rfl,c9,T1.xc,T1.k 9 (by decide) (by decide),?_⟩;refine ⟨by decide,fun p5 b7=>?_⟩;obtain ⟨H5,e5⟩:∃ H5,upd H4 p5 (.lst [.bl false,.bl false,.bl false])=H5:=⟨_,rfl⟩;have h9:H5 e=some (.ext (IsXD e (c 1) dv)):=e5 ▸ Qt c9 b7;have h4:Same H H5:=e5 ▸ Ja h3 b7;have d3:H5 p5=some (.lst [.bl false,.bl false,.bl false]):=e5 ▸ Qr;have d0:H5 p1=some (.lst (List.map V.str ["road", "house", "table", "deed", "letter", "stand", "plan", "book", "manner", "many", "text", "row"])):=e5 ▸ Qt d9 b7
  have a2:H5 p4=some (.lst [.bl false,.bl false,.bl true,.bl false,.bl false,.bl false]):=e5 ▸ Qt b6 b7;rw [show upd H4 p5 (.lst (_))=H5 from e5];refine ⟨_,_,_,_,rfl,rfl,a2,d3,by decide,fun p6 d4=>?_⟩;obtain ⟨H6,e6⟩:∃ H6,upd H5 p6 (.lst [.bl false,.bl false,.bl true,.bl false,.bl false,.bl false,.bl false,.bl false,.bl false])=H6:=⟨_,rfl⟩;have d5:H6 e=some (.ext (IsXD e (c 1) dv)):=e6 ▸ Qt h9 d4;have h0:Same H H6:=e6 ▸ Ja h4 d4;have c4:H6 p6=some (.lst [.bl false,.bl false,.bl true,.bl false,.bl false,.bl false,.bl false,.bl false,.bl false]):=e6 ▸ Qr;have c0:H6 p1=some (.lst (List.map V.str ["road", "house", "table", "deed", "letter", "stand", "plan", "book", "manner", "many", "text", "row"])):=e6 ▸ Qt d0 d4;have g6:H6 p4=some (.lst [.bl false,.bl false,.bl true,.bl false,.bl false,.bl false]):=e6 ▸ Qt a2 d4;rw [show upd H5 p6 (.lst ([.bl false,.bl false,.bl true,.bl false,.bl false,.bl false] ++ [.bl false,.bl false,.bl false]))=H6 from e6]
  refine ⟨_,rfl,?_⟩;refine ⟨_,rfl,e,_,_,_,_,false,rfl,rfl,d5,T1.xc,T1.k 10 (by decide) (by decide),?_⟩;refine ⟨_,rfl,e,_,_,_,_,false,rfl,rfl,d5,T1.xc,T1.k 11 (by decide) (by decide),?_⟩;refine ⟨_,rfl,e,_,_,_,_,false,rfl,rfl,d5,T1.xc,T1.k 12 (by decide) (by decide),?_⟩;refine ⟨by decide,fun p7 d6=>?_⟩;obtain ⟨H7,e7⟩:∃ H7,upd H6 p7 (.lst [.bl false,.bl false,.bl false])=H7:=⟨_,rfl⟩;have i1:H7 e=some (.ext (IsXD e (c 1) dv)):=e7 ▸ Qt d5 d6;have h8:Same H H7:=e7 ▸ Ja h0 d6;have d8:H7 p7=some (.lst [.bl false,.bl false,.bl false]):=e7 ▸ Qr;have c2:H7 p1=some (.lst (List.map V.str ["road", "house", "table", "deed", "letter", "stand", "plan", "book", "manner", "many", "text", "row"])):=e7 ▸ Qt c0 d6;have a5:H7 p6=some (.lst [.bl false,.bl false,.bl true,.bl false,.bl false,.bl false,.bl false,.bl false,.bl false]):=e7 ▸ Qt c4 d6;rw [show upd H6 p7 (.lst (_))=H7 from e7]
  refine ⟨_,_,_,_,rfl,rfl,a5,d8,by decide,fun p8 b9=>?_⟩;obtain ⟨H8,e8⟩:∃ H8,upd H7 p8 (.lst [.bl false,.bl false,.bl true,.bl false,.bl false,.bl false,.bl false,.bl false,.bl false,.bl false,.bl false,.bl false])=H8:=⟨_,rfl⟩;have f2:H8 e=some (.ext (IsXD e (c 1) dv)):=e8 ▸ Qt i1 b9;have h7:Same H H8:=e8 ▸ Ja h8 b9;have c5:H8 p8=some (.lst [.bl false,.bl false,.bl true,.bl false,.bl false,.bl false,.bl false,.bl false,.bl false,.bl false,.bl false,.bl false]):=e8 ▸ Qr;have b5:H8 p1=some (.lst (List.map V.str ["road", "house", "table", "deed", "letter", "stand", "plan", "book", "manner", "many", "text", "row"])):=e8 ▸ Qt c2 b9;have g5:H8 p6=some (.lst [.bl false,.bl false,.bl true,.bl false,.bl false,.bl false,.bl false,.bl false,.bl false]):=e8 ▸ Qt a5 b9;rw [show upd H7 p8 (.lst ([.bl false,.bl false,.bl true,.bl false,.bl false,.bl false,.bl false,.bl false,.bl false] ++ [.bl false,.bl false,.bl false]))=H8 from e8]
  refine ⟨_,rfl,?_⟩;refine ⟨_,rfl,e,_,_,_,_,false,rfl,rfl,f2,T1.xc,T1.k 13 (by decide) (by decide),?_⟩;refine ⟨_,rfl,e,_,_,_,_,false,rfl,rfl,f2,T1.xc,T1.k 14 (by decide) (by decide),?_⟩;refine ⟨by decide,fun p9 c6=>?_⟩;obtain ⟨H9,e9⟩:∃ H9,upd H8 p9 (.lst [.bl false,.bl false])=H9:=⟨_,rfl⟩;have i2:H9 e=some (.ext (IsXD e (c 1) dv)):=e9 ▸ Qt f2 c6;have g9:Same H H9:=e9 ▸ Ja h7 c6;have c1:H9 p9=some (.lst [.bl false,.bl false]):=e9 ▸ Qr;have b3:H9 p1=some (.lst (List.map V.str ["road", "house", "table", "deed", "letter", "stand", "plan", "book", "manner", "many", "text", "row"])):=e9 ▸ Qt b5 c6;have a6:H9 p8=some (.lst [.bl false,.bl false,.bl true,.bl false,.bl false,.bl false,.bl false,.bl false,.bl false,.bl false,.bl false,.bl false]):=e9 ▸ Qt c5 c6;rw [show upd H8 p9 (.lst (_))=H9 from e9];refine ⟨_,_,_,_,rfl,rfl,a6,c1,by decide,fun b2 a1=>?_⟩;obtain ⟨B,a8⟩:∃ B,upd H9 b2 (.lst [.bl false,.bl false,.bl true,.bl false,.bl false,.bl false,.bl false,.bl false,.bl false,.bl false,.bl false,.bl false,.bl false,.bl false])=B:=⟨_,rfl⟩
  have f1:B e=some (.ext (IsXD e (c 1) dv)):=a8 ▸ Qt i2 a1;have g0:Same H B:=a8 ▸ Ja g9 a1;have j:B b2=some (.lst [.bl false,.bl false,.bl true,.bl false,.bl false,.bl false,.bl false,.bl false,.bl false,.bl false,.bl false,.bl false,.bl false,.bl false]):=a8 ▸ Qr;have b1:B p1=some (.lst (List.map V.str ["road", "house", "table", "deed", "letter", "stand", "plan", "book", "manner", "many", "text", "row"])):=a8 ▸ Qt b3 a1;have f6:B p8=some (.lst [.bl false,.bl false,.bl true,.bl false,.bl false,.bl false,.bl false,.bl false,.bl false,.bl false,.bl false,.bl false]):=a8 ▸ Qt a6 a1;rw [show upd H9 b2 (.lst ([.bl false,.bl false,.bl true,.bl false,.bl false,.bl false,.bl false,.bl false,.bl false,.bl false,.bl false,.bl false] ++ [.bl false,.bl false]))=B from a8];refine ⟨_,rfl,.inl ⟨rfl,_,.inl (.inl j)⟩,_,[false,false,true,false,false,false,false,false,false,false,false,false,false,false],rfl,rfl,j,rfl,_,rfl,Qag ?_⟩
  refine ⟨_,rfl,e,_,_,_,_,true,rfl,rfl,f1,T1.xc,T1.ve,_,rfl,Qag ?_⟩;refine ⟨_,rfl,?_⟩;refine ⟨by decide,fun c7 a4=>?_⟩;obtain ⟨G,a9⟩:∃ G,upd B c7 (.lst (List.map V.str ["name", "short"]))=G:=⟨_,rfl⟩;have f7:G e=some (.ext (IsXD e (c 1) dv)):=a9 ▸ Qt f1 a4;have f9:Same H G:=a9 ▸ Ja g0 a4;have J:G c7=some (.lst (List.map V.str ["name", "short"])):=a9 ▸ Qr;have Y:G p1=some (.lst (List.map V.str ["road", "house", "table", "deed", "letter", "stand", "plan", "book", "manner", "many", "text", "row"])):=a9 ▸ Qt b1 a4;have b0:G b2=some (.lst [.bl false,.bl false,.bl true,.bl false,.bl false,.bl false,.bl false,.bl false,.bl false,.bl false,.bl false,.bl false,.bl false,.bl false]):=a9 ▸ Qt j a4;rw [show upd B c7 (.lst (List.map V.str ["name", "short"]))=G from a9];refine ⟨_,_,_,_,rfl,rfl,Y,J,by decide,fun f4 U=>?_⟩
  obtain ⟨O,Z⟩:∃ O,upd G f4 (.lst (List.map V.str ["road", "house", "table", "deed", "letter", "stand", "plan", "book", "manner", "many", "text", "row"] ++ List.map V.str ["name", "short"]))=O:=⟨_,rfl⟩;have i3:O e=some (.ext (IsXD e (c 1) dv)):=Z ▸ Qt f7 U;have g1:Same H O:=Z ▸ Ja f9 U;have a7:O f4=some (.lst (List.map V.str ["road", "house", "table", "deed", "letter", "stand", "plan", "book", "manner", "many", "text", "row"] ++ List.map V.str ["name", "short"])):=Z ▸ Qr;have g3:O p1=some (.lst (List.map V.str ["road", "house", "table", "deed", "letter", "stand", "plan", "book", "manner", "many", "text", "row"])):=Z ▸ Qt Y U;have I:O b2=some (.lst [.bl false,.bl false,.bl true,.bl false,.bl false,.bl false,.bl false,.bl false,.bl false,.bl false,.bl false,.bl false,.bl false,.bl false]):=Z ▸ Qt b0 U;have f5:O c7=some (.lst (List.map V.str ["name", "short"])):=Z ▸ Qt J U
  rw [show upd G f4 (.lst (List.map V.str ["road", "house", "table", "deed", "letter", "stand", "plan", "book", "manner", "many", "text", "row"] ++ List.map V.str ["name", "short"]))=O from Z];refine ⟨_,rfl,.inl ⟨rfl,_,.inl (.inl I)⟩,_,[false,false,true,false,false,false,false,false,false,false,false,false,false,false],2,rfl,rfl,I,by decide,rfl,noB _ _ (by decide) (by decide),?_⟩;refine ⟨_,_,_,_,rfl,rfl,.inl (.inl a7),rfl,?_⟩;exact hQ _ g1
 ·refine ⟨by decide,fun p1 f8=>?_⟩;obtain ⟨H1,e1⟩:∃ H1,upd H p1 (.lst (List.map V.str ["road", "house", "table", "deed", "letter", "stand", "plan", "book", "manner", "many", "text", "row"]))=H1:=⟨_,rfl⟩;have c8:H1 e=some (.ext (IsXD e (c 2) dv)):=e1 ▸ Qt g8 f8;have i0:Same H H1:=e1 ▸ Ja (fun _ _ z=>z) f8;have d2:H1 p1=some (.lst (List.map V.str ["road", "house", "table", "deed", "letter", "stand", "plan", "book", "manner", "many", "text", "row"])):=e1 ▸ Qr;rw [show upd H p1 (.lst (List.map V.str ["road", "house", "table", "deed", "letter", "stand", "plan", "book", "manner", "many", "text", "row"]))=H1 from e1];refine ⟨_,rfl,e,_,_,_,_,false,rfl,rfl,c8,T2.xc,T2.k 6 (by decide) (by decide),?_⟩;refine ⟨_,rfl,e,_,_,_,_,true,rfl,rfl,c8,T2.xc,T2.k 2 (by decide) (by decide),?_⟩;refine ⟨_,rfl,e,_,_,_,_,false,rfl,rfl,c8,T2.xc,T2.k 1 (by decide) (by decide),?_⟩;refine ⟨by decide,fun p2 f3=>?_⟩
  obtain ⟨H2,e2⟩:∃ H2,upd H1 p2 (.lst [.bl false,.bl true,.bl false])=H2:=⟨_,rfl⟩;have c3:H2 e=some (.ext (IsXD e (c 2) dv)):=e2 ▸ Qt c8 f3;have h5:Same H H2:=e2 ▸ Ja i0 f3;have b8:H2 p2=some (.lst [.bl false,.bl true,.bl false]):=e2 ▸ Qr;have f0:H2 p1=some (.lst (List.map V.str ["road", "house", "table", "deed", "letter", "stand", "plan", "book", "manner", "many", "text", "row"])):=e2 ▸ Qt d2 f3;rw [show upd H1 p2 (.lst (_))=H2 from e2];refine ⟨_,rfl,?_⟩;refine ⟨_,rfl,e,_,_,_,_,false,rfl,rfl,c3,T2.xc,T2.k 3 (by decide) (by decide),?_⟩;refine ⟨_,rfl,e,_,_,_,_,false,rfl,rfl,c3,T2.xc,T2.k 4 (by decide) (by decide),?_⟩;refine ⟨_,rfl,e,_,_,_,_,false,rfl,rfl,c3,T2.xc,T2.k 5 (by decide) (by decide),?_⟩;refine ⟨by decide,fun p3 d7=>?_⟩;obtain ⟨H3,e3⟩:∃ H3,upd H2 p3 (.lst [.bl false,.bl false,.bl false])=H3:=⟨_,rfl⟩;have g7:H3 e=some (.ext (IsXD e (c 2) dv)):=e3 ▸ Qt c3 d7
  have h6:Same H H3:=e3 ▸ Ja h5 d7;have b4:H3 p3=some (.lst [.bl false,.bl false,.bl false]):=e3 ▸ Qr;have d1:H3 p1=some (.lst (List.map V.str ["road", "house", "table", "deed", "letter", "stand", "plan", "book", "manner", "many", "text", "row"])):=e3 ▸ Qt f0 d7;have a3:H3 p2=some (.lst [.bl false,.bl true,.bl false]):=e3 ▸ Qt b8 d7;rw [show upd H2 p3 (.lst (_))=H3 from e3];refine ⟨_,_,_,_,rfl,rfl,a3,b4,by decide,fun p4 e0=>?_⟩;obtain ⟨H4,e4⟩:∃ H4,upd H3 p4 (.lst [.bl false,.bl true,.bl false,.bl false,.bl false,.bl false])=H4:=⟨_,rfl⟩;have c9:H4 e=some (.ext (IsXD e (c 2) dv)):=e4 ▸ Qt g7 e0;have h3:Same H H4:=e4 ▸ Ja h6 e0;have b6:H4 p4=some (.lst [.bl false,.bl true,.bl false,.bl false,.bl false,.bl false]):=e4 ▸ Qr;have d9:H4 p1=some (.lst (List.map V.str ["road", "house", "table", "deed", "letter", "stand", "plan", "book", "manner", "many", "text", "row"])):=e4 ▸ Qt d1 e0
  have g4:H4 p2=some (.lst [.bl false,.bl true,.bl false]):=e4 ▸ Qt a3 e0;rw [show upd H3 p4 (.lst ([.bl false,.bl true,.bl false] ++ [.bl false,.bl false,.bl false]))=H4 from e4];refine ⟨_,rfl,?_⟩;refine ⟨_,rfl,e,_,_,_,_,false,rfl,rfl,c9,T2.xc,T2.k 7 (by decide) (by decide),?_⟩;refine ⟨_,rfl,e,_,_,_,_,false,rfl,rfl,c9,T2.xc,T2.k 8 (by decide) (by decide),?_⟩;refine ⟨_,rfl,e,_,_,_,_,false,rfl,rfl,c9,T2.xc,T2.k 9 (by decide) (by decide),?_⟩;refine ⟨by decide,fun p5 b7=>?_⟩;obtain ⟨H5,e5⟩:∃ H5,upd H4 p5 (.lst [.bl false,.bl false,.bl false])=H5:=⟨_,rfl⟩;have h9:H5 e=some (.ext (IsXD e (c 2) dv)):=e5 ▸ Qt c9 b7;have h4:Same H H5:=e5 ▸ Ja h3 b7;have d3:H5 p5=some (.lst [.bl false,.bl false,.bl false]):=e5 ▸ Qr;have d0:H5 p1=some (.lst (List.map V.str ["road", "house", "table", "deed", "letter", "stand", "plan", "book", "manner", "many", "text", "row"])):=e5 ▸ Qt d9 b7
  have a2:H5 p4=some (.lst [.bl false,.bl true,.bl false,.bl false,.bl false,.bl false]):=e5 ▸ Qt b6 b7;rw [show upd H4 p5 (.lst (_))=H5 from e5];refine ⟨_,_,_,_,rfl,rfl,a2,d3,by decide,fun p6 d4=>?_⟩;obtain ⟨H6,e6⟩:∃ H6,upd H5 p6 (.lst [.bl false,.bl true,.bl false,.bl false,.bl false,.bl false,.bl false,.bl false,.bl false])=H6:=⟨_,rfl⟩;have d5:H6 e=some (.ext (IsXD e (c 2) dv)):=e6 ▸ Qt h9 d4;have h0:Same H H6:=e6 ▸ Ja h4 d4;have c4:H6 p6=some (.lst [.bl false,.bl true,.bl false,.bl false,.bl false,.bl false,.bl false,.bl false,.bl false]):=e6 ▸ Qr;have c0:H6 p1=some (.lst (List.map V.str ["road", "house", "table", "deed", "letter", "stand", "plan", "book", "manner", "many", "text", "row"])):=e6 ▸ Qt d0 d4;have g6:H6 p4=some (.lst [.bl false,.bl true,.bl false,.bl false,.bl false,.bl false]):=e6 ▸ Qt a2 d4;rw [show upd H5 p6 (.lst ([.bl false,.bl true,.bl false,.bl false,.bl false,.bl false] ++ [.bl false,.bl false,.bl false]))=H6 from e6]
  refine ⟨_,rfl,?_⟩;refine ⟨_,rfl,e,_,_,_,_,false,rfl,rfl,d5,T2.xc,T2.k 10 (by decide) (by decide),?_⟩;refine ⟨_,rfl,e,_,_,_,_,false,rfl,rfl,d5,T2.xc,T2.k 11 (by decide) (by decide),?_⟩;refine ⟨_,rfl,e,_,_,_,_,false,rfl,rfl,d5,T2.xc,T2.k 12 (by decide) (by decide),?_⟩;refine ⟨by decide,fun p7 d6=>?_⟩;obtain ⟨H7,e7⟩:∃ H7,upd H6 p7 (.lst [.bl false,.bl false,.bl false])=H7:=⟨_,rfl⟩;have i1:H7 e=some (.ext (IsXD e (c 2) dv)):=e7 ▸ Qt d5 d6;have h8:Same H H7:=e7 ▸ Ja h0 d6;have d8:H7 p7=some (.lst [.bl false,.bl false,.bl false]):=e7 ▸ Qr;have c2:H7 p1=some (.lst (List.map V.str ["road", "house", "table", "deed", "letter", "stand", "plan", "book", "manner", "many", "text", "row"])):=e7 ▸ Qt c0 d6;have a5:H7 p6=some (.lst [.bl false,.bl true,.bl false,.bl false,.bl false,.bl false,.bl false,.bl false,.bl false]):=e7 ▸ Qt c4 d6;rw [show upd H6 p7 (.lst (_))=H7 from e7]
  refine ⟨_,_,_,_,rfl,rfl,a5,d8,by decide,fun p8 b9=>?_⟩;obtain ⟨H8,e8⟩:∃ H8,upd H7 p8 (.lst [.bl false,.bl true,.bl false,.bl false,.bl false,.bl false,.bl false,.bl false,.bl false,.bl false,.bl false,.bl false])=H8:=⟨_,rfl⟩;have f2:H8 e=some (.ext (IsXD e (c 2) dv)):=e8 ▸ Qt i1 b9;have h7:Same H H8:=e8 ▸ Ja h8 b9;have c5:H8 p8=some (.lst [.bl false,.bl true,.bl false,.bl false,.bl false,.bl false,.bl false,.bl false,.bl false,.bl false,.bl false,.bl false]):=e8 ▸ Qr;have b5:H8 p1=some (.lst (List.map V.str ["road", "house", "table", "deed", "letter", "stand", "plan", "book", "manner", "many", "text", "row"])):=e8 ▸ Qt c2 b9;have g5:H8 p6=some (.lst [.bl false,.bl true,.bl false,.bl false,.bl false,.bl false,.bl false,.bl false,.bl false]):=e8 ▸ Qt a5 b9;rw [show upd H7 p8 (.lst ([.bl false,.bl true,.bl false,.bl false,.bl false,.bl false,.bl false,.bl false,.bl false] ++ [.bl false,.bl false,.bl false]))=H8 from e8]
  refine ⟨_,rfl,?_⟩;refine ⟨_,rfl,e,_,_,_,_,false,rfl,rfl,f2,T2.xc,T2.k 13 (by decide) (by decide),?_⟩;refine ⟨_,rfl,e,_,_,_,_,false,rfl,rfl,f2,T2.xc,T2.k 14 (by decide) (by decide),?_⟩;refine ⟨by decide,fun p9 c6=>?_⟩;obtain ⟨H9,e9⟩:∃ H9,upd H8 p9 (.lst [.bl false,.bl false])=H9:=⟨_,rfl⟩;have i2:H9 e=some (.ext (IsXD e (c 2) dv)):=e9 ▸ Qt f2 c6;have g9:Same H H9:=e9 ▸ Ja h7 c6;have c1:H9 p9=some (.lst [.bl false,.bl false]):=e9 ▸ Qr;have b3:H9 p1=some (.lst (List.map V.str ["road", "house", "table", "deed", "letter", "stand", "plan", "book", "manner", "many", "text", "row"])):=e9 ▸ Qt b5 c6;have a6:H9 p8=some (.lst [.bl false,.bl true,.bl false,.bl false,.bl false,.bl false,.bl false,.bl false,.bl false,.bl false,.bl false,.bl false]):=e9 ▸ Qt c5 c6;rw [show upd H8 p9 (.lst (_))=H9 from e9];refine ⟨_,_,_,_,rfl,rfl,a6,c1,by decide,fun b2 a1=>?_⟩;obtain ⟨B,a8⟩:∃ B,upd H9 b2 (.lst [.bl false,.bl true,.bl false,.bl false,.bl false,.bl false,.bl false,.bl false,.bl false,.bl false,.bl false,.bl false,.bl false,.bl false])=B:=⟨_,rfl⟩
  have f1:B e=some (.ext (IsXD e (c 2) dv)):=a8 ▸ Qt i2 a1;have g0:Same H B:=a8 ▸ Ja g9 a1;have j:B b2=some (.lst [.bl false,.bl true,.bl false,.bl false,.bl false,.bl false,.bl false,.bl false,.bl false,.bl false,.bl false,.bl false,.bl false,.bl false]):=a8 ▸ Qr;have b1:B p1=some (.lst (List.map V.str ["road", "house", "table", "deed", "letter", "stand", "plan", "book", "manner", "many", "text", "row"])):=a8 ▸ Qt b3 a1;have f6:B p8=some (.lst [.bl false,.bl true,.bl false,.bl false,.bl false,.bl false,.bl false,.bl false,.bl false,.bl false,.bl false,.bl false]):=a8 ▸ Qt a6 a1;rw [show upd H9 b2 (.lst ([.bl false,.bl true,.bl false,.bl false,.bl false,.bl false,.bl false,.bl false,.bl false,.bl false,.bl false,.bl false] ++ [.bl false,.bl false]))=B from a8];refine ⟨_,rfl,.inl ⟨rfl,_,.inl (.inl j)⟩,_,[false,true,false,false,false,false,false,false,false,false,false,false,false,false],rfl,rfl,j,rfl,_,rfl,Qag ?_⟩
  refine ⟨_,rfl,e,_,_,_,_,true,rfl,rfl,f1,T2.xc,T2.ve,_,rfl,Qag ?_⟩;refine ⟨_,rfl,?_⟩;refine ⟨by decide,fun c7 a4=>?_⟩;obtain ⟨G,a9⟩:∃ G,upd B c7 (.lst (List.map V.str ["name", "short"]))=G:=⟨_,rfl⟩;have f7:G e=some (.ext (IsXD e (c 2) dv)):=a9 ▸ Qt f1 a4;have f9:Same H G:=a9 ▸ Ja g0 a4;have J:G c7=some (.lst (List.map V.str ["name", "short"])):=a9 ▸ Qr;have Y:G p1=some (.lst (List.map V.str ["road", "house", "table", "deed", "letter", "stand", "plan", "book", "manner", "many", "text", "row"])):=a9 ▸ Qt b1 a4;have b0:G b2=some (.lst [.bl false,.bl true,.bl false,.bl false,.bl false,.bl false,.bl false,.bl false,.bl false,.bl false,.bl false,.bl false,.bl false,.bl false]):=a9 ▸ Qt j a4;rw [show upd B c7 (.lst (List.map V.str ["name", "short"]))=G from a9];refine ⟨_,_,_,_,rfl,rfl,Y,J,by decide,fun f4 U=>?_⟩
  obtain ⟨O,Z⟩:∃ O,upd G f4 (.lst (List.map V.str ["road", "house", "table", "deed", "letter", "stand", "plan", "book", "manner", "many", "text", "row"] ++ List.map V.str ["name", "short"]))=O:=⟨_,rfl⟩;have i3:O e=some (.ext (IsXD e (c 2) dv)):=Z ▸ Qt f7 U;have g1:Same H O:=Z ▸ Ja f9 U;have a7:O f4=some (.lst (List.map V.str ["road", "house", "table", "deed", "letter", "stand", "plan", "book", "manner", "many", "text", "row"] ++ List.map V.str ["name", "short"])):=Z ▸ Qr;have g3:O p1=some (.lst (List.map V.str ["road", "house", "table", "deed", "letter", "stand", "plan", "book", "manner", "many", "text", "row"])):=Z ▸ Qt Y U;have I:O b2=some (.lst [.bl false,.bl true,.bl false,.bl false,.bl false,.bl false,.bl false,.bl false,.bl false,.bl false,.bl false,.bl false,.bl false,.bl false]):=Z ▸ Qt b0 U;have f5:O c7=some (.lst (List.map V.str ["name", "short"])):=Z ▸ Qt J U
  rw [show upd G f4 (.lst (List.map V.str ["road", "house", "table", "deed", "letter", "stand", "plan", "book", "manner", "many", "text", "row"] ++ List.map V.str ["name", "short"]))=O from Z];refine ⟨_,rfl,.inl ⟨rfl,_,.inl (.inl I)⟩,_,[false,true,false,false,false,false,false,false,false,false,false,false,false,false],1,rfl,rfl,I,by decide,rfl,noB _ _ (by decide) (by decide),?_⟩;refine ⟨_,_,_,_,rfl,rfl,.inl (.inl a7),rfl,?_⟩;exact hQ _ g1
theorem Qrv {H:Hp} {ρ:Tk} {ps:List PV} {a b c d:V} (r:RepL H ρ ps [a,b,c,d]):∃ p q t u,ps=[p,q,t,u]/\Rep H ρ p a/\Rep H ρ q b/\Rep H ρ t c/\Rep H ρ u d:=by
 have l:=r.length
 match ps,l with
 | [p,q,t,u],_=>
  obtain ⟨_,_,e,h1,_,_,e2,h2,_,_,e3,j,_,_,B,z,_⟩:=r;cases e; cases e2; cases e3; cases B;exact ⟨_,_,_,_,rfl,h1,h2,j,z⟩
def Je:FN:=fun ps st=>match Jn [ps.getD 0 .non,ps.getD 1 .non,ps.getD 2 .non,ps.getD 3 .non,.int 1] st with
 | .ok v st1=>.ok (.str "") st1
 | .exc x st1=>if x.cls = "NoBook" then .ok (.str "book") st1 else if x.cls = "NoTable" then .ok (.str "table") st1 else if x.cls = "NoHouse" then .ok (.str "house") st1 else .stuck
 | .stuck=>.stuck
theorem sc__law_e_word:FnScope ["book", "table", "pool", "gone", "caught", "e"] ["book", "table", "pool", "gone"] (Qf jf):=⟨rfl,rfl,rfl,by decide +kernel,rfl,by decide +kernel,by decide +kernel⟩
theorem Q5k {f:aA} {fd:aM} {c:Nat->aA} (F:Fun K "_law_e_word" "_law_e_word" jf f fd) (T:Txt mg) (Nm:Nms mg c) (T8:TgtS K c 8) (T1:TgtS K c 1) (T2:TgtS K c 2) (G:DefS P w K mg base 10 "heirs_may" 5 Jn) (B:DefX P w K mg base 1 "_law_e_kind" ["caught"] (Quy c)):FnOk P w K mg base (CXD P w) 11 f fd ["book", "table", "pool", "gone"] (spF mg 4 Je):=by
 obtain ⟨fR,a9,a7,FR,mR,kR,bR,lR⟩:=G.ex;obtain ⟨fX,a6,FX,mX,kX,bX⟩:=B.ex;refine Fun.okD (k:=10) F sc__law_e_word (fun vs H Q E h=>h.1) fun a5 A outer s H vs Q E hr a4=>?_
 obtain ⟨hl,ρ,J,a8,R,rl,z⟩:=a4;refine ⟨_,xm (Q9t (i:=4) sc__law_e_word.nd rfl (Or.inl rfl) Qdr)
   (xm (Qgj FR (hr.mono (by decide)) mR kR bR (J7 (pv 0) (J7 (pv 1) (J7 (pv 2) (J7 (pv 3) (J7 Qdt Y8))))) sc__law_e_word.nd (i:=5) rfl rfl (fun e=>Q23 (Q9t (i:=4) sc__law_e_word.nd rfl (Or.inl rfl) (pv 5))) Nm.m0)
   (xm (Qjb (Q9r Qsj (pv 4) Qdr (Qa5 _)) (Q23 (Q9u Q9v)) Q9s)
   (Q23 (Q9u (Qez (x := "_law_e_kind") (E:=E) FX (hr.mono (by decide)) (by rfl) mX kX bX .nil Qd (J7 (pv 4) Y8)))))),?_⟩
 match vs,hl with
 | [v0,v1,v2,v3],hl=>
 obtain ⟨q0,q1,q2,q3,rfl,r0,r1,r2,r3⟩:=Qrv rl;refine ⟨_,rfl,_,rfl,_,rfl,_,rfl,  rfl,ρ,J,[q0,q1,q2,q3,.int 1],R,RepL.cons r0 (RepL.cons r1 (RepL.cons r2 (RepL.cons r3 (RepL.cons rfl RepL.nil)))),?_⟩;unfold Je at z;cases hr:Jn [q0,q1,q2,q3,.int 1] J with
 | ok a j=>
  have z:Acc mg E H ρ (QV Q) (match Jn [q0,q1,q2,q3,.int 1] J with | .ok v j=>.ok (.str "") j | .exc x j=>if x.cls = "NoBook" then .ok (.str "book") j else if x.cls = "NoTable" then .ok (.str "table") j else if x.cls = "NoHouse" then .ok (.str "house") j else .stuck | .stuck=>.stuck):=z
  rw [hr] at z;exact fun H1 ρ1 Z R1 v r=>⟨_,rfl,rfl,_,rfl,Qyj (z H1 ρ1 Z R1 _ rfl)⟩
 | stuck=>
  have z:Acc mg E H ρ (QV Q) (match Jn [q0,q1,q2,q3,.int 1] J with | .ok v j=>.ok (.str "") j | .exc x j=>if x.cls = "NoBook" then .ok (.str "book") j else if x.cls = "NoTable" then .ok (.str "table") j else if x.cls = "NoHouse" then .ok (.str "house") j else .stuck | .stuck=>.stuck):=z
  rw [hr] at z; exact z.elim
 | exc x j=>
  have z:Acc mg E H ρ (QV Q) (match Jn [q0,q1,q2,q3,.int 1] J with | .ok v j=>.ok (.str "") j | .exc x j=>if x.cls = "NoBook" then .ok (.str "book") j else if x.cls = "NoTable" then .ok (.str "table") j else if x.cls = "NoHouse" then .ok (.str "house") j else .stuck | .stuck=>.stuck):=z
  rw [hr] at z;dsimp only at z
  by_cases a2:x.cls = "NoBook"
  ·rw [bQ a2] at z;intro C I H1 ρ1 Y Z R1 fs;rw [a2,Nm.m8] at Y;cases Y;refine ⟨_,rfl,T8.ex,fun e O=>?_⟩;have x2:Ext H1 ρ1 (upd H1 e (.ext (IsXD e (c 8) I))) ρ1:=Ext.add O;have R2:=R1.add (o:=.ext (IsXD e (c 8) I)) O;refine ⟨_,rfl,_,rfl,rfl,_,rfl,Qag ?_⟩;refine ⟨_,rfl,e,I,rfl,.inl ⟨Qr,fun H2 U=>z _ _ ((Z.trans x2).trans (Ext.same U)) (R2.same U) _ rfl⟩⟩
  ·rw [bS a2] at z
   by_cases a3:x.cls = "NoTable"
   ·rw [bQ a3] at z;intro C I H1 ρ1 Y Z R1 fs;rw [a3,Nm.m1] at Y;cases Y;refine ⟨_,rfl,T1.ex,fun e O=>?_⟩;have x2:Ext H1 ρ1 (upd H1 e (.ext (IsXD e (c 1) I))) ρ1:=Ext.add O;have R2:=R1.add (o:=.ext (IsXD e (c 1) I)) O;refine ⟨_,rfl,_,rfl,rfl,_,rfl,Qag ?_⟩;refine ⟨_,rfl,e,I,rfl,.inr (.inl ⟨Qr,fun H2 U=>z _ _ ((Z.trans x2).trans (Ext.same U)) (R2.same U) _ rfl⟩)⟩
   ·rw [bS a3] at z
    by_cases a1:x.cls = "NoHouse"
    ·rw [bQ a1] at z;intro C I H1 ρ1 Y Z R1 fs;rw [a1,Nm.m2] at Y;cases Y;refine ⟨_,rfl,T2.ex,fun e O=>?_⟩;have x2:Ext H1 ρ1 (upd H1 e (.ext (IsXD e (c 2) I))) ρ1:=Ext.add O;have R2:=R1.add (o:=.ext (IsXD e (c 2) I)) O;refine ⟨_,rfl,_,rfl,rfl,_,rfl,Qag ?_⟩;refine ⟨_,rfl,e,I,rfl,.inr (.inr (⟨Qr,fun H2 U=>z _ _ ((Z.trans x2).trans (Ext.same U)) (R2.same U) _ rfl⟩))⟩
    ·rw [bS a1] at z;exact z.elim
def Vs:MS:=(Zc (zn (toB (mOp oNe (Qe 4 Je (Q3 (Q4 6) (Q3 (Q4 5) (Q3 (Zt Q8) (Q3 (Q4 3) Q8))))) (mC (.str "book")))) (toB (mOp oNe (Qe 4 Je (Q3 (Q4 6) (Q3 (Q4 1) (Q3 (Q4 2) (Q3 (Q4 3) Q8))))) (mC (.str "book"))))) (Jz (mC (.bl false))) Jt)
def Vr:MS:=(Zc (toB (mOp oNe (Qe 4 Je (Q3 (Q4 0) (Q3 (Q4 1) (Q3 (Q4 7) (Q3 (Q4 8) Q8))))) (mC (.str "house")))) (Jz (mC (.bl false))) Jt)
def W3 : MS := (Qh (Jm 4 (J1 Zf (Q3 (Q4 1) Q8)))
  (Qh (Jm 5 (mOp Zb (Zt (Q3 (mOp Zb (mSl (mOp oIx (Q4 1) (mC (.int 0))) Ve (z9 (Q4 4))) (Zt (Q3 (mOp Zb (mOp Zb (mOp oIx (mOp oIx (Q4 1) (mC (.int 0))) (Q4 4)) (Qe 2 Jf (Q3 (Q4 1) (Q3 (mC (.int 0)) Q8)))) (mC (.int 1))) Q8))) Q8)) (mSl (Q4 1) (z9 (mC (.int 1))) Ve)))
  (Qh (y4 (Qb 6) (V4 (Q61 (Q3 (Zt (Q3 (mOp Zb (mOp Q0r (Q4 4) (mC (.int 9))) (mC (.int 1))) (Q3 (Zt (Q3 (Zt (Q3 (mC (.int 0)) Q8)) Q8)) Q8))) (Q3 (Zt (Q3 (Q4 4) (Q3 (Zt Q8) Q8))) (Q3 (Zt (Q3 (Q4 4) (Q3 (Zt (Q3 (Zt (Q3 (Q4 4) Q8)) Q8)) Q8))) (Q3 (mC .non) Q8)))))) Vs)
  (Qh (Zc (zn (toB (mOp oNe (Qe 4 Je (Q3 (Q4 0) (Q3 (Q4 5) (Q3 (Q4 2) (Q3 (Q4 3) Q8))))) (mC (.str "table")))) (toB (mOp oNe (Qe 4 Je (Q3 (Q4 0) (Q3 (Q4 5) (Q3 (Zt Q8) (Q3 (Q4 3) Q8))))) (mC (.str "table"))))) (Jz (mC (.bl false))) Jt)
  (Qh (y4 (Q40 (K1 (Qb 7) (K1 (Qb 8) Q41))) (V4 (Q61 (Q3 (Zt (Q3 (Zt Q8) (Q3 (Q4 3) Q8))) (Q3 (Zt (Q3 (Q4 2) (Q3 (Q4 2) Q8))) (Q3 (Zt (Q3 (Zt (Q3 (Q4 4) Q8)) (Q3 (Zt Q8) Q8))) (Q3 (Zt (Q3 (Q4 2) (Q3 (Zt (Q3 (Q4 4) Q8)) Q8))) (Q3 (Zt (Q3 (Zt (Q3 (mC (.int 0)) (Q3 (mC (.int 0)) Q8))) (Q3 (Zt Q8) Q8))) (Q3 (Zt (Q3 (Zt (Q3 (Qpk (mC (.int 1))) Q8)) (Q3 (Zt Q8) Q8))) (Q3 (Zt (Q3 (Q4 2) (Q3 (Zt (Q3 (Qpk (mC (.int 1))) Q8)) Q8))) Q8))))))))) Vr)
  (Jz (mOp oEq (Qe 4 Je (Q3 (Q4 0) (Q3 (Q4 1) (Q3 (Q4 2) (Q3 (Q4 3) Q8))))) (mC (.str "")))))))))
def Y3:FN:=Qq W3 9
theorem sc__law_e_refusals_right:FnScope ["book", "table", "pool", "gone", "n", "short", "bad", "one", "other"] ["book", "table", "pool", "gone"] (Qf Yz):=⟨rfl,rfl,rfl,by decide +kernel,rfl,by decide +kernel,by decide +kernel⟩
theorem jj {f:aA} {fd:aM} (F:Fun K "_law_e_refusals_right" "_law_e_refusals_right" Yz f fd) (T:Txt mg)  (z:DefS P w K mg base 1 "_law_e_held" 2 Jf) (j:DefS P w K mg base 11 "_law_e_word" 4 Je):FnOk P w K mg base (CXD P w) 12 f fd ["book", "table", "pool", "gone"] (spF mg 4 Y3):=by
 refine J4 (k:=11) (m:=W3) F sc__law_e_refusals_right rfl rfl rfl fun G A outer s H E B=>?_
 exact (Q9 (J2 4 sc__law_e_refusals_right.nd (Qm Zh rfl T.b_len PySem.boot_len (Q1 (Q0 1) Q6)))
  (Q9 (J2 5 sc__law_e_refusals_right.nd (Jc Ju (Jp (Q1 (Jc Ju (qh (J5 (Q0 1) Qa) zt (zr (Q0 4))) (Jp (Q1 (Jc Ju (Jc Ju (J5 (J5 (Q0 1) Qa) (Q0 4)) (Qg z (B.mono (by decide)) Qd rfl (Q1 (Q0 1) (Q1 Qa Q6)))) Qa) Q6))) Q6)) (qh (Q0 1) (zr Qa) zt)))
  (Q9 (Ue PassesOwn.leaving rfl (Zr (Q12 (Q1 (Jp (Q1 (Jc Ju (Jc xq (Q0 4) Qa) Qa) (Q1 (Jp (Q1 (Jp (Q1 Qa Q6)) Q6)) Q6))) (Q1 (Jp (Q1 (Q0 4) (Q1 (Jp Q6) Q6))) (Q1 (Jp (Q1 (Q0 4) (Q1 (Jp (Q1 (Jp (Q1 (Q0 4) Q6)) Q6)) Q6))) (Q1 Qdd Q6)))))) (Qx (i:=6) sc__law_e_refusals_right.nd) (Qc (Jy (SimW.t (ju (J6 (Xi B.units) (Qg j (B.mono (by decide)) Qd rfl (Q1 (Q0 6) (Q1 (Q0 5) (Q1 (Jp Q6) (Q1 (Q0 3) Q6))))) Y7) (Kq (J6 (Xi B.units) (Qg j (B.mono (by decide)) Qd rfl (Q1 (Q0 6) (Q1 (Q0 1) (Q1 (Q0 2) (Q1 (Q0 3) Q6))))) Y7)))) (Qc (Qy Wu)) Jj)))
  (Q9 (Jy (SimW.t (ju (J6 (Xi B.units) (Qg j (B.mono (by decide)) Qd rfl (Q1 (Q0 0) (Q1 (Q0 5) (Q1 (Q0 2) (Q1 (Q0 3) Q6))))) Y7) (Kq (J6 (Xi B.units) (Qg j (B.mono (by decide)) Qd rfl (Q1 (Q0 0) (Q1 (Q0 5) (Q1 (Jp Q6) (Q1 (Q0 3) Q6))))) Y7)))) (Qc (Qy Wu)) Jj)
  (Q9 (Ue PassesOwn.leaving rfl (Zr (Q12 (Q1 (Jp (Q1 (Jp Q6) (Q1 (Q0 3) Q6))) (Q1 (Jp (Q1 (Q0 2) (Q1 (Q0 2) Q6))) (Q1 (Jp (Q1 (Jp (Q1 (Q0 4) Q6)) (Q1 (Jp Q6) Q6))) (Q1 (Jp (Q1 (Q0 2) (Q1 (Jp (Q1 (Q0 4) Q6)) Q6))) (Q1 (Jp (Q1 (Jp (Q1 Qa (Q1 Qa Q6))) (Q1 (Jp Q6) Q6))) (Q1 (Jp (Q1 (Jp (Q1 (Qir Qa) Q6)) (Q1 (Jp Q6) Q6))) (Q1 (Jp (Q1 (Q0 2) (Q1 (Jp (Q1 (Qir Qa) Q6)) Q6))) Q6))))))))) (Qim rfl (Q1x (Qx (i:=7) sc__law_e_refusals_right.nd) (Q1x (Qx (i:=8) sc__law_e_refusals_right.nd) Qes))) (Qc (Jy (J6 (Xi B.units) (Qg j (B.mono (by decide)) Qd rfl (Q1 (Q0 0) (Q1 (Q0 1) (Q1 (Q0 7) (Q1 (Q0 8) Q6))))) Y7) (Qc (Qy Wu)) Jj)))
  (Qc (Qy (Wp (Kg B.units) (Qg j (B.mono (by decide)) Qd rfl (Q1 (Q0 0) (Q1 (Q0 1) (Q1 (Q0 2) (Q1 (Q0 3) Q6))))) Y7))))))))
def Qak:ME:=(Q4 0)
def Q95:MT:=(toB (mOp (oIn true) (Q4 0) (Q4 1)))
def Qaj:ME:=(Q4 0)
def Qfs:ME:=(mOp (oIn false) (Q4 0) (Q4 1))
def Q94:MT:=(W6 (toB (J1 (qc fun ns=>.bl (ns.any id)) (Q3 (Yv (Jk [none,some 1] (Qb 0) (V4 (Q4 0)) Jv Qfs)) Q8))))
def Qfr:ME:=(Qe 2 Jf (Q3 (Q4 1) (Q3 (Q4 0) Q8)))
def Qfx : MS := (Qh (Jm 12 (Qe 5 Jn (Q3 (Q4 3) (Q3 (Q4 5) (Q3 (Q4 6) (Q3 (Q4 7) (Q3 (Q4 11) Q8)))))))
  (Zc (W6 (toB (Qe 6 Yi (Q3 (Q4 3) (Q3 (Q4 5) (Q3 (Q4 8) (Q3 (Q4 11) (Q3 (Q4 9) (Q3 (Q4 12) Q8))))))))) (Jz (mC (.bl false))) Jt))
def Q4q : MS := (Qh (Zc (yi (toB (mOp (oI fun a b => .bl (decide (b < a))) (Q4 2) (mC (.int 1)))) (toB (mOp (oI fun a b => .bl (decide (b <= a))) (mOp oIx (Q4 1) (mC (.int 1))) (J1 Zf (Q3 (Q4 0) Q8))))) Qk3 Jt)
  (Qh (Jm 3 (Qe 2 Yx (Q3 (Q4 1) (Q3 (mC (.int 5)) Q8))))
  (Qh (Zc (yi (toB (mOp oEq (Q4 2) (mC (.int 0)))) (toB (mOp oEq (Qe 2 Qi (Q3 (Q4 1) (Q3 (mC (.int 3)) Q8))) (mC (.int 0))))) (Jm 3 (Zt (Q3 (mOp Zb (mC (.int 6)) (Qe 2 Qi (Q3 (Q4 1) (Q3 (mC (.int 3)) Q8)))) (Q3 (mOp oIx (Q4 3) (mC (.int 1))) Q8)))) Jt)
  (Qh (Jm 4 (mOp oIx (Q4 3) (mC (.int 0))))
  (Qh (Jm 5 (Qe 2 Xg (Q3 (Q4 1) (Q3 (Q4 4) Q8))))
  (Qh (Jm 6 (Qe 2 Z1 (Q3 (Q4 1) (Q3 (Q4 4) Q8))))
  (Qh (Zc (toB (mOp oEq (Q4 6) (Zt Q8))) (Jm 6 (Zt (Q3 (Qe 2 Qi (Q3 (Q4 1) (Q3 (Q4 4) Q8))) Q8))) Jt)
  (Qh (Jm 7 (J1 Wd (Q3 (Yv (Jk [none,some 6] (Qb 0) (V4 (Qe 2 Z1 (Q3 (Q4 1) (Q3 (Q4 4) Q8)))) Q95 Qak)) Q8)))
  (Qh (Jm 8 (mOp Zb (Q4 6) (Q4 7)))
  (Qh (Jm 9 (Yv (Jk [none,some 6] (Qb 0) (V4 (mOp oIx (Q4 3) (mC (.int 1)))) Q94 Qaj)))
  (Qh (Jm 10 (J1 (W4 fun ns=>some (.int ns.sum)) (Q3 (Yv (Jk [none,some 5] (Qb 0) (V4 (Q4 8)) Jv Qfr)) Q8)))
  (Qh (y4 (Qb 11) (V4 (Q61 (Q3 (J1 Qqd (Q3 (mC (.int 1)) (Q3 (Q4 10) Q8))) (Q3 (mOp Zb (Q4 10) (mC (.int 1))) (Q3 (mC (.int 1)) (Q3 (mOp Q5q (mC (.int 10)) (mC (.int 20))) Q8)))))) Qfx)
  (Zc (W6 (toB (Qe 4 Y3 (Q3 (Q4 3) (Q3 (Q4 5) (Q3 (Q4 6) (Q3 (Q4 7) Q8))))))) (Jz (mC (.bl false))) Jt)))))))))))))
def Qf7 : MS := (Qh (Jm 1 (Q3d (Qc7 (Q3 (Q4 0) (Q3 (mC (.int 0)) (Q3 (mC (.int 0)) Q8))))))
  (Qh (y4 (Qb 2) (Z2 (Q3 (mC (.int 4)) Q8)) Q4q)
  (Jz (mC (.bl true)))))
def Qmi:FN:=Qq Qf7 13
theorem sc_law:FnScope ["script", "tape", "k", "book", "n", "table", "pool", "gone", "both", "unmet", "sums", "amount", "found"] ["script"] (Qf Q21):=⟨rfl,rfl,rfl,by decide +kernel,rfl,by decide +kernel,by decide +kernel⟩
theorem Qsm {f:aA} {fd:aM} (F:Fun K "law" "law" Q21 f fd) (T:Txt mg)  (J:DefS P w K mg base 4 "_law_e_book" 2 Yx) (j:DefS P w K mg base 2 "_law_e_digit" 2 Qi) (I:DefS P w K mg base 3 "_law_e_table" 2 Xg) (B:DefS P w K mg base 3 "_law_e_subset" 2 Z1) (O:DefS P w K mg base 1 "_law_e_held" 2 Jf) (U:DefS P w K mg base 10 "heirs_may" 5 Jn) (G:DefS P w K mg base 4 "_law_e_right" 6 Yi) (z:DefS P w K mg base 12 "_law_e_refusals_right" 4 Y3):FnOk P w K mg base (CXD P w) 13 f fd ["script"] (spF mg 1 Qmi):=by
 refine J4 (k:=12) (m:=Qf7) F sc_law rfl rfl rfl fun Z A outer s H E Y=>?_
 exact (Q9 (J2 1 sc_law.nd (Q2w (Qig (Q1 (Q0 0) (Q1 Qa (Q1 Qa Q6))))))
  (Q9 (Ue PassesOwn.leaving rfl (Ji rfl T.b_range (Q1 Qa Q6)) (Qx (i:=2) sc_law.nd) (Q9 (Jy (SimW.t (Q2r (J6 jy (Q0 2) Qa) (Q0d (J6 Qbu (J5 (Q0 1) Qa) (Qm Zh rfl T.b_len PySem.boot_len (Q1 (Q0 0) Q6)))))) (Qc Qif) Jj)
  (Q9 (J2 3 sc_law.nd (Qg J (Y.mono (by decide)) Qd rfl (Q1 (Q0 1) (Q1 Qa Q6))))
  (Q9 (Jy (SimW.t (Q2r (J6 (Kg Y.units) (Q0 2) Qa) (Q0d (J6 (Kg Y.units) (Qg j (Y.mono (by decide)) Qd rfl (Q1 (Q0 1) (Q1 Qa Q6))) Qa)))) (Qc (J2 3 sc_law.nd (Jp (Q1 (Jc Ju Qa (Qg j (Y.mono (by decide)) Qd rfl (Q1 (Q0 1) (Q1 Qa Q6)))) (Q1 (J5 (Q0 3) Qa) Q6))))) Jj)
  (Q9 (J2 4 sc_law.nd (J5 (Q0 3) Qa))
  (Q9 (J2 5 sc_law.nd (Qg I (Y.mono (by decide)) Qd rfl (Q1 (Q0 1) (Q1 (Q0 4) Q6))))
  (Q9 (J2 6 sc_law.nd (Qg B (Y.mono (by decide)) Qd rfl (Q1 (Q0 1) (Q1 (Q0 4) Q6))))
  (Q9 (Jy (J6 (Kg Y.units) (Q0 6) (Jp Q6)) (Qc (J2 6 sc_law.nd (Jp (Q1 (Qg j (Y.mono (by decide)) Qd rfl (Q1 (Q0 1) (Q1 (Q0 4) Q6))) Q6)))) Jj)
  (Q9 (J2 7 sc_law.nd (Kc Kj rfl T.b_tuple Jx (Q1 (Zg (Js [none,some 6] ["house", "pool"] rfl (Zr (Qg B (Y.mono (by decide)) Qd rfl (Q1 (Q0 1) (Q1 (Q0 4) Q6)))) (fun _ _ _ _ _=>(Qx (i:=0) (show (["house", "pool"]:List Str).Nodup by decide +kernel))) (fun _ _ _ _ _=>(Q0 0)) (fun _ _ _ _ _=>(Yp (J6 (Kf Y.units) (Q0 0) (Q0 1)))) Qz)) Q6)))
  (Q9 (J2 8 sc_law.nd (Jc Ju (Q0 6) (Q0 7)))
  (Q9 (by first | exact Q1w [none,some 6] ["one", "pool"] 9 sc_law.nd rfl (Zr (J5 (Q0 3) Qa)) (fun _ _ _ _ _=>(Qx (i:=0) (show (["one", "pool"]:List Str).Nodup by decide +kernel))) (fun _ _ _ _ _=>(Q0 0)) (fun _ _ _ _ _=>(Yp (Yd (Zm (Qm (Q1p rfl) rfl T.b_any j8 (Q1 (Zg (Js [none,some 1] ["house", "pool"] rfl (Zr (Q0 0)) (fun _ _ _ _ _=>(Qx (i:=0) (show (["house", "pool"]:List Str).Nodup by decide +kernel))) (fun _ _ _ _ _=>(Wp (Q87 Y.units) (Q0 0) (Q0 1))) (fun _ _ _ _ _=>Zj) Qz)) Q6)))))) Qz | exact J2 9 sc_law.nd (Zg (Js [none,some 6] ["one", "pool"] rfl (Zr (J5 (Q0 3) Qa)) (fun _ _ _ _ _=>(Qx (i:=0) (show (["one", "pool"]:List Str).Nodup by decide +kernel))) (fun _ _ _ _ _=>(Q0 0)) (fun _ _ _ _ _=>(Yp (Yd (Zm (Qm (Q1p rfl) rfl T.b_any j8 (Q1 (Zg (Js [none,some 1] ["house", "pool"] rfl (Zr (Q0 0)) (fun _ _ _ _ _=>(Qx (i:=0) (show (["house", "pool"]:List Str).Nodup by decide +kernel))) (fun _ _ _ _ _=>(Wp (Q87 Y.units) (Q0 0) (Q0 1))) (fun _ _ _ _ _=>Zj) Qz)) Q6)))))) Qz)))
  (Q9 (J2 10 sc_law.nd (Qm (jp rfl) rfl T.b_sum Ua (Q1 (Zg (Js [none,some 5] ["house", "table"] rfl (Zr (Q0 8)) (fun _ _ _ _ _=>(Qx (i:=0) (show (["house", "table"]:List Str).Nodup by decide +kernel))) (fun _ _ _ _ _=>(Qg O (Y.mono (by decide)) Wa rfl (Q1 (Q0 1) (Q1 (Q0 0) Q6)))) (fun _ _ _ _ _=>Zj) Qz)) Q6)))
  (Q9 (Ue PassesOwn.leaving rfl (Zr (Q12 (Q1 (Qm (Qth rfl) rfl T.b_max Qma (Q1 Qa (Q1 (Q0 10) Q6))) (Q1 (Jc Ju (Q0 10) Qa) (Q1 Qa (Q1 (Jc Q9w Qa Qa) Q6)))))) (Qx (i:=11) sc_law.nd) (Q9 (J2 12 sc_law.nd (Qg U (Y.mono (by decide)) Qd rfl (Q1 (Q0 3) (Q1 (Q0 5) (Q1 (Q0 6) (Q1 (Q0 7) (Q1 (Q0 11) Q6)))))))
  (Qc (Jy (Yd (Zm (Qg G (Y.mono (by decide)) Qd rfl (Q1 (Q0 3) (Q1 (Q0 5) (Q1 (Q0 8) (Q1 (Q0 11) (Q1 (Q0 9) (Q1 (Q0 12) Q6))))))))) (Qc (Qy Wu)) Jj))))
  (Qc (Jy (Yd (Zm (Qg z (Y.mono (by decide)) Qd rfl (Q1 (Q0 3) (Q1 (Q0 5) (Q1 (Q0 6) (Q1 (Q0 7) Q6))))))) (Qc (Qy Wu)) Jj)))))))))))))))
  (Qc (Qy Wu))))
end
end Lw
namespace Lw
open PySem PySem.Spec L2 Sm
theorem Qai (a:Int) {b:Int} (h:0 < b):0<=a % b/\a % b < b:=⟨Int.emod_nonneg a (by omega),Int.emod_lt_of_pos a h⟩
def Z6 (r:List Int):PV:=.tup (r.map .int)
def Qj (tb:List (List Int)):PV:=.tup (tb.map Z6)
theorem Qeg {α:Type} (xs:List α) (p:α->Bool):(xs.map p).all id=xs.all p:=by
 rw [List.all_map]; rfl
structure Wt' (n:Nat) (tb:List (List Int)):Prop where
 len:tb.length=n
 row:∀ r∈tb,r.length=n + 1
 nn:∀ r∈tb,∀ x∈r,(0:Int)<=x
 n1:1<=n
 n8:n<=8
theorem Qvw (x:Int) {n:Nat} (h:1<=n):∃ k:Nat,k < n/\x % (n:Int)=(k:Int):=by
 have:=Qai x (b:=(n:Int)) (by omega);exact ⟨(x % (n:Int)).toNat,by omega,by omega⟩
def J3 (k:Nat):PV:=.int (k:Int)
def Zk (n:Nat) (f:Nat->Int):Int:=((List.range n).map f).sum
theorem Z5 (n:Nat) (f:Nat->Int):Zk (n + 1) f=Zk n f + f n:=by
 unfold Zk;rw [List.range_succ,F3,List.sum_append];simp
theorem Za {n:Nat} {f g:Nat->Int} (h:∀ i,i < n->f i=g i):Zk n f=Zk n g:=by
 induction n with
 | zero=>rfl
 | succ n j=>rw [Z5,Z5,j fun i hi=>h i (by omega),h n (by omega)]
theorem js (n:Nat) (f g:Nat->Int):Zk n (fun i=>f i + g i)=Zk n f + Zk n g:=by
 induction n with
 | zero=>rfl
 | succ n j=>rw [Z5,Z5,Z5,j]; omega
theorem Q1s (n:Nat) (f g:Nat->Int):Zk n (fun i=>f i - g i)=Zk n f - Zk n g:=by
 induction n with
 | zero=>rfl
 | succ n j=>rw [Z5,Z5,Z5,j]; omega
theorem Xk (n:Nat):Zk n (fun _=>0)=0:=by
 induction n with
 | zero=>rfl
 | succ n j=>rw [Z5,j]; rfl
theorem Qg5 (n m:Nat) (f:Nat->Nat->Int):Zk n (fun i=>Zk m (f i))=Zk m (fun j=>Zk n fun i=>f i j):=by
 induction n with
 | zero=>exact (Xk m).symm
 | succ n z=>
  rw [Z5,z,<- js];exact Za fun i _=>(Z5 _ _).symm
theorem Q3t {n:Nat} {f:Nat->Int} (h:∀ i,i < n->0<=f i):0<=Zk n f:=by
 induction n with
 | zero=>exact Int.le_refl _
 | succ n j=>rw [Z5]; have:=j fun i hi=>h i (by omega); have:=h n (by omega); omega
theorem Q5w {α β:Type} (l:List α) (d:α) (f:α->β):l.map f=(List.range l.length).map fun i=>f (l.getD i d):=by
 refine List.ext_getElem? fun i=>?_
 rw [E3,E3]
 by_cases hi:i < l.length
 ·rw [F8 hi,qd hi d]; rfl
 ·rw [L9 (by omega),L9 (by rw [E8]; omega)]; rfl
theorem Qb6 (r:List Int):r.sum=Zk r.length fun j=>r.getD j 0:=by
 have:=Q5w r 0 id;rw [List.map_id] at this;rw [Zk]
 conv=>lhs; rw [this]
 rfl
def ent (tb:List (List Int)) (i j:Nat):Int:=(tb.getD i []).getD j 0
def Sz (n:Nat) (tb:List (List Int)):Prop:=tb.length=n/\∀ r∈tb,r.length=n + 1
theorem Wt'.sz {n:Nat} {tb:List (List Int)} (w:Wt' n tb):Sz n tb:=⟨w.len,w.row⟩
theorem Sz.row {n i:Nat} {tb:List (List Int)} (z:Sz n tb) (hi:i < n):tb[i]?=some (tb.getD i [])/\(tb.getD i []).length=n + 1:=by
 have e:=qd (show i < tb.length by rw [z.1]; exact hi) [];exact ⟨e,z.2 _ (E7 e)⟩
theorem Sz.cell {n i j:Nat} {tb:List (List Int)} (z:Sz n tb) (hi:i < n) (B:j<=n):(tb.getD i [])[j]?=some (ent tb i j):=qd (by rw [(z.row hi).2]; omega) 0
theorem Qmu {n:Nat} {t1 t2:List (List Int)} (z:Sz n t1) (B:Sz n t2) (h:∀ i j,i < n->j<=n->ent t1 i j=ent t2 i j):t1=t2:=by
 refine List.ext_getElem? fun i=>?_
 by_cases hi:i < n
 ·rw [(z.row hi).1,(B.row hi).1];congr 1;refine List.ext_getElem? fun j=>?_
  by_cases G:j<=n
  ·rw [z.cell hi G,B.cell hi G,h i j hi G]
  ·rw [L9 (by rw [(z.row hi).2]; omega),L9 (by rw [(B.row hi).2]; omega)]
 ·rw [L9 (by rw [z.1]; omega),L9 (by rw [B.1]; omega)]
theorem Wt'.ent_nn {n i j:Nat} {tb:List (List Int)} (w:Wt' n tb) (hi:i < n) (z:j<=n):0<=ent tb i j:=w.nn _ (E7 (w.sz.row hi).1) _ (E7 (w.sz.cell hi z))
theorem Qmx (c:Int) (p:Nat) (st:Q2):∃ z:Int,Zv [.int c,.int p] st=.ok (.int z) st:=by
 by_cases q:1000000000000000000<=c
 ·refine ⟨c,?_⟩;simp -implicitDefEqProofs [Zv,Qq,Vd,q]
 ·obtain ⟨f,j⟩:∃ f,(c % 998244353 * 51749 + p * 7919 + 3) % 1000000007=f:=⟨_,rfl⟩;have I:=Qai (c % 998244353 * 51749 + p * 7919 + 3) (b:=1000000007) (by decide);rw [j] at I;obtain ⟨g,B⟩:∃ g:Int,(f * f + 32749 * f + p + 5) % 2147483629=g:=⟨_,rfl⟩;have O:=Qai (f * f + 32749 * f + p + 5) (b:=2147483629) (by decide);rw [B] at O;have G:-18446744073709551616 < f/\f < 18446744073709551616:=by omega
  have J:-18446744073709551616 < g/\g < 18446744073709551616:=by omega
  refine ⟨g * 2147483587 + (g * g + 61 * p + f) % 2147483587,?_⟩;simp -implicitDefEqProofs [Zv,Qq,Vd,q,j,B,G,J]
def TapeAt (S:Q2) (L:Nat) (ns:List Int):Prop:=∃ (p:Nat) (c:Int),S[L]?=some (.lst [.fro (ns.map .int),.int p,.int c])
theorem TapeAt.lt {S:Q2} {L:Nat} {ns:List Int} (h:TapeAt S L ns):L < S.length:=let ⟨_,_,e⟩:=h; (O2.mp e).1
theorem Q51 {S:Q2} {L:Nat} {a b c x:PV} (h:S[L]?=some (.lst [a,b,c])):yw S (.ref L) (.int 1) x=some (S.set L (.lst [a,x,c]))/\yw S (.ref L) (.int 2) x=some (S.set L (.lst [a,b,x])):=by
 unfold yw;simp only [h];exact ⟨rfl,rfl⟩
theorem Q4g {S:Q2} {L:Nat} {a b c:PV} (h:S[L]?=some (.lst [a,b,c])):oIx S (.ref L) (.int 0)=.ok a S/\oIx S (.ref L) (.int 1)=.ok b S/\oIx S (.ref L) (.int 2)=.ok c S:=by
 have j:ListAt S (.ref L) [a,b,c]:=.inr (.inr ⟨L,rfl,h⟩);rw [j.ix,j.ix,j.ix];exact ⟨rfl,rfl,rfl⟩
theorem Qqb (ns:List Int) (p:Nat) {S:Q2} {L:Nat} {c:PV} (O:S[L]?=some (.lst [.fro (ns.map .int),.int p,c])) (G I:Option PV):∃ z:Int,(Zc (toB (mOp oLt (Q4 2) (J1 Zf (Q3 (mOp oIx (Q4 0) (mC (.int 0))) Q8)))) (Jm 3 (mOp oIx (mOp oIx (Q4 0) (mC (.int 0))) (Q4 2))) (Zc (toB (mOp (oI fun a b=>.bl (decide (b < a))) (J1 Zf (Q3 (mOp oIx (Q4 0) (mC (.int 0))) Q8)) (mC (.int 0)))) (Jm 3 (mOp Zb (mOp Q0r (mOp oIx (mOp oIx (Q4 0) (mC (.int 0))) (mOp Q0r (mOp xw (Q4 2) (mC (.int 3))) (J1 Zf (Q3 (mOp oIx (Q4 0) (mC (.int 0))) Q8)))) (mOp Q5q (mC (.int 10)) (mC (.int 9)))) (mOp xw (Q4 2) (mC (.int 1000000))))) Jt)) [some (.ref L),G,some (.int p),some (.int p),I] S=.nx [some (.ref L),G,some (.int p),some (.int z),I] S:=by
 obtain ⟨j,_,_⟩:=Q4g O;have hl:(ns.map PV.int).length=ns.length:=O0 _
 by_cases q:p < ns.length
 ·have e:atI (ns.map PV.int) (p:Int)=some (.int (ns.getD p 0)):=by rw [ye,Sm.atI_get (qd q 0)]; rfl
  refine ⟨ns.getD p 0,?_⟩;generalize ns.getD p 0=x at *;generalize ns.length=len at *;generalize ns.map PV.int=B at *;simp -implicitDefEqProofs [j,hl,q,e,-Q3w]
 ·by_cases q2:ns.length=0
  ·refine ⟨p,?_⟩;generalize ns.map PV.int=B at *;rw [q2] at hl;have J:¬ (p:Int) < 0:=by omega
   simp -implicitDefEqProofs [j,hl,J,-Q3w]
  ·have hp:0 < ns.length:=by omega
   obtain ⟨m,Y,Z⟩:=Qvw ((p:Int) * 3) hp;have e:atI (ns.map PV.int) (m:Int)=some (.int (ns.getD m 0)):=by rw [ye,Sm.atI_get (qd Y 0)]; rfl
   refine ⟨ns.getD m 0 % 1000000000 + p * 1000000,?_⟩;have U:¬ (p:Int) < (ns.length:Int):=by omega
   generalize ns.getD m 0=x at *;generalize ns.length=len at *;generalize ns.map PV.int=B at *;simp -implicitDefEqProofs [j,hl,q,U,hp,Z,e,-Q3w]
theorem Qtc {st st':Q2} (h:st'.length=st.length) (d:Int):fin st (.int d) st'=.ok (.int d) st':=by
 unfold fin
 by_cases q:st <+: st'
 ·rw [bQ q];have:st=st':=q.eq_of_length h.symm;rw [<- this,fz]; rfl
 ·rw [bS q]
structure Mv (L:Nat) (S S':Q2):Prop where
 len:S'.length=S.length
 keep:∀ t,t≠L->S'[t]?=S[t]?
theorem Yh {ns:List Int} {S:Q2} {L:Nat} (T:TapeAt S L ns) (m:Nat) (h1:1<=m) (hm:m < 1000000000000000000000):∃ (d:Nat) (Z:Q2),d < m/\TapeAt Z L ns/\Mv L S Z/\Qi [.ref L,.int m] S=.ok (.int d) Z:=by
 obtain ⟨p,c,U⟩:=T;have hL:=(O2.mp U).1;obtain ⟨O,J,S1,a2,a3,G,M1,e1⟩:∃ (O:Nat) (J:Int) (S1:Q2) (a2 a3:Option PV),S1[L]?=some (.lst [.fro (ns.map .int),.int O,.int J])/\Mv L S S1/\(Zc (toB (mOp oLt (mOp oIx (Q4 0) (mC (.int 2))) (Q4 1))) (Qh (Jm 2 (mOp oIx (Q4 0) (mC (.int 1))))
  (Qh (Jm 3 (Q4 2))
  (Qh (Zc (toB (mOp oLt (Q4 2) (J1 Zf (Q3 (mOp oIx (Q4 0) (mC (.int 0))) Q8)))) (Jm 3 (mOp oIx (mOp oIx (Q4 0) (mC (.int 0))) (Q4 2))) (Zc (toB (mOp (oI fun a b=>.bl (decide (b < a))) (J1 Zf (Q3 (mOp oIx (Q4 0) (mC (.int 0))) Q8)) (mC (.int 0)))) (Jm 3 (mOp Zb (mOp Q0r (mOp oIx (mOp oIx (Q4 0) (mC (.int 0))) (mOp Q0r (mOp xw (Q4 2) (mC (.int 3))) (J1 Zf (Q3 (mOp oIx (Q4 0) (mC (.int 0))) Q8)))) (mOp Q5q (mC (.int 10)) (mC (.int 9)))) (mOp xw (Q4 2) (mC (.int 1000000))))) Jt))
  (Qh (X3 (Q4 0) (mC (.int 1)) (mOp Zb (Q4 2) (mC (.int 1))))
  (X3 (Q4 0) (mC (.int 2)) (Qe 2 Zv (Q3 (Q4 3) (Q3 (Q4 2) Q8)))))))) Jt) [some (.ref L),some (.int m),none,none,none] S=.nx [some (.ref L),some (.int m),a2,a3,none] S1:=by
  obtain ⟨i0,i1,i2⟩:=Q4g U
  by_cases q:c < (m:Int)
  ·obtain ⟨z,ez⟩:=Qqb ns p U (some (.int m)) none;obtain ⟨t1,_⟩:=Q51 (x:=.int ((p:Int) + 1)) U;obtain ⟨Y,j⟩:∃ Y,S.set L (.lst [.fro (ns.map .int),.int ((p:Int) + 1),.int c])=Y:=⟨_,rfl⟩;have h2:Y[L]?=some (.lst [.fro (ns.map .int),.int ((p:Int) + 1),.int c]):=by rw [<- j,F1 hL]
   rw [j] at t1;obtain ⟨y,ey⟩:=Qmx z p Y;obtain ⟨_,t2⟩:=Q51 (x:=.int y) h2;have a6:=(O2.mp h2).1;refine ⟨p + 1,y,Y.set L (.lst [.fro (ns.map .int),.int ((p:Int) + 1),.int y]),some (.int p),some (.int z),?_,⟨?_,fun t I=>?_⟩,?_⟩
   ·rw [F1 a6]; push_cast; rfl
   ·rw [G9,<- j,G9]
   ·rw [D9 (fun u=>I u.symm),<- j,D9 (fun u=>I u.symm)]
   ·have I:(toB (mOp oLt (mOp oIx (Q4 0) (mC (.int 2))) (Q4 1))) [some (.ref L),some (.int m),none,none,none] S=.ok true S:=by
     simp -implicitDefEqProofs [i2,q,-Q3w]
    have s1:∀ X:MS,(Qh (Jm 2 (mOp oIx (Q4 0) (mC (.int 1)))) (Qh (Jm 3 (Q4 2)) X)) [some (.ref L),some (.int m),none,none,none] S=X [some (.ref L),some (.int m),some (.int p),some (.int p),none] S:=fun X=>by
     simp -implicitDefEqProofs [i1,-Q3w]
    rw [Qaa,I,Q20,bQ rfl,s1,qw,ez];show Qh _ _ _ _=_;simp -implicitDefEqProofs [t1,ey,t2,-Q9c]
  ·refine ⟨p,c,S,none,none,U,⟨rfl,fun _ _=>rfl⟩,?_⟩;simp -implicitDefEqProofs [i2,q,-Q3w]
 obtain ⟨_,_,j2⟩:=Q4g G;obtain ⟨d,hd,ed⟩:=Qvw J h1;obtain ⟨_,t2⟩:=Q51 (x:=.int (J / (m:Int))) G;have a4:=(O2.mp G).1;obtain ⟨S3,B⟩:∃ S3,S1.set L (.lst [.fro (ns.map .int),.int O,.int (J / (m:Int))])=S3:=⟨_,rfl⟩;have h3:S3[L]?=some (.lst [.fro (ns.map .int),.int O,.int (J / (m:Int))]):=by rw [<- B,F1 a4]
 have M3:Mv L S S3:=⟨by rw [<- B,G9,M1.len],fun t I=>by rw [<- B,D9 (fun u=>I u.symm),M1.keep t I]⟩;rw [B] at t2;refine ⟨d,S3,hd,⟨O,_,h3⟩,M3,?_⟩;have a5:0 < m:=h1;have a1:(m:Int) < 1267650600228229401496703205376:=by omega
 have step:V3 [some (.ref L),some (.int m),none,none,none] S=.rt (.int d) S3:=by
  unfold V3;rw [qw,e1];show Qh _ _ _ _=_;simp -implicitDefEqProofs [j2,a5,a1,ed,t2,-Q3w,-Q9c]
 show Qq V3 5 _ S=_;unfold Qq;rw [show (([PV.ref L,.int m]:List PV).map some ++ List.replicate (5 - [PV.ref L,.int m].length) none)=[some (.ref L),some (.int m),none,none,none] from rfl,step];exact Qtc M3.len d
theorem y9 (i:Int) (st:Q2):Um [.int i] st=.ok (.bl true) st:=by
 simp [Um,Qq,Q1g,isI,tyN]
theorem Qea {α:Type} (g:α->PV) {xs:List α} (I:Nat->List PV->Q2->Prop) {ga:GA} {mt:MT} {me:ME} {w:Wt} {Γ0:Gam} (Z:∀ i out st,I i out st->wOk w st)
  (h:∀ (i:Nat) x out st,xs[i]?=some x->I i out st->∃ Γ1,ga (g x) Γ0=some Γ1/\∃ b j,mt Γ1 st=.ok b j/\(b=true->∃ v z,me Γ1 j=.ok v z/\I (i + 1) (out ++ [v]) z)/\(b=false->I (i + 1) out j)) {st:Q2} (h0:I 0 [] st):∃ out st',Jh ga mt me w Γ0 (xs.map g) st=.ok out st'/\I xs.length out st':=by
 have J:∀ (ys:List α) (k:Nat) (pre:List PV) (st:Q2),(∀ i,ys[i]?=xs[k + i]?)->k + ys.length=xs.length->I k pre st->∃ out st',Jh ga mt me w Γ0 (ys.map g) st=.ok out st'/\I xs.length (pre ++ out) st':=by
  intro ys
  induction ys with
  | nil=>
   intro k pre st e e2 i;refine ⟨[],st,by simp [Jh,Z k pre st i],?_⟩;rw [List.append_nil,<- e2]; exact i
  | cons y ys U=>
   intro k pre st e e2 i;obtain ⟨Γ1,h1,b,j,h2,h3,h4⟩:=h k y pre st (by have:=e 0; simpa using this.symm) i;have Y:∀ i,ys[i]?=xs[k + 1 + i]?:=fun i=>by have:=e (i + 1); rw [List.getElem?_cons_succ] at this; rw [this]; congr 1; omega
   have B:k + 1 + ys.length=xs.length:=by rw [<- e2,F4]; omega
   rw [D2,Jh,bQ (Z k pre st i),h1];simp only [h2,Zn];cases b with
   | true=>
    obtain ⟨v,z,h5,h6⟩:=h3 rfl;obtain ⟨out,st',O,G⟩:=U (k + 1) (pre ++ [v]) z Y B h6;refine ⟨v :: out,st',?_,by rw [List.append_assoc] at G; exact G⟩;rw [bQ rfl,h5];simp only [Zn,O]
   | false=>
    obtain ⟨out,st',O,G⟩:=U (k + 1) pre j Y B (h4 rfl);refine ⟨out,st',?_,G⟩;rw [bS (by simp),O]
 obtain ⟨out,st',h1,h2⟩:=J xs 0 [] st (fun i=>by simp) (by simp) h0;exact ⟨out,st',h1,h2⟩
theorem Q2n (x a b:Int) (st:Q2):Z9 [.int x,.int a,.int b] st=.ok (.bl (decide (a<=x) && decide (x<=b))) st:=by
 have:=y9 x st
 by_cases q:a<=x <;> simp [Z9,Qq,qb,this,q]
theorem Qcm (ns:List Int):Kx (ns.map PV.int)=some ns:=by
 induction ns with
 | nil=>rfl
 | cons n ns j=>rw [D2,Kx,j]; rfl
theorem Qk4:∀ a b:List Int,HT.lexLt a b=V5 a b
 | [],[]=>rfl
 | [],_ :: _=>rfl
 | _ :: _,[]=>rfl
 | x :: a,y :: b=>by rw [HT.lexLt_cons,V5,Qk4 a b]
theorem Qsz (a b:List Int) (st:Q2):oLt st (Q7 a) (Q7 b)=.ok (.bl (V5 a b)) st:=by
 unfold oLt Q7;simp only [Qcm,Qk4]
def Q07 {α:Type} (lt:α->α->Bool) (xs:List α):Bool:=(xs.zip (xs.drop 1)).all fun z=>lt z.1 z.2
theorem Qiw {α:Type} (f:α->PV) (lt:α->α->Bool) (h:∀ a b st,oLt st (f a) (f b)=.ok (.bl (lt a b)) st) (xs:List α) (hl:xs.length<=1000) (st:Q2):Zi [.tup (xs.map f)] st=.ok (.bl (Q07 lt xs)) st:=by
 have j:cut (xs.map f) (some 1) none=(xs.drop 1).map f:=by
  rw [Q0k];exact congrArg _ (Q06 xs 1)
 have G:Jh (Q40 (K1 (Qb 0) (K1 (Qb 1) Q41))) Jv U7 [] (Z4 [none,none] [some (.tup (xs.map f))]) ((xs.zip (xs.drop 1)).map fun z=>.tup [f z.1,f z.2]) st=.ok (((xs.zip (xs.drop 1)).map fun z=>lt z.1 z.2).map .bl) st:=by
  rw [D8];refine Z3 _ _ (by simp) fun z J=>⟨_,rfl,?_⟩
  have:=h z.1 z.2 st;show _=Res.ok (PV.bl (lt z.1 z.2)) st;generalize f z.1=Y at *;generalize f z.2=O at *;simp [Z4,U7,this]
 have I:Q07 lt xs=((xs.zip (xs.drop 1)).map fun z=>lt z.1 z.2).all id:=by unfold Q07; rw [List.all_map]; rfl
 have B:(xs.map f).length<=1000000:=by rw [O0]; omega
 rw [I];rw [<- Qax] at G;generalize ((xs.zip (xs.drop 1)).map fun z=>lt z.1 z.2)=bs at *
 generalize (xs.drop 1).map f=ds at *;generalize xs.map f=U at *;simp -implicitDefEqProofs [Zi,Qq,jb,j,B,Jr,G]
theorem Q6u {α:Type} {lt:α->α->Bool}:∀ {xs:List α},xs.Pairwise (fun a b=>lt a b=true)->Q07 lt xs=true
 | [],_=>rfl
 | [_],_=>rfl
 | x :: y :: t,h=>by
  show (lt x y && Q07 lt (y :: t))=true;rw [Q6u (F7.mp h).2,(F7.mp h).1 y (by simp)]; rfl
structure GOk (n:Int) (g:List Int):Prop where
 rng:∀ h∈g,0<=h/\h < n
 inc:g.Pairwise (· < ·)
 len:g.length<=20
structure BOk (n:Int) (gs:List (List Int)):Prop where
 n1:1<=n
 n9:n<=9
 ne:gs≠[]
 ok:∀ g∈gs,GOk n g/\g≠[]
 inc:gs.Pairwise fun a b=>V5 a b=true
 len:gs.length<=64
def Q0v (gs:List (List Int)):PV:=.tup (gs.map Q7)
def J8 (n:Int) (gs:List (List Int)):PV:=.tup [.int n,Q0v gs]
theorem K8 {n:Int} {g:List Int} (h:GOk n g) (st:Q2):J0 [.int n,Q7 g] st=.ok (.bl true) st:=by
 have B:Jh (Qb 0) Jv Zd [] (Z4 [none,some 0] [some (.int n),some (Q7 g)]) (g.map PV.int) st=.ok ((g.map fun _=>true).map .bl) st:=by
  rw [D8];refine Z3 PV.int (fun _=>PV.bl true) (by simp) fun x I=>⟨_,rfl,?_⟩
  obtain ⟨h1,h2⟩:=h.rng x I;have z:=Q2n x 0 (n - 1) st;rw [show (decide ((0:Int)<=x) && decide (x<=n - 1))=true by simp; omega] at z;generalize Q7 g=J at *;simp [Z4,Zd,z]
 have G:=Qiw PV.int (fun a b=>decide (a < b)) (fun a b st=>rfl) g (by have:=h.len; omega) st
 rw [Q6u (h.inc.imp fun h=>by simpa using h)] at G;have j:((g.map fun _=>true)).all id=true:=by simp
 have hl:(g.map PV.int).length<=1000000:=by rw [O0]; have:=h.len; omega
 unfold Q7 at B ⊢;generalize (g.map fun _=>true)=bs at *;generalize g.map PV.int=J at *;simp -implicitDefEqProofs [J0,Qq,Zq,isI,tyN,hl,Jr,B,j,G]
theorem Q2i {n:Int} {g:List Int} (h:GOk n g) (j:g≠[]) (st:Q2):Z7 [.int n,Q7 g] st=.ok (.bl true) st:=by
 have h1:=K8 h st;have h2:0 < g.length:=G8.mpr j;have z:Zf st [Q7 g]=.ok (.int (g.length:Nat)) st:=by
  have:(g.map PV.int).length=g.length:=O0 _;simp [Q7]
 generalize Q7 g=B at *;simp -implicitDefEqProofs [Z7,Qq,Xx,h1,z,h2]
theorem Qn3 {n:Int} {gs:List (List Int)} (h:BOk n gs) (st:Q2):Y4 [.int n,Q0v gs] st=.ok (.bl true) st:=by
 have O:Jh (Qb 0) Jv Xb [] (Z4 [none,some 0] [some (.int n),some (Q0v gs)]) (gs.map Q7) st=.ok ((gs.map fun _=>true).map .bl) st:=by
  rw [D8];refine Z3 Q7 (fun _=>PV.bl true) (by simp) fun x Y=>⟨_,rfl,?_⟩
  have:=Q2i (h.ok x Y).1 (h.ok x Y).2 st;generalize Q0v gs=sv at *;generalize Q7 x=xv at *;simp [Z4,Xb,this]
 have U:=Qiw Q7 V5 Qsz gs (by have:=h.len; omega) st;rw [Q6u h.inc] at U;have J:((gs.map fun _=>true)).all id=true:=by simp
 have hl:(gs.map Q7).length<=1000000:=by rw [O0]; have:=h.len; omega
 have j:(gs.map Q7).length=gs.length:=O0 _;have Z:¬ ((gs.length:Int)=0):=by have:=G8.mpr h.ne; omega
 have G:¬ (gs.length=0):=by omega
 have I:gs.length<=1000000:=by have:=h.len; omega
 unfold Q0v at O ⊢;generalize (gs.map fun _=>true)=bs at *;generalize gs.length=gl at *;generalize gs.map Q7=gv at *;have B:¬ gv=[]:=fun z=>by rw [z] at j; exact G j.symm
 simp -implicitDefEqProofs [Y4,Qq,Xy,isI,tyN,j,Z,G,B,hl,I,Jr,O,J,U]
theorem Qqh {n:Int} {gs:List (List Int)} (h:BOk n gs) (st:Q2):Yc [J8 n gs] st=.ok (.bl true) st:=by
 have h1:=Qn3 h st;have j:=Q2n n 1 9 st;have G:=h.n9;have z:=h.n1;rw [show (decide ((1:Int)<=n) && decide (n<=9))=true by simp; omega] at j;unfold J8;generalize Q0v gs=B at *;simp -implicitDefEqProofs [Yc,Qq,z8,Yb,W1,isI,tyN,atI,ixN,j,h1]
theorem Yq {n:Int} {gs:List (List Int)} (h:BOk n gs) (st:Q2):Ya [J8 n gs] st=.ok .non st:=by
 have h1:=Qqh h st;generalize J8 n gs=j at *;simp -implicitDefEqProofs [Ya,Qq,ja,h1]
theorem Mv.refl (L:Nat) (S:Q2):Mv L S S:=⟨rfl,fun _ _=>rfl⟩
theorem Mv.trans {L:Nat} {S S1 j:Q2} (a:Mv L S S1) (b:Mv L S1 j):Mv L S j:=⟨b.len.trans a.len,fun t z=>(b.keep t z).trans (a.keep t z)⟩
theorem TapeAt.of {S j:Q2} {L:Nat} {ns:List Int} (h:TapeAt S L ns) (e:j[L]?=S[L]?):TapeAt j L ns:=let ⟨p,c,q⟩:=h; ⟨p,c,by rw [e]; exact q⟩
theorem Qgv (st:Q2) (xs ys:List PV):Zb st (.lst xs) (.lst ys)=if xs.length + ys.length<=lim then .ok (.lst (xs ++ ys)) st else .stuck:=rfl
theorem Qfp {ns:List Int} {L:Nat} {mt:MT} {me:ME} (Z:∀ (k:Nat) (st:Q2),TapeAt st L ns->∃ b z,mt [some (.int k),some (.ref L)] st=.ok b z/\TapeAt z L ns/\Mv L st z) (Y:∀ (k:Nat) (st:Q2),me [some (.int k),some (.ref L)] st=.ok (.int k) st) {S:Q2} (T:TapeAt S L ns) (n:Nat) (hn:n<=9) :
  ∃ (g:List Int) (G:Q2),TapeAt G L ns/\Mv L S G/\GOk n g/\Jh (Qb 0) mt me [] [none,some (.ref L)] (Zs 0 n) S=.ok (g.map PV.int) G:=by
 rw [Zx];obtain ⟨out,G,e,g,rfl,J,I,h1,h2,h3⟩:=Qea (fun k:Nat=>PV.int (k:Int)) (xs:=List.range n) (ga:=Qb 0) (mt:=mt) (me:=me) (w:=[]) (Γ0:=[none,some (.ref L)]) (st:=S)
  (fun k out st'=>∃ g:List Int,out=g.map PV.int/\TapeAt st' L ns/\Mv L S st'/\(∀ h∈g,0<=h/\h < (k:Int))/\g.Pairwise (· < ·)/\g.length<=k)
  (fun _ _ _ _=>by simp)
  (fun k x out st' O ⟨g,e1,J,I,h1,h2,h3⟩=>by
   have a1:k < n:=by simpa using (O2.mp O).1
   have U:x=k:=by
    rw [F8 a1] at O;exact (Option.some.inj O).symm
   subst U;subst e1;obtain ⟨b,z,e2,T2,M2⟩:=Z x st' J;have wide:∀ h∈g,0<=h/\h < ((x + 1:Nat):Int):=fun h B=>⟨(h1 h B).1,by have:=(h1 h B).2; omega⟩
   refine ⟨_,rfl,b,z,e2,fun _=>⟨.int x,z,Y x z,g ++ [(x:Int)],by rw [F3]; rfl,T2,I.trans M2,fun h B=>?_,?_,by simp; omega⟩,fun _=>⟨g,rfl,T2,I.trans M2,wide,h2,by omega⟩⟩
   ·rcases E4.mp B with B | B
    ·exact wide h B
    ·rw [F5.mp B]; omega
   ·rw [List.pairwise_append];refine ⟨h2,by simp,fun a ha b hb=>?_⟩;rw [F5.mp hb];exact (h1 a ha).2)
  ⟨[],rfl,T,Mv.refl L S,fun j hj=>(by cases hj),List.Pairwise.nil,by simp⟩
 rw [E8] at h1 h3;exact ⟨g,G,J,I,⟨h1,h2,by omega⟩,e⟩
theorem Q2s {ns:List Int} {S:Q2} {L:Nat} (T:TapeAt S L ns) (n:Nat) (Y:n<=9):∃ (g:List Int) (j:Q2),TapeAt j L ns/\Mv L S j/\GOk n g/\Z1 [.ref L,.int n] S=.ok (Q7 g) j:=by
 obtain ⟨g,j,B,J,G,e⟩:=Qfp (mt:=Wr) (me:=Wx) (fun k st Tk=>by
  obtain ⟨d,I,hd,U,M2,e2⟩:=Yh Tk 2 (by decide) (by decide);rw [show ((2:Nat):Int)=2 from rfl] at e2;exact ⟨(d:Int) == 0,I,by simp -implicitDefEqProofs [Wr,e2],U,M2⟩) (fun k st=>by simp [Wx]) T n Y
 refine ⟨g,j,B,J,G,?_⟩;have z:-1000000<=(n:Int)/\(n:Int)<=1000000:=by omega
 have step:Wg [some (.ref L),some (.int n)] S=.rt (Q7 g) j:=by
  unfold Q7;have O:Jh (Qb 0) Wr Wx [] (Z4 [none,some 0] [some (.ref L),some (.int n)]) (Zs 0 n) S=.ok (g.map PV.int) j:=e;generalize g.map PV.int=Z at *;simp -implicitDefEqProofs [Wg,Jr,z,O]
 show yn Wg 2 _ S=_;unfold yn;rw [show (([PV.ref L,.int n]:List PV).map some ++ List.replicate (2 - [PV.ref L,.int n].length) none)=[some (.ref L),some (.int n)] from rfl,step]
def Yn:Nat->List (List Int)
 | 0=>[[]]
 | k + 1=>Yn k ++ (Yn k).map (· ++ [(k:Int)])
theorem Q1u:∀ k,(Yn k).length=2 ^ k
 | 0=>rfl
 | k + 1=>by rw [Yn,D7,O0,Q1u k,Nat.pow_succ]; omega
theorem Q1t:∀ k,∀ g∈Yn k,(∀ h∈g,0<=h/\h < (k:Int))/\g.Pairwise (· < ·)/\g.length<=k
 | 0,g,z=>by
  have:g=[]:=by simpa [Yn] using z
  subst this;exact ⟨fun h j=>(by cases j),List.Pairwise.nil,by simp⟩
 | k + 1,g,z=>by
  rw [Yn] at z;rcases E4.mp z with z | z
  ·obtain ⟨a,b,c⟩:=Q1t k g z;exact ⟨fun h j=>⟨(a h j).1,by have:=(a h j).2; omega⟩,b,by omega⟩
  ·obtain ⟨q,G,rfl⟩:=List.mem_map.mp z;obtain ⟨a,b,c⟩:=Q1t k q G;refine ⟨fun h j=>?_,?_,by simp; omega⟩
   ·rcases E4.mp j with j | j
    ·exact ⟨(a h j).1,by have:=(a h j).2; omega⟩
    ·rw [F5.mp j]; omega
   ·rw [List.pairwise_append];refine ⟨b,by simp,fun x I y B=>?_⟩;rw [F5.mp B]; exact (a x I).2
theorem Q11:∀ k,(Yn k).Nodup
 | 0=>by simp [Yn]
 | k + 1=>by
  rw [Yn,List.nodup_append];refine ⟨Q11 k,List.Pairwise.map _ (fun a b j e=>j (List.append_cancel_right e)) (Q11 k),fun a B b z e=>?_⟩;obtain ⟨q,G,rfl⟩:=List.mem_map.mp z;have:=(Q1t k a B).1 (k:Int) (by rw [e]; simp);omega
theorem Q1v:∀ k m,m<=k->∃ g∈Yn k,g.length=m
 | 0,m,h=>⟨[],by simp [Yn],by simp; omega⟩
 | k + 1,m,h=>by
  by_cases z:m<=k
  ·obtain ⟨g,h1,h2⟩:=Q1v k m z;exact ⟨g,by rw [Yn]; exact F6 _ h1,h2⟩
  ·obtain ⟨g,h1,h2⟩:=Q1v k k (O6 _);refine ⟨g ++ [(k:Int)],by rw [Yn]; exact E6 _ (List.mem_map.mpr ⟨g,h1,rfl⟩),by simp; omega⟩
def Vq (n m:Nat):List (List Int):=(Yn n).filter fun g=>decide ((g.length:Int)=(m:Int))
theorem Q3v {l:List (List Int)} (h:l.Nodup):(Ws l).Pairwise fun a b=>V5 a b=true:=by
 have nd:(Ws l).Nodup:=(qg l).nodup_iff.mpr h;refine ((zp l).and nd).imp fun {a b} ⟨h1,h2⟩=>?_
 rcases (Q4j a b).mp h1 with e | e
 ·exact absurd e h2
 ·exact e
theorem Q7y {n m:Nat} (O:1<=n) (Y:n<=6) (G:1<=m) (J:m<=n):BOk n (Ws (Vq n m))/\(Vq n m).length < 64/\∀ g∈Vq n m,g≠[]:=by
 have mem:∀ g,g∈Vq n m <-> g∈Yn n/\g.length=m:=fun g=>by
  unfold Vq;rw [G7];constructor
  ·rintro ⟨a,b⟩; exact ⟨a,by simp at b; omega⟩
  ·rintro ⟨a,b⟩; exact ⟨a,by simp; omega⟩
 have U:2 ^ n<=64:=F0 (Nat.pow_le_pow_right (by decide) Y) (by decide);have B:(Vq n m).length < 64:=by
  have I:([]:List Int)∈Yn n:=by
   obtain ⟨g,h1,h2⟩:=Q1v n 0 (Nat.zero_le _);rw [List.length_eq_zero_iff.mp h2] at h1;exact h1
  have:(Vq n m).length < (Yn n).length:=by
   unfold Vq;exact List.length_filter_lt_length_iff_exists.mpr ⟨[],I,by simp; omega⟩
  rw [Q1u] at this;omega
 have hp:=qg (Vq n m);refine ⟨⟨by omega,by omega,fun z=>?_,fun g j=>?_,Q3v (List.Nodup.sublist List.filter_sublist (Q11 n)),by rw [hp.length_eq]; omega⟩,B,fun g j z=>?_⟩
 ·obtain ⟨g,h1,h2⟩:=Q1v n m J;have:g∈Ws (Vq n m):=hp.mem_iff.mpr ((mem g).mpr ⟨h1,h2⟩);rw [z] at this; cases this
 ·obtain ⟨h1,h2⟩:=(mem g).mp (hp.mem_iff.mp j);obtain ⟨a,b,c⟩:=Q1t n g h1;exact ⟨⟨a,b,by omega⟩,fun z=>by rw [z] at h2; simp at h2; omega⟩
 ·obtain ⟨h1,h2⟩:=(mem g).mp j;rw [z] at h2; simp at h2; omega
theorem Q7r:∀ {l:List (List Int)},(∀ g∈l,g≠[])->Q4y (l.map Q7)=some l
 | [],_=>rfl
 | [] :: l,h=>absurd rfl (h [] (by simp))
 | (x :: g) :: l,h=>by
  have j:=Q7r (l:=l) fun g z=>h g (O5 _ z)
  have hi:∀ ns:List Int,qy (ns.map PV.int)=some ns:=fun ns=>by
   induction ns with
   | nil=>rfl
   | cons n ns j=>rw [D2,qy,j]; rfl
  rw [D2];show (match qy ((x :: g).map PV.int) with | some (n :: ns)=>(Q4y (l.map Q7)).map ((n :: ns) :: ·) | _=>none)=_
  rw [hi,j]; rfl
theorem Qih {n m:Nat} (Z:1<=n) (hn:n<=6) (a1:1<=m) (hm:m<=n) (S:Q2):V8 [.int n,.int m] S=.ok (.lst ((Ws (Vq n m)).map Q7)) S:=by
 obtain ⟨_,a8,a7⟩:=Q7y Z hn a1 hm;have z:∀ i,i<=6->2 ^ i<=64:=fun i hi=>F0 (Nat.pow_le_pow_right (by decide) hi) (by decide)
 obtain ⟨b0,st',e,J,rfl,rfl⟩:=U5 (g:=fun k:Nat=>PV.int (k:Int)) (xs:=List.range n) (ga:=Qb 3) (body:=Vn) (w:=[]) (Γ:=[some (.int n),some (.int m),some (.lst ((Yn 0).map Q7)),none]) (st:=S)
  (fun i Γ st'=>∃ J,Γ=[some (.int n),some (.int m),some (.lst ((Yn i).map Q7)),J]/\st'=S)
  (fun _ _ _ _=>by simp)
  (fun i x Γ st' U ⟨J,e1,e2⟩=>by
   subst e1; subst e2;have hi:i < n:=by simpa using (O2.mp U).1
   have a6:x=i:=by
    rw [F8 hi] at U;exact (Option.some.inj U).symm
   subst a6;have hc:Jh (Qb 0) Jv K3 [] (Z4 [none,some 3] [some (.int n),some (.int m),some (.lst ((Yn x).map Q7)),some (.int x)]) ((Yn x).map Q7) st'=.ok (((Yn x).map (· ++ [(x:Int)])).map Q7) st':=by
    rw [D8];refine Z3 Q7 (fun g=>Q7 (g ++ [(x:Int)])) (by simp) fun g G=>⟨_,rfl,?_⟩
    have a9:=(Q1t x g G).2.2;have hl:(g.map PV.int).length + 1<=1000000:=by rw [O0]; omega
    have I:Q7 (g ++ [(x:Int)])=.tup (g.map PV.int ++ [.int x]):=by unfold Q7; rw [F3]; rfl
    rw [I];generalize (Yn x).map Q7=B at *;unfold Q7;generalize g.map PV.int=gv at *;simp [Z4,K3,Jr,hl]
   have j:((Yn x).map Q7).length + (((Yn x).map (· ++ [(x:Int)])).map Q7).length<=1000000:=by
    rw [O0,O0,O0,Q1u];have:=z x (by omega);omega
   have a4:((Yn x).map Q7).length<=1000000:=by omega
   have hs:(Yn (x + 1)).map Q7=(Yn x).map Q7 ++ ((Yn x).map (· ++ [(x:Int)])).map Q7:=by rw [Yn,F3]
   have I:=Qgv st' ((Yn x).map Q7) (((Yn x).map (· ++ [(x:Int)])).map Q7);rw [bQ (show _<=lim from j)] at I;refine ⟨_,rfl,[some (.int n),some (.int m),some (.lst ((Yn (x + 1)).map Q7)),some (.int x)],st',?_,_,rfl,rfl⟩;rw [hs];show Vn [some (.int n),some (.int m),some (.lst ((Yn x).map Q7)),some (.int x)] st'=_;generalize ((Yn x).map (· ++ [(x:Int)])).map Q7=tv at *;generalize (Yn x).map Q7=B at *;simp -implicitDefEqProofs [Vn,Jr,a4,hc,I])
  ⟨_,rfl,rfl⟩
 rw [E8,<- Zx] at *;have a3:Jh (Qb 0) Xm K2 [] (Z4 [none,some 1] [some (.int n),some (.int m),some (.lst ((Yn n).map Q7)),J]) ((Yn n).map Q7) st'=.ok ((Vq n m).map Q7) st':=by
  unfold Vq;refine Wn Q7 Q7 (fun g=>decide ((g.length:Int)=(m:Int))) (by simp) fun g G=>⟨_,rfl,?_,fun _=>?_⟩
  ·have a2:Zf st' [Q7 g]=.ok (.int (g.length:Nat)) st':=by simp [Q7]
   generalize (Yn n).map Q7=B at *;generalize Q7 g=gv at *;simp [Z4,Xm,a2]
   by_cases q:(g.length:Int)=(m:Int) <;> simp [q]
  ·generalize (Yn n).map Q7=B at *;generalize Q7 g=gv at *;simp [Z4,K2]
 have Y:Q6w st' [.lst ((Vq n m).map Q7)]=.ok (.lst ((Ws (Vq n m)).map Q7)) st':=by
  unfold Q6w;simp only [Qe4,Q7r a7];rw [bQ a8]
 have O:((Yn n).map Q7).length<=1000000:=by rw [O0,Q1u]; have:=z n hn; omega
 have hb:-1000000<=(n:Int)/\(n:Int)<=1000000:=by omega
 have G:Jw 12 (.lst ((Ws (Vq n m)).map Q7))=true:=by simp [Jw,Q7]
 have hz:=yb (n:=st'.length) (st:=st') (k:=16) G (by decide);have a5:(Yn 0).map Q7=[.tup []]:=rfl;rw [a5] at e;have step:V2 [some (.int n),some (.int m),none,none] st'=.rt (.lst ((Ws (Vq n m)).map Q7)) st':=by
  generalize (Ws (Vq n m)).map Q7=ov at *;generalize (Vq n m).map Q7=zv at *;generalize (Yn n).map Q7=B at *;simp -implicitDefEqProofs [V2,Jr,hb,e,O,a3,Y]
 show Qq V2 4 _ st'=_;unfold Qq;rw [show (([PV.int n,.int m]:List PV).map some ++ List.replicate (4 - [PV.int n,.int m].length) none)=[some (.int n),some (.int m),none,none] from rfl,step];generalize (Ws (Vq n m)).map Q7=ov at *;show fin st' (.lst ov) st'=_;unfold fin;rw [bQ (List.prefix_refl _),hz]; rfl
def X7 (gs:List (List Int)):List (List Key × PV):=gs.map fun g=>(g.map Sum.inl,.bl true)
theorem Qpy {a b:List Int} (h:(a.map Sum.inl:List Key)=b.map Sum.inl):a=b:=by
 induction a generalizing b with
 | nil=>cases b with
  | nil=>rfl
  | cons _ _=>cases h
 | cons x a j=>cases b with
  | nil=>cases h
  | cons y b=>
   rw [D2,D2] at h;obtain ⟨h1,h2⟩:=List.cons.inj h;rw [Sum.inl.inj h1,j h2]
open Classical in
def Q3s (gs:List (List Int)) (g:List Int):List (List Int):=if g∈gs then gs else gs ++ [g]
theorem Qnn (gs:List (List Int)) (g:List Int):W0 (X7 gs) (g.map Sum.inl) (.bl true)=X7 (Q3s gs g):=by
 classical
 have j:((X7 gs).any fun G=>decide (G.1=g.map Sum.inl))=decide (g∈gs):=by
  unfold X7;rw [List.any_map]
  by_cases h:g∈gs
  ·rw [bU h,L5];exact ⟨g,h,by simp⟩
  ·rw [bT h,List.any_eq_false];intro x B z;simp at z;exact h (by rw [<- Qpy z]; exact B)
 unfold W0 Q3s;rw [j]
 by_cases h:g∈gs
 ·rw [bQ (bU h),bQ h];unfold X7;rw [D8];refine List.map_congr_left fun x B=>?_
  show (if (x.map Sum.inl:List Key)=g.map Sum.inl then _ else _)=_
  split <;> rfl
 ·rw [bS (by simpa using h),bS h];unfold X7;rw [F3]; rfl
theorem Qe6 (i:Int):Qce (.int i)=some (.inl i):=rfl
theorem Qe5 (g:List Int):Q6b (g.map PV.int)=some (g.map Sum.inl):=by
 induction g with
 | nil=>rfl
 | cons x g j=>rw [D2,Q6b,Qe6]; simp [j]
theorem Qkc (g:List Int):Q7k (g.map Sum.inl)=some g:=by
 induction g with
 | nil=>rfl
 | cons x g j=>rw [D2,Q7k,j]; rfl
theorem Q8e:∀ {gs:List (List Int)},(∀ g∈gs,g≠[])->Q6c (X7 gs)=some gs
 | [],_=>rfl
 | [] :: gs,h=>absurd rfl (h [] (by simp))
 | (x :: g) :: gs,h=>by
  have z:=Q8e (gs:=gs) fun g j=>h g (O5 _ j)
  show (match Q7k ((x :: g).map Sum.inl) with | some (n :: ns)=>(Q6c (X7 gs)).map ((n :: ns) :: ·) | _=>none)=_
  rw [Qkc,z]; rfl
theorem Qcr {S:Q2} {D:Nat} {gs:List (List Int)} (h:S[D]?=some (.dtp (X7 gs))) (hl:gs.length < 1000000) (g:List Int):Q6r S (.ref D) (Q7 g) (.bl true)=some (S.set D (.dtp (X7 (Q3s gs g)))):=by
 have h1:Q05 S (.ref D)=some (X7 gs):=by simp only [Q05,h]
 have h2:(X7 gs).length < lim:=by unfold X7; rw [O0]; exact hl
 unfold Q6r Q7;simp only [h1,Qe5,bQ h2,Qnn]
@[simp] theorem Qua (mo mi m:ME) (Γ:Gam) (st:Q2):Q63 mo mi m Γ st=(m Γ st).sbind fun v G=>(mo Γ G).sbind fun p j=>(mi Γ j).sbind fun q B=>match Q6r B p q v with
 | some z=>.nx Γ z
 | none=>.stuck:=rfl
@[simp] theorem Qu9 (Γ:Gam) (st:Q2):Qab Γ st=.ok (.ref st.length) (st ++ [.dtp []]):=rfl
structure GsOk (n:Int) (gs:List (List Int)):Prop where
 ok:∀ g∈gs,GOk n g/\g≠[]
 nd:gs.Nodup
theorem GsOk.add {n:Int} {gs:List (List Int)} (h:GsOk n gs) {g:List Int} (I:GOk n g) (B:g≠[]):GsOk n (Q3s gs g)/\(Q3s gs g).length<=gs.length + 1/\Q3s gs g≠[]:=by
 classical
 unfold Q3s
 by_cases z:g∈gs
 ·rw [bQ z];exact ⟨h,by omega,fun e=>by rw [e] at z; cases z⟩
 ·rw [bS z];refine ⟨⟨fun q j=>?_,?_⟩,by simp,by simp⟩
  ·rcases E4.mp j with j | j
   ·exact h.ok q j
   ·rw [F5.mp j]; exact ⟨I,B⟩
  ·rw [List.nodup_append];exact ⟨h.nd,by simp,fun a J b G e=>z (by rw [<- F5.mp G,<- e]; exact J)⟩
abbrev bkΓ (L n w D:Nat) (a5 a6:Option PV):Gam:=[some (.ref L),some (.int 5),some (.int n),some (.int w),some (.ref D),a5,a6]
theorem Qgw (g:List Int) (st:Q2):oNe st (Q7 g) (.tup [])=.ok (.bl (!g.isEmpty)) st:=by
 cases g with
 | nil=>simp [Q7,oNe,oEq,der,Jw,peq,Xh,dep]
 | cons x g=>simp [Q7,oNe,oEq,der,Jw,peq,Xh,dep]
theorem Qtr {ns:List Int} {S:Q2} {L D n w:Nat} (T:TapeAt S L ns) (O:L≠D) (hn:n<=6) {gs:List (List Int)} (h:S[D]?=some (.dtp (X7 gs))) (G:GsOk n gs) (hl:gs.length<=1000) (J a6:Option PV) :
  ∃ b6 S' B,TapeAt S' L ns/\S'[D]?=some (.dtp (X7 B))/\GsOk n B/\B.length<=gs.length + 1/\Yk (bkΓ L n w D J a6) S=.nx (bkΓ L n w D J b6) S':=by
 obtain ⟨U,S1,T1,M1,G1,e1⟩:=Q2s T n (by omega);have hb:-1000000<=(n:Int)/\(n:Int)<=1000000:=by omega
 have a1:∃ g j,TapeAt j L ns/\Mv L S j/\GOk n g/\∀ Y:MS,(Qh (Jm 6 (Qe 2 Z1 (Q3 (Q4 0) (Q3 (Q4 2) Q8))))
  (Qh (Zc (toB (mOp oEq (Q4 3) (mC (.int 1)))) (Jm 6 (J1 Wd (Q3 (Yv (Jk [none,some 0] (Qb 0) (Z2 (Q3 (Q4 2) Q8)) We Wh)) Q8))) Jt) Y)) (bkΓ L n w D J a6) S=Y (bkΓ L n w D J (some (Q7 g))) j:=by
  by_cases hw:w=1
  ·subst hw;obtain ⟨g,j,I,M2,G2,e2⟩:=Qfp (mt:=We) (me:=Wh) (fun k st Tk=>by
    obtain ⟨d,j,hd,I,M2,e2⟩:=Yh Tk 4 (by decide) (by decide);rw [show ((4:Nat):Int)=4 from rfl] at e2;exact ⟨decide ((0:Int) < d),j,by simp -implicitDefEqProofs [We,e2],I,M2⟩) (fun k st=>by simp [Wh]) T1 n (by omega)
   refine ⟨g,j,I,M1.trans M2,G2,fun Y=>?_⟩;have a2:Jh (Qb 0) We Wh [] (Z4 [none,some 0] [some (.ref L),some (.int 5),some (.int n),some (.int 1),some (.ref D),J,some (Q7 U)]) (Zs 0 n) S1=.ok (g.map PV.int) j:=e2;unfold bkΓ;generalize Q7 U=v1 at *;unfold Q7;generalize g.map PV.int=gv at *;simp -implicitDefEqProofs [e1,Jr,hb,a2]
  ·have a3:¬ ((w:Int)=1):=by omega
   refine ⟨U,S1,T1,M1,G1,fun Y=>?_⟩;unfold bkΓ;generalize Q7 U=v1 at *;simp -implicitDefEqProofs [e1,hw,a3]
 obtain ⟨g,j,I,M2,G2,hY⟩:=a1;have h2:j[D]?=some (.dtp (X7 gs)):=by rw [M2.keep D (fun z=>O z.symm)]; exact h
 have hD:D < j.length:=(O2.mp h2).1;have nn:=Qgw g j
 by_cases Z:g=[]
 ·refine ⟨some (Q7 g),j,gs,I,h2,G,by omega,?_⟩;have nn:oNe j (Q7 g) (.tup [])=.ok (.bl false) j:=by rw [nn,Z]; rfl
  unfold Yk;rw [hY];unfold bkΓ;generalize Q7 g=gv at *;simp -implicitDefEqProofs [Jr,nn]
 ·have dp:=Qcr h2 (by omega) g;obtain ⟨k1,k2,_⟩:=G.add G2 Z;refine ⟨some (Q7 g),j.set D (.dtp (X7 (Q3s gs g))),Q3s gs g,I.of (by rw [D9 (fun z=>O z.symm)]),by rw [F1 hD],k1,k2,?_⟩;have nn:oNe j (Q7 g) (.tup [])=.ok (.bl true) j:=by
   rw [nn];cases g with
   | nil=>exact absurd rfl Z
   | cons _ _=>rfl
  unfold Yk;rw [hY];unfold bkΓ;generalize Q7 g=gv at *;simp -implicitDefEqProofs [Jr,nn,dp]
theorem Qed {ns:List Int} {S:Q2} {L:Nat} (T:TapeAt S L ns):∃ (n:Nat) (gs:List (List Int)) (G:Q2),1<=n/\n<=6/\BOk n gs/\TapeAt G L ns/\Yx [.ref L,.int 5] S=.ok (J8 n gs) G:=by
 obtain ⟨d,S1,hd,T1,M1,e1⟩:=Yh T 5 (by decide) (by decide);obtain ⟨w,B,hw,T2,M2,e2⟩:=Yh T1 4 (by decide) (by decide);rw [show ((5:Nat):Int)=5 from rfl] at e1;rw [show ((4:Nat):Int)=4 from rfl] at e2;obtain ⟨n,hn⟩:∃ n:Nat,1 + (d:Int)=n:=⟨1 + d,by push_cast; rfl⟩;have J:1<=n:=by omega
 have O:n<=6:=by omega
 have ret:∀ {v:PV} {G:Q2},Wm [some (.ref L),some (.int 5),none,none,none,none,none] S=.rt v G->Yx [.ref L,.int 5] S=.ok v G:=fun {v G} h=>by
  show yn Wm 7 _ S=_;unfold yn;rw [show (([PV.ref L,.int 5]:List PV).map some ++ List.replicate (7 - [PV.ref L,.int 5].length) none)=[some (.ref L),some (.int 5),none,none,none,none,none] from rfl,h]
 by_cases w0:w=0
 ·subst w0;obtain ⟨m,S3,hm,T3,M3,e3⟩:=Yh T2 n J (by omega);obtain ⟨q,hq⟩:∃ q:Nat,1 + (m:Int)=q:=⟨1 + m,by push_cast; rfl⟩;have e4:=Qih J O (show 1<=q by omega) (show q<=n by omega) S3;refine ⟨n,Ws (Vq n q),S3,J,O,(Q7y J O (by omega) (by omega)).1,T3,ret ?_⟩;rw [show ((0:Nat):Int)=0 from rfl] at e2;unfold J8 Q0v;generalize (Ws (Vq n q)).map Q7=ov at *;simp -implicitDefEqProofs [Wm,e1,e2,hn,e3,hq,e4,Jr]
 ·have a2:¬ ((w:Int)=0):=by omega
  have T3:TapeAt (B ++ [.dtp []]) L ns:=T2.of (by rw [O9 T2.lt]);obtain ⟨k,S4,hk,T4,M4,e4⟩:=Yh T3 6 (by decide) (by decide);rw [show ((6:Nat):Int)=6 from rfl] at e4;have a1:L≠B.length:=E5 T2.lt;have h4:S4[B.length]?=some (.dtp (X7 [])):=by rw [M4.keep _ (fun z=>a1 z.symm)]; simp [X7]
  obtain ⟨kk,a9⟩:∃ kk:Nat,1 + (k:Int)=kk:=⟨1 + k,by push_cast; rfl⟩;obtain ⟨b1,I,e5,b5,b6,gs,rfl,T5,h5,G5,l5⟩:=U5 (g:=fun k:Nat=>PV.int (k:Int)) (xs:=List.range kk) (ga:=Qb 5) (body:=Yk) (w:=[]) (Γ:=bkΓ L n w B.length none none) (st:=S4)
   (fun i Γ st'=>∃ b5 b6 gs,Γ=bkΓ L n w B.length b5 b6/\TapeAt st' L ns/\st'[B.length]?=some (.dtp (X7 gs))/\GsOk n gs/\gs.length<=i)
   (fun _ _ _ _=>by simp)
   (fun i x Γ st' hx ⟨b5,b6,gs,g1,T',h',G',l'⟩=>by
    subst g1;have hi:i < kk:=by simpa using (O2.mp hx).1
    obtain ⟨c6,G,j,T6,h6,G6,l6,e6⟩:=Qtr T' a1 O h' G' (by omega) (some (.int x)) b6 (w:=w);exact ⟨_,rfl,_,G,e6,_,_,j,rfl,T6,h6,G6,by omega⟩)
   ⟨_,_,[],rfl,T4,h4,⟨fun g U=>(by cases U),List.nodup_nil⟩,by simp⟩
  rw [<- Zx] at e5;rw [E8] at l5;have a7:-1000000<=(kk:Int)/\(kk:Int)<=1000000:=by omega
  have a5:B.length < I.length:=(O2.mp h5).1;have b0:∀ (G:Q2) j,G[B.length]?=some (.dtp (X7 j))->j.length < 1000->Q6y G [.ref B.length]=.ok (.int (j.length:Nat)) G:=fun G j h hl=>by
   unfold Q6y;have h1:Q05 G (.ref B.length)=some (X7 j):=by simp only [Q05,h]
   have h2:(X7 j).length=j.length:=by unfold X7; rw [O0]
   simp only [h1,h2];rw [bQ (by omega)]
  have a6:∃ j Z,GsOk n j/\j≠[]/\j.length < 60/\TapeAt Z L ns/\Z[B.length]?=some (.dtp (X7 j))/\(Zc (toB (mOp oEq (J1 Q6y (Q3 (Q4 4) Q8)) (mC (.int 0)))) (Q63 (Q4 4) (Zt (Q3 (mOp (oI fun a b=>.int (a - b)) (Q4 2) (mC (.int 1))) Q8)) (mC (.bl true))) Jt) (bkΓ L n w B.length b5 b6) I=.nx (bkΓ L n w B.length b5 b6) Z:=by
   have hl:=b0 I gs h5 (by omega)
   by_cases U:gs=[]
   ·subst U;have a4:GOk n [(n:Int) - 1]:=⟨fun h hh=>by rw [F5.mp hh]; omega,by simp,by simp⟩;obtain ⟨k1,k2,k3⟩:=G5.add a4 (by simp);have dp:=Qcr h5 (by simp) [(n:Int) - 1];refine ⟨Q3s [] [(n:Int) - 1],I.set B.length (.dtp (X7 (Q3s [] [(n:Int) - 1]))),k1,k3,by simp at k2; omega,T5.of (by rw [D9 (fun z=>a1 z.symm)]),by rw [F1 a5],?_⟩;have hl:Q6y I [.ref B.length]=.ok (.int 0) I:=hl;have dp:Q6r I (.ref B.length) (.tup [.int ((n:Int) - 1)]) (.bl true)=some (I.set B.length (.dtp (X7 (Q3s [] [(n:Int) - 1])))):=dp;unfold bkΓ;generalize I.set B.length (Cell.dtp (X7 (Q3s [] [(n:Int) - 1])))=Z at *;simp -implicitDefEqProofs [hl,Jr,dp]
   ·refine ⟨gs,I,G5,U,by omega,T5,h5,?_⟩;have h0:¬ ((gs.length:Int)=0):=by have:=G8.mpr U; omega
    have a8:¬ gs=[]:=U;unfold bkΓ;simp -implicitDefEqProofs [hl,h0,a8]
  obtain ⟨j,Z,k1,k2,k3,T6,h6,e6⟩:=a6;have a3:Q6x Z [.ref B.length]=.ok (.lst ((Ws j).map Q7)) Z:=by
   unfold Q6x;have h1:Q05 Z (.ref B.length)=some (X7 j):=by simp only [Q05,h6]
   simp only [h1,Q8e fun g U=>(k1.ok g U).2]
   rw [bQ (by omega)]
  have hp:=qg j;refine ⟨n,Ws j,Z,J,O,⟨by omega,by omega,fun z=>?_,fun g U=>k1.ok g (hp.mem_iff.mp U),Q3v k1.nd,by rw [hp.length_eq]; omega⟩,T6,ret ?_⟩
  ·rw [z] at hp;exact k2 (List.nil_perm.mp hp)
  ·have s1:∀ Y:MS,(Qh (Jm 2 (mOp Zb (mC (.int 1)) (Qe 2 Qi (Q3 (Q4 0) (Q3 (Q4 1) Q8)))))
    (Qh (Jm 3 (Qe 2 Qi (Q3 (Q4 0) (Q3 (mC (.int 4)) Q8))))
    (Qh (Zc (toB (mOp oEq (Q4 3) (mC (.int 0)))) (Jz (Zt (Q3 (Q4 2) (Q3 (J1 Wd (Q3 (Qe 2 V8 (Q3 (Q4 2) (Q3 (mOp Zb (mC (.int 1)) (Qe 2 Qi (Q3 (Q4 0) (Q3 (Q4 2) Q8)))) Q8))) Q8)) Q8)))) Jt)
    (Qh (Jm 4 Qab)
    (Qh (y4 (Qb 5) (Z2 (Q3 (mOp Zb (mC (.int 1)) (Qe 2 Qi (Q3 (Q4 0) (Q3 (mC (.int 6)) Q8)))) Q8)) Yk) Y))))) [some (.ref L),some (.int 5),none,none,none,none,none] S=Y (bkΓ L n w B.length b5 b6) I:=fun Y=>by
    unfold bkΓ at e5 ⊢;simp -implicitDefEqProofs [e1,e2,hn,w0,a2,e4,a9,Jr,a7,e5]
   unfold Wm;rw [s1,qw,e6];show Jz _ _ _=_;unfold J8 Q0v bkΓ;generalize (Ws j).map Q7=ov at *;simp -implicitDefEqProofs [a3,Jr]
theorem Q3j (x:Int) (g:List Int) (st:Q2) (j:Bool):oIn j st (.int x) (Q7 g)=.ok (.bl (decide (x∈g) != j)) st:=by
 have h1:(g.map PV.int).all (Jw dep)=true:=by simp [Jw]
 have h2:((g.map PV.int).any fun y=>peq y (.int x))=decide (x∈g):=by
  rw [List.any_map]
  by_cases h:x∈g
  ·rw [bU h,L5];exact ⟨x,h,by simp [peq]⟩
  ·rw [bT h,List.any_eq_false];intro y B z;simp [peq] at z;exact h (by rw [<- z]; exact B)
 unfold oIn Q7;simp only [Q80];have hd:der st (.int x)=.int x:=rfl;rw [hd,bQ ⟨rfl,h1⟩,h2]
def U3 (a b:List Int):Bool:=a.any fun x=>decide (x∈b)
theorem Qe1 (a b:List Int):U3 a b=U3 b a:=by
 have j:∀ a b:List Int,U3 a b=true->U3 b a=true:=fun a b h=>by
  unfold U3 at *;rw [L5] at *;obtain ⟨x,h1,h2⟩:=h;exact ⟨x,by simpa using h2,by simpa using h1⟩
 cases h:U3 a b with
 | true=>rw [j a b h]
 | false=>
  cases h2:U3 b a with
  | false=>rfl
  | true=>rw [j b a h2] at h; cases h
theorem Qjy {n:Int} {a b:List Int} (O:a.length<=20) (st:Q2):Q2q [Q7 a,Q7 b] st=.ok (.bl (U3 a b)) st:=by
 have z:Jh (Qb 0) Jv Q3m [] (Z4 [none,some 1] [some (Q7 a),some (Q7 b)]) (a.map PV.int) st=.ok ((a.map fun x=>decide (x∈b)).map .bl) st:=by
  rw [D8];refine Z3 PV.int (fun x=>PV.bl (decide (x∈b))) (by simp) fun x J=>⟨_,rfl,?_⟩
  have:=Q3j x b st false;rw [Bool.bne_false] at this;generalize Q7 a=I at *;generalize Q7 b=B at *;simp [Z4,Q3m,this]
 have G:U3 a b=(a.map fun x=>decide (x∈b)).any id:=by unfold U3; rw [List.any_map]; rfl
 have hl:(a.map PV.int).length<=1000000:=by rw [O0]; omega
 rw [G];have j:Q7 a=.tup (a.map PV.int):=rfl;rw [j] at z ⊢;generalize (a.map fun x=>decide (x∈b))=bs at *
 generalize a.map PV.int=I at *;generalize Q7 b=B at *;simp -implicitDefEqProofs [Q2q,Qq,Qa9,hl,Jr,z]
def Ky (gs:List (List Int)) (a:List Int):Option (List Int):=gs.find? fun g=>!U3 a g
def Q9x:Option (List Int)->PV
 | none=>.non
 | some g=>Q7 g
theorem Qd3 {n:Int} {gs:List (List Int)} (hl:gs.length<=100) {a:List Int} (ha:a.length<=20) (st:Q2):Ub [J8 n gs,Q7 a] st=.ok (Q9x (Ky gs a)) st:=by
 have U:∀ (l:List (List Int)) (B:Option PV),(∃ O,U6 (Qb 2) Z0 [] (l.map Q7) [some (J8 n gs),some (Q7 a),B] st=.nx [some (J8 n gs),some (Q7 a),O] st/\Ky l a=none)\/(∃ g,U6 (Qb 2) Z0 [] (l.map Q7) [some (J8 n gs),some (Q7 a),B] st=.rt (Q7 g) st/\Ky l a=some g):=by
  intro l
  induction l with
  | nil=>intro B; exact .inl ⟨B,by simp [U6],rfl⟩
  | cons x l ih=>
   intro B;have Y:=Qjy (n:=n) (a:=a) (b:=x) ha st;have hb:Z0 [some (J8 n gs),some (Q7 a),some (Q7 x)] st=if U3 a x=true then .nx [some (J8 n gs),some (Q7 a),some (Q7 x)] st else .rt (Q7 x) st:=by
    generalize J8 n gs=bv at *;generalize Q7 a=Z at *;generalize Q7 x=xv at *;cases q:U3 a x <;> (rw [q] at Y; simp -implicitDefEqProofs [Z0,Y])
   rw [D2,U6,bQ (by simp)];show (∃ O,(match Z0 [some (J8 n gs),some (Q7 a),some (Q7 x)] st with
    | .nx z j=>U6 (Qb 2) Z0 [] (l.map Q7) z j
    | .ct z j=>U6 (Qb 2) Z0 [] (l.map Q7) z j
    | .bk z j=>.nx z j
    | .rt v j=>.rt v j
    | .exc x j=>.exc x j
    | .stuck=>.stuck)=.nx [some (J8 n gs),some (Q7 a),O] st/\_)\/(∃ g,(match Z0 [some (J8 n gs),some (Q7 a),some (Q7 x)] st with
    | .nx z j=>U6 (Qb 2) Z0 [] (l.map Q7) z j
    | .ct z j=>U6 (Qb 2) Z0 [] (l.map Q7) z j
    | .bk z j=>.nx z j
    | .rt v j=>.rt v j
    | .exc x j=>.exc x j
    | .stuck=>.stuck)=.rt (Q7 g) st/\_)
   rw [hb];cases q:U3 a x with
   | true=>
    have I:Ky (x :: l) a=Ky l a:=by unfold Ky; rw [List.find?_cons,q]; rfl
    rw [bQ rfl,I];exact ih _
   | false=>
    rw [bS (by simp)];exact .inr ⟨x,rfl,by unfold Ky; rw [List.find?_cons,q]; rfl⟩
 have G:(gs.map Q7).length<=1000000:=by rw [O0]; omega
 have J:oIx st (J8 n gs) (.int 1)=.ok (.tup (gs.map Q7)) st:=rfl;rcases U gs none with ⟨O,e,I⟩ | ⟨g,e,I⟩
 ·rw [I];generalize J8 n gs=bv at *;generalize gs.map Q7=gv at *;generalize Q7 a=Z at *;simp -implicitDefEqProofs [Ub,Qq,Wk,J,G,Jr,e,Q9x]
 ·rw [I];have hg:Jw 12 (Q7 g)=true:=by simp [Jw,Q7]
  have hz:=yb (n:=st.length) (st:=st) (k:=16) hg (by decide);show _=Res.ok (Q7 g) st;have step:Wk [some (J8 n gs),some (Q7 a),none] st=.rt (Q7 g) st:=by
   generalize J8 n gs=bv at *;generalize gs.map Q7=gv at *;generalize Q7 a=Z at *;generalize Q7 g=gg at *;simp -implicitDefEqProofs [Wk,J,G,Jr,e]
  show Qq Wk 3 _ st=_;unfold Qq;rw [show (([J8 n gs,Q7 a]:List PV).map some ++ List.replicate (3 - [J8 n gs,Q7 a].length) none)=[some (J8 n gs),some (Q7 a),none] from rfl,step];show fin st (Q7 g) st=_;unfold fin;rw [bQ (List.prefix_refl _),hz]; rfl
theorem Qnb {F:FN} {m:MS} {n:Nat} (j:F=Qq m n) {ps:List PV} {st:Q2} {o:Option (List Int)} (h:m (ps.map some ++ List.replicate (n - ps.length) none) st=.rt (Q9x o) st):F ps st=.ok (Q9x o) st:=by
 have B:Jw 12 (Q9x o)=true:=by cases o <;> simp [Jw,Q7,Q9x]
 have z:=yb (n:=st.length) (st:=st) (k:=16) B (by decide);rw [j];unfold Qq;rw [h];show fin st (Q9x o) st=_;unfold fin;rw [bQ (List.prefix_refl _),z]; rfl
theorem Qb3 {n:Int} {gs:List (List Int)} (B:BOk n gs) {a:List Int} (G:GOk n a) (z:a≠[]) (st:Q2):jc [J8 n gs,Q7 a] st=.ok (Q9x (Ky gs a)) st:=by
 have h1:=Yq B st;have h2:=Q2i G z st;have I:=Qd3 (n:=n) (gs:=gs) (by have:=B.len; omega) (a:=a) G.len st;have j:oIx st (J8 n gs) (.int 0)=.ok (.int n) st:=rfl;refine Qnb (m:=Kh) (n:=2) rfl ?_;show Kh [some (J8 n gs),some (Q7 a)] st=_;generalize Q9x (Ky gs a)=O at *;generalize J8 n gs=J at *;generalize Q7 a=U at *;simp -implicitDefEqProofs [Kh,Jq,Qq,Zp,h1,h2,I,j]
theorem Q7j (a b c:Int) (st:Q2):Z9 [.int a,.int b,.int c] st=.ok (.bl (decide (b<=a) && decide (a<=c))) st:=by
 by_cases h:b<=a <;> simp [Z9,Qq,qb,y9,h]
theorem Qci {V:PV} {n:Nat} {st:Q2} (j:Zf st [V]=.ok (.int n) st) (i:Int):V7 [V,.int i] st=.ok (.bl (decide (0<=i) && decide (i < n))) st:=by
 have e:decide (i<=(n:Int) - 1)=decide (i < (n:Int)):=by
  rw [decide_eq_decide]; omega
 simp [V7,Qq,Q1i,j,Q7j,e]
theorem Q2e {V:PV} {n i:Nat} {st:Q2} (j:Zf st [V]=.ok (.int n) st) (hi:i < n):V7 [V,.int i] st=.ok (.bl true) st:=by
 rw [Qci j];simp; omega
theorem Qq2 {n r:Nat} {S:Q2} {hs:List Int} (z:n<=r) (h:S[r]?=some (.lst (hs.map .int))):fz n S 16 (.ref r)=some (.lst (hs.map .int)):=by
 have j:Jw 12 (.lst (hs.map .int))=true:=by simp [Jw]
 have:=yb (n:=n) (st:=S) (k:=16) j (by decide);rw [fz,bS (by omega),h];simpa [fz] using this
def Qs (tb:List (List Int)) (h:Nat):Int:=Zk tb.length (fun o=>ent tb o h) - ((tb.getD h []).sum - ent tb h h)
theorem Uh {n h:Nat} {tb:List (List Int)} (z:Sz n tb) (B:h < n):Qs tb h=Zk n (fun o=>ent tb o h) - (Zk n (fun j=>ent tb h j) + ent tb h n - ent tb h h):=by
 unfold Qs;rw [z.1,Qb6 (tb.getD h []),(z.row B).2,Z5];rfl
theorem Q32 {n h:Nat} {tb:List (List Int)} (z:Sz n tb) (Y:n<=100) (j:h < n) (st:Q2):Xe [Qj tb,.int h] st=.ok (.int (Qs tb h)) st:=by
 have J:=Q2e (V:=Qj tb) (n:=n) (i:=h) (st:=st) (by simp [Qj,z.1]) j;have B:Jh (Qb 0) Jv Q1m [] (Z4 [none,some 1] [some (Qj tb),some (.int h),none,none,none]) (tb.map Z6) st=.ok (tb.map fun r=>.int (r.getD h 0)) st:=by
  refine Z3 _ _ (by simp) fun r G=>⟨_,rfl,?_⟩
  have e:=atI_get (qd (show h < r.length by rw [z.2 r G]; omega) 0);simp [Z4,Q1m,Z6,ye,e]
 have e1:=atI_get (z.row j).1;have e2:=atI_get (z.cell j (E2 j));have hs:(tb.map fun r=>r.getD h 0).sum=Zk n fun o=>ent tb o h:=by
  rw [Q5w tb [] fun r=>r.getD h 0,z.1]; rfl
 have hl:tb.length<=1000000:=by rw [z.1]; omega
 unfold Qs;rw [z.1,<- hs];obtain ⟨r,G⟩:∃ r,tb.getD h []=r:=⟨_,rfl⟩;obtain ⟨x,U⟩:∃ x,ent tb h h=x:=⟨_,rfl⟩;rw [G] at e1 e2 ⊢;rw [U] at e2 ⊢;obtain ⟨q,O⟩:∃ q,(tb.map fun r=>r.getD h 0)=q:=⟨_,rfl⟩;have I:(tb.map fun r=>PV.int (r.getD h 0))=q.map .int:=by rw [<- O,D8]; rfl
 rw [I] at B;rw [O];unfold Qj at J B ⊢;simp [Xe,Qq,Q5x,J,B,hl,Jr,ye,e1,Z6,e2]
theorem Vj {n i j:Nat} {tb:List (List Int)} (z:Sz n tb) (hi:i < n) (B:j<=n) (st:Q2):oIx st (Qj tb) (.int i)=.ok (Z6 (tb.getD i [])) st/\oIx st (Z6 (tb.getD i [])) (.int j)=.ok (.int (ent tb i j)) st:=by
 constructor
 ·unfold Qj; rw [Qf4,ye,atI_get (z.row hi).1]; rfl
 ·unfold Z6; rw [Qf4,ye,atI_get (z.cell hi B)]; rfl
def jz (tb:List (List Int)) (h:Nat):Bool:=decide (0 < ent tb h h)
theorem Qpb {n h:Nat} {tb:List (List Int)} (z:Sz n tb) (j:h < n) (st:Q2):Km [Qj tb,.int h] st=.ok (.bl (jz tb h)) st:=by
 obtain ⟨B,G⟩:=Vj z j (E2 j) st;unfold jz;generalize ent tb h h=x at *;generalize tb.getD h []=r at *;simp [Km,Qq,Q00,B,G]
def U9 (tb:List (List Int)) (h:Nat):Bool:=decide (ent tb h h < (tb.getD h []).sum)
theorem Qqe {n h:Nat} {tb:List (List Int)} (z:Sz n tb) (j:h < n) (st:Q2):Y6 [Qj tb,.int h] st=.ok (.bl (U9 tb h)) st:=by
 obtain ⟨I,B⟩:=Vj z j (E2 j) st;unfold U9;generalize ent tb h h=x at *;generalize tb.getD h []=r at *;have G:W4 (fun ns=>some (.int ns.sum)) st [Z6 r]=.ok (.int r.sum) st:=by unfold Z6; rw [Q8t]; rfl
 simp [Y6,Qq,Vx,I,B,G]
def Qc8 (tb:List (List Int)) (h:Nat) (ls:List Nat):Bool:=ls.any fun o=>decide (o≠h) && decide (0 < ent tb o h)
theorem Qmg {α:Type} (xs:List α) (p:α->Bool):(xs.map p).any id=xs.any p:=by
 rw [List.any_map]; rfl
theorem Qpq {n h:Nat} {tb:List (List Int)} (z:Sz n tb) (J:h < n) {j:List Nat} (hl:∀ o∈j,o < n) (Z:j.length<=1000) {V:PV} {st:Q2} (Y:ListAt st V (j.map J3)):Wi [Qj tb,.int h,V] st=.ok (.bl (Qc8 tb h j)) st:=by
 obtain ⟨w,B,hw⟩:=Y.src;have U:Jh (Qb 0) Ut X8 w (Z4 [none,some 1,some 0] [some (Qj tb),some (.int h),some V]) (j.map J3) st=.ok ((j.filter fun o=>decide (o≠h)).map fun o=>.bl (decide (0 < ent tb o h))) st:=by
  refine Wn _ _ _ hw fun o ho=>⟨_,rfl,?_,fun ht=>?_⟩
  ·simp [Z4,Ut,J3]
   by_cases e:o=h
   ·simp [e]
   ·have:¬ ((o:Int)=h):=by omega
    simp [e,this]
  ·obtain ⟨c1,O⟩:=Vj z (hl o ho) (E2 J) st;generalize ent tb o h=x at *;generalize tb.getD o []=r at *;simp [Z4,X8,J3,c1,O]
 have G:(j.map J3).length<=1000000:=by rw [O0]; omega
 have I:Qc8 tb h j=((j.filter fun o=>decide (o≠h)).map fun o=>decide (0 < ent tb o h)).any id:=by
  rw [Qmg,List.any_filter]; rfl
 rw [I];generalize j.map J3=ov at *;generalize j.filter (fun o=>decide (o≠h))=fs at *
 simp [Wi,Qq,Kv,B,G,Jr,U,-List.any_map]
def zy (tb:List (List Int)) (h:Nat) (ls:List Nat):Bool:=jz tb h || Qc8 tb h ls
theorem Qna {n h:Nat} {tb:List (List Int)} (z:Sz n tb) (G:h < n) {j:List Nat} (hl:∀ o∈j,o < n) (B:j.length<=1000) {V:PV} {st:Q2} (J:ListAt st V (j.map J3)):K7 [Qj tb,.int h,V] st=.ok (.bl (zy tb h j)) st:=by
 have h1:=Qpb z G st;have h2:=Qpq z G hl B J;unfold zy;cases I:jz tb h with
 | true=>rw [I] at h1; simp [K7,Qq,y2,h1]
 | false=>rw [I] at h1; simp [K7,Qq,y2,h1,h2]
theorem Qfi (hs:List Int) (x:Int):((hs.map PV.int).any fun y=>peq y (.int x))=decide (x∈hs):=by
 rw [List.any_map,Bool.eq_iff_iff,L5,decide_eq_true_iff];constructor
 ·rintro ⟨y,j,e⟩;have:y=x:=by simpa [peq] using e
  rw [<- this]; exact j
 ·intro h;exact ⟨x,h,by simp [peq]⟩
theorem Qkd {hs:List Int} {V:PV} {st:Q2} (z:ListAt st V (hs.map .int)) (x:Int) (b:Bool):oIn b st (.int x) V=.ok (.bl (decide (x∈hs) != b)) st:=by
 have j:Kb st V=some (hs.map .int):=by
  rcases z with rfl | rfl | ⟨i,rfl,e⟩
  ·rfl
  ·rfl
  ·rw [Q4h,e]
 have hd:der st (.int x)=.int x:=rfl;have B:Jw dep (.int x)=true:=rfl;have g2:(hs.map PV.int).all (Jw dep)=true:=by simp [Jw,dep]
 unfold oIn;rw [j,hd];simp only [B,g2,and_self,if_true,Qfi]
def Qm7 (n:Nat) (tb:List (List Int)) (h:Nat):Bool:=(List.range (n + 1)).any fun j=>decide (j≠h) && decide (0 < ent tb h j)
theorem Q4f {n j:Nat} {f:Nat->Int} (z:∀ i,i < n->0<=f i) (I:j < n):f j<=Zk n f:=by
 induction n with
 | zero=>exact absurd I (Nat.not_lt_zero _)
 | succ n G=>
  rw [Z5];have B:=z n (Nat.lt_succ_self n)
  by_cases e:j=n
  ·subst e;have:=Q3t (f:=f) (n:=j) fun i hi=>z i (Nat.lt_succ_of_lt hi)
   omega
  ·have:=G (fun i hi=>z i (Nat.lt_succ_of_lt hi)) (by omega)
   omega
theorem Q4x {n h:Nat} (f:Nat->Int) (z:h < n):Zk n f=f h + Zk n fun j=>if j≠h then f j else 0:=by
 induction n with
 | zero=>exact absurd z (Nat.not_lt_zero _)
 | succ n B=>
  rw [Z5,Z5]
  by_cases e:n=h
  ·subst e;rw [bS (by simp),Za (f:=f) (g:=fun j=>if j≠n then f j else 0) fun i hi=>by rw [bQ (by omega)]]
   omega
  ·rw [bQ e,B (by omega)];omega
theorem Qi8 {n h:Nat} {f:Nat->Int} (I:∀ i,i < n->0<=f i) (J:h < n):f h < Zk n f <-> ∃ j,j < n/\j≠h/\0 < f j:=by
 have e:=Q4x f J;have O:∀ i,i < n->0<=(fun j=>if j≠h then f j else 0) i:=fun i hi=>by
  show 0<=if i≠h then f i else 0
  split
  ·exact I i hi
  ·exact Int.le_refl _
 constructor
 ·intro q;refine Classical.byContradiction fun G=>?_
  have:Zk n (fun j=>if j≠h then f j else 0)=Zk n fun _=>0:=Za fun i hi=>by
   by_cases z:i=h
   ·rw [bS (by simp [z])]
   ·rw [bQ z];have h1:=I i hi;have h2:¬ 0 < f i:=fun q=>G ⟨i,hi,z,q⟩
    omega
  rw [Xk] at this;omega
 ·rintro ⟨j,U,B,hp⟩;have:=Q4f O U;simp only [bQ B] at this;omega
theorem Qqf {n h:Nat} {tb:List (List Int)} (w:Wt' n tb) (B:h < n):Qm7 n tb h=U9 tb h:=by
 have hs:(tb.getD h []).sum=Zk (n + 1) fun j=>ent tb h j:=by
  rw [Qb6,(w.sz.row B).2]; rfl
 have hp:=(Qi8 (n:=n + 1) (h:=h) (f:=fun j=>ent tb h j) (fun i hi=>w.ent_nn B (by omega)) (by omega))
 unfold Qm7 U9;rw [hs,Bool.eq_iff_iff,L5,decide_eq_true_iff,hp];constructor
 ·rintro ⟨j,z,q⟩;simp at q;exact ⟨j,D5.mp z,q.1,q.2⟩
 ·rintro ⟨j,z,a,b⟩;exact ⟨j,D5.mpr z,by simp [a,b]⟩
def kn3 (tb:List (List Int)) (i:Nat) (bs:List Bool) (j:Nat):List Bool:=if bs.getD i false=true/\i≠j/\0 < ent tb i j then bs.set j true else bs
def kn2 (n:Nat) (tb:List (List Int)) (bs:List Bool) (i:Nat):List Bool:=(List.range n).foldl (kn3 tb i) bs
def kn1 (n:Nat) (tb:List (List Int)) (bs:List Bool) (_:Nat):List Bool:=(List.range n).foldl (kn2 n tb) bs
def Qaf (n:Nat) (tb:List (List Int)):List Bool:=(List.range n).map (jz tb)
def Q3f (n:Nat) (tb:List (List Int)):List Bool:=(List.range n).foldl (kn1 n tb) (Qaf n tb)
theorem Q6m {α β:Type} {f:List α->β->List α} (h:∀ bs x,(f bs x).length=bs.length):∀ (xs:List β) (bs:List α),(xs.foldl f bs).length=bs.length
 | [],_=>rfl
 | x :: xs,bs=>by rw [List.foldl_cons,Q6m h xs,h]
theorem Qfa (tb:List (List Int)) (i:Nat) (bs:List Bool) (j:Nat):(kn3 tb i bs j).length=bs.length:=by
 unfold kn3; split <;> simp
theorem Qfb (n:Nat) (tb:List (List Int)) (bs:List Bool) (i:Nat):(kn2 n tb bs i).length=bs.length:=Q6m (Qfa tb i) _ _
theorem Qpu (n:Nat) (tb:List (List Int)) (bs:List Bool) (t:Nat):(kn1 n tb bs t).length=bs.length:=Q6m (Qfb n tb) _ _
inductive Rc (n:Nat) (tb:List (List Int)):Nat->Prop
 | made {h:Nat}:h < n->jz tb h=true->Rc n tb h
 | lent {o h:Nat}:Rc n tb o->h < n->0 < ent tb o h->Rc n tb h
theorem Rc.lt {n h:Nat} {tb:List (List Int)} (r:Rc n tb h):h < n:=by cases r <;> assumption
theorem Ys {α β:Type} {f:β->α->β} {P:β->Prop}:∀ {xs:List α} {b:β},(∀ b x,x∈xs->P b->P (f b x))->P b->P (xs.foldl f b)
 | [],_,_,h=>h
 | x :: xs,b,hs,h=>Ys (xs:=xs) (fun b y j=>hs b y (O5 _ j)) (hs b x O8 h)
theorem Q2k {α β:Type} {f:β->α->β} {P Q:β->Prop} (G:∀ b y,P b->P (f b y)) (I:∀ b y,Q b->Q (f b y)) {x:α} (B:∀ b,P b->Q (f b x)):∀ {xs:List α} {b:β},x∈xs->P b->Q (xs.foldl f b)
 | [],_,j,_=>by cases j
 | y :: ys,b,j,z=>by
  rw [List.foldl_cons];rcases D3.mp j with rfl | j
  ·exact Ys (fun b y _=>I b y) (B b z)
  ·exact Q2k G I B j (G b y z)
def Cl (n:Nat) (tb:List (List Int)) (mem:Nat->Bool):Prop:=∀ o h,o < n->h < n->o≠h->0 < ent tb o h->mem o=true->mem h=true
def cnt (n:Nat) (mem:Nat->Bool):Int:=Zk n fun h=>if mem h=true then 1 else 0
theorem Qtj (n:Nat) (mem:Nat->Bool):cnt n mem<=n:=by
 unfold cnt
 induction n with
 | zero=>exact Int.le_refl _
 | succ n j=>rw [Z5]; split <;> omega
theorem Qkz {n:Nat} {m1 m2:Nat->Bool} (B:∀ h,h < n->m1 h=true->m2 h=true) {h:Nat} (z:h < n) (h1:m1 h=false) (h2:m2 h=true):cnt n m1 + 1<=cnt n m2:=by
 have e:=Q1s n (fun h=>if m2 h=true then (1:Int) else 0) (fun h=>if m1 h=true then 1 else 0)
 have l:=Q4f (n:=n) (j:=h) (f:=fun h=>(if m2 h=true then (1:Int) else 0) - (if m1 h=true then 1 else 0)) (fun i hi=>by
  have:=B i hi;cases a:m1 i <;> cases b:m2 i <;> simp_all) z
 simp only [h1,h2] at l;unfold cnt;simp at l;omega
theorem Q3u {X:Type} (n:Nat) (tb:List (List Int)) (mem:X->Nat->Bool) (f:X->Nat->X) (Inv:X->Prop) (hi:∀ x t,Inv x->Inv (f x t))
  (mono:∀ x t h,Inv x->h < n->mem x h=true->mem (f x t) h=true)
  (Y:∀ x t o h,Inv x->o < n->h < n->o≠h->0 < ent tb o h->mem x o=true->mem (f x t) h=true)
  (stay:∀ x t,Inv x->Cl n tb (mem x)->∀ h,h < n->mem (f x t) h=true->mem x h=true) (G:X) (h0:Inv G):Cl n tb (mem ((List.range n).foldl f G)):=by
 have Z:∀ t:Nat,Inv ((List.range t).foldl f G)/\(Cl n tb (mem ((List.range t).foldl f G))\/(t:Int)<=cnt n (mem ((List.range t).foldl f G))):=by
  intro t
  induction t with
  | zero=>
   refine ⟨h0,.inr ?_⟩;exact Q3t fun i _=>by split <;> omega
  | succ t O=>
   rw [List.range_succ,List.foldl_append,List.foldl_cons,List.foldl_nil];obtain ⟨J,O⟩:=O;generalize (List.range t).foldl f G=x at *;refine ⟨hi x t J,?_⟩;rcases Classical.em (Cl n tb (mem x)) with c | c
   ·refine .inl fun o h B z j I U=>?_
    exact mono x t h J z (c o h B z j I (stay x t J c o B U))
   ·rcases O with O | O
    ·exact absurd O c
    ·refine .inr ?_;have:∃ o h,o < n/\h < n/\o≠h/\0 < ent tb o h/\mem x o=true/\mem x h=false:=by
      refine Classical.byContradiction fun q=>c fun o h B z j I U=>?_
      cases e:mem x h with
      | true=>rfl
      | false=>exact absurd ⟨o,h,B,z,j,I,U,e⟩ q
     obtain ⟨o,h,B,z,j,I,U,hf⟩:=this;have:=Qkz (fun h z=>mono x t h J z) z hf (Y x t o h J B z j I U)
     push_cast
     omega
 obtain ⟨J,h | h⟩:=Z n
 ·exact h
 ·intro o k B hk j I U;generalize (List.range n).foldl f G=x at *;cases e:mem x k with
  | true=>rfl
  | false=>
   have:=Qkz (m1:=mem x) (m2:=fun _=>true) (fun _ _ _=>rfl) hk e rfl;have h2:=Qtj n fun _=>true
   omega
theorem set_get {bs:List Bool} {j h:Nat}:((bs.set j true).getD h false=true) <-> (h=j/\j < bs.length)\/bs.getD h false=true:=by
 rw [List.getD,List.getElem?_set]
 by_cases e:j=h
 ·subst e
  by_cases l:j < bs.length
  ·simp [l]
  ·simp [l,List.getD]
 ·rw [bS e];constructor
  ·intro q; exact .inr q
  ·rintro (⟨q,_⟩ | q)
   ·exact absurd q.symm e
   ·exact q
theorem Q68 {tb:List (List Int)} {i j h:Nat} {bs:List Bool} (q:bs.getD h false=true):(kn3 tb i bs j).getD h false=true:=by
 unfold kn3
 split
 ·exact set_get.mpr (.inr q)
 ·exact q
theorem Q69 {n:Nat} {tb:List (List Int)} {i h:Nat} {bs:List Bool} (q:bs.getD h false=true):(kn2 n tb bs i).getD h false=true:=Ys (P:=fun bs:List Bool=>bs.getD h false=true) (fun _ _ _ q=>Q68 q) q
theorem Qcc {n:Nat} {tb:List (List Int)} {t h:Nat} {bs:List Bool} (q:bs.getD h false=true):(kn1 n tb bs t).getD h false=true:=Ys (P:=fun bs:List Bool=>bs.getD h false=true) (fun _ _ _ q=>Q69 q) q
theorem Qae (n:Nat) (tb:List (List Int)):Cl n tb fun h=>(Q3f n tb).getD h false:=by
 refine Q3u n tb (fun (bs:List Bool) h=>bs.getD h false) (kn1 n tb) (fun bs=>bs.length=n) (fun x t G=>by rw [Qpu]; exact G) (fun x t h _ _ q=>Qcc q) (fun x t o h G Z B O Y J=>?_) (fun x t G c h B J=>?_) _ (by simp [Qaf])
 ·show (kn1 n tb x t).getD h false=true;refine Q2k (P:=fun bs:List Bool=>bs.length=n/\bs.getD o false=true) (Q:=fun bs:List Bool=>bs.getD h false=true) (fun bs y q=>⟨by rw [Qfb]; exact q.1,Q69 q.2⟩) (fun bs y q=>Q69 q) (x:=o) (fun bs q=>?_) (D5.mpr Z) ⟨G,J⟩;refine Q2k (P:=fun bs:List Bool=>bs.length=n/\bs.getD o false=true) (Q:=fun bs:List Bool=>bs.getD h false=true) (fun bs y q=>⟨by rw [Qfa]; exact q.1,Q68 q.2⟩) (fun bs y q=>Q68 q) (x:=h) (fun bs q=>?_) (D5.mpr B) q;unfold kn3;rw [bQ ⟨q.2,O,Y⟩];exact set_get.mpr (.inl ⟨rfl,by rw [q.1]; exact B⟩)
 ·have:∀ g,g < n->(kn1 n tb x t).getD g false=true->x.getD g false=true:=by
   refine Ys (P:=fun bs:List Bool=>∀ g,g < n->bs.getD g false=true->x.getD g false=true) (fun bs i hi z=>?_) fun g _ q=>q
   refine Ys (P:=fun bs:List Bool=>∀ g,g < n->bs.getD g false=true->x.getD g false=true) (fun bs j hj z g I q=>?_) z;unfold kn3 at q
   split at q
   ·rename_i U;rcases set_get.mp q with ⟨rfl,_⟩ | q
    ·exact c i g (D5.mp hi) I U.2.1 U.2.2 (z i (D5.mp hi) U.1)
    ·exact z g I q
   ·exact z g I q
  exact this h B J
theorem Qcb (n:Nat) (tb:List (List Int)) {h:Nat} (J:h < n):(Q3f n tb).getD h false=true <-> Rc n tb h:=by
 constructor
 ·have:∀ g,g < n->(Q3f n tb).getD g false=true->Rc n tb g:=by
   refine Ys (P:=fun bs:List Bool=>∀ g,g < n->bs.getD g false=true->Rc n tb g) (fun bs t _ z=>?_) fun g B q=>?_
   ·refine Ys (P:=fun bs:List Bool=>∀ g,g < n->bs.getD g false=true->Rc n tb g) (fun bs i hi z=>?_) z;refine Ys (P:=fun bs:List Bool=>∀ g,g < n->bs.getD g false=true->Rc n tb g) (fun bs j Y z g B q=>?_) z;unfold kn3 at q
    split at q
    ·rename_i I;rcases set_get.mp q with ⟨rfl,_⟩ | q
     ·exact .lent (z i (D5.mp hi) I.1) B I.2.2
     ·exact z g B q
    ·exact z g B q
   ·unfold Qaf at q;rw [List.getD,E3,F8 B] at q;exact .made B (by simpa using q)
  exact this h J
 ·intro r
  induction r with
  | made hl U=>
   refine Ys (P:=fun bs:List Bool=>bs.getD _ false=true) (fun bs t _ q=>Qcc q) ?_;unfold Qaf;rw [List.getD,E3,F8 hl];simpa using U
  | @lent o g r hl O G=>
   by_cases e:o=g
   ·subst e; exact G r.lt
   ·exact Qae n tb o g r.lt hl e O (G r.lt)
def RdOk (n:Nat) (fs:List Nat):Prop:=(∀ x∈fs,x < n)/\fs.Nodup
theorem Q39:∀ {n:Nat} {fs:List Nat},(∀ x∈fs,x < n)->fs.Nodup->fs.length<=n
 | 0,[],_,_=>O6 _
 | 0,x :: _,h,_=>absurd (h x O8) (Nat.not_lt_zero _)
 | n + 1,fs,h,d=>by
  by_cases z:n∈fs
  ·have h1:(fs.erase n).length<=n:=Q39 (fun x j=>by
    have h2:=(d.mem_erase_iff).mp j;have:=h x h2.2;omega) (d.erase n)
   rw [List.length_erase_of_mem z] at h1;omega
  ·have:=Q39 (n:=n) (fs:=fs) (fun x j=>by
    have:=h x j;have:x≠n:=fun e=>z (e ▸ j)
    omega) d
   omega
theorem RdOk.len {n:Nat} {fs:List Nat} (h:RdOk n fs):fs.length<=n:=Q39 h.1 h.2
def AhN (tb:List (List Int)) (fs:List Nat):Prop:=∀ k,k < fs.length->jz tb (fs.getD k 0)=true\/∃ o∈fs.take k,0 < ent tb o (fs.getD k 0)
theorem AhN.snoc {tb:List (List Int)} {fs:List Nat} {h:Nat} (a:AhN tb fs) (z:jz tb h=true\/∃ o∈fs,0 < ent tb o h):AhN tb (fs ++ [h]):=by
 intro k j;rw [D7,List.length_singleton] at j
 by_cases e:k < fs.length
 ·have:=a k e;rw [List.take_append_of_le_length (by omega)];rw [show (fs ++ [h]).getD k 0=fs.getD k 0 by rw [List.getD,List.getD,O9 e]];exact this
 ·have:k=fs.length:=by omega
  subst this;rw [show (fs ++ [h]).getD fs.length 0=h by simp [List.getD]];rw [List.take_left];exact z
def yj (fs:List Nat):List Int:=fs.map fun k:Nat=>(k:Int)
def rdS (st:Q2) (fs:List Nat):Q2:=st ++ [Cell.lst (fs.map J3)]
theorem Qiz (st:Q2) (fs:List Nat):(rdS st fs)[st.length]?=some (.lst (fs.map J3)):=by unfold rdS; simp
theorem za (fs:List Nat):(yj fs).map PV.int=fs.map J3:=by unfold yj; rw [D8]; rfl
theorem intsN_mem {fs:List Nat} {h:Nat}:(h:Int)∈yj fs <-> h∈fs:=by
 unfold yj;rw [List.mem_map];constructor
 ·rintro ⟨k,j,e⟩;have:k=h:=by omega
  rw [<- this]; exact j
 ·intro q; exact ⟨h,q,rfl⟩
def U2 (n:Nat) (fs:List Nat):List Nat:=(List.range n).filter fun h=>!decide (h∈fs)
def Us (n:Nat) (tb:List (List Int)) (fs:List Nat):List Nat:=(U2 n fs).filter fun h=>zy tb h fs
structure GdR (n:Nat) (tb:List (List Int)) (fs:List Nat):Prop where
 rd:RdOk n fs
 ah:AhN tb fs
 rc:∀ h∈fs,Rc n tb h
theorem AhN.more {tb:List (List Int)}:∀ {ds fs:List Nat},AhN tb fs->(∀ h∈ds,jz tb h=true\/∃ o∈fs,0 < ent tb o h)->AhN tb (fs ++ ds)
 | [],fs,a,_=>by rw [List.append_nil]; exact a
 | d :: ds,fs,a,h=>by
  rw [show fs ++ d :: ds=(fs ++ [d]) ++ ds by simp];refine AhN.more (a.snoc (h d O8)) fun g z=>?_
  rcases h g (O5 _ z) with q | ⟨o,j,q⟩
  ·exact .inl q
  ·exact .inr ⟨o,F6 _ j,q⟩
theorem Q4n {n:Nat} {tb:List (List Int)} {fs:List Nat} {h:Nat} (q:h∈Us n tb fs):h < n/\h∉fs/\(jz tb h=true\/∃ o∈fs,0 < ent tb o h):=by
 obtain ⟨q1,q2⟩:=G7.mp q;obtain ⟨q3,z⟩:=G7.mp q1;refine ⟨D5.mp q3,by simpa using z,?_⟩;unfold zy Qc8 at q2;rw [Bool.or_eq_true] at q2;rcases q2 with q2 | q2
 ·exact .inl q2
 ·obtain ⟨o,j,e⟩:=L5.mp q2;rw [L6] at e;exact .inr ⟨o,j,by simpa using e.2⟩
theorem GdR.step {n:Nat} {tb:List (List Int)} {fs:List Nat} (g:GdR n tb fs):GdR n tb (fs ++ Us n tb fs):=by
 refine ⟨⟨fun x j=>?_,?_⟩,g.ah.more fun h q=>(Q4n q).2.2,fun h j=>?_⟩
 ·rcases E4.mp j with j | j
  ·exact g.rd.1 x j
  ·exact (Q4n j).1
 ·refine List.nodup_append.mpr ⟨g.rd.2,(List.nodup_range.filter _).filter _,fun a G b B e=>?_⟩;subst e;exact (Q4n B).2.1 G
 ·rcases E4.mp j with j | j
  ·exact g.rc h j
  ·obtain ⟨h1,_,h2 | ⟨o,I,z⟩⟩:=Q4n j
   ·exact .made h1 h2
   ·exact .lent (g.rc o I) h1 z
theorem GdR.closed {n:Nat} {tb:List (List Int)} {fs:List Nat} (g:GdR n tb fs) (J:Us n tb fs=[]) {h:Nat} (Y:h < n):h∈fs <-> Rc n tb h:=by
 refine ⟨g.rc h,fun r=>?_⟩;have j:∀ k,k < n->k∉fs->zy tb k fs=false:=fun k O z=>by
  cases e:zy tb k fs with
  | false=>rfl
  | true=>
   have:k∈Us n tb fs:=G7.mpr ⟨G7.mpr ⟨D5.mpr O,by simp [z]⟩,e⟩;rw [J] at this;cases this
 induction r with
 | @made k hl z=>
  refine Classical.byContradiction fun q=>?_
  have:=j k hl q;unfold zy at this;rw [z] at this;cases this
 | @lent o k r hl I U=>
  refine Classical.byContradiction fun q=>?_
  have:=j k hl q;unfold zy Qc8 at this;rw [Bool.or_eq_false_iff,List.any_eq_false] at this;have G:=U r.lt;have B:o≠k:=fun e=>q (e ▸ G)
  exact this.2 o G (by simp [B,I])
theorem Qn7 {n:Nat} {tb:List (List Int)} (z:Sz n tb) (hn:n<=100) (st:Q2) (fs:List Nat) (r:RdOk n fs) (b a c:Option PV):Wy [some (Qj tb),some (.ref st.length),b,a,c] (rdS st fs)=.nx [some (Qj tb),some (.ref st.length),some (.bl (decide (0 < (Us n tb fs).length))),some (.lst ((U2 n fs).map J3)),some (.lst ((Us n tb fs).map J3))] (rdS st (fs ++ Us n tb fs)):=by
 have J:-1000000<=(n:Int)/\(n:Int)<=1000000:=by omega
 have a6:=r.len;have Y:=Qiz st fs;have a2:ListAt (rdS st fs) (.ref st.length) ((yj fs).map .int):=.inr (.inr ⟨_,rfl,by rw [za]; exact Y⟩);have G:ListAt (rdS st fs) (.ref st.length) (fs.map J3):=.inr (.inr ⟨_,rfl,Y⟩);have O:Zf (rdS st fs) [Qj tb]=.ok (.int n) (rdS st fs):=by simp [Qj,z.1]
 have a4:Jh (Qb 0) Wq Xa [] (Z4 [none,some 1] [some (Qj tb),some (.ref st.length),b,a,c]) (Zs 0 n) (rdS st fs)=.ok ((U2 n fs).map J3) (rdS st fs):=by
  rw [Zx];refine Wn _ _ _ (by simp) fun j hj=>⟨_,rfl,?_,fun ht=>?_⟩
  ·have I:=Qkd a2 (j:Int) true
   by_cases q:j∈fs
   ·have Z:(j:Int)∈yj fs:=intsN_mem.mpr q;generalize rdS st fs=S at *;simp -implicitDefEqProofs [Z4,Wq,I,q,Z]
   ·have Z:¬ (j:Int)∈yj fs:=fun z=>q (intsN_mem.mp z)
    generalize rdS st fs=S at *;simp -implicitDefEqProofs [Z4,Wq,I,q,Z]
  ·simp [Z4,Xa,J3]
 have a3:(U2 n fs).length<=n:=by
  have:=List.length_filter_le (fun h=>!decide (h∈fs)) (List.range n)
  rw [E8] at this;exact this
 have U:∀ h∈U2 n fs,h < n:=fun h hh=>D5.mp (G7.mp hh).1
 have a1:Jh (Qb 0) Uu X9 [] (Z4 [none,some 0,some 1] [some (Qj tb),some (.ref st.length),b,some (.lst ((U2 n fs).map J3)),c]) ((U2 n fs).map J3) (rdS st fs)=.ok ((Us n tb fs).map J3) (rdS st fs):=by
  unfold Us;refine Wn _ _ _ (by simp) fun j hj=>⟨_,rfl,?_,fun ht=>?_⟩
  ·have hr:=Qna z (h:=j) (U j hj) r.1 (by omega) G;generalize zy tb j fs=rb at *;generalize rdS st fs=S at *;generalize (U2 n fs).map J3=ov at *;simp -implicitDefEqProofs [Z4,Uu,J3,hr]
  ·simp [Z4,X9,J3]
 have a5:(Us n tb fs).length<=n:=F0 (List.length_filter_le _ _) a3;have B:(rdS st fs).set st.length (.lst (fs.map J3 ++ (Us n tb fs).map J3))=rdS st (fs ++ Us n tb fs):=by
  unfold rdS;rw [F3];simp
 have l1:((U2 n fs).map J3).length<=1000000:=by rw [O0]; omega
 have l2:(fs.map J3).length + ((Us n tb fs).map J3).length<=1000000:=by rw [O0,O0]; omega
 have l3:((Us n tb fs).map J3).length=(Us n tb fs).length:=O0 _;generalize rdS st (fs ++ Us n tb fs)=S2 at *;generalize rdS st fs=S at *;generalize (U2 n fs).map J3=ov at *;generalize (Us n tb fs).length=fl at *;generalize (Us n tb fs).map J3=fv at *;generalize fs.map J3=xv at *;rw [l3] at l2;simp -implicitDefEqProofs [Wy,O,J,Jr,a4,l1,a1,Y,xy,chg,l2,l3,B]
theorem Qbj {n:Nat} {tb:List (List Int)} (z:Sz n tb) (U:n<=100) (st:Q2):∀ (m j:Nat) (fs:List Nat) (a c:Option PV),GdR n tb fs->n<=fs.length + m->m + 2<=j->∃ fs' I B G,GdR n tb fs'/\Us n tb fs'=[]/\qe Y1 Wy j [some (Qj tb),some (.ref st.length),some (.bl true),a,c] (rdS st fs)=.nx [some (Qj tb),some (.ref st.length),I,B,G] (rdS st fs')
 | m,0,_,_,_,_,_,h=>absurd h (by omega)
 | m,1,_,_,_,_,_,h=>absurd h (by omega)
 | m,k + 2,fs,a,c,g,hm,hf=>by
  have J:=Qn7 z U st fs g.rd (some (.bl true)) a c;have Y:∀ S,Y1 [some (Qj tb),some (.ref st.length),some (.bl true),a,c] S=.ok true S:=fun S=>by simp [Y1]
  by_cases e:Us n tb fs=[]
  ·refine ⟨fs,some (.bl false),some (.lst ((U2 n fs).map J3)),some (.lst ((Us n tb fs).map J3)),g,e,?_⟩;rw [qe,Y];simp only [Q20,if_true,J];rw [qe];have w2:∀ S,Y1 [some (Qj tb),some (.ref st.length),some (.bl (decide (0 < (Us n tb fs).length))),some (.lst ((U2 n fs).map J3)),some (.lst ((Us n tb fs).map J3))] S=.ok false S:=fun S=>by simp [Y1,e]
   rw [w2];simp [e]
  ·have hp:0 < (Us n tb fs).length:=G8.mpr e;have g':=g.step;have O:=g'.rd.len;rw [D7] at O;cases m with
   | zero=>omega
   | succ m=>
    obtain ⟨fs',I,B,G,h1,h2,Z⟩:=Qbj z U st m (k + 1) (fs ++ Us n tb fs) (some (.lst ((U2 n fs).map J3))) (some (.lst ((Us n tb fs).map J3))) g' (by rw [D7]; omega) (by omega);refine ⟨fs',I,B,G,h1,h2,?_⟩;rw [qe,Y];rw [bU hp] at J;simp only [Q20,if_true,J];exact Z
theorem Qdg {n:Nat} {tb:List (List Int)} (z:Sz n tb) (I:n<=100) (st:Q2):∃ fs,GdR n tb fs/\Us n tb fs=[]/\Wf [some (Qj tb),none,none,none,none] st=.rt (.ref st.length) (rdS st fs):=by
 obtain ⟨fs,Y,J,U,g,e,h⟩:=Qbj z I st n 100000 [] none none ⟨⟨fun x j=>(by cases j),List.nodup_nil⟩,fun k B=>absurd B (Nat.not_lt_zero _),fun x j=>(by cases j)⟩ (by simp) (by omega)
 refine ⟨fs,g,e,?_⟩;have G:st ++ [Cell.lst []]=rdS st []:=rfl;generalize rdS st fs=O at *;generalize rdS st []=S1 at *;simp -implicitDefEqProofs [Wf,Jr,G,h]
theorem Q81 {n:Nat} {tb:List (List Int)} (z:Sz n tb) (I:n<=100) (st:Q2):∃ fs,GdR n tb fs/\Us n tb fs=[]/\Ym [Qj tb] st=.ok (.lst (fs.map J3)) st:=by
 obtain ⟨fs,g,e,h⟩:=Qdg z I st;refine ⟨fs,g,e,?_⟩;have B:=Qq2 (n:=st.length) (r:=st.length) (S:=rdS st fs) (hs:=yj fs) (O6 _) (by rw [za]; exact Qiz _ _);rw [za] at B;have j:st <+: rdS st fs:=List.prefix_append _ _;generalize rdS st fs=G at *;show Qq Wf 5 [Qj tb] st=_;unfold Qq;rw [show (([Qj tb]:List PV).map some ++ List.replicate (5 - [Qj tb].length) none)=[some (Qj tb),none,none,none,none] from rfl,h];show Sm.fin st (.ref st.length) G=_;unfold Sm.fin;rw [bQ j,B];rfl
theorem Qrw {n:Nat} {tb:List (List Int)} {fs:List Nat} (g:GdR n tb fs) (G:Us n tb fs=[]):((List.range n).all fun h=>(Q3f n tb).getD h false || !U9 tb h)=(List.range n).all fun h=>decide (h∈fs) || !U9 tb h:=by
 rw [Bool.eq_iff_iff,L7,L7];have B:∀ h,h∈List.range n->(decide (h∈fs) || !U9 tb h)=((Q3f n tb).getD h false || !U9 tb h):=fun h I=>by
  have j:=D5.mp I;congr 1;rw [Bool.eq_iff_iff,decide_eq_true_iff,g.closed G j,Qcb n tb j]
 constructor <;> intro q x z
 ·rw [B x z]; exact q x z
 ·rw [<- B x z]; exact q x z
def Q1a (n:Nat) (tb:List (List Int)):Bool:=(List.range n).all fun h=>(Q3f n tb).getD h false || !U9 tb h
theorem Qjp {n:Nat} {tb:List (List Int)} {fs:List Nat} (g:GdR n tb fs) (j:Us n tb fs=[]):(U2 n fs).any (U9 tb)=!Q1a n tb:=by
 unfold Q1a;rw [Qrw g j];unfold U2;rw [List.any_filter,List.any_eq_not_all_not];congr 2;funext h;rw [Bool.not_and,Bool.not_not]
theorem Q6k {α:Type} (g:α->PV) (J:Gam->Prop) (B:α->Bool) (v:α->PV) {ga:GA} {body:MS} {w:Wt} {st:Q2} (Y:wOk w st):∀ {xs:List α},(∀ x∈xs,∀ Γ,J Γ->∃ Γ1,ga (g x) Γ=some Γ1/\(B x=true->∃ j,J j/\body Γ1 st=.nx j st)/\(B x=false->body Γ1 st=.rt (v x) st)) ->
  ∀ Γ,J Γ->(xs.all B=true->∃ I,J I/\U6 ga body w (xs.map g) Γ st=.nx I st)/\(xs.all B=false->∃ x∈xs,B x=false/\U6 ga body w (xs.map g) Γ st=.rt (v x) st)
 | [],_,Γ,U=>⟨fun _=>⟨Γ,U,by simp [U6,Y]⟩,fun h=>by simp at h⟩
 | x :: xs,h,Γ,U=>by
  obtain ⟨Γ1,h1,h2,h3⟩:=h x O8 Γ U;rw [D2,U6,bQ Y,h1];cases G:B x with
  | false=>
   refine ⟨fun z=>by simp [G] at z,fun _=>⟨x,O8,G,?_⟩⟩
   simp only [h3 G]
  | true=>
   obtain ⟨j,j2,e2⟩:=h2 G;have Z:=Q6k g J B v (ga:=ga) (body:=body) Y (xs:=xs) (fun y O=>h y (O5 _ O)) j j2
   simp only [e2,List.all_cons,G,Bool.true_and];exact ⟨Z.1,fun q=>by
    obtain ⟨y,O,p,e⟩:=Z.2 q;exact ⟨y,O5 _ O,p,e⟩⟩
theorem Qhb (r:List Int) (n:Int) (st:Q2) (hl:r.length<=lim):Q0b [Z6 r,.int n] st=.ok (.bl (decide ((r.length:Int)=n + 1) && r.all fun i=>decide (0<=i))) st:=by
 have j:Jh (Qb 0) Jv Q1n [] (Z4 [none] [some (Z6 r),some (.int n)]) (r.map .int) st=.ok (r.map fun i=>.bl (decide (0<=i))) st:=by
  refine Z3 _ _ (by simp) fun i hi=>⟨_,rfl,?_⟩
  simp [Z4,Q1n,y9]
 unfold Z6 at j ⊢
 by_cases h:(r.length:Int)=n + 1 <;> simp [Q0b,Qq,Q5z,isI,tyN,j,h,hl,Qeg]
theorem Qch {n:Nat} {tb:List (List Int)} (w:Wt' n tb) (st:Q2):j9 [Qj tb] st=.ok (.bl true) st:=by
 have h1:=w.n1;have I:=w.n8;have B:Jh (Qb 0) Jv yd [] (Z4 [none,some 0] [some (Qj tb)]) (tb.map Z6) st=.ok (tb.map fun _=>.bl true) st:=by
  refine Z3 _ _ (by simp) fun r G=>⟨_,rfl,?_⟩
  have e:=w.row r G;have e2:=Qhb r tb.length st (by rw [e,Jr]; omega);simp [Z4,yd,Qj,e2];rw [w.len,e];exact ⟨by omega,w.nn r G⟩
 unfold Qj at B ⊢;have j:(1:Int)<=n:=by omega
 have z:(n:Int)<=8:=by omega
 have hl:n<=1000000:=by omega
 simp [j9,Qq,Q1h,isI,tyN,B,w.len,Qeg,j,z,Jr,hl]
def Kz (n:Nat) (tb:List (List Int)):Bool:=((List.range n).all fun h=>decide (0<=Qs tb h)) && Q1a n tb
theorem Q0p {n:Nat} {tb:List (List Int)} (z:Sz n tb) (hn:n<=100) (st:Q2):∃ Y:List Nat,Y.length<=n/\(Y=[] <-> Q1a n tb=true)/\Y2 [Qj tb] st=.ok (.lst (Y.map J3)) st:=by
 obtain ⟨fs,g,hc,e⟩:=Q81 z hn st;have G:-1000000<=(n:Int)/\(n:Int)<=1000000:=by omega
 have I:Zf st [Qj tb]=.ok (.int n) st:=by simp [Qj,z.1]
 have a3:ListAt st (.lst (fs.map J3)) ((yj fs).map .int):=.inl (by rw [za]);have U:Jh (Qb 0) Yy Vz [] (Z4 [none,some 1] [some (Qj tb),some (.lst (fs.map J3)),none]) (Zs 0 n) st=.ok ((U2 n fs).map J3) st:=by
  rw [Zx];refine Wn _ _ _ (by simp) fun j hj=>⟨_,rfl,?_,fun ht=>?_⟩
  ·have O:=Qkd a3 (j:Int) true
   by_cases q:j∈fs
   ·have q':(j:Int)∈yj fs:=intsN_mem.mpr q;generalize fs.map J3=fv at *;simp -implicitDefEqProofs [Z4,Yy,O,q,q']
   ·have q':¬ (j:Int)∈yj fs:=fun z=>q (intsN_mem.mp z)
    generalize fs.map J3=fv at *;simp -implicitDefEqProofs [Z4,Yy,O,q,q']
  ·simp [Z4,Vz,J3]
 have a4:(U2 n fs).length<=n:=by
  have:=List.length_filter_le (fun h=>!decide (h∈fs)) (List.range n)
  rw [E8] at this;exact this
 have a1:∀ h∈U2 n fs,h < n:=fun h hh=>D5.mp (G7.mp hh).1
 have B:=Qjp g hc;have J:Jh (Qb 0) Jv Vy [] (Z4 [none,some 0] [some (Qj tb),some (.lst (fs.map J3)),some (.lst ((U2 n fs).map J3))]) ((U2 n fs).map J3) st=.ok (((U2 n fs).map (U9 tb)).map .bl) st:=by
  rw [D8];refine Z3 _ _ (by simp) fun j hj=>⟨_,rfl,?_⟩
  have hb:=Qqe z (a1 j hj) st;show _=Res.ok (PV.bl (U9 tb j)) st;generalize U9 tb j=rb at *;simp -implicitDefEqProofs [Z4,Vy,J3,hb]
 have ha:(U2 n fs).any (U9 tb)=((U2 n fs).map (U9 tb)).any id:=(Qmg _ _).symm;have l1:((U2 n fs).map J3).length<=1000000:=by rw [O0]; omega
 have a2:fin st (.lst ((U2 n fs).map J3)) st=.ok (.lst ((U2 n fs).map J3)) st:=X6 (by simp [Jw,J3]);have Z:fin st (.lst []) st=.ok (.lst []) st:=X6 (by simp [Jw]);cases hr:Q1a n tb with
 | true=>
  refine ⟨[],by simp,by simp,?_⟩;rw [hr,ha] at B;rw [List.map_nil];generalize (U2 n fs).map (U9 tb)=bs at *;generalize (U2 n fs).map J3=ov at *;have B:bs.any id=false:=B;simp -implicitDefEqProofs [Y2,Qq,Wv,e,I,G,Jr,U,l1,J,B,Z]
 | false=>
  rw [hr] at B;refine ⟨U2 n fs,a4,⟨fun q=>?_,fun q=>by cases q⟩,?_⟩
  ·rw [q] at B; cases B
  ·rw [ha] at B;have B:((U2 n fs).map (U9 tb)).any id=true:=B;generalize (U2 n fs).map (U9 tb)=bs at *;generalize (U2 n fs).map J3=ov at *;simp -implicitDefEqProofs [Y2,Qq,Wv,e,I,G,Jr,U,l1,J,B,a2]
theorem Qhr {n:Nat} {tb:List (List Int)} (z:Sz n tb) (Z:n<=100) (st:Q2):∃ (s:Str) (v:PV),Yw [Qj tb] st=.ok (.tup [.str s,v]) st/\(s == (Str.ofString "comes"))=Kz n tb:=by
 have j:-1000000<=(n:Int)/\(n:Int)<=1000000:=by omega
 have B:∀ S,Zf S [Qj tb]=.ok (.int n) S:=fun S=>by simp [Qj,z.1]
 have L:=Q6k (fun k:Nat=>PV.int (k:Int)) (fun Γ=>∃ a,Γ=[some (Qj tb),a,none]) (fun h=>decide (0<=Qs tb h)) (fun h=>.tup [.str "short",.int h]) (ga:=Qb 1) (body:=Ud) (w:=[]) (st:=st) (by simp) (xs:=List.range n) (fun h hh Γ ⟨a,e⟩=>by
  subst e;have I:=Q32 z Z (D5.mp hh) st;refine ⟨_,rfl,fun hp=>⟨[some (Qj tb),some (.int h),none],⟨_,rfl⟩,?_⟩,fun hp=>?_⟩
  ·have U:0<=Qs tb h:=by simpa using hp
   have:¬ (Qs tb h < 0):=by omega
   generalize Qs tb h=x at *;simp -implicitDefEqProofs [Ud,I,this]
  ·have U:¬ 0<=Qs tb h:=by simpa using hp
   have:Qs tb h < 0:=by omega
   generalize Qs tb h=x at *;simp -implicitDefEqProofs [Ud,I,this,Jr])
 have L:=L [some (Qj tb),none,none] ⟨_,rfl⟩;rw [<- Zx] at L;unfold Kz;cases ha:(List.range n).all fun h=>decide (0<=Qs tb h) with
 | false=>
  obtain ⟨h,hh,hp,e⟩:=L.2 ha;refine ⟨"short",.int h,?_,by rw [Bool.false_and]; decide +kernel⟩;have J:fin st (.tup [.str "short",.int h]) st=.ok (.tup [.str "short",.int h]) st:=X6 (by simp [Jw]);simp -implicitDefEqProofs [Yw,Qq,U4,B,j,Jr,e,J]
 | true=>
  obtain ⟨a1,⟨a,rfl⟩,e⟩:=L.1 ha;obtain ⟨G,hl,O,e1⟩:=Q0p z Z st;cases I:Q1a n tb with
  | true=>
   have Y:=O.mpr I;subst Y;obtain ⟨fs,g,hc,e2⟩:=Q81 z Z st;refine ⟨"comes",.lst (fs.map J3),?_,by rw [Bool.true_and]; decide +kernel⟩;have J:fin st (.tup [.str "comes",.lst (fs.map J3)]) st=.ok (.tup [.str "comes",.lst (fs.map J3)]) st:=X6 (by simp [Jw,J3]);rw [List.map_nil] at e1;generalize fs.map J3=fv at *;simp -implicitDefEqProofs [Yw,Qq,U4,B,j,Jr,e,e1,e2,J]
  | false=>
   have Y:G≠[]:=fun q=>by rw [O.mp q] at I; cases I
   refine ⟨"rootless",.lst (G.map J3),?_,by rw [Bool.true_and]; decide +kernel⟩;have hp:0 < (G.map J3).length:=by rw [O0]; exact G8.mpr Y
   have J:fin st (.tup [.str "rootless",.lst (G.map J3)]) st=.ok (.tup [.str "rootless",.lst (G.map J3)]) st:=X6 (by simp [Jw,J3]);generalize G.map J3=uv at *;simp -implicitDefEqProofs [Yw,Qq,U4,B,j,Jr,e,e1,hp,J]
theorem Qam {n:Nat} {tb:List (List Int)} (w:Wt' n tb) (st:Q2):Yt [Qj tb] st=.ok (.bl (Kz n tb)) st:=by
 have z:=w.n8;obtain ⟨s,v,e,hs⟩:=Qhr w.sz (by omega) st;have j:=Qch w st;rw [<- hs];generalize Qj tb=T at *;simp -implicitDefEqProofs [Yt,Qq,X0,j,e,atI,ixN]
def Zw (pl:List Nat):PV:=.tup (pl.map J3)
structure PlOk (n:Nat) (pl:List Nat):Prop where
 ne:pl≠[]
 lt:∀ h∈pl,h < n
 inc:pl.Pairwise (· < ·)
 len:pl.length<=8
theorem Qe9 {n:Nat} {tb:List (List Int)} (J:tb.length=n) {j:List Nat} (p:PlOk n j) (st:Q2):Xf [Qj tb,Zw j] st=.ok (.bl true) st:=by
 have G:Jh (Qb 0) Jv j6 [] (Z4 [none,some 0] [some (Qj tb),some (Zw j)]) (j.map J3) st=.ok ((j.map fun _=>true).map .bl) st:=by
  rw [D8];refine Z3 _ _ (by simp) fun h B=>⟨_,rfl,?_⟩
  have:=Q2e (V:=Qj tb) (n:=n) (i:=h) (st:=st) (by simp [Qj,J]) (p.lt h B);show _=Res.ok (PV.bl true) st;simp [Z4,j6,J3,this]
 have hl:=p.len;have z:(j.map J3).length<=1000000:=by rw [O0]; omega
 have I:(j.map fun _=>true).all id=true:=by simp
 unfold Zw at *;generalize (j.map fun _=>true)=bs at *;generalize j.map J3=pv at *;simp -implicitDefEqProofs [Xf,Qq,y3,z,Jr,G,I]
theorem Qdi {n:Nat} {j:List Nat} (p:PlOk n j) (st:Q2):Zi [Zw j] st=.ok (.bl true) st:=by
 have B:cut (j.map J3) (some 1) none=(j.drop 1).map J3:=by
  rw [Q0k];have:=Q06 j 1;exact congrArg _ this
 have O:Jh (Q40 (K1 (Qb 0) (K1 (Qb 1) Q41))) Jv U7 [] (Z4 [none,none] [some (Zw j)]) ((j.zip (j.drop 1)).map fun z=>.tup [J3 z.1,J3 z.2]) st=.ok (((j.zip (j.drop 1)).map fun z=>decide (z.1 < z.2)).map .bl) st:=by
  rw [D8];refine Z3 _ _ (by simp) fun z I=>⟨_,rfl,?_⟩
  show _=Res.ok (PV.bl (decide (z.1 < z.2))) st;simp [Z4,U7,J3]
 have Z:((j.zip (j.drop 1)).map fun z=>decide (z.1 < z.2)).all id=true:=by
  rw [Qeg,L7];intro z I;obtain ⟨k,U,e⟩:=List.mem_iff_getElem.mp I;have J:=O2.mpr ⟨U,e⟩;rw [List.getElem?_zip_eq_some] at J;obtain ⟨e1,e2⟩:=J;rw [List.getElem?_drop,Nat.add_comm] at e2;obtain ⟨k1,Y⟩:=O2.mp e1;obtain ⟨k2,f2⟩:=O2.mp e2;have:=List.pairwise_iff_getElem.mp p.inc k (k + 1) k1 k2 (by omega);rw [Y,f2] at this;simp [this]
 have hl:=p.len;have G:j.length<=1000000:=by omega
 unfold Zw at *;generalize ((j.zip (j.drop 1)).map fun z=>decide (z.1 < z.2))=bs at *
 generalize j.drop 1=ds at *;simp -implicitDefEqProofs [Zi,Qq,jb,B,G,Jr,Qax,O,Z]
theorem Qa6 {n:Nat} {tb:List (List Int)} (w:Wt' n tb) (O:Kz n tb=true) {j:List Nat} (p:PlOk n j) (st:Q2):Kk [Qj tb,Zw j] st=.ok .non st:=by
 have h1:=Qam w st;rw [O] at h1;have h2:Jg [Qj tb] st=.ok .non st:=by
  generalize Qj tb=T at *;simp -implicitDefEqProofs [Jg,Qq,Yf,h1]
 have G:=Qe9 w.len p st;have U:=Qdi p st;have I:zm [Qj tb,Zw j] st=.ok (.bl true) st:=by
  have hp:0 < (j.map J3).length:=by rw [O0]; exact G8.mpr p.ne
  have z:¬ (((j.map J3).length:Int)=0):=by omega
  have B:¬ (j.map J3=[]):=fun q=>by rw [q] at hp; simp at hp
  generalize Qj tb=T at *;unfold Zw at *;generalize j.map J3=pv at *;simp -implicitDefEqProofs [zm,Qq,Q3c,isI,tyN,z,B,G,U]
 generalize Qj tb=T at *;generalize Zw j=J at *;simp -implicitDefEqProofs [Kk,Qq,xz,h2,I]
def Kn (n:Nat):List Int:=List.replicate (n + 1) 0
theorem Qmk {n:Nat} (h1:1<=n) (B:n<=8):Wt' n (List.replicate n (Kn n)):=by
 refine ⟨by simp,fun r j=>?_,fun r j x z=>?_,h1,B⟩
 ·rw [List.eq_of_mem_replicate j]; simp [Kn]
 ·rw [List.eq_of_mem_replicate j] at z;rw [List.eq_of_mem_replicate z];exact Int.le_refl _
def W0 (tb:List (List Int)) (i j:Nat) (x:Int):List (List Int):=tb.set i ((tb.getD i []).set j x)
theorem yc {n i j:Nat} {tb:List (List Int)} (z:Sz n tb) (hi:i < n) (I:j<=n) (x:Int) (a b:Nat):ent (W0 tb i j x) a b=if a=i/\b=j then x else ent tb a b:=by
 unfold ent W0;have hl:=(z.row hi).2
 by_cases G:a=i
 ·subst G;rw [show (tb.set a ((tb.getD a []).set j x)).getD a []=(tb.getD a []).set j x by rw [List.getD,F1 (by rw [z.1]; exact hi)]; rfl]
  by_cases B:b=j
  ·subst B;rw [bQ ⟨rfl,rfl⟩,List.getD,F1 (by omega)]; rfl
  ·rw [bS (fun q=>B q.2),List.getD,D9 (fun q=>B q.symm)]; rfl
 ·rw [bS (fun q=>G q.1)];rw [show (tb.set i ((tb.getD i []).set j x)).getD a []=tb.getD a [] by rw [List.getD,D9 (fun q=>G q.symm)]; rfl]
theorem qf (n i:Nat) (k:Int):Zk n (fun o=>if o=i then k else 0)=if i < n then k else 0:=by
 induction n with
 | zero=>rfl
 | succ n j=>
  rw [Z5,j]
  by_cases e:n=i
  ·subst e; simp
  ·rw [bS e]
   by_cases h:i < n
   ·rw [bQ h,bQ (by omega)]; omega
   ·rw [bS h,bS (by omega)]; omega
theorem Qey {n i j:Nat} {tb:List (List Int)} (z:Sz n tb) (hi:i < n) (x:Int):Sz n (W0 tb i j x):=by
 unfold W0;refine ⟨by rw [G9]; exact z.1,fun r B=>?_⟩;rcases List.mem_or_eq_of_mem_set B with B | rfl
 ·exact z.2 r B
 ·rw [G9]; exact (z.row hi).2
theorem qq {n i j:Nat} {tb:List (List Int)} (z:Sz n tb) (hi:i < n) (O:j<=n) (k:Int) {h:Nat} (G:h < n) :
  Qs (W0 tb i j (ent tb i j + k)) h=Qs tb h + (if h=j then k else 0) - (if h=i then k else 0) + (if h=i/\j=i then k else 0):=by
 have J:=Qey (j:=j) z hi (ent tb i j + k);have B:∀ a b,ent (W0 tb i j (ent tb i j + k)) a b=ent tb a b + if a=i/\b=j then k else 0:=fun a b=>by
  rw [yc z hi O]
  split
  ·rename_i q; rw [q.1,q.2]
  ·omega
 rw [Uh J G,Uh z G];have U:Zk n (fun o=>ent (W0 tb i j (ent tb i j + k)) o h)=Zk n (fun o=>ent tb o h) + if h=j then k else 0:=by
  rw [Za (g:=fun o=>ent tb o h + if o=i then (if h=j then k else 0) else 0) fun o _=>by
   rw [B]
   by_cases q1:o=i <;> by_cases q2:h=j <;> simp [q1,q2],js,qf,bQ hi]
 have I:Zk n (fun b=>ent (W0 tb i j (ent tb i j + k)) h b) + ent (W0 tb i j (ent tb i j + k)) h n=Zk n (fun b=>ent tb h b) + ent tb h n + if h=i then k else 0:=by
  rw [<- Z5,<- Z5,Za (g:=fun b=>ent tb h b + if b=j then (if h=i then k else 0) else 0) fun b _=>by
   rw [B]
   by_cases q1:h=i <;> by_cases q2:b=j <;> simp [q1,q2],js,qf,bQ (by omega)]
 rw [U,I,B]
 by_cases q1:h=i <;> by_cases q2:j=i <;> by_cases q3:h=j <;> simp [q1,q2,q3] <;> omega
structure Ca (n:Nat) (tb:List (List Int)):Prop where
 nn:∀ h,h < n->0<=Qs tb h
 bz:∀ h,h < n->U9 tb h=true->Rc n tb h
theorem Ca.comes {n:Nat} {tb:List (List Int)} (c:Ca n tb):Kz n tb=true:=by
 unfold Kz Q1a;rw [L6,L7,L7];refine ⟨fun h j=>by simp [c.nn h (D5.mp j)],fun h j=>?_⟩;have j:=D5.mp j;cases z:U9 tb h with
 | false=>simp
 | true=>rw [(Qcb n tb j).mpr (c.bz h j z)]; rfl
theorem Rc.mono {n:Nat} {t1 t2:List (List Int)} (h:∀ a b,a < n->b < n->ent t1 a b<=ent t2 a b) {g:Nat} (r:Rc n t1 g):Rc n t2 g:=by
 induction r with
 | @made k hl z=>
  refine .made hl ?_;unfold jz at *;have:=h k k hl hl;simp at z;simp; omega
 | @lent o k r hl B j=>
  have:=h o k r.lt hl;exact .lent j hl (by omega)
theorem j7 {n:Nat} {tb:List (List Int)} (w:Wt' n tb) {h:Nat} (B:h < n):U9 tb h=true <-> ∃ j,j<=n/\j≠h/\0 < ent tb h j:=by
 rw [<- Qqf w B];unfold Qm7;rw [L5];constructor
 ·rintro ⟨j,z,q⟩;simp at q;exact ⟨j,by have:=D5.mp z; omega,q.1,q.2⟩
 ·rintro ⟨j,z,q1,q2⟩;exact ⟨j,D5.mpr (by omega),by simp [q1,q2]⟩
theorem Ca.rc_of {n:Nat} {tb:List (List Int)} (w:Wt' n tb) (c:Ca n tb) {i:Nat} (hi:i < n) (J:1<=Qs tb i):Rc n tb i:=by
 rw [Uh w.sz hi] at J;have I:ent tb i i<=Zk n (fun j=>ent tb i j):=Q4f (fun j O=>w.ent_nn hi (E2 O)) hi
 have U:=w.ent_nn hi (O6 n);have:∃ o,o < n/\0 < ent tb o i:=by
  refine Classical.byContradiction fun q=>?_
  have:Zk n (fun o=>ent tb o i)=Zk n fun _=>0:=Za fun o B=>by
   have h1:=w.ent_nn B (E2 hi);have h2:¬ 0 < ent tb o i:=fun z=>q ⟨o,B,z⟩
   omega
  rw [Xk] at this;omega
 obtain ⟨o,B,G⟩:=this
 by_cases e:o=i
 ·subst e;exact .made hi (by unfold jz; simp [G])
 ·exact .lent (c.bz o B ((j7 w B).mpr ⟨i,E2 hi,fun z=>e z.symm,G⟩)) hi G
theorem Ca.make {n i:Nat} {tb:List (List Int)} (w:Wt' n tb) (c:Ca n tb) (hi:i < n) {k:Int} (O:0<=k) (I:Wt' n (W0 tb i i (ent tb i i + k))):Ca n (W0 tb i i (ent tb i i + k)):=by
 have B:∀ a b,ent tb a b<=ent (W0 tb i i (ent tb i i + k)) a b:=fun a b=>by
  rw [yc w.sz hi (E2 hi)]
  split
  ·rename_i q; rw [q.1,q.2]; omega
  ·omega
 refine ⟨fun h z=>?_,fun h z G=>?_⟩
 ·rw [qq w.sz hi (E2 hi) k z];have:=c.nn h z
  by_cases q:h=i <;> simp [q] at * <;> omega
 ·obtain ⟨j,J,q1,q2⟩:=(j7 I z).mp G;rw [yc w.sz hi (E2 hi)] at q2;rw [bS (fun q=>q1 (by omega))] at q2
  exact (c.bz h z ((j7 w z).mpr ⟨j,J,q1,q2⟩)).mono fun a b _ _=>B a b
theorem Ca.give {n i j:Nat} {tb:List (List Int)} (w:Wt' n tb) (c:Ca n tb) (hi:i < n) (U:j<=n) (G:j≠i) {k:Int} (hk:0<=k) (hr:k<=Qs tb i) (J:1<=Qs tb i) (Z:Wt' n (W0 tb i j (ent tb i j + k))):Ca n (W0 tb i j (ent tb i j + k)):=by
 have I:∀ a b,ent tb a b<=ent (W0 tb i j (ent tb i j + k)) a b:=fun a b=>by
  rw [yc w.sz hi U]
  split
  ·rename_i q; rw [q.1,q.2]; omega
  ·omega
 refine ⟨fun h B=>?_,fun h B Y=>?_⟩
 ·rw [qq w.sz hi U k B];have:=c.nn h B
  by_cases q:h=i
  ·subst q;rw [bS (fun z=>G z.symm),bQ rfl,bS (fun z=>G z.2)];omega
  ·by_cases q2:h=j
   ·rw [bQ q2,bS q,bS (fun z=>q z.1)]; omega
   ·rw [bS q2,bS q,bS (fun z=>q z.1)]; omega
 ·by_cases q:h=i
  ·subst q;exact (c.rc_of w hi J).mono fun a b _ _=>I a b
  ·obtain ⟨b,O,q1,q2⟩:=(j7 Z B).mp Y;rw [yc w.sz hi U,bS (fun z=>q z.1)] at q2;exact (c.bz h B ((j7 w B).mpr ⟨b,O,q1,q2⟩)).mono fun a b _ _=>I a b
theorem Ca.zero {n:Nat} (h1:1<=n) (U:n<=8) (w:Wt' n (List.replicate n (Kn n))):Ca n (List.replicate n (Kn n)):=by
 have B:∀ a b,a < n->b<=n->ent (List.replicate n (Kn n)) a b=0:=fun a b J I=>by
  unfold ent Kn;rw [show (List.replicate n (List.replicate (n + 1) (0:Int))).getD a []=List.replicate (n + 1) 0 by rw [List.getD,L4,bQ J]; rfl];rw [List.getD,L4,bQ (by omega)]; rfl
 refine ⟨fun h z=>?_,fun h z I=>?_⟩
 ·rw [Uh w.sz z,Za (g:=fun _=>0) fun o G=>B o h G (E2 z),Za (f:=fun j=>ent (List.replicate n (Kn n)) h j) (g:=fun _=>0) fun o G=>B h o z (E2 G),Xk,B h n z (O6 n),B h h z (E2 z)]
  omega
 ·obtain ⟨j,O,_,q⟩:=(j7 w z).mp I;rw [B h j z O] at q;omega
def Qda (n:Nat) (tb:List (List Int)):Int:=Zk n (fun o=>ent tb o o) - Zk n (fun o=>ent tb o n)
theorem Q59 {n:Nat} {tb:List (List Int)} (z:Sz n tb):Zk n (Qs tb)=Qda n tb:=by
 rw [Za fun h j=>Uh z j,Q1s,Q1s,js,Qg5 n n fun h o=>ent tb o h,Qda]
 omega
theorem Q84 {n:Nat} (f:Nat->Int):∀ {B:List Nat},B.Nodup->(∀ h∈B,h < n)->(B.map f).sum=Zk n fun h=>if h∈B then f h else 0
 | [],_,_=>by
  rw [Za (g:=fun _=>0) fun h _=>by simp,Xk]; rfl
 | y :: ys,hd,hl=>by
  have j:=List.nodup_cons.mp hd;have I:=Q84 f j.2 fun h G=>hl h (O5 _ G)
  rw [D2,List.sum_cons,I];have e:Zk n (fun h=>if h∈y :: ys then f h else 0)=Zk n (fun h=>(if h=y then f y else 0) + if h∈ys then f h else 0):=Za fun h _=>by
   by_cases q:h=y
   ·subst q;rw [bQ O8,bQ rfl,bS j.1]; omega
   ·rw [bS q]
    by_cases q2:h∈ys
    ·rw [bQ (O5 _ q2),bQ q2]; omega
    ·rw [bS q2,bS (fun z=>(D3.mp z).elim q q2)]; omega
  rw [e,js,qf,bQ (hl y O8)]
def Q0w (tb:List (List Int)) (pl:List Nat):Int:=(pl.map (Qs tb)).sum
theorem PlOk.nd {n:Nat} {j:List Nat} (p:PlOk n j):j.Nodup:=p.inc.imp fun h=>E5 h
theorem Qdn {n:Nat} {j:List Nat} (p:PlOk n j) (tb:List (List Int)):Q0w tb j=Zk n fun h=>if h∈j then Qs tb h else 0:=Q84 _ p.nd p.lt
theorem Qq0 (j:List Nat) (h:Nat) (b:Bool) (st:Q2):oIn b st (.int h) (Zw j)=.ok (.bl (decide (h∈j) != b)) st:=by
 have e:Zw j=.tup ((j.map fun k:Nat=>(k:Int)).map .int):=by unfold Zw; rw [D8]; rfl
 have hd:der st (.int h)=.int h:=rfl;have I:Jw dep (.int h)=true:=rfl;have g2:((j.map fun k:Nat=>(k:Int)).map PV.int).all (Jw dep)=true:=by simp [Jw,dep]
 have G:decide ((h:Int)∈j.map fun k:Nat=>(k:Int))=decide (h∈j):=by
  rw [Bool.eq_iff_iff,decide_eq_true_iff,decide_eq_true_iff,List.mem_map];constructor
  ·rintro ⟨k,z,q⟩;rw [<- show k=h by omega]; exact z
  ·exact fun q=>⟨h,q,rfl⟩
 have B:Kb st (Zw j)=some ((j.map fun k:Nat=>(k:Int)).map .int):=by rw [e]; rfl
 unfold oIn;rw [B,hd];simp only [I,g2,and_self,if_true,Qfi,G]
theorem Qgn {n:Nat} {tb:List (List Int)} (w:Wt' n tb) {j:List Nat} (p:PlOk n j) (me:ME) (Γ0:Gam) (st:Q2) (h:∀ i,i < n->me (Γ0.set 0 (some (.int i))) st=.ok (.int (Qs tb i)) st):Jh (Qb 0) Jv me [] Γ0 (j.map J3) st=.ok ((j.map (Qs tb)).map .int) st:=by
 rw [D8];exact Z3 _ _ (by simp) fun i hi=>⟨_,rfl,h i (p.lt i hi)⟩
theorem Q9k {n:Nat} {tb:List (List Int)} (w:Wt' n tb) {j:List Nat} (p:PlOk n j) (st:Q2):W5 [Qj tb,Zw j] st=.ok (.int (Q0w tb j)) st:=by
 have J:=w.n8;have G:=Qgn w p Uk (Z4 [none,some 0] [some (Qj tb),some (Zw j)]) st fun i hi=>by
  have:=Q32 w.sz (by omega) hi st;generalize Qj tb=T at *;generalize Zw j=P at *;simp -implicitDefEqProofs [Z4,Uk,this]
 have hl:=p.len;have z:(j.map J3).length<=1000000:=by rw [O0]; omega
 have B:U1 st (Zw j)=some (j.map J3,[]):=rfl;unfold Q0w;generalize j.map (Qs tb)=I at *;generalize Qj tb=T at *;generalize j.map J3=pv at *;generalize Zw j=P at *;simp -implicitDefEqProofs [W5,Qq,Xw,B,z,Jr,G]
theorem Wt'.set0 {n i j:Nat} {tb:List (List Int)} (w:Wt' n tb) (hi:i < n) {x:Int} (I:0<=x):Wt' n (tb.set i ((tb.getD i []).set j x)):=by
 have J:=(w.sz.row hi).1;have G:=E7 J;generalize tb.getD i []=r at *;refine ⟨by rw [G9]; exact w.len,fun q z=>?_,fun q z y B=>?_,w.n1,w.n8⟩
 ·rcases List.mem_or_eq_of_mem_set z with z | rfl
  ·exact w.row q z
  ·rw [G9]; exact w.row r G
 ·rcases List.mem_or_eq_of_mem_set z with z | rfl
  ·exact w.nn q z y B
  ·rcases List.mem_or_eq_of_mem_set B with B | rfl
   ·exact w.nn r G y B
   ·exact I
theorem Qet {α:Type} (xs:List α) (i:Nat) (x:α) (h:i < xs.length):xs.take i ++ [x] ++ xs.drop (i + 1)=xs.set i x:=by
 rw [List.set_eq_take_append_cons_drop,bQ h,List.append_assoc]; rfl
theorem Qgh {n i j:Nat} {tb:List (List Int)} (z:Sz n tb) (hn:n<=100) (hi:i < n) (hj:j<=n) (k:Int) (st:Q2):Q0a [Qj tb,.int i,.int j,.int k] st=.ok (Qj (W0 tb i j (ent tb i j + k))) st:=by
 have Y:=Vj z hi hj st;have B:=(z.row hi).2;have g1:Z6 ((tb.getD i []).set j (ent tb i j + k))=.tup (((tb.getD i []).take j).map .int ++ [.int (ent tb i j + k)] ++ ((tb.getD i []).drop (j + 1)).map .int):=by
  unfold Z6;rw [<- Qet _ _ _ (by omega),F3,F3]; rfl
 have g2:Qj (W0 tb i j (ent tb i j + k))=.tup ((tb.take i).map Z6 ++ [Z6 ((tb.getD i []).set j (ent tb i j + k))] ++ (tb.drop (i + 1)).map Z6):=by
  unfold Qj W0;rw [<- Qet _ _ _ (by rw [z.1]; exact hi),F3,F3]; rfl
 have J:cut ((tb.getD i []).map PV.int) none (some (j:Int))=((tb.getD i []).take j).map .int:=by rw [Q0k,Q3n]
 have I:cut ((tb.getD i []).map PV.int) (some ((j:Int) + 1)) none=((tb.getD i []).drop (j + 1)).map .int:=by rw [Q0k]; exact congrArg _ (Q06 _ (j + 1))
 have O:cut (tb.map Z6) none (some (i:Int))=(tb.take i).map Z6:=by rw [Q0k,Q3n]
 have c6:cut (tb.map Z6) (some ((i:Int) + 1)) none=(tb.drop (i + 1)).map Z6:=by rw [Q0k]; exact congrArg _ (Q06 _ (i + 1))
 have l3:(((tb.getD i []).take j).map PV.int).length=j:=by rw [O0,List.length_take,B]; omega
 have l4:(((tb.getD i []).drop (j + 1)).map PV.int).length=n - j:=by rw [O0,List.length_drop,B]; omega
 have l5:((tb.take i).map Z6).length=i:=by rw [O0,List.length_take,z.1]; omega
 have l6:((tb.drop (i + 1)).map Z6).length=n - (i + 1):=by rw [O0,List.length_drop,z.1]
 have b1:j + 1<=1000000:=by omega
 have b2:j + 1 + (n - j)<=1000000:=by omega
 have b3:i + 1<=1000000:=by omega
 have b4:i + 1 + (n - (i + 1))<=1000000:=by omega
 have G:fin st (Qj (W0 tb i j (ent tb i j + k))) st=.ok (Qj (W0 tb i j (ent tb i j + k))) st:=X6 (by simp [Jw,Qj,Z6]);obtain ⟨U,Z⟩:=Y;have q1:oSl st (Z6 (tb.getD i [])) none (some (j:Int))=.ok (.tup (((tb.getD i []).take j).map .int)) st:=by unfold Z6; rw [Q0g,J]
 have q2:oSl st (Z6 (tb.getD i [])) (some ((j:Int) + 1)) none=.ok (.tup (((tb.getD i []).drop (j + 1)).map .int)) st:=by unfold Z6; rw [Q0g,I]
 have q3:oSl st (Qj tb) none (some (i:Int))=.ok (.tup ((tb.take i).map Z6)) st:=by unfold Qj; rw [Q0g,O]
 have q4:oSl st (Qj tb) (some ((i:Int) + 1)) none=.ok (.tup ((tb.drop (i + 1)).map Z6)) st:=by unfold Qj; rw [Q0g,c6]
 rw [g2] at G ⊢;rw [g1] at G ⊢;generalize ent tb i j=x at *;generalize ((tb.getD i []).take j).map PV.int=v3 at *;generalize ((tb.getD i []).drop (j + 1)).map PV.int=v4 at *;generalize (tb.take i).map Z6=v5 at *;generalize (tb.drop (i + 1)).map Z6=v6 at *;generalize Z6 (tb.getD i [])=rv at *;generalize Qj tb=T at *;simp -implicitDefEqProofs at G;simp -implicitDefEqProofs [Q0a,Qq,Q5y,U,Z,q1,q2,q3,q4,Jr,l3,l4,l5,l6,b1,b2,b3,b4,G]
theorem Qgi {n i j:Nat} {tb:List (List Int)} (z:Sz n tb) (hi:i < n) (B:j<=n):W0 tb i j (ent tb i j + 0)=tb:=by
 refine Qmu (Qey z hi _) z fun a b _ _=>?_
 rw [yc z hi B]
 split
 ·rename_i q; rw [q.1,q.2]; omega
 ·rfl
theorem Qnk {n i j:Nat} {tb:List (List Int)} (z:Sz n tb) (hi:i < n) (x:Int) {h:Nat} (B:h≠i):(W0 tb i j x).getD h []=tb.getD h []:=by
 unfold W0;rw [List.getD,D9 (fun q=>B q.symm)]; rfl
theorem Q9q {n i j:Nat} {tb:List (List Int)} (w:Wt' n tb) (hi:i < n) {x:Int} (z:0<=x):Wt' n (W0 tb i j x):=w.set0 hi z
structure Pw (n:Nat) (tb:List (List Int)) (pl:List Nat) (m:Nat) (W:List (List Int)):Prop where
 wt:Wt' n W
 ca:Ca n W
 le:∀ a b,a < n->b<=n->ent tb a b<=ent W a b
 row:∀ h∈pl,W.getD h []=tb.getD h []
 ri:∀ h,h < n->Qs W h=if h < m/\h∉pl then 0 else Qs tb h
theorem Pw.zero {n:Nat} {tb:List (List Int)} {j:List Nat} (w:Wt' n tb) (c:Ca n tb):Pw n tb j 0 tb:=⟨w,c,fun _ _ _ _=>Int.le_refl _,fun _ _=>rfl,fun h z=>by rw [bS (fun q=>by omega)]⟩
theorem Pw.skip {n m:Nat} {tb W:List (List Int)} {j:List Nat} (p:Pw n tb j m W) (B:m∈j):Pw n tb j (m + 1) W:=⟨p.wt,p.ca,p.le,p.row,fun h G=>by
 rw [p.ri h G]
 by_cases q:h=m
 ·subst q;rw [bS (fun z=>z.2 B),bS (fun z=>z.2 B)]
 ·by_cases q2:h < m/\h∉j
  ·rw [bQ q2,bQ ⟨by omega,q2.2⟩]
  ·rw [bS q2,bS (fun z=>q2 ⟨by omega,z.2⟩)]⟩
theorem Ca.spend {n i j:Nat} {tb:List (List Int)} (w:Wt' n tb) (c:Ca n tb) (hi:i < n) (B:j<=n) (z:j≠i) {k:Int} (G:0<=k) (I:k<=Qs tb i):Ca n (W0 tb i j (ent tb i j + k)):=by
 by_cases q:k=0
 ·subst q;rw [Qgi w.sz hi B]; exact c
 ·exact c.give w hi B z G I (by omega) (Q9q w hi (by have:=w.ent_nn hi B; omega))
theorem Pw.step {n m:Nat} {tb W:List (List Int)} {G:List Nat} (w:Wt' n tb) (c:Ca n tb) (p:Pw n tb G m W) (j:m < n) (O:m∉G):Pw n tb G (m + 1) (W0 W m n (ent W m n + Qs tb m)):=by
 have J:=c.nn m j;have I:Qs W m=Qs tb m:=by rw [p.ri m j,bS (fun q=>by omega)]
 have he:=p.wt.ent_nn j (O6 n);have U:Wt' n (W0 W m n (ent W m n + Qs tb m)):=Q9q p.wt j (by omega);refine ⟨U,p.ca.spend p.wt j (O6 n) (by omega) J (by rw [I]; exact Int.le_refl _),fun a b Z Y=>?_,fun h B=>?_,fun h B=>?_⟩
 ·rw [yc p.wt.sz j (O6 n)];have:=p.le a b Z Y
  split
  ·rename_i q; rw [q.1,q.2] at this ⊢; omega
  ·exact this
 ·rw [Qnk p.wt.sz j _ (fun q=>O (q ▸ B))]; exact p.row h B
 ·rw [qq p.wt.sz j (O6 n) _ B,bS (by omega),p.ri h B,bS (show ¬ (h=m/\n=m) from fun q=>by omega)]
  by_cases q:h=m
  ·subst q;rw [bQ rfl,bS (fun z=>by omega),bQ ⟨by omega,O⟩]; omega
  ·rw [bS q]
   by_cases q2:h < m/\h∉G
   ·rw [bQ q2,bQ ⟨by omega,q2.2⟩]; omega
   ·rw [bS q2,bS (fun z=>q2 ⟨by omega,z.2⟩)]; omega
theorem Pw.stock {n:Nat} {tb W:List (List Int)} {j:List Nat} (q:PlOk n j) (p:Pw n tb j n W):Qda n W=Q0w tb j:=by
 rw [<- Q59 p.wt.sz,Qdn q];refine Za fun h B=>?_
 rw [p.ri h B]
 by_cases z:h∈j
 ·rw [bS (fun u=>u.2 z),bQ z]
 ·rw [bQ ⟨B,z⟩,bS z]
theorem Qdm {n:Nat} {tb:List (List Int)} (w:Wt' n tb) (c:Ca n tb) {j:List Nat} (p:PlOk n j) (st:Q2):∃ W,Pw n tb j n W/\Wj [Qj tb,Zw j] st=.ok (Qj W) st:=by
 have h8:=w.n8;have O:-1000000<=(n:Int)/\(n:Int)<=1000000:=by omega
 have G:Zf st [Qj tb]=.ok (.int n) st:=by simp [Qj,w.len]
 obtain ⟨a1,S1,e,U,W,rfl,rfl,B⟩:=U5 (g:=fun k:Nat=>PV.int (k:Int)) (xs:=List.range n) (ga:=Qb 3) (body:=Wz) (w:=[]) (Γ:=[some (Qj tb),some (Zw j),some (Qj tb),none]) (st:=st)
  (fun i Γ st'=>∃ U W,Γ=[some (Qj tb),some (Zw j),some (Qj W),U]/\st'=st/\Pw n tb j i W)
  (fun _ _ _ _=>by simp)
  (fun i k Γ st' J ⟨U,W,e1,e2,B⟩=>by
   subst e1; subst e2;have z:i < n:=by simpa using (O2.mp J).1
   have I:k=i:=by
    rw [F8 z] at J;exact (Option.some.inj J).symm
   subst I;have hi:=Qq0 j k true st'
   by_cases q:k∈j
   ·refine ⟨_,rfl,[some (Qj tb),some (Zw j),some (Qj W),some (.int k)],st',?_,_,_,rfl,rfl,B.skip q⟩;have hi:oIn true st' (.int k) (Zw j)=.ok (.bl false) st':=by rw [hi]; simp [q]
    generalize Qj tb=T at *;generalize Zw j=P at *;generalize Qj W=Z at *;simp -implicitDefEqProofs [Wz,hi]
   ·refine ⟨_,rfl,[some (Qj tb),some (Zw j),some (Qj (W0 W k n (ent W k n + Qs tb k))),some (.int k)],st',?_,_,_,rfl,rfl,B.step w c z q⟩;have hi:oIn true st' (.int k) (Zw j)=.ok (.bl true) st':=by rw [hi]; simp [q]
    have hr:=Q32 w.sz (by omega) z st';have Y:=Qgh B.wt.sz (by omega) z (O6 n) (Qs tb k) st';generalize Qj (W0 W k n (ent W k n + Qs tb k))=W2 at *;generalize Qj tb=T at *;generalize Zw j=P at *;generalize Qj W=Z at *;simp -implicitDefEqProofs [Wz,hi,G,hr,Y])
  ⟨_,_,rfl,rfl,Pw.zero w c⟩
 rw [<- Zx] at e;rw [E8] at B;refine ⟨W,B,?_⟩;have hf:∀ s:Q2,fin s (Qj W) s=.ok (Qj W) s:=fun s=>X6 (by simp [Jw,Qj,Z6])
 generalize Qj tb=T at *;generalize Zw j=P at *;generalize Qj W=Z at *;simp -implicitDefEqProofs [Wj,Qq,Kw,G,Jr,O,e,hf]
theorem Qsv {n:Nat} {tb:List (List Int)} (w:Wt' n tb) (c:Ca n tb) {j:List Nat} (p:PlOk n j) (k:Int) (st:Q2):(k<=Q0w tb j->Uq [Qj tb,Zw j,.int k] st=.ok (.tup [.str "may",.int (Q0w tb j)]) st)/\(¬ k<=Q0w tb j->∃ W,Pw n tb j n W/\Uq [Qj tb,Zw j,.int k] st=.ok (.tup [.str "must",Qj W]) st):=by
 have h1:=Qa6 w c.comes p st;have h2:=Q9k w p st;obtain ⟨W,I,B⟩:=Qdm w c p st;have G:fin st (.tup [.str "must",Qj W]) st=.ok (.tup [.str "must",Qj W]) st:=X6 (by simp [Jw,Qj,Z6]);have z:∀ x,fin st (.tup [.str "may",.int x]) st=.ok (.tup [.str "may",.int x]) st:=fun x=>X6 (by simp [Jw])
 generalize Qj tb=T at *;generalize Zw j=P at *;generalize Q0w tb j=s at *;refine ⟨fun q=>?_,fun q=>⟨W,I,?_⟩⟩
 ·simp -implicitDefEqProofs [Uq,Qq,Q0h,h1,h2,q,z,Jr]
 ·generalize Qj W=J at *;simp -implicitDefEqProofs [Uq,Qq,Q0h,h1,h2,q,B,G,Jr]
theorem Qfh:∀ {l:List Nat} {a n:Nat},l.Pairwise (· < ·)->(∀ x∈l,a<=x/\x < n)->l.length<=n - a
 | [],_,_,_,_=>by simp
 | y :: t,a,n,h,k=>by
  obtain ⟨h1,h2⟩:=F7.mp h;have z:=k y O8;have:=Qfh (a:=y + 1) h2 fun x j=>⟨h1 x j,(k x (O5 _ j)).2⟩
  rw [F4];omega
theorem Qpa {n:Nat} {g:List Int} (h:∀ x∈g,0<=x/\x < (n:Int)) (hi:g.Pairwise (· < ·)):∃ z:List Nat,g=z.map (fun k:Nat=>(k:Int))/\(∀ x∈z,x < n)/\z.Pairwise (· < ·)/\z.length<=n:=by
 refine ⟨g.map Int.toNat,?_,fun x j=>?_,?_,?_⟩
 ·rw [D8];refine (List.map_id g).symm.trans (List.map_congr_left fun x j=>?_);have:=h x j;show x=((x.toNat:Nat):Int);omega
 ·obtain ⟨y,B,rfl⟩:=List.mem_map.mp j;have:=h y B; omega
 ·rw [List.pairwise_map];exact hi.imp_of_mem fun {a b} ha hb hab=>by have:=h a ha; have:=h b hb; omega
 ·rw [O0];have:(g.map Int.toNat).Pairwise (· < ·):=by
   rw [List.pairwise_map];exact hi.imp_of_mem fun {a b} ha hb hab=>by have:=h a ha; have:=h b hb; omega
  have:=Qfh (a:=0) (n:=n) this fun x j=>by
   obtain ⟨y,B,rfl⟩:=List.mem_map.mp j;have:=h y B; omega
  rw [O0] at this;exact this
theorem Qnt (j:List Nat):Q7 (j.map fun k:Nat=>(k:Int))=Zw j:=by
 unfold Q7 Zw;rw [D8]; rfl
theorem Qbb {g:List Int} (h:g.Nodup):(Up g).Pairwise (· < ·):=by
 have h1:=zq g;have h2:(Up g).Nodup:=(Uf g).nodup_iff.mpr h;exact (h1.and h2).imp fun ⟨a,b⟩=>by omega
theorem Qqg {n:Nat} {g g':List Int} (h:GOk n g) (h':GOk n g') (B:g≠[]) (hd:∀ x∈g,x∉g') (n8:n<=8):∃ j,PlOk n j/\Up (g ++ g')=j.map (fun k:Nat=>(k:Int))/\∀ x:Nat,x∈j <-> (x:Int)∈g\/(x:Int)∈g':=by
 have nd:(g ++ g').Nodup:=List.nodup_append.mpr ⟨h.inc.imp fun q=>by omega,h'.inc.imp fun q=>by omega,fun a U b J e=>hd a U (e ▸ J)⟩;have G:∀ x,x∈Up (g ++ g') <-> x∈g ++ g':=fun x=>(Uf _).mem_iff
 obtain ⟨j,e,lt,inc,len⟩:=Qpa (n:=n) (g:=Up (g ++ g')) (fun x O=>by
  rcases E4.mp ((G x).mp O) with q | q
  ·exact h.rng x q
  ·exact h'.rng x q) (Qbb nd)
 refine ⟨j,⟨fun z=>?_,lt,inc,by omega⟩,e,fun x=>?_⟩
 ·subst z;have:(Up (g ++ g')).length=0:=by rw [e]; rfl
  rw [(Uf _).length_eq,D7] at this;exact B (List.length_eq_zero_iff.mp (by omega))
 ·have:=G (x:Int);rw [e,E4] at this;rw [<- this,List.mem_map];constructor
  ·intro q; exact ⟨x,q,rfl⟩
  ·rintro ⟨y,I,e2⟩;have:y=x:=by omega
   subst this; exact I
theorem Qw {a b:MS} {Γ Γ1:Gam} {S S1:Q2} {r:SR} (h1:a Γ S=.nx Γ1 S1) (h2:b Γ1 S1=r):Qh a b Γ S=r:=by rw [qw,h1]; exact h2
theorem Ze {i:Nat} {m:ME} {Γ:Gam} {S S1:Q2} {v:PV} (h:m Γ S=.ok v S1):Jm i m Γ S=.nx (Γ.set i (some v)) S1:=by rw [Qpg,h]; rfl
theorem Qu {n:Nat} {F:FN} {mr:ML} {Γ:Gam} {S S1 j:Q2} {ps:List PV} {v:PV} (h1:mr Γ S=.ok ps S1) (h2:ps.length=n) (z:F ps S1=.ok v j):Qe n F mr Γ S=.ok v j:=by rw [Q8b,h1,Zn,bQ h2,z]
theorem Qk {o:OP} {a b:ME} {Γ:Gam} {S S1 j S3:Q2} {x y v:PV} (h1:a Γ S=.ok x S1) (h2:b Γ S1=.ok y j) (z:o j x y=.ok v S3):mOp o a b Γ S=.ok v S3:=by rw [Qsw,h1,Zn,h2,Zn,z]
theorem Q5 {m:ME} {mr:ML} {Γ:Gam} {S S1 j:Q2} {p:PV} {ps:List PV} (h1:m Γ S=.ok p S1) (h2:mr Γ S1=.ok ps j):Q3 m mr Γ S=.ok (p :: ps) j:=by rw [Qk1,h1,Zn,h2,Zn]
theorem W7 {o:CF} {mr:ML} {Γ:Gam} {S S1 j:Q2} {ps:List PV} {v:PV} (h1:mr Γ S=.ok ps S1) (h2:o S1 ps=.ok v j):J1 o mr Γ S=.ok v j:=by rw [Qk2,h1,Zn,h2]
theorem jn {ga:GA} {mi:MI} {b:MS} {Γ:Gam} {S S1:Q2} {xs:List PV} {w:Wt} {r:SR} (h1:mi Γ S=.ok (xs,w) S1) (h2:U6 ga b w xs Γ S1=r):y4 ga mi b Γ S=r:=by rw [Qpn,h1]; exact h2
theorem Q0s {c:MT} {a b:MS} {Γ:Gam} {S S1:Q2} {r:SR} (h1:c Γ S=.ok true S1) (h2:a Γ S1=r):Zc c a b Γ S=r:=by rw [Qaa,h1]; exact h2
theorem Vf {c:MT} {a b:MS} {Γ:Gam} {S S1:Q2} {r:SR} (h1:c Γ S=.ok false S1) (h2:b Γ S1=r):Zc c a b Γ S=r:=by rw [Qaa,h1]; exact h2
theorem yu {m:ME} {Γ:Gam} {S S1:Q2} {p:PV} {xs:List PV} {w:Wt} (h1:m Γ S=.ok p S1) (h2:U1 S1 p=some (xs,w)) (j:xs.length<=1000000):V4 m Γ S=.ok (xs,w) S1:=by rw [Qph,h1,Zn,h2]; exact bQ j
theorem Kp {m:ML} {Γ:Gam} {S S1:Q2} {ps:List PV} (h:m Γ S=.ok ps S1):Yv m Γ S=.ok (.lst ps) S1:=by rw [Qpd,h,Zn]
theorem Wc {cap:List (Option Nat)} {ga:GA} {mi:MI} {mt:MT} {me:ME} {Γ:Gam} {S S1 j:Q2} {xs ys:List PV} {w:Wt} (h1:mi Γ S=.ok (xs,w) S1) (h2:Jh ga mt me w (Z4 cap Γ) xs S1=.ok ys j):Jk cap ga mi mt me Γ S=.ok ys j:=by rw [Qh4,h1,Zn,h2]; rfl
theorem Q93 {m:ML} {Γ:Gam} {S S1:Q2} {ps:List PV} (h:m Γ S=.ok ps S1):Q3d m Γ S=.ok (.ref S1.length) (S1 ++ [.lst ps]):=by rw [Qpf,h,Zn]
theorem Uz {t:MT} {Γ:Gam} {S S1:Q2} {b:Bool} (h:t Γ S=.ok b S1):W6 t Γ S=.ok (!b) S1:=by rw [Qic,h,Zn]
theorem J9 {m:ME} {Γ:Gam} {S S1:Q2} {b:Bool} (h:m Γ S=.ok (.bl b) S1):toB m Γ S=.ok b S1:=by rw [Qrg,h]; rfl
theorem Qtx {f:MF} {mo:ME} {mr:ML} {Γ:Gam} {S S1 j S3:Q2} {p v:PV} {xs ps:List PV} (h1:mo Γ S=.ok p S1) (h2:listOf S1 p=some xs) (z:mr Γ S1=.ok ps j) (B:f j p ps=.ok v S3):Xj (mBM f mo mr) Γ S=.nx Γ S3:=by
 rw [Q62,Qsy,h1,Zn];simp only [h2];rw [z,Zn,B,Q20]
theorem Wb {m:ME} {Γ:Gam} {S S1:Q2} {v:PV} (h:m Γ S=.ok v S1):Xj m Γ S=.nx Γ S1:=by rw [Q62,h]; rfl
theorem Qy8 {a b:MT} {Γ:Gam} {S S1:Q2} (h:a Γ S=.ok true S1):zn a b Γ S=.ok true S1:=by rw [Qep,h]; rfl
theorem Q7d {a b:MT} {Γ:Gam} {S S1:Q2} {r:Res Bool} (h:a Γ S=.ok false S1) (h2:b Γ S1=r):zn a b Γ S=r:=by rw [Qep,h]; exact h2
theorem Qdc {a b:MS} {Γ:Gam} {S S1:Q2} {v:PV} (h:a Γ S=.rt v S1):Qh a b Γ S=.rt v S1:=by rw [qw,h]
theorem Z8 {mr:ML} {Γ:Gam} {S S1:Q2} {ps:List PV} (h1:mr Γ S=.ok ps S1) (h2:ps.length<=1000000):Zt mr Γ S=.ok (.tup ps) S1:=by rw [Qpe,h1,Zn]; exact bQ h2
theorem Q8s {n:Nat} {F:FN} {mr:ML} {Γ:Gam} {S S1 j:Q2} {ps:List PV} {x:Exc} (h1:mr Γ S=.ok ps S1) (h2:ps.length=n) (z:F ps S1=.exc x j):Qe n F mr Γ S=.exc x j:=by rw [Q8b,h1,Zn,bQ h2,z]
theorem Qm4 {m:MS} {nl:Nat} {ps:List PV} {S j:Q2} {v:PV} (h:m (ps.map some ++ List.replicate (nl - ps.length) none) S=.rt v j):yn m nl ps S=.ok v j:=by unfold yn; rw [h]
theorem U8 {m:MS} {nl:Nat} {ps:List PV} {S j:Q2} {v:PV} (h:m (ps.map some ++ List.replicate (nl - ps.length) none) S=.rt v j):Qq m nl ps S=fin S v j:=by unfold Qq; rw [h]
theorem Qqk {S:Q2} {L:Nat} {xs:List PV} (h:S[L]?=some (.lst xs)) (hl:xs.length < 1000000) (y:PV):qu S (.ref L) [y]=.ok .non (S.set L (.lst (xs ++ [y]))):=by
 simp only [qu,chg,h];rw [bQ (show xs.length < lim from hl)]
theorem Q2p {a b:MT} {Γ:Gam} {S S1:Q2} {r:Res Bool} (h:a Γ S=.ok true S1) (h2:b Γ S1=r):yi a b Γ S=r:=by rw [Qb5,h]; exact h2
theorem Qd0 {a b:MT} {Γ:Gam} {S S1:Q2} (h:a Γ S=.ok false S1):yi a b Γ S=.ok false S1:=by rw [Qb5,h]; rfl
theorem zz {m:ME} {Γ:Gam} {S S1:Q2} {v:PV} (h:m Γ S=.ok v S1):Jz m Γ S=.rt v S1:=by rw [Qpi,h]; rfl
theorem Q8n (S:Q2) {a b:Int} (h:a=b):oEq S (.int a) (.int b)=.ok (.bl true) S:=by simp [h]
theorem Q6n (S:Q2) {a b:Int} (h:¬ a=b):oEq S (.int a) (.int b)=.ok (.bl false) S:=by simp [h]
theorem Qw1 (S:Q2) {a b:Int} (h:a < b):oLt S (.int a) (.int b)=.ok (.bl true) S:=by simp [h]
theorem Qr4 (S:Q2) {a b:Int} (h:¬ a < b):oLt S (.int a) (.int b)=.ok (.bl false) S:=by
 have:oLt S (.int a) (.int b)=.ok (.bl (decide (a < b))) S:=by simp
 rw [this,bT h]
theorem Qr8 (S:Q2) {a b:Int} (h:b < a):(oI fun a b=>.bl (decide (b < a))) S (.int a) (.int b)=.ok (.bl true) S:=by
 show Res.ok (PV.bl (decide (b < a))) S=_; rw [bU h]
theorem Qr9 (S:Q2) {a b:Int} (h:¬ b < a):(oI fun a b=>.bl (decide (b < a))) S (.int a) (.int b)=.ok (.bl false) S:=by
 show Res.ok (PV.bl (decide (b < a))) S=_; rw [bT h]
theorem Qyf (S:Q2) {a b:Int} (h:0 < b):Q0r S (.int a) (.int b)=.ok (.int (a % b)) S:=by
 show (if 0 < b then _ else _)=_; rw [bQ h]
theorem Q71 (S:Q2) (a b:Int):Zb S (.int a) (.int b)=.ok (.int (a + b)) S:=by simp
theorem Qrn (S:Q2) (a b:Int):(oI fun a b=>.int (a - b)) S (.int a) (.int b)=.ok (.int (a - b)) S:=rfl
theorem Q1q {mr:ML} {Γ:Gam} {S S1:Q2} {ps:List PV} (h:mr Γ S=.ok ps S1) (hl:ps.length<=1000000:=by decide):Q61 mr Γ S=.ok (.lst ps) S1:=by
 unfold Q61;rw [h,Zn];exact bQ hl
theorem Qjw (S:Q2) {a b:Nat} (h:a≠b):oNe S (.int a) (.int b)=.ok (.bl true) S:=by
 have:¬ ((a:Int)=(b:Int)):=by omega
 simp [this]
theorem Qc4 (S:Q2) (a:Int):oNe S (.int a) (.int a)=.ok (.bl false) S:=by simp
theorem jw {n:Nat} (j:n<=1000) {m:ME} {Γ:Gam} {S:Q2} (h:m Γ S=.ok (.int n) S):Z2 (Q3 m Q8) Γ S=.ok (Zs 0 n,[]) S:=by
 rw [Q60,Q5 h (show Q8 Γ S=.ok [] S from rfl),Zn];show (if -(lim:Int)<=(n:Int)/\(n:Int)<=lim then _ else _)=_;rw [bQ (by rw [Jr]; omega),Int.toNat_natCast]
theorem Qra (S:Q2) (a:Str):oEq S (.str a) (.str a)=.ok (.bl true) S:=by simp
theorem Qp9 {S:Q2} {v:PV} (g:Jw dep v=true) (hd:der S v=v):oNe S v v=.ok (.bl false) S:=by
 have hp:peq v v=true:=jx g;unfold oNe;rw [hd];simp [g,hp]
theorem Q7z {a b:MS} {Γ:Gam} {S S1:Q2} {x:Exc} (h:a Γ S=.exc x S1):Qh a b Γ S=.exc x S1:=by rw [qw,h]
theorem Q8m {m:ME} {Γ:Gam} {S S1:Q2} {x:Exc} (h:m Γ S=.exc x S1):Xj m Γ S=.exc x S1:=by rw [Q62,h]; rfl
theorem Qhj (S:Q2) (cn:Str):Qkq S ⟨cn,none⟩ S=.exc ⟨cn,none⟩ S:=by unfold Qkq; rw [bQ List.prefix_rfl]
theorem Uc {m:MS} {nl:Nat} {ps:List PV} {S:Q2} {cn:Str} (h:m (ps.map some ++ List.replicate (nl - ps.length) none) S=.exc ⟨cn,none⟩ S):Qq m nl ps S=.exc ⟨cn,none⟩ S:=by unfold Qq; rw [h]; exact Qhj S cn
theorem Q6h:∀ ns:List Int,qy (ns.map PV.int)=some ns
 | []=>rfl
 | n :: ns=>by
  have j:=Q6h ns;rw [D2];simp [qy,j]
theorem Q6v {m:MS} {nl:Nat} {ps:List PV} {S:Q2} {j:Gam} (h:m (ps.map some ++ List.replicate (nl - ps.length) none) S=.nx j S):Qq m nl ps S=.ok .non S:=by unfold Qq; rw [h]; exact Qq4 S
theorem Qkp {S:Q2} {v:PV} (h:Jw dep v=true):fin S v S=.ok v S:=by
 unfold fin;rw [bQ List.prefix_rfl,yb h (by decide)]; rfl
section
variable {n:Nat} {gs:List (List Int)} {tb:List (List Int)} {g g':List Int}
theorem Qa8 (B:BOk n gs) (w:Wt' n tb) (st:Q2):Jd [J8 n gs,Qj tb] st=.ok .non st:=by
 have h1:=Yq B st;have j:oIx st (J8 n gs) (.int 0)=.ok (.int n) st:=rfl;have hl:tb.length=n:=w.len;generalize J8 n gs=z at *;simp -implicitDefEqProofs [Jd,Qq,Zz,h1,j,Qj,hl,isI,tyN]
theorem Qe0 (w:Wt' n tb) (c:Kz n tb=true) (st:Q2):Jg [Qj tb] st=.ok .non st:=by
 have h1:=Qam w st;rw [c] at h1;generalize Qj tb=tv at *;simp -implicitDefEqProofs [Jg,Qq,Yf,h1]
theorem Q89 (B:BOk n gs) (h:GOk n g) (z:g≠[]) (h':GOk n g') (hd:∀ x∈g,x∉g') (st:Q2):Y9 [J8 n gs,Q7 g,Q7 g'] st=.ok .non st:=by
 have h1:=Yq B st;have h2:=Q2i h z st;have G:=K8 h' st;have j:oIx st (J8 n gs) (.int 0)=.ok (.int n) st:=rfl;have gl:=h.len;have J:Jh (Qb 0) Jv j4 [] [none,some (Q7 g')] (g.map .int) st=.ok ((g.map fun x=>decide (x∈g')).map .bl) st:=by
  rw [D8];refine Z3 _ _ (by simp) fun x _=>⟨_,rfl,?_⟩
  have:=Q3j x g' st false;rw [Bool.bne_false] at this;exact Qk rfl rfl this
 have Y:((g.map fun x=>decide (x∈g')).any id)=false:=by
  rw [List.any_map,List.any_eq_false];intro x U;simp [hd x U]
 have e4:Jq [J8 n gs,Q7 g] st=.ok .non st:=by
  generalize J8 n gs=I at *;generalize Q7 g=Z at *;simp -implicitDefEqProofs [Jq,Qq,Zp,h1,h2,j]
 have O:V6 [J8 n gs,Q7 g'] st=.ok .non st:=by
  generalize J8 n gs=I at *;generalize Q7 g'=Z at *;simp -implicitDefEqProofs [V6,Qq,Ki,h1,G,j]
 have eb:qc (fun ns=>.bl (ns.any id)) st [.lst ((g.map fun x=>decide (x∈g')).map .bl)]=.ok (.bl false) st:=by rw [Q08,Y]
 exact Q6v (m:=Vc) (nl:=3) (Qw (Wb (Qu (n:=2) (Q5 rfl (Q5 rfl rfl)) rfl e4)) (Qw (Wb (Qu (n:=2) (Q5 rfl (Q5 rfl rfl)) rfl O)) (Vf (J9 (W7 (Q5 (Kp (Wc (yu (p:=Q7 g) rfl rfl (by rw [O0]; omega)) J)) rfl) eb)) rfl)))
abbrev hmG (n:Nat) (gs tb:List (List Int)) (g g':List Int) (k:Int) (c5:Option PV):Gam:=[some (J8 n gs),some (Qj tb),some (Q7 g),some (Q7 g'),some (.int k),c5]
theorem Qhg (g:List Int):Jw dep (.tup [.str "blind",Q7 g])=true:=by simp [Jw,dep,Q7]
theorem Qcn (B:BOk n gs) (w:Wt' n tb) (c:Kz n tb=true) (h:GOk n g) (j:g≠[]) (h':GOk n g') (hd:∀ x∈g,x∉g') {one:List Int} (G:Ky gs g=some one) (k:Int) (st:Q2):Jn [J8 n gs,Qj tb,Q7 g,Q7 g',.int k] st=.ok (.tup [.str "blind",Q7 one]) st:=by
 have z:=Qb3 B h j st;rw [G] at z;have step:V1 (hmG n gs tb g g' k none) st=.rt (.tup [.str "blind",Q7 one]) st:=
  Qw (Wb (Qu (n:=2) (Q5 rfl (Q5 rfl rfl)) rfl (Qa8 B w st))) (Qw (Wb (Qu (n:=1) (Q5 rfl rfl) rfl (Qe0 w c st))) (Qw (Wb (Qu (n:=3) (Q5 rfl (Q5 rfl (Q5 rfl rfl))) rfl (Q89 B h j h' hd st))) (Qw (Γ1:=hmG n gs tb g g' k (some (Q7 one))) (Ze (Qu (n:=2) (Q5 rfl (Q5 rfl rfl)) rfl z)) (Qdc (Q0s (J9 (Qk rfl rfl rfl)) (zz (Z8 (Q5 rfl (Q5 rfl rfl)) (by simp))))))))
 exact (U8 step).trans (Qkp (Qhg one))
theorem Q2h (B:BOk n gs) (w:Wt' n tb) (c:Kz n tb=true) (h:GOk n g) (j:g≠[]) (h':GOk n g') (hd:∀ x∈g,x∉g') (I:Ky gs g=none) (k:Int) (st:Q2) {z:List Nat} (hp:Up (g ++ g')=z.map fun k:Nat=>(k:Int)) {v:PV} (U:Jw dep v=true) (e:Uq [Qj tb,Zw z,.int k] st=.ok v st):Jn [J8 n gs,Qj tb,Q7 g,Q7 g',.int k] st=.ok v st:=by
 have G:=Qb3 B h j st;rw [I] at G;have Y:=h.len;have Z:=h'.len;have O:Zb st (Q7 g) (Q7 g')=.ok (Q7 (g ++ g')) st:=by
  unfold Q7;rw [F3];exact bQ (show _<=lim by rw [O0,O0,Jr]; omega)
 have hi:qy ((g ++ g').map PV.int)=some (g ++ g'):=Q6h _;have es:Qat st [Q7 (g ++ g')]=.ok (.lst ((Up (g ++ g')).map .int)) st:=by
  unfold Q7;show (match qy ((g ++ g').map PV.int) with | some ns=>if ns.length < 64 then Res.ok (PV.lst ((Up ns).map PV.int)) st else .stuck | none=>.stuck)=_
  rw [hi];exact bQ (by rw [D7]; omega)
 have J:Wd st [.lst ((Up (g ++ g')).map .int)]=.ok (Zw z) st:=by
  rw [<- Qnt,<- hp];rfl
 have step:V1 (hmG n gs tb g g' k none) st=.rt v st:=
  Qw (Wb (Qu (n:=2) (Q5 rfl (Q5 rfl rfl)) rfl (Qa8 B w st))) (Qw (Wb (Qu (n:=1) (Q5 rfl rfl) rfl (Qe0 w c st))) (Qw (Wb (Qu (n:=3) (Q5 rfl (Q5 rfl (Q5 rfl rfl))) rfl (Q89 B h j h' hd st))) (Qw (Γ1:=hmG n gs tb g g' k (some .non)) (Ze (Qu (n:=2) (Q5 rfl (Q5 rfl rfl)) rfl G)) (Qw (Vf (J9 (Qk rfl rfl rfl)) rfl) (zz (Qu (n:=3) (Q5 rfl (Q5 (W7 (Q5 (W7 (Q5 (Qk rfl rfl O) rfl) es) rfl) J) (Q5 rfl rfl))) rfl e))))))
 exact (U8 step).trans (Qkp U)
end
structure TabLike (st:Q2) (V:PV) (n:Nat) (tb:List (List Int)):Prop where
 len:Zf st [V]=.ok (.int n) st
 row:∀ i,i < n->∃ R,oIx st V (.int i)=.ok R st/\∀ j,j<=n->oIx st R (.int j)=.ok (.int (ent tb i j)) st
theorem TabLike.tab {n:Nat} {tb:List (List Int)} (z:Sz n tb) (st:Q2):TabLike st (Qj tb) n tb:=
 ⟨by simp [Qj,z.1],fun i hi=>⟨_,(Vj z hi (Nat.zero_le n) st).1,fun j B=>(Vj z hi B st).2⟩⟩
theorem Qcq {α:Type} (p:α->Bool) (f:α->Int):∀ l:List α,((l.filter p).map f).sum=(l.map fun x=>if p x=true then f x else 0).sum
 | []=>rfl
 | x :: l=>by
  rw [List.filter_cons,D2,List.sum_cons,<- Qcq p f l]
  split
  ·rw [D2,List.sum_cons]
  ·omega
def Qfm (tb:List (List Int)) (n h:Nat):Int:=ent tb h h + (Zk n fun o=>if o≠h then ent tb o h else 0) - (Zk n fun o=>if o≠h then ent tb h o else 0) - ent tb h n
theorem Qfj {st:Q2} {V:PV} {n h:Nat} {tb:List (List Int)} (T:TabLike st V n tb) (hn:n<=100) (B:h < n):Jf [V,.int h] st=.ok (.int (Qfm tb n h)) st:=by
 obtain ⟨Z,h1,h2⟩:=T.row h B;have j:∀ (o:Nat) (m1 m2:ME) (Γ:Gam),m1 Γ st=.ok (.int o) st->m2 Γ st=.ok (.int h) st->toB (mOp oNe m1 m2) Γ st=.ok (decide (o≠h)) st:=fun o m1 m2 Γ a b=>by
  by_cases q:o=h
  ·subst q;rw [bT (fun z=>z rfl)]; exact J9 (Qk a b (Qc4 st _))
  ·rw [bU q]; exact J9 (Qk a b (Qjw st q))
 have O:Jh (Qb 0) yh ym [] [none,some (.int h),some V] (Zs 0 n) st=.ok (((List.range n).filter fun o=>decide (o≠h)).map fun o=>.int (ent tb o h)) st:=by
  rw [Zx];refine Wn _ _ _ (by simp) fun o G=>⟨_,rfl,j o _ _ _ rfl rfl,fun _=>?_⟩
  obtain ⟨Y,U,g2⟩:=T.row o (D5.mp G);exact Qk (Qk rfl rfl U) rfl (g2 h (E2 B))
 have J:Jh (Qb 0) yg yk [] [none,some V,some (.int h)] (Zs 0 n) st=.ok (((List.range n).filter fun o=>decide (o≠h)).map fun o=>.int (ent tb h o)) st:=by
  rw [Zx];refine Wn _ _ _ (by simp) fun o G=>⟨_,rfl,j o _ _ _ rfl rfl,fun _=>?_⟩
  exact Qk (Qk rfl rfl h1) rfl (h2 o (E2 (D5.mp G)))
 have I:∀ f:Nat->Int,W4 (fun ns=>some (.int ns.sum)) st [.lst (((List.range n).filter fun o=>decide (o≠h)).map fun o=>.int (f o))]=.ok (.int (Zk n fun o=>if o≠h then f o else 0)) st:=fun f=>by
  rw [Q3q,Qcq];show Res.ok (PV.int _) st=_;unfold Zk;congr 3;refine List.map_congr_left fun o _=>?_
  by_cases a:o=h <;> simp [a]
 have step:jk [some V,some (.int h),none,none,none] st=.rt (.int (Qfm tb n h)) st:=by
  refine Qw (Γ1:=[some V,some (.int h),some (.int n),none,none]) (Ze (W7 (Q5 rfl rfl) T.len)) ?_;refine Qw (Γ1:=[some V,some (.int h),some (.int n),some (.int (Zk n fun o=>if o≠h then ent tb o h else 0)),none]) (Ze (W7 (Q5 (Kp (Wc (jw (by omega) rfl) O)) rfl) (I fun o=>ent tb o h))) ?_;refine Qw (Γ1:=[some V,some (.int h),some (.int n),some (.int (Zk n fun o=>if o≠h then ent tb o h else 0)),some (.int (Zk n fun o=>if o≠h then ent tb h o else 0))]) (Ze (W7 (Q5 (Kp (Wc (jw (by omega) rfl) J)) rfl) (I fun o=>ent tb h o))) ?_;exact zz (Qk (Qk (Qk (Qk (Qk rfl rfl h1) rfl (h2 h (E2 B))) rfl (Q71 st _ _)) rfl (Qrn st _ _)) (Qk (Qk rfl rfl h1) rfl (h2 n (O6 n))) (Qrn st _ _))
 exact (U8 step).trans (Qq5 st _)
theorem Qfk {n h:Nat} {tb:List (List Int)} (z:Sz n tb) (B:h < n):Qfm tb n h=Qs tb h:=by
 rw [Uh z B,Q4x (fun o=>ent tb o h) B,Q4x (fun j=>ent tb h j) B];unfold Qfm;omega
theorem Q2g {n h:Nat} {tb:List (List Int)} (z:Sz n tb) (B:n<=100) (j:h < n) (st:Q2):Jf [Qj tb,.int h] st=.ok (.int (Qs tb h)) st:=by
 rw [<- Qfk z j]; exact Qfj (.tab z st) B j
theorem Qg7 {n:Nat} {tb:List (List Int)} (z:Sz n tb) (I:n<=100) {g:List Int} (G:∀ x∈g,0<=x/\x < (n:Int)) {me:ME} (j:me=Qe 2 Jf (Q3 (Q4 1) (Q3 (Q4 0) Q8))) (st:Q2):Jh (Qb 0) Jv me [] [none,some (Qj tb)] (g.map .int) st=.ok (g.map fun x=>.int (Qs tb x.toNat)) st:=by
 rw [j];refine Z3 _ _ (by simp) fun x B=>⟨_,rfl,?_⟩
 have B:=G x B;have e:=Q2g z I (h:=x.toNat) (by omega) st;rw [show ((x.toNat:Nat):Int)=x by omega] at e;exact Qu (n:=2) (Q5 rfl (Q5 rfl rfl)) rfl e
abbrev xn (c:Str):Exc:=⟨c,none⟩
section
variable {st:Q2} {b t p g k:PV} {c:Str}
theorem Qr7 (h:Jd [b,t] st=.exc (xn c) st):Jn [b,t,p,g,k] st=.exc (xn c) st:=
 Uc (m:=V1) (nl:=6) (Q7z (Q8m (Q8s (n:=2) (Q5 rfl (Q5 rfl rfl)) rfl h)))
theorem Qw8 (h1:Jd [b,t] st=.ok .non st) (h:Jg [t] st=.exc (xn c) st):Jn [b,t,p,g,k] st=.exc (xn c) st:=
 Uc (m:=V1) (nl:=6) (Qw (Wb (Qu (n:=2) (Q5 rfl (Q5 rfl rfl)) rfl h1)) (Q7z (Q8m (Q8s (n:=1) (Q5 rfl rfl) rfl h))))
theorem Qw7 (h1:Jd [b,t] st=.ok .non st) (h2:Jg [t] st=.ok .non st) (h:Y9 [b,p,g] st=.exc (xn c) st):Jn [b,t,p,g,k] st=.exc (xn c) st:=
 Uc (m:=V1) (nl:=6) (Qw (Wb (Qu (n:=2) (Q5 rfl (Q5 rfl rfl)) rfl h1)) (Qw (Wb (Qu (n:=1) (Q5 rfl rfl) rfl h2)) (Q7z (Q8m (Q8s (n:=3) (Q5 rfl (Q5 rfl (Q5 rfl rfl))) rfl h)))))
theorem Q7p (h:Jn [b,t,p,g,.int 1] st=.exc (xn "NoBook") st):Je [b,t,p,g] st=.ok (.str "book") st:=by
 unfold Je;simp only [List.getD_cons_zero,List.getD_cons_succ,h];rfl
theorem Qd1 (h:Jn [b,t,p,g,.int 1] st=.exc (xn "NoTable") st):Je [b,t,p,g] st=.ok (.str "table") st:=by
 unfold Je;simp only [List.getD_cons_zero,List.getD_cons_succ,h];rfl
theorem Qd2 (h:Jn [b,t,p,g,.int 1] st=.exc (xn "NoHouse") st):Je [b,t,p,g] st=.ok (.str "house") st:=by
 unfold Je;simp only [List.getD_cons_zero,List.getD_cons_succ,h];rfl
theorem Qg3 {v:PV} (h:Jn [b,t,p,g,.int 1] st=.ok v st):Je [b,t,p,g] st=.ok (.str "") st:=by
 unfold Je;simp only [List.getD_cons_zero,List.getD_cons_succ,h]
theorem Qyd (h:Yc [b] st=.ok (.bl false) st):Ya [b] st=.exc (xn "NoBook") st:=
 Uc (m:=ja) (nl:=1) (Q0s (Uz (J9 (Qu (n:=1) (Q5 rfl rfl) rfl h))) rfl)
theorem Qjx (h:Yc [b] st=.ok (.bl false) st):Jd [b,t] st=.exc (xn "NoBook") st:=
 Uc (m:=Zz) (nl:=2) (Q7z (Q8m (Q8s (n:=1) (Q5 rfl rfl) rfl (Qyd h))))
theorem Qvv {n:Nat} {tb:List (List Int)} (w:Wt' n tb) (c:Kz n tb=false):Jg [Qj tb] st=.exc (xn "NoTable") st:=by
 have h1:=Qam w st;rw [c] at h1;exact Uc (m:=Yf) (nl:=1) (Q0s (Uz (J9 (Qu (n:=1) (Q5 rfl rfl) rfl h1))) rfl)
theorem Q4i {n:Int} {gs:List (List Int)} (B:BOk n gs) (h:Z7 [.int n,p] st=.ok (.bl false) st):Y9 [J8 n gs,p,g] st=.exc (xn "NoHouse") st:=by
 have e:Jq [J8 n gs,p] st=.exc (xn "NoHouse") st:=
  Uc (m:=Zp) (nl:=2) (Qw (Wb (Qu (n:=1) (Q5 rfl rfl) rfl (Yq B st))) (Q0s (Uz (J9 (Qu (n:=2) (Q5 (Qk rfl rfl rfl) (Q5 rfl rfl)) rfl h))) rfl))
 exact Uc (m:=Vc) (nl:=3) (Q7z (Q8m (Q8s (n:=2) (Q5 rfl (Q5 rfl rfl)) rfl e)))
end
section
variable {st:Q2}
def rhB (n:Int) (g:List Int):Bool:=(g.all fun x=>decide ((0:Int)<=x) && decide (x<=n - 1)) && Q07 (fun a b=>decide (a < b)) g
theorem Qqv (n:Int) {g:List Int} (B:g.length<=20) (st:Q2):J0 [.int n,Q7 g] st=.ok (.bl (rhB n g)) st:=by
 have z:Jh (Qb 0) Jv Zd [] (Z4 [none,some 0] [some (.int n),some (Q7 g)]) (g.map PV.int) st=.ok ((g.map fun x=>decide ((0:Int)<=x) && decide (x<=n - 1)).map .bl) st:=by
  rw [D8];refine Z3 PV.int _ (by simp) fun x O=>⟨_,rfl,?_⟩
  have G:=Q2n x 0 (n - 1) st;exact Qu (n:=3) (Q5 rfl (Q5 rfl (Q5 (Qk rfl rfl (Qrn st _ _)) rfl))) rfl G
 have I:=Qiw PV.int (fun a b=>decide (a < b)) (fun a b st=>rfl) g (by omega) st
 have j:((g.map fun x=>decide ((0:Int)<=x) && decide (x<=n - 1))).all id=g.all fun x=>decide ((0:Int)<=x) && decide (x<=n - 1):=by rw [List.all_map]; rfl
 have hl:(g.map PV.int).length<=1000000:=by rw [O0]; omega
 unfold rhB;unfold Q7 at z ⊢;rw [<- j];generalize (g.map fun x=>decide ((0:Int)<=x) && decide (x<=n - 1))=bs at *
 generalize Q07 (fun a b=>decide (a < b)) g=U at *
 generalize g.map PV.int=Y at *;cases J:bs.all id <;> simp -implicitDefEqProofs [J0,Qq,Zq,isI,tyN,hl,Jr,z,J,I]
theorem Qt9 (n:Int) {g:List Int} (j:g.length<=20) (st:Q2):Z7 [.int n,Q7 g] st=.ok (.bl (rhB n g && decide (0 < g.length))) st:=by
 have h1:=Qqv n j st;have z:Zf st [Q7 g]=.ok (.int (g.length:Nat)) st:=by
  have:(g.map PV.int).length=g.length:=O0 _;simp [Q7]
 generalize Q7 g=G at *;cases B:rhB n g <;> rw [B] at h1 <;> simp -implicitDefEqProofs [Z7,Qq,Xx,h1,z]
theorem Qjv {n:Int} {gs:List (List Int)} (B:BOk n gs) {g:List Int} (h:GOk n g) (j:g≠[]) (st:Q2):Jq [J8 n gs,Q7 g] st=.ok .non st:=
 Q6v (m:=Zp) (nl:=2) (Qw (Wb (Qu (n:=1) (Q5 rfl rfl) rfl (Yq B st))) (Vf (Uz (J9 (Qu (n:=2) (Q5 (Qk rfl rfl rfl) (Q5 rfl rfl)) rfl (Q2i h j st)))) rfl))
theorem Qf6 {n:Int} {gs:List (List Int)} (B:BOk n gs) {g g':List Int} (h:GOk n g) (j:g≠[]) (hl:g'.length<=20) (G:rhB n g'=false) (st:Q2):Y9 [J8 n gs,Q7 g,Q7 g'] st=.exc (xn "NoHouse") st:=by
 have z:=Qqv n hl st;rw [G] at z;have e:V6 [J8 n gs,Q7 g'] st=.exc (xn "NoHouse") st:=
  Uc (m:=Ki) (nl:=2) (Qw (Wb (Qu (n:=1) (Q5 rfl rfl) rfl (Yq B st))) (Q0s (Uz (J9 (Qu (n:=2) (Q5 (Qk rfl rfl rfl) (Q5 rfl rfl)) rfl z))) rfl))
 exact Uc (m:=Vc) (nl:=3) (Qw (Wb (Qu (n:=2) (Q5 rfl (Q5 rfl rfl)) rfl (Qjv B h j st))) (Q7z (Q8m (Q8s (n:=2) (Q5 rfl (Q5 rfl rfl)) rfl e))))
theorem Qp8 {n:Int} {gs:List (List Int)} (B:BOk n gs) {g g':List Int} (h:GOk n g) (z:g≠[]) (h':GOk n g') {x:Int} (J:x∈g) (j:x∈g') (st:Q2):Y9 [J8 n gs,Q7 g,Q7 g'] st=.exc (xn "NoHouse") st:=by
 have Y:=h.len;have I:V6 [J8 n gs,Q7 g'] st=.ok .non st:=
  Q6v (m:=Ki) (nl:=2) (Qw (Wb (Qu (n:=1) (Q5 rfl rfl) rfl (Yq B st))) (Vf (Uz (J9 (Qu (n:=2) (Q5 (Qk rfl rfl rfl) (Q5 rfl rfl)) rfl (K8 h' st)))) rfl))
 have G:Jh (Qb 0) Jv j4 [] [none,some (Q7 g')] (g.map .int) st=.ok ((g.map fun x=>decide (x∈g')).map .bl) st:=by
  rw [D8];refine Z3 _ _ (by simp) fun x _=>⟨_,rfl,?_⟩
  have:=Q3j x g' st false;rw [Bool.bne_false] at this;exact Qk rfl rfl this
 have O:((g.map fun x=>decide (x∈g')).any id)=true:=by
  rw [List.any_map,L5];exact ⟨x,J,by simp [j]⟩
 have U:qc (fun ns=>.bl (ns.any id)) st [.lst ((g.map fun x=>decide (x∈g')).map .bl)]=.ok (.bl true) st:=by rw [Q08,O]
 exact Uc (m:=Vc) (nl:=3) (Qw (Wb (Qu (n:=2) (Q5 rfl (Q5 rfl rfl)) rfl (Qjv B h z st))) (Qw (Wb (Qu (n:=2) (Q5 rfl (Q5 rfl rfl)) rfl I)) (Q0s (J9 (W7 (Q5 (Kp (Wc (yu (p:=Q7 g) rfl rfl (by rw [O0]; omega)) G)) rfl) U)) rfl)))
end
def Qr2 (st:Q2) (V:PV):Prop:=Q0t st V=false/\isI "tuple" (dpv st V)=false
theorem Qgd {n:Int} {zs:List (PV × Bool)} (hl:zs.length<=1000) (st:Q2) (h:∀ z∈zs,Z9 [z.1,.int 0,.int (n - 1)] st=.ok (.bl z.2) st):((zs.map Prod.snd).all id=false->J0 [.int n,.tup (zs.map Prod.fst)] st=.ok (.bl false) st)/\((zs.map Prod.snd).all id=true->∀ w,Zi [.tup (zs.map Prod.fst)] st=.ok (.bl w) st->J0 [.int n,.tup (zs.map Prod.fst)] st=.ok (.bl w) st):=by
 have B:Jh (Qb 0) Jv Zd [] (Z4 [none,some 0] [some (.int n),some (.tup (zs.map Prod.fst))]) (zs.map Prod.fst) st=.ok ((zs.map Prod.snd).map .bl) st:=by
  rw [D8];refine Z3 _ _ (by simp) fun z G=>⟨_,rfl,?_⟩
  have:=h z G;show _=Res.ok (PV.bl z.2) st;generalize zs.map Prod.fst=I at *;simp [Z4,Zd,this]
 have j:(zs.map Prod.fst).length<=1000000:=by rw [O0]; omega
 generalize zs.map Prod.fst=I at *;generalize zs.map Prod.snd=bs at *;refine ⟨fun q=>?_,fun q w J=>?_⟩
 ·simp -implicitDefEqProofs [J0,Qq,Zq,isI,tyN,j,Jr,B,q]
 ·simp -implicitDefEqProofs [J0,Qq,Zq,isI,tyN,j,Jr,B,q,J]
theorem Qkf {n:Int} {V:PV} {st:Q2} (h:J0 [.int n,V] st=.ok (.bl false) st):Z7 [.int n,V] st=.ok (.bl false) st:=by
 simp -implicitDefEqProofs [Z7,Qq,Xx,h]
theorem Qhf {n:Int} (st:Q2):Z7 [.int n,.tup []] st=.ok (.bl false) st:=by
 have h:J0 [.int n,.tup []] st=.ok (.bl true) st:=K8 (g:=[]) ⟨fun h j=>(by cases j),List.Pairwise.nil,by simp⟩ st;simp -implicitDefEqProofs [Z7,Qq,Xx,h]
theorem Qn4 {n:Int} {zs:List (PV × Bool)} (O:zs≠[]) (hl:zs.length<=1000) (st:Q2) (h:∀ z∈zs,Z7 [.int n,z.1] st=.ok (.bl z.2) st):((zs.map Prod.snd).all id=false->Y4 [.int n,.tup (zs.map Prod.fst)] st=.ok (.bl false) st)/\((zs.map Prod.snd).all id=true->∀ w,Zi [.tup (zs.map Prod.fst)] st=.ok (.bl w) st->Y4 [.int n,.tup (zs.map Prod.fst)] st=.ok (.bl w) st):=by
 have J:Jh (Qb 0) Jv Xb [] (Z4 [none,some 0] [some (.int n),some (.tup (zs.map Prod.fst))]) (zs.map Prod.fst) st=.ok ((zs.map Prod.snd).map .bl) st:=by
  rw [D8];refine Z3 _ _ (by simp) fun z U=>⟨_,rfl,?_⟩
  have:=h z U;show _=Res.ok (PV.bl z.2) st;generalize zs.map Prod.fst=Y at *;simp [Z4,Xb,this]
 have j:(zs.map Prod.fst).length<=1000000:=by rw [O0]; omega
 have I:¬ (zs.map Prod.fst).length=0:=by rw [O0]; have:=G8.mpr O; omega
 have B:¬ (((zs.map Prod.fst).length:Int)=0):=by omega
 have G:¬ zs.map Prod.fst=[]:=fun z=>I (by rw [z]; rfl)
 generalize zs.map Prod.fst=Y at *;generalize zs.map Prod.snd=bs at *;refine ⟨fun q=>?_,fun q w Z=>?_⟩
 ·simp -implicitDefEqProofs [Y4,Qq,Xy,isI,tyN,G,I,B,j,Jr,J,q]
 ·simp -implicitDefEqProofs [Y4,Qq,Xy,isI,tyN,G,I,B,j,Jr,J,q,Z]
theorem Qin {n:Int} {st:Q2}:Y4 [.int n,.tup []] st=.ok (.bl false) st:=by
 simp -implicitDefEqProofs [Y4,Qq,Xy,isI,tyN]
theorem Qmb {V:PV} {st:Q2} (h:Qr2 st V):Yc [V] st=.ok (.bl false) st:=by
 simp -implicitDefEqProofs [Yc,Qq,z8,Yb,W1,h.1,h.2]
theorem Q8w {n:Int} (h1:1<=n) (z:n<=9) {b:PV} {st:Q2} (h:Y4 [.int n,b] st=.ok (.bl false) st):Yc [.tup [.int n,b]] st=.ok (.bl false) st:=by
 have j:=Q2n n 1 9 st;rw [show (decide ((1:Int)<=n) && decide (n<=9))=true by simp; omega] at j;simp -implicitDefEqProofs [Yc,Qq,z8,Yb,W1,isI,tyN,atI,ixN,j,h]
theorem Qqj {n:Int} {a:PV} {st:Q2} (h:Z9 [a,.int 0,.int (n - 1)] st=.ok (.bl false) st):Z7 [.int n,.tup [a]] st=.ok (.bl false) st:=
 Qkf ((Qgd (n:=n) (zs:=[(a,false)]) (by simp) st (fun z j=>by rw [F5.mp j]; exact h)).1 rfl)
section
variable {st:Q2}
theorem Qss {m n:Nat} {gs tb:List (List Int)} (B:BOk m gs) (w:Wt' n tb) (h:m≠n) (st:Q2):Jd [J8 m gs,Qj tb] st=.exc (xn "NoBook") st:=by
 have hi:Xz "tuple" (Q4 1) [some (J8 m gs),some (Qj tb)] st=.ok (.bl true) st:=by unfold Qj; simp [isI,tyN]
 have hl:Zf st [Qj tb]=.ok (.int n) st:=by simp [Qj,w.len]
 exact Uc (m:=Zz) (nl:=2) (Qw (Wb (Qu (n:=1) (Q5 rfl rfl) rfl (Yq B st))) (Q0s (Q2p (J9 hi) (J9 (Qk (Qk rfl rfl rfl) (W7 (Q5 rfl rfl) hl) (Qjw st h)))) rfl))
theorem Qjt {m:Nat} (h1:1<=m) (B:m<=9):BOk m [[0]] where
 n1:=by omega
 n9:=by omega
 ne:=by simp
 ok:=fun g z=>by
  rw [F5.mp z];exact ⟨⟨fun x j=>by rw [F5.mp j]; omega,List.pairwise_singleton _ _,by simp⟩,by simp⟩
 inc:=List.pairwise_singleton _ _
 len:=by simp
theorem Qtt {n:Nat} (h1:1<=n) (j:n<=9) (st:Q2):Yc [.tup [.int n,.tup []]] st=.ok (.bl false) st:=Q8w (n:=(n:Int)) (by omega) (by omega) Qin
theorem Qts {n:Nat} (h1:1<=n) (G:n<=9) (st:Q2):Yc [.tup [.int n,.tup [.tup [.int n]]]] st=.ok (.bl false) st:=by
 refine Q8w (n:=(n:Int)) (by omega) (by omega) ?_;have j:=Q2n (n:Int) 0 ((n:Int) - 1) st;rw [show (decide ((0:Int)<=(n:Int)) && decide ((n:Int)<=(n:Int) - 1))=false by simp; omega] at j;exact (Qn4 (n:=(n:Int)) (zs:=[(.tup [.int n],false)]) (by simp) (by simp) st (fun z B=>by rw [F5.mp B]; exact Qqj j)).1 rfl
end
theorem Qfy {j bs:List PV} (S:Q2) (h:j.length + bs.length<=1000000):Zb S (.tup j) (.tup bs)=.ok (.tup (j ++ bs)) S:=bQ h
def Xn (tb:List (List Int)) (n:Nat):List (List Int):=W0 tb 0 n (ent tb 0 n + (Qs tb 0 + 1))
theorem Qii {n:Nat} {tb:List (List Int)} (w:Wt' n tb) (c:Ca n tb):Wt' n (Xn tb n):=by
 have h1:=w.n1;have B:=c.nn 0 h1;have z:0<=ent tb 0 n:=by
  unfold ent
  by_cases a:0 < tb.length
  ·have j:tb.getD 0 []∈tb:=by rw [D6,O3 a]; exact List.getElem_mem a
   have hl:=w.row _ j;have:(tb.getD 0 []).getD n 0∈tb.getD 0 []:=by rw [D6 (l:=tb.getD 0 []),O3 (by omega)]; exact List.getElem_mem _
   exact w.nn _ j _ this
  ·have:=w.len; omega
 exact Q9q w h1 (by omega)
theorem Qij {n:Nat} {tb:List (List Int)} (w:Wt' n tb) (z:Sz n tb):Kz n (Xn tb n)=false:=by
 have h1:=w.n1;have:=qq z (i:=0) (j:=n) h1 (O6 n) (Qs tb 0 + 1) (h:=0) h1;unfold Kz;rw [Bool.and_eq_false_iff]
 left
 rw [List.all_eq_false];refine ⟨0,D5.mpr h1,?_⟩;rw [decide_eq_true_eq];show ¬ 0<=Qs (Xn tb n) 0;unfold Xn;rw [this,bS (by omega),bQ rfl,bS (by omega)];omega
section
variable {n:Nat} {gs tb:List (List Int)} {g g':List Int}
abbrev rfG (n:Nat) (gs tb:List (List Int)) (g g':List Int) (c4 c5 c6 c7 c8:Option PV):Gam:=[some (J8 n gs),some (Qj tb),some (Q7 g),some (Q7 g'),c4,c5,c6,c7,c8]
theorem Qik (w:Wt' n tb) (z:Sz n tb) (st:Q2) (G J B:Option PV):mOp Zb (Zt (Q3 (mOp Zb (mSl (mOp oIx (Q4 1) (mC (.int 0))) Ve (z9 (Q4 4))) (Zt (Q3 (mOp Zb (mOp Zb (mOp oIx (mOp oIx (Q4 1) (mC (.int 0))) (Q4 4)) (Qe 2 Jf (Q3 (Q4 1) (Q3 (mC (.int 0)) Q8)))) (mC (.int 1))) Q8))) Q8)) (mSl (Q4 1) (z9 (mC (.int 1))) Ve) (rfG n gs tb g g' (some (.int n)) none G J B) st=.ok (Qj (Xn tb n)) st:=by
 have h1:=w.n1;have h8:=w.n8;obtain ⟨j,rest,rfl⟩:∃ j rest,tb=j :: rest:=by
  cases tb with
  | nil=>have:=w.len; simp at this; omega
  | cons a b=>exact ⟨a,b,rfl⟩
 have rl:j.length=n + 1:=w.row j O8;have tl:rest.length + 1=n:=by have:=w.len; simpa using this
 have U:oIx st (Qj (j :: rest)) (.int 0)=.ok (Z6 j) st:=by
  show okO st (atI ((j :: rest).map Z6) ((0:Nat):Int))=_;rw [Sm.atI_get (show ((j :: rest).map Z6)[0]?=some (Z6 j) from rfl)];rfl
 have Z:oIx st (Z6 j) (.int n)=.ok (.int (ent (j :: rest) 0 n)) st:=by
  obtain ⟨R,a,b⟩:=(TabLike.tab z st).row 0 h1;rw [show ((0:Nat):Int)=0 from rfl] at a;rw [U] at a;cases a;exact b n (O6 n)
 have Y:=Q2g z (by omega) h1 st;have I:oSl st (Z6 j) none (some (n:Int))=.ok (.tup ((j.map .int).take n)) st:=by
  unfold Z6;rw [Q0g,Q3n]
 have O:oSl st (Qj (j :: rest)) (some 1) none=.ok (.tup (rest.map Z6)) st:=by
  unfold Qj;rw [Q0g,show (1:Int)=((1:Nat):Int) from rfl,Q06];rfl
 have es:Qj (Xn (j :: rest) n)=.tup ([.tup ((j.map .int).take n ++ [.int (ent (j :: rest) 0 n + Qs (j :: rest) 0 + 1)])] ++ rest.map Z6):=by
  unfold Xn W0 Qj;show PV.tup (((j.set n (ent (j :: rest) 0 n + (Qs (j :: rest) 0 + 1))) :: rest).map Z6)=_;rw [List.set_eq_take_append_cons_drop,bQ (by omega),List.drop_eq_nil_of_le (by omega)];rw [D2];unfold Z6;rw [F3,List.map_take,<- Int.add_assoc];rfl
 rw [es];have ml:mSl (mOp oIx (Q4 1) (mC (.int 0))) Ve (z9 (Q4 4)) (rfG n gs (j :: rest) g g' (some (.int n)) none G J B) st=.ok (.tup ((j.map .int).take n)) st:=by
  rw [Qjz,Qk (o:=oIx) (a:=Q4 1) (b:=mC (.int 0)) rfl rfl U,Zn];exact I
 have mr:mSl (Q4 1) (z9 (mC (.int 1))) Ve (rfG n gs (j :: rest) g g' (some (.int n)) none G J B) st=.ok (.tup (rest.map Z6)) st:=by
  rw [Qjz];exact O
 exact Qk (Z8 (Q5 (Qk ml (Z8 (Q5 (Qk (Qk (Qk (Qk rfl rfl U) rfl Z) (Qu (n:=2) (Q5 rfl (Q5 rfl rfl)) rfl Y) (Q71 st _ _)) rfl (Q71 st _ _)) rfl) (by simp)) (Qfy st (by rw [List.length_take,O0]; simp; omega))) rfl) (by simp)) mr (Qfy st (by rw [O0]; simp; omega))
end
section
variable {n:Nat} {gs tb:List (List Int)} {g g':List Int}
theorem Qv1 (n:Nat):rhB n [(n:Int)]=false:=by
 unfold rhB;simp;omega
theorem Qv2 (n:Nat):rhB n [-1]=false:=by
 unfold rhB;simp
theorem Qv3 (n:Nat):rhB n [0,0]=false:=by
 unfold rhB;simp [Q07]
theorem Q8a (S:Q2) (a:Str):oNe S (.str a) (.str a)=.ok (.bl false) S:=by simp
theorem Qiy (B:BOk n gs) (w:Wt' n tb) (z:Sz n tb) (c:Ca n tb) (h:GOk n g) (U:g≠[]) (h':GOk n g') (st:Q2) {v:PV} (hv:Jn [J8 n gs,Qj tb,Q7 g,Q7 g',.int 1] st=.ok v st):Y3 [J8 n gs,Qj tb,Q7 g,Q7 g'] st=.ok (.bl true) st:=by
 have h1:=w.n1;have h8:=w.n8;have sw:=Qii w c;have hm:((n % 9 + 1:Nat):Int)=(n:Int) % 9 + 1:=by omega
 obtain ⟨I,J⟩:∃ I,[PV.tup [.int ((n:Int) % 9 + 1),.tup [.tup [.int 0]]],.tup [.int n,.tup []],.tup [.int n,.tup [.tup [.int n]]],.non]=I:=⟨_,rfl⟩;have hb:∀ x∈I,∀ t:List (List Int),Wt' n t->Jd [x,Qj t] st=.exc (xn "NoBook") st:=by
  rw [<- J];intro x j t wt;simp only [D3,List.not_mem_nil,or_false] at j;rcases j with rfl | rfl | rfl | rfl
  ·have:=Qss (Qjt (m:=n % 9 + 1) (by omega) (by omega)) wt (by omega) st;unfold J8 at this;rw [hm] at this;exact this
  ·exact Qjx (Qtt h1 (by omega) st)
  ·exact Qjx (Qts h1 (by omega) st)
  ·exact Qjx (Qmb (by simp [Qr2,isI,tyN]))
 obtain ⟨O,Y⟩:∃ O,[(PV.tup [],Q7 g'),(Q7 g,Q7 g),(.tup [.int n],.tup []),(Q7 g,.tup [.int n]),(.tup [.int 0,.int 0],.tup []),(.tup [.int (-1)],.tup []),(Q7 g,.tup [.int (-1)])]=O:=⟨_,rfl⟩;have Z:∀ a:List Int,a.length<=20->rhB n a=false->Z7 [.int n,Q7 a] st=.ok (.bl false) st:=fun a hl hr=>by
  have:=Qt9 n hl st;rw [hr] at this;exact this
 have hp:∀ x∈O,Y9 [J8 n gs,x.1,x.2] st=.exc (xn "NoHouse") st:=by
  rw [<- Y];intro x j;simp only [D3,List.not_mem_nil,or_false] at j;rcases j with rfl | rfl | rfl | rfl | rfl | rfl | rfl
  ·exact Q4i B (Qhf st)
  ·obtain ⟨y,hy⟩:=List.exists_mem_of_ne_nil g U;exact Qp8 B h U h hy hy st
  ·exact Q4i B (Z [(n:Int)] (by simp) (Qv1 n))
  ·exact Qf6 B h U (g':=[(n:Int)]) (by simp) (Qv1 n) st
  ·exact Q4i B (Z [0,0] (by simp) (Qv3 n))
  ·exact Q4i B (Z [-1] (by simp) (Qv2 n))
  ·exact Qf6 B h U (g':=[-1]) (by simp) (Qv2 n) st
 have nb:=Qa8 B w st;have nc:=Qe0 w c.comes st;obtain ⟨Γ1,S1,f1,c6,rfl,rfl⟩:=U5 (g:=fun x:PV=>x) (xs:=I) (ga:=Qb 6) (body:=Vs) (w:=[]) (Γ:=rfG n gs tb g g' (some (.int n)) (some (Qj (Xn tb n))) none none none) (st:=st)
  (fun _ Γ st'=>∃ c6,Γ=rfG n gs tb g g' (some (.int n)) (some (Qj (Xn tb n))) c6 none none/\st'=st) (fun _ _ _ _=>by simp)
  (fun i x Γ st' j ⟨c6,e1,e2⟩=>by
   subst e1; subst e2;have j:=E7 j;exact ⟨_,rfl,_,_,Vf (Q7d (J9 (Qk (Qu (n:=4) (Q5 rfl (Q5 rfl (Q5 (Z8 rfl (by simp)) (Q5 rfl rfl)))) rfl (Q7p (Qr7 (hb x j _ sw)))) rfl (Q8a st' _))) (J9 (Qk (Qu (n:=4) (Q5 rfl (Q5 rfl (Q5 rfl (Q5 rfl rfl)))) rfl (Q7p (Qr7 (hb x j _ w)))) rfl (Q8a st' _)))) rfl,some x,rfl,rfl⟩)
  ⟨_,rfl,rfl⟩
 rw [List.map_id'] at f1;obtain ⟨a1,G,f2,c7,c8,rfl,rfl⟩:=U5 (g:=fun x:PV × PV=>PV.tup [x.1,x.2]) (xs:=O) (ga:=Q40 (K1 (Qb 7) (K1 (Qb 8) Q41))) (body:=Vr) (w:=[]) (Γ:=rfG n gs tb g g' (some (.int n)) (some (Qj (Xn tb n))) c6 none none) (st:=S1)
  (fun _ Γ st'=>∃ c7 c8,Γ=rfG n gs tb g g' (some (.int n)) (some (Qj (Xn tb n))) c6 c7 c8/\st'=S1) (fun _ _ _ _=>by simp)
  (fun i x Γ st' j ⟨c7,c8,e1,e2⟩=>by
   subst e1; subst e2;have j:=E7 j;exact ⟨_,rfl,_,_,Vf (J9 (Qk (Qu (n:=4) (Q5 rfl (Q5 rfl (Q5 rfl (Q5 rfl rfl)))) rfl (Qd2 (Qw7 nb nc (hp x j)))) rfl (Q8a st' _))) rfl,some x.1,some x.2,rfl,rfl⟩)
  ⟨_,_,rfl,rfl⟩
 have nx:∀ p q:PV,Je [J8 n gs,Qj (Xn tb n),p,q] G=.ok (.str "table") G:=fun p q=>Qd1 (Qw8 (Qa8 B sw G) (Qvv sw (Qij w z)))
 have hl:Zf G [Qj tb]=.ok (.int n) G:=by simp [Qj,w.len]
 rw [<- J] at f1;rw [<- Y] at f2;have step:W3 (rfG n gs tb g g' none none none none none) G=.rt (.bl true) G:=by
  refine Qw (Γ1:=rfG n gs tb g g' (some (.int n)) none none none none) (Ze (W7 (Q5 rfl rfl) hl)) ?_;refine Qw (Γ1:=rfG n gs tb g g' (some (.int n)) (some (Qj (Xn tb n))) none none none) (Ze (Qik w z G none none none)) ?_;refine Qw (jn (yu (Q1q (Q5 (Z8 (Q5 (Qk (Qk rfl rfl (Qyf G (by decide))) rfl (Q71 G _ _)) (Q5 (Z8 (Q5 (Z8 (Q5 rfl rfl) (by simp)) rfl) (by simp)) rfl)) (by simp)) (Q5 (Z8 (Q5 rfl (Q5 (Z8 rfl (by simp)) rfl)) (by simp)) (Q5 (Z8 (Q5 rfl (Q5 (Z8 (Q5 (Z8 (Q5 rfl rfl) (by simp)) rfl) (by simp)) rfl)) (by simp)) (Q5 rfl rfl)))) (by simp)) rfl (by simp)) f1) ?_;refine Qw (Vf (Q7d (J9 (Qk (Qu (n:=4) (Q5 rfl (Q5 rfl (Q5 rfl (Q5 rfl rfl)))) rfl (nx _ _)) rfl (Q8a G _))) (J9 (Qk (Qu (n:=4) (Q5 rfl (Q5 rfl (Q5 (Z8 rfl (by simp)) (Q5 rfl rfl)))) rfl (nx _ _)) rfl (Q8a G _)))) rfl) ?_;refine Qw (jn (yu (Q1q (Q5 (Z8 (Q5 (Z8 rfl (by simp)) (Q5 rfl rfl)) (by simp)) (Q5 (Z8 (Q5 rfl (Q5 rfl rfl)) (by simp)) (Q5 (Z8 (Q5 (Z8 (Q5 rfl rfl) (by simp)) (Q5 (Z8 rfl (by simp)) rfl)) (by simp)) (Q5 (Z8 (Q5 rfl (Q5 (Z8 (Q5 rfl rfl) (by simp)) rfl)) (by simp)) (Q5 (Z8 (Q5 (Z8 (Q5 rfl (Q5 rfl rfl)) (by simp)) (Q5 (Z8 rfl (by simp)) rfl)) (by simp)) (Q5 (Z8 (Q5 (Z8 (Q5 rfl rfl) (by simp)) (Q5 (Z8 rfl (by simp)) rfl)) (by simp)) (Q5 (Z8 (Q5 rfl (Q5 (Z8 (Q5 rfl rfl) (by simp)) rfl)) (by simp)) rfl))))))) (by simp)) rfl (by simp)) f2) ?_
  exact zz (Qk (Qu (n:=4) (Q5 rfl (Q5 rfl (Q5 rfl (Q5 rfl rfl)))) rfl (Qg3 hv)) rfl (Qra G _))
 exact (U8 step).trans (Yg G true)
end
section
variable {n:Nat} {tb W:List (List Int)} {both:List Int} {st:Q2}
abbrev iwG (tb W:List (List Int)) (both:List Int) (n:Nat) (c4 c5 c6:Option PV):Gam:=[some (Qj tb),some (Q7 both),some (Qj W),some (.int n),c4,c5,c6]
theorem Qff (m:ME) (Γ:Gam) (x:Int) (h:m Γ st=.ok (.int x) st):Xz "int" m Γ st=.ok (.bl true) st/\Xz "bool" m Γ st=.ok (.bl false) st:=by
 constructor <;> simp [h,isI,tyN]
theorem Qsr {r:List Int} (st:Q2):oNe st (Z6 r) (Z6 r)=.ok (.bl false) st:=Qp9 (by simp [Jw,dep,Z6]) rfl
theorem Qg2 (z:Sz n tb) (zW:Sz n W) (wl:∀ r∈W,r.length=n + 1) (n8:n<=8) (le:∀ a b,a < n->b<=n->ent tb a b<=ent W a b) {h:Nat} (G:h < n) (hs:(h:Int)∈both->W.getD h []=tb.getD h []) (c5 U:Option PV):∃ d5 I,U0 (iwG tb W both n (some (.int h)) c5 U) st=.nx (iwG tb W both n (some (.int h)) d5 I) st:=by
 have B:oIx st (Qj W) (.int h)=.ok (Z6 (W.getD h [])) st:=(Vj zW G (Nat.zero_le n) st).1;have j:oIx st (Qj tb) (.int h)=.ok (Z6 (tb.getD h [])) st:=(Vj z G (Nat.zero_le n) st).1;have hm:W.getD h []∈W:=by
  have:h < W.length:=by rw [zW.1]; exact G
  rw [D6,O3 this]; exact List.getElem_mem this
 have rl:=wl _ hm;obtain ⟨r,hr⟩:∃ r,W.getD h []=r:=⟨_,rfl⟩;rw [hr] at rl B;have hi:Xz "tuple" (Q4 5) (iwG tb W both n (some (.int h)) (some (Z6 r)) U) st=.ok (.bl true) st:=by unfold Z6; simp [isI,tyN]
 have hl:Zf st [Z6 r]=.ok (.int ((n:Int) + 1)) st:=by unfold Z6; simp [rl]
 obtain ⟨a2,O,f,I,rfl,rfl⟩:=U5 (g:=fun k:Nat=>PV.int (k:Int)) (xs:=List.range (n + 1)) (ga:=Qb 6) (body:=qa) (w:=[]) (Γ:=iwG tb W both n (some (.int h)) (some (Z6 r)) U) (st:=st)
  (fun _ Γ st'=>∃ I,Γ=iwG tb W both n (some (.int h)) (some (Z6 r)) I/\st'=st) (fun _ _ _ _=>by simp)
  (fun i x Γ st' Z ⟨I,e1,e2⟩=>by
   subst e1; subst e2;have a1:i < n + 1:=by simpa using (O2.mp Z).1
   rw [F8 a1] at Z;cases Z;have cw:oIx st' (Z6 r) (.int i)=.ok (.int (ent W h i)) st':=by rw [<- hr]; exact (Vj zW G (by omega) st').2
   have ct:oIx st' (Z6 (tb.getD h [])) (.int i)=.ok (.int (ent tb h i)) st':=(Vj z G (by omega) st').2;have J:mOp oIx (Q4 5) (Q4 6) (iwG tb W both n (some (.int h)) (some (Z6 r)) (some (.int i))) st'=.ok (.int (ent W h i)) st':=Qk rfl rfl cw;obtain ⟨i1,i2⟩:=Qff _ _ _ J;exact ⟨_,rfl,_,_,Vf (Q7d (Uz (J9 i1)) (Q7d (J9 i2) (J9 (Qk J (Qk (Qk rfl rfl j) rfl ct) (Qr4 st' (by have:=le h i G (by omega); omega)))))) rfl,some (.int i),rfl,rfl⟩)
  ⟨_,rfl,rfl⟩
 rw [<- Zx] at f;refine ⟨some (Z6 r),I,?_⟩;refine Qw (Γ1:=iwG tb W both n (some (.int h)) (some (Z6 r)) U) (Ze (Qk rfl rfl B)) ?_;refine Qw (Vf (Q7d (Uz (J9 hi)) (J9 (Qk (W7 (Q5 rfl rfl) hl) (Qk rfl rfl (Q71 O _ _)) (Qc4 O _)))) rfl) ?_;refine Qw (jn (jw (n:=n + 1) (by omega) (Qk rfl rfl (Q71 O _ _))) f) ?_;have Y:=Q3j (h:Int) both O false
 by_cases q:(h:Int)∈both
 ·rw [bU q] at Y;rw [hr] at hs;rw [<- hs q] at j;exact Vf (Q2p (J9 (Qk rfl rfl Y)) (J9 (Qk rfl (Qk rfl rfl j) (Qsr O)))) rfl
 ·rw [bT q] at Y;exact Vf (Qd0 (J9 (Qk rfl rfl Y))) rfl
theorem Qi7 (z:Sz n tb) (Y:Sz n W) (wl:∀ r∈W,r.length=n + 1) (n8:n<=8) (le:∀ a b,a < n->b<=n->ent tb a b<=ent W a b) (hs:∀ h:Nat,h < n->(h:Int)∈both->W.getD h []=tb.getD h []) (Z:V9 [Qj W] st=.ok (.bl true) st):Yu [Qj tb,Q7 both,Qj W] st=.ok (.bl true) st:=by
 have hl:Zf st [Qj tb]=.ok (.int n) st:=by simp [Qj,z.1]
 have U:Zf st [Qj W]=.ok (.int n) st:=by simp [Qj,Y.1]
 have hi:Xz "tuple" (Q4 2) (iwG tb W both n none none none) st=.ok (.bl true) st:=by unfold iwG Qj; simp [isI,tyN]
 obtain ⟨a1,I,f,J,G,B,rfl,rfl⟩:=U5 (g:=fun k:Nat=>PV.int (k:Int)) (xs:=List.range n) (ga:=Qb 4) (body:=U0) (w:=[]) (Γ:=iwG tb W both n none none none) (st:=st)
  (fun _ Γ st'=>∃ J G B,Γ=iwG tb W both n J G B/\st'=st) (fun _ _ _ _=>by simp)
  (fun i x Γ st' O ⟨J,G,B,e1,e2⟩=>by
   subst e1; subst e2;have j:i < n:=by simpa using (O2.mp O).1
   rw [F8 j] at O;cases O;obtain ⟨d5,d6,e⟩:=Qg2 (st:=st') z Y wl n8 le j (hs i j) G B;exact ⟨_,rfl,_,_,e,_,_,_,rfl,rfl⟩)
  ⟨_,_,_,rfl,rfl⟩
 rw [<- Zx] at f;have step:X2 [some (Qj tb),some (Q7 both),some (Qj W),none,none,none,none] I=.rt (.bl true) I:=by
  refine Qw (Γ1:=iwG tb W both n none none none) (Ze (W7 (Q5 rfl rfl) hl)) ?_;refine Qw (Vf (Q7d (Uz (J9 hi)) (J9 (Qk (W7 (Q5 rfl rfl) U) rfl (Qc4 I _)))) rfl) ?_;refine Qw (jn (jw (by omega) rfl) f) ?_;exact zz (Qu (n:=1) (Q5 rfl rfl) rfl Z)
 exact (U8 step).trans (Yg I true)
end
structure RowsAt (n:Nat) (S:Q2) (p q:Nat) (tb:List (List Int)):Prop where
 l:S[p]?=some (.lst ((List.range n).map fun k=>PV.ref (q + k)))
 r:∀ k,k < n->S[q + k]?=some (.lst ((tb.getD k []).map .int))
 d:p < q\/q + n<=p
theorem RowsAt.ix {n p q i:Nat} {S:Q2} {tb:List (List Int)} (R:RowsAt n S p q tb) (hi:i < n):oIx S (.ref p) (.int i)=.ok (.ref (q + i)) S:=by
 have:ListAt S (.ref p) _:=.inr (.inr ⟨_,rfl,R.l⟩);rw [this.ix,Sm.atI_get (show ((List.range n).map fun k=>PV.ref (q + k))[i]?=some (.ref (q + i)) by rw [E3,F8 hi]; rfl)]
 rfl
theorem RowsAt.cell {n p q i j:Nat} {S:Q2} {tb:List (List Int)} (R:RowsAt n S p q tb) (z:Sz n tb) (hi:i < n) (B:j<=n):oIx S (.ref (q + i)) (.int j)=.ok (.int (ent tb i j)) S:=by
 have:ListAt S (.ref (q + i)) _:=.inr (.inr ⟨_,rfl,R.r i hi⟩);rw [this.ix,ye,Sm.atI_get (z.cell hi B)]; rfl
theorem RowsAt.tl {n p q:Nat} {S:Q2} {tb:List (List Int)} (R:RowsAt n S p q tb) (z:Sz n tb):TabLike S (.ref p) n tb:=by
 refine ⟨?_,fun i hi=>⟨_,R.ix hi,fun j B=>R.cell z hi B⟩⟩
 have:ListAt S (.ref p) _:=.inr (.inr ⟨_,rfl,R.l⟩);rw [this.len];simp
theorem Qnm {n p q i j:Nat} {S:Q2} {tb:List (List Int)} (R:RowsAt n S p q tb) (w:Wt' n tb) {x:Int} (Z:0<=x) (hi:i < n) (hj:j<=n) (mo mi mj mv:ME) (Γ:Gam) (hv:mv Γ S=.ok (.int x) S) (ho:mo Γ S=.ok (.ref p) S) (B:mi Γ S=.ok (.int i) S) (O:mj Γ S=.ok (.int j) S) :
  ∃ I,RowsAt n I p q (tb.set i ((tb.getD i []).set j x))/\Wt' n (tb.set i ((tb.getD i []).set j x))/\(∀ t,(t < q\/q + n<=t)->I[t]?=S[t]?)/\X3 (mOp oIx mo mi) mj mv Γ S=.nx Γ I:=by
 have hl:=(w.sz.row hi).2;have U:=R.r i hi;have G:=(O2.mp U).1;refine ⟨S.set (q + i) (.lst (((tb.getD i []).set j x).map .int)),⟨?_,fun k Y=>?_,R.d⟩,w.set0 hi Z,fun t ht=>?_,?_⟩
 ·rw [D9 (by have:=R.d; omega)];exact R.l
 ·by_cases e:k=i
  ·subst e;have J:k < tb.length:=by rw [w.len]; exact Y
   generalize (tb.getD k []).set j x=row;rw [F1 G,List.getD,F1 J]; rfl
  ·rw [D9 (by omega),R.r k Y,List.getD,List.getD,D9 (fun z=>e z.symm)]
 ·rw [D9 (by omega)]
 ·have x1:=R.ix hi;have x2:yw S (.ref (q + i)) (.int j) (.int x)=some (S.set (q + i) (.lst (((tb.getD i []).set j x).map .int))):=by
   unfold yw;simp only [U,O0,Qpw (show j < (tb.getD i []).length by omega),Option.map_some];rw [List.map_set]
  generalize S.set (q + i) (.lst (((tb.getD i []).set j x).map .int))=S2 at *;simp -implicitDefEqProofs [hv,ho,B,x1,O,x2,-Q9c]
theorem RowsAt.mv {n p q L:Nat} {S j:Q2} {tb:List (List Int)} (R:RowsAt n S p q tb) (M:Mv L S j) (h1:L < q) (h2:L < p):RowsAt n j p q tb:=
 ⟨by rw [M.keep p (by omega)]; exact R.l,fun k z=>by rw [M.keep _ (by omega)]; exact R.r k z,R.d⟩
theorem Qrq {mo mi mv:ME} {Γ:Gam} {S0 S:Q2} {x:PV} {r:SR} (j:mv Γ S0=.ok x S) (h:X3 mo mi (mC x) Γ S=r):X3 mo mi mv Γ S0=r:=by
 rw [Qh3,j]; exact h
theorem Q97 {n i j:Nat} {tb:List (List Int)} (z:Sz n tb) (hi:i < n) (G:j<=n) (k:Int):Zk n (Qs (W0 tb i j (ent tb i j + k)))=Zk n (Qs tb) + (if j < n then k else 0) - (if j=i then 0 else k):=by
 rw [Za (g:=fun h=>(Qs tb h + (if h=j then k else 0)) - (if h=i then (if j=i then 0 else k) else 0)) fun h B=>by
  rw [qq z hi G k B]
  by_cases q1:h=i <;> by_cases q2:j=i <;> simp [q1,q2] <;> omega]
 rw [Q1s,js,qf,qf,bQ hi]
abbrev tbG (L n:Nat) (far:Nat) (p:Nat) (c4 c5 c6 c7 c8:Option PV):Gam:=[some (.ref L),some (.int n),some (.int far),some (.ref p),c4,c5,c6,c7,c8]
section
variable {ns:List Int} {S:Q2} {L n p q:Nat} {tb:List (List Int)}
theorem Qd8 {S0:Q2} (T:TapeAt S L ns) (R:RowsAt n S p q tb) (w:Wt' n tb) (U:L < q) (hp:L < p) {i j m:Nat} (hi:i < n) (G:j<=n) (m1:1<=m) (m2:m < 1000000000000000000000) {mj mm:ME} {Γ:Gam} (h0:Q4 0 Γ=fun st=>.ok (.ref L) st) (J:Q4 3 Γ=fun st=>.ok (.ref p) st) (O:Q4 5 Γ=fun st=>.ok (.int i) st) (z:mj Γ=fun st=>.ok (.int j) st) (I:mm Γ=fun st=>.ok (.int m) st) :
  ∃ (k:Int) (B:Q2),1<=k/\k<=m/\TapeAt B L ns/\RowsAt n B p q (W0 tb i j (ent tb i j + k))/\Wt' n (W0 tb i j (ent tb i j + k))/\X3 (mOp oIx (Q4 3) (Q4 5)) mj (mOp Zb (mOp Zb (mOp oIx (mOp oIx (Q4 3) (Q4 5)) mj) (mC (.int 1))) (Qe 2 Qi (Q3 (Q4 0) (Q3 mm Q8)))) Γ S=.nx Γ B:=by
 obtain ⟨d,S1,hd,T1,M1,e1⟩:=Yh T m m1 m2;have R1:=R.mv M1 U hp;have he:=w.ent_nn hi G;have Y:(mOp Zb (mOp Zb (mOp oIx (mOp oIx (Q4 3) (Q4 5)) mj) (mC (.int 1))) (Qe 2 Qi (Q3 (Q4 0) (Q3 mm Q8)))) Γ S=.ok (.int (ent tb i j + (1 + (d:Int)))) S1:=by
  rw [<- Int.add_assoc];exact Qk (Qk (Qk (Qk (congrFun J S) (congrFun O S) (R.ix hi)) (congrFun z S) (R.cell w.sz hi G)) rfl (Q71 S _ _)) (Qu (n:=2) (Q5 (congrFun h0 S) (Q5 (congrFun I S) rfl)) rfl e1) (Q71 S1 _ _)
 obtain ⟨S2,R2,Z,k2,e2⟩:=Qnm R1 w (x:=ent tb i j + (1 + (d:Int))) (by omega) hi G (Q4 3) (Q4 5) mj (mC (.int (ent tb i j + (1 + (d:Int))))) Γ rfl (congrFun J S1) (congrFun O S1) (congrFun z S1);exact ⟨1 + d,S2,by omega,by omega,T1.of (k2 L (.inl U)),R2,Z,Qrq Y e2⟩
theorem Qmt (T:TapeAt S L ns) (R:RowsAt n S p q tb) (w:Wt' n tb) (c:Ca n tb) {B:Int} (hB:Zk n (Qs tb)<=B) (a1:B<=100000000000000000000) (Y:L < q) (hp:L < p) {z:Nat} (f1:1<=z) (f2:z<=1000000000000000000) (I c5 c6 c7 O:Option PV) :
  ∃ d5 d6 d7 d8 S' U,TapeAt S' L ns/\RowsAt n S' p q U/\Wt' n U/\Ca n U/\Zk n (Qs U)<=B + 1000000000000000000/\Vm (tbG L n z p I c5 c6 c7 O) S=.nx (tbG L n z p I d5 d6 d7 d8) S':=by
 have h8:=w.n8;obtain ⟨h,S1,G,T1,M1,e1⟩:=Yh T n w.n1 (by omega);obtain ⟨y,J,hy,T2,M2,e2⟩:=Yh T1 4 (by decide) (by decide);have R2:=(R.mv M1 Y hp).mv M2 Y hp;have e3:=Qfj (R2.tl w.sz) (by omega) G;rw [Qfk w.sz G] at e3;have n0:=c.nn h G;have n1:Qs tb h<=Zk n (Qs tb):=Q4f (f:=Qs tb) (fun i hi=>c.nn i hi) G;obtain ⟨m,hm⟩:∃ m:Nat,Qs tb h=m:=⟨(Qs tb h).toNat,by omega⟩;rw [hm] at e3;have step:∀ {Z:MS} {r:SR},Z (tbG L n z p I (some (.int h)) (some (.int y)) (some (.int m)) O) J=r->(Qh (Jm 5 (Qe 2 Qi (Q3 (Q4 0) (Q3 (Q4 1) Q8)))) (Qh (Jm 6 (Qe 2 Qi (Q3 (Q4 0) (Q3 (mC (.int 4)) Q8)))) (Qh (Jm 7 (Qe 2 Jf (Q3 (Q4 3) (Q3 (Q4 5) Q8)))) Z))) (tbG L n z p I c5 c6 c7 O) S=r:=fun {Z r} hZ=>
  Qw (Γ1:=tbG L n z p I (some (.int h)) c6 c7 O) (Ze (Qu (n:=2) (Q5 rfl (Q5 rfl rfl)) rfl e1)) (Qw (Γ1:=tbG L n z p I (some (.int h)) (some (.int y)) c7 O) (Ze (Qu (n:=2) (Q5 rfl (Q5 rfl rfl)) rfl e2)) (Qw (Γ1:=tbG L n z p I (some (.int h)) (some (.int y)) (some (.int m)) O) (Ze (Qu (n:=2) (Q5 rfl (Q5 rfl rfl)) rfl e3)) hZ))
 unfold Vm
 by_cases q1:y=0\/m=0
 ·obtain ⟨k,S3,k1,k2,T3,R3,w3,e4⟩:=Qd8 (S0:=J) T2 R2 w Y hp (i:=h) (j:=h) (m:=z) G (E2 G) f1 (by omega) (mj:=Q4 5) (mm:=Q4 2) (Γ:=tbG L n z p I (some (.int h)) (some (.int y)) (some (.int m)) O) rfl rfl rfl rfl rfl;refine ⟨_,_,_,_,S3,_,T3,R3,w3,c.make w G (by omega) w3,?_,step (Q0s ?_ e4)⟩
  ·rw [Q97 w.sz G (E2 G),bQ G,bQ rfl];omega
  ·by_cases q2:y=0
   ·exact Qy8 (J9 (Qk rfl rfl (Q8n J (by omega))))
   ·exact Q7d (J9 (Qk rfl rfl (Q6n J (by omega)))) (J9 (Qk rfl rfl (Q8n J (by omega))))
 ·have t1:(zn (toB (mOp oEq (Q4 6) (mC (.int 0)))) (toB (mOp oEq (Q4 7) (mC (.int 0))))) (tbG L n z p I (some (.int h)) (some (.int y)) (some (.int m)) O) J=.ok false J:=Q7d (J9 (Qk rfl rfl (Q6n J (by omega)))) (J9 (Qk rfl rfl (Q6n J (by omega))))
  by_cases q2:y=1
  ·obtain ⟨k,S3,k1,k2,T3,R3,w3,e4⟩:=Qd8 (S0:=J) T2 R2 w Y hp (i:=h) (j:=n) (m:=m) G (O6 n) (by omega) (by omega) (mj:=Q4 1) (mm:=Q4 7) (Γ:=tbG L n z p I (some (.int h)) (some (.int y)) (some (.int m)) O) rfl rfl rfl rfl rfl;refine ⟨_,_,_,_,S3,_,T3,R3,w3,c.give w G (O6 n) (by omega) (by omega) (by omega) (by omega) w3,?_,step (Vf t1 (Q0s (J9 (Qk rfl rfl (Q8n J (by omega)))) e4))⟩;rw [Q97 w.sz G (O6 n),bS (by omega),bS (by omega)];omega
  ·obtain ⟨o,S3,ho,T3,M3,e4⟩:=Yh T2 n w.n1 (by omega);have R3:=R2.mv M3 Y hp
   by_cases q3:o=h
   ·subst q3;refine ⟨_,_,_,some (.int o),S3,tb,T3,R3,w,c,by omega,step (Vf t1 (Vf (J9 (Qk rfl rfl (Q6n J (by omega)))) (Qw (Γ1:=tbG L n z p I (some (.int o)) (some (.int y)) (some (.int m)) (some (.int o))) (Ze (Qu (n:=2) (Q5 rfl (Q5 rfl rfl)) rfl e4)) (Vf (J9 (Qk rfl rfl (Qc4 S3 _))) rfl))))⟩
   ·obtain ⟨k,S4,k1,k2,T4,R4,w4,e5⟩:=Qd8 (S0:=S3) T3 R3 w Y hp (i:=h) (j:=o) (m:=m) G (E2 ho) (by omega) (by omega) (mj:=Q4 8) (mm:=Q4 7) (Γ:=tbG L n z p I (some (.int h)) (some (.int y)) (some (.int m)) (some (.int o))) rfl rfl rfl rfl rfl;refine ⟨_,_,_,some (.int o),S4,_,T4,R4,w4,c.give w G (E2 ho) q3 (by omega) (by omega) (by omega) w4,?_,step (Vf t1 (Vf (J9 (Qk rfl rfl (Q6n J (by omega)))) (Qw (Γ1:=tbG L n z p I (some (.int h)) (some (.int y)) (some (.int m)) (some (.int o))) (Ze (Qu (n:=2) (Q5 rfl (Q5 rfl rfl)) rfl e4)) (Q0s (J9 (Qk rfl rfl (Qjw S3 q3))) e5))))⟩;rw [Q97 w.sz G (E2 ho),bQ ho,bS q3];omega
end
theorem Qmj (n:Nat) (G:n<=8) (S:Q2):Jh (Qb 0) Jv Vh [] [none,some (.int n)] (Zs 0 n) S=.ok ((List.range n).map fun k=>.ref (S.length + k)) (S ++ List.replicate n (Cell.lst ((Kn n).map .int))):=by
 rw [Zx];obtain ⟨out,st',e,rfl,rfl⟩:=Qhq (g:=fun k:Nat=>PV.int (k:Int)) (xs:=List.range n) (ga:=Qb 0) (me:=Vh) (w:=[]) (Γ0:=[none,some (.int n)]) (st:=S)
  (fun i out st'=>out=(List.range i).map (fun k=>PV.ref (S.length + k))/\st'=S ++ List.replicate i (Cell.lst ((Kn n).map .int)))
  (fun i out st' _=>by simp)
  (fun i r out st' I ⟨e1,e2⟩=>by
   subst e1; subst e2;have j:(S ++ List.replicate i (Cell.lst ((Kn n).map .int))).length=S.length + i:=by simp
   refine ⟨_,rfl,.ref (S.length + i),S ++ List.replicate (i + 1) (Cell.lst ((Kn n).map .int)),?_,?_,rfl⟩
   ·rw [List.replicate_succ',<- List.append_assoc,<- j];generalize S ++ List.replicate i (Cell.lst ((Kn n).map .int))=T;have z:(Kn n).map PV.int=(List.range (n + 1)).map fun _=>.int 0:=by rw [List.map_const',E8]; simp [Kn]
    rw [z];have B:Jh (Qb 0) Jv ze [] [none] (Zs 0 (n + 1)) T=.ok ((List.range (n + 1)).map fun _=>.int 0) T:=by
     rw [Zx];exact Z3 _ _ (by simp) fun k _=>⟨_,rfl,rfl⟩
    exact Q93 (Wc (jw (n:=n + 1) (by omega) (Qk rfl rfl (Q71 T _ _))) B)
   ·rw [List.range_succ,F3]; rfl)
  ⟨rfl,by simp⟩
 rw [e,E8]
theorem Qia {n p q:Nat} {S:Q2} {tb:List (List Int)} (R:RowsAt n S p q tb) (w:Wt' n tb) {Γ:Gam} (I:Q4 3 Γ S=.ok (.ref p) S):(J1 Wd (Q3 (Yv (Jk [none] (Qb 0) (V4 (Q4 3)) Jv Vg)) Q8)) Γ S=.ok (Qj tb) S:=by
 have O:=w.n8;obtain ⟨j,z⟩:∃ j,((List.range n).map fun k=>PV.ref (q + k))=j:=⟨_,rfl⟩
 have hl:=R.l;rw [z] at hl;have G:Jh (Qb 0) Jv Vg [(p,.lst j)] [none] j S=.ok (tb.map Z6) S:=by
  have e:tb.map Z6=(List.range n).map fun k=>Z6 (tb.getD k []):=by
   have:=Q5w tb [] Z6;rw [w.len] at this;exact this
  rw [e]
  conv=>lhs; arg 6; rw [<- z]
  refine Z3 _ _ (by simp [wOk,hl]) fun k J=>⟨_,rfl,?_⟩
  have g:=R.r k (D5.mp J);generalize q + k=t at *;simp -implicitDefEqProofs [Vg,g];rfl
 have B:j.length<=1000000:=by rw [<- z]; simp; omega
 have hs:U1 S (.ref p)=some (j,[(p,.lst j)]):=by simp only [U1,hl]
 exact W7 (Q5 (Kp (Wc (yu I hs B) G)) rfl) rfl
theorem Qay {n:Nat} (w:Wt' n (List.replicate n (Kn n))) {h:Nat} (z:h < n):Qs (List.replicate n (Kn n)) h=0:=by
 have B:∀ a b,a < n->b<=n->ent (List.replicate n (Kn n)) a b=0:=fun a b I J=>by
  unfold ent Kn;rw [show (List.replicate n (List.replicate (n + 1) (0:Int))).getD a []=List.replicate (n + 1) 0 by rw [List.getD,L4,bQ I]; rfl];rw [List.getD,L4,bQ (by omega)]; rfl
 rw [Uh w.sz z,Za (g:=fun _=>0) fun o G=>B o h G (E2 z),Za (f:=fun j=>ent (List.replicate n (Kn n)) h j) (g:=fun _=>0) fun o G=>B h o z (E2 G),Xk,B h n z (O6 n),B h h z (E2 z)]
 omega
theorem Qn8 {n:Nat} {S cells:Q2} {tb:List (List Int)} (hl:cells.length=n) (z:∀ k,k < n->cells[k]?=some (.lst ((tb.getD k []).map .int))):RowsAt n (S ++ cells ++ [.lst ((List.range n).map fun k=>PV.ref (S.length + k))]) (S.length + n) S.length tb:=by
 have j:(S ++ cells).length=S.length + n:=by simp [hl]
 refine ⟨?_,fun k B=>?_,.inr (O6 _)⟩
 ·rw [<- j]; simp
 ·rw [O9 (by omega),E9 (by omega),Nat.add_sub_cancel_left];exact z k B
theorem Qtd {d:Nat} (hd:d < 3) (S:Q2):∃ j:Nat,1<=j/\j<=1000000000000000000/\oIx S (.lst [.int 4,.int 30,.int 1000000000000000000]) (.int d)=.ok (.int j) S:=by
 match d,hd with
 | 0,_=>exact ⟨4,by decide,by decide,rfl⟩
 | 1,_=>exact ⟨30,by decide,by decide,rfl⟩
 | 2,_=>exact ⟨1000000000000000000,by decide,by decide,rfl⟩
theorem Qib {ns:List Int} {S:Q2} {L:Nat} (T:TapeAt S L ns) {n:Nat} (h1:1<=n) (h8:n<=8):∃ tb I,TapeAt I L ns/\Wt' n tb/\Ca n tb/\Xg [.ref L,.int n] S=.ok (Qj tb) I:=by
 obtain ⟨d,S1,hd,T1,M1,e1⟩:=Yh T 3 (by decide) (by decide);obtain ⟨j,f1,f2,e2⟩:=Qtd hd S1;have Z:=Qmk h1 h8;have hz:=Qmj n h8 S1;have R3:=Qn8 (S:=S1) (cells:=List.replicate n (Cell.lst ((Kn n).map .int))) (tb:=List.replicate n (Kn n)) (n:=n) (by simp) (fun i hi=>by rw [L4,bQ hi,List.getD,L4,bQ hi]; rfl);have B:(S1 ++ List.replicate n (Cell.lst ((Kn n).map .int))).length=S1.length + n:=by simp
 have Y:=T1.lt;have et:(Q3d (Jk [none,some 1] (Qb 0) (Z2 (Q3 (Q4 1) Q8)) Jv Vh)) [some (.ref L),some (.int n),some (.int j),none,none,none,none,none,none] S1=.ok (.ref (S1.length + n)) (S1 ++ List.replicate n (Cell.lst ((Kn n).map .int)) ++ [.lst ((List.range n).map fun k=>PV.ref (S1.length + k))]):=by
  rw [<- B];exact Q93 (Wc (jw (by omega) rfl) hz)
 have T3:TapeAt (S1 ++ List.replicate n (Cell.lst ((Kn n).map .int)) ++ [.lst ((List.range n).map fun k=>PV.ref (S1.length + k))]) L ns:=T1.of (by rw [O9 (by omega),O9 Y])
 generalize S1 ++ List.replicate n (Cell.lst ((Kn n).map .int)) ++ [Cell.lst ((List.range n).map fun k=>PV.ref (S1.length + k))]=S3 at *
 obtain ⟨k,S4,hk,T4,M4,e4⟩:=Yh T3 12 (by decide) (by decide);have R4:=R3.mv M4 Y (by omega);obtain ⟨a4,S5,f,U,G,z,O,J,tb,rfl,T5,R5,w5,a2,_⟩:=U5 (g:=fun k:Nat=>PV.int (k:Int)) (xs:=List.range k) (ga:=Qb 4) (body:=Vm) (w:=[]) (Γ:=tbG L n j (S1.length + n) none none none none none) (st:=S4)
  (fun i Γ st'=>∃ U G z O J tb,Γ=tbG L n j (S1.length + n) U G z O J/\TapeAt st' L ns/\RowsAt n st' (S1.length + n) S1.length tb/\Wt' n tb/\Ca n tb/\Zk n (Qs tb)<=(i:Int) * 1000000000000000000) (fun _ _ _ _=>by simp)
  (fun i x Γ st' hx ⟨U,G,z,O,J,tb,e,T',R',w',c',b'⟩=>by
   subst e;have a3:i < k:=by simpa using (O2.mp hx).1
   obtain ⟨d5,d6,d7,d8,I,a1,T6,R6,w6,z,b6,e6⟩:=Qmt T' R' w' c' b' (by omega) Y (by omega) f1 f2 (some (.int x)) G z O J;refine ⟨_,rfl,_,I,e6,_,_,_,_,_,a1,rfl,T6,R6,w6,z,?_⟩
   push_cast
   omega)
  ⟨_,_,_,_,_,_,rfl,T4,R4,Z,Ca.zero h1 h8 Z,by
   rw [Za (g:=fun _=>0) fun o ho=>Qay Z ho,Xk]; decide⟩
 rw [<- Zx] at f;refine ⟨tb,S5,T5,w5,a2,?_⟩;have step:X1 [some (.ref L),some (.int n),none,none,none,none,none,none,none] S=.rt (Qj tb) S5:=by
  refine Qw (Γ1:=[some (.ref L),some (.int n),some (.int j),none,none,none,none,none,none]) (Ze (Qk (Q1q (Q5 rfl (Q5 rfl (Q5 (Qk rfl rfl (show Q5q S (.int 10) (.int 18)=.ok (.int 1000000000000000000) S by simp)) rfl)))) (Qu (n:=2) (Q5 rfl (Q5 rfl rfl)) rfl e1) e2)) ?_;refine Qw (Γ1:=tbG L n j (S1.length + n) none none none none none) (Ze et) ?_;refine Qw (jn (xs:=Zs 0 k) (w:=[]) ?_ f) ?_
  ·rw [Q60,Q5 (Qu (n:=2) (Q5 rfl (Q5 rfl rfl)) rfl e4) (show Q8 _ _=.ok [] _ from rfl),Zn];show (if -(lim:Int)<=(k:Int)/\(k:Int)<=lim then _ else _)=_;rw [bQ (by rw [Jr]; omega),Int.toNat_natCast]
  ·exact zz (Qia R5 w5 rfl)
 exact Qm4 (m:=X1) (nl:=9) step
def wrF (tb:List (List Int)) (x:List Nat) (h:Nat):List Nat:=if h∉x/\(x.any fun o=>decide (0 < ent tb o h))=true then x ++ [h] else x
def wr1 (n:Nat) (tb:List (List Int)) (x:List Nat) (_:Nat):List Nat:=(List.range n).foldl (wrF tb) x
def wr0 (n:Nat) (tb:List (List Int)):List Nat:=(List.range n).filter fun h=>decide (0 < ent tb h h)
def wrE (n:Nat) (tb:List (List Int)):List Nat:=(List.range n).foldl (wr1 n tb) (wr0 n tb)
section
variable {n:Nat} {tb:List (List Int)}
theorem Q4u {x:List Nat} {h k:Nat} (q:k∈x):k∈wrF tb x h:=by
 unfold wrF; split
 ·exact F6 _ q
 ·exact q
theorem Qi4 {x:List Nat} {h:Nat} (z:h < n) (q:∀ o∈x,o < n):∀ o∈wrF tb x h,o < n:=by
 unfold wrF; split
 ·intro o j;rcases E4.mp j with j | j
  ·exact q o j
  ·rw [F5.mp j]; exact z
 ·exact q
theorem Qmq {x:List Nat} {h:Nat}:(wrF tb x h).length<=x.length + 1:=by
 unfold wrF; split
 ·simp
 ·omega
theorem Qaz {x:List Nat} {t k:Nat} (q:k∈x):k∈wr1 n tb x t:=Ys (P:=fun x:List Nat=>k∈x) (fun _ _ _ q=>Q4u q) q
theorem Qi5 {x:List Nat} {t:Nat} (q:∀ o∈x,o < n):∀ o∈wr1 n tb x t,o < n:=Ys (P:=fun x:List Nat=>∀ o∈x,o < n) (fun _ _ hi q=>Qi4 (D5.mp hi) q) q
theorem Qi6:∀ o∈wr0 n tb,o < n:=fun o j=>D5.mp (G7.mp j).1
theorem Qg1:Cl n tb fun h=>decide (h∈wrE n tb):=by
 refine Q3u n tb (fun (x:List Nat) h=>decide (h∈x)) (wr1 n tb) (fun x=>∀ o∈x,o < n) (fun _ _ q=>Qi5 q) (fun x t h _ _ q=>?_) (fun x t o h _ O I Y U B=>?_) (fun x t lt c h I B=>?_) _ Qi6
 ·exact bU (Qaz (of_decide_eq_true q))
 ·refine bU ?_;have B:=of_decide_eq_true B;refine Q2k (P:=fun x:List Nat=>o∈x) (Q:=fun x:List Nat=>h∈x) (fun _ _ q=>Q4u q) (fun _ _ q=>Q4u q) (x:=h) (fun y q=>?_) (D5.mpr I) B;unfold wrF
  by_cases z:h∈y
  ·rw [bS (fun u=>u.1 z)]; exact z
  ·rw [bQ ⟨z,L5.mpr ⟨o,q,bU U⟩⟩]; simp
 ·refine bU ?_;have B:=of_decide_eq_true B;refine Ys (P:=fun y:List Nat=>∀ k,k∈y->k∈x) (fun y i hi G k j=>?_) (fun k q=>q) h B;unfold wrF at j
  split at j
  ·rename_i Z;rcases E4.mp j with j | j
   ·exact G k j
   ·rw [F5.mp j];obtain ⟨o,O,e⟩:=L5.mp Z.2;have q:=G o O
    by_cases J:o=i
    ·subst J; exact q
    ·exact of_decide_eq_true (c o i (lt o q) (D5.mp hi) J (of_decide_eq_true e) (bU q))
  ·exact G k j
theorem Qej {h:Nat} (j:h < n) (z:0 < ent tb h h):h∈wrE n tb:=Ys (P:=fun x:List Nat=>h∈x) (fun _ _ _ q=>Qaz q) (G7.mpr ⟨D5.mpr j,bU z⟩)
theorem Quh {h:Nat} (r:Rc n tb h):h∈wrE n tb:=by
 induction r with
 | made hl j=>exact Qej hl (by unfold jz at j; simpa using j)
 | @lent o g r hl B z=>
  by_cases e:o=g
  ·subst e; exact z
  ·exact of_decide_eq_true (Qg1 o g r.lt hl e B (bU z))
theorem Qrc (w:Wt' n tb) (c:Ca n tb) {h:Nat} (B:h < n) (q:h∉wrE n tb):∀ j,j<=n->ent tb h j<=0:=fun j G=>by
 refine Classical.byContradiction fun z=>q ?_
 by_cases e:j=h
 ·subst e; exact Qej B (by omega)
 ·exact Quh (c.bz h B ((j7 w B).mpr ⟨j,G,e,by omega⟩))
theorem Qeq:∀ {l:List Int},(∀ x∈l,x<=0)->l.sum<=0
 | [],_=>by simp
 | x :: l,h=>by
  have h1:=h x O8;have h2:=Qeq (l:=l) fun y j=>h y (O5 _ j)
  rw [List.sum_cons]; omega
theorem Qn9 (z:Sz n tb) {h:Nat} (B:h < n) (q:∀ j,j<=n->ent tb h j<=0):(tb.getD h []).sum<=0:=by
 refine Qeq fun x G=>?_
 obtain ⟨j,I,e⟩:=List.getElem_of_mem G;have hl:=(z.row B).2;have:=q j (by omega);unfold ent at this;rw [D6,O3 I] at this;rw [<- e]; exact this
abbrev lcG (tb:List (List Int)) (n p:Nat) (c3 c4:Option PV):Gam:=[some (Qj tb),some (.int n),some (.ref p),c3,c4]
theorem Q4r (st:Q2) (x:List Nat):(st ++ [Cell.lst (x.map J3)])[st.length]?=some (.lst (x.map J3)):=by simp
theorem Qr5 (st:Q2) (x:List Nat) (h:Nat):oIn true (st ++ [.lst (x.map J3)]) (.int h) (.ref st.length)=.ok (.bl (decide (h∉x))) (st ++ [.lst (x.map J3)]):=by
 have j:ListAt (st ++ [.lst (x.map J3)]) (.ref st.length) ((yj x).map .int):=.inr (.inr ⟨_,rfl,by rw [za]; exact Q4r st x⟩);rw [Qkd j (h:Int) true]
 by_cases q:h∈x
 ·rw [bU (intsN_mem.mpr q),bT (fun z=>z q)]; rfl
 ·rw [bT (fun z=>q (intsN_mem.mp z)),bU q]; rfl
theorem Qpr (z:Sz n tb) (st:Q2) {x:List Nat} (O:∀ o∈x,o < n) (hl:x.length<=1000) {h:Nat} (I:h < n) (B:Option PV):K6 (lcG tb n st.length B (some (.int h))) (st ++ [.lst (x.map J3)])=.nx (lcG tb n st.length B (some (.int h))) (st ++ [.lst ((wrF tb x h).map J3)]):=by
 have hi:=Qr5 st x h;have hs:U1 (st ++ [.lst (x.map J3)]) (.ref st.length)=some (x.map J3,[(st.length,.lst (x.map J3))]):=by simp only [U1,Q4r]
 have J:Jh (Qb 0) Jv K5 [(st.length,.lst (x.map J3))] [none,some (.int h),some (Qj tb)] (x.map J3) (st ++ [.lst (x.map J3)])=.ok ((x.map fun o=>decide (0 < ent tb o h)).map .bl) (st ++ [.lst (x.map J3)]):=by
  rw [D8];refine Z3 _ _ (by simp [wOk]) fun o Y=>⟨_,rfl,?_⟩
  have G:=Vj z (O o Y) (E2 I) (st ++ [.lst (x.map J3)]);exact Qk (Qk (Qk rfl rfl G.1) rfl G.2) rfl rfl
 have U:qc (fun ns=>.bl (ns.any id)) (st ++ [.lst (x.map J3)]) [.lst ((x.map fun o=>decide (0 < ent tb o h)).map .bl)]=.ok (.bl (x.any fun o=>decide (0 < ent tb o h))) (st ++ [.lst (x.map J3)]):=by
  rw [Q08,List.any_map]; rfl
 have ta:(toB (J1 (qc fun ns=>.bl (ns.any id)) (Q3 (Yv (Jk [none,some 4,some 0] (Qb 0) (V4 (Q4 2)) Jv K5)) Q8))) (lcG tb n st.length B (some (.int h))) (st ++ [.lst (x.map J3)])=.ok (x.any fun o=>decide (0 < ent tb o h)) (st ++ [.lst (x.map J3)]):=
  J9 (W7 (Q5 (Kp (Wc (yu rfl hs (by rw [O0]; omega)) J)) rfl) U)
 unfold wrF
 by_cases q:h∈x
 ·rw [bT (fun z=>z q)] at hi;rw [bS (fun u=>u.1 q)];exact Vf (Qd0 (J9 (Qk rfl rfl hi))) rfl
 ·rw [bU q] at hi;cases b:x.any fun o=>decide (0 < ent tb o h) with
  | false=>
   rw [b] at ta;rw [bS (fun u=>by cases u.2)];exact Vf (Q2p (J9 (Qk rfl rfl hi)) ta) rfl
  | true=>
   rw [b] at ta;rw [bQ ⟨q,rfl⟩];have j:=Qqk (S:=st ++ [.lst (x.map J3)]) (L:=st.length) (xs:=x.map J3) (Q4r st x) (by rw [O0]; omega) (.int h);rw [show (st ++ [Cell.lst (x.map J3)]).set st.length (.lst (x.map J3 ++ [.int h]))=st ++ [.lst ((x ++ [h]).map J3)] by rw [F3]; simp [J3]] at j;exact Q0s (Q2p (J9 (Qk rfl rfl hi)) ta) (Qtx (p:=.ref st.length) (xs:=x.map J3) rfl (by simp only [Sm.listOf,Q0x,Q4r]) (Q5 rfl rfl) j)
theorem Qk6 (z:Sz n tb) (n8:n<=8) (st:Q2) {x:List Nat} (U:∀ o∈x,o < n) (hl:x.length<=900) (t:Nat) (I O:Option PV):∃ B,Vp (lcG tb n st.length I O) (st ++ [.lst (x.map J3)])=.nx (lcG tb n st.length I B) (st ++ [.lst ((wr1 n tb x t).map J3)])/\(wr1 n tb x t).length<=x.length + n:=by
 obtain ⟨Y,Z,f,B,rfl,rfl,_,G⟩:=U5 (g:=fun k:Nat=>PV.int (k:Int)) (xs:=List.range n) (ga:=Qb 4) (body:=K6) (w:=[]) (Γ:=lcG tb n st.length I O) (st:=st ++ [.lst (x.map J3)])
  (fun i Γ st'=>∃ B,Γ=lcG tb n st.length I B/\st'=st ++ [.lst (((List.range i).foldl (wrF tb) x).map J3)]/\(∀ o∈(List.range i).foldl (wrF tb) x,o < n)/\((List.range i).foldl (wrF tb) x).length<=x.length + i) (fun _ _ _ _=>by simp)
  (fun i k Γ st' J ⟨B,e1,e2,lt,le⟩=>by
   subst e1; subst e2;have j:i < n:=by simpa using (O2.mp J).1
   rw [F8 j] at J;cases J;have e:=Qpr z st lt (by omega) j I;refine ⟨_,rfl,_,_,e,_,rfl,?_,?_,?_⟩
   ·rw [List.range_succ,List.foldl_append]; rfl
   ·rw [List.range_succ,List.foldl_append]; exact Qi4 j lt
   ·rw [List.range_succ,List.foldl_append];have:=Qmq (tb:=tb) (x:=(List.range i).foldl (wrF tb) x) (h:=i);show (wrF tb _ i).length<=_;omega)
  ⟨_,rfl,rfl,U,by simp⟩
 rw [<- Zx] at f;rw [E8] at f G;exact ⟨B,jn (jw (by omega) rfl) f,G⟩
theorem Qst {l:List Int} (j:l≠[]) (h:∀ x∈l,0<=x):∃ m,Qsu l=some m/\0<=m:=by
 cases l with
 | nil=>exact absurd rfl j
 | cons a l=>
  refine ⟨_,rfl,?_⟩;have:∀ (l:List Int) (a:Int),0<=a->(∀ x∈l,0<=x)->0<=l.foldl (fun a b=>if b < a then b else a) a:=by
   intro l
   induction l with
   | nil=>intro a h _; exact h
   | cons b l B=>
    intro a h1 h2;refine B _ ?_ fun x z=>h2 x (O5 _ z)
    have:=h2 b O8;show 0<=if b < a then b else a
    split <;> omega
  exact this l a (h a O8) fun x z=>h x (O5 _ z)
theorem Qh7 (w:Wt' n tb) (c:Ca n tb) (st:Q2):V9 [Qj tb] st=.ok (.bl true) st:=by
 have n8:=w.n8;have n1:=w.n1;have z:=w.sz;have O:Zf st [Qj tb]=.ok (.int n) st:=by simp [Qj,z.1]
 have a1:Jh (Qb 0) Jv zh [] [none,some (Qj tb)] (Zs 0 n) st=.ok (((List.range n).map (Qs tb)).map .int) st:=by
  rw [Zx,D8];exact Z3 _ _ (by simp) fun h j=>⟨_,rfl,Qu (n:=2) (Q5 rfl (Q5 rfl rfl)) rfl (Q2g z (by omega) (D5.mp j) st)⟩
 obtain ⟨m,hm,m0⟩:=Qst (l:=(List.range n).map (Qs tb)) (fun e=>by have:=congrArg List.length e; simp at this; omega) fun x hx=>by
  obtain ⟨h,j,rfl⟩:=List.mem_map.mp hx;exact c.nn h (D5.mp j)
 have I:Qhx st [.lst (((List.range n).map (Qs tb)).map .int)]=.ok (.int m) st:=by
  generalize (List.range n).map (Qs tb)=l at *;rw [show Qhx st [.lst (l.map .int)]=W4 (fun ns=>(Qsu ns).map .int) st [.lst (l.map .int)] from rfl,Q8u,hm]; rfl
 have U:Jh (Qb 0) jt zg [] [none,some (Qj tb)] (Zs 0 n) st=.ok ((wr0 n tb).map J3) st:=by
  rw [Zx];refine Wn _ _ _ (by simp) fun h j=>⟨_,rfl,?_,fun _=>rfl⟩
  have j:=D5.mp j;have J:=Vj z j (E2 j) st;exact J9 (Qk (Qk (Qk rfl rfl J.1) rfl J.2) rfl rfl)
 have l0:(wr0 n tb).length<=n:=by
  have:=List.length_filter_le (fun h=>decide (0 < ent tb h h)) (List.range n)
  rw [E8] at this; exact this
 obtain ⟨a3,S',f,G,B,rfl,rfl,lt,_⟩:=U5 (g:=fun k:Nat=>PV.int (k:Int)) (xs:=List.range n) (ga:=Qb 3) (body:=Vp) (w:=[]) (Γ:=lcG tb n st.length none none) (st:=st ++ [.lst ((wr0 n tb).map J3)])
  (fun i Γ st'=>∃ G B,Γ=lcG tb n st.length G B/\st'=st ++ [.lst (((List.range i).foldl (wr1 n tb) (wr0 n tb)).map J3)]/\(∀ o∈(List.range i).foldl (wr1 n tb) (wr0 n tb),o < n)/\((List.range i).foldl (wr1 n tb) (wr0 n tb)).length<=n + i * 8) (fun _ _ _ _=>by simp)
  (fun i k Γ st' Z ⟨G,B,e1,e2,lt,le⟩=>by
   subst e1; subst e2;have Y:i < n:=by simpa using (O2.mp Z).1
   rw [F8 Y] at Z;cases Z;obtain ⟨d4,e,hl⟩:=Qk6 z n8 st lt (by omega) i (some (.int i)) B;refine ⟨_,rfl,_,_,e,_,_,rfl,?_,?_,?_⟩
   ·rw [List.range_succ,List.foldl_append]; rfl
   ·rw [List.range_succ,List.foldl_append]; exact Qi5 (t:=i) lt
   ·rw [List.range_succ,List.foldl_append];show (wr1 n tb _ i).length<=_;omega)
  ⟨_,_,rfl,rfl,Qi6,by simp; exact l0⟩
 rw [<- Zx] at f;rw [E8] at f;have f:U6 (Qb 3) Vp [] (Zs 0 n) (lcG tb n st.length none none) (st ++ [.lst ((wr0 n tb).map J3)])=.nx (lcG tb n st.length G B) (st ++ [.lst ((wrE n tb).map J3)]):=f;have L:=(Q04 (fun k:Nat=>PV.int (k:Int)) (fun Γ=>∃ B,Γ=lcG tb n st.length G B) (fun _=>true) (.bl false) (ga:=Qb 4) (body:=zk) (w:=[]) (st:=st ++ [.lst ((wrE n tb).map J3)]) (by simp) (xs:=List.range n) (fun h j Γ ⟨B,e⟩=>by
  subst e;have j:=D5.mp j;refine ⟨_,rfl,fun _=>⟨lcG tb n st.length G (some (.int h)),⟨_,rfl⟩,?_⟩,fun q=>by cases q⟩
  have hi:=Qr5 st (wrE n tb) h
  by_cases q:h∈wrE n tb
  ·rw [bT (fun z=>z q)] at hi;exact Vf (Qd0 (J9 (Qk rfl rfl hi))) rfl
  ·rw [bU q] at hi;have rn:=Qn9 z j (Qrc w c j q);have J:=(Vj z j (Nat.zero_le n) (st ++ [.lst ((wrE n tb).map J3)])).1;have cs:W4 (fun ns=>some (.int ns.sum)) (st ++ [.lst ((wrE n tb).map J3)]) [Z6 (tb.getD h [])]=.ok (.int (tb.getD h []).sum) (st ++ [.lst ((wrE n tb).map J3)]):=by unfold Z6; rw [Q8t]; rfl
   exact Vf (Q2p (J9 (Qk rfl rfl hi)) (J9 (Qk (W7 (Q5 (Qk rfl rfl J) rfl) cs) rfl (Qr9 _ (by omega))))) rfl) _ ⟨B,rfl⟩).1 (by simp)
 obtain ⟨a2,⟨d4,rfl⟩,f2⟩:=L;rw [<- Zx] at f2;have step:qv [some (Qj tb),none,none,none,none] st=.rt (.bl true) (st ++ [.lst ((wrE n tb).map J3)]):=by
  refine Qw (Γ1:=[some (Qj tb),some (.int n),none,none,none]) (Ze (W7 (Q5 rfl rfl) O)) ?_;refine Qw (Vf (J9 (Qk (W7 (Q5 (Kp (Wc (jw (by omega) rfl) a1)) rfl) I) rfl (Qr4 st (by omega)))) rfl) ?_;refine Qw (Γ1:=lcG tb n st.length none none) (Ze (Q93 (Wc (jw (by omega) rfl) U))) ?_;refine Qw (jn (jw (by omega) rfl) f) ?_;refine Qw (jn (jw (by omega) rfl) f2) ?_;rfl
 exact (U8 step).trans (Qhi rfl)
end
theorem Qd4 {a b:ME} {Γ:Gam} {S S1:Q2} {r:Res PV} (h:a Γ S=.ok (.bl true) S1) (h2:b Γ S1=r):Q02 a b Γ S=r:=by rw [Qpp,h]; exact h2
theorem Qjf {α:Type} (f:α->Int) {z j:List α} (p:z.Perm j):(z.map f).sum=(j.map f).sum:=by
 induction p with
 | nil=>rfl
 | cons x _ B=>rw [D2,D2,List.sum_cons,List.sum_cons,B]
 | swap x y l=>simp only [D2,List.sum_cons]; omega
 | trans _ _ a b=>rw [a,b]
def Q6z (tb:List (List Int)) (both:List Int):Int:=(both.map fun x=>Qs tb x.toNat).sum
theorem Qhy {tb:List (List Int)} {both:List Int} {j:List Nat} (h:Up both=j.map fun k:Nat=>(k:Int)):Q6z tb both=Q0w tb j:=by
 unfold Q6z Q0w;rw [<- Qjf (fun x:Int=>Qs tb x.toNat) (Uf both),h,D8];rfl
section
variable {n:Nat} {tb W:List (List Int)} {both:List Int} {st:Q2}
abbrev rgG (bv:PV) (tb:List (List Int)) (both:List Int) (k:Int) (us:List (List Int)) (f:PV) (c6:Option PV):Gam:=[some bv,some (Qj tb),some (Q7 both),some (.int k),some (.lst (us.map Q7)),some f,c6]
theorem Qa7 (j:List (List Int)) (st:Q2):oNe st (.lst (j.map Q7)) (.lst [])=.ok (.bl (!j.isEmpty)) st:=by
 cases j with
 | nil=>rfl
 | cons x j=>simp [oNe,der,Jw,peq,Xh,dep,Q7]
theorem Qpz {j:List (List Int)} {one:List Int} (h:one∈j) (st:Q2):oIn false st (Q7 one) (.lst (j.map Q7))=.ok (.bl true) st:=by
 have z:Jw dep (Q7 one)=true:=by simp [Jw,dep,Q7]
 have g2:(j.map Q7).all (Jw dep)=true:=by simp [Jw,dep,Q7]
 have hd:der st (Q7 one)=Q7 one:=rfl;have B:((j.map Q7).any fun y=>peq y (Q7 one))=true:=L5.mpr ⟨Q7 one,List.mem_map.mpr ⟨one,h,rfl⟩,jx z⟩
 unfold oIn;simp only [Q2v];rw [hd,bQ ⟨z,g2⟩,B]; rfl
theorem Q9n (j:PV) (k:Int) (z:List (List Int)) (s:Str) (v:PV) {Z:MS} {r:SR} (B:Z (rgG j tb both k z (.tup [.str s,v]) none) st=r):Qh (Zc (zn (W6 (toB (Xz "tuple" (Q4 5)))) (toB (mOp oNe (J1 Zf (Q3 (Q4 5) Q8)) (mC (.int 2))))) (Jz (mC (.bl false))) Jt) Z (rgG j tb both k z (.tup [.str s,v]) none) st=r:=by
 have hi:Xz "tuple" (Q4 5) (rgG j tb both k z (.tup [.str s,v]) none) st=.ok (.bl true) st:=by simp [isI,tyN]
 exact Qw (Vf (Q7d (Uz (J9 hi)) (J9 (Qk (W7 (Q5 rfl rfl) (show Zf st [.tup [.str s,v]]=.ok (.int 2) st from rfl)) rfl (Qc4 st 2)))) rfl) B
theorem Qbm (z:PV) (k:Int) {j:List (List Int)} {one:List Int} (h:one∈j):Yi [z,Qj tb,Q7 both,.int k,.lst (j.map Q7),.tup [.str "blind",Q7 one]] st=.ok (.bl true) st:=by
 have B:=Qa7 j st;rw [show (!j.isEmpty)=true by cases j with | nil=>cases h | cons _ _=>rfl] at B
 have hi:Xz "tuple" (mOp oIx (Q4 5) (mC (.int 1))) (rgG z tb both k j (.tup [.str "blind",Q7 one]) none) st=.ok (.bl true) st:=by
  rw [Qpm,Qk (o:=oIx) (x:=.tup [.str "blind",Q7 one]) (y:=.int 1) (v:=Q7 one) (S3:=st) rfl rfl rfl,Zn];unfold Q7;simp [isI,tyN]
 have step:Y0 (rgG z tb both k j (.tup [.str "blind",Q7 one]) none) st=.rt (.bl true) st:=
  Q9n z k j "blind" (Q7 one) (Qdc (Q0s (J9 (Qk rfl (Q1q rfl) B)) (zz (Qd4 (Qk (Qk rfl rfl rfl) rfl (Qra st _)) (Qd4 hi (Qk (Qk rfl rfl rfl) rfl (Qpz h st)))))))
 exact (U8 (m:=Y0) (nl:=7) (ps:=[z,Qj tb,Q7 both,.int k,.lst (j.map Q7),.tup [.str "blind",Q7 one]]) step).trans (Yg st true)
theorem Q9m (z:Sz n tb) (n8:n<=8) (I:∀ x∈both,0<=x/\x < (n:Int)) (hl:both.length<=100) {me:ME} (B:me=Qe 2 Jf (Q3 (Q4 1) (Q3 (Q4 0) Q8))) {ms mt:ME} {Γ:Gam} {i j:Nat} (hi:ms Γ st=.ok (Q7 both) st) (J:Z4 [none,some j] Γ=[none,some (Qj tb)]):(J1 (W4 fun ns=>some (.int ns.sum)) (Q3 (Yv (Jk [none,some j] (Qb 0) (V4 ms) Jv me)) Q8)) Γ st=.ok (.int (Q6z tb both)) st:=by
 have G:=Qg7 z (by omega) I B st;rw [<- J] at G;refine W7 (Q5 (Kp (Wc (yu hi rfl (by rw [O0]; omega)) G)) rfl) ?_;rw [Q3q]; rfl
theorem Qge (z:Sz n tb) (n8:n<=8) (J:∀ x∈both,0<=x/\x < (n:Int)) (hl:both.length<=100) (B:PV) {k:Int} (G:k<=Q6z tb both):Yi [B,Qj tb,Q7 both,.int k,.lst (([]:List (List Int)).map Q7),.tup [.str "may",.int (Q6z tb both)]] st=.ok (.bl true) st:=by
 have U:=Qa7 [] st;have hs:=Q9m (st:=st) (Γ:=rgG B tb both k [] (.tup [.str "may",.int (Q6z tb both)]) none) z n8 J hl (me:=K4) rfl (ms:=Q4 2) (mt:=Q4 2) (i:=2) (j:=1) rfl rfl;obtain ⟨s,es⟩:∃ s,Q6z tb both=s:=⟨_,rfl⟩;rw [es] at hs G ⊢;have hi:Qk0 (Xz "bool" (mOp oIx (Q4 5) (mC (.int 1)))) (rgG B tb both k [] (.tup [.str "may",.int s]) (some (.int s))) st=.ok (.bl true) st:=by
  rw [Qpj,(Qff _ _ s (Qk (o:=oIx) (x:=.tup [.str "may",.int s]) (y:=.int 1) (S3:=st) rfl rfl rfl)).2]; rfl
 have I:oEq st (.tup [.str "may",.int s]) (.tup [.str "may",.int s])=.ok (.bl true) st:=by
  have g:Jw dep (.tup [.str "may",.int s])=true:=rfl;have hp:=jx g;unfold oEq;rw [show der st (.tup [.str "may",.int s])=.tup [.str "may",.int s] from rfl,bQ ⟨g,g⟩,hp]
 have O:(oI fun a b=>.bl (decide (b<=a))) st (.int s) (.int k)=.ok (.bl true) st:=by
  show Res.ok (PV.bl (decide (k<=s))) st=_; rw [bU G]
 have step:Y0 (rgG B tb both k [] (.tup [.str "may",.int s]) none) st=.rt (.bl true) st:=
  Q9n B k [] "may" (.int s) (Qw (Vf (J9 (Qk rfl (Q1q rfl) U)) rfl) (Qw (Γ1:=rgG B tb both k [] (.tup [.str "may",.int s]) (some (.int s))) (Ze hs) (Qdc (Q0s (J9 (Qk rfl rfl O)) (zz (Qd4 (Qk rfl (Z8 (Q5 rfl (Q5 rfl rfl)) (by simp)) I) hi))))))
 exact (U8 (m:=Y0) (nl:=7) (ps:=[B,Qj tb,Q7 both,.int k,.lst (([]:List (List Int)).map Q7),.tup [.str "may",.int s]]) step).trans (Yg st true)
theorem Qdj (z:Sz n tb) (zW:Sz n W) (n8:n<=8) (Y:∀ x∈both,0<=x/\x < (n:Int)) (hl:both.length<=100) (B:PV) {k:Int} (O:¬ k<=Q6z tb both) (hw:Yu [Qj tb,Q7 both,Qj W] st=.ok (.bl true) st) (J:Zk n (Qs W) < k):Yi [B,Qj tb,Q7 both,.int k,.lst (([]:List (List Int)).map Q7),.tup [.str "must",Qj W]] st=.ok (.bl true) st:=by
 have hn:=Qa7 [] st;have hs:=Q9m (st:=st) (Γ:=rgG B tb both k [] (.tup [.str "must",Qj W]) none) z n8 Y hl (me:=K4) rfl (ms:=Q4 2) (mt:=Q4 2) (i:=2) (j:=1) rfl rfl;obtain ⟨s,es⟩:∃ s,Q6z tb both=s:=⟨_,rfl⟩;rw [es] at hs O;have hg:(oI fun a b=>.bl (decide (b<=a))) st (.int s) (.int k)=.ok (.bl false) st:=by
  show Res.ok (PV.bl (decide (k<=s))) st=_; rw [bT O]
 have G:Zf st [Qj tb]=.ok (.int n) st:=by simp [Qj,z.1]
 have Z:Jh (Qb 0) Jv zf [] [none,some (.tup [.str "must",Qj W])] (Zs 0 n) st=.ok ((List.range n).map fun h=>.int (Qs W h)) st:=by
  rw [Zx];exact Z3 _ _ (by simp) fun h U=>⟨_,rfl,Qu (n:=2) (Q5 (Qk (o:=oIx) (x:=.tup [.str "must",Qj W]) (y:=.int 1) (v:=Qj W) (S3:=st) rfl rfl rfl) (Q5 rfl rfl)) rfl (Q2g zW (by omega) (D5.mp U) st)⟩
 have I:W4 (fun ns=>some (.int ns.sum)) st [.lst ((List.range n).map fun h=>.int (Qs W h))]=.ok (.int (Zk n (Qs W))) st:=by rw [Q3q]; rfl
 have step:Y0 (rgG B tb both k [] (.tup [.str "must",Qj W]) none) st=.rt (.bl true) st:=
  Q9n B k [] "must" (Qj W) (Qw (Vf (J9 (Qk rfl (Q1q rfl) hn)) rfl) (Qw (Γ1:=rgG B tb both k [] (.tup [.str "must",Qj W]) (some (.int s))) (Ze hs) (Qw (Vf (J9 (Qk rfl rfl hg)) rfl) (Qw (Vf (Q7d (J9 (Qk (Qk rfl rfl rfl) rfl (Q8a st _))) (Uz (J9 (Qu (n:=3) (Q5 rfl (Q5 rfl (Q5 (Qk rfl rfl rfl) rfl))) rfl hw)))) rfl) (zz (Qk (W7 (Q5 (Kp (Wc (jw (by omega) (W7 (Q5 rfl rfl) G)) Z)) rfl) I) rfl (Qw1 st J)))))))
 exact (U8 (m:=Y0) (nl:=7) (ps:=[B,Qj tb,Q7 both,.int k,.lst (([]:List (List Int)).map Q7),.tup [.str "must",Qj W]]) step).trans (Yg st true)
end
theorem Qmf {n:Nat} {gs tb:List (List Int)} {g g':List Int} (B:BOk n gs) (w:Wt' n tb) (c:Ca n tb) (h:GOk n g) (z:g≠[]) (h':GOk n g') (hd:∀ x∈g,x∉g') (k:Int) (st:Q2):∃ v,Jn [J8 n gs,Qj tb,Q7 g,Q7 g',.int k] st=.ok v st/\Yi [J8 n gs,Qj tb,Q7 (g ++ g'),.int k,.lst ((gs.filter fun one=>!U3 g one).map Q7),v] st=.ok (.bl true) st:=by
 have n8:=w.n8;have J:∀ x∈g ++ g',0<=x/\x < (n:Int):=fun x O=>by
  rcases E4.mp O with q | q
  ·exact h.rng x q
  ·exact h'.rng x q
 have hl:(g ++ g').length<=100:=by
  have:=h.len; have:=h'.len;rw [D7]; omega
 cases G:Ky gs g with
 | some one=>
  refine ⟨_,Qcn B w c.comes h z h' hd G k st,Qbm _ k (G7.mpr ⟨List.mem_of_find?_eq_some G,?_⟩)⟩;exact List.find?_some (p:=fun one=>!U3 g one) G
 | none=>
  have Z:(gs.filter fun one=>!U3 g one)=[]:=by
   rw [List.filter_eq_nil_iff];exact List.find?_eq_none.mp G
  rw [Z];obtain ⟨pl,P,hs,Y⟩:=Qqg h h' z hd n8;have U:=Qhy (tb:=tb) hs;obtain ⟨m1,m2⟩:=Qsv w c P k st;rw [<- U] at m1 m2
  by_cases q:k<=Q6z tb (g ++ g')
  ·exact ⟨_,Q2h B w c.comes h z h' hd G k st hs rfl (m1 q),Qge w.sz n8 J hl _ q⟩
  ·obtain ⟨W,j,e⟩:=m2 q;refine ⟨_,Q2h B w c.comes h z h' hd G k st hs (by simp [Jw,dep,Qj,Z6]) e,Qdj w.sz j.wt.sz n8 J hl _ q ?_ ?_⟩
   ·refine Qi7 w.sz j.wt.sz j.wt.row n8 j.le (fun x O I=>j.row x ((Y x).mpr ?_)) (Qh7 j.wt j.ca st)
    exact E4.mp I
   ·rw [Q59 j.wt.sz,j.stock P,<- U];omega
theorem Qhh {α:Type} (g:α->PV) {xs:List α} (I:Gam->Q2->Prop) {ga:GA} {body:MS} (h:∀ x Γ st,x∈xs->I Γ st->∃ Γ1,ga (g x) Γ=some Γ1/\∃ z j,I z j/\(body Γ1 st=.nx z j\/body Γ1 st=.bk z j)) {Γ:Gam} {st:Q2} (G:I Γ st):∃ B st',U6 ga body [] (xs.map g) Γ st=.nx B st'/\I B st':=by
 induction xs generalizing Γ st with
 | nil=>exact ⟨Γ,st,by simp [U6],G⟩
 | cons x xs U=>
  obtain ⟨Γ1,h1,z,j,J,e2⟩:=h x Γ st O8 G;rw [D2,U6,bQ (by simp),h1];rcases e2 with e2 | e2
  ·simp only [e2];exact U (fun y Γ st O=>h y Γ st (O5 _ O)) J
  ·simp only [e2];exact ⟨z,j,rfl,J⟩
theorem Qrs {a b:MS} {Γ Γ1:Gam} {S S1:Q2} (h:a Γ S=.bk Γ1 S1):Qh a b Γ S=.bk Γ1 S1:=by rw [qw,h]
theorem GOk.wide {n m:Int} {g:List Int} (h:GOk n g) (l:n<=m):GOk m g:=⟨fun x j=>⟨(h.rng x j).1,by have:=(h.rng x j).2; omega⟩,h.inc,h.len⟩
theorem BOk.wide {n m:Int} {gs:List (List Int)} (h:BOk n gs) (l:n<=m) (m9:m<=9):BOk m gs:=⟨by have:=h.n1; omega,m9,h.ne,fun g j=>⟨(h.ok g j).1.wide l,(h.ok g j).2⟩,h.inc,h.len⟩
abbrev Uj (ns:List Int) (b2 b3 b4 b5 b6 b7 b8 b9 b10 b11 b12:Option PV):Gam:=[some (.fro (ns.map .int)),some (.ref 0),b2,b3,b4,b5,b6,b7,b8,b9,b10,b11,b12]
section
variable {ns:List Int} {S:Q2}
theorem Qtq (T:TapeAt S 0 ns) (k:Nat) (b3 Y U b6 b7 J O G j z:Option PV):∃ (n:Nat) (gs:List (List Int)) (S':Q2),1<=n/\n<=8/\BOk n gs/\TapeAt S' 0 ns/\∀ {Z:MS} {r:SR},Z (Uj ns (some (.int k)) (some (J8 n gs)) Y U b6 b7 J O G j z) S'=r->(Qh (Jm 3 (Qe 2 Yx (Q3 (Q4 1) (Q3 (mC (.int 5)) Q8)))) (Qh (Zc (yi (toB (mOp oEq (Q4 2) (mC (.int 0)))) (toB (mOp oEq (Qe 2 Qi (Q3 (Q4 1) (Q3 (mC (.int 3)) Q8))) (mC (.int 0))))) (Jm 3 (Zt (Q3 (mOp Zb (mC (.int 6)) (Qe 2 Qi (Q3 (Q4 1) (Q3 (mC (.int 3)) Q8)))) (Q3 (mOp oIx (Q4 3) (mC (.int 1))) Q8)))) Jt) Z)) (Uj ns (some (.int k)) b3 Y U b6 b7 J O G j z) S=r:=by
 obtain ⟨n0,gs,S1,h1,h6,B,T1,e1⟩:=Qed T;have s1:∀ {Z:MS} {r:SR},Z (Uj ns (some (.int k)) (some (J8 n0 gs)) Y U b6 b7 J O G j z) S1=r->Qh (Jm 3 (Qe 2 Yx (Q3 (Q4 1) (Q3 (mC (.int 5)) Q8)))) Z (Uj ns (some (.int k)) b3 Y U b6 b7 J O G j z) S=r:=fun I=>Qw (Γ1:=Uj ns (some (.int k)) (some (J8 n0 gs)) Y U b6 b7 J O G j z) (Ze (Qu (n:=2) (Q5 rfl (Q5 rfl rfl)) rfl e1)) I
 by_cases k0:k=0
 ·subst k0;obtain ⟨d,S2,hd,T2,_,e2⟩:=Yh T1 3 (by decide) (by decide)
  by_cases d0:d=0
  ·obtain ⟨x,S3,hx,T3,_,e3⟩:=Yh T2 3 (by decide) (by decide);obtain ⟨n,hn⟩:∃ n:Nat,(6:Int) + x=n:=⟨6 + x,by push_cast; rfl⟩;refine ⟨n,gs,S3,by omega,by omega,B.wide (by omega) (by omega),T3,fun I=>s1 (Qw (Q0s (Q2p (J9 (Qk rfl rfl (Q8n S1 rfl))) (J9 (Qk (Qu (n:=2) (Q5 rfl (Q5 rfl rfl)) rfl e2) rfl (Q8n S2 (by omega))))) (Ze (v:=J8 n gs) (Z8 (ps:=[.int n,Q0v gs]) (Q5 (Qk rfl (Qu (n:=2) (Q5 rfl (Q5 rfl rfl)) rfl e3) (by rw [<- hn]; exact Q71 S3 _ _)) (Q5 (Qk rfl rfl rfl) rfl)) (by simp)))) I)⟩
  ·exact ⟨n0,gs,S2,h1,by omega,B,T2,fun I=>s1 (Qw (Vf (Q2p (J9 (Qk rfl rfl (Q8n S1 rfl))) (J9 (Qk (Qu (n:=2) (Q5 rfl (Q5 rfl rfl)) rfl e2) rfl (Q6n S2 (by omega))))) rfl) I)⟩
 ·exact ⟨n0,gs,S1,h1,by omega,B,T1,fun I=>s1 (Qw (Vf (Qd0 (J9 (Qk rfl rfl (Q6n S1 (by omega))))) rfl) I)⟩
theorem Qhk (g:List Int) (st:Q2):oEq st (Q7 g) (.tup [])=.ok (.bl g.isEmpty) st:=by
 cases g with
 | nil=>simp [Q7,oEq,der,Jw,peq,Xh,dep]
 | cons x g=>simp [Q7,oEq,der,Jw,peq,Xh,dep]
theorem Qs1 (T:TapeAt S 0 ns) {n:Nat} (h1:1<=n) (h8:n<=8) (Y U O b6 b7 I J B j z:Option PV):∃ (g:List Int) (S':Q2),GOk n g/\g≠[]/\TapeAt S' 0 ns/\∀ {Z:MS} {r:SR},Z (Uj ns Y U (some (.int n)) O (some (Q7 g)) b7 I J B j z) S'=r->(Qh (Jm 6 (Qe 2 Z1 (Q3 (Q4 1) (Q3 (Q4 4) Q8)))) (Qh (Zc (toB (mOp oEq (Q4 6) (Zt Q8))) (Jm 6 (Zt (Q3 (Qe 2 Qi (Q3 (Q4 1) (Q3 (Q4 4) Q8))) Q8))) Jt) Z)) (Uj ns Y U (some (.int n)) O b6 b7 I J B j z) S=r:=by
 obtain ⟨g,S1,T1,_,G,e1⟩:=Q2s T n (by omega);have s1:∀ {Z:MS} {r:SR},Z (Uj ns Y U (some (.int n)) O (some (Q7 g)) b7 I J B j z) S1=r->Qh (Jm 6 (Qe 2 Z1 (Q3 (Q4 1) (Q3 (Q4 4) Q8)))) Z (Uj ns Y U (some (.int n)) O b6 b7 I J B j z) S=r:=fun hZ=>Qw (Γ1:=Uj ns Y U (some (.int n)) O (some (Q7 g)) b7 I J B j z) (Ze (Qu (n:=2) (Q5 rfl (Q5 rfl rfl)) rfl e1)) hZ
 have hq:=Qhk g S1;cases g with
 | nil=>
  obtain ⟨d,S2,hd,T2,_,e2⟩:=Yh T1 n h1 (by omega);refine ⟨[(d:Int)],S2,⟨fun x hx=>by rw [F5.mp hx]; omega,by simp,by simp⟩,by simp,T2,fun hZ=>s1 (Qw (Q0s (J9 (Qk rfl (Z8 rfl (by simp)) hq)) (Ze (v:=Q7 [(d:Int)]) (Z8 (ps:=[.int d]) (Q5 (Qu (n:=2) (Q5 rfl (Q5 rfl rfl)) rfl e2) rfl) (by simp)))) hZ)⟩
 | cons x g=>exact ⟨x :: g,S1,G,by simp,T1,fun hZ=>s1 (Qw (Vf (J9 (Qk rfl (Z8 rfl (by simp)) hq)) rfl) hZ)⟩
theorem Qta (T:TapeAt S 0 ns) {n:Nat} (h8:n<=8) {g:List Int} (O J Z b7 U Y B j z:Option PV):∃ (g':List Int) (S':Q2),GOk n g'/\(∀ x∈g,x∉g')/\TapeAt S' 0 ns/\Jm 7 (J1 Wd (Q3 (Yv (Jk [none,some 6] (Qb 0) (V4 (Qe 2 Z1 (Q3 (Q4 1) (Q3 (Q4 4) Q8)))) Q95 Qak)) Q8)) (Uj ns O J (some (.int n)) Z (some (Q7 g)) b7 U Y B j z) S=.nx (Uj ns O J (some (.int n)) Z (some (Q7 g)) (some (Q7 g')) U Y B j z) S':=by
 obtain ⟨g2,S1,T1,_,G,e1⟩:=Q2s T n (by omega);have hl:=G.len;have hc:Jh (Qb 0) Q95 Qak [] [none,some (Q7 g)] (g2.map .int) S1=.ok ((g2.filter fun x=>decide (x∉g)).map .int) S1:=by
  refine Wn _ _ _ (by simp) fun x _=>⟨_,rfl,?_,fun _=>rfl⟩
  have hi:=Q3j x g S1 true;rw [show (decide (x∈g) != true)=decide (x∉g) by by_cases q:x∈g <;> simp [q]] at hi;exact J9 (Qk rfl rfl hi)
 refine ⟨g2.filter fun x=>decide (x∉g),S1,⟨fun x I=>G.rng x (G7.mp I).1,G.inc.filter _,?_⟩,fun x I hm=>?_,T1,?_⟩
 ·exact F0 (List.length_filter_le _ _) hl
 ·have:=(G7.mp hm).2;simp [I] at this
 ·exact Ze (v:=Q7 (g2.filter fun x=>decide (x∉g))) (W7 (Q5 (Kp (Wc (yu (p:=Q7 g2) (Qu (n:=2) (Q5 rfl (Q5 rfl rfl)) rfl e1) rfl (by rw [O0]; omega)) hc)) rfl) rfl)
theorem Qmr {n:Nat} {gs:List (List Int)} (B:BOk n gs) {g:List Int} (S:Q2) (U J Z O Y b9 G j z:Option PV):Jm 9 (Yv (Jk [none,some 6] (Qb 0) (V4 (mOp oIx (Q4 3) (mC (.int 1)))) Q94 Qaj)) (Uj ns U (some (J8 n gs)) J Z (some (Q7 g)) O Y b9 G j z) S=.nx (Uj ns U (some (J8 n gs)) J Z (some (Q7 g)) O Y (some (.lst ((gs.filter fun one=>!U3 g one).map Q7))) G j z) S:=by
 have hl:=B.len;have hc:Jh (Qb 0) Q94 Qaj [] [none,some (Q7 g)] (gs.map Q7) S=.ok ((gs.filter fun one=>!U3 g one).map Q7) S:=by
  refine Wn _ _ _ (by simp) fun one ho=>⟨_,rfl,?_,fun _=>rfl⟩
  have ol:=(B.ok one ho).1.len;have I:Jh (Qb 0) Jv Qfs [] [none,some (Q7 g)] (one.map .int) S=.ok ((one.map fun x=>decide (x∈g)).map .bl) S:=by
   rw [D8];refine Z3 _ _ (by simp) fun x _=>⟨_,rfl,?_⟩
   have:=Q3j x g S false;rw [Bool.bne_false] at this;exact Qk rfl rfl this
  have hb:qc (fun ns=>.bl (ns.any id)) S [.lst ((one.map fun x=>decide (x∈g)).map .bl)]=.ok (.bl (U3 g one)) S:=by
   rw [Q08,List.any_map,Qe1]; rfl
  exact Uz (J9 (W7 (Q5 (Kp (Wc (yu (p:=Q7 one) rfl rfl (by rw [O0]; omega)) I)) rfl) hb))
 exact Ze (Kp (Wc (yu (p:=Q0v gs) (Qk rfl rfl rfl) rfl (by rw [O0]; omega)) hc))
theorem Qrf (k:Nat) (T:TapeAt S 0 ns) (b3 b4 b5 b6 b7 b8 Z J z I:Option PV) :
  ∃ a1 S2,(∃ c2 c3 c4 c5 c6 c7 c8 c9 a4 O U,a1=Uj ns c2 c3 c4 c5 c6 c7 c8 c9 a4 O U)/\TapeAt S2 0 ns/\(Q4q (Uj ns (some (.int k)) b3 b4 b5 b6 b7 b8 Z J z I) S=.nx a1 S2\/Q4q (Uj ns (some (.int k)) b3 b4 b5 b6 b7 b8 Z J z I) S=.bk a1 S2):=by
 obtain ⟨pp,cc,hS⟩:=id T;obtain ⟨_,i1,_⟩:=Q4g hS;have a2:Zf S [.fro (ns.map .int)]=.ok (.int ns.length) S:=by rw [Qm6,O0]
 by_cases a5:1 < k/\ns.length<=pp
 ·refine ⟨Uj ns (some (.int k)) b3 b4 b5 b6 b7 b8 Z J z I,S,⟨_,_,_,_,_,_,_,_,_,_,_,rfl⟩,T,.inr ?_⟩;exact Qrs (Q0s (Q2p (J9 (Qk rfl rfl (Qr8 S (by omega)))) (J9 (Qk (Qk rfl rfl i1) (W7 (Q5 rfl rfl) a2) (show Res.ok (PV.bl (decide ((ns.length:Int)<=pp))) S=.ok (.bl true) S by rw [bU (by omega)])))) rfl)
 ·have t0:(yi (toB (mOp (oI fun a b=>.bl (decide (b < a))) (Q4 2) (mC (.int 1)))) (toB (mOp (oI fun a b=>.bl (decide (b<=a))) (mOp oIx (Q4 1) (mC (.int 1))) (J1 Zf (Q3 (Q4 0) Q8))))) (Uj ns (some (.int k)) b3 b4 b5 b6 b7 b8 Z J z I) S=.ok false S:=by
   by_cases q1:1 < k
   ·exact Q2p (J9 (Qk rfl rfl (Qr8 S (by omega)))) (J9 (Qk (Qk rfl rfl i1) (W7 (Q5 rfl rfl) a2) (show Res.ok (PV.bl (decide ((ns.length:Int)<=pp))) S=.ok (.bl false) S by rw [bT (by omega)])))
   ·exact Qd0 (J9 (Qk rfl rfl (Qr9 S (by omega))))
  obtain ⟨n,gs,S1,h1,h8,B,T1,e1⟩:=Qtq T k b3 b4 b5 b6 b7 b8 Z J z I;obtain ⟨tb,S2,T2,w,c,e2⟩:=Qib T1 h1 h8;obtain ⟨g,S3,G,a3,T3,e3⟩:=Qs1 T2 h1 h8 (some (.int k)) (some (J8 n gs)) (some (Qj tb)) b6 b7 b8 Z J z I;obtain ⟨g',Y,G',gd,T4,e4⟩:=Qta T3 h8 (g:=g) (some (.int k)) (some (J8 n gs)) (some (Qj tb)) b7 b8 Z J z I;have e5:=Qmr (ns:=ns) B (g:=g) Y (some (.int k)) (some (.int n)) (some (Qj tb)) (some (Q7 g')) (some (Q7 (g ++ g'))) Z J z I;have ask:=fun a=>Qmf B w c G a3 G' gd a Y
  have hb:∀ x∈g ++ g',0<=x/\x < (n:Int):=fun x hx=>by
   rcases E4.mp hx with q | q
   ·exact G.rng x q
   ·exact G'.rng x q
  have l1:=G.len;have l2:=G'.len;have hl:(g ++ g').length<=100:=by rw [D7]; omega
  have ea:Zb Y (Q7 g) (Q7 g')=.ok (Q7 (g ++ g')) Y:=by
   unfold Q7;rw [F3];exact bQ (show _<=lim by rw [O0,O0,Jr]; omega)
  generalize a6:(gs.filter fun one=>!U3 g one).map Q7=us at e5 ask;have e6:=Q9m (st:=Y) (Γ:=Uj ns (some (.int k)) (some (J8 n gs)) (some (.int n)) (some (Qj tb)) (some (Q7 g)) (some (Q7 g')) (some (Q7 (g ++ g'))) (some (.lst us)) J z I) w.sz h8 hb hl (me:=Qfr) rfl (ms:=Q4 8) (mt:=Q4 8) (i:=8) (j:=5) rfl rfl;obtain ⟨s,es⟩:∃ s,Q6z tb (g ++ g')=s:=⟨_,rfl⟩;rw [es] at e6;have ef:=(Q04 (fun x:Int=>PV.int x) (fun Γ=>∃ O U,Γ=Uj ns (some (.int k)) (some (J8 n gs)) (some (.int n)) (some (Qj tb)) (some (Q7 g)) (some (Q7 g')) (some (Q7 (g ++ g'))) (some (.lst us)) (some (.int s)) O U) (fun _=>true) (.bl false) (ga:=Qb 11) (body:=Qfx) (w:=[]) (st:=Y) (by simp) (xs:=[if s > 1 then s else 1,s + 1,1,100000000000000000000]) (fun x _ Γ ⟨O,U,e⟩=>by
   subst e;obtain ⟨v,v1,v2⟩:=ask x;refine ⟨_,rfl,fun _=>⟨Uj ns (some (.int k)) (some (J8 n gs)) (some (.int n)) (some (Qj tb)) (some (Q7 g)) (some (Q7 g')) (some (Q7 (g ++ g'))) (some (.lst us)) (some (.int s)) (some (.int x)) (some v),⟨_,_,rfl⟩,?_⟩,fun q=>by cases q⟩
   exact Qw (Γ1:=Uj ns (some (.int k)) (some (J8 n gs)) (some (.int n)) (some (Qj tb)) (some (Q7 g)) (some (Q7 g')) (some (Q7 (g ++ g'))) (some (.lst us)) (some (.int s)) (some (.int x)) (some v)) (Ze (Qu (n:=5) (Q5 rfl (Q5 rfl (Q5 rfl (Q5 rfl (Q5 rfl rfl))))) rfl v1)) (Vf (Uz (J9 (Qu (n:=6) (Q5 rfl (Q5 rfl (Q5 rfl (Q5 rfl (Q5 rfl (Q5 rfl rfl)))))) rfl v2))) rfl)) _ ⟨z,I,rfl⟩).1 (by simp)
  obtain ⟨a7,⟨O,U,rfl⟩,ef⟩:=ef;obtain ⟨v,v1,_⟩:=ask 1;have er:=Qiy B w w.sz c G a3 G' Y v1;refine ⟨Uj ns (some (.int k)) (some (J8 n gs)) (some (.int n)) (some (Qj tb)) (some (Q7 g)) (some (Q7 g')) (some (Q7 (g ++ g'))) (some (.lst us)) (some (.int s)) O U,Y,⟨_,_,_,_,_,_,_,_,_,_,_,rfl⟩,T4,.inl ?_⟩;refine Qw (Vf t0 rfl) (e1 ?_);refine Qw (Γ1:=Uj ns (some (.int k)) (some (J8 n gs)) (some (.int n)) b5 b6 b7 b8 Z J z I) (Ze (Qk rfl rfl rfl)) ?_;refine Qw (Γ1:=Uj ns (some (.int k)) (some (J8 n gs)) (some (.int n)) (some (Qj tb)) b6 b7 b8 Z J z I) (Ze (Qu (n:=2) (Q5 rfl (Q5 rfl rfl)) rfl e2)) (e3 ?_);refine Qw e4 ?_;refine Qw (Γ1:=Uj ns (some (.int k)) (some (J8 n gs)) (some (.int n)) (some (Qj tb)) (some (Q7 g)) (some (Q7 g')) (some (Q7 (g ++ g'))) Z J z I) (Ze (Qk rfl rfl ea)) ?_;refine Qw e5 ?_;refine Qw (Γ1:=Uj ns (some (.int k)) (some (J8 n gs)) (some (.int n)) (some (Qj tb)) (some (Q7 g)) (some (Q7 g')) (some (Q7 (g ++ g'))) (some (.lst us)) (some (.int s)) z I) (Ze e6) ?_
  refine Qw (jn (yu (p:=.lst ([if s > 1 then s else 1,s + 1,1,100000000000000000000].map fun x:Int=>PV.int x)) (Q1q (hl:=by simp) (Q5 (W7 (Q5 rfl (Q5 rfl rfl)) (Qm5 Y 1 s)) (Q5 (Qk rfl rfl (Q71 Y _ _)) (Q5 rfl (Q5 (Qk rfl rfl (show Q5q Y (.int 10) (.int 20)=.ok (.int 100000000000000000000) Y by simp)) rfl))))) rfl (by simp)) ef) ?_;exact Vf (Uz (J9 (Qu (n:=4) (Q5 rfl (Q5 rfl (Q5 rfl (Q5 rfl rfl)))) rfl er))) rfl
end
theorem Qk7 (ns:List Int):Qmi [.fro (ns.map .int)] []=.ok (.bl true) []:=by
 have T0:TapeAt [.lst [.fro (ns.map .int),.int 0,.int 0]] 0 ns:=⟨0,0,rfl⟩;obtain ⟨a2,S1,e1,⟨c2,J,I,O,Z,c7,Y,U,j,z,B,rfl⟩,T1⟩:=Qhh (g:=fun k:Nat=>PV.int (k:Int)) (xs:=List.range 4) (ga:=Qb 2) (body:=Q4q) (Γ:=Uj ns none none none none none none none none none none none) (st:=[.lst [.fro (ns.map .int),.int 0,.int 0]])
  (fun Γ st'=>(∃ c2 J I O Z c7 Y U j z B,Γ=Uj ns c2 J I O Z c7 Y U j z B)/\TapeAt st' 0 ns)
  (fun k Γ st' _ ⟨⟨c2,J,I,O,Z,c7,Y,U,j,z,B,g1⟩,T⟩=>by
   subst g1;obtain ⟨a1,S2,h1,h2,h3⟩:=Qrf k T J I O Z c7 Y U j z B;exact ⟨_,rfl,a1,S2,⟨h1,h2⟩,h3⟩)
  ⟨⟨_,_,_,_,_,_,_,_,_,_,_,rfl⟩,T0⟩
 rw [<- Zx] at e1;have step:Qf7 [some (.fro (ns.map .int)),none,none,none,none,none,none,none,none,none,none,none,none] []=.rt (.bl true) S1:=by
  refine Qw (Γ1:=Uj ns none none none none none none none none none none none) (Ze (Q93 (S1:=[]) (ps:=[.fro (ns.map .int),.int 0,.int 0]) rfl)) ?_;exact Qw (jn (jw (n:=4) (by decide) rfl) e1) rfl
 have G:fin [] (.bl true) S1=.ok (.bl true) []:=by simp [fin,fz]
 exact (U8 (m:=Qf7) (nl:=13) (ps:=[.fro (ns.map .int)]) step).trans G
theorem Qpt:∀ ns:List Int,ns.length<=63->∃ st',Qmi [.fro (ns.map .int)] []=.ok (.bl true) st':=fun ns _=>⟨[],Qk7 ns⟩
end Lw
namespace Lw
open PySem PySem.Spec L2 Sm
theorem all_mk {l:PySem.W.OpenLaw} {w:aK} {K:PySem.W.Frag} {h:Heap} {mg:Str->Option aB} {fa f1 f2 f3 f4 f5 f6 f7 f8 f9 N2 f11 R7 R5 H7 M6 R1 P8 N0 S6 T9 G0 T0 f23 S7 T3 f26 S0 f28 L1 S9 f31 f32 M9 f34 f35 H6 H9 I3 I1 R4 M4 S2 S8 S3 R3 P4 I2 M3 f49 N5 r5:aA} (X:K.In h) (G:h.Ns aR mg) (P1:mg "law" = some (.ref fa))
  {B3 o8:Option aA} {z4:Array (Option aB)} {x0 o6 o5 o7 l1 o4:aB}
  {g0 e0 d4:aA}
  {d9:Tok}
  {a6:Tok}
  {i1 B I g7 i2 g8 i3 i0 z g6 c5 c4 c1 c8 c7:aA} {B7 y5 B6:ClassData}
  (v7:PySem.W.nsIn K aR "law" = some (some (.ref r5)))
  (S1:K.lookup r5=some ⟨x0,B3,.func (PySem.W.fnOf "law" "law" (Vi Q21) (Yj Q21) (Qf Q21) .none o6 o5 o7 o8 l1 o4),z4⟩)
  (R6:PySem.W.codeIn K l1 "law" = true)
  (S4:PySem.W.keepIn K (.ref r5)=true)
  (p5:PySem.W.nsIn K aR "all" = some none)
  (s6:PySem.W.nsIn K aR "any" = some none)
  (n3:PySem.W.nsIn K aR "bool" = some none)
  (p3:PySem.W.nsIn K aR "int" = some none)
  (e5:PySem.W.nsIn K aR "isinstance" = some none)
  (p4:PySem.W.nsIn K aR "len" = some none)
  (p1:PySem.W.nsIn K aR "max" = some none)
  (q7:PySem.W.nsIn K aR "min" = some none)
  (l2:PySem.W.nsIn K aR "range" = some none)
  (k7:PySem.W.nsIn K aR "sorted" = some none)
  (p9:PySem.W.nsIn K aR "sum" = some none)
  (l3:PySem.W.nsIn K aR "tuple" = some none)
  (r1:PySem.W.nsIn K aR "zip" = some none)
  (d3:PySem.W.nsIn K aR "MOST_HOUSES" = some (some (.int 8 d9)))
  (a7:PySem.W.nsIn K aR "MOST_HOUSES_OF_BOOK" = some (some (.int 9 a6)))
  (l0:PySem.W.nsIn K aR "NoBook" = some (some (.ref g0)))
  (i6:PySem.W.nsIn K aR "NoHouse" = some (some (.ref e0)))
  (k4:PySem.W.nsIn K aR "NoTable" = some (some (.ref d4)))
  (W2:PySem.W.nsIn K aR "WharfError" = some (some (.ref i1)))
  (P2:PySem.W.nsIn K aR "NoTable" = some (some (.ref B)))
  (nn2:PySem.W.nsIn K aR "NoHouse" = some (some (.ref I)))
  (N1:PySem.W.nsIn K aR "NoDeed" = some (some (.ref g7)))
  (I5:PySem.W.nsIn K aR "NoLetter" = some (some (.ref i2)))
  (R0:PySem.W.nsIn K aR "NoStand" = some (some (.ref g8)))
  (I7:PySem.W.nsIn K aR "NoRoad" = some (some (.ref i3)))
  (P5:PySem.W.nsIn K aR "NoPlan" = some (some (.ref i0)))
  (M8:PySem.W.nsIn K aR "NoBook" = some (some (.ref z)))
  (I8:PySem.W.nsIn K aR "NoManner" = some (some (.ref g6)))
  (u9:PySem.W.nsIn K aR "TooMany" = some (some (.ref c5)))
  (u1:PySem.W.nsIn K aR "NoText" = some (some (.ref c4)))
  (C3:PySem.W.nsIn K aR "NoRow" = some (some (.ref c1)))
  (C7:PySem.W.nsIn K aR "NoName" = some (some (.ref c8)))
  (x5:PySem.W.nsIn K aR "Short" = some (some (.ref c7)))
  (e7:PySem.W.nsIn K aR "ValueError" = some none)
  (e6:PySem.W.nsIn K aR "isinstance" = some none)
  (r8:PySem.W.specialIn K (.builtin "object.__class__") "__get__" = some (some (.builtin "getset_descriptor.__get__")))
  (t0:PySem.W.takesIn K (.builtin "object.__class__")=some true)
  (r3:PySem.W.clsIn K z=some B7)
  (v4:PySem.W.findIn K (.ref z) "__getattribute__" = some (some (.builtin "BaseException.__getattribute__")))
  (u5:PySem.W.findIn K (.ref z) "__getattr__" = some none)
  (t5:PySem.W.findIn K (.ref z) "__class__" = some (some (.builtin "object.__class__")))
  (t8:PySem.W.mroIn K z (.type "object")=some true)
  (w4:PySem.W.mroIn K z (.type "BaseException")=some true)
  (q6:PySem.W.clsIn K B=some y5)
  (z2:PySem.W.findIn K (.ref B) "__getattribute__" = some (some (.builtin "BaseException.__getattribute__")))
  (x2:PySem.W.findIn K (.ref B) "__getattr__" = some none)
  (w1:PySem.W.findIn K (.ref B) "__class__" = some (some (.builtin "object.__class__")))
  (t6:PySem.W.mroIn K B (.type "object")=some true)
  (A0:PySem.W.mroIn K B (.type "BaseException")=some true)
  (t1:PySem.W.clsIn K I=some B6)
  (B1:PySem.W.findIn K (.ref I) "__getattribute__" = some (some (.builtin "BaseException.__getattribute__")))
  (z3:PySem.W.findIn K (.ref I) "__getattr__" = some none)
  (C1:PySem.W.findIn K (.ref I) "__class__" = some (some (.builtin "object.__class__")))
  (C6:PySem.W.mroIn K I (.type "object")=some true)
  (u6:PySem.W.mroIn K I (.type "BaseException")=some true)
  (h1:FA K "is_whole" Q14 f1)
  (h2:FA K "is_between" zw f2)
  (h3:FA K "is_rising" xg f3)
  (h4:FA K "is_sized_tuple" Xs f4)
  (h5:FA K "is_row" Q57 f5)
  (h6:FA K "is_table" Q15 f6)
  (h7:FA K "is_house" Q16 f7)
  (h8:FA K "rights" Q55 f8)
  (h9:FA K "raised" Q56 f9)
  (P0:FA K "made_some" xf N2)
  (h11:FA K "lent_or_used_some" Vv f11)
  (T4:FA K "was_lent_some" Kr R7)
  (G4:FA K "has_root" Q18 R5)
  (N7:FA K "rooted_houses" Ks H7)
  (I6:FA K "rootless_houses" Uv M6)
  (M0:FA K "comes_about" je R1)
  (I9:FA K "does_come_about" Uw P8)
  (H8:FA K "need_comes_about" Ug N0)
  (h19:FA K "are_houses" zx S6)
  (N6:FA K "is_pool" Q30 T9)
  (G2:FA K "need_pool" x8 G0)
  (P7:FA K "rights_of_pool" Xr T0)
  (P6:FA K "poorest_world" Kt f23)
  (R9:FA K "may_use" Q2z S7)
  (G6:FA K "are_rising_houses" Vw T3)
  (E1:FA K "is_group" Q17 f26)
  (P9:FA K "are_sets" Q19 S0)
  (L3:FA K "is_book" Q31 f28)
  (I4:FA K "need_book" xb L1)
  (G1:FA K "need_gone" x9 S9)
  (N3:FA K "need_pool_of_book" Vu f31)
  (R8:FA K "meets" Q9j f32)
  (H3:FA K "set_without" jd M9)
  (N8:FA K "unmet_set" yz f34)
  (M5:FA K "need_book_of_table" V0 f35)
  (h36:FA K "need_heirs" zu H6)
  (T7:FA K "heirs_may" xh H9)
  (G3:FA K "_law_e_stirred" Xt I3)
  (G5:FA K "_law_e_digit" qm I1)
  (M7:FA K "_law_e_subset" Ku R4)
  (N4:FA K "_law_e_sized" qj M4)
  (h42:FA K "_law_e_book" ji S2)
  (H5:FA K "_law_e_held" jh S8)
  (h44:FA K "_law_e_table" qi S3)
  (L0:FA K "_law_e_comes" qp R3)
  (T5:FA K "_law_e_is_world" Ux P4)
  (S5:FA K "_law_e_right" qk I2)
  (h48:FA K "_law_e_kind" jg M3)
  (L2:FA K "_law_e_word" jf f49)
  (I0:FA K "_law_e_refusals_right" Yz N5)
  (k9:PySem.W.excIn K g0 Q0u "ValueError.__new__" = true)
  (i7:PySem.W.excIn K e0 Q0u "ValueError.__new__" = true)
  (k5:PySem.W.excIn K d4 Q0u "ValueError.__new__" = true)
  (u4:PySem.W.kitOne K (.ref z) (.type "ValueError")=some true)
  (s4:PySem.W.kitOne K (.ref z) (.ref B)=some false)
  (r6:PySem.W.kitOne K (.ref z) (.ref I)=some false)
  (s9:PySem.W.kitOne K (.ref z) (.ref g7)=some false)
  (q0:PySem.W.kitOne K (.ref z) (.ref i2)=some false)
  (o9:PySem.W.kitOne K (.ref z) (.ref g8)=some false)
  (s7:PySem.W.kitOne K (.ref z) (.ref i3)=some false)
  (r2:PySem.W.kitOne K (.ref z) (.ref i0)=some false)
  (q4:PySem.W.kitOne K (.ref z) (.ref z)=some true)
  (q9:PySem.W.kitOne K (.ref z) (.ref g6)=some false)
  (l9:PySem.W.kitOne K (.ref z) (.ref c5)=some false)
  (o1:PySem.W.kitOne K (.ref z) (.ref c4)=some false)
  (l5:PySem.W.kitOne K (.ref z) (.ref c1)=some false)
  (o0:PySem.W.kitOne K (.ref z) (.ref c8)=some false)
  (o3:PySem.W.kitOne K (.ref z) (.ref c7)=some false)
  (t9:PySem.W.kitOne K (.ref B) (.type "ValueError")=some true)
  (t4:PySem.W.kitOne K (.ref B) (.ref B)=some true)
  (p6:PySem.W.kitOne K (.ref B) (.ref I)=some false)
  (s3:PySem.W.kitOne K (.ref B) (.ref g7)=some false)
  (p7:PySem.W.kitOne K (.ref B) (.ref i2)=some false)
  (q5:PySem.W.kitOne K (.ref B) (.ref g8)=some false)
  (r4:PySem.W.kitOne K (.ref B) (.ref i3)=some false)
  (s2:PySem.W.kitOne K (.ref B) (.ref i0)=some false)
  (p0:PySem.W.kitOne K (.ref B) (.ref z)=some false)
  (s8:PySem.W.kitOne K (.ref B) (.ref g6)=some false)
  (n7:PySem.W.kitOne K (.ref B) (.ref c5)=some false)
  (n6:PySem.W.kitOne K (.ref B) (.ref c4)=some false)
  (o2:PySem.W.kitOne K (.ref B) (.ref c1)=some false)
  (l6:PySem.W.kitOne K (.ref B) (.ref c8)=some false)
  (n4:PySem.W.kitOne K (.ref B) (.ref c7)=some false)
  (z0:PySem.W.kitOne K (.ref I) (.type "ValueError")=some true)
  (s0:PySem.W.kitOne K (.ref I) (.ref B)=some false)
  (p8:PySem.W.kitOne K (.ref I) (.ref I)=some true)
  (r9:PySem.W.kitOne K (.ref I) (.ref g7)=some false)
  (s5:PySem.W.kitOne K (.ref I) (.ref i2)=some false)
  (s1:PySem.W.kitOne K (.ref I) (.ref g8)=some false)
  (r7:PySem.W.kitOne K (.ref I) (.ref i3)=some false)
  (t2:PySem.W.kitOne K (.ref I) (.ref i0)=some false)
  (q8:PySem.W.kitOne K (.ref I) (.ref z)=some false)
  (r0:PySem.W.kitOne K (.ref I) (.ref g6)=some false)
  (n5:PySem.W.kitOne K (.ref I) (.ref c5)=some false)
  (n0:PySem.W.kitOne K (.ref I) (.ref c4)=some false)
  (l8:PySem.W.kitOne K (.ref I) (.ref c1)=some false)
  (l7:PySem.W.kitOne K (.ref I) (.ref c8)=some false)
  (n2:PySem.W.kitOne K (.ref I) (.ref c7)=some false)
  (w9:PySem.W.exmOne K (.ref z) (.ref i1)=some true)
  (B8:PySem.W.exmOne K (.ref B) (.ref i1)=some true)
  (v6:PySem.W.exmOne K (.ref I) (.ref i1)=some true)
  (hL:noL K=true) :
  ∃ fd:aM,(∀ (s:aC) (v:aB),BindsTo s fd ⟨[v],[]⟩ [("script",v)])/\∀ base:Heap,K.In base->base.Ns aR mg->FnOk l.prog w K mg base (CXD l.prog w) 13 fa fd ["script"] (Q9a K):=by
 have e:=P1.symm.trans (PySem.W.mg_of X G v7);cases e;have T:Txt mg:=⟨PySem.W.mg_none_of X G p5,PySem.W.mg_none_of X G s6,PySem.W.mg_none_of X G n3,PySem.W.mg_none_of X G p3,PySem.W.mg_none_of X G e5,PySem.W.mg_none_of X G p4,PySem.W.mg_none_of X G p1,PySem.W.mg_none_of X G q7,PySem.W.mg_none_of X G l2,PySem.W.mg_none_of X G k7,PySem.W.mg_none_of X G p9,PySem.W.mg_none_of X G l3,PySem.W.mg_none_of X G r1,⟨_,PySem.W.mg_of X G d3⟩,⟨_,PySem.W.mg_of X G a7⟩⟩;have f0:∃ C,mg "NoBook" = some (.ref C)/\PySem.W.excIn K C Q0u "ValueError.__new__" = true:=⟨_,PySem.W.mg_of X G l0,k9⟩;have Z:∃ C,mg "NoHouse" = some (.ref C)/\PySem.W.excIn K C Q0u "ValueError.__new__" = true:=⟨_,PySem.W.mg_of X G i6,i7⟩;have i8:∃ C,mg "NoTable" = some (.ref C)/\PySem.W.excIn K C Q0u "ValueError.__new__" = true:=⟨_,PySem.W.mg_of X G k4,k5⟩
 have Nm:Nms mg (fun i=>[i1,B,I,g7,i2,g8,i3,i0,z,g6,c5,c4,c1,c8,c7].getD i 0):=⟨PySem.W.mg_of X G W2,PySem.W.mg_of X G P2,PySem.W.mg_of X G nn2,PySem.W.mg_of X G N1,PySem.W.mg_of X G I5,PySem.W.mg_of X G R0,PySem.W.mg_of X G I7,PySem.W.mg_of X G P5,PySem.W.mg_of X G M8,PySem.W.mg_of X G I8,PySem.W.mg_of X G u9,PySem.W.mg_of X G u1,PySem.W.mg_of X G C3,PySem.W.mg_of X G C7,PySem.W.mg_of X G x5,PySem.W.mg_none_of X G e7,PySem.W.mg_none_of X G e6⟩;have N9:XCls K z:=⟨show (PySem.W.clsIn K z).isSome=true by rw [r3]; rfl,v4,u5,t5,r8,t0,t8,w4⟩;have T8:TgtS K (fun i=>[i1,B,I,g7,i2,g8,i3,i0,z,g6,c5,c4,c1,c8,c7].getD i 0) 8:=⟨N9,u4,w9,fun i h1 h2=>match i,h1,h2 with | 0,h,_=>absurd h (by omega) | 1,_,_=>s4 | 2,_,_=>r6 | 3,_,_=>s9 | 4,_,_=>q0 | 5,_,_=>o9 | 6,_,_=>s7 | 7,_,_=>r2 | 8,_,_=>q4 | 9,_,_=>q9 | 10,_,_=>l9 | 11,_,_=>o1 | 12,_,_=>l5 | 13,_,_=>o0 | 14,_,_=>o3 | _ + 15,_,h=>absurd h (by omega)⟩
 have T6:XCls K B:=⟨show (PySem.W.clsIn K B).isSome=true by rw [q6]; rfl,z2,x2,w1,r8,t0,t6,A0⟩;have T1:TgtS K (fun i=>[i1,B,I,g7,i2,g8,i3,i0,z,g6,c5,c4,c1,c8,c7].getD i 0) 1:=⟨T6,t9,B8,fun i h1 h2=>match i,h1,h2 with | 0,h,_=>absurd h (by omega) | 1,_,_=>t4 | 2,_,_=>p6 | 3,_,_=>s3 | 4,_,_=>p7 | 5,_,_=>q5 | 6,_,_=>r4 | 7,_,_=>s2 | 8,_,_=>p0 | 9,_,_=>s8 | 10,_,_=>n7 | 11,_,_=>n6 | 12,_,_=>o2 | 13,_,_=>l6 | 14,_,_=>n4 | _ + 15,_,h=>absurd h (by omega)⟩;have H4:XCls K I:=⟨show (PySem.W.clsIn K I).isSome=true by rw [t1]; rfl,B1,z3,C1,r8,t0,C6,u6⟩;have T2:TgtS K (fun i=>[i1,B,I,g7,i2,g8,i3,i0,z,g6,c5,c4,c1,c8,c7].getD i 0) 2:=⟨H4,z0,v6,fun i h1 h2=>match i,h1,h2 with | 0,h,_=>absurd h (by omega) | 1,_,_=>s0 | 2,_,_=>p8 | 3,_,_=>r9 | 4,_,_=>s5 | 5,_,_=>s1 | 6,_,_=>r7 | 7,_,_=>t2 | 8,_,_=>q8 | 9,_,_=>r0 | 10,_,_=>n5 | 11,_,_=>n0 | 12,_,_=>l8 | 13,_,_=>l7 | 14,_,_=>n2 | _ + 15,_,h=>absurd h (by omega)⟩
 obtain ⟨_,A1⟩:=Y5 ["thing"] X G h1;obtain ⟨_,A2⟩:=Y5 ["thing", "least", "most"] X G h2;obtain ⟨_,A3⟩:=Y5 ["things"] X G h3;obtain ⟨_,A4⟩:=Y5 ["thing", "least", "most"] X G h4;obtain ⟨_,A5⟩:=Y5 ["thing", "n"] X G h5;obtain ⟨_,A6⟩:=Y5 ["thing"] X G h6;obtain ⟨_,A7⟩:=Y5 ["table", "thing"] X G h7;obtain ⟨_,A8⟩:=Y5 ["table", "house"] X G h8;obtain ⟨_,A9⟩:=Y5 ["table", "house", "place", "k"] X G h9;obtain ⟨_,u3⟩:=Y5 ["table", "house"] X G P0;obtain ⟨_,z7⟩:=Y5 ["table", "house"] X G h11;obtain ⟨_,z6⟩:=Y5 ["table", "house", "lenders"] X G T4;obtain ⟨_,C2⟩:=Y5 ["table", "house", "ahead"] X G G4;obtain ⟨_,v0⟩:=Y5 ["table"] X G N7;obtain ⟨_,w3⟩:=Y5 ["table"] X G I6;obtain ⟨_,v8⟩:=Y5 ["table"] X G M0;obtain ⟨_,C0⟩:=Y5 ["thing"] X G I9;obtain ⟨_,x3⟩:=Y5 ["thing"] X G H8;obtain ⟨_,u0⟩:=Y5 ["table", "houses"] X G h19;obtain ⟨_,w5⟩:=Y5 ["table", "thing"] X G N6;obtain ⟨_,C9⟩:=Y5 ["table", "pool"] X G G2
 obtain ⟨_,v5⟩:=Y5 ["table", "pool"] X G P7;obtain ⟨_,z1⟩:=Y5 ["table", "pool"] X G P6;obtain ⟨_,w7⟩:=Y5 ["table", "pool", "k"] X G R9;obtain ⟨_,x1⟩:=Y5 ["n", "thing"] X G G6;obtain ⟨_,u8⟩:=Y5 ["n", "thing"] X G E1;obtain ⟨_,B5⟩:=Y5 ["n", "thing"] X G P9;obtain ⟨_,v2⟩:=Y5 ["thing"] X G L3;obtain ⟨_,v3⟩:=Y5 ["book"] X G I4;obtain ⟨_,t7⟩:=Y5 ["book", "gone"] X G G1;obtain ⟨_,C8⟩:=Y5 ["book", "pool"] X G N3;obtain ⟨_,B2⟩:=Y5 ["houses", "one"] X G R8;obtain ⟨_,B9⟩:=Y5 ["book", "houses"] X G H3;obtain ⟨_,C4⟩:=Y5 ["book", "pool"] X G N8;obtain ⟨_,u2⟩:=Y5 ["book", "table"] X G M5;obtain ⟨_,w8⟩:=Y5 ["book", "pool", "gone"] X G h36;obtain ⟨_,y7⟩:=Y5 ["book", "table", "pool", "gone", "k"] X G T7;obtain ⟨_,w0⟩:=Y5 ["cell", "place"] X G G3;obtain ⟨_,v9⟩:=Y5 ["tape", "many"] X G G5;obtain ⟨_,w2⟩:=Y5 ["tape", "n"] X G M7;obtain ⟨_,x4⟩:=Y5 ["n", "many"] X G N4;obtain ⟨_,w6⟩:=Y5 ["tape", "most"] X G h42
 obtain ⟨_,u7⟩:=Y5 ["table", "house"] X G H5;obtain ⟨_,z5⟩:=Y5 ["tape", "n"] X G h44;obtain ⟨_,B0⟩:=Y5 ["table"] X G L0;obtain ⟨_,v1⟩:=Y5 ["table", "some", "world"] X G T5;obtain ⟨_,x7⟩:=Y5 ["book", "table", "both", "amount", "unmet", "found"] X G S5;obtain ⟨_,x6⟩:=Y5 ["caught"] X G h48;obtain ⟨_,C5⟩:=Y5 ["book", "table", "pool", "gone"] X G L2;obtain ⟨_,B4⟩:=Y5 ["book", "table", "pool", "gone"] X G I0;have P3:=Qtw (st:=Q21) (ps:=["script"]) X G v7 S1 R6 S4 fun _ _ _ _ _ _ us hl=>match us,hl with | [_],_=>rfl
 refine ⟨PySem.W.fnOf "law" "law" (Vi Q21) (Yj Q21) (Qf Q21) .none o6 o5 o7 o8 l1 o4,fun s v=>.of_eq rfl,fun base kb nb=>?_⟩;have c2:=A1.d l.prog w base rfl (Qbw A1.F T    );have a1:=A2.d l.prog w base rfl (Q7f A2.F T   c2 );have a8:=A3.d l.prog w base rfl (Qa3 A3.F T    );have b7:=A4.d l.prog w base rfl (Q25 A4.F T    );have k8:=A5.d l.prog w base rfl (Qgt A5.F T   c2 );have h0:=A6.d l.prog w base rfl (Qbx A6.F T   k8 );have c3:=A7.d l.prog w base rfl (Qby A7.F T   a1 );have b9:=A8.d l.prog w base rfl (Qgr A8.F T  Z c3 );have k6:=A9.d l.prog w base rfl (Qgs A9.F T    );have g3:=u3.d l.prog w base rfl (Qa2 u3.F T    );have b0:=z7.d l.prog w base rfl (xt z7.F T    );have c0:=z6.d l.prog w base rfl (Q35 z6.F T    )
 have g9:=C2.d l.prog w base rfl (Qc0 C2.F T   g3 c0 );have a3:=v0.d l.prog w base rfl (Q36 v0.F T   g9 );have b2:=w3.d l.prog w base rfl (Q1d w3.F T   a3 b0 );have e4:=v8.d l.prog w base rfl (Q5j v8.F T   b9 b2 a3 );have b3:=C0.d l.prog w base rfl (Q1e C0.F T   h0 e4 );have Y:=x3.d l.prog w base rfl (Q0q x3.F T  i8 b3 );have e8:=u0.d l.prog w base rfl (Q7g u0.F T   c3 );have k0:=w5.d l.prog w base rfl (Qdx w5.F T   e8 a8 );have g1:=C9.d l.prog w base rfl (Q9z C9.F T  Z Y k0 );have b6:=v5.d l.prog w base rfl (Q24 v5.F T   b9 );have b8:=z1.d l.prog w base rfl (Q37 z1.F T   k6 b9 )
 have i9:=w7.d l.prog w base rfl (Qdw w7.F T   g1 b6 b8 );have U:=x1.d l.prog w base rfl (xu x1.F T   a1 a8 );have c6:=u8.d l.prog w base rfl (Qbz u8.F T   U );have i4:=B5.d l.prog w base rfl (Qc1 B5.F T   c6 a8 );have i5:=v2.d l.prog w base rfl (Qdy v2.F T   b7 a1 i4 );have a5:=v3.d l.prog w base rfl (Qa1 v3.F T  f0 i5 );have g4:=t7.d l.prog w base rfl (Qa0 t7.F T  Z a5 U );have O:=C8.d l.prog w base rfl (xr C8.F T  Z a5 c6 );have l4:=B2.d l.prog w base rfl (Qju B2.F T    );have d6:=B9.d l.prog w base rfl (Q5i B9.F T   l4 );have g5:=C4.d l.prog w base rfl (Q9y C4.F T   O d6 )
 have a9:=u2.d l.prog w base rfl (yr u2.F T  f0 a5 );have e9:=w8.d l.prog w base rfl (Q7e w8.F T  Z O g4 );have b4:=y7.d l.prog w base rfl (Qa4 y7.F T   a9 Y e9 g5 i9 );have b5:=w0.d l.prog w base rfl (Q26 w0.F T    );have J:=v9.d l.prog w base rfl (Q49 v9.F T   b5 );have a4:=w2.d l.prog w base rfl (Q38 w2.F T   J );have d0:=x4.d l.prog w base rfl (Q47 x4.F T    );have d8:=w6.d l.prog w base rfl (Q5p w6.F T   J d0 a4 );have j:=u7.d l.prog w base rfl (Q5n u7.F T    );have d2:=z5.d l.prog w base rfl (Q46 z5.F T   J j );have c9:=B0.d l.prog w base rfl (Q4a B0.F T   j )
 have b1:=v1.d l.prog w base rfl (Q1f v1.F T   c9 );have d1:=x7.d l.prog w base rfl (Q48 x7.F T   j b1 );have d7:=x6.defX (P:=l.prog) (w:=w) (base:=base) (Q5m x6.F T Nm T8 T1 T2   );have d5:=C5.d l.prog w base rfl (Q5k C5.F T Nm T8 T1 T2  b4 d7 );have a2:=B4.d l.prog w base rfl (jj B4.F T   j d5 );exact Qps hL (Qsm P3.F T   d8 J d2 a4 j b4 d1 a2 ) Qpt
end Lw
theorem PySem.W.Fast.tw4238777186491996122 : True := trivial
theorem PySem.W.Fast.tw16999991926815404064 : True := trivial
theorem PySem.W.Fast.tw40487972214219332 : True := trivial
theorem PySem.W.Fast.tw2095564314121474551 : True := trivial
theorem PySem.W.Fast.tw979801444504076590 : True := trivial
theorem PySem.W.Fast.tw2431484020563976926 : True := trivial
theorem PySem.W.Fast.tw6037129156947578847 : True := trivial
theorem PySem.W.Fast.tw13633257257685734126 : True := trivial
theorem PySem.W.Fast.tw7096291305175627633 : True := trivial
theorem PySem.W.Fast.tw11220969799902303558 : True := trivial
theorem PySem.W.Fast.tw2869920974670456820 : True := trivial
theorem PySem.W.Fast.tw8238951980187294353 : True := trivial
theorem PySem.W.Fast.tw8681806142405887075 : True := trivial
theorem PySem.W.Fast.tw14927810162885117177 : True := trivial
theorem PySem.W.Fast.tw14449237441563008006 : True := trivial
theorem PySem.W.Fast.tw5707631042662942681 : True := trivial
theorem PySem.W.Fast.tw16984160168254633608 : True := trivial
theorem PySem.W.Fast.tw8688066625966443677 : True := trivial
theorem PySem.W.Fast.tw7572163566266233479 : True := trivial
theorem PySem.W.Fast.tw17900740001123145001 : True := trivial
theorem PySem.W.Fast.te4478649530341599699 : True := trivial
open PySem PySem.W PyProof.Rows Sm
set_option maxRecDepth 100000 in
set_option maxHeartbeats 0 in
theorem PySem.Challenge.cw_lendwharf_k58_whole_heirs_holds : PySem.Challenge.rw_lendwharf_k58_whole_heirs.Holds := by
 w_on; o_law; k_head; (case hw=>w_witness2)
 k_fill
 refine Sm.walkS (l:=PySem.Challenge.rw_lendwharf_k58_whole_heirs) (k:=13) rfl ⟨rfl,by decide,by decide⟩ rfl (fun w h Y=>PySem.W.kIn_of Y) ?F
 case F=>
  intro w mg fa h KX G hmg;refine' Lw.all_mk KX G hmg ..
  any_goals k_is
  any_goals exact FA.mk (by k_is) (by k_is) (by k_is) (by k_is)
  any_goals k_exc
  all_goals first | kts_exm | kit_is | rfl | decide
