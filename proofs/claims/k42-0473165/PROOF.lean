import PyProof.Rows.All
import Wide.All
import OpenK.AllK
import Wide.FinOn
import Lean
import PyProof.EqAt
import PyProof.EqKinds
import PyProof.TupleCall
import PyProof.ZipIter
import PyProof.Draws
import PyProof.SumAny
import PyProof.EnumMake
import PyProof.WalkInts
import PyProof.ExcArgsOwn
import PyProof.ExcAttrAll.ValueError
import PyProof.NsDelKeeps
import KE.KTryMore
import OpenK.KOwn
import PyProof.ListMulRoad
import PyProof.FactsAll.tuple_2
import PyProof.NeKinds
import PyProof.Rows.RuleIs
import PyProof.ExcInit
import PyProof.ExcClass3
import OpenK.KCls
import PyProof.InstStoreFacts
import OpenK.KMake
import PyProof.DictRoads
import PyProof.Rows.CountFlat
import PyProof.ListRange
import PyProof.Rows.SetFrom
import PyProof.CollectStr
import PyProof.Rows.TupMore
import PyProof.AttrMissHeap
import KE.KDictOf
import PyProof.DictWalks
import KE.KSortTup
import PyProof.DictItemsLoops
import KE.KDictList
import PyProof.CallStr
import PySem.Challenge.RW_lendwharf_k42_moves_looked_at
set_option Elab.async false
set_option linter.all false
set_option maxRecDepth 100000
set_option maxHeartbeats 4000000
open List renaming getElem?_eq_some_iff -> O0, getElem?_eq_getElem -> O2, length_map -> O3, size_toArray -> O4, getElem?_append_left -> O5, map_cons -> O6, mem_cons_of_mem -> O7, length_append -> D0, mem_cons -> D3, getElem?_append_right -> D5, getElem?_map -> D6, getElem?_set_self -> D7, getElem?_set_ne -> D8, mem_cons_self -> D9, length_cons -> E1, mem_of_getElem? -> E2, mem_append -> E3, map_append -> E5, mem_append_right -> E6, all_eq_true -> E9, find?_cons -> F1, mem_singleton -> F3, getD_eq_getElem?_getD -> F4, length_take -> F7, length_range -> F8, length_set -> F9, map_map -> G6, length_nil -> G7, mem_append_left -> G9, pairwise_cons -> L0, append_nil -> L1, length_drop -> L3
open PySem.Heap renaming get?_push_of_some -> O1, lt_size -> O8, get?_push_size -> I0, size_push -> E4, get?_update_other -> F6
open Nat renaming le_refl -> O9, lt_of_lt_of_le -> D1, ne_of_lt -> D4, le_trans -> E7
open Bool renaming false_ne_true -> D2, false_and -> E8, true_and -> F5, and_eq_true -> G8
open PySem renaming Value -> aA, Addr -> aB, Shared -> aC, wpAny_bind -> aD, wpAny -> aF, Expr -> aH, model -> aI, wpAny_pure -> aJ, World -> aK, Program -> aL, Around -> aM, eval -> aN, starEach -> aO, Stmt -> aP, mainGlobals -> aQ, FuncData -> aR, rawInt -> aS, compareOp -> aU, SetTable -> aV, cLine -> aW, valueAt -> aX, bootBuiltins -> aY, binaryOp -> aZ, Paired -> aa, IsPair -> ac, backTo -> ad, wpAny_field -> ae, pyNext -> af, cellsFrom -> ag, sysModules -> ah, holding -> ai, wpAny_holding -> aj, wpAny_call_entry -> ak, NameKind -> al, wpAny_newObj_type -> ao, wpAny_mono -> aq, assignEach -> au, wpAny_setField_rec -> aw, scanBound -> ay, wpAny_seqItems -> az, wpAny_truthy_bool -> bA, call_meets -> bB, wpAny_rule -> bC, codeAny_builtin -> bD, isSubtype_type -> bE, sliceBounds -> bF, foldedSetIterable -> bG, codeAny_mono -> bH, wpAny_typeOf -> bI, plainId_quiet -> bJ, wpAny_pyIter_tuple -> bK, behindInMarks -> bL, attributeBase -> bM, wpAny_isInstance -> bN, wpAny_passesOwn -> bO, wpAny_ite_split -> bP, tupleKind_room_in1 -> bQ, raiseNew -> bR
noncomputable section
theorem bS {c:Prop}{h:Decidable c}(hc:c){α:Sort _}{t e:α}:ite c t e=t:=if_pos hc
theorem bT {c:Prop}{h:Decidable c}(hc:¬c){α:Sort _}{t e:α}:ite c t e=e:=if_neg hc
theorem bU {p:Prop}[i:Decidable p](h:¬p):decide p=false:=decide_eq_false h
theorem bV {p:Prop}[i:Decidable p](h:p):decide p=true:=decide_eq_true h
namespace L2
open PySem PySem.Spec PyProof.Rows
abbrev Key:=Sum Int Str
def Q4c:Key->aA->Bool
 | .inl k,v=>Value.isInt k v
 | .inr x,v=>Value.isStrOf x v
def Qsi (w:aK):Key->Int
 | .inl k=>hashInt k
 | .inr x=>hashStr w x
theorem Yd:∀ {k:Key} {v:aA},Q4c k v=true->(∃ i t,k=Sum.inl i/\v=Value.int i t)\/(∃ x t,k=Sum.inr x/\v=Value.str x t)
 | .inl i,v,h=>by
  obtain ⟨t,e⟩:=Value.isInt_shape (k:=i) (v:=v) h;exact .inl ⟨i,t,rfl,e⟩
 | .inr x,v,h=>by
  obtain ⟨t,e⟩:=Value.isStrOf_shape (x:=x) (v:=v) h;exact .inr ⟨x,t,rfl,e⟩
theorem Qbm (i:Int) (t:Tok):Q4c (.inl i) (.int i t)=true:=by simp [Q4c,Value.isInt]
theorem Qbk (x:Str) (t:Tok):Q4c (.inr x) (.str x t)=true:=by simp [Q4c,Value.isStrOf]
theorem Qkh (a b:Int):decide ((Sum.inl a:Key)=Sum.inl b)=(a == b):=by
 by_cases e:a=b
 ·subst e; simp
 ·have h:¬ (Sum.inl a:Key)=Sum.inl b:=fun q=>e (Sum.inl.inj q)
  rw [bU h];exact (beq_eq_false_iff_ne.mpr e).symm
theorem Qke (a b:Str):decide ((Sum.inr a:Key)=Sum.inr b)=decide (a=b):=by
 by_cases e:a=b
 ·subst e; simp
 ·have h:¬ (Sum.inr a:Key)=Sum.inr b:=fun q=>e (Sum.inr.inj q)
  rw [bU h,bU e]
theorem Qkg (a:Int) (b:Str):decide ((Sum.inl a:Key)=Sum.inr b)=false:=bU (fun q=>nomatch q)
theorem Qkf (a:Str) (b:Int):decide ((Sum.inr a:Key)=Sum.inl b)=false:=bU (fun q=>nomatch q)
def Z4 (prog:aL) (w:aK):PySem.KeyKind prog w Key where
 is:=Q4c
 hash:=Qsi w
 inj:=fun v a b ha hb=>by
  rcases Yd ha with ⟨i,t,rfl,rfl⟩ | ⟨x,t,rfl,rfl⟩
  ·rcases Yd hb with ⟨j,u,rfl,e⟩ | ⟨y,u,rfl,e⟩
   ·injection e with e1 _; rw [e1]
   ·exact nomatch e
  ·rcases Yd hb with ⟨j,u,rfl,e⟩ | ⟨y,u,rfl,e⟩
   ·exact nomatch e
   ·injection e with e1 _; rw [e1]
 byValue:=fun k v h=>by
  rcases Yd h with ⟨i,t,rfl,rfl⟩ | ⟨x,t,rfl,rfl⟩ <;> rfl
 pyHash:=fun hv h=>by
  rcases Yd hv with ⟨i,t,rfl,rfl⟩ | ⟨x,t,rfl,rfl⟩
  ·exact wpAny_pyHash_int h
  ·exact wpAny_pyHash_str h
 eqBool:=fun hu hv h=>by
  rcases Yd hu with ⟨i,t,rfl,rfl⟩ | ⟨x,t,rfl,rfl⟩
  ·rcases Yd hv with ⟨j,u,rfl,rfl⟩ | ⟨y,u,rfl,rfl⟩
   ·rw [Qkh] at h; exact wpAny_eqBool_int h
   ·rw [Qkg] at h; exact SeqAt.EqAt.int_str i t y u _ _ _ _ h
  ·rcases Yd hv with ⟨j,u,rfl,rfl⟩ | ⟨y,u,rfl,rfl⟩
   ·rw [Qkf] at h; exact SeqAt.EqAt.str_int x t j u _ _ _ _ h
   ·rw [Qke] at h; exact wpAny_eqBool_str h
 «strs»:=fun k x t v h=>by
  rcases Yd h with ⟨i,u,rfl,e⟩ | ⟨y,u,rfl,e⟩
  ·exact nomatch e
  ·injection e with e1 _
   subst e1;cases v <;> rfl
theorem Q77 (prog:aL) (w:aK) (i:Int) (t:Tok):(Z4 prog w).is (.inl i) (.int i t)=true:=Qbm i t
theorem Q76 (prog:aL) (w:aK) (x:Str) (t:Tok):(Z4 prog w).is (.inr x) (.str x t)=true:=Qbk x t
inductive V where
 | non | bl (b:Bool) | int (i:Int) | str (x:Str) | byt (b:Array UInt8) | flt (b:UInt64) | ref (a:aB) | ty (n:String)
 deriving DecidableEq
def RelV:V->aA->Prop
 | .non,u=>u=Value.none
 | .bl b,u=>u=Value.bool b
 | .int i,u=>∃ t,u=Value.int i t
 | .str x,u=>∃ t,u=Value.str x t
 | .byt b,u=>∃ t,u=Value.bytes b t
 | .flt b,u=>∃ t,u=Value.float b t
 | .ref a,u=>u=Value.ref a
 | .ty n,u=>u=Value.type n
abbrev Vals:List V->List aA->Prop:=aa RelV
theorem Vals.length {xs:List V} {us:List aA} (r:Vals xs us):xs.length=us.length:=Paired.length r
theorem Vals.get:∀ {xs:List V} {us:List aA} {i:Nat} {x:V},Vals xs us->xs[i]?=some x->∃ u,us[i]?=some u/\RelV x u
 | _,_,_,_,.nil,e=>by simp at e
 | _,_,0,_,.cons r _,e=>by simp at e; subst e; exact ⟨_,rfl,r⟩
 | _,_,i + 1,x,.cons _ t,e=>by
  obtain ⟨u,h1,h2⟩:=Vals.get (i:=i) (x:=x) t (by simpa using e);exact ⟨u,by simpa using h1,h2⟩
theorem Vals.set {x:V} {u:aA} (r:RelV x u):∀ {xs:List V} {us:List aA} (i:Nat),Vals xs us->Vals (xs.set i x) (us.set i u)
 | _,_,_,.nil=>.nil
 | _,_,0,.cons _ t=>.cons r t
 | _,_,i + 1,.cons q t=>.cons q (Vals.set r i t)
theorem Vals.append:∀ {xs ys:List V} {us ws:List aA},Vals xs us->Vals ys ws->Vals (xs ++ ys) (us ++ ws)
 | _,_,_,_,.nil,s=>s
 | _,_,_,_,.cons r t,s=>.cons r (Vals.append t s)
theorem Vals.take:∀ {xs:List V} {us:List aA} (n:Nat),Vals xs us->Vals (xs.take n) (us.take n)
 | _,_,0,_=>.nil
 | _,_,_ + 1,.nil=>.nil
 | _,_,n + 1,.cons r t=>.cons r (Vals.take n t)
theorem Vals.drop:∀ {xs:List V} {us:List aA} (n:Nat),Vals xs us->Vals (xs.drop n) (us.drop n)
 | _,_,0,r=>r
 | _,_,_ + 1,.nil=>.nil
 | _,_,n + 1,.cons _ t=>Vals.drop n t
def RelO:Option V->Option aA->Prop
 | some v,some u=>RelV v u
 | none,none=>True
 | _,_=>False
def KV {κ:Type}:List (κ × V)->List (κ × aA)->Prop:=aa fun (p:κ × V) (q:κ × aA)=>p.1=q.1/\RelV p.2 q.2
def kV:Key->V
 | .inl i=>.int i
 | .inr x=>.str x
inductive HO where
 | lst (xs:List V)
 | tup (xs:List V)
 | dK (kvs:List (Key × V)) | dT (kvs:List (List Key × V))
 | set (S:Int->Bool) (n:Nat)
 | ins (C dx:aB) (fs:List (Str × V))
 | own (x:aB)
 | xd (fs:List (Str × V))
 | met (f x:aB)
 | rng (lo hi:Int)
 | frz (o:Obj) (u:HO)
 | tbl (ps:Array aA)
 | ext (φ:Heap->Prop)
abbrev Hp:=aB->Option HO
def upd (H:Hp) (a:aB) (o:HO):Hp:=fun b=>if b=a then some o else H b
theorem Jb {H:Hp} {a:aB} {o:HO}:upd H a o a=some o:=by unfold upd; rw [bS rfl]
theorem Qe {H:Hp} {a b:aB} {o:HO} (h:b≠a):upd H a o b=H b:=by unfold upd; rw [bT h]
theorem Qpj {H:Hp} {a b:aB} {o u:HO} (h:H a=some o) (h':H b=some u) (d:o≠u):a≠b:=by
 intro e; subst e; rw [h] at h'; exact d (Option.some.inj h')
theorem Qf {H:Hp} {a b:aB} {o:HO} (h:H a=some o) (h':H b=none):a≠b:=by
 intro e; subst e; rw [h] at h'; cases h'
section
variable (P:aL) (w:aK)
def ObjOk (H:Hp) (h:Heap) (a:aB):HO->Prop
 | .lst xs=>xs.length<=sizeLine/\∃ (its:List aA) (n:Nat),Vals xs its/\h.get? a=some { cls:=.type "list",data:=.seq its.toArray n }
 | .tup xs=>xs.length<=sizeLine/\∃ its:List aA,Vals xs its/\IsTup h a its.toArray
 | .dK kvs=>kvs.length<=sizeLine/\(a == ah)=false/\∃ vs,KV kvs vs/\h.DictOf (Z4 P w) a vs
 | .dT kvs=>kvs.length<=sizeLine/\(a == ah)=false/\∃ xs:List (List Key × aB × aA),
   aa (fun (p:List Key × V) (q:List Key × aB × aA)=>p.1=q.1/\H q.2.1=some (.tup (p.1.map kV))/\RelV p.2 q.2.2) kvs xs /\
   ∃ o es ep,h.get? a=some o/\o.ExactDict/\o.data=.dict es ep/\es.toList=xs.map (entryOfKey (tupleKind (Z4 P w)))/\(xs.map (·.1)).Nodup
 | .set S n=>h.SetOf (intKind P w) a S n
 | .ins C dx fs=>H dx=some (.own a)/\fs.length<=1000/\dx≠a/\h.get? a=some (PySem.W.instObj C dx) /\
   ∃ mA,h.Ns1 dx mA/\(∀ f,RelO (fs.lookup f) (mA f))/\PySem.Within mA (fs.map (·.1))
 | .own _=>∃ o,h.get? a=some o
 | .xd fs=>∃ mA,h.Ns1 a mA/\∀ f,RelO (fs.lookup f) (mA f)
 | .rng lo hi=>∃ t u v,h.get? a=some { cls:=.type "range",data:=.fields #[.int lo t,.int hi u,.int 1 v] }
 | .frz o u=>h.get? a=some o/\ObjOk H h a u
 | .tbl ps=>h.get? a=some { cls:=.none,data:=.fields ps }
 | .met f x=>h.get? a=some (PySem.W.methodObj (.ref f) (.ref x))
 | .ext φ=>φ h/\(∃ o,h.get? a=some o)/\∀ h1 h2:Heap,φ h1->(∀ o,h1.get? a=some o->h2.get? a=some o)->φ h2
def HOk (H:Hp) (h:Heap):Prop:=∀ a o,H a=some o->ObjOk P w H h a o
end
section
variable {P:aL} {w:aK} {H H':Hp} {h h':Heap} {a:aB} {o:HO}
theorem ObjOk.lt (x:ObjOk P w H h a o):a < h.objs.size:=by
 cases o with
 | lst xs=>obtain ⟨_,_,_,_,e⟩:=x; exact O8 e
 | tup xs=>obtain ⟨_,_,_,p⟩:=x; exact p.lt
 | dK kvs=>obtain ⟨_,_,_,_,o,_,_,e,_⟩:=x; exact O8 e
 | dT kvs=>obtain ⟨_,_,_,_,o,_,_,e,_⟩:=x; exact O8 e
 | set S n=>obtain ⟨o,_,_,_,e,_⟩:=x; exact O8 e
 | ins C dx fs=>obtain ⟨_,_,_,e,_⟩:=x; exact O8 e
 | own y=>obtain ⟨_,e⟩:=x; exact O8 e
 | xd fs=>obtain ⟨_,⟨_,_,_,e,_⟩,_⟩:=x; exact O8 e
 | rng lo hi=>obtain ⟨_,_,_,e⟩:=x; exact O8 e
 | frz ob u=>obtain ⟨e,_⟩:=x; exact O8 e
 | tbl ps=>exact O8 (show h.get? a=some _ from x)
 | met f y=>exact O8 (show h.get? a=some _ from x)
 | ext φ=>obtain ⟨_,⟨_,e⟩,_⟩:=x; exact O8 e
theorem Paired.mapP {α β:Type} {F G:α->β->Prop}:∀ {l₁:List α} {l₂:List β},aa F l₁ l₂->(∀ a b,F a b->G a b)->aa G l₁ l₂
 | _,_,.nil,_=>.nil
 | _,_,.cons r t,f=>.cons (f _ _ r) (Paired.mapP t f)
theorem ObjOk.stay (x:ObjOk P w H h a o) (k:∀ b u,(b=a\/H b=some (.own a))->h.get? b=some u->h'.get? b=some u)
  (ho:∀ b,H b=some (.own a)->H' b=some (.own a)) (ht:∀ b xs,H b=some (.tup xs)->H' b=some (.tup xs)):ObjOk P w H' h' a o:=by
 induction o with
 | lst xs=>obtain ⟨z,its,n,r,e⟩:=x; exact ⟨z,its,n,r,k _ _ (.inl rfl) e⟩
 | tup xs=>obtain ⟨z,its,r,ob,e,c⟩:=x; exact ⟨z,its,r,ob,k _ _ (.inl rfl) e,c⟩
 | dK kvs=>obtain ⟨z,y,vs,r,ob,es,ep,e,c⟩:=x; exact ⟨z,y,vs,r,ob,es,ep,k _ _ (.inl rfl) e,c⟩
 | dT kvs=>
  obtain ⟨z,y,xs,r,ob,es,ep,e,c⟩:=x;exact ⟨z,y,xs,Paired.mapP r fun p q z=>⟨z.1,ht _ _ z.2.1,z.2.2⟩,ob,es,ep,k _ _ (.inl rfl) e,c⟩
 | set S n=>obtain ⟨ob,es,ep,t,e,c⟩:=x; exact ⟨ob,es,ep,t,k _ _ (.inl rfl) e,c⟩
 | ins C dx fs=>
  obtain ⟨d,z,ne,e,mA,⟨od,es,ep,e2,c⟩,r⟩:=x;exact ⟨ho _ d,z,ne,k _ _ (.inl rfl) e,mA,⟨od,es,ep,k _ _ (.inr d) e2,c⟩,r⟩
 | own y=>obtain ⟨ob,e⟩:=x; exact ⟨ob,k _ _ (.inl rfl) e⟩
 | xd fs=>obtain ⟨mA,⟨od,es,ep,e,c⟩,r⟩:=x; exact ⟨mA,⟨od,es,ep,k _ _ (.inl rfl) e,c⟩,r⟩
 | rng lo hi=>obtain ⟨t,u,v,e⟩:=x; exact ⟨t,u,v,k _ _ (.inl rfl) e⟩
 | frz ob u ih=>obtain ⟨e,q⟩:=x; exact ⟨k _ _ (.inl rfl) e,ih q⟩
 | tbl ps=>
  have e:h.get? a=some { cls:=.none,data:=.fields ps }:=x;show h'.get? a=some { cls:=.none,data:=.fields ps };exact k a _ (.inl rfl) e
 | met f y=>
  have e:h.get? a=some (PySem.W.methodObj (.ref f) (.ref y)):=x;show h'.get? a=some (PySem.W.methodObj (.ref f) (.ref y));exact k a _ (.inl rfl) e
 | ext φ=>obtain ⟨p,⟨o,e⟩,st⟩:=x; exact ⟨st _ _ p fun o q=>k _ _ (.inl rfl) q,⟨o,k _ _ (.inl rfl) e⟩,st⟩
theorem HOk.lt (x:HOk P w H h) (e:H a=some o):a < h.objs.size:=(x a o e).lt
theorem HOk.fresh (x:HOk P w H h) (e:h.objs.size<=a):H a=none:=by
 cases q:H a with
 | none=>rfl
 | some u=>exact absurd (D1 (x.lt q) e) (Nat.lt_irrefl _)
theorem HOk.kept (x:HOk P w H h) (k:∀ b u,h.get? b=some u->h'.get? b=some u):HOk P w H h':=fun a o e=>
 (x a o e).stay (fun b u _ q=>k b u q) (fun _ q=>q) fun _ _ q=>q
theorem HOk.laid (x:HOk P w H h) (k:∀ b u,h.get? b=some u->h'.get? b=some u) (hp:h.objs.size<=a) (new:ObjOk P w (upd H a o) h' a o):HOk P w (upd H a o) h':=fun b u e=>by
 have hn:=x.fresh hp
 by_cases hb:b=a
 ·subst hb; rw [Jb] at e; cases e; exact new
 ·rw [Qe hb] at e;exact (x b u e).stay (fun c v _ q=>k c v q) (fun c q=>by rw [Qe (Qf q hn)]; exact q) fun c xs q=>by rw [Qe (Qf q hn)]; exact q
end
def Rd (H:Hp) (a:aB) (u:HO):Prop:=H a=some u\/∃ o,H a=some (.frz o u)
theorem Rd.ok {P:aL} {w:aK} {H:Hp} {h:Heap} {a:aB} {u:HO} (r:Rd H a u) (x:HOk P w H h):ObjOk P w H h a u:=by
 rcases r with r | ⟨o,r⟩
 ·exact x a u r
 ·obtain ⟨_,q⟩:=x a _ r;exact q
def Mut:Option HO->Prop
 | some (.lst _)=>True
 | some (.dK _)=>True
 | some (.dT _)=>True
 | some (.set _ _)=>True
 | some (.ins _ _ _)=>True
 | some (.ext _)=>True
 | _=>False
section
variable {P:aL} {w:aK} {H:Hp} {h h':Heap} {x e:aB} {o':HO}
theorem HOk.write (ok:HOk P w H h) (mu:Mut (H x)) (he:e=x\/H e=some (.own x)) (k:∀ b u,b≠e->h.get? b=some u->h'.get? b=some u) (heo:∃ u,h'.get? e=some u)
  (new:ObjOk P w (upd H x o') h' x o'):HOk P w (upd H x o') h':=fun b u q=>by
 have nown:∀ c y,H c=some (.own y)->c≠x:=fun c y r z=>by subst z; rw [r] at mu; exact mu
 have ntup:∀ c xs,H c=some (.tup xs)->c≠x:=fun c xs r z=>by subst z; rw [r] at mu; exact mu
 by_cases hb:b=x
 ·subst hb; rw [Jb] at q; cases q; exact new
 ·rw [Qe hb] at q
  by_cases hbe:b=e
  ·have q':H b=some (.own x):=by
    rcases he with z | z
    ·exact absurd (hbe.trans z) hb
    ·rw [hbe]; exact z
   rw [q] at q'; cases q';obtain ⟨v,hv⟩:=heo;exact ⟨v,by rw [hbe]; exact hv⟩
  ·refine (ok b u q).stay (fun c v hc r=>k c v ?_ r) (fun c r=>by rw [Qe (nown c b r)]; exact r) fun c xs r=>by rw [Qe (ntup c xs r)]; exact r
   rcases hc with rfl | hc
   ·exact hbe
   ·rintro rfl;rcases he with z | z
    ·exact nown c b hc z
    ·rw [hc] at z; cases z; exact hb rfl
end
structure Un (fs ex:List aB) (H H':Hp) (h h':Heap):Prop where
 keep:∀ b o,h.get? b=some o->H b=none->b∉fs->b∉ex->h'.get? b=some o
 slot:∀ b o,h.get? b=some o->H b=none->b∈fs->b∉ex->∃ sl,h'.get? b=some { o with slots:=sl }
 free:∀ b o,h.get? b=some o->H b=none->b∉ex->H' b=none
 there:∀ b o,h.get? b=some o->b∉ex->∃ o',h'.get? b=some o'
 tups:∀ b xs,H b=some (.tup xs)->H' b=some (.tup xs)
 frzs:∀ b o u,H b=some (.frz o u)->H' b=some (.frz o u)
 tbls:∀ b ps,H b=some (.tbl ps)->∃ more,H' b=some (.tbl (ps ++ more))
section
variable {fs fs' ex ex':List aB} {H H1 H2:Hp} {h h1 h2 h':Heap} {a x e:aB} {o:HO}
theorem Un.any (u:Un fs ex H H1 h h1) {b:aB} {ob:Obj} (q:h.get? b=some ob) (n:H b=none) (hx:b∉ex):∃ sl,h1.get? b=some { ob with slots:=sl }:=by
 by_cases hb:b∈fs
 ·exact u.slot b ob q n hb hx
 ·exact ⟨ob.slots,u.keep b ob q n hb hx⟩
theorem Un.kept (k:∀ b u,h.get? b=some u->h'.get? b=some u):Un fs ex H H h h':=
 ⟨fun b ob q _ _ _=>k b ob q,fun b ob q _ _ _=>⟨ob.slots,k b ob q⟩,fun _ _ _ n _=>n,fun b ob q _=>⟨ob,k b ob q⟩,fun _ _ q=>q,fun _ _ _ q=>q,fun _ ps q=>⟨#[],by rw [q]; simp⟩⟩
theorem Un.refl:Un fs ex H H h h:=Un.kept fun _ _ q=>q
theorem Un.laid (k:∀ b u,h.get? b=some u->h'.get? b=some u) (hp:h.objs.size<=a) (hn:H a=none):Un fs ex H (upd H a o) h h' where
 keep:=fun b u q _ _ _=>k b u q
 slot:=fun b u q _ _ _=>⟨u.slots,k b u q⟩
 free:=fun b u q n _=>by rw [Qe (D4 (D1 (O8 q) hp))]; exact n
 there:=fun b u q _=>⟨u,k b u q⟩
 tups:=fun b xs q=>by rw [Qe (Qf q hn)]; exact q
 frzs:=fun b u xs q=>by rw [Qe (Qf q hn)]; exact q
 tbls:=fun b ps q=>⟨#[],by rw [Qe (Qf q hn),q]; simp⟩
theorem Un.write (mu:Mut (H x)) (he:e=x\/H e=some (.own x)) (k:∀ b u,b≠e->h.get? b=some u->h'.get? b=some u) (heo:∃ u,h'.get? e=some u):Un fs ex H (upd H x o) h h':=by
 have hx:∀ b,H b=none->b≠x:=fun b n z=>by subst z; rw [n] at mu; exact mu
 have hb:∀ b,H b=none->b≠e:=fun b n z=>by
  subst z;rcases he with r | r
  ·exact hx b n r
  ·rw [n] at r; cases r
 have hm:∀ b u,H b=some u->¬ Mut (some u)->b≠x:=fun b u q nm z=>by subst z; rw [q] at mu; exact nm mu
 refine ⟨fun b u q n _ _=>k b u (hb b n) q,fun b u q n _ _=>⟨u.slots,k b u (hb b n) q⟩,fun b u q n _=>by rw [Qe (hx b n)]; exact n,fun b u q _=>?_,
  fun b xs q=>by rw [Qe (hm b _ q fun z=>z)]; exact q,fun b u xs q=>by rw [Qe (hm b _ q fun z=>z)]; exact q,fun b ps q=>⟨#[],by rw [Qe (hm b _ q fun z=>z),q]; simp⟩⟩
 by_cases hbe:b=e
 ·subst hbe; exact heo
 ·exact ⟨u,k b u hbe q⟩
end
def trk (h:Heap) (H:Hp):List aB:=(List.range h.objs.size).filter fun a=>(H a).isSome
def Q5t (h:Heap) (H:Hp):Heap:=PySem.W.hideAll h (trk h H)
theorem Qbt (h:Heap) (H:Hp):(Q5t h H).objs.size=h.objs.size:=PySem.W.hideAll_size _ _
theorem Qeq {h:Heap} {H:Hp} {b:aB} {o:Obj} (e:h.get? b=some o) (n:H b=none):(Q5t h H).get? b=some o:=
 PySem.W.hideAll_get _ e fun hm=>by
  have q:(H b).isSome=true:=(List.mem_filter.mp hm).2;rw [n] at q; simp at q
theorem Qhc {h:Heap} {H:Hp} {b:aB} {o:Obj} (e:(Q5t h H).get? b=some o):h.get? b=some o/\H b=none:=by
 have e':h.get? b=some o:=PySem.W.of_hideAll (trk h H) e;refine ⟨e',?_⟩;cases q:H b with
 | none=>rfl
 | some x=>
  have hm:b∈trk h H:=List.mem_filter.mpr ⟨List.mem_range.mpr (O8 e'),by simp [q]⟩;have z:(Q5t h H).get? b=none:=PySem.W.hideAll_none (trk h H) hm;rw [z] at e; cases e
def Qi2 (g h:Heap) (L:aB):List (aB × Obj):=(List.range h.objs.size).filterMap fun a=>if a=L\/(g.get? a).isSome=true then none else (h.get? a).map fun o=>(a,o)
def rest (g h:Heap) (L d:aB):List (aB × Obj):=(Qi2 g h L).filter fun p=>decide (p.1≠d)
structure Mod (K:PySem.W.Frag) (mg:Str->Option aA) (base:Heap):Prop where
 kin:K.In base
 glob:base.Ns aQ mg
 blt:∃ mb,base.Ns builtinsNs mb/\∀ x:Str,x≠"__name__" -> mb x=aY x
 nolimit:base.NoLimit
structure Cx where
 prog:aL
 w:aK
 K:PySem.W.Frag
 mg:Str->Option aA
 base:Heap
 A:aM
 N:List Str
 s₀:aC
 H₀:Hp
 env:Env
 outer:List Env
 stack:List Env
 ex:List aB
 fn:Str->Bool
 calm:Bool
 pn:List (aB × Obj)
 xe:aA->aC->Prop
def frs (l:List Env):List aB:=l.filterMap (·.frame)
abbrev Cx.fs (X:Cx):List aB:=frs X.outer
def Vis (sc:Scope) (x:Str):Prop:=sc.names.lookup x=some .local\/sc.names.lookup x=some .cell\/sc.names.lookup x=some .free
def Loc (sc:Scope) (x:Str):Prop:=sc.names.lookup x=some .local\/sc.names.lookup x=some .cell
def Qsv (env:Env) (h:Heap) (m:Str->Option aA) (x:Str) (u:aA):Prop:=
 (env.kindOf x=some .local/\m x=some u)\/((env.kindOf x=some .cell\/env.kindOf x=some .free)/\∃ c,env.cells.lookup x=some c/\h.IsCell c (some u))
structure Cx.Ok (X:Cx):Prop where
 mod:Mod X.K X.mg X.base
 kind:X.env.scope.kind=.function
 glob:X.env.globals=aQ
 blt:X.env.builtins=builtinsNs
 above:X.s₀.heap.objs.size<=X.env.locals
 inj:∀ x y c,X.env.cells.lookup x=some c->X.env.cells.lookup y=some c->x=y
 has:∀ x,(X.env.kindOf x=some .cell\/X.env.kindOf x=some .free)->∃ c,X.env.cells.lookup x=some c
 cab:∀ x c,X.fn x=true->X.env.cells.lookup x=some c->X.s₀.heap.objs.size<=c
 hd:X.calm=true->X.A.handled=none
 frames:X.A.frames=some X.stack
 stk:X.stack=X.outer\/(X.stack=X.env :: X.outer/\X.env.frame=some X.env.locals)
 exf:∀ b∈X.ex,b≠X.env.locals/\∀ x c,X.env.cells.lookup x=some c->c≠b
 bs:∀ b o,X.base.get? b=some o->X.s₀.heap.get? b=some o/\X.H₀ b=none
 bsz:X.base.objs.size<=X.s₀.heap.objs.size
 noex:∀ b o,X.base.get? b=some o->b∉X.ex
 exfs:∀ b∈X.ex,b∉X.fs
 funs:X.s₀.heap.FunFrames X.base X.outer
 frf:∀ b∈X.fs,X.H₀ b=none
structure Inv (X:Cx) (pins:List (aB × Obj)) (σ:List (Option V)) (H:Hp) (s:aC):Prop where
 ok:X.Ok
 os:s.os=X.s₀.os
 bare:AllBare s.gens
 base:Un X.fs X.ex X.H₀ H X.s₀.heap s.heap
 loc:∃ m,s.heap.Ns X.env.locals m/\∀ (i:Nat) (x:Str) (v:V),X.N[i]?=some x->σ[i]?=some (some v)->Vis X.env.scope x->∃ u,RelV v u/\Qsv X.env s.heap m x u
 cell:∀ x c,X.env.cells.lookup x=some c->∃ v,s.heap.IsCell c v
 free:H X.env.locals=none
 freeC:∀ x c,X.env.cells.lookup x=some c->H c=none
 pin:∀ p∈X.pn ++ pins,s.heap.get? p.1=some p.2/\H p.1=none/\p.1≠X.env.locals/\p.1∉X.fs/\∀ v,p.2.data≠.cell v
 hok:HOk X.prog X.w H s.heap
 len:σ.length=X.N.length
section
variable {X:Cx} {pins:List (aB × Obj)} {σ:List (Option V)} {H H':Hp} {s:aC} {h':Heap}
theorem Cx.Ok.nofr (ok:X.Ok) {b:aB} {o:Obj} (e:X.base.get? b=some o):b∉X.fs:=fun hb=>by
 have:=(ok.funs.mem hb).1;rw [e] at this; cases this
theorem Inv.bs (I:Inv X pins σ H s):∀ b o,X.base.get? b=some o->s.heap.get? b=some o/\H b=none:=fun b o e=>
 ⟨I.base.keep b o (I.ok.bs b o e).1 (I.ok.bs b o e).2 (I.ok.nofr e) (I.ok.noex b o e),I.base.free b o (I.ok.bs b o e).1 (I.ok.bs b o e).2 (I.ok.noex b o e)⟩
theorem Inv.bk (I:Inv X pins σ H s):∀ b o,X.base.get? b=some o->s.heap.get? b=some o:=fun b o e=>(I.bs b o e).1
theorem Inv.mod (I:Inv X pins σ H s):Mod X.K X.mg X.base:=I.ok.mod
theorem Inv.kIn (I:Inv X pins σ H s):X.K.In s.heap:=I.ok.mod.kin.keeps I.bk
theorem Inv.lt (I:Inv X pins σ H s):X.env.locals < s.heap.objs.size:=let ⟨_,hn,_⟩:=I.loc; hn.lt
theorem Inv.sz (I:Inv X pins σ H s):X.s₀.heap.objs.size<=s.heap.objs.size:=E7 I.ok.above (Nat.le_of_lt I.lt)
theorem Inv.nofs (I:Inv X pins σ H s) {a:aB} (h:s.heap.objs.size<=a):a∉X.fs:=fun hb=>by
 obtain ⟨_,o,ho,_⟩:=I.ok.funs.mem hb;exact absurd (D1 (O8 ho) (E7 I.sz h)) (Nat.lt_irrefl _)
theorem Inv.cne (I:Inv X pins σ H s):∀ x c,X.env.cells.lookup x=some c->c≠X.env.locals:=fun x c e z=>by
 obtain ⟨v,o,ho,hd⟩:=I.cell x c e;obtain ⟨m,⟨o',es,ep,ho',hd',_⟩,_⟩:=I.loc;rw [z,ho'] at ho; cases ho; rw [hd'] at hd; cases hd
theorem Inv.funs (I:Inv X pins σ H s):s.heap.FunFrames X.base X.outer:=by
 have all:∀ (l:List Env),(∀ b∈frs l,b∈X.fs)->X.s₀.heap.FunFrames X.base l->s.heap.FunFrames X.base l:=by
  intro l
  induction l with
  | nil=>intro _ _; trivial
  | cons env r ih=>
   intro hs hl;obtain ⟨hk,⟨L,o,hf,hn,ho,hd⟩,hr⟩:=hl;have hL:L∈X.fs:=hs L (by unfold frs; rw [List.filterMap_cons,hf]; exact D9);obtain ⟨sl,e⟩:=I.base.slot L o ho (I.ok.frf L hL) hL fun z=>I.ok.exfs L z hL
   exact ⟨hk,⟨L,_,hf,hn,e,hd⟩,ih (fun b hb=>hs b (by unfold frs; rw [List.filterMap_cons,hf]; exact O7 _ hb)) hr⟩
 exact all X.outer (fun _ hb=>hb) I.ok.funs
theorem Inv.stack (I:Inv X pins σ H s):s.heap.FunFrames X.base X.stack:=by
 rcases I.ok.stk with e | ⟨e,hf⟩
 ·rw [e]; exact I.funs
 ·rw [e];obtain ⟨m,hn,_⟩:=I.loc;refine .cons (by rw [I.ok.kind]; decide) hf hn ?_ I.funs;exact Heap.get?_none_of_le (E7 I.ok.bsz I.ok.above)
theorem Inv.stkSub (I:Inv X pins σ H s):∀ b∈frs X.stack,b∈X.env.locals :: X.fs:=fun b hb=>by
 rcases I.ok.stk with e | ⟨e,hf⟩
 ·rw [e] at hb; exact O7 _ hb
 ·rw [e] at hb;unfold frs at hb;rw [List.filterMap_cons,hf] at hb;exact hb
theorem Inv.stkFree (I:Inv X pins σ H s):∀ b∈frs X.stack,H b=none:=fun b hb=>by
 rcases D3.mp (I.stkSub b hb) with e | hb
 ·rw [e]; exact I.free
 ·obtain ⟨_,o,ho,_⟩:=I.ok.funs.mem hb;exact I.base.free b o ho (I.ok.frf b hb) fun z=>I.ok.exfs b z hb
theorem Inv.step {g':Array GenState} {t':Nat} {d':Drawn} {ch:List aB} (I:Inv X pins σ H s)
  (hch:∀ b∈ch,(b∈X.ex\/X.s₀.heap.objs.size<=b)/\b≠X.env.locals/\(∀ x c,X.env.cells.lookup x=some c->c≠b)/\∀ p∈X.pn ++ pins,p.1≠b)
  (keep:∀ b o,b≠X.env.locals->b∉X.fs->b∉ch->s.heap.get? b=some o->H b=none->h'.get? b=some o)
  (slot:∀ b o,b≠X.env.locals->b∈X.fs->b∉ch->s.heap.get? b=some o->H b=none->∃ sl,h'.get? b=some { o with slots:=sl }) (free:∀ b o,b∉ch->s.heap.get? b=some o->H b=none->H' b=none)
  (there:∀ b o,b∉ch->s.heap.get? b=some o->∃ o',h'.get? b=some o')
  (tups:∀ b xs,H b=some (.tup xs)->H' b=some (.tup xs)) (frzs:∀ b o u,H b=some (.frz o u)->H' b=some (.frz o u)) (tbls:∀ b ps,H b=some (.tbl ps)->∃ more,H' b=some (.tbl (ps ++ more)))
  (ns:∀ m,s.heap.Ns X.env.locals m->h'.Ns X.env.locals m) (hok:HOk X.prog X.w H' h') (hg:AllBare g') :
  Inv X pins σ H' { s with heap:=h',gens:=g',drawn:=d',toks:=t' }:=by
 have neL:∀ b o,X.s₀.heap.get? b=some o->b≠X.env.locals:=fun b o e=>D4 (D1 (O8 e) I.ok.above)
 have neC:∀ b o,X.s₀.heap.get? b=some o->b∉X.ex->b∉ch:=fun b o e hx hb=>by
  rcases (hch b hb).1 with z | z
  ·exact hx z
  ·exact absurd (D1 (O8 e) z) (Nat.lt_irrefl _)
 have cellK:∀ x c,X.env.cells.lookup x=some c->∀ v,s.heap.IsCell c v->h'.IsCell c v:=fun x c e v ⟨o,ho,hd⟩=>by
  have nch:c∉ch:=fun z=>(hch c z).2.2.1 x c e rfl
  by_cases hc:c∈X.fs
  ·obtain ⟨sl,q⟩:=slot c o (I.cne x c e) hc nch ho (I.freeC x c e);exact ⟨_,q,hd⟩
  ·exact ⟨o,keep c o (I.cne x c e) hc nch ho (I.freeC x c e),hd⟩
 refine ⟨I.ok,I.os,hg,⟨fun b o e n hb hx=>?_,fun b o e n hb hx=>?_,fun b o e n hx=>?_,fun b o e hx=>?_,fun b xs e=>tups b xs (I.base.tups b xs e),fun b o xs e=>frzs b o xs (I.base.frzs b o xs e),fun b ps e=>?_⟩,?_,fun x c e=>?_,?_,fun x c e=>?_,fun p hp=>?_,hok,I.len⟩
 ·exact keep b o (neL b o e) hb (neC b o e hx) (I.base.keep b o e n hb hx) (I.base.free b o e n hx)
 ·obtain ⟨sl,e1⟩:=I.base.slot b o e n hb hx;obtain ⟨sl',e2⟩:=slot b _ (neL b o e) hb (neC b o e hx) e1 (I.base.free b o e n hx);exact ⟨sl',e2⟩
 ·obtain ⟨o',e1⟩:=I.base.there b o e hx;exact free b o' (neC b o e hx) e1 (I.base.free b o e n hx)
 ·obtain ⟨o',e1⟩:=I.base.there b o e hx;exact there b o' (neC b o e hx) e1
 ·obtain ⟨m1,e1⟩:=I.base.tbls b ps e;obtain ⟨m2,e2⟩:=tbls b _ e1;exact ⟨m1 ++ m2,by rw [e2,Array.append_assoc]⟩
 ·obtain ⟨m,hn,hl⟩:=I.loc;refine ⟨m,ns m hn,fun i x v e1 e2 e3=>?_⟩;obtain ⟨u,r,l⟩:=hl i x v e1 e2 e3;refine ⟨u,r,?_⟩;rcases l with l | ⟨k,c,e,z⟩
  ·exact .inl l
  ·exact .inr ⟨k,c,e,cellK x c e _ z⟩
 ·obtain ⟨v,z⟩:=I.cell x c e;exact ⟨v,cellK x c e v z⟩
 ·obtain ⟨m,⟨o,_,_,ho,_⟩,_⟩:=I.loc;exact free _ o (fun z=>(hch _ z).2.1 rfl) ho I.free
 ·obtain ⟨v,o,ho,hd⟩:=I.cell x c e;exact free c o (fun z=>(hch c z).2.2.1 x c e rfl) ho (I.freeC x c e)
 ·obtain ⟨e,n,ne,nf,d⟩:=I.pin p hp;have nch:p.1∉ch:=fun z=>(hch p.1 z).2.2.2 p hp rfl
  exact ⟨keep p.1 p.2 ne nf nch e n,free p.1 p.2 nch e n,ne,nf,d⟩
theorem Inv.un {t':Nat} (I:Inv X pins σ H s) (u:Un X.fs [] H H' s.heap h') (hok:HOk X.prog X.w H' h'):Inv X pins σ H' { s with heap:=h',toks:=t' }:=by
 obtain ⟨m,⟨o,es,ep,ho,r⟩,_⟩:=id I.loc;obtain ⟨sl,hL⟩:=u.any ho I.free (by simp);exact I.step (g':=s.gens) (d':=s.drawn) (ch:=[]) (fun _ z=>nomatch z) (fun b o _ hb _ e n=>u.keep b o e n hb (by simp)) (fun b o _ hb _ e n=>u.slot b o e n hb (by simp)) (fun b o _ e n=>u.free b o e n (by simp)) (fun b o _ e=>u.there b o e (by simp)) u.tups u.frzs u.tbls (fun m' hm=>by
  obtain ⟨o',es',ep',ho',r'⟩:=hm;rw [ho] at ho'; cases ho';exact ⟨_,es',ep',hL,r'⟩) hok I.bare
theorem Inv.call {g':Array GenState} {t':Nat} {d':Drawn} {ch:List aB} (I:Inv X pins σ H s) (u:Un (frs X.stack) ch H H' s.heap h') (hok:HOk X.prog X.w H' h') (hg:AllBare g')
  (hch:∀ b∈ch,(b∈X.ex\/X.s₀.heap.objs.size<=b)/\b≠X.env.locals/\(∀ x c,X.env.cells.lookup x=some c->c≠b)/\∀ p∈X.pn ++ pins,p.1≠b) :
  Inv X pins σ H' { s with heap:=h',gens:=g',drawn:=d',toks:=t' }:=by
 obtain ⟨m,⟨o,es,ep,ho,r⟩,_⟩:=id I.loc;obtain ⟨sl,hL⟩:=u.any ho I.free fun z=>(hch _ z).2.1 rfl
 exact I.step (ch:=ch) hch (fun b o hL hb hc e n=>u.keep b o e n (fun z=>(D3.mp (I.stkSub b z)).elim hL hb) hc) (fun b o _ _ hc e n=>u.any e n hc) (fun b o hc e n=>u.free b o e n hc) (fun b o hc e=>u.there b o e hc) u.tups u.frzs u.tbls (fun m' hm=>by
  obtain ⟨o',es',ep',ho',r'⟩:=hm;rw [ho] at ho'; cases ho';exact ⟨_,es',ep',hL,r'⟩) hok hg
theorem Inv.turned {t':Nat} {it:aB} (I:Inv X pins σ H s) (k:∀ b o,b≠it->s.heap.get? b=some o->h'.get? b=some o) (hn:H it=none) (hL:it≠X.env.locals)
  (h1:it∈X.ex\/X.s₀.heap.objs.size<=it) (h2:∀ x c,X.env.cells.lookup x=some c->c≠it) (h3:∀ p∈X.pn ++ pins,p.1≠it):Inv X pins σ H { s with heap:=h',toks:=t' }:=by
 have nit:∀ b u,H b=some u->b≠it:=fun b u e z=>by rw [z,hn] at e; cases e
 refine I.step (g':=s.gens) (d':=s.drawn) (ch:=[it]) (fun b hb=>?_) (fun b o _ _ hc e _=>k b o (fun z=>hc (by simp [z])) e) (fun b o _ _ hc e _=>⟨o.slots,k b o (fun z=>hc (by simp [z])) e⟩) (fun _ _ _ _ n=>n)
  (fun b o hc e=>⟨o,k b o (fun z=>hc (by simp [z])) e⟩) (fun _ _ e=>e) (fun _ _ _ e=>e) (fun b ps e=>⟨#[],by rw [e]; simp⟩) (fun m hm=>?_) (fun b u e=>?_) I.bare
 ·have e:b=it:=by simpa using hb
  subst e;exact ⟨h1,hL,h2,h3⟩
 ·obtain ⟨o,es,ep,ho,r⟩:=hm;exact ⟨o,es,ep,k _ o (Ne.symm hL) ho,r⟩
 ·refine (I.hok b u e).stay (fun c v hc q=>k c v ?_ q) (fun _ q=>q) fun _ _ q=>q
  rcases hc with z | z
  ·rw [z]; exact nit b u e
  ·exact nit c _ z
theorem Inv.tok (I:Inv X pins σ H s) (t:Nat):Inv X pins σ H { s with toks:=t }:=I.un (h':=s.heap) (t':=t) Un.refl I.hok
theorem Inv.kept {t':Nat} (I:Inv X pins σ H s) (k:∀ b u,s.heap.get? b=some u->h'.get? b=some u):Inv X pins σ H { s with heap:=h',toks:=t' }:=I.un (Un.kept k) (I.hok.kept k)
theorem Inv.laid {a:aB} {o:HO} {t':Nat} (I:Inv X pins σ H s) (k:∀ b u,s.heap.get? b=some u->h'.get? b=some u) (hp:s.heap.objs.size<=a) (new:ObjOk X.prog X.w (upd H a o) h' a o) :
  Inv X pins σ (upd H a o) { s with heap:=h',toks:=t' }:=I.un (Un.laid k hp (I.hok.fresh hp)) (I.hok.laid k hp new)
theorem Inv.write {x e:aB} {o:HO} {t':Nat} (I:Inv X pins σ H s) (mu:Mut (H x)) (he:e=x\/H e=some (.own x)) (k:∀ b u,b≠e->s.heap.get? b=some u->h'.get? b=some u) (heo:∃ u,h'.get? e=some u)
  (new:ObjOk X.prog X.w (upd H x o) h' x o):Inv X pins σ (upd H x o) { s with heap:=h',toks:=t' }:=I.un (Un.write mu he k heo) (I.hok.write mu he k heo new)
theorem Inv.pins_of {pins':List (aB × Obj)} (I:Inv X pins σ H s) (h:∀ p∈pins',s.heap.get? p.1=some p.2/\H p.1=none/\p.1≠X.env.locals/\p.1∉X.fs/\∀ v,p.2.data≠.cell v):Inv X pins' σ H s:=
 ⟨I.ok,I.os,I.bare,I.base,I.loc,I.cell,I.free,I.freeC,fun p hp=>(E3.mp hp).elim (fun z=>I.pin p (G9 _ z)) (h p),I.hok,I.len⟩
theorem Q74 {N:List Str} (hN:N.Nodup) {i j:Nat} {x:Str} (a:N[i]?=some x) (b:N[j]?=some x):i=j:=by
 obtain ⟨h1,e1⟩:=O0.mp a;obtain ⟨h2,e2⟩:=O0.mp b;exact (List.getElem_inj hN).mp (e1.trans e2.symm)
theorem Q3t {M:Model} {A:aM} {E:aA->aC->Prop} {i:Nat} {x:Str} {v:V} {u:aA} {Q:Unit->aC->Prop} (I:Inv X pins σ H s) (hN:X.N.Nodup) (hi:X.N[i]?=some x) (hx:Loc X.env.scope x) (r:RelV v u)
  (h:∀ s',Inv X pins (σ.set i (some v)) H s'->(∃ a,Heap.SameBut a s.heap s'.heap/\(a=X.env.locals\/X.env.cells.lookup x=some a))->Q () s') (hf:X.fn x=true\/X.env.scope.names.lookup x=some .local:=by first | exact .inl rfl | exact .inr rfl | assumption):aF M A (storeName X.env x u) Q E s:=by
 obtain ⟨m,hn,hl⟩:=id I.loc;have hcls:(X.env.scope.kind == .class || (X.env.scope.kind == .module && X.env.locals != X.env.globals))=false:=by rw [I.ok.kind]; rfl
 have hiσ:i < σ.length:=by rw [I.len]; exact (O0.mp hi).1
 have cne:=I.cne;have tracked:∀ {a:aB} {h':Heap},(∃ o,s.heap.get? a=some o/\H a=none)->Heap.SameBut a s.heap h'->HOk X.prog X.w H h':=fun {a h'} ha hs b ob e=>by
  obtain ⟨_,_,hfree⟩:=ha;refine (I.hok b ob e).stay (fun c w' hc q=>(hs.2 c ?_).trans q) (fun _ q=>q) fun _ _ q=>q
  rintro rfl;rcases hc with rfl | hc
  ·rw [hfree] at e; cases e
  ·rw [hfree] at hc; cases hc
 rcases hx with hk | hk
 ·refine wpAny_storeName_local hk hn (fun h' hn' hs=>?_) hcls;obtain ⟨oL,_,_,hoL,_⟩:=id hn;refine h _ ⟨I.ok,I.os,I.bare,⟨fun b o e n hb hx=>?_,fun b o e n hb hx=>?_,I.base.free,fun b o e hx=>?_,I.base.tups,I.base.frzs,I.base.tbls⟩,⟨_,hn',fun j y v' e1 e2 e3=>?_⟩,fun y c e=>?_,I.free,I.freeC,fun p hp=>?_,tracked ⟨oL,hoL,I.free⟩ hs,by simpa using I.len⟩ ⟨_,hs,.inl rfl⟩
  ·exact (hs.2 b (D4 (D1 (O8 e) I.ok.above))).trans (I.base.keep b o e n hb hx)
  ·obtain ⟨sl,e1⟩:=I.base.slot b o e n hb hx;exact ⟨sl,(hs.2 b (D4 (D1 (O8 e) I.ok.above))).trans e1⟩
  ·obtain ⟨o',e1⟩:=I.base.there b o e hx;exact ⟨o',(hs.2 b (D4 (D1 (O8 e) I.ok.above))).trans e1⟩
  ·by_cases hj:j=i
   ·subst hj;rw [hi] at e1; cases e1;rw [D7 hiσ] at e2;cases e2;exact ⟨u,r,.inl ⟨hk,by simp⟩⟩
   ·rw [D8 (Ne.symm hj)] at e2;obtain ⟨u',r',q⟩:=hl j y v' e1 e2 e3;refine ⟨u',r',?_⟩;rcases q with ⟨k,e⟩ | ⟨k,c,e,z⟩
    ·refine .inl ⟨k,?_⟩;have:y≠x:=fun e=>hj (Q74 hN e1 (e ▸ hi))
     simp [this,e]
    ·exact .inr ⟨k,c,e,z.sameBut hs (cne y c e)⟩
  ·obtain ⟨w',z⟩:=I.cell y c e;exact ⟨w',z.sameBut hs (cne y c e)⟩
  ·obtain ⟨e,n,ne,nf,d⟩:=I.pin p hp;exact ⟨(hs.2 p.1 ne).trans e,n,ne,nf,d⟩
 ·have hfn:X.fn x=true:=by
   rcases hf with z | z
   ·exact z
   ·rw [z] at hk; cases hk
  obtain ⟨c,hc⟩:=I.ok.has x (.inl hk);obtain ⟨w',z⟩:=I.cell x c hc;refine wpAny_storeName_cell I.ok.kind hk hc z (fun h' hc' hs=>?_);obtain ⟨oc,hoc,hocd⟩:=id z;refine h { s with heap:=h' } ⟨I.ok,I.os,I.bare,⟨fun b o e n hb hx=>?_,fun b o e n hb hx=>?_,I.base.free,fun b o e hx=>?_,I.base.tups,I.base.frzs,I.base.tbls⟩,⟨m,hn.sameBut hs (Ne.symm (cne x c hc)),fun j y v' e1 e2 e3=>?_⟩,fun y c' e=>?_,I.free,I.freeC,fun p hp=>?_,tracked ⟨oc,hoc,I.freeC x c hc⟩ hs,by simpa using I.len⟩ ⟨c,hs,.inr hc⟩
  ·exact (hs.2 b (D4 (D1 (O8 e) (I.ok.cab x c hfn hc)))).trans (I.base.keep b o e n hb hx)
  ·obtain ⟨sl,e1⟩:=I.base.slot b o e n hb hx;exact ⟨sl,(hs.2 b (D4 (D1 (O8 e) (I.ok.cab x c hfn hc)))).trans e1⟩
  ·obtain ⟨o',e1⟩:=I.base.there b o e hx;exact ⟨o',(hs.2 b (D4 (D1 (O8 e) (I.ok.cab x c hfn hc)))).trans e1⟩
  ·by_cases hj:j=i
   ·subst hj;rw [hi] at e1; cases e1;rw [D7 hiσ] at e2;cases e2;exact ⟨u,r,.inr ⟨.inl hk,c,hc,hc'⟩⟩
   ·rw [D8 (Ne.symm hj)] at e2;obtain ⟨u',r',q⟩:=hl j y v' e1 e2 e3;refine ⟨u',r',?_⟩;rcases q with q | ⟨k,c',e,z'⟩
    ·exact .inl q
    ·refine .inr ⟨k,c',e,z'.sameBut hs ?_⟩;rintro rfl;exact hj (Q74 hN e1 (I.ok.inj _ _ _ e hc ▸ hi))
  ·by_cases hcc:c'=c
   ·subst hcc; exact ⟨_,hc'⟩
   ·obtain ⟨w2,z2⟩:=I.cell y c' e;exact ⟨w2,z2.sameBut hs hcc⟩
  ·obtain ⟨e,n,ne,nf,d⟩:=I.pin p hp;refine ⟨(hs.2 p.1 ?_).trans e,n,ne,nf,d⟩;intro q;rw [q,hoc] at e;have q':oc=p.2:=Option.some.inj e;exact d w' (by rw [<- q']; exact hocd)
theorem Q6b {M:Model} {A:aM} {E:aA->aC->Prop} {i:Nat} {x:Str} {v:V} {u:aA} {Q:Unit->aC->Prop} (I:Inv X pins σ H s) (hN:X.N.Nodup) (hi:X.N[i]?=some x) (hx:Loc X.env.scope x) (r:RelV v u)
  (h:∀ s',Inv X pins (σ.set i (some v)) H s'->Q () s') (hf:X.fn x=true\/X.env.scope.names.lookup x=some .local:=by first | exact .inl rfl | exact .inr rfl | assumption):aF M A (storeName X.env x u) Q E s:=
 Q3t I hN hi hx r (fun s' I' _=>h s' I') hf
theorem Inv.call' {s':aC} {ch:List aB} (I:Inv X pins σ H s) (ho:s'.os=s.os) (u:Un (frs X.stack) ch H H' s.heap s'.heap) (hok:HOk X.prog X.w H' s'.heap) (hg:AllBare s'.gens)
  (hch:∀ b∈ch,(b∈X.ex\/X.s₀.heap.objs.size<=b)/\b≠X.env.locals/\(∀ x c,X.env.cells.lookup x=some c->c≠b)/\∀ p∈X.pn ++ pins,p.1≠b):Inv X pins σ H' s':=by
 obtain ⟨h',g',d',t',o'⟩:=s';have e:o'=s.os:=ho;subst e;exact I.call (g':=g') (t':=t') (d':=d') u hok hg hch
end
abbrev XK:=aA->Option aB->Hp->Prop
abbrev St:=List (Option V)
abbrev VK:=V->Hp->Prop
abbrev TE:=St->Hp->VK->Prop
abbrev TT:=St->Hp->(Bool->Hp->Prop)->Prop
abbrev TA:=St->Hp->(List V->Hp->Prop)->Prop
structure Ends where
 nx:St->Hp->Prop
 rt:VK
 bk:St->Hp->Prop:=fun _ _=>False
 ct:St->Hp->Prop:=fun _ _=>False
abbrev TS:=Ends->St->Hp->Prop
def EP (X:Cx) (pins:List (aB × Obj)) (σ:St) (Q:VK) (u:aA) (s':aC):Prop:=∃ v H',Inv X pins σ H' s'/\RelV v u/\Q v H'
def TP (X:Cx) (pins:List (aB × Obj)) (σ:St) (Q:Bool->Hp->Prop) (b:Bool) (s':aC):Prop:=∃ H',Inv X pins σ H' s'/\Q b H'
def AP (X:Cx) (pins:List (aB × Obj)) (σ:St) (Q:List V->Hp->Prop) (us:List aA) (s':aC):Prop:=∃ vs H',Inv X pins σ H' s'/\Vals vs us/\Q vs H'
def SP (X:Cx) (pins:List (aB × Obj)) (D:Ends) (f:Flow) (s':aC):Prop:=
 match f with
 | .next=>∃ σ' H',Inv X pins σ' H' s'/\D.nx σ' H'
 | .brk=>∃ σ' H',Inv X pins σ' H' s'/\D.bk σ' H'
 | .cont=>∃ σ' H',Inv X pins σ' H' s'/\D.ct σ' H'
 | .ret u=>∃ v σ' H',Inv X pins σ' H' s'/\RelV v u/\D.rt v H'
def PE (X:Cx) (e:aH) (t:TE):Prop:=
 ∀ (pins:List (aB × Obj)) (s:aC) (σ:St) (H:Hp) (Q:VK),Inv X pins σ H s->t σ H Q->aF (aI X.prog X.w) X.A (aN e X.env) (EP X pins σ Q) X.xe s
def PT (X:Cx) (e:aH) (t:TT):Prop:=
 ∀ (pins:List (aB × Obj)) (s:aC) (σ:St) (H:Hp) (Q:Bool->Hp->Prop),Inv X pins σ H s->t σ H Q->aF (aI X.prog X.w) X.A (isTrue e X.env (aN e X.env)) (TP X pins σ Q) X.xe s
def PW (X:Cx) (e:aH) (t:TT):Prop:=
 ∀ (whole:Sem aA) (pins:List (aB × Obj)) (s:aC) (σ:St) (H:Hp) (Q:Bool->Hp->Prop),Inv X pins σ H s->t σ H Q->aF (aI X.prog X.w) X.A (isTrue e X.env whole) (TP X pins σ Q) X.xe s
def PA (X:Cx) (es:List aH) (t:TA):Prop:=
 ∀ (pos:Pos) (pins:List (aB × Obj)) (s:aC) (σ:St) (H:Hp) (Q:List V->Hp->Prop),Inv X pins σ H s->t σ H Q->aF (aI X.prog X.w) X.A (spliced (ad pos (aO es X.env))) (AP X pins σ Q) X.xe s
def PS (X:Cx) (st:aP) (t:TS):Prop:=
 ∀ (pins:List (aB × Obj)) (s:aC) (σ:St) (H:Hp) (D:Ends),Inv X pins σ H s->t D σ H->aF (aI X.prog X.w) X.A (exec st X.env) (SP X pins D) X.xe s
def PSs (X:Cx) (st:List aP) (t:TS):Prop:=
 ∀ (pins:List (aB × Obj)) (s:aC) (σ:St) (H:Hp) (D:Ends),Inv X pins σ H s->t D σ H->aF (aI X.prog X.w) X.A (execs st X.env) (SP X pins D) X.xe s
theorem thn {α:Type} {t:Sem α} {Q Q':α->aC->Prop} {M:Model} {A:aM} {E:aA->aC->Prop} {s:aC} (h:aF M A t Q E s) (hQ:∀ a s,Q a s->Q' a s):aF M A t Q' E s:=aq h hQ fun _ _ x=>x
section
variable {X:Cx}
def Qn6 (i:Nat):TE:=fun σ H Q=>∃ v,σ[i]?=some (some v)/\Q v H
def tC (v:V):TE:=fun _ H Q=>Q v H
theorem Qdt {i:Nat} {x:Str} {pos:Pos} (hN:X.N[i]?=some x) (hv:Vis X.env.scope x) (hd:(x == ("__debug__" : Str))=false:=by decide) (hcd:(x == ("__classdict__" : Str))=false:=by decide):PE X (.Name x pos) (Qn6 i):=by
 intro pins s σ H Q I h;obtain ⟨v,e,h⟩:=h;obtain ⟨m,hn,hl⟩:=I.loc;obtain ⟨u,r,l⟩:=hl i x v hN e hv;have fin:EP X pins σ Q u s:=⟨v,H,I,r,h⟩;rcases l with ⟨hk,hm⟩ | ⟨hk,c,hc,hcell⟩
 ·exact wpAny_Name (wpAny_loadName_local I.ok.kind hk hn hm fin) hd
 ·rcases hk with hk | hk
  ·exact wpAny_Name (wpAny_loadName_cell I.ok.kind hk hc hcell fin) hd
  ·exact wpAny_Name (wpAny_loadName_free I.ok.kind hk hc hcell fin hcd) hd
theorem Qji {i j pos}:PE X (.Constant (.int i) j pos) (tC (.int i)):=fun _ _ _ H _ I h=>wpAny_Constant_int ⟨.int i,H,I.tok _,⟨_,rfl⟩,h⟩
theorem Qp2 {b j pos}:PE X (.Constant (.bool b) j pos) (tC (.bl b)):=fun _ _ _ H _ I h=>Constant_bool ⟨.bl b,H,I,rfl,h⟩
theorem Qjh {j pos}:PE X (.Constant .none j pos) (tC .non):=fun _ _ _ H _ I h=>Constant_none ⟨.non,H,I,rfl,h⟩
def Gl (X:Cx) (x:Str):Prop:=X.env.kindOf x=some .globalImplicit
theorem Qa9 {E:aA->aC->Prop} {pins:List (aB × Obj)} {s:aC} {σ:St} {H:Hp} {x:Str} {u:aA} {pos:Pos} {Q:aA->aC->Prop} (I:Inv X pins σ H s) (hg:Gl X x) (hm:X.mg x=some u) (h:Q u s)
  (hd:(x == ("__debug__" : Str))=false:=by decide):aF (aI X.prog X.w) X.A (aN (.Name x pos) X.env) Q E s:=
 Calls.Name_function_global I.ok.kind hg (Calls.loadGlobal_global (by rw [I.ok.glob]; exact I.mod.glob.keeps I.bk) hm h) hd
theorem zy {E:aA->aC->Prop} {pins:List (aB × Obj)} {s:aC} {σ:St} {H:Hp} {x:Str} {u:aA} {pos:Pos} {Q:aA->aC->Prop} (I:Inv X pins σ H s) (hg:Gl X x) (hm:X.mg x=none) (hv:aY x=some u) (h:Q u s)
  (hn:x≠"__name__" := by decide) (hd:(x == ("__debug__" : Str))=false:=by decide):aF (aI X.prog X.w) X.A (aN (.Name x pos) X.env) Q E s:=by
 obtain ⟨mb,h1,h2⟩:=I.mod.blt;exact Calls.Name_function_global I.ok.kind hg (Calls.loadGlobal_builtin (by rw [I.ok.glob]; exact I.mod.glob.keeps I.bk) hm (by rw [I.ok.blt]; exact h1.keeps I.bk) ((h2 x hn).trans hv) h) hd
theorem Qgx {x:Str} {v:V} {u:aA} {pos:Pos} (hg:Gl X x) (hm:X.mg x=some u) (r:RelV v u) (hd:(x == ("__debug__" : Str))=false:=by decide):PE X (.Name x pos) (tC v):=
 fun _ _ _ H _ I h=>Qa9 I hg hm ⟨v,H,I,r,h⟩ hd
theorem Qh2 {x:Str} {v:V} {u:aA} {pos:Pos} (hg:Gl X x) (hm:X.mg x=none) (hv:aY x=some u) (r:RelV v u) (hn:x≠"__name__" := by decide) (hd:(x == ("__debug__" : Str))=false:=by decide):PE X (.Name x pos) (tC v):=
 fun _ _ _ H _ I h=>zy I hg hm hv ⟨v,H,I,r,h⟩ hn hd
variable {a b:aH} {ta tb:TE} {pos:Pos}
def tB (t:TE):TT:=fun σ H Q=>t σ H fun x H1=>∃ c,x=.bl c/\Q c H1
theorem Qj3 {e:aH} {t:TE} (h:PE X e t) (he:∀ whole,isTrue e X.env whole=(do let v <- whole; standAt e.pos; ai [v] (truthy v)):=by intro _; rfl):PT X e (tB t):=by
 intro pins s σ H Q I hw;refine isTrue_plain (thn (h pins s σ H _ I hw) fun v s1 ⟨x,H1,I1,r1,q1⟩=>?_) (he _)
 obtain ⟨d,rfl,q⟩:=q1;cases r1;exact bA ⟨H1,I1,q⟩
variable {tA tB':TT} {rest:List aH}
def Qs2 (t u:TT):TT:=fun σ H Q=>t σ H fun c H1=>if c=true then u σ H1 Q else Q false H1
def tOr (t u:TT):TT:=fun σ H Q=>t σ H fun c H1=>if c=true then Q true H1 else u σ H1 Q
def Qrx (t:TT):TT:=fun σ H Q=>t σ H fun c H1=>Q (!c) H1
theorem Qgd (ha:PT X a tA):PW X (.BoolOp .And [a] pos) tA:=by
 intro wh pins s σ H Q I h;refine isTrue_and (thn (ha pins s σ H Q I h) fun c s1 e=>?_)
 cases c with
 | true=>exact isTrue_and_nil e
 | false=>exact e
theorem Qj1 (ha:PT X a tA):PW X (.BoolOp .Or [a] pos) tA:=by
 intro wh pins s σ H Q I h;refine isTrue_or (thn (ha pins s σ H Q I h) fun c s1 e=>?_)
 cases c with
 | false=>exact isTrue_or_nil e
 | true=>exact e
theorem Qj2 (ha:PT X a tA) (hb:PW X (.BoolOp .And (b :: rest) pos) tB'):PW X (.BoolOp .And (a :: b :: rest) pos) (Qs2 tA tB'):=by
 intro wh pins s σ H Q I h;refine isTrue_and (thn (ha pins s σ H _ I h) fun c s1 ⟨H1,I1,q1⟩=>?_)
 cases c with
 | true=>exact hb wh pins s1 σ H1 Q I1 q1
 | false=>exact ⟨H1,I1,q1⟩
theorem Qnu (ha:PT X a tA) (hb:PW X (.BoolOp .Or (b :: rest) pos) tB'):PW X (.BoolOp .Or (a :: b :: rest) pos) (tOr tA tB'):=by
 intro wh pins s σ H Q I h;refine isTrue_or (thn (ha pins s σ H _ I h) fun c s1 ⟨H1,I1,q1⟩=>?_)
 cases c with
 | true=>exact ⟨H1,I1,q1⟩
 | false=>exact hb wh pins s1 σ H1 Q I1 q1
theorem Qj4 (ha:PT X a tA):PT X (.UnaryOp .Not a pos) (Qrx tA):=by
 intro pins s σ H Q I h;exact isTrue_not (ha pins s σ H (fun c H1=>Q (!c) H1) I h)
def Qnh (ta tb:TE):TE:=fun σ H Q=>ta σ H fun x H1=>∃ c,x=.bl c/\if c=true then tb σ H1 Q else Q (.bl false) H1
def Qn9 (ta:TE):TE:=fun σ H Q=>ta σ H fun x H1=>∃ c,x=.bl c/\Q (.bl (!c)) H1
theorem Qjf {op} {t:TE} (h:PE X a t):PE X (.BoolOp op [a] pos) t:=fun pins s σ H Q I hw=>BoolOp_one (h pins s σ H Q I hw)
theorem Qjj (ha:PE X a ta) (hb:PE X (.BoolOp .And (b :: rest) pos) tb):PE X (.BoolOp .And (a :: b :: rest) pos) (Qnh ta tb):=by
 intro pins s σ H Q I h;refine BoolOp_and (thn (ha pins s σ H _ I h) fun v s1 ⟨x,H1,I1,r1,q1⟩=>?_)
 obtain ⟨c,rfl,q1⟩:=q1;cases r1;refine bA ?_;cases c with
 | true=>exact hb pins s1 σ H1 Q I1 q1
 | false=>exact ⟨.bl false,H1,I1,rfl,q1⟩
theorem Qjg (ha:PE X a ta):PE X (.UnaryOp .Not a pos) (Qn9 ta):=by
 intro pins s σ H Q I h;refine UnaryOp_ (thn (ha pins s σ H _ I h) fun v s1 ⟨x,H1,I1,r1,q1⟩=>?_)
 obtain ⟨c,rfl,q1⟩:=q1;cases r1;exact not_of (bA ⟨.bl (!c),H1,I1,rfl,q1⟩)
def tIf (t:TT) (ta tb:TE):TE:=fun σ H Q=>t σ H fun c H1=>if c=true then ta σ H1 Q else tb σ H1 Q
theorem Qdw {c:aH} (hc:PT X c tA) (ha:PE X a ta) (hb:PE X b tb):PE X (.IfExp c a b pos) (tIf tA ta tb):=by
 intro pins s σ H Q I h;refine wpAny_IfExp (thn (hc pins s σ H _ I h) fun d s1 ⟨H1,I1,q1⟩=>?_)
 cases d with
 | true=>exact ha pins s1 σ H1 Q I1 q1
 | false=>exact hb pins s1 σ H1 Q I1 q1
end
def SqL (K:PySem.W.Frag) (H:Hp) (a:aB) (xs:List V):Prop:=
 Rd H a (.lst xs) \/
  ∃ (o:Obj) (its:Array aA) (n:Nat),K.lookup a=some o/\o.cls=.type "list" /\ o.dict=none/\o.data=.seq its n/\its.size<=sizeLine/\Vals xs its.toList
def SqT (K:PySem.W.Frag) (H:Hp) (a:aB) (xs:List V):Prop:=
 Rd H a (.tup xs) \/
  ∃ (o:Obj) (its:Array aA) (n:Nat),K.lookup a=some o/\o.cls=.type "tuple" /\ o.data=.seq its n/\its.size<=sizeLine/\Vals xs its.toList
def Qst:aA->Option V
 | .none=>some .non
 | .bool b=>some (.bl b)
 | .int i _=>some (.int i)
 | .str x _=>some (.str x)
 | .bytes b _=>some (.byt b)
 | .float b _=>some (.flt b)
 | .ref a=>some (.ref a)
 | .type n=>some (.ty n)
 | _=>none
theorem RelV.abs {x:V} {u:aA} (r:RelV x u):Qst u=some x:=by
 cases x with
 | non=>cases r; rfl
 | bl _=>cases r; rfl
 | int _=>obtain ⟨t,rfl⟩:=r; rfl
 | str _=>obtain ⟨t,rfl⟩:=r; rfl
 | byt _=>obtain ⟨t,rfl⟩:=r; rfl
 | flt _=>obtain ⟨t,rfl⟩:=r; rfl
 | ref _=>cases r; rfl
 | ty _=>cases r; rfl
theorem RelV.inj {x y:V} {u:aA} (r:RelV x u) (q:RelV y u):x=y:=Option.some.inj (r.abs.symm.trans q.abs)
theorem Vals.inj:∀ {xs ys:List V} {us:List aA},Vals xs us->Vals ys us->xs=ys
 | _,_,_,.nil,.nil=>rfl
 | _,_,_,.cons r t,.cons r' t'=>by rw [r.inj r',Vals.inj t t']
section
variable {X:Cx} {pins:List (aB × Obj)} {σ:St} {H:Hp} {s:aC} {a:aB} {xs ys:List V}
theorem SqL.of {K:PySem.W.Frag} (h:H a=some (.lst xs)):SqL K H a xs:=.inl (.inl h)
theorem SqT.of {K:PySem.W.Frag} (h:H a=some (.tup xs)):SqT K H a xs:=.inl (.inl h)
theorem Inv.list (I:Inv X pins σ H s) (h:SqL X.K H a xs):∃ its:List aA,Vals xs its/\PlainL s.heap a its.toArray/\xs.length<=sizeLine:=by
 rcases h with h | ⟨o,its,n,hk,hc,hd,hs,hz,r⟩
 ·obtain ⟨z,its,n,r,e⟩:=h.ok I.hok;exact ⟨its,r,⟨_,n,e,rfl,rfl,rfl⟩,z⟩
 ·refine ⟨its.toList,r,⟨o,n,I.kIn a o hk,hc,hd,by simpa using hs⟩,?_⟩;have e:=r.length;simp only [Array.length_toList] at e;omega
theorem Inv.tuple (I:Inv X pins σ H s) (h:SqT X.K H a xs):∃ its:List aA,Vals xs its/\IsTup s.heap a its.toArray/\xs.length<=sizeLine:=by
 rcases h with h | ⟨o,its,n,hk,hc,hs,hz,r⟩
 ·obtain ⟨z,its,r,p⟩:=h.ok I.hok;exact ⟨its,r,p,z⟩
 ·refine ⟨its.toList,r,⟨o,I.kIn a o hk,hc,n,by simpa using hs⟩,?_⟩;have e:=r.length;simp only [Array.length_toList] at e;omega
theorem Inv.list_inj (I:Inv X pins σ H s) (h:SqL X.K H a xs) (h':SqL X.K H a ys):xs=ys:=by
 obtain ⟨its,r,⟨o,n,e,_,_,d⟩,_⟩:=I.list h;obtain ⟨its',r',⟨o',n',e',_,_,d'⟩,_⟩:=I.list h';rw [e] at e'; cases e';rw [d] at d';injection d' with d1 _
 have:its=its':=by simpa using congrArg Array.toList d1
 subst this;exact r.inj r'
theorem Inv.tuple_inj (I:Inv X pins σ H s) (h:SqT X.K H a xs) (h':SqT X.K H a ys):xs=ys:=by
 obtain ⟨its,r,⟨o,e,_,n,d⟩,_⟩:=I.tuple h;obtain ⟨its',r',⟨o',e',_,n',d'⟩,_⟩:=I.tuple h';rw [e] at e'; cases e';rw [d] at d';injection d' with d1 _
 have:its=its':=by simpa using congrArg Array.toList d1
 subst this;exact r.inj r'
end
section
variable {X:Cx} {pins:List (aB × Obj)} {σ:St} {H:Hp} {s:aC} {E:aA->aC->Prop}
end
section
variable {X:Cx} {st:aP} {rest:List aP} {t u:TS} {e:aH} {te:TE} {pos:Pos}
def Qna:TS:=fun D σ H=>D.nx σ H
def Qru (t u:TS):TS:=fun D σ H=>t { D with nx:=u D } σ H
theorem Qgi:PSs X [] Qna:=fun _ _ σ H _ I h=>wpAny_execs_nil ⟨σ,H,I,h⟩
theorem Qdj (h1:PS X st t) (h2:PSs X rest u):PSs X (st :: rest) (Qru t u):=by
 intro pins s σ H D I h;refine wpAny_execs_cons (thn (h1 pins s σ H { D with nx:=u D } I h) fun f s1 q=>?_)
 cases f with
 | next=>
  obtain ⟨σ',H',I',q⟩:=q;exact h2 pins s1 σ' H' D I' q
 | ret v=>exact q
 | brk=>exact q
 | cont=>exact q
theorem Qgh (h1:PS X st t):PSs X [st] t:=by
 intro pins s σ H D I h;refine wpAny_execs_cons (thn (h1 pins s σ H D I h) fun f s1 q=>?_)
 cases f with
 | next=>exact wpAny_execs_nil q
 | ret v=>exact q
 | brk=>exact q
 | cont=>exact q
def Qiq:TS:=fun D σ H=>D.bk σ H
theorem Qdm:PS X (.Break pos) Qiq:=fun _ _ σ H _ I h=>wpAny_Break ⟨σ,H,I,h⟩
theorem Inv.quiet {pins:List (aB × Obj)} {σ:St} {H:Hp} {s:aC} (I:Inv X pins σ H s):interactive X.env=false:=by simp [interactive,I.ok.kind]
def Qnb (te:TE):TS:=fun D σ H=>te σ H fun _ H1=>D.nx σ H1
theorem Qgj (he:PE X e te) (hs:swapsWith e none pos.line X.env=pure false:=by rfl):PS X (.Expr e pos) (Qnb te):=by
 intro pins s σ H D I h;exact wpAny_Expr_any (thn (he pins s σ H _ I h) fun v s1 ⟨x,H1,I1,r1,q1⟩=>⟨σ,H1,I1,q1⟩) I.quiet hs
def Qrw (te:TE):TS:=fun D σ H=>te σ H D.rt
theorem Qj6 (he:PE X e te):PS X (.Return (some e) pos) (Qrw te):=by
 intro pins s σ H D I h;exact wpAny_Return_some (thn (he pins s σ H _ I h) fun v s1 ⟨x,H1,I1,r1,q1⟩=>⟨x,σ,H1,I1,r1,q1⟩)
def Qs0 (c:TT) (t u:TS):TS:=fun D σ H=>c σ H fun b H1=>if b=true then t D σ H1 else u D σ H1
theorem Qnw {c:aH} {a b:List aP} {tc:TT} (hc:PT X c tc) (ha:PSs X a t) (hb:PSs X b u):PS X (.If c a b pos) (Qs0 tc t u):=by
 intro pins s σ H D I h;refine wpAny_If (thn (hc pins s σ H _ I h) fun d s1 ⟨H1,I1,q1⟩=>?_)
 cases d with
 | true=>exact ha pins s1 σ H1 D I1 q1
 | false=>exact hb pins s1 σ H1 D I1 q1
end
abbrev TG:=V->St->Hp->(St->Hp->Prop)->Prop
abbrev TGs:=List V->St->Hp->(St->Hp->Prop)->Prop
def PG (X:Cx) (target:aH) (t:TG):Prop:=
 ∀ (pins:List (aB × Obj)) (s:aC) (σ:St) (H:Hp) (v:V) (u:aA) (Q:St->Hp->Prop),Inv X pins σ H s->RelV v u->t v σ H Q ->
  aF (aI X.prog X.w) X.A (assign target X.env u) (fun _ s'=>∃ σ' H',Inv X pins σ' H' s'/\Q σ' H') X.xe s
def PGs (X:Cx) (ts:List aH) (t:TGs):Prop:=
 ∀ (pins:List (aB × Obj)) (s:aC) (σ:St) (H:Hp) (vs:List V) (us:List aA) (Q:St->Hp->Prop),Inv X pins σ H s->Vals vs us->t vs σ H Q ->
  aF (aI X.prog X.w) X.A (assignInOrder ((au ts X.env).map (·.2)) us) (fun _ s'=>∃ σ' H',Inv X pins σ' H' s'/\Q σ' H') X.xe s
abbrev Qfs:=V->V->V->Hp->(Hp->Prop)->Prop
def Qme (X:Cx) (t:Qfs):Prop:=
 ∀ (pins:List (aB × Obj)) (s:aC) (σ:St) (H:Hp) (o i v:V) (ov iv u:aA) (Q:Hp->Prop),Inv X pins σ H s->RelV o ov->RelV i iv->RelV v u->t o i v H Q ->
  aF (aI X.prog X.w) X.A (setItem ov iv u) (fun _ s'=>∃ H',Inv X pins σ H' s'/\Q H') X.xe s
abbrev TIp:=V->V->Hp->VK->Prop
def PIp (X:Cx) (op:Operator) (t:TIp):Prop:=
 ∀ (pins:List (aB × Obj)) (s:aC) (σ:St) (H:Hp) (x y:V) (v u:aA) (Q:VK),Inv X pins σ H s->RelV x v->RelV y u->t x y H Q ->
  aF (aI X.prog X.w) X.A (inplaceOp op v u) (EP X pins σ Q) X.xe s
section
variable {X:Cx} {pos:Pos}
def Q7p (i:Nat):TG:=fun v σ H Q=>Q (σ.set i (some v)) H
theorem Qgw {i:Nat} {x:Str} (hN:X.N.Nodup) (hi:X.N[i]?=some x) (hx:Loc X.env.scope x) (hf:X.fn x=true\/X.env.scope.names.lookup x=some .local:=by first | exact .inl rfl | exact .inr rfl | assumption):PG X (.Name x pos) (Q7p i):=by
 intro pins s σ H v u Q I r h;exact wpAny_assign_Name (Q6b I hN hi hx r (fun s' I'=>⟨_,H,I',h⟩) hf)
def Qq4:TGs:=fun vs σ H Q=>vs=[]/\Q σ H
def Qet (t:TG) (u:TGs):TGs:=fun vs σ H Q=>∃ v r,vs=v :: r/\t v σ H fun σ' H'=>u r σ' H' Q
theorem Qgu:PGs X [] Qq4:=by
 intro pins s σ H vs us Q I r h;obtain ⟨e,h⟩:=h;subst e;cases r;exact assignInOrder_nil ⟨σ,H,I,h⟩
theorem Qds {e:aH} {es:List aH} {t:TG} {u:TGs} (h1:PG X e t) (h2:PGs X es u)
  (hs:(au (e :: es) X.env).map (·.2)=assign e X.env :: (au es X.env).map (·.2):=by rfl):PGs X (e :: es) (Qet t u):=by
 intro pins s σ H vs us Q I r h;obtain ⟨v,vr,e1,h⟩:=h;subst e1;cases r with
 | cons r rr=>
  rw [hs];refine assignInOrder_cons (thn (h1 pins s σ H _ _ _ I r h) fun _ s1 ⟨σ1,H1,I1,q1⟩=>?_)
  exact h2 pins s1 σ1 H1 _ _ Q I1 rr q1
def Qq3 (K:PySem.W.Frag) (n:Nat) (t:TGs):TG:=fun v σ H Q=>∃ a xs,v=.ref a/\SqT K H a xs/\xs.length=n/\t xs σ H Q
theorem Qjb {es:List aH} {k:Nat} {t:TGs} {n:Nat} (hc:X.calm=true) (h:PGs X es t)
  (hn:(au es X.env).length=n:=by rfl) (hst:(au es X.env).findIdx? (·.1)=none:=by rfl):PG X (.Tuple es k pos) (Qq3 X.K n t):=by
 intro pins s σ H v u Q I r hw;obtain ⟨a,xs,e1,hq,hl,hw⟩:=hw;subst e1;cases r;obtain ⟨its,rv,ht,hz⟩:=I.tuple hq;refine assign_Tuple_tuple (I.ok.hd hc) ht (by simp [hn,<- hl,rv.length]) hst fun h' hx=>?_
 have I1:Inv X pins σ H { s with heap:=h' }:=I.kept (t':=s.toks) fun b o e=>hx b o (D4 (O8 e)) e
 exact h pins _ σ H xs _ Q I1 (by simpa using rv) hw
def Qsm (to ti:TE) (t:Qfs):TG:=fun v σ H Q=>to σ H fun o H1=>ti σ H1 fun i H2=>t o i v H2 fun H3=>Q σ H3
theorem Qjc {o i:aH} {to ti:TE} {t:Qfs} (ho:PE X o to) (hi:PE X i ti) (hs:Qme X t)
  (ha:∀ v,assign (.Subscript o i pos) X.env v=(do
   let ov <- ai [v] (aN o X.env)
   let iv <- ai [v,ov] (aN i X.env)
   standAt pos
   ai [v,ov,iv] (setItem ov iv v)
   release [v,ov,iv] []):=by intro _; rfl):PG X (.Subscript o i pos) (Qsm to ti t):=by
 intro pins s σ H v u Q I r h;rw [ha];refine aD (aj (thn (ho pins s σ H _ I h) fun ov s1 ⟨x,H1,I1,r1,q1⟩=>?_))
 refine aD (aj (thn (hi pins s1 σ H1 _ I1 q1) fun iv s2 ⟨y,H2,I2,r2,q2⟩=>?_))
 refine aD (wpAny_standAt (aD (aj (thn (hs pins s2 σ H2 x y v ov iv u _ I2 r1 r2 r q2) fun _ s3 ⟨H3,I3,q3⟩=>?_))))
 exact wpAny_release ⟨σ,H3,I3,q3⟩
def Qir (te:TE) (g:TG):TS:=fun D σ H=>te σ H fun x H1=>g x σ H1 D.nx
theorem Qdn {tg e:aH} {te:TE} {g:TG} (he:PE X e te) (hg:PG X tg g) (hs:swapsWithSole [tg] e pos.line X.env=pure false:=by rfl) (hw:swappedStores [tg] e X.env=pure none:=by rfl)
  (h1:(au [tg] X.env).map (·.2)=[assign tg X.env]:=by rfl):PS X (.Assign [tg] e pos) (Qir te g):=by
 intro pins s σ H D I h;refine wpAny_Assign_stores (thn (he pins s σ H _ I h) fun v s1 ⟨x,H1,I1,r1,q1⟩=>?_) hs hw
 rw [h1];exact thn (hg pins s1 σ H1 x v _ I1 r1 q1) fun _ s2 q=>q
theorem Qj5 {i:Nat} {x:Str} {e:aH} {te:TE} {pos':Pos} (hN:X.N.Nodup) (hi:X.N[i]?=some x) (hx:Loc X.env.scope x) (he:PE X e te) (hs:swapsWith e (some (.Name x pos')) pos.line X.env=pure false:=by rfl) (hf:X.fn x=true\/X.env.scope.names.lookup x=some .local:=by first | exact .inl rfl | exact .inr rfl | assumption) :
  PS X (.Assign [.Name x pos'] e pos) (Qir te (Q7p i)):=by
 intro pins s σ H D I h;refine wpAny_Assign_Name (thn (he pins s σ H _ I h) fun v s1 ⟨y,H1,I1,r1,q1⟩=>?_) hs
 exact Q6b I1 hN hi hx r1 (fun s2 I2=>⟨_,H1,I2,q1⟩) hf
def Qng (to ti te:TE) (tget:V->V->Hp->VK->Prop) (tip:TIp) (tset:Qfs):TS:=fun D σ H=>to σ H fun o H1=>ti σ H1 fun i H2=>tget o i H2 fun x H3=>te σ H3 fun y H4=>tip x y H4 fun z H5=>tset o i z H5 fun H6=>D.nx σ H6
def Qqq (X:Cx) (t:V->V->Hp->VK->Prop):Prop:=
 ∀ (pins:List (aB × Obj)) (s:aC) (σ:St) (H:Hp) (o i:V) (ov iv:aA) (Q:VK),Inv X pins σ H s->RelV o ov->RelV i iv->t o i H Q ->
  aF (aI X.prog X.w) X.A (getItem ov iv) (EP X pins σ Q) X.xe s
theorem Qgm {o i e:aH} {to ti te:TE} {tget:V->V->Hp->VK->Prop} {tip:TIp} {tset:Qfs} {op:Operator} {tpos:Pos} (ho:PE X o to) (hi:PE X i ti) (hg:Qqq X tget) (he:PE X e te) (hp:PIp X op tip) (hs:Qme X tset)
  (ha:∀ ov iv new,augStore i ov iv new=(do ai [new,ov,iv] (setItem ov iv new); release [new,ov,iv] []; pure .next):=by intros; rfl):PS X (.AugAssign (.Subscript o i tpos) op e pos) (Qng to ti te tget tip tset):=by
 intro pins s σ H D I h;refine wpAny_AugAssign_SubscriptAny (thn (ho pins s σ H _ I h) fun ov s1 ⟨x1,H1,I1,r1,q1⟩=>?_) ha
 refine thn (hi pins s1 σ H1 _ I1 q1) fun iv s2 ⟨x2,H2,I2,r2,q2⟩=>?_
 refine thn (hg pins s2 σ H2 x1 x2 ov iv _ I2 r1 r2 q2) fun old s3 ⟨x3,H3,I3,r3,q3⟩=>?_
 refine thn (he pins s3 σ H3 _ I3 q3) fun v s4 ⟨x4,H4,I4,r4,q4⟩=>?_
 refine thn (hp pins s4 σ H4 x3 x4 old v _ I4 r3 r4 q4) fun new s5 ⟨x5,H5,I5,r5,q5⟩=>?_
 exact thn (hs pins s5 σ H5 x1 x2 x5 ov iv new _ I5 r1 r2 r5 q5) fun _ s6 ⟨H6,I6,q6⟩=>⟨σ,H6,I6,q6⟩
def ipI (f:Int->Int->Int):TIp:=fun x y H Q=>∃ i j,x=.int i/\y=.int j/\Q (.int (f i j)) H
theorem Qkn:PIp X .Add (ipI fun i j=>i + j):=by
 intro pins s σ H x y v u Q I r1 r2 h;obtain ⟨i,j,e1,e2,q⟩:=h;subst e1; subst e2;obtain ⟨t,rfl⟩:=r1;obtain ⟨t',rfl⟩:=r2;exact iadd_int ⟨.int _,H,I.tok _,⟨_,rfl⟩,q⟩
theorem Qkm:PIp X .Sub (ipI fun i j=>i - j):=by
 intro pins s σ H x y v u Q I r1 r2 h;obtain ⟨i,j,e1,e2,q⟩:=h;subst e1; subst e2;obtain ⟨t,rfl⟩:=r1;obtain ⟨t',rfl⟩:=r2;exact isub_int ⟨.int _,H,I.tok _,⟨_,rfl⟩,q⟩
end
section
variable {X:Cx} {pos:Pos}
end
structure It where
 go:Nat->Hp->Prop
 yld:Nat->Hp->V->Hp->Prop
 stop:Nat->Hp->Prop
def Q3c (X:Cx) (pins:List (aB × Obj)) (H:Hp) (b:aB):Prop:=
 H b=none/\b≠X.env.locals/\b∉X.fs/\(b∈X.ex\/X.s₀.heap.objs.size<=b)/\(∀ x c,X.env.cells.lookup x=some c->c≠b)/\∀ p∈X.pn ++ pins,p.1≠b
theorem Inv.fpOk {X:Cx} {pins:List (aB × Obj)} {σ:St} {H H':Hp} {s:aC} {b:aB} (I:Inv X pins σ H s) (hb:s.heap.objs.size<=b) (hn:H' b=none):Q3c X pins H' b:=by
 refine ⟨hn,Nat.ne_of_gt (D1 I.lt hb),I.nofs hb,.inr (E7 I.sz hb),fun x c e z=>?_,fun p hp z=>?_⟩
 ·obtain ⟨v,q⟩:=I.cell x c e;exact absurd (D1 q.lt (by rw [z]; exact hb)) (Nat.lt_irrefl _)
 ·exact absurd (D1 (O8 (I.pin p hp).1) (by rw [z]; exact hb)) (Nat.lt_irrefl _)
structure Turn (P:aL) (w:aK) (K:PySem.W.Frag) (tg:aH) (J:It) (fp:List aB) (it:aB) (tn:Nat->Heap->Prop):Prop where
 mem:it∈fp
 obj:∀ i h,tn i h->∀ b∈fp,∃ o,h.get? b=some o/\∀ v,o.data≠.cell v
 keep:∀ i h h',tn i h->(∀ b∈fp,∀ o,h.get? b=some o->h'.get? b=some o)->tn i h'
 item:∀ (X:Cx),X.prog=P->X.w=w->X.K=K->X.calm=true->∀ (i:Nat) (pins:List (aB × Obj)) (s:aC) (σ:St) (H:Hp) (E:aA->aC->Prop),Inv X pins σ H s->(∀ b∈fp,Q3c X pins H b)->tn i s.heap->J.go i H ->
  aF (aI P w) X.A (af (.ref it)) (fun r s1=>∃ u,r=some u /\
   aF (aI P w) X.A (letOwnedTupleGo tg (.ref it) u) (fun _ s2=>∃ x H',Inv X pins σ H' s2/\RelV x u/\J.yld i H x H'/\tn (i + 1) s2.heap/\∀ b∈fp,H' b=none) E s1) E s
 done:∀ (X:Cx),X.prog=P->X.w=w->X.K=K->X.calm=true->∀ (i:Nat) (pins:List (aB × Obj)) (s:aC) (σ:St) (H:Hp) (E:aA->aC->Prop),Inv X pins σ H s->(∀ b∈fp,Q3c X pins H b)->tn i s.heap->J.stop i H ->
  aF (aI P w) X.A (af (.ref it)) (fun r s1=>r=none/\Inv X pins σ H s1) E s
 self:∀ (A:aM) (i:Nat) (s:aC) (Q:aA->aC->Prop) (E:aA->aC->Prop),tn i s.heap->Q (.ref it) s->aF (aI P w) A (pyIter (.ref it)) Q E s
abbrev TI:=St->Hp->(It->Hp->Prop)->Prop
def PIE (X:Cx) (pins:List (aB × Obj)) (σ:St) (tg:aH) (R:It->Hp->Prop) (itv:aA) (s2:aC):Prop:=
 ∃ (it:aB) (fp:List aB) (tn:Nat->Heap->Prop) (J:It) (H':Hp),itv=.ref it/\Inv X pins σ H' s2/\Turn X.prog X.w X.K tg J fp it tn/\tn 0 s2.heap/\(∀ b∈fp,Q3c X pins H' b)/\R J H'
def PI (X:Cx) (tg iter:aH) (wi:TI):Prop:=
 ∀ (pins:List (aB × Obj)) (s:aC) (σ:St) (H:Hp) (R:It->Hp->Prop),Inv X pins σ H s->wi σ H R ->
  aF (aI X.prog X.w) X.A (aN iter X.env) (fun v s1=>aF (aI X.prog X.w) X.A (pyIter v) (PIE X pins σ tg R) X.xe s1) X.xe s
theorem Qer {M:Model} {A:aM} {E:aA->aC->Prop} {s:aC} {tg:aH} {it:aB} {u:aA} {o:Obj} {n:String} {vs:Array aA} {Q:Unit->aC->Prop} (ho:s.heap.get? it=some o) (hc:o.cls=.type n) (hd:o.data=.fields vs)
  (hn:["enumerate", "zip", "dict_itemiterator", "dict_reverseitemiterator", "odict_iterator", "itertools.zip_longest", "itertools.pairwise"].contains n=false) (hQ:Q () s):aF M A (letOwnedTupleGo tg (.ref it) u) Q E s:=by
 unfold letOwnedTupleGo;cases tg <;> first
  | exact aJ hQ
  | (cases u <;> first
    | exact aJ hQ
    | (refine aD (wpAny_load ho ?_)
       rw [hc,hd];show aF M A (if (["enumerate", "zip", "dict_itemiterator", "dict_reverseitemiterator", "odict_iterator", "itertools.zip_longest", "itertools.pairwise"].contains n && vs[0]? == some (aS _))=true then _ else _) Q E s;rw [bT (by intro h; rw [hn,E8] at h; cases h)];exact aJ hQ))
def Itl (K:PySem.W.Frag) (a:aB):It:=
 ⟨fun i H=>∃ xs x,SqL K H a xs/\xs[i]?=some x,fun i H x H'=>H'=H/\∀ xs,SqL K H a xs->xs[i]?=some x,fun i H=>∃ xs,SqL K H a xs/\xs.length<=i⟩
def Itt (K:PySem.W.Frag) (a:aB):It:=
 ⟨fun i H=>∃ xs x,SqT K H a xs/\xs[i]?=some x,fun i H x H'=>H'=H/\∀ xs,SqT K H a xs->xs[i]?=some x,fun i H=>∃ xs,SqT K H a xs/\xs.length<=i⟩
def Itr (lo:Int) (n:Nat):It:=⟨fun i _=>i < n,fun i H x H'=>H'=H/\x=.int (lo + i),fun i _=>n<=i⟩
theorem Qas {P:aL} {w:aK} {K:PySem.W.Frag} {tg:aH} (a it:aB):Turn P w K tg (Itl K a) [it] it (fun i h=>h.IsListIter it a i) where
 mem:=by simp
 obj:=fun i h st b hb=>by
  have e:b=it:=by simpa using hb
  subst e;obtain ⟨o,e,c,d⟩:=st;exact ⟨o,e,fun v z=>by rw [d] at z; cases z⟩
 keep:=fun i h h' st k=>st.at fun o e=>k it (by simp) o e
 item:=by
  intro X hP hw hK hc i pins s σ H E I hf st hg;subst hP hw hK;obtain ⟨xs,x,hq,hx⟩:=hg;obtain ⟨its,rv,p,hz⟩:=I.list hq;obtain ⟨u,hu,ru⟩:=rv.get hx;obtain ⟨f0,f1,f2,f3,f4,f5⟩:=hf it (by simp);refine wpAny_pyNext_list_item st p.isList (x:=u) (by simpa using hu) fun h' st' sb=>?_
  have I1:Inv X pins σ H { s with heap:=h' }:=I.turned (t':=s.toks) (fun b o hb e=>(sb.2 b hb).trans e) f0 f1 f3 f4 f5
  obtain ⟨o,e,c,d⟩:=id st';exact ⟨u,rfl,Qer (s:={ s with heap:=h' }) e c d (by decide) ⟨x,H,I1,ru,⟨rfl,fun ys hy=>by rw [I.list_inj hy hq]; exact hx⟩,st',fun b hb=>(hf b hb).1⟩⟩
 done:=by
  intro X hP hw hK hc i pins s σ H E I hf st hg;subst hP hw hK;obtain ⟨xs,hq,hx⟩:=hg;obtain ⟨its,rv,p,hz⟩:=I.list hq;obtain ⟨f0,f1,f2,f3,f4,f5⟩:=hf it (by simp);have hl:=rv.length;exact wpAny_pyNext_list_end (I.ok.hd hc) st p.isList (by simp; omega) fun h' eb=>⟨rfl,I.turned (t':=s.toks) (fun b o hb e=>eb b o hb e) f0 f1 f3 f4 f5⟩
 self:=fun _ _ _ _ _ st h=>wpAny_pyIter_listiter st h
theorem Q8f {P:aL} {w:aK} {K:PySem.W.Frag} {tg:aH} (a it:aB):Turn P w K tg (Itt K a) [it] it (fun i h=>h.IsTupleIter it a i) where
 mem:=by simp
 obj:=fun i h st b hb=>by
  have e:b=it:=by simpa using hb
  subst e;obtain ⟨o,e,c,d⟩:=st;exact ⟨o,e,fun v z=>by rw [d] at z; cases z⟩
 keep:=fun i h h' st k=>st.at fun o e=>k it (by simp) o e
 item:=by
  intro X hP hw hK hc i pins s σ H E I hf st hg;subst hP hw hK;obtain ⟨xs,x,hq,hx⟩:=hg;obtain ⟨its,rv,p,hz⟩:=I.tuple hq;obtain ⟨u,hu,ru⟩:=rv.get hx;obtain ⟨f0,f1,f2,f3,f4,f5⟩:=hf it (by simp);refine wpAny_pyNext_tuple_item st (show s.heap.IsTuple a its.toArray from p) (x:=u) (by simpa using hu) fun h' st' sb=>?_
  have I1:Inv X pins σ H { s with heap:=h' }:=I.turned (t':=s.toks) (fun b o hb e=>(sb.2 b hb).trans e) f0 f1 f3 f4 f5
  obtain ⟨o,e,c,d⟩:=id st';exact ⟨u,rfl,Qer (s:={ s with heap:=h' }) e c d (by decide) ⟨x,H,I1,ru,⟨rfl,fun ys hy=>by rw [I.tuple_inj hy hq]; exact hx⟩,st',fun b hb=>(hf b hb).1⟩⟩
 done:=by
  intro X hP hw hK hc i pins s σ H E I hf st hg;subst hP hw hK;obtain ⟨xs,hq,hx⟩:=hg;obtain ⟨its,rv,p,hz⟩:=I.tuple hq;obtain ⟨f0,f1,f2,f3,f4,f5⟩:=hf it (by simp);have hl:=rv.length;exact wpAny_pyNext_tuple_end (I.ok.hd hc) st (show s.heap.IsTuple a its.toArray from p) (by simp; omega) fun h' eb=>⟨rfl,I.turned (t':=s.toks) (fun b o hb e=>eb b o hb e) f0 f1 f3 f4 f5⟩
 self:=fun _ _ _ _ _ st h=>wpAny_pyIter_tupleiter st h
theorem Q8g {P:aL} {w:aK} {K:PySem.W.Frag} {tg:aH} (it:aB) (lo:Int) (n:Nat):Turn P w K tg (Itr lo n) [it] it (fun i h=>IsRangeIter h it (lo + (i:Nat) * 1) ((n:Int) - (i:Nat)) 1) where
 mem:=by simp
 obj:=fun i h st b hb=>by
  have e:b=it:=by simpa using hb
  subst e;exact ⟨_,st,fun v z=>by
   have z':Data.fields _=Data.cell v:=z;cases z'⟩
 keep:=fun i h h' st k=>k it (by simp) _ st
 item:=by
  intro X hP hw hK hc i pins s σ H E I hf st hg;subst hP hw hK;obtain ⟨f0,f1,f2,f3,f4,f5⟩:=hf it (by simp);have W:=Walks.range (prog:=X.prog) (w:=X.w) (I.ok.hd hc) it lo 1 n;refine W.item i s _ _ hg st fun v h' tk hv st' kk=>?_
  obtain ⟨t,rfl⟩:=hv;have I1:Inv X pins σ H { s with heap:=h',toks:=tk }:=I.turned (fun b o hb e=>kk b o (by simpa using hb) e) f0 f1 f3 f4 f5
  refine ⟨_,rfl,Qer (s:={ s with heap:=h',toks:=tk }) (n := "range_iterator") st' rfl rfl (by decide) ⟨.int (lo + i),H,I1,⟨t,?_⟩,⟨rfl,rfl⟩,st',fun b hb=>(hf b hb).1⟩⟩
  rw [Int.mul_one]
 done:=by
  intro X hP hw hK hc i pins s σ H E I hf st hg;subst hP hw hK;obtain ⟨f0,f1,f2,f3,f4,f5⟩:=hf it (by simp);exact wpAny_pyNext_range_end (I.ok.hd hc) st (by have:n<=i:=hg; omega) fun h' eb=>⟨rfl,I.turned (t':=s.toks) (fun b o hb e=>eb b o hb e) f0 f1 f3 f4 f5⟩
 self:=fun _ _ _ _ _ st h=>wpAny_pyIter_rangeiter st h
section
variable {X:Cx} {tg:aH}
def Qpz (K:PySem.W.Frag) (tl:TE):TI:=fun σ H R=>tl σ H fun x H1=>∃ a,x=.ref a/\(∃ xs,SqL K H1 a xs)/\R (Itl K a) H1
def Qsk (K:PySem.W.Frag) (tl:TE):TI:=fun σ H R=>tl σ H fun x H1=>∃ a,x=.ref a/\(∃ xs,SqT K H1 a xs)/\R (Itt K a) H1
theorem Qgs {l:aH} {tl:TE} (hl:PE X l tl):PI X tg l (Qpz X.K tl):=by
 intro pins s σ H R I h;refine thn (hl pins s σ H _ I h) fun v s1 ⟨x,H1,I1,r1,q1⟩=>?_
 obtain ⟨a,e,⟨xs,hq⟩,q⟩:=q1;subst e;cases r1;obtain ⟨its,rv,p,hz⟩:=I1.list hq;refine wpAny_pyIter_list p.isList ?_;refine ⟨s1.heap.objs.size,[s1.heap.objs.size],_,_,H1,rfl,I1.kept (t':=s1.toks) fun b o e=>O1 _ e,Qas a _,⟨_,I0 _ rfl,rfl,rfl⟩,fun b hb=>?_,q⟩
 have e:b=s1.heap.objs.size:=by simpa using hb
 subst e;exact I1.fpOk (O9 _) (I1.hok.fresh (O9 _))
theorem Qja {l:aH} {tl:TE} (hl:PE X l tl):PI X tg l (Qsk X.K tl):=by
 intro pins s σ H R I h;refine thn (hl pins s σ H _ I h) fun v s1 ⟨x,H1,I1,r1,q1⟩=>?_
 obtain ⟨a,e,⟨xs,hq⟩,q⟩:=q1;subst e;cases r1;obtain ⟨its,rv,p,hz⟩:=I1.tuple hq;refine bK (show s1.heap.IsTuple a its.toArray from p) ?_;refine ⟨s1.heap.objs.size,[s1.heap.objs.size],_,_,H1,rfl,I1.kept (t':=s1.toks) fun b o e=>O1 _ e,Q8f a _,⟨_,I0 _ rfl,rfl,rfl⟩,fun b hb=>?_,q⟩
 have e:b=s1.heap.objs.size:=by simpa using hb
 subst e;exact I1.fpOk (O9 _) (I1.hok.fresh (O9 _))
theorem Q6s {pins:List (aB × Obj)} {σ:St} {H:Hp} {s:aC} {R:It->Hp->Prop} {E:aA->aC->Prop} {lo hi:Int} {t u v:Tok} {tk:Nat} (I:Inv X pins σ H s) (h1:-(2 ^ 62)<=lo) (h2:lo < 2 ^ 62) (h3:-(2 ^ 62)<=hi) (h4:hi < 2 ^ 62)
  (q:R (Itr lo (hi - lo).toNat) H):aF (aI X.prog X.w) X.A (pyIter (.ref s.heap.objs.size)) (PIE X pins σ tg R) E { s with heap:=s.heap.push { cls:=.type "range",data:=.fields #[.int lo t,.int hi u,.int 1 v] },toks:=tk }:=by
 refine wpAny_pyIter_range (IsRange.new ..) (small_one h1 h2 h3 h4) ?_;have I1:Inv X pins σ H { s with heap:=s.heap.push { cls:=.type "range",data:=.fields #[.int lo t,.int hi u,.int 1 v] },toks:=tk }:=I.kept fun b o e=>O1 _ e
 refine ⟨(s.heap.push { cls:=.type "range",data:=.fields #[.int lo t,.int hi u,.int 1 v] }).objs.size,[(s.heap.push { cls:=.type "range",data:=.fields #[.int lo t,.int hi u,.int 1 v] }).objs.size],_,_,H,rfl,
  I1.kept (t':=tk) fun b o e=>O1 _ e,Q8g _ lo (hi - lo).toNat,?_,fun b hb=>?_,q⟩
 ·have e1:lo + ((0:Nat):Int) * 1=lo:=by simp
  have e2:(((hi - lo).toNat:Nat):Int) - ((0:Nat):Int)=Builtin.Range.rangeSize lo hi 1:=by rw [rangeSize_one]; split <;> omega
  show IsRangeIter _ _ (lo + ((0:Nat):Int) * 1) ((((hi - lo).toNat:Nat):Int) - ((0:Nat):Int)) 1;rw [e1,e2];exact I0 _ rfl
 ·have e:b=(s.heap.push { cls:=.type "range",data:=.fields #[.int lo t,.int hi u,.int 1 v] }).objs.size:=by simpa using hb
  subst e;exact I1.fpOk (O9 _) (I1.hok.fresh (O9 _))
def Qpy (ta:TA):TI:=fun σ H R=>ta σ H fun vs H1=>∃ j:Int,vs=[.int j]/\-(2 ^ 62)<=j/\j < 2 ^ 62/\R (Itr 0 j.toNat) H1
def Qpx (ta:TA):TI:=fun σ H R=>ta σ H fun vs H1=>∃ i j:Int,vs=[.int i,.int j]/\(-(2 ^ 62)<=i/\i < 2 ^ 62/\-(2 ^ 62)<=j/\j < 2 ^ 62)/\R (Itr i (j - i).toNat) H1
theorem Qb2 {a:aH} {ta:TA} {p pos:Pos} (hg:Gl X "range") (hm:X.mg "range" = none) (ha:PA X [a] ta) (hs:aO [a] X.env=[(false,aN a X.env)]:=by rfl):PI X tg (.Call (.Name "range" p) [a] [] pos) (Qpy ta):=by
 intro pins s σ H R I h;refine Call_ (zy I hg hm boot_range (PyProof.Rows.callWith_type1 (thn (ha pos pins s σ H _ I h) fun us s1 ⟨vs,H1,I1,r1,q1⟩=>?_) hs rfl))
 obtain ⟨j,e,q1,q2,q⟩:=q1;subst e;cases r1 with
 | cons r rr=>
  cases rr;obtain ⟨t,rfl⟩:=r;exact call_range_1 (Q6s I1 (by omega) (by omega) q1 q2 (by simpa using q))
theorem Qb1 {a b:aH} {ta:TA} {p pos:Pos} (hg:Gl X "range") (hm:X.mg "range" = none) (ha:PA X [a,b] ta) (hs:aO [a,b] X.env=[(false,aN a X.env),(false,aN b X.env)]:=by rfl) (hs2:aO [b] X.env=[(false,aN b X.env)]:=by rfl) :
  PI X tg (.Call (.Name "range" p) [a,b] [] pos) (Qpx ta):=by
 intro pins s σ H R I h;refine Call_ (zy I hg hm boot_range (PyProof.Rows.callWith_type1 (thn (ha pos pins s σ H _ I h) fun us s1 ⟨vs,H1,I1,r1,q1⟩=>?_) (by rw [hs,hs2]) (by rw [hs2]; rfl)))
 obtain ⟨i,j,e,⟨q1,q2,q3,q4⟩,q⟩:=q1;subst e;cases r1 with
 | cons r rr=>
  cases rr with
  | cons r' rr=>
   cases rr;obtain ⟨t,rfl⟩:=r;obtain ⟨t',rfl⟩:=r';exact call_range_2 (Q6s I1 q1 q2 q3 q4 q)
def Qs1 (wi:TI) (g:TG) (tb:TS):TS:=fun D σ H=>wi σ H fun J H1=>∃ W:Nat->Nat->St->Hp->Prop,(∃ m,W 0 m σ H1)/\∀ i m σ H,W i m σ H ->
 (J.stop i H/\D.nx σ H)\/(J.go i H/\∃ N:St->Hp->Prop,(∀ σ' H',N σ' H'->∃ m',m' < m/\W (i + 1) m' σ' H')/\∀ x H',J.yld i H x H'->g x σ H' fun σ2 H2=>tb { D with nx:=N,ct:=N,bk:=D.nx } σ2 H2)
def Q2c (fp:List aB) (h:Heap):List (aB × Obj):=fp.filterMap fun b=>(h.get? b).map fun o=>(b,o)
theorem Uc {fp:List aB} {h:Heap} {b:aB} {o:Obj} (hb:b∈fp) (e:h.get? b=some o):(b,o)∈Q2c fp h:=List.mem_filterMap.mpr ⟨b,hb,by rw [e]; rfl⟩
theorem Qb7 {fp:List aB} {h:Heap} {p:aB × Obj} (hp:p∈Q2c fp h):p.1∈fp/\h.get? p.1=some p.2:=by
 obtain ⟨b,hb,e⟩:=List.mem_filterMap.mp hp;cases q:h.get? b with
 | none=>rw [q] at e; cases e
 | some o=>
  rw [q] at e;have e':(b,o)=p:=Option.some.inj e;subst e';exact ⟨hb,q⟩
theorem Inv.pinned {pins:List (aB × Obj)} {σ:St} {H:Hp} {s:aC} {fp:List aB} (I:Inv X pins σ H s) (hf:∀ b∈fp,Q3c X pins H b) (ho:∀ b∈fp,∃ o,s.heap.get? b=some o/\∀ v,o.data≠.cell v):Inv X (pins ++ Q2c fp s.heap) σ H s:=
 I.pins_of fun p hp=>(E3.mp hp).elim (fun z=>I.pin p (E6 _ z)) fun z=>by
  obtain ⟨hb,e⟩:=Qb7 z;obtain ⟨f0,f1,f2,_⟩:=hf p.1 hb;obtain ⟨o,e',d⟩:=ho p.1 hb;rw [e] at e'; cases e';exact ⟨e,f0,f1,f2,d⟩
theorem Inv.unpinned {pins pl:List (aB × Obj)} {σ:St} {H:Hp} {s:aC} (I:Inv X (pins ++ pl) σ H s):Inv X pins σ H s:=I.pins_of fun p hp=>I.pin p (E6 _ (G9 _ hp))
theorem Qj7 {iter:aH} {body:List aP} {wi:TI} {g:TG} {tb:TS} {pos:Pos} (hp:PassesOwn (aI X.prog X.w) X.A X.env X.xe) (hc:X.calm=true) (hi:PI X tg iter wi) (hg:PG X tg g) (hb:PSs X body tb)
  (hs:∀ x,bG iter X.env x=pure x:=by intro _; rfl):PS X (.For tg iter body [] pos) (Qs1 wi g tb):=by
 intro pins s σ H D I h;refine wpAny_For (thn (hi pins s σ H _ I h) fun v s1 h1=>thn h1 fun itv s2 h2=>?_) hs
 obtain ⟨it,fp,tn,J,H2,e,I2,T,st2,f2,W,⟨m0,w0⟩,turn⟩:=h2;subst e;have stat:∀ {H':Hp},(∀ b∈fp,H' b=none)->∀ b∈fp,Q3c X pins H' b:=fun hn b hb=>⟨hn b hb,(f2 b hb).2⟩
 refine codeAny_forLoop_any (fun n s'=>∃ i σ' H',Inv X pins σ' H' s'/\tn i s'.heap/\(∀ b∈fp,H' b=none)/\W i n σ' H') ?_ m0 ⟨0,σ,H2,I2,st2,fun b hb=>(f2 b hb).1,w0⟩
 rintro n s3 ⟨i,σ3,H3,I3,st3,fr3,w3⟩;rcases turn i n σ3 H3 w3 with ⟨stop,qn⟩ | ⟨go,N,hN,step⟩
 ·refine bO hp (thn (T.done X rfl rfl rfl hc i pins s3 σ3 H3 X.xe I3 (stat fr3) st3 stop) fun r s4 ⟨hr,I4⟩=>?_)
  subst hr;exact wpAny_execs_nil ⟨σ3,H3,I4,qn⟩
 ·refine bO hp (thn (T.item X rfl rfl rfl hc i pins s3 σ3 H3 X.xe I3 (stat fr3) st3 go) fun r s4 ⟨u,hr,h4⟩=>?_)
  subst hr;refine bO hp (thn h4 fun _ s5 ⟨x,H5,I5,r5,y5,st5,fr5⟩=>?_);have I5':=I5.pinned (stat fr5) (T.obj _ _ st5);refine bO hp (thn (hg _ s5 σ3 H5 x u _ I5' r5 (step x H5 y5)) fun _ s6 ⟨σ6,H6,I6,q6⟩=>?_)
  refine bO hp (thn (hb _ s6 σ6 H6 _ I6 q6) fun f s7 q7=>?_)
  have again:∀ {σ7:St} {H7:Hp},Inv X (pins ++ Q2c fp s5.heap) σ7 H7 s7->N σ7 H7->∃ m,m < n/\∃ i σ' H',Inv X pins σ' H' s7/\tn i s7.heap/\(∀ b∈fp,H' b=none)/\W i m σ' H':=fun {σ7 H7} I7 n7=>by
   obtain ⟨m',hm,w7⟩:=hN σ7 H7 n7;refine ⟨m',hm,i + 1,σ7,H7,I7.unpinned,T.keep _ _ _ st5 fun b hb o e=>(I7.pin (b,o) (E6 _ (E6 _ (Uc hb e)))).1,fun b hb=>?_,w7⟩;obtain ⟨o,e,d⟩:=T.obj _ _ st5 b hb;exact (I7.pin (b,o) (E6 _ (E6 _ (Uc hb e)))).2.1
  cases f with
  | next=>obtain ⟨σ7,H7,I7,n7⟩:=q7; exact again I7 n7
  | cont=>obtain ⟨σ7,H7,I7,n7⟩:=q7; exact again I7 n7
  | brk=>obtain ⟨σ7,H7,I7,q7⟩:=q7; exact ⟨σ7,H7,I7.unpinned,q7⟩
  | ret v=>obtain ⟨x7,σ7,H7,I7,r7,q7⟩:=q7; exact ⟨x7,σ7,H7,I7.unpinned,r7,q7⟩
end
abbrev R2:=V->V->Hp->VK->Prop
def OpR (X:Cx) (f:aA->aA->Sem aA) (r:R2):Prop:=
 ∀ (pins:List (aB × Obj)) (s:aC) (σ:St) (H:Hp) (x y:V) (v u:aA) (Q:VK),Inv X pins σ H s->RelV x v->RelV y u->r x y H Q ->
  aF (aI X.prog X.w) X.A (f v u) (EP X pins σ Q) X.xe s
def UnR (X:Cx) (f:aA->Sem aA) (r:V->Hp->VK->Prop):Prop:=
 ∀ (pins:List (aB × Obj)) (s:aC) (σ:St) (H:Hp) (x:V) (v:aA) (Q:VK),Inv X pins σ H s->RelV x v->r x H Q ->
  aF (aI X.prog X.w) X.A (f v) (EP X pins σ Q) X.xe s
def U4 (X:Cx) (f:aA) (r:List V->Hp->VK->Prop):Prop:=
 ∀ (pins:List (aB × Obj)) (s:aC) (σ:St) (H:Hp) (xs:List V) (us:List aA) (Q:VK),Inv X pins σ H s->Vals xs us->r xs H Q ->
  aF (aI X.prog X.w) X.A (call f us) (EP X pins σ Q) X.xe s
def tOp (r:R2) (ta tb:TE):TE:=fun σ H Q=>ta σ H fun x H1=>tb σ H1 fun y H2=>r x y H2 Q
def tUn (r:V->Hp->VK->Prop) (ta:TE):TE:=fun σ H Q=>ta σ H fun x H1=>r x H1 Q
def rI (C:Int->Int->Prop) (g:Int->Int->V):R2:=fun x y H Q=>∃ i j,x=.int i/\y=.int j/\C i j/\Q (g i j) H
def rI0 (g:Int->Int->V):R2:=fun x y H Q=>∃ i j,x=.int i/\y=.int j/\Q (g i j) H
def rU (g:Int->V):V->Hp->VK->Prop:=fun x H Q=>∃ i,x=.int i/\Q (g i) H
section
variable {X:Cx} {a b c:aH} {ta tb tc:TE} {pos:Pos}
theorem Qm9 (ha:PE X a ta) (hb:PE X b tb) {pins:List (aB × Obj)} {s:aC} {σ:St} {H:Hp} {R:V->V->Hp->Prop} (I:Inv X pins σ H s)
  (h:ta σ H fun x H1=>tb σ H1 fun y H2=>R x y H2) {Q:aA->aC->Prop} {f:aA->aA->Sem aA}
  (hf:∀ v u s2 x y H2,Inv X pins σ H2 s2->RelV x v->RelV y u->R x y H2->aF (aI X.prog X.w) X.A (f v u) Q X.xe s2) :
  aF (aI X.prog X.w) X.A (aN a X.env) (fun v s₁=>aF (aI X.prog X.w) X.A (aN b X.env) (fun u s₂=>aF (aI X.prog X.w) X.A (f v u) Q X.xe s₂) X.xe s₁) X.xe s:=by
 refine thn (ha pins s σ H _ I h) fun v s1 ⟨x,H1,I1,r1,q1⟩=>?_
 refine thn (hb pins s1 σ H1 _ I1 q1) fun u s2 ⟨y,H2,I2,r2,q2⟩=>?_
 exact hf v u s2 x y H2 I2 r1 r2 q2
theorem Qic {op:Operator} {r:R2} (ho:OpR X (aZ op) r) (ha:PE X a ta) (hb:PE X b tb):PE X (.BinOp a op b pos) (tOp r ta tb):=by
 intro pins s σ H Q I h;exact wpAny_BinOp (Qm9 ha hb I h fun v u s2 x y H2 I2 rx ry q=>ho pins s2 σ H2 x y v u Q I2 rx ry q)
theorem Qnz {op:UnaryOp} {r:V->Hp->VK->Prop} (ho:UnR X (unaryOp op) r) (ha:PE X a ta):PE X (.UnaryOp op a pos) (tUn r ta):=by
 intro pins s σ H Q I h;exact UnaryOp_ (thn (ha pins s σ H _ I h) fun v s1 ⟨x,H1,I1,r1,q1⟩=>ho pins s1 σ H1 x v Q I1 r1 q1)
theorem opI {f:aA->aA->Sem aA} {C:Int->Int->Prop} {g:Int->Int->Int}
  (rule:∀ (i j:Int) (t u:Tok) (s:aC) (Q:aA->aC->Prop) (E:aA->aC->Prop),C i j->Q (.int (g i j) s.toks) { s with toks:=s.toks + 1 }->aF (aI X.prog X.w) X.A (f (.int i t) (.int j u)) Q E s) :
  OpR X f (rI C fun i j=>.int (g i j)):=by
 intro pins s σ H x y v u Q I rx ry h;obtain ⟨i,j,rfl,rfl,hc,q⟩:=h;obtain ⟨t,rfl⟩:=rx;obtain ⟨t',rfl⟩:=ry;exact rule i j t t' s _ _ hc ⟨.int (g i j),H,I.tok _,⟨_,rfl⟩,q⟩
theorem Qp9 {f:aA->aA->Sem aA} {g:Int->Int->Int}
  (rule:∀ (i j:Int) (t u:Tok) (s:aC) (Q:aA->aC->Prop) (E:aA->aC->Prop),Q (.int (g i j) s.toks) { s with toks:=s.toks + 1 }->aF (aI X.prog X.w) X.A (f (.int i t) (.int j u)) Q E s) :
  OpR X f (rI0 fun i j=>.int (g i j)):=by
 intro pins s σ H x y v u Q I rx ry h;obtain ⟨i,j,rfl,rfl,q⟩:=h;obtain ⟨t,rfl⟩:=rx;obtain ⟨t',rfl⟩:=ry;exact rule i j t t' s _ _ ⟨.int (g i j),H,I.tok _,⟨_,rfl⟩,q⟩
theorem Qhb {f:aA->aA->Sem aA} {g:Int->Int->Bool}
  (rule:∀ (i j:Int) (t u:Tok) (s:aC) (Q:aA->aC->Prop) (E:aA->aC->Prop),Q (.bool (g i j)) s->aF (aI X.prog X.w) X.A (f (.int i t) (.int j u)) Q E s) :
  OpR X f (rI0 fun i j=>.bl (g i j)):=by
 intro pins s σ H x y v u Q I rx ry h;obtain ⟨i,j,rfl,rfl,q⟩:=h;obtain ⟨t,rfl⟩:=rx;obtain ⟨t',rfl⟩:=ry;exact rule i j t t' s _ _ ⟨.bl (g i j),H,I,rfl,q⟩
def Qsx (i j:Int):Prop:=0 < j/\j < 1073741824
def Qsw (i j:Int):Prop:=0<=j/\j<=1000000/\i.natAbs < 2 ^ 64
def CMul (i j:Int):Prop:=(-(2 ^ 64) < i/\i < 2 ^ 64)\/(-(2 ^ 64) < j/\j < 2 ^ 64)
theorem CMul.ok {i j:Int} (h:CMul i j):IntMulOk i j:=by
 rcases h with ⟨h1,h2⟩ | ⟨h1,h2⟩
 ·exact .of_left (intBits_le_64 h1 h2)
 ·exact .of_right (intBits_le_64 h1 h2)
theorem Qjv:OpR X (aZ .Add) (rI0 fun i j=>.int (i + j)):=Qp9 fun _ _ _ _ _ _ _ q=>add_int q
theorem Qjn:OpR X (aZ .Sub) (rI0 fun i j=>.int (i - j)):=Qp9 fun _ _ _ _ _ _ _ q=>sub_int q
theorem Qjr:OpR X (aZ .Mult) (rI CMul fun i j=>.int (i * j)):=opI fun _ _ _ _ _ _ _ hc q=>mul_int q hc.ok
theorem Qh9:OpR X (aZ .FloorDiv) (rI Qsx fun i j=>.int (i / j)):=opI fun i j _ _ _ _ _ hc q=>by
 have h1:(0:Int) < j:=hc.1;have h2:j < 1073741824:=hc.2;exact floordiv_int (by omega) (by rw [Int.fdiv_eq_ediv_of_nonneg i (by omega)]; exact q) (.inl (PyProof.noPylong_small (by omega)))
theorem Qjs:OpR X (aZ .Mod) (rI (fun _ j=>0 < j) fun i j=>.int (i % j)):=opI fun i j _ _ _ _ _ hc q=>by
 have h1:(0:Int) < j:=hc;exact mod_int' (by omega) (by rw [Int.fmod_eq_emod_of_nonneg i (by omega)]; exact q)
theorem Qjq:OpR X (aZ .Pow) (rI Qsw fun i j=>.int (i ^ j.toNat)):=opI fun _ _ _ _ _ _ _ hc q=>pow_int_small hc.1 hc.2.1 hc.2.2 q
theorem unI {f:aA->Sem aA} {g:Int->Int}
  (rule:∀ (i:Int) (t:Tok) (s:aC) (Q:aA->aC->Prop) (E:aA->aC->Prop),Q (.int (g i) s.toks) { s with toks:=s.toks + 1 }->aF (aI X.prog X.w) X.A (f (.int i t)) Q E s) :
  UnR X f (rU fun i=>.int (g i)):=by
 intro pins s σ H x v Q I rx h;obtain ⟨i,rfl,q⟩:=h;obtain ⟨t,rfl⟩:=rx;exact rule i t s _ _ ⟨.int (g i),H,I.tok _,⟨_,rfl⟩,q⟩
theorem Qii:UnR X (unaryOp .USub) (rU fun i=>.int (-i)):=unI fun _ _ _ _ _ q=>neg_int q
end
section
variable {X:Cx} {a b c:aH} {ta tb tc:TE} {pos:Pos}
theorem Q9c {pins:List (aB × Obj)} {σ:St} {H:Hp} {s:aC} {Q:VK} {k k':Bool} (I:Inv X pins σ H s) (q:Q (.bl k) H) (e:k=k'):EP X pins σ Q (.bool k') s:=by
 subst e;exact ⟨.bl k,H,I,rfl,q⟩
theorem Qp5:OpR X (aU .Lt) (rI0 fun i j=>.bl (decide (i < j))):=Qhb fun _ _ _ _ _ _ _ q=>lt_int q
theorem Qp6:OpR X (aU .LtE) (rI0 fun i j=>.bl (decide (i<=j))):=Qhb fun _ _ _ _ _ _ _ q=>le_int q
theorem Qp7:OpR X (aU .Gt) (rI0 fun i j=>.bl (decide (j < i))):=Qhb fun _ _ _ _ _ _ _ q=>gt_int q
theorem Qp8:OpR X (aU .GtE) (rI0 fun i j=>.bl (decide (j<=i))):=Qhb fun _ _ _ _ _ _ _ q=>ge_int q
theorem Qju:OpR X (aU .Is) (fun x y H Q=>y=.non/\Q (.bl (decide (x=.non))) H):=by
 intro pins s σ H x y v u Q I rx ry h;obtain ⟨rfl,q⟩:=h;cases ry;refine is_none_gen (Q9c I q ?_);cases x <;> first
  | (cases rx; rfl)
  | (obtain ⟨t,rfl⟩:=rx; rfl)
theorem Qh8:OpR X (aU .IsNot) (fun x y H Q=>y=.non/\Q (.bl (!decide (x=.non))) H):=by
 intro pins s σ H x y v u Q I rx ry h;obtain ⟨rfl,q⟩:=h;cases ry;refine isnot_none_gen (Q9c I q ?_);cases x <;> first
  | (cases rx; rfl)
  | (obtain ⟨t,rfl⟩:=rx; rfl)
theorem OpR.or {f:aA->aA->Sem aA} {r r':R2} (h:OpR X f r) (h':OpR X f r'):OpR X f (fun x y H Q=>r x y H Q\/r' x y H Q):=by
 intro pins s σ H x y v u Q I rx ry q;rcases q with q | q
 ·exact h pins s σ H x y v u Q I rx ry q
 ·exact h' pins s σ H x y v u Q I rx ry q
theorem Qea (b:aH) {op:CmpOp} (h:op≠.In:=by decide) (h2:op≠.NotIn:=by decide):bL op b=false:=by
 have e1:(op == CmpOp.In)=false:=by cases op <;> first | rfl | exact absurd rfl h
 have e2:(op == CmpOp.NotIn)=false:=by cases op <;> first | rfl | exact absurd rfl h2
 cases b <;> simp [bL,e1,e2]
theorem Qh0 {op:CmpOp} {r:R2} (ho:OpR X (aU op) r) (ha:PE X a ta) (hb:PE X b tb) (hm:bL op b=false):PE X (.Compare a [op] [b] pos) (tOp r ta tb):=by
 intro pins s σ H Q I h;exact wpAny_Compare1 (Qm9 ha hb I h fun v u s2 x y H2 I2 rx ry q=>ho pins s2 σ H2 x y v u Q I2 rx ry q) hm
def Qi4 (t:TE):TT:=fun σ H Q=>t σ H fun x H'=>∃ k,x=.bl k/\Q k H'
theorem Qgg {op:CmpOp} {r:R2} (ho:OpR X (aU op) r) (ha:PE X a ta) (hb:PE X b tb) (hm:bL op b=false):PT X (.Compare a [op] [b] pos) (Qi4 (tOp r ta tb)):=by
 intro pins s σ H Q I h;refine wpAny_isTrue_Compare1 (thn (ha pins s σ H _ I h) fun v s1 ⟨x,H1,I1,r1,q1⟩=>thn (hb pins s1 σ H1 _ I1 q1) fun u s2 ⟨y,H2,I2,r2,q2⟩=>
  thn (ho pins s2 σ H2 x y v u _ I2 r1 r2 q2) fun c s3 ⟨z,H3,I3,r3,k,e,q3⟩=>?_) hm
 subst e;cases r3;exact bA ⟨H3,I3,q3⟩
def Q8i (r r':R2) (ta tb tc:TE):TE:=fun σ H Q=>ta σ H fun x H1=>tb σ H1 fun y H2=>r x y H2 fun z H3=>∃ k,z=.bl k /\
 (if k=true then tc σ H3 fun w' H4=>r' y w' H4 Q else Q (.bl false) H3)
theorem Qdz {op op':CmpOp} {r r':R2} (ho:OpR X (aU op) r) (ho':OpR X (aU op') r') (ha:PE X a ta) (hb:PE X b tb) (hc:PE X c tc)
  (hm:lastMarks [op,op'] [b,c]=false:=by with_unfolding_all rfl):PE X (.Compare a [op,op'] [b,c] pos) (Q8i r r' ta tb tc):=by
 intro pins s σ H Q I h;refine Compare_chain (thn (ha pins s σ H _ I h) fun v s1 ⟨x,H1,I1,r1,q1⟩=>chain_link (thn (hb pins s1 σ H1 _ I1 q1) fun u s2 ⟨y,H2,I2,r2,q2⟩=>
  thn (ho pins s2 σ H2 x y v u _ I2 r1 r2 q2) fun d s3 ⟨z,H3,I3,r3,k,e,q3⟩=>?_)) hm
 subst e;cases r3;refine bA ?_;cases k with
 | false=>exact ite_ff ⟨.bl false,H3,I3,rfl,q3⟩
 | true=>exact ite_tt (chain_last (thn (hc pins s3 σ H3 _ I3 q3) fun w' s4 ⟨z',H4,I4,r4,q4⟩=>ho' pins s4 σ H4 y z' u w' Q I4 r2 r4 q4))
theorem Qdi {op op':CmpOp} {r r':R2} (ho:OpR X (aU op) r) (ho':OpR X (aU op') r') (ha:PE X a ta) (hb:PE X b tb) (hc:PE X c tc)
  (hm:lastMarks [op,op'] [b,c]=false:=by with_unfolding_all rfl):PT X (.Compare a [op,op'] [b,c] pos) (Qi4 (Q8i r r' ta tb tc)):=by
 intro pins s σ H Q I h;refine isTrue_chain (thn (ha pins s σ H _ I h) fun v s1 ⟨x,H1,I1,r1,q1⟩=>test_link (thn (hb pins s1 σ H1 _ I1 q1) fun u s2 ⟨y,H2,I2,r2,q2⟩=>
  thn (ho pins s2 σ H2 x y v u _ I2 r1 r2 q2) fun d s3 ⟨z,H3,I3,r3,k,e,q3⟩=>?_)) hm
 subst e;cases r3;refine bA ?_;cases k with
 | false=>
  obtain ⟨k',e',q'⟩:=q3;cases e';exact ite_ff ⟨H3,I3,q'⟩
 | true=>
  refine ite_tt (test_last (thn (hc pins s3 σ H3 _ I3 q3) fun w' s4 ⟨z',H4,I4,r4,q4⟩=>thn (ho' pins s4 σ H4 y z' u w' _ I4 r2 r4 q4) fun d' s5 ⟨z2,H5,I5,r5,k2,e2,q5⟩=>?_))
  subst e2;cases r5;exact bA ⟨H5,I5,q5⟩
theorem zx:(sizeLine:Nat) < 2 ^ 63:=by rw [sizeLine_eq]; decide
theorem Q8w:OpR X (aZ .Add) (fun x y H Q=>∃ i j,x=.str i/\y=.str j/\i.length + j.length<=sizeLine/\Q (.str (i ++ j)) H):=by
 intro pins s σ H x y v u Q I rx ry h;obtain ⟨i,j,rfl,rfl,hz,q⟩:=h;obtain ⟨t,rfl⟩:=rx;obtain ⟨t',rfl⟩:=ry;exact add_str (fun t' tk=>⟨.str (i ++ j),H,I.tok _,⟨_,rfl⟩,q⟩) hz
theorem K6 {x:V} {us:List aA} (r:Vals [x] us):∃ u,us=[u]/\RelV x u:=by
 cases r with
 | cons r1 r2=>cases r2; exact ⟨_,rfl,r1⟩
theorem Qcp {x y:V} {us:List aA} (r:Vals [x,y] us):∃ u w',us=[u,w']/\RelV x u/\RelV y w':=by
 cases r with
 | cons r1 r2=>
  cases r2 with
  | cons r3 r4=>cases r4; exact ⟨_,_,rfl,r1,r3⟩
theorem Qcc (hc:X.calm=true):U4 X (.builtin "max") (fun xs H Q=>∃ i j,xs=[.int i,.int j]/\Q (.int (if j > i then j else i)) H):=by
 intro pins s σ H xs us Q I r h;obtain ⟨i,j,rfl,q⟩:=h;obtain ⟨u,w',rfl,⟨t,rfl⟩,⟨t',rfl⟩⟩:=Qcp r;refine max_two_ints (I.ok.hd hc) fun h' tk k=>⟨_,H,I.kept k,?_,q⟩
 by_cases hj:j > i
 ·rw [bS hj,bS hj]; exact ⟨_,rfl⟩
 ·rw [bT hj,bT hj]; exact ⟨_,rfl⟩
theorem Qca (hc:X.calm=true):U4 X (.builtin "min") (fun xs H Q=>∃ i j,xs=[.int i,.int j]/\Q (.int (if j < i then j else i)) H):=by
 intro pins s σ H xs us Q I r h;obtain ⟨i,j,rfl,q⟩:=h;obtain ⟨u,w',rfl,⟨t,rfl⟩,⟨t',rfl⟩⟩:=Qcp r;refine min_two_ints (I.ok.hd hc) fun h' tk k=>⟨_,H,I.kept k,?_,q⟩
 by_cases hj:j < i
 ·rw [bS hj,bS hj]; exact ⟨_,rfl⟩
 ·rw [bT hj,bT hj]; exact ⟨_,rfl⟩
end
structure ObjM (h:Heap) (x dx C:aB) (mA:Str->Option aA):Prop where
 obj:h.get? x=some (PySem.W.instObj C dx)
 ns:h.Ns1 dx mA
 ne:dx≠x
theorem Qbj {h:Heap} {dx:aB} {mA:Str->Option aA} (n:h.Ns1 dx mA):∃ od,h.get? dx=some od/\∀ name,PySem.W.lookIn name od=some (mA name):=by
 obtain ⟨o,es,ep,ho,hd,hk,_,hm⟩:=n;refine ⟨o,ho,fun name=>?_⟩;have e:=hm name;unfold nsFind findBy at e;rw [<- Array.find?_toList] at e;unfold PySem.W.lookIn;rw [hd];dsimp only
 split
 ·rename_i y q;rw [q] at e;exact congrArg some e
 ·rename_i q;rw [q] at e;have a:es.toList.any (·.refKey)=false:=by
   rw [List.any_eq_false];intro y hy;obtain ⟨z,t,hkey⟩:=hk y (Array.mem_toList_iff.mp hy);simp [DictEntry.refKey,hkey]
  have a':¬ es.toList.any (·.refKey)=true:=by rw [a]; exact D2
  rw [bT a'];exact congrArg some e
theorem ObjM.look {h:Heap} {x dx C:aB} {mA:Str->Option aA} (I:ObjM h x dx C mA):∃ od,PySem.W.InstAt h x (PySem.W.instObj C dx) C (some od)/\∀ name,PySem.W.lookIn name od=some (mA name):=
 let ⟨od,ho,hl⟩:=Qbj I.ns
 ⟨od,⟨I.obj,rfl,rfl,ho⟩,hl⟩
section
variable {prog:aL} {w:aK} {A:aM} {E:aA->aC->Prop} {s:aC} {K:PySem.W.Frag} {x dx C f:aB} {mA:Str->Option aA} {name:Str} {v:aA}
end
theorem RelO.some_of {v:V} {o:Option aA} (r:RelO (some v) o):∃ u,o=some u/\RelV v u:=by
 cases o with
 | none=>exact (show False from r).elim
 | some u=>exact ⟨u,rfl,r⟩
section
variable {P:aL} {w:aK} {H H':Hp} {h h':Heap} {a C dx:aB} {fs fs':List (Str × V)}
theorem Qhs (hok:HOk P w H h) (e:H a=some (.ins C dx fs)):∃ mA,ObjM h a dx C mA/\(∀ f,RelO (fs.lookup f) (mA f))/\PySem.Within mA (fs.map (·.1))/\fs.length<=1000/\H dx=some (.own a):=by
 obtain ⟨d,z,ne,ob,mA,n,r,q⟩:=(show ObjOk P w H h a (.ins C dx fs) from hok a _ e);exact ⟨mA,⟨ob,n,ne⟩,r,q,z,d⟩
end
structure Cls (K:PySem.W.Frag) (C:aB):Prop where
 pg:PySem.W.plainGet K C Str.empty=true
 hd:PySem.W.hasDictIn K C=true
 po:PySem.W.plainOver K C=true
 sa:PySem.W.findIn K (.ref C) "__setattr__" = some (some (.builtin "object.__setattr__"))
theorem Cls.get {K:PySem.W.Frag} {C:aB} (c:Cls K C) (f:Str):PySem.W.plainGet K C f=true:=c.pg
section
variable {X:Cx} {pins:List (aB × Obj)} {σ:St} {H:Hp} {s:aC} {a C dx:aB} {fs:List (Str × V)} {f:Str} {v:V} {A:aM} {E:aA->aC->Prop}
end
section
variable {X:Cx} {o e value:aH} {f:Str} {pos pos' tpos:Pos} {ta tv:TE}
end
section
variable {X:Cx} {pins:List (aB × Obj)} {σ:St} {H:Hp} {s:aC} {A:aM} {E:aA->aC->Prop} {Q:aA->aC->Prop} {c:aA} {b:Bool}
inductive TyOf (K:PySem.W.Frag) (H:Hp):V->aA->Prop where
 | non:TyOf K H .non (.type "NoneType")
 | bl (x:Bool):TyOf K H (.bl x) (.type "bool")
 | int (i:Int):TyOf K H (.int i) (.type "int")
 | str (x:Str):TyOf K H (.str x) (.type "str")
 | flt (x:UInt64):TyOf K H (.flt x) (.type "float")
 | lst {a:aB} {xs:List V} (e:H a=some (.lst xs)):TyOf K H (.ref a) (.type "list")
 | frz {a:aB} {o:Obj} {xs:List V} (e:H a=some (.frz o (.lst xs))):TyOf K H (.ref a) (.type "list")
 | tup {a:aB} {xs:List V} (e:H a=some (.tup xs)):TyOf K H (.ref a) (.type "tuple")
 | dK {a:aB} {kvs:List (Key × V)} (e:H a=some (.dK kvs)):TyOf K H (.ref a) (.type "dict")
 | dT {a:aB} {kvs:List (List Key × V)} (e:H a=some (.dT kvs)):TyOf K H (.ref a) (.type "dict")
 | ins {a C dx:aB} {fs:List (Str × V)} (e:H a=some (.ins C dx fs)) (cl:Cls K C) (ha:PySem.W.findIn K (.ref C) "__class__" = some (some (.builtin "object.__class__")))
   (hn:PySem.W.specialIn K (.builtin "object.__class__") "__get__" = some (some (.builtin "getset_descriptor.__get__"))) (htk:PySem.W.takesIn K (.builtin "object.__class__")=some true)
   (hm:PySem.W.mroIn K C (.type "object")=some true):TyOf K H (.ref a) (.ref C)
theorem Qbp {x:V} {u t:aA} (I:Inv X pins σ H s) (rx:RelV x u) (ty:TyOf X.K H x t) (e:PySem.W.kitOne X.K t c=some b) (h:∀ tk,Q (.bool b) { s with toks:=tk }) :
  aF (aI X.prog X.w) A (call (.builtin "isinstance") [u,c]) Q E s:=by
 cases ty with
 | non=>cases (show u=Value.none from rx); exact PySem.W.kia_one PySem.W.kitx_none I.kIn True.intro e (fun z=>nomatch z) h
 | bl y=>cases (show u=Value.bool y from rx); exact PySem.W.kia_one PySem.W.kitx_bool I.kIn True.intro e (fun z=>nomatch z) h
 | int i=>obtain ⟨t,q⟩:=(show ∃ t,u=Value.int i t from rx); cases q; exact PySem.W.kia_one PySem.W.kitx_int I.kIn True.intro e (fun z=>nomatch z) h
 | str y=>obtain ⟨t,q⟩:=(show ∃ t,u=Value.str y t from rx); cases q; exact PySem.W.kia_one PySem.W.kitx_str I.kIn True.intro e (fun z=>nomatch z) h
 | flt y=>obtain ⟨t,q⟩:=(show ∃ t,u=Value.float y t from rx); cases q; exact PySem.W.kia_one PySem.W.kitx_float I.kIn True.intro e (fun z=>nomatch z) h
 | @lst a xs ea=>
  cases (show u=Value.ref a from rx);obtain ⟨_,_,n,_,h1⟩:=(show ObjOk X.prog X.w H s.heap a (.lst xs) from I.hok a _ ea);exact PySem.W.kia_one PySem.W.kitx_list I.kIn ⟨_,h1,rfl⟩ e (fun z=>nomatch z) h
 | @frz a ob xs ea=>
  cases (show u=Value.ref a from rx);obtain ⟨_,_,_,n,_,h1⟩:=(show ObjOk X.prog X.w H s.heap a (.frz ob (.lst xs)) from I.hok a _ ea);exact PySem.W.kia_one PySem.W.kitx_list I.kIn ⟨_,h1,rfl⟩ e (fun z=>nomatch z) h
 | @tup a xs ea=>
  cases (show u=Value.ref a from rx);obtain ⟨_,_,_,p⟩:=(show ObjOk X.prog X.w H s.heap a (.tup xs) from I.hok a _ ea);obtain ⟨o,h1,h2,_⟩:=p;exact PySem.W.kia_one PySem.W.kitx_tuple I.kIn ⟨o,h1,h2⟩ e (fun z=>nomatch z) h
 | @dK a kvs ea=>
  cases (show u=Value.ref a from rx);obtain ⟨_,_,vs,_,p⟩:=(show ObjOk X.prog X.w H s.heap a (.dK kvs) from I.hok a _ ea);obtain ⟨o,es,ep,h1,h2,_⟩:=p;exact PySem.W.kia_one PySem.W.kitx_dict I.kIn ⟨o,h1,h2.1⟩ e (fun z=>nomatch z) h
 | @dT a kvs ea=>
  cases (show u=Value.ref a from rx);obtain ⟨_,_,xs,_,o,es,ep,h1,h2,_⟩:=(show ObjOk X.prog X.w H s.heap a (.dT kvs) from I.hok a _ ea);exact PySem.W.kia_one PySem.W.kitx_dict I.kIn ⟨o,h1,h2.1⟩ e (fun z=>nomatch z) h
 | @ins a C dx fs ea cl ha hn htk hm=>
  cases (show u=Value.ref a from rx);obtain ⟨mA,O,_⟩:=Qhs I.hok ea;obtain ⟨od,J,_⟩:=O.look;exact PySem.W.kia_one (PySem.W.kitx_own (cl.get _) cl.hd ha hn htk hm) I.kIn J e (fun z=>nomatch z) h
end
structure Room (k:Nat) (A:aM):Prop where
 hd:A.handled=none
 dp:A.depth + 3 * k + 5 < recursionLimit
 un:A.units + 16 * k + 200 < aW
theorem Room.mono {j k:Nat} {A:aM} (r:Room k A) (h:j<=k):Room j A:=⟨r.hd,by have:=r.dp; omega,by have:=r.un; omega⟩
theorem Room.deeper {k:Nat} {A:aM} (r:Room (k + 1) A) (env:Env):Room k (A.deeper env):=
 ⟨r.hd,by have:=r.dp; show A.depth + 1 + 3 * k + 5 < _; omega,by have:=r.un; show A.units + 3 + 16 * k + 200 < _; omega⟩
theorem Room.depth {k:Nat} {A:aM} (r:Room k A):A.depth < recursionLimit:=by have:=r.dp; omega
theorem Room.units {k:Nat} {A:aM} (r:Room k A):A.units + 64 < aW:=by have:=r.un; omega
def Qry:TA:=fun _ H Q=>Q [] H
def Qne (ta:TE) (tr:TA):TA:=fun σ H Q=>ta σ H fun x H1=>tr σ H1 fun xs H2=>Q (x :: xs) H2
section
variable {X:Cx} {e:aH} {es:List aH} {te:TE} {t:TA} {pos:Pos}
theorem Q2h:PA X [] Qry:=fun _ _ _ _ H Q I h=>Calls.spliced_nil ⟨[],H,I,.nil,h⟩
theorem jw (ha:PE X e te) (hr:PA X es t) (hs:aO (e :: es) X.env=(false,aN e X.env) :: aO es X.env:=by rfl):PA X (e :: es) (Qne te t):=by
 intro pos pins s σ H Q I h;rw [hs];show aF _ _ (spliced ((false,aN e X.env) :: ad pos (aO es X.env))) _ _ s;refine Calls.spliced_cons (thn (ha pins s σ H _ I h) fun u s1 ⟨x,H1,I1,r1,q1⟩=>?_)
 exact thn (hr pos pins s1 σ H1 _ I1 q1) fun us s2 ⟨xs,H2,I2,r2,q2⟩=>⟨x :: xs,H2,I2,.cons r1 r2,q2⟩
def Qrt (t:TA):TE:=fun σ H Q=>t σ H fun xs H1=>xs.length<=sizeLine/\∀ p,H1 p=none->Q (.ref p) (upd H1 p (.tup xs))
def Qrz (t:TA):TE:=fun σ H Q=>t σ H fun xs H1=>xs.length<=sizeLine/\∀ p,H1 p=none->Q (.ref p) (upd H1 p (.lst xs))
theorem Qjd {x1} (h:PA X es t):PE X (.Tuple es x1 pos) (Qrt t):=by
 intro pins s σ H Q I hq;refine wpAny_Tuple_spliced (thn (h pos pins s σ H _ I hq) fun us s1 ⟨xs,H1,I1,r,z,q⟩=>⟨by rw [<- r.length]; exact z,?_⟩)
 have hf:H1 s1.heap.objs.size=none:=I1.hok.fresh (O9 _);refine ⟨.ref s1.heap.objs.size,upd H1 s1.heap.objs.size (.tup xs),I1.laid (t':=s1.toks) (fun b u e=>O1 _ e) (O9 _) ?_,rfl,q _ hf⟩;exact ⟨z,us,r,⟨_,I0 _ rfl,rfl,_,rfl⟩⟩
theorem Qdv (h:PA X es t):PE X (.List es pos) (Qrz t):=by
 intro pins s σ H Q I hq;refine wpAny_List_spliced (thn (h pos pins s σ H _ I hq) fun us s1 ⟨xs,H1,I1,r,z,q⟩=>⟨by rw [<- r.length]; exact z,?_⟩)
 have hf:H1 s1.heap.objs.size=none:=I1.hok.fresh (O9 _);refine ⟨.ref s1.heap.objs.size,upd H1 s1.heap.objs.size (.lst xs),I1.laid (t':=s1.toks) (fun b u e=>O1 _ e) (O9 _) ?_,rfl,q _ hf⟩;exact ⟨z,us,0,r,I0 _ rfl⟩
end
abbrev Sp:=List V->Hp->VK->XK->Prop
abbrev CXT:=List Env->Hp->aC->XK->aA->aC->Prop
structure Env0 (P:aL) (w:aK) (K:PySem.W.Frag) (mg:Str->Option aA) (base:Heap) (A:aM) (outer:List Env) (s:aC) (H:Hp):Prop where
 frames:A.frames=some outer
 mod:Mod K mg base
 bs:∀ b o,base.get? b=some o->s.heap.get? b=some o/\H b=none
 bsz:base.objs.size<=s.heap.objs.size
 funs:s.heap.FunFrames base outer
 frf:∀ b∈frs outer,H b=none
 hok:HOk P w H s.heap
 bare:AllBare s.gens
def CE (outer:List Env) (P:aL) (w:aK) (H:Hp) (s:aC) (Q:VK) (u:aA) (s':aC):Prop:=
 ∃ v H',s'.os=s.os/\AllBare s'.gens/\Un (frs outer) [] H H' s.heap s'.heap/\HOk P w H' s'.heap/\RelV v u/\Q v H'
def CR (CX:CXT) (outer:List Env) (P:aL) (w:aK) (H:Hp) (s:aC) (Q:VK) (E:XK) (r:Result) (s':aC):Prop:=
 match r with
 | .ok (.ret u)=>CE outer P w H s Q u s'
 | .ok _=>False
 | .error e=>CX outer H s E e s'
structure FnOk (P:aL) (w:aK) (K:PySem.W.Frag) (mg:Str->Option aA) (base:Heap) (CX:CXT) (k:Nat) (f:aB) (fd:aR) (ps:List Str) (sp:Sp):Prop where
 len:∀ vs H Q E,sp vs H Q E->vs.length=ps.length
 run:∀ (A:aM) (outer:List Env) (s:aC) (H:Hp) (args:Args) (us:List aA) (vs:List V) (Q:VK) (E:XK),Room k A->Env0 P w K mg base A outer s H->BindsTo s fd args (ps.zip us)->Vals vs us->sp vs H Q E ->
  codeAny (aI P w) A (.call (.ref f) args) (CR CX outer P w H s Q E) s
theorem FnOk.imp {P:aL} {w:aK} {K:PySem.W.Frag} {mg:Str->Option aA} {base:Heap} {CX:CXT} {k:Nat} {f:aB} {fd:aR} {ps:List Str} {sp sp':Sp} (F:FnOk P w K mg base CX k f fd ps sp)
  (h:∀ vs H Q E,sp' vs H Q E->sp vs H Q E):FnOk P w K mg base CX k f fd ps sp':=
 ⟨fun vs H Q E q=>F.len vs H Q E (h _ _ _ _ q),fun A outer s H args us vs Q E hr he hb hv hs=>F.run A outer s H args us vs Q E hr he hb hv (h _ _ _ _ hs)⟩
section
variable {X:Cx} {pins:List (aB × Obj)} {σ:St} {H:Hp} {s s':aC}
theorem Inv.env0 (I:Inv X pins σ H s):Env0 X.prog X.w X.K X.mg X.base X.A X.stack s H:=
 ⟨I.ok.frames,I.ok.mod,I.bs,E7 I.ok.bsz I.sz,I.stack,I.stkFree,I.hok,I.bare⟩
theorem Inv.after {Q:VK} {u:aA} (I:Inv X pins σ H s) (h:CE X.stack X.prog X.w H s Q u s'):EP X pins σ Q u s':=by
 obtain ⟨v,H',os,bare,un,hok,r,q⟩:=h;obtain ⟨hh,g,d,t,os'⟩:=s';obtain rfl:os'=s.os:=os;exact ⟨v,H',I.call (h':=hh) (g':=g) (d':=d) (t':=t) (ch:=[]) un hok bare (fun b z=>absurd z (by simp)),r,q⟩
end
def Qnf (sp:Sp) (dvs:List V) (E:XK) (t:TA):TE:=fun σ H Q=>t σ H fun vs H1=>sp (vs ++ dvs) H1 Q E
def Binds (K:PySem.W.Frag) (fd:aR) (ps:List Str) (ds:List aA):Prop:=
 ∀ (s:aC) (us:List aA),K.In s.heap->(us ++ ds).length=ps.length->BindsTo s fd ⟨us,[]⟩ (ps.zip (us ++ ds))
theorem Binds.all {K:PySem.W.Frag} {fd:aR} {ps:List Str} (h:∀ us:List aA,us.length=ps.length->bindArgs fd ⟨us,[]⟩=pure (ps.zip us)):Binds K fd ps []:=fun s us _ hl=>by
 rw [L1] at hl ⊢;exact .of_eq (h us hl)
def Q3b (CX:CXT) (X:Cx) (E:XK):Prop:=∀ (pins:List (aB × Obj)) (σ:St) (H:Hp) (s:aC) (e:aA) (s':aC),Inv X pins σ H s->CX X.stack H s E e s'->X.xe e s'
section
variable {X:Cx} {CX:CXT} {k:Nat} {f C:aB} {fd:aR} {ps:List Str} {sp:Sp} {dvs:List V} {ds:List aA} {E:XK} {x m:Str} {p pos apos:Pos} {e o:aH} {es:List aH} {ta:TE} {t:TA}
theorem Qiz {pins:List (aB × Obj)} {σ:St} {H:Hp} {s:aC} {Q:VK} {us:List aA} {vs:List V} (F:FnOk X.prog X.w X.K X.mg X.base CX k f fd ps sp) (hr:Room k X.A) (hb:Binds X.K fd ps ds) (hd:Vals dvs ds) (hx:Q3b CX X E)
  (I:Inv X pins σ H s) (r:Vals vs us) (h:sp (vs ++ dvs) H Q E):aF (aI X.prog X.w) X.A (call (.ref f) us) (EP X pins σ Q) X.xe s:=by
 have r2:Vals (vs ++ dvs) (us ++ ds):=r.append hd;have hl:(us ++ ds).length=ps.length:=by rw [<- r2.length]; exact F.len _ _ _ _ h
 refine wpAny_call (bH (F.run X.A X.stack s H ⟨us,[]⟩ (us ++ ds) (vs ++ dvs) Q E hr I.env0 (hb s us I.kIn hl) r2 h) fun r s' hq=>?_)
 cases r with
 | error e=>exact hx pins σ H s e s' I hq
 | ok fl=>
  cases fl with
  | ret u=>exact I.after hq
  | next=>exact False.elim hq
  | brk=>exact False.elim hq
  | cont=>exact False.elim hq
theorem Qh1 (F:FnOk X.prog X.w X.K X.mg X.base CX k f fd ps sp) (hr:Room k X.A) (hg:Gl X x) (hm:X.mg x=some (.ref f)) (hk:PySem.W.keepIn X.K (.ref f)=true) (hb:Binds X.K fd ps ds) (hd:Vals dvs ds) (hx:Q3b CX X E)
  (ha:PA X (e :: es) t) (hdb:(x == ("__debug__" : Str))=false:=by decide) (he:aO (e :: es) X.env=(false,aN e X.env) :: aO es X.env:=by rfl) (hpl:(ad pos (aO es X.env)).any (·.1)=false:=by rfl) :
  PE X (.Call (.Name x p) (e :: es) [] pos) (Qnf sp dvs E t):=by
 intro pins s σ H Q I h;refine wpAny_Call_Name_kw (Qa9 I hg hm ?_ hdb);refine PySem.W.callWith_K (h₀:=X.base) I.ok.mod.kin hk (thn (ha pos pins s σ H _ I h) fun us s1 ⟨vs,H1,I1,r,q⟩=>⟨I1.kIn,?_⟩) he hpl
 exact Qiz F hr hb hd hx I1 r q
end
section
variable {X:Cx} {CX:CXT} {k:Nat} {f C:aB} {fd:aR} {ps ks:List Str} {sp:Sp} {E:XK} {x m:Str} {p pos apos kpos:Pos} {e o:aH} {es:List aH} {kws:List Keyword} {te ta:TE} {t tk:TA} {nm:Option Str}
variable {g:List aA->List aA->List aA} {gV:List V->List V->List V}
end
structure FnScope (N P:List Str) (sc:Scope):Prop where
 kind:sc.kind=.function
 co:sc.isCoroutine=false
 gen:sc.isGenerator=false
 nd:N.Nodup
 pre:N.take P.length=P
 par:∀ x∈P,sc.names.lookup x=some .local\/sc.names.lookup x=some .cell
 nofree:∀ y∈sc.names,y.2≠.free
theorem Q4u {kindOf:Str->Option al} {x:Str}:∀ {binds:List (Str × aA)} {m:Str->Option aA},(∀ v,(x,v)∉binds)->bindL kindOf binds m x=m x
 | [],_,_=>rfl
 | (n,v) :: r,m,h=>by
  unfold bindL;rw [Q4u fun w hw=>h w (O7 _ hw)]
  split
  ·have:x≠n:=by rintro rfl; exact h v D9
   simp [this]
  ·rfl
theorem Q4w {kindOf:Str->Option al} {x:Str}:∀ {binds:List (Str × aA)} {m:Str->Option aA},(∀ v,(x,v)∉binds)->bindC kindOf binds m x=m x
 | [],_,_=>rfl
 | (n,v) :: r,m,h=>by
  unfold bindC;rw [Q4w fun w hw=>h w (O7 _ hw)]
  split
  ·rfl
  ·have:x≠n:=by rintro rfl; exact h v D9
   simp [this]
theorem Q4v {kindOf:Str->Option al} {x:Str} {v:aA}:∀ {P:List Str} {vs:List aA} {i:Nat} {m:Str->Option aA},P.Nodup->P[i]?=some x->vs[i]?=some v->kindOf x=some .local ->
  bindL kindOf (P.zip vs) m x=some v
 | [],_,_,_,_,h,_,_=>by simp at h
 | _ :: _,[],_,_,_,_,h,_=>by simp at h
 | p :: P,w :: vs,0,m,nd,h1,h2,hk=>by
  simp at h1 h2; subst h1; subst h2;show bindL kindOf ((p,w) :: P.zip vs) m p=_;unfold bindL;rw [Q4u fun v hv=>(List.nodup_cons.mp nd).1 (List.of_mem_zip hv).1,bS hk]
  simp
 | p :: P,w :: vs,i + 1,m,nd,h1,h2,hk=>by
  show bindL kindOf ((p,w) :: P.zip vs) m x=_;unfold bindL;exact Q4v (i:=i) (List.nodup_cons.mp nd).2 (by simpa using h1) (by simpa using h2) hk
theorem Q4x {kindOf:Str->Option al} {x:Str} {v:aA}:∀ {P:List Str} {vs:List aA} {i:Nat} {m:Str->Option aA},P.Nodup->P[i]?=some x->vs[i]?=some v->kindOf x≠some .local ->
  bindC kindOf (P.zip vs) m x=some v
 | [],_,_,_,_,h,_,_=>by simp at h
 | _ :: _,[],_,_,_,_,h,_=>by simp at h
 | p :: P,w :: vs,0,m,nd,h1,h2,hk=>by
  simp at h1 h2; subst h1; subst h2;show bindC kindOf ((p,w) :: P.zip vs) m p=_;unfold bindC;rw [Q4w fun v hv=>(List.nodup_cons.mp nd).1 (List.of_mem_zip hv).1,bT hk]
  simp
 | p :: P,w :: vs,i + 1,m,nd,h1,h2,hk=>by
  show bindC kindOf ((p,w) :: P.zip vs) m x=_;unfold bindC;exact Q4x (i:=i) (List.nodup_cons.mp nd).2 (by simpa using h1) (by simpa using h2) hk
def start (N:List Str) (vs:List V):St:=vs.map some ++ List.replicate (N.length - vs.length) none
def Qc4 (CX:CXT) (P:aL) (w:aK) (K:PySem.W.Frag) (mg:Str->Option aA) (base:Heap) (N:List Str) (qual:Str) (scope:Scope) (f:aB) (cd:aA) (A:aM) (outer:List Env) (s:aC) (H:Hp) (E:XK):Cx where
 prog:=P
 w:=w
 K:=K
 mg:=mg
 base:=base
 A:=A.deeper (envOfC qual scope s.heap.objs.size f cd)
 N:=N
 s₀:=s
 H₀:=H
 env:=envOfC qual scope s.heap.objs.size f cd
 outer:=outer
 stack:=envOfC qual scope s.heap.objs.size f cd :: outer
 ex:=[]
 calm:=true
 fn:=fun _=>true
 pn:=[]
 xe:=fun e s'=>aF (aI P w) (A.deeper (envOfC qual scope s.heap.objs.size f cd)) (leaving (envOfC qual scope s.heap.objs.size f cd) e) (fun _ s''=>CX outer H s E e s'') (fun e' s''=>CX outer H s E e' s'') s'
theorem Q85 {sc:Scope} {n:Nat} {x:Str} (h:sc.names.lookup x=some .cell):∃ c,(ag n sc.names []).lookup x=some c:=by
 have q:=PySem.W.cellsFrom_some sc.names n [] (.inl h);exact Option.isSome_iff_exists.mp q
theorem Qbq {CX:CXT} {P:aL} {w:aK} {K:PySem.W.Frag} {mg:Str->Option aA} {base:Heap} {N ps:List Str} {qual:Str} {scope:Scope} {f:aB} {cd:aA} {A:aM} {outer:List Env} {s s1:aC} {H:Hp} {E:XK} {us:List aA} {vs:List V}
  (S:FnScope N ps scope) (hd:A.handled=none) (e0:Env0 P w K mg base A outer s H) (hl:vs.length=ps.length) (r:Vals vs us)
  (x:InCallC s s.heap.objs.size (bindL (envOfC qual scope s.heap.objs.size f cd).kindOf (ps.zip us) fun _=>none) (ag (s.heap.objs.size + 1) scope.names []) (bindC (envOfC qual scope s.heap.objs.size f cd).kindOf (ps.zip us) fun _=>none) s1) :
  Inv (Qc4 CX P w K mg base N qual scope f cd A outer s H E) [] (start N vs) H s1:=by
 have hpl:ps.length<=N.length:=by have:=congrArg List.length S.pre; rw [F7] at this; omega
 obtain ⟨h1,tk,rfl,hk⟩:=x.done;have noA:∀ b:aB,b∉(Qc4 CX P w K mg base N qual scope f cd A outer s H E).ex:=fun b z=>absurd (show b∈([]:List aB) from z) (by simp)
 refine ⟨⟨e0.mod,S.kind,rfl,rfl,O9 _,fun y z c h1 h2=>?_,fun y hy=>?_,fun y c _ h=>?_,fun _=>hd,Around.frames_deeper e0.frames,.inr ⟨rfl,rfl⟩,fun b z=>absurd z (noA b),e0.bs,e0.bsz,fun b _ _=>noA b,fun b z=>absurd z (noA b),e0.funs,e0.frf⟩,
  rfl,e0.bare,Un.kept hk,⟨_,x.toInCall.ns,fun i y v h1 h2 h3=>?_⟩,fun y c h=>⟨_,x.cell y c h⟩,e0.hok.fresh (O9 _),fun y c h=>?_,fun p hp=>absurd (show p∈([]:List (aB × Obj)) from hp) (by simp),e0.hok.kept hk,?_⟩
 ·exact name_of_addr x.apart (PySem.mem_of_lookup h1) (PySem.mem_of_lookup h2)
 ·have hy:scope.names.lookup y=some .cell\/scope.names.lookup y=some .free:=hy;rcases hy with hy | hy
  ·exact Q85 hy
  ·exact absurd rfl (S.nofree _ (PySem.mem_of_lookup hy))
 ·exact Nat.le_of_lt (x.above y c (PySem.mem_of_lookup h))
 ·have hi:i < vs.length:=by
   unfold start at h2
   by_cases hi:i < vs.length
   ·exact hi
   ·rw [D5 (by simpa using hi)] at h2;rw [List.getElem?_replicate] at h2
    split at h2 <;> cases h2
  have ha:vs[i]?=some v:=by
   unfold start at h2;rw [O5 (by simpa using hi),D6] at h2;cases e:vs[i]? with
   | none=>rw [e] at h2; cases h2
   | some a=>rw [e] at h2; cases h2; rfl
  obtain ⟨u,hu,rv⟩:=r.get ha;have hp:ps[i]?=some y:=by
   rw [<- S.pre,List.getElem?_take_of_lt (by omega)]; exact h1
  have ndP:ps.Nodup:=by rw [<- S.pre]; exact S.nd.sublist (List.take_sublist _ _)
  refine ⟨u,rv,?_⟩;rcases S.par y (E2 hp) with k | k
  ·exact .inl ⟨k,Q4v ndP hp hu k⟩
  ·obtain ⟨c,e⟩:=Q85 (n:=s.heap.objs.size + 1) k;refine .inr ⟨.inl k,c,e,?_⟩;have q:=x.cell y c e;rw [Q4x ndP hp hu (by show scope.names.lookup y≠_; rw [k]; decide)] at q;exact q
 ·exact e0.hok.fresh (Nat.le_of_lt (x.above y c (PySem.mem_of_lookup h)))
 ·unfold start;show _=N.length;rw [D0,O3,List.length_replicate];omega
theorem Qqd {CX:CXT} {P:aL} {w:aK} {K:PySem.W.Frag} {mg:Str->Option aA} {base:Heap} {k:Nat} {f:aB} {name qual:Str} {params:Arguments} {body:List aP} {scope:Scope} {dV kV doc pm cdv ct oc:aA} {an od:Option aB}
  {osl:Array (Option aA)} {N ps:List Str} {sp:Sp} (lk:K.lookup f=some ⟨oc,od,.func (PySem.W.fnOf name qual params body scope dV kV doc pm an cdv ct),osl⟩) (hcd:PySem.W.codeIn K cdv qual=true) (S:FnScope N ps scope)
  (len:∀ vs H Q E,sp vs H Q E->vs.length=ps.length)
  (hbody:∀ (A:aM) (outer:List Env) (s:aC) (H:Hp) (vs:List V) (Q:VK) (E:XK),Room k (A.deeper (envOfC qual scope s.heap.objs.size f cdv))->sp vs H Q E ->
   ∃ t,PSs (Qc4 CX P w K mg base N qual scope f cdv A outer s H E) body t/\t { nx:=fun _ H'=>Q .non H',rt:=Q } (start N vs) H) :
  FnOk P w K mg base CX (k + 1) f (PySem.W.fnOf name qual params body scope dV kV doc pm an cdv ct) ps sp:=by
 refine ⟨len,fun A outer s H args us vs Q E hr e0 hb r hsp=>?_⟩;have hl:=len _ _ _ _ hsp;have KX:K.In s.heap:=e0.mod.kin.keeps fun b o e=>(e0.bs b o e).1
 have lim:s.heap.NoLimit:=e0.mod.nolimit.keeps fun b o e=>(e0.bs b o e).1
 have hkind:∀ y∈ps.zip us,scope.names.lookup y.1=some .local\/(scope.names.lookup y.1=some .cell/\((ag (s.heap.objs.size + 1) scope.names []).lookup y.1).isSome=true):=fun ⟨n,v⟩ hy=>by
  rcases S.par n (List.of_mem_zip hy).1 with q | q
  ·exact .inl q
  ·exact .inr ⟨q,PySem.W.cellsFrom_some _ _ _ (.inl q)⟩
 refine codeAny_call_function hr.depth (KX _ _ lk) rfl S.co S.gen rfl (PySem.W.codeRec_of KX hcd) (hb _ _ _ _ ?_);refine wpAny_newFunctionEnv_cells S.kind hkind fun env he s1 x=>?_
 subst he;refine ⟨lim.keeps x.toInCall.keep,codeAny_func ?_⟩;obtain ⟨t,ht,hq⟩:=hbody A outer s H vs Q E (hr.deeper _) hsp;have I:Inv (Qc4 CX P w K mg base N qual scope f cdv A outer s H E) [] (start N vs) H s1:=Qbq S hr.hd e0 hl r x;refine aq (ht [] s1 (start N vs) H _ I hq) (fun fl s' hs=>?_) fun e s' hs=>hs
 have fin:∀ {σ':St} {H':Hp} {v:V} {u:aA},Inv (Qc4 CX P w K mg base N qual scope f cdv A outer s H E) [] σ' H' s'->RelV v u->Q v H'->CE outer P w H s Q u s':=
  fun {σ' H' v u} J rv q=>⟨v,H',J.os,J.bare,J.base,J.hok,rv,q⟩
 cases fl with
 | ret u=>
  obtain ⟨v,σ',H',J,rv,q⟩:=hs;exact fin J rv q
 | next=>
  obtain ⟨σ',H',J,q⟩:=hs;exact fin (v:=V.non) (u:=Value.none) J rfl q
 | brk=>
  obtain ⟨_,_,_,q⟩:=hs;exact False.elim q
 | cont=>
  obtain ⟨_,_,_,q⟩:=hs;exact False.elim q
section
variable {X:Cx} {x:Str} {p pos:Pos} {e:aH} {es:List aH} {t:TA} {id T:String} {r:List V->Hp->VK->Prop}
def tCB (r:List V->Hp->VK->Prop) (t:TA):TE:=fun σ H Q=>t σ H fun vs H1=>r vs H1 Q
theorem Q2f (hc:U4 X (.builtin id) r) (hg:Gl X x) (hm:X.mg x=none) (hv:aY x=some (.builtin id)) (ha:PA X (e :: es) t) (hn:x≠"__name__" := by decide) (hdb:(x == ("__debug__" : Str))=false:=by decide)
  (he:aO (e :: es) X.env=(false,aN e X.env) :: aO es X.env:=by rfl) (hpl:(ad pos (aO es X.env)).any (·.1)=false:=by rfl):PE X (.Call (.Name x p) (e :: es) [] pos) (tCB r t):=by
 intro pins s σ H Q I h;refine wpAny_Call_Name_kw (zy I hg hm hv ?_ hn hdb);exact PyProof.Rows.callWith_builtin1 (thn (ha pos pins s σ H _ I h) fun us s1 ⟨vs,H1,I1,r1,q1⟩=>hc pins s1 σ H1 vs us Q I1 r1 q1) he hpl
theorem Q02 (hc:U4 X (.type T) r) (hg:Gl X x) (hm:X.mg x=none) (hv:aY x=some (.type T)) (ha:PA X (e :: es) t) (hn:x≠"__name__" := by decide) (hdb:(x == ("__debug__" : Str))=false:=by decide)
  (he:aO (e :: es) X.env=(false,aN e X.env) :: aO es X.env:=by rfl) (hpl:(ad pos (aO es X.env)).any (·.1)=false:=by rfl):PE X (.Call (.Name x p) (e :: es) [] pos) (tCB r t):=by
 intro pins s σ H Q I h;refine wpAny_Call_Name_kw (zy I hg hm hv ?_ hn hdb);exact PyProof.Rows.callWith_type1 (thn (ha pos pins s σ H _ I h) fun us s1 ⟨vs,H1,I1,r1,q1⟩=>hc pins s1 σ H1 vs us Q I1 r1 q1) he hpl
end
end L2
namespace HT
open PySem PyProof.Rows
def lexLt:List Int->List Int->Bool
 | [],[]=>false
 | [],_ :: _=>true
 | _ :: _,[]=>false
 | x :: xs,y :: ys=>if x=y then lexLt xs ys else decide (x < y)
theorem lexLt_cons (x y:Int) (xs ys:List Int):lexLt (x :: xs) (y :: ys)=if x=y then lexLt xs ys else decide (x < y):=rfl
theorem lexLt_nil_nil:lexLt [] []=false:=rfl
theorem Q2r (y:Int) (ys:List Int):lexLt [] (y :: ys)=true:=rfl
theorem Q2s (x:Int) (xs:List Int):lexLt (x :: xs) []=false:=rfl
theorem Qf0 (A:aM) (s:aC) (a:Int) (t:Tok) (c:Int) (u:Tok):∃ e,SeqAt.EqAt A s (.int a t) (.int c u) e/\(e=true <-> a=c):=
 ⟨(a == c),SeqAt.EqAt.int_int a t c u,by simp⟩
theorem Qdf (A:aM) (s:aC) (a:Int) (t:Tok) (c:Int) (u:Tok) (prog:aL) (w:aK) (E:aA->aC->Prop) (Q:aA->aC->Prop) (h:Q (.bool (decide (a < c))) s) :
  aF (aI prog w) A (richCompare .Lt (.int a t) (.int c u)) Q E s:=
 (PyProof.Rows.lt_int h:aF (aI prog w) A (aU .Lt (.int a t) (.int c u)) Q E s)
section
open PySem.SeqAt
open PySem.AutoSeq1 (wpAny_loadPart')
open PySem.MeetsSeq PySem.MeetsSeq2 PySem.MeetsSeq3
theorem Q3e (l b:aB) (items items2:Array aA) (n n2:Nat) (dd dd2:Option aB) (sl sl2:Array (Option aA)) (ns ms:List Int) (hi:IntsAre items.toList ns) (hj:IntsAre items2.toList ms) :
  Meets (Builtin.«tuple.__lt__» ⟨[.ref l,.ref b],[]⟩)
   (fun _ R s=>s.heap.get? l=some { cls:=.type "tuple",dict:=dd,data:=.seq items n,slots:=sl }/\s.heap.get? b=some { cls:=.type "tuple",dict:=dd2,data:=.seq items2 n2,slots:=sl2 } /\
    R (.ok (.ret (.bool (lexLt ns ms)))) s):=
 .of_wp fun prog w A R s h=>by
  obtain ⟨hp,g,d,tk,os⟩:=s; obtain ⟨hl,hb,h⟩:=h;have f2:=AutoSeq1.sub_tuple_tuple;have z1:items.size=ns.length:=by rw [<- hi.length]; simp
  have z2:items2.size=ms.length:=by rw [<- hj.length]; simp
  wp_walk using wpAny_loadPart' hl,wpAny_loadPart' hb,wpAny_forIn_list _ (fun rest b s'=>b.1=none/\s'=⟨hp,g,d,tk,os⟩/\∃ (vs ws:List aA) (ns' ms':List Int),rest=vs.zip ws /\
   IntsAre vs ns'/\IntsAre ws ms'/\ns'.length + items2.size=ms'.length + items.size/\R (.ok (.ret (.bool (lexLt ns' ms')))) ⟨hp,g,d,tk,os⟩) _
  case turn=>
   rintro ⟨y,x⟩ rest b s' ⟨hb',rfl,vs,ws,ns',ms',hz,hvi,hwi,hlen,hR⟩;cases hvi with
   | nil=>rw [List.zip_nil_left] at hz; cases hz
   | cons a t hvi'=>
    cases hwi with
    | nil=>rw [List.zip_nil_right] at hz; cases hz
    | cons c u hwi'=>
     rw [List.zip_cons_cons] at hz;injection hz with hyx hrest
     injection hyx with hy hx
     subst hy hx;rw [lexLt_cons] at hR;simp only [E1] at hlen;obtain ⟨e,he,hiff⟩:=Qf0 A.in1 ⟨hp,g,d,tk,os⟩ a t c u;refine aD (he prog w _ _ ?_);cases e with
     | true=>
      rw [bS (hiff.mp rfl)] at hR
      wp_walk
      exact ⟨rfl,rfl,_,_,_,_,hrest,hvi',hwi',by omega,hR⟩
     | false=>
      rw [bT (fun q=>absurd (hiff.mpr q) D2)] at hR
      have hri:=Qdf A.in1 ⟨hp,g,d,tk,os⟩ a t c u prog w
      wp_walk using hri
      exact ⟨_,rfl,by simpa using hR⟩
  case fin=>
   rintro ⟨b1,b2⟩ s' ⟨hb',rfl,vs,ws,ns',ms',hz,hvi,hwi,hlen,hR⟩;simp only at hb';subst hb';have hv:lexLt ns' ms'=decide (items.size < items2.size):=by
    cases hvi with
    | nil=>
     cases hwi with
     | nil=>
      simp only [G7] at hlen;rw [lexLt_nil_nil];exact (bU (by omega)).symm
     | cons c u hw=>
      simp only [G7,E1] at hlen;rw [Q2r];exact (bV (by omega)).symm
    | cons a t hv=>
     cases hwi with
     | nil=>
      simp only [G7,E1] at hlen;rw [Q2s];exact (bU (by omega)).symm
     | cons c u hw=>
      rw [List.zip_cons_cons] at hz;cases hz
   rw [hv] at hR
   wp_walk
   exact ⟨_,rfl,by simpa [Builtin.Tuple.tupleCompareSizes] using hR⟩
  case h=>
   exact ⟨rfl,rfl,items.toList,items2.toList,ns,ms,rfl,hi,hj,by omega,h⟩
end
section
variable {prog:aL} {w:aK} {A:aM} {E:aA->aC->Prop} {s:aC}
theorem lt_tupInts {l b:aB} {items items2:Array aA} {ns ms:List Int} {Q:aA->aC->Prop} (hl:IsTup s.heap l items) (hb:IsTup s.heap b items2) (hi:IntsAre items.toList ns) (hj:IntsAre items2.toList ms)
  (hu:A.units < aW) (h:Q (.bool (lexLt ns ms)) s):aF (aI prog w) A (aU .Lt (.ref l) (.ref b)) Q E s:=by
 obtain ⟨⟨cls,dd,data,sl⟩,ho,hc,n,hd⟩:=id hl;obtain ⟨⟨cls2,dd2,data2,sl2⟩,ho2,hc2,n2,hd2⟩:=id hb;simp only at hc hd hc2 hd2;subst hc hd hc2 hd2;exact richCompare_meets_room (op:=.Lt) ⟨_,ho,rfl⟩ ⟨_,ho2,rfl⟩ PySem.F.slot_tuple_lt PySem.F.entry_tuple_lt (PySem.F.args_tuple_lt_2 _ _) (Q3e l b items items2 n n2 dd dd2 sl sl2 ns ms hi hj)
  ⟨ho,ho2,show Value.bool (lexLt ns ms)≠Value.notImplemented/\Q (.bool (lexLt ns ms)) s from ⟨(fun x=>nomatch x),h⟩⟩ hu
theorem cat_tup {t b:aB} {vs ws:List aA} {Q:aA->aC->Prop} (ht:IsTup s.heap t vs.toArray) (hb:IsTup s.heap b ws.toArray) (hv:vs≠[])
  (h1:ws=[]->Q (.ref t) s) (h2:ws≠[]->Q (.ref s.heap.objs.size) { s with heap:=s.heap.push { cls:=.type "tuple",data:=.seq (vs ++ ws).toArray } })
  (hsz:vs.length + ws.length<=sizeLine):aF (aI prog w) A (aZ .Add (.ref t) (.ref b)) Q E s:=by
 obtain ⟨⟨cls,dd,data,sl⟩,ho,hc,n,hd⟩:=id ht;obtain ⟨⟨cls2,dd2,data2,sl2⟩,ho2,hc2,n2,hd2⟩:=id hb;simp only at hc hd hc2 hd2;subst hc hd hc2 hd2;have e:vs.toArray ++ ws.toArray=(vs ++ ws).toArray:=by simp
 by_cases hw:ws=[]
 ·exact concat_meets ⟨_,ho,rfl⟩ ⟨_,ho2,rfl⟩ noFill_tuple_add seq_tuple_add PySem.F.slot_tuple_add PySem.F.entry_tuple_add (PySem.F.args_tuple_add_2 _ _)
   (tuple_addW1 t b vs.toArray ws.toArray n n2 dd dd2 sl sl2 (by simpa using hv) (by simp [hw])) ⟨ho,ho2,h1 hw⟩
 ·refine concat_meets ⟨_,ho,rfl⟩ ⟨_,ho2,rfl⟩ noFill_tuple_add seq_tuple_add PySem.F.slot_tuple_add PySem.F.entry_tuple_add (PySem.F.args_tuple_add_2 _ _)
   (tuple_addW2 t b vs.toArray ws.toArray n n2 dd dd2 sl sl2 (by simpa using hv) (by simpa using hw) (by rw [O4,O4]; exact hsz)) ⟨ho,ho2,?_⟩
  rw [e];exact h2 hw
def sIx (n d:Nat):Option Int->Nat
 | none=>d
 | some v=>if v < 0 then (v + (n:Int)).toNat else min v.toNat n
theorem sIx_none (n d:Nat):sIx n d none=d:=rfl
theorem sIx_nat (n d k:Nat):sIx n d (some (k:Int))=min k n:=by
 show (if (k:Int) < 0 then ((k:Int) + (n:Int)).toNat else min (k:Int).toNat n)=min k n;rw [bT (by omega),Int.toNat_natCast]
theorem Qiy (n d:Nat) (hd:d<=n) (o:Option Int):sIx n d o<=n:=by
 cases o with
 | none=>exact hd
 | some v=>
  show (if v < 0 then (v + (n:Int)).toNat else min v.toNat n)<=n
  by_cases hv:v < 0
  ·rw [bS hv]; omega
  ·rw [bT hv]; exact Nat.min_le_right _ _
theorem Qah (v:Int) (n d:Nat):(if v < 0 then max (v + (n:Int)) 0 else min v (n:Int))=((sIx n d (some v):Nat):Int):=by
 show (if v < 0 then max (v + (n:Int)) 0 else min v (n:Int))=(((if v < 0 then (v + (n:Int)).toNat else min v.toNat n):Nat):Int)
 by_cases hv:v < 0
 ·simp only [bS hv]; omega
 ·simp only [bT hv]; omega
theorem Q9r (lo hi:Option Int) (n:Nat):Builtin.Slice.sliceAdjust lo hi 1 (n:Int)=(((sIx n 0 lo:Nat):Int),((sIx n n hi:Nat):Int)):=by
 have h1:¬ ((1:Int) < 0):=by omega
 unfold Builtin.Slice.sliceAdjust;simp only [h1,if_false];refine Prod.ext ?_ ?_
 ·cases lo with
  | none=>rfl
  | some v=>exact Qah v n 0
 ·cases hi with
  | none=>rfl
  | some v=>exact Qah v n n
theorem Q8t (i j:Nat):Builtin.Slice.slicePlaces (i:Int) (j:Int) 1=j - i:=by
 unfold Builtin.Slice.slicePlaces;have h1:(1:Int) > 0:=by omega
 simp only [h1,if_true,Int.ediv_one]
 split <;> omega
theorem Q22 {v:aA} {o:Option Int} {Q:Option Int->aC->Prop} (p:IsPart v o) (h:Q o s):aF (aI prog w) A (Builtin.Slice.slicePartIndex v) Q E s:=by
 cases p with
 | none=>exact slicePart_none h
 | int i t=>exact slicePart_int h
theorem K7 {sl:aB} {vl vu:aA} {lo hi:Option Int} {n:Nat} {Q:Int × Int × Nat->aC->Prop} (hs:s.heap.IsSliceOf sl vl vu .none) (pl:IsPart vl lo) (pu:IsPart vu hi)
  (h:Q (((sIx n 0 lo:Nat):Int),1,sIx n n hi - sIx n 0 lo) s):aF (aI prog w) A (Builtin.Slice.sliceApplied (.ref sl) (pure (n:Int))) Q E s:=by
 obtain ⟨os,hos,hcs,hds⟩:=id hs;unfold Builtin.Slice.sliceApplied Builtin.Slice.sliceFields;refine aD (aD (ae hos hds (x:=vl) rfl (aD (ae hos hds (x:=vu) rfl (aD (ae hos hds (x:=.none) rfl (aJ ?_)))))));refine aD (slicePart_none ?_);show aF _ _ (if ((1:Int) == 0)=true then _ else _) _ _ s;rw [bT (by decide)];refine aD (Q22 pl (aD (Q22 pu (aD (aJ ?_)))));show aF _ _ (match Builtin.Slice.sliceAdjust lo hi 1 (n:Int) with | (lo,hi)=>pure (lo,(1:Int),Builtin.Slice.slicePlaces lo hi 1)) _ _ s
 rw [Q9r lo hi n];show aF _ _ (pure (((sIx n 0 lo:Nat):Int),(1:Int),Builtin.Slice.slicePlaces ((sIx n 0 lo:Nat):Int) ((sIx n n hi:Nat):Int) 1)) _ _ s;rw [Q8t];exact aJ h
theorem Qdr (xs:Array aA) (i k:Nat):((List.range k).filterMap fun (m:Nat)=>xs[((i:Int) + (m:Int) * 1).toNat]?).toArray=((xs.toList.drop i).take k).toArray:=by
 have e:(fun (m:Nat)=>xs[((i:Int) + (m:Int) * 1).toNat]?)=fun m=>xs[i + m]?:=by
  funext m;have:((i:Int) + (m:Int) * 1).toNat=i + m:=by omega
  rw [this]
 rw [e];have:=pick_run xs i k;rw [List.filterMap_map] at this;have e2:((fun x=>xs[x]?) ∘ fun x=>i + x)=fun m=>xs[i + m]?:=rfl
 rw [e2] at this;rw [this]
theorem getItem_tuple_cut {t sl:aB} {items:Array aA} {vl vu:aA} {lo hi:Option Int} {Q:aA->aC->Prop} (ht:IsTup s.heap t items) (hs:s.heap.IsSliceOf sl vl vu .none) (pl:IsPart vl lo) (pu:IsPart vu hi)
  (hw:¬ (sIx items.size 0 lo=0/\sIx items.size items.size hi=items.size))
  (h:Q (.ref s.heap.objs.size) { s with heap:=s.heap.push { cls:=.type "tuple",data:=.seq ((items.toList.drop (sIx items.size 0 lo)).take (sIx items.size items.size hi - sIx items.size 0 lo)).toArray } })
  (hsz:items.size<=sizeLine):aF (aI prog w) A (getItem (.ref t) (.ref sl)) Q E s:=by
 have htake:sizeOk (.seq ((items.toList.drop (sIx items.size 0 lo)).take (sIx items.size items.size hi - sIx items.size 0 lo)).toArray):=by
  show ((items.toList.drop (sIx items.size 0 lo)).take (sIx items.size items.size hi - sIx items.size 0 lo)).toArray.size<=sizeLine;rw [O4,F7,L3,Array.length_toList];omega
 have hj:sIx items.size items.size hi<=items.size:=Qiy _ _ (O9 _) hi;obtain ⟨os,hos,hcs,hds⟩:=id hs;have hTs:s.TypeIs (.ref sl) "slice" := ⟨os,hos,hcs⟩;unfold getItem
 try with_reducible refine aj ?_
 first | refine aD (aJ ?_) | skip
 refine aD (wpAny_sequenceKey ht.typeIs (by decide) ?_);refine aD (wpAny_callSpecial?_slot (name:=Str.ofString "__getitem__") ht.typeIs PyProof.Rows.slot_tuple_getitem
  (ak PyProof.Rows.slot_tuple_getitem ht.typeIs entry_tuple_getitem ?_ (args_tuple_getitem _ _)))
 show aF _ _ (Builtin.Tuple.tupleItemsOf (.ref t) >>= _) _ _ s;refine aD (tupleItemsOf_ ht ?_);refine aD (bI hTs ?_);rw [bS (by decide)];refine aD (K7 hs pl pu ?_);have hno:¬ ((((sIx items.size 0 lo:Nat):Int) == 0 && (1:Int) == 1 && (sIx items.size items.size hi - sIx items.size 0 lo) == items.size)=true):=by
  intro q;rw [G8,G8] at q;have q1:((sIx items.size 0 lo:Nat):Int)=0:=eq_of_beq q.1.1;have q2:sIx items.size items.size hi - sIx items.size 0 lo=items.size:=eq_of_beq q.2;exact hw ⟨by omega,by omega⟩
 show aF _ _ (if (((sIx items.size 0 lo:Nat):Int) == 0 && (1:Int) == 1 && (sIx items.size items.size hi - sIx items.size 0 lo) == items.size)=true then _ else _) _ _ s;rw [bT hno,Qdr]
 first
  | exact aD (m:=Builtin.Tuple.tupleExact _) (ao (aJ ⟨_,rfl,aJ h⟩) htake)
  | exact aD (m:=Builtin.Tuple.tupleExact _) (ao (aD (aJ (aJ ⟨_,rfl,aJ h⟩))) htake)
  | exact aD (aD (m:=Builtin.Tuple.tupleExact _) (ao (aJ (aJ ⟨_,rfl,aJ h⟩)) htake))
  | exact aD (aD (m:=Builtin.Tuple.tupleExact _) (ao (aJ ⟨_,rfl,aJ h⟩) htake))
end
end HT
namespace L2
open PySem PySem.Spec PyProof.Rows
abbrev TO:=St->Hp->(Option Int->Hp->Prop)->Prop
def PO (X:Cx) (e:Option aH) (t:TO):Prop:=
 ∀ (pins:List (aB × Obj)) (s:aC) (σ:St) (H:Hp) (Q:Option Int->Hp->Prop),Inv X pins σ H s->t σ H Q ->
  aF (aI X.prog X.w) X.A (evalPart e X.env) (fun u s'=>∃ o H',Inv X pins σ H' s'/\IsPart u o/\Q o H') X.xe s
def Qfw:TO:=fun _ H Q=>Q none H
def Qn8 (t:TE):TO:=fun σ H Q=>t σ H fun x H1=>∃ i,x=.int i/\Q (some i) H1
theorem Kz {ns:List Int}:∀ {us:List aA},Vals (ns.map V.int) us->IntsAre us ns:=by
 induction ns with
 | nil=>intro us r; rw [List.map_nil] at r; cases r; exact .nil
 | cons n ns ih=>
  intro us r;rw [O6] at r;cases r with
  | cons r1 r2=>
   obtain ⟨t,e⟩:=r1;subst e;exact .cons n t (ih r2)
section
variable {X:Cx} {e:aH} {te:TE} {lo hi:Option aH} {tl th:TO} {pos p2:Pos}
theorem Qgq:PO X none Qfw:=by
 intro pins s σ H Q I h;rw [evalPart_none];exact aJ ⟨none,H,I,.none,h⟩
theorem Qgp (h:PE X e te):PO X (some e) (Qn8 te):=by
 intro pins s σ H Q I hw;rw [evalPart_some];refine thn (h pins s σ H _ I hw) fun u s1 ⟨x,H1,I1,r1,q1⟩=>?_
 obtain ⟨i,rfl,q⟩:=q1;obtain ⟨t,rfl⟩:=r1;exact ⟨some i,H1,I1,.int i t,q⟩
def SlR (X:Cx) (r:V->Option Int->Option Int->Hp->VK->Prop):Prop:=
 ∀ (pins:List (aB × Obj)) (s:aC) (σ:St) (H:Hp) (x:V) (v vl vu:aA) (lo hi:Option Int) (sl:aB) (Q:VK),Inv X pins σ H s->RelV x v->s.heap.IsSliceOf sl vl vu .none->IsPart vl lo->IsPart vu hi->r x lo hi H Q ->
  ∃ T id,typeLookup (.type T) "__getitem__" = pure (some (.builtin id))/\s.TypeIs v T/\aF (aI X.prog X.w) X.A (getItem v (.ref sl)) (EP X pins σ Q) X.xe s
theorem SlR.or {r r':V->Option Int->Option Int->Hp->VK->Prop} (h:SlR X r) (h':SlR X r'):SlR X (fun x lo hi H Q=>r x lo hi H Q\/r' x lo hi H Q):=by
 intro pins s σ H x v vl vu lo hi sl Q I rx hs pl pu q;rcases q with q | q
 ·exact h pins s σ H x v vl vu lo hi sl Q I rx hs pl pu q
 ·exact h' pins s σ H x v vl vu lo hi sl Q I rx hs pl pu q
def tSl (r:V->Option Int->Option Int->Hp->VK->Prop) (te:TE) (tl th:TO):TE:=fun σ H Q=>te σ H fun x H1=>tl σ H1 fun l H2=>th σ H2 fun u H3=>r x l u H3 Q
theorem Qdu {r:V->Option Int->Option Int->Hp->VK->Prop} (hr:SlR X r) (he:PE X e te) (hl:PO X lo tl) (hu:PO X hi th):PE X (.Subscript e (.Slice lo hi none p2) pos) (tSl r te tl th):=by
 intro pins s σ H Q I h;refine Subscript_ (thn (he pins s σ H _ I h) fun v s1 ⟨x,H1,I1,r1,q1⟩=>?_)
 refine wpAny_Slice (thn (hl pins s1 σ H1 _ I1 q1) fun vl s2 ⟨l,H2,I2,pl,q2⟩=>thn (hu pins s2 σ H2 _ I2 q2) fun vu s3 ⟨u,H3,I3,pu,q3⟩=>?_)
 rw [evalPart_none];refine aJ ?_;have I4:Inv X pins σ H3 { s3 with heap:=s3.heap.push { cls:=.type "slice",data:=.fields #[vl,vu,.none] } }:=I3.kept (t':=s3.toks) fun b ob q=>O1 _ q
 obtain ⟨T,id,hT,ht,hg⟩:=hr pins { s3 with heap:=s3.heap.push { cls:=.type "slice",data:=.fields #[vl,vu,.none] } } σ H3 x v vl vu l u s3.heap.objs.size Q I4 r1 (Heap.IsSliceOf.new ..) pl pu q3;show aF (aI X.prog X.w) X.A (subscriptTail e (.Slice lo hi none p2) v (.ref s3.heap.objs.size)) (EP X pins σ Q) X.xe { s3 with heap:=s3.heap.push { cls:=.type "slice",data:=.fields #[vl,vu,.none] } };exact tail_any (ops:=[.ref s3.heap.objs.size,v]) ht hT hg (by with_unfolding_all rfl)
def Q81 (xs:List V) (lo hi:Option Int):List V:=(xs.drop (HT.sIx xs.length 0 lo)).take (HT.sIx xs.length xs.length hi - HT.sIx xs.length 0 lo)
theorem Q0n (xs:List V) (lo hi:Option Int):(Q81 xs lo hi).length<=xs.length:=by
 unfold Q81;rw [F7,L3];omega
def Qs4 (K:PySem.W.Frag):V->Option Int->Option Int->Hp->VK->Prop:=fun x lo hi H Q=>∃ a xs,x=.ref a/\SqT K H a xs /\
 ¬ (HT.sIx xs.length 0 lo=0/\HT.sIx xs.length xs.length hi=xs.length)/\∀ p,H p=none->Q (.ref p) (upd H p (.tup (Q81 xs lo hi)))
theorem sl_tup:SlR X (Qs4 X.K):=by
 intro pins s σ H x v vl vu lo hi sl Q I rx hs pl pu h;obtain ⟨a,xs,rfl,hx,hw,q⟩:=h;cases rx;obtain ⟨its,r,ht,hz⟩:=I.tuple hx;have hlen:its.toArray.size=xs.length:=by rw [O4]; exact r.length.symm
 refine ⟨"tuple",_,PyProof.Rows.slot_tuple_getitem.lookup,ht.typeIs,?_⟩;refine HT.getItem_tuple_cut ht hs pl pu (by rw [hlen]; exact hw) ?_ (by rw [hlen]; exact hz);rw [hlen];refine ⟨.ref s.heap.objs.size,_,I.laid (t':=s.toks) (o:=.tup (Q81 xs lo hi)) (fun b ob q=>O1 _ q) (O9 _) ?_,rfl,q _ (I.hok.fresh (O9 _))⟩;exact ⟨E7 (Q0n xs lo hi) hz,_,(r.drop (HT.sIx xs.length 0 lo)).take (HT.sIx xs.length xs.length hi - HT.sIx xs.length 0 lo),IsTup.new _ _⟩
def Qs7 (K:PySem.W.Frag):R2:=fun x y H Q=>∃ a b ns ms,x=.ref a/\y=.ref b/\SqT K H a (ns.map V.int)/\SqT K H b (ms.map V.int)/\Q (.bl (HT.lexLt ns ms)) H
theorem Qjt (hu:X.A.units < aW):OpR X (aU .Lt) (Qs7 X.K):=by
 intro pins s σ H x y v u Q I rx ry h;obtain ⟨a,b,ns,ms,rfl,rfl,ha,hb,q⟩:=h;cases rx;cases ry;obtain ⟨its,r1,p1,_⟩:=I.tuple ha;obtain ⟨its2,r2,p2,_⟩:=I.tuple hb;have i1:IntsAre its.toArray.toList ns:=Kz r1;have i2:IntsAre its2.toArray.toList ms:=Kz r2;exact HT.lt_tupInts p1 p2 i1 i2 hu ⟨.bl (HT.lexLt ns ms),H,I,rfl,q⟩
def Qi9 (K:PySem.W.Frag):R2:=fun x y H Q=>∃ a b xs ys,x=.ref a/\y=.ref b/\SqT K H a xs/\SqT K H b ys/\xs≠[]/\xs.length + ys.length<=sizeLine /\
 (ys=[]->Q (.ref a) H)/\(ys≠[]->∀ p,H p=none->Q (.ref p) (upd H p (.tup (xs ++ ys))))
theorem Vals.nil_iff {xs:List V} {us:List aA} (r:Vals xs us):us=[] <-> xs=[]:=by
 cases r with
 | nil=>simp
 | cons _ _=>simp
theorem op_catT:OpR X (aZ .Add) (Qi9 X.K):=by
 intro pins s σ H x y v u Q I rx ry h;obtain ⟨a,b,xs,ys,rfl,rfl,ha,hb,hx,hz,q1,q2⟩:=h;cases rx;cases ry;obtain ⟨its,r1,p1,_⟩:=I.tuple ha;obtain ⟨its2,r2,p2,_⟩:=I.tuple hb;refine HT.cat_tup p1 p2 (fun z=>hx (r1.nil_iff.mp z)) (fun z=>⟨.ref a,H,I,rfl,q1 (r2.nil_iff.mp z)⟩) (fun z=>?_) (by rw [<- r1.length,<- r2.length]; exact hz)
 refine ⟨.ref s.heap.objs.size,_,I.laid (t':=s.toks) (o:=.tup (xs ++ ys)) (fun b ob q=>O1 _ q) (O9 _) ?_,rfl,q2 (fun w=>z (r2.nil_iff.mpr w)) _ (I.hok.fresh (O9 _))⟩;exact ⟨by rw [D0]; exact hz,_,r1.append r2,IsTup.new _ _⟩
end
def ixN (n:Nat) (i:Int):Option Nat:=if 0<=i then (if i < n then some i.toNat else none) else if -(n:Int)<=i then some (i + n).toNat else none
def atI {α:Type} (xs:List α) (i:Int):Option α:=(ixN xs.length i).bind fun j=>xs[j]?
theorem Qac {n:Nat} {i:Int} {j:Nat} (h:ixN n i=some j):seqIndex? i n=some j/\j < n/\-(n:Int)<=i/\i < n:=by
 unfold ixN at h
 by_cases h0:0<=i
 ·rw [bS h0] at h
  by_cases h1:i < n
  ·rw [bS h1] at h;have e:i.toNat=j:=Option.some.inj h;exact ⟨by rw [seqIndex_of h0 h1,e],by omega,by omega,h1⟩
  ·rw [bT h1] at h; cases h
 ·rw [bT h0] at h
  by_cases h1:-(n:Int)<=i
  ·rw [bS h1] at h;have e:(i + n).toNat=j:=Option.some.inj h;exact ⟨by rw [seqIndex_neg (by omega) h1,e],by omega,h1,by omega⟩
  ·rw [bT h1] at h; cases h
theorem atI_get {α:Type} {xs:List α} {i:Int} {v:α} (h:atI xs i=some v):∃ j,seqIndex? i xs.length=some j/\xs[j]?=some v/\j < xs.length/\-(xs.length:Int)<=i/\i < xs.length:=by
 unfold atI at h;cases e:ixN xs.length i with
 | none=>rw [e] at h; cases h
 | some j=>
  rw [e] at h;obtain ⟨h1,h2,h3,h4⟩:=Qac e;exact ⟨j,h1,h,h2,h3,h4⟩
def Qan (b:aH):Prop:=∀ o i,subscripted b false o i=operate [o,i] (getItem o i)
def IxR (X:Cx) (r:R2):Prop:=
 ∀ (value slice:aH) (pins:List (aB × Obj)) (s:aC) (σ:St) (H:Hp) (x y:V) (v u:aA) (Q:VK),Inv X pins σ H s->RelV x v->RelV y u->r x y H Q ->
  subscripted slice false v u=operate [v,u] (getItem v u)->aF (aI X.prog X.w) X.A (subscriptTail value slice v u) (EP X pins σ Q) X.xe s
def MtR (X:Cx) (id:String) (r:V->List V->Hp->VK->Prop):Prop:=
 ∀ (pins:List (aB × Obj)) (s:aC) (σ:St) (H:Hp) (x:V) (xs:List V) (v:aA) (us:List aA) (Q:VK),Inv X pins σ H s->RelV x v->Vals xs us->r x xs H Q ->
  aF (aI X.prog X.w) X.A (call (.builtin id) (v :: us)) (EP X pins σ Q) X.xe s
section
variable {X:Cx} {a b:aH} {ta tb:TE} {pos:Pos}
theorem IxR.or {r r':R2} (h:IxR X r) (h':IxR X r'):IxR X (fun x y H Q=>r x y H Q\/r' x y H Q):=by
 intro value slice pins s σ H x y v u Q I rx ry q hs;rcases q with q | q
 ·exact h value slice pins s σ H x y v u Q I rx ry q hs
 ·exact h' value slice pins s σ H x y v u Q I rx ry q hs
theorem Qp0 {r:R2} (hr:IxR X r) (ha:PE X a ta) (hb:PE X b tb) (hs:Qan b):PE X (.Subscript a b pos) (tOp r ta tb):=by
 intro pins s σ H Q I h;exact Subscript_ (Qm9 ha hb I h fun v u s2 x y H2 I2 rx ry q=>hr a b pins s2 σ H2 x y v u Q I2 rx ry q (hs _ _))
def Qj0 (K:PySem.W.Frag):R2:=fun x y H Q=>∃ p xs i v,x=.ref p/\y=.int i/\SqL K H p xs/\atI xs i=some v/\Q v H
def Qnq (K:PySem.W.Frag):R2:=fun x y H Q=>∃ p xs i v,x=.ref p/\y=.int i/\SqT K H p xs/\atI xs i=some v/\Q v H
def Qnr:R2:=fun x y H Q=>∃ z i c,x=.str z/\y=.int i/\z.length<=sizeLine/\atI z.cps.toList i=some c/\Q (.str ⟨#[c]⟩) H
theorem ix_list:IxR X (Qj0 X.K):=by
 intro value slice pins s σ H x y v u Q I rx ry h hs;obtain ⟨p,xs,i,z,rfl,rfl,hq,he,q⟩:=h;cases rx;obtain ⟨t,rfl⟩:=ry;obtain ⟨its,r,pl,hz⟩:=I.list hq;obtain ⟨j,h1,h2,h3,h4,h5⟩:=atI_get he;obtain ⟨w,ew,rw'⟩:=r.get h2;have hl:=r.length;have hn:=zx;have fin:EP X pins σ Q w s:=⟨z,H,I,rw',q⟩
 by_cases h0:0<=i
 ·have hj:i.toNat=j:=by
   rw [seqIndex_of h0 h5] at h1;exact Option.some.inj h1
  exact item_listR pl.isList h0 (by omega) (by rw [hj]; simpa using ew) fin hs
 ·have hj:(i + (its.toArray.size:Int)).toNat=j:=by
   rw [seqIndex_neg (by omega) h4] at h1;rw [O4,<- hl];exact Option.some.inj h1
  exact subscriptTail_builtinR (x:=w) pl.isList.typeIs slot_list_getitem.lookup
   (wpAny_getItem_list_neg (Q:=fun r s'=>r=w/\EP X pins σ Q r s') pl.isList (by omega) (by rw [O4] <;> omega) (by omega) (by rw [hj]; simpa using ew) ⟨rfl,fin⟩) hs
theorem ix_tup:IxR X (Qnq X.K):=by
 intro value slice pins s σ H x y v u Q I rx ry h hs;obtain ⟨p,xs,i,z,rfl,rfl,hq,he,q⟩:=h;cases rx;obtain ⟨t,rfl⟩:=ry;obtain ⟨its,r,pl,hz⟩:=I.tuple hq;obtain ⟨j,h1,h2,h3,h4,h5⟩:=atI_get he;obtain ⟨w,ew,rw'⟩:=r.get h2;have hl:=r.length;have hn:=zx;have fin:EP X pins σ Q w s:=⟨z,H,I,rw',q⟩;exact subscriptTail_builtinR (x:=w) pl.typeIs slot_tuple_getitem.lookup
  (getItem_tuple (j:=j) (Q:=fun r s'=>r=w/\EP X pins σ Q r s') pl (by omega) (by omega) (by rw [O4,<- hl]; exact h1) (by simpa using ew) ⟨rfl,fin⟩) hs
theorem Qkj:IxR X Qnr:=by
 intro value slice pins s σ H x y v u Q I rx ry h hs;obtain ⟨z,i,c,rfl,rfl,hz,he,q⟩:=h;obtain ⟨t,rfl⟩:=rx;obtain ⟨t',rfl⟩:=ry;obtain ⟨j,h1,h2,h3,h4,h5⟩:=atI_get he;have hl:z.cps.toList.length=z.length:=by simp [Str.length]
 rw [hl] at h1 h4 h5;have hn:=zx;exact tail_any (typeIs_str s z t) slot_str_getitem.lookup (getItem_str (c:=c) (by
  have e1:decide (i < -(2 ^ 63:Int))=false:=bU (by omega);have e2:decide (i>=2 ^ 63)=false:=bU (by omega);rw [e1,e2,Bool.or_false]) (by rw [h1]; simpa using h2) ⟨.str ⟨#[c]⟩,H,I.tok _,⟨_,rfl⟩,q⟩) hs
def rIx (K:PySem.W.Frag):R2:=fun x y H Q=>Qj0 K x y H Q\/Qnq K x y H Q\/Qnr x y H Q
theorem Qkk:IxR X (rIx X.K):=ix_list.or (ix_tup.or Qkj)
theorem Q93 (its:List aA) (n j:Nat) (u:aA):Obj.mapSeq (·.setIfInBounds j u) { cls:=.type "list",data:=.seq its.toArray n }={ cls:=.type "list",data:=.seq (its.set j u).toArray n }:=by
 simp [Obj.mapSeq]
theorem Inv.lst {pins:List (aB × Obj)} {σ:St} {H:Hp} {s:aC} {p:aB} {xs:List V} (I:Inv X pins σ H s) (h:H p=some (.lst xs)) :
  ∃ (its:List aA) (n:Nat),Vals xs its/\s.heap.get? p=some { cls:=.type "list",data:=.seq its.toArray n }/\xs.length<=sizeLine:=by
 obtain ⟨z,its,n,r,e⟩:=I.hok p _ h;exact ⟨its,n,r,e,z⟩
theorem Inv.lstUpd {pins:List (aB × Obj)} {σ:St} {H:Hp} {s:aC} {p:aB} {xs ys:List V} {its its':List aA} {n n':Nat} {f:Obj->Obj} (I:Inv X pins σ H s) (h:H p=some (.lst xs))
  (ho:s.heap.get? p=some { cls:=.type "list",data:=.seq its.toArray n }) (hf:f { cls:=.type "list",data:=.seq its.toArray n }={ cls:=.type "list",data:=.seq its'.toArray n' }) (r:Vals ys its') (hz:ys.length<=sizeLine) (t:Nat) :
  Inv X pins σ (upd H p (.lst ys)) { s with heap:=s.heap.update p f,toks:=t }:=by
 have e:(s.heap.update p f).get? p=some { cls:=.type "list",data:=.seq its'.toArray n' }:=by
  rw [Heap.get?_update_self f ho (by rw [hf] <;> rfl),hf]
 refine I.write (x:=p) (e:=p) (by rw [h]; trivial) (.inl rfl) (fun b u hb q=>(F6 _ _ (Ne.symm hb)).trans q) ⟨_,e⟩ ?_
 exact ⟨hz,its',n',r,e⟩
def Qnn:V->V->V->Hp->(Hp->Prop)->Prop:=fun o i v H Q=>∃ p xs k j,o=.ref p/\i=.int k/\H p=some (.lst xs)/\ixN xs.length k=some j/\Q (upd H p (.lst (xs.set j v)))
theorem Q6g:Qme X Qnn:=by
 intro pins s σ H o i v ov iv u Q I ro ri rv h;obtain ⟨p,xs,k,j,rfl,rfl,hp,hj,q⟩:=h;cases ro;obtain ⟨t,rfl⟩:=ri;obtain ⟨its,n,r,ho,hz⟩:=I.lst hp;obtain ⟨h1,h2,h3,h4⟩:=Qac hj;have hl:=r.length;have hn:=zx;have I':Inv X pins σ (upd H p (.lst (xs.set j v))) { s with heap:=s.heap.update p (Obj.mapSeq (·.setIfInBounds j u)) }:=
  I.lstUpd hp ho (Q93 its n j u) (r.set rv j) (by rw [F9]; exact hz) s.toks
 by_cases h0:0<=k
 ·have hk:k.toNat=j:=by
   rw [seqIndex_of h0 h4] at h1;exact Option.some.inj h1
  exact PySem.W.ki_setAt ho h0 (by omega) (by rw [O4,<- hl]; exact h4) (by rw [hk]; exact ⟨_,I',q⟩)
 ·have hk:(k + (its.toArray.size:Int)).toNat=j:=by
   rw [seqIndex_neg (by omega) h3] at h1;rw [O4,<- hl];exact Option.some.inj h1
  exact PySem.W.ki_setBack ho (by omega) (by rw [O4,<- hl]; exact h3) (by omega) (by rw [hk]; exact ⟨_,I',q⟩)
theorem Q54 (lo hi:Option Int) (n:Nat):(bF lo hi none n).1=((HT.sIx n 0 lo:Nat):Int)/\(bF lo hi none n).2.1=((HT.sIx n n hi:Nat):Int)/\(bF lo hi none n).2.2=1:=by
 refine ⟨?_,?_,rfl⟩
 ·cases lo with
  | none=>simp [bF,HT.sIx]
  | some i=>
   simp only [bF,HT.sIx,Option.getD_none,show (1:Int) > 0 by decide,if_true]
   by_cases h:i < 0
   ·simp only [h,if_true] <;> omega
   ·simp only [h,if_false] <;> omega
 ·cases hi with
  | none=>simp [bF,HT.sIx]
  | some i=>
   simp only [bF,HT.sIx,Option.getD_none,show (1:Int) > 0 by decide,if_true]
   by_cases h:i < 0
   ·simp only [h,if_true] <;> omega
   ·simp only [h,if_false] <;> omega
theorem Q3h (its:List aA) (lo hi:Option Int):slicePick its.toArray lo hi none=((its.drop (HT.sIx its.length 0 lo)).take (HT.sIx its.length its.length hi - HT.sIx its.length 0 lo)).toArray:=by
 obtain ⟨h1,h2,h3⟩:=Q54 lo hi its.toArray.size;unfold slicePick;rw [h1,h2,h3];simp only [sliceRange_one,pick_run,O4] <;> rfl
def Qs5 (K:PySem.W.Frag):V->Option Int->Option Int->Hp->VK->Prop:=fun x lo hi H Q=>∃ a xs,x=.ref a/\SqL K H a xs/\∀ p,H p=none->Q (.ref p) (upd H p (.lst (Q81 xs lo hi)))
theorem Qg4:SlR X (Qs5 X.K):=by
 intro pins s σ H x v vl vu lo hi sl Q I rx hs pl pu h;obtain ⟨a,xs,rfl,hx,q⟩:=h;cases rx;obtain ⟨its,r,ht,hz⟩:=I.list hx;have hlen:=r.length;refine ⟨"list",_,slot_list_getitem.lookup,ht.isList.typeIs,?_⟩;refine wpAny_getItem_list_slice ht.isList hs pl pu .none (by simp) ?_ (by rw [O4] <;> omega);rw [Q3h,<- hlen];refine ⟨.ref s.heap.objs.size,_,I.laid (t':=s.toks) (o:=.lst (Q81 xs lo hi)) (fun b ob q=>O1 _ q) (O9 _) ?_,rfl,q _ (I.hok.fresh (O9 _))⟩;exact ⟨E7 (Q0n xs lo hi) hz,_,0,(r.drop (HT.sIx xs.length 0 lo)).take (HT.sIx xs.length xs.length hi - HT.sIx xs.length 0 lo),I0 _ rfl⟩
theorem Q65:U4 X (.builtin "len") (fun xs H Q=>∃ p ys,xs=[.ref p]/\(SqL X.K H p ys\/SqT X.K H p ys)/\Q (.int ys.length) H):=by
 intro pins s σ H xs us Q I r h;obtain ⟨p,ys,rfl,hq,q⟩:=h;obtain ⟨u,rfl,rx⟩:=K6 r;cases rx;have hn:=zx;rcases hq with hq | hq
 ·obtain ⟨its,r',pl,hz⟩:=I.list hq;have hlen:=r'.length;exact Calls.call_len_list pl.isList (by simp only [O4] <;> omega) ⟨.int ys.length,H,I.tok _,⟨s.toks + 1,by rw [O4,hlen]⟩,q⟩
 ·obtain ⟨its,r',pl,hz⟩:=I.tuple hq;have hlen:=r'.length;exact len_tuple pl (by simp only [O4] <;> omega) ⟨.int ys.length,H,I.tok _,⟨s.toks + 1,by rw [O4,hlen]⟩,q⟩
theorem Q64:U4 X (.builtin "len") (fun xs H Q=>∃ z,xs=[.str z]/\z.length<=sizeLine/\Q (.int z.length) H):=by
 intro pins s σ H xs us Q I r h;obtain ⟨z,rfl,hz,q⟩:=h;obtain ⟨u,rfl,t,rfl⟩:=K6 r;have hn:=zx;exact len_str (by omega) ⟨.int z.length,H,I.tok _,⟨_,rfl⟩,q⟩
theorem xm:U4 X (.type "list") (fun xs H Q=>∃ p ys,xs=[.ref p]/\(SqL X.K H p ys\/SqT X.K H p ys)/\∀ l,H l=none->Q (.ref l) (upd H l (.lst ys))):=by
 intro pins s σ H xs us Q I r h;obtain ⟨p,ys,rfl,hq,q⟩:=h;obtain ⟨u,rfl,rx⟩:=K6 r;cases rx;have fin:∀ (its:List aA),Vals ys its->ys.length<=sizeLine->∀ (h':Heap) (c':Nat),(∀ b o',s.heap.get? b=some o'->h'.get? b=some o') ->
   h'.get? s.heap.objs.size=some { cls:=.type "list",dict:=none,data:=.seq its.toArray c',slots:=#[] }->EP X pins σ Q (.ref s.heap.objs.size) { s with heap:=h' }:=fun its r' hz h' c' kp e=>
  ⟨.ref s.heap.objs.size,_,I.laid (t':=s.toks) kp (O9 _) (show ObjOk X.prog X.w _ h' _ (.lst ys) from ⟨hz,its,c',r',e⟩),rfl,q _ (I.hok.fresh (O9 _))⟩
 rcases hq with hq | hq
 ·obtain ⟨its,r',pl,hz⟩:=I.list hq;have hlen:=r'.length;obtain ⟨o,ho,hc,n,hd⟩:=pl.isList;exact call_list_seq p (.inl rfl) ho hc hd (fun h' c' kp e=>fin its r' hz h' c' kp e) (by simp only [O4] <;> omega)
 ·obtain ⟨its,r',pl,hz⟩:=I.tuple hq;have hlen:=r'.length;obtain ⟨o,ho,hc,n,hd⟩:=pl;exact call_list_seq p (.inr rfl) ho hc hd (fun h' c' kp e=>fin its r' hz h' c' kp e) (by simp only [O4] <;> omega)
theorem zi:U4 X (.type "tuple") (fun xs H Q=>∃ p ys,xs=[.ref p]/\((SqL X.K H p ys/\∀ l,H l=none->Q (.ref l) (upd H l (.tup ys)))\/(SqT X.K H p ys/\Q (.ref p) H))):=by
 intro pins s σ H xs us Q I r h;obtain ⟨p,ys,rfl,h⟩:=h;obtain ⟨u,rfl,rx⟩:=K6 r;cases rx;rcases h with ⟨hq,q⟩ | ⟨hq,q⟩
 ·obtain ⟨its,r',pl,hz⟩:=I.list hq;have hlen:=r'.length;refine call_tuple_list pl.isList (fun h' kp=>?_) (by simp only [O4] <;> omega);have I1:Inv X pins σ H { s with heap:=h' }:=I.kept (t':=s.toks) kp;have I2:Inv X pins σ (upd H h'.objs.size (.tup ys)) { s with heap:=h'.push { cls:=.type "tuple",data:=.seq its.toArray } }:=
   I1.laid (t':=s.toks) (fun b o e=>O1 _ e) (O9 _) (show ObjOk X.prog X.w _ _ _ (.tup ys) from ⟨hz,its,r',IsTup.new _ _⟩)
  exact ⟨.ref h'.objs.size,_,I2,rfl,q _ (I1.hok.fresh (O9 _))⟩
 ·obtain ⟨its,r',pl,hz⟩:=I.tuple hq;exact call_tuple_same pl ⟨.ref p,H,I,rfl,q⟩
def tyV (K:PySem.W.Frag) (T:String) (x:V) (H:Hp):Prop:=match x with
 | .str _=>T = "str"
 | .int _=>T = "int"
 | .ref p=>(T = "list" /\ ∃ xs,SqL K H p xs)\/(T = "tuple" /\ ∃ o,K.lookup p=some o/\o.cls=.type "tuple" /\ o.dict=none) \/
   (T = "dict" /\ ((∃ kvs,H p=some (.dK kvs))\/∃ kvs,H p=some (.dT kvs)))\/(T = "set" /\ ∃ S n,H p=some (.set S n))
 | _=>False
theorem Qij {pins:List (aB × Obj)} {σ:St} {H:Hp} {s:aC} {T:String} {x:V} {v:aA} (I:Inv X pins σ H s) (r:RelV x v) (ty:tyV X.K T x H) :
  s.TypeIs v T/\∀ a,v=.ref a->∃ ob,s.heap.get? a=some ob/\ob.dict=none:=by
 cases x with
 | str z=>
  obtain ⟨t,rfl⟩:=r;cases (show T = "str" from ty);exact ⟨typeIs_str s z t,fun _ e=>nomatch e⟩
 | int i=>
  obtain ⟨t,rfl⟩:=r;cases (show T = "int" from ty);exact ⟨typeIs_int s i t,fun _ e=>nomatch e⟩
 | ref p=>
  cases r;rcases ty with ⟨rfl,xs,hq⟩ | ⟨rfl,o,hk,hc,hd⟩ | ⟨rfl,hk⟩ | ⟨rfl,S,n,hk⟩
  ·obtain ⟨its,_,pl,_⟩:=I.list hq;refine ⟨pl.isList.typeIs,fun a e=>?_⟩;cases e;obtain ⟨o,n,e,c,hd,_⟩:=pl;exact ⟨o,e,hd⟩
  ·refine ⟨⟨o,I.kIn p o hk,hc⟩,fun a e=>?_⟩
   cases e;exact ⟨o,I.kIn _ o hk,hd⟩
  ·have z:∃ o,s.heap.get? p=some o/\o.ExactDict:=by
    rcases hk with ⟨kvs,hk⟩ | ⟨kvs,hk⟩
    ·obtain ⟨_,_,_,_,o,_,_,e,ex,_⟩:=I.hok p _ hk;exact ⟨o,e,ex⟩
    ·obtain ⟨_,_,_,_,o,_,_,e,ex,_⟩:=I.hok p _ hk;exact ⟨o,e,ex⟩
   obtain ⟨o,e,ex⟩:=z;refine ⟨⟨o,e,ex.1⟩,fun a e2=>?_⟩
   cases e2;exact ⟨o,e,ex.2.1⟩
  ·obtain ⟨o,_,_,_,e,ex,_⟩:=I.hok p _ hk;refine ⟨⟨o,e,ex.1⟩,fun a e2=>?_⟩
   cases e2;exact ⟨o,e,ex.2.1⟩
 | _=>exact False.elim ty
def tBM (K:PySem.W.Frag) (T:String) (r:V->List V->Hp->VK->Prop) (to:TE) (t:TA):TE:=fun σ H Q=>to σ H fun x H1=>tyV K T x H1/\t σ H1 fun xs H2=>r x xs H2 Q
variable {o e:aH} {es:List aH} {to:TE} {t:TA} {name:Str} {apos cpos:Pos} {T id:String} {r:V->List V->Hp->VK->Prop}
theorem Qp1 (pa:PlainAttrs T) (slot:Slot T name id) (hty:typeOf (.builtin id)=pure (.type "method_descriptor")) (hm:MtR X id r) (ho:PE X o to) (ha:PA X (e :: es) t)
  (hbase:bM o name X.env (aN o X.env)=aN o X.env:=by rfl)
  (hfew:((ad cpos (aO (e :: es) X.env)).all (fun x=>!x.1) && (backToKw cpos (keywordEach [] X.env)).all (fun x=>x.1.isSome)
   && decide ((e :: es).length + ([]:List Keyword).length + (if ([]:List Keyword).isEmpty then 0 else 1) < 30))=true:=by rfl)
  (hline:(apos.endLine == cpos.line)=true:=by rfl) (hs:aO (e :: es) X.env=(false,aN e X.env) :: aO es X.env:=by rfl) (hplain:(ad cpos (aO es X.env)).any (·.1)=false:=by rfl) :
  PE X (.Call (.Attribute o name apos) (e :: es) [] cpos) (tBM X.K T r to t):=by
 intro pins s σ H Q I h;refine wpAny_Call_method_late hbase hfew hline rfl (thn (ho pins s σ H _ I h) fun v s1 ⟨x,H1,I1,r1,ty,q1⟩=>?_)
 obtain ⟨h1,h2⟩:=Qij I1 r1 ty;refine ⟨T,id,pa,slot,hty,h1,h2,?_⟩;have hA:=ha cpos pins s1 σ H1 _ I1 q1;rw [hs] at hA ⊢;refine Calls.callWith_builtin (by show (false || (ad cpos (aO es X.env)).any (·.1))=false; rw [hplain] <;> rfl) (Calls.evalArgs_plain ?_);exact thn hA fun us s2 ⟨vs,H2,I2,r2,q2⟩=>hm pins s2 σ H2 x vs v us Q I2 r1 r2 q2
end
def MtM (X:Cx) (id:String) (r:V->List V->Hp->VK->Prop):Prop:=
 ∀ (pins:List (aB × Obj)) (s:aC) (σ:St) (H:Hp) (x:V) (xs:List V) (v:aA) (us:List aA) (Q:VK),Inv X pins σ H s->RelV x v->Vals xs us->r x xs H Q ->
  aF (aI X.prog X.w) X.A (call (.builtin id) (v :: us)) (EP X pins σ Q) X.xe s
theorem Vals.one:∀ {x:V} {us:List aA},Vals [x] us->∃ u,us=[u]/\RelV x u
 | _,_,.cons r .nil=>⟨_,rfl,r⟩
theorem Vals.reverse {xs:List V} {us:List aA} (h:Vals xs us):Vals xs.reverse us.reverse:=by
 induction h with
 | nil=>exact .nil
 | cons r t ih=>rw [List.reverse_cons,List.reverse_cons]; exact Vals.append ih (.cons r .nil)
theorem Vals.rep {xs:List V} {us:List aA} (h:Vals xs us):∀ k:Nat,Vals (List.replicate k xs).flatten (List.replicate k us).flatten
 | 0=>.nil
 | k + 1=>by
  rw [List.replicate_succ,List.replicate_succ,List.flatten_cons,List.flatten_cons];exact Vals.append h (Vals.rep h k)
theorem Q0b (its:List aA):∀ (k:Nat) (acc:List aA),
  List.foldl (fun x1 x2=>x1 ++ x2) acc.toArray (List.replicate k its.toArray)=(acc ++ (List.replicate k its).flatten).toArray
 | 0,acc=>by simp
 | k + 1,acc=>by
  have e:acc.toArray ++ its.toArray=(acc ++ its).toArray:=by simp
  have e2:(acc ++ its) ++ (List.replicate k its).flatten=acc ++ (List.replicate (k + 1) its).flatten:=by
   rw [List.replicate_succ,List.flatten_cons,List.append_assoc]
  rw [<- e2,<- Q0b its k (acc ++ its),<- e,List.replicate_succ,List.foldl_cons]
section
variable {X:Cx} {pins:List (aB × Obj)} {σ:St} {H:Hp} {s:aC} {l b:aB} {xs ys zs:List V}
theorem Inv.lset {its its':List aA} {n:Nat} {f:Array aA->Array aA} {t':Nat} (I:Inv X pins σ H s) (hH:H l=some (.lst xs))
  (e:s.heap.get? l=some { cls:=.type "list",data:=.seq its.toArray n }) (hf:f its.toArray=its'.toArray) (hv:Vals ys its') (hz:ys.length<=sizeLine) :
  Inv X pins σ (upd H l (.lst ys)) { s with heap:=s.heap.update l (Obj.mapSeq f),toks:=t' }:=by
 have q:=PySem.IsL.update e f;rw [hf] at q;refine I.write (x:=l) (e:=l) (by rw [hH]; exact trivial) (.inl rfl) (fun b' u hb hu=>(F6 s.heap (Obj.mapSeq f) (Ne.symm hb)).trans hu) ⟨_,q⟩ ?_
 exact ⟨hz,its',_,hv,q⟩
theorem Inv.lnew {its:List aA} {t':Nat} (I:Inv X pins σ H s) (hv:Vals ys its) (hz:ys.length<=sizeLine) :
  Inv X pins σ (upd H s.heap.objs.size (.lst ys)) { s with heap:=s.heap.push { cls:=.type "list",data:=.seq its.toArray },toks:=t' }:=
 I.laid (fun _ _ q=>O1 _ q) (O9 _) ⟨hz,its,0,hv,I0 _ rfl⟩
theorem Inv.fresh (I:Inv X pins σ H s):H s.heap.objs.size=none:=I.hok.fresh (O9 _)
theorem Inv.lstM (I:Inv X pins σ H s) (hH:H l=some (.lst xs)):xs.length<=sizeLine/\∃ (its:List aA) (n:Nat),Vals xs its/\xs.length=its.length/\s.heap.get? l=some { cls:=.type "list",data:=.seq its.toArray n }:=by
 obtain ⟨z,its,n,r,e⟩:=I.hok l _ hH;exact ⟨z,its,n,r,r.length,e⟩
theorem Q73 {n:Nat} (h:n<=sizeLine):Builtin.List.listTooLong n=false:=by
 unfold Builtin.List.listTooLong;exact bU (by omega)
end
section
variable {X:Cx}
def Qgc:V->List V->Hp->VK->Prop:=fun x vs H Q=>∃ l xs y,x=.ref l/\vs=[y]/\H l=some (.lst xs)/\xs.length < sizeLine/\Q .non (upd H l (.lst (xs ++ [y])))
theorem Qb9:MtM X "list.append" Qgc:=by
 intro pins s σ H x vs v us Q I rx rv h;obtain ⟨l,xs,y,rfl,rfl,hH,hz,q⟩:=h;cases rx;obtain ⟨u,rfl,ru⟩:=rv.one;obtain ⟨z,its,n,r,hl,e⟩:=I.lstM hH;refine bB F.slot_list_append ⟨_,e,rfl⟩ F.entry_list_append (F.args_list_append_2 _ _) (PySem.list_append l its.toArray n u (by rw [O4]; omega)) ⟨e,?_⟩;refine ⟨.non,_,I.lset (its':=its ++ [u]) hH e (by simp) (r.append (.cons ru .nil)) ?_,rfl,q⟩;rw [D0,List.length_singleton];omega
def Qgb:V->List V->Hp->VK->Prop:=fun x vs H Q=>∃ l b xs zs,x=.ref l/\vs=[.ref b]/\H l=some (.lst xs)/\H b=some (.lst zs)/\xs.length + zs.length<=sizeLine/\Q .non (upd H l (.lst (xs ++ zs)))
theorem Qb8:MtM X "list.extend" Qgb:=by
 intro pins s σ H x vs v us Q I rx rv h;obtain ⟨l,b,xs,zs,rfl,rfl,hH,hB,hz,q⟩:=h;cases rx;obtain ⟨u,rfl,ru⟩:=rv.one;cases ru;obtain ⟨z,its,n,r,hl,e⟩:=I.lstM hH;obtain ⟨z2,its2,n2,r2,hl2,e2⟩:=I.lstM hB;have hsz:its.toArray.size + its2.toArray.size<=sizeLine:=by rw [O4,O4]; omega
 have hlong:¬ (!its.toArray.isEmpty && Builtin.List.listTooLong (its.toArray.size + its2.toArray.size))=true:=by
  rw [Q73 hsz,Bool.and_false];exact D2
 refine bB F.slot_list_extend ⟨_,e,rfl⟩ F.entry_list_extend (F.args_list_extend_2 _ _)
  (AutoSeq1.list_extend_list_list_0 l its.toArray n b its2.toArray n2 hlong (by rw [O4]; omega) (by omega)) ⟨e,e2,?_⟩
 refine ⟨.non,_,I.lset (its':=its ++ its2) hH e (by simp) (r.append r2) ?_,rfl,q⟩;rw [D0];omega
def Qs8:R2:=fun x y H Q=>∃ l b xs zs,x=.ref l/\y=.ref b/\H l=some (.lst xs)/\H b=some (.lst zs)/\xs.length + zs.length<=sizeLine/\∀ p,H p=none->Q (.ref p) (upd H p (.lst (xs ++ zs)))
theorem Qe6:OpR X (aZ .Add) Qs8:=by
 intro pins s σ H x y v u Q I rx ry h;obtain ⟨l,b,xs,zs,rfl,rfl,hH,hB,hz,q⟩:=h;cases rx;cases ry;obtain ⟨z,its,n,r,hl,e⟩:=I.lstM hH;obtain ⟨z2,its2,n2,r2,hl2,e2⟩:=I.lstM hB;refine PySem.P.add_list e e2 ?_ (by rw [O4,O4]; omega);have ea:its.toArray ++ its2.toArray=(its ++ its2).toArray:=by simp
 rw [ea];exact ⟨.ref _,_,I.lnew (t':=s.toks) (r.append r2) (by rw [D0]; omega),rfl,q _ I.fresh⟩
def Qs6:R2:=fun x y H Q=>∃ l k xs,x=.ref l/\y=.int k/\H l=some (.lst xs)/\-(2 ^ 63)<=k/\k < 2 ^ 63/\xs.length * k.toNat<=sizeLine /\
 ∀ p,H p=none->Q (.ref p) (upd H p (.lst (List.replicate k.toNat xs).flatten))
theorem Q5p {α:Type} (xs:List α) (k:Nat):(List.replicate k xs).flatten.length=k * xs.length:=by
 induction k with
 | zero=>simp
 | succ k ih=>rw [List.replicate_succ,List.flatten_cons,D0,ih,Nat.succ_mul,Nat.add_comm]
theorem Qjp:OpR X (aZ .Mult) Qs6:=by
 intro pins s σ H x y v u Q I rx ry h;obtain ⟨l,k,xs,rfl,rfl,hH,h1,h2,hz,q⟩:=h;cases rx;obtain ⟨t,rfl⟩:=ry;obtain ⟨z,its,n,r,hl,e⟩:=I.lstM hH;have hlen:its.toArray.size * k.toNat<=sizeLine:=by rw [O4,<- hl]; exact hz
 have hcap:¬ its.toArray.size * k.toNat > (2 ^ 63 - 1) / 8:=by
  have:(sizeLine:Nat)<=(2 ^ 63 - 1) / 8:=by decide
  omega
 have hfit:¬ (!Builtin.List.listFitsIndex k)=true:=by
  rw [fitsIndex_both h1 h2];exact D2
 have hlong:¬ Builtin.List.listTooLong (its.toArray.size * k.toNat)=true:=by
  rw [Q73 hlen];exact D2
 have hnew:List.foldl (fun x1 x2=>x1 ++ x2) #[] (List.replicate (if its.toArray.isEmpty=true then 0 else k.toNat) its.toArray)=(List.replicate k.toNat its).flatten.toArray:=by
  have f0:∀ m:Nat,List.foldl (fun x1 x2=>x1 ++ x2) #[] (List.replicate m its.toArray)=(List.replicate m its).flatten.toArray:=fun m=>by
   have:=Q0b its m [];rw [List.nil_append] at this;exact this
  rw [f0];cases its with
  | nil=>simp
  | cons a r'=>rw [bT (by simp)]
 refine wpAny_binaryOp_repeat_ref (T := "list") (U := "int") (by decide) ⟨_,e,rfl⟩ (fun s'=>typeIs_int s' k t) noFill_list_mul F.fills_int_mul F.slot_int_rmul repeat_list F.slot_int_index.lookup
  (bB F.slot_int_rmul (typeIs_int s k t) F.entry_int_rmul (F.args_int_rmul_2 _ _) (int___rmul___int_list k t l its.toArray n)
   ⟨e,rfl,⟨_,e,rfl⟩,bB F.slot_list_mul ⟨_,e,rfl⟩ F.entry_list_mul (F.args_list_mul_2 _ _) (AutoListH.list___mul___list_int_3 l its.toArray n k t hfit hcap hlong) ⟨e,?_⟩⟩)
 rw [hnew];exact ⟨.ref _,_,I.lnew (t':=s.toks) (r.rep k.toNat) (by rw [Q5p,Nat.mul_comm]; exact hz),rfl,q _ I.fresh⟩
end
section
variable {prog:aL} {w:aK} {A:aM} {E:aA->aC->Prop} {s:aC}
end
section
variable {X:Cx}
end
end L2
namespace Att
open PySem PySem.W PySem.Calls PyProof.Rows
theorem Q12 {P:Params} {h:Heap}:∀ (ns:List Int) (vs:List aA),WellAll P h vs (ns.map WData.int)->IntsAre vs ns:=by
 intro ns
 induction ns with
 | nil=>
  intro vs w;rw [List.map_nil] at w;cases w;exact .nil
 | cons n ns ih=>
  intro vs w;rw [O6] at w;cases w with
  | cons a b=>
   cases a;exact .cons _ _ (ih _ b)
theorem Qav {l:OpenLaw} {n:Nat} (hn:l.most=some n) {P:Params} {h:Heap} {args:List WData} {vals:List aA}
  (hpre:l.row.toRowW.claim.pre args=true) (hwl:WellAll P h vals args) :
  ∃ a vs ns,vals=[Value.ref a]/\args=[WData.list (ns.map WData.int)]/\h.get? a=some { cls:=.type "list",data:=.seq vs.toArray }/\IntsAre vs ns/\ns.length<=n:=by
 have hsh:WShape.hasAll [] args [.list .int]=true:=(pre_splitW hpre).1;have hc:l.pre.holds [] { args:=args }=true:=(pre_splitW hpre).2;obtain ⟨d,r,rfl,h1,h2⟩:=hasAllW_cons hsh;obtain rfl:=hasAllW_nil h2;obtain ⟨xs,rfl,h3⟩:=hasW_list h1;obtain ⟨ns,rfl⟩:=items_int h3;have hlen:ns.length<=n:=by
  unfold OpenLaw.pre at hc;have h4:(WTm.not (.lt (.lit (.int (n:Int))) (.len (.arg 0)))).holds [] { args:=[.list (ns.map .int)] }=true:=by
   have h4:=(holds_andW hc).1;rw [hn] at h4;exact h4
  have h5:=condW_of h4 (w_not (w_lt w_lit (w_len_list (w_arg rfl))));rw [O3] at h5;refine Nat.le_of_not_lt fun q=>?_
  have q':(n:Int) < ((ns.length:Nat):Int):=by omega
  first
   | (rw [bV q'] at h5; exact absurd h5 (by decide))
   | (simp at h5; omega)
 cases hwl with
 | cons w1 w2=>
  cases w2;cases w1 with
  | list ho hall=>exact ⟨_,_,ns,rfl,rfl,ho,Q12 ns _ hall,hlen⟩
theorem Qaz (l:OpenLaw) (args:List WData):l.row.toRowW.claim.post args (.bool true) args=true:=
 postW_of (r:=l.row.toRowW) (X:=(true == true))
  (show WShape.has [] (.bool true) .bool=true by first | rfl | decide | simp [WShape.has,WShape.arms,WShape.armsAll])
  (show (WTm.eq .res (.lit (.bool true))).value [] { args:=args,res:=some (.bool true),after:=args }=some (.bool (true == true)) from w_eq_bool (w_res rfl) w_lit) rfl
theorem attach_call {l:OpenLaw} {n:Nat} {q:aL} {loose:List Str} {XP:(Str->Option aA)->Heap->Prop} {YP:aK->Heap->Prop} {d:DefRec}
  (hn:l.most=some n) (hdf:d.params.defaults=[])
  (call:∀ (w:aK) (s₀ s₁:aC) (mg mb:Str->Option aA) (fa:aB) (o:Obj) (pm cd doc:aA) (a:aB) (vs:List aA) (ns:List Int),
   Ground q loose [] XP w s₀ mg mb s₁.heap->YP w s₁.heap ->
   s₁.heap.get? fa=some o->o.data=.func (docDef d.name d.params d.body d.scope pm cd doc)->s₁.heap.CodeRec cd d.name->mg d.name=some (.ref fa) ->
   s₁.heap.get? a=some { cls:=.type "list",data:=.seq vs.toArray }->IntsAre vs ns->ns.length<=n->s₁.gens=#[] ->
   codeAny (aI l.prog w) callerA (.call (.ref fa) ⟨[.ref a],[]⟩) (fun r s'=>r=.ok (.ret (.bool true))/\OldK s₁.heap s'.heap/\s'.os=s₁.os/\AllBare s'.gens) s₁) :
  WalkO q loose XP YP l.row.toRowW d [] (fun f vs=>PySem.call f vs):=by
 intro w s₀ s₁ mg mb G Y fa o pm cd doc dV kV ho hd hcd hD hmg hg args vals as hpre hlay hrd hwl hlo;obtain rfl:dV=.none:=Dflts.none hD hdf;obtain rfl:kV=.none:=Dflts.noKw hD;obtain ⟨a,vs,ns,rfl,rfl,hobj,hints,hlen⟩:=Qav hn hpre hwl;refine enter_call (bH (call w s₀ s₁ mg mb fa o pm cd doc a vs ns G Y ho (fd_plain hd) hcd hmg hobj hints hlen hg) fun r s' hq=>?_)
 obtain ⟨rfl,h2,h3,h4⟩:=hq;exact ⟨.inl ⟨.bool true,.bool true,[],rfl,fun _=>rfl,.bool true,Qaz l _,fun _=>⟨List.Pairwise.nil,fun _ hm=>(nomatch hm)⟩⟩,h2,h3,h4⟩
section
variable {prog:aL} {w:aK} {A:aM} {E:aA->aC->Prop} {s:aC} {K:Frag}
end
end Att
namespace L2
open PySem PySem.Spec PyProof.Rows
theorem Q3s:∀ {vs:List aA} {ns:List Int},IntsAre vs ns->Vals (ns.map V.int) vs
 | _,_,.nil=>.nil
 | _,_,.cons n t h=>.cons ⟨t,rfl⟩ (Q3s h)
def Qmf (H:Hp):Prop:=∀ b,H b=none\/∃ o xs,H b=some (.frz o (.lst xs))
theorem Qek {P:aL} {w:aK} {K:PySem.W.Frag} {mg mb:Str->Option aA} {CX:CXT} {k:Nat} {fa a:aB} {fd:aR} {x:Str} {sp:Sp} {s₁:aC} {vs:List aA} {ns:List Int}
  (KX:K.In s₁.heap) (hns:s₁.heap.Ns aQ mg) (hb:s₁.heap.Ns builtinsNs mb) (hbb:∀ x:Str,x≠"__name__" -> mb x=aY x) (hlim:s₁.heap.NoLimit) (hg:s₁.gens=#[])
  (ha:s₁.heap.get? a=some { cls:=.type "list",data:=.seq vs.toArray }) (hi:IntsAre vs ns) (hl:ns.length<=sizeLine) (hr:Room k callerA)
  (F:∀ base:Heap,K.In base->base.Ns aQ mg->FnOk P w K mg base CX k fa fd [x] sp) (hbind:∀ (s:aC) (u:aA),BindsTo s fd ⟨[u],[]⟩ [(x,u)])
  (hsp:∀ H:Hp,Qmf H->SqL K H a (ns.map V.int)->sp [.ref a] H (fun v _=>v=.bl true) fun _ _ _=>False)
  (hCX:∀ H e s',CX [] H s₁ (fun _ _ _=>False) e s'->False) :
  codeAny (aI P w) callerA (.call (.ref fa) ⟨[.ref a],[]⟩) (fun r s'=>r=.ok (.ret (.bool true))/\OldK s₁.heap s'.heap/\s'.os=s₁.os/\AllBare s'.gens) s₁:=by
 have rv:=Q3s hi;have lenV:=hi.length;have core:∀ H:Hp,Qmf H->SqL K H a (ns.map V.int)->HOk P w H s₁.heap->(∀ b,H b≠none->b=a)->(H a≠none->K.lookup a=none) ->
   codeAny (aI P w) callerA (.call (.ref fa) ⟨[.ref a],[]⟩) (fun r s'=>r=.ok (.ret (.bool true))/\OldK s₁.heap s'.heap/\s'.os=s₁.os/\AllBare s'.gens) s₁:=by
  intro H hO hS hok hA hK;have base_of:∀ {b:aB} {o:Obj},s₁.heap.get? b=some o->H b=none->(Q5t s₁.heap H).get? b=some o:=fun e n=>Qeq e n
  have noA:∀ {b:aB} {o:Obj} {es:Array DictEntry} {ep:Nat},s₁.heap.get? b=some o->o.data=.dict es ep->H b=none:=fun {b o es ep} e d=>by
   cases q:H b with
   | none=>rfl
   | some u=>
    have e':b=a:=hA b (by rw [q]; simp);subst e';rw [ha] at e; cases e;have d':Data.seq vs.toArray _=Data.dict es ep:=d;cases d'
  have nsK:∀ {b:aB} {m:Str->Option aA},s₁.heap.Ns b m->(Q5t s₁.heap H).Ns b m:=fun {b m} ⟨o,es,ep,e,d,r⟩=>⟨o,es,ep,base_of e (noA e d),d,r⟩
  have hKb:K.In (Q5t s₁.heap H):=fun b o e=>base_of (KX b o e) (by
   cases q:H b with
   | none=>rfl
   | some u=>
    have e':b=a:=hA b (by rw [q]; simp);subst e';rw [hK (by rw [q]; simp)] at e; cases e)
  have hM:Mod K mg (Q5t s₁.heap H):=⟨hKb,nsK hns,⟨mb,nsK hb,hbb⟩,let ⟨mc,h1,h2⟩:=hlim; ⟨mc,nsK h1,h2⟩⟩;have e0:Env0 P w K mg (Q5t s₁.heap H) callerA [] s₁ H:=⟨rfl,hM,fun b o e=>Qhc e,Nat.le_of_eq (Qbt _ _),trivial,fun b hb=>absurd (show b∈([]:List aB) from hb) (by simp),hok,.of_eq hg⟩;refine bH ((F _ hKb (nsK hns)).run callerA [] s₁ H ⟨[.ref a],[]⟩ [.ref a] [.ref a] _ _ hr e0 (hbind s₁ (.ref a)) (.cons rfl .nil) (hsp H hO hS)) fun r s' h=>?_
  cases r with
  | error e=>exact (hCX H e s' h).elim
  | ok fl=>
   cases fl with
   | next=>exact False.elim h
   | brk=>exact False.elim h
   | cont=>exact False.elim h
   | ret u=>
    obtain ⟨v,H',os,bare,un,hok',r',q⟩:=h;have q':v=.bl true:=q;subst q';obtain rfl:u=Value.bool true:=r';refine ⟨rfl,OldK.of_keep fun b o e=>?_,os,bare⟩;cases q:H b with
    | none=>exact un.keep b o e q (by intro z; exact absurd (show b∈([]:List aB) from z) (by simp)) (by simp)
    | some u=>
     rcases hO b with z | ⟨ob,xs,z⟩
     ·rw [q] at z; cases z
     ·have z2:=un.frzs b ob _ z;obtain ⟨e1,_⟩:=hok b _ z;obtain ⟨e2,_⟩:=hok' b _ z2;rw [e] at e1; cases e1;exact e2
 cases hk:K.lookup a with
 | some o=>
  have e:=KX a o hk;rw [ha] at e;cases e;refine core (fun _=>none) (fun _=>.inl rfl) (.inr ⟨_,vs.toArray,_,hk,rfl,rfl,rfl,by rw [O4,lenV]; exact hl,by simpa using rv⟩) (fun b u z=>by have z':(none:Option HO)=some u:=z; cases z') (fun b z=>absurd rfl z) fun z=>absurd rfl z
 | none=>
  refine core (fun b=>if b=a then some (.frz { cls:=.type "list",data:=.seq vs.toArray } (.lst (ns.map V.int))) else none) (fun b=>?_) (.inl (.inr ⟨{ cls:=.type "list",data:=.seq vs.toArray },bS rfl⟩)) (fun b u z=>?_) (fun b z=>?_) fun _=>hk
  ·by_cases hb:b=a
   ·exact .inr ⟨_,_,bS hb⟩
   ·exact .inl (bT hb)
  ·by_cases hb:b=a
   ·have z':=(bS hb).symm.trans z;cases z';subst hb;exact ⟨ha,by rw [O3]; exact hl,vs,_,rv,ha⟩
   ·have z':=(bT hb).symm.trans z;cases z'
  ·by_cases hb:b=a
   ·exact hb
   ·exact absurd (bT hb) z
theorem walk_of {l:PySem.W.OpenLaw} {n k:Nat} {q:aL} {loose:List Str} {XP:(Str->Option aA)->Heap->Prop} {YP:aK->Heap->Prop} {d:DefRec} {K:Params->PySem.W.Frag} {CX:aK->CXT} {sp:aK->Sp} {x:Str}
  (hn:l.most=some n) (hn2:n<=sizeLine) (hdf:d.params.defaults=[]) (hr:Room k callerA)
  (hY:∀ (w:aK) (h:Heap),YP w h->(K w.params).In h)
  (F:∀ (w:aK) (mg:Str->Option aA) (fa:aB) (h:Heap),(K w.params).In h->h.Ns aQ mg->mg d.name=some (.ref fa) ->
   ∃ fd:aR,(∀ (s:aC) (u:aA),BindsTo s fd ⟨[u],[]⟩ [(x,u)]) /\
    ∀ base:Heap,(K w.params).In base->base.Ns aQ mg->FnOk l.prog w (K w.params) mg base (CX w) k fa fd [x] (sp w))
  (hsp:∀ (w:aK) (H:Hp) (a:aB) (ns:List Int),ns.length<=n->Qmf H->SqL (K w.params) H a (ns.map V.int)->sp w [.ref a] H (fun v _=>v=.bl true) fun _ _ _=>False)
  (hCX:∀ (w:aK) (H:Hp) (s:aC) (e:aA) (s':aC),CX w [] H s (fun _ _ _=>False) e s'->False) :
  PySem.W.WalkO q loose XP YP l.row.toRowW d [] (fun f vs=>PySem.call f vs):=by
 refine Att.attach_call hn hdf fun w s₀ s₁ mg mb fa o pm cd doc a vs ns G Y ho hd hcd hmg hobj hints hlen hg=>?_
 have KX:=hY w _ Y;obtain ⟨fd,hb,hF⟩:=F w mg fa _ KX G.T.g hmg;exact Qek KX G.T.g G.T.b G.T.builtins G.T.nolimit hg hobj hints (E7 hlen hn2) hr hF hb (fun H hO hS=>hsp w H a ns hlen hO hS) fun H e s'=>hCX w H s₁ e s'
def J0 (s:aP):Arguments:=match s with
 | .FunctionDef _ a _ _ _ _ _ _ _ _=>a
 | _=>{ posonlyargs:=[],args:=[],vararg:=none,kwonlyargs:=[],kw_defaults:=[],kwarg:=none,defaults:=[] }
def Qv (s:aP):List aP:=match s with
 | .FunctionDef _ _ b _ _ _ _ _ _ _=>b
 | _=>[]
def Qa (s:aP):Scope:=match s with
 | .FunctionDef _ _ _ _ _ _ sc _ _ _=>sc
 | _=>{ kind:=.function,names:=[],isGenerator:=false,isCoroutine:=false }
abbrev E0:XK:=fun _ _ _=>False
structure Fun (K:PySem.W.Frag) (x qual:Str) (st:aP) (f:aB) (fd:aR):Prop where
 ex:∃ (oc:aA) (od:Option aB) (kV doc pm:aA) (an:Option aB) (cdv ct:aA) (osl:Array (Option aA)),
  fd=PySem.W.fnOf x qual (J0 st) (Qv st) (Qa st) .none kV doc pm an cdv ct/\K.lookup f=some ⟨oc,od,.func fd,osl⟩/\PySem.W.codeIn K cdv qual=true
 kp:PySem.W.keepIn K (.ref f)=true
section
variable {P:aL} {w:aK} {K:PySem.W.Frag} {mg:Str->Option aA} {base:Heap}
theorem Fun.binds {x qual:Str} {st:aP} {f:aB} {fd:aR} {ps:List Str} (F:Fun K x qual st f fd)
  (h:∀ (kV doc pm:aA) (an:Option aB) (cdv ct:aA) (us:List aA),us.length=ps.length->bindArgs (PySem.W.fnOf x qual (J0 st) (Qv st) (Qa st) .none kV doc pm an cdv ct) ⟨us,[]⟩=pure (ps.zip us)):Binds K fd ps []:=by
 obtain ⟨oc,od,kV,doc,pm,an,cdv,ct,osl,rfl,lk,hcd⟩:=F.ex;exact .all (h kV doc pm an cdv ct)
theorem Qkt {x qual:Str} {st:aP} {f:aB} {oc:aA} {od an:Option aB} {osl:Array (Option aA)} {kV doc pm cdv ct:aA} (l:K.lookup f=some ⟨oc,od,.func (PySem.W.fnOf x qual (J0 st) (Qv st) (Qa st) .none kV doc pm an cdv ct),osl⟩)
  (c:PySem.W.codeIn K cdv qual=true) (k:PySem.W.keepIn K (.ref f)=true):Fun K x qual st f (PySem.W.fnOf x qual (J0 st) (Qv st) (Qa st) .none kV doc pm an cdv ct):=⟨⟨oc,od,kV,doc,pm,an,cdv,ct,osl,rfl,l,c⟩,k⟩
end
section
variable {X:Cx}
theorem pv (i:Nat) {x:Str} {pos:Pos} (hN:X.N[i]?=some x:=by rfl) (hv:Vis X.env.scope x:=by first | exact Or.inl rfl | exact Or.inr (Or.inl rfl) | exact Or.inr (Or.inr rfl)) (hd:(x == ("__debug__" : Str))=false:=by decide)
  (hcd:(x == ("__classdict__" : Str))=false:=by decide):PE X (.Name x pos) (Qn6 i):=Qdt hN hv hd hcd
end
def Same (H H':Hp):Prop:=∀ b o,H b=some o->H' b=some o
theorem Same.refl (H:Hp):Same H H:=fun _ _ h=>h
theorem Q9g {scope:Scope} {env:Env} (h:∀ x∈scope.names,x.2=.free->∃ c,env.cells.lookup x.1=some c) :
  ∃ cl,closureFor scope env=pure cl/\(∀ x c,cl.lookup x=some c->env.cells.lookup x=some c)/\(∀ x∈scope.names,x.2=.free->∃ c,cl.lookup x.1=some c):=by
 have key:∀ (l:List (Str × al)) (acc:List (Str × aB)),(∀ x∈l,x.2=.free->∃ c,env.cells.lookup x.1=some c)->(∀ x c,acc.lookup x=some c->env.cells.lookup x=some c) ->
   ∃ cl,(forIn l acc fun (x:Str × al) (r:List (Str × aB))=>(match x with
    | (name,kind)=>if (kind == NameKind.free)=true then (do let c <- cellOf env name; pure (ForInStep.yield ((name,c) :: r))) else (do pure PUnit.unit; pure (ForInStep.yield r)):Sem (ForInStep (List (Str × aB)))))=pure cl /\
    (∀ x c,cl.lookup x=some c->env.cells.lookup x=some c)/\(∀ x∈l,x.2=.free->∃ c,cl.lookup x.1=some c)/\(∀ x c,acc.lookup x=some c->∃ c',cl.lookup x=some c'):=by
  intro l
  induction l with
  | nil=>intro acc _ ha; exact ⟨acc,rfl,ha,fun x hx=>(by simp at hx),fun x c e=>⟨c,e⟩⟩
  | cons x r ih=>
   intro acc hl ha;obtain ⟨n,k⟩:=x
   by_cases hk:k=.free
   ·subst hk;obtain ⟨c,hc⟩:=hl (n,.free) D9 rfl;have ha':∀ x c',((n,c) :: acc).lookup x=some c'->env.cells.lookup x=some c':=fun x c' e=>by
     rw [List.lookup_cons] at e
     by_cases hx:x=n
     ·subst hx; simp at e; rw [<- e]; exact hc
     ·have:(x == n)=false:=by simpa using hx
      rw [this] at e; exact ha x c' e
    obtain ⟨cl,e1,e2,e3,e4⟩:=ih ((n,c) :: acc) (fun y hy=>hl y (O7 _ hy)) ha'
    refine ⟨cl,?_,e2,fun y hy hf=>?_,fun y c' e=>?_⟩
    ·rw [List.forIn_cons];have hcell:cellOf env n=pure c:=by unfold cellOf; rw [hc]
     simp only [beq_self_eq_true,if_true,hcell];exact e1
    ·rcases D3.mp hy with e | hy
     ·subst e;exact e4 n c (by simp)
     ·exact e3 y hy hf
    ·by_cases hy:y=n
     ·subst hy; exact e4 y c (by simp)
     ·have:(y == n)=false:=by simpa using hy
      exact e4 y c' (by rw [List.lookup_cons,this]; exact e)
   ·obtain ⟨cl,e1,e2,e3,e4⟩:=ih acc (fun y hy=>hl y (O7 _ hy)) ha
    refine ⟨cl,?_,e2,fun y hy hf=>?_,e4⟩
    ·rw [List.forIn_cons];have:(k == NameKind.free)=false:=by simpa using hk
     simp only [this,Bool.false_eq_true,if_false];exact e1
    ·rcases D3.mp hy with e | hy
     ·subst e; exact absurd hf hk
     ·exact e3 y hy hf
 obtain ⟨cl,e1,e2,e3,_⟩:=key scope.names [] h (fun x c e=>by simp at e);refine ⟨cl,?_,e2,e3⟩;unfold closureFor;exact (congrArg (fun z=>z >>= pure) e1).trans rfl
theorem x8 (f:Str->al->al) (x:Str):∀ l:List (Str × al),(l.map fun y=>(y.1,f y.1 y.2)).lookup x=(l.lookup x).map (f x)
 | []=>rfl
 | (n,k) :: r=>by
  have ih:=x8 f x r;rw [O6,List.lookup_cons,List.lookup_cons]
  by_cases hx:x=n
  ·subst hx; simp
  ·have hb:(x == n)=false:=by simpa using hx
   rw [hb]; exact ih
theorem qv {scope:Scope} {env:Env} {x:Str}:(relabel scope env).names.lookup x =
  (scope.names.lookup x).map fun k=>if (k == .free && env.scope.kind == .function && env.kindOf x == some .cell) then .cell else k:=by
 rw [<- x8 (fun n k=>if (k == .free && env.scope.kind == .function && env.kindOf n == some .cell) then .cell else k)]
 unfold relabel;refine congrArg (List.lookup x) (List.map_congr_left fun y _=>?_);obtain ⟨n,k⟩:=y;show (if (k == NameKind.free && env.scope.kind == .function && env.kindOf n == some .cell)=true then (n,NameKind.cell) else (n,k))=_
 split <;> rfl
def Qsr (N N':List Str) (sc scE:Scope) (cap:List (Option Nat)):Bool:=
 sc.kind == .function && sc.names.all (fun x=>x.2 != .cell) && sc.names.all (fun x=>x.2 != .local || sc.names.lookup x.1 == some .local) &&
 sc.names.all (fun x=>x.2 != .free || scE.names.lookup x.1 == some .cell || scE.names.lookup x.1 == some .free) && cap.length == N'.length &&
 (List.range cap.length).all (fun i=>match cap[i]? with
  | some (some j)=>(match N'[i]?,N[j]? with | some a,some b=>a == b && sc.names.lookup a == some .free | _,_=>false)
  | _=>true)
def xk (cap:List (Option Nat)) (σ:St):St:=cap.map fun c=>c.bind fun j=>(σ[j]?).join
section
variable {prog:aL} {w:aK} {A:aM} {R:Result->aC->Prop} {s:aC}
end
section
variable {X:Cx}
end
def HasItems (t:Bool) (h:Heap) (a:aB) (items:Array aA):Prop:=if t=true then h.IsTuple a items else h.IsList a items
def IterAt (t:Bool) (h:Heap) (it a:aB) (i:Nat):Prop:=if t=true then h.IsTupleIter it a i else h.IsListIter it a i
theorem HasItems.at {t:Bool} {h h':Heap} {a:aB} {items:Array aA} (x:HasItems t h a items) (k:∀ o,h.get? a=some o->h'.get? a=some o):HasItems t h' a items:=by
 cases t
 ·exact Heap.IsList.at x k
 ·obtain ⟨o,e,r⟩:=x;exact ⟨o,k o e,r⟩
theorem HasItems.there {t:Bool} {h:Heap} {a:aB} {items:Array aA} (x:HasItems t h a items):∃ o,h.get? a=some o:=by
 cases t
 ·obtain ⟨o,e,_⟩:=x; exact ⟨o,e⟩
 ·obtain ⟨o,e,_⟩:=x; exact ⟨o,e⟩
theorem IterAt.at {t:Bool} {h h':Heap} {it a:aB} {i:Nat} (x:IterAt t h it a i) (k:∀ o,h.get? it=some o->h'.get? it=some o):IterAt t h' it a i:=by
 cases t
 ·exact Heap.IsListIter.at x k
 ·obtain ⟨o,e,r⟩:=x;exact ⟨o,k o e,r⟩
theorem IterAt.there {t:Bool} {h:Heap} {it a:aB} {i:Nat} (x:IterAt t h it a i):∃ o,h.get? it=some o/\∀ v,o.data≠.cell v:=by
 cases t
 ·obtain ⟨o,e,_,d⟩:=x; exact ⟨o,e,fun v z=>by rw [d] at z; cases z⟩
 ·obtain ⟨o,e,_,d⟩:=x; exact ⟨o,e,fun v z=>by rw [d] at z; cases z⟩
section
variable {prog:aL} {w:aK} {A:aM} {E:aA->aC->Prop} {s:aC}
theorem yw {it l:aB} {i:Nat} {items} {x:aA} {Q:aA->aC->Prop} (hit:s.heap.IsTupleIter it l i)
  (hl:s.heap.IsTuple l items) (hx:items[i]?=some x)
  (hQ:∀ h',h'.IsTupleIter it l (i + 1)->Heap.SameBut it s.heap h'->Q x { s with heap:=h' }) :
  aF (aI prog w) A (Builtin.SmallTypes.nextOf (.ref it)) Q E s:=by
 obtain ⟨o,ho,hc,hd⟩:=id hit;obtain ⟨ol,hol,_,nl,hdl⟩:=hl;unfold Builtin.SmallTypes.nextOf;refine aD (wpAny_callSpecial?_slot (name:=Str.ofString "__next__") hit.typeIs F.slot_tuple_iterator_next
  (ak F.slot_tuple_iterator_next hit.typeIs F.entry_tuple_iterator_next ?_ (F.args_tuple_iterator_next_1 _)))
 show aF _ _ (field (.ref it) 0 >>= _) _ _ s;refine aD (ae ho hd (x:=.ref l) rfl ?_);show aF _ _ (if (Value.ref l == Value.none)=true then _ else _) _ _ s;rw [bT (show ¬ ((Value.ref l == Value.none)=true) from D2)];show aF _ _ (field (.ref it) 1 >>= _) _ _ s;refine aD (ae ho hd (x:=.int i 0) rfl ?_);show aF _ _ (seqItems? (.ref l) >>= _) _ _ s;refine aD (az hol hdl ?_);simp only [Int.toNat_natCast,hx];refine aD (wpAny_setField ho hd (by simp) (aJ ⟨x,rfl,aJ (hQ _ ?_ (Heap.SameBut.update ..))⟩));exact ⟨_,Heap.get?_update_self _ ho (Obj.isFreed_of_fields (Obj.data_mapFields hd _)),(Obj.cls_mapFields ..).trans hc,by
  rw [Obj.data_mapFields hd]; simp [aS]⟩
theorem Q07 {it l:aB} {i:Nat} {items} {Q:aA->aC->Prop} (hh:A.handled=none)
  (hit:s.heap.IsTupleIter it l i) (hl:s.heap.IsTuple l items) (hx:items[i]?=none)
  (hE:∀ h' e,Heap.ExtBut it s.heap h'->(∃ o,h'.get? e=some o/\o.cls=.type "StopIteration")->E (.ref e) { s with heap:=h' }) :
  aF (aI prog w) A (Builtin.SmallTypes.nextOf (.ref it)) Q E s:=by
 obtain ⟨o,ho,hc,hd⟩:=id hit;obtain ⟨ol,hol,_,nl,hdl⟩:=hl;unfold Builtin.SmallTypes.nextOf;refine aD (wpAny_callSpecial?_slot (name:=Str.ofString "__next__") hit.typeIs F.slot_tuple_iterator_next
  (ak F.slot_tuple_iterator_next hit.typeIs F.entry_tuple_iterator_next ?_ (F.args_tuple_iterator_next_1 _)))
 show aF _ _ (field (.ref it) 0 >>= _) _ _ s;refine aD (ae ho hd (x:=.ref l) rfl ?_);show aF _ _ (if (Value.ref l == Value.none)=true then _ else _) _ _ s;rw [bT (show ¬ ((Value.ref l == Value.none)=true) from D2)];show aF _ _ (field (.ref it) 1 >>= _) _ _ s;refine aD (ae ho hd (x:=.int i 0) rfl ?_);show aF _ _ (seqItems? (.ref l) >>= _) _ _ s;refine aD (az hol hdl ?_);simp only [Int.toNat_natCast,hx];refine aD (bC (aD (wpAny_setField ho hd (by simp) ?_)));show aF _ _ (newExc (.type "StopIteration") [] >>= _) _ _ _;refine aD ?_;simp only [newExc,newTuple];refine aD (ao ?_ (by size_fits));refine aD (m:=firstArgMember _ _) (wpAny_of_eq (a:=Value.none) (by first | rfl | (simp only [firstArgMember]; rfl)) ?_);refine ao ?_ (by size_fits);simp only [bR]
 refine aD (wpAny_handled ?_)
 first | rw [show A.in1.handled=none from hh] | rw [hh]
 refine aD (aJ (wpAny_throw ?_));exact hE _ _ (((Heap.SameBut.update ..).extBut.push _).push _) ⟨_,I0 _ rfl,rfl⟩
theorem Xs {t:Bool} {it l:aB} {i:Nat} {items:Array aA} {x:aA} {Q:aA->aC->Prop} (hit:IterAt t s.heap it l i)
  (hl:HasItems t s.heap l items) (hx:items[i]?=some x)
  (hQ:∀ h',IterAt t h' it l (i + 1)->Heap.SameBut it s.heap h'->Q x { s with heap:=h' }) :
  aF (aI prog w) A (Builtin.SmallTypes.nextOf (.ref it)) Q E s:=by
 cases t
 ·exact wpAny_nextOf_list_item hit hl hx hQ
 ·exact yw hit hl hx hQ
theorem Kt {t:Bool} {it l:aB} {i:Nat} {items:Array aA} {Q:aA->aC->Prop} (hh:A.handled=none)
  (hit:IterAt t s.heap it l i) (hl:HasItems t s.heap l items) (hx:items[i]?=none)
  (hE:∀ h' e,Heap.ExtBut it s.heap h'->(∃ o,h'.get? e=some o/\o.cls=.type "StopIteration")->E (.ref e) { s with heap:=h' }) :
  aF (aI prog w) A (Builtin.SmallTypes.nextOf (.ref it)) Q E s:=by
 cases t
 ·exact wpAny_nextOf_list_end hh hit hl hx hE
 ·exact Q07 hh hit hl hx hE
def Vw (t:Bool) (l:aB):Obj:=if t=true then { cls:=.type "tuple_iterator",data:=.fields #[.ref l,.int 0 0] } else { cls:=.type "list_iterator",data:=.fields #[.ref l,.int 0 0] }
theorem Va {t:Bool} {l:aB} {items:Array aA} {Q:aA->aC->Prop} (hl:HasItems t s.heap l items)
  (hQ:Q (.ref s.heap.objs.size) { s with heap:=s.heap.push (Vw t l) }):aF (aI prog w) A (pyIter (.ref l)) Q E s:=by
 cases t
 ·exact wpAny_pyIter_list hl hQ
 ·exact bK hl hQ
theorem zz {t:Bool} {h:Heap} {it l:aB} (e:h.get? it=some (Vw t l)):IterAt t h it l 0:=by
 cases t
 ·exact ⟨_,e,rfl,rfl⟩
 ·exact ⟨_,e,rfl,rfl⟩
theorem Ky (t:Bool) (l:aB):(Vw t l).isFreed=false:=by cases t <;> rfl
theorem Qaq {t1 t2:Bool} {z TI TO i1 i2 l1 l2:aB} {k1 k2:Nat} {xs ys:Array aA} {x y a b:aA} {Q:aA->aC->Prop} (D:ZipApart z TI TO i1 i2 l1 l2)
  (hz:IsZip s.heap z TI TO .none) (hTI:ac s.heap TI (.ref i1) (.ref i2)) (hTO:ac s.heap TO a b)
  (h1:IterAt t1 s.heap i1 l1 k1) (h2:IterAt t2 s.heap i2 l2 k2) (hl1:HasItems t1 s.heap l1 xs) (hl2:HasItems t2 s.heap l2 ys) (hx:xs[k1]?=some x) (hy:ys[k2]?=some y)
  (hQ:∀ h',IsZip h' z TI TO (aS s.heap.objs.size)->ac h' TO x y->IterAt t1 h' i1 l1 (k1 + 1)->IterAt t2 h' i2 l2 (k2 + 1)->ac h' s.heap.objs.size x y->h'.objs.size=s.heap.objs.size + 1 ->
   (∀ c o,c≠z->c≠TO->c≠i1->c≠i2->s.heap.get? c=some o->h'.get? c=some o)->Q (.ref s.heap.objs.size) { s with heap:=h' }) :
  aF (aI prog w) A (Builtin.«zip.__next__» ⟨[.ref z],[]⟩) (fun fin s'=>∃ v,fin=.done (.ret v)/\Q v s') E s:=by
 show aF _ _ (field (.ref z) 2 >>= _) _ _ _;refine aD (ae hz rfl (x:=.bool false) rfl ?_);show aF _ _ (field (.ref z) 3 >>= _) _ _ _;refine aD (ae hz rfl (x:=.ref TI) rfl ?_);refine aD (az hTI rfl ?_);show aF _ _ (Builtin.SmallTypes.ownedTupleIsFree (.ref z) >>= _) _ _ _;refine aD ?_;unfold Builtin.SmallTypes.ownedTupleIsFree;refine aD (ae hz rfl (x:=.none) rfl (aJ ?_));simp only [if_true];refine aD (bC ?_);refine aD (ae hz rfl (x:=.ref TO) rfl ?_);refine aD (aw hz (by simp) fun h₁ hz₁ hs₁=>?_)
 replace hz₁:IsZip h₁ z TI TO .ellipsis:=hz₁;refine aD ?_;simp only [List.zipIdx_cons,List.zipIdx_nil,List.forIn_cons,List.forIn_nil];refine aD (aD (wpAny_onRaise ?_));show aF _ _ (Builtin.SmallTypes.nextOf (.ref i1) >>= _) _ _ _;refine aD (Xs (h1.at fun o e=>hs₁.extBut _ _ D.i1z e) (hl1.at fun o e=>hs₁.extBut _ _ D.l1z e) hx fun h₂ h1₂ hs₂=>aJ ?_)
 have hTO₂:ac h₂ TO a b:=hs₂.extBut _ _ D.TOi1 (hs₁.extBut _ _ D.TOz hTO);refine aD (az hTO₂ rfl ?_);refine aD (wpAny_updateSeq_pair hTO₂ fun h₃ hTO₃ hs₃=>?_);replace hTO₃:ac h₃ TO x b:=hTO₃;refine aD (wpAny_letGo (aJ ?_));refine aD (aD (wpAny_onRaise ?_));show aF _ _ (Builtin.SmallTypes.nextOf (.ref i2) >>= _) _ _ _;refine aD (Xs (h2.at fun o e=>hs₃.extBut _ _ D.TOi2.symm (hs₂.extBut _ _ D.i12.symm (hs₁.extBut _ _ D.i2z e)))
  (hl2.at fun o e=>hs₃.extBut _ _ D.l2TO (hs₂.extBut _ _ D.l2i1 (hs₁.extBut _ _ D.l2z e))) hy fun h₄ h2₄ hs₄=>aJ ?_)
 have hTO₄:ac h₄ TO x b:=hs₄.extBut _ _ D.TOi2 hTO₃;refine aD (az hTO₄ rfl ?_);refine aD (wpAny_updateSeq_pair hTO₄ fun h₅ hTO₅ hs₅=>?_);replace hTO₅:ac h₅ TO x y:=hTO₅;refine aD (wpAny_letGo (aJ (aJ ?_)));refine aD (az hTO₅ rfl ?_);refine aD (wpAny_newTuple ?_);have hsz:h₅.objs.size=s.heap.objs.size:=by rw [hs₅.1,hs₄.1,hs₃.1,hs₂.1,hs₁.1]
 have hz₅:IsZip h₅ z TI TO .ellipsis:=hs₅.extBut _ _ D.TOz.symm (hs₄.extBut _ _ D.i2z.symm (hs₃.extBut _ _ D.TOz.symm (hs₂.extBut _ _ D.i1z.symm hz₁)));have hk₅:∀ c o,c≠z->c≠TO->c≠i1->c≠i2->s.heap.get? c=some o->h₅.get? c=some o:=fun c o c1 c2 c3 c4 e=>
  hs₅.extBut _ _ c2 (hs₄.extBut _ _ c4 (hs₃.extBut _ _ c2 (hs₂.extBut _ _ c3 (hs₁.extBut _ _ c1 e))))
 have h1₅:IterAt t1 h₅ i1 l1 (k1 + 1):=h1₂.at fun o e=>hs₅.extBut _ _ D.TOi1.symm (hs₄.extBut _ _ D.i12 (hs₃.extBut _ _ D.TOi1.symm e))
 have h2₅:IterAt t2 h₅ i2 l2 (k2 + 1):=h2₄.at fun o e=>hs₅.extBut _ _ D.TOi2.symm e
 have hzlt:z < h₅.objs.size:=O8 hz₅;show aF _ _ (Builtin.SmallTypes.ownedTupleHandOut (.ref z) (.ref h₅.objs.size) >>= _) _ _ _;refine aD ?_;unfold Builtin.SmallTypes.ownedTupleHandOut;have hz₆:IsZip (h₅.push { cls:=.type "tuple",data:=.seq #[x,y] }) z TI TO .ellipsis:=O1 _ hz₅;refine aD (aw hz₆ (by simp) fun h₇ hz₇ hs₇=>?_)
 replace hz₇:IsZip h₇ z TI TO (aS h₅.objs.size):=hz₇;refine aw hz₇ (by simp) fun h₈ hz₈ hs₈=>?_
 replace hz₈:IsZip h₈ z TI TO (aS h₅.objs.size):=hz₈;have up:∀ c o,c≠z->h₅.get? c=some o->h₈.get? c=some o:=fun c o c1 e=>hs₈.extBut _ _ c1 (hs₇.extBut _ _ c1 (O1 _ e))
 have hT₈:ac h₈ h₅.objs.size x y:=hs₈.extBut _ _ (Nat.ne_of_gt hzlt) (hs₇.extBut _ _ (Nat.ne_of_gt hzlt) (I0 _ rfl));have hz8:h₈.objs.size=h₅.objs.size + 1:=by rw [hs₈.1,hs₇.1,E4]
 rw [hsz] at hz₈ hT₈ hz8;refine aJ ⟨_,rfl,?_⟩;show Q (.ref h₅.objs.size) _;rw [hsz];exact hQ h₈ hz₈ (up _ _ D.TOz hTO₅) (h1₅.at fun o e=>up _ o D.i1z e) (h2₅.at fun o e=>up _ o D.i2z e) hT₈ hz8 fun c o c1 c2 c3 c4 e=>up c o c1 (hk₅ c o c1 c2 c3 c4 e)
theorem Qcn {t1 t2:Bool} {z TI TO i1 i2 l1 l2:aB} {k1 k2:Nat} {xs ys:Array aA} {a b:aA} {Q:Fin->aC->Prop} (hh:A.handled=none) (D:ZipApart z TI TO i1 i2 l1 l2)
  (hz:IsZip s.heap z TI TO .none) (hTI:ac s.heap TI (.ref i1) (.ref i2)) (hTO:ac s.heap TO a b)
  (h1:IterAt t1 s.heap i1 l1 k1) (h2:IterAt t2 s.heap i2 l2 k2) (hl1:HasItems t1 s.heap l1 xs) (hl2:HasItems t2 s.heap l2 ys) (hend:xs[k1]?=none\/ys[k2]?=none)
  (hE:∀ h' e,(∀ c o,c≠z->c≠TO->c≠i1->c≠i2->s.heap.get? c=some o->h'.get? c=some o)->(∃ o,h'.get? e=some o/\o.cls=.type "StopIteration")->E (.ref e) { s with heap:=h' }) :
  aF (aI prog w) A (Builtin.«zip.__next__» ⟨[.ref z],[]⟩) Q E s:=by
 show aF _ _ (field (.ref z) 2 >>= _) _ _ _;refine aD (ae hz rfl (x:=.bool false) rfl ?_);show aF _ _ (field (.ref z) 3 >>= _) _ _ _;refine aD (ae hz rfl (x:=.ref TI) rfl ?_);refine aD (az hTI rfl ?_);show aF _ _ (Builtin.SmallTypes.ownedTupleIsFree (.ref z) >>= _) _ _ _;refine aD ?_;unfold Builtin.SmallTypes.ownedTupleIsFree;refine aD (ae hz rfl (x:=.none) rfl (aJ ?_));simp only [if_true];refine aD (bC ?_);refine aD (ae hz rfl (x:=.ref TO) rfl ?_);refine aD (aw hz (by simp) fun h₁ hz₁ hs₁=>?_)
 replace hz₁:IsZip h₁ z TI TO .ellipsis:=hz₁;refine aD ?_;simp only [List.zipIdx_cons,List.zipIdx_nil,List.forIn_cons,List.forIn_nil];refine aD (aD (wpAny_onRaise ?_));show aF _ _ (Builtin.SmallTypes.nextOf (.ref i1) >>= _) _ _ _;cases hx:xs[k1]? with
 | none=>
  refine aD (Kt hh (h1.at fun o e=>hs₁.extBut _ _ D.i1z e) (hl1.at fun o e=>hs₁.extBut _ _ D.l1z e) hx fun h₂ e hs₂ he=>?_)
  obtain ⟨oe,hoe,hce⟩:=he;have hz₂:IsZip h₂ z TI TO .ellipsis:=hs₂ _ _ D.i1z.symm hz₁;have hez:e≠z:=fun x=>by subst x; rw [hz₂] at hoe; cases hoe; simp at hce
  refine aw hz₂ (by simp) fun h₃ _ hs₃=>hE h₃ e (fun c o c1 _ c3 _ x=>hs₃.extBut _ _ c1 (hs₂ _ _ c3 (hs₁.extBut _ _ c1 x))) ⟨oe,hs₃.extBut _ _ hez hoe,hce⟩
 | some x=>
  have hy:ys[k2]?=none:=by rcases hend with h | h; rw [hx] at h; cases h; exact h
  refine aD (Xs (h1.at fun o e=>hs₁.extBut _ _ D.i1z e) (hl1.at fun o e=>hs₁.extBut _ _ D.l1z e) hx fun h₂ h1₂ hs₂=>aJ ?_)
  have hTO₂:ac h₂ TO a b:=hs₂.extBut _ _ D.TOi1 (hs₁.extBut _ _ D.TOz hTO);refine aD (az hTO₂ rfl ?_);refine aD (wpAny_updateSeq_pair hTO₂ fun h₃ hTO₃ hs₃=>?_);refine aD (wpAny_letGo (aJ ?_));refine aD (aD (wpAny_onRaise ?_));show aF _ _ (Builtin.SmallTypes.nextOf (.ref i2) >>= _) _ _ _;refine aD (Kt hh (h2.at fun o e=>hs₃.extBut _ _ D.TOi2.symm (hs₂.extBut _ _ D.i12.symm (hs₁.extBut _ _ D.i2z e)))
   (hl2.at fun o e=>hs₃.extBut _ _ D.l2TO (hs₂.extBut _ _ D.l2i1 (hs₁.extBut _ _ D.l2z e))) hy fun h₄ e hs₄ he=>?_)
  obtain ⟨oe,hoe,hce⟩:=he;have hz₄:IsZip h₄ z TI TO .ellipsis:=hs₄ _ _ D.i2z.symm (hs₃.extBut _ _ D.TOz.symm (hs₂.extBut _ _ D.i1z.symm hz₁));have hez:e≠z:=fun x=>by subst x; rw [hz₄] at hoe; cases hoe; simp at hce
  refine aw hz₄ (by simp) fun h₅ _ hs₅=>hE h₅ e (fun c o c1 c2 c3 c4 x=>hs₅.extBut _ _ c1 (hs₄ _ _ c4 (hs₃.extBut _ _ c2 (hs₂.extBut _ _ c3 (hs₁.extBut _ _ c1 x))))) ⟨oe,hs₅.extBut _ _ hez hoe,hce⟩
theorem Q2k {t1 t2:Bool} {z TI TO i1 i2 l1 l2:aB} {k1 k2:Nat} {xs ys:Array aA} {x y a b:aA} {Q:Option aA->aC->Prop} (D:ZipApart z TI TO i1 i2 l1 l2)
  (hz:IsZip s.heap z TI TO .none) (hTI:ac s.heap TI (.ref i1) (.ref i2)) (hTO:ac s.heap TO a b)
  (h1:IterAt t1 s.heap i1 l1 k1) (h2:IterAt t2 s.heap i2 l2 k2) (hl1:HasItems t1 s.heap l1 xs) (hl2:HasItems t2 s.heap l2 ys) (hx:xs[k1]?=some x) (hy:ys[k2]?=some y)
  (hQ:∀ h',IsZip h' z TI TO (aS s.heap.objs.size)->ac h' TO x y->IterAt t1 h' i1 l1 (k1 + 1)->IterAt t2 h' i2 l2 (k2 + 1)->ac h' s.heap.objs.size x y->h'.objs.size=s.heap.objs.size + 1 ->
   (∀ c o,c≠z->c≠TO->c≠i1->c≠i2->s.heap.get? c=some o->h'.get? c=some o)->Q (some (.ref s.heap.objs.size)) { s with heap:=h' }) :
  aF (aI prog w) A (af (.ref z)) Q E s:=by
 have hT:s.TypeIs (.ref z) "zip" := ⟨_,hz,rfl⟩;unfold af;exact aD (wpAny_attempt (wpAny_callSpecial?_slot (name:=Str.ofString "__next__") hT F.slot_zip_next
  (ak F.slot_zip_next hT F.entry_zip_next
   (Qaq D hz hTI hTO h1 h2 hl1 hl2 hx hy fun h' a1 a2 a3 a4 a5 a6 a7=>aJ (hQ h' a1 a2 a3 a4 a5 a6 a7)) (F.args_zip_next_1 _))))
theorem Q3p {t1 t2:Bool} {z TI TO i1 i2 l1 l2:aB} {k1 k2:Nat} {xs ys:Array aA} {a b:aA} {Q:Option aA->aC->Prop} (hh:A.handled=none) (D:ZipApart z TI TO i1 i2 l1 l2)
  (hz:IsZip s.heap z TI TO .none) (hTI:ac s.heap TI (.ref i1) (.ref i2)) (hTO:ac s.heap TO a b)
  (h1:IterAt t1 s.heap i1 l1 k1) (h2:IterAt t2 s.heap i2 l2 k2) (hl1:HasItems t1 s.heap l1 xs) (hl2:HasItems t2 s.heap l2 ys) (hend:xs[k1]?=none\/ys[k2]?=none)
  (hQ:∀ h',(∀ c o,c≠z->c≠TO->c≠i1->c≠i2->s.heap.get? c=some o->h'.get? c=some o)->Q none { s with heap:=h' }):aF (aI prog w) A (af (.ref z)) Q E s:=by
 have hT:s.TypeIs (.ref z) "zip" := ⟨_,hz,rfl⟩;unfold af;refine aD (wpAny_attempt (wpAny_callSpecial?_slot (name:=Str.ofString "__next__") hT F.slot_zip_next
  (ak F.slot_zip_next hT F.entry_zip_next (Qcn hh D hz hTI hTO h1 h2 hl1 hl2 hend fun h' e hk he=>?_) (F.args_zip_next_1 _))))
 obtain ⟨o,ho,hc⟩:=he;refine aD (bN (T := "StopIteration") (b:=true) ⟨o,ho,hc⟩ isSubtype_stop ?_);exact aJ (hQ _ hk)
end
def zH1 (t1:Bool) (h:Heap) (l1:aB):Heap:=h.push (Vw t1 l1)
def zH2 (t1 t2:Bool) (h:Heap) (l1 l2:aB):Heap:=(zH1 t1 h l1).push (Vw t2 l2)
def zH3 (t1 t2:Bool) (h:Heap) (l1 l2:aB):Heap:=(zH2 t1 t2 h l1 l2).push { cls:=.type "tuple",data:=.seq #[.ref h.objs.size,.ref (zH1 t1 h l1).objs.size] }
def zH4 (t1 t2:Bool) (h:Heap) (l1 l2:aB):Heap:=(zH3 t1 t2 h l1 l2).push { cls:=.type "tuple",data:=.seq #[.none,.none] }
def zH5 (t1 t2:Bool) (h:Heap) (l1 l2:aB):Heap:=(zH4 t1 t2 h l1 l2).push { cls:=.type "zip",data:=.fields #[.none,.bool false,.bool false,.ref (zH2 t1 t2 h l1 l2).objs.size,.ref (zH3 t1 t2 h l1 l2).objs.size] }
theorem Q2m (t1 t2:Bool) (l1 l2:aB) (xs ys:Array aA) :
  Meets (Builtin.«zip.__new__» ⟨[.type "zip",.ref l1,.ref l2],[]⟩) (fun _ R s=>HasItems t1 s.heap l1 xs/\HasItems t2 s.heap l2 ys /\
   R (.ok (.ret (.ref (zH4 t1 t2 s.heap l1 l2).objs.size))) { s with heap:=zH5 t1 t2 s.heap l1 l2 }):=
 .of_wp fun prog w A R s h=>by
  obtain ⟨hp,g,d,tk,os⟩:=s; obtain ⟨hl1,hl2,h⟩:=h;have hsub:=sub_zip;have hL1:HasItems t1 (Shared.heap ⟨hp,g,d,tk,os⟩) l1 xs:=hl1;have hL2:HasItems t2 (Shared.heap ⟨hp.push (Vw t1 l1),g,d,tk,os⟩) l2 ys:=hl2.at fun o e=>O1 _ e
  wp_walk using Va hL1,Va hL2
  exact ⟨_,rfl,h⟩
section
variable {prog:aL} {w:aK} {A:aM} {E:aA->aC->Prop} {s:aC}
theorem Qc7 {t1 t2:Bool} {l1 l2:aB} {xs ys:Array aA} {Q:aA->aC->Prop} (hl1:HasItems t1 s.heap l1 xs) (hl2:HasItems t2 s.heap l2 ys)
  (h:∀ h',IsZip h' (s.heap.objs.size + 4) (s.heap.objs.size + 2) (s.heap.objs.size + 3) .none->ac h' (s.heap.objs.size + 2) (.ref s.heap.objs.size) (.ref (s.heap.objs.size + 1)) ->
   ac h' (s.heap.objs.size + 3) .none .none->IterAt t1 h' s.heap.objs.size l1 0->IterAt t2 h' (s.heap.objs.size + 1) l2 0->h'.objs.size=s.heap.objs.size + 5 ->
   (∀ c o,s.heap.get? c=some o->h'.get? c=some o)->Q (.ref (s.heap.objs.size + 4)) { s with heap:=h' }) :
  aF (aI prog w) A (call (.type "zip") [.ref l1,.ref l2]) Q E s:=by
 refine callType_new F.called_zip (by decide) (F.typeCall_zip_2 _ _) (F.newCall_zip_2 _ _) (fun obj=>F.args_object_init_3 obj _ _) F.entry_zip_new
  (Q2m t1 t2 l1 l2 xs ys) ⟨hl1,hl2,?_⟩
 have z1:(zH1 t1 s.heap l1).objs.size=s.heap.objs.size + 1:=E4 ..;have z2:(zH2 t1 t2 s.heap l1 l2).objs.size=s.heap.objs.size + 2:=by unfold zH2; rw [E4,z1]
 have z3:(zH3 t1 t2 s.heap l1 l2).objs.size=s.heap.objs.size + 3:=by unfold zH3; rw [E4,z2]
 have z4:(zH4 t1 t2 s.heap l1 l2).objs.size=s.heap.objs.size + 4:=by unfold zH4; rw [E4,z3]
 have z5:(zH5 t1 t2 s.heap l1 l2).objs.size=s.heap.objs.size + 5:=by unfold zH5; rw [E4,z4]
 have g5:(zH5 t1 t2 s.heap l1 l2).get? (zH4 t1 t2 s.heap l1 l2).objs.size=some { cls:=.type "zip",data:=.fields #[.none,.bool false,.bool false,.ref (zH2 t1 t2 s.heap l1 l2).objs.size,.ref (zH3 t1 t2 s.heap l1 l2).objs.size] }:=I0 _ rfl;have g4:(zH5 t1 t2 s.heap l1 l2).get? (zH3 t1 t2 s.heap l1 l2).objs.size=some { cls:=.type "tuple",data:=.seq #[.none,.none] }:=O1 _ (I0 _ rfl);have g3:(zH5 t1 t2 s.heap l1 l2).get? (zH2 t1 t2 s.heap l1 l2).objs.size=some { cls:=.type "tuple",data:=.seq #[.ref s.heap.objs.size,.ref (zH1 t1 s.heap l1).objs.size] }:=O1 _ (O1 _ (I0 _ rfl));have g2:(zH5 t1 t2 s.heap l1 l2).get? (zH1 t1 s.heap l1).objs.size=some (Vw t2 l2):=O1 _ (O1 _ (O1 _ (I0 _ (Ky _ _))));have g1:(zH5 t1 t2 s.heap l1 l2).get? s.heap.objs.size=some (Vw t1 l1):=O1 _ (O1 _ (O1 _ (O1 _ (I0 _ (Ky _ _)))));show _/\_;rw [z2,z3,z4] at g5;rw [z1,z2] at g3;rw [z3] at g4;rw [z1] at g2;rw [z4];exact ⟨⟨_,g5,rfl⟩,h _ g5 g3 g4 (zz g1) (zz g2) z5 fun c o x=>
  O1 _ (O1 _ (O1 _ (O1 _ (O1 _ x))))⟩
end
def SqK (K:PySem.W.Frag) (t:Bool) (H:Hp) (a:aB) (xs:List V):Prop:=if t=true then SqT K H a xs else SqL K H a xs
section
variable {X:Cx} {pins:List (aB × Obj)} {σ:St} {H:Hp} {s:aC}
theorem Inv.seqK {t:Bool} {a:aB} {xs:List V} (I:Inv X pins σ H s) (h:SqK X.K t H a xs):∃ its:List aA,Vals xs its/\HasItems t s.heap a its.toArray/\xs.length<=sizeLine:=by
 cases t
 ·obtain ⟨its,r,p,z⟩:=I.list h;exact ⟨its,r,p.isList,z⟩
 ·obtain ⟨its,r,p,z⟩:=I.tuple h;exact ⟨its,r,p,z⟩
theorem Inv.seqK_inj {t:Bool} {a:aB} {xs ys:List V} (I:Inv X pins σ H s) (h:SqK X.K t H a xs) (h':SqK X.K t H a ys):xs=ys:=by
 cases t
 ·exact I.list_inj h h'
 ·exact I.tuple_inj h h'
theorem Inv.turnedL {t':Nat} {its:List aB} {h':Heap} (I:Inv X pins σ H s) (k:∀ b o,b∉its->s.heap.get? b=some o->h'.get? b=some o) (hf:∀ b∈its,Q3c X pins H b):Inv X pins σ H { s with heap:=h',toks:=t' }:=by
 have nit:∀ b u,H b=some u->b∉its:=fun b u e z=>by rw [(hf b z).1] at e; cases e
 refine I.step (g':=s.gens) (d':=s.drawn) (ch:=its) (fun b hb=>?_) (fun b o _ _ hc e _=>k b o hc e) (fun b o _ _ hc e _=>⟨o.slots,k b o hc e⟩) (fun _ _ _ _ n=>n)
  (fun b o hc e=>⟨o,k b o hc e⟩) (fun _ _ e=>e) (fun _ _ _ e=>e) (fun b ps e=>⟨#[],by rw [e]; simp⟩) (fun m hm=>?_) (fun b u e=>?_) I.bare
 ·obtain ⟨f0,f1,f2,f3,f4,f5⟩:=hf b hb;exact ⟨f3,f1,f4,f5⟩
 ·obtain ⟨o,es,ep,ho,r⟩:=hm;exact ⟨o,es,ep,k _ o (fun z=>(hf _ z).2.1 rfl) ho,r⟩
 ·refine (I.hok b u e).stay (fun c v hc q=>k c v ?_ q) (fun _ q=>q) fun _ _ q=>q
  rcases hc with z | z
  ·rw [z]; exact nit b u e
  ·exact nit c _ z
end
def Itz (K:PySem.W.Frag) (t1 t2:Bool) (a b:aB):It:=
 ⟨fun i H=>∃ xs ys x y,SqK K t1 H a xs/\SqK K t2 H b ys/\xs[i]?=some x/\ys[i]?=some y,
  fun i H v H'=>∃ p x y,H p=none/\v=.ref p/\H'=upd H p (.tup [x,y])/\∀ xs ys,SqK K t1 H a xs->SqK K t2 H b ys->xs[i]?=some x/\ys[i]?=some y,
  fun i H=>∃ xs ys,SqK K t1 H a xs/\SqK K t2 H b ys/\(xs.length<=i\/ys.length<=i)⟩
def Qn3 (t1 t2:Bool) (z TI TO i1 i2 a b:aB) (i:Nat) (h:Heap):Prop:=
 IsZip h z TI TO .none/\ac h TI (.ref i1) (.ref i2)/\(∃ u v,ac h TO u v)/\IterAt t1 h i1 a i/\IterAt t2 h i2 b i
theorem Q46 {a b:aA}:∀ v,({ cls:=.type "tuple",data:=.seq #[a,b] }:Obj).data≠.cell v:=fun v z=>by cases z
theorem Qcr {P:aL} {w:aK} {K:PySem.W.Frag} {elts:List aH} {k:Nat} {pos:Pos} {t1 t2:Bool} {z TI TO i1 i2 a b:aB} (D:ZipApart z TI TO i1 i2 a b) :
  Turn P w K (.Tuple elts k pos) (Itz K t1 t2 a b) [z,TI,TO,i1,i2] z (Qn3 t1 t2 z TI TO i1 i2 a b) where
 mem:=by simp
 obj:=fun i h st c hc=>by
  obtain ⟨hz,hTI,⟨u,v,hTO⟩,h1,h2⟩:=st;simp at hc;rcases hc with rfl | rfl | rfl | rfl | rfl
  ·exact ⟨_,hz,fun v q=>by cases q⟩
  ·exact ⟨_,hTI,Q46⟩
  ·exact ⟨_,hTO,Q46⟩
  ·exact h1.there
  ·exact h2.there
 keep:=fun i h h' st kk=>by
  obtain ⟨hz,hTI,⟨u,v,hTO⟩,h1,h2⟩:=st;exact ⟨kk z (by simp) _ hz,kk TI (by simp) _ hTI,⟨u,v,kk TO (by simp) _ hTO⟩,h1.at fun o e=>kk i1 (by simp) o e,h2.at fun o e=>kk i2 (by simp) o e⟩
 item:=by
  intro X hP hw hK hc i pins s σ H E I hf st hg;subst hP hw hK;obtain ⟨xs,ys,x,y,hq1,hq2,hx,hy⟩:=hg;obtain ⟨hz,hTI,⟨u,v,hTO⟩,h1,h2⟩:=st;obtain ⟨its,rv,p,_⟩:=I.seqK hq1;obtain ⟨its2,rv2,p2,_⟩:=I.seqK hq2;obtain ⟨ux,hux,rux⟩:=rv.get hx;obtain ⟨uy,huy,ruy⟩:=rv2.get hy;refine Q2k D hz hTI hTO h1 h2 p p2 (x:=ux) (y:=uy) (by simpa using hux) (by simpa using huy) fun h' a1 a2 a3 a4 a5 a6 a7=>⟨_,rfl,?_⟩
  refine wpAny_letOwnedTupleGo_zip (s:={ s with heap:=h' }) a1 fun h'' b1 b2=>?_
  have hfr:H s.heap.objs.size=none:=I.fresh;have zlt:z < s.heap.objs.size:=O8 hz;have TIlt:TI < s.heap.objs.size:=O8 hTI;have TOlt:TO < s.heap.objs.size:=O8 hTO;have i1lt:i1 < s.heap.objs.size:=by obtain ⟨o,e,_⟩:=h1.there; exact O8 e
  have i2lt:i2 < s.heap.objs.size:=by obtain ⟨o,e,_⟩:=h2.there; exact O8 e
  have I1:Inv X pins σ H { s with heap:=h'' }:=I.turnedL (t':=s.toks) (its:=[z,TO,i1,i2]) (fun c o hc e=>(b2.2 c (fun q=>hc (by simp [q]))).trans (a7 c o (fun q=>hc (by simp [q])) (fun q=>hc (by simp [q])) (fun q=>hc (by simp [q])) (fun q=>hc (by simp [q])) e))
   fun c hc=>hf c (by simp at hc ⊢; rcases hc with rfl | rfl | rfl | rfl <;> simp)
  have tupAt:ac h'' s.heap.objs.size ux uy:=(b2.2 _ (Nat.ne_of_gt zlt)).trans a5;have fsz:H s.heap.objs.size=none:=hfr;have I2:Inv X pins σ (upd H s.heap.objs.size (.tup [x,y])) { s with heap:=h'' }:=by
   refine ⟨I1.ok,I1.os,I1.bare,?_,I1.loc,I1.cell,?_,?_,?_,?_,I1.len⟩
   ·have u0:=I1.base;have old:∀ c o,X.s₀.heap.get? c=some o->c≠s.heap.objs.size:=fun c o e=>D4 (D1 (O8 e) I.sz)
    exact ⟨u0.keep,u0.slot,fun c o e n hx=>by rw [Qe (old c o e)]; exact u0.free c o e n hx,u0.there,
     fun c ts e=>by have:=u0.tups c ts e; rw [Qe (Qf this fsz)]; exact this,
     fun c o ts e=>by have:=u0.frzs c o ts e; rw [Qe (Qf this fsz)]; exact this,
     fun c ps e=>by obtain ⟨more,q⟩:=u0.tbls c ps e; exact ⟨more,by rw [Qe (Qf q fsz)]; exact q⟩⟩
   ·rw [Qe (D4 I.lt)]; exact I.free
   ·intro x' c e;obtain ⟨v',q⟩:=I.cell x' c e;rw [Qe (D4 q.lt)]; exact I.freeC x' c e
   ·intro p' hp';obtain ⟨e,n,ne,nf,d⟩:=I1.pin p' hp';have e0:=(I.pin p' hp').1;exact ⟨e,by rw [Qe (D4 (O8 e0))]; exact n,ne,nf,d⟩
   ·intro c o q
    by_cases hcs:c=s.heap.objs.size
    ·subst hcs;rw [Jb] at q; cases q;exact ⟨by simp only [E1,G7]; rw [sizeLine_eq]; decide,[ux,uy],.cons rux (.cons ruy .nil),⟨_,tupAt,rfl,0,rfl⟩⟩
    ·rw [Qe hcs] at q;exact (I1.hok c o q).stay (fun _ _ _ r=>r) (fun c' r=>by rw [Qe (Qf r fsz)]; exact r) fun c' ts r=>by rw [Qe (Qf r fsz)]; exact r
  refine ⟨.ref s.heap.objs.size,_,I2,rfl,⟨s.heap.objs.size,x,y,fsz,rfl,rfl,fun xs' ys' q1 q2=>?_⟩,?_,fun c hc=>?_⟩
  ·rw [I.seqK_inj q1 hq1,I.seqK_inj q2 hq2]; exact ⟨hx,hy⟩
  ·exact ⟨b1,b2.extBut _ _ D.TIz (a7 _ _ D.TIz D.TITO D.TIi1 D.TIi2 hTI),⟨_,_,b2.extBut _ _ D.TOz a2⟩,a3.at fun o e=>b2.extBut _ _ D.i1z e,a4.at fun o e=>b2.extBut _ _ D.i2z e⟩
  ·have:=(hf c hc).1;have clt:c < s.heap.objs.size:=by simp at hc; rcases hc with rfl | rfl | rfl | rfl | rfl <;> assumption
   rw [Qe (D4 clt)]; exact this
 done:=by
  intro X hP hw hK hc i pins s σ H E I hf st hg;subst hP hw hK;obtain ⟨xs,ys,hq1,hq2,hend⟩:=hg;obtain ⟨hz,hTI,⟨u,v,hTO⟩,h1,h2⟩:=st;obtain ⟨its,rv,p,_⟩:=I.seqK hq1;obtain ⟨its2,rv2,p2,_⟩:=I.seqK hq2;have l1:=rv.length;have l2:=rv2.length;refine Q3p (I.ok.hd hc) D hz hTI hTO h1 h2 p p2 (hend.elim (fun h=>.inl (by simp; omega)) fun h=>.inr (by simp; omega)) fun h' kk=>⟨rfl,?_⟩
  exact I.turnedL (t':=s.toks) (its:=[z,TO,i1,i2]) (fun c o hc e=>kk c o (fun q=>hc (by simp [q])) (fun q=>hc (by simp [q])) (fun q=>hc (by simp [q])) (fun q=>hc (by simp [q])) e)
   fun c hc=>hf c (by simp at hc ⊢; rcases hc with rfl | rfl | rfl | rfl <;> simp)
 self:=fun _ _ _ _ _ st h=>wpAny_pyIter_zip st.1 h
section
variable {X:Cx}
def Qsj (K:PySem.W.Frag) (t1 t2:Bool) (ta:TA):TI:=fun σ H R=>ta σ H fun vs H1=>∃ a b xs ys,vs=[.ref a,.ref b]/\SqK K t1 H1 a xs/\SqK K t2 H1 b ys/\R (Itz K t1 t2 a b) H1
theorem Qff:aY "zip" = some (.type "zip"):=by decide +kernel
theorem Qj8 (t1 t2:Bool) {a b:aH} {ta:TA} {p pos:Pos} {elts:List aH} {k:Nat} {tp:Pos} (hg:Gl X "zip") (hm:X.mg "zip" = none) (ha:PA X [a,b] ta) (hs:aO [a,b] X.env=[(false,aN a X.env),(false,aN b X.env)]:=by rfl) (hs2:aO [b] X.env=[(false,aN b X.env)]:=by rfl) :
  PI X (.Tuple elts k tp) (.Call (.Name "zip" p) [a,b] [] pos) (Qsj X.K t1 t2 ta):=by
 intro pins s σ H R I h;refine Call_ (zy I hg hm Qff (PyProof.Rows.callWith_type1 (thn (ha pos pins s σ H _ I h) fun us s1 ⟨vs,H1,I1,r1,q1⟩=>?_) (by rw [hs,hs2]) (by rw [hs2]; rfl)))
 obtain ⟨a',b',xs,ys,e,q1,q2,q⟩:=q1;subst e;cases r1 with
 | cons r rr=>
  cases rr with
  | cons r' rr=>
   cases rr;cases r;cases r';obtain ⟨its,rv,p1,_⟩:=I1.seqK q1;obtain ⟨its2,rv2,p2,_⟩:=I1.seqK q2;refine Qc7 p1 p2 fun h' z1 z2 z3 z4 z5 z6 z7=>?_
   refine wpAny_pyIter_zip (s:={ s1 with heap:=h' }) z1 ?_;have lta:a' < s1.heap.objs.size:=by obtain ⟨o,e⟩:=p1.there; exact O8 e
   have ltb:b' < s1.heap.objs.size:=by obtain ⟨o,e⟩:=p2.there; exact O8 e
   have D:ZipApart (s1.heap.objs.size + 4) (s1.heap.objs.size + 2) (s1.heap.objs.size + 3) s1.heap.objs.size (s1.heap.objs.size + 1) a' b':=by
    constructor <;> (intro z; unfold aB at *; omega)
   refine ⟨_,[s1.heap.objs.size + 4,s1.heap.objs.size + 2,s1.heap.objs.size + 3,s1.heap.objs.size,s1.heap.objs.size + 1],_,_,H1,rfl,I1.kept (t':=s1.toks) z7,Qcr (t1:=t1) (t2:=t2) D,⟨z1,z2,⟨_,_,z3⟩,z4,z5⟩,fun c hc=>?_,q⟩
   have hc':s1.heap.objs.size<=c:=by simp at hc; unfold aB at *; omega
   exact I1.fpOk hc' (I1.hok.fresh hc')
end
theorem Q1m {prog:aL} {w:aK} {A:aM} (hh:A.handled=none) (t:Bool) (I ax:aB) (hne:ax≠I) (items:Array aA) :
  Walks prog w A I [I,ax] [I] items.size (fun i v=>items[i]?=some v) (fun i h=>IterAt t h I ax i/\HasItems t h ax items):=by
 cases t
 ·exact Walks.list hh I ax hne items
 ·exact Walks.tuple hh I ax hne items
theorem xf {α:Type} (l:List α) (d:α) {n:Nat} (h:n < l.length):l.getD n d=l[n]:=by simp [List.getD,h]
theorem Q6v (ns:List Int):preSum (fun j=>ns.getD j 0) ns.length=ns.sum:=by
 have key:∀ (k:Nat),k<=ns.length->preSum (fun j=>ns.getD j 0) k=(ns.take k).sum:=by
  intro k
  induction k with
  | zero=>intro _; rfl
  | succ k ih=>
   intro hk;show preSum _ k + ns.getD k 0=_;have hlt:k < ns.length:=by omega
   rw [ih (by omega),List.take_succ,List.sum_append,xf _ _ hlt,O2 hlt];simp
 rw [key ns.length (O9 _),List.take_length]
section
variable {X:Cx} {pins:List (aB × Obj)} {σ:St} {H:Hp} {s:aC}
theorem Inv.movedNew {s':aC} (I:Inv X pins σ H s) {o:Obj} (m:Moved [s.heap.objs.size] (fun a b=>b=a) { s with heap:=s.heap.push o } s'):Inv X pins σ H s':=by
 obtain ⟨m1,m2,m3,m4,m5⟩:=m;obtain ⟨h',g',d',t',o'⟩:=s';have e1:g'=s.gens:=m2;have e2:d'=s.drawn:=m3;have e3:o'=s.os:=m4;subst e1 e2 e3;refine I.kept (t':=t') fun b u e=>m1 b u (fun z=>?_) (O1 _ e)
 have:b=s.heap.objs.size:=by simpa using z
 exact absurd (O8 e) (by rw [this]; exact Nat.lt_irrefl _)
theorem jd {ns:List Int} {its:List aA} (r:Vals (ns.map V.int) its):∀ (i:Nat) (v:aA),its.toArray[i]?=some v->∃ t,v=Value.int (ns.getD i 0) t:=fun i v e=>by
 have e':its[i]?=some v:=by simpa using e
 have hi:i < its.length:=(O0.mp e').1;have hl:=r.length;rw [O3] at hl;have hn:(ns.map V.int)[i]?=some (V.int (ns.getD i 0)):=by
  have:i < ns.length:=by omega
  simp [List.getD,this]
 obtain ⟨u,hu,t,ru⟩:=r.get hn;rw [e'] at hu;cases hu;exact ⟨t,ru⟩
theorem Q4t {bs:List Bool} {its:List aA} (r:Vals (bs.map V.bl) its):∀ (i:Nat) (v:aA),its.toArray[i]?=some v->v=Value.bool (bs.getD i false):=fun i v e=>by
 have e':its[i]?=some v:=by simpa using e
 have hi:i < its.length:=(O0.mp e').1;have hl:=r.length;rw [O3] at hl;have hn:(bs.map V.bl)[i]?=some (V.bl (bs.getD i false)):=by
  have:i < bs.length:=by omega
  simp [List.getD,this]
 obtain ⟨u,hu,ru⟩:=r.get hn;rw [e'] at hu;cases hu;exact ru
theorem Vv {t:Bool} {l:aB} {items:Array aA} (hl:HasItems t s.heap l items):l≠s.heap.objs.size /\
  (IterAt t (s.heap.push (Vw t l)) s.heap.objs.size l 0/\HasItems t (s.heap.push (Vw t l)) l items)/\∀ b∈[s.heap.objs.size,l],b < (s.heap.push (Vw t l)).objs.size:=by
 obtain ⟨o,e⟩:=hl.there;have hlt:=O8 e;refine ⟨D4 hlt,⟨zz (I0 _ (Ky _ _)),hl.at fun o e=>O1 _ e⟩,fun b hb=>?_⟩
 rw [E4];simp at hb;rcases hb with rfl | rfl
 ·exact Nat.lt_succ_self _
 ·exact Nat.lt_succ_of_lt hlt
end
section
variable {X:Cx}
theorem Qf9 (t:Bool) (hc:X.calm=true):U4 X (.builtin "sum") (fun xs H Q=>∃ (a:aB) (ns:List Int),xs=[.ref a]/\SqK X.K t H a (ns.map V.int)/\Q (.int ns.sum) H):=by
 intro pins s σ H xs us Q I r h;obtain ⟨a,ns,rfl,hq,q⟩:=h;obtain ⟨u,rfl,r1⟩:=K6 r;cases r1;obtain ⟨its,rv,p,_⟩:=I.seqK hq;obtain ⟨w1,w2,w3⟩:=Vv p;have hl:=rv.length;rw [O3] at hl;refine call_sum_walkAnyS (Va p ⟨_,_,_,_,_,_,_,fun j=>ns.getD j 0,rfl,(Q1m (A:=X.A.in1) (I.ok.hd hc) t _ a w1 its.toArray).toS,w2,w3,jd rv,fun s' t' m=>?_⟩);refine ⟨.int ns.sum,H,I.movedNew m,⟨t',?_⟩,q⟩;rw [O4,<- hl,Q6v]
theorem Qay (bs:List Bool):(List.range bs.length).all (fun i=>bs.getD i false)=bs.all id:=by
 induction bs with
 | nil=>rfl
 | cons b r ih=>
  rw [E1,List.range_succ_eq_map,List.all_cons,List.all_map,List.all_cons,<- ih];rfl
theorem Qax (bs:List Bool):(List.range bs.length).any (fun i=>bs.getD i false)=bs.any id:=by
 induction bs with
 | nil=>rfl
 | cons b r ih=>
  rw [E1,List.range_succ_eq_map,List.any_cons,List.any_map,List.any_cons,<- ih];rfl
theorem Qfb (t:Bool) (hc:X.calm=true):U4 X (.builtin "all") (fun xs H Q=>∃ (a:aB) (bs:List Bool),xs=[.ref a]/\SqK X.K t H a (bs.map V.bl)/\Q (.bl (bs.all id)) H):=by
 intro pins s σ H xs us Q I r h;obtain ⟨a,bs,rfl,hq,q⟩:=h;obtain ⟨u,rfl,r1⟩:=K6 r;cases r1;obtain ⟨its,rv,p,_⟩:=I.seqK hq;obtain ⟨w1,w2,w3⟩:=Vv p;have hl:=rv.length;rw [O3] at hl;refine call_all_walkS (Va p ⟨_,_,_,_,_,_,_,fun j=>bs.getD j false,rfl,(Q1m (A:=X.A.in1) (I.ok.hd hc) t _ a w1 its.toArray).toS,w2,fun i v s' Q' E' hv hQ=>?_,fun s' m=>?_⟩)
 ·rw [Q4t rv i v hv];exact bA hQ
 ·refine ⟨.bl (bs.all id),H,I.movedNew m,?_,q⟩;show Value.bool _=_;rw [O4,<- hl,Qay]
theorem Qfa (t:Bool) (hc:X.calm=true):U4 X (.builtin "any") (fun xs H Q=>∃ (a:aB) (bs:List Bool),xs=[.ref a]/\SqK X.K t H a (bs.map V.bl)/\Q (.bl (bs.any id)) H):=by
 intro pins s σ H xs us Q I r h;obtain ⟨a,bs,rfl,hq,q⟩:=h;obtain ⟨u,rfl,r1⟩:=K6 r;cases r1;obtain ⟨its,rv,p,_⟩:=I.seqK hq;obtain ⟨w1,w2,w3⟩:=Vv p;have hl:=rv.length;rw [O3] at hl;refine call_any_walkS (Va p ⟨_,_,_,_,_,_,_,fun j=>bs.getD j false,rfl,(Q1m (A:=X.A.in1) (I.ok.hd hc) t _ a w1 its.toArray).toS,w2,fun i v s' Q' E' hv hQ=>?_,fun s' m=>?_⟩)
 ·rw [Q4t rv i v hv];exact bA hQ
 ·refine ⟨.bl (bs.any id),H,I.movedNew m,?_,q⟩;show Value.bool _=_;rw [O4,<- hl,Qax]
theorem Qcb (t:Bool) (hc:X.calm=true):U4 X (.builtin "max") (fun xs H Q=>∃ (a:aB) (ns:List Int),xs=[.ref a]/\SqK X.K t H a (ns.map V.int)/\ns≠[]/\∀ m,m∈ns->(∀ k,k∈ns->k<=m)->Q (.int m) H):=by
 intro pins s σ H xs us Q I r h;obtain ⟨a,ns,rfl,hq,hne,q⟩:=h;obtain ⟨u,rfl,r1⟩:=K6 r;cases r1;obtain ⟨its,rv,p,_⟩:=I.seqK hq;obtain ⟨w1,w2,w3⟩:=Vv p;have hl:=rv.length;rw [O3] at hl;have hpos:0 < ns.length:=List.length_pos_iff.mpr hne;refine call_max_walkS (Va p ⟨_,_,_,_,_,_,_,_,rfl,(Q1m (A:=X.A.in1) (I.ok.hd hc) t _ a w1 its.toArray).toS,w2,w3,by rw [O4]; omega,CmpOf.ints_gt (fun j=>ns.getD j 0) (fun i v hv=>jd rv i v hv),fun v s' hv m=>?_⟩);obtain ⟨t',rfl⟩:=jd rv _ _ hv;obtain ⟨h1,h2⟩:=argBest_gt (fun j=>ns.getD j 0) (its.toArray.size - 1);have hb:argBest (fun i j=>decide (ns.getD i 0 > ns.getD j 0)) (its.toArray.size - 1) < ns.length:=by
  have e':its.toArray.size=ns.length:=by rw [O4]; omega
  rw [e'] at h1 ⊢;exact Nat.lt_of_le_of_lt h1 (by omega)
 refine ⟨.int (ns.getD (argBest (fun i j=>decide (ns.getD i 0 > ns.getD j 0)) (its.toArray.size - 1)) 0),H,I.movedNew m,⟨t',rfl⟩,q _ ?_ fun k hk=>?_⟩
 ·rw [xf _ _ hb];exact List.getElem_mem hb
 ·obtain ⟨j,hj,rfl⟩:=List.mem_iff_getElem.mp hk;have:=h2 j (by rw [O4]; omega);rw [xf _ _ hj] at this;exact this
theorem Qc9 (t:Bool) (hc:X.calm=true):U4 X (.builtin "min") (fun xs H Q=>∃ (a:aB) (ns:List Int),xs=[.ref a]/\SqK X.K t H a (ns.map V.int)/\ns≠[]/\∀ m,m∈ns->(∀ k,k∈ns->m<=k)->Q (.int m) H):=by
 intro pins s σ H xs us Q I r h;obtain ⟨a,ns,rfl,hq,hne,q⟩:=h;obtain ⟨u,rfl,r1⟩:=K6 r;cases r1;obtain ⟨its,rv,p,_⟩:=I.seqK hq;obtain ⟨w1,w2,w3⟩:=Vv p;have hl:=rv.length;rw [O3] at hl;have hpos:0 < ns.length:=List.length_pos_iff.mpr hne;refine call_min_walkS (Va p ⟨_,_,_,_,_,_,_,_,rfl,(Q1m (A:=X.A.in1) (I.ok.hd hc) t _ a w1 its.toArray).toS,w2,w3,by rw [O4]; omega,CmpOf.ints_lt (fun j=>ns.getD j 0) (fun i v hv=>jd rv i v hv),fun v s' hv m=>?_⟩);obtain ⟨t',rfl⟩:=jd rv _ _ hv;obtain ⟨h1,h2⟩:=argBest_lt (fun j=>ns.getD j 0) (its.toArray.size - 1);have hb:argBest (fun i j=>decide (ns.getD i 0 < ns.getD j 0)) (its.toArray.size - 1) < ns.length:=by
  have e':its.toArray.size=ns.length:=by rw [O4]; omega
  rw [e'] at h1 ⊢;exact Nat.lt_of_le_of_lt h1 (by omega)
 refine ⟨.int (ns.getD (argBest (fun i j=>decide (ns.getD i 0 < ns.getD j 0)) (its.toArray.size - 1)) 0),H,I.movedNew m,⟨t',rfl⟩,q _ ?_ fun k hk=>?_⟩
 ·rw [xf _ _ hb];exact List.getElem_mem hb
 ·obtain ⟨j,hj,rfl⟩:=List.mem_iff_getElem.mp hk;have:=h2 j (by rw [O4]; omega);rw [xf _ _ hj] at this;exact this
end
theorem Qm1 {prog:aL} {w:aK} {A:aM} (hh:A.handled=none) (t:Bool) (it l:aB) (hne:l≠it) (items:Array aA) :
  Draws prog w A it [it,l] items.size (fun i v=>items[i]?=some v) (fun i h=>IterAt t h it l i/\HasItems t h l items) where
 live:=fun _ _ st=>let ⟨o,e,_⟩:=st.1.there; ⟨o,e⟩
 frame:=fun _ _ _ st hk=>⟨st.1.at fun o e=>hk it (by simp) o e,st.2.at fun o e=>hk l (by simp) o e⟩
 item:=fun i s Q E hi st hQ=>by
  refine Xs st.1 st.2 (x:=items[i]) (by simp [hi]) fun h' hit' hs'=>?_
  exact hQ _ h' s.toks (by simp [hi]) ⟨hit',st.2.at fun o e=>hs'.extBut _ _ hne e⟩ hs'
 done:=fun s Q E st hE=>Kt hh st.1 st.2 (by simp) hE
theorem Q78 (l:aB) (items:Array aA) (n:Nat) (dct:Option aB) (sl:Array (Option aA)) :
  Meets (Builtin.«enumerate.__new__» ⟨[.type "enumerate",.ref l],[]⟩) (fun _ R s=>s.heap.get? l=some { cls:=.type "tuple",dict:=dct,data:=.seq items n,slots:=sl } /\
   R (.ok (.ret (.ref (s.heap.push { cls:=.type "tuple_iterator",data:=.fields #[.ref l,.int 0 0] }).objs.size)))
    { s with heap:=(s.heap.push { cls:=.type "tuple_iterator",data:=.fields #[.ref l,.int 0 0] }).push { cls:=.type "enumerate",data:=.fields #[.none,.bool false,.ref s.heap.objs.size,aS 0,.none,.none] } }):=
 .of_wp fun prog w A R s h=>by
  obtain ⟨hp,g,d,tk,os⟩:=s; obtain ⟨hl,h⟩:=h;have hsub:=sub_enumerate;have hL:Heap.IsTuple (Shared.heap ⟨hp,g,d,tk,os⟩) l items:=⟨_,hl,rfl,n,rfl⟩
  wp_walk using AutoSeq1.wpAny_loadPart' hl
  refine wpAny_stack_any fun st=>aJ ?_
  split
  ·rename_i c _ _ _ _ _;cases (c == Value.type "enumerate")
   ·wp_walk using AutoSeq1.wpAny_loadPart' hl,bK hL
    exact ⟨_,rfl,h⟩
   ·wp_walk using AutoSeq1.wpAny_loadPart' hl,bK hL
    exact ⟨_,rfl,h⟩
  ·wp_walk using AutoSeq1.wpAny_loadPart' hl,bK hL
   exact ⟨_,rfl,h⟩
section
variable {prog:aL} {w:aK} {A:aM} {E:aA->aC->Prop} {s:aC}
theorem Q9i {l:aB} {items:Array aA} {Q:aA->aC->Prop} (hL:s.heap.IsTuple l items)
  (h:∀ h',IsEnum h' (s.heap.objs.size + 1) s.heap.objs.size 0 .none->h'.IsTupleIter s.heap.objs.size l 0->h'.objs.size=s.heap.objs.size + 2 ->
   (∀ b o,s.heap.get? b=some o->h'.get? b=some o)->Q (.ref (s.heap.objs.size + 1)) { s with heap:=h' }) :
  aF (aI prog w) A (call (.type "enumerate") [.ref l]) Q E s:=by
 obtain ⟨⟨c,dct,dt,sl⟩,hl,hc,n,hd⟩:=hL;replace hc:c=.type "tuple" := hc;replace hd:dt=.seq items n:=hd;subst hc hd;refine callType_new F.called_enumerate (by decide) (F.typeCall_enumerate_1 _) (F.newCall_enumerate_1 _) (fun obj=>F.args_object_init_2 obj _) F.entry_enumerate_new
  (Q78 l items n dct sl) ⟨hl,?_⟩
 have hz:(s.heap.push { cls:=.type "tuple_iterator",data:=.fields #[.ref l,.int 0 0] }).objs.size=s.heap.objs.size + 1:=E4 ..;show _/\_;rw [hz];have he:IsEnum ((s.heap.push { cls:=.type "tuple_iterator",data:=.fields #[.ref l,.int 0 0] }).push
   { cls:=.type "enumerate",data:=.fields #[.none,.bool false,.ref s.heap.objs.size,aS 0,.none,.none] }) (s.heap.objs.size + 1) s.heap.objs.size 0 .none:=by
  have:=I0 (s.heap.push { cls:=.type "tuple_iterator",data:=.fields #[.ref l,.int 0 0] })
   (o:={ cls:=.type "enumerate",data:=.fields #[.none,.bool false,.ref s.heap.objs.size,aS 0,.none,.none] }) rfl
  rw [hz] at this; exact this
 refine ⟨⟨_,he,rfl⟩,h _ he ⟨_,O1 _ (I0 _ rfl),rfl,rfl⟩ (by rw [E4,hz]) fun b o x=>O1 _ (O1 _ x)⟩
theorem Q9j {t:Bool} {l:aB} {items:Array aA} {Q:aA->aC->Prop} (hL:HasItems t s.heap l items)
  (h:∀ h',IsEnum h' (s.heap.objs.size + 1) s.heap.objs.size 0 .none->IterAt t h' s.heap.objs.size l 0->h'.objs.size=s.heap.objs.size + 2 ->
   (∀ b o,s.heap.get? b=some o->h'.get? b=some o)->Q (.ref (s.heap.objs.size + 1)) { s with heap:=h' }) :
  aF (aI prog w) A (call (.type "enumerate") [.ref l]) Q E s:=by
 cases t
 ·exact call_enumerate_list hL h
 ·exact Q9i hL h
end
def Ite (K:PySem.W.Frag) (t:Bool) (a:aB):It:=
 ⟨fun i H=>∃ xs x,SqK K t H a xs/\xs[i]?=some x,
  fun i H v H'=>∃ p x,H p=none/\v=.ref p/\H'=upd H p (.tup [.int i,x])/\∀ xs,SqK K t H a xs->xs[i]?=some x,
  fun i H=>∃ xs,SqK K t H a xs/\xs.length<=i⟩
theorem Inv.tracks {X:Cx} {pins:List (aB × Obj)} {σ:St} {H:Hp} {s s1:aC} {p:aB} {xs:List V} {its:List aA} (I:Inv X pins σ H s) (I1:Inv X pins σ H s1) (hp:s.heap.objs.size<=p) (hn:H p=none) (rv:Vals xs its) (hz:xs.length<=sizeLine)
  (ht:IsTup s1.heap p its.toArray):Inv X pins σ (upd H p (.tup xs)) s1:=by
 refine ⟨I1.ok,I1.os,I1.bare,?_,I1.loc,I1.cell,?_,?_,?_,?_,I1.len⟩
 ·have u0:=I1.base;have old:∀ c o,X.s₀.heap.get? c=some o->c≠p:=fun c o e=>D4 (D1 (O8 e) (E7 I.sz hp))
  exact ⟨u0.keep,u0.slot,fun c o e n hx=>by rw [Qe (old c o e)]; exact u0.free c o e n hx,u0.there,
   fun c ts e=>by have:=u0.tups c ts e; rw [Qe (Qf this hn)]; exact this,
   fun c o ts e=>by have:=u0.frzs c o ts e; rw [Qe (Qf this hn)]; exact this,
   fun c ps e=>by obtain ⟨more,q⟩:=u0.tbls c ps e; exact ⟨more,by rw [Qe (Qf q hn)]; exact q⟩⟩
 ·rw [Qe (D4 (D1 I.lt hp))]; exact I.free
 ·intro x' c e;obtain ⟨v',q⟩:=I.cell x' c e;rw [Qe (D4 (D1 q.lt hp))]; exact I.freeC x' c e
 ·intro p' hp';obtain ⟨e,n,ne,nf,d⟩:=I1.pin p' hp';have e0:=(I.pin p' hp').1;exact ⟨e,by rw [Qe (D4 (D1 (O8 e0) hp))]; exact n,ne,nf,d⟩
 ·intro c o q
  by_cases hcs:c=p
  ·subst hcs;rw [Jb] at q; cases q;exact ⟨hz,its,rv,ht⟩
  ·rw [Qe hcs] at q;exact (I1.hok c o q).stay (fun _ _ _ r=>r) (fun c' r=>by rw [Qe (Qf r hn)]; exact r) fun c' ts r=>by rw [Qe (Qf r hn)]; exact r
def Qkz (t:Bool) (e it a:aB) (i:Nat) (h:Heap):Prop:=(∃ old,IsEnum h e it i old)/\IterAt t h it a i
theorem Qat {P:aL} {w:aK} {K:PySem.W.Frag} {elts:List aH} {k:Nat} {pos:Pos} {t:Bool} {e it a:aB} (hei:e≠it) (hae:a≠e) (hai:a≠it) :
  Turn P w K (.Tuple elts k pos) (Ite K t a) [e,it] e (Qkz t e it a) where
 mem:=by simp
 obj:=fun i h st c hc=>by
  obtain ⟨⟨old,he⟩,h1⟩:=st;simp at hc;rcases hc with rfl | rfl
  ·exact ⟨_,he,fun v q=>by cases q⟩
  ·exact h1.there
 keep:=fun i h h' st kk=>by
  obtain ⟨⟨old,he⟩,h1⟩:=st;exact ⟨⟨old,kk e (by simp) _ he⟩,h1.at fun o q=>kk it (by simp) o q⟩
 item:=by
  intro X hP hw hK hc i pins s σ H E I hf st hg;subst hP hw hK;obtain ⟨xs,x,hq1,hx⟩:=hg;obtain ⟨⟨old,he⟩,h1⟩:=st;obtain ⟨its,rv,p,_⟩:=I.seqK hq1;obtain ⟨ux,hux,rux⟩:=rv.get hx;have hlt:i < its.toArray.size:=by rw [O4]; exact (O0.mp hux).1
  refine wpAny_pyNext_enum_itemD (Qm1 (A:=X.A.in1) (I.ok.hd hc) t it a hai its.toArray) he ⟨h1,p⟩ hlt hei (by simp; exact ⟨hei,fun z=>hae z.symm⟩) fun x' h' tk hx' ho hs' hT hsz hk=>⟨_,rfl,?_⟩
  have:x'=ux:=by
   have e1:its[i]?=some x':=by simpa using hx'
   rw [hux] at e1; exact (Option.some.inj e1).symm
  subst this;refine wpAny_letOwnedTupleGo_enum (s:={ s with heap:=h',toks:=tk + 1 }) ho fun h'' he' hs''=>?_
  have elt:e < s.heap.objs.size:=O8 he;have ilt:it < s.heap.objs.size:=by obtain ⟨o,q,_⟩:=h1.there; exact O8 q
  have hfr:H s.heap.objs.size=none:=I.fresh;have I1:Inv X pins σ H { s with heap:=h'',toks:=tk + 1 }:=I.turnedL (its:=[e,it]) (fun c o hc' q=>(hs''.2 c (fun z=>hc' (by simp [z]))).trans (hk c o (fun z=>hc' (by simp [z])) (fun z=>hc' (by simp [z])) q)) fun c hc'=>hf c hc'
  have tupAt:h''.get? s.heap.objs.size=some { cls:=.type "tuple",data:=.seq #[.int i tk,x'] }:=(hs''.2 _ (Nat.ne_of_gt elt)).trans hT;have I2:=I.tracks (xs:=[.int i,x]) (its:=[.int i tk,x']) I1 (O9 _) hfr (.cons ⟨tk,rfl⟩ (.cons rux .nil)) (by simp only [E1,G7]; rw [sizeLine_eq]; decide) ⟨_,tupAt,rfl,0,rfl⟩;refine ⟨.ref s.heap.objs.size,_,I2,rfl,⟨s.heap.objs.size,x,hfr,rfl,rfl,fun xs' q1=>?_⟩,?_,fun c hc'=>?_⟩
  ·rw [I.seqK_inj q1 hq1]; exact hx
  ·exact ⟨⟨x',by simpa using he'⟩,hs'.1.at fun o q=>hs''.extBut _ _ (Ne.symm hei) q⟩
  ·have:=(hf c hc').1;have clt:c < s.heap.objs.size:=by simp at hc'; rcases hc' with rfl | rfl <;> assumption
   rw [Qe (D4 clt)]; exact this
 done:=by
  intro X hP hw hK hc i pins s σ H E I hf st hg;subst hP hw hK;obtain ⟨xs,hq1,hend⟩:=hg;obtain ⟨⟨old,he⟩,h1⟩:=st;obtain ⟨its,rv,p,_⟩:=I.seqK hq1;have hl:=rv.length;have hT:s.TypeIs (.ref e) "enumerate" := ⟨_,he,rfl⟩;unfold af;refine aD (wpAny_attempt (wpAny_callSpecial?_slot (name:=Str.ofString "__next__") hT F.slot_enumerate_next
   (ak F.slot_enumerate_next hT F.entry_enumerate_next ?_ (F.args_enumerate_next_1 _))))
  show aF _ _ (field (.ref e) 2 >>= _) _ _ _;refine aD (ae he rfl (x:=.ref it) rfl ?_);refine aD (Kt (I.ok.hd hc) h1 p (by simp; omega) fun h' x he' hx'=>?_)
  obtain ⟨o,ho,hc'⟩:=hx';refine aD (bN (T := "StopIteration") (b:=true) ⟨o,ho,hc'⟩ isSubtype_stop ?_);exact aJ ⟨rfl,I.turnedL (t':=s.toks) (its:=[it]) (fun c o hc2 q=>he' c o (fun z=>hc2 (by simp [z])) q) fun c hc2=>hf c (by simp at hc2; simp [hc2])⟩
 self:=fun _ _ _ _ _ st h=>by
  obtain ⟨⟨old,he⟩,_⟩:=st;exact wpAny_pyIter_enum he h
section
variable {X:Cx}
def Qq0 (K:PySem.W.Frag) (t:Bool) (ta:TA):TI:=fun σ H R=>ta σ H fun vs H1=>∃ a xs,vs=[.ref a]/\SqK K t H1 a xs/\R (Ite K t a) H1
theorem Q38:aY "enumerate" = some (.type "enumerate"):=by decide +kernel
theorem Qgt (t:Bool) {a:aH} {ta:TA} {p pos:Pos} {elts:List aH} {k:Nat} {tp:Pos} (hg:Gl X "enumerate") (hm:X.mg "enumerate" = none) (ha:PA X [a] ta) (hs:aO [a] X.env=[(false,aN a X.env)]:=by rfl) :
  PI X (.Tuple elts k tp) (.Call (.Name "enumerate" p) [a] [] pos) (Qq0 X.K t ta):=by
 intro pins s σ H R I h;refine Call_ (zy I hg hm Q38 (PyProof.Rows.callWith_type1 (thn (ha pos pins s σ H _ I h) fun us s1 ⟨vs,H1,I1,r1,q1⟩=>?_) hs rfl))
 obtain ⟨a',xs,e,q1,q⟩:=q1;subst e;obtain ⟨u,rfl,r⟩:=K6 r1;cases r;obtain ⟨its,rv,p1,_⟩:=I1.seqK q1;refine Q9j p1 fun h' z1 z2 z3 z4=>?_
 refine wpAny_pyIter_enum (s:={ s1 with heap:=h' }) z1 ?_;have lta:a' < s1.heap.objs.size:=by obtain ⟨o,e⟩:=p1.there; exact O8 e
 refine ⟨_,[s1.heap.objs.size + 1,s1.heap.objs.size],_,_,H1,rfl,I1.kept (t':=s1.toks) z4,Qat (t:=t) (Nat.ne_of_gt (Nat.lt_succ_self _)) (D4 (Nat.lt_succ_of_lt lta)) (D4 lta),⟨⟨_,z1⟩,z2⟩,fun c hc=>?_,q⟩
 have hc':s1.heap.objs.size<=c:=by simp at hc; unfold aB at *; omega
 exact I1.fpOk hc' (I1.hok.fresh hc')
end
theorem Q6k {H:Hp} {a:aB} {o:HO} (h:H a=none):Same H (upd H a o):=fun b u e=>by rw [Qe (Qf e h)]; exact e
section
variable {K:PySem.W.Frag} {cap:List (Option Nat)} {te:TE} {σ:St} {H1:Hp} {Q:VK}
abbrev g2 (K:PySem.W.Frag):TG:=Qq3 K 2 (Qet (Q7p 0) (Qet (Q7p 1) Qq4))
end
def Qqf:V->Option aA
 | .ty n=>some (.type n)
 | .ref a=>some (.ref a)
 | _=>none
theorem Qf7 {c:V} {cv u:aA} (e:Qqf c=some cv) (r:RelV c u):u=cv:=by
 cases c with
 | ty n=>cases e; exact r
 | ref a=>cases e; exact r
 | _=>cases e
section
variable {X:Cx}
theorem Q86:U4 X (.builtin "isinstance") (fun xs H Q=>∃ x c cv t b,xs=[x,c]/\Qqf c=some cv/\TyOf X.K H x t/\PySem.W.kitOne X.K t cv=some b/\Q (.bl b) H):=by
 intro pins s σ H xs us Q I r h;obtain ⟨x,c,cv,t,b,rfl,hc,ty,e,q⟩:=h;obtain ⟨u,w',rfl,r1,r2⟩:=Qcp r;rw [Qf7 hc r2];exact Qbp I r1 ty e fun tk=>⟨.bl b,H,I.tok tk,rfl,q⟩
theorem Q15:aY "isinstance" = some (.builtin "isinstance"):=by decide +kernel
theorem xn:aY "sum" = some (.builtin "sum"):=by decide +kernel
theorem jj:aY "all" = some (.builtin "all"):=by decide +kernel
theorem Qfj:aY "any" = some (.builtin "any"):=by decide +kernel
theorem Q8a:aY "max" = some (.builtin "max"):=by decide +kernel
theorem Qfh:aY "min" = some (.builtin "min"):=by decide +kernel
theorem qc:aY "tuple" = some (.type "tuple"):=by decide +kernel
theorem Km:aY "list" = some (.type "list"):=by decide +kernel
theorem Qfi:aY "int" = some (.type "int"):=by decide +kernel
theorem Q4s:aY "bool" = some (.type "bool"):=by decide +kernel
end
section
variable {X:Cx} (K:PySem.W.Frag)
end
end L2
namespace L2
open PySem PySem.Spec PyProof.Rows PySem.W PySem.Builtin.Getset_descriptor
section
variable {prog:aL} {w:aK} {A:aM} {E:aA->aC->Prop} {h:Heap} {g:Array GenState} {d:Drawn} {t:Nat} {os:OsState} {K:Frag} {x C:aB}
end
end L2
namespace L2
open PySem PySem.Spec PyProof.Rows
structure Fly (P:aL) (w:aK) (outer:List Env) (H H':Hp) (s s':aC) (a:aB) (cls a0:aA) (B:Heap):Prop where
 os:s'.os=s.os
 bare:AllBare s'.gens
 fl:Heap.FlyingW B outer a cls a0 s'.heap
 hokB:HOk P w H' B
 keep:∀ b o,s.heap.get? b=some o->H b=none->b∉frs outer->B.get? b=some o
 there:∀ b o,s.heap.get? b=some o->b∉frs outer->∃ o',B.get? b=some o'
 slot:∀ b o,s.heap.get? b=some o->b∈frs outer->∃ sl,s'.heap.get? b=some { o with slots:=sl }
 free:∀ b o,s.heap.get? b=some o->H b=none->H' b=none
 tups:∀ b xs,H b=some (.tup xs)->H' b=some (.tup xs)
 frzs:∀ b o u,H b=some (.frz o u)->H' b=some (.frz o u)
 tbls:∀ b ps,H b=some (.tbl ps)->∃ more,H' b=some (.tbl (ps ++ more))
section
variable {P:aL} {w:aK} {K:PySem.W.Frag} {mg:Str->Option aA} {base:Heap} {N:List Str} {qual:Str} {scope:Scope} {f:aB} {cd:aA} {A:aM} {outer:List Env} {s:aC} {H:Hp} {E:XK}
end
section
variable {X:Cx}
end
section
variable {X:Cx} {pins:List (aB × Obj)} {σ:St} {H H':Hp} {s s':aC} {a C:aB}
end
section
variable {X:Cx}
end
section
variable {X:Cx}
end
theorem Q1s (l:aB) (items:Array aA) (n:Nat) (dd:Option aB) (sl:Array (Option aA)) (t:Tok) :
  Meets (Builtin.«tuple.__mul__» ⟨[.ref l,.int 1 t],[]⟩) (fun _ R s=>s.heap.get? l=some { cls:=.type "tuple",dict:=dd,data:=.seq items n,slots:=sl }/\R (.ok (.ret (.ref l))) s):=
 .of_wp fun prog w A R s h=>by
  obtain ⟨hp,g,d,tk,os⟩:=s; obtain ⟨hl,h⟩:=h
  wp_walk using wpAny_loadPart' hl
  exact ⟨_,rfl,h⟩
theorem Q1t (l:aB) (items:Array aA) (n:Nat) (dd:Option aB) (sl:Array (Option aA)) (x:Int) (t:Tok) (h1:¬ (decide (x < -(2 ^ 63)) || decide (x>=2 ^ 63))=true) (h2:¬ (items.isEmpty || x == 1)=true) (h3:¬ (decide (x<=0) || items.isEmpty)=true) (h4:¬ (items.size:Int) * x > (2 ^ 63 - 1) / 8) (h5:¬ Builtin.Tuple.tupleTooMany ((items.size:Int) * x)=true)
  (h6:((List.replicate x.toNat items).foldl (fun x1 x2=>x1 ++ x2) #[]).size<=sizeLine) :
  Meets (Builtin.«tuple.__mul__» ⟨[.ref l,.int x t],[]⟩) (fun _ R s=>s.heap.get? l=some { cls:=.type "tuple",dict:=dd,data:=.seq items n,slots:=sl } /\
   R (.ok (.ret (Value.ref s.heap.objs.size))) { s with heap:=s.heap.push { cls:=Value.type "tuple",data:=Data.seq ((List.replicate x.toNat items).foldl (fun x1 x2=>x1 ++ x2) #[]) } }):=
 .of_wp fun prog w A R s h=>by
  obtain ⟨hp,g,d,tk,os⟩:=s; obtain ⟨hl,h⟩:=h
  wp_walk using wpAny_loadPart' hl
  refine wpAny_ite_false (bU h1) ?_
  wp_walk using wpAny_loadPart' hl
  refine wpAny_ite_false (bU h4) ?_
  wp_walk using wpAny_loadPart' hl
  all_goals first | exact ⟨_,rfl,h⟩ | (refine wpAny_ite_false (bU h5) ?_; wp_walk) | skip
  all_goals first | exact ⟨_,rfl,h⟩ | (refine wpAny_ite_false (bU (Nat.not_lt.mpr h6)) ?_; wp_walk; exact ⟨_,rfl,h⟩)
theorem Q30 (a:Int) (t:Tok) (l:aB) (items:Array aA) (n:Nat) (dd:Option aB) (sl:Array (Option aA)) :
  Meets (Builtin.«int.__rmul__» ⟨[.int a t,.ref l],[]⟩) (fun _ R s=>s.heap.get? l=some { cls:=.type "tuple",dict:=dd,data:=.seq items n,slots:=sl }/\R (.ok (.ret Value.notImplemented)) s):=
 .of_wp fun prog w A R s h=>by obtain ⟨hp,g,d,tk,os⟩:=s; obtain ⟨hl,h⟩:=h; wp_walk using wpAny_loadPart' hl; exact ⟨_,rfl,h⟩
theorem Q06:fillsNumberSlot (.type "tuple") "mul" = pure false:=
 PySem.fillsNumberSlot_seq (id := "tuple.__mul__") (r:=some (.builtin "tuple.__rmul__")) F.slot_tuple_mul.lookup (by decide +kernel) F.slot_tuple_rmul.lookup (by decide +kernel)
theorem Q5a:seqRepeat? (.type "tuple")=pure (some (.builtin "tuple.__mul__")):=by
 unfold seqRepeat?;rw [PySem.seqSlot_of (T := "tuple") (name := "__mul__") (id := "tuple.__mul__") F.slot_tuple_mul.lookup (by decide +kernel),PySem.seqSlot_of (T := "tuple") (name := "__rmul__") (id := "tuple.__rmul__") F.slot_tuple_rmul.lookup (by decide +kernel)];rfl
section
variable {X:Cx}
def Qnp (K:PySem.W.Frag):R2:=fun x y H Q=>∃ a k xs,x=.ref a/\y=.int k/\SqT K H a xs/\xs≠[]/\1<=k/\xs.length * k.toNat<=4096 /\
 (k=1->Q (.ref a) H)/\(k≠1->∀ p,H p=none->Q (.ref p) (upd H p (.tup (List.replicate k.toNat xs).flatten)))
theorem Qh7:OpR X (aZ .Mult) (Qnp X.K):=by
 intro pins s σ H x y v u Q I rx ry h;obtain ⟨a,k,xs,rfl,rfl,ha,hne,hk,hz,q1,q2⟩:=h;cases rx;obtain ⟨t,rfl⟩:=ry;obtain ⟨its,r,p1,hs⟩:=I.tuple ha;obtain ⟨⟨cls,dd,data,sl⟩,ho,hc,n,hd⟩:=id p1;simp only at hc hd;subst hc hd;have hl:its.length=xs.length:=r.length.symm;have hpos:0 < its.length:=by rw [hl]; exact List.length_pos_iff.mpr hne
 have hkz:k.toNat<=4096:=by
  have:1 * k.toNat<=xs.length * k.toNat:=Nat.mul_le_mul_right _ (by omega);omega
 refine wpAny_binaryOp_repeat_ref (T := "tuple") (U := "int") (by decide) ⟨_,ho,rfl⟩ (fun s'=>typeIs_int s' k t) Q06 F.fills_int_mul F.slot_int_rmul Q5a F.slot_int_index.lookup
  (bB F.slot_int_rmul (typeIs_int s k t) F.entry_int_rmul (F.args_int_rmul_2 _ _) (Q30 k t a its.toArray n dd sl)
   ⟨ho,rfl,⟨_,ho,rfl⟩,?_⟩)
 by_cases h1:k=1
 ·subst h1;exact bB F.slot_tuple_mul ⟨_,ho,rfl⟩ F.entry_tuple_mul (F.args_tuple_mul_2 _ _) (Q1s a its.toArray n dd sl t) ⟨ho,⟨.ref a,H,I,rfl,q1 rfl⟩⟩
 ·have f0:List.foldl (fun x1 x2=>x1 ++ x2) #[] (List.replicate k.toNat its.toArray)=(List.replicate k.toNat its).flatten.toArray:=by
   have:=Q0b its k.toNat [];rw [List.nil_append] at this;exact this
  have hlen:(its.toArray.size:Int) * k=((its.length * k.toNat:Nat):Int):=by
   rw [O4,Int.natCast_mul,Int.toNat_of_nonneg (by omega)]
  have hfl:(List.replicate k.toNat its).flatten.length<=4096:=by rw [Q5p,hl,Nat.mul_comm]; exact hz
  have hb:its.length * k.toNat<=4096:=by rw [hl]; exact hz
  refine bB F.slot_tuple_mul ⟨_,ho,rfl⟩ F.entry_tuple_mul (F.args_tuple_mul_2 _ _) (Q1t a its.toArray n dd sl k t ?_ ?_ ?_ ?_ ?_ ?_) ⟨ho,?_⟩
  ·rw [bU (by omega),bU (by omega)]; exact D2
  ·intro z;rcases Bool.or_eq_true_iff.mp z with z | z
   ·rw [List.isEmpty_toArray,List.isEmpty_iff] at z; rw [z] at hpos; simp at hpos
   ·exact h1 (eq_of_beq z)
  ·intro z;rcases Bool.or_eq_true_iff.mp z with z | z
   ·have:=of_decide_eq_true z; omega
   ·rw [List.isEmpty_toArray,List.isEmpty_iff] at z; rw [z] at hpos; simp at hpos
  ·rw [hlen]; omega
  ·rw [hlen];have:(4096:Int)<=sizeLine:=by decide
   show ¬ decide (((its.length * k.toNat:Nat):Int) > (sizeLine:Int))=true;rw [bU (by omega)]; exact D2
  ·rw [f0,O4]; exact E7 hfl (by decide)
  ·rw [f0];refine ⟨.ref s.heap.objs.size,_,I.laid (t':=s.toks) (o:=.tup (List.replicate k.toNat xs).flatten) (fun b ob q=>O1 _ q) (O9 _) ?_,rfl,q2 h1 _ (I.hok.fresh (O9 _))⟩;exact ⟨by rw [Q5p,Nat.mul_comm]; exact E7 hz (by decide),_,r.rep k.toNat,IsTup.new _ _⟩
end
section
variable {X:Cx} {pins:List (aB × Obj)} {s:aC} {σ:St} {H:Hp}
open PySem.SeqAt
theorem Qe3:OpR X (aU .Is) (fun x y H Q=>∃ b c,x=.bl b/\y=.bl c/\Q (.bl (b == c)) H):=by
 intro pins s σ H x y v u Q I rx ry h;obtain ⟨b,c,rfl,rfl,q⟩:=h;cases rx;cases ry;exact PyProof.Rows.is_bool ⟨.bl _,H,I,rfl,q⟩
theorem Q6y:OpR X (aU .IsNot) (fun x y H Q=>∃ b c,x=.bl b/\y=.bl c/\Q (.bl (b != c)) H):=by
 intro pins s σ H x y v u Q I rx ry h;obtain ⟨b,c,rfl,rfl,q⟩:=h;cases rx;cases ry;exact PyProof.Rows.isnot_bool ⟨.bl _,H,I,rfl,q⟩
end
section
variable {K:PySem.W.Frag} {cap:List (Option Nat)} {te:TE} {σ:St} {H1:Hp} {Q:VK}
end
section
variable {X:Cx} {pos:Pos}
end
theorem U2:∀ (names:List (Str × al)) (h:Heap) (acc:List (Str × aB)) (x:Str) (c:aB),(ag h.objs.size names acc).lookup x=some c ->
  acc.lookup x=some c\/((x,NameKind.cell)∈names/\h.objs.size<=c/\(pushCells h names).IsCell c none)
 | [],_,_,_,_,e=>.inl e
 | (name,kind) :: r,h,acc,x,c,e=>by
  unfold ag at e;unfold pushCells
  by_cases hk:(kind == NameKind.cell)=true
  ·rw [bS hk] at e ⊢;have hk':kind=.cell:=by simpa using hk
   have ih:=U2 r (h.push { cls:=.type "cell",data:=.cell none }) ((name,h.objs.size) :: acc) x c (by rw [E4]; exact e);rw [E4] at ih;rcases ih with z | ⟨z1,z2,z3⟩
   ·rw [List.lookup_cons] at z;cases hb:x == name with
    | true=>
     rw [hb] at z; cases z;exact .inr ⟨by rw [beq_iff_eq.mp hb,hk']; exact D9,O9 _,⟨_,pushCells_keeps _ _ _ _ (I0 _ rfl),rfl⟩⟩
    | false=>rw [hb] at z; exact .inl z
   ·exact .inr ⟨O7 _ z1,by omega,z3⟩
  ·rw [bT hk] at e ⊢;rcases U2 r h acc x c e with z | ⟨z1,z2,z3⟩
   ·exact .inl z
   ·exact .inr ⟨O7 _ z1,z2,z3⟩
theorem Ug {x:Str}:∀ (names:List (Str × al)) (n:Nat) (acc:List (Str × aB)),(x,NameKind.cell)∉names->(ag n names acc).lookup x=acc.lookup x
 | [],_,_,_=>rfl
 | (name,kind) :: r,n,acc,h=>by
  unfold ag;have hr:(x,NameKind.cell)∉r:=fun z=>h (O7 _ z)
  by_cases hk:(kind == NameKind.cell)=true
  ·rw [bS hk,Ug r _ _ hr,List.lookup_cons];cases hb:x == name with
   | true=>exact absurd (by rw [beq_iff_eq.mp hb,show kind=.cell by simpa using hk]; exact D9) h
   | false=>rfl
  ·rw [bT hk,Ug r _ _ hr]
theorem K4 {x:Str} {c:aB}:∀ (names:List (Str × al)) (n:Nat) (acc:List (Str × aB)),(x,NameKind.cell)∈names->(ag n names acc).lookup x=some c->n<=c
 | [],_,_,h,_=>by cases h
 | (name,kind) :: r,n,acc,h,e=>by
  unfold ag at e
  by_cases hr:(x,NameKind.cell)∈r
  ·by_cases hk:(kind == NameKind.cell)=true
   ·rw [bS hk] at e;exact Nat.le_of_succ_le (K4 r _ _ hr e)
   ·rw [bT hk] at e;exact K4 r _ _ hr e
  ·rcases D3.mp h with q | q
   ·cases q;rw [bS (by decide),Ug r _ _ hr,List.lookup_cons] at e;simp at e;exact Nat.le_of_eq e
   ·exact absurd q hr
theorem K5:∀ (names:List (Str × al)) (n:Nat) (acc:List (Str × aB)),(∀ x c,acc.lookup x=some c->c < n)->(∀ x y c,acc.lookup x=some c->acc.lookup y=some c->x=y) ->
  ∀ x y c,(ag n names acc).lookup x=some c->(ag n names acc).lookup y=some c->x=y
 | [],_,_,_,h=>h
 | (name,kind) :: r,n,acc,h1,h2=>by
  unfold ag
  by_cases hk:(kind == NameKind.cell)=true
  ·rw [bS hk];refine K5 r (n + 1) _ (fun x c e=>?_) (fun x y c e e'=>?_)
   ·rw [List.lookup_cons] at e;cases hb:x == name with
    | true=>rw [hb] at e; cases e; exact Nat.lt_succ_self _
    | false=>rw [hb] at e; exact Nat.lt_succ_of_lt (h1 x c e)
   ·rw [List.lookup_cons] at e e';cases hb:x == name with
    | true=>
     rw [hb] at e; cases e;cases hb':y == name with
     | true=>rw [beq_iff_eq.mp hb,beq_iff_eq.mp hb']
     | false=>rw [hb'] at e'; exact absurd (h1 y _ e') (Nat.lt_irrefl _)
    | false=>
     rw [hb] at e;cases hb':y == name with
     | true=>rw [hb'] at e'; cases e'; exact absurd (h1 x _ e) (Nat.lt_irrefl _)
     | false=>rw [hb'] at e'; exact h2 x y c e e'
  ·rw [bT hk];exact K5 r n acc h1 h2
theorem Q3d {M:Model} {A:aM} {E:aA->aC->Prop} {s:aC} {scope:Scope} {globals:aB} {cl:List (Str × aB)} {qual:Str} {func:Option aB} {code:aA} {env:Env} {builtins:aB} {Q:Env->aC->Prop}
  (hQ:Q (newEnv scope s.heap.objs.size globals (ag (s.heap.objs.size + 1) scope.names cl) qual func code (some env) builtins) { s with heap:=pushCells (s.heap.push { cls:=.type "dict",data:=.dict #[] }) scope.names }) :
  aF M A (newFunctionEnv scope globals cl [] qual func code (some env) builtins) Q E s:=by
 simp only [newFunctionEnv,Option.isSome_some,if_true];refine aD (wpAny_alloc ?_);refine aD (wpAny_layCells _ (fun name kind cells=>by cases hkc:kind == NameKind.cell <;> simp [hkc]) _ _ _ _ ?_);rw [show ({ s with heap:=s.heap.push { cls:=.type "dict",data:=.dict #[] } }:aC).heap.objs.size=s.heap.objs.size + 1 from E4 ..];refine aD ?_;rw [List.forIn_nil];exact aJ (aJ hQ)
def compOkC (N N':List Str) (sc scE:Scope) (cap:List (Option Nat)):Bool:=
 sc.kind == .function && sc.names.all (fun x=>x.2 != .cell || sc.names.lookup x.1 == some .cell) && sc.names.all (fun x=>x.2 != .local || sc.names.lookup x.1 == some .local) &&
 sc.names.all (fun x=>x.2 != .free || scE.names.lookup x.1 == some .cell || scE.names.lookup x.1 == some .free) && cap.length == N'.length &&
 (List.range cap.length).all (fun i=>match cap[i]? with
  | some (some j)=>(match N'[i]?,N[j]? with | some a,some b=>a == b && sc.names.lookup a == some .free | _,_=>false)
  | _=>true)
structure CompOkC (N N':List Str) (sc scE:Scope) (cap:List (Option Nat)):Prop where
 kind:sc.kind=.function
 cel:∀ x∈sc.names,x.2=.cell->sc.names.lookup x.1=some .cell
 loc:∀ x∈sc.names,x.2=.local->sc.names.lookup x.1=some .local
 fre:∀ x∈sc.names,x.2=.free->scE.names.lookup x.1=some .cell\/scE.names.lookup x.1=some .free
 len:cap.length=N'.length
 at_:∀ (i j:Nat),cap[i]?=some (some j)->∃ x,N'[i]?=some x/\N[j]?=some x/\sc.names.lookup x=some .free
theorem compOkC.of {N N':List Str} {sc scE:Scope} {cap:List (Option Nat)} (h:compOkC N N' sc scE cap=true):CompOkC N N' sc scE cap:=by
 unfold compOkC at h;simp only [G8,E9,beq_iff_eq,Bool.or_eq_true,bne_iff_ne] at h;obtain ⟨⟨⟨⟨⟨h1,h2⟩,h3⟩,h4⟩,h5⟩,h6⟩:=h;refine ⟨h1,fun x hx e=>?_,fun x hx e=>?_,fun x hx e=>?_,h5,fun i j e=>?_⟩
 ·rcases h2 x hx with z | z
  ·exact absurd e z
  ·exact z
 ·rcases h3 x hx with z | z
  ·exact absurd e z
  ·exact z
 ·rcases h4 x hx with (z | z) | z
  ·exact absurd e z
  ·exact .inl z
  ·exact .inr z
 ·have hi:i < cap.length:=(O0.mp e).1;have:=h6 i (List.mem_range.mpr hi);rw [e] at this;simp only at this;cases e1:N'[i]? with
  | none=>rw [e1] at this; cases this
  | some a=>
   cases e2:N[j]? with
   | none=>rw [e1,e2] at this; cases this
   | some b=>
    rw [e1,e2] at this;simp only [G8,beq_iff_eq] at this;obtain ⟨rfl,z⟩:=this;exact ⟨a,rfl,rfl,z⟩
def Vd (X:Cx) (N':List Str) (sc:Scope) (cl:List (Str × aB)) (C:aB) (s0:aC) (H0:Hp) (ex:List aB):Cx:=
 { X with N:=N',s₀:=s0,H₀:=H0,env:=compEnvC sc cl C X.env,outer:=X.stack,ex:=ex,fn:=fun x=>sc.names.lookup x == some .cell,pn:=[],xe:=fun _ _=>False }
section
variable {X:Cx}
theorem Qfm {pins:List (aB × Obj)} {σ:St} {H:Hp} {s:aC} {N N':List Str} {sc scE:Scope} {cap:List (Option Nat)} {cl:List (Str × aB)} {fp:List aB}
  (I:Inv X pins σ H s) (hN:X.N=N) (hE:X.env.scope=scE) (ck:CompOkC N N' sc scE cap) (c1:∀ x c,cl.lookup x=some c->X.env.cells.lookup x=some c) (c2:∀ x∈sc.names,x.2=.free->∃ c,cl.lookup x.1=some c)
  (hf:∀ b∈fp,Q3c X pins H b) (hfs:∀ b∈fp,b < s.heap.objs.size) :
  Inv (Vd X N' sc (ag (s.heap.objs.size + 1) sc.names cl) s.heap.objs.size s H fp) [] (xk cap σ) H { s with heap:=pushCells (s.heap.push { cls:=.type "dict",data:=.dict #[] }) sc.names }:=by
 obtain ⟨h₁,hh₁⟩:∃ h₁,pushCells (s.heap.push { cls:=.type "dict",data:=.dict #[] }) sc.names=h₁:=⟨_,rfl⟩;obtain ⟨cl',hcl'⟩:∃ cl',ag (s.heap.objs.size + 1) sc.names cl=cl':=⟨_,rfl⟩;rw [hh₁,hcl'];have keep:∀ b o,s.heap.get? b=some o->h₁.get? b=some o:=fun b o e=>by rw [<- hh₁]; exact pushCells_keeps _ _ b o (O1 _ e)
 have hns:h₁.Ns s.heap.objs.size (fun _=>none):=by rw [<- hh₁]; exact (Heap.Ns.new s.heap (.type "dict")).keeps (pushCells_keeps _ _)
 have look:∀ x c,cl'.lookup x=some c->cl.lookup x=some c\/(s.heap.objs.size + 1<=c/\h₁.IsCell c none):=fun x c e=>by
  rw [<- hcl'] at e;have:=U2 (sc.names) (s.heap.push { cls:=.type "dict",data:=.dict #[] }) cl x c (by rw [E4]; exact e);rw [E4,hh₁] at this;rcases this with z | ⟨_,z,z'⟩
  ·exact .inl z
  ·exact .inr ⟨z,z'⟩
 have cellLt:∀ x c,cl.lookup x=some c->c < s.heap.objs.size:=fun x c e=>by
  obtain ⟨v,o,ho,_⟩:=I.cell x c (c1 x c e);exact O8 ho
 have inj:∀ x y c,cl'.lookup x=some c->cl'.lookup y=some c->x=y:=by
  rw [<- hcl'];exact K5 _ _ _ (fun x c e=>Nat.lt_succ_of_lt (cellLt x c e)) fun x y c a b=>I.ok.inj x y c (c1 x c a) (c1 y c b)
 have isC:∀ x,sc.names.lookup x=some .cell->∃ c,cl'.lookup x=some c:=fun x e=>by
  rw [<- hcl'];exact Option.isSome_iff_exists.mp (PySem.W.cellsFrom_some _ _ _ (.inl e))
 have isF:∀ x,sc.names.lookup x=some .free->cl'.lookup x=cl.lookup x:=fun x e=>by
  rw [<- hcl'];refine Ug _ _ _ fun z=>?_
  have:=ck.cel _ z rfl;rw [e] at this; cases this
 have kindOf:∀ x k,(compEnvC sc cl' s.heap.objs.size X.env).kindOf x=some k->k=.cell\/k=.free->sc.names.lookup x=some .free\/sc.names.lookup x=some .cell:=fun x k e hk=>by
  have e':(relabel sc X.env).names.lookup x=some k:=e;rw [qv] at e';cases q:sc.names.lookup x with
  | none=>rw [q] at e'; cases e'
  | some k'=>
   rw [q] at e';have e'':(if (k' == NameKind.free && X.env.scope.kind == .function && X.env.kindOf x == some .cell)=true then NameKind.cell else k')=k:=Option.some.inj e'
   by_cases hc:(k' == NameKind.free && X.env.scope.kind == .function && X.env.kindOf x == some .cell)=true
   ·simp only [G8,beq_iff_eq] at hc;rw [hc.1.1]; exact .inl rfl
   ·rw [bT hc] at e'';subst e'';rcases hk with z | z
    ·rw [z]; exact .inr rfl
    ·rw [z]; exact .inl rfl
 have cellAt:∀ x c,X.env.cells.lookup x=some c->∀ v,s.heap.IsCell c v->h₁.IsCell c v:=fun x c e v ⟨o,ho,hd⟩=>⟨o,keep c o ho,hd⟩
 have Hnew:∀ c,s.heap.objs.size<=c->H c=none:=fun c hc=>I.hok.fresh hc
 refine ⟨⟨I.ok.mod,ck.kind,I.ok.glob,I.ok.blt,O9 _,inj,fun x hx=>?_,fun x c h1 h2=>?_,I.ok.hd,I.ok.frames,.inl rfl,fun b hb=>?_,I.bs,
  E7 I.ok.bsz I.sz,fun b o e hb=>?_,fun b hb hz=>?_,I.stack,I.stkFree⟩,rfl,I.bare,Un.kept keep,⟨_,hns,fun i x v e1 e2 e3=>?_⟩,fun x c e=>?_,Hnew _ (O9 _),fun x c e=>?_,fun p hp=>(by cases hp),I.hok.kept keep,?_⟩
 ·have hx:(compEnvC sc cl' s.heap.objs.size X.env).kindOf x=some .cell\/(compEnvC sc cl' s.heap.objs.size X.env).kindOf x=some .free:=hx;have q:sc.names.lookup x=some .free\/sc.names.lookup x=some .cell:=by
   rcases hx with z | z
   ·exact kindOf x _ z (.inl rfl)
   ·exact kindOf x _ z (.inr rfl)
  rcases q with q | q
  ·obtain ⟨c,hc⟩:=c2 _ (PySem.mem_of_lookup q) rfl;exact ⟨c,(isF x q).trans hc⟩
  ·exact isC x q
 ·have h1:sc.names.lookup x=some .cell:=by simpa [Vd] using h1
  have h2:cl'.lookup x=some c:=h2;rw [<- hcl'] at h2;exact E7 (Nat.le_succ _) (K4 _ _ _ (PySem.mem_of_lookup h1) h2)
 ·refine ⟨D4 (hfs b hb),fun x c e=>?_⟩;rcases look x c e with z | ⟨z,_⟩
  ·exact (hf b hb).2.2.2.2.1 x c (c1 x c z)
  ·exact fun q=>absurd (D1 (hfs b hb) (E7 (Nat.le_succ _) (q ▸ z))) (Nat.lt_irrefl _)
 ·rcases (hf b hb).2.2.2.1 with z | z
  ·exact I.ok.noex b o e z
  ·exact absurd (D1 (O8 e) (E7 I.ok.bsz z)) (Nat.lt_irrefl _)
 ·rcases D3.mp (I.stkSub b hz) with e | z
  ·exact (hf b hb).2.1 e
  ·exact (hf b hb).2.2.1 z
 ·have e1:N'[i]?=some x:=e1;have e2:(xk cap σ)[i]?=some (some v):=e2;unfold xk at e2;rw [D6] at e2;cases q:cap[i]? with
  | none=>rw [q] at e2; cases e2
  | some oj=>
   rw [q] at e2;cases oj with
   | none=>cases e2
   | some j=>
    obtain ⟨y,z1,z2,z3⟩:=ck.at_ i j q;rw [e1] at z1; cases z1;have ev:σ[j]?=some (some v):=by
     have e2':(σ[j]?).join=some v:=Option.some.inj e2;cases r:σ[j]? with
     | none=>rw [r] at e2'; cases e2'
     | some o=>rw [r] at e2'; exact congrArg some e2'
    obtain ⟨m',hm',hl⟩:=I.loc;have sK:X.env.scope.names.lookup x=some .cell\/X.env.scope.names.lookup x=some .free:=by rw [hE]; exact ck.fre _ (PySem.mem_of_lookup z3) rfl
    obtain ⟨u,ru,l⟩:=hl j x v (by rw [hN]; exact z2) ev (sK.elim (fun z=>.inr (.inl z)) fun z=>.inr (.inr z))
    refine ⟨u,ru,?_⟩;obtain ⟨c,hc⟩:=c2 _ (PySem.mem_of_lookup z3) rfl;rcases l with ⟨k,_⟩ | ⟨k,c',hc',hcell⟩
    ·have k:X.env.scope.names.lookup x=some .local:=k;rcases sK with z | z <;> (rw [k] at z; cases z)
    ·have:c=c':=by
      have q1:=c1 x c hc;rw [hc'] at q1;exact (Option.some.inj q1).symm
     subst this;refine .inr ⟨?_,c,(isF x z3).trans hc,cellAt x c hc' _ hcell⟩;show (relabel sc X.env).names.lookup x=some .cell\/(relabel sc X.env).names.lookup x=some .free;rw [qv,z3];show some (if _ then NameKind.cell else NameKind.free)=_\/some (if _ then NameKind.cell else NameKind.free)=_
     split
     ·exact .inl rfl
     ·exact .inr rfl
 ·rcases look x c e with z | ⟨_,z⟩
  ·obtain ⟨v,q⟩:=I.cell x c (c1 x c z);exact ⟨v,cellAt x c (c1 x c z) v q⟩
  ·exact ⟨_,z⟩
 ·rcases look x c e with z | ⟨z,_⟩
  ·exact I.freeC x c (c1 x c z)
  ·exact Hnew c (by omega)
 ·unfold xk;show _=N'.length;rw [O3];exact ck.len
end
section
variable {X:Cx}
end
end L2
namespace PySem
open Sem (wp)
section
variable {prog:aL} {w:aK} {A:aM} {E:aA->aC->Prop} {hp:Heap} {gs:Array GenState} {dr:Drawn} {tk:Nat} {sy:OsState}
variable {cn cq:Str} {kC kN:aB} {bas tl tB:List aA} {hd:Bool} {sns:List Str} {subs:List aA} {abb:Bool} {coll:Option Bool} {dic:Option aB} {j0 j1 j2 j3 j5:Option aA} {BB Bn newI nI initI inN:String} {tN:List aA}
end
section
variable {M:Model} {A:aM} {E:aA->aC->Prop} {env:Env}
variable {cn cq:Str} {kC kN:aB} {bas tl:List aA} {hd:Bool} {sns:List Str} {subs:List aA} {abb:Bool} {coll:Option Bool} {dic:Option aB} {j0 j1 j2 j3 j5:Option aA} {newI:String}
end
end PySem
namespace L2
open PySem PySem.Spec PyProof.Rows PySem.W PySem.Builtin.ObjectAttr
section
variable {prog:aL} {w:aK} {A:aM} {E:aA->aC->Prop} {s:aC} {K:Frag} {x C W:aB} {name:Str} {v:aA}
end
end L2
namespace L2
open PySem PySem.Spec PyProof.Rows PySem.W
section
variable {prog:aL} {w:aK} {A:aM} {E:aA->aC->Prop} {s:aC} {K:Frag} {x C W f:aB}
end
section
variable {X:Cx} {x C W f:aB}
end
end L2
namespace PySem
open Sem (wp)
def Q7s (o:Obj):Option aA:=match o.data with | .fields vs=>vs[2]? | _=>none
theorem Qey {o:Obj} {vs:Array aA} {x:aA} (od:o.data=.fields vs):Q7s (Obj.mapFields (·.setIfInBounds 1 x) o)=Q7s o:=by
 have d:=Obj.data_mapFields od (·.setIfInBounds 1 x);unfold Q7s;rw [d,od];exact Array.getElem?_setIfInBounds_ne (by decide)
section
variable {M:Model} {A:aM} {E:aA->aC->Prop} {s:aC} {bs:Heap} {en:Env} {ou:List Env} {L e:aB} {ob:Obj} {vs:Array aA} {a0:aA} {Q:Unit->aC->Prop}
theorem Q9d {head:aA} {nx:Bool} (fr:A.frames=some (en :: ou)) (ff:s.heap.FunFrames bs (en :: ou)) (ef:en.frame=some L) (oe:s.heap.get? e=some ob) (kb:bs.StaysIn s.heap) (ne:bs.get? e=none)
  (od:ob.data=.fields vs) (z1:1 < vs.size) (z0:vs[0]?=some a0)
  (h:∀ h',Heap.LeftW bs (en :: ou) e ob.cls a0 s.heap h'->(∃ o',h'.get? e=some o'/\o'.dict=ob.dict/\Q7s o'=Q7s ob)->Q () { s with heap:=h' }) :
  aF M A (do
   let a <- frameOf en
   let pl <- entryPlaceOf L nx
   let b <- EntryCells.newEntry head a .none (aS L) .none pl
   setField (.ref e) 1 b) (fun _ s'=>aF M A (setFlight (.ref e) none) Q E s') E s:=by
 have nf:e∉(en :: ou).filterMap (·.frame):=fun m=>by
  obtain ⟨_,o,q,n⟩:=ff.mem m;rw [oe] at q;cases q;exact n vs od
 refine aD (wpAny_frameOf_fun fr ff ef fun g gs=>?_);refine aD (wpAny_entryPlaceOf fun pl hp=>?_);unfold EntryCells.newEntry newFields;refine aD (ao ?_ (hp.sizeOk5 _ _ _ _ _));have ge:g.get? e=some ob:=(gs.2.1 e nf).trans oe;have gb:bs.StaysIn g:=fun b o q=>(gs.2.1 b fun m=>by
  rw [(ff.mem m).1] at q;cases q).trans (kb b o q)
 obtain ⟨tb,etb⟩:∃ tb:List aA,[head,.ref L,.none,aS L,.none] ++ (if pl.isEmpty then List.replicate 6 Value.none else pl)=tb:=⟨_,rfl⟩;have l5:3 < tb.length/\tb[3]?=some (aS L):=by
  rw [<- etb];exact ⟨by simp,by simp⟩
 rw [etb];have ge2:=O1 (h:=g) { cls:=.type "traceback",dict:=none,data:=.fields tb.toArray } ge;refine wpAny_setField ge2 od z1 ?_;have te:g.objs.size≠e:=Nat.ne_of_gt (O8 ge);have d3:=Obj.data_mapFields od (·.setIfInBounds 1 (Value.ref g.objs.size));have ge3:=Heap.get?_update_self (Obj.mapFields (·.setIfInBounds 1 (Value.ref g.objs.size))) ge2 (Obj.isFreed_of_fields d3);have gt3:=(F6 (g.push { cls:=.type "traceback",dict:=none,data:=.fields tb.toArray })
  (Obj.mapFields (·.setIfInBounds 1 (Value.ref g.objs.size))) te.symm).trans
  (I0 g rfl)
 unfold setFlight;refine aD (ae ge3 d3 (x:=.ref g.objs.size) (by simp [z1]) ?_);rw [bS (show (Value.ref g.objs.size != Value.none)=true by simp)];refine wpAny_setField gt3 rfl (by simpa using l5.1) (h _ ?_ ?_)
 all_goals
  obtain ⟨g3,eg3⟩:∃ g3,((g.push { cls:=.type "traceback",dict:=none,data:=.fields tb.toArray }).update e (Obj.mapFields (·.setIfInBounds 1 (Value.ref g.objs.size))))=g3:=⟨_,rfl⟩;rw [eg3] at ge3 gt3 ⊢
 ·have kp:∀ b o,b≠e->g.get? b=some o->(g3.update g.objs.size (Obj.mapFields (·.setIfInBounds 3 ((none:Option aB).elim Value.none fun f=>aS f)))).get? b=some o:=fun b o n q=>by
   rw [F6 _ _ (Nat.ne_of_gt (O8 q)),<- eg3,F6 _ _ n.symm];exact O1 _ q
  have nr:∀ b o,s.heap.get? b=some o->(∀ ws,o.data≠.fields ws)->b≠e:=fun b o q n z=>by
   rw [z,oe] at q;cases q;exact n vs od
  refine ⟨fun b o q=>kp b o (fun z=>by rw [z,ne] at q; cases q) (gb b o q),ff.of_keeps fun b o q n=>?_,?_,fun b o q n=>?_⟩
  ·obtain ⟨sl,z⟩:=gs.2.2 b o q;exact ⟨_,kp b _ (nr b o q n) z,rfl⟩
  ·refine ⟨_,_,g.objs.size,_,_,?_,⟨Obj.cls_mapFields _ _,?_⟩,d3,by simp [z1],gb.fresh,te,Heap.get?_update_self _ gt3 (Obj.isFreed_of_fields (Obj.data_mapFields rfl _)),Obj.data_mapFields rfl _,?_⟩
   ·rw [F6 _ _ te];exact ge3
   ·rw [Array.getElem?_setIfInBounds_ne (by decide)];exact z0
   ·have:=l5.1;simp [this]
  ·obtain ⟨sl,z⟩:=gs.2.2 b o q;exact ⟨sl,kp b _ (nr b o q n) z⟩
 ·refine ⟨_,(F6 _ _ te).trans ge3,?_,Qey od⟩;cases ob with
  | mk c d dt sl=>cases dt <;> first | rfl | cases od
theorem Q7f {cls:aA} {dv:Option aB} (fr:A.frames=some (en :: ou)) (ef:en.frame=some L) (fl:Heap.FlyingW bs (en :: ou) e cls a0 s.heap) (dd:∃ o',s.heap.get? e=some o'/\o'.dict=dv/\Q7s o'=some .none)
  (h:∀ h',Heap.FlyingW bs ou e cls a0 h'->(∃ o',h'.get? e=some o'/\o'.dict=dv/\Q7s o'=some .none)->s.heap.UpToSlots h'->Q () { s with heap:=h' }):aF M A (leaving en (.ref e)) Q E s:=by
 obtain ⟨kb,ne,ff,oe,ws,T,oT,ts,he,⟨hc,z0⟩,od,z1,nT,Te,hT,dT,z3⟩:=fl;obtain ⟨o',ho',hdv,hfl⟩:=dd;rw [he] at ho';cases ho';unfold leaving noteFrame;simp only [ef];refine aD (aD (ae he od z1 ?_));rw [bS (show (Value.ref T != Value.none)=true by simp)];refine aD (ae hT dT z3 ?_);rw [bT (show ¬ ((Value.none == aS L)=true) by simp [aS])];refine aD (wpAny_setField hT dT (Array.getElem?_eq_some_iff.mp z3).1 ?_);have ot:∀ b,b≠T->(s.heap.update T (Obj.mapFields (·.setIfInBounds 3 Value.none))).get? b=s.heap.get? b:=fun b n=>F6 _ _ n.symm
 have nr:∀ b o,s.heap.get? b=some o->(∀ ws,o.data≠.fields ws)->b≠T:=fun b o q n z=>by
  rw [z,hT] at q;cases q;exact n ts dT
 refine Q9d fr (ff.of_keeps fun b o q n=>⟨o,(ot b (nr b o q n)).trans q,rfl⟩) ef ((ot e Te.symm).trans he) (fun b o q=>(ot b fun z=>by rw [z,nT] at q; cases q).trans (kb b o q)) ne od (Array.getElem?_eq_some_iff.mp z1).1 z0 fun h' lf d'=>?_
 obtain ⟨k1,⟨_,_,k2⟩,k3,k4⟩:=lf;rw [hc] at k3;exact h h' ⟨k1,ne,k2,k3⟩ (d'.imp fun o q=>⟨q.1,q.2.1.trans hdv,q.2.2.trans hfl⟩) fun b o q n=>k4 b o ((ot b (nr b o q n)).trans q) n
end
end PySem
namespace L2
open PySem PySem.Spec PyProof.Rows
def CXD (P:aL) (w:aK):CXT:=fun outer H s E e s'=>∃ a cls a0 dv H' B,e=Value.ref a/\Fly P w outer H H' s s' a cls a0 B/\(∃ o',s'.heap.get? a=some o'/\o'.dict=dv/\Q7s o'=some .none)/\E cls dv H'
theorem X4 {P:aL} {w:aK} {X:Cx}:Q3b (CXD P w) X E0:=fun _ _ _ _ _ _ _ h=>by
 obtain ⟨_,_,_,_,_,_,_,_,_,z⟩:=h;exact z.elim
section
variable {P:aL} {w:aK} {K:PySem.W.Frag} {mg:Str->Option aA} {base:Heap} {N:List Str} {qual:Str} {scope:Scope} {f:aB} {cd:aA} {A:aM} {outer:List Env} {s:aC} {H:Hp} {E:XK}
abbrev cxD (P:aL) (w:aK) (K:PySem.W.Frag) (mg:Str->Option aA) (base:Heap) (N:List Str) (qual:Str) (scope:Scope) (f:aB) (cd:aA) (A:aM) (outer:List Env) (s:aC) (H:Hp) (E:XK):Cx:=Qc4 (CXD P w) P w K mg base N qual scope f cd A outer s H E
theorem Q9v {pins:List (aB × Obj)} {σ:St} {H1:Hp} {s1:aC} (I:Inv (cxD P w K mg base N qual scope f cd A outer s H E) pins σ H1 s1) {b:aB} {o:Obj} (e:s.heap.get? b=some o) (n:b∉frs outer):b∉frs (cxD P w K mg base N qual scope f cd A outer s H E).stack:=fun hb=>by
 rcases D3.mp (I.stkSub b hb) with z | z
 ·have h1:b < s.heap.objs.size:=O8 e;have h2:s.heap.objs.size<=(cxD P w K mg base N qual scope f cd A outer s H E).env.locals:=I.ok.above;rw [<- z] at h2;exact absurd (D1 h1 h2) (Nat.lt_irrefl _)
 ·exact n z
theorem Qex {b:aB} (h:b∈frs outer):b∈frs (cxD P w K mg base N qual scope f cd A outer s H E).stack:=by
 show b∈frs (_ :: outer);unfold frs at h ⊢;rw [List.filterMap_cons]
 split
 ·exact h
 ·exact O7 _ h
theorem Qr:Q3b (CXD P w) (cxD P w K mg base N qual scope f cd A outer s H E) E:=by
 intro pins σ H1 s1 e s' I h;obtain ⟨a,cls,a0,dv,H',B,rfl,F,dd,hE⟩:=h;show aF (aI P w) _ (leaving _ (.ref a)) _ _ _;have noex:∀ b:aB,b∉(cxD P w K mg base N qual scope f cd A outer s H E).ex:=fun b z=>absurd (show b∈([]:List aB) from z) (by simp)
 refine Q7f I.ok.frames rfl F.fl dd fun h2 x1 d2 x2=>?_
 refine ⟨a,cls,a0,dv,H',B,rfl,⟨F.os.trans I.os,F.bare,x1,F.hokB,fun b o q n hb=>?_,fun b o q hb=>?_,fun b o q hb=>?_,fun b o q n=>?_,fun b xs q=>F.tups b xs (I.base.tups b xs q),fun b o u q=>F.frzs b o u (I.base.frzs b o u q),fun b ps q=>?_⟩,d2,hE⟩
 ·exact F.keep b o (I.base.keep b o q n hb (noex b)) (I.base.free b o q n (noex b)) (Q9v I q hb)
 ·obtain ⟨o',z⟩:=I.base.there b o q (noex b);exact F.there b o' z (Q9v I q hb)
 ·obtain ⟨sl,z⟩:=I.base.slot b o q (I.ok.frf b hb) hb (noex b);obtain ⟨_,o',ho',hnf⟩:=I.ok.funs.mem hb;have ho2:s.heap.get? b=some o':=ho';rw [q] at ho2;cases ho2;obtain ⟨sl',z'⟩:=F.slot b _ z (Qex hb);obtain ⟨sl2,z2⟩:=x2 b _ z' hnf;exact ⟨sl2,z2⟩
 ·obtain ⟨o',z⟩:=I.base.there b o q (noex b);exact F.free b o' z (I.base.free b o q n (noex b))
 ·obtain ⟨m1,e1⟩:=I.base.tbls b ps q;obtain ⟨m2,e2⟩:=F.tbls b _ e1;exact ⟨m1 ++ m2,by rw [e2,Array.append_assoc]⟩
end
section
variable {X:Cx}
end
theorem Fun.okD {P:aL} {w:aK} {K:PySem.W.Frag} {mg:Str->Option aA} {base:Heap} {x qual:Str} {st:aP} {f:aB} {fd:aR} {N ps:List Str} {k:Nat} {sp:Sp} (F:Fun K x qual st f fd) (S:FnScope N ps (Qa st)) (len:∀ vs H Q E,sp vs H Q E->vs.length=ps.length)
  (hbody:∀ (cdv:aA) (A:aM) (outer:List Env) (s:aC) (H:Hp) (vs:List V) (Q:VK) (E:XK),Room k (A.deeper (envOfC qual (Qa st) s.heap.objs.size f cdv))->sp vs H Q E ->
   ∃ t,PSs (cxD P w K mg base N qual (Qa st) f cdv A outer s H E) (Qv st) t/\t { nx:=fun _ H'=>Q .non H',rt:=Q } (start N vs) H):FnOk P w K mg base (CXD P w) (k + 1) f fd ps sp:=by
 obtain ⟨oc,od,kV,doc,pm,an,cdv,ct,osl,rfl,lk,hcd⟩:=F.ex;exact Qqd lk hcd S len fun A outer s H vs Q E hr hsp=>hbody cdv A outer s H vs Q E hr hsp
end L2
namespace L2
open PySem PySem.Spec PyProof.Rows PySem.W PySem.Builtin.Getset_descriptor
section
variable {prog:aL} {w:aK} {A:aM} {E:aA->aC->Prop} {h:Heap} {g:Array GenState} {d:Drawn} {t:Nat} {os:OsState} {K:Frag} {x C dx:aB} {name:Str} {v:aA} {m:Str->Option aA}
end
section
variable {X:Cx}
end
section
variable {X:Cx} {pins:List (aB × Obj)} {σ:St} {H H':Hp} {s s':aC} {a C:aB}
end
end L2
namespace L2
open PySem PySem.Spec PyProof.Rows
section
variable {X:Cx}
end
section
variable {X:Cx}
end
section
variable {X:Cx}
end
end L2
namespace L2
open PySem PySem.Spec PyProof.Rows PySem.W PySem.Builtin.Getset_descriptor
section
variable {X:Cx} {pins:List (aB × Obj)} {σ:St} {H H':Hp} {s s':aC} {a C:aB}
end
section
variable {X:Cx}
end
end L2
namespace L2
open PySem PySem.Spec PyProof.Rows PySem.SeqAt
section
variable {prog:aL} {w:aK} {A:aM} {E:aA->aC->Prop} {s:aC}
end
section
variable {X:Cx}
end
end L2
namespace L2
open PySem PySem.Spec PyProof.Rows PySem.SeqAt
section
variable {X:Cx}
end
end L2
namespace L2
open PySem PySem.Spec PyProof.Rows
section
variable {X:Cx}
def Qdg (K:PySem.W.Frag):R2:=fun x y H Q=>∃ a b ys,x=.ref a/\y=.ref b/\SqT K H a []/\SqT K H b ys/\Q (.ref b) H
theorem Qe5:OpR X (aZ .Add) (Qdg X.K):=by
 intro pins s σ H x y v u Q I rx ry h;obtain ⟨a,b,ys,rfl,rfl,ha,hb,q⟩:=h;cases rx;cases ry;obtain ⟨its,r1,p1,_⟩:=I.tuple ha;obtain ⟨its2,r2,p2,_⟩:=I.tuple hb;have e1:its=[]:=r1.nil_iff.mpr rfl;subst e1;obtain ⟨⟨cls,dd,data,sl⟩,ho,hc,n,hd⟩:=id p1;obtain ⟨⟨cls2,dd2,data2,sl2⟩,ho2,hc2,n2,hd2⟩:=id p2;simp only at hc hd hc2 hd2;subst hc hd hc2 hd2;exact concat_meets ⟨_,ho,rfl⟩ ⟨_,ho2,rfl⟩ noFill_tuple_add seq_tuple_add PySem.F.slot_tuple_add PySem.F.entry_tuple_add (PySem.F.args_tuple_add_2 _ _)
  (tuple_addW0 a b ([]:List aA).toArray its2.toArray n n2 dd dd2 sl sl2 (by simp)) ⟨ho,ho2,⟨.ref b,H,I,rfl,q⟩⟩
abbrev Qns (K:PySem.W.Frag):R2:=fun x y H Q=>Qi9 K x y H Q\/Qdg K x y H Q
theorem Qha:OpR X (aZ .Add) (Qns X.K):=op_catT.or Qe5
end
def PTs (X:Cx) (ifs:List aH) (t:TT):Prop:=
 ∀ (pins:List (aB × Obj)) (s:aC) (σ:St) (H:Hp) (Q:Bool->Hp->Prop),Inv X pins σ H s->t σ H Q ->
  aF (aI X.prog X.w) X.A (forIn ifs true fun c r=>if r=true then do let ok <- isTrue c X.env (aN c X.env); pure (ForInStep.yield ok) else pure (ForInStep.yield r)) (TP X pins σ Q) X.xe s
def Qn7:TT:=fun _ H Q=>Q true H
theorem Qgf {X:Cx}:PTs X [] Qn7:=fun _ _ _ H _ I h=>wpAny_tests_nil ⟨H,I,h⟩
theorem Qge {X:Cx} {c:aH} {t:TT} (h:PT X c t):PTs X [c] t:=fun pins s σ H Q I q=>wpAny_tests_one (h pins s σ H Q I q)
def Q4p (J:It) (cap:List (Option Nat)) (g:TG) (tt:TT) (te:TE) (σ:St) (H1:Hp) (Q:VK):Prop:=∀ acc,H1 acc=none ->
 ∃ W:Nat->Nat->List V->St->Hp->Prop,(∃ m,W 0 m [] (xk cap σ) (upd H1 acc (.lst [])))/\∀ i m ys σ' H',W i m ys σ' H'->H' acc=some (.lst ys) /\
  ((J.stop i H'/\Q (.ref acc) H')\/(J.go i H'/\ys.length < sizeLine/\∀ x H2,J.yld i H' x H2->g x σ' H2 fun σ3 H3=>tt σ3 H3 fun b H4=>
    if b=true then te σ3 H4 fun y H5=>H5 acc=some (.lst ys)/\∃ m',m' < m/\W (i + 1) m' (ys ++ [y]) σ3 (upd H5 acc (.lst (ys ++ [y])))
    else ∃ m',m' < m/\W (i + 1) m' ys σ3 H4))
def Q52 (cap:List (Option Nat)) (wi:TI) (g:TG) (tt:TT) (te:TE):TE:=fun σ H Q=>wi σ H fun J H1=>Q4p J cap g tt te σ H1 Q
section
variable {prog:aL} {w:aK} {A:aM} {R:Result->aC->Prop} {s:aC}
theorem Q3r {elt target iter:aH} {ifs:List aH} {scope:Scope} {pos:Pos} {it acc:aA} {env:Env} (I:Nat->aC->Prop)
  (turn:∀ n s,I n s->aF (aI prog w) A (af it) (fun r s₁=>match r with
   | none=>R (.ok .next) s₁
   | some v=>aF (aI prog w) A (letOwnedTupleGo target it v) (fun _ s₁'=>aF (aI prog w) A (assign target env v) (fun _ s₂=>
     aF (aI prog w) A (forIn ifs true fun c r=>if r=true then do let ok <- isTrue c env (aN c env); pure (ForInStep.yield ok) else pure (ForInStep.yield r)) (fun ok s₃=>
      if ok=true then aF (aI prog w) A (aN elt env) (fun x s₄=>
       aF (aI prog w) A (call (.builtin "list.append") [acc,x]) (fun _ s₅=>∃ m,m < n/\I m s₅) (fun _ _=>False) s₄) (fun _ _=>False) s₃
      else ∃ m,m < n/\I m s₃) (fun _ _=>False) s₂)
     (fun _ _=>False) s₁') (fun _ _=>False) s₁) (fun _ _=>False) s)
  (n:Nat) (h:I n s):codeAny (aI prog w) A (.compLoop (.ListComp elt [⟨target,iter,ifs,0⟩] scope pos) 0 it acc env) R s:=by
 refine codeAny_loop rfl I (fun n s hI=>?_) n h;show aF _ A ((compTurn (.ListComp elt [⟨target,iter,ifs,0⟩] scope pos) 0 it acc env).onRaise (fun x=>do noteFrame x env; theTreesLotGoes x)) _ _ s;refine wpAny_noted ?_;rw [compTurn_list];refine aD (wpAny_standAt (aD (aq (turn n s hI) (fun r s₁ h₁=>?_) fun _ _ h'=>h'.elim)))
 cases r with
 | none=>exact aJ h₁
 | some v=>
  refine aD (aq h₁ (fun _ s₁' h₁'=>?_) fun _ _ h'=>h'.elim)
  refine aD (aq h₁' (fun _ s₂ h₂=>aD (aq h₂ (fun ok s₃ h₃=>?_) fun _ _ h'=>h'.elim)) fun _ _ h'=>h'.elim)
  cases ok with
  | true=>
   rw [bS rfl] at h₃;exact aD (aD (aq h₃ (fun x s₄ h₄=>aD (aq h₄ (fun _ s₅ h₅=>aJ (aJ ⟨rfl,h₅⟩)) fun _ _ h'=>h'.elim)) fun _ _ h'=>h'.elim))
  | false=>
   rw [bT D2] at h₃;exact aD (aJ (aJ ⟨rfl,h₃⟩))
end
section
variable {X:Cx}
theorem Q36 {elt tg iter:aH} {ifs:List aH} {tt:TT} {pos:Pos} {N N':List Str} {sc scE:Scope} {cap:List (Option Nat)} {wi:TI} {g:TG} {te:TE} {use:Option (aA->Sem Unit)} {QQ:aA->aC->Prop} (hcalm:X.calm=true) (hi:PI X tg iter wi)
  (hg:∀ cl C s0 H0 ex,PG (Vd X N' sc cl C s0 H0 ex) tg g) (he:∀ cl C s0 H0 ex,PE (Vd X N' sc cl C s0 H0 ex) elt te) (htt:∀ cl C s0 H0 ex,PTs (Vd X N' sc cl C s0 H0 ex) ifs tt)
  (hN:X.N=N) (hE:X.env.scope=scE) (hc:compOkC N N' sc scE cap=true) (hs:∀ x,bG iter X.env x=pure x)
  {pins:List (aB × Obj)} {s:aC} {σ:St} {H:Hp} {Q:VK} (I:Inv X pins σ H s) (h:Q52 cap wi g tt te σ H Q)
  (fin:∀ acc C H' s' m,Inv X pins σ H' s'->s'.heap.Ns C m->Q3c X pins H' C->Q (.ref acc) H'->compPost (aI X.prog X.w) X.A X.xe use QQ (.ref acc) C (.ok .next) s') {pos':Pos} :
  aF (aI X.prog X.w) X.A (comprehension (.ListComp elt [⟨tg,iter,ifs,0⟩] sc pos) sc X.env pos' (newList []) false (aN iter X.env) use) QQ X.xe s:=by
 have ck:=compOkC.of hc;obtain ⟨cl,hcl,c1,c2⟩:=Q9g (scope:=sc) (env:=X.env) fun x hx hf=>I.ok.has x.1 (by
  have:=ck.fre x hx hf;rw [<- hE] at this;exact this)
 refine wpAny_comprehension_free (use:=use) rfl hs hcl ck.kind ck.loc (thn (hi pins s σ H _ I h) fun v s1 h1=>thn h1 fun itv s2 h2=>?_)
 obtain ⟨it,fp,tn,J,H2,e,I2,T,st2,f2,hw⟩:=h2;subst e;have fsz:∀ b∈fp,b < s2.heap.objs.size:=fun b hb=>by
  obtain ⟨o,e,_⟩:=T.obj _ _ st2 b hb;exact O8 e
 obtain ⟨W,⟨m0,w0⟩,turn⟩:=hw s2.heap.objs.size I2.fresh;refine ao (Q3d ?_);dsimp only;have I3:Inv X pins σ (upd H2 s2.heap.objs.size (.lst [])) { s2 with heap:=s2.heap.push { cls:=.type "list",data:=.seq ([]:List aA).toArray } }:=
  I2.lnew (its:=[]) (ys:=[]) (t':=s2.toks) .nil (Nat.zero_le _)
 generalize hs3:({ s2 with heap:=s2.heap.push { cls:=.type "list",data:=.seq ([]:List aA).toArray } }:aC)=s3 at I3;have hh3:s3.heap=s2.heap.push { cls:=.type "list",data:=.seq ([]:List aA).toArray }:=by rw [<- hs3]
 have hsz:s3.heap.objs.size=s2.heap.objs.size + 1:=by rw [hh3,E4]
 have f3:∀ b∈fp,Q3c X pins (upd H2 s2.heap.objs.size (.lst [])) b:=fun b hb=>by
  obtain ⟨g0,g1⟩:=f2 b hb;exact ⟨by rw [Qe (D4 (fsz b hb))]; exact g0,g1⟩
 have k3:∀ b o,s2.heap.get? b=some o->s3.heap.get? b=some o:=fun b o e=>by rw [hh3]; exact O1 _ e
 obtain ⟨cl',hcl'⟩:∃ cl',ag (s3.heap.objs.size + 1) sc.names cl=cl':=⟨_,rfl⟩;obtain ⟨h₁,hh₁⟩:∃ h₁,pushCells (s3.heap.push { cls:=.type "dict",data:=.dict #[] }) sc.names=h₁:=⟨_,rfl⟩;have k1:∀ b o,s3.heap.get? b=some o->h₁.get? b=some o:=fun b o e=>by rw [<- hh₁]; exact pushCells_keeps _ _ b o (O1 _ e)
 have c1':∀ x c,cl'.lookup x=some c->cl.lookup x=some c\/s3.heap.objs.size + 1<=c:=fun x c e=>by
  rw [<- hcl'] at e;have:=U2 (sc.names) (s3.heap.push { cls:=.type "dict",data:=.dict #[] }) cl x c (by rw [E4]; exact e);rcases this with z | ⟨_,z,_⟩
  ·exact .inl z
  ·rw [E4] at z; exact .inr z
 have I4:Inv (Vd X N' sc cl' s3.heap.objs.size s3 (upd H2 s2.heap.objs.size (.lst [])) fp) [] (xk cap σ) (upd H2 s2.heap.objs.size (.lst [])) { s3 with heap:=h₁ }:=by
  rw [<- hcl',<- hh₁];exact Qfm I3 hN hE ck c1 c2 f3 (fun b hb=>D1 (fsz b hb) (by rw [hsz]; exact Nat.le_succ _))
 have st4:tn 0 h₁:=T.keep _ _ _ st2 fun b hb o e=>k1 b o (k3 b o e)
 generalize hX':Vd X N' sc cl' s3.heap.objs.size s3 (upd H2 s2.heap.objs.size (.lst [])) fp=X' at I4;have hxe:X'.xe=fun _ _=>False:=by rw [<- hX']; rfl
 have hprog:X'.prog=X.prog:=by rw [<- hX']; rfl
 have hww:X'.w=X.w:=by rw [<- hX']; rfl
 have hKK:X'.K=X.K:=by rw [<- hX']; rfl
 have hAA:X'.A=X.A:=by rw [<- hX']; rfl
 have hcc:X'.calm=true:=by rw [<- hX']; exact hcalm
 have henv:X'.env=compEnvC sc cl' s3.heap.objs.size X.env:=by rw [<- hX']; rfl
 have hloc:X'.env.locals=s3.heap.objs.size:=by rw [henv]; rfl
 have hg':PG X' tg g:=by rw [<- hX']; exact hg _ _ _ _ _
 have he':PE X' elt te:=by rw [<- hX']; exact he _ _ _ _ _
 have htt':PTs X' ifs tt:=by rw [<- hX']; exact htt _ _ _ _ _
 have stat:∀ {H':Hp},(∀ b∈fp,H' b=none)->∀ b∈fp,Q3c X' [] H' b:=fun {H'} hn b hb=>by
  obtain ⟨_,g1,g2,g3,g4,g5⟩:=f3 b hb;refine ⟨hn b hb,by rw [hloc,hsz]; exact D4 (Nat.lt_succ_of_lt (fsz b hb)),?_,?_,?_,fun p hp=>?_⟩
  ·rw [<- hX'];intro z;rcases D3.mp (I3.stkSub b z) with e | z
   ·exact g1 e
   ·exact g2 z
  ·left
   rw [<- hX'];exact hb
  ·intro x c e;rw [henv] at e;rcases c1' x c e with z | z
   ·exact g4 x c (c1 x c z)
   ·exact fun q=>absurd (D1 (fsz b hb) (E7 (E7 (Nat.le_succ _) (hsz ▸ Nat.le_succ _)) (q ▸ z))) (Nat.lt_irrefl _)
  ·rw [<- hX'] at hp;cases hp
 have fin':∀ {σ':St} {H':Hp} {s':aC},Inv X' [] σ' H' s'->Q (.ref s2.heap.objs.size) H'->compPost (aI X.prog X.w) X.A X.xe use QQ (.ref s2.heap.objs.size) s3.heap.objs.size (.ok .next) s':=fun {σ' H' s'} J q=>by
  obtain ⟨mm,hmm,_⟩:=J.loc;rw [hloc] at hmm;have hfree:H' s3.heap.objs.size=none:=by have:=J.free; rw [hloc] at this; exact this
  have hok:=J.hok;rw [hprog,hww] at hok;have u1:Un (frs X.stack) fp (upd H2 s2.heap.objs.size (.lst [])) H' s3.heap s'.heap:=by
   have:=J.base;rw [<- hX'] at this;exact this
  have hos:s'.os=s3.os:=by have:=J.os; rw [<- hX'] at this; exact this
  refine fin _ _ H' s' mm (I3.call' (s':=s') hos u1 hok J.bare fun b hb=>?_) hmm (I3.fpOk (O9 _) hfree) q
  obtain ⟨_,g1,g2,g3,g4,g5⟩:=f3 b hb;exact ⟨g3,g1,g4,g5⟩
 have loop:codeAny (aI X.prog X.w) X.A (.compLoop (.ListComp elt [⟨tg,iter,ifs,0⟩] sc pos) 0 (.ref it) (.ref s2.heap.objs.size) X'.env)
   (compPost (aI X.prog X.w) X.A X.xe use QQ (.ref s2.heap.objs.size) s3.heap.objs.size) { s3 with heap:=h₁ }:=by
  refine Q3r (fun n s'=>∃ i ys σ' H',Inv X' [] σ' H' s'/\tn i s'.heap/\(∀ b∈fp,H' b=none)/\W i n ys σ' H') ?_ m0 ⟨0,[],_,_,I4,st4,fun b hb=>(f3 b hb).1,w0⟩
  rintro n s5 ⟨i,ys,σ5,H5,I5,st5,fr5,w5⟩;obtain ⟨hacc,q⟩:=turn i n ys σ5 H5 w5;rcases q with ⟨stop,q⟩ | ⟨go,hlen,step⟩
  ·refine thn (hAA ▸ T.done X' hprog hww hKK hcc i [] s5 σ5 H5 _ I5 (stat fr5) st5 stop) fun r s6 ⟨hr,I6⟩=>?_
   subst hr;exact fin' I6 q
  ·refine thn (hAA ▸ T.item X' hprog hww hKK hcc i [] s5 σ5 H5 _ I5 (stat fr5) st5 go) fun r s6 ⟨u,hr,h6⟩=>?_
   subst hr;refine thn h6 fun _ s7 ⟨x,H7,I7,r7,y7,st7,fr7⟩=>?_
   have I7':=I7.pinned (stat fr7) (T.obj _ _ st7);have g7:=hg' _ s7 σ5 H7 x u _ I7' r7 (step x H7 y7);rw [hprog,hww,hAA,hxe] at g7;refine thn g7 fun _ s8 ⟨σ8,H8,I8,q8⟩=>?_
   have t8:=htt' _ s8 σ8 H8 _ I8 q8;rw [hprog,hww,hAA,hxe] at t8;refine thn t8 fun okb s8t ⟨H8t,I8t,q8t⟩=>?_
   cases okb with
   | false=>
    rw [bT D2] at q8t ⊢;obtain ⟨m',hm',w9⟩:=q8t;refine ⟨m',hm',i + 1,_,σ8,_,I8t.unpinned,T.keep _ _ _ st7 fun b hb o eo=>(I8t.pin (b,o) (E6 _ (E6 _ (Uc hb eo)))).1,fun b hb=>?_,w9⟩;obtain ⟨o,eo,d⟩:=T.obj _ _ st7 b hb;exact (I8t.pin (b,o) (E6 _ (E6 _ (Uc hb eo)))).2.1
   | true=>
   rw [bS rfl] at q8t ⊢;have g8:=he' _ s8t σ8 H8t _ I8t q8t;rw [hprog,hww,hAA,hxe] at g8;refine thn g8 fun y s9 ⟨yv,H9,I9,r9,a9,m',hm',w9⟩=>?_
   obtain ⟨z,its,nn,rr,hl,e⟩:=I9.lstM a9;refine bB F.slot_list_append ⟨_,e,rfl⟩ F.entry_list_append (F.args_list_append_2 _ _) (PySem.list_append _ its.toArray nn y (by rw [O4]; omega)) ⟨e,?_⟩;have I10:Inv X' ([] ++ Q2c fp s7.heap) σ8 (upd H9 s2.heap.objs.size (.lst (ys ++ [yv]))) { s9 with heap:=s9.heap.update s2.heap.objs.size (Obj.mapSeq fun a=>a.push y) }:=
    I9.lset (t':=s9.toks) (its':=its ++ [y]) a9 e (by simp) (rr.append (.cons r9 .nil)) (by rw [D0,List.length_singleton]; omega)
   refine ⟨m',hm',i + 1,_,σ8,_,I10.unpinned,T.keep _ _ _ st7 fun b hb o eo=>(I10.pin (b,o) (E6 _ (E6 _ (Uc hb eo)))).1,fun b hb=>?_,w9⟩;obtain ⟨o,eo,d⟩:=T.obj _ _ st7 b hb;exact (I10.pin (b,o) (E6 _ (E6 _ (Uc hb eo)))).2.1
 rw [henv] at loop;have goal:=codeAny_compStart_list (rest:=[]) (ifs:=ifs) loop (T.self X.A 0 _ _ _ st4 loop);subst hs3;rw [<- hcl',<- hh₁] at goal;exact goal
theorem Qdy {elt tg iter:aH} {ifs:List aH} {tt:TT} {pos:Pos} {N N':List Str} {sc scE:Scope} {cap:List (Option Nat)} {wi:TI} {g:TG} {te:TE} (hcalm:X.calm=true) (hi:PI X tg iter wi)
  (hg:∀ cl C s0 H0 ex,PG (Vd X N' sc cl C s0 H0 ex) tg g) (he:∀ cl C s0 H0 ex,PE (Vd X N' sc cl C s0 H0 ex) elt te) (htt:∀ cl C s0 H0 ex,PTs (Vd X N' sc cl C s0 H0 ex) ifs tt)
  (hN:X.N=N:=by rfl) (hE:X.env.scope=scE:=by rfl) (hc:compOkC N N' sc scE cap=true:=by decide +kernel) (hs:∀ x,bG iter X.env x=pure x:=by intro _; rfl) :
  PE X (.ListComp elt [⟨tg,iter,ifs,0⟩] sc pos) (Q52 cap wi g tt te):=by
 intro pins s σ H Q I h;rw [eval_ListComp];refine Q36 (use:=none) hcalm hi hg he htt hN hE hc hs I h fun acc C H' s' m I' hm hf q=>⟨m,hm,fun h' hs'=>?_⟩
 obtain ⟨f0,f1,f2,f3,f4,f5⟩:=hf;exact ⟨.ref acc,H',I'.turned (t':=s'.toks) (fun b o hb e=>(hs'.2 b hb).trans e) f0 f1 f3 f4 f5,rfl,q⟩
theorem Qdk {ifs:List aH} {tt:TT} {i:Nat} {x:Str} {px spos:Pos} {elt tg iter:aH} {pos:Pos} {N N':List Str} {sc scE:Scope} {cap:List (Option Nat)} {wi:TI} {g:TG} {te:TE} (hnd:X.N.Nodup) (hix:X.N[i]?=some x) (hx:Loc X.env.scope x) (hcalm:X.calm=true) (hi:PI X tg iter wi)
  (hg:∀ cl C s0 H0 ex,PG (Vd X N' sc cl C s0 H0 ex) tg g) (he:∀ cl C s0 H0 ex,PE (Vd X N' sc cl C s0 H0 ex) elt te) (htt:∀ cl C s0 H0 ex,PTs (Vd X N' sc cl C s0 H0 ex) ifs tt)
  (hsw:swapsWith (.ListComp elt [⟨tg,iter,ifs,0⟩] sc pos) (some (.Name x px)) spos.line X.env=pure true:=by rfl)
  (hN:X.N=N:=by rfl) (hE:X.env.scope=scE:=by rfl) (hc:compOkC N N' sc scE cap=true:=by decide +kernel) (hs:∀ x,bG iter X.env x=pure x:=by intro _; rfl)
  (hf:X.fn x=true\/X.env.scope.names.lookup x=some .local:=by first | exact .inl rfl | exact .inr rfl | assumption) :
  PS X (.Assign [.Name x px] (.ListComp elt [⟨tg,iter,ifs,0⟩] sc pos) spos) (Qir (Q52 cap wi g tt te) (Q7p i)):=by
 intro pins s σ H D I h;rw [exec_Assign_Name_used _ _ _ _ hsw];refine aD (wpAny_standAt (aD ?_));show aF _ _ (do let _ <- comprehension (.ListComp elt [⟨tg,iter,ifs,0⟩] sc pos) sc X.env _ (newList []) false (aN iter X.env) (some (assign (.Name x px) X.env))) _ _ s;refine aD (aq (Q36 (use:=some (assign (.Name x px) X.env)) (QQ:=fun _ s'=>SP X pins D .next s') hcalm hi hg he htt hN hE hc hs I h ?_) (fun _ s' hq=>aJ (aJ hq)) fun _ _ e=>e)
 intro acc C H' s' m I' hm hfp q;obtain ⟨f0,f1,f2,f3,f4,f5⟩:=hfp;show aF _ _ (assign (.Name x px) X.env (.ref acc)) _ _ _;refine wpAny_assign_Name (Q3t I' hnd hix hx (v:=.ref acc) rfl (fun s2 I2 ⟨a,sb,ha⟩=>⟨m,?_,fun h' hs'=>?_⟩) hf)
 ·refine hm.sameBut sb fun z=>?_
  rcases ha with ha | ha
  ·exact f1 (z.trans ha)
  ·exact f4 x a ha z.symm
 ·exact ⟨_,H',I2.turned (t':=s2.toks) (fun b o hb e=>(hs'.2 b hb).trans e) f0 f1 f3 f4 f5,q⟩
end
theorem Q7r {α β:Type} {f g:α->Option β}:∀ {l:List α},(∀ x∈l,f x=g x)->l.filterMap f=l.filterMap g
 | [],_=>rfl
 | x :: l,h=>by
  rw [List.filterMap_cons,List.filterMap_cons,h x D9,Q7r fun y hy=>h y (O7 _ hy)]
theorem Q44 (its:List aA):∀ k,k<=its.length->((List.range k).filterMap fun (m:Nat)=>its[its.length - 1 - m]?)=(its.reverse.take k)
 | 0,_=>by simp
 | k + 1,h=>by
  have ih:=Q44 its k (by omega);rw [List.range_succ,List.filterMap_append,ih];have e:its[its.length - 1 - k]?=some its[its.length - 1 - k]:=O2 (by omega);rw [List.take_add_one];congr 1;rw [List.getElem?_reverse (by omega),e];simp [e]
theorem Q3g (its:List aA):slicePick its.toArray none none (some (-1))=its.reverse.toArray:=by
 unfold slicePick;have hb:(bF none none (some (-1)) its.toArray.size)=((its.length:Int) - 1,-1,-1):=by
  rw [O4];rfl
 rw [hb];unfold sliceRange;have hc:(if (-1:Int) > 0 then (if (its.length:Int) - 1 < -1 then ((-1:Int) - ((its.length:Int) - 1) + -1 - 1) / -1 else 0) else (if (its.length:Int) - 1 > -1 then ((its.length:Int) - 1 - -1 - -1 - 1) / (- -1) else 0)).toNat=its.length:=by
  rw [bT (by omega)]
  split
  ·rw [show (- -1:Int)=1 from rfl,Int.ediv_one]; omega
  ·omega
 simp only [hc];congr 1;rw [List.filterMap_map];have e:((fun x=>its.toArray[x]?) ∘ fun (k:Nat)=>((its.length:Int) - 1 + -1 * (k:Int)).toNat)=fun (m:Nat)=>its[(((its.length:Int) - 1 + -1 * (m:Int)).toNat)]?:=by
  funext m;simp
 rw [e];have:=Q44 its its.length (O9 _);rw [show its.reverse.take its.length=its.reverse from List.take_of_length_le (by simp)] at this;rw [<- this];refine Q7r fun m hm=>?_
 have hm':=List.mem_range.mp hm;congr 1;omega
section
variable {X:Cx} {e e3:aH} {te t3:TE} {pos p2:Pos}
def Qrv (K:PySem.W.Frag) (te t3:TE):TE:=fun σ H Q=>te σ H fun x H1=>t3 σ H1 fun y H2=>y=.int (-1)/\∃ a xs,x=.ref a/\SqL K H2 a xs/\∀ p,H2 p=none->Q (.ref p) (upd H2 p (.lst xs.reverse))
theorem Qje (he:PE X e te) (h3:PE X e3 t3):PE X (.Subscript e (.Slice none none (some e3) p2) pos) (Qrv X.K te t3):=by
 intro pins s σ H Q I h;refine Subscript_ (thn (he pins s σ H _ I h) fun v s1 ⟨x,H1,I1,r1,q1⟩=>?_)
 refine wpAny_Slice ?_;rw [evalPart_none];refine aJ (aJ ?_);rw [evalPart_some];refine thn (h3 pins s1 σ H1 _ I1 q1) fun vs s2 ⟨y,H2,I2,r2,q2⟩=>?_
 obtain ⟨rfl,a,xs,rfl,hx,q⟩:=q2;obtain ⟨t,rfl⟩:=r2;cases r1;have I4:Inv X pins σ H2 { s2 with heap:=s2.heap.push { cls:=.type "slice",data:=.fields #[.none,.none,.int (-1) t] } }:=I2.kept (t':=s2.toks) fun b ob q=>O1 _ q
 have hs:({ s2 with heap:=s2.heap.push { cls:=.type "slice",data:=.fields #[.none,.none,.int (-1) t] } }:aC).heap.IsSliceOf s2.heap.objs.size .none .none (.int (-1) t):=Heap.IsSliceOf.new ..;obtain ⟨its,r,ht,hz⟩:=I4.list hx;have hlen:=r.length;show aF (aI X.prog X.w) X.A (subscriptTail e (.Slice none none (some e3) p2) (.ref a) (.ref s2.heap.objs.size)) (EP X pins σ Q) X.xe { s2 with heap:=s2.heap.push { cls:=.type "slice",data:=.fields #[.none,.none,.int (-1) t] } };refine tail_any (ops:=[.ref a,.ref s2.heap.objs.size]) ht.isList.typeIs slot_list_getitem.lookup ?_ (by with_unfolding_all rfl);refine wpAny_getItem_list_slice ht.isList hs .none .none (.int (-1) t) (by simp) ?_ (by rw [O4] <;> omega);rw [Q3g];refine ⟨.ref _,_,I4.laid (t':=s2.toks) (o:=.lst xs.reverse) (fun b ob q=>O1 _ q) (O9 _) ?_,rfl,q _ (I4.hok.fresh (O9 _))⟩;exact ⟨by rw [List.length_reverse]; exact hz,_,0,r.reverse,I0 _ rfl⟩
end
section
variable {X:Cx} {a:aH} {ta:TA} {p p' pos pos':Pos}
end
section
variable {X:Cx}
end
section
variable {κ:Type} [DecidableEq κ]
def Kp (kvs:List (κ × V)) (k:κ):Option V:=(kvs.find? fun kv=>decide (kv.1=k)).map (·.2)
def Kb (kvs:List (κ × V)) (k:κ) (v:V):List (κ × V):=
 if (kvs.any fun kv=>decide (kv.1=k))=true then kvs.map (fun kv=>if kv.1=k then (kv.1,v) else kv) else kvs ++ [(k,v)]
theorem Q1p {p:κ × V} {r:List (κ × V)} {k:κ} (e:p.1=k):Kp (p :: r) k=some p.2:=by simp [Kp,F1,e]
theorem Q1q {p:κ × V} {r:List (κ × V)} {k:κ} (e:¬ p.1=k):Kp (p :: r) k=Kp r k:=by simp [Kp,F1,e]
theorem Q69 (k:κ):∀ kvs:List (κ × V),(kvs.any fun kv=>decide (kv.1=k))=(Kp kvs k).isSome
 | []=>rfl
 | p :: r=>by
  rw [List.any_cons]
  by_cases e:p.1=k
  ·simp only [Q1p e,bV e,Bool.true_or,Option.isSome_some]
  ·rw [Q1q e,bU e,Bool.false_or]; exact Q69 k r
theorem jb (kvs:List (κ × V)) (k:κ) (v:V):(Kb kvs k v).length<=kvs.length + 1:=by
 unfold Kb
 split
 ·rw [O3]; omega
 ·rw [D0,E1,G7]; omega
theorem RelO.isSome_eq {o:Option V} {u:Option aA} (r:RelO o u):o.isSome=u.isSome:=by
 cases o with
 | none=>cases u with
  | none=>rfl
  | some _=>exact (show False from r).elim
 | some _=>cases u with
  | none=>exact (show False from r).elim
  | some _=>rfl
theorem KV.val {kvs:List (κ × V)} {vs:List (κ × aA)} (r:KV kvs vs) (k:κ):RelO (Kp kvs k) (aX vs k):=by
 unfold KV at r
 induction r with
 | nil=>exact True.intro
 | @cons p q ps qs h t ih=>
  obtain ⟨h1,h2⟩:=h
  by_cases e:p.1=k
  ·have e':q.1=k:=h1.symm.trans e;have b:aX (q :: qs) k=some q.2:=by simp [aX,F1,e']
   rw [Q1p e,b]; exact h2
  ·have e':¬ q.1=k:=fun z=>e (h1.trans z)
   have b:aX (q :: qs) k=aX qs k:=by simp [aX,F1,e']
   rw [Q1q e,b]; exact ih
theorem KV.any {kvs:List (κ × V)} {vs:List (κ × aA)} (r:KV kvs vs) (k:κ):(kvs.any fun kv=>decide (kv.1=k))=vs.any fun kv=>decide (kv.1=k):=by
 unfold KV at r
 induction r with
 | nil=>rfl
 | cons h t ih=>rw [List.any_cons,List.any_cons,ih,h.1]
theorem KV.repl {kvs:List (κ × V)} {vs:List (κ × aA)} (r:KV kvs vs) (k:κ) {y:V} {u:aA} (ry:RelV y u) :
  KV (kvs.map fun kv=>if kv.1=k then (kv.1,y) else kv) (vs.map fun kv=>if kv.1=k then (kv.1,u) else kv):=by
 unfold KV at r ⊢
 induction r with
 | nil=>exact .nil
 | @cons p q ps qs h t ih=>
  rw [O6,O6];refine .cons ?_ ih;obtain ⟨h1,h2⟩:=h
  by_cases e:p.1=k
  ·rw [bS e,bS (h1.symm.trans e)]; exact ⟨h1,ry⟩
  ·rw [bT e,bT (fun z=>e (h1.trans z))]; exact ⟨h1,h2⟩
theorem KV.put {kvs:List (κ × V)} {vs:List (κ × aA)} (r:KV kvs vs) (k:κ) {y:V} {u:aA} (ry:RelV y u):KV (Kb kvs k y) (stored vs k u):=by
 unfold Kb stored;rw [r.any k]
 by_cases e:(vs.any fun kv=>decide (kv.1=k))=true
 ·rw [bS e,bS e]; exact r.repl k ry
 ·rw [bT e,bT e]; exact Paired.snoc r ⟨rfl,ry⟩
theorem KV.length {kvs:List (κ × V)} {vs:List (κ × aA)} (r:KV kvs vs):kvs.length=vs.length:=Paired.length r
end
theorem Q2v {P:aL} {w:aK} {k:Key} {u:aA} (r:RelV (kV k) u):(Z4 P w).is k u=true:=by
 cases k with
 | inl i=>obtain ⟨t,e⟩:=(show ∃ t,u=Value.int i t from r); subst e; exact Q77 P w i t
 | inr x=>obtain ⟨t,e⟩:=(show ∃ t,u=Value.str x t from r); subst e; exact Q76 P w x t
theorem Q4d {P:aL} {w:aK}:∀ {ks:List Key} {us:List aA},Vals (ks.map kV) us->ItemsAre (Z4 P w) ks us
 | [],_,r=>by rw [List.map_nil] at r; cases r; exact .nil
 | k :: ks,_,r=>by
  rw [O6] at r;cases r with
  | cons h t=>exact .cons (Q2v h) (Q4d t)
abbrev KT (H:Hp):List (List Key × V)->List (List Key × aB × aA)->Prop:=aa fun p q=>p.1=q.1/\H q.2.1=some (.tup (p.1.map kV))/\RelV p.2 q.2.2
theorem KT.val {H:Hp} {kvs:List (List Key × V)} {xs:List (List Key × aB × aA)} (r:KT H kvs xs) (k:List Key):RelO (Kp kvs k) ((atKey xs k).map (·.2)):=by
 induction r with
 | nil=>exact True.intro
 | @cons p q ps qs h t ih=>
  obtain ⟨h1,_,h2⟩:=h
  by_cases e:p.1=k
  ·have e':q.1=k:=h1.symm.trans e;have b:atKey (q :: qs) k=some q.2:=by simp [atKey,F1,e']
   rw [Q1p e,b]; exact h2
  ·have e':¬ q.1=k:=fun z=>e (h1.trans z)
   have b:atKey (q :: qs) k=atKey qs k:=by simp [atKey,F1,e']
   rw [Q1q e,b]; exact ih
theorem KT.repl {H:Hp} {kvs:List (List Key × V)} {xs:List (List Key × aB × aA)} (r:KT H kvs xs) (k:List Key) {y:V} {u:aA} (ry:RelV y u) :
  KT H (kvs.map fun kv=>if kv.1=k then (kv.1,y) else kv) (xs.map (putAt k u)):=by
 induction r with
 | nil=>exact .nil
 | @cons p q ps qs h t ih=>
  rw [O6,O6];refine .cons ?_ ih;obtain ⟨h1,h2,h3⟩:=h;unfold putAt
  by_cases e:p.1=k
  ·rw [bS e,bS (h1.symm.trans e)]; exact ⟨h1,h2,ry⟩
  ·rw [bT e,bT (fun z=>e (h1.trans z))]; exact ⟨h1,h2,h3⟩
theorem KT.put {H:Hp} {kvs:List (List Key × V)} {xs:List (List Key × aB × aA)} (r:KT H kvs xs) (k:List Key) {b:aB} {y:V} {u:aA} (hb:H b=some (.tup (k.map kV))) (ry:RelV y u) :
  KT H (Kb kvs k y) (storedH xs k b u):=by
 have e:(kvs.any fun kv=>decide (kv.1=k))=(atKey xs k).isSome:=by
  rw [Q69,(r.val k).isSome_eq,Option.isSome_map]
 unfold Kb storedH;rw [e]
 by_cases q:(atKey xs k).isSome=true
 ·rw [bS q,bS q]; exact r.repl k ry
 ·rw [bT q,bT q]; exact Paired.snoc r ⟨rfl,hb,ry⟩
theorem KT.keeps {H H':Hp} {kvs:List (List Key × V)} {xs:List (List Key × aB × aA)} (r:KT H kvs xs) (ht:∀ b ys,H b=some (.tup ys)->H' b=some (.tup ys)):KT H' kvs xs:=
 Paired.mapP r fun _ _ z=>⟨z.1,ht _ _ z.2.1,z.2.2⟩
section
variable {P:aL} {w:aK} {H:Hp} {h:Heap} {a:aB}
theorem Qi8 {u:HO} (ok:HOk P w H h) (e:Rd H a u):ObjOk P w H h a u:=e.ok ok
theorem Q34 {kvs:List (Key × V)} (ok:HOk P w H h) (e:Rd H a (.dK kvs)):kvs.length<=sizeLine/\(a == ah)=false/\∃ vs,KV kvs vs/\h.DictOf (Z4 P w) a vs:=
 show ObjOk P w H h a (.dK kvs) from Qi8 ok e
theorem Qih {kvs:List (Key × V)} (ok:HOk P w H h) (e:H a=some (.dK kvs)):kvs.length<=sizeLine/\(a == ah)=false/\∃ vs,KV kvs vs/\h.DictOf (Z4 P w) a vs:=Q34 ok (.inl e)
theorem Q2u {ks:List Key} (ok:HOk P w H h) (e:H a=some (.tup (ks.map kV))):(tupleKind (Z4 P w)).is h ks a:=by
 obtain ⟨_,its,r,o,h1,h2,n,h3⟩:=(show ObjOk P w H h a (.tup (ks.map kV)) from ok a _ e);exact ⟨o,its.toArray,n,h1,h2,h3,by simpa using Q4d r⟩
theorem Q7w {kvs:List (List Key × V)} (ok:HOk P w H h) (e:Rd H a (.dT kvs)):kvs.length<=sizeLine/\(a == ah)=false /\
  ∃ xs,KT H kvs xs/\h.DictOfH (tupleKind (Z4 P w)) a xs:=by
 obtain ⟨z,y,xs,r,o,es,ep,h1,h2,h3,h4,h5⟩:=(show ObjOk P w H h a (.dT kvs) from Qi8 ok e);refine ⟨z,y,xs,r,o,es,ep,h1,h2,h3,h4,fun x hx=>?_,h5⟩;have all:∀ {l:List (List Key × V)} {m:List (List Key × aB × aA)},KT H l m->∀ x∈m,(tupleKind (Z4 P w)).is h x.1 x.2.1:=by
  intro l m q
  induction q with
  | nil=>intro x hx; exact nomatch hx
  | @cons p q ps qs hq t ih=>
   intro x hx;rcases D3.mp hx with e | hx
   ·subst e;exact Q2u ok (by rw [<- hq.1]; exact hq.2.1)
   ·exact ih x hx
 exact all r x hx
theorem Qqe {kvs:List (List Key × V)} (ok:HOk P w H h) (e:H a=some (.dT kvs)):kvs.length<=sizeLine/\(a == ah)=false /\
  ∃ xs,KT H kvs xs/\h.DictOfH (tupleKind (Z4 P w)) a xs:=Q7w ok (.inl e)
end
def DGet (H:Hp) (a:aB) (y:V) (r:Option V):Prop:=
 (∃ kvs k,Rd H a (.dK kvs)/\y=kV k/\r=Kp kvs k)\/∃ kvs k b,Rd H a (.dT kvs)/\y=.ref b/\H b=some (.tup (k.map kV))/\r=Kp kvs k
def DPut (H:Hp) (a:aB) (y v:V) (H':Hp):Prop:=
 (∃ kvs k,H a=some (.dK kvs)/\y=kV k/\kvs.length < sizeLine/\H'=upd H a (.dK (Kb kvs k v))) \/
 ∃ kvs k b,H a=some (.dT kvs)/\y=.ref b/\H b=some (.tup (k.map kV))/\kvs.length < sizeLine/\H'=upd H a (.dT (Kb kvs k v))
theorem DPut.k {H:Hp} {a:aB} {kvs:List (Key × V)} {k:Key} {v:V} (e:H a=some (.dK kvs)) (hl:kvs.length < sizeLine):DPut H a (kV k) v (upd H a (.dK (Kb kvs k v))):=.inl ⟨kvs,k,e,rfl,hl,rfl⟩
section
variable {X:Cx} {pins:List (aB × Obj)} {σ:St} {H:Hp} {s:aC} {a:aB} {y v:V} {u r:aA} {o:Option V} {A:aM} {E:aA->aC->Prop}
theorem Inv.big (I:Inv X pins σ H s):ah < s.heap.objs.size:=by
 have h:aQ < s.heap.objs.size:=(I.mod.glob.keeps I.bk).lt;exact Nat.lt_trans (by decide) h
theorem Qc3 {Q:aA->aC->Prop} (hu:A.units + 1 < aW) (I:Inv X pins σ H s) (g:DGet H a y (some v)) (ry:RelV y u) (h:∀ w' s',Inv X pins σ H s'->RelV v w'->Q w' s') :
  aF (aI X.prog X.w) A (getItem (.ref a) u) Q E s:=by
 rcases g with ⟨kvs,k,e,ey,l⟩ | ⟨kvs,k,b,e,ey,eb,l⟩
 ·subst ey;obtain ⟨z,hd,vs,rel,dd⟩:=Q34 I.hok e;obtain ⟨w',hw,rw'⟩:=RelO.some_of (v:=v) (o:=aX vs k) (by rw [l]; exact rel.val k);exact wpAny_getItem_of (Q2v ry) dd.mapOf hw (h w' _ (I.tok _) rw')
 ·subst ey;cases (show u=Value.ref b from ry);obtain ⟨z,hd,xs,rel,dd⟩:=Q7w I.hok e;obtain ⟨w',hw,rw'⟩:=RelO.some_of (v:=v) (o:=(atKey xs k).map (·.2)) (by rw [l]; exact rel.val k);obtain ⟨p,hp,hp2⟩:=Option.map_eq_some_iff.mp hw;refine wpAny_getItem_heap (bQ hu) (Q2u I.hok eb) dd hp ?_;rw [hp2];exact h w' _ (I.tok _) rw'
theorem Qsq {Q:aA->aC->Prop} (hu:A.units + 1 < aW) (I:Inv X pins σ H s) (g:DGet H a y o) (ry:RelV y u) (h:∀ s',Inv X pins σ H s'->Q (.bool o.isSome) s') :
  aF (aI X.prog X.w) A (aU .In u (.ref a)) Q E s:=by
 rcases g with ⟨kvs,k,e,ey,l⟩ | ⟨kvs,k,b,e,ey,eb,l⟩
 ·subst ey;obtain ⟨z,hd,vs,rel,dd⟩:=Q34 I.hok e;refine wpAny_in_of (Q2v ry) hd dd.mapOf ?_;rw [<- (rel.val k).isSome_eq,<- l];exact h _ (I.tok _)
 ·subst ey;cases (show u=Value.ref b from ry);obtain ⟨z,hd,xs,rel,dd⟩:=Q7w I.hok e;refine wpAny_in_heap (bQ hu) (Q2u I.hok eb) hd dd ?_;have q:=(rel.val k).isSome_eq;rw [Option.isSome_map] at q;rw [<- q,<- l];exact h _ (I.tok _)
theorem Qhx {Q:aA->aC->Prop} (hu:A.units + 1 < aW) (I:Inv X pins σ H s) (g:DGet H a y o) (ry:RelV y u) (h:∀ s',Inv X pins σ H s'->Q (.bool (!o.isSome)) s') :
  aF (aI X.prog X.w) A (aU .NotIn u (.ref a)) Q E s:=by
 rcases g with ⟨kvs,k,e,ey,l⟩ | ⟨kvs,k,b,e,ey,eb,l⟩
 ·subst ey;obtain ⟨z,hd,vs,rel,dd⟩:=Q34 I.hok e;refine wpAny_notIn_of (Q2v ry) hd dd.mapOf ?_;rw [<- (rel.val k).isSome_eq,<- l];exact h _ (I.tok _)
 ·subst ey;cases (show u=Value.ref b from ry);obtain ⟨z,hd,xs,rel,dd⟩:=Q7w I.hok e;refine wpAny_notIn_heap (bQ hu) (Q2u I.hok eb) hd dd ?_;have q:=(rel.val k).isSome_eq;rw [Option.isSome_map] at q;rw [<- q,<- l];exact h _ (I.tok _)
theorem Q5y {h':Heap} {t':Nat} {ob:HO} (I:Inv X pins σ H s) (mu:Mut (H a)) (hs:Heap.SameBut a s.heap h') (he:∃ q,h'.get? a=some q) (new:ObjOk X.prog X.w (upd H a ob) h' a ob) :
  Inv X pins σ (upd H a ob) { s with heap:=h',toks:=t' }:=
 I.write (x:=a) (e:=a) mu (.inl rfl) (fun b q hb z=>(hs.2 b hb).trans z) he new
theorem Q9e {P:aL} {w:aK} {H':Hp} {h':Heap} {kvs:List (Key × V)} {vs:List (Key × aA)} (z:kvs.length<=sizeLine) (hd:(a == ah)=false) (rel:KV kvs vs) (dd:h'.DictOf (Z4 P w) a vs) :
  ObjOk P w H' h' a (.dK kvs):=⟨z,hd,vs,rel,dd⟩
theorem Qc2 {H':Hp} {Q:Unit->aC->Prop} (hu:A.units + 1 < aW) (I:Inv X pins σ H s) (g:DPut H a y v H') (ry:RelV y u) (rv:RelV v r) (h:∀ s',Inv X pins σ H' s'->Q () s') :
  aF (aI X.prog X.w) A (setItem (.ref a) u r) Q E s:=by
 rcases g with ⟨kvs,k,e,ey,l,eH⟩ | ⟨kvs,k,b,e,ey,eb,l,eH⟩
 ·subst ey eH;obtain ⟨z,hd,vs,rel,dd⟩:=Qih I.hok e;have hz:vs.length<=sizeLine:=by rw [<- rel.length]; exact z
  have hl:(Kb kvs k v).length<=sizeLine:=by have:=jb kvs k v; omega
  refine wpAny_setItem_pairs (hsz:=hz) (Q2v ry) dd fun h' dd' hs=>h _ ?_
  have he:∃ q,h'.get? a=some q:=let ⟨q,_,_,hq,_⟩:=dd'; ⟨q,hq⟩;exact Q5y I (by rw [e]; exact True.intro) hs he (Q9e hl hd (rel.put k rv) dd')
 ·subst ey eH;cases (show u=Value.ref b from ry);obtain ⟨z,hd,xs,rel,dd⟩:=Qqe I.hok e;have hz:xs.length<=sizeLine:=by rw [<- Paired.length rel]; exact z
  have hl:(Kb kvs k v).length<=sizeLine:=by have:=jb kvs k v; omega
  refine wpAny_setItem_heap (hsz:=hz) (bQ hu) (Q2u I.hok eb) dd fun h' dd' hs=>h _ ?_
  obtain ⟨q,es,ep,hq,h2,h3,h4,_,h5⟩:=dd';refine Q5y I (by rw [e]; exact True.intro) hs ⟨q,hq⟩ ⟨hl,hd,_,(rel.put k eb rv).keeps fun c ys ec=>?_,q,es,ep,hq,h2,h3,h4,h5⟩;rw [Qe (Qpj ec e (fun z=>nomatch z))];exact ec
end
section
variable {X:Cx} {pins:List (aB × Obj)} {σ:St} {H:Hp} {s:aC} {a:aB} {kvs:List (Key × V)} {k:Key} {u:aA} {A:aM} {E:aA->aC->Prop}
end
def Qmg (i:aH):Prop:=∀ ov iv,subscripted i false ov iv=operate [ov,iv] (getItem ov iv)
theorem Qfy {prog:aL} {w:aK} {A:aM} {E:aA->aC->Prop} {s:aC} {env:Env} {value slice:aH} {pos:Pos} {T id:String} {Q:aA->aC->Prop}
  (hl:typeLookup (.type T) "__getitem__" = pure (some (.builtin id))) (hs:Qmg slice)
  (h:aF (aI prog w) A (aN value env) (fun o s₁=>aF (aI prog w) A (aN slice env) (fun i s₂=>s₂.TypeIs o T/\aF (aI prog w) A (getItem o i) Q E s₂) E s₁) E s) :
  aF (aI prog w) A (aN (.Subscript value slice pos) env) Q E s:=by
 refine Subscript_ (aq h (fun o s₁ h₁=>aq h₁ (fun i s₂ h₂=>?_) fun _ _ x=>x) fun _ _ x=>x)
 obtain ⟨hT,h₂⟩:=h₂;unfold subscriptTail;refine aD ?_;rw [getitemInPython_of_ne hT.not_modules];refine aD (wpAny_specialOf hT hl ?_);have fin:aF (aI prog w) A (subscripted slice false o i) (fun r s₃=>aF (aI prog w) A (letTemporaryGo value o r >>= fun _=>pure r) Q E s₃) E s₂:=by
  rw [hs o i];exact wpAny_operating (aq h₂ (fun r s₃ h₃=>aD (wpAny_letTemporaryGo (aJ h₃))) fun _ _ x=>x)
 first
  | exact aJ (aD fin)
  | exact aD (aJ (aD fin))
  | exact aD fin
theorem Q7y {X:Cx} {pins:List (aB × Obj)} {σ:St} {H:Hp} {s:aC} {a:aB} {y:V} {o:Option V} (I:Inv X pins σ H s) (g:DGet H a y o):s.TypeIs (.ref a) "dict" := by
 rcases g with ⟨kvs,k,e,_,_⟩ | ⟨kvs,k,b,e,_,_,_⟩
 ·obtain ⟨_,_,vs,_,dd⟩:=Q34 I.hok e;exact dd.typeIs
 ·obtain ⟨_,_,xs,_,dd⟩:=Q7w I.hok e;exact dd.typeIs
def Qnd (td ty:TE):TE:=fun σ H Q=>td σ H fun x H1=>ty σ H1 fun y H2=>∃ a v,x=.ref a/\DGet H2 a y (some v)/\Q v H2
def Qnk (td ty tv:TE):TS:=fun D σ H=>tv σ H fun v H1=>td σ H1 fun x H2=>ty σ H2 fun y H3=>∃ a H4,x=.ref a/\DPut H3 a y v H4/\D.nx σ H4
section
variable {X:Cx} {o i e value:aH} {pos pos' tpos:Pos} {td ty tv:TE}
theorem Qgz (hu:X.A.units + 1 < aW) (ho:PE X o td) (hi:PE X i ty) (hs:Qmg i):PE X (.Subscript o i pos) (Qnd td ty):=by
 intro pins s σ H Q I h;refine Qfy PySem.F.slot_dict_getitem.lookup hs (thn (ho pins s σ H _ I h) fun u s1 ⟨x,H1,I1,rx,q1⟩=>thn (hi pins s1 σ H1 _ I1 q1) fun iv s2 ⟨y,H2,I2,ry,a,v,ex,g,q2⟩=>?_)
 subst ex;obtain rfl:u=Value.ref a:=rx;exact ⟨Q7y I2 g,Qc3 hu I2 g ry fun w' s3 I3 rw'=>⟨v,H2,I3,rw',q2⟩⟩
theorem Qgk (hu:X.A.units + 1 < aW) (ho:PE X o td) (hi:PE X i ty) (hv:PE X value tv) (hs:swapsWith value (some (.Subscript o i pos')) pos.line X.env=pure false) :
  PS X (.Assign [.Subscript o i pos'] value pos) (Qnk td ty tv):=by
 intro pins s σ H D I h;refine wpAny_Assign_Subscript (thn (hv pins s σ H _ I h) fun r s1 ⟨v,H1,I1,rv,q1⟩=>thn (ho pins s1 σ H1 _ I1 q1) fun u s2 ⟨x,H2,I2,rx,q2⟩=>thn (hi pins s2 σ H2 _ I2 q2) fun iv s3 ⟨y,H3,I3,ry,a,H4,ex,g,q3⟩=>?_) hs
 subst ex;obtain rfl:u=Value.ref a:=rx;exact Qc2 hu I3 g ry rv fun s4 I4=>⟨σ,H4,I4,q3⟩
end
theorem Q7x {P:aL} {w:aK} {H:Hp} (h:Heap) (hb:ah < h.objs.size):ObjOk P w H (h.push { cls:=.type "dict",data:=.dict #[] }) h.objs.size (.dK []):=
 ⟨Nat.zero_le _,beq_eq_false_iff_ne.mpr (Ne.symm (D4 hb)),[],.nil,Heap.DictOf.new h⟩
def Qip:TE:=fun _ H Q=>∀ p,H p=none->Q (.ref p) (upd H p (.dK []))
section
variable {X:Cx} {pos:Pos}
theorem Qdx:PE X (.Dict [] [] pos) Qip:=fun pins s σ H Q I h=>
 wpAny_Dict_empty ⟨.ref s.heap.objs.size,_,I.laid (a:=s.heap.objs.size) (o:=.dK []) (t':=s.toks) (fun _ _ q=>O1 _ q) (O9 _) (Q7x s.heap I.big),rfl,h _ (I.hok.fresh (O9 _))⟩
end
def Q8h:List (TE × TE)->St->Hp->(List (V × V)->Hp->Prop)->Prop
 | [],_,H,Q=>Q [] H
 | (tk,tv) :: r,σ,H,Q=>tk σ H fun x H1=>tv σ H1 fun y H2=>Q8h r σ H2 fun ps H3=>Q ((x,y) :: ps) H3
abbrev VV:List (V × V)->List (aA × aA)->Prop:=aa fun p q=>RelV p.1 q.1/\RelV p.2 q.2
def PPs (X:Cx) (pos:Pos) (keys:List (Option aH)) (values:List aH) (trs:List (TE × TE)):Prop:=
 ∀ (pins:List (aB × Obj)) (s:aC) (σ:St) (H:Hp) (Q:List (V × V)->Hp->Prop),Inv X pins σ H s->Q8h trs σ H Q ->
  aF (aI X.prog X.w) X.A (evalPairs (pairTrees keys values X.env pos)) (fun vs s'=>∃ ps H',Inv X pins σ H' s'/\VV ps vs/\Q ps H') X.xe s
theorem Qgn {X:Cx} {pos:Pos}:PPs X pos [] [] []:=fun pins s σ H Q I h=>pairTrees_nil_walk ⟨[],H,I,.nil,h⟩
theorem Qdq {X:Cx} {pos:Pos} {k v:aH} {ks:List (Option aH)} {vs:List aH} {tk tv:TE} {trs:List (TE × TE)} (hk:PE X k tk) (hv:PE X v tv) (hr:PPs X pos ks vs trs) :
  PPs X pos (some k :: ks) (v :: vs) ((tk,tv) :: trs):=fun pins s σ H Q I h=>
 pairTrees_cons_walk (thn (hk pins s σ H _ I h) fun u s1 ⟨x,H1,I1,rx,q1⟩=>thn (hv pins s1 σ H1 _ I1 q1) fun w2 s2 ⟨y,H2,I2,ry,q2⟩=>
  thn (hr pins s2 σ H2 _ I2 q2) fun ws s3 ⟨ps,H3,I3,rel,q3⟩=>⟨(x,y) :: ps,H3,I3,.cons ⟨rx,ry⟩ rel,q3⟩)
def Ub (kvs more:List (Key × V)):List (Key × V):=more.foldl (fun acc kv=>Kb acc kv.1 kv.2) kvs
theorem KV.merge:∀ {more:List (Key × V)} {rs:List (Key × aA)} {kvs:List (Key × V)} {vs:List (Key × aA)},KV more rs->KV kvs vs->KV (Ub kvs more) (merged vs rs):=by
 intro more rs kvs vs r;unfold KV at r
 induction r generalizing kvs vs with
 | nil=>intro q; exact q
 | @cons p q ps qs h t ih=>
  intro r0;have e:KV (Kb kvs p.1 p.2) (stored vs q.1 q.2):=by
   have:=r0.put p.1 h.2;rw [<- h.1]; exact this
  exact ih e
theorem zg:∀ (more kvs:List (Key × V)),(Ub kvs more).length<=kvs.length + more.length
 | [],kvs=>by show kvs.length<=kvs.length + 0; omega
 | p :: r,kvs=>by
  have h1:=zg r (Kb kvs p.1 p.2);have h2:=jb kvs p.1 p.2;show (Ub (Kb kvs p.1 p.2) r).length<=_;rw [E1]; omega
theorem Q37 {P:aL} {w:aK}:∀ {kvs:List (Key × V)} {ws:List (aA × aA)},VV (kvs.map fun kv=>(kV kv.1,kv.2)) ws->∃ rs,Carries (Z4 P w) ws rs/\KV kvs rs
 | [],_,r=>by rw [List.map_nil] at r; cases r; exact ⟨[],True.intro,.nil⟩
 | p :: kvs,_,r=>by
  rw [O6] at r;cases r with
  | @cons a b as bs h t=>
   obtain ⟨rs,c,q⟩:=Q37 (P:=P) (w:=w) t;obtain ⟨b1,b2⟩:=b;exact ⟨(p.1,b2) :: rs,⟨Q2v h.1,rfl,c⟩,.cons ⟨rfl,h.2⟩ q⟩
def Qnc (trs:List (TE × TE)):TE:=fun σ H Q=>∀ p,H p=none->Q8h trs σ (upd H p (.dK [])) fun ps H2=>H2 p=some (.dK [])/\∃ kvs:List (Key × V),ps=kvs.map (fun kv=>(kV kv.1,kv.2))/\kvs.length<=15/\Q (.ref p) (upd H2 p (.dK (Ub [] kvs)))
theorem Qgy {X:Cx} {pos:Pos} {keys:List (Option aH)} {values:List aH} {trs:List (TE × TE)} (h:PPs X pos keys values trs) (hall:keys.all (·.isSome)=true) (hl:keys.length=values.length) (h0:keys≠[])
  (h15:keys.length<=15):PE X (.Dict keys values pos) (Qnc trs):=by
 intro pins s σ H Q I q;have hn:=I.hok.fresh (O9 s.heap.objs.size);have I1:=I.laid (a:=s.heap.objs.size) (o:=.dK []) (h':=s.heap.push { cls:=.type "dict",data:=.dict #[] }) (t':=s.toks) (fun _ _ q=>O1 _ q) (O9 _) (Q7x s.heap I.big);refine wpAny_Dict_walk (knd:=Z4 X.prog X.w) hall hl h0 h15 (thn (h pins _ σ _ _ I1 (q _ hn)) fun ws s2 ⟨ps,H2,I2,rel,e,kvs,ep,lk,q2⟩=>?_)
 subst ep;obtain ⟨rs,c,rk⟩:=Q37 (P:=X.prog) (w:=X.w) rel;obtain ⟨z,hd,vs0,r0,dd⟩:=Qih I2.hok e;cases r0;refine ⟨rs,c,dd,fun h' dd' hs=>⟨.ref s.heap.objs.size,_,?_,rfl,q2⟩⟩
 have hz:(Ub [] kvs).length<=sizeLine:=by
  have h1:=zg kvs [];rw [G7] at h1;rw [sizeLine_eq]; omega
 have he:∃ q,h'.get? s.heap.objs.size=some q:=let ⟨q,_,_,hq,_⟩:=dd'; ⟨q,hq⟩;exact Q5y I2 (by rw [e]; exact True.intro) hs he (Q9e hz hd (rk.merge .nil) dd')
structure M1 (X:Cx) (o:aH) (m:Str) (apos:Pos) (e:aH) (cpos:Pos):Prop where
 base:bM o m X.env (aN o X.env)=aN o X.env
 few:((ad cpos (aO [e] X.env)).all (fun x=>!x.1) && (backToKw cpos (keywordEach [] X.env)).all (fun x=>x.1.isSome)
  && decide (([e]:List aH).length + ([]:List Keyword).length + (if ([]:List Keyword).isEmpty then 0 else 1) < 30))=true
 line:(apos.endLine == cpos.line)=true
 trees:ad cpos (aO [e] X.env)=[(false,aN e X.env)]
structure M2 (X:Cx) (o:aH) (m:Str) (apos:Pos) (e f:aH) (cpos:Pos):Prop where
 base:bM o m X.env (aN o X.env)=aN o X.env
 few:((ad cpos (aO [e,f] X.env)).all (fun x=>!x.1) && (backToKw cpos (keywordEach [] X.env)).all (fun x=>x.1.isSome)
  && decide (([e,f]:List aH).length + ([]:List Keyword).length + (if ([]:List Keyword).isEmpty then 0 else 1) < 30))=true
 line:(apos.endLine == cpos.line)=true
 trees:ad cpos (aO [e,f] X.env)=[(false,aN e X.env),(false,aN f X.env)]
section
variable {X:Cx} {pins:List (aB × Obj)} {σ:St} {H:Hp} {s:aC} {a:aB} {y d:V} {u r:aA} {o:Option V} {A:aM} {E:aA->aC->Prop}
end
section
variable {X:Cx} {o e f:aH} {apos cpos:Pos} {td ty tx:TE}
end
section
variable {X:Cx} {pins:List (aB × Obj)} {σ:St} {H:Hp} {s:aC} {a:aB} {kvs:List (Key × V)} {A:aM} {E:aA->aC->Prop}
end
section
variable {X:Cx} {pins:List (aB × Obj)} {σ:St} {H:Hp} {s:aC} {a:aB} {y:V} {u:aA} {A:aM} {E:aA->aC->Prop}
end
section
variable {X:Cx}
end
section
open AutoSeq1 (wpAny_loadPart')
section
variable {prog:aL} {w:aK} {A:aM} {E:aA->aC->Prop} {s:aC}
end
section
variable {prog:aL} {w:aK} {A:aM} {E:aA->aC->Prop} {s:aC}
end
section
variable {X:Cx} {a:aH} {ta:TA} {p p' pos pos':Pos}
end
end
section
variable {prog:aL} {w:aK} {A:aM} {E:aA->aC->Prop} {s:aC}
end
section
variable {X:Cx} {e e3:aH} {te t3:TE} {pos p2:Pos}
end
theorem Q75:typeLookup (.type "list") "keys" = pure none:=am_miss_of_fast (by decide +kernel)
theorem Q3q {prog:aL} {w:aK} {A:aM} {E:aA->aC->Prop} {s:aC} {a:aB} {xs:Array aA} {k:Nat} {sl:Array (Option aA)} {Q:Option aA->aC->Prop}
  (hx:s.heap.get? a=some { cls:=.type "list",dict:=none,data:=.seq xs k,slots:=sl }) (hA:A.handled=none)
  (h:∀ h' tk,(∀ b o,s.heap.get? b=some o->h'.get? b=some o)->Q none { s with heap:=h',toks:=tk }) :
  aF (aI prog w) A (getAttr? (.ref a) "keys") Q E s:=by
 obtain ⟨hp,g,d,tk,os⟩:=s;have hT:∀ tk',(⟨hp,g,d,tk',os⟩:aC).TypeIs (.ref a) "list" := fun _=>⟨_,hx,rfl⟩
 have f1:=sub_AttributeError;have f3:=F.slot_list_getattribute.lookup;have f4:=F.slot_list_getattribute.bind (.ref a);have f5:=am_list_getattr_none;have hname:(["__module__", "__name__", "__qualname__", "__doc__", "__annotations__"]:List Str).contains "keys" = false:=by decide +kernel
 unfold getAttr? getAttrBy? getAttrBy
 repeat (any_goals (first | assumption | exact hT _ | ((with_reducible show aF _ _ (call (Value.builtin "list.__getattribute__") _ _) _ _ _); refine bB F.slot_list_getattribute (hT _) am_entry_list_getattribute (F.args_list_getattribute_2 _ _) (meets_getattribute_miss_list a xs k sl "keys" _ Q75 hname) ⟨hx,hA,fun h' tk' e hx'=>?_⟩) | wp_step))
 obtain ⟨t',u',he⟩:=hx'.there;show aF _ _ (getattributeRaised _ _ _ _ _ _ _) _ _ _;unfold getattributeRaised
 repeat (any_goals (first | assumption | wp_step))
 exact h _ _ hx'.of.keeps
theorem qg:entryFor table "dict.update.loop" = some Builtin.«dict.update.loop»:=entryFor_of_tree (by kernel_rfl)
theorem V4:plainId "dict.update.loop" = true:=by decide +kernel
def Q9s {prog:aL} {w:aK} {K:Type} [DecidableEq K] (knd:KeyKind prog w K) (h:Heap) (v:aA) (p:K × aA):Prop:=
 ∃ a key,v=.ref a/\knd.is p.1 key=true/\IsTup h a #[key,p.2]
def Wk {K:Type} [DecidableEq K] (kvs:List (K × aA)):List (K × aA):=kvs.foldl (fun acc p=>stored acc p.1 p.2) []
theorem Q1x {K:Type} [DecidableEq K] (kvs:List (K × aA)) (p:K × aA):Wk (kvs ++ [p])=stored (Wk kvs) p.1 p.2:=by unfold Wk; rw [List.foldl_append]; rfl
theorem Q8j {K:Type} [DecidableEq K] (kvs:List (K × aA)) (k:K) (v:aA):(stored kvs k v).length<=kvs.length + 1:=by
 unfold stored; split <;> simp
theorem zd {K:Type} [DecidableEq K] (kvs:List (K × aA)):∀ acc:List (K × aA),(kvs.foldl (fun acc p=>stored acc p.1 p.2) acc).length<=acc.length + kvs.length:=by
 induction kvs with
 | nil=>intro acc; simp
 | cons p r ih=>
  intro acc;rw [List.foldl_cons,E1];have:=ih (stored acc p.1 p.2);have:=Q8j acc p.1 p.2;omega
section
variable {prog:aL} {w:aK} {K:Type} [DecidableEq K] {knd:KeyKind prog w K} {A:aM} {R:Result->aC->Prop}
theorem Qc0 {I l D:aB} {items:Array aA} {kvs:List (K × aA)} {h0:Heap} {B:Nat} (hh:A.handled=none) (hIl:l≠I) (hDI:D≠I) (hDl:D≠l) (hB:∀ b o,h0.get? b=some o->b≠I/\b≠D)
  (hn:items.size=kvs.length) (hp:∀ (i:Nat) (v:aA) (p:K × aA),items[i]?=some v->kvs[i]?=some p->Q9s knd h0 v p) (hsz:kvs.length<=sizeLine) :
  ∀ (k i:Nat) (s:aC),items.size - i=k->i<=items.size->(s.heap.IsListIter I l i/\s.heap.IsList l items)->(∀ b o,h0.get? b=some o->s.heap.get? b=some o)->s.heap.DictOf knd D (Wk (kvs.take i)) ->
   (∀ h' tk,h'.DictOf knd D (Wk kvs)->(∀ b o,h0.get? b=some o->h'.get? b=some o)->R (.ok (.ret .none)) { s with heap:=h',toks:=tk }) ->
   codeAny (aI prog w) A (.builtin "dict.update.loop" ⟨[.ref D,.ref I,aS i,.none],[]⟩) R s:=by
 have W:=Walks.list (prog:=prog) (w:=w) (A:=A.in1) (by simpa using hh) I l hIl items;intro k
 induction k with
 | zero=>
  intro i s hk hi hst hkeep hD hR;have hin:i=items.size:=by omega
  subst hin;refine bD qg ?_;rw [Around.under_plainId V4 _];show aF _ A.in1 (af (.ref I) >>= _) _ _ s;refine aD (W.done s _ _ hst fun h' tk hm=>?_);show aF _ A.in1 (Builtin.Dict.addKeywords D [] >>= fun _=>ret Value.none) _ _ _;refine aD (aJ (aJ (hR h' tk ?_ fun b o e=>hm b o (fun z=>(hB b o e).1 (by simpa using z)) (hkeep b o e))))
  rw [hn,List.take_length] at hD;obtain ⟨o,es,ep,ho,r⟩:=hD;exact ⟨o,es,ep,hm D o (fun z=>hDI (by simpa using z)) ho,r⟩
 | succ k ih=>
  intro i s hk hi hst hkeep hD hR;have hlt:i < items.size:=by omega
  refine bD qg ?_;rw [Around.under_plainId V4 _];show aF _ A.in1 (af (.ref I) >>= _) _ _ s;refine aD (W.item i s _ _ hlt hst fun v h' tk hP hst' hm=>?_);have hik:i < kvs.length:=by omega
  obtain ⟨a,key,rfl,hkey,ht⟩:=hp i v kvs[i] hP (O2 hik);have hkeep':∀ b o,h0.get? b=some o->h'.get? b=some o:=fun b o e=>hm b o (fun z=>(hB b o e).1 (by simpa using z)) (hkeep b o e)
  have hD':h'.DictOf knd D (Wk (kvs.take i)):=by
   obtain ⟨o,es,ep,ho,r⟩:=hD;exact ⟨o,es,ep,hm D o (fun z=>hDI (by simpa using z)) ho,r⟩
  show aF _ A.in1 (ai [Value.ref a] _ >>= _) _ _ _;refine aD (aj ?_);obtain ⟨ot,hot,hct,nt,hdt⟩:=ht;have hot':=hkeep' a ot hot;have hTt:Shared.TypeIs { s with heap:=h',toks:=tk } (.ref a) "tuple" := ⟨ot,hot',hct⟩;refine aD (wpAny_tryCatch ?_);unfold Builtin.Dict.pairItems;refine aD (bI hTt ?_);rw [bS (by decide)];refine aD (az hot' hdt ?_);refine aJ ?_;show aF _ A.in1 (ai [key,(kvs[i]).2] (dictSet D key (kvs[i]).2)) _ _ _;refine aj (wpAny_dictSet_pairs (knd:=knd) (k:=(kvs[i]).1) hkey hD' (fun h'' hd'' hs''=>?_) ?_)
  ·have hk2:∀ b o,h0.get? b=some o->h''.get? b=some o:=fun b o e=>(hs''.2 b (hB b o e).2).trans (hkeep' b o e)
   have hst2:h''.IsListIter I l (i + 1)/\h''.IsList l items:=⟨hst'.1.at fun o e=>(hs''.2 I (Ne.symm hDI)).trans e,hst'.2.at fun o e=>(hs''.2 l (Ne.symm hDl)).trans e⟩;have e1:kvs.take (i + 1)=kvs.take i ++ [kvs[i]]:=by rw [List.take_succ,O2 hik]; rfl
   have hd2:h''.DictOf knd D (Wk (kvs.take (i + 1))):=by rw [e1,Q1x]; exact hd''
   exact aJ ⟨bJ V4 _,ih (i + 1) _ (by omega) hlt hst2 hk2 hd2 fun h3 t3 d3 k3=>hR h3 t3 d3 k3⟩
  ·have:=zd (kvs.take i) [];have h2:(kvs.take i).length<=kvs.length:=by rw [F7]; omega
   simp only [G7,Nat.zero_add] at this;exact E7 this (E7 h2 hsz)
theorem Q14 {s:aC} {E:aA->aC->Prop} {l:aB} {items:Array aA} {m:Nat} {sl:Array (Option aA)} {kvs:List (K × aA)} {Q:aA->aC->Prop} (hh:A.handled=none)
  (hl:s.heap.get? l=some { cls:=.type "list",dict:=none,data:=.seq items m,slots:=sl })
  (hn:items.size=kvs.length) (hp:∀ (i:Nat) (v:aA) (p:K × aA),items[i]?=some v->kvs[i]?=some p->Q9s knd s.heap v p) (hsz:kvs.length<=sizeLine)
  (h:∀ h' tk,h'.DictOf knd s.heap.objs.size (Wk kvs)->(∀ b o,s.heap.get? b=some o->h'.get? b=some o)->Q (.ref s.heap.objs.size) { s with heap:=h',toks:=tk }) :
  aF (aI prog w) A (call (.type "dict") [.ref l]) Q E s:=by
 refine callType_codes (Q₁:=fun obj s₁=>obj=.ref s.heap.objs.size/\s₁={ s with heap:=s.heap.push { cls:=.type "dict",data:=.dict #[] } }) F.kt_called_dict (F.kt_typeCall_dict_1 _) F.entry_dict_init (kt_code_dict_new _ ⟨rfl,rfl⟩) ?_;rintro obj s₁ ⟨rfl,rfl⟩;have hnew:(s.heap.push { cls:=.type "dict",data:=.dict #[] }).DictOf knd s.heap.objs.size []:=Heap.DictOf.new s.heap;refine ⟨hnew.typeIs,F.args_dict_init_2 _ _,?_⟩;have hl1:(s.heap.push { cls:=.type "dict",data:=.dict #[] }).get? l=some { cls:=.type "list",dict:=none,data:=.seq items m,slots:=sl }:=O1 _ hl;unfold Builtin.«dict.__init__»;refine aD ?_;unfold Builtin.Dict.selfAndRest;refine aD (wpAny_notOrdered_dict hnew.typeIs ?_);show aF _ _ (pure (s.heap.objs.size,[Value.ref l])) _ _ _;refine aJ ?_;show aF _ _ (Builtin.Dict.updateFrom "dict.__init__" s.heap.objs.size (.ref l) [] .none) _ _ _;unfold Builtin.Dict.updateFrom
 refine aD (bI (T := "list") ⟨_,hl1,rfl⟩ ?_);rw [bS (by decide)];refine aD (Q3q hl1 (by simpa using hh) fun h2 tk2 keep2=>?_)
 rw [bS (by rfl)];have hl2:h2.get? l=some { cls:=.type "list",dict:=none,data:=.seq items m,slots:=sl }:=keep2 _ _ hl1;have hL2:h2.IsList l items:=⟨_,hl2,rfl,m,rfl⟩;have k0:∀ b o,s.heap.get? b=some o->h2.get? b=some o:=fun b o e=>keep2 b o (O1 _ e)
 have hD2:h2.DictOf knd s.heap.objs.size []:=by
  obtain ⟨o,es,ep,ho,r⟩:=hnew;exact ⟨o,es,ep,keep2 _ _ ho,r⟩
 have hDlt:s.heap.objs.size < h2.objs.size:=by
  obtain ⟨o,es,ep,ho,r⟩:=hD2;exact O8 ho
 refine aD (aD (m:=rule _) (bC (aJ (aD (wpAny_pyIter_list hL2 ?_)))));refine aJ ⟨bJ V4 _,?_⟩;refine Qc0 (A:=A.in1) (I:=h2.objs.size) (l:=l) (kvs:=kvs) (h0:=s.heap) (B:=0) (knd:=knd) (by simpa using hh) (D4 (O8 hl2)) (D4 hDlt) (Nat.ne_of_gt (O8 hl))
  (fun b o e=>⟨D4 (O8 (k0 b o e)),D4 (O8 e)⟩) hn hp hsz (items.size - 0) 0 _ rfl (Nat.zero_le _) ⟨⟨_,I0 _ rfl,rfl,rfl⟩,hL2.push _⟩ (fun b o e=>O1 _ (k0 b o e)) (hD2.push _) fun h' tk d k=>?_
 exact ⟨rfl,h h' tk d k⟩
end
theorem Q6w {P:aL} {w:aK} {H:Hp} {h:Heap} (ok:HOk P w H h):∀ {kvs:List (Key × V)} {vs:List V} {its:List aA},aa (fun (v:V) (kv:Key × V)=>∃ a,v=.ref a/\H a=some (.tup [kV kv.1,kv.2])) vs kvs->Vals vs its ->
  ∃ rs:List (Key × aA),KV kvs rs/\its.length=rs.length/\∀ (i:Nat) (u:aA) (r:Key × aA),its[i]?=some u->rs[i]?=some r->Q9s (Z4 P w) h u r
 | [],_,_,.nil,.nil=>⟨[],.nil,rfl,fun i u r e=>by simp at e⟩
 | kv :: kvs,v :: vs,u :: us,.cons ⟨a,ea,ha⟩ t,.cons ru tu=>by
  obtain ⟨rs,h1,h2,h3⟩:=Q6w ok t tu;subst ea;cases ru;obtain ⟨_,jts,rj,tp⟩:=ok a _ ha;cases rj with
  | cons r1 rj=>
   cases rj with
   | cons r2 rj=>
    cases rj;rename_i key val;refine ⟨(kv.1,val) :: rs,.cons ⟨rfl,r2⟩ h1,by simp [h2],fun i u r e1 e2=>?_⟩
    cases i with
    | zero=>
     simp only [List.getElem?_cons_zero,Option.some.injEq] at e1 e2;subst e1; subst e2;exact ⟨a,key,rfl,Q2v r1,tp⟩
    | succ i=>
     simp only [List.getElem?_cons_succ] at e1 e2;exact h3 i u r e1 e2
theorem Q9k {X:Cx} (hc:X.calm=true):U4 X (.type "dict") (fun xs H Q=>∃ p vs,∃ kvs:List (Key × V),xs=[.ref p]/\SqL X.K H p vs/\aa (fun (v:V) (kv:Key × V)=>∃ a,v=.ref a/\H a=some (.tup [kV kv.1,kv.2])) vs kvs /\
  ∀ d,H d=none->Q (.ref d) (upd H d (.dK (Ub [] kvs)))):=by
 intro pins s σ H xs us Q I r h;obtain ⟨p,vs,kvs,rfl,hq,hp,q⟩:=h;obtain ⟨u,rfl,rx⟩:=K6 r;cases rx;obtain ⟨its,r',pl,hz⟩:=I.list hq;obtain ⟨rs,h1,h2,h3⟩:=Q6w I.hok hp r';obtain ⟨⟨oc,od,oda,osl⟩,n,e,hcls,hdict,hdata⟩:=pl;simp only at hcls hdict hdata;subst hcls hdict hdata;have hlen:rs.length<=sizeLine:=by rw [<- h2,<- r'.length]; exact hz
 refine Q14 (knd:=Z4 X.prog X.w) (kvs:=rs) (I.ok.hd hc) e (by rw [O4,h2]) (fun i v p e1 e2=>h3 i v p (by simpa using e1) e2) hlen fun h' tk hd hk=>?_
 have hkv:KV (Ub [] kvs) (Wk rs):=KV.merge h1 .nil;have hl2:(Ub [] kvs).length<=sizeLine:=by
  rw [hkv.length];have:=zd rs [];simp only [G7,Nat.zero_add] at this;exact E7 this hlen
 exact ⟨.ref s.heap.objs.size,_,I.laid (t':=tk) (o:=.dK (Ub [] kvs)) hk (O9 _) (Q9e hl2 (beq_eq_false_iff_ne.mpr (Ne.symm (D4 I.big))) hkv hd),rfl,q _ (I.hok.fresh (O9 _))⟩
section
variable {X:Cx} {pins:List (aB × Obj)} {σ:St} {H:Hp} {s:aC} {a:aB} {tg:aH}
end
end L2
namespace L2
open PySem PySem.Spec PyProof.Rows PySem.W
section
variable (r:Nat->Nat)
def rk (p:Array Nat) (i:Nat):Nat:=r (p.getD i 0)
variable {r}
end
end L2
namespace L2
open PySem PySem.Spec PyProof.Rows PySem.W
section
variable {prog:aL} {w:aK} {A:aM} {E:aA->aC->Prop} {s:aC}
end
end L2
namespace L2
open PySem PySem.Spec PyProof.Rows
end L2
namespace L2
open PySem PySem.Spec PyProof.Rows PySem.W
section
variable {prog:aL} {w:aK} {A:aM} {E:aA->aC->Prop} {s:aC}
end
end L2
namespace L2
open PySem PySem.Spec PyProof.Rows
section
variable {X:Cx}
end
section
variable {prog:aL} {w:aK} {A:aM} {E:aA->aC->Prop} {s:aC}
end
end L2
namespace L2
open PySem PySem.Spec PyProof.Rows PySem.W
section
variable {prog:aL} {w:aK} {A:aM} {E:aA->aC->Prop} {s:aC}
end
section
variable {X:Cx}
end
end L2
namespace L2
open PySem PySem.Spec PyProof.Rows
def Rise (xs:Array Nat):Prop:=xs.toList.Pairwise (· < ·)
theorem Rise.lt {xs:Array Nat} (r:Rise xs) {i j a b:Nat} (hi:xs[i]?=some a) (hj:xs[j]?=some b) (h:i < j):a < b:=by
 have q:=List.pairwise_iff_getElem.mp r;obtain ⟨hi',ei⟩:=Array.getElem?_eq_some_iff.mp hi;obtain ⟨hj',ej⟩:=Array.getElem?_eq_some_iff.mp hj;have:=q i j (by simpa using hi') (by simpa using hj') h;simp only [Array.getElem_toList] at this;rw [<- ei,<- ej]; exact this
theorem Qfn {xs:Array Nat} {j:Nat} (r:Rise xs):∀ fuel lo hi,hi - lo<=fuel->lo<=hi->hi<=xs.size->(∀ i v,xs[i]?=some v->i < lo->v < j)->(∀ i v,xs[i]?=some v->hi<=i->j<=v) ->
  SetTable.below.go xs j fuel lo hi<=xs.size/\∀ i v,xs[i]?=some v->(i < SetTable.below.go xs j fuel lo hi <-> v < j):=by
 intro fuel
 induction fuel with
 | zero=>
  intro lo hi h1 h2 h3 a b;have e:lo=hi:=by omega
  rw [SetTable.below.go];refine ⟨by omega,fun i v hv=>⟨a i v hv,fun h=>?_⟩⟩
  by_cases z:i < lo
  ·exact z
  ·have:=b i v hv (by omega); omega
 | succ fuel ih=>
  intro lo hi h1 h2 h3 a b;rw [SetTable.below.go]
  by_cases z:lo < hi
  ·rw [bS z];dsimp only;have hm:(lo + hi) / 2 < xs.size:=by omega
   have em:xs[(lo + hi) / 2]?=some xs[(lo + hi) / 2]:=Array.getElem?_eq_getElem hm;have ed:xs.getD ((lo + hi) / 2) j=xs[(lo + hi) / 2]:=by simp [Array.getD,hm]
   rw [ed]
   by_cases y:xs[(lo + hi) / 2] < j
   ·rw [bS y];refine ih _ _ (by omega) (by omega) h3 (fun i v hv hi'=>?_) b
    by_cases q:i=(lo + hi) / 2
    ·subst q; rw [em] at hv; cases hv; exact y
    ·have:=r.lt hv em (by omega); omega
   ·rw [bT y];refine ih _ _ (by omega) (by omega) (by omega) a fun i v hv hi'=>?_
    by_cases q:i=(lo + hi) / 2
    ·subst q; rw [em] at hv; cases hv; omega
    ·have:=r.lt em hv (by omega); omega
  ·rw [bT z];refine ⟨by omega,fun i v hv=>⟨a i v hv,fun h=>?_⟩⟩
   by_cases q:i < lo
   ·exact q
   ·have:=b i v hv (by omega); omega
theorem xq {xs:Array Nat} {j:Nat} (r:Rise xs):SetTable.below xs j<=xs.size/\∀ i v,xs[i]?=some v->(i < SetTable.below xs j <-> v < j):=
 Qfn r _ _ _ (by omega) (Nat.zero_le _) (O9 _) (fun i v _ h=>absurd h (Nat.not_lt_zero _)) fun i v hv h=>by
  have:=(Array.getElem?_eq_some_iff.mp hv).1; omega
def Good (L:Bool) (t:aV):Prop:=Rise t.place/\t.dummies=#[]/\t.led=L
theorem Q8s (n:Nat):Rise (Array.range n):=by
 unfold Rise;rw [Array.toList_range];exact List.pairwise_lt_range
theorem Good.standIn {L:Bool} {t:aV} (g:Good L t) (n:Nat):Good L (t.standIn n):=⟨Q8s n,rfl,g.2.2⟩
theorem Good.orStandIn {L:Bool} {t:aV} (g:Good L t) (n:Nat):Good L (t.orStandIn n):=by
 unfold SetTable.orStandIn
 split
 ·exact g
 ·exact g.standIn n
theorem Good.unplain {L:Bool} {t:aV} (g:Good L t):Good L { t with plain:=false }:=g
theorem Q6n {xs:Array Nat} {j:Nat} (r:Rise xs) (h:j∉xs.toList):Rise (SetTable.insertAt xs (SetTable.below xs j) j):=by
 obtain ⟨_,b⟩:=xq (j:=j) r;unfold Rise;rw [SetTable.toList_insertAt];have lo:∀ v∈xs.toList.take (SetTable.below xs j),v < j:=fun v hv=>by
  obtain ⟨i,hi,e⟩:=List.getElem_of_mem hv;rw [F7] at hi;refine (b i v ?_).mp (by omega);rw [<- Array.getElem?_toList,<- e,List.getElem_take,O2]
 have hi:∀ v∈xs.toList.drop (SetTable.below xs j),j < v:=fun v hv=>by
  obtain ⟨i,hi,e⟩:=List.getElem_of_mem hv;rw [L3] at hi;have hv':xs[SetTable.below xs j + i]?=some v:=by
   rw [<- Array.getElem?_toList,<- e,List.getElem_drop,O2]
  have q:¬ v < j:=fun z=>by have:=(b _ v hv').mpr z; omega
  have ne:v≠j:=fun z=>h (by rw [<- z]; exact List.mem_of_mem_drop hv)
  omega
 refine List.pairwise_append.mpr ⟨List.Pairwise.sublist (List.take_sublist _ _) r,L0.mpr ⟨hi,List.Pairwise.sublist (List.drop_sublist _ _) r⟩,fun x hx y hy=>?_⟩
 rcases D3.mp hy with rfl | hy
 ·exact lo x hx
 ·exact Nat.lt_trans (lo x hx) (hi y hy)
theorem Q8n {t:aV} {j:Nat} (r:Rise t.place) (h:t.slot j=.empty):j∉t.place.toList:=fun hm=>by
 obtain ⟨b0,b⟩:=xq (j:=j) r;obtain ⟨i,hi,e⟩:=List.getElem_of_mem hm;have hv:t.place[i]?=some j:=by rw [<- Array.getElem?_toList,<- e,O2]
 have n1:¬ i < SetTable.below t.place j:=fun z=>by have:=(b i j hv).mp z; omega
 unfold SetTable.slot at h;dsimp only at h
 by_cases z:i=SetTable.below t.place j
 ·rw [<- z,hv] at h;simp at h
 ·have hb:SetTable.below t.place j < t.place.size:=by
   have:=(Array.getElem?_eq_some_iff.mp hv).1; omega
  have l:=r.lt (Array.getElem?_eq_getElem hb) hv (by omega);have:=(b _ _ (Array.getElem?_eq_getElem hb)).mpr l;omega
theorem Qeb {t:aV} {j:Nat} (h:t.dummies=#[]):t.slot j≠.dummy:=by
 unfold SetTable.slot SetTable.has;dsimp only;rw [h]
 split
 ·exact fun z=>nomatch z
 ·simp
theorem Qdp {t:aV} {h:Int} (hd:t.dummies=#[]):∀ fuel (p:SetTable.Probe) m,p.dummy=none->SetTable.probe.go t (fun _=>h + 1) h fuel p=some m->∃ j,m=.empty j none/\t.slot j=.empty:=by
 intro fuel
 induction fuel with
 | zero=>intro p m _ e; rw [SetTable.probe.go] at e; cases e
 | succ fuel ih=>
  intro p m hp e;rw [SetTable.probe.go] at e;have adv:∀ q:SetTable.Probe,q.dummy=none->(t.advance q).dummy=none:=fun q hq=>by
   unfold SetTable.advance
   split
   ·exact hq
   ·exact hq
  cases z:t.slot p.j with
  | empty=>rw [z] at e; cases e; exact ⟨p.j,by rw [hp],z⟩
  | dummy=>exact absurd z (Qeb hd)
  | live i=>
   rw [z] at e;have ne:¬ ((h + 1 == h)=true):=by simp; omega
   dsimp only at e;rw [bT ne] at e;exact ih _ m (adv p hp) e
theorem Q7q {L:Bool} {t:aV} {h:Int} (g:Good L t) {j:Nat} {b:Bool} (e:t.freeSlot h=some (j,b)):j∉t.place.toList/\b=false:=by
 unfold SetTable.freeSlot at e;cases z:t.probe (fun _=>h + 1) h (t.probeStart h) with
 | none=>rw [z] at e; cases e
 | some m=>
  obtain ⟨i,rfl,hs⟩:=Qdp g.2.1 _ _ m rfl z;rw [z] at e;cases e;exact ⟨Q8n g.1 hs,rfl⟩
theorem Good.put {L:Bool} {t:aV} (g:Good L t) {j:Nat} (h:j∉t.place.toList):Good L (t.put j).1:=by
 unfold SetTable.put;refine ⟨Q6n g.1 h,?_,g.2.2⟩;show (if SetTable.has t.dummies j=true then _ else t.dummies)=#[];have:SetTable.has t.dummies j=false:=by unfold SetTable.has; rw [g.2.1]; simp
 rw [this,bT (by simp)];exact g.2.1
theorem Good.layNew {L:Bool} {t:aV} (g:Good L t) (es:Array (Int × aA)) (h:Int) (x:aA):Good L (layNew t es h x).2.1:=by
 unfold PySem.layNew;cases z:t.freeSlot h with
 | none=>exact g.standIn _
 | some q=>
  obtain ⟨j,b⟩:=q;exact (g.put (Q7q g z).1).orStandIn _
theorem Good.relaid {L:Bool} {t t':aV} (g:Good L t) {hs:Array Int} {n:Nat} {o:Array Nat} (e:t.relaid hs n=some (t',o)):Good L t':=by
 unfold SetTable.relaid SetTable.laid at e;cases z:SetTable.layClean (SetTable.sizeAbove n - 1) hs with
 | none=>rw [z] at e; cases e
 | some ow=>
  rw [z] at e;cases e;refine ⟨?_,rfl,g.2.2⟩;show List.Pairwise (· < ·) (List.map _ _);rw [List.pairwise_map];have key:∀ l:List Nat,l.Pairwise (· < ·)->(l.filterMap fun j=>(ow.getD j none).map (j,·)).Pairwise fun a b=>a.1 < b.1:=by
   intro l
   induction l with
   | nil=>intro _; exact .nil
   | cons x l ih=>
    intro h;obtain ⟨h1,h2⟩:=L0.mp h;rw [List.filterMap_cons];cases ow.getD x none with
    | none=>exact ih h2
    | some k=>
     refine L0.mpr ⟨fun b hb=>?_,ih h2⟩;obtain ⟨y,hy,ey⟩:=List.mem_filterMap.mp hb;cases q:ow.getD y none with
     | none=>rw [q] at ey; cases ey
     | some k'=>rw [q] at ey; cases ey; exact h1 y hy
  exact key _ List.pairwise_lt_range
theorem Good.relayAll {L:Bool} {t:aV} (g:Good L t) (es:Array (Int × aA)) (n:Nat):Good L (relayAll t es n).2.1:=by
 unfold PySem.relayAll;cases z:t.relaid (es.map (·.1)) n with
 | none=>exact g.standIn _
 | some q=>
  obtain ⟨t',o⟩:=q;dsimp only
  split
  ·exact g.relaid z
  ·exact g.standIn _
theorem y9 {α:Type}:∀ {l:List α} {i:Nat} (h:i < l.length),([l[i]] ++ l.eraseIdx i).Perm l
 | [],_,h=>absurd h (Nat.not_lt_zero _)
 | a :: l,0,_=>List.Perm.refl _
 | a :: l,i + 1,h=>by
  have:=y9 (l:=l) (i:=i) (by simpa using h);rw [List.eraseIdx_cons_succ,List.getElem_cons_succ];exact (List.Perm.swap a _ _).trans (this.cons a)
theorem Qgr {α:Type} (next:Nat->Nat):∀ fuel k (left:List α) out,left.length=fuel->(pickOrder.go next fuel k left out).toList.Perm (out.toList ++ left):=by
 intro fuel
 induction fuel with
 | zero=>intro k left out h; rw [List.length_eq_zero_iff.mp h,pickOrder.go,L1]
 | succ fuel ih=>
  intro k left out h;rw [pickOrder.go];have hlt:next k % left.length < left.length:=Nat.mod_lt _ (by omega);rw [O2 hlt];refine (ih (k + 1) _ _ (by rw [List.length_eraseIdx_of_lt hlt]; omega)).trans ?_;rw [Array.toList_push,List.append_assoc];refine List.Perm.append_left _ ?_;exact y9 hlt
theorem Qb0 {α:Type} (next:Nat->Nat) (xs:Array α):(pickOrder next xs).toList.Perm xs.toList:=by
 have:=Qgr next xs.size 0 xs.toList #[] (by simp);simpa [pickOrder] using this
theorem Q0h {α β:Type} {F:α->β->Prop} {l l':List α} (p:l'.Perm l):∀ {ks:List β},aa F l ks->∃ ks',aa F l' ks'/\ks'.Perm ks:=by
 induction p with
 | nil=>intro ks h; exact ⟨ks,h,List.Perm.refl _⟩
 | cons x _ ih=>
  intro ks h;cases h with
  | cons r t=>
   obtain ⟨ks',h1,h2⟩:=ih t;exact ⟨_,.cons r h1,h2.cons _⟩
 | swap x y l=>
  intro ks h;cases h with
  | cons r t=>
   cases t with
   | cons r' t'=>exact ⟨_,.cons r' (.cons r t'),List.Perm.swap _ _ _⟩
 | trans _ _ ih1 ih2=>
  intro ks h;obtain ⟨k1,h1,p1⟩:=ih2 h;obtain ⟨k2,h2,p2⟩:=ih1 h1;exact ⟨k2,h2,p2.trans p1⟩
theorem Q0g {α β:Type} {F:α->β->Prop} {a:α} {b:β} (r:F a b):∀ {l:List α} {ks:List β},aa F l ks->aa F (l ++ [a]) (ks ++ [b])
 | _,_,.nil=>.cons r .nil
 | _,_,.cons r' t=>.cons r' (Q0g r t)
theorem Q2g {α β:Type} {F:α->β->Prop} {b:β}:∀ {l:List α} {ks:List β},aa F l ks->b∈ks->∃ a∈l,F a b
 | _,_,.nil,h=>by cases h
 | _,_,.cons (a:=a) r t,h=>by
  rcases D3.mp h with rfl | h
  ·exact ⟨a,by simp,r⟩
  ·obtain ⟨x,hx,q⟩:=Q2g t h;exact ⟨x,O7 _ hx,q⟩
theorem qy {α β:Type} {F:α->β->Prop} {a:α}:∀ {l:List α} {ks:List β},aa F l ks->a∈l->∃ b∈ks,F a b
 | _,_,.nil,h=>by cases h
 | _,_,.cons (b:=b) r t,h=>by
  rcases D3.mp h with rfl | h
  ·exact ⟨b,by simp,r⟩
  ·obtain ⟨x,hx,q⟩:=qy t h;exact ⟨x,O7 _ hx,q⟩
section
variable {prog:aL} {w:aK} {K:Type} [DecidableEq K]
def ElK (knd:KeyKind prog w K) (e:Int × aA) (k:K):Prop:=knd.is k e.2=true/\e.1=knd.hash k/\e.2.scannable=true
def GO (knd:KeyKind prog w K) (L:Bool) (o:Obj) (ks:List K):Prop:=
 o.ExactSet/\∃ es ep t,o.data=.set es ep t/\(∃ ks',ks'.Perm ks/\aa (ElK knd) es.toList ks')/\es.size < ay/\t.fits es.size=true/\Good L t
def GS (knd:KeyKind prog w K) (L:Bool) (h:Heap) (a:aB) (ks:List K):Prop:=∃ o,h.get? a=some o/\GO knd L o ks
variable {knd:KeyKind prog w K} {L:Bool} {A:aM} {E:aA->aC->Prop} {s:aC} {a:aB}
theorem GS.at {h h':Heap} {ks:List K} (g:GS knd L h a ks) (k:∀ o,h.get? a=some o->h'.get? a=some o):GS knd L h' a ks:=let ⟨o,e,r⟩:=g; ⟨o,k o e,r⟩
theorem Qm0 {es:List (Int × aA)} {ks:List K} (r:aa (ElK knd) es ks):ElemsOf knd es:=fun e he=>by
 obtain ⟨k,_,q⟩:=qy r he;exact ⟨⟨k,q.1,q.2.1⟩,q.2.2⟩
theorem Q7m {h:Heap} {o:Obj} {es es':Array (Int × aA)} {ep:Nat} {t t':aV} {ks:List K} (ho:h.get? a=some o) (hx:o.ExactSet) (hd:o.data=.set es ep t) (hr:∃ ks',ks'.Perm ks/\aa (ElK knd) es'.toList ks') (hb:es'.size < ay) (hf:t'.fits es'.size=true) (hg:Good L t') :
  (h.update a (Obj.putSet es' t')).get? a=some { o with data:=.set es' (ep + 1) t' }/\GS knd L (h.update a (Obj.putSet es' t')) a ks:=by
 have e:=Heap.get?_update_self (Obj.putSet es' t') ho (by rw [putSet_of es' t' hd]; rfl);rw [putSet_of es' t' hd] at e;exact ⟨e,_,e,hx,es',ep + 1,t',rfl,hr,hb,hf,hg⟩
theorem Qaf {gv:Bool->Sem Unit} (hgv:∀ (b:Bool) (s':aC) (Z:Unit->aC->Prop),Z () s'->aF (aI prog w) A (gv b) Z E s') {o:Obj} {es es1:Array (Int × aA)} {ep:Nat} {t t2:aV} {ks:List K} (ho:s.heap.get? a=some o) (hx:o.ExactSet) (hd:o.data=.set es ep t)
  (hr:∃ ks',ks'.Perm ks/\aa (ElK knd) es1.toList ks') (hb:es1.size < ay) (hf:t2.fits es1.size=true) (hg:Good L t2) {wd:Bool} {R:Option Bool->aC->Prop} (h:∀ h',Heap.SameBut a s.heap h'->GS knd L h' a ks->R (some true) { s with heap:=h' }) :
  aF (aI prog w) A (do
    storeSet a es1 t2
    if (!wd && t2.tooFull)=true then do
        gv (relayAll t2 es1 (SetTable.grown es1.size)).2.2
        storeSet a (relayAll t2 es1 (SetTable.grown es1.size)).1 (relayAll t2 es1 (SetTable.grown es1.size)).2.1
        pure (some true)
     else pure (some true)) R E s:=by
 refine aD (wpAny_storeSet_of ho hd ?_ (fits_of_scanBound hb));obtain ⟨o1,g1⟩:=Q7m (knd:=knd) (L:=L) ho hx hd hr hb hf hg;have sb:=Heap.SameBut.update s.heap a (Obj.putSet es1 t2)
 split
 ·have p:=relayAll_perm t2 es1 (SetTable.grown es1.size);have f:=relayAll_fits t2 es1 (SetTable.grown es1.size);have gg:=hg.relayAll es1 (SetTable.grown es1.size);generalize relayAll t2 es1 (SetTable.grown es1.size)=rl at p f gg ⊢;obtain ⟨es2,t3,gave⟩:=rl;dsimp only at p f gg ⊢;have hz:es2.size=es1.size:=by rw [<- Array.length_toList,p.length_eq,Array.length_toList]
  have hr2:∃ ks',ks'.Perm ks/\aa (ElK knd) es2.toList ks':=by
   obtain ⟨k1,p1,r1⟩:=hr;obtain ⟨k2,r2,p2⟩:=Q0h p r1;exact ⟨k2,p2.trans p1,r2⟩
  refine aD (hgv _ _ _ ?_);refine aD (wpAny_storeSet_of o1 rfl ?_ (fits_of_scanBound (by rw [hz]; exact hb)));obtain ⟨_,g2⟩:=Q7m (knd:=knd) (L:=L) o1 hx rfl hr2 (by rw [hz]; exact hb) f gg;exact aJ (h _ (sb.trans (Heap.SameBut.update _ a _)) g2)
 ·exact aJ (h _ sb g1)
def yb (ks:List K) (k:K):List K:=if k∈ks then ks else ks ++ [k]
theorem Qkr {ks:List K} {k:K} {x:aA} {Q:Bool->aC->Prop} (hk:knd.is k x=true) (hs:x.scannable=true) (g:GS knd L s.heap a ks) (room:ks.length + 1 < ay)
  (h:∀ b h',Heap.SameBut a s.heap h'->GS knd L h' a (yb ks k)->Q b { s with heap:=h' }):aF (aI prog w) A (setAddHashed a x (knd.hash k)) Q E s:=by
 obtain ⟨o,ho,hx,es,ep,t,hd,⟨k0,p0,r0⟩,hb,hf,hg⟩:=g;have hel:=Qm0 r0;have hn:es.size=ks.length:=by rw [<- Array.length_toList,Paired.length r0,p0.length_eq]
 unfold setAddHashed setAddHashedIn;refine aj (aD (wpAny_setState_of ho hd hf ?_));dsimp only;rw [byScan_of hs hb hel,bS rfl];unfold setAddByScan;refine aD ?_;refine aD (bC ?_);refine aD (wpAny_setScan_of hk ho hd hf hel ?_);cases z:List.findIdx? (fun e=>knd.is k e.2) es.toList with
 | some j=>
  dsimp only;obtain ⟨hj,pj,_⟩:=List.findIdx?_eq_some_iff_getElem.mp z;have km:k∈ks:=by
   obtain ⟨k',hk',q⟩:=qy r0 (List.getElem_mem hj);have:=knd.inj _ k k' pj q.1;rw [this]; exact p0.mem_iff.mp hk'
  refine aJ (aJ ?_);have e:s={ s with heap:=s.heap }:=by cases s; rfl
  rw [e];refine h _ s.heap (Heap.SameBut.refl a s.heap) ?_;unfold yb;rw [bS km];exact ⟨o,ho,hx,es,ep,t,hd,⟨k0,p0,r0⟩,hb,hf,hg⟩
 | none=>
  dsimp only;have km:k∉ks:=fun hm=>by
   obtain ⟨e,he,q⟩:=Q2g r0 (p0.mem_iff.mpr hm);have:=List.findIdx?_eq_none_iff.mp z e he;rw [q.1] at this; exact Bool.noConfusion this
  have p:=layNew_perm t es (knd.hash k) x;have f:=layNew_fits t es (knd.hash k) x;have gg:=hg.layNew es (knd.hash k) x;generalize layNew t es (knd.hash k) x=ly at p f gg ⊢;obtain ⟨es1,t1,wd,gave⟩:=ly;dsimp only at p f gg ⊢;rw [Array.toList_push] at p;have hr:∃ ks',ks'.Perm (yb ks k)/\aa (ElK knd) es1.toList ks':=by
   obtain ⟨k1,r1,p1⟩:=Q0h p (Q0g (F:=ElK knd) (a:=(knd.hash k,x)) (b:=k) ⟨hk,rfl,hs⟩ r0);refine ⟨k1,p1.trans ?_,r1⟩;unfold yb;rw [bT km];exact p0.append_right _
  have hz:es1.size=ks.length + 1:=by rw [<- Array.length_toList,p.length_eq,D0,Array.length_toList,hn]; rfl
  have hgv:∀ (b:Bool) (s':aC) (Z:Unit->aC->Prop),Z () s'->aF (aI prog w) A (match b with | true=>rule "set.scan.the-table-gave-way" | false=>pure ()) Z E s':=fun b s' Z q=>by
   cases b
   ·exact aJ q
   ·exact bC q
  refine aD (hgv _ _ _ ?_);have fin:∀ h',Heap.SameBut a s.heap h'->GS knd L h' a (yb ks k)->aF (aI prog w) A (match some true with | some added=>pure added | none=>setAddHashedIn a x (knd.hash k) 99999) Q E { s with heap:=h' }:=fun h' sb g=>aJ (h _ h' sb g)
  split
  ·refine aD ?_;rw [hashByValue_scannable 8 hs];refine aJ ?_;refine Qaf (wd:=wd) hgv ho hx hd hr (by rw [hz]; exact room) ?_ ?_ fin
   ·split
    ·exact f
    ·exact SetTable.fits_plain_off f
   ·split
    ·exact gg
    ·exact gg.unplain
  ·refine aD (aJ ?_);simp only [↓reduceIte];exact Qaf (wd:=wd) hgv ho hx hd hr (by rw [hz]; exact room) f gg fin
end
theorem Q13:entryFor table "set.__iter__" = some Builtin.«frozenset.__iter__»:=entryFor_alias (id' := "frozenset.__iter__") (by kernel_rfl) rfl (by decide +kernel) (by kernel_rfl)
theorem slot_setit_next:Slot "set_iterator" "__next__" "set_iterator.__next__" :=
 .of (owner := "set_iterator") (n := "__next__") (by rw [typeLookup_type,builtinLookup_eq_fast]; kernel_rfl) (by decide +kernel) (by decide +kernel) (by decide +kernel) (by first | exact .inl (by decide +kernel) | exact .inr (by decide +kernel)) (by rw [bE]; kernel_rfl)
theorem Ki:entryFor table "set_iterator.__next__" = some Builtin.«set_iterator.__next__»:=entryFor_of_tree (by kernel_rfl)
theorem Q0i:Manifest.owners.lookup (String.ofList ['r','o','t','a','r','e','t','i','_','t','e','s'].reverse)=some Manifest.sig_set_iterator:=by kernel_rfl
theorem qi (a:aA):argsOk "set_iterator.__next__" ⟨[a],[]⟩:=by
 unfold argsOk; rw [signature?_of (id := "set_iterator.__next__") (n:=['_','_','t','x','e','n','_','_']) (o:=['r','o','t','a','r','e','t','i','_','t','e','s']) (by kernel_rfl) Q0i]; kernel_rfl
def SetIt (h:Heap) (it:aB) (f:aA) (i:Nat) (d:aB) (n ep:Nat):Prop:=
 h.get? it=some { cls:=.type "set_iterator",dict:=none,data:=.fields #[f,aS i,.ref d,aS n,aS ep],slots:=#[] }
def RawS (h:Heap) (a:aB) (es:Array (Int × aA)) (ep:Nat) (t:aV):Prop:=∃ o,h.get? a=some o/\o.ExactSet/\o.data=.set es ep t
theorem RawS.at {h h':Heap} {a:aB} {es:Array (Int × aA)} {ep:Nat} {t:aV} (x:RawS h a es ep t) (k:∀ o,h.get? a=some o->h'.get? a=some o):RawS h' a es ep t:=let ⟨o,e,r⟩:=x; ⟨o,k o e,r⟩
theorem RawS.lt {h:Heap} {a:aB} {es:Array (Int × aA)} {ep:Nat} {t:aV} (x:RawS h a es ep t):a < h.objs.size:=let ⟨_,e,_⟩:=x; O8 e
theorem SetIt.at {h h':Heap} {it d:aB} {f:aA} {i n ep:Nat} (x:SetIt h it f i d n ep) (k:∀ o,h.get? it=some o->h'.get? it=some o):SetIt h' it f i d n ep:=k _ x
section
variable {prog:aL} {w:aK} {A:aM} {E:aA->aC->Prop} {s:aC}
theorem RawS.typeIs {a:aB} {es:Array (Int × aA)} {ep:Nat} {t:aV} (x:RawS s.heap a es ep t):s.TypeIs (.ref a) "set" := let ⟨o,e,r,_⟩:=x; ⟨o,e,r.1⟩
theorem SetIt.typeIs {it d:aB} {f:aA} {i n ep:Nat} (x:SetIt s.heap it f i d n ep):s.TypeIs (.ref it) "set_iterator" := ⟨_,x,rfl⟩
theorem Xc {a:aB} {es:Array (Int × aA)} {ep:Nat} {t:aV} {Q:(Array (Int × aA) × Nat × aV)->aC->Prop} (x:RawS s.heap a es ep t) (hf:t.fits es.size=true) (h:Q (es,ep,t) s):aF (aI prog w) A (setState a) Q E s:=by
 obtain ⟨o,ho,_,hd⟩:=x;exact wpAny_setState_of ho hd hf h
theorem Q9h {n:Nat} {Q:Nat->aC->Prop} (hn:n≠0) (h:∀ i d',i < n->Q i { s with drawn:=d' }):aF (aI prog w) A (choose .order n) Q E s:=fun Γ p _=>⟨hn,h _ _ (Nat.mod_lt _ (by omega))⟩
theorem Qf2 {α:Type}:∀ (n:Nat) (xs:List α) (s:aC) {Q:List α->aC->Prop},xs.length=n->(∀ ys d',ys.Perm xs->Q ys { s with drawn:=d' })->aF (aI prog w) A (drawOrder n xs) Q E s:=by
 intro n
 induction n with
 | zero=>
  intro xs s Q hl h;rw [List.length_eq_zero_iff.mp hl] at h ⊢;rw [drawOrder];exact aJ (h [] s.drawn (List.Perm.refl _))
 | succ n ih=>
  intro xs s Q hl h;cases xs with
  | nil=>cases hl
  | cons x xs=>
   rw [drawOrder]
   ·refine aD (Q9h (by simp) fun i d' hi=>?_)
    rw [O2 hi];refine aD (ih _ _ (by rw [List.length_eraseIdx_of_lt hi]; omega) fun ys d2 hp=>?_)
    exact aJ (h _ d2 ((hp.cons _).trans (y9 hi)))
   ·simp
end
section
variable {prog:aL} {w:aK} {A:aM} {E:aA->aC->Prop} {s:aC}
theorem Qg7 {a:aB} {es:Array (Int × aA)} {ep:Nat} {t:aV} {Q:Nat->aC->Prop} (x:RawS s.heap a es ep t) (hf:t.fits es.size=true) (h:Q es.size s):aF (aI prog w) A (Builtin.Frozenset.sizeOf a) Q E s:=by
 unfold Builtin.Frozenset.sizeOf setEntries;exact aD (aD (Xc x hf (aJ (aJ h))))
theorem Q6m {a:aB} {es:Array (Int × aA)} {ep:Nat} {t:aV} {Q:Nat->aC->Prop} (x:RawS s.heap a es ep t) (hf:t.fits es.size=true) (h:Q ep s):aF (aI prog w) A (setEpoch a) Q E s:=by
 unfold setEpoch;exact aD (Xc x hf (aJ h))
theorem Q26 {a:aB} {es:Array (Int × aA)} {ep:Nat} {t:aV} {Q:Array (Int × aA)->aC->Prop} (x:RawS s.heap a es ep t) (hf:t.fits es.size=true) (h:Q es s):aF (aI prog w) A (setEntries a) Q E s:=by
 unfold setEntries;exact aD (Xc x hf (aJ h))
theorem Q01 {Q:Bool->aC->Prop} (h:Q (w.params.followText "set-order") s):aF (aI prog w) A setsByText Q E s:=by
 unfold setsByText;exact aD (wpAny_askSetting (aJ h))
def drw (w:aK) (n:Nat) (t:aV):Bool:=!w.params.followText "set-order" && (!t.plain && decide (n > 1))
theorem Qd9 {a:aB} {es:Array (Int × aA)} {ep:Nat} {t:aV} {Q:Bool->aC->Prop} (x:RawS s.heap a es ep t) (hf:t.fits es.size=true) (h:Q (drw w es.size t) s):aF (aI prog w) A (setDrawn a) Q E s:=by
 unfold setDrawn;exact aD (Xc x hf (aD (Q01 (aJ h))))
theorem Qd3 {a:aB} {es:Array (Int × aA)} {ep:Nat} {t:aV} {Q:aA->aC->Prop} (x:RawS s.heap a es ep t) (hf:t.fits es.size=true) (hz:es.size<=sizeLine)
  (h1:drw w es.size t=false->Q (.ref s.heap.objs.size) { s with heap:=s.heap.push { cls:=.type "set_iterator",data:=.fields #[aS 0,aS 0,.ref a,aS es.size,aS ep] } })
  (h2:drw w es.size t=true->∀ (ys:List Nat) (d':Drawn),ys.Perm (List.range es.size) ->
   Q (.ref (s.heap.objs.size + 1)) { s with heap:=(s.heap.push { cls:=.type "tuple",data:=.seq (ys.map fun (i:Nat)=>aS i).toArray }).push { cls:=.type "set_iterator",data:=.fields #[.ref s.heap.objs.size,aS 0,.ref a,aS es.size,aS ep] },drawn:=d' }) :
  aF (aI prog w) A (pyIter (.ref a)) Q E s:=by
 refine wpAny_pyIter_slot x.typeIs PySem.F.slot_set_iter (ak PySem.F.slot_set_iter x.typeIs Q13 ?_ (PySem.F.args_set_iter_1 _));unfold Builtin.«frozenset.__iter__» Builtin.Frozenset.slot0 Builtin.Frozenset.addrOf slotArgs;show aF _ _ (pure a >>= _) _ _ _;refine aD (aJ ?_);refine aD (Qg7 x hf ?_);refine aD (Qd9 x hf ?_);cases z:drw w es.size t with
 | false=>
  rw [bT D2];refine aD (aJ ?_);refine aD (Q6m x hf ?_);refine aD (ao ?_);exact aJ ⟨_,rfl, "set_iterator",_,⟨_,I0 _ rfl,rfl⟩,slot_setit_next.lookup,h1 z⟩
 | true=>
  rw [bS rfl];refine aD ?_;refine Qf2 _ _ _ F8 fun ys d' hp=>?_
  refine aD (wpAny_newTuple ?_ (by rw [O3,hp.length_eq,F8]; exact hz));have x':RawS (s.heap.push { cls:=.type "tuple",data:=.seq (ys.map fun (i:Nat)=>aS i).toArray }) a es ep t:=x.at fun o e=>O1 _ e
  refine aD (Q6m (s:={ s with heap:=s.heap.push { cls:=.type "tuple",data:=.seq (ys.map fun (i:Nat)=>aS i).toArray },drawn:=d' }) x' hf ?_)
  refine aD (ao ?_);refine aJ ⟨_,rfl, "set_iterator",_,⟨_,I0 _ rfl,rfl⟩,slot_setit_next.lookup,?_⟩;have:=h2 z ys d' hp
  rwa [show s.heap.objs.size + 1=(s.heap.push { cls:=.type "tuple",data:=.seq (ys.map fun (i:Nat)=>aS i).toArray }).objs.size from (E4 _ _).symm] at this
end
def byT (w:aK):Bool:=!w.params.followText "set-order"
def Z3 (w:aK):Obj:={ cls:=.type "set",dict:=none,data:=.set #[] 0 (.fresh 0 0 (byT w)) }
def Wd {K:Type} [DecidableEq K] (ks:List K):List K:=ks.foldl yb []
theorem Qbd {K:Type} [DecidableEq K] (ks:List K) (k:K):Wd (ks ++ [k])=yb (Wd ks) k:=by unfold Wd; rw [List.foldl_append]; rfl
theorem jf {K:Type} [DecidableEq K]:∀ (ks acc:List K),(ks.foldl yb acc).length<=acc.length + ks.length
 | [],acc=>by simp
 | k :: ks,acc=>by
  have h1:=jf ks (yb acc k);have h2:(yb acc k).length<=acc.length + 1:=by unfold yb; split <;> simp
  rw [List.foldl_cons,E1];omega
theorem Qee {K:Type} [DecidableEq K] (ks:List K):(Wd ks).length<=ks.length:=by unfold Wd; have:=jf ks []; simpa using this
section
variable {prog:aL} {w:aK} {K:Type} [DecidableEq K] {knd:KeyKind prog w K} {A:aM} {R:Result->aC->Prop}
theorem Q6f {I D:aB} {fp:List aB} {n:Nat} {P:Nat->aA->Prop} {St:Nat->Heap->Prop} {ks:List K} (W:Walks prog w A.in1 I fp [I] n P St) (hD:D∉fp) (hn:n=ks.length)
  (hv:∀ i v,P i v->∃ k,ks[i]?=some k/\knd.is k v=true/\v.scannable=true) (hb:ks.length + 1 < ay) :
  ∀ (k i:Nat) (s:aC),n - i=k->i<=n->St i s.heap->GS knd (byT w) s.heap D (Wd (ks.take i)) ->
   (∀ h' tk,GS knd (byT w) h' D (Wd ks)->(∀ b o,b∉[D,I]->s.heap.get? b=some o->h'.get? b=some o)->R (.ok (.ret .none)) { s with heap:=h',toks:=tk }) ->
   codeAny (aI prog w) A (.builtin "set.update.loop" ⟨[.ref D,.ref I],[]⟩) R s:=by
 have hDI:D≠I:=fun z=>hD (W.sub D (by simp [z]))
 intro k
 induction k with
 | zero=>
  intro i s hk hi hst g hR;have e:i=n:=by omega
  subst e;refine bD PyProof.Rows.F.entry_set_update_loop ?_;rw [Around.under_plainId PyProof.Rows.F.plain_set_update_loop _];show aF _ A.in1 (af (.ref I) >>= _) _ _ s;refine aD (W.done s _ _ hst fun h' tk hm=>?_);show aF _ A.in1 (ret Value.none) _ _ _;rw [hn,List.take_length] at g;exact aJ (hR h' tk (g.at fun o q=>hm D o (by simpa using hDI) q) fun b o hb' q=>hm b o (fun z=>hb' (O7 _ z)) q)
 | succ k ih=>
  intro i s hk hi hst g hR;have hlt:i < n:=by omega
  refine bD PyProof.Rows.F.entry_set_update_loop ?_;rw [Around.under_plainId PyProof.Rows.F.plain_set_update_loop _];show aF _ A.in1 (af (.ref I) >>= _) _ _ s;refine aD (W.item i s _ _ hlt hst fun v h1 tk hP hst1 hm=>?_);obtain ⟨x,hx,h2,h3⟩:=hv i v hP;have g1:GS knd (byT w) h1 D (Wd (ks.take i)):=g.at fun o q=>hm D o (by simpa using hDI) q
  show aF _ A.in1 (ai [v] (setAdd D v) >>= _) _ _ _;refine aD (aj ?_);unfold setAdd;refine aj (aD (knd.pyHash (k:=x) h2 ?_));have room:(Wd (ks.take i)).length + 1 < ay:=by
   have:=Qee (ks.take i);have:(ks.take i).length<=ks.length:=by rw [F7]; omega
   omega
  refine Qkr (knd:=knd) (s:={ s with heap:=h1,toks:=tk + 1 }) h2 h3 g1 room fun b h' sb g2=>?_
  have e1:ks.take (i + 1)=ks.take i ++ [x]:=by rw [List.take_succ,hx]; rfl
  rw [<- Qbd,<- e1] at g2;refine aJ ⟨bJ PyProof.Rows.F.plain_set_update_loop _,ih (i + 1) _ (by omega) hlt (W.frame _ h1 h' hst1 fun b hb o q=>?_) g2 fun h' tk' g' k'=>hR h' tk' g' fun b o hb q=>k' b o hb ?_⟩
  ·exact (sb.2 b fun z=>hD (by rw [<- z]; exact hb)).trans q
  ·refine (sb.2 b fun z=>hb (by simp [z])).trans (hm b o (fun z=>hb (O7 _ z)) q)
theorem Qa0 {s:aC} {E:aA->aC->Prop} (a:aA) {Z:aA->aC->Prop} (h:Z (.ref s.heap.objs.size) { s with heap:=s.heap.push (Z3 w) }) :
  codeAny (aI prog w) A (.call (.builtin "set.__new__") ⟨[.type "set",a],[]⟩) (wants Z E) s:=by
 refine codeAny_of_tree ?_;show aF _ A.in1 (do checkBuiltinCall "set.__new__" ⟨[.type "set",a],[]⟩; again (.builtin "set.__new__" ⟨[.type "set",a],[]⟩)) _ _ s;refine aD (wpAny_of_eq (F.newCall_set_1 a) (aJ ⟨bJ F.plain_set_new _,bD F.entry_set_new ?_⟩));rw [Around.under_plainId F.plain_set_new _];unfold Builtin.«set.__new__» Builtin.Frozenset.newClass;have hs:=sub_set_self;unfold Z3 byT at h;obtain ⟨hp,g,d,tk,os⟩:=s;dsimp only
 wp_walk
 refine wpAny_askSetting (aJ ?_);dsimp only;simp only [newObj];refine aD (wpAny_alloc (aJ ?_));exact aJ h
theorem Q3f:isSubtype (.type "list") (.type "set")=pure false:=by rw [bE]; kernel_rfl
theorem Q1w:isSubtype (.type "list") (.type "frozenset")=pure false:=by rw [bE]; kernel_rfl
set_option maxHeartbeats 3200000 in
theorem Q6e {s:aC} {E:aA->aC->Prop} {l:aB} {items:Array aA} {ks:List K} {Q:aA->aC->Prop} (hh:A.handled=none) (hl:s.heap.IsList l items) (hn:items.size=ks.length)
  (hv:∀ (i:Nat) (v:aA),items[i]?=some v->∃ k,ks[i]?=some k/\knd.is k v=true/\v.scannable=true) (hb:ks.length + 1 < ay)
  (h:∀ h' tk,GS knd (byT w) h' s.heap.objs.size (Wd ks)->(∀ b o,s.heap.get? b=some o->h'.get? b=some o)->Q (.ref s.heap.objs.size) { s with heap:=h',toks:=tk }) :
  aF (aI prog w) A (call (.type "set") [.ref l]) Q E s:=by
 obtain ⟨cc,tl,hmro⟩:=F.called_set.mro;have m1:=F.called_set.made;have m2:=F.called_set.sub;refine wpAny_call (codeAny_of_tree ?_);show aF _ _ (callAny (.type "set") _) _ _ _;refine aJ ⟨Code.quiet_builtin _ (by decide +kernel),bD F.entry_type_call ?_⟩;rw [Around.under_plain (weight_type_call_type "set" [.ref l] []) rfl];have m3:=F.called_set.notType;have m4:=F.called_set.canCreate;have m5:=F.typeCall_set_1 (.ref l)
 repeat (any_goals (first | assumption | wp_step))
 refine bH (Qa0 (.ref l) (E:=E) (Z:=fun ob s1=>ob=.ref s.heap.objs.size/\s1={ s with heap:=s.heap.push (Z3 w) }) ⟨rfl,rfl⟩) fun rr s1 q=>?_
 cases rr with
 | error e=>exact q
 | ok fl=>
  cases fl with
  | ret ob=>
   obtain ⟨rfl,rfl⟩:=q;have o1:(s.heap.push (Z3 w)).get? s.heap.objs.size=some (Z3 w):=I0 _ rfl;have hT:Shared.TypeIs { s with heap:=s.heap.push (Z3 w) } (.ref s.heap.objs.size) "set" := ⟨_,o1,rfl⟩;have n1:=F.called_set.init.lookup;have n2:=F.called_set.init.bind (.ref s.heap.objs.size)
   repeat (any_goals (first | assumption | wp_step))
   refine bH (codeAny_call_builtin (R:=wants (fun r s2=>r=.none/\∃ h' tk,s2={ s with heap:=h',toks:=tk }/\GS knd (byT w) h' s.heap.objs.size (Wd ks)/\∀ b o,s.heap.get? b=some o->h'.get? b=some o) E) F.called_set.init.plain F.entry_set_init (check_set_init_1 hT ?_)) fun r2 s2 q2=>?_
   ·obtain ⟨ol,hol,hcl,nl,hdl⟩:=hl;obtain ⟨ocls,odict,odata,oslots⟩:=ol;simp only at hcl hdl;subst hcl; subst hdl;have hol':(s.heap.push (Z3 w)).get? l=some { cls:=.type "list",dict:=odict,data:=.seq items nl,slots:=oslots }:=O1 _ hol;have a1:=Q3f;have a2:=Q1w;have a3:(Value.type "list" == Value.type "dict")=false:=by decide
    have hl1:(s.heap.push (Z3 w)).IsList l items:=⟨_,hol',rfl,nl,rfl⟩;unfold Z3 at o1 hT hol' hl1 ⊢;unfold Builtin.«set.__init__» noKeywords Builtin.Frozenset.updateFrom;generalize hPI:pyIter=PI
    wp_walk
    subst hPI;refine wpAny_pyIter_list hl1 ?_;refine aD (wpAny_runValue ?_);have b0:l < s.heap.objs.size:=O8 hol;have b1:l≠(s.heap.push (Z3 w)).objs.size:=by rw [E4]; exact D4 (Nat.lt_succ_of_lt b0)
    have b2:s.heap.objs.size≠(s.heap.push (Z3 w)).objs.size:=by rw [E4]; exact D4 (Nat.lt_succ_self _)
    have W:=Walks.list (prog:=prog) (w:=w) (A:=A.in1.in1.in1) (by simpa using hh) (s.heap.push (Z3 w)).objs.size l b1 items;refine Q6f (knd:=knd) W (by simp only [D3,List.not_mem_nil,or_false,not_or]; exact ⟨b2,Nat.ne_of_gt b0⟩) hn (fun i v hP=>hv i v hP) hb items.size 0 _ (by omega) (Nat.zero_le _) ⟨⟨_,I0 _ rfl,rfl,rfl⟩,hl1.push _⟩ ?g0 fun h' tk g' k'=>?gR
    case g0=>
     refine ⟨_,O1 _ o1,⟨rfl,rfl,rfl⟩,#[],0,_,rfl,⟨[],by simp [Wd],.nil⟩,by unfold ay; simp,by rfl,?_,rfl,rfl⟩;exact List.Pairwise.nil
    case gR=>
     show aF _ _ _ _ _ _;refine aJ ?_;show aF _ _ (ret Value.none) _ _ _;refine aJ ⟨rfl,h',tk,rfl,g',fun b o e=>?_⟩;have c0:=O8 e;refine k' b o ?_ (O1 _ (O1 _ e));simp only [D3,List.not_mem_nil,or_false,not_or];exact ⟨D4 c0,D4 (by rw [E4]; exact Nat.lt_succ_of_lt c0)⟩
   ·cases r2 with
    | error e=>exact q2
    | ok fl2=>
     cases fl2 with
     | ret r=>
      obtain ⟨rfl,h',tk,rfl,g',k'⟩:=q2
      repeat (any_goals (first | assumption | wp_step))
      exact h h' tk g' k'
     | _=>exact q2.elim
  | _=>exact q.elim
theorem Q1v:isSubtype (.type "tuple") (.type "set")=pure false:=by rw [bE]; kernel_rfl
theorem Q0r:isSubtype (.type "tuple") (.type "frozenset")=pure false:=by rw [bE]; kernel_rfl
set_option maxHeartbeats 3200000 in
theorem Q55 {s:aC} {E:aA->aC->Prop} {l:aB} {items:Array aA} {ks:List K} {Q:aA->aC->Prop} (hh:A.handled=none) (hl:s.heap.IsTuple l items) (hn:items.size=ks.length)
  (hv:∀ (i:Nat) (v:aA),items[i]?=some v->∃ k,ks[i]?=some k/\knd.is k v=true/\v.scannable=true) (hb:ks.length + 1 < ay)
  (h:∀ h' tk,GS knd (byT w) h' s.heap.objs.size (Wd ks)->(∀ b o,s.heap.get? b=some o->h'.get? b=some o)->Q (.ref s.heap.objs.size) { s with heap:=h',toks:=tk }) :
  aF (aI prog w) A (call (.type "set") [.ref l]) Q E s:=by
 obtain ⟨cc,tl,hmro⟩:=F.called_set.mro;have m1:=F.called_set.made;have m2:=F.called_set.sub;refine wpAny_call (codeAny_of_tree ?_);show aF _ _ (callAny (.type "set") _) _ _ _;refine aJ ⟨Code.quiet_builtin _ (by decide +kernel),bD F.entry_type_call ?_⟩;rw [Around.under_plain (weight_type_call_type "set" [.ref l] []) rfl];have m3:=F.called_set.notType;have m4:=F.called_set.canCreate;have m5:=F.typeCall_set_1 (.ref l)
 repeat (any_goals (first | assumption | wp_step))
 refine bH (Qa0 (.ref l) (E:=E) (Z:=fun ob s1=>ob=.ref s.heap.objs.size/\s1={ s with heap:=s.heap.push (Z3 w) }) ⟨rfl,rfl⟩) fun rr s1 q=>?_
 cases rr with
 | error e=>exact q
 | ok fl=>
  cases fl with
  | ret ob=>
   obtain ⟨rfl,rfl⟩:=q;have o1:(s.heap.push (Z3 w)).get? s.heap.objs.size=some (Z3 w):=I0 _ rfl;have hT:Shared.TypeIs { s with heap:=s.heap.push (Z3 w) } (.ref s.heap.objs.size) "set" := ⟨_,o1,rfl⟩;have n1:=F.called_set.init.lookup;have n2:=F.called_set.init.bind (.ref s.heap.objs.size)
   repeat (any_goals (first | assumption | wp_step))
   refine bH (codeAny_call_builtin (R:=wants (fun r s2=>r=.none/\∃ h' tk,s2={ s with heap:=h',toks:=tk }/\GS knd (byT w) h' s.heap.objs.size (Wd ks)/\∀ b o,s.heap.get? b=some o->h'.get? b=some o) E) F.called_set.init.plain F.entry_set_init (check_set_init_1 hT ?_)) fun r2 s2 q2=>?_
   ·obtain ⟨ol,hol,hcl,nl,hdl⟩:=hl;obtain ⟨ocls,odict,odata,oslots⟩:=ol;simp only at hcl hdl;subst hcl; subst hdl;have hol':(s.heap.push (Z3 w)).get? l=some { cls:=.type "tuple",dict:=odict,data:=.seq items nl,slots:=oslots }:=O1 _ hol;have a1:=Q1v;have a2:=Q0r;have a3:(Value.type "tuple" == Value.type "dict")=false:=by decide
    have hl1:(s.heap.push (Z3 w)).IsTuple l items:=⟨_,hol',rfl,nl,rfl⟩;unfold Z3 at o1 hT hol' hl1 ⊢;unfold Builtin.«set.__init__» noKeywords Builtin.Frozenset.updateFrom;generalize hPI:pyIter=PI
    wp_walk
    subst hPI;refine bK hl1 ?_;refine aD (wpAny_runValue ?_);have b0:l < s.heap.objs.size:=O8 hol;have b1:l≠(s.heap.push (Z3 w)).objs.size:=by rw [E4]; exact D4 (Nat.lt_succ_of_lt b0)
    have b2:s.heap.objs.size≠(s.heap.push (Z3 w)).objs.size:=by rw [E4]; exact D4 (Nat.lt_succ_self _)
    have W:=Walks.tuple (prog:=prog) (w:=w) (A:=A.in1.in1.in1) (by simpa using hh) (s.heap.push (Z3 w)).objs.size l b1 items;refine Q6f (knd:=knd) W (by simp only [D3,List.not_mem_nil,or_false,not_or]; exact ⟨b2,Nat.ne_of_gt b0⟩) hn (fun i v hP=>hv i v hP) hb items.size 0 _ (by omega) (Nat.zero_le _) ⟨⟨_,I0 _ rfl,rfl,rfl⟩,hl1.push _⟩ ?g0 fun h' tk g' k'=>?gR
    case g0=>
     refine ⟨_,O1 _ o1,⟨rfl,rfl,rfl⟩,#[],0,_,rfl,⟨[],by simp [Wd],.nil⟩,by unfold ay; simp,by rfl,?_,rfl,rfl⟩;exact List.Pairwise.nil
    case gR=>
     show aF _ _ _ _ _ _;refine aJ ?_;show aF _ _ (ret Value.none) _ _ _;refine aJ ⟨rfl,h',tk,rfl,g',fun b o e=>?_⟩;have c0:=O8 e;refine k' b o ?_ (O1 _ (O1 _ e));simp only [D3,List.not_mem_nil,or_false,not_or];exact ⟨D4 c0,D4 (by rw [E4]; exact Nat.lt_succ_of_lt c0)⟩
   ·cases r2 with
    | error e=>exact q2
    | ok fl2=>
     cases fl2 with
     | ret r=>
      obtain ⟨rfl,h',tk,rfl,g',k'⟩:=q2
      repeat (any_goals (first | assumption | wp_step))
      exact h h' tk g' k'
     | _=>exact q2.elim
  | _=>exact q.elim
end
def Ut (w:aK) (t:aV) (i:Nat):Nat:=if w.params.followText "set-order" = true then 0 else if i=0 then 0 else t.place.getD (i - 1) 0 + 1
def Q5c (w:aK) (a:aB) (ep:Nat) (es:Array (Int × aA)):Array (Int × aA):=if w.params.followText "set-order" = true then pickOrder (w.params.setOrder a ep) es else es
theorem Q48 (w:aK) (a:aB) (ep:Nat) (es:Array (Int × aA)):(Q5c w a ep es).toList.Perm es.toList:=by
 unfold Q5c
 split
 ·exact Qb0 _ _
 ·exact List.Perm.refl _
theorem Qb5 (w:aK) (a:aB) (ep:Nat) (es:Array (Int × aA)):(Q5c w a ep es).size=es.size:=by
 have:=(Q48 w a ep es).length_eq;simpa using this
theorem Q9q {xs:Array Nat} (r:Rise xs) {i:Nat} (h:i < xs.size):SetTable.below xs (xs.getD i 0 + 1)=i + 1:=by
 obtain ⟨b0,b⟩:=xq (j:=xs.getD i 0 + 1) r;have ei:xs[i]?=some (xs.getD i 0):=by rw [Array.getElem?_eq_getElem h]; simp [Array.getD,h]
 have h1:i < SetTable.below xs (xs.getD i 0 + 1):=(b i _ ei).mpr (by omega)
 by_cases z:SetTable.below xs (xs.getD i 0 + 1)=i + 1
 ·exact z
 ·have h2:i + 1 < xs.size:=by omega
  have e2:xs[i + 1]?=some xs[i + 1]:=Array.getElem?_eq_getElem h2;have:=(b (i + 1) _ e2).mp (by omega);have:=r.lt ei e2 (by omega);omega
theorem Q9p {xs:Array Nat} (r:Rise xs):SetTable.below xs 0=0:=by
 obtain ⟨b0,b⟩:=xq (j:=0) r
 by_cases z:SetTable.below xs 0=0
 ·exact z
 ·have h2:0 < xs.size:=by omega
  have:=(b 0 _ (Array.getElem?_eq_getElem h2)).mp (by omega);omega
section
variable {prog:aL} {w:aK} {A:aM} {E:aA->aC->Prop} {s:aC}
theorem Qec {a:aB} {es:Array (Int × aA)} {ep i:Nat} {t:aV} {Q:Option (aA × Nat)->aC->Prop} (x:RawS s.heap a es ep t) (hf:t.fits es.size=true) (g:Good (byT w) t) (hd:drw w es.size t=false) (hi:i<=es.size)
  (h:Q (((Q5c w a ep es)[i]?).map fun e=>(e.2,Ut w t (i + 1))) s):aF (aI prog w) A (setNext a (Ut w t i) i ep) Q E s:=by
 have hp:t.place.size=es.size:=by
  simp only [SetTable.fits,G8,beq_iff_eq,decide_eq_true_eq] at hf;exact hf.1
 unfold setNext;refine aD (Xc x hf ?_);dsimp only;refine aD (Q01 ?_);cases z:w.params.followText "set-order" with
 | true=>
  rw [bS rfl,bT (by simp)];refine aD ?_;unfold setWalk;refine aD (Xc x hf ?_);dsimp only;refine aD (Q01 ?_);rw [z,bS rfl];refine aD (wpAny_askSetting (aJ (aJ ?_)));unfold Q5c Ut at h;rw [bS z,bS z] at h;unfold Ut;rw [bS z];exact h
 | false=>
  rw [bT D2];have hdr:(!t.plain && decide (es.size > 1))=false:=by
   unfold drw at hd;rw [z] at hd;simpa using hd
  have hl:t.led=true:=by rw [g.2.2]; unfold byT; rw [z]; rfl
  unfold Q5c Ut at h;rw [z,bT D2,bT D2,bT (by omega),Nat.add_sub_cancel] at h;have hb:SetTable.below t.place (Ut w t i)=i:=by
   unfold Ut;rw [z,bT D2]
   by_cases q:i=0
   ·rw [bS q,q]; exact Q9p g.1
   ·rw [bT q,Q9q g.1 (by omega)]; omega
  show aF _ _ (if (!t.plain && decide (es.size > 1))=true then _ else _) _ _ _;rw [hdr,bT D2];show aF _ _ ((if (!t.led && !es.isEmpty)=true then _ else _) >>= _) _ _ _;rw [hl];simp only [Bool.not_true,E8,Bool.false_eq_true,if_false];refine aD (aJ ?_);rw [hb];refine aJ ?_
  by_cases q:i < es.size
  ·have e1:es[i]?=some es[i]:=Array.getElem?_eq_getElem q;have e2:t.place[i]?=some (t.place.getD i 0):=by rw [Array.getElem?_eq_getElem (by omega)]; simp [Array.getD,hp,q]
   rw [e1] at h ⊢;rw [e2];exact h
  ·have e1:es[i]?=none:=Array.getElem?_eq_none (by omega);rw [e1] at h ⊢;exact h
end
section
variable {prog:aL} {w:aK} {A:aM} {E:aA->aC->Prop} {s:aC}
theorem qf:Slot "set_iterator" "__iter__" "set_iterator.__iter__" :=
 .of (owner := "set_iterator") (n := "__iter__") (by rw [typeLookup_type,builtinLookup_eq_fast]; kernel_rfl) (by decide +kernel) (by decide +kernel) (by decide +kernel) (by first | exact .inl (by decide +kernel) | exact .inr (by decide +kernel)) (by rw [bE]; kernel_rfl)
theorem Q0c:entryFor table "set_iterator.__iter__" = some Builtin.«dict_keyiterator.__iter__»:=entryFor_alias (id' := "dict_keyiterator.__iter__") (by kernel_rfl) rfl (by decide +kernel) (by kernel_rfl)
theorem Q16 (a:aA):argsOk "set_iterator.__iter__" ⟨[a],[]⟩:=by
 unfold argsOk; rw [signature?_of (id := "set_iterator.__iter__") (n:=['_','_','r','e','t','i','_','_']) (o:=['r','o','t','a','r','e','t','i','_','t','e','s']) (by kernel_rfl) Q0i]; kernel_rfl
theorem Q5b {it d:aB} {f:aA} {i n ep:Nat} {Q:aA->aC->Prop} (hit:SetIt s.heap it f i d n ep) (h:Q (.ref it) s):aF (aI prog w) A (pyIter (.ref it)) Q E s:=by
 refine wpAny_pyIter_slot hit.typeIs qf (ak qf hit.typeIs Q0c ?_ (Q16 _));show aF _ _ (ret (.ref it)) _ _ s;exact aJ ⟨_,rfl, "set_iterator",_,hit.typeIs,slot_setit_next.lookup,h⟩
def yc (w:aK) (t:aV) (h:Heap) (ys:Option (aB × List Nat)) (i:Nat) (f:aA):Prop:=match ys with
 | none=>f=aS (Ut w t i)
 | some (tp,ys)=>f=.ref tp/\h.get? tp=some { cls:=.type "tuple",data:=.seq (ys.map fun (i:Nat)=>aS i).toArray }
def Q3k (w:aK) (a:aB) (ep:Nat) (es:Array (Int × aA)) (ys:Option (aB × List Nat)):List (Int × aA):=match ys with
 | none=>(Q5c w a ep es).toList
 | some (_,ys)=>ys.filterMap fun i=>es[i]?
theorem Q03 {w:aK} {a:aB} {ep:Nat} {es:Array (Int × aA)} {ys:Option (aB × List Nat)} (h:∀ tp l,ys=some (tp,l)->l.Perm (List.range es.size)):(Q3k w a ep es ys).Perm es.toList:=by
 unfold Q3k;cases ys with
 | none=>exact Q48 _ _ _ _
 | some q=>
  obtain ⟨tp,l⟩:=q;refine ((h tp l rfl).filterMap _).trans ?_;rw [filterMap_getElem?_range]
theorem Qh5 {w:aK} {a:aB} {ep:Nat} {es:Array (Int × aA)} {tp:aB} {l:List Nat} (h:l.Perm (List.range es.size)) (i:Nat):(Q3k w a ep es (some (tp,l)))[i]?=(l[i]?).bind fun j=>es[j]?:=by
 have hl:∀ j∈l,j < es.size:=fun j hj=>by have:=h.mem_iff.mp hj; simpa using this
 show (l.filterMap fun i=>es[i]?)[i]?=_;clear h
 induction l generalizing i with
 | nil=>rfl
 | cons x l ih=>
  have hx:=hl x (by simp);rw [List.filterMap_cons_some (b:=es[x]) (Array.getElem?_eq_getElem hx)];cases i with
  | zero=>simp [Array.getElem?_eq_getElem hx]
  | succ i=>simpa using ih i (fun j hj=>hl j (O7 _ hj))
theorem Qd4 {it a:aB} {es:Array (Int × aA)} {ep i:Nat} {t:aV} {ys:Option (aB × List Nat)} {f v:aA} {e:Int} {Q:Option aA->aC->Prop} (hne:a≠it) (hit:SetIt s.heap it f i a es.size ep) (x:RawS s.heap a es ep t) (hf:t.fits es.size=true) (g:Good (byT w) t)
  (hy:yc w t s.heap ys i f) (hn:ys=none->drw w es.size t=false) (hp:∀ tp l,ys=some (tp,l)->l.Perm (List.range es.size)/\tp≠it) (hv:(Q3k w a ep es ys)[i]?=some (e,v))
  (hQ:∀ f' h',SetIt h' it f' (i + 1) a es.size ep->yc w t h' ys (i + 1) f'->Heap.SameBut it s.heap h'->Q (some v) { s with heap:=h' }):aF (aI prog w) A (af (.ref it)) Q E s:=by
 have hT:=hit.typeIs;unfold af;refine aD (wpAny_attempt (wpAny_callSpecial?_slot (name:=Str.ofString "__next__") hT slot_setit_next (ak slot_setit_next hT Ki ?_ (qi _))));unfold Builtin.«set_iterator.__next__» slotArgs;show aF _ _ (fieldsOf (.ref it) >>= _) _ _ _;refine aD (wpAny_fieldsOf hit rfl ?_);show aF _ _ (setEntries a >>= _) _ _ _;refine aD (Q26 x hf ?_);rw [bT (by simp)];cases ys with
 | none=>
  cases hy;show aF _ _ (setNext a (Ut w t i:Int).toNat (i:Int).toNat (ep:Int).toNat >>= _) _ _ _;rw [Int.toNat_natCast,Int.toNat_natCast,Int.toNat_natCast];have hi:i < es.size:=by
   obtain ⟨q,_⟩:=O0.mp hv;have:=(Q03 (w:=w) (a:=a) (ep:=ep) (es:=es) (ys:=none) (fun _ _ z=>nomatch z)).length_eq;rw [this] at q; simpa using q
  refine aD (Qec x hf g (hn rfl) (by omega) ?_);have e0:(Q5c w a ep es)[i]?=some (e,v):=by rw [<- Array.getElem?_toList]; exact hv
  rw [e0];show aF _ _ (setField (.ref it) 0 (aS (Ut w t (i + 1))) >>= _) _ _ _;refine aD (aw hit (by simp) fun h1 o1 sb1=>?_)
  refine aD (aw (s:={ s with heap:=h1 }) o1 (by simp) fun h2 o2 sb2=>?_)
  exact aJ ⟨_,rfl,aJ (hQ _ h2 o2 rfl (sb1.trans sb2))⟩
 | some q=>
  obtain ⟨tp,l⟩:=q;obtain ⟨rfl,ht⟩:=hy;obtain ⟨hl,htp⟩:=hp tp l rfl;rw [Qh5 hl] at hv;cases zl:l[i]? with
  | none=>rw [zl] at hv; cases hv
  | some j=>
   rw [zl] at hv;have hv:es[j]?=some (e,v):=hv;show aF _ _ (seqItems? (.ref tp) >>= _) _ _ _;refine aD (az ht rfl ?_);show aF _ _ (match ((l.map fun (i:Nat)=>aS i).toArray)[(i:Int).toNat]? with | some (.int place _)=>_ | some _=>_ | none=>_) _ _ _
   rw [Int.toNat_natCast,List.getElem?_toArray,D6,zl];show aF _ _ (setNextDrawn a (j:Int).toNat (ep:Int).toNat >>= _) _ _ _;rw [Int.toNat_natCast,Int.toNat_natCast];refine aD ?_;unfold setNextDrawn;refine aD (Xc x hf ?_);dsimp only;rw [bT (by simp),hv];refine aJ ?_;refine aD (aw hit (by simp) fun h1 o1 sb1=>?_)
   exact aJ ⟨_,rfl,aJ (hQ _ h1 o1 ⟨rfl,(sb1.2 tp htp).trans ht⟩ sb1)⟩
theorem Q3u {it:aB} {Q:Option aA->aC->Prop} (hh:A.handled=none) {ho:Heap} (k:Heap.ExtBut it s.heap ho) (hQ:∀ h',Heap.ExtBut it s.heap h'->Q none { s with heap:=h' }) :
  aF (aI prog w) A.in1 (newExc (.type "StopIteration") [] >>= fun e=>bR e) (fun (fin:Fin) s'=>∃ v,fin=.done (.ret v)/\aF (aI prog w) A (pure (some v)) Q E s') (fun e s'=>aF (aI prog w) A (do if <- isInstance e (.type "StopIteration") then pure none else throw e) Q E s') { s with heap:=ho }:=by
 refine aD ?_;simp only [newExc,newTuple];refine aD (ao ?_ (by size_fits));refine aD (m:=firstArgMember _ _) (wpAny_of_eq (a:=Value.none) (by first | rfl | (simp only [firstArgMember]; rfl)) ?_);refine ao ?_ (by size_fits);simp only [bR];refine aD (wpAny_handled ?_);rw [show A.in1.handled=none from hh];refine aD (aJ (wpAny_throw ?_));refine aD (bN (T := "StopIteration") (b:=true) ⟨_,I0 _ rfl,rfl⟩ isSubtype_stop ?_);exact aJ (hQ _ ((k.push _).push _))
theorem Qg6 {it a:aB} {es:Array (Int × aA)} {ep:Nat} {t:aV} {ys:Option (aB × List Nat)} {f:aA} {Q:Option aA->aC->Prop} (hh:A.handled=none) (hit:SetIt s.heap it f es.size a es.size ep) (x:RawS s.heap a es ep t) (hf:t.fits es.size=true) (g:Good (byT w) t)
  (hy:yc w t s.heap ys es.size f) (hn:ys=none->drw w es.size t=false) (hp:∀ tp l,ys=some (tp,l)->l.Perm (List.range es.size)/\tp≠it)
  (hQ:∀ h',Heap.ExtBut it s.heap h'->Q none { s with heap:=h' }):aF (aI prog w) A (af (.ref it)) Q E s:=by
 have hT:=hit.typeIs;unfold af;refine aD (wpAny_attempt (wpAny_callSpecial?_slot (name:=Str.ofString "__next__") hT slot_setit_next (ak slot_setit_next hT Ki ?_ (qi _))));unfold Builtin.«set_iterator.__next__» slotArgs;show aF _ _ (fieldsOf (.ref it) >>= _) _ _ _;refine aD (wpAny_fieldsOf hit rfl ?_);show aF _ _ (setEntries a >>= _) _ _ _;refine aD (Q26 x hf ?_);rw [bT (by simp)];cases ys with
 | none=>
  cases hy;show aF _ _ (setNext a (Ut w t es.size:Int).toNat (es.size:Int).toNat (ep:Int).toNat >>= _) _ _ _;rw [Int.toNat_natCast,Int.toNat_natCast,Int.toNat_natCast];refine aD (Qec x hf g (hn rfl) (O9 _) ?_);have e0:(Q5c w a ep es)[es.size]?=none:=Array.getElem?_eq_none (by rw [Qb5]; exact O9 _);rw [e0];show aF _ _ (setField (.ref it) 2 .none >>= _) _ _ _;refine aD (aw hit (by simp) fun h1 o1 sb1=>?_)
  exact Q3u (s:=s) hh sb1.extBut hQ
 | some q=>
  obtain ⟨tp,l⟩:=q;obtain ⟨rfl,ht⟩:=hy;obtain ⟨hl,htp⟩:=hp tp l rfl;have hz:l[es.size]?=none:=List.getElem?_eq_none (by rw [hl.length_eq,F8]; exact O9 _);show aF _ _ (seqItems? (.ref tp) >>= _) _ _ _;refine aD (az ht rfl ?_);show aF _ _ (match ((l.map fun (i:Nat)=>aS i).toArray)[(es.size:Int).toNat]? with | some (.int place _)=>_ | some _=>_ | none=>_) _ _ _
  rw [Int.toNat_natCast,List.getElem?_toArray,D6,hz];show aF _ _ (setField (.ref it) 0 (aS 0) >>= _) _ _ _;refine aD (aw hit (by simp) fun h1 o1 sb1=>?_)
  refine aD (aw (s:={ s with heap:=h1 }) o1 (by simp) fun h2 o2 sb2=>?_)
  exact Q3u (s:=s) hh (sb1.trans sb2).extBut hQ
def Q5u (it a:aB) (ys:Option (aB × List Nat)):List aB:=match ys with
 | none=>[it,a]
 | some (tp,_)=>[it,a,tp]
theorem Qar {it a:aB} {es:Array (Int × aA)} {ep:Nat} {t:aV} {ys:Option (aB × List Nat)} (hh:A.handled=none) (hne:a≠it) (hf:t.fits es.size=true) (g:Good (byT w) t) (hn:ys=none->drw w es.size t=false) (hp:∀ tp l,ys=some (tp,l)->l.Perm (List.range es.size)/\tp≠it) :
  Walks prog w A it (Q5u it a ys) [it] es.size (fun i v=>∃ e,(Q3k w a ep es ys)[i]?=some e/\v=e.2) (fun i h=>RawS h a es ep t/\∃ f,SetIt h it f i a es.size ep/\yc w t h ys i f) where
 sub:=fun b hb=>by
  have:b=it:=by simpa using hb
  subst this;unfold Q5u;cases ys <;> simp
 frame:=fun i h h' st hk=>by
  obtain ⟨x,f,h1,h2⟩:=st;have m1:it∈Q5u it a ys:=by unfold Q5u; cases ys <;> simp
  have m2:a∈Q5u it a ys:=by unfold Q5u; cases ys <;> simp
  refine ⟨x.at fun o e=>hk a m2 o e,f,h1.at fun o e=>hk it m1 o e,?_⟩;cases ys with
  | none=>exact h2
  | some q=>exact ⟨h2.1,hk q.1 (by unfold Q5u; simp) _ h2.2⟩
 item:=fun i s Q E hi st hQ=>by
  obtain ⟨x,f,h1,h2⟩:=st;have hl:(Q3k w a ep es ys).length=es.size:=by
   have:=(Q03 (w:=w) (a:=a) (ep:=ep) (es:=es) (ys:=ys) fun tp l z=>(hp tp l z).1).length_eq
   simpa using this
  have hlt:i < (Q3k w a ep es ys).length:=by omega
  refine Qd4 hne h1 x hf g h2 hn hp (e:=(Q3k w a ep es ys)[i].1) (v:=(Q3k w a ep es ys)[i].2) (O2 hlt) fun f' h' i1 i2 sb=>?_
  exact hQ _ h' s.toks ⟨_,O2 hlt,rfl⟩ ⟨x.at fun o e=>(sb.2 a hne).trans e,f',i1,i2⟩ fun b o hb e=>sb.extBut b o (fun z=>hb (by simp [z])) e
 done:=fun s Q E st hQ=>by
  obtain ⟨x,f,h1,h2⟩:=st;exact Qg6 hh h1 x hf g h2 hn hp fun h' k=>hQ h' s.toks fun b o hb e=>k b o (fun z=>hb (by simp [z])) e
 self:=fun i s Q E st hQ=>by
  obtain ⟨x,f,h1,h2⟩:=st;exact Q5b h1 hQ
theorem Qep {r:aB} {Q:Bool->aC->Prop} (hT:s.TypeIs (.ref r) "set") (h:Q false s):aF (aI prog w) A (Builtin.List.listLengthHint (.ref r)) Q E s:=by
 unfold Builtin.List.listLengthHint;refine aD (wpAny_specialOf hT PySem.F.slot_set_len.lookup ?_);generalize hid:("set.__len__" : String)=id0
 wp_delta
 rw [show splitId id0=some ("set", "__len__") from by subst hid; decide +kernel];subst hid;refine aD (bN (T := "set") (b:=true) hT (by rw [bE]; kernel_rfl) ?_);refine bP (fun z=>absurd z (by decide)) (fun _=>?_)
 refine bP (fun _=>?_) (fun z=>absurd (by decide +kernel) z)
 exact aD (bI hT (aJ h))
end
section
variable {prog:aL} {w:aK} {A:aM} {E:aA->aC->Prop} {s:aC}
theorem Qhu {R:Result->aC->Prop} {r:aB} {es:Array (Int × aA)} {ep:Nat} {t:aV} (hh:A.handled=none) (x:RawS s.heap r es ep t) (hf:t.fits es.size=true) (g:Good (byT w) t) (S:aB) (hSr:S≠r) (res:aA) (c₀:Nat) (hS:s.heap.get? S=some { cls:=.type "list",data:=.seq #[] c₀ })
  (hR:∀ h' d' tk (acc:Array aA) c',acc.toList.Perm (es.toList.map (·.2))->(∀ b o,b≠S->s.heap.get? b=some o->h'.get? b=some o)->h'.get? S=some { cls:=.type "list",dict:=none,data:=.seq acc c',slots:=#[] }->R (.ok (.ret res)) { s with heap:=h',drawn:=d',toks:=tk }) (hn:es.size<=sizeLine) :
  aF (aI prog w) A.in1 (Builtin.List.listExtendWith (.ref S) (.ref r) res)
   (fun fin s'=>match fin with | .done f=>R (.ok f) s' | .again c'=>c'.quiet=true/\codeAny (aI prog w) A c' R s') (fun e s'=>R (.error e) s') s:=by
 have hS0:=O8 hS;have key:∀ (ys:Option (aB × List Nat)) (I:aB) (h:Heap) (d':Drawn) (c₁ tk:Nat),s.heap.objs.size<=I->(ys=none->drw w es.size t=false)->(∀ tp l,ys=some (tp,l)->l.Perm (List.range es.size)/\tp≠I/\s.heap.objs.size<=tp) ->
   RawS h r es ep t->(∃ f,SetIt h I f 0 r es.size ep/\yc w t h ys 0 f)->(∀ b o,b≠S->s.heap.get? b=some o->h.get? b=some o) ->
   h.get? S=some { cls:=.type "list",data:=.seq #[] c₁ }->codeAny (aI prog w) A (.builtin "list.extend.loop" ⟨[.ref S,.ref I,res],[]⟩) R { s with heap:=h,drawn:=d',toks:=tk }:=by
  intro ys I h d' c₁ tk hI hn0 hp0 hx hst hk hS₁;have hSI:S≠I:=D4 (D1 hS0 hI);have hrI:r≠I:=D4 (D1 x.lt hI);have W:=Qar (prog:=prog) (A:=A.in1) (it:=I) (a:=r) (es:=es) (ep:=ep) (t:=t) (ys:=ys) (by simpa using hh) hrI hf g hn0 fun tp l z=>⟨(hp0 tp l z).1,(hp0 tp l z).2.1⟩
  have hSf:S∉Q5u I r ys:=by
   unfold Q5u;cases ys with
   | none=>simp only [D3,List.not_mem_nil,or_false,not_or]; exact ⟨hSI,hSr⟩
   | some q=>simp only [D3,List.not_mem_nil,or_false,not_or]; exact ⟨hSI,hSr,D4 (D1 hS0 (hp0 q.1 q.2 rfl).2.2)⟩
  refine codeAny_extend_loopS W.toS hn S hSf res es.size 0 _ #[] c₁ rfl (Nat.zero_le _) ⟨hx,hst⟩ hS₁ (ItemsOf.nil _) fun s' acc c' hm hS' hacc=>?_
  rw [Moved.eq_with hm];have pm:=Q03 (w:=w) (a:=r) (ep:=ep) (es:=es) (ys:=ys) fun tp l z=>(hp0 tp l z).1
  have hl:=pm.length_eq;simp only [Array.length_toList] at hl;have e:acc.toList=(Q3k w r ep es ys).map (·.2):=by
   apply List.ext_getElem?;intro i
   by_cases z:i < es.size
   ·have hi:i < acc.size:=by rw [hacc.1]; exact z
    obtain ⟨e,h1,h2⟩:=hacc.2 i acc[i] (Array.getElem?_eq_getElem hi);rw [Array.getElem?_toList,Array.getElem?_eq_getElem hi,h2,D6,h1]; rfl
   ·rw [Array.getElem?_toList,Array.getElem?_eq_none (by rw [hacc.1]; omega),D6,List.getElem?_eq_none (by omega)]; rfl
  refine hR s'.heap d' s'.toks acc c' (by rw [e]; exact pm.map _) (fun b o hb q=>hm.heap b o (fun hmem=>?_) (hk b o hb q)) hS'
  rcases D3.mp hmem with z | hmem
  ·exact hb z
  ·have:=O8 q;rw [F3.mp hmem] at this;exact absurd (D1 this hI) (Nat.lt_irrefl _)
 have main:∀ (bf:Bool->Bool) (ys:Option (aB × List Nat)) (I:aB) (h:Heap) (d':Drawn),s.heap.objs.size<=I->(ys=none->drw w es.size t=false)->(∀ tp l,ys=some (tp,l)->l.Perm (List.range es.size)/\tp≠I/\s.heap.objs.size<=tp) ->
   RawS h r es ep t->(∃ f,SetIt h I f 0 r es.size ep/\yc w t h ys 0 f)->(∀ b o,s.heap.get? b=some o->h.get? b=some o) ->
   aF (aI prog w) A.in1 (do
     let room <- ai [.ref I] (Builtin.List.listLengthHint (.ref r))
     if bf room then
      rule "list.extend.makes-room"
      Builtin.List.listTouch (.ref S)
     again (.builtin "list.extend.loop" ⟨[.ref S,.ref I,res],[]⟩))
    (fun fin s'=>match fin with | .done f=>R (.ok f) s' | .again c'=>c'.quiet=true/\codeAny (aI prog w) A c' R s') (fun e s'=>R (.error e) s') { s with heap:=h,drawn:=d' }:=by
  intro bf ys I h d' hI hn0 hp0 hx hst hk;refine aD (aj (Qep (s:={ s with heap:=h,drawn:=d' }) hx.typeIs ?_));refine bP (fun _=>?_) (fun _=>aJ ⟨bJ PySem.F.plain_extend_loop _,key ys I h d' c₀ s.toks hI hn0 hp0 hx hst (fun b o _ q=>hk b o q) (hk _ _ hS)⟩);refine aD (bC (aD ?_));show aF _ _ (updateSeq S (·.push .none) >>= fun _=>updateSeq S (·.pop)) _ _ _
  have s1:=hk _ _ hS;refine aD (wpAny_updateSeq (s:={ s with heap:=h,drawn:=d' }) s1 rfl ?_);have s2:=Heap.get?_update_self (Obj.mapSeq (·.push Value.none)) s1 rfl;refine wpAny_updateSeq (hz:=by seq_fits) s2 rfl ?_;have s3:=Heap.get?_update_self (Obj.mapSeq (·.pop)) s2 rfl;have oth:∀ b o,b≠S->h.get? b=some o->((h.update S (Obj.mapSeq (·.push Value.none))).update S (Obj.mapSeq (·.pop))).get? b=some o:=fun b o hb q=>(F6 _ _ (Ne.symm hb)).trans ((F6 _ _ (Ne.symm hb)).trans q)
  have nI:I≠S:=Nat.ne_of_gt (D1 hS0 hI);refine aJ ⟨bJ PySem.F.plain_extend_loop _,key ys I _ d' _ s.toks hI hn0 hp0 (hx.at fun o q=>oth r o (Ne.symm hSr) q) ?_ (fun b o hb q=>oth b o hb (hk b o q)) s3⟩;obtain ⟨f,i1,i2⟩:=hst;refine ⟨f,i1.at fun o q=>oth I o nI q,?_⟩;cases ys with
  | none=>exact i2
  | some q=>exact ⟨i2.1,oth q.1 _ (Nat.ne_of_gt (D1 hS0 (hp0 q.1 q.2 rfl).2.2)) i2.2⟩
 unfold Builtin.List.listExtendWith;refine aD (bI (T := "set") x.typeIs ?_);have h1:Builtin.List.listSameRef (.ref S) (.ref r)=false:=by simp [Builtin.List.listSameRef,hSr]
 have e1:(Value.type "set" == Value.type "list")=false:=by decide
 have e2:(Value.type "set" == Value.type "tuple")=false:=by decide
 simp only [h1,e1,e2,Bool.or_false,Bool.false_eq_true,if_false];refine aD (Qd3 x hf hn (fun z=>?_) fun z ys d' hp=>?_)
 ·exact main _ none s.heap.objs.size (s.heap.push { cls:=.type "set_iterator",data:=.fields #[aS 0,aS 0,.ref r,aS es.size,aS ep] }) s.drawn (O9 _) (fun _=>z) (fun _ _ q=>nomatch q) (x.at fun o q=>O1 _ q) ⟨_,I0 _ rfl,by unfold yc Ut; simp⟩ (fun b o q=>O1 _ q)
 ·have hz:s.heap.objs.size + 1=(s.heap.push { cls:=.type "tuple",data:=.seq (ys.map fun (i:Nat)=>aS i).toArray }).objs.size:=(E4 _ _).symm
  exact main _ (some (s.heap.objs.size,ys)) (s.heap.objs.size + 1) ((s.heap.push { cls:=.type "tuple",data:=.seq (ys.map fun (i:Nat)=>aS i).toArray }).push { cls:=.type "set_iterator",data:=.fields #[.ref s.heap.objs.size,aS 0,.ref r,aS es.size,aS ep] }) d' (Nat.le_succ _) (fun q=>nomatch q)
   (fun tp l q=>by cases q; exact ⟨hp,D4 (Nat.lt_succ_self _),O9 _⟩) (x.at fun o q=>O1 _ (O1 _ q)) ⟨.ref s.heap.objs.size,by rw [hz]; exact I0 _ rfl,rfl,O1 _ (I0 _ rfl)⟩ (fun b o q=>O1 _ (O1 _ q))
theorem Qbr {l l':List aA} (p:l'.Perm l):∀ {ns:List Int},IntsAre l ns->∃ ns',IntsAre l' ns'/\ns'.Perm ns:=by
 induction p with
 | nil=>intro ns h; exact ⟨ns,h,List.Perm.refl _⟩
 | cons x _ ih=>
  intro ns h;cases h with
  | cons n t hr=>
   obtain ⟨ks,h1,h2⟩:=ih hr;exact ⟨_,.cons n t h1,h2.cons _⟩
 | swap x y l=>
  intro ns h;cases h with
  | cons n t hr=>
   cases hr with
   | cons n' t' hr'=>exact ⟨_,.cons n' t' (.cons n t hr'),List.Perm.swap _ _ _⟩
 | trans _ _ ih1 ih2=>
  intro ns h;obtain ⟨k1,h1,p1⟩:=ih2 h;obtain ⟨k2,h2,p2⟩:=ih1 h1;exact ⟨k2,h2,p2.trans p1⟩
theorem Q84 {d:aB} {es:Array (Int × aA)} {ep:Nat} {t:aV} {Q:List aA->aC->Prop} (hh:A.handled=none) (x:RawS s.heap d es ep t) (hf:t.fits es.size=true) (g:Good (byT w) t) (hn:es.size<=sizeLine)
  (h:∀ vs h' d' tk,vs.Perm (es.toList.map (·.2))->(∀ b o,s.heap.get? b=some o->h'.get? b=some o)->s.heap.objs.size<=h'.objs.size->Q vs { s with heap:=h',drawn:=d',toks:=tk }):aF (aI prog w) A (collect (.ref d)) Q E s:=by
 unfold collect;refine aD (wpAny_runValue (bD PySem.F.entry_proto_collect ?_));rw [Around.under_plainId PySem.F.plain_proto_collect _];show aF _ A.in1 (newList [] >>= fun l=>again (.builtin "list.__iadd__" ⟨[l,.ref d],[]⟩)) _ _ s
 refine aD (ao ?_);refine aJ ⟨bJ PySem.F.plain_list_iadd _,bD PySem.F.entry_list_iadd ?_⟩;rw [Around.under_plainId PySem.F.plain_list_iadd _];have hS:(s.heap.push { cls:=.type "list",data:=.seq ([]:List aA).toArray }).get? s.heap.objs.size=some { cls:=.type "list",data:=.seq ([]:List aA).toArray }:=I0 _ rfl;have hk0:∀ b o,s.heap.get? b=some o->(s.heap.push { cls:=.type "list",data:=.seq ([]:List aA).toArray }).get? b=some o:=fun b o e=>O1 _ e
 have hne:s.heap.objs.size≠d:=Nat.ne_of_gt x.lt;show aF _ A.in1 (Builtin.List.listExtendWith (.ref s.heap.objs.size) (.ref d) (.ref s.heap.objs.size)) _ _ _;refine Qhu (prog:=prog) (w:=w) (A:=A) (R:=fun r s'=>match r with | .ok (.ret v)=>aF (aI prog w) A (match v with | .ref a=>do { let o <- load a; match o.data with | .seq xs _=>pure xs.toList | _=>unsupported "internal:collect" } | _=>unsupported "internal:collect") Q E s' | .ok _=>False | .error e=>E e s') (s:={ s with heap:=s.heap.push { cls:=.type "list",data:=.seq ([]:List aA).toArray } }) hh (x.at fun o e=>hk0 d o e) hf g s.heap.objs.size hne _ _ hS (fun h' d' tk acc c pm hk hS'=>?_) hn
 show aF _ A (load s.heap.objs.size >>= _) _ _ _;refine aD (wpAny_load hS' ?_);exact aJ (h _ h' d' tk pm (fun b o q=>hk b o (D4 (O8 q)) (hk0 b o q)) (Nat.le_of_lt (O8 hS')))
theorem Q8m {d:aB} {es:Array (Int × aA)} {ep:Nat} {t:aV} {ns:List Int} {Q:aA->aC->Prop} (hh:A.handled=none) (x:RawS s.heap d es ep t) (hf:t.fits es.size=true) (g:Good (byT w) t) (hI:IntsAre (es.toList.map (·.2)) ns) (h64:es.size < 64)
  (h:∀ (out:Array aA) (ns':List Int) (h':Heap) (d':Drawn) (tk D k:Nat),IntsAre out.toList ns'->ns'.Perm ns->ns'.Pairwise (·<=·)->s.heap.objs.size<=D->h'.get? D=some (seqObj "list" out k)->(∀ b o,s.heap.get? b=some o->h'.get? b=some o)->Q (.ref D) { s with heap:=h',drawn:=d',toks:=tk }) :
  aF (aI prog w) A (call (.builtin "sorted") [.ref d]) Q E s:=by
 have hsz:es.size<=sizeLine:=by rw [sizeLine_eq]; omega
 refine Calls.call_function_entry kind_sorted plain_sorted entry_sorted (args_sorted1 _) ?_;unfold Builtin.«sorted»;refine aD (m:=checkCount "sorted" 1 1 _) (aJ ?_);refine aD (Q84 (by simpa using hh) x hf g hsz fun vs h1 d1 tk1 pm keep1 hle=>?_)
 have hl:vs.length=es.size:=by rw [pm.length_eq]; simp
 obtain ⟨n1,i1,p1⟩:=Qbr pm hI;refine aD (wpAny_newList ?_ (by rw [sizeLine_eq]; omega));have hoL:(h1.push (seqObj "list" vs.toArray 0)).get? h1.objs.size=some (seqObj "list" vs.toArray 0):=I0 _ rfl;have keep:∀ b o,s.heap.get? b=some o->(h1.push (seqObj "list" vs.toArray 0)).get? b=some o:=fun b o q=>O1 _ (keep1 b o q)
 show aF _ _ _ _ _ { s with heap:=h1.push (seqObj "list" vs.toArray 0),drawn:=d1,toks:=tk1 };refine aD (aj (ak slot_list_sort ⟨_,hoL,rfl⟩ entry_list_sort (list_sort_tree (s:={ s with heap:=h1.push (seqObj "list" vs.toArray 0),drawn:=d1,toks:=tk1 }) hoL i1 (by omega) fun out ns' a1 a2 a3=>⟨_,rfl,?_⟩) (args_list_sort _)))
 obtain ⟨k,hk⟩:=sortedHeap_at (out:=out) hoL;refine aJ ⟨_,rfl,h out ns' _ d1 tk1 h1.objs.size k a1 (a2.trans p1) a3 hle hk fun b o q=>?_⟩;have hb:=O8 (keep1 b o q);exact (sortedHeap_old (D4 hb) (D1 hb (by rw [E4]; exact Nat.le_succ _))).trans (keep b o q)
end
def Q99 (a:Int):List Int->List Int
 | []=>[a]
 | b :: r=>if a<=b then a :: b :: r else b :: Q99 a r
def Xa:List Int->List Int
 | []=>[]
 | a :: r=>Q99 a (Xa r)
theorem Q0a (a:Int):∀ l,(Q99 a l).Perm (a :: l)
 | []=>List.Perm.refl _
 | b :: r=>by
  rw [Q99]
  split
  ·exact List.Perm.refl _
  ·exact ((Q0a a r).cons b).trans (List.Perm.swap a b r)
theorem Kr:∀ l,(Xa l).Perm l
 | []=>List.Perm.refl _
 | a :: r=>(Q0a a (Xa r)).trans ((Kr r).cons a)
theorem Q0m {a:Int}:∀ {l:List Int},l.Pairwise (·<=·)->(Q99 a l).Pairwise (·<=·)
 | [],_=>by rw [Q99]; exact List.pairwise_singleton _ _
 | b :: r,h=>by
  obtain ⟨h1,h2⟩:=L0.mp h;rw [Q99]
  split
  ·rename_i q;refine L0.mpr ⟨fun x hx=>?_,h⟩;rcases D3.mp hx with rfl | hx
   ·exact q
   ·exact Int.le_trans q (h1 x hx)
  ·rename_i q;refine L0.mpr ⟨fun x hx=>?_,Q0m h2⟩;rcases D3.mp ((Q0a a r).mem_iff.mp hx) with rfl | hx
   ·omega
   ·exact h1 x hx
theorem yi:∀ l,(Xa l).Pairwise (·<=·)
 | []=>List.Pairwise.nil
 | a :: r=>Q0m (yi r)
theorem Q20:∀ {a b:List Int},a.Perm b->a.Pairwise (·<=·)->b.Pairwise (·<=·)->a=b
 | [],b,h,_,_=>(List.nil_perm.mp h).symm
 | x :: a,[],h,_,_=>absurd (List.perm_nil.mp h) (by simp)
 | x :: a,y :: b,h,ha,hb=>by
  obtain ⟨a1,a2⟩:=L0.mp ha;obtain ⟨b1,b2⟩:=L0.mp hb;have e:x=y:=by
   rcases D3.mp (h.mem_iff.mp (D9 (a:=x) (l:=a))) with e | hx
   ·exact e
   ·rcases D3.mp (h.mem_iff.mpr (D9 (a:=y) (l:=b))) with e | hy
    ·exact e.symm
    ·exact Int.le_antisymm (a1 y hy) (b1 x hx)
  subst e;rw [Q20 (List.Perm.cons_inv h) a2 b2]
def Qbu (P:aL) (w:aK) (a:aB) (ks:List Int):HO:=.ext fun h=>GS (intKind P w) (byT w) h a ks
theorem Inv.redraw {X:Cx} {pins:List (aB × Obj)} {σ:List (Option V)} {H:Hp} {s:aC} (I:Inv X pins σ H s) (d':Drawn):Inv X pins σ H { s with drawn:=d' }:=⟨I.ok,I.os,I.bare,I.base,I.loc,I.cell,I.free,I.freeC,I.pin,I.hok,I.len⟩
theorem Q7h {vs:List aA} {ns:List Int} (h:IntsAre vs ns) (i:Nat) (v:aA) (e:vs[i]?=some v):∃ k,ns[i]?=some k/\Value.isInt k v=true/\v.scannable=true:=by
 induction h generalizing i with
 | nil=>simp at e
 | cons n t hr ih=>
  cases i with
  | zero=>simp at e; subst e; exact ⟨n,rfl,by simp [Value.isInt],rfl⟩
  | succ i=>exact ih i (by simpa using e)
section
variable {X:Cx}
theorem Qc8 (hc:X.calm=true):U4 X (.type "set") (fun xs H Q=>∃ p ns,xs=[.ref p]/\(SqL X.K H p (ns.map V.int)\/SqT X.K H p (ns.map V.int))/\ns.length<=4000/\∀ l,H l=none->Q (.ref l) (upd H l (Qbu X.prog X.w l (Wd ns)))):=by
 intro pins s σ H xs us Q I r h;obtain ⟨p,ns,rfl,hq,hl,q⟩:=h;obtain ⟨u,rfl,rx⟩:=K6 r;cases rx;have hb:ns.length + 1 < ay:=by unfold ay; omega
 have fin:∀ (h':Heap) (tk:Nat),GS (intKind X.prog X.w) (byT X.w) h' s.heap.objs.size (Wd ns)->(∀ b o,s.heap.get? b=some o->h'.get? b=some o)->∃ x H',Inv X pins σ H' { s with heap:=h',toks:=tk }/\RelV x (.ref s.heap.objs.size)/\Q x H':=fun h' tk gs k=>by
  refine ⟨.ref s.heap.objs.size,upd H s.heap.objs.size (Qbu X.prog X.w s.heap.objs.size (Wd ns)),I.laid (t':=tk) k (O9 _) ⟨gs,?_,fun h1 h2 z kk=>z.at kk⟩,rfl,q _ (I.hok.fresh (O9 _))⟩;obtain ⟨o,ho,_⟩:=gs;exact ⟨o,ho⟩
 rcases hq with hq | hq
 ·obtain ⟨its,r',pl,hz⟩:=I.list hq;have hi:=Kz r';have hlen:its.length=ns.length:=by rw [<- r'.length,O3]
  exact Q6e (knd:=intKind X.prog X.w) (ks:=ns) (I.ok.hd hc) pl.isList (by rw [O4,hlen]) (fun i v e=>Q7h hi i v (by simpa using e)) hb fin
 ·obtain ⟨its,r',pl,hz⟩:=I.tuple hq;have hi:=Kz r';have hlen:its.length=ns.length:=by rw [<- r'.length,O3]
  exact Q55 (knd:=intKind X.prog X.w) (ks:=ns) (I.ok.hd hc) pl (by rw [O4,hlen]) (fun i v e=>Q7h hi i v (by simpa using e)) hb fin
theorem Q0k {P:aL} {w:aK}:∀ {es:List (Int × aA)} {ks:List Int},aa (ElK (intKind P w)) es ks->IntsAre (es.map (·.2)) ks
 | [],_,.nil=>.nil
 | e :: es,k :: ks,.cons r t=>by
  obtain ⟨tk,h⟩:=Value.isInt_shape r.1;rw [O6,h];exact .cons k tk (Q0k t)
theorem Q1n:∀ {vs:List aA} {ns:List Int},IntsAre vs ns->Vals (ns.map V.int) vs
 | _,_,.nil=>.nil
 | _,_,.cons n t hr=>.cons ⟨t,rfl⟩ (Q1n hr)
theorem Q63 (hc:X.calm=true):U4 X (.builtin "sorted") (fun xs H Q=>∃ p ks,xs=[.ref p]/\H p=some (Qbu X.prog X.w p ks)/\ks.length < 64/\∀ d,H d=none->Q (.ref d) (upd H d (.lst ((Xa ks).map V.int)))):=by
 intro pins s σ H xs us Q I r h;obtain ⟨p,ks,rfl,hp,hl,q⟩:=h;obtain ⟨u,rfl,rx⟩:=K6 r;cases rx;obtain ⟨gs,_,_⟩:=I.hok p _ hp;obtain ⟨o,ho,hx,es,ep,t,hd,⟨k0,p0,r0⟩,hb,hf,hg⟩:=gs;have hz:es.size=ks.length:=by rw [<- Array.length_toList,Paired.length r0,p0.length_eq]
 refine Q8m (I.ok.hd hc) ⟨o,ho,hx,hd⟩ hf hg (Q0k r0) (by omega) fun out ns' h' d' tk D k a1 a2 a3 a4 a5 a6=>?_
 have e:ns'=Xa ks:=Q20 ((a2.trans p0).trans (Kr ks).symm) a3 (yi ks);subst e;refine ⟨.ref D,upd H D (.lst ((Xa ks).map V.int)),Inv.redraw (I.laid (t':=tk) (o:=.lst ((Xa ks).map V.int)) a6 a4 ⟨?_,out.toList,k,Q1n a1,?_⟩) d',rfl,q D (I.hok.fresh a4)⟩
 ·rw [O3,(Kr ks).length_eq,sizeLine_eq]; omega
 ·rw [Array.toArray_toList]; exact a5
end
end L2
namespace L2
open PySem PySem.Spec PyProof.Rows SeqAt
section
variable {prog:aL} {w:aK} {K:Type} [DecidableEq K] {knd:KeyKind prog w K} {A:aM} {E:aA->aC->Prop} {s:aC}
def y0 (us:List (K × aA)) (e:K->Bool) (kv:K × aA):Bool:=match aX us kv.1 with
 | none=>false
 | some _=>e kv.1
theorem Q7u {us:List (K × aA)} {k:K}:(match us.findIdx? (fun kv=>decide (kv.1=k)) with | none=>none | some j=>(us[j]?).map (·.2))=aX us k:=by
 induction us with
 | nil=>rfl
 | cons a us ih=>
  by_cases z:a.1=k
  ·simp [List.findIdx?_cons,aX,z]
  ·have e:aX (a :: us) k=aX us k:=by simp [aX,z]
   rw [e,<- ih,List.findIdx?_cons];simp only [bU z,Bool.false_eq_true,if_false];cases us.findIdx? (fun kv=>decide (kv.1=k)) with
   | none=>rfl
   | some j=>simp
theorem Kc {es:List DictEntry} {kvs:List (K × aA)} (h:Pairs knd es kvs) {i:Nat} (hi:i < es.length):∃ kv,kvs[i]?=some kv/\knd.is kv.1 es[i].key=true/\es[i].val=kv.2:=by
 induction h generalizing i with
 | nil=>simp at hi
 | cons h1 h2 _ ih=>
  cases i with
  | zero=>exact ⟨_,rfl,h1,h2⟩
  | succ i=>
   obtain ⟨kv,e1,e2,e3⟩:=ih (i:=i) (by simpa using hi);exact ⟨kv,by simpa using e1,by simpa using e2,by simpa using e3⟩
theorem Q25 {id:String} {a b:aB} {vs us:List (K × aA)} {e:K->Bool} {Q:Bool->aC->Prop} (ha:(a == ah)=false) (hb:(b == ah)=false) (da:s.heap.DictOf knd a vs) (db:s.heap.DictOf knd b us)
  (he:∀ k v u,(k,v)∈vs->aX us k=some u->EqAt A s v u (e k)) (h:Q (decide (vs.length=us.length) && vs.all (y0 us e)) s):aF (aI prog w) A (Builtin.Dict.samePairs id a b) Q E s:=by
 obtain ⟨oa,ea,pa,h1,_,h3,h4,h5,h6⟩:=da;obtain ⟨ob,eb,pb,g1,_,g3,g4,g5,g6⟩:=db;have la:ea.size=vs.length:=by rw [<- Array.length_toList]; exact h5.length
 have lb:eb.size=us.length:=by rw [<- Array.length_toList]; exact g5.length
 unfold Builtin.Dict.samePairs Builtin.Dict.showsAll;rw [bT (by rw [ha]; exact D2),bT (by rw [hb]; exact D2)];refine aD (aJ (aD (aJ ?_)));refine aD (wpAny_dictEntries h1 h3 ?_);refine aD (wpAny_dictEntries g1 g3 ?_)
 by_cases hl:ea.size=eb.size
 ·rw [bT (by simp [hl])];rw [bV (by omega),F5] at h;refine aD (wpAny_dictEpoch h1 h3 ?_);refine aD ?_;rw [Std.Legacy.Range.forIn_eq_forIn_range'];simp only [Std.Legacy.Range.size,Nat.sub_zero,Nat.add_sub_cancel,Nat.div_one];refine wpAny_forIn_list _ (fun rest r s'=>∃ i,rest=List.range' i (ea.size - i)/\i<=ea.size/\r=(none,())/\s=s'/\(vs.take i).all (y0 us e)=true) _ ?_ ?_ _ _ ⟨0,by simp,Nat.zero_le _,rfl,rfl,by simp⟩
  ·rintro x rest _ s' ⟨i,hr,hi,rfl,rfl,hall⟩;have hlt:i < ea.size:=by
    rcases Nat.lt_or_ge i ea.size with q | q
    ·exact q
    ·rw [Nat.sub_eq_zero_of_le q] at hr; simp at hr
   obtain ⟨rfl,hrest⟩:x=i/\rest=List.range' (i + 1) (ea.size - (i + 1)):=by
    rw [show ea.size - i=(ea.size - (i + 1)) + 1 by omega,List.range'_succ] at hr;injection hr with q1 q2
    exact ⟨q1,q2⟩
   refine aD (wpAny_dictEntries h1 h3 ?_);rw [Array.getElem?_eq_getElem hlt];obtain ⟨kv,k1,k2,k3⟩:=Kc h5 (i:=x) (by simpa using hlt);simp only [Array.getElem_toList] at k2 k3;obtain ⟨k',hk',hh'⟩:=h4 ea[x] (Array.getElem_mem hlt);have ekk:kv.1=k':=knd.inj _ _ _ k2 hk';have hmem:kv∈vs:=E2 k1;have htk:vs.take (x + 1)=vs.take x ++ [kv]:=by rw [List.take_succ,k1]; rfl
   dsimp only;have hv:=Q7u (us:=us) (k:=kv.1);refine aD (aj (aD ?_));rw [hh',<- ekk];refine wpAny_dictFind_of (knd:=knd) k2 g1 g3 g4 ?_;have hfi:(eb.findIdx? fun e=>knd.is kv.1 e.key)=us.findIdx? fun p=>decide (p.1=kv.1):=by
    rw [<- g5.findIdx]; cases eb; simp
   rw [hfi];cases z:us.findIdx? (fun p=>decide (p.1=kv.1)) with
   | none=>
    rw [z] at hv;refine aJ ?_;have hs:y0 us e kv=false:=by unfold y0; rw [<- hv]
    rw [bS (show (!false)=true from rfl)];refine aJ (aJ ?_);have nh:vs.all (y0 us e)=false:=by
     rw [List.all_eq_false];exact ⟨kv,hmem,by rw [hs]; exact D2⟩
    rw [nh] at h;exact h
   | some j=>
    rw [z] at hv;dsimp only at hv;have hj:j < us.length:=(List.findIdx?_eq_some_iff_getElem.mp z).1;have hj2:j < eb.size:=by omega
    rw [O2 hj] at hv;refine aD (wpAny_dictEntries g1 g3 ?_);rw [Array.getElem?_eq_getElem hj2];obtain ⟨q,q1,_,q3⟩:=Kc g5 (i:=j) (by simpa using hj2);simp only [Array.getElem_toList] at q3;have eq2:us[j].2=eb[j].val:=by
     rw [q3];rw [O2 hj] at q1;rw [Option.some.inj q1]
    have hv':aX us kv.1=some eb[j].val:=by rw [<- hv,<- eq2]; rfl
    refine aj (he kv.1 ea[x].val eb[j].val (by rw [k3]; exact hmem) hv' prog w _ _ ?_);have hs:y0 us e kv=e kv.1:=by unfold y0; rw [hv']
    cases zk:e kv.1 with
    | false=>
     rw [zk] at hs;rw [bS (show (!false)=true from rfl)];refine aJ (aJ ?_);have nh:vs.all (y0 us e)=false:=by
      rw [List.all_eq_false];exact ⟨kv,hmem,by rw [hs]; exact D2⟩
     rw [nh] at h;exact h
    | true=>
     rw [zk] at hs;rw [bT (by simp)];refine aD (wpAny_dictEpoch h1 h3 ?_);rw [bT (by simp)];exact aJ ⟨x + 1,hrest,hlt,rfl,rfl,by rw [htk,List.all_append,hall,List.all_cons,hs]; rfl⟩
  ·rintro _ s' ⟨i,hr,hi,rfl,rfl,hall⟩;have hin:i=ea.size:=by
    rcases Nat.lt_or_ge i ea.size with q | q
    ·rw [show ea.size - i=(ea.size - (i + 1)) + 1 by omega,List.range'_succ] at hr; exact nomatch hr
    ·exact Nat.le_antisymm hi q
   subst hin;rw [la,List.take_length] at hall;rw [hall] at h;exact aJ h
 ·rw [bS (by simpa using hl)];rw [bU (by omega),E8] at h;exact aD (bC (aJ h))
end
section
variable {prog:aL} {w:aK} {K:Type} [DecidableEq K] {knd:KeyKind prog w K} {A:aM} {E:aA->aC->Prop} {s:aC}
theorem Qhv (op:Bool) {a b:aB} {vs us:List (K × aA)} {e:K->Bool} {Q:aA->aC->Prop} (ha:(a == ah)=false) (hb:(b == ah)=false) (da:s.heap.DictOf knd a vs) (db:s.heap.DictOf knd b us) (hu:A.units < aW)
  (he:∀ k v u,(k,v)∈vs->aX us k=some u->EqAt A.in1 s v u (e k)) (h:Q (.bool ((decide (vs.length=us.length) && vs.all (y0 us e)) == op)) s):aF (aI prog w) A (aU (if op=true then .Eq else .NotEq) (.ref a) (.ref b)) Q E s:=by
 have ta:s.TypeIs (.ref a) "dict" := da.typeIs;have tb:s.TypeIs (.ref b) "dict" := db.typeIs;cases op with
 | true=>
  refine wpAny_richCompare_same_room (op:=.Eq) ta tb PySem.F.slot_dict_eq (ak PySem.F.slot_dict_eq ta PySem.F.entry_dict_eq ?_ (PySem.F.args_dict_eq_2 _ _)) hu;show aF _ _ (Builtin.Dict.dictSlotArgs "__eq__" ⟨[.ref a,.ref b],[]⟩ >>= _) _ _ _;refine aD ?_;unfold Builtin.Dict.dictSlotArgs;refine aD (wpAny_notOrdered_dict ta ?_);show aF _ _ (pure (Value.ref a,Value.ref b)) _ _ _;refine aJ ?_;refine aD (bN (T := "dict") (b:=true) tb (by rw [bE]; kernel_rfl) ?_);refine bP (fun z=>absurd z (by decide)) (fun _=>?_)
  show aF _ _ (Builtin.Dict.samePairs _ a b >>= _) _ _ _;refine aD (Q25 ha hb da db he ?_);exact aJ ⟨_,rfl,(fun z=>nomatch z),h⟩
 | false=>
  refine wpAny_richCompare_same_room (op:=.NotEq) ta tb PySem.F.slot_dict_ne (ak PySem.F.slot_dict_ne ta PySem.F.entry_dict_ne ?_ (PySem.F.args_dict_ne_2 _ _)) hu;show aF _ _ (Builtin.Dict.dictSlotArgs "__ne__" ⟨[.ref a,.ref b],[]⟩ >>= _) _ _ _;refine aD ?_;unfold Builtin.Dict.dictSlotArgs;refine aD (wpAny_notOrdered_dict ta ?_);show aF _ _ (pure (Value.ref a,Value.ref b)) _ _ _;refine aJ ?_;refine aD (bN (T := "dict") (b:=true) tb (by rw [bE]; kernel_rfl) ?_);refine bP (fun z=>absurd z (by decide)) (fun _=>?_)
  show aF _ _ (Builtin.Dict.samePairs _ a b >>= _) _ _ _;refine aD (Q25 ha hb da db he ?_);exact aJ ⟨_,rfl,(fun z=>nomatch z),h⟩
end
section
variable {X:Cx}
end
end L2
namespace L2
open PySem PySem.Spec PyProof.Rows SeqAt
def Qbs:List (Key × aA)->Option (List (Int × aA))
 | []=>some []
 | (.inl i,v) :: r=>(Qbs r).map ((i,v) :: ·)
 | (.inr _,_) :: _=>none
theorem Q5r:∀ {vs:List (Key × aA)} {ws:List (Int × aA)},Qbs vs=some ws->vs=ws.map fun p=>((.inl p.1:Key),p.2)
 | [],_,e=>by cases e; rfl
 | (.inl i,v) :: r,ws,e=>by
  have e:(Qbs r).map ((i,v) :: ·)=some ws:=e;cases z:Qbs r with
  | none=>rw [z] at e; cases e
  | some w'=>rw [z] at e; cases e; rw [Q5r z]; rfl
 | (.inr _,_) :: _,_,e=>by cases e
theorem Q45 {prog prog':aL} {w w':aK}:∀ {es:List DictEntry} {ws:List (Int × aA)},Pairs (Z4 prog w) es (ws.map fun p=>((.inl p.1:Key),p.2))->Pairs (intKind prog' w') es ws
 | _,[],h=>by cases h; exact .nil
 | _,p :: ws,h=>by
  cases h with
  | cons h1 h2 h3=>exact .cons h1 h2 (Q45 h3)
theorem Q7z {prog prog':aL} {w w':aK} {h:Heap} {a:aB} {ws:List (Int × aA)} (d:h.DictOf (Z4 prog w) a (ws.map fun p=>((.inl p.1:Key),p.2))):h.DictOf (intKind prog' w') a ws:=by
 obtain ⟨o,es,ep,h1,h2,h3,h4,h5,h6⟩:=d;refine ⟨o,es,ep,h1,h2,h3,fun e he=>?_,Q45 h5,?_⟩
 ·obtain ⟨i,hi,rfl⟩:=List.getElem_of_mem (show e∈es.toList from by simpa using he);obtain ⟨kv,k1,k2,_⟩:=Kc h5 hi;rw [D6] at k1;cases z:ws[i]? with
  | none=>rw [z] at k1; cases k1
  | some p=>
   rw [z] at k1;cases k1;obtain ⟨k',q1,q2⟩:=h4 es.toList[i] (by simp);have:k'=.inl p.1:=(Z4 prog w).inj _ _ _ q1 k2;subst this;exact ⟨p.1,k2,q2⟩
 ·rw [G6] at h6;exact (List.pairwise_map.mp h6).imp (fun {a b} hne=>fun e=>hne (by simp [e])) |> fun z=>List.pairwise_map.mpr z
section
variable {X:Cx}
end
theorem Qez {A:aM} {s:aC} {P:aL} {w:aK} {a b:aB} {vs us:List (Int × aA)} {e:Int->Bool} (ha:(a == ah)=false) (hb:(b == ah)=false) (da:s.heap.DictOf (Z4 P w) a (vs.map fun p=>((.inl p.1:Key),p.2))) (db:s.heap.DictOf (Z4 P w) b (us.map fun p=>((.inl p.1:Key),p.2))) (hu:A.units < aW)
  (he:∀ k v u,(k,v)∈vs->aX us k=some u->EqAt A.in1 s v u (e k)) (hs:a=b->(decide (vs.length=us.length) && vs.all (y0 us e))=true):EqAt A s (.ref a) (.ref b) (decide (vs.length=us.length) && vs.all (y0 us e)):=by
 by_cases z:a=b
 ·rw [hs z,z]; exact EqAt.same _
 ·refine EqAt.of_refs z fun prog w' E Q h=>?_
  have q:∀ b:Bool,(b == true)=b:=by decide
  refine Qhv (knd:=intKind prog w') true ha hb (Q7z da) (Q7z db) hu he ?_;rw [q]; exact h
end L2
namespace Sm
open PySem PySem.Spec L2
section
inductive PV where
 | non | bl (b:Bool) | int (i:Int) | str (x:Str) | tup (xs:List PV) | lst (xs:List PV) | fro (xs:List PV) | ref (i:Nat) | dic
inductive Cell where
 | lst (xs:List PV) | dic (kvs:List (Key × PV)) | dtp (kvs:List (List Key × PV)) | frd (kvs:List (Key × PV))
 | obj (C:aB) (fs:List (Str × PV))
abbrev Q3:=List Cell
structure Exc where
 cls:Str
 fs:Option (Str × PV):=none
inductive Res (α:Type) where
 | ok (a:α) (st:Q3) | exc (x:Exc) (st:Q3) | stuck
abbrev Gam:=List (Option PV)
abbrev ME:=Gam->Q3->Res PV
structure Tk where
 tr:List aB
 hid:List aB
instance:Membership aB Tk:=⟨fun t a=>a∈t.tr\/a∈t.hid⟩
def Tk.nil:Tk:=⟨[],[]⟩
theorem Tk.not_nil (a:aB):a∉Tk.nil:=fun z=>by rcases z with z | z <;> cases z
def Tk.add (t:Tk) (p:aB):Tk:=⟨t.tr ++ [p],t.hid⟩
def Tk.hide (t:Tk) (p:aB):Tk:=⟨t.tr,p :: t.hid⟩
mutual
def Rep (H:Hp) (ρ:Tk):PV->V->Prop
 | .non,v=>v=.non
 | .bl b,v=>v=.bl b
 | .int i,v=>v=.int i
 | .str x,v=>v=.str x
 | .tup ps,v=>∃ a vs,v=.ref a/\H a=some (.tup vs)/\a∉ρ/\RepL H ρ ps vs
 | .lst ps,v=>∃ a vs,v=.ref a/\H a=some (.lst vs)/\a∉ρ/\RepL H ρ ps vs
 | .fro ps,v=>∃ a vs,v=.ref a/\Rd H a (.lst vs)/\a∉ρ/\RepL H ρ ps vs
 | .ref i,v=>∃ a,ρ.tr[i]?=some a/\v=.ref a
 | .dic,v=>∃ a,v=.ref a/\H a=some (.dK [])/\a∉ρ
def RepL (H:Hp) (ρ:Tk):List PV->List V->Prop
 | [],vs=>vs=[]
 | p :: ps,vs=>∃ v r,vs=v :: r/\Rep H ρ p v/\RepL H ρ ps r
end
structure Ext (H:Hp) (ρ:Tk) (H':Hp) (ρ':Tk):Prop where
 pre:ρ.tr <+: ρ'.tr
 hidM:∀ a,a∈ρ.hid->a∈ρ'.hid
 hidN:∀ a,a∈ρ'.hid->a∈ρ.hid\/H a=none
 keep:∀ a o,H a=some o->a∉ρ.tr->H' a=some o
 new:∀ a,a∈ρ'.tr->a∈ρ.tr\/H a=none
 old:∀ a o,H a=some o->∃ o',H' a=some o'
 frz:∀ a o u,H a=some (.frz o u)->H' a=some (.frz o u)
theorem Ext.refl (H:Hp) (ρ:Tk):Ext H ρ H ρ:=⟨List.prefix_refl _,fun _ h=>h,fun _ h=>.inl h,fun _ _ h _=>h,fun _ h=>.inl h,fun _ o h=>⟨o,h⟩,fun _ _ _ h=>h⟩
theorem Ext.trans {H H1 H2:Hp} {ρ ρ1 ρ2:Tk} (a:Ext H ρ H1 ρ1) (b:Ext H1 ρ1 H2 ρ2):Ext H ρ H2 ρ2 where
 pre:=a.pre.trans b.pre
 hidM:=fun x h=>b.hidM x (a.hidM x h)
 hidN:=fun x h=>by
  rcases b.hidN x h with z | z
  ·exact a.hidN x z
  ·right
   cases q:H x with
   | none=>rfl
   | some o=>
    obtain ⟨o',e⟩:=a.old x o q;rw [e] at z; cases z
 keep:=fun x o h n=>b.keep x o (a.keep x o h n) fun z=>by
  rcases a.new x z with z | z
  ·exact n z
  ·rw [h] at z; cases z
 new:=fun x h=>by
  rcases b.new x h with z | z
  ·exact a.new x z
  ·right
   cases q:H x with
   | none=>rfl
   | some o=>
    obtain ⟨o',e⟩:=a.old x o q;rw [e] at z; cases z
 old:=fun x o h=>by
  obtain ⟨o',e⟩:=a.old x o h;exact b.old x o' e
 frz:=fun x o u h=>b.frz x o u (a.frz x o u h)
theorem Ext.add {H:Hp} {ρ:Tk} {p:aB} {o:HO} (h:H p=none):Ext H ρ (upd H p o) ρ where
 pre:=List.prefix_refl _
 hidM:=fun _ h=>h
 hidN:=fun _ h=>.inl h
 keep:=fun a u e _=>by rw [Qe (Qf e h)]; exact e
 new:=fun a e=>.inl e
 old:=fun a u e=>⟨u,by rw [Qe (Qf e h)]; exact e⟩
 frz:=fun a o u e=>by rw [Qe (Qf e h)]; exact e
theorem Ext.addT {H:Hp} {ρ:Tk} {p:aB} {o:HO} (h:H p=none):Ext H ρ (upd H p o) (ρ.add p) where
 pre:=List.prefix_append _ _
 hidM:=fun _ h=>h
 hidN:=fun _ h=>.inl h
 keep:=fun a u e _=>by rw [Qe (Qf e h)]; exact e
 new:=fun a e=>by
  rcases E3.mp e with z | z
  ·exact .inl z
  ·right
   have:a=p:=by simpa using z
   rw [this]; exact h
 old:=fun a u e=>⟨u,by rw [Qe (Qf e h)]; exact e⟩
 frz:=fun a o u e=>by rw [Qe (Qf e h)]; exact e
theorem Ext.same {H H':Hp} {ρ:Tk} (h:Same H H'):Ext H ρ H' ρ:=⟨List.prefix_refl _,fun _ h=>h,fun _ h=>.inl h,fun a o e _=>h a o e,fun _ e=>.inl e,fun a o e=>⟨o,h a o e⟩,fun a o u e=>h a _ e⟩
section
variable {H H':Hp} {ρ ρ':Tk}
theorem Kh {a:aB} {o:HO} (x:Ext H ρ H' ρ') (h:H a=some o) (n:a∉ρ):a∉ρ':=fun z=>by
 rcases z with z | z
 ·rcases x.new a z with z | z
  ·exact n (.inl z)
  ·rw [h] at z; cases z
 ·rcases x.hidN a z with z | z
  ·exact n (.inr z)
  ·rw [h] at z; cases z
theorem Ext.kp {a:aB} {o:HO} (x:Ext H ρ H' ρ') (h:H a=some o) (n:a∉ρ):H' a=some o:=x.keep a o h fun z=>n (.inl z)
mutual
theorem Rep.ext (x:Ext H ρ H' ρ'):∀ {p:PV} {v:V},Rep H ρ p v->Rep H' ρ' p v
 | .non,_,h=>h
 | .bl _,_,h=>h
 | .int _,_,h=>h
 | .str _,_,h=>h
 | .tup ps,v,h=>by
  obtain ⟨a,vs,e,s,n,r⟩:=h;exact ⟨a,vs,e,x.kp s n,Kh x s n,RepL.ext x r⟩
 | .lst ps,v,h=>by
  obtain ⟨a,vs,e,s,n,r⟩:=h;exact ⟨a,vs,e,x.kp s n,Kh x s n,RepL.ext x r⟩
 | .fro ps,v,h=>by
  obtain ⟨a,vs,e,s,n,r⟩:=h;rcases s with s | ⟨o,s⟩
  ·exact ⟨a,vs,e,.inl (x.kp s n),Kh x s n,RepL.ext x r⟩
  ·exact ⟨a,vs,e,.inr ⟨o,x.kp s n⟩,Kh x s n,RepL.ext x r⟩
 | .ref i,v,h=>by
  obtain ⟨a,e,rfl⟩:=h;obtain ⟨t,et⟩:=x.pre;refine ⟨a,?_,rfl⟩;rw [<- et,O5 (O0.mp e).1];exact e
 | .dic,v,h=>by
  obtain ⟨a,e,s,n⟩:=h;exact ⟨a,e,x.kp s n,Kh x s n⟩
theorem RepL.ext (x:Ext H ρ H' ρ'):∀ {ps:List PV} {vs:List V},RepL H ρ ps vs->RepL H' ρ' ps vs
 | [],_,h=>h
 | p :: ps,vs,h=>by
  obtain ⟨v,r,e,h1,h2⟩:=h;exact ⟨v,r,e,Rep.ext x h1,RepL.ext x h2⟩
end
mutual
theorem Rep.hide {a:aB} {o:HO} (h:H a=none):∀ {p:PV} {v:V},Rep H ρ p v->Rep (upd H a o) (ρ.hide a) p v
 | .non,_,r=>r
 | .bl _,_,r=>r
 | .int _,_,r=>r
 | .str _,_,r=>r
 | .tup ps,v,⟨b,vs,e,s,n,r⟩=>⟨b,vs,e,by rw [Qe (Qf s h)]; exact s,fun z=>by
   rcases z with z | z
   ·exact n (.inl z)
   ·rcases D3.mp z with z | z
    ·exact Qf s h z
    ·exact n (.inr z),RepL.hide h r⟩
 | .lst ps,v,⟨b,vs,e,s,n,r⟩=>⟨b,vs,e,by rw [Qe (Qf s h)]; exact s,fun z=>by
   rcases z with z | z
   ·exact n (.inl z)
   ·rcases D3.mp z with z | z
    ·exact Qf s h z
    ·exact n (.inr z),RepL.hide h r⟩
 | .fro ps,v,⟨b,vs,e,s,n,r⟩=>by
   have ne:b≠a:=by
    rcases s with s | ⟨_,s⟩
    ·exact Qf s h
    ·exact Qf s h
   refine ⟨b,vs,e,?_,fun z=>?_,RepL.hide h r⟩
   ·rcases s with s | ⟨u,s⟩
    ·exact .inl (by rw [Qe ne]; exact s)
    ·exact .inr ⟨u,by rw [Qe ne]; exact s⟩
   ·rcases z with z | z
    ·exact n (.inl z)
    ·rcases D3.mp z with z | z
     ·exact ne z
     ·exact n (.inr z)
 | .ref i,v,r=>r
 | .dic,v,⟨b,e,s,n⟩=>⟨b,e,by rw [Qe (Qf s h)]; exact s,fun z=>by
   rcases z with z | z
   ·exact n (.inl z)
   ·rcases D3.mp z with z | z
    ·exact Qf s h z
    ·exact n (.inr z)⟩
theorem RepL.hide {a:aB} {o:HO} (h:H a=none):∀ {ps:List PV} {vs:List V},RepL H ρ ps vs->RepL (upd H a o) (ρ.hide a) ps vs
 | [],_,r=>r
 | p :: ps,_,⟨v,t,e,r1,r2⟩=>⟨v,t,e,Rep.hide h r1,RepL.hide h r2⟩
end
mutual
theorem Rep.rehide {a:aB} {o:HO} (h:a∈ρ.hid):∀ {p:PV} {v:V},Rep H ρ p v->Rep (upd H a o) ρ p v
 | .non,_,r=>r
 | .bl _,_,r=>r
 | .int _,_,r=>r
 | .str _,_,r=>r
 | .tup ps,v,⟨b,vs,e,s,n,r⟩=>⟨b,vs,e,by rw [Qe (show b≠a from fun z=>n (.inr (by rw [z]; exact h)))]; exact s,n,RepL.rehide h r⟩
 | .lst ps,v,⟨b,vs,e,s,n,r⟩=>⟨b,vs,e,by rw [Qe (show b≠a from fun z=>n (.inr (by rw [z]; exact h)))]; exact s,n,RepL.rehide h r⟩
 | .fro ps,v,⟨b,vs,e,s,n,r⟩=>by
   have ne:b≠a:=fun z=>n (.inr (by rw [z]; exact h))
   refine ⟨b,vs,e,?_,n,RepL.rehide h r⟩;rcases s with s | ⟨u,s⟩
   ·exact .inl (by rw [Qe ne]; exact s)
   ·exact .inr ⟨u,by rw [Qe ne]; exact s⟩
 | .ref i,v,r=>r
 | .dic,v,⟨b,e,s,n⟩=>⟨b,e,by rw [Qe (show b≠a from fun z=>n (.inr (by rw [z]; exact h)))]; exact s,n⟩
theorem RepL.rehide {a:aB} {o:HO} (h:a∈ρ.hid):∀ {ps:List PV} {vs:List V},RepL H ρ ps vs->RepL (upd H a o) ρ ps vs
 | [],_,r=>r
 | p :: ps,_,⟨v,t,e,r1,r2⟩=>⟨v,t,e,Rep.rehide h r1,RepL.rehide h r2⟩
end
mutual
theorem Rep.retr {a:aB} {o:HO} (h:a∈ρ.tr):∀ {p:PV} {v:V},Rep H ρ p v->Rep (upd H a o) ρ p v
 | .non,_,r=>r
 | .bl _,_,r=>r
 | .int _,_,r=>r
 | .str _,_,r=>r
 | .tup ps,v,⟨b,vs,e,s,n,r⟩=>⟨b,vs,e,by rw [Qe (show b≠a from fun z=>n (.inl (by rw [z]; exact h)))]; exact s,n,RepL.retr h r⟩
 | .lst ps,v,⟨b,vs,e,s,n,r⟩=>⟨b,vs,e,by rw [Qe (show b≠a from fun z=>n (.inl (by rw [z]; exact h)))]; exact s,n,RepL.retr h r⟩
 | .fro ps,v,⟨b,vs,e,s,n,r⟩=>by
   have ne:b≠a:=fun z=>n (.inl (by rw [z]; exact h))
   refine ⟨b,vs,e,?_,n,RepL.retr h r⟩;rcases s with s | ⟨u,s⟩
   ·exact .inl (by rw [Qe ne]; exact s)
   ·exact .inr ⟨u,by rw [Qe ne]; exact s⟩
 | .ref i,v,r=>r
 | .dic,v,⟨b,e,s,n⟩=>⟨b,e,by rw [Qe (show b≠a from fun z=>n (.inl (by rw [z]; exact h)))]; exact s,n⟩
theorem RepL.retr {a:aB} {o:HO} (h:a∈ρ.tr):∀ {ps:List PV} {vs:List V},RepL H ρ ps vs->RepL (upd H a o) ρ ps vs
 | [],_,r=>r
 | p :: ps,_,⟨v,t,e,r1,r2⟩=>⟨v,t,e,Rep.retr h r1,RepL.retr h r2⟩
end
mutual
theorem Rep.unhide {hs:List aB} (hh:∀ a,a∈hs->a∈ρ.hid):∀ {p:PV} {v:V},Rep H ρ p v->Rep H ⟨ρ.tr,hs⟩ p v
 | .non,_,r=>r
 | .bl _,_,r=>r
 | .int _,_,r=>r
 | .str _,_,r=>r
 | .tup ps,v,⟨b,vs,e,s,n,r⟩=>⟨b,vs,e,s,fun z=>n (z.imp id (hh _)),RepL.unhide hh r⟩
 | .lst ps,v,⟨b,vs,e,s,n,r⟩=>⟨b,vs,e,s,fun z=>n (z.imp id (hh _)),RepL.unhide hh r⟩
 | .fro ps,v,⟨b,vs,e,s,n,r⟩=>⟨b,vs,e,s,fun z=>n (z.imp id (hh _)),RepL.unhide hh r⟩
 | .ref i,v,r=>r
 | .dic,v,⟨b,e,s,n⟩=>⟨b,e,s,fun z=>n (z.imp id (hh _))⟩
theorem RepL.unhide {hs:List aB} (hh:∀ a,a∈hs->a∈ρ.hid):∀ {ps:List PV} {vs:List V},RepL H ρ ps vs->RepL H ⟨ρ.tr,hs⟩ ps vs
 | [],_,r=>r
 | p :: ps,_,⟨v,t,e,r1,r2⟩=>⟨v,t,e,Rep.unhide hh r1,RepL.unhide hh r2⟩
end
theorem RepL.length:∀ {ps:List PV} {vs:List V},RepL H ρ ps vs->ps.length=vs.length
 | [],_,h=>by cases h; rfl
 | p :: ps,_,⟨v,r,rfl,_,h2⟩=>by rw [E1,E1,RepL.length h2]
theorem RepL.get:∀ {ps:List PV} {vs:List V} {i:Nat} {p:PV},RepL H ρ ps vs->ps[i]?=some p->∃ v,vs[i]?=some v/\Rep H ρ p v
 | [],_,_,_,_,e=>by simp at e
 | p :: ps,_,0,q,⟨v,r,rfl,h1,h2⟩,e=>by simp at e; subst e; exact ⟨v,rfl,h1⟩
 | p :: ps,_,i + 1,q,⟨v,r,rfl,h1,h2⟩,e=>by
  obtain ⟨u,e1,e2⟩:=RepL.get (i:=i) h2 (by simpa using e);exact ⟨u,by simpa using e1,e2⟩
theorem RepL.cons {p:PV} {v:V} {ps:List PV} {vs:List V} (h:Rep H ρ p v) (r:RepL H ρ ps vs):RepL H ρ (p :: ps) (v :: vs):=⟨v,vs,rfl,h,r⟩
theorem RepL.nil:RepL H ρ [] []:=rfl
theorem RepL.append:∀ {ps qs:List PV} {vs us:List V},RepL H ρ ps vs->RepL H ρ qs us->RepL H ρ (ps ++ qs) (vs ++ us)
 | [],_,_,_,h,g=>by cases h; exact g
 | p :: ps,_,_,_,⟨v,r,rfl,h1,h2⟩,g=>⟨v,_,rfl,h1,RepL.append h2 g⟩
theorem RepL.take:∀ {ps:List PV} {vs:List V} (n:Nat),RepL H ρ ps vs->RepL H ρ (ps.take n) (vs.take n)
 | _,_,0,_=>rfl
 | [],_,n + 1,h=>by cases h; rfl
 | p :: ps,_,n + 1,⟨v,r,rfl,h1,h2⟩=>⟨v,_,rfl,h1,RepL.take n h2⟩
theorem RepL.drop:∀ {ps:List PV} {vs:List V} (n:Nat),RepL H ρ ps vs->RepL H ρ (ps.drop n) (vs.drop n)
 | _,_,0,h=>h
 | [],_,n + 1,h=>by cases h; rfl
 | p :: ps,_,n + 1,⟨v,r,rfl,h1,h2⟩=>RepL.drop n h2
theorem RepL.set {p:PV} {v:V} (h:Rep H ρ p v):∀ {ps:List PV} {vs:List V} (i:Nat),RepL H ρ ps vs->RepL H ρ (ps.set i p) (vs.set i v)
 | [],_,_,g=>by cases g; rfl
 | q :: ps,_,0,⟨u,r,rfl,h1,h2⟩=>⟨v,r,rfl,h,h2⟩
 | q :: ps,_,i + 1,⟨u,r,rfl,h1,h2⟩=>⟨u,_,rfl,h1,RepL.set h i h2⟩
theorem RepL.reverse:∀ {ps:List PV} {vs:List V},RepL H ρ ps vs->RepL H ρ ps.reverse vs.reverse
 | [],_,g=>by cases g; rfl
 | q :: ps,_,⟨u,r,rfl,h1,h2⟩=>by rw [List.reverse_cons,List.reverse_cons]; exact (RepL.reverse h2).append (RepL.cons h1 RepL.nil)
theorem RepL.rep {ps:List PV} {vs:List V} (h:RepL H ρ ps vs):∀ n,RepL H ρ (List.replicate n ps).flatten (List.replicate n vs).flatten
 | 0=>rfl
 | n + 1=>by rw [List.replicate_succ,List.replicate_succ,List.flatten_cons,List.flatten_cons]; exact h.append (RepL.rep h n)
theorem RepL.toInts:∀ {ns:List Int} {vs:List V},RepL H ρ (ns.map .int) vs->vs=ns.map V.int
 | [],_,h=>h
 | n :: ns,_,⟨v,r,rfl,h1,h2⟩=>by
  have e:v=V.int n:=h1;rw [RepL.toInts h2,e]; rfl
theorem RepL.toBls:∀ {ns:List Bool} {vs:List V},RepL H ρ (ns.map .bl) vs->vs=ns.map V.bl
 | [],_,h=>h
 | n :: ns,_,⟨v,r,rfl,h1,h2⟩=>by
  have e:v=V.bl n:=h1;rw [RepL.toBls h2,e]; rfl
end
def RepD {κ:Type} (H:Hp) (ρ:Tk) (kvs:List (κ × PV)) (vs:List (κ × V)):Prop:=vs.map Prod.fst=kvs.map Prod.fst/\RepL H ρ (kvs.map Prod.snd) (vs.map Prod.snd)
theorem RepD.ext {κ:Type} {H H':Hp} {ρ ρ':Tk} {kvs:List (κ × PV)} {vs:List (κ × V)} (x:Ext H ρ H' ρ') (r:RepD H ρ kvs vs):RepD H' ρ' kvs vs:=⟨r.1,r.2.ext x⟩
theorem RepD.length {κ:Type} {H:Hp} {ρ:Tk} {kvs:List (κ × PV)} {vs:List (κ × V)} (r:RepD H ρ kvs vs):kvs.length=vs.length:=by
 have:=congrArg List.length r.1;rw [O3,O3] at this;exact this.symm
def CellR (H:Hp) (ρ:Tk) (a:aB):Cell->Prop
 | .lst ps=>∃ vs,H a=some (.lst vs)/\RepL H ρ ps vs
 | .dic kvs=>∃ vs,H a=some (.dK vs)/\RepD H ρ kvs vs
 | .dtp kvs=>∃ vs,H a=some (.dT vs)/\RepD H ρ kvs vs
 | .frd kvs=>∃ vs,(∃ o,H a=some (.frz o (.dK vs)))/\RepD H ρ kvs vs
 | .obj C fs=>∃ vs,(∃ dx,H a=some (.ins C dx vs))/\RepD H ρ fs vs
theorem CellR.dom {H:Hp} {ρ:Tk} {a:aB}:∀ {c:Cell},CellR H ρ a c->∃ o,H a=some o
 | .lst _,⟨_,e,_⟩=>⟨_,e⟩
 | .dic _,⟨_,e,_⟩=>⟨_,e⟩
 | .dtp _,⟨_,e,_⟩=>⟨_,e⟩
 | .frd _,⟨_,⟨_,e⟩,_⟩=>⟨_,e⟩
 | .obj _ _,⟨_,⟨_,e⟩,_⟩=>⟨_,e⟩
theorem CellR.ext {H H':Hp} {ρ ρ':Tk} {a:aB} (x:Ext H ρ H' ρ') (k:∀ o,H a=some o->H' a=some o):∀ {c:Cell},CellR H ρ a c->CellR H' ρ' a c
 | .lst _,⟨vs,e,r⟩=>⟨vs,k _ e,r.ext x⟩
 | .dic _,⟨vs,e,r⟩=>⟨vs,k _ e,r.ext x⟩
 | .dtp _,⟨vs,e,r⟩=>⟨vs,k _ e,r.ext x⟩
 | .frd _,⟨vs,⟨o,e⟩,r⟩=>⟨vs,⟨o,k _ e⟩,r.ext x⟩
 | .obj _ _,⟨vs,⟨o,e⟩,r⟩=>⟨vs,⟨o,k _ e⟩,r.ext x⟩
structure Rel (H:Hp) (ρ:Tk) (st:Q3):Prop where
 len:ρ.tr.length=st.length
 nd:ρ.tr.Nodup
 hd:∀ a∈ρ.hid,∃ o,H a=some o/\∀ xs,o≠.tup xs
 ap:∀ a∈ρ.hid,a∉ρ.tr
 cell:∀ (i:Nat) (a:aB) (c:Cell),ρ.tr[i]?=some a->st[i]?=some c->CellR H ρ a c
section
variable {H H':Hp} {ρ ρ':Tk} {st st':Q3}
theorem Rel.lst (R:Rel H ρ st) {i:Nat} {ps:List PV} (h:st[i]?=some (.lst ps)):∃ a vs,ρ.tr[i]?=some a/\H a=some (.lst vs)/\RepL H ρ ps vs:=by
 have hi:i < ρ.tr.length:=by rw [R.len]; exact (O0.mp h).1
 have e:ρ.tr[i]?=some ρ.tr[i]:=O2 hi;obtain ⟨vs,e1,e2⟩:=R.cell i _ _ e h;exact ⟨_,vs,e,e1,e2⟩
theorem Rel.dic (R:Rel H ρ st) {i:Nat} {kvs:List (Key × PV)} (h:st[i]?=some (.dic kvs)):∃ a vs,ρ.tr[i]?=some a/\H a=some (.dK vs)/\RepD H ρ kvs vs:=by
 have hi:i < ρ.tr.length:=by rw [R.len]; exact (O0.mp h).1
 have e:ρ.tr[i]?=some ρ.tr[i]:=O2 hi;obtain ⟨vs,e1,e2⟩:=R.cell i _ _ e h;exact ⟨_,vs,e,e1,e2⟩
theorem Rel.frd (R:Rel H ρ st) {i:Nat} {kvs:List (Key × PV)} (h:st[i]?=some (.frd kvs)):∃ a vs o,ρ.tr[i]?=some a/\H a=some (.frz o (.dK vs))/\RepD H ρ kvs vs:=by
 have hi:i < ρ.tr.length:=by rw [R.len]; exact (O0.mp h).1
 have e:ρ.tr[i]?=some ρ.tr[i]:=O2 hi;obtain ⟨vs,⟨o,e1⟩,e2⟩:=R.cell i _ _ e h;exact ⟨_,vs,o,e,e1,e2⟩
theorem Rel.dom (R:Rel H ρ st) {a:aB} (h:a∈ρ.tr):∃ o,H a=some o:=by
 obtain ⟨i,hi,e⟩:=List.getElem_of_mem h;have hs:i < st.length:=by rw [<- R.len]; exact hi
 have q:=R.cell i a st[i] (by rw [O2 hi,e]) (O2 hs);exact q.dom
theorem Rel.fresh (R:Rel H ρ st) {p:aB} (h:H p=none):p∉ρ:=fun z=>by
 rcases z with z | z
 ·obtain ⟨vs,q⟩:=R.dom z;rw [h] at q; cases q
 ·obtain ⟨o,q,_⟩:=R.hd p z;rw [h] at q; cases q
theorem Rel.later (R:Rel H ρ st) (x:Ext H ρ H' ρ) (k:∀ a o,a∈ρ.tr->H a=some o->H' a=some o):Rel H' ρ st where
 len:=R.len
 nd:=R.nd
 hd:=fun a ha=>let ⟨o,e,n⟩:=R.hd a ha; ⟨o,x.keep a o e (R.ap a ha),n⟩
 ap:=R.ap
 cell:=fun i a c h1 h2=>by
  exact (R.cell i a c h1 h2).ext x fun o e=>k a o (E2 h1) e
end
theorem Rel.add {H:Hp} {ρ:Tk} {st:Q3} (R:Rel H ρ st) {p:aB} {o:HO} (h:H p=none):Rel (upd H p o) ρ st:=
 R.later (Ext.add h) fun a u hm e=>by rw [Qe (Qf e h)]; exact e
theorem Rel.same {H H':Hp} {ρ:Tk} {st:Q3} (R:Rel H ρ st) (h:Same H H'):Rel H' ρ st:=R.later (Ext.same h) fun a u _ e=>h a u e
theorem Rel.addC {H:Hp} {ρ:Tk} {st:Q3} (R:Rel H ρ st) {p:aB} {cl:Cell} {o:HO} (h:H p=none) (r:CellR (upd H p o) (ρ.add p) p cl):Rel (upd H p o) (ρ.add p) (st ++ [cl]) where
 len:=by show (ρ.tr ++ [p]).length=_; rw [D0,D0,R.len]; rfl
 nd:=List.nodup_append.mpr ⟨R.nd,by simp,fun a ha b hb e=>by
  have:b=p:=by simpa using hb
  subst this; subst e;exact R.fresh h (.inl ha)⟩
 hd:=fun a ha=>let ⟨o,e,n⟩:=R.hd a ha; ⟨o,by rw [Qe (Qf e h)]; exact e,n⟩
 ap:=fun a ha z=>by
  rcases E3.mp z with z | z
  ·exact R.ap a ha z
  ·have:a=p:=by simpa using z
   subst this;exact R.fresh h (.inr ha)
 cell:=fun i a c h1 h2=>by
  have h1:(ρ.tr ++ [p])[i]?=some a:=h1
  by_cases hi:i < st.length
  ·rw [O5 (by rw [R.len]; exact hi)] at h1;rw [O5 hi] at h2;exact (R.cell i a c h1 h2).ext (Ext.addT h) fun u e=>by rw [Qe (Qf e h)]; exact e
  ·rw [D5 (by rw [R.len]; omega)] at h1;rw [D5 (by omega)] at h2;have e0:i - st.length=0:=by
    rcases Nat.eq_zero_or_pos (i - st.length) with z | z
    ·exact z
    ·rw [List.getElem?_eq_none (by simp; omega)] at h2; cases h2
   rw [R.len,e0] at h1;rw [e0] at h2;simp at h1 h2;subst h1; subst h2;exact r
theorem Q4a {α:Type} {l:List α} (h:l.Nodup) {i j:Nat} (hi:i < l.length) (hj:j < l.length) (e:l[i]=l[j]):i=j:=by
 rcases Nat.lt_trichotomy i j with z | z | z
 ·exact absurd e ((List.pairwise_iff_getElem.mp h) i j hi hj z)
 ·exact z
 ·exact absurd e.symm ((List.pairwise_iff_getElem.mp h) j i hj hi z)
theorem Ext.put {H:Hp} {ρ:Tk} {a:aB} {o o':HO} (h:a∈ρ.tr) (e:H a=some o) (nf:∀ q u,o≠.frz q u:=by intro _ _ z; cases z):Ext H ρ (upd H a o') ρ where
 pre:=List.prefix_refl _
 hidM:=fun _ h=>h
 hidN:=fun _ h=>.inl h
 keep:=fun b u q n=>by rw [Qe (show b≠a from fun z=>n (by rw [z]; exact h))]; exact q
 new:=fun b q=>.inl q
 old:=fun b u q=>by
  by_cases z:b=a
  ·exact ⟨o',by rw [z]; exact Jb⟩
  ·exact ⟨u,by rw [Qe z]; exact q⟩
 frz:=fun b q u k=>by
  by_cases z:b=a
  ·rw [z,e] at k; cases k; exact absurd rfl (nf _ _)
  ·rw [Qe z]; exact k
theorem Rel.putC {H:Hp} {ρ:Tk} {st:Q3} (R:Rel H ρ st) {i:Nat} {a:aB} {cl:Cell} {o o':HO} (hi:ρ.tr[i]?=some a) (e:H a=some o) (r:CellR (upd H a o') ρ a cl):Rel (upd H a o') ρ (st.set i cl) where
 len:=by rw [F9]; exact R.len
 nd:=R.nd
 hd:=fun b hb=>let ⟨u,q,n⟩:=R.hd b hb; ⟨u,by rw [Qe (show b≠a from fun z=>R.ap b hb (by rw [z]; exact E2 hi))]; exact q,n⟩
 ap:=R.ap
 cell:=fun j b c h1 h2=>by
  by_cases hj:i=j
  ·subst hj;rw [hi] at h1; cases h1;rw [D7 (by rw [<- R.len]; exact (O0.mp hi).1)] at h2;cases h2;exact r
  ·rw [D8 hj] at h2;have q:=R.cell j b c h1 h2;have hb:b≠a:=fun z=>by
    subst z;have l1:=(O0.mp hi);have l2:=(O0.mp h1);exact hj (Q4a R.nd l1.1 l2.1 (l1.2.trans l2.2.symm))
   have hm:=E2 hi;cases c with
   | lst ps=>
    obtain ⟨vs,e1,e2⟩:=q;exact ⟨vs,by rw [Qe hb]; exact e1,e2.retr hm⟩
   | dic ps=>
    obtain ⟨vs,e1,e2⟩:=q;exact ⟨vs,by rw [Qe hb]; exact e1,e2.1,e2.2.retr hm⟩
   | dtp ps=>
    obtain ⟨vs,e1,e2⟩:=q;exact ⟨vs,by rw [Qe hb]; exact e1,e2.1,e2.2.retr hm⟩
   | frd ps=>
    obtain ⟨vs,⟨oo,e1⟩,e2⟩:=q;exact ⟨vs,⟨oo,by rw [Qe hb]; exact e1⟩,e2.1,e2.2.retr hm⟩
   | obj C ps=>
    obtain ⟨vs,⟨oo,e1⟩,e2⟩:=q;exact ⟨vs,⟨oo,by rw [Qe hb]; exact e1⟩,e2.1,e2.2.retr hm⟩
theorem Rel.put {H:Hp} {ρ:Tk} {st:Q3} (R:Rel H ρ st) {i:Nat} {a:aB} {ps:List PV} {vs:List V} {o:HO} (hi:ρ.tr[i]?=some a) (e:H a=some o) (r:RepL H ρ ps vs):Rel (upd H a (.lst vs)) ρ (st.set i (.lst ps)):=
 R.putC hi e ⟨vs,Jb,r.retr (E2 hi)⟩
theorem Rel.hide {H:Hp} {ρ:Tk} {st:Q3} (R:Rel H ρ st) {p:aB} {o:HO} (h:H p=none) (nt:∀ xs,o≠.tup xs:=by intro _ z; cases z):Rel (upd H p o) (ρ.hide p) st:=by
 have x:Ext H ρ (upd H p o) ρ:=Ext.add h;have R':=R.add (p:=p) (o:=o) h;refine ⟨R'.len,R'.nd,fun a ha=>?_,fun a ha z=>?_,fun i a c h1 h2=>?_⟩
 ·rcases D3.mp ha with rfl | ha
  ·exact ⟨o,Jb,nt⟩
  ·exact R'.hd a ha
 ·rcases D3.mp ha with rfl | ha
  ·exact R.fresh h (.inl z)
  ·exact R.ap a ha z
 ·have q:=R.cell i a c h1 h2;cases c with
  | lst ps=>
   obtain ⟨vs,e1,e2⟩:=q;exact ⟨vs,by rw [Qe (Qf e1 h)]; exact e1,e2.hide h⟩
  | dic ps=>
   obtain ⟨vs,e1,e2⟩:=q;exact ⟨vs,by rw [Qe (Qf e1 h)]; exact e1,e2.1,e2.2.hide h⟩
  | dtp ps=>
   obtain ⟨vs,e1,e2⟩:=q;exact ⟨vs,by rw [Qe (Qf e1 h)]; exact e1,e2.1,e2.2.hide h⟩
  | frd ps=>
   obtain ⟨vs,⟨oo,e1⟩,e2⟩:=q;exact ⟨vs,⟨oo,by rw [Qe (Qf e1 h)]; exact e1⟩,e2.1,e2.2.hide h⟩
  | obj C ps=>
   obtain ⟨vs,⟨oo,e1⟩,e2⟩:=q;exact ⟨vs,⟨oo,by rw [Qe (Qf e1 h)]; exact e1⟩,e2.1,e2.2.hide h⟩
theorem Rel.rehide {H:Hp} {ρ:Tk} {st:Q3} (R:Rel H ρ st) {p:aB} {o:HO} (h:p∈ρ.hid) (nt:∀ xs,o≠.tup xs:=by intro _ z; cases z):Rel (upd H p o) ρ st:=by
 refine ⟨R.len,R.nd,fun a ha=>?_,R.ap,fun i a c h1 h2=>?_⟩
 ·by_cases e:a=p
  ·exact ⟨o,by rw [e]; exact Jb,nt⟩
  ·obtain ⟨u,q,n⟩:=R.hd a ha;exact ⟨u,by rw [Qe e]; exact q,n⟩
 ·have q:=R.cell i a c h1 h2;have ne:a≠p:=fun z=>R.ap p h (by rw [<- z]; exact E2 h1)
  cases c with
  | lst ps=>
   obtain ⟨vs,e1,e2⟩:=q;exact ⟨vs,by rw [Qe ne]; exact e1,e2.rehide h⟩
  | dic ps=>
   obtain ⟨vs,e1,e2⟩:=q;exact ⟨vs,by rw [Qe ne]; exact e1,e2.1,e2.2.rehide h⟩
  | dtp ps=>
   obtain ⟨vs,e1,e2⟩:=q;exact ⟨vs,by rw [Qe ne]; exact e1,e2.1,e2.2.rehide h⟩
  | frd ps=>
   obtain ⟨vs,⟨oo,e1⟩,e2⟩:=q;exact ⟨vs,⟨oo,by rw [Qe ne]; exact e1⟩,e2.1,e2.2.rehide h⟩
  | obj C ps=>
   obtain ⟨vs,⟨oo,e1⟩,e2⟩:=q;exact ⟨vs,⟨oo,by rw [Qe ne]; exact e1⟩,e2.1,e2.2.rehide h⟩
theorem Rel.unhide {H:Hp} {ρ:Tk} {st:Q3} {hs:List aB} (hh:∀ a,a∈hs->a∈ρ.hid) (R:Rel H ρ st):Rel H ⟨ρ.tr,hs⟩ st:=by
 refine ⟨R.len,R.nd,fun a ha=>R.hd a (hh a ha),fun a ha=>R.ap a (hh a ha),fun i a c h1 h2=>?_⟩;have q:=R.cell i a c h1 h2;cases c with
 | lst ps=>
  obtain ⟨vs,e1,e2⟩:=q;exact ⟨vs,e1,RepL.unhide hh e2⟩
 | dic ps=>
  obtain ⟨vs,e1,e2⟩:=q;exact ⟨vs,e1,e2.1,RepL.unhide hh e2.2⟩
 | dtp ps=>
  obtain ⟨vs,e1,e2⟩:=q;exact ⟨vs,e1,e2.1,RepL.unhide hh e2.2⟩
 | frd ps=>
  obtain ⟨vs,e1,e2⟩:=q;exact ⟨vs,e1,e2.1,RepL.unhide hh e2.2⟩
 | obj C ps=>
  obtain ⟨vs,e1,e2⟩:=q;exact ⟨vs,e1,e2.1,RepL.unhide hh e2.2⟩
theorem Ext.hide {H:Hp} {ρ:Tk} {p:aB} {o:HO} (h:H p=none):Ext H ρ (upd H p o) (ρ.hide p) where
 pre:=List.prefix_refl _
 hidM:=fun _ h=>O7 _ h
 hidN:=fun a ha=>by
  rcases D3.mp ha with rfl | ha
  ·exact .inr h
  ·exact .inl ha
 keep:=fun a u e _=>by rw [Qe (Qf e h)]; exact e
 new:=fun a e=>.inl e
 old:=fun a u e=>⟨u,by rw [Qe (Qf e h)]; exact e⟩
 frz:=fun a o u e=>by rw [Qe (Qf e h)]; exact e
theorem Ext.put0 {H H1:Hp} {ρ ρ1:Tk} {p:aB} {o:HO} (x:Ext H ρ H1 ρ1) (h:H p=none):Ext H ρ (upd H1 p o) ρ1 where
 pre:=x.pre
 hidM:=x.hidM
 hidN:=x.hidN
 keep:=fun a u e n=>by rw [Qe (Qf e h)]; exact x.keep a u e n
 new:=x.new
 old:=fun a u e=>by rw [Qe (Qf e h)]; exact x.old a u e
 frz:=fun a o u e=>by rw [Qe (Qf e h)]; exact x.frz a o u e
theorem Ext.unhide {H H1:Hp} {ρ ρ1:Tk} (x:Ext H ρ H1 ρ1):Ext H ρ H1 ⟨ρ1.tr,ρ.hid⟩ where
 pre:=x.pre
 hidM:=fun _ h=>h
 hidN:=fun _ h=>.inl h
 keep:=x.keep
 new:=x.new
 old:=x.old
 frz:=x.frz
def EnvR (H:Hp) (ρ:Tk) (Γ:Gam) (σ:St):Prop:=Γ.length=σ.length/\∀ (i:Nat) (p:PV),Γ[i]?=some (some p)->∃ v,σ[i]?=some (some v)/\Rep H ρ p v
theorem EnvR.ext {H H':Hp} {ρ ρ':Tk} {Γ:Gam} {σ:St} (x:Ext H ρ H' ρ') (h:EnvR H ρ Γ σ):EnvR H' ρ' Γ σ:=
 ⟨h.1,fun i p e=>let ⟨v,a,b⟩:=h.2 i p e; ⟨v,a,b.ext x⟩⟩
theorem EnvR.hide {H:Hp} {ρ:Tk} {Γ:Gam} {σ:St} {a:aB} {o:HO} (n:H a=none) (h:EnvR H ρ Γ σ):EnvR (upd H a o) (ρ.hide a) Γ σ:=⟨h.1,fun i p e=>let ⟨v,a,b⟩:=h.2 i p e; ⟨v,a,b.hide n⟩⟩
theorem EnvR.rehide {H:Hp} {ρ:Tk} {Γ:Gam} {σ:St} {a:aB} {o:HO} (n:a∈ρ.hid) (h:EnvR H ρ Γ σ):EnvR (upd H a o) ρ Γ σ:=⟨h.1,fun i p e=>let ⟨v,a,b⟩:=h.2 i p e; ⟨v,a,b.rehide n⟩⟩
theorem EnvR.set {H:Hp} {ρ:Tk} {Γ:Gam} {σ:St} {p:PV} {v:V} (h:EnvR H ρ Γ σ) (r:Rep H ρ p v) (i:Nat):EnvR H ρ (Γ.set i (some p)) (σ.set i (some v)):=by
 refine ⟨by rw [F9,F9]; exact h.1,fun j q e=>?_⟩;rw [List.getElem?_set] at e;rw [List.getElem?_set]
 by_cases hj:i=j
 ·subst hj;simp only [if_true] at e ⊢
  by_cases hl:i < Γ.length
  ·rw [bS hl] at e; cases e;rw [bS (by rw [<- h.1]; exact hl)];exact ⟨v,rfl,r⟩
  ·rw [bT hl] at e; cases e
 ·rw [bT hj] at e ⊢;exact h.2 j q e
end
def Res.bind {α β:Type} (r:Res α) (f:α->Q3->Res β):Res β:=match r with
 | .ok a st=>f a st
 | .exc x st=>.exc x st
 | .stuck=>.stuck
def okO {α:Type} (st:Q3):Option α->Res α
 | some a=>.ok a st
 | none=>.stuck
section
variable (X:Cx)
def WE (e:aH):TE:=fun σ H Q=>∀ (pins:List (aB × Obj)) (s:aC),Inv X pins σ H s->aF (aI X.prog X.w) X.A (aN e X.env) (EP X pins σ Q) X.xe s
def WT (e:aH):TT:=fun σ H Q=>∀ (pins:List (aB × Obj)) (s:aC),Inv X pins σ H s->aF (aI X.prog X.w) X.A (isTrue e X.env (aN e X.env)) (TP X pins σ Q) X.xe s
def WW (e:aH):TT:=fun σ H Q=>∀ (wh:Sem aA) (pins:List (aB × Obj)) (s:aC),Inv X pins σ H s->aF (aI X.prog X.w) X.A (isTrue e X.env wh) (TP X pins σ Q) X.xe s
def WA (es:List aH):TA:=fun σ H Q=>∀ (pos:Pos) (pins:List (aB × Obj)) (s:aC),Inv X pins σ H s->aF (aI X.prog X.w) X.A (spliced (ad pos (aO es X.env))) (AP X pins σ Q) X.xe s
def WS (st:aP):TS:=fun D σ H=>∀ (pins:List (aB × Obj)) (s:aC),Inv X pins σ H s->aF (aI X.prog X.w) X.A (exec st X.env) (SP X pins D) X.xe s
def WB (st:List aP):TS:=fun D σ H=>∀ (pins:List (aB × Obj)) (s:aC),Inv X pins σ H s->aF (aI X.prog X.w) X.A (execs st X.env) (SP X pins D) X.xe s
def WI (tg iter : aH) : TI := fun σ H R => ∀ (pins : List (aB × Obj)) (s : aC), Inv X pins σ H s ->
  aF (aI X.prog X.w) X.A (aN iter X.env) (fun v s1=>aF (aI X.prog X.w) X.A (pyIter v) (PIE X pins σ tg R) X.xe s1) X.xe s
def WO (f:aA->aA->Sem aA):R2:=fun x y H Q=>∀ (pins:List (aB × Obj)) (s:aC) (σ:St) (v u:aA),Inv X pins σ H s->RelV x v->RelV y u->aF (aI X.prog X.w) X.A (f v u) (EP X pins σ Q) X.xe s
def WC (f:aA):List V->Hp->VK->Prop:=fun xs H Q=>∀ (pins:List (aB × Obj)) (s:aC) (σ:St) (us:List aA),Inv X pins σ H s->Vals xs us->aF (aI X.prog X.w) X.A (call f us) (EP X pins σ Q) X.xe s
end
section
variable {X:Cx}
theorem Zj {e:aH}:PE X e (WE X e):=fun pins s _ _ _ I h=>h pins s I
theorem Q6u {e:aH}:PT X e (WT X e):=fun pins s _ _ _ I h=>h pins s I
theorem Qnt {e:aH}:PW X e (WW X e):=fun wh pins s _ _ _ I h=>h wh pins s I
theorem Q0s {es:List aH}:PA X es (WA X es):=fun pos pins s _ _ _ I h=>h pos pins s I
theorem Qnv {st:aP}:PS X st (WS X st):=fun pins s _ _ _ I h=>h pins s I
theorem Q43 {st:List aP}:PSs X st (WB X st):=fun pins s _ _ _ I h=>h pins s I
theorem Qj9 {tg iter:aH}:PI X tg iter (WI X tg iter):=fun pins s _ _ _ I h=>h pins s I
theorem Q8v {f:aA->aA->Sem aA}:OpR X f (WO X f):=fun pins s σ _ _ _ v u _ I r1 r2 h=>h pins s σ v u I r1 r2
theorem Qf8 {f:aA}:U4 X f (WC X f):=fun pins s σ _ _ us _ I r h=>h pins s σ us I r
theorem WE.of {e:aH} {t:TE} {σ:St} {H:Hp} {Q:VK} (h:PE X e t) (q:t σ H Q):WE X e σ H Q:=fun pins s I=>h pins s σ H Q I q
theorem WT.of {e:aH} {t:TT} {σ:St} {H:Hp} {Q:Bool->Hp->Prop} (h:PT X e t) (q:t σ H Q):WT X e σ H Q:=fun pins s I=>h pins s σ H Q I q
theorem WW.of {e:aH} {t:TT} {σ:St} {H:Hp} {Q:Bool->Hp->Prop} (h:PW X e t) (q:t σ H Q):WW X e σ H Q:=fun wh pins s I=>h wh pins s σ H Q I q
theorem WA.of {es:List aH} {t:TA} {σ:St} {H:Hp} {Q:List V->Hp->Prop} (h:PA X es t) (q:t σ H Q):WA X es σ H Q:=fun pos pins s I=>h pos pins s σ H Q I q
theorem WS.of {st:aP} {t:TS} {σ:St} {H:Hp} {D:Ends} (h:PS X st t) (q:t D σ H):WS X st D σ H:=fun pins s I=>h pins s σ H D I q
theorem WB.of {st:List aP} {t:TS} {σ:St} {H:Hp} {D:Ends} (h:PSs X st t) (q:t D σ H):WB X st D σ H:=fun pins s I=>h pins s σ H D I q
theorem WI.of {tg iter:aH} {t:TI} {σ:St} {H:Hp} {R:It->Hp->Prop} (h:PI X tg iter t) (q:t σ H R):WI X tg iter σ H R:=fun pins s I=>h pins s σ H R I q
theorem WO.of {f:aA->aA->Sem aA} {r:R2} {x y:V} {H:Hp} {Q:VK} (h:OpR X f r) (q:r x y H Q):WO X f x y H Q:=fun pins s σ v u I r1 r2=>h pins s σ H x y v u Q I r1 r2 q
theorem WC.of {f:aA} {r:List V->Hp->VK->Prop} {xs:List V} {H:Hp} {Q:VK} (h:U4 X f r) (q:r xs H Q):WC X f xs H Q:=fun pins s σ us I r1=>h pins s σ H xs us Q I r1 q
end
def XFs (H:Hp) (ρ:Tk):Option (Str × PV)->Option aB->Prop
 | none,dv=>dv=none
 | some (n,p),dv=>∃ dx v,dv=some dx/\H dx=some (.xd [(n,v)])/\dx∉ρ/\Rep H ρ p v
def Acc {α:Type} (mg:Str->Option aA) (E:XK) (H:Hp) (ρ:Tk) (P:α->Q3->Hp->Tk->Prop):Res α->Prop
 | .ok a st=>∀ H' ρ',Ext H ρ H' ρ'->Rel H' ρ' st->P a st H' ρ'
 | .exc x st=>∀ C dv H' ρ',mg x.cls=some (.ref C)->Ext H ρ H' ρ'->Rel H' ρ' st->XFs H' ρ' x.fs dv->E (.ref C) dv H'
 | .stuck=>False
section
variable {α β:Type} {mg:Str->Option aA} {E:XK} {H H1:Hp} {ρ ρ1:Tk}
theorem Acc.mono {P P':α->Q3->Hp->Tk->Prop} {r:Res α} (h:Acc mg E H ρ P r) (x:Ext H ρ H1 ρ1) (k:∀ a st H' ρ',P a st H' ρ'->P' a st H' ρ'):Acc mg E H1 ρ1 P' r:=by
 cases r with
 | ok a st=>exact fun H' ρ' x' R'=>k _ _ _ _ (h H' ρ' (x.trans x') R')
 | exc e st=>exact fun C dv H' ρ' m x' R' f=>h C dv H' ρ' m (x.trans x') R' f
 | stuck=>exact h
theorem Acc.later {P:α->Q3->Hp->Tk->Prop} {r:Res α} (h:Acc mg E H ρ P r) (x:Ext H ρ H1 ρ1):Acc mg E H1 ρ1 P r:=h.mono x fun _ _ _ _ p=>p
theorem Acc.bind {P:β->Q3->Hp->Tk->Prop} {r:Res α} {f:α->Q3->Res β} (h:Acc mg E H ρ P (r.bind f)):Acc mg E H ρ (fun a st1 H1 ρ1=>Acc mg E H1 ρ1 P (f a st1)) r:=by
 cases r with
 | ok a st=>exact fun H' ρ' x' R'=>Acc.later (show Acc mg E H ρ P (f a st) from h) x'
 | exc e st=>exact h
 | stuck=>exact h
end
abbrev QV (Q:VK):PV->Q3->Hp->Tk->Prop:=fun p _ H' ρ'=>∀ v,Rep H' ρ' p v->Q v H'
abbrev QL (Q:List V->Hp->Prop):List PV->Q3->Hp->Tk->Prop:=fun ps _ H' ρ'=>∀ vs,RepL H' ρ' ps vs->Q vs H'
abbrev QB (Q:Bool->Hp->Prop):Bool->Q3->Hp->Tk->Prop:=fun b _ H' _=>Q b H'
structure SimE (X:Cx) (E:XK) (e:aH) (m:ME):Prop where
 run:∀ (Γ:Gam) (σ:St) (H:Hp) (ρ:Tk) (st:Q3) (Q:VK),Rel H ρ st->EnvR H ρ Γ σ->Acc X.mg E H ρ (QV Q) (m Γ st)->WE X e σ H Q
structure SimT (X:Cx) (E:XK) (e:aH) (m:Gam->Q3->Res Bool):Prop where
 run:∀ (Γ:Gam) (σ:St) (H:Hp) (ρ:Tk) (st:Q3) (Q:Bool->Hp->Prop),Rel H ρ st->EnvR H ρ Γ σ->Acc X.mg E H ρ (QB Q) (m Γ st)->WT X e σ H Q
structure SimW (X:Cx) (E:XK) (e:aH) (m:Gam->Q3->Res Bool):Prop where
 run:∀ (Γ:Gam) (σ:St) (H:Hp) (ρ:Tk) (st:Q3) (Q:Bool->Hp->Prop),Rel H ρ st->EnvR H ρ Γ σ->Acc X.mg E H ρ (QB Q) (m Γ st)->WW X e σ H Q
structure SimA (X:Cx) (E:XK) (es:List aH) (m:Gam->Q3->Res (List PV)):Prop where
 run:∀ (Γ:Gam) (σ:St) (H:Hp) (ρ:Tk) (st:Q3) (Q:List V->Hp->Prop),Rel H ρ st->EnvR H ρ Γ σ->Acc X.mg E H ρ (QL Q) (m Γ st)->WA X es σ H Q
abbrev OP:=Q3->PV->PV->Res PV
structure OpS (X:Cx) (E:XK) (f:aA->aA->Sem aA) (o:OP):Prop where
 run:∀ (H:Hp) (ρ:Tk) (st:Q3) (p q:PV) (x y:V) (Q:VK),Rel H ρ st->Rep H ρ p x->Rep H ρ q y->Acc X.mg E H ρ (QV Q) (o st p q)->WO X f x y H Q
abbrev CF:=Q3->List PV->Res PV
structure CallS (X:Cx) (E:XK) (f:aA) (o:CF):Prop where
 run:∀ (H:Hp) (ρ:Tk) (st:Q3) (ps:List PV) (xs:List V) (Q:VK),Rel H ρ st->RepL H ρ ps xs->Acc X.mg E H ρ (QV Q) (o st ps)->WC X f xs H Q
section
variable {X:Cx} {E:XK} {Γ:Gam} {σ:St} {H:Hp} {ρ:Tk} {st:Q3}
theorem SimE.use {e:aH} {m:ME} (s:SimE X E e m) {P:PV->Q3->Hp->Tk->Prop} {Q:VK} (R:Rel H ρ st) (G:EnvR H ρ Γ σ) (h:Acc X.mg E H ρ P (m Γ st))
  (k:∀ p st1 H1 ρ1 v,Ext H ρ H1 ρ1->Rel H1 ρ1 st1->EnvR H1 ρ1 Γ σ->Rep H1 ρ1 p v->P p st1 H1 ρ1->Q v H1):WE X e σ H Q:=by
 refine s.run Γ σ H ρ st Q R G ?_;cases r:m Γ st with
 | ok p st1=>rw [r] at h; exact fun H' ρ' x' R' v rv=>k p st1 H' ρ' v x' R' (G.ext x') rv (h H' ρ' x' R')
 | exc e st=>rw [r] at h; exact h
 | stuck=>rw [r] at h; exact h
theorem SimE.use' {e:aH} {m:ME} (s:SimE X E e m) {P:PV->Q3->Hp->Tk->Prop} {Q:VK} (R:Rel H ρ st) (G:EnvR H ρ Γ σ) (h:Acc X.mg E H ρ P (m Γ st))
  (k:∀ p st1 H1 ρ1 v,m Γ st=.ok p st1->Ext H ρ H1 ρ1->Rel H1 ρ1 st1->EnvR H1 ρ1 Γ σ->Rep H1 ρ1 p v->P p st1 H1 ρ1->Q v H1):WE X e σ H Q:=by
 refine s.run Γ σ H ρ st Q R G ?_;cases r:m Γ st with
 | ok p st1=>rw [r] at h; exact fun H' ρ' x' R' v rv=>k p st1 H' ρ' v r x' R' (G.ext x') rv (h H' ρ' x' R')
 | exc e st=>rw [r] at h; exact h
 | stuck=>rw [r] at h; exact h
theorem SimA.use' {es:List aH} {m:Gam->Q3->Res (List PV)} (s:SimA X E es m) {P:List PV->Q3->Hp->Tk->Prop} {Q:List V->Hp->Prop} (R:Rel H ρ st) (G:EnvR H ρ Γ σ) (h:Acc X.mg E H ρ P (m Γ st))
  (k:∀ ps st1 H1 ρ1 vs,m Γ st=.ok ps st1->Ext H ρ H1 ρ1->Rel H1 ρ1 st1->EnvR H1 ρ1 Γ σ->RepL H1 ρ1 ps vs->P ps st1 H1 ρ1->Q vs H1):WA X es σ H Q:=by
 refine s.run Γ σ H ρ st Q R G ?_;cases r:m Γ st with
 | ok p st1=>rw [r] at h; exact fun H' ρ' x' R' v rv=>k p st1 H' ρ' v r x' R' (G.ext x') rv (h H' ρ' x' R')
 | exc e st=>rw [r] at h; exact h
 | stuck=>rw [r] at h; exact h
theorem SimT.use {e:aH} {m:Gam->Q3->Res Bool} (s:SimT X E e m) {P:Bool->Q3->Hp->Tk->Prop} {Q:Bool->Hp->Prop} (R:Rel H ρ st) (G:EnvR H ρ Γ σ) (h:Acc X.mg E H ρ P (m Γ st))
  (k:∀ p st1 H1 ρ1,Ext H ρ H1 ρ1->Rel H1 ρ1 st1->EnvR H1 ρ1 Γ σ->P p st1 H1 ρ1->Q p H1):WT X e σ H Q:=by
 refine s.run Γ σ H ρ st Q R G ?_;cases r:m Γ st with
 | ok p st1=>rw [r] at h; exact fun H' ρ' x' R'=>k p st1 H' ρ' x' R' (G.ext x') (h H' ρ' x' R')
 | exc e st=>rw [r] at h; exact h
 | stuck=>rw [r] at h; exact h
theorem SimT.use' {e:aH} {m:Gam->Q3->Res Bool} (s:SimT X E e m) {P:Bool->Q3->Hp->Tk->Prop} {Q:Bool->Hp->Prop} (R:Rel H ρ st) (G:EnvR H ρ Γ σ) (h:Acc X.mg E H ρ P (m Γ st))
  (k:∀ p st1 H1 ρ1,m Γ st=.ok p st1->Ext H ρ H1 ρ1->Rel H1 ρ1 st1->EnvR H1 ρ1 Γ σ->P p st1 H1 ρ1->Q p H1):WT X e σ H Q:=by
 refine s.run Γ σ H ρ st Q R G ?_;cases r:m Γ st with
 | ok p st1=>rw [r] at h; exact fun H' ρ' x' R'=>k p st1 H' ρ' r x' R' (G.ext x') (h H' ρ' x' R')
 | exc e st=>rw [r] at h; exact h
 | stuck=>rw [r] at h; exact h
theorem SimW.use {e:aH} {m:Gam->Q3->Res Bool} (s:SimW X E e m) {P:Bool->Q3->Hp->Tk->Prop} {Q:Bool->Hp->Prop} (R:Rel H ρ st) (G:EnvR H ρ Γ σ) (h:Acc X.mg E H ρ P (m Γ st))
  (k:∀ p st1 H1 ρ1,Ext H ρ H1 ρ1->Rel H1 ρ1 st1->EnvR H1 ρ1 Γ σ->P p st1 H1 ρ1->Q p H1):WW X e σ H Q:=by
 refine s.run Γ σ H ρ st Q R G ?_;cases r:m Γ st with
 | ok p st1=>rw [r] at h; exact fun H' ρ' x' R'=>k p st1 H' ρ' x' R' (G.ext x') (h H' ρ' x' R')
 | exc e st=>rw [r] at h; exact h
 | stuck=>rw [r] at h; exact h
theorem SimA.use {es:List aH} {m:Gam->Q3->Res (List PV)} (s:SimA X E es m) {P:List PV->Q3->Hp->Tk->Prop} {Q:List V->Hp->Prop} (R:Rel H ρ st) (G:EnvR H ρ Γ σ) (h:Acc X.mg E H ρ P (m Γ st))
  (k:∀ ps st1 H1 ρ1 vs,Ext H ρ H1 ρ1->Rel H1 ρ1 st1->EnvR H1 ρ1 Γ σ->RepL H1 ρ1 ps vs->P ps st1 H1 ρ1->Q vs H1):WA X es σ H Q:=by
 refine s.run Γ σ H ρ st Q R G ?_;cases r:m Γ st with
 | ok p st1=>rw [r] at h; exact fun H' ρ' x' R' v rv=>k p st1 H' ρ' v x' R' (G.ext x') rv (h H' ρ' x' R')
 | exc e st=>rw [r] at h; exact h
 | stuck=>rw [r] at h; exact h
theorem OpS.use {f:aA->aA->Sem aA} {o:OP} (s:OpS X E f o) {P:PV->Q3->Hp->Tk->Prop} {Q:VK} {p q:PV} {x y:V} (R:Rel H ρ st) (rp:Rep H ρ p x) (rq:Rep H ρ q y) (h:Acc X.mg E H ρ P (o st p q))
  (k:∀ p st1 H1 ρ1 v,Ext H ρ H1 ρ1->Rel H1 ρ1 st1->Rep H1 ρ1 p v->P p st1 H1 ρ1->Q v H1):WO X f x y H Q:=by
 refine s.run H ρ st p q x y Q R rp rq ?_;cases r:o st p q with
 | ok p st1=>rw [r] at h; exact fun H' ρ' x' R' v rv=>k p st1 H' ρ' v x' R' rv (h H' ρ' x' R')
 | exc e st=>rw [r] at h; exact h
 | stuck=>rw [r] at h; exact h
end
end Sm
namespace Sm
open PySem PySem.Spec L2 SeqAt
mutual
def peq:PV->PV->Bool
 | .non,.non=>true
 | .bl a,.bl b=>a == b
 | .bl a,.int b=>(if a then 1 else 0) == b
 | .int a,.bl b=>a == (if b then 1 else 0)
 | .int a,.int b=>a == b
 | .str a,.str b=>a == b
 | .tup xs,.tup ys=>Uk xs ys
 | .lst xs,.lst ys=>Uk xs ys
 | .lst xs,.fro ys=>Uk xs ys
 | .fro xs,.lst ys=>Uk xs ys
 | .fro xs,.fro ys=>Uk xs ys
 | _,_=>false
def Uk:List PV->List PV->Bool
 | [],[]=>true
 | x :: xs,y :: ys=>peq x y && Uk xs ys
 | _,_=>false
end
def Jq:Nat->PV->Bool
 | _,.ref _=>false
 | _,.dic=>false
 | 0,.tup _=>false
 | 0,.lst _=>false
 | 0,.fro _=>false
 | n + 1,.tup xs=>xs.all (Jq n)
 | n + 1,.lst xs=>xs.all (Jq n)
 | n + 1,.fro xs=>xs.all (Jq n)
 | _,_=>true
theorem Q2d:∀ {xs ys:List PV},xs.length≠ys.length->Uk xs ys=false
 | [],[],h=>absurd rfl h
 | [],_ :: _,_=>by simp [Uk]
 | _ :: _,[],_=>by simp [Uk]
 | x :: xs,y :: ys,h=>by
  rw [Uk,Q2d (xs:=xs) (ys:=ys) fun e=>h (by simp [e]),Bool.and_false]
theorem Q2e:∀ {xs ys:List PV},xs.length=ys.length->Uk xs ys=(List.range xs.length).all fun j=>peq (xs.getD j .non) (ys.getD j .non)
 | [],[],_=>by simp [Uk]
 | [],_ :: _,h=>by simp at h
 | _ :: _,[],h=>by simp at h
 | x :: xs,y :: ys,h=>by
  rw [Uk,Q2e (xs:=xs) (ys:=ys) (by simpa using h),E1,List.range_succ_eq_map,List.all_cons,List.all_map];rfl
section
variable {X:Cx} {pins:List (aB × Obj)} {σ:St} {H:Hp} {s:aC} {ρ:Tk}
mutual
theorem Q6p:∀ {p q:PV} {x:V} {n:Nat},Jq n p=true->Jq n q=true->Rep H ρ p x->Rep H ρ q x->peq p q=true
 | .non,q,x,n,_,gq,h1,h2=>by
  cases h1;cases q <;> first | rfl | (cases n <;> cases gq; done) | (cases h2; done) | (obtain ⟨_,_,e,_⟩:=h2; cases e) | (obtain ⟨_,_,e⟩:=h2; cases e)
 | .bl b,q,x,n,_,gq,h1,h2=>by
  cases h1;cases q <;> first | (cases n <;> cases gq; done) | (cases h2; simp [peq]; done) | (obtain ⟨_,_,e,_⟩:=h2; done) | (obtain ⟨_,_,e,_⟩:=h2; cases e; done) | (obtain ⟨_,_,e⟩:=h2; cases e)
 | .int b,q,x,n,_,gq,h1,h2=>by
  cases h1;cases q <;> first | (cases n <;> cases gq; done) | (cases h2; simp [peq]; done) | (obtain ⟨_,_,e,_⟩:=h2; done) | (obtain ⟨_,_,e,_⟩:=h2; cases e; done) | (obtain ⟨_,_,e⟩:=h2; cases e)
 | .str b,q,x,n,_,gq,h1,h2=>by
  cases h1;cases q <;> first | (cases n <;> cases gq; done) | (cases h2; simp [peq]; done) | (obtain ⟨_,_,e,_⟩:=h2; done) | (obtain ⟨_,_,e,_⟩:=h2; cases e; done) | (obtain ⟨_,_,e⟩:=h2; cases e)
 | .tup ps,q,x,0,gp,_,_,_=>by cases gp
 | .tup ps,q,x,n + 1,gp,gq,⟨a,vs,e,ha,_,r⟩,h2=>by
  subst e;cases q with
  | tup qs=>
   obtain ⟨b,us,e,hb,_,r2⟩:=h2;cases e;rw [ha] at hb; cases hb;rw [peq];exact Ua gp gq r r2
  | lst qs=>obtain ⟨b,us,e,hb,_⟩:=h2; cases e; rw [ha] at hb; cases hb
  | fro qs=>obtain ⟨b,us,e,hb,_⟩:=h2; cases e; rcases hb with hb | ⟨o,hb⟩ <;> (rw [ha] at hb; cases hb)
  | ref i=>cases gq
  | dic=>cases gq
  | _=>cases h2
 | .lst ps,q,x,0,gp,_,_,_=>by cases gp
 | .lst ps,q,x,n + 1,gp,gq,⟨a,vs,e,ha,_,r⟩,h2=>by
  subst e;cases q with
  | lst qs=>
   obtain ⟨b,us,e,hb,_,r2⟩:=h2;cases e;rw [ha] at hb; cases hb;rw [peq];exact Ua gp gq r r2
  | tup qs=>obtain ⟨b,us,e,hb,_⟩:=h2; cases e; rw [ha] at hb; cases hb
  | fro qs=>
   obtain ⟨b,us,e,hb,_,r2⟩:=h2;cases e;rcases hb with hb | ⟨o,hb⟩
   ·rw [ha] at hb; cases hb;rw [peq];exact Ua gp gq r r2
   ·rw [ha] at hb; cases hb
  | ref i=>cases gq
  | dic=>cases gq
  | _=>cases h2
 | .fro ps,q,x,0,gp,_,_,_=>by cases gp
 | .fro ps,q,x,n + 1,gp,gq,⟨a,vs,e,ha,_,r⟩,h2=>by
  subst e;cases q with
  | lst qs=>
   obtain ⟨b,us,e,hb,_,r2⟩:=h2;cases e;rcases ha with ha | ⟨o,ha⟩
   ·rw [ha] at hb; cases hb;rw [peq];exact Ua gp gq r r2
   ·rw [ha] at hb; cases hb
  | tup qs=>obtain ⟨b,us,e,hb,_⟩:=h2; cases e; rcases ha with ha | ⟨o,ha⟩ <;> (rw [ha] at hb; cases hb)
  | fro qs=>
   obtain ⟨b,us,e,hb,_,r2⟩:=h2;cases e;have:vs=us:=by
    rcases ha with ha | ⟨o,ha⟩ <;> rcases hb with hb | ⟨o',hb⟩ <;> (rw [ha] at hb; cases hb) <;> rfl
   subst this;rw [peq];exact Ua gp gq r r2
  | ref i=>cases gq
  | dic=>cases gq
  | _=>cases h2
 | .ref i,_,_,n,gp,_,_,_=>by cases n <;> cases gp
 | .dic,_,_,n,gp,_,_,_=>by cases n <;> cases gp
theorem Ua:∀ {ps qs:List PV} {vs:List V} {n:Nat},ps.all (Jq n)=true->qs.all (Jq n)=true->RepL H ρ ps vs->RepL H ρ qs vs->Uk ps qs=true
 | [],qs,vs,n,_,_,h1,h2=>by
  cases h1;cases qs with
  | nil=>rfl
  | cons q qs=>obtain ⟨_,_,e,_⟩:=h2; cases e
 | p :: ps,qs,vs,n,g1,g2,⟨v,r,e,h1,h1'⟩,h2=>by
  subst e;cases qs with
  | nil=>cases h2
  | cons q qs=>
   obtain ⟨_,_,e,h2,h2'⟩:=h2;cases e;rw [List.all_cons,G8] at g1 g2;rw [Uk,Q6p g1.1 g2.1 h1 h2,Ua g1.2 g2.2 h1' h2']; rfl
end
inductive Kd (H:Hp) (ρ:Tk) (s:aC):PV->aA->Prop where
 | non:Kd H ρ s .non .none
 | bl (b):Kd H ρ s (.bl b) (.bool b)
 | int (i t):Kd H ρ s (.int i) (.int i t)
 | str (x t):Kd H ρ s (.str x) (.str x t)
 | tup (ps a) (vs:List V) (its:List aA):H a=some (.tup vs)->RepL H ρ ps vs->Vals vs its->s.heap.IsTuple a its.toArray->Kd H ρ s (.tup ps) (.ref a)
 | lst (p ps a) (vs:List V) (its:List aA):(p=.lst ps\/p=.fro ps)->RepL H ρ ps vs->Vals vs its->s.heap.IsList a its.toArray->Kd H ρ s p (.ref a)
theorem Qab {p:PV} {x:V} {u:aA} {n:Nat} (I:Inv X pins σ H s) (g:Jq n p=true) (r:Rep H ρ p x) (ru:RelV x u):Kd H ρ s p u:=by
 cases p with
 | non=>cases r; cases ru; exact .non
 | bl b=>cases r; cases ru; exact .bl b
 | int i=>cases r; obtain ⟨t,rfl⟩:=ru; exact .int i t
 | str i=>cases r; obtain ⟨t,rfl⟩:=ru; exact .str i t
 | tup ps=>
  obtain ⟨a,vs,rfl,ha,_,rr⟩:=r;cases ru;obtain ⟨its,v1,p1,_⟩:=I.tuple (SqT.of (K:=X.K) ha);exact .tup ps a vs its ha rr v1 p1
 | lst ps=>
  obtain ⟨a,vs,rfl,ha,_,rr⟩:=r;cases ru;obtain ⟨its,v1,p1,_⟩:=I.list (SqL.of (K:=X.K) ha);exact .lst _ ps a vs its (.inl rfl) rr v1 p1.isList
 | fro ps=>
  obtain ⟨a,vs,rfl,ha,_,rr⟩:=r;cases ru;obtain ⟨its,v1,p1,_⟩:=I.list (show SqL X.K H a vs from .inl ha);exact .lst _ ps a vs its (.inr rfl) rr v1 p1.isList
 | ref i=>cases n <;> cases g
 | dic=>cases n <;> cases g
theorem Q1e {ps:List PV} {vs:List V} {its:List aA} (r:RepL H ρ ps vs) (v:Vals vs its) {j:Nat} (h:j < its.length):∃ x,Rep H ρ (ps.getD j .non) x/\RelV x its[j]:=by
 have l1:=r.length;have l2:=v.length;have hj:j < ps.length:=by omega
 obtain ⟨x,e1,e2⟩:=r.get (O2 hj);obtain ⟨u,e3,e4⟩:=v.get e1;rw [O2 h] at e3; cases e3;refine ⟨x,?_,e4⟩;rw [List.getD,O2 hj];exact e2
theorem jy {ps:List PV} {n:Nat} (g:ps.all (Jq n)=true) (j:Nat) (hj:j < ps.length):Jq n (ps.getD j .non)=true:=by
 rw [List.getD,O2 hj];exact (E9.mp g) _ (List.getElem_mem hj)
theorem Q8u {ps qs:List PV}:((List.range (min ps.length qs.length)).all (fun j=>peq (ps.getD j .non) (qs.getD j .non)) && ps.length == qs.length)=Uk ps qs:=by
 by_cases e:ps.length=qs.length
 ·rw [Q2e e,<- e,Nat.min_self,beq_self_eq_true,Bool.and_true]
 ·rw [Q2d e,beq_eq_false_iff_ne.mpr e,Bool.and_false]
theorem Q4j:∀ (n:Nat) {A:aM} {p q:PV} {x y:V} {u v:aA},Inv X pins σ H s->Jq n p=true->Jq n q=true->A.units + n < aW->Rep H ρ p x->RelV x u->Rep H ρ q y->RelV y v ->
  EqAt A s u v (peq p q)/\RcAt A s u v (peq p q)/\RcNeAt A s u v (!peq p q):=by
 intro n
 induction n with
 | zero=>
  intro A p q x y u v I gp gq hu rp ru rq rv;have k1:=Qab I gp rp ru;have k2:=Qab I gq rq rv;have hu:A.units < aW:=by omega
  cases k1 with
  | tup=>cases gp
  | lst p ps a vs its h=>rcases h with rfl | rfl <;> cases gp
  | non=>cases k2 with
   | tup=>cases gq
   | lst p ps a vs its h=>rcases h with rfl | rfl <;> cases gq
   | non=>exact ⟨EqAt.same _,RcAt.none_none,RcNeAt.none_none⟩
   | bl b=>exact ⟨EqAt.none_bool _,RcAt.none_bool _,RcNeAt.none_bool _⟩
   | int i t=>exact ⟨EqAt.none_int _ _,RcAt.none_int _ _,RcNeAt.none_int _ _⟩
   | str i t=>exact ⟨EqAt.none_str _ _,RcAt.none_str _ _,RcNeAt.none_str _ _⟩
  | bl a=>cases k2 with
   | tup=>cases gq
   | lst p ps a vs its h=>rcases h with rfl | rfl <;> cases gq
   | non=>exact ⟨EqAt.bool_none _,RcAt.bool_none _,RcNeAt.bool_none _⟩
   | bl b=>exact ⟨EqAt.bool_bool _ _,RcAt.bool_bool _ _,RcNeAt.bool_bool _ _⟩
   | int i t=>exact ⟨EqAt.bool_int _ _ _,RcAt.bool_int _ _ _,RcNeAt.bool_int _ _ _⟩
   | str i t=>exact ⟨EqAt.bool_str _ _ _,RcAt.bool_str _ _ _,RcNeAt.bool_str _ _ _⟩
  | int a at'=>cases k2 with
   | tup=>cases gq
   | lst p ps a vs its h=>rcases h with rfl | rfl <;> cases gq
   | non=>exact ⟨EqAt.int_none _ _,RcAt.int_none _ _,RcNeAt.int_none _ _⟩
   | bl b=>exact ⟨EqAt.int_bool _ _ _,RcAt.int_bool _ _ _,RcNeAt.int_bool _ _ _⟩
   | int i t=>exact ⟨EqAt.int_int _ _ _ _,RcAt.int_int _ _ _ _,RcNeAt.int_int _ _ _ _⟩
   | str i t=>exact ⟨EqAt.int_str _ _ _ _,RcAt.int_str _ _ _ _,RcNeAt.int_str _ _ _ _⟩
  | str a at'=>cases k2 with
   | tup=>cases gq
   | lst p ps a vs its h=>rcases h with rfl | rfl <;> cases gq
   | non=>exact ⟨EqAt.str_none _ _,RcAt.str_none _ _,RcNeAt.str_none _ _⟩
   | bl b=>exact ⟨EqAt.str_bool _ _ _,RcAt.str_bool _ _ _,RcNeAt.str_bool _ _ _⟩
   | int i t=>exact ⟨EqAt.str_int _ _ _ _,RcAt.str_int _ _ _ _,RcNeAt.str_int _ _ _ _⟩
   | str i t=>exact ⟨EqAt.str_str _ _ _ _,RcAt.str_str _ _ _ _,RcNeAt.str_str _ _ _ _⟩
 | succ n ih=>
  intro A p q x y u v I gp gq hu rp ru rq rv;have k1:=Qab I gp rp ru;have k2:=Qab I gq rq rv;have hu0:A.units < aW:=by omega
  have hin:A.in1.units + n < aW:=by show A.units + 1 + n < aW; omega
  cases k1 with
  | non=>cases k2 with
   | non=>exact ⟨EqAt.same _,RcAt.none_none,RcNeAt.none_none⟩
   | bl b=>exact ⟨EqAt.none_bool _,RcAt.none_bool _,RcNeAt.none_bool _⟩
   | int i t=>exact ⟨EqAt.none_int _ _,RcAt.none_int _ _,RcNeAt.none_int _ _⟩
   | str i t=>exact ⟨EqAt.none_str _ _,RcAt.none_str _ _,RcNeAt.none_str _ _⟩
   | tup ps a vs its ha r v1 p1=>exact ⟨EqAt.none_tuple p1 hu0,RcAt.none_tuple p1 hu0,RcNeAt.none_tuple p1 hu0⟩
   | lst p ps a vs its h r v1 p1=>rcases h with rfl | rfl <;> exact ⟨EqAt.none_list p1 hu0,RcAt.none_list p1 hu0,RcNeAt.none_list p1 hu0⟩
  | bl a=>cases k2 with
   | non=>exact ⟨EqAt.bool_none _,RcAt.bool_none _,RcNeAt.bool_none _⟩
   | bl b=>exact ⟨EqAt.bool_bool _ _,RcAt.bool_bool _ _,RcNeAt.bool_bool _ _⟩
   | int i t=>exact ⟨EqAt.bool_int _ _ _,RcAt.bool_int _ _ _,RcNeAt.bool_int _ _ _⟩
   | str i t=>exact ⟨EqAt.bool_str _ _ _,RcAt.bool_str _ _ _,RcNeAt.bool_str _ _ _⟩
   | tup ps a vs its ha r v1 p1=>exact ⟨EqAt.bool_tuple _ p1 hu0,RcAt.bool_tuple _ p1 hu0,RcNeAt.bool_tuple _ p1 hu0⟩
   | lst p ps a vs its h r v1 p1=>rcases h with rfl | rfl <;> exact ⟨EqAt.bool_list _ p1 hu0,RcAt.bool_list _ p1 hu0,RcNeAt.bool_list _ p1 hu0⟩
  | int a at'=>cases k2 with
   | non=>exact ⟨EqAt.int_none _ _,RcAt.int_none _ _,RcNeAt.int_none _ _⟩
   | bl b=>exact ⟨EqAt.int_bool _ _ _,RcAt.int_bool _ _ _,RcNeAt.int_bool _ _ _⟩
   | int i t=>exact ⟨EqAt.int_int _ _ _ _,RcAt.int_int _ _ _ _,RcNeAt.int_int _ _ _ _⟩
   | str i t=>exact ⟨EqAt.int_str _ _ _ _,RcAt.int_str _ _ _ _,RcNeAt.int_str _ _ _ _⟩
   | tup ps a vs its ha r v1 p1=>exact ⟨EqAt.int_tuple _ _ p1 hu0,RcAt.int_tuple _ _ p1 hu0,RcNeAt.int_tuple _ _ p1 hu0⟩
   | lst p ps a vs its h r v1 p1=>rcases h with rfl | rfl <;> exact ⟨EqAt.int_list _ _ p1 hu0,RcAt.int_list _ _ p1 hu0,RcNeAt.int_list _ _ p1 hu0⟩
  | str a at'=>cases k2 with
   | non=>exact ⟨EqAt.str_none _ _,RcAt.str_none _ _,RcNeAt.str_none _ _⟩
   | bl b=>exact ⟨EqAt.str_bool _ _ _,RcAt.str_bool _ _ _,RcNeAt.str_bool _ _ _⟩
   | int i t=>exact ⟨EqAt.str_int _ _ _ _,RcAt.str_int _ _ _ _,RcNeAt.str_int _ _ _ _⟩
   | str i t=>exact ⟨EqAt.str_str _ _ _ _,RcAt.str_str _ _ _ _,RcNeAt.str_str _ _ _ _⟩
   | tup ps a vs its ha r v1 p1=>exact ⟨EqAt.str_tuple _ _ p1 hu0,RcAt.str_tuple _ _ p1 hu0,RcNeAt.str_tuple _ _ p1 hu0⟩
   | lst p ps a vs its h r v1 p1=>rcases h with rfl | rfl <;> exact ⟨EqAt.str_list _ _ p1 hu0,RcAt.str_list _ _ p1 hu0,RcNeAt.str_list _ _ p1 hu0⟩
  | tup ps a vs its ha r v1 p1=>cases k2 with
   | non=>exact ⟨EqAt.tuple_none p1 hu0,RcAt.tuple_none p1 hu0,RcNeAt.tuple_none p1 hu0⟩
   | bl b=>exact ⟨EqAt.tuple_bool _ p1 hu0,RcAt.tuple_bool _ p1 hu0,RcNeAt.tuple_bool _ p1 hu0⟩
   | int i t=>exact ⟨EqAt.tuple_int _ _ p1 hu0,RcAt.tuple_int _ _ p1 hu0,RcNeAt.tuple_int _ _ p1 hu0⟩
   | str i t=>exact ⟨EqAt.tuple_str _ _ p1 hu0,RcAt.tuple_str _ _ p1 hu0,RcNeAt.tuple_str _ _ p1 hu0⟩
   | tup qs b us its2 hb r2 v2 p2=>
    have l1:its.toArray.size=ps.length:=by rw [O4,<- v1.length,r.length]
    have l2:its2.toArray.size=qs.length:=by rw [O4,<- v2.length,r2.length]
    have he:∀ j (h1:j < its.toArray.size) (h2:j < its2.toArray.size),EqAt A.in1 s its.toArray[j] its2.toArray[j] (peq (ps.getD j .non) (qs.getD j .non)):=fun j h1 h2=>by
     obtain ⟨x1,a1,b1⟩:=Q1e r v1 (j:=j) (by simpa using h1);obtain ⟨x2,a2,b2⟩:=Q1e r2 v2 (j:=j) (by simpa using h2);exact (ih I (jy gp j (by omega)) (jy gq j (by omega)) hin a1 b1 a2 b2).1
    have rc:=RcAt.tuples p1 p2 hu0 he;have rn:=RcNeAt.tuples p1 p2 hu0 he;rw [l1,l2,Q8u] at rc rn;refine ⟨?_,rc,rn⟩
    by_cases e:a=b
    ·subst e;have:Uk ps qs=true:=by
      rw [ha] at hb; cases hb;exact Ua gp gq r r2
     show EqAt A s _ _ (Uk ps qs);rw [this];exact EqAt.same _
    ·exact EqAt.of_refs e rc
   | lst q qs b us its2 h r2 v2 p2=>rcases h with rfl | rfl <;> exact ⟨EqAt.tuple_list p1 p2 hu0,RcAt.tuple_list p1 p2 hu0,RcNeAt.tuple_list p1 p2 hu0⟩
  | lst p ps a vs its h r v1 p1=>cases k2 with
   | non=>rcases h with rfl | rfl <;> exact ⟨EqAt.list_none p1 hu0,RcAt.list_none p1 hu0,RcNeAt.list_none p1 hu0⟩
   | bl b=>rcases h with rfl | rfl <;> exact ⟨EqAt.list_bool _ p1 hu0,RcAt.list_bool _ p1 hu0,RcNeAt.list_bool _ p1 hu0⟩
   | int i t=>rcases h with rfl | rfl <;> exact ⟨EqAt.list_int _ _ p1 hu0,RcAt.list_int _ _ p1 hu0,RcNeAt.list_int _ _ p1 hu0⟩
   | str i t=>rcases h with rfl | rfl <;> exact ⟨EqAt.list_str _ _ p1 hu0,RcAt.list_str _ _ p1 hu0,RcNeAt.list_str _ _ p1 hu0⟩
   | tup qs b us its2 hb r2 v2 p2=>rcases h with rfl | rfl <;> exact ⟨EqAt.list_tuple p1 p2 hu0,RcAt.list_tuple p1 p2 hu0,RcNeAt.list_tuple p1 p2 hu0⟩
   | lst q qs b us its2 h2 r2 v2 p2=>
    have l1:its.toArray.size=ps.length:=by rw [O4,<- v1.length,r.length]
    have l2:its2.toArray.size=qs.length:=by rw [O4,<- v2.length,r2.length]
    have gp':ps.all (Jq n)=true:=by rcases h with rfl | rfl <;> exact gp
    have gq':qs.all (Jq n)=true:=by rcases h2 with rfl | rfl <;> exact gq
    have ep:peq p q=Uk ps qs:=by rcases h with rfl | rfl <;> rcases h2 with rfl | rfl <;> rfl
    have he:∀ j (h1:j < its.toArray.size) (h2:j < its2.toArray.size),EqAt A.in1 s its.toArray[j] its2.toArray[j] (peq (ps.getD j .non) (qs.getD j .non)):=fun j h1 h2=>by
     obtain ⟨x1,a1,b1⟩:=Q1e r v1 (j:=j) (by simpa using h1);obtain ⟨x2,a2,b2⟩:=Q1e r2 v2 (j:=j) (by simpa using h2);exact (ih I (jy gp' j (by omega)) (jy gq' j (by omega)) hin a1 b1 a2 b2).1
    rw [ep];have rcn:RcAt A s (.ref a) (.ref b) (Uk ps qs)/\RcNeAt A s (.ref a) (.ref b) (!Uk ps qs):=by
     by_cases e:ps.length=qs.length
     ·have rc:=RcAt.lists p1 p2 (by rw [l1,l2,e]) hu0 he;have rn:=RcNeAt.lists p1 p2 (by rw [l1,l2,e]) hu0 he;rw [l1,<- Q2e e] at rc rn;exact ⟨rc,rn⟩
     ·have e':(its.toArray.size != its2.toArray.size)=true:=by rw [l1,l2]; simpa using e
      rw [Q2d e];exact ⟨RcAt.lists_lengths p1 p2 e' hu0,RcNeAt.lists_lengths p1 p2 e' hu0⟩
    refine ⟨?_,rcn.1,rcn.2⟩
    by_cases e:a=b
    ·subst e;have eq1:peq p q=true:=by
      have rp':=rp;have rq':=rq;have xa:x=.ref a:=by
       rcases h with rfl | rfl <;> (obtain ⟨b',_,rfl,_⟩:=rp; cases ru; rfl)
      have ya:y=.ref a:=by
       rcases h2 with rfl | rfl <;> (obtain ⟨b',_,rfl,_⟩:=rq; cases rv; rfl)
      subst xa; subst ya;exact Q6p gp gq rp rq
     rw [<- ep,eq1];exact EqAt.same _
    ·exact EqAt.of_refs e rcn.1
end
end Sm
namespace Sm
open PySem PySem.Spec L2
def lim:Nat:=1000000
theorem Q97:lim<=sizeLine:=by decide
theorem Vc {n:Nat} (h:n<=lim):n<=sizeLine:=E7 h Q97
def Up (st:Q3):PV->Option (List PV)
 | .lst xs=>some xs
 | .ref i=>match st[i]? with
  | some (.lst xs)=>some xs
  | _=>none
 | _=>none
def Za (st:Q3):PV->Option (List PV)
 | .fro xs=>some xs
 | p=>Up st p
def Wx (st:Q3):PV->Option (List PV)
 | .tup xs=>some xs
 | p=>Za st p
def der (st:Q3):PV->PV
 | .ref i=>match st[i]? with
  | some (.lst xs)=>.lst xs
  | _=>.ref i
 | p=>p
section
variable {H:Hp} {ρ:Tk} {st:Q3} {p:PV} {v:V} {xs:List PV}
theorem zw (R:Rel H ρ st) (r:Rep H ρ p v) (e:Up st p=some xs):∃ a vs,v=.ref a/\H a=some (.lst vs)/\RepL H ρ xs vs:=by
 cases p with
 | lst ys=>
  obtain ⟨a,vs,e1,e2,_,e3⟩:=r;cases e;exact ⟨a,vs,e1,e2,e3⟩
 | ref i=>
  obtain ⟨a,e1,e2⟩:=r;simp only [Up] at e
  split at e
  ·rename_i ys hs;cases e;obtain ⟨b,vs,f1,f2,f3⟩:=R.lst hs;rw [e1] at f1; cases f1;exact ⟨a,vs,e2,f2,f3⟩
  ·cases e
 | _=>cases e
theorem Xu (R:Rel H ρ st) (r:Rep H ρ p v) (e:Za st p=some xs):∃ a vs,v=.ref a/\Rd H a (.lst vs)/\RepL H ρ xs vs:=by
 cases p with
 | fro ys=>
  obtain ⟨a,vs,e1,e2,_,e3⟩:=r;cases e;exact ⟨a,vs,e1,e2,e3⟩
 | _=>
  obtain ⟨a,vs,e1,e2,e3⟩:=zw R r e;exact ⟨a,vs,e1,.inl e2,e3⟩
theorem qr {K:PySem.W.Frag} (R:Rel H ρ st) (r:Rep H ρ p v) (e:Wx st p=some xs):∃ (t:Bool) (a:aB) (vs:List V),v=.ref a/\SqK K t H a vs/\RepL H ρ xs vs:=by
 cases p with
 | tup ys=>
  obtain ⟨a,vs,e1,e2,_,e3⟩:=r;cases e;exact ⟨true,a,vs,e1,show SqT K H a vs from SqT.of e2,e3⟩
 | _=>
  obtain ⟨a,vs,e1,e2,e3⟩:=Xu R r e;exact ⟨false,a,vs,e1,show SqL K H a vs from .inl e2,e3⟩
theorem Q8k {K:PySem.W.Frag} {t:Bool} {a:aB} {vs:List V} (h:SqK K t H a vs):SqL K H a vs\/SqT K H a vs:=by
 cases t with
 | true=>exact .inr h
 | false=>exact .inl h
mutual
theorem Qa3:∀ {n:Nat} {q:PV} {u:V},Jq n q=true->Rep H ρ q u->Rep H Tk.nil q u
 | _,.non,_,_,r=>r
 | _,.bl _,_,_,r=>r
 | _,.int _,_,_,r=>r
 | _,.str _,_,_,r=>r
 | 0,.tup _,_,g,_=>by cases g
 | 0,.lst _,_,g,_=>by cases g
 | 0,.fro _,_,g,_=>by cases g
 | n + 1,.tup _,_,g,⟨a,vs,e,h,_,r⟩=>⟨a,vs,e,h,Tk.not_nil _,Xd g r⟩
 | n + 1,.lst _,_,g,⟨a,vs,e,h,_,r⟩=>⟨a,vs,e,h,Tk.not_nil _,Xd g r⟩
 | n + 1,.fro _,_,g,⟨a,vs,e,h,_,r⟩=>⟨a,vs,e,h,Tk.not_nil _,Xd g r⟩
 | 0,.ref _,_,g,_=>by cases g
 | _ + 1,.ref _,_,g,_=>by cases g
 | 0,.dic,_,g,_=>by cases g
 | _ + 1,.dic,_,g,_=>by cases g
theorem Xd:∀ {n:Nat} {qs:List PV} {us:List V},qs.all (Jq n)=true->RepL H ρ qs us->RepL H Tk.nil qs us
 | _,[],_,_,r=>r
 | n,q :: qs,_,g,⟨v,r,e,h1,h2⟩=>by
  rw [List.all_cons,G8] at g;exact ⟨v,r,e,Qa3 g.1 h1,Xd g.2 h2⟩
end
theorem Xw (R:Rel H ρ st) {n:Nat} (g:Jq n (der st p)=true) (r:Rep H ρ p v):Rep H Tk.nil (der st p) v:=by
 cases p with
 | ref i=>
  obtain ⟨a,e1,e2⟩:=r;simp only [der] at g ⊢
  split at g
  ·rename_i ys hs;obtain ⟨b,vs,f1,f2,f3⟩:=R.lst hs;rw [e1] at f1; cases f1;cases n with
   | zero=>cases g
   | succ n=>exact ⟨a,vs,e2,f2,Tk.not_nil _,Xd g f3⟩
  ·cases n <;> cases g
 | _=>exact Qa3 g r
theorem yx {mg:Str->Option aA} {E:XK} {Q:VK} {ps:List PV} {vs:List V} (R:Rel H ρ st) (h:Acc mg E H ρ (QV Q) (.ok (.tup ps) st)) (r:RepL H ρ ps vs):∀ p,H p=none->Q (.ref p) (upd H p (.tup vs)):=
 fun p hp=>h _ ρ (Ext.add hp) (R.add hp) _ ⟨p,vs,rfl,Jb,R.fresh hp,r.ext (Ext.add hp)⟩
theorem yy {mg:Str->Option aA} {E:XK} {Q:VK} {ps:List PV} {vs:List V} (R:Rel H ρ st) (h:Acc mg E H ρ (QV Q) (.ok (.lst ps) st)) (r:RepL H ρ ps vs):∀ p,H p=none->Q (.ref p) (upd H p (.lst vs)):=
 fun p hp=>h _ ρ (Ext.add hp) (R.add hp) _ ⟨p,vs,rfl,Jb,R.fresh hp,r.ext (Ext.add hp)⟩
theorem now {mg:Str->Option aA} {E:XK} {Q:VK} {p:PV} (R:Rel H ρ st) (h:Acc mg E H ρ (QV Q) (.ok p st)) (r:Rep H ρ p v):Q v H:=h H ρ (Ext.refl _ _) R v r
end
section
variable {X:Cx} {E:XK} {pos:Pos}
def Q4 (i:Nat):ME:=fun Γ st=>match Γ[i]? with
 | some (some p)=>.ok p st
 | _=>.stuck
def mC (p:PV):ME:=fun _ st=>.ok p st
theorem Q0 (i:Nat) {x:Str} (hN:X.N[i]?=some x:=by rfl) (hv:Vis X.env.scope x:=by first | exact Or.inl rfl | exact Or.inr (Or.inl rfl) | exact Or.inr (Or.inr rfl)) (hd:(x == ("__debug__" : Str))=false:=by decide)
  (hcd:(x == ("__classdict__" : Str))=false:=by decide):SimE X E (.Name x pos) (Q4 i):=⟨fun Γ σ H ρ st Q R G h=>WE.of (Qdt hN hv hd hcd) (by
 unfold Q4 at h
 split at h
 ·rename_i p e;obtain ⟨v,e1,r⟩:=G.2 i p e;exact ⟨v,e1,now R h r⟩
 ·exact h.elim)⟩
theorem Q7 {i:Int} {j:Nat}:SimE X E (.Constant (.int i) j pos) (mC (.int i)):=⟨fun Γ σ H ρ st Q R G h=>WE.of Qji (now R h rfl)⟩
theorem Xb {b:Bool} {j:Nat}:SimE X E (.Constant (.bool b) j pos) (mC (.bl b)):=⟨fun Γ σ H ρ st Q R G h=>WE.of Qp2 (now R h rfl)⟩
theorem Uu {j:Nat}:SimE X E (.Constant .none j pos) (mC .non):=⟨fun Γ σ H ρ st Q R G h=>WE.of Qjh (now R h rfl)⟩
theorem Qa1 {x:Str} {i:Int} {t:Tok} (hg:Gl X x) (hm:X.mg x=some (.int i t)) (hd:(x == ("__debug__" : Str))=false:=by decide):SimE X E (.Name x pos) (mC (.int i)):=
 ⟨fun Γ σ H ρ st Q R G h=>WE.of (Qgx hg hm (v:=.int i) ⟨t,rfl⟩ hd) (now R h rfl)⟩
variable {a b c:aH} {ma mb mc:ME}
def mOp (o:OP) (ma mb:ME):ME:=fun Γ st=>(ma Γ st).bind fun x st1=>(mb Γ st1).bind fun y st2=>o st2 x y
theorem Q66 {f:aA->aA->Sem aA} {o:OP} {Γ:Gam} {σ:St} {H:Hp} {ρ:Tk} {st:Q3} {P:PV->Q3->Hp->Tk->Prop} {Q:VK} (ho:OpS X E f o) (ha:SimE X E a ma) (hb:SimE X E b mb) (R:Rel H ρ st) (G:EnvR H ρ Γ σ) (h:Acc X.mg E H ρ P (mOp o ma mb Γ st))
  (k:∀ p st1 H1 ρ1 v,Ext H ρ H1 ρ1->Rel H1 ρ1 st1->Rep H1 ρ1 p v->P p st1 H1 ρ1->Q v H1):tOp (WO X f) (WE X a) (WE X b) σ H Q:=by
 refine ha.use R G h.bind fun p st1 H1 ρ1 v x1 R1 G1 r1 h1=>?_
 refine hb.use R1 G1 h1.bind fun q st2 H2 ρ2 u x2 R2 G2 r2 h2=>?_
 exact ho.use R2 (r1.ext x2) r2 h2 fun w st3 H3 ρ3 z x3 R3 r3 p3=>k w st3 H3 ρ3 z (x1.trans (x2.trans x3)) R3 r3 p3
theorem Qq {op:Operator} {o:OP} (ho:OpS X E (aZ op) o) (ha:SimE X E a ma) (hb:SimE X E b mb):SimE X E (.BinOp a op b pos) (mOp o ma mb):=
 ⟨fun Γ σ H ρ st Q R G h=>WE.of (Qic Q8v Zj Zj) (Q66 ho ha hb R G h fun _ _ _ _ v _ _ r q=>q v r)⟩
theorem Ks {op:CmpOp} {o:OP} (ho:OpS X E (aU op) o) (ha:SimE X E a ma) (hb:SimE X E b mb) (hm:bL op b=false:=by first | exact Qea _ | rfl):SimE X E (.Compare a [op] [b] pos) (mOp o ma mb):=
 ⟨fun Γ σ H ρ st Q R G h=>WE.of (Qh0 Q8v Zj Zj hm) (Q66 ho ha hb R G h fun _ _ _ _ v _ _ r q=>q v r)⟩
def asB (p:PV) (st:Q3):Res Bool:=match p with
 | .bl k=>.ok k st
 | _=>.stuck
def toB (m:ME):Gam->Q3->Res Bool:=fun Γ st=>(m Γ st).bind asB
theorem Qfr {mg:Str->Option aA} {H:Hp} {ρ:Tk} {st:Q3} {p:PV} {v:V} {P:Bool->Q3->Hp->Tk->Prop} (R:Rel H ρ st) (r:Rep H ρ p v) (h:Acc mg E H ρ P (asB p st)):∃ k,v=.bl k/\P k st H ρ:=by
 cases p with
 | bl k=>exact ⟨k,r,h H ρ (Ext.refl _ _) R⟩
 | _=>exact h.elim
theorem Qm {op:CmpOp} {o:OP} (ho:OpS X E (aU op) o) (ha:SimE X E a ma) (hb:SimE X E b mb) (hm:bL op b=false:=by first | exact Qea _ | rfl):SimT X E (.Compare a [op] [b] pos) (toB (mOp o ma mb)):=
 ⟨fun Γ σ H ρ st Q R G h=>WT.of (Qgg Q8v Zj Zj hm) (Q66 ho ha hb R G h.bind fun _ st1 _ _ v _ R1 r q=>by
  obtain ⟨k,e,z⟩:=Qfr R1 r q;exact ⟨k,e,z⟩)⟩
theorem Kq {e:aH} {m:ME} (h:SimE X E e m) (he:∀ whole,isTrue e X.env whole=(do let v <- whole; standAt e.pos; ai [v] (truthy v)):=by intro _; rfl):SimT X E e (toB m):=
 ⟨fun Γ σ H ρ st Q R G hq=>WT.of (Qj3 Zj he) (h.use R G hq.bind fun p st1 H1 ρ1 v x1 R1 G1 r1 h1=>by
  obtain ⟨k,e,z⟩:=Qfr R1 r1 h1;exact ⟨k,e,z⟩)⟩
def Kx (o o':OP) (ma mb mc:ME):ME:=fun Γ st=>(ma Γ st).bind fun x st1=>(mb Γ st1).bind fun y st2=>(o st2 x y).bind fun k st3=>match k with
 | .bl true=>(mc Γ st3).bind fun z st4=>o' st4 y z
 | .bl false=>.ok (.bl false) st3
 | _=>.stuck
theorem Q4q {op op':CmpOp} {o o':OP} {Γ:Gam} {σ:St} {H:Hp} {ρ:Tk} {st:Q3} {P:PV->Q3->Hp->Tk->Prop} {Q:VK} (ho:OpS X E (aU op) o) (ho':OpS X E (aU op') o') (ha:SimE X E a ma) (hb:SimE X E b mb) (hc:SimE X E c mc) (R:Rel H ρ st) (G:EnvR H ρ Γ σ) (h:Acc X.mg E H ρ P (Kx o o' ma mb mc Γ st))
  (k:∀ p st1 H1 ρ1 v,Ext H ρ H1 ρ1->Rel H1 ρ1 st1->Rep H1 ρ1 p v->P p st1 H1 ρ1->Q v H1):Q8i (WO X (aU op)) (WO X (aU op')) (WE X a) (WE X b) (WE X c) σ H Q:=by
 refine ha.use R G h.bind fun p st1 H1 ρ1 v x1 R1 G1 r1 h1=>?_
 refine hb.use R1 G1 h1.bind fun q st2 H2 ρ2 u x2 R2 G2 r2 h2=>?_
 refine ho.use R2 (r1.ext x2) r2 h2.bind fun w st3 H3 ρ3 z x3 R3 r3 h3=>?_
 cases w with
 | bl b=>
  refine ⟨b,r3,?_⟩;cases b with
  | true=>
   rw [bS rfl];refine hc.use R3 (G2.ext x3) h3.bind fun y st4 H4 ρ4 yv x4 R4 G4 r4 h4=>?_
   exact ho'.use R4 (r2.ext (x3.trans x4)) r4 h4 fun w st5 H5 ρ5 z x5 R5 r5 p5=>k w st5 H5 ρ5 z (x1.trans (x2.trans (x3.trans (x4.trans x5)))) R5 r5 p5
  | false=>
   rw [bT D2];exact k (.bl false) _ H3 ρ3 _ (x1.trans (x2.trans x3)) R3 rfl (h3 H3 ρ3 (Ext.refl _ _) R3)
 | _=>exact h3.elim
theorem Qd7 {op op':CmpOp} {o o':OP} (ho:OpS X E (aU op) o) (ho':OpS X E (aU op') o') (ha:SimE X E a ma) (hb:SimE X E b mb) (hc:SimE X E c mc) (hm:lastMarks [op,op'] [b,c]=false:=by with_unfolding_all rfl):SimE X E (.Compare a [op,op'] [b,c] pos) (Kx o o' ma mb mc):=
 ⟨fun Γ σ H ρ st Q R G h=>WE.of (Qdz Q8v Q8v Zj Zj Zj hm) (Q4q ho ho' ha hb hc R G h fun _ _ _ _ v _ _ r q=>q v r)⟩
theorem Q6c {op op':CmpOp} {o o':OP} (ho:OpS X E (aU op) o) (ho':OpS X E (aU op') o') (ha:SimE X E a ma) (hb:SimE X E b mb) (hc:SimE X E c mc) (hm:lastMarks [op,op'] [b,c]=false:=by with_unfolding_all rfl):SimT X E (.Compare a [op,op'] [b,c] pos) (toB (Kx o o' ma mb mc)):=
 ⟨fun Γ σ H ρ st Q R G h=>WT.of (Qdi Q8v Q8v Zj Zj Zj hm) (Q4q ho ho' ha hb hc R G h.bind fun _ st1 _ _ v _ R1 r q=>by
  obtain ⟨k,e,z⟩:=Qfr R1 r q;exact ⟨k,e,z⟩)⟩
variable {rest:List aH}
def Q11 (ma mb:ME):ME:=fun Γ st=>(ma Γ st).bind fun x st1=>match x with
 | .bl true=>mb Γ st1
 | .bl false=>.ok (.bl false) st1
 | _=>.stuck
def Qk7 (ma:ME):ME:=fun Γ st=>(ma Γ st).bind fun x st1=>match x with
 | .bl k=>.ok (.bl (!k)) st1
 | _=>.stuck
theorem zp {op:BoolOp} (ha:SimE X E a ma):SimE X E (.BoolOp op [a] pos) ma:=⟨fun Γ σ H ρ st Q R G h=>WE.of (Qjf Zj) (ha.use R G h fun _ _ _ _ v _ _ _ r q=>q v r)⟩
theorem zq (ha:SimE X E a ma) (hb:SimE X E (.BoolOp .And (b :: rest) pos) mb):SimE X E (.BoolOp .And (a :: b :: rest) pos) (Q11 ma mb):=
 ⟨fun Γ σ H ρ st Q R G h=>WE.of (Qjj Zj Zj) (ha.use R G h.bind fun p st1 H1 ρ1 v x1 R1 G1 r1 h1=>by
  cases p with
  | bl k=>
   refine ⟨k,r1,?_⟩;cases k with
   | true=>rw [bS rfl]; exact hb.use R1 G1 h1 fun _ _ _ _ v _ _ _ r q=>q v r
   | false=>rw [bT D2]; exact now R1 h1 rfl
  | _=>exact h1.elim)⟩
theorem Qix (ha:SimE X E a ma):SimE X E (.UnaryOp .Not a pos) (Qk7 ma):=
 ⟨fun Γ σ H ρ st Q R G h=>WE.of (Qjg Zj) (ha.use R G h.bind fun p st1 H1 ρ1 v x1 R1 G1 r1 h1=>by
  cases p with
  | bl k=>exact ⟨k,r1,now R1 h1 rfl⟩
  | _=>exact h1.elim)⟩
def Q10 (ma:ME):ME:=fun Γ st=>(ma Γ st).bind fun x st1=>match x with
 | .int k=>.ok (.int (-k)) st1
 | _=>.stuck
theorem Q24 (ha:SimE X E a ma):SimE X E (.UnaryOp .USub a pos) (Q10 ma):=
 ⟨fun Γ σ H ρ st Q R G h=>WE.of (Qnz Qii Zj) (ha.use R G h.bind fun p st1 H1 ρ1 v x1 R1 G1 r1 h1=>by
  cases p with
  | int k=>exact ⟨k,r1,now R1 h1 rfl⟩
  | _=>exact h1.elim)⟩
abbrev MT:=Gam->Q3->Res Bool
variable {ta tb:MT}
def Vf (ta tb:MT):MT:=fun Γ st=>(ta Γ st).bind fun k st1=>if k=true then tb Γ st1 else .ok false st1
def xy (ta tb:MT):MT:=fun Γ st=>(ta Γ st).bind fun k st1=>if k=true then .ok true st1 else tb Γ st1
def Uy (ta:MT):MT:=fun Γ st=>(ta Γ st).bind fun k st1=>.ok (!k) st1
theorem SimW.t {e:aH} (h:SimW X E e ta):SimT X E e ta:=⟨fun Γ σ H ρ st Q R G q pins s I=>h.run Γ σ H ρ st Q R G q _ pins s I⟩
theorem V1 (ha:SimT X E a ta):SimW X E (.BoolOp .And [a] pos) ta:=⟨fun Γ σ H ρ st Q R G h=>WW.of (Qgd Q6u) (ha.use R G h fun _ _ _ _ _ _ _ q=>q)⟩
theorem zm (ha:SimT X E a ta):SimW X E (.BoolOp .Or [a] pos) ta:=⟨fun Γ σ H ρ st Q R G h=>WW.of (Qj1 Q6u) (ha.use R G h fun _ _ _ _ _ _ _ q=>q)⟩
theorem V7 (ha:SimT X E a ta) (hb:SimW X E (.BoolOp .And (b :: rest) pos) tb):SimW X E (.BoolOp .And (a :: b :: rest) pos) (Vf ta tb):=
 ⟨fun Γ σ H ρ st Q R G h=>WW.of (Qj2 Q6u Qnt) (ha.use R G h.bind fun k st1 H1 ρ1 x1 R1 G1 h1=>by
  cases k with
  | true=>rw [bS rfl] at h1 ⊢; exact hb.use R1 G1 h1 fun _ _ _ _ _ _ _ q=>q
  | false=>rw [bT D2] at h1 ⊢; exact h1 H1 ρ1 (Ext.refl _ _) R1)⟩
theorem yg (ha:SimT X E a ta) (hb:SimW X E (.BoolOp .Or (b :: rest) pos) tb):SimW X E (.BoolOp .Or (a :: b :: rest) pos) (xy ta tb):=
 ⟨fun Γ σ H ρ st Q R G h=>WW.of (Qnu Q6u Qnt) (ha.use R G h.bind fun k st1 H1 ρ1 x1 R1 G1 h1=>by
  cases k with
  | true=>rw [bS rfl] at h1 ⊢; exact h1 H1 ρ1 (Ext.refl _ _) R1
  | false=>rw [bT D2] at h1 ⊢; exact hb.use R1 G1 h1 fun _ _ _ _ _ _ _ q=>q)⟩
theorem Xx (ha:SimT X E a ta):SimT X E (.UnaryOp .Not a pos) (Uy ta):=
 ⟨fun Γ σ H ρ st Q R G h=>WT.of (Qj4 Q6u) (ha.use R G h.bind fun k st1 H1 ρ1 x1 R1 G1 h1=>h1 H1 ρ1 (Ext.refl _ _) R1)⟩
def mIf (tc:MT) (ma mb:ME):ME:=fun Γ st=>(tc Γ st).bind fun k st1=>if k=true then ma Γ st1 else mb Γ st1
theorem Qnj (hc:SimT X E c ta) (ha:SimE X E a ma) (hb:SimE X E b mb):SimE X E (.IfExp c a b pos) (mIf ta ma mb):=
 ⟨fun Γ σ H ρ st Q R G h=>WE.of (Qdw Q6u Zj Zj) (hc.use R G h.bind fun k st1 H1 ρ1 x1 R1 G1 h1=>by
  cases k with
  | true=>rw [bS rfl] at h1 ⊢; exact ha.use R1 G1 h1 fun _ _ _ _ v _ _ _ r q=>q v r
  | false=>rw [bT D2] at h1 ⊢; exact hb.use R1 G1 h1 fun _ _ _ _ v _ _ _ r q=>q v r)⟩
variable {e:aH} {es:List aH} {m:ME} {mr:Gam->Q3->Res (List PV)}
def Q9:Gam->Q3->Res (List PV):=fun _ st=>.ok [] st
def Q2 (m:ME) (mr:Gam->Q3->Res (List PV)):Gam->Q3->Res (List PV):=fun Γ st=>(m Γ st).bind fun p st1=>(mr Γ st1).bind fun ps st2=>.ok (p :: ps) st2
theorem Q5:SimA X E [] Q9:=⟨fun Γ σ H ρ st Q R G h=>WA.of Q2h (h H ρ (Ext.refl _ _) R [] rfl)⟩
theorem Q1 (ha:SimE X E e m) (hr:SimA X E es mr) (hs:aO (e :: es) X.env=(false,aN e X.env) :: aO es X.env:=by rfl):SimA X E (e :: es) (Q2 m mr):=
 ⟨fun Γ σ H ρ st Q R G h=>WA.of (jw Zj Q0s hs) (ha.use R G h.bind fun p st1 H1 ρ1 v x1 R1 G1 r1 h1=>hr.use R1 G1 h1.bind fun ps st2 H2 ρ2 vs x2 R2 G2 r2 h2=>
  h2 H2 ρ2 (Ext.refl _ _) R2 (v :: vs) ⟨v,vs,rfl,r1.ext x2,r2⟩)⟩
def Z2 (mr:Gam->Q3->Res (List PV)):ME:=fun Γ st=>(mr Γ st).bind fun ps st1=>if ps.length<=lim then .ok (.tup ps) st1 else .stuck
def Um (mr:Gam->Q3->Res (List PV)):ME:=fun Γ st=>(mr Γ st).bind fun ps st1=>if ps.length<=lim then .ok (.lst ps) st1 else .stuck
theorem Je {k:Nat} (h:SimA X E es mr):SimE X E (.Tuple es k pos) (Z2 mr):=
 ⟨fun Γ σ H ρ st Q R G hq=>WE.of (Qjd Q0s) (h.use R G hq.bind fun ps st1 H1 ρ1 vs x1 R1 G1 r1 h1=>by
  by_cases hl:ps.length<=lim
  ·rw [bS hl] at h1;exact ⟨by rw [<- r1.length]; exact Vc hl,yx R1 h1 r1⟩
  ·rw [bT hl] at h1; exact h1.elim)⟩
theorem V9 (h:SimA X E es mr):SimE X E (.List es pos) (Um mr):=
 ⟨fun Γ σ H ρ st Q R G hq=>WE.of (Qdv Q0s) (h.use R G hq.bind fun ps st1 H1 ρ1 vs x1 R1 G1 r1 h1=>by
  by_cases hl:ps.length<=lim
  ·rw [bS hl] at h1;exact ⟨by rw [<- r1.length]; exact Vc hl,yy R1 h1 r1⟩
  ·rw [bT hl] at h1; exact h1.elim)⟩
end
end Sm
namespace HT
open PySem PySem.Spec PyProof.Rows
section
variable {prog:aL} {w:aK} {A:aM} {E:aA->aC->Prop} {s:aC}
theorem getItem_tuple_whole {t sl:aB} {items:Array aA} {vl vu:aA} {lo hi:Option Int} {Q:aA->aC->Prop} (ht:IsTup s.heap t items) (hs:s.heap.IsSliceOf sl vl vu .none) (pl:IsPart vl lo) (pu:IsPart vu hi)
  (hw:sIx items.size 0 lo=0/\sIx items.size items.size hi=items.size)
  (h:Q (.ref t) s):aF (aI prog w) A (getItem (.ref t) (.ref sl)) Q E s:=by
 obtain ⟨os,hos,hcs,hds⟩:=id hs;have hTs:s.TypeIs (.ref sl) "slice" := ⟨os,hos,hcs⟩;unfold getItem
 try with_reducible refine aj ?_
 first | refine aD (aJ ?_) | skip
 refine aD (wpAny_sequenceKey ht.typeIs (by decide) ?_);refine aD (wpAny_callSpecial?_slot (name:=Str.ofString "__getitem__") ht.typeIs PyProof.Rows.slot_tuple_getitem
  (ak PyProof.Rows.slot_tuple_getitem ht.typeIs entry_tuple_getitem ?_ (args_tuple_getitem _ _)))
 show aF _ _ (Builtin.Tuple.tupleItemsOf (.ref t) >>= _) _ _ s;refine aD (tupleItemsOf_ ht ?_);refine aD (bI hTs ?_);rw [bS (by decide)];refine aD (K7 hs pl pu ?_);have hyes:(((sIx items.size 0 lo:Nat):Int) == 0 && (1:Int) == 1 && (sIx items.size items.size hi - sIx items.size 0 lo) == items.size)=true:=by
  rw [hw.1,hw.2]; simp
 show aF _ _ (if (((sIx items.size 0 lo:Nat):Int) == 0 && (1:Int) == 1 && (sIx items.size items.size hi - sIx items.size 0 lo) == items.size)=true then _ else _) _ _ s;rw [bS hyes];refine aD (aD (bI ht.typeIs (aJ ?_)));rw [bS (by rfl)];exact aD (bC (aJ ⟨_,rfl,aJ h⟩))
end
end HT
namespace L2
open PySem PySem.Spec PyProof.Rows
def Qs3 (K:PySem.W.Frag):V->Option Int->Option Int->Hp->VK->Prop:=fun x lo hi H Q=>∃ a xs,x=.ref a/\SqT K H a xs /\
 (HT.sIx xs.length 0 lo=0/\HT.sIx xs.length xs.length hi=xs.length)/\Q (.ref a) H
theorem sl_whole {X:Cx}:SlR X (Qs3 X.K):=by
 intro pins s σ H x v vl vu lo hi sl Q I rx hs pl pu h;obtain ⟨a,xs,rfl,hx,hw,q⟩:=h;cases rx;obtain ⟨its,r,ht,hz⟩:=I.tuple hx;have hlen:its.toArray.size=xs.length:=by rw [O4]; exact r.length.symm
 refine ⟨"tuple",_,PyProof.Rows.slot_tuple_getitem.lookup,ht.typeIs,?_⟩;exact HT.getItem_tuple_whole ht hs pl pu (by rw [hlen]; exact hw) ⟨.ref a,H,I,rfl,q⟩
end L2
namespace Sm
open PySem PySem.Spec L2
section
variable {X:Cx} {E:XK} {pos:Pos}
def oI (g:Int->Int->PV):OP:=fun st p q=>match p,q with
 | .int a,.int b=>.ok (g a b) st
 | _,_=>.stuck
def J9:OP:=fun st p q=>match p,q with
 | .int a,.int b=>.ok (.int (a + b)) st
 | .str a,.str b=>if a.length + b.length<=lim then .ok (.str (a ++ b)) st else .stuck
 | .tup xs,.tup ys=>if xs.length + ys.length<=lim then .ok (.tup (xs ++ ys)) st else .stuck
 | p,q=>match Up st p,Up st q with
  | some xs,some ys=>if xs.length + ys.length<=lim then .ok (.lst (xs ++ ys)) st else .stuck
  | _,_=>.stuck
theorem J3:OpS X E (aZ .Add) J9:=⟨fun H ρ st p q x y Q R rp rq h=>by
 unfold J9 at h
 split at h
 ·cases rp; cases rq;exact WO.of Qjv ⟨_,_,rfl,rfl,now R h rfl⟩
 ·cases rp; cases rq
  split at h
  ·rename_i hl;exact WO.of Q8w ⟨_,_,rfl,rfl,Vc hl,now R h rfl⟩
  ·exact h.elim
 ·split at h
  ·rename_i xs ys hl;obtain ⟨a,vs,rfl,ha,na,ra⟩:=rp;obtain ⟨b,us,rfl,hb,nb,rb⟩:=rq;refine WO.of Qha ?_
   by_cases e:xs=[]
   ·subst e;cases ra;exact .inr ⟨a,b,us,rfl,rfl,SqT.of ha,SqT.of hb,now R h ⟨b,us,rfl,hb,nb,rb⟩⟩
   ·refine .inl ⟨a,b,vs,us,rfl,rfl,SqT.of ha,SqT.of hb,fun z=>e ?_,by rw [<- ra.length,<- rb.length]; exact Vc hl,fun z=>?_,fun z=>yx R h (ra.append rb)⟩
    ·subst z;cases xs with
     | nil=>rfl
     | cons _ _=>have:=ra.length; simp at this
    ·subst z;have:ys=[]:=by
      cases ys with
      | nil=>rfl
      | cons _ _=>have:=rb.length; simp at this
     subst this;rw [L1] at h;exact now R h ⟨a,vs,rfl,ha,na,ra⟩
  ·exact h.elim
 ·split at h
  ·rename_i xs ys e1 e2
   split at h
   ·rename_i hl;obtain ⟨a,vs,rfl,ha,ra⟩:=zw R rp e1;obtain ⟨b,us,rfl,hb,rb⟩:=zw R rq e2;exact WO.of Qe6 ⟨a,b,vs,us,rfl,rfl,ha,hb,by rw [<- ra.length,<- rb.length]; exact Vc hl,yy R h (ra.append rb)⟩
   ·exact h.elim
  ·exact h.elim⟩
theorem Xe:OpS X E (aZ .Sub) (oI fun a b=>.int (a - b)):=⟨fun H ρ st p q x y Q R rp rq h=>by
 unfold oI at h
 split at h
 ·cases rp; cases rq;exact WO.of Qjn ⟨_,_,rfl,rfl,now R h rfl⟩
 ·exact h.elim⟩
def qp:OP:=fun st p q=>match p,q with
 | .int a,.int b=>if (-(2 ^ 64) < a/\a < 2 ^ 64)\/(-(2 ^ 64) < b/\b < 2 ^ 64) then .ok (.int (a * b)) st else .stuck
 | .tup xs,.int b=>if xs≠[]/\1<=b/\xs.length * b.toNat<=4096 then .ok (.tup (List.replicate b.toNat xs).flatten) st else .stuck
 | p,.int b=>match Up st p with
  | some xs=>if -(2 ^ 63)<=b/\b < 2 ^ 63/\xs.length * b.toNat<=lim then .ok (.lst (List.replicate b.toNat xs).flatten) st else .stuck
  | none=>.stuck
 | _,_=>.stuck
theorem Xz:OpS X E (aZ .Mult) qp:=⟨fun H ρ st p q x y Q R rp rq h=>by
 unfold qp at h
 split at h
 ·cases rp; cases rq
  split at h
  ·rename_i hc;exact WO.of Qjr ⟨_,_,rfl,rfl,hc,now R h rfl⟩
  ·exact h.elim
 ·cases rq
  split at h
  ·rename_i xs b hc;obtain ⟨a,vs,rfl,ha,na,ra⟩:=rp;refine WO.of Qh7 ⟨a,b,vs,rfl,rfl,SqT.of ha,fun z=>hc.1 ?_,hc.2.1,by rw [<- ra.length]; exact hc.2.2,fun z=>?_,fun z=>yx R h (ra.rep _)⟩
   ·subst z;cases xs with
    | nil=>rfl
    | cons _ _=>have:=ra.length; simp at this
   ·subst z;have e1:(List.replicate (Int.toNat 1) xs).flatten=xs:=by simp
    rw [e1] at h;exact now R h ⟨a,vs,rfl,ha,na,ra⟩
  ·exact h.elim
 ·cases rq
  split at h
  ·rename_i xs e1
   split at h
   ·rename_i hc;obtain ⟨a,vs,rfl,ha,ra⟩:=zw R rp e1;exact WO.of Qjp ⟨a,_,vs,rfl,rfl,ha,hc.1,hc.2.1,by rw [<- ra.length]; exact Vc hc.2.2,yy R h (ra.rep _)⟩
   ·exact h.elim
  ·exact h.elim
 ·exact h.elim⟩
def zr:OP:=fun st p q=>match p,q with
 | .int a,.int b=>if 0 < b then .ok (.int (a % b)) st else .stuck
 | _,_=>.stuck
theorem qz:OpS X E (aZ .Mod) zr:=⟨fun H ρ st p q x y Q R rp rq h=>by
 unfold zr at h
 split at h
 ·cases rp; cases rq
  split at h
  ·rename_i hc;exact WO.of Qjs ⟨_,_,rfl,rfl,hc,now R h rfl⟩
  ·exact h.elim
 ·exact h.elim⟩
def Qhd:OP:=fun st p q=>match p,q with
 | .int a,.int b=>if 0 < b/\b < 1073741824 then .ok (.int (a / b)) st else .stuck
 | _,_=>.stuck
theorem Qjm:OpS X E (aZ .FloorDiv) Qhd:=⟨fun H ρ st p q x y Q R rp rq h=>by
 unfold Qhd at h
 split at h
 ·cases rp; cases rq
  split at h
  ·rename_i hc;exact WO.of Qh9 ⟨_,_,rfl,rfl,hc,now R h rfl⟩
  ·exact h.elim
 ·exact h.elim⟩
def Q0z:OP:=fun st p q=>match p,q with
 | .int a,.int b=>if 0<=b/\b<=1000000/\a.natAbs < 2 ^ 64 then .ok (.int (a ^ b.toNat)) st else .stuck
 | _,_=>.stuck
theorem Q2i:OpS X E (aZ .Pow) Q0z:=⟨fun H ρ st p q x y Q R rp rq h=>by
 unfold Q0z at h
 split at h
 ·cases rp; cases rq
  split at h
  ·rename_i hc;exact WO.of Qjq ⟨_,_,rfl,rfl,hc,now R h rfl⟩
  ·exact h.elim
 ·exact h.elim⟩
theorem Q8z {op:CmpOp} {g:Int->Int->Bool} (ho:OpR X (aU op) (rI0 fun i j=>.bl (g i j))):OpS X E (aU op) (oI fun a b=>.bl (g a b)):=⟨fun H ρ st p q x y Q R rp rq h=>by
 unfold oI at h
 split at h
 ·cases rp; cases rq;exact WO.of ho ⟨_,_,rfl,rfl,now R h rfl⟩
 ·exact h.elim⟩
theorem Q0j:OpS X E (aU .LtE) (oI fun a b=>.bl (decide (a<=b))):=Q8z Qp6
theorem yr:OpS X E (aU .Gt) (oI fun a b=>.bl (decide (b < a))):=Q8z Qp7
theorem Q47:OpS X E (aU .GtE) (oI fun a b=>.bl (decide (b<=a))):=Q8z Qp8
def K1:List PV->Option (List Int)
 | []=>some []
 | .int i :: ps=>(K1 ps).map (i :: ·)
 | _ :: _=>none
def Q0p:List PV->Option (List Bool)
 | []=>some []
 | .bl i :: ps=>(Q0p ps).map (i :: ·)
 | _ :: _=>none
theorem Q2y (ns:List Int):K1 (ns.map .int)=some ns:=by
 induction ns with
 | nil=>rfl
 | cons n ns ih=>rw [O6,K1,ih]; rfl
theorem Qhz (ns:List Bool):Q0p (ns.map .bl)=some ns:=by
 induction ns with
 | nil=>rfl
 | cons n ns ih=>rw [O6,Q0p,ih]; rfl
theorem Q1d:∀ {ps:List PV} {ns:List Int},K1 ps=some ns->ps=ns.map .int
 | [],ns,h=>by cases h; rfl
 | .int i :: ps,ns,h=>by
  rw [K1] at h;cases e:K1 ps with
  | none=>rw [e] at h; cases h
  | some ms=>rw [e] at h; cases h; rw [Q1d e]; rfl
 | .non :: _,_,h | .bl _ :: _,_,h | .str _ :: _,_,h | .tup _ :: _,_,h | .lst _ :: _,_,h | .fro _ :: _,_,h | .ref _ :: _,_,h | .dic :: _,_,h=>by cases h
theorem Qfk:∀ {ps:List PV} {ns:List Bool},Q0p ps=some ns->ps=ns.map .bl
 | [],ns,h=>by cases h; rfl
 | .bl i :: ps,ns,h=>by
  rw [Q0p] at h;cases e:Q0p ps with
  | none=>rw [e] at h; cases h
  | some ms=>rw [e] at h; cases h; rw [Qfk e]; rfl
 | .non :: _,_,h | .int _ :: _,_,h | .str _ :: _,_,h | .tup _ :: _,_,h | .lst _ :: _,_,h | .fro _ :: _,_,h | .ref _ :: _,_,h | .dic :: _,_,h=>by cases h
def oLt:OP:=fun st p q=>match p,q with
 | .int a,.int b=>.ok (.bl (decide (a < b))) st
 | .tup xs,.tup ys=>match K1 xs,K1 ys with
  | some ns,some ms=>.ok (.bl (HT.lexLt ns ms)) st
  | _,_=>.stuck
 | _,_=>.stuck
theorem Xf (hu:X.A.units + 64 < aW):OpS X E (aU .Lt) oLt:=⟨fun H ρ st p q x y Q R rp rq h=>by
 unfold oLt at h
 split at h
 ·cases rp; cases rq;exact WO.of Qp5 ⟨_,_,rfl,rfl,now R h rfl⟩
 ·split at h
  ·rename_i ns ms e1 e2;obtain ⟨a,vs,rfl,ha,na,ra⟩:=rp;obtain ⟨b,us,rfl,hb,nb,rb⟩:=rq;rw [Q1d e1] at ra;rw [Q1d e2] at rb;rw [ra.toInts] at ha;rw [rb.toInts] at hb;exact WO.of (Qjt (by omega)) ⟨a,b,ns,ms,rfl,rfl,SqT.of ha,SqT.of hb,now R h rfl⟩
  ·exact h.elim
 ·exact h.elim⟩
def dep:Nat:=12
def oEq:OP:=fun st p q=>if Jq dep (der st p)=true/\Jq dep (der st q)=true then .ok (.bl (peq (der st p) (der st q))) st else .stuck
def oNe:OP:=fun st p q=>if Jq dep (der st p)=true/\Jq dep (der st q)=true then .ok (.bl (!peq (der st p) (der st q))) st else .stuck
theorem Vr (hu:X.A.units + 64 < aW):OpS X E (aU .Eq) oEq:=⟨fun H ρ st p q x y Q R rp rq h=>by
 unfold oEq at h
 split at h
 ·rename_i g;intro pins s σ v u I rv ru;exact (Q4j dep I g.1 g.2 (by unfold dep; omega) (Xw R g.1 rp) rv (Xw R g.2 rq) ru).2.1 _ _ _ _ ⟨.bl _,H,I,rfl,now R h rfl⟩
 ·exact h.elim⟩
theorem Qa5 (hu:X.A.units + 64 < aW):OpS X E (aU .NotEq) oNe:=⟨fun H ρ st p q x y Q R rp rq h=>by
 unfold oNe at h
 split at h
 ·rename_i g;intro pins s σ v u I rv ru;exact (Q4j dep I g.1 g.2 (by unfold dep; omega) (Xw R g.1 rp) rv (Xw R g.2 rq) ru).2.2 _ _ _ _ ⟨.bl _,H,I,rfl,now R h rfl⟩
 ·exact h.elim⟩
def jc:PV->Bool
 | .non=>true
 | _=>false
theorem Q4e {H:Hp} {ρ:Tk} {p:PV} {x:V} (r:Rep H ρ p x):decide (x=.non)=jc p:=by
 cases p with
 | non=>cases r; rfl
 | bl _=>cases r; rfl
 | int _=>cases r; rfl
 | str _=>cases r; rfl
 | tup _=>obtain ⟨_,_,rfl,_⟩:=r; rfl
 | lst _=>obtain ⟨_,_,rfl,_⟩:=r; rfl
 | fro _=>obtain ⟨_,_,rfl,_⟩:=r; rfl
 | ref _=>obtain ⟨_,_,rfl⟩:=r; rfl
 | dic=>obtain ⟨_,rfl,_⟩:=r; rfl
def oIs:OP:=fun st p q=>match q with
 | .non=>.ok (.bl (jc p)) st
 | .bl c=>match p with
  | .bl b=>.ok (.bl (b == c)) st
  | _=>.stuck
 | _=>.stuck
def Uv:OP:=fun st p q=>match q with
 | .non=>.ok (.bl (!jc p)) st
 | .bl c=>match p with
  | .bl b=>.ok (.bl (b != c)) st
  | _=>.stuck
 | _=>.stuck
theorem Qid:OpS X E (aU .Is) oIs:=⟨fun H ρ st p q x y Q R rp rq h=>by
 unfold oIs at h
 split at h
 ·cases rq;refine WO.of Qju ⟨rfl,?_⟩;rw [Q4e rp];exact now R h rfl
 ·split at h
  ·cases rp; cases rq;exact WO.of Qe3 ⟨_,_,rfl,rfl,now R h rfl⟩
  ·exact h.elim
 ·exact h.elim⟩
theorem yq:OpS X E (aU .IsNot) Uv:=⟨fun H ρ st p q x y Q R rp rq h=>by
 unfold Uv at h
 split at h
 ·cases rq;refine WO.of Qh8 ⟨rfl,?_⟩;rw [Q4e rp];exact now R h rfl
 ·split at h
  ·cases rp; cases rq;exact WO.of Q6y ⟨_,_,rfl,rfl,now R h rfl⟩
  ·exact h.elim
 ·exact h.elim⟩
def oIn (neg:Bool):OP:=fun st p q=>match Wx st q with
 | some xs=>if Jq dep (der st p)=true/\xs.all (Jq dep)=true then .ok (.bl ((xs.any fun y=>peq y (der st p)) != neg)) st else .stuck
 | none=>.stuck
open Classical in
theorem xb {pins:List (aB × Obj)} {σ:St} {H:Hp} {ρ:Tk} {s:aC} {A:aM} {st:Q3} {p:PV} {xs:List PV} {x:V} {v:aA} {vs:List V} {its:List aA} (I:Inv X pins σ H s) (hu:A.units + dep < aW) (R:Rel H ρ st)
  (gp:Jq dep (der st p)=true) (gx:xs.all (Jq dep)=true) (rp:Rep H ρ p x) (rv:RelV x v) (ra:RepL H ρ xs vs) (vi:Vals vs its):∃ e:aA->Bool,(∀ u,u∈its.toArray->SeqAt.EqAt A s u v (e u))/\its.toArray.any e=xs.any fun y=>peq y (der st p):=by
 have key:∀ u∈its,∃ q∈xs,∃ y,Rep H Tk.nil q y/\RelV y u:=fun u hu=>by
  obtain ⟨j,hj,rfl⟩:=List.getElem_of_mem hu;have l1:=vi.length;have l2:=ra.length;obtain ⟨y,e1,e2⟩:=(Xd gx ra).get (O2 (show j < xs.length by omega));obtain ⟨w,e3,e4⟩:=vi.get e1;rw [O2 hj] at e3; cases e3;exact ⟨_,List.getElem_mem _,y,e2,e4⟩
 refine ⟨fun u=>decide (∃ q∈xs,∃ y,Rep H Tk.nil q y/\RelV y u/\peq q (der st p)=true),fun u hm=>?_,?_⟩
 ·have hm':u∈its:=by simpa using hm
  by_cases z:∃ q∈xs,∃ y,Rep H Tk.nil q y/\RelV y u/\peq q (der st p)=true
  ·show SeqAt.EqAt A s u v (decide _);rw [bV z];obtain ⟨q,hq,y,r1,r2,e⟩:=z;have:=(Q4j dep I ((E9.mp gx) q hq) gp hu r1 r2 (Xw R gp rp) rv).1;rw [e] at this;exact this
  ·show SeqAt.EqAt A s u v (decide _);rw [bU z];obtain ⟨q,hq,y,r1,r2⟩:=key u hm';have:=(Q4j dep I ((E9.mp gx) q hq) gp hu r1 r2 (Xw R gp rp) rv).1;cases e:peq q (der st p) with
   | true=>exact absurd ⟨q,hq,y,r1,r2,e⟩ z
   | false=>rw [e] at this; exact this
 ·rw [Bool.eq_iff_iff,Array.any_eq_true,List.any_eq_true];constructor
  ·rintro ⟨j,hj,e⟩;obtain ⟨q,hq,y,r1,r2,e⟩:=of_decide_eq_true e;exact ⟨q,hq,e⟩
  ·rintro ⟨q,hq,e⟩;obtain ⟨j,hj,rfl⟩:=List.getElem_of_mem hq;have l1:=vi.length;have l2:=ra.length;have hj':j < its.length:=by omega
   obtain ⟨y,e1,e2⟩:=(Xd gx ra).get (O2 hj);obtain ⟨w,e3,e4⟩:=vi.get e1;refine ⟨j,by simpa using hj',bV ⟨_,hq,y,e2,?_,e⟩⟩;rw [O2 hj'] at e3; cases e3;simpa using e4
theorem Qie (hu:X.A.units + 64 < aW):OpS X E (aU .In) (oIn false):=⟨fun H ρ st p q x y Q R rp rq h=>by
 unfold oIn at h
 split at h
 ·rename_i xs es
  split at h
  ·rename_i g;obtain ⟨t,a,vs,rfl,hq,ra⟩:=qr (K:=X.K) R rq es;intro pins s σ v u I rv ru;cases ru;rw [Bool.bne_false] at h;cases t with
   | true=>
    obtain ⟨its,r,pl,hz⟩:=I.tuple hq;obtain ⟨e,he,ea⟩:=xb (A:=X.A.in1) I (by show X.A.units + 1 + dep < aW; unfold dep; omega) R g.1 g.2 rp rv ra r;refine SeqAt.in_tupleAt e pl he ⟨.bl _,H,I,rfl,?_⟩;rw [ea];exact now R h rfl
   | false=>
    obtain ⟨its,r,pl,hz⟩:=I.list hq;obtain ⟨e,he,ea⟩:=xb (A:=X.A.in1) I (by show X.A.units + 1 + dep < aW; unfold dep; omega) R g.1 g.2 rp rv ra r;refine SeqAt.in_listAt e pl.isList he ⟨.bl _,H,I,rfl,?_⟩;rw [ea];exact now R h rfl
  ·exact h.elim
 ·exact h.elim⟩
theorem Q6x (hu:X.A.units + 64 < aW):OpS X E (aU .NotIn) (oIn true):=⟨fun H ρ st p q x y Q R rp rq h=>by
 unfold oIn at h
 split at h
 ·rename_i xs es
  split at h
  ·rename_i g;obtain ⟨t,a,vs,rfl,hq,ra⟩:=qr (K:=X.K) R rq es;intro pins s σ v u I rv ru;cases ru;rw [Bool.bne_true] at h;cases t with
   | true=>
    obtain ⟨its,r,pl,hz⟩:=I.tuple hq;obtain ⟨e,he,ea⟩:=xb (A:=X.A.in1) I (by show X.A.units + 1 + dep < aW; unfold dep; omega) R g.1 g.2 rp rv ra r;refine SeqAt.notIn_tupleAt e pl he ⟨.bl _,H,I,rfl,?_⟩;rw [ea];exact now R h rfl
   | false=>
    obtain ⟨its,r,pl,hz⟩:=I.list hq;obtain ⟨e,he,ea⟩:=xb (A:=X.A.in1) I (by show X.A.units + 1 + dep < aW; unfold dep; omega) R g.1 g.2 rp rv ra r;refine SeqAt.notIn_listAt e pl.isList he ⟨.bl _,H,I,rfl,?_⟩;rw [ea];exact now R h rfl
  ·exact h.elim
 ·exact h.elim⟩
end
section
variable {H:Hp} {ρ:Tk}
theorem RepL.atI {ps:List PV} {vs:List V} {i:Int} {p:PV} (r:RepL H ρ ps vs) (e:atI ps i=some p):∃ v,L2.atI vs i=some v/\Rep H ρ p v:=by
 unfold L2.atI at e ⊢;rw [<- r.length];cases q:ixN ps.length i with
 | none=>rw [q] at e; cases e
 | some j=>
  rw [q] at e;exact r.get e
def cut {α:Type} (xs:List α) (lo hi:Option Int):List α:=(xs.drop (HT.sIx xs.length 0 lo)).take (HT.sIx xs.length xs.length hi - HT.sIx xs.length 0 lo)
theorem RepL.cut {ps:List PV} {vs:List V} (r:RepL H ρ ps vs) (lo hi:Option Int):RepL H ρ (Sm.cut ps lo hi) (Q81 vs lo hi):=by
 unfold Sm.cut Q81;rw [<- r.length];exact (r.drop _).take _
end
section
variable {X:Cx} {E:XK} {pos:Pos} {a b:aH} {ma mb:ME}
def oIx:OP:=fun st p q=>match Wx st p,q with
 | some xs,.int i=>okO st (atI xs i)
 | _,_=>.stuck
theorem Qx (ha:SimE X E a ma) (hb:SimE X E b mb) (hs:Qan b:=by exact fun _ _=>rfl):SimE X E (.Subscript a b pos) (mOp oIx ma mb):=
 ⟨fun Γ σ H ρ st Q R G h=>WE.of (Qp0 Qkk Zj Zj hs) (ha.use R G h.bind fun p st1 H1 ρ1 v x1 R1 G1 r1 h1=>hb.use R1 G1 h1.bind fun q st2 H2 ρ2 u x2 R2 G2 r2 h2=>by
  unfold oIx at h2
  split at h2
  ·rename_i xs i e;cases r2;cases ea:atI xs i with
   | none=>rw [ea] at h2; exact h2.elim
   | some w=>
    rw [ea] at h2;obtain ⟨t,b,vs,rfl,hq,ra⟩:=qr (K:=X.K) R2 (r1.ext x2) e;obtain ⟨z,ez,rz⟩:=ra.atI ea;cases t with
    | true=>exact .inr (.inl ⟨b,vs,i,z,rfl,rfl,hq,ez,now R2 h2 rz⟩)
    | false=>exact .inl ⟨b,vs,i,z,rfl,rfl,hq,ez,now R2 h2 rz⟩
  ·exact h2.elim)⟩
structure SimO (X:Cx) (E:XK) (o:Option aH) (m:Gam->Q3->Res (Option Int)):Prop where
 run:∀ (Γ:Gam) (σ:St) (H:Hp) (ρ:Tk) (st:Q3) (P:Option Int->Q3->Hp->Tk->Prop) (Q:Option Int->Hp->Prop),Rel H ρ st->EnvR H ρ Γ σ->Acc X.mg E H ρ P (m Γ st) ->
  (∀ i st1 H1 ρ1,Ext H ρ H1 ρ1->Rel H1 ρ1 st1->EnvR H1 ρ1 Γ σ->P i st1 H1 ρ1->Q i H1)->∃ t,PO X o t/\t σ H Q
def Yc:Gam->Q3->Res (Option Int):=fun _ st=>.ok none st
def Wi (m:ME):Gam->Q3->Res (Option Int):=fun Γ st=>(m Γ st).bind fun p st1=>match p with
 | .int i=>.ok (some i) st1
 | _=>.stuck
theorem Xq:SimO X E none Yc:=⟨fun Γ σ H ρ st P Q R G h k=>⟨_,Qgq,k none st H ρ (Ext.refl _ _) R G (h H ρ (Ext.refl _ _) R)⟩⟩
theorem V3 (ha:SimE X E a ma):SimO X E (some a) (Wi ma):=⟨fun Γ σ H ρ st P Q R G h k=>⟨_,Qgp Zj,ha.use R G h.bind fun p st1 H1 ρ1 v x1 R1 G1 r1 h1=>by
 cases p with
 | int i=>exact ⟨i,r1,k (some i) st1 H1 ρ1 x1 R1 G1 (h1 H1 ρ1 (Ext.refl _ _) R1)⟩
 | _=>exact h1.elim⟩⟩
def oSl (st:Q3) (p:PV) (lo hi:Option Int):Res PV:=match p with
 | .tup xs=>.ok (.tup (cut xs lo hi)) st
 | p=>match Za st p with
  | some xs=>.ok (.lst (cut xs lo hi)) st
  | none=>.stuck
def mSl (ma:ME) (ml mh:Gam->Q3->Res (Option Int)):ME:=fun Γ st=>(ma Γ st).bind fun p st1=>(ml Γ st1).bind fun lo st2=>(mh Γ st2).bind fun hi st3=>oSl st3 p lo hi
def TO.w (X:Cx) (o:Option aH):TO:=fun σ H Q=>∃ t,PO X o t/\t σ H Q
theorem Qnx {o:Option aH}:PO X o (TO.w X o):=fun pins s σ H Q I ⟨t,h,q⟩=>h pins s σ H Q I q
theorem Wy {lo hi:Option aH} {ml mh:Gam->Q3->Res (Option Int)} {p2:Pos} (ha:SimE X E a ma) (hl:SimO X E lo ml) (hh:SimO X E hi mh):SimE X E (.Subscript a (.Slice lo hi none p2) pos) (mSl ma ml mh):=
 ⟨fun Γ σ H ρ st Q R G h=>WE.of (Qdu (sl_tup.or (sl_whole.or Qg4)) Zj Qnx Qnx) (ha.use R G h.bind fun p st1 H1 ρ1 v x1 R1 G1 r1 h1=>by
  refine hl.run Γ σ H1 ρ1 st1 _ _ R1 G1 h1.bind fun l st2 H2 ρ2 x2 R2 G2 h2=>?_
  refine hh.run Γ σ H2 ρ2 st2 _ _ R2 G2 h2.bind fun u st3 H3 ρ3 x3 R3 G3 h3=>?_
  have r3:=r1.ext (x2.trans x3);unfold oSl at h3
  split at h3
  ·rename_i xs;obtain ⟨a,vs,rfl,ha,na,ra⟩:=r3
   by_cases hw:HT.sIx vs.length 0 l=0/\HT.sIx vs.length vs.length u=vs.length
   ·refine .inr (.inl ⟨a,vs,rfl,SqT.of ha,hw,?_⟩);have e:cut xs l u=xs:=by
     unfold cut;rw [ra.length,hw.1,hw.2,List.drop_zero,Nat.sub_zero,<- ra.length,List.take_length]
    rw [e] at h3;exact now R3 h3 ⟨a,vs,rfl,ha,na,ra⟩
   ·exact .inl ⟨a,vs,rfl,SqT.of ha,hw,yx R3 h3 (ra.cut l u)⟩
  ·split at h3
   ·rename_i xs e;obtain ⟨a,vs,rfl,ha,ra⟩:=Xu R3 r3 e;exact .inr (.inr ⟨a,vs,rfl,.inl ha,yy R3 h3 (ra.cut l u)⟩)
   ·exact h3.elim)⟩
variable {es:List aH} {e:aH} {mr:Gam->Q3->Res (List PV)}
def Qz (o:CF) (mr:Gam->Q3->Res (List PV)):ME:=fun Γ st=>(mr Γ st).bind fun ps st1=>o st1 ps
theorem CallS.use {f:aA} {o:CF} (s:CallS X E f o) {P:PV->Q3->Hp->Tk->Prop} {Q:VK} {H:Hp} {ρ:Tk} {st:Q3} {ps:List PV} {xs:List V} (R:Rel H ρ st) (rp:RepL H ρ ps xs) (h:Acc X.mg E H ρ P (o st ps))
  (k:∀ p st1 H1 ρ1 v,Ext H ρ H1 ρ1->Rel H1 ρ1 st1->Rep H1 ρ1 p v->P p st1 H1 ρ1->Q v H1):WC X f xs H Q:=by
 refine s.run H ρ st ps xs Q R rp ?_;cases r:o st ps with
 | ok p st1=>rw [r] at h; exact fun H' ρ' x' R' v rv=>k p st1 H' ρ' v x' R' rv (h H' ρ' x' R')
 | exc e st=>rw [r] at h; exact h
 | stuck=>rw [r] at h; exact h
theorem Qt {id:String} {x:Str} {p:Pos} {o:CF} (hc:CallS X E (.builtin id) o) (hg:Gl X x) (hm:X.mg x=none) (hv:aY x=some (.builtin id)) (ha:SimA X E (e :: es) mr) (hn:x≠"__name__" := by decide) (hdb:(x == ("__debug__" : Str))=false:=by decide)
  (he:aO (e :: es) X.env=(false,aN e X.env) :: aO es X.env:=by rfl) (hpl:(ad pos (aO es X.env)).any (·.1)=false:=by rfl):SimE X E (.Call (.Name x p) (e :: es) [] pos) (Qz o mr):=
 ⟨fun Γ σ H ρ st Q R G h=>WE.of (Q2f Qf8 hg hm hv Q0s hn hdb he hpl) (ha.use R G h.bind fun ps st1 H1 ρ1 vs x1 R1 G1 r1 h1=>hc.use R1 r1 h1 fun _ _ _ _ v _ _ r q=>q v r)⟩
theorem K8 {T:String} {x:Str} {p:Pos} {o:CF} (hc:CallS X E (.type T) o) (hg:Gl X x) (hm:X.mg x=none) (hv:aY x=some (.type T)) (ha:SimA X E (e :: es) mr) (hn:x≠"__name__" := by decide) (hdb:(x == ("__debug__" : Str))=false:=by decide)
  (he:aO (e :: es) X.env=(false,aN e X.env) :: aO es X.env:=by rfl) (hpl:(ad pos (aO es X.env)).any (·.1)=false:=by rfl):SimE X E (.Call (.Name x p) (e :: es) [] pos) (Qz o mr):=
 ⟨fun Γ σ H ρ st Q R G h=>WE.of (Q02 Qf8 hg hm hv Q0s hn hdb he hpl) (ha.use R G h.bind fun ps st1 H1 ρ1 vs x1 R1 G1 r1 h1=>hc.use R1 r1 h1 fun _ _ _ _ v _ _ r q=>q v r)⟩
theorem Y8 {H:Hp} {ρ:Tk} {p:PV} {xs:List V} (r:RepL H ρ [p] xs):∃ v,xs=[v]/\Rep H ρ p v:=by
 obtain ⟨v,t,rfl,h1,h2⟩:=r;cases h2;exact ⟨v,rfl,h1⟩
theorem qt {H:Hp} {ρ:Tk} {p q:PV} {xs:List V} (r:RepL H ρ [p,q] xs):∃ v u,xs=[v,u]/\Rep H ρ p v/\Rep H ρ q u:=by
 obtain ⟨v,t,rfl,h1,h2⟩:=r;obtain ⟨u,rfl,h3⟩:=Y8 h2;exact ⟨v,u,rfl,h1,h3⟩
def Zc:CF:=fun st ps=>match ps with
 | [p]=>match Wx st p with
  | some xs=>.ok (.int xs.length) st
  | none=>match p with
   | .str x=>if x.length<=lim then .ok (.int x.length) st else .stuck
   | _=>.stuck
 | _=>.stuck
theorem Y0:CallS X E (.builtin "len") Zc:=⟨fun H ρ st ps xs Q R rp h=>by
 unfold Zc at h
 split at h
 ·rename_i p;obtain ⟨v,rfl,r⟩:=Y8 rp
  split at h
  ·rename_i ys e;obtain ⟨t,a,vs,rfl,hq,ra⟩:=qr (K:=X.K) R r e;rw [ra.length] at h;exact WC.of Q65 ⟨a,vs,rfl,Q8k hq,now R h rfl⟩
  ·split at h
   ·cases r
    split at h
    ·rename_i hl;exact WC.of Q64 ⟨_,rfl,Vc hl,now R h rfl⟩
    ·exact h.elim
   ·exact h.elim
 ·exact h.elim⟩
def Xm (g:List Int->Option PV):CF:=fun st ps=>match ps with
 | [p]=>match (Wx st p).bind K1 with
  | some ns=>okO st (g ns)
  | none=>.stuck
 | _=>.stuck
def q9 (g:List Bool->PV):CF:=fun st ps=>match ps with
 | [p]=>match (Wx st p).bind Q0p with
  | some ns=>.ok (g ns) st
  | none=>.stuck
 | _=>.stuck
theorem Q2z {K:PySem.W.Frag} {H:Hp} {ρ:Tk} {st:Q3} {p:PV} {v:V} {ns:List Int} (R:Rel H ρ st) (r:Rep H ρ p v) (e:(Wx st p).bind K1=some ns):∃ (t:Bool) (a:aB),v=.ref a/\SqK K t H a (ns.map V.int):=by
 cases q:Wx st p with
 | none=>rw [q] at e; cases e
 | some xs=>
  rw [q] at e;obtain ⟨t,a,vs,rfl,hq,ra⟩:=qr (K:=K) R r q;rw [Q1d e] at ra;rw [ra.toInts] at hq;exact ⟨t,a,rfl,hq⟩
theorem Qam {K:PySem.W.Frag} {H:Hp} {ρ:Tk} {st:Q3} {p:PV} {v:V} {ns:List Bool} (R:Rel H ρ st) (r:Rep H ρ p v) (e:(Wx st p).bind Q0p=some ns):∃ (t:Bool) (a:aB),v=.ref a/\SqK K t H a (ns.map V.bl):=by
 cases q:Wx st p with
 | none=>rw [q] at e; cases e
 | some xs=>
  rw [q] at e;obtain ⟨t,a,vs,rfl,hq,ra⟩:=qr (K:=K) R r q;rw [Qfk e] at ra;rw [ra.toBls] at hq;exact ⟨t,a,rfl,hq⟩
theorem Q60 (hc:X.calm=true):CallS X E (.builtin "sum") (Xm fun ns=>some (.int ns.sum)):=⟨fun H ρ st ps xs Q R rp h=>by
 unfold Xm at h
 split at h
 ·obtain ⟨v,rfl,r⟩:=Y8 rp
  split at h
  ·rename_i ns e;obtain ⟨t,a,rfl,hq⟩:=Q2z (K:=X.K) R r e;exact WC.of (Qf9 t hc) ⟨a,ns,rfl,hq,now R h rfl⟩
  ·exact h.elim
 ·exact h.elim⟩
theorem Q35 (hc:X.calm=true):CallS X E (.builtin "all") (q9 fun ns=>.bl (ns.all id)):=⟨fun H ρ st ps xs Q R rp h=>by
 unfold q9 at h
 split at h
 ·obtain ⟨v,rfl,r⟩:=Y8 rp
  split at h
  ·rename_i ns e;obtain ⟨t,a,rfl,hq⟩:=Qam (K:=X.K) R r e;exact WC.of (Qfb t hc) ⟨a,ns,rfl,hq,now R h rfl⟩
  ·exact h.elim
 ·exact h.elim⟩
theorem Qm4 (hc:X.calm=true):CallS X E (.builtin "any") (q9 fun ns=>.bl (ns.any id)):=⟨fun H ρ st ps xs Q R rp h=>by
 unfold q9 at h
 split at h
 ·obtain ⟨v,rfl,r⟩:=Y8 rp
  split at h
  ·rename_i ns e;obtain ⟨t,a,rfl,hq⟩:=Qam (K:=X.K) R r e;exact WC.of (Qfa t hc) ⟨a,ns,rfl,hq,now R h rfl⟩
  ·exact h.elim
 ·exact h.elim⟩
def Qsf:List Int->Option Int
 | []=>none
 | n :: ns=>some (ns.foldl (fun a b=>if b > a then b else a) n)
def Qk1:List Int->Option Int
 | []=>none
 | n :: ns=>some (ns.foldl (fun a b=>if b < a then b else a) n)
theorem Q4i:∀ (ns:List Int) (n:Int),(ns.foldl (fun a b=>if b > a then b else a) n=n\/ns.foldl (fun a b=>if b > a then b else a) n∈ns)/\n<=ns.foldl (fun a b=>if b > a then b else a) n/\∀ k∈ns,k<=ns.foldl (fun a b=>if b > a then b else a) n
 | [],n=>⟨.inl rfl,Int.le_refl _,fun k h=>by cases h⟩
 | m :: ns,n=>by
  obtain ⟨h1,h2,h3⟩:=Q4i ns (if m > n then m else n);rw [List.foldl_cons];refine ⟨?_,?_,fun k hk=>?_⟩
  ·rcases h1 with e | e
   ·by_cases hm:m > n
    ·rw [bS hm] at e ⊢; exact .inr (by rw [e]; exact D9)
    ·rw [bT hm] at e ⊢; exact .inl e
   ·exact .inr (O7 _ e)
  ·by_cases hm:m > n
   ·rw [bS hm] at h2 ⊢; omega
   ·rw [bT hm] at h2 ⊢; exact h2
  ·rcases D3.mp hk with rfl | hk
   ·by_cases hm:k > n
    ·rw [bS hm] at h2 ⊢; exact h2
    ·rw [bT hm] at h2 ⊢; omega
   ·exact h3 k hk
theorem Q4h:∀ (ns:List Int) (n:Int),(ns.foldl (fun a b=>if b < a then b else a) n=n\/ns.foldl (fun a b=>if b < a then b else a) n∈ns)/\ns.foldl (fun a b=>if b < a then b else a) n<=n/\∀ k∈ns,ns.foldl (fun a b=>if b < a then b else a) n<=k
 | [],n=>⟨.inl rfl,Int.le_refl _,fun k h=>by cases h⟩
 | m :: ns,n=>by
  obtain ⟨h1,h2,h3⟩:=Q4h ns (if m < n then m else n);rw [List.foldl_cons];refine ⟨?_,?_,fun k hk=>?_⟩
  ·rcases h1 with e | e
   ·by_cases hm:m < n
    ·rw [bS hm] at e ⊢; exact .inr (by rw [e]; exact D9)
    ·rw [bT hm] at e ⊢; exact .inl e
   ·exact .inr (O7 _ e)
  ·by_cases hm:m < n
   ·rw [bS hm] at h2 ⊢; omega
   ·rw [bT hm] at h2 ⊢; exact h2
  ·rcases D3.mp hk with rfl | hk
   ·by_cases hm:k < n
    ·rw [bS hm] at h2 ⊢; exact h2
    ·rw [bT hm] at h2 ⊢; omega
   ·exact h3 k hk
def Q9m:CF:=fun st ps=>match ps with
 | [.int a,.int b]=>.ok (.int (if b > a then b else a)) st
 | ps=>Xm (fun ns=>(Qsf ns).map .int) st ps
def Qfc:CF:=fun st ps=>match ps with
 | [.int a,.int b]=>.ok (.int (if b < a then b else a)) st
 | ps=>Xm (fun ns=>(Qk1 ns).map .int) st ps
theorem Qf5 (hc:X.calm=true):CallS X E (.builtin "max") Q9m:=⟨fun H ρ st ps xs Q R rp h=>by
 unfold Q9m at h
 split at h
 ·obtain ⟨v,u,rfl,r1,r2⟩:=qt rp;cases r1; cases r2;exact WC.of (Qcc hc) ⟨_,_,rfl,now R h rfl⟩
 ·unfold Xm at h
  split at h
  ·obtain ⟨v,rfl,r⟩:=Y8 rp
   split at h
   ·rename_i ns e;cases ns with
    | nil=>exact h.elim
    | cons n ns=>
     obtain ⟨t,a,rfl,hq⟩:=Q2z (K:=X.K) R r e;refine WC.of (Qcb t hc) ⟨a,_,rfl,hq,by simp,fun m hm hk=>?_⟩;have em:m=ns.foldl (fun a b=>if b > a then b else a) n:=by
      obtain ⟨h1,h2,h3⟩:=Q4i ns n;have g1:ns.foldl (fun a b=>if b > a then b else a) n<=m:=by
       rcases h1 with e | e
       ·rw [e]; exact hk _ D9
       ·exact hk _ (O7 _ e)
      have g2:m<=ns.foldl (fun a b=>if b > a then b else a) n:=by
       rcases D3.mp hm with rfl | hm
       ·exact h2
       ·exact h3 m hm
      omega
     subst em;exact now R h rfl
   ·exact h.elim
  ·exact h.elim⟩
theorem Qm3 (hc:X.calm=true):CallS X E (.builtin "min") Qfc:=⟨fun H ρ st ps xs Q R rp h=>by
 unfold Qfc at h
 split at h
 ·obtain ⟨v,u,rfl,r1,r2⟩:=qt rp;cases r1; cases r2;exact WC.of (Qca hc) ⟨_,_,rfl,now R h rfl⟩
 ·unfold Xm at h
  split at h
  ·obtain ⟨v,rfl,r⟩:=Y8 rp
   split at h
   ·rename_i ns e;cases ns with
    | nil=>exact h.elim
    | cons n ns=>
     obtain ⟨t,a,rfl,hq⟩:=Q2z (K:=X.K) R r e;refine WC.of (Qc9 t hc) ⟨a,_,rfl,hq,by simp,fun m hm hk=>?_⟩;have em:m=ns.foldl (fun a b=>if b < a then b else a) n:=by
      obtain ⟨h1,h2,h3⟩:=Q4h ns n;have g1:m<=ns.foldl (fun a b=>if b < a then b else a) n:=by
       rcases h1 with e | e
       ·rw [e]; exact hk _ D9
       ·exact hk _ (O7 _ e)
      have g2:ns.foldl (fun a b=>if b < a then b else a) n<=m:=by
       rcases D3.mp hm with rfl | hm
       ·exact h2
       ·exact h3 m hm
      omega
     subst em;exact now R h rfl
   ·exact h.elim
  ·exact h.elim⟩
def Kk:CF:=fun st ps=>match ps with
 | [p]=>match Wx st p with
  | some xs=>.ok (.lst xs) st
  | none=>.stuck
 | _=>.stuck
def ji:CF:=fun st ps=>match ps with
 | [p]=>match Wx st p with
  | some xs=>.ok (.tup xs) st
  | none=>.stuck
 | _=>.stuck
theorem Q61:CallS X E (.type "list") Kk:=⟨fun H ρ st ps xs Q R rp h=>by
 unfold Kk at h
 split at h
 ·obtain ⟨v,rfl,r⟩:=Y8 rp
  split at h
  ·rename_i ys e;obtain ⟨t,a,vs,rfl,hq,ra⟩:=qr (K:=X.K) R r e;exact WC.of xm ⟨a,vs,rfl,Q8k hq,yy R h ra⟩
  ·exact h.elim
 ·exact h.elim⟩
theorem Q82:CallS X E (.type "tuple") ji:=⟨fun H ρ st ps xs Q R rp h=>by
 unfold ji at h
 split at h
 ·rename_i p;obtain ⟨v,rfl,r⟩:=Y8 rp
  split at h
  ·rename_i ys e;cases p with
   | tup zs=>
    cases e;obtain ⟨a,vs,rfl,ha,na,ra⟩:=r;exact WC.of zi ⟨a,vs,rfl,.inr ⟨SqT.of ha,now R h ⟨a,vs,rfl,ha,na,ra⟩⟩⟩
   | _=>
    obtain ⟨a,vs,rfl,ha,ra⟩:=Xu R r e;exact WC.of zi ⟨a,vs,rfl,.inl ⟨.inl ha,yx R h ra⟩⟩
  ·exact h.elim
 ·exact h.elim⟩
def Qt5:CF:=fun st ps=>match ps with
 | [.int a]=>.ok (.int (if a < 0 then -a else a)) st
 | _=>.stuck
def tyN:PV->String
 | .non => "NoneType"
 | .bl _ => "bool"
 | .int _ => "int"
 | .str _ => "str"
 | .tup _ => "tuple"
 | .lst _ => "list"
 | .fro _ => "list"
 | .ref _ => "list"
 | .dic => "dict"
def dpv (st:Q3):PV->PV
 | .ref i=>match st[i]? with
  | some (.dic _)=>.dic
  | some (.dtp _)=>.dic
  | _=>.ref i
 | p=>p
def isI (T:String) (p:PV):Bool:=tyN p == T || (T == "int" && tyN p == "bool")
def zc (st:Q3):PV->Bool
 | .ref i=>match st[i]? with
  | some (.frd _)=>true
  | some (.obj _ _)=>true
  | _=>false
 | _=>false
theorem Qn5 {K:PySem.W.Frag} {H:Hp} {ρ:Tk} {st:Q3} {p:PV} {v:V} (nf:zc st p=false) (R:Rel H ρ st) (r:Rep H ρ p v):TyOf K H v (.type (tyN (dpv st p))):=by
 cases p with
 | non=>cases r; exact .non
 | bl b=>cases r; exact .bl b
 | int i=>cases r; exact .int i
 | str x=>cases r; exact .str x
 | tup ps=>obtain ⟨a,vs,rfl,h,_⟩:=r; exact .tup h
 | lst ps=>obtain ⟨a,vs,rfl,h,_⟩:=r; exact .lst h
 | fro ps=>
  obtain ⟨a,vs,rfl,h,_⟩:=r;rcases h with h | ⟨o,h⟩
  ·exact .lst h
  ·exact .frz h
 | ref i=>
  obtain ⟨a,e,rfl⟩:=r;have hl:i < st.length:=by rw [<- R.len]; exact (O0.mp e).1
  have hs:=O2 hl;have q:=R.cell i a st[i] e hs;cases hc:st[i] with
  | lst xs=>rw [hc] at q hs; simp only [dpv,hs]; obtain ⟨vs,h,_⟩:=q; exact .lst h
  | dic xs=>rw [hc] at q hs; simp only [dpv,hs]; obtain ⟨vs,h,_⟩:=q; exact .dK h
  | dtp xs=>rw [hc] at q hs; simp only [dpv,hs]; obtain ⟨vs,h,_⟩:=q; exact .dT h
  | frd xs=>rw [hc] at hs; simp only [zc,hs] at nf; cases nf
  | obj C xs=>rw [hc] at hs; simp only [zc,hs] at nf; cases nf
 | dic=>obtain ⟨a,rfl,h,_⟩:=r; exact .dK h
def Q2t:List String:=["int", "bool", "str", "tuple", "list", "dict"]
theorem Qkd (K:PySem.W.Frag) {T:String} (hT:T∈Q2t) (p:PV):PySem.W.kitOne K (.type (tyN p)) (.type T)=some (isI T p):=by
 have hT:T = "int" \/ T = "bool" \/ T = "str" \/ T = "tuple" \/ T = "list" \/ T = "dict" := by simpa [Q2t] using hT
 rcases hT with rfl | rfl | rfl | rfl | rfl | rfl <;> cases p <;> first | rfl | kernel_rfl
def Q7b (T:String) (m:ME):ME:=fun Γ st=>(m Γ st).bind fun p st1=>if zc st1 p=true then .stuck else .ok (.bl (isI T (dpv st1 p))) st1
theorem Q00 {T:String} {tx:Str} {a:aH} {ma:ME} {p tp:Pos} (hT:T∈Q2t) (ha:SimE X E a ma) (hg:Gl X "isinstance") (hm:X.mg "isinstance" = none) (hgT:Gl X tx) (hmT:X.mg tx=none) (hvT:aY tx=some (.type T))
  (hn:tx≠"__name__" := by decide) (hd:(tx == ("__debug__" : Str))=false:=by decide)
  (he:aO [a,.Name tx tp] X.env=(false,aN a X.env) :: aO [.Name tx tp] X.env:=by rfl) (he2:aO [.Name tx tp] X.env=(false,aN (.Name tx tp) X.env) :: aO [] X.env:=by rfl) (hpl:(ad pos (aO [.Name tx tp] X.env)).any (·.1)=false:=by rfl) :
  SimE X E (.Call (.Name "isinstance" p) [a,.Name tx tp] [] pos) (Q7b T ma):=
 ⟨fun Γ σ H ρ st Q R G h=>WE.of (Q2f Q86 hg hm Q15 (jw Zj (jw (Qh2 hgT hmT hvT (v:=.ty T) rfl hn hd) Q2h he2) he) (by decide) (by decide) he hpl)
  (ha.use R G h.bind fun q st1 H1 ρ1 v x1 R1 G1 r1 h1=>by
   by_cases nf:zc st1 q=true
   ·rw [bS nf] at h1; exact h1.elim
   ·rw [bT nf] at h1;exact ⟨v,.ty T,.type T,_,_,rfl,rfl,Qn5 (by simpa using nf) R1 r1,Qkd X.K hT (dpv st1 q),now R1 h1 rfl⟩)⟩
end
abbrev GA:=PV->Gam->Option Gam
abbrev GAs:=List PV->Gam->Option Gam
structure SimG (X:Cx) (tg:aH) (ga:GA):Prop where
 run:∀ (Γ Γ':Gam) (σ:St) (H:Hp) (ρ:Tk) (p:PV) (v:V) (Q:St->Hp->Prop),EnvR H ρ Γ σ->Rep H ρ p v->ga p Γ=some Γ'->(∀ σ',EnvR H ρ Γ' σ'->Q σ' H)->∃ t,PG X tg t/\t v σ H Q
structure SimGs (X:Cx) (tgs:List aH) (n:Nat) (ga:GAs):Prop where
 run:∀ (Γ Γ':Gam) (σ:St) (H:Hp) (ρ:Tk) (ps:List PV) (vs:List V) (Q:St->Hp->Prop),EnvR H ρ Γ σ->RepL H ρ ps vs->ga ps Γ=some Γ'->(∀ σ',EnvR H ρ Γ' σ'->Q σ' H)->∃ t,PGs X tgs t/\t vs σ H Q
 len:∀ ps Γ Γ',ga ps Γ=some Γ'->ps.length=n
def Q6 (i:Nat):GA:=fun p Γ=>some (Γ.set i (some p))
def Jp:GAs:=fun ps Γ=>match ps with
 | []=>some Γ
 | _=>none
def Qb (g:GA) (gs:GAs):GAs:=fun ps Γ=>match ps with
 | p :: r=>(g p Γ).bind (gs r)
 | []=>none
def Jn (gs:GAs):GA:=fun p Γ=>match p with
 | .tup ps=>gs ps Γ
 | _=>none
section
variable {X:Cx} {pos:Pos}
theorem Qg {i:Nat} {x:Str} (hN:X.N.Nodup) (hi:X.N[i]?=some x:=by rfl) (hx:Loc X.env.scope x:=by first | exact Or.inl rfl | exact Or.inr rfl) (hf:X.fn x=true\/X.env.scope.names.lookup x=some .local:=by first | exact .inl rfl | exact .inr rfl):SimG X (.Name x pos) (Q6 i):=
 ⟨fun Γ Γ' σ H ρ p v Q G r e k=>⟨_,Qgw hN hi hx hf,by cases e; exact k _ (G.set r i)⟩⟩
theorem Yz:SimGs X [] 0 Jp:=⟨fun Γ Γ' σ H ρ ps vs Q G r e k=>⟨_,Qgu,by
 cases ps with
 | nil=>cases e; cases r; exact ⟨rfl,k σ G⟩
 | cons _ _=>cases e⟩,fun ps Γ Γ' e=>by
 cases ps with
 | nil=>rfl
 | cons _ _=>cases e⟩
def WGx (X:Cx) (tg:aH):TG:=fun v σ H Q=>∃ t,PG X tg t/\t v σ H Q
theorem Qgv {tg:aH}:PG X tg (WGx X tg):=fun pins s σ H v u Q I r ⟨t,h,q⟩=>h pins s σ H v u Q I r q
def Qsu (X:Cx) (tgs:List aH):TGs:=fun v σ H Q=>∃ t,PGs X tgs t/\t v σ H Q
theorem Qib {tgs:List aH}:PGs X tgs (Qsu X tgs):=fun pins s σ H v u Q I r ⟨t,h,q⟩=>h pins s σ H v u Q I r q
theorem Qj {e:aH} {es:List aH} {g:GA} {gs:GAs} {n:Nat} (h1:SimG X e g) (h2:SimGs X es n gs) (hs:(au (e :: es) X.env).map (·.2)=assign e X.env :: (au es X.env).map (·.2):=by rfl):SimGs X (e :: es) (n + 1) (Qb g gs):=
 ⟨fun Γ Γ' σ H ρ ps vs Q G r eq k=>⟨_,Qds Qgv Qib hs,by
  cases ps with
  | nil=>cases eq
  | cons p ps=>
   obtain ⟨v,t,rfl,r1,r2⟩:=r;have eq:(g p Γ).bind (gs ps)=some Γ':=eq;cases e1:g p Γ with
   | none=>rw [e1] at eq; cases eq
   | some Γ1=>
    rw [e1] at eq;exact ⟨v,t,rfl,h1.run Γ Γ1 σ H ρ p v _ G r1 e1 fun σ1 G1=>h2.run Γ1 Γ' σ1 H ρ ps t _ G1 r2 eq k⟩⟩,fun ps Γ Γ' e=>by
  cases ps with
  | nil=>cases e
  | cons p ps=>
   have e:(g p Γ).bind (gs ps)=some Γ':=e;cases e1:g p Γ with
   | none=>rw [e1] at e; cases e
   | some Γ1=>rw [e1] at e; rw [E1,h2.len ps Γ1 Γ' e]⟩
theorem V8 {es:List aH} {k n:Nat} {gs:GAs} (hc:X.calm=true) (h:SimGs X es n gs) (hn:(au es X.env).length=n:=by rfl) (hst:(au es X.env).findIdx? (·.1)=none:=by rfl):SimG X (.Tuple es k pos) (Jn gs):=
 ⟨fun Γ Γ' σ H ρ p v Q G r e q=>⟨_,Qjb hc Qib hn hst,by
  cases p with
  | tup ps=>
   obtain ⟨a,vs,rfl,ha,na,ra⟩:=r;exact ⟨a,vs,rfl,SqT.of ha,by rw [<- ra.length]; exact h.len ps Γ Γ' e,h.run Γ Γ' σ H ρ ps vs Q G ra e q⟩
  | _=>cases e⟩⟩
end
abbrev Wt:=List (Nat × Cell)
def wOk (w:Wt) (st:Q3):Prop:=∀ x∈w,st[x.1]?=some x.2
theorem yd (st:Q3):wOk [] st:=fun x h=>by cases h
structure Src (J:It) (items:List PV) (w:Wt) (H:Hp) (ρ:Tk):Prop where
 stop:∀ H2 ρ2 st2,Ext H ρ H2 ρ2->Rel H2 ρ2 st2->wOk w st2->J.stop items.length H2
 go:∀ H2 ρ2 st2,Ext H ρ H2 ρ2->Rel H2 ρ2 st2->wOk w st2->∀ i,i < items.length->J.go i H2
 yld:∀ H2 ρ2 st2,Ext H ρ H2 ρ2->Rel H2 ρ2 st2->wOk w st2->∀ i p,items[i]?=some p->∀ x H3,J.yld i H2 x H3->Same H2 H3/\Rep H3 ρ2 p x
abbrev MI:=Gam->Q3->Res (List PV × Wt)
structure SimI (X:Cx) (E:XK) (tg iter:aH) (mi:MI):Prop where
 run:∀ (Γ:Gam) (σ:St) (H:Hp) (ρ:Tk) (st:Q3) (P:List PV × Wt->Q3->Hp->Tk->Prop) (R':It->Hp->Prop),Rel H ρ st->EnvR H ρ Γ σ->Acc X.mg E H ρ P (mi Γ st) ->
  (∀ iw st1 H1 ρ1 J,mi Γ st=.ok iw st1->Ext H ρ H1 ρ1->Rel H1 ρ1 st1->EnvR H1 ρ1 Γ σ->wOk iw.2 st1->iw.1.length<=sizeLine->Src J iw.1 iw.2 H1 ρ1->P iw st1 H1 ρ1->R' J H1)->WI X tg iter σ H R'
def We (st:Q3):PV->Option (List PV × Wt)
 | .tup xs=>some (xs,[])
 | .lst xs=>some (xs,[])
 | .fro xs=>some (xs,[])
 | .ref i=>match st[i]? with
  | some (.lst xs)=>some (xs,[(i,.lst xs)])
  | _=>none
 | _=>none
theorem Q1z {K:PySem.W.Frag} {H:Hp} {ρ:Tk} {st:Q3} {p:PV} {v:V} {xs:List PV} {w:Wt} (R:Rel H ρ st) (r:Rep H ρ p v) (e:We st p=some (xs,w)) :
  wOk w st/\∃ (t:Bool) (a:aB),v=.ref a/\(t=true->∃ ys,p=.tup ys)/\(t=false->∀ ys,p≠.tup ys)/\∀ H2 ρ2 st2,Ext H ρ H2 ρ2->Rel H2 ρ2 st2->wOk w st2->∃ vs,SqK K t H2 a vs/\RepL H2 ρ2 xs vs:=by
 cases p with
 | tup ys=>
  obtain ⟨a,vs,rfl,ha,na,ra⟩:=r;cases e;exact ⟨yd _,true,a,rfl,fun _=>⟨_,rfl⟩,(fun z=>by cases z),fun H2 ρ2 st2 x R2 _=>⟨vs,show SqT K H2 a vs from SqT.of (x.kp ha na),ra.ext x⟩⟩
 | lst ys=>
  obtain ⟨a,vs,rfl,ha,na,ra⟩:=r;cases e;exact ⟨yd _,false,a,rfl,(fun z=>by cases z),(fun _ _ z=>by cases z),fun H2 ρ2 st2 x R2 _=>⟨vs,show SqL K H2 a vs from SqL.of (x.kp ha na),ra.ext x⟩⟩
 | fro ys=>
  obtain ⟨a,vs,rfl,ha,na,ra⟩:=r;cases e;refine ⟨yd _,false,a,rfl,(fun z=>by cases z),(fun _ _ z=>by cases z),fun H2 ρ2 st2 x R2 _=>⟨vs,show SqL K H2 a vs from ?_,ra.ext x⟩⟩
  rcases ha with ha | ⟨o,ha⟩
  ·exact .inl (.inl (x.kp ha na))
  ·exact .inl (.inr ⟨o,x.kp ha na⟩)
 | ref i=>
  obtain ⟨a,ea,rfl⟩:=r;simp only [We] at e
  split at e
  ·rename_i ys hs;cases e;refine ⟨fun x hx=>?_,false,a,rfl,(fun z=>by cases z),(fun _ _ z=>by cases z),fun H2 ρ2 st2 x R2 ok=>?_⟩
   ·have:x=(i,.lst xs):=by simpa using hx
    subst this; exact hs
   ·have hs2:=ok (i,.lst xs) (by simp);obtain ⟨b,vs,f1,f2,f3⟩:=R2.lst hs2;obtain ⟨t,et⟩:=x.pre;rw [<- et,O5 (O0.mp ea).1,ea] at f1;cases f1;exact ⟨vs,show SqL K H2 a vs from SqL.of f2,f3⟩
  ·cases e
 | _=>cases e
section
variable {X:Cx} {E:XK} {pos:Pos} {tg:aH} {e:aH} {m:ME}
def Uw (m:ME):MI:=fun Γ st=>(m Γ st).bind fun p st1=>match We st1 p with
 | some (xs,w)=>if xs.length<=lim then .ok (xs,w) st1 else .stuck
 | none=>.stuck
theorem RepL.i {H:Hp} {ρ:Tk} {ps:List PV} {vs:List V} {i:Nat} {p:PV} {x:V} (r:RepL H ρ ps vs) (h:ps[i]?=some p) (h':vs[i]?=some x):Rep H ρ p x:=by
 obtain ⟨v,e,q⟩:=r.get h;rw [h'] at e; cases e;exact q
theorem Q9x {K:PySem.W.Frag} {H:Hp} {ρ:Tk} {t:Bool} {a:aB} {xs:List PV} {w:Wt} (h:∀ H2 ρ2 st2,Ext H ρ H2 ρ2->Rel H2 ρ2 st2->wOk w st2->∃ vs,SqK K t H2 a vs/\RepL H2 ρ2 xs vs):Src (if t=true then Itt K a else Itl K a) xs w H ρ:=by
 cases t with
 | true=>
  rw [bS rfl];refine ⟨fun H2 ρ2 st2 x R ok=>?_,fun H2 ρ2 st2 x R ok i hi=>?_,fun H2 ρ2 st2 x R ok i p hp y H3 hy=>?_⟩
  ·obtain ⟨vs,s,r⟩:=h H2 ρ2 st2 x R ok;exact ⟨vs,s,by rw [r.length]; exact O9 _⟩
  ·obtain ⟨vs,s,r⟩:=h H2 ρ2 st2 x R ok;have hi':i < vs.length:=by rw [<- r.length]; exact hi
   exact ⟨vs,vs[i],s,O2 hi'⟩
  ·obtain ⟨vs,s,r⟩:=h H2 ρ2 st2 x R ok;obtain ⟨rfl,hv⟩:=hy;exact ⟨Same.refl _,r.i hp (hv vs s)⟩
 | false=>
  rw [bT D2];refine ⟨fun H2 ρ2 st2 x R ok=>?_,fun H2 ρ2 st2 x R ok i hi=>?_,fun H2 ρ2 st2 x R ok i p hp y H3 hy=>?_⟩
  ·obtain ⟨vs,s,r⟩:=h H2 ρ2 st2 x R ok;exact ⟨vs,s,by rw [r.length]; exact O9 _⟩
  ·obtain ⟨vs,s,r⟩:=h H2 ρ2 st2 x R ok;have hi':i < vs.length:=by rw [<- r.length]; exact hi
   exact ⟨vs,vs[i],s,O2 hi'⟩
  ·obtain ⟨vs,s,r⟩:=h H2 ρ2 st2 x R ok;obtain ⟨rfl,hv⟩:=hy;exact ⟨Same.refl _,r.i hp (hv vs s)⟩
theorem Qa7 {mg:Str->Option aA} {H:Hp} {ρ:Tk} {st:Q3} {p:PV} {P:List PV × Wt->Q3->Hp->Tk->Prop} (R:Rel H ρ st) (h:Acc mg E H ρ P (match We st p with | some (xs,w)=>if xs.length<=lim then .ok (xs,w) st else .stuck | none=>.stuck)) :
  ∃ xs w,We st p=some (xs,w)/\xs.length<=lim/\P (xs,w) st H ρ:=by
 split at h
 ·rename_i xs w e
  split at h
  ·rename_i hl;exact ⟨xs,w,e,hl,h H ρ (Ext.refl _ _) R⟩
  ·exact h.elim
 ·exact h.elim
theorem Yi (ha:SimE X E e m):SimI X E tg e (Uw m):=⟨fun Γ σ H ρ st P R' R G h k=>by
 have hb:Acc X.mg E H ρ _ (m Γ st):=Acc.bind h
 by_cases ht:∃ ys st1,m Γ st=.ok (.tup ys) st1
 ·obtain ⟨ys,st0,e0⟩:=ht;refine WI.of (Qja Zj) (ha.use' R G hb fun p st1 H1 ρ1 v eq x1 R1 G1 r1 h1=>?_);obtain ⟨xs,w,e,hl,hP⟩:=Qa7 R1 h1;obtain ⟨ok,t,a,rfl,t1,t2,sq⟩:=Q1z (K:=X.K) R1 r1 e;have ep:p=.tup ys:=by rw [eq] at e0; injection e0
  cases t with
  | false=>exact absurd ep (t2 rfl ys)
  | true=>
   obtain ⟨vs,s,_⟩:=sq H1 ρ1 st1 (Ext.refl _ _) R1 ok;exact ⟨a,rfl,⟨vs,s⟩,k (xs,w) st1 H1 ρ1 _ (by simp only [Uw,eq,Res.bind,e,bS hl]) x1 R1 G1 ok (Vc hl) (Q9x sq) hP⟩
 ·refine WI.of (Qgs Zj) (ha.use' R G hb fun p st1 H1 ρ1 v eq x1 R1 G1 r1 h1=>?_);obtain ⟨xs,w,e,hl,hP⟩:=Qa7 R1 h1;obtain ⟨ok,t,a,rfl,t1,t2,sq⟩:=Q1z (K:=X.K) R1 r1 e;cases t with
  | true=>
   obtain ⟨ys,rfl⟩:=t1 rfl;exact absurd ⟨ys,st1,eq⟩ ht
  | false=>
   obtain ⟨vs,s,_⟩:=sq H1 ρ1 st1 (Ext.refl _ _) R1 ok;exact ⟨a,rfl,⟨vs,s⟩,k (xs,w) st1 H1 ρ1 _ (by simp only [Uw,eq,Res.bind,e,bS hl]) x1 R1 G1 ok (Vc hl) (Q9x sq) hP⟩⟩
def Zn (lo:Int) (n:Nat):List PV:=(List.range n).map fun (k:Nat)=>PV.int (lo + (k:Int))
theorem Q3w {H:Hp} {ρ:Tk} {lo:Int} {n:Nat}:Src (Itr lo n) (Zn lo n) [] H ρ:=by
 have hl:(Zn lo n).length=n:=by unfold Zn; rw [O3,F8]
 refine ⟨fun H2 ρ2 st2 x R ok=>?_,fun H2 ρ2 st2 x R ok i hi=>?_,fun H2 ρ2 st2 x R ok i p hp y H3 hy=>?_⟩
 ·show n<=(Zn lo n).length;omega
 ·show i < n;omega
 ·obtain ⟨rfl,rfl⟩:=hy;have hi:i < n:=by rw [<- hl]; exact (O0.mp hp).1
  unfold Zn at hp;rw [D6,List.getElem?_range hi] at hp;cases hp;exact ⟨Same.refl _,rfl⟩
def Yb (mr:Gam->Q3->Res (List PV)):MI:=fun Γ st=>(mr Γ st).bind fun ps st1=>match ps with
 | [.int j]=>if -(lim:Int)<=j/\j<=lim then .ok (Zn 0 j.toNat,[]) st1 else .stuck
 | _=>.stuck
def yz (mr:Gam->Q3->Res (List PV)):MI:=fun Γ st=>(mr Γ st).bind fun ps st1=>match ps with
 | [.int i,.int j]=>if -(lim:Int)<=i/\i<=lim/\-(lim:Int)<=j/\j<=lim then .ok (Zn i (j - i).toNat,[]) st1 else .stuck
 | _=>.stuck
variable {a b:aH} {mr:Gam->Q3->Res (List PV)} {p:Pos}
theorem Q2a (lo:Int) (n:Nat):(Zn lo n).length=n:=by unfold Zn; rw [O3,F8]
theorem Z7 (hg:Gl X "range") (hm:X.mg "range" = none) (ha:SimA X E [a] mr) (hs:aO [a] X.env=[(false,aN a X.env)]:=by rfl):SimI X E tg (.Call (.Name "range" p) [a] [] pos) (Yb mr):=⟨fun Γ σ H ρ st P R' R G h k=>by
 refine WI.of (Qb2 hg hm Q0s hs) (ha.use' R G h.bind fun ps st1 H1 ρ1 vs eq x1 R1 G1 r1 h1=>?_)
 split at h1
 ·rename_i j
  split at h1
  ·rename_i hj;obtain ⟨v,rfl,rv⟩:=Y8 r1;cases rv;have hl:(lim:Int)=1000000:=rfl;refine ⟨j,rfl,by omega,by omega,k (Zn 0 j.toNat,[]) st1 H1 ρ1 _ (by simp only [Yb,eq,Res.bind,bS hj]) x1 R1 G1 (yd _) ?_ Q3w (h1 H1 ρ1 (Ext.refl _ _) R1)⟩;show (Zn 0 j.toNat).length<=sizeLine;rw [Q2a];exact Vc (by omega)
  ·exact h1.elim
 ·exact h1.elim⟩
theorem Q3y (hg:Gl X "range") (hm:X.mg "range" = none) (ha:SimA X E [a,b] mr) (hs:aO [a,b] X.env=[(false,aN a X.env),(false,aN b X.env)]:=by rfl) (hs2:aO [b] X.env=[(false,aN b X.env)]:=by rfl):SimI X E tg (.Call (.Name "range" p) [a,b] [] pos) (yz mr):=⟨fun Γ σ H ρ st P R' R G h k=>by
 refine WI.of (Qb1 hg hm Q0s hs hs2) (ha.use' R G h.bind fun ps st1 H1 ρ1 vs eq x1 R1 G1 r1 h1=>?_)
 split at h1
 ·rename_i i j
  split at h1
  ·rename_i hj;obtain ⟨v,u,rfl,rv,ru⟩:=qt r1;cases rv; cases ru;have hl:(lim:Int)=1000000:=rfl;refine ⟨i,j,rfl,⟨by omega,by omega,by omega,by omega⟩,k (Zn i (j - i).toNat,[]) st1 H1 ρ1 _ (by simp only [yz,eq,Res.bind,bS hj]) x1 R1 G1 (yd _) ?_ Q3w (h1 H1 ρ1 (Ext.refl _ _) R1)⟩;show (Zn i (j - i).toNat).length<=sizeLine;rw [Q2a];exact E7 (show (j - i).toNat<=2000000 by omega) (by decide)
  ·exact h1.elim
 ·exact h1.elim⟩
def Q0q:List PV->List PV->List PV
 | x :: xs,y :: ys=>.tup [x,y] :: Q0q xs ys
 | _,_=>[]
theorem Q50 (xs ys:List PV):Q0q xs ys=(xs.zip ys).map fun z=>.tup [z.1,z.2]:=by
 induction xs generalizing ys with
 | nil=>rfl
 | cons x xs ih=>
  cases ys with
  | nil=>rfl
  | cons y ys=>rw [Q0q,ih]; rfl
theorem Q1k (xs ys:List PV):(Q0q xs ys).length=min xs.length ys.length:=by rw [Q50,O3,List.length_zip]
theorem Qcm {xs ys:List PV} {i:Nat} {p:PV} (h:(Q0q xs ys)[i]?=some p):∃ x y,p=.tup [x,y]/\xs[i]?=some x/\ys[i]?=some y:=by
 rw [Q50,D6] at h;cases e:(xs.zip ys)[i]? with
 | none=>rw [e] at h; cases h
 | some z=>
  rw [e] at h; cases h;rw [List.getElem?_zip_eq_some] at e;exact ⟨z.1,z.2,rfl,e.1,e.2⟩
def Q7a (mr:Gam->Q3->Res (List PV)):MI:=fun Γ st=>(mr Γ st).bind fun ps st1=>match ps with
 | [p,q]=>match We st1 p,We st1 q with
  | some (xs,w),some (ys,w')=>if xs.length<=lim then .ok (Q0q xs ys,w ++ w') st1 else .stuck
  | _,_=>.stuck
 | _=>.stuck
theorem jn {w w':Wt} {st:Q3} (h:wOk (w ++ w') st):wOk w st/\wOk w' st:=⟨fun x hx=>h x (G9 _ hx),fun x hx=>h x (E6 _ hx)⟩
theorem Qg0 {K:PySem.W.Frag} {H:Hp} {ρ:Tk} {t1 t2:Bool} {a b:aB} {xs ys:List PV} {w w':Wt} (h:∀ H2 ρ2 st2,Ext H ρ H2 ρ2->Rel H2 ρ2 st2->wOk w st2->∃ vs,SqK K t1 H2 a vs/\RepL H2 ρ2 xs vs)
  (h':∀ H2 ρ2 st2,Ext H ρ H2 ρ2->Rel H2 ρ2 st2->wOk w' st2->∃ vs,SqK K t2 H2 b vs/\RepL H2 ρ2 ys vs):Src (Itz K t1 t2 a b) (Q0q xs ys) (w ++ w') H ρ:=by
 refine ⟨fun H2 ρ2 st2 x R ok=>?_,fun H2 ρ2 st2 x R ok i hi=>?_,fun H2 ρ2 st2 x R ok i p hp y H3 hy=>?_⟩
 ·obtain ⟨vs,s,r⟩:=h H2 ρ2 st2 x R (jn ok).1;obtain ⟨us,s',r'⟩:=h' H2 ρ2 st2 x R (jn ok).2;refine ⟨vs,us,s,s',?_⟩;rw [Q1k,<- r.length,<- r'.length];omega
 ·obtain ⟨vs,s,r⟩:=h H2 ρ2 st2 x R (jn ok).1;obtain ⟨us,s',r'⟩:=h' H2 ρ2 st2 x R (jn ok).2;rw [Q1k,r.length,r'.length] at hi;have h1:i < vs.length:=by omega
  have h2:i < us.length:=by omega
  exact ⟨vs,us,vs[i],us[i],s,s',O2 h1,O2 h2⟩
 ·obtain ⟨vs,s,r⟩:=h H2 ρ2 st2 x R (jn ok).1;obtain ⟨us,s',r'⟩:=h' H2 ρ2 st2 x R (jn ok).2;obtain ⟨q,u,v,hn,rfl,rfl,hv⟩:=hy;obtain ⟨e1,e2⟩:=hv vs us s s';obtain ⟨xp,yp,rfl,p1,p2⟩:=Qcm hp;have sm:Same H2 (upd H2 q (.tup [u,v])):=Q6k hn;exact ⟨sm,q,[u,v],rfl,Jb,R.fresh hn,RepL.cons ((r.i p1 e1).ext (Ext.same sm)) (RepL.cons ((r'.i p2 e2).ext (Ext.same sm)) RepL.nil)⟩
theorem Qd2 {elts:List aH} {kt:Nat} {tp:Pos} (hg:Gl X "zip") (hm:X.mg "zip" = none) (ha:SimA X E [a,b] mr) (hs:aO [a,b] X.env=[(false,aN a X.env),(false,aN b X.env)]:=by rfl) (hs2:aO [b] X.env=[(false,aN b X.env)]:=by rfl) :
  SimI X E (.Tuple elts kt tp) (.Call (.Name "zip" p) [a,b] [] pos) (Q7a mr):=⟨fun Γ σ H ρ st P R' R G h k=>by
 have hb:Acc X.mg E H ρ _ (mr Γ st):=Acc.bind h;have main:∀ t1 t2:Bool,(∀ p q st1,mr Γ st=.ok [p,q] st1->(t1=true <-> ∃ ys,p=.tup ys)/\(t2=true <-> ∃ ys,q=.tup ys))->WI X (.Tuple elts kt tp) (.Call (.Name "zip" p) [a,b] [] pos) σ H R':=fun t1 t2 ht=>by
  refine WI.of (Qj8 t1 t2 hg hm Q0s hs hs2) (ha.use' R G hb fun ps st1 H1 ρ1 vs eq x1 R1 G1 r1 h1=>?_)
  split at h1
  ·rename_i p' q'
   split at h1
   ·rename_i xs w ys w' e1 e2
    split at h1
    ·rename_i hl;obtain ⟨v,u,rfl,rv,ru⟩:=qt r1;obtain ⟨ok1,b1,a1,rfl,z1,z1',sq1⟩:=Q1z (K:=X.K) R1 rv e1;obtain ⟨ok2,b2,a2,rfl,z2,z2',sq2⟩:=Q1z (K:=X.K) R1 ru e2;obtain ⟨g1,g2⟩:=ht _ _ _ eq;have eb1:b1=t1:=by
      cases b1 with
      | true=>exact (g1.mpr (z1 rfl)).symm
      | false=>
       cases t1 with
       | false=>rfl
       | true=>obtain ⟨ys,e⟩:=g1.mp rfl; exact absurd e (z1' rfl ys)
     have eb2:b2=t2:=by
      cases b2 with
      | true=>exact (g2.mpr (z2 rfl)).symm
      | false=>
       cases t2 with
       | false=>rfl
       | true=>obtain ⟨ys,e⟩:=g2.mp rfl; exact absurd e (z2' rfl ys)
     subst eb1; subst eb2;obtain ⟨vs1,s1,_⟩:=sq1 H1 ρ1 st1 (Ext.refl _ _) R1 ok1;obtain ⟨vs2,s2,_⟩:=sq2 H1 ρ1 st1 (Ext.refl _ _) R1 ok2;refine ⟨a1,a2,vs1,vs2,rfl,s1,s2,k (Q0q xs ys,w ++ w') st1 H1 ρ1 _ (by simp only [Q7a,eq,Res.bind,e1,e2,bS hl]) x1 R1 G1 (fun x hx=>?_) ?_ (Qg0 sq1 sq2) (h1 H1 ρ1 (Ext.refl _ _) R1)⟩
     ·rcases E3.mp hx with hx | hx
      ·exact ok1 x hx
      ·exact ok2 x hx
     ·show (Q0q xs ys).length<=sizeLine;rw [Q1k];exact Vc (E7 (Nat.min_le_left _ _) hl)
    ·exact h1.elim
   ·exact h1.elim
  ·exact h1.elim
 have tt:∀ p:PV,∃ t:Bool,t=true <-> ∃ ys,p=.tup ys:=fun p=>by
  cases p with
  | tup ys=>exact ⟨true,fun _=>⟨ys,rfl⟩,fun _=>rfl⟩
  | _=>exact ⟨false,⟨fun z=>(by cases z),fun ⟨_,z⟩=>(by cases z)⟩⟩
 by_cases hz:∃ p q st1,mr Γ st=.ok [p,q] st1
 ·obtain ⟨p0,q0,st0,e0⟩:=hz;obtain ⟨t1,g1⟩:=tt p0;obtain ⟨t2,g2⟩:=tt q0;refine main t1 t2 fun p q st1 e=>?_
  rw [e0] at e; cases e;exact ⟨g1,g2⟩
 ·exact main true true fun p q st1 e=>absurd ⟨p,q,st1,e⟩ hz⟩
def X1:Nat->List PV->List PV
 | _,[]=>[]
 | n,x :: xs=>.tup [.int n,x] :: X1 (n + 1) xs
theorem jz:∀ (n:Nat) (xs:List PV),(X1 n xs).length=xs.length
 | _,[]=>rfl
 | n,x :: xs=>by rw [X1,E1,jz (n + 1) xs,E1]
theorem Q4m:∀ {n:Nat} {xs:List PV} {i:Nat} {p:PV},(X1 n xs)[i]?=some p->∃ x,p=.tup [.int (n + i:Nat),x]/\xs[i]?=some x
 | n,[],i,p,h=>by simp [X1] at h
 | n,x :: xs,0,p,h=>by
  simp [X1] at h;exact ⟨x,h.symm,rfl⟩
 | n,x :: xs,i + 1,p,h=>by
  rw [X1,List.getElem?_cons_succ] at h;obtain ⟨y,e1,e2⟩:=Q4m h;exact ⟨y,by rw [e1,show n + 1 + i=n + (i + 1) by omega],by simpa using e2⟩
def Q7d (mr:Gam->Q3->Res (List PV)):MI:=fun Γ st=>(mr Γ st).bind fun ps st1=>match ps with
 | [p]=>match We st1 p with
  | some (xs,w)=>if xs.length<=lim then .ok (X1 0 xs,w) st1 else .stuck
  | none=>.stuck
 | _=>.stuck
theorem Qd0 {K:PySem.W.Frag} {H:Hp} {ρ:Tk} {t:Bool} {a:aB} {xs:List PV} {w:Wt} (h:∀ H2 ρ2 st2,Ext H ρ H2 ρ2->Rel H2 ρ2 st2->wOk w st2->∃ vs,SqK K t H2 a vs/\RepL H2 ρ2 xs vs):Src (Ite K t a) (X1 0 xs) w H ρ:=by
 refine ⟨fun H2 ρ2 st2 x R ok=>?_,fun H2 ρ2 st2 x R ok i hi=>?_,fun H2 ρ2 st2 x R ok i p hp y H3 hy=>?_⟩
 ·obtain ⟨vs,s,r⟩:=h H2 ρ2 st2 x R ok;exact ⟨vs,s,by rw [jz,r.length]; exact O9 _⟩
 ·obtain ⟨vs,s,r⟩:=h H2 ρ2 st2 x R ok;rw [jz,r.length] at hi;exact ⟨vs,vs[i],s,O2 hi⟩
 ·obtain ⟨vs,s,r⟩:=h H2 ρ2 st2 x R ok;obtain ⟨q,u,hn,rfl,rfl,hv⟩:=hy;have e1:=hv vs s;obtain ⟨xp,rfl,p1⟩:=Q4m hp;have sm:Same H2 (upd H2 q (.tup [.int i,u])):=Q6k hn;exact ⟨sm,q,[.int i,u],rfl,Jb,R.fresh hn,RepL.cons (by rw [Nat.zero_add]; rfl) (RepL.cons ((r.i p1 e1).ext (Ext.same sm)) RepL.nil)⟩
theorem Q9y {elts:List aH} {kt:Nat} {tp:Pos} (hg:Gl X "enumerate") (hm:X.mg "enumerate" = none) (ha:SimA X E [a] mr) (hs:aO [a] X.env=[(false,aN a X.env)]:=by rfl) :
  SimI X E (.Tuple elts kt tp) (.Call (.Name "enumerate" p) [a] [] pos) (Q7d mr):=⟨fun Γ σ H ρ st P R' R G h k=>by
 have hb:Acc X.mg E H ρ _ (mr Γ st):=Acc.bind h;have main:∀ t1:Bool,(∀ p st1,mr Γ st=.ok [p] st1->(t1=true <-> ∃ ys,p=.tup ys))->WI X (.Tuple elts kt tp) (.Call (.Name "enumerate" p) [a] [] pos) σ H R':=fun t1 ht=>by
  refine WI.of (Qgt t1 hg hm Q0s hs) (ha.use' R G hb fun ps st1 H1 ρ1 vs eq x1 R1 G1 r1 h1=>?_)
  split at h1
  ·rename_i p'
   split at h1
   ·rename_i xs w e1
    split at h1
    ·rename_i hl;obtain ⟨v,rfl,rv⟩:=Y8 r1;obtain ⟨ok1,b1,a1,rfl,z1,z1',sq1⟩:=Q1z (K:=X.K) R1 rv e1;have g1:=ht _ _ eq;have eb1:b1=t1:=by
      cases b1 with
      | true=>exact (g1.mpr (z1 rfl)).symm
      | false=>
       cases t1 with
       | false=>rfl
       | true=>obtain ⟨ys,e⟩:=g1.mp rfl; exact absurd e (z1' rfl ys)
     subst eb1;obtain ⟨vs1,s1,_⟩:=sq1 H1 ρ1 st1 (Ext.refl _ _) R1 ok1;refine ⟨a1,vs1,rfl,s1,k (X1 0 xs,w) st1 H1 ρ1 _ (by simp only [Q7d,eq,Res.bind,e1,bS hl]) x1 R1 G1 ok1 ?_ (Qd0 sq1) (h1 H1 ρ1 (Ext.refl _ _) R1)⟩;show (X1 0 xs).length<=sizeLine;rw [jz];exact Vc hl
    ·exact h1.elim
   ·exact h1.elim
  ·exact h1.elim
 have tt:∀ p:PV,∃ t:Bool,t=true <-> ∃ ys,p=.tup ys:=fun p=>by
  cases p with
  | tup ys=>exact ⟨true,fun _=>⟨ys,rfl⟩,fun _=>rfl⟩
  | _=>exact ⟨false,⟨fun z=>(by cases z),fun ⟨_,z⟩=>(by cases z)⟩⟩
 by_cases hz:∃ p st1,mr Γ st=.ok [p] st1
 ·obtain ⟨p0,st0,e0⟩:=hz;obtain ⟨t1,g1⟩:=tt p0;refine main t1 fun p st1 e=>?_
  rw [e0] at e; cases e;exact g1
 ·exact main true fun p st1 e=>absurd ⟨p,st1,e⟩ hz⟩
end
section
abbrev ML:=Gam->Q3->Res (List PV)
structure SimN (X:Cx) (E:XK) (e:aH) (m:ML):Prop where
 run:∀ (Γ:Gam) (σ:St) (H:Hp) (ρ:Tk) (st:Q3) (P:List PV->Q3->Hp->Tk->Prop) (Q:VK),Rel H ρ st->EnvR H ρ Γ σ->Acc X.mg E H ρ P (m Γ st) ->
  (∀ ps st1 H1 ρ1 a vs,m Γ st=.ok ps st1->Ext H ρ H1 ρ1->Rel H1 ρ1 st1->a∈ρ1.hid->H a=none->H1 a=some (.lst vs)->RepL H1 ρ1 ps vs->Q (.ref a) H1)->WE X e σ H Q
def Vs (m:ML):ME:=fun Γ st=>(m Γ st).bind fun ps st1=>.ok (.lst ps) st1
def qq (m:ML):ME:=fun Γ st=>(m Γ st).bind fun ps st1=>.ok (.ref st1.length) (st1 ++ [.lst ps])
section
variable {H0 H:Hp} {ρ0 ρ:Tk} {st:Q3} {a:aB} {ps:List PV} {vs:List V}
theorem Qa4 (R0:Rel H0 ρ0 st) (x:Ext H0 ρ0 H ρ) {st1:Q3} (R:Rel H ρ st1) (hm:a∈ρ.hid) (hn:H0 a=none) (ha:H a=some (.lst vs)) (r:RepL H ρ ps vs) :
  Ext H0 ρ0 H ⟨ρ.tr,ρ0.hid⟩/\Rel H ⟨ρ.tr,ρ0.hid⟩ st1/\Rep H ⟨ρ.tr,ρ0.hid⟩ (.lst ps) (.ref a):=
 ⟨x.unhide,R.unhide x.hidM,a,vs,rfl,ha,(fun z=>by
  rcases z with z | z
  ·exact R.ap a hm z
  ·obtain ⟨o,e,_⟩:=R0.hd a z;rw [hn] at e; cases e),r.unhide x.hidM⟩
mutual
theorem Rep.trk {b:aB} {hs:List aB} (hb:b∈ρ.hid) (hh:∀ c,c∈hs->c∈ρ.hid):∀ {p:PV} {v:V},Rep H ρ p v->Rep H ⟨ρ.tr ++ [b],hs⟩ p v
 | .non,_,r=>r
 | .bl _,_,r=>r
 | .int _,_,r=>r
 | .str _,_,r=>r
 | .tup ps,v,⟨c,vs,e,s,n,r⟩=>⟨c,vs,e,s,fun z=>by
   rcases z with z | z
   ·rcases E3.mp z with z | z
    ·exact n (.inl z)
    ·have:c=b:=by simpa using z
     subst this; exact n (.inr hb)
   ·exact n (.inr (hh _ z)),RepL.trk hb hh r⟩
 | .lst ps,v,⟨c,vs,e,s,n,r⟩=>⟨c,vs,e,s,fun z=>by
   rcases z with z | z
   ·rcases E3.mp z with z | z
    ·exact n (.inl z)
    ·have:c=b:=by simpa using z
     subst this; exact n (.inr hb)
   ·exact n (.inr (hh _ z)),RepL.trk hb hh r⟩
 | .fro ps,v,⟨c,vs,e,s,n,r⟩=>⟨c,vs,e,s,fun z=>by
   rcases z with z | z
   ·rcases E3.mp z with z | z
    ·exact n (.inl z)
    ·have:c=b:=by simpa using z
     subst this; exact n (.inr hb)
   ·exact n (.inr (hh _ z)),RepL.trk hb hh r⟩
 | .ref i,v,⟨c,e,e2⟩=>⟨c,by show (ρ.tr ++ [b])[i]?=some c; rw [O5 (O0.mp e).1]; exact e,e2⟩
 | .dic,v,⟨c,e,s,n⟩=>⟨c,e,s,fun z=>by
   rcases z with z | z
   ·rcases E3.mp z with z | z
    ·exact n (.inl z)
    ·have:c=b:=by simpa using z
     subst this; exact n (.inr hb)
   ·exact n (.inr (hh _ z))⟩
theorem RepL.trk {b:aB} {hs:List aB} (hb:b∈ρ.hid) (hh:∀ c,c∈hs->c∈ρ.hid):∀ {ps:List PV} {vs:List V},RepL H ρ ps vs->RepL H ⟨ρ.tr ++ [b],hs⟩ ps vs
 | [],_,r=>r
 | p :: ps,_,⟨v,t,e,r1,r2⟩=>⟨v,t,e,Rep.trk hb hh r1,RepL.trk hb hh r2⟩
end
theorem Qh3 (R0:Rel H0 ρ0 st) (x:Ext H0 ρ0 H ρ) {st1:Q3} (R:Rel H ρ st1) (hm:a∈ρ.hid) (hn:H0 a=none) (ha:H a=some (.lst vs)) (r:RepL H ρ ps vs) :
  Ext H0 ρ0 H ⟨ρ.tr ++ [a],ρ0.hid⟩/\Rel H ⟨ρ.tr ++ [a],ρ0.hid⟩ (st1 ++ [.lst ps])/\Rep H ⟨ρ.tr ++ [a],ρ0.hid⟩ (.ref st1.length) (.ref a):=by
 have na0:a∉ρ0.hid:=fun z=>by
  obtain ⟨o,e,_⟩:=R0.hd a z;rw [hn] at e; cases e
 refine ⟨⟨x.pre.trans (List.prefix_append _ _),fun _ h=>h,fun _ h=>.inl h,x.keep,fun b hb=>?_,x.old,x.frz⟩,⟨?_,?_,fun b hb=>R.hd b (x.hidM b hb),fun b hb z=>?_,fun i b c h1 h2=>?_⟩,a,?_,rfl⟩
 ·rcases E3.mp hb with z | z
  ·exact x.new b z
  ·have:b=a:=by simpa using z
   subst this; exact .inr hn
 ·show (ρ.tr ++ [a]).length=_;rw [D0,D0,R.len]; rfl
 ·show (ρ.tr ++ [a]).Nodup;refine List.nodup_append.mpr ⟨R.nd,by simp,fun b hb c hc e=>?_⟩;have:c=a:=by simpa using hc
  subst this; subst e;exact R.ap b hm hb
 ·rcases E3.mp z with z | z
  ·exact R.ap b (x.hidM b hb) z
  ·have:b=a:=by simpa using z
   subst this; exact na0 hb
 ·have h1:(ρ.tr ++ [a])[i]?=some b:=h1
  by_cases hi:i < st1.length
  ·rw [O5 (by rw [R.len]; exact hi)] at h1;rw [O5 hi] at h2;have q:=R.cell i b c h1 h2;cases c with
   | lst qs=>
    obtain ⟨us,e1,e2⟩:=q;exact ⟨us,e1,e2.trk hm x.hidM⟩
   | dic qs=>
    obtain ⟨us,e1,e2⟩:=q;exact ⟨us,e1,e2.1,e2.2.trk hm x.hidM⟩
   | dtp qs=>
    obtain ⟨us,e1,e2⟩:=q;exact ⟨us,e1,e2.1,e2.2.trk hm x.hidM⟩
   | frd qs=>
    obtain ⟨us,e1,e2⟩:=q;exact ⟨us,e1,e2.1,e2.2.trk hm x.hidM⟩
   | obj C qs=>
    obtain ⟨us,e1,e2⟩:=q;exact ⟨us,e1,e2.1,e2.2.trk hm x.hidM⟩
  ·rw [D5 (by rw [R.len]; omega)] at h1;rw [D5 (by omega)] at h2;have e0:i - st1.length=0:=by
    rcases Nat.eq_zero_or_pos (i - st1.length) with z | z
    ·exact z
    ·rw [List.getElem?_eq_none (by simp; omega)] at h2; cases h2
   rw [R.len,e0] at h1;rw [e0] at h2;simp at h1 h2;subst h1; subst h2;exact ⟨vs,ha,r.trk hm x.hidM⟩
 ·show (ρ.tr ++ [a])[st1.length]?=some a;rw [<- R.len,D5 (O9 _),Nat.sub_self]; rfl
end
section
variable {X:Cx} {E:XK} {pos:Pos} {e:aH} {m:ML}
theorem W0 (h:SimN X E e m):SimE X E e (Vs m):=⟨fun Γ σ H ρ st Q R G hq=>h.run Γ σ H ρ st _ Q R G hq.bind fun ps st1 H1 ρ1 a vs eq x R1 hm hn ha r=>by
 obtain ⟨x2,R2,r2⟩:=Qa4 R x R1 hm hn ha r;unfold Vs at hq;rw [eq] at hq;exact hq _ _ x2 R2 _ r2⟩
theorem Xy (h:SimN X E e m):SimE X E e (qq m):=⟨fun Γ σ H ρ st Q R G hq=>h.run Γ σ H ρ st _ Q R G hq.bind fun ps st1 H1 ρ1 a vs eq x R1 hm hn ha r=>by
 obtain ⟨x2,R2,r2⟩:=Qh3 R x R1 hm hn ha r;unfold qq at hq;rw [eq] at hq;exact hq _ _ x2 R2 _ r2⟩
variable {es:List aH} {mr:Gam->Q3->Res (List PV)} {a b:aH} {ma mb:ME}
theorem Q5j {H1:Hp} {ρ1:Tk} {st1:Q3} {H:Hp} {ρ:Tk} {Q:VK} {ps:List PV} {vs:List V} (x:Ext H ρ H1 ρ1) (R1:Rel H1 ρ1 st1) (r:RepL H1 ρ1 ps vs)
  (k:∀ H1 ρ1 a vs,Ext H ρ H1 ρ1->Rel H1 ρ1 st1->a∈ρ1.hid->H a=none->H1 a=some (.lst vs)->RepL H1 ρ1 ps vs->Q (.ref a) H1):∀ p,H1 p=none->Q (.ref p) (upd H1 p (.lst vs)):=fun p hp=>by
 refine k _ (ρ1.hide p) p vs (x.trans (Ext.hide hp)) (R1.hide hp) D9 ?_ Jb (r.hide hp);cases e:H p with
 | none=>rfl
 | some o=>
  obtain ⟨o',e'⟩:=x.old p o e;rw [hp] at e'; cases e'
def ze (mr:Gam->Q3->Res (List PV)):ML:=fun Γ st=>(mr Γ st).bind fun ps st1=>if ps.length<=lim then .ok ps st1 else .stuck
theorem Q21 (h:SimA X E es mr):SimN X E (.List es pos) (ze mr):=
 ⟨fun Γ σ H ρ st P Q R G hq k=>WE.of (Qdv Q0s) (h.use' R G hq.bind fun ps st1 H1 ρ1 vs eq x1 R1 G1 r1 h1=>by
  by_cases hl:ps.length<=lim
  ·refine ⟨by rw [<- r1.length]; exact Vc hl,Q5j x1 R1 r1 fun H2 ρ2 a us=>k ps st1 H2 ρ2 a us ?_⟩;unfold ze;rw [eq];exact bS hl
  ·rw [bT hl] at h1; exact h1.elim)⟩
def Kw (ma:ME):ML:=fun Γ st=>(ma Γ st).bind fun p st1=>match Wx st1 p with
 | some xs=>.ok xs st1
 | none=>.stuck
theorem Q19 {p:Pos} (ha:SimE X E a ma) (hg:Gl X "list") (hm:X.mg "list" = none) (he:aO [a] X.env=(false,aN a X.env) :: aO [] X.env:=by rfl):SimN X E (.Call (.Name "list" p) [a] [] pos) (Kw ma):=
 ⟨fun Γ σ H ρ st P Q R G hq k=>WE.of (Q02 xm hg hm Km (jw Zj Q2h he) (by decide) (by decide) he rfl) (ha.use' R G hq.bind fun q st1 H1 ρ1 v eq x1 R1 G1 r1 h1=>by
  split at h1
  ·rename_i xs e;obtain ⟨t,b,vs,rfl,hq2,ra⟩:=qr (K:=X.K) R1 r1 e;refine ⟨b,vs,rfl,Q8k hq2,Q5j x1 R1 ra fun H2 ρ2 a us=>k xs st1 H2 ρ2 a us ?_⟩;unfold Kw;rw [eq];show (match Wx st1 q with | some xs=>Res.ok xs st1 | none=>.stuck)=_;rw [e]
  ·exact h1.elim)⟩
def Q49 (st:Q3) (p q:PV):Res (List PV):=match Up st p,Up st q with
 | some xs,some ys=>if xs.length + ys.length<=lim then .ok (xs ++ ys) st else .stuck
 | _,_=>.stuck
def Q7e (ma mb:ME):ML:=fun Γ st=>(ma Γ st).bind fun x st1=>(mb Γ st1).bind fun y st2=>Q49 st2 x y
theorem Qiu (ha:SimE X E a ma) (hb:SimE X E b mb):SimN X E (.BinOp a .Add b pos) (Q7e ma mb):=
 ⟨fun Γ σ H ρ st P Q R G hq k=>WE.of (Qic Qe6 Zj Zj) (ha.use' R G hq.bind fun p st1 H1 ρ1 v e1 x1 R1 G1 r1 h1=>hb.use' R1 G1 h1.bind fun q st2 H2 ρ2 u e2 x2 R2 G2 r2 h2=>by
  unfold Q49 at h2
  split at h2
  ·rename_i xs ys f1 f2
   split at h2
   ·rename_i hl;obtain ⟨c,vs,rfl,hc,rc⟩:=zw R2 (r1.ext x2) f1;obtain ⟨d,us,rfl,hd,rd⟩:=zw R2 r2 f2;refine ⟨c,d,vs,us,rfl,rfl,hc,hd,by rw [<- rc.length,<- rd.length]; exact Vc hl,Q5j (x1.trans x2) R2 (rc.append rd) fun H3 ρ3 a ws=>k (xs ++ ys) st2 H3 ρ3 a ws ?_⟩;unfold Q7e Q49;rw [e1];show (mb Γ st1).bind _=_;rw [e2];show (match Up st2 p,Up st2 q with | some xs,some ys=>if xs.length + ys.length<=lim then Res.ok (xs ++ ys) st2 else .stuck | _,_=>.stuck)=_
    rw [f1,f2];exact bS hl
   ·exact h2.elim
  ·exact h2.elim)⟩
end
end
def Zk (cap:List (Option Nat)) (Γ:Gam):Gam:=cap.map fun c=>c.bind fun j=>(Γ[j]?).join
theorem EnvR.cap {H:Hp} {ρ:Tk} {Γ:Gam} {σ:St} (h:EnvR H ρ Γ σ) (cap:List (Option Nat)):EnvR H ρ (Zk cap Γ) (xk cap σ):=by
 refine ⟨by unfold Zk xk; rw [O3,O3],fun i p e=>?_⟩;unfold Zk at e;unfold xk;rw [D6] at e ⊢;cases q:cap[i]? with
 | none=>rw [q] at e; cases e
 | some c=>
  rw [q] at e;cases c with
  | none=>cases e
  | some j=>
   have e':(Γ[j]?).join=some p:=Option.some.inj e;cases r:Γ[j]? with
   | none=>rw [r] at e'; cases e'
   | some o=>
    rw [r] at e';have:o=some p:=e';subst this;obtain ⟨v,e1,e2⟩:=h.2 j p r;exact ⟨v,by show some ((σ[j]?).join)=some (some v); rw [e1]; rfl,e2⟩
def Q4z (cap:List (Option Nat)) (ga:GA):Prop:=∀ Γ p Γ1,ga p (Zk cap Γ)=some Γ1->Γ1.length=(Zk cap Γ).length/\∀ (i:Nat) (q:PV),(Zk cap Γ)[i]?=some (some q)->Γ1[i]?=some (some q)
theorem Q4r {cap:List (Option Nat)} {i:Nat} (h:cap[i]?=some none) (Γ:Gam):(Zk cap Γ)[i]?=some none:=by
 unfold Zk;rw [D6,h]; rfl
theorem Jd {cap:List (Option Nat)} {i:Nat} (h:cap[i]?=some none:=by rfl):Q4z cap (Q6 i):=fun Γ p Γ1 e=>by
 cases e;refine ⟨F9 ..,fun j q hj=>?_⟩;rw [D8 fun z=>?_]
 ·exact hj
 ·subst z; rw [Q4r h] at hj; cases hj
def Qap (cap:List (Option Nat)) (ga:GAs):Prop:=∀ Γ ps Γ0 Γ1,(∀ (i:Nat) (q:PV),(Zk cap Γ)[i]?=some (some q)->Γ0[i]?=some (some q))->ga ps Γ0=some Γ1->Γ1.length=Γ0.length/\∀ (i:Nat) (q:PV),(Zk cap Γ)[i]?=some (some q)->Γ1[i]?=some (some q)
theorem Q33 {cap:List (Option Nat)}:Qap cap Jp:=fun Γ ps Γ0 Γ1 h e=>by
 cases ps with
 | nil=>cases e; exact ⟨rfl,h⟩
 | cons _ _=>cases e
theorem X8 {cap:List (Option Nat)} {i:Nat} {gs:GAs} (hs:Qap cap gs) (h:cap[i]?=some none:=by rfl):Qap cap (Qb (Q6 i) gs):=fun Γ ps Γ0 Γ1 h0 e=>by
 cases ps with
 | nil=>cases e
 | cons p ps=>
  obtain ⟨a,b⟩:=hs Γ ps (Γ0.set i (some p)) Γ1 (fun k r hk=>by
   rw [D8 fun z=>?_]
   ·exact h0 k r hk
   ·subst z; rw [Q4r h] at hk; cases hk) e
  exact ⟨by rw [a,F9],b⟩
theorem Q32 {cap:List (Option Nat)} {gs:GAs} (hs:Qap cap gs):Q4z cap (Jn gs):=fun Γ p Γ1 e=>by
 cases p with
 | tup ps=>exact hs Γ ps _ Γ1 (fun _ _ h=>h) e
 | _=>cases e
open Classical in
def Jc (ga:GA) (mt:MT) (me:ME) (w:Wt) (Γ0:Gam):List PV->Q3->Res (List PV)
 | [],st=>if wOk w st then .ok [] st else .stuck
 | x :: xs,st=>if wOk w st then (match ga x Γ0 with
  | none=>.stuck
  | some Γ1=>(mt Γ1 st).bind fun b st1=>if b=true then (me Γ1 st1).bind fun y st2=>(Jc ga mt me w Γ0 xs st2).bind fun ys st3=>.ok (y :: ys) st3 else Jc ga mt me w Γ0 xs st1) else .stuck
def noX {α:Type}:Res α->Res α
 | .exc _ _=>.stuck
 | r=>r
def Z9 (cap:List (Option Nat)) (ga:GA) (mi:MI) (mt:MT) (me:ME):ML:=fun Γ st=>(mi Γ st).bind fun iw st1=>noX (Jc ga mt me iw.2 (Zk cap Γ) iw.1 st1)
structure SimTs (X:Cx) (ifs:List aH) (m:MT):Prop where
 run:∀ (Γ:Gam) (σ:St) (H:Hp) (ρ:Tk) (st:Q3) (P:Bool->Q3->Hp->Tk->Prop) (Q:Bool->Hp->Prop),Rel H ρ st->EnvR H ρ Γ σ->Acc X.mg E0 H ρ P (m Γ st) ->
  (∀ b st1 H1 ρ1,m Γ st=.ok b st1->Ext H ρ H1 ρ1->Rel H1 ρ1 st1->EnvR H1 ρ1 Γ σ->Q b H1)->∃ t,PTs X ifs t/\t σ H Q
def Ya:MT:=fun _ st=>.ok true st
theorem V2 {X:Cx}:SimTs X [] Ya:=⟨fun Γ σ H ρ st P Q R G h k=>⟨_,Qgf,k true st H ρ rfl (Ext.refl _ _) R G⟩⟩
theorem X3 {X:Cx} {c:aH} {m:MT} (hc:SimT X E0 c m):SimTs X [c] m:=⟨fun Γ σ H ρ st P Q R G h k=>⟨_,Qge Q6u,hc.use' R G h fun b st1 H1 ρ1 e x1 R1 G1 p=>k b st1 H1 ρ1 e x1 R1 G1⟩⟩
theorem Qi3 {α:Type} {mg:Str->Option aA} {E E':XK} {H:Hp} {ρ:Tk} {P:α->Q3->Hp->Tk->Prop} {r:Res α} (h:Acc mg E H ρ P (noX r)):Acc mg E' H ρ P r:=by
 cases r with
 | ok a st=>exact h
 | exc x st=>exact h.elim
 | stuck=>exact h
theorem Res.assoc {α β γ:Type} (r:Res α) (f:α->Q3->Res β) (g:β->Q3->Res γ):(r.bind f).bind g=r.bind fun a st=>(f a st).bind g:=by cases r <;> rfl
theorem Acc.assoc {α β γ:Type} {mg:Str->Option aA} {E:XK} {H:Hp} {ρ:Tk} {P:γ->Q3->Hp->Tk->Prop} {r:Res α} {f:α->Q3->Res β} {g:β->Q3->Res γ} (h:Acc mg E H ρ P ((r.bind f).bind g)):Acc mg E H ρ P (r.bind fun a st=>(f a st).bind g):=by
 rw [<- Res.assoc]; exact h
theorem EnvR.le {H:Hp} {ρ:Tk} {Γ Γ':Gam} {σ:St} (h:EnvR H ρ Γ' σ) (hl:Γ.length=σ.length) (k:∀ (i:Nat) (q:PV),Γ[i]?=some (some q)->Γ'[i]?=some (some q)):EnvR H ρ Γ σ:=⟨hl,fun i p e=>h.2 i p (k i p e)⟩
section
variable {X:Cx} {E:XK} {pos:Pos} {tg iter elt:aH} {ifs:List aH} {N N':List Str} {sc scE:Scope} {cap:List (Option Nat)} {ga:GA} {mi:MI} {mt:MT} {me:ME}
def aE (X:Cx) (N':List Str) (sc:Scope) (e:aH):TE:=fun σ H Q=>∀ cl C s0 H0 ex,WE (Vd X N' sc cl C s0 H0 ex) e σ H Q
def aG (X:Cx) (N':List Str) (sc:Scope) (tg:aH):TG:=fun v σ H Q=>∀ cl C s0 H0 ex,WGx (Vd X N' sc cl C s0 H0 ex) tg v σ H Q
def aT (X:Cx) (N':List Str) (sc:Scope) (ifs:List aH):TT:=fun σ H Q=>∀ cl C s0 H0 ex,∃ t,PTs (Vd X N' sc cl C s0 H0 ex) ifs t/\t σ H Q
theorem Qc5 {Γ:Gam} {σ:St} {H1:Hp} {ρ1:Tk} {st1:Q3} {J:It} {items:List PV} {w:Wt} {Q:VK} {P:List PV->Q3->Hp->Tk->Prop} (hg:∀ cl C s0 H0 ex,SimG (Vd X N' sc cl C s0 H0 ex) tg ga) (he:∀ cl C s0 H0 ex,SimE (Vd X N' sc cl C s0 H0 ex) E0 elt me) (ht:∀ cl C s0 H0 ex,SimTs (Vd X N' sc cl C s0 H0 ex) ifs mt)
  (hf:Q4z cap ga) (R1:Rel H1 ρ1 st1) (G1:EnvR H1 ρ1 Γ σ) (src:Src J items w H1 ρ1) (hlen:items.length<=sizeLine) (h:Acc X.mg E0 H1 ρ1 P (Jc ga mt me w (Zk cap Γ) items st1))
  (k:∀ ys st2 H2 ρ2 acc vs,Jc ga mt me w (Zk cap Γ) items st1=.ok ys st2->Ext H1 ρ1 H2 ρ2->Rel H2 ρ2 st2->acc∈ρ2.hid->H1 acc=none->H2 acc=some (.lst vs)->RepL H2 ρ2 ys vs->Q (.ref acc) H2):Q4p J cap (aG X N' sc tg) (aT X N' sc ifs) (aE X N' sc elt) σ H1 Q:=by
 intro acc hacc;let W:Nat->Nat->List V->St->Hp->Prop:=fun i m vs σ' H'=>m=items.length - i/\i<=items.length/\vs.length<=i/\∃ ρ' st' ys,Ext H1 ρ1 H' ρ'/\acc∈ρ'.hid/\Rel H' ρ' st'/\EnvR H' ρ' (Zk cap Γ) σ'/\H' acc=some (.lst vs)/\RepL H' ρ' ys vs /\
  Jc ga mt me w (Zk cap Γ) items st1=(Jc ga mt me w (Zk cap Γ) (items.drop i) st').bind fun zs st3=>.ok (ys ++ zs) st3
 refine ⟨W,⟨_,rfl,Nat.zero_le _,O9 _,ρ1.hide acc,st1,[],Ext.hide hacc,D9,R1.hide hacc,(G1.cap cap).hide hacc,Jb,rfl,?_⟩,?_⟩
 ·rw [List.drop_zero];cases r:Jc ga mt me w (Zk cap Γ) items st1 with
  | ok zs st3=>rfl
  | exc x st3=>rfl
  | stuck=>rfl
 rintro i m vs σ' H' ⟨hm,hi,hvl,ρ',st',ys,x,hmem,R',G',ha,ry,hq⟩;have hA:Acc X.mg E0 H1 ρ1 P ((Jc ga mt me w (Zk cap Γ) (items.drop i) st').bind fun zs st3=>.ok (ys ++ zs) st3):=by rw [<- hq]; exact h
 refine ⟨ha,?_⟩
 by_cases hlt:i < items.length
 ·right
  have hd:items.drop i=items[i] :: items.drop (i + 1):=List.drop_eq_getElem_cons hlt;rw [hd,Jc] at hA hq
  by_cases hw:wOk w st'
  ·rw [bS hw] at hA hq;refine ⟨src.go H' _ st' x R' hw i hlt,by omega,fun y H2 hy=>?_⟩;obtain ⟨sm,ry2⟩:=src.yld H' _ st' x R' hw i _ (O2 hlt) y H2 hy;cases eg:ga items[i] (Zk cap Γ) with
   | none=>rw [eg] at hA; exact hA.elim
   | some Γ1=>
    rw [eg] at hA hq;have x2:Ext H' ρ' H2 ρ':=Ext.same sm;have R2:=R'.same sm;intro cl C s0 H0 ex;refine (hg cl C s0 H0 ex).run (Zk cap Γ) Γ1 σ' H2 ρ' _ y _ (G'.ext x2) ry2 eg fun σ3 G3=>?_
    intro cl C s0 H0 ex;have hA2:=Acc.later hA (x.trans x2);refine (ht cl C s0 H0 ex).run Γ1 σ3 H2 ρ' st' _ _ R2 G3 (Acc.bind (Acc.assoc hA2)) fun b st4 H4 ρ4 e4 x4 R4 G4=>?_
    simp only [e4,Res.bind] at hA hq;have G0:∀ {H'':Hp} {ρ'':Tk},EnvR H'' ρ'' Γ1 σ3->EnvR H'' ρ'' (Zk cap Γ) σ3:=fun {H'' ρ''} g=>g.le (by
     rw [<- G3.1];exact (hf Γ _ Γ1 eg).1.symm) (hf Γ _ Γ1 eg).2
    have x14:Ext H1 ρ1 H4 ρ4:=x.trans (x2.trans x4);have hm4:acc∈ρ4.hid:=x4.hidM acc hmem;have na:acc∉ρ'.tr:=R'.ap acc hmem;have ha4:H4 acc=some (.lst vs):=x4.keep acc _ (sm acc _ ha) na;have ry4:RepL H4 ρ4 ys vs:=ry.ext (x2.trans x4);cases b with
    | false=>
     rw [bT D2] at hA hq ⊢;exact ⟨_,show items.length - (i + 1) < m by omega,rfl,hlt,by omega,ρ4,st4,ys,x14,hm4,R4,G0 G4,ha4,ry4,hq⟩
    | true=>
     rw [bS rfl] at hA hq ⊢;intro cl C s0 H0 ex;have hA4:=Acc.later hA x14;refine (he cl C s0 H0 ex).use' R4 G4 (Acc.bind (Acc.assoc hA4)) fun z st5 H5 ρ5 zv e5 x5 R5 G5 r5 h5=>?_
     simp only [e5,Res.bind] at hA hq;have hm5:acc∈ρ5.hid:=x5.hidM acc hm4;have ha5:H5 acc=some (.lst vs):=x5.keep acc _ ha4 (R4.ap acc hm4);have x15:Ext H1 ρ1 H5 ρ5:=x14.trans x5;refine ⟨ha5,_,show items.length - (i + 1) < m by omega,rfl,hlt,by rw [D0]; simp; omega,ρ5,st5,ys ++ [z],x15.put0 hacc,hm5,R5.rehide hm5,(G0 G5).rehide hm5,Jb,((ry4.ext x5).append (RepL.cons r5 RepL.nil)).rehide hm5,?_⟩;refine hq.trans ?_;cases rr:Jc ga mt me w (Zk cap Γ) (items.drop (i + 1)) st5 with
     | ok zs st6=>
      show Res.ok (ys ++ z :: zs) st6=Res.ok ((ys ++ [z]) ++ zs) st6;rw [List.append_assoc]; rfl
     | exc x6 st6=>rfl
     | stuck=>rfl
  ·rw [bT hw] at hA; exact hA.elim
 ·left
  have ei:i=items.length:=by omega
  subst ei;rw [List.drop_length,Jc] at hA hq
  by_cases hw:wOk w st'
  ·rw [bS hw] at hA hq;refine ⟨src.stop H' _ st' x R' hw,?_⟩;have hq:Jc ga mt me w (Zk cap Γ) items st1=.ok (ys ++ []) st':=hq;rw [L1] at hq;exact k ys st' H' ρ' acc vs hq x R' hmem hacc ha ry
  ·rw [bT hw] at hA; exact hA.elim
theorem Q83 {Γ:Gam} {σ:St} {H:Hp} {ρ:Tk} {st:Q3} {Q:VK} {P:List PV->Q3->Hp->Tk->Prop} (hi:SimI X E tg iter mi) (hg:∀ cl C s0 H0 ex,SimG (Vd X N' sc cl C s0 H0 ex) tg ga) (he:∀ cl C s0 H0 ex,SimE (Vd X N' sc cl C s0 H0 ex) E0 elt me) (ht:∀ cl C s0 H0 ex,SimTs (Vd X N' sc cl C s0 H0 ex) ifs mt)
  (hf:Q4z cap ga) (R:Rel H ρ st) (G:EnvR H ρ Γ σ) (h:Acc X.mg E H ρ P (Z9 cap ga mi mt me Γ st)) (k:∀ ps st2 H2 ρ2 a vs,Z9 cap ga mi mt me Γ st=.ok ps st2->Ext H ρ H2 ρ2->Rel H2 ρ2 st2->a∈ρ2.hid->H a=none->H2 a=some (.lst vs)->RepL H2 ρ2 ps vs->Q (.ref a) H2):Q52 cap (WI X tg iter) (aG X N' sc tg) (aT X N' sc ifs) (aE X N' sc elt) σ H Q:=by
 refine hi.run Γ σ H ρ st _ _ R G h.bind fun iw st1 H1 ρ1 J eq x1 R1 G1 ok hl src h1=>?_
 refine Qc5 hg he ht hf R1 G1 src hl (Qi3 (E':=E0) h1) fun ys st2 H2 ρ2 acc vs eq2 x2 R2 hm hn ha ry=>?_
 refine k ys st2 H2 ρ2 acc vs ?_ (x1.trans x2) R2 hm ?_ ha ry
 ·unfold Z9;rw [eq];show noX _=_;rw [eq2]; rfl
 cases e:H acc with
 | none=>rfl
 | some o=>
  obtain ⟨o',e'⟩:=x1.old acc o e;rw [hn] at e'; cases e'
theorem Qny {N':List Str} {sc:Scope} {tg:aH}:∀ cl C s0 H0 ex,PG (Vd X N' sc cl C s0 H0 ex) tg (aG X N' sc tg):=fun cl C s0 H0 ex pins s σ H v u Q I r h=>Qgv pins s σ H v u Q I r (h cl C s0 H0 ex)
theorem Qp3 {N':List Str} {sc:Scope} {e:aH}:∀ cl C s0 H0 ex,PE (Vd X N' sc cl C s0 H0 ex) e (aE X N' sc e):=fun cl C s0 H0 ex pins s σ H Q I h=>h cl C s0 H0 ex pins s I
theorem Qia {N':List Str} {sc:Scope} {ifs:List aH}:∀ cl C s0 H0 ex,PTs (Vd X N' sc cl C s0 H0 ex) ifs (aT X N' sc ifs):=fun cl C s0 H0 ex pins s σ H Q I h=>by
 obtain ⟨t,a,b⟩:=h cl C s0 H0 ex;exact a pins s σ H Q I b
theorem Y1 (cap:List (Option Nat)) (N':List Str) (hcalm:X.calm=true) (hi:SimI X E tg iter mi) (hg:∀ cl C s0 H0 ex,SimG (Vd X N' sc cl C s0 H0 ex) tg ga) (he:∀ cl C s0 H0 ex,SimE (Vd X N' sc cl C s0 H0 ex) E0 elt me) (ht:∀ cl C s0 H0 ex,SimTs (Vd X N' sc cl C s0 H0 ex) ifs mt)
  (hf:Q4z cap ga) (hN:X.N=N:=by rfl) (hE:X.env.scope=scE:=by rfl) (hc:compOkC N N' sc scE cap=true:=by kernel_rfl) (hs:∀ x,bG iter X.env x=pure x:=by intro _; rfl) :
  SimN X E (.ListComp elt [⟨tg,iter,ifs,0⟩] sc pos) (Z9 cap ga mi mt me):=
 ⟨fun Γ σ H ρ st P Q R G h k=>WE.of (Qdy hcalm Qj9 Qny Qp3 Qia hN hE hc hs) (Q83 hi hg he ht hf R G h k)⟩
end
inductive SR where
 | nx (Γ:Gam) (st:Q3) | rt (v:PV) (st:Q3) | bk (Γ:Gam) (st:Q3) | ct (Γ:Gam) (st:Q3) | exc (x:Exc) (st:Q3) | stuck
abbrev MS:=Gam->Q3->SR
def Res.sbind {α:Type} (r:Res α) (f:α->Q3->SR):SR:=match r with
 | .ok a st=>f a st
 | .exc x st=>.exc x st
 | .stuck=>.stuck
def AccS (mg:Str->Option aA) (E:XK) (D:Ends) (H:Hp) (ρ:Tk):SR->Prop
 | .nx Γ st=>∀ σ' H' ρ',Ext H ρ H' ρ'->Rel H' ρ' st->EnvR H' ρ' Γ σ'->D.nx σ' H'
 | .bk Γ st=>∀ σ' H' ρ',Ext H ρ H' ρ'->Rel H' ρ' st->EnvR H' ρ' Γ σ'->D.bk σ' H'
 | .ct Γ st=>∀ σ' H' ρ',Ext H ρ H' ρ'->Rel H' ρ' st->EnvR H' ρ' Γ σ'->D.ct σ' H'
 | .rt p st=>∀ v H' ρ',Ext H ρ H' ρ'->Rel H' ρ' st->Rep H' ρ' p v->D.rt v H'
 | .exc x st=>∀ C dv H' ρ',mg x.cls=some (.ref C)->Ext H ρ H' ρ'->Rel H' ρ' st->XFs H' ρ' x.fs dv->E (.ref C) dv H'
 | .stuck=>False
section
variable {α:Type} {mg:Str->Option aA} {E:XK} {D:Ends} {H H1:Hp} {ρ ρ1:Tk}
theorem AccS.later {r:SR} (h:AccS mg E D H ρ r) (x:Ext H ρ H1 ρ1):AccS mg E D H1 ρ1 r:=by
 cases r with
 | nx Γ st=>exact fun σ' H' ρ' x'=>h σ' H' ρ' (x.trans x')
 | bk Γ st=>exact fun σ' H' ρ' x'=>h σ' H' ρ' (x.trans x')
 | ct Γ st=>exact fun σ' H' ρ' x'=>h σ' H' ρ' (x.trans x')
 | rt p st=>exact fun v H' ρ' x'=>h v H' ρ' (x.trans x')
 | exc y st=>exact fun C dv H' ρ' m x'=>h C dv H' ρ' m (x.trans x')
 | stuck=>exact h
theorem AccS.bind {r:Res α} {f:α->Q3->SR} (h:AccS mg E D H ρ (r.sbind f)):Acc mg E H ρ (fun a st1 H1 ρ1=>AccS mg E D H1 ρ1 (f a st1)) r:=by
 cases r with
 | ok a st=>exact fun H' ρ' x' R'=>AccS.later (show AccS mg E D H ρ (f a st) from h) x'
 | exc e st=>exact h
 | stuck=>exact h
end
theorem Res.sassoc {α β:Type} (r:Res α) (f:α->Q3->Res β) (g:β->Q3->SR):(r.bind f).sbind g=r.sbind fun a st=>(f a st).sbind g:=by cases r <;> rfl
theorem AccS.assoc {α β:Type} {mg:Str->Option aA} {E:XK} {D:Ends} {H:Hp} {ρ:Tk} {r:Res α} {f:α->Q3->Res β} {g:β->Q3->SR} (h:AccS mg E D H ρ ((r.bind f).sbind g)):AccS mg E D H ρ (r.sbind fun a st=>(f a st).sbind g):=by
 rw [<- Res.sassoc]; exact h
structure SimS (X:Cx) (E:XK) (s:aP) (m:MS):Prop where
 run:∀ (Γ:Gam) (σ:St) (H:Hp) (ρ:Tk) (st:Q3) (D:Ends),Rel H ρ st->EnvR H ρ Γ σ->AccS X.mg E D H ρ (m Γ st)->WS X s D σ H
structure SimB (X:Cx) (E:XK) (ss:List aP) (m:MS):Prop where
 run:∀ (Γ:Gam) (σ:St) (H:Hp) (ρ:Tk) (st:Q3) (D:Ends),Rel H ρ st->EnvR H ρ Γ σ->AccS X.mg E D H ρ (m Γ st)->WB X ss D σ H
section
variable {X:Cx} {E:XK} {pos:Pos} {e:aH} {m:ME}
def J5:MS:=fun Γ st=>.nx Γ st
def Qd (m1 m2:MS):MS:=fun Γ st=>match m1 Γ st with
 | .nx Γ1 st1=>m2 Γ1 st1
 | r=>r
theorem J8:SimB X E [] J5:=⟨fun Γ σ H ρ st D R G h=>WB.of Qgi (h σ H ρ (Ext.refl _ _) R G)⟩
theorem Q8 {s:aP} {rest:List aP} {m1 m2:MS} (h1:SimS X E s m1) (h2:SimB X E rest m2):SimB X E (s :: rest) (Qd m1 m2):=
 ⟨fun Γ σ H ρ st D R G h=>WB.of (Qdj Qnv Q43) (h1.run Γ σ H ρ st _ R G (by
  unfold Qd at h;cases r:m1 Γ st with
  | nx Γ1 st1=>rw [r] at h; exact fun σ' H' ρ' x' R' G'=>h2.run Γ1 σ' H' ρ' st1 D R' G' (AccS.later h x')
  | bk Γ1 st1=>rw [r] at h; exact h
  | ct Γ1 st1=>rw [r] at h; exact h
  | rt p st1=>rw [r] at h; exact h
  | exc x st1=>rw [r] at h; exact h
  | stuck=>rw [r] at h; exact h))⟩
theorem Qh {s:aP} {m1:MS} (h1:SimS X E s m1):SimB X E [s] m1:=⟨fun Γ σ H ρ st D R G h=>WB.of (Qgh Qnv) (h1.run Γ σ H ρ st D R G h)⟩
def Q5n:MS:=fun Γ st=>.bk Γ st
theorem Qcz:SimS X E (.Break pos) Q5n:=⟨fun Γ σ H ρ st D R G h=>WS.of Qdm (h σ H ρ (Ext.refl _ _) R G)⟩
def Ke (m:ME):MS:=fun Γ st=>(m Γ st).sbind fun _ st1=>.nx Γ st1
theorem jp (he:SimE X E e m) (hs:swapsWith e none pos.line X.env=pure false:=by rfl):SimS X E (.Expr e pos) (Ke m):=
 ⟨fun Γ σ H ρ st D R G h=>WS.of (Qgj Zj hs) (he.use R G h.bind fun p st1 H1 ρ1 v x1 R1 G1 r1 h1=>h1 σ H1 ρ1 (Ext.refl _ _) R1 G1)⟩
def Jm (m:ME):MS:=fun Γ st=>(m Γ st).sbind fun p st1=>.rt p st1
theorem Qw (he:SimE X E e m):SimS X E (.Return (some e) pos) (Jm m):=
 ⟨fun Γ σ H ρ st D R G h=>WS.of (Qj6 Zj) (he.use R G h.bind fun p st1 H1 ρ1 v x1 R1 G1 r1 h1=>h1 v H1 ρ1 (Ext.refl _ _) R1 r1)⟩
def Qy (i:Nat) (m:ME):MS:=fun Γ st=>(m Γ st).sbind fun p st1=>.nx (Γ.set i (some p)) st1
theorem Qk (i:Nat) {x:Str} {pos':Pos} (hN:X.N.Nodup) (he:SimE X E e m) (hi:X.N[i]?=some x:=by rfl) (hx:Loc X.env.scope x:=by first | exact Or.inl rfl | exact Or.inr rfl) (hs:swapsWith e (some (.Name x pos')) pos.line X.env=pure false:=by rfl) (hf:X.fn x=true\/X.env.scope.names.lookup x=some .local:=by first | exact .inl rfl | exact .inr rfl) :
  SimS X E (.Assign [.Name x pos'] e pos) (Qy i m):=
 ⟨fun Γ σ H ρ st D R G h=>WS.of (Qj5 hN hi hx Zj hs hf) (he.use R G h.bind fun p st1 H1 ρ1 v x1 R1 G1 r1 h1=>h1 _ H1 ρ1 (Ext.refl _ _) R1 (G1.set r1 i))⟩
section
variable {tg iter elt:aH} {ifs:List aH} {N N':List Str} {sc scE:Scope} {ga:GA} {mi:MI} {mt:MT} {me:ME}
theorem Q1y (cap:List (Option Nat)) (N':List Str) (i:Nat) {x:Str} {px cpos:Pos} (hnd:X.N.Nodup) (hcalm:X.calm=true) (hi:SimI X E tg iter mi) (hg:∀ cl C s0 H0 ex,SimG (Vd X N' sc cl C s0 H0 ex) tg ga) (he:∀ cl C s0 H0 ex,SimE (Vd X N' sc cl C s0 H0 ex) E0 elt me) (ht:∀ cl C s0 H0 ex,SimTs (Vd X N' sc cl C s0 H0 ex) ifs mt)
  (hf:Q4z cap ga) (hix:X.N[i]?=some x:=by rfl) (hx:Loc X.env.scope x:=by first | exact Or.inl rfl | exact Or.inr rfl) (hsw:swapsWith (.ListComp elt [⟨tg,iter,ifs,0⟩] sc cpos) (some (.Name x px)) pos.line X.env=pure true:=by rfl)
  (hN:X.N=N:=by rfl) (hE:X.env.scope=scE:=by rfl) (hc:compOkC N N' sc scE cap=true:=by kernel_rfl) (hs:∀ x,bG iter X.env x=pure x:=by intro _; rfl) (hfn:X.fn x=true\/X.env.scope.names.lookup x=some .local:=by first | exact .inl rfl | exact .inr rfl) :
  SimS X E (.Assign [.Name x px] (.ListComp elt [⟨tg,iter,ifs,0⟩] sc cpos) pos) (Qy i (Vs (Z9 cap ga mi mt me))):=
 ⟨fun Γ σ H ρ st D R G h=>WS.of (Qdk hnd hix hx hcalm Qj9 Qny Qp3 Qia hsw hN hE hc hs hfn) (Q83 hi hg he ht hf R G (AccS.bind (by unfold Qy Vs at h; exact AccS.assoc h)) fun ps st1 H1 ρ1 a vs eq x R1 hm hn ha r=>by
  obtain ⟨x2,R2,r2⟩:=Qa4 R x R1 hm hn ha r;simp only [Qy,Vs,eq,Res.bind,Res.sbind] at h;exact h _ _ _ x2 R2 ((G.ext x2).set r2 i))⟩
end
def Qei (ga:GA) (m:ME):MS:=fun Γ st=>(m Γ st).sbind fun p st1=>match ga p Γ with
 | some Γ1=>.nx Γ1 st1
 | none=>.stuck
theorem Qis {tg:aH} {ga:GA} (he:SimE X E e m) (hg:SimG X tg ga) (hs:swapsWithSole [tg] e pos.line X.env=pure false:=by rfl) (hw:swappedStores [tg] e X.env=pure none:=by rfl) (h1:(au [tg] X.env).map (·.2)=[assign tg X.env]:=by rfl):SimS X E (.Assign [tg] e pos) (Qei ga m):=
 ⟨fun Γ σ H ρ st D R G h=>WS.of (Qdn Zj Qgv hs hw h1) (he.use R G h.bind fun p st1 H1 ρ1 v x1 R1 G1 r1 h1=>by
  cases eg:ga p Γ with
  | none=>rw [eg] at h1; exact h1.elim
  | some Γ1=>
   rw [eg] at h1;exact hg.run Γ Γ1 σ H1 ρ1 p v _ G1 r1 eg fun σ' G'=>h1 σ' H1 ρ1 (Ext.refl _ _) R1 G')⟩
def Uj (st:Q3) (o i p:PV):Option Q3:=match o,i with
 | .ref k,.int j=>match st[k]? with
  | some (.lst xs)=>(ixN xs.length j).map fun n=>st.set k (.lst (xs.set n p))
  | _=>none
 | _,_=>none
def Vb (mo mi m:ME):MS:=fun Γ st=>(m Γ st).sbind fun p st1=>(mo Γ st1).sbind fun o st2=>(mi Γ st2).sbind fun i st3=>match Uj st3 o i p with
 | some st4=>.nx Γ st4
 | none=>.stuck
theorem Q9z {H:Hp} {ρ:Tk} {st st':Q3} {o i p:PV} {x y z:V} (R:Rel H ρ st) (ro:Rep H ρ o x) (ri:Rep H ρ i y) (rp:Rep H ρ p z) (e:Uj st o i p=some st') :
  ∃ a vs k j,x=.ref a/\y=.int k/\H a=some (.lst vs)/\ixN vs.length k=some j/\Ext H ρ (upd H a (.lst (vs.set j z))) ρ/\Rel (upd H a (.lst (vs.set j z))) ρ st':=by
 unfold Uj at e
 split at e
 ·rename_i k j
  split at e
  ·rename_i xs hs;cases ej:ixN xs.length j with
   | none=>rw [ej] at e; cases e
   | some n=>
    rw [ej] at e;have e:st.set k (.lst (xs.set n p))=st':=Option.some.inj e;subst e;obtain ⟨a,ea,rfl⟩:=ro;cases ri;obtain ⟨b,vs,f1,f2,f3⟩:=R.lst hs;rw [ea] at f1; cases f1;exact ⟨a,vs,j,n,rfl,rfl,f2,by rw [<- f3.length]; exact ej,Ext.put (E2 ea) f2,R.put ea f2 (f3.set rp n)⟩
  ·cases e
 ·cases e
theorem zn {o i:aH} {mo mi:ME} {tpos:Pos} (he:SimE X E e m) (ho:SimE X E o mo) (hi:SimE X E i mi)
  (ha:∀ v,assign (.Subscript o i tpos) X.env v=(do
   let ov <- ai [v] (aN o X.env)
   let iv <- ai [v,ov] (aN i X.env)
   standAt tpos
   ai [v,ov,iv] (setItem ov iv v)
   release [v,ov,iv] []):=by intro _; rfl)
  (hs:swapsWithSole [.Subscript o i tpos] e pos.line X.env=pure false:=by rfl) (hw:swappedStores [.Subscript o i tpos] e X.env=pure none:=by rfl) (h1:(au [.Subscript o i tpos] X.env).map (·.2)=[assign (.Subscript o i tpos) X.env]:=by rfl) :
  SimS X E (.Assign [.Subscript o i tpos] e pos) (Vb mo mi m):=
 ⟨fun Γ σ H ρ st D R G h=>WS.of (Qdn Zj (Qjc Zj Zj Q6g ha) hs hw h1) (he.use R G h.bind fun p st1 H1 ρ1 z x1 R1 G1 r1 h1=>ho.use R1 G1 h1.bind fun ov st2 H2 ρ2 x x2 R2 G2 r2 h2=>hi.use R2 G2 h2.bind fun iv st3 H3 ρ3 y x3 R3 G3 r3 h3=>by
  cases es:Uj st3 ov iv p with
  | none=>rw [es] at h3; exact h3.elim
  | some st4=>
   rw [es] at h3;obtain ⟨a,vs,k,j,rfl,rfl,f1,f2,x4,R4⟩:=Q9z R3 (r2.ext x3) r3 (r1.ext (x2.trans x3)) es;exact ⟨a,vs,k,j,rfl,rfl,f1,f2,h3 σ _ ρ3 x4 R4 (G3.ext x4)⟩)⟩
def Z6 (mt:MT) (ma mb:MS):MS:=fun Γ st=>(mt Γ st).sbind fun b st1=>if b=true then ma Γ st1 else mb Γ st1
theorem Z5 {c:aH} {a b:List aP} {mt:MT} {ma mb:MS} (hc:SimT X E c mt) (ha:SimB X E a ma) (hb:SimB X E b mb):SimS X E (.If c a b pos) (Z6 mt ma mb):=
 ⟨fun Γ σ H ρ st D R G h=>WS.of (Qnw Q6u Q43 Q43) (hc.use R G h.bind fun k st1 H1 ρ1 x1 R1 G1 h1=>by
  cases k with
  | true=>rw [bS rfl] at h1 ⊢; exact ha.run Γ σ H1 ρ1 st1 D R1 G1 h1
  | false=>rw [bT D2] at h1 ⊢; exact hb.run Γ σ H1 ρ1 st1 D R1 G1 h1)⟩
open Classical in
def Zr (ga:GA) (body:MS) (w:Wt):List PV->Gam->Q3->SR
 | [],Γ,st=>if wOk w st then .nx Γ st else .stuck
 | x :: xs,Γ,st=>if wOk w st then (match ga x Γ with
  | none=>.stuck
  | some Γ1=>match body Γ1 st with
   | .nx Γ2 st2=>Zr ga body w xs Γ2 st2
   | .ct Γ2 st2=>Zr ga body w xs Γ2 st2
   | .bk Γ2 st2=>.nx Γ2 st2
   | .rt v st2=>.rt v st2
   | .exc x st2=>.exc x st2
   | .stuck=>.stuck) else .stuck
def Ux (ga:GA) (mi:MI) (body:MS):MS:=fun Γ st=>(mi Γ st).sbind fun iw st1=>Zr ga body iw.2 iw.1 Γ st1
theorem Yh {tg iter:aH} {bd:List aP} {ga:GA} {mi:MI} {body:MS} (hp:PassesOwn (aI X.prog X.w) X.A X.env X.xe) (hc:X.calm=true) (hi:SimI X E tg iter mi) (hg:SimG X tg ga) (hb:SimB X E bd body)
  (hs:∀ x,bG iter X.env x=pure x:=by intro _; rfl):SimS X E (.For tg iter bd [] pos) (Ux ga mi body):=
 ⟨fun Γ σ H ρ st D R G h=>WS.of (Qj7 hp hc Qj9 Qgv Q43 hs) (hi.run Γ σ H ρ st _ _ R G h.bind fun iw st1 H1 ρ1 J eq x1 R1 G1 ok hl src h1=>by
  let W:Nat->Nat->St->Hp->Prop:=fun i m σ' H'=>m=iw.1.length - i/\i<=iw.1.length/\∃ Γ' ρ' st',Ext H1 ρ1 H' ρ'/\Rel H' ρ' st'/\EnvR H' ρ' Γ' σ'/\AccS X.mg E D H' ρ' (Zr ga body iw.2 (iw.1.drop i) Γ' st')
  refine ⟨W,⟨_,rfl,Nat.zero_le _,Γ,ρ1,st1,Ext.refl _ _,R1,G1,by rw [List.drop_zero]; exact h1⟩,?_⟩;rintro i m σ' H' ⟨hm,hi',Γ',ρ',st',x,R',G',hA⟩
  by_cases hlt:i < iw.1.length
  ·right
   have hd:iw.1.drop i=iw.1[i] :: iw.1.drop (i + 1):=List.drop_eq_getElem_cons hlt;rw [hd,Zr] at hA
   by_cases hw:wOk iw.2 st'
   ·rw [bS hw] at hA;refine ⟨src.go H' ρ' st' x R' hw i hlt,fun σ2 H2=>W (i + 1) (iw.1.length - (i + 1)) σ2 H2,fun σ2 H2 z=>⟨_,by omega,z⟩,fun y H2 hy=>?_⟩
    obtain ⟨sm,ry⟩:=src.yld H' ρ' st' x R' hw i _ (O2 hlt) y H2 hy;have x2:Ext H' ρ' H2 ρ':=Ext.same sm;cases eg:ga iw.1[i] Γ' with
    | none=>rw [eg] at hA; exact hA.elim
    | some Γ1=>
     rw [eg] at hA;refine hg.run Γ' Γ1 σ' H2 ρ' _ y _ (G'.ext x2) ry eg fun σ3 G3=>?_
     have hA2:=AccS.later hA x2;simp only at hA2;refine hb.run Γ1 σ3 H2 ρ' st' _ (R'.same sm) G3 ?_;have again:∀ {Γ2:Gam} {st2:Q3},AccS X.mg E D H2 ρ' (Zr ga body iw.2 (iw.1.drop (i + 1)) Γ2 st2)->∀ σ' H'' ρ'',Ext H2 ρ' H'' ρ''->Rel H'' ρ'' st2->EnvR H'' ρ'' Γ2 σ'->W (i + 1) (iw.1.length - (i + 1)) σ' H'':=fun {Γ2 st2} a σ4 H4 ρ4 x4 R4 G4=>
      ⟨rfl,hlt,Γ2,ρ4,st2,x.trans (x2.trans x4),R4,G4,AccS.later a x4⟩
     cases rb:body Γ1 st' with
     | nx Γ2 st2=>rw [rb] at hA2; exact again hA2
     | ct Γ2 st2=>rw [rb] at hA2; exact again hA2
     | bk Γ2 st2=>rw [rb] at hA2; exact hA2
     | rt v st2=>rw [rb] at hA2; exact hA2
     | exc y st2=>rw [rb] at hA2; exact hA2
     | stuck=>rw [rb] at hA2; exact hA2.elim
   ·rw [bT hw] at hA; exact hA.elim
  ·left
   have ei:i=iw.1.length:=by omega
   subst ei;rw [List.drop_length,Zr] at hA
   by_cases hw:wOk iw.2 st'
   ·rw [bS hw] at hA;exact ⟨src.stop H' ρ' st' x R' hw,hA σ' H' ρ' (Ext.refl _ _) R' G'⟩
   ·rw [bT hw] at hA; exact hA.elim)⟩
end
def WM (X:Cx) (id:String):V->List V->Hp->VK->Prop:=fun x xs H Q=>∀ (pins:List (aB × Obj)) (s:aC) (σ:St) (v:aA) (us:List aA),Inv X pins σ H s->RelV x v->Vals xs us->aF (aI X.prog X.w) X.A (call (.builtin id) (v :: us)) (EP X pins σ Q) X.xe s
theorem Qse {X:Cx} {id:String}:MtR X id (WM X id):=fun pins s σ _ _ _ v us _ I r rs h=>h pins s σ v us I r rs
theorem WM.of {X:Cx} {id:String} {r:V->List V->Hp->VK->Prop} {x:V} {xs:List V} {H:Hp} {Q:VK} (h:MtR X id r) (q:r x xs H Q):WM X id x xs H Q:=fun pins s σ v us I r1 r2=>h pins s σ H x xs v us Q I r1 r2 q
abbrev MF:=Q3->PV->List PV->Res PV
structure MtS (X:Cx) (E:XK) (id:String) (o:MF):Prop where
 run:∀ (H:Hp) (ρ:Tk) (st:Q3) (p:PV) (ps:List PV) (x:V) (xs:List V) (Q:VK),Rel H ρ st->Rep H ρ p x->RepL H ρ ps xs->Acc X.mg E H ρ (QV Q) (o st p ps)->WM X id x xs H Q
section
variable {X:Cx} {E:XK} {o e:aH} {es:List aH} {mo:ME} {mr:Gam->Q3->Res (List PV)} {name:Str} {apos cpos:Pos} {T id:String} {f:MF}
def mBM (f:MF) (mo:ME) (mr:Gam->Q3->Res (List PV)):ME:=fun Γ st=>(mo Γ st).bind fun p st1=>match Za st1 p with
 | some _=>(mr Γ st1).bind fun ps st2=>f st2 p ps
 | none=>.stuck
theorem Qi6 (pa:PlainAttrs "list") (slot:Slot "list" name id) (hty:typeOf (.builtin id)=pure (.type "method_descriptor")) (hm:MtS X E id f) (ho:SimE X E o mo) (ha:SimA X E (e :: es) mr)
  (hbase:bM o name X.env (aN o X.env)=aN o X.env:=by rfl)
  (hfew:((ad cpos (aO (e :: es) X.env)).all (fun x=>!x.1) && (backToKw cpos (keywordEach [] X.env)).all (fun x=>x.1.isSome)
   && decide ((e :: es).length + ([]:List Keyword).length + (if ([]:List Keyword).isEmpty then 0 else 1) < 30))=true:=by rfl)
  (hline:(apos.endLine == cpos.line)=true:=by rfl) (hs:aO (e :: es) X.env=(false,aN e X.env) :: aO es X.env:=by rfl) (hplain:(ad cpos (aO es X.env)).any (·.1)=false:=by rfl) :
  SimE X E (.Call (.Attribute o name apos) (e :: es) [] cpos) (mBM f mo mr):=
 ⟨fun Γ σ H ρ st Q R G h=>WE.of (Qp1 pa slot hty Qse Zj Q0s hbase hfew hline hs hplain) (ho.use R G h.bind fun p st1 H1 ρ1 v x1 R1 G1 r1 h1=>by
  split at h1
  ·rename_i ys el;obtain ⟨a,vs,rfl,hr,_⟩:=Xu R1 r1 el;exact ⟨.inl ⟨rfl,vs,.inl hr⟩,ha.use R1 G1 h1.bind fun ps st2 H2 ρ2 us x2 R2 G2 r2 h2=>hm.run H2 ρ2 st2 p ps _ us Q R2 (r1.ext x2) r2 h2⟩
  ·exact h1.elim)⟩
def chg (st:Q3) (p:PV) (g:List PV->Option (PV × List PV)):Res PV:=match p with
 | .ref i=>match st[i]? with
  | some (.lst xs)=>match g xs with
   | some (r,ys)=>.ok r (st.set i (.lst ys))
   | none=>.stuck
  | _=>.stuck
 | _=>.stuck
theorem Qai {mg:Str->Option aA} {H:Hp} {ρ:Tk} {st:Q3} {p:PV} {x:V} {g:List PV->Option (PV × List PV)} {Q:VK} (R:Rel H ρ st) (rp:Rep H ρ p x) (h:Acc mg E H ρ (QV Q) (chg st p g)) :
  ∃ a xs vs r ys,x=.ref a/\H a=some (.lst vs)/\RepL H ρ xs vs/\g xs=some (r,ys)/\∀ us v,RepL H ρ ys us->Rep H ρ r v->Q v (upd H a (.lst us)):=by
 unfold chg at h
 split at h
 ·rename_i i
  split at h
  ·rename_i xs hs
   split at h
   ·rename_i r ys hg;obtain ⟨a,ea,rfl⟩:=rp;obtain ⟨b,vs,f1,f2,f3⟩:=R.lst hs;rw [ea] at f1; cases f1;refine ⟨a,xs,vs,r,ys,rfl,f2,f3,hg,fun us v ru rv=>?_⟩;have x:=Ext.put (o':=.lst us) (E2 ea) f2;exact h _ ρ x (R.put ea f2 ru) v (rv.ext x)
   ·exact h.elim
  ·exact h.elim
 ·exact h.elim
def Wf:MF:=fun st p ps=>match ps with
 | [y]=>chg st p fun xs=>if xs.length < lim then some (.non,xs ++ [y]) else none
 | _=>.stuck
theorem Qbb:MtS X E "list.append" Wf:=⟨fun H ρ st p ps x xs Q R rp rs h=>by
 unfold Wf at h
 split at h
 ·obtain ⟨v,rfl,r⟩:=Y8 rs;obtain ⟨a,ys,vs,r0,zs,rfl,f1,f2,f3,k⟩:=Qai R rp h
  split at f3
  ·rename_i hl;cases f3;exact WM.of Qb9 ⟨a,vs,v,rfl,rfl,f1,by rw [<- f2.length]; exact D1 hl Q97,k _ _ (f2.append (RepL.cons r RepL.nil)) rfl⟩
  ·cases f3
 ·exact h.elim⟩
def j8:MF:=fun st p ps=>match ps with
 | [q]=>match Up st q with
  | some ys=>chg st p fun xs=>if xs.length + ys.length<=lim then some (.non,xs ++ ys) else none
  | none=>.stuck
 | _=>.stuck
theorem Qba:MtS X E "list.extend" j8:=⟨fun H ρ st p ps x xs Q R rp rs h=>by
 unfold j8 at h
 split at h
 ·obtain ⟨v,rfl,r⟩:=Y8 rs
  split at h
  ·rename_i ws ew;obtain ⟨b,us,rfl,hb,rb⟩:=zw R r ew;obtain ⟨a,ys,vs,r0,zs,rfl,f1,f2,f3,k⟩:=Qai R rp h
   split at f3
   ·rename_i hl;cases f3;exact WM.of Qb8 ⟨a,b,vs,us,rfl,rfl,f1,hb,by rw [<- f2.length,<- rb.length]; exact Vc hl,k _ _ (f2.append rb) rfl⟩
   ·cases f3
  ·exact h.elim
 ·exact h.elim⟩
theorem jq (ho:SimE X E o mo) (ha:SimA X E [e] mr) (hbase:bM o "append" X.env (aN o X.env)=aN o X.env:=by rfl)
  (hfew:((ad cpos (aO [e] X.env)).all (fun x=>!x.1) && (backToKw cpos (keywordEach [] X.env)).all (fun x=>x.1.isSome) && decide ([e].length + ([]:List Keyword).length + (if ([]:List Keyword).isEmpty then 0 else 1) < 30))=true:=by rfl)
  (hline:(apos.endLine == cpos.line)=true:=by rfl) (hs:aO [e] X.env=(false,aN e X.env) :: aO [] X.env:=by rfl):SimE X E (.Call (.Attribute o "append" apos) [e] [] cpos) (mBM Wf mo mr):=
 Qi6 PySem.F.plainAttrs_list PySem.F.slot_list_append PySem.F.type_list_append Qbb ho ha hbase hfew hline hs
theorem Qau (ho:SimE X E o mo) (ha:SimA X E [e] mr) (hbase:bM o "extend" X.env (aN o X.env)=aN o X.env:=by rfl)
  (hfew:((ad cpos (aO [e] X.env)).all (fun x=>!x.1) && (backToKw cpos (keywordEach [] X.env)).all (fun x=>x.1.isSome) && decide ([e].length + ([]:List Keyword).length + (if ([]:List Keyword).isEmpty then 0 else 1) < 30))=true:=by rfl)
  (hline:(apos.endLine == cpos.line)=true:=by rfl) (hs:aO [e] X.env=(false,aN e X.env) :: aO [] X.env:=by rfl):SimE X E (.Call (.Attribute o "extend" apos) [e] [] cpos) (mBM j8 mo mr):=
 Qi6 PySem.F.plainAttrs_list PySem.F.slot_list_extend PySem.F.type_list_extend Qba ho ha hbase hfew hline hs
end
section
mutual
def fz (n:Nat) (st:Q3):Nat->PV->Option PV
 | 0,_=>none
 | _ + 1,.non=>some .non
 | _ + 1,.bl b=>some (.bl b)
 | _ + 1,.int i=>some (.int i)
 | _ + 1,.str x=>some (.str x)
 | k + 1,.tup xs=>(fzL n st k xs).map .tup
 | k + 1,.lst xs=>(fzL n st k xs).map .lst
 | k + 1,.fro xs=>(fzL n st k xs).map .fro
 | _ + 1,.dic=>some .dic
 | k + 1,.ref i=>if i < n then some (.ref i) else match st[i]? with
  | some (.lst xs)=>(fzL n st k xs).map .lst
  | _=>none
def fzL (n:Nat) (st:Q3):Nat->List PV->Option (List PV)
 | _,[]=>some []
 | k,x :: xs=>(fz n st k x).bind fun y=>(fzL n st k xs).map (y :: ·)
end
theorem xg {n:Nat} {st:Q3}:∀ {m k:Nat} {p:PV},Jq m p=true->m < k->fz n st k p=some p:=by
 intro m
 induction m with
 | zero=>
  intro k p g hk;obtain ⟨k,rfl⟩:∃ j,k=j + 1:=⟨k - 1,by omega⟩;cases p with
  | tup _=>cases g
  | lst _=>cases g
  | fro _=>cases g
  | ref _=>cases g
  | dic=>cases g
  | _=>rw [fz]
 | succ m ih=>
  intro k p g hk;obtain ⟨k,rfl⟩:∃ j,k=j + 1:=⟨k - 1,by omega⟩;have hL:∀ xs:List PV,xs.all (Jq m)=true->fzL n st k xs=some xs:=by
   intro xs
   induction xs with
   | nil=>intro _; rw [fzL]
   | cons x xs ihx=>
    intro g;rw [List.all_cons,G8] at g;rw [fzL,ih g.1 (by omega),ihx g.2]; rfl
  cases p with
  | tup xs=>rw [fz,hL xs g]; rfl
  | lst xs=>rw [fz,hL xs g]; rfl
  | fro xs=>rw [fz,hL xs g]; rfl
  | ref _=>cases g
  | dic=>cases g
  | _=>rw [fz]
section
variable {H:Hp} {ρ:Tk} {st:Q3} {tr0 rest hs:List aB}
theorem Qeu (R:Rel H ρ st) (ht:ρ.tr=tr0 ++ rest) (hh:∀ a,a∈hs->a∈ρ.hid):∀ (k:Nat) {p p':PV} {v:V},Rep H ρ p v->fz tr0.length st k p=some p'->Rep H ⟨tr0,hs⟩ p' v:=by
 have out:∀ a,a∉ρ->a∉(⟨tr0,hs⟩:Tk):=fun a n z=>by
  rcases z with z | z
  ·exact n (.inl (by rw [ht]; exact G9 _ z))
  ·exact n (.inr (hh a z))
 intro k
 induction k with
 | zero=>intro p p' v r e; rw [fz] at e; cases e
 | succ k ih=>
  have hL:∀ {ps ps':List PV} {vs:List V},RepL H ρ ps vs->fzL tr0.length st k ps=some ps'->RepL H ⟨tr0,hs⟩ ps' vs:=by
   intro ps
   induction ps with
   | nil=>intro ps' vs r e; rw [fzL] at e; cases e; exact r
   | cons x xs ihx=>
    intro ps' vs r e;obtain ⟨v,t,rfl,r1,r2⟩:=r;rw [fzL] at e;cases e1:fz tr0.length st k x with
    | none=>rw [e1] at e; cases e
    | some y=>
     rw [e1] at e;have e:(fzL tr0.length st k xs).map (y :: ·)=some ps':=e;cases e2:fzL tr0.length st k xs with
     | none=>rw [e2] at e; cases e
     | some ys=>
      rw [e2] at e;cases e;exact ⟨v,t,rfl,ih r1 e1,ihx r2 e2⟩
  intro p p' v r e;cases p with
  | non=>rw [fz] at e; cases e; exact r
  | bl b=>rw [fz] at e; cases e; exact r
  | int i=>rw [fz] at e; cases e; exact r
  | str x=>rw [fz] at e; cases e; exact r
  | tup xs=>
   rw [fz] at e;obtain ⟨a,vs,e1,ha,na,ra⟩:=r;cases e2:fzL tr0.length st k xs with
   | none=>rw [e2] at e; cases e
   | some ys=>rw [e2] at e; cases e; exact ⟨a,vs,e1,ha,out a na,hL ra e2⟩
  | lst xs=>
   rw [fz] at e;obtain ⟨a,vs,e1,ha,na,ra⟩:=r;cases e2:fzL tr0.length st k xs with
   | none=>rw [e2] at e; cases e
   | some ys=>rw [e2] at e; cases e; exact ⟨a,vs,e1,ha,out a na,hL ra e2⟩
  | fro xs=>
   rw [fz] at e;obtain ⟨a,vs,e1,ha,na,ra⟩:=r;cases e2:fzL tr0.length st k xs with
   | none=>rw [e2] at e; cases e
   | some ys=>rw [e2] at e; cases e; exact ⟨a,vs,e1,ha,out a na,hL ra e2⟩
  | dic=>
   rw [fz] at e;cases e;obtain ⟨a,e1,ha,na⟩:=r;exact ⟨a,e1,ha,out a na⟩
  | ref i=>
   rw [fz] at e;obtain ⟨a,ea,rfl⟩:=r
   by_cases hi:i < tr0.length
   ·rw [bS hi] at e;cases e;rw [ht,O5 hi] at ea;exact ⟨a,ea,rfl⟩
   ·rw [bT hi] at e
    split at e
    ·rename_i xs hs';obtain ⟨b,vs,f1,f2,f3⟩:=R.lst hs';rw [ea] at f1; cases f1;cases e2:fzL tr0.length st k xs with
     | none=>rw [e2] at e; cases e
     | some ys=>
      rw [e2] at e; cases e;refine ⟨a,vs,rfl,f2,fun z=>?_,hL f3 e2⟩;rcases z with z | z
      ·have z:a∈tr0:=z;obtain ⟨j,hj,ej⟩:=List.getElem_of_mem z;have g1:ρ.tr[j]?=some a:=by rw [ht,O5 hj,O2 hj,ej]
       have l1:=O0.mp g1;have l2:=O0.mp ea;have:=Q4a R.nd l1.1 l2.1 (l1.2.trans l2.2.symm);omega
      ·exact R.ap a (hh a z) (E2 ea)
    ·cases e
mutual
def bel (n:Nat):PV->Prop
 | .tup xs=>Q67 n xs
 | .lst xs=>Q67 n xs
 | .fro xs=>Q67 n xs
 | .ref i=>i < n
 | _=>True
def Q67 (n:Nat):List PV->Prop
 | []=>True
 | x :: xs=>bel n x/\Q67 n xs
end
mutual
theorem Rep.bel:∀ {p:PV} {v:V},Rep H ρ p v->bel ρ.tr.length p
 | .non,_,_=>by simp [Sm.bel]
 | .bl _,_,_=>by simp [Sm.bel]
 | .int _,_,_=>by simp [Sm.bel]
 | .str _,_,_=>by simp [Sm.bel]
 | .tup ps,_,⟨_,_,_,_,_,r⟩=>by rw [Sm.bel]; exact RepL.bel r
 | .lst ps,_,⟨_,_,_,_,_,r⟩=>by rw [Sm.bel]; exact RepL.bel r
 | .fro ps,_,⟨_,_,_,_,_,r⟩=>by rw [Sm.bel]; exact RepL.bel r
 | .ref i,_,⟨_,e,_⟩=>by rw [Sm.bel]; exact (O0.mp e).1
 | .dic,_,_=>by simp [Sm.bel]
theorem RepL.bel:∀ {ps:List PV} {vs:List V},RepL H ρ ps vs->Q67 ρ.tr.length ps
 | [],_,_=>by simp [Q67]
 | p :: ps,_,⟨_,_,_,r1,r2⟩=>by rw [Q67]; exact ⟨Rep.bel r1,RepL.bel r2⟩
end
mutual
theorem Rep.less (ht:ρ.tr=tr0 ++ rest) (hh:∀ a,a∈hs->a∈ρ.hid):∀ {p:PV} {v:V},Sm.bel tr0.length p->Rep H ρ p v->Rep H ⟨tr0,hs⟩ p v
 | .non,_,_,r=>r
 | .bl _,_,_,r=>r
 | .int _,_,_,r=>r
 | .str _,_,_,r=>r
 | .tup ps,_,b,⟨a,vs,e,ha,na,r⟩=>⟨a,vs,e,ha,fun z=>na (z.imp (fun z=>by rw [ht]; exact G9 _ z) (hh a)),RepL.less ht hh (by rw [Sm.bel] at b; exact b) r⟩
 | .lst ps,_,b,⟨a,vs,e,ha,na,r⟩=>⟨a,vs,e,ha,fun z=>na (z.imp (fun z=>by rw [ht]; exact G9 _ z) (hh a)),RepL.less ht hh (by rw [Sm.bel] at b; exact b) r⟩
 | .fro ps,_,b,⟨a,vs,e,ha,na,r⟩=>⟨a,vs,e,ha,fun z=>na (z.imp (fun z=>by rw [ht]; exact G9 _ z) (hh a)),RepL.less ht hh (by rw [Sm.bel] at b; exact b) r⟩
 | .ref i,_,b,⟨a,e,e2⟩=>⟨a,by rw [Sm.bel] at b; rw [ht,O5 b] at e; exact e,e2⟩
 | .dic,_,_,⟨a,e,ha,na⟩=>⟨a,e,ha,fun z=>na (z.imp (fun z=>by rw [ht]; exact G9 _ z) (hh a))⟩
theorem RepL.less (ht:ρ.tr=tr0 ++ rest) (hh:∀ a,a∈hs->a∈ρ.hid):∀ {ps:List PV} {vs:List V},Q67 tr0.length ps->RepL H ρ ps vs->RepL H ⟨tr0,hs⟩ ps vs
 | [],_,_,r=>r
 | p :: ps,_,b,⟨v,t,e,r1,r2⟩=>by
  rw [Q67] at b;exact ⟨v,t,e,Rep.less ht hh b.1 r1,RepL.less ht hh b.2 r2⟩
end
end
theorem Q6r {H H':Hp} {ρ ρ':Tk} {st st':Q3} (R:Rel H ρ st) (x:Ext H ρ H' ρ') (R':Rel H' ρ' st') (hp:st <+: st'):Ext H ρ H' ρ/\Rel H' ρ st:=by
 obtain ⟨rest,ht⟩:=x.pre;obtain ⟨more,hm⟩:=hp;refine ⟨⟨List.prefix_refl _,fun _ h=>h,fun _ h=>.inl h,x.keep,fun _ h=>.inl h,x.old,x.frz⟩,R.len,R.nd,fun a ha=>let ⟨o,e,n⟩:=R.hd a ha; ⟨o,x.keep a o e (R.ap a ha),n⟩,R.ap,fun i a c h1 h2=>?_⟩
 have hi:i < st.length:=(O0.mp h2).1;have q:=R'.cell i a c (by rw [<- ht,O5 (O0.mp h1).1]; exact h1) (by rw [<- hm,O5 hi]; exact h2);have q0:=R.cell i a c h1 h2;cases c with
 | lst ps=>
  obtain ⟨vs,e1,e2⟩:=q;obtain ⟨us,_,f2⟩:=q0;exact ⟨vs,e1,RepL.less (ρ:=ρ') (tr0:=ρ.tr) (hs:=ρ.hid) ht.symm x.hidM f2.bel e2⟩
 | dic ps=>
  obtain ⟨vs,e1,e2⟩:=q;obtain ⟨us,_,f2⟩:=q0;exact ⟨vs,e1,e2.1,RepL.less (ρ:=ρ') (tr0:=ρ.tr) (hs:=ρ.hid) ht.symm x.hidM f2.2.bel e2.2⟩
 | dtp ps=>
  obtain ⟨vs,e1,e2⟩:=q;obtain ⟨us,_,f2⟩:=q0;exact ⟨vs,e1,e2.1,RepL.less (ρ:=ρ') (tr0:=ρ.tr) (hs:=ρ.hid) ht.symm x.hidM f2.2.bel e2.2⟩
 | frd ps=>
  obtain ⟨vs,e1,e2⟩:=q;obtain ⟨us,_,f2⟩:=q0;exact ⟨vs,e1,e2.1,RepL.less (ρ:=ρ') (tr0:=ρ.tr) (hs:=ρ.hid) ht.symm x.hidM f2.2.bel e2.2⟩
 | obj C ps=>
  obtain ⟨vs,e1,e2⟩:=q;obtain ⟨us,_,f2⟩:=q0;exact ⟨vs,e1,e2.1,RepL.less (ρ:=ρ') (tr0:=ρ.tr) (hs:=ρ.hid) ht.symm x.hidM f2.2.bel e2.2⟩
abbrev FN:=List PV->Q3->Res PV
open Classical in
def fin (st:Q3) (v:PV) (st':Q3):Res PV:=if st <+: st' then okO st (fz st.length st' 16 v) else .ok v st'
open Classical in
def Qkw (st:Q3) (x:Exc) (st':Q3):Res PV:=if st <+: st' then (match x.fs with
 | none=>.exc x st
 | some (n,p)=>match fz st.length st' 16 p with
  | some q=>.exc ⟨x.cls,some (n,q)⟩ st
  | none=>.stuck) else .exc x st'
def J2 (body:MS) (nl:Nat):FN:=fun ps st=>match body (ps.map some ++ List.replicate (nl - ps.length) none) st with
 | .rt v st'=>fin st v st'
 | .nx _ st'=>fin st .non st'
 | .exc x st'=>Qkw st x st'
 | _=>.stuck
theorem Qag {mg:Str->Option aA} {E:XK} {H:Hp} {ρ:Tk} {st st':Q3} {Q:VK} {p:PV} (R:Rel H ρ st) (h:Acc mg E H ρ (QV Q) (fin st p st')):∀ v H' ρ',Ext H ρ H' ρ'->Rel H' ρ' st'->Rep H' ρ' p v->Q v H':=fun v H' ρ' x R' r=>by
 unfold fin at h
 by_cases hp:st <+: st'
 ·rw [bS hp] at h;cases e:fz st.length st' 16 p with
  | none=>rw [e] at h; exact h.elim
  | some q=>
   rw [e] at h;obtain ⟨x2,R2⟩:=Q6r R x R' hp;obtain ⟨rest,ht⟩:=x.pre;rw [<- R.len] at e;exact h H' ρ x2 R2 v (Qeu (tr0:=ρ.tr) (hs:=ρ.hid) R' ht.symm x.hidM 16 r e)
 ·rw [bT hp] at h;exact h H' ρ' x R' v r
def spF (mg:Str->Option aA) (n:Nat) (F:FN):Sp:=fun vs H Q E=>vs.length=n/\∃ ρ st ps,Rel H ρ st/\RepL H ρ ps vs/\Acc mg E H ρ (QV Q) (F ps st)
theorem Q3v {H:Hp} {ρ:Tk} {N:List Str} {ps:List PV} {vs:List V} (r:RepL H ρ ps vs):EnvR H ρ (ps.map some ++ List.replicate (N.length - ps.length) none) (L2.start N vs):=by
 have hl:=r.length;unfold L2.start;refine ⟨by simp [hl],fun i p e=>?_⟩
 by_cases hi:i < ps.length
 ·rw [O5 (by simpa using hi),D6] at e;rw [O5 (by simp; omega),D6];cases q:ps[i]? with
  | none=>rw [q] at e; cases e
  | some p'=>
   rw [q] at e;cases e;obtain ⟨v,e1,e2⟩:=r.get q;exact ⟨v,by rw [e1]; rfl,e2⟩
 ·rw [D5 (by simpa using hi),List.getElem?_replicate] at e
  split at e <;> cases e
section
variable {P:aL} {w:aK} {K:PySem.W.Frag} {mg:Str->Option aA} {base:Heap}
theorem Qks {x qual:Str} {st:aP} {f:aB} {fd:aR} {N ps:List Str} {k:Nat} {m:MS} (F:Fun K x qual st f fd) (S:FnScope N ps (Qa st))
  (hb:∀ (cdv:aA) (A:aM) (outer:List PySem.Env) (s:aC) (H:Hp) (E:XK),Room k (A.deeper (PyProof.Rows.envOfC qual (Qa st) s.heap.objs.size f cdv))->SimB (cxD P w K mg base N qual (Qa st) f cdv A outer s H E) E (Qv st) m) :
  FnOk P w K mg base (CXD P w) (k + 1) f fd ps (spF mg ps.length (J2 m N.length)):=by
 refine Fun.okD F S (fun vs H Q E h=>h.1) fun cdv A outer s H vs Q E hr hsp=>⟨_,Q43,?_⟩
 obtain ⟨hl,ρ,st0,pvs,R,rl,hA⟩:=hsp;refine (hb cdv A outer s H E hr).run _ (L2.start N vs) H ρ st0 _ R (Q3v rl) ?_;unfold J2 at hA;cases rr:m (pvs.map some ++ List.replicate (N.length - pvs.length) none) st0 with
 | rt v st1=>rw [rr] at hA; exact Qag R hA
 | nx Γ st1=>rw [rr] at hA; exact fun σ' H' ρ' x' R' G'=>Qag R hA .non H' ρ' x' R' rfl
 | bk Γ st1=>rw [rr] at hA; exact hA.elim
 | ct Γ st1=>rw [rr] at hA; exact hA.elim
 | stuck=>rw [rr] at hA; exact hA.elim
 | exc y st1=>
  rw [rr] at hA;have hA:Acc mg E H ρ (QV Q) (Qkw st0 y st1):=hA;intro C dv H' ρ' hm x' R' hf;unfold Qkw at hA
  by_cases hp:st0 <+: st1
  ·rw [bS hp] at hA;obtain ⟨x2,R2⟩:=Q6r R x' R' hp;obtain ⟨cls,fs⟩:=y;cases fs with
   | none=>exact hA C dv H' ρ hm x2 R2 hf
   | some np=>
    obtain ⟨nm,p⟩:=np;simp only at hA;cases e:fz st0.length st1 16 p with
    | none=>rw [e] at hA; exact hA.elim
    | some q=>
     rw [e] at hA;obtain ⟨rest,ht⟩:=x'.pre;rw [<- R.len] at e;obtain ⟨dx,v,e1,e2,e3,e4⟩:=hf;refine hA C dv H' ρ hm x2 R2 ⟨dx,v,e1,e2,fun z=>e3 (z.imp (fun z=>by rw [<- ht]; exact G9 _ z) (x'.hidM dx)),Qeu (tr0:=ρ.tr) (hs:=ρ.hid) R' ht.symm x'.hidM 16 e4 e⟩
  ·rw [bT hp] at hA;exact hA C dv H' ρ' hm x' R' hf
end
theorem Zm {P:aL} {w:aK} {K:PySem.W.Frag} {mg:Str->Option aA} {base:Heap} {x qual:Str} {st:aP} {f:aB} {fd:aR} {N ps:List Str} {k n nl:Nat} {m:MS} {FF:FN} (F:Fun K x qual st f fd) (S:FnScope N ps (Qa st)) (hn:ps.length=n) (hnl:N.length=nl) (hF:FF=J2 m nl)
  (hb:∀ (cdv:aA) (A:aM) (outer:List PySem.Env) (s:aC) (H:Hp) (E:XK),Room k (A.deeper (PyProof.Rows.envOfC qual (Qa st) s.heap.objs.size f cdv))->SimB (cxD P w K mg base N qual (Qa st) f cdv A outer s H E) E (Qv st) m) :
  FnOk P w K mg base (CXD P w) (k + 1) f fd ps (spF mg n FF):=by
 subst hn; subst hnl; subst hF;exact Qks F S hb
structure DefS (P:aL) (w:aK) (K:PySem.W.Frag) (mg:Str->Option aA) (base:Heap) (k:Nat) (x:Str) (n:Nat) (F:FN):Prop where
 ex:∃ (f:aB) (fd:aR) (ps:List Str),FnOk P w K mg base (CXD P w) k f fd ps (spF mg n F)/\mg x=some (.ref f)/\PySem.W.keepIn K (.ref f)=true/\Binds K fd ps []/\ps.length=n
def Qi (n:Nat) (F:FN) (mr:Gam->Q3->Res (List PV)):ME:=fun Γ st=>(mr Γ st).bind fun ps st1=>if ps.length=n then F ps st1 else .stuck
section
variable {X:Cx} {E:XK} {k n:Nat} {x:Str} {F:FN} {p pos:Pos} {e:aH} {es:List aH} {mr:Gam->Q3->Res (List PV)}
theorem Qn (D:DefS X.prog X.w X.K X.mg X.base k x n F) (hr:Room k X.A) (hx:Q3b (CXD X.prog X.w) X E) (hg:Gl X x) (ha:SimA X E (e :: es) mr) (hdb:(x == ("__debug__" : Str))=false:=by decide)
  (he:aO (e :: es) X.env=(false,aN e X.env) :: aO es X.env:=by rfl) (hpl:(ad pos (aO es X.env)).any (·.1)=false:=by rfl):SimE X E (.Call (.Name x p) (e :: es) [] pos) (Qi n F mr):=by
 obtain ⟨f,fd,ps,hF,hm,hk,hb,hl⟩:=D.ex;exact ⟨fun Γ σ H ρ st Q R G h=>WE.of (Qh1 hF hr hg hm hk hb .nil hx Q0s hdb he hpl) (ha.use R G h.bind fun qs st1 H1 ρ1 vs x1 R1 G1 r1 h1=>by
  by_cases hq:qs.length=n
  ·rw [bS hq] at h1;show spF X.mg n F (vs ++ []) H1 Q E;rw [L1];exact ⟨by rw [<- r1.length]; exact hq,ρ1,st1,qs,R1,r1,h1⟩
  ·rw [bT hq] at h1; exact h1.elim)⟩
end
end
@[simp] theorem Y2 {α β:Type} (a:α) (st:Q3) (f:α->Q3->Res β):(Res.ok a st).bind f=f a st:=rfl
@[simp] theorem Qm8 {α β:Type} (f:α->Q3->Res β):(Res.stuck:Res α).bind f=.stuck:=rfl
@[simp] theorem Qqn {α β:Type} (x:Exc) (st:Q3) (f:α->Q3->Res β):(Res.exc x st:Res α).bind f=.exc x st:=rfl
@[simp] theorem K9 {α:Type} (a:α) (st:Q3) (f:α->Q3->SR):(Res.ok a st).sbind f=f a st:=rfl
@[simp] theorem Qi7 {α:Type} (f:α->Q3->SR):(Res.stuck:Res α).sbind f=.stuck:=rfl
@[simp] theorem Qmm {α:Type} (x:Exc) (st:Q3) (f:α->Q3->SR):(Res.exc x st:Res α).sbind f=.exc x st:=rfl
@[simp] theorem Qr6 (i:Nat) (Γ:Gam) (st:Q3):Q4 i Γ st=(match Γ[i]? with | some (some p)=>.ok p st | _=>.stuck):=rfl
@[simp] theorem Qt0 (p:PV) (Γ:Gam) (st:Q3):mC p Γ st=.ok p st:=rfl
@[simp] theorem Qk6 (o:OP) (a b:ME) (Γ:Gam) (st:Q3):mOp o a b Γ st=(a Γ st).bind fun x st1=>(b Γ st1).bind fun y st2=>o st2 x y:=rfl
@[simp] theorem Qss (b:Bool) (st:Q3):asB (.bl b) st=.ok b st:=rfl
@[simp] theorem Qin (m:ME) (Γ:Gam) (st:Q3):toB m Γ st=(m Γ st).bind asB:=rfl
def Qiw {α:Type} (x:PV) (A B:Res α):Res α:=match x with
 | .bl true=>A
 | .bl false=>B
 | _=>.stuck
@[simp] theorem Qqu {α:Type} (b:Bool) (A B:Res α):Qiw (.bl b) A B=if b=true then A else B:=by cases b <;> rfl
@[simp] theorem Qmv (o o':OP) (a b c:ME) (Γ:Gam) (st:Q3):Kx o o' a b c Γ st=(a Γ st).bind fun x st1=>(b Γ st1).bind fun y st2=>(o st2 x y).bind fun k st3=>Qiw k ((c Γ st3).bind fun z st4=>o' st4 y z) (.ok (.bl false) st3):=by
 unfold Kx;refine congrArg _ (funext fun x=>funext fun st1=>congrArg _ (funext fun y=>funext fun st2=>congrArg _ (funext fun k=>funext fun st3=>?_)))
 cases k with
 | bl b=>cases b <;> rfl
 | _=>rfl
@[simp] theorem Qhm (a b:ME) (Γ:Gam) (st:Q3):Q11 a b Γ st=(a Γ st).bind fun x st1=>Qiw x (b Γ st1) (.ok (.bl false) st1):=by
 unfold Q11;refine congrArg _ (funext fun x=>funext fun st1=>?_);cases x with
 | bl b=>cases b <;> rfl
 | _=>rfl
@[simp] theorem Qr9 (a:ME) (Γ:Gam) (st:Q3):Qk7 a Γ st=(a Γ st).bind fun x st1=>(match x with | .bl k=>.ok (.bl (!k)) st1 | _=>.stuck):=rfl
@[simp] theorem Qrb (a:ME) (Γ:Gam) (st:Q3):Q10 a Γ st=(a Γ st).bind fun x st1=>(match x with | .int k=>.ok (.int (-k)) st1 | _=>.stuck):=rfl
@[simp] theorem Qni (a b:MT) (Γ:Gam) (st:Q3):Vf a b Γ st=(a Γ st).bind fun k st1=>if k=true then b Γ st1 else .ok false st1:=rfl
@[simp] theorem Q9t (a b:MT) (Γ:Gam) (st:Q3):xy a b Γ st=(a Γ st).bind fun k st1=>if k=true then .ok true st1 else b Γ st1:=rfl
@[simp] theorem Qcv (a:MT) (Γ:Gam) (st:Q3):Uy a Γ st=(a Γ st).bind fun k st1=>.ok (!k) st1:=rfl
@[simp] theorem Qsh (c:MT) (a b:ME) (Γ:Gam) (st:Q3):mIf c a b Γ st=(c Γ st).bind fun k st1=>if k=true then a Γ st1 else b Γ st1:=rfl
@[simp] theorem Qra (Γ:Gam) (st:Q3):Q9 Γ st=.ok [] st:=rfl
@[simp] theorem Qeg (m:ME) (mr:ML) (Γ:Gam) (st:Q3):Q2 m mr Γ st=(m Γ st).bind fun p st1=>(mr Γ st1).bind fun ps st2=>.ok (p :: ps) st2:=rfl
@[simp] theorem Qr7 (mr:ML) (Γ:Gam) (st:Q3):Z2 mr Γ st=(mr Γ st).bind fun ps st1=>if ps.length<=lim then .ok (.tup ps) st1 else .stuck:=rfl
@[simp] theorem Qrc (mr:ML) (Γ:Gam) (st:Q3):Um mr Γ st=(mr Γ st).bind fun ps st1=>if ps.length<=lim then .ok (.lst ps) st1 else .stuck:=rfl
@[simp] theorem Qpr (mr:ML) (Γ:Gam) (st:Q3):ze mr Γ st=(mr Γ st).bind fun ps st1=>if ps.length<=lim then .ok ps st1 else .stuck:=rfl
@[simp] theorem Qsg (m:ME) (l h:Gam->Q3->Res (Option Int)) (Γ:Gam) (st:Q3):mSl m l h Γ st=(m Γ st).bind fun p st1=>(l Γ st1).bind fun lo st2=>(h Γ st2).bind fun hi st3=>oSl st3 p lo hi:=rfl
@[simp] theorem Qk8 (Γ:Gam) (st:Q3):Yc Γ st=.ok none st:=rfl
@[simp] theorem Qpp (m:ME) (Γ:Gam) (st:Q3):Wi m Γ st=(m Γ st).bind fun p st1=>(match p with | .int i=>.ok (some i) st1 | _=>.stuck):=rfl
@[simp] theorem Qeh (o:CF) (mr:ML) (Γ:Gam) (st:Q3):Qz o mr Γ st=(mr Γ st).bind fun ps st1=>o st1 ps:=rfl
@[simp] theorem Qrd (T:String) (m:ME) (Γ:Gam) (st:Q3):Q7b T m Γ st=(m Γ st).bind fun p st1=>if zc st1 p=true then .stuck else .ok (.bl (isI T (dpv st1 p))) st1:=rfl
@[simp] theorem Qq8 (st:Q3):zc st .non=false:=rfl
@[simp] theorem Qrg (st:Q3) (b:Bool):zc st (.bl b)=false:=rfl
@[simp] theorem Qqa (st:Q3) (b:Int):zc st (.int b)=false:=rfl
@[simp] theorem Qq6 (st:Q3) (b:Str):zc st (.str b)=false:=rfl
@[simp] theorem Qq5 (st:Q3) (b:List PV):zc st (.tup b)=false:=rfl
@[simp] theorem Qq9 (st:Q3) (b:List PV):zc st (.lst b)=false:=rfl
@[simp] theorem Qqb (st:Q3) (b:List PV):zc st (.fro b)=false:=rfl
@[simp] theorem Qqc (st:Q3):zc st .dic=false:=rfl
@[simp] theorem Qq7 (st:Q3) (i:Nat):zc st (.ref i)=(match st[i]? with | some (.frd _)=>true | some (.obj _ _)=>true | _=>false):=rfl
@[simp] theorem Qrn (st:Q3):dpv st .non=.non:=rfl
@[simp] theorem Qsp (st:Q3) (b:Bool):dpv st (.bl b)=(.bl b):=rfl
@[simp] theorem Qrq (st:Q3) (b:Int):dpv st (.int b)=(.int b):=rfl
@[simp] theorem Qrm (st:Q3) (b:Str):dpv st (.str b)=(.str b):=rfl
@[simp] theorem Qrk (st:Q3) (b:List PV):dpv st (.tup b)=(.tup b):=rfl
@[simp] theorem Qrp (st:Q3) (b:List PV):dpv st (.lst b)=(.lst b):=rfl
@[simp] theorem Qrr (st:Q3) (b:List PV):dpv st (.fro b)=(.fro b):=rfl
@[simp] theorem Qsn (st:Q3):dpv st .dic=.dic:=rfl
@[simp] theorem Qt2 (st:Q3) (i:Nat):dpv st (.ref i)=(match st[i]? with | some (.dic _)=>.dic | some (.dtp _)=>.dic | _=>.ref i):=rfl
@[simp] theorem Qhg (m:ML) (Γ:Gam) (st:Q3):Vs m Γ st=(m Γ st).bind fun ps st1=>.ok (.lst ps) st1:=rfl
@[simp] theorem Qr8 (m:ML) (Γ:Gam) (st:Q3):qq m Γ st=(m Γ st).bind fun ps st1=>.ok (.ref st1.length) (st1 ++ [.lst ps]):=rfl
@[simp] theorem Qbg (cap:List (Option Nat)) (ga:GA) (mi:MI) (mt:MT) (me:ME) (Γ:Gam) (st:Q3):Z9 cap ga mi mt me Γ st=(mi Γ st).bind fun iw st1=>noX (Jc ga mt me iw.2 (Zk cap Γ) iw.1 st1):=rfl
@[simp] theorem Qpm (Γ:Gam) (st:Q3):Ya Γ st=.ok true st:=rfl
@[simp] theorem Qbh (n:Nat) (F:FN) (mr:ML) (Γ:Gam) (st:Q3):Qi n F mr Γ st=(mr Γ st).bind fun ps st1=>if ps.length=n then F ps st1 else .stuck:=rfl
@[simp] theorem Qpq (Γ:Gam) (st:Q3):J5 Γ st=.nx Γ st:=rfl
@[simp] theorem Ja (a b:MS) (Γ:Gam) (st:Q3):Qd a b Γ st=(match a Γ st with | .nx Γ1 st1=>b Γ1 st1 | r=>r):=rfl
@[simp] theorem Q7c (m:ME) (Γ:Gam) (st:Q3):Ke m Γ st=(m Γ st).sbind fun _ st1=>.nx Γ st1:=rfl
@[simp] theorem Qhj (m:ME) (Γ:Gam) (st:Q3):Jm m Γ st=(m Γ st).sbind fun p st1=>.rt p st1:=rfl
@[simp] theorem Qhh (i:Nat) (m:ME) (Γ:Gam) (st:Q3):Qy i m Γ st=(m Γ st).sbind fun p st1=>.nx (Γ.set i (some p)) st1:=rfl
@[simp] theorem Q1c (c:MT) (a b:MS) (Γ:Gam) (st:Q3):Z6 c a b Γ st=(c Γ st).sbind fun k st1=>if k=true then a Γ st1 else b Γ st1:=rfl
@[simp] theorem Qre (ga:GA) (mi:MI) (b:MS) (Γ:Gam) (st:Q3):Ux ga mi b Γ st=(mi Γ st).sbind fun iw st1=>Zr ga b iw.2 iw.1 Γ st1:=rfl
@[simp] theorem Qhi (m:ME) (Γ:Gam) (st:Q3):Uw m Γ st=(m Γ st).bind fun p st1=>(match We st1 p with | some (xs,w)=>if xs.length<=lim then .ok (xs,w) st1 else .stuck | none=>.stuck):=rfl
@[simp] theorem Qk5 (mr:ML) (Γ:Gam) (st:Q3):Yb mr Γ st=(mr Γ st).bind fun ps st1=>(match ps with | [.int j]=>if -(lim:Int)<=j/\j<=lim then .ok (Zn 0 j.toNat,[]) st1 else .stuck | _=>.stuck):=rfl
@[simp] theorem Qk4 (mr:ML) (Γ:Gam) (st:Q3):yz mr Γ st=(mr Γ st).bind fun ps st1=>(match ps with | [.int i,.int j]=>if -(lim:Int)<=i/\i<=lim/\-(lim:Int)<=j/\j<=lim then .ok (Zn i (j - i).toNat,[]) st1 else .stuck | _=>.stuck):=rfl
@[simp] theorem Qr5 (mr:ML) (Γ:Gam) (st:Q3):Q7a mr Γ st=(mr Γ st).bind fun ps st1=>(match ps with | [p,q]=>(match We st1 p,We st1 q with | some (xs,w),some (ys,w')=>if xs.length<=lim then .ok (Q0q xs ys,w ++ w') st1 else .stuck | _,_=>.stuck) | _=>.stuck):=rfl
@[simp] theorem Qps (mr:ML) (Γ:Gam) (st:Q3):Q7d mr Γ st=(mr Γ st).bind fun ps st1=>(match ps with | [p]=>(match We st1 p with | some (xs,w)=>if xs.length<=lim then .ok (X1 0 xs,w) st1 else .stuck | none=>.stuck) | _=>.stuck):=rfl
@[simp] theorem Qk9 (f:MF) (mo:ME) (mr:ML) (Γ:Gam) (st:Q3):mBM f mo mr Γ st=(mo Γ st).bind fun p st1=>(match Za st1 p with | some _=>(mr Γ st1).bind fun ps st2=>f st2 p ps | none=>.stuck):=rfl
@[simp] theorem Qhk (ga:GA) (m:ME) (Γ:Gam) (st:Q3):Qei ga m Γ st=(m Γ st).sbind fun p st1=>(match ga p Γ with | some Γ1=>.nx Γ1 st1 | none=>.stuck):=rfl
@[simp] theorem Qbe (mo mi m:ME) (Γ:Gam) (st:Q3):Vb mo mi m Γ st=(m Γ st).sbind fun p st1=>(mo Γ st1).sbind fun o st2=>(mi Γ st2).sbind fun i st3=>(match Uj st3 o i p with | some st4=>.nx Γ st4 | none=>.stuck):=rfl
@[simp] theorem Qmx (i:Nat) (p:PV) (Γ:Gam):Q6 i p Γ=some (Γ.set i (some p)):=rfl
@[simp] theorem Qq2 (Γ:Gam):Jp [] Γ=some Γ:=rfl
@[simp] theorem Qmy (g:GA) (gs:GAs) (p:PV) (r:List PV) (Γ:Gam):Qb g gs (p :: r) Γ=(g p Γ).bind (gs r):=rfl
@[simp] theorem Qq1 (gs:GAs) (ps:List PV) (Γ:Gam):Jn gs (.tup ps) Γ=gs ps Γ:=rfl
@[simp] theorem Qsc {α:Type} (a:α) (st:Q3):noX (Res.ok a st)=.ok a st:=rfl
@[simp] theorem Qmq {α:Type}:noX (Res.stuck:Res α)=.stuck:=rfl
@[simp] theorem Qpb {α:Type} (st:Q3) (a:α):okO st (some a)=.ok a st:=rfl
@[simp] theorem Qpc {α:Type} (st:Q3):okO st (none:Option α)=.stuck:=rfl
@[simp] theorem Qsy (g:Int->Int->PV) (st:Q3) (a b:Int):oI g st (.int a) (.int b)=.ok (g a b) st:=rfl
@[simp] theorem Qph (st:Q3) (a b:Int):J9 st (.int a) (.int b)=.ok (.int (a + b)) st:=rfl
@[simp] theorem Q72 (st:Q3) (a b:List PV):J9 st (.tup a) (.tup b)=if a.length + b.length<=lim then .ok (.tup (a ++ b)) st else .stuck:=rfl
@[simp] theorem Q71 (st:Q3) (a b:Int):qp st (.int a) (.int b)=if (-(2 ^ 64) < a/\a < 2 ^ 64)\/(-(2 ^ 64) < b/\b < 2 ^ 64) then .ok (.int (a * b)) st else .stuck:=rfl
@[simp] theorem Qpe (st:Q3) (xs:List PV) (b:Int):qp st (.tup xs) (.int b)=if xs≠[]/\1<=b/\xs.length * b.toNat<=4096 then .ok (.tup (List.replicate b.toNat xs).flatten) st else .stuck:=rfl
@[simp] theorem Qpf (st:Q3) (a b:Int):zr st (.int a) (.int b)=if 0 < b then .ok (.int (a % b)) st else .stuck:=rfl
@[simp] theorem Qpg (st:Q3) (a b:Int):Qhd st (.int a) (.int b)=if 0 < b/\b < 1073741824 then .ok (.int (a / b)) st else .stuck:=rfl
@[simp] theorem Qpd (st:Q3) (a b:Int):Q0z st (.int a) (.int b)=if 0<=b/\b<=1000000/\a.natAbs < 2 ^ 64 then .ok (.int (a ^ b.toNat)) st else .stuck:=rfl
@[simp] theorem Qr0 (st:Q3) (a b:Int):oLt st (.int a) (.int b)=.ok (.bl (decide (a < b))) st:=rfl
@[simp] theorem Qr4 (st:Q3) (a b:Int):oEq st (.int a) (.int b)=.ok (.bl (a == b)) st:=rfl
@[simp] theorem Qqz (st:Q3) (a b:Int):oNe st (.int a) (.int b)=.ok (.bl (!(a == b))) st:=rfl
@[simp] theorem Qsb (st:Q3) (a b:Bool):oEq st (.bl a) (.bl b)=.ok (.bl (a == b)) st:=rfl
@[simp] theorem Qs9 (st:Q3) (a b:Bool):oNe st (.bl a) (.bl b)=.ok (.bl (!(a == b))) st:=rfl
@[simp] theorem Qr3 (st:Q3) (a b:Str):oEq st (.str a) (.str b)=.ok (.bl (a == b)) st:=rfl
@[simp] theorem Qqy (st:Q3) (a b:Str):oNe st (.str a) (.str b)=.ok (.bl (!(a == b))) st:=rfl
@[simp] theorem Qr2 (st:Q3) (p:PV):oIs st p .non=.ok (.bl (jc p)) st:=rfl
@[simp] theorem Qsa (st:Q3) (a b:Bool):oIs st (.bl a) (.bl b)=.ok (.bl (a == b)) st:=rfl
@[simp] theorem Qjx (st:Q3) (p:PV):Uv st p .non=.ok (.bl (!jc p)) st:=rfl
@[simp] theorem Qmn (st:Q3) (a b:Bool):Uv st (.bl a) (.bl b)=.ok (.bl (a != b)) st:=rfl
@[simp] theorem Qmw (st:Q3) (xs:List PV):Up st (.lst xs)=some xs:=rfl
@[simp] theorem Q95 (st:Q3) (xs:List PV):Za st (.lst xs)=some xs:=rfl
@[simp] theorem Qkc (st:Q3) (xs:List PV):Za st (.fro xs)=some xs:=rfl
@[simp] theorem Q40 (st:Q3) (xs:List PV):Wx st (.lst xs)=some xs:=rfl
@[simp] theorem Qmk (st:Q3) (xs:List PV):Wx st (.fro xs)=some xs:=rfl
@[simp] theorem Q3z (st:Q3) (xs:List PV):Wx st (.tup xs)=some xs:=rfl
@[simp] theorem Qmi (st:Q3) (xs:List PV):We st (.lst xs)=some (xs,[]):=rfl
@[simp] theorem Qmj (st:Q3) (xs:List PV):We st (.fro xs)=some (xs,[]):=rfl
@[simp] theorem Qmh (st:Q3) (xs:List PV):We st (.tup xs)=some (xs,[]):=rfl
theorem Qbi {st:Q3} {i:Nat} {xs:List PV} (h:st[i]?=some (.lst xs)):Up st (.ref i)=some xs:=by simp only [Up,h]
theorem Q2q {st:Q3} {i:Nat} {xs:List PV} (h:st[i]?=some (.lst xs)):Za st (.ref i)=some xs:=Qbi h
theorem Q3x {st:Q3} {i:Nat} {xs:List PV} (h:st[i]?=some (.lst xs)):We st (.ref i)=some (xs,[(i,.lst xs)]):=by simp only [We,h]
@[simp] theorem Q5g (st:Q3) (xs:List PV) (i:Int):oIx st (.tup xs) (.int i)=okO st (atI xs i):=rfl
@[simp] theorem Q5h (st:Q3) (xs:List PV) (i:Int):oIx st (.lst xs) (.int i)=okO st (atI xs i):=rfl
@[simp] theorem Qr1 (st:Q3) (xs:List PV) (i:Int):oIx st (.fro xs) (.int i)=okO st (atI xs i):=rfl
@[simp] theorem Qqv (st:Q3) (xs:List PV) (l h:Option Int):oSl st (.tup xs) l h=.ok (.tup (cut xs l h)) st:=rfl
@[simp] theorem Qqw (st:Q3) (xs:List PV) (l h:Option Int):oSl st (.lst xs) l h=.ok (.lst (cut xs l h)) st:=rfl
@[simp] theorem Qqx (st:Q3) (xs:List PV) (l h:Option Int):oSl st (.fro xs) l h=.ok (.lst (cut xs l h)) st:=rfl
@[simp] theorem Q87 (st:Q3) (xs:List PV):Zc st [.tup xs]=.ok (.int xs.length) st:=rfl
@[simp] theorem Qqi (st:Q3) (xs:List PV):Zc st [.lst xs]=.ok (.int xs.length) st:=rfl
@[simp] theorem Qqj (st:Q3) (xs:List PV):Zc st [.fro xs]=.ok (.int xs.length) st:=rfl
@[simp] theorem Qmz (st:Q3) (xs:List PV):Kk st [.tup xs]=.ok (.lst xs) st:=rfl
@[simp] theorem Qn0 (st:Q3) (xs:List PV):Kk st [.lst xs]=.ok (.lst xs) st:=rfl
@[simp] theorem Qn1 (st:Q3) (xs:List PV):Kk st [.fro xs]=.ok (.lst xs) st:=rfl
@[simp] theorem Qm6 (st:Q3) (xs:List PV):ji st [.tup xs]=.ok (.tup xs) st:=rfl
@[simp] theorem Qm7 (st:Q3) (xs:List PV):ji st [.lst xs]=.ok (.tup xs) st:=rfl
@[simp] theorem Qfe (g:List Bool->PV) (st:Q3) (bs:List Bool):q9 g st [.lst (bs.map .bl)]=.ok (g bs) st:=by
 simp only [q9,Q40,Option.bind_some,Qhz]
@[simp] theorem Qcd (g:List Int->Option PV) (st:Q3) (ns:List Int):Xm g st [.lst (ns.map .int)]=okO st (g ns):=by
 simp only [Xm,Q40,Option.bind_some,Q2y]
@[simp] theorem Qn2 (g:List Int->Option PV) (st:Q3) (ns:List Int):Xm g st [.tup (ns.map .int)]=okO st (g ns):=by
 simp only [Xm,Q3z,Option.bind_some,Q2y]
@[simp] theorem Qfd (st:Q3) (a b:Int):Q9m st [.int a,.int b]=.ok (.int (if b > a then b else a)) st:=rfl
@[simp] theorem Qqh (st:Q3) (a b:Int):Qfc st [.int a,.int b]=.ok (.int (if b < a then b else a)) st:=rfl
@[simp] theorem Qn4 (st:Q3):wOk [] st=True:=by simp [wOk]
@[simp] theorem Q9c (st:Q3) (b:Bool):fin st (.bl b) st=.ok (.bl b) st:=by simp [fin,fz]
@[simp] theorem Qrj (st:Q3) (b:Int):fin st (.int b) st=.ok (.int b) st:=by simp [fin,fz]
@[simp] theorem Qri (st:Q3):fin st .non st=.ok .non st:=by simp [fin,fz]
@[simp] theorem Qrh (st:Q3) (b:Str):fin st (.str b) st=.ok (.str b) st:=by simp [fin,fz]
theorem Qp:lim=1000000:=rfl
theorem U1 {α:Type} (g f:α->PV) {ga:GA} {me:ME} {w:Wt} {Γ0:Gam} {st:Q3} (hw:wOk w st) {ys:List α} (h:∀ y∈ys,∃ Γ1,ga (g y) Γ0=some Γ1/\me Γ1 st=.ok (f y) st):Jc ga Ya me w Γ0 (ys.map g) st=.ok (ys.map f) st:=by
 induction ys with
 | nil=>simp [Jc,hw]
 | cons y ys ih=>
  obtain ⟨Γ1,h1,h2⟩:=h y D9;have ih:=ih fun z hz=>h z (O7 _ hz)
  rw [O6,Jc,bS hw,h1];simp [h2,ih]
theorem Kj {α:Type} (g f:α->PV) (t:α->Bool) {ga:GA} {mt:MT} {me:ME} {w:Wt} {Γ0:Gam} {st:Q3} (hw:wOk w st) {ys:List α} (h:∀ y∈ys,∃ Γ1,ga (g y) Γ0=some Γ1/\mt Γ1 st=.ok (t y) st/\(t y=true->me Γ1 st=.ok (f y) st)):Jc ga mt me w Γ0 (ys.map g) st=.ok ((ys.filter t).map f) st:=by
 induction ys with
 | nil=>simp [Jc,hw]
 | cons y ys ih=>
  obtain ⟨Γ1,h1,h2,h3⟩:=h y D9;have ih:=ih fun z hz=>h z (O7 _ hz)
  rw [O6,Jc,bS hw,h1];simp only [h2,Y2,ih];cases tx:t y with
  | true=>simp [h3 tx,tx,ih]
  | false=>simp [tx]
@[simp] theorem Qqk {α:Type} (g:List Bool->PV) (st:Q3) (ys:List α) (b:α->Bool):q9 g st [.lst (ys.map fun y=>.bl (b y))]=.ok (g (ys.map b)) st:=by
 rw [show (ys.map fun y=>PV.bl (b y))=(ys.map b).map .bl by rw [G6]; rfl,Qfe]
@[simp] theorem z8 {α:Type} (g:List Int->Option PV) (st:Q3) (ys:List α) (b:α->Int):Xm g st [.lst (ys.map fun y=>.int (b y))]=okO st (g (ys.map b)):=by
 rw [show (ys.map fun y=>PV.int (b y))=(ys.map b).map .int by rw [G6]; rfl,Qcd]
theorem Vx {α:Type} (g:α->PV) {xs:List α} (I:Nat->Gam->Q3->Prop) {ga:GA} {body:MS} {w:Wt} (hw:∀ i Γ st,I i Γ st->wOk w st)
  (h:∀ (i:Nat) x Γ st,xs[i]?=some x->I i Γ st->∃ Γ1,ga (g x) Γ=some Γ1/\∃ Γ2 st2,body Γ1 st=.nx Γ2 st2/\I (i + 1) Γ2 st2) {Γ:Gam} {st:Q3} (h0:I 0 Γ st):∃ Γ' st',Zr ga body w (xs.map g) Γ st=.nx Γ' st'/\I xs.length Γ' st':=by
 induction xs generalizing I Γ st with
 | nil=>exact ⟨Γ,st,by simp [Zr,hw 0 Γ st h0],h0⟩
 | cons x xs ih=>
  obtain ⟨Γ1,h1,Γ2,st2,e2,i2⟩:=h 0 x Γ st rfl h0;obtain ⟨Γ',st',e3,i3⟩:=ih (fun i=>I (i + 1)) (fun i Γ st z=>hw (i + 1) Γ st z) (fun i y Γ st hy z=>h (i + 1) y Γ st (by simpa using hy) z) i2
  refine ⟨Γ',st',?_,i3⟩;rw [O6,Zr,bS (hw 0 Γ st h0),h1];simp only [e2];exact e3
theorem Qbx {α:Type} (g:α->PV) {xs:List α} (I:List α->Gam->Q3->Prop) {ga:GA} {body:MS} {w:Wt} (hw:∀ pre Γ st,I pre Γ st->wOk w st)
  (h:∀ pre x post Γ st,xs=pre ++ x :: post->I pre Γ st->∃ Γ1,ga (g x) Γ=some Γ1/\∃ Γ2 st2,body Γ1 st=.nx Γ2 st2/\I (pre ++ [x]) Γ2 st2) {Γ:Gam} {st:Q3} (h0:I [] Γ st):∃ Γ' st',Zr ga body w (xs.map g) Γ st=.nx Γ' st'/\I xs Γ' st':=by
 have key:∀ (post pre:List α) (Γ:Gam) (st:Q3),xs=pre ++ post->I pre Γ st->∃ Γ' st',Zr ga body w (post.map g) Γ st=.nx Γ' st'/\I xs Γ' st':=by
  intro post
  induction post with
  | nil=>intro pre Γ st e i; exact ⟨Γ,st,by simp [Zr,hw pre Γ st i],by rw [e,L1]; exact i⟩
  | cons x post ih=>
   intro pre Γ st e i;obtain ⟨Γ1,h1,Γ2,st2,e2,i2⟩:=h pre x post Γ st e i;obtain ⟨Γ',st',e3,i3⟩:=ih (pre ++ [x]) Γ2 st2 (by rw [e]; simp) i2;refine ⟨Γ',st',?_,i3⟩;rw [O6,Zr,bS (hw pre Γ st i),h1];simp only [e2];exact e3
 exact key xs [] Γ st rfl h0
theorem Q42 (lo:Int) (n:Nat):Zn lo n=(List.range n).map fun k=>.int (lo + (k:Int)):=rfl
theorem Q68 {α β:Type} (f:α->PV) (g:β->PV) (xs:List α) (ys:List β):Q0q (xs.map f) (ys.map g)=(xs.zip ys).map fun z=>.tup [f z.1,g z.2]:=by
 rw [Q50,List.zip_map,G6]; rfl
theorem Q4k {α:Type} (f:α->PV):∀ (n:Nat) (xs:List α),X1 n (xs.map f)=(xs.zipIdx n).map fun z=>.tup [.int (z.2:Nat),f z.1]
 | n,[]=>rfl
 | n,x :: xs=>by rw [O6,X1,Q4k f (n + 1) xs]; rfl
theorem qd {α:Type} (f:α->PV) (xs:List α) (i:Int):atI (xs.map f) i=(atI xs i).map f:=by
 unfold atI;rw [O3];cases ixN xs.length i with
 | none=>rfl
 | some j=>simp [D6]
theorem atI_get {α:Type} {xs:List α} {i:Nat} {x:α} (h:xs[i]?=some x):atI xs (i:Int)=some x:=by
 have hl:=(O0.mp h).1;unfold atI ixN;rw [bS (by omega),bS (by omega)];simpa using h
theorem Q5z {α:Type} (f:α->PV) (xs:List α) (l h:Option Int):cut (xs.map f) l h=(cut xs l h).map f:=by
 unfold cut;rw [O3,<- List.map_drop,<- List.map_take]
theorem Wp (n:Nat):Zn 0 n=(List.range n).map fun (k:Nat)=>PV.int (k:Int):=by
 unfold Zn;refine List.map_congr_left fun k _=>?_
 rw [Int.zero_add]
@[simp] theorem Qrs {α:Type} (st l:List α) (c:α):(st ++ c :: l)[st.length]?=some c:=by
 rw [D5 (O9 _),Nat.sub_self]; rfl
@[simp] theorem Qqt {α:Type} (st l:List α) (c d:α):(st ++ c :: d :: l)[st.length + 1]?=some d:=by
 rw [D5 (by omega)];rw [show st.length + 1 - st.length=1 by omega]; rfl
@[simp] theorem Qim {α:Type} (st l:List α) (c d:α):(st ++ c :: l).set st.length d=st ++ d :: l:=by
 rw [List.set_append_right _ _ (O9 _),Nat.sub_self]; rfl
@[simp] theorem Qqs {α:Type} (st l:List α) (c c' d:α):(st ++ c :: c' :: l).set (st.length + 1) d=st ++ c :: d :: l:=by
 rw [List.set_append_right _ _ (by omega),show st.length + 1 - st.length=1 by omega]; rfl
@[simp] theorem Qaj (st:Q3) (i:Nat) (g:List PV->Option (PV × List PV)):chg st (.ref i) g=(match st[i]? with | some (.lst xs)=>(match g xs with | some (r,ys)=>.ok r (st.set i (.lst ys)) | none=>.stuck) | _=>.stuck):=rfl
@[simp] theorem Qrf (st:Q3) (i:Nat):Up st (.ref i)=(match st[i]? with | some (.lst xs)=>some xs | _=>none):=rfl
@[simp] theorem Kf (st:Q3) (i:Nat):Za st (.ref i)=(match st[i]? with | some (.lst xs)=>some xs | _=>none):=rfl
@[simp] theorem Q1a (st:Q3) (i:Nat):Wx st (.ref i)=(match st[i]? with | some (.lst xs)=>some xs | _=>none):=rfl
@[simp] theorem Vp (st:Q3) (i:Nat):We st (.ref i)=(match st[i]? with | some (.lst xs)=>some (xs,[(i,.lst xs)]) | _=>none):=rfl
@[simp] theorem Qif (st:Q3) (p y:PV):Wf st p [y]=chg st p fun xs=>if xs.length < lim then some (.non,xs ++ [y]) else none:=rfl
@[simp] theorem Qqg (st:Q3) (i:Nat):ji st [.ref i]=(match st[i]? with | some (.lst xs)=>.ok (.tup xs) st | _=>.stuck):=by
 unfold ji; simp only [Q1a];cases st[i]? with
 | none=>rfl
 | some c=>cases c <;> rfl
@[simp] theorem Qak (st:Q3) (i:Nat):Kk st [.ref i]=(match st[i]? with | some (.lst xs)=>.ok (.lst xs) st | _=>.stuck):=by
 unfold Kk; simp only [Q1a];cases st[i]? with
 | none=>rfl
 | some c=>cases c <;> rfl
@[simp] theorem Q9n (st:Q3) (i:Nat):Zc st [.ref i]=(match st[i]? with | some (.lst xs)=>.ok (.int xs.length) st | _=>.stuck):=by
 unfold Zc; simp only [Q1a];cases st[i]? with
 | none=>rfl
 | some c=>cases c <;> rfl
@[simp] theorem Uz (st:Q3) (i:Nat) (j:Int):oIx st (.ref i) (.int j)=(match st[i]? with | some (.lst xs)=>okO st (atI xs j) | _=>.stuck):=by
 unfold oIx; simp only [Q1a];cases st[i]? with
 | none=>rfl
 | some c=>cases c <;> rfl
@[simp] theorem yj (st:Q3) (k:Nat) (j:Int) (p:PV):Uj st (.ref k) (.int j) p=(match st[k]? with | some (.lst xs)=>(ixN xs.length j).map fun n=>st.set k (.lst (xs.set n p)) | _=>none):=rfl
theorem Q4n {α:Type} (xs:List α) (k:Nat):cut xs none (some (k:Int))=xs.take k:=by
 unfold cut;rw [HT.sIx_none,HT.sIx_nat,List.drop_zero,Nat.sub_zero];rcases Nat.le_total k xs.length with h | h
 ·rw [Nat.min_eq_left h]
 ·rw [Nat.min_eq_right h,List.take_length,List.take_of_length_le h]
theorem xh {α:Type} (xs:List α) (k:Nat):cut xs (some (k:Int)) none=xs.drop k:=by
 unfold cut;rw [HT.sIx_none,HT.sIx_nat];rcases Nat.le_total k xs.length with h | h
 ·rw [Nat.min_eq_left h,List.take_of_length_le (by rw [L3]; omega)]
 ·rw [Nat.min_eq_right h,List.drop_length,List.drop_of_length_le h]; simp
theorem Zb {α:Type} {l:List α} {j:Nat} (h:j < l.length) (d:α):l[j]?=some (l.getD j d):=by
 rw [List.getD,O2 h]; rfl
def ListAt (st:Q3) (V:PV) (xs:List PV):Prop:=V=.lst xs\/V=.fro xs\/∃ i,V=.ref i/\st[i]?=some (.lst xs)
theorem ListAt.ix {st:Q3} {V:PV} {xs:List PV} (h:ListAt st V xs) (j:Int):oIx st V (.int j)=okO st (atI xs j):=by
 rcases h with rfl | rfl | ⟨i,rfl,e⟩
 ·rfl
 ·rfl
 ·rw [Uz,e]
theorem ListAt.len {st:Q3} {V:PV} {xs:List PV} (h:ListAt st V xs):Zc st [V]=.ok (.int xs.length) st:=by
 rcases h with rfl | rfl | ⟨i,rfl,e⟩
 ·rfl
 ·rfl
 ·rw [Q9n,e]
theorem ListAt.list {st:Q3} {V:PV} {xs:List PV} (h:ListAt st V xs):Kk st [V]=.ok (.lst xs) st:=by
 rcases h with rfl | rfl | ⟨i,rfl,e⟩
 ·rfl
 ·rfl
 ·rw [Qak,e]
theorem ListAt.src {st:Q3} {V:PV} {xs:List PV} (h:ListAt st V xs):∃ w,We st V=some (xs,w)/\wOk w st:=by
 rcases h with rfl | rfl | ⟨i,rfl,e⟩
 ·exact ⟨[],rfl,by simp⟩
 ·exact ⟨[],rfl,by simp⟩
 ·exact ⟨[(i,.lst xs)],by rw [Vp,e],by simp [wOk,e]⟩
theorem Qc6 {α:Type} (g:α->PV) {xs:List α} (I:Nat->List PV->Q3->Prop) {ga:GA} {me:ME} {w:Wt} {Γ0:Gam} (hw:∀ i out st,I i out st->wOk w st)
  (h:∀ (i:Nat) x out st,xs[i]?=some x->I i out st->∃ Γ1,ga (g x) Γ0=some Γ1/\∃ v st2,me Γ1 st=.ok v st2/\I (i + 1) (out ++ [v]) st2) {st:Q3} (h0:I 0 [] st):∃ out st',Jc ga Ya me w Γ0 (xs.map g) st=.ok out st'/\I xs.length out st':=by
 have key:∀ (ys:List α) (k:Nat) (pre:List PV) (st:Q3),(∀ i,ys[i]?=xs[k + i]?)->k + ys.length=xs.length->I k pre st->∃ out st',Jc ga Ya me w Γ0 (ys.map g) st=.ok out st'/\I xs.length (pre ++ out) st':=by
  intro ys
  induction ys with
  | nil=>
   intro k pre st e e2 i;refine ⟨[],st,by simp [Jc,hw k pre st i],?_⟩;rw [L1,<- e2]; exact i
  | cons y ys ih=>
   intro k pre st e e2 i;have e0:xs[k]?=some y:=by have:=e 0; simpa using this.symm
   obtain ⟨Γ1,h1,v,st2,h2,i2⟩:=h k y pre st e0 i;obtain ⟨out,st',h3,i3⟩:=ih (k + 1) (pre ++ [v]) st2 (fun i=>by
    have:=e (i + 1);rw [List.getElem?_cons_succ] at this;rw [this]; congr 1; omega) (by rw [<- e2,E1]; omega) i2
   refine ⟨v :: out,st',?_,by simpa using i3⟩;rw [O6,Jc,bS (hw k pre st i),h1];simp [Ya,h2,h3]
 obtain ⟨out,st',h1,h2⟩:=key xs 0 [] st (fun i=>by simp) (by simp) h0;exact ⟨out,st',h1,by simpa using h2⟩
@[simp] theorem Qmr (ma:ME) (Γ:Gam) (st:Q3):Kw ma Γ st=(ma Γ st).bind fun p st1=>match Wx st1 p with | some xs=>.ok xs st1 | none=>.stuck:=rfl
@[simp] theorem Qpu (ma mb:ME) (Γ:Gam) (st:Q3):Q7e ma mb Γ st=(ma Γ st).bind fun x st1=>(mb Γ st1).bind fun y st2=>Q49 st2 x y:=rfl
theorem ju:∀ {xs:List PV},(∀ x∈xs,peq x x=true)->Uk xs xs=true
 | [],_=>rfl
 | x :: xs,h=>by
  rw [Uk,h x D9,ju fun y hy=>h y (O7 _ hy)]; rfl
theorem yn:∀ {n:Nat} {p:PV},Jq n p=true->peq p p=true
 | n,.non,_=>rfl
 | n,.bl b,_=>by simp [peq]
 | n,.int b,_=>by simp [peq]
 | n,.str b,_=>by simp [peq]
 | n,.ref _,g=>by cases n <;> simp [Jq] at g
 | n,.dic,g=>by cases n <;> simp [Jq] at g
 | 0,.tup _,g=>by simp [Jq] at g
 | 0,.lst _,g=>by simp [Jq] at g
 | 0,.fro _,g=>by simp [Jq] at g
 | n + 1,.tup xs,g=>by
  rw [peq]; refine ju fun x hx=>yn (n:=n) ?_
  simp [Jq] at g; exact g x hx
 | n + 1,.lst xs,g=>by
  rw [peq]; refine ju fun x hx=>yn (n:=n) ?_
  simp [Jq] at g; exact g x hx
 | n + 1,.fro xs,g=>by
  rw [peq]; refine ju fun x hx=>yn (n:=n) ?_
  simp [Jq] at g; exact g x hx
section
variable {X:Cx} {E:XK} {a b:aH} {ma mb:ME} {pos:Pos}
theorem Qfg:aY "set" = some (.type "set"):=by decide +kernel
def Q4b (ma mb:ME):ML:=fun Γ st=>(ma Γ st).bind fun p st1=>(mb Γ st1).bind fun q st2=>match q,Za st2 p with
 | .int i,some xs=>if i=-1 then .ok xs.reverse st2 else .stuck
 | _,_=>.stuck
theorem Qit {p2:Pos} (ha:SimE X E a ma) (hb:SimE X E b mb):SimN X E (.Subscript a (.Slice none none (some b) p2) pos) (Q4b ma mb):=
 ⟨fun Γ σ H ρ st P Q R G hq k=>WE.of (Qje Zj Zj) (ha.use' R G hq.bind fun p st1 H1 ρ1 v e1 x1 R1 G1 r1 h1=>hb.use' R1 G1 h1.bind fun q st2 H2 ρ2 u e2 x2 R2 G2 r2 h2=>by
  split at h2
  ·rename_i i xs f
   split at h2
   ·rename_i hi;subst hi;have eu:u=.int (-1):=r2;subst eu;obtain ⟨c,vs,rfl,hc,rc⟩:=Xu R2 (r1.ext x2) f;refine ⟨rfl,c,vs,rfl,.inl hc,Q5j (x1.trans x2) R2 rc.reverse fun H3 ρ3 z us=>k xs.reverse st2 H3 ρ3 z us ?_⟩;unfold Q4b;rw [e1];show (mb Γ st1).bind _=_;rw [e2];show (match PV.int (-1),Za st2 p with | .int i,some xs=>if i=-1 then Res.ok xs.reverse st2 else .stuck | _,_=>.stuck)=_
    rw [f];rfl
   ·exact h2.elim
  ·exact h2.elim)⟩
@[simp] theorem Qpn (ma mb:ME) (Γ:Gam) (st:Q3):Q4b ma mb Γ st=(ma Γ st).bind fun p st1=>(mb Γ st1).bind fun q st2=>match q,Za st2 p with
 | .int i,some xs=>if i=-1 then .ok xs.reverse st2 else .stuck
 | _,_=>.stuck:=rfl
end
def Wc (body:MS) (nl:Nat):FN:=fun ps st=>match body (ps.map some ++ List.replicate (nl - ps.length) none) st with
 | .rt v st'=>.ok v st'
 | .nx _ st'=>.ok .non st'
 | .exc x st'=>.exc x st'
 | _=>.stuck
section
variable {P:aL} {w:aK} {K:PySem.W.Frag} {mg:Str->Option aA} {base:Heap}
theorem Qht {x qual:Str} {st:aP} {f:aB} {fd:aR} {N ps:List Str} {k:Nat} {m:MS} (F:Fun K x qual st f fd) (S:FnScope N ps (Qa st))
  (hb:∀ (cdv:aA) (A:aM) (outer:List PySem.Env) (s:aC) (H:Hp) (E:XK),Room k (A.deeper (PyProof.Rows.envOfC qual (Qa st) s.heap.objs.size f cdv))->SimB (cxD P w K mg base N qual (Qa st) f cdv A outer s H E) E (Qv st) m) :
  FnOk P w K mg base (CXD P w) (k + 1) f fd ps (spF mg ps.length (Wc m N.length)):=by
 refine Fun.okD F S (fun vs H Q E h=>h.1) fun cdv A outer s H vs Q E hr hsp=>⟨_,Q43,?_⟩
 obtain ⟨hl,ρ,st0,pvs,R,rl,hA⟩:=hsp;refine (hb cdv A outer s H E hr).run _ (L2.start N vs) H ρ st0 _ R (Q3v rl) ?_;unfold Wc at hA;cases rr:m (pvs.map some ++ List.replicate (N.length - pvs.length) none) st0 with
 | rt v st1=>rw [rr] at hA; exact fun v H' ρ' x R' r=>hA H' ρ' x R' v r
 | nx Γ st1=>rw [rr] at hA; exact fun σ' H' ρ' x' R' G'=>hA H' ρ' x' R' .non rfl
 | bk Γ st1=>rw [rr] at hA; exact hA.elim
 | ct Γ st1=>rw [rr] at hA; exact hA.elim
 | stuck=>rw [rr] at hA; exact hA.elim
 | exc y st1=>rw [rr] at hA; exact hA
end
theorem Xj {P:aL} {w:aK} {K:PySem.W.Frag} {mg:Str->Option aA} {base:Heap} {x qual:Str} {st:aP} {f:aB} {fd:aR} {N ps:List Str} {k n nl:Nat} {m:MS} {FF:FN} (F:Fun K x qual st f fd) (S:FnScope N ps (Qa st)) (hn:ps.length=n) (hnl:N.length=nl) (hF:FF=Wc m nl)
  (hb:∀ (cdv:aA) (A:aM) (outer:List PySem.Env) (s:aC) (H:Hp) (E:XK),Room k (A.deeper (PyProof.Rows.envOfC qual (Qa st) s.heap.objs.size f cdv))->SimB (cxD P w K mg base N qual (Qa st) f cdv A outer s H E) E (Qv st) m) :
  FnOk P w K mg base (CXD P w) (k + 1) f fd ps (spF mg n FF):=by
 subst hn; subst hnl; subst hF;exact Qht F S hb
end Sm
namespace Sm
open PySem PySem.Spec PyProof.Rows L2
section
variable {X:Cx} {E:XK} {pos:Pos} {a b:aH} {ma mb:ME}
end
end Sm
namespace Sm
open PySem PySem.Spec L2
section
variable {X:Cx} {E:XK} {pos:Pos} {e:aH} {m:ME}
end
section
end
section
variable {X:Cx} {E:XK} {pos dpos:Pos} {e1 e2 e3 i:aH} {m1 m2 m3 mi:ME} {k1 k2 k3:Str} {j1 j2 j3:Nat} {q1 q2 q3:Pos}
end
section
variable {X:Cx} {E:XK} {pos:Pos} {e:aH} {m:ME}
end
theorem Yj {k:Nat} {A:aM} (r:Room k A):A.units + 1 < aW:=by have:=r.un; omega
section
variable {X:Cx} {E:XK}
def Qt4:OP:=fun st p q=>match fz 0 st 16 p,fz 0 st 16 q with
 | some p',some q'=>if Jq dep p'=true/\Jq dep q'=true then .ok (.bl (peq p' q')) st else .stuck
 | _,_=>.stuck
end
section
variable {H0 H:Hp} {ρ0 ρ:Tk} {st:Q3} {a:aB} {ps:List (Key × PV)} {vs:List (Key × V)}
theorem Qe1 (R0:Rel H0 ρ0 st) (x:Ext H0 ρ0 H ρ) {st1:Q3} (R:Rel H ρ st1) (hm:a∈ρ.hid) (hn:H0 a=none) (ha:H a=some (.dK vs)) (r:RepD H ρ ps vs) :
  Ext H0 ρ0 H ⟨ρ.tr ++ [a],ρ0.hid⟩/\Rel H ⟨ρ.tr ++ [a],ρ0.hid⟩ (st1 ++ [.dic ps])/\Rep H ⟨ρ.tr ++ [a],ρ0.hid⟩ (.ref st1.length) (.ref a):=by
 have na0:a∉ρ0.hid:=fun z=>by
  obtain ⟨o,e,_⟩:=R0.hd a z;rw [hn] at e; cases e
 refine ⟨⟨x.pre.trans (List.prefix_append _ _),fun _ h=>h,fun _ h=>.inl h,x.keep,fun b hb=>?_,x.old,x.frz⟩,⟨?_,?_,fun b hb=>R.hd b (x.hidM b hb),fun b hb z=>?_,fun i b c h1 h2=>?_⟩,a,?_,rfl⟩
 ·rcases E3.mp hb with z | z
  ·exact x.new b z
  ·have:b=a:=by simpa using z
   subst this; exact .inr hn
 ·show (ρ.tr ++ [a]).length=_;rw [D0,D0,R.len]; rfl
 ·show (ρ.tr ++ [a]).Nodup;refine List.nodup_append.mpr ⟨R.nd,by simp,fun b hb c hc e=>?_⟩;have:c=a:=by simpa using hc
  subst this; subst e;exact R.ap b hm hb
 ·rcases E3.mp z with z | z
  ·exact R.ap b (x.hidM b hb) z
  ·have:b=a:=by simpa using z
   subst this; exact na0 hb
 ·have h1:(ρ.tr ++ [a])[i]?=some b:=h1
  by_cases hi:i < st1.length
  ·rw [O5 (by rw [R.len]; exact hi)] at h1;rw [O5 hi] at h2;have q:=R.cell i b c h1 h2;cases c with
   | lst qs=>
    obtain ⟨us,e1,e2⟩:=q;exact ⟨us,e1,e2.trk hm x.hidM⟩
   | dic qs=>
    obtain ⟨us,e1,e2⟩:=q;exact ⟨us,e1,e2.1,e2.2.trk hm x.hidM⟩
   | dtp qs=>
    obtain ⟨us,e1,e2⟩:=q;exact ⟨us,e1,e2.1,e2.2.trk hm x.hidM⟩
   | frd qs=>
    obtain ⟨us,e1,e2⟩:=q;exact ⟨us,e1,e2.1,e2.2.trk hm x.hidM⟩
   | obj C qs=>
    obtain ⟨us,e1,e2⟩:=q;exact ⟨us,e1,e2.1,e2.2.trk hm x.hidM⟩
  ·rw [D5 (by rw [R.len]; omega)] at h1;rw [D5 (by omega)] at h2;have e0:i - st1.length=0:=by
    rcases Nat.eq_zero_or_pos (i - st1.length) with z | z
    ·exact z
    ·rw [List.getElem?_eq_none (by simp; omega)] at h2; cases h2
   rw [R.len,e0] at h1;rw [e0] at h2;simp at h1 h2;subst h1; subst h2;exact ⟨vs,ha,r.1,r.2.trk hm x.hidM⟩
 ·show (ρ.tr ++ [a])[st1.length]?=some a;rw [<- R.len,D5 (O9 _),Nat.sub_self]; rfl
end
def J7 (kvs:List (Key × PV)) (k:Key):Option PV:=(kvs.find? fun kv=>decide (kv.1=k)).map (·.2)
def qw (kvs:List (Key × PV)) (k:Key) (v:PV):List (Key × PV):=
 if (kvs.any fun kv=>decide (kv.1=k))=true then kvs.map (fun kv=>if kv.1=k then (kv.1,v) else kv) else kvs ++ [(k,v)]
def Xi:PV->Option Key
 | .int i=>some (.inl i)
 | .str x=>some (.inr x)
 | _=>none
theorem jt {H:Hp} {ρ:Tk} {p:PV} {v:V} {k:Key} (e:Xi p=some k) (r:Rep H ρ p v):v=kV k:=by
 cases p with
 | int i=>cases e; exact r
 | str x=>cases e; exact r
 | _=>cases e
theorem qu {H:Hp} {ρ:Tk}:∀ {kvs:List (Key × PV)} {vs:List (Key × V)},RepD H ρ kvs vs->∀ k:Key,(J7 kvs k=none/\Kp vs k=none)\/∃ p v,J7 kvs k=some p/\Kp vs k=some v/\Rep H ρ p v
 | [],[],_,k=>.inl ⟨rfl,rfl⟩
 | [],_ :: _,r,_=>by have:=r.length; cases this
 | _ :: _,[],r,_=>by have:=r.length; cases this
 | (k1,p1) :: kvs,(k2,v2) :: vs,r,k=>by
  obtain ⟨r1,v,t,e,r2,r3⟩:=r;have e1:k2=k1/\vs.map Prod.fst=kvs.map Prod.fst:=by
   have:k2 :: vs.map Prod.fst=k1 :: kvs.map Prod.fst:=r1;exact List.cons.inj this
  have e2:v2 :: vs.map Prod.snd=v :: t:=e;cases e2;obtain ⟨rfl,e3⟩:=e1
  by_cases q:k2=k
  ·exact .inr ⟨p1,v2,by simp [J7,q],by simp [Kp,q],r2⟩
  ·have ih:=qu (kvs:=kvs) (vs:=vs) ⟨e3,r3⟩ k;have a1:J7 ((k2,p1) :: kvs) k=J7 kvs k:=by simp [J7,F1,q]
   have a2:Kp ((k2,v2) :: vs) k=Kp vs k:=by simp [Kp,F1,q]
   rw [a1,a2]; exact ih
section
variable {X:Cx} {E:XK} {pos dpos apos cpos:Pos} {e e1 e2 e3 i o f:aH} {m m1 m2 m3 mi mo mf:ME} {k1 k2 k3:Str} {j1 j2 j3:Nat} {q1 q2 q3:Pos}
def Qt3 (st:Q3) (i:Nat) (k z:PV):Res PV:=match st[i]?,Xi k with
 | some (.dic kvs),some k=>.ok ((J7 kvs k).getD z) st
 | _,_=>.stuck
def Qt1 (st:Q3) (i:Nat):Bool:=match st[i]? with
 | some (.dic _)=>true
 | _=>false
end
def zh (st:Q3):PV->Option (List (Key × PV))
 | .ref i=>match st[i]? with
  | some (.dic kvs)=>some kvs
  | some (.frd kvs)=>some kvs
  | _=>none
 | _=>none
theorem jh {H:Hp} {ρ:Tk} {st:Q3} {p:PV} {v:V} {kvs:List (Key × PV)} (R:Rel H ρ st) (r:Rep H ρ p v) (e:zh st p=some kvs):∃ i a vs,p=.ref i/\v=.ref a/\ρ.tr[i]?=some a/\Rd H a (.dK vs)/\RepD H ρ kvs vs:=by
 cases p with
 | ref i=>
  obtain ⟨a,ea,rfl⟩:=r;unfold zh at e;cases z:st[i]? with
  | none=>simp only [z] at e; cases e
  | some c=>
   simp only [z] at e;cases c with
   | dic kvs'=>
    cases e;obtain ⟨b,vs,eb,hb,rd⟩:=R.dic z;rw [ea] at eb;cases eb;exact ⟨i,a,vs,rfl,rfl,ea,.inl hb,rd⟩
   | frd kvs'=>
    cases e;obtain ⟨b,vs,o,eb,hb,rd⟩:=R.frd z;rw [ea] at eb;cases eb;exact ⟨i,a,vs,rfl,rfl,ea,.inr ⟨o,hb⟩,rd⟩
   | lst xs=>cases e
   | dtp xs=>cases e
   | obj C xs=>cases e
 | _=>cases e
def Qf3 (st:Q3) (i:Nat):Option (List (Key × PV)):=match st[i]? with
 | some (.dic kvs)=>some kvs
 | _=>none
theorem Qhw {st:Q3} {i:Nat} {kvs:List (Key × PV)} (e:Qf3 st i=some kvs):st[i]?=some (.dic kvs):=by
 unfold Qf3 at e
 split at e
 ·rename_i q; cases e; exact q
 ·cases e
theorem DGet.kr {H:Hp} {a:aB} {kvs:List (Key × V)} {k:Key} (e:Rd H a (.dK kvs)):DGet H a (kV k) (Kp kvs k):=.inl ⟨kvs,k,e,rfl,rfl⟩
theorem Q6q {H:Hp} {ρ:Tk} {kvs:List (Key × PV)} {vs:List (Key × V)} (r:RepD H ρ kvs vs) (k:Key) {p:PV} {v:V} (rp:Rep H ρ p v):RepD H ρ (qw kvs k p) (Kb vs k v):=by
 have ha:(kvs.any fun kv=>decide (kv.1=k))=vs.any fun kv=>decide (kv.1=k):=by
  have e1:(kvs.any fun kv=>decide (kv.1=k))=(kvs.map Prod.fst).any fun x=>decide (x=k):=by rw [List.any_map]; rfl
  have e2:(vs.any fun kv=>decide (kv.1=k))=(vs.map Prod.fst).any fun x=>decide (x=k):=by rw [List.any_map]; rfl
  rw [e1,e2,r.1]
 unfold qw Kb;rw [<- ha]
 by_cases q:(kvs.any fun kv=>decide (kv.1=k))=true
 ·rw [bS q,bS q];have key:∀ (kvs:List (Key × PV)) (vs:List (Key × V)),RepD H ρ kvs vs->RepD H ρ (kvs.map fun kv=>if kv.1=k then (kv.1,p) else kv) (vs.map fun kv=>if kv.1=k then (kv.1,v) else kv):=by
   intro kvs
   induction kvs with
   | nil=>
    intro vs r;cases vs with
    | nil=>exact r
    | cons _ _=>have:=r.length; cases this
   | cons a kvs ih=>
    intro vs r;cases vs with
    | nil=>have:=r.length; cases this
    | cons b vs=>
     obtain ⟨r1,x,t,e,r2,r3⟩:=r;obtain ⟨e1,e2⟩:=List.cons.inj (show b.1 :: vs.map Prod.fst=a.1 :: kvs.map Prod.fst from r1);obtain ⟨e3,e4⟩:=List.cons.inj (show b.2 :: vs.map Prod.snd=x :: t from e);subst e3; subst e4;obtain ⟨i1,i2⟩:=ih vs ⟨e2,r3⟩
     by_cases z:a.1=k
     ·have zb:b.1=k:=e1.trans z;refine ⟨?_,?_⟩
      ·rw [O6,O6,O6,O6,bS z,bS zb];show b.1 :: _=a.1 :: _;rw [e1,i1]
      ·rw [O6,O6,O6,O6,bS z,bS zb];exact RepL.cons rp i2
     ·have zb:¬ b.1=k:=fun h=>z (e1.symm.trans h)
      refine ⟨?_,?_⟩
      ·rw [O6,O6,O6,O6,bT z,bT zb];show b.1 :: _=a.1 :: _;rw [e1,i1]
      ·rw [O6,O6,O6,O6,bT z,bT zb];exact RepL.cons r2 i2
  exact key kvs vs r
 ·rw [bT q,bT q];refine ⟨?_,?_⟩
  ·rw [E5,E5,r.1]; rfl
  ·rw [E5,E5];exact r.2.append (RepL.cons rp RepL.nil)
section
variable {X:Cx} {E:XK} {pos dpos tpos:Pos} {e i o k:aH} {m mi mo mk:ME}
def Q5i (neg:Bool):OP:=fun st p q=>match zh st q,Xi p with
 | some kvs,some k=>.ok (.bl ((J7 kvs k).isSome != neg)) st
 | _,_=>.stuck
theorem Qe2 (hu:X.A.units + 1 < aW):OpS X E (aU .In) (Q5i false):=⟨fun H ρ st p q x y Q R rp rq h=>by
 unfold Q5i at h
 split at h
 ·rename_i kvs k e1 e2;obtain ⟨n,a,vs,rfl,rfl,_,hb,rd⟩:=jh R rq e1;have ek:=jt e2 rp;subst ek;intro pins s σ v u I rv ru;cases ru;refine Qsq hu I (DGet.kr hb) rv fun s' I'=>⟨.bl _,H,I',rfl,?_⟩
  have:(Kp vs k).isSome=(J7 kvs k).isSome:=by
   rcases qu rd k with ⟨a1,a2⟩ | ⟨p,v,a1,a2,_⟩ <;> rw [a1,a2] <;> rfl
  rw [this];rw [Bool.bne_false] at h;exact now R h rfl
 ·exact h.elim⟩
theorem Qb4 (hu:X.A.units + 1 < aW):OpS X E (aU .NotIn) (Q5i true):=⟨fun H ρ st p q x y Q R rp rq h=>by
 unfold Q5i at h
 split at h
 ·rename_i kvs k e1 e2;obtain ⟨n,a,vs,rfl,rfl,_,hb,rd⟩:=jh R rq e1;have ek:=jt e2 rp;subst ek;intro pins s σ v u I rv ru;cases ru;refine Qhx hu I (DGet.kr hb) rv fun s' I'=>⟨.bl _,H,I',rfl,?_⟩
  have:(Kp vs k).isSome=(J7 kvs k).isSome:=by
   rcases qu rd k with ⟨a1,a2⟩ | ⟨p,v,a1,a2,_⟩ <;> rw [a1,a2] <;> rfl
  rw [this];have hh:((J7 kvs k).isSome != true)=!(J7 kvs k).isSome:=by cases (J7 kvs k).isSome <;> rfl
  rw [hh] at h;exact now R h rfl
 ·exact h.elim⟩
def Xk (st:Q3) (p q:PV):Res PV:=match zh st p,Xi q with
 | some kvs,some k=>match J7 kvs k with
  | some v=>.ok v st
  | none=>.stuck
 | _,_=>.stuck
def Vt (mo mi:ME):ME:=fun Γ st=>(mo Γ st).bind fun p st1=>(mi Γ st1).bind fun q st2=>Xk st2 p q
theorem Vq (hu:X.A.units + 1 < aW) (ho:SimE X E o mo) (hi:SimE X E i mi) (hs:Qmg i):SimE X E (.Subscript o i pos) (Vt mo mi):=
 ⟨fun Γ σ H ρ st Q R G h=>WE.of (Qgz hu Zj Zj hs) (ho.use R G h.bind fun p st1 H1 ρ1 v1 x1 R1 G1 r1 h1=>hi.use R1 G1 h1.bind fun q st2 H2 ρ2 v2 x2 R2 G2 r2 h2=>by
  unfold Xk at h2
  split at h2
  ·rename_i kvs k e1 e2
   split at h2
   ·rename_i w e3;obtain ⟨n,a,vs,rfl,rfl,_,hb,rd⟩:=jh R2 (r1.ext x2) e1;have ek:=jt e2 r2;subst ek;rcases qu rd k with ⟨a1,_⟩ | ⟨p,v,a1,a2,a3⟩
    ·rw [a1] at e3; cases e3
    ·rw [a1] at e3;cases e3;exact ⟨a,v,rfl,by have:=DGet.kr (k:=k) hb; rwa [a2] at this,now R2 h2 a3⟩
   ·exact h2.elim
  ·exact h2.elim)⟩
def jg (st:Q3) (p q v:PV):Option Q3:=match p,Xi q with
 | .ref n,some k=>match Qf3 st n with
  | some kvs=>if kvs.length < lim then some (st.set n (.dic (qw kvs k v))) else none
  | none=>none
 | _,_=>none
def Q08 (mo mi m:ME):MS:=fun Γ st=>(m Γ st).sbind fun v st1=>(mo Γ st1).sbind fun p st2=>(mi Γ st2).sbind fun q st3=>match jg st3 p q v with
 | some st4=>.nx Γ st4
 | none=>.stuck
theorem Q18 (hu:X.A.units + 1 < aW) (he:SimE X E e m) (ho:SimE X E o mo) (hi:SimE X E i mi) (hs:swapsWith e (some (.Subscript o i tpos)) pos.line X.env=pure false:=by rfl):SimS X E (.Assign [.Subscript o i tpos] e pos) (Q08 mo mi m):=
 ⟨fun Γ σ H ρ st D R G h=>WS.of (Qgk hu Zj Zj Zj hs) (he.use R G h.bind fun v st1 H1 ρ1 z x1 R1 G1 r1 h1=>ho.use R1 G1 h1.bind fun p st2 H2 ρ2 x x2 R2 G2 r2 h2=>hi.use R2 G2 h2.bind fun q st3 H3 ρ3 y x3 R3 G3 r3 h3=>by
  cases es:jg st3 p q v with
  | none=>rw [es] at h3; exact h3.elim
  | some st4=>
   rw [es] at h3;unfold jg at es
   split at es
   ·rename_i n k e2
    split at es
    ·rename_i kvs e1
     split at es
     ·rename_i hl;cases es;obtain ⟨a,ea,rfl⟩:=r2.ext x3;have hsx:=Qhw e1;obtain ⟨b,vs,eb,hb,rd⟩:=R3.dic hsx;rw [ea] at eb;cases eb;have ek:=jt e2 r3;subst ek;have x4:Ext H3 ρ3 (upd H3 a (.dK (Kb vs k z))) ρ3:=Ext.put (E2 ea) hb;have rz:=(r1.ext (x2.trans x3)).ext x4;have R4:Rel (upd H3 a (.dK (Kb vs k z))) ρ3 (st3.set n (.dic (qw kvs k v))):=R3.putC ea hb ⟨_,Jb,Q6q (rd.ext x4) k rz⟩;refine ⟨a,_,rfl,DPut.k hb (by rw [<- rd.length]; exact D1 hl Q97),h3 σ _ ρ3 x4 R4 (G3.ext x4)⟩
     ·cases es
    ·cases es
   ·cases es)⟩
def Q5m (mk m:ME):ME:=fun Γ st=>(mk Γ st).bind fun pk st1=>(m Γ st1).bind fun pv st2=>match Xi pk with
 | some k=>.ok (.ref st2.length) (st2 ++ [.dic [(k,pv)]])
 | none=>.stuck
theorem Qd6 (hk:SimE X E k mk) (he:SimE X E e m):SimE X E (.Dict [some k] [e] dpos) (Q5m mk m):=by
 refine ⟨fun Γ σ H ρ st Q R G h=>WE.of (Qgy (Qdq Zj Zj Qgn) rfl rfl (by simp) (by simp)) ?_⟩;intro p hp;have x0:Ext H ρ (upd H p (.dK [])) (ρ.hide p):=Ext.hide hp;refine hk.use' (R.hide hp) (G.hide hp) (h.bind.later x0) fun a1 st1 H1 ρ1 v1 f1 x1 R1 G1 r1 _=>?_
 have h:=h;unfold Q5m at h;rw [f1] at h;have h:Acc X.mg E H ρ (QV Q) ((m Γ st1).bind fun pv st2=>match Xi a1 with
  | some k=>.ok (.ref st2.length) (st2 ++ [.dic [(k,pv)]])
  | none=>.stuck):=h
 refine he.use' R1 G1 (h.bind.later (x0.trans x1)) fun a2 st2 H2 ρ2 v2 f2 x2 R2 G2 r2 _=>?_
 rw [f2] at h;cases kk:Xi a1 with
 | none=>
  have h:Acc X.mg E H ρ (QV Q) (match Xi a1 with
   | some k=>.ok (.ref st2.length) (st2 ++ [.dic [(k,a2)]])
   | none=>.stuck):=h
  rw [kk] at h; exact h.elim
 | some k'=>
  have h:Acc X.mg E H ρ (QV Q) (match Xi a1 with
   | some k=>.ok (.ref st2.length) (st2 ++ [.dic [(k,a2)]])
   | none=>.stuck):=h
  rw [kk] at h;have ek:=jt kk r1;subst ek;have xe:Ext (upd H p (.dK [])) (ρ.hide p) H2 ρ2:=x1.trans x2;have pt0:p∉(ρ.hide p).tr:=fun z=>R.fresh hp (.inl z)
  have hp3:H2 p=some (.dK []):=xe.keep p _ Jb pt0;have ph3:p∈ρ2.hid:=xe.hidM p D9;refine ⟨hp3,[(k',v2)],rfl,by simp,?_⟩;have hm:Ub [] [(k',v2)]=[(k',v2)]:=by simp [Ub,Kb]
  rw [hm];have y:Ext H ρ (upd H2 p (.dK [(k',v2)])) ρ2:=(x0.trans xe).put0 hp;have g2:=r2.rehide (o:=.dK [(k',v2)]) ph3;obtain ⟨x5,R5,r5⟩:=Qe1 (ps:=[(k',a2)]) R y (R2.rehide ph3) ph3 hp Jb ⟨rfl,RepL.cons g2 RepL.nil⟩;exact h _ _ x5 R5 _ r5
end
theorem Qce:aY "dict" = some (.type "dict"):=by decide +kernel
def qx:List PV->Option (List (Key × PV))
 | []=>some []
 | .tup [k,v] :: xs=>match Xi k with
  | some k=>(qx xs).map ((k,v) :: ·)
  | none=>none
 | _ :: _=>none
def Q5k (kvs more:List (Key × PV)):List (Key × PV):=more.foldl (fun acc kv=>qw acc kv.1 kv.2) kvs
theorem Q29 {H:Hp} {ρ:Tk}:∀ {more:List (Key × PV)} {mv:List (Key × V)} {kvs:List (Key × PV)} {vs:List (Key × V)},RepD H ρ more mv->RepD H ρ kvs vs->RepD H ρ (Q5k kvs more) (Ub vs mv)
 | [],[],_,_,_,r=>r
 | [],_ :: _,_,_,r,_=>by have:=r.length; cases this
 | _ :: _,[],_,_,r,_=>by have:=r.length; cases this
 | (k,p) :: more,(k',v) :: mv,kvs,vs,r,s=>by
  obtain ⟨r1,x,t,e,r2,r3⟩:=r;obtain ⟨e1,e2⟩:=List.cons.inj (show k' :: mv.map Prod.fst=k :: more.map Prod.fst from r1);obtain ⟨e3,e4⟩:=List.cons.inj (show v :: mv.map Prod.snd=x :: t from e);subst e1; subst e3; subst e4;exact Q29 (more:=more) (mv:=mv) ⟨e2,r3⟩ (Q6q s k' r2)
theorem Kc {H:Hp} {ρ:Tk}:∀ {xs:List PV} {vs:List V} {kvs:List (Key × PV)},qx xs=some kvs->RepL H ρ xs vs->∃ kw:List (Key × V),RepD H ρ kvs kw/\aa (fun (v:V) (kv:Key × V)=>∃ a,v=.ref a/\H a=some (.tup [kV kv.1,kv.2])) vs kw
 | [],vs,kvs,e,r=>by cases e; cases r; exact ⟨[],⟨rfl,rfl⟩,.nil⟩
 | .tup [k,p] :: xs,vs,kvs,e,⟨v,t,e1,r1,r2⟩=>by
  have e:(match Xi k with | some k=>(qx xs).map ((k,p) :: ·) | none=>none)=some kvs:=e
  cases kk:Xi k with
  | none=>rw [kk] at e; cases e
  | some k'=>
   rw [kk] at e;cases z:qx xs with
   | none=>rw [z] at e; cases e
   | some kvs'=>
    rw [z] at e;cases e;obtain ⟨kw,g1,g2⟩:=Kc z r2;obtain ⟨a,us,rfl,ha,_,ru⟩:=r1;obtain ⟨u1,u2,rfl,q1,q2⟩:=qt ru;have ek:=jt kk q1;subst ek;subst e1;exact ⟨(k',u2) :: kw,⟨by rw [O6,O6,g1.1],RepL.cons q2 g1.2⟩,.cons ⟨a,rfl,ha⟩ g2⟩
 | .tup [] :: _,_,_,e,_=>by cases e
 | .tup [_] :: _,_,_,e,_=>by cases e
 | .tup (_ :: _ :: _ :: _) :: _,_,_,e,_=>by cases e
 | .non :: _,_,_,e,_=>by cases e
 | .bl _ :: _,_,_,e,_=>by cases e
 | .int _ :: _,_,_,e,_=>by cases e
 | .str _ :: _,_,_,e,_=>by cases e
 | .lst _ :: _,_,_,e,_=>by cases e
 | .fro _ :: _,_,_,e,_=>by cases e
 | .ref _ :: _,_,_,e,_=>by cases e
 | .dic :: _,_,_,e,_=>by cases e
section
variable {X:Cx} {E:XK} {pos dpos tpos:Pos} {e i o k:aH} {m mi mo mk:ME} {tg:aH}
def Q0d:CF:=fun st ps=>match ps with
 | [p]=>match Za st p with
  | some xs=>match qx xs with
   | some kvs=>.ok (.ref st.length) (st ++ [.dic (Q5k [] kvs)])
   | none=>.stuck
  | none=>.stuck
 | _=>.stuck
theorem Qf6 (hc:X.calm=true):CallS X E (.type "dict") Q0d:=⟨fun H ρ st ps xs Q R rp h=>by
 unfold Q0d at h
 split at h
 ·rename_i p;obtain ⟨v,rfl,r⟩:=Y8 rp
  split at h
  ·rename_i ys el
   split at h
   ·rename_i kvs ek;obtain ⟨a,vs,rfl,hr,rl⟩:=Xu R r el;obtain ⟨kw,g1,g2⟩:=Kc ek rl;refine WC.of (Q9k hc) ⟨a,vs,kw,rfl,.inl hr,g2,fun d hd=>?_⟩;have x:Ext H ρ (upd H d (.dK (Ub [] kw))) (ρ.add d):=Ext.addT hd;refine h _ _ x (R.addC hd ⟨_,Jb,(Q29 g1 (show RepD H ρ [] [] from ⟨rfl,RepL.nil⟩)).ext x⟩) _ ⟨d,?_,rfl⟩;show (ρ.tr ++ [d])[st.length]?=some d;rw [<- R.len,D5 (O9 _),Nat.sub_self]; rfl
   ·exact h.elim
  ·exact h.elim
 ·exact h.elim⟩
def Q2p:ME:=fun Γ st=>.ok (.ref st.length) (st ++ [.dic []])
theorem Q6i:SimE X E (.Dict [] [] dpos) Q2p:=⟨fun Γ σ H ρ st Q R G h=>WE.of Qdx fun d hd=>by
 have x:Ext H ρ (upd H d (.dK [])) (ρ.add d):=Ext.addT hd;refine h _ _ x (R.addC hd ⟨_,Jb,rfl,rfl⟩) _ ⟨d,?_,rfl⟩;show (ρ.tr ++ [d])[st.length]?=some d;rw [<- R.len,D5 (O9 _),Nat.sub_self]; rfl⟩
@[simp] theorem Qmt (Γ:Gam) (st:Q3):Q2p Γ st=.ok (.ref st.length) (st ++ [.dic []]):=rfl
end
def Kg:List PV->Option (List Int)
 | []=>some []
 | .int i :: xs=>(Kg xs).map (i :: ·)
 | _ :: _=>none
def Qct (ns:List Int):PV:=.tup (ns.map .int)
theorem Q2x {H:Hp} {ρ:Tk}:∀ {xs:List PV} {ns:List Int} {vs:List V},Kg xs=some ns->RepL H ρ xs vs->vs=ns.map V.int/\xs=ns.map PV.int
 | [],_,_,e,r=>by cases e; exact ⟨r,rfl⟩
 | .int i :: xs,ns,_,e,⟨v,t,e1,r1,r2⟩=>by
  have e:(Kg xs).map (i :: ·)=some ns:=e;cases z:Kg xs with
  | none=>rw [z] at e; cases e
  | some ns'=>
   rw [z] at e;cases e;obtain ⟨h1,h2⟩:=Q2x z r2;have r1:v=.int i:=r1;exact ⟨by rw [e1,r1,h1]; rfl,by rw [h2]; rfl⟩
 | .non :: _,_,_,e,_=>by cases e
 | .bl _ :: _,_,_,e,_=>by cases e
 | .str _ :: _,_,_,e,_=>by cases e
 | .tup _ :: _,_,_,e,_=>by cases e
 | .lst _ :: _,_,_,e,_=>by cases e
 | .fro _ :: _,_,_,e,_=>by cases e
 | .ref _ :: _,_,_,e,_=>by cases e
 | .dic :: _,_,_,e,_=>by cases e
section
variable {X:Cx} {E:XK}
end
end Sm
namespace Sm
open PySem PySem.Spec PyProof.Rows L2
section
variable {X:Cx} {E:XK}
theorem Qe4:OpR X (aZ .FloorDiv) (rI (fun _ j=>0 < j/\j < 1267650600228229401496703205376) fun i j=>.int (i / j)):=opI fun i j _ _ _ _ _ hc q=>by
 have h1:(0:Int) < j:=hc.1;have h2:j < 1267650600228229401496703205376:=hc.2;refine floordiv_int (by omega) (by rw [Int.fdiv_eq_ediv_of_nonneg i (by omega)]; exact q) (.inl (PyProof.noPylong_of_log2 ?_));have:j.natAbs.log2 < 100:=(Nat.log2_lt (by omega)).mpr (by
  rw [show (2:Nat) ^ 100=1267650600228229401496703205376 by decide];omega)
 omega
def Qa6:OP:=fun st p q=>match p,q with
 | .int a,.int b=>if 0 < b/\b < 1267650600228229401496703205376 then .ok (.int (a / b)) st else .stuck
 | _,_=>.stuck
theorem Qh4:OpS X E (aZ .FloorDiv) Qa6:=⟨fun H ρ st p q x y Q R rp rq h=>by
 unfold Qa6 at h
 split at h
 ·cases rp; cases rq
  split at h
  ·rename_i hc;exact WO.of Qe4 ⟨_,_,rfl,rfl,hc,now R h rfl⟩
  ·exact h.elim
 ·exact h.elim⟩
@[simp] theorem Qmp (st:Q3) (a b:Int):Qa6 st (.int a) (.int b)=if 0 < b/\b < 1267650600228229401496703205376 then .ok (.int (a / b)) st else .stuck:=rfl
def Qk3:MS:=fun _ _=>.stuck
theorem Qcy {s:aP}:SimS X E s Qk3:=⟨fun Γ σ H ρ st D R G h=>h.elim⟩
end
end Sm
namespace Sm
open PySem PySem.Spec L2
theorem Q89:aY "sorted" = some (.builtin "sorted"):=by decide +kernel
section
variable {X:Cx} {E:XK} {pos apos tp:Pos} {e:aH} {m:ME} {elts:List aH} {kt:Nat}
end
section
variable {X:Cx} {E:XK} {pos dpos tpos:Pos} {e i o k:aH} {m mi mo mk:ME}
end
section
variable {X:Cx} {E:XK}
end
def Q56 (st:Q3):PV->Option (List Int)
 | .tup xs=>Kg xs
 | p=>(Za st p).bind Kg
section
variable {X:Cx} {E:XK} {a:aH} {ma:ME} {pos:Pos}
def Q2n (ma:ME):ME:=fun Γ st=>(ma Γ st).bind fun p st1=>match Q56 st1 p with
 | some ns=>if ns.length<=4000/\(Wd ns).length < 64 then .ok (.lst ((Xa (Wd ns)).map PV.int)) st1 else .stuck
 | none=>.stuck
theorem Qhn {H:Hp} {ρ:Tk} {st:Q3} {p:PV} {v:V} {ns:List Int} {K:PySem.W.Frag} (R:Rel H ρ st) (r:Rep H ρ p v) (e:(Za st p).bind Kg=some ns):∃ c,v=.ref c/\(SqL K H c (ns.map V.int)\/SqT K H c (ns.map V.int)):=by
 cases f1:Za st p with
 | none=>rw [f1] at e; cases e
 | some xs=>
  rw [f1] at e;obtain ⟨c,vs,rfl,hcl,rc⟩:=Xu R r f1;obtain ⟨g1,_⟩:=Q2x (show Kg xs=some ns from e) rc;subst g1;exact ⟨c,rfl,.inl (.inl hcl)⟩
theorem Qg5 {H:Hp} {ρ:Tk} {st:Q3} {p:PV} {v:V} {ns:List Int} {K:PySem.W.Frag} (R:Rel H ρ st) (r:Rep H ρ p v) (e:Q56 st p=some ns):∃ c,v=.ref c/\(SqL K H c (ns.map V.int)\/SqT K H c (ns.map V.int)):=by
 cases p with
 | tup xs=>
  obtain ⟨c,us,rfl,hc,_,ru⟩:=r;obtain ⟨g1,_⟩:=Q2x (show Kg xs=some ns from e) ru;subst g1;exact ⟨c,rfl,.inr (.inl (.inl hc))⟩
 | _=>exact Qhn R r e
theorem Q28 {H:Hp} {ρ:Tk}:∀ ns:List Int,RepL H ρ (ns.map PV.int) (ns.map V.int)
 | []=>rfl
 | n :: ns=>RepL.cons rfl (Q28 ns)
theorem Q8q {p p' pos':Pos} (ha:SimE X E a ma) (hc:X.calm=true) (hg:Gl X "sorted") (hm:X.mg "sorted" = none) (hb0:aY "sorted" = some (.builtin "sorted")) (hg':Gl X "set") (hm':X.mg "set" = none) (hb:aY "set" = some (.type "set")) (he:aO [a] X.env=(false,aN a X.env) :: aO [] X.env:=by rfl)
  (he2:aO [.Call (.Name "set" p') [a] [] pos'] X.env=(false,aN (.Call (.Name "set" p') [a] [] pos') X.env) :: aO [] X.env:=by rfl):SimE X E (.Call (.Name "sorted" p) [.Call (.Name "set" p') [a] [] pos'] [] pos) (Q2n ma):=
 ⟨fun Γ σ H ρ st Q R G hq=>WE.of (Q2f (Q63 hc) hg hm hb0 (jw (Q02 (Qc8 hc) hg' hm' hb (jw Zj Q2h he) (by decide) (by decide) he rfl) Q2h he2) (by decide) (by decide) he2 rfl) (ha.use' R G hq.bind fun q st1 H1 ρ1 v e1 x1 R1 G1 r1 h1=>by
  split at h1
  ·rename_i ns f
   split at h1
   ·rename_i hl;obtain ⟨c,rfl,hs⟩:=Qg5 (K:=X.K) R1 r1 f;refine ⟨c,ns,rfl,hs,hl.1,fun l hn=>⟨l,Wd ns,rfl,Jb,hl.2,fun d hd=>?_⟩⟩
    have x2:Ext H1 ρ1 (upd H1 l (Qbu X.prog X.w l (Wd ns))) (ρ1.hide l):=Ext.hide hn;have R2:Rel (upd H1 l (Qbu X.prog X.w l (Wd ns))) (ρ1.hide l) st1:=R1.hide hn (by intro _ z; unfold Qbu at z; cases z);exact h1 _ _ (x2.trans (Ext.add hd)) (R2.add hd) _ ⟨d,_,rfl,Jb,R2.fresh hd,Q28 _⟩
   ·exact h1.elim
  ·exact h1.elim)⟩
end
end Sm
namespace Sm
open PySem PySem.Spec L2 SeqAt
def dEq (ks ls:List (Key × PV)):Bool:=decide (ks.length=ls.length) && ks.all fun kv=>match J7 ls kv.1 with
 | none=>false
 | some v=>peq kv.2 v
def Q2b (ks:List (Key × PV)):Bool:=ks.all fun kv=>Jq 0 kv.2
def Qsz (op:Bool) (st:Q3) (p q:PV):Res PV:=match zh st p,zh st q with
 | some ks,some ls=>if Q2b ks=true/\Q2b ls=true then .ok (.bl (dEq ks ls == op)) st else .stuck
 | _,_=>.stuck
section
variable {X:Cx} {E:XK}
theorem Qaa {vs:List (Key × V)} {us:List (Key × aA)} (r:KV vs us):us.map Prod.fst=vs.map Prod.fst:=by
 induction r with
 | nil=>rfl
 | cons hr _ ih=>rw [O6,O6,ih,hr.1]
theorem Q1g {β:Type}:∀ {l:List (Key × β)} {k:Key} {v:β},(l.map Prod.fst).Nodup->(k,v)∈l->(l.find? fun kv=>decide (kv.1=k)).map (·.2)=some v
 | [],_,_,_,h=>by cases h
 | a :: l,k,v,nd,h=>by
  rw [O6,List.nodup_cons] at nd;rw [F1];rcases D3.mp h with e | h
  ·subst e; simp
  ·have:a.1≠k:=fun z=>nd.1 (by rw [z]; exact List.mem_map.mpr ⟨_,h,rfl⟩)
   rw [bU this];exact Q1g nd.2 h
theorem xw {H:Hp} {ρ:Tk} {ks:List (Key × PV)} {vs:List (Key × V)} {ws:List (Key × aA)} (r:RepD H ρ ks vs) (kv:KV vs ws) (hp:Q2b ks=true) (k:Key):(J7 ks k=none/\aX ws k=none)\/∃ p v u,J7 ks k=some p/\aX ws k=some u/\Rep H ρ p v/\RelV v u/\Jq 0 p=true:=by
 have hv:=kv.val k;rcases qu r k with ⟨a1,a2⟩ | ⟨p,v,a1,a2,a3⟩
 ·left
  rw [a2] at hv;refine ⟨a1,?_⟩;cases z:aX ws k with
  | none=>rfl
  | some u=>rw [z] at hv; exact hv.elim
 ·right
  rw [a2] at hv;cases z:aX ws k with
  | none=>rw [z] at hv; exact hv.elim
  | some u=>
   rw [z] at hv;refine ⟨p,v,u,a1,rfl,a3,hv,?_⟩;unfold J7 at a1;cases f:ks.find? (fun kv=>decide (kv.1=k)) with
   | none=>rw [f] at a1; cases a1
   | some q=>
    rw [f] at a1;cases a1;exact E9.mp hp q (List.mem_of_find?_eq_some f)
variable {o:aH} {mo:ME} {apos cpos:Pos}
end
end Sm
namespace Sm
open PySem PySem.Spec L2 SeqAt
section
variable {X:Cx} {E:XK}
def Qkp (ks:List (Key × PV)):Bool:=ks.all fun kv=>match kv.1 with
 | .inl _=>true
 | .inr _=>false
def eqM (st:Q3) (x y:PV):Option Bool:=
 if Jq dep (der st x)=true/\Jq dep (der st y)=true then some (peq (der st x) (der st y))
 else match zh st x,zh st y with
  | some ks,some ls=>if Q2b ks=true/\Q2b ls=true/\Qkp ks=true/\Qkp ls=true then some (dEq ks ls) else none
  | _,_=>none
def Qbz (st:Q3):List PV->List PV->Option (List Bool)
 | [],[]=>some []
 | x :: xs,y :: ys=>match eqM st x y,Qbz st xs ys with
  | some b,some bs=>some (b :: bs)
  | _,_=>none
 | _,_=>none
def Qe8:OP:=fun st p q=>match p,q with
 | .lst xs,.lst ys=>match Qbz st xs ys with
  | some bs=>.ok (.bl (!(bs.all id))) st
  | none=>.stuck
 | _,_=>.stuck
theorem Q4f {ks:List (Key × PV)} {vs:List (Key × V)} {ws:List (Key × aA)} {H:Hp} {ρ:Tk} (h:Qkp ks=true) (r:RepD H ρ ks vs) (kv:KV vs ws):∃ us,Qbs ws=some us:=by
 have e:ws.map Prod.fst=ks.map Prod.fst:=(Qaa kv).trans r.1;have h':(ws.map Prod.fst).all (fun k=>match k with | .inl _=>true | .inr _=>false)=true:=by
  rw [e,List.all_map]; exact h
 clear e h kv r
 induction ws with
 | nil=>exact ⟨[],rfl⟩
 | cons p ws ih=>
  obtain ⟨k,v⟩:=p;rw [O6,List.all_cons,G8] at h';obtain ⟨us,hu⟩:=ih h'.2;cases k with
  | inl i=>exact ⟨(i,v) :: us,by show (Qbs ws).map _=_; rw [hu]; rfl⟩
  | inr x=>cases h'.1
theorem Qb3:∀ {p:PV},Jq 0 p=true->peq p p=true
 | .non,_=>rfl
 | .bl _,_=>by simp [peq]
 | .int _,_=>by simp [peq]
 | .str _,_=>by simp [peq]
 | .tup _,h=>by cases h
 | .lst _,h=>by cases h
 | .fro _,h=>by cases h
 | .ref _,h=>by cases h
 | .dic,h=>by cases h
theorem Qk0 {l:List aB} (nd:l.Nodup) {i j:Nat} {a:aB} (hi:l[i]?=some a) (hj:l[j]?=some a):i=j:=by
 obtain ⟨h1,e1⟩:=O0.mp hi;obtain ⟨h2,e2⟩:=O0.mp hj;have q:=List.pairwise_iff_getElem.mp nd;rcases Nat.lt_trichotomy i j with z | z | z
 ·exact absurd (e1.trans e2.symm) (q i j h1 h2 z)
 ·exact z
 ·exact absurd (e2.trans e1.symm) (q j i h2 h1 z)
theorem Q5v {pins:List (aB × Obj)} {σ:St} {H:Hp} {s:aC} {ρ:Tk} {st:Q3} {A:aM} {x y:PV} {v w:V} {u u':aA} {b:Bool} (I:L2.Inv X pins σ H s) (hu:A.units + 60 < aW) (R:Rel H ρ st) (e:eqM st x y=some b) (rx:Rep H ρ x v) (ru:RelV v u) (ry:Rep H ρ y w) (ru':RelV w u'):EqAt A s u u' b:=by
 unfold eqM at e
 split at e
 ·rename_i g;cases e;exact (Q4j dep I g.1 g.2 (by unfold dep; omega) (Xw R g.1 rx) ru (Xw R g.2 ry) ru').1
 ·split at e
  ·rename_i ks ls e1 e2
   split at e
   ·rename_i hp;obtain ⟨p1,p2,p3,p4⟩:=hp;cases e;obtain ⟨na,a,va,rfl,rfl,ta,ha,ra⟩:=jh R rx e1;obtain ⟨nb,b,vb,rfl,rfl,tb,hb,rb⟩:=jh R ry e2;cases ru;cases ru';obtain ⟨_,sa,wa,ka,da⟩:=Q34 I.hok ha;obtain ⟨_,sb,wb,kb,db⟩:=Q34 I.hok hb;obtain ⟨ua,hua⟩:=Q4f p3 ra ka;obtain ⟨ub,hub⟩:=Q4f p4 rb kb;have nda:(wa.map Prod.fst).Nodup:=by obtain ⟨_,_,_,_,_,_,_,_,n⟩:=da; exact n
    have eka:wa.map Prod.fst=ks.map Prod.fst:=(Qaa ka).trans ra.1;have ndk:(ks.map Prod.fst).Nodup:=by rw [<- eka]; exact nda
    have ewa:=Q5r hua;have ewb:=Q5r hub;have lens:decide (ua.length=ub.length)=decide (ks.length=ls.length):=by
     have l1:wa.length=ua.length:=by rw [ewa,O3]
     have l2:wb.length=ub.length:=by rw [ewb,O3]
     rw [<- l1,<- l2,<- ka.length,<- kb.length,ra.length,rb.length]
    have vb:∀ k:Int,aX wb (.inl k)=aX ub k:=fun k=>by
     rw [ewb];unfold aX;rw [List.find?_map,Option.map_map];congr 1;have:((fun kv:Key × aA=>decide (kv.1=.inl k)) ∘ fun p:Int × aA=>((.inl p.1:Key),p.2))=fun kv:Int × aA=>decide (kv.1=k):=by
      funext p; simp
     rw [this]
    rw [ewa] at da;rw [ewb] at db;have hall:(decide (ua.length=ub.length) && ua.all (y0 ub fun k=>match J7 ks (.inl k),J7 ls (.inl k) with | some p,some q=>peq p q | _,_=>false))=dEq ks ls:=by
     rw [lens];unfold dEq;congr 1;have e5:(ua.all (y0 ub fun k=>match J7 ks (.inl k),J7 ls (.inl k) with | some p,some q=>peq p q | _,_=>false))=(wa.map Prod.fst).all (fun k=>match aX wb k with | none=>false | some _=>match J7 ks k,J7 ls k with | some p,some q=>peq p q | _,_=>false):=by
      rw [ewa,G6,List.all_map];congr 1;funext p;show y0 ub _ p=_;unfold y0;rw [<- vb p.1];rfl
     rw [e5,eka,List.all_map,Bool.eq_iff_iff,E9,E9];have pt:∀ kv∈ks,(match aX wb kv.1 with | none=>false | some _=>match J7 ks kv.1,J7 ls kv.1 with | some p,some q=>peq p q | _,_=>false)=(match J7 ls kv.1 with | none=>false | some v=>peq kv.2 v):=fun kv hkv=>by
      have h0:J7 ks kv.1=some kv.2:=Q1g ndk hkv;rcases xw rb kb p2 kv.1 with ⟨y1,y2⟩ | ⟨q,y,u',y1,y2,_⟩
      ·rw [y1,y2]
      ·rw [y1,y2,h0]
     constructor
     ·intro hh kv hkv; exact (pt kv hkv).symm.trans (hh kv hkv)
     ·intro hh kv hkv;exact (pt kv hkv).trans (hh kv hkv)
    rw [<- hall];refine Qez sa sb da db (by omega) (fun k v u hm hv=>?_) fun z=>?_
    ·have h1:aX wa (.inl k)=some v:=Q1g nda (by rw [ewa]; exact List.mem_map.mpr ⟨_,hm,rfl⟩);rw [<- vb k] at hv;rcases xw ra ka p1 (.inl k) with ⟨_,z⟩ | ⟨p,x,v',z1,z2,z3,z4,z5⟩
     ·rw [z] at h1; cases h1
     ·rw [h1] at z2;cases z2;rcases xw rb kb p2 (.inl k) with ⟨_,z⟩ | ⟨q,y,u',y1,y2,y3,y4,y5⟩
      ·rw [z] at hv; cases hv
      ·rw [hv] at y2;cases y2;rw [z1,y1];exact (Q4j 0 I z5 y5 (by rw [Around.in1_units]; omega) z3 z4 y3 y4).1
    ·rw [hall];subst z;have hn:na=nb:=Qk0 R.nd ta tb;subst hn;rw [e1] at e2;cases e2;unfold dEq;rw [bV rfl,F5,E9];intro kv hkv;have h0:J7 ks kv.1=some kv.2:=Q1g ndk hkv;rw [h0];exact Qb3 (E9.mp p1 kv hkv)
   ·cases e
  ·cases e
theorem Q7v {st:Q3}:∀ {xs ys:List PV} {bs:List Bool},Qbz st xs ys=some bs->xs.length=ys.length/\bs.length=xs.length/\∀ (j:Nat) x y,xs[j]?=some x->ys[j]?=some y->eqM st x y=some (bs.getD j false)
 | [],[],_,e=>by cases e; exact ⟨rfl,rfl,fun j x y h=>by simp at h⟩
 | [],_ :: _,_,e=>by cases e
 | _ :: _,[],_,e=>by cases e
 | x :: xs,y :: ys,bs,e=>by
  have e:(match eqM st x y,Qbz st xs ys with | some b,some bs=>some (b :: bs) | _,_=>none)=some bs:=e
  cases z1:eqM st x y with
  | none=>rw [z1] at e; cases e
  | some b=>
   cases z2:Qbz st xs ys with
   | none=>rw [z1,z2] at e; cases e
   | some cs=>
    rw [z1,z2] at e;cases e;obtain ⟨h1,h2,h3⟩:=Q7v z2;refine ⟨by simp [h1],by simp [h2],fun j a c h4 h5=>?_⟩;cases j with
    | zero=>simp at h4 h5; subst h4; subst h5; rw [z1]; rfl
    | succ j=>simpa using h3 j a c (by simpa using h4) (by simpa using h5)
theorem Qjk (hu:X.A.units + 64 < aW):OpS X E (aU .NotEq) Qe8:=⟨fun H ρ st p q x y Q R rp rq h=>by
 unfold Qe8 at h
 split at h
 ·rename_i xs ys
  split at h
  ·rename_i bs eb;obtain ⟨a,va,rfl,ha,_,ra⟩:=rp;obtain ⟨b,vb,rfl,hb,_,rb⟩:=rq;intro pins s σ v u I rv ru;cases rv;cases ru;obtain ⟨ia,qa,pa,_⟩:=I.list (a:=a) (xs:=va) (.inl (.inl ha));obtain ⟨ib,qb,pb,_⟩:=I.list (a:=b) (xs:=vb) (.inl (.inl hb));obtain ⟨h1,h2,h3⟩:=Q7v eb;have l1:=ra.length;have l2:=rb.length;have l3:=qa.length;have l4:=qb.length;have key:=RcNeAt.lists (A:=X.A) (e:=fun j=>bs.getD j false) pa.isList pb.isList (by rw [O4,O4]; omega) (by omega) (fun j g1 g2=>by
    rw [O4] at g1 g2;obtain ⟨p,e1⟩:∃ p,xs[j]?=some p:=⟨xs[j],O2 (by omega)⟩;obtain ⟨q,e2⟩:∃ q,ys[j]?=some q:=⟨ys[j],O2 (by omega)⟩;obtain ⟨v,e3,e4⟩:=ra.get e1;obtain ⟨w,e5,e6⟩:=rb.get e2;obtain ⟨u1,e7,e8⟩:=qa.get e3;obtain ⟨u2,e9,e10⟩:=qb.get e5;have i1:ia[j]=u1:=by rw [O2 g1] at e7; exact Option.some.inj e7
    have i2:ib[j]=u2:=by rw [O2 g2] at e9; exact Option.some.inj e9
    simp only [List.getElem_toArray,i1,i2];exact Q5v I (by rw [Around.in1_units]; omega) R (h3 j p q e1 e2) e4 e8 e6 e10)
   have hall:((List.range ia.toArray.size).all fun j=>bs.getD j false)=bs.all id:=by
    have hz:ia.toArray.size=bs.length:=by rw [O4]; omega
    rw [hz];clear key h3 h2 eb h hz
    induction bs with
    | nil=>rfl
    | cons c bs ih=>
     rw [E1,List.range_succ_eq_map,List.all_cons,List.all_map,List.all_cons];show (c && _)=(c && _);rw [<- ih]; rfl
   rw [hall] at key;exact key _ _ _ _ ⟨.bl _,H,I,rfl,now R h rfl⟩
  ·exact h.elim
 ·exact h.elim⟩
variable {e o i:aH} {m mo mi:ME} {pos tpos:Pos}
end
end Sm
namespace L2
open PySem PySem.Spec PyProof.Rows
theorem Qbv {X:Cx}:Qqq X (Qj0 X.K):=by
 intro pins s σ H x y v u Q I rx ry h;obtain ⟨p,xs,i,z,rfl,rfl,hq,he,q⟩:=h;cases rx;obtain ⟨t,rfl⟩:=ry;obtain ⟨its,r,pl,hz⟩:=I.list hq;obtain ⟨j,h1,h2,h3,h4,h5⟩:=atI_get he;obtain ⟨w,ew,rw'⟩:=r.get h2;have hl:=r.length;have hn:=zx;have fin:EP X pins σ Q w s:=⟨z,H,I,rw',q⟩
 by_cases h0:0<=i
 ·have hj:i.toNat=j:=by
   rw [seqIndex_of h0 h5] at h1;exact Option.some.inj h1
  exact wpAny_getItem_list pl.isList h0 (by omega) (by rw [hj]; simpa using ew) fin
 ·have hj:(i + (its.toArray.size:Int)).toNat=j:=by
   rw [seqIndex_neg (by omega) h4] at h1;have:=Option.some.inj h1;simp; omega
  exact wpAny_getItem_list_neg pl.isList (by omega) (by simp; omega) (by simp; omega) (by rw [hj]; simpa using ew) fin
end L2
namespace Sm
open PySem PySem.Spec PyProof.Rows L2
section
variable {X:Cx} {E:XK} {pos:Pos} {e:aH} {m:ME}
def Qa8 (mo mi:ME) (f:Int->Int->Int) (m:ME):MS:=fun Γ st=>(mo Γ st).sbind fun o st1=>(mi Γ st1).sbind fun i st2=>match Za st2 o,i with
 | some xs,.int j=>match atI xs j with
  | some (.int a)=>(m Γ st2).sbind fun v st4=>match v with
   | .int b=>match Uj st4 o i (.int (f a b)) with
    | some st5=>.nx Γ st5
    | none=>.stuck
   | _=>.stuck
  | _=>.stuck
 | _,_=>.stuck
theorem Q9w {o i:aH} {mo mi:ME} {tpos:Pos} {op:Operator} {f:Int->Int->Int} (hp:PIp X op (ipI f)) (ho:SimE X E o mo) (hi:SimE X E i mi) (he:SimE X E e m)
  (ha:∀ ov iv new,augStore i ov iv new=(do ai [new,ov,iv] (setItem ov iv new); release [new,ov,iv] []; pure .next):=by intros; rfl) :
  SimS X E (.AugAssign (.Subscript o i tpos) op e pos) (Qa8 mo mi f m):=
 ⟨fun Γ σ H ρ st D R G h=>WS.of (Qgm Zj Zj Qbv Zj hp Q6g ha) (ho.use R G h.bind fun ov st1 H1 ρ1 x x1 R1 G1 r1 h1=>hi.use R1 G1 h1.bind fun iv st2 H2 ρ2 y x2 R2 G2 r2 h2=>by
  split at h2
  ·rename_i xs j el
   split at h2
   ·rename_i a ea;obtain ⟨b,vs,rfl,hb,rb⟩:=Xu R2 (r1.ext x2) el;obtain ⟨z,ez,rz⟩:=rb.atI ea;cases rz;have ey:=r2;cases r2;refine ⟨b,vs,j,_,rfl,rfl,.inl hb,ez,he.use R2 G2 h2.bind fun p st4 H4 ρ4 w x4 R4 G4 r4 h4=>?_⟩;cases p with
    | int c=>
     cases r4;dsimp only at h4;cases es:Uj st4 ov (.int j) (.int (f a c)) with
     | none=>rw [es] at h4; exact h4.elim
     | some st5=>
      rw [es] at h4;obtain ⟨a',vs',k',j',e1,e2,f1,f2,x5,R5⟩:=Q9z (p:=.int (f a c)) (z:=.int (f a c)) R4 (r1.ext (x2.trans x4)) (ey.ext x4) rfl es;exact ⟨a,c,rfl,rfl,a',vs',k',j',e1,e2,f1,f2,h4 σ _ ρ4 x5 R5 (G4.ext x5)⟩
    | _=>exact h4.elim
   ·exact h2.elim
  ·exact h2.elim)⟩
@[simp] theorem Qpt (mo mi:ME) (f:Int->Int->Int) (m:ME) (Γ:Gam) (st:Q3):Qa8 mo mi f m Γ st=(mo Γ st).sbind fun o st1=>(mi Γ st1).sbind fun i st2=>(match Za st2 o,i with
 | some xs,.int j=>(match atI xs j with
  | some (.int a)=>(m Γ st2).sbind fun v st4=>(match v with
   | .int b=>(match Uj st4 o i (.int (f a b)) with
    | some st5=>.nx Γ st5
    | none=>.stuck)
   | _=>.stuck)
  | _=>.stuck)
 | _,_=>.stuck):=rfl
end
end Sm
namespace Sm
open PySem PySem.Spec L2
section
variable {X:Cx} {E:XK} {o:aH} {mo:ME} {apos cpos:Pos} {to:TE}
end
section
variable {X:Cx}
end
structure AtS (K:PySem.W.Frag) (mg:Str->Option aA) (name:Str) (st:aP) (ps:List Str) (f:aB) (fd:aR):Prop where
 F:Fun K name name st f fd
 m:mg name=some (.ref f)
 b:Binds K fd ps []
theorem Ze {K:PySem.W.Frag} {mg:Str->Option aA} {h:Heap} {name:Str} {st:aP} {ps:List Str} {f:aB} {oc:aA} {od an:Option aB} {osl:Array (Option aA)} {kV doc pm cdv ct:aA} (X:K.In h) (G:h.Ns aQ mg)
  (a:PySem.W.nsIn K aQ name=some (some (.ref f))) (l:K.lookup f=some ⟨oc,od,.func (PySem.W.fnOf name name (J0 st) (Qv st) (Qa st) .none kV doc pm an cdv ct),osl⟩) (c:PySem.W.codeIn K cdv name=true) (k:PySem.W.keepIn K (.ref f)=true)
  (b:∀ (kV doc pm:aA) (an:Option aB) (cdv ct:aA) (us:List aA),us.length=ps.length->bindArgs (PySem.W.fnOf name name (J0 st) (Qv st) (Qa st) .none kV doc pm an cdv ct) ⟨us,[]⟩=pure (ps.zip us)) :
  AtS K mg name st ps f (PySem.W.fnOf name name (J0 st) (Qv st) (Qa st) .none kV doc pm an cdv ct):=
 have F:=Qkt (st:=st) l c k
 ⟨F,PySem.W.mg_of X G a,F.binds b⟩
theorem AtS.def {P:aL} {w:aK} {K:PySem.W.Frag} {mg:Str->Option aA} {base:Heap} {name:Str} {st:aP} {ps:List Str} {f:aB} {fd:aR} {k n:Nat} {F:FN} (a:AtS K mg name st ps f fd) (hn:ps.length=n) (G:FnOk P w K mg base (CXD P w) k f fd ps (spF mg n F)):DefS P w K mg base k name n F:=
 ⟨f,fd,ps,G,a.m,a.F.kp,a.b,hn⟩
def noL (K:PySem.W.Frag):Bool:=K.all fun p=>match p.2.data with
 | .seq _ _=>(match p.2.cls with
  | .type n=>!(n == ("list" : Str))
  | _=>true)
 | _=>true
theorem Q94 {K:PySem.W.Frag} {a:aB} {o:Obj} (h:K.lookup a=some o):(a,o)∈K:=by
 induction K with
 | nil=>cases h
 | cons p K ih=>
  obtain ⟨b,u⟩:=p;rw [List.lookup_cons] at h;cases e:a == b with
  | true=>
   rw [e] at h;have:a=b:=by simpa using e
   subst this;cases h;exact D9
  | false=>
   rw [e] at h;exact O7 _ (ih h)
theorem Qjz {K:PySem.W.Frag} {a:aB} {o:Obj} {its:Array aA} {n:Nat} (hL:noL K=true) (h:K.lookup a=some o) (hc:o.cls=.type "list") (hd:o.data=.seq its n):False:=by
 have:=E9.mp hL _ (Q94 h);simp [hc,hd] at this
theorem Q41 {H:Hp} {ρ:Tk}:∀ ns:List Int,RepL H ρ (ns.map .int) (ns.map V.int)
 | []=>rfl
 | n :: ns=>⟨_,_,rfl,rfl,Q41 ns⟩
theorem Qga (H:Hp):Rel H Tk.nil []:=⟨rfl,List.nodup_nil,fun a h=>(by cases h),fun a h=>(by cases h),fun i a c h=>(by simp [Tk.nil] at h)⟩
def Q53 (K:PySem.W.Frag):Sp:=fun vs H Q _=>∃ (a:aB) (ns:List Int),vs=[.ref a]/\SqL K H a (ns.map V.int)/\ns.length<=63/\∀ H',Q (.bl true) H'
theorem Qhq {P:aL} {w:aK} {K:PySem.W.Frag} {mg:Str->Option aA} {base:Heap} {CX:CXT} {k:Nat} {f:aB} {fd:aR} {ps:List Str} {FL:FN} (hL:noL K=true) (F:FnOk P w K mg base CX k f fd ps (spF mg 1 FL)) (hlaw:∀ ns:List Int,ns.length<=63->∃ st',FL [.fro (ns.map .int)] []=.ok (.bl true) st'):FnOk P w K mg base CX k f fd ps (Q53 K):=F.imp fun vs H Q E ⟨a,ns,e,hS,hl,hQ⟩=>by
 subst e;obtain ⟨st',hF⟩:=hlaw ns hl;have hR:Rd H a (.lst (ns.map V.int)):=by
  rcases hS with h | ⟨o,its,n,h1,h2,h3,h4,_⟩
  ·exact h
  ·exact (Qjz hL h1 h2 h4).elim
 refine ⟨rfl,Tk.nil,[],[.fro (ns.map .int)],Qga H,⟨_,_,rfl,⟨a,_,rfl,hR,Tk.not_nil a,Q41 ns⟩,rfl⟩,?_⟩;rw [hF];intro H' ρ' x R v r;have e:v=.bl true:=r;subst e;exact hQ H'
theorem Qf4 {P:aL} {w:aK} {H:Hp} {s:aC} {e:aA} {s':aC} (h:CXD P w [] H s (fun _ _ _=>False) e s'):False:=by
 obtain ⟨_,_,_,_,_,_,_,_,_,z⟩:=h;exact z
theorem walkS {l:PySem.W.OpenLaw} {k:Nat} {q:aL} {loose:List Str} {XP:(Str->Option aA)->Heap->Prop} {YP:aK->Heap->Prop} {d:DefRec} {K:Params->PySem.W.Frag} (hn:l.most=some 63) (hr:Room k callerA) (hdf:d.params.defaults=[])
  (hY:∀ (w:aK) (h:Heap),YP w h->(K w.params).In h)
  (F:∀ (w:aK) (mg:Str->Option aA) (fa:aB) (h:Heap),(K w.params).In h->h.Ns aQ mg->mg d.name=some (.ref fa) ->
   ∃ fd:aR,(∀ (s:aC) (u:aA),BindsTo s fd ⟨[u],[]⟩ [("script",u)])/\∀ base:Heap,(K w.params).In base->base.Ns aQ mg->FnOk l.prog w (K w.params) mg base (CXD l.prog w) k fa fd ["script"] (Q53 (K w.params))) :
  PySem.W.WalkO q loose XP YP l.row.toRowW d [] (fun f vs=>PySem.call f vs):=
 L2.walk_of (n:=63) (k:=k) (x := "script") (CX:=fun w=>CXD l.prog w) (sp:=fun w=>Q53 (K w.params)) hn (by decide) hdf hr hY F (fun _ _ a ns hl _ hS=>⟨a,ns,rfl,hS,hl,fun _=>rfl⟩) fun _ _ _ _ _ z=>Qf4 z
end Sm
namespace Lw
open PySem PySem.Spec L2 Sm
def top (i:Nat):aP:=PySem.Challenge.pw_lendwharf_k42_moves_looked_at.main.body.getD i (.Pass ⟨0,0,0,0⟩)
abbrev U8:aP:=top 5
abbrev Wn:aP:=top 6
abbrev Vh:aP:=top 7
abbrev X6:aP:=top 11
abbrev Jg:aP:=top 12
abbrev Vi:aP:=top 13
abbrev Wm:aP:=top 14
abbrev U9:aP:=top 15
abbrev Vg:aP:=top 16
abbrev Y5:aP:=top 17
abbrev Yn:aP:=top 18
abbrev jr:aP:=top 20
abbrev Ym:aP:=top 21
abbrev Ka:aP:=top 22
abbrev X7:aP:=top 23
abbrev Zu:aP:=top 25
abbrev Ys:aP:=top 26
abbrev Jh:aP:=top 27
abbrev Yr:aP:=top 28
abbrev Zv:aP:=top 29
abbrev Y6:aP:=top 30
abbrev W6:aP:=top 31
abbrev Jy:aP:=top 32
abbrev Jz:aP:=top 33
abbrev Yq:aP:=top 34
abbrev Yp:aP:=top 35
abbrev ym:aP:=top 36
structure Txt (mg:Str->Option aA):Prop where
 b_all:mg "all" = none
 b_any:mg "any" = none
 b_bool:mg "bool" = none
 b_dict:mg "dict" = none
 b_enumerate:mg "enumerate" = none
 b_int:mg "int" = none
 b_isinstance:mg "isinstance" = none
 b_len:mg "len" = none
 b_list:mg "list" = none
 b_max:mg "max" = none
 b_min:mg "min" = none
 b_range:mg "range" = none
 b_set:mg "set" = none
 b_sorted:mg "sorted" = none
 b_sum:mg "sum" = none
 b_tuple:mg "tuple" = none
 b_zip:mg "zip" = none
 c_MOST_HOUSES:∃ t,mg "MOST_HOUSES" = some (.int 8 t)
 c_MOST_ROUNDS:∃ t,mg "MOST_ROUNDS" = some (.int 40 t)
section
variable {P:aL} {w:aK} {K:PySem.W.Frag} {mg:Str->Option aA} {base:Heap}
def zu:MS:=(Jm (Q11 (Q7b "int" (Q4 0)) (Qk7 (Q7b "bool" (Q4 0)))))
def Xp:FN:=J2 zu 1
theorem Q6j:FnScope ["thing"] ["thing"] (Qa U8):=⟨rfl,rfl,rfl,by decide +kernel,rfl,by decide +kernel,by decide +kernel⟩
theorem Q6z {f:aB} {fd:aR} (F:Fun K "is_whole" "is_whole" U8 f fd) (T:Txt mg)   : FnOk P w K mg base (CXD P w) 1 f fd ["thing"] (spF mg 1 Xp):=by
 refine Zm (k:=0) (m:=zu) F Q6j rfl rfl rfl fun cdv A outer s H E hr=>?_
 exact (Qh (Qw (zq (Q00 (T := "int") (by decide) (Q0 0) rfl T.b_isinstance rfl T.b_int Qfi) (zp (Qix (Q00 (T := "bool") (by decide) (Q0 0) rfl T.b_isinstance rfl T.b_bool Q4s))))))
def Kv:MS:=(Jm (Q11 (Qi 1 Xp (Q2 (Q4 0) Q9)) (Kx (oI fun a b=>.bl (decide (a<=b))) (oI fun a b=>.bl (decide (a<=b))) (Q4 1) (Q4 0) (Q4 2))))
def Jx:FN:=J2 Kv 3
theorem Q3j:FnScope ["thing", "least", "most"] ["thing", "least", "most"] (Qa Wn):=⟨rfl,rfl,rfl,by decide +kernel,rfl,by decide +kernel,by decide +kernel⟩
theorem Q3n {f:aB} {fd:aR} (F:Fun K "is_between" "is_between" Wn f fd) (T:Txt mg)  (D_is_whole:DefS P w K mg base 1 "is_whole" 1 Xp):FnOk P w K mg base (CXD P w) 2 f fd ["thing", "least", "most"] (spF mg 3 Jx):=by
 refine Zm (k:=1) (m:=Kv) F Q3j rfl rfl rfl fun cdv A outer s H E hr=>?_
 exact (Qh (Qw (zq (Qn D_is_whole (hr.mono (by decide)) Qr rfl (Q1 (Q0 0) Q5)) (zp (Qd7 Q0j Q0j (Q0 1) (Q0 0) (Q0 2))))))
def K2:ME:=(mOp oLt (Q4 0) (Q4 1))
def j9:MS:=(Jm (Qz (q9 fun ns=>.bl (ns.all id)) (Q2 (Vs (Z9 [none,none] (Jn (Qb (Q6 0) (Qb (Q6 1) Jp))) (Q7a (Q2 (Q4 0) (Q2 (mSl (Q4 0) (Wi (mC (.int 1))) Yc) Q9))) Ya K2)) Q9)))
def Vm:FN:=J2 j9 1
theorem Q58:FnScope ["things"] ["things"] (Qa Vh):=⟨rfl,rfl,rfl,by decide +kernel,rfl,by decide +kernel,by decide +kernel⟩
theorem Q5e {f:aB} {fd:aR} (F:Fun K "is_rising" "is_rising" Vh f fd) (T:Txt mg)   : FnOk P w K mg base (CXD P w) 1 f fd ["things"] (spF mg 1 Vm):=by
 refine Zm (k:=0) (m:=j9) F Q58 rfl rfl rfl fun cdv A outer s H E hr=>?_
 exact (Qh (Qw (Qt (Q35 rfl) rfl T.b_all jj (Q1 (W0 (Y1 [none,none] ["one", "other"] rfl (Qd2 rfl T.b_zip (Q1 (Q0 0) (Q1 (Wy (Q0 0) (V3 Q7) Xq) Q5))) (fun _ _ _ _ _=>(V8 rfl (Qj (Qg (i:=0) (show (["one", "other"]:List Str).Nodup by decide +kernel)) (Qj (Qg (i:=1) (show (["one", "other"]:List Str).Nodup by decide +kernel)) Yz)))) (fun _ _ _ _ _=>(Ks (Xf hr.units) (Q0 0) (Q0 1))) (fun _ _ _ _ _=>V2) (Q32 (X8 (X8 Q33))))) Q5))))
def Ur:ME:=(Qi 3 Jx (Q2 (Q4 0) (Q2 (mC (.int 0)) (Q2 (mOp (oI fun a b=>.int (a - b)) (Q4 1) (mC (.int 1))) Q9))))
def jx : MS := (Qd (Z6 (xy (Uy (toB (Q7b "tuple" (Q4 1)))) (toB (mOp oNe (Qz Zc (Q2 (Q4 1) Q9)) (mC (.int 2))))) (Jm (mC (.bl false))) J5)
  (Jm (Q11 (Qz (q9 fun ns=>.bl (ns.all id)) (Q2 (Vs (Z9 [none,some 0] (Q6 0) (Uw (Q4 1)) Ya Ur)) Q9)) (mOp oNe (mOp oIx (Q4 1) (mC (.int 0))) (mOp oIx (Q4 1) (mC (.int 1)))))))
def Wv:FN:=J2 jx 2
theorem Q8r:FnScope ["n", "thing"] ["n", "thing"] (Qa X6):=⟨rfl,rfl,rfl,by decide +kernel,rfl,by decide +kernel,by decide +kernel⟩
theorem Q8x {f:aB} {fd:aR} (F:Fun K "is_road" "is_road" X6 f fd) (T:Txt mg)  (D_is_between:DefS P w K mg base 2 "is_between" 3 Jx):FnOk P w K mg base (CXD P w) 3 f fd ["n", "thing"] (spF mg 2 Wv):=by
 refine Zm (k:=2) (m:=jx) F Q8r rfl rfl rfl fun cdv A outer s H E hr=>?_
 exact (Q8 (Z5 (SimW.t (yg (Xx (Kq (Q00 (T := "tuple") (by decide) (Q0 1) rfl T.b_isinstance rfl T.b_tuple qc))) (zm (Qm (Qa5 hr.units) (Qt Y0 rfl T.b_len PySem.boot_len (Q1 (Q0 1) Q5)) Q7)))) (Qh (Qw Xb)) J8)
  (Qh (Qw (zq (Qt (Q35 rfl) rfl T.b_all jj (Q1 (W0 (Y1 [none,some 0] ["house", "n"] rfl (Yi (Q0 1)) (fun _ _ _ _ _=>(Qg (i:=0) (show (["house", "n"]:List Str).Nodup by decide +kernel))) (fun _ _ _ _ _=>(Qn D_is_between (hr.mono (by decide)) X4 rfl (Q1 (Q0 0) (Q1 Q7 (Q1 (Qq Xe (Q0 1) Q7) Q5))))) (fun _ _ _ _ _=>V2) Jd)) Q5)) (zp (Ks (Qa5 hr.units) (Qx (Q0 1) Q7) (Qx (Q0 1) Q7)))))))
def W1:ME:=(Qi 2 Wv (Q2 (Q4 1) (Q2 (Q4 0) Q9)))
def Y9 : MS := (Qd (Z6 (Uy (toB (Q7b "tuple" (Q4 1)))) (Jm (mC (.bl false))) J5)
  (Jm (Q11 (Qz (q9 fun ns=>.bl (ns.all id)) (Q2 (Vs (Z9 [none,some 0] (Q6 0) (Uw (Q4 1)) Ya W1)) Q9)) (Qi 1 Vm (Q2 (Q4 1) Q9)))))
def J1:FN:=J2 Y9 2
theorem qj:FnScope ["n", "thing"] ["n", "thing"] (Qa Jg):=⟨rfl,rfl,rfl,by decide +kernel,rfl,by decide +kernel,by decide +kernel⟩
theorem qk {f:aB} {fd:aR} (F:Fun K "are_roads_of_round" "are_roads_of_round" Jg f fd) (T:Txt mg)  (D_is_road:DefS P w K mg base 3 "is_road" 2 Wv) (D_is_rising:DefS P w K mg base 1 "is_rising" 1 Vm):FnOk P w K mg base (CXD P w) 4 f fd ["n", "thing"] (spF mg 2 J1):=by
 refine Zm (k:=3) (m:=Y9) F qj rfl rfl rfl fun cdv A outer s H E hr=>?_
 exact (Q8 (Z5 (Xx (Kq (Q00 (T := "tuple") (by decide) (Q0 1) rfl T.b_isinstance rfl T.b_tuple qc))) (Qh (Qw Xb)) J8)
  (Qh (Qw (zq (Qt (Q35 rfl) rfl T.b_all jj (Q1 (W0 (Y1 [none,some 0] ["road", "n"] rfl (Yi (Q0 1)) (fun _ _ _ _ _=>(Qg (i:=0) (show (["road", "n"]:List Str).Nodup by decide +kernel))) (fun _ _ _ _ _=>(Qn D_is_road (hr.mono (by decide)) X4 rfl (Q1 (Q0 1) (Q1 (Q0 0) Q5)))) (fun _ _ _ _ _=>V2) Jd)) Q5)) (zp (Qn D_is_rising (hr.mono (by decide)) Qr rfl (Q1 (Q0 1) Q5)))))))
def K3:ME:=(Qi 2 J1 (Q2 (Q4 1) (Q2 (Q4 0) Q9)))
def ja : MS := (Qd (Z6 (Uy (toB (Qi 3 Jx (Q2 (Q4 0) (Q2 (mC (.int 1)) (Q2 (mC (.int 8)) Q9)))))) (Jm (mC (.bl false))) J5)
  (Qd (Z6 (xy (Uy (toB (Q7b "list" (Q4 1)))) (toB (mOp (oI fun a b=>.bl (decide (b < a))) (Qz Zc (Q2 (Q4 1) Q9)) (mC (.int 40))))) (Jm (mC (.bl false))) J5)
  (Jm (Qz (q9 fun ns=>.bl (ns.all id)) (Q2 (Vs (Z9 [none,some 0] (Q6 0) (Uw (Q4 1)) Ya K3)) Q9)))))
def Vn:FN:=J2 ja 2
theorem Q59:FnScope ["n", "thing"] ["n", "thing"] (Qa Vi):=⟨rfl,rfl,rfl,by decide +kernel,rfl,by decide +kernel,by decide +kernel⟩
theorem Q5f {f:aB} {fd:aR} (F:Fun K "are_roads" "are_roads" Vi f fd) (T:Txt mg)  (D_is_between:DefS P w K mg base 2 "is_between" 3 Jx) (D_are_roads_of_round:DefS P w K mg base 4 "are_roads_of_round" 2 J1):FnOk P w K mg base (CXD P w) 5 f fd ["n", "thing"] (spF mg 2 Vn):=by
 refine Zm (k:=4) (m:=ja) F Q59 rfl rfl rfl fun cdv A outer s H E hr=>?_
 exact (Q8 (Z5 (Xx (Kq (Qn D_is_between (hr.mono (by decide)) Qr rfl (Q1 (Q0 0) (Q1 Q7 (Q1 (Qa1 rfl T.c_MOST_HOUSES.choose_spec) Q5)))))) (Qh (Qw Xb)) J8)
  (Q8 (Z5 (SimW.t (yg (Xx (Kq (Q00 (T := "list") (by decide) (Q0 1) rfl T.b_isinstance rfl T.b_list Km))) (zm (Qm yr (Qt Y0 rfl T.b_len PySem.boot_len (Q1 (Q0 1) Q5)) (Qa1 rfl T.c_MOST_ROUNDS.choose_spec))))) (Qh (Qw Xb)) J8)
  (Qh (Qw (Qt (Q35 rfl) rfl T.b_all jj (Q1 (W0 (Y1 [none,some 0] ["part", "n"] rfl (Yi (Q0 1)) (fun _ _ _ _ _=>(Qg (i:=0) (show (["part", "n"]:List Str).Nodup by decide +kernel))) (fun _ _ _ _ _=>(Qn D_are_roads_of_round (hr.mono (by decide)) X4 rfl (Q1 (Q0 1) (Q1 (Q0 0) Q5)))) (fun _ _ _ _ _=>V2) Jd)) Q5))))))
def Ku : MS := (Qd (Z6 (Uy (toB (Qi 2 Vn (Q2 (Q4 0) (Q2 (Q4 1) Q9))))) Qk3 J5)
  (Z6 (Uy (toB (Qi 3 Jx (Q2 (Q4 2) (Q2 (mC (.int 0)) (Q2 (mOp (oI fun a b=>.int (a - b)) (Q4 0) (mC (.int 1))) Q9)))))) Qk3 J5))
def Wu:FN:=J2 Ku 3
theorem Q3i:FnScope ["n", "roads", "house"] ["n", "roads", "house"] (Qa Wm):=⟨rfl,rfl,rfl,by decide +kernel,rfl,by decide +kernel,by decide +kernel⟩
theorem Q3m {f:aB} {fd:aR} (F:Fun K "need_roads" "need_roads" Wm f fd) (T:Txt mg)  (D_are_roads:DefS P w K mg base 5 "are_roads" 2 Vn) (D_is_between:DefS P w K mg base 2 "is_between" 3 Jx):FnOk P w K mg base (CXD P w) 6 f fd ["n", "roads", "house"] (spF mg 3 Wu):=by
 refine Zm (k:=5) (m:=Ku) F Q3i rfl rfl rfl fun cdv A outer s H E hr=>?_
 exact (Q8 (Z5 (Xx (Kq (Qn D_are_roads (hr.mono (by decide)) Qr rfl (Q1 (Q0 0) (Q1 (Q0 1) Q5))))) (Qh Qcy) J8)
  (Qh (Z5 (Xx (Kq (Qn D_is_between (hr.mono (by decide)) Qr rfl (Q1 (Q0 2) (Q1 Q7 (Q1 (Qq Xe (Q0 0) Q7) Q5)))))) (Qh Qcy) J8)))
def Yf:MS:=(Z6 (Vf (toB (mOp (Q5i true) (Q4 6) (Q4 3))) (Vf (toB (mOp (Q5i false) (Q4 5) (Q4 3))) (toB (mOp (oI fun a b=>.bl (decide (a<=b))) (mOp oIx (Vt (Q4 3) (Q4 5)) (mC (.int 0))) (Q4 4))))) (Q08 (Q4 3) (Q4 6) (Z2 (Q2 (mOp J9 (Q4 4) (mC (.int 1))) (Q2 (Q4 5) Q9)))) J5)
def X5:MS:=(Ux (Jn (Qb (Q6 5) (Qb (Q6 6) Jp))) (Uw (mOp oIx (Q4 0) (Q4 4))) Yf)
def Xh : MS := (Qd (Qy 3 (Q5m (Q4 1) (Z2 (Q2 (Q4 2) (Q2 (mC .non) Q9)))))
  (Qd (Ux (Q6 4) (yz (Q2 (Q4 2) (Q2 (Qz Zc (Q2 (Q4 0) Q9)) Q9))) X5)
  (Jm (Q4 3))))
def qe:FN:=Wc Xh 7
theorem sc_arrivals:FnScope ["roads", "house", "moment", "found", "number", "i", "j"] ["roads", "house", "moment"] (Qa U9):=⟨rfl,rfl,rfl,by decide +kernel,rfl,by decide +kernel,by decide +kernel⟩
theorem Q70 {f:aB} {fd:aR} (F:Fun K "arrivals" "arrivals" U9 f fd) (T:Txt mg)   : FnOk P w K mg base (CXD P w) 1 f fd ["roads", "house", "moment"] (spF mg 3 qe):=by
 refine Xj (k:=0) (m:=Xh) F sc_arrivals rfl rfl rfl fun cdv A outer s H E hr=>?_
 exact (Q8 (Qk 3 sc_arrivals.nd (Qd6 (Q0 1) (Je (Q1 (Q0 2) (Q1 Uu Q5)))))
  (Q8 (Yh PassesOwn.leaving rfl (Q3y rfl T.b_range (Q1 (Q0 2) (Q1 (Qt Y0 rfl T.b_len PySem.boot_len (Q1 (Q0 0) Q5)) Q5))) (Qg (i:=4) sc_arrivals.nd) (Qh (Yh PassesOwn.leaving rfl (Yi (Qx (Q0 0) (Q0 4))) (V8 rfl (Qj (Qg (i:=5) sc_arrivals.nd) (Qj (Qg (i:=6) sc_arrivals.nd) Yz))) (Qh (Z5 (SimW.t (V7 (Qm (Qb4 (Yj hr)) (Q0 6) (Q0 3)) (V7 (Qm (Qe2 (Yj hr)) (Q0 5) (Q0 3)) (V1 (Qm Q0j (Qx (Vq (Yj hr) (Q0 3) (Q0 5) (fun _ _=>rfl)) Q7) (Q0 4)))))) (Qh (Q18 (Yj hr) (Je (Q1 (Qq J3 (Q0 4) Q7) (Q1 (Q0 5) Q5))) (Q0 3) (Q0 6))) J8)))))
  (Qh (Qw (Q0 3)))))
def Xt:MS:=(Jm (mIf (toB (mOp (Q5i false) (Q4 1) (Q4 0))) (mOp oIx (Vt (Q4 0) (Q4 1)) (mC (.int 0))) (mC .non)))
def Vk:FN:=J2 Xt 2
theorem Q57:FnScope ["found", "house"] ["found", "house"] (Qa Vg):=⟨rfl,rfl,rfl,by decide +kernel,rfl,by decide +kernel,by decide +kernel⟩
theorem Q5d {f:aB} {fd:aR} (F:Fun K "moment_of" "moment_of" Vg f fd) (T:Txt mg)   : FnOk P w K mg base (CXD P w) 1 f fd ["found", "house"] (spF mg 2 Vk):=by
 refine Zm (k:=0) (m:=Xt) F Q57 rfl rfl rfl fun cdv A outer s H E hr=>?_
 exact (Qh (Qw (Qnj (Qm (Qe2 (Yj hr)) (Q0 1) (Q0 0)) (Qx (Vq (Yj hr) (Q0 0) (Q0 1) (fun _ _=>rfl)) Q7) Uu)))
def Vy:ME:=(Z2 (Q2 (Q4 0) (Q2 (Qi 2 Vk (Q2 (Q4 1) (Q2 (Q4 0) Q9))) Q9)))
def W3 : MS := (Qd (Qy 3 (Qi 3 qe (Q2 (Q4 1) (Q2 (Q4 2) (Q2 (mC (.int 0)) Q9)))))
  (Jm (Qz Q0d (Q2 (Vs (Z9 [none,some 3] (Q6 0) (Yb (Q2 (Q4 0) Q9)) Ya Vy)) Q9))))
def Y7:FN:=Wc W3 4
theorem sc_asked_moments:FnScope ["n", "roads", "house", "found"] ["n", "roads", "house"] (Qa Y5):=⟨rfl,rfl,rfl,by decide +kernel,rfl,by decide +kernel,by decide +kernel⟩
theorem Q04 {f:aB} {fd:aR} (F:Fun K "asked_moments" "asked_moments" Y5 f fd) (T:Txt mg)  (D_arrivals:DefS P w K mg base 1 "arrivals" 3 qe) (D_moment_of:DefS P w K mg base 1 "moment_of" 2 Vk):FnOk P w K mg base (CXD P w) 2 f fd ["n", "roads", "house"] (spF mg 3 Y7):=by
 refine Xj (k:=1) (m:=W3) F sc_asked_moments rfl rfl rfl fun cdv A outer s H E hr=>?_
 exact (Q8 (Qk 3 sc_asked_moments.nd (Qn D_arrivals (hr.mono (by decide)) Qr rfl (Q1 (Q0 1) (Q1 (Q0 2) (Q1 Q7 Q5)))))
  (Qh (Qw (K8 (Qf6 rfl) rfl T.b_dict Qce (Q1 (W0 (Y1 [none,some 3] ["one", "found"] rfl (Z7 rfl T.b_range (Q1 (Q0 0) Q5)) (fun _ _ _ _ _=>(Qg (i:=0) (show (["one", "found"]:List Str).Nodup by decide +kernel))) (fun _ _ _ _ _=>(Je (Q1 (Q0 0) (Q1 (Qn D_moment_of (hr.mono (by decide)) X4 rfl (Q1 (Q0 1) (Q1 (Q0 0) Q5))) Q5)))) (fun _ _ _ _ _=>V2) Jd)) Q5)))))
def Ws:MS:=(Qa8 (Q4 2) (Q4 4) (fun i j=>i - j) (Q4 6))
def Wr:MS:=(Qa8 (Q4 2) (Q4 5) (fun i j=>i + j) (Q4 6))
def Zz : MS := (Qd (Qy 2 (qq (Kw (Q4 0))))
  (Qd (Ux (Jn (Qb (Q6 3) (Qb (Q6 4) (Qb (Q6 5) (Qb (Q6 6) Jp))))) (Uw (Q4 1)) Ws)
  (Qd (Z6 (toB (mOp oLt (Qz Qfc (Q2 (Q4 2) Q9)) (mC (.int 0)))) (Jm (mC .non)) J5)
  (Qd (Ux (Jn (Qb (Q6 3) (Qb (Q6 4) (Qb (Q6 5) (Qb (Q6 6) Jp))))) (Uw (Q4 1)) Wr)
  (Jm (Q4 2))))))
def Yw:FN:=J2 Zz 7
theorem sc_behind_round:FnScope ["has", "moves", "left", "number", "i", "j", "k"] ["has", "moves"] (Qa Yn):=⟨rfl,rfl,rfl,by decide +kernel,rfl,by decide +kernel,by decide +kernel⟩
theorem Q0u {f:aB} {fd:aR} (F:Fun K "behind_round" "behind_round" Yn f fd) (T:Txt mg)   : FnOk P w K mg base (CXD P w) 1 f fd ["has", "moves"] (spF mg 2 Yw):=by
 refine Zm (k:=0) (m:=Zz) F sc_behind_round rfl rfl rfl fun cdv A outer s H E hr=>?_
 exact (Q8 (Qk 2 sc_behind_round.nd (Xy (Q19 (Q0 0) rfl T.b_list)))
  (Q8 (Yh PassesOwn.leaving rfl (Yi (Q0 1)) (V8 rfl (Qj (Qg (i:=3) sc_behind_round.nd) (Qj (Qg (i:=4) sc_behind_round.nd) (Qj (Qg (i:=5) sc_behind_round.nd) (Qj (Qg (i:=6) sc_behind_round.nd) Yz))))) (Qh (Q9w Qkm (Q0 2) (Q0 4) (Q0 6))))
  (Q8 (Z5 (Qm (Xf hr.units) (Qt (Qm3 rfl) rfl T.b_min Qfh (Q1 (Q0 2) Q5)) Q7) (Qh (Qw Uu)) J8)
  (Q8 (Yh PassesOwn.leaving rfl (Yi (Q0 1)) (V8 rfl (Qj (Qg (i:=3) sc_behind_round.nd) (Qj (Qg (i:=4) sc_behind_round.nd) (Qj (Qg (i:=5) sc_behind_round.nd) (Qj (Qg (i:=6) sc_behind_round.nd) Yz))))) (Qh (Q9w Qkn (Q0 2) (Q0 5) (Q0 6))))
  (Qh (Qw (Q0 2)))))))
def Q1b:MS:=(Jm (Q11 (mOp Uv (Q4 0) (mC .non)) (mOp (oI fun a b=>.bl (decide (a<=b))) (Q4 0) (Q4 1))))
def za:FN:=J2 Q1b 2
theorem Qd8:FnScope ["moment", "last"] ["moment", "last"] (Qa jr):=⟨rfl,rfl,rfl,by decide +kernel,rfl,by decide +kernel,by decide +kernel⟩
theorem Qe7 {f:aB} {fd:aR} (F:Fun K "is_by" "is_by" jr f fd) (T:Txt mg)   : FnOk P w K mg base (CXD P w) 1 f fd ["moment", "last"] (spF mg 2 za):=by
 refine Zm (k:=0) (m:=Q1b) F Qd8 rfl rfl rfl fun cdv A outer s H E hr=>?_
 exact (Qh (Qw (zq (Ks yq (Q0 0) Uu) (zp (Ks Q0j (Q0 0) (Q0 1))))))
def Js : MS := (Qd (Qy 4 (mOp oIx (Q4 3) (mC (.int 0))))
  (Qd (Z6 (xy (Uy (toB (Kx (oI fun a b=>.bl (decide (a<=b))) oLt (mC (.int 0)) (Q4 4) (Q4 2)))) (toB (mOp (oIn true) (mSl (Q4 3) (Wi (mC (.int 1))) (Wi (mC (.int 3)))) (mOp oIx (Q4 0) (Q4 4))))) (Jm (mC (.bl false))) J5)
  (Jm (Q11 (mOp (oI fun a b=>.bl (decide (b<=a))) (mOp oIx (Q4 3) (mC (.int 3))) (mC (.int 1))) (Qi 2 za (Q2 (Vt (Q4 1) (mOp oIx (Q4 3) (mC (.int 1)))) (Q2 (Q4 4) Q9)))))))
def Wj:FN:=J2 Js 5
theorem sc_may_be_moved:FnScope ["roads", "asks", "moment", "move", "number"] ["roads", "asks", "moment", "move"] (Qa Ym):=⟨rfl,rfl,rfl,by decide +kernel,rfl,by decide +kernel,by decide +kernel⟩
theorem Q0t {f:aB} {fd:aR} (F:Fun K "may_be_moved" "may_be_moved" Ym f fd) (T:Txt mg)  (D_is_by:DefS P w K mg base 1 "is_by" 2 za):FnOk P w K mg base (CXD P w) 2 f fd ["roads", "asks", "moment", "move"] (spF mg 4 Wj):=by
 refine Zm (k:=1) (m:=Js) F sc_may_be_moved rfl rfl rfl fun cdv A outer s H E hr=>?_
 exact (Q8 (Qk 4 sc_may_be_moved.nd (Qx (Q0 3) Q7))
  (Q8 (Z5 (SimW.t (yg (Xx (Q6c Q0j (Xf hr.units) Q7 (Q0 4) (Q0 2))) (zm (Qm (Q6x hr.units) (Wy (Q0 3) (V3 Q7) (V3 Q7)) (Qx (Q0 0) (Q0 4)))))) (Qh (Qw Xb)) J8)
  (Qh (Qw (zq (Ks Q47 (Qx (Q0 3) Q7) Q7) (zp (Qn D_is_by (hr.mono (by decide)) Qr rfl (Q1 (Vq (Yj hr) (Q0 1) (Qx (Q0 3) Q7) (fun _ _=>rfl)) (Q1 (Q0 4) Q5)))))))))
def y8:ME:=(Q4 0)
def zj:MT:=(toB (mOp oEq (mOp oIx (Q4 0) (mC (.int 0))) (Q4 1)))
def Ve : MS := (Qd (Qy 3 (Qi 2 Yw (Q2 (Q4 3) (Q2 (Vs (Z9 [none, some 4] (Q6 0) (Uw (Q4 1)) zj y8)) Q9))))
  (Z6 (toB (mOp oIs (Q4 3) (mC .non))) (Jm (mC .non)) J5))
def Xg : MS := (Qd (Qy 3 (Qz Kk (Q2 (Q4 0) Q9)))
  (Qd (Ux (Q6 4) (Yb (Q2 (Q4 2) Q9)) Ve)
  (Jm (Q4 3))))
def jm:FN:=J2 Xg 5
theorem sc_has_at:FnScope ["rights", "moves", "moment", "has", "number"] ["rights", "moves", "moment"] (Qa Ka):=⟨rfl,rfl,rfl,by decide +kernel,rfl,by decide +kernel,by decide +kernel⟩
theorem Qb6 {f:aB} {fd:aR} (F:Fun K "has_at" "has_at" Ka f fd) (T:Txt mg)  (D_behind_round:DefS P w K mg base 1 "behind_round" 2 Yw):FnOk P w K mg base (CXD P w) 2 f fd ["rights", "moves", "moment"] (spF mg 3 jm):=by
 refine Zm (k:=1) (m:=Xg) F sc_has_at rfl rfl rfl fun cdv A outer s H E hr=>?_
 exact (Q8 (Qk 3 sc_has_at.nd (K8 Q61 rfl T.b_list Km (Q1 (Q0 0) Q5)))
  (Q8 (Yh PassesOwn.leaving rfl (Z7 rfl T.b_range (Q1 (Q0 2) Q5)) (Qg (i:=4) sc_has_at.nd) (Q8 (Qk 3 sc_has_at.nd (Qn D_behind_round (hr.mono (by decide)) Qr rfl (Q1 (Q0 3) (Q1 (W0 (Y1 [none,some 4] ["move", "number"] rfl (Yi (Q0 1)) (fun _ _ _ _ _=>(Qg (i:=0) (show (["move", "number"]:List Str).Nodup by decide +kernel))) (fun _ _ _ _ _=>(Q0 0)) (fun _ _ _ _ _=>(X3 (Qm (Vr hr.units) (Qx (Q0 0) Q7) (Q0 1)))) Jd)) Q5))))
  (Qh (Z5 (Qm Qid (Q0 3) Uu) (Qh (Qw Uu)) J8))))
  (Qh (Qw (Q0 3)))))
def Us:ME:=(mOp oLt (mOp oIx (Q4 1) (mC (.int 0))) (mOp oIx (Q4 0) (mC (.int 0))))
def Xv:ME:=(Qi 4 Wj (Q2 (Q4 1) (Q2 (Q4 2) (Q2 (Q4 3) (Q2 (Q4 0) Q9)))))
def Ud : MS := (Qd (Ke (Qi 3 Wu (Q2 (Qz Zc (Q2 (Q4 0) Q9)) (Q2 (Q4 1) (Q2 (Q4 2) Q9)))))
  (Qd (Z6 (Uy (toB (Kx (oI fun a b=>.bl (decide (a<=b))) (oI fun a b=>.bl (decide (a<=b))) (mC (.int 0)) (Q4 4) (Qz Zc (Q2 (Q4 1) Q9))))) (Jm (mC (.bl false))) J5)
  (Qd (Z6 (toB (Qz (q9 fun ns=>.bl (ns.any id)) (Q2 (Vs (Z9 [none,none] (Jn (Qb (Q6 0) (Qb (Q6 1) Jp))) (Q7a (Q2 (Q4 5) (Q2 (mSl (Q4 5) (Wi (mC (.int 1))) Yc) Q9))) Ya Us)) Q9))) (Jm (mC (.bl false))) J5)
  (Qd (Qy 6 (Qi 3 Y7 (Q2 (Qz Zc (Q2 (Q4 0) Q9)) (Q2 (Q4 1) (Q2 (Q4 2) Q9)))))
  (Qd (Z6 (Uy (toB (Qz (q9 fun ns=>.bl (ns.all id)) (Q2 (Vs (Z9 [none,some 1,some 6,some 4] (Q6 0) (Uw (Q4 5)) Ya Xv)) Q9)))) (Jm (mC (.bl false))) J5)
  (Qd (Qy 7 (Qi 3 jm (Q2 (Q4 0) (Q2 (Q4 5) (Q2 (Q4 4) Q9)))))
  (Jm (Q11 (mOp Uv (Q4 7) (mC .non)) (mOp (oI fun a b=>.bl (decide (b<=a))) (mOp oIx (Q4 7) (Q4 2)) (Q4 3))))))))))
def Kn:FN:=J2 Ud 8
theorem sc_gathers:FnScope ["rights", "roads", "house", "amount", "moment", "moves", "asks", "has"] ["rights", "roads", "house", "amount", "moment", "moves"] (Qa X7):=⟨rfl,rfl,rfl,by decide +kernel,rfl,by decide +kernel,by decide +kernel⟩
theorem Q8y {f:aB} {fd:aR} (F:Fun K "gathers" "gathers" X7 f fd) (T:Txt mg)  (D_need_roads:DefS P w K mg base 6 "need_roads" 3 Wu) (D_asked_moments:DefS P w K mg base 2 "asked_moments" 3 Y7) (D_may_be_moved:DefS P w K mg base 2 "may_be_moved" 4 Wj) (D_has_at:DefS P w K mg base 2 "has_at" 3 jm):FnOk P w K mg base (CXD P w) 7 f fd ["rights", "roads", "house", "amount", "moment", "moves"] (spF mg 6 Kn):=by
 refine Zm (k:=6) (m:=Ud) F sc_gathers rfl rfl rfl fun cdv A outer s H E hr=>?_
 exact (Q8 (jp (Qn D_need_roads (hr.mono (by decide)) Qr rfl (Q1 (Qt Y0 rfl T.b_len PySem.boot_len (Q1 (Q0 0) Q5)) (Q1 (Q0 1) (Q1 (Q0 2) Q5)))))
  (Q8 (Z5 (Xx (Q6c Q0j Q0j Q7 (Q0 4) (Qt Y0 rfl T.b_len PySem.boot_len (Q1 (Q0 1) Q5)))) (Qh (Qw Xb)) J8)
  (Q8 (Z5 (Kq (Qt (Qm4 rfl) rfl T.b_any Qfj (Q1 (W0 (Y1 [none,none] ["earlier", "later"] rfl (Qd2 rfl T.b_zip (Q1 (Q0 5) (Q1 (Wy (Q0 5) (V3 Q7) Xq) Q5))) (fun _ _ _ _ _=>(V8 rfl (Qj (Qg (i:=0) (show (["earlier", "later"]:List Str).Nodup by decide +kernel)) (Qj (Qg (i:=1) (show (["earlier", "later"]:List Str).Nodup by decide +kernel)) Yz)))) (fun _ _ _ _ _=>(Ks (Xf hr.units) (Qx (Q0 1) Q7) (Qx (Q0 0) Q7))) (fun _ _ _ _ _=>V2) (Q32 (X8 (X8 Q33))))) Q5))) (Qh (Qw Xb)) J8)
  (Q8 (Qk 6 sc_gathers.nd (Qn D_asked_moments (hr.mono (by decide)) Qr rfl (Q1 (Qt Y0 rfl T.b_len PySem.boot_len (Q1 (Q0 0) Q5)) (Q1 (Q0 1) (Q1 (Q0 2) Q5)))))
  (Q8 (Z5 (Xx (Kq (Qt (Q35 rfl) rfl T.b_all jj (Q1 (W0 (Y1 [none,some 1,some 6,some 4] ["move", "roads", "asks", "moment"] rfl (Yi (Q0 5)) (fun _ _ _ _ _=>(Qg (i:=0) (show (["move", "roads", "asks", "moment"]:List Str).Nodup by decide +kernel))) (fun _ _ _ _ _=>(Qn D_may_be_moved (hr.mono (by decide)) X4 rfl (Q1 (Q0 1) (Q1 (Q0 2) (Q1 (Q0 3) (Q1 (Q0 0) Q5)))))) (fun _ _ _ _ _=>V2) Jd)) Q5)))) (Qh (Qw Xb)) J8)
  (Q8 (Qk 7 sc_gathers.nd (Qn D_has_at (hr.mono (by decide)) Qr rfl (Q1 (Q0 0) (Q1 (Q0 5) (Q1 (Q0 4) Q5)))))
  (Qh (Qw (zq (Ks yq (Q0 7) Uu) (zp (Ks Q47 (Qx (Q0 7) (Q0 2)) (Q0 3))))))))))))
def Wq : MS := (Qd (Z6 (toB (mOp (oI fun a b => .bl (decide (b <= a))) (Q4 0) (mOp Q0z (mC (.int 10)) (mC (.int 18))))) (Jm (Q4 0)) J5)
  (Qd (Qy 2 (mOp zr (mOp J9 (mOp J9 (mOp qp (mOp zr (Q4 0) (mC (.int 998244353))) (mC (.int 51749))) (mOp qp (Q4 1) (mC (.int 7919)))) (mC (.int 3))) (mC (.int 1000000007))))
  (Qd (Qy 3 (mOp zr (mOp J9 (mOp J9 (mOp J9 (mOp qp (Q4 2) (Q4 2)) (mOp qp (mC (.int 32749)) (Q4 2))) (Q4 1)) (mC (.int 5))) (mC (.int 2147483629))))
  (Qd (Qy 4 (mOp zr (mOp J9 (mOp J9 (mOp qp (Q4 3) (Q4 3)) (mOp qp (mC (.int 61)) (Q4 1))) (Q4 2)) (mC (.int 2147483587))))
  (Jm (mOp J9 (mOp qp (Q4 3) (mC (.int 2147483587))) (Q4 4)))))))
def Zf:FN:=J2 Wq 5
theorem sc__law_e_stirred:FnScope ["cell", "place", "first", "second", "third"] ["cell", "place"] (Qa Zu):=⟨rfl,rfl,rfl,by decide +kernel,rfl,by decide +kernel,by decide +kernel⟩
theorem yt {f:aB} {fd:aR} (F:Fun K "_law_e_stirred" "_law_e_stirred" Zu f fd) (T:Txt mg)   : FnOk P w K mg base (CXD P w) 1 f fd ["cell", "place"] (spF mg 2 Zf):=by
 refine Zm (k:=0) (m:=Wq) F sc__law_e_stirred rfl rfl rfl fun cdv A outer s H E hr=>?_
 exact (Q8 (Z5 (Qm Q47 (Q0 0) (Qq Q2i Q7 Q7)) (Qh (Qw (Q0 0))) J8)
  (Q8 (Qk 2 sc__law_e_stirred.nd (Qq qz (Qq J3 (Qq J3 (Qq Xz (Qq qz (Q0 0) Q7) Q7) (Qq Xz (Q0 1) Q7)) Q7) Q7))
  (Q8 (Qk 3 sc__law_e_stirred.nd (Qq qz (Qq J3 (Qq J3 (Qq J3 (Qq Xz (Q0 2) (Q0 2)) (Qq Xz Q7 (Q0 2))) (Q0 1)) Q7) Q7))
  (Q8 (Qk 4 sc__law_e_stirred.nd (Qq qz (Qq J3 (Qq J3 (Qq Xz (Q0 3) (Q0 3)) (Qq Xz Q7 (Q0 1))) (Q0 2)) Q7))
  (Qh (Qw (Qq J3 (Qq Xz (Q0 3) Q7) (Q0 4))))))))
def Wh : MS := (Qd (Z6 (toB (mOp oLt (mOp oIx (Q4 0) (mC (.int 2))) (Q4 1))) (Qd (Qy 2 (mOp oIx (Q4 0) (mC (.int 1))))
  (Qd (Qy 3 (Q4 2))
  (Qd (Z6 (toB (mOp oLt (Q4 2) (Qz Zc (Q2 (mOp oIx (Q4 0) (mC (.int 0))) Q9)))) (Qy 3 (mOp oIx (mOp oIx (Q4 0) (mC (.int 0))) (Q4 2))) (Z6 (toB (mOp (oI fun a b=>.bl (decide (b < a))) (Qz Zc (Q2 (mOp oIx (Q4 0) (mC (.int 0))) Q9)) (mC (.int 0)))) (Qy 3 (mOp J9 (mOp zr (mOp oIx (mOp oIx (Q4 0) (mC (.int 0))) (mOp zr (mOp qp (Q4 2) (mC (.int 3))) (Qz Zc (Q2 (mOp oIx (Q4 0) (mC (.int 0))) Q9)))) (mOp Q0z (mC (.int 10)) (mC (.int 9)))) (mOp qp (Q4 2) (mC (.int 1000000))))) J5))
  (Qd (Vb (Q4 0) (mC (.int 1)) (mOp J9 (Q4 2) (mC (.int 1))))
  (Vb (Q4 0) (mC (.int 2)) (Qi 2 Zf (Q2 (Q4 3) (Q2 (Q4 2) Q9)))))))) J5)
  (Qd (Qy 4 (mOp zr (mOp oIx (Q4 0) (mC (.int 2))) (Q4 1)))
  (Qd (Vb (Q4 0) (mC (.int 2)) (mOp Qa6 (mOp oIx (Q4 0) (mC (.int 2))) (Q4 1)))
  (Jm (Q4 4)))))
def Qc:FN:=J2 Wh 5
theorem sc__law_e_digit:FnScope ["tape", "many", "place", "cell", "digit"] ["tape", "many"] (Qa Ys):=⟨rfl,rfl,rfl,by decide +kernel,rfl,by decide +kernel,by decide +kernel⟩
theorem Q0y {f:aB} {fd:aR} (F:Fun K "_law_e_digit" "_law_e_digit" Ys f fd) (T:Txt mg)  (D__law_e_stirred:DefS P w K mg base 1 "_law_e_stirred" 2 Zf):FnOk P w K mg base (CXD P w) 2 f fd ["tape", "many"] (spF mg 2 Qc):=by
 refine Zm (k:=1) (m:=Wh) F sc__law_e_digit rfl rfl rfl fun cdv A outer s H E hr=>?_
 exact (Q8 (Z5 (Qm (Xf hr.units) (Qx (Q0 0) Q7) (Q0 1)) (Q8 (Qk 2 sc__law_e_digit.nd (Qx (Q0 0) Q7))
  (Q8 (Qk 3 sc__law_e_digit.nd (Q0 2))
  (Q8 (Z5 (Qm (Xf hr.units) (Q0 2) (Qt Y0 rfl T.b_len PySem.boot_len (Q1 (Qx (Q0 0) Q7) Q5))) (Qh (Qk 3 sc__law_e_digit.nd (Qx (Qx (Q0 0) Q7) (Q0 2)))) (Qh (Z5 (Qm yr (Qt Y0 rfl T.b_len PySem.boot_len (Q1 (Qx (Q0 0) Q7) Q5)) Q7) (Qh (Qk 3 sc__law_e_digit.nd (Qq J3 (Qq qz (Qx (Qx (Q0 0) Q7) (Qq qz (Qq Xz (Q0 2) Q7) (Qt Y0 rfl T.b_len PySem.boot_len (Q1 (Qx (Q0 0) Q7) Q5)))) (Qq Q2i Q7 Q7)) (Qq Xz (Q0 2) Q7)))) J8)))
  (Q8 (zn (Qq J3 (Q0 2) Q7) (Q0 0) Q7)
  (Qh (zn (Qn D__law_e_stirred (hr.mono (by decide)) Qr rfl (Q1 (Q0 3) (Q1 (Q0 2) Q5))) (Q0 0) Q7)))))) J8)
  (Q8 (Qk 4 sc__law_e_digit.nd (Qq qz (Qx (Q0 0) Q7) (Q0 1)))
  (Q8 (zn (Qq Qh4 (Qx (Q0 0) Q7) (Q0 1)) (Q0 0) Q7)
  (Qh (Qw (Q0 4))))))
def Zs:ME:=(Z2 (Q2 (Q4 1) (Q2 (Q4 0) Q9)))
def Jr:MT:=(Vf (toB (mOp oNe (Q4 0) (Q4 1))) (toB (mOp oLt (Qi 2 Qc (Q2 (Q4 3) (Q2 (mC (.int 8)) Q9))) (Q4 2))))
def Jw:MS:=(Ke (mBM j8 (Q4 6) (Q2 (Vs (Z9 [none,some 7,some 3,some 0] (Q6 0) (Yb (Q2 (Q4 1) Q9)) Jr Zs)) Q9)))
def Zt : MS := (Qd (Qy 6 (qq (ze Q9)))
  (Qd (Ux (Q6 7) (Yb (Q2 (Q4 1) Q9)) Jw)
  (Ke (mBM Wf (Q4 4) (Q2 (Qz ji (Q2 (Q4 6) Q9)) Q9)))))
def Zh : MS := (Qd (Qy 3 (mOp J9 (mC (.int 1)) (Qi 2 Qc (Q2 (Q4 0) (Q2 (mC (.int 6)) Q9)))))
  (Qd (Qy 4 (qq (ze Q9)))
  (Qd (Ux (Q6 5) (Yb (Q2 (Qi 2 Qc (Q2 (Q4 0) (Q2 (mOp J9 (Q4 2) (mC (.int 1))) Q9))) Q9)) Zt)
  (Jm (Q4 4)))))
def Yg:FN:=Wc Zh 8
theorem sc__law_e_drawn_roads:FnScope ["tape", "n", "most", "often", "roads", "turn", "one", "i"] ["tape", "n", "most"] (Qa Jh):=⟨rfl,rfl,rfl,by decide +kernel,rfl,by decide +kernel,by decide +kernel⟩
theorem qm {f:aB} {fd:aR} (F:Fun K "_law_e_drawn_roads" "_law_e_drawn_roads" Jh f fd) (T:Txt mg)  (D__law_e_digit:DefS P w K mg base 2 "_law_e_digit" 2 Qc):FnOk P w K mg base (CXD P w) 3 f fd ["tape", "n", "most"] (spF mg 3 Yg):=by
 refine Xj (k:=2) (m:=Zh) F sc__law_e_drawn_roads rfl rfl rfl fun cdv A outer s H E hr=>?_
 exact (Q8 (Qk 3 sc__law_e_drawn_roads.nd (Qq J3 Q7 (Qn D__law_e_digit (hr.mono (by decide)) Qr rfl (Q1 (Q0 0) (Q1 Q7 Q5)))))
  (Q8 (Qk 4 sc__law_e_drawn_roads.nd (Xy (Q21 Q5)))
  (Q8 (Yh PassesOwn.leaving rfl (Z7 rfl T.b_range (Q1 (Qn D__law_e_digit (hr.mono (by decide)) Qr rfl (Q1 (Q0 0) (Q1 (Qq J3 (Q0 2) Q7) Q5))) Q5)) (Qg (i:=5) sc__law_e_drawn_roads.nd) (Q8 (Qk 6 sc__law_e_drawn_roads.nd (Xy (Q21 Q5)))
  (Q8 (Yh PassesOwn.leaving rfl (Z7 rfl T.b_range (Q1 (Q0 1) Q5)) (Qg (i:=7) sc__law_e_drawn_roads.nd) (Qh (jp (Qau (Q0 6) (Q1 (W0 (Y1 [none,some 7,some 3,some 0] ["j", "i", "often", "tape"] rfl (Z7 rfl T.b_range (Q1 (Q0 1) Q5)) (fun _ _ _ _ _=>(Qg (i:=0) (show (["j", "i", "often", "tape"]:List Str).Nodup by decide +kernel))) (fun _ _ _ _ _=>(Je (Q1 (Q0 1) (Q1 (Q0 0) Q5)))) (fun _ _ _ _ _=>(X3 (SimW.t (V7 (Qm (Qa5 hr.units) (Q0 0) (Q0 1)) (V1 (Qm (Xf hr.units) (Qn D__law_e_digit (hr.mono (by decide)) X4 rfl (Q1 (Q0 3) (Q1 Q7 Q5))) (Q0 2))))))) Jd)) Q5)))))
  (Qh (jp (jq (Q0 4) (Q1 (K8 Q82 rfl T.b_tuple qc (Q1 (Q0 6) Q5)) Q5)))))))
  (Qh (Qw (Q0 4))))))
def Ue:ME:=(Q4 1)
def U6:MT:=(toB (mOp (oIn false) (Q4 0) (Q4 2)))
def Jj : MS := (Qd (Z6 (toB (mOp (oIn false) (Q4 3) (Q4 4))) (Jm (Q4 5)) J5)
  (Z6 (toB (mOp oLt (Q4 5) (Qz Zc (Q2 (Q4 0) Q9)))) (Qy 4 (Q2n (mOp J9 (Q4 4) (Vs (Z9 [none,none,some 4] (Jn (Qb (Q6 0) (Qb (Q6 1) Jp))) (Uw (mOp oIx (Q4 0) (Q4 5))) U6 Ue))))) J5))
def Yv : MS := (Qd (Qy 4 (Um (Q2 (Q4 1) Q9)))
  (Qd (Ux (Q6 5) (yz (Q2 (Q4 2) (Q2 (mOp J9 (Qz Zc (Q2 (Q4 0) Q9)) (mC (.int 1))) Q9))) Jj)
  (Jm (mC .non))))
def Zi:FN:=J2 Yv 6
theorem sc__law_e_first:FnScope ["roads", "start", "moment", "end", "there", "turn"] ["roads", "start", "moment", "end"] (Qa Yr):=⟨rfl,rfl,rfl,by decide +kernel,rfl,by decide +kernel,by decide +kernel⟩
theorem Q0x {f:aB} {fd:aR} (F:Fun K "_law_e_first" "_law_e_first" Yr f fd) (T:Txt mg)   : FnOk P w K mg base (CXD P w) 1 f fd ["roads", "start", "moment", "end"] (spF mg 4 Zi):=by
 refine Zm (k:=0) (m:=Yv) F sc__law_e_first rfl rfl rfl fun cdv A outer s H E hr=>?_
 exact (Q8 (Qk 4 sc__law_e_first.nd (V9 (Q1 (Q0 1) Q5)))
  (Q8 (Yh PassesOwn.leaving rfl (Q3y rfl T.b_range (Q1 (Q0 2) (Q1 (Qq J3 (Qt Y0 rfl T.b_len PySem.boot_len (Q1 (Q0 0) Q5)) Q7) Q5))) (Qg (i:=5) sc__law_e_first.nd) (Q8 (Z5 (Qm (Qie hr.units) (Q0 3) (Q0 4)) (Qh (Qw (Q0 5))) J8)
  (Qh (Z5 (Qm (Xf hr.units) (Q0 5) (Qt Y0 rfl T.b_len PySem.boot_len (Q1 (Q0 0) Q5))) (Qh (Qk 4 sc__law_e_first.nd (Q8q (Qq J3 (Q0 4) (W0 (Y1 [none,none,some 4] ["i", "j", "there"] rfl (Yi (Qx (Q0 0) (Q0 5))) (fun _ _ _ _ _=>(V8 rfl (Qj (Qg (i:=0) (show (["i", "j", "there"]:List Str).Nodup by decide +kernel)) (Qj (Qg (i:=1) (show (["i", "j", "there"]:List Str).Nodup by decide +kernel)) Yz)))) (fun _ _ _ _ _=>(Q0 1)) (fun _ _ _ _ _=>(X3 (Qm (Qie hr.units) (Q0 0) (Q0 2)))) (Q32 (X8 (X8 Q33)))))) rfl rfl T.b_sorted Q89 rfl T.b_set Qfg))) J8))))
  (Qh (Qw Uu))))
def W2 : MS := (Qd (Q08 (Q4 3) (Q4 5) (Qi 4 Zi (Q2 (Q4 1) (Q2 (Q4 2) (Q2 (mC (.int 0)) (Q2 (Q4 5) Q9))))))
  (Qd (Q08 (Q4 4) (Q4 5) (mC .non))
  (Z6 (toB (mOp Uv (Vt (Q4 3) (Q4 5)) (mC .non))) (Q08 (Q4 4) (Q4 5) (Qi 4 Zi (Q2 (Q4 1) (Q2 (Q4 5) (Q2 (Vt (Q4 3) (Q4 5)) (Q2 (Q4 2) Q9)))))) J5)))
def Yu : MS := (Qd (Qy 3 Q2p)
  (Qd (Qy 4 Q2p)
  (Qd (Ux (Q6 5) (Yb (Q2 (Q4 0) Q9)) W2)
  (Jm (Z2 (Q2 (Q4 3) (Q2 (Q4 4) Q9)))))))
def Ww:FN:=Wc Yu 6
theorem sc__law_e_moments:FnScope ["n", "roads", "house", "moments", "homes", "k"] ["n", "roads", "house"] (Qa Zv):=⟨rfl,rfl,rfl,by decide +kernel,rfl,by decide +kernel,by decide +kernel⟩
theorem yu {f:aB} {fd:aR} (F:Fun K "_law_e_moments" "_law_e_moments" Zv f fd) (T:Txt mg)  (D__law_e_first:DefS P w K mg base 1 "_law_e_first" 4 Zi):FnOk P w K mg base (CXD P w) 2 f fd ["n", "roads", "house"] (spF mg 3 Ww):=by
 refine Xj (k:=1) (m:=Yu) F sc__law_e_moments rfl rfl rfl fun cdv A outer s H E hr=>?_
 exact (Q8 (Qk 3 sc__law_e_moments.nd Q6i)
  (Q8 (Qk 4 sc__law_e_moments.nd Q6i)
  (Q8 (Yh PassesOwn.leaving rfl (Z7 rfl T.b_range (Q1 (Q0 0) Q5)) (Qg (i:=5) sc__law_e_moments.nd) (Q8 (Q18 (Yj hr) (Qn D__law_e_first (hr.mono (by decide)) Qr rfl (Q1 (Q0 1) (Q1 (Q0 2) (Q1 Q7 (Q1 (Q0 5) Q5))))) (Q0 3) (Q0 5))
  (Q8 (Q18 (Yj hr) Uu (Q0 4) (Q0 5))
  (Qh (Z5 (Qm yq (Vq (Yj hr) (Q0 3) (Q0 5) (fun _ _=>rfl)) Uu) (Qh (Q18 (Yj hr) (Qn D__law_e_first (hr.mono (by decide)) Qr rfl (Q1 (Q0 1) (Q1 (Q0 5) (Q1 (Vq (Yj hr) (Q0 3) (Q0 5) (fun _ _=>rfl)) (Q1 (Q0 2) Q5))))) (Q0 4) (Q0 5))) J8)))))
  (Qh (Qw (Je (Q1 (Q0 3) (Q1 (Q0 4) Q5))))))))
def J4 : MS := (Qd (Z6 (xy (toB (mOp oLt (Q4 8) (Q4 7))) (xy (toB (mOp (oI fun a b => .bl (decide (b <= a))) (Q4 8) (Q4 5))) (xy (toB (mOp oLt (Q4 11) (mC (.int 1)))) (toB (mOp (oIn true) (Z2 (Q2 (Q4 9) (Q2 (Q4 10) Q9))) (mOp oIx (Q4 1) (Q4 8))))))) (Jm (mC (.bl false))) J5)
  (Qd (Z6 (xy (toB (mOp oIs (Vt (Q4 2) (Q4 9)) (mC .non))) (toB (mOp (oI fun a b=>.bl (decide (b < a))) (Vt (Q4 2) (Q4 9)) (Q4 8)))) (Jm (mC (.bl false))) J5)
  (Qy 7 (Q4 8))))
def U0:ME:=(mOp oIx (Q4 0) (mC (.int 3)))
def W9:MT:=(Vf (toB (mOp oEq (mOp oIx (Q4 0) (mC (.int 0))) (Q4 1))) (toB (mOp oEq (mOp oIx (Q4 0) (mC (.int 1))) (Q4 2))))
def Wb:ME:=(Qz (Xm fun ns=>some (.int ns.sum)) (Q2 (Vs (Z9 [none,some 2,some 0] (Q6 0) (Uw (Q4 1)) W9 U0)) Q9))
def Vz:ME:=(mOp oIx (Q4 0) (mC (.int 3)))
def W8:MT:=(Vf (toB (mOp oEq (mOp oIx (Q4 0) (mC (.int 0))) (Q4 1))) (toB (mOp oEq (mOp oIx (Q4 0) (mC (.int 2))) (Q4 2))))
def Wa:ME:=(Qz (Xm fun ns=>some (.int ns.sum)) (Q2 (Vs (Z9 [none,some 2,some 0] (Q6 0) (Uw (Q4 1)) W8 Vz)) Q9))
def Ju : MS := (Qd (Z6 (toB (mOp (oI fun a b => .bl (decide (b < a))) (mOp oIx (Q4 14) (Q4 16)) (mOp oIx (Q4 12) (Q4 16)))) (Jm (mC (.bl false))) J5)
  (Vb (Q4 12) (Q4 16) (mOp J9 (mOp (oI fun a b=>.int (a - b)) (mOp oIx (Q4 12) (Q4 16)) (mOp oIx (Q4 14) (Q4 16))) (mOp oIx (Q4 15) (Q4 16)))))
def Jv : MS := (Qd (Qy 14 (Vs (Z9 [none, some 6, some 13] (Q6 0) (Yb (Q2 (Qz Zc (Q2 (Q4 0) Q9)) Q9)) Ya Wb)))
  (Qd (Qy 15 (Vs (Z9 [none,some 6,some 13] (Q6 0) (Yb (Q2 (Qz Zc (Q2 (Q4 0) Q9)) Q9)) Ya Wa)))
  (Ux (Q6 16) (Yb (Q2 (Qz Zc (Q2 (Q4 0) Q9)) Q9)) Ju)))
def Jf : MS := (Qd (Z6 (xy (toB (mOp oLt (Q4 5) (mC (.int 0)))) (toB (mOp (oI fun a b => .bl (decide (b < a))) (Q4 5) (Qz Zc (Q2 (Q4 1) Q9))))) (Jm (mC (.bl false))) J5)
  (Qd (Qy 7 (mC (.int 0)))
  (Qd (Ux (Jn (Qb (Q6 8) (Qb (Q6 9) (Qb (Q6 10) (Qb (Q6 11) Jp))))) (Uw (Q4 6)) J4)
  (Qd (Qy 12 (qq (Kw (Q4 0))))
  (Qd (Ux (Q6 13) (Yb (Q2 (Q4 5) Q9)) Jv)
  (Jm (mOp (oI fun a b=>.bl (decide (b<=a))) (mOp oIx (Q4 12) (Q4 3)) (Q4 4))))))))
def W5:FN:=J2 Jf 17
theorem sc__law_e_judged:FnScope ["sums", "roads", "moments", "house", "amount", "moment", "moves", "last", "turn", "one", "to", "many", "have", "now", "gone", "new", "k"] ["sums", "roads", "moments", "house", "amount", "moment", "moves"] (Qa Y6):=⟨rfl,rfl,rfl,by decide +kernel,rfl,by decide +kernel,by decide +kernel⟩
theorem Q05 {f:aB} {fd:aR} (F:Fun K "_law_e_judged" "_law_e_judged" Y6 f fd) (T:Txt mg)   : FnOk P w K mg base (CXD P w) 1 f fd ["sums", "roads", "moments", "house", "amount", "moment", "moves"] (spF mg 7 W5):=by
 refine Zm (k:=0) (m:=Jf) F sc__law_e_judged rfl rfl rfl fun cdv A outer s H E hr=>?_
 exact (Q8 (Z5 (SimW.t (yg (Qm (Xf hr.units) (Q0 5) Q7) (zm (Qm yr (Q0 5) (Qt Y0 rfl T.b_len PySem.boot_len (Q1 (Q0 1) Q5)))))) (Qh (Qw Xb)) J8)
  (Q8 (Qk 7 sc__law_e_judged.nd Q7)
  (Q8 (Yh PassesOwn.leaving rfl (Yi (Q0 6)) (V8 rfl (Qj (Qg (i:=8) sc__law_e_judged.nd) (Qj (Qg (i:=9) sc__law_e_judged.nd) (Qj (Qg (i:=10) sc__law_e_judged.nd) (Qj (Qg (i:=11) sc__law_e_judged.nd) Yz))))) (Q8 (Z5 (SimW.t (yg (Qm (Xf hr.units) (Q0 8) (Q0 7)) (yg (Qm Q47 (Q0 8) (Q0 5)) (yg (Qm (Xf hr.units) (Q0 11) Q7) (zm (Qm (Q6x hr.units) (Je (Q1 (Q0 9) (Q1 (Q0 10) Q5))) (Qx (Q0 1) (Q0 8)))))))) (Qh (Qw Xb)) J8)
  (Q8 (Z5 (SimW.t (yg (Qm Qid (Vq (Yj hr) (Q0 2) (Q0 9) (fun _ _=>rfl)) Uu) (zm (Qm yr (Vq (Yj hr) (Q0 2) (Q0 9) (fun _ _=>rfl)) (Q0 8))))) (Qh (Qw Xb)) J8)
  (Qh (Qk 7 sc__law_e_judged.nd (Q0 8))))))
  (Q8 (Qk 12 sc__law_e_judged.nd (Xy (Q19 (Q0 0) rfl T.b_list)))
  (Q8 (Yh PassesOwn.leaving rfl (Z7 rfl T.b_range (Q1 (Q0 5) Q5)) (Qg (i:=13) sc__law_e_judged.nd) (Q8 (by first | exact Q1y [none,some 6,some 13] ["k", "moves", "now"] 14 sc__law_e_judged.nd rfl (Z7 rfl T.b_range (Q1 (Qt Y0 rfl T.b_len PySem.boot_len (Q1 (Q0 0) Q5)) Q5)) (fun _ _ _ _ _=>(Qg (i:=0) (show (["k", "moves", "now"]:List Str).Nodup by decide +kernel))) (fun _ _ _ _ _=>(Qt (Q60 rfl) rfl T.b_sum xn (Q1 (W0 (Y1 [none,some 2,some 0] ["move", "now", "k"] rfl (Yi (Q0 1)) (fun _ _ _ _ _=>(Qg (i:=0) (show (["move", "now", "k"]:List Str).Nodup by decide +kernel))) (fun _ _ _ _ _=>(Qx (Q0 0) Q7)) (fun _ _ _ _ _=>(X3 (SimW.t (V7 (Qm (Vr hr.units) (Qx (Q0 0) Q7) (Q0 1)) (V1 (Qm (Vr hr.units) (Qx (Q0 0) Q7) (Q0 2))))))) Jd)) Q5))) (fun _ _ _ _ _=>V2) Jd | exact Qk 14 sc__law_e_judged.nd (W0 (Y1 [none,some 6,some 13] ["k", "moves", "now"] rfl (Z7 rfl T.b_range (Q1 (Qt Y0 rfl T.b_len PySem.boot_len (Q1 (Q0 0) Q5)) Q5)) (fun _ _ _ _ _=>(Qg (i:=0) (show (["k", "moves", "now"]:List Str).Nodup by decide +kernel))) (fun _ _ _ _ _=>(Qt (Q60 rfl) rfl T.b_sum xn (Q1 (W0 (Y1 [none,some 2,some 0] ["move", "now", "k"] rfl (Yi (Q0 1)) (fun _ _ _ _ _=>(Qg (i:=0) (show (["move", "now", "k"]:List Str).Nodup by decide +kernel))) (fun _ _ _ _ _=>(Qx (Q0 0) Q7)) (fun _ _ _ _ _=>(X3 (SimW.t (V7 (Qm (Vr hr.units) (Qx (Q0 0) Q7) (Q0 1)) (V1 (Qm (Vr hr.units) (Qx (Q0 0) Q7) (Q0 2))))))) Jd)) Q5))) (fun _ _ _ _ _=>V2) Jd)))
  (Q8 (by first | exact Q1y [none,some 6,some 13] ["k", "moves", "now"] 15 sc__law_e_judged.nd rfl (Z7 rfl T.b_range (Q1 (Qt Y0 rfl T.b_len PySem.boot_len (Q1 (Q0 0) Q5)) Q5)) (fun _ _ _ _ _=>(Qg (i:=0) (show (["k", "moves", "now"]:List Str).Nodup by decide +kernel))) (fun _ _ _ _ _=>(Qt (Q60 rfl) rfl T.b_sum xn (Q1 (W0 (Y1 [none,some 2,some 0] ["move", "now", "k"] rfl (Yi (Q0 1)) (fun _ _ _ _ _=>(Qg (i:=0) (show (["move", "now", "k"]:List Str).Nodup by decide +kernel))) (fun _ _ _ _ _=>(Qx (Q0 0) Q7)) (fun _ _ _ _ _=>(X3 (SimW.t (V7 (Qm (Vr hr.units) (Qx (Q0 0) Q7) (Q0 1)) (V1 (Qm (Vr hr.units) (Qx (Q0 0) Q7) (Q0 2))))))) Jd)) Q5))) (fun _ _ _ _ _=>V2) Jd | exact Qk 15 sc__law_e_judged.nd (W0 (Y1 [none,some 6,some 13] ["k", "moves", "now"] rfl (Z7 rfl T.b_range (Q1 (Qt Y0 rfl T.b_len PySem.boot_len (Q1 (Q0 0) Q5)) Q5)) (fun _ _ _ _ _=>(Qg (i:=0) (show (["k", "moves", "now"]:List Str).Nodup by decide +kernel))) (fun _ _ _ _ _=>(Qt (Q60 rfl) rfl T.b_sum xn (Q1 (W0 (Y1 [none,some 2,some 0] ["move", "now", "k"] rfl (Yi (Q0 1)) (fun _ _ _ _ _=>(Qg (i:=0) (show (["move", "now", "k"]:List Str).Nodup by decide +kernel))) (fun _ _ _ _ _=>(Qx (Q0 0) Q7)) (fun _ _ _ _ _=>(X3 (SimW.t (V7 (Qm (Vr hr.units) (Qx (Q0 0) Q7) (Q0 1)) (V1 (Qm (Vr hr.units) (Qx (Q0 0) Q7) (Q0 2))))))) Jd)) Q5))) (fun _ _ _ _ _=>V2) Jd)))
  (Qh (Yh PassesOwn.leaving rfl (Z7 rfl T.b_range (Q1 (Qt Y0 rfl T.b_len PySem.boot_len (Q1 (Q0 0) Q5)) Q5)) (Qg (i:=16) sc__law_e_judged.nd) (Q8 (Z5 (Qm yr (Qx (Q0 14) (Q0 16)) (Qx (Q0 12) (Q0 16))) (Qh (Qw Xb)) J8)
  (Qh (zn (Qq J3 (Qq Xe (Qx (Q0 12) (Q0 16)) (Qx (Q0 14) (Q0 16))) (Qx (Q0 15) (Q0 16))) (Q0 12) (Q0 16)))))))))
  (Qh (Qw (Ks Q47 (Qx (Q0 12) (Q0 3)) (Q0 4)))))))))
def V5:ME:=(mOp J9 (mOp qp (mOp Qhd (Qi 2 Qc (Q2 (Q4 1) (Q2 (mC (.int 3)) Q9))) (mC (.int 2))) (Qi 2 Qc (Q2 (Q4 1) (Q2 (mC (.int 7)) Q9)))) (Qi 2 Qc (Q2 (Q4 1) (Q2 (Q4 2) Q9))))
def Wz : MS := (Qd (Qy 2 (mOp oIx (Um (Q2 (mC (.int 4)) (Q2 (mC (.int 11)) (Q2 (mC (.int 1000)) (Q2 (mOp Q0z (mC (.int 10)) (mC (.int 29))) Q9))))) (Qi 2 Qc (Q2 (Q4 0) (Q2 (mC (.int 4)) Q9)))))
  (Jm (Qz ji (Q2 (Vs (Z9 [none,some 0,some 2] (Q6 0) (Yb (Q2 (Q4 1) Q9)) Ya V5)) Q9))))
def Ui:FN:=Wc Wz 3
theorem sc__law_e_sums:FnScope ["tape", "n", "far"] ["tape", "n"] (Qa W6):=⟨rfl,rfl,rfl,by decide +kernel,rfl,by decide +kernel,by decide +kernel⟩
theorem Q2j {f:aB} {fd:aR} (F:Fun K "_law_e_sums" "_law_e_sums" W6 f fd) (T:Txt mg)  (D__law_e_digit:DefS P w K mg base 2 "_law_e_digit" 2 Qc):FnOk P w K mg base (CXD P w) 3 f fd ["tape", "n"] (spF mg 2 Ui):=by
 refine Xj (k:=2) (m:=Wz) F sc__law_e_sums rfl rfl rfl fun cdv A outer s H E hr=>?_
 exact (Q8 (Qk 2 sc__law_e_sums.nd (Qx (V9 (Q1 Q7 (Q1 Q7 (Q1 Q7 (Q1 (Qq Q2i Q7 Q7) Q5))))) (Qn D__law_e_digit (hr.mono (by decide)) Qr rfl (Q1 (Q0 0) (Q1 Q7 Q5)))))
  (Qh (Qw (K8 Q82 rfl T.b_tuple qc (Q1 (W0 (Y1 [none,some 0,some 2] ["k", "tape", "far"] rfl (Z7 rfl T.b_range (Q1 (Q0 1) Q5)) (fun _ _ _ _ _=>(Qg (i:=0) (show (["k", "tape", "far"]:List Str).Nodup by decide +kernel))) (fun _ _ _ _ _=>(Qq J3 (Qq Xz (Qq Qjm (Qn D__law_e_digit (hr.mono (by decide)) X4 rfl (Q1 (Q0 1) (Q1 Q7 Q5))) Q7) (Qn D__law_e_digit (hr.mono (by decide)) X4 rfl (Q1 (Q0 1) (Q1 Q7 Q5)))) (Qn D__law_e_digit (hr.mono (by decide)) X4 rfl (Q1 (Q0 1) (Q1 (Q0 2) Q5))))) (fun _ _ _ _ _=>V2) Jd)) Q5)))))
def Qu : MS := (Z6 (Vf (toB (mOp Uv (Vt (Q4 3) (Q4 10)) (mC .non))) (Vf (toB (mOp (oI fun a b => .bl (decide (a <= b))) (Vt (Q4 3) (Q4 10)) (Q4 6))) (Vf (toB (mOp (oI fun a b => .bl (decide (b < a))) (mOp oIx (Q4 8) (Q4 10)) (mC (.int 0)))) (toB (mOp (oI fun a b => .bl (decide (b < a))) (Qi 2 Qc (Q2 (Q4 0) (Q2 (mC (.int 3)) Q9))) (mC (.int 0))))))) (Qd (Qy 12 (mOp oIx (Q4 8) (Q4 10)))
  (Qd (Z6 (toB (mOp oEq (Qi 2 Qc (Q2 (Q4 0) (Q2 (mC (.int 2)) Q9))) (mC (.int 0)))) (Qy 12 (mOp J9 (mC (.int 1)) (Qi 2 Qc (Q2 (Q4 0) (Q2 (mOp oIx (Q4 8) (Q4 10)) Q9))))) J5)
  (Qd (Vb (Q4 8) (Q4 10) (mOp (oI fun a b=>.int (a - b)) (mOp oIx (Q4 8) (Q4 10)) (Q4 12)))
  (Qd (Vb (Q4 4) (Q4 10) (mOp (oI fun a b=>.int (a - b)) (mOp oIx (Q4 4) (Q4 10)) (Q4 12)))
  (Qd (Vb (Q4 4) (Q4 11) (mOp J9 (mOp oIx (Q4 4) (Q4 11)) (Q4 12)))
  (Ke (mBM Wf (Q4 5) (Q2 (Z2 (Q2 (Q4 6) (Q2 (Q4 10) (Q2 (Q4 11) (Q2 (Q4 12) Q9))))) Q9)))))))) J5)
def Y3 : MS := (Qd (Qy 8 (qq (Kw (Q4 4))))
  (Qd (Qy 9 (Qi 2 Qc (Q2 (Q4 0) (Q2 (mOp J9 (Qz Zc (Q2 (Q4 7) Q9)) (mC (.int 1))) Q9))))
  (Ux (Jn (Qb (Q6 10) (Qb (Q6 11) Jp))) (Uw (mOp J9 (mSl (Q4 7) (Wi (Q4 9)) Yc) (mSl (Q4 7) Yc (Wi (Q4 9))))) Qu)))
def Zq : MS := (Qd (Qy 4 (qq (Kw (Q4 1))))
  (Qd (Qy 5 (qq (ze Q9)))
  (Qd (Ux (Jn (Qb (Q6 6) (Qb (Q6 7) Jp))) (Q7d (Q2 (Q4 2) Q9)) Y3)
  (Jm (Q4 5)))))
def Yk:FN:=Wc Zq 13
theorem sc__law_e_some_moves:FnScope ["tape", "sums", "roads", "moments", "have", "moves", "turn", "one", "left", "start", "i", "j", "many"] ["tape", "sums", "roads", "moments"] (Qa Jy):=⟨rfl,rfl,rfl,by decide +kernel,rfl,by decide +kernel,by decide +kernel⟩
theorem j6 {f:aB} {fd:aR} (F:Fun K "_law_e_some_moves" "_law_e_some_moves" Jy f fd) (T:Txt mg)  (D__law_e_digit:DefS P w K mg base 2 "_law_e_digit" 2 Qc):FnOk P w K mg base (CXD P w) 3 f fd ["tape", "sums", "roads", "moments"] (spF mg 4 Yk):=by
 refine Xj (k:=2) (m:=Zq) F sc__law_e_some_moves rfl rfl rfl fun cdv A outer s H E hr=>?_
 exact (Q8 (Qk 4 sc__law_e_some_moves.nd (Xy (Q19 (Q0 1) rfl T.b_list)))
  (Q8 (Qk 5 sc__law_e_some_moves.nd (Xy (Q21 Q5)))
  (Q8 (Yh PassesOwn.leaving rfl (Q9y rfl T.b_enumerate (Q1 (Q0 2) Q5)) (V8 rfl (Qj (Qg (i:=6) sc__law_e_some_moves.nd) (Qj (Qg (i:=7) sc__law_e_some_moves.nd) Yz))) (Q8 (Qk 8 sc__law_e_some_moves.nd (Xy (Q19 (Q0 4) rfl T.b_list)))
  (Q8 (Qk 9 sc__law_e_some_moves.nd (Qn D__law_e_digit (hr.mono (by decide)) Qr rfl (Q1 (Q0 0) (Q1 (Qq J3 (Qt Y0 rfl T.b_len PySem.boot_len (Q1 (Q0 7) Q5)) Q7) Q5))))
  (Qh (Yh PassesOwn.leaving rfl (Yi (Qq J3 (Wy (Q0 7) (V3 (Q0 9)) Xq) (Wy (Q0 7) Xq (V3 (Q0 9))))) (V8 rfl (Qj (Qg (i:=10) sc__law_e_some_moves.nd) (Qj (Qg (i:=11) sc__law_e_some_moves.nd) Yz))) (Qh (Z5 (SimW.t (V7 (Qm yq (Vq (Yj hr) (Q0 3) (Q0 10) (fun _ _=>rfl)) Uu) (V7 (Qm Q0j (Vq (Yj hr) (Q0 3) (Q0 10) (fun _ _=>rfl)) (Q0 6)) (V7 (Qm yr (Qx (Q0 8) (Q0 10)) Q7) (V1 (Qm yr (Qn D__law_e_digit (hr.mono (by decide)) Qr rfl (Q1 (Q0 0) (Q1 Q7 Q5))) Q7)))))) (Q8 (Qk 12 sc__law_e_some_moves.nd (Qx (Q0 8) (Q0 10)))
  (Q8 (Z5 (Qm (Vr hr.units) (Qn D__law_e_digit (hr.mono (by decide)) Qr rfl (Q1 (Q0 0) (Q1 Q7 Q5))) Q7) (Qh (Qk 12 sc__law_e_some_moves.nd (Qq J3 Q7 (Qn D__law_e_digit (hr.mono (by decide)) Qr rfl (Q1 (Q0 0) (Q1 (Qx (Q0 8) (Q0 10)) Q5)))))) J8)
  (Q8 (zn (Qq Xe (Qx (Q0 8) (Q0 10)) (Q0 12)) (Q0 8) (Q0 10))
  (Q8 (zn (Qq Xe (Qx (Q0 4) (Q0 10)) (Q0 12)) (Q0 4) (Q0 10))
  (Q8 (zn (Qq J3 (Qx (Q0 4) (Q0 11)) (Q0 12)) (Q0 4) (Q0 11))
  (Qh (jp (jq (Q0 5) (Q1 (Je (Q1 (Q0 6) (Q1 (Q0 10) (Q1 (Q0 11) (Q1 (Q0 12) Q5))))) Q5))))))))) J8)))))))
  (Qh (Qw (Q0 5))))))
def Z0 : MS := (Qd (Z6 (toB (mOp oEq (Q4 2) (Um Q9))) (Jm (Um (Q2 (Z2 (Q2 (mC (.int 0)) (Q2 (mC (.int 0)) (Q2 (mOp (oI fun a b => .int (a - b)) (Q4 1) (mC (.int 1))) (Q2 (mC (.int 1)) Q9))))) Q9))) J5)
  (Qd (Qy 3 (Qi 2 Qc (Q2 (Q4 0) (Q2 (Qz Zc (Q2 (Q4 2) Q9)) Q9))))
  (Qd (Qei (Jn (Qb (Q6 4) (Qb (Q6 5) (Qb (Q6 6) (Qb (Q6 7) Jp))))) (mOp oIx (Q4 2) (Q4 3)))
  (Qd (Qy 8 (Qi 2 Qc (Q2 (Q4 0) (Q2 (mOp Q0z (mC (.int 10)) (mC (.int 20))) Q9))))
  (Qd (Qy 9 (Um (Q2 (Z2 (Q2 (Q4 4) (Q2 (Q4 5) (Q2 (Q4 6) (Q2 (mOp J9 (Q4 7) (mC (.int 1))) Q9))))) (Q2 (Z2 (Q2 (Q4 4) (Q2 (Q4 5) (Q2 (Q4 6) (Q2 (mC (.int 0)) Q9))))) (Q2 (Z2 (Q2 (Q4 4) (Q2 (Q4 5) (Q2 (Q4 6) (Q2 (Q10 (Q4 7)) Q9))))) (Q2 (Z2 (Q2 (mOp (oI fun a b=>.int (a - b)) (Q4 4) (mC (.int 1))) (Q2 (Q4 5) (Q2 (Q4 6) (Q2 (Q4 7) Q9))))) Q9))))))
  (Qd (Qy 9 (mOp J9 (Q4 9) (Um (Q2 (Z2 (Q2 (mOp J9 (Q4 4) (mC (.int 1))) (Q2 (Q4 5) (Q2 (Q4 6) (Q2 (Q4 7) Q9))))) (Q2 (Z2 (Q2 (Q4 4) (Q2 (Q4 6) (Q2 (Q4 5) (Q2 (Q4 7) Q9))))) (Q2 (Z2 (Q2 (Q4 4) (Q2 (Q4 5) (Q2 (Q4 5) (Q2 (Q4 7) Q9))))) (Q2 (Z2 (Q2 (Q4 4) (Q2 (Q4 5) (Q2 (Q4 1) (Q2 (Q4 7) Q9))))) Q9)))))))
  (Qd (Qy 9 (mOp J9 (Q4 9) (Um (Q2 (Z2 (Q2 (Q4 4) (Q2 (Q10 (mC (.int 1))) (Q2 (Q4 6) (Q2 (Q4 7) Q9))))) (Q2 (Z2 (Q2 (Q4 8) (Q2 (Q4 5) (Q2 (Q4 6) (Q2 (Q4 7) Q9))))) (Q2 (Z2 (Q2 (Q4 4) (Q2 (Q4 5) (Q2 (Q4 6) (Q2 (mOp J9 (Q4 7) (Q4 8)) Q9))))) (Q2 (Z2 (Q2 (mOp (oI fun a b=>.int (a - b)) (Q10 (mC (.int 1))) (Q4 8)) (Q2 (Q4 5) (Q2 (Q4 6) (Q2 (Q4 7) Q9))))) Q9)))))))
  (Qd (Qy 10 (Qi 2 Qc (Q2 (Q4 0) (Q2 (mC (.int 15)) Q9))))
  (Qd (Z6 (toB (mOp oEq (Q4 10) (mC (.int 12)))) (Jm (Vs (Q4b (Q4 2) (Q10 (mC (.int 1)))))) J5)
  (Qd (Z6 (toB (mOp oEq (Q4 10) (mC (.int 13)))) (Jm (mOp J9 (mSl (Q4 2) Yc (Wi (Q4 3))) (mSl (Q4 2) (Wi (mOp J9 (Q4 3) (mC (.int 1)))) Yc))) J5)
  (Qd (Z6 (toB (mOp oEq (Q4 10) (mC (.int 14)))) (Jm (mOp J9 (Q4 2) (mSl (Q4 2) (Wi (Q4 3)) (Wi (mOp J9 (Q4 3) (mC (.int 1))))))) J5)
  (Jm (mOp J9 (mOp J9 (mSl (Q4 2) Yc (Wi (Q4 3))) (Um (Q2 (mOp oIx (Q4 9) (Q4 10)) Q9))) (mSl (Q4 2) (Wi (mOp J9 (Q4 3) (mC (.int 1)))) Yc))))))))))))))
def Z1:FN:=Wc Z0 11
theorem sc__law_e_bent_moves:FnScope ["tape", "n", "moves", "at", "turn", "one", "to", "many", "far", "bent", "way"] ["tape", "n", "moves"] (Qa Jz):=⟨rfl,rfl,rfl,by decide +kernel,rfl,by decide +kernel,by decide +kernel⟩
theorem j7 {f:aB} {fd:aR} (F:Fun K "_law_e_bent_moves" "_law_e_bent_moves" Jz f fd) (T:Txt mg)  (D__law_e_digit:DefS P w K mg base 2 "_law_e_digit" 2 Qc):FnOk P w K mg base (CXD P w) 3 f fd ["tape", "n", "moves"] (spF mg 3 Z1):=by
 refine Xj (k:=2) (m:=Z0) F sc__law_e_bent_moves rfl rfl rfl fun cdv A outer s H E hr=>?_
 exact (Q8 (Z5 (Qm (Vr hr.units) (Q0 2) (V9 Q5)) (Qh (Qw (V9 (Q1 (Je (Q1 Q7 (Q1 Q7 (Q1 (Qq Xe (Q0 1) Q7) (Q1 Q7 Q5))))) Q5)))) J8)
  (Q8 (Qk 3 sc__law_e_bent_moves.nd (Qn D__law_e_digit (hr.mono (by decide)) Qr rfl (Q1 (Q0 0) (Q1 (Qt Y0 rfl T.b_len PySem.boot_len (Q1 (Q0 2) Q5)) Q5))))
  (Q8 (Qis (Qx (Q0 2) (Q0 3)) (V8 rfl (Qj (Qg (i:=4) sc__law_e_bent_moves.nd) (Qj (Qg (i:=5) sc__law_e_bent_moves.nd) (Qj (Qg (i:=6) sc__law_e_bent_moves.nd) (Qj (Qg (i:=7) sc__law_e_bent_moves.nd) Yz))))))
  (Q8 (Qk 8 sc__law_e_bent_moves.nd (Qn D__law_e_digit (hr.mono (by decide)) Qr rfl (Q1 (Q0 0) (Q1 (Qq Q2i Q7 Q7) Q5))))
  (Q8 (Qk 9 sc__law_e_bent_moves.nd (V9 (Q1 (Je (Q1 (Q0 4) (Q1 (Q0 5) (Q1 (Q0 6) (Q1 (Qq J3 (Q0 7) Q7) Q5))))) (Q1 (Je (Q1 (Q0 4) (Q1 (Q0 5) (Q1 (Q0 6) (Q1 Q7 Q5))))) (Q1 (Je (Q1 (Q0 4) (Q1 (Q0 5) (Q1 (Q0 6) (Q1 (Q24 (Q0 7)) Q5))))) (Q1 (Je (Q1 (Qq Xe (Q0 4) Q7) (Q1 (Q0 5) (Q1 (Q0 6) (Q1 (Q0 7) Q5))))) Q5))))))
  (Q8 (Qk 9 sc__law_e_bent_moves.nd (Qq J3 (Q0 9) (V9 (Q1 (Je (Q1 (Qq J3 (Q0 4) Q7) (Q1 (Q0 5) (Q1 (Q0 6) (Q1 (Q0 7) Q5))))) (Q1 (Je (Q1 (Q0 4) (Q1 (Q0 6) (Q1 (Q0 5) (Q1 (Q0 7) Q5))))) (Q1 (Je (Q1 (Q0 4) (Q1 (Q0 5) (Q1 (Q0 5) (Q1 (Q0 7) Q5))))) (Q1 (Je (Q1 (Q0 4) (Q1 (Q0 5) (Q1 (Q0 1) (Q1 (Q0 7) Q5))))) Q5)))))))
  (Q8 (Qk 9 sc__law_e_bent_moves.nd (Qq J3 (Q0 9) (V9 (Q1 (Je (Q1 (Q0 4) (Q1 (Q24 Q7) (Q1 (Q0 6) (Q1 (Q0 7) Q5))))) (Q1 (Je (Q1 (Q0 8) (Q1 (Q0 5) (Q1 (Q0 6) (Q1 (Q0 7) Q5))))) (Q1 (Je (Q1 (Q0 4) (Q1 (Q0 5) (Q1 (Q0 6) (Q1 (Qq J3 (Q0 7) (Q0 8)) Q5))))) (Q1 (Je (Q1 (Qq Xe (Q24 Q7) (Q0 8)) (Q1 (Q0 5) (Q1 (Q0 6) (Q1 (Q0 7) Q5))))) Q5)))))))
  (Q8 (Qk 10 sc__law_e_bent_moves.nd (Qn D__law_e_digit (hr.mono (by decide)) Qr rfl (Q1 (Q0 0) (Q1 Q7 Q5))))
  (Q8 (Z5 (Qm (Vr hr.units) (Q0 10) Q7) (Qh (Qw (W0 (Qit (Q0 2) (Q24 Q7))))) J8)
  (Q8 (Z5 (Qm (Vr hr.units) (Q0 10) Q7) (Qh (Qw (Qq J3 (Wy (Q0 2) Xq (V3 (Q0 3))) (Wy (Q0 2) (V3 (Qq J3 (Q0 3) Q7)) Xq)))) J8)
  (Q8 (Z5 (Qm (Vr hr.units) (Q0 10) Q7) (Qh (Qw (Qq J3 (Q0 2) (Wy (Q0 2) (V3 (Q0 3)) (V3 (Qq J3 (Q0 3) Q7)))))) J8)
  (Qh (Qw (Qq J3 (Qq J3 (Wy (Q0 2) Xq (V3 (Q0 3))) (V9 (Q1 (Qx (Q0 9) (Q0 10)) Q5))) (Wy (Q0 2) (V3 (Qq J3 (Q0 3) Q7)) Xq)))))))))))))))
def Zd:MS:=(Z6 (Vf (toB (mOp oEq (Q4 6) (Q4 5))) (toB (mOp (oI fun a b=>.bl (decide (b < a))) (mOp oIx (Q4 1) (Q4 4)) (mC (.int 0))))) (Jm (Um (Q2 (Z2 (Q2 (Q4 2) (Q2 (Q4 4) (Q2 (Q4 5) (Q2 (mOp oIx (Q4 1) (Q4 4)) Q9))))) (Q2 (Z2 (Q2 (Q4 2) (Q2 (Q4 5) (Q2 (Q4 7) (Q2 (mOp J9 (mOp oIx (Q4 1) (Q4 5)) (mOp oIx (Q4 1) (Q4 4))) Q9))))) Q9)))) J5)
def Zw:MS:=(Ux (Jn (Qb (Q6 6) (Qb (Q6 7) Jp))) (Uw (Q4 3)) Zd)
def Zx:MS:=(Ux (Jn (Qb (Q6 4) (Qb (Q6 5) Jp))) (Uw (Q4 3)) Zw)
def Yt : MS := (Qd (Ux (Jn (Qb (Q6 2) (Qb (Q6 3) Jp))) (Q7d (Q2 (Q4 0) Q9)) Zx)
  (Jm (Um Q9)))
def Yx:FN:=J2 Yt 8
theorem sc__law_e_relay:FnScope ["roads", "sums", "turn", "one", "i", "j", "other", "to"] ["roads", "sums"] (Qa Yq):=⟨rfl,rfl,rfl,by decide +kernel,rfl,by decide +kernel,by decide +kernel⟩
theorem Q0w {f:aB} {fd:aR} (F:Fun K "_law_e_relay" "_law_e_relay" Yq f fd) (T:Txt mg)   : FnOk P w K mg base (CXD P w) 1 f fd ["roads", "sums"] (spF mg 2 Yx):=by
 refine Zm (k:=0) (m:=Yt) F sc__law_e_relay rfl rfl rfl fun cdv A outer s H E hr=>?_
 exact (Q8 (Yh PassesOwn.leaving rfl (Q9y rfl T.b_enumerate (Q1 (Q0 0) Q5)) (V8 rfl (Qj (Qg (i:=2) sc__law_e_relay.nd) (Qj (Qg (i:=3) sc__law_e_relay.nd) Yz))) (Qh (Yh PassesOwn.leaving rfl (Yi (Q0 3)) (V8 rfl (Qj (Qg (i:=4) sc__law_e_relay.nd) (Qj (Qg (i:=5) sc__law_e_relay.nd) Yz))) (Qh (Yh PassesOwn.leaving rfl (Yi (Q0 3)) (V8 rfl (Qj (Qg (i:=6) sc__law_e_relay.nd) (Qj (Qg (i:=7) sc__law_e_relay.nd) Yz))) (Qh (Z5 (SimW.t (V7 (Qm (Vr hr.units) (Q0 6) (Q0 5)) (V1 (Qm yr (Qx (Q0 1) (Q0 4)) Q7)))) (Qh (Qw (V9 (Q1 (Je (Q1 (Q0 2) (Q1 (Q0 4) (Q1 (Q0 5) (Q1 (Qx (Q0 1) (Q0 4)) Q5))))) (Q1 (Je (Q1 (Q0 2) (Q1 (Q0 5) (Q1 (Q0 7) (Q1 (Qq J3 (Qx (Q0 1) (Q0 5)) (Qx (Q0 1) (Q0 4))) Q5))))) Q5))))) J8)))))))
  (Qh (Qw (V9 Q5))))
def Ji : MS := (Qd (Z6 (Vf (toB (mOp oLt (Q4 7) (Q4 4))) (toB (mOp oEq (Q4 9) (Q4 3)))) (Qy 6 (mOp J9 (Q4 6) (Q4 10))) J5)
  (Z6 (Vf (toB (mOp oLt (Q4 7) (Q4 4))) (toB (mOp oEq (Q4 8) (Q4 3)))) (Qy 6 (mOp (oI fun a b=>.int (a - b)) (Q4 6) (Q4 10))) J5))
def Wg : MS := (Qd (Qy 6 (mOp oIx (Q4 0) (Q4 3)))
  (Qd (Ux (Jn (Qb (Q6 7) (Qb (Q6 8) (Qb (Q6 9) (Qb (Q6 10) Jp))))) (Uw (Q4 5)) Ji)
  (Jm (Q4 6))))
def U3:FN:=J2 Wg 11
theorem sc__law_e_there:FnScope ["sums", "roads", "moments", "house", "moment", "moves", "have", "turn", "one", "to", "many"] ["sums", "roads", "moments", "house", "moment", "moves"] (Qa Yp):=⟨rfl,rfl,rfl,by decide +kernel,rfl,by decide +kernel,by decide +kernel⟩
theorem Q0v {f:aB} {fd:aR} (F:Fun K "_law_e_there" "_law_e_there" Yp f fd) (T:Txt mg)   : FnOk P w K mg base (CXD P w) 1 f fd ["sums", "roads", "moments", "house", "moment", "moves"] (spF mg 6 U3):=by
 refine Zm (k:=0) (m:=Wg) F sc__law_e_there rfl rfl rfl fun cdv A outer s H E hr=>?_
 exact (Q8 (Qk 6 sc__law_e_there.nd (Qx (Q0 0) (Q0 3)))
  (Q8 (Yh PassesOwn.leaving rfl (Yi (Q0 5)) (V8 rfl (Qj (Qg (i:=7) sc__law_e_there.nd) (Qj (Qg (i:=8) sc__law_e_there.nd) (Qj (Qg (i:=9) sc__law_e_there.nd) (Qj (Qg (i:=10) sc__law_e_there.nd) Yz))))) (Q8 (Z5 (SimW.t (V7 (Qm (Xf hr.units) (Q0 7) (Q0 4)) (V1 (Qm (Vr hr.units) (Q0 9) (Q0 3))))) (Qh (Qk 6 sc__law_e_there.nd (Qq J3 (Q0 6) (Q0 10)))) J8)
  (Qh (Z5 (SimW.t (V7 (Qm (Xf hr.units) (Q0 7) (Q0 4)) (V1 (Qm (Vr hr.units) (Q0 8) (Q0 3))))) (Qh (Qk 6 sc__law_e_there.nd (Qq Xe (Q0 6) (Q0 10)))) J8))))
  (Qh (Qw (Q0 6)))))
def Q5x:ME:=(Q4 0)
def Q51:MT:=(toB (mOp oLt (mOp oIx (Q4 0) (mC (.int 0))) (Q4 1)))
def xr:MS:=(Ke (mBM Wf (Q4 13) (Q2 (Z2 (Q2 (Qz Q9m (Q2 (mC (.int 1)) (Q2 (mOp (oI fun a b=>.int (a - b)) (Q4 12) (mOp zr (Q4 14) (mC (.int 2)))) Q9))) (Q2 (Q4 10) (Q2 (Qi 3 Z1 (Q2 (Q4 1) (Q2 (Q4 3) (Q2 (Q4 11) Q9)))) Q9)))) Q9)))
def Q1j : MS := (Qd (Qy 18 (Um (Q2 (Qz Kk (Q2 (Q4 5) Q9)) (Q2 (Qz Kk (Q2 (Q4 17) Q9)) Q9))))
  (Qd (Qy 19 (Qi 6 Kn (Q2 (Q4 7) (Q2 (mOp oIx (Q4 18) (mC (.int 0))) (Q2 (Q4 6) (Q2 (Q4 15) (Q2 (Q4 16) (Q2 (mOp oIx (Q4 18) (mC (.int 1))) Q9))))))))
  (Qd (Z6 (xy (Uy (toB (Q7b "bool" (Q4 19)))) (toB (mOp Qe8 (Q4 18) (Um (Q2 (Q4 5) (Q2 (Q4 17) Q9)))))) (Jm (mC (.bl false))) J5)
  (Z6 (toB (mOp oNe (Q4 19) (Qi 7 W5 (Q2 (Q4 7) (Q2 (Q4 5) (Q2 (Q4 8) (Q2 (Q4 6) (Q2 (Q4 15) (Q2 (Q4 16) (Q2 (Q4 17) Q9)))))))))) (Jm (mC (.bl false))) J5))))
def z9 : MS := (Qd (Z6 (Vf (toB (mOp (oI fun a b => .bl (decide (b < a))) (Q4 2) (mC (.int 1)))) (toB (mOp (oI fun a b => .bl (decide (b <= a))) (mOp oIx (Q4 1) (mC (.int 1))) (Qz Zc (Q2 (Q4 0) Q9))))) Q5n J5)
  (Qd (Qy 3 (mOp J9 (mC (.int 1)) (Qi 2 Qc (Q2 (Q4 1) (Q2 (mC (.int 5)) Q9)))))
  (Qd (Qy 4 (mC (.int 6)))
  (Qd (Z6 (Vf (toB (mOp oEq (Q4 2) (mC (.int 0)))) (toB (mOp oEq (Qi 2 Qc (Q2 (Q4 1) (Q2 (mC (.int 6)) Q9))) (mC (.int 0))))) (Qd (Qy 3 (mOp J9 (mC (.int 2)) (Qi 2 Qc (Q2 (Q4 1) (Q2 (mC (.int 2)) Q9)))))
  (Qy 4 (mC (.int 12)))) J5)
  (Qd (Qy 5 (Qi 3 Yg (Q2 (Q4 1) (Q2 (Q4 3) (Q2 (Q4 4) Q9)))))
  (Qd (Qy 6 (Qi 2 Qc (Q2 (Q4 1) (Q2 (Q4 3) Q9))))
  (Qd (Qy 7 (Qi 2 Ui (Q2 (Q4 1) (Q2 (Q4 3) Q9))))
  (Qd (Qy 8 (mOp oIx (Qi 3 Ww (Q2 (Q4 3) (Q2 (Q4 5) (Q2 (Q4 6) Q9)))) (mC (.int 0))))
  (Qd (Qy 9 (Qi 4 Yk (Q2 (Q4 1) (Q2 (Q4 7) (Q2 (Q4 5) (Q2 (Q4 8) Q9))))))
  (Qd (Qy 10 (Qi 2 Qc (Q2 (Q4 1) (Q2 (mOp J9 (Qz Zc (Q2 (Q4 5) Q9)) (mC (.int 1))) Q9))))
  (Qd (Qy 11 (Vs (Z9 [none,some 10] (Q6 0) (Uw (Q4 9)) Q51 Q5x)))
  (Qd (Qy 12 (Qz Q9m (Q2 (mC (.int 1)) (Q2 (Qi 6 U3 (Q2 (Q4 7) (Q2 (Q4 5) (Q2 (Q4 8) (Q2 (Q4 6) (Q2 (Q4 10) (Q2 (Q4 11) Q9))))))) Q9))))
  (Qd (Qy 13 (qq (ze (Q2 (Z2 (Q2 (Q4 12) (Q2 (Q4 10) (Q2 (Q4 11) Q9)))) (Q2 (Z2 (Q2 (mOp J9 (Q4 12) (mC (.int 1))) (Q2 (Q4 10) (Q2 (Q4 11) Q9)))) (Q2 (Z2 (Q2 (Q4 12) (Q2 (Q4 10) (Q2 (Q4 9) Q9)))) (Q2 (Z2 (Q2 (Q4 12) (Q2 (mOp (oI fun a b=>.int (a - b)) (Q4 10) (mC (.int 1))) (Q2 (Q4 11) Q9)))) Q9)))))))
  (Qd (Qy 13 (qq (Q7e (Q4 13) (Um (Q2 (Z2 (Q2 (Q4 12) (Q2 (mOp J9 (Q4 10) (mC (.int 1))) (Q2 (Q4 11) Q9)))) (Q2 (Z2 (Q2 (Q4 12) (Q2 (Q10 (mC (.int 1))) (Q2 (Um Q9) Q9)))) (Q2 (Z2 (Q2 (mC (.int 1)) (Q2 (mOp J9 (Qz Zc (Q2 (Q4 5) Q9)) (mC (.int 1))) (Q2 (Um Q9) Q9)))) (Q2 (Z2 (Q2 (mC (.int 1)) (Q2 (mOp Q0z (mC (.int 10)) (mC (.int 20))) (Q2 (Q4 11) Q9)))) Q9))))))))
  (Qd (Ke (mBM Wf (Q4 13) (Q2 (Z2 (Q2 (mC (.int 1)) (Q2 (Qz Zc (Q2 (Q4 5) Q9)) (Q2 (Qi 2 Yx (Q2 (Q4 5) (Q2 (Q4 7) Q9))) Q9)))) Q9)))
  (Qd (Ux (Q6 14) (Yb (Q2 (mC (.int 6)) Q9)) xr)
  (Ux (Jn (Qb (Q6 15) (Qb (Q6 16) (Qb (Q6 17) Jp)))) (Uw (Q4 13)) Q1j)))))))))))))))))
def Q79 : MS := (Qd (Qy 1 (qq (ze (Q2 (Q4 0) (Q2 (mC (.int 0)) (Q2 (mC (.int 0)) Q9))))))
  (Qd (Ux (Q6 2) (Yb (Q2 (mC (.int 4)) Q9)) z9)
  (Jm (mC (.bl true)))))
def Qft:FN:=J2 Q79 20
theorem sc_law:FnScope ["script", "tape", "k", "n", "most", "roads", "house", "sums", "moments", "every", "moment", "moves", "there", "asks", "turn", "amount", "by", "some", "handed", "found"] ["script"] (Qa ym):=⟨rfl,rfl,rfl,by decide +kernel,rfl,by decide +kernel,by decide +kernel⟩
theorem Qjw {f:aB} {fd:aR} (F:Fun K "law" "law" ym f fd) (T:Txt mg)  (D__law_e_digit:DefS P w K mg base 2 "_law_e_digit" 2 Qc) (D__law_e_drawn_roads:DefS P w K mg base 3 "_law_e_drawn_roads" 3 Yg) (D__law_e_sums:DefS P w K mg base 3 "_law_e_sums" 2 Ui) (D__law_e_moments:DefS P w K mg base 2 "_law_e_moments" 3 Ww) (D__law_e_some_moves:DefS P w K mg base 3 "_law_e_some_moves" 4 Yk) (D__law_e_there:DefS P w K mg base 1 "_law_e_there" 6 U3) (D__law_e_relay:DefS P w K mg base 1 "_law_e_relay" 2 Yx) (D__law_e_bent_moves:DefS P w K mg base 3 "_law_e_bent_moves" 3 Z1) (D_gathers:DefS P w K mg base 7 "gathers" 6 Kn) (D__law_e_judged:DefS P w K mg base 1 "_law_e_judged" 7 W5):FnOk P w K mg base (CXD P w) 8 f fd ["script"] (spF mg 1 Qft):=by
 refine Zm (k:=7) (m:=Q79) F sc_law rfl rfl rfl fun cdv A outer s H E hr=>?_
 exact (Q8 (Qk 1 sc_law.nd (Xy (Q21 (Q1 (Q0 0) (Q1 Q7 (Q1 Q7 Q5))))))
  (Q8 (Yh PassesOwn.leaving rfl (Z7 rfl T.b_range (Q1 Q7 Q5)) (Qg (i:=2) sc_law.nd) (Q8 (Z5 (SimW.t (V7 (Qm yr (Q0 2) Q7) (V1 (Qm Q47 (Qx (Q0 1) Q7) (Qt Y0 rfl T.b_len PySem.boot_len (Q1 (Q0 0) Q5)))))) (Qh Qcz) J8)
  (Q8 (Qk 3 sc_law.nd (Qq J3 Q7 (Qn D__law_e_digit (hr.mono (by decide)) Qr rfl (Q1 (Q0 1) (Q1 Q7 Q5)))))
  (Q8 (Qk 4 sc_law.nd Q7)
  (Q8 (Z5 (SimW.t (V7 (Qm (Vr hr.units) (Q0 2) Q7) (V1 (Qm (Vr hr.units) (Qn D__law_e_digit (hr.mono (by decide)) Qr rfl (Q1 (Q0 1) (Q1 Q7 Q5))) Q7)))) (Q8 (Qk 3 sc_law.nd (Qq J3 Q7 (Qn D__law_e_digit (hr.mono (by decide)) Qr rfl (Q1 (Q0 1) (Q1 Q7 Q5)))))
  (Qh (Qk 4 sc_law.nd Q7))) J8)
  (Q8 (Qk 5 sc_law.nd (Qn D__law_e_drawn_roads (hr.mono (by decide)) Qr rfl (Q1 (Q0 1) (Q1 (Q0 3) (Q1 (Q0 4) Q5)))))
  (Q8 (Qk 6 sc_law.nd (Qn D__law_e_digit (hr.mono (by decide)) Qr rfl (Q1 (Q0 1) (Q1 (Q0 3) Q5))))
  (Q8 (Qk 7 sc_law.nd (Qn D__law_e_sums (hr.mono (by decide)) Qr rfl (Q1 (Q0 1) (Q1 (Q0 3) Q5))))
  (Q8 (Qk 8 sc_law.nd (Qx (Qn D__law_e_moments (hr.mono (by decide)) Qr rfl (Q1 (Q0 3) (Q1 (Q0 5) (Q1 (Q0 6) Q5)))) Q7))
  (Q8 (Qk 9 sc_law.nd (Qn D__law_e_some_moves (hr.mono (by decide)) Qr rfl (Q1 (Q0 1) (Q1 (Q0 7) (Q1 (Q0 5) (Q1 (Q0 8) Q5))))))
  (Q8 (Qk 10 sc_law.nd (Qn D__law_e_digit (hr.mono (by decide)) Qr rfl (Q1 (Q0 1) (Q1 (Qq J3 (Qt Y0 rfl T.b_len PySem.boot_len (Q1 (Q0 5) Q5)) Q7) Q5))))
  (Q8 (by first | exact Q1y [none,some 10] ["move", "moment"] 11 sc_law.nd rfl (Yi (Q0 9)) (fun _ _ _ _ _=>(Qg (i:=0) (show (["move", "moment"]:List Str).Nodup by decide +kernel))) (fun _ _ _ _ _=>(Q0 0)) (fun _ _ _ _ _=>(X3 (Qm (Xf hr.units) (Qx (Q0 0) Q7) (Q0 1)))) Jd | exact Qk 11 sc_law.nd (W0 (Y1 [none,some 10] ["move", "moment"] rfl (Yi (Q0 9)) (fun _ _ _ _ _=>(Qg (i:=0) (show (["move", "moment"]:List Str).Nodup by decide +kernel))) (fun _ _ _ _ _=>(Q0 0)) (fun _ _ _ _ _=>(X3 (Qm (Xf hr.units) (Qx (Q0 0) Q7) (Q0 1)))) Jd)))
  (Q8 (Qk 12 sc_law.nd (Qt (Qf5 rfl) rfl T.b_max Q8a (Q1 Q7 (Q1 (Qn D__law_e_there (hr.mono (by decide)) Qr rfl (Q1 (Q0 7) (Q1 (Q0 5) (Q1 (Q0 8) (Q1 (Q0 6) (Q1 (Q0 10) (Q1 (Q0 11) Q5))))))) Q5))))
  (Q8 (Qk 13 sc_law.nd (Xy (Q21 (Q1 (Je (Q1 (Q0 12) (Q1 (Q0 10) (Q1 (Q0 11) Q5)))) (Q1 (Je (Q1 (Qq J3 (Q0 12) Q7) (Q1 (Q0 10) (Q1 (Q0 11) Q5)))) (Q1 (Je (Q1 (Q0 12) (Q1 (Q0 10) (Q1 (Q0 9) Q5)))) (Q1 (Je (Q1 (Q0 12) (Q1 (Qq Xe (Q0 10) Q7) (Q1 (Q0 11) Q5)))) Q5)))))))
  (Q8 (Qk 13 sc_law.nd (Xy (Qiu (Q0 13) (V9 (Q1 (Je (Q1 (Q0 12) (Q1 (Qq J3 (Q0 10) Q7) (Q1 (Q0 11) Q5)))) (Q1 (Je (Q1 (Q0 12) (Q1 (Q24 Q7) (Q1 (V9 Q5) Q5)))) (Q1 (Je (Q1 Q7 (Q1 (Qq J3 (Qt Y0 rfl T.b_len PySem.boot_len (Q1 (Q0 5) Q5)) Q7) (Q1 (V9 Q5) Q5)))) (Q1 (Je (Q1 Q7 (Q1 (Qq Q2i Q7 Q7) (Q1 (Q0 11) Q5)))) Q5))))))))
  (Q8 (jp (jq (Q0 13) (Q1 (Je (Q1 Q7 (Q1 (Qt Y0 rfl T.b_len PySem.boot_len (Q1 (Q0 5) Q5)) (Q1 (Qn D__law_e_relay (hr.mono (by decide)) Qr rfl (Q1 (Q0 5) (Q1 (Q0 7) Q5))) Q5)))) Q5)))
  (Q8 (Yh PassesOwn.leaving rfl (Z7 rfl T.b_range (Q1 Q7 Q5)) (Qg (i:=14) sc_law.nd) (Qh (jp (jq (Q0 13) (Q1 (Je (Q1 (Qt (Qf5 rfl) rfl T.b_max Q8a (Q1 Q7 (Q1 (Qq Xe (Q0 12) (Qq qz (Q0 14) Q7)) Q5))) (Q1 (Q0 10) (Q1 (Qn D__law_e_bent_moves (hr.mono (by decide)) Qr rfl (Q1 (Q0 1) (Q1 (Q0 3) (Q1 (Q0 11) Q5)))) Q5)))) Q5)))))
  (Qh (Yh PassesOwn.leaving rfl (Yi (Q0 13)) (V8 rfl (Qj (Qg (i:=15) sc_law.nd) (Qj (Qg (i:=16) sc_law.nd) (Qj (Qg (i:=17) sc_law.nd) Yz)))) (Q8 (Qk 18 sc_law.nd (V9 (Q1 (K8 Q61 rfl T.b_list Km (Q1 (Q0 5) Q5)) (Q1 (K8 Q61 rfl T.b_list Km (Q1 (Q0 17) Q5)) Q5))))
  (Q8 (Qk 19 sc_law.nd (Qn D_gathers (hr.mono (by decide)) Qr rfl (Q1 (Q0 7) (Q1 (Qx (Q0 18) Q7) (Q1 (Q0 6) (Q1 (Q0 15) (Q1 (Q0 16) (Q1 (Qx (Q0 18) Q7) Q5))))))))
  (Q8 (Z5 (SimW.t (yg (Xx (Kq (Q00 (T := "bool") (by decide) (Q0 19) rfl T.b_isinstance rfl T.b_bool Q4s))) (zm (Qm (Qjk hr.units) (Q0 18) (V9 (Q1 (Q0 5) (Q1 (Q0 17) Q5))))))) (Qh (Qw Xb)) J8)
  (Qh (Z5 (Qm (Qa5 hr.units) (Q0 19) (Qn D__law_e_judged (hr.mono (by decide)) Qr rfl (Q1 (Q0 7) (Q1 (Q0 5) (Q1 (Q0 8) (Q1 (Q0 6) (Q1 (Q0 15) (Q1 (Q0 16) (Q1 (Q0 17) Q5))))))))) (Qh (Qw Xb)) J8))))))))))))))))))))))))
  (Qh (Qw Xb))))
end
end Lw
namespace Lw
open PySem PySem.Spec L2 Sm
theorem Q5w (a:Int) {b:Int} (h:0 < b):0<=a % b/\a % b < b:=⟨Int.emod_nonneg a (by omega),Int.emod_lt_of_pos a h⟩
theorem Qpk (x:Int) {n:Nat} (h:1<=n):∃ k:Nat,k < n/\x % (n:Int)=(k:Int):=by
 have:=Q5w x (b:=(n:Int)) (by omega);exact ⟨(x % (n:Int)).toNat,by omega,by omega⟩
theorem Qfz (c:Int) (p:Nat) (st:Q3):∃ z:Int,Zf [.int c,.int p] st=.ok (.int z) st:=by
 by_cases q:1000000000000000000<=c
 ·refine ⟨c,?_⟩;simp -implicitDefEqProofs [Zf,J2,Wq,q]
 ·obtain ⟨f,hf⟩:∃ f,(c % 998244353 * 51749 + p * 7919 + 3) % 1000000007=f:=⟨_,rfl⟩;have f1:=Q5w (c % 998244353 * 51749 + p * 7919 + 3) (b:=1000000007) (by decide);rw [hf] at f1;obtain ⟨g,hg⟩:∃ g:Int,(f * f + 32749 * f + p + 5) % 2147483629=g:=⟨_,rfl⟩;have g1:=Q5w (f * f + 32749 * f + p + 5) (b:=2147483629) (by decide);rw [hg] at g1;have fb:-18446744073709551616 < f/\f < 18446744073709551616:=by omega
  have gb:-18446744073709551616 < g/\g < 18446744073709551616:=by omega
  refine ⟨g * 2147483587 + (g * g + 61 * p + f) % 2147483587,?_⟩;simp -implicitDefEqProofs [Zf,J2,Wq,q,hf,hg,fb,gb]
def TapeAt (S:Q3) (L:Nat) (ns:List Int):Prop:=∃ (p:Nat) (c:Int),S[L]?=some (.lst [.fro (ns.map .int),.int p,.int c])
theorem TapeAt.lt {S:Q3} {L:Nat} {ns:List Int} (h:TapeAt S L ns):L < S.length:=let ⟨_,_,e⟩:=h; (O0.mp e).1
theorem Q1u {S:Q3} {L:Nat} {a b c x:PV} (h:S[L]?=some (.lst [a,b,c])):Uj S (.ref L) (.int 1) x=some (S.set L (.lst [a,x,c]))/\Uj S (.ref L) (.int 2) x=some (S.set L (.lst [a,b,x])):=by
 unfold Uj;simp only [h];exact ⟨rfl,rfl⟩
theorem Q17 {S:Q3} {L:Nat} {a b c:PV} (h:S[L]?=some (.lst [a,b,c])):oIx S (.ref L) (.int 0)=.ok a S/\oIx S (.ref L) (.int 1)=.ok b S/\oIx S (.ref L) (.int 2)=.ok c S:=by
 have hV:ListAt S (.ref L) [a,b,c]:=.inr (.inr ⟨L,rfl,h⟩);rw [hV.ix,hV.ix,hV.ix];exact ⟨rfl,rfl,rfl⟩
theorem Qhy (ns:List Int) (p:Nat) {S:Q3} {L:Nat} {c:PV} (hS:S[L]?=some (.lst [.fro (ns.map .int),.int p,c])) (a1 a4:Option PV):∃ z:Int,(Z6 (toB (mOp oLt (Q4 2) (Qz Zc (Q2 (mOp oIx (Q4 0) (mC (.int 0))) Q9)))) (Qy 3 (mOp oIx (mOp oIx (Q4 0) (mC (.int 0))) (Q4 2))) (Z6 (toB (mOp (oI fun a b=>.bl (decide (b < a))) (Qz Zc (Q2 (mOp oIx (Q4 0) (mC (.int 0))) Q9)) (mC (.int 0)))) (Qy 3 (mOp J9 (mOp zr (mOp oIx (mOp oIx (Q4 0) (mC (.int 0))) (mOp zr (mOp qp (Q4 2) (mC (.int 3))) (Qz Zc (Q2 (mOp oIx (Q4 0) (mC (.int 0))) Q9)))) (mOp Q0z (mC (.int 10)) (mC (.int 9)))) (mOp qp (Q4 2) (mC (.int 1000000))))) J5)) [some (.ref L),a1,some (.int p),some (.int p),a4] S=.nx [some (.ref L),a1,some (.int p),some (.int z),a4] S:=by
 obtain ⟨i0,_,_⟩:=Q17 hS;have hl:(ns.map PV.int).length=ns.length:=O3 _
 by_cases q:p < ns.length
 ·have e:atI (ns.map PV.int) (p:Int)=some (.int (ns.getD p 0)):=by rw [qd,Sm.atI_get (Zb q 0)]; rfl
  refine ⟨ns.getD p 0,?_⟩;generalize ns.getD p 0=x at i0 hl q e ⊢;generalize ns.length=len at i0 hl q e ⊢;generalize ns.map PV.int=nv at i0 hl q e ⊢;simp -implicitDefEqProofs [i0,hl,q,e,-Uz]
 ·by_cases q2:ns.length=0
  ·refine ⟨p,?_⟩;generalize ns.map PV.int=nv at *;rw [q2] at hl;have q0:¬ (p:Int) < 0:=by omega
   simp -implicitDefEqProofs [i0,hl,q0,-Uz]
  ·have hp:0 < ns.length:=by omega
   obtain ⟨m,hm,em⟩:=Qpk ((p:Int) * 3) hp;have e:atI (ns.map PV.int) (m:Int)=some (.int (ns.getD m 0)):=by rw [qd,Sm.atI_get (Zb hm 0)]; rfl
   refine ⟨ns.getD m 0 % 1000000000 + p * 1000000,?_⟩;have q':¬ (p:Int) < (ns.length:Int):=by omega
   generalize ns.getD m 0=x at i0 hl q q' hp em e ⊢;generalize ns.length=len at i0 hl q q' hp em e ⊢;generalize ns.map PV.int=nv at i0 hl q q' hp em e ⊢;simp -implicitDefEqProofs [i0,hl,q,q',hp,em,e,-Uz]
theorem Qkv {st st':Q3} (h:st'.length=st.length) (d:Int):fin st (.int d) st'=.ok (.int d) st':=by
 unfold fin
 by_cases q:st <+: st'
 ·rw [bS q];have:st=st':=q.eq_of_length h.symm;rw [<- this,fz]; rfl
 ·rw [bT q]
structure Mv (L:Nat) (S S':Q3):Prop where
 len:S'.length=S.length
 keep:∀ t,t≠L->S'[t]?=S[t]?
theorem Jt {ns:List Int} {S:Q3} {L:Nat} (T:TapeAt S L ns) (m:Nat) (h1:1<=m) (hm:m < 1267650600228229401496703205376):∃ (d:Nat) (S':Q3),d < m/\TapeAt S' L ns/\Mv L S S'/\Qc [.ref L,.int m] S=.ok (.int d) S':=by
 obtain ⟨p,c,hS⟩:=T;have hL:=(O0.mp hS).1;obtain ⟨p1,c1,S1,a2,a3,hS1,M1,e1⟩:∃ (p1:Nat) (c1:Int) (S1:Q3) (a2 a3:Option PV),S1[L]?=some (.lst [.fro (ns.map .int),.int p1,.int c1])/\Mv L S S1/\(Z6 (toB (mOp oLt (mOp oIx (Q4 0) (mC (.int 2))) (Q4 1))) (Qd (Qy 2 (mOp oIx (Q4 0) (mC (.int 1))))
  (Qd (Qy 3 (Q4 2))
  (Qd (Z6 (toB (mOp oLt (Q4 2) (Qz Zc (Q2 (mOp oIx (Q4 0) (mC (.int 0))) Q9)))) (Qy 3 (mOp oIx (mOp oIx (Q4 0) (mC (.int 0))) (Q4 2))) (Z6 (toB (mOp (oI fun a b=>.bl (decide (b < a))) (Qz Zc (Q2 (mOp oIx (Q4 0) (mC (.int 0))) Q9)) (mC (.int 0)))) (Qy 3 (mOp J9 (mOp zr (mOp oIx (mOp oIx (Q4 0) (mC (.int 0))) (mOp zr (mOp qp (Q4 2) (mC (.int 3))) (Qz Zc (Q2 (mOp oIx (Q4 0) (mC (.int 0))) Q9)))) (mOp Q0z (mC (.int 10)) (mC (.int 9)))) (mOp qp (Q4 2) (mC (.int 1000000))))) J5))
  (Qd (Vb (Q4 0) (mC (.int 1)) (mOp J9 (Q4 2) (mC (.int 1))))
  (Vb (Q4 0) (mC (.int 2)) (Qi 2 Zf (Q2 (Q4 3) (Q2 (Q4 2) Q9)))))))) J5) [some (.ref L),some (.int m),none,none,none] S=.nx [some (.ref L),some (.int m),a2,a3,none] S1:=by
  obtain ⟨i0,i1,i2⟩:=Q17 hS
  by_cases q:c < (m:Int)
  ·obtain ⟨z,ez⟩:=Qhy ns p hS (some (.int m)) none;obtain ⟨t1,_⟩:=Q1u (x:=.int ((p:Int) + 1)) hS;obtain ⟨S2,hS2⟩:∃ S2,S.set L (.lst [.fro (ns.map .int),.int ((p:Int) + 1),.int c])=S2:=⟨_,rfl⟩;have h2:S2[L]?=some (.lst [.fro (ns.map .int),.int ((p:Int) + 1),.int c]):=by rw [<- hS2,D7 hL]
   rw [hS2] at t1;obtain ⟨y,ey⟩:=Qfz z p S2;obtain ⟨_,t2⟩:=Q1u (x:=.int y) h2;have hL2:=(O0.mp h2).1;refine ⟨p + 1,y,S2.set L (.lst [.fro (ns.map .int),.int ((p:Int) + 1),.int y]),some (.int p),some (.int z),?_,⟨?_,fun t ht=>?_⟩,?_⟩
   ·rw [D7 hL2]; push_cast; rfl
   ·rw [F9,<- hS2,F9]
   ·rw [D8 (fun u=>ht u.symm),<- hS2,D8 (fun u=>ht u.symm)]
   ·have ht:(toB (mOp oLt (mOp oIx (Q4 0) (mC (.int 2))) (Q4 1))) [some (.ref L),some (.int m),none,none,none] S=.ok true S:=by
     simp -implicitDefEqProofs [i2,q,-Uz]
    have s1:∀ X:MS,(Qd (Qy 2 (mOp oIx (Q4 0) (mC (.int 1)))) (Qd (Qy 3 (Q4 2)) X)) [some (.ref L),some (.int m),none,none,none] S=X [some (.ref L),some (.int m),some (.int p),some (.int p),none] S:=fun X=>by
     simp -implicitDefEqProofs [i1,-Uz]
    rw [Q1c,ht,K9,bS rfl,s1,Ja,ez];show Qd _ _ _ _=_;simp -implicitDefEqProofs [t1,ey,t2,-yj]
  ·refine ⟨p,c,S,none,none,hS,⟨rfl,fun _ _=>rfl⟩,?_⟩;simp -implicitDefEqProofs [i2,q,-Uz]
 obtain ⟨_,_,j2⟩:=Q17 hS1;obtain ⟨d,hd,ed⟩:=Qpk c1 h1;obtain ⟨_,t2⟩:=Q1u (x:=.int (c1 / (m:Int))) hS1;have hL1:=(O0.mp hS1).1;obtain ⟨S3,hS3⟩:∃ S3,S1.set L (.lst [.fro (ns.map .int),.int p1,.int (c1 / (m:Int))])=S3:=⟨_,rfl⟩;have h3:S3[L]?=some (.lst [.fro (ns.map .int),.int p1,.int (c1 / (m:Int))]):=by rw [<- hS3,D7 hL1]
 have M3:Mv L S S3:=⟨by rw [<- hS3,F9,M1.len],fun t ht=>by rw [<- hS3,D8 (fun u=>ht u.symm),M1.keep t ht]⟩;rw [hS3] at t2;refine ⟨d,S3,hd,⟨p1,_,h3⟩,M3,?_⟩;have hm0:0 < m:=h1;have hm1:(m:Int) < 1267650600228229401496703205376:=by omega
 have step:Wh [some (.ref L),some (.int m),none,none,none] S=.rt (.int d) S3:=by
  unfold Wh;rw [Ja,e1];show Qd _ _ _ _=_;simp -implicitDefEqProofs [j2,hm0,hm1,ed,t2,-Uz,-yj]
 show J2 Wh 5 _ S=_;unfold J2;rw [show (([PV.ref L,.int m]:List PV).map some ++ List.replicate (5 - [PV.ref L,.int m].length) none)=[some (.ref L),some (.int m),none,none,none] from rfl,step];exact Qkv M3.len d
theorem Q5q (i:Int) (st:Q3):Xp [.int i] st=.ok (.bl true) st:=by
 simp [Xp,J2,zu,isI,tyN]
theorem Q9f {α:Type} (g:α->PV) {xs:List α} (I:Nat->List PV->Q3->Prop) {ga:GA} {mt:MT} {me:ME} {w:Wt} {Γ0:Gam} (hw:∀ i out st,I i out st->wOk w st)
  (h:∀ (i:Nat) x out st,xs[i]?=some x->I i out st->∃ Γ1,ga (g x) Γ0=some Γ1/\∃ b st1,mt Γ1 st=.ok b st1/\(b=true->∃ v st2,me Γ1 st1=.ok v st2/\I (i + 1) (out ++ [v]) st2)/\(b=false->I (i + 1) out st1)) {st:Q3} (h0:I 0 [] st):∃ out st',Jc ga mt me w Γ0 (xs.map g) st=.ok out st'/\I xs.length out st':=by
 have key:∀ (ys:List α) (k:Nat) (pre:List PV) (st:Q3),(∀ i,ys[i]?=xs[k + i]?)->k + ys.length=xs.length->I k pre st->∃ out st',Jc ga mt me w Γ0 (ys.map g) st=.ok out st'/\I xs.length (pre ++ out) st':=by
  intro ys
  induction ys with
  | nil=>
   intro k pre st e e2 i;refine ⟨[],st,by simp [Jc,hw k pre st i],?_⟩;rw [L1,<- e2]; exact i
  | cons y ys ih=>
   intro k pre st e e2 i;obtain ⟨Γ1,h1,b,st1,h2,h3,h4⟩:=h k y pre st (by have:=e 0; simpa using this.symm) i;have e':∀ i,ys[i]?=xs[k + 1 + i]?:=fun i=>by have:=e (i + 1); rw [List.getElem?_cons_succ] at this; rw [this]; congr 1; omega
   have e2':k + 1 + ys.length=xs.length:=by rw [<- e2,E1]; omega
   rw [O6,Jc,bS (hw k pre st i),h1];simp only [h2,Y2];cases b with
   | true=>
    obtain ⟨v,st2,h5,h6⟩:=h3 rfl;obtain ⟨out,st',h7,h8⟩:=ih (k + 1) (pre ++ [v]) st2 e' e2' h6;refine ⟨v :: out,st',?_,by rw [List.append_assoc] at h8; exact h8⟩;rw [bS rfl,h5];simp only [Y2,h7]
   | false=>
    obtain ⟨out,st',h7,h8⟩:=ih (k + 1) pre st1 e' e2' (h4 rfl);refine ⟨out,st',?_,h8⟩;rw [bT (by simp),h7]
 obtain ⟨out,st',h1,h2⟩:=key xs 0 [] st (fun i=>by simp) (by simp) h0;exact ⟨out,st',h1,h2⟩
theorem Q1i (x a b:Int) (st:Q3):Jx [.int x,.int a,.int b] st=.ok (.bl (decide (a<=x) && decide (x<=b))) st:=by
 have:=Q5q x st
 by_cases q:a<=x <;> simp [Jx,J2,Kv,this,q]
theorem Qnm {n:Int} {a b:PV} {u v:Bool} {st:Q3} (ha:Jx [a,.int 0,.int (n - 1)] st=.ok (.bl u) st) (hb:Jx [b,.int 0,.int (n - 1)] st=.ok (.bl v) st):((u && v)=false->Wv [.int n,.tup [a,b]] st=.ok (.bl false) st)/\((u && v)=true->∀ w,oNe st a b=.ok (.bl w) st->Wv [.int n,.tup [a,b]] st=.ok (.bl w) st):=by
 have hc:Jc (Q6 0) Ya Ur [] (Zk [none,some 0] [some (.int n),some (.tup [a,b])]) [a,b] st=.ok [.bl u,.bl v] st:=by
  have:=U1 (ga:=Q6 0) (me:=Ur) (w:=[]) (Γ0:=Zk [none,some 0] [some (.int n),some (.tup [a,b])]) (st:=st) (fun z:PV × Bool=>z.1) (fun z=>PV.bl z.2) (by simp) (ys:=[(a,u),(b,v)]) (fun z hz=>⟨_,rfl,by
   rcases D3.mp hz with rfl | hz
   ·simp [Zk,Ur,ha]
   ·rw [F3.mp hz];simp [Zk,Ur,hb]⟩)
  exact this
 have hal:q9 (fun ns=>.bl (ns.all id)) st [.lst [.bl u,.bl v]]=.ok (.bl (u && v)) st:=by cases u <;> cases v <;> rfl
 refine ⟨fun q=>?_,fun q w hw=>?_⟩
 ·rw [q] at hal;simp -implicitDefEqProofs [Wv,J2,jx,isI,tyN,hc,hal,Qp]
 ·rw [q] at hal;simp -implicitDefEqProofs [Wv,J2,jx,isI,tyN,hc,hal,Qp,atI,ixN,hw]
def rdV (r:Nat × Nat):PV:=.tup [.int r.1,.int r.2]
def Qck (n:Nat) (r:Nat × Nat):Prop:=r.1 < n/\r.2 < n/\r.1≠r.2
theorem Qg8 {n:Nat} {r:Nat × Nat} (h:Qck n r) (st:Q3):Wv [.int n,rdV r] st=.ok (.bl true) st:=by
 obtain ⟨h1,h2,h3⟩:=h;have h3':¬ ((r.1:Int)=r.2):=by omega
 refine (Qnm (Q1i _ _ _ st) (Q1i _ _ _ st)).2 ?_ true ?_
 ·simp; omega
 ·simp [h3']
def lx (a b:Nat × Nat):Bool:=HT.lexLt [(a.1:Int),a.2] [(b.1:Int),b.2]
def LxP (a b:Nat × Nat):Prop:=a.1 < b.1\/(a.1=b.1/\a.2 < b.2)
theorem Qpv (a b:Nat × Nat) (st:Q3):oLt st (rdV a) (rdV b)=.ok (.bl (lx a b)) st:=rfl
def Q27 (rs:List (Nat × Nat)):Bool:=(rs.zip (rs.drop 1)).all fun z=>lx z.1 z.2
theorem Qg9 (rs:List (Nat × Nat)) (hl:rs.length<=1000) (st:Q3):Vm [.tup (rs.map rdV)] st=.ok (.bl (Q27 rs)) st:=by
 have hsl:cut (rs.map rdV) (some 1) none=(rs.drop 1).map rdV:=by
  rw [Q5z];exact congrArg _ (xh rs 1)
 have hc:Jc (Jn (Qb (Q6 0) (Qb (Q6 1) Jp))) Ya K2 [] (Zk [none,none] [some (.tup (rs.map rdV))]) ((rs.zip (rs.drop 1)).map fun z=>.tup [rdV z.1,rdV z.2]) st=.ok (((rs.zip (rs.drop 1)).map fun z=>lx z.1 z.2).map .bl) st:=by
  rw [G6];refine U1 _ _ (by simp) fun z hz=>⟨_,rfl,?_⟩
  have:=Qpv z.1 z.2 st;show _=Res.ok (PV.bl (lx z.1 z.2)) st;generalize rdV z.1=v1 at *;generalize rdV z.2=v2 at *;simp [Zk,K2,this]
 have ha:Q27 rs=((rs.zip (rs.drop 1)).map fun z=>lx z.1 z.2).all id:=by unfold Q27; rw [List.all_map]; rfl
 have hl':(rs.map rdV).length<=1000000:=by rw [O3]; omega
 rw [ha];rw [<- Q68] at hc;generalize ((rs.zip (rs.drop 1)).map fun z=>lx z.1 z.2)=bs at hsl hl' hc ⊢
 generalize (rs.drop 1).map rdV=ds at hsl hl' hc ⊢;generalize rs.map rdV=rv at hsl hl' hc ⊢;simp -implicitDefEqProofs [Vm,J2,j9,hsl,hl',Qp,hc]
theorem Qka (a b:Nat × Nat):lx a b=true <-> LxP a b:=by
 unfold lx LxP;rw [HT.lexLt_cons,HT.lexLt_cons,HT.lexLt_nil_nil]
 by_cases h1:(a.1:Int)=b.1
 ·rw [bS h1]
  by_cases h2:(a.2:Int)=b.2
  ·rw [bS h2];constructor
   ·intro z; cases z
   ·intro z; omega
  ·rw [bT h2,decide_eq_true_iff]; omega
 ·rw [bT h1,decide_eq_true_iff]; omega
theorem Qaw (x y:Nat × Nat) (t:List (Nat × Nat)):Q27 (x :: y :: t)=(lx x y && Q27 (y :: t)):=rfl
theorem Qa2:∀ {rs:List (Nat × Nat)},rs.Pairwise LxP->Q27 rs=true
 | [],_=>rfl
 | [_],_=>rfl
 | x :: y :: t,h=>by
  rw [Qaw,Qa2 (L0.mp h).2,(Qka x y).mpr ((L0.mp h).1 y (by simp))]; rfl
structure RsOk (n:Nat) (rs:List (Nat × Nat)):Prop where
 ok:∀ r∈rs,Qck n r
 inc:rs.Pairwise LxP
 len:rs.length<=100
 sq:rs.length<=n * n
theorem Qdc {n:Nat} {zs:List (PV × Bool)} (hl:zs.length<=1000) (st:Q3) (h:∀ z∈zs,Wv [.int n,z.1] st=.ok (.bl z.2) st):((zs.map Prod.snd).all id=false->J1 [.int n,.tup (zs.map Prod.fst)] st=.ok (.bl false) st)/\((zs.map Prod.snd).all id=true->∀ w,Vm [.tup (zs.map Prod.fst)] st=.ok (.bl w) st->J1 [.int n,.tup (zs.map Prod.fst)] st=.ok (.bl w) st):=by
 have hc:Jc (Q6 0) Ya W1 [] (Zk [none,some 0] [some (.int n),some (.tup (zs.map Prod.fst))]) (zs.map Prod.fst) st=.ok ((zs.map Prod.snd).map .bl) st:=by
  rw [G6];refine U1 _ _ (by simp) fun z hz=>⟨_,rfl,?_⟩
  have:=h z hz;show _=Res.ok (PV.bl z.2) st;generalize zs.map Prod.fst=zv at *;simp [Zk,W1,this]
 have hl':(zs.map Prod.fst).length<=1000000:=by rw [O3]; omega
 generalize zs.map Prod.fst=zv at *;generalize zs.map Prod.snd=bs at *;refine ⟨fun q=>?_,fun q w hw=>?_⟩
 ·simp -implicitDefEqProofs [J1,J2,Y9,isI,tyN,hl',Qp,hc,q]
 ·simp -implicitDefEqProofs [J1,J2,Y9,isI,tyN,hl',Qp,hc,q,hw]
def Qs (rs:List (Nat × Nat)):PV:=.tup (rs.map rdV)
theorem Qdb {n:Nat} {rs:List (Nat × Nat)} (h:∀ r∈rs,Qck n r) (hl:rs.length<=900) (st:Q3):J1 [.int n,Qs rs] st=.ok (.bl (Q27 rs)) st:=by
 have e1:(rs.map fun r=>(rdV r,true)).map Prod.fst=rs.map rdV:=by rw [G6]; rfl
 have e2:((rs.map fun r=>(rdV r,true)).map Prod.snd).all id=true:=by rw [G6,List.all_map,E9]; intro r _; rfl
 have:=(Qdc (n:=n) (zs:=rs.map fun r=>(rdV r,true)) (by rw [O3]; omega) st (fun z hz=>by
  obtain ⟨r,hr,rfl⟩:=List.mem_map.mp hz;exact Qg8 (h r hr) st)).2 e2
 rw [e1] at this;exact this _ (Qg9 rs (by omega) st)
theorem Qdd {n:Nat} (h1:1<=n) (h8:n<=8) {zs:List (PV × Bool)} (hl:zs.length<=40) {V:PV} {st:Q3} (hV:ListAt st V (zs.map Prod.fst)) (h:∀ z∈zs,J1 [.int n,z.1] st=.ok (.bl z.2) st):Vn [.int n,V] st=.ok (.bl ((zs.map Prod.snd).all id)) st:=by
 obtain ⟨wt,hsrc,hw⟩:=hV.src;have hlen:=hV.len;rw [O3] at hlen;have hfz:zc st V=false:=by rcases hV with rfl | rfl | ⟨i,rfl,e⟩ <;> first | rfl | simp [e]
 have hisl:isI "list" (dpv st V)=true:=by rcases hV with rfl | rfl | ⟨i,rfl,e⟩ <;> first | rfl | simp [e,isI,tyN]
 have hc:Jc (Q6 0) Ya K3 wt (Zk [none,some 0] [some (.int n),some V]) (zs.map Prod.fst) st=.ok ((zs.map Prod.snd).map .bl) st:=by
  rw [G6];refine U1 _ _ hw fun z hz=>⟨_,rfl,?_⟩
  have:=h z hz;show _=Res.ok (PV.bl z.2) st;simp [Zk,K3,this]
 have hb:=Q1i (n:Int) 1 8 st;have hbb:(decide ((1:Int)<=n) && decide ((n:Int)<=8))=true:=by simp; omega
 rw [hbb] at hb;have hl':(zs.map Prod.fst).length<=1000000:=by rw [O3]; omega
 have hl2:¬ (40:Int) < (zs.length:Int):=by omega
 generalize zs.length=len at hb hfz hisl hlen hl2 hsrc hl' hc ⊢;generalize zs.map Prod.fst=zv at hb hfz hisl hlen hl2 hsrc hl' hc ⊢;generalize zs.map Prod.snd=bs at hb hfz hisl hlen hl2 hsrc hl' hc ⊢;simp -implicitDefEqProofs [Vn,J2,ja,hb,hfz,hisl,hlen,hl2,hsrc,hl',Qp,hc]
theorem Mv.refl (L:Nat) (S:Q3):Mv L S S:=⟨rfl,fun _ _=>rfl⟩
theorem Mv.trans {L:Nat} {S S1 S2:Q3} (a:Mv L S S1) (b:Mv L S1 S2):Mv L S S2:=⟨b.len.trans a.len,fun t ht=>(b.keep t ht).trans (a.keep t ht)⟩
theorem TapeAt.of {S S':Q3} {L:Nat} {ns:List Int} (h:TapeAt S L ns) (e:S'[L]?=S[L]?):TapeAt S' L ns:=let ⟨p,c,q⟩:=h; ⟨p,c,by rw [e]; exact q⟩
theorem Qm5 {ns:List Int} {S:Q3} {L:Nat} (T:TapeAt S L ns) (i n:Nat) (often:Int) (Γ:Gam) (h7:Γ[7]?=some (some (.int i))) (h3:Γ[3]?=some (some (.int often))) (h0:Γ[0]?=some (some (.ref L))) :
  ∃ (js:List Nat) (S':Q3),TapeAt S' L ns/\Mv L S S'/\(∀ j∈js,j < n/\j≠i)/\js.Pairwise (· < ·)/\js.length<=n/\Jc (Q6 0) Jr Zs [] (Zk [none,some 7,some 3,some 0] Γ) (Zn 0 n) S=.ok (js.map fun j=>rdV (i,j)) S':=by
 rw [Wp];obtain ⟨out,S',e,js,rfl,T',M',h1,h2,h4⟩:=Q9f (fun k:Nat=>PV.int (k:Int)) (xs:=List.range n) (ga:=Q6 0) (mt:=Jr) (me:=Zs) (w:=[]) (Γ0:=Zk [none,some 7,some 3,some 0] Γ) (st:=S)
  (fun k out st'=>∃ js:List Nat,out=js.map (fun j=>rdV (i,j))/\TapeAt st' L ns/\Mv L S st'/\(∀ j∈js,j < k/\j≠i)/\js.Pairwise (· < ·)/\js.length<=k)
  (fun _ _ _ _=>by simp)
  (fun k x out st' hx ⟨js,e1,T',M',h1,h2,h4⟩=>by
   have hkn:k < n:=by simpa using (O0.mp hx).1
   have hxk:x=k:=by
    rw [List.getElem?_range hkn] at hx;exact (Option.some.inj hx).symm
   subst hxk;subst e1
   by_cases q:x=i
   ·refine ⟨_,rfl,false,st',?_,fun z=>(by cases z),fun _=>⟨js,rfl,T',M',fun j hj=>⟨by have:=(h1 j hj).1; omega,(h1 j hj).2⟩,h2,by omega⟩⟩
    simp -implicitDefEqProofs [Zk,Jr,h7,h3,h0,q]
   ·have q':¬ ((x:Int)=i):=by omega
    obtain ⟨d,S2,hd,T2,M2,e2⟩:=Jt T' 8 (by decide) (by decide);rw [show ((8:Nat):Int)=8 from rfl] at e2;refine ⟨_,rfl,decide ((d:Int) < often),S2,?_,fun hb=>⟨rdV (i,x),S2,?_,js ++ [x],by rw [E5]; rfl,T2,M'.trans M2,fun j hj=>?_,?_,by simp; omega⟩,fun _=>⟨js,rfl,T2,M'.trans M2,fun j hj=>⟨by have:=(h1 j hj).1; omega,(h1 j hj).2⟩,h2,by omega⟩⟩
    ·simp -implicitDefEqProofs [Zk,Jr,h7,h3,h0,q,q',e2]
    ·unfold rdV;simp -implicitDefEqProofs [Zk,Zs,h7,Qp]
    ·rcases E3.mp hj with hj | hj
     ·have:=h1 j hj;exact ⟨by omega,this.2⟩
     ·rw [F3.mp hj]; exact ⟨by omega,q⟩
    ·rw [List.pairwise_append];refine ⟨h2,by simp,fun a ha b hb=>?_⟩;rw [F3.mp hb];exact (h1 a ha).1)
  ⟨[],rfl,T,Mv.refl L S,fun j hj=>(by cases hj),List.Pairwise.nil,by simp⟩
 rw [F8] at h1 h4;exact ⟨js,S',T',M',h1,h2,h4,e⟩
abbrev drΓ (L n mo:Nat) (often:Int) (R:Nat) (a5 a6 a7:Option PV):Gam:=[some (.ref L),some (.int n),some (.int mo),some (.int often),some (.ref R),a5,a6,a7]
structure Mv2 (L M:Nat) (S S':Q3):Prop where
 len:S'.length=S.length
 keep:∀ t,t≠L->t≠M->S'[t]?=S[t]?
theorem Qpa {ns:List Int} {S:Q3} {L M:Nat} (T:TapeAt S L ns) (hLM:L≠M) (hM:S[M]?=some (.lst [])) (n mo R:Nat) (hn:n<=8) (often:Int) (a5:Option PV) (a7:Option PV) :
  ∃ b7 rs S',RsOk n rs/\TapeAt S' L ns/\S'[M]?=some (.lst (rs.map rdV))/\Mv2 L M S S'/\Zr (Q6 7) Jw [] (Zn 0 n) (drΓ L n mo often R a5 (some (.ref M)) a7) S=.nx (drΓ L n mo often R a5 (some (.ref M)) b7) S':=by
 have hn1:-1000000<=(n:Int)/\(n:Int)<=1000000:=by omega
 have key:=Vx (g:=fun k:Nat=>PV.int (k:Int)) (xs:=List.range n) (ga:=Q6 7) (body:=Jw) (w:=[]) (Γ:=drΓ L n mo often R a5 (some (.ref M)) a7) (st:=S)
  (fun i Γ st'=>∃ b7 rs,Γ=drΓ L n mo often R a5 (some (.ref M)) b7/\(∀ r∈rs,Qck n r/\r.1 < i)/\rs.Pairwise LxP/\rs.length<=i * n/\TapeAt st' L ns/\st'[M]?=some (.lst (rs.map rdV))/\Mv2 L M S st')
  (fun _ _ _ _=>by simp)
  (fun i k Γ st' hx ⟨b7,rs,e1,h1,h2,h3,T',hM',m⟩=>by
   subst e1;have hin:i < n:=by simpa using (O0.mp hx).1
   have hki:k=i:=by
    rw [List.getElem?_range hin] at hx;exact (Option.some.inj hx).symm
   subst hki;obtain ⟨js,S2,T2,M2,g1,g2,g3,e2⟩:=Qm5 T' k n often (drΓ L n mo often R a5 (some (.ref M)) (some (.int k))) rfl rfl rfl;have hM2:S2[M]?=some (.lst (rs.map rdV)):=by rw [M2.keep M (fun z=>hLM z.symm)]; exact hM'
   have hML:M < S2.length:=(O0.mp hM2).1;have hnn:k * n<=64:=E7 (Nat.mul_le_mul (show k<=8 by omega) hn) (by decide);refine ⟨_,rfl,drΓ L n mo often R a5 (some (.ref M)) (some (.int k)),S2.set M (.lst ((rs ++ js.map fun j=>(k,j)).map rdV)),?_,_,rs ++ js.map fun j=>(k,j),rfl,fun r hr=>?_,?_,?_,T2.of ?_,by rw [D7 hML],⟨by rw [F9,M2.len,m.len],fun t ht1 ht2=>by rw [D8 (fun z=>ht2 z.symm),M2.keep t ht1,m.keep t ht1 ht2]⟩⟩
   ·have hlo:Za st' (.ref M)=some (rs.map rdV):=by simp [hM']
    have hll:(rs.map rdV).length + (js.map fun j=>rdV (k,j)).length<=1000000:=by simp; omega
    have hmm:(rs ++ js.map fun j=>(k,j)).map rdV=rs.map rdV ++ js.map fun j=>rdV (k,j):=by rw [E5,G6]; rfl
    rw [hmm];unfold drΓ at e2 ⊢;generalize (js.map fun j=>rdV (k,j))=jv at *
    generalize rs.map rdV=rv at *;show Jw [some (.ref L),some (.int n),some (.int mo),some (.int often),some (.ref R),a5,some (.ref M),some (.int k)] st'=_;simp -implicitDefEqProofs [Jw,hlo,hn1,Qp,e2,j8,chg,hM2,hll,-Kf]
   ·rcases E3.mp hr with hr | hr
    ·exact ⟨(h1 r hr).1,by have:=(h1 r hr).2; omega⟩
    ·obtain ⟨j,hj,rfl⟩:=List.mem_map.mp hr;exact ⟨⟨hin,(g1 j hj).1,fun z=>(g1 j hj).2 z.symm⟩,by simp⟩
   ·rw [List.pairwise_append];refine ⟨h2,?_,fun a ha b hb=>?_⟩
    ·rw [List.pairwise_map];exact g2.imp fun h=>.inr ⟨rfl,h⟩
    ·obtain ⟨j,hj,rfl⟩:=List.mem_map.mp hb;exact .inl (h1 a ha).2
   ·rw [D0,O3,Nat.succ_mul]; omega
   ·rw [D8 (fun z=>hLM z.symm)])
  ⟨_,[],rfl,fun r hr=>(by cases hr),List.Pairwise.nil,by simp,T,hM,⟨rfl,fun _ _ _=>rfl⟩⟩
 obtain ⟨Γ',S',e,b7,rs,rfl,h1,h2,h3,T',hM',m⟩:=key;rw [<- Wp] at e;rw [F8] at h3;have hnn:n * n<=64:=E7 (Nat.mul_le_mul hn hn) (by decide);exact ⟨b7,rs,S',⟨fun r hr=>(h1 r hr).1,h2,by omega,h3⟩,T',hM',m,e⟩
theorem Qik {ns:List Int} {S:Q3} {L R:Nat} (T:TapeAt S L ns) (hLR:L < R) (n mo:Nat) (hn:n<=8) (often:Int) {rss:List (List (Nat × Nat))} (hrl:rss.length<=50) (hR:S[R]?=some (.lst (rss.map Qs))) (a5 a6 a7:Option PV) :
  ∃ b6 b7 rs S',RsOk n rs/\TapeAt S' L ns/\S'[R]?=some (.lst ((rss ++ [rs]).map Qs))/\S.length<=S'.length/\Zt (drΓ L n mo often R a5 a6 a7) S=.nx (drΓ L n mo often R a5 b6 b7) S':=by
 have hn1:-1000000<=(n:Int)/\(n:Int)<=1000000:=by omega
 have hRl:R < S.length:=(O0.mp hR).1;have T1:TapeAt (S ++ [.lst []]) L ns:=T.of (by rw [O5 (by omega)]);obtain ⟨b7,rs,S2,ok,T2,hM,m,e⟩:=Qpa T1 (M:=S.length) (by omega) (by simp) n mo R hn often a5 a7;have hR2:S2[R]?=some (.lst (rss.map Qs)):=by rw [m.keep R (by omega) (by omega),O5 hRl]; exact hR
 have hR2l:R < S2.length:=(O0.mp hR2).1;refine ⟨some (.ref S.length),b7,rs,S2.set R (.lst ((rss ++ [rs]).map Qs)),ok,T2.of (by rw [D8 (by omega)]),by rw [D7 hR2l],by rw [F9,m.len,D0]; omega,?_⟩;have hmm:(rss ++ [rs]).map Qs=rss.map Qs ++ [Qs rs]:=by rw [E5]; rfl
 have hT:PV.tup (rs.map rdV)=Qs rs:=rfl;have hll:(rss.map Qs).length < 1000000:=by rw [O3]; omega
 rw [hmm];unfold drΓ at e ⊢;generalize rss.map Qs=rv at hn1 e hR2 hM hT hll ⊢;generalize rs.map rdV=ov at hn1 e hR2 hM hT hll ⊢;generalize Qs rs=o at hn1 e hR2 hM hT hll ⊢;simp -implicitDefEqProofs [Zt,Qp,hn1,e,hR2,hM,hT,Wf,chg,hll]
theorem Qf1 {ns:List Int} {S:Q3} {L:Nat} (T:TapeAt S L ns) (n mo:Nat) (hn:n<=8) (hmo:mo<=40):∃ (R:Nat) (S':Q3) (rss:List (List (Nat × Nat))),TapeAt S' L ns/\(∀ rs∈rss,RsOk n rs)/\rss.length<=mo/\S'[R]?=some (.lst (rss.map Qs))/\R≠L/\S.length<=S'.length/\Yg [.ref L,.int n,.int mo] S=.ok (.ref R) S':=by
 obtain ⟨d,S1,hd,T1,M1,e1⟩:=Jt T 6 (by decide) (by decide);rw [show ((6:Nat):Int)=6 from rfl] at e1;have T2:TapeAt (S1 ++ [.lst []]) L ns:=T1.of (by rw [O5 T1.lt]);obtain ⟨k,S3,hk,T3,M3,e3⟩:=Jt T2 (mo + 1) (by omega) (by omega);rw [show ((mo + 1:Nat):Int)=(mo:Int) + 1 from by push_cast; rfl] at e3;have hR3:S3[S1.length]?=some (.lst []):=by rw [M3.keep _ (by have:=T1.lt; omega)]; simp
 have key:=Vx (g:=fun k:Nat=>PV.int (k:Int)) (xs:=List.range k) (ga:=Q6 5) (body:=Zt) (w:=[]) (Γ:=drΓ L n mo (1 + (d:Int)) S1.length none none none) (st:=S3)
  (fun i Γ st'=>∃ b5 b6 b7 rss,Γ=drΓ L n mo (1 + (d:Int)) S1.length b5 b6 b7/\(∀ rs∈rss,RsOk n rs)/\rss.length=i/\TapeAt st' L ns/\st'[S1.length]?=some (.lst (rss.map Qs))/\S.length<=st'.length)
  (fun _ _ _ _=>by simp)
  (fun i x Γ st' hx ⟨b5,b6,b7,rss,g1,h1,h2,T',hR,hlen⟩=>by
   subst g1;have hi:i < k:=by simpa using (O0.mp hx).1
   obtain ⟨c6,c7,rs,S',ok,T4,hR4,hl4,e4⟩:=Qik T' T1.lt n mo hn (1 + (d:Int)) (by omega) hR (some (.int x)) b6 b7;refine ⟨_,rfl,_,S',e4,_,_,_,rss ++ [rs],rfl,fun r hr=>?_,by rw [D0,h2]; rfl,T4,hR4,by omega⟩;rcases E3.mp hr with hr | hr
   ·exact h1 r hr
   ·rw [F3.mp hr]; exact ok)
  ⟨_,_,_,[],rfl,fun r hr=>(by cases hr),rfl,T3,hR3,by rw [M3.len,D0,M1.len]; omega⟩
 obtain ⟨Γ',S4,e4,b5,b6,b7,rss,rfl,h1,h2,T4,hR4,hlen⟩:=key;rw [<- Wp] at e4;rw [F8] at h2;have hkb:-1000000<=(k:Int)/\(k:Int)<=1000000:=by omega
 have step:Zh [some (.ref L),some (.int n),some (.int mo),none,none,none,none,none] S=.rt (.ref S1.length) S4:=by
  unfold drΓ at e4;simp -implicitDefEqProofs [Zh,e1,e3,Qp,hkb,e4]
 refine ⟨S1.length,S4,rss,T4,h1,by omega,hR4,by have:=T1.lt; omega,hlen,?_⟩;show Wc Zh 8 _ S=_;unfold Wc;rw [show (([PV.ref L,.int n,.int mo]:List PV).map some ++ List.replicate (8 - [PV.ref L,.int n,.int mo].length) none)=[some (.ref L),some (.int n),some (.int mo),none,none,none,none,none] from rfl,step]
@[simp] theorem Qbf (mo mi:ME) (Γ:Gam) (st:Q3):Vt mo mi Γ st=(mo Γ st).bind fun p st1=>(mi Γ st1).bind fun q st2=>Xk st2 p q:=rfl
@[simp] theorem Qmu (mo mi m:ME) (Γ:Gam) (st:Q3):Q08 mo mi m Γ st=(m Γ st).sbind fun v st1=>(mo Γ st1).sbind fun p st2=>(mi Γ st2).sbind fun q st3=>match jg st3 p q v with
 | some st4=>.nx Γ st4
 | none=>.stuck:=rfl
@[simp] theorem Qms (mk m:ME) (Γ:Gam) (st:Q3):Q5m mk m Γ st=(mk Γ st).bind fun pk st1=>(m Γ st1).bind fun pv st2=>match Xi pk with
 | some k=>.ok (.ref st2.length) (st2 ++ [.dic [(k,pv)]])
 | none=>.stuck:=rfl
@[simp] theorem Q09 (i:Int):Xi (.int i)=some (.inl i):=rfl
theorem ye (k:Key):∀ kvs:List (Key × PV),(kvs.any fun kv=>decide (kv.1=k))=(J7 kvs k).isSome
 | []=>rfl
 | (a,b) :: r=>by
  have ih:=ye k r
  by_cases q:a=k
  ·simp [J7,F1,q]
  ·have:J7 ((a,b) :: r) k=J7 r k:=by simp [J7,F1,q]
   rw [this,<- ih]; simp [q]
theorem Q6a (k j:Key) (v:PV):∀ kvs:List (Key × PV),J7 (kvs.map fun kv=>if kv.1=k then (kv.1,v) else kv) j=(J7 kvs j).map fun x=>if j=k then v else x
 | []=>rfl
 | (a,b) :: r=>by
  have ih:=Q6a k j v r
  by_cases q:a=j
  ·subst q
   by_cases q2:a=k <;> simp [J7,F1,q2]
  ·have e1:J7 ((a,b) :: r) j=J7 r j:=by simp [J7,F1,q]
   rw [e1,<- ih]
   by_cases q2:a=k
   ·simp [J7,F1,q2,show ¬ k=j from fun z=>q (q2.trans z)]
   ·simp [J7,F1,q2,q]
theorem xx (j k:Key) (v:PV):∀ kvs:List (Key × PV),J7 (kvs ++ [(k,v)]) j=match J7 kvs j with | some x=>some x | none=>if j=k then some v else none
 | []=>by
  by_cases q:k=j
  ·simp [J7,q]
  ·simp [J7,q,show ¬ j=k from fun z=>q z.symm]
 | (a,b) :: r=>by
  have ih:=xx j k v r
  by_cases q:a=j
  ·simp [J7,F1,q]
  ·have e1:J7 ((a,b) :: r) j=J7 r j:=by simp [J7,F1,q]
   have e2:J7 (((a,b) :: r) ++ [(k,v)]) j=J7 (r ++ [(k,v)]) j:=by simp [J7,F1,q]
   rw [e1,e2,ih]
theorem Qcq (kvs:List (Key × PV)) (k j:Key) (v:PV):J7 (qw kvs k v) j=if j=k then some v else J7 kvs j:=by
 unfold qw
 by_cases q:(kvs.any fun kv=>decide (kv.1=k))=true
 ·rw [bS q,Q6a]
  by_cases h:j=k
  ·subst h;rw [ye] at q;cases z:J7 kvs j with
   | none=>rw [z] at q; cases q
   | some x=>simp
  ·simp [h]
 ·rw [bT q,xx];have q':J7 kvs k=none:=by
   rw [ye] at q;cases z:J7 kvs k with
   | none=>rfl
   | some x=>rw [z] at q; exact absurd rfl q
  by_cases h:j=k
  ·subst h; simp [q']
  ·rw [bT h];cases J7 kvs j <;> simp [h]
theorem Qdh (kvs:List (Key × PV)) (k:Key) (v:PV):(qw kvs k v).length<=kvs.length + 1:=by
 unfold qw; split <;> simp
theorem Q6t {kvs:List (Key × PV)} {k:Key} (v:PV) (h:J7 kvs k=none):qw kvs k v=kvs ++ [(k,v)]:=by
 unfold qw; rw [ye,h]; simp
def DicAt (S:Q3) (V:PV) (kvs:List (Key × PV)):Prop:=∃ i,V=.ref i/\(S[i]?=some (.dic kvs)\/S[i]?=some (.frd kvs))
theorem DicAt.of {S:Q3} {V:PV} {kvs:List (Key × PV)} (h:DicAt S V kvs):zh S V=some kvs:=by
 obtain ⟨i,rfl,h | h⟩:=h <;> simp only [zh,h]
theorem DicAt.get {S:Q3} {V:PV} {kvs:List (Key × PV)} {k:Int} {v:PV} (h:DicAt S V kvs) (e:J7 kvs (.inl k)=some v):Xk S V (.int k)=.ok v S:=by
 unfold Xk; rw [h.of,Q09]; simp only [e]
theorem DicAt.inn {S:Q3} {V:PV} {kvs:List (Key × PV)} {k:Int} (h:DicAt S V kvs) (neg:Bool):Q5i neg S (.int k) V=.ok (.bl ((J7 kvs (.inl k)).isSome != neg)) S:=by
 unfold Q5i; rw [h.of,Q09]
theorem Q1h {S:Q3} {i:Nat} {kvs:List (Key × PV)} {k:Int} {v:PV} (h:S[i]?=some (.dic kvs)) (hl:kvs.length < 1000000):jg S (.ref i) (.int k) v=some (S.set i (.dic (qw kvs (.inl k) v))):=by
 unfold jg; rw [Q09];have:Qf3 S i=some kvs:=by unfold Qf3; rw [h]
 simp only [this,bS (show kvs.length < lim from hl)]
abbrev Mo:=Nat->Option (Nat × Option Nat)
def frV:Option Nat->PV
 | none=>.non
 | some i=>.int (i:Nat)
def Fd (kvs:List (Key × PV)) (m:Mo):Prop:=∀ j:Nat,J7 kvs (.inl (j:Int))=(m j).map fun p=>PV.tup [.int (p.1:Nat),frV p.2]
structure Arr (rss:List (List (Nat × Nat))) (house mom bd t:Nat) (pre:List (Nat × Nat)) (m:Mo):Prop where
 a:m house=some (mom,none)
 b:∀ k p,m k=some p->k≠house->∃ i,p.2=some i/\mom < p.1/\p.1<=bd/\(∃ rs,rss[p.1 - 1]?=some rs/\(i,k)∈rs)/\∃ q,m i=some q/\q.1 + 1<=p.1
 c:∀ t' rs i j q,mom<=t'->t' < t->rss[t']?=some rs->(i,j)∈rs->m i=some q->q.1<=t'->∃ p,m j=some p/\p.1<=t' + 1
 d:∀ i j q,(i,j)∈pre->m i=some q->q.1<=t->∃ p,m j=some p/\p.1<=t + 1
def Qfu (m:Mo) (j:Nat) (p:Nat × Option Nat):Mo:=fun k=>if k=j then some p else m k
theorem X2 {m:Mo} {j k:Nat} {p:Nat × Option Nat} (h:k≠j):Qfu m j p k=m k:=bT h
theorem yf {m:Mo} {j:Nat} {p:Nat × Option Nat}:Qfu m j p j=some p:=bS rfl
theorem Arr.hit {rss:List (List (Nat × Nat))} {house mom t:Nat} {pre rs:List (Nat × Nat)} {m:Mo} {i j:Nat} {q:Nat × Option Nat} (h:Arr rss house mom (t + 1) t pre m) (ht:mom<=t) (hr:rss[t]?=some rs) (hij:(i,j)∈rs) (hj:m j=none) (hi:m i=some q) (hq:q.1<=t) :
  Arr rss house mom (t + 1) t (pre ++ [(i,j)]) (Qfu m j (t + 1,some i)):=by
 have ne:∀ {k p},m k=some p->k≠j:=fun e z=>by rw [z,hj] at e; cases e
 refine ⟨?_,fun k p e hk=>?_,fun t' rs' i' j' q' h1 h2 h3 h4 h5 h6=>?_,fun i' j' q' h1 h2 h3=>?_⟩
 ·rw [X2 (ne h.a)]; exact h.a
 ·by_cases z:k=j
  ·subst z;rw [yf] at e;cases e;exact ⟨i,rfl,by simp; omega,O9 _,⟨rs,by simpa using hr,hij⟩,q,by rw [X2 (ne hi)]; exact hi,by simp; omega⟩
  ·rw [X2 z] at e;obtain ⟨i0,e1,e2,e3,e4,q0,e5,e6⟩:=h.b k p e hk;exact ⟨i0,e1,e2,e3,e4,q0,by rw [X2 (ne e5)]; exact e5,e6⟩
 ·by_cases z:i'=j
  ·subst z;rw [yf] at h5;cases h5;exact absurd h6 (by simp; omega)
  ·rw [X2 z] at h5;obtain ⟨p,e1,e2⟩:=h.c t' rs' i' j' q' h1 h2 h3 h4 h5 h6;exact ⟨p,by rw [X2 (ne e1)]; exact e1,e2⟩
 ·by_cases z:i'=j
  ·subst z;rw [yf] at h2;cases h2;exact absurd h3 (by simp)
  ·rw [X2 z] at h2;rcases E3.mp h1 with h1 | h1
   ·obtain ⟨p,e1,e2⟩:=h.d i' j' q' h1 h2 h3;exact ⟨p,by rw [X2 (ne e1)]; exact e1,e2⟩
   ·have e:(i',j')=(i,j):=F3.mp h1;cases e;exact ⟨_,yf,O9 _⟩
theorem Arr.miss {rss:List (List (Nat × Nat))} {house mom t:Nat} {pre:List (Nat × Nat)} {m:Mo} {i j:Nat} (h:Arr rss house mom (t + 1) t pre m) (ht:mom<=t) (hn:¬ (m j=none/\∃ q,m i=some q/\q.1<=t)) :
  Arr rss house mom (t + 1) t (pre ++ [(i,j)]) m:=by
 refine ⟨h.a,h.b,h.c,fun i' j' q' h1 h2 h3=>?_⟩;rcases E3.mp h1 with h1 | h1
 ·exact h.d i' j' q' h1 h2 h3
 ·have e:(i',j')=(i,j):=F3.mp h1;cases e;cases z:m j with
  | none=>exact absurd ⟨z,q',h2,h3⟩ hn
  | some p=>
   refine ⟨p,rfl,?_⟩
   by_cases k:j=house
   ·subst k;rw [h.a] at z;cases z;show mom<=t + 1;omega
   ·obtain ⟨_,_,_,e3,_⟩:=h.b j p z k;exact e3
theorem Arr.next {rss:List (List (Nat × Nat))} {house mom t:Nat} {rs:List (Nat × Nat)} {m:Mo} (h:Arr rss house mom (t + 1) t rs m) (hr:rss[t]?=some rs):Arr rss house mom (t + 1) (t + 1) [] m:=
 ⟨h.a,h.b,fun t' rs' i j q h1 h2 h3 h4 h5 h6=>by
  by_cases z:t'=t
  ·subst z;rw [hr] at h3;cases h3;exact h.d i j q h4 h5 h6
  ·exact h.c t' rs' i j q h1 (by omega) h3 h4 h5 h6,fun i j q h1=>by cases h1⟩
theorem Arr.wide {rss:List (List (Nat × Nat))} {house mom bd bd' t:Nat} {pre:List (Nat × Nat)} {m:Mo} (h:Arr rss house mom bd t pre m) (hb:bd<=bd'):Arr rss house mom bd' t pre m:=
 ⟨h.a,fun k p e hk=>let ⟨i,e1,e2,e3,e4⟩:=h.b k p e hk; ⟨i,e1,e2,E7 e3 hb,e4⟩,h.c,h.d⟩
theorem Q96 {S:Q3} {V:PV} {xs:List PV} (h:ListAt S V xs) {S':Q3} (hk:∀ t,t < S.length->S'[t]?=S[t]?\/¬ ∃ ys,S[t]?=some (.lst ys)):ListAt S' V xs:=by
 rcases h with rfl | rfl | ⟨i,rfl,e⟩
 ·exact .inl rfl
 ·exact .inr (.inl rfl)
 ·refine .inr (.inr ⟨i,rfl,?_⟩);rcases hk i (O0.mp e).1 with z | z
  ·rw [z]; exact e
  ·exact absurd ⟨xs,e⟩ z
abbrev arΓ (V:PV) (house mom D:Nat) (a4 a5 a6:Option PV):Gam:=[some V,some (.int house),some (.int mom),some (.ref D),a4,a5,a6]
theorem Qmc {V:PV} {rss:List (List (Nat × Nat))} {house mom t:Nat} (ht:mom<=t) {rs:List (Nat × Nat)} (hr:rss[t]?=some rs) (hrl:rs.length<=100) {S:Q3} {kvs:List (Key × PV)} {m:Mo} (hF:Fd kvs m) (hA:Arr rss house mom (t + 1) t [] m) (hl:kvs.length<=100000) (a5 a6:Option PV) :
  ∃ b5 b6 kvs' m',Fd kvs' m'/\Arr rss house mom (t + 1) t rs m'/\kvs'.length<=kvs.length + 100/\Zr (Jn (Qb (Q6 5) (Qb (Q6 6) Jp))) Yf [] (rs.map rdV) (arΓ V house mom S.length (some (.int t)) a5 a6) (S ++ [.dic kvs])=.nx (arΓ V house mom S.length (some (.int t)) b5 b6) (S ++ [.dic kvs']):=by
 obtain ⟨Γ',st',e,b5,b6,kvs',m',rfl,rfl,h1,h2,h3⟩:=Qbx (g:=rdV) (xs:=rs) (ga:=Jn (Qb (Q6 5) (Qb (Q6 6) Jp))) (body:=Yf) (w:=[]) (Γ:=arΓ V house mom S.length (some (.int t)) a5 a6) (st:=S ++ [.dic kvs])
  (fun pre Γ st'=>∃ b5 b6 kvs' m',Γ=arΓ V house mom S.length (some (.int t)) b5 b6/\st'=S ++ [.dic kvs']/\Fd kvs' m'/\Arr rss house mom (t + 1) t pre m'/\kvs'.length<=kvs.length + pre.length)
  (fun _ _ _ _=>by simp)
  (fun pre r post Γ st' hx ⟨b5,b6,kvs',m',e1,e2,F',A',l'⟩=>by
   subst e1; subst e2;obtain ⟨i,j⟩:=r;have hij:(i,j)∈rs:=by rw [hx]; simp
   have hpl:pre.length + 1<=100:=by
    have:rs.length=pre.length + (post.length + 1):=by rw [hx]; simp
    omega
   have hD:DicAt (S ++ [.dic kvs']) (.ref S.length) kvs':=⟨_,rfl,.inl (by simp)⟩;have n1:=hD.inn (k:=(j:Int)) true;have n2:=hD.inn (k:=(i:Int)) false;have fj:=F' j;have fi:=F' i;refine ⟨_,rfl,?_⟩;show ∃ Γ2 st2,Yf [some V,some (.int house),some (.int mom),some (.ref S.length),some (.int t),some (.int i),some (.int j)] (S ++ [.dic kvs'])=.nx Γ2 st2/\_
   by_cases hit:m' j=none/\∃ q,m' i=some q/\q.1<=t
   ·obtain ⟨hj,q,hi,hq⟩:=hit;rw [hj] at fj;rw [hi] at fi;have fj:J7 kvs' (.inl (j:Int))=none:=fj;have fi:J7 kvs' (.inl (i:Int))=some (.tup [.int (q.1:Nat),frV q.2]):=fi;have g:=hD.get fi;have dp:=Q1h (S:=S ++ [.dic kvs']) (i:=S.length) (kvs:=kvs') (k:=(j:Int)) (v:=.tup [.int ((t:Int) + 1),.int i]) (by simp) (by omega);have hq':(q.1:Int)<=(t:Int):=by omega
    rw [fj] at n1;rw [fi] at n2;rw [Qim] at dp;refine ⟨arΓ V house mom S.length (some (.int t)) (some (.int i)) (some (.int j)),S ++ [.dic (qw kvs' (.inl (j:Int)) (.tup [.int ((t:Int) + 1),.int i]))],?_,_,_,_,Qfu m' j (t + 1,some i),rfl,rfl,fun k=>?_,A'.hit ht hr hij hj hi hq,?_⟩
    ·generalize frV q.2=fq at *;generalize S ++ [Cell.dic kvs']=S1 at *;generalize S.length=sl at *;simp -implicitDefEqProofs [Yf,n1,n2,g,hq',atI,ixN,Qp,dp]
    ·rw [Qcq]
     by_cases z:k=j
     ·subst z;rw [bS rfl,yf];show _=some (PV.tup [.int ((t + 1:Nat):Int),.int (i:Nat)])
      push_cast; rfl
     ·rw [bT (fun h=>z (by have:=Sum.inl.inj h; omega)),X2 z]; exact F' k
    ·have:=Qdh kvs' (.inl (j:Int)) (.tup [.int ((t:Int) + 1),.int i]);rw [D0];simp only [List.length_singleton];omega
   ·refine ⟨arΓ V house mom S.length (some (.int t)) (some (.int i)) (some (.int j)),S ++ [.dic kvs'],?_,_,_,_,m',rfl,rfl,F',A'.miss ht hit,by rw [D0]; omega⟩;cases hj:m' j with
    | some p=>
     rw [hj] at fj;have fj:J7 kvs' (.inl (j:Int))=some (.tup [.int (p.1:Nat),frV p.2]):=fj;rw [fj] at n1;generalize S ++ [Cell.dic kvs']=S1 at *;generalize S.length=sl at *;simp -implicitDefEqProofs [Yf,n1]
    | none=>
     rw [hj] at fj;have fj:J7 kvs' (.inl (j:Int))=none:=fj;rw [fj] at n1;cases hi:m' i with
     | none=>
      rw [hi] at fi;have fi:J7 kvs' (.inl (i:Int))=none:=fi;rw [fi] at n2;generalize S ++ [Cell.dic kvs']=S1 at *;generalize S.length=sl at *;simp -implicitDefEqProofs [Yf,n1,n2]
     | some q=>
      rw [hi] at fi;have fi:J7 kvs' (.inl (i:Int))=some (.tup [.int (q.1:Nat),frV q.2]):=fi;have g:=hD.get fi;rw [fi] at n2;have hq':¬ ((q.1:Int)<=(t:Int)):=fun z=>hit ⟨hj,q,hi,by omega⟩
      generalize frV q.2=fq at *;generalize S ++ [Cell.dic kvs']=S1 at *;generalize S.length=sl at *;simp -implicitDefEqProofs [Yf,n1,n2,g,hq',atI,ixN])
  ⟨_,_,kvs,m,rfl,rfl,hF,hA,by simp⟩
 exact ⟨b5,b6,kvs',m',h1,h2,by omega,e⟩
theorem Vj {S:Q3} {V:PV} {xs:List PV} (h:ListAt S V xs) (T:Q3):ListAt (S ++ T) V xs:=Q96 h fun t ht=>.inl (O5 ht)
theorem Q8d {V:PV} {rss:List (List (Nat × Nat))} {S:Q3} (hV:ListAt S V (rss.map Qs)) (hlen:rss.length<=40) (hrl:∀ rs∈rss,rs.length<=100) {house mom:Nat} (hm:mom<=rss.length) :
  ∃ kvs m,Fd kvs m/\Arr rss house mom rss.length rss.length [] m/\qe [V,.int house,.int mom] S=.ok (.ref S.length) (S ++ [.dic kvs]):=by
 have F0:Fd [(.inl (house:Int),.tup [.int mom,.non])] (fun k=>if k=house then some (mom,none) else none):=fun j=>by
  by_cases z:j=house
  ·subst z; simp [J7,frV]
  ·simp [J7,z,show ¬ ((house:Int)=(j:Int)) by omega]
 have A0:Arr rss house mom mom mom [] (fun k=>if k=house then some (mom,none) else none):=⟨bS rfl,fun k p e hk=>(by rw [bT hk] at e; cases e),fun t' rs i j q h1 h2=>(by omega),fun i j q h=>(by cases h)⟩
 obtain ⟨Γ',st',e,b4,b5,b6,kvs',m',rfl,rfl,h1,h2,h3⟩:=Vx (g:=fun k:Nat=>PV.int ((mom:Int) + (k:Int))) (xs:=List.range (rss.length - mom)) (ga:=Q6 4) (body:=X5) (w:=[]) (Γ:=arΓ V house mom S.length none none none) (st:=S ++ [.dic [(.inl (house:Int),.tup [.int mom,.non])]])
  (fun i Γ st'=>∃ b4 b5 b6 kvs' m',Γ=arΓ V house mom S.length b4 b5 b6/\st'=S ++ [.dic kvs']/\Fd kvs' m'/\Arr rss house mom (mom + i) (mom + i) [] m'/\kvs'.length<=1 + 100 * i)
  (fun _ _ _ _=>by simp)
  (fun i x Γ st' hx ⟨b4,b5,b6,kvs',m',e1,e2,F',A',l'⟩=>by
   subst e1; subst e2;have hi:i < rss.length - mom:=by simpa using (O0.mp hx).1
   have hxi:x=i:=by
    rw [List.getElem?_range hi] at hx;exact (Option.some.inj hx).symm
   subst hxi;have hti:mom + x < rss.length:=by omega
   have hr:rss[mom + x]?=some rss[mom + x]:=O2 hti;obtain ⟨c5,c6,kvs2,m2,F2,A2,l2,e2⟩:=Qmc (V:=V) (S:=S) (Nat.le_add_right mom x) hr (hrl _ (List.getElem_mem hti)) F' (A'.wide (Nat.le_succ _)) (by omega) b5 b6;refine ⟨_,rfl,arΓ V house mom S.length (some (.int (mom + x:Nat))) c5 c6,S ++ [.dic kvs2],?_,_,_,_,kvs2,m2,rfl,rfl,F2,(A2.next hr),by omega⟩;have hix:oIx (S ++ [.dic kvs']) V (.int ((mom + x:Nat):Int))=.ok (Qs rss[mom + x]) (S ++ [.dic kvs']):=by
    rw [(Vj hV _).ix,qd,Sm.atI_get hr]; rfl
   have hrn:Qs rss[mom + x]=.tup (rss[mom + x].map rdV):=rfl;have hl2:(rss[mom + x].map rdV).length<=1000000:=by rw [O3]; have:=hrl _ (List.getElem_mem hti); omega
   rw [hrn] at hix;rw [show (mom:Int) + (x:Int)=((mom + x:Nat):Int) by push_cast; rfl];show X5 [some V,some (.int house),some (.int mom),some (.ref S.length),some (.int ((mom + x:Nat):Int)),b5,b6] (S ++ [.dic kvs'])=_;unfold arΓ at e2 ⊢;generalize ((mom + x:Nat):Int)=tt at *;generalize rss[mom + x].map rdV=rv at *;generalize S ++ [Cell.dic kvs']=S1 at *;generalize S ++ [Cell.dic kvs2]=S2 at *;simp -implicitDefEqProofs [X5,hix,Qp,hl2,e2])
  ⟨_,_,_,_,_,rfl,rfl,F0,A0,by simp⟩
 rw [F8] at h2;rw [show mom + (rss.length - mom)=rss.length by omega] at h2;refine ⟨kvs',m',h1,h2,?_⟩;have hcl:Zc (S ++ [.dic [(.inl (house:Int),.tup [.int mom,.non])]]) [V]=.ok (.int rss.length) (S ++ [.dic [(.inl (house:Int),.tup [.int mom,.non])]]):=by
  rw [(Vj hV _).len,O3]
 have hrg:Zn (mom:Int) (rss.length - mom)=(List.range (rss.length - mom)).map fun k:Nat=>PV.int ((mom:Int) + (k:Int)):=Q42 _ _
 have b1:-1000000<=(mom:Int)/\(mom:Int)<=1000000/\-1000000<=(rss.length:Int)/\(rss.length:Int)<=1000000:=by omega
 rw [<- hrg] at e;have step:Xh [some V,some (.int house),some (.int mom),none,none,none,none] S=.rt (.ref S.length) (S ++ [.dic kvs']):=by
  unfold arΓ at e;obtain ⟨b1,b2,b3,b4'⟩:=b1;simp -implicitDefEqProofs [Xh,Qp,hcl,b1,b2,b3,b4',e]
 show Wc Xh 7 _ S=_;unfold Wc;rw [show (([V,.int house,.int mom]:List PV).map some ++ List.replicate (7 - [V,.int house,.int mom].length) none)=[some V,some (.int house),some (.int mom),none,none,none,none] from rfl,step]
def moV:Option Nat->PV
 | none=>.non
 | some t=>.int (t:Nat)
def moM (m:Mo) (k:Nat):Option Nat:=(m k).map (·.1)
theorem Qbc {S:Q3} {V:PV} {kvs:List (Key × PV)} {m:Mo} (hD:DicAt S V kvs) (hF:Fd kvs m) (k:Nat):Vk [V,.int k] S=.ok (moV (moM m k)) S:=by
 have n1:=hD.inn (k:=(k:Int)) false;have fk:=hF k;unfold moM;cases hk:m k with
 | none=>
  rw [hk] at fk;have fk:J7 kvs (.inl (k:Int))=none:=fk;rw [fk] at n1;simp -implicitDefEqProofs [Vk,J2,Xt,n1,moV]
 | some q=>
  rw [hk] at fk;have fk:J7 kvs (.inl (k:Int))=some (.tup [.int (q.1:Nat),frV q.2]):=fk;have g:=hD.get fk;rw [fk] at n1;generalize frV q.2=fq at n1 g ⊢;simp -implicitDefEqProofs [Vk,J2,Xt,n1,g,moV,atI,ixN]
def Jk (n:Nat) (f:Nat->Option Nat):List (Key × PV):=(List.range n).map fun k:Nat=>((.inl (k:Int):Key),moV (f k))
theorem Q1r (n:Nat) (f:Nat->Option Nat):∀ k:Nat,J7 (Jk n f) (.inl (k:Int))=if k < n then some (moV (f k)) else none:=by
 induction n with
 | zero=>intro k; rfl
 | succ n ih=>
  intro k;have e:Jk (n + 1) f=Jk n f ++ [(.inl (n:Int),moV (f n))]:=by unfold Jk; rw [List.range_succ,E5]; rfl
  rw [e,xx,ih k]
  by_cases h:k < n
  ·rw [bS h,bS (show k < n + 1 by omega)]
  ·rw [bT h]
   by_cases z:k=n
   ·subst z; simp
   ·rw [bT (show ¬ k < n + 1 by omega)];have:¬ ((.inl (k:Int):Key)=.inl (n:Int)):=fun q=>z (by have:=Sum.inl.inj q; omega)
    simp [this]
theorem Qcg (n:Nat) (f:Nat->Option Nat):qx ((List.range n).map fun k:Nat=>PV.tup [.int (k:Nat),moV (f k)])=some (Jk n f):=by
 have key:∀ l:List Nat,qx (l.map fun k:Nat=>PV.tup [.int (k:Nat),moV (f k)])=some (l.map fun k:Nat=>((.inl (k:Int):Key),moV (f k))):=by
  intro l
  induction l with
  | nil=>rfl
  | cons a l ih=>rw [O6,O6,qx,ih]; rfl
 exact key _
theorem Qch (n:Nat) (f:Nat->Option Nat):Q5k [] (Jk n f)=Jk n f:=by
 induction n with
 | zero=>rfl
 | succ n ih=>
  have e:Jk (n + 1) f=Jk n f ++ [(.inl (n:Int),moV (f n))]:=by unfold Jk; rw [List.range_succ,E5]; rfl
  rw [e];unfold Q5k at ih ⊢;rw [List.foldl_append,ih];show qw (Jk n f) (.inl (n:Int)) (moV (f n))=_;rw [Q6t _ (by rw [Q1r,bT (by omega)])]
theorem Q8c (n:Nat) (f:Nat->Option Nat):(Jk n f).length=n:=by unfold Jk; simp
theorem Qc1 {S:Q3} (n:Nat) (f:Nat->Option Nat):Q0d S [.lst ((List.range n).map fun k:Nat=>PV.tup [.int (k:Nat),moV (f k)])]=.ok (.ref S.length) (S ++ [.dic (Jk n f)]):=by
 unfold Q0d;simp only [Q95,Qcg,Qch]
theorem Q0f {V:PV} {rss:List (List (Nat × Nat))} {S:Q3} (hV:ListAt S V (rss.map Qs)) (hlen:rss.length<=40) (hrl:∀ rs∈rss,rs.length<=100) {n house:Nat} (hn:n<=8) :
  ∃ kvs m,Arr rss house 0 rss.length rss.length [] m/\Y7 [.int n,V,.int house] S=.ok (.ref (S.length + 1)) (S ++ [.dic kvs,.dic (Jk n (moM m))]):=by
 obtain ⟨kvs,m,F,A,e⟩:=Q8d hV hlen hrl (house:=house) (mom:=0) (Nat.zero_le _);rw [show ((0:Nat):Int)=0 from rfl] at e;refine ⟨kvs,m,A,?_⟩;have hD:DicAt (S ++ [.dic kvs]) (.ref S.length) kvs:=⟨_,rfl,.inl (by simp)⟩;have hc:Jc (Q6 0) Ya Vy [] (Zk [none,some 3] [some (.int n),some V,some (.int house),some (.ref S.length)]) (Zn 0 n) (S ++ [.dic kvs])=.ok ((List.range n).map fun k:Nat=>PV.tup [.int (k:Nat),moV (moM m k)]) (S ++ [.dic kvs]):=by
  rw [Wp];refine U1 _ _ (by simp) fun k hk=>⟨_,rfl,?_⟩
  have:=Qbc hD F k;generalize moV (moM m k)=mv at *;generalize S ++ [Cell.dic kvs]=S1 at *;simp -implicitDefEqProofs [Zk,Vy,this,Qp]
 have hd:=Qc1 (S:=S ++ [.dic kvs]) n (moM m);have hb:-1000000<=(n:Int)/\(n:Int)<=1000000:=by omega
 rw [List.append_assoc,D0] at hd;have hd:Q0d (S ++ [.dic kvs]) [.lst ((List.range n).map fun k:Nat=>PV.tup [.int (k:Nat),moV (moM m k)])]=.ok (.ref (S.length + 1)) (S ++ [.dic kvs,.dic (Jk n (moM m))]):=hd
 have step:W3 [some (.int n),some V,some (.int house),none] S=.rt (.ref (S.length + 1)) (S ++ [.dic kvs,.dic (Jk n (moM m))]):=by
  generalize ((List.range n).map fun k:Nat=>PV.tup [.int (k:Nat),moV (moM m k)])=pv at *
  generalize S ++ [Cell.dic kvs,Cell.dic (Jk n (moM m))]=S2 at *;generalize S ++ [Cell.dic kvs]=S1 at *;simp -implicitDefEqProofs [W3,e,Qp,hb,hc,hd]
 show Wc W3 4 _ S=_;unfold Wc;rw [show (([.int n,V,.int house]:List PV).map some ++ List.replicate (4 - [PV.int n,V,.int house].length) none)=[some (.int n),some V,some (.int house),none] from rfl,step]
theorem Qhe {V:PV} {rss:List (List (Nat × Nat))} {S:Q3} (hV:ListAt S V (rss.map Qs)) (hlen:rss.length<=40) {n house:Nat} (hrs:∀ rs∈rss,RsOk n rs) (hn1:1<=n) (hn8:n<=8) (hh:house < n):Wu [.int n,V,.int house] S=.ok .non S:=by
 have h1:Vn [.int n,V] S=.ok (.bl true) S:=by
  have:=Qdd (n:=n) hn1 hn8 (zs:=rss.map fun rs=>(Qs rs,true)) (by simpa using hlen) (V:=V) (st:=S) (by rw [G6]; exact hV) (fun z hz=>by
   obtain ⟨u,hu,rfl⟩:=List.mem_map.mp hz;have ou:=hrs u hu;rw [Qdb ou.ok (by have:=ou.len; omega) S,Qa2 ou.inc])
  rw [this];congr 2;rw [G6,List.all_map];simp
 have h2:=Q1i (house:Int) 0 ((n:Int) - 1) S;have h3:(decide ((0:Int)<=house) && decide ((house:Int)<=(n:Int) - 1))=true:=by simp; omega
 rw [h3] at h2;simp -implicitDefEqProofs [Wu,J2,Ku,h1,h2]
theorem xt {S:Q3} {V:PV} {n:Nat} {f:Nat->Option Nat} (h:DicAt S V (Jk n f)) {k:Nat} (hk:k < n):Xk S V (.int k)=.ok (moV (f k)) S:=h.get (by rw [Q1r,bS hk])
inductive Pa (rss:List (List (Nat × Nat))):Nat->Nat->Nat->Nat->Prop
 | refl (i a:Nat):Pa rss i a i a
 | wait {i a j b:Nat} (h:Pa rss i a j b) (hb:b < rss.length):Pa rss i a j (b + 1)
 | move {i a j b k:Nat} {rs:List (Nat × Nat)} (h:Pa rss i a j b) (hr:rss[b]?=some rs) (hm:(j,k)∈rs):Pa rss i a k (b + 1)
theorem Pa.le {rss:List (List (Nat × Nat))} {i a j b:Nat} (h:Pa rss i a j b):a<=b:=by
 induction h with
 | refl=>exact O9 _
 | wait _ _ ih=>omega
 | move _ _ _ ih=>omega
theorem Pa.trans {rss:List (List (Nat × Nat))} {i a j b k c:Nat} (h:Pa rss i a j b) (g:Pa rss j b k c):Pa rss i a k c:=by
 induction g with
 | refl=>exact h
 | wait _ hb ih=>exact ih.wait hb
 | move _ hr hm ih=>exact ih.move hr hm
theorem Pa.stay {rss:List (List (Nat × Nat))} (i a:Nat):∀ d,a + d<=rss.length->Pa rss i a i (a + d)
 | 0,_=>.refl i a
 | d + 1,h=>(Pa.stay i a d (by omega)).wait (by omega)
theorem Pa.stayTo {rss:List (List (Nat × Nat))} (i:Nat) {a b:Nat} (h:a<=b) (hb:b<=rss.length):Pa rss i a i b:=by
 have:=Pa.stay (rss:=rss) i a (b - a) (by omega)
 rwa [show a + (b - a)=b by omega] at this
theorem x9 (P:Nat->Prop) (h:∃ n,P n):∃ n,P n/\∀ k,P k->n<=k:=by
 obtain ⟨n,hn⟩:=h
 induction n using Nat.strongRecOn with
 | ind n ih=>
  by_cases z:∃ k,k < n/\P k
  ·obtain ⟨k,h1,h2⟩:=z;exact ih k h1 h2
  ·exact ⟨n,hn,fun k hk=>Nat.le_of_not_lt fun q=>z ⟨k,q,hk⟩⟩
open Classical in
def Zp (rss:List (List (Nat × Nat))) (i a j:Nat):Option Nat:=if h:∃ t,Pa rss i a j t then some (Classical.choose (x9 _ h)) else none
theorem je {rss:List (List (Nat × Nat))} {i a j b:Nat} (h:Zp rss i a j=some b):Pa rss i a j b/\∀ t,Pa rss i a j t->b<=t:=by
 unfold Zp at h
 split at h
 ·rename_i q;cases h;exact Classical.choose_spec (x9 _ q)
 ·cases h
theorem Qev {rss:List (List (Nat × Nat))} {i a j t:Nat} (h:Pa rss i a j t):∃ b,Zp rss i a j=some b/\b<=t:=by
 have q:∃ t,Pa rss i a j t:=⟨t,h⟩;refine ⟨Classical.choose (x9 _ q),by unfold Zp; rw [dif_pos q],(Classical.choose_spec (x9 _ q)).2 t h⟩
theorem Qmb {rss:List (List (Nat × Nat))} {house mom:Nat} {m:Mo} (A:Arr rss house mom rss.length rss.length [] m):∀ (t k:Nat) (p:Nat × Option Nat),m k=some p->p.1=t->Pa rss house mom k t:=by
 intro t
 induction t using Nat.strongRecOn with
 | ind t ih=>
  intro k p hk ht
  by_cases z:k=house
  ·subst z;rw [A.a] at hk;cases hk;subst ht;exact .refl _ _
  ·obtain ⟨i,_,h1,h2,⟨rs,h3,h4⟩,q,h5,h6⟩:=A.b k p hk z;have hq:=ih q.1 (by omega) i q h5 rfl;have hw:=hq.trans (Pa.stayTo (rss:=rss) i (show q.1<=p.1 - 1 by omega) (by omega));have:=hw.move h3 h4
   rwa [show p.1 - 1 + 1=t by omega] at this
theorem Qe0 {rss:List (List (Nat × Nat))} {house mom:Nat} {m:Mo} (A:Arr rss house mom rss.length rss.length [] m) {k t:Nat} (h:Pa rss house mom k t):∃ p,m k=some p/\p.1<=t:=by
 induction h with
 | refl=>exact ⟨_,A.a,O9 _⟩
 | wait h hb ih=>
  obtain ⟨p,h1,h2⟩:=ih;exact ⟨p,h1,by omega⟩
 | move h hr hm ih=>
  obtain ⟨p,h1,h2⟩:=ih;exact A.c _ _ _ _ p h.le (O0.mp hr).1 hr hm h1 h2
theorem Qi1 {rss:List (List (Nat × Nat))} {house mom:Nat} {m:Mo} (A:Arr rss house mom rss.length rss.length [] m):moM m=Zp rss house mom:=by
 funext k;unfold moM;cases hk:m k with
 | none=>
  cases z:Zp rss house mom k with
  | none=>rfl
  | some b=>
   obtain ⟨p,h1,_⟩:=Qe0 A (je z).1;rw [hk] at h1; cases h1
 | some p=>
  obtain ⟨b,h1,h2⟩:=Qev (Qmb A p.1 k p hk rfl);obtain ⟨q,h3,h4⟩:=Qe0 A (je h1).1;rw [hk] at h3;cases h3;rw [h1];show some p.1=some b;congr 1;omega
theorem Qew {rss:List (List (Nat × Nat))} {i a j b:Nat} (h:Zp rss i a j=some b) (ha:a<=rss.length):b<=rss.length/\a<=b:=by
 have h:=(je h).1;refine ⟨?_,h.le⟩
 induction h with
 | refl=>exact ha
 | wait h hb _=>omega
 | move h hr _ _=>exact (O0.mp hr).1
def Uq (rss:List (List (Nat × Nat))) (house k:Nat):Option Nat:=match Zp rss house 0 k with
 | none=>none
 | some a=>Zp rss k a house
theorem Z8 {a b:MS} {Γ Γ1:Gam} {S S1:Q3} {r:SR} (h1:a Γ S=.nx Γ1 S1) (h2:b Γ1 S1=r):Qd a b Γ S=r:=by rw [Ja,h1]; exact h2
theorem W7 {i:Nat} {m:ME} {Γ:Gam} {S S1:Q3} {v:PV} (h:m Γ S=.ok v S1):Qy i m Γ S=.nx (Γ.set i (some v)) S1:=by rw [Qhh,h]; rfl
theorem Ye {n:Nat} {F:FN} {mr:ML} {Γ:Gam} {S S1 S2:Q3} {ps:List PV} {v:PV} (h1:mr Γ S=.ok ps S1) (h2:ps.length=n) (h3:F ps S1=.ok v S2):Qi n F mr Γ S=.ok v S2:=by rw [Qbh,h1,Y2,bS h2,h3]
theorem J6 {o:OP} {a b:ME} {Γ:Gam} {S S1 S2 S3:Q3} {x y v:PV} (h1:a Γ S=.ok x S1) (h2:b Γ S1=.ok y S2) (h3:o S2 x y=.ok v S3):mOp o a b Γ S=.ok v S3:=by rw [Qk6,h1,Y2,h2,Y2,h3]
theorem V6 {m:ME} {mr:ML} {Γ:Gam} {S S1 S2:Q3} {p:PV} {ps:List PV} (h1:m Γ S=.ok p S1) (h2:mr Γ S1=.ok ps S2):Q2 m mr Γ S=.ok (p :: ps) S2:=by rw [Qeg,h1,Y2,h2,Y2]
theorem Q39 {o:CF} {mr:ML} {Γ:Gam} {S S1 S2:Q3} {ps:List PV} {v:PV} (h1:mr Γ S=.ok ps S1) (h2:o S1 ps=.ok v S2):Qz o mr Γ S=.ok v S2:=by rw [Qeh,h1,Y2,h2]
theorem Q5s {c:MT} {a b:MS} {Γ:Gam} {S S1:Q3} {r:SR} (h1:c Γ S=.ok true S1) (h2:a Γ S1=r):Z6 c a b Γ S=r:=by rw [Q1c,h1]; exact h2
theorem Q7j {c:MT} {a b:MS} {Γ:Gam} {S S1:Q3} {r:SR} (h1:c Γ S=.ok false S1) (h2:b Γ S1=r):Z6 c a b Γ S=r:=by rw [Q1c,h1]; exact h2
theorem Qma {ga:GA} {m:ME} {Γ Γ1:Gam} {S S1:Q3} {p:PV} (h1:m Γ S=.ok p S1) (h2:ga p Γ=some Γ1):Qei ga m Γ S=.nx Γ1 S1:=by rw [Qhk,h1]; show (match ga p Γ with | some Γ1=>SR.nx Γ1 S1 | none=>.stuck)=_; rw [h2]
theorem Qi5 {m:ME} {Γ:Gam} {S S1:Q3} {p:PV} {xs:List PV} {w:Wt} (h1:m Γ S=.ok p S1) (h2:We S1 p=some (xs,w)) (h3:xs.length<=1000000):Uw m Γ S=.ok (xs,w) S1:=by rw [Qhi,h1,Y2,h2]; exact bS h3
theorem Q8e {m:ML} {Γ:Gam} {S S1:Q3} {ps:List PV} (h:m Γ S=.ok ps S1):Vs m Γ S=.ok (.lst ps) S1:=by rw [Qhg,h,Y2]
theorem Q62 {cap:List (Option Nat)} {ga:GA} {mi:MI} {mt:MT} {me:ME} {Γ:Gam} {S S1 S2:Q3} {xs ys:List PV} {w:Wt} (h1:mi Γ S=.ok (xs,w) S1) (h2:Jc ga mt me w (Zk cap Γ) xs S1=.ok ys S2):Z9 cap ga mi mt me Γ S=.ok ys S2:=by rw [Qbg,h1,Y2,h2]; rfl
theorem Qjy {t:MT} {Γ:Gam} {S S1:Q3} {b:Bool} (h:t Γ S=.ok b S1):Uy t Γ S=.ok (!b) S1:=by rw [Qcv,h,Y2]
theorem Zy {m:ME} {Γ:Gam} {S S1:Q3} {b:Bool} (h:m Γ S=.ok (.bl b) S1):toB m Γ S=.ok b S1:=by rw [Qin,h]; rfl
theorem Q8p {mo mi m:ME} {Γ:Gam} {S S1 S2 S3 S4:Q3} {p o i:PV} (h1:m Γ S=.ok p S1) (h2:mo Γ S1=.ok o S2) (h3:mi Γ S2=.ok i S3) (h4:Uj S3 o i p=some S4):Vb mo mi m Γ S=.nx Γ S4:=by
 rw [Qbe,h1,K9,h2,K9,h3,K9,h4]
theorem Qmd {f:MF} {mo:ME} {mr:ML} {Γ:Gam} {S S1 S2 S3:Q3} {p v:PV} {xs ps:List PV} (h1:mo Γ S=.ok p S1) (h2:Za S1 p=some xs) (h3:mr Γ S1=.ok ps S2) (h4:f S2 p ps=.ok v S3):Ke (mBM f mo mr) Γ S=.nx Γ S3:=by
 rw [Q7c,Qk9,h1,Y2];simp only [h2];rw [h3,Y2,h4,K9]
theorem Qkx {m:ME} {Γ:Gam} {S S1:Q3} {v:PV} (h:m Γ S=.ok v S1):Ke m Γ S=.nx Γ S1:=by rw [Q7c,h]; rfl
theorem Qh6 {a b:MT} {Γ:Gam} {S S1:Q3} (h:a Γ S=.ok true S1):xy a b Γ S=.ok true S1:=by rw [Q9t,h]; rfl
theorem j4 {a b:MT} {Γ:Gam} {S S1:Q3} {r:Res Bool} (h:a Γ S=.ok false S1) (h2:b Γ S1=r):xy a b Γ S=r:=by rw [Q9t,h]; exact h2
theorem xz {a b:MS} {Γ:Gam} {S S1:Q3} {v:PV} (h:a Γ S=.rt v S1):Qd a b Γ S=.rt v S1:=by rw [Ja,h]
theorem Q80 {a b:ME} {Γ:Gam} {S S1 S2:Q3} {x y:PV} {r:Res PV} (h1:a Γ S=.ok x S1) (h2:b Γ S1=.ok y S2) (h3:Xk S2 x y=r):Vt a b Γ S=r:=by rw [Qbf,h1,Y2,h2,Y2,h3]
structure Mv4 where
 t:Int
 i:Int
 j:Int
 k:Int
def mvI (m:Mv4):List Int:=[m.t,m.i,m.j,m.k]
def mvV (m:Mv4):PV:=Qct (mvI m)
def InN (n:Nat) (m:Mv4):Prop:=(0<=m.i/\m.i < n)/\0<=m.j/\m.j < n
def W4 (xs:List Int) (at' d:Int):List Int:=xs.set at'.toNat (xs.getD at'.toNat 0 + d)
theorem V0 (xs:List Int) (a d:Int):(W4 xs a d).length=xs.length:=by unfold W4; simp
theorem Xn {xs:List Int} {a:Int} (h0:0<=a) (hl:a < xs.length) (d:Int) (k:Nat):(W4 xs a d).getD k 0=xs.getD k 0 + if (k:Int)=a then d else 0:=by
 unfold W4;rw [F4,List.getElem?_set,F4,F4]
 by_cases q:a.toNat=k
 ·rw [bS q,bS (by omega),bS (by omega),q]; rfl
 ·rw [bT q,bT (by omega)]; simp
def X0 (ms:List Mv4) (k:Nat):Int:=(ms.map fun m=>if (k:Int)=m.i then m.k else 0).sum
def zt (ms:List Mv4) (k:Nat):Int:=(ms.map fun m=>if (k:Int)=m.j then m.k else 0).sum
def U7 (xs:List Int) (ms:List Mv4):List Int:=ms.foldl (fun xs m=>W4 xs m.i (-m.k)) xs
def xu (xs:List Int) (ms:List Mv4):List Int:=ms.foldl (fun xs m=>W4 xs m.j m.k) xs
theorem X9 (ms:List Mv4):∀ xs,(U7 xs ms).length=xs.length:=by
 induction ms with
 | nil=>intro xs; rfl
 | cons m ms ih=>intro xs; show (U7 (W4 xs m.i (-m.k)) ms).length=_; rw [ih,V0]
theorem Q4y (ms:List Mv4):∀ xs,(xu xs ms).length=xs.length:=by
 induction ms with
 | nil=>intro xs; rfl
 | cons m ms ih=>intro xs; show (xu (W4 xs m.j m.k) ms).length=_; rw [ih,V0]
theorem Qcx {n:Nat} {ms:List Mv4} (h:∀ m∈ms,InN n m):∀ {xs:List Int},xs.length=n->∀ k,(U7 xs ms).getD k 0=xs.getD k 0 - X0 ms k:=by
 induction ms with
 | nil=>intro xs _ k; show xs.getD k 0=xs.getD k 0 - 0; omega
 | cons m ms ih=>
  intro xs hx k;have hm:=h m (by simp);show (U7 (W4 xs m.i (-m.k)) ms).getD k 0=_;rw [ih (fun m' hm'=>h m' (O7 _ hm')) (by rw [V0]; exact hx),Xn hm.1.1 (by rw [hx]; exact hm.1.2)]
  unfold X0;rw [O6,List.sum_cons]
  split <;> omega
theorem Qcj {n:Nat} {ms:List Mv4} (h:∀ m∈ms,InN n m):∀ {xs:List Int},xs.length=n->∀ k,(xu xs ms).getD k 0=xs.getD k 0 + zt ms k:=by
 induction ms with
 | nil=>intro xs _ k; show xs.getD k 0=xs.getD k 0 + 0; omega
 | cons m ms ih=>
  intro xs hx k;have hm:=h m (by simp);show (xu (W4 xs m.j m.k) ms).getD k 0=_;rw [ih (fun m' hm'=>h m' (O7 _ hm')) (by rw [V0]; exact hx),Xn hm.2.1 (by rw [hx]; exact hm.2.2)]
  unfold zt;rw [O6,List.sum_cons]
  split <;> omega
abbrev brΓ (H M:PV) (L:Nat) (a3 a4 a5 a6:Option PV):Gam:=[some H,some M,some (.ref L),a3,a4,a5,a6]
theorem Q0e {S:Q3} {L:Nat} {xs:List Int} {a d:Int} (hL:S[L]?=some (.lst (xs.map .int))) (h0:0<=a) (hl:a < xs.length):Za S (.ref L)=some (xs.map .int)/\atI (xs.map PV.int) a=some (.int (xs.getD a.toNat 0))/\Uj S (.ref L) (.int a) (.int (xs.getD a.toNat 0 + d))=some (S.set L (.lst ((W4 xs a d).map .int))):=by
 obtain ⟨k,rfl⟩:∃ k:Nat,a=k:=⟨a.toNat,by omega⟩;have hk:k < xs.length:=by omega
 refine ⟨by simp [hL],?_,?_⟩
 ·rw [qd,Sm.atI_get (Zb hk 0)]; rfl
 ·have hi:ixN (xs.map PV.int).length (k:Int)=some k:=by
   rw [O3];unfold ixN;rw [bS (by omega)];simp; omega
  show (match S[L]? with | some (.lst xs')=>(ixN xs'.length (k:Int)).map fun n=>S.set L (.lst (xs'.set n (.int (xs.getD (k:Int).toNat 0 + d)))) | _=>none)=_
  rw [hL];show (ixN (xs.map PV.int).length (k:Int)).map _=_;rw [hi];unfold W4;rw [List.map_set]; rfl
theorem br1 {n:Nat} {H M:PV} {L:Nat}:∀ {ms:List Mv4} {S:Q3} {xs:List Int},(∀ m∈ms,InN n m)->xs.length=n->S[L]?=some (.lst (xs.map .int))->∀ a3 a4 a5 a6,∃ b3 b4 b5 b6,Zr (Jn (Qb (Q6 3) (Qb (Q6 4) (Qb (Q6 5) (Qb (Q6 6) Jp))))) Ws [] (ms.map mvV) (brΓ H M L a3 a4 a5 a6) S=.nx (brΓ H M L b3 b4 b5 b6) (S.set L (.lst ((U7 xs ms).map .int)))
 | [],S,xs,_,_,hL,a3,a4,a5,a6=>⟨a3,a4,a5,a6,by
  rw [show U7 xs []=xs from rfl,show S.set L (.lst (xs.map PV.int))=S from by
   refine List.ext_getElem? fun t=>?_
   by_cases z:L=t
   ·subst z; rw [D7 (O0.mp hL).1,hL]
   ·rw [D8 z]]
  simp [Zr]⟩
 | m :: ms,S,xs,h,hx,hL,a3,a4,a5,a6=>by
  have hm:=h m (by simp);obtain ⟨g1,g2,g3⟩:=Q0e (d:=-m.k) hL hm.1.1 (by rw [hx]; exact hm.1.2);have hLl:=(O0.mp hL).1;obtain ⟨b3,b4,b5,b6,e⟩:=br1 (H:=H) (M:=M) (L:=L) (ms:=ms) (S:=S.set L (.lst ((W4 xs m.i (-m.k)).map .int))) (xs:=W4 xs m.i (-m.k)) (fun m' hm'=>h m' (O7 _ hm')) (by rw [V0]; exact hx) (D7 hLl) (some (.int m.t)) (some (.int m.i)) (some (.int m.j)) (some (.int m.k))
  refine ⟨b3,b4,b5,b6,?_⟩;rw [List.set_set] at e;have bd:Ws (brΓ H M L (some (.int m.t)) (some (.int m.i)) (some (.int m.j)) (some (.int m.k))) S=.nx (brΓ H M L (some (.int m.t)) (some (.int m.i)) (some (.int m.j)) (some (.int m.k))) (S.set L (.lst ((W4 xs m.i (-m.k)).map .int))):=by
   have g3':Uj S (.ref L) (.int m.i) (.int (xs.getD m.i.toNat 0 - m.k))=some (S.set L (.lst ((W4 xs m.i (-m.k)).map .int))):=by
    rw [show xs.getD m.i.toNat 0 - m.k=xs.getD m.i.toNat 0 + -m.k by omega]; exact g3
   unfold brΓ;generalize xs.getD m.i.toNat 0=x at g1 g2 g3' ⊢;generalize (W4 xs m.i (-m.k)).map PV.int=yv at g1 g2 g3' ⊢;generalize xs.map PV.int=xv at g1 g2 g3' ⊢;simp -implicitDefEqProofs [Ws,g1,g2,g3',-Kf,-yj]
  rw [O6,Zr,bS (by simp),show (Jn (Qb (Q6 3) (Qb (Q6 4) (Qb (Q6 5) (Qb (Q6 6) Jp))))) (mvV m) (brΓ H M L a3 a4 a5 a6)=some (brΓ H M L (some (.int m.t)) (some (.int m.i)) (some (.int m.j)) (some (.int m.k))) from rfl];simp only [bd];exact e
theorem br2 {n:Nat} {H M:PV} {L:Nat}:∀ {ms:List Mv4} {S:Q3} {xs:List Int},(∀ m∈ms,InN n m)->xs.length=n->S[L]?=some (.lst (xs.map .int))->∀ a3 a4 a5 a6,∃ b3 b4 b5 b6,Zr (Jn (Qb (Q6 3) (Qb (Q6 4) (Qb (Q6 5) (Qb (Q6 6) Jp))))) Wr [] (ms.map mvV) (brΓ H M L a3 a4 a5 a6) S=.nx (brΓ H M L b3 b4 b5 b6) (S.set L (.lst ((xu xs ms).map .int)))
 | [],S,xs,_,_,hL,a3,a4,a5,a6=>⟨a3,a4,a5,a6,by
  rw [show xu xs []=xs from rfl,show S.set L (.lst (xs.map PV.int))=S from by
   refine List.ext_getElem? fun t=>?_
   by_cases z:L=t
   ·subst z; rw [D7 (O0.mp hL).1,hL]
   ·rw [D8 z]]
  simp [Zr]⟩
 | m :: ms,S,xs,h,hx,hL,a3,a4,a5,a6=>by
  have hm:=h m (by simp);obtain ⟨g1,g2,g3⟩:=Q0e (d:=m.k) hL hm.2.1 (by rw [hx]; exact hm.2.2);have hLl:=(O0.mp hL).1;obtain ⟨b3,b4,b5,b6,e⟩:=br2 (H:=H) (M:=M) (L:=L) (ms:=ms) (S:=S.set L (.lst ((W4 xs m.j m.k).map .int))) (xs:=W4 xs m.j m.k) (fun m' hm'=>h m' (O7 _ hm')) (by rw [V0]; exact hx) (D7 hLl) (some (.int m.t)) (some (.int m.i)) (some (.int m.j)) (some (.int m.k))
  refine ⟨b3,b4,b5,b6,?_⟩;rw [List.set_set] at e;have bd:Wr (brΓ H M L (some (.int m.t)) (some (.int m.i)) (some (.int m.j)) (some (.int m.k))) S=.nx (brΓ H M L (some (.int m.t)) (some (.int m.i)) (some (.int m.j)) (some (.int m.k))) (S.set L (.lst ((W4 xs m.j m.k).map .int))):=by
   unfold brΓ;generalize xs.getD m.j.toNat 0=x at g1 g2 g3 ⊢;generalize (W4 xs m.j m.k).map PV.int=yv at g1 g2 g3 ⊢;generalize xs.map PV.int=xv at g1 g2 g3 ⊢;simp -implicitDefEqProofs [Wr,g1,g2,g3,-Kf,-yj]
  rw [O6,Zr,bS (by simp),show (Jn (Qb (Q6 3) (Qb (Q6 4) (Qb (Q6 5) (Qb (Q6 6) Jp))))) (mvV m) (brΓ H M L a3 a4 a5 a6)=some (brΓ H M L (some (.int m.t)) (some (.int m.i)) (some (.int m.j)) (some (.int m.k))) from rfl];simp only [bd];exact e
theorem Qhf:∀ (a:Int) (l:List Int),∃ m,Qk1 (a :: l)=some m/\(m < 0 <-> ∃ x∈a :: l,x < 0):=by
 have key:∀ (l:List Int) (a:Int),(l.foldl (fun m x=>if x < m then x else m) a < 0 <-> ∃ x∈a :: l,x < 0):=by
  intro l
  induction l with
  | nil=>intro a; simp
  | cons b l ih=>
   intro a;rw [List.foldl_cons,ih];constructor
   ·rintro ⟨x,hx,hn⟩;rcases D3.mp hx with rfl | hx
    ·by_cases q:b < a
     ·rw [bS q] at hn; exact ⟨b,by simp,hn⟩
     ·rw [bT q] at hn; exact ⟨a,by simp,hn⟩
    ·exact ⟨x,by simp [hx],hn⟩
   ·rintro ⟨x,hx,hn⟩;rcases D3.mp hx with rfl | hx
    ·by_cases q:b < x
     ·exact ⟨b,by simp [q],by omega⟩
     ·exact ⟨x,by simp [q],hn⟩
    ·rcases D3.mp hx with rfl | hx
     ·by_cases q:x < a
      ·exact ⟨x,by simp [q],hn⟩
      ·exact ⟨a,by simp [q],by omega⟩
     ·exact ⟨x,by simp [hx],hn⟩
 intro a l;exact ⟨_,rfl,key l a⟩
def Uh (xs:List Int) (ms:List Mv4):Option (List Int):=if (U7 xs ms).all (fun x=>decide (0<=x))=true then some (xu (U7 xs ms) ms) else none
def Qp4:Option (List Int)->PV
 | none=>.non
 | some ys=>.lst (ys.map .int)
theorem Q23 (S:Q3) (c d:Cell):(S ++ [c]).set S.length d=S ++ [d]:=by
 rw [List.set_append_right _ _ (O9 _),Nat.sub_self]; rfl
theorem Qcf {n:Nat} (hn:1<=n) (hn8:n<=8) {ms:List Mv4} (h:∀ m∈ms,InN n m) (hml:ms.length<=100000) {xs:List Int} (hx:xs.length=n) (S:Q3):Yw [.lst (xs.map .int),.lst (ms.map mvV)] S=.ok (Qp4 (Uh xs ms)) S:=by
 have h0:(S ++ [Cell.lst (xs.map .int)])[S.length]?=some (.lst (xs.map .int)):=by simp
 obtain ⟨b3,b4,b5,b6,e1⟩:=br1 (H:=.lst (xs.map .int)) (M:=.lst (ms.map mvV)) h hx h0 none none none none;rw [Q23] at e1;have h1:(S ++ [Cell.lst ((U7 xs ms).map .int)])[S.length]?=some (.lst ((U7 xs ms).map .int)):=by simp
 obtain ⟨c3,c4,c5,c6,e2⟩:=br2 (H:=.lst (xs.map .int)) (M:=.lst (ms.map mvV)) h (by rw [X9]; exact hx) h1 b3 b4 b5 b6;rw [Q23] at e2;have hsl:=X9 ms xs;obtain ⟨a,l,hal⟩:∃ a l,U7 xs ms=a :: l:=by
  cases z:U7 xs ms with
  | nil=>rw [z] at hsl; simp at hsl; omega
  | cons a l=>exact ⟨a,l,rfl⟩
 obtain ⟨mn,hmn,hneg⟩:=Qhf a l;rw [<- hal] at hmn hneg;have hmin:Qfc (S ++ [Cell.lst ((U7 xs ms).map .int)]) [.ref S.length]=.ok (.int mn) (S ++ [Cell.lst ((U7 xs ms).map .int)]):=by
  show Xm (fun ns=>(Qk1 ns).map .int) _ [.ref S.length]=_
  have hs:Wx (S ++ [Cell.lst ((U7 xs ms).map .int)]) (.ref S.length)=some ((U7 xs ms).map .int):=by
   simp [Wx]
  unfold Xm;simp only [hs,Option.bind_some,Q2y,hmn];rfl
 have hm':(ms.map mvV).length<=1000000:=by rw [O3]; omega
 have fz0:∀ (T:Q3) (ys:List Int),fin S (.ref S.length) (S ++ [Cell.lst (ys.map .int)])=.ok (.lst (ys.map .int)) S:=fun T ys=>by
  unfold fin;rw [bS (List.prefix_append S _)];have:fz S.length (S ++ [Cell.lst (ys.map .int)]) 16 (.ref S.length)=some (.lst (ys.map .int)):=by
   rw [fz,bT (by omega),show (S ++ [Cell.lst (ys.map PV.int)])[S.length]?=some (.lst (ys.map .int)) by simp];show (fzL S.length _ 15 _).map PV.lst=_;rw [show fzL S.length (S ++ [Cell.lst (ys.map PV.int)]) 15 (ys.map .int)=some (ys.map .int) from by
    generalize S ++ [Cell.lst (ys.map PV.int)]=S9
    induction ys with
    | nil=>rw [List.map_nil,fzL]
    | cons y ys ih=>rw [O6,fzL,ih,xg (m:=0) (k:=15) (p:=.int y) rfl (by decide)]; rfl]
   rfl
  rw [this]; rfl
 show J2 Zz 7 _ S=_;unfold J2;rw [show (([.lst (xs.map .int),.lst (ms.map mvV)]:List PV).map some ++ List.replicate (7 - [PV.lst (xs.map .int),.lst (ms.map mvV)].length) none)=[some (.lst (xs.map .int)),some (.lst (ms.map mvV)),none,none,none,none,none] from rfl];unfold Uh
 by_cases q:(U7 xs ms).all (fun x=>decide (0<=x))=true
 ·rw [bS q];have hq:¬ mn < 0:=fun z=>by
   obtain ⟨x,hx,hx0⟩:=hneg.mp z;have:=E9.mp q x hx;simp at this; omega
  have step:Zz [some (.lst (xs.map .int)),some (.lst (ms.map mvV)),none,none,none,none,none] S=.rt (.ref S.length) (S ++ [Cell.lst ((xu (U7 xs ms) ms).map .int)]):=by
   unfold brΓ at e1 e2;generalize (S ++ [Cell.lst ((xu (U7 xs ms) ms).map .int)])=S3 at hm' e1 hmin hq e2 ⊢;generalize (S ++ [Cell.lst ((U7 xs ms).map .int)])=S2 at hm' e1 hmin hq e2 ⊢;generalize hS1:(S ++ [Cell.lst (xs.map .int)])=S1 at hm' e1 hmin hq e2 ⊢;generalize ms.map mvV=mm at hS1 hm' e1 hmin hq e2 ⊢;generalize xs.map PV.int=xv at hS1 hm' e1 hmin hq e2 ⊢;simp -implicitDefEqProofs [Zz,hS1,hm',Qp,e1,hmin,hq,e2]
  rw [step];exact fz0 S _
 ·rw [bT q];have hq:mn < 0:=hneg.mpr (by
   have q:(U7 xs ms).all (fun x=>decide (0<=x))=false:=by simpa using q
   obtain ⟨x,hx,hx0⟩:=List.all_eq_false.mp q;exact ⟨x,hx,by simp at hx0; omega⟩)
  have step:Zz [some (.lst (xs.map .int)),some (.lst (ms.map mvV)),none,none,none,none,none] S=.rt .non (S ++ [Cell.lst ((U7 xs ms).map .int)]):=by
   unfold brΓ at e1 e2;generalize (S ++ [Cell.lst ((U7 xs ms).map .int)])=S2 at hm' e1 hmin hq ⊢;generalize hS1:(S ++ [Cell.lst (xs.map .int)])=S1 at hm' e1 hmin hq ⊢;generalize ms.map mvV=mm at hS1 hm' e1 hmin hq ⊢;generalize xs.map PV.int=xv at hS1 hm' e1 hmin hq ⊢;simp -implicitDefEqProofs [Zz,hS1,hm',Qp,e1,hmin,hq]
  rw [step];show fin S .non _=_;unfold fin;rw [bS (List.prefix_append S _),xg (m:=0) rfl (by decide)]; rfl
def atT (ms:List Mv4) (t:Nat):List Mv4:=ms.filter fun m=>decide (m.t=(t:Int))
def xc (ms:List Mv4):List Nat->List Int->Option (List Int)
 | [],xs=>some xs
 | t :: ts,xs=>match Uh xs (atT ms t) with
  | none=>none
  | some ys=>xc ms ts ys
theorem jk {xs ys:List Int} {ms:List Mv4} (h:Uh xs ms=some ys):ys.length=xs.length:=by
 unfold Uh at h
 split at h
 ·cases h; rw [Q4y,X9]
 ·cases h
theorem Qfp {n:Nat} {ms:List Mv4} (h:∀ m∈ms,InN n m) (t:Nat):∀ m∈atT ms t,InN n m:=fun m hm=>h m (List.mem_filter.mp hm).1
abbrev haΓ (R:PV) (ms:List Mv4) (mo:Int) (b3 b4:Option PV):Gam:=[some R,some (.lst (ms.map mvV)),some (.int mo),b3,b4]
theorem Q7k {n:Nat} (hn:1<=n) (hn8:n<=8) {ms:List Mv4} (h:∀ m∈ms,InN n m) (hml:ms.length<=100000) {R:PV} {mo:Int} {S:Q3}:∀ {ts:List Nat} {xs:List Int},xs.length=n->∀ b4,
  (∀ ys,xc ms ts xs=some ys->∃ c4,Zr (Q6 4) Ve [] (ts.map fun k:Nat=>.int (k:Int)) (haΓ R ms mo (some (.lst (xs.map .int))) b4) S=.nx (haΓ R ms mo (some (.lst (ys.map .int))) c4) S) /\
  (xc ms ts xs=none->Zr (Q6 4) Ve [] (ts.map fun k:Nat=>.int (k:Int)) (haΓ R ms mo (some (.lst (xs.map .int))) b4) S=.rt .non S)
 | [],xs,_,b4=>⟨fun ys e=>by cases e; exact ⟨b4,by simp [Zr]⟩,fun e=>by cases e⟩
 | t :: ts,xs,hx,b4=>by
  have hc:Jc (Q6 0) zj y8 [] [none,some (.int t)] (ms.map mvV) S=.ok ((atT ms t).map mvV) S:=by
   unfold atT;refine Kj mvV mvV (fun m=>decide (m.t=(t:Int))) (by simp) fun m _=>⟨_,rfl,?_,fun _=>?_⟩
   ·have hi:oIx S (mvV m) (.int 0)=.ok (.int m.t) S:=rfl;generalize mvV m=v at *
    by_cases q:m.t=(t:Int) <;> simp -implicitDefEqProofs [zj,hi,q]
   ·generalize mvV m=v at *;simp -implicitDefEqProofs [y8]
  have hl1:(ms.map mvV).length<=1000000:=by rw [O3]; omega
  have hb:=Qcf hn hn8 (Qfp h t) (by have:=List.length_filter_le (fun m:Mv4=>decide (m.t=(t:Int))) ms; unfold atT; omega) hx S
  rw [O6,Zr,bS (by simp),show (Q6 4) (.int (t:Int)) (haΓ R ms mo (some (.lst (xs.map .int))) b4)=some (haΓ R ms mo (some (.lst (xs.map .int))) (some (.int t))) from rfl];rw [xc];cases z:Uh xs (atT ms t) with
  | none=>
   rw [z] at hb;have hb:Yw [.lst (xs.map .int),.lst ((atT ms t).map mvV)] S=.ok .non S:=hb;have bd:Ve (haΓ R ms mo (some (.lst (xs.map .int))) (some (.int t))) S=.rt .non S:=by
    unfold haΓ;generalize ms.map mvV=mm at hl1 hc hb ⊢;generalize (atT ms t).map mvV=mt at hl1 hc hb ⊢;generalize xs.map PV.int=xv at hl1 hc hb ⊢;simp -implicitDefEqProofs [Ve,hl1,Qp,Zk,hc,hb,jc]
   simp only [bd];exact ⟨fun ys e=>(by cases e),fun _=>trivial⟩
  | some ys=>
   rw [z] at hb;have hb:Yw [.lst (xs.map .int),.lst ((atT ms t).map mvV)] S=.ok (.lst (ys.map .int)) S:=hb;have bd:Ve (haΓ R ms mo (some (.lst (xs.map .int))) (some (.int t))) S=.nx (haΓ R ms mo (some (.lst (ys.map .int))) (some (.int t))) S:=by
    have hnn:∀ l,jc (.lst l)=false:=fun _=>rfl
    unfold haΓ;generalize ms.map mvV=mm at hl1 hc hb hnn ⊢;generalize (atT ms t).map mvV=mt at hl1 hc hb hnn ⊢;generalize xs.map PV.int=xv at hl1 hc hb hnn ⊢;generalize ys.map PV.int=yv at hl1 hc hb hnn ⊢;simp -implicitDefEqProofs [Ve,hl1,Qp,Zk,hc,hb,hnn]
   simp only [bd];exact Q7k hn hn8 h hml ((jk z).trans hx) _
theorem Qkq {n:Nat} (hn:1<=n) (hn8:n<=8) {ms:List Mv4} (h:∀ m∈ms,InN n m) (hml:ms.length<=100000) {xs:List Int} (hx:xs.length=n) {mo:Nat} (hmo:mo<=1000) (S:Q3):jm [.tup (xs.map .int),.lst (ms.map mvV),.int mo] S=.ok (Qp4 (xc ms (List.range mo) xs)) S:=by
 have key:=Q7k hn hn8 h hml (R:=.tup (xs.map .int)) (mo:=mo) (S:=S) (ts:=List.range mo) hx none;rw [<- Wp] at key;have hb:-1000000<=(mo:Int)/\(mo:Int)<=1000000:=by omega
 show J2 Xg 5 _ S=_;unfold J2;rw [show (([.tup (xs.map .int),.lst (ms.map mvV),.int mo]:List PV).map some ++ List.replicate (5 - [PV.tup (xs.map .int),.lst (ms.map mvV),.int mo].length) none)=[some (.tup (xs.map .int)),some (.lst (ms.map mvV)),some (.int mo),none,none] from rfl];cases z:xc ms (List.range mo) xs with
 | none=>
  have e:=key.2 z;have step:Xg [some (.tup (xs.map .int)),some (.lst (ms.map mvV)),some (.int mo),none,none] S=.rt .non S:=by
   unfold haΓ at e;generalize ms.map mvV=mm at hb e ⊢;generalize xs.map PV.int=xv at hb e ⊢;simp -implicitDefEqProofs [Xg,Qp,hb,e]
  rw [step];show fin S .non S=_;unfold fin;rw [bS (List.prefix_refl S),xg (m:=0) rfl (by decide)]; rfl
 | some ys=>
  obtain ⟨c4,e⟩:=key.1 ys z;have step:Xg [some (.tup (xs.map .int)),some (.lst (ms.map mvV)),some (.int mo),none,none] S=.rt (.lst (ys.map .int)) S:=by
   unfold haΓ at e;generalize ms.map mvV=mm at hb e ⊢;generalize xs.map PV.int=xv at hb e ⊢;generalize ys.map PV.int=yv at hb e ⊢;simp -implicitDefEqProofs [Xg,Qp,hb,e]
  rw [step];show fin S _ S=_;unfold fin;rw [bS (List.prefix_refl S),xg (m:=1) (by simp [Jq]) (by decide)]; rfl
theorem Qpi:jc .non=true:=rfl
theorem Qe9 (i:Int):jc (.int i)=false:=rfl
def byB:Option Nat->Nat->Bool
 | some b,t=>decide (b<=t)
 | none,_=>false
theorem Qem (o:Option Nat) (t:Nat) (st:Q3):za [moV o,.int t] st=.ok (.bl (byB o t)) st:=by
 cases o with
 | none=>simp -implicitDefEqProofs [za,J2,Q1b,moV,byB,Qpi]
 | some b=>
  have e:decide ((b:Int)<=(t:Int))=decide (b<=t):=by
   by_cases q:b<=t
   ·rw [bV q,bV (by omega)]
   ·rw [bU q,bU (by omega)]
  simp -implicitDefEqProofs [za,J2,Q1b,moV,byB,e,Qe9]
def inR (rs:List (Nat × Nat)) (i j:Int):Bool:=rs.any fun r=>decide ((r.1:Int)=i) && decide ((r.2:Int)=j)
theorem Qen (rs:List (Nat × Nat)) (i j:Int) (st:Q3) (neg:Bool):oIn neg st (.tup [.int i,.int j]) (Qs rs)=.ok (.bl (inR rs i j != neg)) st:=by
 have h1:(rs.map rdV).all (Jq dep)=true:=by
  rw [List.all_map,E9];intro g _;simp [Jq,rdV,dep]
 have h2:((rs.map rdV).any fun y=>peq y (.tup [.int i,.int j]))=inR rs i j:=by
  rw [List.any_map];unfold inR;congr 1;funext r;simp [rdV,peq,Uk];rfl
 unfold oIn Qs;simp only [Q3z];have hd:der st (.tup [.int i,.int j])=.tup [.int i,.int j]:=rfl;have hg:Jq dep (.tup [.int i,.int j])=true:=by simp [Jq,dep]
 rw [hd,bS ⟨hg,h1⟩,h2]
theorem Q9b {n:Nat} {rs:List (Nat × Nat)} (h:RsOk n rs) {i j:Int} (e:inR rs i j=true):(0<=i/\i < n)/\0<=j/\j < n:=by
 unfold inR at e;obtain ⟨r,hr,q⟩:=List.any_eq_true.mp e;have:=h.ok r hr;unfold Qck at this;simp at q;omega
theorem Vu {S:Q3} {V:PV} {xs:List PV} (h:ListAt S V xs) {k:Nat} {x:PV} (hk:xs[k]?=some x):oIx S V (.int k)=.ok x S:=by
 rw [h.ix,Sm.atI_get hk]; rfl
def K0 (rss:List (List (Nat × Nat))) (f:Nat->Option Nat) (mo:Int) (m:Mv4):Bool:=(decide (0<=m.t) && decide (m.t < mo)) && (inR (rss.getD m.t.toNat []) m.i m.j && (decide (1<=m.k) && byB (f m.i.toNat) m.t.toNat))
theorem Qk2 {n:Nat} {rss:List (List (Nat × Nat))} (hrs:∀ rs∈rss,RsOk n rs) {V A:PV} {S:Q3} (hV:ListAt S V (rss.map Qs)) {f:Nat->Option Nat} (hA:DicAt S A (Jk n f)) {mo:Int} (hmo:mo<=rss.length) (m:Mv4):Wj [V,A,.int mo,mvV m] S=.ok (.bl (K0 rss f mo m)) S:=by
 obtain ⟨t,i,j,k⟩:=m;have i0:∀ st,oIx st (mvV ⟨t,i,j,k⟩) (.int 0)=.ok (.int t) st:=fun _=>rfl
 have i1:∀ st,oIx st (mvV ⟨t,i,j,k⟩) (.int 1)=.ok (.int i) st:=fun _=>rfl
 have i3:∀ st,oIx st (mvV ⟨t,i,j,k⟩) (.int 3)=.ok (.int k) st:=fun _=>rfl
 have sl:∀ st,oSl st (mvV ⟨t,i,j,k⟩) (some 1) (some 3)=.ok (.tup [.int i,.int j]) st:=fun _=>rfl
 have ret:∀ b,Js [some V,some A,some (.int mo),some (mvV ⟨t,i,j,k⟩),none] S=.rt (.bl b) S->Wj [V,A,.int mo,mvV ⟨t,i,j,k⟩] S=.ok (.bl b) S:=fun b e=>by
  show J2 Js 5 _ S=_;unfold J2;rw [show (([V,A,.int mo,mvV ⟨t,i,j,k⟩]:List PV).map some ++ List.replicate (5 - [V,A,.int mo,mvV ⟨t,i,j,k⟩].length) none)=[some V,some A,some (.int mo),some (mvV ⟨t,i,j,k⟩),none] from rfl,e];simp [fin,fz]
 refine ret _ ?_;unfold K0
 by_cases q1:0<=t
 ·by_cases q2:t < mo
  ·obtain ⟨tn,rfl⟩:∃ tn:Nat,t=tn:=⟨t.toNat,by omega⟩;have htl:tn < rss.length:=by omega
   have hget:rss[tn]?=some (rss.getD tn []):=Zb htl [];have hix:=Vu hV (k:=tn) (x:=Qs (rss.getD tn [])) (by rw [D6,hget]; rfl);have hin:=Qen (rss.getD tn []) i j S true;have hr:=hrs _ (E2 hget);have e1:((tn:Int)).toNat=tn:=by simp
   rw [bV q1,bV q2,e1,F5,F5];cases z:inR (rss.getD tn []) i j with
   | false=>
    rw [z] at hin;have hin:oIn true S (.tup [.int i,.int j]) (Qs (rss.getD tn []))=.ok (.bl true) S:=hin;rw [E8];generalize mvV ⟨(tn:Int),i,j,k⟩=mv at i0 q1 q2 sl hix hin ⊢;generalize Qs (rss.getD tn [])=rv at i0 q1 q2 sl hix hin ⊢;simp -implicitDefEqProofs [Js,i0,q1,q2,sl,hix,hin]
   | true=>
    rw [z] at hin;have hin:oIn true S (.tup [.int i,.int j]) (Qs (rss.getD tn []))=.ok (.bl false) S:=hin;obtain ⟨⟨p1,p2⟩,_⟩:=Q9b hr z;obtain ⟨ii,rfl⟩:∃ ii:Nat,i=ii:=⟨i.toNat,by omega⟩;have g:=xt hA (k:=ii) (by omega);have hb:=Qem (f ii) tn S;have e2:((ii:Int)).toNat=ii:=by simp
    rw [F5,e2]
    by_cases q3:1<=k
    ·rw [bV q3,F5];generalize byB (f ii) tn=bb at i0 i1 i3 q1 q2 sl hix hin q3 g hb ⊢;generalize moV (f ii)=mo' at i0 i1 i3 q1 q2 sl hix hin q3 g hb ⊢;generalize mvV ⟨(tn:Int),(ii:Int),j,k⟩=mv at i0 i1 i3 q1 q2 sl hix hin q3 g hb ⊢;generalize Qs (rss.getD tn [])=rv at i0 i1 i3 q1 q2 sl hix hin q3 g hb ⊢;simp -implicitDefEqProofs [Js,i0,i1,i3,q1,q2,sl,hix,hin,q3,g,hb]
    ·rw [bU q3,E8];generalize mvV ⟨(tn:Int),(ii:Int),j,k⟩=mv at i0 i1 i3 q1 q2 sl hix hin q3 ⊢;generalize Qs (rss.getD tn [])=rv at i0 i1 i3 q1 q2 sl hix hin q3 ⊢;simp -implicitDefEqProofs [Js,i0,i1,i3,q1,q2,sl,hix,hin,q3]
  ·rw [bU q2,Bool.and_false,E8];generalize mvV ⟨t,i,j,k⟩=mv at i0 q1 q2 ⊢;simp -implicitDefEqProofs [Js,i0,q1,q2]
 ·rw [bU q1,E8,E8];generalize mvV ⟨t,i,j,k⟩=mv at i0 q1 ⊢;simp -implicitDefEqProofs [Js,i0,q1]
def qh (ms:List Mv4):Bool:=(ms.zip (ms.drop 1)).any fun z=>decide (z.2.t < z.1.t)
def Q4g (rss:List (List (Nat × Nat))) (f:Nat->Option Nat) (h:Nat) (xs:List Int) (am mo:Int) (ms:List Mv4):Bool:=
 (decide (0<=mo) && decide (mo<=(rss.length:Int))) && (!qh ms && (ms.all (K0 rss f mo) && (match xc ms (List.range mo.toNat) xs with
  | none=>false
  | some ys=>decide (am<=ys.getD h 0))))
theorem Qef {n:Nat} {rss:List (List (Nat × Nat))} (hrs:∀ rs∈rss,RsOk n rs) {f:Nat->Option Nat} {mo:Int} (hmo:mo<=rss.length) {m:Mv4} (h:K0 rss f mo m=true):InN n m:=by
 unfold K0 at h;simp only [G8,decide_eq_true_eq] at h;obtain ⟨⟨h1,h2⟩,h3,_⟩:=h;have:rss[m.t.toNat]?=some (rss.getD m.t.toNat []):=Zb (by omega) [];exact Q9b (hrs _ (E2 this)) h3
theorem Q31 {ms:List Mv4}:∀ {ts:List Nat} {xs ys:List Int},xc ms ts xs=some ys->ys.length=xs.length
 | [],xs,ys,h=>by cases h; rfl
 | t :: ts,xs,ys,h=>by
  rw [xc] at h;cases z:Uh xs (atT ms t) with
  | none=>rw [z] at h; cases h
  | some zs=>
   rw [z] at h;exact (Q31 h).trans (jk z)
theorem Qes {n:Nat} (hn1:1<=n) (hn:n<=8) {rss:List (List (Nat × Nat))} (hlen:rss.length<=40) (hrs:∀ rs∈rss,RsOk n rs) {V:PV} {S:Q3} (hV:ListAt S V (rss.map Qs)) {h:Nat} (hh:h < n) {xs:List Int} (hx:xs.length=n) {ms:List Mv4} (hml:ms.length<=100000) (am mo:Int) :
  Kn [.tup (xs.map .int),V,.int h,.int am,.int mo,.lst (ms.map mvV)] S=.ok (.bl (Q4g rss (Zp rss h 0) h xs am mo ms)) S:=by
 have hrl:∀ rs∈rss,rs.length<=100:=fun rs h=>(hrs rs h).len
 have nd:=Qhe hV hlen hrs hn1 hn hh;have hlx:Zc S [.tup (xs.map .int)]=.ok (.int n) S:=by simp [hx]
 have hlV:Zc S [V]=.ok (.int rss.length) S:=by
  have:=hV.len;rw [O3] at this;exact this
 obtain ⟨kvs,m0,A,e1⟩:=Q0f hV hlen hrl (n:=n) (house:=h) hn;rw [Qi1 A] at e1;obtain ⟨T,hT⟩:∃ T,[Cell.dic kvs,Cell.dic (Jk n (Zp rss h 0))]=T:=⟨_,rfl⟩;have hD:DicAt (S ++ T) (.ref (S.length + 1)) (Jk n (Zp rss h 0)):=⟨_,rfl,.inl (by rw [<- hT,D5 (by omega),show S.length + 1 - S.length=1 by omega]; rfl)⟩;rw [hT] at e1;have go:∀ (b:Bool) (T':Q3),Ud [some (.tup (xs.map .int)),some V,some (.int h),some (.int am),some (.int mo),some (.lst (ms.map mvV)),none,none] S=.rt (.bl b) (S ++ T')->Kn [.tup (xs.map .int),V,.int h,.int am,.int mo,.lst (ms.map mvV)] S=.ok (.bl b) S:=fun b T' e=>by
  show J2 Ud 8 _ S=_;unfold J2;rw [show (([.tup (xs.map .int),V,.int h,.int am,.int mo,.lst (ms.map mvV)]:List PV).map some ++ List.replicate (8 - [.tup (xs.map .int),V,.int h,.int am,.int mo,.lst (ms.map mvV)].length) none)=[some (.tup (xs.map .int)),some V,some (.int h),some (.int am),some (.int mo),some (.lst (ms.map mvV)),none,none] from rfl,e];show fin S (.bl b) (S ++ T')=_;unfold fin;rw [bS (List.prefix_append S T')];simp [fz]
 have hnil:S ++ []=S:=L1 S;have hsl:cut (ms.map mvV) (some 1) none=(ms.drop 1).map mvV:=by
  rw [Q5z];exact congrArg _ (xh ms 1)
 have hz:Jc (Jn (Qb (Q6 0) (Qb (Q6 1) Jp))) Ya Us [] [none,none] ((ms.zip (ms.drop 1)).map fun z=>.tup [mvV z.1,mvV z.2]) S=.ok (((ms.zip (ms.drop 1)).map fun z=>decide (z.2.t < z.1.t)).map .bl) S:=by
  rw [G6];refine U1 _ _ (by simp) fun z hz=>⟨_,rfl,?_⟩
  have a1:oIx S (mvV z.1) (.int 0)=.ok (.int z.1.t) S:=rfl;have a2:oIx S (mvV z.2) (.int 0)=.ok (.int z.2.t) S:=rfl;show _=Res.ok (PV.bl (decide (z.2.t < z.1.t))) S;generalize mvV z.1=v1 at *;generalize mvV z.2=v2 at *;simp [Us,a1,a2]
 have hany:qh ms=((ms.zip (ms.drop 1)).map fun z=>decide (z.2.t < z.1.t)).any id:=by unfold qh; rw [List.any_map]; rfl
 have hmm:(ms.map mvV).length<=1000000:=by rw [O3]; omega
 rw [<- Q68] at hz;obtain ⟨Γ,hΓ⟩:∃ Γ:Gam,Γ=[some (.tup (xs.map .int)),some V,some (.int h),some (.int am),some (.int mo),some (.lst (ms.map mvV)),none,none]:=⟨_,rfl⟩;have k1:Ke (Qi 3 Wu (Q2 (Qz Zc (Q2 (Q4 0) Q9)) (Q2 (Q4 1) (Q2 (Q4 2) Q9)))) Γ S=.nx Γ S:=by subst hΓ; exact Qkx (Ye (V6 (Q39 rfl hlx) rfl) rfl nd)
 unfold Q4g
 by_cases q:0<=mo/\mo<=(rss.length:Int)
 ·obtain ⟨q1,q2⟩:=q;rw [bV q1,bV q2,F5,F5];have k2:Z6 (Uy (toB (Kx (oI fun a b=>.bl (decide (a<=b))) (oI fun a b=>.bl (decide (a<=b))) (mC (.int 0)) (Q4 4) (Qz Zc (Q2 (Q4 1) Q9))))) (Jm (mC (.bl false))) J5 Γ S=.nx Γ S:=by
   subst hΓ;generalize rss.length=rl at hlV q2;simp -implicitDefEqProofs [hlV,q1,q2]
  have zf:Q7a (Q2 (Q4 5) (Q2 (mSl (Q4 5) (Wi (mC (.int 1))) Yc) Q9)) Γ S=.ok (Q0q (ms.map mvV) ((ms.drop 1).map mvV),[]) S:=by
   subst hΓ;generalize (ms.drop 1).map mvV=ds at hsl ⊢;generalize ms.map mvV=mm at hsl hmm ⊢;simp -implicitDefEqProofs [hsl,hmm,Qp]
  have cb:∀ (T:Q3) (bs:List Bool) (g:List Bool->Bool),q9 (fun ns=>.bl (g ns)) T [.lst (bs.map .bl)]=.ok (.bl (g bs)) T:=fun T bs g=>by simp
  have k3:(toB (Qz (q9 fun ns=>.bl (ns.any id)) (Q2 (Vs (Z9 [none,none] (Jn (Qb (Q6 0) (Qb (Q6 1) Jp))) (Q7a (Q2 (Q4 5) (Q2 (mSl (Q4 5) (Wi (mC (.int 1))) Yc) Q9))) Ya Us)) Q9))) Γ S=.ok (qh ms) S:=by
   rw [hany];exact Zy (Q39 (V6 (Q8e (Q62 zf (by subst hΓ; exact hz))) rfl) (cb S _ _))
  have pre:∀ r,(Qd (Z6 (toB (Qz (q9 fun ns=>.bl (ns.any id)) (Q2 (Vs (Z9 [none,none] (Jn (Qb (Q6 0) (Qb (Q6 1) Jp))) (Q7a (Q2 (Q4 5) (Q2 (mSl (Q4 5) (Wi (mC (.int 1))) Yc) Q9))) Ya Us)) Q9))) (Jm (mC (.bl false))) J5)
  (Qd (Qy 6 (Qi 3 Y7 (Q2 (Qz Zc (Q2 (Q4 0) Q9)) (Q2 (Q4 1) (Q2 (Q4 2) Q9)))))
  (Qd (Z6 (Uy (toB (Qz (q9 fun ns=>.bl (ns.all id)) (Q2 (Vs (Z9 [none,some 1,some 6,some 4] (Q6 0) (Uw (Q4 5)) Ya Xv)) Q9)))) (Jm (mC (.bl false))) J5)
  (Qd (Qy 7 (Qi 3 jm (Q2 (Q4 0) (Q2 (Q4 5) (Q2 (Q4 4) Q9)))))
  (Jm (Q11 (mOp Uv (Q4 7) (mC .non)) (mOp (oI fun a b=>.bl (decide (b<=a))) (mOp oIx (Q4 7) (Q4 2)) (Q4 3)))))))) Γ S=r->Ud [some (.tup (xs.map .int)),some V,some (.int h),some (.int am),some (.int mo),some (.lst (ms.map mvV)),none,none] S=r:=fun r e=>by
   rw [<- hΓ];exact Z8 k1 (Z8 k2 e)
  cases d:qh ms with
  | true=>
   rw [d] at k3;refine go _ [] (pre _ ?_);rw [hnil,Ja,Q5s k3 rfl];rfl
  | false=>
   rw [d] at k3;have hmay:Jc (Q6 0) Ya Xv [] [none,some V,some (.ref (S.length + 1)),some (.int mo)] (ms.map mvV) (S ++ T)=.ok ((ms.map (K0 rss (Zp rss h 0) mo)).map .bl) (S ++ T):=by
    rw [G6];refine U1 _ _ (by simp) fun m _=>⟨_,rfl,?_⟩
    have:=Qk2 hrs (Vj hV T) hD q2 m;show _=Res.ok (PV.bl (K0 rss (Zp rss h 0) mo m)) (S ++ T);exact Ye rfl rfl this
   have hall:(ms.map (K0 rss (Zp rss h 0) mo)).all id=ms.all (K0 rss (Zp rss h 0) mo):=by rw [List.all_map]; rfl
   rw [Bool.not_false,F5];have k4:Qy 6 (Qi 3 Y7 (Q2 (Qz Zc (Q2 (Q4 0) Q9)) (Q2 (Q4 1) (Q2 (Q4 2) Q9)))) Γ S=.nx (Γ.set 6 (some (.ref (S.length + 1)))) (S ++ T):=by subst hΓ; exact W7 (Ye (V6 (Q39 rfl hlx) rfl) rfl e1)
   have k5:(Uy (toB (Qz (q9 fun ns=>.bl (ns.all id)) (Q2 (Vs (Z9 [none,some 1,some 6,some 4] (Q6 0) (Uw (Q4 5)) Ya Xv)) Q9)))) (Γ.set 6 (some (.ref (S.length + 1)))) (S ++ T)=.ok (!ms.all (K0 rss (Zp rss h 0) mo)) (S ++ T):=by
    rw [<- hall];subst hΓ;exact Qjy (Zy (Q39 (V6 (Q8e (Q62 (Qi5 rfl rfl hmm) hmay)) rfl) (cb _ _ _)))
   cases a:ms.all (K0 rss (Zp rss h 0) mo) with
   | false=>
    rw [a] at k5;refine go _ T (pre _ (Z8 (Q7j k3 rfl) (Z8 k4 ?_)));rw [Ja,Q5s k5 rfl];rfl
   | true=>
    rw [a] at k5;have hin:∀ m∈ms,InN n m:=fun m hm=>Qef hrs q2 (E9.mp a m hm)
    obtain ⟨mn,rfl⟩:∃ mn:Nat,mo=mn:=⟨mo.toNat,by omega⟩;have hh1:=Qkq hn1 hn hin hml hx (mo:=mn) (by omega) (S ++ T);rw [F5,show ((mn:Int)).toNat=mn by simp];refine go _ T (pre _ (Z8 (Q7j k3 rfl) (Z8 k4 (Z8 (Q7j k5 rfl) (Z8 (W7 (Ye (by subst hΓ; rfl) rfl hh1)) ?_)))));subst hΓ;cases r:xc ms (List.range mn) xs with
    | none=>rfl
    | some ys=>
     have hyl:=(Q31 r).trans hx;have hix:oIx (S ++ T) (.lst (ys.map .int)) (.int h)=.ok (.int (ys.getD h 0)) (S ++ T):=Vu (.inl rfl) (by rw [D6,Zb (by omega) 0]; rfl);have e9:(mOp (oI fun a b=>.bl (decide (b<=a))) (mOp oIx (Q4 7) (Q4 2)) (Q4 3)) ([some (.tup (xs.map .int)),some V,some (.int h),some (.int am),some (.int mn),some (.lst (ms.map mvV)),some (.ref (S.length + 1)),some (.lst (ys.map .int))]:Gam) (S ++ T)=.ok (.bl (decide (am<=ys.getD h 0))) (S ++ T):=J6 (J6 rfl rfl hix) rfl rfl
     show Jm (Q11 (mOp Uv (Q4 7) (mC .non)) (mOp (oI fun a b=>.bl (decide (b<=a))) (mOp oIx (Q4 7) (Q4 2)) (Q4 3))) ([some (.tup (xs.map .int)),some V,some (.int h),some (.int am),some (.int mn),some (.lst (ms.map mvV)),some (.ref (S.length + 1)),some (.lst (ys.map .int))]:Gam) (S ++ T)=_
     rw [Qhj,Qhm,show (mOp Uv (Q4 7) (mC .non)) ([some (.tup (xs.map .int)),some V,some (.int h),some (.int am),some (.int mn),some (.lst (ms.map mvV)),some (.ref (S.length + 1)),some (.lst (ys.map .int))]:Gam) (S ++ T)=.ok (.bl true) (S ++ T) from rfl,Y2];show (mOp (oI fun a b=>.bl (decide (b<=a))) (mOp oIx (Q4 7) (Q4 2)) (Q4 3) _ _).sbind _=_
     rw [e9]; rfl
 ·have q':(decide (0<=mo) && decide (mo<=(rss.length:Int)))=false:=by
   by_cases z:0<=mo
   ·rw [bU (show ¬ mo<=(rss.length:Int) from fun w=>q ⟨z,w⟩),Bool.and_false]
   ·rw [bU z,E8]
  rw [q',E8];refine go _ [] ?_;rw [hnil];generalize ms.map mvV=mm at *;generalize xs.map PV.int=xv at *;generalize rss.length=rl at *
  by_cases z:0<=mo
  ·have z2:¬ mo<=(rl:Int):=fun w=>q ⟨z,w⟩
   simp -implicitDefEqProofs [Ud,hlx,nd,hlV,z,z2]
  ·simp -implicitDefEqProofs [Ud,hlx,nd,hlV,z]
def Qae (last:Int):List Mv4->Bool
 | []=>true
 | m :: _=>decide (last<=m.t)
def Q2w (rss:List (List (Nat × Nat))) (f:Nat->Option Nat) (mo:Int):Int->List Mv4->Bool
 | _,[]=>true
 | last,m :: ms=>(decide (last<=m.t) && (decide (m.t < mo) && (decide (1<=m.k) && (inR (rss.getD m.t.toNat []) m.i m.j && byB (f m.i.toNat) m.t.toNat)))) && Q2w rss f mo m.t ms
theorem Q7g (rss:List (List (Nat × Nat))) (f:Nat->Option Nat) (mo:Int):∀ (ms:List Mv4) (last:Int),0<=last->Q2w rss f mo last ms=(Qae last ms && (!qh ms && ms.all (K0 rss f mo)))
 | [],_,_=>rfl
 | m :: ms,last,hl=>by
  rw [Q2w]
  by_cases q:last<=m.t
  ·have ih:=Q7g rss f mo ms m.t (by omega);rw [ih];have hd:qh (m :: ms)=(!Qae m.t ms || qh ms):=by
    unfold qh;cases ms with
    | nil=>rfl
    | cons m2 ms=>
     show (decide (m2.t < m.t) || _)=(!decide (m.t<=m2.t) || _);congr 1
     by_cases z:m2.t < m.t
     ·rw [bV z,bU (by omega)]; rfl
     ·rw [bU z,bV (by omega)]; rfl
   rw [hd,List.all_cons];have hm:K0 rss f mo m=(decide (m.t < mo) && (decide (1<=m.k) && (inR (rss.getD m.t.toNat []) m.i m.j && byB (f m.i.toNat) m.t.toNat))):=by
    unfold K0;rw [bV (show 0<=m.t by omega),F5];cases decide (m.t < mo) <;> cases decide (1<=m.k) <;> cases inR (rss.getD m.t.toNat []) m.i m.j <;> rfl
   rw [<- hm];show (decide (last<=m.t) && K0 rss f mo m && _)=(decide (last<=m.t) && _);rw [bV q];cases K0 rss f mo m <;> cases Qae m.t ms <;> cases qh ms <;> cases ms.all (K0 rss f mo) <;> rfl
  ·show (decide (last<=m.t) && _ && _)=(decide (last<=m.t) && _);rw [bU q]; rfl
theorem Qki (rss:List (List (Nat × Nat))) (f:Nat->Option Nat) (mo:Int) (ms:List Mv4):Q2w rss f mo 0 ms=(!qh ms && ms.all (K0 rss f mo)):=by
 rw [Q7g rss f mo ms 0 (Int.le_refl _)];cases z:ms.all (K0 rss f mo) with
 | false=>simp
 | true=>
  have:Qae 0 ms=true:=by
   cases ms with
   | nil=>rfl
   | cons m ms=>
    have:=E9.mp z m (by simp);unfold K0 at this;simp only [G8,decide_eq_true_eq] at this;exact bV this.1.1
  rw [this,F5]
def inn (g w:Nat->Int):List Nat->List Int->Option (List Int)
 | [],ys=>some ys
 | k :: ks,ys=>if ys.getD k 0 < g k then none else inn g w ks (ys.set k (ys.getD k 0 - g k + w k))
theorem Q6h {ys:List Int} {k:Nat} (hk:k < ys.length) (v:Int) (j:Nat):(ys.set k v).getD j 0=if j=k then v else ys.getD j 0:=by
 rw [F4,List.getElem?_set,F4]
 by_cases q:k=j
 ·rw [bS q,bS hk,bS q.symm]; rfl
 ·rw [bT q,bT (fun z=>q z.symm)]
theorem Q7i (g w:Nat->Int):∀ {ks:List Nat} {ys:List Int},ks.Nodup->(∀ k∈ks,k < ys.length) ->
  ((∀ k∈ks,g k<=ys.getD k 0)->∃ zs,inn g w ks ys=some zs/\zs.length=ys.length/\∀ j,zs.getD j 0=if j∈ks then ys.getD j 0 - g j + w j else ys.getD j 0)/\((∃ k∈ks,ys.getD k 0 < g k)->inn g w ks ys=none)
 | [],ys,_,_=>⟨fun _=>⟨ys,rfl,rfl,fun j=>by simp⟩,fun ⟨k,h,_⟩=>by cases h⟩
 | k :: ks,ys,nd,hl=>by
  obtain ⟨n1,n2⟩:=List.nodup_cons.mp nd;have hk:=hl k (by simp);have ih:=Q7i g w (ks:=ks) (ys:=ys.set k (ys.getD k 0 - g k + w k)) n2 (fun j hj=>by rw [F9]; exact hl j (O7 _ hj))
  have same:∀ j∈ks,(ys.set k (ys.getD k 0 - g k + w k)).getD j 0=ys.getD j 0:=fun j hj=>by
   rw [Q6h hk,bT (show ¬ j=k from fun z=>n1 (by rw [<- z]; exact hj))]
  rw [inn];refine ⟨fun h=>?_,fun ⟨j,hj,hlt⟩=>?_⟩
  ·have hk0:=h k (by simp);rw [bT (by omega)];obtain ⟨zs,e,l,v⟩:=ih.1 fun j hj=>by rw [same j hj]; exact h j (O7 _ hj)
   refine ⟨zs,e,by rw [l,F9],fun j=>?_⟩;rw [v j]
   by_cases q:j∈ks
   ·rw [bS q,same j q,bS (O7 _ q)]
   ·rw [bT q,Q6h hk]
    by_cases z:j=k
    ·rw [bS z,bS (by rw [z]; simp),z]
    ·rw [bT z,bT (by simp [z,q])]
  ·by_cases q:ys.getD k 0 < g k
   ·rw [bS q]
   ·rw [bT q];rcases D3.mp hj with rfl | hj
    ·exact absurd hlt q
    ·exact ih.2 ⟨j,hj,by rw [same j hj]; exact hlt⟩
theorem Qhp {xs ys:List Int} (hl:xs.length=ys.length) (h:∀ k,xs.getD k 0=ys.getD k 0):xs=ys:=by
 refine List.ext_getElem hl fun k h1 h2=>?_
 have:=h k;rw [F4,F4,O2 h1,O2 h2] at this;exact this
theorem Q9a {n:Nat} {ms:List Mv4} (h:∀ m∈ms,InN n m) {xs:List Int} (hx:xs.length=n):inn (X0 ms) (zt ms) (List.range n) xs=Uh xs ms:=by
 have sp:=Q7i (X0 ms) (zt ms) (ks:=List.range n) (ys:=xs) List.nodup_range (fun k hk=>by rw [hx]; simpa using hk);have hg:=fun k=>Qcx h hx k
 unfold Uh
 by_cases q:(U7 xs ms).all (fun x=>decide (0<=x))=true
 ·rw [bS q];have hq:∀ k∈List.range n,X0 ms k<=xs.getD k 0:=fun k hk=>by
   have hkl:k < (U7 xs ms).length:=by rw [X9,hx]; simpa using hk
   have h1:=E9.mp q _ (E2 (Zb hkl 0));rw [hg k] at h1;have h1:=of_decide_eq_true h1;omega
  obtain ⟨zs,e,l,v⟩:=sp.1 hq;rw [e];congr 1;refine Qhp (by rw [l,Q4y,X9]) fun k=>?_
  rw [v k,Qcj h (by rw [X9]; exact hx),hg k]
  by_cases z:k < n
  ·rw [bS (by simpa using z)]
  ·rw [bT (by simpa using z)];have zero:∀ l:List Mv4,(l.map fun _=>(0:Int)).sum=0:=fun l=>by
    induction l with
    | nil=>rfl
    | cons a l ih=>rw [O6,List.sum_cons,ih]; rfl
   have z1:X0 ms k=0:=by
    unfold X0;have:(ms.map fun m=>if (k:Int)=m.i then m.k else 0)=ms.map fun _=>(0:Int):=List.map_congr_left fun m hm=>by
     have:=(h m hm).1;rw [bT (by omega)]
    rw [this,zero]
   have z2:zt ms k=0:=by
    unfold zt;have:(ms.map fun m=>if (k:Int)=m.j then m.k else 0)=ms.map fun _=>(0:Int):=List.map_congr_left fun m hm=>by
     have:=(h m hm).2;rw [bT (by omega)]
    rw [this,zero]
   rw [z1,z2]; omega
 ·rw [bT q];have q:(U7 xs ms).all (fun x=>decide (0<=x))=false:=by simpa using q
  obtain ⟨x,hx',hx0⟩:=List.all_eq_false.mp q;obtain ⟨k,hk⟩:=List.getElem?_of_mem hx';have hkl:=(O0.mp hk).1;rw [X9,hx] at hkl;refine sp.2 ⟨k,by simpa using hkl,?_⟩;have:(U7 xs ms).getD k 0=x:=by rw [F4,hk]; rfl
  rw [hg k] at this;have hx0:¬ 0<=x:=fun z=>hx0 (bV z)
  omega
theorem Q7n (ms:List Mv4) (t k:Nat):((ms.filter fun m=>decide (m.t=(t:Int)) && decide (m.i=(k:Int))).map fun m=>m.k).sum=X0 (atT ms t) k:=by
 unfold X0 atT
 induction ms with
 | nil=>rfl
 | cons m ms ih=>
  rw [List.filter_cons,List.filter_cons]
  by_cases q:m.t=(t:Int)
  ·by_cases z:m.i=(k:Int)
   ·simp only [q,z,decide_true,Bool.and_self,if_true,O6,List.sum_cons] at ih ⊢;rw [ih]
   ·have z':¬ ((k:Int)=m.i):=fun e=>z e.symm
    simp only [q,z,z',decide_true,decide_false,Bool.and_false,Bool.false_eq_true,if_false,if_true,O6,List.sum_cons] at ih ⊢;rw [ih]; omega
  ·simp only [q,decide_false,E8,Bool.false_eq_true,if_false] at ih ⊢;exact ih
theorem Q90 (ms:List Mv4) (t k:Nat):((ms.filter fun m=>decide (m.t=(t:Int)) && decide (m.j=(k:Int))).map fun m=>m.k).sum=zt (atT ms t) k:=by
 unfold zt atT
 induction ms with
 | nil=>rfl
 | cons m ms ih=>
  rw [List.filter_cons,List.filter_cons]
  by_cases q:m.t=(t:Int)
  ·by_cases z:m.j=(k:Int)
   ·simp only [q,z,decide_true,Bool.and_self,if_true,O6,List.sum_cons] at ih ⊢;rw [ih]
   ·have z':¬ ((k:Int)=m.j):=fun e=>z e.symm
    simp only [q,z,z',decide_true,decide_false,Bool.and_false,Bool.false_eq_true,if_false,if_true,O6,List.sum_cons] at ih ⊢;rw [ih]; omega
  ·simp only [q,decide_false,E8,Bool.false_eq_true,if_false] at ih ⊢;exact ih
abbrev jdΓ (X V A:PV) (h am mo:Int) (W:PV) (b7 b8 b9 b10 b11 b12 b13 b14 b15 b16:Option PV):Gam:=[some X,some V,some A,some (.int h),some (.int am),some (.int mo),some W,b7,b8,b9,b10,b11,b12,b13,b14,b15,b16]
theorem jd1 {n:Nat} {rss:List (List (Nat × Nat))} (hrs:∀ rs∈rss,RsOk n rs) {X V A W:PV} {S:Q3} (hV:ListAt S V (rss.map Qs)) {f:Nat->Option Nat} (hA:DicAt S A (Jk n f)) {mo:Int} (hmo:mo<=rss.length) {h am:Int} {w:Wt} (hw:wOk w S):∀ (ms:List Mv4) (last:Int),0<=last->∀ b8 b9 b10 b11 b12 b13 b14 b15 b16,
  (Q2w rss f mo last ms=true->∃ c7 c8 c9 c10 c11,Zr (Jn (Qb (Q6 8) (Qb (Q6 9) (Qb (Q6 10) (Qb (Q6 11) Jp))))) J4 w (ms.map mvV) (jdΓ X V A h am mo W (some (.int last)) b8 b9 b10 b11 b12 b13 b14 b15 b16) S=.nx (jdΓ X V A h am mo W c7 c8 c9 c10 c11 b12 b13 b14 b15 b16) S) /\
  (Q2w rss f mo last ms=false->Zr (Jn (Qb (Q6 8) (Qb (Q6 9) (Qb (Q6 10) (Qb (Q6 11) Jp))))) J4 w (ms.map mvV) (jdΓ X V A h am mo W (some (.int last)) b8 b9 b10 b11 b12 b13 b14 b15 b16) S=.rt (.bl false) S)
 | [],last,hl,b8,b9,b10,b11,b12,b13,b14,b15,b16=>⟨fun _=>⟨_,_,_,_,_,by rw [List.map_nil,Zr,bS hw]⟩,fun e=>by cases e⟩
 | ⟨t,i,j,k⟩ :: ms,last,hl,b8,b9,b10,b11,b12,b13,b14,b15,b16=>by
  rw [O6,Zr,bS hw,show (Jn (Qb (Q6 8) (Qb (Q6 9) (Qb (Q6 10) (Qb (Q6 11) Jp))))) (mvV ⟨t,i,j,k⟩) (jdΓ X V A h am mo W (some (.int last)) b8 b9 b10 b11 b12 b13 b14 b15 b16)=some (jdΓ X V A h am mo W (some (.int last)) (some (.int t)) (some (.int i)) (some (.int j)) (some (.int k)) b12 b13 b14 b15 b16) from rfl];rw [Q2w]
  by_cases q1:last<=t
  ·have q1':¬ t < last:=by omega
   have f1:oLt S (.int t) (.int last)=.ok (.bl false) S:=by simp [q1']
   by_cases q2:t < mo
   ·have q2':¬ mo<=t:=by omega
    have f2:(oI fun a b=>.bl (decide (b<=a))) S (.int t) (.int mo)=.ok (.bl false) S:=by simp [q2']
    obtain ⟨tn,rfl⟩:∃ tn:Nat,t=tn:=⟨t.toNat,by omega⟩;have hget:rss[tn]?=some (rss.getD tn []):=Zb (by omega) [];have hix:=Vu hV (k:=tn) (x:=Qs (rss.getD tn [])) (by rw [D6,hget]; rfl);have hin:=Qen (rss.getD tn []) i j S true;have hr:=hrs _ (E2 hget);have e1:((tn:Int)).toNat=tn:=by simp
    simp only [bV q1,bV q2,e1,F5]
    by_cases q3:1<=k
    ·have q3':¬ k < 1:=by omega
     have f3:oLt S (.int k) (.int 1)=.ok (.bl false) S:=by simp [q3']
     simp only [bV q3,F5];cases z:inR (rss.getD tn []) i j with
     | false=>
      rw [z] at hin;have hin:oIn true S (.tup [.int i,.int j]) (Qs (rss.getD tn []))=.ok (.bl true) S:=hin;have bd:J4 (jdΓ X V A h am mo W (some (.int last)) (some (.int tn)) (some (.int i)) (some (.int j)) (some (.int k)) b12 b13 b14 b15 b16) S=.rt (.bl false) S:=xz (Q5s (j4 (Zy (J6 rfl rfl f1)) (j4 (Zy (J6 rfl rfl f2)) (j4 (Zy (J6 rfl rfl f3)) (Zy (J6 rfl (J6 rfl rfl hix) hin))))) rfl);simp only [bd,E8];exact ⟨fun e=>(by cases e),fun _=>trivial⟩
     | true=>
      rw [z] at hin;have hin:oIn true S (.tup [.int i,.int j]) (Qs (rss.getD tn []))=.ok (.bl false) S:=hin;obtain ⟨⟨p1,p2⟩,_⟩:=Q9b hr z;obtain ⟨ii,rfl⟩:∃ ii:Nat,i=ii:=⟨i.toNat,by omega⟩;have g:=xt hA (k:=ii) (by omega);have e2:((ii:Int)).toNat=ii:=by simp
      simp only [e2,F5];cases fz':f ii with
      | none=>
       rw [fz'] at g;have g:Xk S A (.int ii)=.ok .non S:=g;have bd:J4 (jdΓ X V A h am mo W (some (.int last)) (some (.int tn)) (some (.int ii)) (some (.int j)) (some (.int k)) b12 b13 b14 b15 b16) S=.rt (.bl false) S:=Z8 (Q7j (j4 (Zy (J6 rfl rfl f1)) (j4 (Zy (J6 rfl rfl f2)) (j4 (Zy (J6 rfl rfl f3)) (Zy (J6 rfl (J6 rfl rfl hix) hin))))) rfl) (xz (Q5s (Qh6 (Zy (J6 (Q80 rfl rfl g) rfl rfl))) rfl));simp only [bd,byB,E8];exact ⟨fun e=>(by cases e),fun _=>trivial⟩
      | some b=>
       rw [fz'] at g;have g:Xk S A (.int ii)=.ok (.int b) S:=g
       by_cases q4:b<=tn
       ·have q4':¬ (tn:Int) < (b:Int):=by omega
        have q4n:¬ tn < b:=by omega
        have bd:J4 (jdΓ X V A h am mo W (some (.int last)) (some (.int tn)) (some (.int ii)) (some (.int j)) (some (.int k)) b12 b13 b14 b15 b16) S=.nx (jdΓ X V A h am mo W (some (.int tn)) (some (.int tn)) (some (.int ii)) (some (.int j)) (some (.int k)) b12 b13 b14 b15 b16) S:=Z8 (Q7j (j4 (Zy (J6 rfl rfl f1)) (j4 (Zy (J6 rfl rfl f2)) (j4 (Zy (J6 rfl rfl f3)) (Zy (J6 rfl (J6 rfl rfl hix) hin))))) rfl) (Z8 (Q7j (j4 (Zy (J6 (Q80 rfl rfl g) rfl rfl)) (Zy (J6 (Q80 rfl rfl g) rfl (show (oI fun a b=>.bl (decide (b < a))) S (.int b) (.int tn)=.ok (.bl false) S from by simp [q4',q4n])))) rfl) rfl)
        simp only [bd,byB,bV q4,F5];exact jd1 hrs hV hA hmo hw ms tn (by omega) _ _ _ _ _ _ _ _ _
       ·have q4':(tn:Int) < (b:Int):=by omega
        have q4n:tn < b:=by omega
        have bd:J4 (jdΓ X V A h am mo W (some (.int last)) (some (.int tn)) (some (.int ii)) (some (.int j)) (some (.int k)) b12 b13 b14 b15 b16) S=.rt (.bl false) S:=Z8 (Q7j (j4 (Zy (J6 rfl rfl f1)) (j4 (Zy (J6 rfl rfl f2)) (j4 (Zy (J6 rfl rfl f3)) (Zy (J6 rfl (J6 rfl rfl hix) hin))))) rfl) (xz (Q5s (j4 (Zy (J6 (Q80 rfl rfl g) rfl rfl)) (Zy (J6 (Q80 rfl rfl g) rfl (show (oI fun a b=>.bl (decide (b < a))) S (.int b) (.int tn)=.ok (.bl true) S from by simp [q4',q4n])))) rfl))
        simp only [bd,byB,bU q4,E8];exact ⟨fun e=>(by cases e),fun _=>trivial⟩
    ·have q3':k < 1:=by omega
     have bd:J4 (jdΓ X V A h am mo W (some (.int last)) (some (.int tn)) (some (.int i)) (some (.int j)) (some (.int k)) b12 b13 b14 b15 b16) S=.rt (.bl false) S:=xz (Q5s (j4 (Zy (J6 rfl rfl f1)) (j4 (Zy (J6 rfl rfl f2)) (Qh6 (Zy (J6 rfl rfl (show oLt S (.int k) (.int 1)=.ok (.bl true) S from by simp [q3'])))))) rfl);simp only [bd,bU q3,E8];exact ⟨fun e=>(by cases e),fun _=>trivial⟩
   ·have q2':mo<=t:=by omega
    have bd:J4 (jdΓ X V A h am mo W (some (.int last)) (some (.int t)) (some (.int i)) (some (.int j)) (some (.int k)) b12 b13 b14 b15 b16) S=.rt (.bl false) S:=xz (Q5s (j4 (Zy (J6 rfl rfl f1)) (Qh6 (Zy (J6 rfl rfl (show (oI fun a b=>.bl (decide (b<=a))) S (.int t) (.int mo)=.ok (.bl true) S from by simp [q2']))))) rfl)
    simp only [bd,bU q2,E8,Bool.and_false];exact ⟨fun e=>(by cases e),fun _=>trivial⟩
  ·have q1':t < last:=by omega
   have bd:J4 (jdΓ X V A h am mo W (some (.int last)) (some (.int t)) (some (.int i)) (some (.int j)) (some (.int k)) b12 b13 b14 b15 b16) S=.rt (.bl false) S:=xz (Q5s (Qh6 (Zy (J6 rfl rfl (show oLt S (.int t) (.int last)=.ok (.bl true) S from by simp [q1'])))) rfl);simp only [bd,bU q1,E8];exact ⟨fun e=>(by cases e),fun _=>trivial⟩
theorem Qpw {n:Nat} {W:PV} {S:Q3} {ms:List Mv4} (hW:ListAt S W (ms.map mvV)) (hml:ms.length<=100000) (k t:Nat):Wb [some (.int k),some W,some (.int t)] S=.ok (.int (X0 (atT ms t) k)) S/\Wa [some (.int k),some W,some (.int t)] S=.ok (.int (zt (atT ms t) k)) S:=by
 obtain ⟨w,hsrc,hw⟩:=hW.src;have hl:(ms.map mvV).length<=1000000:=by rw [O3]; omega
 constructor
 ·have hc:Jc (Q6 0) W9 U0 w [none,some (.int t),some (.int k)] (ms.map mvV) S=.ok ((ms.filter fun m=>decide (m.t=(t:Int)) && decide (m.i=(k:Int))).map fun m=>.int m.k) S:=by
   refine Kj mvV (fun m=>.int m.k) (fun m=>decide (m.t=(t:Int)) && decide (m.i=(k:Int))) hw fun m _=>⟨_,rfl,?_,fun _=>?_⟩
   ·have i0:oIx S (mvV m) (.int 0)=.ok (.int m.t) S:=rfl;have i1:oIx S (mvV m) (.int 1)=.ok (.int m.i) S:=rfl;generalize mvV m=v at *
    by_cases q:m.t=(t:Int)
    ·by_cases z:m.i=(k:Int) <;> simp -implicitDefEqProofs [W9,i0,i1,q,z]
    ·simp -implicitDefEqProofs [W9,i0,q]
   ·have i3:oIx S (mvV m) (.int 3)=.ok (.int m.k) S:=rfl;generalize mvV m=v at i3 ⊢;simp -implicitDefEqProofs [U0,i3]
  have hs:=z8 (fun ns=>some (.int ns.sum)) S (ms.filter fun m=>decide (m.t=(t:Int)) && decide (m.i=(k:Int))) (fun m=>m.k)
  rw [Q7n] at hs;generalize ((ms.filter fun m=>decide (m.t=(t:Int)) && decide (m.i=(k:Int))).map fun m=>PV.int m.k)=ov at hsrc hl hc hs ⊢
  generalize ms.map mvV=mm at hsrc hl hc hs ⊢;generalize X0 (atT ms t) k=gs at hsrc hl hc hs ⊢;simp -implicitDefEqProofs [Wb,hsrc,hl,Qp,Zk,hc,hs,-Vp,-z8]
 ·have hc:Jc (Q6 0) W8 Vz w [none,some (.int t),some (.int k)] (ms.map mvV) S=.ok ((ms.filter fun m=>decide (m.t=(t:Int)) && decide (m.j=(k:Int))).map fun m=>.int m.k) S:=by
   refine Kj mvV (fun m=>.int m.k) (fun m=>decide (m.t=(t:Int)) && decide (m.j=(k:Int))) hw fun m _=>⟨_,rfl,?_,fun _=>?_⟩
   ·have i0:oIx S (mvV m) (.int 0)=.ok (.int m.t) S:=rfl;have i1:oIx S (mvV m) (.int 2)=.ok (.int m.j) S:=rfl;generalize mvV m=v at *
    by_cases q:m.t=(t:Int)
    ·by_cases z:m.j=(k:Int) <;> simp -implicitDefEqProofs [W8,i0,i1,q,z]
    ·simp -implicitDefEqProofs [W8,i0,q]
   ·have i3:oIx S (mvV m) (.int 3)=.ok (.int m.k) S:=rfl;generalize mvV m=v at i3 ⊢;simp -implicitDefEqProofs [Vz,i3]
  have hs:=z8 (fun ns=>some (.int ns.sum)) S (ms.filter fun m=>decide (m.t=(t:Int)) && decide (m.j=(k:Int))) (fun m=>m.k)
  rw [Q90] at hs;generalize ((ms.filter fun m=>decide (m.t=(t:Int)) && decide (m.j=(k:Int))).map fun m=>PV.int m.k)=ov at hsrc hl hc hs ⊢
  generalize ms.map mvV=mm at hsrc hl hc hs ⊢;generalize zt (atT ms t) k=gs at hsrc hl hc hs ⊢;simp -implicitDefEqProofs [Wa,hsrc,hl,Qp,Zk,hc,hs,-Vp,-z8]
def Y4 (n:Nat) (g:Nat->Int):List PV:=(List.range n).map fun k:Nat=>.int (g k)
theorem Qda {n k:Nat} (hk:k < n) (g:Nat->Int) (S:Q3):oIx S (.lst (Y4 n g)) (.int k)=.ok (.int (g k)) S:=Vu (.inl rfl) (by unfold Y4; rw [D6,List.getElem?_range hk]; rfl)
theorem jd3 {n:Nat} {X V A W:PV} {S:Q3} {h am mo:Int} {g w:Nat->Int}:∀ {ks:List Nat} {ys:List Int},(∀ k∈ks,k < n)->ys.length=n->∀ b7 b8 b9 b10 b11 b13 b16,
  (∀ zs,inn g w ks ys=some zs->∃ c16,Zr (Q6 16) Ju [] (ks.map fun k:Nat=>.int (k:Int)) (jdΓ X V A h am mo W b7 b8 b9 b10 b11 (some (.ref S.length)) b13 (some (.lst (Y4 n g))) (some (.lst (Y4 n w))) b16) (S ++ [.lst (ys.map .int)])=.nx (jdΓ X V A h am mo W b7 b8 b9 b10 b11 (some (.ref S.length)) b13 (some (.lst (Y4 n g))) (some (.lst (Y4 n w))) c16) (S ++ [.lst (zs.map .int)])) /\
  (inn g w ks ys=none->∃ T,Zr (Q6 16) Ju [] (ks.map fun k:Nat=>.int (k:Int)) (jdΓ X V A h am mo W b7 b8 b9 b10 b11 (some (.ref S.length)) b13 (some (.lst (Y4 n g))) (some (.lst (Y4 n w))) b16) (S ++ [.lst (ys.map .int)])=.rt (.bl false) (S ++ T))
 | [],ys,_,_,b7,b8,b9,b10,b11,b13,b16=>⟨fun zs e=>by cases e; exact ⟨b16,by simp [Zr]⟩,fun e=>by cases e⟩
 | k :: ks,ys,hk,hy,b7,b8,b9,b10,b11,b13,b16=>by
  have hkn:=hk k (by simp);have hL:(S ++ [Cell.lst (ys.map .int)])[S.length]?=some (.lst (ys.map .int)):=by simp
  have hix:oIx (S ++ [Cell.lst (ys.map .int)]) (.ref S.length) (.int k)=.ok (.int (ys.getD k 0)) (S ++ [Cell.lst (ys.map .int)]):=Vu (.inr (.inr ⟨_,rfl,hL⟩)) (by rw [D6,Zb (by omega) 0]; rfl);have hg:=Qda hkn g (S ++ [Cell.lst (ys.map .int)]);have hw:=Qda hkn w (S ++ [Cell.lst (ys.map .int)]);rw [O6,Zr,bS (by simp),show (Q6 16) (.int (k:Int)) (jdΓ X V A h am mo W b7 b8 b9 b10 b11 (some (.ref S.length)) b13 (some (.lst (Y4 n g))) (some (.lst (Y4 n w))) b16)=some (jdΓ X V A h am mo W b7 b8 b9 b10 b11 (some (.ref S.length)) b13 (some (.lst (Y4 n g))) (some (.lst (Y4 n w))) (some (.int k))) from rfl];rw [inn]
  by_cases q:ys.getD k 0 < g k
  ·rw [bS q];have bd:Ju (jdΓ X V A h am mo W b7 b8 b9 b10 b11 (some (.ref S.length)) b13 (some (.lst (Y4 n g))) (some (.lst (Y4 n w))) (some (.int k))) (S ++ [Cell.lst (ys.map .int)])=.rt (.bl false) (S ++ [Cell.lst (ys.map .int)]):=by
    unfold jdΓ;generalize ys.getD k 0=yk at hix hg q ⊢;generalize g k=gk at hix hg q ⊢;generalize Y4 n g=gv at hix hg q ⊢;generalize Y4 n w=wv at hix hg q ⊢;generalize S ++ [Cell.lst (ys.map .int)]=S1 at hix hg q ⊢;generalize S.length=sl at hix hg q ⊢;simp -implicitDefEqProofs [Ju,hix,hg,q,-Q5h,-Uz]
   simp only [bd];exact ⟨fun zs e=>(by cases e),fun _=>⟨_,rfl⟩⟩
  ·rw [bT q];obtain ⟨_,_,hset⟩:=Q0e (a:=(k:Int)) (d:=w k - g k) hL (by omega) (by omega);rw [Q23,show ((k:Int)).toNat=k by simp,show W4 ys (k:Int) (w k - g k)=ys.set k (ys.getD k 0 - g k + w k) by unfold W4; rw [show ((k:Int)).toNat=k by simp]; congr 1; omega,show ys.getD k 0 + (w k - g k)=ys.getD k 0 - g k + w k by omega] at hset;have bd:Ju (jdΓ X V A h am mo W b7 b8 b9 b10 b11 (some (.ref S.length)) b13 (some (.lst (Y4 n g))) (some (.lst (Y4 n w))) (some (.int k))) (S ++ [Cell.lst (ys.map .int)])=.nx (jdΓ X V A h am mo W b7 b8 b9 b10 b11 (some (.ref S.length)) b13 (some (.lst (Y4 n g))) (some (.lst (Y4 n w))) (some (.int k))) (S ++ [Cell.lst ((ys.set k (ys.getD k 0 - g k + w k)).map .int)]):=by
    unfold jdΓ;generalize S ++ [Cell.lst ((ys.set k (ys.getD k 0 - g k + w k)).map .int)]=S2 at hix hg hw q hset ⊢;generalize ys.getD k 0=yk at hix hg hw q hset ⊢;generalize g k=gk at hix hg hw q hset ⊢;generalize w k=wk at hix hg hw q hset ⊢;generalize Y4 n g=gv at hix hg hw q hset ⊢;generalize Y4 n w=wv at hix hg hw q hset ⊢;generalize S ++ [Cell.lst (ys.map .int)]=S1 at hix hg hw q hset ⊢;generalize S.length=sl at hix hg hw q hset ⊢;simp -implicitDefEqProofs [Ju,hix,hg,hw,q,hset,-Q5h,-Uz,-yj]
   simp only [bd];exact jd3 (fun j hj=>hk j (O7 _ hj)) (by rw [F9]; exact hy) b7 b8 b9 b10 b11 b13 _
theorem jd2 {n:Nat} (hn:n<=8) {xs0:List Int} (hx0:xs0.length=n) {V A W:PV} {S:Q3} {ms:List Mv4} (hin:∀ m∈ms,InN n m) (hml:ms.length<=100000) (hW:ListAt S W (ms.map mvV)) {h am mo:Int}:∀ {ts:List Nat} {ys:List Int},ys.length=n->∀ b7 b8 b9 b10 b11 b13 b14 b15 b16,
  (∀ zs,xc ms ts ys=some zs->∃ c13 c14 c15 c16,Zr (Q6 13) Jv [] (ts.map fun k:Nat=>.int (k:Int)) (jdΓ (.tup (xs0.map .int)) V A h am mo W b7 b8 b9 b10 b11 (some (.ref S.length)) b13 b14 b15 b16) (S ++ [.lst (ys.map .int)])=.nx (jdΓ (.tup (xs0.map .int)) V A h am mo W b7 b8 b9 b10 b11 (some (.ref S.length)) c13 c14 c15 c16) (S ++ [.lst (zs.map .int)])) /\
  (xc ms ts ys=none->∃ T,Zr (Q6 13) Jv [] (ts.map fun k:Nat=>.int (k:Int)) (jdΓ (.tup (xs0.map .int)) V A h am mo W b7 b8 b9 b10 b11 (some (.ref S.length)) b13 b14 b15 b16) (S ++ [.lst (ys.map .int)])=.rt (.bl false) (S ++ T))
 | [],ys,_,b7,b8,b9,b10,b11,b13,b14,b15,b16=>⟨fun zs e=>by cases e; exact ⟨b13,b14,b15,b16,by simp [Zr]⟩,fun e=>by cases e⟩
 | t :: ts,ys,hy,b7,b8,b9,b10,b11,b13,b14,b15,b16=>by
  have hW1:=Vj hW [Cell.lst (ys.map .int)];have c1:Jc (Q6 0) Ya Wb [] [none,some W,some (.int t)] (Zn 0 n) (S ++ [Cell.lst (ys.map .int)])=.ok (Y4 n (X0 (atT ms t))) (S ++ [Cell.lst (ys.map .int)]):=by
   rw [Wp];exact U1 _ _ (by simp) fun k _=>⟨_,rfl,(Qpw (n:=n) hW1 hml k t).1⟩
  have c2:Jc (Q6 0) Ya Wa [] [none,some W,some (.int t)] (Zn 0 n) (S ++ [Cell.lst (ys.map .int)])=.ok (Y4 n (zt (atT ms t))) (S ++ [Cell.lst (ys.map .int)]):=by
   rw [Wp];exact U1 _ _ (by simp) fun k _=>⟨_,rfl,(Qpw (n:=n) hW1 hml k t).2⟩
  have key:=jd3 (n:=n) (X:=.tup (xs0.map .int)) (V:=V) (A:=A) (W:=W) (S:=S) (h:=h) (am:=am) (mo:=mo) (g:=X0 (atT ms t)) (w:=zt (atT ms t)) (ks:=List.range n) (ys:=ys) (fun k hk=>by simpa using hk) hy b7 b8 b9 b10 b11 (some (.int t)) b16;rw [Q9a (Qfp hin t) hy,<- Wp] at key;have hln:∀ st,Zc st [.tup (xs0.map .int)]=.ok (.int n) st:=fun st=>by simp [hx0]
  have hb:-1000000<=(n:Int)/\(n:Int)<=1000000:=by omega
  rw [O6,Zr,bS (by simp),show (Q6 13) (.int (t:Int)) (jdΓ (.tup (xs0.map .int)) V A h am mo W b7 b8 b9 b10 b11 (some (.ref S.length)) b13 b14 b15 b16)=some (jdΓ (.tup (xs0.map .int)) V A h am mo W b7 b8 b9 b10 b11 (some (.ref S.length)) (some (.int t)) b14 b15 b16) from rfl];rw [xc];cases z:Uh ys (atT ms t) with
  | none=>
   obtain ⟨T,e⟩:=key.2 z;have bd:Jv (jdΓ (.tup (xs0.map .int)) V A h am mo W b7 b8 b9 b10 b11 (some (.ref S.length)) (some (.int t)) b14 b15 b16) (S ++ [Cell.lst (ys.map .int)])=.rt (.bl false) (S ++ T):=by
    unfold jdΓ at e ⊢;generalize Y4 n (X0 (atT ms t))=r1 at hln hb c1 c2 e ⊢;generalize Y4 n (zt (atT ms t))=r2 at hln hb c1 c2 e ⊢;generalize S ++ T=S9 at hln hb c1 c2 e ⊢;generalize S ++ [Cell.lst (ys.map .int)]=S1 at hln hb c1 c2 e ⊢;generalize S.length=sl at hln hb c1 c2 e ⊢;generalize xs0.map PV.int=xv at hln hb c1 c2 e ⊢;simp -implicitDefEqProofs [Jv,hln,hb,Qp,Zk,c1,c2,e,-Q87]
   simp only [bd];exact ⟨fun zs e=>(by cases e),fun _=>⟨_,rfl⟩⟩
  | some zs=>
   obtain ⟨c16,e⟩:=key.1 zs z;have bd:Jv (jdΓ (.tup (xs0.map .int)) V A h am mo W b7 b8 b9 b10 b11 (some (.ref S.length)) (some (.int t)) b14 b15 b16) (S ++ [Cell.lst (ys.map .int)])=.nx (jdΓ (.tup (xs0.map .int)) V A h am mo W b7 b8 b9 b10 b11 (some (.ref S.length)) (some (.int t)) (some (.lst (Y4 n (X0 (atT ms t))))) (some (.lst (Y4 n (zt (atT ms t))))) c16) (S ++ [Cell.lst (zs.map .int)]):=by
    unfold jdΓ at e ⊢;generalize Y4 n (X0 (atT ms t))=r1 at hln hb c1 c2 e ⊢;generalize Y4 n (zt (atT ms t))=r2 at hln hb c1 c2 e ⊢;generalize S ++ [Cell.lst (zs.map .int)]=S9 at hln hb c1 c2 e ⊢;generalize S ++ [Cell.lst (ys.map .int)]=S1 at hln hb c1 c2 e ⊢;generalize S.length=sl at hln hb c1 c2 e ⊢;generalize xs0.map PV.int=xv at hln hb c1 c2 e ⊢;simp -implicitDefEqProofs [Jv,hln,hb,Qp,Zk,c1,c2,e,-Q87]
   simp only [bd];exact jd2 hn hx0 hin hml hW ((jk z).trans hy) _ _ _ _ _ _ _ _ _
theorem Qbn {n:Nat} (hn:n<=8) {rss:List (List (Nat × Nat))} (hlen:rss.length<=40) (hrs:∀ rs∈rss,RsOk n rs) {V A W:PV} {S:Q3} (hV:ListAt S V (rss.map Qs)) {f:Nat->Option Nat} (hA:DicAt S A (Jk n f)) {h:Nat} (hh:h < n) {xs:List Int} (hx:xs.length=n) {ms:List Mv4} (hml:ms.length<=100000) (hW:ListAt S W (ms.map mvV)) (am mo:Int) :
  W5 [.tup (xs.map .int),V,A,.int h,.int am,.int mo,W] S=.ok (.bl (Q4g rss f h xs am mo ms)) S:=by
 have hlV:Zc S [V]=.ok (.int rss.length) S:=by
  have:=hV.len;rw [O3] at this;exact this
 have go:∀ (b:Bool) (T':Q3),Jf (jdΓ (.tup (xs.map .int)) V A h am mo W none none none none none none none none none none) S=.rt (.bl b) (S ++ T')->W5 [.tup (xs.map .int),V,A,.int h,.int am,.int mo,W] S=.ok (.bl b) S:=fun b T' e=>by
  show J2 Jf 17 _ S=_;unfold J2;rw [show (([.tup (xs.map .int),V,A,.int h,.int am,.int mo,W]:List PV).map some ++ List.replicate (17 - [.tup (xs.map .int),V,A,.int h,.int am,.int mo,W].length) none)=jdΓ (.tup (xs.map .int)) V A h am mo W none none none none none none none none none none from rfl,e];show fin S (.bl b) (S ++ T')=_;unfold fin;rw [bS (List.prefix_append S T')];simp [fz]
 unfold Q4g
 by_cases q1:0<=mo
 ·have q1':¬ mo < 0:=by omega
  by_cases q2:mo<=(rss.length:Int)
  ·have q2':¬ (rss.length:Int) < mo:=by omega
   rw [bV q1,bV q2,F5,F5];obtain ⟨w,hsrc,hw⟩:=hW.src;have hmm:(ms.map mvV).length<=1000000:=by rw [O3]; omega
   have key:=jd1 hrs hV hA q2 (X:=.tup (xs.map .int)) (W:=W) (h:=h) (am:=am) hw ms 0 (Int.le_refl _) none none none none none none none none none;rw [Qki] at key;rw [<- Bool.and_assoc];cases z:(!qh ms && ms.all (K0 rss f mo)) with
   | false=>
    have e:=key.2 z;refine go _ [] ?_;rw [L1,E8];unfold jdΓ at e ⊢;generalize ms.map mvV=mm at hlV q1' q2' hsrc hmm e ⊢;generalize rss.length=rl at hlV q1' q2' hsrc hmm e ⊢;generalize xs.map PV.int=xv at hlV q1' q2' hsrc hmm e ⊢;simp -implicitDefEqProofs [Jf,hlV,q1',q2',hsrc,hmm,Qp,e,-Vp]
   | true=>
    obtain ⟨c7,c8,c9,c10,c11,e⟩:=key.1 z;have hin:∀ m∈ms,InN n m:=fun m hm=>Qef hrs q2 (E9.mp (Bool.and_eq_true_iff.mp z).2 m hm)
    obtain ⟨mn,rfl⟩:∃ mn:Nat,mo=mn:=⟨mo.toNat,by omega⟩;have k2:=jd2 hn hx (V:=V) (A:=A) (S:=S) hin hml hW (h:=h) (am:=am) (mo:=mn) (ts:=List.range mn) hx c7 c8 c9 c10 c11 none none none none;rw [<- Wp] at k2;have hb:-1000000<=(mn:Int)/\(mn:Int)<=1000000:=by omega
    rw [F5,show ((mn:Int)).toNat=mn by simp];cases r:xc ms (List.range mn) xs with
    | none=>
     obtain ⟨T,e2⟩:=k2.2 r;refine go _ T ?_;unfold jdΓ at e e2 ⊢;generalize S ++ T=S9 at hlV q1' q2' hsrc hmm e hb e2 ⊢;generalize hS1:S ++ [Cell.lst (xs.map .int)]=S1 at hlV q1' q2' hsrc hmm e hb e2 ⊢;generalize ms.map mvV=mm at hlV q1' q2' hsrc hmm e hS1 hb e2 ⊢;generalize rss.length=rl at hlV q1' q2' hsrc hmm e hS1 hb e2 ⊢;generalize xs.map PV.int=xv at hlV q1' q2' hsrc hmm e hS1 hb e2 ⊢;simp -implicitDefEqProofs [Jf,hlV,q1',q2',hsrc,hmm,Qp,e,hS1,hb,e2,-Vp]
    | some ys=>
     obtain ⟨c13,c14,c15,c16,e2⟩:=k2.1 ys r;have hyl:=(Q31 r).trans hx;have hix:oIx (S ++ [Cell.lst (ys.map .int)]) (.ref S.length) (.int h)=.ok (.int (ys.getD h 0)) (S ++ [Cell.lst (ys.map .int)]):=Vu (xs:=ys.map .int) (.inr (.inr ⟨_,rfl,by simp⟩)) (by rw [D6,Zb (show h < ys.length by omega) 0]; rfl);refine go _ [Cell.lst (ys.map .int)] ?_;show _=SR.rt (.bl (decide (am<=ys.getD h 0))) _;unfold jdΓ at e e2 ⊢;generalize ys.getD h 0=yh at hlV q1' q2' hsrc hmm e hb e2 hix ⊢;generalize S ++ [Cell.lst (ys.map .int)]=S9 at hlV q1' q2' hsrc hmm e hb e2 hix ⊢;generalize hS1:S ++ [Cell.lst (xs.map .int)]=S1 at hlV q1' q2' hsrc hmm e hb e2 hix ⊢;generalize ms.map mvV=mm at hlV q1' q2' hsrc hmm e hS1 hb e2 hix ⊢;generalize rss.length=rl at hlV q1' q2' hsrc hmm e hS1 hb e2 hix ⊢;generalize xs.map PV.int=xv at hlV q1' q2' hsrc hmm e hS1 hb e2 hix ⊢;simp -implicitDefEqProofs [Jf,hlV,q1',q2',hsrc,hmm,Qp,e,hS1,hb,e2,hix,-Vp,-Uz]
  ·have q2':(rss.length:Int) < mo:=by omega
   rw [bU q2,Bool.and_false,E8];refine go _ [] ?_;rw [L1];unfold jdΓ;generalize rss.length=rl at hlV q1' q2' ⊢;generalize xs.map PV.int=xv at hlV q1' q2' ⊢;simp -implicitDefEqProofs [Jf,hlV,q1',q2']
 ·have q1':mo < 0:=by omega
  rw [bU q1,E8,E8];refine go _ [] ?_;rw [L1];unfold jdΓ;generalize xs.map PV.int=xv at q1' ⊢;simp -implicitDefEqProofs [Jf,q1']
abbrev thΓ (X V A:PV) (h mo:Int) (W:PV) (z:Int) (b7 b8 b9 b10:Option PV):Gam:=[some X,some V,some A,some (.int h),some (.int mo),some W,some (.int z),b7,b8,b9,b10]
theorem Qcu {n:Nat} {xs:List Int} (hx:xs.length=n) {h:Nat} (hh:h < n) {V A W:PV} {S:Q3} {ms:List Mv4} (hml:ms.length<=100000) (hW:ListAt S W (ms.map mvV)) (mo:Int):∃ z:Int,U3 [.tup (xs.map .int),V,A,.int h,.int mo,W] S=.ok (.int z) S:=by
 obtain ⟨w,hsrc,hw⟩:=hW.src;have hmm:(ms.map mvV).length<=1000000:=by rw [O3]; omega
 have hix:oIx S (.tup (xs.map .int)) (.int h)=.ok (.int (xs.getD h 0)) S:=by
  have e:oIx S (.tup (xs.map .int)) (.int h)=okO S (atI (xs.map PV.int) (h:Int)):=rfl;rw [e,qd,Sm.atI_get (Zb (by omega) 0)]; rfl
 obtain ⟨Γ',S',e,z,b7,b8,b9,b10,rfl,hS'⟩:=Vx (g:=mvV) (xs:=ms) (ga:=Jn (Qb (Q6 7) (Qb (Q6 8) (Qb (Q6 9) (Qb (Q6 10) Jp))))) (body:=Ji) (w:=w) (Γ:=thΓ (.tup (xs.map .int)) V A h mo W (xs.getD h 0) none none none none) (st:=S)
  (fun _ Γ st'=>∃ z b7 b8 b9 b10,Γ=thΓ (.tup (xs.map .int)) V A h mo W z b7 b8 b9 b10/\st'=S)
  (fun _ _ _ ⟨_,_,_,_,_,_,e⟩=>by rw [e]; exact hw)
  (fun i m Γ st' hx ⟨z,b7,b8,b9,b10,g1,g2⟩=>by
   subst g1;obtain ⟨t,i,j,k⟩:=m;have:∃ z',Ji (thΓ (.tup (xs.map .int)) V A h mo W z (some (.int t)) (some (.int i)) (some (.int j)) (some (.int k))) st'=.nx (thΓ (.tup (xs.map .int)) V A h mo W z' (some (.int t)) (some (.int i)) (some (.int j)) (some (.int k))) st':=by
    unfold thΓ;generalize xs.map PV.int=xv at *
    by_cases q:t < mo
    ·by_cases p:j=(h:Int)
     ·by_cases r:i=(h:Int)
      ·exact ⟨z + k - k,by simp -implicitDefEqProofs [Ji,q,p,r]⟩
      ·exact ⟨z + k,by simp -implicitDefEqProofs [Ji,q,p,r]⟩
     ·by_cases r:i=(h:Int)
      ·exact ⟨z - k,by simp -implicitDefEqProofs [Ji,q,p,r]⟩
      ·exact ⟨z,by simp -implicitDefEqProofs [Ji,q,p,r]⟩
    ·exact ⟨z,by simp -implicitDefEqProofs [Ji,q]⟩
   obtain ⟨z',e'⟩:=this;exact ⟨_,rfl,_,_,e',z',_,_,_,_,rfl,g2⟩)
  ⟨_,_,_,_,_,rfl,rfl⟩
 rw [hS'] at e;clear hS';refine ⟨z,?_⟩;have step:Wg [some (.tup (xs.map .int)),some V,some A,some (.int h),some (.int mo),some W,none,none,none,none,none] S=.rt (.int z) S:=by
  unfold thΓ at e;generalize xs.getD h 0=x at hix hsrc hmm e ⊢;generalize ms.map mvV=mm at hix hsrc hmm e ⊢;generalize xs.map PV.int=xv at hix hsrc hmm e ⊢;simp -implicitDefEqProofs [Wg,hix,hsrc,hmm,Qp,e,-Vp,-Q5g]
 show J2 Wg 11 _ S=_;unfold J2;rw [show (([.tup (xs.map .int),V,A,.int h,.int mo,W]:List PV).map some ++ List.replicate (11 - [.tup (xs.map .int),V,A,.int h,.int mo,W].length) none)=[some (.tup (xs.map .int)),some V,some A,some (.int h),some (.int mo),some W,none,none,none,none,none] from rfl,step];simp [fin,fz]
theorem Q1f {α:Type} (g:α->PV) (J:Gam->Prop) (Rt:PV->Q3->Prop) {ga:GA} {body:MS} {w:Wt} {st:Q3} (hw:wOk w st):∀ {xs:List α},(∀ x∈xs,∀ Γ,J Γ->∃ Γ1,ga (g x) Γ=some Γ1/\((∃ Γ2,J Γ2/\body Γ1 st=.nx Γ2 st)\/∃ v st',Rt v st'/\body Γ1 st=.rt v st')) ->
  ∀ Γ,J Γ->(∃ Γ',J Γ'/\Zr ga body w (xs.map g) Γ st=.nx Γ' st)\/∃ v st',Rt v st'/\Zr ga body w (xs.map g) Γ st=.rt v st'
 | [],_,Γ,hJ=>.inl ⟨Γ,hJ,by rw [List.map_nil,Zr,bS hw]⟩
 | x :: xs,h,Γ,hJ=>by
  obtain ⟨Γ1,h1,h2⟩:=h x D9 Γ hJ;rw [O6,Zr,bS hw,h1];rcases h2 with ⟨Γ2,j2,e2⟩ | ⟨v,st',r,e⟩
  ·simp only [e2];exact Q1f g J Rt hw (fun y hy=>h y (O7 _ hy)) Γ2 j2
  ·simp only [e];exact .inr ⟨v,st',r,rfl⟩
abbrev rlΓ (V:PV) (xs:List Int) (b2 b3 b4 b5 b6 b7:Option PV):Gam:=[some V,some (.tup (xs.map .int)),b2,b3,b4,b5,b6,b7]
theorem Qcs {xs:List Int} {k:Nat} (hk:k < xs.length) (S:Q3):oIx S (.tup (xs.map .int)) (.int k)=.ok (.int (xs.getD k 0)) S:=by
 have e:oIx S (.tup (xs.map .int)) (.int k)=okO S (atI (xs.map PV.int) (k:Int)):=rfl;rw [e,qd,Sm.atI_get (Zb hk 0)]; rfl
def MvR (S:Q3) (v:PV) (st':Q3):Prop:=∃ ms:List Mv4,v=.lst (ms.map mvV)/\ms.length<=2/\st'=S
theorem Qde {n:Nat} {rss:List (List (Nat × Nat))} (hlen:rss.length<=40) (hrs:∀ rs∈rss,RsOk n rs) {V:PV} {S:Q3} (hV:ListAt S V (rss.map Qs)) {xs:List Int} (hx:xs.length=n):∃ ms:List Mv4,ms.length<=2/\Yx [V,.tup (xs.map .int)] S=.ok (.lst (ms.map mvV)) S:=by
 obtain ⟨w,hsrc,hw⟩:=hV.src;have key:=Q1f (g:=fun p:List (Nat × Nat) × Nat=>PV.tup [.int (p.2:Nat),Qs p.1]) (J:=fun Γ=>∃ b2 b3 b4 b5 b6 b7,Γ=rlΓ V xs b2 b3 b4 b5 b6 b7) (Rt:=MvR S) (ga:=Jn (Qb (Q6 2) (Qb (Q6 3) Jp))) (body:=Zx) (w:=w) (st:=S) hw (xs:=rss.zipIdx) (fun p hp Γ ⟨b2,b3,b4,b5,b6,b7,e⟩=>by
  subst e;obtain ⟨rs,t⟩:=p;have hr:=hrs rs (List.fst_mem_of_mem_zipIdx hp);have hrl:(rs.map rdV).length<=1000000:=by rw [O3]; have:=hr.len; omega
  refine ⟨_,rfl,?_⟩;show (∃ Γ2,_/\Zx (rlΓ V xs (some (.int t)) (some (Qs rs)) b4 b5 b6 b7) S=.nx Γ2 S)\/∃ v st',_/\Zx (rlΓ V xs (some (.int t)) (some (Qs rs)) b4 b5 b6 b7) S=.rt v st';have k1:=Q1f (g:=rdV) (J:=fun Γ=>∃ b4 b5 b6 b7,Γ=rlΓ V xs (some (.int t)) (some (Qs rs)) b4 b5 b6 b7) (Rt:=MvR S) (ga:=Jn (Qb (Q6 4) (Qb (Q6 5) Jp))) (body:=Zw) (w:=[]) (st:=S) (by simp) (xs:=rs) (fun r hr1 Γ ⟨b4,b5,b6,b7,e⟩=>by
   subst e;obtain ⟨i,j⟩:=r;have ho:=hr.ok _ hr1;refine ⟨_,rfl,?_⟩;show (∃ Γ2,_/\Zw (rlΓ V xs (some (.int t)) (some (Qs rs)) (some (.int i)) (some (.int j)) b6 b7) S=.nx Γ2 S)\/∃ v st',_/\Zw (rlΓ V xs (some (.int t)) (some (Qs rs)) (some (.int i)) (some (.int j)) b6 b7) S=.rt v st';have k2:=Q1f (g:=rdV) (J:=fun Γ=>∃ b6 b7,Γ=rlΓ V xs (some (.int t)) (some (Qs rs)) (some (.int i)) (some (.int j)) b6 b7) (Rt:=MvR S) (ga:=Jn (Qb (Q6 6) (Qb (Q6 7) Jp))) (body:=Zd) (w:=[]) (st:=S) (by simp) (xs:=rs) (fun r2 hr2 Γ ⟨b6,b7,e⟩=>by
    subst e;obtain ⟨o,to⟩:=r2;have x1:=Qcs (xs:=xs) (k:=i) (by rw [hx]; exact ho.1) S;have x2:=Qcs (xs:=xs) (k:=j) (by rw [hx]; exact ho.2.1) S;refine ⟨_,rfl,?_⟩;show (∃ Γ2,_/\Zd (rlΓ V xs (some (.int t)) (some (Qs rs)) (some (.int i)) (some (.int j)) (some (.int o)) (some (.int to))) S=.nx Γ2 S)\/∃ v st',_/\Zd (rlΓ V xs (some (.int t)) (some (Qs rs)) (some (.int i)) (some (.int j)) (some (.int o)) (some (.int to))) S=.rt v st'
    by_cases q:o=j
    ·by_cases p:0 < xs.getD i 0
     ·refine .inr ⟨.lst ([⟨t,i,j,xs.getD i 0⟩,⟨t,j,to,xs.getD j 0 + xs.getD i 0⟩].map mvV),S,⟨_,rfl,by simp,rfl⟩,?_⟩;show _=SR.rt (.lst [.tup [.int t,.int i,.int j,.int (xs.getD i 0)],.tup [.int t,.int j,.int to,.int (xs.getD j 0 + xs.getD i 0)]]) S;unfold rlΓ;generalize xs.getD i 0=xi at *;generalize xs.getD j 0=xj at *;generalize Qs rs=rv at *;generalize xs.map PV.int=xv at *;simp -implicitDefEqProofs [Zd,q,p,x1,x2,Qp,-Q5g]
     ·refine .inl ⟨rlΓ V xs (some (.int t)) (some (Qs rs)) (some (.int i)) (some (.int j)) (some (.int o)) (some (.int to)),⟨_,_,rfl⟩,?_⟩;unfold rlΓ;generalize xs.getD i 0=xi at *;generalize Qs rs=rv at *;generalize xs.map PV.int=xv at *;simp -implicitDefEqProofs [Zd,q,p,x1,-Q5g]
    ·refine .inl ⟨rlΓ V xs (some (.int t)) (some (Qs rs)) (some (.int i)) (some (.int j)) (some (.int o)) (some (.int to)),⟨_,_,rfl⟩,?_⟩;have q':¬ ((o:Int)=(j:Int)):=by omega
     unfold rlΓ;generalize Qs rs=rv at *;generalize xs.map PV.int=xv at *;simp -implicitDefEqProofs [Zd,q,q']) (rlΓ V xs (some (.int t)) (some (Qs rs)) (some (.int i)) (some (.int j)) b6 b7) ⟨_,_,rfl⟩
   rcases k2 with ⟨Γ',⟨b6,b7,rfl⟩,e⟩ | ⟨v,st',r,e⟩
   ·refine .inl ⟨rlΓ V xs (some (.int t)) (some (Qs rs)) (some (.int i)) (some (.int j)) b6 b7,⟨_,_,_,_,rfl⟩,?_⟩;unfold rlΓ Qs at e ⊢;generalize rs.map rdV=rv at *;generalize xs.map PV.int=xv at *;simp -implicitDefEqProofs [Zw,hrl,Qp,e]
   ·refine .inr ⟨v,st',r,?_⟩;unfold rlΓ Qs at e ⊢;generalize rs.map rdV=rv at *;generalize xs.map PV.int=xv at *;simp -implicitDefEqProofs [Zw,hrl,Qp,e]) (rlΓ V xs (some (.int t)) (some (Qs rs)) b4 b5 b6 b7) ⟨_,_,_,_,rfl⟩
  rcases k1 with ⟨Γ',⟨b4,b5,b6,b7,rfl⟩,e⟩ | ⟨v,st',r,e⟩
  ·refine .inl ⟨rlΓ V xs (some (.int t)) (some (Qs rs)) b4 b5 b6 b7,⟨_,_,_,_,_,_,rfl⟩,?_⟩;unfold rlΓ Qs at e ⊢;generalize rs.map rdV=rv at *;generalize xs.map PV.int=xv at *;simp -implicitDefEqProofs [Zx,hrl,Qp,e]
  ·refine .inr ⟨v,st',r,?_⟩;unfold rlΓ Qs at e ⊢;generalize rs.map rdV=rv at *;generalize xs.map PV.int=xv at *;simp -implicitDefEqProofs [Zx,hrl,Qp,e]) (rlΓ V xs none none none none none none) ⟨_,_,_,_,_,_,rfl⟩
 have hen:(rss.zipIdx.map fun p:List (Nat × Nat) × Nat=>PV.tup [.int (p.2:Nat),Qs p.1])=X1 0 (rss.map Qs):=by
  have gen:∀ (l:List (List (Nat × Nat))) (k:Nat),((l.zipIdx k).map fun p:List (Nat × Nat) × Nat=>PV.tup [.int (p.2:Nat),Qs p.1])=X1 (k:Nat) (l.map Qs):=by
   intro l
   induction l with
   | nil=>intro k; rfl
   | cons a l ih=>
    intro k;rw [List.zipIdx_cons,O6,ih];rfl
  exact gen rss 0
 rw [hen] at key;have hl:(rss.map Qs).length<=1000000:=by rw [O3]; omega
 have go:∀ v,Yt [some V,some (.tup (xs.map .int)),none,none,none,none,none,none] S=.rt v S->∀ ms:List Mv4,v=.lst (ms.map mvV)->Yx [V,.tup (xs.map .int)] S=.ok (.lst (ms.map mvV)) S:=fun v e ms hv=>by
  show J2 Yt 8 _ S=_;unfold J2;rw [show (([V,.tup (xs.map .int)]:List PV).map some ++ List.replicate (8 - [V,.tup (xs.map .int)].length) none)=[some V,some (.tup (xs.map .int)),none,none,none,none,none,none] from rfl,e,hv];show fin S _ S=_;unfold fin;rw [bS (List.prefix_refl S),xg (m:=2) (by simp [Jq,mvV,Qct]) (by decide)]; rfl
 rcases key with ⟨Γ',⟨b2,b3,b4,b5,b6,b7,rfl⟩,e⟩ | ⟨v,st',⟨ms,hv,hm,hs⟩,e⟩
 ·refine ⟨[],by simp,go (.lst []) ?_ [] rfl⟩;unfold rlΓ at e;generalize rss.map Qs=rv at *;generalize xs.map PV.int=xv at *;simp -implicitDefEqProofs [Yt,hsrc,hl,Qp,e,-Vp]
 ·rw [hs] at e;refine ⟨ms,hm,go v ?_ ms hv⟩;unfold rlΓ at e;generalize rss.map Qs=rv at *;generalize xs.map PV.int=xv at *;simp -implicitDefEqProofs [Yt,hsrc,hl,Qp,e,-Vp]
theorem Qfx {ns:List Int} {S:Q3} {L:Nat} (T:TapeAt S L ns) (n:Nat) (hn:n<=8):∃ (xs:List Int) (S':Q3),TapeAt S' L ns/\Mv L S S'/\xs.length=n/\(∀ x∈xs,0<=x/\x<=100000000000000000000000000006)/\Ui [.ref L,.int n] S=.ok (.tup (xs.map .int)) S':=by
 obtain ⟨d,S1,hd,T1,M1,e1⟩:=Jt T 4 (by decide) (by decide);rw [show ((4:Nat):Int)=4 from rfl] at e1;obtain ⟨far,hf1,hf2,hfar⟩:∃ far:Nat,1<=far/\far<=100000000000000000000000000000/\atI [PV.int 4,.int 11,.int 1000,.int 100000000000000000000000000000] (d:Int)=some (.int far):=by
  have:d=0\/d=1\/d=2\/d=3:=by omega
  rcases this with rfl | rfl | rfl | rfl
  ·exact ⟨4,by decide,by decide,rfl⟩
  ·exact ⟨11,by decide,by decide,rfl⟩
  ·exact ⟨1000,by decide,by decide,rfl⟩
  ·exact ⟨100000000000000000000000000000,by decide,by decide,rfl⟩
 have one:∀ (k:Int) (st:Q3),TapeAt st L ns->∃ (x:Int) (st':Q3),TapeAt st' L ns/\Mv L st st'/\(0<=x/\x<=100000000000000000000000000006)/\V5 [some (.int k),some (.ref L),some (.int far)] st=.ok (.int x) st':=fun k st T=>by
  obtain ⟨a,s1,ha,t1,m1,q1⟩:=Jt T 3 (by decide) (by decide);obtain ⟨b,s2,hb,t2,m2,q2⟩:=Jt t1 7 (by decide) (by decide);obtain ⟨c,s3,hc,t3,m3,q3⟩:=Jt t2 far hf1 (by omega);rw [show ((3:Nat):Int)=3 from rfl] at q1;rw [show ((7:Nat):Int)=7 from rfl] at q2;have h2:(a:Int) / 2=0\/(a:Int) / 2=1:=by omega
  refine ⟨(a:Int) / 2 * b + c,s3,t3,(m1.trans m2).trans m3,?_,?_⟩
  ·rcases h2 with h2 | h2 <;> rw [h2] <;> omega
  ·have hmul:=Q71 s2 ((a:Int) / 2) b;rw [bS (Or.inr ⟨by omega,by omega⟩)] at hmul;generalize (a:Int) / 2 * (b:Int)=ab at q1 q2 q3 hmul ⊢;simp -implicitDefEqProofs [V5,q1,q2,q3,hmul,-Q71]
 obtain ⟨out,S2,e2,xs,hxs,T2,M2,hl,hb⟩:=Qc6 (g:=fun k:Nat=>PV.int (k:Int)) (xs:=List.range n) (fun i out st=>∃ xs:List Int,out=xs.map .int/\TapeAt st L ns/\Mv L S1 st/\xs.length=i/\∀ x∈xs,0<=x/\x<=100000000000000000000000000006) (ga:=Q6 0) (me:=V5) (w:=[]) (Γ0:=[none,some (.ref L),some (.int far)]) (fun _ _ _ _=>by simp)
  (fun i k out st hk ⟨xs,hxs,T',M',hl,hb⟩=>by
   obtain ⟨x,st',T2,M2,hx,e⟩:=one k st T';refine ⟨_,rfl,_,st',e,xs ++ [x],by rw [E5,hxs]; rfl,T2,M'.trans M2,by rw [D0,hl]; rfl,fun y hy=>?_⟩;rcases E3.mp hy with hy | hy
   ·exact hb y hy
   ·rw [F3.mp hy]; exact hx)
  (st:=S1) ⟨[],rfl,T1,Mv.refl _ _,rfl,fun x hx=>by cases hx⟩
 rw [F8] at hl;rw [<- Wp] at e2;subst hxs;refine ⟨xs,S2,T2,M1.trans M2,hl,hb,?_⟩;have hbn:-1000000<=(n:Int)/\(n:Int)<=1000000:=by omega
 have step:Wz [some (.ref L),some (.int n),none] S=.rt (.tup (xs.map .int)) S2:=by
  generalize xs.map PV.int=xv at e1 hfar hbn e2 ⊢;simp -implicitDefEqProofs [Wz,e1,hfar,Qp,hbn,Zk,e2]
 show Wc Wz 3 _ S=_;unfold Wc;rw [show (([.ref L,.int n]:List PV).map some ++ List.replicate (3 - [PV.ref L,.int n].length) none)=[some (.ref L),some (.int n),none] from rfl,step]
theorem Q9u:∀ {xs:List Int} {k:Nat} (_:k < xs.length) (v:Int),(xs.set k v).sum=xs.sum + v - xs.getD k 0
 | x :: xs,0,_,v=>by simp; omega
 | x :: xs,k + 1,h,v=>by
  have:=Q9u (xs:=xs) (k:=k) (by simpa using h) v;simp only [List.set_cons_succ,List.sum_cons,List.getD_cons_succ] at this ⊢;omega
theorem Q88 {xs:List Int} {a:Int} (h0:0<=a) (hl:a < xs.length) (d:Int):(W4 xs a d).sum=xs.sum + d:=by
 unfold W4;rw [Q9u (by omega)];omega
theorem y6:∀ {xs:List Int} (_:∀ k,0<=xs.getD k 0) (k:Nat),xs.getD k 0<=xs.sum
 | [],_,k=>by simp
 | x :: xs,h,0=>by
  have hx:0<=x:=h 0;have ih:=y6 (xs:=xs) (fun k=>by have:=h (k + 1); simpa using this) 0
  have h1:0<=xs.getD 0 0:=by have:=h 1; simpa using this
  simp only [List.getD_cons_zero,List.sum_cons];omega
 | x :: xs,h,k + 1=>by
  have hx:0<=x:=h 0;have ih:=y6 (xs:=xs) (fun k=>by have:=h (k + 1); simpa using this) k
  simp only [List.getD_cons_succ,List.sum_cons];omega
structure SMo (ns:List Int) (n:Nat) (f:Nat->Option Nat) (rss:List (List (Nat × Nat))) (L R A Hh Mm:Nat) (S:Q3) (ys:List Int) (ms:List Mv4):Prop where
 T:TapeAt S L ns
 R:S[R]?=some (.lst (rss.map Qs))
 A:S[A]?=some (.dic (Jk n f))
 H:S[Hh]?=some (.lst (ys.map .int))
 hl:ys.length=n
 pos:∀ k,0<=ys.getD k 0
 sum:ys.sum<=800000000000000000000000000048
 M:S[Mm]?=some (.lst (ms.map mvV))
theorem SMo.mv {ns:List Int} {n:Nat} {f:Nat->Option Nat} {rss:List (List (Nat × Nat))} {L R A Hh Mm:Nat} {S S':Q3} {ys:List Int} {ms:List Mv4} (s:SMo ns n f rss L R A Hh Mm S ys ms) (hR:R≠L) (hA:A≠L) (hH:Hh≠L) (hM:Mm≠L) (T':TapeAt S' L ns) (m:Mv L S S'):SMo ns n f rss L R A Hh Mm S' ys ms:=
 ⟨T',by rw [m.keep R hR]; exact s.R,by rw [m.keep A hA]; exact s.A,by rw [m.keep Hh hH]; exact s.H,s.hl,s.pos,s.sum,by rw [m.keep Mm hM]; exact s.M⟩
abbrev smΓ (L:Nat) (X:PV) (R A Hh Mm t:Nat) (one:PV) (Lf st i j:Nat) (b12:Option PV):Gam:=[some (.ref L),some X,some (.ref R),some (.ref A),some (.ref Hh),some (.ref Mm),some (.int t),some one,some (.ref Lf),some (.int st),some (.int i),some (.int j),b12]
def LeL (n:Nat) (ls ys:List Int):Prop:=ls.length=n/\∀ k,0<=ls.getD k 0/\ls.getD k 0<=ys.getD k 0
structure Dis (L R A Hh Mm Lf:Nat):Prop where
 a:R≠L/\A≠L/\Hh≠L/\Mm≠L/\Lf≠L
 b:Hh≠R/\Hh≠A/\Hh≠Mm/\Hh≠Lf
 c:Mm≠R/\Mm≠A/\Mm≠Lf
 d:Lf≠R/\Lf≠A
theorem Qg2 {ns:List Int} {n:Nat} {f:Nat->Option Nat} {rss:List (List (Nat × Nat))} {L R A Hh Mm Lf:Nat} (D:Dis L R A Hh Mm Lf) {S:Q3} {ys:List Int} {ms:List Mv4} (s:SMo ns n f rss L R A Hh Mm S ys ms) {ls:List Int} (hL:S[Lf]?=some (.lst (ls.map .int))) (hle:LeL n ls ys) (hml:ms.length<=10000) {X one:PV} {t st i j:Nat} (hi:i < n) (hj:j < n) (b12:Option PV) :
  ∃ c12 S' ys' ms' ls',Qu (smΓ L X R A Hh Mm t one Lf st i j b12) S=.nx (smΓ L X R A Hh Mm t one Lf st i j c12) S'/\SMo ns n f rss L R A Hh Mm S' ys' ms'/\S'[Lf]?=some (.lst (List.map PV.int ls'))/\LeL n ls' ys'/\ms'.length<=ms.length + 1:=by
 have g:Xk S (.ref A) (.int i)=.ok (moV (f i)) S:=xt ⟨_,rfl,.inl s.A⟩ hi;have hxl:oIx S (.ref Lf) (.int i)=.ok (.int (ls.getD i 0)) S:=Vu (xs:=ls.map .int) (.inr (.inr ⟨_,rfl,hL⟩)) (by rw [D6,Zb (show i < ls.length by rw [hle.1]; exact hi) 0]; rfl);have same:Qu (smΓ L X R A Hh Mm t one Lf st i j b12) S=.nx (smΓ L X R A Hh Mm t one Lf st i j b12) S->∃ c12 S' ys' ms' ls',Qu (smΓ L X R A Hh Mm t one Lf st i j b12) S=.nx (smΓ L X R A Hh Mm t one Lf st i j c12) S'/\SMo ns n f rss L R A Hh Mm S' ys' ms'/\S'[Lf]?=some (.lst (List.map PV.int ls'))/\LeL n ls' ys'/\ms'.length<=ms.length + 1:=fun e=>⟨_,S,ys,ms,ls,e,s,hL,hle,by omega⟩
 cases z:f i with
 | none=>
  refine same ?_;rw [z] at g;have g:Xk S (.ref A) (.int i)=.ok .non S:=g;unfold smΓ;simp -implicitDefEqProofs [Qu,g,Qpi]
 | some b=>
  rw [z] at g;have g:Xk S (.ref A) (.int i)=.ok (.int b) S:=g
  by_cases q1:b<=t
  ·by_cases q2:0 < ls.getD i 0
   ·obtain ⟨d,S1,hd,T1,M1,e1⟩:=Jt s.T 3 (by decide) (by decide);rw [show ((3:Nat):Int)=3 from rfl] at e1;have s1:=s.mv D.a.1 D.a.2.1 D.a.2.2.1 D.a.2.2.2.1 T1 M1;have hL1:S1[Lf]?=some (.lst (ls.map .int)):=by rw [M1.keep Lf D.a.2.2.2.2]; exact hL
    by_cases q3:d=0
    ·subst q3;refine ⟨b12,S1,ys,ms,ls,?_,s1,hL1,hle,by omega⟩;rw [show ((0:Nat):Int)=0 from rfl] at e1;unfold smΓ;generalize ls.getD i 0=x at g q1 hxl q2 e1 ⊢;simp -implicitDefEqProofs [Qu,g,Qe9,q1,hxl,q2,e1,-Uz]
    ·have q3':(0:Int) < d:=by omega
     have q3n:0 < d:=by omega
     have cond:(Vf (toB (mOp Uv (Vt (Q4 3) (Q4 10)) (mC .non))) (Vf (toB (mOp (oI fun a b=>.bl (decide (a<=b))) (Vt (Q4 3) (Q4 10)) (Q4 6))) (Vf (toB (mOp (oI fun a b=>.bl (decide (b < a))) (mOp oIx (Q4 8) (Q4 10)) (mC (.int 0)))) (toB (mOp (oI fun a b=>.bl (decide (b < a))) (Qi 2 Qc (Q2 (Q4 0) (Q2 (mC (.int 3)) Q9))) (mC (.int 0))))))) (smΓ L X R A Hh Mm t one Lf st i j b12) S=.ok true S1:=by
      unfold smΓ;generalize ls.getD i 0=x at g q1 hxl q2 e1 q3' q3n ⊢;simp -implicitDefEqProofs [g,Qe9,q1,hxl,q2,e1,q3',q3n,-Uz]
     obtain ⟨lm,hlm⟩:∃ lm:Nat,ls.getD i 0=lm:=⟨(ls.getD i 0).toNat,by omega⟩;have hbd:lm < 1267650600228229401496703205376:=by
      have h1:=(hle.2 i).2;have h2:=y6 s.pos i;have h3:=s.sum;omega
     have ixS:∀ S2,S2[Lf]?=some (.lst (ls.map .int))->oIx S2 (.ref Lf) (.int i)=.ok (.int lm) S2:=fun S2 h=>by
      rw [<- hlm];exact Vu (xs:=ls.map .int) (.inr (.inr ⟨_,rfl,h⟩)) (by rw [D6,Zb (show i < ls.length by rw [hle.1]; exact hi) 0]; rfl)
     have t1:Qy 12 (mOp oIx (Q4 8) (Q4 10)) (smΓ L X R A Hh Mm t one Lf st i j b12) S1=.nx (smΓ L X R A Hh Mm t one Lf st i j (some (.int lm))) S1:=W7 (J6 rfl rfl (ixS S1 hL1));obtain ⟨many,S3,m1,m2,T3,M3,t2⟩:∃ (many:Int) (S3:Q3),1<=many/\many<=lm/\TapeAt S3 L ns/\Mv L S1 S3/\Z6 (toB (mOp oEq (Qi 2 Qc (Q2 (Q4 0) (Q2 (mC (.int 2)) Q9))) (mC (.int 0)))) (Qy 12 (mOp J9 (mC (.int 1)) (Qi 2 Qc (Q2 (Q4 0) (Q2 (mOp oIx (Q4 8) (Q4 10)) Q9))))) J5 (smΓ L X R A Hh Mm t one Lf st i j (some (.int lm))) S1=.nx (smΓ L X R A Hh Mm t one Lf st i j (some (.int many))) S3:=by
      obtain ⟨d2,S2,hd2,T2,M2,e2⟩:=Jt T1 2 (by decide) (by decide);rw [show ((2:Nat):Int)=2 from rfl] at e2
      by_cases w:d2=0
      ·subst w;obtain ⟨d3,S3,hd3,T3,M3,e3⟩:=Jt T2 lm (by omega) hbd;have h:=ixS S2 (by rw [M2.keep Lf D.a.2.2.2.2]; exact hL1);refine ⟨1 + d3,S3,by omega,by omega,T3,M2.trans M3,?_⟩;rw [show ((0:Nat):Int)=0 from rfl] at e2;exact Q5s (Zy (J6 (Ye rfl rfl e2) rfl rfl)) (W7 (J6 rfl (Ye (V6 rfl (V6 (J6 rfl rfl h) rfl)) rfl e3) rfl))
      ·have w':¬ ((d2:Int)=0):=by omega
       refine ⟨lm,S2,by omega,by omega,T2,M2,?_⟩;unfold smΓ;simp -implicitDefEqProofs [e2,w,w']
     have s3:=s1.mv D.a.1 D.a.2.1 D.a.2.2.1 D.a.2.2.2.1 T3 M3;have hL3:S3[Lf]?=some (.lst (ls.map .int)):=by rw [M3.keep Lf D.a.2.2.2.2]; exact hL1
     have hil:(i:Int) < ls.length:=by rw [hle.1]; omega
     have hiy:(i:Int) < ys.length:=by rw [s.hl]; omega
     obtain ⟨_,_,u1⟩:=Q0e (d:=-many) hL3 (show (0:Int)<=i by omega) hil;rw [show ((i:Int)).toNat=i by simp] at u1;obtain ⟨S4,hS4⟩:∃ S4,S3.set Lf (.lst ((W4 ls i (-many)).map .int))=S4:=⟨_,rfl⟩;have hLl:=(O0.mp hL3).1;have k4:∀ x,x≠Lf->S4[x]?=S3[x]?:=fun x hx=>by rw [<- hS4,D8 (fun e=>hx e.symm)]
     have l4:S4[Lf]?=some (.lst ((W4 ls i (-many)).map .int)):=by rw [<- hS4]; exact D7 hLl
     rw [hS4,hlm] at u1;have t3:Vb (Q4 8) (Q4 10) (mOp (oI fun a b=>.int (a - b)) (mOp oIx (Q4 8) (Q4 10)) (Q4 12)) (smΓ L X R A Hh Mm t one Lf st i j (some (.int many))) S3=.nx (smΓ L X R A Hh Mm t one Lf st i j (some (.int many))) S4:=Q8p (J6 (J6 rfl rfl (ixS S3 hL3)) rfl rfl) rfl rfl (show Uj S3 (.ref Lf) (.int i) (.int ((lm:Int) - many))=some S4 from by rw [show (lm:Int) - many=lm + -many by omega]; exact u1)
     have hH4:S4[Hh]?=some (.lst (ys.map .int)):=by rw [k4 Hh D.b.2.2.2]; exact s3.H
     obtain ⟨_,_,u2⟩:=Q0e (d:=-many) hH4 (show (0:Int)<=i by omega) hiy;rw [show ((i:Int)).toNat=i by simp] at u2;obtain ⟨S5,hS5⟩:∃ S5,S4.set Hh (.lst ((W4 ys i (-many)).map .int))=S5:=⟨_,rfl⟩;have hHl:=(O0.mp hH4).1;have k5:∀ x,x≠Hh->S5[x]?=S4[x]?:=fun x hx=>by rw [<- hS5,D8 (fun e=>hx e.symm)]
     have h5:S5[Hh]?=some (.lst ((W4 ys i (-many)).map .int)):=by rw [<- hS5]; exact D7 hHl
     rw [hS5] at u2;have ixY:∀ (S2:Q3) (zs:List Int) (k:Nat),k < zs.length->S2[Hh]?=some (.lst (zs.map .int))->oIx S2 (.ref Hh) (.int k)=.ok (.int (zs.getD k 0)) S2:=fun S2 zs k hk h=>Vu (xs:=zs.map .int) (.inr (.inr ⟨_,rfl,h⟩)) (by rw [D6,Zb hk 0]; rfl)
     have t4:Vb (Q4 4) (Q4 10) (mOp (oI fun a b=>.int (a - b)) (mOp oIx (Q4 4) (Q4 10)) (Q4 12)) (smΓ L X R A Hh Mm t one Lf st i j (some (.int many))) S4=.nx (smΓ L X R A Hh Mm t one Lf st i j (some (.int many))) S5:=Q8p (J6 (J6 rfl rfl (ixY S4 ys i (by rw [s.hl]; exact hi) hH4)) rfl rfl) rfl rfl (show Uj S4 (.ref Hh) (.int i) (.int (ys.getD i 0 - many))=some S5 from by rw [show ys.getD i 0 - many=ys.getD i 0 + -many by omega]; exact u2)
     have hbl:(W4 ys i (-many)).length=n:=by rw [V0]; exact s.hl
     obtain ⟨_,_,u3⟩:=Q0e (d:=many) h5 (show (0:Int)<=j by omega) (by rw [hbl]; omega);rw [show ((j:Int)).toNat=j by simp] at u3;obtain ⟨S6,hS6⟩:∃ S6,S5.set Hh (.lst ((W4 (W4 ys i (-many)) j many).map .int))=S6:=⟨_,rfl⟩;have hHl5:=(O0.mp h5).1;have k6:∀ x,x≠Hh->S6[x]?=S5[x]?:=fun x hx=>by rw [<- hS6,D8 (fun e=>hx e.symm)]
     have h6:S6[Hh]?=some (.lst ((W4 (W4 ys i (-many)) j many).map .int)):=by rw [<- hS6]; exact D7 hHl5
     rw [hS6] at u3;have t5:Vb (Q4 4) (Q4 11) (mOp J9 (mOp oIx (Q4 4) (Q4 11)) (Q4 12)) (smΓ L X R A Hh Mm t one Lf st i j (some (.int many))) S5=.nx (smΓ L X R A Hh Mm t one Lf st i j (some (.int many))) S6:=Q8p (J6 (J6 rfl rfl (ixY S5 (W4 ys i (-many)) j (by rw [hbl]; exact hj) h5)) rfl rfl) rfl rfl u3;have hM6:S6[Mm]?=some (.lst (ms.map mvV)):=by rw [k6 Mm (fun e=>D.b.2.2.1 e.symm),k5 Mm (fun e=>D.b.2.2.1 e.symm),k4 Mm D.c.2.2]; exact s3.M
     have hMl:=(O0.mp hM6).1;obtain ⟨S7,hS7⟩:∃ S7,S6.set Mm (.lst ((ms ++ [(⟨t,i,j,many⟩:Mv4)]).map mvV))=S7:=⟨_,rfl⟩;have k7:∀ x,x≠Mm->S7[x]?=S6[x]?:=fun x hx=>by rw [<- hS7,D8 (fun e=>hx e.symm)]
     have t6:Ke (mBM Wf (Q4 5) (Q2 (Z2 (Q2 (Q4 6) (Q2 (Q4 10) (Q2 (Q4 11) (Q2 (Q4 12) Q9))))) Q9)) (smΓ L X R A Hh Mm t one Lf st i j (some (.int many))) S6=.nx (smΓ L X R A Hh Mm t one Lf st i j (some (.int many))) S7:=by
      have hlo:Za S6 (.ref Mm)=some (ms.map mvV):=by simp [hM6]
      have hch:chg S6 (.ref Mm) (fun xs=>if xs.length < 1000000 then some (.non,xs ++ [.tup [.int t,.int i,.int j,.int many]]) else none)=.ok .non S7:=by
       unfold chg;simp only [hM6];rw [bS (by rw [O3]; omega)];rw [<- hS7,E5];rfl
      exact Qmd rfl hlo rfl hch
     refine ⟨some (.int many),S7,W4 (W4 ys i (-many)) j many,ms ++ [(⟨t,i,j,many⟩:Mv4)],W4 ls i (-many),?_,⟨?_,?_,?_,?_,?_,fun k=>?_,?_,?_⟩,?_,⟨?_,fun k=>?_⟩,by simp⟩
     ·unfold Qu;rw [Q1c,cond,K9,bS rfl,Ja,t1];show Qd _ _ _ _=_;rw [Ja,t2];show Qd _ _ _ _=_;rw [Ja,t3];show Qd _ _ _ _=_;rw [Ja,t4];show Qd _ _ _ _=_;rw [Ja,t5];exact t6
     ·exact T3.of (by rw [k7 L (fun e=>D.a.2.2.2.1 e.symm),k6 L (fun e=>D.a.2.2.1 e.symm),k5 L (fun e=>D.a.2.2.1 e.symm),k4 L (fun e=>D.a.2.2.2.2 e.symm)])
     ·rw [k7 R (fun e=>D.c.1 e.symm),k6 R (fun e=>D.b.1 e.symm),k5 R (fun e=>D.b.1 e.symm),k4 R (fun e=>D.d.1 e.symm)]; exact s3.R
     ·rw [k7 A (fun e=>D.c.2.1 e.symm),k6 A (fun e=>D.b.2.1 e.symm),k5 A (fun e=>D.b.2.1 e.symm),k4 A (fun e=>D.d.2 e.symm)]; exact s3.A
     ·rw [k7 Hh D.b.2.2.1]; exact h6
     ·rw [V0,V0]; exact s.hl
     ·rw [Xn (by omega) (by rw [hbl]; omega),Xn (by omega) hiy];have h1:=hle.2 i;have h2:=s.pos k;rw [hlm] at h1
      by_cases e1:(k:Int)=i
      ·have:k=i:=by omega
       subst this;rw [bS rfl]
       split <;> omega
      ·rw [bT e1]
       split <;> omega
     ·rw [Q88 (by omega) (by rw [hbl]; omega),Q88 (by omega) hiy];have:=s.sum;omega
     ·rw [<- hS7]; exact D7 hMl
     ·rw [k7 Lf (fun e=>D.c.2.2 e.symm),k6 Lf (fun e=>D.b.2.2.2 e.symm),k5 Lf (fun e=>D.b.2.2.2 e.symm)]; exact l4
     ·rw [V0]; exact hle.1
     ·rw [Xn (by omega) hil,Xn (by omega) (by rw [hbl]; omega),Xn (by omega) hiy];have h1:=hle.2 k
      by_cases e1:(k:Int)=i
      ·have:k=i:=by omega
       subst this;rw [hlm] at h1 ⊢;rw [bS rfl]
       split <;> omega
      ·rw [bT e1]
       split <;> omega
   ·refine same ?_;unfold smΓ;generalize ls.getD i 0=x at g q1 hxl q2 ⊢;simp -implicitDefEqProofs [Qu,g,Qe9,q1,hxl,q2,-Uz]
  ·refine same ?_;unfold smΓ;simp -implicitDefEqProofs [Qu,g,Qe9,q1]
theorem Qg3 (st:Q3) (xs:List PV) (l h:Option Int):oSl st (.tup xs) l h=.ok (.tup (cut xs l h)) st:=rfl
theorem SMo.lt {ns:List Int} {n:Nat} {f:Nat->Option Nat} {rss:List (List (Nat × Nat))} {L R A Hh Mm:Nat} {S:Q3} {ys:List Int} {ms:List Mv4} (s:SMo ns n f rss L R A Hh Mm S ys ms):L < S.length/\R < S.length/\A < S.length/\Hh < S.length/\Mm < S.length:=
 ⟨s.T.lt,(O0.mp s.R).1,(O0.mp s.A).1,(O0.mp s.H).1,(O0.mp s.M).1⟩
theorem SMo.more {ns:List Int} {n:Nat} {f:Nat->Option Nat} {rss:List (List (Nat × Nat))} {L R A Hh Mm:Nat} {S:Q3} {ys:List Int} {ms:List Mv4} (s:SMo ns n f rss L R A Hh Mm S ys ms) (T:Q3):SMo ns n f rss L R A Hh Mm (S ++ T) ys ms:=by
 obtain ⟨l1,l2,l3,l4,l5⟩:=s.lt;exact ⟨s.T.of (by rw [O5 l1]),by rw [O5 l2]; exact s.R,by rw [O5 l3]; exact s.A,by rw [O5 l4]; exact s.H,s.hl,s.pos,s.sum,by rw [O5 l5]; exact s.M⟩
abbrev srΓ (L:Nat) (X:PV) (R A Hh Mm:Nat) (b6 b7 b8 b9 b10 b11 b12:Option PV):Gam:=[some (.ref L),some X,some (.ref R),some (.ref A),some (.ref Hh),some (.ref Mm),b6,b7,b8,b9,b10,b11,b12]
theorem Qd1 {ns:List Int} {n:Nat} {f:Nat->Option Nat} {rss:List (List (Nat × Nat))} {L R A Hh Mm:Nat} (hd:R≠L/\A≠L/\Hh≠L/\Mm≠L) (hb:Hh≠R/\Hh≠A/\Hh≠Mm) (hc:Mm≠R/\Mm≠A) {S:Q3} {ys:List Int} {ms:List Mv4} (s:SMo ns n f rss L R A Hh Mm S ys ms) (hml:ms.length<=9000) {X:PV} {t:Nat} {rs:List (Nat × Nat)} (hr:RsOk n rs) (b8 b9 b10 b11 b12:Option PV) :
  ∃ c8 c9 c10 c11 c12 S' ys' ms',Y3 (srΓ L X R A Hh Mm (some (.int t)) (some (Qs rs)) b8 b9 b10 b11 b12) S=.nx (srΓ L X R A Hh Mm (some (.int t)) (some (Qs rs)) c8 c9 c10 c11 c12) S'/\SMo ns n f rss L R A Hh Mm S' ys' ms'/\ms'.length<=ms.length + 100:=by
 obtain ⟨l1,l2,l3,l4,l5⟩:=s.lt;obtain ⟨S1,hS1⟩:∃ S1,S ++ [Cell.lst (ys.map .int)]=S1:=⟨_,rfl⟩;have s1:SMo ns n f rss L R A Hh Mm S1 ys ms:=by rw [<- hS1]; exact s.more _
 have hL1:S1[S.length]?=some (.lst (ys.map .int)):=by rw [<- hS1]; simp
 have D:Dis L R A Hh Mm S.length:=⟨⟨hd.1,hd.2.1,hd.2.2.1,hd.2.2.2,by omega⟩,⟨hb.1,hb.2.1,hb.2.2,by omega⟩,⟨hc.1,hc.2,by omega⟩,by omega,by omega⟩;have hrl:=hr.len;obtain ⟨st,S2,hst,T2,M2,e2⟩:=Jt s1.T (rs.length + 1) (by omega) (by omega);have s2:=s1.mv D.a.1 D.a.2.1 D.a.2.2.1 D.a.2.2.2.1 T2 M2;have hL2:S2[S.length]?=some (.lst (ys.map .int)):=by rw [M2.keep _ D.a.2.2.2.2]; exact hL1
 have hok:∀ r∈rs.drop st ++ rs.take st,Qck n r:=fun r h=>by
  rcases E3.mp h with h | h
  ·exact hr.ok r (List.mem_of_mem_drop h)
  ·exact hr.ok r (List.mem_of_mem_take h)
 have hrotl:(rs.drop st ++ rs.take st).length<=100:=by rw [D0,L3,F7]; omega
 obtain ⟨Γ',S3,e3,ys',ms',ls',c10,c11,c12,rfl,s3,hL3,hle3,hm3⟩:=Vx (g:=rdV) (xs:=rs.drop st ++ rs.take st) (ga:=Jn (Qb (Q6 10) (Qb (Q6 11) Jp))) (body:=Qu) (w:=[]) (Γ:=srΓ L X R A Hh Mm (some (.int t)) (some (Qs rs)) (some (.ref S.length)) (some (.int st)) b10 b11 b12) (st:=S2)
  (fun i Γ st'=>∃ ys' ms' ls' c10 c11 c12,Γ=srΓ L X R A Hh Mm (some (.int t)) (some (Qs rs)) (some (.ref S.length)) (some (.int st)) c10 c11 c12/\SMo ns n f rss L R A Hh Mm st' ys' ms'/\st'[S.length]?=some (.lst (List.map PV.int ls'))/\LeL n ls' ys'/\ms'.length<=ms.length + i)
  (fun _ _ _ _=>by simp)
  (fun i r Γ st' hx ⟨ys',ms',ls',c10,c11,c12,g1,s',hL',hle',hm'⟩=>by
   subst g1;obtain ⟨a,b⟩:=r;have ho:=hok _ (E2 hx);have hi:=(O0.mp hx).1;obtain ⟨d12,S',y2,m2,l2,e,sx,hx1,hx2,hx3⟩:=Qg2 D s' hL' hle' (by omega) (X:=X) (one:=Qs rs) (t:=t) (st:=st) ho.1 ho.2.1 c12;exact ⟨_,rfl,_,S',e,y2,m2,l2,_,_,_,rfl,sx,hx1,hx2,by omega⟩)
  ⟨ys,ms,ys,b10,b11,b12,rfl,s2,hL2,⟨s.hl,fun k=>⟨s.pos k,Int.le_refl _⟩⟩,by omega⟩
 refine ⟨some (.ref S.length),some (.int st),c10,c11,c12,S3,ys',ms',?_,s3,by omega⟩;have hcl:Zc S1 [Qs rs]=.ok (.int (rs.length:Nat)) S1:=by simp [Qs]
 have h1:((rs.length + 1:Nat):Int)=(rs.length:Int) + 1:=by push_cast; rfl
 rw [h1] at e2;have c1:cut (rs.map rdV) (some (st:Int)) none=(rs.drop st).map rdV:=by rw [xh,List.map_drop]
 have c2:cut (rs.map rdV) none (some (st:Int))=(rs.take st).map rdV:=by rw [Q4n,List.map_take]
 have ha:J9 S2 (.tup ((rs.drop st).map rdV)) (.tup ((rs.take st).map rdV))=.ok (.tup ((rs.drop st ++ rs.take st).map rdV)) S2:=by
  rw [Q72,bS (by rw [Qp,O3,O3,L3,F7]; omega),E5]
 have hl:((rs.drop st ++ rs.take st).map rdV).length<=1000000:=by rw [O3]; omega
 have hli:Za S (.ref Hh)=some (ys.map .int):=by simp [s.H]
 have t1:Qy 8 (qq (Kw (Q4 4))) (srΓ L X R A Hh Mm (some (.int t)) (some (Qs rs)) b8 b9 b10 b11 b12) S=.nx (srΓ L X R A Hh Mm (some (.int t)) (some (Qs rs)) (some (.ref S.length)) b9 b10 b11 b12) S1:=by
  have hH:=s.H;unfold srΓ;rw [<- hS1];generalize ys.map PV.int=yv at hH ⊢;generalize Qs rs=rv at hH ⊢;simp -implicitDefEqProofs [hH]
 have t2:Qy 9 (Qi 2 Qc (Q2 (Q4 0) (Q2 (mOp J9 (Qz Zc (Q2 (Q4 7) Q9)) (mC (.int 1))) Q9))) (srΓ L X R A Hh Mm (some (.int t)) (some (Qs rs)) (some (.ref S.length)) b9 b10 b11 b12) S1=.nx (srΓ L X R A Hh Mm (some (.int t)) (some (Qs rs)) (some (.ref S.length)) (some (.int st)) b10 b11 b12) S2:=by
  unfold srΓ;generalize Qs rs=rv at hcl e2 ⊢;simp -implicitDefEqProofs [hcl,e2]
 unfold Y3;rw [Ja,t1];show Qd _ _ _ _=_;rw [Ja,t2];show Ux _ _ _ _ _=_;unfold srΓ Qs at e3 ⊢;generalize (rs.drop st ++ rs.take st).map rdV=rr at c1 c2 ha hl e3 ⊢;generalize (rs.drop st).map rdV=r1 at c1 c2 ha hl e3 ⊢;generalize (rs.take st).map rdV=r2 at c1 c2 ha hl e3 ⊢;generalize rs.map rdV=rv at c1 c2 ha hl e3 ⊢;simp -implicitDefEqProofs [Qg3,c1,c2,ha,hl,Qp,e3,-Q72]
theorem Qcw:∀ {xs:List Int} {B:Int},(∀ x∈xs,x<=B)->xs.sum<=xs.length * B
 | [],B,_=>by simp
 | x :: xs,B,h=>by
  have ih:=Qcw (xs:=xs) fun y hy=>h y (O7 _ hy)
  have hx:=h x (by simp);rw [List.sum_cons,E1]
  push_cast
  rw [Int.add_mul];omega
theorem Qg1 {ns:List Int} {n:Nat} (hn:n<=8) {f:Nat->Option Nat} {rss:List (List (Nat × Nat))} (hlen:rss.length<=40) (hrs:∀ rs∈rss,RsOk n rs) {L R A:Nat} {S:Q3} (T:TapeAt S L ns) (hR:S[R]?=some (.lst (rss.map Qs))) (hA:S[A]?=some (.dic (Jk n f))) (hRL:R≠L) (hAL:A≠L) {xs:List Int} (hx:xs.length=n) (hxb:∀ x∈xs,0<=x/\x<=100000000000000000000000000006) :
  ∃ (Mm:Nat) (S':Q3) (ms:List Mv4),Yk [.ref L,.tup (xs.map .int),.ref R,.ref A] S=.ok (.ref Mm) S'/\TapeAt S' L ns/\S'[R]?=some (.lst (rss.map Qs))/\S'[A]?=some (.dic (Jk n f))/\S'[Mm]?=some (.lst (ms.map mvV))/\ms.length<=9000/\Mm≠L/\Mm≠R/\Mm≠A:=by
 have l1:=T.lt;have l2:=(O0.mp hR).1;have l3:=(O0.mp hA).1;obtain ⟨S1,hS1⟩:∃ S1,S ++ [Cell.lst (xs.map .int),Cell.lst (([]:List Mv4).map mvV)]=S1:=⟨_,rfl⟩;have k1:∀ t,t < S.length->S1[t]?=S[t]?:=fun t h=>by rw [<- hS1,O5 h]
 have hH1:S1[S.length]?=some (.lst (xs.map .int)):=by rw [<- hS1]; simp
 have hM1:S1[S.length + 1]?=some (.lst (([]:List Mv4).map mvV)):=by rw [<- hS1,D5 (by omega),show S.length + 1 - S.length=1 by omega]; rfl
 have pos:∀ k,0<=xs.getD k 0:=fun k=>by
  rw [F4];cases z:xs[k]? with
  | none=>simp
  | some y=>exact (hxb y (E2 z)).1
 have s1:SMo ns n f rss L R A S.length (S.length + 1) S1 xs []:=⟨T.of (k1 L l1),by rw [k1 R l2]; exact hR,by rw [k1 A l3]; exact hA,hH1,hx,pos,by
  have:=Qcw (xs:=xs) (B:=100000000000000000000000000006) fun x h=>(hxb x h).2
  rw [hx] at this;have hn':(n:Int)<=8:=by omega
  omega,hM1⟩
 have hsrc:We S1 (.ref R)=some (rss.map Qs,[(R,.lst (rss.map Qs))]):=by
  have:=s1.R;simp [this]
 obtain ⟨Γ',S2,e2,ys,ms,b6,b7,b8,b9,b10,b11,b12,rfl,s2,hm2⟩:=Vx (g:=fun p:List (Nat × Nat) × Nat=>PV.tup [.int (p.2:Nat),Qs p.1]) (xs:=rss.zipIdx) (ga:=Jn (Qb (Q6 6) (Qb (Q6 7) Jp))) (body:=Y3) (w:=[(R,.lst (rss.map Qs))]) (Γ:=srΓ L (.tup (xs.map .int)) R A S.length (S.length + 1) none none none none none none none) (st:=S1)
  (fun i Γ st'=>∃ ys ms b6 b7 b8 b9 b10 b11 b12,Γ=srΓ L (.tup (xs.map .int)) R A S.length (S.length + 1) b6 b7 b8 b9 b10 b11 b12/\SMo ns n f rss L R A S.length (S.length + 1) st' ys ms/\ms.length<=100 * i)
  (fun i Γ st' ⟨_,_,_,_,_,_,_,_,_,_,s,_⟩=>fun y hy=>by
   rw [F3.mp hy]; exact s.R)
  (fun i p Γ st' hx' ⟨ys,ms,b6,b7,b8,b9,b10,b11,b12,g1,s,hm⟩=>by
   subst g1;obtain ⟨rs,t⟩:=p;have hi:i < rss.length:=by have:=(O0.mp hx').1; simpa using this
   obtain ⟨c8,c9,c10,c11,c12,S',ys',ms',e,s',hm'⟩:=Qd1 ⟨hRL,hAL,by omega,by omega⟩ ⟨by omega,by omega,by omega⟩ ⟨by omega,by omega⟩ s (by omega) (X:=.tup (xs.map .int)) (t:=t) (hrs rs (List.fst_mem_of_mem_zipIdx (E2 hx'))) b8 b9 b10 b11 b12;exact ⟨_,rfl,_,S',e,ys',ms',_,_,_,_,_,_,_,rfl,s',by omega⟩)
  ⟨xs,[],_,_,_,_,_,_,_,rfl,s1,by simp⟩
 rw [<- Q4k] at e2;rw [List.length_zipIdx] at hm2;refine ⟨S.length + 1,S2,ms,?_,s2.T,s2.R,s2.A,s2.M,by omega,by omega,by omega,by omega⟩;have hl:(rss.map Qs).length<=1000000:=by rw [O3]; omega
 have hS1':S ++ [Cell.lst (xs.map .int),Cell.lst []]=S1:=hS1;have hlen1:(S ++ [Cell.lst (xs.map PV.int)]).length=S.length + 1:=by simp
 have hS1'':S ++ [Cell.lst (xs.map .int)] ++ [Cell.lst []]=S1:=by rw [List.append_assoc]; exact hS1
 have t1:Qy 4 (qq (Kw (Q4 1))) [some (.ref L),some (.tup (xs.map .int)),some (.ref R),some (.ref A),none,none,none,none,none,none,none,none,none] S=.nx [some (.ref L),some (.tup (xs.map .int)),some (.ref R),some (.ref A),some (.ref S.length),none,none,none,none,none,none,none,none] (S ++ [Cell.lst (xs.map .int)]):=by
  generalize xs.map PV.int=xv at ⊢;simp -implicitDefEqProofs
 have t2:Qy 5 (qq (ze Q9)) [some (.ref L),some (.tup (xs.map .int)),some (.ref R),some (.ref A),some (.ref S.length),none,none,none,none,none,none,none,none] (S ++ [Cell.lst (xs.map .int)])=.nx (srΓ L (.tup (xs.map .int)) R A S.length (S.length + 1) none none none none none none none) S1:=by
  rw [<- hS1'',<- hlen1];unfold srΓ;generalize xs.map PV.int=xv at *;generalize S ++ [Cell.lst xv]=S9;simp -implicitDefEqProofs [Qp]
 have step:Zq [some (.ref L),some (.tup (xs.map .int)),some (.ref R),some (.ref A),none,none,none,none,none,none,none,none,none] S=.rt (.ref (S.length + 1)) S2:=by
  unfold Zq;rw [Ja,t1];show Qd _ _ _ _=_;rw [Ja,t2];show Qd _ _ _ _=_;unfold srΓ at e2 ⊢;generalize rss.map Qs=rv at hsrc hl e2 ⊢;generalize xs.map PV.int=xv at hsrc hl e2 ⊢;generalize S.length + 1=sl1 at hsrc hl e2 ⊢;generalize S.length=sl at hsrc hl e2 ⊢;simp -implicitDefEqProofs [hsrc,hl,Qp,e2,-Vp]
 show Wc Zq 13 _ S=_;unfold Wc;rw [show (([.ref L,.tup (xs.map .int),.ref R,.ref A]:List PV).map some ++ List.replicate (13 - [.ref L,.tup (xs.map .int),.ref R,PV.ref A].length) none)=[some (.ref L),some (.tup (xs.map .int)),some (.ref R),some (.ref A),none,none,none,none,none,none,none,none,none] from rfl,step]
theorem Qky (ms:List Mv4) (S:Q3):oEq S (.lst (ms.map mvV)) (.lst [])=.ok (.bl ms.isEmpty) S:=by
 have hg:Jq dep (.lst (ms.map mvV))=true:=by simp [Jq,dep,mvV,Qct]
 have h0:Jq dep (.lst [])=true:=by simp [Jq,dep]
 have d1:∀ l,der S (.lst l)=.lst l:=fun _=>rfl
 unfold oEq;rw [d1,d1,bS ⟨hg,h0⟩];cases ms with
 | nil=>simp [peq,Uk]
 | cons m ms=>simp [peq,Uk]
def Uf (n t i j k far:Int):List Mv4:=[⟨t,i,j,k + 1⟩,⟨t,i,j,0⟩,⟨t,i,j,-k⟩,⟨t - 1,i,j,k⟩,⟨t + 1,i,j,k⟩,⟨t,j,i,k⟩,⟨t,i,i,k⟩,⟨t,i,n,k⟩,⟨t,-1,j,k⟩,⟨far,i,j,k⟩,⟨t,i,j,k + far⟩,⟨-1 - far,i,j,k⟩]
theorem Qm2 {α:Type} (xs:List α) (l h:Option Int):(cut xs l h).length<=xs.length:=by
 unfold cut;simp only [F7,L3];omega
theorem Qci (st:Q3) (xs ys:List PV) (h:xs.length + ys.length<=100000):J9 st (.lst xs) (.lst ys)=.ok (.lst (xs ++ ys)) st:=by
 show (if xs.length + ys.length<=lim then Res.ok (PV.lst (xs ++ ys)) st else .stuck)=_;rw [bS (by rw [Qp]; omega)]
abbrev bmΓ (L:Nat) (n:Int) (mm:List PV) (b3 b4 b5 b6 b7 b8 b9 b10:Option PV):Gam:=[some (.ref L),some (.int n),some (.lst mm),b3,b4,b5,b6,b7,b8,b9,b10]
theorem Qi0 {ns:List Int} {L:Nat} {S:Q3} (T:TapeAt S L ns) (n:Nat) {ms:List Mv4} (hml:ms.length<=9000):∃ (ms':List Mv4) (S':Q3),ms'.length<=18001/\TapeAt S' L ns/\Mv L S S'/\Z1 [.ref L,.int n,.lst (ms.map mvV)] S=.ok (.lst (ms'.map mvV)) S':=by
 have go:∀ v S',Z0 (bmΓ L n (ms.map mvV) none none none none none none none none) S=.rt v S'->Z1 [.ref L,.int n,.lst (ms.map mvV)] S=.ok v S':=fun v S' e=>by
  show Wc Z0 11 _ S=_;unfold Wc;rw [show (([.ref L,.int n,.lst (ms.map mvV)]:List PV).map some ++ List.replicate (11 - [PV.ref L,.int n,.lst (ms.map mvV)].length) none)=bmΓ L n (ms.map mvV) none none none none none none none none from rfl,e]
 have h0:=Qky ms S
 by_cases q:ms=[]
 ·subst q;refine ⟨[⟨0,0,(n:Int) - 1,1⟩],S,by simp,T,Mv.refl _ _,go _ _ ?_⟩;show _=SR.rt (.lst [.tup [.int 0,.int 0,.int ((n:Int) - 1),.int 1]]) S;have h0:oEq S (.lst []) (.lst [])=.ok (.bl true) S:=h0;unfold bmΓ;rw [List.map_nil];simp -implicitDefEqProofs [Z0,h0,Qp]
 ·have hne:ms.isEmpty=false:=by cases ms with | nil=>exact absurd rfl q | cons _ _=>rfl
  rw [hne] at h0;have hpos:1<=ms.length:=List.length_pos_iff.mpr q;obtain ⟨a,S1,ha,T1,M1,e1⟩:=Jt T ms.length hpos (by omega);obtain ⟨far,S2,hf,T2,M2,e2⟩:=Jt T1 100000000000000000000 (by decide) (by decide);rw [show ((100000000000000000000:Nat):Int)=100000000000000000000 from rfl] at e2;obtain ⟨wy,S3,hwy,T3,M3,e3⟩:=Jt T2 15 (by decide) (by decide);rw [show ((15:Nat):Int)=15 from rfl] at e3;obtain ⟨⟨t,i,j,k⟩,hm⟩:∃ m,ms[a]?=some m:=⟨ms[a],O2 ha⟩;have hl:Zc S [.lst (ms.map mvV)]=.ok (.int (ms.length:Nat)) S:=by simp
  have hix:oIx S1 (.lst (ms.map mvV)) (.int a)=.ok (.tup [.int t,.int i,.int j,.int k]) S1:=Vu (xs:=ms.map mvV) (.inl rfl) (by rw [D6,hm]; rfl);have e9:([.tup [.int t,.int i,.int j,.int (k + 1)],.tup [.int t,.int i,.int j,.int 0],.tup [.int t,.int i,.int j,.int (-k)],.tup [.int (t - 1),.int i,.int j,.int k]]:List PV) ++ [.tup [.int (t + 1),.int i,.int j,.int k],.tup [.int t,.int j,.int i,.int k],.tup [.int t,.int i,.int i,.int k],.tup [.int t,.int i,.int n,.int k]] ++ [.tup [.int t,.int (-1),.int j,.int k],.tup [.int far,.int i,.int j,.int k],.tup [.int t,.int i,.int j,.int (k + far)],.tup [.int (-1 - far),.int i,.int j,.int k]]=(Uf n t i j k far).map mvV:=rfl;obtain ⟨B1,hB1⟩:∃ B1:List PV,[.tup [.int t,.int i,.int j,.int (k + 1)],.tup [.int t,.int i,.int j,.int 0],.tup [.int t,.int i,.int j,.int (-k)],.tup [.int (t - 1),.int i,.int j,.int k]]=B1:=⟨_,rfl⟩;obtain ⟨B2,hB2⟩:∃ B2:List PV,[.tup [.int (t + 1),.int i,.int j,.int k],.tup [.int t,.int j,.int i,.int k],.tup [.int t,.int i,.int i,.int k],.tup [.int t,.int i,.int n,.int k]]=B2:=⟨_,rfl⟩
  obtain ⟨B3,hB3⟩:∃ B3:List PV,[.tup [.int t,.int (-1),.int j,.int k],.tup [.int far,.int i,.int j,.int k],.tup [.int t,.int i,.int j,.int (k + far)],.tup [.int (-1 - far),.int i,.int j,.int k]]=B3:=⟨_,rfl⟩;have lB2:B2.length<=1000000:=by rw [<- hB2]; simp
  have lB3:B3.length<=1000000:=by rw [<- hB3]; simp
  have a1:=Qci S2 B1 B2 (by rw [<- hB1,<- hB2]; simp);have a2:=Qci S2 (B1 ++ B2) B3 (by rw [<- hB1,<- hB2,<- hB3]; simp);rw [hB1,hB2,hB3] at e9;rw [e9] at a2;have cF:cut (ms.map mvV) none (some (a:Int))=(ms.take a).map mvV:=by rw [Q4n,List.map_take]
  have cB:cut (ms.map mvV) (some ((a:Int) + 1)) none=(ms.drop (a + 1)).map mvV:=by
   rw [show (a:Int) + 1=((a + 1:Nat):Int) by push_cast; rfl,xh,List.map_drop]
  obtain ⟨mid,hmid,cM⟩:∃ mid:List Mv4,mid.length<=ms.length/\cut (ms.map mvV) (some (a:Int)) (some ((a:Int) + 1))=mid.map mvV:=⟨cut ms (some (a:Int)) (some ((a:Int) + 1)),Qm2 _ _ _,Q5z _ _ _ _⟩;have hMv:=(M1.trans M2).trans M3;have t0:Z6 (toB (mOp oEq (Q4 2) (Um Q9))) (Jm (Um (Q2 (Z2 (Q2 (mC (.int 0)) (Q2 (mC (.int 0)) (Q2 (mOp (oI fun a b=>.int (a - b)) (Q4 1) (mC (.int 1))) (Q2 (mC (.int 1)) Q9))))) Q9))) J5 (bmΓ L n (ms.map mvV) none none none none none none none none) S=.nx (bmΓ L n (ms.map mvV) none none none none none none none none) S:=Q7j (Zy (J6 rfl rfl h0)) rfl
  have t1:Qy 3 (Qi 2 Qc (Q2 (Q4 0) (Q2 (Qz Zc (Q2 (Q4 2) Q9)) Q9))) (bmΓ L n (ms.map mvV) none none none none none none none none) S=.nx (bmΓ L n (ms.map mvV) (some (.int a)) none none none none none none none) S1:=W7 (Ye (V6 rfl (V6 (Q39 rfl hl) rfl)) rfl e1);have t2:Qei (Jn (Qb (Q6 4) (Qb (Q6 5) (Qb (Q6 6) (Qb (Q6 7) Jp))))) (mOp oIx (Q4 2) (Q4 3)) (bmΓ L n (ms.map mvV) (some (.int a)) none none none none none none none) S1=.nx (bmΓ L n (ms.map mvV) (some (.int a)) (some (.int t)) (some (.int i)) (some (.int j)) (some (.int k)) none none none) S1:=Qma (J6 rfl rfl hix) rfl;have t3:Qy 8 (Qi 2 Qc (Q2 (Q4 0) (Q2 (mOp Q0z (mC (.int 10)) (mC (.int 20))) Q9))) (bmΓ L n (ms.map mvV) (some (.int a)) (some (.int t)) (some (.int i)) (some (.int j)) (some (.int k)) none none none) S1=.nx (bmΓ L n (ms.map mvV) (some (.int a)) (some (.int t)) (some (.int i)) (some (.int j)) (some (.int k)) (some (.int far)) none none) S2:=W7 (Ye rfl rfl e2)
  have t4:∀ b9,Qy 9 (Um (Q2 (Z2 (Q2 (Q4 4) (Q2 (Q4 5) (Q2 (Q4 6) (Q2 (mOp J9 (Q4 7) (mC (.int 1))) Q9))))) (Q2 (Z2 (Q2 (Q4 4) (Q2 (Q4 5) (Q2 (Q4 6) (Q2 (mC (.int 0)) Q9))))) (Q2 (Z2 (Q2 (Q4 4) (Q2 (Q4 5) (Q2 (Q4 6) (Q2 (Q10 (Q4 7)) Q9))))) (Q2 (Z2 (Q2 (mOp (oI fun a b=>.int (a - b)) (Q4 4) (mC (.int 1))) (Q2 (Q4 5) (Q2 (Q4 6) (Q2 (Q4 7) Q9))))) Q9))))) (bmΓ L n (ms.map mvV) (some (.int a)) (some (.int t)) (some (.int i)) (some (.int j)) (some (.int k)) (some (.int far)) b9 none) S2=.nx (bmΓ L n (ms.map mvV) (some (.int a)) (some (.int t)) (some (.int i)) (some (.int j)) (some (.int k)) (some (.int far)) (some (.lst B1)) none) S2:=fun b9=>by
   rw [<- hB1];unfold bmΓ;generalize ms.map mvV=mm at ⊢;simp -implicitDefEqProofs [Qp]
  have t5:Qy 9 (mOp J9 (Q4 9) (Um (Q2 (Z2 (Q2 (mOp J9 (Q4 4) (mC (.int 1))) (Q2 (Q4 5) (Q2 (Q4 6) (Q2 (Q4 7) Q9))))) (Q2 (Z2 (Q2 (Q4 4) (Q2 (Q4 6) (Q2 (Q4 5) (Q2 (Q4 7) Q9))))) (Q2 (Z2 (Q2 (Q4 4) (Q2 (Q4 5) (Q2 (Q4 5) (Q2 (Q4 7) Q9))))) (Q2 (Z2 (Q2 (Q4 4) (Q2 (Q4 5) (Q2 (Q4 1) (Q2 (Q4 7) Q9))))) Q9)))))) (bmΓ L n (ms.map mvV) (some (.int a)) (some (.int t)) (some (.int i)) (some (.int j)) (some (.int k)) (some (.int far)) (some (.lst B1)) none) S2=.nx (bmΓ L n (ms.map mvV) (some (.int a)) (some (.int t)) (some (.int i)) (some (.int j)) (some (.int k)) (some (.int far)) (some (.lst (B1 ++ B2))) none) S2:=W7 (J6 rfl (show _=Res.ok (PV.lst B2) S2 from by rw [<- hB2]; rfl) a1);have t6:Qy 9 (mOp J9 (Q4 9) (Um (Q2 (Z2 (Q2 (Q4 4) (Q2 (Q10 (mC (.int 1))) (Q2 (Q4 6) (Q2 (Q4 7) Q9))))) (Q2 (Z2 (Q2 (Q4 8) (Q2 (Q4 5) (Q2 (Q4 6) (Q2 (Q4 7) Q9))))) (Q2 (Z2 (Q2 (Q4 4) (Q2 (Q4 5) (Q2 (Q4 6) (Q2 (mOp J9 (Q4 7) (Q4 8)) Q9))))) (Q2 (Z2 (Q2 (mOp (oI fun a b=>.int (a - b)) (Q10 (mC (.int 1))) (Q4 8)) (Q2 (Q4 5) (Q2 (Q4 6) (Q2 (Q4 7) Q9))))) Q9)))))) (bmΓ L n (ms.map mvV) (some (.int a)) (some (.int t)) (some (.int i)) (some (.int j)) (some (.int k)) (some (.int far)) (some (.lst (B1 ++ B2))) none) S2=.nx (bmΓ L n (ms.map mvV) (some (.int a)) (some (.int t)) (some (.int i)) (some (.int j)) (some (.int k)) (some (.int far)) (some (.lst ((Uf n t i j k far).map mvV))) none) S2:=W7 (J6 rfl (show _=Res.ok (PV.lst B3) S2 from by rw [<- hB3]; rfl) a2)
  have t7:Qy 10 (Qi 2 Qc (Q2 (Q4 0) (Q2 (mC (.int 15)) Q9))) (bmΓ L n (ms.map mvV) (some (.int a)) (some (.int t)) (some (.int i)) (some (.int j)) (some (.int k)) (some (.int far)) (some (.lst ((Uf n t i j k far).map mvV))) none) S2=.nx (bmΓ L n (ms.map mvV) (some (.int a)) (some (.int t)) (some (.int i)) (some (.int j)) (some (.int k)) (some (.int far)) (some (.lst ((Uf n t i j k far).map mvV))) (some (.int wy))) S3:=W7 (Ye rfl rfl e3);have run:∀ (ms':List Mv4),ms'.length<=18001->(∀ X,X=(Qd (Z6 (toB (mOp oEq (Q4 10) (mC (.int 12)))) (Jm (Vs (Q4b (Q4 2) (Q10 (mC (.int 1)))))) J5) (Qd (Z6 (toB (mOp oEq (Q4 10) (mC (.int 13)))) (Jm (mOp J9 (mSl (Q4 2) Yc (Wi (Q4 3))) (mSl (Q4 2) (Wi (mOp J9 (Q4 3) (mC (.int 1)))) Yc))) J5)
  (Qd (Z6 (toB (mOp oEq (Q4 10) (mC (.int 14)))) (Jm (mOp J9 (Q4 2) (mSl (Q4 2) (Wi (Q4 3)) (Wi (mOp J9 (Q4 3) (mC (.int 1))))))) J5)
  (Jm (mOp J9 (mOp J9 (mSl (Q4 2) Yc (Wi (Q4 3))) (Um (Q2 (mOp oIx (Q4 9) (Q4 10)) Q9))) (mSl (Q4 2) (Wi (mOp J9 (Q4 3) (mC (.int 1)))) Yc))))))->X (bmΓ L n (ms.map mvV) (some (.int a)) (some (.int t)) (some (.int i)) (some (.int j)) (some (.int k)) (some (.int far)) (some (.lst ((Uf n t i j k far).map mvV))) (some (.int wy))) S3=.rt (.lst (ms'.map mvV)) S3)->∃ (ms':List Mv4) (S':Q3),ms'.length<=18001/\TapeAt S' L ns/\Mv L S S'/\Z1 [.ref L,.int n,.lst (ms.map mvV)] S=.ok (.lst (ms'.map mvV)) S':=fun ms' hl' e=>by
   refine ⟨ms',S3,hl',T3,hMv,go _ _ ?_⟩;unfold Z0;rw [Ja,t0];show Qd _ _ _ _=_;rw [Ja,t1];show Qd _ _ _ _=_;rw [Ja,t2];show Qd _ _ _ _=_;rw [Ja,t3];show Qd _ _ _ _=_;rw [Ja,t4];show Qd _ _ _ _=_;rw [Ja,t5];show Qd _ _ _ _=_;rw [Ja,t6];show Qd _ _ _ _=_;rw [Ja,t7];exact e _ rfl
  by_cases w12:wy=12
  ·subst w12;refine run ms.reverse (by rw [List.length_reverse]; omega) fun X hX=>?_
   rw [hX,List.map_reverse];unfold bmΓ;generalize (Uf n t i j k far).map mvV=bb at ⊢;generalize ms.map mvV=mm at ⊢;simp -implicitDefEqProofs [Q4b]
  ·by_cases w13:wy=13
   ·subst w13;refine run (ms.take a ++ ms.drop (a + 1)) (by rw [D0,F7,L3]; omega) fun X hX=>?_
    have a3:=Qci S3 ((ms.take a).map mvV) ((ms.drop (a + 1)).map mvV) (by rw [O3,O3,F7,L3]; omega);rw [hX,E5];unfold bmΓ;generalize (Uf n t i j k far).map mvV=bb at cF cB a3 ⊢;generalize (ms.take a).map mvV=m1 at cF cB a3 ⊢;generalize (ms.drop (a + 1)).map mvV=m2 at cF cB a3 ⊢;generalize ms.map mvV=mm at cF cB a3 ⊢;simp -implicitDefEqProofs [cF,cB,a3]
   ·by_cases w14:wy=14
    ·subst w14;refine run (ms ++ mid) (by rw [D0]; omega) fun X hX=>?_
     have a3:=Qci S3 (ms.map mvV) (mid.map mvV) (by rw [O3,O3]; omega);rw [hX,E5];unfold bmΓ;generalize (Uf n t i j k far).map mvV=bb at cM a3 ⊢;generalize mid.map mvV=m1 at cM a3 ⊢;generalize ms.map mvV=mm at cM a3 ⊢;simp -implicitDefEqProofs [cM,a3]
    ·obtain ⟨bm,hbm⟩:∃ bm,(Uf n t i j k far)[wy]?=some bm:=⟨_,O2 (show wy < (Uf n t i j k far).length by show wy < 12; omega)⟩;have hbx:oIx S3 (.lst ((Uf n t i j k far).map mvV)) (.int wy)=.ok (mvV bm) S3:=Vu (xs:=(Uf n t i j k far).map mvV) (.inl rfl) (by rw [D6,hbm]; rfl);refine run (ms.take a ++ [bm] ++ ms.drop (a + 1)) (by simp only [D0,F7,L3,E1,G7]; omega) fun X hX=>?_
     have a3:=Qci S3 ((ms.take a).map mvV) [mvV bm] (by rw [O3,F7]; simp; omega);have a4:=Qci S3 ((ms.take a).map mvV ++ [mvV bm]) ((ms.drop (a + 1)).map mvV) (by simp only [D0,O3,F7,L3,E1,G7]; omega);rw [hX,E5,E5,O6,List.map_nil];have v12:¬ ((wy:Int)=12):=by omega
     have v13:¬ ((wy:Int)=13):=by omega
     have v14:¬ ((wy:Int)=14):=by omega
     unfold bmΓ;generalize (ms.take a).map mvV ++ [mvV bm] ++ (ms.drop (a + 1)).map mvV=m3 at w12 w13 w14 v12 v13 v14 cF cB hbx a3 a4 ⊢;generalize (ms.take a).map mvV ++ [mvV bm]=m4 at w12 w13 w14 v12 v13 v14 cF cB hbx a3 a4 ⊢;generalize (Uf n t i j k far).map mvV=bb at w12 w13 w14 v12 v13 v14 cF cB hbx a3 a4 ⊢;generalize (ms.take a).map mvV=m1 at w12 w13 w14 v12 v13 v14 cF cB hbx a3 a4 ⊢;generalize (ms.drop (a + 1)).map mvV=m2 at w12 w13 w14 v12 v13 v14 cF cB hbx a3 a4 ⊢;generalize ms.map mvV=mm at w12 w13 w14 v12 v13 v14 cF cB hbx a3 a4 ⊢;generalize mvV bm=bv at w12 w13 w14 v12 v13 v14 cF cB hbx a3 a4 ⊢;simp -implicitDefEqProofs [w12,w13,w14,v12,v13,v14,cF,cB,hbx,a3,a4,Qp,-Q5h]
theorem Qbw {α:Type} (g:α->PV) {xs:List α} (I:Nat->Gam->Q3->Prop) (Rt:PV->Q3->Prop) {ga:GA} {body:MS} {w:Wt} (hw:∀ i Γ st,I i Γ st->wOk w st)
  (h:∀ (i:Nat) x Γ st,xs[i]?=some x->I i Γ st->∃ Γ1,ga (g x) Γ=some Γ1/\((∃ Γ2 st2,body Γ1 st=.nx Γ2 st2/\I (i + 1) Γ2 st2)\/∃ v st2,body Γ1 st=.rt v st2/\Rt v st2)) {Γ:Gam} {st:Q3} (h0:I 0 Γ st) :
  (∃ Γ' st',Zr ga body w (xs.map g) Γ st=.nx Γ' st'/\I xs.length Γ' st')\/∃ v st',Zr ga body w (xs.map g) Γ st=.rt v st'/\Rt v st':=by
 induction xs generalizing I Γ st with
 | nil=>exact .inl ⟨Γ,st,by simp [Zr,hw 0 Γ st h0],h0⟩
 | cons x xs ih=>
  obtain ⟨Γ1,h1,h2⟩:=h 0 x Γ st rfl h0;rw [O6,Zr,bS (hw 0 Γ st h0),h1];rcases h2 with ⟨Γ2,st2,e2,i2⟩ | ⟨v,st2,e2,r2⟩
  ·have:=ih (fun i=>I (i + 1)) (fun i Γ st z=>hw (i + 1) Γ st z) (fun i y Γ st hy z=>h (i + 1) y Γ st (by simpa using hy) z) i2
   simp only [e2];rcases this with ⟨Γ',st',e3,i3⟩ | ⟨v,st',e3,r3⟩
   ·exact .inl ⟨Γ',st',e3,by simpa using i3⟩
   ·exact .inr ⟨v,st',e3,r3⟩
  ·simp only [e2];exact .inr ⟨v,st2,rfl,r2⟩
@[simp] theorem Qig (ma:ME) (Γ:Gam) (st:Q3):Q2n ma Γ st=(ma Γ st).bind fun p st1=>match Q56 st1 p with
 | some ns=>if ns.length<=4000/\(Wd ns).length < 64 then .ok (.lst ((Xa (Wd ns)).map PV.int)) st1 else .stuck
 | none=>.stuck:=rfl
def Zg (L:List Nat):List PV:=L.map fun k:Nat=>.int (k:Int)
theorem Qad (L:List Nat) (x:Nat) (st:Q3):oIn false st (.int x) (.lst (Zg L))=.ok (.bl (decide (x∈L))) st:=by
 have e1:Wx st (.lst (Zg L))=some (Zg L):=rfl;have e2:der st (.int x)=.int x:=rfl;have g1:(Zg L).all (Jq dep)=true:=by
  unfold Zg;rw [List.all_map,E9];intro y _; rfl
 have g2:Jq dep (.int (x:Int))=true:=rfl;have e3:((Zg L).any fun y=>peq y (.int x))=decide (x∈L):=by
  unfold Zg;rw [List.any_map,Bool.eq_iff_iff,List.any_eq_true,decide_eq_true_eq];constructor
  ·rintro ⟨y,hy,e⟩;have:(y:Int)=x:=by simpa [peq] using e
   have:y=x:=by omega
   rw [<- this]; exact hy
  ·intro h; exact ⟨x,h,by simp [peq]⟩
 unfold oIn;rw [e1,e2];simp only [g1,g2,and_self,if_true,e3];simp
theorem Q98 (L:List Nat):Kg (Zg L)=some (L.map fun k:Nat=>(k:Int)):=by
 induction L with
 | nil=>rfl
 | cons a L ih=>
  show (Kg (Zg L)).map ((a:Int) :: ·)=_;rw [ih]; rfl
theorem Qed {K:Type} [DecidableEq K] (ks:List K) (x:K):x∈Wd ks <-> x∈ks:=by
 have key:∀ (ks acc:List K),x∈ks.foldl yb acc <-> x∈acc\/x∈ks:=by
  intro ks
  induction ks with
  | nil=>intro acc; simp
  | cons k ks ih=>
   intro acc;rw [List.foldl_cons,ih,D3];unfold yb
   by_cases z:k∈acc
   ·rw [bS z];constructor
    ·rintro (h | h)
     ·exact .inl h
     ·exact .inr (.inr h)
    ·rintro (h | rfl | h)
     ·exact .inl h
     ·exact .inl z
     ·exact .inr h
   ·rw [bT z,E3,F3,or_assoc]
 unfold Wd;rw [key]; simp
theorem Q92 {K:Type} [DecidableEq K] (ks:List K):(Wd ks).Nodup:=by
 have key:∀ (ks acc:List K),acc.Nodup->(ks.foldl yb acc).Nodup:=by
  intro ks
  induction ks with
  | nil=>intro acc h; exact h
  | cons k ks ih=>
   intro acc h;rw [List.foldl_cons];apply ih;unfold yb
   split
   ·exact h
   ·rename_i z;rw [List.nodup_append];exact ⟨h,by simp,fun a ha b hb=>by rw [F3.mp hb]; exact fun e=>z (e ▸ ha)⟩
 exact key ks [] List.nodup_nil
theorem Xr:∀ {n:Nat} {L:List Nat},L.Nodup->(∀ x∈L,x < n)->L.length<=n
 | 0,[],_,_=>O9 _
 | 0,x :: L,_,h=>absurd (h x (by simp)) (Nat.not_lt_zero _)
 | n + 1,L,nd,h=>by
  by_cases z:n∈L
  ·have h1:=Xr (n:=n) (L:=L.erase n) (nd.erase n) fun x hx=>by
    have:=h x (List.mem_of_mem_erase hx);have:x≠n:=fun e=>by rw [e] at hx; exact (List.Nodup.not_mem_erase nd) hx
    omega
   rw [List.length_erase_of_mem z] at h1;omega
  ·have:=Xr (n:=n) nd fun x hx=>by
    have:=h x hx;have:x≠n:=fun e=>z (e ▸ hx)
    omega
   omega
theorem Q6d {n:Nat} {L:List Nat} (h:∀ x∈L,x < n) (hl:L.length<=1000) (hn:n<=60):∃ L':List Nat,L'.Nodup/\(∀ x,x∈L' <-> x∈L)/\(∀ st,Q56 st (.lst (Zg L))=some (L.map fun k:Nat=>(k:Int)))/\(Wd (L.map fun k:Nat=>(k:Int))).length < 64/\(Xa (Wd (L.map fun k:Nat=>(k:Int)))).map PV.int=Zg L':=by
 have nd:=Q92 (L.map fun k:Nat=>(k:Int))
 have pm:=Kr (Wd (L.map fun k:Nat=>(k:Int)))
 have mem:∀ y:Int,y∈Xa (Wd (L.map fun k:Nat=>(k:Int))) <-> ∃ k∈L,(k:Int)=y:=fun y=>by
  rw [pm.mem_iff,Qed,List.mem_map]
 have hM:∀ M:List Int,(∀ y∈M,∃ k∈L,(k:Int)=y)->(M.map Int.toNat).map (fun k:Nat=>(k:Int))=M:=by
  intro M hM;rw [G6];refine (List.map_congr_left fun y hy=>?_).trans (List.map_id M);obtain ⟨k,_,rfl⟩:=hM y hy;rfl
 have e0:=hM (Xa (Wd (L.map fun k:Nat=>(k:Int)))) fun y hy=>(mem y).mp hy
 have nds:(Xa (Wd (L.map fun k:Nat=>(k:Int)))).Nodup:=pm.symm.nodup nd
 obtain ⟨L',hL'⟩:∃ L':List Nat,(Xa (Wd (L.map fun k:Nat=>(k:Int)))).map Int.toNat=L':=⟨_,rfl⟩
 rw [hL'] at e0;have m2:∀ x,x∈L' <-> x∈L:=fun x=>by
  rw [<- hL',List.mem_map];constructor
  ·rintro ⟨y,hy,rfl⟩;obtain ⟨k,hk,rfl⟩:=(mem y).mp hy;simpa using hk
  ·intro hx;exact ⟨(x:Int),(mem _).mpr ⟨x,hx,rfl⟩,by simp⟩
 have nd2:L'.Nodup:=by
  rw [<- e0] at nds;exact (List.pairwise_map.mp nds).imp fun hne e=>hne (congrArg _ e)
 refine ⟨L',nd2,m2,fun st=>?_,?_,?_⟩
 ·show (Za st (.lst (Zg L))).bind Kg=_;show (some (Zg L)).bind Kg=_;exact Q98 L
 ·have h1:=Xr nd2 fun x hx=>h x ((m2 x).mp hx)
  have h2:L'.length=(Wd (L.map fun k:Nat=>(k:Int))).length:=by rw [<- pm.length_eq,<- e0,O3]
  omega
 ·rw [<- e0];unfold Zg;rw [G6]; rfl
abbrev fsΓ (V:PV) (i a j:Nat) (th tu:Option PV):Gam:=[some V,some (.int i),some (.int a),some (.int j),th,tu]
theorem Pa.step {rss:List (List (Nat × Nat))} {i a k t:Nat} {rs:List (Nat × Nat)} (hr:rss[t]?=some rs) (ha:a<=t):Pa rss i a k (t + 1) <-> Pa rss i a k t\/∃ j,Pa rss i a j t/\(j,k)∈rs:=by
 constructor
 ·intro h;generalize ht:t + 1=u at h;cases h with
  | refl=>omega
  | wait h hb=>
   have:t=_:=Nat.succ.inj ht;subst this;exact .inl h
  | move h hr' hm=>
   have:t=_:=Nat.succ.inj ht;subst this;rw [hr] at hr';cases hr';exact .inr ⟨_,h,hm⟩
 ·rintro (h | ⟨j,h,hm⟩)
  ·exact h.wait (O0.mp hr).1
  ·exact h.move hr hm
theorem Qku (S:Q3) (o:Option Nat):fin S (moV o) S=.ok (moV o) S:=by
 cases o <;> simp [fin,fz,moV]
theorem Q7t {V:PV} {rss:List (List (Nat × Nat))} {S:Q3} (hV:ListAt S V (rss.map Qs)) (hlen:rss.length<=40) {n:Nat} (hn8:n<=8) (hrs:∀ rs∈rss,RsOk n rs) {i a j:Nat} (hi:i < n) (ha:a<=rss.length) :
  Zi [V,.int i,.int a,.int j] S=.ok (moV (Zp rss i a j)) S:=by
 have hL:Zc S [V]=.ok (.int rss.length) S:=by rw [hV.len,O3]
 have key:=Qbw (g:=fun k:Nat=>PV.int ((a:Int) + (k:Int))) (xs:=List.range (rss.length + 1 - a)) (ga:=Q6 5) (body:=Jj) (w:=[]) (Γ:=fsΓ V i a j (some (.lst (Zg [i]))) none) (st:=S)
  (fun k Γ st=>∃ (L:List Nat) (tu:Option PV),Γ=fsΓ V i a j (some (.lst (Zg L))) tu/\S=st/\L.Nodup/\(∀ x∈L,x < n)/\(∀ x,k<=rss.length - a->(x∈L <-> Pa rss i a x (a + k)))/\∀ t,a<=t->t < a + k->¬ Pa rss i a j t)
  (fun v st=>v=moV (Zp rss i a j)/\S=st) (fun _ _ _ _=>by simp)
  (fun k x Γ st hx ⟨L,tu,e1,e2,nd,lt,mem,no⟩=>by
   subst e1; subst e2;have hk:k < rss.length + 1 - a:=by simpa using (O0.mp hx).1
   have hxk:x=k:=by
    rw [List.getElem?_range hk] at hx;exact (Option.some.inj hx).symm
   subst hxk;have mem0:=fun y=>mem y (by omega)
   refine ⟨_,rfl,?_⟩;have hin:=Qad L j S;obtain ⟨tt,htt⟩:∃ tt:Int,(a:Int) + (x:Int)=tt:=⟨_,rfl⟩
   by_cases hj:j∈L
   ·right
    refine ⟨.int tt,S,?_,?_,rfl⟩
    ·rw [bV hj] at hin;rw [htt];show Jj [some V,some (.int i),some (.int a),some (.int j),some (.lst (Zg L)),some (.int tt)] S=_;simp -implicitDefEqProofs [Jj,hin]
    ·have hp:=(mem0 j).mp hj;obtain ⟨b,hb,hle⟩:=Qev hp;have h1:=(je hb).1;have:b=a + x:=by
      rcases Nat.lt_or_ge b (a + x) with z | z
      ·exact absurd h1 (no b h1.le z)
      ·omega
     rw [hb,this,<- htt];show PV.int _=PV.int ((a + x:Nat):Int)
     push_cast; rfl
   ·left
    rw [bU hj] at hin;have noj:¬ Pa rss i a j (a + x):=fun z=>hj ((mem0 j).mpr z)
    by_cases hlast:a + x < rss.length
    ·have hr:rss[a + x]?=some rss[a + x]:=O2 hlast;have hix:oIx S V (.int tt)=.ok (Qs rss[a + x]) S:=by
      rw [<- htt,show (a:Int) + (x:Int)=((a + x:Nat):Int) by push_cast; rfl,hV.ix,qd,Sm.atI_get hr]; rfl
     have hlt:tt < (rss.length:Int):=by omega
     have ok:=hrs _ (List.getElem_mem hlast);obtain ⟨rs,hrs'⟩:∃ rs,rss[a + x]=rs:=⟨_,rfl⟩;rw [hrs'] at hr hix ok;have hc:Jc (Jn (Qb (Q6 0) (Qb (Q6 1) Jp))) U6 Ue [] (Zk [none,none,some 4] [some V,some (.int i),some (.int a),some (.int j),some (.lst (Zg L)),some (.int tt)]) (rs.map rdV) S=.ok ((rs.filter fun r=>decide (r.1∈L)).map fun r=>.int (r.2:Int)) S:=by
      refine Kj rdV (fun r=>.int (r.2:Int)) (fun r=>decide (r.1∈L)) (by simp) fun r hr=>⟨_,rfl,?_,fun _=>?_⟩
      ·have:=Qad L r.1 S;simp -implicitDefEqProofs [Zk,U6,this]
      ·simp -implicitDefEqProofs [Zk,Ue]
     obtain ⟨new,hnew⟩:∃ new:List Nat,(rs.filter fun r=>decide (r.1∈L)).map (fun r=>r.2)=new:=⟨_,rfl⟩
     have hcn:((rs.filter fun r=>decide (r.1∈L)).map fun r=>PV.int (r.2:Int))=Zg new:=by
      rw [<- hnew]; unfold Zg; rw [G6]; rfl
     rw [hcn] at hc;have hnl:new.length<=100:=by
      rw [<- hnew,O3];exact E7 (List.length_filter_le _ _) ok.len
     have mnew:∀ y,y∈new <-> ∃ r∈rs,r.1∈L/\r.2=y:=fun y=>by
      rw [<- hnew,List.mem_map];constructor
      ·rintro ⟨r,hr,rfl⟩;obtain ⟨h1,h2⟩:=List.mem_filter.mp hr;exact ⟨r,h1,by simpa using h2,rfl⟩
      ·rintro ⟨r,h1,h2,rfl⟩;exact ⟨r,List.mem_filter.mpr ⟨h1,by simpa using h2⟩,rfl⟩
     have hll:=Xr nd lt;have lt2:∀ y∈L ++ new,y < n:=fun y hy=>by
      rcases E3.mp hy with hy | hy
      ·exact lt y hy
      ·obtain ⟨r,h1,_,rfl⟩:=(mnew y).mp hy;exact (ok.ok r h1).2.1
     obtain ⟨L',nd',m',s1,s2,s3⟩:=Q6d lt2 (by rw [D0]; omega) (by omega);have happ:Zg L ++ Zg new=Zg (L ++ new):=by unfold Zg; rw [E5]
     have hz:(Zg L).length + (Zg new).length<=1000000:=by unfold Zg; rw [O3,O3]; omega
     have s1:=s1 S;have had:J9 S (.lst (Zg L)) (.lst (Zg new))=.ok (.lst (Zg (L ++ new))) S:=by
      rw [<- happ];exact bS (show _<=lim from hz)
     have hml:(List.map (fun k:Nat=>(k:Int)) (L ++ new)).length<=4000:=by rw [O3,D0]; omega
     refine ⟨fsΓ V i a j (some (.lst (Zg L'))) (some (.int tt)),S,?_,L',_,rfl,rfl,nd',fun y hy=>lt2 y ((m' y).mp hy),fun y hle=>?_,fun t h1 h2=>?_⟩
     ·rw [htt];show Jj [some V,some (.int i),some (.int a),some (.int j),some (.lst (Zg L)),some (.int tt)] S=_;have hrl:(rs.map rdV).length<=1000000:=by rw [O3]; have:=ok.len; omega
      unfold Qs at hix;generalize Zg new=nv at hin hL hlt hix hc hrl had s1 s2 s3 hml ⊢;generalize rs.map rdV=rv at hin hL hlt hix hc hrl had s1 s2 s3 hml ⊢;generalize List.map (fun k:Nat=>(k:Int)) (L ++ new)=mm at hin hL hlt hix hc hrl had s1 s2 s3 hml ⊢
      simp -implicitDefEqProofs [Jj,hin,hL,hlt,hix,hc,Qp,hrl,had,s1,s2,s3,hml]
     ·rw [m' y,E3,mnew y,mem0 y,show a + (x + 1)=(a + x) + 1 by omega,Pa.step hr (Nat.le_add_right _ _)];constructor
      ·rintro (h | ⟨r,h1,h2,rfl⟩)
       ·exact .inl h
       ·exact .inr ⟨r.1,(mem0 _).mp h2,h1⟩
      ·rintro (h | ⟨k,h1,h2⟩)
       ·exact .inl h
       ·exact .inr ⟨(k,y),h2,(mem0 k).mpr h1,rfl⟩
     ·by_cases z:t=a + x
      ·rw [z]; exact noj
      ·exact no t h1 (by omega)
    ·have hge:¬ tt < (rss.length:Int):=by omega
     refine ⟨fsΓ V i a j (some (.lst (Zg L))) (some (.int tt)),S,?_,L,_,rfl,rfl,nd,lt,fun y hle=>absurd hle (by omega),fun t h1 h2=>?_⟩
     ·rw [htt];show Jj [some V,some (.int i),some (.int a),some (.int j),some (.lst (Zg L)),some (.int tt)] S=_;simp -implicitDefEqProofs [Jj,hin,hL,hge]
     ·by_cases z:t=a + x
      ·rw [z]; exact noj
      ·exact no t h1 (by omega))
  ⟨[i],none,rfl,rfl,by simp,fun x hx=>by rw [F3.mp hx]; exact hi,fun x _=>by
   rw [F3,Nat.add_zero];constructor
   ·rintro rfl; exact .refl _ _
   ·intro h;generalize hb:a=b at h;cases h with
    | refl=>rfl
    | wait h _=>have:=h.le; omega
    | move h _ _=>have:=h.le; omega,fun t h1 h2=>by omega⟩
 have hrg:Zn (a:Int) (rss.length + 1 - a)=(List.range (rss.length + 1 - a)).map fun k:Nat=>PV.int ((a:Int) + (k:Int)):=Q42 _ _
 rw [<- hrg] at key;obtain ⟨m,hm⟩:∃ m:Nat,m=rss.length + 1:=⟨_,rfl⟩;have hmi:(rss.length:Int) + 1=(m:Int):=by omega
 rw [<- hm] at key;have hb:-1000000<=(a:Int)/\(a:Int)<=1000000/\-1000000<=(m:Int)/\(m:Int)<=1000000:=by omega
 have h1:PV.lst [.int (i:Int)]=.lst (Zg [i]):=rfl;have step:Yv [some V,some (.int i),some (.int a),some (.int j),none,none] S=.rt (moV (Zp rss i a j)) S:=by
  obtain ⟨b1,b2,b3,b4⟩:=hb;rcases key with ⟨Γ',st',e,L,tu,rfl,rfl,nd,lt,mem,no⟩ | ⟨v,st',e,rfl,rfl⟩
  ·have hnone:Zp rss i a j=none:=by
    cases z:Zp rss i a j with
    | none=>rfl
    | some b=>
     have h1:=(je z).1;have h2:=Qew z ha;exact absurd h1 (no b h1.le (by rw [F8]; omega))
   rw [hnone];unfold fsΓ at e;rw [<- h1] at e;simp -implicitDefEqProofs [Yv,Qp,hL,hmi,b1,b2,b3,b4,e,moV]
  ·unfold fsΓ at e;rw [<- h1] at e;generalize moV (Zp rss i a j)=mv at hL hmi b1 b2 b3 b4 e ⊢;simp -implicitDefEqProofs [Yv,Qp,hL,hmi,b1,b2,b3,b4,e]
 show J2 Yv 6 _ S=_;unfold J2;rw [show (([V,.int i,.int a,.int j]:List PV).map some ++ List.replicate (6 - [V,.int i,.int a,.int j].length) none)=[some V,some (.int i),some (.int a),some (.int j),none,none] from rfl,step];exact Qku S (Zp rss i a j)
theorem Q8b (i:Nat) (f:Nat->Option Nat) (p:PV):qw (Jk i f) (.inl (i:Int)) p=Jk i f ++ [(.inl (i:Int),p)]:=Q6t _ (by rw [Q1r,bT (by omega)])
theorem Qfq (i:Nat) (f:Nat->Option Nat) (p q:PV):qw (Jk i f ++ [(.inl (i:Int),p)]) (.inl (i:Int)) q=Jk i f ++ [(.inl (i:Int),q)]:=by
 unfold qw;have h1:((Jk i f ++ [((.inl (i:Int):Key),p)]).any fun kv=>decide (kv.1=.inl (i:Int)))=true:=by simp
 rw [bS h1,E5];have h2:(Jk i f).map (fun kv=>if kv.1=(.inl (i:Int):Key) then (kv.1,q) else kv)=Jk i f:=by
  refine (List.map_congr_left fun kv hkv=>?_).trans (List.map_id _);unfold Jk at hkv;obtain ⟨k,hk,rfl⟩:=List.mem_map.mp hkv;have:k < i:=by simpa using hk
  have ne:¬ ((.inl (k:Int):Key)=.inl (i:Int)):=fun z=>by have:=Sum.inl.inj z; omega
  rw [bT ne]; rfl
 rw [h2]; simp
theorem Q3a (i:Nat) (f:Nat->Option Nat):Jk (i + 1) f=Jk i f ++ [(.inl (i:Int),moV (f i))]:=by unfold Jk; rw [List.range_succ,E5]; rfl
abbrev mmΓ (n:Nat) (V:PV) (h:Nat) (a b:Nat) (k:Option PV):Gam:=[some (.int n),some V,some (.int h),some (.ref a),some (.ref b),k]
theorem Qiv {S:Q3} {c d e:Cell}:(S ++ [c,d]).set S.length e=S ++ [e,d]:=by rw [List.set_append_right _ _ (O9 _),Nat.sub_self]; rfl
theorem Qd5 {S:Q3} {c d e:Cell}:(S ++ [c,d]).set (S.length + 1) e=S ++ [c,e]:=by rw [List.set_append_right _ _ (by omega),show S.length + 1 - S.length=1 by omega]; rfl
theorem Q91 {V:PV} {rss:List (List (Nat × Nat))} {S:Q3} (hV:ListAt S V (rss.map Qs)) (hlen:rss.length<=40) {n:Nat} (hn8:n<=8) (hrs:∀ rs∈rss,RsOk n rs) {h:Nat} (hh:h < n) :
  Ww [.int n,V,.int h] S=.ok (.tup [.ref S.length,.ref (S.length + 1)]) (S ++ [.dic (Jk n (Zp rss h 0)),.dic (Jk n (Uq rss h))]):=by
 obtain ⟨Γ',st',e,k',rfl,rfl⟩:=Vx (g:=fun k:Nat=>PV.int (k:Int)) (xs:=List.range n) (ga:=Q6 5) (body:=W2) (w:=[]) (Γ:=mmΓ n V h S.length (S.length + 1) none) (st:=S ++ [.dic [],.dic []])
  (fun i Γ st'=>∃ k',Γ=mmΓ n V h S.length (S.length + 1) k'/\st'=S ++ [.dic (Jk i (Zp rss h 0)),.dic (Jk i (Uq rss h))])
  (fun _ _ _ _=>by simp)
  (fun i x Γ st' hx ⟨k',e1,e2⟩=>by
   subst e1; subst e2;have hi:i < n:=by simpa using (O0.mp hx).1
   have hxi:x=i:=by
    rw [List.getElem?_range hi] at hx;exact (Option.some.inj hx).symm
   subst hxi;obtain ⟨A,hA⟩:∃ A,Jk x (Zp rss h 0)=A:=⟨_,rfl⟩;obtain ⟨B,hB⟩:∃ B,Jk x (Uq rss h)=B:=⟨_,rfl⟩;have la:A.length < 1000000:=by rw [<- hA,Q8c]; omega
   have lb8:B.length<=8:=by rw [<- hB,Q8c]; omega
   have lb:B.length < 1000000:=by omega
   have f1:=Q7t (Vj hV [.dic A,.dic B]) hlen hn8 hrs (i:=h) (a:=0) (j:=x) hh (Nat.zero_le _);have hAs:=Q8b x (Zp rss h 0) (moV (Zp rss h 0 x));rw [<- Q3a,hA] at hAs;have hBs:=Q8b x (Uq rss h) .non;rw [hB] at hBs;have p1:jg (S ++ [.dic A,.dic B]) (.ref S.length) (.int x) (moV (Zp rss h 0 x))=some (S ++ [.dic (Jk (x + 1) (Zp rss h 0)),.dic B]):=by
    rw [Q1h (kvs:=A) (by simp) la,Qiv,hAs]
   obtain ⟨A',hA'⟩:∃ A',Jk (x + 1) (Zp rss h 0)=A':=⟨_,rfl⟩;have g1:Xk (S ++ [.dic A',.dic (B ++ [(.inl (x:Int),.non)])]) (.ref S.length) (.int x)=.ok (moV (Zp rss h 0 x)) (S ++ [.dic A',.dic (B ++ [(.inl (x:Int),.non)])]):=by
    rw [<- hA'];exact xt (n:=x + 1) ⟨S.length,rfl,.inl (by simp)⟩ (Nat.lt_succ_self x)
   have p2:jg (S ++ [.dic A',.dic B]) (.ref (S.length + 1)) (.int x) .non=some (S ++ [.dic A',.dic (B ++ [(.inl (x:Int),.non)])]):=by
    rw [Q1h (kvs:=B) (by simp) lb,Qd5,hBs]
   rw [hA'] at p1;refine ⟨_,rfl,mmΓ n V h S.length (S.length + 1) (some (.int x)),S ++ [.dic A',.dic (Jk (x + 1) (Uq rss h))],?_,_,rfl,by rw [hA']⟩;rw [hA,hB];rw [show List.set (mmΓ n V h (List.length S) (List.length S + 1) k') 5 (some (PV.int x))=[some (.int n),some V,some (.int h),some (.ref S.length),some (.ref (S.length + 1)),some (.int x)] from rfl];unfold mmΓ;have hf0:Zi [V,.int h,.int 0,.int x] (S ++ [.dic A,.dic B])=.ok (moV (Zp rss h 0 x)) (S ++ [.dic A,.dic B]):=f1;cases hf:Zp rss h 0 x with
   | none=>
    have hB':Jk (x + 1) (Uq rss h)=B ++ [(.inl (x:Int),.non)]:=by
     rw [Q3a,hB];have:Uq rss h x=none:=by unfold Uq; rw [hf]
     rw [this]; rfl
    rw [hB'];rw [hf] at p1 g1 hf0;have p1:jg (S ++ [.dic A,.dic B]) (.ref S.length) (.int x) .non=some (S ++ [.dic A',.dic B]):=p1;have g1:Xk (S ++ [.dic A',.dic (B ++ [(.inl (x:Int),.non)])]) (.ref S.length) (.int x)=.ok .non (S ++ [.dic A',.dic (B ++ [(.inl (x:Int),.non)])]):=g1;have hf0:Zi [V,.int h,.int 0,.int x] (S ++ [.dic A,.dic B])=.ok .non (S ++ [.dic A,.dic B]):=hf0;generalize S ++ [Cell.dic A,Cell.dic B]=S1 at *;generalize S ++ [Cell.dic A',Cell.dic B]=S2 at *;generalize S ++ [Cell.dic A',Cell.dic (B ++ [(Sum.inl (x:Int),PV.non)])]=S3 at *;generalize S.length + 1=sl1 at *;generalize S.length=sl at *;simp -implicitDefEqProofs [W2,hf0,p1,p2,g1,jc]
   | some a=>
    have hal:=(Qew hf (Nat.zero_le _)).1;have f2:=Q7t (Vj hV [.dic A',.dic (B ++ [(.inl (x:Int),.non)])]) hlen hn8 hrs (i:=x) (a:=a) (j:=h) hi hal;have hBo:=Qfq x (Uq rss h) .non (moV (Zp rss x a h));rw [hB] at hBo;have hB':Jk (x + 1) (Uq rss h)=B ++ [(.inl (x:Int),moV (Zp rss x a h))]:=by
     rw [Q3a,hB];have:Uq rss h x=Zp rss x a h:=by unfold Uq; rw [hf]
     rw [this]
    have p3:jg (S ++ [.dic A',.dic (B ++ [(.inl (x:Int),.non)])]) (.ref (S.length + 1)) (.int x) (moV (Zp rss x a h))=some (S ++ [.dic A',.dic (Jk (x + 1) (Uq rss h))]):=by
     rw [Q1h (kvs:=B ++ [(.inl (x:Int),.non)]) (by simp) (by rw [D0]; simp; omega),Qd5,hBo,hB']
    rw [hf] at p1 g1 hf0;have p1:jg (S ++ [.dic A,.dic B]) (.ref S.length) (.int x) (.int a)=some (S ++ [.dic A',.dic B]):=p1;have g1:Xk (S ++ [.dic A',.dic (B ++ [(.inl (x:Int),.non)])]) (.ref S.length) (.int x)=.ok (.int a) (S ++ [.dic A',.dic (B ++ [(.inl (x:Int),.non)])]):=g1;have hf0:Zi [V,.int h,.int 0,.int x] (S ++ [.dic A,.dic B])=.ok (.int a) (S ++ [.dic A,.dic B]):=hf0;generalize moV (Zp rss x a h)=mv at *;generalize Jk (x + 1) (Uq rss h)=B'' at *;generalize S ++ [Cell.dic A,Cell.dic B]=S1 at *;generalize S ++ [Cell.dic A',Cell.dic B]=S2 at *;generalize S ++ [Cell.dic A',Cell.dic (B ++ [(Sum.inl (x:Int),PV.non)])]=S3 at *;generalize S ++ [Cell.dic A',Cell.dic B'']=S4 at *;generalize S.length + 1=sl1 at *;generalize S.length=sl at *;simp -implicitDefEqProofs [W2,hf0,p1,p2,g1,jc,f2,p3])
  ⟨none,rfl,by unfold Jk; rfl⟩
 rw [F8] at e;rw [<- Wp] at e;have hb:-1000000<=(n:Int)/\(n:Int)<=1000000:=by omega
 have step:Yu [some (.int n),some V,some (.int h),none,none,none] S=.rt (.tup [.ref S.length,.ref (S.length + 1)]) (S ++ [.dic (Jk n (Zp rss h 0)),.dic (Jk n (Uq rss h))]):=by
  unfold mmΓ at e;have d0:∀ (Γ:Gam) (T:Q3),Q2p Γ T=.ok (.ref T.length) (T ++ [.dic []]):=fun _ _=>rfl
  have e0:S ++ [Cell.dic []] ++ [Cell.dic []]=S ++ [.dic [],.dic []]:=by simp
  have e1:(S ++ [Cell.dic []]).length=S.length + 1:=by simp
  generalize S ++ [Cell.dic (Jk n (Zp rss h 0)),Cell.dic (Jk n (Uq rss h))]=S9 at *;simp -implicitDefEqProofs [Yu,d0,e0,e1,hb,Qp,e]
 show Wc Yu 6 _ S=_;unfold Wc;rw [show (([.int n,V,.int h]:List PV).map some ++ List.replicate (6 - [PV.int n,V,.int h].length) none)=[some (.int n),some V,some (.int h),none,none,none] from rfl,step]
abbrev Yy (ns:List Int) (b2 b3 b4 b5 b6 b7 b8 b9 b10 b11 b12 b13 b14 b15 b16 b17 b18 b19:Option PV):Gam:=[some (.fro (ns.map .int)),some (.ref 0),b2,b3,b4,b5,b6,b7,b8,b9,b10,b11,b12,b13,b14,b15,b16,b17,b18,b19]
theorem Q5v {S:Q3} {W:PV} {xs:List PV} (hW:ListAt S W xs) (hnf:∀ l,W≠.fro l) (hg:Jq dep (.lst xs)=true):eqM S (.lst xs) W=some true:=by
 have d2:der S (.lst xs)=.lst xs:=rfl;have d1:der S W=.lst xs:=by
  rcases hW with rfl | rfl | ⟨i,rfl,e⟩
  ·rfl
  ·exact absurd rfl (hnf _)
  ·simp [der,e]
 unfold eqM;rw [d1,d2,bS ⟨hg,hg⟩,yn hg]
theorem Qkb {ns:List Int} {n:Nat} (hn1:1<=n) (hn:n<=8) {rss:List (List (Nat × Nat))} (hlen:rss.length<=40) (hrs:∀ rs∈rss,RsOk n rs) {S:Q3} {R A h:Nat} (hR:S[R]?=some (.lst (rss.map Qs))) (hA:S[A]?=some (.dic (Jk n (Zp rss h 0)))) (hh:h < n) {xs:List Int} (hx:xs.length=n) {W:PV} {ms:List Mv4} (hml:ms.length<=100000) (hW:ListAt S W (ms.map mvV)) (hnf:∀ l,W≠.fro l) (am by':Int) (b2 b3 b4 b9 b10 b11 b12 b13 b14 b18 b19:Option PV) :
  ∃ c18 c19,Q1j (Yy ns b2 b3 b4 (some (.ref R)) (some (.int h)) (some (.tup (xs.map .int))) (some (.ref A)) b9 b10 b11 b12 b13 b14 (some (.int am)) (some (.int by')) (some W) b18 b19) S=.nx (Yy ns b2 b3 b4 (some (.ref R)) (some (.int h)) (some (.tup (xs.map .int))) (some (.ref A)) b9 b10 b11 b12 b13 b14 (some (.int am)) (some (.int by')) (some W) c18 c19) S:=by
 have hV:ListAt S (.ref R) (rss.map Qs):=.inr (.inr ⟨R,rfl,hR⟩);have c1:Kk S [.ref R]=.ok (.lst (rss.map Qs)) S:=hV.list;have c2:Kk S [W]=.ok (.lst (ms.map mvV)) S:=hW.list;have g:=Qes hn1 hn hlen hrs (V:=.lst (rss.map Qs)) (S:=S) (.inl rfl) hh hx hml am by';have j:=Qbn hn hlen hrs hV (A:=.ref A) (f:=Zp rss h 0) ⟨_,rfl,.inl hA⟩ hh hx hml hW am by';have hg1:Jq dep (.lst (rss.map Qs))=true:=by simp [Jq,dep,Qs,rdV]
 have hg2:Jq dep (.lst (ms.map mvV))=true:=by simp [Jq,dep,mvV,Qct]
 have ne:Qe8 S (.lst [.lst (rss.map Qs),.lst (ms.map mvV)]) (.lst [.ref R,W])=.ok (.bl false) S:=by
  unfold Qe8;simp only [Qbz,Q5v hV (fun l z=>by cases z) hg1,Q5v hW hnf hg2];rfl
 have hne:∀ b:Bool,oNe S (.bl b) (.bl b)=.ok (.bl false) S:=fun b=>by cases b <;> rfl
 refine ⟨some (.lst [.lst (rss.map Qs),.lst (ms.map mvV)]),some (.bl (Q4g rss (Zp rss h 0) h xs am by' ms)),?_⟩;generalize Q4g rss (Zp rss h 0) h xs am by' ms=bb at *;have hne:=hne bb;unfold Yy;generalize rss.map Qs=rv at c1 c2 g ne j hne ⊢;generalize ms.map mvV=mm at c1 c2 g ne j hne ⊢;generalize xs.map PV.int=xv at c1 c2 g ne j hne ⊢;generalize ns.map PV.int=nv at c1 c2 g ne j hne ⊢;simp -implicitDefEqProofs [Q1j,c1,c2,Qp,atI,ixN,g,isI,tyN,ne,j,hne,-Qak]
structure Ask where
 am:Int
 by':Int
 W:PV
def U5 (a:Ask):PV:=.tup [.int a.am,.int a.by',a.W]
def Qqr (S:Q3) (a:Ask):Prop:=∃ ms:List Mv4,ms.length<=100000/\ListAt S a.W (ms.map mvV)/\∀ l,a.W≠.fro l
theorem Qqp {ns:List Int} {S:Q3} (T:TapeAt S 0 ns) {Q:Nat} (hQ0:Q≠0) {as:List Ask} (hQ:S[Q]?=some (.lst (as.map U5))) (hal:as.length<=100) (n:Nat) {ms:List Mv4} (hml:ms.length<=9000) (mo th tu:Int) (b2 b4 b5 b6 b7 b8 b9 b15 b16 b17 b18 b19:Option PV) :
  ∃ (S':Q3) (ms':List Mv4) (am:Int),ms'.length<=18001/\TapeAt S' 0 ns/\S'[Q]?=some (.lst ((as ++ [(⟨am,mo,.lst (ms'.map mvV)⟩:Ask)]).map U5))/\(∀ t,t≠0->t≠Q->S'[t]?=S[t]?)/\xr (Yy ns b2 (some (.int n)) b4 b5 b6 b7 b8 b9 (some (.int mo)) (some (.lst (ms.map mvV))) (some (.int th)) (some (.ref Q)) (some (.int tu)) b15 b16 b17 b18 b19) S=.nx (Yy ns b2 (some (.int n)) b4 b5 b6 b7 b8 b9 (some (.int mo)) (some (.lst (ms.map mvV))) (some (.int th)) (some (.ref Q)) (some (.int tu)) b15 b16 b17 b18 b19) S':=by
 obtain ⟨ms',S1,hm',T1,M1,e1⟩:=Qi0 T n hml;have hQ1:S1[Q]?=some (.lst (as.map U5)):=by rw [M1.keep Q hQ0]; exact hQ
 have hQl:=(O0.mp hQ1).1;obtain ⟨am,ham⟩:∃ am:Int,Q9m S [.int 1,.int (th - tu % 2)]=.ok (.int am) S:=⟨_,rfl⟩;refine ⟨S1.set Q (.lst ((as ++ [(⟨am,mo,.lst (ms'.map mvV)⟩:Ask)]).map U5)),ms',am,hm',T1.of (by rw [D8 hQ0]),D7 hQl,fun t h0 hq=>by rw [D8 (fun e=>hq e.symm),M1.keep t h0],?_⟩
 have hlo:Za S (.ref Q)=some (as.map U5):=by simp [hQ]
 have hch:chg S1 (.ref Q) (fun xs=>if xs.length < 1000000 then some (.non,xs ++ [.tup [.int am,.int mo,.lst (ms'.map mvV)]]) else none)=.ok .non (S1.set Q (.lst ((as ++ [(⟨am,mo,.lst (ms'.map mvV)⟩:Ask)]).map U5))):=by
  unfold chg;simp only [hQ1];rw [bS (by rw [O3]; omega),E5];rfl
 unfold Yy;generalize S1.set Q (.lst ((as ++ [(⟨am,mo,.lst (ms'.map mvV)⟩:Ask)]).map U5))=S9 at hlo ham e1 hch ⊢;generalize as.map U5=av at hlo ham e1 hch ⊢;generalize ms'.map mvV=m2 at hlo ham e1 hch ⊢;generalize ms.map mvV=mm at hlo ham e1 hch ⊢;generalize ns.map PV.int=nv at hlo ham e1 hch ⊢;simp -implicitDefEqProofs [xr,hlo,ham,e1,Qp,hch,-Kf,-Qaj,-Qfd]
theorem Qby {α:Type} (g:α->PV) {xs:List α} (I:Gam->Q3->Prop) {ga:GA} {body:MS} (h:∀ x Γ st,x∈xs->I Γ st->∃ Γ1,ga (g x) Γ=some Γ1/\∃ Γ2 st2,I Γ2 st2/\(body Γ1 st=.nx Γ2 st2\/body Γ1 st=.bk Γ2 st2)) {Γ:Gam} {st:Q3} (h0:I Γ st):∃ Γ' st',Zr ga body [] (xs.map g) Γ st=.nx Γ' st'/\I Γ' st':=by
 induction xs generalizing Γ st with
 | nil=>exact ⟨Γ,st,by simp [Zr],h0⟩
 | cons x xs ih=>
  obtain ⟨Γ1,h1,Γ2,st2,i2,e2⟩:=h x Γ st D9 h0;rw [O6,Zr,bS (by simp),h1];rcases e2 with e2 | e2
  ·simp only [e2];exact ih (fun y Γ st hy=>h y Γ st (O7 _ hy)) i2
  ·simp only [e2];exact ⟨Γ2,st2,rfl,i2⟩
theorem Qqm (Γ:Gam) (st:Q3):Q5n Γ st=.bk Γ st:=rfl
theorem Qsd {ns:List Int} (k:Nat) {S:Q3} (T:TapeAt S 0 ns) {n:Nat} (h1:1<=n) (h8:n<=8) (b5 b6 b7 b8 b9 b10 b11 b12 b13 b14 b15 b16 b17 b18 b19:Option PV) :
  ∃ (n' mo:Nat) (S':Q3),1<=n'/\n'<=8/\mo<=12/\TapeAt S' 0 ns/\(Z6 (Vf (toB (mOp oEq (Q4 2) (mC (.int 0)))) (toB (mOp oEq (Qi 2 Qc (Q2 (Q4 1) (Q2 (mC (.int 6)) Q9))) (mC (.int 0))))) (Qd (Qy 3 (mOp J9 (mC (.int 2)) (Qi 2 Qc (Q2 (Q4 1) (Q2 (mC (.int 2)) Q9)))))
  (Qy 4 (mC (.int 12)))) J5) (Yy ns (some (.int k)) (some (.int n)) (some (.int 6)) b5 b6 b7 b8 b9 b10 b11 b12 b13 b14 b15 b16 b17 b18 b19) S=.nx (Yy ns (some (.int k)) (some (.int n')) (some (.int mo)) b5 b6 b7 b8 b9 b10 b11 b12 b13 b14 b15 b16 b17 b18 b19) S':=by
 by_cases k0:k=0
 ·subst k0;obtain ⟨d,S1,hd,T1,_,e1⟩:=Jt T 6 (by decide) (by decide);rw [show ((6:Nat):Int)=6 from rfl] at e1
  by_cases d0:d=0
  ·subst d0;obtain ⟨x,S2,hx,T2,_,e2⟩:=Jt T1 2 (by decide) (by decide);rw [show ((2:Nat):Int)=2 from rfl] at e2;rw [show ((0:Nat):Int)=0 from rfl] at e1;refine ⟨2 + x,12,S2,by omega,by omega,by omega,T2,?_⟩;have hx7:(2:Int) + x=((2 + x:Nat):Int):=by push_cast; rfl
   have e12:((12:Nat):Int)=12:=rfl;rw [e12];unfold Yy;generalize ns.map PV.int=nv at e1 e2 ⊢;simp -implicitDefEqProofs [e1,e2]
  ·have d0':¬ ((d:Int)=0):=by omega
   refine ⟨n,6,S1,h1,h8,by omega,T1,?_⟩;have e12:((6:Nat):Int)=6:=rfl;rw [e12];unfold Yy;generalize ns.map PV.int=nv at e1 d0 d0' ⊢;simp -implicitDefEqProofs [e1,d0,d0']
 ·have k0':¬ ((k:Int)=0):=by omega
  refine ⟨n,6,S,h1,h8,by omega,T,?_⟩;have e12:((6:Nat):Int)=6:=rfl;rw [e12];unfold Yy;generalize ns.map PV.int=nv at k0 k0' ⊢;simp -implicitDefEqProofs [k0,k0']
def AskW (Mm:Nat) (a:Ask):Prop:=(∃ ms:List Mv4,ms.length<=100000/\a.W=.lst (ms.map mvV))\/a.W=.ref Mm
theorem AskW.ok {S:Q3} {Mm:Nat} {a:Ask} (h:AskW Mm a) {ms:List Mv4} (hml:ms.length<=9000) (hM:S[Mm]?=some (.lst (ms.map mvV))):Qqr S a:=by
 rcases h with ⟨m,h1,h2⟩ | h
 ·exact ⟨m,h1,.inl h2,fun l z=>by rw [h2] at z; cases z⟩
 ·exact ⟨ms,by omega,.inr (.inr ⟨Mm,h,hM⟩),fun l z=>by rw [h] at z; cases z⟩
structure St42 (ns:List Int) (rss:List (List (Nat × Nat))) (n h R A Mm Q:Nat) (ms:List Mv4) (as:List Ask) (S:Q3):Prop where
 T:TapeAt S 0 ns
 R:S[R]?=some (.lst (rss.map Qs))
 A:S[A]?=some (.dic (Jk n (Zp rss h 0)))
 M:S[Mm]?=some (.lst (ms.map mvV))
 Q:S[Q]?=some (.lst (as.map U5))
 ok:∀ a∈as,AskW Mm a
theorem Qfv {ns:List Int} (k:Nat) {S:Q3} (T:TapeAt S 0 ns) (b3 b4 b5 b6 b7 b8 b9 b10 b11 b12 b13 b14 b15 b16 b17 b18 b19:Option PV) :
  ∃ Γ2 S2,(∃ c2 c3 c4 c5 c6 c7 c8 c9 c10 c11 c12 c13 c14 c15 c16 c17 c18 c19,Γ2=Yy ns c2 c3 c4 c5 c6 c7 c8 c9 c10 c11 c12 c13 c14 c15 c16 c17 c18 c19)/\TapeAt S2 0 ns/\(z9 (Yy ns (some (.int k)) b3 b4 b5 b6 b7 b8 b9 b10 b11 b12 b13 b14 b15 b16 b17 b18 b19) S=.nx Γ2 S2\/z9 (Yy ns (some (.int k)) b3 b4 b5 b6 b7 b8 b9 b10 b11 b12 b13 b14 b15 b16 b17 b18 b19) S=.bk Γ2 S2):=by
 obtain ⟨pp,cc,hS⟩:=id T;obtain ⟨_,i1,_⟩:=Q17 hS;have hnl:(ns.map PV.int).length=ns.length:=O3 _
 by_cases hbr:1 < k/\ns.length<=pp
 ·refine ⟨(Yy ns (some (.int k)) b3 b4 b5 b6 b7 b8 b9 b10 b11 b12 b13 b14 b15 b16 b17 b18 b19),S,⟨_,_,_,_,_,_,_,_,_,_,_,_,_,_,_,_,_,_,rfl⟩,T,.inr ?_⟩;obtain ⟨q1,q2⟩:=hbr;have q1':(1:Int) < k:=by omega
  have q2':(ns.length:Int)<=(pp:Int):=by omega
  unfold Yy;generalize ns.length=nl at q1' q2' i1 hnl q2 ⊢;generalize ns.map PV.int=nv at q1' q2' i1 hnl q2 ⊢;simp -implicitDefEqProofs [z9,q1',q2',i1,hnl,q2,Qqm,-Uz]
 ·have sA:∀ X:MS,(Qd (Z6 (Vf (toB (mOp (oI fun a b=>.bl (decide (b < a))) (Q4 2) (mC (.int 1)))) (toB (mOp (oI fun a b=>.bl (decide (b<=a))) (mOp oIx (Q4 1) (mC (.int 1))) (Qz Zc (Q2 (Q4 0) Q9))))) Q5n J5) X) (Yy ns (some (.int k)) b3 b4 b5 b6 b7 b8 b9 b10 b11 b12 b13 b14 b15 b16 b17 b18 b19) S=X (Yy ns (some (.int k)) b3 b4 b5 b6 b7 b8 b9 b10 b11 b12 b13 b14 b15 b16 b17 b18 b19) S:=fun X=>by
   unfold Yy;generalize ns.length=nl at *;generalize ns.map PV.int=nv at *
   by_cases q1:1 < k
   ·have q2:¬ nl<=pp:=fun z=>hbr ⟨q1,z⟩
    have q1':(1:Int) < k:=by omega
    have q2':¬ (nl:Int)<=(pp:Int):=by omega
    simp -implicitDefEqProofs [q1',q2,q2',i1,hnl,-Uz]
   ·have q1':¬ (1:Int) < k:=by omega
    simp -implicitDefEqProofs [q1']
  obtain ⟨d1,S1,hd1,T1,_,e1⟩:=Jt T 5 (by decide) (by decide);rw [show ((5:Nat):Int)=5 from rfl] at e1;obtain ⟨n0,hn0⟩:∃ n0:Nat,1 + (d1:Int)=n0:=⟨1 + d1,by push_cast; rfl⟩;obtain ⟨n,mo,S2,hn1,hn8,hmo,T2,t3⟩:=Qsd k T1 (n:=n0) (by omega) (by omega) b5 b6 b7 b8 b9 b10 b11 b12 b13 b14 b15 b16 b17 b18 b19;obtain ⟨R,S3,rss,T3,hrs,hlen,hR3,hR0,_,e3⟩:=Qf1 T2 n mo hn8 (by omega);obtain ⟨h,S4,hh,T4,M4,e4⟩:=Jt T3 n hn1 (by omega);have hR4:S4[R]?=some (.lst (rss.map Qs)):=by rw [M4.keep R hR0]; exact hR3
  obtain ⟨xs,S5,T5,M5,hx,hxb,e5⟩:=Qfx T4 n hn8;have hR5:S5[R]?=some (.lst (rss.map Qs)):=by rw [M5.keep R hR0]; exact hR4
  have hlen40:rss.length<=40:=by omega
  have hV5:ListAt S5 (.ref R) (rss.map Qs):=.inr (.inr ⟨R,rfl,hR5⟩);have e6:=Q91 hV5 hlen40 hn8 hrs hh;have hR5l:=(O0.mp hR5).1;have hT5l:=T5.lt;obtain ⟨A,hA⟩:∃ A,S5.length=A:=⟨_,rfl⟩;obtain ⟨S6,hS6⟩:∃ S6,S5 ++ [.dic (Jk n (Zp rss h 0)),.dic (Jk n (Uq rss h))]=S6:=⟨_,rfl⟩;have hR6:S6[R]?=some (.lst (rss.map Qs)):=by rw [<- hS6,O5 hR5l]; exact hR5
  have hA6:S6[A]?=some (.dic (Jk n (Zp rss h 0))):=by rw [<- hS6,<- hA]; simp
  have T6:TapeAt S6 0 ns:=T5.of (by rw [<- hS6,O5 hT5l]);have hA0:A≠0:=by omega
  obtain ⟨Mm,S7,ms,e7,T7,hR7,hA7,hM7,hml,hM0,hMR,hMA⟩:=Qg1 hn8 hlen40 hrs T6 hR6 hA6 hR0 hA0 hx hxb;obtain ⟨mo',S8,hmo',T8,M8,e8⟩:=Jt T7 (rss.length + 1) (by omega) (by omega);have hR8:S8[R]?=some (.lst (rss.map Qs)):=by rw [M8.keep R hR0]; exact hR7
  have hA8:S8[A]?=some (.dic (Jk n (Zp rss h 0))):=by rw [M8.keep A hA0]; exact hA7
  have hM8:S8[Mm]?=some (.lst (ms.map mvV)):=by rw [M8.keep Mm hM0]; exact hM7
  obtain ⟨ms1,hms1⟩:∃ ms1,ms.filter (fun m=>decide (m.t < (mo':Int)))=ms1:=⟨_,rfl⟩
  have hml1:ms1.length<=9000:=by rw [<- hms1]; exact E7 (List.length_filter_le _ _) hml
  have e9:Jc (Q6 0) Q51 Q5x [(Mm,.lst (ms.map mvV))] [none,some (.int mo')] (ms.map mvV) S8=.ok (ms1.map mvV) S8:=by
   rw [<- hms1];refine Kj mvV mvV _ (fun x hx=>?_) fun m hm=>⟨_,rfl,?_,fun _=>?_⟩
   ·have:x=(Mm,.lst (ms.map mvV)):=by simpa using hx
    subst this; exact hM8
   ·simp -implicitDefEqProofs [Q51,mvV,mvI,Qct,atI,ixN]
   ·simp -implicitDefEqProofs [Q5x]
  obtain ⟨z,e10⟩:=Qcu (V:=.ref R) (A:=.ref A) (W:=.lst (ms1.map mvV)) (S:=S8) hx hh (ms:=ms1) (by omega) (.inl rfl) (mo':Int);obtain ⟨th,e11⟩:∃ th:Int,Q9m S8 [.int 1,.int z]=.ok (.int th) S8:=⟨_,rfl⟩;obtain ⟨as4,has4⟩:∃ as4:List Ask,as4=[⟨th,mo',.lst (ms1.map mvV)⟩,⟨th + 1,mo',.lst (ms1.map mvV)⟩,⟨th,mo',.ref Mm⟩,⟨th,(mo':Int) - 1,.lst (ms1.map mvV)⟩]:=⟨_,rfl⟩;obtain ⟨S9,hS9⟩:∃ S9,S8 ++ [.lst (as4.map U5)]=S9:=⟨_,rfl⟩;obtain ⟨P,hP⟩:∃ P,S8.length=P:=⟨_,rfl⟩;obtain ⟨as8,has8⟩:∃ as8:List Ask,as8=as4 ++ [⟨th,(mo':Int) + 1,.lst (ms1.map mvV)⟩,⟨th,-1,.lst (([]:List Mv4).map mvV)⟩,⟨1,(rss.length:Int) + 1,.lst (([]:List Mv4).map mvV)⟩,⟨1,100000000000000000000,.lst (ms1.map mvV)⟩]:=⟨_,rfl⟩;obtain ⟨Q,hQ⟩:∃ Q,S9.length=Q:=⟨_,rfl⟩;obtain ⟨S10,hS10⟩:∃ S10,S9 ++ [.lst (as8.map U5)]=S10:=⟨_,rfl⟩;have l9:S9.length=S8.length + 1:=by rw [<- hS9]; simp
  have l10:S10.length=S8.length + 2:=by rw [<- hS10]; simp [l9]
  have k10:∀ t c,S8[t]?=some c->S10[t]?=some c:=fun t c e=>by
   have hlt:=(O0.mp e).1;rw [<- hS10,O5 (by omega),<- hS9,O5 hlt]; exact e
  have hP9:S9[P]?=some (.lst (as4.map U5)):=by rw [<- hS9,<- hP]; simp
  have hQ10:S10[Q]?=some (.lst (as8.map U5)):=by rw [<- hS10,<- hQ]; simp
  have hV10:ListAt S10 (.ref R) (rss.map Qs):=.inr (.inr ⟨R,rfl,k10 _ _ hR8⟩);obtain ⟨rm,hrm,e12⟩:=Qde hlen40 hrs hV10 hx;obtain ⟨as9,has9⟩:∃ as9:List Ask,as9=as8 ++ [⟨1,rss.length,.lst (rm.map mvV)⟩]:=⟨_,rfl⟩;obtain ⟨S11,hS11⟩:∃ S11,S10.set Q (.lst (as9.map U5))=S11:=⟨_,rfl⟩;have hQl:Q < S10.length:=by omega
  have hRl:=(O0.mp hR8).1;have hAl:=(O0.mp hA8).1;have hMl:=(O0.mp hM8).1;have hTl:=T8.lt;have hQ0:Q≠0:=by omega
  have hQR:Q≠R:=by omega
  have hQA:Q≠A:=by omega
  have hQM:Q≠Mm:=by omega
  have k11:∀ t c,S8[t]?=some c->S11[t]?=some c:=fun t c e=>by
   have hlt:=(O0.mp e).1;rw [<- hS11,D8 (by omega)]; exact k10 t c e
  have l4:as4.length=4:=by rw [has4]; rfl
  have l8:as8.length=8:=by rw [has8,D0,l4]; rfl
  have l99:as9.length=9:=by rw [has9,D0,l8]; rfl
  have ok9:∀ a∈as9,AskW Mm a:=fun a ha=>by
   rw [has9,has8,has4] at ha;simp only [E3,D3,List.not_mem_nil,or_false] at ha;have o1:ms1.length<=100000:=by omega
   have o2:rm.length<=100000:=by omega
   rcases ha with ((rfl | rfl | rfl | rfl) | (rfl | rfl | rfl | rfl)) | rfl
   ·exact .inl ⟨ms1,o1,rfl⟩
   ·exact .inl ⟨ms1,o1,rfl⟩
   ·exact .inr rfl
   ·exact .inl ⟨ms1,o1,rfl⟩
   ·exact .inl ⟨ms1,o1,rfl⟩
   ·exact .inl ⟨[],by simp,rfl⟩
   ·exact .inl ⟨[],by simp,rfl⟩
   ·exact .inl ⟨ms1,o1,rfl⟩
   ·exact .inl ⟨rm,o2,rfl⟩
  have st11:St42 ns rss n h R A Mm Q ms as9 S11:=by
   refine ⟨?_,k11 _ _ hR8,k11 _ _ hA8,k11 _ _ hM8,by rw [<- hS11]; exact D7 hQl,ok9⟩;obtain ⟨p',c',q⟩:=T8;exact ⟨p',c',k11 _ _ q⟩
  have t12:(Qy 13 (qq (ze (Q2 (Z2 (Q2 (Q4 12) (Q2 (Q4 10) (Q2 (Q4 11) Q9)))) (Q2 (Z2 (Q2 (mOp J9 (Q4 12) (mC (.int 1))) (Q2 (Q4 10) (Q2 (Q4 11) Q9)))) (Q2 (Z2 (Q2 (Q4 12) (Q2 (Q4 10) (Q2 (Q4 9) Q9)))) (Q2 (Z2 (Q2 (Q4 12) (Q2 (mOp (oI fun a b=>.int (a - b)) (Q4 10) (mC (.int 1))) (Q2 (Q4 11) Q9)))) Q9))))))) (Yy ns (some (.int k)) (some (.int n)) (some (.int mo)) (some (.ref R)) (some (.int h)) (some (.tup (xs.map .int))) (some (.ref A)) (some (.ref Mm)) (some (.int mo')) (some (.lst (ms1.map mvV))) (some (.int th)) b13 b14 b15 b16 b17 b18 b19) S8=.nx (Yy ns (some (.int k)) (some (.int n)) (some (.int mo)) (some (.ref R)) (some (.int h)) (some (.tup (xs.map .int))) (some (.ref A)) (some (.ref Mm)) (some (.int mo')) (some (.lst (ms1.map mvV))) (some (.int th)) (some (.ref P)) b14 b15 b16 b17 b18 b19) S9:=by
   have a9:S8 ++ [Cell.lst [.tup [.int th,.int mo',.lst (ms1.map mvV)],.tup [.int (th + 1),.int mo',.lst (ms1.map mvV)],.tup [.int th,.int mo',.ref Mm],.tup [.int th,.int ((mo':Int) - 1),.lst (ms1.map mvV)]]]=S9:=by rw [<- hS9,has4]; rfl
   clear hS9 has4 has8 has9 ok9;unfold Yy;generalize ns.map PV.int=nv at hP a9 ⊢;generalize xs.map PV.int=xv at hP a9 ⊢;generalize ms1.map mvV=mv1 at hP a9 ⊢;simp -implicitDefEqProofs [Qp,hP,a9]
  have t13:(Qy 13 (qq (Q7e (Q4 13) (Um (Q2 (Z2 (Q2 (Q4 12) (Q2 (mOp J9 (Q4 10) (mC (.int 1))) (Q2 (Q4 11) Q9)))) (Q2 (Z2 (Q2 (Q4 12) (Q2 (Q10 (mC (.int 1))) (Q2 (Um Q9) Q9)))) (Q2 (Z2 (Q2 (mC (.int 1)) (Q2 (mOp J9 (Qz Zc (Q2 (Q4 5) Q9)) (mC (.int 1))) (Q2 (Um Q9) Q9)))) (Q2 (Z2 (Q2 (mC (.int 1)) (Q2 (mOp Q0z (mC (.int 10)) (mC (.int 20))) (Q2 (Q4 11) Q9)))) Q9)))))))) (Yy ns (some (.int k)) (some (.int n)) (some (.int mo)) (some (.ref R)) (some (.int h)) (some (.tup (xs.map .int))) (some (.ref A)) (some (.ref Mm)) (some (.int mo')) (some (.lst (ms1.map mvV))) (some (.int th)) (some (.ref P)) b14 b15 b16 b17 b18 b19) S9=.nx (Yy ns (some (.int k)) (some (.int n)) (some (.int mo)) (some (.ref R)) (some (.int h)) (some (.tup (xs.map .int))) (some (.ref A)) (some (.ref Mm)) (some (.int mo')) (some (.lst (ms1.map mvV))) (some (.int th)) (some (.ref Q)) b14 b15 b16 b17 b18 b19) S10:=by
   have lo9:Za S9 (.ref P)=some (as4.map U5):=Q2q hP9;have hR9:S9[R]?=some (.lst (rss.map Qs)):=by rw [<- hS9,O5 hRl]; exact hR8
   have cl9:Zc S9 [.ref R]=.ok (.int ((rss.map Qs).length:Int)) S9:=ListAt.len (.inr (.inr ⟨R,rfl,hR9⟩));have hlr:(rss.map Qs).length=rss.length:=O3 _;have ad9:Q49 S9 (.ref P) (.lst [.tup [.int th,.int ((mo':Int) + 1),.lst (ms1.map mvV)],.tup [.int th,.int (-1),.lst []],.tup [.int 1,.int ((rss.length:Int) + 1),.lst []],.tup [.int 1,.int 100000000000000000000,.lst (ms1.map mvV)]])=.ok (as8.map U5) S9:=by
    unfold Q49;rw [show Up S9 (.ref P)=some (as4.map U5) from lo9,show Up S9 (.lst [.tup [.int th,.int ((mo':Int) + 1),.lst (ms1.map mvV)],.tup [.int th,.int (-1),.lst []],.tup [.int 1,.int ((rss.length:Int) + 1),.lst []],.tup [.int 1,.int 100000000000000000000,.lst (ms1.map mvV)]])=some [.tup [.int th,.int ((mo':Int) + 1),.lst (ms1.map mvV)],.tup [.int th,.int (-1),.lst []],.tup [.int 1,.int ((rss.length:Int) + 1),.lst []],.tup [.int 1,.int 100000000000000000000,.lst (ms1.map mvV)]] from rfl];dsimp only;rw [bS (by rw [O3,l4,Qp]; simp only [E1,G7]; omega),has8,E5];rfl
   clear hS9 has4 has8 has9 ok9;unfold Yy;generalize ns.map PV.int=nv at lo9 cl9 hlr ad9 hQ hS10 ⊢;generalize xs.map PV.int=xv at lo9 cl9 hlr ad9 hQ hS10 ⊢;generalize ms1.map mvV=mv1 at lo9 cl9 hlr ad9 hQ hS10 ⊢;generalize as8.map U5=a8 at lo9 cl9 hlr ad9 hQ hS10 ⊢;generalize rss.map Qs=rv at lo9 cl9 hlr ad9 hQ hS10 ⊢;generalize rss.length=rl at lo9 cl9 hlr ad9 hQ hS10 ⊢;simp -implicitDefEqProofs [Qp,lo9,cl9,hlr,ad9,hQ,hS10,-Kf,-Q9n]
  have t14:(Ke (mBM Wf (Q4 13) (Q2 (Z2 (Q2 (mC (.int 1)) (Q2 (Qz Zc (Q2 (Q4 5) Q9)) (Q2 (Qi 2 Yx (Q2 (Q4 5) (Q2 (Q4 7) Q9))) Q9)))) Q9))) (Yy ns (some (.int k)) (some (.int n)) (some (.int mo)) (some (.ref R)) (some (.int h)) (some (.tup (xs.map .int))) (some (.ref A)) (some (.ref Mm)) (some (.int mo')) (some (.lst (ms1.map mvV))) (some (.int th)) (some (.ref Q)) b14 b15 b16 b17 b18 b19) S10=.nx (Yy ns (some (.int k)) (some (.int n)) (some (.int mo)) (some (.ref R)) (some (.int h)) (some (.tup (xs.map .int))) (some (.ref A)) (some (.ref Mm)) (some (.int mo')) (some (.lst (ms1.map mvV))) (some (.int th)) (some (.ref Q)) b14 b15 b16 b17 b18 b19) S11:=by
   have lo10:Za S10 (.ref Q)=some (as8.map U5):=Q2q hQ10;have cl10:Zc S10 [.ref R]=.ok (.int ((rss.map Qs).length:Int)) S10:=hV10.len;have hlr:(rss.map Qs).length=rss.length:=O3 _;have ch10:chg S10 (.ref Q) (fun xs=>if xs.length < 1000000 then some (.non,xs ++ [.tup [.int 1,.int rss.length,.lst (rm.map mvV)]]) else none)=.ok .non S11:=by
    unfold chg;simp only [hQ10];rw [bS (by rw [O3]; omega),<- hS11,has9,E5];rfl
   clear hS11 hS10 has4 has8 has9 ok9;unfold Yy;generalize ns.map PV.int=nv at lo10 cl10 hlr e12 ch10 ⊢;generalize xs.map PV.int=xv at lo10 cl10 hlr e12 ch10 ⊢;generalize ms1.map mvV=mv1 at lo10 cl10 hlr e12 ch10 ⊢;generalize rm.map mvV=rv4 at lo10 cl10 hlr e12 ch10 ⊢;generalize as8.map U5=a8 at lo10 cl10 hlr e12 ch10 ⊢;generalize rss.map Qs=rv at lo10 cl10 hlr e12 ch10 ⊢;generalize rss.length=rl at lo10 cl10 hlr e12 ch10 ⊢;simp -implicitDefEqProofs [Qp,lo10,cl10,hlr,e12,ch10,-Kf,-Q9n,-Qaj]
  obtain ⟨Γ',S12,e15,c14,as12,rfl,st12,la12⟩:=Vx (g:=fun k:Nat=>PV.int (k:Int)) (xs:=List.range 6) (ga:=Q6 14) (body:=xr) (w:=[]) (Γ:=(Yy ns (some (.int k)) (some (.int n)) (some (.int mo)) (some (.ref R)) (some (.int h)) (some (.tup (xs.map .int))) (some (.ref A)) (some (.ref Mm)) (some (.int mo')) (some (.lst (ms1.map mvV))) (some (.int th)) (some (.ref Q)) b14 b15 b16 b17 b18 b19)) (st:=S11)
   (fun i Γ st'=>∃ c14 as',Γ=(Yy ns (some (.int k)) (some (.int n)) (some (.int mo)) (some (.ref R)) (some (.int h)) (some (.tup (xs.map .int))) (some (.ref A)) (some (.ref Mm)) (some (.int mo')) (some (.lst (ms1.map mvV))) (some (.int th)) (some (.ref Q)) c14 b15 b16 b17 b18 b19)/\St42 ns rss n h R A Mm Q ms as' st'/\as'.length<=9 + i)
   (fun _ _ _ _=>by simp)
   (fun i x Γ st' hx ⟨c14,as',g1,s',lp⟩=>by
    subst g1;have hi:i < 6:=by simpa using (O0.mp hx).1
    obtain ⟨S',ms',am,hm',T',q1,q2,q3⟩:=Qqp s'.T hQ0 s'.Q (by omega) n hml1 (mo':Int) th (x:Int) (some (.int k)) (some (.int mo)) (some (.ref R)) (some (.int h)) (some (.tup (xs.map .int))) (some (.ref A)) (some (.ref Mm)) b15 b16 b17 b18 b19;refine ⟨_,rfl,_,S',q3,some (.int x),_,rfl,⟨T',?_,?_,?_,q1,fun a ha=>?_⟩,by rw [D0]; simp only [E1,G7]; omega⟩
    ·rw [q2 R hR0 (fun z=>hQR z.symm)]; exact s'.R
    ·rw [q2 A hA0 (fun z=>hQA z.symm)]; exact s'.A
    ·rw [q2 Mm hM0 (fun z=>hQM z.symm)]; exact s'.M
    ·rcases E3.mp ha with ha | ha
     ·exact s'.ok a ha
     ·rw [F3.mp ha]; exact .inl ⟨ms',by omega,rfl⟩)
   ⟨_,as9,rfl,st11,by omega⟩
  rw [<- Wp] at e15;rw [F8] at la12;have hw0:wOk [(Q,.lst (as12.map U5))] S12:=fun x hx=>by
   have:x=(Q,.lst (as12.map U5)):=by simpa using hx
   subst this;exact st12.Q
  obtain ⟨Γ',S13,e16,c15,c16,c17,c18,c19,rfl,hs13⟩:=Vx (g:=U5) (xs:=as12) (ga:=Jn (Qb (Q6 15) (Qb (Q6 16) (Qb (Q6 17) Jp)))) (body:=Q1j) (w:=[(Q,.lst (as12.map U5))]) (Γ:=(Yy ns (some (.int k)) (some (.int n)) (some (.int mo)) (some (.ref R)) (some (.int h)) (some (.tup (xs.map .int))) (some (.ref A)) (some (.ref Mm)) (some (.int mo')) (some (.lst (ms1.map mvV))) (some (.int th)) (some (.ref Q)) c14 b15 b16 b17 b18 b19)) (st:=S12)
   (fun i Γ st'=>∃ c15 c16 c17 c18 c19,Γ=(Yy ns (some (.int k)) (some (.int n)) (some (.int mo)) (some (.ref R)) (some (.int h)) (some (.tup (xs.map .int))) (some (.ref A)) (some (.ref Mm)) (some (.int mo')) (some (.lst (ms1.map mvV))) (some (.int th)) (some (.ref Q)) c14 c15 c16 c17 c18 c19)/\st'=S12)
   (fun _ _ _ ⟨_,_,_,_,_,_,e⟩=>by rw [e]; exact hw0)
   (fun i a Γ st' hx' ⟨c15,c16,c17,c18,c19,g1,g2⟩=>by
    subst g1; subst g2;obtain ⟨ms',h1,h2,h3⟩:=(st12.ok a (E2 hx')).ok hml st12.M;obtain ⟨d18,d19,e⟩:=Qkb hn1 hn8 hlen40 hrs st12.R st12.A hh hx h1 h2 h3 a.am a.by' (ns:=ns) (some (.int k)) (some (.int n)) (some (.int mo)) (some (.ref Mm)) (some (.int mo')) (some (.lst (ms1.map mvV))) (some (.int th)) (some (.ref Q)) c14 c18 c19;exact ⟨_,rfl,_,_,e,_,_,_,_,_,rfl,rfl⟩)
   ⟨_,_,_,_,_,rfl,rfl⟩
  rw [hs13] at e16;have t15:(Ux (Q6 14) (Yb (Q2 (mC (.int 6)) Q9)) xr) (Yy ns (some (.int k)) (some (.int n)) (some (.int mo)) (some (.ref R)) (some (.int h)) (some (.tup (xs.map .int))) (some (.ref A)) (some (.ref Mm)) (some (.int mo')) (some (.lst (ms1.map mvV))) (some (.int th)) (some (.ref Q)) b14 b15 b16 b17 b18 b19) S11=.nx (Yy ns (some (.int k)) (some (.int n)) (some (.int mo)) (some (.ref R)) (some (.int h)) (some (.tup (xs.map .int))) (some (.ref A)) (some (.ref Mm)) (some (.int mo')) (some (.lst (ms1.map mvV))) (some (.int th)) (some (.ref Q)) c14 b15 b16 b17 b18 b19) S12:=by
   unfold Yy at e15 ⊢;clear e16;generalize ns.map PV.int=nv at e15 ⊢;generalize xs.map PV.int=xv at e15 ⊢;generalize ms1.map mvV=mv1 at e15 ⊢;simp -implicitDefEqProofs [Qp,e15]
  have so12:We S12 (.ref Q)=some (as12.map U5,[(Q,.lst (as12.map U5))]):=Q3x st12.Q;have hl12:(as12.map U5).length<=1000000:=by rw [O3]; omega
  refine ⟨(Yy ns (some (.int k)) (some (.int n)) (some (.int mo)) (some (.ref R)) (some (.int h)) (some (.tup (xs.map .int))) (some (.ref A)) (some (.ref Mm)) (some (.int mo')) (some (.lst (ms1.map mvV))) (some (.int th)) (some (.ref Q)) c14 c15 c16 c17 c18 c19),S12,⟨_,_,_,_,_,_,_,_,_,_,_,_,_,_,_,_,_,_,rfl⟩,st12.T,.inl ?_⟩;unfold z9;rw [sA];have cl7:Zc S7 [.ref R]=.ok (.int (rss.length:Int)) S7:=by
   have:=ListAt.len (st:=S7) (V:=.ref R) (.inr (.inr ⟨R,rfl,hR7⟩));rw [O3] at this;exact this
  have so8:We S8 (.ref Mm)=some (ms.map mvV,[(Mm,.lst (ms.map mvV))]):=Q3x hM8;have hm8:(ms.map mvV).length<=1000000:=by rw [O3]; omega
  rw [show ((rss.length + 1:Nat):Int)=(rss.length:Int) + 1 from by push_cast; rfl] at e8;rw [hA,hS6] at e6;refine Z8 (W7 (J6 rfl (Ye rfl rfl e1) (show J9 S1 (.int 1) (.int d1)=Res.ok (PV.int n0) S1 from by rw [<- hn0]; rfl))) ?_;refine Z8 rfl ?_;refine Z8 t3 ?_;refine Z8 (W7 (Ye rfl rfl e3)) ?_;refine Z8 (W7 (Ye rfl rfl e4)) ?_;refine Z8 (W7 (Ye rfl rfl e5)) ?_;refine Z8 (W7 (J6 (Ye rfl rfl e6) rfl rfl)) ?_;refine Z8 (W7 (Ye rfl rfl e7)) ?_;refine Z8 (W7 (Ye (V6 rfl (V6 (J6 (Q39 rfl cl7) rfl rfl) rfl)) rfl e8)) ?_;refine Z8 (W7 (Q8e (Q62 (Qi5 rfl so8 hm8) e9))) ?_;refine Z8 (W7 (Q39 (V6 rfl (V6 (Ye rfl rfl e10) rfl)) e11)) ?_;refine Z8 t12 ?_;refine Z8 t13 ?_;refine Z8 t14 ?_;refine Z8 t15 ?_;unfold Yy at e16 ⊢;generalize ns.map PV.int=nv at so12 hl12 e16 ⊢;generalize xs.map PV.int=xv at so12 hl12 e16 ⊢;generalize ms1.map mvV=mv1 at so12 hl12 e16 ⊢;generalize as12.map U5=av at so12 hl12 e16 ⊢
  simp -implicitDefEqProofs [Qp,so12,hl12,e16,-Vp]
theorem Qej (ns:List Int):Qft [.fro (ns.map .int)] []=.ok (.bl true) []:=by
 have T0:TapeAt [.lst [.fro (ns.map .int),.int 0,.int 0]] 0 ns:=⟨0,0,rfl⟩;obtain ⟨Γ',S1,e1,⟨c2,c3,c4,c5,c6,c7,c8,c9,c10,c11,c12,c13,c14,c15,c16,c17,c18,c19,rfl⟩,T1⟩:=Qby (g:=fun k:Nat=>PV.int (k:Int)) (xs:=List.range 4) (ga:=Q6 2) (body:=z9) (Γ:=Yy ns none none none none none none none none none none none none none none none none none none) (st:=[.lst [.fro (ns.map .int),.int 0,.int 0]])
  (fun Γ st'=>(∃ c2 c3 c4 c5 c6 c7 c8 c9 c10 c11 c12 c13 c14 c15 c16 c17 c18 c19,Γ=Yy ns c2 c3 c4 c5 c6 c7 c8 c9 c10 c11 c12 c13 c14 c15 c16 c17 c18 c19)/\TapeAt st' 0 ns)
  (fun k Γ st' _ ⟨⟨c2,c3,c4,c5,c6,c7,c8,c9,c10,c11,c12,c13,c14,c15,c16,c17,c18,c19,g1⟩,T⟩=>by
   subst g1;obtain ⟨Γ2,S2,h1,h2,h3⟩:=Qfv k T c3 c4 c5 c6 c7 c8 c9 c10 c11 c12 c13 c14 c15 c16 c17 c18 c19;exact ⟨_,rfl,Γ2,S2,⟨h1,h2⟩,h3⟩)
  ⟨⟨_,_,_,_,_,_,_,_,_,_,_,_,_,_,_,_,_,_,rfl⟩,T0⟩
 rw [<- Wp] at e1;have hfin:∀ S,fin [] (.bl true) S=.ok (.bl true) []:=fun S=>by simp [fin,fz]
 have step:Q79 [some (.fro (ns.map .int)),none,none,none,none,none,none,none,none,none,none,none,none,none,none,none,none,none,none,none] []=.rt (.bl true) S1:=by
  unfold Yy at e1;generalize ns.map PV.int=nv at e1 ⊢;simp -implicitDefEqProofs [Q79,Qp,e1]
 show J2 Q79 20 _ []=_;unfold J2;rw [show (([PV.fro (ns.map .int)]:List PV).map some ++ List.replicate (20 - [PV.fro (ns.map .int)].length) none)=[some (.fro (ns.map .int)),none,none,none,none,none,none,none,none,none,none,none,none,none,none,none,none,none,none,none] from rfl,step];exact hfin S1
theorem Qhr:∀ ns:List Int,ns.length<=63->∃ st',Qft [.fro (ns.map .int)] []=.ok (.bl true) st':=fun ns _=>⟨[],Qej ns⟩
end Lw
namespace Lw
open PySem PySem.Spec L2 Sm
theorem all_mk {l:PySem.W.OpenLaw} {w:aK} {K:PySem.W.Frag} {h:Heap} {mg:Str->Option aA} {fa f1 f2 f3 f4 f5 f6 f7 f8 f9 f10 f11 f12 f13 f14 f15 f16 f17 f18 f19 f20 f21 f22 f23 f24 f25 f26 f27:aB} (X:K.In h) (G:h.Ns aQ mg) (hfa:mg "law" = some (.ref fa))
  {od1 an1 od2 an2 od3 an3 od4 an4 od5 an5 od6 an6 od7 an7 od8 an8 od9 an9 od10 an10 od11 an11 od12 an12 od13 an13 od14 an14 od15 an15 od16 an16 od17 an17 od18 an18 od19 an19 od20 an20 od21 an21 od22 an22 od23 an23 od24 an24 od25 an25 od26 an26 od27 an27:Option aB}
  {sl1 sl2 sl3 sl4 sl5 sl6 sl7 sl8 sl9 sl10 sl11 sl12 sl13 sl14 sl15 sl16 sl17 sl18 sl19 sl20 sl21 sl22 sl23 sl24 sl25 sl26 sl27:Array (Option aA)}
  {oc1 kV1 dc1 pm1 cd1 ct1 oc2 kV2 dc2 pm2 cd2 ct2 oc3 kV3 dc3 pm3 cd3 ct3 oc4 kV4 dc4 pm4 cd4 ct4 oc5 kV5 dc5 pm5 cd5 ct5 oc6 kV6 dc6 pm6 cd6 ct6 oc7 kV7 dc7 pm7 cd7 ct7 oc8 kV8 dc8 pm8 cd8 ct8 oc9 kV9 dc9 pm9 cd9 ct9 oc10 kV10 dc10 pm10 cd10 ct10 oc11 kV11 dc11 pm11 cd11 ct11 oc12 kV12 dc12 pm12 cd12 ct12 oc13 kV13 dc13 pm13 cd13 ct13 oc14 kV14 dc14 pm14 cd14 ct14 oc15 kV15 dc15 pm15 cd15 ct15 oc16 kV16 dc16 pm16 cd16 ct16 oc17 kV17 dc17 pm17 cd17 ct17 oc18 kV18 dc18 pm18 cd18 ct18 oc19 kV19 dc19 pm19 cd19 ct19 oc20 kV20 dc20 pm20 cd20 ct20 oc21 kV21 dc21 pm21 cd21 ct21 oc22 kV22 dc22 pm22 cd22 ct22 oc23 kV23 dc23 pm23 cd23 ct23 oc24 kV24 dc24 pm24 cd24 ct24 oc25 kV25 dc25 pm25 cd25 ct25 oc26 kV26 dc26 pm26 cd26 ct26 oc27 kV27 dc27 pm27 cd27 ct27:aA}
  {t_MOST_HOUSES:Tok}
  {t_MOST_ROUNDS:Tok}
  (a1:PySem.W.nsIn K aQ "is_whole" = some (some (.ref f1))) (l1:K.lookup f1=some ⟨oc1,od1,.func (PySem.W.fnOf "is_whole" "is_whole" (J0 U8) (Qv U8) (Qa U8) .none kV1 dc1 pm1 an1 cd1 ct1),sl1⟩) (c1:PySem.W.codeIn K cd1 "is_whole" = true) (k1:PySem.W.keepIn K (.ref f1)=true)
  (a2:PySem.W.nsIn K aQ "is_between" = some (some (.ref f2))) (l2:K.lookup f2=some ⟨oc2,od2,.func (PySem.W.fnOf "is_between" "is_between" (J0 Wn) (Qv Wn) (Qa Wn) .none kV2 dc2 pm2 an2 cd2 ct2),sl2⟩) (c2:PySem.W.codeIn K cd2 "is_between" = true) (k2:PySem.W.keepIn K (.ref f2)=true)
  (a3:PySem.W.nsIn K aQ "is_rising" = some (some (.ref f3))) (l3:K.lookup f3=some ⟨oc3,od3,.func (PySem.W.fnOf "is_rising" "is_rising" (J0 Vh) (Qv Vh) (Qa Vh) .none kV3 dc3 pm3 an3 cd3 ct3),sl3⟩) (c3:PySem.W.codeIn K cd3 "is_rising" = true) (k3:PySem.W.keepIn K (.ref f3)=true)
  (a4:PySem.W.nsIn K aQ "is_road" = some (some (.ref f4))) (l4:K.lookup f4=some ⟨oc4,od4,.func (PySem.W.fnOf "is_road" "is_road" (J0 X6) (Qv X6) (Qa X6) .none kV4 dc4 pm4 an4 cd4 ct4),sl4⟩) (c4:PySem.W.codeIn K cd4 "is_road" = true) (k4:PySem.W.keepIn K (.ref f4)=true)
  (a5:PySem.W.nsIn K aQ "are_roads_of_round" = some (some (.ref f5))) (l5:K.lookup f5=some ⟨oc5,od5,.func (PySem.W.fnOf "are_roads_of_round" "are_roads_of_round" (J0 Jg) (Qv Jg) (Qa Jg) .none kV5 dc5 pm5 an5 cd5 ct5),sl5⟩) (c5:PySem.W.codeIn K cd5 "are_roads_of_round" = true) (k5:PySem.W.keepIn K (.ref f5)=true)
  (a6:PySem.W.nsIn K aQ "are_roads" = some (some (.ref f6))) (l6:K.lookup f6=some ⟨oc6,od6,.func (PySem.W.fnOf "are_roads" "are_roads" (J0 Vi) (Qv Vi) (Qa Vi) .none kV6 dc6 pm6 an6 cd6 ct6),sl6⟩) (c6:PySem.W.codeIn K cd6 "are_roads" = true) (k6:PySem.W.keepIn K (.ref f6)=true)
  (a7:PySem.W.nsIn K aQ "need_roads" = some (some (.ref f7))) (l7:K.lookup f7=some ⟨oc7,od7,.func (PySem.W.fnOf "need_roads" "need_roads" (J0 Wm) (Qv Wm) (Qa Wm) .none kV7 dc7 pm7 an7 cd7 ct7),sl7⟩) (c7:PySem.W.codeIn K cd7 "need_roads" = true) (k7:PySem.W.keepIn K (.ref f7)=true)
  (a8:PySem.W.nsIn K aQ "arrivals" = some (some (.ref f8))) (l8:K.lookup f8=some ⟨oc8,od8,.func (PySem.W.fnOf "arrivals" "arrivals" (J0 U9) (Qv U9) (Qa U9) .none kV8 dc8 pm8 an8 cd8 ct8),sl8⟩) (c8:PySem.W.codeIn K cd8 "arrivals" = true) (k8:PySem.W.keepIn K (.ref f8)=true)
  (a9:PySem.W.nsIn K aQ "moment_of" = some (some (.ref f9))) (l9:K.lookup f9=some ⟨oc9,od9,.func (PySem.W.fnOf "moment_of" "moment_of" (J0 Vg) (Qv Vg) (Qa Vg) .none kV9 dc9 pm9 an9 cd9 ct9),sl9⟩) (c9:PySem.W.codeIn K cd9 "moment_of" = true) (k9:PySem.W.keepIn K (.ref f9)=true)
  (a10:PySem.W.nsIn K aQ "asked_moments" = some (some (.ref f10))) (l10:K.lookup f10=some ⟨oc10,od10,.func (PySem.W.fnOf "asked_moments" "asked_moments" (J0 Y5) (Qv Y5) (Qa Y5) .none kV10 dc10 pm10 an10 cd10 ct10),sl10⟩) (c10:PySem.W.codeIn K cd10 "asked_moments" = true) (k10:PySem.W.keepIn K (.ref f10)=true)
  (a11:PySem.W.nsIn K aQ "behind_round" = some (some (.ref f11))) (l11:K.lookup f11=some ⟨oc11,od11,.func (PySem.W.fnOf "behind_round" "behind_round" (J0 Yn) (Qv Yn) (Qa Yn) .none kV11 dc11 pm11 an11 cd11 ct11),sl11⟩) (c11:PySem.W.codeIn K cd11 "behind_round" = true) (k11:PySem.W.keepIn K (.ref f11)=true)
  (a12:PySem.W.nsIn K aQ "is_by" = some (some (.ref f12))) (l12:K.lookup f12=some ⟨oc12,od12,.func (PySem.W.fnOf "is_by" "is_by" (J0 jr) (Qv jr) (Qa jr) .none kV12 dc12 pm12 an12 cd12 ct12),sl12⟩) (c12:PySem.W.codeIn K cd12 "is_by" = true) (k12:PySem.W.keepIn K (.ref f12)=true)
  (a13:PySem.W.nsIn K aQ "may_be_moved" = some (some (.ref f13))) (l13:K.lookup f13=some ⟨oc13,od13,.func (PySem.W.fnOf "may_be_moved" "may_be_moved" (J0 Ym) (Qv Ym) (Qa Ym) .none kV13 dc13 pm13 an13 cd13 ct13),sl13⟩) (c13:PySem.W.codeIn K cd13 "may_be_moved" = true) (k13:PySem.W.keepIn K (.ref f13)=true)
  (a14:PySem.W.nsIn K aQ "has_at" = some (some (.ref f14))) (l14:K.lookup f14=some ⟨oc14,od14,.func (PySem.W.fnOf "has_at" "has_at" (J0 Ka) (Qv Ka) (Qa Ka) .none kV14 dc14 pm14 an14 cd14 ct14),sl14⟩) (c14:PySem.W.codeIn K cd14 "has_at" = true) (k14:PySem.W.keepIn K (.ref f14)=true)
  (a15:PySem.W.nsIn K aQ "gathers" = some (some (.ref f15))) (l15:K.lookup f15=some ⟨oc15,od15,.func (PySem.W.fnOf "gathers" "gathers" (J0 X7) (Qv X7) (Qa X7) .none kV15 dc15 pm15 an15 cd15 ct15),sl15⟩) (c15:PySem.W.codeIn K cd15 "gathers" = true) (k15:PySem.W.keepIn K (.ref f15)=true)
  (a16:PySem.W.nsIn K aQ "_law_e_stirred" = some (some (.ref f16))) (l16:K.lookup f16=some ⟨oc16,od16,.func (PySem.W.fnOf "_law_e_stirred" "_law_e_stirred" (J0 Zu) (Qv Zu) (Qa Zu) .none kV16 dc16 pm16 an16 cd16 ct16),sl16⟩) (c16:PySem.W.codeIn K cd16 "_law_e_stirred" = true) (k16:PySem.W.keepIn K (.ref f16)=true)
  (a17:PySem.W.nsIn K aQ "_law_e_digit" = some (some (.ref f17))) (l17:K.lookup f17=some ⟨oc17,od17,.func (PySem.W.fnOf "_law_e_digit" "_law_e_digit" (J0 Ys) (Qv Ys) (Qa Ys) .none kV17 dc17 pm17 an17 cd17 ct17),sl17⟩) (c17:PySem.W.codeIn K cd17 "_law_e_digit" = true) (k17:PySem.W.keepIn K (.ref f17)=true)
  (a18:PySem.W.nsIn K aQ "_law_e_drawn_roads" = some (some (.ref f18))) (l18:K.lookup f18=some ⟨oc18,od18,.func (PySem.W.fnOf "_law_e_drawn_roads" "_law_e_drawn_roads" (J0 Jh) (Qv Jh) (Qa Jh) .none kV18 dc18 pm18 an18 cd18 ct18),sl18⟩) (c18:PySem.W.codeIn K cd18 "_law_e_drawn_roads" = true) (k18:PySem.W.keepIn K (.ref f18)=true)
  (a19:PySem.W.nsIn K aQ "_law_e_first" = some (some (.ref f19))) (l19:K.lookup f19=some ⟨oc19,od19,.func (PySem.W.fnOf "_law_e_first" "_law_e_first" (J0 Yr) (Qv Yr) (Qa Yr) .none kV19 dc19 pm19 an19 cd19 ct19),sl19⟩) (c19:PySem.W.codeIn K cd19 "_law_e_first" = true) (k19:PySem.W.keepIn K (.ref f19)=true)
  (a20:PySem.W.nsIn K aQ "_law_e_moments" = some (some (.ref f20))) (l20:K.lookup f20=some ⟨oc20,od20,.func (PySem.W.fnOf "_law_e_moments" "_law_e_moments" (J0 Zv) (Qv Zv) (Qa Zv) .none kV20 dc20 pm20 an20 cd20 ct20),sl20⟩) (c20:PySem.W.codeIn K cd20 "_law_e_moments" = true) (k20:PySem.W.keepIn K (.ref f20)=true)
  (a21:PySem.W.nsIn K aQ "_law_e_judged" = some (some (.ref f21))) (l21:K.lookup f21=some ⟨oc21,od21,.func (PySem.W.fnOf "_law_e_judged" "_law_e_judged" (J0 Y6) (Qv Y6) (Qa Y6) .none kV21 dc21 pm21 an21 cd21 ct21),sl21⟩) (c21:PySem.W.codeIn K cd21 "_law_e_judged" = true) (k21:PySem.W.keepIn K (.ref f21)=true)
  (a22:PySem.W.nsIn K aQ "_law_e_sums" = some (some (.ref f22))) (l22:K.lookup f22=some ⟨oc22,od22,.func (PySem.W.fnOf "_law_e_sums" "_law_e_sums" (J0 W6) (Qv W6) (Qa W6) .none kV22 dc22 pm22 an22 cd22 ct22),sl22⟩) (c22:PySem.W.codeIn K cd22 "_law_e_sums" = true) (k22:PySem.W.keepIn K (.ref f22)=true)
  (a23:PySem.W.nsIn K aQ "_law_e_some_moves" = some (some (.ref f23))) (l23:K.lookup f23=some ⟨oc23,od23,.func (PySem.W.fnOf "_law_e_some_moves" "_law_e_some_moves" (J0 Jy) (Qv Jy) (Qa Jy) .none kV23 dc23 pm23 an23 cd23 ct23),sl23⟩) (c23:PySem.W.codeIn K cd23 "_law_e_some_moves" = true) (k23:PySem.W.keepIn K (.ref f23)=true)
  (a24:PySem.W.nsIn K aQ "_law_e_bent_moves" = some (some (.ref f24))) (l24:K.lookup f24=some ⟨oc24,od24,.func (PySem.W.fnOf "_law_e_bent_moves" "_law_e_bent_moves" (J0 Jz) (Qv Jz) (Qa Jz) .none kV24 dc24 pm24 an24 cd24 ct24),sl24⟩) (c24:PySem.W.codeIn K cd24 "_law_e_bent_moves" = true) (k24:PySem.W.keepIn K (.ref f24)=true)
  (a25:PySem.W.nsIn K aQ "_law_e_relay" = some (some (.ref f25))) (l25:K.lookup f25=some ⟨oc25,od25,.func (PySem.W.fnOf "_law_e_relay" "_law_e_relay" (J0 Yq) (Qv Yq) (Qa Yq) .none kV25 dc25 pm25 an25 cd25 ct25),sl25⟩) (c25:PySem.W.codeIn K cd25 "_law_e_relay" = true) (k25:PySem.W.keepIn K (.ref f25)=true)
  (a26:PySem.W.nsIn K aQ "_law_e_there" = some (some (.ref f26))) (l26:K.lookup f26=some ⟨oc26,od26,.func (PySem.W.fnOf "_law_e_there" "_law_e_there" (J0 Yp) (Qv Yp) (Qa Yp) .none kV26 dc26 pm26 an26 cd26 ct26),sl26⟩) (c26:PySem.W.codeIn K cd26 "_law_e_there" = true) (k26:PySem.W.keepIn K (.ref f26)=true)
  (a27:PySem.W.nsIn K aQ "law" = some (some (.ref f27))) (l27:K.lookup f27=some ⟨oc27,od27,.func (PySem.W.fnOf "law" "law" (J0 ym) (Qv ym) (Qa ym) .none kV27 dc27 pm27 an27 cd27 ct27),sl27⟩) (c27:PySem.W.codeIn K cd27 "law" = true) (k27:PySem.W.keepIn K (.ref f27)=true)
  (z_all:PySem.W.nsIn K aQ "all" = some none)
  (z_any:PySem.W.nsIn K aQ "any" = some none)
  (z_bool:PySem.W.nsIn K aQ "bool" = some none)
  (z_dict:PySem.W.nsIn K aQ "dict" = some none)
  (z_enumerate:PySem.W.nsIn K aQ "enumerate" = some none)
  (z_int:PySem.W.nsIn K aQ "int" = some none)
  (z_isinstance:PySem.W.nsIn K aQ "isinstance" = some none)
  (z_len:PySem.W.nsIn K aQ "len" = some none)
  (z_list:PySem.W.nsIn K aQ "list" = some none)
  (z_max:PySem.W.nsIn K aQ "max" = some none)
  (z_min:PySem.W.nsIn K aQ "min" = some none)
  (z_range:PySem.W.nsIn K aQ "range" = some none)
  (z_set:PySem.W.nsIn K aQ "set" = some none)
  (z_sorted:PySem.W.nsIn K aQ "sorted" = some none)
  (z_sum:PySem.W.nsIn K aQ "sum" = some none)
  (z_tuple:PySem.W.nsIn K aQ "tuple" = some none)
  (z_zip:PySem.W.nsIn K aQ "zip" = some none)
  (v_MOST_HOUSES:PySem.W.nsIn K aQ "MOST_HOUSES" = some (some (.int 8 t_MOST_HOUSES)))
  (v_MOST_ROUNDS:PySem.W.nsIn K aQ "MOST_ROUNDS" = some (some (.int 40 t_MOST_ROUNDS)))
  (hL:noL K=true) :
  ∃ fd:aR,(∀ (s:aC) (v:aA),BindsTo s fd ⟨[v],[]⟩ [("script",v)])/\∀ base:Heap,K.In base->base.Ns aQ mg->FnOk l.prog w K mg base (CXD l.prog w) 8 fa fd ["script"] (Q53 K):=by
 have e:=hfa.symm.trans (PySem.W.mg_of X G a27);cases e;have T:Txt mg:=⟨PySem.W.mg_none_of X G z_all,PySem.W.mg_none_of X G z_any,PySem.W.mg_none_of X G z_bool,PySem.W.mg_none_of X G z_dict,PySem.W.mg_none_of X G z_enumerate,PySem.W.mg_none_of X G z_int,PySem.W.mg_none_of X G z_isinstance,PySem.W.mg_none_of X G z_len,PySem.W.mg_none_of X G z_list,PySem.W.mg_none_of X G z_max,PySem.W.mg_none_of X G z_min,PySem.W.mg_none_of X G z_range,PySem.W.mg_none_of X G z_set,PySem.W.mg_none_of X G z_sorted,PySem.W.mg_none_of X G z_sum,PySem.W.mg_none_of X G z_tuple,PySem.W.mg_none_of X G z_zip,⟨_,PySem.W.mg_of X G v_MOST_HOUSES⟩,⟨_,PySem.W.mg_of X G v_MOST_ROUNDS⟩⟩;have A1:=Ze (st:=U8) (ps:=["thing"]) X G a1 l1 c1 k1 fun _ _ _ _ _ _ us hl=>match us,hl with | [_],_=>rfl
 have A2:=Ze (st:=Wn) (ps:=["thing", "least", "most"]) X G a2 l2 c2 k2 fun _ _ _ _ _ _ us hl=>match us,hl with | [_,_,_],_=>rfl
 have A3:=Ze (st:=Vh) (ps:=["things"]) X G a3 l3 c3 k3 fun _ _ _ _ _ _ us hl=>match us,hl with | [_],_=>rfl
 have A4:=Ze (st:=X6) (ps:=["n", "thing"]) X G a4 l4 c4 k4 fun _ _ _ _ _ _ us hl=>match us,hl with | [_,_],_=>rfl
 have A5:=Ze (st:=Jg) (ps:=["n", "thing"]) X G a5 l5 c5 k5 fun _ _ _ _ _ _ us hl=>match us,hl with | [_,_],_=>rfl
 have A6:=Ze (st:=Vi) (ps:=["n", "thing"]) X G a6 l6 c6 k6 fun _ _ _ _ _ _ us hl=>match us,hl with | [_,_],_=>rfl
 have A7:=Ze (st:=Wm) (ps:=["n", "roads", "house"]) X G a7 l7 c7 k7 fun _ _ _ _ _ _ us hl=>match us,hl with | [_,_,_],_=>rfl
 have A8:=Ze (st:=U9) (ps:=["roads", "house", "moment"]) X G a8 l8 c8 k8 fun _ _ _ _ _ _ us hl=>match us,hl with | [_,_,_],_=>rfl
 have A9:=Ze (st:=Vg) (ps:=["found", "house"]) X G a9 l9 c9 k9 fun _ _ _ _ _ _ us hl=>match us,hl with | [_,_],_=>rfl
 have A10:=Ze (st:=Y5) (ps:=["n", "roads", "house"]) X G a10 l10 c10 k10 fun _ _ _ _ _ _ us hl=>match us,hl with | [_,_,_],_=>rfl
 have A11:=Ze (st:=Yn) (ps:=["has", "moves"]) X G a11 l11 c11 k11 fun _ _ _ _ _ _ us hl=>match us,hl with | [_,_],_=>rfl
 have A12:=Ze (st:=jr) (ps:=["moment", "last"]) X G a12 l12 c12 k12 fun _ _ _ _ _ _ us hl=>match us,hl with | [_,_],_=>rfl
 have A13:=Ze (st:=Ym) (ps:=["roads", "asks", "moment", "move"]) X G a13 l13 c13 k13 fun _ _ _ _ _ _ us hl=>match us,hl with | [_,_,_,_],_=>rfl
 have A14:=Ze (st:=Ka) (ps:=["rights", "moves", "moment"]) X G a14 l14 c14 k14 fun _ _ _ _ _ _ us hl=>match us,hl with | [_,_,_],_=>rfl
 have A15:=Ze (st:=X7) (ps:=["rights", "roads", "house", "amount", "moment", "moves"]) X G a15 l15 c15 k15 fun _ _ _ _ _ _ us hl=>match us,hl with | [_,_,_,_,_,_],_=>rfl
 have A16:=Ze (st:=Zu) (ps:=["cell", "place"]) X G a16 l16 c16 k16 fun _ _ _ _ _ _ us hl=>match us,hl with | [_,_],_=>rfl
 have A17:=Ze (st:=Ys) (ps:=["tape", "many"]) X G a17 l17 c17 k17 fun _ _ _ _ _ _ us hl=>match us,hl with | [_,_],_=>rfl
 have A18:=Ze (st:=Jh) (ps:=["tape", "n", "most"]) X G a18 l18 c18 k18 fun _ _ _ _ _ _ us hl=>match us,hl with | [_,_,_],_=>rfl
 have A19:=Ze (st:=Yr) (ps:=["roads", "start", "moment", "end"]) X G a19 l19 c19 k19 fun _ _ _ _ _ _ us hl=>match us,hl with | [_,_,_,_],_=>rfl
 have A20:=Ze (st:=Zv) (ps:=["n", "roads", "house"]) X G a20 l20 c20 k20 fun _ _ _ _ _ _ us hl=>match us,hl with | [_,_,_],_=>rfl
 have A21:=Ze (st:=Y6) (ps:=["sums", "roads", "moments", "house", "amount", "moment", "moves"]) X G a21 l21 c21 k21 fun _ _ _ _ _ _ us hl=>match us,hl with | [_,_,_,_,_,_,_],_=>rfl
 have A22:=Ze (st:=W6) (ps:=["tape", "n"]) X G a22 l22 c22 k22 fun _ _ _ _ _ _ us hl=>match us,hl with | [_,_],_=>rfl
 have A23:=Ze (st:=Jy) (ps:=["tape", "sums", "roads", "moments"]) X G a23 l23 c23 k23 fun _ _ _ _ _ _ us hl=>match us,hl with | [_,_,_,_],_=>rfl
 have A24:=Ze (st:=Jz) (ps:=["tape", "n", "moves"]) X G a24 l24 c24 k24 fun _ _ _ _ _ _ us hl=>match us,hl with | [_,_,_],_=>rfl
 have A25:=Ze (st:=Yq) (ps:=["roads", "sums"]) X G a25 l25 c25 k25 fun _ _ _ _ _ _ us hl=>match us,hl with | [_,_],_=>rfl
 have A26:=Ze (st:=Yp) (ps:=["sums", "roads", "moments", "house", "moment", "moves"]) X G a26 l26 c26 k26 fun _ _ _ _ _ _ us hl=>match us,hl with | [_,_,_,_,_,_],_=>rfl
 have A27:=Ze (st:=ym) (ps:=["script"]) X G a27 l27 c27 k27 fun _ _ _ _ _ _ us hl=>match us,hl with | [_],_=>rfl
 refine ⟨PySem.W.fnOf "law" "law" (J0 ym) (Qv ym) (Qa ym) .none kV27 dc27 pm27 an27 cd27 ct27,fun s v=>.of_eq rfl,fun base kb nb=>?_⟩;have D_is_whole:=A1.def (P:=l.prog) (w:=w) (base:=base) rfl (Q6z A1.F T   );have D_is_between:=A2.def (P:=l.prog) (w:=w) (base:=base) rfl (Q3n A2.F T   D_is_whole);have D_is_rising:=A3.def (P:=l.prog) (w:=w) (base:=base) rfl (Q5e A3.F T   );have D_is_road:=A4.def (P:=l.prog) (w:=w) (base:=base) rfl (Q8x A4.F T   D_is_between);have D_are_roads_of_round:=A5.def (P:=l.prog) (w:=w) (base:=base) rfl (qk A5.F T   D_is_road D_is_rising);have D_are_roads:=A6.def (P:=l.prog) (w:=w) (base:=base) rfl (Q5f A6.F T   D_is_between D_are_roads_of_round);have D_need_roads:=A7.def (P:=l.prog) (w:=w) (base:=base) rfl (Q3m A7.F T   D_are_roads D_is_between);have D_arrivals:=A8.def (P:=l.prog) (w:=w) (base:=base) rfl (Q70 A8.F T   );have D_moment_of:=A9.def (P:=l.prog) (w:=w) (base:=base) rfl (Q5d A9.F T   )
 have D_asked_moments:=A10.def (P:=l.prog) (w:=w) (base:=base) rfl (Q04 A10.F T   D_arrivals D_moment_of);have D_behind_round:=A11.def (P:=l.prog) (w:=w) (base:=base) rfl (Q0u A11.F T   );have D_is_by:=A12.def (P:=l.prog) (w:=w) (base:=base) rfl (Qe7 A12.F T   );have D_may_be_moved:=A13.def (P:=l.prog) (w:=w) (base:=base) rfl (Q0t A13.F T   D_is_by);have D_has_at:=A14.def (P:=l.prog) (w:=w) (base:=base) rfl (Qb6 A14.F T   D_behind_round);have D_gathers:=A15.def (P:=l.prog) (w:=w) (base:=base) rfl (Q8y A15.F T   D_need_roads D_asked_moments D_may_be_moved D_has_at);have D__law_e_stirred:=A16.def (P:=l.prog) (w:=w) (base:=base) rfl (yt A16.F T   );have D__law_e_digit:=A17.def (P:=l.prog) (w:=w) (base:=base) rfl (Q0y A17.F T   D__law_e_stirred);have D__law_e_drawn_roads:=A18.def (P:=l.prog) (w:=w) (base:=base) rfl (qm A18.F T   D__law_e_digit);have D__law_e_first:=A19.def (P:=l.prog) (w:=w) (base:=base) rfl (Q0x A19.F T   )
 have D__law_e_moments:=A20.def (P:=l.prog) (w:=w) (base:=base) rfl (yu A20.F T   D__law_e_first);have D__law_e_judged:=A21.def (P:=l.prog) (w:=w) (base:=base) rfl (Q05 A21.F T   );have D__law_e_sums:=A22.def (P:=l.prog) (w:=w) (base:=base) rfl (Q2j A22.F T   D__law_e_digit);have D__law_e_some_moves:=A23.def (P:=l.prog) (w:=w) (base:=base) rfl (j6 A23.F T   D__law_e_digit);have D__law_e_bent_moves:=A24.def (P:=l.prog) (w:=w) (base:=base) rfl (j7 A24.F T   D__law_e_digit);have D__law_e_relay:=A25.def (P:=l.prog) (w:=w) (base:=base) rfl (Q0w A25.F T   );have D__law_e_there:=A26.def (P:=l.prog) (w:=w) (base:=base) rfl (Q0v A26.F T   );exact Qhq hL (Qjw A27.F T   D__law_e_digit D__law_e_drawn_roads D__law_e_sums D__law_e_moments D__law_e_some_moves D__law_e_there D__law_e_relay D__law_e_bent_moves D_gathers D__law_e_judged) Qhr
end Lw
theorem PySem.W.Fast.tw18213342419689597396 : True := trivial
theorem PySem.W.Fast.tw4090023752120921426 : True := trivial
theorem PySem.W.Fast.tw3517758101524778297 : True := trivial
theorem PySem.W.Fast.tw8749789579120055360 : True := trivial
theorem PySem.W.Fast.tw11755631651128705720 : True := trivial
theorem PySem.W.Fast.tw15768359284260378613 : True := trivial
theorem PySem.W.Fast.tw3960082610439415048 : True := trivial
theorem PySem.W.Fast.tw7032463472296895041 : True := trivial
theorem PySem.W.Fast.tw11712750663074986665 : True := trivial
theorem PySem.W.Fast.te17549249028437077975 : True := trivial
open PySem PySem.W PyProof.Rows
set_option maxRecDepth 100000 in
set_option maxHeartbeats 0 in
theorem PySem.Challenge.cw_lendwharf_k42_moves_looked_at_holds : PySem.Challenge.rw_lendwharf_k42_moves_looked_at.Holds := by
 w_on; o_law; k_head; (case hw=>w_witness2)
 k_fill
 refine Sm.walkS (l:=PySem.Challenge.rw_lendwharf_k42_moves_looked_at) (k:=8) rfl ⟨rfl,by decide,by decide⟩ rfl (fun w h Y=>PySem.W.kIn_of Y) ?F
 case F=>
  intro w mg fa h KX G hmg;refine' Lw.all_mk KX G hmg ?a1 ?l1 ?c1 ?k1 ?a2 ?l2 ?c2 ?k2 ?a3 ?l3 ?c3 ?k3 ?a4 ?l4 ?c4 ?k4 ?a5 ?l5 ?c5 ?k5 ?a6 ?l6 ?c6 ?k6 ?a7 ?l7 ?c7 ?k7 ?a8 ?l8 ?c8 ?k8 ?a9 ?l9 ?c9 ?k9 ?a10 ?l10 ?c10 ?k10 ?a11 ?l11 ?c11 ?k11 ?a12 ?l12 ?c12 ?k12 ?a13 ?l13 ?c13 ?k13 ?a14 ?l14 ?c14 ?k14 ?a15 ?l15 ?c15 ?k15 ?a16 ?l16 ?c16 ?k16 ?a17 ?l17 ?c17 ?k17 ?a18 ?l18 ?c18 ?k18 ?a19 ?l19 ?c19 ?k19 ?a20 ?l20 ?c20 ?k20 ?a21 ?l21 ?c21 ?k21 ?a22 ?l22 ?c22 ?k22 ?a23 ?l23 ?c23 ?k23 ?a24 ?l24 ?c24 ?k24 ?a25 ?l25 ?c25 ?k25 ?a26 ?l26 ?c26 ?k26 ?a27 ?l27 ?c27 ?k27 ?z_all ?z_any ?z_bool ?z_dict ?z_enumerate ?z_int ?z_isinstance ?z_len ?z_list ?z_max ?z_min ?z_range ?z_set ?z_sorted ?z_sum ?z_tuple ?z_zip ?v_MOST_HOUSES ?v_MOST_ROUNDS ?hL
  (case a1=>k_is)
  (case l1=>k_is)
  (case c1=>k_is)
  (case k1=>k_is)
  (case a2=>k_is)
  (case l2=>k_is)
  (case c2=>k_is)
  (case k2=>k_is)
  (case a3=>k_is)
  (case l3=>k_is)
  (case c3=>k_is)
  (case k3=>k_is)
  (case a4=>k_is)
  (case l4=>k_is)
  (case c4=>k_is)
  (case k4=>k_is)
  (case a5=>k_is)
  (case l5=>k_is)
  (case c5=>k_is)
  (case k5=>k_is)
  (case a6=>k_is)
  (case l6=>k_is)
  (case c6=>k_is)
  (case k6=>k_is)
  (case a7=>k_is)
  (case l7=>k_is)
  (case c7=>k_is)
  (case k7=>k_is)
  (case a8=>k_is)
  (case l8=>k_is)
  (case c8=>k_is)
  (case k8=>k_is)
  (case a9=>k_is)
  (case l9=>k_is)
  (case c9=>k_is)
  (case k9=>k_is)
  (case a10=>k_is)
  (case l10=>k_is)
  (case c10=>k_is)
  (case k10=>k_is)
  (case a11=>k_is)
  (case l11=>k_is)
  (case c11=>k_is)
  (case k11=>k_is)
  (case a12=>k_is)
  (case l12=>k_is)
  (case c12=>k_is)
  (case k12=>k_is)
  (case a13=>k_is)
  (case l13=>k_is)
  (case c13=>k_is)
  (case k13=>k_is)
  (case a14=>k_is)
  (case l14=>k_is)
  (case c14=>k_is)
  (case k14=>k_is)
  (case a15=>k_is)
  (case l15=>k_is)
  (case c15=>k_is)
  (case k15=>k_is)
  (case a16=>k_is)
  (case l16=>k_is)
  (case c16=>k_is)
  (case k16=>k_is)
  (case a17=>k_is)
  (case l17=>k_is)
  (case c17=>k_is)
  (case k17=>k_is)
  (case a18=>k_is)
  (case l18=>k_is)
  (case c18=>k_is)
  (case k18=>k_is)
  (case a19=>k_is)
  (case l19=>k_is)
  (case c19=>k_is)
  (case k19=>k_is)
  (case a20=>k_is)
  (case l20=>k_is)
  (case c20=>k_is)
  (case k20=>k_is)
  (case a21=>k_is)
  (case l21=>k_is)
  (case c21=>k_is)
  (case k21=>k_is)
  (case a22=>k_is)
  (case l22=>k_is)
  (case c22=>k_is)
  (case k22=>k_is)
  (case a23=>k_is)
  (case l23=>k_is)
  (case c23=>k_is)
  (case k23=>k_is)
  (case a24=>k_is)
  (case l24=>k_is)
  (case c24=>k_is)
  (case k24=>k_is)
  (case a25=>k_is)
  (case l25=>k_is)
  (case c25=>k_is)
  (case k25=>k_is)
  (case a26=>k_is)
  (case l26=>k_is)
  (case c26=>k_is)
  (case k26=>k_is)
  (case a27=>k_is)
  (case l27=>k_is)
  (case c27=>k_is)
  (case k27=>k_is)
  (case z_all=>k_is)
  (case z_any=>k_is)
  (case z_bool=>k_is)
  (case z_dict=>k_is)
  (case z_enumerate=>k_is)
  (case z_int=>k_is)
  (case z_isinstance=>k_is)
  (case z_len=>k_is)
  (case z_list=>k_is)
  (case z_max=>k_is)
  (case z_min=>k_is)
  (case z_range=>k_is)
  (case z_set=>k_is)
  (case z_sorted=>k_is)
  (case z_sum=>k_is)
  (case z_tuple=>k_is)
  (case z_zip=>k_is)
  (case v_MOST_HOUSES=>k_is)
  (case v_MOST_ROUNDS=>k_is)
  (case hL=>rfl)
